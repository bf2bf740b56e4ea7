import PyProof.Rows.All
import Wide.All
import OpenK.AllK
import Wide.FinOn
import Lean
import PyProof.EqAt
import PyProof.EqKinds
import PyProof.TupleCall
import KE.KSortTup
import KE.KSortKey
import KE.KMinKey
import PySem.SetTable
import KE.KDictList
import PyProof.Rows.SeqMore
import PyProof.StrLawsIn
import PyProof.MeetsStr3
import PyProof.Rows.StrSplitMax
import KE.KLam
import KE.KDictLaws
import PyProof.Rows.CallKwBuiltin
import PyProof.ZipIter
import PyProof.Rows.ZipGen
import PyProof.Rows.StrWeight2
import PyProof.Rows.SetFrom
import KE.KDictSum
import KE.KTryMore
import PyProof.Rows.TopTwo
import PyProof.ExcBaseAll.ValueError
import KE.RegKIsAll
import KE.RegKTryMore
import PyProof.ExcAttrAll.ValueError
import KE.KItemsList
import KE.KPairComp
import KE.KDictOf
import PyProof.Rows.SumAny
import PySem.Challenge.RW_folk_k38_papers_shown
open Array renaming length_toList → Zjq, mem_toList_iff → Znx, getElem?_toList → Zq0, append_assoc → Zri
open Bool renaming and_eq_true → Zib, false_ne_true → Zih, eq_iff_iff → Zil, true_and → Ziy, not_eq_true' → Zje, not_eq_false' → Zjn, and_true → Zkk, or_eq_false_iff → Zkt, false_eq_true → Zlb, or_eq_true → Zle, false_or → Zmi, false_and → Zmx, not_true → Zoo, not_false → Zp5, and_false → Zp6, and_assoc → Zp7, or_false → Zs9, true_or → Zt5
open Classical renaming choose_spec → Zpy, typeDecidableEq → Zvr
open False renaming elim → Zlu
open ForInStep renaming yield → Zkq
open Iff renaming rfl → Zst
open Int renaming emod_lt_of_pos → Zjg, emod_nonneg → Zj2, toNat_natCast → Zl6, toNat_of_nonneg → Zmq, le_refl → Zof, zero_add → Zo7, add_zero → Zo8, add_mul → Zpx, ofNat → Zss, mul_nonneg → Zs7, add_assoc → Zt1, le_of_eq → Zuq, mul_one → Zu6
open List renaming getD_eq_getElem?_getD → Zhh, getElem?_eq_getElem → Zhj, length_map → Zhk, range → Zhm, getElem?_eq_some_iff → Zhn, getElem?_map → Zho, mem_singleton → Zhp, mem_of_getElem? → Zhs, mem_append_right → Zht, mem_cons_of_mem → Zhv, mem_append → Zhw, mem_cons_self → Zhx, mem_filter → Zh0, length_append → Zh1, mem_map → Zh3, map_append → Zh4, map_cons → Zh5, take_add_one → Zh8, mem_range → Zia, mem_cons → Zie, take_length → Zif, mem_append_left → Zig, size_toArray → Zii, map_map → Zim, length_take → Zin, map_congr_left → Zip, getElem?_eq_none → Zis, getElem?_append_right → Ziw, cons_lt_cons_iff → Zi1, find?_cons → Zi2, all_eq_true → Zi5, getElem?_append_left → Zi8, Nodup → Zi9, length_filter_le → Zjb, getElem?_range → Zji, append_nil → Zjj, lookup_cons → Zjk, foldl_append → Zjl, getElem_idxOf → Zjm, getElem?_set_self → Zjp, mem_map_of_mem → Zjs, length_range → Zjt, idxOf_lt_length_iff → Zju, nodup_cons → Zjz, filter_append → Zj0, length_pos_iff → Zj6, length_cons → Zkb, getElem_mem → Zkc, any_eq_true → Zkd, mem_of_mem_take → Zke, getElem?_set_ne → Zkf, filter_cons_of_pos → Zkg, filter_cons_of_neg → Zkh, all_cons → Zki, ext_getElem? → Zkl, pairwise_iff_getElem → Zkr, reverse_cons → Zku, nodup_append → Zkv, foldl_cons → Zkw, filter_nil → Zkx, filter_eq_self → Zk1, any_cons → Zk2, range_succ → Zld, lt_irrefl → Zlq, not_mem_nil → Zlr, getElem_map → Zls, getElem?_replicate → Zly, filter_congr → Zl3, mem_iff_getElem? → Zl7, map_nil → Zl8, length_singleton → Zl9, length_replicate → Zma, length_drop → Zme, filter_cons → Zmf, map_take → Zmh, map_id → Zmm, getElem_of_mem → Zmn, all_append → Zmo, zip_cons_cons → Zms, map_singleton → Zmt, drop_eq_getElem_cons → Zmw, pairwise_map → Zm7, getElem_inj → Zne, take_of_length_le → Znh, drop_eq_nil_of_le → Zni, idxOf_cons → Znp, filter_map → Znq, mem_of_mem_drop → Zny, replicate → Zn1, nodup_nil → Zn2, filter_sublist → Zn6, filterMap_cons → Zn7, map_drop → Zol, getElem?_drop → Zom, append_assoc → Zou, all_eq_false → Zov, all_nil → Zoz, nodup_range → Zo4, drop_length → Zo5, cons_append → Zo6, of_mem_zip → Zpf, not_lt → Zpg, lookup → Zph, forIn_cons → Zpi, count_cons → Zpj, nodup_iff_pairwise_ne → Zpv, getLast?_eq_getElem? → Zp4, getLast?_eq_getLast → Zqd, find?_range_eq_some → Zqe, find?_range_eq_none → Zqf, eq_of_mem_replicate → Zqg, set → Zql, length_eq_zero_iff → Zqm, not_of_lt_findIdx → Zqw, filter_eq_nil_iff → Zqx, singleton_append → Zq3, eq_nil_or_concat → Zq4, reverse_reverse → Zra, count_cons_self → Zrb, lt_of_le_of_lt → Zrg, length → Zrh, ne_nil_of_mem → Zrr, mem_filterMap → Zrs, getElem_range → Zrt, count_eq_zero → Zru, take_sublist → Zry, idxOf_append → Zrz, nil_append → Zsi, length_set → Zsj, foldr_cons → Zsk, drop_zero → Zsr, map → Zs5, lt_trans → Zs6
open List.Nodup renaming sublist → Zqh
open List.Pairwise renaming sublist → Zty, nil → Ztz, imp_of_mem → Zt0
open List.cons renaming injEq → Zoq
open MonadExcept renaming tryCatch → Znb
open Nat renaming le_refl → Zhu, lt_of_lt_of_le → Zh9, ne_of_lt → Zic, le_trans → Zik, zero_le → Zit, lt_irrefl → Zi3, not_lt_zero → Zjd, lt_trans → Zk0, lt_trichotomy → Zlk, ne_of_gt → Zmu, le_of_lt → Zmv, lt_or_ge → Znv, pow_le_pow_right → Zn0, le_succ → Zoe, lt_succ_of_lt → Zoy, min_eq_left → Zpt, le_antisymm → Zpu, sub_self → Zq9, add_le_add_right → Zrf, max_le → Zsc, min_eq_right → Zsg, lt_succ_self → Zsh, sub_zero → Zuo, le_of_eq → Zup, le_zero → Zu5
open Ne renaming symm → Zi4
open Option renaming isSome_iff_exists → Zjr, map_eq_some_iff → Zk7, getD_some → Zna, map_some → Zng, isSome_map → Zok, getD_none → Zrq, none → Zs4
open Option.some renaming inj → Zjf
open Or renaming inl → Zkz, inr → Zs3
open PUnit renaming unit → Zp3
open Prod renaming snd → Zs1, fst → Zvq
open Prod.mk renaming injEq → Zmb
open PyProof.Rows renaming callWith_type1 → Zi7, seqObj → Zlz, envOfC → Zm1, boot_list → Zm2, get?_update_seq → Zoc, step_dedup → Zog, AllBare → Zo3, boot_abs → Zqi, boot_isinstance → Zqv, IntsAre → Zqy, subscriptTail → Zrl, boot_max → Zrn, subscriptTail_builtinR → Zrw, boot_min → Zsy, boot_all → Zsz, boot_range → Ztk, Subscript_ → Ztp, callWith_builtin1 → Zun, Call_ → Zu8
open PyProof.Rows.Boot renaming zip → Zsb
open PySem renaming wpAny_bind → Zhl, Shared → Zhq, wpAny_pure → Zhz, sizeLine_eq → Zh2, Spec → Zid, wpAny → Zij, Program → Ziq, NameKind → Ziu, Builtin → Ziv, model → Zix, PassesOwn → Ziz, Around → Zi0, starEach → Zi6, wpAny_loadPart' → Zja, World → Zjv, wpAny_truthy_bool → Zjw, mem_of_lookup → Zj5, wpAny_mono → Zj8, mainGlobals → Zj9, wpAny_tryCatch → Zka, FuncData → Zkj, plainId_quiet → Zkm, sysModules → Zkn, compareOp → Zkp, PyData → Zks, wpAny_dictEntries → Zk4, codeAny_builtin → Zk5, wpAny_letGo → Zk9, wpAny_holding → Zla, Builtin → Zlg, tupleKind_room_in1 → Zlh, boot_len → Zli, Paired → Zlj, wpAny_updateSeq → Zlm, wpAny_passesOwn → Zln, tupleKind → Zlo, wpAny_seqItems → Zlv, call_meetsIn → Zl0, wpAny_setField_rec → Zl4, wpAny_Call_Name_kw → Zl5, wpAny_newObj_type → Zmg, wpAny_typeNameOfWhole_itemiter → Zmj, bootBuiltins → Zmk, behindInMarks → Zmr, wpAny_specialOf → Zmy, sliceBounds → Zmz, richCompare → Zm0, DictEntry → Zm4, bindArgs → Znd, wpAny_pyIter_list → Znj, foldedSetIterable → Znk, backTo → Znl, keywordEach → Znr, codeAny → Zns, cLine → Znt, attributeBase → Znu, wpAny_isOneOf_itemiter → Znz, wpAny_ite_split → Zn9, wpAny_execs_nil → Zoa, letOwnedTupleGo → Zob, closureFor → Zoh, binaryOp → Zoi, assignEach → Zoj, IsItemIter → Zon, wpAny_standAt → Zpa, seqItems? → Zpb, pyNext → Zpc, typeIs_int → Zpl, richCompare_gives → Zpm, builtinsNs → Zpn, Keyword → Zpw, BindsTo → Zpz, wpAny_isInstance → Zp8, wpAny_call_entry → Zp9, backToKw → Zqj, SetTable → Zqk, wpAny_of_eq → Zqn, wpAny_field → Zqo, wpAny_dictEpoch → Zqp, valueAt → Zqq, updateSeq → Zqr, swapsWith → Zqs, subscripted → Zqt, callerA → Zqu, Arguments → Zq2, recursionLimit → Zq6, evalArgs_none → Zq7, wpAny_callSpecial?_slot → Zrj, wpAny_Call_method0_late → Zrk, getItem → Zrm, call → Zro, IsItemIterOut → Zrv, wpAny_notOrdered_dict → Zr4, wpAny_isTrue_Compare1 → Zr5, codeAny_mono → Zr6, builtinLookup_eq_fast → Zr7, assign → Zr8, wpAny_newFunctionEnv → Zsd, holding → Zsl, atKey → Zsm, CmpOp → Zsv, wpAny_evalAll_cons → Zsw, cellOf → Zsx, wpAny_pyIter_enum → Zta, wpAny_evalAll_nil → Ztb, wpAny_assign_Name → Ztc, wpAny_Name → Ztd, wpAny_Call_method → Zte, typeLookup → Ztf, typeIs_str → Ztg, slot_list_getitem → Zth, entryOfKey → Zti, call_meets → Ztj, bindL → Ztl, bindC → Ztm, Walks → Ztn, wpAny_pyIter_zip → Zt6, wpAny_execs_cons → Zt7, wpAny_Dict_empty → Zt8, typeLookup_type → Zuz, spliced → Zu0, rawInt → Zu1, cellsFrom → Zu2, Result → Zu3, wpAny_Compare1 → Zu9, isSubtype_type → Zva, firstArgMember → Zvb, callType_codes → Zvc, wpAny_newList → Zvh, intBits_le_64 → Zvi, evalPart_none → Zvj, comprehension → Zvk, compEnvC → Zvl, call_list_seq → Zvm, ReadsAll → Zvn, Reads → Zvo
open PySem.Around renaming under_plainId → Zjx, frames_deeper → Zq1
open PySem.Builtin.Builtins renaming bindParams → Zky
open PySem.Builtin.Dict renaming entriesForEmpty → Zn4, updateFrom → Zow, mergeDict → Zo2, showsAll → Zo9, quietEq → Zpe, selfAndRest → Zuu, readDirectly → Zuv, pendingCount → Zuw, noArgs → Zux, merge → Zuy
open PySem.Builtin.Dict_items renaming pairFromOwner → Zm6, ownsTuple → Znf, ownedTupleIsFree → Zr0, ownedTupleFields → Zr1, newIterator → Zr2, dictOf → Zr3
open PySem.Builtin.List renaming listExtendWith → Zk3, listLengthHint → Zn8, listSameRef → Zor, listItems → Zo1, listUpdate → Zut
open PySem.Builtin.Range renaming rangeSize → Zll, small → Zpd
open PySem.Builtin.Tuple renaming tupleHashOf → Zt3, tupleCompareSizes → Zt4
open PySem.Calls renaming callWith_builtin → Zk8, spliced_cons → Zlw, spliced_nil → Zm5, evalArgs_plain → Znw, Name_function_global → Zpk
open PySem.Challenge renaming rw_folk_k38_papers_shown → Zml, pw_folk_k38_papers_shown → Zso
open PySem.Draws renaming list → Zus
open PySem.EqMixed renaming ne_str_int → Ztq, ne_str_bool → Ztr, ne_int_str → Zts, ne_bool_str → Ztt, eq_str_int → Ztu, eq_str_bool → Ztv, eq_int_str → Ztw, eq_bool_str → Ztx
open PySem.EqNone renaming ne_str_none → Zt9, ne_none_str → Zua, ne_none_none → Zub, ne_none_int → Zuc, ne_none_bool → Zud, ne_int_none → Zue, ne_bool_none → Zuf, eq_str_none → Zug, eq_none_str → Zuh, eq_none_none → Zui, eq_none_int → Zuj, eq_none_bool → Zuk, eq_int_none → Zul, eq_bool_none → Zum
open PySem.F renaming plainAttrs_list → Zir, slot_list_append → Zjc, type_list_append → Zjh, plain_min_loop → Zj3, plain_max_loop → Zj4, slot_dict_get → Zko, slot_dict_itemiterator_next → Zlp, entry_dict_get → Zlx, type_list_index → Zmc, slot_list_index → Zmd, plainAttrs_dict → Zm3, entry_min_loop → Zm8, entry_max_loop → Zm9, slot_dict_items_iter → Zot, slot_dict_items → Zpq, args_dict_get_3 → Zpr, args_dict_get_2 → Zps, type_dict_get → Zqa, slot_tuple_lt → Zqb, slot_dict_len → Zqc, plainAttrs_dict → Zsu, slot_list_pop → Zt2
open PySem.Heap renaming get?_push_of_some → Zhr, lt_size → Zhy, get?_push_size → Zh6, size_push → Zn3, SameBut → Zo0, get?_update_other → Zqz, get?_update_self → Zq5
open PySem.Heap.DictOf renaming new → Zu7
open PySem.Heap.IsSliceOf renaming new → Zs8
open PySem.Heap.SameBut renaming update → Zj1, refl → Zur
open PySem.IsL renaming update → Zvp
open PySem.NameKind renaming free → Zio, cell → Zlt
open PySem.Obj renaming mapSeq → Zj7, data_mapDictKeys → Zre
open PySem.Paired renaming length → Zp2, snoc → Zs2
open PySem.PassesOwn renaming never → Zh7
open PySem.PyData renaming eqv → Zlc, canLay0 → Zl2, eqvAll → Zn5, canLayAll0 → Zrd, depthAll → Zrx, strOk → Zsp, depth → Zsq
open PySem.SeqAt renaming list_indexAt → Zu4
open PySem.SeqAt.EqAt renaming str_str → Zvd, str_int → Zve, int_str → Zvf, int_int → Zvg
open PySem.Shared renaming TypeIs → Zse
open PySem.Str renaming ofString → Zlf
open PySem.Value renaming ref → Zjo, int → Zk6, bool → Znn, type → Zop, none → Zp0, str → Zr9, isStrOf → Zsn, isInt → Zto
open PySem.W renaming Frag → Zhi, fnOf → Zjy, keepIn → Zl1, findIn → Zmp, codeIn → Zno, methodObj → Zod, OpenLaw → Zox, cellsFrom_some → Zp1, specialIn → Zq8, instObj → Zrp, WalkO → Zsa, isFn → Zsf
open PySem.Walks renaming list → Znm
open PySem.WalksT renaming enumerateD → Zrc, zip2 → Zs0
open Sum renaming inr → Zpo, inl → Zpp
open ToString renaming toString → Znc
open True renaming intro → Zos
set_option Elab.async false
set_option linter.all false
set_option maxRecDepth 100000
set_option maxHeartbeats 8000000
set_option genSizeOf false
set_option bootstrap.genMatcherCode false
noncomputable section
namespace L2
open PySem PySem.Spec PyProof.Rows
noncomputable abbrev Key:=Sum Int Str
noncomputable def zs6 : Key->Value->Bool
 | .inl k,v=>Zto k v
 | .inr x,v=>Zsn x v
noncomputable def keyH (w : Zjv) : Key->Int
 | .inl k=>hashInt k
 | .inr x=>hashStr w x
theorem zcc : ∀ {k : Key} {v : Value},zs6 k v = true->(∃ i t,k = Zpp i/\v = Zk6 i t) \/ (∃ x t,k = Zpo x/\v = Zr9 x t)
 | .inl i,v,h=>by
  obtain ⟨t,e⟩:=Value.isInt_shape (k:=i) (v:=v) h
  exact .inl ⟨i,t,rfl,e⟩
 | .inr x,v,h=>by
  obtain ⟨t,e⟩:=Value.isStrOf_shape (x:=x) (v:=v) h
  exact .inr ⟨x,t,rfl,e⟩
theorem zwy (i : Int) (t : Tok) : zs6 (.inl i) (.int i t) = true:=by simp [zs6,Zto]
theorem zvv (x : Str) (t : Tok) : zs6 (.inr x) (.str x t) = true:=by simp [zs6,Zsn]
theorem yd2 (a b : Int) : decide ((Zpp a : Key) = Zpp b) = (a == b):=by
 by_cases e : a = b
 ·subst e; simp
 ·have h : ¬ (Zpp a : Key) = Zpp b:=fun q=>e (Sum.inl.inj q)
  rw [decide_eq_false h]
  exact (beq_eq_false_iff_ne.mpr e).symm
theorem ycu (a b : Str) : decide ((Zpo a : Key) = Zpo b) = decide (a = b):=by
 by_cases e : a = b
 ·subst e; simp
 ·have h : ¬ (Zpo a : Key) = Zpo b:=fun q=>e (Sum.inr.inj q)
  rw [decide_eq_false h,decide_eq_false e]
theorem ydh (a : Int) (b : Str) : decide ((Zpp a : Key) = Zpo b) = false:=decide_eq_false (fun q=>nomatch q)
theorem yd5 (a : Str) (b : Int) : decide ((Zpo a : Key) = Zpp b) = false:=decide_eq_false (fun q=>nomatch q)
noncomputable def zbd (prog : Ziq) (w : Zjv) : PySem.KeyKind prog w Key where
 is:=zs6
 hash:=keyH w
 inj:=fun v a b ha hb=>by
  rcases zcc ha with ⟨i,t,rfl,rfl⟩ | ⟨x,t,rfl,rfl⟩
  ·rcases zcc hb with ⟨j,u,rfl,e⟩ | ⟨y,u,rfl,e⟩
   ·injection e with e1 _; rw [e1]
   ·exact nomatch e
  ·rcases zcc hb with ⟨j,u,rfl,e⟩ | ⟨y,u,rfl,e⟩
   ·exact nomatch e
   ·injection e with e1 _; rw [e1]
 byValue:=fun k v h=>by
  rcases zcc h with ⟨i,t,rfl,rfl⟩ | ⟨x,t,rfl,rfl⟩ <;> rfl
 pyHash:=fun hv h=>by
  rcases zcc hv with ⟨i,t,rfl,rfl⟩ | ⟨x,t,rfl,rfl⟩
  ·exact wpAny_pyHash_int h
  ·exact wpAny_pyHash_str h
 eqBool:=fun hu hv h=>by
  rcases zcc hu with ⟨i,t,rfl,rfl⟩ | ⟨x,t,rfl,rfl⟩
  ·rcases zcc hv with ⟨j,u,rfl,rfl⟩ | ⟨y,u,rfl,rfl⟩
   ·rw [yd2] at h; exact wpAny_eqBool_int h
   ·rw [ydh] at h; exact Zvf i t y u _ _ _ _ h
  ·rcases zcc hv with ⟨j,u,rfl,rfl⟩ | ⟨y,u,rfl,rfl⟩
   ·rw [yd5] at h; exact Zve x t j u _ _ _ _ h
   ·rw [ycu] at h; exact wpAny_eqBool_str h
 «strs»:=fun k x t v h=>by
  rcases zcc h with ⟨i,u,rfl,e⟩ | ⟨y,u,rfl,e⟩
  ·exact nomatch e
  ·injection e with e1 _
   subst e1
   cases v <;> rfl
theorem zpz (prog : Ziq) (w : Zjv) (i : Int) (t : Tok) : (zbd prog w).is (.inl i) (.int i t) = true:=zwy i t
theorem zqq (prog : Ziq) (w : Zjv) (x : Str) (t : Tok) : (zbd prog w).is (.inr x) (.str x t) = true:=zvv x t
inductive V where
 | non | bl (b : Bool) | int (i : Int) | str (x : Str) | byt (b : Array UInt8) | flt (b : UInt64) | ref (a : Addr) | ty (n : String)
 deriving DecidableEq
noncomputable def RelV : V->Value->Prop
 | .non,u=>u = Zp0
 | .bl b,u=>u = Znn b
 | .int i,u=>∃ t,u = Zk6 i t
 | .str x,u=>∃ t,u = Zr9 x t
 | .byt b,u=>∃ t,u = Value.bytes b t
 | .flt b,u=>∃ t,u = Value.float b t
 | .ref a,u=>u = Zjo a
 | .ty n,u=>u = Zop n
noncomputable abbrev Vals : List V->List Value->Prop:=Zlj RelV
theorem Vals.length {xs : List V} {us : List Value} (r : Vals xs us) : xs.length = us.length:=Zp2 r
theorem Vals.get : ∀ {xs : List V} {us : List Value} {i : Nat} {x : V},Vals xs us->xs[i]? = some x -> ∃ u,us[i]? = some u/\RelV x u
 | _,_,_,_,.nil,e=>by simp at e
 | _,_,0,_,.cons r _,e=>by simp at e; subst e; exact ⟨_,rfl,r⟩
 | _,_,i + 1,x,.cons _ t,e=>by
  obtain ⟨u,h1,h2⟩:=Vals.get (i:=i) (x:=x) t (by simpa using e)
  exact ⟨u,by simpa using h1,h2⟩
theorem Vals.append : ∀ {xs ys : List V} {us ws : List Value},Vals xs us->Vals ys ws->Vals (xs++ys) (us++ws)
 | _,_,_,_,.nil,s=>s
 | _,_,_,_,.cons r t,s=>.cons r (Vals.append t s)
theorem Vals.take : ∀ {xs : List V} {us : List Value} (n : Nat),Vals xs us->Vals (xs.take n) (us.take n)
 | _,_,0,_=>.nil
 | _,_,_ + 1,.nil=>.nil
 | _,_,n + 1,.cons r t=>.cons r (Vals.take n t)
theorem Vals.drop : ∀ {xs : List V} {us : List Value} (n : Nat),Vals xs us->Vals (xs.drop n) (us.drop n)
 | _,_,0,r=>r
 | _,_,_ + 1,.nil=>.nil
 | _,_,n + 1,.cons _ t=>Vals.drop n t
noncomputable def RelO : Option V->Option Value->Prop
 | some v,some u=>RelV v u
 | none,none=>True
 | _,_=>False
noncomputable def KV {κ : Type} : List (κ × V)->List (κ × Value)->Prop:=Zlj fun (p : κ × V) (q : κ × Value)=>p.1 = q.1/\RelV p.2 q.2
noncomputable def kV : Key->V
 | .inl i=>.int i
 | .inr x=>.str x
inductive HO where
 /-- a list -/
 | lst (xs : List V)
 /-- a tuple (never changes) -/
 | tup (xs : List V)
 /-- a dict whose keys are ints and texts; one whose keys are tuples of ints and texts (the empty one is both) -/
 | dK (kvs : List (Key × V)) | dT (kvs : List (List Key × V))
 /-- a set of ints: its members,its size -/
 | set (S : Int->Bool) (n : Nat)
 /-- an instance of the class at C,its dict at dx,its attributes -/
 | ins (C dx : Addr) (fs : List (Str × V))
 /-- the dict of the instance at x -/
 | own (x : Addr)
 /-- the dict of an exception -/
 | xd (fs : List (Str × V))
 /-- a bound method,f of x -/
 | met (f x : Addr)
 /-- a range object lo,lo + 1,.. below hi -/
 | rng (lo hi : Int)
 /-- a thing that is known to the object (the script; a dict while a loop walks it): read,never written while it is so -/
 | frz (o : Obj) (u : HO)
 /-- a code object's table -/
 | tbl (ps : Array Value)
 /-- any other thing,by what is true of its one object (a def of one's own: SetO a S n:=HO.ext fun h=>..) -/
 | ext (φ : Heap->Prop)
 | tab (ps : Array Value) (pos : Pos) (q : Str)
noncomputable abbrev Hp:=Addr->Option HO
noncomputable def upd (H : Hp) (a : Addr) (o : HO) : Hp:=fun b=>if b = a then some o else H b
theorem zap {H : Hp} {a : Addr} {o : HO} : upd H a o a = some o:=by unfold upd; rw [if_pos rfl]
theorem zav {H : Hp} {a b : Addr} {o : HO} (h : b≠a) : upd H a o b = H b:=by unfold upd; rw [if_neg h]
theorem yes {H : Hp} {a b : Addr} {o u : HO} (h : H a = some o) (h' : H b = some u) (d : o≠u) : a≠b:=by
 intro e; subst e; rw [h] at h'; exact d (Zjf h')
theorem za4 {H : Hp} {a b : Addr} {o : HO} (h : H a = some o) (h' : H b = none) : a≠b:=by
 intro e; subst e; rw [h] at h'; cases h'
section
variable (P : Ziq) (w : Zjv)
noncomputable def zdx (H : Hp) (h : Heap) (a : Addr) : HO->Prop
 | .lst xs=>xs.length <= sizeLine /\ ∃ (its : List Value) (n : Nat),Vals xs its/\h.get? a = some { cls:=.type "list", data:=.seq its.toArray n }
 | .tup xs=>xs.length <= sizeLine /\ ∃ its : List Value,Vals xs its/\IsTup h a its.toArray
 | .dK kvs=>kvs.length <= sizeLine/\(a == Zkn) = false /\ ∃ vs,KV kvs vs/\h.DictOf (zbd P w) a vs
 | .dT kvs=>kvs.length <= sizeLine/\(a == Zkn) = false /\ ∃ xs : List (List Key × Addr × Value),
   Zlj (fun (p : List Key × V) (q : List Key × Addr × Value)=>p.1 = q.1/\H q.2.1 = some (.tup (p.1.map kV))/\RelV p.2 q.2.2) kvs xs /\
   ∃ o es ep,h.get? a = some o/\o.ExactDict/\o.data = .dict es ep/\es.toList = xs.map (Zti (Zlo (zbd P w)))/\(xs.map (·.1)).Nodup
 | .set S n=>h.SetOf (intKind P w) a S n
 | .ins C dx fs=>H dx = some (.own a)/\fs.length <= 1000/\dx≠a/\h.get? a = some (Zrp C dx) /\
   ∃ mA,h.Ns1 dx mA/\(∀ f,RelO (fs.lookup f) (mA f))/\PySem.Within mA (fs.map (·.1))
 | .own _=>∃ o,h.get? a = some o
 | .xd fs=>∃ mA,h.Ns1 a mA /\ ∀ f,RelO (fs.lookup f) (mA f)
 | .rng lo hi=>∃ t u v,h.get? a = some { cls:=.type "range", data:=.fields #[.int lo t,.int hi u,.int 1 v] }
 | .frz o u=>h.get? a = some o/\zdx H h a u
 | .tbl ps=>h.get? a = some { cls:=.none,data:=.fields ps }
 | .met f x=>h.get? a = some (Zod (.ref f) (.ref x))
 | .ext φ=>φ h/\(∃ o,h.get? a = some o) /\ ∀ h1 h2 : Heap,φ h1->(∀ o,h1.get? a = some o->h2.get? a = some o)->φ h2
 | .tab ps pos q=>∃ more : Array Value,h.get? a = some { cls:=.none,data:=.fields (ps++more) }/\TriplesOk (ps++more).toList/\(codeAmong pos (ps++more).toList = none \/ ∃ c' oc vs t,codeAmong pos (ps++more).toList = some (.ref c')/\H c' = some (.frz oc (.own a))/\oc.data = .fields vs/\vs[1]? = some (.str q t))
noncomputable def HOk (H : Hp) (h : Heap) : Prop:=∀ a o,H a = some o->zdx P w H h a o
end
section
variable {P : Ziq} {w : Zjv} {H H' : Hp} {h h' : Heap} {a : Addr} {o : HO}
theorem zdx.lt (x : zdx P w H h a o) : a < h.objs.size:=by
 cases o with
 | lst xs=>obtain ⟨_,_,_,_,e⟩:=x; exact Zhy e
 | tup xs=>obtain ⟨_,_,_,p⟩:=x; exact p.lt
 | dK kvs=>obtain ⟨_,_,_,_,o,_,_,e,_⟩:=x; exact Zhy e
 | dT kvs=>obtain ⟨_,_,_,_,o,_,_,e,_⟩:=x; exact Zhy e
 | set S n=>obtain ⟨o,_,_,_,e,_⟩:=x; exact Zhy e
 | ins C dx fs=>obtain ⟨_,_,_,e,_⟩:=x; exact Zhy e
 | own y=>obtain ⟨_,e⟩:=x; exact Zhy e
 | xd fs=>obtain ⟨_,⟨_,_,_,e,_⟩,_⟩:=x; exact Zhy e
 | rng lo hi=>obtain ⟨_,_,_,e⟩:=x; exact Zhy e
 | frz ob u=>obtain ⟨e,_⟩:=x; exact Zhy e
 | tbl ps=>exact Zhy (show h.get? a = some _ from x)
 | met f y=>exact Zhy (show h.get? a = some _ from x)
 | ext φ=>obtain ⟨_,⟨_,e⟩,_⟩:=x; exact Zhy e
 | tab ps pos q=>obtain ⟨_,e,_⟩:=x; exact Zhy e
theorem Paired.mapP {α β : Type} {F G : α->β->Prop} : ∀ {l₁ : List α} {l₂ : List β},Zlj F l₁ l₂->(∀ a b,F a b->G a b)->Zlj G l₁ l₂
 | _,_,.nil,_=>.nil
 | _,_,.cons r t,f=>.cons (f _ _ r) (Paired.mapP t f)
theorem zdx.stay (x : zdx P w H h a o) (k : ∀ b u,(b = a \/ H b = some (.own a))->h.get? b = some u->h'.get? b = some u)
  (ho : ∀ b,H b = some (.own a)->H' b = some (.own a)) (ht : ∀ b xs,H b = some (.tup xs)->H' b = some (.tup xs))
  (hf : ∀ b o u,H b = some (.frz o u)->H' b = some (.frz o u):=by first | exact fun _ _ _ q=>q | exact fun c _ _ q=>(zav (za4 q (by assumption))).trans q | exact fun c _ _ r=>(zav (fun z=>by rw [<- z,r] at mu; exact mu)).trans r) : zdx P w H' h' a o:=by
 induction o with
 | lst xs=>obtain ⟨z,its,n,r,e⟩:=x; exact ⟨z,its,n,r,k _ _ (.inl rfl) e⟩
 | tup xs=>obtain ⟨z,its,r,ob,e,c⟩:=x; exact ⟨z,its,r,ob,k _ _ (.inl rfl) e,c⟩
 | dK kvs=>obtain ⟨z,y,vs,r,ob,es,ep,e,c⟩:=x; exact ⟨z,y,vs,r,ob,es,ep,k _ _ (.inl rfl) e,c⟩
 | dT kvs =>
  obtain ⟨z,y,xs,r,ob,es,ep,e,c⟩:=x
  exact ⟨z,y,xs,Paired.mapP r fun p q z=>⟨z.1,ht _ _ z.2.1,z.2.2⟩,ob,es,ep,k _ _ (.inl rfl) e,c⟩
 | set S n=>obtain ⟨ob,es,ep,t,e,c⟩:=x; exact ⟨ob,es,ep,t,k _ _ (.inl rfl) e,c⟩
 | ins C dx fs =>
  obtain ⟨d,z,ne,e,mA,⟨od,es,ep,e2,c⟩,r⟩:=x
  exact ⟨ho _ d,z,ne,k _ _ (.inl rfl) e,mA,⟨od,es,ep,k _ _ (.inr d) e2,c⟩,r⟩
 | own y=>obtain ⟨ob,e⟩:=x; exact ⟨ob,k _ _ (.inl rfl) e⟩
 | xd fs=>obtain ⟨mA,⟨od,es,ep,e,c⟩,r⟩:=x; exact ⟨mA,⟨od,es,ep,k _ _ (.inl rfl) e,c⟩,r⟩
 | rng lo hi=>obtain ⟨t,u,v,e⟩:=x; exact ⟨t,u,v,k _ _ (.inl rfl) e⟩
 | frz ob u ih=>obtain ⟨e,q⟩:=x; exact ⟨k _ _ (.inl rfl) e,ih q⟩
 | tbl ps =>
  have e : h.get? a = some { cls:=.none,data:=.fields ps }:=x
  show h'.get? a = some { cls:=.none,data:=.fields ps }
  exact k a _ (.inl rfl) e
 | met f y =>
  have e : h.get? a = some (Zod (.ref f) (.ref y)):=x
  show h'.get? a = some (Zod (.ref f) (.ref y))
  exact k a _ (.inl rfl) e
 | ext φ=>obtain ⟨p,⟨o,e⟩,st⟩:=x; exact ⟨st _ _ p fun o q=>k _ _ (.inl rfl) q,⟨o,k _ _ (.inl rfl) e⟩,st⟩
 | tab ps pos q =>
  obtain ⟨m,e,t,r⟩:=x
  exact ⟨m,k _ _ (.inl rfl) e,t,r.imp id fun ⟨c',oc,vs,t2,e1,e2,q1,q2⟩=>⟨c',oc,vs,t2,e1,hf _ _ _ e2,q1,q2⟩⟩
theorem HOk.lt (x : HOk P w H h) (e : H a = some o) : a < h.objs.size:=(x a o e).lt
theorem HOk.fresh (x : HOk P w H h) (e : h.objs.size <= a) : H a = none:=by
 cases q : H a with
 | none=>rfl
 | some u=>exact absurd (Zh9 (x.lt q) e) (Zi3 _)
theorem HOk.kept (x : HOk P w H h) (k : ∀ b u,h.get? b = some u->h'.get? b = some u) : HOk P w H h':=fun a o e =>
 (x a o e).stay (fun b u _ q=>k b u q) (fun _ q=>q) fun _ _ q=>q
theorem HOk.laid (x : HOk P w H h) (k : ∀ b u,h.get? b = some u->h'.get? b = some u) (hp : h.objs.size <= a) (new : zdx P w (upd H a o) h' a o) : HOk P w (upd H a o) h':=fun b u e=>by
 have hn:=x.fresh hp
 by_cases hb : b = a
 ·subst hb; rw [zap] at e; cases e; exact new
 ·rw [zav hb] at e
  exact (x b u e).stay (fun c v _ q=>k c v q) (fun c q=>by rw [zav (za4 q hn)]; exact q) fun c xs q=>by rw [zav (za4 q hn)]; exact q
end
noncomputable def Rd (H : Hp) (a : Addr) (u : HO) : Prop:=H a = some u \/ ∃ o,H a = some (.frz o u)
theorem Rd.ok {P : Ziq} {w : Zjv} {H : Hp} {h : Heap} {a : Addr} {u : HO} (r : Rd H a u) (x : HOk P w H h) : zdx P w H h a u:=by
 rcases r with r | ⟨o,r⟩
 ·exact x a u r
 ·obtain ⟨_,q⟩:=x a _ r
  exact q
noncomputable def Mut : Option HO->Prop
 | some (.lst _)=>True
 | some (.dK _)=>True
 | some (.dT _)=>True
 | some (.set _ _)=>True
 | some (.ins _ _ _)=>True
 | some (.ext _)=>True
 | _=>False
section
variable {P : Ziq} {w : Zjv} {H : Hp} {h h' : Heap} {x e : Addr} {o' : HO}
theorem HOk.write (ok : HOk P w H h) (mu : Mut (H x)) (he : e = x \/ H e = some (.own x)) (k : ∀ b u,b≠e->h.get? b = some u->h'.get? b = some u) (heo : ∃ u,h'.get? e = some u)
  (new : zdx P w (upd H x o') h' x o') : HOk P w (upd H x o') h':=fun b u q=>by
 have nown : ∀ c y,H c = some (.own y)->c≠x:=fun c y r z=>by subst z; rw [r] at mu; exact mu
 have ntup : ∀ c xs,H c = some (.tup xs)->c≠x:=fun c xs r z=>by subst z; rw [r] at mu; exact mu
 by_cases hb : b = x
 ·subst hb; rw [zap] at q; cases q; exact new
 ·rw [zav hb] at q
  by_cases hbe : b = e
  ·have q' : H b = some (.own x):=by
    rcases he with z | z
    ·exact absurd (hbe.trans z) hb
    ·rw [hbe]; exact z
   rw [q] at q'; cases q'
   obtain ⟨v,hv⟩:=heo
   exact ⟨v,by rw [hbe]; exact hv⟩
  ·refine (ok b u q).stay (fun c v hc r=>k c v ?_ r) (fun c r=>by rw [zav (nown c b r)]; exact r) fun c xs r=>by rw [zav (ntup c xs r)]; exact r
   rcases hc with rfl | hc
   ·exact hbe
   ·rintro rfl
    rcases he with z | z
    ·exact nown c b hc z
    ·rw [hc] at z; cases z; exact hb rfl
end
structure Un (fs ex : List Addr) (H H' : Hp) (h h' : Heap) : Prop where
 keep : ∀ b o,h.get? b = some o->H b = none->b ∉ fs->b ∉ ex->h'.get? b = some o
 slot : ∀ b o,h.get? b = some o->H b = none->b∈fs->b ∉ ex -> ∃ sl,h'.get? b = some { o with slots:=sl }
 free : ∀ b o,h.get? b = some o->H b = none->b ∉ ex->H' b = none
 there : ∀ b o,h.get? b = some o->b ∉ ex -> ∃ o',h'.get? b = some o'
 tups : ∀ b xs,H b = some (.tup xs)->H' b = some (.tup xs)
 frzs : ∀ b o u,H b = some (.frz o u)->H' b = some (.frz o u)
 tbls : ∀ b ps,H b = some (.tbl ps) -> ∃ more,H' b = some (.tbl (ps++more))
section
variable {fs fs' ex ex' : List Addr} {H H1 H2 : Hp} {h h1 h2 h' : Heap} {a x e : Addr} {o : HO}
theorem Un.any (u : Un fs ex H H1 h h1) {b : Addr} {ob : Obj} (q : h.get? b = some ob) (n : H b = none) (hx : b ∉ ex) : ∃ sl,h1.get? b = some { ob with slots:=sl }:=by
 by_cases hb : b∈fs
 ·exact u.slot b ob q n hb hx
 ·exact ⟨ob.slots,u.keep b ob q n hb hx⟩
theorem Un.kept (k : ∀ b u,h.get? b = some u->h'.get? b = some u) : Un fs ex H H h h' :=
 ⟨fun b ob q _ _ _=>k b ob q,fun b ob q _ _ _=>⟨ob.slots,k b ob q⟩,fun _ _ _ n _=>n,fun b ob q _=>⟨ob,k b ob q⟩,fun _ _ q=>q,fun _ _ _ q=>q,fun _ ps q=>⟨#[],by rw [q]; simp⟩⟩
theorem Un.refl : Un fs ex H H h h:=Un.kept fun _ _ q=>q
theorem Un.laid (k : ∀ b u,h.get? b = some u->h'.get? b = some u) (hp : h.objs.size <= a) (hn : H a = none) : Un fs ex H (upd H a o) h h' where
 keep:=fun b u q _ _ _=>k b u q
 slot:=fun b u q _ _ _=>⟨u.slots,k b u q⟩
 free:=fun b u q n _=>by rw [zav (Zic (Zh9 (Zhy q) hp))]; exact n
 there:=fun b u q _=>⟨u,k b u q⟩
 tups:=fun b xs q=>by rw [zav (za4 q hn)]; exact q
 frzs:=fun b u xs q=>by rw [zav (za4 q hn)]; exact q
 tbls:=fun b ps q=>⟨#[],by rw [zav (za4 q hn),q]; simp⟩
theorem Un.write (mu : Mut (H x)) (he : e = x \/ H e = some (.own x)) (k : ∀ b u,b≠e->h.get? b = some u->h'.get? b = some u) (heo : ∃ u,h'.get? e = some u) : Un fs ex H (upd H x o) h h':=by
 have hx : ∀ b,H b = none->b≠x:=fun b n z=>by subst z; rw [n] at mu; exact mu
 have hb : ∀ b,H b = none->b≠e:=fun b n z=>by
  subst z
  rcases he with r | r
  ·exact hx b n r
  ·rw [n] at r; cases r
 have hm : ∀ b u,H b = some u -> ¬ Mut (some u)->b≠x:=fun b u q nm z=>by subst z; rw [q] at mu; exact nm mu
 refine ⟨fun b u q n _ _=>k b u (hb b n) q,fun b u q n _ _=>⟨u.slots,k b u (hb b n) q⟩,fun b u q n _=>by rw [zav (hx b n)]; exact n,fun b u q _=>?_,
  fun b xs q=>by rw [zav (hm b _ q fun z=>z)]; exact q,fun b u xs q=>by rw [zav (hm b _ q fun z=>z)]; exact q,fun b ps q=>⟨#[],by rw [zav (hm b _ q fun z=>z),q]; simp⟩⟩
 by_cases hbe : b = e
 ·subst hbe; exact heo
 ·exact ⟨u,k b u hbe q⟩
end
noncomputable def trk (h : Heap) (H : Hp) : List Addr:=(Zhm h.objs.size).filter fun a=>(H a).isSome
noncomputable def hidT (h : Heap) (H : Hp) : Heap:=PySem.W.hideAll h (trk h H)
theorem zwz (h : Heap) (H : Hp) : (hidT h H).objs.size = h.objs.size:=PySem.W.hideAll_size _ _
theorem zkw {h : Heap} {H : Hp} {b : Addr} {o : Obj} (e : h.get? b = some o) (n : H b = none) : (hidT h H).get? b = some o :=
 PySem.W.hideAll_get _ e fun hm=>by
  have q : (H b).isSome = true:=(Zh0.mp hm).2
  rw [n] at q; simp at q
theorem zz7 {h : Heap} {H : Hp} {b : Addr} {o : Obj} (e : (hidT h H).get? b = some o) : h.get? b = some o/\H b = none:=by
 have e' : h.get? b = some o:=PySem.W.of_hideAll (trk h H) e
 refine ⟨e',?_⟩
 cases q : H b with
 | none=>rfl
 | some x =>
  have hm : b∈trk h H:=Zh0.mpr ⟨Zia.mpr (Zhy e'),by simp [q]⟩
  have z : (hidT h H).get? b = none:=PySem.W.hideAll_none (trk h H) hm
  rw [z] at e; cases e
noncomputable def yab (g h : Heap) (L : Addr) : List (Addr × Obj):=(Zhm h.objs.size).filterMap fun a=>if a = L \/ (g.get? a).isSome = true then none else (h.get? a).map fun o=>(a,o)
noncomputable def rest (g h : Heap) (L d : Addr) : List (Addr × Obj):=(yab g h L).filter fun p=>decide (p.1≠d)
structure Mod (K : Zhi) (mg : Str->Option Value) (base : Heap) : Prop where
 kin : K.In base
 glob : base.Ns Zj9 mg
 blt : ∃ mb,base.Ns Zpn mb /\ ∀ x : Str,x ≠ "__name__" -> mb x = Zmk x
 nolimit : base.NoLimit
structure Cx where
 prog : Ziq
 w : Zjv
 K : Zhi
 mg : Str->Option Value
 base : Heap
 A : Zi0
 N : List Str
 s₀ : Zhq
 H₀ : Hp
 env : Env
 outer : List Env
 stack : List Env
 ex : List Addr
 fn : Str->Bool
 calm : Bool
 pn : List (Addr × Obj)
 xe : Value->Zhq->Prop
noncomputable def frs (l : List Env) : List Addr:=l.filterMap (·.frame)
noncomputable abbrev Cx.fs (X : Cx) : List Addr:=frs X.outer
noncomputable def Vis (sc : Scope) (x : Str) : Prop:=sc.names.lookup x = some .local \/ sc.names.lookup x = some .cell \/ sc.names.lookup x = some .free
noncomputable def Loc (sc : Scope) (x : Str) : Prop:=sc.names.lookup x = some .local \/ sc.names.lookup x = some .cell
noncomputable def Look (env : Env) (h : Heap) (m : Str->Option Value) (x : Str) (u : Value) : Prop :=
 (env.kindOf x = some .local/\m x = some u) \/ ((env.kindOf x = some .cell \/ env.kindOf x = some .free) /\ ∃ c,env.cells.lookup x = some c/\h.IsCell c (some u))
structure Cx.Ok (X : Cx) : Prop where
 mod : Mod X.K X.mg X.base
 kind : X.env.scope.kind = .function
 glob : X.env.globals = Zj9
 blt : X.env.builtins = Zpn
 above : X.s₀.heap.objs.size <= X.env.locals
 inj : ∀ x y c,X.env.cells.lookup x = some c->X.env.cells.lookup y = some c->x = y
 has : ∀ x,(X.env.kindOf x = some .cell \/ X.env.kindOf x = some .free) -> ∃ c,X.env.cells.lookup x = some c
 cab : ∀ x c,X.fn x = true->X.env.cells.lookup x = some c->X.s₀.heap.objs.size <= c
 hd : X.calm = true->X.A.handled = none
 frames : X.A.frames = some X.stack
 stk : X.stack = X.outer \/ (X.stack = X.env::X.outer/\X.env.frame = some X.env.locals)
 exf : ∀ b∈X.ex,b≠X.env.locals /\ ∀ x c,X.env.cells.lookup x = some c->c≠b
 bs : ∀ b o,X.base.get? b = some o->X.s₀.heap.get? b = some o/\X.H₀ b = none
 bsz : X.base.objs.size <= X.s₀.heap.objs.size
 noex : ∀ b o,X.base.get? b = some o->b ∉ X.ex
 exfs : ∀ b∈X.ex,b ∉ X.fs
 funs : X.s₀.heap.FunFrames X.base X.outer
 frf : ∀ b∈X.fs,X.H₀ b = none
structure Inv (X : Cx) (pins : List (Addr × Obj)) (σ : List (Option V)) (H : Hp) (s : Zhq) : Prop where
 ok : X.Ok
 os : s.os = X.s₀.os
 bare : Zo3 s.gens
 base : Un X.fs X.ex X.H₀ H X.s₀.heap s.heap
 loc : ∃ m,s.heap.Ns X.env.locals m /\ ∀ (i : Nat) (x : Str) (v : V),X.N[i]? = some x->σ[i]? = some (some v)->Vis X.env.scope x -> ∃ u,RelV v u/\Look X.env s.heap m x u
 cell : ∀ x c,X.env.cells.lookup x = some c -> ∃ v,s.heap.IsCell c v
 free : H X.env.locals = none
 freeC : ∀ x c,X.env.cells.lookup x = some c->H c = none
 pin : ∀ p∈X.pn++pins,s.heap.get? p.1 = some p.2/\H p.1 = none/\p.1≠X.env.locals/\p.1 ∉ X.fs /\ ∀ v,p.2.data ≠ .cell v
 hok : HOk X.prog X.w H s.heap
 len : σ.length = X.N.length
section
variable {X : Cx} {pins : List (Addr × Obj)} {σ : List (Option V)} {H H' : Hp} {s : Zhq} {h' : Heap}
theorem Cx.Ok.nofr (ok : X.Ok) {b : Addr} {o : Obj} (e : X.base.get? b = some o) : b ∉ X.fs:=fun hb=>by
 have:=(ok.funs.mem hb).1
 rw [e] at this; cases this
theorem Inv.bs (I : Inv X pins σ H s) : ∀ b o,X.base.get? b = some o->s.heap.get? b = some o/\H b = none:=fun b o e =>
 ⟨I.base.keep b o (I.ok.bs b o e).1 (I.ok.bs b o e).2 (I.ok.nofr e) (I.ok.noex b o e),I.base.free b o (I.ok.bs b o e).1 (I.ok.bs b o e).2 (I.ok.noex b o e)⟩
theorem Inv.bk (I : Inv X pins σ H s) : ∀ b o,X.base.get? b = some o->s.heap.get? b = some o:=fun b o e=>(I.bs b o e).1
theorem Inv.mod (I : Inv X pins σ H s) : Mod X.K X.mg X.base:=I.ok.mod
theorem Inv.kIn (I : Inv X pins σ H s) : X.K.In s.heap:=I.ok.mod.kin.keeps I.bk
theorem Inv.nolimit (I : Inv X pins σ H s) : s.heap.NoLimit:=I.ok.mod.nolimit.keeps I.bk
theorem Inv.fr (I : Inv X pins σ H s) : ∃ m,Fr X.base X.env.locals s.heap m :=
 let ⟨m,hn,_⟩:=I.loc
 ⟨m,hn,I.bk,Zik I.ok.bsz I.ok.above⟩
theorem Inv.lt (I : Inv X pins σ H s) : X.env.locals < s.heap.objs.size:=let ⟨_,hn,_⟩:=I.loc; hn.lt
theorem Inv.sz (I : Inv X pins σ H s) : X.s₀.heap.objs.size <= s.heap.objs.size:=Zik I.ok.above (Zmv I.lt)
theorem Inv.nofs (I : Inv X pins σ H s) {a : Addr} (h : s.heap.objs.size <= a) : a ∉ X.fs:=fun hb=>by
 obtain ⟨_,o,ho,_⟩:=I.ok.funs.mem hb
 exact absurd (Zh9 (Zhy ho) (Zik I.sz h)) (Zi3 _)
theorem Inv.cne (I : Inv X pins σ H s) : ∀ x c,X.env.cells.lookup x = some c->c≠X.env.locals:=fun x c e z=>by
 obtain ⟨v,o,ho,hd⟩:=I.cell x c e
 obtain ⟨m,⟨o',es,ep,ho',hd',_⟩,_⟩:=I.loc
 rw [z,ho'] at ho; cases ho; rw [hd'] at hd; cases hd
theorem Inv.funs (I : Inv X pins σ H s) : s.heap.FunFrames X.base X.outer:=by
 have all : ∀ (l : List Env),(∀ b∈frs l,b∈X.fs)->X.s₀.heap.FunFrames X.base l->s.heap.FunFrames X.base l:=by
  intro l
  induction l with
  | nil=>intro _ _; trivial
  | cons env r ih =>
   intro hs hl
   obtain ⟨hk,⟨L,o,hf,hn,ho,hd⟩,hr⟩:=hl
   have hL : L∈X.fs:=hs L (by unfold frs; rw [Zn7,hf]; exact Zhx)
   obtain ⟨sl,e⟩:=I.base.slot L o ho (I.ok.frf L hL) hL fun z=>I.ok.exfs L z hL
   exact ⟨hk,⟨L,_,hf,hn,e,hd⟩,ih (fun b hb=>hs b (by unfold frs; rw [Zn7,hf]; exact Zhv _ hb)) hr⟩
 exact all X.outer (fun _ hb=>hb) I.ok.funs
theorem Inv.stack (I : Inv X pins σ H s) : s.heap.FunFrames X.base X.stack:=by
 rcases I.ok.stk with e | ⟨e,hf⟩
 ·rw [e]; exact I.funs
 ·rw [e]
  obtain ⟨m,hn,_⟩:=I.loc
  refine .cons (by rw [I.ok.kind]; decide) hf hn ?_ I.funs
  exact Heap.get?_none_of_le (Zik I.ok.bsz I.ok.above)
theorem Inv.stkSub (I : Inv X pins σ H s) : ∀ b∈frs X.stack,b∈X.env.locals::X.fs:=fun b hb=>by
 rcases I.ok.stk with e | ⟨e,hf⟩
 ·rw [e] at hb; exact Zhv _ hb
 ·rw [e] at hb
  unfold frs at hb
  rw [Zn7,hf] at hb
  exact hb
theorem Inv.stkFree (I : Inv X pins σ H s) : ∀ b∈frs X.stack,H b = none:=fun b hb=>by
 rcases Zie.mp (I.stkSub b hb) with e | hb
 ·rw [e]; exact I.free
 ·obtain ⟨_,o,ho,_⟩:=I.ok.funs.mem hb
  exact I.base.free b o ho (I.ok.frf b hb) fun z=>I.ok.exfs b z hb
theorem Inv.step {g' : Array GenState} {t' : Nat} {d' : Drawn} {ch : List Addr} (I : Inv X pins σ H s)
  (hch : ∀ b∈ch,(b∈X.ex \/ X.s₀.heap.objs.size <= b)/\b≠X.env.locals/\(∀ x c,X.env.cells.lookup x = some c->c≠b) /\ ∀ p∈X.pn++pins,p.1≠b)
  (keep : ∀ b o,b≠X.env.locals->b ∉ X.fs->b ∉ ch->s.heap.get? b = some o->H b = none->h'.get? b = some o)
  (slot : ∀ b o,b≠X.env.locals->b∈X.fs->b ∉ ch->s.heap.get? b = some o->H b = none -> ∃ sl,h'.get? b = some { o with slots:=sl }) (free : ∀ b o,b ∉ ch->s.heap.get? b = some o->H b = none->H' b = none)
  (there : ∀ b o,b ∉ ch->s.heap.get? b = some o -> ∃ o',h'.get? b = some o')
  (tups : ∀ b xs,H b = some (.tup xs)->H' b = some (.tup xs)) (frzs : ∀ b o u,H b = some (.frz o u)->H' b = some (.frz o u)) (tbls : ∀ b ps,H b = some (.tbl ps) -> ∃ more,H' b = some (.tbl (ps++more)))
  (ns : ∀ m,s.heap.Ns X.env.locals m->h'.Ns X.env.locals m) (hok : HOk X.prog X.w H' h') (hg : Zo3 g') :
  Inv X pins σ H' { s with heap:=h',gens:=g',drawn:=d',toks:=t' }:=by
 have neL : ∀ b o,X.s₀.heap.get? b = some o->b≠X.env.locals:=fun b o e=>Zic (Zh9 (Zhy e) I.ok.above)
 have neC : ∀ b o,X.s₀.heap.get? b = some o->b ∉ X.ex->b ∉ ch:=fun b o e hx hb=>by
  rcases (hch b hb).1 with z | z
  ·exact hx z
  ·exact absurd (Zh9 (Zhy e) z) (Zi3 _)
 have cellK : ∀ x c,X.env.cells.lookup x = some c -> ∀ v,s.heap.IsCell c v->h'.IsCell c v:=fun x c e v ⟨o,ho,hd⟩=>by
  have nch : c ∉ ch:=fun z=>(hch c z).2.2.1 x c e rfl
  by_cases hc : c∈X.fs
  ·obtain ⟨sl,q⟩:=slot c o (I.cne x c e) hc nch ho (I.freeC x c e)
   exact ⟨_,q,hd⟩
  ·exact ⟨o,keep c o (I.cne x c e) hc nch ho (I.freeC x c e),hd⟩
 refine ⟨I.ok,I.os,hg,⟨fun b o e n hb hx=>?_,fun b o e n hb hx=>?_,fun b o e n hx=>?_,fun b o e hx=>?_,fun b xs e=>tups b xs (I.base.tups b xs e),fun b o xs e=>frzs b o xs (I.base.frzs b o xs e),fun b ps e=>?_⟩,?_,fun x c e=>?_,?_,fun x c e=>?_,fun p hp=>?_,hok,I.len⟩
 ·exact keep b o (neL b o e) hb (neC b o e hx) (I.base.keep b o e n hb hx) (I.base.free b o e n hx)
 ·obtain ⟨sl,e1⟩:=I.base.slot b o e n hb hx
  obtain ⟨sl',e2⟩:=slot b _ (neL b o e) hb (neC b o e hx) e1 (I.base.free b o e n hx)
  exact ⟨sl',e2⟩
 ·obtain ⟨o',e1⟩:=I.base.there b o e hx
  exact free b o' (neC b o e hx) e1 (I.base.free b o e n hx)
 ·obtain ⟨o',e1⟩:=I.base.there b o e hx
  exact there b o' (neC b o e hx) e1
 ·obtain ⟨m1,e1⟩:=I.base.tbls b ps e
  obtain ⟨m2,e2⟩:=tbls b _ e1
  exact ⟨m1++m2,by rw [e2,Zri]⟩
 ·obtain ⟨m,hn,hl⟩:=I.loc
  refine ⟨m,ns m hn,fun i x v e1 e2 e3=>?_⟩
  obtain ⟨u,r,l⟩:=hl i x v e1 e2 e3
  refine ⟨u,r,?_⟩
  rcases l with l | ⟨k,c,e,z⟩
  ·exact .inl l
  ·exact .inr ⟨k,c,e,cellK x c e _ z⟩
 ·obtain ⟨v,z⟩:=I.cell x c e
  exact ⟨v,cellK x c e v z⟩
 ·obtain ⟨m,⟨o,_,_,ho,_⟩,_⟩:=I.loc
  exact free _ o (fun z=>(hch _ z).2.1 rfl) ho I.free
 ·obtain ⟨v,o,ho,hd⟩:=I.cell x c e
  exact free c o (fun z=>(hch c z).2.2.1 x c e rfl) ho (I.freeC x c e)
 ·obtain ⟨e,n,ne,nf,d⟩:=I.pin p hp
  have nch : p.1 ∉ ch:=fun z=>(hch p.1 z).2.2.2 p hp rfl
  exact ⟨keep p.1 p.2 ne nf nch e n,free p.1 p.2 nch e n,ne,nf,d⟩
theorem Inv.un {t' : Nat} (I : Inv X pins σ H s) (u : Un X.fs [] H H' s.heap h') (hok : HOk X.prog X.w H' h') : Inv X pins σ H' { s with heap:=h',toks:=t' }:=by
 obtain ⟨m,⟨o,es,ep,ho,r⟩,_⟩:=id I.loc
 obtain ⟨sl,hL⟩:=u.any ho I.free (by simp)
 exact I.step (g':=s.gens) (d':=s.drawn) (ch:=[]) (fun _ z=>nomatch z) (fun b o _ hb _ e n=>u.keep b o e n hb (by simp)) (fun b o _ hb _ e n=>u.slot b o e n hb (by simp)) (fun b o _ e n=>u.free b o e n (by simp)) (fun b o _ e=>u.there b o e (by simp)) u.tups u.frzs u.tbls (fun m' hm=>by
  obtain ⟨o',es',ep',ho',r'⟩:=hm
  rw [ho] at ho'; cases ho'
  exact ⟨_,es',ep',hL,r'⟩) hok I.bare
theorem Inv.call {g' : Array GenState} {t' : Nat} {d' : Drawn} {ch : List Addr} (I : Inv X pins σ H s) (u : Un (frs X.stack) ch H H' s.heap h') (hok : HOk X.prog X.w H' h') (hg : Zo3 g')
  (hch : ∀ b∈ch,(b∈X.ex \/ X.s₀.heap.objs.size <= b)/\b≠X.env.locals/\(∀ x c,X.env.cells.lookup x = some c->c≠b) /\ ∀ p∈X.pn++pins,p.1≠b) :
  Inv X pins σ H' { s with heap:=h',gens:=g',drawn:=d',toks:=t' }:=by
 obtain ⟨m,⟨o,es,ep,ho,r⟩,_⟩:=id I.loc
 obtain ⟨sl,hL⟩:=u.any ho I.free fun z=>(hch _ z).2.1 rfl
 exact I.step (ch:=ch) hch (fun b o hL hb hc e n=>u.keep b o e n (fun z=>(Zie.mp (I.stkSub b z)).elim hL hb) hc) (fun b o _ _ hc e n=>u.any e n hc) (fun b o hc e n=>u.free b o e n hc) (fun b o hc e=>u.there b o e hc) u.tups u.frzs u.tbls (fun m' hm=>by
  obtain ⟨o',es',ep',ho',r'⟩:=hm
  rw [ho] at ho'; cases ho'
  exact ⟨_,es',ep',hL,r'⟩) hok hg
theorem Inv.turned {t' : Nat} {it : Addr} (I : Inv X pins σ H s) (k : ∀ b o,b≠it->s.heap.get? b = some o->h'.get? b = some o) (hn : H it = none) (hL : it≠X.env.locals)
  (h1 : it∈X.ex \/ X.s₀.heap.objs.size <= it) (h2 : ∀ x c,X.env.cells.lookup x = some c->c≠it) (h3 : ∀ p∈X.pn++pins,p.1≠it) : Inv X pins σ H { s with heap:=h',toks:=t' }:=by
 have nit : ∀ b u,H b = some u->b≠it:=fun b u e z=>by rw [z,hn] at e; cases e
 refine I.step (g':=s.gens) (d':=s.drawn) (ch:=[it]) (fun b hb=>?_) (fun b o _ _ hc e _=>k b o (fun z=>hc (by simp [z])) e) (fun b o _ _ hc e _=>⟨o.slots,k b o (fun z=>hc (by simp [z])) e⟩) (fun _ _ _ _ n=>n)
  (fun b o hc e=>⟨o,k b o (fun z=>hc (by simp [z])) e⟩) (fun _ _ e=>e) (fun _ _ _ e=>e) (fun b ps e=>⟨#[],by rw [e]; simp⟩) (fun m hm=>?_) (fun b u e=>?_) I.bare
 ·have e : b = it:=by simpa using hb
  subst e
  exact ⟨h1,hL,h2,h3⟩
 ·obtain ⟨o,es,ep,ho,r⟩:=hm
  exact ⟨o,es,ep,k _ o (Zi4 hL) ho,r⟩
 ·refine (I.hok b u e).stay (fun c v hc q=>k c v ?_ q) (fun _ q=>q) fun _ _ q=>q
  rcases hc with z | z
  ·rw [z]; exact nit b u e
  ·exact nit c _ z
theorem Inv.tok (I : Inv X pins σ H s) (t : Nat) : Inv X pins σ H { s with toks:=t }:=I.un (h':=s.heap) (t':=t) Un.refl I.hok
theorem Inv.kept {t' : Nat} (I : Inv X pins σ H s) (k : ∀ b u,s.heap.get? b = some u->h'.get? b = some u) : Inv X pins σ H { s with heap:=h',toks:=t' }:=I.un (Un.kept k) (I.hok.kept k)
theorem Inv.laid {a : Addr} {o : HO} {t' : Nat} (I : Inv X pins σ H s) (k : ∀ b u,s.heap.get? b = some u->h'.get? b = some u) (hp : s.heap.objs.size <= a) (new : zdx X.prog X.w (upd H a o) h' a o) :
  Inv X pins σ (upd H a o) { s with heap:=h',toks:=t' }:=I.un (Un.laid k hp (I.hok.fresh hp)) (I.hok.laid k hp new)
theorem Inv.write {x e : Addr} {o : HO} {t' : Nat} (I : Inv X pins σ H s) (mu : Mut (H x)) (he : e = x \/ H e = some (.own x)) (k : ∀ b u,b≠e->s.heap.get? b = some u->h'.get? b = some u) (heo : ∃ u,h'.get? e = some u)
  (new : zdx X.prog X.w (upd H x o) h' x o) : Inv X pins σ (upd H x o) { s with heap:=h',toks:=t' }:=I.un (Un.write mu he k heo) (I.hok.write mu he k heo new)
theorem Inv.weak {σ' : List (Option V)} (I : Inv X pins σ H s) (hl : σ'.length = σ.length) (w : ∀ (i : Nat) v,σ'[i]? = some (some v)->σ[i]? = some (some v)) : Inv X pins σ' H s :=
 ⟨I.ok,I.os,I.bare,I.base,let ⟨m,hn,hl'⟩:=I.loc; ⟨m,hn,fun i x v e1 e2 e3=>hl' i x v e1 (w i v e2) e3⟩,I.cell,I.free,I.freeC,I.pin,I.hok,hl.trans I.len⟩
theorem Inv.pins_of {pins' : List (Addr × Obj)} (I : Inv X pins σ H s) (h : ∀ p∈pins',s.heap.get? p.1 = some p.2/\H p.1 = none/\p.1≠X.env.locals/\p.1 ∉ X.fs /\ ∀ v,p.2.data ≠ .cell v) : Inv X pins' σ H s :=
 ⟨I.ok,I.os,I.bare,I.base,I.loc,I.cell,I.free,I.freeC,fun p hp=>(Zhw.mp hp).elim (fun z=>I.pin p (Zig _ z)) (h p),I.hok,I.len⟩
theorem zr7 {N : List Str} (hN : N.Nodup) {i j : Nat} {x : Str} (a : N[i]? = some x) (b : N[j]? = some x) : i = j:=by
 obtain ⟨h1,e1⟩:=Zhn.mp a
 obtain ⟨h2,e2⟩:=Zhn.mp b
 exact (Zne hN).mp (e1.trans e2.symm)
theorem zpj {M : Model} {A : Zi0} {E : Value->Zhq->Prop} {i : Nat} {x : Str} {v : V} {u : Value} {Q : Unit->Zhq->Prop} (I : Inv X pins σ H s) (hN : X.N.Nodup) (hi : X.N[i]? = some x) (hx : Loc X.env.scope x) (r : RelV v u)
  (h : ∀ s',Inv X pins (σ.set i (some v)) H s'->(∃ a,Zo0 a s.heap s'.heap/\(a = X.env.locals \/ X.env.cells.lookup x = some a))->Q () s') (hf : X.fn x = true \/ X.env.scope.names.lookup x = some .local:=by first | exact .inl rfl | exact .inr rfl | assumption) : Zij M A (storeName X.env x u) Q E s:=by
 obtain ⟨m,hn,hl⟩:=id I.loc
 have hcls : (X.env.scope.kind == .class || (X.env.scope.kind == .module && X.env.locals != X.env.globals)) = false:=by rw [I.ok.kind]; rfl
 have hiσ : i < σ.length:=by rw [I.len]; exact (Zhn.mp hi).1
 have cne:=I.cne
 have tracked : ∀ {a : Addr} {h' : Heap},(∃ o,s.heap.get? a = some o/\H a = none)->Zo0 a s.heap h'->HOk X.prog X.w H h':=fun {a h'} ha hs b ob e=>by
  obtain ⟨_,_,hfree⟩:=ha
  refine (I.hok b ob e).stay (fun c w' hc q=>(hs.2 c ?_).trans q) (fun _ q=>q) fun _ _ q=>q
  rintro rfl
  rcases hc with rfl | hc
  ·rw [hfree] at e; cases e
  ·rw [hfree] at hc; cases hc
 rcases hx with hk | hk
 ·refine wpAny_storeName_local hk hn (fun h' hn' hs=>?_) hcls
  obtain ⟨oL,_,_,hoL,_⟩:=id hn
  refine h _ ⟨I.ok,I.os,I.bare,⟨fun b o e n hb hx=>?_,fun b o e n hb hx=>?_,I.base.free,fun b o e hx=>?_,I.base.tups,I.base.frzs,I.base.tbls⟩,⟨_,hn',fun j y v' e1 e2 e3=>?_⟩,fun y c e=>?_,I.free,I.freeC,fun p hp=>?_,tracked ⟨oL,hoL,I.free⟩ hs,by simpa using I.len⟩ ⟨_,hs,.inl rfl⟩
  ·exact (hs.2 b (Zic (Zh9 (Zhy e) I.ok.above))).trans (I.base.keep b o e n hb hx)
  ·obtain ⟨sl,e1⟩:=I.base.slot b o e n hb hx
   exact ⟨sl,(hs.2 b (Zic (Zh9 (Zhy e) I.ok.above))).trans e1⟩
  ·obtain ⟨o',e1⟩:=I.base.there b o e hx
   exact ⟨o',(hs.2 b (Zic (Zh9 (Zhy e) I.ok.above))).trans e1⟩
  ·by_cases hj : j = i
   ·subst hj
    rw [hi] at e1; cases e1
    rw [Zjp hiσ] at e2
    cases e2
    exact ⟨u,r,.inl ⟨hk,by simp⟩⟩
   ·rw [Zkf (Zi4 hj)] at e2
    obtain ⟨u',r',q⟩:=hl j y v' e1 e2 e3
    refine ⟨u',r',?_⟩
    rcases q with ⟨k,e⟩ | ⟨k,c,e,z⟩
    ·refine .inl ⟨k,?_⟩
     have : y≠x:=fun e=>hj (zr7 hN e1 (e ▸ hi))
     simp [this,e]
    ·exact .inr ⟨k,c,e,z.sameBut hs (cne y c e)⟩
  ·obtain ⟨w',z⟩:=I.cell y c e
   exact ⟨w',z.sameBut hs (cne y c e)⟩
  ·obtain ⟨e,n,ne,nf,d⟩:=I.pin p hp
   exact ⟨(hs.2 p.1 ne).trans e,n,ne,nf,d⟩
 ·have hfn : X.fn x = true:=by
   rcases hf with z | z
   ·exact z
   ·rw [z] at hk; cases hk
  obtain ⟨c,hc⟩:=I.ok.has x (.inl hk)
  obtain ⟨w',z⟩:=I.cell x c hc
  refine wpAny_storeName_cell I.ok.kind hk hc z (fun h' hc' hs=>?_)
  obtain ⟨oc,hoc,hocd⟩:=id z
  refine h { s with heap:=h' } ⟨I.ok,I.os,I.bare,⟨fun b o e n hb hx=>?_,fun b o e n hb hx=>?_,I.base.free,fun b o e hx=>?_,I.base.tups,I.base.frzs,I.base.tbls⟩,⟨m,hn.sameBut hs (Zi4 (cne x c hc)),fun j y v' e1 e2 e3=>?_⟩,fun y c' e=>?_,I.free,I.freeC,fun p hp=>?_,tracked ⟨oc,hoc,I.freeC x c hc⟩ hs,by simpa using I.len⟩ ⟨c,hs,.inr hc⟩
  ·exact (hs.2 b (Zic (Zh9 (Zhy e) (I.ok.cab x c hfn hc)))).trans (I.base.keep b o e n hb hx)
  ·obtain ⟨sl,e1⟩:=I.base.slot b o e n hb hx
   exact ⟨sl,(hs.2 b (Zic (Zh9 (Zhy e) (I.ok.cab x c hfn hc)))).trans e1⟩
  ·obtain ⟨o',e1⟩:=I.base.there b o e hx
   exact ⟨o',(hs.2 b (Zic (Zh9 (Zhy e) (I.ok.cab x c hfn hc)))).trans e1⟩
  ·by_cases hj : j = i
   ·subst hj
    rw [hi] at e1; cases e1
    rw [Zjp hiσ] at e2
    cases e2
    exact ⟨u,r,.inr ⟨.inl hk,c,hc,hc'⟩⟩
   ·rw [Zkf (Zi4 hj)] at e2
    obtain ⟨u',r',q⟩:=hl j y v' e1 e2 e3
    refine ⟨u',r',?_⟩
    rcases q with q | ⟨k,c',e,z'⟩
    ·exact .inl q
    ·refine .inr ⟨k,c',e,z'.sameBut hs ?_⟩
     rintro rfl
     exact hj (zr7 hN e1 (I.ok.inj _ _ _ e hc ▸ hi))
  ·by_cases hcc : c' = c
   ·subst hcc; exact ⟨_,hc'⟩
   ·obtain ⟨w2,z2⟩:=I.cell y c' e
    exact ⟨w2,z2.sameBut hs hcc⟩
  ·obtain ⟨e,n,ne,nf,d⟩:=I.pin p hp
   refine ⟨(hs.2 p.1 ?_).trans e,n,ne,nf,d⟩
   intro q
   rw [q,hoc] at e
   have q' : oc = p.2:=Zjf e
   exact d w' (by rw [<- q']; exact hocd)
theorem zr1 {M : Model} {A : Zi0} {E : Value->Zhq->Prop} {i : Nat} {x : Str} {v : V} {u : Value} {Q : Unit->Zhq->Prop} (I : Inv X pins σ H s) (hN : X.N.Nodup) (hi : X.N[i]? = some x) (hx : Loc X.env.scope x) (r : RelV v u)
  (h : ∀ s',Inv X pins (σ.set i (some v)) H s'->Q () s') (hf : X.fn x = true \/ X.env.scope.names.lookup x = some .local:=by first | exact .inl rfl | exact .inr rfl | assumption) : Zij M A (storeName X.env x u) Q E s :=
 zpj I hN hi hx r (fun s' I' _=>h s' I') hf
theorem Inv.call' {s' : Zhq} {ch : List Addr} (I : Inv X pins σ H s) (ho : s'.os = s.os) (u : Un (frs X.stack) ch H H' s.heap s'.heap) (hok : HOk X.prog X.w H' s'.heap) (hg : Zo3 s'.gens)
  (hch : ∀ b∈ch,(b∈X.ex \/ X.s₀.heap.objs.size <= b)/\b≠X.env.locals/\(∀ x c,X.env.cells.lookup x = some c->c≠b) /\ ∀ p∈X.pn++pins,p.1≠b) : Inv X pins σ H' s':=by
 obtain ⟨h',g',d',t',o'⟩:=s'
 have e : o' = s.os:=ho
 subst e
 exact I.call (g':=g') (t':=t') (d':=d') u hok hg hch
end
noncomputable abbrev XK:=Value->Option Addr->Hp->Prop
noncomputable abbrev St:=List (Option V)
noncomputable abbrev VK:=V->Hp->Prop
noncomputable abbrev TE:=St->Hp->VK->Prop
noncomputable abbrev TT:=St->Hp->(Bool->Hp->Prop)->Prop
noncomputable abbrev TA:=St->Hp->(List V->Hp->Prop)->Prop
structure Ends where
 nx : St->Hp->Prop
 rt : VK
 bk : St->Hp->Prop:=fun _ _=>False
 ct : St->Hp->Prop:=fun _ _=>False
noncomputable abbrev TS:=Ends->St->Hp->Prop
noncomputable def EP (X : Cx) (pins : List (Addr × Obj)) (σ : St) (Q : VK) (u : Value) (s' : Zhq) : Prop:=∃ v H',Inv X pins σ H' s'/\RelV v u/\Q v H'
noncomputable def TP (X : Cx) (pins : List (Addr × Obj)) (σ : St) (Q : Bool->Hp->Prop) (b : Bool) (s' : Zhq) : Prop:=∃ H',Inv X pins σ H' s'/\Q b H'
noncomputable def AP (X : Cx) (pins : List (Addr × Obj)) (σ : St) (Q : List V->Hp->Prop) (us : List Value) (s' : Zhq) : Prop:=∃ vs H',Inv X pins σ H' s'/\Vals vs us/\Q vs H'
noncomputable def SP (X : Cx) (pins : List (Addr × Obj)) (D : Ends) (f : Flow) (s' : Zhq) : Prop :=
 match f with
 | .next=>∃ σ' H',Inv X pins σ' H' s'/\D.nx σ' H'
 | .brk=>∃ σ' H',Inv X pins σ' H' s'/\D.bk σ' H'
 | .cont=>∃ σ' H',Inv X pins σ' H' s'/\D.ct σ' H'
 | .ret u=>∃ v σ' H',Inv X pins σ' H' s'/\RelV v u/\D.rt v H'
noncomputable def PE (X : Cx) (e : Expr) (t : TE) : Prop :=
 ∀ (pins : List (Addr × Obj)) (s : Zhq) (σ : St) (H : Hp) (Q : VK),Inv X pins σ H s->t σ H Q->Zij (Zix X.prog X.w) X.A (eval e X.env) (EP X pins σ Q) X.xe s
noncomputable def PT (X : Cx) (e : Expr) (t : TT) : Prop :=
 ∀ (pins : List (Addr × Obj)) (s : Zhq) (σ : St) (H : Hp) (Q : Bool->Hp->Prop),Inv X pins σ H s->t σ H Q->Zij (Zix X.prog X.w) X.A (isTrue e X.env (eval e X.env)) (TP X pins σ Q) X.xe s
noncomputable def PW (X : Cx) (e : Expr) (t : TT) : Prop :=
 ∀ (whole : Sem Value) (pins : List (Addr × Obj)) (s : Zhq) (σ : St) (H : Hp) (Q : Bool->Hp->Prop),Inv X pins σ H s->t σ H Q->Zij (Zix X.prog X.w) X.A (isTrue e X.env whole) (TP X pins σ Q) X.xe s
theorem PW.pt {X : Cx} {e : Expr} {t : TT} (h : PW X e t) : PT X e t:=h _
noncomputable def PA (X : Cx) (es : List Expr) (t : TA) : Prop :=
 ∀ (pos : Pos) (pins : List (Addr × Obj)) (s : Zhq) (σ : St) (H : Hp) (Q : List V->Hp->Prop),Inv X pins σ H s->t σ H Q->Zij (Zix X.prog X.w) X.A (Zu0 (Znl pos (Zi6 es X.env))) (AP X pins σ Q) X.xe s
noncomputable def PS (X : Cx) (st : Stmt) (t : TS) : Prop :=
 ∀ (pins : List (Addr × Obj)) (s : Zhq) (σ : St) (H : Hp) (D : Ends),Inv X pins σ H s->t D σ H->Zij (Zix X.prog X.w) X.A (exec st X.env) (SP X pins D) X.xe s
noncomputable def PSs (X : Cx) (st : List Stmt) (t : TS) : Prop :=
 ∀ (pins : List (Addr × Obj)) (s : Zhq) (σ : St) (H : Hp) (D : Ends),Inv X pins σ H s->t D σ H->Zij (Zix X.prog X.w) X.A (execs st X.env) (SP X pins D) X.xe s
theorem thn {α : Type} {t : Sem α} {Q Q' : α->Zhq->Prop} {M : Model} {A : Zi0} {E : Value->Zhq->Prop} {s : Zhq} (h : Zij M A t Q E s) (hQ : ∀ a s,Q a s->Q' a s) : Zij M A t Q' E s:=Zj8 h hQ fun _ _ x=>x
section
variable {X : Cx}
noncomputable def tVar (i : Nat) : TE:=fun σ H Q=>∃ v,σ[i]? = some (some v)/\Q v H
noncomputable def tC (v : V) : TE:=fun _ H Q=>Q v H
theorem ydq {i : Nat} {x : Str} {pos : Pos} (hN : X.N[i]? = some x) (hv : Vis X.env.scope x) (hd : (x == ("__debug__" : Str)) = false:=by decide) (hcd : (x == ("__classdict__" : Str)) = false:=by decide) : PE X (.Name x pos) (tVar i):=by
 intro pins s σ H Q I h
 obtain ⟨v,e,h⟩:=h
 obtain ⟨m,hn,hl⟩:=I.loc
 obtain ⟨u,r,l⟩:=hl i x v hN e hv
 have fin : EP X pins σ Q u s:=⟨v,H,I,r,h⟩
 rcases l with ⟨hk,hm⟩ | ⟨hk,c,hc,hcell⟩
 ·exact Ztd (wpAny_loadName_local I.ok.kind hk hn hm fin) hd
 ·rcases hk with hk | hk
  ·exact Ztd (wpAny_loadName_cell I.ok.kind hk hc hcell fin) hd
  ·exact Ztd (wpAny_loadName_free I.ok.kind hk hc hcell fin hcd) hd
theorem zaj {i j pos} : PE X (.Constant (.int i) j pos) (tC (.int i)):=fun _ _ _ H _ I h=>wpAny_Constant_int ⟨.int i,H,I.tok _,⟨_,rfl⟩,h⟩
theorem zfo {b j pos} : PE X (.Constant (.bool b) j pos) (tC (.bl b)):=fun _ _ _ H _ I h=>Constant_bool ⟨.bl b,H,I,rfl,h⟩
theorem zcg {x j pos} : PE X (.Constant (.str x) j pos) (tC (.str x)):=fun _ _ _ H _ I h=>Calls.Constant_str ⟨.str x,H,I.tok _,⟨_,rfl⟩,h⟩
noncomputable def Gl (X : Cx) (x : Str) : Prop:=X.env.kindOf x = some .globalImplicit
theorem zvz {E : Value->Zhq->Prop} {pins : List (Addr × Obj)} {s : Zhq} {σ : St} {H : Hp} {x : Str} {u : Value} {pos : Pos} {Q : Value->Zhq->Prop} (I : Inv X pins σ H s) (hg : Gl X x) (hm : X.mg x = some u) (h : Q u s)
  (hd : (x == ("__debug__" : Str)) = false:=by decide) : Zij (Zix X.prog X.w) X.A (eval (.Name x pos) X.env) Q E s :=
 Zpk I.ok.kind hg (Calls.loadGlobal_global (by rw [I.ok.glob]; exact I.mod.glob.keeps I.bk) hm h) hd
theorem zhb {E : Value->Zhq->Prop} {pins : List (Addr × Obj)} {s : Zhq} {σ : St} {H : Hp} {x : Str} {u : Value} {pos : Pos} {Q : Value->Zhq->Prop} (I : Inv X pins σ H s) (hg : Gl X x) (hm : X.mg x = none) (hv : Zmk x = some u) (h : Q u s)
  (hn : x ≠ "__name__" := by decide) (hd : (x == ("__debug__" : Str)) = false:=by decide) : Zij (Zix X.prog X.w) X.A (eval (.Name x pos) X.env) Q E s:=by
 obtain ⟨mb,h1,h2⟩:=I.mod.blt
 exact Zpk I.ok.kind hg (Calls.loadGlobal_builtin (by rw [I.ok.glob]; exact I.mod.glob.keeps I.bk) hm (by rw [I.ok.blt]; exact h1.keeps I.bk) ((h2 x hn).trans hv) h) hd
theorem zfu {x : Str} {v : V} {u : Value} {pos : Pos} (hg : Gl X x) (hm : X.mg x = some u) (r : RelV v u) (hd : (x == ("__debug__" : Str)) = false:=by decide) : PE X (.Name x pos) (tC v) :=
 fun _ _ _ H _ I h=>zvz I hg hm ⟨v,H,I,r,h⟩ hd
theorem zqd {x : Str} {v : V} {u : Value} {pos : Pos} (hg : Gl X x) (hm : X.mg x = none) (hv : Zmk x = some u) (r : RelV v u) (hn : x ≠ "__name__" := by decide) (hd : (x == ("__debug__" : Str)) = false:=by decide) : PE X (.Name x pos) (tC v) :=
 fun _ _ _ H _ I h=>zhb I hg hm hv ⟨v,H,I,r,h⟩ hn hd
variable {a b : Expr} {ta tb : TE} {pos : Pos}
noncomputable def PC (X : Cx) (op : Zsv) (a b : Expr) (t : TE) : Prop :=
 ∀ (pins : List (Addr × Obj)) (s : Zhq) (σ : St) (H : Hp) (Q : VK),Inv X pins σ H s->t σ H Q ->
  Zij (Zix X.prog X.w) X.A (eval a X.env) (fun v s₁=>Zij (Zix X.prog X.w) X.A (eval b X.env) (fun u s₂=>Zij (Zix X.prog X.w) X.A (Zkp op v u) (EP X pins σ Q) X.xe s₂) X.xe s₁) X.xe s
noncomputable def tB (t : TE) : TT:=fun σ H Q=>t σ H fun x H1=>∃ c,x = .bl c/\Q c H1
theorem zzw {op : Zsv} {t : TE} (h : PC X op a b t) (h1 : Zmr op b = false:=by first | exact nobehind _ (by decide) (by decide) | rfl) : PE X (.Compare a [op] [b] pos) t:=fun pins s σ H Q I hw=>Zu9 (h pins s σ H Q I hw) h1
theorem zio {op : Zsv} {t : TE} (h : PC X op a b t) (h1 : Zmr op b = false:=by first | exact nobehind _ (by decide) (by decide) | rfl) : PT X (.Compare a [op] [b] pos) (tB t):=by
 intro pins s σ H Q I hw
 refine Zr5 (thn (h pins s σ H _ I hw) fun v s1 h1=>thn h1 fun u s2 h2=>thn h2 fun c s3 hz9=>?_) h1
 obtain ⟨x,H1,I1,r1,q1⟩:=hz9
 obtain ⟨d,rfl,q⟩:=q1
 cases r1
 exact Zjw ⟨H1,I1,q⟩
theorem zgi {e : Expr} {t : TE} (h : PE X e t) (he : ∀ whole,isTrue e X.env whole = (do let v <- whole; standAt e.pos; Zsl [v] (truthy v)):=by intro _; rfl) : PT X e (tB t):=by
 intro pins s σ H Q I hw
 refine isTrue_plain (thn (h pins s σ H _ I hw) fun v s1 hz9=>?_) (he _)
 obtain ⟨x,H1,I1,r1,q1⟩:=hz9
 obtain ⟨d,rfl,q⟩:=q1
 cases r1
 exact Zjw ⟨H1,I1,q⟩
variable {tA tB' : TT} {rest : List Expr}
noncomputable def tAnd (t u : TT) : TT:=fun σ H Q=>t σ H fun c H1=>if c = true then u σ H1 Q else Q false H1
noncomputable def tOr (t u : TT) : TT:=fun σ H Q=>t σ H fun c H1=>if c = true then Q true H1 else u σ H1 Q
noncomputable def tNot (t : TT) : TT:=fun σ H Q=>t σ H fun c H1=>Q (!c) H1
theorem zgs (ha : PT X a tA) : PW X (.BoolOp .And [a] pos) tA:=by
 intro wh pins s σ H Q I h
 refine isTrue_and (thn (ha pins s σ H Q I h) fun c s1 e=>?_)
 cases c with
 | true=>exact isTrue_and_nil e
 | false=>exact e
theorem zir (ha : PT X a tA) : PW X (.BoolOp .Or [a] pos) tA:=by
 intro wh pins s σ H Q I h
 refine isTrue_or (thn (ha pins s σ H Q I h) fun c s1 e=>?_)
 cases c with
 | false=>exact isTrue_or_nil e
 | true=>exact e
theorem zi5 (ha : PT X a tA) (hb : PW X (.BoolOp .And (b::rest) pos) tB') : PW X (.BoolOp .And (a::b::rest) pos) (tAnd tA tB'):=by
 intro wh pins s σ H Q I h
 refine isTrue_and (thn (ha pins s σ H _ I h) fun c s1 hz9=>?_)
 obtain ⟨H1,I1,q1⟩:=hz9
 cases c with
 | true=>exact hb wh pins s1 σ H1 Q I1 q1
 | false=>exact ⟨H1,I1,q1⟩
theorem zkj (ha : PT X a tA) (hb : PW X (.BoolOp .Or (b::rest) pos) tB') : PW X (.BoolOp .Or (a::b::rest) pos) (tOr tA tB'):=by
 intro wh pins s σ H Q I h
 refine isTrue_or (thn (ha pins s σ H _ I h) fun c s1 hz9=>?_)
 obtain ⟨H1,I1,q1⟩:=hz9
 cases c with
 | true=>exact ⟨H1,I1,q1⟩
 | false=>exact hb wh pins s1 σ H1 Q I1 q1
theorem zii (ha : PT X a tA) : PT X (.UnaryOp .Not a pos) (tNot tA):=by
 intro pins s σ H Q I h
 exact isTrue_not (ha pins s σ H (fun c H1=>Q (!c) H1) I h)
noncomputable def ydi (ta tb : TE) : TE:=fun σ H Q=>ta σ H fun x H1=>∃ c,x = .bl c/\if c = true then tb σ H1 Q else Q (.bl false) H1
noncomputable def tOrV (ta tb : TE) : TE:=fun σ H Q=>ta σ H fun x H1=>∃ c,x = .bl c/\if c = true then Q (.bl true) H1 else tb σ H1 Q
noncomputable def ycf (ta : TE) : TE:=fun σ H Q=>ta σ H fun x H1=>∃ c,x = .bl c/\Q (.bl (!c)) H1
theorem zha {op} {t : TE} (h : PE X a t) : PE X (.BoolOp op [a] pos) t:=fun pins s σ H Q I hw=>BoolOp_one (h pins s σ H Q I hw)
theorem zg9 (ha : PE X a ta) (hb : PE X (.BoolOp .And (b::rest) pos) tb) : PE X (.BoolOp .And (a::b::rest) pos) (ydi ta tb):=by
 intro pins s σ H Q I h
 refine BoolOp_and (thn (ha pins s σ H _ I h) fun v s1 hz9=>?_)
 obtain ⟨x,H1,I1,r1,q1⟩:=hz9
 obtain ⟨c,rfl,q1⟩:=q1
 cases r1
 refine Zjw ?_
 cases c with
 | true=>exact hb pins s1 σ H1 Q I1 q1
 | false=>exact ⟨.bl false,H1,I1,rfl,q1⟩
theorem ybn (ha : PE X a ta) (hb : PE X (.BoolOp .Or (b::rest) pos) tb) : PE X (.BoolOp .Or (a::b::rest) pos) (tOrV ta tb):=by
 intro pins s σ H Q I h
 refine BoolOp_or (thn (ha pins s σ H _ I h) fun v s1 hz9=>?_)
 obtain ⟨x,H1,I1,r1,q1⟩:=hz9
 obtain ⟨c,rfl,q1⟩:=q1
 cases r1
 refine Zjw ?_
 cases c with
 | false=>exact hb pins s1 σ H1 Q I1 q1
 | true=>exact ⟨.bl true,H1,I1,rfl,q1⟩
theorem ycn (ha : PE X a ta) : PE X (.UnaryOp .Not a pos) (ycf ta):=by
 intro pins s σ H Q I h
 refine UnaryOp_ (thn (ha pins s σ H _ I h) fun v s1 hz9=>?_)
 obtain ⟨x,H1,I1,r1,q1⟩:=hz9
 obtain ⟨c,rfl,q1⟩:=q1
 cases r1
 exact not_of (Zjw ⟨.bl (!c),H1,I1,rfl,q1⟩)
noncomputable def tIf (t : TT) (ta tb : TE) : TE:=fun σ H Q=>t σ H fun c H1=>if c = true then ta σ H1 Q else tb σ H1 Q
theorem zsk {c : Expr} (hc : PT X c tA) (ha : PE X a ta) (hb : PE X b tb) : PE X (.IfExp c a b pos) (tIf tA ta tb):=by
 intro pins s σ H Q I h
 refine wpAny_IfExp (thn (hc pins s σ H _ I h) fun d s1 hz9=>?_)
 obtain ⟨H1,I1,q1⟩:=hz9
 cases d with
 | true=>exact ha pins s1 σ H1 Q I1 q1
 | false=>exact hb pins s1 σ H1 Q I1 q1
end
noncomputable def SqL (K : Zhi) (H : Hp) (a : Addr) (xs : List V) : Prop :=
 Rd H a (.lst xs) \/
  ∃ (o : Obj) (its : Array Value) (n : Nat),K.lookup a = some o/\o.cls = .type "list" /\ o.dict = none/\o.data = .seq its n/\its.size <= sizeLine/\Vals xs its.toList
noncomputable def SqT (K : Zhi) (H : Hp) (a : Addr) (xs : List V) : Prop :=
 Rd H a (.tup xs) \/
  ∃ (o : Obj) (its : Array Value) (n : Nat),K.lookup a = some o/\o.cls = .type "tuple" /\ o.data = .seq its n/\its.size <= sizeLine/\Vals xs its.toList
noncomputable def absV : Value->Option V
 | .none=>some .non
 | .bool b=>some (.bl b)
 | .int i _=>some (.int i)
 | .str x _=>some (.str x)
 | .bytes b _=>some (.byt b)
 | .float b _=>some (.flt b)
 | .ref a=>some (.ref a)
 | .type n=>some (.ty n)
 | _=>none
theorem RelV.abs {x : V} {u : Value} (r : RelV x u) : absV u = some x:=by
 cases x with
 | non=>cases r; rfl
 | bl _=>cases r; rfl
 | int _=>obtain ⟨t,rfl⟩:=r; rfl
 | str _=>obtain ⟨t,rfl⟩:=r; rfl
 | byt _=>obtain ⟨t,rfl⟩:=r; rfl
 | flt _=>obtain ⟨t,rfl⟩:=r; rfl
 | ref _=>cases r; rfl
 | ty _=>cases r; rfl
theorem RelV.inj {x y : V} {u : Value} (r : RelV x u) (q : RelV y u) : x = y:=Zjf (r.abs.symm.trans q.abs)
theorem Vals.inj : ∀ {xs ys : List V} {us : List Value},Vals xs us->Vals ys us->xs = ys
 | _,_,_,.nil,.nil=>rfl
 | _,_,_,.cons r t,.cons r' t'=>by rw [r.inj r',Vals.inj t t']
section
variable {X : Cx} {pins : List (Addr × Obj)} {σ : St} {H : Hp} {s : Zhq} {a : Addr} {xs ys : List V}
theorem SqL.of {K : Zhi} (h : H a = some (.lst xs)) : SqL K H a xs:=.inl (.inl h)
theorem SqT.of {K : Zhi} (h : H a = some (.tup xs)) : SqT K H a xs:=.inl (.inl h)
theorem Inv.list (I : Inv X pins σ H s) (h : SqL X.K H a xs) : ∃ its : List Value,Vals xs its/\PlainL s.heap a its.toArray/\xs.length <= sizeLine:=by
 rcases h with h | ⟨o,its,n,hk,hc,hd,hs,hz,r⟩
 ·obtain ⟨z,its,n,r,e⟩:=h.ok I.hok
  exact ⟨its,r,⟨_,n,e,rfl,rfl,rfl⟩,z⟩
 ·refine ⟨its.toList,r,⟨o,n,I.kIn a o hk,hc,hd,by simpa using hs⟩,?_⟩
  have e:=r.length
  simp only [Zjq] at e
  omega
theorem Inv.tuple (I : Inv X pins σ H s) (h : SqT X.K H a xs) : ∃ its : List Value,Vals xs its/\IsTup s.heap a its.toArray/\xs.length <= sizeLine:=by
 rcases h with h | ⟨o,its,n,hk,hc,hs,hz,r⟩
 ·obtain ⟨z,its,r,p⟩:=h.ok I.hok
  exact ⟨its,r,p,z⟩
 ·refine ⟨its.toList,r,⟨o,I.kIn a o hk,hc,n,by simpa using hs⟩,?_⟩
  have e:=r.length
  simp only [Zjq] at e
  omega
theorem Inv.list_inj (I : Inv X pins σ H s) (h : SqL X.K H a xs) (h' : SqL X.K H a ys) : xs = ys:=by
 obtain ⟨its,r,⟨o,n,e,_,_,d⟩,_⟩:=I.list h
 obtain ⟨its',r',⟨o',n',e',_,_,d'⟩,_⟩:=I.list h'
 rw [e] at e'; cases e'
 rw [d] at d'
 injection d' with d1 _
 have : its = its':=by simpa using congrArg Array.toList d1
 subst this
 exact r.inj r'
end
noncomputable abbrev Cx.wish (X : Cx) (E : Value->Zhq->Prop) : Cx:={ X with xe:=E }
noncomputable abbrev Cx.nox (X : Cx) : Cx:=X.wish fun _ _=>False
theorem Cx.Ok.wish {X : Cx} (ok : X.Ok) (E : Value->Zhq->Prop) : (X.wish E).Ok :=
 ⟨ok.mod,ok.kind,ok.glob,ok.blt,ok.above,ok.inj,ok.has,ok.cab,ok.hd,ok.frames,ok.stk,ok.exf,ok.bs,ok.bsz,ok.noex,ok.exfs,ok.funs,ok.frf⟩
theorem Cx.Ok.unwish {X : Cx} {E : Value->Zhq->Prop} (ok : (X.wish E).Ok) : X.Ok :=
 ⟨ok.mod,ok.kind,ok.glob,ok.blt,ok.above,ok.inj,ok.has,ok.cab,ok.hd,ok.frames,ok.stk,ok.exf,ok.bs,ok.bsz,ok.noex,ok.exfs,ok.funs,ok.frf⟩
section
variable {X : Cx} {pins : List (Addr × Obj)} {σ : St} {H : Hp} {s : Zhq} {E : Value->Zhq->Prop}
theorem Inv.wish (I : Inv X pins σ H s) (E : Value->Zhq->Prop) : Inv (X.wish E) pins σ H s:=⟨I.ok.wish E,I.os,I.bare,I.base,I.loc,I.cell,I.free,I.freeC,I.pin,I.hok,I.len⟩
theorem Inv.unwish (I : Inv (X.wish E) pins σ H s) : Inv X pins σ H s:=⟨I.ok.unwish,I.os,I.bare,I.base,I.loc,I.cell,I.free,I.freeC,I.pin,I.hok,I.len⟩
theorem SP.unwish {D : Ends} {f : Flow} {s' : Zhq} (h : SP (X.wish E) pins D f s') : SP X pins D f s':=by
 cases f with
 | next=>obtain ⟨σ',H',I,q⟩:=h; exact ⟨σ',H',I.unwish,q⟩
 | brk=>obtain ⟨σ',H',I,q⟩:=h; exact ⟨σ',H',I.unwish,q⟩
 | cont=>obtain ⟨σ',H',I,q⟩:=h; exact ⟨σ',H',I.unwish,q⟩
 | ret u=>obtain ⟨v,σ',H',I,r,q⟩:=h; exact ⟨v,σ',H',I.unwish,r,q⟩
theorem PSs.nox {st : List Stmt} {t : TS} (h : PSs X.nox st t) : PSs X st t:=fun pins s σ H D I hw =>
 Zj8 (h pins s σ H D (I.wish _) hw) (fun _ _ q=>q.unwish) fun _ _ z=>Zlu z
end
section
variable {X : Cx} {st : Stmt} {rest : List Stmt} {t u : TS} {e : Expr} {te : TE} {pos : Pos}
noncomputable def ydl : TS:=fun D σ H=>D.nx σ H
noncomputable def tSeq (t u : TS) : TS:=fun D σ H=>t { D with nx:=u D } σ H
theorem zax : PSs X [] ydl:=fun _ _ σ H _ I h=>Zoa ⟨σ,H,I,h⟩
theorem zad (h1 : PS X st t) (h2 : PSs X rest u) : PSs X (st::rest) (tSeq t u):=by
 intro pins s σ H D I h
 refine Zt7 (thn (h1 pins s σ H { D with nx:=u D } I h) fun f s1 q=>?_)
 cases f with
 | next =>
  obtain ⟨σ',H',I',q⟩:=q
  exact h2 pins s1 σ' H' D I' q
 | ret v=>exact q
 | brk=>exact q
 | cont=>exact q
theorem zag (h1 : PS X st t) : PSs X [st] t:=by
 intro pins s σ H D I h
 refine Zt7 (thn (h1 pins s σ H D I h) fun f s1 q=>?_)
 cases f with
 | next=>exact Zoa q
 | ret v=>exact q
 | brk=>exact q
 | cont=>exact q
theorem Inv.quiet {pins : List (Addr × Obj)} {σ : St} {H : Hp} {s : Zhq} (I : Inv X pins σ H s) : interactive X.env = false:=by simp [interactive,I.ok.kind]
noncomputable def yb2 (te : TE) : TS:=fun D σ H=>te σ H fun _ H1=>D.nx σ H1
theorem ze9 (he : PE X e te) (hs : Zqs e none pos.line X.env = pure false:=by rfl) : PS X (.Expr e pos) (yb2 te):=by
 intro pins s σ H D I h
 exact wpAny_Expr_any (thn (he pins s σ H _ I h) fun v s1 ⟨x,H1,I1,r1,q1⟩=>⟨σ,H1,I1,q1⟩) I.quiet hs
noncomputable def tRet (te : TE) : TS:=fun D σ H=>te σ H D.rt
theorem zas (he : PE X e te) : PS X (.Return (some e) pos) (tRet te):=by
 intro pins s σ H D I h
 exact wpAny_Return_some (thn (he pins s σ H _ I h) fun v s1 ⟨x,H1,I1,r1,q1⟩=>⟨x,σ,H1,I1,r1,q1⟩)
noncomputable def tIfS (c : TT) (t u : TS) : TS:=fun D σ H=>c σ H fun b H1=>if b = true then t D σ H1 else u D σ H1
theorem zbi {c : Expr} {a b : List Stmt} {tc : TT} (hc : PT X c tc) (ha : PSs X a t) (hb : PSs X b u) : PS X (.If c a b pos) (tIfS tc t u):=by
 intro pins s σ H D I h
 refine wpAny_If (thn (hc pins s σ H _ I h) fun d s1 hz9=>?_)
 obtain ⟨H1,I1,q1⟩:=hz9
 cases d with
 | true=>exact ha pins s1 σ H1 D I1 q1
 | false=>exact hb pins s1 σ H1 D I1 q1
noncomputable def ycs : TS:=fun _ _ _=>False
theorem zsn : PS X st ycs:=fun _ _ _ _ _ _ h=>h.elim
end
noncomputable abbrev TG:=V->St->Hp->(St->Hp->Prop)->Prop
noncomputable abbrev TGs:=List V->St->Hp->(St->Hp->Prop)->Prop
noncomputable def PG (X : Cx) (target : Expr) (t : TG) : Prop :=
 ∀ (pins : List (Addr × Obj)) (s : Zhq) (σ : St) (H : Hp) (v : V) (u : Value) (Q : St->Hp->Prop),Inv X pins σ H s->RelV v u->t v σ H Q ->
  Zij (Zix X.prog X.w) X.A (Zr8 target X.env u) (fun _ s'=>∃ σ' H',Inv X pins σ' H' s'/\Q σ' H') X.xe s
noncomputable def PGs (X : Cx) (ts : List Expr) (t : TGs) : Prop :=
 ∀ (pins : List (Addr × Obj)) (s : Zhq) (σ : St) (H : Hp) (vs : List V) (us : List Value) (Q : St->Hp->Prop),Inv X pins σ H s->Vals vs us->t vs σ H Q ->
  Zij (Zix X.prog X.w) X.A (assignInOrder ((Zoj ts X.env).map (·.2)) us) (fun _ s'=>∃ σ' H',Inv X pins σ' H' s'/\Q σ' H') X.xe s
section
variable {X : Cx} {pos : Pos}
noncomputable def zhv (i : Nat) : TG:=fun v σ H Q=>Q (σ.set i (some v)) H
theorem zbx {i : Nat} {x : Str} (hN : X.N.Nodup) (hi : X.N[i]? = some x) (hx : Loc X.env.scope x) (hf : X.fn x = true \/ X.env.scope.names.lookup x = some .local:=by first | exact .inl rfl | exact .inr rfl | assumption) : PG X (.Name x pos) (zhv i):=by
 intro pins s σ H v u Q I r h
 exact Ztc (zr1 I hN hi hx r (fun s' I'=>⟨_,H,I',h⟩) hf)
noncomputable def gNil : TGs:=fun vs σ H Q=>vs = []/\Q σ H
noncomputable def ybl (t : TG) (u : TGs) : TGs:=fun vs σ H Q=>∃ v r,vs = v::r/\t v σ H fun σ' H'=>u r σ' H' Q
theorem zbs : PGs X [] gNil:=by
 intro pins s σ H vs us Q I r h
 obtain ⟨e,h⟩:=h
 subst e
 cases r
 exact assignInOrder_nil ⟨σ,H,I,h⟩
theorem zaq {e : Expr} {es : List Expr} {t : TG} {u : TGs} (h1 : PG X e t) (h2 : PGs X es u)
  (hs : (Zoj (e::es) X.env).map (·.2) = Zr8 e X.env::(Zoj es X.env).map (·.2):=by rfl) : PGs X (e::es) (ybl t u):=by
 intro pins s σ H vs us Q I r h
 obtain ⟨v,vr,e1,h⟩:=h
 subst e1
 cases r with
 | cons r rr =>
  rw [hs]
  refine assignInOrder_cons (thn (h1 pins s σ H _ _ _ I r h) fun _ s1 hz9=>?_)
  obtain ⟨σ1,H1,I1,q1⟩:=hz9
  exact h2 pins s1 σ1 H1 _ _ Q I1 rr q1
noncomputable def gTup (K : Zhi) (n : Nat) (t : TGs) : TG:=fun v σ H Q=>∃ a xs,v = .ref a/\SqT K H a xs/\xs.length = n/\t xs σ H Q
theorem zcq {es : List Expr} {k : Nat} {t : TGs} {n : Nat} (hc : X.calm = true) (h : PGs X es t)
  (hn : (Zoj es X.env).length = n:=by rfl) (hst : (Zoj es X.env).findIdx? (·.1) = none:=by rfl) : PG X (.Tuple es k pos) (gTup X.K n t):=by
 intro pins s σ H v u Q I r hw
 obtain ⟨a,xs,e1,hq,hl,hw⟩:=hw
 subst e1
 cases r
 obtain ⟨its,rv,ht,hz⟩:=I.tuple hq
 refine assign_Tuple_tuple (I.ok.hd hc) ht (by simp [hn,<- hl,rv.length]) hst fun h' hx=>?_
 have I1 : Inv X pins σ H { s with heap:=h' }:=I.kept (t':=s.toks) fun b o e=>hx b o (Zic (Zhy e)) e
 exact h pins _ σ H xs _ Q I1 (by simpa using rv) hw
noncomputable def tAsg (te : TE) (g : TG) : TS:=fun D σ H=>te σ H fun x H1=>g x σ H1 D.nx
theorem zue {tg e : Expr} {te : TE} {g : TG} (he : PE X e te) (hg : PG X tg g) (hs : swapsWithSole [tg] e pos.line X.env = pure false:=by rfl) (hw : swappedStores [tg] e X.env = pure none:=by rfl)
  (h1 : (Zoj [tg] X.env).map (·.2) = [Zr8 tg X.env]:=by rfl) : PS X (.Assign [tg] e pos) (tAsg te g):=by
 intro pins s σ H D I h
 refine wpAny_Assign_stores (thn (he pins s σ H _ I h) fun v s1 hz9=>?_) hs hw
 obtain ⟨x,H1,I1,r1,q1⟩:=hz9
 rw [h1]
 exact thn (hg pins s1 σ H1 x v _ I1 r1 q1) fun _ s2 q=>q
theorem zv9 {i : Nat} {x : Str} {e : Expr} {te : TE} {pos' : Pos} (hN : X.N.Nodup) (hi : X.N[i]? = some x) (hx : Loc X.env.scope x) (he : PE X e te) (hs : Zqs e (some (.Name x pos')) pos.line X.env = pure false:=by rfl) (hf : X.fn x = true \/ X.env.scope.names.lookup x = some .local:=by first | exact .inl rfl | exact .inr rfl | assumption) :
  PS X (.Assign [.Name x pos'] e pos) (tAsg te (zhv i)):=by
 intro pins s σ H D I h
 refine wpAny_Assign_Name (thn (he pins s σ H _ I h) fun v s1 hz9=>?_) hs
 obtain ⟨y,H1,I1,r1,q1⟩:=hz9
 exact zr1 I1 hN hi hx r1 (fun s2 I2=>⟨_,H1,I2,q1⟩) hf
end
section
variable {X : Cx} {pos : Pos}
noncomputable def zz1 (c : TT) (tb : TS) : TS:=fun D σ H=>∃ W : Nat->St->Hp->Prop,(∃ m,W m σ H) /\ ∀ m σ H,W m σ H ->
 c σ H fun b H1=>if b = true then ∃ N : St->Hp->Prop,(∀ σ' H',N σ' H' -> ∃ m',m' < m/\W m' σ' H')/\tb { D with nx:=N,ct:=N,bk:=D.nx } σ H1 else D.nx σ H1
theorem zxn {c : Expr} {body : List Stmt} {tc : TT} {tb : TS} (hp : Ziz (Zix X.prog X.w) X.A X.env X.xe) (hc : PT X c tc) (hb : PSs X body tb) : PS X (.While c body [] pos) (zz1 tc tb):=by
 intro pins s σ H D I h
 obtain ⟨W,⟨m0,w0⟩,turn⟩:=h
 refine wpAny_While (codeAny_whileLoop (fun n s'=>∃ σ' H',Inv X pins σ' H' s'/\W n σ' H') ?_ m0 ⟨σ,H,I,w0⟩)
 rintro n s1 ⟨σ1,H1,I1,w1⟩
 refine Zln hp (thn (hc pins s1 σ1 H1 _ I1 (turn n σ1 H1 w1)) fun b s2 hz9=>?_)
 obtain ⟨H2,I2,q2⟩:=hz9
 cases b with
 | true =>
  obtain ⟨N,hN,q2⟩:=q2
  rw [if_pos rfl]
  refine Zln hp (thn (hb pins s2 σ1 H2 _ I2 q2) fun f s3 q3=>?_)
  cases f with
  | next =>
   obtain ⟨σ3,H3,I3,n3⟩:=q3
   obtain ⟨m',hm,w3⟩:=hN σ3 H3 n3
   exact ⟨m',hm,σ3,H3,I3,w3⟩
  | cont =>
   obtain ⟨σ3,H3,I3,n3⟩:=q3
   obtain ⟨m',hm,w3⟩:=hN σ3 H3 n3
   exact ⟨m',hm,σ3,H3,I3,w3⟩
  | brk=>exact q3
  | ret v=>exact q3
 | false =>
  rw [if_neg Zih]
  exact Zoa ⟨σ1,H2,I2,q2⟩
end
structure It where
 go : Nat->Hp->Prop
 yld : Nat->Hp->V->Hp->Prop
 stop : Nat->Hp->Prop
noncomputable def FpOk (X : Cx) (pins : List (Addr × Obj)) (H : Hp) (b : Addr) : Prop :=
 H b = none/\b≠X.env.locals/\b ∉ X.fs/\(b∈X.ex \/ X.s₀.heap.objs.size <= b)/\(∀ x c,X.env.cells.lookup x = some c->c≠b) /\ ∀ p∈X.pn++pins,p.1≠b
theorem Inv.fpOk {X : Cx} {pins : List (Addr × Obj)} {σ : St} {H H' : Hp} {s : Zhq} {b : Addr} (I : Inv X pins σ H s) (hb : s.heap.objs.size <= b) (hn : H' b = none) : FpOk X pins H' b:=by
 refine ⟨hn,Zmu (Zh9 I.lt hb),I.nofs hb,.inr (Zik I.sz hb),fun x c e z=>?_,fun p hp z=>?_⟩
 ·obtain ⟨v,q⟩:=I.cell x c e
  exact absurd (Zh9 q.lt (by rw [z]; exact hb)) (Zi3 _)
 ·exact absurd (Zh9 (Zhy (I.pin p hp).1) (by rw [z]; exact hb)) (Zi3 _)
structure Turn (P : Ziq) (w : Zjv) (K : Zhi) (tg : Expr) (J : It) (fp : List Addr) (it : Addr) (tn : Nat->Heap->Prop) : Prop where
 mem : it∈fp
 obj : ∀ i h,tn i h -> ∀ b∈fp,∃ o,h.get? b = some o /\ ∀ v,o.data ≠ .cell v
 keep : ∀ i h h',tn i h->(∀ b∈fp,∀ o,h.get? b = some o->h'.get? b = some o)->tn i h'
 item : ∀ (X : Cx),X.prog = P->X.w = w->X.K = K->X.calm = true -> ∀ (i : Nat) (pins : List (Addr × Obj)) (s : Zhq) (σ : St) (H : Hp) (E : Value->Zhq->Prop),Inv X pins σ H s->(∀ b∈fp,FpOk X pins H b)->tn i s.heap->J.go i H ->
  Zij (Zix P w) X.A (Zpc (.ref it)) (fun r s1=>∃ u,r = some u /\
   Zij (Zix P w) X.A (Zob tg (.ref it) u) (fun _ s2=>∃ x H',Inv X pins σ H' s2/\RelV x u/\J.yld i H x H'/\tn (i + 1) s2.heap /\ ∀ b∈fp,H' b = none) E s1) E s
 done : ∀ (X : Cx),X.prog = P->X.w = w->X.K = K->X.calm = true -> ∀ (i : Nat) (pins : List (Addr × Obj)) (s : Zhq) (σ : St) (H : Hp) (E : Value->Zhq->Prop),Inv X pins σ H s->(∀ b∈fp,FpOk X pins H b)->tn i s.heap->J.stop i H ->
  Zij (Zix P w) X.A (Zpc (.ref it)) (fun r s1=>r = none/\Inv X pins σ H s1) E s
 self : ∀ (A : Zi0) (i : Nat) (s : Zhq) (Q : Value->Zhq->Prop) (E : Value->Zhq->Prop),tn i s.heap->Q (.ref it) s->Zij (Zix P w) A (pyIter (.ref it)) Q E s
noncomputable abbrev TI:=St->Hp->(It->Hp->Prop)->Prop
noncomputable def PIE (X : Cx) (pins : List (Addr × Obj)) (σ : St) (tg : Expr) (R : It->Hp->Prop) (itv : Value) (s2 : Zhq) : Prop :=
 ∃ (it : Addr) (fp : List Addr) (tn : Nat->Heap->Prop) (J : It) (H' : Hp),itv = .ref it/\Inv X pins σ H' s2/\Turn X.prog X.w X.K tg J fp it tn/\tn 0 s2.heap/\(∀ b∈fp,FpOk X pins H' b)/\R J H'
noncomputable def PI (X : Cx) (tg iter : Expr) (wi : TI) : Prop :=
 ∀ (pins : List (Addr × Obj)) (s : Zhq) (σ : St) (H : Hp) (R : It->Hp->Prop),Inv X pins σ H s->wi σ H R ->
  Zij (Zix X.prog X.w) X.A (eval iter X.env) (fun v s1=>Zij (Zix X.prog X.w) X.A (pyIter v) (PIE X pins σ tg R) X.xe s1) X.xe s
theorem yct {M : Model} {A : Zi0} {E : Value -> Zhq -> Prop} {s : Zhq} {tg : Expr} {it : Addr} {u : Value} {o : Obj} {n : String} {vs : Array Value} {Q : Unit -> Zhq -> Prop} (ho : s.heap.get? it = some o) (hc : o.cls = .type n) (hd : o.data = .fields vs)
    (hn : ["enumerate", "zip", "dict_itemiterator", "dict_reverseitemiterator", "odict_iterator", "itertools.zip_longest", "itertools.pairwise"].contains n = false) (hQ : Q () s) : Zij M A (Zob tg (.ref it) u) Q E s:=by
  unfold Zob
  cases tg <;> first
    | exact Zhz hQ
    | (cases u <;> first
        | exact Zhz hQ
        | (refine Zhl (wpAny_load ho ?_)
           rw [hc,hd]
           show Zij M A (if (["enumerate", "zip", "dict_itemiterator", "dict_reverseitemiterator", "odict_iterator", "itertools.zip_longest", "itertools.pairwise"].contains n && vs[0]? == some (Zu1 _)) = true then _ else _) Q E s
           rw [if_neg (by intro h; rw [hn,Zmx] at h; cases h)]
           exact Zhz hQ))
noncomputable def Itl (K : Zhi) (a : Addr) : It :=
 ⟨fun i H=>∃ xs x,SqL K H a xs/\xs[i]? = some x,fun i H x H'=>H' = H /\ ∀ xs,SqL K H a xs->xs[i]? = some x,fun i H=>∃ xs,SqL K H a xs/\xs.length <= i⟩
noncomputable def Itr (lo : Int) (n : Nat) : It:=⟨fun i _=>i < n,fun i H x H'=>H' = H/\x = .int (lo + i),fun i _=>n <= i⟩
theorem zu5 {P : Ziq} {w : Zjv} {K : Zhi} {tg : Expr} (a it : Addr) : Turn P w K tg (Itl K a) [it] it (fun i h=>h.IsListIter it a i) where
 mem:=by simp
 obj:=fun i h st b hb=>by
  have e : b = it:=by simpa using hb
  subst e
  obtain ⟨o,e,c,d⟩:=st
  exact ⟨o,e,fun v z=>by rw [d] at z; cases z⟩
 keep:=fun i h h' st k=>st.at fun o e=>k it (by simp) o e
 item:=by
  intro X hP hw hK hc i pins s σ H E I hf st hg
  subst hP hw hK
  obtain ⟨xs,x,hq,hx⟩:=hg
  obtain ⟨its,rv,p,hz⟩:=I.list hq
  obtain ⟨u,hu,ru⟩:=rv.get hx
  obtain ⟨f0,f1,f2,f3,f4,f5⟩:=hf it (by simp)
  refine wpAny_pyNext_list_item st p.isList (x:=u) (by simpa using hu) fun h' st' sb=>?_
  have I1 : Inv X pins σ H { s with heap:=h' }:=I.turned (t':=s.toks) (fun b o hb e=>(sb.2 b hb).trans e) f0 f1 f3 f4 f5
  obtain ⟨o,e,c,d⟩:=id st'
  exact ⟨u,rfl,yct (s:={ s with heap:=h' }) e c d (by decide) ⟨x,H,I1,ru,⟨rfl,fun ys hy=>by rw [I.list_inj hy hq]; exact hx⟩,st',fun b hb=>(hf b hb).1⟩⟩
 done:=by
  intro X hP hw hK hc i pins s σ H E I hf st hg
  subst hP hw hK
  obtain ⟨xs,hq,hx⟩:=hg
  obtain ⟨its,rv,p,hz⟩:=I.list hq
  obtain ⟨f0,f1,f2,f3,f4,f5⟩:=hf it (by simp)
  have hl:=rv.length
  exact wpAny_pyNext_list_end (I.ok.hd hc) st p.isList (by simp; omega) fun h' eb=>⟨rfl,I.turned (t':=s.toks) (fun b o hb e=>eb b o hb e) f0 f1 f3 f4 f5⟩
 self:=fun _ _ _ _ _ st h=>wpAny_pyIter_listiter st h
theorem zs8 {P : Ziq} {w : Zjv} {K : Zhi} {tg : Expr} (it : Addr) (lo : Int) (n : Nat) : Turn P w K tg (Itr lo n) [it] it (fun i h=>IsRangeIter h it (lo + (i : Nat) * 1) ((n : Int) - (i : Nat)) 1) where
 mem:=by simp
 obj:=fun i h st b hb=>by
  have e : b = it:=by simpa using hb
  subst e
  exact ⟨_,st,fun v z=>by
   have z' : Data.fields _ = Data.cell v:=z
   cases z'⟩
 keep:=fun i h h' st k=>k it (by simp) _ st
 item:=by
  intro X hP hw hK hc i pins s σ H E I hf st hg
  subst hP hw hK
  obtain ⟨f0,f1,f2,f3,f4,f5⟩:=hf it (by simp)
  have W:=Walks.range (prog:=X.prog) (w:=X.w) (I.ok.hd hc) it lo 1 n
  refine W.item i s _ _ hg st fun v h' tk hv st' kk=>?_
  obtain ⟨t,rfl⟩:=hv
  have I1 : Inv X pins σ H { s with heap:=h',toks:=tk }:=I.turned (fun b o hb e=>kk b o (by simpa using hb) e) f0 f1 f3 f4 f5
  refine ⟨_,rfl,yct (s:={ s with heap:=h',toks:=tk }) (n:="range_iterator") st' rfl rfl (by decide) ⟨.int (lo + i),H,I1,⟨t,?_⟩,⟨rfl,rfl⟩,st',fun b hb=>(hf b hb).1⟩⟩
  rw [Zu6]
 done:=by
  intro X hP hw hK hc i pins s σ H E I hf st hg
  subst hP hw hK
  obtain ⟨f0,f1,f2,f3,f4,f5⟩:=hf it (by simp)
  exact wpAny_pyNext_range_end (I.ok.hd hc) st (by have : n <= i:=hg; omega) fun h' eb=>⟨rfl,I.turned (t':=s.toks) (fun b o hb e=>eb b o hb e) f0 f1 f3 f4 f5⟩
 self:=fun _ _ _ _ _ st h=>wpAny_pyIter_rangeiter st h
section
variable {X : Cx} {tg : Expr}
noncomputable def zv3 (K : Zhi) (tl : TE) : TI:=fun σ H R=>tl σ H fun x H1=>∃ a,x = .ref a/\(∃ xs,SqL K H1 a xs)/\R (Itl K a) H1
theorem zbc {l : Expr} {tl : TE} (hl : PE X l tl) : PI X tg l (zv3 X.K tl):=by
 intro pins s σ H R I h
 refine thn (hl pins s σ H _ I h) fun v s1 hz9=>?_
 obtain ⟨x,H1,I1,r1,q1⟩:=hz9
 obtain ⟨a,e,⟨xs,hq⟩,q⟩:=q1
 subst e
 cases r1
 obtain ⟨its,rv,p,hz⟩:=I1.list hq
 refine Znj p.isList ?_
 refine ⟨s1.heap.objs.size,[s1.heap.objs.size],_,_,H1,rfl,I1.kept (t':=s1.toks) fun b o e=>Zhr _ e,zu5 a _,⟨_,Zh6 _ rfl,rfl,rfl⟩,fun b hb=>?_,q⟩
 have e : b = s1.heap.objs.size:=by simpa using hb
 subst e
 exact I1.fpOk (Zhu _) (I1.hok.fresh (Zhu _))
theorem zri {pins : List (Addr × Obj)} {σ : St} {H : Hp} {s : Zhq} {R : It->Hp->Prop} {E : Value->Zhq->Prop} {lo hi : Int} {t u v : Tok} {tk : Nat} (I : Inv X pins σ H s) (h1 : -(2 ^ 62) <= lo) (h2 : lo < 2 ^ 62) (h3 : -(2 ^ 62) <= hi) (h4 : hi < 2 ^ 62)
  (q : R (Itr lo (hi - lo).toNat) H) : Zij (Zix X.prog X.w) X.A (pyIter (.ref s.heap.objs.size)) (PIE X pins σ tg R) E { s with heap:=s.heap.push { cls:=.type "range", data:=.fields #[.int lo t,.int hi u,.int 1 v] },toks:=tk }:=by
 refine wpAny_pyIter_range (IsRange.new ..) (small_one h1 h2 h3 h4) ?_
 have I1 : Inv X pins σ H { s with heap:=s.heap.push { cls:=.type "range", data:=.fields #[.int lo t,.int hi u,.int 1 v] },toks:=tk }:=I.kept fun b o e=>Zhr _ e
 refine ⟨(s.heap.push { cls:=.type "range", data:=.fields #[.int lo t,.int hi u,.int 1 v] }).objs.size,[(s.heap.push { cls:=.type "range", data:=.fields #[.int lo t,.int hi u,.int 1 v] }).objs.size],_,_,H,rfl,
  I1.kept (t':=tk) fun b o e=>Zhr _ e,zs8 _ lo (hi - lo).toNat,?_,fun b hb=>?_,q⟩
 ·have e1 : lo + ((0 : Nat) : Int) * 1 = lo:=by simp
  have e2 : (((hi - lo).toNat : Nat) : Int) - ((0 : Nat) : Int) = Zll lo hi 1:=by rw [rangeSize_one]; split <;> omega
  show IsRangeIter _ _ (lo + ((0 : Nat) : Int) * 1) ((((hi - lo).toNat : Nat) : Int) - ((0 : Nat) : Int)) 1
  rw [e1,e2]
  exact Zh6 _ rfl
 ·have e : b = (s.heap.push { cls:=.type "range", data:=.fields #[.int lo t,.int hi u,.int 1 v] }).objs.size:=by simpa using hb
  subst e
  exact I1.fpOk (Zhu _) (I1.hok.fresh (Zhu _))
noncomputable def ydr (ta : TA) : TI:=fun σ H R=>ta σ H fun vs H1=>∃ j : Int,vs = [.int j] /\ -(2 ^ 62) <= j/\j < 2 ^ 62/\R (Itr 0 j.toNat) H1
noncomputable def ydv (ta : TA) : TI:=fun σ H R=>ta σ H fun vs H1=>∃ i j : Int,vs = [.int i,.int j]/\(-(2 ^ 62) <= i/\i < 2 ^ 62 /\ -(2 ^ 62) <= j/\j < 2 ^ 62)/\R (Itr i (j - i).toNat) H1
theorem zf6 {a : Expr} {ta : TA} {p pos : Pos} (hg : Gl X "range") (hm : X.mg "range" = none) (ha : PA X [a] ta) (hs : Zi6 [a] X.env = [(false,eval a X.env)]:=by rfl) : PI X tg (.Call (.Name "range" p) [a] [] pos) (ydr ta):=by
 intro pins s σ H R I h
 refine Zu8 (zhb I hg hm Ztk (Zi7 (thn (ha pos pins s σ H _ I h) fun us s1 hz9=>?_) hs rfl))
 obtain ⟨vs,H1,I1,r1,q1⟩:=hz9
 obtain ⟨j,e,q1,q2,q⟩:=q1
 subst e
 cases r1 with
 | cons r rr =>
  cases rr
  obtain ⟨t,rfl⟩:=r
  exact call_range_1 (zri I1 (by omega) (by omega) q1 q2 (by simpa using q))
theorem zuy {a b : Expr} {ta : TA} {p pos : Pos} (hg : Gl X "range") (hm : X.mg "range" = none) (ha : PA X [a,b] ta) (hs : Zi6 [a,b] X.env = [(false,eval a X.env),(false,eval b X.env)]:=by rfl) (hs2 : Zi6 [b] X.env = [(false,eval b X.env)]:=by rfl) :
  PI X tg (.Call (.Name "range" p) [a,b] [] pos) (ydv ta):=by
 intro pins s σ H R I h
 refine Zu8 (zhb I hg hm Ztk (Zi7 (thn (ha pos pins s σ H _ I h) fun us s1 hz9=>?_) (by rw [hs,hs2]) (by rw [hs2]; rfl)))
 obtain ⟨vs,H1,I1,r1,q1⟩:=hz9
 obtain ⟨i,j,e,⟨q1,q2,q3,q4⟩,q⟩:=q1
 subst e
 cases r1 with
 | cons r rr =>
  cases rr with
  | cons r' rr =>
   cases rr
   obtain ⟨t,rfl⟩:=r
   obtain ⟨t',rfl⟩:=r'
   exact call_range_2 (zri I1 q1 q2 q3 q4 q)
noncomputable def tFor (wi : TI) (g : TG) (tb : TS) : TS:=fun D σ H=>wi σ H fun J H1=>∃ W : Nat->Nat->St->Hp->Prop,(∃ m,W 0 m σ H1) /\ ∀ i m σ H,W i m σ H ->
 (J.stop i H/\D.nx σ H) \/ (J.go i H /\ ∃ N : St->Hp->Prop,(∀ σ' H',N σ' H' -> ∃ m',m' < m/\W (i + 1) m' σ' H') /\ ∀ x H',J.yld i H x H'->g x σ H' fun σ2 H2=>tb { D with nx:=N,ct:=N,bk:=D.nx } σ2 H2)
noncomputable def zpb (fp : List Addr) (h : Heap) : List (Addr × Obj):=fp.filterMap fun b=>(h.get? b).map fun o=>(b,o)
theorem zh1 {fp : List Addr} {h : Heap} {b : Addr} {o : Obj} (hb : b∈fp) (e : h.get? b = some o) : (b,o)∈zpb fp h:=Zrs.mpr ⟨b,hb,by rw [e]; rfl⟩
theorem zuc {fp : List Addr} {h : Heap} {p : Addr × Obj} (hp : p∈zpb fp h) : p.1∈fp/\h.get? p.1 = some p.2:=by
 obtain ⟨b,hb,e⟩:=Zrs.mp hp
 cases q : h.get? b with
 | none=>rw [q] at e; cases e
 | some o =>
  rw [q] at e
  have e' : (b,o) = p:=Zjf e
  subst e'
  exact ⟨hb,q⟩
theorem Inv.pinned {pins : List (Addr × Obj)} {σ : St} {H : Hp} {s : Zhq} {fp : List Addr} (I : Inv X pins σ H s) (hf : ∀ b∈fp,FpOk X pins H b) (ho : ∀ b∈fp,∃ o,s.heap.get? b = some o /\ ∀ v,o.data ≠ .cell v) : Inv X (pins++zpb fp s.heap) σ H s :=
 I.pins_of fun p hp=>(Zhw.mp hp).elim (fun z=>I.pin p (Zht _ z)) fun z=>by
  obtain ⟨hb,e⟩:=zuc z
  obtain ⟨f0,f1,f2,_⟩:=hf p.1 hb
  obtain ⟨o,e',d⟩:=ho p.1 hb
  rw [e] at e'; cases e'
  exact ⟨e,f0,f1,f2,d⟩
theorem Inv.unpinned {pins pl : List (Addr × Obj)} {σ : St} {H : Hp} {s : Zhq} (I : Inv X (pins++pl) σ H s) : Inv X pins σ H s:=I.pins_of fun p hp=>I.pin p (Zht _ (Zig _ hp))
theorem zbo {iter : Expr} {body : List Stmt} {wi : TI} {g : TG} {tb : TS} {pos : Pos} (hp : Ziz (Zix X.prog X.w) X.A X.env X.xe) (hc : X.calm = true) (hi : PI X tg iter wi) (hg : PG X tg g) (hb : PSs X body tb)
  (hs : ∀ x,Znk iter X.env x = pure x:=by intro _; rfl) : PS X (.For tg iter body [] pos) (tFor wi g tb):=by
 intro pins s σ H D I h
 refine wpAny_For (thn (hi pins s σ H _ I h) fun v s1 h1=>thn h1 fun itv s2 h2=>?_) hs
 obtain ⟨it,fp,tn,J,H2,e,I2,T,st2,f2,W,⟨m0,w0⟩,turn⟩:=h2
 subst e
 -- what stays true of the iterator's objects through the loop
 have stat : ∀ {H' : Hp},(∀ b∈fp,H' b = none) -> ∀ b∈fp,FpOk X pins H' b:=fun hn b hb=>⟨hn b hb,(f2 b hb).2⟩
 refine codeAny_forLoop_any (fun n s'=>∃ i σ' H',Inv X pins σ' H' s'/\tn i s'.heap/\(∀ b∈fp,H' b = none)/\W i n σ' H') ?_ m0 ⟨0,σ,H2,I2,st2,fun b hb=>(f2 b hb).1,w0⟩
 rintro n s3 ⟨i,σ3,H3,I3,st3,fr3,w3⟩
 rcases turn i n σ3 H3 w3 with ⟨stop,qn⟩ | ⟨go,N,hN,step⟩
 ·refine Zln hp (thn (T.done X rfl rfl rfl hc i pins s3 σ3 H3 X.xe I3 (stat fr3) st3 stop) fun r s4 hz9=>?_)
  obtain ⟨hr,I4⟩:=hz9
  subst hr
  exact Zoa ⟨σ3,H3,I4,qn⟩
 ·refine Zln hp (thn (T.item X rfl rfl rfl hc i pins s3 σ3 H3 X.xe I3 (stat fr3) st3 go) fun r s4 hz9=>?_)
  obtain ⟨u,hr,h4⟩:=hz9
  subst hr
  refine Zln hp (thn h4 fun _ s5 hz9=>?_)
  obtain ⟨x,H5,I5,r5,y5,st5,fr5⟩:=hz9
  have I5':=I5.pinned (stat fr5) (T.obj _ _ st5)
  refine Zln hp (thn (hg _ s5 σ3 H5 x u _ I5' r5 (step x H5 y5)) fun _ s6 hz9=>?_)
  obtain ⟨σ6,H6,I6,q6⟩:=hz9
  refine Zln hp (thn (hb _ s6 σ6 H6 _ I6 q6) fun f s7 q7=>?_)
  have again : ∀ {σ7 : St} {H7 : Hp},Inv X (pins++zpb fp s5.heap) σ7 H7 s7->N σ7 H7 -> ∃ m,m < n /\ ∃ i σ' H',Inv X pins σ' H' s7/\tn i s7.heap/\(∀ b∈fp,H' b = none)/\W i m σ' H':=fun {σ7 H7} I7 n7=>by
   obtain ⟨m',hm,w7⟩:=hN σ7 H7 n7
   refine ⟨m',hm,i + 1,σ7,H7,I7.unpinned,T.keep _ _ _ st5 fun b hb o e=>(I7.pin (b,o) (Zht _ (Zht _ (zh1 hb e)))).1,fun b hb=>?_,w7⟩
   obtain ⟨o,e,d⟩:=T.obj _ _ st5 b hb
   exact (I7.pin (b,o) (Zht _ (Zht _ (zh1 hb e)))).2.1
  cases f with
  | next=>obtain ⟨σ7,H7,I7,n7⟩:=q7; exact again I7 n7
  | cont=>obtain ⟨σ7,H7,I7,n7⟩:=q7; exact again I7 n7
  | brk=>obtain ⟨σ7,H7,I7,q7⟩:=q7; exact ⟨σ7,H7,I7.unpinned,q7⟩
  | ret v=>obtain ⟨x7,σ7,H7,I7,r7,q7⟩:=q7; exact ⟨x7,σ7,H7,I7.unpinned,r7,q7⟩
end
noncomputable abbrev R2:=V->V->Hp->VK->Prop
noncomputable def OpR (X : Cx) (f : Value->Value->Sem Value) (r : R2) : Prop :=
 ∀ (pins : List (Addr × Obj)) (s : Zhq) (σ : St) (H : Hp) (x y : V) (v u : Value) (Q : VK),Inv X pins σ H s->RelV x v->RelV y u->r x y H Q ->
  Zij (Zix X.prog X.w) X.A (f v u) (EP X pins σ Q) X.xe s
noncomputable def UnR (X : Cx) (f : Value->Sem Value) (r : V->Hp->VK->Prop) : Prop :=
 ∀ (pins : List (Addr × Obj)) (s : Zhq) (σ : St) (H : Hp) (x : V) (v : Value) (Q : VK),Inv X pins σ H s->RelV x v->r x H Q ->
  Zij (Zix X.prog X.w) X.A (f v) (EP X pins σ Q) X.xe s
noncomputable def zdk (X : Cx) (f : Value) (r : List V->Hp->VK->Prop) : Prop :=
 ∀ (pins : List (Addr × Obj)) (s : Zhq) (σ : St) (H : Hp) (xs : List V) (us : List Value) (Q : VK),Inv X pins σ H s->Vals xs us->r xs H Q ->
  Zij (Zix X.prog X.w) X.A (call f us) (EP X pins σ Q) X.xe s
noncomputable def tOp (r : R2) (ta tb : TE) : TE:=fun σ H Q=>ta σ H fun x H1=>tb σ H1 fun y H2=>r x y H2 Q
noncomputable def tUn (r : V->Hp->VK->Prop) (ta : TE) : TE:=fun σ H Q=>ta σ H fun x H1=>r x H1 Q
noncomputable def rI (C : Int->Int->Prop) (g : Int->Int->V) : R2:=fun x y H Q=>∃ i j,x = .int i/\y = .int j/\C i j/\Q (g i j) H
noncomputable def rI0 (g : Int->Int->V) : R2:=fun x y H Q=>∃ i j,x = .int i/\y = .int j/\Q (g i j) H
noncomputable def rU (g : Int->V) : V->Hp->VK->Prop:=fun x H Q=>∃ i,x = .int i/\Q (g i) H
section
variable {X : Cx} {a b c : Expr} {ta tb tc : TE} {pos : Pos}
theorem binT (ha : PE X a ta) (hb : PE X b tb) {pins : List (Addr × Obj)} {s : Zhq} {σ : St} {H : Hp} {R : V->V->Hp->Prop} (I : Inv X pins σ H s)
  (h : ta σ H fun x H1=>tb σ H1 fun y H2=>R x y H2) {Q : Value->Zhq->Prop} {f : Value->Value->Sem Value}
  (hf : ∀ v u s2 x y H2,Inv X pins σ H2 s2->RelV x v->RelV y u->R x y H2->Zij (Zix X.prog X.w) X.A (f v u) Q X.xe s2) :
  Zij (Zix X.prog X.w) X.A (eval a X.env) (fun v s₁=>Zij (Zix X.prog X.w) X.A (eval b X.env) (fun u s₂=>Zij (Zix X.prog X.w) X.A (f v u) Q X.xe s₂) X.xe s₁) X.xe s:=by
 refine thn (ha pins s σ H _ I h) fun v s1 hz9=>?_
 obtain ⟨x,H1,I1,r1,q1⟩:=hz9
 refine thn (hb pins s1 σ H1 _ I1 q1) fun u s2 hz9=>?_
 obtain ⟨y,H2,I2,r2,q2⟩:=hz9
 exact hf v u s2 x y H2 I2 r1 r2 q2
theorem za2 {op : Operator} {r : R2} (ho : OpR X (Zoi op) r) (ha : PE X a ta) (hb : PE X b tb) : PE X (.BinOp a op b pos) (tOp r ta tb):=by
 intro pins s σ H Q I h
 exact wpAny_BinOp (binT ha hb I h fun v u s2 x y H2 I2 rx ry q=>ho pins s2 σ H2 x y v u Q I2 rx ry q)
theorem zli {op : UnaryOp} {r : V->Hp->VK->Prop} (ho : UnR X (unaryOp op) r) (ha : PE X a ta) : PE X (.UnaryOp op a pos) (tUn r ta):=by
 intro pins s σ H Q I h
 exact UnaryOp_ (thn (ha pins s σ H _ I h) fun v s1 ⟨x,H1,I1,r1,q1⟩=>ho pins s1 σ H1 x v Q I1 r1 q1)
theorem opI {f : Value->Value->Sem Value} {C : Int->Int->Prop} {g : Int->Int->Int}
  (rule : ∀ (i j : Int) (t u : Tok) (s : Zhq) (Q : Value->Zhq->Prop) (E : Value->Zhq->Prop),C i j->Q (.int (g i j) s.toks) { s with toks:=s.toks + 1 }->Zij (Zix X.prog X.w) X.A (f (.int i t) (.int j u)) Q E s) :
  OpR X f (rI C fun i j=>.int (g i j)):=by
 intro pins s σ H x y v u Q I rx ry h
 obtain ⟨i,j,rfl,rfl,hc,q⟩:=h
 obtain ⟨t,rfl⟩:=rx
 obtain ⟨t',rfl⟩:=ry
 exact rule i j t t' s _ _ hc ⟨.int (g i j),H,I.tok _,⟨_,rfl⟩,q⟩
theorem opI0 {f : Value->Value->Sem Value} {g : Int->Int->Int}
  (rule : ∀ (i j : Int) (t u : Tok) (s : Zhq) (Q : Value->Zhq->Prop) (E : Value->Zhq->Prop),Q (.int (g i j) s.toks) { s with toks:=s.toks + 1 }->Zij (Zix X.prog X.w) X.A (f (.int i t) (.int j u)) Q E s) :
  OpR X f (rI0 fun i j=>.int (g i j)):=by
 intro pins s σ H x y v u Q I rx ry h
 obtain ⟨i,j,rfl,rfl,q⟩:=h
 obtain ⟨t,rfl⟩:=rx
 obtain ⟨t',rfl⟩:=ry
 exact rule i j t t' s _ _ ⟨.int (g i j),H,I.tok _,⟨_,rfl⟩,q⟩
theorem opB0 {f : Value->Value->Sem Value} {g : Int->Int->Bool}
  (rule : ∀ (i j : Int) (t u : Tok) (s : Zhq) (Q : Value->Zhq->Prop) (E : Value->Zhq->Prop),Q (.bool (g i j)) s->Zij (Zix X.prog X.w) X.A (f (.int i t) (.int j u)) Q E s) :
  OpR X f (rI0 fun i j=>.bl (g i j)):=by
 intro pins s σ H x y v u Q I rx ry h
 obtain ⟨i,j,rfl,rfl,q⟩:=h
 obtain ⟨t,rfl⟩:=rx
 obtain ⟨t',rfl⟩:=ry
 exact rule i j t t' s _ _ ⟨.bl (g i j),H,I,rfl,q⟩
noncomputable def CDiv (i j : Int) : Prop:=0 < j/\j < 1073741824
noncomputable def CPow (i j : Int) : Prop:=0 <= j/\j <= 1000000/\i.natAbs < 2 ^ 64
noncomputable def CMul (i j : Int) : Prop:=(-(2 ^ 64) < i/\i < 2 ^ 64) \/ (-(2 ^ 64) < j/\j < 2 ^ 64)
theorem CMul.ok {i j : Int} (h : CMul i j) : IntMulOk i j:=by
 rcases h with ⟨h1,h2⟩ | ⟨h1,h2⟩
 ·exact .of_left (Zvi h1 h2)
 ·exact .of_right (Zvi h1 h2)
theorem zc0 : OpR X (Zoi .Add) (rI0 fun i j=>.int (i + j)):=opI0 fun _ _ _ _ _ _ _ q=>add_int q
theorem zwn : OpR X (Zoi .Sub) (rI0 fun i j=>.int (i - j)):=opI0 fun _ _ _ _ _ _ _ q=>sub_int q
theorem yea : OpR X (Zoi .Mult) (rI CMul fun i j=>.int (i * j)):=opI fun _ _ _ _ _ _ _ hc q=>mul_int q hc.ok
theorem zej : OpR X (Zoi .FloorDiv) (rI CDiv fun i j=>.int (i / j)):=opI fun i j _ _ _ _ _ hc q=>by
 have h1 : (0 : Int) < j:=hc.1
 have h2 : j < 1073741824:=hc.2
 exact floordiv_int (by omega) (by rw [Int.fdiv_eq_ediv_of_nonneg i (by omega)]; exact q) (.inl (PyProof.noPylong_small (by omega)))
theorem zcz : OpR X (Zoi .Mod) (rI (fun _ j=>0 < j) fun i j=>.int (i % j)):=opI fun i j _ _ _ _ _ hc q=>by
 have h1 : (0 : Int) < j:=hc
 exact mod_int' (by omega) (by rw [Int.fmod_eq_emod_of_nonneg i (by omega)]; exact q)
theorem ycy : OpR X (Zoi .Pow) (rI CPow fun i j=>.int (i ^ j.toNat)):=opI fun _ _ _ _ _ _ _ hc q=>pow_int_small hc.1 hc.2.1 hc.2.2 q
theorem unI {f : Value->Sem Value} {g : Int->Int}
  (rule : ∀ (i : Int) (t : Tok) (s : Zhq) (Q : Value->Zhq->Prop) (E : Value->Zhq->Prop),Q (.int (g i) s.toks) { s with toks:=s.toks + 1 }->Zij (Zix X.prog X.w) X.A (f (.int i t)) Q E s) :
  UnR X f (rU fun i=>.int (g i)):=by
 intro pins s σ H x v Q I rx h
 obtain ⟨i,rfl,q⟩:=h
 obtain ⟨t,rfl⟩:=rx
 exact rule i t s _ _ ⟨.int (g i),H,I.tok _,⟨_,rfl⟩,q⟩
theorem zhq : UnR X (unaryOp .USub) (rU fun i=>.int (-i)):=unI fun _ _ _ _ _ q=>neg_int q
end
noncomputable def scal : V->V->Bool
 | .non,.non=>true | .non,.int _=>true | .int _,.non=>true | .non,.bl _=>true | .bl _,.non=>true | .non,.str _=>true | .str _,.non=>true
 | .int _,.int _=>true | .bl _,.bl _=>true | .str _,.str _=>true | .byt _,.byt _=>true
 | .int _,.str _=>true | .str _,.int _=>true | .bl _,.str _=>true | .str _,.bl _=>true
 | _,_=>false
noncomputable def rEq : R2:=fun x y H Q=>scal x y = true/\Q (.bl (decide (x = y))) H
noncomputable def rNe : R2:=fun x y H Q=>scal x y = true/\Q (.bl (!decide (x = y))) H
theorem zv5 {i j : Int} : decide (V.int i = V.int j) = (i == j):=by
 rw [Zil]
 simp
theorem zz2 {i j : Bool} : decide (V.bl i = V.bl j) = (i == j):=by
 rw [Zil]
 simp
theorem zwf {i j : Str} : decide (V.str i = V.str j) = (i == j):=by
 rw [Zil]
 simp
theorem zvf {i j : Array UInt8} : decide (V.byt i = V.byt j) = (i.toList == j.toList):=by
 rw [Zil]
 cases i
 cases j
 simp
section
variable {X : Cx} {a b c : Expr} {ta tb tc : TE} {pos : Pos}
theorem zbv {pins : List (Addr × Obj)} {σ : St} {H : Hp} {s : Zhq} {Q : VK} {k k' : Bool} (I : Inv X pins σ H s) (q : Q (.bl k) H) (e : k = k') : EP X pins σ Q (.bool k') s:=by
 subst e
 exact ⟨.bl k,H,I,rfl,q⟩
theorem zcd : OpR X (Zkp .Eq) rEq:=by
 intro pins s σ H x y v u Q I rx ry h
 obtain ⟨hs,q⟩:=h
 cases x with
 | non =>
  cases rx
  cases y with
  | non=>cases ry; exact Zui (zbv I q (by simp))
  | bl j=>cases ry; exact Zuk (zbv I q (by simp))
  | int j=>obtain ⟨t',rfl⟩:=ry; exact Zuj (zbv I q (by simp))
  | str j=>obtain ⟨t',rfl⟩:=ry; exact Zuh (zbv I q (by simp))
  | _=>exact absurd (show false = true from hs) Zih
 | bl i =>
  cases rx
  cases y with
  | non=>cases ry; exact Zum (zbv I q (by simp))
  | bl j=>cases ry; exact eq_bool (zbv I q zz2)
  | str j=>obtain ⟨t',rfl⟩:=ry; exact Ztx (zbv I q (by simp))
  | _=>exact absurd (show false = true from hs) Zih
 | int i =>
  obtain ⟨t,rfl⟩:=rx
  cases y with
  | non=>cases ry; exact Zul (zbv I q (by simp))
  | int j=>obtain ⟨t',rfl⟩:=ry; exact eq_int (zbv I q zv5)
  | str j=>obtain ⟨t',rfl⟩:=ry; exact Ztw (zbv I q (by simp))
  | _=>exact absurd (show false = true from hs) Zih
 | str i =>
  obtain ⟨t,rfl⟩:=rx
  cases y with
  | non=>cases ry; exact Zug (zbv I q (by simp))
  | bl j=>cases ry; exact Ztv (zbv I q (by simp))
  | int j=>obtain ⟨t',rfl⟩:=ry; exact Ztu (zbv I q (by simp))
  | str j=>obtain ⟨t',rfl⟩:=ry; exact eq_str (zbv I q zwf)
  | _=>exact absurd (show false = true from hs) Zih
 | byt i =>
  obtain ⟨t,rfl⟩:=rx
  cases y with
  | byt j=>obtain ⟨t',rfl⟩:=ry; exact PySem.W.eq_bytes (zbv I q zvf)
  | _=>exact absurd (show false = true from hs) Zih
 | _=>cases y <;> exact absurd (show false = true from hs) Zih
theorem zqb : OpR X (Zkp .NotEq) rNe:=by
 intro pins s σ H x y v u Q I rx ry h
 obtain ⟨hs,q⟩:=h
 cases x with
 | non =>
  cases rx
  cases y with
  | non=>cases ry; exact Zub (zbv I q (by simp))
  | bl j=>cases ry; exact Zud (zbv I q (by simp))
  | int j=>obtain ⟨t',rfl⟩:=ry; exact Zuc (zbv I q (by simp))
  | str j=>obtain ⟨t',rfl⟩:=ry; exact Zua (zbv I q (by simp))
  | _=>exact absurd (show false = true from hs) Zih
 | bl i =>
  cases rx
  cases y with
  | non=>cases ry; exact Zuf (zbv I q (by simp))
  | bl j=>cases ry; exact ne_bool (zbv I q (congrArg not zz2))
  | str j=>obtain ⟨t',rfl⟩:=ry; exact Ztt (zbv I q (by simp))
  | _=>exact absurd (show false = true from hs) Zih
 | int i =>
  obtain ⟨t,rfl⟩:=rx
  cases y with
  | non=>cases ry; exact Zue (zbv I q (by simp))
  | int j=>obtain ⟨t',rfl⟩:=ry; exact ne_int (zbv I q (congrArg not zv5))
  | str j=>obtain ⟨t',rfl⟩:=ry; exact Zts (zbv I q (by simp))
  | _=>exact absurd (show false = true from hs) Zih
 | str i =>
  obtain ⟨t,rfl⟩:=rx
  cases y with
  | non=>cases ry; exact Zt9 (zbv I q (by simp))
  | bl j=>cases ry; exact Ztr (zbv I q (by simp))
  | int j=>obtain ⟨t',rfl⟩:=ry; exact Ztq (zbv I q (by simp))
  | str j=>obtain ⟨t',rfl⟩:=ry; exact ne_str (zbv I q (congrArg not zwf))
  | _=>exact absurd (show false = true from hs) Zih
 | byt i =>
  obtain ⟨t,rfl⟩:=rx
  cases y with
  | byt j=>obtain ⟨t',rfl⟩:=ry; exact PySem.W.ne_bytes (zbv I q (congrArg not zvf))
  | _=>exact absurd (show false = true from hs) Zih
 | _=>cases y <;> exact absurd (show false = true from hs) Zih
theorem zmy : OpR X (Zkp .Lt) (rI0 fun i j=>.bl (decide (i < j))):=opB0 fun _ _ _ _ _ _ _ q=>lt_int q
theorem zwe : OpR X (Zkp .LtE) (rI0 fun i j=>.bl (decide (i <= j))):=opB0 fun _ _ _ _ _ _ _ q=>le_int q
theorem zk5 : OpR X (Zkp .Gt) (rI0 fun i j=>.bl (decide (j < i))):=opB0 fun _ _ _ _ _ _ _ q=>gt_int q
theorem zsw : OpR X (Zkp .GtE) (rI0 fun i j=>.bl (decide (j <= i))):=opB0 fun _ _ _ _ _ _ _ q=>ge_int q
theorem zau (b : Expr) {op : Zsv} (h : op ≠ .In:=by decide) (h2 : op ≠ .NotIn:=by decide) : Zmr op b = false:=by
 have e1 : (op == CmpOp.In) = false:=by cases op <;> first | rfl | exact absurd rfl h
 have e2 : (op == CmpOp.NotIn) = false:=by cases op <;> first | rfl | exact absurd rfl h2
 cases b <;> simp [Zmr,e1,e2]
theorem zbl {op : Zsv} {r : R2} (ho : OpR X (Zkp op) r) (ha : PE X a ta) (hb : PE X b tb) (hm : Zmr op b = false) : PE X (.Compare a [op] [b] pos) (tOp r ta tb):=by
 intro pins s σ H Q I h
 exact Zu9 (binT ha hb I h fun v u s2 x y H2 I2 rx ry q=>ho pins s2 σ H2 x y v u Q I2 rx ry q) hm
noncomputable def yda (t : TE) : TT:=fun σ H Q=>t σ H fun x H'=>∃ k,x = .bl k/\Q k H'
theorem zat {op : Zsv} {r : R2} (ho : OpR X (Zkp op) r) (ha : PE X a ta) (hb : PE X b tb) (hm : Zmr op b = false) : PT X (.Compare a [op] [b] pos) (yda (tOp r ta tb)):=by
 intro pins s σ H Q I h
 refine Zr5 (thn (ha pins s σ H _ I h) fun v s1 ⟨x,H1,I1,r1,q1⟩=>thn (hb pins s1 σ H1 _ I1 q1) fun u s2 ⟨y,H2,I2,r2,q2⟩ =>
  thn (ho pins s2 σ H2 x y v u _ I2 r1 r2 q2) fun c s3 ⟨z,H3,I3,r3,k,e,q3⟩=>?_) hm
 subst e
 cases r3
 exact Zjw ⟨H3,I3,q3⟩
noncomputable def zzq (r r' : R2) (ta tb tc : TE) : TE:=fun σ H Q=>ta σ H fun x H1=>tb σ H1 fun y H2=>r x y H2 fun z H3=>∃ k,z = .bl k /\
 (if k = true then tc σ H3 fun w' H4=>r' y w' H4 Q else Q (.bl false) H3)
theorem zxu {op op' : Zsv} {r r' : R2} (ho : OpR X (Zkp op) r) (ho' : OpR X (Zkp op') r') (ha : PE X a ta) (hb : PE X b tb) (hc : PE X c tc)
  (hm : lastMarks [op,op'] [b,c] = false:=by with_unfolding_all rfl) : PE X (.Compare a [op,op'] [b,c] pos) (zzq r r' ta tb tc):=by
 intro pins s σ H Q I h
 refine Compare_chain (thn (ha pins s σ H _ I h) fun v s1 ⟨x,H1,I1,r1,q1⟩=>chain_link (thn (hb pins s1 σ H1 _ I1 q1) fun u s2 ⟨y,H2,I2,r2,q2⟩ =>
  thn (ho pins s2 σ H2 x y v u _ I2 r1 r2 q2) fun d s3 ⟨z,H3,I3,r3,k,e,q3⟩=>?_)) hm
 subst e
 cases r3
 refine Zjw ?_
 cases k with
 | false=>exact ite_ff ⟨.bl false,H3,I3,rfl,q3⟩
 | true=>exact ite_tt (chain_last (thn (hc pins s3 σ H3 _ I3 q3) fun w' s4 ⟨z',H4,I4,r4,q4⟩=>ho' pins s4 σ H4 y z' u w' Q I4 r2 r4 q4))
theorem zty : (sizeLine : Nat) < 2 ^ 63:=by rw [Zh2]; decide
theorem zhc {x : V} {us : List Value} (r : Vals [x] us) : ∃ u,us = [u]/\RelV x u:=by
 cases r with
 | cons r1 r2=>cases r2; exact ⟨_,rfl,r1⟩
theorem zqp {x y : V} {us : List Value} (r : Vals [x,y] us) : ∃ u w',us = [u,w']/\RelV x u/\RelV y w':=by
 cases r with
 | cons r1 r2 =>
  cases r2 with
  | cons r3 r4=>cases r4; exact ⟨_,_,rfl,r1,r3⟩
theorem zh9 : zdk X (.builtin "abs") (fun xs H Q=>∃ i,xs = [.int i]/\Q (.int (if i < 0 then -i else i)) H):=by
 intro pins s σ H xs us Q I r h
 obtain ⟨i,rfl,q⟩:=h
 obtain ⟨u,rfl,t,rfl⟩:=zhc r
 exact call_abs_int fun u tk=>⟨.int (if i < 0 then -i else i),H,I.tok _,⟨_,rfl⟩,q⟩
theorem zlf (hc : X.calm = true) : zdk X (.builtin "max") (fun xs H Q=>∃ i j,xs = [.int i,.int j]/\Q (.int (if j > i then j else i)) H):=by
 intro pins s σ H xs us Q I r h
 obtain ⟨i,j,rfl,q⟩:=h
 obtain ⟨u,w',rfl,⟨t,rfl⟩,⟨t',rfl⟩⟩:=zqp r
 refine max_two_ints (I.ok.hd hc) fun h' tk k=>⟨_,H,I.kept k,?_,q⟩
 by_cases hj : j > i
 ·rw [if_pos hj,if_pos hj]; exact ⟨_,rfl⟩
 ·rw [if_neg hj,if_neg hj]; exact ⟨_,rfl⟩
theorem zln (hc : X.calm = true) : zdk X (.builtin "min") (fun xs H Q=>∃ i j,xs = [.int i,.int j]/\Q (.int (if j < i then j else i)) H):=by
 intro pins s σ H xs us Q I r h
 obtain ⟨i,j,rfl,q⟩:=h
 obtain ⟨u,w',rfl,⟨t,rfl⟩,⟨t',rfl⟩⟩:=zqp r
 refine min_two_ints (I.ok.hd hc) fun h' tk k=>⟨_,H,I.kept k,?_,q⟩
 by_cases hj : j < i
 ·rw [if_pos hj,if_pos hj]; exact ⟨_,rfl⟩
 ·rw [if_neg hj,if_neg hj]; exact ⟨_,rfl⟩
end
structure ObjM (h : Heap) (x dx C : Addr) (mA : Str->Option Value) : Prop where
 obj : h.get? x = some (Zrp C dx)
 ns : h.Ns1 dx mA
 ne : dx≠x
section
variable {prog : Ziq} {w : Zjv} {A : Zi0} {E : Value->Zhq->Prop} {s : Zhq} {K : Zhi} {x dx C f : Addr} {mA : Str->Option Value} {name : Str} {v : Value}
end
theorem RelO.some_of {v : V} {o : Option Value} (r : RelO (some v) o) : ∃ u,o = some u/\RelV v u:=by
 cases o with
 | none=>exact (show False from r).elim
 | some u=>exact ⟨u,rfl,r⟩
structure Cls (K : Zhi) (C : Addr) : Prop where
 pg : PySem.W.plainGet K C Str.empty = true
 hd : PySem.W.hasDictIn K C = true
 po : PySem.W.plainOver K C = true
 sa : Zmp K (.ref C) "__setattr__" = some (some (.builtin "object.__setattr__"))
structure Con (K : Zhi) (C : Addr) (f : Str) (v : V) (u : Value) : Prop where
 at_ : Zmp K (.ref C) f = some (some u)
 rel : RelV v u
 get : Zq8 K u "__get__" = some none
 cp : PySem.W.copiedNames.contains f = false
structure Meth (K : Zhi) (C : Addr) (m : Str) (f : Addr) : Prop where
 at_ : Zmp K (.ref C) m = some (some (.ref f))
 fn : Zsf K (.ref f) = true
 kp : Zl1 K (.ref f) = true
section
variable {X : Cx} {pins : List (Addr × Obj)} {σ : St} {H : Hp} {s : Zhq} {a C dx : Addr} {fs : List (Str × V)} {f : Str} {v : V} {A : Zi0} {E : Value->Zhq->Prop}
end
section
variable {X : Cx} {pins : List (Addr × Obj)} {σ : St} {H : Hp} {s : Zhq} {A : Zi0} {E : Value->Zhq->Prop} {Q : Value->Zhq->Prop} {c : Value} {b : Bool}
inductive TyOf (K : Zhi) (H : Hp) : V->Value->Prop where
 | non : TyOf K H .non (.type "NoneType")
 | bl (x : Bool) : TyOf K H (.bl x) (.type "bool")
 | int (i : Int) : TyOf K H (.int i) (.type "int")
 | str (x : Str) : TyOf K H (.str x) (.type "str")
 | flt (x : UInt64) : TyOf K H (.flt x) (.type "float")
 | lst {a : Addr} {xs : List V} (e : H a = some (.lst xs)) : TyOf K H (.ref a) (.type "list")
 | frz {a : Addr} {o : Obj} {xs : List V} (e : H a = some (.frz o (.lst xs))) : TyOf K H (.ref a) (.type "list")
 | tup {a : Addr} {xs : List V} (e : H a = some (.tup xs)) : TyOf K H (.ref a) (.type "tuple")
 | dK {a : Addr} {kvs : List (Key × V)} (e : H a = some (.dK kvs)) : TyOf K H (.ref a) (.type "dict")
 | dT {a : Addr} {kvs : List (List Key × V)} (e : H a = some (.dT kvs)) : TyOf K H (.ref a) (.type "dict")
 | ins {a C dx : Addr} {fs : List (Str × V)} (e : H a = some (.ins C dx fs)) (cl : Cls K C) (ha : Zmp K (.ref C) "__class__" = some (some (.builtin "object.__class__")))
   (hn : Zq8 K (.builtin "object.__class__") "__get__" = some (some (.builtin "getset_descriptor.__get__"))) (htk : PySem.W.takesIn K (.builtin "object.__class__") = some true)
   (hm : PySem.W.mroIn K C (.type "object") = some true) : TyOf K H (.ref a) (.ref C)
end
structure Room (k : Nat) (A : Zi0) : Prop where
 hd : A.handled = none
 dp : A.depth + 3 * k + 5 < Zq6
 un : A.units + 16 * k + 200 < Znt
 gd : A.guards = some []
theorem Room.mono {j k : Nat} {A : Zi0} (r : Room k A) (h : j <= k) : Room j A:=⟨r.hd,by have:=r.dp; omega,by have:=r.un; omega,r.gd⟩
theorem Room.deeper {k : Nat} {A : Zi0} (r : Room (k + 1) A) (env : Env) : Room k (A.deeper env) :=
 ⟨r.hd,by have:=r.dp; show A.depth + 1 + 3 * k + 5 < _; omega,by have:=r.un; show A.units + 3 + 16 * k + 200 < _; omega,r.gd⟩
theorem Room.in1 {k : Nat} {A : Zi0} (r : Room (k + 1) A) : Room k A.in1 :=
 ⟨r.hd,by have:=r.dp; show A.depth + 3 * k + 5 < _; omega,by have:=r.un; show A.units + 1 + 16 * k + 200 < _; omega,r.gd⟩
theorem Room.depth {k : Nat} {A : Zi0} (r : Room k A) : A.depth < Zq6:=by have:=r.dp; omega
theorem Room.units {k : Nat} {A : Zi0} (r : Room k A) : A.units + 64 < Znt:=by have:=r.un; omega
noncomputable def tNil : TA:=fun _ H Q=>Q [] H
noncomputable def za5 (ta : TE) (tr : TA) : TA:=fun σ H Q=>ta σ H fun x H1=>tr σ H1 fun xs H2=>Q (x::xs) H2
section
variable {X : Cx} {e : Expr} {es : List Expr} {te : TE} {t : TA} {pos : Pos}
theorem zae : PA X [] tNil:=fun _ _ _ _ H Q I h=>Zm5 ⟨[],H,I,.nil,h⟩
theorem zab (ha : PE X e te) (hr : PA X es t) (hs : Zi6 (e::es) X.env = (false,eval e X.env)::Zi6 es X.env:=by rfl) : PA X (e::es) (za5 te t):=by
 intro pos pins s σ H Q I h
 rw [hs]
 show Zij _ _ (Zu0 ((false,eval e X.env)::Znl pos (Zi6 es X.env))) _ _ s
 refine Zlw (thn (ha pins s σ H _ I h) fun u s1 hz9=>?_)
 obtain ⟨x,H1,I1,r1,q1⟩:=hz9
 refine thn (hr pos pins s1 σ H1 _ I1 q1) fun us s2 hz9=>?_
 obtain ⟨xs,H2,I2,r2,q2⟩:=hz9
 exact ⟨x::xs,H2,I2,.cons r1 r2,q2⟩
noncomputable def tTup (t : TA) : TE:=fun σ H Q=>t σ H fun xs H1=>xs.length <= sizeLine /\ ∀ p,H1 p = none->Q (.ref p) (upd H1 p (.tup xs))
noncomputable def tLst (t : TA) : TE:=fun σ H Q=>t σ H fun xs H1=>xs.length <= sizeLine /\ ∀ p,H1 p = none->Q (.ref p) (upd H1 p (.lst xs))
theorem za3 {x1} (h : PA X es t) : PE X (.Tuple es x1 pos) (tTup t):=by
 intro pins s σ H Q I hq
 refine wpAny_Tuple_spliced (thn (h pos pins s σ H _ I hq) fun us s1 ⟨xs,H1,I1,r,z,q⟩=>⟨by rw [<- r.length]; exact z,?_⟩)
 have hf : H1 s1.heap.objs.size = none:=I1.hok.fresh (Zhu _)
 refine ⟨.ref s1.heap.objs.size,upd H1 s1.heap.objs.size (.tup xs),I1.laid (t':=s1.toks) (fun b u e=>Zhr _ e) (Zhu _) ?_,rfl,q _ hf⟩
 exact ⟨z,us,r,⟨_,Zh6 _ rfl,rfl,_,rfl⟩⟩
theorem zbg (h : PA X es t) : PE X (.List es pos) (tLst t):=by
 intro pins s σ H Q I hq
 refine wpAny_List_spliced (thn (h pos pins s σ H _ I hq) fun us s1 ⟨xs,H1,I1,r,z,q⟩=>⟨by rw [<- r.length]; exact z,?_⟩)
 have hf : H1 s1.heap.objs.size = none:=I1.hok.fresh (Zhu _)
 refine ⟨.ref s1.heap.objs.size,upd H1 s1.heap.objs.size (.lst xs),I1.laid (t':=s1.toks) (fun b u e=>Zhr _ e) (Zhu _) ?_,rfl,q _ hf⟩
 exact ⟨z,us,0,r,Zh6 _ rfl⟩
end
noncomputable abbrev Sp:=List V->Hp->VK->XK->Prop
noncomputable abbrev CXT:=List Env->Hp->Zhq->XK->Value->Zhq->Prop
structure Env0 (P : Ziq) (w : Zjv) (K : Zhi) (mg : Str->Option Value) (base : Heap) (A : Zi0) (outer : List Env) (s : Zhq) (H : Hp) : Prop where
 frames : A.frames = some outer
 mod : Mod K mg base
 bs : ∀ b o,base.get? b = some o->s.heap.get? b = some o/\H b = none
 bsz : base.objs.size <= s.heap.objs.size
 funs : s.heap.FunFrames base outer
 frf : ∀ b∈frs outer,H b = none
 hok : HOk P w H s.heap
 bare : Zo3 s.gens
noncomputable def CE (outer : List Env) (P : Ziq) (w : Zjv) (H : Hp) (s : Zhq) (Q : VK) (u : Value) (s' : Zhq) : Prop :=
 ∃ v H',s'.os = s.os/\Zo3 s'.gens/\Un (frs outer) [] H H' s.heap s'.heap/\HOk P w H' s'.heap/\RelV v u/\Q v H'
noncomputable def CR (CX : CXT) (outer : List Env) (P : Ziq) (w : Zjv) (H : Hp) (s : Zhq) (Q : VK) (E : XK) (r : Zu3) (s' : Zhq) : Prop :=
 match r with
 | .ok (.ret u)=>CE outer P w H s Q u s'
 | .ok _=>False
 | .error e=>CX outer H s E e s'
structure FnOk (P : Ziq) (w : Zjv) (K : Zhi) (mg : Str->Option Value) (base : Heap) (CX : CXT) (k : Nat) (f : Addr) (fd : Zkj) (ps : List Str) (sp : Sp) : Prop where
 len : ∀ vs H Q E,sp vs H Q E->vs.length = ps.length
 run : ∀ (A : Zi0) (outer : List Env) (s : Zhq) (H : Hp) (args : Args) (us : List Value) (vs : List V) (Q : VK) (E : XK),Room k A->Env0 P w K mg base A outer s H->Zpz s fd args (ps.zip us)->Vals vs us->sp vs H Q E ->
  Zns (Zix P w) A (.call (.ref f) args) (CR CX outer P w H s Q E) s
section
variable {X : Cx} {pins : List (Addr × Obj)} {σ : St} {H : Hp} {s s' : Zhq}
theorem Inv.env0 (I : Inv X pins σ H s) : Env0 X.prog X.w X.K X.mg X.base X.A X.stack s H :=
 ⟨I.ok.frames,I.ok.mod,I.bs,Zik I.ok.bsz I.sz,I.stack,I.stkFree,I.hok,I.bare⟩
theorem Inv.after {Q : VK} {u : Value} (I : Inv X pins σ H s) (h : CE X.stack X.prog X.w H s Q u s') : EP X pins σ Q u s':=by
 obtain ⟨v,H',os,bare,un,hok,r,q⟩:=h
 obtain ⟨hh,g,d,t,os'⟩:=s'
 obtain rfl : os' = s.os:=os
 exact ⟨v,H',I.call (h':=hh) (g':=g) (d':=d) (t':=t) (ch:=[]) un hok bare (fun b z=>absurd z (by simp)),r,q⟩
end
noncomputable def zhd (sp : Sp) (dvs : List V) (E : XK) (t : TA) : TE:=fun σ H Q=>t σ H fun vs H1=>sp (vs++dvs) H1 Q E
noncomputable def zsz (K : Zhi) (fd : Zkj) (ps : List Str) (ds : List Value) : Prop :=
 ∀ (s : Zhq) (us : List Value),K.In s.heap->(us++ds).length = ps.length->Zpz s fd ⟨us,[]⟩ (ps.zip (us++ds))
theorem zsz.all {K : Zhi} {fd : Zkj} {ps : List Str} (h : ∀ us : List Value,us.length = ps.length->Znd fd ⟨us,[]⟩ = pure (ps.zip us)) : zsz K fd ps []:=fun s us _ hl=>by
 rw [Zjj] at hl ⊢
 exact .of_eq (h us hl)
noncomputable def zub (CX : CXT) (X : Cx) (E : XK) : Prop:=∀ (pins : List (Addr × Obj)) (σ : St) (H : Hp) (s : Zhq) (e : Value) (s' : Zhq),Inv X pins σ H s->CX X.stack H s E e s'->X.xe e s'
section
variable {X : Cx} {CX : CXT} {k : Nat} {f C : Addr} {fd : Zkj} {ps : List Str} {sp : Sp} {dvs : List V} {ds : List Value} {E : XK} {x m : Str} {p pos apos : Pos} {e o : Expr} {es : List Expr} {ta : TE} {t : TA}
theorem ydf {pins : List (Addr × Obj)} {σ : St} {H : Hp} {s : Zhq} {Q : VK} {us : List Value} {vs : List V} (F : FnOk X.prog X.w X.K X.mg X.base CX k f fd ps sp) (hr : Room k X.A) (hb : zsz X.K fd ps ds) (hd : Vals dvs ds) (hx : zub CX X E)
  (I : Inv X pins σ H s) (r : Vals vs us) (h : sp (vs++dvs) H Q E) : Zij (Zix X.prog X.w) X.A (call (.ref f) us) (EP X pins σ Q) X.xe s:=by
 have r2 : Vals (vs++dvs) (us++ds):=r.append hd
 have hl : (us++ds).length = ps.length:=by rw [<- r2.length]; exact F.len _ _ _ _ h
 refine wpAny_call (Zr6 (F.run X.A X.stack s H ⟨us,[]⟩ (us++ds) (vs++dvs) Q E hr I.env0 (hb s us I.kIn hl) r2 h) fun r s' hq=>?_)
 cases r with
 | error e=>exact hx pins σ H s e s' I hq
 | ok fl =>
  cases fl with
  | ret u=>exact I.after hq
  | next=>exact Zlu hq
  | brk=>exact Zlu hq
  | cont=>exact Zlu hq
theorem yak (F : FnOk X.prog X.w X.K X.mg X.base CX k f fd ps sp) (hr : Room k X.A) (hg : Gl X x) (hm : X.mg x = some (.ref f)) (hk : Zl1 X.K (.ref f) = true) (hb : zsz X.K fd ps ds) (hd : Vals dvs ds) (hx : zub CX X E)
  (ha : PA X (e::es) t) (hdb : (x == ("__debug__" : Str)) = false:=by decide) (he : Zi6 (e::es) X.env = (false,eval e X.env)::Zi6 es X.env:=by rfl) (hpl : (Znl pos (Zi6 es X.env)).any (·.1) = false:=by rfl) :
  PE X (.Call (.Name x p) (e::es) [] pos) (zhd sp dvs E t):=by
 intro pins s σ H Q I h
 refine Zl5 (zvz I hg hm ?_ hdb)
 refine PySem.W.callWith_K (h₀:=X.base) I.ok.mod.kin hk (thn (ha pos pins s σ H _ I h) fun us s1 ⟨vs,H1,I1,r,q⟩=>⟨I1.kIn,?_⟩) he hpl
 exact ydf F hr hb hd hx I1 r q
structure Mk (K : Zhi) (C f : Addr) : Prop where
 makes : PySem.W.makesIn K C = true
 init : Zmp K (.ref C) "__init__" = some (some (.ref f))
 fn : Zsf K (.ref f) = true
 kp : Zl1 K (.ref C) = true
end
noncomputable def PK (X : Cx) (kws : List Zpw) (t : TA) : Prop :=
 ∀ (pos : Pos) (pins : List (Addr × Obj)) (s : Zhq) (σ : St) (H : Hp) (Q : List V->Hp->Prop),Inv X pins σ H s->t σ H Q->Zij (Zix X.prog X.w) X.A (evalAll ((Zqj pos (Znr kws X.env)).map (·.2))) (AP X pins σ Q) X.xe s
section
variable {X : Cx} {CX : CXT} {k : Nat} {f C : Addr} {fd : Zkj} {ps ks : List Str} {sp : Sp} {E : XK} {x m : Str} {p pos apos kpos : Pos} {e o : Expr} {es : List Expr} {kws : List Zpw} {te ta : TE} {t tk : TA} {nm : Option Str}
theorem ydj : PK X [] tNil:=fun _ _ _ _ H Q I h=>Ztb ⟨[],H,I,.nil,h⟩
theorem ybc (ha : PE X e te) (hr : PK X kws t) : PK X (⟨nm,e,kpos⟩::kws) (za5 te t):=by
 intro pos pins s σ H Q I h
 show Zij _ _ (evalAll ((do let v <- eval e X.env; standAt pos; pure v)::(Zqj pos (Znr kws X.env)).map (·.2))) _ _ s
 refine Zsw (Zhl (thn (ha pins s σ H _ I h) fun u s1 ⟨x,H1,I1,r1,q1⟩=>Zhl (Zpa (Zhz ?_))))
 refine thn (hr pos pins s1 σ H1 _ I1 q1) fun us s2 hz9=>?_
 obtain ⟨xs,H2,I2,r2,q2⟩:=hz9
 exact ⟨x::xs,H2,I2,.cons r1 r2,q2⟩
structure KBinds (K : Zhi) (fd : Zkj) (ps ks : List Str) (g : List Value->List Value->List Value) (gV : List V->List V->List V) : Prop where
 to : ∀ (s : Zhq) (us ws : List Value),K.In s.heap->(g us ws).length = ps.length->Zpz s fd ⟨us,ks.zip ws⟩ (ps.zip (g us ws))
 rel : ∀ {vs : List V} {us : List Value} {zs : List V} {ws : List Value},Vals vs us->Vals zs ws->Vals (gV vs zs) (g us ws)
variable {g : List Value->List Value->List Value} {gV : List V->List V->List V}
end
structure FnScope (N P : List Str) (sc : Scope) : Prop where
 kind : sc.kind = .function
 co : sc.isCoroutine = false
 gen : sc.isGenerator = false
 nd : N.Nodup
 pre : N.take P.length = P
 par : ∀ x∈P,sc.names.lookup x = some .local \/ sc.names.lookup x = some .cell
 nofree : ∀ y∈sc.names,y.2 ≠ .free
theorem zom {kindOf : Str->Option Ziu} {x : Str} : ∀ {binds : List (Str × Value)} {m : Str->Option Value},(∀ v,(x,v) ∉ binds)->Ztl kindOf binds m x = m x
 | [],_,_=>rfl
 | (n,v)::r,m,h=>by
  unfold Ztl
  rw [zom fun w hw=>h w (Zhv _ hw)]
  split
  ·have : x≠n:=by rintro rfl; exact h v Zhx
   simp [this]
  ·rfl
theorem zod {kindOf : Str->Option Ziu} {x : Str} : ∀ {binds : List (Str × Value)} {m : Str->Option Value},(∀ v,(x,v) ∉ binds)->Ztm kindOf binds m x = m x
 | [],_,_=>rfl
 | (n,v)::r,m,h=>by
  unfold Ztm
  rw [zod fun w hw=>h w (Zhv _ hw)]
  split
  ·rfl
  ·have : x≠n:=by rintro rfl; exact h v Zhx
   simp [this]
theorem zn9 {kindOf : Str->Option Ziu} {x : Str} {v : Value} : ∀ {P : List Str} {vs : List Value} {i : Nat} {m : Str->Option Value},P.Nodup->P[i]? = some x->vs[i]? = some v->kindOf x = some .local ->
  Ztl kindOf (P.zip vs) m x = some v
 | [],_,_,_,_,h,_,_=>by simp at h
 | _::_,[],_,_,_,_,h,_=>by simp at h
 | p::P,w::vs,0,m,nd,h1,h2,hk=>by
  simp at h1 h2; subst h1; subst h2
  show Ztl kindOf ((p,w)::P.zip vs) m p = _
  unfold Ztl
  rw [zom fun v hv=>(Zjz.mp nd).1 (Zpf hv).1,if_pos hk]
  simp
 | p::P,w::vs,i + 1,m,nd,h1,h2,hk=>by
  show Ztl kindOf ((p,w)::P.zip vs) m x = _
  unfold Ztl
  exact zn9 (i:=i) (Zjz.mp nd).2 (by simpa using h1) (by simpa using h2) hk
theorem zn8 {kindOf : Str->Option Ziu} {x : Str} {v : Value} : ∀ {P : List Str} {vs : List Value} {i : Nat} {m : Str->Option Value},P.Nodup->P[i]? = some x->vs[i]? = some v->kindOf x≠some .local ->
  Ztm kindOf (P.zip vs) m x = some v
 | [],_,_,_,_,h,_,_=>by simp at h
 | _::_,[],_,_,_,_,h,_=>by simp at h
 | p::P,w::vs,0,m,nd,h1,h2,hk=>by
  simp at h1 h2; subst h1; subst h2
  show Ztm kindOf ((p,w)::P.zip vs) m p = _
  unfold Ztm
  rw [zod fun v hv=>(Zjz.mp nd).1 (Zpf hv).1,if_neg hk]
  simp
 | p::P,w::vs,i + 1,m,nd,h1,h2,hk=>by
  show Ztm kindOf ((p,w)::P.zip vs) m x = _
  unfold Ztm
  exact zn8 (i:=i) (Zjz.mp nd).2 (by simpa using h1) (by simpa using h2) hk
noncomputable def zg0 (N : List Str) (vs : List V) : St:=vs.map some++Zn1 (N.length - vs.length) none
noncomputable def cxOf (CX : CXT) (P : Ziq) (w : Zjv) (K : Zhi) (mg : Str->Option Value) (base : Heap) (N : List Str) (qual : Str) (scope : Scope) (f : Addr) (cd : Value) (A : Zi0) (outer : List Env) (s : Zhq) (H : Hp) (E : XK) : Cx where
 prog:=P
 w:=w
 K:=K
 mg:=mg
 base:=base
 A:=A.deeper (Zm1 qual scope s.heap.objs.size f cd)
 N:=N
 s₀:=s
 H₀:=H
 env:=Zm1 qual scope s.heap.objs.size f cd
 outer:=outer
 stack:=Zm1 qual scope s.heap.objs.size f cd::outer
 ex:=[]
 calm:=true
 fn:=fun _=>true
 pn:=[]
 xe:=fun e s'=>Zij (Zix P w) (A.deeper (Zm1 qual scope s.heap.objs.size f cd)) (leaving (Zm1 qual scope s.heap.objs.size f cd) e) (fun _ s''=>CX outer H s E e s'') (fun e' s''=>CX outer H s E e' s'') s'
theorem zsh {sc : Scope} {n : Nat} {x : Str} (h : sc.names.lookup x = some .cell) : ∃ c,(Zu2 n sc.names []).lookup x = some c:=by
 have q:=Zp1 sc.names n [] (.inl h)
 exact Zjr.mp q
theorem zw3 {CX : CXT} {P : Ziq} {w : Zjv} {K : Zhi} {mg : Str->Option Value} {base : Heap} {N ps : List Str} {qual : Str} {scope : Scope} {f : Addr} {cd : Value} {A : Zi0} {outer : List Env} {s s1 : Zhq} {H : Hp} {E : XK} {us : List Value} {vs : List V}
  (S : FnScope N ps scope) (hd : A.handled = none) (e0 : Env0 P w K mg base A outer s H) (hl : vs.length = ps.length) (r : Vals vs us)
  (x : InCallC s s.heap.objs.size (Ztl (Zm1 qual scope s.heap.objs.size f cd).kindOf (ps.zip us) fun _=>none) (Zu2 (s.heap.objs.size + 1) scope.names []) (Ztm (Zm1 qual scope s.heap.objs.size f cd).kindOf (ps.zip us) fun _=>none) s1) :
  Inv (cxOf CX P w K mg base N qual scope f cd A outer s H E) [] (zg0 N vs) H s1:=by
 have hpl : ps.length <= N.length:=by have:=congrArg Zrh S.pre; rw [Zin] at this; omega
 obtain ⟨h1,tk,rfl,hk⟩:=x.done
 have noA : ∀ b : Addr,b ∉ (cxOf CX P w K mg base N qual scope f cd A outer s H E).ex:=fun b z=>absurd (show b∈([] : List Addr) from z) (by simp)
 refine ⟨⟨e0.mod,S.kind,rfl,rfl,Zhu _,fun y z c h1 h2=>?_,fun y hy=>?_,fun y c _ h=>?_,fun _=>hd,Zq1 e0.frames,.inr ⟨rfl,rfl⟩,fun b z=>absurd z (noA b),e0.bs,e0.bsz,fun b _ _=>noA b,fun b z=>absurd z (noA b),e0.funs,e0.frf⟩,
  rfl,e0.bare,Un.kept hk,⟨_,x.toInCall.ns,fun i y v h1 h2 h3=>?_⟩,fun y c h=>⟨_,x.cell y c h⟩,e0.hok.fresh (Zhu _),fun y c h=>?_,fun p hp=>absurd (show p∈([] : List (Addr × Obj)) from hp) (by simp),e0.hok.kept hk,?_⟩
 ·exact name_of_addr x.apart (Zj5 h1) (Zj5 h2)
 ·have hy : scope.names.lookup y = some .cell \/ scope.names.lookup y = some .free:=hy
  rcases hy with hy | hy
  ·exact zsh hy
  ·exact absurd rfl (S.nofree _ (Zj5 hy))
 ·exact Zmv (x.above y c (Zj5 h))
 ·have hi : i < vs.length:=by
   unfold zg0 at h2
   by_cases hi : i < vs.length
   ·exact hi
   ·rw [Ziw (by simpa using hi)] at h2
    rw [Zly] at h2
    split at h2 <;> cases h2
  have ha : vs[i]? = some v:=by
   unfold zg0 at h2
   rw [Zi8 (by simpa using hi),Zho] at h2
   cases e : vs[i]? with
   | none=>rw [e] at h2; cases h2
   | some a=>rw [e] at h2; cases h2; rfl
  obtain ⟨u,hu,rv⟩:=r.get ha
  have hp : ps[i]? = some y:=by
   rw [<- S.pre,List.getElem?_take_of_lt (by omega)]; exact h1
  have ndP : ps.Nodup:=by rw [<- S.pre]; exact S.nd.sublist (Zry _ _)
  refine ⟨u,rv,?_⟩
  rcases S.par y (Zhs hp) with k | k
  ·exact .inl ⟨k,zn9 ndP hp hu k⟩
  ·obtain ⟨c,e⟩:=zsh (n:=s.heap.objs.size + 1) k
   refine .inr ⟨.inl k,c,e,?_⟩
   have q:=x.cell y c e
   rw [zn8 ndP hp hu (by show scope.names.lookup y≠_; rw [k]; decide)] at q
   exact q
 ·exact e0.hok.fresh (Zmv (x.above y c (Zj5 h)))
 ·unfold zg0
  show _ = N.length
  rw [Zh1,Zhk,Zma]
  omega
theorem yc7 {CX : CXT} {P : Ziq} {w : Zjv} {K : Zhi} {mg : Str->Option Value} {base : Heap} {k : Nat} {f : Addr} {name qual : Str} {params : Zq2} {body : List Stmt} {scope : Scope} {dV kV doc pm cdv ct oc : Value} {an od : Option Addr}
  {osl : Array (Option Value)} {N ps : List Str} {sp : Sp} (lk : K.lookup f = some ⟨oc,od,.func (Zjy name qual params body scope dV kV doc pm an cdv ct),osl⟩) (hcd : Zno K cdv qual = true) (S : FnScope N ps scope)
  (len : ∀ vs H Q E,sp vs H Q E->vs.length = ps.length)
  (hbody : ∀ (A : Zi0) (outer : List Env) (s : Zhq) (H : Hp) (vs : List V) (Q : VK) (E : XK),Room k (A.deeper (Zm1 qual scope s.heap.objs.size f cdv))->sp vs H Q E ->
   ∃ t,PSs (cxOf CX P w K mg base N qual scope f cdv A outer s H E) body t/\t { nx:=fun _ H'=>Q .non H',rt:=Q } (zg0 N vs) H) :
  FnOk P w K mg base CX (k + 1) f (Zjy name qual params body scope dV kV doc pm an cdv ct) ps sp:=by
 refine ⟨len,fun A outer s H args us vs Q E hr e0 hb r hsp=>?_⟩
 have hl:=len _ _ _ _ hsp
 have KX : K.In s.heap:=e0.mod.kin.keeps fun b o e=>(e0.bs b o e).1
 have lim : s.heap.NoLimit:=e0.mod.nolimit.keeps fun b o e=>(e0.bs b o e).1
 have hkind : ∀ y∈ps.zip us,scope.names.lookup y.1 = some .local \/ (scope.names.lookup y.1 = some .cell/\((Zu2 (s.heap.objs.size + 1) scope.names []).lookup y.1).isSome = true):=fun ⟨n,v⟩ hy=>by
  rcases S.par n (Zpf hy).1 with q | q
  ·exact .inl q
  ·exact .inr ⟨q,Zp1 _ _ _ (.inl q)⟩
 refine codeAny_call_function hr.depth (KX _ _ lk) rfl S.co S.gen rfl (PySem.W.codeRec_of KX hcd) (hb _ _ _ _ ?_)
 refine wpAny_newFunctionEnv_cells S.kind hkind fun env he s1 x=>?_
 subst he
 refine ⟨lim.keeps x.toInCall.keep,codeAny_func ?_⟩
 obtain ⟨t,ht,hq⟩:=hbody A outer s H vs Q E (hr.deeper _) hsp
 have I : Inv (cxOf CX P w K mg base N qual scope f cdv A outer s H E) [] (zg0 N vs) H s1:=zw3 S hr.hd e0 hl r x
 refine Zj8 (ht [] s1 (zg0 N vs) H _ I hq) (fun fl s' hs=>?_) fun e s' hs=>hs
 have fin : ∀ {σ' : St} {H' : Hp} {v : V} {u : Value},Inv (cxOf CX P w K mg base N qual scope f cdv A outer s H E) [] σ' H' s'->RelV v u->Q v H'->CE outer P w H s Q u s' :=
  fun {σ' H' v u} J rv q=>⟨v,H',J.os,J.bare,J.base,J.hok,rv,q⟩
 cases fl with
 | ret u =>
  obtain ⟨v,σ',H',J,rv,q⟩:=hs
  exact fin J rv q
 | next =>
  obtain ⟨σ',H',J,q⟩:=hs
  exact fin (v:=V.non) (u:=Zp0) J rfl q
 | brk =>
  obtain ⟨_,_,_,q⟩:=hs
  exact Zlu q
 | cont =>
  obtain ⟨_,_,_,q⟩:=hs
  exact Zlu q
section
variable {X : Cx} {x : Str} {p pos : Pos} {e : Expr} {es : List Expr} {t : TA} {id T : String} {r : List V->Hp->VK->Prop}
noncomputable def tCB (r : List V->Hp->VK->Prop) (t : TA) : TE:=fun σ H Q=>t σ H fun vs H1=>r vs H1 Q
theorem zaz (hc : zdk X (.builtin id) r) (hg : Gl X x) (hm : X.mg x = none) (hv : Zmk x = some (.builtin id)) (ha : PA X (e::es) t) (hn : x ≠ "__name__" := by decide) (hdb : (x == ("__debug__" : Str)) = false:=by decide)
  (he : Zi6 (e::es) X.env = (false,eval e X.env)::Zi6 es X.env:=by rfl) (hpl : (Znl pos (Zi6 es X.env)).any (·.1) = false:=by rfl) : PE X (.Call (.Name x p) (e::es) [] pos) (tCB r t):=by
 intro pins s σ H Q I h
 refine Zl5 (zhb I hg hm hv ?_ hn hdb)
 exact Zun (thn (ha pos pins s σ H _ I h) fun us s1 ⟨vs,H1,I1,r1,q1⟩=>hc pins s1 σ H1 vs us Q I1 r1 q1) he hpl
theorem zb9 (hc : zdk X (.type T) r) (hg : Gl X x) (hm : X.mg x = none) (hv : Zmk x = some (.type T)) (ha : PA X (e::es) t) (hn : x ≠ "__name__" := by decide) (hdb : (x == ("__debug__" : Str)) = false:=by decide)
  (he : Zi6 (e::es) X.env = (false,eval e X.env)::Zi6 es X.env:=by rfl) (hpl : (Znl pos (Zi6 es X.env)).any (·.1) = false:=by rfl) : PE X (.Call (.Name x p) (e::es) [] pos) (tCB r t):=by
 intro pins s σ H Q I h
 refine Zl5 (zhb I hg hm hv ?_ hn hdb)
 exact Zi7 (thn (ha pos pins s σ H _ I h) fun us s1 ⟨vs,H1,I1,r1,q1⟩=>hc pins s1 σ H1 vs us Q I1 r1 q1) he hpl
end
end L2
namespace HT
open PySem PyProof.Rows
section
open PySem.SeqAt
open PySem.AutoSeq1 (wpAny_loadPart')
open PySem.MeetsSeq PySem.MeetsSeq2 PySem.MeetsSeq3
end
section
variable {prog : Ziq} {w : Zjv} {A : Zi0} {E : Value->Zhq->Prop} {s : Zhq}
noncomputable def sIx (n d : Nat) : Option Int->Nat
 | none=>d
 | some v=>if v < 0 then (v + (n : Int)).toNat else min v.toNat n
end
end HT
namespace L2
open PySem PySem.Spec PyProof.Rows
noncomputable abbrev TO:=St->Hp->(Option Int->Hp->Prop)->Prop
noncomputable def PO (X : Cx) (e : Option Expr) (t : TO) : Prop :=
 ∀ (pins : List (Addr × Obj)) (s : Zhq) (σ : St) (H : Hp) (Q : Option Int->Hp->Prop),Inv X pins σ H s->t σ H Q ->
  Zij (Zix X.prog X.w) X.A (evalPart e X.env) (fun u s'=>∃ o H',Inv X pins σ H' s'/\IsPart u o/\Q o H') X.xe s
noncomputable def zni : TO:=fun _ H Q=>Q none H
noncomputable def zyn (t : TE) : TO:=fun σ H Q=>t σ H fun x H1=>∃ i,x = .int i/\Q (some i) H1
theorem ztr {ns : List Int} : ∀ {us : List Value},Vals (ns.map V.int) us->Zqy us ns:=by
 induction ns with
 | nil=>intro us r; rw [Zl8] at r; cases r; exact .nil
 | cons n ns ih =>
  intro us r
  rw [Zh5] at r
  cases r with
  | cons r1 r2 =>
   obtain ⟨t,e⟩:=r1
   subst e
   exact .cons n t (ih r2)
section
variable {X : Cx} {e : Expr} {te : TE} {lo hi : Option Expr} {tl th : TO} {pos p2 : Pos}
theorem zhf : PO X none zni:=by
 intro pins s σ H Q I h
 rw [Zvj]
 exact Zhz ⟨none,H,I,.none,h⟩
theorem zfs (h : PE X e te) : PO X (some e) (zyn te):=by
 intro pins s σ H Q I hw
 rw [evalPart_some]
 refine thn (h pins s σ H _ I hw) fun u s1 hz9=>?_
 obtain ⟨x,H1,I1,r1,q1⟩:=hz9
 obtain ⟨i,rfl,q⟩:=q1
 obtain ⟨t,rfl⟩:=r1
 exact ⟨some i,H1,I1,.int i t,q⟩
noncomputable def SlR (X : Cx) (r : V->Option Int->Option Int->Hp->VK->Prop) : Prop :=
 ∀ (pins : List (Addr × Obj)) (s : Zhq) (σ : St) (H : Hp) (x : V) (v vl vu : Value) (lo hi : Option Int) (sl : Addr) (Q : VK),Inv X pins σ H s->RelV x v->s.heap.IsSliceOf sl vl vu .none->IsPart vl lo->IsPart vu hi->r x lo hi H Q ->
  ∃ T id,Ztf (.type T) "__getitem__" = pure (some (.builtin id))/\s.TypeIs v T/\Zij (Zix X.prog X.w) X.A (Zrm v (.ref sl)) (EP X pins σ Q) X.xe s
noncomputable def tSl (r : V->Option Int->Option Int->Hp->VK->Prop) (te : TE) (tl th : TO) : TE:=fun σ H Q=>te σ H fun x H1=>tl σ H1 fun l H2=>th σ H2 fun u H3=>r x l u H3 Q
theorem zev {r : V->Option Int->Option Int->Hp->VK->Prop} (hr : SlR X r) (he : PE X e te) (hl : PO X lo tl) (hu : PO X hi th) : PE X (.Subscript e (.Slice lo hi none p2) pos) (tSl r te tl th):=by
 intro pins s σ H Q I h
 refine Ztp (thn (he pins s σ H _ I h) fun v s1 hz9=>?_)
 obtain ⟨x,H1,I1,r1,q1⟩:=hz9
 refine wpAny_Slice (thn (hl pins s1 σ H1 _ I1 q1) fun vl s2 ⟨l,H2,I2,pl,q2⟩=>thn (hu pins s2 σ H2 _ I2 q2) fun vu s3 hz9=>?_)
 obtain ⟨u,H3,I3,pu,q3⟩:=hz9
 rw [Zvj]
 refine Zhz ?_
 have I4 : Inv X pins σ H3 { s3 with heap:=s3.heap.push { cls:=.type "slice", data:=.fields #[vl,vu,.none] } }:=I3.kept (t':=s3.toks) fun b ob q=>Zhr _ q
 obtain ⟨T,id,hT,ht,hg⟩:=hr pins { s3 with heap:=s3.heap.push { cls:=.type "slice", data:=.fields #[vl,vu,.none] } } σ H3 x v vl vu l u s3.heap.objs.size Q I4 r1 (Zs8 ..) pl pu q3
 show Zij (Zix X.prog X.w) X.A (Zrl e (.Slice lo hi none p2) v (.ref s3.heap.objs.size)) (EP X pins σ Q) X.xe { s3 with heap:=s3.heap.push { cls:=.type "slice", data:=.fields #[vl,vu,.none] } }
 exact tail_any (ops:=[.ref s3.heap.objs.size,v]) ht hT hg (by with_unfolding_all rfl)
noncomputable def cutV (xs : List V) (lo hi : Option Int) : List V:=(xs.drop (HT.sIx xs.length 0 lo)).take (HT.sIx xs.length xs.length hi - HT.sIx xs.length 0 lo)
theorem zpy (xs : List V) (lo hi : Option Int) : (cutV xs lo hi).length <= xs.length:=by
 unfold cutV
 rw [Zin,Zme]
 omega
end
noncomputable def ixN (n : Nat) (i : Int) : Option Nat:=if 0 <= i then (if i < n then some i.toNat else none) else if -(n : Int) <= i then some (i + n).toNat else none
noncomputable def atI {α : Type} (xs : List α) (i : Int) : Option α:=(ixN xs.length i).bind fun j=>xs[j]?
theorem ya2 {n : Nat} {i : Int} {j : Nat} (h : ixN n i = some j) : seqIndex? i n = some j/\j < n /\ -(n : Int) <= i/\i < n:=by
 unfold ixN at h
 by_cases h0 : 0 <= i
 ·rw [if_pos h0] at h
  by_cases h1 : i < n
  ·rw [if_pos h1] at h
   have e : i.toNat = j:=Zjf h
   exact ⟨by rw [seqIndex_of h0 h1,e],by omega,by omega,h1⟩
  ·rw [if_neg h1] at h; cases h
 ·rw [if_neg h0] at h
  by_cases h1 : -(n : Int) <= i
  ·rw [if_pos h1] at h
   have e : (i + n).toNat = j:=Zjf h
   exact ⟨by rw [seqIndex_neg (by omega) h1,e],by omega,h1,by omega⟩
  ·rw [if_neg h1] at h; cases h
theorem zvh {α : Type} {xs : List α} {i : Int} {v : α} (h : atI xs i = some v) : ∃ j,seqIndex? i xs.length = some j/\xs[j]? = some v/\j < xs.length /\ -(xs.length : Int) <= i/\i < xs.length:=by
 unfold atI at h
 cases e : ixN xs.length i with
 | none=>rw [e] at h; cases h
 | some j =>
  rw [e] at h
  obtain ⟨h1,h2,h3,h4⟩:=ya2 e
  exact ⟨j,h1,h,h2,h3,h4⟩
theorem zjr {α : Type} {xs : List α} {j : Nat} {v : α} (h : xs[j]? = some v) : atI xs (j : Int) = some v:=by
 have hj : j < xs.length:=(Zhn.mp h).1
 have e : ixN xs.length (j : Int) = some j:=by
  unfold ixN
  rw [if_pos (by omega),if_pos (by omega)]; simp
 unfold atI; rw [e]; exact h
noncomputable def ya3 (b : Expr) : Prop:=∀ o i,Zqt b false o i = operate [o,i] (Zrm o i)
noncomputable def IxR (X : Cx) (r : R2) : Prop :=
 ∀ (value slice : Expr) (pins : List (Addr × Obj)) (s : Zhq) (σ : St) (H : Hp) (x y : V) (v u : Value) (Q : VK),Inv X pins σ H s->RelV x v->RelV y u->r x y H Q ->
  Zqt slice false v u = operate [v,u] (Zrm v u)->Zij (Zix X.prog X.w) X.A (Zrl value slice v u) (EP X pins σ Q) X.xe s
noncomputable def MtR (X : Cx) (id : String) (r : V->List V->Hp->VK->Prop) : Prop :=
 ∀ (pins : List (Addr × Obj)) (s : Zhq) (σ : St) (H : Hp) (x : V) (xs : List V) (v : Value) (us : List Value) (Q : VK),Inv X pins σ H s->RelV x v->Vals xs us->r x xs H Q ->
  Zij (Zix X.prog X.w) X.A (call (.builtin id) (v::us)) (EP X pins σ Q) X.xe s
section
variable {X : Cx} {a b : Expr} {ta tb : TE} {pos : Pos}
theorem zbb {r : R2} (hr : IxR X r) (ha : PE X a ta) (hb : PE X b tb) (hs : ya3 b) : PE X (.Subscript a b pos) (tOp r ta tb):=by
 intro pins s σ H Q I h
 exact Ztp (binT ha hb I h fun v u s2 x y H2 I2 rx ry q=>hr a b pins s2 σ H2 x y v u Q I2 rx ry q (hs _ _))
noncomputable def rIxL (K : Zhi) : R2:=fun x y H Q=>∃ p xs i v,x = .ref p/\y = .int i/\SqL K H p xs/\atI xs i = some v/\Q v H
noncomputable def rIxT (K : Zhi) : R2:=fun x y H Q=>∃ p xs i v,x = .ref p/\y = .int i/\SqT K H p xs/\atI xs i = some v/\Q v H
theorem zbm : IxR X (rIxL X.K):=by
 intro value slice pins s σ H x y v u Q I rx ry h hs
 obtain ⟨p,xs,i,z,rfl,rfl,hq,he,q⟩:=h
 cases rx
 obtain ⟨t,rfl⟩:=ry
 obtain ⟨its,r,pl,hz⟩:=I.list hq
 obtain ⟨j,h1,h2,h3,h4,h5⟩:=zvh he
 obtain ⟨w,ew,rw'⟩:=r.get h2
 have hl:=r.length
 have hn:=zty
 have fin : EP X pins σ Q w s:=⟨z,H,I,rw',q⟩
 by_cases h0 : 0 <= i
 ·have hj : i.toNat = j:=by
   rw [seqIndex_of h0 h5] at h1
   exact Zjf h1
  exact item_listR pl.isList h0 (by omega) (by rw [hj]; simpa using ew) fin hs
 ·have hj : (i + (its.toArray.size : Int)).toNat = j:=by
   rw [seqIndex_neg (by omega) h4] at h1
   rw [Zii,<- hl]
   exact Zjf h1
  exact Zrw (x:=w) pl.isList.typeIs slot_list_getitem.lookup
   (wpAny_getItem_list_neg (Q:=fun r s'=>r = w/\EP X pins σ Q r s') pl.isList (by omega) (by rw [Zii] <;> omega) (by omega) (by rw [hj]; simpa using ew) ⟨rfl,fin⟩) hs
theorem zbf : IxR X (rIxT X.K):=by
 intro value slice pins s σ H x y v u Q I rx ry h hs
 obtain ⟨p,xs,i,z,rfl,rfl,hq,he,q⟩:=h
 cases rx
 obtain ⟨t,rfl⟩:=ry
 obtain ⟨its,r,pl,hz⟩:=I.tuple hq
 obtain ⟨j,h1,h2,h3,h4,h5⟩:=zvh he
 obtain ⟨w,ew,rw'⟩:=r.get h2
 have hl:=r.length
 have hn:=zty
 have fin : EP X pins σ Q w s:=⟨z,H,I,rw',q⟩
 exact Zrw (x:=w) pl.typeIs slot_tuple_getitem.lookup
  (getItem_tuple (j:=j) (Q:=fun r s'=>r = w/\EP X pins σ Q r s') pl (by omega) (by omega) (by rw [Zii,<- hl]; exact h1) (by simpa using ew) ⟨rfl,fin⟩) hs
theorem zob (lo hi : Option Int) (n : Nat) : (Zmz lo hi none n).1 = ((HT.sIx n 0 lo : Nat) : Int)/\(Zmz lo hi none n).2.1 = ((HT.sIx n n hi : Nat) : Int)/\(Zmz lo hi none n).2.2 = 1:=by
 refine ⟨?_,?_,rfl⟩
 ·cases lo with
  | none=>simp [Zmz,HT.sIx]
  | some i =>
   simp only [Zmz,HT.sIx,Zrq,show (1 : Int) > 0 by decide,if_true]
   by_cases h : i < 0
   ·simp only [h,if_true] <;> omega
   ·simp only [h,if_false] <;> omega
 ·cases hi with
  | none=>simp [Zmz,HT.sIx]
  | some i =>
   simp only [Zmz,HT.sIx,Zrq,show (1 : Int) > 0 by decide,if_true]
   by_cases h : i < 0
   ·simp only [h,if_true] <;> omega
   ·simp only [h,if_false] <;> omega
theorem znk (its : List Value) (lo hi : Option Int) : slicePick its.toArray lo hi none = ((its.drop (HT.sIx its.length 0 lo)).take (HT.sIx its.length its.length hi - HT.sIx its.length 0 lo)).toArray:=by
 obtain ⟨h1,h2,h3⟩:=zob lo hi its.toArray.size
 unfold slicePick
 rw [h1,h2,h3]
 simp only [sliceRange_one,pick_run,Zii] <;> rfl
noncomputable def rSlL (K : Zhi) : V->Option Int->Option Int->Hp->VK->Prop:=fun x lo hi H Q=>∃ a xs,x = .ref a/\SqL K H a xs /\ ∀ p,H p = none->Q (.ref p) (upd H p (.lst (cutV xs lo hi)))
theorem zgr : SlR X (rSlL X.K):=by
 intro pins s σ H x v vl vu lo hi sl Q I rx hs pl pu h
 obtain ⟨a,xs,rfl,hx,q⟩:=h
 cases rx
 obtain ⟨its,r,ht,hz⟩:=I.list hx
 have hlen:=r.length
 refine ⟨"list", _,slot_list_getitem.lookup,ht.isList.typeIs,?_⟩
 refine wpAny_getItem_list_slice ht.isList hs pl pu .none (by simp) ?_ (by rw [Zii] <;> omega)
 rw [znk,<- hlen]
 refine ⟨.ref s.heap.objs.size,_,I.laid (t':=s.toks) (o:=.lst (cutV xs lo hi)) (fun b ob q=>Zhr _ q) (Zhu _) ?_,rfl,q _ (I.hok.fresh (Zhu _))⟩
 exact ⟨Zik (zpy xs lo hi) hz,_,0,(r.drop (HT.sIx xs.length 0 lo)).take (HT.sIx xs.length xs.length hi - HT.sIx xs.length 0 lo),Zh6 _ rfl⟩
theorem za9 : zdk X (.builtin "len") (fun xs H Q=>∃ p ys,xs = [.ref p]/\(SqL X.K H p ys \/ SqT X.K H p ys)/\Q (.int ys.length) H):=by
 intro pins s σ H xs us Q I r h
 obtain ⟨p,ys,rfl,hq,q⟩:=h
 obtain ⟨u,rfl,rx⟩:=zhc r
 cases rx
 have hn:=zty
 rcases hq with hq | hq
 ·obtain ⟨its,r',pl,hz⟩:=I.list hq
  have hlen:=r'.length
  exact Calls.call_len_list pl.isList (by simp only [Zii] <;> omega) ⟨.int ys.length,H,I.tok _,⟨s.toks + 1,by rw [Zii,hlen]⟩,q⟩
 ·obtain ⟨its,r',pl,hz⟩:=I.tuple hq
  have hlen:=r'.length
  exact len_tuple pl (by simp only [Zii] <;> omega) ⟨.int ys.length,H,I.tok _,⟨s.toks + 1,by rw [Zii,hlen]⟩,q⟩
theorem zdj : zdk X (.type "list") (fun xs H Q=>∃ p ys,xs = [.ref p]/\(SqL X.K H p ys \/ SqT X.K H p ys) /\ ∀ l,H l = none->Q (.ref l) (upd H l (.lst ys))):=by
 intro pins s σ H xs us Q I r h
 obtain ⟨p,ys,rfl,hq,q⟩:=h
 obtain ⟨u,rfl,rx⟩:=zhc r
 cases rx
 have fin : ∀ (its : List Value),Vals ys its->ys.length <= sizeLine -> ∀ (h' : Heap) (c' : Nat),(∀ b o',s.heap.get? b = some o'->h'.get? b = some o') ->
   h'.get? s.heap.objs.size = some { cls:=.type "list", dict:=none,data:=.seq its.toArray c',slots:=#[] }->EP X pins σ Q (.ref s.heap.objs.size) { s with heap:=h' }:=fun its r' hz h' c' kp e =>
  ⟨.ref s.heap.objs.size,_,I.laid (t':=s.toks) kp (Zhu _) (show zdx X.prog X.w _ h' _ (.lst ys) from ⟨hz,its,c',r',e⟩),rfl,q _ (I.hok.fresh (Zhu _))⟩
 rcases hq with hq | hq
 ·obtain ⟨its,r',pl,hz⟩:=I.list hq
  have hlen:=r'.length
  obtain ⟨o,ho,hc,n,hd⟩:=pl.isList
  exact Zvm p (.inl rfl) ho hc hd (fun h' c' kp e=>fin its r' hz h' c' kp e) (by simp only [Zii] <;> omega)
 ·obtain ⟨its,r',pl,hz⟩:=I.tuple hq
  have hlen:=r'.length
  obtain ⟨o,ho,hc,n,hd⟩:=pl
  exact Zvm p (.inr rfl) ho hc hd (fun h' c' kp e=>fin its r' hz h' c' kp e) (by simp only [Zii] <;> omega)
noncomputable def tyV (K : Zhi) (T : String) (x : V) (H : Hp) : Prop:=match x with
 | .str _=>T = "str"
 | .int _=>T = "int"
 | .ref p=>(T = "list" /\ ∃ xs,SqL K H p xs) \/ (T = "tuple" /\ ∃ o,K.lookup p = some o/\o.cls = .type "tuple" /\ o.dict = none) \/
   (T = "dict" /\ ((∃ kvs,H p = some (.dK kvs)) \/ ∃ kvs,H p = some (.dT kvs))) \/ (T = "set" /\ ∃ S n,H p = some (.set S n))
 | _=>False
theorem zzk {pins : List (Addr × Obj)} {σ : St} {H : Hp} {s : Zhq} {T : String} {x : V} {v : Value} (I : Inv X pins σ H s) (r : RelV x v) (ty : tyV X.K T x H) :
  s.TypeIs v T /\ ∀ a,v = .ref a -> ∃ ob,s.heap.get? a = some ob/\ob.dict = none:=by
 cases x with
 | str z =>
  obtain ⟨t,rfl⟩:=r
  cases (show T = "str" from ty)
  exact ⟨Ztg s z t,fun _ e=>nomatch e⟩
 | int i =>
  obtain ⟨t,rfl⟩:=r
  cases (show T = "int" from ty)
  exact ⟨Zpl s i t,fun _ e=>nomatch e⟩
 | ref p =>
  cases r
  rcases ty with ⟨rfl,xs,hq⟩ | ⟨rfl,o,hk,hc,hd⟩ | ⟨rfl,hk⟩ | ⟨rfl,S,n,hk⟩
  ·obtain ⟨its,_,pl,_⟩:=I.list hq
   refine ⟨pl.isList.typeIs,fun a e=>?_⟩
   cases e
   obtain ⟨o,n,e,c,hd,_⟩:=pl
   exact ⟨o,e,hd⟩
  ·refine ⟨⟨o,I.kIn p o hk,hc⟩,fun a e=>?_⟩
   cases e
   exact ⟨o,I.kIn _ o hk,hd⟩
  ·have z : ∃ o,s.heap.get? p = some o/\o.ExactDict:=by
    rcases hk with ⟨kvs,hk⟩ | ⟨kvs,hk⟩
    ·obtain ⟨_,_,_,_,o,_,_,e,ex,_⟩:=I.hok p _ hk
     exact ⟨o,e,ex⟩
    ·obtain ⟨_,_,_,_,o,_,_,e,ex,_⟩:=I.hok p _ hk
     exact ⟨o,e,ex⟩
   obtain ⟨o,e,ex⟩:=z
   refine ⟨⟨o,e,ex.1⟩,fun a e2=>?_⟩
   cases e2
   exact ⟨o,e,ex.2.1⟩
  ·obtain ⟨o,_,_,_,e,ex,_⟩:=I.hok p _ hk
   refine ⟨⟨o,e,ex.1⟩,fun a e2=>?_⟩
   cases e2
   exact ⟨o,e,ex.2.1⟩
 | _=>exact Zlu ty
noncomputable def tBM0 (K : Zhi) (T : String) (r : V->List V->Hp->VK->Prop) (to : TE) : TE:=fun σ H Q=>to σ H fun x H1=>tyV K T x H1/\r x [] H1 Q
noncomputable def tBM (K : Zhi) (T : String) (r : V->List V->Hp->VK->Prop) (to : TE) (t : TA) : TE:=fun σ H Q=>to σ H fun x H1=>tyV K T x H1/\t σ H1 fun xs H2=>r x xs H2 Q
variable {o e : Expr} {es : List Expr} {to : TE} {t : TA} {name : Str} {apos cpos : Pos} {T id : String} {r : V->List V->Hp->VK->Prop}
theorem zzf (pa : PlainAttrs T) (slot : Slot T name id) (hty : typeOf (.builtin id) = pure (.type "method_descriptor")) (hm : MtR X id r) (ho : PE X o to)
  (hbase : Znu o name X.env (eval o X.env) = eval o X.env:=by rfl) (hline : (apos.endLine == cpos.line) = true:=by rfl) : PE X (.Call (.Attribute o name apos) [] [] cpos) (tBM0 X.K T r to):=by
 intro pins s σ H Q I h
 refine Zrk hbase hline (thn (ho pins s σ H _ I h) fun v s1 hz9=>?_)
 obtain ⟨x,H1,I1,r1,ty,q1⟩:=hz9
 obtain ⟨h1,h2⟩:=zzk I1 r1 ty
 exact ⟨T,id,pa,slot,hty,h1,h2,Zk8 rfl (Zq7 (hm pins s1 σ H1 x [] v [] Q I1 r1 .nil q1))⟩
theorem zhu (pa : PlainAttrs T) (slot : Slot T name id) (hty : typeOf (.builtin id) = pure (.type "method_descriptor")) (hm : MtR X id r) (ho : PE X o to) (ha : PA X (e::es) t)
  (hbase : Znu o name X.env (eval o X.env) = eval o X.env:=by rfl)
  (hfew : ((Znl cpos (Zi6 (e::es) X.env)).all (fun x=>!x.1) && (Zqj cpos (Znr [] X.env)).all (fun x=>x.1.isSome)
   && decide ((e::es).length + ([] : List Zpw).length + (if ([] : List Zpw).isEmpty then 0 else 1) < 30)) = true:=by rfl)
  (hline : (apos.endLine == cpos.line) = true:=by rfl) (hs : Zi6 (e::es) X.env = (false,eval e X.env)::Zi6 es X.env:=by rfl) (hplain : (Znl cpos (Zi6 es X.env)).any (·.1) = false:=by rfl) :
  PE X (.Call (.Attribute o name apos) (e::es) [] cpos) (tBM X.K T r to t):=by
 intro pins s σ H Q I h
 refine wpAny_Call_method_late hbase hfew hline rfl (thn (ho pins s σ H _ I h) fun v s1 hz9=>?_)
 obtain ⟨x,H1,I1,r1,ty,q1⟩:=hz9
 obtain ⟨h1,h2⟩:=zzk I1 r1 ty
 refine ⟨T,id,pa,slot,hty,h1,h2,?_⟩
 have hA:=ha cpos pins s1 σ H1 _ I1 q1
 rw [hs] at hA ⊢
 refine Zk8 (by show (false || (Znl cpos (Zi6 es X.env)).any (·.1)) = false; rw [hplain] <;> rfl) (Znw ?_)
 refine thn hA fun us s2 hz9=>?_
 obtain ⟨vs,H2,I2,r2,q2⟩:=hz9
 exact hm pins s2 σ H2 x vs v us Q I2 r1 r2 q2
end
noncomputable def MtM (X : Cx) (id : String) (r : V->List V->Hp->VK->Prop) : Prop :=
 ∀ (pins : List (Addr × Obj)) (s : Zhq) (σ : St) (H : Hp) (x : V) (xs : List V) (v : Value) (us : List Value) (Q : VK),Inv X pins σ H s->RelV x v->Vals xs us->r x xs H Q ->
  Zij (Zix X.prog X.w) X.A (call (.builtin id) (v::us)) (EP X pins σ Q) X.xe s
theorem Vals.one : ∀ {x : V} {us : List Value},Vals [x] us -> ∃ u,us = [u]/\RelV x u
 | _,_,.cons r .nil=>⟨_,rfl,r⟩
theorem Vals.zero : ∀ {us : List Value},Vals [] us->us = []
 | _,.nil=>rfl
theorem Vals.dropLast {xs : List V} {us : List Value} (h : Vals xs us) : Vals xs.dropLast us.dropLast:=by
 induction h with
 | nil=>exact .nil
 | cons r t ih =>
  cases t with
  | nil=>exact .nil
  | cons q t'=>exact .cons r ih
theorem Vals.reverse {xs : List V} {us : List Value} (h : Vals xs us) : Vals xs.reverse us.reverse:=by
 induction h with
 | nil=>exact .nil
 | cons r t ih=>rw [Zku,Zku]; exact Vals.append ih (.cons r .nil)
theorem zsv {α : Type} (l : List α) : l.eraseIdx (l.length - 1) = l.dropLast:=by
 induction l with
 | nil=>rfl
 | cons a r ih =>
  cases r with
  | nil=>rfl
  | cons b r =>
   have e : (a::b::r).length - 1 = ((b::r).length - 1) + 1:=by
    have h1 : (a::b::r).length = r.length + 2:=rfl
    have h2 : (b::r).length = r.length + 1:=rfl
    omega
   rw [e,List.eraseIdx_cons_succ,ih]
   all_goals rfl
section
variable {X : Cx} {pins : List (Addr × Obj)} {σ : St} {H : Hp} {s : Zhq} {l b : Addr} {xs ys zs : List V}
theorem Inv.lset {its its' : List Value} {n : Nat} {f : Array Value->Array Value} {t' : Nat} (I : Inv X pins σ H s) (hH : H l = some (.lst xs))
  (e : s.heap.get? l = some { cls:=.type "list", data:=.seq its.toArray n }) (hf : f its.toArray = its'.toArray) (hv : Vals ys its') (hz : ys.length <= sizeLine) :
  Inv X pins σ (upd H l (.lst ys)) { s with heap:=s.heap.update l (Zj7 f),toks:=t' }:=by
 have q:=Zvp e f
 rw [hf] at q
 refine I.write (x:=l) (e:=l) (by rw [hH]; exact trivial) (.inl rfl) (fun b' u hb hu=>(Zqz s.heap (Zj7 f) (Zi4 hb)).trans hu) ⟨_,q⟩ ?_
 exact ⟨hz,its',_,hv,q⟩
theorem Inv.lnew {its : List Value} {t' : Nat} (I : Inv X pins σ H s) (hv : Vals ys its) (hz : ys.length <= sizeLine) :
  Inv X pins σ (upd H s.heap.objs.size (.lst ys)) { s with heap:=s.heap.push { cls:=.type "list", data:=.seq its.toArray },toks:=t' } :=
 I.laid (fun _ _ q=>Zhr _ q) (Zhu _) ⟨hz,its,0,hv,Zh6 _ rfl⟩
theorem Inv.fresh (I : Inv X pins σ H s) : H s.heap.objs.size = none:=I.hok.fresh (Zhu _)
theorem Inv.lstM (I : Inv X pins σ H s) (hH : H l = some (.lst xs)) : xs.length <= sizeLine /\ ∃ (its : List Value) (n : Nat),Vals xs its/\xs.length = its.length/\s.heap.get? l = some { cls:=.type "list", data:=.seq its.toArray n }:=by
 obtain ⟨z,its,n,r,e⟩:=I.hok l _ hH
 exact ⟨z,its,n,r,r.length,e⟩
end
section
variable {X : Cx}
noncomputable def zps : V->List V->Hp->VK->Prop:=fun x vs H Q=>∃ l xs y,x = .ref l/\vs = [y]/\H l = some (.lst xs)/\xs.length < sizeLine/\Q .non (upd H l (.lst (xs++[y])))
theorem zce : MtM X "list.append" zps:=by
 intro pins s σ H x vs v us Q I rx rv h
 obtain ⟨l,xs,y,rfl,rfl,hH,hz,q⟩:=h
 cases rx
 obtain ⟨u,rfl,ru⟩:=rv.one
 obtain ⟨z,its,n,r,hl,e⟩:=I.lstM hH
 refine Ztj Zjc ⟨_,e,rfl⟩ F.entry_list_append (F.args_list_append_2 _ _) (PySem.list_append l its.toArray n u (by rw [Zii]; omega)) ⟨e,?_⟩
 refine ⟨.non,_,I.lset (its':=its++[u]) hH e (by simp) (r.append (.cons ru .nil)) ?_,rfl,q⟩
 rw [Zh1,Zl9]
 omega
noncomputable def rPop : V->List V->Hp->VK->Prop:=fun x vs H Q=>∃ l xs y,x = .ref l/\vs = []/\H l = some (.lst xs)/\xs[xs.length - 1]? = some y/\Q y (upd H l (.lst xs.dropLast))
theorem yek : MtM X "list.pop" rPop:=by
 intro pins s σ H x vs v us Q I rx rv h
 obtain ⟨l,xs,y,rfl,rfl,hH,hy,q⟩:=h
 cases rx
 have hus:=rv.zero
 subst hus
 obtain ⟨z,its,n,r,hl,e⟩:=I.lstM hH
 obtain ⟨u,hu,ru⟩:=r.get hy
 have hy' : its.toArray[its.toArray.size - 1]? = some u:=by
  show its.toArray[its.length - 1]? = some u
  rw [<- Zq0,<- hl]
  exact hu
 refine Ztj Zt2 ⟨_,e,rfl⟩ F.entry_list_pop (F.args_list_pop_1 _) (MeetsSeq.list_pop_last l its.toArray n u hy' (by rw [Zii]; omega)) ⟨e,?_⟩
 refine ⟨y,_,I.lset (its':=its.dropLast) hH e ?_ r.dropLast ?_,ru,q⟩
 ·show its.toArray.eraseIdxIfInBounds (its.toArray.size - 1) = its.dropLast.toArray
  rw [Zii,List.eraseIdxIfInBounds_toArray,zsv]
 ·rw [List.length_dropLast]
  omega
end
end L2
namespace Att
open PySem PySem.W PySem.Calls PyProof.Rows
theorem zlz {P : Params} {h : Heap} : ∀ (ns : List Int) (vs : List Value),WellAll P h vs (ns.map WData.int)->Zqy vs ns:=by
 intro ns
 induction ns with
 | nil =>
  intro vs w
  rw [Zl8] at w
  cases w
  exact .nil
 | cons n ns ih =>
  intro vs w
  rw [Zh5] at w
  cases w with
  | cons a b =>
   cases a
   exact .cons _ _ (ih _ b)
theorem zuz {l : OpenLaw} {n : Nat} (hn : l.most = some n) {P : Params} {h : Heap} {args : List WData} {vals : List Value}
  (hpre : l.row.toRowW.claim.pre args = true) (hwl : WellAll P h vals args) :
  ∃ a vs ns,vals = [Zjo a]/\args = [WData.list (ns.map WData.int)]/\h.get? a = some { cls:=.type "list", data:=.seq vs.toArray }/\Zqy vs ns/\ns.length <= n:=by
 have hsh : WShape.hasAll [] args [.list .int] = true:=(pre_splitW hpre).1
 have hc : l.pre.holds [] { args:=args } = true:=(pre_splitW hpre).2
 obtain ⟨d,r,rfl,h1,h2⟩:=hasAllW_cons hsh
 obtain rfl:=hasAllW_nil h2
 obtain ⟨xs,rfl,h3⟩:=hasW_list h1
 obtain ⟨ns,rfl⟩:=items_int h3
 have hlen : ns.length <= n:=by
  unfold OpenLaw.pre at hc
  have h4 : (WTm.not (.lt (.lit (.int (n : Int))) (.len (.arg 0)))).holds [] { args:=[.list (ns.map .int)] } = true:=by
   have h4:=(holds_andW hc).1
   rw [hn] at h4
   exact h4
  have h5:=condW_of h4 (w_not (w_lt w_lit (w_len_list (w_arg rfl))))
  rw [Zhk] at h5
  refine Nat.le_of_not_lt fun q=>?_
  have q' : (n : Int) < ((ns.length : Nat) : Int):=by omega
  first
   | (rw [decide_eq_true q'] at h5; exact absurd h5 (by decide))
   | (simp at h5; omega)
 cases hwl with
 | cons w1 w2 =>
  cases w2
  cases w1 with
  | list ho hall=>exact ⟨_,_,ns,rfl,rfl,ho,zlz ns _ hall,hlen⟩
theorem zwa (l : OpenLaw) (args : List WData) : l.row.toRowW.claim.post args (.bool true) args = true :=
 postW_of (r:=l.row.toRowW) (X:=(true == true))
  (show WShape.has [] (.bool true) .bool = true by first | rfl | decide | simp [WShape.has,WShape.arms,WShape.armsAll])
  (show (WTm.eq .res (.lit (.bool true))).value [] { args:=args,res:=some (.bool true),after:=args } = some (.bool (true == true)) from w_eq_bool (w_res rfl) w_lit) rfl
theorem attach_call {l : OpenLaw} {n : Nat} {q : Ziq} {loose : List Str} {XP : (Str->Option Value)->Heap->Prop} {YP : Zjv->Heap->Prop} {d : DefRec}
  (hn : l.most = some n) (hdf : d.params.defaults = [])
  (call : ∀ (w : Zjv) (s₀ s₁ : Zhq) (mg mb : Str->Option Value) (fa : Addr) (o : Obj) (pm cd doc : Value) (a : Addr) (vs : List Value) (ns : List Int),
   Ground q loose [] XP w s₀ mg mb s₁.heap->YP w s₁.heap ->
   s₁.heap.get? fa = some o->o.data = .func (docDef d.name d.params d.body d.scope pm cd doc)->s₁.heap.CodeRec cd d.name->mg d.name = some (.ref fa) ->
   s₁.heap.get? a = some { cls:=.type "list", data:=.seq vs.toArray }->Zqy vs ns->ns.length <= n->s₁.gens = #[] ->
   Zns (Zix l.prog w) Zqu (.call (.ref fa) ⟨[.ref a],[]⟩) (fun r s'=>r = .ok (.ret (.bool true))/\OldK s₁.heap s'.heap/\s'.os = s₁.os/\Zo3 s'.gens) s₁) :
  WalkO q loose XP YP l.row.toRowW d [] (fun f vs=>Zro f vs):=by
 intro w s₀ s₁ mg mb G Y fa o pm cd doc dV kV ho hd hcd hD hmg hg args vals as hpre hlay hrd hwl hlo
 obtain rfl : dV = .none:=Dflts.none hD hdf
 obtain rfl : kV = .none:=Dflts.noKw hD
 obtain ⟨a,vs,ns,rfl,rfl,hobj,hints,hlen⟩:=zuz hn hpre hwl
 refine enter_call (Zr6 (call w s₀ s₁ mg mb fa o pm cd doc a vs ns G Y ho (fd_plain hd) hcd hmg hobj hints hlen hg) fun r s' hq=>?_)
 obtain ⟨rfl,h2,h3,h4⟩:=hq
 exact ⟨.inl ⟨.bool true,.bool true,[],rfl,fun _=>rfl,.bool true,zwa l _,fun _=>⟨Ztz,fun _ hm=>(nomatch hm)⟩⟩,h2,h3,h4⟩
section
variable {prog : Ziq} {w : Zjv} {A : Zi0} {E : Value->Zhq->Prop} {s : Zhq} {K : Frag}
end
end Att
namespace L2
open PySem PySem.Spec PyProof.Rows
theorem zoh : ∀ {vs : List Value} {ns : List Int},Zqy vs ns->Vals (ns.map V.int) vs
 | _,_,.nil=>.nil
 | _,_,.cons n t h=>.cons ⟨t,rfl⟩ (zoh h)
noncomputable def zen (s : Stmt) : Zq2:=match s with
 | .FunctionDef _ a _ _ _ _ _ _ _ _=>a
 | _=>{ posonlyargs:=[],args:=[],vararg:=none,kwonlyargs:=[],kw_defaults:=[],kwarg:=none,defaults:=[] }
noncomputable def zb1 (s : Stmt) : List Stmt:=match s with
 | .FunctionDef _ _ b _ _ _ _ _ _ _=>b
 | _=>[]
noncomputable def zah (s : Stmt) : Scope:=match s with
 | .FunctionDef _ _ _ _ _ _ sc _ _ _=>sc
 | _=>{ kind:=.function,names:=[],isGenerator:=false,isCoroutine:=false }
noncomputable abbrev CX0 : CXT:=fun _ _ _ _ _ _=>False
noncomputable abbrev E0 : XK:=fun _ _ _=>False
theorem ye1 {X : Cx} : zub CX0 X E0:=fun _ _ _ _ _ _ _ h=>h.elim
structure Fun (K : Zhi) (x qual : Str) (st : Stmt) (f : Addr) (fd : Zkj) : Prop where
 ex : ∃ (oc : Value) (od : Option Addr) (kV doc pm : Value) (an : Option Addr) (cdv ct : Value) (osl : Array (Option Value)),
  fd = Zjy x qual (zen st) (zb1 st) (zah st) .none kV doc pm an cdv ct/\K.lookup f = some ⟨oc,od,.func fd,osl⟩/\Zno K cdv qual = true
 kp : Zl1 K (.ref f) = true
section
variable {P : Ziq} {w : Zjv} {K : Zhi} {mg : Str->Option Value} {base : Heap}
theorem Fun.ok {x qual : Str} {st : Stmt} {f : Addr} {fd : Zkj} {N ps : List Str} {k : Nat} {sp : Sp} (F : Fun K x qual st f fd) (S : FnScope N ps (zah st)) (len : ∀ vs H Q E,sp vs H Q E->vs.length = ps.length)
  (hbody : ∀ (cdv : Value) (A : Zi0) (outer : List Env) (s : Zhq) (H : Hp) (vs : List V) (Q : VK) (E : XK),Room k (A.deeper (Zm1 qual (zah st) s.heap.objs.size f cdv))->sp vs H Q E ->
   ∃ t,PSs (cxOf CX0 P w K mg base N qual (zah st) f cdv A outer s H E).nox (zb1 st) t/\t { nx:=fun _ H'=>Q .non H',rt:=Q } (zg0 N vs) H) : FnOk P w K mg base CX0 (k + 1) f fd ps sp:=by
 obtain ⟨oc,od,kV,doc,pm,an,cdv,ct,osl,rfl,lk,hcd⟩:=F.ex
 refine yc7 lk hcd S len fun A outer s H vs Q E hr hsp=>?_
 obtain ⟨t,h,q⟩:=hbody cdv A outer s H vs Q E hr hsp
 exact ⟨t,h.nox,q⟩
theorem Fun.binds {x qual : Str} {st : Stmt} {f : Addr} {fd : Zkj} {ps : List Str} (F : Fun K x qual st f fd)
  (h : ∀ (kV doc pm : Value) (an : Option Addr) (cdv ct : Value) (us : List Value),us.length = ps.length->Znd (Zjy x qual (zen st) (zb1 st) (zah st) .none kV doc pm an cdv ct) ⟨us,[]⟩ = pure (ps.zip us)) : zsz K fd ps []:=by
 obtain ⟨oc,od,kV,doc,pm,an,cdv,ct,osl,rfl,lk,hcd⟩:=F.ex
 exact .all (h kV doc pm an cdv ct)
theorem zzy {x qual : Str} {st : Stmt} {f : Addr} {oc : Value} {od an : Option Addr} {osl : Array (Option Value)} {kV doc pm cdv ct : Value} (l : K.lookup f = some ⟨oc,od,.func (Zjy x qual (zen st) (zb1 st) (zah st) .none kV doc pm an cdv ct),osl⟩)
  (c : Zno K cdv qual = true) (k : Zl1 K (.ref f) = true) : Fun K x qual st f (Zjy x qual (zen st) (zb1 st) (zah st) .none kV doc pm an cdv ct):=⟨⟨oc,od,kV,doc,pm,an,cdv,ct,osl,rfl,l,c⟩,k⟩
end
theorem zbh {A : Zi0} {k : Nat} (hr : Room k A) : A.units + 1 < Znt:=Nat.lt_of_le_of_lt (Nat.add_le_add_left (by decide : 1 <= 64) _) hr.units
section
variable {X : Cx}
theorem pv (i : Nat) {x : Str} {pos : Pos} (hN : X.N[i]? = some x:=by rfl) (hv : Vis X.env.scope x:=by first | exact Zkz rfl | exact Zs3 (Zkz rfl) | exact Zs3 (Zs3 rfl)) (hd : (x == ("__debug__" : Str)) = false:=by decide)
  (hcd : (x == ("__classdict__" : Str)) = false:=by decide) : PE X (.Name x pos) (tVar i):=ydq hN hv hd hcd
end
theorem iteF {A B : Prop} (h : B) : if false = true then A else B:=by
 rw [if_neg Zih]
 exact h
theorem iteT {A B : Prop} (h : A) : if true = true then A else B:=by
 rw [if_pos rfl]
 exact h
noncomputable def Same (H H' : Hp) : Prop:=∀ b o,H b = some o->H' b = some o
theorem Same.refl (H : Hp) : Same H H:=fun _ _ h=>h
theorem Same.trans {H H1 H2 : Hp} (a : Same H H1) (b : Same H1 H2) : Same H H2:=fun c o h=>b c o (a c o h)
theorem Same.free {H H' : Hp} (e : Same H H') {l : Addr} (h : H' l = Zs4) : H l = Zs4:=by
 cases q : H l with
 | none=>rfl
 | some o =>
  rw [e l o q] at h
  cases h
theorem Same.seq {K : Zhi} {H H' : Hp} {a : Addr} {xs : List V} (e : Same H H') (h : SqL K H a xs) : SqL K H' a xs:=by
 rcases h with (h | ⟨o,h⟩) | h
 ·exact .inl (.inl (e _ _ h))
 ·exact .inl (.inr ⟨o,e _ _ h⟩)
 ·exact .inr h
end L2
namespace L2
open PySem PySem.Spec PyProof.Rows PySem.Builtin PySem.Builtin.Str
noncomputable def T (l : List Nat) : Str:=⟨l.toArray⟩
theorem yd1 (l : List Nat) : (T l).cps.toList = l:=by simp [T]
theorem zuf {a b : List Nat} : T a = T b ↔ a = b:=by
 constructor
 ·intro h
  have:=congrArg (fun x : Str=>x.cps.toList) h
  simpa [T] using this
 ·rintro rfl; rfl
theorem zx8 (a b : List Nat) : decide ((V.str (T a)) = V.str (T b)) = decide (a = b):=by
 by_cases h : a = b
 ·subst h; simp
 ·rw [decide_eq_false h,decide_eq_false]
  intro q; injection q with q; exact h (zuf.mp q)
end L2
namespace L2
open PySem PySem.Spec PyProof.Rows
noncomputable def clos (cells : List (Str × Addr)) : List (Str × Ziu)->List (Str × Addr)->List (Str × Addr)
 | [],acc=>acc
 | (n,k)::r,acc=>if k == .free then (match cells.lookup n with | some c=>clos cells r ((n,c)::acc) | none=>clos cells r acc) else clos cells r acc
theorem zkx {cells : List (Str × Addr)} : ∀ (names : List (Str × Ziu)) (acc : List (Str × Addr)),(∀ x c,acc.lookup x = some c->cells.lookup x = some c) -> ∀ x c,(clos cells names acc).lookup x = some c->cells.lookup x = some c
 | [],_,h=>h
 | (n,k)::r,acc,h=>by
  intro x c
  unfold clos
  split
  ·cases e : cells.lookup n with
   | none=>exact zkx r acc h x c
   | some d =>
    refine zkx r _ (fun y z hy=>?_) x c
    rw [Zjk] at hy
    cases q : y == n with
    | true =>
     rw [q] at hy
     have : y = n:=by simpa using q
     subst this
     simpa [e] using hy
    | false=>rw [q] at hy; exact h y z hy
  ·exact zkx r acc h x c
theorem zks {cells : List (Str × Addr)} : ∀ (names : List (Str × Ziu)) (acc : List (Str × Addr)) (x : Str),(acc.lookup x).isSome = true->((clos cells names acc).lookup x).isSome = true
 | [],_,_,h=>h
 | (n,k)::r,acc,x,h=>by
  unfold clos
  split
  ·cases e : cells.lookup n with
   | none=>exact zks r acc x h
   | some d =>
    refine zks r _ x ?_
    rw [Zjk]
    cases q : x == n with
    | true=>rfl
    | false=>exact h
  ·exact zks r acc x h
theorem zko {cells : List (Str × Addr)} : ∀ (names : List (Str × Ziu)) (acc : List (Str × Addr)) (x : Str),(x,Zio)∈names->(cells.lookup x).isSome = true->((clos cells names acc).lookup x).isSome = true
 | (n,k)::r,acc,x,hm,hs=>by
  unfold clos
  rcases Zie.mp hm with e | hm
  ·cases e
   simp only [beq_self_eq_true,if_true]
   obtain ⟨c,hc⟩:=Zjr.mp hs
   rw [hc]
   refine zks r _ _ ?_
   simp [Zjk]
  ·split
   ·cases e : cells.lookup n with
    | none=>exact zko r acc x hm hs
    | some d=>exact zko r _ x hm hs
   ·exact zko r acc x hm hs
theorem zsy {scope : Scope} {env : Env} (h : ∀ x,(x,Zio)∈scope.names->(env.cells.lookup x).isSome = true) : Zoh scope env = pure (clos env.cells scope.names []):=by
 have gen : ∀ (names : List (Str × Ziu)) (acc : List (Str × Addr)),(∀ x,(x,Zio)∈names->(env.cells.lookup x).isSome = true) ->
   (forIn names acc (fun (p : Str × Ziu) (r : List (Str × Addr))=>(if p.2 == Zio then (do let c <- Zsx env p.1; pure (Zkq ((p.1,c)::r))) else pure (Zkq r) : Sem (ForInStep (List (Str × Addr)))))) = pure (clos env.cells names acc):=by
  intro names
  induction names with
  | nil=>intro acc _; rfl
  | cons p r ih =>
   obtain ⟨n,k⟩:=p
   intro acc hh
   rw [Zpi]
   unfold clos
   cases hk : k == Zio with
   | false =>
    simp only [hk,Zlb,if_false]
    exact ih acc fun x hx=>hh x (Zhv _ hx)
   | true =>
    have hk' : k = .free:=by simpa using hk
    subst hk'
    obtain ⟨c,hc⟩:=Zjr.mp (hh n Zhx)
    have e : Zsx env n = pure c:=by unfold Zsx; rw [hc]
    simp only [beq_self_eq_true,if_true,e,hc]
    exact ih _ fun x hx=>hh x (Zhv _ hx)
 exact (congrArg (fun (m : Sem (List (Str × Addr)))=>m >>= fun cs=>pure cs) (gen scope.names [] h)).trans rfl
noncomputable def lcS (nt : Nat) (cs : List Nat) (σ : St) : St:=Zn1 nt none++cs.map fun i=>(σ[i]?).getD none
noncomputable def lcCx (X : Cx) (N' : List Str) (scope : Scope) (s : Zhq) (H : Hp) (C : Addr) (fp : List Addr) : Cx :=
 { X with N:=N',s₀:=s,H₀:=H,env:=Zvl scope (clos X.env.cells scope.names []) C X.env,outer:=X.stack,stack:=X.stack,ex:=fp,fn:=fun _=>false,pn:=[],xe:=fun _ _=>False }
noncomputable def lcOk (Nx : List Str) (sc scope : Scope) (N' : List Str) (nt : Nat) (cs : List Nat) : Bool :=
 decide (scope.kind = .function) && (scope.names.all fun p=>match p.2 with
  | .cell=>false
  | .local=>decide (scope.names.lookup p.1 = some .local)
  | .free=>decide (sc.names.lookup p.1 = some .cell) || decide (sc.names.lookup p.1 = some .free)
  | _=>true) && decide (N'.length = nt + cs.length) && (((N'.drop nt).zip cs).all fun p=>decide (Nx[p.2]? = some p.1) && decide (scope.names.lookup p.1 = some .free) && (decide (sc.names.lookup p.1 = some .cell) || decide (sc.names.lookup p.1 = some .free)))
structure LcOk (X : Cx) (scope : Scope) (N' : List Str) (nt : Nat) (cs : List Nat) : Prop where
 kind : scope.kind = .function
 nocell : ∀ y∈scope.names,y.2 ≠ .cell
 loc : ∀ y∈scope.names,y.2 = .local->scope.names.lookup y.1 = some .local
 fr : ∀ x,(x,Zio)∈scope.names->X.env.kindOf x = some .cell \/ X.env.kindOf x = some .free
 len : N'.length = nt + cs.length
 cap : ∀ j i,cs[j]? = some i -> ∃ x,N'[nt + j]? = some x/\X.N[i]? = some x/\scope.names.lookup x = some .free/\Vis X.env.scope x/\X.env.kindOf x≠some .local
theorem LcOk.of {X : Cx} {scope : Scope} {N' : List Str} {nt : Nat} {cs : List Nat} {Nx : List Str} {sc : Scope} (hN : X.N = Nx) (hs : X.env.scope = sc) (h : lcOk Nx sc scope N' nt cs = true) : LcOk X scope N' nt cs:=by
 subst hN hs
 unfold lcOk at h
 simp only [Zib,decide_eq_true_eq,Zi5] at h
 obtain ⟨⟨⟨h1,h2⟩,h3⟩,h4⟩:=h
 refine ⟨h1,fun y hy e=>?_,fun y hy e=>?_,fun x hx=>?_,h3,fun j i e=>?_⟩
 ·have:=h2 y hy; rw [e] at this; exact Zih this
 ·have:=h2 y hy; rw [e] at this; exact of_decide_eq_true this
 ·have:=h2 _ hx
  simp only [Zle,decide_eq_true_eq] at this
  exact this
 ·have hj : j < cs.length:=(Zhn.mp e).1
  have hd : (N'.drop nt).length = cs.length:=by rw [Zme,h3]; lia
  have hx : (N'.drop nt)[j]? = some ((N'.drop nt)[j]'(by lia)):=by simp [hd,hj]
  generalize (N'.drop nt)[j]'(by lia) = x at hx
  have hz : (x,i)∈(N'.drop nt).zip cs:=by
   refine Zhs (i:=j) ?_
   rw [List.getElem?_zip_eq_some]
   exact ⟨hx,e⟩
  have q:=h4 _ hz
  simp only [Zib,Zle,decide_eq_true_eq] at q
  refine ⟨x,by rw [Zom] at hx; exact hx,q.1.1,q.1.2,?_,fun z=>?_⟩
  ·exact q.2.elim (fun z=>.inr (.inl z)) fun z=>.inr (.inr z)
  ·have z' : X.env.scope.names.lookup x = some .local:=z
   rcases q.2 with y | y <;> · rw [z'] at y; cases y
theorem zke {env : Env} : ∀ {names : List (Str × Ziu)} {x : Str},names.lookup x = some .free ->
  (names.map fun (n,k)=>if (k == Zio && env.scope.kind == .function && env.kindOf n == some .cell) then (n,Zlt) else (n,k)).lookup x = some .cell \/
  (names.map fun (n,k)=>if (k == Zio && env.scope.kind == .function && env.kindOf n == some .cell) then (n,Zlt) else (n,k)).lookup x = some .free
 | [],_,h=>by simp at h
 | (n,k)::r,x,h=>by
  have ih:=@zke env r x
  show Zph x ((if (k == Zio && env.scope.kind == .function && env.kindOf n == some .cell) = true then (n,Zlt) else (n,k))::_) = _ \/ Zph x ((if (k == Zio && env.scope.kind == .function && env.kindOf n == some .cell) = true then (n,Zlt) else (n,k))::_) = _
  cases hx : x == n with
  | true =>
   simp only [Zjk,hx] at h
   cases h
   by_cases hc : (Zio == Zio && env.scope.kind == .function && env.kindOf n == some .cell) = true
   ·rw [if_pos hc]; left; simp only [Zjk,hx]
   ·rw [if_neg hc]; right; simp only [Zjk,hx]
  | false =>
   simp only [Zjk,hx] at h
   by_cases hc : (k == Zio && env.scope.kind == .function && env.kindOf n == some .cell) = true
   ·rw [if_pos hc]; simp only [Zjk,hx]; exact ih h
   ·rw [if_neg hc]; simp only [Zjk,hx]; exact ih h
theorem zhh {env : Env} : ∀ {names : List (Str × Ziu)} {x : Str} {q : Ziu},(∀ y∈names,y.2 ≠ .cell)->(q = .cell \/ q = .free) ->
  (names.map fun (n,k)=>if (k == Zio && env.scope.kind == .function && env.kindOf n == some .cell) then (n,Zlt) else (n,k)).lookup x = some q->(x,Zio)∈names
 | [],_,_,_,_,h=>by simp at h
 | (n,k)::r,x,q,hn,hq,h=>by
  have ih:=@zhh env r x q (fun y hy=>hn y (Zhv _ hy)) hq
  have h' : Zph x ((if (k == Zio && env.scope.kind == .function && env.kindOf n == some .cell) = true then (n,Zlt) else (n,k))::(r.map fun (n,k)=>if (k == Zio && env.scope.kind == .function && env.kindOf n == some .cell) then (n,Zlt) else (n,k))) = some q:=h
  cases hx : x == n with
  | true =>
   have e : x = n:=by simpa using hx
   subst e
   by_cases hc : (k == Zio && env.scope.kind == .function && env.kindOf x == some .cell) = true
   ·simp only [Zib,beq_iff_eq] at hc
    rw [hc.1.1]; exact Zhx
   ·rw [if_neg hc] at h'
    simp only [Zjk,beq_self_eq_true] at h'
    cases h'
    rcases hq with rfl | rfl
    ·exact absurd rfl (hn (x,.cell) Zhx)
    ·exact Zhx
  | false =>
   refine Zhv _ (ih ?_)
   by_cases hc : (k == Zio && env.scope.kind == .function && env.kindOf n == some .cell) = true
   ·rw [if_pos hc] at h'; simp only [Zjk,hx] at h'; exact h'
   ·rw [if_neg hc] at h'; simp only [Zjk,hx] at h'; exact h'
section
variable {X : Cx} {pins : List (Addr × Obj)} {σ : St} {H : Hp} {s s' : Zhq} {scope : Scope} {N' : List Str} {nt : Nat} {cs : List Nat} {C : Addr} {fp : List Addr} {h' : Heap} {t' : Nat}
theorem zyx (I : Inv X pins σ H s) (L : LcOk X scope N' nt cs) (hf : ∀ b∈fp,FpOk X pins H b) (hC : s.heap.objs.size <= C) (k : ∀ b u,s.heap.get? b = some u->h'.get? b = some u) (hns : h'.Ns C fun _=>none) (fpo : ∀ b∈fp,b < s.heap.objs.size) :
  Inv (lcCx X N' scope s H C fp) [] (lcS nt cs σ) H { s with heap:=h',toks:=t' }:=by
 have hfree : H C = none:=I.hok.fresh hC
 have csub : ∀ x c,(clos X.env.cells scope.names []).lookup x = some c->X.env.cells.lookup x = some c:=zkx _ _ fun x c h=>by simp at h
 have chas : ∀ x,(x,Zio)∈scope.names->((clos X.env.cells scope.names []).lookup x).isSome = true:=fun x hx=>by
  refine zko _ _ x hx ?_
  obtain ⟨c,e⟩:=I.ok.has x (L.fr x hx)
  rw [e]; rfl
 have I4 : Inv X pins σ H { s with heap:=h',toks:=t' }:=I.kept k
 refine ⟨⟨I.ok.mod,L.kind,I.ok.glob,I.ok.blt,hC,fun x y c h1 h2=>I.ok.inj x y c (csub x c h1) (csub y c h2),fun x hx=>?_,fun x c hx=>(nomatch hx),I.ok.hd,I.ok.frames,.inl rfl,fun b hb=>⟨?_,fun x c e=>?_⟩,I.bs,Zik I.ok.bsz I.sz,fun b o e hb=>?_,fun b hb=>?_,I.stack,I.stkFree⟩,
  rfl,I.bare,Un.kept k,⟨_,hns,fun i x v e1 e2 e3=>?_⟩,fun x c e=>?_,hfree,fun x c e=>I.freeC x c (csub x c e),fun p hp=>absurd (show p∈([] : List (Addr × Obj)) from hp) (by simp),I4.hok,?_⟩
 ·have hx' : (x,Zio)∈scope.names:=by
   rcases hx with hx | hx
   ·exact zhh (env:=X.env) L.nocell (.inl rfl) hx
   ·exact zhh (env:=X.env) L.nocell (.inr rfl) hx
  exact Zjr.mp (chas x hx')
 ·exact Zic (Zh9 (fpo b hb) hC)
 ·exact (hf b hb).2.2.2.2.1 x c (csub x c e)
 ·obtain ⟨f0,f1,f2,f3,_⟩:=hf b hb
  rcases f3 with z | z
  ·exact I.ok.noex b o e z
  ·exact absurd (Zh9 (Zhy e) (Zik I.ok.bsz z)) (Zi3 _)
 ·obtain ⟨f0,f1,f2,f3,_⟩:=hf b hb
  intro z
  rcases Zie.mp (I.stkSub b z) with q | q
  ·exact f1 q
  ·exact f2 q
 ·-- a captured name
  have e2' : (lcS nt cs σ)[i]? = some (some v):=e2
  unfold lcS at e2'
  by_cases hi : i < nt
  ·rw [Zi8 (by simpa using hi),Zly] at e2'
   split at e2' <;> cases e2'
  ·rw [Ziw (by simpa using hi),Zma,Zho] at e2'
   cases ej : cs[i - nt]? with
   | none=>rw [ej] at e2'; cases e2'
   | some j =>
    rw [ej] at e2'
    have e2'' : (σ[j]?).getD none = some v:=Zjf e2'
    have hσ : σ[j]? = some (some v):=by
     cases q : σ[j]? with
     | none=>rw [q] at e2''; cases e2''
     | some z=>rw [q] at e2''; exact congrArg some e2''
    obtain ⟨y,y1,y2,y3,y4,y5⟩:=L.cap _ _ ej
    have hxy : x = y:=by
     have e1' : N'[i]? = some x:=e1
     rw [show nt + (i - nt) = i by lia,e1'] at y1
     exact Zjf y1
    subst hxy
    obtain ⟨m,hn,hl⟩:=I4.loc
    obtain ⟨u,r,l⟩:=hl j x v y2 hσ y4
    refine ⟨u,r,.inr ⟨zke (env:=X.env) y3,?_⟩⟩
    rcases l with ⟨l,_⟩ | ⟨_,c,hc,hcell⟩
    ·exact absurd l y5
    ·refine ⟨c,?_,hcell⟩
     obtain ⟨d,hd⟩:=Zjr.mp (chas x (Zj5 y3))
     have:=csub x d hd
     rw [hc] at this
     cases this
     exact hd
 ·exact I4.cell x c (csub x c e)
 ·show (lcS nt cs σ).length = N'.length
  unfold lcS
  rw [L.len]; simp
theorem zx1 {σ2 : St} {H2 : Hp} (I : Inv X pins σ H s) (hf : ∀ b∈fp,FpOk X pins H b) (J : Inv (lcCx X N' scope s H C fp) [] σ2 H2 s') : Inv X pins σ H2 s' :=
 I.call' (ch:=fp) J.os J.base J.hok J.bare fun b hb=>by
  obtain ⟨f0,f1,f2,f3,f4,f5⟩:=hf b hb
  exact ⟨f3,f1,f4,f5⟩
end
noncomputable def PIfs (X : Cx) (ifs : List Expr) (t : TT) : Prop :=
 ∀ (pins : List (Addr × Obj)) (s : Zhq) (σ : St) (H : Hp) (Q : Bool->Hp->Prop),Inv X pins σ H s->t σ H Q ->
  Zij (Zix X.prog X.w) X.A (forIn ifs true fun c r=>if r = true then do let ok <- isTrue c X.env (eval c X.env); pure (Zkq ok) else pure (Zkq r)) (TP X pins σ Q) X.xe s
noncomputable def zwq : TT:=fun _ H Q=>Q true H
theorem zg6 {X : Cx} : PIfs X [] zwq:=fun _ _ _ H _ I h=>wpAny_tests_nil ⟨H,I,h⟩
theorem zh6 {X : Cx} {c : Expr} {t : TT} (h : PT X c t) : PIfs X [c] t:=fun pins s σ H Q I hq=>wpAny_tests_one (h pins s σ H Q I hq)
noncomputable def LCG (nt : Nat) (cs : List Nat) (g : TG) (tt : TT) (te : TE) (σ : St) (Q : VK) (J : It) (H1 : Hp) : Prop:=∀ l,H1 l = none -> ∃ W : Nat->Nat->Hp->Prop,(∃ m,W 0 m (upd H1 l (.lst []))) /\ ∀ i m H2,W i m H2 ->
 (J.stop i H2/\Q (.ref l) H2) \/ (J.go i H2 /\ ∃ N : Hp->Prop,(∀ H',N H' -> ∃ m',m' < m/\W (i + 1) m' H') /\ ∀ x H3,J.yld i H2 x H3->g x (lcS nt cs σ) H3 fun σ2 H4 =>
  (σ2.length = nt + cs.length/\σ2.drop nt = (lcS nt cs σ).drop nt)/\tt σ2 H4 fun b H5=>if b = true then te σ2 H5 fun y H6=>∃ xs,H6 l = some (.lst xs)/\xs.length < sizeLine/\N (upd H6 l (.lst (xs++[y]))) else N H5)
noncomputable def tLC (nt : Nat) (cs : List Nat) (wi : TI) (g : TG) (tt : TT) (te : TE) : TE:=fun σ H Q=>wi σ H fun J H1=>LCG nt cs g tt te σ Q J H1
theorem yav {prog : Ziq} {w : Zjv} {A : Zi0} {R : Zu3 -> Zhq -> Prop} {s : Zhq} {elt target iter : Expr} {ifs : List Expr} {scope : Scope} {pos : Pos} {it acc : Value} {env : Env} (I : Nat -> Zhq -> Prop)
  (turn : ∀ n s,I n s->Zij (Zix prog w) A (Zpc it) (fun r s₁=>match r with
   | none=>R (.ok .next) s₁
   | some v=>Zij (Zix prog w) A (Zob target it v) (fun _ s₁'=>Zij (Zix prog w) A (Zr8 target env v) (fun _ s₂ =>
     Zij (Zix prog w) A (forIn ifs true fun c r=>if r = true then do let ok <- isTrue c env (eval c env); pure (Zkq ok) else pure (Zkq r)) (fun ok s₃ =>
      if ok = true then Zij (Zix prog w) A (eval elt env) (fun x s₄ =>
       Zij (Zix prog w) A (call (.builtin "list.append") [acc,x]) (fun _ s₅=>∃ m,m < n/\I m s₅) (fun _ _=>False) s₄) (fun _ _=>False) s₃
      else ∃ m,m < n/\I m s₃) (fun _ _=>False) s₂) (fun _ _=>False) s₁') (fun _ _=>False) s₁) (fun _ _=>False) s)
  (n : Nat) (h : I n s) : Zns (Zix prog w) A (.compLoop (.ListComp elt [⟨target,iter,ifs,0⟩] scope pos) 0 it acc env) R s:=by
 refine codeAny_loop rfl I (fun n s hI=>?_) n h
 show Zij _ A ((compTurn (.ListComp elt [⟨target,iter,ifs,0⟩] scope pos) 0 it acc env).onRaise (fun x=>do noteFrame x env; theTreesLotGoes x)) _ _ s
 refine wpAny_noted ?_
 rw [compTurn_list]
 refine Zhl (Zpa (Zhl (Zj8 (turn n s hI) (fun r s₁ h₁=>?_) fun _ _ h'=>h'.elim)))
 cases r with
 | none=>exact Zhz h₁
 | some v =>
  refine Zhl (Zj8 h₁ (fun _ s₁' h₁'=>?_) fun _ _ h'=>h'.elim)
  refine Zhl (Zj8 h₁' (fun _ s₂ h₂=>Zhl (Zj8 h₂ (fun ok s₃ h₃=>?_) fun _ _ h'=>h'.elim)) fun _ _ h'=>h'.elim)
  cases ok with
  | false=>exact Zhz ⟨rfl,h₃⟩
  | true =>
   exact Zhl (Zhl (Zj8 h₃ (fun x s₄ h₄=>Zhl (Zj8 h₄ (fun _ s₅ h₅=>Zhz (Zhz ⟨rfl,h₅⟩)) fun _ _ h'=>h'.elim)) fun _ _ h'=>h'.elim))
section
variable {X : Cx} {elt target iter : Expr} {ifs : List Expr} {scope : Scope} {pos : Pos} {N' : List Str} {nt : Nat} {cs : List Nat} {wi : TI} {g : TG} {tt : TT} {te : TE}
theorem zw6 {use : Option (Value->Sem Unit)} {QQ : Value->Zhq->Prop} {p2 : Pos} (hc : X.calm = true) (L : LcOk X scope N' nt cs) (hi : PI X target iter wi)
  (hg : ∀ s H C fp,PG (lcCx X N' scope s H C fp) target g) (ht : ∀ s H C fp,PIfs (lcCx X N' scope s H C fp) ifs tt) (he : ∀ s H C fp,PE (lcCx X N' scope s H C fp) elt te)
  {pins : List (Addr × Obj)} {s : Zhq} {σ : St} {H : Hp} {Q : VK} (I : Inv X pins σ H s) (h : tLC nt cs wi g tt te σ H Q)
  (fin : ∀ (l : Addr) (H' : Hp) (s' : Zhq) (C : Addr),Inv X pins σ H' s'->FpOk X pins H' C->(∃ m,s'.heap.Ns C m)->Q (.ref l) H'->compPost (Zix X.prog X.w) X.A X.xe use QQ (.ref l) C (.ok .next) s')
  (hs : ∀ x,Znk iter X.env x = pure x:=by intro _; rfl) :
  Zij (Zix X.prog X.w) X.A (Zvk (.ListComp elt [⟨target,iter,ifs,0⟩] scope pos) scope X.env p2 (newList []) false (eval iter X.env) use) QQ X.xe s:=by
 have hcl : Zoh scope X.env = pure (clos X.env.cells scope.names []):=zsy fun x hx=>by
  obtain ⟨c,e⟩:=I.ok.has x (L.fr x hx)
  rw [e]; rfl
 refine wpAny_comprehension_free (env:=X.env) rfl hs hcl L.kind L.loc (thn (hi pins s σ H _ I h) fun v s1 h1=>thn h1 fun itv s2 h2=>?_)
 obtain ⟨it,fp,tn,J,H1,e,I2,T,st2,f2,R⟩:=h2
 subst e
 refine Zmg ?_
 have hv : Vals [] ([] : List Value):=.nil
 have I3:=I2.lnew (t':=s2.toks) hv (Zit _)
 have hfr : H1 s2.heap.objs.size = none:=I2.fresh
 have ne3 : ∀ b∈fp,b≠s2.heap.objs.size:=fun b hb z=>by
  obtain ⟨o,e,_⟩:=T.obj _ _ st2 b hb
  have:=Zhy e
  rw [z] at this
  exact Zi3 _ this
 have f3 : ∀ b∈fp,FpOk X pins (upd H1 s2.heap.objs.size (.lst [])) b:=fun b hb=>⟨by rw [zav (ne3 b hb)]; exact (f2 b hb).1,(f2 b hb).2⟩
 obtain ⟨W,⟨m0,w0⟩,turn⟩:=R _ hfr
 refine Zsd L.nocell (by intro y hy; simp at hy) (fun h4 hns hsb=>?_) L.kind
 dsimp only at hns hsb ⊢
 generalize hH3 : s2.heap.push { cls:=.type "list", dict:=none,data:=.seq ([] : List Value).toArray } = h3 at hns hsb I3 ⊢
 have hsz3 : h3.objs.size = s2.heap.objs.size + 1:=by rw [<- hH3,Zn3]
 have up4 : ∀ b u,h3.get? b = some u->h4.get? b = some u:=fun b u e=>hsb.extBut b u (Zic (Zhy e)) (Zhr _ e)
 have fpo : ∀ b∈fp,b < h3.objs.size:=fun b hb=>by
  obtain ⟨o,e,_⟩:=T.obj _ _ st2 b hb
  exact Zh9 (Zhy e) (by rw [hsz3]; exact Zoe _)
 have up3 : ∀ b u,s2.heap.get? b = some u->h3.get? b = some u:=fun b u e=>hH3 ▸ Zhr _ e
 have J4 : Inv (lcCx X N' scope { s2 with heap:=h3 } (upd H1 s2.heap.objs.size (.lst [])) h3.objs.size fp) [] (lcS nt cs σ) (upd H1 s2.heap.objs.size (.lst [])) { s2 with heap:=h4,toks:=s2.toks + ([] : List (Str × Value)).length } :=
  zyx (t':=s2.toks + ([] : List (Str × Value)).length) I3 L f3 (Zhu _) up4 (by simpa using hns) fpo
 have st4 : tn 0 h4:=T.keep _ _ _ st2 fun b hb o e=>up4 b o (up3 b o e)
 generalize hs3 : ({ s2 with heap:=h3 } : Zhq) = s3 at I3 J4
 generalize hX' : lcCx X N' scope s3 (upd H1 s2.heap.objs.size (.lst [])) h3.objs.size fp = X' at J4
 have hg' : PG X' target g:=hX' ▸ hg _ _ _ _
 have ht' : PIfs X' ifs tt:=hX' ▸ ht _ _ _ _
 have he' : PE X' elt te:=hX' ▸ he _ _ _ _
 have stat : ∀ {H' : Hp},(∀ b∈fp,H' b = none) -> ∀ b∈fp,FpOk X' [] H' b:=fun hn b hb=>by
  subst hX'
  refine ⟨hn b hb,Zic (fpo b hb),J4.ok.exfs b hb,.inl hb,(J4.ok.exf b hb).2,fun p hp=>absurd (show p∈([] : List (Addr × Obj)) from hp) (by simp)⟩
 have loop : Zns (Zix X.prog X.w) X.A (.compLoop (.ListComp elt [⟨target, iter, ifs, 0⟩] scope pos) 0 (.ref it) (.ref s2.heap.objs.size) (Zvl scope (clos X.env.cells scope.names []) h3.objs.size X.env))
   (compPost (Zix X.prog X.w) X.A X.xe use QQ (.ref s2.heap.objs.size) h3.objs.size) { s2 with heap:=h4,toks:=s2.toks + ([] : List (Str × Value)).length }:=by
  have eA : X'.A = X.A:=by subst hX'; rfl
  have eP : X'.prog = X.prog:=by subst hX'; rfl
  have eW : X'.w = X.w:=by subst hX'; rfl
  have eK : X'.K = X.K:=by subst hX'; rfl
  have eC : X'.calm = true:=by subst hX'; exact hc
  have eE : X'.env = Zvl scope (clos X.env.cells scope.names []) h3.objs.size X.env:=by subst hX'; rfl
  have eX : X'.xe = fun _ _=>False:=by subst hX'; rfl
  refine yav (fun n s'=>∃ i H',Inv X' [] (lcS nt cs σ) H' s'/\tn i s'.heap/\(∀ b∈fp,H' b = none)/\W i n H') ?_ m0 ⟨0,_,J4,st4,fun b hb=>(f3 b hb).1,w0⟩
  rintro n s5 ⟨i,H5,J5,st5,fr5,w5⟩
  rcases turn i n H5 w5 with ⟨stop,qn⟩ | ⟨go,N,hN,step⟩
  ·have d:=T.done X' eP eW eK eC i [] s5 (lcS nt cs σ) H5 (fun _ _=>False) J5 (stat fr5) st5 stop
   rw [eA] at d
   refine thn d fun r s6 hz9=>?_
   obtain ⟨hr,J6⟩:=hz9
   subst hr
   have I6 : Inv X pins σ H5 s6:=by subst hX'; subst hs3; exact zx1 I3 f3 J6
   refine fin _ H5 s6 h3.objs.size I6 ?_ ?_ qn
   ·have hn : H5 h3.objs.size = none:=by subst hX'; exact J6.free
    subst hs3
    exact I3.fpOk (Zhu _) hn
   ·obtain ⟨m,hm,_⟩:=J6.loc
    subst hX'
    exact ⟨m,hm⟩
  ·have d:=T.item X' eP eW eK eC i [] s5 (lcS nt cs σ) H5 (fun _ _=>False) J5 (stat fr5) st5 go
   rw [eA] at d
   refine thn d fun r s6 hz9=>?_
   obtain ⟨u,hr,h6⟩:=hz9
   subst hr
   refine thn h6 fun _ s7 hz9=>?_
   obtain ⟨x,H7,J7,r7,y7,st7,fr7⟩:=hz9
   have J7':=J7.pinned (stat fr7) (T.obj _ _ st7)
   have a:=hg' _ s7 (lcS nt cs σ) H7 x u _ J7' r7 (step x H7 y7)
   rw [eA,eP,eW,eE,eX] at a
   refine thn a fun _ s8 ⟨σ8,H8,J8,⟨e8,d8⟩,q8⟩=>?_
   have b:=ht' _ s8 σ8 H8 _ J8 q8
   rw [eA,eP,eW,eE,eX] at b
   have again : ∀ {s9 : Zhq} {H9 : Hp},Inv X' ([]++zpb fp s7.heap) σ8 H9 s9->N H9 -> ∃ m,m < n /\ ∃ i H',Inv X' [] (lcS nt cs σ) H' s9/\tn i s9.heap/\(∀ b∈fp,H' b = none)/\W i m H':=fun {s9 H9} J9 n9=>by
    obtain ⟨m',hm,w9⟩:=hN H9 n9
    refine ⟨m',hm,i + 1,H9,?_,T.keep _ _ _ st7 fun b hb o e=>(J9.pin (b,o) (Zht _ (Zht _ (zh1 hb e)))).1,fun b hb=>?_,w9⟩
    ·refine J9.unpinned.weak ?_ fun j v ej=>?_
     ·rw [e8]; unfold lcS; simp
     ·by_cases hj : j < nt
      ·unfold lcS at ej
       rw [Zi8 (by simpa using hj),Zly] at ej
       split at ej <;> cases ej
      ·have z:=congrArg (fun l : St=>l[j - nt]?) d8
       simp only [Zom] at z
       rw [show nt + (j - nt) = j by omega] at z
       rw [z]; exact ej
    ·obtain ⟨o,e,_⟩:=T.obj _ _ st7 b hb
     exact (J9.pin (b,o) (Zht _ (Zht _ (zh1 hb e)))).2.1
   refine thn b fun ok s9 hz9=>?_
   obtain ⟨H9,J9,q9⟩:=hz9
   cases ok with
   | false =>
    rw [if_neg Zih] at q9 ⊢
    exact again J9 q9
   | true =>
    rw [if_pos rfl] at q9 ⊢
    have c:=he' _ s9 σ8 H9 _ J9 q9
    rw [eA,eP,eW,eE,eX] at c
    refine thn c fun y sA hz9=>?_
    obtain ⟨vy,HA,JA,ry,xs,hl,hz,nA⟩:=hz9
    have ap:=zce (X:=X') _ sA σ8 HA (.ref s2.heap.objs.size) [vy] (.ref s2.heap.objs.size) [y] (fun _ H'=>N H') JA rfl (.cons ry .nil) ⟨_,xs,vy,rfl,rfl,hl,hz,nA⟩
    rw [eA,eP,eW,eX] at ap
    refine thn ap fun _ sB hz9=>?_
    obtain ⟨_,HB,JB,_,nB⟩:=hz9
    exact again JB nB
 exact codeAny_compStart_list loop (T.self X.A 0 _ _ _ st4 loop)
theorem znp (hc : X.calm = true) (L : LcOk X scope N' nt cs) (hi : PI X target iter wi)
  (hg : ∀ s H C fp,PG (lcCx X N' scope s H C fp) target g) (ht : ∀ s H C fp,PIfs (lcCx X N' scope s H C fp) ifs tt) (he : ∀ s H C fp,PE (lcCx X N' scope s H C fp) elt te)
  (hs : ∀ x,Znk iter X.env x = pure x:=by intro _; rfl) : PE X (.ListComp elt [⟨target,iter,ifs,0⟩] scope pos) (tLC nt cs wi g tt te):=by
 intro pins s σ H Q I h
 rw [eval_ListComp]
 refine zw6 (use:=none) hc L hi hg ht he I h (fun l H' s' C I' f ⟨m,hm⟩ q=>⟨m,hm,fun h' hs'=>?_⟩) hs
 obtain ⟨f0,f1,f2,f3,f4,f5⟩:=f
 exact ⟨.ref l,H',I'.turned (t':=s'.toks) (fun b o hb e=>hs'.extBut b o hb e) f0 f1 f3 f4 f5,rfl,q⟩
theorem zkv {i : Nat} {y : Str} {py spos : Pos} (hN : X.N.Nodup) (hy : X.N[i]? = some y) (hx : Loc X.env.scope y) (hc : X.calm = true) (L : LcOk X scope N' nt cs) (hi : PI X target iter wi)
  (hg : ∀ s H C fp,PG (lcCx X N' scope s H C fp) target g) (ht : ∀ s H C fp,PIfs (lcCx X N' scope s H C fp) ifs tt) (he : ∀ s H C fp,PE (lcCx X N' scope s H C fp) elt te)
  (hsw : Zqs (.ListComp elt [⟨target,iter,ifs,0⟩] scope pos) (some (.Name y py)) spos.line X.env = pure true:=by rfl)
  (hs : ∀ x,Znk iter X.env x = pure x:=by intro _; rfl) (hf : X.fn y = true \/ X.env.scope.names.lookup y = some .local:=by first | exact .inl rfl | exact .inr rfl | assumption) :
  PS X (.Assign [.Name y py] (.ListComp elt [⟨target,iter,ifs,0⟩] scope pos) spos) (tAsg (tLC nt cs wi g tt te) (zhv i)):=by
 intro pins s σ H D I h
 rw [exec_Assign_Name_used _ _ _ _ hsw]
 refine Zhl (Zpa (Zhl ?_))
 show Zij _ X.A (do let _ <- Zvk (.ListComp elt [⟨target,iter,ifs,0⟩] scope pos) scope X.env _ (newList []) false (eval iter X.env) (some (Zr8 (.Name y py) X.env))) _ _ s
 refine Zhl (thn (zw6 (QQ:=fun _ s'=>SP X pins D .next s') (use:=some (Zr8 (.Name y py) X.env)) hc L hi hg ht he I h (fun l H' s' C I' f hm q=>?_) hs) (fun _ s' hq=>Zhz (Zhz hq)))
 show Zij _ X.A (Zr8 (.Name y py) X.env (.ref l)) _ _ _
 refine Ztc (zpj I' hN hy hx (v:=.ref l) rfl (fun s2 I2 hz9=>?_) hf)
 obtain ⟨a,hsb,ha⟩:=hz9
 obtain ⟨m,hm⟩:=hm
 obtain ⟨f0,f1,f2,f3,f4,f5⟩:=f
 have hCa : C≠a:=by
  rcases ha with rfl | ha
  ·exact f1
  ·exact fun z=>f4 y a ha z.symm
 refine ⟨m,hm.sameBut hsb hCa,fun h' hs'=>?_⟩
 exact ⟨_,H',I2.turned (t':=s2.toks) (fun b o hb e=>hs'.extBut b o hb e) f0 f1 f3 f4 f5,q⟩
end
section
variable {X : Cx} {a b : Expr} {ta tb : TE} {pos : Pos}
theorem zjh : zdk X (.builtin "isinstance") (fun xs H Q=>∃ x,xs = [.bl x,.ty "bool"]/\Q (.bl true) H):=by
 intro pins s σ H xs us Q I r h
 obtain ⟨x,rfl,q⟩:=h
 obtain ⟨u,v,rfl,rfl,rfl⟩:=zqp r
 exact IsiPair.bool_bool ⟨.bl true,H,I,rfl,q⟩
theorem zkh : zdk X (.builtin "isinstance") (fun xs H Q=>∃ x,xs = [.int x,.ty "int"]/\Q (.bl true) H):=by
 intro pins s σ H xs us Q I r h
 obtain ⟨x,rfl,q⟩:=h
 obtain ⟨u,v,rfl,⟨t,rfl⟩,rfl⟩:=zqp r
 exact IsiPair.int_int ⟨.bl true,H,I,rfl,q⟩
theorem zjt : zdk X (.builtin "isinstance") (fun xs H Q=>∃ x,xs = [.int x,.ty "bool"]/\Q (.bl false) H):=by
 intro pins s σ H xs us Q I r h
 obtain ⟨x,rfl,q⟩:=h
 obtain ⟨u,v,rfl,⟨t,rfl⟩,rfl⟩:=zqp r
 exact IsiPair.int_bool ⟨.bl false,H,I.tok _,rfl,q⟩
end
theorem SqL.same {K : Zhi} {H H' : Hp} {a : Addr} {xs : List V} (e : Same H H') (h : SqL K H a xs) : SqL K H' a xs:=e.seq h
theorem SqT.same {K : Zhi} {H H' : Hp} {a : Addr} {xs : List V} (e : Same H H') (h : SqT K H a xs) : SqT K H' a xs:=by
 rcases h with (h | ⟨o,h⟩) | h
 ·exact .inl (.inl (e _ _ h))
 ·exact .inl (.inr ⟨o,e _ _ h⟩)
 ·exact .inr h
theorem Same.upd {H : Hp} {l : Addr} {o : HO} (h : H l = none) : Same H (upd H l o):=fun b u e=>by rw [zav (za4 e h)]; exact e
end L2
namespace L2
open PySem
end L2
namespace L2
open PySem PySem.Spec PyProof.Rows
section
variable {X : Cx} {pins : List (Addr × Obj)} {σ : St} {H : Hp} {s : Zhq} {h' : Heap} {t' : Nat} {wr : List Addr}
theorem Inv.turns (I : Inv X pins σ H s) (hf : ∀ b∈wr,FpOk X pins H b) (k : ∀ b o,b ∉ wr->s.heap.get? b = some o->h'.get? b = some o) : Inv X pins σ H { s with heap:=h',toks:=t' }:=by
 have nw : ∀ b u,H b = some u->b ∉ wr:=fun b u e z=>by have:=(hf b z).1; rw [e] at this; cases this
 have nL : X.env.locals ∉ wr:=fun z=>(hf _ z).2.1 rfl
 refine I.step (g':=s.gens) (d':=s.drawn) (ch:=wr) (fun b hb=>?_) (fun b o _ _ hc e _=>k b o hc e) (fun b o _ _ hc e _=>⟨o.slots,k b o hc e⟩) (fun _ _ _ _ n=>n)
  (fun b o hc e=>⟨o,k b o hc e⟩) (fun _ _ e=>e) (fun _ _ _ e=>e) (fun b ps e=>⟨#[],by rw [e]; simp⟩) (fun m hm=>?_) (fun b u e=>?_) I.bare
 ·obtain ⟨f0,f1,f2,f3,f4,f5⟩:=hf b hb
  exact ⟨f3,f1,f4,f5⟩
 ·obtain ⟨o,es,ep,ho,r⟩:=hm
  exact ⟨o,es,ep,k _ o nL ho,r⟩
 ·refine (I.hok b u e).stay (fun c v hc q=>k c v ?_ q) (fun _ q=>q) fun _ _ q=>q
  rcases hc with z | z
  ·rw [z]; exact nw b u e
  ·exact nw c _ z
theorem Inv.turnsT (I : Inv X pins σ H s) {T0 : Addr} {vs : List V} {vals : Array Value} (hf : ∀ b∈wr,FpOk X pins H b) (k : ∀ b o,b ∉ wr->s.heap.get? b = some o->h'.get? b = some o) (hT : s.heap.objs.size <= T0) (ht : h'.IsTuple T0 vals) (hv : Vals vs vals.toList)
  (hz : vs.length <= sizeLine) : Inv X pins σ (upd H T0 (.tup vs)) { s with heap:=h',toks:=t' }:=by
 have nw : ∀ b u,H b = some u->b ∉ wr:=fun b u e z=>by have:=(hf b z).1; rw [e] at this; cases this
 have nL : X.env.locals ∉ wr:=fun z=>(hf _ z).2.1 rfl
 have fresh : H T0 = none:=I.hok.fresh hT
 have ne : ∀ b o,s.heap.get? b = some o->b≠T0:=fun b o e=>Zic (Zh9 (Zhy e) hT)
 refine I.step (g':=s.gens) (d':=s.drawn) (ch:=wr) (fun b hb=>?_) (fun b o _ _ hc e _=>k b o hc e) (fun b o _ _ hc e _=>⟨o.slots,k b o hc e⟩) (fun b o _ e n=>by rw [zav (ne b o e)]; exact n)
  (fun b o hc e=>⟨o,k b o hc e⟩) (fun b xs e=>by rw [zav (za4 e fresh)]; exact e) (fun b o u e=>by rw [zav (za4 e fresh)]; exact e) (fun b ps e=>⟨#[],by rw [zav (za4 e fresh),e]; simp⟩) (fun m hm=>?_) (fun b u e=>?_) I.bare
 ·obtain ⟨f0,f1,f2,f3,f4,f5⟩:=hf b hb
  exact ⟨f3,f1,f4,f5⟩
 ·obtain ⟨o,es,ep,ho,r⟩:=hm
  exact ⟨o,es,ep,k _ o nL ho,r⟩
 ·by_cases hb : b = T0
  ·subst hb
   rw [zap] at e
   cases e
   have ht2 : h'.IsTuple b vals.toList.toArray:=by simpa using ht
   exact ⟨hz,vals.toList,hv,ht2⟩
  ·rw [zav hb] at e
   refine (I.hok b u e).stay (fun c v hc q=>k c v ?_ q) (fun c q=>by rw [zav (za4 q fresh)]; exact q) fun c xs q=>by rw [zav (za4 q fresh)]; exact q
   rcases hc with z | z
   ·rw [z]; exact nw b u e
   ·exact nw c _ z
end
noncomputable def RngO (r : Addr) (a b c : Int) : HO:=.ext fun h=>∃ t u v,IsRange h r a b c t u v
section
variable {X : Cx} {pins : List (Addr × Obj)} {σ : St} {H : Hp} {s : Zhq}
theorem Inv.rng {a b c : Int} {t u v : Tok} {t' : Nat} (I : Inv X pins σ H s) : Inv X pins σ (upd H s.heap.objs.size (RngO s.heap.objs.size a b c)) { s with heap:=s.heap.push { cls:=.type "range", data:=.fields #[.int a t,.int b u,.int c v] },toks:=t' } :=
 I.laid (fun _ _ q=>Zhr _ q) (Zhu _) ⟨⟨t,u,v,Zh6 _ rfl⟩,⟨_,Zh6 _ rfl⟩,fun h1 h2 ⟨t1,u1,v1,z⟩ k=>⟨t1,u1,v1,k _ z⟩⟩
end
section
variable {X : Cx} {e1 e2 e3 : Expr} {ta : TA} {p pos : Pos} {tg : Expr}
noncomputable def ydp (ta : TA) : TE:=fun σ H Q=>ta σ H fun vs H1=>∃ j : Int,vs = [.int j] /\ ∀ r,H1 r = none->Q (.ref r) (upd H1 r (RngO r 0 j 1))
theorem zug (hg : Gl X "range") (hm : X.mg "range" = none) (ha : PA X [e1] ta) (hs : Zi6 [e1] X.env = [(false,eval e1 X.env)]:=by rfl) : PE X (.Call (.Name "range" p) [e1] [] pos) (ydp ta):=by
 intro pins s σ H Q I h
 refine Zu8 (zhb I hg hm Ztk (Zi7 (thn (ha pos pins s σ H _ I h) fun us s1 hz9=>?_) hs rfl))
 obtain ⟨vs,H1,I1,r1,q1⟩:=hz9
 obtain ⟨j,rfl,q⟩:=q1
 obtain ⟨u,rfl,ru⟩:=zhc r1
 obtain ⟨t,rfl⟩:=ru
 exact call_range_1 ⟨.ref s1.heap.objs.size,_,I1.rng,rfl,q _ I1.fresh⟩
theorem zny (hc : X.calm = true) : zdk X (.type "list") (fun xs H Q=>∃ r a b c n,xs = [.ref r]/\H r = some (RngO r a b c)/\Zpd a b c = true/\Zll a b c = ((n : Nat) : Int)/\n <= 1048576 /\ ∀ l,H l = none->Q (.ref l) (upd H l (.lst ((Zhm n).map fun (i : Nat)=>.int (a + (i : Int) * c))))):=by
 intro pins s σ H xs us Q I r h
 obtain ⟨rr,a,b,c,n,rfl,hr,hsm,hn,hle,q⟩:=h
 obtain ⟨u,rfl,ru⟩:=zhc r
 cases ru
 obtain ⟨⟨t,u,v,hR⟩,_,_⟩:=I.hok rr _ hr
 refine call_list_range (I.ok.hd hc) hR hsm hn (Zik hle (by decide)) fun h' tk acc k hk hl hit=>?_
 have hv : Vals ((Zhm n).map fun (i : Nat)=>V.int (a + (i : Int) * c)) acc.toList:=by
  obtain ⟨hsz,hit⟩:=hit
  have gen : ∀ (m : Nat) (l : List Value),l.length = m->(∀ (i : Nat) v,l[i]? = some v -> ∃ t,v = Zk6 (a + (i : Int) * c) t)->Vals ((Zhm m).map fun (i : Nat)=>V.int (a + (i : Int) * c)) l:=by
   intro m
   induction m with
   | zero=>intro l hl _; have:=List.eq_nil_of_length_eq_zero hl; subst this; exact .nil
   | succ m ih =>
    intro l hl hi
    obtain ⟨l',x,rfl⟩ : ∃ l' x,l = l'++[x]:=by
     cases e : l.getLast? with
     | none=>have:=List.getLast?_eq_none_iff.mp e; subst this; cases hl
     | some x=>obtain ⟨l',e'⟩:=List.getLast?_eq_some_iff.mp e; exact ⟨l',x,e'⟩
    have hl' : l'.length = m:=by simpa using hl
    rw [Zld,Zh4]
    refine Vals.append (ih l' hl' fun i v hv=>hi i v ?_) (.cons ?_ .nil)
    ·rw [Zi8 (Zhn.mp hv).1]; exact hv
    ·obtain ⟨t,e⟩:=hi m x (by rw [<- hl']; simp)
     exact ⟨t,e⟩
  exact gen n acc.toList (by simpa using hsz) fun i v hv=>by
   have : acc[i]? = some v:=by simpa using hv
   obtain ⟨t,e⟩:=hit i v this
   exact ⟨t,e⟩
 have hz : ((Zhm n).map fun (i : Nat)=>V.int (a + (i : Int) * c)).length <= sizeLine:=by rw [Zhk,Zjt,Zh2]; lia
 exact ⟨.ref s.heap.objs.size,_,I.laid hk (Zhu _) (show zdx X.prog X.w _ _ _ (.lst _) from ⟨hz,acc.toList,k,hv,by simpa using hl⟩),rfl,q _ I.fresh⟩
end
end L2
namespace L2
open PySem
end L2
namespace L2
open PySem PySem.Spec PyProof.Rows
structure ZipAp (z TI TO i1 i2 : Addr) (fp1 fp2 : List Addr) : Prop where
 TIz : TI≠z
 TOz : TO≠z
 i1z : i1≠z
 i2z : i2≠z
 TITO : TI≠TO
 TIi1 : TI≠i1
 TIi2 : TI≠i2
 TOi1 : TO≠i1
 TOi2 : TO≠i2
 i12 : i1≠i2
 m1 : i1∈fp1
 m2 : i2∈fp2
 f1 : ∀ b∈fp1,b≠z/\b≠TO/\b≠i2
 f2 : ∀ b∈fp2,b≠z/\b≠TO/\b≠i1
theorem ztg : Ztf (.type "list_reverseiterator") "__len__" = pure none:=by rw [Zuz,Zr7]; kernel_rfl
theorem znz : Slot "list_reverseiterator" "__length_hint__" "list_reverseiterator.__length_hint__" :=
 .of (owner:="list_reverseiterator") (n:="__length_hint__") (by rw [Zuz,Zr7]; kernel_rfl) (by decide +kernel) (by decide +kernel) (by decide +kernel)
  (by first | exact .inl (by decide +kernel) | exact .inr (by decide +kernel)) (by rw [Zva]; kernel_rfl)
section
variable {prog : Ziq} {w : Zjv} {A : Zi0} {E : Value->Zhq->Prop} {s : Zhq}
theorem zy8 {it l : Addr} {i : Int} {Q : Bool->Zhq->Prop} (hit : s.heap.IsRevIter it l i) (h : Q false s) : Zij (Zix prog w) A (Zn8 (.ref it)) Q E s:=by
 unfold Zn8
 refine Zhl (Zmy hit.typeIs ztg ?_)
 show Zij _ A (specialOf (Zjo it) (Zlf "__length_hint__") >>= _) _ _ _
 refine Zhl (Zmy hit.typeIs znz.lookup ?_)
 generalize hid : ("list_reverseiterator.__length_hint__" : String) = id0
 wp_delta
 rw [show splitId id0 = some ("list_reverseiterator", "__length_hint__") from by subst hid; decide +kernel]
 subst hid
 refine Zhl (Zp8 (T:="list_reverseiterator") (b:=true) hit.typeIs (by rw [Zva]; kernel_rfl) ?_)
 refine Zn9 (fun hab=>absurd hab (by decide)) (fun _=>?_)
 refine Zn9 (fun _=>?_) (fun hab=>absurd (by decide +kernel) hab)
 refine Zn9 (fun hab=>absurd hab (by decide +kernel)) (fun _=>?_)
 exact Zhz h
theorem ztb {R : Zu3->Zhq->Prop} {r l : Addr} {items : Array Value} (hh : A.handled = none) (hr : s.heap.IsRevIter r l ((items.size : Int) - 1)) (hl : s.heap.IsList l items) (hlen : items.size <= sizeLine) (S : Addr) (res : Value) (c₀ : Nat) (hS : s.heap.get? S = some { cls:=.type "list", data:=.seq #[] c₀ }) (hSl : S≠l) (hlr : l≠r)
  (hR : ∀ h' tk acc' c',(∀ b o,b≠S->b≠r->s.heap.get? b = some o->h'.get? b = some o)->h'.get? S = some { cls:=.type "list", dict:=none,data:=.seq acc' c',slots:=#[] } ->
   ItemsOf (fun i v=>items[items.size - 1 - i]? = some v) acc' items.size->R (.ok (.ret res)) { s with heap:=h',toks:=tk }) :
  Zij (Zix prog w) A.in1 (Zk3 (.ref S) (.ref r) res)
   (fun fin s'=>match fin with | .done f=>R (.ok f) s' | .again c'=>c'.quiet = true/\Zns (Zix prog w) A c' R s') (fun e s'=>R (.error e) s') s:=by
 have hSr : S≠r:=fun e=>by obtain ⟨o,ho,hc,_⟩:=hr; rw [e,ho] at hS; cases hS; simp at hc
 have W:=(Walks.listRev (prog:=prog) (w:=w) (A:=A.in1) hh r l hlr items).toS
 unfold Zk3
 refine Zhl (wpAny_typeOf hr.typeIs ?_)
 have h1 : Zor (.ref S) (.ref r) = false:=by simp [Zor,hSr]
 have h2 : (Zop "list_reverseiterator" == Zop "list") = false:=by decide
 have h3 : (Zop "list_reverseiterator" == Zop "tuple") = false:=by decide
 simp only [h1,h2,h3,Zs9,Zlb,if_false]
 refine Zhl (wpAny_pyIter_revIter hr ?_)
 refine Zhl (Zla (zy8 hr ?_))
 refine Zn9 (fun hab=>absurd hab (by decide +kernel)) (fun _=>?_)
 have hSf : S ∉ [r,l]:=by simp [hSr,hSl]
 refine Zhz ⟨Zkm F.plain_extend_loop _,codeAny_extend_loopS W hlen _ hSf _ items.size 0 _ _ _ rfl (Zit _) ⟨Zit _,by simpa using hr,hl⟩ hS (ItemsOf.nil _) fun s' acc' c' hm hS' hacc=>?_⟩
 rw [hm.eq_with]
 exact hR _ _ acc' c' (fun b o hb hbr e=>hm.heap b o (by simp [hb,hbr]) e) hS' hacc
theorem zl2 {Q : Value->Zhq->Prop} {r l : Addr} {items : Array Value} (hh : A.handled = none) (hr : s.heap.IsRevIter r l ((items.size : Int) - 1)) (hl : s.heap.IsList l items) (hlr : l≠r) (hlen : items.size <= sizeLine)
  (hQ : ∀ h' tk acc' c',(∀ b o,b≠r->s.heap.get? b = some o->h'.get? b = some o) ->
   h'.get? s.heap.objs.size = some { cls:=.type "list", dict:=none,data:=.seq acc' c',slots:=#[] }->ItemsOf (fun i v=>items[items.size - 1 - i]? = some v) acc' items.size->Q (.ref s.heap.objs.size) { s with heap:=h',toks:=tk }) :
  Zij (Zix prog w) A (call (.type "list") [.ref r]) Q E s:=by
 refine Zvc (Q₁:=fun obj s₁=>obj = .ref s.heap.objs.size/\s₁ = { s with heap:=s.heap.push { cls:=.type "list", data:=.seq #[] } }) F.called_list (F.typeCall_list_1 _) F.entry_list_init
  (code_list_new _ ⟨rfl,rfl⟩) fun obj s₁ h₁=>?_
 obtain ⟨rfl,rfl⟩:=h₁
 have hS : (s.heap.push { cls:=.type "list", data:=.seq #[] }).get? s.heap.objs.size = some { cls:=.type "list", data:=.seq #[] }:=Zh6 _ rfl
 have hr2 : (s.heap.push { cls:=.type "list", data:=.seq #[] }).IsRevIter r l ((items.size : Int) - 1):=hr.at fun o e=>Zhr _ e
 have hl2 : (s.heap.push { cls:=.type "list", data:=.seq #[] }).IsList l items:=hl.at fun o e=>Zhr _ e
 have hrlt : r < s.heap.objs.size:=by obtain ⟨o,ho,_⟩:=hr; exact Zhy ho
 have hllt : l < s.heap.objs.size:=by obtain ⟨o,ho,_⟩:=hl; exact Zhy ho
 refine ⟨⟨_,hS,rfl⟩,F.args_list_init_2 _ _,?_⟩
 show Zij _ A.in1.in1 (do let old <- Zo1 (.ref s.heap.objs.size); Zut (.ref s.heap.objs.size) (fun _=>#[]); letGo old.toList.reverse; Zk3 (.ref s.heap.objs.size) (.ref r) .none) _ _ _
 refine Zhl ?_
 unfold Zo1
 refine Zhl (Zlv hS rfl (Zhz ?_))
 show Zij _ _ (Zqr s.heap.objs.size (fun _=>#[]) >>= fun _=>letGo (#[] : Array Value).toList.reverse >>= fun _=>Zk3 (.ref s.heap.objs.size) (.ref r) .none) _ _ _
 refine Zhl (Zlm hS rfl ?_)
 have hS₂:=Zq5 (Zj7 (fun _=>(#[] : Array Value))) hS rfl
 have oth : ∀ b o,b≠s.heap.objs.size->(s.heap.push { cls:=.type "list", data:=.seq #[] }).get? b = some o->((s.heap.push { cls:=.type "list", data:=.seq #[] }).update s.heap.objs.size (Zj7 (fun _=>(#[] : Array Value)))).get? b = some o :=
  fun b o hb e=>(Zqz _ _ (Zi4 hb)).trans e
 refine Zhl (Zk9 ?_)
 refine ztb (A:=A.in1) hh (hr2.at fun o e=>oth r o (Zic hrlt) e) (hl2.at fun o e=>oth l o (Zic hllt) e) hlen _ .none _ hS₂ (Zmu hllt) hlr fun h' tk acc' c' hk hS' hacc=>?_
 exact ⟨rfl,hQ h' tk acc' c' (fun b o hbr e=>hk b o (Zic (Zhy e)) hbr (oth b o (Zic (Zhy e)) (Zhr _ e))) hS' hacc⟩
end
section
variable {X : Cx} {pins : List (Addr × Obj)} {σ : St} {H : Hp} {s : Zhq} {h' : Heap} {t' : Nat} {wr : List Addr}
theorem Inv.turnsO (I : Inv X pins σ H s) {T0 : Addr} {nw0 : HO} (hf : ∀ b∈wr,FpOk X pins H b) (k : ∀ b o,b ∉ wr->s.heap.get? b = some o->h'.get? b = some o) (hT : s.heap.objs.size <= T0) (new : zdx X.prog X.w (upd H T0 nw0) h' T0 nw0) :
  Inv X pins σ (upd H T0 nw0) { s with heap:=h',toks:=t' }:=by
 have nw : ∀ b u,H b = some u->b ∉ wr:=fun b u e z=>by have:=(hf b z).1; rw [e] at this; cases this
 have nL : X.env.locals ∉ wr:=fun z=>(hf _ z).2.1 rfl
 have fresh : H T0 = none:=I.hok.fresh hT
 have ne : ∀ b o,s.heap.get? b = some o->b≠T0:=fun b o e=>Zic (Zh9 (Zhy e) hT)
 refine I.step (g':=s.gens) (d':=s.drawn) (ch:=wr) (fun b hb=>?_) (fun b o _ _ hc e _=>k b o hc e) (fun b o _ _ hc e _=>⟨o.slots,k b o hc e⟩) (fun b o _ e n=>by rw [zav (ne b o e)]; exact n)
  (fun b o hc e=>⟨o,k b o hc e⟩) (fun b xs e=>by rw [zav (za4 e fresh)]; exact e) (fun b o u e=>by rw [zav (za4 e fresh)]; exact e) (fun b ps e=>⟨#[],by rw [zav (za4 e fresh),e]; simp⟩) (fun m hm=>?_) (fun b u e=>?_) I.bare
 ·obtain ⟨f0,f1,f2,f3,f4,f5⟩:=hf b hb
  exact ⟨f3,f1,f4,f5⟩
 ·obtain ⟨o,es,ep,ho,r⟩:=hm
  exact ⟨o,es,ep,k _ o nL ho,r⟩
 ·by_cases hb : b = T0
  ·subst hb
   rw [zap] at e
   cases e
   exact new
  ·rw [zav hb] at e
   refine (I.hok b u e).stay (fun c v hc q=>k c v ?_ q) (fun c q=>by rw [zav (za4 q fresh)]; exact q) fun c xs q=>by rw [zav (za4 q fresh)]; exact q
   rcases hc with z | z
   ·rw [z]; exact nw b u e
   ·exact nw c _ z
end
section
variable {X : Cx} {e1 : Expr} {ta : TA} {p pos p2 pos2 : Pos}
noncomputable def zrb (K : Zhi) (ta : TA) : TE:=fun σ H Q=>ta σ H fun vs H1=>∃ a xs,vs = [.ref a]/\SqL K H1 a xs /\ ∀ l,H1 l = none->Q (.ref l) (upd H1 l (.lst xs.reverse))
theorem zta (hc : X.calm = true) (hgl : Gl X "list") (hml : X.mg "list" = none) (hg : Gl X "reversed") (hm : X.mg "reversed" = none) (hA : PA X [e1] ta) (hs : Zi6 [e1] X.env = [(false,eval e1 X.env)]:=by rfl)
  (hs2 : Zi6 [.Call (.Name "reversed" p) [e1] [] pos] X.env = [(false,eval (.Call (.Name "reversed" p) [e1] [] pos) X.env)]:=by rfl) :
  PE X (.Call (.Name "list" p2) [.Call (.Name "reversed" p) [e1] [] pos] [] pos2) (zrb X.K ta):=by
 intro pins s σ H Q I h
 refine Zu8 (zhb I hgl hml Zm2 (Zi7 (?_ : Zij (Zix X.prog X.w) X.A (Zu0 (Znl pos2 (Zi6 [.Call (.Name "reversed" p) [e1] [] pos] X.env))) _ X.xe s) hs2 rfl))
 rw [hs2]
 show Zij _ _ (Zu0 ((false,eval (.Call (.Name "reversed" p) [e1] [] pos) X.env)::[])) _ _ s
 refine Zlw ?_
 refine Zu8 (zhb I hg hm boot_reversed (Zi7 (thn (hA pos pins s σ H _ I h) fun us s1 hz9=>?_) hs rfl))
 obtain ⟨vs,H1,I1,r1,q1⟩:=hz9
 obtain ⟨a,xs,rfl,hq,q⟩:=q1
 obtain ⟨u,rfl,ru⟩:=zhc r1
 cases ru
 obtain ⟨its,rv,pl,hz⟩:=I1.list hq
 have hn : its.toArray.size = xs.length:=by rw [rv.length]; simp
 refine call_reversed_list pl.isList (Zm5 ?_)
 have up : ∀ b o,s1.heap.get? b = some o->(s1.heap.push (revObj a ((its.toArray.size : Int) - 1))).get? b = some o:=fun b o e=>Zhr _ e
 have hR : (s1.heap.push (revObj a ((its.toArray.size : Int) - 1))).IsRevIter s1.heap.objs.size a ((its.toArray.size : Int) - 1):=⟨_,Zh6 _ rfl,rfl,rfl⟩
 have I2 : Inv X pins σ H1 { s1 with heap:=s1.heap.push (revObj a ((its.toArray.size : Int) - 1)) }:=I1.kept (t':=s1.toks) up
 have hal : a < s1.heap.objs.size:=by obtain ⟨o,_,ho,_⟩:=id pl; exact Zhy ho
 have f1:=I1.fpOk (Zhu _) (I1.hok.fresh (Zhu _))
 generalize hh2 : s1.heap.push (revObj a ((its.toArray.size : Int) - 1)) = h2 at hR I2 up
 refine zl2 (s:={ s1 with heap:=h2 }) (I1.ok.hd hc) hR (pl.isList.at fun o e=>up _ _ e) (Zic hal) (by rw [hn]; exact hz) fun h' tk acc c hk hS hacc=>?_
 have hv : Vals xs.reverse acc.toList:=by
  obtain ⟨hsz,hit⟩:=hacc
  have e : acc.toList = its.reverse:=by
   refine Zkl fun i=>?_
   by_cases hi : i < acc.size
   ·have h1:=hit i acc[i] (by simp [hi])
    have h2 : acc.toList[i]? = some acc[i]:=by simp [hi]
    rw [h2]
    rw [List.getElem?_reverse (by rw [hsz] at hi; simpa using hi)]
    have : its.toArray[its.toArray.size - 1 - i]? = its[its.length - 1 - i]?:=by simp
    rw [<- this,h1]
   ·rw [Zis (by simpa using hi),Zis (by rw [hsz] at hi; simpa using hi)]
  rw [e]; exact rv.reverse
 have hsz2 : h2.objs.size = s1.heap.objs.size + 1:=by rw [<- hh2,Zn3]
 have hf : ∀ b∈[s1.heap.objs.size],FpOk X pins H1 b:=fun b hb=>by rw [Zhp.mp hb]; exact f1
 exact ⟨.ref h2.objs.size,_,I2.turnsO (t':=tk) hf (fun b o hb e=>hk b o (by simpa using hb) e) (Zhu _) (show zdx X.prog X.w _ _ _ (.lst _) from ⟨by rw [List.length_reverse]; exact hz,acc.toList,c,hv,by simpa using hS⟩),rfl,q _ I2.fresh⟩
end
end L2
namespace L2
open PySem
end L2
namespace L2
open PySem PySem.Spec PyProof.Rows
inductive D where
 | non | bl (b : Bool) | int (i : Int) | str (l : List Nat) | lst (xs : List D) | tup (xs : List D) | dct (ks vs : List D) | dctT (ks vs : List D) | ins (C : Addr) (ns : List Str) (vs : List D)
noncomputable instance : Inhabited D:=⟨.non⟩
noncomputable instance : DecidableEq D:=Zvr D
mutual
noncomputable def D.dep : D->Nat
 | .lst a=>D.deps a + 1
 | .tup a=>D.deps a + 1
 | _=>0
noncomputable def D.deps : List D->Nat
 | []=>0
 | a::x=>max a.dep (D.deps x)
end
mutual
noncomputable def D.nb : D->Bool
 | .bl _=>false
 | .dct _ _=>false
 | .dctT _ _=>false
 | .ins _ _ _=>false
 | .lst a=>D.nbs a
 | .tup a=>D.nbs a
 | _=>true
noncomputable def D.nbs : List D->Bool
 | []=>true
 | a::x=>a.nb && D.nbs x
end
noncomputable def D.isK : D->Bool
 | .int _=>true | .str _=>true | _=>false
noncomputable def D.key : D->Key
 | .int i=>.inl i | .str l=>.inr (T l) | _=>.inl 0
noncomputable def D.isT : D->Bool
 | .tup l=>l.all D.isK | _=>false
noncomputable def D.tkey : D->List Key
 | .tup l=>l.map D.key | _=>[]
noncomputable def D.isInt : D->Bool
 | .int _=>true
 | _=>false
noncomputable def zf8 (ds : List D) : Bool:=ds.any D.isInt
section
variable (K : Zhi) (H : Hp)
mutual
noncomputable def Rep : D->V->Prop
 | .non,v=>v = .non
 | .bl b,v=>v = .bl b
 | .int i,v=>v = .int i
 | .str l,v=>v = .str (T l) /\ ∀ c∈l,c < 128
 | .lst ds,v=>∃ p xs,v = .ref p/\SqL K H p xs/\Reps ds xs
 | .tup ds,v=>∃ p xs,v = .ref p/\SqT K H p xs/\Reps ds xs/\(zf8 ds = true->H p = some (.tup xs))
 | .dct ks vs,v=>∃ p kv,v = .ref p/\H p = some (.dK kv)/\Reps ks (kv.map fun q=>kV q.1)/\Reps vs (kv.map fun q=>q.2)
 | .dctT ks vs,v=>∃ p kv,v = .ref p/\(∃ o,H p = some (.frz o (.dT kv)))/\(ks.all D.isT = true/\(kv.map fun q=>q.1) = ks.map D.tkey)/\Reps vs (kv.map fun q=>q.2)
 | .ins C ns vs,v=>∃ x dx fs,v = .ref x/\H x = some (.ins C dx fs)/\H dx = some (.own x)/\fs.map (fun q=>q.1) = ns/\Reps vs (fs.map fun q=>q.2)
noncomputable def Reps : List D->List V->Prop
 | [],xs=>xs = []
 | d::ds,xs=>∃ x r,xs = x::r/\Rep d x/\Reps ds r
end
end
section
variable {K : Zhi} {H H' : Hp}
mutual
theorem Rep.mono (s : Same H H') : ∀ {d : D} {v : V},Rep K H d v->Rep K H' d v
 | .non,_,h=>by simpa [Rep] using h
 | .bl _,_,h=>by simpa [Rep] using h
 | .int _,_,h=>by simpa [Rep] using h
 | .str _,_,h=>by simpa [Rep] using h
 | .lst ds,_,h=>by
  rw [Rep] at h ⊢
  obtain ⟨p,xs,e,q,r⟩:=h
  exact ⟨p,xs,e,SqL.same s q,Reps.mono s r⟩
 | .tup ds,_,h=>by
  rw [Rep] at h ⊢
  obtain ⟨p,xs,e,q,r,t⟩:=h
  exact ⟨p,xs,e,SqT.same s q,Reps.mono s r,fun z=>s _ _ (t z)⟩
 | .dct ks vs,_,h=>by
  rw [Rep] at h ⊢
  obtain ⟨p,kv,e,q,r1,r2⟩:=h
  exact ⟨p,kv,e,s _ _ q,Reps.mono s r1,Reps.mono s r2⟩
 | .dctT ks vs,_,h=>by
  rw [Rep] at h ⊢
  obtain ⟨p,kv,e,⟨o,q⟩,r1,r2⟩:=h
  exact ⟨p,kv,e,⟨o,s _ _ q⟩,r1,Reps.mono s r2⟩
 | .ins C ns vs,_,h=>by
  rw [Rep] at h ⊢
  obtain ⟨x,dx,fs,e,q1,q2,hn,r⟩:=h
  exact ⟨x,dx,fs,e,s _ _ q1,s _ _ q2,hn,Reps.mono s r⟩
theorem Reps.mono (s : Same H H') : ∀ {ds : List D} {xs : List V},Reps K H ds xs->Reps K H' ds xs
 | [],_,h=>by simpa [Reps] using h
 | d::ds,_,h=>by
  rw [Reps] at h ⊢
  obtain ⟨x,r,e,a,b⟩:=h
  exact ⟨x,r,e,Rep.mono s a,Reps.mono s b⟩
end
theorem Reps.nil : Reps K H [] []:=by rw [Reps]
theorem Reps.cons {d : D} {ds : List D} {x : V} {xs : List V} (a : Rep K H d x) (b : Reps K H ds xs) : Reps K H (d::ds) (x::xs):=by rw [Reps]; exact ⟨x,xs,rfl,a,b⟩
theorem Reps.length : ∀ {ds : List D} {xs : List V},Reps K H ds xs->ds.length = xs.length
 | [],_,h=>by rw [Reps] at h; subst h; rfl
 | d::ds,_,h=>by
  rw [Reps] at h
  obtain ⟨x,r,rfl,_,b⟩:=h
  simp [b.length]
theorem Reps.get : ∀ {ds : List D} {xs : List V} {i : Nat} {x : V},Reps K H ds xs->xs[i]? = some x -> ∃ d,ds[i]? = some d/\Rep K H d x
 | [],_,_,_,h,e=>by rw [Reps] at h; subst h; simp at e
 | d::ds,_,0,_,h,e=>by
  rw [Reps] at h
  obtain ⟨y,r,rfl,a,_⟩:=h
  cases e
  exact ⟨d,rfl,a⟩
 | d::ds,_,i + 1,_,h,e=>by
  rw [Reps] at h
  obtain ⟨y,r,rfl,_,b⟩:=h
  exact Reps.get (i:=i) b e
theorem Reps.get' : ∀ {ds : List D} {xs : List V} {i : Nat} {d : D},Reps K H ds xs->ds[i]? = some d -> ∃ x,xs[i]? = some x/\Rep K H d x:=fun {ds xs i d} h e=>by
 have hl:=h.length
 have hi:=(Zhn.mp e).1
 obtain ⟨d',e',r⟩:=h.get (i:=i) (x:=xs[i]'(by lia)) (Zhj _)
 rw [e] at e'; cases e'
 exact ⟨_,Zhj _,r⟩
theorem Reps.append : ∀ {ds es : List D} {xs ys : List V},Reps K H ds xs->Reps K H es ys->Reps K H (ds++es) (xs++ys)
 | [],_,_,_,h,h2=>by rw [Reps] at h; subst h; exact h2
 | d::ds,_,_,_,h,h2=>by
  rw [Reps] at h
  obtain ⟨y,r,rfl,a,b⟩:=h
  exact Reps.cons a (Reps.append b h2)
theorem Reps.snoc {ds : List D} {xs : List V} {d : D} {x : V} (h : Reps K H ds xs) (a : Rep K H d x) : Reps K H (ds++[d]) (xs++[x]):=h.append (.cons a .nil)
theorem Reps.drop : ∀ (n : Nat) {ds : List D} {xs : List V},Reps K H ds xs->Reps K H (ds.drop n) (xs.drop n)
 | 0,_,_,h=>h
 | n + 1,[],_,h=>by rw [Reps] at h; subst h; exact Reps.nil
 | n + 1,d::ds,_,h=>by
  rw [Reps] at h
  obtain ⟨y,r,rfl,_,b⟩:=h
  exact Reps.drop n b
theorem Reps.take : ∀ (n : Nat) {ds : List D} {xs : List V},Reps K H ds xs->Reps K H (ds.take n) (xs.take n)
 | 0,_,_,h=>Reps.nil
 | n + 1,[],_,h=>by rw [Reps] at h; subst h; exact Reps.nil
 | n + 1,d::ds,_,h=>by
  rw [Reps] at h
  obtain ⟨y,r,rfl,a,b⟩:=h
  exact Reps.cons a (Reps.take n b)
theorem Rep.lst {ds : List D} {p : Addr} {xs : List V} (q : SqL K H p xs) (r : Reps K H ds xs) : Rep K H (.lst ds) (.ref p):=by rw [Rep]; exact ⟨p,xs,rfl,q,r⟩
theorem Rep.tup {ds : List D} {p : Addr} {xs : List V} (q : SqT K H p xs) (r : Reps K H ds xs) (t : zf8 ds = true->H p = some (.tup xs)) : Rep K H (.tup ds) (.ref p):=by rw [Rep]; exact ⟨p,xs,rfl,q,r,t⟩
theorem Rep.tupN {ds : List D} {p : Addr} {xs : List V} (q : H p = some (.tup xs)) (r : Reps K H ds xs) : Rep K H (.tup ds) (.ref p):=Rep.tup (SqT.of q) r fun _=>q
theorem Rep.int {i : Int} : Rep K H (.int i) (.int i):=by rw [Rep]
theorem Rep.bl {b : Bool} : Rep K H (.bl b) (.bl b):=by rw [Rep]
theorem Rep.str {l : List Nat} (h : ∀ c∈l,c < 128) : Rep K H (.str l) (.str (T l)):=by rw [Rep]; exact ⟨rfl,h⟩
theorem Rep.non : Rep K H .non .non:=by rw [Rep]
theorem Rep.of_int {i : Int} {v : V} (h : Rep K H (.int i) v) : v = .int i:=by rw [Rep] at h; exact h
theorem Rep.of_bl {b : Bool} {v : V} (h : Rep K H (.bl b) v) : v = .bl b:=by rw [Rep] at h; exact h
theorem Rep.of_str {l : List Nat} {v : V} (h : Rep K H (.str l) v) : v = .str (T l):=by rw [Rep] at h; exact h.1
theorem Rep.asc {l : List Nat} {v : V} (h : Rep K H (.str l) v) : ∀ c∈l,c < 128:=by rw [Rep] at h; exact h.2
theorem Rep.of_non {v : V} (h : Rep K H .non v) : v = .non:=by rw [Rep] at h; exact h
theorem Rep.of_lst {ds : List D} {v : V} (h : Rep K H (.lst ds) v) : ∃ p xs,v = .ref p/\SqL K H p xs/\Reps K H ds xs:=by rw [Rep] at h; exact h
theorem Rep.of_tup {ds : List D} {v : V} (h : Rep K H (.tup ds) v) : ∃ p xs,v = .ref p/\SqT K H p xs/\Reps K H ds xs:=by rw [Rep] at h; obtain ⟨p,xs,e,q,r,_⟩:=h; exact ⟨p,xs,e,q,r⟩
theorem Rep.trk {ds : List D} {v : V} (h : Rep K H (.tup ds) v) (z : zf8 ds = true) : ∃ p xs,v = .ref p/\H p = some (.tup xs)/\Reps K H ds xs:=by rw [Rep] at h; obtain ⟨p,xs,e,_,r,t⟩:=h; exact ⟨p,xs,e,t z,r⟩
theorem Reps.ints {p : Addr} : ∀ (ns : List Int),Reps K H (ns.map D.int) (ns.map V.int)
 | []=>Reps.nil
 | n::ns=>Reps.cons Rep.int (Reps.ints (p:=p) ns)
end
noncomputable def NT : HO->Prop
 | .tup _=>False
 | _=>True
structure Ext (G H₀ F H : Hp) : Prop where
 gf : Same G F
 fh : Same F H
 hh : Same H₀ H
 no : ∀ b o,H₀ b = some o->NT o->F b = G b
theorem Ext.refl {G H : Hp} (s : Same G H) : Ext G H G H:=⟨Same.refl _,s,Same.refl _,fun _ _ _ _=>rfl⟩
theorem Ext.trans {G H F1 H1 F2 H2 : Hp} (a : Ext G H F1 H1) (b : Ext F1 H1 F2 H2) : Ext G H F2 H2 :=
 ⟨a.gf.trans b.gf,b.fh,a.hh.trans b.hh,fun c o e n=>(b.no c o (a.hh c o e) n).trans (a.no c o e n)⟩
theorem Ext.newF {G H₀ F H : Hp} (x : Ext G H₀ F H) {p : Addr} {o : HO} (hp : H p = none) : Ext G H₀ (upd F p o) (upd H p o):=by
 have fp : F p = none:=x.fh.free hp
 refine ⟨x.gf.trans (Same.upd fp),fun b u e=>?_,x.hh.trans (Same.upd hp),fun b u e n=>?_⟩
 ·by_cases hb : b = p
  ·subst hb; rw [zap] at e ⊢; exact e
  ·rw [zav hb] at e ⊢; exact x.fh b u e
 ·have hb : b≠p:=fun z=>by subst z; have:=x.hh b u e; rw [hp] at this; cases this
  rw [zav hb]; exact x.no b u e n
theorem Ext.newO {G H₀ F H : Hp} (x : Ext G H₀ F H) {p : Addr} {o : HO} (hp : H p = none) : Ext G H₀ F (upd H p o) :=
 ⟨x.gf,x.fh.trans (Same.upd hp),x.hh.trans (Same.upd hp),x.no⟩
theorem Ext.write {G H₀ F H : Hp} (x : Ext G H₀ F H) {p : Addr} {o : HO} (fp : F p = none) (hp : H₀ p = none) : Ext G H₀ F (upd H p o) :=
 ⟨x.gf,fun b u e=>by rw [zav (za4 e fp)]; exact x.fh b u e,fun b u e=>by rw [zav (za4 e hp)]; exact x.hh b u e,x.no⟩
theorem Ext.freeze {G H₀ F H : Hp} (x : Ext G H₀ F H) {p : Addr} {o : HO} (fp : F p = none) (hp : H₀ p = none) (e : H p = some o) : Ext G H₀ (upd F p o) H:=by
 refine ⟨x.gf.trans (Same.upd fp),fun b u q=>?_,x.hh,fun b u q n=>?_⟩
 ·by_cases hb : b = p
  ·subst hb; rw [zap] at q; cases q; exact e
  ·rw [zav hb] at q; exact x.fh b u q
 ·rw [zav (za4 q hp)]; exact x.no b u q n
inductive Sl where
 | un | d (x : D) | o (p : Addr) (xs : List D) | oo (p : Addr) (qs : List (Addr × List D)) | g (v : V) (as : List Addr) (W : Hp->Hp->Prop)
noncomputable def Sl.ads : Sl->List Addr
 | .un=>[] | .d _=>[] | .o p _=>[p] | .oo p qs=>p::qs.map (·.1) | .g _ as _=>as
noncomputable def OwnL (K : Zhi) (H₀ F H : Hp) (p : Addr) (xs : List D) : Prop:=H₀ p = none/\F p = none /\ ∃ vs,H p = some (.lst vs)/\Reps K F xs vs
noncomputable def Stab (as : List Addr) (W : Hp->Hp->Prop) : Prop:=∀ F1 H1 F2 H2 : Hp,Same F1 F2->(∀ a∈as,H2 a = H1 a)->W F1 H1->W F2 H2
noncomputable def SlOk (K : Zhi) (H₀ F H : Hp) (ov : Option V) : Sl->Prop
 | .un=>True
 | .d x=>∃ v,ov = some v/\Rep K F x v
 | .o p xs=>ov = some (.ref p)/\OwnL K H₀ F H p xs
 | .oo p qs=>ov = some (.ref p)/\H₀ p = none/\F p = none/\H p = some (.lst (qs.map fun q=>V.ref q.1)) /\ ∀ q∈qs,OwnL K H₀ F H q.1 q.2
 | .g v as W=>ov = some v/\(∀ a∈as,H₀ a = none/\F a = none /\ ∃ o,H a = some o/\NT o)/\W F H/\Stab as W
structure Sat (K : Zhi) (G H₀ L F H : Hp) (σ : St) (ss : List Sl) : Prop where
 ext : Ext G H₀ F H
 fl : Same L F
 len : σ.length = ss.length
 ok : ∀ (i : Nat) s,ss[i]? = some s->SlOk K H₀ F H (σ.getD i none) s
 nd : ∀ (i : Nat) s,ss[i]? = some s->s.ads.Nodup
 ne : ∀ (i j : Nat) s s',i≠j->ss[i]? = some s->ss[j]? = some s' -> ∀ p∈s.ads,p ∉ s'.ads
section
variable {K : Zhi} {H₀ F H F' H' : Hp}
theorem OwnL.ext2 {p : Addr} {xs : List D} (h : OwnL K H₀ F H p xs) (e : Ext F H F' H') : OwnL K H₀ F' H' p xs:=by
 obtain ⟨h0,fp,vs,hp,r⟩:=h
 exact ⟨h0,(e.no p _ hp trivial).trans fp,vs,e.hh p _ hp,r.mono e.gf⟩
theorem SlOk.ext2 {ov : Option V} {s : Sl} (h : SlOk K H₀ F H ov s) (e : Ext F H F' H') : SlOk K H₀ F' H' ov s:=by
 cases s with
 | un=>trivial
 | d x=>obtain ⟨v,ev,r⟩:=h; exact ⟨v,ev,r.mono e.gf⟩
 | o p xs=>exact ⟨h.1,h.2.ext2 e⟩
 | oo p qs =>
  obtain ⟨ev,h0,fp,hp,hq⟩:=h
  exact ⟨ev,h0,(e.no p _ hp trivial).trans fp,e.hh p _ hp,fun q hm=>(hq q hm).ext2 e⟩
 | g v as W =>
  obtain ⟨ev,ha,hw,st⟩:=h
  refine ⟨ev,fun a hm=>?_,st _ _ _ _ e.gf (fun a hm=>?_) hw,st⟩
  ·obtain ⟨h0,fa,o,ho,nt⟩:=ha a hm
   exact ⟨h0,(e.no a _ ho nt).trans fa,o,e.hh a _ ho,nt⟩
  ·obtain ⟨h0,fa,o,ho,nt⟩:=ha a hm
   rw [e.hh a _ ho,ho]
theorem OwnL.updNe {p a : Addr} {o : HO} {xs : List D} (h : OwnL K H₀ F H p xs) (hn : p≠a) : OwnL K H₀ F (upd H a o) p xs:=by
 obtain ⟨h0,fp,vs,hp,r⟩:=h
 exact ⟨h0,fp,vs,by rw [zav hn]; exact hp,r⟩
theorem SlOk.updNe {ov : Option V} {s : Sl} {a : Addr} {o : HO} (h : SlOk K H₀ F H ov s) (hn : a ∉ s.ads) : SlOk K H₀ F (upd H a o) ov s:=by
 cases s with
 | un=>trivial
 | d x=>exact h
 | o p xs=>exact ⟨h.1,h.2.updNe fun z=>hn (by simp [Sl.ads,z])⟩
 | oo p qs =>
  obtain ⟨ev,h0,fp,hp,hq⟩:=h
  refine ⟨ev,h0,fp,by rw [zav fun z=>hn (by simp [Sl.ads,z])]; exact hp,fun q hm=>(hq q hm).updNe fun z=>hn ?_⟩
  rw [<- z]
  exact Zhv _ (Zjs hm)
 | g v as W =>
  obtain ⟨ev,ha,hw,st⟩:=h
  have hne : ∀ b∈as,b≠a:=fun b hm z=>hn (by rw [<- z]; exact hm)
  refine ⟨ev,fun b hm=>?_,st _ _ _ _ (Same.refl _) (fun b hm=>zav (hne b hm)) hw,st⟩
  obtain ⟨h0,fa,x,ho,nt⟩:=ha b hm
  exact ⟨h0,fa,x,by rw [zav (hne b hm)]; exact ho,nt⟩
theorem OwnL.frz {p a : Addr} {o : HO} {xs : List D} (h : OwnL K H₀ F H p xs) (fa : F a = none) (hn : p≠a) : OwnL K H₀ (upd F a o) H p xs:=by
 obtain ⟨h0,fp,vs,hp,r⟩:=h
 exact ⟨h0,by rw [zav hn]; exact fp,vs,hp,r.mono (Same.upd fa)⟩
theorem SlOk.frz {ov : Option V} {s : Sl} {a : Addr} {o : HO} (h : SlOk K H₀ F H ov s) (fa : F a = none) (hn : a ∉ s.ads) : SlOk K H₀ (upd F a o) H ov s:=by
 cases s with
 | un=>trivial
 | d x=>obtain ⟨v,ev,r⟩:=h; exact ⟨v,ev,r.mono (Same.upd fa)⟩
 | o p xs=>exact ⟨h.1,h.2.frz fa fun z=>hn (by simp [Sl.ads,z])⟩
 | oo p qs =>
  obtain ⟨ev,h0,fp,hp,hq⟩:=h
  refine ⟨ev,h0,by rw [zav fun z=>hn (by simp [Sl.ads,z])]; exact fp,hp,fun q hm=>(hq q hm).frz fa fun z=>hn ?_⟩
  rw [<- z]
  exact Zhv _ (Zjs hm)
 | g v as W =>
  obtain ⟨ev,ha,hw,st⟩:=h
  have hne : ∀ b∈as,b≠a:=fun b hm z=>hn (by rw [<- z]; exact hm)
  refine ⟨ev,fun b hm=>?_,st _ _ _ _ (Same.upd fa) (fun _ _=>rfl) hw,st⟩
  obtain ⟨h0,fb,x,ho,nt⟩:=ha b hm
  exact ⟨h0,by rw [zav (hne b hm)]; exact fb,x,ho,nt⟩
theorem SlOk.live {ov : Option V} {s : Sl} (h : SlOk K H₀ F H ov s) {p : Addr} (hp : p∈s.ads) : H p≠none:=by
 cases s with
 | un=>simp [Sl.ads] at hp
 | d x=>simp [Sl.ads] at hp
 | o q xs =>
  obtain ⟨_,_,_,vs,hq,_⟩:=h
  simp [Sl.ads] at hp; subst hp; rw [hq]; simp
 | oo q qs =>
  obtain ⟨ev,h0,fp,hq,hqs⟩:=h
  rcases Zie.mp hp with rfl | hp
  ·rw [hq]; simp
  ·obtain ⟨r,hr,rfl⟩:=Zh3.mp hp
   obtain ⟨_,_,vs,hv,_⟩:=hqs r hr
   rw [hv]; simp
 | g v as W =>
  obtain ⟨ev,ha,hw,st⟩:=h
  obtain ⟨_,_,x,ho,_⟩:=ha p hp
  rw [ho]; simp
end
section
variable {K : Zhi} {G H₀ L F H F' H' : Hp} {σ : St} {ss : List Sl}
theorem Sat.ext2 (S : Sat K G H₀ L F H σ ss) (e : Ext F H F' H') : Sat K G H₀ L F' H' σ ss :=
 ⟨S.ext.trans e,S.fl.trans e.gf,S.len,fun i s hs=>(S.ok i s hs).ext2 e,S.nd,S.ne⟩
theorem Sat.get (S : Sat K G H₀ L F H σ ss) {i : Nat} {s : Sl} (hs : ss[i]? = some s) (hn : s ≠ .un) : ∃ v,σ[i]? = some (some v)/\SlOk K H₀ F H (some v) s:=by
 have hi : i < σ.length:=by rw [S.len]; exact (Zhn.mp hs).1
 have:=S.ok i s hs
 rw [Zhh,Zhj hi] at this
 simp only [Zna] at this
 cases hv : σ[i] with
 | none =>
  rw [hv] at this
  cases s with
  | un=>exact absurd rfl hn
  | d x=>obtain ⟨v,ev,_⟩:=this; cases ev
  | o p xs=>obtain ⟨ev,_⟩:=this; cases ev
  | oo p qs=>obtain ⟨ev,_⟩:=this; cases ev
  | g v as W=>obtain ⟨ev,_⟩:=this; cases ev
 | some v =>
  rw [hv] at this
  exact ⟨v,by rw [Zhj hi,hv],this⟩
theorem Sat.getD (S : Sat K G H₀ L F H σ ss) {i : Nat} {x : D} (hs : ss[i]? = some (.d x)) : ∃ v,σ[i]? = some (some v)/\Rep K F x v:=by
 obtain ⟨v,e,w,ew,r⟩:=S.get hs (by intro z; cases z)
 cases ew
 exact ⟨v,e,r⟩
theorem Sat.getO (S : Sat K G H₀ L F H σ ss) {i : Nat} {p : Addr} {xs : List D} (hs : ss[i]? = some (.o p xs)) : σ[i]? = some (some (.ref p))/\OwnL K H₀ F H p xs:=by
 obtain ⟨v,e,ew,r⟩:=S.get hs (by intro z; cases z)
 cases ew
 exact ⟨e,r⟩
theorem zcv {σ : St} {i : Nat} {v : Option V} (h : i < σ.length) : (σ.set i v).getD i none = v:=by
 rw [Zhh,Zjp h]; rfl
theorem zd2 {σ : St} {i j : Nat} {v : Option V} (h : i≠j) : (σ.set i v).getD j none = σ.getD j none:=by
 rw [Zhh,Zkf h,Zhh]
theorem zh0 {i j : Nat} {s t : Sl} (h : (ss.set i s)[j]? = some t) : (i = j/\t = s/\i < ss.length) \/ (i≠j/\ss[j]? = some t):=by
 by_cases hj : i = j
 ·subst hj
  have hi:=(Zhn.mp h).1
  rw [Zsj] at hi
  rw [Zjp hi] at h
  exact .inl ⟨rfl,(Zjf h).symm,hi⟩
 ·rw [Zkf hj] at h; exact .inr ⟨hj,h⟩
theorem Sat.put {σ' : St} (S : Sat K G H₀ L F H σ ss) {i : Nat} {s : Sl} (ex : Ext G H₀ F' H') (fl : Same L F') (hl : σ'.length = σ.length) (hσ : ∀ j,j≠i->σ'.getD j none = σ.getD j none) (hi : i < ss.length->SlOk K H₀ F' H' (σ'.getD i none) s)
  (nd : s.ads.Nodup) (dj : ∀ (j : Nat) s',j≠i->ss[j]? = some s' -> ∀ p∈s.ads,p ∉ s'.ads) (st : ∀ (j : Nat) s',j≠i->ss[j]? = some s'->SlOk K H₀ F' H' (σ.getD j none) s') : Sat K G H₀ L F' H' σ' (ss.set i s):=by
 refine ⟨ex,fl,by rw [Zsj,hl,S.len],fun j t ht=>?_,fun j t ht=>?_,fun j k t u hjk ht hu=>?_⟩
 ·rcases zh0 ht with ⟨rfl,rfl,hlt⟩ | ⟨hj,ht⟩
  ·exact hi hlt
  ·rw [hσ j (Zi4 hj)]; exact st j t (Zi4 hj) ht
 ·rcases zh0 ht with ⟨rfl,rfl,_⟩ | ⟨hj,ht⟩
  ·exact nd
  ·exact S.nd j t ht
 ·rcases zh0 ht with ⟨rfl,rfl,_⟩ | ⟨hj,ht'⟩
  ·rcases zh0 hu with ⟨rfl,rfl,_⟩ | ⟨hk,hu'⟩
   ·exact absurd rfl hjk
   ·exact dj k u (Zi4 hk) hu'
  ·rcases zh0 hu with ⟨rfl,rfl,_⟩ | ⟨hk,hu'⟩
   ·exact fun p hp hp'=>dj j t (Zi4 hj) ht' p hp' hp
   ·exact S.ne j k t u hjk ht' hu'
theorem Sat.setD (S : Sat K G H₀ L F H σ ss) {i : Nat} {x : D} {v : V} (r : Rep K F x v) : Sat K G H₀ L F H (σ.set i (some v)) (ss.set i (.d x)) :=
 S.put S.ext S.fl (by simp) (fun j hj=>zd2 (Zi4 hj)) (fun hi=>by rw [zcv (by rw [S.len]; exact hi)]; exact ⟨v,rfl,r⟩) (by simp [Sl.ads]) (fun _ _ _ _ p hp=>by simp [Sl.ads] at hp) fun j s' _ h=>S.ok j s' h
theorem Sat.setO (S : Sat K G H₀ L F H σ ss) {i : Nat} {xs : List D} {p : Addr} (r : OwnL K H₀ F H p xs) (hne : ∀ (j : Nat) s',j≠i->ss[j]? = some s'->p ∉ s'.ads) : Sat K G H₀ L F H (σ.set i (some (.ref p))) (ss.set i (.o p xs)) :=
 S.put S.ext S.fl (by simp) (fun j hj=>zd2 (Zi4 hj)) (fun hi=>by rw [zcv (by rw [S.len]; exact hi)]; exact ⟨rfl,r⟩) (by simp [Sl.ads]) (fun j s' hj h q hq=>by simp [Sl.ads] at hq; subst hq; exact hne j s' hj h) fun j s' _ h=>S.ok j s' h
theorem Sat.write (S : Sat K G H₀ L F H σ ss) {i : Nat} {xs ys : List D} {p : Addr} {vs : List V} (hs : ss[i]? = some (.o p xs)) (r : Reps K F ys vs) : Sat K G H₀ L F (upd H p (.lst vs)) σ (ss.set i (.o p ys)):=by
 obtain ⟨e,h0,fp,ws,hp,_⟩:=S.getO hs
 have hget : σ.getD i none = some (.ref p):=by rw [Zhh,e]; rfl
 refine S.put (S.ext.write fp h0) S.fl rfl (fun _ _=>rfl) (fun _=>by rw [hget]; exact ⟨rfl,h0,fp,vs,zap,r⟩) (by simp [Sl.ads]) (fun j s' hj h q hq=>?_) fun j s' hj h=>(S.ok j s' h).updNe (S.ne i j _ s' (Zi4 hj) hs h p (by simp [Sl.ads]))
 simp [Sl.ads] at hq; subst hq
 exact S.ne i j _ s' (Zi4 hj) hs h q (by simp [Sl.ads])
theorem Sat.freeze (S : Sat K G H₀ L F H σ ss) {i : Nat} {p : Addr} {xs : List D} (hs : ss[i]? = some (.o p xs)) : ∃ F',Sat K G H₀ L F' H σ (ss.set i (.d (.lst xs))):=by
 obtain ⟨e,h0,fp,vs,hp,r⟩:=S.getO hs
 have hget : σ.getD i none = some (.ref p):=by rw [Zhh,e]; rfl
 exact ⟨upd F p (.lst vs),S.put (S.ext.freeze fp h0 hp) (S.fl.trans (Same.upd fp)) rfl (fun _ _=>rfl) (fun _=>by rw [hget]; exact ⟨_,rfl,Rep.lst (SqL.of zap) (r.mono (Same.upd fp))⟩) (by simp [Sl.ads]) (fun _ _ _ _ q hq=>by simp [Sl.ads] at hq)
  fun j s' hj h=>(S.ok j s' h).frz fp (S.ne i j _ s' (Zi4 hj) hs h p (by simp [Sl.ads]))⟩
theorem Sat.raise (S : Sat K G H₀ L F H σ ss) : Sat K G H₀ F F H σ ss:=⟨S.ext,Same.refl _,S.len,S.ok,S.nd,S.ne⟩
theorem Sat.lower {L' : Hp} (S : Sat K G H₀ L' F H σ ss) (h : Same L L') : Sat K G H₀ L F H σ ss:=⟨S.ext,h.trans S.fl,S.len,S.ok,S.nd,S.ne⟩
end
section
variable (K : Zhi) (G H₀ L : Hp) (ss : List Sl)
noncomputable def Ev (t : TE) (d : D) : Prop:=∀ F H σ Q,Sat K G H₀ L F H σ ss->(∀ v F' H',Ext F H F' H'->Rep K F' d v->Q v H')->t σ H Q
noncomputable def EvO (t : TE) (ds : List D) : Prop:=∀ F H σ Q,Sat K G H₀ L F H σ ss->(∀ p vs F' H',Ext F H F' H'->H p = none->F' p = none->H' p = some (.lst vs)->Reps K F' ds vs->Q (.ref p) H')->t σ H Q
noncomputable def EvL (t : TE) (ds : List D) : Prop:=∀ F H σ Q,Sat K G H₀ L F H σ ss->(∀ p vs F' H',Ext F H F' H'->SqL K H' p vs->Reps K F' ds vs->Q (.ref p) H')->t σ H Q
noncomputable def EvB (t : TE) (d : D) : Prop:=∀ F H σ Q,Sat K G H₀ L F H σ ss->(∀ v F' H',Ext F H F' H'->Rep K H' d v->Q v H')->t σ H Q
noncomputable def EvT (t : TT) (b : Bool) : Prop:=∀ F H σ (Q : Bool->Hp->Prop),Sat K G H₀ L F H σ ss->(∀ F' H',Ext F H F' H'->Q b H')->t σ H Q
noncomputable def EvA (t : TA) (ds : List D) : Prop:=∀ F H σ (Q : List V->Hp->Prop),Sat K G H₀ L F H σ ss->(∀ vs F' H',Ext F H F' H'->Reps K H' ds vs->Q vs H')->t σ H Q
noncomputable def EvAF (t : TA) (ds : List D) : Prop:=∀ F H σ (Q : List V->Hp->Prop),Sat K G H₀ L F H σ ss->(∀ vs F' H',Ext F H F' H'->Reps K F' ds vs->Q vs H')->t σ H Q
end
section
variable {K : Zhi} {G H₀ L : Hp} {ss : List Sl} {t ta tb : TE} {d d1 d2 : D} {ds es : List D}
theorem EvO.ev (h : EvO K G H₀ L ss t ds) : Ev K G H₀ L ss t (.lst ds):=fun F H σ Q S q=>h F H σ Q S fun p vs F' H' e hp fp hp' r=>q _ _ _ (e.freeze fp hp hp') (Rep.lst (SqL.of zap) (r.mono (Same.upd fp)))
theorem EvO.l (h : EvO K G H₀ L ss t ds) : EvL K G H₀ L ss t ds:=fun F H σ Q S q=>h F H σ Q S fun p vs F' H' e hp fp hp' r=>q _ _ _ _ e (SqL.of hp') r
theorem Ev.l (h : Ev K G H₀ L ss t (.lst ds)) : EvL K G H₀ L ss t ds:=fun F H σ Q S q=>h F H σ Q S fun v F' H' e r=>by
 obtain ⟨p,xs,rfl,sq,rs⟩:=r.of_lst
 exact q _ _ _ _ e (SqL.same e.fh sq) rs
theorem Ev.b (h : Ev K G H₀ L ss t d) : EvB K G H₀ L ss t d:=fun F H σ Q S q=>h F H σ Q S fun v F' H' e r=>q _ _ _ e (r.mono e.fh)
theorem EvL.b (h : EvL K G H₀ L ss t ds) : EvB K G H₀ L ss t (.lst ds):=fun F H σ Q S q=>h F H σ Q S fun p vs F' H' e sq r=>q _ _ _ e (Rep.lst sq (r.mono e.fh))
theorem zaa {i : Nat} (hs : ss[i]? = some (.d d)) : Ev K G H₀ L ss (tVar i) d:=fun F H σ Q S q=>by
 obtain ⟨v,e,r⟩:=S.getD hs
 exact ⟨v,e,q _ _ _ (Ext.refl S.ext.fh) r⟩
theorem zlj {i : Nat} {p : Addr} (hs : ss[i]? = some (.o p ds)) : EvL K G H₀ L ss (tVar i) ds:=fun F H σ Q S q=>by
 obtain ⟨e,h0,fp,vs,hp,r⟩:=S.getO hs
 exact ⟨.ref p,e,q _ _ _ _ (Ext.refl S.ext.fh) (SqL.of hp) r⟩
theorem zai {i : Int} : Ev K G H₀ L ss (tC (.int i)) (.int i):=fun F H σ Q S q=>q _ _ _ (Ext.refl S.ext.fh) Rep.int
theorem zgl {b : Bool} : Ev K G H₀ L ss (tC (.bl b)) (.bl b):=fun F H σ Q S q=>q _ _ _ (Ext.refl S.ext.fh) Rep.bl
theorem zcm {x : Str} {l : List Nat} (h : x = T l) (ha : ∀ c∈l,c < 128) : Ev K G H₀ L ss (tC (.str x)) (.str l):=fun F H σ Q S q=>by subst h; exact q _ _ _ (Ext.refl S.ext.fh) (Rep.str ha)
theorem zgm {r : R2} {w : V} (a : EvB K G H₀ L ss ta d1) (b : EvB K G H₀ L ss tb d2) (hr : ∀ H x y (Q : VK),Rep K H d1 x->Rep K H d2 y->Q w H->r x y H Q) (hw : ∀ F H x y,Rep K H d1 x->Rep K H d2 y->Rep K F d w) : Ev K G H₀ L ss (tOp r ta tb) d:=fun F H σ Q S q =>
 a F H σ _ S fun x F1 H1 e1 r1=>b F1 H1 σ _ (S.ext2 e1) fun y F2 H2 e2 r2=>hr H2 x y Q (r1.mono e2.hh) r2 (q _ _ _ (e1.trans e2) (hw _ _ _ _ (r1.mono e2.hh) r2))
theorem zcx {i j : Int} (a : EvB K G H₀ L ss ta (.int i)) (b : EvB K G H₀ L ss tb (.int j)) : Ev K G H₀ L ss (tOp (rI0 fun i j=>.int (i + j)) ta tb) (.int (i + j)) :=
 zgm a b (fun H x y Q r1 r2 q=>⟨i,j,r1.of_int,r2.of_int,q⟩) fun _ _ _ _ _ _=>Rep.int
theorem zwp {i j : Int} (a : EvB K G H₀ L ss ta (.int i)) (b : EvB K G H₀ L ss tb (.int j)) : Ev K G H₀ L ss (tOp (rI0 fun i j=>.int (i - j)) ta tb) (.int (i - j)) :=
 zgm a b (fun H x y Q r1 r2 q=>⟨i,j,r1.of_int,r2.of_int,q⟩) fun _ _ _ _ _ _=>Rep.int
theorem zrs {C : Int->Int->Prop} {g : Int->Int->Int} {i j : Int} (a : EvB K G H₀ L ss ta (.int i)) (b : EvB K G H₀ L ss tb (.int j)) (hC : C i j) : Ev K G H₀ L ss (tOp (rI C fun i j=>.int (g i j)) ta tb) (.int (g i j)) :=
 zgm a b (fun H x y Q r1 r2 q=>⟨i,j,r1.of_int,r2.of_int,hC,q⟩) fun _ _ _ _ _ _=>Rep.int
theorem zlr {g : Int->Int->Bool} {i j : Int} (a : EvB K G H₀ L ss ta (.int i)) (b : EvB K G H₀ L ss tb (.int j)) : Ev K G H₀ L ss (tOp (rI0 fun i j=>.bl (g i j)) ta tb) (.bl (g i j)) :=
 zgm a b (fun H x y Q r1 r2 q=>⟨i,j,r1.of_int,r2.of_int,q⟩) fun _ _ _ _ _ _=>Rep.bl
theorem zb7 {i j : Int} (a : EvB K G H₀ L ss ta (.int i)) (b : EvB K G H₀ L ss tb (.int j)) : Ev K G H₀ L ss (tOp rEq ta tb) (.bl (decide (i = j))) :=
 zgm (w:=.bl (decide (i = j))) a b (fun H x y Q r1 r2 q=>by rw [r1.of_int,r2.of_int]; exact ⟨rfl,by simpa using q⟩) fun _ _ _ _ _ _=>Rep.bl
theorem zzj {i j : Int} (a : EvB K G H₀ L ss ta (.int i)) (b : EvB K G H₀ L ss tb (.int j)) : Ev K G H₀ L ss (tOp rNe ta tb) (.bl (!decide (i = j))) :=
 zgm (w:=.bl (!decide (i = j))) a b (fun H x y Q r1 r2 q=>by rw [r1.of_int,r2.of_int]; exact ⟨rfl,by simpa using q⟩) fun _ _ _ _ _ _=>Rep.bl
theorem zeo {l m : List Nat} (a : EvB K G H₀ L ss ta (.str l)) (b : EvB K G H₀ L ss tb (.str m)) : Ev K G H₀ L ss (tOp rEq ta tb) (.bl (decide (l = m))) :=
 zgm (w:=.bl (decide (l = m))) a b (fun H x y Q r1 r2 q=>by rw [r1.of_str,r2.of_str]; exact ⟨rfl,by rw [zx8]; exact q⟩) fun _ _ _ _ _ _=>Rep.bl
theorem yd8 {l m : Bool} (a : EvB K G H₀ L ss ta (.bl l)) (b : EvB K G H₀ L ss tb (.bl m)) : Ev K G H₀ L ss (tOp rEq ta tb) (.bl (decide (l = m))) :=
 zgm (w:=.bl (decide (l = m))) a b (fun H x y Q r1 r2 q=>by rw [r1.of_bl,r2.of_bl]; exact ⟨rfl,by simpa using q⟩) fun _ _ _ _ _ _=>Rep.bl
theorem zot {l m : Bool} (a : EvB K G H₀ L ss ta (.bl l)) (b : EvB K G H₀ L ss tb (.bl m)) : Ev K G H₀ L ss (tOp rNe ta tb) (.bl (!decide (l = m))) :=
 zgm (w:=.bl (!decide (l = m))) a b (fun H x y Q r1 r2 q=>by rw [r1.of_bl,r2.of_bl]; exact ⟨rfl,by simpa using q⟩) fun _ _ _ _ _ _=>Rep.bl
theorem Reps.atI {H : Hp} {ds : List D} {vs : List V} {i : Int} {d : D} (r : Reps K H ds vs) (h : L2.atI ds i = some d) : ∃ v,L2.atI vs i = some v/\Rep K H d v:=by
 unfold L2.atI at h ⊢
 rw [r.length] at h
 cases hx : ixN vs.length i with
 | none=>rw [hx] at h; cases h
 | some j=>rw [hx] at h; exact r.get' h
theorem zep {i : Int} (a : EvL K G H₀ L ss ta ds) (b : EvB K G H₀ L ss tb (.int i)) (hc : atI ds i = some d) : Ev K G H₀ L ss (tOp (rIxL K) ta tb) d:=fun F H σ Q S q =>
 a F H σ _ S fun p vs F1 H1 e1 sq r1=>b F1 H1 σ _ (S.ext2 e1) fun y F2 H2 e2 r2=>by
  obtain ⟨v,hv,rv⟩:=r1.atI hc
  exact ⟨p,vs,i,v,rfl,r2.of_int,SqL.same e2.hh sq,hv,q _ _ _ (e1.trans e2) (rv.mono e2.gf)⟩
theorem za6 {i : Int} (a : Ev K G H₀ L ss ta (.tup ds)) (b : EvB K G H₀ L ss tb (.int i)) (hc : atI ds i = some d) : Ev K G H₀ L ss (tOp (rIxT K) ta tb) d:=fun F H σ Q S q =>
 a F H σ _ S fun x F1 H1 e1 r1=>b F1 H1 σ _ (S.ext2 e1) fun y F2 H2 e2 r2=>by
  obtain ⟨p,vs,rfl,sq,rs⟩:=r1.of_tup
  obtain ⟨v,hv,rv⟩:=rs.atI hc
  exact ⟨p,vs,i,v,rfl,r2.of_int,SqT.same (e1.fh.trans e2.hh) sq,hv,q _ _ _ (e1.trans e2) (rv.mono e2.gf)⟩
theorem zhp : EvA K G H₀ L ss tNil []:=fun F H σ Q S q=>q _ _ _ (Ext.refl S.ext.fh) Reps.nil
theorem zd7 {t : TA} (a : EvB K G H₀ L ss ta d) (b : EvA K G H₀ L ss t ds) : EvA K G H₀ L ss (za5 ta t) (d::ds):=fun F H σ Q S q =>
 a F H σ _ S fun x F1 H1 e1 r1=>b F1 H1 σ _ (S.ext2 e1) fun vs F2 H2 e2 r2=>q _ _ _ (e1.trans e2) (Reps.cons (r1.mono e2.hh) r2)
theorem zaf : EvAF K G H₀ L ss tNil []:=fun F H σ Q S q=>q _ _ _ (Ext.refl S.ext.fh) Reps.nil
theorem zac {t : TA} (a : Ev K G H₀ L ss ta d) (b : EvAF K G H₀ L ss t ds) : EvAF K G H₀ L ss (za5 ta t) (d::ds):=fun F H σ Q S q =>
 a F H σ _ S fun x F1 H1 e1 r1=>b F1 H1 σ _ (S.ext2 e1) fun vs F2 H2 e2 r2=>q _ _ _ (e1.trans e2) (Reps.cons (r1.mono e2.gf) r2)
theorem zbk {t : TA} (a : EvAF K G H₀ L ss t ds) (hz : ds.length <= sizeLine) : Ev K G H₀ L ss (tTup t) (.tup ds):=fun F H σ Q S q =>
 a F H σ _ S fun vs F1 H1 e1 r1=>⟨by rw [<- r1.length]; exact hz,fun p hp=>q _ _ _ (e1.newF hp) (Rep.tupN (zap) (r1.mono (Same.upd (e1.fh.free hp))))⟩
theorem zbe {t : TA} (a : EvAF K G H₀ L ss t ds) (hz : ds.length <= sizeLine) : EvO K G H₀ L ss (tLst t) ds:=fun F H σ Q S q =>
 a F H σ _ S fun vs F1 H1 e1 r1=>⟨by rw [<- r1.length]; exact hz,fun p hp=>q p vs F1 _ (e1.newO hp) (e1.hh.free hp) (e1.fh.free hp) zap r1⟩
theorem zal {b : Bool} (a : Ev K G H₀ L ss t (.bl b)) : EvT K G H₀ L ss (yda t) b:=fun F H σ Q S q=>a F H σ _ S fun v F' H' e r=>⟨b,r.of_bl,q _ _ e⟩
theorem zki {b : Bool} (a : Ev K G H₀ L ss t (.bl b)) : EvT K G H₀ L ss (tB t) b:=fun F H σ Q S q=>a F H σ _ S fun v F' H' e r=>⟨b,r.of_bl,q _ _ e⟩
theorem zft {u : TT} {b : Bool} (a : EvT K G H₀ L ss u b) : EvT K G H₀ L ss (tNot u) (!b):=fun F H σ Q S q=>a F H σ _ S fun F' H' e=>q _ _ e
theorem zgt {u v : TT} {b c : Bool} (a : EvT K G H₀ L ss u b) (h : b = true->EvT K G H₀ L ss v c) : EvT K G H₀ L ss (tAnd u v) (b && c):=fun F H σ Q S q=>a F H σ _ S fun F' H' e=>by
 cases b with
 | false=>exact iteF (q _ _ e)
 | true=>exact iteT (h rfl _ _ _ _ (S.ext2 e) fun F'' H'' e'=>q _ _ (e.trans e'))
theorem zg8 {u v : TT} {b c : Bool} (a : EvT K G H₀ L ss u b) (h : b = false->EvT K G H₀ L ss v c) : EvT K G H₀ L ss (tOr u v) (b || c):=fun F H σ Q S q=>a F H σ _ S fun F' H' e=>by
 cases b with
 | true=>exact iteT (q _ _ e)
 | false=>exact iteF (h rfl _ _ _ _ (S.ext2 e) fun F'' H'' e'=>q _ _ (e.trans e'))
theorem zg7 {b c : Bool} (a : Ev K G H₀ L ss ta (.bl b)) (h : b = true->Ev K G H₀ L ss tb (.bl c)) : Ev K G H₀ L ss (ydi ta tb) (.bl (b && c)):=fun F H σ Q S q=>a F H σ _ S fun v F' H' e r=>by
 refine ⟨b,r.of_bl,?_⟩
 cases b with
 | false=>exact iteF (q _ _ _ e Rep.bl)
 | true=>exact iteT (h rfl _ _ _ _ (S.ext2 e) fun v F'' H'' e' r'=>q _ _ _ (e.trans e') r')
theorem yal {b c : Bool} (a : Ev K G H₀ L ss ta (.bl b)) (h : b = false->Ev K G H₀ L ss tb (.bl c)) : Ev K G H₀ L ss (tOrV ta tb) (.bl (b || c)):=fun F H σ Q S q=>a F H σ _ S fun v F' H' e r=>by
 refine ⟨b,r.of_bl,?_⟩
 cases b with
 | true=>exact iteT (q _ _ _ e Rep.bl)
 | false=>exact iteF (h rfl _ _ _ _ (S.ext2 e) fun v F'' H'' e' r'=>q _ _ _ (e.trans e') r')
theorem yd4 {b : Bool} (a : Ev K G H₀ L ss ta (.bl b)) : Ev K G H₀ L ss (ycf ta) (.bl (!b)):=fun F H σ Q S q=>a F H σ _ S fun v F' H' e r=>⟨b,r.of_bl,q _ _ _ e Rep.bl⟩
theorem ydo {u : TT} {b : Bool} (a : EvT K G H₀ L ss u b) (h1 : b = true->Ev K G H₀ L ss ta d) (h2 : b = false->Ev K G H₀ L ss tb d) : Ev K G H₀ L ss (tIf u ta tb) d:=fun F H σ Q S q=>a F H σ _ S fun F' H' e=>by
 cases b with
 | true=>exact iteT (h1 rfl _ _ _ _ (S.ext2 e) fun v F'' H'' e' r'=>q _ _ _ (e.trans e') r')
 | false=>exact iteF (h2 rfl _ _ _ _ (S.ext2 e) fun v F'' H'' e' r'=>q _ _ _ (e.trans e') r')
end
noncomputable def SpD (K : Zhi) (pre : List D->Prop) (res : List D->D) : Sp:=fun vs H Q _=>∃ G ds,Same G H/\Reps K G ds vs/\pre ds /\ ∀ v G' H',Ext G H G' H'->Rep K G' (res ds) v->Q v H'
noncomputable def SpO (K : Zhi) (pre : List D->Prop) (res : List D->List D) : Sp:=fun vs H Q _=>∃ G ds,Same G H/\Reps K G ds vs/\pre ds /\ ∀ p ws G' H',Ext G H G' H'->H p = none->G' p = none->H' p = some (.lst ws)->Reps K G' (res ds) ws->Q (.ref p) H'
noncomputable def D.flat : D->Bool
 | .lst _=>false | .tup _=>false | .dct _ _=>false | .dctT _ _=>false | .ins _ _ _=>false | _=>true
theorem Rep.flat {K : Zhi} {H H' : Hp} {d : D} {v : V} (f : d.flat = true) (r : Rep K H d v) : Rep K H' d v:=by
 cases d with
 | lst _=>cases f
 | tup _=>cases f
 | dct _ _=>cases f
 | dctT _ _=>cases f
 | ins _ _ _=>cases f
 | non=>rw [r.of_non]; exact Rep.non
 | bl b=>rw [r.of_bl]; exact Rep.bl
 | int i=>rw [r.of_int]; exact Rep.int
 | str l=>rw [r.of_str]; exact Rep.str r.asc
section
variable {K : Zhi} {G H₀ L : Hp} {ss : List Sl} {t : TA} {ds : List D} {pre : List D->Prop} {E : XK}
theorem zb4 {res : List D->D} (a : EvAF K G H₀ L ss t ds) (hp : pre ds) : Ev K G H₀ L ss (zhd (SpD K pre res) [] E t) (res ds):=fun F H σ Q S q =>
 a F H σ _ S fun vs F1 H1 e1 r1=>⟨F1,ds,e1.fh,by rw [Zjj]; exact r1,hp,fun v G' H' e2 r=>q _ _ _ (e1.trans e2) r⟩
theorem zid {res : List D->List D} (a : EvAF K G H₀ L ss t ds) (hp : pre ds) : EvO K G H₀ L ss (zhd (SpO K pre res) [] E t) (res ds):=fun F H σ Q S q =>
 a F H σ _ S fun vs F1 H1 e1 r1=>⟨F1,ds,e1.fh,by rw [Zjj]; exact r1,hp,fun p ws G' H' e2 h1 h2 h3 r=>q _ _ _ _ (e1.trans e2) (e1.hh.free h1) h2 h3 r⟩
theorem zxk {res : List D->D} (a : EvA K G H₀ L ss t ds) (hp : pre ds) (hf : (res ds).flat = true) : Ev K G H₀ L ss (zhd (SpD K pre res) [] E t) (res ds):=fun F H σ Q S q =>
 a F H σ _ S fun vs F1 H1 e1 r1=>⟨H1,ds,Same.refl _,by rw [Zjj]; exact r1,hp,fun v G' H' e2 r=>q v F1 H' (e1.trans ⟨Same.refl _,e1.fh.trans e2.hh,e2.hh,fun _ _ _ _=>rfl⟩) (r.flat hf)⟩
end
section
variable (K : Zhi) (G H₀ L : Hp)
noncomputable def Nx (P : St->Hp->Prop) (ss : List Sl) : Prop:=∀ F H σ,Sat K G H₀ L F H σ ss->P σ H
noncomputable def Go (E : Ends) (ss : List Sl) (t : TS) : Prop:=∀ F H σ,Sat K G H₀ L F H σ ss->t E σ H
noncomputable def Tg (g : TG) (d : D) (ss ss' : List Sl) : Prop:=∀ F H σ v (Q : St->Hp->Prop),Sat K G H₀ L F H σ ss->Rep K F d v->(∀ σ' , Sat K G H₀ L F H σ' ss'->Q σ' H)->g v σ H Q
noncomputable def Tgs (g : TGs) (ds : List D) (ss ss' : List Sl) : Prop:=∀ F H σ vs (Q : St->Hp->Prop),Sat K G H₀ L F H σ ss->Reps K F ds vs->(∀ σ' , Sat K G H₀ L F H σ' ss'->Q σ' H)->g vs σ H Q
noncomputable def At (I : List Sl->Prop) : St->Hp->Prop:=fun σ H=>∃ ss F,Sat K G H₀ L F H σ ss/\I ss
end
noncomputable def RtD (K : Zhi) (G H₀ : Hp) (rt : VK) (d : D) : Prop:=∀ v F H,Ext G H₀ F H->Rep K F d v->rt v H
noncomputable def RtO (K : Zhi) (G H₀ : Hp) (rt : VK) (ds : List D) : Prop:=∀ p vs F H,Ext G H₀ F H->H₀ p = none->F p = none->H p = some (.lst vs)->Reps K F ds vs->rt (.ref p) H
section
variable {K : Zhi} {G H₀ L : Hp} {ss ss' : List Sl} {E : Ends} {t u : TS} {te : TE} {d : D} {ds : List D} {P : St->Hp->Prop}
theorem zak (h : Go K G H₀ L { E with nx:=u E } ss t) : Go K G H₀ L E ss (tSeq t u):=h
theorem zay {i : Nat} (a : Ev K G H₀ L ss te d) (h : Nx K G H₀ L E.nx (ss.set i (.d d))) : Go K G H₀ L E ss (tAsg te (zhv i)):=fun F H σ S=>a F H σ _ S fun v F' H' e r=>h F' H' _ ((S.ext2 e).setD r)
theorem Sat.notin {F H : Hp} {σ : St} {p : Addr} (S : Sat K G H₀ L F H σ ss) (hp : H p = none) (j : Nat) (s : Sl) (h : ss[j]? = some s) : p ∉ s.ads:=fun z=>(S.ok j s h).live z hp
theorem Sat.newO {F H F' H' : Hp} {σ : St} {p : Addr} {vs : List V} {i : Nat} (S : Sat K G H₀ L F H σ ss) (e : Ext F H F' H') (hp : H p = none) (fp : F' p = none) (hp' : H' p = some (.lst vs)) (r : Reps K F' ds vs) : Sat K G H₀ L F' H' (σ.set i (some (.ref p))) (ss.set i (.o p ds)) :=
 (S.ext2 e).setO ⟨S.ext.hh.free hp,fp,vs,hp',r⟩ fun j s _ h=>S.notin hp j s h
theorem zdz {i : Nat} (a : EvO K G H₀ L ss te ds) (h : ∀ p,Nx K G H₀ L E.nx (ss.set i (.o p ds))) : Go K G H₀ L E ss (tAsg te (zhv i)):=fun F H σ S=>a F H σ _ S fun p vs F' H' e hp fp hp' r=>h p F' H' _ (S.newO e hp fp hp' r)
theorem zze {g : TG} (a : Ev K G H₀ L ss te d) (hg : Tg K G H₀ L g d ss ss') (h : Nx K G H₀ L E.nx ss') : Go K G H₀ L E ss (tAsg te g):=fun F H σ S=>a F H σ _ S fun v F' H' e r=>hg F' H' σ v _ (S.ext2 e) r fun σ' S'=>h F' H' σ' S'
theorem za7 {c : TT} {b : Bool} (a : EvT K G H₀ L ss c b) (h1 : b = true->Go K G H₀ L E ss t) (h2 : b = false->Go K G H₀ L E ss u) : Go K G H₀ L E ss (tIfS c t u):=fun F H σ S=>a F H σ _ S fun F' H' e=>by
 cases b with
 | true=>exact iteT (h1 rfl F' H' σ (S.ext2 e))
 | false=>exact iteF (h2 rfl F' H' σ (S.ext2 e))
theorem za0 (h : Nx K G H₀ L E.nx ss) : Go K G H₀ L E ss ydl:=h
theorem zaw (a : Ev K G H₀ L ss te d) (h : RtD K G H₀ E.rt d) : Go K G H₀ L E ss (tRet te):=fun F H σ S=>a F H σ _ S fun v F' H' e r=>h v F' H' (S.ext.trans e) r
theorem zju (a : EvO K G H₀ L ss te ds) (h : RtO K G H₀ E.rt ds) : Go K G H₀ L E ss (tRet te):=fun F H σ S=>a F H σ _ S fun p vs F' H' e hp fp hp' r=>h p vs F' H' (S.ext.trans e) (S.ext.hh.free hp) fp hp' r
theorem zt3 {i : Nat} {p : Addr} (hs : ss[i]? = some (.o p ds)) (h : RtO K G H₀ E.rt ds) : Go K G H₀ L E ss (tRet (tVar i)):=fun F H σ S=>by
 obtain ⟨e,h0,fp,vs,hp,r⟩:=S.getO hs
 exact ⟨.ref p,e,h p vs F H S.ext h0 fp hp r⟩
theorem zei {i : Nat} {p : Addr} (hs : ss[i]? = some (.o p ds)) (h : Nx K G H₀ L P (ss.set i (.d (.lst ds)))) : Nx K G H₀ L P ss:=fun F H σ S=>by
 obtain ⟨F',S'⟩:=S.freeze hs
 exact h F' H σ S'
theorem zam (h : Go K G H₀ L E ss t) : Nx K G H₀ L (t E) ss:=h
theorem zsx {I : List Sl->Prop} (h : I ss) : Nx K G H₀ L (At K G H₀ L I) ss:=fun F H σ S=>⟨ss,F,S,h⟩
theorem zp0 (I : List Sl->Prop) (h1 : ∀ N : St->Hp->Prop,(∀ ss,I ss->Nx K G H₀ L N ss)->Go K G H₀ L { E with nx:=N } ss t) (h2 : ∀ ss,I ss->Go K G H₀ L E ss u) : Go K G H₀ L E ss (tSeq t u):=h1 _ h2
theorem zan {i : Nat} : Tg K G H₀ L (zhv i) d ss (ss.set i (.d d)):=fun F H σ v Q S r q=>q _ (S.setD r)
theorem zbt : Tgs K G H₀ L gNil [] ss ss:=fun F H σ vs Q S r q=>by
 rw [Reps] at r
 exact ⟨r,q _ S⟩
theorem zar {g : TG} {gs : TGs} {ss1 ss2 : List Sl} (a : Tg K G H₀ L g d ss ss1) (b : Tgs K G H₀ L gs ds ss1 ss2) : Tgs K G H₀ L (ybl g gs) (d::ds) ss ss2:=fun F H σ vs Q S r q=>by
 rw [Reps] at r
 obtain ⟨x,xs,rfl,r1,r2⟩:=r
 exact ⟨x,xs,rfl,a F H σ x _ S r1 fun σ' S'=>b F H σ' xs _ S' r2 q⟩
theorem zcu {g : TGs} {n : Nat} (hn : ds.length = n) (a : Tgs K G H₀ L g ds ss ss') : Tg K G H₀ L (gTup K n g) (.tup ds) ss ss':=fun F H σ v Q S r q=>by
 obtain ⟨p,xs,rfl,sq,rs⟩:=r.of_tup
 exact ⟨p,xs,rfl,SqT.same S.ext.fh sq,by rw [<- rs.length]; exact hn,a F H σ xs _ S rs q⟩
theorem zc5 {i : Nat} {p : Addr} {t1 : TE} (hs : ss[i]? = some (.o p ds)) (a : Ev K G H₀ L ss t1 d) (hz : ds.length < sizeLine) (h : Nx K G H₀ L E.nx (ss.set i (.o p (ds++[d])))) :
  Go K G H₀ L E ss (yb2 (tBM K "list" zps (tVar i) (za5 t1 tNil))):=fun F H σ S=>by
 obtain ⟨e,h0,fp,vs,hp,r⟩:=S.getO hs
 refine ⟨.ref p,e,.inl ⟨rfl,_,SqL.of hp⟩,a F H σ _ S fun v F' H' e' r'=>?_⟩
 have S':=S.ext2 e'
 obtain ⟨e2,h02,fp2,vs',hp2,r2⟩:=S'.getO hs
 exact ⟨p,vs',v,rfl,rfl,hp2,by rw [<- r2.length]; exact hz,h F' _ σ (S'.write hs (r2.snoc r'))⟩
theorem Rep.itl {F H : Hp} {p : Addr} (h : Same F H) (r : Rep K F (.lst ds) (.ref p)) : ∃ vs,SqL K H p vs/\Reps K F ds vs:=by
 obtain ⟨q,xs,e,sq,rs⟩:=r.of_lst
 cases e
 exact ⟨xs,SqL.same h sq,rs⟩
theorem zdg {tl : TE} {g : TG} {tb : TS} {α : Type} (enc : α->D) (xs : List α) (I : Nat->List Sl->Prop) (a : Ev K G H₀ L ss tl (.lst (xs.map enc))) (h0 : I 0 ss)
  (hs : ∀ L' k x ss,Same L L'->xs[k]? = some x->I k ss -> ∃ ss',Tg K G H₀ L' g (enc x) ss ss' /\ ∀ N,(∀ ss,I (k + 1) ss->Nx K G H₀ L' N ss)->Go K G H₀ L' { E with nx:=N,ct:=N,bk:=E.nx } ss' tb)
  (hd : ∀ ss,I xs.length ss->Nx K G H₀ L E.nx ss) : Go K G H₀ L E ss (tFor (zv3 K tl) g tb):=fun F H σ S =>
 a F H σ _ S fun v F1 H1 e1 r1=>by
  obtain ⟨p,vs,rfl,sq,rs⟩:=r1.of_lst
  refine ⟨p,rfl,⟨vs,SqL.same e1.fh sq⟩,?_⟩
  refine ⟨fun i m σ' H'=>m = xs.length - i/\i <= xs.length/\At K G H₀ F1 (I i) σ' H',⟨_,rfl,Zit _,ss,F1,(S.ext2 e1).raise,h0⟩,?_⟩
  rintro i m σ' H' ⟨rfl,hi,ss1,F2,S2,h2⟩
  have rp : Rep K F2 (.lst (xs.map enc)) (.ref p):=r1.mono S2.fl
  obtain ⟨ws,sq2,rs2⟩:=rp.itl S2.ext.fh
  have hlen : ws.length = xs.length:=by rw [<- rs2.length,Zhk]
  by_cases hlt : i < xs.length
  ·refine .inr ⟨⟨ws,ws[i]'(by lia),sq2,Zhj _⟩,fun σ'' H''=>At K G H₀ F1 (I (i + 1)) σ'' H'',fun σ'' H'' h=>⟨xs.length - (i + 1),by lia,rfl,hlt,h⟩,fun x H'' y=>?_⟩
   obtain ⟨rfl,y⟩:=y
   have hx:=y ws sq2
   obtain ⟨dx,hdx,rx⟩:=rs2.get hx
   rw [Zho,Zhj hlt] at hdx
   cases hdx
   obtain ⟨ss',tg,go⟩:=hs F1 i _ ss1 (S.fl.trans e1.gf) (Zhj hlt) h2
   exact tg F2 _ σ' x _ S2 rx fun σ3 S3=>go _ (fun ss h=>zsx h) F2 _ σ3 S3
  ·have e : i = xs.length:=by lia
   subst e
   exact .inl ⟨⟨ws,sq2,by lia⟩,hd ss1 h2 F2 H' σ' (S2.lower (S.fl.trans e1.gf))⟩
theorem zkz {ta : TA} {j : Nat} {tb : TS} {n : Int} (I : Nat->List Sl->Prop) (a : EvA K G H₀ L ss ta [.int n]) (hb : -(2 ^ 62) <= n/\n < 2 ^ 62) (h0 : I 0 ss)
  (hs : ∀ (k : Nat) ss,(k : Int) < n->I k ss -> ∀ N,(∀ ss,I (k + 1) ss->Nx K G H₀ L N ss)->Go K G H₀ L { E with nx:=N,ct:=N,bk:=E.nx } (ss.set j (.d (.int (k : Int)))) tb)
  (hd : ∀ ss,I n.toNat ss->Nx K G H₀ L E.nx ss) {ti : TI} (hti : ∀ σ H R,(ta σ H fun vs H1=>∃ m : Int,vs = [.int m] /\ -(2 ^ 62) <= m/\m < 2 ^ 62/\R (Itr 0 m.toNat) H1)->ti σ H R) : Go K G H₀ L E ss (tFor ti (zhv j) tb):=fun F H σ S=>by
 refine hti σ H _ (a F H σ _ S fun vs F1 H1 e1 r1=>?_)
 rw [Reps] at r1
 obtain ⟨x,r,rfl,rx,r1⟩:=r1
 rw [Reps] at r1
 subst r1
 rw [rx.of_int]
 refine ⟨n,rfl,hb.1,hb.2,fun i m σ' H'=>m = n.toNat - i/\i <= n.toNat/\At K G H₀ L (I i) σ' H',⟨_,rfl,Zit _,ss,F1,S.ext2 e1,h0⟩,?_⟩
 rintro i m σ' H' ⟨rfl,hi,ss1,F2,S2,h2⟩
 by_cases hlt : i < n.toNat
 ·refine .inr ⟨hlt,fun σ'' H''=>At K G H₀ L (I (i + 1)) σ'' H'',fun σ'' H'' h=>⟨n.toNat - (i + 1),by lia,rfl,hlt,h⟩,fun x H'' y=>?_⟩
  obtain ⟨rfl,rfl⟩:=y
  refine hs i ss1 (by omega) h2 _ (fun ss h=>zsx h) F2 _ _ ?_
  have e : (0 : Int) + (i : Int) = (i : Int):=by lia
  rw [e]
  exact S2.setD Rep.int
 ·have e : i = n.toNat:=by lia
  subst e
  exact .inl ⟨Zhu _,hd ss1 h2 F2 H' σ' S2⟩
end
mutual
noncomputable def D.toP : D->Zks
 | .non=>.none
 | .bl b=>.bool b
 | .int i=>.int i
 | .str l=>.str (T l)
 | .lst a=>.list (D.toPs a)
 | .tup a=>.tuple (D.toPs a)
 | .dct _ _=>.none
 | .dctT _ _=>.none
 | .ins _ _ _=>.none
noncomputable def D.toPs : List D->List Zks
 | []=>[]
 | a::x=>a.toP::D.toPs x
end
mutual
theorem D.toP_depth : ∀ d : D,d.toP.depth = d.dep
 | .non=>rfl
 | .bl _=>rfl
 | .int _=>rfl
 | .str _=>rfl
 | .lst a=>by simp [D.toP,Zsq,D.dep,D.toPs_depth a]
 | .tup a=>by simp [D.toP,Zsq,D.dep,D.toPs_depth a]
 | .dct _ _=>rfl
 | .dctT _ _=>rfl
 | .ins _ _ _=>rfl
theorem D.toPs_depth : ∀ a : List D,Zrx (D.toPs a) = D.deps a
 | []=>rfl
 | d::a=>by simp [D.toPs,Zrx,D.deps,D.toP_depth d,D.toPs_depth a]
end
mutual
theorem D.eqv : ∀ d e : D,d.nb = true->e.nb = true->Zlc d.toP e.toP = decide (d = e)
 | .non,e,_,h2=>by cases e <;> simp [D.toP,Zlc,D.nb] at h2 ⊢
 | .bl _,_,h1,_=>by simp [D.nb] at h1
 | .dct _ _,_,h1,_=>by simp [D.nb] at h1
 | .dctT _ _,_,h1,_=>by simp [D.nb] at h1
 | .ins _ _ _,_,h1,_=>by simp [D.nb] at h1
 | .int i,e,_,h2=>by
  cases e <;> simp [D.toP,Zlc,D.nb] at h2 ⊢
  exact Bool.beq_eq_decide_eq _ _
 | .str l,e,_,h2=>by
  cases e <;> simp [D.toP,Zlc,D.nb] at h2 ⊢
  rename_i m
  rw [Zil]; simp [zuf]
 | .lst a,e,h1,h2=>by
  cases e with
  | lst b =>
   simp only [D.nb] at h1 h2
   simp only [D.toP,Zlc,D.lst.injEq]
   exact D.eqvs a b h1 h2
  | _=>simp [D.toP,Zlc,D.nb] at h2 ⊢
 | .tup a,e,h1,h2=>by
  cases e with
  | tup b =>
   simp only [D.nb] at h1 h2
   simp only [D.toP,Zlc,D.tup.injEq]
   exact D.eqvs a b h1 h2
  | _=>simp [D.toP,Zlc,D.nb] at h2 ⊢
theorem D.eqvs : ∀ a b : List D,D.nbs a = true->D.nbs b = true->Zn5 (D.toPs a) (D.toPs b) = decide (a = b)
 | [],b,_,_=>by cases b <;> simp [D.toPs,Zn5]
 | d::a,b,h1,h2=>by
  cases b with
  | nil=>simp [D.toPs,Zn5]
  | cons e b =>
   simp only [D.nbs,Zib] at h1 h2
   simp only [D.toPs,Zn5,D.eqv d e h1.1 h2.1,D.eqvs a b h1.2 h2.2,Zoq]
   by_cases x : d = e <;> by_cases y : a = b <;> simp [x,y]
end
section
variable {X : Cx} {pins : List (Addr × Obj)} {σ : St} {H : Hp} {s : Zhq}
theorem yaw {l : List Nat} (h : ∀ c∈l,c < 128) : Zsp (T l) = true:=by
 unfold Zsp T
 simp
 intro c hc
 have:=h c hc
 lia
mutual
theorem Inv.reads (I : Inv X pins σ H s) : ∀ {d : D} {v : V} {u : Value},d.nb = true->Rep X.K H d v->RelV v u->(∃ as,Zvo s.heap u d.toP as)/\d.toP.canLay0 = true
 | .non,_,_,_,r,q=>by rw [r.of_non] at q; cases q; exact ⟨⟨_,Reads.none⟩,rfl⟩
 | .bl b,_,_,n,_,_=>by simp [D.nb] at n
 | .dct _ _,_,_,n,_,_=>by simp [D.nb] at n
 | .dctT _ _,_,_,n,_,_=>by simp [D.nb] at n
 | .ins _ _ _,_,_,n,_,_=>by simp [D.nb] at n
 | .int i,_,_,_,r,q=>by rw [r.of_int] at q; obtain ⟨t,rfl⟩:=q; exact ⟨⟨_,Reads.int i t⟩,rfl⟩
 | .str l,_,_,_,r,q=>by
  have ha:=r.asc
  rw [r.of_str] at q; obtain ⟨t,rfl⟩:=q
  exact ⟨⟨_,Reads.str _ t⟩,yaw ha⟩
 | .lst ds,_,_,nn,r,q=>by
  obtain ⟨p,xs,rfl,sq,rs⟩:=r.of_lst
  cases q
  obtain ⟨its,rv,⟨o,n,e,c,_,hd⟩,_⟩:=I.list sq
  obtain ⟨⟨as,ra⟩,hc⟩:=I.readsAll (by simpa [D.nb] using nn) rs rv
  exact ⟨⟨_,Reads.list e c hd (by simpa using ra)⟩,by simpa [D.toP,Zl2] using hc⟩
 | .tup ds,_,_,nn,r,q=>by
  obtain ⟨p,xs,rfl,sq,rs⟩:=r.of_tup
  cases q
  obtain ⟨its,rv,⟨o,e,c,n,hd⟩,_⟩:=I.tuple sq
  obtain ⟨⟨as,ra⟩,hc⟩:=I.readsAll (by simpa [D.nb] using nn) rs rv
  exact ⟨⟨_,Reads.tuple e c hd (by simpa using ra)⟩,by simpa [D.toP,Zl2] using hc⟩
theorem Inv.readsAll (I : Inv X pins σ H s) : ∀ {ds : List D} {vs : List V} {us : List Value},D.nbs ds = true->Reps X.K H ds vs->Vals vs us->(∃ as,Zvn s.heap us (D.toPs ds) as)/\Zrd (D.toPs ds) = true
 | [],_,_,_,r,q=>by
  rw [Reps] at r; subst r
  cases q
  exact ⟨⟨_,ReadsAll.nil⟩,rfl⟩
 | d::ds,_,_,n,r,q=>by
  simp only [D.nbs,Zib] at n
  rw [Reps] at r
  obtain ⟨x,xs,rfl,r1,r2⟩:=r
  cases q with
  | cons q1 q2 =>
   obtain ⟨⟨as,a⟩,hc⟩:=I.reads n.1 r1 q1
   obtain ⟨⟨bs,b⟩,hc2⟩:=I.readsAll n.2 r2 q2
   exact ⟨⟨_,ReadsAll.cons a b⟩,by simp [D.toPs,Zrd,hc,hc2]⟩
end
end
noncomputable def rEqD (K : Zhi) : R2:=fun x y H Q=>∃ d e,Rep K H d x/\Rep K H e y/\d.nb = true/\e.nb = true/\d.dep <= 60/\Q (.bl (decide (d = e))) H
noncomputable def rNeD (K : Zhi) : R2:=fun x y H Q=>∃ d e,Rep K H d x/\Rep K H e y/\d.nb = true/\e.nb = true/\d.dep <= 60/\Q (.bl (!decide (d = e))) H
section
variable {X : Cx}
theorem zvj (hu : X.A.units + 64 < Znt) : OpR X (Zkp .Eq) (rEqD X.K):=by
 intro pins s σ H x y v u Q I rx ry h
 obtain ⟨d,e,r1,r2,n1,n2,hd,q⟩:=h
 obtain ⟨⟨as,a⟩,c1⟩:=I.reads n1 r1 rx
 obtain ⟨⟨bs,b⟩,c2⟩:=I.reads n2 r2 ry
 have h1:=D.toP_depth d
 refine SeqAt.compareEq_reads a b c1 c2 (by lia) ?_
 rw [D.eqv d e n1 n2]
 exact ⟨.bl _,H,I,rfl,q⟩
theorem zzp (hu : X.A.units + 64 < Znt) : OpR X (Zkp .NotEq) (rNeD X.K):=by
 intro pins s σ H x y v u Q I rx ry h
 obtain ⟨d,e,r1,r2,n1,n2,hd,q⟩:=h
 obtain ⟨⟨as,a⟩,c1⟩:=I.reads n1 r1 rx
 obtain ⟨⟨bs,b⟩,c2⟩:=I.reads n2 r2 ry
 have h1:=D.toP_depth d
 refine SeqAt.compareNe_reads a b c1 c2 (by lia) ?_
 rw [D.eqv d e n1 n2]
 exact ⟨.bl _,H,I,rfl,q⟩
theorem zn0 (d : D) (hd : d.nb = true) : ∀ ds : List D,D.nbs ds = true->((D.toPs ds).any fun y=>Zlc y d.toP) = decide (d∈ds)
 | [],_=>by simp [D.toPs]
 | e::ds,h=>by
  simp only [D.nbs,Zib] at h
  rw [D.toPs,Zk2,zn0 d hd ds h.2,D.eqv e d h.1 hd]
  by_cases x : e = d
  ·subst x; simp
  ·have : ¬ d = e:=fun z=>x z.symm
   simp [x,this]
noncomputable def rInD (K : Zhi) (neg : Bool) : R2:=fun x y H Q=>∃ d ds,Rep K H d x/\(Rep K H (.lst ds) y \/ Rep K H (.tup ds) y)/\d.nb = true/\D.nbs ds = true/\d.dep <= 60/\Q (.bl (if neg then !decide (d∈ds) else decide (d∈ds))) H
theorem zun (hu : X.A.units + 64 < Znt) : OpR X (Zkp .In) (rInD X.K false):=by
 intro pins s σ H x y v u Q I rx ry h
 obtain ⟨d,ds,r1,r2,n1,n2,hd,q⟩:=h
 obtain ⟨⟨as,a⟩,c1⟩:=I.reads n1 r1 rx
 have h1:=D.toP_depth d
 have fin : EP X pins σ Q (.bool ((D.toPs ds).any fun y=>Zlc y d.toP)) s:=by rw [zn0 d n1 ds n2]; exact ⟨.bl _,H,I,rfl,q⟩
 rcases r2 with r2 | r2
 ·obtain ⟨⟨bs,b⟩,c2⟩:=I.reads (by simpa [D.nb] using n2) r2 ry
  rw [D.toP] at b c2
  exact SeqAt.in_list_reads b a (by simpa [Zl2] using c2) c1 (by lia) fin
 ·obtain ⟨⟨bs,b⟩,c2⟩:=I.reads (by simpa [D.nb] using n2) r2 ry
  rw [D.toP] at b c2
  exact SeqAt.in_tuple_reads b a (by simpa [Zl2] using c2) c1 (by lia) fin
theorem zoi (hu : X.A.units + 64 < Znt) : OpR X (Zkp .NotIn) (rInD X.K true):=by
 intro pins s σ H x y v u Q I rx ry h
 obtain ⟨d,ds,r1,r2,n1,n2,hd,q⟩:=h
 obtain ⟨⟨as,a⟩,c1⟩:=I.reads n1 r1 rx
 have h1:=D.toP_depth d
 have fin : EP X pins σ Q (.bool (!(D.toPs ds).any fun y=>Zlc y d.toP)) s:=by rw [zn0 d n1 ds n2]; exact ⟨.bl _,H,I,rfl,q⟩
 rcases r2 with r2 | r2
 ·obtain ⟨⟨bs,b⟩,c2⟩:=I.reads (by simpa [D.nb] using n2) r2 ry
  rw [D.toP] at b c2
  exact SeqAt.notIn_list_reads b a (by simpa [Zl2] using c2) c1 (by lia) fin
 ·obtain ⟨⟨bs,b⟩,c2⟩:=I.reads (by simpa [D.nb] using n2) r2 ry
  rw [D.toP] at b c2
  exact SeqAt.notIn_tuple_reads b a (by simpa [Zl2] using c2) c1 (by lia) fin
end
section
variable {K : Zhi} {G H₀ L : Hp} {ss : List Sl} {t ta tb : TE} {d d1 d2 : D} {ds es : List D}
theorem zt6 (a : EvB K G H₀ L ss ta d1) (b : EvB K G H₀ L ss tb d2) (n1 : d1.nb = true) (n2 : d2.nb = true) (hd : d1.dep <= 60) : Ev K G H₀ L ss (tOp (rEqD K) ta tb) (.bl (decide (d1 = d2))) :=
 zgm (w:=.bl (decide (d1 = d2))) a b (fun H x y Q r1 r2 q=>⟨d1,d2,r1,r2,n1,n2,hd,q⟩) fun _ _ _ _ _ _=>Rep.bl
theorem yd6 (a : EvB K G H₀ L ss ta d1) (b : EvB K G H₀ L ss tb d2) (n1 : d1.nb = true) (n2 : d2.nb = true) (hd : d1.dep <= 60) : Ev K G H₀ L ss (tOp (rNeD K) ta tb) (.bl (!decide (d1 = d2))) :=
 zgm (w:=.bl (!decide (d1 = d2))) a b (fun H x y Q r1 r2 q=>⟨d1,d2,r1,r2,n1,n2,hd,q⟩) fun _ _ _ _ _ _=>Rep.bl
theorem yc1 (a : EvB K G H₀ L ss ta d) (b : EvB K G H₀ L ss tb (.lst ds)) (n1 : d.nb = true) (n2 : D.nbs ds = true) (hd : d.dep <= 60) : Ev K G H₀ L ss (tOp (rInD K false) ta tb) (.bl (decide (d∈ds))) :=
 zgm (w:=.bl (decide (d∈ds))) a b (fun H x y Q r1 r2 q=>⟨d,ds,r1,.inl r2,n1,n2,hd,q⟩) fun _ _ _ _ _ _=>Rep.bl
theorem zok (a : EvB K G H₀ L ss ta d) (b : EvB K G H₀ L ss tb (.lst ds)) (n1 : d.nb = true) (n2 : D.nbs ds = true) (hd : d.dep <= 60) : Ev K G H₀ L ss (tOp (rInD K true) ta tb) (.bl (!decide (d∈ds))) :=
 zgm (w:=.bl (!decide (d∈ds))) a b (fun H x y Q r1 r2 q=>⟨d,ds,r1,.inl r2,n1,n2,hd,q⟩) fun _ _ _ _ _ _=>Rep.bl
end
theorem D.nbs_map {α : Type} {enc : α->D} (h : ∀ x,(enc x).nb = true) : ∀ xs : List α,D.nbs (xs.map enc) = true
 | []=>rfl
 | x::xs=>by simp [D.nbs,h x,D.nbs_map h xs]
theorem D.deps_map {α : Type} {enc : α->D} {n : Nat} (h : ∀ x,(enc x).dep <= n) : ∀ xs : List α,D.deps (xs.map enc) <= n
 | []=>Zit _
 | x::xs=>by
  have h1:=h x
  have h2:=D.deps_map h xs
  simp only [Zh5,D.deps]; lia
theorem D.nb_lst {ds : List D} : (D.lst ds).nb = D.nbs ds:=by rw [D.nb]
theorem D.dep_lst {ds : List D} : (D.lst ds).dep = D.deps ds + 1:=by rw [D.dep]
noncomputable def ItOk (K : Zhi) (J : It) (F' H' : Hp) (n : Nat) (y : Nat->D) : Prop:=∀ F2 H2,Same F' F2->Same H' H2->Same F2 H2 ->
 (∀ i,i < n->J.go i H2 /\ ∀ x H3,J.yld i H2 x H3 -> ∃ F3,Ext F2 H2 F3 H3/\Rep K F3 (y i) x)/\J.stop n H2
noncomputable def EvI (K : Zhi) (G H₀ L : Hp) (ss : List Sl) (wi : TI) (n : Nat) (y : Nat->D) : Prop:=∀ F H σ R,Sat K G H₀ L F H σ ss->(∀ F' H' J,Ext F H F' H'->ItOk K J F' H' n y->R J H')->wi σ H R
section
variable {K : Zhi} {G H₀ L : Hp} {ss : List Sl}
theorem zrt {tl : TE} {ds : List D} (a : EvL K G H₀ L ss tl ds) : EvI K G H₀ L ss (zv3 K tl) ds.length fun i=>ds.getD i .non:=fun F H σ R S q =>
 a F H σ _ S fun p vs F' H' e sq r=>⟨p,rfl,⟨vs,sq⟩,q F' H' _ e fun F2 H2 f1 h1 fh=>by
  have sq2:=SqL.same h1 sq
  have hl:=r.length
  refine ⟨fun i hi=>⟨⟨vs,vs[i]'(by lia),sq2,Zhj _⟩,fun x H3 y=>?_⟩,⟨vs,sq2,by lia⟩⟩
  obtain ⟨rfl,y⟩:=y
  obtain ⟨d,hd,rd⟩:=r.get (y vs sq2)
  refine ⟨F2,Ext.refl fh,?_⟩
  show Rep K F2 (ds.getD i D.non) x
  rw [Zhh,hd]
  exact rd.mono f1⟩
noncomputable def lcSl (nt : Nat) (cs : List Nat) (ss : List Sl) : List Sl:=Zn1 nt .un++cs.map fun i=>ss.getD i .un
theorem Sat.lc {F H : Hp} {σ : St} {nt : Nat} {cs : List Nat} (S : Sat K G H₀ L F H σ ss) (hc : cs.Nodup) : Sat K G H₀ L F H (lcS nt cs σ) (lcSl nt cs ss):=by
 have cut : ∀ (i : Nat) s,(lcSl nt cs ss)[i]? = some s->s = .un \/ ∃ j,nt <= i/\cs[i - nt]? = some j/\ss[j]? = some s:=by
  intro i s h
  unfold lcSl at h
  by_cases hi : i < nt
  ·rw [Zi8 (by simpa using hi),Zly,if_pos hi] at h
   exact .inl (Zjf h).symm
  ·rw [Ziw (by simpa using hi),Zma,Zho] at h
   cases hj : cs[i - nt]? with
   | none=>rw [hj] at h; cases h
   | some j =>
    rw [hj] at h
    have h : ss.getD j .un = s:=Zjf h
    rw [Zhh] at h
    cases hs : ss[j]? with
    | none=>rw [hs] at h; exact .inl h.symm
    | some s'=>rw [hs] at h; exact .inr ⟨j,by lia,rfl,by rw [hs]; exact congrArg some h⟩
 have val : ∀ (i j : Nat),nt <= i->cs[i - nt]? = some j->(lcS nt cs σ).getD i none = σ.getD j none:=by
  intro i j hi hj
  unfold lcS
  rw [Zhh,Ziw (by simpa using hi),Zma,Zho,hj]
  simp [Zhh]
 refine ⟨S.ext,S.fl,by unfold lcS lcSl; simp,fun i s h=>?_,fun i s h=>?_,fun i j s s' hij h h' p hp=>?_⟩
 ·rcases cut i s h with rfl | ⟨j,hi,hj,hs⟩
  ·trivial
  ·rw [val i j hi hj]; exact S.ok j s hs
 ·rcases cut i s h with rfl | ⟨j,hi,hj,hs⟩
  ·simp [Sl.ads]
  ·exact S.nd j s hs
 ·rcases cut i s h with rfl | ⟨k,hi,hk,hs⟩
  ·simp [Sl.ads] at hp
  ·rcases cut j s' h' with rfl | ⟨m,hj,hm,hs'⟩
   ·simp [Sl.ads]
   ·have : k≠m:=fun z=>by
     subst z
     obtain ⟨l1,e1⟩:=Zhn.mp hk
     obtain ⟨l2,e2⟩:=Zhn.mp hm
     have:=(Zne hc).mp (e1.trans e2.symm)
     lia
    exact S.ne k m s s' this hs hs' p hp
noncomputable def GK (nt : Nat) (g : TG) : Prop:=∀ v σ H (Q Q' : St->Hp->Prop),(∀ σ' H',Q σ' H'->σ'.length = σ.length->σ'.drop nt = σ.drop nt->Q' σ' H')->g v σ H Q->g v σ H Q'
noncomputable def GKs (nt : Nat) (g : TGs) : Prop:=∀ v σ H (Q Q' : St->Hp->Prop),(∀ σ' H',Q σ' H'->σ'.length = σ.length->σ'.drop nt = σ.drop nt->Q' σ' H')->g v σ H Q->g v σ H Q'
theorem zb2 {nt i : Nat} (h : i < nt) : GK nt (zhv i):=fun v σ H Q Q' f q=>f _ _ q (by simp) (by rw [List.drop_set_of_lt h])
theorem zjp {nt : Nat} : GKs nt gNil:=fun v σ H Q Q' f q=>⟨q.1,f _ _ q.2 rfl rfl⟩
theorem zcl {nt : Nat} {g : TG} {gs : TGs} (a : GK nt g) (b : GKs nt gs) : GKs nt (ybl g gs):=fun vs σ H Q Q' f q=>by
 obtain ⟨v,r,e,q⟩:=q
 exact ⟨v,r,e,a v σ H _ _ (fun σ' H' q1 l1 d1=>b r σ' H' Q Q' (fun σ'' H'' q2 l2 d2=>f _ _ q2 (l2.trans l1) (d2.trans d1)) q1) q⟩
theorem zmx {nt n : Nat} {gs : TGs} (b : GKs nt gs) : GK nt (gTup K n gs):=fun v σ H Q Q' f q=>by
 obtain ⟨a,xs,e,sq,hn,q⟩:=q
 exact ⟨a,xs,e,sq,hn,b xs σ H Q Q' f q⟩
theorem zj2 {wi : TI} {g : TG} {tt : TT} {te : TE} {nt : Nat} {cs : List Nat} {n : Nat} {y : Nat->D} (p : Nat->Bool) (f : Nat->D) (a : EvI K G H₀ L ss wi n y) (hk : GK nt g) (hc : cs.Nodup) (hz : n < sizeLine)
  (hs : ∀ i,i < n -> ∃ ss',Tg K G H₀ L g (y i) (lcSl nt cs ss) ss'/\EvT K G H₀ L ss' tt (p i)/\(p i = true->Ev K G H₀ L ss' te (f i))) :
  EvO K G H₀ L ss (tLC nt cs wi g tt te) (((Zhm n).filter p).map f):=fun F H σ Q S q =>
 a F H σ _ S fun F1 H1 J e1 it=>by
  intro l hl
  have S1:=S.ext2 e1
  refine ⟨fun i m H2=>m = n - i/\i <= n /\ ∃ F2 vs,Ext F1 H1 F2 H2/\F2 l = none/\H2 l = some (.lst vs)/\Reps K F2 (((Zhm i).filter p).map f) vs/\vs.length <= i,
   ⟨n,by lia,Zit _,F1,[],(Ext.refl e1.fh).newO hl,e1.fh.free hl,zap,Reps.nil,Zhu _⟩,?_⟩
  rintro i m H2 ⟨rfl,hi,F2,vs,e2,fl,hl2,rs,hvs⟩
  obtain ⟨it1,it2⟩:=it F2 H2 e2.gf e2.hh e2.fh
  by_cases hlt : i < n
  ·obtain ⟨go,yl⟩:=it1 i hlt
   refine .inr ⟨go,fun H'=>∃ F2 vs,Ext F1 H1 F2 H'/\F2 l = none/\H' l = some (.lst vs)/\Reps K F2 (((Zhm (i + 1)).filter p).map f) vs/\vs.length <= i + 1,fun H' h=>⟨n - (i + 1),by omega,rfl,hlt,h⟩,fun x H3 yx=>?_⟩
   obtain ⟨F3,e3,rx⟩:=yl x H3 yx
   obtain ⟨ss',tg,evt,ev⟩:=hs i hlt
   have S3:=((S1.ext2 e2).ext2 e3).lc (nt:=nt) hc
   have hl3 : H3 l = some (.lst vs):=e3.hh l _ hl2
   have fl3 : F3 l = none:=(e3.no l _ hl2 trivial).trans fl
   have base:=tg F3 H3 (lcS nt cs σ) x (fun σ2 H4=>H4 = H3/\Sat K G H₀ L F3 H3 σ2 ss') S3 rx fun σ' S'=>⟨rfl,S'⟩
   have fin : ∀ σ2,Sat K G H₀ L F3 H3 σ2 ss'->tt σ2 H3 fun b H5=>if b = true then te σ2 H5 fun y H6=>∃ xs,H6 l = some (.lst xs)/\xs.length < sizeLine/\(∃ F2 vs,Ext F1 H1 F2 (upd H6 l (.lst (xs++[y])))/\F2 l = none/\(upd H6 l (.lst (xs++[y]))) l = some (.lst vs)/\Reps K F2 (((Zhm (i + 1)).filter p).map f) vs/\vs.length <= i + 1) else ∃ F2 vs,Ext F1 H1 F2 H5/\F2 l = none/\H5 l = some (.lst vs)/\Reps K F2 (((Zhm (i + 1)).filter p).map f) vs/\vs.length <= i + 1:=fun σ2 S2=>by
    refine evt F3 H3 σ2 _ S2 fun F5 H5 e5=>?_
    have S5:=S2.ext2 e5
    have hl5 : H5 l = some (.lst vs):=e5.hh l _ hl3
    have fl5 : F5 l = none:=(e5.no l _ hl3 trivial).trans fl3
    have gf : Same F2 F5:=e3.gf.trans e5.gf
    cases hp : p i with
    | false =>
     refine iteF ⟨F5,vs,(e2.trans e3).trans e5,fl5,hl5,?_,by lia⟩
     rw [Zld,Zj0,Zmf,hp]
     simpa using rs.mono gf
    | true =>
     refine iteT (ev hp F5 H5 σ2 _ S5 fun v F6 H6 e6 rv=>?_)
     have hl6 : H6 l = some (.lst vs):=e6.hh l _ hl5
     have fl6 : F6 l = none:=(e6.no l _ hl5 trivial).trans fl5
     refine ⟨vs,hl6,by lia,F6,vs++[v],(((e2.trans e3).trans e5).trans e6).write fl6 hl,fl6,zap,?_,by simp; omega⟩
     rw [Zld,Zj0,Zmf,hp,if_pos rfl,Zh4]
     exact (rs.mono (gf.trans e6.gf)).snoc rv
   refine hk x (lcS nt cs σ) H3 _ _ (fun σ2 H4 h l1 d1=>?_) base
   obtain ⟨rfl,S2⟩:=h
   exact ⟨⟨by rw [l1]; unfold lcS; simp,d1⟩,fin σ2 S2⟩
  ·have e : i = n:=by lia
   subst e
   exact .inl ⟨it2,q l vs F2 H2 (e1.trans e2) (e1.hh.free hl) fl hl2 rs⟩
end
end L2
namespace L2
open PySem PySem.W PyProof.Rows
section
variable (key : Nat->Int)
noncomputable def kk (p : Array Nat) (i : Nat) : Int:=key (p.getD i 0)
variable {key}
end
section
variable {prog : Ziq} {w : Zjv} {A : Zi0} {E : Value->Zhq->Prop} {s : Zhq}
noncomputable def yeo (h h' : Heap) : Prop:=∀ b o,h.get? b = some o->h'.get? b = some o
end
noncomputable def D.fo : D->List Int
 | .str l=>l.map Zss
 | .int i=>[i]
 | _=>[]
inductive Ty where | s | i
noncomputable def Ty.ok : Ty->D->Bool
 | .s,.str _=>true
 | .i,.int _=>true
 | _,_=>false
theorem zxr (l m : List Nat) : l < m ↔ l.map Zss < m.map Zss:=by
 induction l generalizing m with
 | nil=>cases m <;> simp
 | cons a l ih=>cases m with
  | nil=>simp
  | cons b m =>
   simp only [Zh5,Zi1,ih m,Int.ofNat_eq_natCast]
   constructor
   ·rintro (h | ⟨h,x⟩)
    ·exact .inl (by lia)
    ·exact .inr ⟨by lia,x⟩
   ·rintro (h | ⟨h,x⟩)
    ·exact .inl (by lia)
    ·exact .inr ⟨by lia,x⟩
section
variable {prog : Ziq} {w : Zjv} {A : Zi0} {E : Value->Zhq->Prop} {s : Zhq}
noncomputable def FV : D->Value->Prop
 | .str l,u=>∃ t,u = .str (T l) t
 | .int i,u=>∃ t,u = .int i t
 | _,_=>False
theorem zlv {t : Ty} {d e : D} {u v : Value} (h1 : t.ok d = true) (h2 : t.ok e = true) (ru : FV d u) (rv : FV e v) {Q : Bool->Zhq->Prop} (q : Q (decide (d = e)) s) : Zij (Zix prog w) A (eqBool u v) Q E s:=by
 cases t <;> cases d <;> simp [Ty.ok] at h1 <;> cases e <;> simp [Ty.ok] at h2
 ·obtain ⟨t,rfl⟩:=ru
  obtain ⟨t',rfl⟩:=rv
  refine Zvd _ _ _ _ prog w E Q ?_
  rename_i l m
  have : (T l == T m) = decide (D.str l = D.str m):=by
   rw [Zil]; simp [zuf]
  rw [this]; exact q
 ·obtain ⟨t,rfl⟩:=ru
  obtain ⟨t',rfl⟩:=rv
  refine Zvg _ _ _ _ prog w E Q ?_
  rename_i i j
  have : (i == j) = decide (D.int i = D.int j):=by
   rw [Zil]; simp
  rw [this]; exact q
inductive FVs : List D->List Value->Prop
 | nil : FVs [] []
 | cons {d ds u us} : FV d u->FVs ds us->FVs (d::ds) (u::us)
end
structure MI (R : Nat->Nat->Prop) (ua ub o : List Nat) (i j : Nat) : Prop where
 hi : i <= ua.length
 hj : j <= ub.length
 pw : o.Pairwise R
 pa : ∀ x∈o,∀ y∈ua.drop i,R x y
 pb : ∀ x∈o,∀ y∈ub.drop j,R x y
 pm : o.Perm (ua.take i++ub.take j)
section
variable {X : Cx} {pins : List (Addr × Obj)} {σ : St} {H : Hp} {s : Zhq}
noncomputable def Ty.tv : Ty->Value
 | .s=>.type "str"
 | .i=>.type "int"
end
end L2
namespace L2
open PySem PySem.W PySem.Spec PyProof.Rows
noncomputable def cutD (xs : List D) (lo hi : Option Int) : List D:=(xs.drop (HT.sIx xs.length 0 lo)).take (HT.sIx xs.length xs.length hi - HT.sIx xs.length 0 lo)
theorem Reps.cut {K : Zhi} {H : Hp} {ds : List D} {xs : List V} (lo hi : Option Int) (h : Reps K H ds xs) : Reps K H (cutD ds lo hi) (cutV xs lo hi):=by
 unfold cutD cutV
 rw [<- h.length]
 exact (h.drop _).take _
section
variable {K : Zhi} {G H₀ L : Hp} {ss : List Sl} {t ta tb : TE} {d : D} {ds : List D}
theorem ze1 (a : EvL K G H₀ L ss t ds) : Ev K G H₀ L ss (tCB (fun xs H Q=>∃ p ys,xs = [.ref p]/\(SqL K H p ys \/ SqT K H p ys)/\Q (.int ys.length) H) (za5 t tNil)) (.int ds.length):=fun F H σ Q S q =>
 a F H σ _ S fun p vs F' H' e sq r=>⟨p,vs,rfl,.inl sq,q _ _ _ e (by rw [<- r.length]; exact Rep.int)⟩
theorem zic (a : EvL K G H₀ L ss t ds) : EvO K G H₀ L ss (tCB (fun xs H Q=>∃ p ys,xs = [.ref p]/\(SqL K H p ys \/ SqT K H p ys) /\ ∀ l,H l = none->Q (.ref l) (upd H l (.lst ys))) (za5 t tNil)) ds:=fun F H σ Q S q =>
 a F H σ _ S fun p vs F' H' e sq r=>⟨p,vs,rfl,.inl sq,fun l hl=>q l vs F' _ (e.newO hl) (e.hh.free hl) (e.fh.free hl) zap r⟩
noncomputable def EvP (K : Zhi) (G H₀ L : Hp) (ss : List Sl) (t : TO) (o : Option Int) : Prop:=∀ F H σ (Q : Option Int->Hp->Prop),Sat K G H₀ L F H σ ss->(∀ F' H',Ext F H F' H'->Q o H')->t σ H Q
theorem zmv : EvP K G H₀ L ss zni none:=fun F H σ Q S q=>q _ _ (Ext.refl S.ext.fh)
theorem zfm {i : Int} (a : EvB K G H₀ L ss t (.int i)) : EvP K G H₀ L ss (zyn t) (some i):=fun F H σ Q S q=>a F H σ _ S fun v F' H' e r=>⟨i,r.of_int,q _ _ e⟩
theorem ziv {tl th : TO} {lo hi : Option Int} (a : EvL K G H₀ L ss t ds) (b : EvP K G H₀ L ss tl lo) (c : EvP K G H₀ L ss th hi) : EvO K G H₀ L ss (tSl (rSlL K) t tl th) (cutD ds lo hi):=fun F H σ Q S q =>
 a F H σ _ S fun p vs F1 H1 e1 sq r=>b F1 H1 σ _ (S.ext2 e1) fun F2 H2 e2=>c F2 H2 σ _ ((S.ext2 e1).ext2 e2) fun F3 H3 e3 =>
  ⟨p,vs,rfl,SqL.same e3.hh (SqL.same e2.hh sq),fun l hl=>q l _ F3 _ (((e1.trans e2).trans e3).newO hl) (((e1.trans e2).trans e3).hh.free hl) (((e1.trans e2).trans e3).fh.free hl) zap (((r.mono e2.gf).mono e3.gf).cut lo hi)⟩
end
noncomputable def rAll (K : Zhi) : List V->Hp->VK->Prop:=fun xs H Q=>∃ p,∃ bs : List Bool,xs = [.ref p]/\SqL K H p (bs.map V.bl)/\Q (.bl (bs.all id)) H
section
variable {X : Cx} {prog : Ziq} {w : Zjv} {A : Zi0} {E : Value->Zhq->Prop} {s : Zhq}
theorem zy7 {h' : Heap} {o : Obj} {k : Nat} (hk : ∀ b x,b ∉ [s.heap.objs.size]->(s.heap.push o).get? b = some x->h'.get? b = some x) : yeo s.heap h':=fun b x e=>by
 refine hk b x (fun hm=>?_) (Zhr _ e)
 have h1:=Zhy e
 rw [Zhp.mp hm] at h1
 exact Zi3 _ h1
theorem zvq : ∀ {bs : List Bool} {us : List Value},Vals (bs.map V.bl) us->us = bs.map Znn
 | [],_,.nil=>rfl
 | b::bs,_,.cons r1 r2=>by rw [zvq r2]; cases r1; rfl
theorem zss : ∀ bs : List Bool,((Zhm bs.length).all fun i=>(bs[i]?).getD true) = bs.all id:=fun bs=>by
 rw [Zil,Zi5,Zi5]
 constructor
 ·intro h b hb
  obtain ⟨i,hi,e⟩:=Zmn hb
  have:=h i (Zia.mpr hi)
  rw [Zhj hi,Zna,e] at this
  exact this
 ·intro h i hi
  have hi':=Zia.mp hi
  rw [Zhj hi',Zna]
  exact h _ (Zkc hi')
theorem zkt (hc : X.calm = true) : zdk X (.builtin "all") (rAll X.K):=by
 intro pins s σ H xs us Q I r h
 obtain ⟨p,bs,rfl,hq,q⟩:=h
 obtain ⟨u,rfl,ru⟩:=zhc r
 cases ru
 obtain ⟨its,rv,pl,_⟩:=I.list hq
 obtain rfl:=zvq rv
 have hl:=pl.isList
 have hlt : p < s.heap.objs.size:=by obtain ⟨_,e,_⟩:=hl; exact Zhy e
 refine call_all_walk (Znj hl ⟨s.heap.objs.size,[s.heap.objs.size,p],[s.heap.objs.size],(bs.map Znn).toArray.size,_,_,fun i=>(bs[i]?).getD true,rfl,
  Znm (A:=X.A.in1) (I.ok.hd hc) _ p (Zic hlt) _,⟨⟨_,Zh6 _ rfl,rfl,rfl⟩,hl.push _⟩,fun i v s' Q' E' hP hQ=>?_,fun h' tk hk=>?_⟩)
 ·have hP' : (bs.map Znn)[i]? = some v:=by simpa using hP
  rw [Zho] at hP'
  cases hb : bs[i]? with
  | none=>rw [hb] at hP'; cases hP'
  | some b =>
   rw [hb] at hP'
   cases hP'
   simp only [hb,Zna] at hQ
   exact Zjw hQ
 ·have e : ((Zhm (bs.map Znn).toArray.size).all fun i=>(bs[i]?).getD true) = bs.all id:=by
   rw [Zii,Zhk]; exact zss bs
  rw [e]
  exact ⟨.bl _,H,I.kept (zy7 (k:=0) hk),rfl,q⟩
end
end L2
namespace L2
open PySem PySem.W PySem.Spec PyProof.Rows PySem.Calls
open PySem.MeetsSeq PySem.MeetsSeq2 PySem.MeetsSeq3
theorem zl6 {t : Ty} {d e : D} {u v : Value} (h1 : t.ok d = true) (h2 : t.ok e = true) (ru : FV d u) (rv : FV e v) {prog : Ziq} {w : Zjv} {A : Zi0} {E : Value->Zhq->Prop} {s : Zhq} {Q : Value->Zhq->Prop} (q : Q (.bool (decide (d.fo < e.fo))) s) :
  Zij (Zix prog w) A (Zm0 .Lt u v) Q E s:=by
 cases t <;> cases d <;> simp [Ty.ok] at h1 <;> cases e <;> simp [Ty.ok] at h2
 ·obtain ⟨t,rfl⟩:=ru
  obtain ⟨t',rfl⟩:=rv
  rename_i l m
  have ee : decide ((T l).cps.toList < (T m).cps.toList) = decide ((D.str l).fo < (D.str m).fo):=by
   rw [yd1,yd1,Zil,decide_eq_true_eq,decide_eq_true_eq]
   exact zxr l m
  rw [<- ee] at q
  exact Zpm (op:=.Lt) (Ztg _ _ _) (Ztg _ _ _) F.slot_str_lt F.entry_str_lt (F.args_str_lt_2 _ _) (gives_str_lt _ _ _ _) (fun e=>nomatch e) q
 ·obtain ⟨t,rfl⟩:=ru
  obtain ⟨t',rfl⟩:=rv
  rename_i i j
  have ee : decide (i < j) = decide ((D.int i).fo < (D.int j).fo):=by
   rw [Zil]
   simp [D.fo,Zi1]
  rw [<- ee] at q
  exact Zpm (op:=.Lt) (Zpl _ _ _) (Zpl _ _ _) F.slot_int_lt F.entry_int_lt (F.args_int_lt_2 _ _) (gives_int_lt _ _ _ _) (fun e=>nomatch e) q
section
variable {K : Zhi} {G H₀ L : Hp} {ss : List Sl} {t ta tb : TE} {d : D} {ds es : List D}
theorem Reps.bools {H : Hp} : ∀ {bs : List Bool} {vs : List V},Reps K H (bs.map D.bl) vs->vs = bs.map V.bl
 | [],vs,h=>by rw [Zl8,Reps] at h; exact h
 | b::bs,vs,h=>by
  rw [Zh5,Reps] at h
  obtain ⟨x,xs,rfl,h1,h2⟩:=h
  rw [h1.of_bl,h2.bools]; rfl
theorem yed {bs : List Bool} (a : EvL K G H₀ L ss t (bs.map D.bl)) : Ev K G H₀ L ss (tCB (rAll K) (za5 t tNil)) (.bl (bs.all id)):=fun F H σ Q S q =>
 a F H σ _ S fun p vs F1 H1 e1 sq r1=>⟨p,bs,rfl,by rw [r1.bools] at sq; exact sq,q _ _ _ e1 Rep.bl⟩
end
end L2
namespace L2
open PySem PySem.W PyProof.Rows
section
variable {X : Cx} {pins pl : List (Addr × Obj)} {σ : St} {H : Hp} {s : Zhq} {h' : Heap} {t' : Nat}
theorem Inv.reset {b : Addr} {o o' : Obj} (I : Inv X (pins++(b,o)::pl) σ H s) (fb : FpOk X pins H b) (hne : ∀ q∈pl,q.1≠b) (hs : ∀ c u,c≠b->s.heap.get? c = some u->h'.get? c = some u) (hb : h'.get? b = some o') (hd : ∀ v,o'.data ≠ .cell v) :
  Inv X (pins++(b,o')::pl) σ H { s with heap:=h',toks:=t' }:=by
 obtain ⟨f0,f1,f2,f3,f4,f5⟩:=fb
 have I1 : Inv X pins σ H { s with heap:=h',toks:=t' }:=I.unpinned.turned hs f0 f1 f3 f4 f5
 refine I1.pins_of fun p hp=>?_
 rcases Zhw.mp hp with hp | hp
 ·exact I1.pin p (Zht _ hp)
 ·rcases Zie.mp hp with rfl | hp
  ·exact ⟨hb,f0,f1,f2,hd⟩
  ·obtain ⟨e,n,ne,nf,d⟩:=I.pin p (Zht _ (Zht _ (Zhv _ hp)))
   exact ⟨hs _ _ (hne p hp) e,n,ne,nf,d⟩
variable {A' : Zi0} {a kS : Addr} {e1 : Nat} {us : List Value} {ks : List D} {f : Value} {J : Hp->Prop} {P : PySem.Fin->Zhq->Prop} {E : Value->Zhq->Prop}
end
section
variable {X : Cx} {pins : List (Addr × Obj)} {σ : St} {H : Hp} {s : Zhq} {l I0 S : Addr} {xs : List V} {ks : List D} {q : Addr} {J : Hp->Prop} {R : Zu3->Zhq->Prop} {lt : Nat->Nat->Bool}
noncomputable def ItAt (o : Obj) (l : Addr) (j : Nat) : Prop:=o.cls = .type "list_iterator" /\ o.data = .fields #[.ref l,.int (j : Int) 0]
theorem zwm (hh : X.A.handled = none) (hlI : l≠I0) (hSI : S≠I0) (fpS : ∀ H' : Hp,H' S = none->FpOk X pins H' S) (fpI : ∀ H' : Hp,H' I0 = none->FpOk X pins H' I0) (hJl : ∀ H',J H'->SqL X.K H' l xs) (hkl : ks.length = xs.length)
  (turn : ∀ (i : Nat) x u k H' s' pl,xs[i]? = some x->ks[i]? = some k->RelV x u->Inv X (pins++pl) σ H' s'->J H' ->
   Zij (Zix X.prog X.w) X.A.in1 (call (.ref q) [u]) (fun v s''=>∃ y H'',Inv X (pins++pl) σ H'' s''/\J H''/\Same H' H''/\RelV y v/\Rep X.K H'' k y) (fun _ _=>False) s')
  (hlt : ∀ (i j : Nat) k k' H' s' pl y z u v (C : Value->Zhq->Prop),ks[i]? = some k->ks[j]? = some k'->Inv X (pins++pl) σ H' s'->Rep X.K H' k y->RelV y u->Rep X.K H' k' z->RelV z v->C (.bool (lt i j)) s' ->
   Zij (Zix X.prog X.w) X.A.in1 (Zm0 .Lt u v) C (fun _ _=>False) s')
  (tr : ∀ a b c : Nat,lt a b = true->lt c b = false->lt a c = true) (asy : ∀ a b : Nat,lt a b = true->lt b a = false)
  (hR : ∀ (i : Nat) x v H' s',xs[i]? = some x->RelV x v->(∀ j,j < xs.length->lt j i = false/\(j < i->lt i j = true))->Inv X pins σ H' s'->J H'->R (.ok (.ret v)) s') :
  ∀ (r j i : Nat) (H : Hp) (s : Zhq) (xb y : V) (vb kb : Value) (kd : D) (c : Nat) (oI : Obj),xs.length - (j + 1) = r->j + 1 <= xs.length->Inv X (pins++[(S,Zlz "list" #[vb,kb] c),(I0,oI)]) σ H s->J H->ItAt oI l (j + 1) ->
   xs[i]? = some xb->RelV xb vb->ks[i]? = some kd->RelV y kb->Rep X.K H kd y->i <= j->(∀ j',j' <= j->lt j' i = false/\(j' < i->lt i j' = true)) ->
   Zns (Zix X.prog X.w) X.A (.builtin "min.loop" ⟨[.ref I0,.ref q,.ref S],[]⟩) R s:=by
 have hname : (Znc "min" ++ Znc ".loop" : String) = "min.loop" := by decide
 intro r
 induction r with
 | zero =>
  intro j i H s xb y vb kb kd c oI hr hj I hJ hit hxb rxb hkd rkb rpb hij hbest
  have hin : j + 1 = xs.length:=by omega
  have nS:=I.pin (S,Zlz "list" #[vb,kb] c) (Zht _ (Zht _ (.head _)))
  have nI:=I.pin (I0,oI) (Zht _ (Zht _ (.tail _ (.head _))))
  obtain ⟨us,rv,pl,hz⟩:=I.list (hJl H hJ)
  have hul:=rv.length
  have W:=Znm (prog:=X.prog) (w:=X.w) (A:=X.A.in1) hh I0 l hlI us.toArray
  have hsz : us.toArray.size = us.length:=Zii ..
  refine Zk5 Zm8 ?_
  rw [Zjx Zj3 _]
  show Zij _ X.A.in1 (Zpb (.ref S) >>= _) _ _ _
  refine Zhl (Zlv nS.1 rfl ?_)
  show Zij _ X.A.in1 (Znb (Zpc (.ref I0)) _ >>= _) _ _ _
  refine Zhl (Zka (W.done _ _ _ ⟨by rw [hsz,<- hul,<- hin]; exact ⟨oI,nI.1,hit.1,hit.2⟩,pl.isList⟩ fun h' tk' hk'=>?_))
  have hS':=hk' S _ (by simpa using hSI) nS.1
  have fI:=fpI H nI.2.1
  have fS:=fpS H nS.2.1
  have I1 : Inv X pins σ H { s with heap:=h',toks:=tk' }:=I.unpinned.turned (fun b o hb q=>hk' b o (by simpa using hb) q) fI.1 fI.2.1 fI.2.2.2.1 fI.2.2.2.2.1 fI.2.2.2.2.2
  have s1:=Zj1 h' S (Zj7 fun _=>(#[] : Array Value))
  show Zij _ X.A.in1 (Zqr S (fun _=>#[]) >>= _) _ _ _
  refine Zhl ?_
  refine Zlm hS' rfl (Zhl (Zk9 (Zhz ?_)))
  have I2 : Inv X pins σ H { s with heap:=h'.update S (Zj7 fun _=>(#[] : Array Value)),toks:=tk' }:=I1.turned (t':=tk') (fun b o hb q=>(s1.2 b hb).trans q) fS.1 fS.2.1 fS.2.2.2.1 fS.2.2.2.2.1 fS.2.2.2.2.2
  exact hR i xb vb H _ hxb rxb (fun j' hj'=>hbest j' (by omega)) I2 hJ
 | succ r ih =>
  intro j i H s xb y vb kb kd c oI hr hj I hJ hit hxb rxb hkd rkb rpb hij hbest
  have hlt2 : j + 1 < xs.length:=by omega
  have nS:=I.pin (S,Zlz "list" #[vb,kb] c) (Zht _ (Zht _ (.head _)))
  have nI:=I.pin (I0,oI) (Zht _ (Zht _ (.tail _ (.head _))))
  obtain ⟨us,rv,pl,hz⟩:=I.list (hJl H hJ)
  have hul:=rv.length
  have W:=Znm (prog:=X.prog) (w:=X.w) (A:=X.A.in1) hh I0 l hlI us.toArray
  have hsz : us.toArray.size = us.length:=Zii ..
  refine Zk5 Zm8 ?_
  rw [Zjx Zj3 _]
  show Zij _ X.A.in1 (Zpb (.ref S) >>= _) _ _ _
  refine Zhl (Zlv nS.1 rfl ?_)
  show Zij _ X.A.in1 (Znb (Zpc (.ref I0)) _ >>= _) _ _ _
  refine Zhl (Zka (W.item (j + 1) _ _ _ (by rw [hsz]; omega) ⟨⟨oI,nI.1,hit.1,hit.2⟩,pl.isList⟩ fun v h' tk' hP hst' hk'=>?_))
  have hv : us[j + 1]? = some v:=by simpa using hP
  obtain ⟨oI',hoI',hoc,hod⟩:=id hst'.1
  obtain ⟨x,hx,rx⟩ : ∃ x,xs[j + 1]? = some x/\RelV x v:=by
   obtain ⟨u',hu',ru'⟩:=rv.get (Zhj hlt2)
   rw [hv] at hu'; cases hu'
   exact ⟨_,Zhj hlt2,ru'⟩
  obtain ⟨k,hk⟩ : ∃ k,ks[j + 1]? = some k:=⟨_,Zhj (by omega)⟩
  have Ip : Inv X (pins++(I0,oI)::[(S,Zlz "list" #[vb,kb] c)]) σ H s:=I.pins_of fun p hp=>I.pin p (Zht _ (by
   rcases Zhw.mp hp with hp | hp
   ·exact Zig _ hp
   ·refine Zht _ ?_
    rcases Zie.mp hp with rfl | hp
    ·exact .tail _ (.head _)
    ·rw [Zhp.mp hp]; exact .head _))
  have Iq : Inv X (pins++(I0,oI')::[(S,Zlz "list" #[vb,kb] c)]) σ H { s with heap:=h',toks:=tk' }:=Ip.reset (fpI H nI.2.1) (fun q hq=>by rw [Zhp.mp hq]; exact hSI) (fun b o hb q=>hk' b o (by simpa using hb) q) hoI' (fun v z=>by rw [hod] at z; cases z)
  have I1 : Inv X (pins++[(S,Zlz "list" #[vb,kb] c),(I0,oI')]) σ H { s with heap:=h',toks:=tk' }:=Iq.pins_of fun p hp=>Iq.pin p (Zht _ (by
   rcases Zhw.mp hp with hp | hp
   ·exact Zig _ hp
   ·refine Zht _ ?_
    rcases Zie.mp hp with rfl | hp
    ·exact .tail _ (.head _)
    ·rw [Zhp.mp hp]; exact .head _))
  show Zij _ X.A.in1 (Znb (Zsl [v] (call (.ref q) [v])) _ >>= _) _ _ _
  refine Zhl (Zka (Zla (Zj8 (turn (j + 1) x v k H _ _ hx hk rx I1 hJ) (fun kv s2 he=>?_) fun _ _ hF=>hF.elim)))
  obtain ⟨y2,H2,I2,hJ2,hsame,ry2,rp2⟩:=he
  have nS2:=I2.pin (S,Zlz "list" #[vb,kb] c) (Zht _ (Zht _ (.head _)))
  have nI2:=I2.pin (I0,oI') (Zht _ (Zht _ (.tail _ (.head _))))
  show Zij _ X.A.in1 (Znb (Zsl [v,kv] (Zm0 .Lt kv kb >>= _)) _ >>= _) _ _ _
  refine Zhl (Zka (Zla (Zhl (Zj8 (hlt (j + 1) i k kd H2 s2 _ y2 y kv kb (fun z s3=>z = .bool (lt (j + 1) i)/\s3 = s2) hk hkd I2 rp2 ry2 (rpb.mono hsame) rkb ⟨rfl,rfl⟩) (fun z s3 hz=>?_) fun _ _ hF=>hF.elim))))
  obtain ⟨rfl,rfl⟩:=hz
  refine Zhl (Zla (Zjw ?_))
  refine Zhl (Zk9 (Zhz ?_))
  by_cases hb' : lt (j + 1) i = true
  ·have s1:=Zj1 s3.heap S (Zj7 fun _=>#[v,kv])
   obtain ⟨c2,hc2⟩ : ∃ c2,(s3.heap.update S (Zj7 fun _=>#[v,kv])).get? S = some (Zlz "list" #[v,kv] c2):=⟨_,Zoc nS2.1 fun _=>#[v,kv]⟩
   simp only [hb',if_true]
   refine Zhl ?_
   refine Zlm nS2.1 rfl (Zhl (Zk9 ?_))
   rw [hname]
   have I3 : Inv X (pins++[(S,Zlz "list" #[v,kv] c2),(I0,oI')]) σ H2 { s3 with heap:=s3.heap.update S (Zj7 fun _=>#[v,kv]) }:=I2.reset (t':=s3.toks) (fpS H2 nS2.2.1) (fun q hq=>by rw [Zhp.mp hq]; exact Zi4 hSI) (fun c u hc q=>(s1.2 c hc).trans q) hc2 (fun v z=>by cases z)
   refine Zhz ⟨Zkm Zj3 _,ih (j + 1) (j + 1) H2 _ x y2 v kv k c2 oI' (by omega) hlt2 I3 hJ2 ⟨hoc,hod⟩ hx rx hk ry2 rp2 (Zhu _) fun j' hj'=>?_⟩
   by_cases e : j' = j + 1
   ·subst e
    refine ⟨?_,fun h=>absurd h (Zi3 _)⟩
    cases hq : lt (j + 1) (j + 1) with
    | false=>rfl
    | true=>have:=asy _ _ hq; rw [hq] at this; cases this
   ·have h1:=tr (j + 1) i j' hb' (hbest j' (by omega)).1
    exact ⟨asy _ _ h1,fun _=>h1⟩
  ·have hb2 : lt (j + 1) i = false:=by simpa using hb'
   simp only [hb2,Zlb,if_false]
   refine Zhl (Zk9 ?_)
   rw [hname]
   refine Zhz ⟨Zkm Zj3 _,ih (j + 1) i H2 _ xb y vb kb kd c oI' (by omega) hlt2 I2 hJ2 ⟨hoc,hod⟩ hxb rxb hkd rkb (rpb.mono hsame) (by omega) fun j' hj'=>?_⟩
   by_cases e : j' = j + 1
   ·subst e
    exact ⟨hb2,fun h=>absurd h (by omega)⟩
   ·exact hbest j' (by omega)
theorem zvd {QQ : Value->Zhq->Prop} {E : Value->Zhq->Prop} (hc : X.calm = true) (I : Inv X pins σ H s) (hJ : J H) (hJl : ∀ H',J H'->SqL X.K H' l xs) (hkl : ks.length = xs.length) (hne : 0 < xs.length)
  (turn : ∀ (i : Nat) x u k H' s' pl,xs[i]? = some x->ks[i]? = some k->RelV x u->Inv X (pins++pl) σ H' s'->J H' ->
   Zij (Zix X.prog X.w) X.A.in1 (call (.ref q) [u]) (fun v s''=>∃ y H'',Inv X (pins++pl) σ H'' s''/\J H''/\Same H' H''/\RelV y v/\Rep X.K H'' k y) (fun _ _=>False) s')
  (hlt : ∀ (i j : Nat) k k' H' s' pl y z u v (C : Value->Zhq->Prop),ks[i]? = some k->ks[j]? = some k'->Inv X (pins++pl) σ H' s'->Rep X.K H' k y->RelV y u->Rep X.K H' k' z->RelV z v->C (.bool (lt i j)) s' ->
   Zij (Zix X.prog X.w) X.A.in1 (Zm0 .Lt u v) C (fun _ _=>False) s')
  (tr : ∀ a b c : Nat,lt a b = true->lt c b = false->lt a c = true) (asy : ∀ a b : Nat,lt a b = true->lt b a = false)
  (hQ : ∀ (i : Nat) x v H' s',xs[i]? = some x->RelV x v->(∀ j,j < xs.length->lt j i = false/\(j < i->lt i j = true))->Inv X pins σ H' s'->J H'->QQ v s') :
  Zij (Zix X.prog X.w) X.A (call (.builtin "min") [.ref l] [(Zlf "key", .ref q)]) QQ E s:=by
 have hname : (Znc "min" ++ Znc ".loop" : String) = "min.loop" := by decide
 have hh : X.A.handled = none:=I.ok.hd hc
 obtain ⟨us0,rv0,pl0,hz0⟩:=I.list (hJl H hJ)
 have hls:=pl0.isList
 obtain ⟨ol,hol,_⟩:=id hls
 have hll : l < s.heap.objs.size:=Zhy hol
 refine kmk_tree PySem.F.kind_min PySem.F.plain_min PySem.F.entry_min (kmk_min_key _ _) ?_
 show Zij _ X.A.in1 (Zky "min" ["key", "default"] 0 ⟨[],[(Zlf "key", .ref q)]⟩ >>= _) _ _ s
 refine Zhl (Zqn (show Zky "min" ["key", "default"] 0 ⟨[],[(Zlf "key", .ref q)]⟩ = pure [some (.ref q),none] from rfl) ?_)
 refine Zhl (Zhz ?_)
 refine Zhl (Znj hls ?_)
 refine Zhl (Zvh ?_ (Zit _))
 rw [hname]
 have hS : (s.heap.push { cls:=.type "list_iterator", data:=.fields #[.ref l,.int 0 0] }).objs.size = s.heap.objs.size + 1:=size_push' ..
 have hlI : l≠s.heap.objs.size:=Zic hll
 have hSI : (s.heap.push { cls:=.type "list_iterator", data:=.fields #[.ref l,.int 0 0] }).objs.size≠s.heap.objs.size:=by rw [hS]; exact Zmu (Zsh _)
 have fpI : ∀ H' : Hp,H' s.heap.objs.size = none->FpOk X pins H' s.heap.objs.size:=fun H' hn=>I.fpOk (Zhu _) hn
 have fpS : ∀ H' : Hp,H' (s.heap.push { cls:=.type "list_iterator", data:=.fields #[.ref l,.int 0 0] }).objs.size = none->FpOk X pins H' (s.heap.push { cls:=.type "list_iterator", data:=.fields #[.ref l,.int 0 0] }).objs.size:=fun H' hn=>I.fpOk (by rw [hS]; exact Zoe _) hn
 have gI : ((s.heap.push { cls:=.type "list_iterator", data:=.fields #[.ref l,.int 0 0] }).push (Zlz "list" #[] 0)).get? s.heap.objs.size = some { cls:=.type "list_iterator", data:=.fields #[.ref l,.int 0 0] } :=
  Zhr _ (Zh6 _ rfl)
 have gS : ((s.heap.push { cls:=.type "list_iterator", data:=.fields #[.ref l,.int 0 0] }).push (Zlz "list" #[] 0)).get? (s.heap.push { cls:=.type "list_iterator", data:=.fields #[.ref l,.int 0 0] }).objs.size = some (Zlz "list" #[] 0):=Zh6 _ rfl
 have I1 : Inv X pins σ H { s with heap:=(s.heap.push { cls:=.type "list_iterator", data:=.fields #[.ref l,.int 0 0] }).push (Zlz "list" #[] 0) }:=I.kept (t':=s.toks) fun b o e=>Zhr _ (Zhr _ e)
 generalize (s.heap.push { cls:=.type "list_iterator", data:=.fields #[.ref l,.int 0 0] }).objs.size = S at *
 refine Zhz ⟨Zkm Zj3 _,?_⟩
 have hIn : H s.heap.objs.size = none:=I.hok.fresh (Zhu _)
 have hSn : H S = none:=I.hok.fresh (by rw [hS]; exact Zoe _)
 generalize s.heap.objs.size = I0 at *
 obtain ⟨us,rv,pl,hz⟩:=I1.list (hJl H hJ)
 have hul:=rv.length
 have W:=Znm (prog:=X.prog) (w:=X.w) (A:=X.A.in1) hh I0 l hlI us.toArray
 have hsz : us.toArray.size = us.length:=Zii ..
 refine Zk5 Zm8 ?_
 rw [Zjx Zj3 _]
 show Zij _ X.A.in1 (Zpb (.ref S) >>= _) _ _ _
 refine Zhl (Zlv gS rfl ?_)
 show Zij _ X.A.in1 (Znb (Zpc (.ref I0)) _ >>= _) _ _ _
 refine Zhl (Zka (W.item 0 _ _ _ (by rw [hsz]; omega) ⟨⟨_,gI,rfl,rfl⟩,pl.isList⟩ fun v h' tk' hP hst' hk'=>?_))
 have hv : us[0]? = some v:=by simpa using hP
 obtain ⟨oI',hoI',hoc,hod⟩:=id hst'.1
 obtain ⟨x,hx,rx⟩ : ∃ x,xs[0]? = some x/\RelV x v:=by
  obtain ⟨u',hu',ru'⟩:=rv.get (Zhj hne)
  rw [hv] at hu'; cases hu'
  exact ⟨_,Zhj hne,ru'⟩
 obtain ⟨k,hk⟩ : ∃ k,ks[0]? = some k:=⟨_,Zhj (by omega)⟩
 have fI:=fpI H hIn
 have fS:=fpS H hSn
 have I2 : Inv X pins σ H { s with heap:=h',toks:=tk' }:=I1.turned (fun b o hb q=>hk' b o (by simpa using hb) q) fI.1 fI.2.1 fI.2.2.2.1 fI.2.2.2.2.1 fI.2.2.2.2.2
 have I3 : Inv X (pins++[(S,Zlz "list" #[] 0),(I0,oI')]) σ H { s with heap:=h',toks:=tk' }:=I2.pins_of fun p hp=>by
  rcases Zhw.mp hp with hp | hp
  ·exact I2.pin p (Zht _ hp)
  ·rcases Zie.mp hp with rfl | hp
   ·exact ⟨hk' S _ (by simpa using hSI) gS,fS.1,fS.2.1,fS.2.2.1,fun v z=>by cases z⟩
   ·rw [Zhp.mp hp]
    exact ⟨hoI',fI.1,fI.2.1,fI.2.2.1,fun v z=>by rw [hod] at z; cases z⟩
 show Zij _ X.A.in1 (Znb (Zsl [v] (call (.ref q) [v])) _ >>= _) _ _ _
 refine Zhl (Zka (Zla (Zj8 (turn 0 x v k H _ _ hx hk rx I3 hJ) (fun kv s2 he=>?_) fun _ _ hF=>hF.elim)))
 obtain ⟨y2,H2,I4,hJ2,hsame,ry2,rp2⟩:=he
 have nS2:=I4.pin (S,Zlz "list" #[] 0) (Zht _ (Zht _ (.head _)))
 have s1:=Zj1 s2.heap S (Zj7 fun _=>#[v,kv])
 obtain ⟨c2,hc2⟩ : ∃ c2,(s2.heap.update S (Zj7 fun _=>#[v,kv])).get? S = some (Zlz "list" #[v,kv] c2):=⟨_,Zoc nS2.1 fun _=>#[v,kv]⟩
 show Zij _ X.A.in1 (Zqr S (fun _=>#[v,kv]) >>= _) _ _ _
 refine Zhl ?_
 refine Zlm nS2.1 rfl ?_
 rw [hname]
 have I5 : Inv X (pins++[(S,Zlz "list" #[v,kv] c2),(I0,oI')]) σ H2 { s2 with heap:=s2.heap.update S (Zj7 fun _=>#[v,kv]) }:=I4.reset (t':=s2.toks) (fpS H2 nS2.2.1) (fun q hq=>by rw [Zhp.mp hq]; exact Zi4 hSI) (fun c u hc q=>(s1.2 c hc).trans q) hc2 (fun v z=>by cases z)
 refine Zhz ⟨Zkm Zj3 _,zwm hh hlI hSI fpS fpI hJl hkl turn hlt tr asy (fun i x v H' s' h1 h2 h3 h4 h5=>hQ i x v H' s' h1 h2 h3 h4 h5) _ 0 0 H2 _ x y2 v kv k c2 oI' rfl hne I5 hJ2 ⟨hoc,hod⟩ hx rx hk ry2 rp2 (Zhu _) fun j' hj'=>?_⟩
 have e : j' = 0:=by omega
 subst e
 refine ⟨?_,fun h=>absurd h (Zi3 _)⟩
 cases hq : lt 0 0 with
 | false=>rfl
 | true=>have:=asy _ _ hq; rw [hq] at this; cases this
end
end L2
namespace L2
open PySem PySem.W PySem.Spec PyProof.Rows PySem.Calls
open PySem.MeetsSeq PySem.MeetsSeq2 PySem.MeetsSeq3
open AutoSeq1 (wpAny_loadPart')
theorem zi0 {x y : Int} {xs ys : List Int} : decide (x::xs < y::ys) = if x = y then decide (xs < ys) else decide (x < y):=by
 by_cases h : x = y
 ·subst h
  rw [if_pos rfl,Zil]
  simp only [decide_eq_true_eq,Zi1]
  exact ⟨fun h=>h.elim (fun z=>absurd z (Int.lt_irrefl _)) fun z=>z.2,fun h=>.inr ⟨trivial,h⟩⟩
 ·rw [if_neg h,Zil]
  simp only [decide_eq_true_eq,Zi1]
  exact ⟨fun z=>z.elim id fun z=>absurd z.1 h,fun z=>.inl z⟩
theorem zt7 (x y : Int) : decide ((D.int x).fo < (D.int y).fo) = decide (x < y):=by
 rw [Zil]
 simp [D.fo,Zi1]
theorem ybb (l b : Addr) (items items2 : Array Value) (n n2 : Nat) (dd dd2 : Option Addr) (sl sl2 : Array (Option Value)) (xs ys : List Int) (h1 : ∀ (i : Nat) (x : Int),xs[i]? = some x -> ∃ t,items[i]? = some (Zk6 x t)) (h2 : ∀ (i : Nat) (x : Int),ys[i]? = some x -> ∃ t,items2[i]? = some (Zk6 x t))
  (z1 : items.size = xs.length) (z2 : items2.size = ys.length) (hsz : xs.length = ys.length) (k : Nat) :
  ∀ i : Nat,xs.length - i = k->Meets (Ziv.«list.__eq__.loop» ⟨[.ref l,.ref b,Zu1 i,Zu1 0],[]⟩)
   (fun _ R s=>s.heap.get? l = some { cls:=.type "list", dict:=dd,data:=.seq items n,slots:=sl }/\s.heap.get? b = some { cls:=.type "list", dict:=dd2,data:=.seq items2 n2,slots:=sl2 } /\
    R (.ok (.ret (.bool (decide (xs.drop i < ys.drop i))))) s):=by
 induction k with
 | zero =>
  intro i hk prog w A R s h
  obtain ⟨hp,g,d,tk,os⟩:=s; obtain ⟨hl,hb,h⟩:=h
  wp_walk using Zja hl,Zja hb
  have hi1 : items[((i : Nat) : Int).toNat]? = none:=by simp; omega
  have hi2 : items2[((i : Nat) : Int).toNat]? = none:=by simp; omega
  have hd : xs.drop i = []:=by simp; omega
  have hd2 : ys.drop i = []:=by simp; omega
  rw [hd,hd2] at h
  rw [hi1,hi2]
  wp_walk using Zja hl,Zja hb
  show R (.ok (.ret (.bool (decide (items.size < items2.size))))) _
  rw [decide_eq_false (show ¬ items.size < items2.size by omega)]
  simpa using h
 | succ k ih =>
  intro i hk prog w A R s h
  obtain ⟨hp,g,d,tk,os⟩:=s; obtain ⟨hl,hb,h⟩:=h
  wp_walk using Zja hl,Zja hb
  have hlt : i < xs.length:=by omega
  have hlt2 : i < ys.length:=by omega
  obtain ⟨t1,e1⟩:=h1 i xs[i] (Zhj hlt)
  obtain ⟨t2,e2⟩:=h2 i ys[i] (Zhj hlt2)
  have hi1 : items[((i : Nat) : Int).toNat]? = some (.int xs[i] t1):=by simpa using e1
  have hi2 : items2[((i : Nat) : Int).toNat]? = some (.int ys[i] t2):=by simpa using e2
  have hc : ((i : Int) + 1) = ((i + 1 : Nat) : Int):=by push_cast; rfl
  rw [Zmw hlt,Zmw hlt2,zi0] at h
  rw [hi1,hi2]
  refine Zhl (zlv (t:=.i) (d:=.int xs[i]) (e:=.int ys[i]) rfl rfl ⟨t1,rfl⟩ ⟨t2,rfl⟩ ?_)
  by_cases he : xs[i] = ys[i]
  ·rw [if_pos he] at h
   rw [decide_eq_true (show D.int xs[i] = D.int ys[i] by rw [he])]
   wp_walk
   rw [hc]
   exact ⟨Zkm plain_eq_loop _,Zk5 entry_eq_loop (by
    rw [Zjx plain_eq_loop _]
    exact ih (i + 1) (by omega) prog w A R _ ⟨hl,hb,h⟩)⟩
  ·rw [if_neg he] at h
   rw [decide_eq_false (show ¬ D.int xs[i] = D.int ys[i] from fun z=>he (by injection z))]
   wp_walk using Zja hl,Zja hb
   rw [hi1,hi2]
   refine Zhl (zl6 (t:=.i) (d:=.int xs[i]) (e:=.int ys[i]) rfl rfl ⟨t1,rfl⟩ ⟨t2,rfl⟩ ?_)
   rw [zt7]
   wp_walk
   simpa using h
theorem ya1 (l b : Addr) (items items2 : Array Value) (n n2 : Nat) (dd dd2 : Option Addr) (sl sl2 : Array (Option Value)) (xs ys : List Int) (h1 : ∀ (i : Nat) (x : Int),xs[i]? = some x -> ∃ t,items[i]? = some (Zk6 x t)) (h2 : ∀ (i : Nat) (x : Int),ys[i]? = some x -> ∃ t,items2[i]? = some (Zk6 x t))
  (z1 : items.size = xs.length) (z2 : items2.size = ys.length) (hsz : xs.length = ys.length) :
  Meets (Ziv.«list.__lt__» ⟨[.ref l,.ref b],[]⟩)
   (fun _ R s=>s.heap.get? l = some { cls:=.type "list", dict:=dd,data:=.seq items n,slots:=sl }/\s.heap.get? b = some { cls:=.type "list", dict:=dd2,data:=.seq items2 n2,slots:=sl2 } /\
    R (.ok (.ret (.bool (decide (xs < ys))))) s):=by
 intro prog w A R s h
 obtain ⟨hp,g,d,tk,os⟩:=s; obtain ⟨hl,hb,h⟩:=h
 have f3:=AutoSeq1.sub_list_list
 wp_walk using Zja hl,Zja hb
 exact ⟨Zkm plain_eq_loop _,Zk5 entry_eq_loop (by
  rw [Zjx plain_eq_loop _]
  exact ybb l b items items2 n n2 dd dd2 sl sl2 xs ys h1 h2 z1 z2 hsz _ 0 rfl prog w A R _ ⟨hl,hb,by simpa using h⟩)⟩
inductive LexC (prog : Ziq) (w : Zjv) (A : Zi0) (s : Zhq) : List Value->List Value->Bool->Prop
 | nil : LexC prog w A s [] [] false
 | eq {u v : Value} {us vs : List Value} {r : Bool} (h : ∀ (E : Value->Zhq->Prop) (Q : Bool->Zhq->Prop),Q true s->Zij (Zix prog w) A (eqBool u v) Q E s) (t : LexC prog w A s us vs r) : LexC prog w A s (u::us) (v::vs) r
 | ne {u v : Value} {us vs : List Value} {r : Bool} (h : ∀ (E : Value->Zhq->Prop) (Q : Bool->Zhq->Prop),Q false s->Zij (Zix prog w) A (eqBool u v) Q E s) (g : ∀ (E : Value->Zhq->Prop) (Q : Value->Zhq->Prop),Q (.bool r) s->Zij (Zix prog w) A (Zm0 .Lt u v) Q E s) : LexC prog w A s (u::us) (v::vs) r
theorem zo5 (prog : Ziq) (w : Zjv) (l b : Addr) (items items2 : Array Value) (n n2 : Nat) (dd dd2 : Option Addr) (sl sl2 : Array (Option Value)) (hsz : items.size = items2.size) (r : Bool) :
  MeetsIn prog w (Ziv.«tuple.__lt__» ⟨[.ref l,.ref b],[]⟩)
   (fun A R s=>s.heap.get? l = some { cls:=.type "tuple", dict:=dd,data:=.seq items n,slots:=sl }/\s.heap.get? b = some { cls:=.type "tuple", dict:=dd2,data:=.seq items2 n2,slots:=sl2 } /\
    LexC prog w A.in1 s items.toList items2.toList r/\R (.ok (.ret (.bool r))) s) :=
 .of_wp fun A R s h=>by
  obtain ⟨hp,g,d,tk,os⟩:=s; obtain ⟨hl,hb,hx,h⟩:=h
  have f2:=AutoSeq1.sub_tuple_tuple
  wp_walk using Zja hl,Zja hb,wpAny_forIn_list _ (fun rest b s'=>b.1 = none/\s' = ⟨hp,g,d,tk,os⟩ /\ ∃ (vs ws : List Value),rest = vs.zip ws/\LexC prog w A.in1 ⟨hp,g,d,tk,os⟩ vs ws r) _
  case turn =>
   rintro ⟨y,x⟩ rest b s' ⟨hb',rfl,vs,ws,hz,hc⟩
   cases hc with
   | nil=>cases hz
   | eq he ht =>
    rw [Zms] at hz
    injection hz with hyx hrest
    injection hyx with hy hx
    subst hy hx
    refine Zhl (he _ _ ?_)
    wp_walk
    exact ⟨rfl,rfl,_,_,hrest,ht⟩
   | ne he hg =>
    rw [Zms] at hz
    injection hz with hyx hrest
    injection hyx with hy hx
    subst hy hx
    refine Zhl (he _ _ ?_)
    refine Zhl (wpAny_rule ?_)
    refine Zhl (hg _ _ ?_)
    wp_walk
    exact ⟨_,rfl,by simpa using h⟩
  case fin =>
   rintro ⟨b1,b2⟩ s' ⟨hb',rfl,vs,ws,hz,hc⟩
   simp only at hb'
   subst hb'
   cases hc with
   | nil =>
    wp_walk
    exact ⟨_,rfl,by
     have hd : decide (items.size < items2.size) = false:=decide_eq_false (by omega)
     simpa [Zt4,hd] using h⟩
   | eq he ht=>rw [Zms] at hz; cases hz
   | ne he hg=>rw [Zms] at hz; cases hz
  case h =>
   exact ⟨rfl,rfl,items.toList,items2.toList,rfl,hx⟩
end L2
namespace L2
open PySem PySem.W PySem.Spec PyProof.Rows
noncomputable def slots (n : Nat) (ds : List D) : List Sl:=ds.map Sl.d++Zn1 (n - ds.length) .un
section
variable {K : Zhi} {H : Hp} {vs : List V} {Q : VK} {X : XK} {N : List Str} {t : TS} {pre : List D->Prop}
theorem zdr {G : Hp} {ds : List D} (sm : Same G H) (r : Reps K G ds vs) (hN : vs.length <= N.length) : Sat K G H G G H (zg0 N vs) (slots N.length ds):=by
 have hl:=r.length
 have ads : ∀ (i : Nat) s,(slots N.length ds)[i]? = some s->s.ads = []:=fun i s hs=>by
  have hm:=Zhs hs
  unfold slots at hm
  rcases Zhw.mp hm with h | h
  ·obtain ⟨d,_,rfl⟩:=Zh3.mp h; rfl
  ·rw [Zqg h]; rfl
 refine ⟨Ext.refl sm,Same.refl _,?_,fun i s hs=>?_,fun i s hs=>by rw [ads i s hs]; exact Zn2,fun i j s s' _ hs _ p hp=>by rw [ads i s hs] at hp; cases hp⟩
 ·unfold zg0 slots; simp; lia
 ·by_cases hi : i < ds.length
  ·have e : (slots N.length ds)[i]? = some (.d ds[i]):=by
    unfold slots
    rw [Zi8 (by simpa using hi),Zho,Zhj hi]; rfl
   rw [e] at hs
   cases hs
   obtain ⟨v,hv,rv⟩:=r.get' (Zhj hi)
   refine ⟨v,?_,rv⟩
   unfold zg0
   rw [Zhh,Zi8 (by simp; lia),Zho,hv]; rfl
  ·have hm : s = .un:=by
    unfold slots at hs
    rw [Ziw (by simp; lia)] at hs
    exact Zqg (Zhs hs)
   rw [hm]; trivial
theorem ycv {res : List D->D} (h : SpD K pre res vs H Q X) (hN : vs.length <= N.length) (body : ∀ G ds,pre ds->RtD K G H Q (res ds)->Go K G H G { nx:=fun _ H'=>Q .non H',rt:=Q } (slots N.length ds) t) : t { nx:=fun _ H'=>Q .non H',rt:=Q } (zg0 N vs) H:=by
 obtain ⟨G,ds,sm,r,hp,q⟩:=h
 exact body G ds hp (fun v F H' e r=>q v F H' e r) G H _ (zdr sm r hN)
theorem yc2 {res : List D->List D} (h : SpO K pre res vs H Q X) (hN : vs.length <= N.length) (body : ∀ G ds,pre ds->RtO K G H Q (res ds)->Go K G H G { nx:=fun _ H'=>Q .non H',rt:=Q } (slots N.length ds) t) : t { nx:=fun _ H'=>Q .non H',rt:=Q } (zg0 N vs) H:=by
 obtain ⟨G,ds,sm,r,hp,q⟩:=h
 exact body G ds hp (fun p ws F H' e h1 h2 h3 r=>q p ws F H' e h1 h2 h3 r) G H _ (zdr sm r hN)
theorem zt4 {res : List D->D} {n : Nat} (hpre : ∀ ds,pre ds->ds.length = n) (h : SpD K pre res vs H Q X) : vs.length = n:=by
 obtain ⟨G,ds,sm,r,hp,q⟩:=h
 rw [<- r.length]; exact hpre ds hp
theorem zuu {res : List D->List D} {n : Nat} (hpre : ∀ ds,pre ds->ds.length = n) (h : SpO K pre res vs H Q X) : vs.length = n:=by
 obtain ⟨G,ds,sm,r,hp,q⟩:=h
 rw [<- r.length]; exact hpre ds hp
end
section
variable {K : Zhi} {G H₀ L : Hp} {ss : List Sl} {t ta tb : TE} {d : D} {ds es : List D} {i j : Int}
theorem zcy (a : EvB K G H₀ L ss ta (.int i)) (b : EvB K G H₀ L ss tb (.int j)) (h : 0 < j) : Ev K G H₀ L ss (tOp (rI (fun _ j=>0 < j) fun i j=>.int (i % j)) ta tb) (.int (i % j)):=zrs (C:=fun _ j=>0 < j) (g:=fun i j=>i % j) a b h
theorem yee (a : EvB K G H₀ L ss ta (.int i)) (b : EvB K G H₀ L ss tb (.int j)) (h : CMul i j) : Ev K G H₀ L ss (tOp (rI CMul fun i j=>.int (i * j)) ta tb) (.int (i * j)):=zrs (C:=CMul) (g:=fun i j=>i * j) a b h
theorem zel (a : EvB K G H₀ L ss ta (.int i)) (b : EvB K G H₀ L ss tb (.int j)) (h : CDiv i j) : Ev K G H₀ L ss (tOp (rI CDiv fun i j=>.int (i / j)) ta tb) (.int (i / j)):=zrs (C:=CDiv) (g:=fun i j=>i / j) a b h
theorem zqt (a : EvB K G H₀ L ss ta (.int i)) (b : EvB K G H₀ L ss tb (.int j)) : Ev K G H₀ L ss (tOp (rI0 fun i j=>.bl (decide (i < j))) ta tb) (.bl (decide (i < j))):=zlr (g:=fun i j=>decide (i < j)) a b
end
theorem zry (n d : Nat) {a : Int} (h : 0 <= a) : HT.sIx n d (some a) = min a.toNat n:=by
 show (if a < 0 then (a + (n : Int)).toNat else min a.toNat n) = _
 rw [if_neg (by lia)]
theorem zwh (m : List D) {a : Int} (h : 0 <= a) : cutD m none (some a) = m.take a.toNat:=by
 unfold cutD
 rw [zry _ _ h,show HT.sIx m.length 0 none = 0 from rfl,Zsr,Zuo,<- List.take_eq_take_min]
theorem zll (m : List D) {b : Int} (h : 0 <= b) : cutD m (some b) none = m.drop b.toNat:=by
 unfold cutD
 rw [zry _ _ h,show HT.sIx m.length m.length none = m.length from rfl,Znh (by rw [Zme]; lia)]
 by_cases hh : b.toNat <= m.length
 ·rw [Zpt hh]
 ·rw [Zsg (by lia),Zo5,Zni (by lia)]
theorem zyd (m : List D) {a b : Int} (h : 0 <= a) (h2 : a <= b) : cutD m (some a) (some b) = (m.drop a.toNat).take (b.toNat - a.toNat):=by
 unfold cutD
 rw [zry _ _ h,zry _ _ (by lia)]
 by_cases h3 : a.toNat <= m.length
 ·rw [Zpt h3]
  by_cases h4 : b.toNat <= m.length
  ·rw [Zpt h4]
  ·rw [Zsg (by lia),Znh (by simp),Znh (by simp; lia)]
 ·rw [Zni (as:=m) (i:=a.toNat) (by lia),Zni (by omega)]; simp
theorem zyi {α β : Type} (xs : List α) (z : α) (p : α->Bool) (f : α->β) : ((Zhm xs.length).filter fun i=>p (xs.getD i z)).map (fun i=>f (xs.getD i z)) = (xs.filter p).map f:=by
 have e : xs = (Zhm xs.length).map fun i=>xs.getD i z:=by
  refine Zkl fun i=>?_
  rw [Zho]
  by_cases hi : i < xs.length
  ·rw [Zji hi,Zhj hi]; simp [Zhh,hi]
  ·rw [Zis (by lia),Zis (by simp; lia)]; rfl
 conv=>rhs; rw [e]
 rw [Znq,Zim]
 rfl
section
variable {K : Zhi} {G H₀ L : Hp} {ss : List Sl}
theorem zit {α : Type} (xs : List α) (enc : α->D) (p : α->Bool) (f : α->D) {tl : TE} {g : TG} {tt : TT} {te : TE} {nt : Nat} {cs : List Nat} (a : EvL K G H₀ L ss tl (xs.map enc)) (hk : GK nt g) (hc : cs.Nodup) (hz : xs.length < sizeLine)
  (hs : ∀ x∈xs,∃ ss',Tg K G H₀ L g (enc x) (lcSl nt cs ss) ss'/\EvT K G H₀ L ss' tt (p x)/\(p x = true->Ev K G H₀ L ss' te (f x))) :
  EvO K G H₀ L ss (tLC nt cs (zv3 K tl) g tt te) ((xs.filter p).map f):=by
 cases xs with
 | nil =>
  have:=zj2 (p:=fun _=>true) (f:=fun _=>.non) (tt:=tt) (te:=te) (zrt a) hk hc (by simpa using hz) (fun i hi=>by simp at hi)
  simpa using this
 | cons z zs =>
  have hl : ((z::zs).map enc).length = (z::zs).length:=by simp
  have:=zj2 (p:=fun i=>p ((z::zs).getD i z)) (f:=fun i=>f ((z::zs).getD i z)) (tt:=tt) (te:=te) (zrt a) hk hc (by rw [hl]; exact hz) (fun i hi=>by
   rw [hl] at hi
   have hm : (z::zs).getD i z∈(z::zs):=by
    rw [Zhh,Zhj hi]; exact Zkc hi
   have e : ((z::zs).map enc).getD i .non = enc ((z::zs).getD i z):=by
    rw [Zhh,Zho,Zhh,Zhj hi]; rfl
   rw [e]
   exact hs _ hm)
  rw [hl,zyi] at this
  exact this
theorem zja : EvT K G H₀ L ss zwq true:=fun F H σ Q S q=>q _ _ (Ext.refl S.ext.fh)
theorem zqu {α : Type} (xs : List α) (enc : α->D) (f : α->D) {tl : TE} {g : TG} {te : TE} {nt : Nat} {cs : List Nat} (a : EvL K G H₀ L ss tl (xs.map enc)) (hk : GK nt g) (hc : cs.Nodup) (hz : xs.length < sizeLine)
  (hs : ∀ x∈xs,∃ ss',Tg K G H₀ L g (enc x) (lcSl nt cs ss) ss'/\Ev K G H₀ L ss' te (f x)) :
  EvO K G H₀ L ss (tLC nt cs (zv3 K tl) g zwq te) (xs.map f):=by
 have:=zit xs enc (fun _=>true) f a hk hc hz (tt:=zwq) (te:=te) fun x hx=>by
  obtain ⟨ss',h1,h2⟩:=hs x hx
  exact ⟨ss',h1,zja,fun _=>h2⟩
 rw [show xs.filter (fun _=>true) = xs from Zk1.mpr (by simp)] at this
 exact this
theorem znw {α : Type} {xs : List α} {g : α->Bool} {t : TE} (b : EvL K G H₀ L ss t (xs.map fun x=>D.bl (g x))) : Ev K G H₀ L ss (tCB (rAll K) (za5 t tNil)) (.bl (xs.all g)):=by
 have:=yed (K:=K) (G:=G) (H₀:=H₀) (L:=L) (ss:=ss) (t:=t) (bs:=xs.map g) (by rw [Zim]; exact b)
 rw [List.all_map] at this
 exact this
end
end L2
namespace L2T
open PySem
structure TOk (t : Zqk) : Prop where
 pl : t.place.toList.Pairwise (· < ·)
 du : t.dummies.toList.Pairwise (· < ·)
 ple : ∀ j∈t.place.toList,j <= t.mask
 dle : ∀ j∈t.dummies.toList,j <= t.mask
 dis : ∀ j∈t.dummies.toList,j ∉ t.place.toList
 pow : ∃ k,t.mask + 1 = 2 ^ (k + 3)
 big : t.mask <= 8191
end L2T
namespace L2T
open PySem SetTable
noncomputable def advM (mask : Nat) (p : Probe) : Probe :=
 if p.more > 0 then { p with j:=p.j + 1,more:=p.more - 1 } else
 let (i,perturb):=leap mask p.i p.perturb
 { p with j:=i,more:=runEnd mask i - i,i,perturb }
noncomputable def stM (mask i perturb : Nat) : Probe:={ j:=i,more:=runEnd mask i - i,i,perturb,dummy:=none }
noncomputable def prM (mask : Nat) (h : Int) : Nat->Probe
 | 0=>stM mask (bits h % (mask + 1)) (bits h)
 | n + 1=>advM mask (prM mask h n)
noncomputable def posM (mask : Nat) (h : Int) (n : Nat) : Nat:=(prM mask h n).j
noncomputable def ye0 (t : Zqk) (h : Int) (j : Nat) : Prop:=∃ n,posM t.mask h n = j /\ ∀ m,m < n->t.slot (posM t.mask h m) ≠ .empty
structure SOk {α : Type} (t : Zqk) (es : List (Int × α)) : Prop where
 ok : TOk t
 room : t.fill * 5 < t.mask * 3
 size : t.place.size = es.length
 reach : ∀ c∈t.place.toList.zip es,ye0 t c.2.1 c.1
noncomputable def yev (mask : Nat) (owner : Array (Option Nat)) : List (Nat × Nat):=(Zhm (mask + 1)).filterMap fun j=>(owner.getD j none).map (j,·)
structure LInv (mask : Nat) (hs : List Int) (owner : Array (Option Nat)) : Prop where
 size : owner.size = mask + 1
 perm : ((yev mask owner).map (·.2)).Perm (Zhm hs.length)
 reach : ∀ j i,owner.getD j none = some i -> ∃ h,hs[i]? = some h /\ ∃ n,posM mask h n = j /\ ∀ q,q < n->owner.getD (posM mask h q) (some 0)≠none
end L2T
namespace L2
open PySem PySem.Spec PyProof.Rows L2T
inductive SK where
 | one (k : Key)
 | many (ks : List Key)
 deriving DecidableEq
noncomputable def SK.flat : SK->Bool
 | .one _=>true
 | .many _=>false
section
variable (prog : Ziq) (w : Zjv)
noncomputable def SK.is (h : Heap) : SK->Value->Prop
 | .one k,v=>(zbd prog w).is k v = true
 | .many ks,v=>∃ a,v = .ref a/\IsTupleKey (zbd prog w) h ks a
noncomputable def SK.hash : SK->Int
 | .one k=>(zbd prog w).hash k
 | .many ks=>tupleKeyHash (zbd prog w) ks
inductive Es (h : Heap) : List SK->List (Int × Value)->Prop
 | nil : Es h [] []
 | cons {k : SK} {e : Int × Value} {ks : List SK} {es : List (Int × Value)} : e.1 = k.hash prog w->k.is prog w h e.2->Es h ks es->Es h (k::ks) (e::es)
noncomputable def led0 : Bool:=!w.params.followText "set-order"
structure SetO (h : Heap) (o : Obj) (ks : List SK) (es : Array (Int × Value)) (ep : Nat) (t : Zqk) : Prop where
 ex : o.ExactSet
 data : o.data = .set es ep t
 tab : SOk t es.toList
 ent : Es prog w h ks es.toList
 nod : ks.Nodup
 small : ks.length <= 1000
 led : t.led = led0 w
 kind : ∃ f,∀ k∈ks,k.flat = f
end
section
variable {prog : Ziq} {w : Zjv} {A : Zi0} {E : Value->Zhq->Prop} {s : Zhq}
theorem zsr {n : Nat} (h : n <= 1001) : n <= sizeLine:=by rw [Zh2]; lia
end
section
variable {prog : Ziq} {w : Zjv} {A : Zi0} {E : Value->Zhq->Prop} {s : Zhq}
structure SetL (w : Zjv) (o : Obj) (es : Array (Int × Value)) (ep : Nat) (t : Zqk) : Prop where
 data : o.data = .set es ep t
 tab : SOk t es.toList
 led : t.led = led0 w
end
section
variable {prog : Ziq} {w : Zjv} {A : Zi0} {E : Value->Zhq->Prop} {s : Zhq}
structure Part (prog : Ziq) (w : Zjv) (k0 : List SK) (items : Array Value) (i : Nat) (ks : List SK) (es : Array (Int × Value)) : Prop where
 mem : ∀ k,k∈ks ↔ ∃ j : Nat,j < i/\k0[j]? = some k
 len : ks.length <= i
 ent : ∀ e∈es.toList,∃ j : Nat,items[j]? = some e.2
end
section
variable {prog : Ziq} {w : Zjv} {A : Zi0} {E : Value->Zhq->Prop} {s : Zhq}
structure Took (kb : List SK) (p : SK->Bool) (es0 : List (Int × Value)) (kd : List SK) (kr : List SK) (er : Array (Int × Value)) : Prop where
 mem : ∀ k,k∈kr ↔ k∈kb \/ (k∈kd/\p k = true)
 len : kr.length <= kb.length + kd.length
 ent : ∀ e∈er.toList,e∈es0
end
noncomputable def D.kk : D->Key
 | .int i=>.inl i
 | .str l=>.inr (T l)
 | _=>.inl 0
noncomputable def D.fl : D->Bool
 | .int _=>true
 | .str _=>true
 | _=>false
noncomputable def D.hk : Bool->D->Bool
 | true,d=>d.fl
 | false,.tup ds=>ds.all D.fl
 | false,_=>false
end L2
namespace L2
open PySem PySem.W PyProof.Rows L2T
noncomputable def ze3 (K : Zhi) : R2:=fun x y H Q=>∃ l b xs zs,x = .ref l/\y = .ref b/\SqL K H l xs/\SqL K H b zs/\xs.length + zs.length <= sizeLine /\ ∀ p,H p = none->Q (.ref p) (upd H p (.lst (xs++zs)))
theorem zcj {X : Cx} : OpR X (Zoi .Add) (ze3 X.K):=by
 intro pins s σ H x y v u Q I rx ry h
 obtain ⟨l,b,xs,zs,rfl,rfl,hl,hb,hz,q⟩:=h
 cases rx
 cases ry
 obtain ⟨its,r,pl,_⟩:=I.list hl
 obtain ⟨its2,r2,pl2,_⟩:=I.list hb
 have z1:=r.length
 have z2:=r2.length
 obtain ⟨⟨cls,dd,data,sl⟩,ho,hc,n,hd⟩:=pl.isList
 obtain ⟨⟨cls2,dd2,data2,sl2⟩,ho2,hc2,n2,hd2⟩:=pl2.isList
 dsimp only at hc hd hc2 hd2
 subst hc; subst hd; subst hc2; subst hd2
 refine concat_meets ⟨_,ho,rfl⟩ ⟨_,ho2,rfl⟩ noFill_list_add seq_list_add PySem.F.slot_list_add PySem.F.entry_list_add (PySem.F.args_list_add_2 _ _) (list_addW l b its.toArray its2.toArray n n2 dd dd2 sl sl2 (by simp; lia)) ⟨ho,ho2,?_⟩
 have ea : its.toArray++its2.toArray = (its++its2).toArray:=by simp
 rw [ea]
 exact ⟨.ref _,_,I.lnew (t':=s.toks) (r.append r2) (by rw [Zh1]; omega),rfl,q _ I.fresh⟩
section
variable {K : Zhi} {G H₀ L : Hp} {ss : List Sl} {ta tb : TE} {da db : List D}
theorem zfp (a : EvL K G H₀ L ss ta da) (b : EvL K G H₀ L ss tb db) (hz : da.length + db.length <= sizeLine) : EvO K G H₀ L ss (tOp (ze3 K) ta tb) (da++db):=fun F H σ Q S q =>
 a F H σ _ S fun p vs F1 H1 e1 sq1 r1=>b F1 H1 σ _ (S.ext2 e1) fun p2 vs2 F2 H2 e2 sq2 r2=>by
  have l1:=r1.length
  have l2:=r2.length
  refine ⟨p,p2,vs,vs2,rfl,rfl,SqL.same e2.hh sq1,sq2,by lia,fun l hl=>?_⟩
  have e12:=e1.trans e2
  exact q l _ F2 _ (e12.newO hl) (e12.hh.free hl) (e12.fh.free hl) zap ((r1.mono e2.gf).append r2)
theorem zh2 {d : D} {v : V} (r : ∀ H,Rep K H d v) : Ev K G H₀ L ss (tC v) d:=fun F H σ Q S q=>q _ _ _ (Ext.refl S.ext.fh) (r _)
end
end L2
namespace L2
open PySem PySem.W PySem.Spec PyProof.Rows
end L2
namespace L2
open PySem PySem.W PyProof.Rows L2T
theorem Reps.rev {K : Zhi} {H : Hp} : ∀ {ds : List D} {xs : List V},Reps K H ds xs->Reps K H ds.reverse xs.reverse
 | [],xs,h=>by rw [Reps] at h; subst h; exact Reps.nil
 | d::ds,xs,h=>by
  rw [Reps] at h
  obtain ⟨x,xs',rfl,h1,h2⟩:=h
  rw [Zku,Zku]
  exact h2.rev.snoc h1
section
variable {K : Zhi} {G H₀ L : Hp} {ss : List Sl} {ta tb t : TE}
theorem zpi {ta : TA} {n : Int} (a : EvA K G H₀ L ss ta [.int n]) (hb : -(2 ^ 62) <= n/\n < 2 ^ 62) : EvI K G H₀ L ss (ydr ta) n.toNat fun i=>.int (i : Int):=fun F H σ R S q =>
 a F H σ _ S fun vs F1 H1 e1 r1=>by
  rw [Reps] at r1
  obtain ⟨x,r,rfl,rx,r1⟩:=r1
  rw [Reps] at r1
  subst r1
  rw [rx.of_int]
  refine ⟨n,rfl,hb.1,hb.2,q F1 H1 _ e1 fun F2 H2 f1 h1 fh=>⟨fun i hi=>⟨hi,fun x H3 y=>?_⟩,Zhu _⟩⟩
  obtain ⟨rfl,rfl⟩:=y
  refine ⟨F2,Ext.refl fh,?_⟩
  have e : (0 : Int) + (i : Int) = (i : Int):=by lia
  rw [e]
  exact Rep.int
theorem zpu {i j : Int} (a : EvB K G H₀ L ss ta (.int i)) (b : EvB K G H₀ L ss tb (.int j)) : Ev K G H₀ L ss (tCB (fun xs H Q=>∃ i j,xs = [.int i,.int j]/\Q (.int (if j > i then j else i)) H) (za5 ta (za5 tb tNil))) (.int (if j > i then j else i)):=fun F H σ Q S q =>
 a F H σ _ S fun v F1 H1 e1 r1=>b F1 H1 σ _ (S.ext2 e1) fun v2 F2 H2 e2 r2=>by
  rw [r1.of_int,r2.of_int]
  exact ⟨i,j,rfl,q _ F2 H2 (e1.trans e2) Rep.int⟩
theorem zpl {i j : Int} (a : EvB K G H₀ L ss ta (.int i)) (b : EvB K G H₀ L ss tb (.int j)) : Ev K G H₀ L ss (tCB (fun xs H Q=>∃ i j,xs = [.int i,.int j]/\Q (.int (if j < i then j else i)) H) (za5 ta (za5 tb tNil))) (.int (if j < i then j else i)):=fun F H σ Q S q =>
 a F H σ _ S fun v F1 H1 e1 r1=>b F1 H1 σ _ (S.ext2 e1) fun v2 F2 H2 e2 r2=>by
  rw [r1.of_int,r2.of_int]
  exact ⟨i,j,rfl,q _ F2 H2 (e1.trans e2) Rep.int⟩
theorem zlo {i j : Int} (a : EvB K G H₀ L ss ta (.int i)) (b : EvB K G H₀ L ss tb (.int j)) : Ev K G H₀ L ss (tOp (rI0 fun i j=>.bl (decide (j < i))) ta tb) (.bl (decide (j < i))):=zlr (g:=fun i j=>decide (j < i)) a b
theorem zza {i j : Int} (a : EvB K G H₀ L ss ta (.int i)) (b : EvB K G H₀ L ss tb (.int j)) : Ev K G H₀ L ss (tOp (rI0 fun i j=>.bl (decide (i <= j))) ta tb) (.bl (decide (i <= j))):=zlr (g:=fun i j=>decide (i <= j)) a b
theorem ztq {i j : Int} (a : EvB K G H₀ L ss ta (.int i)) (b : EvB K G H₀ L ss tb (.int j)) : Ev K G H₀ L ss (tOp (rI0 fun i j=>.bl (decide (j <= i))) ta tb) (.bl (decide (j <= i))):=zlr (g:=fun i j=>decide (j <= i)) a b
theorem zpn {ds : List D} (a : EvL K G H₀ L ss t ds) : EvO K G H₀ L ss (zrb K (za5 t tNil)) ds.reverse:=fun F H σ Q S q =>
 a F H σ _ S fun p vs F' H' e sq r=>⟨p,vs,rfl,sq,fun l hl=>q l vs.reverse F' _ (e.newO hl) (e.hh.free hl) (e.fh.free hl) zap r.rev⟩
end
end L2
namespace L2
open PySem PySem.W PySem.Spec PyProof.Rows
noncomputable def SpRD (K : Zhi) (pre : List D->Prop) (R : List D->D->Prop) : Sp:=fun vs H Q _=>∃ G ds,Same G H/\Reps K G ds vs/\pre ds /\ ∀ r,R ds r -> ∀ v G' H',Ext G H G' H'->Rep K G' r v->Q v H'
section
variable {K : Zhi} {H : Hp} {vs : List V} {Q : VK} {X : XK} {N : List Str} {t : TS} {pre : List D->Prop} {R : List D->D->Prop}
theorem ybw (h : SpRD K pre R vs H Q X) (hN : vs.length <= N.length) (body : ∀ G ds,pre ds->(∀ r,R ds r->RtD K G H Q r)->Go K G H G { nx:=fun _ H'=>Q .non H',rt:=Q } (slots N.length ds) t) : t { nx:=fun _ H'=>Q .non H',rt:=Q } (zg0 N vs) H:=by
 obtain ⟨G,ds,sm,r,hp,q⟩:=h
 exact body G ds hp (fun rs hR v F H' e r=>q rs hR v F H' e r) G H _ (zdr sm r hN)
theorem zq9 {n : Nat} (hpre : ∀ ds,pre ds->ds.length = n) (h : SpRD K pre R vs H Q X) : vs.length = n:=by
 obtain ⟨G,ds,sm,r,hp,q⟩:=h
 rw [<- r.length]; exact hpre ds hp
end
section
variable {K : Zhi} {G H₀ L : Hp} {ss : List Sl} {t : TA} {ds : List D} {pre : List D->Prop} {R : List D->D->Prop} {E : XK} {D0 : Ends} {ta tb te : TE} {i j : Int}
theorem zxy {g : TG} (a : EvAF K G H₀ L ss t ds) (hp : pre ds) (h : ∀ r,R ds r -> ∃ ss',Tg K G H₀ L g r ss ss'/\Nx K G H₀ L D0.nx ss') : Go K G H₀ L D0 ss (tAsg (zhd (SpRD K pre R) [] E t) g):=fun F H σ S =>
 a F H σ _ S fun vs F1 H1 e1 r1=>⟨F1,ds,e1.fh,by rw [Zjj]; exact r1,hp,fun r hR v G' H' e2 rr=>by
  obtain ⟨ss',tg,nx⟩:=h r hR
  exact tg _ H' σ _ _ (S.ext2 (e1.trans e2)) rr fun σ' S'=>nx _ H' σ' S'⟩
theorem yc6 (a : EvB K G H₀ L ss te (.int i)) : Ev K G H₀ L ss (tCB (fun xs H Q=>∃ x,xs = [.int x,.ty "int"]/\Q (.bl true) H) (za5 te (za5 (tC (.ty "int")) tNil))) (.bl true):=fun F H σ Q S q =>
 a F H σ _ S fun v F1 H1 e1 r1=>⟨i,by rw [r1.of_int],q _ _ _ e1 Rep.bl⟩
theorem ybx (a : EvB K G H₀ L ss te (.int i)) : Ev K G H₀ L ss (tCB (fun xs H Q=>∃ x,xs = [.int x,.ty "bool"]/\Q (.bl false) H) (za5 te (za5 (tC (.ty "bool")) tNil))) (.bl false):=fun F H σ Q S q =>
 a F H σ _ S fun v F1 H1 e1 r1=>⟨i,by rw [r1.of_int],q _ _ _ e1 Rep.bl⟩
theorem ydb {b : Bool} (a : EvB K G H₀ L ss te (.bl b)) : Ev K G H₀ L ss (tCB (fun xs H Q=>∃ x,xs = [.bl x,.ty "bool"]/\Q (.bl true) H) (za5 te (za5 (tC (.ty "bool")) tNil))) (.bl true):=fun F H σ Q S q =>
 a F H σ _ S fun v F1 H1 e1 r1=>⟨b,by rw [r1.of_bl],q _ _ _ e1 Rep.bl⟩
theorem zjv (a : EvB K G H₀ L ss te (.int i)) : Ev K G H₀ L ss (tCB (fun xs H Q=>∃ i,xs = [.int i]/\Q (.int (if i < 0 then -i else i)) H) (za5 te tNil)) (.int (if i < 0 then -i else i)):=fun F H σ Q S q =>
 a F H σ _ S fun v F1 H1 e1 r1=>⟨i,by rw [r1.of_int],q _ _ _ e1 Rep.int⟩
theorem ziq (a : EvB K G H₀ L ss te (.int i)) : Ev K G H₀ L ss (tUn (rU fun i=>.int (-i)) te) (.int (-i)):=fun F H σ Q S q =>
 a F H σ _ S fun v F1 H1 e1 r1=>⟨i,by rw [r1.of_int],q _ _ _ e1 Rep.int⟩
theorem ycx (a : EvB K G H₀ L ss ta (.int i)) (b : EvB K G H₀ L ss tb (.int j)) (h : CPow i j) : Ev K G H₀ L ss (tOp (rI CPow fun i j=>.int (i ^ j.toNat)) ta tb) (.int (i ^ j.toNat)):=zrs (C:=CPow) (g:=fun i j=>i ^ j.toNat) a b h
theorem zw5 {ta : TA} {x : Nat} {tb : TS} {m n : Int} (I : Nat->List Sl->Prop) (a : EvA K G H₀ L ss ta [.int m,.int n]) (hm : -(2 ^ 62) <= m/\m < 2 ^ 62) (hb : -(2 ^ 62) <= n/\n < 2 ^ 62) (h0 : I 0 ss)
  (hs : ∀ (k : Nat) ss,m + (k : Int) < n->I k ss -> ∀ N,(∀ ss,I (k + 1) ss->Nx K G H₀ L N ss)->Go K G H₀ L { D0 with nx:=N,ct:=N,bk:=D0.nx } (ss.set x (.d (.int (m + (k : Int))))) tb)
  (hd : ∀ ss,I (n - m).toNat ss->Nx K G H₀ L D0.nx ss) : Go K G H₀ L D0 ss (tFor (ydv ta) (zhv x) tb):=fun F H σ S=>by
 refine (a F H σ _ S fun vs F1 H1 e1 r1=>?_)
 rw [Reps] at r1
 obtain ⟨v1,r,rfl,rx,r1⟩:=r1
 rw [Reps] at r1
 obtain ⟨v2,r,rfl,rx2,r1⟩:=r1
 rw [Reps] at r1
 subst r1
 rw [rx.of_int,rx2.of_int]
 refine ⟨m,n,rfl,⟨hm.1,hm.2,hb.1,hb.2⟩,fun i k σ' H'=>k = (n - m).toNat - i/\i <= (n - m).toNat/\At K G H₀ L (I i) σ' H',⟨_,rfl,Zit _,ss,F1,S.ext2 e1,h0⟩,?_⟩
 rintro i k σ' H' ⟨rfl,hi,ss1,F2,S2,h2⟩
 by_cases hlt : i < (n - m).toNat
 ·refine .inr ⟨hlt,fun σ'' H''=>At K G H₀ L (I (i + 1)) σ'' H'',fun σ'' H'' h=>⟨(n - m).toNat - (i + 1),by omega,rfl,hlt,h⟩,fun x H'' y=>?_⟩
  obtain ⟨rfl,rfl⟩:=y
  exact hs i ss1 (by omega) h2 _ (fun ss h=>zsx h) F2 _ _ (S2.setD Rep.int)
 ·have e : i = (n - m).toNat:=by lia
  subst e
  exact .inl ⟨Zhu _,hd ss1 h2 F2 H' σ' S2⟩
end
end L2
namespace L2
open PySem PySem.W PySem.Spec PyProof.Rows PySem.Builtin PySem.Builtin.Str PySem.StrLaws
end L2
namespace L2
open PySem PySem.W PySem.Spec PyProof.Rows PySem.Builtin PySem.Builtin.Str
end L2
namespace L2
open PySem PySem.W PySem.Spec PyProof.Rows
noncomputable def SpG {α : Type} (K : Zhi) (pre : α->List D->Prop) (res : α->D) : Sp:=fun vs H Q _=>∃ (G : Hp) (ds : List D) (x : α),Same G H/\Reps K G ds vs/\pre x ds /\ ∀ v G' H',Ext G H G' H'->Rep K G' (res x) v->Q v H'
section
variable {α : Type} {K : Zhi} {H : Hp} {vs : List V} {Q : VK} {X : XK} {N : List Str} {t : TS} {pre : α->List D->Prop} {res : α->D}
theorem ydt (h : SpG K pre res vs H Q X) (hN : vs.length <= N.length) (body : ∀ G ds x,pre x ds->RtD K G H Q (res x)->Go K G H G { nx:=fun _ H'=>Q .non H',rt:=Q } (slots N.length ds) t) : t { nx:=fun _ H'=>Q .non H',rt:=Q } (zg0 N vs) H:=by
 obtain ⟨G,ds,x,sm,r,hp,q⟩:=h
 exact body G ds x hp (fun v F H' e r=>q v F H' e r) G H _ (zdr sm r hN)
theorem zuh {n : Nat} (hpre : ∀ x ds,pre x ds->ds.length = n) (h : SpG K pre res vs H Q X) : vs.length = n:=by
 obtain ⟨G,ds,x,sm,r,hp,q⟩:=h
 rw [<- r.length]; exact hpre x ds hp
end
section
variable {α : Type} {K : Zhi} {G H₀ L : Hp} {ss : List Sl} {ta tb tc te : TE} {t : TA} {ds : List D} {E : XK} {pre : α->List D->Prop} {res : α->D}
theorem za1 (x : α) (a : EvAF K G H₀ L ss t ds) (hp : pre x ds) : Ev K G H₀ L ss (zhd (SpG K pre res) [] E t) (res x):=fun F H σ Q S q =>
 a F H σ _ S fun vs F1 H1 e1 r1=>⟨F1,ds,x,e1.fh,by rw [Zjj]; exact r1,hp,fun v G' H' e2 r=>q _ _ _ (e1.trans e2) r⟩
end
end L2
namespace L2
open PySem PySem.W PyProof.Rows
section
variable {X : Cx} {pins : List (Addr × Obj)} {σ : St} {H : Hp} {s : Zhq} {A' : Zi0}
theorem Inv.eqAt (I : Inv X pins σ H s) {d e : D} {x y : V} {u v : Value} (r1 : Rep X.K H d x) (rx : RelV x u) (r2 : Rep X.K H e y) (ry : RelV y v) (n1 : d.nb = true) (n2 : e.nb = true) (hd : d.dep <= 60) (hu : A'.units + 64 < Znt) : SeqAt.EqAt A' s u v (decide (d = e)):=by
 obtain ⟨⟨as,a⟩,c1⟩:=I.reads n1 r1 rx
 obtain ⟨⟨bs,b⟩,c2⟩:=I.reads n2 r2 ry
 have h1:=D.toP_depth d
 have:=SeqAt.eqAt_reads d.toP e.toP A' s u v as bs a b c1 c2 (by lia)
 rw [D.eqv d e n1 n2] at this
 exact this
noncomputable def D.hd : D->D
 | .tup (h::_)=>h
 | d=>d
end
end L2
namespace L2
open PySem PySem.W PySem.Spec PyProof.Rows PySem.Calls
noncomputable def keyD (a b : Int) (xs : List Int) : D:=.tup [.int a,.int b,.lst (xs.map .int)]
section
variable {X : Cx} {pins : List (Addr × Obj)} {σ : St} {H : Hp} {s : Zhq} {A' : Zi0}
theorem zpv {us : List Value} : ∀ {xs : List Int},Vals (xs.map V.int) us -> ∀ (i : Nat) (x : Int),xs[i]? = some x -> ∃ t,us.toArray[i]? = some (Zk6 x t):=fun {xs} r i x h=>by
 obtain ⟨u,hu,ru⟩:=r.get (i:=i) (x:=V.int x) (by rw [Zho,h]; rfl)
 obtain ⟨t,rfl⟩:=ru
 exact ⟨t,by simpa using hu⟩
theorem zjo {F : Hp} : ∀ {ns : List Int} {vs : List V},Reps X.K F (ns.map D.int) vs->vs = ns.map V.int
 | [],vs,r=>by rw [Zl8,Reps] at r; exact r
 | n::ns,vs,r=>by
  rw [Zh5,Reps] at r
  obtain ⟨v,ws,rfl,h1,h2⟩:=r
  rw [h1.of_int,zjo h2]; rfl
theorem zk3 : ∀ {xs ys : List Int},xs.map D.int = ys.map D.int->xs = ys
 | [],[],_=>rfl
 | [],_::_,h=>by simp at h
 | _::_,[],h=>by simp at h
 | x::xs,y::ys,h=>by
  rw [Zh5,Zh5] at h
  injection h with h1 h2
  injection h1 with h1
  rw [h1,zk3 h2]
theorem Inv.key (I : Inv X pins σ H s) {a b : Int} {xs : List Int} {y : V} {u : Value} (r : Rep X.K H (keyD a b xs) y) (ry : RelV y u) :
  ∃ p o its n t1 t2 q y3,u = .ref p/\s.heap.get? p = some o/\o.cls = .type "tuple" /\ o.data = .seq its n/\its.toList = [Zk6 a t1,Zk6 b t2,Zjo q]/\Rep X.K H (.lst (xs.map .int)) y3/\RelV y3 (.ref q) /\
   ∃ ol us m,s.heap.get? q = some ol/\ol.cls = .type "list" /\ ol.data = .seq us m/\us.size = xs.length /\ ∀ (i : Nat) (x : Int),xs[i]? = some x -> ∃ t,us[i]? = some (Zk6 x t):=by
 obtain ⟨p,vs,rfl,sq,rs⟩:=r.of_tup
 cases ry
 obtain ⟨its,rv,⟨o,e,c,n,hd⟩,_⟩:=I.tuple sq
 rw [Reps] at rs
 obtain ⟨x1,vs,rfl,r1,rs⟩:=rs
 rw [Reps] at rs
 obtain ⟨x2,vs,rfl,r2,rs⟩:=rs
 rw [Reps] at rs
 obtain ⟨x3,vs,rfl,r3,rs⟩:=rs
 rw [Reps] at rs
 subst rs
 have e1:=r1.of_int
 have e2:=r2.of_int
 subst e1 e2
 obtain ⟨q,ws,rfl,sq3,rs3⟩:=id r3.of_lst
 have ew:=zjo rs3
 subst ew
 cases rv with
 | cons a1 rv=>cases rv with
  | cons a2 rv=>cases rv with
   | cons a3 rv =>
    cases rv
    obtain ⟨t1,rfl⟩:=a1
    obtain ⟨t2,rfl⟩:=a2
    cases a3
    obtain ⟨us,rv2,⟨ol,m,e3,c3,_,d3⟩,_⟩:=I.list sq3
    have hl:=rv2.length
    rw [Zhk] at hl
    exact ⟨p,o,_,n,t1,t2,q,.ref q,rfl,e,c,hd,rfl,r3,rfl,ol,us.toArray,m,e3,c3,d3,by simp [hl],zpv rv2⟩
theorem yck (I : Inv X pins σ H s) {a b a' b' : Int} {xs ys : List Int} {y z : V} {u v : Value} {C : Value -> Zhq -> Prop} {E : Value -> Zhq -> Prop} (r1 : Rep X.K H (keyD a b xs) y) (ry : RelV y u) (r2 : Rep X.K H (keyD a' b' ys) z) (rz : RelV z v) (hl : xs.length = ys.length) (hu : A'.units + 70 < Znt)
  (hC : C (.bool (decide (a::b::xs < a'::b'::ys))) s) : Zij (Zix X.prog X.w) A' (Zm0 .Lt u v) C E s:=by
 obtain ⟨p,⟨cls,dd,data,sl⟩,its,n,t1,t2,q,y3,rfl,ho,hc,hd,hits,r3,ry3,⟨clsl,ddl,datal,sll⟩,us,m,hq,hcl,hdl,hus,hui⟩:=I.key r1 ry
 obtain ⟨p',⟨cls',dd',data',sl'⟩,its',n',t1',t2',q',y3',rfl,ho',hc',hd',hits',r3',ry3',⟨clsl',ddl',datal',sll'⟩,us',m',hq',hcl',hdl',hus',hui'⟩:=I.key r2 rz
 simp only at hc hd hc' hd' hcl hdl hcl' hdl'
 subst hc hd hc' hd' hcl hdl hcl' hdl'
 have z1 : its.size = 3:=by rw [<- Zjq,hits]; rfl
 have z2 : its'.size = 3:=by rw [<- Zjq,hits']; rfl
 have hlex : LexC X.prog X.w A'.in1 s its.toList its'.toList (decide (a::b::xs < a'::b'::ys)):=by
  rw [hits,hits',zi0]
  by_cases ha : a = a'
  ·rw [if_pos ha,zi0]
   refine .eq (fun E Q hQ=>zlv (t:=.i) (d:=.int a) (e:=.int a') rfl rfl ⟨t1,rfl⟩ ⟨t1',rfl⟩ (by rw [decide_eq_true (show D.int a = D.int a' by rw [ha])]; exact hQ)) ?_
   by_cases hb : b = b'
   ·rw [if_pos hb]
    refine .eq (fun E Q hQ=>zlv (t:=.i) (d:=.int b) (e:=.int b') rfl rfl ⟨t2,rfl⟩ ⟨t2',rfl⟩ (by rw [decide_eq_true (show D.int b = D.int b' by rw [hb])]; exact hQ)) ?_
    have nb : ∀ zs : List Int,(D.lst (zs.map .int)).nb = true:=fun zs=>by rw [D.nb_lst]; exact D.nbs_map (fun _=>rfl) zs
    have dp : (D.lst (xs.map .int)).dep <= 60:=by rw [D.dep_lst]; have:=D.deps_map (enc:=D.int) (n:=0) (fun _=>Zhu _) xs; omega
    have heq:=I.eqAt (A':=A'.in1) r3 ry3 r3' ry3' (nb xs) (nb ys) dp (by show A'.units + 1 + 64 < _; omega)
    by_cases hx : xs = ys
    ·subst hx
     rw [decide_eq_false (Zlq _)]
     rw [decide_eq_true rfl] at heq
     exact .eq (fun E Q hQ=>heq _ _ _ _ hQ) .nil
    ·rw [decide_eq_false (fun z=>hx (by
      injection z with z
      exact zk3 z))] at heq
     refine .ne (fun E Q hQ=>heq _ _ _ _ hQ) fun E Q hQ=>?_
     exact richCompare_meets_room (op:=.Lt) ⟨_,hq,rfl⟩ ⟨_,hq',rfl⟩ PySem.F.slot_list_lt PySem.F.entry_list_lt (PySem.F.args_list_lt_2 _ _) (ya1 q q' us us' m m' ddl ddl' sll sll' xs ys hui hui' hus hus' hl) ⟨hq,hq',(fun z=>nomatch z),hQ⟩ (by show A'.units + 1 < _; omega)
   ·rw [if_neg hb]
    refine .ne (fun E Q hQ=>zlv (t:=.i) (d:=.int b) (e:=.int b') rfl rfl ⟨t2,rfl⟩ ⟨t2',rfl⟩ (by rw [decide_eq_false (show ¬ D.int b = D.int b' from fun z=>hb (by injection z))]; exact hQ)) fun E Q hQ=>zl6 (t:=.i) (d:=.int b) (e:=.int b') rfl rfl ⟨t2,rfl⟩ ⟨t2',rfl⟩ (by rw [zt7]; exact hQ)
  ·rw [if_neg ha]
   refine .ne (fun E Q hQ=>zlv (t:=.i) (d:=.int a) (e:=.int a') rfl rfl ⟨t1,rfl⟩ ⟨t1',rfl⟩ (by rw [decide_eq_false (show ¬ D.int a = D.int a' from fun z=>ha (by injection z))]; exact hQ)) fun E Q hQ=>zl6 (t:=.i) (d:=.int a) (e:=.int a') rfl rfl ⟨t1,rfl⟩ ⟨t1',rfl⟩ (by rw [zt7]; exact hQ)
 exact wpAny_richCompare_same_room ⟨_,ho,rfl⟩ ⟨_,ho',rfl⟩ Zqb (Zl0 Zqb ⟨_,ho,rfl⟩ PySem.F.entry_tuple_lt (PySem.F.args_tuple_lt_2 _ _) (zo5 X.prog X.w p p' its its' n n' dd dd' sl sl' (by omega) _) ⟨ho,ho',hlex,(fun z=>nomatch z),hC⟩) (by omega)
end
noncomputable def zte (X : Cx) (N : List Str) (qual : Str) (scope : Scope) (f c' : Addr) (cl : List (Str × Addr)) (A : Zi0) (s : Zhq) (H : Hp) : Cx where
 prog:=X.prog
 w:=X.w
 K:=X.K
 mg:=X.mg
 base:=X.base
 A:=A.deeper (envX qual scope s.heap.objs.size f (.ref c') cl)
 N:=N
 s₀:=s
 H₀:=H
 env:=envX qual scope s.heap.objs.size f (.ref c') cl
 outer:=X.stack
 stack:=envX qual scope s.heap.objs.size f (.ref c') cl::X.stack
 ex:=[]
 calm:=true
 fn:=fun _=>false
 pn:=[]
 xe:=fun _ _=>False
section
variable {X : Cx} {pins : List (Addr × Obj)} {σ : St} {H : Hp} {s : Zhq} {A' : Zi0}
theorem ybe (I : Inv X pins σ H s) (hA : A'.frames = some X.stack) (hd : A'.handled = none) (hroom : A'.depth < Zq6) {f c' cc : Addr} {qual : Str} {params : Zq2} {body : Expr} {scope : Scope} {pm ctv : Value} {x y : Str} {u uy : Value} {v vy : V} {te : TE} {Q : VK}
  (ho : s.heap.get? f = some (kla_obj "<lambda>" qual params body scope [(y,cc)] pm c' ctv)) (hcd : s.heap.CodeRec (.ref c') qual) (hcc : X.env.cells.lookup y = some cc) (hcell : s.heap.IsCell cc (some uy)) (ry : RelV vy uy) (ru : RelV v u)
  (hbind : Znd (kla_fn "<lambda>" qual params body scope [(y,cc)] pm (.ref c') ctv) ⟨[u],[]⟩ = pure [(x,u)]) (hx : scope.names.lookup x = some .local) (hy : scope.names.lookup y = some .free) (hnc : ∀ z∈scope.names,z.2 ≠ .cell) (hfr : ∀ z,scope.names.lookup z = some .free->z = y)
  (hco : scope.isCoroutine = false) (hgen : scope.isGenerator = false) (hk : scope.kind = .function)
  (he : PE (zte X [x,y] qual scope f c' [(y,cc)] A' s H) body te) (h : te [some v,some vy] H Q) :
  Zij (Zix X.prog X.w) A' (call (.ref f) [u]) (fun r s'=>CE X.stack X.prog X.w H s Q r s') (fun _ _=>False) s:=by
 have e0:=I.env0
 refine wpAny_call (kla_callFunE hroom ho rfl hco hgen rfl hcd ?_)
 rw [hbind]
 refine Zhz (Zsd hnc (fun z hz=>by rw [Zhp.mp hz]; exact hx) (fun h₁ hns hsb=>⟨I.nolimit.fresh _ hsb,?_⟩) hk)
 show Zns _ _ (.expr body (envX qual scope s.heap.objs.size f (.ref c') [(y,cc)])) _ _
 have hk₁ : ∀ b o,s.heap.get? b = some o->h₁.get? b = some o:=fun b o e=>hsb.extBut b o (Zic (Zhy e)) (Zhr _ e)
 have look1 : ∀ {z : Str} {c : Addr},([(y,cc)] : List (Str × Addr)).lookup z = some c->z = y/\c = cc:=fun {z c} e=>by
  by_cases hz : z = y
  ·subst hz; simp at e; exact ⟨rfl,e.symm⟩
  ·have : (z == y) = false:=by simpa using hz
   simp [Zph,this] at e
 have noA : ∀ b : Addr,b ∉ (zte X [x,y] qual scope f c' [(y,cc)] A' s H).ex:=fun b z=>absurd (show b∈([] : List Addr) from z) (by simp)
 have J : Inv (zte X [x,y] qual scope f c' [(y,cc)] A' s H) [] [some v,some vy] H { s with heap:=h₁,toks:=s.toks + [(x,u)].length }:=by
  refine ⟨⟨e0.mod,hk,rfl,rfl,Zhu _,fun z1 z2 c q1 q2=>?_,fun z hz=>?_,(fun z c q _=>by cases q),fun _=>hd,Zq1 hA,.inr ⟨rfl,rfl⟩,fun b z=>absurd z (noA b),e0.bs,e0.bsz,fun b _ _=>noA b,fun b z=>absurd z (noA b),e0.funs,e0.frf⟩,
   rfl,e0.bare,Un.kept hk₁,⟨_,hns,fun i z v' q1 q2 q3=>?_⟩,fun z c q=>?_,e0.hok.fresh (Zhu _),fun z c q=>?_,fun p hp=>absurd (show p∈([] : List (Addr × Obj)) from hp) (by simp),e0.hok.kept hk₁,rfl⟩
  ·rw [(look1 q1).1,(look1 q2).1]
  ·have hz : scope.names.lookup z = some .cell \/ scope.names.lookup z = some .free:=hz
   rcases hz with hz | hz
   ·exact absurd rfl (hnc _ (Zj5 hz))
   ·rw [hfr z hz]; exact ⟨cc,by simp [zte]⟩
  ·match i,q1,q2 with
   | 0,q1,q2 =>
    cases q1; cases q2
    exact ⟨u,ru,.inl ⟨hx,by simp⟩⟩
   | 1,q1,q2 =>
    cases q1; cases q2
    obtain ⟨o,e1,e2⟩:=hcell
    exact ⟨uy,ry,.inr ⟨.inr hy,cc,by simp [zte],⟨o,hk₁ _ _ e1,e2⟩⟩⟩
   | n + 2,q1,q2=>cases q2
  ·obtain ⟨rfl,rfl⟩:=look1 q
   obtain ⟨o,e1,e2⟩:=hcell
   exact ⟨_,⟨o,hk₁ _ _ e1,e2⟩⟩
  ·obtain ⟨rfl,rfl⟩:=look1 q
   exact I.freeC _ _ hcc
 exact kla_codeExpr (Zj8 (he [] _ _ _ _ J h) (fun r s' hs=>by
  obtain ⟨y',H',J',r',q'⟩:=hs
  exact ⟨y',H',J'.os,J'.bare,J'.base,J'.hok,r',q'⟩) fun _ _ z=>z.elim)
end
noncomputable def ztn (H : Hp) (c' P : Addr) (q : Str) : Prop:=∃ oc vs t,H c' = some (.frz oc (.own P))/\oc.data = .fields vs/\vs[1]? = some (.str q t)
theorem ztn.same {H H' : Hp} {c' P : Addr} {q : Str} (x : ztn H c' P q) (h : Same H H') : ztn H' c' P q:=by
 obtain ⟨oc,vs,t,a,b⟩:=x
 exact ⟨oc,vs,t,h _ _ a,b⟩
theorem ztn.rec {P : Ziq} {w : Zjv} {H : Hp} {h : Heap} {c' T : Addr} {q : Str} (x : ztn H c' T q) (ok : HOk P w H h) : h.CodeRec (.ref c') q:=by
 obtain ⟨oc,vs,t,a,b,c⟩:=x
 exact ⟨c',oc,vs,t,rfl,(ok _ _ a).1,b,c⟩
section
variable {X : Cx} {pins : List (Addr × Obj)} {σ : St} {H : Hp} {s : Zhq} {A' : Zi0} {P c : Addr} {pos : Pos}
theorem zyk {E : Value -> Zhq -> Prop} {Q : Value -> Zhq -> Prop} {params : Zq2} {body : Expr} {scope : Scope} {clos : List (Str × Addr)} (I : Inv X pins σ H s) (hT : H P = some (.tab #[] pos (X.env.qual ++ "<lambda>"))) (C : CodeHd X.base c P) (hb : X.base.BuiltinsAt X.mg P) (hcode : X.env.code = .ref c)
  (hdef : defaultsOf params X.env = ([],[])) (hcl : Zoh scope X.env = pure clos)
  (h : ∀ f c' ctv H' s',Inv X (pins++[(f,kla_obj "<lambda>" (X.env.qual ++ "<lambda>") params body scope clos ((X.mg "__name__").getD .none) c' ctv)]) σ H' s'->Same H H'->ztn H' c' P (X.env.qual ++ "<lambda>")->Q (.ref f) s') :
  Zij (Zix X.prog X.w) A' (eval (.Lambda params body scope pos) X.env) Q E s:=by
 have hns : s.heap.Ns Zj9 X.mg:=I.mod.glob.keeps I.bk
 have hgP : Zj9≠P:=fun z=>by
  obtain ⟨o,es,ep,e,_⟩:=I.mod.glob
  rw [<- z,(I.bs _ _ e).2] at hT; cases hT
 have hLP : X.env.locals≠P:=fun z=>by rw [<- z,I.free] at hT; cases hT
 have hb' : s.heap.BuiltinsAt X.mg P:=by
  obtain ⟨bm,o,b1,b2,b3,b4,b5,b6⟩:=hb
  exact ⟨bm,o,b1,b2,b3,b4,I.bk _ _ b5,b6⟩
 have C':=C.keeps I.bk
 obtain ⟨more,hP,ht,hc⟩:=I.hok _ _ hT
 refine kla_eval hdef ?_
 have pin1 : ∀ {H' : Hp} {s' : Zhq} {o : Obj},Inv X pins σ H' { s' with heap:=s'.heap.push o }->(∀ v,o.data ≠ .cell v)->o.isFreed = false->s.heap.objs.size <= s'.heap.objs.size->H' s'.heap.objs.size = none->Inv X (pins++[(s'.heap.objs.size,o)]) σ H' { s' with heap:=s'.heap.push o }:=fun {H' s' o} J hd hfr hsz hn=>by
  refine J.pins_of fun p hp=>?_
  rcases Zhw.mp hp with hp | hp
  ·exact J.pin p (Zht _ hp)
  ·rw [Zhp.mp hp]
   have f:=I.fpOk (H':=H') hsz hn
   exact ⟨Zh6 _ hfr,f.1,f.2.1,f.2.2.1,hd⟩
 rcases hc with hc | ⟨c',oc,vs,t,hc,hf,d1,d2⟩
 ·refine kla_makeFunction hcl I.ok.glob hns hcode C' hP ht hc hgP hb' fun c' ctv h' tk hx hge hlt hrec htb => ?_
  obtain ⟨c2,oc,vs,t,e2,hoc,d1,d2⟩:=hrec
  cases e2
  have fc : H c' = none:=I.hok.fresh hge
  have ncP : c'≠P:=fun z=>by rw [<- z,fc] at hT; cases hT
  have sm : Same H (upd H c' (.frz oc (.own P))):=fun b o q=>by rw [zav (za4 q fc)]; exact q
  have kp : ∀ (o2 : Obj) b o,b≠P->s.heap.get? b = some o->(h'.push o2).get? b = some o:=fun o2 b o hb e=>Zhr _ (hx b o hb e)
  have hsz : s.heap.objs.size <= h'.objs.size:=Zik hge (Zmv hlt)
  have I2 : ∀ o2 : Obj,Inv X pins σ (upd H c' (.frz oc (.own P))) { s with heap:=h'.push o2,toks:=tk }:=fun o2=>by
   refine I.step (g':=s.gens) (d':=s.drawn) (ch:=[]) (fun _ z=>nomatch z) (fun b o _ _ _ e n=>kp o2 b o (fun z=>by rw [z,hT] at n; cases n) e) (fun b o _ _ _ e n=>⟨o.slots,kp o2 b o (fun z=>by rw [z,hT] at n; cases n) e⟩)
    (fun b o _ e n=>by rw [zav (Zic (Zh9 (Zhy e) hge))]; exact n) (fun b o _ e=>?_) (fun b xs q=>sm _ _ q) (fun b o u q=>sm _ _ q) (fun b ps q=>⟨#[],by rw [sm _ _ q]; simp⟩) (fun m hm=>?_) (fun b u q=>?_) I.bare
   ·by_cases hb : b = P
    ·rw [hb]; exact ⟨_,Zhr _ htb⟩
    ·exact ⟨o,kp o2 b o hb e⟩
   ·obtain ⟨o,es,ep,ho,r⟩:=hm
    exact ⟨o,es,ep,kp o2 _ o hLP ho,r⟩
   ·by_cases hb : b = c'
    ·subst hb
     rw [zap] at q; cases q
     exact ⟨Zhr _ hoc,_,Zhr _ hoc⟩
    ·rw [zav hb] at q
     by_cases hp : b = P
     ·subst hp
      rw [hT] at q; cases q
      refine ⟨more ++ #[Zu1 pos.line,Zu1 pos.col,.ref c'],?_,?_,.inr ⟨c',oc,vs,t,?_,zap,d1,d2⟩⟩
      ·have:=Zhr o2 htb
       rw [Zri] at this
       exact this
      ·have:=TriplesOk_snoc pos.line pos.col (.ref c') _ ht
       simpa using this
      ·have:=codeAmong_snoc (c:=.ref c') _ ht hc
       simpa using this
     ·refine (I.hok b u q).stay (fun d v hd r=>kp o2 d v (fun z=>?_) r) (fun d r=>sm _ _ r) (fun d xs r=>sm _ _ r) (fun d o u r=>sm _ _ r)
      rcases hd with hd | hd
      ·exact hp (hd.symm.trans z)
      ·rw [z,hT] at hd; cases hd
  refine h h'.objs.size c' ctv _ _ (pin1 (s':={ s with heap:=h',toks:=tk }) (I2 _) (fun v z=>by cases z) rfl hsz ?_) sm ⟨oc,vs,t,zap,d1,d2⟩
  show upd H c' _ h'.objs.size = none
  rw [zav (Zmu hlt)]
  exact I.hok.fresh hsz
 ·refine kla_makeFunctionHit hcl I.ok.glob hns hcode C' hP ht hc hb' fun ctv h' tk hk hsz=>?_
  exact h h'.objs.size c' ctv _ _ (pin1 (s':={ s with heap:=h',toks:=tk }) (I.kept (t':=tk) fun b o e=>Zhr _ (hk b o e)) (fun v z=>by cases z) rfl hsz (I.hok.fresh hsz)) (Same.refl _) ⟨oc,vs,t,hf,d1,d2⟩
end
end L2
namespace L2
open PySem PySem.W PyProof.Rows PySem.Spec PySem.Calls
noncomputable def one (f : V->Hp->Prop) : List V->Hp->Prop
 | [v],H=>f v H
 | _,_=>False
theorem zvx {f : V->Hp->Prop} : ∀ {vs : List V} {H : Hp},one f vs H -> ∃ v,vs = [v]/\f v H
 | [v],_,h=>⟨v,rfl,h⟩
 | [],_,h=>h.elim
 | _::_::_,_,h=>h.elim
section
variable {prog : Ziq} {w : Zjv} {A : Zi0} {R : Zu3->Zhq->Prop} {l I0 S : Addr} {vs : Array Value} {ns : List Int} {kw : List (Str × Value)}
theorem zxs (hh : A.handled = none) (hlI : l≠I0) (hSI : S≠I0) (hlS : l≠S) (hv : ∀ (i : Nat) (v : Value),vs[i]? = some v -> ∃ x t,ns[i]? = some x/\v = .int x t) (hsz : vs.size = ns.length) :
  ∀ (r j : Nat) (s : Zhq) (m : Int) (t : Tok) (c : Nat),ns.length - (j + 1) = r->j + 1 <= ns.length->s.heap.IsListIter I0 l (j + 1)->s.heap.IsList l vs->s.heap.get? S = some (Zlz "list" #[.int m t,.int m t] c) ->
   m∈ns->(∀ n∈ns.take (j + 1),n <= m) ->
   (∀ (m' : Int) (t' : Tok) (h' : Heap) (tk : Nat),m'∈ns->(∀ n∈ns,n <= m')->(∀ b o,b≠I0->b≠S->s.heap.get? b = some o->h'.get? b = some o)->R (.ok (.ret (.int m' t'))) { s with heap:=h',toks:=tk }) ->
   Zns (Zix prog w) A (.builtin "max.loop" ⟨[.ref I0,.none,.ref S],kw⟩) R s:=by
 have hname : (Znc "max" ++ Znc ".loop" : String) = "max.loop" := by decide
 have W:=Znm (prog:=prog) (w:=w) (A:=A.in1) hh I0 l hlI vs
 intro r
 induction r with
 | zero =>
  intro j s m t c hr hj hit hl hS hm hb hR
  have hin : j + 1 = ns.length:=by omega
  refine Zk5 Zm9 ?_
  rw [Zjx Zj4 _]
  show Zij _ A.in1 (Zpb (.ref S) >>= _) _ _ _
  refine Zhl (Zlv hS rfl ?_)
  show Zij _ A.in1 (Znb (Zpc (.ref I0)) _ >>= _) _ _ _
  refine Zhl (Zka (W.done _ _ _ ⟨by rw [hsz,<- hin]; exact hit,hl⟩ fun h' tk' hk'=>?_))
  have hS':=hk' S _ (by simpa using hSI) hS
  have s1:=Zj1 h' S (Zj7 fun _=>(#[] : Array Value))
  show Zij _ A.in1 (Zqr S (fun _=>#[]) >>= _) _ _ _
  refine Zhl (Zlm hS' rfl (Zhl (Zk9 (Zhz ?_))))
  exact hR m t _ tk' hm (fun n hn=>hb n (by rw [hin,Zif]; exact hn)) fun b o h1 h2 e=>(s1.2 b h2).trans (hk' b o (by simpa using h1) e)
 | succ r ih =>
  intro j s m t c hr hj hit hl hS hm hb hR
  have hlt2 : j + 1 < ns.length:=by omega
  refine Zk5 Zm9 ?_
  rw [Zjx Zj4 _]
  show Zij _ A.in1 (Zpb (.ref S) >>= _) _ _ _
  refine Zhl (Zlv hS rfl ?_)
  show Zij _ A.in1 (Znb (Zpc (.ref I0)) _ >>= _) _ _ _
  refine Zhl (Zka (W.item (j + 1) _ _ _ (by rw [hsz]; omega) ⟨hit,hl⟩ fun v h' tk' hP hst' hk'=>?_))
  obtain ⟨x,t2,hx,rfl⟩:=hv (j + 1) v (by simpa using hP)
  have hS':=hk' S _ (by simpa using hSI) hS
  have tk1 : ns.take (j + 1 + 1) = ns.take (j + 1)++[x]:=by rw [Zh8,hx]; rfl
  show Zij _ A.in1 (pure (Zk6 x t2) >>= _) _ _ _
  refine Zhl (Zhz ?_)
  show Zij _ A.in1 (Znb (Zsl [.int x t2,.int x t2] (Zm0 .Gt (.int x t2) (.int m t) >>= _)) _ >>= _) _ _ _
  refine Zhl (Zka (Zla (Zhl (Zpm (op:=.Gt) (Zpl _ _ t2) (Zpl _ _ t) PySem.F.slot_int_gt PySem.F.entry_int_gt (PySem.F.args_int_gt_2 _ _) (gives_int_gt _ _ t2 t) (fun x=>nomatch x) ?_))))
  refine Zhl (Zla (Zjw ?_))
  refine Zhl (Zk9 (Zhz ?_))
  by_cases hb' : x > m
  ·have s1:=Zj1 h' S (Zj7 fun _=>#[.int x t2,.int x t2])
   obtain ⟨c2,hc2⟩ : ∃ c2,(h'.update S (Zj7 fun _=>#[.int x t2,.int x t2])).get? S = some (Zlz "list" #[.int x t2,.int x t2] c2):=⟨_,Zoc hS' fun _=>#[.int x t2,.int x t2]⟩
   simp only [hb',decide_true,if_true]
   refine Zhl ?_
   refine Zlm hS' rfl (Zhl (Zk9 ?_))
   rw [hname]
   refine Zhz ⟨Zkm Zj4 _,ih (j + 1) _ x t2 c2 (by omega) hlt2 ?_ ?_ hc2 (Zhs hx) (fun n hn=>?_) fun m' t' h'' tk q1 q2 q3=>?_⟩
   ·obtain ⟨o,e,q⟩:=hst'.1
    exact ⟨o,(s1.2 _ (Zi4 hSI)).trans e,q⟩
   ·obtain ⟨o,e,q⟩:=hst'.2
    exact ⟨o,(s1.2 _ hlS).trans e,q⟩
   ·rw [tk1] at hn
    rcases Zhw.mp hn with z | z
    ·exact Int.le_trans (hb n z) (Int.le_of_lt hb')
    ·rw [Zhp.mp z]; exact Zof _
   ·exact hR m' t' h'' tk q1 q2 fun b o h1 h2 e=>q3 b o h1 h2 ((s1.2 b h2).trans (hk' b o (by simpa using h1) e))
  ·simp only [hb',decide_false,Zlb,if_false]
   refine Zhl (Zk9 ?_)
   rw [hname]
   refine Zhz ⟨Zkm Zj4 _,ih (j + 1) _ m t c (by omega) hlt2 hst'.1 hst'.2 hS' hm (fun n hn=>?_) fun m' t' h'' tk q1 q2 q3=>?_⟩
   ·rw [tk1] at hn
    rcases Zhw.mp hn with z | z
    ·exact hb n z
    ·rw [Zhp.mp z]; omega
   ·exact hR m' t' h'' tk q1 q2 fun b o h1 h2 e=>q3 b o h1 h2 (hk' b o (by simpa using h1) e)
theorem zui {s : Zhq} {c : Nat} (hh : A.handled = none) (hlI : l≠I0) (hSI : S≠I0) (hlS : l≠S) (hv : ∀ (i : Nat) (v : Value),vs[i]? = some v -> ∃ x t,ns[i]? = some x/\v = .int x t) (hsz : vs.size = ns.length) (hit : s.heap.IsListIter I0 l 0) (hl : s.heap.IsList l vs) (hS : s.heap.get? S = some (Zlz "list" #[] c))
  (hR : ∀ (m' : Int) (t' : Tok) (h' : Heap) (tk : Nat),m'∈ns->(∀ n∈ns,n <= m')->(∀ b o,b≠I0->b≠S->s.heap.get? b = some o->h'.get? b = some o)->R (.ok (.ret (.int m' t'))) { s with heap:=h',toks:=tk })
  (hD : ns = [] -> ∃ k d r,kw = (k,d)::r /\ ∀ (h' : Heap) (tk : Nat),(∀ b o,b≠I0->b≠S->s.heap.get? b = some o->h'.get? b = some o)->R (.ok (.ret d)) { s with heap:=h',toks:=tk }) :
  Zns (Zix prog w) A (.builtin "max.loop" ⟨[.ref I0,.none,.ref S],kw⟩) R s:=by
 have hname : (Znc "max" ++ Znc ".loop" : String) = "max.loop" := by decide
 have W:=Znm (prog:=prog) (w:=w) (A:=A.in1) hh I0 l hlI vs
 refine Zk5 Zm9 ?_
 rw [Zjx Zj4 _]
 show Zij _ A.in1 (Zpb (.ref S) >>= _) _ _ _
 refine Zhl (Zlv hS rfl ?_)
 show Zij _ A.in1 (Znb (Zpc (.ref I0)) _ >>= _) _ _ _
 by_cases hn : ns = []
 ·obtain ⟨k,d,r,rfl,hd⟩:=hD hn
  refine Zhl (Zka (W.done _ _ _ ⟨by rw [hsz,hn]; exact hit,hl⟩ fun h' tk' hk'=>?_))
  show Zij _ A.in1 (do rule _; ret d) _ _ _
  exact Zhl (wpAny_rule (Zhz (hd h' tk' fun b o h1 h2 e=>hk' b o (by simpa using h1) e)))
 ·have hpos : 0 < ns.length:=Zj6.mpr hn
  refine Zhl (Zka (W.item 0 _ _ _ (by rw [hsz]; exact hpos) ⟨hit,hl⟩ fun v h' tk' hP hst' hk'=>?_))
  obtain ⟨x,t2,hx,rfl⟩:=hv 0 v (by simpa using hP)
  have hS':=hk' S _ (by simpa using hSI) hS
  show Zij _ A.in1 (pure (Zk6 x t2) >>= _) _ _ _
  refine Zhl (Zhz ?_)
  have s1:=Zj1 h' S (Zj7 fun _=>#[.int x t2,.int x t2])
  obtain ⟨c2,hc2⟩ : ∃ c2,(h'.update S (Zj7 fun _=>#[.int x t2,.int x t2])).get? S = some (Zlz "list" #[.int x t2,.int x t2] c2):=⟨_,Zoc hS' fun _=>#[.int x t2,.int x t2]⟩
  show Zij _ A.in1 (Zqr S (fun _=>#[.int x t2,.int x t2]) >>= _) _ _ _
  refine Zhl (Zlm hS' rfl ?_)
  rw [hname]
  refine Zhz ⟨Zkm Zj4 _,zxs hh hlI hSI hlS hv hsz _ 0 _ x t2 c2 rfl hpos ?_ ?_ hc2 (Zhs hx) (fun n hn=>?_) fun m' t' h'' tk q1 q2 q3=>?_⟩
  ·obtain ⟨o,e,q⟩:=hst'.1
   exact ⟨o,(s1.2 _ (Zi4 hSI)).trans e,q⟩
  ·obtain ⟨o,e,q⟩:=hst'.2
   exact ⟨o,(s1.2 _ hlS).trans e,q⟩
  ·rw [Zh8,hx] at hn
   have : n = x:=by simpa using hn
   rw [this]; exact Zof _
  ·exact hR m' t' h'' tk q1 q2 fun b o h1 h2 e=>q3 b o h1 h2 ((s1.2 b h2).trans (hk' b o (by simpa using h1) e))
end
noncomputable def yb9 (K : Zhi) : List V->Hp->VK->Prop:=fun vs H Q=>∃ a ns,vs = [.ref a]/\SqL K H a (ns.map V.int)/\ns≠[] /\ ∀ m,m∈ns->(∀ n∈ns,n <= m)->Q (.int m) H
noncomputable def ycc (K : Zhi) (ta tk : TE) : TE:=fun σ H Q=>ta σ H fun v H1=>tk σ H1 fun dv H2=>∃ (a : Addr) (ns : List Int) (d : Int),v = .ref a/\dv = .int d/\SqL K H2 a (ns.map V.int)/\(∀ m,m∈ns->(∀ n∈ns,n <= m)->Q (.int m) H2)/\(ns = []->Q (.int d) H2)
section
variable {X : Cx} {pins : List (Addr × Obj)} {σ : St} {H : Hp} {s : Zhq}
theorem zvb {us : List Value} : ∀ {ns : List Int},Vals (ns.map V.int) us -> ∀ (i : Nat) (v : Value),us.toArray[i]? = some v -> ∃ x t,ns[i]? = some x/\v = .int x t:=fun {ns} r i v h=>by
 have hl:=r.length
 rw [Zhk] at hl
 have h' : us[i]? = some v:=by simpa using h
 have hi : i < ns.length:=by rw [hl]; exact (Zhn.mp h').1
 obtain ⟨u,hu,ru⟩:=r.get (i:=i) (x:=V.int ns[i]) (by rw [Zho,Zhj hi]; rfl)
 obtain ⟨t,rfl⟩:=ru
 rw [h'] at hu
 cases hu
 exact ⟨_,t,Zhj hi,rfl⟩
theorem zuv {A : Zi0} {l : Addr} {ns : List Int} {QQ : Value->Zhq->Prop} {E : Value->Zhq->Prop} {kw : List (Str × Value)} {dv : Option Value} (hh : A.handled = none) (I : Inv X pins σ H s) (sq : SqL X.K H l (ns.map V.int))
  (harg : argsOk "max" ⟨[.ref l],kw⟩) (hbp : Zky "max" ["key", "default"] 0 ⟨[],kw⟩ = pure [none,dv])
  (hQ : ∀ m t s',m∈ns->(∀ n∈ns,n <= m)->Inv X pins σ H s'->QQ (.int m t) s') (hD : ns = [] -> ∃ d,dv = some d /\ ∀ s',Inv X pins σ H s'->QQ d s') :
  Zij (Zix X.prog X.w) A (call (.builtin "max") [.ref l] kw) QQ E s:=by
 have hname : (Znc "max" ++ Znc ".loop" : String) = "max.loop" := by decide
 obtain ⟨us0,rv0,pl0,hz0⟩:=I.list sq
 have hls:=pl0.isList
 obtain ⟨ol,hol,_⟩:=id hls
 have hll : l < s.heap.objs.size:=Zhy hol
 refine kmk_tree PySem.F.kind_max PySem.F.plain_max PySem.F.entry_max harg ?_
 show Zij _ A.in1 (Zky "max" ["key", "default"] 0 ⟨[],kw⟩ >>= _) _ _ s
 refine Zhl (Zqn hbp ?_)
 refine Zhl (Zhz ?_)
 refine Zhl (Znj hls ?_)
 refine Zhl (Zvh ?_ (Zit _))
 rw [hname]
 have hS : (s.heap.push { cls:=.type "list_iterator", data:=.fields #[.ref l,.int 0 0] }).objs.size = s.heap.objs.size + 1:=size_push' ..
 have old : ∀ {h' : Heap},(∀ b o,b≠s.heap.objs.size->b≠(s.heap.push { cls:=.type "list_iterator", data:=.fields #[.ref l,.int 0 0] }).objs.size->((s.heap.push { cls:=.type "list_iterator", data:=.fields #[.ref l,.int 0 0] }).push (Zlz "list" #[] 0)).get? b = some o->h'.get? b = some o) -> ∀ b o,s.heap.get? b = some o->h'.get? b = some o:=fun k b o e =>
  k b o (Zic (Zhy e)) (by rw [hS]; exact Zic (Zoy (Zhy e))) (Zhr _ (Zhr _ e))
 have hl2:=rv0.length
 rw [Zhk] at hl2
 refine Zhz ⟨Zkm Zj4 _,zui (vs:=us0.toArray) (ns:=ns) (c:=0) hh (Zic hll) (by rw [hS]; exact Zmu (Zsh _)) (by rw [hS]; exact Zic (Zoy hll)) (zvb rv0) (by rw [Zii,hl2]) ⟨_,Zhr _ (Zh6 _ rfl),rfl,rfl⟩ ((hls.push _).push _) (Zh6 _ rfl) (fun m t h' tk q1 q2 q3=>?_) fun hn=>?_⟩
 ·exact hQ m t _ q1 q2 (I.kept (t':=tk) (old q3))
 ·obtain ⟨d,rfl,hd⟩:=hD hn
  exact ⟨"default", d,[],rfl,fun h' tk q3=>hd _ (I.kept (t':=tk) (old q3))⟩
theorem zu6 (hc : X.calm = true) : zdk X (.builtin "max") (yb9 X.K):=by
 intro pins s σ H xs us Q I r h
 obtain ⟨a,ns,rfl,sq,hne,q⟩:=h
 obtain ⟨u,rfl,ru⟩:=zhc r
 cases ru
 exact zuv (dv:=none) (I.ok.hd hc) I sq (PySem.F.args_max1 _) rfl (fun m t s' h1 h2 J=>⟨.int m,H,J,⟨t,rfl⟩,q m h1 h2⟩) fun z=>absurd z hne
theorem zyc (a v : Value) : argsOk "max" ⟨[a],[(Zlf "default", v)]⟩:=by unfold argsOk; kernel_rfl
theorem zw1 {e ke : Expr} {ta tk : TE} {p pos kp : Pos} (hc : X.calm = true) (hg : Gl X "max") (hm : X.mg "max" = none) (ha : PE X e ta) (hk : PE X ke tk) (hs : Zi6 [e] X.env = [(false,eval e X.env)]:=by rfl) : PE X (.Call (.Name "max" p) [e] [⟨some "default", ke,kp⟩] pos) (ycc X.K ta tk):=by
 intro pins s σ H Q I h
 refine Zl5 (zhb I hg hm Zrn ?_)
 refine callWith_kw (rest:=[]) (thn (zab ha zae hs pos pins s σ H (one fun v H1=>tk σ H1 fun dv H2=>∃ (a : Addr) (ns : List Int) (d : Int),v = .ref a/\dv = .int d/\SqL X.K H2 a (ns.map V.int)/\(∀ m,m∈ns->(∀ n∈ns,n <= m)->Q (.int m) H2)/\(ns = []->Q (.int d) H2)) I (by exact h)) fun us s1 hz9=>?_) (by rw [hs]; rfl) (by rw [hs]; rfl)
 obtain ⟨vs,H1,I1,r1,q0⟩:=hz9
 obtain ⟨v,rfl,q1⟩:=zvx q0
 obtain ⟨u,rfl,ru⟩:=zhc r1
 refine thn (ybc hk ydj pos pins s1 σ H1 (one fun dv H2=>∃ (a : Addr) (ns : List Int) (d : Int),v = .ref a/\dv = .int d/\SqL X.K H2 a (ns.map V.int)/\(∀ m,m∈ns->(∀ n∈ns,n <= m)->Q (.int m) H2)/\(ns = []->Q (.int d) H2)) I1 (by exact q1)) fun ws s2 hz9=>?_
 obtain ⟨zs,H2,I2,r2,q2⟩:=hz9
 obtain ⟨dv,rfl,a,ns,d,rfl,rfl,sq,f1,f2⟩:=zvx q2
 obtain ⟨w',rfl,t,rfl⟩:=zhc r2
 cases ru
 exact zuv (dv:=some (.int d t)) (I2.ok.hd hc) I2 sq (zyc _ _) rfl (fun m t s' h1 h2 J=>⟨.int m,H2,J,⟨t,rfl⟩,f1 m h1 h2⟩) fun z=>⟨_,rfl,fun s' J=>⟨.int d,H2,J,⟨t,rfl⟩,f2 z⟩⟩
end
end L2
namespace L2
open PySem PySem.W PySem.Spec PyProof.Rows PySem.Calls
noncomputable def kI (ks : List (Int × Int × List Int)) (i : Nat) : List Int:=match ks[i]? with
 | some k=>k.1::k.2.1::k.2.2
 | none=>[]
theorem zxi {ks : List (Int × Int × List Int)} {i : Nat} {k : Int × Int × List Int} (h : ks[i]? = some k) : kI ks i = k.1::k.2.1::k.2.2:=by unfold kI; rw [h]
theorem ybf {a b c : List Int} (h : a < b) (h2 : ¬ c < b) : a < c:=by
 by_cases q : a < c
 ·exact q
 ·exact absurd (Zrg (Zpg.mp q) h) h2
theorem zxe {a b : List Int} (h : a < b) : ¬ b < a:=fun q=>Zlq _ (Zs6 h q)
noncomputable def ycp (K : Zhi) (P : Addr) (pos : Pos) (q : Str) (i : Nat) (te ta : TE) : TE:=fun σ H Q=>ta σ H fun v H1=>∃ a xs vy ks n,v = .ref a/\SqL K H1 a xs/\σ[i]? = some (some vy)/\H1 P = some (.tab #[] pos q)/\0 < xs.length/\ks.length = xs.length/\(∀ k∈ks,k.2.2.length = n) /\
 (∀ (j : Nat) x k H',xs[j]? = some x->ks[j]? = some k->Same H1 H'->te [some x,some vy] H' (fun y H2=>Same H' H2/\Rep K H2 (keyD k.1 k.2.1 k.2.2) y)) /\
 (∀ (j : Nat) x H',xs[j]? = some x->(∀ m,m < xs.length -> ¬ kI ks m < kI ks j/\(m < j->kI ks j < kI ks m))->Same H1 H'->Q x H')
section
variable {X : Cx} {P c : Addr}
theorem zt2 {k : Nat} {e body : Expr} {ta te : TE} {x y q : Str} {i : Nat} {params : Zq2} {scope : Scope} {p pos lp kp : Pos} (hc : X.calm = true) (hr : Room (k + 2) X.A) (hg : Gl X "min") (hm : X.mg "min" = none) (ha : PE X e ta) (C : CodeHd X.base c P) (hb : X.base.BuiltinsAt X.mg P) (hcode : X.env.code = .ref c)
  (hq : X.env.qual ++ "<lambda>" = q) (hi : X.N[i]? = some y) (hky : X.env.scope.names.lookup y = some .cell)
  (hbind : ∀ (pm cv ctv u : Value) (cc : Addr),Znd (kla_fn "<lambda>" q params body scope [(y,cc)] pm cv ctv) ⟨[u],[]⟩ = pure [(x,u)]) (hx : scope.names.lookup x = some .local) (hy : scope.names.lookup y = some .free) (hnc : ∀ z∈scope.names,z.2 ≠ .cell) (hfr : ∀ z,scope.names.lookup z = some .free->z = y)
  (hco : scope.isCoroutine = false) (hgen : scope.isGenerator = false) (hk : scope.kind = .function) (hdef : defaultsOf params X.env = ([],[]))
  (hcl : ∀ cc : Addr,X.env.cells.lookup y = some cc->Zoh scope X.env = pure [(y,cc)])
  (he : ∀ f c' cc s H,Room k (X.A.in1.deeper (envX q scope s.heap.objs.size f (.ref c') [(y,cc)]))->PE (zte X [x,y] q scope f c' [(y,cc)] X.A.in1 s H) body te)
  (hs : Zi6 [e] X.env = [(false,eval e X.env)]:=by rfl) : PE X (.Call (.Name "min" p) [e] [⟨some "key", .Lambda params body scope lp,kp⟩] pos) (ycp X.K P lp q i te ta):=by
 intro pins s σ H Q I h
 subst hq
 refine Zl5 (zhb I hg hm Zsy ?_)
 refine callWith_kw (rest:=[]) (thn (zab ha zae hs pos pins s σ H (one fun v H1=>∃ (a : Addr) (xs : List V) (vy : V) (ks : List (Int × Int × List Int)) (n : Nat),v = .ref a/\SqL X.K H1 a xs/\σ[i]? = some (some vy)/\H1 P = some (.tab #[] lp (X.env.qual ++ "<lambda>"))/\0 < xs.length/\ks.length = xs.length/\(∀ k∈ks,k.2.2.length = n) /\
  (∀ (j : Nat) x k H',xs[j]? = some x->ks[j]? = some k->Same H1 H'->te [some x,some vy] H' (fun y H2=>Same H' H2/\Rep X.K H2 (keyD k.1 k.2.1 k.2.2) y)) /\
  (∀ (j : Nat) x H',xs[j]? = some x->(∀ m,m < xs.length -> ¬ kI ks m < kI ks j/\(m < j->kI ks j < kI ks m))->Same H1 H'->Q x H')) I (by exact h)) fun us s1 ⟨vs,H1,I1,r1,q0⟩=>?_) (by rw [hs]; rfl) (by rw [hs]; rfl)
 obtain ⟨v,rfl,a,xs,vy,ks,n,rfl,sq,hσ,hT,hne,hkl,hkn,turn,fin⟩:=zvx q0
 obtain ⟨u,rfl,ru⟩:=zhc r1
 cases ru
 obtain ⟨cc,hcc⟩:=I1.ok.has y (.inl hky)
 have hA : X.A.in1.frames = some X.stack:=I1.ok.frames
 have hd : X.A.in1.handled = none:=I1.ok.hd hc
 show Zij _ _ (evalAll ((do let v <- eval (.Lambda params body scope lp) X.env; standAt pos; pure v)::(Zqj pos (Znr [] X.env)).map (·.2))) _ _ s1
 refine Zsw (Zhl (zyk I1 hT C hb hcode hdef (hcl cc hcc) fun f c' ctv H2 s2 J sm ck=>Zhl (Zpa (Zhz (Ztb ?_)))))
 show Zij _ _ (call (.builtin "min") [.ref a] [(Zlf "key", .ref f)]) _ _ s2
 refine zvd (J:=Same H2) (ks:=ks.map fun k=>keyD k.1 k.2.1 k.2.2) (lt:=fun i j=>decide (kI ks i < kI ks j)) hc J (Same.refl _) (fun H' z=>SqL.same z (SqL.same sm sq)) (by rw [Zhk]; exact hkl) hne ?_ ?_ (fun a b c h1 h2=>decide_eq_true (ybf (of_decide_eq_true h1) (of_decide_eq_false h2))) (fun a b h1=>decide_eq_false (zxe (of_decide_eq_true h1))) ?_
 ·intro j x' u k H' s' pl hx' hk' ru I' hJ
  rw [Zho] at hk'
  obtain ⟨k0,hk0,rfl⟩:=Zk7.mp hk'
  obtain ⟨uy,ry,hcell⟩ : ∃ uy,RelV vy uy/\s'.heap.IsCell cc (some uy):=by
   obtain ⟨m,_,hl⟩:=I'.loc
   obtain ⟨uy,ry,l⟩:=hl i y vy hi hσ (.inr (.inl hky))
   refine ⟨uy,ry,?_⟩
   rcases l with ⟨l,_⟩ | ⟨_,c2,e2,z⟩
   ·have l : X.env.scope.names.lookup y = some .local:=l
    rw [hky] at l; cases l
   ·rw [hcc] at e2; cases e2; exact z
  have ho:=(I'.pin _ (Zht _ (Zig _ (Zht _ (.head _))))).1
  refine Zj8 (ybe I' hA hd hr.in1.depth ho ((ck.same hJ).rec I'.hok) hcc hcell ry ru (hbind _ _ _ _ _) hx hy hnc hfr hco hgen hk (he _ _ _ _ _ (hr.in1.deeper _)) (turn j x' k0 H' hx' hk0 (sm.trans hJ))) (fun v s'' hz=>?_) fun _ _ z=>z
  obtain ⟨y',H'',os,bare,un,hok,r,z1,z2⟩:=hz
  exact ⟨y',H'',I'.call' (ch:=[]) os un hok bare (fun _ z=>nomatch z),hJ.trans z1,z1,r,z2⟩
 ·intro j m k k' H' s' pl y1 z1 u v C' hj hm' I' r1 rr1 r2 rr2 hC
  rw [Zho] at hj hm'
  obtain ⟨k1,hk1,rfl⟩:=Zk7.mp hj
  obtain ⟨k2,hk2,rfl⟩:=Zk7.mp hm'
  rw [zxi hk1,zxi hk2] at hC
  refine yck I' r1 rr1 r2 rr2 ?_ ?_ hC
  ·rw [hkn _ (Zhs hk1),hkn _ (Zhs hk2)]
  ·have:=hr.in1.un; omega
 ·intro j x' v H' s' hx' rx hb' I' hJ
  exact ⟨x',H',I'.unpinned,rx,fin j x' H' hx' (fun m hm'=>⟨of_decide_eq_false (hb' m hm').1,fun z=>of_decide_eq_true ((hb' m hm').2 z)⟩) (sm.trans hJ)⟩
end
end L2
namespace L2
open PySem PySem.W PySem.Spec PyProof.Rows
structure LamAt (base : Heap) (mg : Str->Option Value) (fl : Zkj) (T : Addr) : Prop where
 ex : ∃ c,fl.code = .ref c/\CodeHd base c T
 bt : base.BuiltinsAt mg T
theorem zoe {P : Ziq} {w : Zjv} {H : Hp} {h : Heap} {T : Addr} {pos : Pos} {q : Str} (e : h.get? T = some (tabObj #[])) : zdx P w H h T (.tab #[] pos q):=⟨#[],e,trivial,.inl rfl⟩
theorem zuk {P : Ziq} {w : Zjv} {K : Zhi} {mg mb : Str->Option Value} {CX : CXT} {k : Nat} {fa a T c : Addr} {fd fl : Zkj} {x q : Str} {pos : Pos} {sp : Sp} {s₁ : Zhq} {vs : List Value} {ns : List Int}
  (KX : K.In s₁.heap) (hns : s₁.heap.Ns Zj9 mg) (hb : s₁.heap.Ns Zpn mb) (hbb : ∀ y : Str,y ≠ "__name__" -> mb y = Zmk y) (hlim : s₁.heap.NoLimit) (hg : s₁.gens = #[])
  (ha : s₁.heap.get? a = some { cls:=.type "list", data:=.seq vs.toArray }) (hi : Zqy vs ns) (hl : ns.length <= sizeLine) (hr : Room k Zqu)
  (hfl : fl.code = .ref c) (hC : CodeHd s₁.heap c T) (hT : s₁.heap.get? T = some (tabObj #[])) (hno : noTabs K = true) (hB : s₁.heap.BuiltinsAt mg T)
  (F : ∀ base : Heap,K.In base->base.Ns Zj9 mg->LamAt base mg fl T->FnOk P w K mg base CX k fa fd [x] sp) (hbind : ∀ (s : Zhq) (u : Value),Zpz s fd ⟨[u],[]⟩ [(x,u)])
  (hsp : ∀ H : Hp,SqL K H a (ns.map V.int)->H T = some (.tab #[] pos q)->sp [.ref a] H (fun v H'=>v = .bl true/\H' T = some (.tab #[] pos q)) fun _ _ _=>False)
  (hCX : ∀ H e s',CX [] H s₁ (fun _ _ _=>False) e s'->False) :
  Zns (Zix P w) Zqu (.call (.ref fa) ⟨[.ref a],[]⟩) (fun r s'=>r = .ok (.ret (.bool true))/\OldK s₁.heap s'.heap/\s'.os = s₁.os/\Zo3 s'.gens) s₁:=by
 have rv:=zoh hi
 have lenV:=hi.length
 have hKT : K.lookup T = none:=by
  cases z : K.lookup T with
  | none=>rfl
  | some o =>
   have e:=KX T o z
   rw [hT] at e
   cases e
   exact absurd (Zi5.mp hno _ (mem_of_lookupK z)) Zih
 have haT : a≠T:=fun z=>by rw [z,hT] at ha; cases ha
 -- from a tracked part: the table,and perhaps the script
 have core : ∀ H : Hp, (∀ b u, H b = some u -> (b = T /\ u = .tab #[] pos q) \/ (b = a /\ K.lookup a = none /\ ∃ o xs, u = .frz o (.lst xs))) -> H T = some (.tab #[] pos q) -> SqL K H a (ns.map V.int) -> HOk P w H s₁.heap ->
   Zns (Zix P w) Zqu (.call (.ref fa) ⟨[.ref a],[]⟩) (fun r s'=>r = .ok (.ret (.bool true))/\OldK s₁.heap s'.heap/\s'.os = s₁.os/\Zo3 s'.gens) s₁:=by
  intro H hO hHT hS hok
  have out : ∀ {b : Addr} {o : Obj},s₁.heap.get? b = some o->(∀ its,o.data ≠ .fields its \/ o.cls ≠ .none)->(∀ its n,o.data ≠ .seq its n)->H b = none:=fun {b o} e h1 h2=>by
   cases z : H b with
   | none=>rfl
   | some u =>
    rcases hO b u z with ⟨rfl,_⟩ | ⟨rfl,_⟩
    ·rw [hT] at e; cases e
     exact (h1 #[]).elim (fun z=>absurd rfl z) fun z=>absurd rfl z
    ·rw [ha] at e; cases e
     exact absurd rfl (h2 _ _)
  have nsK : ∀ {b : Addr} {m : Str->Option Value},s₁.heap.Ns b m->(hidT s₁.heap H).Ns b m:=fun {b m} ⟨o,es,ep,e,d,r⟩=>⟨o,es,ep,zkw e (out e (fun _=>.inl (by rw [d]; nofun)) fun _ _=>by rw [d]; nofun),d,r⟩
  have hKb : K.In (hidT s₁.heap H):=fun b o e=>zkw (KX b o e) (by
   cases z : H b with
   | none=>rfl
   | some u =>
    rcases hO b u z with ⟨rfl,_⟩ | ⟨rfl,n,_⟩
    ·rw [hKT] at e; cases e
    ·rw [n] at e; cases e)
  have hM : Mod K mg (hidT s₁.heap H):=⟨hKb,nsK hns,⟨mb,nsK hb,hbb⟩,let ⟨mc,h1,h2⟩:=hlim; ⟨mc,nsK h1,h2⟩⟩
  have e0 : Env0 P w K mg (hidT s₁.heap H) Zqu [] s₁ H:=⟨rfl,hM,fun b o e=>zz7 e,Zup (zwz _ _),trivial,fun b hb=>absurd (show b∈([] : List Addr) from hb) (by simp),hok,.of_eq hg⟩
  have hL : LamAt (hidT s₁.heap H) mg fl T:=by
   refine ⟨⟨c,hfl,?_⟩,?_⟩
   ·obtain ⟨o,vs',file,tf,flags,tg,inF,text,tt,e1,r1,r2,r⟩:=hC
    exact ⟨o,vs',file,tf,flags,tg,inF,text,tt,zkw e1 (out e1 (fun _=>.inr (by rw [r1]; nofun)) fun _ _=>by rw [r2]; nofun),r1,r2,r⟩
   ·obtain ⟨bm,o,a1,a2,a3,a4,e,r1,r2,r3⟩:=hB
    exact ⟨bm,o,a1,a2,a3,a4,zkw e (out e (fun _=>.inl (by rw [r3]; nofun)) fun _ _=>by rw [r3]; nofun),r1,r2,r3⟩
  refine Zr6 ((F _ hKb (nsK hns) hL).run Zqu [] s₁ H ⟨[.ref a],[]⟩ [.ref a] [.ref a] _ _ hr e0 (hbind s₁ (.ref a)) (.cons rfl .nil) (hsp H hS hHT)) fun r s' h=>?_
  cases r with
  | error e=>exact (hCX H e s' h).elim
  | ok fl =>
   cases fl with
   | next=>exact Zlu h
   | brk=>exact Zlu h
   | cont=>exact Zlu h
   | ret u =>
    obtain ⟨v,H',os,bare,un,hok',r',q1,q2⟩:=h
    subst q1
    obtain rfl : u = Znn true:=r'
    obtain ⟨more,hT',_⟩:=hok' T _ q2
    have step : ∀ b o,s₁.heap.get? b = some o->b≠T->s'.heap.get? b = some o:=fun b o e hb=>by
     cases z : H b with
     | none=>exact un.keep b o e z (by intro z; exact absurd (show b∈([] : List Addr) from z) (by simp)) (by simp)
     | some u =>
      rcases hO b u z with ⟨h1,_⟩ | ⟨_,_,ob,xs,rfl⟩
      ·exact absurd h1 hb
      ·have z2:=un.frzs b ob _ z
       obtain ⟨e1,_⟩:=hok b _ z
       obtain ⟨e2,_⟩:=hok' b _ z2
       rw [e] at e1; cases e1
       exact e2
    refine ⟨rfl,⟨fun b o e=>?_,fun b o e=>?_⟩,os,bare⟩
    ·by_cases hb : b = T
     ·subst hb
      rw [hT] at e; cases e
      exact .inr (.inl ⟨(hC.tab hT).isCodeTable,rfl,#[],more,rfl,hT'⟩)
     ·exact .inl (step b o e hb)
    ·by_cases hb : b = T
     ·subst hb
      exact ⟨_,hT'⟩
     ·exact ⟨o,step b o e hb⟩
 cases hk : K.lookup a with
 | some o =>
  have e:=KX a o hk
  rw [ha] at e
  cases e
  refine core (fun b=>if b = T then some (.tab #[] pos q) else none) (fun b u z=>?_) (if_pos rfl) (.inr ⟨_,vs.toArray,_,hk,rfl,rfl,rfl,by rw [Zii,lenV]; exact hl,by simpa using rv⟩) fun b u z=>?_
  ·by_cases hb : b = T
   ·have z':=(if_pos hb).symm.trans z
    cases z'
    exact .inl ⟨hb,rfl⟩
   ·have z':=(if_neg hb).symm.trans z
    cases z'
  ·by_cases hb : b = T
   ·have z':=(if_pos hb).symm.trans z
    cases z'
    subst hb
    exact zoe hT
   ·have z':=(if_neg hb).symm.trans z
    cases z'
 | none =>
  refine core (fun b=>if b = T then some (.tab #[] pos q) else if b = a then some (.frz { cls:=.type "list", data:=.seq vs.toArray } (.lst (ns.map V.int))) else none) (fun b u z=>?_) (if_pos rfl) (.inl (.inr ⟨{ cls:=.type "list", data:=.seq vs.toArray },(if_neg haT).trans (if_pos rfl)⟩)) fun b u z=>?_
  ·by_cases hb : b = T
   ·have z':=(if_pos hb).symm.trans z
    cases z'
    exact .inl ⟨hb,rfl⟩
   ·have z':=(if_neg hb).symm.trans z
    by_cases hb2 : b = a
    ·have z'':=(if_pos hb2).symm.trans z'
     cases z''
     exact .inr ⟨hb2,hk,_,_,rfl⟩
    ·have z'':=(if_neg hb2).symm.trans z'
     cases z''
  ·by_cases hb : b = T
   ·have z':=(if_pos hb).symm.trans z
    cases z'
    subst hb
    exact zoe hT
   ·have z':=(if_neg hb).symm.trans z
    by_cases hb2 : b = a
    ·have z'':=(if_pos hb2).symm.trans z'
     cases z''
     subst hb2
     exact ⟨ha,by rw [Zhk]; exact hl,vs,_,rv,ha⟩
    ·have z'':=(if_neg hb2).symm.trans z'
     cases z''
theorem zm6 {h : Heap} {mg : Str->Option Value} {T : Addr} (hT : h.get? T = some (tabObj #[])) (hns : h.Ns Zj9 mg) (hB : ∃ bm ob,mg "__builtins__" = some (.ref bm)/\bm≠Zpn/\h.get? bm = some ob/\ob.cls = .type "module" /\ ob.dict = some Zpn/\ob.data = .plain) : h.BuiltinsAt mg T:=by
 obtain ⟨bm,ob,a1,a2,e,r1,r2,r3⟩:=hB
 refine ⟨bm,ob,a1,a2,fun z=>?_,fun z=>?_,e,r1,r2,r3⟩
 ·obtain ⟨o,es,ep,e2,d,_⟩:=hns
  rw [z,e2] at e; cases e
  rw [r3] at d; cases d
 ·rw [z,hT] at e; cases e
  cases r3
theorem walk_ofT {l : Zox} {n k : Nat} {q : Ziq} {loose : List Str} {XP : (Str->Option Value)->Heap->Prop} {YP : Zjv->Heap->Prop} {d : DefRec} {K : Params->Zhi} {CX : CXT} {sp : Zhi->Addr->Sp} {x nm lq : Str} {pos : Pos}
  (hn : l.most = some n) (hn2 : n <= sizeLine) (hdf : d.params.defaults = []) (hr : Room k Zqu)
  (hY : ∀ (w : Zjv) (h : Heap),YP w h->(K w.params).In h)
  (hrec : ((recsOf q).find? fun e=>e.name == nm).isSome = true) (hno : ∀ p,noTabs (K p) = true)
  (F : ∀ (w : Zjv) (mg : Str->Option Value) (fa : Addr) (h : Heap),(K w.params).In h->h.Ns Zj9 mg->mg d.name = some (.ref fa) ->
   ∃ fd fl : Zkj,(∀ (s : Zhq) (u : Value),Zpz s fd ⟨[u],[]⟩ [(x,u)])/\(∃ g oc od osl,mg nm = some (.ref g)/\(K w.params).lookup g = some ⟨oc,od,.func fl,osl⟩) /\
    ∀ (base : Heap) (T : Addr),(K w.params).In base->base.Ns Zj9 mg->LamAt base mg fl T->FnOk l.prog w (K w.params) mg base CX k fa fd [x] (sp (K w.params) T))
  (hsp : ∀ (K : Zhi) (H : Hp) (a T : Addr) (ns : List Int),ns.length <= n->SqL K H a (ns.map V.int)->H T = some (.tab #[] pos lq)->sp K T [.ref a] H (fun v H'=>v = .bl true/\H' T = some (.tab #[] pos lq)) fun _ _ _=>False)
  (hCX : ∀ (H : Hp) (s : Zhq) (e : Value) (s' : Zhq),CX [] H s (fun _ _ _=>False) e s'->False) :
  Zsa q loose XP YP l.row.toRowW d [] (fun f vs=>Zro f vs):=by
 refine Att.attach_call hn hdf fun w s₀ s₁ mg mb fa o pm cd doc a vs ns G Y ho hd hcd hmg hobj hints hlen hg=>?_
 have KX:=hY w _ Y
 obtain ⟨fd,fl,hb,⟨g,oc,od,osl,hm,hlk⟩,hF⟩:=F w mg fa _ KX G.T.g hmg
 obtain ⟨e,he⟩:=Zjr.mp hrec
 have hen : e.name = nm:=beq_iff_eq.mp (List.find?_some (p:=fun e : DefRec=>e.name == nm) he)
 obtain ⟨a',o',fd',c,T,h1,h2,h3,h4,h5,h6⟩:=G.T.tab e (List.mem_of_find?_eq_some he)
 rw [hen,hm] at h1
 cases h1
 have e2:=KX _ _ hlk
 rw [h2] at e2
 cases e2
 have h3' : fl = fd':=by injection h3
 subst h3'
 have hC:=CodeHd.of h5 h6
 exact zuk (pos:=pos) (q:=lq) KX G.T.g G.T.b G.T.builtins G.T.nolimit hg hobj hints (Zik hlen hn2) hr h4 hC h6.2 (hno _) (zm6 h6.2 G.T.g G.T.bmain) (fun base h1 h2 h3=>hF base T h1 h2 h3) hb (fun H hS hHT=>hsp _ H a T ns hlen hS hHT) fun H e s'=>hCX H s₁ e s'
theorem Fun.okC {P : Ziq} {w : Zjv} {K : Zhi} {mg : Str->Option Value} {base : Heap} {x qual : Str} {st : Stmt} {f : Addr} {fd : Zkj} {N ps : List Str} {k : Nat} {sp : Sp} (F : Fun K x qual st f fd) (S : FnScope N ps (zah st)) (len : ∀ vs H Q E,sp vs H Q E->vs.length = ps.length)
  (hbody : ∀ (cdv : Value) (A : Zi0) (outer : List Env) (s : Zhq) (H : Hp) (vs : List V) (Q : VK) (E : XK),fd.code = cdv->Room k (A.deeper (Zm1 qual (zah st) s.heap.objs.size f cdv))->sp vs H Q E ->
   ∃ t,PSs (cxOf CX0 P w K mg base N qual (zah st) f cdv A outer s H E).nox (zb1 st) t/\t { nx:=fun _ H'=>Q .non H',rt:=Q } (zg0 N vs) H) : FnOk P w K mg base CX0 (k + 1) f fd ps sp:=by
 obtain ⟨oc,od,kV,doc,pm,an,cdv,ct,osl,rfl,lk,hcd⟩:=F.ex
 refine yc7 lk hcd S len fun A outer s H vs Q E hr hsp=>?_
 obtain ⟨t,h,q⟩:=hbody cdv A outer s H vs Q E rfl hr hsp
 exact ⟨t,h.nox,q⟩
theorem zyz {names : List (Str × Ziu)} {y : Str} (hf : names.filter (fun n=>n.2 == .free) = [(y,.free)]) : ∀ z,names.lookup z = some .free->z = y:=fun z hz=>by
 have hm:=Zj5 hz
 have : (z,Zio)∈names.filter (fun n=>n.2 == .free):=Zh0.mpr ⟨hm,rfl⟩
 rw [hf] at this
 have:=Zhp.mp this
 injection this
theorem ybg {env : Env} {cc : Addr} : ∀ (names : List (Str × Ziu)) (acc : List (Str × Addr)),(∀ x∈names,x.2 = .free->env.cells.lookup x.1 = some cc) ->
  (forIn (m:=Sem) names acc fun x r=>do
   let cs:=r
   if (x.2 == .free) = true then do
    let a <- Zsx env x.1
    let cs:=(x.1,a)::cs
    pure Zp3
    pure (Zkq cs)
   else do
    pure Zp3
    pure (Zkq cs)) = pure (((names.filter fun n=>n.2 == .free).map fun n=>(n.1,cc)).reverse++acc):=by
 intro names
 induction names with
 | nil=>intro acc _; rfl
 | cons x names ih =>
  intro acc h
  rw [Zpi]
  have ih':=fun acc=>ih acc fun z hz=>h z (Zhv _ hz)
  cases hx : (x.2 == Zio) with
  | true =>
   have:=h x Zhx (by simpa using hx)
   have hco : Zsx env x.1 = pure cc:=by unfold Zsx; rw [this]
   simp only [hx,hco,if_true,Zmf,Zh5,Zku,Zou,Zq3]
   simpa using ih' _
  | false =>
   simp only [hx,Zmf]
   simpa using ih' acc
theorem zym {scope : Scope} {env : Env} {y : Str} {cc : Addr} (hf : scope.names.filter (fun n=>n.2 == .free) = [(y,.free)]) (hc : env.cells.lookup y = some cc) : Zoh scope env = pure [(y,cc)]:=by
 have h:=ybg (env:=env) (cc:=cc) scope.names [] fun x hx hk=>by
  have : x∈scope.names.filter (fun n=>n.2 == .free):=Zh0.mpr ⟨hx,by rw [hk]; rfl⟩
  rw [hf] at this
  rw [Zhp.mp this]; exact hc
 rw [hf] at h
 unfold Zoh
 refine (bind_congr (fun _=>rfl)).trans ?_
 rotate_left
 exact (congrArg (· >>= fun r=>pure r) h).trans rfl
end L2
namespace L2
open PySem PySem.Spec PyProof.Rows
noncomputable abbrev HasT (H : Hp) (T : Addr) (pos : Pos) (q : Str) : Prop:=H T = some (.tab #[] pos q)
noncomputable def SpDT (K : Zhi) (T : Addr) (pos : Pos) (q : Str) (pre : List D->Prop) (res : List D->D) : Sp:=fun vs H Q _=>∃ G ds,Same G H/\HasT G T pos q/\Reps K G ds vs/\pre ds /\ ∀ v G' H',Ext G H G' H'->Rep K G' (res ds) v->Q v H'
noncomputable def RtPO (K : Zhi) (G H₀ : Hp) (rt : VK) (l : Int) (ds : List D) : Prop:=∀ a p vs F H,Ext G H₀ F H->H₀ p = none->F p = none->F a = some (.tup [.int l,.ref p])->H p = some (.lst vs)->Reps K F ds vs->rt (.ref a) H
noncomputable def SpPT (K : Zhi) (T : Addr) (pos : Pos) (q : Str) (pre : List D->Prop) (res : List D->Int × List D) : Sp:=fun vs H Q _=>∃ G ds,Same G H/\HasT G T pos q/\Reps K G ds vs/\pre ds/\RtPO K G H Q (res ds).1 (res ds).2
section
variable {K : Zhi} {G H₀ L : Hp} {ss : List Sl} {t : TA} {ta te tb : TE} {ds : List D} {d : D} {pre : List D->Prop} {E : XK} {T : Addr} {pos : Pos} {q : Str}
theorem zsj {res : List D->D} (hT : HasT G T pos q) (a : EvAF K G H₀ L ss t ds) (hp : pre ds) : Ev K G H₀ L ss (zhd (SpDT K T pos q pre res) [] E t) (res ds):=fun F H σ Q S k =>
 a F H σ _ S fun vs F1 H1 e1 r1=>⟨F1,ds,e1.fh,(S.ext.trans e1).gf _ _ hT,by rw [Zjj]; exact r1,hp,fun v G' H' e2 r=>k _ _ _ (e1.trans e2) r⟩
theorem zv0 {res : List D->Int × List D} (hT : HasT G T pos q) (a : EvAF K G H₀ L ss t ds) (hp : pre ds) : Ev K G H₀ L ss (zhd (SpPT K T pos q pre res) [] E t) (.tup [.int (res ds).1,.lst (res ds).2]):=fun F H σ Q S k =>
 a F H σ _ S fun vs F1 H1 e1 r1=>⟨F1,ds,e1.fh,(S.ext.trans e1).gf _ _ hT,by rw [Zjj]; exact r1,hp,fun a' p ws G' H' e2 h1 h2 h3 h4 r=>by
  have hne : a'≠p:=fun z=>by rw [z,h2] at h3; cases h3
  refine k (.ref a') (upd G' p (.lst ws)) H' (e1.trans (e2.freeze h2 h1 h4)) (Rep.tupN ?_ (Reps.cons Rep.int (Reps.cons (Rep.lst (SqL.of zap) (r.mono (Same.upd h2))) Reps.nil)))
  rw [zav hne]; exact h3⟩
theorem zwx {vs : List V} {H : Hp} {Q : VK} {X : XK} {N : List Str} {ts : TS} {res : List D->D} (h : SpDT K T pos q pre res vs H Q X) (hN : vs.length <= N.length) (body : ∀ G ds,HasT G T pos q->pre ds->RtD K G H Q (res ds)->Go K G H G { nx:=fun _ H'=>Q .non H',rt:=Q } (slots N.length ds) ts) : ts { nx:=fun _ H'=>Q .non H',rt:=Q } (zg0 N vs) H:=by
 obtain ⟨G,ds,sm,hT,r,hp,q⟩:=h
 exact body G ds hT hp (fun v F H' e r=>q v F H' e r) G H _ (zdr sm r hN)
theorem ybt {vs : List V} {H : Hp} {Q : VK} {X : XK} {N : List Str} {ts : TS} {res : List D->Int × List D} (h : SpPT K T pos q pre res vs H Q X) (hN : vs.length <= N.length) (body : ∀ G ds,HasT G T pos q->pre ds->RtPO K G H Q (res ds).1 (res ds).2->Go K G H G { nx:=fun _ H'=>Q .non H',rt:=Q } (slots N.length ds) ts) : ts { nx:=fun _ H'=>Q .non H',rt:=Q } (zg0 N vs) H:=by
 obtain ⟨G,ds,sm,hT,r,hp,q⟩:=h
 exact body G ds hT hp q G H _ (zdr sm r hN)
theorem zkn {vs : List V} {H : Hp} {Q : VK} {X : XK} {res : List D->D} {n : Nat} (hpre : ∀ ds,pre ds->ds.length = n) (h : SpDT K T pos q pre res vs H Q X) : vs.length = n:=by
 obtain ⟨G,ds,sm,hT,r,hp,q⟩:=h
 rw [<- r.length]; exact hpre ds hp
theorem zsg {vs : List V} {H : Hp} {Q : VK} {X : XK} {res : List D->Int × List D} {n : Nat} (hpre : ∀ ds,pre ds->ds.length = n) (h : SpPT K T pos q pre res vs H Q X) : vs.length = n:=by
 obtain ⟨G,ds,sm,hT,r,hp,q⟩:=h
 rw [<- r.length]; exact hpre ds hp
theorem zxa {Es : Ends} {i : Nat} {p : Addr} {l : Int} (hs : ss[i]? = some (.o p ds)) (a : Ev K G H₀ L ss ta (.int l)) (h : RtPO K G H₀ Es.rt l ds) : Go K G H₀ L Es ss (tRet (tTup (za5 ta (za5 (tVar i) tNil)))):=fun F H σ S =>
 a F H σ _ S fun v F1 H1 e1 r1=>by
  have e:=r1.of_int
  subst e
  obtain ⟨e2,h0,fp,vs,hp,r⟩:=(S.ext2 e1).getO hs
  refine ⟨_,e2,zsr (by simp),fun x hx=>?_⟩
  have hne : p≠x:=fun z=>by rw [z,hx] at hp; cases hp
  exact h x p vs _ _ ((S.ext.trans e1).newF hx) h0 (by rw [zav hne]; exact fp) zap (by rw [zav hne]; exact hp) (r.mono (Same.upd (e1.fh.free hx)))
theorem zfv {F : Hp} : ∀ {ns : List Int} {vs : List V},Reps K F (ns.map D.int) vs->vs = ns.map V.int
 | [],vs,r=>by rw [Zl8,Reps] at r; exact r
 | n::ns,vs,r=>by
  rw [Zh5,Reps] at r
  obtain ⟨v,ws,rfl,h1,h2⟩:=r
  rw [h1.of_int,zfv h2]; rfl
theorem ybm {F H : Hp} {d1 d2 : D} {x y : V} (sm : Same F H) (r1 : Rep K F d1 x) (r2 : Rep K F d2 y) : Sat K F H F F H [some x,some y] [.d d1,.d d2]:=by
 have:=zdr (N:=["a", "b"]) sm (Reps.cons r1 (Reps.cons r2 Reps.nil)) (Zhu _)
 exact this
theorem zw8 {α : Type} {i : Nat} {dy : D} (enc : α->D) (xs : List α) (key : α->Int × Int × List Int) (n : Nat) (a : EvL K G H₀ L ss ta (xs.map enc)) (hi : ss[i]? = some (.d dy)) (hT : HasT G T pos q) (hne : xs≠[]) (hn : ∀ x∈xs,(key x).2.2.length = n)
  (he : ∀ F H,∀ x∈xs,Ev K F H F [.d (enc x),.d dy] te (keyD (key x).1 (key x).2.1 (key x).2.2))
  (hd : ∀ x∈xs,(∀ y∈xs,¬ ((key y).1::(key y).2.1::(key y).2.2) < ((key x).1::(key x).2.1::(key x).2.2))->enc x = d) : Ev K G H₀ L ss (ycp K T pos q i te ta) d:=fun F H σ Q S k =>
 a F H σ _ S fun p vs F1 H1 e1 sq rs=>by
  obtain ⟨vy,hσ,ry⟩:=(S.ext2 e1).getD hi
  have hl : vs.length = xs.length:=by rw [<- rs.length,Zhk]
  have at_ : ∀ {j : Nat} {v : V},vs[j]? = some v -> ∃ x,xs[j]? = some x/\Rep K F1 (enc x) v:=fun {j v} hv=>by
   obtain ⟨d',hd',r⟩:=rs.get hv
   rw [Zho] at hd'
   obtain ⟨x,hx,rfl⟩:=Zk7.mp hd'
   exact ⟨x,hx,r⟩
  refine ⟨p,vs,vy,xs.map key,n,rfl,sq,hσ,(S.ext.trans e1).fh _ _ ((S.ext.trans e1).gf _ _ hT),by rw [hl]; exact Zj6.mpr hne,by rw [Zhk,hl],fun z hz=>?_,fun j v z H' hv hz sm=>?_,fun j v H' hv hm sm=>?_⟩
  ·obtain ⟨x,hx,rfl⟩:=Zh3.mp hz
   exact hn x hx
  ·obtain ⟨x,hx,r⟩:=at_ hv
   rw [Zho,hx] at hz
   cases hz
   exact he F1 H' x (Zhs hx) F1 H' _ _ (ybm (e1.fh.trans sm) r ry) fun y F2 H2 e2 r2=>⟨e2.hh,r2.mono e2.fh⟩
  ·obtain ⟨x,hx,r⟩:=at_ hv
   have e : enc x = d:=hd x (Zhs hx) fun y hy=>by
    obtain ⟨m,hm',hy'⟩:=Zmn hy
    have h1:=(hm m (by omega)).1
    rw [zxi (k:=key y) (by rw [Zho,Zhj hm',hy']; rfl),zxi (k:=key x) (by rw [Zho,hx]; rfl)] at h1
    exact h1
   rw [e] at r
   exact k v F1 H' (e1.trans ⟨Same.refl _,e1.fh.trans sm,sm,fun _ _ _ _=>rfl⟩) r
theorem zsd {ns : List Int} {m m' : Int} (h1 : m∈ns) (h2 : ∀ n∈ns,n <= m) (h3 : m'∈ns) (h4 : ∀ n∈ns,n <= m') : m' = m:=Int.le_antisymm (h2 _ h3) (h4 _ h1)
theorem yaf {ns : List Int} {m : Int} (a : EvL K G H₀ L ss ta (ns.map .int)) (hm : m∈ns) (hge : ∀ n∈ns,n <= m) : Ev K G H₀ L ss (tCB (yb9 K) (za5 ta tNil)) (.int m):=fun F H σ Q S k =>
 a F H σ _ S fun p vs F' H' e sq rs=>by
  have ev:=zfv rs
  subst ev
  exact ⟨p,ns,rfl,sq,(fun z=>by rw [z] at hm; cases hm),fun m' h3 h4=>by rw [zsd hm hge h3 h4]; exact k _ _ _ e Rep.int⟩
theorem zvp {ns : List Int} {m d0 : Int} (a : EvL K G H₀ L ss ta (ns.map .int)) (b : Ev K G H₀ L ss tb (.int d0)) (h : (ns = []/\m = d0) \/ (m∈ns /\ ∀ n∈ns,n <= m)) : Ev K G H₀ L ss (ycc K ta tb) (.int m):=fun F H σ Q S k =>
 a F H σ _ S fun p vs F' H' e sq rs=>by
  have ev:=zfv rs
  subst ev
  refine b F' H' σ _ (S.ext2 e) fun v F2 H2 e2 r2=>?_
  refine ⟨p,ns,d0,rfl,r2.of_int,SqL.same e2.hh sq,fun m' h3 h4=>?_,fun hn=>?_⟩
  ·rcases h with ⟨rfl,_⟩ | ⟨h1,h2⟩
   ·cases h3
   ·rw [zsd h1 h2 h3 h4]; exact k _ _ _ (e.trans e2) Rep.int
  ·rcases h with ⟨_,rfl⟩ | ⟨h1,h2⟩
   ·exact k _ _ _ (e.trans e2) Rep.int
   ·rw [hn] at h1; cases h1
end
section
variable {κ : Type} [DecidableEq κ]
noncomputable def valV (kvs : List (κ × V)) (k : κ) : Option V:=(kvs.find? fun kv=>decide (kv.1 = k)).map (·.2)
noncomputable def putK (kvs : List (κ × V)) (k : κ) (v : V) : List (κ × V) :=
 if (kvs.any fun kv=>decide (kv.1 = k)) = true then kvs.map (fun kv=>if kv.1 = k then (kv.1,v) else kv) else kvs++[(k,v)]
theorem zm5 {p : κ × V} {r : List (κ × V)} {k : κ} (e : p.1 = k) : valV (p::r) k = some p.2:=by simp [valV,Zi2,e]
theorem zna {p : κ × V} {r : List (κ × V)} {k : κ} (e : ¬ p.1 = k) : valV (p::r) k = valV r k:=by simp [valV,Zi2,e]
theorem zm4 (k : κ) : ∀ kvs : List (κ × V),(kvs.any fun kv=>decide (kv.1 = k)) = (valV kvs k).isSome
 | []=>rfl
 | p::r=>by
  rw [Zk2]
  by_cases e : p.1 = k
  ·simp only [zm5 e,decide_eq_true e,Zt5,Option.isSome_some]
  ·rw [zna e,decide_eq_false e,Zmi]; exact zm4 k r
theorem ziz (kvs : List (κ × V)) (k : κ) (v : V) : (putK kvs k v).length <= kvs.length + 1:=by
 unfold putK
 split
 ·rw [Zhk]; omega
 ·rw [Zh1,Zkb,List.length_nil]; omega
theorem zyw {kvs : List (κ × V)} {k : κ} (v : V) (h : valV kvs k = none) : putK kvs k v = kvs++[(k,v)]:=by
 unfold putK
 rw [zm4,h]
 exact if_neg (by decide)
theorem RelO.isSome_eq {o : Option V} {u : Option Value} (r : RelO o u) : o.isSome = u.isSome:=by
 cases o with
 | none=>cases u with
  | none=>rfl
  | some _=>exact (show False from r).elim
 | some _=>cases u with
  | none=>exact (show False from r).elim
  | some _=>rfl
theorem RelO.getD {o : Option V} {u : Option Value} {d : V} {d' : Value} (r : RelO o u) (rd : RelV d d') : RelV (o.getD d) (u.getD d'):=by
 cases o with
 | none=>cases u with
  | none=>exact rd
  | some _=>exact (show False from r).elim
 | some _=>cases u with
  | none=>exact (show False from r).elim
  | some _=>exact r
theorem KV.val {kvs : List (κ × V)} {vs : List (κ × Value)} (r : KV kvs vs) (k : κ) : RelO (valV kvs k) (Zqq vs k):=by
 unfold KV at r
 induction r with
 | nil=>exact Zos
 | @cons p q ps qs h t ih =>
  obtain ⟨h1,h2⟩:=h
  by_cases e : p.1 = k
  ·have e' : q.1 = k:=h1.symm.trans e
   have b : Zqq (q::qs) k = some q.2:=by simp [Zqq,Zi2,e']
   rw [zm5 e,b]; exact h2
  ·have e' : ¬ q.1 = k:=fun z=>e (h1.trans z)
   have b : Zqq (q::qs) k = Zqq qs k:=by simp [Zqq,Zi2,e']
   rw [zna e,b]; exact ih
theorem KV.any {kvs : List (κ × V)} {vs : List (κ × Value)} (r : KV kvs vs) (k : κ) : (kvs.any fun kv=>decide (kv.1 = k)) = vs.any fun kv=>decide (kv.1 = k):=by
 unfold KV at r
 induction r with
 | nil=>rfl
 | cons h t ih=>rw [Zk2,Zk2,ih,h.1]
theorem KV.repl {kvs : List (κ × V)} {vs : List (κ × Value)} (r : KV kvs vs) (k : κ) {y : V} {u : Value} (ry : RelV y u) :
  KV (kvs.map fun kv=>if kv.1 = k then (kv.1,y) else kv) (vs.map fun kv=>if kv.1 = k then (kv.1,u) else kv):=by
 unfold KV at r ⊢
 induction r with
 | nil=>exact .nil
 | @cons p q ps qs h t ih =>
  rw [Zh5,Zh5]
  refine .cons ?_ ih
  obtain ⟨h1,h2⟩:=h
  by_cases e : p.1 = k
  ·rw [if_pos e,if_pos (h1.symm.trans e)]; exact ⟨h1,ry⟩
  ·rw [if_neg e,if_neg (fun z=>e (h1.trans z))]; exact ⟨h1,h2⟩
theorem KV.put {kvs : List (κ × V)} {vs : List (κ × Value)} (r : KV kvs vs) (k : κ) {y : V} {u : Value} (ry : RelV y u) : KV (putK kvs k y) (stored vs k u):=by
 unfold putK stored
 rw [r.any k]
 by_cases e : (vs.any fun kv=>decide (kv.1 = k)) = true
 ·rw [if_pos e,if_pos e]; exact r.repl k ry
 ·rw [if_neg e,if_neg e]; exact Zs2 r ⟨rfl,ry⟩
theorem KV.length {kvs : List (κ × V)} {vs : List (κ × Value)} (r : KV kvs vs) : kvs.length = vs.length:=Zp2 r
end
theorem zpa {P : Ziq} {w : Zjv} {k : Key} {u : Value} (r : RelV (kV k) u) : (zbd P w).is k u = true:=by
 cases k with
 | inl i=>obtain ⟨t,e⟩:=(show ∃ t,u = Zk6 i t from r); subst e; exact zpz P w i t
 | inr x=>obtain ⟨t,e⟩:=(show ∃ t,u = Zr9 x t from r); subst e; exact zqq P w x t
theorem zoz {P : Ziq} {w : Zjv} : ∀ {ks : List Key} {us : List Value},Vals (ks.map kV) us->ItemsAre (zbd P w) ks us
 | [],_,r=>by rw [Zl8] at r; cases r; exact .nil
 | k::ks,_,r=>by
  rw [Zh5] at r
  cases r with
  | cons h t=>exact .cons (zpa h) (zoz t)
noncomputable abbrev KT (H : Hp) : List (List Key × V)->List (List Key × Addr × Value)->Prop:=Zlj fun p q=>p.1 = q.1/\H q.2.1 = some (.tup (p.1.map kV))/\RelV p.2 q.2.2
theorem KT.val {H : Hp} {kvs : List (List Key × V)} {xs : List (List Key × Addr × Value)} (r : KT H kvs xs) (k : List Key) : RelO (valV kvs k) ((Zsm xs k).map (·.2)):=by
 induction r with
 | nil=>exact Zos
 | @cons p q ps qs h t ih =>
  obtain ⟨h1,_,h2⟩:=h
  by_cases e : p.1 = k
  ·have e' : q.1 = k:=h1.symm.trans e
   have b : Zsm (q::qs) k = some q.2:=by simp [Zsm,Zi2,e']
   rw [zm5 e,b]; exact h2
  ·have e' : ¬ q.1 = k:=fun z=>e (h1.trans z)
   have b : Zsm (q::qs) k = Zsm qs k:=by simp [Zsm,Zi2,e']
   rw [zna e,b]; exact ih
theorem KT.repl {H : Hp} {kvs : List (List Key × V)} {xs : List (List Key × Addr × Value)} (r : KT H kvs xs) (k : List Key) {y : V} {u : Value} (ry : RelV y u) :
  KT H (kvs.map fun kv=>if kv.1 = k then (kv.1,y) else kv) (xs.map (putAt k u)):=by
 induction r with
 | nil=>exact .nil
 | @cons p q ps qs h t ih =>
  rw [Zh5,Zh5]
  refine .cons ?_ ih
  obtain ⟨h1,h2,h3⟩:=h
  unfold putAt
  by_cases e : p.1 = k
  ·rw [if_pos e,if_pos (h1.symm.trans e)]; exact ⟨h1,h2,ry⟩
  ·rw [if_neg e,if_neg (fun z=>e (h1.trans z))]; exact ⟨h1,h2,h3⟩
theorem KT.put {H : Hp} {kvs : List (List Key × V)} {xs : List (List Key × Addr × Value)} (r : KT H kvs xs) (k : List Key) {b : Addr} {y : V} {u : Value} (hb : H b = some (.tup (k.map kV))) (ry : RelV y u) :
  KT H (putK kvs k y) (storedH xs k b u):=by
 have e : (kvs.any fun kv=>decide (kv.1 = k)) = (Zsm xs k).isSome:=by
  rw [zm4,(r.val k).isSome_eq,Zok]
 unfold putK storedH
 rw [e]
 by_cases q : (Zsm xs k).isSome = true
 ·rw [if_pos q,if_pos q]; exact r.repl k ry
 ·rw [if_neg q,if_neg q]; exact Zs2 r ⟨rfl,hb,ry⟩
theorem KT.keeps {H H' : Hp} {kvs : List (List Key × V)} {xs : List (List Key × Addr × Value)} (r : KT H kvs xs) (ht : ∀ b ys,H b = some (.tup ys)->H' b = some (.tup ys)) : KT H' kvs xs :=
 Paired.mapP r fun _ _ z=>⟨z.1,ht _ _ z.2.1,z.2.2⟩
section
variable {P : Ziq} {w : Zjv} {H : Hp} {h : Heap} {a : Addr}
theorem yei {u : HO} (ok : HOk P w H h) (e : Rd H a u) : zdx P w H h a u:=e.ok ok
theorem znj {kvs : List (Key × V)} (ok : HOk P w H h) (e : Rd H a (.dK kvs)) : kvs.length <= sizeLine/\(a == Zkn) = false /\ ∃ vs,KV kvs vs/\h.DictOf (zbd P w) a vs :=
 show zdx P w H h a (.dK kvs) from yei ok e
theorem zw9 {kvs : List (Key × V)} (ok : HOk P w H h) (e : H a = some (.dK kvs)) : kvs.length <= sizeLine/\(a == Zkn) = false /\ ∃ vs,KV kvs vs/\h.DictOf (zbd P w) a vs:=znj ok (.inl e)
theorem zmd {ks : List Key} (ok : HOk P w H h) (e : H a = some (.tup (ks.map kV))) : (Zlo (zbd P w)).is h ks a:=by
 obtain ⟨_,its,r,o,h1,h2,n,h3⟩:=(show zdx P w H h a (.tup (ks.map kV)) from ok a _ e)
 exact ⟨o,its.toArray,n,h1,h2,h3,by simpa using zoz r⟩
theorem zn2 {kvs : List (List Key × V)} (ok : HOk P w H h) (e : Rd H a (.dT kvs)) : kvs.length <= sizeLine/\(a == Zkn) = false /\
  ∃ xs,KT H kvs xs/\h.DictOfH (Zlo (zbd P w)) a xs:=by
 obtain ⟨z,y,xs,r,o,es,ep,h1,h2,h3,h4,h5⟩:=(show zdx P w H h a (.dT kvs) from yei ok e)
 refine ⟨z,y,xs,r,o,es,ep,h1,h2,h3,h4,fun x hx=>?_,h5⟩
 have all : ∀ {l : List (List Key × V)} {m : List (List Key × Addr × Value)},KT H l m -> ∀ x∈m,(Zlo (zbd P w)).is h x.1 x.2.1:=by
  intro l m q
  induction q with
  | nil=>intro x hx; exact nomatch hx
  | @cons p q ps qs hq t ih =>
   intro x hx
   rcases Zie.mp hx with e | hx
   ·subst e
    exact zmd ok (by rw [<- hq.1]; exact hq.2.1)
   ·exact ih x hx
 exact all r x hx
theorem yeu {kvs : List (List Key × V)} (ok : HOk P w H h) (e : H a = some (.dT kvs)) : kvs.length <= sizeLine/\(a == Zkn) = false /\
  ∃ xs,KT H kvs xs/\h.DictOfH (Zlo (zbd P w)) a xs:=zn2 ok (.inl e)
end
noncomputable def DGet (H : Hp) (a : Addr) (y : V) (r : Option V) : Prop :=
 (∃ kvs k,Rd H a (.dK kvs)/\y = kV k/\r = valV kvs k) \/ ∃ kvs k b,Rd H a (.dT kvs)/\y = .ref b/\H b = some (.tup (k.map kV))/\r = valV kvs k
noncomputable def DPut (H : Hp) (a : Addr) (y v : V) (H' : Hp) : Prop :=
 (∃ kvs k,H a = some (.dK kvs)/\y = kV k/\kvs.length < sizeLine/\H' = upd H a (.dK (putK kvs k v))) \/
 ∃ kvs k b,H a = some (.dT kvs)/\y = .ref b/\H b = some (.tup (k.map kV))/\kvs.length < sizeLine/\H' = upd H a (.dT (putK kvs k v))
theorem DGet.k {H : Hp} {a : Addr} {kvs : List (Key × V)} {k : Key} (e : H a = some (.dK kvs)) : DGet H a (kV k) (valV kvs k):=.inl ⟨kvs,k,.inl e,rfl,rfl⟩
theorem DGet.t {H : Hp} {a b : Addr} {kvs : List (List Key × V)} {k : List Key} (e : H a = some (.dT kvs)) (eb : H b = some (.tup (k.map kV))) : DGet H a (.ref b) (valV kvs k):=.inr ⟨kvs,k,b,.inl e,rfl,eb,rfl⟩
theorem DPut.k {H : Hp} {a : Addr} {kvs : List (Key × V)} {k : Key} {v : V} (e : H a = some (.dK kvs)) (hl : kvs.length < sizeLine) : DPut H a (kV k) v (upd H a (.dK (putK kvs k v))):=.inl ⟨kvs,k,e,rfl,hl,rfl⟩
theorem DPut.t {H : Hp} {a b : Addr} {kvs : List (List Key × V)} {k : List Key} {v : V} (e : H a = some (.dT kvs)) (eb : H b = some (.tup (k.map kV))) (hl : kvs.length < sizeLine) :
  DPut H a (.ref b) v (upd H a (.dT (putK kvs k v))):=.inr ⟨kvs,k,b,e,rfl,eb,hl,rfl⟩
section
variable {X : Cx} {pins : List (Addr × Obj)} {σ : St} {H : Hp} {s : Zhq} {a : Addr} {y v : V} {u r : Value} {o : Option V} {A : Zi0} {E : Value->Zhq->Prop}
theorem Inv.big (I : Inv X pins σ H s) : Zkn < s.heap.objs.size:=by
 have h : Zj9 < s.heap.objs.size:=(I.mod.glob.keeps I.bk).lt
 exact Zk0 (by decide) h
theorem zu3 {Q : Value->Zhq->Prop} (hu : A.units + 1 < Znt) (I : Inv X pins σ H s) (g : DGet H a y (some v)) (ry : RelV y u) (h : ∀ w' s',Inv X pins σ H s'->RelV v w'->Q w' s') :
  Zij (Zix X.prog X.w) A (Zrm (.ref a) u) Q E s:=by
 rcases g with ⟨kvs,k,e,ey,l⟩ | ⟨kvs,k,b,e,ey,eb,l⟩
 ·subst ey
  obtain ⟨z,hd,vs,rel,dd⟩:=znj I.hok e
  obtain ⟨w',hw,rw'⟩:=RelO.some_of (v:=v) (o:=Zqq vs k) (by rw [l]; exact rel.val k)
  exact wpAny_getItem_of (zpa ry) dd.mapOf hw (h w' _ (I.tok _) rw')
 ·subst ey
  cases (show u = Zjo b from ry)
  obtain ⟨z,hd,xs,rel,dd⟩:=zn2 I.hok e
  obtain ⟨w',hw,rw'⟩:=RelO.some_of (v:=v) (o:=(Zsm xs k).map (·.2)) (by rw [l]; exact rel.val k)
  obtain ⟨p,hp,hp2⟩:=Zk7.mp hw
  refine wpAny_getItem_heap (Zlh hu) (zmd I.hok eb) dd hp ?_
  rw [hp2]
  exact h w' _ (I.tok _) rw'
theorem Zhg {Q : Value->Zhq->Prop} (hu : A.units + 1 < Znt) (I : Inv X pins σ H s) (g : DGet H a y o) (ry : RelV y u) (h : ∀ s',Inv X pins σ H s'->Q (.bool o.isSome) s') :
  Zij (Zix X.prog X.w) A (Zkp .In u (.ref a)) Q E s:=by
 rcases g with ⟨kvs,k,e,ey,l⟩ | ⟨kvs,k,b,e,ey,eb,l⟩
 ·subst ey
  obtain ⟨z,hd,vs,rel,dd⟩:=znj I.hok e
  refine wpAny_in_of (zpa ry) hd dd.mapOf ?_
  rw [<- (rel.val k).isSome_eq,<- l]
  exact h _ (I.tok _)
 ·subst ey
  cases (show u = Zjo b from ry)
  obtain ⟨z,hd,xs,rel,dd⟩:=zn2 I.hok e
  refine wpAny_in_heap (Zlh hu) (zmd I.hok eb) hd dd ?_
  have q:=(rel.val k).isSome_eq
  rw [Zok] at q
  rw [<- q,<- l]
  exact h _ (I.tok _)
theorem ybq {Q : Value->Zhq->Prop} (hu : A.units + 1 < Znt) (I : Inv X pins σ H s) (g : DGet H a y o) (ry : RelV y u) (h : ∀ s',Inv X pins σ H s'->Q (.bool (!o.isSome)) s') :
  Zij (Zix X.prog X.w) A (Zkp .NotIn u (.ref a)) Q E s:=by
 rcases g with ⟨kvs,k,e,ey,l⟩ | ⟨kvs,k,b,e,ey,eb,l⟩
 ·subst ey
  obtain ⟨z,hd,vs,rel,dd⟩:=znj I.hok e
  refine wpAny_notIn_of (zpa ry) hd dd.mapOf ?_
  rw [<- (rel.val k).isSome_eq,<- l]
  exact h _ (I.tok _)
 ·subst ey
  cases (show u = Zjo b from ry)
  obtain ⟨z,hd,xs,rel,dd⟩:=zn2 I.hok e
  refine wpAny_notIn_heap (Zlh hu) (zmd I.hok eb) hd dd ?_
  have q:=(rel.val k).isSome_eq
  rw [Zok] at q
  rw [<- q,<- l]
  exact h _ (I.tok _)
theorem zpt {h' : Heap} {t' : Nat} {ob : HO} (I : Inv X pins σ H s) (mu : Mut (H a)) (hs : Zo0 a s.heap h') (he : ∃ q,h'.get? a = some q) (new : zdx X.prog X.w (upd H a ob) h' a ob) :
  Inv X pins σ (upd H a ob) { s with heap:=h',toks:=t' } :=
 I.write (x:=a) (e:=a) mu (.inl rfl) (fun b q hb z=>(hs.2 b hb).trans z) he new
theorem zzz {P : Ziq} {w : Zjv} {H' : Hp} {h' : Heap} {kvs : List (Key × V)} {vs : List (Key × Value)} (z : kvs.length <= sizeLine) (hd : (a == Zkn) = false) (rel : KV kvs vs) (dd : h'.DictOf (zbd P w) a vs) :
  zdx P w H' h' a (.dK kvs):=⟨z,hd,vs,rel,dd⟩
theorem zwv {H' : Hp} {Q : Unit->Zhq->Prop} (hu : A.units + 1 < Znt) (I : Inv X pins σ H s) (g : DPut H a y v H') (ry : RelV y u) (rv : RelV v r) (h : ∀ s',Inv X pins σ H' s'->Q () s') :
  Zij (Zix X.prog X.w) A (setItem (.ref a) u r) Q E s:=by
 rcases g with ⟨kvs,k,e,ey,l,eH⟩ | ⟨kvs,k,b,e,ey,eb,l,eH⟩
 ·subst ey eH
  obtain ⟨z,hd,vs,rel,dd⟩:=zw9 I.hok e
  have hz : vs.length <= sizeLine:=by rw [<- rel.length]; exact z
  have hl : (putK kvs k v).length <= sizeLine:=by have:=ziz kvs k v; omega
  refine wpAny_setItem_pairs (hsz:=hz) (zpa ry) dd fun h' dd' hs=>h _ ?_
  have he : ∃ q,h'.get? a = some q:=let ⟨q,_,_,hq,_⟩:=dd'; ⟨q,hq⟩
  exact zpt I (by rw [e]; exact Zos) hs he (zzz hl hd (rel.put k rv) dd')
 ·subst ey eH
  cases (show u = Zjo b from ry)
  obtain ⟨z,hd,xs,rel,dd⟩:=yeu I.hok e
  have hz : xs.length <= sizeLine:=by rw [<- Zp2 rel]; exact z
  have hl : (putK kvs k v).length <= sizeLine:=by have:=ziz kvs k v; omega
  refine wpAny_setItem_heap (hsz:=hz) (Zlh hu) (zmd I.hok eb) dd fun h' dd' hs=>h _ ?_
  obtain ⟨q,es,ep,hq,h2,h3,h4,_,h5⟩:=dd'
  refine zpt I (by rw [e]; exact Zos) hs ⟨q,hq⟩ ⟨hl,hd,_,(rel.put k eb rv).keeps fun c ys ec=>?_,q,es,ep,hq,h2,h3,h4,h5⟩
  rw [zav (yes ec e (fun z=>nomatch z))]
  exact ec
end
section
variable {X : Cx} {pins : List (Addr × Obj)} {σ : St} {H : Hp} {s : Zhq} {a : Addr} {kvs : List (Key × V)} {k : Key} {u : Value} {A : Zi0} {E : Value->Zhq->Prop}
theorem ye3 {Q : Value->Zhq->Prop} (I : Inv X pins σ H s) (e : Rd H a (.dK kvs)) (h : ∀ t s',Inv X pins σ H s'->Q (.int kvs.length t) s') : Zij (Zix X.prog X.w) A (call (.builtin "len") [.ref a]) Q E s:=by
 obtain ⟨z,hd,vs,rel,dd⟩:=znj I.hok e
 refine call_len_dict hd dd (by rw [<- rel.length]; rw [Zh2] at z; omega) ?_
 rw [<- rel.length]
 exact h _ _ (I.tok _)
end
noncomputable def NoSl (i : Expr) : Prop:=∀ ov iv,Zqt i false ov iv = operate [ov,iv] (Zrm ov iv)
theorem ybh {prog : Ziq} {w : Zjv} {A : Zi0} {E : Value->Zhq->Prop} {s : Zhq} {env : Env} {value slice : Expr} {pos : Pos} {T id : String} {Q : Value->Zhq->Prop}
  (hl : Ztf (.type T) "__getitem__" = pure (some (.builtin id))) (hs : NoSl slice)
  (h : Zij (Zix prog w) A (eval value env) (fun o s₁=>Zij (Zix prog w) A (eval slice env) (fun i s₂=>s₂.TypeIs o T/\Zij (Zix prog w) A (Zrm o i) Q E s₂) E s₁) E s) :
  Zij (Zix prog w) A (eval (.Subscript value slice pos) env) Q E s:=by
 refine Ztp (Zj8 h (fun o s₁ h₁=>Zj8 h₁ (fun i s₂ h₂=>?_) fun _ _ x=>x) fun _ _ x=>x)
 obtain ⟨hT,h₂⟩:=h₂
 unfold Zrl
 refine Zhl ?_
 rw [getitemInPython_of_ne hT.not_modules]
 refine Zhl (Zmy hT hl ?_)
 have fin : Zij (Zix prog w) A (Zqt slice false o i) (fun r s₃=>Zij (Zix prog w) A (letTemporaryGo value o r >>= fun _=>pure r) Q E s₃) E s₂:=by
  rw [hs o i]
  exact wpAny_operating (Zj8 h₂ (fun r s₃ h₃=>Zhl (wpAny_letTemporaryGo (Zhz h₃))) fun _ _ x=>x)
 first
  | exact Zhz (Zhl fin)
  | exact Zhl (Zhz (Zhl fin))
  | exact Zhl fin
theorem zp2 {X : Cx} {pins : List (Addr × Obj)} {σ : St} {H : Hp} {s : Zhq} {a : Addr} {y : V} {o : Option V} (I : Inv X pins σ H s) (g : DGet H a y o) : s.TypeIs (.ref a) "dict" := by
 rcases g with ⟨kvs,k,e,_,_⟩ | ⟨kvs,k,b,e,_,_,_⟩
 ·obtain ⟨_,_,vs,_,dd⟩:=znj I.hok e
  exact dd.typeIs
 ·obtain ⟨_,_,xs,_,dd⟩:=zn2 I.hok e
  exact dd.typeIs
noncomputable def zsp (td ty : TE) : TE:=fun σ H Q=>td σ H fun x H1=>ty σ H1 fun y H2=>∃ a v,x = .ref a/\DGet H2 a y (some v)/\Q v H2
noncomputable def tDIn (ty td : TE) : TE:=fun σ H Q=>ty σ H fun y H1=>td σ H1 fun x H2=>∃ a o,x = .ref a/\DGet H2 a y o/\Q (.bl o.isSome) H2
noncomputable def zl5 (ty td : TE) : TE:=fun σ H Q=>ty σ H fun y H1=>td σ H1 fun x H2=>∃ a o,x = .ref a/\DGet H2 a y o/\Q (.bl (!o.isSome)) H2
noncomputable def zz8 (td ty tv : TE) : TS:=fun D σ H=>tv σ H fun v H1=>td σ H1 fun x H2=>ty σ H2 fun y H3=>∃ a H4,x = .ref a/\DPut H3 a y v H4/\D.nx σ H4
section
variable {X : Cx} {o i e value : Expr} {pos pos' tpos : Pos} {td ty tv : TE}
theorem zc2 (hu : X.A.units + 1 < Znt) (ho : PE X o td) (hi : PE X i ty) (hs : NoSl i) : PE X (.Subscript o i pos) (zsp td ty):=by
 intro pins s σ H Q I h
 refine ybh PySem.F.slot_dict_getitem.lookup hs (thn (ho pins s σ H _ I h) fun u s1 ⟨x,H1,I1,rx,q1⟩=>thn (hi pins s1 σ H1 _ I1 q1) fun iv s2 hz9=>?_)
 obtain ⟨y,H2,I2,ry,a,v,ex,g,q2⟩:=hz9
 subst ex
 obtain rfl : u = Zjo a:=rx
 exact ⟨zp2 I2 g,zu3 hu I2 g ry fun w' s3 I3 rw'=>⟨v,H2,I3,rw',q2⟩⟩
theorem zmp (hu : X.A.units + 1 < Znt) (hi : PE X i ty) (ho : PE X o td) : PC X .In i o (tDIn ty td):=by
 intro pins s σ H Q I h
 refine thn (hi pins s σ H _ I h) fun iv s1 ⟨y,H1,I1,ry,q1⟩=>thn (ho pins s1 σ H1 _ I1 q1) fun u s2 hz9=>?_
 obtain ⟨x,H2,I2,rx,a,ov,ex,g,q2⟩:=hz9
 subst ex
 obtain rfl : u = Zjo a:=rx
 exact Zhg hu I2 g ry fun s3 I3=>⟨.bl ov.isSome,H2,I3,rfl,q2⟩
theorem zge (hu : X.A.units + 1 < Znt) (hi : PE X i ty) (ho : PE X o td) : PC X .NotIn i o (zl5 ty td):=by
 intro pins s σ H Q I h
 refine thn (hi pins s σ H _ I h) fun iv s1 ⟨y,H1,I1,ry,q1⟩=>thn (ho pins s1 σ H1 _ I1 q1) fun u s2 hz9=>?_
 obtain ⟨x,H2,I2,rx,a,ov,ex,g,q2⟩:=hz9
 subst ex
 obtain rfl : u = Zjo a:=rx
 exact ybq hu I2 g ry fun s3 I3=>⟨.bl (!ov.isSome),H2,I3,rfl,q2⟩
theorem zdq (hu : X.A.units + 1 < Znt) (ho : PE X o td) (hi : PE X i ty) (hv : PE X value tv) (hs : Zqs value (some (.Subscript o i pos')) pos.line X.env = pure false) :
  PS X (.Assign [.Subscript o i pos'] value pos) (zz8 td ty tv):=by
 intro pins s σ H D I h
 refine wpAny_Assign_Subscript (thn (hv pins s σ H _ I h) fun r s1 ⟨v,H1,I1,rv,q1⟩=>thn (ho pins s1 σ H1 _ I1 q1) fun u s2 ⟨x,H2,I2,rx,q2⟩=>thn (hi pins s2 σ H2 _ I2 q2) fun iv s3 hz9=>?_) hs
 obtain ⟨y,H3,I3,ry,a,H4,ex,g,q3⟩:=hz9
 subst ex
 obtain rfl : u = Zjo a:=rx
 exact zwv hu I3 g ry rv fun s4 I4=>⟨σ,H4,I4,q3⟩
end
theorem zxz {P : Ziq} {w : Zjv} {H : Hp} (h : Heap) (hb : Zkn < h.objs.size) : zdx P w H (h.push { cls:=.type "dict", data:=.dict #[] }) h.objs.size (.dK []) :=
 ⟨Zit _,beq_eq_false_iff_ne.mpr (Zi4 (Zic hb)),[],.nil,Zu7 h⟩
theorem zxt {P : Ziq} {w : Zjv} {H : Hp} (h : Heap) (hb : Zkn < h.objs.size) : zdx P w H (h.push { cls:=.type "dict", data:=.dict #[] }) h.objs.size (.dT []) :=
 ⟨Zit _,beq_eq_false_iff_ne.mpr (Zi4 (Zic hb)),[],.nil,_,#[],0,Zh6 _ rfl,⟨rfl,rfl,rfl⟩,rfl,rfl,Zn2⟩
noncomputable def zud : TE:=fun _ H Q=>∀ p,H p = none->Q (.ref p) (upd H p (.dK []))
noncomputable def zzh : TE:=fun _ H Q=>∀ p,H p = none->Q (.ref p) (upd H p (.dT []))
section
variable {X : Cx} {pos : Pos}
theorem zk0 : PE X (.Dict [] [] pos) zud:=fun pins s σ H Q I h =>
 Zt8 ⟨.ref s.heap.objs.size,_,I.laid (a:=s.heap.objs.size) (o:=.dK []) (t':=s.toks) (fun _ _ q=>Zhr _ q) (Zhu _) (zxz s.heap I.big),rfl,h _ (I.hok.fresh (Zhu _))⟩
theorem zgp : PE X (.Dict [] [] pos) zzh:=fun pins s σ H Q I h =>
 Zt8 ⟨.ref s.heap.objs.size,_,I.laid (a:=s.heap.objs.size) (o:=.dT []) (t':=s.toks) (fun _ _ q=>Zhr _ q) (Zhu _) (zxt s.heap I.big),rfl,h _ (I.hok.fresh (Zhu _))⟩
end
structure M1 (X : Cx) (o : Expr) (m : Str) (apos : Pos) (e : Expr) (cpos : Pos) : Prop where
 base : Znu o m X.env (eval o X.env) = eval o X.env
 few : ((Znl cpos (Zi6 [e] X.env)).all (fun x=>!x.1) && (Zqj cpos (Znr [] X.env)).all (fun x=>x.1.isSome)
  && decide (([e] : List Expr).length + ([] : List Zpw).length + (if ([] : List Zpw).isEmpty then 0 else 1) < 30)) = true
 line : (apos.endLine == cpos.line) = true
 trees : Znl cpos (Zi6 [e] X.env) = [(false,eval e X.env)]
structure M2 (X : Cx) (o : Expr) (m : Str) (apos : Pos) (e f : Expr) (cpos : Pos) : Prop where
 base : Znu o m X.env (eval o X.env) = eval o X.env
 few : ((Znl cpos (Zi6 [e,f] X.env)).all (fun x=>!x.1) && (Zqj cpos (Znr [] X.env)).all (fun x=>x.1.isSome)
  && decide (([e,f] : List Expr).length + ([] : List Zpw).length + (if ([] : List Zpw).isEmpty then 0 else 1) < 30)) = true
 line : (apos.endLine == cpos.line) = true
 trees : Znl cpos (Zi6 [e,f] X.env) = [(false,eval e X.env),(false,eval f X.env)]
noncomputable def IsD (H : Hp) (a : Addr) : Prop:=(∃ kvs,Rd H a (.dK kvs)) \/ ∃ kvs,Rd H a (.dT kvs)
theorem zwb {X : Cx} {pins : List (Addr × Obj)} {σ : St} {H : Hp} {s : Zhq} {a : Addr} (I : Inv X pins σ H s) (d : IsD H a) :
  s.TypeIs (.ref a) "dict" /\ (∀ b,Zjo a = .ref b -> ∃ ob,s.heap.get? b = some ob/\ob.dict = none)/\(a == Zkn) = false:=by
 rcases d with ⟨kvs,e⟩ | ⟨kvs,e⟩
 ·obtain ⟨_,hd,vs,_,dd⟩:=znj I.hok e
  refine ⟨dd.typeIs,fun b q=>?_,hd⟩
  cases q
  obtain ⟨ob,_,_,h1,h2,_⟩:=dd
  exact ⟨ob,h1,h2.2.1⟩
 ·obtain ⟨_,hd,xs,_,dd⟩:=zn2 I.hok e
  refine ⟨dd.typeIs,fun b q=>?_,hd⟩
  cases q
  obtain ⟨ob,_,_,h1,h2,_⟩:=dd
  exact ⟨ob,h1,h2.2.1⟩
section
variable {X : Cx} {pins : List (Addr × Obj)} {σ : St} {H : Hp} {s : Zhq} {a : Addr} {y d : V} {u r : Value} {o : Option V} {A : Zi0} {E : Value->Zhq->Prop}
theorem ycl {Q : Value->Zhq->Prop} (hu : A.units + 1 < Znt) (I : Inv X pins σ H s) (g : DGet H a y o) (ry : RelV y u) (h : ∀ w' s',Inv X pins σ H s'->RelV (o.getD .non) w'->Q w' s') :
  Zij (Zix X.prog X.w) A (call (.builtin "dict.get") [.ref a,u]) Q E s:=by
 rcases g with ⟨kvs,k,e,ey,l⟩ | ⟨kvs,k,b,e,ey,eb,l⟩
 ·subst ey
  obtain ⟨z,hd,vs,rel,dd⟩:=znj I.hok e
  refine Zl0 Zko dd.typeIs Zlx (Zps _ _) (meets_dict_get (zbd X.prog X.w) a (zpa ry) hd) ⟨_,dd.mapOf,h _ _ (I.tok _) ?_⟩
  rw [l]
  exact (rel.val k).getD rfl
 ·subst ey
  cases (show u = Zjo b from ry)
  obtain ⟨z,hd,xs,rel,dd⟩:=zn2 I.hok e
  refine Zl0 Zko dd.typeIs Zlx (Zps _ _) (meetsH_dict_get (Zlo (zbd X.prog X.w)) a b hd) ⟨Zlh hu,k,xs,zmd I.hok eb,dd,h _ _ (I.tok _) ?_⟩
  rw [l]
  exact (rel.val k).getD rfl
theorem yd7 {Q : Value->Zhq->Prop} (hu : A.units + 1 < Znt) (I : Inv X pins σ H s) (g : DGet H a y o) (ry : RelV y u) (rd : RelV d r) (h : ∀ w' s',Inv X pins σ H s'->RelV (o.getD d) w'->Q w' s') :
  Zij (Zix X.prog X.w) A (call (.builtin "dict.get") [.ref a,u,r]) Q E s:=by
 rcases g with ⟨kvs,k,e,ey,l⟩ | ⟨kvs,k,b,e,ey,eb,l⟩
 ·subst ey
  obtain ⟨z,hd,vs,rel,dd⟩:=znj I.hok e
  refine Zl0 Zko dd.typeIs Zlx (Zpr _ _ _) (meets_dict_get_default (zbd X.prog X.w) a (zpa ry) hd r) ⟨_,dd.mapOf,h _ _ (I.tok _) ?_⟩
  rw [l]
  exact (rel.val k).getD rd
 ·subst ey
  cases (show u = Zjo b from ry)
  obtain ⟨z,hd,xs,rel,dd⟩:=zn2 I.hok e
  refine Zl0 Zko dd.typeIs Zlx (Zpr _ _ _) (meetsH_dict_get_default (Zlo (zbd X.prog X.w)) a b hd r) ⟨Zlh hu,k,xs,zmd I.hok eb,dd,h _ _ (I.tok _) ?_⟩
  rw [l]
  exact (rel.val k).getD rd
end
noncomputable def zr8 (td ty : TE) : TE:=fun σ H Q=>td σ H fun x H1=>∃ a,x = .ref a/\IsD H1 a/\ty σ H1 fun y H2=>∃ o,DGet H2 a y o/\Q (o.getD .non) H2
noncomputable def zsf (td ty tx : TE) : TE:=fun σ H Q=>td σ H fun x H1=>∃ a,x = .ref a/\IsD H1 a/\ty σ H1 fun y H2=>tx σ H2 fun z H3=>∃ o,DGet H3 a y o/\Q (o.getD z) H3
section
variable {X : Cx} {o e f : Expr} {apos cpos : Pos} {td ty tx : TE}
theorem zky (hu : X.A.units + 1 < Znt) (ho : PE X o td) (he : PE X e ty) (m : M1 X o "get" apos e cpos) : PE X (.Call (.Attribute o "get" apos) [e] [] cpos) (zr8 td ty):=by
 intro pins s σ H Q I h
 refine Zte m.base m.few m.line Zm3 Zko Zqa (thn (ho pins s σ H _ I h) fun u s1 hz9=>?_)
 obtain ⟨x,H1,I1,rx,a,ex,d,q1⟩:=hz9
 subst ex
 obtain rfl : u = Zjo a:=rx
 obtain ⟨t1,t2,_⟩:=zwb I1 d
 refine ⟨t1,t2,?_⟩
 rw [m.trees]
 refine Zk8 rfl (Znw (Zlw (thn (he pins s1 σ H1 _ I1 q1) fun iv s2 ⟨y,H2,I2,ry,ov,g,q2⟩=>Zm5 ?_)))
 exact ycl hu I2 g ry fun w' s3 I3 rw'=>⟨_,H2,I3,rw',q2⟩
theorem zfh (hu : X.A.units + 1 < Znt) (ho : PE X o td) (he : PE X e ty) (hf : PE X f tx) (m : M2 X o "get" apos e f cpos) : PE X (.Call (.Attribute o "get" apos) [e,f] [] cpos) (zsf td ty tx):=by
 intro pins s σ H Q I h
 refine Zte m.base m.few m.line Zm3 Zko Zqa (thn (ho pins s σ H _ I h) fun u s1 hz9=>?_)
 obtain ⟨x,H1,I1,rx,a,ex,d,q1⟩:=hz9
 subst ex
 obtain rfl : u = Zjo a:=rx
 obtain ⟨t1,t2,_⟩:=zwb I1 d
 refine ⟨t1,t2,?_⟩
 rw [m.trees]
 refine Zk8 rfl (Znw (Zlw (thn (he pins s1 σ H1 _ I1 q1) fun iv s2 ⟨y,H2,I2,ry,q2⟩ =>
  Zlw (thn (hf pins s2 σ H2 _ I2 q2) fun fv s3 ⟨z,H3,I3,rz,ov,g,q3⟩=>Zm5 ?_))))
 exact yd7 hu I3 g ry rz fun w' s4 I4 rw'=>⟨_,H3,I4,rw',q3⟩
end
end L2
namespace L2
open PySem PySem.W PySem.Spec PyProof.Rows
theorem zle {a b : D} (ha : a.isK = true) (hb : b.isK = true) (h : a.key = b.key) : a = b:=by
 cases a <;> cases b <;> simp [D.isK,D.key] at * <;> first | exact h | exact zuf.mp h
theorem zj7 {K : Zhi} {H : Hp} {d : D} {v : V} (hk : d.isK = true) (r : Rep K H d v) : v = kV d.key:=by
 cases d <;> simp [D.isK] at hk
 ·exact r.of_int
 ·exact r.of_str
noncomputable abbrev DD:=List (D × D)
noncomputable def valD (kvs : DD) (k : D) : Option D:=(kvs.find? fun kv=>decide (kv.1 = k)).map (·.2)
noncomputable def putD (kvs : DD) (k d : D) : DD:=if (kvs.any fun kv=>decide (kv.1 = k)) = true then kvs.map (fun kv=>if kv.1 = k then (kv.1,d) else kv) else kvs++[(k,d)]
inductive Dks (K : Zhi) (F : Hp) : DD->List (Key × V)->Prop
 | nil : Dks K F [] []
 | cons {k d : D} {v : V} {kvs : DD} {xs : List (Key × V)} (hk : k.isK = true) (hr : Rep K F k (kV k.key)) (r : Rep K F d v) (t : Dks K F kvs xs) : Dks K F ((k,d)::kvs) ((k.key,v)::xs)
section
variable {K : Zhi} {F F' : Hp} {kvs : DD} {xs : List (Key × V)}
theorem Dks.mono (h : Dks K F kvs xs) (s : Same F F') : Dks K F' kvs xs:=by
 induction h with
 | nil=>exact .nil
 | cons hk hr r t ih=>exact .cons hk (hr.mono s) (r.mono s) ih
theorem Dks.length (h : Dks K F kvs xs) : kvs.length = xs.length:=by
 induction h with
 | nil=>rfl
 | cons hk hr r t ih=>simp [ih]
theorem zy3 {k : D} (hk : k.isK = true) : k.flat = true:=by cases k <;> simp [D.isK] at hk <;> rfl
theorem zuj {K : Zhi} {H F : Hp} {k : D} {v : V} (hk : k.isK = true) (r : Rep K H k v) : Rep K F k (kV k.key):=by
 rw [<- zj7 hk r]; exact r.flat (zy3 hk)
theorem Dks.val (h : Dks K F kvs xs) {k : D} (hk : k.isK = true) : (valD kvs k = none/\valV xs k.key = none) \/ ∃ d v,valD kvs k = some d/\valV xs k.key = some v/\Rep K F d v:=by
 induction h with
 | nil=>exact .inl ⟨rfl,rfl⟩
 | @cons k' d v kvs xs hk' hr' r t ih =>
  by_cases e : k' = k
  ·subst e
   exact .inr ⟨d,v,by simp [valD],by simp [valV],r⟩
  ·have e2 : k'.key≠k.key:=fun z=>e (zle hk' hk z)
   have h1 : valD ((k',d)::kvs) k = valD kvs k:=by simp [valD,Zi2,e]
   have h2 : valV ((k'.key,v)::xs) k.key = valV xs k.key:=by simp [valV,Zi2,e2]
   rw [h1,h2]; exact ih
theorem Dks.any (h : Dks K F kvs xs) {k : D} (hk : k.isK = true) : (kvs.any fun kv=>decide (kv.1 = k)) = xs.any fun kv=>decide (kv.1 = k.key):=by
 induction h with
 | nil=>rfl
 | @cons k' d v kvs xs hk' hr' r t ih =>
  rw [Zk2,Zk2,ih]
  congr 1
  by_cases e : k' = k
  ·subst e; simp
  ·have e2 : k'.key≠k.key:=fun z=>e (zle hk' hk z)
   rw [decide_eq_false e,decide_eq_false e2]
theorem Dks.snoc (h : Dks K F kvs xs) {k d : D} {v : V} (hk : k.isK = true) (hr : Rep K F k (kV k.key)) (r : Rep K F d v) : Dks K F (kvs++[(k,d)]) (xs++[(k.key,v)]):=by
 induction h with
 | nil=>exact .cons hk hr r .nil
 | cons hk' hr' r' t ih=>exact .cons hk' hr' r' ih
theorem Dks.put (h : Dks K F kvs xs) {k d : D} {v : V} (hk : k.isK = true) (hr : Rep K F k (kV k.key)) (r : Rep K F d v) : Dks K F (putD kvs k d) (putK xs k.key v):=by
 unfold putD putK
 rw [h.any hk]
 by_cases hc : (xs.any fun kv=>decide (kv.1 = k.key)) = true
 ·rw [if_pos hc,if_pos hc]
  clear hc
  induction h with
  | nil=>exact .nil
  | @cons k' d' v' kvs xs hk' hr' r' t ih =>
   rw [Zh5,Zh5]
   by_cases e : k' = k
   ·subst e; rw [if_pos rfl,if_pos rfl]; exact .cons hk' hr' r ih
   ·have e2 : k'.key≠k.key:=fun z=>e (zle hk' hk z)
    rw [if_neg e,if_neg e2]; exact .cons hk' hr' r' ih
 ·rw [if_neg hc,if_neg hc]; exact h.snoc hk hr r
end
theorem zy6 (kvs : DD) (k d : D) : (putD kvs k d).length <= kvs.length + 1:=by
 unfold putD; split <;> simp
noncomputable def dW (K : Zhi) (p : Addr) (kvs : DD) : Hp->Hp->Prop:=fun F H=>∃ xs,H p = some (.dK xs)/\Dks K F kvs xs
noncomputable def dsl (K : Zhi) (p : Addr) (kvs : DD) : Sl:=.g (.ref p) [p] (dW K p kvs)
theorem zqn (K : Zhi) (p : Addr) (kvs : DD) : Stab [p] (dW K p kvs):=fun F1 H1 F2 H2 sf hh ⟨xs,h1,h2⟩=>⟨xs,by rw [hh p (by simp)]; exact h1,h2.mono sf⟩
section
variable {K : Zhi} {G H₀ L : Hp} {ss : List Sl} {i : Nat} {p : Addr} {kvs : DD} {E : Ends} {ty td tv tx : TE} {k d z : D}
theorem Sat.getM {F H : Hp} {σ : St} (S : Sat K G H₀ L F H σ ss) (hs : ss[i]? = some (dsl K p kvs)) : σ[i]? = some (some (.ref p))/\H₀ p = none/\F p = none /\ ∃ xs,H p = some (.dK xs)/\Dks K F kvs xs:=by
 obtain ⟨v,e,ew,ha,hw,st⟩:=S.get hs (by intro z; cases z)
 cases ew
 obtain ⟨h0,fp,_⟩:=ha p (by simp)
 exact ⟨e,h0,fp,hw⟩
theorem Sat.writeM {F H : Hp} {σ : St} {kvs' : DD} {xs : List (Key × V)} (S : Sat K G H₀ L F H σ ss) (hs : ss[i]? = some (dsl K p kvs)) (r : Dks K F kvs' xs) : Sat K G H₀ L F (upd H p (.dK xs)) σ (ss.set i (dsl K p kvs')):=by
 obtain ⟨e,h0,fp,ys,hp,_⟩:=S.getM hs
 have hget : σ.getD i none = some (.ref p):=by rw [Zhh,e]; rfl
 refine S.put (S.ext.write fp h0) S.fl rfl (fun _ _=>rfl) (fun _=>?_) (by simp [dsl,Sl.ads]) (fun j s' hj h q hq=>?_) fun j s' hj h=>(S.ok j s' h).updNe (S.ne i j _ s' (Zi4 hj) hs h p (by simp [dsl,Sl.ads]))
 ·rw [hget]
  exact ⟨rfl,fun a ha=>by rw [Zhp.mp ha]; exact ⟨h0,fp,_,zap,trivial⟩,⟨xs,zap,r⟩,zqn K p kvs'⟩
 ·have : q = p:=by simpa [dsl,Sl.ads] using hq
  subst this
  exact S.ne i j _ s' (Zi4 hj) hs h q (by simp [dsl,Sl.ads])
theorem zqj (h : ∀ p,Nx K G H₀ L E.nx (ss.set i (dsl K p []))) : Go K G H₀ L E ss (tAsg zud (zhv i)):=fun F H σ S p hp=>by
 have e:=(Ext.refl S.ext.fh).newO (o:=.dK []) hp
 have S':=S.ext2 e
 refine h p F _ _ (S'.put S'.ext S'.fl (by simp) (fun j hj=>zd2 (Zi4 hj)) (fun hi=>?_) (by simp [dsl,Sl.ads]) (fun j s' hj hs q hq=>?_) fun j s' hj hs=>S'.ok j s' hs)
 ·rw [zcv (by rw [S.len]; exact hi)]
  exact ⟨rfl,fun a ha=>by rw [Zhp.mp ha]; exact ⟨S.ext.hh.free hp,S.ext.fh.free hp,_,zap,trivial⟩,⟨[],zap,.nil⟩,zqn K p []⟩
 ·have : q = p:=by simpa [dsl,Sl.ads] using hq
  subst this
  exact fun hin=>(S.ok j s' hs).live hin hp
theorem ze6 (hs : ss[i]? = some (dsl K p kvs)) (b : EvB K G H₀ L ss ty k) (hk : k.isK = true) (hv : valD kvs k = some d) : Ev K G H₀ L ss (zsp (tVar i) ty) d:=fun F H σ Q S q=>by
 obtain ⟨e,_⟩:=S.getM hs
 refine ⟨_,e,b F H σ _ S fun v F1 H1 e1 r1=>?_⟩
 obtain ⟨_,_,_,xs,hp,dk⟩:=(S.ext2 e1).getM hs
 rcases dk.val hk with ⟨h1,_⟩ | ⟨d',w,h1,h2,rw'⟩
 ·rw [h1] at hv; cases hv
 ·rw [h1] at hv; cases hv
  refine ⟨p,w,rfl,?_,q w F1 H1 e1 rw'⟩
  rw [zj7 hk r1,<- h2]
  exact DGet.k hp
theorem zr2 (hs : ss[i]? = some (dsl K p kvs)) (b : EvB K G H₀ L ss ty k) (hk : k.isK = true) : Ev K G H₀ L ss (tDIn ty (tVar i)) (.bl (valD kvs k).isSome):=fun F H σ Q S q =>
 b F H σ _ S fun v F1 H1 e1 r1=>by
  obtain ⟨e,_,_,xs,hp,dk⟩:=(S.ext2 e1).getM hs
  refine ⟨_,e,p,valV xs k.key,rfl,by rw [zj7 hk r1]; exact DGet.k hp,q _ F1 H1 e1 ?_⟩
  have : (valV xs k.key).isSome = (valD kvs k).isSome:=by
   rcases dk.val hk with ⟨h1,h2⟩ | ⟨d',w,h1,h2,_⟩ <;> rw [h1,h2] <;> rfl
  rw [this]; exact Rep.bl
theorem znc (hs : ss[i]? = some (dsl K p kvs)) (a : Ev K G H₀ L ss tv d) (b : EvB K G H₀ L ss ty k) (hk : k.isK = true) (hz : kvs.length < sizeLine) (h : Nx K G H₀ L E.nx (ss.set i (dsl K p (putD kvs k d)))) : Go K G H₀ L E ss (zz8 (tVar i) ty tv):=fun F H σ S =>
 a F H σ _ S fun v F1 H1 e1 r1=>by
  have S1:=S.ext2 e1
  obtain ⟨e,_⟩:=S1.getM hs
  refine ⟨_,e,b F1 H1 σ _ S1 fun w F2 H2 e2 r2=>?_⟩
  have S2:=S1.ext2 e2
  obtain ⟨_,_,_,xs,hp,dk⟩:=S2.getM hs
  refine ⟨p,_,rfl,by rw [zj7 hk r2]; exact DPut.k (v:=v) hp (by rw [<- dk.length]; exact hz),h F2 _ σ (S2.writeM hs (dk.put hk (zuj hk r2) (r1.mono e2.gf)))⟩
end
end L2
namespace L2
open PySem PySem.Spec PyProof.Rows
section
variable {X : Cx}
noncomputable def zv8 : V->List V->Hp->VK->Prop:=fun x vs H Q=>∃ a kvs k z,x = .ref a/\vs = [kV k,z]/\H a = some (.dK kvs)/\kvs.length < sizeLine/\(∀ v,valV kvs k = some v->Q v H)/\(valV kvs k = none->Q z (upd H a (.dK (putK kvs k z))))
theorem znm : MtR X "dict.setdefault" zv8:=by
 intro pins s σ H x xs v us Q I rx rs h
 obtain ⟨a,kvs,k,z,rfl,rfl,e,hl,q1,q2⟩:=h
 obtain rfl : v = Zjo a:=rx
 obtain ⟨u1,u2,rfl,ry,rz⟩:=zqp rs
 obtain ⟨hz,hd,vs,rel,dd⟩:=zw9 I.hok e
 have hzz : vs.length <= sizeLine:=by rw [<- rel.length]; exact hz
 refine Zl0 PySem.F.slot_dict_setdefault dd.typeIs PySem.F.entry_dict_setdefault (PySem.F.args_dict_setdefault_3 _ _ _) (kt_meets_setdefault (zbd X.prog X.w) a (zpa ry) hd u2) ⟨vs,dd,hzz,fun v' hv=>?_,fun hn h' dd' hs=>?_⟩
 ·have r:=rel.val k
  rw [hv] at r
  cases hk : valV kvs k with
  | none=>rw [hk] at r; exact r.elim
  | some w'=>rw [hk] at r; exact ⟨w',H,I.tok _,r,q1 w' hk⟩
 ·have hk : valV kvs k = none:=by
   have r:=rel.val k
   rw [hn] at r
   cases hk : valV kvs k with
   | none=>rfl
   | some w'=>rw [hk] at r; exact r.elim
  have hl2 : (putK kvs k z).length <= sizeLine:=by have:=ziz kvs k z; lia
  have he : ∃ q,h'.get? a = some q:=let ⟨q,_,_,hq,_⟩:=dd'; ⟨q,hq⟩
  exact ⟨z,_,zpt I (by rw [e]; exact Zos) hs he (zzz hl2 hd (rel.put k rz) dd'),rz,q2 hk⟩
noncomputable def zx2 (r d : Addr) : HO:=.ext fun h=>h.IsValuesView r d
noncomputable def zvu : V->List V->Hp->VK->Prop:=fun x vs H Q=>∃ d kvs,x = .ref d/\vs = []/\H d = some (.dK kvs) /\ ∀ r,H r = none->Q (.ref r) (upd H r (zx2 r d))
theorem zt9 : MtR X "dict.values" zvu:=by
 intro pins s σ H x xs v us Q I rx rs h
 obtain ⟨d,kvs,rfl,rfl,e,q⟩:=h
 obtain rfl : v = Zjo d:=rx
 cases rs
 obtain ⟨hz,hd,vs,rel,dd⟩:=zw9 I.hok e
 refine Zl0 PySem.F.slot_dict_values dd.typeIs PySem.F.entry_dict_values (PySem.F.args_dict_values_1 _) (meets_dict_values (zbd X.prog X.w) d hd) ⟨⟨vs,dd⟩,?_⟩
 have I2 : Inv X pins σ (upd H s.heap.objs.size (zx2 s.heap.objs.size d)) { s with heap:=s.heap.push { cls:=.type "dict_values", data:=.fields #[.ref d] } } :=
  I.laid (t':=s.toks) (fun _ _ q=>Zhr _ q) (Zhu _) ⟨⟨_,Zh6 _ rfl,rfl,rfl⟩,⟨_,Zh6 _ rfl⟩,fun h1 h2 ⟨o,ho,r⟩ k=>⟨o,k _ ho,r⟩⟩
 exact ⟨.ref s.heap.objs.size,_,I2,rfl,q _ I.fresh⟩
theorem KV.snds {κ : Type} [DecidableEq κ] {kvs : List (κ × V)} {vs : List (κ × Value)} (r : KV kvs vs) : Vals (kvs.map (·.2)) (vs.map (·.2)):=by
 induction r with
 | nil=>exact .nil
 | cons h t ih=>exact .cons h.2 ih
theorem zml (hc : X.calm = true) : zdk X (.type "list") (fun xs H Q=>∃ r d kvs,xs = [.ref r]/\H r = some (zx2 r d)/\H d = some (.dK kvs) /\ ∀ l,H l = none->Q (.ref l) (upd H l (.lst (kvs.map (·.2))))):=by
 intro pins s σ H xs us Q I rs h
 obtain ⟨r,d,kvs,rfl,hr,e,q⟩:=h
 obtain ⟨u,rfl,ru⟩:=zhc rs
 cases ru
 obtain ⟨hz,hd,vs,rel,dd⟩:=zw9 I.hok e
 obtain ⟨ep,da⟩:=dd.dictAt
 obtain ⟨hv,_,_⟩:=I.hok r _ hr
 have hzz : vs.length <= sizeLine:=by rw [<- rel.length]; exact hz
 refine PySem.W.kdl_call (PySem.W.kdl_values (kvs:=vs) (d:=d) (r:=r) (ep:=ep)) (I.ok.hd hc) ⟨hv,da⟩ hzz fun h' tk acc c' hk hD hacc=>?_
 have hacc2 : acc.toList = vs.map (·.2):=PySem.W.kdl_vals_eq acc.toList (by rw [Zjq]; exact hacc.1) fun j v hj=>hacc.2 j v (by rw [<- Zq0]; exact hj)
 have hval : Vals (kvs.map (·.2)) acc.toList:=by rw [hacc2]; exact rel.snds
 exact ⟨.ref s.heap.objs.size,_,I.laid hk (Zhu _) (show zdx X.prog X.w _ _ _ (.lst _) from ⟨by rw [Zhk]; exact hz,acc.toList,c',hval,by simpa using hD⟩),rfl,q _ I.fresh⟩
end
end L2
namespace L2
open PySem PySem.W PySem.Spec PyProof.Rows
theorem SlOk.live2 {K : Zhi} {H₀ F H : Hp} {ov : Option V} {s : Sl} (h : SlOk K H₀ F H ov s) {p : Addr} (hp : p∈s.ads) : ∃ o,H p = some o/\NT o:=by
 cases s with
 | un=>simp [Sl.ads] at hp
 | d x=>simp [Sl.ads] at hp
 | o q xs =>
  obtain ⟨_,_,_,vs,hq,_⟩:=h
  simp [Sl.ads] at hp; subst hp; exact ⟨_,hq,trivial⟩
 | oo q qs =>
  obtain ⟨ev,h0,fp,hq,hqs⟩:=h
  rcases Zie.mp hp with rfl | hp
  ·exact ⟨_,hq,trivial⟩
  ·obtain ⟨r,hr,rfl⟩:=Zh3.mp hp
   obtain ⟨_,_,vs,hv,_⟩:=hqs r hr
   exact ⟨_,hv,trivial⟩
 | g v as W =>
  obtain ⟨ev,ha,hw,st⟩:=h
  obtain ⟨_,_,x,ho⟩:=ha p hp
  exact ⟨x,ho⟩
noncomputable abbrev KQ:=List (D × Addr × List D)
noncomputable def dat (q : D × Addr × List D) : D × List D:=(q.1,q.2.2)
noncomputable def raw (q : D × Addr × List D) : Key × V:=(q.1.key,.ref q.2.1)
noncomputable def appD : List (D × List D)->D->D->List (D × List D)
 | [],k,d=>[(k,[d])]
 | kv::r,k,d=>if kv.1 = k then (kv.1,kv.2++[d])::r else kv::appD r k d
theorem zu9 {kqs : KQ} {k : D} (hk : k.isK = true) (hks : ∀ q∈kqs,q.1.isK = true) : (valV (kqs.map raw) k.key = none /\ ∀ d,appD (kqs.map dat) k d = kqs.map dat++[(k,[d])]) \/
  ∃ j a ds,kqs[j]? = some (k,a,ds)/\valV (kqs.map raw) k.key = some (.ref a) /\ ∀ d,(kqs.set j (k,a,ds++[d])).map dat = appD (kqs.map dat) k d:=by
 induction kqs with
 | nil=>exact .inl ⟨rfl,fun _=>rfl⟩
 | cons q r ih =>
  obtain ⟨k',a',ds'⟩:=q
  by_cases e : k' = k
  ·subst e
   refine .inr ⟨0,a',ds',rfl,by simp [valV,raw],fun d=>?_⟩
   show (k',ds'++[d])::r.map dat = appD ((k',ds')::r.map dat) k' d
   rw [appD,if_pos rfl]
  ·have e2 : k'.key≠k.key:=fun z=>e (zle (hks _ Zhx) hk z)
   have hv : valV (((k',a',ds')::r).map raw) k.key = valV (r.map raw) k.key:=by simp [valV,raw,Zi2,e2]
   have ha : ∀ d,appD (((k',a',ds')::r).map dat) k d = (k',ds')::appD (r.map dat) k d:=fun d=>by
    show appD ((k',ds')::r.map dat) k d = _
    rw [appD,if_neg e]
   rw [hv]
   rcases ih fun q hq=>hks q (Zhv _ hq) with ⟨h1,h2⟩ | ⟨j,a,ds,h1,h2,h3⟩
   ·exact .inl ⟨h1,fun d=>by rw [ha,h2]; rfl⟩
   ·refine .inr ⟨j + 1,a,ds,h1,h2,fun d=>?_⟩
    rw [ha,<- h3]; rfl
noncomputable def lW (K : Zhi) (p : Addr) (kqs : KQ) : Hp->Hp->Prop:=fun F H=>H p = some (.dK (kqs.map raw)) /\ ∀ q∈kqs,q.1.isK = true/\Rep K F q.1 (kV q.1.key) /\ ∃ vs,H q.2.1 = some (.lst vs)/\Reps K F q.2.2 vs
noncomputable def dls (K : Zhi) (p : Addr) (kqs : KQ) : Sl:=.g (.ref p) (p::kqs.map (·.2.1)) (lW K p kqs)
theorem zqs (K : Zhi) (p : Addr) (kqs : KQ) : Stab (p::kqs.map (·.2.1)) (lW K p kqs):=fun F1 H1 F2 H2 sf hh ⟨h1,h2⟩ =>
 ⟨by rw [hh p (by simp)]; exact h1,fun q hq=>by
  obtain ⟨a,kr,vs,b,c⟩:=h2 q hq
  exact ⟨a,kr.mono sf,vs,by rw [hh q.2.1 (Zhv _ (Zjs hq))]; exact b,c.mono sf⟩⟩
section
variable {K : Zhi} {G H₀ L : Hp} {ss : List Sl} {i : Nat} {p : Addr} {kqs : KQ} {E : Ends} {tk tv : TE} {k d : D}
theorem Sat.getL {F H : Hp} {σ : St} (S : Sat K G H₀ L F H σ ss) (hs : ss[i]? = some (dls K p kqs)) : σ[i]? = some (some (.ref p))/\(∀ a∈p::kqs.map (·.2.1),H₀ a = none/\F a = none)/\lW K p kqs F H:=by
 obtain ⟨v,e,ew,ha,hw,st⟩:=S.get hs (by intro z; cases z)
 cases ew
 exact ⟨e,fun a h=>⟨(ha a h).1,(ha a h).2.1⟩,hw⟩
theorem zy4 (h : ∀ p,Nx K G H₀ L E.nx (ss.set i (dls K p []))) : Go K G H₀ L E ss (tAsg zud (zhv i)):=fun F H σ S p hp=>by
 have e:=(Ext.refl S.ext.fh).newO (o:=.dK []) hp
 have S':=S.ext2 e
 refine h p F _ _ (S'.put S'.ext S'.fl (by simp) (fun j hj=>zd2 (Zi4 hj)) (fun hi=>?_) (by simp [dls,Sl.ads]) (fun j s' hj hs q hq=>?_) fun j s' hj hs=>S'.ok j s' hs)
 ·rw [zcv (by rw [S.len]; exact hi)]
  exact ⟨rfl,fun a ha=>by rw [Zhp.mp ha]; exact ⟨S.ext.hh.free hp,S.ext.fh.free hp,_,zap,trivial⟩,⟨zap,fun _ h=>by cases h⟩,zqs K p []⟩
 ·have : q = p:=by simpa [dls,Sl.ads] using hq
  subst this
  exact fun hin=>(S.ok j s' hs).live hin hp
theorem zye {α : Type} {xs : List α} {i : Nat} {x : α} (h : xs[i]? = some x) : xs.set i x = xs:=by
 refine Zkl fun n=>?_
 by_cases hn : i = n
 ·subst hn; rw [Zjp (Zhn.mp h).1,h]
 ·rw [Zkf hn]
theorem Sat.appL {F H : Hp} {σ : St} (S : Sat K G H₀ L F H σ ss) {j : Nat} {a : Addr} {ds es : List D} {vs : List V} (hs : ss[i]? = some (dls K p kqs)) (hj : kqs[j]? = some (k,a,ds)) (r : Reps K F es vs) :
  Sat K G H₀ L F (upd H a (.lst vs)) σ (ss.set i (dls K p (kqs.set j (k,a,es)))):=by
 obtain ⟨e,hoff,hp,hq⟩:=S.getL hs
 have hget : σ.getD i none = some (.ref p):=by rw [Zhh,e]; rfl
 have hnd : (p::kqs.map (·.2.1)).Nodup:=S.nd i _ hs
 have hm:=Zhs hj
 have ham : a∈p::kqs.map (·.2.1):=Zhv _ (Zh3.mpr ⟨_,hm,rfl⟩)
 obtain ⟨a0,af⟩:=hoff a ham
 have hpa : p≠a:=fun z=>(Zjz.mp hnd).1 (z ▸ Zh3.mpr ⟨_,hm,rfl⟩)
 have mset : ∀ {β : Type} (f : D × Addr × List D->β),f (k,a,es) = f (k,a,ds)->(kqs.set j (k,a,es)).map f = kqs.map f:=fun {β} f hf=>by
  rw [List.map_set]
  refine Zkl fun n=>?_
  by_cases hn : j = n
  ·subst hn
   rw [Zjp (by rw [Zhk]; exact (Zhn.mp hj).1),Zho,hj,hf]; rfl
  ·rw [Zkf hn]
 have hads : (dls K p (kqs.set j (k,a,es))).ads = p::kqs.map (·.2.1):=by show p::(kqs.set j (k,a,es)).map (·.2.1) = _; rw [mset (·.2.1) rfl]
 have hdup : ∀ n z,kqs[n]? = some z->n≠j->z.2.1≠a:=fun n z hn hnj hz=>by
  have h2 : (kqs.map (·.2.1)).Nodup:=(Zjz.mp hnd).2
  unfold Zi9 at h2
  rw [Zkr] at h2
  have hnl:=(Zhn.mp hn)
  have hjl:=(Zhn.mp hj)
  have e1 : (kqs.map (·.2.1))[n]'(by simpa using hnl.1) = a:=by rw [Zls,hnl.2]; exact hz
  have e2 : (kqs.map (·.2.1))[j]'(by simpa using hjl.1) = a:=by rw [Zls,hjl.2]
  rcases Znv n j with c | c
  ·exact h2 n j (by simpa using hnl.1) (by simpa using hjl.1) c (e1.trans e2.symm)
  ·exact h2 j n (by simpa using hjl.1) (by simpa using hnl.1) (by lia) (e2.trans e1.symm)
 refine S.put (S.ext.write af a0) S.fl rfl (fun _ _=>rfl) (fun _=>?_) (by rw [hads]; exact hnd) (fun n s' hn h z hz=>?_) fun n s' hn h=>(S.ok n s' h).updNe (S.ne i n _ s' (Zi4 hn) hs h a ham)
 ·rw [hget]
  refine ⟨rfl,fun b hb=>?_,⟨by rw [zav hpa,mset raw rfl]; exact hp,fun z hz=>?_⟩,zqs _ _ _⟩
  ·have hb : b∈p::(kqs.set j (k,a,es)).map (·.2.1):=hb
   rw [mset (·.2.1) rfl] at hb
   obtain ⟨b0,bf⟩:=hoff b hb
   refine ⟨b0,bf,?_⟩
   by_cases hba : b = a
   ·subst hba; exact ⟨_,zap,trivial⟩
   ·rw [zav hba]
    exact (S.ok i _ hs).live2 (p:=b) hb
  ·obtain ⟨n,hn⟩:=Zl7.mp hz
   by_cases hnj : j = n
   ·subst hnj
    rw [Zjp (Zhn.mp hj).1] at hn
    cases hn
    exact ⟨(hq _ hm).1,(hq _ hm).2.1,vs,zap,r⟩
   ·rw [Zkf hnj] at hn
    obtain ⟨z1,kr,ws,z2,z3⟩:=hq z (Zhs hn)
    exact ⟨z1,kr,ws,by rw [zav (hdup n z hn (Zi4 hnj))]; exact z2,z3⟩
 ·have hz : z∈(dls K p (kqs.set j (k,a,es))).ads:=hz
  rw [hads] at hz
  exact S.ne i n _ s' (Zi4 hn) hs h z hz
theorem Sat.keyL {F H : Hp} {σ : St} (S : Sat K G H₀ L F H σ ss) {l : Addr} (hs : ss[i]? = some (dls K p kqs)) (hk : k.isK = true) (kr : Rep K F k (kV k.key)) (hl : H l = none) :
  Sat K G H₀ L F (upd (upd H l (.lst [])) p (.dK ((kqs++[(k,l,[])]).map raw))) σ (ss.set i (dls K p (kqs++[(k,l,[])]))):=by
 have S2:=S.ext2 ((Ext.refl S.ext.fh).newO (o:=.lst []) hl)
 obtain ⟨e,hoff,hp,hq⟩:=S2.getL hs
 have hget : σ.getD i none = some (.ref p):=by rw [Zhh,e]; rfl
 have hnd : (p::kqs.map (·.2.1)).Nodup:=S.nd i _ hs
 obtain ⟨p0,pf⟩:=hoff p Zhx
 have hnl : ∀ b∈p::kqs.map (·.2.1),b≠l:=fun b hb z=>(S.ok i _ hs).live (p:=b) hb (z ▸ hl)
 have hpl : p≠l:=hnl p Zhx
 have hads : (dls K p (kqs++[(k,l,[])])).ads = (p::kqs.map (·.2.1))++[l]:=by show p::Zs5 (fun q : D × Addr × List D=>q.2.1) (kqs++[(k,l,[])]) = _; rw [Zh4]; rfl
 refine S2.put (S2.ext.write pf p0) S2.fl rfl (fun _ _=>rfl) (fun _=>?_) ?_ (fun n s' hn h z hz=>?_) fun n s' hn h=>(S2.ok n s' h).updNe (S2.ne i n _ s' (Zi4 hn) hs h p Zhx)
 ·rw [hget]
  refine ⟨rfl,fun b hb=>?_,⟨zap,fun z hz=>?_⟩,zqs _ _ _⟩
  ·have hb : b∈(dls K p (kqs++[(k,l,[])])).ads:=hb
   rw [hads] at hb
   rcases Zhw.mp hb with hb | hb
   ·obtain ⟨b0,bf⟩:=hoff b hb
    refine ⟨b0,bf,?_⟩
    by_cases hbp : b = p
    ·subst hbp; exact ⟨_,zap,trivial⟩
    ·rw [zav hbp]
     exact (S2.ok i _ hs).live2 (p:=b) hb
   ·rw [Zhp.mp hb]
    exact ⟨S.ext.hh.free hl,S.ext.fh.free hl,HO.lst [],by rw [zav (Zi4 hpl)]; exact zap,trivial⟩
  ·rcases Zhw.mp hz with hz | hz
   ·obtain ⟨z1,zr,ws,z2,z3⟩:=hq z hz
    have hzp : z.2.1≠p:=fun e=>(Zjz.mp hnd).1 (e ▸ Zjs hz)
    exact ⟨z1,zr,ws,by rw [zav hzp]; exact z2,z3⟩
   ·rw [Zhp.mp hz]
    exact ⟨hk,kr,[],by rw [zav (Zi4 hpl)]; exact zap,Reps.nil⟩
 ·rw [hads]
  exact Zkv.mpr ⟨hnd,by simp,fun x hx y hy e=>by rw [Zhp.mp hy] at e; exact hnl x hx e⟩
 ·have hz : z∈(dls K p (kqs++[(k,l,[])])).ads:=hz
  rw [hads] at hz
  rcases Zhw.mp hz with hz | hz
  ·exact S.ne i n _ s' (Zi4 hn) hs h z hz
  ·rw [Zhp.mp hz]
   exact fun hin=>(S.ok n s' h).live hin hl
theorem yae (hs : ss[i]? = some (dls K p kqs)) (b : EvB K G H₀ L ss tk k) (hk : k.isK = true) (a : ∀ kqs',Ev K G H₀ L (ss.set i (dls K p kqs')) tv d) (hz : kqs.length < sizeLine) (hz2 : ∀ q∈kqs,q.2.2.length < sizeLine)
  (h : ∀ kqs',kqs'.map dat = appD (kqs.map dat) k d->Nx K G H₀ L E.nx (ss.set i (dls K p kqs'))) :
  Go K G H₀ L E ss (yb2 (tBM K "list" zps (tBM K "dict" zv8 (tVar i) (za5 tk (za5 (tLst tNil) tNil))) (za5 tv tNil))):=fun F H σ S=>by
 obtain ⟨e,hoff,hp,hq⟩:=S.getL hs
 have hks : ∀ q∈kqs,q.1.isK = true:=fun q hm=>(hq q hm).1
 have hil : i < ss.length:=(Zhn.mp hs).1
 refine ⟨.ref p,e,.inr (.inr (.inl ⟨rfl,.inl ⟨_,hp⟩⟩)),b F H σ _ S fun v F1 H1 e1 r1=>⟨Zit _,fun l hl=>?_⟩⟩
 have S1:=S.ext2 e1
 have S2:=S1.ext2 ((Ext.refl S1.ext.fh).newO (o:=.lst []) hl)
 obtain ⟨_,_,hp2,hq2⟩:=S2.getL hs
 refine ⟨p,kqs.map raw,k.key,.ref l,rfl,by rw [zj7 hk r1],hp2,by rw [Zhk]; exact hz,fun v' hv'=>?_,fun hn=>?_⟩
 ·rcases zu9 hk hks with ⟨h1,_⟩ | ⟨j,q,ds,h1,h2,h3⟩
  ·rw [h1] at hv'; cases hv'
  ·rw [h2] at hv'; cases hv'
   obtain ⟨_,_,ws,hw,_⟩:=hq2 _ (Zhs h1)
   have es : ss.set i (dls K p kqs) = ss:=zye hs
   have S2' : Sat K G H₀ L F1 (upd H1 l (.lst [])) σ (ss.set i (dls K p kqs)):=by rw [es]; exact S2
   refine ⟨.inl ⟨rfl,_,SqL.of hw⟩,a kqs F1 _ σ _ S2' fun w F3 H3 e3 r3=>?_⟩
   have S3:=S2.ext2 e3
   obtain ⟨_,_,_,hq3⟩:=S3.getL hs
   obtain ⟨_,_,ws3,hw3,rs3⟩:=hq3 _ (Zhs h1)
   refine ⟨q,ws3,w,rfl,rfl,hw3,by rw [<- rs3.length]; exact hz2 _ (Zhs h1),h _ (h3 d) F3 _ σ (S3.appL hs h1 (rs3.snoc r3))⟩
 ·rcases zu9 hk hks with ⟨h1,h2⟩ | ⟨j,q,ds,h1,h2,h3⟩
  ·have S4:=S1.keyL (k:=k) hs hk (zuj hk r1) hl
   have eput : putK (kqs.map raw) k.key (.ref l) = (kqs++[(k,l,[])]).map raw:=by rw [zyw _ hn,Zh4]; rfl
   rw [eput]
   have hs4 : (ss.set i (dls K p (kqs++[(k,l,[])])))[i]? = some (dls K p (kqs++[(k,l,[])])):=Zjp hil
   obtain ⟨_,_,_,hq4⟩:=S4.getL hs4
   have hj : (kqs++[(k,l,([] : List D))])[kqs.length]? = some (k,l,[]):=by rw [Ziw (Zhu _),Zq9]; rfl
   obtain ⟨_,_,ws,hw,_⟩:=hq4 _ (Zhs hj)
   refine ⟨.inl ⟨rfl,_,SqL.of hw⟩,a _ F1 _ σ _ S4 fun w F3 H3 e3 r3=>?_⟩
   have S5:=S4.ext2 e3
   obtain ⟨_,_,_,hq5⟩:=S5.getL hs4
   obtain ⟨_,_,ws5,hw5,rs5⟩:=hq5 _ (Zhs hj)
   have S6:=S5.appL hs4 hj (rs5.snoc r3)
   rw [List.set_set] at S6
   refine ⟨l,ws5,w,rfl,rfl,hw5,by rw [<- rs5.length]; show 0 < _; rw [Zh2]; decide,h _ ?_ F3 _ σ S6⟩
   rw [h2,List.set_append_right _ _ (Zhu _),Zq9,Zh4]
   rfl
  ·rw [h2] at hn; cases hn
end
end L2
namespace L2
open PySem PySem.Spec PyProof.Rows
noncomputable def Ite (K : Zhi) (a : Addr) : It :=
 ⟨fun i H=>∃ xs x,SqL K H a xs/\xs[i]? = some x,fun i H x H'=>∃ T0 vs,x = .ref T0/\H T0 = none/\H' = upd H T0 (.tup vs) /\ ∀ xs,SqL K H a xs -> ∃ y,xs[i]? = some y/\vs = [.int i,y],fun i H=>∃ xs,SqL K H a xs/\xs.length = i⟩
theorem ztj {P : Ziq} {w : Zjv} {K : Zhi} {elts : List Expr} {kk : Nat} {tp : Pos} (a it e : Addr) (hae : a≠e) (hai : a≠it) (hei : e≠it) :
  Turn P w K (.Tuple elts kk tp) (Ite K a) [e,it] e (fun i h=>(∃ old,IsEnum h e it i old)/\h.IsListIter it a i) where
 mem:=by simp
 obj:=fun i h st b hb=>by
  obtain ⟨⟨old,ho⟩,oi,hoi,_,hdi⟩:=st
  rcases Zie.mp hb with rfl | hb
  ·exact ⟨_,ho,fun v z=>by cases z⟩
  ·rw [Zhp.mp hb]
   exact ⟨oi,hoi,fun v z=>by rw [hdi] at z; cases z⟩
 keep:=fun i h h' st k=>⟨let ⟨old,ho⟩:=st.1; ⟨old,k e (by simp) _ ho⟩,st.2.at fun o x=>k it (by simp) o x⟩
 item:=by
  intro X hP hw hK hc i pins s σ H E I hf st hg
  subst hP hw hK
  obtain ⟨xs,x,hq,hx⟩:=hg
  obtain ⟨its,rv,p,hz⟩:=I.list hq
  obtain ⟨u,hu,ru⟩:=rv.get hx
  have hil : i < its.length:=(Zhn.mp hu).1
  have W0:=Zrc (A:=X.A) (Zus (prog:=X.prog) (w:=X.w) (A:=X.A.in1) (show X.A.in1.handled = none from I.ok.hd hc) it a hai its.toArray) e hei (by simp [hei,Zi4 hae]) (by simp)
  refine W0.item i s _ _ (by simpa using hil) ⟨st.1,st.2,p.isList⟩ fun T0 vals h1 tk hp hle ht mid kk=>?_
  obtain ⟨t,v,hv,rfl⟩:=hp
  have hv : its[i]? = some v:=by simpa using hv
  rw [hu] at hv; cases hv
  have fresh : H T0 = none:=I.hok.fresh hle
  have I1 : Inv X pins σ (upd H T0 (.tup [.int i,x])) { s with heap:=h1,toks:=tk }:=I.turnsT (wr:=[e,it]) hf kk hle ht (.cons ⟨t,rfl⟩ (.cons ru .nil)) (by rw [Zh2]; simp)
  refine ⟨.ref T0,rfl,W0.go elts _ tp i T0 _ _ _ mid fun h2 st2 k2=>?_⟩
  have hlt : ∀ b∈[e,it],b≠T0:=fun b hb z=>by
   obtain ⟨⟨old,ho⟩,oi,hoi,_,hdi⟩:=st
   rcases Zie.mp hb with rfl | hb
   ·exact absurd (Zh9 (Zhy ho) (z ▸ hle)) (Zi3 _)
   ·rw [Zhp.mp hb] at z
    exact absurd (Zh9 (Zhy hoi) (z ▸ hle)) (Zi3 _)
  have hf1 : ∀ b∈[e,it],FpOk X pins (upd H T0 (.tup [.int i,x])) b:=fun b hb=>⟨by rw [zav (hlt b hb)]; exact (hf b hb).1,(hf b hb).2⟩
  exact ⟨.ref T0,_,I1.turns (t':=tk) hf1 k2,rfl,⟨T0,_,rfl,fresh,rfl,fun ys hy=>⟨x,by rw [I.list_inj hy hq]; exact hx,rfl⟩⟩,⟨st2.1,st2.2.1⟩,fun b hb=>by rw [zav (hlt b hb)]; exact (hf b hb).1⟩
 done:=by
  intro X hP hw hK hc i pins s σ H E I hf st hg
  subst hP hw hK
  obtain ⟨xs,hq,hx⟩:=hg
  obtain ⟨its,rv,p,hz⟩:=I.list hq
  have hl:=rv.length
  have hs : its.toArray.size = i:=by simp; lia
  have W0:=Zrc (A:=X.A) (Zus (prog:=X.prog) (w:=X.w) (A:=X.A.in1) (show X.A.in1.handled = none from I.ok.hd hc) it a hai its.toArray) e hei (by simp [hei,Zi4 hae]) (by simp)
  rw [hs] at W0
  exact W0.done s _ _ ⟨st.1,st.2,p.isList⟩ fun h1 tk kk=>⟨rfl,I.turns (wr:=[e,it]) hf kk⟩
 self:=fun A i s Q E st h=>Zta st.1.choose_spec h
section
variable {X : Cx} {e : Expr} {ta : TA} {elts : List Expr} {kk : Nat} {tp p pos : Pos}
noncomputable def iEnL (K : Zhi) (ta : TA) : TI:=fun σ H R=>ta σ H fun vs H1=>∃ a,vs = [.ref a]/\(∃ xs,SqL K H1 a xs)/\R (Ite K a) H1
theorem zfi (hg : Gl X "enumerate") (hm : X.mg "enumerate" = none) (hA : PA X [e] ta) (hs : Zi6 [e] X.env = [(false,eval e X.env)]:=by rfl) :
  PI X (.Tuple elts kk tp) (.Call (.Name "enumerate" p) [e] [] pos) (iEnL X.K ta):=by
 intro pins s σ H R I h
 refine Zu8 (zhb I hg hm boot_enumerate (Zi7 (thn (hA pos pins s σ H _ I h) fun us s1 hz9=>?_) hs rfl))
 obtain ⟨vs,H1,I1,r1,q1⟩:=hz9
 obtain ⟨a,rfl,⟨xs,hq⟩,q⟩:=q1
 obtain ⟨u,rfl,ru⟩:=zhc r1
 cases ru
 obtain ⟨its,rv,p,hz⟩:=I1.list hq
 refine call_enumerate_list p.isList fun h1 hen hit hsz hk=>?_
 have I2 : Inv X pins σ H1 { s1 with heap:=h1 }:=I1.kept (t':=s1.toks) hk
 refine Zta hen ?_
 have hlt : a < s1.heap.objs.size:=by obtain ⟨o,ho,_⟩:=p.isList; exact Zhy ho
 refine ⟨s1.heap.objs.size + 1,[s1.heap.objs.size + 1,s1.heap.objs.size],_,_,H1,rfl,I2,ztj a s1.heap.objs.size (s1.heap.objs.size + 1) (Zic (Zoy hlt)) (Zic hlt) (Nat.succ_ne_self _),⟨⟨_,hen⟩,hit⟩,fun b hb=>?_,q⟩
 rcases Zie.mp hb with rfl | hb
 ·exact I1.fpOk (Zoe _) (I1.hok.fresh (Zoe _))
 ·rw [Zhp.mp hb]
  exact I1.fpOk (Zhu _) (I1.hok.fresh (Zhu _))
noncomputable def zht (K : Zhi) : V->List V->Hp->VK->Prop:=fun x vs H Q=>∃ (a : Addr) (ns : List Int) (k : Int),x = .ref a/\vs = [.int k]/\SqL K H a (ns.map .int)/\k∈ns/\Q (.int (ns.idxOf k : Nat)) H
theorem zr5 : ∀ {ns : List Int} {its : List Value},Vals (ns.map V.int) its->Zqy its ns
 | [],_,h=>by cases h; exact .nil
 | n::ns,_,h=>by
  cases h with
  | cons a b =>
   obtain ⟨t,rfl⟩:=a
   exact .cons n t (zr5 b)
theorem zjg : MtR X "list.index" (zht X.K):=by
 intro pins s σ H x xs v us Q I rx rs h
 obtain ⟨a,ns,k,rfl,rfl,hq,hk,q⟩:=h
 cases rx
 obtain ⟨u,rfl,ru⟩:=zhc rs
 obtain ⟨t,rfl⟩:=ru
 obtain ⟨its,rv,⟨o,n,ho,hc,hd,hdd⟩,hz⟩:=I.list hq
 obtain ⟨cls,dd,data,sl⟩:=o
 simp only at hc hd hdd
 subst hc hd hdd
 have hi:=zr5 rv
 have hlen:=hi.length
 have hj : ns.idxOf k < ns.length:=Zju.mpr hk
 rw [Zhk] at hz
 have hz2 : ns.length <= 16777216:=by rw [<- Zh2]; exact hz
 refine Ztj PySem.F.slot_list_index ⟨_,ho,rfl⟩ PySem.F.entry_list_index (PySem.F.args_list_index_2 _ _)
  (Zu4 a its.toArray n _ sl (.int k t) (isInt k) (ns.idxOf k) (by simpa [hlen] using hj) (by lia) ?_ ?_) ⟨ho,fun y hy=>(eq_isInt k t hi y (by simpa using hy)).at _ _,⟨.int (ns.idxOf k : Nat),H,I.tok _,⟨_,rfl⟩,q⟩⟩
 ·show isInt k its[ns.idxOf k] = true
  rw [isInt_at k hi _ (by lia) hj]
  simpa using Zjm hj
 ·intro j hjs hlt
  show isInt k its[j] = false
  rw [isInt_at k hi j (by simpa using hjs) (by lia)]
  exact ne_of_lt_idxOf hlt _
end
end L2
namespace L2
open PySem PySem.W PySem.Spec PyProof.Rows
section
variable {K : Zhi} {G H₀ L : Hp} {ss : List Sl} {i : Nat} {p : Addr} {kqs : KQ} {kvs : DD} {E : Ends} {tk tv : TE} {k d : D}
noncomputable def frzL (q : D × Addr × List D) : D × D:=(q.1,.lst q.2.2)
theorem Sat.freezeL {F H : Hp} {σ : St} (S : Sat K G H₀ L F H σ ss) (hs : ss[i]? = some (dls K p kqs)) : ∃ F',Sat K G H₀ L F' H σ (ss.set i (dsl K p (kqs.map frzL))):=by
 obtain ⟨e,hoff,hp,hq⟩:=S.getL hs
 have hget : σ.getD i none = some (.ref p):=by rw [Zhh,e]; rfl
 have hnd : (p::kqs.map (·.2.1)).Nodup:=S.nd i _ hs
 have off : ∀ b,b∈kqs.map (·.2.1)->H₀ b = none/\F b = none:=fun b hb=>hoff b (Zhv _ hb)
 let F' : Hp:=fun b=>if b∈kqs.map (·.2.1) then H b else F b
 have fin : ∀ b,b∈kqs.map (·.2.1)->F' b = H b:=fun b hb=>if_pos hb
 have fout : ∀ b,b ∉ kqs.map (·.2.1)->F' b = F b:=fun b hb=>if_neg hb
 have ff : Same F F':=fun b o h=>by
  have : b ∉ kqs.map (·.2.1):=fun hb=>by rw [(off b hb).2] at h; cases h
  rw [fout b this]; exact h
 have fh : Same F' H:=fun b o h=>by
  by_cases hb : b∈kqs.map (·.2.1)
  ·rw [fin b hb] at h; exact h
  ·rw [fout b hb] at h; exact S.ext.fh b o h
 have ex : Ext G H₀ F' H:=⟨S.ext.gf.trans ff,fh,S.ext.hh,fun b o h n=>by
  have : b ∉ kqs.map (·.2.1):=fun hb=>by rw [(off b hb).1] at h; cases h
  rw [fout b this]; exact S.ext.no b o h n⟩
 obtain ⟨p0,pf⟩:=hoff p Zhx
 refine ⟨F',S.put ex (S.fl.trans ff) rfl (fun _ _=>rfl) (fun _=>?_) (by simp [dsl,Sl.ads]) (fun j s' hj h q hq=>?_) fun j s' hj h=>?_⟩
 ·rw [hget]
  refine ⟨rfl,fun a ha=>by rw [Zhp.mp ha]; exact ⟨p0,by rw [fout p (Zjz.mp hnd).1]; exact pf,_,hp,trivial⟩,⟨_,hp,?_⟩,zqn _ _ _⟩
  have key : ∀ zs : KQ,(∀ z∈zs,z∈kqs)->Dks K F' (zs.map frzL) (zs.map raw):=by
   intro zs
   induction zs with
   | nil=>intro _; exact .nil
   | cons z zs ih =>
    intro hz
    obtain ⟨z1,kr,vs,hv,r⟩:=hq z (hz z Zhx)
    exact .cons z1 (kr.mono ff) (Rep.lst (SqL.of ((fin z.2.1 (Zh3.mpr ⟨z,hz z Zhx,rfl⟩)).trans hv)) (r.mono ff)) (ih fun y hy=>hz y (Zhv _ hy))
  exact key kqs fun z h=>h
 ·have : q = p:=by simpa [dsl,Sl.ads] using hq
  subst this
  exact S.ne i j _ s' (Zi4 hj) hs h q Zhx
 ·have dis : ∀ b∈s'.ads,b ∉ kqs.map (·.2.1):=fun b hb hb2=>S.ne i j _ s' (Zi4 hj) hs h b (Zhv _ hb2) hb
  have own : ∀ {b : Addr} {xs : List D},b∈s'.ads->OwnL K H₀ F H b xs->OwnL K H₀ F' H b xs:=fun hb ⟨a1,a2,vs,a3,a4⟩=>⟨a1,by rw [fout _ (dis _ hb)]; exact a2,vs,a3,a4.mono ff⟩
  have ok:=S.ok j s' h
  cases s' with
  | un=>trivial
  | d x=>obtain ⟨v,ev,r⟩:=ok; exact ⟨v,ev,r.mono ff⟩
  | o b xs=>exact ⟨ok.1,own (by simp [Sl.ads]) ok.2⟩
  | oo b zs =>
   obtain ⟨a1,a2,a3,a4,a5⟩:=ok
   exact ⟨a1,a2,by rw [fout b (dis b (by simp [Sl.ads]))]; exact a3,a4,fun z hz=>own (by simp [Sl.ads]; exact .inr ⟨_,hz⟩) (a5 z hz)⟩
  | g v as W =>
   obtain ⟨a1,a2,a3,a4⟩:=ok
   refine ⟨a1,fun b hb=>?_,a4 _ _ _ _ ff (fun _ _=>rfl) a3,a4⟩
   obtain ⟨b1,b2,b3⟩:=a2 b hb
   exact ⟨b1,by rw [fout b (dis b hb)]; exact b2,b3⟩
theorem zsq {N : St->Hp->Prop} (hs : ss[i]? = some (dls K p kqs)) (h : Nx K G H₀ L N (ss.set i (dsl K p (kqs.map frzL)))) : Nx K G H₀ L N ss:=fun F H σ S=>by
 obtain ⟨F',S'⟩:=S.freezeL hs
 exact h F' H σ S'
theorem Dks.snds {F : Hp} {xs : List (Key × V)} (h : Dks K F kvs xs) : Reps K F (kvs.map (·.2)) (xs.map (·.2)):=by
 induction h with
 | nil=>exact Reps.nil
 | cons hk hr r t ih=>exact Reps.cons r ih
noncomputable def zo3 : List V->Hp->VK->Prop:=fun xs H Q=>∃ r d kvs,xs = [.ref r]/\H r = some (zx2 r d)/\H d = some (.dK kvs) /\ ∀ l,H l = none->Q (.ref l) (upd H l (.lst (kvs.map (·.2))))
theorem zy9 (hs : ss[i]? = some (dsl K p kvs)) : EvO K G H₀ L ss (tCB zo3 (za5 (tBM0 K "dict" zvu (tVar i)) tNil)) (kvs.map (·.2)):=fun F H σ Q S q=>by
 obtain ⟨e,h0,fp,xs,hp,dk⟩:=S.getM hs
 refine ⟨.ref p,e,.inr (.inr (.inl ⟨rfl,.inl ⟨_,hp⟩⟩)),p,xs,rfl,rfl,hp,fun r hr=>?_⟩
 have hpr : p≠r:=fun z=>by rw [z,hr] at hp; cases hp
 refine ⟨r,p,xs,rfl,zap,by rw [zav hpr]; exact hp,fun l hl=>?_⟩
 have hlr : l≠r:=fun z=>by rw [z,zap] at hl; cases hl
 have hl0 : H l = none:=by rw [zav hlr] at hl; exact hl
 exact q l _ F _ ((Ext.newO ((Ext.refl S.ext.fh).newO hr) hl)) hl0 (S.ext.fh.free hl0) zap dk.snds
noncomputable def zrr : List V->Hp->VK->Prop:=fun xs H Q=>∃ r a b c n,xs = [.ref r]/\H r = some (RngO r a b c)/\Zpd a b c = true/\Zll a b c = ((n : Nat) : Int)/\n <= 1048576 /\ ∀ l,H l = none->Q (.ref l) (upd H l (.lst ((Zhm n).map fun (i : Nat)=>.int (a + (i : Int) * c))))
theorem znn {ta : TE} {n : Nat} (a : EvB K G H₀ L ss ta (.int n)) (hn : n <= 1048576) : EvO K G H₀ L ss (tCB zrr (za5 (ydp (za5 ta tNil)) tNil)) ((Zhm n).map fun j : Nat=>.int j):=fun F H σ Q S q =>
 a F H σ _ S fun v F1 H1 e1 r1=>by
  rw [r1.of_int]
  refine ⟨n,rfl,fun r hr=>⟨r,0,n,1,n,rfl,zap,?_,?_,hn,fun l hl=>?_⟩⟩
  ·exact small_one (by decide) (by decide) (by lia) (by lia)
  ·unfold Zll
   rw [if_pos (by decide)]
   split <;> lia
  ·have hlr : l≠r:=fun z=>by rw [z,zap] at hl; cases hl
   have hl0 : H1 l = none:=by rw [zav hlr] at hl; exact hl
   refine q l _ F1 _ ((e1.newO hr).newO hl) (e1.hh.free hl0) (e1.fh.free hl0) zap ?_
   have e : ((Zhm n).map fun i : Nat=>V.int ((0 : Int) + (i : Int) * 1)) = (Zhm n).map fun i : Nat=>V.int (i : Int):=Zip fun i _=>by rw [Zu6,Zo7]
   rw [e]
   have:=Reps.ints (K:=K) (H:=F1) (p:=l) ((Zhm n).map fun i : Nat=>(i : Int))
   rw [Zim,Zim] at this
   exact this
theorem zm0 {tl : TE} {g : TG} {tb : TS} {α : Type} (enc : α->D) (xs : List α) (I : Nat->List Sl->Prop) (a : Ev K G H₀ L ss tl (.lst (xs.map enc))) (h0 : I 0 ss)
  (hs : ∀ L' k x ss,Same L L'->xs[k]? = some x->I k ss -> ∃ ss',Tg K G H₀ L' g (.tup [.int k,enc x]) ss ss' /\ ∀ N,(∀ ss,I (k + 1) ss->Nx K G H₀ L' N ss)->Go K G H₀ L' { E with nx:=N,ct:=N,bk:=E.nx } ss' tb)
  (hd : ∀ ss,I xs.length ss->Nx K G H₀ L E.nx ss) : Go K G H₀ L E ss (tFor (iEnL K (za5 tl tNil)) g tb):=fun F H σ S =>
 a F H σ _ S fun v F1 H1 e1 r1=>by
  obtain ⟨p,vs,rfl,sq,rs⟩:=r1.of_lst
  refine ⟨p,rfl,⟨vs,SqL.same e1.fh sq⟩,?_⟩
  refine ⟨fun i m σ' H'=>m = xs.length - i/\i <= xs.length/\At K G H₀ F1 (I i) σ' H',⟨_,rfl,Zit _,ss,F1,(S.ext2 e1).raise,h0⟩,?_⟩
  rintro i m σ' H' ⟨rfl,hi,ss1,F2,S2,h2⟩
  have rp : Rep K F2 (.lst (xs.map enc)) (.ref p):=r1.mono S2.fl
  obtain ⟨ws,sq2,rs2⟩:=rp.itl S2.ext.fh
  have hlen : ws.length = xs.length:=by rw [<- rs2.length,Zhk]
  by_cases hlt : i < xs.length
  ·refine .inr ⟨⟨ws,ws[i]'(by lia),sq2,Zhj _⟩,fun σ'' H''=>At K G H₀ F1 (I (i + 1)) σ'' H'',fun σ'' H'' h=>⟨xs.length - (i + 1),by lia,rfl,hlt,h⟩,fun x H'' y=>?_⟩
   obtain ⟨T0,us,rfl,hf,rfl,y⟩:=y
   obtain ⟨w,hx,rfl⟩:=y ws sq2
   obtain ⟨dx,hdx,rx⟩:=rs2.get hx
   rw [Zho,Zhj hlt] at hdx
   cases hdx
   obtain ⟨ss',tg,go⟩:=hs F1 i _ ss1 (S.fl.trans e1.gf) (Zhj hlt) h2
   have e3 : Ext F2 H' (upd F2 T0 (.tup [.int i,w])) (upd H' T0 (.tup [.int i,w])):=(Ext.refl S2.ext.fh).newF hf
   have rt : Rep K (upd F2 T0 (.tup [.int i,w])) (.tup [.int i,enc xs[i]]) (.ref T0):=Rep.tupN (zap) (Reps.cons Rep.int (Reps.cons (rx.mono e3.gf) Reps.nil))
   exact tg _ _ σ' _ _ (S2.ext2 e3) rt fun σ3 S3=>go _ (fun ss h=>zsx h) _ _ σ3 S3
  ·have e : i = xs.length:=by lia
   subst e
   exact .inl ⟨⟨ws,sq2,hlen⟩,hd ss1 h2 F2 H' σ' (S2.lower (S.fl.trans e1.gf))⟩
theorem zhw {F : Hp} : ∀ {ns : List Int} {vs : List V},Reps K F (ns.map D.int) vs->vs = ns.map V.int
 | [],vs,r=>by rw [Zl8,Reps] at r; exact r
 | n::ns,vs,r=>by
  rw [Zh5,Reps] at r
  obtain ⟨x,r',rfl,r1,r2⟩:=r
  rw [r1.of_int,zhw r2]; rfl
theorem zx5 {ta tb : TE} {ns : List Int} {k : Int} (a : EvL K G H₀ L ss ta (ns.map D.int)) (b : EvB K G H₀ L ss tb (.int k)) (hk : k∈ns) : Ev K G H₀ L ss (tBM K "list" (zht K) ta (za5 tb tNil)) (.int (ns.idxOf k : Nat)):=fun F H σ Q S q =>
 a F H σ _ S fun p vs F1 H1 e1 sq r=>⟨.inl ⟨rfl,_,sq⟩,b F1 H1 σ _ (S.ext2 e1) fun v F2 H2 e2 r2=>by
  rw [r2.of_int]
  have hv : vs = ns.map V.int:=by
   exact zhw r
  subst hv
  exact ⟨p,ns,k,rfl,rfl,SqL.same e2.hh sq,hk,q _ _ _ (e1.trans e2) Rep.int⟩⟩
end
end L2
namespace L2
open PySem PySem.Spec PyProof.Rows
noncomputable def Itz (K : Zhi) (a b : Addr) : It :=
  ⟨fun i H=>∃ xs ys x y,SqL K H a xs/\SqL K H b ys/\xs[i]? = some x/\ys[i]? = some y,
   fun i H x H'=>∃ T0 vs,x = .ref T0/\H T0 = none/\H' = upd H T0 (.tup vs) /\ ∀ xs ys,SqL K H a xs->SqL K H b ys -> ∃ u v,xs[i]? = some u/\ys[i]? = some v/\vs = [u,v],
   fun i H=>∃ xs ys,SqL K H a xs/\SqL K H b ys/\min xs.length ys.length = i⟩
theorem zxp {P : Ziq} {w : Zjv} {K : Zhi} {elts : List Expr} {kk : Nat} {tp : Pos} (z TI TO i1 i2 a b : Addr) (D0 : ZipApart z TI TO i1 i2 a b) :
  Turn P w K (.Tuple elts kk tp) (Itz K a b) [z,TI,TO,i1,i2] z (fun i h=>IsZip h z TI TO .none/\IsPair h TI (.ref i1) (.ref i2)/\(∃ c d,IsPair h TO c d)/\h.IsListIter i1 a i/\h.IsListIter i2 b i) where
 mem:=by simp
 obj:=fun i h st c hc=>by
  obtain ⟨s1,s2,⟨c1,d1,s3⟩,⟨o4,s4,_,e4⟩,⟨o5,s5,_,e5⟩⟩:=st
  simp only [Zie,Zlr,or_false] at hc
  rcases hc with rfl | rfl | rfl | rfl | rfl
  ·exact ⟨_,s1,fun v q=>by cases q⟩
  ·exact ⟨_,s2,fun v q=>by cases q⟩
  ·exact ⟨_,s3,fun v q=>by cases q⟩
  ·exact ⟨o4,s4,fun v q=>by rw [e4] at q; cases q⟩
  ·exact ⟨o5,s5,fun v q=>by rw [e5] at q; cases q⟩
 keep:=fun i h h' st k=>by
  obtain ⟨s1,s2,⟨c1,d1,s3⟩,s4,s5⟩:=st
  exact ⟨k z (by simp) _ s1,k TI (by simp) _ s2,⟨c1,d1,k TO (by simp) _ s3⟩,s4.at fun o x=>k i1 (by simp) o x,s5.at fun o x=>k i2 (by simp) o x⟩
 item:=by
  intro X hP hw hK hc i pins s σ H E I hf st hg
  subst hP hw hK
  obtain ⟨xs,ys,x,y,hq,hr,hx,hy⟩:=hg
  obtain ⟨its,rv,p,hz⟩:=I.list hq
  obtain ⟨jts,rv2,p2,hz2⟩:=I.list hr
  obtain ⟨u,hu,ru⟩:=rv.get hx
  obtain ⟨u2,hu2,ru2⟩:=rv2.get hy
  have hil : i < its.length:=(Zhn.mp hu).1
  have hil2 : i < jts.length:=(Zhn.mp hu2).1
  have W0:=Zs0 (prog:=X.prog) (w:=X.w) (A:=X.A) (show X.A.handled = none from I.ok.hd hc) z TI TO i1 i2 a b D0 its.toArray jts.toArray
  obtain ⟨s1,s2,s3,s4,s5⟩:=st
  refine W0.item i s _ _ (by simp; lia) ⟨s1,s2,s3,s4,s5,p.isList,p2.isList⟩ fun T0 vals h1 tk hp hle ht mid kk=>?_
  obtain ⟨v,v2,hv,hv2,rfl⟩:=hp
  have hv : its[i]? = some v:=by simpa using hv
  have hv2 : jts[i]? = some v2:=by simpa using hv2
  rw [hu] at hv; cases hv
  rw [hu2] at hv2; cases hv2
  have fresh : H T0 = none:=I.hok.fresh hle
  have hfw : ∀ c∈[z,TO,i1,i2],FpOk X pins H c:=fun c hc=>hf c (by simp only [Zie,Zlr,or_false] at hc ⊢; rcases hc with h | h | h | h <;> simp [h])
  have I1 : Inv X pins σ (upd H T0 (.tup [x,y])) { s with heap:=h1,toks:=tk }:=I.turnsT (wr:=[z,TO,i1,i2]) hfw kk hle ht (.cons ru (.cons ru2 .nil)) (by rw [Zh2]; simp)
  refine ⟨.ref T0,rfl,W0.go elts _ tp i T0 _ _ _ mid fun h2 st2 k2=>?_⟩
  have hlt : ∀ c∈[z,TI,TO,i1,i2],c≠T0:=fun c hc q=>by
   have old : ∃ o,s.heap.get? c = some o:=by
    obtain ⟨c1,d1,s3⟩:=s3
    obtain ⟨o4,s4,_⟩:=s4
    obtain ⟨o5,s5,_⟩:=s5
    simp only [Zie,Zlr,or_false] at hc
    rcases hc with rfl | rfl | rfl | rfl | rfl
    ·exact ⟨_,s1⟩
    ·exact ⟨_,s2⟩
    ·exact ⟨_,s3⟩
    ·exact ⟨_,s4⟩
    ·exact ⟨_,s5⟩
   obtain ⟨o,ho⟩:=old
   exact absurd (Zh9 (Zhy ho) (q ▸ hle)) (Zi3 _)
  have hf1 : ∀ c∈[z,TO,i1,i2],FpOk X pins (upd H T0 (.tup [x,y])) c:=fun c hc=>⟨by rw [zav (hlt c (by simp only [Zie,Zlr,or_false] at hc ⊢; rcases hc with h | h | h | h <;> simp [h]))]; exact (hfw c hc).1,(hfw c hc).2⟩
  exact ⟨.ref T0,_,I1.turns (t':=tk) hf1 k2,rfl,⟨T0,_,rfl,fresh,rfl,fun ys1 ys2 g1 g2=>⟨x,y,by rw [I.list_inj g1 hq]; exact hx,by rw [I.list_inj g2 hr]; exact hy,rfl⟩⟩,⟨st2.1,st2.2.1,st2.2.2.1,st2.2.2.2.1,st2.2.2.2.2.1⟩,fun c hc=>by rw [zav (hlt c hc)]; exact (hf c hc).1⟩
 done:=by
  intro X hP hw hK hc i pins s σ H E I hf st hg
  subst hP hw hK
  obtain ⟨xs,ys,hq,hr,hx⟩:=hg
  obtain ⟨its,rv,p,hz⟩:=I.list hq
  obtain ⟨jts,rv2,p2,hz2⟩:=I.list hr
  have hl:=rv.length
  have hl2:=rv2.length
  have W0:=Zs0 (prog:=X.prog) (w:=X.w) (A:=X.A) (show X.A.handled = none from I.ok.hd hc) z TI TO i1 i2 a b D0 its.toArray jts.toArray
  have hs : min its.toArray.size jts.toArray.size = i:=by simp; lia
  rw [hs] at W0
  obtain ⟨s1,s2,s3,s4,s5⟩:=st
  have hfw : ∀ c∈[z,TO,i1,i2],FpOk X pins H c:=fun c hc=>hf c (by simp only [Zie,Zlr,or_false] at hc ⊢; rcases hc with h | h | h | h <;> simp [h])
  exact W0.done s _ _ ⟨s1,s2,s3,s4,s5,p.isList,p2.isList⟩ fun h1 tk kk=>⟨rfl,I.turns (wr:=[z,TO,i1,i2]) hfw kk⟩
 self:=fun A i s Q E st h=>Zt6 st.1 h
section
variable {X : Cx} {e : Expr} {ta : TA} {elts : List Expr} {kk : Nat} {tp p pos : Pos}
noncomputable def iZip (K : Zhi) (ta : TA) : TI:=fun σ H R=>ta σ H fun vs H1=>∃ a b,vs = [.ref a,.ref b]/\(∃ xs,SqL K H1 a xs)/\(∃ ys,SqL K H1 b ys)/\R (Itz K a b) H1
theorem zl3 {e2 : Expr} (hg : Gl X "zip") (hm : X.mg "zip" = none) (hA : PA X [e,e2] ta) (hs : Zi6 [e,e2] X.env = (false,eval e X.env)::Zi6 [e2] X.env:=by rfl) (hp : (Znl pos (Zi6 [e2] X.env)).any (·.1) = false:=by rfl) :
  PI X (.Tuple elts kk tp) (.Call (.Name "zip" p) [e,e2] [] pos) (iZip X.K ta):=by
 intro pins s σ H R I h
 refine Zu8 (zhb I hg hm Zsb (Zi7 (thn (hA pos pins s σ H _ I h) fun us s1 hz9=>?_) hs hp))
 obtain ⟨vs,H1,I1,r1,q1⟩:=hz9
 obtain ⟨a,b,rfl,⟨xs,hq⟩,⟨ys,hr⟩,q⟩:=q1
 obtain ⟨u,u2,rfl,ru,ru2⟩:=zqp r1
 cases ru
 cases ru2
 obtain ⟨its,rv,p,hz⟩:=I1.list hq
 obtain ⟨jts,rv2,p2,hz2⟩:=I1.list hr
 refine call_zip_2 p.isList p2.isList fun h1 hzp hTI hTO hi1 hi2 hsz hk=>?_
 have I2 : Inv X pins σ H1 { s1 with heap:=h1 }:=I1.kept (t':=s1.toks) hk
 refine Zt6 hzp ?_
 have hlt : a < s1.heap.objs.size:=by obtain ⟨o,ho,_⟩:=p.isList; exact Zhy ho
 have hlt2 : b < s1.heap.objs.size:=by obtain ⟨o,ho,_⟩:=p2.isList; exact Zhy ho
 have ap:=zipApart_new hlt hlt2
 refine ⟨s1.heap.objs.size + 4,[s1.heap.objs.size + 4,s1.heap.objs.size + 2,s1.heap.objs.size + 3,s1.heap.objs.size,s1.heap.objs.size + 1],_,_,H1,rfl,I2,zxp _ _ _ _ _ a b ap,⟨hzp,hTI,⟨_,_,hTO⟩,hi1,hi2⟩,fun c hc=>?_,q⟩
 have hcs : s1.heap.objs.size <= c:=by
  simp only [Zie,Zlr,or_false] at hc
  rcases hc with rfl | rfl | rfl | rfl | rfl <;> first | exact Zhu _ | exact Nat.le_add_right _ _
 exact I1.fpOk hcs (I1.hok.fresh hcs)
end
open AutoSeq1 (wpAny_loadPart')
end L2
namespace L2
open PySem PySem.Spec PyProof.Rows PySem.Builtin PySem.Builtin.Str
section
variable {K : Zhi} {G H₀ L : Hp} {ss : List Sl} {ta tb tc t t1 t2 te : TE} {ds : List D} {E : Ends}
theorem ych {tl tm : TE} {g : TG} {tb : TS} {α β : Type} (enc : α->D) (enc2 : β->D) (xs : List α) (ys : List β) (I : Nat->List Sl->Prop) (a : Ev K G H₀ L ss tl (.lst (xs.map enc))) (b : Ev K G H₀ L ss tm (.lst (ys.map enc2))) (hxy : xs.length = ys.length) (h0 : I 0 ss)
  (hs : ∀ L' k x y ss,Same L L'->xs[k]? = some x->ys[k]? = some y->I k ss -> ∃ ss',Tg K G H₀ L' g (.tup [enc x,enc2 y]) ss ss' /\ ∀ N,(∀ ss,I (k + 1) ss->Nx K G H₀ L' N ss)->Go K G H₀ L' { E with nx:=N,ct:=N,bk:=E.nx } ss' tb)
  (hd : ∀ ss,I xs.length ss->Nx K G H₀ L E.nx ss) : Go K G H₀ L E ss (tFor (iZip K (za5 tl (za5 tm tNil))) g tb):=fun F H σ S =>
 a F H σ _ S fun v F0 H0 e0 r0=>b F0 H0 σ _ (S.ext2 e0) fun v2 F1 H1 e1 r2=>by
  have r1:=r0.mono e1.gf
  obtain ⟨p,vs,rfl,sq,rs⟩:=r1.of_lst
  obtain ⟨p2,vs2,rfl,sqb,rsb⟩:=r2.of_lst
  refine ⟨p,p2,rfl,⟨vs,SqL.same e1.fh sq⟩,⟨vs2,SqL.same e1.fh sqb⟩,?_⟩
  have S1:=(S.ext2 e0).ext2 e1
  have hLF : Same L F1:=(S.fl.trans e0.gf).trans e1.gf
  refine ⟨fun i m σ' H'=>m = xs.length - i/\i <= xs.length/\At K G H₀ F1 (I i) σ' H',⟨_,rfl,Zit _,ss,F1,S1.raise,h0⟩,?_⟩
  rintro i m σ' H' ⟨rfl,hi,ss1,F2,S2,h2⟩
  have rp : Rep K F2 (.lst (xs.map enc)) (.ref p):=r1.mono S2.fl
  have rp2 : Rep K F2 (.lst (ys.map enc2)) (.ref p2):=r2.mono S2.fl
  obtain ⟨ws,sq2,rs2⟩:=rp.itl S2.ext.fh
  obtain ⟨ws2,sq22,rs22⟩:=rp2.itl S2.ext.fh
  have hlen : ws.length = xs.length:=by rw [<- rs2.length,Zhk]
  have hlen2 : ws2.length = ys.length:=by rw [<- rs22.length,Zhk]
  by_cases hlt : i < xs.length
  ·refine .inr ⟨⟨ws,ws2,ws[i]'(by lia),ws2[i]'(by lia),sq2,sq22,Zhj _,Zhj _⟩,fun σ'' H''=>At K G H₀ F1 (I (i + 1)) σ'' H'',fun σ'' H'' h=>⟨xs.length - (i + 1),by lia,rfl,hlt,h⟩,fun x H'' y=>?_⟩
   obtain ⟨T0,us,rfl,hf,rfl,y⟩:=y
   obtain ⟨w,w2,hx,hx2,rfl⟩:=y ws ws2 sq2 sq22
   obtain ⟨dx,hdx,rx⟩:=rs2.get hx
   obtain ⟨dx2,hdx2,rx2⟩:=rs22.get hx2
   rw [Zho,Zhj hlt] at hdx
   rw [Zho,Zhj (by lia)] at hdx2
   cases hdx
   cases hdx2
   obtain ⟨ss',tg,go⟩:=hs F1 i _ _ ss1 hLF (Zhj hlt) (Zhj (by lia)) h2
   have e3 : Ext F2 H' (upd F2 T0 (.tup [w,w2])) (upd H' T0 (.tup [w,w2])):=(Ext.refl S2.ext.fh).newF hf
   have rt : Rep K (upd F2 T0 (.tup [w,w2])) (.tup [enc xs[i],enc2 (ys[i]'(by lia))]) (.ref T0):=Rep.tupN (zap) (Reps.cons (rx.mono e3.gf) (Reps.cons (rx2.mono e3.gf) Reps.nil))
   exact tg _ _ σ' _ _ (S2.ext2 e3) rt fun σ3 S3=>go _ (fun ss h=>zsx h) _ _ σ3 S3
  ·have e : i = xs.length:=by lia
   subst e
   exact .inl ⟨⟨ws,ws2,sq2,sq22,by lia⟩,hd ss1 h2 F2 H' σ' (S2.lower hLF)⟩
end
noncomputable def SpGO {α : Type} (K : Zhi) (pre : α->List D->Prop) (res : α->List D) : Sp:=fun vs H Q _=>∃ (G : Hp) (ds : List D) (x : α),Same G H/\Reps K G ds vs/\pre x ds /\
 ∀ p ws G' H',Ext G H G' H'->H p = none->G' p = none->H' p = some (.lst ws)->Reps K G' (res x) ws->Q (.ref p) H'
section
variable {α : Type} {K : Zhi} {H : Hp} {vs : List V} {Q : VK} {X : XK} {N : List Str} {t : TS} {pre : α->List D->Prop} {res : α->List D}
theorem yb7 (h : SpGO K pre res vs H Q X) (hN : vs.length <= N.length) (body : ∀ G ds x,pre x ds->RtO K G H Q (res x)->Go K G H G { nx:=fun _ H'=>Q .non H',rt:=Q } (slots N.length ds) t) : t { nx:=fun _ H'=>Q .non H',rt:=Q } (zg0 N vs) H:=by
 obtain ⟨G,ds,x,sm,r,hp,q⟩:=h
 exact body G ds x hp (fun p ws F H' e h1 h2 h3 h4=>q p ws F H' e h1 h2 h3 h4) G H _ (zdr sm r hN)
theorem zse {n : Nat} (hpre : ∀ x ds,pre x ds->ds.length = n) (h : SpGO K pre res vs H Q X) : vs.length = n:=by
 obtain ⟨G,ds,x,sm,r,hp,q⟩:=h
 rw [<- r.length]; exact hpre x ds hp
end
section
variable {α : Type} {K : Zhi} {G H₀ L : Hp} {ss : List Sl} {t : TA} {ds : List D} {E : XK} {pre : α->List D->Prop} {res : α->List D}
theorem zgj (x : α) (a : EvAF K G H₀ L ss t ds) (hp : pre x ds) : EvO K G H₀ L ss (zhd (SpGO K pre res) [] E t) (res x):=fun F H σ Q S q =>
 a F H σ _ S fun vs F1 H1 e1 r1=>⟨F1,ds,x,e1.fh,by rw [Zjj]; exact r1,hp,fun p ws G' H' e2 h1 h2 h3 r=>q _ _ _ _ (e1.trans e2) (e1.hh.free h1) h2 h3 r⟩
end
end L2
namespace L2
open PySem PySem.Spec PyProof.Rows
structure FX (K : Zhi) (mg : Str->Option Value) (n : Str) (s : Stmt) (ps : List Str) (f : Addr) (d : Zkj) : Prop where
 F : Fun K n n s f d
 B : zsz K d ps []
 M : mg n = some (.ref f)
noncomputable def Bd (n : Str) (s : Stmt) (ps : List Str) : Prop:=∀ (kV doc pm : Value) (an : Option Addr) (cdv ct : Value) (us : List Value),us.length = ps.length->Znd (Zjy n n (zen s) (zb1 s) (zah s) .none kV doc pm an cdv ct) ⟨us,[]⟩ = pure (ps.zip us)
theorem fx_mk {K : Zhi} {h : Heap} {mg : Str->Option Value} {n : Str} {s : Stmt} {ps : List Str} {g : Addr} {oc kV doc pm cdv ct : Value} {od an : Option Addr} {osl : Array (Option Value)} (X : K.In h) (G : h.Ns Zj9 mg) (b : Bd n s ps) (a : PySem.W.nsIn K Zj9 n = some (some (.ref g)))
  (l : K.lookup g = some ⟨oc,od,.func (Zjy n n (zen s) (zb1 s) (zah s) .none kV doc pm an cdv ct),osl⟩) (c : Zno K cdv n = true) (k : Zl1 K (.ref g) = true) : FX K mg n s ps g (Zjy n n (zen s) (zb1 s) (zah s) .none kV doc pm an cdv ct) :=
 ⟨zzy l c k,(zzy l c k).binds b,PySem.W.mg_of X G a⟩
theorem FX.lk {K : Zhi} {mg : Str->Option Value} {n : Str} {s : Stmt} {ps : List Str} {f : Addr} {d : Zkj} (z : FX K mg n s ps f d) : ∃ g oc od osl,mg n = some (.ref g)/\K.lookup g = some ⟨oc,od,.func d,osl⟩ :=
 let ⟨oc,od,_,_,_,_,_,_,osl,_,l,_⟩:=z.F.ex; ⟨f,oc,od,osl,z.M,l⟩
theorem FX.bt {K : Zhi} {mg : Str->Option Value} {n x : Str} {s : Stmt} {f : Addr} {d : Zkj} (b : Bd n s [x]) (z : FX K mg n s [x] f d) (t : Zhq) (v : Value) : Zpz t d ⟨[v],[]⟩ [(x,v)]:=by
 obtain ⟨oc,od,kV,dc,pm,an,cdv,ct,osl,rfl,l,_⟩:=z.F.ex
 exact .of_eq (b kV dc pm an cdv ct [v] rfl)
theorem zbu {N P : List Str} {sc : Scope} (h : (decide (sc.kind = .function) && (!sc.isCoroutine && (!sc.isGenerator && (decide N.Nodup && (decide (N.take P.length = P) && (P.all (fun x=>decide (sc.names.lookup x = some .local \/ sc.names.lookup x = some .cell)) && sc.names.all fun y=>decide (y.2 ≠ .free))))))) = true) : FnScope N P sc:=by
 simp only [Zib,decide_eq_true_eq,Zje,Zi5] at h
 exact ⟨h.1,h.2.1,h.2.2.1,h.2.2.2.1,h.2.2.2.2.1,h.2.2.2.2.2.1,h.2.2.2.2.2.2⟩
section
variable {X : Cx} {pos : Pos} {i : Nat} {x : Str}
theorem pgn (i : Nat) (hN : X.N.Nodup) (hi : X.N[i]? = some x:=by rfl) (hx : Loc X.env.scope x:=by exact Zkz rfl) (hf : X.fn x = true \/ X.env.scope.names.lookup x = some .local:=by first | exact .inl rfl | exact .inr rfl | assumption) : PG X (.Name x pos) (zhv i):=zbx hN hi hx hf
theorem psn (i : Nat) {e : Expr} {te : TE} {pos' : Pos} (hN : X.N.Nodup) (he : PE X e te) (hi : X.N[i]? = some x:=by rfl) (hx : Loc X.env.scope x:=by exact Zkz rfl) (hs : Zqs e (some (.Name x pos')) pos.line X.env = pure false:=by rfl) (hf : X.fn x = true \/ X.env.scope.names.lookup x = some .local:=by first | exact .inl rfl | exact .inr rfl | assumption) : PS X (.Assign [.Name x pos'] e pos) (tAsg te (zhv i)):=zv9 hN hi hx he hs hf
theorem pcX {k kk : Nat} {f : Addr} {fd : Zkj} {ps : List Str} {sp : Sp} {e : Expr} {es : List Expr} {t : TA} {p : Pos} {st : Stmt} (F : FnOk X.prog X.w X.K X.mg X.base CX0 k f fd ps sp) (hr : Room kk X.A) (z : FX X.K X.mg x st ps f fd) (ha : PA X (e::es) t) (hle : k <= kk:=by decide) (hg : Gl X x:=by rfl) (hdb : (x == ("__debug__" : Str)) = false:=by decide) (he : Zi6 (e::es) X.env = (false,eval e X.env)::Zi6 es X.env:=by rfl) (hpl : (Znl pos (Zi6 es X.env)).any (·.1) = false:=by rfl) : PE X (.Call (.Name x p) (e::es) [] pos) (zhd sp [] E0 t) :=
 yak F (hr.mono hle) hg z.M z.F.kp z.B .nil ye1 ha hdb he hpl
end
section
variable {P : Ziq} {w : Zjv} {K : Zhi} {mg : Str->Option Value} {base : Heap} {x qual : Str} {st : Stmt} {f : Addr} {fd : Zkj} {N ps : List Str} {k : Nat}
theorem zpq {sc : Scope} (S : FnScope N ps sc) : ps.length <= N.length:=by
 have:=congrArg Zrh S.pre
 rw [Zin] at this
 omega
theorem okD {pre : List D->Prop} {res : List D->D} (F : Fun K x qual st f fd) (S : FnScope N ps (zah st)) (hl : ∀ ds,pre ds->ds.length = ps.length)
  (hb : ∀ (cdv : Value) (A : Zi0) (outer : List Env) (s : Zhq) (H : Hp) (Q : VK) (E : XK),Room k (A.deeper (Zm1 qual (zah st) s.heap.objs.size f cdv)) -> ∃ t,PSs (cxOf CX0 P w K mg base N qual (zah st) f cdv A outer s H E).nox (zb1 st) t /\ ∀ G ds,pre ds->RtD K G H Q (res ds)->Go K G H G { nx:=fun _ H'=>Q .non H',rt:=Q } (slots N.length ds) t) : FnOk P w K mg base CX0 (k + 1) f fd ps (SpD K pre res) :=
 F.ok S (fun vs H Q E h=>zt4 hl h) fun cdv A outer s H vs Q E hr h=>let ⟨t,p,b⟩:=hb cdv A outer s H Q E hr; ⟨t,p,ycv h (by rw [zt4 hl h]; exact zpq S) b⟩
theorem okO {pre : List D->Prop} {res : List D->List D} (F : Fun K x qual st f fd) (S : FnScope N ps (zah st)) (hl : ∀ ds,pre ds->ds.length = ps.length)
  (hb : ∀ (cdv : Value) (A : Zi0) (outer : List Env) (s : Zhq) (H : Hp) (Q : VK) (E : XK),Room k (A.deeper (Zm1 qual (zah st) s.heap.objs.size f cdv)) -> ∃ t,PSs (cxOf CX0 P w K mg base N qual (zah st) f cdv A outer s H E).nox (zb1 st) t /\ ∀ G ds,pre ds->RtO K G H Q (res ds)->Go K G H G { nx:=fun _ H'=>Q .non H',rt:=Q } (slots N.length ds) t) : FnOk P w K mg base CX0 (k + 1) f fd ps (SpO K pre res) :=
 F.ok S (fun vs H Q E h=>zuu hl h) fun cdv A outer s H vs Q E hr h=>let ⟨t,p,b⟩:=hb cdv A outer s H Q E hr; ⟨t,p,yc2 h (by rw [zuu hl h]; exact zpq S) b⟩
theorem okRD {pre : List D->Prop} {R : List D->D->Prop} (F : Fun K x qual st f fd) (S : FnScope N ps (zah st)) (hl : ∀ ds,pre ds->ds.length = ps.length)
  (hb : ∀ (cdv : Value) (A : Zi0) (outer : List Env) (s : Zhq) (H : Hp) (Q : VK) (E : XK),Room k (A.deeper (Zm1 qual (zah st) s.heap.objs.size f cdv)) -> ∃ t,PSs (cxOf CX0 P w K mg base N qual (zah st) f cdv A outer s H E).nox (zb1 st) t /\ ∀ G ds,pre ds->(∀ r,R ds r->RtD K G H Q r)->Go K G H G { nx:=fun _ H'=>Q .non H',rt:=Q } (slots N.length ds) t) : FnOk P w K mg base CX0 (k + 1) f fd ps (SpRD K pre R) :=
 F.ok S (fun vs H Q E h=>zq9 hl h) fun cdv A outer s H vs Q E hr h=>let ⟨t,p,b⟩:=hb cdv A outer s H Q E hr; ⟨t,p,ybw h (by rw [zq9 hl h]; exact zpq S) b⟩
theorem okG {α : Type} {pre : α->List D->Prop} {res : α->D} (F : Fun K x qual st f fd) (S : FnScope N ps (zah st)) (hl : ∀ q ds,pre q ds->ds.length = ps.length)
  (hb : ∀ (cdv : Value) (A : Zi0) (outer : List Env) (s : Zhq) (H : Hp) (Q : VK) (E : XK),Room k (A.deeper (Zm1 qual (zah st) s.heap.objs.size f cdv)) -> ∃ t,PSs (cxOf CX0 P w K mg base N qual (zah st) f cdv A outer s H E).nox (zb1 st) t /\ ∀ G ds q,pre q ds->RtD K G H Q (res q)->Go K G H G { nx:=fun _ H'=>Q .non H',rt:=Q } (slots N.length ds) t) : FnOk P w K mg base CX0 (k + 1) f fd ps (SpG K pre res) :=
 F.ok S (fun vs H Q E h=>zuh hl h) fun cdv A outer s H vs Q E hr h=>let ⟨t,p,b⟩:=hb cdv A outer s H Q E hr; ⟨t,p,ydt h (by rw [zuh hl h]; exact zpq S) b⟩
theorem okGO {α : Type} {pre : α->List D->Prop} {res : α->List D} (F : Fun K x qual st f fd) (S : FnScope N ps (zah st)) (hl : ∀ q ds,pre q ds->ds.length = ps.length)
  (hb : ∀ (cdv : Value) (A : Zi0) (outer : List Env) (s : Zhq) (H : Hp) (Q : VK) (E : XK),Room k (A.deeper (Zm1 qual (zah st) s.heap.objs.size f cdv)) -> ∃ t,PSs (cxOf CX0 P w K mg base N qual (zah st) f cdv A outer s H E).nox (zb1 st) t /\ ∀ G ds q,pre q ds->RtO K G H Q (res q)->Go K G H G { nx:=fun _ H'=>Q .non H',rt:=Q } (slots N.length ds) t) : FnOk P w K mg base CX0 (k + 1) f fd ps (SpGO K pre res) :=
 F.ok S (fun vs H Q E h=>zse hl h) fun cdv A outer s H vs Q E hr h=>let ⟨t,p,b⟩:=hb cdv A outer s H Q E hr; ⟨t,p,yb7 h (by rw [zse hl h]; exact zpq S) b⟩
theorem okDT {T : Addr} {pos : Pos} {lq : Str} {pre : List D->Prop} {res : List D->D} (F : Fun K x qual st f fd) (S : FnScope N ps (zah st)) (hl : ∀ ds,pre ds->ds.length = ps.length)
  (hb : ∀ (cdv : Value) (A : Zi0) (outer : List Env) (s : Zhq) (H : Hp) (Q : VK) (E : XK),Room k (A.deeper (Zm1 qual (zah st) s.heap.objs.size f cdv)) -> ∃ t,PSs (cxOf CX0 P w K mg base N qual (zah st) f cdv A outer s H E).nox (zb1 st) t /\ ∀ G ds,HasT G T pos lq->pre ds->RtD K G H Q (res ds)->Go K G H G { nx:=fun _ H'=>Q .non H',rt:=Q } (slots N.length ds) t) : FnOk P w K mg base CX0 (k + 1) f fd ps (SpDT K T pos lq pre res) :=
 F.ok S (fun vs H Q E h=>zkn hl h) fun cdv A outer s H vs Q E hr h=>let ⟨t,p,b⟩:=hb cdv A outer s H Q E hr; ⟨t,p,zwx h (by rw [zkn hl h]; exact zpq S) b⟩
theorem okPT {T : Addr} {pos : Pos} {lq : Str} {pre : List D->Prop} {res : List D->Int × List D} (F : Fun K x qual st f fd) (S : FnScope N ps (zah st)) (hl : ∀ ds,pre ds->ds.length = ps.length)
  (hb : ∀ (cdv : Value) (A : Zi0) (outer : List Env) (s : Zhq) (H : Hp) (Q : VK) (E : XK),Room k (A.deeper (Zm1 qual (zah st) s.heap.objs.size f cdv)) -> ∃ t,PSs (cxOf CX0 P w K mg base N qual (zah st) f cdv A outer s H E).nox (zb1 st) t /\ ∀ G ds,HasT G T pos lq->pre ds->RtPO K G H Q (res ds).1 (res ds).2->Go K G H G { nx:=fun _ H'=>Q .non H',rt:=Q } (slots N.length ds) t) : FnOk P w K mg base CX0 (k + 1) f fd ps (SpPT K T pos lq pre res) :=
 F.ok S (fun vs H Q E h=>zsg hl h) fun cdv A outer s H vs Q E hr h=>let ⟨t,p,b⟩:=hb cdv A outer s H Q E hr; ⟨t,p,ybt h (by rw [zsg hl h]; exact zpq S) b⟩
end
noncomputable def metN (ns : List Int) : Nat:=(firstMet (fun i=>ns.getD i 0) ns.length).length
noncomputable def zv6 (K : Zhi) : List V->Hp->VK->Prop:=fun vs H Q=>∃ a ns,vs = [.ref a]/\SqL K H a (ns.map V.int)/\ns.length <= 1000 /\ ∀ r S,H r = none->Q (.ref r) (upd H r (.set S (metN ns)))
noncomputable def zw4 : List V->Hp->VK->Prop:=fun vs H Q=>∃ a S n,vs = [.ref a]/\H a = some (.set S n)/\n <= 1000/\Q (.int n) H
theorem yel (ns : List Int) : metN ns <= ns.length:=firstMet_length_le _ _
section
variable {X : Cx}
theorem zox (hc : X.calm = true) : zdk X (.type "set") (zv6 X.K):=by
 intro pins s σ H vs us Q I r h
 obtain ⟨a,ns,rfl,hq,hl,q⟩:=h
 obtain ⟨u,rfl,ru⟩:=zhc r
 cases ru
 obtain ⟨its,rv,pl,_⟩:=I.list hq
 have l2:=rv.length
 rw [Zhk] at l2
 refine call_set_list (items:=its.toArray) (ns:=ns) (I.ok.hd hc) pl.isList (by simpa using ztr rv) (by simp [scanBound]; omega) fun h' tk S k=>?_
 have e3 : its.toArray.size = ns.length:=by rw [l2]; exact Zii
 rw [e3] at S
 exact ⟨.ref s.heap.objs.size,_,I.laid (t':=tk) (o:=.set _ (metN ns)) (fun b u e=>k b u (Zhy e) e) (Zhu _) S,rfl,q _ _ (I.hok.fresh (Zhu _))⟩
theorem zo6 : zdk X (.builtin "len") zw4:=by
 intro pins s σ H vs us Q I r h
 obtain ⟨a,S,n,rfl,ha,hl,q⟩:=h
 obtain ⟨u,rfl,ru⟩:=zhc r
 cases ru
 obtain ⟨o,es,ep,t,ho,hex,hd,_,_,_,hf,hn⟩:=show s.heap.SetOf (intKind X.prog X.w) a S n from I.hok a _ ha
 exact call_len_set ho hex hd hf (by omega) ⟨.int n,H,I.tok _,⟨_,by rw [hn]⟩,q⟩
end
theorem ybk {ns : List Int} : metN ns = ns.length ↔ ns.Nodup:=by
 unfold metN firstMet
 have e : (Zhm ns.length).map (fun i=>ns.getD i 0) = ns:=by
  apply Zkl
  intro i
  rw [Zho]
  by_cases h : i < ns.length
  ·rw [Zji h,Zng,Zhh,Zhj h]; rfl
  ·rw [Zis (by simp; omega),Zis (by omega)]; rfl
 rw [e]
 have key : ∀ (ns σ : List Int),σ.Nodup->((ns.foldl Zog σ).length = σ.length + ns.length ↔ (σ++ns).Nodup):=by
  intro ns
  induction ns with
  | nil=>intro σ h; simp [h]
  | cons n ns ih =>
   intro σ h
   rw [Zkw]
   have hle:=foldl_step_dedup_length_le (Zog σ n) ns
   by_cases hm : n∈σ
   ·have hs : Zog σ n = σ:=by unfold Zog; rw [if_pos]; simpa using hm
    rw [hs] at hle ⊢
    constructor
    ·intro z; simp only [Zkb] at z; omega
    ·intro z
     exact absurd rfl ((Zkv.mp z).2.2 n hm n Zhx)
   ·have hs : Zog σ n = σ++[n]:=by unfold Zog; rw [if_neg]; simpa using hm
    rw [hs]
    have:=ih (σ++[n]) (Zkv.mpr ⟨h,by simp,fun a ha b hb z=>hm (by rw [<- Zhp.mp hb,<- z]; exact ha)⟩)
    rw [Zou,Zq3,Zh1,Zl9] at this
    rw [Zkb,<- this]
    omega
 have:=key ns [] Zn2
 simpa using this
section
variable {K : Zhi} {G H₀ L : Hp} {ss : List Sl} {t : TE} {ns : List Int}
theorem zs0 (a : EvL K G H₀ L ss t (ns.map .int)) (hl : ns.length <= 1000) : Ev K G H₀ L ss (tCB zw4 (za5 (tCB (zv6 K) (za5 t tNil)) tNil)) (.int (metN ns)):=fun F H σ Q S q =>
 a F H σ _ S fun p vs F' H' e sq r=>by
  have hv:=zhw r
  subst hv
  exact ⟨p,ns,rfl,sq,hl,fun r0 S0 h0=>⟨r0,S0,_,rfl,zap,Zik (yel ns) hl,q _ F' _ (e.newO h0) Rep.int⟩⟩
end
end L2
namespace L2
open PySem PySem.W PyProof.Rows
end L2
namespace L2
open PySem PySem.W PySem.Spec PyProof.Rows
structure ITell (K : Zhi) (C : Addr) : Prop where
 ha : findIn K (.ref C) "__class__" = some (some (.builtin "object.__class__"))
 hn : specialIn K (.builtin "object.__class__") "__get__" = some (some (.builtin "getset_descriptor.__get__"))
 tk : takesIn K (.builtin "object.__class__") = some true
 hm : mroIn K C (.type "object") = some true
end L2
namespace L2
open PySem PySem.Spec PyProof.Rows
end L2
namespace L2
open PySem PySem.W PySem.Spec PyProof.Rows
end L2
namespace L2
open PySem PySem.W PySem.Spec PyProof.Rows PySem.Calls Builtin Builtin.ObjectAttr Builtin.Getset_descriptor
structure XTell (K : Zhi) (C : Addr) : Prop where
 ga : findIn K (.ref C) "__getattribute__" = some (some (.builtin "BaseException.__getattribute__"))
 gt : findIn K (.ref C) "__getattr__" = some none
 mb : mroIn K C (.type "BaseException") = some true
 fc : findIn K (.ref C) "__class__" = some (some (.builtin "object.__class__"))
 sp : specialIn K (.builtin "object.__class__") "__get__" = some (some (.builtin "getset_descriptor.__get__"))
 tk : takesIn K (.builtin "object.__class__") = some true
 mo : mroIn K C (.type "object") = some true
 dc : hasDictIn K C = true
end L2
namespace L2
open PySem PySem.W PyProof.Rows
end L2
namespace L2
open PySem PySem.W PySem.Spec PyProof.Rows
noncomputable abbrev QS:=List (Addr × List D)
section
variable {K : Zhi} {G H₀ L : Hp} {ss : List Sl} {i : Nat} {p : Addr} {kqs : KQ} {kvs : DD} {qs : QS} {E : Ends} {D0 : XK} {t : TA} {te ta td : TE} {d : D} {ds : List D} {dss : List (List D)} {pre : List D->Prop} {res : List D->List (List D)}
mutual
noncomputable def D.nm : D->Bool
 | .lst _=>false
 | .dct ks vs=>D.nms ks && D.nms vs
 | .dctT _ _=>false
 | .ins _ _ _=>false
 | .tup a=>D.nms a
 | _=>true
noncomputable def D.nms : List D->Bool
 | []=>true
 | a::x=>a.nm && D.nms x
end
noncomputable def cut (F : Hp) (as : List Addr) : Hp:=fun b=>if b∈as then none else F b
end
noncomputable def zro (r d : Addr) : HO:=.ext fun h=>h.IsItemsView r d
section
variable {X : Cx} {pins : List (Addr × Obj)} {σ : St} {H : Hp} {s : Zhq} {A' : Zi0}
noncomputable def prD (q : D × D) : D:=.tup [q.1,q.2]
end
structure DE (h : Heap) (d : Addr) (es : Array Zm4) (ep : Nat) : Prop where
 ob : ∃ o,h.get? d = some o/\o.ExactDict/\o.data = .dict es ep
theorem DE.typeIs {s : Zhq} {d : Addr} {es : Array Zm4} {ep : Nat} (x : DE s.heap d es ep) : s.TypeIs (.ref d) "dict" := let ⟨o,ho,hc,_⟩:=x.ob; ⟨o,ho,hc.1⟩
theorem DE.at {h h' : Heap} {d : Addr} {es : Array Zm4} {ep : Nat} (x : DE h d es ep) (k : ∀ o,h.get? d = some o->h'.get? d = some o) : DE h' d es ep:=let ⟨o,ho,r⟩:=x.ob; ⟨o,k o ho,r⟩
section
variable {prog : Ziq} {w : Zjv} {A : Zi0} {E : Value->Zhq->Prop} {s : Zhq} {d v it : Addr} {es : Array Zm4} {ep i : Nat}
theorem yay {Q : Value->Zhq->Prop} (hd : (d == Zkn) = false) (x : DE s.heap d es ep) (h : Q (.ref s.heap.objs.size) { s with heap:=s.heap.push { cls:=.type "dict_items", data:=.fields #[.ref d] } }) :
  Zij (Zix prog w) A (call (.builtin "dict.items") [.ref d]) Q E s:=by
 refine Zp9 Zpq x.typeIs PySem.F.entry_dict_items ?_ (PySem.F.args_dict_items_1 _)
 unfold Ziv.«dict.items» Zux
 refine Zhl (Zhl (Zr4 x.typeIs (Zhz ?_)))
 unfold Zo9
 simp only [hd,Zlb,if_false]
 exact Zhl (Zhz (Zhl (Zmg (Zhz ⟨_,rfl,h⟩))))
theorem ya5 {Q : Value->Zhq->Prop} (hv : s.heap.IsItemsView v d) (x : DE s.heap d es ep)
  (h : ∀ h1,Zon h1 s.heap.objs.size d 0 es.size ep .none .none->(∀ b o,s.heap.get? b = some o->h1.get? b = some o)->h1.objs.size = s.heap.objs.size + 1->Q (.ref s.heap.objs.size) { s with heap:=h1 }) :
  Zij (Zix prog w) A (pyIter (.ref v)) Q E s:=by
 obtain ⟨o,ho,hc,hdat⟩:=id x.ob
 obtain ⟨y,hy,_,hyd⟩:=id hv
 refine wpAny_pyIter_slot hv.typeIs Zot (Zp9 Zot hv.typeIs PySem.F.entry_dict_items_iter ?_ (PySem.F.args_dict_items_iter_1 _))
 unfold Ziv.«dict_items.__iter__» Zr3 Zr2
 refine Zhl (Zhz (Zhl (Zhl (Zqo hy hyd (i:=0) (x:=.ref d) rfl (Zhz (Zhl (Zhl (Zk4 ho hdat (Zhl (Zqp ho hdat ?_))))))))))
 have e1 : Znf "dict_itemiterator" = true:=by decide
 rw [e1]
 refine Zmg (Zhz ⟨_,rfl, "dict_itemiterator", _,⟨_,Zh6 _ rfl,rfl⟩,Zlp.lookup,?_⟩) (by simp [sizeOk,Zr1,Zh2])
 refine h _ ?_ (fun b u e=>Zhr _ e) (Zn3 ..)
 exact Zh6 _ rfl
theorem zmb : Znf "dict_itemiterator" = true:=by decide
theorem wno {α : Type} {c : Prop} [Decidable c] {m1 m2 : Sem α} {Q : α->Zhq->Prop} (hc : ¬ c) (h : Zij (Zix prog w) A m2 Q E s) : Zij (Zix prog w) A (if c then m1 else m2) Q E s:=by rw [if_neg hc]; exact h
theorem yai {Q : Value->Zhq->Prop} {ok ov key val : Value} {n : Nat} (st : Zon s.heap it d i n ep ok ov)
  (h : ∀ h1,Zrv h1 it d i n ep key val s.heap.objs.size->h1.get? s.heap.objs.size = some { cls:=.type "tuple", data:=.seq #[key,val] }->h1.objs.size = s.heap.objs.size + 1 ->
   (∀ b o,b≠it->s.heap.get? b = some o->h1.get? b = some o)->Q (.ref s.heap.objs.size) { s with heap:=h1 }) :
  Zij (Zix prog w) A (Zm6 (.ref it) 6 key val) Q E s:=by
 obtain ⟨hp,g,dr,tk,os⟩:=s
 have lt : it < hp.objs.size:=Zhy st
 unfold Zm6 Zr0
 refine Zhl (wpAny_newTuple ?_)
 have a1 : Zon (hp.push { cls:=.type "tuple", data:=.seq #[key,val] }) it d i n ep ok ov:=Zhr _ st
 have t1 : (hp.push { cls:=.type "tuple", data:=.seq #[key,val] }).get? hp.objs.size = some { cls:=.type "tuple", data:=.seq #[key,val] }:=Zh6 _ rfl
 have k1 : ∀ b o,b≠it->hp.get? b = some o->(hp.push { cls:=.type "tuple", data:=.seq #[key,val] }).get? b = some o:=fun b o _ e=>Zhr _ e
 have z1 : (hp.push { cls:=.type "tuple", data:=.seq #[key,val] }).objs.size = hp.objs.size + 1:=Zn3 ..
 show Zij _ _ _ _ _ ⟨hp.push { cls:=.type "tuple", data:=.seq #[key,val] },g,dr,tk,os⟩
 revert a1 t1 k1 z1
 generalize hp.push { cls:=.type "tuple", data:=.seq #[key,val] } = q1
 intro a1 t1 k1 z1
 refine Zhl (Zhl (Zqo a1 rfl (i:=0) (x:=.none) rfl (Zhz ?_)))
 rw [if_pos rfl]
 refine Zhl (Zqo a1 rfl (i:=6) (x:=ok) rfl (Zhl (Zqo a1 rfl (i:=7) (x:=ov) rfl ?_)))
 refine Zhl (Zl4 a1 (by simp) fun q2 a2 b2=>Zhl (Zl4 a2 (by simp) fun q3 a3 b3=>Zhl (Zl4 a3 (by simp) fun q4 a4 b4=>Zhl (Zl4 a4 (by simp) fun q5 a5 b5=>Zhl (Zk9 (Zhz ?_))))))
 have kk : ∀ b o,b≠it->q1.get? b = some o->q5.get? b = some o:=fun b o hb e=>b5.extBut b o hb (b4.extBut b o hb (b3.extBut b o hb (b2.extBut b o hb e)))
 exact h q5 a5 (kk _ _ (Zmu lt) t1) (by rw [b5.1,b4.1,b3.1,b2.1]; exact z1) fun b o hb e=>kk b o hb (k1 b o hb e)
theorem zwc {Q : Option Value->Zhq->Prop} {ok ov : Value} (st : Zon s.heap it d i es.size ep ok ov) (x : DE s.heap d es ep)
  (hyes : ∀ e,es[i]? = some e -> ∀ h1,Zrv h1 it d (i + 1) es.size ep e.key e.val s.heap.objs.size->h1.get? s.heap.objs.size = some { cls:=.type "tuple", data:=.seq #[e.key,e.val] }->h1.objs.size = s.heap.objs.size + 1 ->
   (∀ b o,b≠it->s.heap.get? b = some o->h1.get? b = some o)->Q (some (.ref s.heap.objs.size)) { s with heap:=h1 })
  (hh : es[i]? = none->A.handled = none) (hno : es[i]? = none -> ∀ h1,Heap.ExtBut it s.heap h1->Q none { s with heap:=h1 }) :
  Zij (Zix prog w) A (Zpc (.ref it)) Q E s:=by
 obtain ⟨hp,g,dr,tk,os⟩:=s
 obtain ⟨o,ho,hc,hdat⟩:=id x.ob
 have ty : Zse ⟨hp,g,dr,tk,os⟩ (.ref it) "dict_itemiterator" := ⟨_,st,rfl⟩
 unfold Zpc
 refine Zhl (wpAny_attempt (Zrj (name:=Zlf "__next__") ty Zlp (Zp9 Zlp ty PySem.F.entry_dict_itemiterator_next ?_ (PySem.F.args_dict_itemiterator_next_1 _))))
 refine Zhl (Zhz (Zhl (Zhl (Zhl (Zmj ty (Zhz (Zhl (wpAny_fieldsOf st rfl ?_))))))))
 rw [zmb]
 refine wno (show ¬ (Zjo d == Zp0) = true from Zih) (Zhl (Zhz (Zhl (Zk4 ho hdat (wno (by simp) (Zhl (Zhz (Zhl (Zqp ho hdat (wno (by simp) (Zhz ?_)))))))))))
 have ni : ¬ ((i : Int) < 0):=by omega
 cases he : es[i]? with
 | some e =>
  simp only [if_neg ni,Zl6,he]
  refine Zhl (Zhl (Zmj ty (Zhz (Zhl (Znz ty ?_)))))
  refine Zhl (Zl4 st (by rw [zmb]; simp) fun q1 a1 b1=>?_)
  have a1 : Zon q1 it d (i + 1) es.size ep ok ov:=a1
  have ty1 : Zse ⟨q1,g,dr,tk,os⟩ (.ref it) "dict_itemiterator" := ⟨_,a1,rfl⟩
  refine Zhl (Zla (Zhl (Znz ty1 (Zhl (Znz ty1 ?_)))))
  have z1 : q1.objs.size = hp.objs.size:=b1.1
  refine yai a1 fun q2 o2 t2 z2 k2=>Zhz ⟨_,rfl,Zhz ?_⟩
  have o2 : Zrv q2 it d (i + 1) es.size ep e.key e.val q1.objs.size:=o2
  rw [show Shared.heap ⟨q1,g,dr,tk,os⟩ = q1 from rfl,z1] at *
  exact hyes e he q2 o2 t2 z2 fun b u hb e=>k2 b u hb (b1.extBut b u hb e)
 | none =>
  simp only [if_neg ni,Zl6,he]
  refine Zhl (Zhl (Zmj ty (Zhz ?_)))
  refine Zhl (wpAny_setField st rfl (by rw [zmb]; simp) (Zhl ?_))
  simp only [newExc,newTuple]
  refine Zhl (Zmg (Zhl (m:=Zvb _ _) (Zqn (a:=Zp0) (by first | rfl | (simp only [Zvb]; rfl)) (Zmg ?_ (by size_fits)))) (by size_fits))
  simp only [raiseNew]
  refine Zhl (wpAny_handled ?_)
  rw [show A.in1.handled = none from hh he]
  refine Zhl (Zhz (wpAny_throw ?_))
  refine Zhl (Zp8 (b:=true) (T:="StopIteration") ⟨_,Zh6 _ rfl,rfl⟩ isSubtype_stop (Zhz ?_))
  exact (hno he _ (((Zj1 ..).extBut.push _).push _))
end
noncomputable def ItM (d : Addr) (o : Obj) (kvs : List (List Key × V)) : It :=
  ⟨fun i H=>i < kvs.length/\H d = some (.frz o (.dT kvs)),
   fun i H x H'=>∃ T0 b k v,x = .ref T0/\kvs[i]? = some (k,v)/\H T0 = none/\H b = some (.tup (k.map kV))/\H' = upd H T0 (.tup [.ref b,v]),
   fun i H=>kvs.length <= i/\H d = some (.frz o (.dT kvs))⟩
theorem Paired.get {α β : Type} {R : α->β->Prop} : ∀ {l₁ : List α} {l₂ : List β},Zlj R l₁ l₂ -> ∀ (i : Nat) (a : α),l₁[i]? = some a -> ∃ b,l₂[i]? = some b/\R a b
 | _,_,.nil,i,a,h=>by simp at h
 | _,_,.cons r t,0,a,h=>by simp at h; subst h; exact ⟨_,rfl,r⟩
 | _,_,.cons r t,i + 1,a,h=>by simpa using Paired.get t i a (by simpa using h)
theorem Paired.len {α β : Type} {R : α->β->Prop} : ∀ {l₁ : List α} {l₂ : List β},Zlj R l₁ l₂->l₁.length = l₂.length
 | _,_,.nil=>rfl
 | _,_,.cons r t=>by simp [Paired.len t]
section
variable {X : Cx} {pins : List (Addr × Obj)} {σ : St} {H : Hp} {s : Zhq} {d it : Addr} {o : Obj} {kvs : List (List Key × V)} {es : Array Zm4} {ep i : Nat}
theorem Inv.deM (I : Inv X pins σ H s) (e : H d = some (.frz o (.dT kvs))) (ho : o.data = .dict es ep) : DE s.heap d es ep/\es.size = kvs.length /\
  ∀ (i : Nat) k v,kvs[i]? = some (k,v) -> ∃ b u en,es[i]? = some en/\en.key = .ref b/\en.val = u/\H b = some (.tup (k.map kV))/\RelV v u:=by
 obtain ⟨h0,z,y,xs,r,o',es',ep',h1,h2,h3,h4,h5⟩:=I.hok d _ e
 rw [h0] at h1
 cases h1
 rw [ho] at h3
 cases h3
 have hl:=Paired.len r
 have hz : es.size = xs.length:=by rw [<- Zjq,h4,Zhk]
 refine ⟨⟨o,h0,h2,ho⟩,by omega,fun i k v hk=>?_⟩
 obtain ⟨⟨k',b,u⟩,hb,e1,e2,e3⟩:=Paired.get r i _ hk
 have e1 : k = k':=e1
 subst e1
 have : es.toList[i]? = some (Zti (Zlo (zbd X.prog X.w)) (k,b,u)):=by rw [h4,Zho,hb]; rfl
 exact ⟨b,u,_,by simpa using this,rfl,rfl,e2,e3⟩
theorem zqk {P : Ziq} {w : Zjv} {K : Zhi} {elts : List Expr} {kk : Nat} {tp : Pos} (d it : Addr) (o : Obj) (kvs : List (List Key × V)) (es : Array Zm4) (ep : Nat) (ho : o.data = .dict es ep) (hz : es.size = kvs.length) :
  Turn P w K (.Tuple elts kk tp) (ItM d o kvs) [it] it (fun i h=>∃ ok ov,Zon h it d i es.size ep ok ov) where
 mem:=by simp
 obj:=fun i h st b hb=>by
  obtain ⟨ok,ov,st⟩:=st
  rw [Zhp.mp hb]
  exact ⟨_,st,fun v z=>by cases z⟩
 keep:=fun i h h' st k=>let ⟨ok,ov,e⟩:=st; ⟨ok,ov,k it (by simp) _ e⟩
 item:=by
  intro X hP hw hK hc i pins s σ H E I hf st hg
  subst hP hw hK
  obtain ⟨hi,e⟩:=hg
  obtain ⟨ok,ov,st⟩:=st
  obtain ⟨de,_,at'⟩:=I.deM e ho
  obtain ⟨k,v,hkv⟩ : ∃ k v,kvs[i]? = some (k,v):=⟨kvs[i].1,kvs[i].2,by rw [Zhj hi]⟩
  obtain ⟨b,u,en,h1,h2,h3,h4,h5⟩:=at' i k v hkv
  have hne:=fun c (hc : c∈[it])=>(show c = it by simpa using hc)
  refine zwc st de (fun en' he h' out ht hsz kk=>?_) (fun z=>by rw [h1] at z; cases z) fun z=>by rw [h1] at z; cases z
  rw [h1] at he
  cases he
  have hT0 : H s.heap.objs.size = none:=I.hok.fresh (Zhu _)
  rw [h2,h3] at ht
  have I1 : Inv X pins σ (upd H s.heap.objs.size (.tup [.ref b,v])) { s with heap:=h' }:=I.turnsT (t':=s.toks) (wr:=[it]) hf (fun c oc hc e=>kk c oc (fun z=>hc (by simp [z])) e) (Zhu _) ⟨_,ht,rfl,_,rfl⟩ (.cons rfl (.cons h5 .nil)) (by rw [Zh2]; simp)
  have hitlt : it≠s.heap.objs.size:=Zic (Zhy st)
  refine ⟨_,rfl,wpAny_letOwnedTupleGo_items out fun h2' st2 sb=>?_⟩
  have hf1 : ∀ c∈[it],FpOk X pins (upd H s.heap.objs.size (.tup [.ref b,v])) c:=fun c hc=>⟨by rw [hne c hc,zav hitlt,<- hne c hc]; exact (hf c hc).1,(hf c hc).2⟩
  exact ⟨.ref s.heap.objs.size,_,I1.turns (t':=s.toks) (wr:=[it]) hf1 (fun c oc hc e=>sb.extBut c oc (fun z=>hc (by simp [z])) e),rfl,⟨_,b,k,v,rfl,hkv,hT0,h4,rfl⟩,⟨_,_,st2⟩,fun c hc=>by rw [hne c hc,zav hitlt,<- hne c hc]; exact (hf c hc).1⟩
 done:=by
  intro X hP hw hK hc i pins s σ H E I hf st hg
  subst hP hw hK
  obtain ⟨hi,e⟩:=hg
  obtain ⟨ok,ov,st⟩:=st
  obtain ⟨de,_,_⟩:=I.deM e ho
  have hno : es[i]? = none:=Array.getElem?_eq_none (by omega)
  exact zwc st de (fun en he=>by rw [hno] at he; cases he) (fun _=>I.ok.hd hc) fun _ h1 eb=>⟨rfl,I.turns (t':=s.toks) (wr:=[it]) hf fun c oc hc e=>eb c oc (fun z=>hc (by simp [z])) e⟩
 self:=fun A i s Q E st h=>by
  obtain ⟨ok,ov,st⟩:=st
  exact PySem.W.kcp_self st h
noncomputable def zux : V->List V->Hp->VK->Prop:=fun x vs H Q=>∃ d o kvs,x = .ref d/\vs = []/\H d = some (.frz o (.dT kvs)) /\ ∀ r,H r = none->Q (.ref r) (upd H r (zro r d))
theorem zv7 : MtR X "dict.items" zux:=by
 intro pins s σ H x xs v us Q I rx rs h
 obtain ⟨d,o,kvs,rfl,rfl,e,q⟩:=h
 obtain rfl : v = Zjo d:=rx
 cases rs
 obtain ⟨h0,z,y,xs,r,o',es',ep',h1,h2,h3,h4,h5⟩:=I.hok d _ e
 refine yay (es:=es') (ep:=ep') y ⟨_,h1,h2,h3⟩ ?_
 have I2 : Inv X pins σ (upd H s.heap.objs.size (zro s.heap.objs.size d)) { s with heap:=s.heap.push { cls:=.type "dict_items", data:=.fields #[.ref d] } } :=
  I.laid (t':=s.toks) (fun _ _ q=>Zhr _ q) (Zhu _) ⟨⟨_,Zh6 _ rfl,rfl,rfl⟩,⟨_,Zh6 _ rfl⟩,fun h1 h2 ⟨o,ho,r⟩ k=>⟨o,k _ ho,r⟩⟩
 exact ⟨.ref s.heap.objs.size,_,I2,rfl,q _ I.fresh⟩
noncomputable def tItM (td : TE) : TE:=fun σ H Q=>td σ H fun x H1=>zux x [] H1 Q
theorem zlm {o : Expr} {apos cpos : Pos} {td : TE} (ho : PE X o td) (hbase : Znu o "items" X.env (eval o X.env) = eval o X.env:=by rfl) (hline : (apos.endLine == cpos.line) = true:=by rfl) : PE X (.Call (.Attribute o "items" apos) [] [] cpos) (tItM td):=by
 intro pins s σ H Q I h
 refine Zrk hbase hline (thn (ho pins s σ H _ I h) fun v s1 hz9=>?_)
 obtain ⟨x,H1,I1,r1,q1⟩:=hz9
 obtain ⟨d,o,kvs,ex,_,hd,_⟩:=id q1
 subst ex
 obtain rfl : v = Zjo d:=r1
 obtain ⟨h1,h2,_⟩:=zwb I1 (.inr ⟨kvs,.inr ⟨o,hd⟩⟩)
 exact ⟨"dict", "dict.items", Zm3,Zpq,PySem.F.type_dict_items,h1,h2,Zk8 rfl (Zq7 (zv7 pins s1 σ H1 (.ref d) [] _ [] Q I1 rfl .nil q1))⟩
noncomputable def iItM (te : TE) : TI:=fun σ H R=>te σ H fun v H1=>∃ r d o kvs,v = .ref r/\H1 r = some (zro r d)/\H1 d = some (.frz o (.dT kvs))/\R (ItM d o kvs) H1
theorem zk8 {e : Expr} {te : TE} {elts : List Expr} {kk : Nat} {tp : Pos} (hE : PE X e te) : PI X (.Tuple elts kk tp) e (iItM te):=by
 intro pins s σ H R I h
 refine thn (hE pins s σ H _ I h) fun u s1 hz9=>?_
 obtain ⟨x,H1,I1,r1,q1⟩:=hz9
 obtain ⟨r,d,o,kvs,rfl,hr,hd,q⟩:=q1
 obtain rfl : u = Zjo r:=r1
 obtain ⟨hv,_,_⟩:=I1.hok r _ hr
 obtain ⟨h0,z,y,xs,rl,o',es,ep,h1,h2,h3,h4,h5⟩:=I1.hok d _ hd
 rw [h0] at h1
 cases h1
 obtain ⟨de,hz,_⟩:=I1.deM hd h3
 refine ya5 hv de fun g1 st k hsz=>?_
 exact ⟨s1.heap.objs.size,[s1.heap.objs.size],_,_,H1,rfl,I1.kept (t':=s1.toks) k,zqk d _ o kvs es ep h3 hz,⟨_,_,st⟩,fun b hb=>by rw [Zhp.mp hb]; exact I1.fpOk (Zhu _) (I1.hok.fresh (Zhu _)),q⟩
noncomputable def sFrz (t : TS) : TS:=fun D σ H=>∃ a kvs,H a = some (.dT kvs) /\ ∀ o,t D σ (upd H a (.frz o (.dT kvs)))
theorem Inv.frzT (I : Inv X pins σ H s) (e : H d = some (.dT kvs)) : ∃ o,Inv X pins σ (upd H d (.frz o (.dT kvs))) s:=by
 have ok:=I.hok d _ e
 obtain ⟨z,y,xs,r,o,es,ep,h1,h2⟩:=id ok
 have mu : Mut (H d):=by rw [e]; trivial
 refine ⟨o,I.write (t':=s.toks) (h':=s.heap) mu (.inl rfl) (fun _ _ _ q=>q) ⟨o,h1⟩ ⟨h1,?_⟩⟩
 have nt : ∀ b ys,H b = some (.tup ys)->b≠d:=fun b ys q z=>by rw [z,e] at q; cases q
 exact ⟨z,y,xs,Paired.mapP r fun p q w=>⟨w.1,by rw [zav (nt _ _ w.2.1)]; exact w.2.1,w.2.2⟩,o,es,ep,h1,h2⟩
theorem zj9 {st : Stmt} {t : TS} (h : PS X st t) : PS X st (sFrz t):=fun pins s σ H D I ⟨a,kvs,e,q⟩=>by
 obtain ⟨o,I'⟩:=I.frzT e
 exact h pins s σ _ D I' (q o)
end
theorem zsi : ∀ {a b : List D},a.all D.isK = true->b.all D.isK = true->a.map D.key = b.map D.key->a = b
 | [],[],_,_,_=>rfl
 | [],_::_,_,_,h=>by cases h
 | _::_,[],_,_,h=>by cases h
 | x::a,y::b,ha,hb,h=>by
  rw [Zki,Zib] at ha hb
  rw [Zh5,Zh5] at h
  injection h with h1 h2
  rw [zle ha.1 hb.1 h1,zsi ha.2 hb.2 h2]
theorem znh {a b : D} (ha : a.isT = true) (hb : b.isT = true) (h : a.tkey = b.tkey) : a = b:=by
 cases a <;> simp only [D.isT] at ha <;> try (cases ha; done)
 cases b <;> simp only [D.isT] at hb <;> try (cases hb; done)
 rw [zsi ha hb h]
theorem zn6 {K : Zhi} {H : Hp} : ∀ {l : List D} {vs : List V},l.all D.isK = true->Reps K H l vs->vs = (l.map D.key).map kV
 | [],vs,_,r=>by rw [Reps] at r; subst r; rfl
 | d::l,vs,h,r=>by
  rw [Zki,Zib] at h
  rw [Reps] at r
  obtain ⟨v,r',rfl,rv,r⟩:=r
  rw [Zh5,Zh5,zj7 h.1 rv,zn6 h.2 r]
inductive Dkt (K : Zhi) (F : Hp) : DD->List (List Key × V)->Prop
 | nil : Dkt K F [] []
 | cons {k d : D} {v : V} {kvs : DD} {xs : List (List Key × V)} (hk : k.isT = true) (r : Rep K F d v) (t : Dkt K F kvs xs) : Dkt K F ((k,d)::kvs) ((k.tkey,v)::xs)
section
variable {K : Zhi} {F F' : Hp} {kvs : DD} {xs : List (List Key × V)}
theorem Dkt.mono (h : Dkt K F kvs xs) (s : Same F F') : Dkt K F' kvs xs:=by
 induction h with
 | nil=>exact .nil
 | cons hk r t ih=>exact .cons hk (r.mono s) ih
theorem Dkt.length (h : Dkt K F kvs xs) : kvs.length = xs.length:=by
 induction h with
 | nil=>rfl
 | cons hk r t ih=>simp [ih]
theorem Dkt.val (h : Dkt K F kvs xs) {k : D} (hk : k.isT = true) : (valD kvs k = none/\valV xs k.tkey = none) \/ ∃ d v,valD kvs k = some d/\valV xs k.tkey = some v/\Rep K F d v:=by
 induction h with
 | nil=>exact .inl ⟨rfl,rfl⟩
 | @cons k' d v kvs xs hk' r t ih =>
  by_cases e : k' = k
  ·subst e
   exact .inr ⟨d,v,by simp [valD],by simp [valV],r⟩
  ·have e2 : k'.tkey≠k.tkey:=fun z=>e (znh hk' hk z)
   have h1 : valD ((k',d)::kvs) k = valD kvs k:=by simp [valD,Zi2,e]
   have h2 : valV ((k'.tkey,v)::xs) k.tkey = valV xs k.tkey:=by simp [valV,Zi2,e2]
   rw [h1,h2]; exact ih
theorem Dkt.any (h : Dkt K F kvs xs) {k : D} (hk : k.isT = true) : (kvs.any fun kv=>decide (kv.1 = k)) = xs.any fun kv=>decide (kv.1 = k.tkey):=by
 induction h with
 | nil=>rfl
 | @cons k' d v kvs xs hk' r t ih =>
  rw [Zk2,Zk2,ih]
  congr 1
  by_cases e : k' = k
  ·subst e; simp
  ·have e2 : k'.tkey≠k.tkey:=fun z=>e (znh hk' hk z)
   rw [decide_eq_false e,decide_eq_false e2]
theorem Dkt.snoc (h : Dkt K F kvs xs) {k d : D} {v : V} (hk : k.isT = true) (r : Rep K F d v) : Dkt K F (kvs++[(k,d)]) (xs++[(k.tkey,v)]):=by
 induction h with
 | nil=>exact .cons hk r .nil
 | cons hk' r' t ih=>exact .cons hk' r' ih
theorem Dkt.put (h : Dkt K F kvs xs) {k d : D} {v : V} (hk : k.isT = true) (r : Rep K F d v) : Dkt K F (putD kvs k d) (putK xs k.tkey v):=by
 unfold putD putK
 rw [h.any hk]
 by_cases hc : (xs.any fun kv=>decide (kv.1 = k.tkey)) = true
 ·rw [if_pos hc,if_pos hc]
  clear hc
  induction h with
  | nil=>exact .nil
  | @cons k' d' v' kvs xs hk' r' t ih =>
   rw [Zh5,Zh5]
   by_cases e : k' = k
   ·subst e; rw [if_pos rfl,if_pos rfl]; exact .cons hk' r ih
   ·have e2 : k'.tkey≠k.tkey:=fun z=>e (znh hk' hk z)
    rw [if_neg e,if_neg e2]; exact .cons hk' r' ih
 ·rw [if_neg hc,if_neg hc]; exact h.snoc hk r
end
noncomputable def dWT (K : Zhi) (p : Addr) (kvs : DD) : Hp->Hp->Prop:=fun F H=>∃ xs,H p = some (.dT xs)/\Dkt K F kvs xs
noncomputable def dslT (K : Zhi) (p : Addr) (kvs : DD) : Sl:=.g (.ref p) [p] (dWT K p kvs)
theorem zm1 (K : Zhi) (p : Addr) (kvs : DD) : Stab [p] (dWT K p kvs):=fun F1 H1 F2 H2 sf hh ⟨xs,h1,h2⟩=>⟨xs,by rw [hh p (by simp)]; exact h1,h2.mono sf⟩
section
variable {K : Zhi} {G H₀ L : Hp} {ss : List Sl} {i j : Nat} {p b : Addr} {kvs : DD} {E : Ends} {ty td tv tx : TE} {t : TA} {k d z : D} {ds : List D}
theorem Sat.getMT {F H : Hp} {σ : St} (S : Sat K G H₀ L F H σ ss) (hs : ss[i]? = some (dslT K p kvs)) : σ[i]? = some (some (.ref p))/\H₀ p = none/\F p = none /\ ∃ xs,H p = some (.dT xs)/\Dkt K F kvs xs:=by
 obtain ⟨v,e,ew,ha,hw,st⟩:=S.get hs (by intro z; cases z)
 cases ew
 obtain ⟨h0,fp,_⟩:=ha p (by simp)
 exact ⟨e,h0,fp,hw⟩
theorem Sat.writeMT {F H : Hp} {σ : St} {kvs' : DD} {xs : List (List Key × V)} (S : Sat K G H₀ L F H σ ss) (hs : ss[i]? = some (dslT K p kvs)) (r : Dkt K F kvs' xs) : Sat K G H₀ L F (upd H p (.dT xs)) σ (ss.set i (dslT K p kvs')):=by
 obtain ⟨e,h0,fp,ys,hp,_⟩:=S.getMT hs
 have hget : σ.getD i none = some (.ref p):=by rw [Zhh,e]; rfl
 refine S.put (S.ext.write fp h0) S.fl rfl (fun _ _=>rfl) (fun _=>?_) (by simp [dslT,Sl.ads]) (fun j s' hj h q hq=>?_) fun j s' hj h=>(S.ok j s' h).updNe (S.ne i j _ s' (Zi4 hj) hs h p (by simp [dslT,Sl.ads]))
 ·rw [hget]
  exact ⟨rfl,fun a ha=>by rw [Zhp.mp ha]; exact ⟨h0,fp,_,zap,trivial⟩,⟨xs,zap,r⟩,zm1 K p kvs'⟩
 ·have : q = p:=by simpa [dslT,Sl.ads] using hq
  subst this
  exact S.ne i j _ s' (Zi4 hj) hs h q (by simp [dslT,Sl.ads])
theorem zg5 (h : ∀ p,Nx K G H₀ L E.nx (ss.set i (dslT K p []))) : Go K G H₀ L E ss (tAsg zzh (zhv i)):=fun F H σ S p hp=>by
 have e:=(Ext.refl S.ext.fh).newO (o:=.dT []) hp
 have S':=S.ext2 e
 refine h p F _ _ (S'.put S'.ext S'.fl (by simp) (fun j hj=>zd2 (Zi4 hj)) (fun hi=>?_) (by simp [dslT,Sl.ads]) (fun j s' hj hs q hq=>?_) fun j s' hj hs=>S'.ok j s' hs)
 ·rw [zcv (by rw [S.len]; exact hi)]
  exact ⟨rfl,fun a ha=>by rw [Zhp.mp ha]; exact ⟨S.ext.hh.free hp,S.ext.fh.free hp,_,zap,trivial⟩,⟨[],zap,.nil⟩,zm1 K p []⟩
 ·have : q = p:=by simpa [dslT,Sl.ads] using hq
  subst this
  exact fun hin=>(S.ok j s' hs).live hin hp
end
end L2
namespace L2
open PySem PySem.Spec PyProof.Rows
theorem yeb {X : Cx} {pins : List (Addr × Obj)} {σ : St} {H : Hp} {s : Zhq} {a : Addr} {kvs : List (List Key × V)} {A : Zi0} {E : Value->Zhq->Prop} {Q : Value->Zhq->Prop} (I : Inv X pins σ H s) (e : Rd H a (.dT kvs)) (h : ∀ t s',Inv X pins σ H s'->Q (.int kvs.length t) s') : Zij (Zix X.prog X.w) A (call (.builtin "len") [.ref a]) Q E s:=by
 obtain ⟨z,hd,xs,rel,dd⟩:=zn2 I.hok e
 have hT:=dd.typeIs
 have hl : xs.length = kvs.length:=rel.length.symm
 refine Calls.call_function_entry kind_len plain_len entry_len (args_len1 _) ?_
 unfold Ziv.«len»
 refine Zhl (m:=oneArg "len" _) (Zhz ?_)
 refine Zhl (m:=callSpecial? (.ref a) (Zlf "__len__")) (Zrj (name:=Zlf "__len__") hT Zqc
  (Zl0 (S:=fun _ R s=>∃ o es ep,s.heap.get? a = some o/\o.data = .dict es ep/\es.size = kvs.length/\R (.ok (.ret (.int kvs.length s.toks))) { s with toks:=s.toks + 1 }) Zqc hT PySem.F.entry_dict_len (PySem.F.args_dict_len_1 _) (.of_wp fun A R s ⟨o,es,ep,ho,hdat,hsz,h⟩=>?_) ?_))
 ·show Zij _ _ (dictSize a >>= _) _ _ s
  unfold dictSize
  refine Zhl (Zhl (Zk4 ho hdat (Zhz ?_)))
  show Zij _ _ (Zuw a >>= _) _ _ s
  refine Zhl (wpAny_pendingCount_other hd ?_)
  refine wpAny_ret_mkInt ?_
  rw [Nat.add_zero,hsz]; exact h
 ·obtain ⟨o,es,ep,ho,hc,hdat,he,hk,hn⟩:=id dd
  refine ⟨o,es,ep,ho,hdat,by rw [<- Zjq,he,Zhk,hl],?_⟩
  show Zij _ _ _ _ _ { s with toks:=s.toks + 1 }
  refine Zhl (Zla (Zhz ?_))
  refine Zhl (Zk9 ?_)
  show Zij _ _ (if ((kvs.length : Nat) : Int) < 0 then _ else _) _ _ _
  rw [if_neg (by omega)]
  show Zij _ _ (if ((kvs.length : Nat) : Int) ≥ 2 ^ 63 then _ else _) _ _ _
  rw [if_neg (by rw [Zh2] at z; omega)]
  exact Zhl (wpAny_mkInt (Zhz ⟨_,rfl,h _ _ (I.tok _)⟩))
noncomputable def zz6 : List V->Hp->VK->Prop:=fun xs H Q=>∃ a n,xs = [V.ref a]/\((∃ kvs,H a = some (.dK kvs)/\n = kvs.length) \/ ∃ kvs,H a = some (.dT kvs)/\n = kvs.length)/\Q (.int (n : Nat)) H
theorem zva {X : Cx} : zdk X (.builtin "len") zz6:=by
 intro pins s σ H xs us Q I r h
 obtain ⟨a,n,rfl,ha,q⟩:=h
 obtain ⟨u,rfl,ru⟩:=zhc r
 cases ru
 rcases ha with ⟨kvs,ha,rfl⟩ | ⟨kvs,ha,rfl⟩
 ·exact ye3 I (.inl ha) fun t s' I'=>⟨.int kvs.length,H,I',⟨t,rfl⟩,q⟩
 ·exact yeb I (.inl ha) fun t s' I'=>⟨.int kvs.length,H,I',⟨t,rfl⟩,q⟩
section
variable {K : Zhi} {G H₀ L : Hp} {ss : List Sl} {i j : Nat} {p b : Addr} {kvs : DD} {E : Ends} {ty td tv tx : TE} {t : TA} {k d z : D} {ds : List D}
theorem zjn {F H : Hp} {v : V} (r : Rep K F (.tup ds) v) (hk : ds.all D.isK = true) (hi : zf8 ds = true) (fh : Same F H) : ∃ b,v = .ref b/\H b = some (.tup ((D.tup ds).tkey.map kV)):=by
 obtain ⟨b,vs,rfl,hb,rs⟩:=r.trk hi
 exact ⟨b,rfl,by rw [fh _ _ hb,zn6 hk rs]; rfl⟩
theorem zra (hs : ss[i]? = some (dslT K p kvs)) (b : Ev K G H₀ L ss ty (.tup ds)) (hk : ds.all D.isK = true) (hi : zf8 ds = true) (hv : valD kvs (.tup ds) = some d) : Ev K G H₀ L ss (zsp (tVar i) ty) d:=fun F H σ Q S q=>by
 obtain ⟨e,_⟩:=S.getMT hs
 refine ⟨_,e,b F H σ _ S fun v F1 H1 e1 r1=>?_⟩
 have S1:=S.ext2 e1
 obtain ⟨_,_,_,xs,hp,dk⟩:=S1.getMT hs
 obtain ⟨b',rfl,hb⟩:=zjn r1 hk hi S1.ext.fh
 rcases dk.val (k:=.tup ds) hk with ⟨h1,_⟩ | ⟨d',w,h1,h2,rw'⟩
 ·rw [h1] at hv; cases hv
 ·rw [h1] at hv; cases hv
  refine ⟨p,w,rfl,?_,q w F1 H1 e1 rw'⟩
  rw [<- h2]
  exact DGet.t hp hb
theorem ztm (hs : ss[i]? = some (dslT K p kvs)) (b : Ev K G H₀ L ss ty (.tup ds)) (hk : ds.all D.isK = true) (hi : zf8 ds = true) : Ev K G H₀ L ss (zl5 ty (tVar i)) (.bl (!(valD kvs (.tup ds)).isSome)):=fun F H σ Q S q =>
 b F H σ _ S fun v F1 H1 e1 r1=>by
  have S1:=S.ext2 e1
  obtain ⟨e,_,_,xs,hp,dk⟩:=S1.getMT hs
  obtain ⟨b',rfl,hb⟩:=zjn r1 hk hi S1.ext.fh
  refine ⟨_,e,p,valV xs (D.tup ds).tkey,rfl,DGet.t hp hb,q _ F1 H1 e1 ?_⟩
  have : (valV xs (D.tup ds).tkey).isSome = (valD kvs (.tup ds)).isSome:=by
   rcases dk.val (k:=.tup ds) hk with ⟨h1,h2⟩ | ⟨d',w,h1,h2,_⟩ <;> rw [h1,h2] <;> rfl
  rw [this]; exact Rep.bl
theorem zd8 (hs : ss[i]? = some (dslT K p kvs)) (a : Ev K G H₀ L ss tv d) (b : Ev K G H₀ L ss ty (.tup ds)) (hk : ds.all D.isK = true) (hi : zf8 ds = true) (hz : kvs.length < sizeLine) (h : Nx K G H₀ L E.nx (ss.set i (dslT K p (putD kvs (.tup ds) d)))) : Go K G H₀ L E ss (zz8 (tVar i) ty tv):=fun F H σ S =>
 a F H σ _ S fun v F1 H1 e1 r1=>by
  have S1:=S.ext2 e1
  obtain ⟨e,_⟩:=S1.getMT hs
  refine ⟨_,e,b F1 H1 σ _ S1 fun y F2 H2 e2 r2=>?_⟩
  have S2:=S1.ext2 e2
  obtain ⟨_,_,_,xs,hp,dk⟩:=S2.getMT hs
  obtain ⟨b',rfl,hb⟩:=zjn r2 hk hi S2.ext.fh
  exact ⟨p,_,rfl,DPut.t (k:=(D.tup ds).tkey) (v:=v) hp hb (by rw [<- dk.length]; exact hz),h F2 _ σ (S2.writeMT hs (dk.put hk (r1.mono e2.gf)))⟩
theorem zz4 (hs : ss[i]? = some (dslT K p kvs)) : Ev K G H₀ L ss (tCB zz6 (za5 (tVar i) tNil)) (.int kvs.length):=fun F H σ Q S q=>by
 obtain ⟨e,_,_,xs,hp,dk⟩:=S.getMT hs
 exact ⟨_,e,p,xs.length,rfl,.inr ⟨xs,hp,rfl⟩,q _ F H (Ext.refl S.ext.fh) (by rw [dk.length]; exact Rep.int)⟩
end
end L2
namespace L2
open PySem PySem.W PySem.Spec PyProof.Rows
noncomputable def D.dicT (kvs : DD) : D:=.dctT (kvs.map (·.1)) (kvs.map (·.2))
theorem zzd {K : Zhi} {F : Hp} : ∀ {kvs : DD} {kv : List (List Key × V)},(kvs.map (·.1)).all D.isT = true->(kv.map fun q=>q.1) = (kvs.map (·.1)).map D.tkey->Reps K F (kvs.map (·.2)) (kv.map fun q=>q.2)->Dkt K F kvs kv
 | [],[],_,_,_=>.nil
 | [],_::_,_,h,_=>by simp at h
 | _::_,[],_,h,_=>by simp at h
 | (k,d)::kvs,(q,v)::kv,ha,h,r=>by
  rw [Zh5,Zki,Zib] at ha
  simp only [Zh5,Zoq] at h
  rw [Zh5,Zh5,Reps] at r
  obtain ⟨x,r',e,rv,rr⟩:=r
  cases e
  obtain ⟨h1,h2⟩:=h
  have h1 : q = k.tkey:=h1
  subst h1
  exact .cons ha.1 rv (zzd ha.2 h2 rr)
theorem Dkt.parts {K : Zhi} {F : Hp} {kvs : DD} {xs : List (List Key × V)} (h : Dkt K F kvs xs) : (kvs.map (·.1)).all D.isT = true/\(xs.map fun q=>q.1) = (kvs.map (·.1)).map D.tkey/\Reps K F (kvs.map (·.2)) (xs.map fun q=>q.2):=by
 induction h with
 | nil=>exact ⟨rfl,rfl,Reps.nil⟩
 | cons hk r t ih=>exact ⟨by rw [Zh5,Zki,hk,ih.1]; rfl,by simp only [Zh5]; rw [ih.2.1],Reps.cons r ih.2.2⟩
theorem Rep.of_dicT {K : Zhi} {F : Hp} {kvs : DD} {v : V} (r : Rep K F (D.dicT kvs) v) : ∃ p o xs,v = .ref p/\F p = some (.frz o (.dT xs))/\Dkt K F kvs xs:=by
 unfold D.dicT at r
 rw [Rep] at r
 obtain ⟨p,kv,e,⟨o,q⟩,⟨h1,h2⟩,r2⟩:=r
 exact ⟨p,o,kv,e,q,zzd h1 h2 r2⟩
theorem Rep.dicT {K : Zhi} {F : Hp} {kvs : DD} {p : Addr} {o : Obj} {xs : List (List Key × V)} (q : F p = some (.frz o (.dT xs))) (dk : Dkt K F kvs xs) : Rep K F (D.dicT kvs) (.ref p):=by
 obtain ⟨h1,h2,h3⟩:=dk.parts
 unfold D.dicT
 rw [Rep]
 exact ⟨p,xs,rfl,⟨o,q⟩,⟨h1,h2⟩,h3⟩
theorem DGet.tf {H : Hp} {a b : Addr} {o : Obj} {kvs : List (List Key × V)} {k : List Key} (e : H a = some (.frz o (.dT kvs))) (eb : H b = some (.tup (k.map kV))) : DGet H a (.ref b) (valV kvs k):=.inr ⟨kvs,k,b,.inr ⟨o,e⟩,rfl,eb,rfl⟩
noncomputable def ItF (K : Zhi) (J : It) (F' : Hp) (n : Nat) (y : Nat->D) : Prop:=∀ F2 H2,Same F' F2->Same F2 H2 ->
 (∀ i,i < n->J.go i H2 /\ ∀ x H3,J.yld i H2 x H3 -> ∃ F3,Ext F2 H2 F3 H3/\Rep K F3 (y i) x)/\J.stop n H2
noncomputable def EvF (K : Zhi) (G H₀ L : Hp) (ss : List Sl) (wi : TI) (n : Nat) (y : Nat->D) : Prop:=∀ F H σ R,Sat K G H₀ L F H σ ss->(∀ F' H' J,Ext F H F' H'->ItF K J F' n y->R J H')->wi σ H R
section
variable {K : Zhi} {G H₀ L : Hp} {ss : List Sl} {i j : Nat} {p b : Addr} {kvs : DD} {E : Ends} {ty td tv tx : TE} {t : TS} {k d z : D} {ds : List D} {wi : TI} {n : Nat} {y : Nat->D}
theorem EvF.evi (a : EvF K G H₀ L ss wi n y) : EvI K G H₀ L ss wi n y:=fun F H σ R S q=>a F H σ R S fun F' H' J e it=>q F' H' J e fun F2 H2 f1 h1 fh=>it F2 H2 f1 fh
theorem zu4 {g : TG} {tb : TS} (I : Nat->List Sl->Prop) (a : EvF K G H₀ L ss wi n y) (h0 : I 0 ss)
  (hs : ∀ L' k ss,Same L L'->k < n->I k ss -> ∃ ss',Tg K G H₀ L' g (y k) ss ss' /\ ∀ N,(∀ ss,I (k + 1) ss->Nx K G H₀ L' N ss)->Go K G H₀ L' { E with nx:=N,ct:=N,bk:=E.nx } ss' tb)
  (hd : ∀ ss,I n ss->Nx K G H₀ L E.nx ss) : Go K G H₀ L E ss (tFor wi g tb):=fun F H σ S =>
 a F H σ _ S fun F1 H1 J e1 it=>by
  refine ⟨fun i m σ' H'=>m = n - i/\i <= n/\At K G H₀ F1 (I i) σ' H',⟨_,rfl,Zit _,ss,F1,(S.ext2 e1).raise,h0⟩,?_⟩
  rintro i m σ' H' ⟨rfl,hi,ss1,F2,S2,h2⟩
  obtain ⟨it1,it2⟩:=it F2 H' S2.fl S2.ext.fh
  by_cases hlt : i < n
  ·obtain ⟨go,yl⟩:=it1 i hlt
   refine .inr ⟨go,fun σ'' H''=>At K G H₀ F1 (I (i + 1)) σ'' H'',fun σ'' H'' h=>⟨n - (i + 1),by omega,rfl,hlt,h⟩,fun x H'' yx=>?_⟩
   obtain ⟨F3,e3,rx⟩:=yl x H'' yx
   obtain ⟨ss',tg,go⟩:=hs F1 i ss1 (S.fl.trans e1.gf) hlt h2
   exact tg F3 _ σ' x _ (S2.ext2 e3) rx fun σ3 S3=>go _ (fun ss h=>zsx h) F3 _ σ3 S3
  ·have e : i = n:=by omega
   subst e
   exact .inl ⟨it2,hd ss1 h2 F2 H' σ' (S2.lower (S.fl.trans e1.gf))⟩
theorem zka (hs : ss[i]? = some (dslT K p kvs)) (h : Go K G H₀ L E (ss.set i (.d (D.dicT kvs))) t) : Go K G H₀ L E ss (sFrz t):=fun F H σ S=>by
 obtain ⟨e,h0,fp,xs,hp,dk⟩:=S.getMT hs
 have hget : σ.getD i none = some (.ref p):=by rw [Zhh,e]; rfl
 refine ⟨p,xs,hp,fun o=>h (upd F p (.frz o (.dT xs))) _ σ ?_⟩
 have hn : ∀ j s',j≠i->ss[j]? = some s'->p ∉ s'.ads:=fun j s' hj h=>S.ne i j _ s' (Zi4 hj) hs h p (by simp [dslT,Sl.ads])
 exact S.put ((S.ext.write fp h0).freeze fp h0 zap) (S.fl.trans (Same.upd fp)) rfl (fun _ _=>rfl) (fun _=>by rw [hget]; exact ⟨_,rfl,Rep.dicT zap (dk.mono (Same.upd fp))⟩) (by simp [Sl.ads]) (fun _ _ _ _ q hq=>by simp [Sl.ads] at hq)
  fun j s' hj h=>((S.ok j s' h).updNe (hn j s' hj h)).frz fp (hn j s' hj h)
theorem Dkt.at {F : Hp} {kvs : DD} {xs : List (List Key × V)} (h : Dkt K F kvs xs) : ∀ {i : Nat} {k : List Key} {v : V},xs[i]? = some (k,v) -> ∃ kd d,kvs[i]? = some (kd,d)/\k = kd.tkey/\Rep K F d v:=by
 induction h with
 | nil=>intro i k v h; simp at h
 | @cons k d v kvs xs hk r t ih =>
  intro i k' v' hi
  cases i with
  | zero=>simp at hi; exact ⟨k,d,rfl,hi.1.symm,hi.2 ▸ r⟩
  | succ i=>simpa using ih (by simpa using hi)
theorem zq7 {F : Hp} {xs : List (List Key × V)} (dk : Dkt K F kvs xs) (hk : ds.all D.isK = true) : (valV xs (D.tup ds).tkey).isSome = (valD kvs (.tup ds)).isSome:=by
 rcases dk.val (k:=.tup ds) hk with ⟨h1,h2⟩ | ⟨d',w,h1,h2,_⟩ <;> rw [h1,h2] <;> rfl
theorem zl8 (a : Ev K G H₀ L ss td (D.dicT kvs)) (b : Ev K G H₀ L ss ty (.tup ds)) (hk : ds.all D.isK = true) (hi : zf8 ds = true) (hv : valD kvs (.tup ds) = some d) : Ev K G H₀ L ss (zsp td ty) d:=fun F H σ Q S q =>
 a F H σ _ S fun x F1 H1 e1 r1=>b F1 H1 σ _ (S.ext2 e1) fun v F2 H2 e2 r2=>by
  obtain ⟨p,o,xs,rfl,hp,dk⟩:=r1.of_dicT
  obtain ⟨b',rfl,hb⟩:=zjn r2 hk hi e2.fh
  rcases (dk.mono e2.gf).val (k:=.tup ds) hk with ⟨h1,_⟩ | ⟨d',w,h1,h2,rw'⟩
  ·rw [h1] at hv; cases hv
  ·rw [h1] at hv; cases hv
   refine ⟨p,w,rfl,?_,q w F2 H2 (e1.trans e2) rw'⟩
   rw [<- h2]
   exact DGet.tf (e2.fh _ _ (e2.gf _ _ hp)) hb
theorem zxg (a : Ev K G H₀ L ss td (D.dicT kvs)) (b : Ev K G H₀ L ss ty (.tup ds)) (hk : ds.all D.isK = true) (hi : zf8 ds = true) : Ev K G H₀ L ss (tDIn ty td) (.bl (valD kvs (.tup ds)).isSome):=fun F H σ Q S q =>
 b F H σ _ S fun v F1 H1 e1 r1=>a F1 H1 σ _ (S.ext2 e1) fun x F2 H2 e2 r2=>by
  obtain ⟨p,o,xs,rfl,hp,dk⟩:=r2.of_dicT
  obtain ⟨b',rfl,hb⟩:=zjn (r1.mono e2.gf) hk hi e2.fh
  refine ⟨p,valV xs (D.tup ds).tkey,rfl,DGet.tf (e2.fh _ _ hp) hb,q _ F2 H2 (e1.trans e2) ?_⟩
  rw [zq7 dk hk]; exact Rep.bl
theorem zlw (a : Ev K G H₀ L ss td (D.dicT kvs)) (b : Ev K G H₀ L ss ty (.tup ds)) (hk : ds.all D.isK = true) (hi : zf8 ds = true) : Ev K G H₀ L ss (zl5 ty td) (.bl (!(valD kvs (.tup ds)).isSome)):=fun F H σ Q S q =>
 b F H σ _ S fun v F1 H1 e1 r1=>a F1 H1 σ _ (S.ext2 e1) fun x F2 H2 e2 r2=>by
  obtain ⟨p,o,xs,rfl,hp,dk⟩:=r2.of_dicT
  obtain ⟨b',rfl,hb⟩:=zjn (r1.mono e2.gf) hk hi e2.fh
  refine ⟨p,valV xs (D.tup ds).tkey,rfl,DGet.tf (e2.fh _ _ hp) hb,q _ F2 H2 (e1.trans e2) ?_⟩
  rw [zq7 dk hk]; exact Rep.bl
theorem ztf (a : Ev K G H₀ L ss td (D.dicT kvs)) (b : Ev K G H₀ L ss ty (.tup ds)) (c : Ev K G H₀ L ss tx z) (hk : ds.all D.isK = true) (hi : zf8 ds = true) : Ev K G H₀ L ss (zsf td ty tx) ((valD kvs (.tup ds)).getD z):=fun F H σ Q S q =>
 a F H σ _ S fun x F1 H1 e1 r1=>by
  obtain ⟨p,o,xs,rfl,hp,dk⟩:=r1.of_dicT
  refine ⟨p,rfl,.inr ⟨xs,.inr ⟨o,e1.fh _ _ hp⟩⟩,b F1 H1 σ _ (S.ext2 e1) fun v F2 H2 e2 r2=>c F2 H2 σ _ ((S.ext2 e1).ext2 e2) fun w F3 H3 e3 r3=>?_⟩
  obtain ⟨b',rfl,hb⟩:=zjn (r2.mono e3.gf) hk hi e3.fh
  refine ⟨valV xs (D.tup ds).tkey,DGet.tf (e3.fh _ _ (e3.gf _ _ (e2.gf _ _ hp))) hb,q _ F3 H3 ((e1.trans e2).trans e3) ?_⟩
  rcases (dk.mono (e2.gf.trans e3.gf)).val (k:=.tup ds) hk with ⟨h1,h2⟩ | ⟨d',u,h1,h2,ru⟩ <;> rw [h1,h2]
  ·exact r3
  ·exact ru
theorem zmw (a : Ev K G H₀ L ss td (D.dicT kvs)) (b : Ev K G H₀ L ss ty (.tup ds)) (hk : ds.all D.isK = true) (hi : zf8 ds = true) : Ev K G H₀ L ss (zr8 td ty) ((valD kvs (.tup ds)).getD .non):=fun F H σ Q S q =>
 a F H σ _ S fun x F1 H1 e1 r1=>by
  obtain ⟨p,o,xs,rfl,hp,dk⟩:=r1.of_dicT
  refine ⟨p,rfl,.inr ⟨xs,.inr ⟨o,e1.fh _ _ hp⟩⟩,b F1 H1 σ _ (S.ext2 e1) fun v F2 H2 e2 r2=>?_⟩
  obtain ⟨b',rfl,hb⟩:=zjn r2 hk hi e2.fh
  refine ⟨valV xs (D.tup ds).tkey,DGet.tf (e2.fh _ _ (e2.gf _ _ hp)) hb,q _ F2 H2 (e1.trans e2) ?_⟩
  rcases (dk.mono e2.gf).val (k:=.tup ds) hk with ⟨h1,h2⟩ | ⟨d',u,h1,h2,ru⟩ <;> rw [h1,h2]
  ·exact Rep.non
  ·exact ru
theorem zpk (hs : ss[i]? = some (dslT K p kvs)) (b : Ev K G H₀ L ss ty (.tup ds)) (c : Ev K G H₀ L ss tx z) (hk : ds.all D.isK = true) (hi : zf8 ds = true) : Ev K G H₀ L ss (zsf (tVar i) ty tx) ((valD kvs (.tup ds)).getD z):=fun F H σ Q S q=>by
 obtain ⟨e,_,_,xs0,hp0,_⟩:=S.getMT hs
 refine ⟨_,e,p,rfl,.inr ⟨xs0,.inl hp0⟩,b F H σ _ S fun v F2 H2 e2 r2=>c F2 H2 σ _ (S.ext2 e2) fun w F3 H3 e3 r3=>?_⟩
 obtain ⟨_,_,_,xs,hp,dk⟩:=((S.ext2 e2).ext2 e3).getMT hs
 obtain ⟨b',rfl,hb⟩:=zjn (r2.mono e3.gf) hk hi e3.fh
 refine ⟨valV xs (D.tup ds).tkey,DGet.t hp hb,q _ F3 H3 (e2.trans e3) ?_⟩
 rcases dk.val (k:=.tup ds) hk with ⟨h1,h2⟩ | ⟨d',u,h1,h2,ru⟩ <;> rw [h1,h2]
 ·exact r3
 ·exact ru
theorem zon {F : Hp} : ∀ {es : List D},(∀ d∈es,d.isInt = true)->Reps K F es ((es.map D.key).map kV)
 | [],_=>Reps.nil
 | d::es,h=>by
  have h1:=h d Zhx
  cases d <;> simp [D.isInt] at h1
  exact Reps.cons Rep.int (zon fun e he=>h e (Zhv _ he))
theorem Ext.holdT {G H₀ F H : Hp} (x : Ext G H₀ F H) {b : Addr} {xs : List V} (hb : H b = some (.tup xs)) (h0 : ∀ o,H₀ b = some o->H₀ b = some (.tup xs)) : Ext G H₀ (upd F b (.tup xs)) H:=by
 have sm : Same F (upd F b (.tup xs)):=fun c o e=>by
  by_cases hc : c = b
  ·subst hc; rw [zap]; have:=x.fh c o e; rw [hb] at this; exact this
  ·rw [zav hc]; exact e
 refine ⟨x.gf.trans sm,fun c o e=>?_,x.hh,fun c o e nt=>?_⟩
 ·by_cases hc : c = b
  ·subst hc; rw [zap] at e; cases e; exact hb
  ·rw [zav hc] at e; exact x.fh c o e
 ·have hc : c≠b:=fun z=>by subst z; have:=h0 o e; rw [e] at this; cases this; exact nt
  rw [zav hc]; exact x.no c o e nt
theorem zlu (a : Ev K G H₀ L ss td (D.dicT kvs)) (hk : ∀ q∈kvs,∃ es,q.1 = .tup es /\ ∀ d∈es,d.isInt = true) : EvF K G H₀ L ss (iItM (tItM td)) kvs.length fun i=>prD (kvs.getD i (.non,.non)):=fun F H σ R S q =>
 a F H σ _ S fun v F1 H1 e1 r1=>by
  obtain ⟨p,o,xs,rfl,hp,dk⟩:=r1.of_dicT
  refine ⟨p,o,xs,rfl,rfl,e1.fh _ _ hp,fun r hr=>?_⟩
  have e2:=e1.newO (o:=zro r p) hr
  have hpr : p≠r:=fun z=>by rw [<- z,e1.fh _ _ hp] at hr; cases hr
  refine ⟨r,p,o,xs,rfl,zap,by rw [zav hpr]; exact e1.fh _ _ hp,q F1 _ _ e2 fun F2 H2 f1 fh=>?_⟩
  have hp2 : H2 p = some (.frz o (.dT xs)):=fh _ _ (f1 _ _ hp)
  have hl:=dk.length
  refine ⟨fun i hi=>⟨⟨by omega,hp2⟩,fun x H3 yx=>?_⟩,⟨by omega,hp2⟩⟩
  obtain ⟨T0,b,k,v,rfl,hkv,hT,hb,rfl⟩:=yx
  obtain ⟨kd,dv,hkd,hkt,rv⟩:=dk.at hkv
  obtain ⟨es,he,hint⟩:=hk (kd,dv) (Zhs hkd)
  have he : kd = .tup es:=he
  subst he
  have e3 : Ext F2 H2 (upd F2 b (.tup (k.map kV))) H2:=(Ext.refl fh).holdT hb fun _ _=>hb
  have hTb : T0≠b:=fun z=>by rw [<- z,hT] at hb; cases hb
  have e4:=e3.newF (o:=.tup [.ref b,v]) hT
  refine ⟨_,e4,?_⟩
  show Rep K _ (prD (kvs.getD i (.non,.non))) _
  rw [Zhh,hkd]
  refine Rep.tupN zap (Reps.cons (Rep.tupN (xs:=k.map kV) (by rw [zav (Zi4 hTb)]; exact zap) ?_) (Reps.cons (rv.mono (f1.trans e4.gf)) Reps.nil))
  rw [hkt]
  exact zon hint
end
section
variable {X : Cx}
theorem zr3 {H : Hp} : ∀ {kvs : List (List Key × V)} {xs : List (List Key × Addr × Value)},KT H kvs xs -> ∀ (i : Nat) x,xs[i]? = some x -> ∃ q,kvs[i]? = some q/\H x.2.1 = some (.tup (q.1.map kV))
 | _,_,.nil,i,x,h=>by simp at h
 | _,_,.cons r t,0,x,h=>by simp at h; subst h; exact ⟨_,rfl,r.2.1⟩
 | _,_,.cons r t,i + 1,x,h=>by simpa using zr3 t i x (by simpa using h)
end
section
variable {K : Zhi} {G H₀ L : Hp} {ss : List Sl} {i j : Nat} {p b : Addr} {kvs : DD} {E : Ends} {ty td tv tx ta tb te : TE} {t : TS} {k d z : D} {ds es : List D} {wi : TI} {n : Nat} {y : Nat->D}
theorem zwj (hs : ss[i]? = some (.o p (ds++[d]))) (hij : i≠j) (h : Nx K G H₀ L E.nx ((ss.set i (.o p ds)).set j (.d d))) : Go K G H₀ L E ss (tAsg (tBM0 K "list" rPop (tVar i)) (zhv j)):=fun F H σ S=>by
 obtain ⟨e,h0,fp,vs,hp,r⟩:=S.getO hs
 have hl:=r.length
 rw [Zh1,Zl9] at hl
 have hne : vs≠[]:=fun z=>by rw [z] at hl; simp at hl
 have rr : Reps K F ds vs.dropLast:=by
  have:=r.take ds.length
  rw [List.take_left,show vs.take ds.length = vs.dropLast by rw [List.dropLast_eq_take]; congr 1; omega] at this
  exact this
 have rd : Rep K F d (vs.getLast hne):=by
  obtain ⟨x,hx,rx⟩:=r.get' (i:=ds.length) (d:=d) (by simp)
  rw [show ds.length = vs.length - 1 by omega,<- Zp4,Zqd hne] at hx
  cases hx
  exact rx
 refine ⟨.ref p,e,.inl ⟨rfl,_,SqL.of hp⟩,p,vs,vs.getLast hne,rfl,rfl,hp,by rw [<- Zp4,Zqd hne],?_⟩
 exact h F _ _ ((S.write hs rr).setD rd)
theorem zuw {l : List Nat} (a : Ev K G H₀ L ss ta d) (hd : d = .non \/ ∃ m,d = .str m) (b : EvB K G H₀ L ss tb (.str l)) : Ev K G H₀ L ss (tOp rEq ta tb) (.bl (decide (d = .str l))):=fun F H σ Q S q =>
 a F H σ _ S fun v F1 H1 e1 r1=>b F1 H1 σ _ (S.ext2 e1) fun v2 F2 H2 e2 r2=>by
  rw [r2.of_str]
  rcases hd with rfl | ⟨m,rfl⟩
  ·rw [r1.of_non]
   refine ⟨rfl,q _ F2 H2 (e1.trans e2) ?_⟩
   rw [decide_eq_false (by intro z; cases z),decide_eq_false (by intro z; cases z)]
   exact Rep.bl
  ·rw [r1.of_str]
   refine ⟨rfl,q _ F2 H2 (e1.trans e2) ?_⟩
   by_cases hml : m = l
   ·subst hml; rw [decide_eq_true rfl,decide_eq_true rfl]; exact Rep.bl
   ·rw [decide_eq_false (p:=D.str m = D.str l) (by intro z; injection z with z; exact hml z),decide_eq_false (by intro z; injection z with z; exact hml (zuf.mp z))]; exact Rep.bl
theorem zso {i j k : Int} {tc : TE} (a : EvB K G H₀ L ss ta (.int i)) (b : EvB K G H₀ L ss tb (.int j)) (c : EvB K G H₀ L ss tc (.int k)) : Ev K G H₀ L ss (zzq (rI0 fun i j=>.bl (decide (i <= j))) (rI0 fun i j=>.bl (decide (i < j))) ta tb tc) (.bl (decide (i <= j) && decide (j < k))):=fun F H σ Q S q =>
 a F H σ _ S fun v F1 H1 e1 r1=>b F1 H1 σ _ (S.ext2 e1) fun v2 F2 H2 e2 r2=>by
  rw [r1.of_int,r2.of_int]
  refine ⟨i,j,rfl,rfl,_,rfl,?_⟩
  by_cases h : i <= j
  ·rw [if_pos (decide_eq_true h)]
   refine c F2 H2 σ _ ((S.ext2 e1).ext2 e2) fun v3 F3 H3 e3 r3=>?_
   rw [r3.of_int]
   refine ⟨j,k,rfl,rfl,q _ F3 H3 ((e1.trans e2).trans e3) ?_⟩
   rw [decide_eq_true h,Ziy]; exact Rep.bl
  ·rw [if_neg (by rw [decide_eq_false h]; decide)]
   refine q _ F2 H2 (e1.trans e2) ?_
   rw [decide_eq_false h,Zmx]; exact Rep.bl
theorem zz5 (a : Ev K G H₀ L ss ta (.lst ds)) (b : Ev K G H₀ L ss tb (.lst es)) : EvF K G H₀ L ss (iZip K (za5 ta (za5 tb tNil))) (min ds.length es.length) fun i=>.tup [ds.getD i .non,es.getD i .non]:=fun F H σ R S q =>
 a F H σ _ S fun v F0 H0 e0 r0=>b F0 H0 σ _ (S.ext2 e0) fun v2 F1 H1 e1 r2=>by
  have r1:=r0.mono e1.gf
  obtain ⟨p,vs,rfl,sq,rs⟩:=r1.of_lst
  obtain ⟨p2,vs2,rfl,sqb,rsb⟩:=r2.of_lst
  refine ⟨p,p2,rfl,⟨vs,SqL.same e1.fh sq⟩,⟨vs2,SqL.same e1.fh sqb⟩,q F1 H1 _ (e0.trans e1) fun F2 H2 f1 fh=>?_⟩
  obtain ⟨ws,sq2,rs2⟩:=(r1.mono f1).itl fh
  obtain ⟨ws2,sq22,rs22⟩:=(r2.mono f1).itl fh
  have l1:=rs2.length
  have l2:=rs22.length
  refine ⟨fun i hi=>⟨⟨ws,ws2,ws[i]'(by omega),ws2[i]'(by omega),sq2,sq22,Zhj _,Zhj _⟩,fun x H3 y=>?_⟩,⟨ws,ws2,sq2,sq22,by omega⟩⟩
  obtain ⟨T0,us,rfl,hf,rfl,y⟩:=y
  obtain ⟨w,w2,hx,hx2,rfl⟩:=y ws ws2 sq2 sq22
  obtain ⟨dx,hdx,rx⟩:=rs2.get hx
  obtain ⟨dx2,hdx2,rx2⟩:=rs22.get hx2
  have e3 : Ext F2 H2 (upd F2 T0 (.tup [w,w2])) (upd H2 T0 (.tup [w,w2])):=(Ext.refl fh).newF hf
  refine ⟨_,e3,?_⟩
  show Rep K _ (.tup [ds.getD i .non,es.getD i .non]) _
  rw [Zhh,Zhh,hdx,hdx2]
  exact Rep.tupN zap (Reps.cons (rx.mono e3.gf) (Reps.cons (rx2.mono e3.gf) Reps.nil))
end
section
variable {prog : Ziq} {w : Zjv} {A : Zi0} {E : Value->Zhq->Prop} {s : Zhq}
theorem zuq {α : Type} {f : α->PUnit->Sem (ForInStep PUnit)} : ∀ {l : List α} {Q : PUnit->Zhq->Prop},(∀ e∈l,∀ R : ForInStep PUnit->Zhq->Prop,R (.yield ⟨⟩) s->Zij (Zix prog w) A (f e ⟨⟩) R E s)->Q ⟨⟩ s->Zij (Zix prog w) A (forIn l Zp3 f) Q E s
 | [],Q,_,q=>by rw [List.forIn_nil]; exact Zhz q
 | a::l,Q,h,q=>by
  rw [Zpi]
  exact Zhl (h a Zhx _ (zuq (fun e he=>h e (Zhv _ he)) q))
theorem zqe {a : Addr} {Q : Bool->Zhq->Prop} (ht : s.TypeIs (.ref a) "tuple") (h : Q false s) : Zij (Zix prog w) A (Zpe (.ref a)) Q E s:=by
 unfold Zpe
 exact Zhl (Zmy ht PySem.F.slot_tuple_eq.lookup (Zhz h))
variable {o : Addr} {es : Array Zm4} {ep : Nat}
theorem ztp {id : String} {Q : Array Zm4->Zhq->Prop} (x : DE s.heap o es ep) (hk : ∀ e∈es,∃ a,e.key = .ref a/\s.TypeIs (.ref a) "tuple") (hd : ∀ e∈es,(es.filter (·.hash == e.hash)).size <= 1) (h : Q es s) :
  Zij (Zix prog w) A (Zn4 id o) Q E s:=by
 obtain ⟨ob,ho,hc,hdat⟩:=x.ob
 unfold Zn4
 refine Zhl (Zk4 ho hdat (Zhl ?_))
 rw [<- Array.forIn_toList]
 refine zuq (fun e he R hR=>?_) (Zhz h)
 have he:=Znx.mp he
 obtain ⟨a,ea,ta⟩:=hk e he
 rw [ea]
 refine Zhl (zqe ta ?_)
 have h1:=hd e he
 have n1 : ¬ ((es.filter (·.hash == e.hash)).size > 1):=by omega
 simp only [Zp5,if_true,if_neg n1]
 exact Zhz hR
theorem zxw {id : String} {d : Addr} {ep0 : Nat} {Q : Unit->Zhq->Prop} (hdo : d≠o) (hoS : (o == Zkn) = false) (y : DE s.heap d #[] ep0) (x : DE s.heap o es ep) (hk : ∀ e∈es,∃ a,e.key = .ref a/\s.TypeIs (.ref a) "tuple") (hd : ∀ e∈es,(es.filter (·.hash == e.hash)).size <= 1) (hz : es.size <= sizeLine)
  (h : ∀ h' ep',DE h' d es ep'->Zo0 d s.heap h'->Q () { s with heap:=h' }) : Zij (Zix prog w) A (Zo2 id d o) Q E s:=by
 obtain ⟨ob,ho,hc,hdat⟩:=x.ob
 obtain ⟨od,hod,hcd,hdd⟩:=y.ob
 unfold Zo2
 have n1 : ¬ (d == o) = true:=fun z=>hdo (eq_of_beq z)
 have n2 : ¬ (o == Zkn) = true:=by rw [hoS]; exact Zih
 refine wno n1 (Zhl (m:=Zo9 o) (wno n2 (Zhz (Zhl (Zk4 ho hdat ?_)))))
 by_cases he : es = #[]
 ·subst he
  refine wno (by simp) (Zhl (Zqp ho hdat (Zhl (Zk4 ho hdat (Zhl ?_)))))
  refine Zqn (a:=Zp3) (by simp) (Zhz ?_)
  exact h s.heap ep0 y (Zur _ _)
 ·have hpos : 0 < es.size:=Nat.pos_of_ne_zero fun z=>he (Array.size_eq_zero_iff.mp z)
  have hfew : (decide (es.size <= 8) && es.all fun e=>(keyPart e.key).isSome) = false:=by
   rw [Bool.and_eq_false_iff]
   refine .inr ?_
   rw [Array.all_eq_false]
   refine ⟨0,hpos,?_⟩
   obtain ⟨a,ea,_⟩:=hk es[0] (Array.getElem_mem hpos)
   rw [ea]; simp [keyPart]
  simp only [hfew,Zp5,if_true]
  refine Zhl (Zk4 hod hdd ?_)
  rw [if_pos (show (#[] : Array Zm4).isEmpty = true from rfl)]
  refine Zhl (ztp x hk hd ?_)
  have hne : (!es.isEmpty) = true:=by
   cases hb : es.isEmpty with
   | false=>rfl
   | true=>exact absurd (Array.isEmpty_iff.mp hb) he
  rw [if_pos hne]
  refine Zhl (wpAny_updateDictKeysTo hod hdd (Zhz (h _ (ep0 + 1) ⟨_,Zq5 _ hod (Obj.isFreed_of_dict (Zre hdd _)),hcd.mapDictKeys _,Zre hdd _⟩ (Zj1 ..))) (by omega))
theorem yat {Q : Value->Zhq->Prop} (hoS : (o == Zkn) = false) (x : DE s.heap o es ep) (hk : ∀ e∈es,∃ a,e.key = .ref a/\s.TypeIs (.ref a) "tuple") (hd : ∀ e∈es,(es.filter (·.hash == e.hash)).size <= 1) (hz : es.size <= sizeLine)
  (h : ∀ h' ep',DE h' s.heap.objs.size es ep'->(∀ b u,s.heap.get? b = some u->h'.get? b = some u)->Q (.ref s.heap.objs.size) { s with heap:=h' }) : Zij (Zix prog w) A (call (.type "dict") [.ref o]) Q E s:=by
 refine Zvc (Q₁:=fun obj s₁=>obj = .ref s.heap.objs.size/\s₁ = { s with heap:=s.heap.push { cls:=.type "dict", data:=.dict #[] } }) F.kt_called_dict (F.kt_typeCall_dict_1 _) F.entry_dict_init (kt_code_dict_new _ ⟨rfl,rfl⟩) ?_
 rintro obj s₁ ⟨rfl,rfl⟩
 have y : DE (s.heap.push { cls:=.type "dict", data:=.dict #[] }) s.heap.objs.size #[] 0:=⟨_,Zh6 _ rfl,⟨rfl,rfl,rfl⟩,rfl⟩
 have k0 : ∀ b u,s.heap.get? b = some u->(s.heap.push { cls:=.type "dict", data:=.dict #[] }).get? b = some u:=fun b u e=>Zhr _ e
 have x' : DE (s.heap.push { cls:=.type "dict", data:=.dict #[] }) o es ep:=x.at fun u e=>k0 o u e
 have hlt : s.heap.objs.size≠o:=by
  obtain ⟨ob,ho,_⟩:=x.ob
  exact fun z=>absurd (Zhy ho) (by rw [z]; exact Zi3 _)
 refine ⟨DE.typeIs (s:={ s with heap:=s.heap.push { cls:=.type "dict", data:=.dict #[] } }) y,F.args_dict_init_2 _ _,?_⟩
 unfold Ziv.«dict.__init__» Zuu
 refine Zhl (Zhl (Zr4 (DE.typeIs (s:={ s with heap:=s.heap.push { cls:=.type "dict", data:=.dict #[] } }) y) (Zhz ?_)))
 show Zij _ _ (Zow "dict.__init__" s.heap.objs.size (.ref o) [] .none) _ _ _
 unfold Zow
 have tx:=DE.typeIs (s:={ s with heap:=s.heap.push { cls:=.type "dict", data:=.dict #[] } }) x'
 refine Zhl (wpAny_typeOf tx (wno (by decide) (Zhl ?_)))
 unfold Zuy Zuv
 refine Zhl (Zhl (Zp8 tx isSubtype_dict_dict ?_))
 simp only [Zoo,Zlb,if_false]
 refine Zhl (Zmy tx PySem.F.slot_dict_iter.lookup (Zhz ?_))
 rw [if_pos (by decide)]
 refine Zhl (Zhz ?_)
 refine zxw (s:={ s with heap:=s.heap.push { cls:=.type "dict", data:=.dict #[] } }) hlt hoS y x' (fun e he=>?_) hd hz fun h' ep' z sb=>?_
 ·obtain ⟨a,ea,ta⟩:=hk e he
  exact ⟨a,ea,by obtain ⟨u,hu,hc⟩:=ta; exact ⟨u,k0 a u hu,hc⟩⟩
 ·exact Zhl (Zhz (Zhz ⟨rfl,h h' ep' z fun b u e=>(sb.2 b (Zic (Zhy e))).trans (k0 b u e)⟩))
end
theorem zp9 : Zmk "dict" = some (.type "dict"):=by decide +kernel
noncomputable def th2 (i j : Int) : Int:=reduceHash (Zt3 [hashInt i,hashInt j])
theorem ya4 : ((Zhm 64).map fun n=>th2 (n / 8 : Nat) (n % 8 : Nat)).Nodup:=by decide +kernel
theorem yca {a b c d : Nat} (ha : a < 8) (hb : b < 8) (hc : c < 8) (hd : d < 8) (h : th2 a b = th2 c d) : a = c/\b = d:=by
 have key:=ya4
 have e1 : ((Zhm 64).map fun n=>th2 (n / 8 : Nat) (n % 8 : Nat))[8 * a + b]? = some (th2 a b):=by
  rw [Zho,Zji (by omega)]
  simp only [Zng,show (8 * a + b) / 8 = a by omega,show (8 * a + b) % 8 = b by omega]
 have e2 : ((Zhm 64).map fun n=>th2 (n / 8 : Nat) (n % 8 : Nat))[8 * c + d]? = some (th2 c d):=by
  rw [Zho,Zji (by omega)]
  simp only [Zng,show (8 * c + d) / 8 = c by omega,show (8 * c + d) % 8 = d by omega]
 obtain ⟨l1,f1⟩:=Zhn.mp e1
 obtain ⟨l2,f2⟩:=Zhn.mp e2
 have:=(Zne key).mp (f1.trans (h.trans f2.symm))
 omega
noncomputable def zzb (k : List Key) : Prop:=∃ a b : Nat,a < 8/\b < 8/\k = [.inl a,.inl b]
noncomputable def zoj : List V->Hp->VK->Prop:=fun xs H Q=>∃ d kvs,xs = [.ref d]/\Rd H d (.dT kvs)/\(∀ q∈kvs,zzb q.1) /\ ∀ p,H p = none->Q (.ref p) (upd H p (.dT kvs))
theorem zst {α : Type} {f : α->Int} {l : List α} (h : (l.map f).Nodup) {e : α} (he : e∈l) : (l.filter fun x=>f x == f e).length <= 1:=by
 induction l with
 | nil=>cases he
 | cons a l ih =>
  rw [Zh5,Zjz] at h
  rw [Zmf]
  rcases Zie.mp he with z | z
  ·subst z
   rw [if_pos (by simp),Zkb]
   have : l.filter (fun x=>f x == f e) = []:=Zqx.mpr fun x hx z=>h.1 (Zh3.mpr ⟨x,hx,by simpa using z⟩)
   rw [this]; simp
  ·have : ¬ (f a == f e) = true:=fun z'=>h.1 (Zh3.mpr ⟨e,z,(by simpa using z' : f a = f e).symm⟩)
   rw [if_neg this]
   exact ih h.2 z
theorem zj6 {X : Cx} : zdk X (.type "dict") zoj:=by
 intro pins s σ H xs us Q I r h
 obtain ⟨d,kvs,rfl,e,hsm,q⟩:=h
 obtain ⟨u,rfl,ru⟩:=zhc r
 cases ru
 obtain ⟨hz,hd,zs,rel,o,es,ep,h1,h2,h3,h4,h5⟩:=e.ok I.hok
 have lz : kvs.length = zs.length:=rel.length
 have hsz : es.size = zs.length:=by rw [<- Zjq,h4,Zhk]
 have hkey : ∀ z∈zs,zzb z.1/\H z.2.1 = some (.tup (z.1.map kV)):=fun z hz1=>by
  obtain ⟨i,hi⟩:=Zl7.mp hz1
  obtain ⟨q',hq',hq2⟩:=zr3 rel i z hi
  have hlt:=(Zhn.mp hq').1
  obtain ⟨z',hz',e1,e2,_⟩:=Paired.get rel i q' hq'
  rw [hi] at hz'; cases hz'
  have e1 : q'.1 = z.1:=e1
  rw [<- e1]
  exact ⟨hsm q' (Zhs hq'),hq2⟩
 have hnd : (zs.map fun z=>(Zlo (zbd X.prog X.w)).hash z.1).Nodup:=by
  rw [Zpv,Zm7] at h5
  rw [Zpv,Zm7]
  refine Zt0 (fun {x y} hx hy hne hh=>hne ?_) h5
  obtain ⟨⟨a,b,ha,hb,ex⟩,_⟩:=hkey x hx
  obtain ⟨⟨c,d',hc,hd',ey⟩,_⟩:=hkey y hy
  rw [ex,ey] at hh
  obtain ⟨z1,z2⟩:=yca ha hb hc hd' hh
  rw [ex,ey,z1,z2]
 refine yat (es:=es) (ep:=ep) hd ⟨o,h1,h2,h3⟩ (fun en he=>?_) (fun en he=>?_) (by omega) fun h' ep' y k=>?_
 ·have he : en∈es.toList:=Znx.mpr he
  rw [h4] at he
  obtain ⟨z,hz1,rfl⟩:=Zh3.mp he
  refine ⟨z.2.1,rfl,?_⟩
  obtain ⟨_,its,_,ob,ho,hc,_⟩:=(show zdx X.prog X.w H s.heap z.2.1 (.tup _) from I.hok _ _ (hkey z hz1).2)
  exact ⟨ob,ho,hc⟩
 ·have he : en∈es.toList:=Znx.mpr he
  rw [h4] at he
  obtain ⟨z,hz1,rfl⟩:=Zh3.mp he
  have e0 : (es.filter fun x=>x.hash == (Zti (Zlo (zbd X.prog X.w)) z).hash).size = (zs.filter fun x=>(Zlo (zbd X.prog X.w)).hash x.1 == (Zlo (zbd X.prog X.w)).hash z.1).length:=by
   rw [<- Zjq,Array.toList_filter,h4,Znq,Zhk]; rfl
  rw [e0]
  exact zst (f:=fun x : List Key × Addr × Value=>(Zlo (zbd X.prog X.w)).hash x.1) hnd hz1
 ·have hf : H s.heap.objs.size = none:=I.fresh
  have nt : ∀ b ys,H b = some (.tup ys)->b≠s.heap.objs.size:=fun b ys q z=>by rw [z,hf] at q; cases q
  obtain ⟨oy,hy1,hy2,hy3⟩:=y.ob
  refine ⟨.ref s.heap.objs.size,_,I.laid (t':=s.toks) k (Zhu _) (show zdx X.prog X.w _ _ _ (.dT kvs) from ⟨hz,beq_eq_false_iff_ne.mpr (Zi4 (Zic I.big)),zs,Paired.mapP rel fun p q w=>⟨w.1,by rw [zav (nt _ _ w.2.1)]; exact w.2.1,w.2.2⟩,oy,es,ep',hy1,hy2,hy3,h4,h5⟩),rfl,q _ hf⟩
section
variable {K : Zhi} {G H₀ L : Hp} {ss : List Sl} {i j : Nat} {p b : Addr} {kvs : DD} {E : Ends} {td : TE}
theorem zn4 (a : Ev K G H₀ L ss td (D.dicT kvs)) (hk : ∀ q∈kvs,∃ a b : Nat,a < 8/\b < 8/\q.1 = .tup [.int a,.int b]) (h : ∀ p,Nx K G H₀ L E.nx (ss.set i (dslT K p kvs))) : Go K G H₀ L E ss (tAsg (tCB zoj (za5 td tNil)) (zhv i)):=fun F H σ S =>
 a F H σ _ S fun v F1 H1 e1 r1=>by
  obtain ⟨d,o,xs,rfl,hd,dk⟩:=r1.of_dicT
  refine ⟨d,xs,rfl,.inr ⟨o,e1.fh _ _ hd⟩,fun q hq=>?_,fun p hp=>?_⟩
  ·obtain ⟨n,hn⟩:=Zl7.mp hq
   obtain ⟨kd,dv,h1,h2,_⟩:=dk.at (k:=q.1) (v:=q.2) hn
   obtain ⟨a,b,ha,hb,e⟩:=hk _ (Zhs h1)
   have e : kd = .tup [.int a,.int b]:=e
   exact ⟨a,b,ha,hb,by rw [h2,e]; rfl⟩
  ·have e:=e1.newO (o:=.dT xs) hp
   have S':=S.ext2 e
   refine h p F1 _ _ (S'.put S'.ext S'.fl (by simp) (fun j hj=>zd2 (Zi4 hj)) (fun hi=>?_) (by simp [dslT,Sl.ads]) (fun j s' hj hs q hq=>?_) fun j s' hj hs=>S'.ok j s' hs)
   ·rw [zcv (by rw [S.len]; exact hi)]
    exact ⟨rfl,fun a ha=>by rw [Zhp.mp ha]; exact ⟨S.ext.hh.free (e1.hh.free hp),e1.fh.free hp,_,zap,trivial⟩,⟨xs,zap,dk⟩,zm1 K p kvs⟩
   ·have : q = p:=by simpa [dslT,Sl.ads] using hq
    subst this
    exact fun hin=>(S.ok j s' hs).live hin (e1.hh.free hp)
end
end L2
namespace L2
theorem zji {α : Type} {P : List α->Prop} (h0 : P []) (hs : ∀ xs x,P xs->P (xs++[x])) (xs : List α) : P xs:=by
 have : ∀ ys : List α,P ys.reverse:=by
  intro ys
  induction ys with
  | nil=>exact h0
  | cons y ys ih=>rw [Zku]; exact hs _ _ ih
 have:=this xs.reverse
 rwa [Zra] at this
section
variable {α β γ : Type} [DecidableEq α] [DecidableEq β] [DecidableEq γ] {f : α->β} {g : α->γ} {xs : List α} {x : α}
noncomputable def zkd (f : α->β) (acc : List α) (x : α) : List α:=if (acc.any fun y=>decide (f y = f x)) = true then acc else acc++[x]
noncomputable def zgh (f : α->β) (xs : List α) : List α:=xs.foldl (zkd f) []
theorem zdy : zgh f (xs++[x]) = zkd f (zgh f xs) x:=by unfold zgh; rw [Zjl]; rfl
theorem zk7 (v : β) : (∃ y∈zgh f xs,f y = v) ↔ ∃ y∈xs,f y = v:=by
 induction xs using zji with
 | h0=>simp [zgh]
 | hs xs x ih =>
  rw [zdy]
  unfold zkd
  split
  ·rename_i h
   rw [Zkd] at h
   obtain ⟨y,hy,e⟩:=h
   have e:=of_decide_eq_true e
   rw [ih]
   constructor
   ·rintro ⟨z,hz,ez⟩; exact ⟨z,Zig _ hz,ez⟩
   ·rintro ⟨z,hz,ez⟩
    rcases Zhw.mp hz with hz | hz
    ·exact ⟨z,hz,ez⟩
    ·rw [Zhp.mp hz] at ez
     exact ih.mp ⟨y,hy,e.trans ez⟩
  ·constructor
   ·rintro ⟨z,hz,ez⟩
    rcases Zhw.mp hz with hz | hz
    ·obtain ⟨w,hw,ew⟩:=ih.mp ⟨z,hz,ez⟩
     exact ⟨w,Zig _ hw,ew⟩
    ·exact ⟨z,Zht _ hz,ez⟩
   ·rintro ⟨z,hz,ez⟩
    rcases Zhw.mp hz with hz | hz
    ·obtain ⟨w,hw,ew⟩:=ih.mpr ⟨z,hz,ez⟩
     exact ⟨w,Zig _ hw,ew⟩
    ·exact ⟨z,Zht _ hz,ez⟩
theorem zjd {y : α} : y∈zgh f xs->y∈xs:=by
 induction xs using zji with
 | h0=>exact fun h=>h
 | hs xs x ih =>
  rw [zdy]
  unfold zkd
  split
  ·exact fun h=>Zig _ (ih h)
  ·intro h
   rcases Zhw.mp h with h | h
   ·exact Zig _ (ih h)
   ·exact Zht _ h
theorem zr4 : ((zgh f xs).map f).Nodup:=by
 induction xs using zji with
 | h0=>exact Zn2
 | hs xs x ih =>
  rw [zdy]
  unfold zkd
  split
  ·exact ih
  ·rename_i h
   rw [Zh4]
   refine Zkv.mpr ⟨ih,by simp,fun a ha b hb e=>h ?_⟩
   obtain ⟨y,hy,ey⟩:=Zh3.mp ha
   have hb : b = f x:=by simpa using hb
   rw [Zkd]
   exact ⟨y,hy,decide_eq_true (ey.trans (e.trans hb))⟩
noncomputable def zbz (f : α->β) (xs : List α) : List (List α):=(zgh f xs).map fun h=>xs.filter fun t=>decide (f t = f h)
noncomputable def ycg (xs : List α) (f : α->β) (g : α->γ) : Prop:=∀ a∈xs,∀ b∈xs,(f a = f b ↔ g a = g b)
theorem zpx (h : ycg xs f g) : zgh f xs = zgh g xs:=by
 induction xs using zji with
 | h0=>rfl
 | hs xs x ih =>
  rw [zdy,zdy,ih fun a ha b hb=>h a (Zig _ ha) b (Zig _ hb)]
  unfold zkd
  have : ((zgh g xs).any fun y=>decide (f y = f x)) = (zgh g xs).any fun y=>decide (g y = g x):=by
   rw [Zil,Zkd,Zkd]
   simp only [decide_eq_true_eq]
   constructor
   ·rintro ⟨y,hy,e⟩; exact ⟨y,hy,(h y (Zig _ (zjd hy)) x (by simp)).mp e⟩
   ·rintro ⟨y,hy,e⟩; exact ⟨y,hy,(h y (Zig _ (zjd hy)) x (by simp)).mpr e⟩
  rw [this]
theorem zpc (h : ycg xs f g) : zbz f xs = zbz g xs:=by
 unfold zbz
 rw [zpx h]
 refine Zip fun y hy=>Zl3 fun t ht=>?_
 rw [Zil,decide_eq_true_eq,decide_eq_true_eq]
 exact h t ht y (zjd hy)
theorem zmn : (zbz f xs).length <= xs.length:=by
 unfold zbz
 rw [Zhk]
 induction xs using zji with
 | h0=>exact Zhu _
 | hs xs x ih =>
  rw [zdy]
  unfold zkd
  split <;> simp <;> omega
noncomputable def zoq (k l : β) (f : α->β) : α->β:=fun t=>if f t = l then k else f t
theorem zyr {k l : β} {x y a b : α} (h : (k = f x/\l = f y) \/ (k = f y/\l = f x)) : zoq k l f a = zoq k l f b ↔ f a = f b \/ ((f a = f x \/ f a = f y)/\(f b = f x \/ f b = f y)):=by
 unfold zoq
 rcases h with ⟨rfl,rfl⟩ | ⟨rfl,rfl⟩
 ·by_cases h1 : f a = f y <;> by_cases h2 : f b = f y <;> simp [h1,h2]
  ·constructor
   ·intro e; exact .inr e.symm
   ·rintro (e | e)
    ·exact absurd e.symm h2
    ·exact e.symm
  ·intro e e2; exact e.trans e2.symm
 ·by_cases h1 : f a = f x <;> by_cases h2 : f b = f x <;> simp [h1,h2]
  ·constructor
   ·intro e; exact .inr e.symm
   ·rintro (e | e)
    ·exact absurd e.symm h2
    ·exact e.symm
  ·intro e e2; exact e.trans e2.symm
variable {enc : α->D} {encB : β->D}
noncomputable def dA (enc : α->D) (encB : β->D) (xs : List α) (f : α->β) : DD:=xs.map fun t=>(enc t,encB (f t))
theorem zfa (hi : ∀ a b,enc a = enc b->a = b) (h : x∈xs) : valD (dA enc encB xs f) (enc x) = some (encB (f x)):=by
 induction xs with
 | nil=>cases h
 | cons y ys ih =>
  by_cases e : y = x
  ·subst e; simp [valD,dA]
  ·have e2 : enc y≠enc x:=fun z=>e (hi _ _ z)
   have : valD (dA enc encB (y::ys) f) (enc x) = valD (dA enc encB ys f) (enc x):=by simp [valD,dA,Zi2,e2]
   rw [this]
   rcases Zie.mp h with z | z
   ·exact absurd z.symm e
   ·exact ih z
theorem zno (hi : ∀ a b,enc a = enc b->a = b) (h : x ∉ xs) : valD (dA enc encB xs f) (enc x) = none:=by
 induction xs with
 | nil=>rfl
 | cons y ys ih =>
  have e2 : enc y≠enc x:=fun z=>h (by rw [hi _ _ z]; exact Zhx)
  have : valD (dA enc encB (y::ys) f) (enc x) = valD (dA enc encB ys f) (enc x):=by simp [valD,dA,Zi2,e2]
  rw [this]
  exact ih fun z=>h (Zhv _ z)
theorem zzx (hi : ∀ a b,enc a = enc b->a = b) : ((dA enc encB xs f).any fun kv=>decide (kv.1 = enc x)) = true ↔ x∈xs:=by
 rw [Zkd]
 constructor
 ·rintro ⟨kv,hkv,e⟩
  obtain ⟨y,hy,rfl⟩:=Zh3.mp hkv
  rw [<- hi _ _ (of_decide_eq_true e)]; exact hy
 ·intro h; exact ⟨_,Zh3.mpr ⟨x,h,rfl⟩,by simp⟩
theorem ya9 (hi : ∀ a b,enc a = enc b->a = b) (h : x∈xs) (v : β) : putD (dA enc encB xs f) (enc x) (encB v) = dA enc encB xs (fun u=>if u = x then v else f u):=by
 unfold putD
 rw [if_pos ((zzx hi).mpr h)]
 unfold dA
 rw [Zim]
 refine Zip fun u _=>?_
 show (if enc u = enc x then (enc u,encB v) else (enc u,encB (f u))) = (enc u,encB (if u = x then v else f u))
 by_cases e : u = x
 ·rw [if_pos (by rw [e]),if_pos e]
 ·rw [if_neg fun z=>e (hi _ _ z),if_neg e]
theorem zfl (hi : ∀ a b,enc a = enc b->a = b) (h : x ∉ xs) : putD (dA enc encB xs f) (enc x) (encB (f x)) = dA enc encB (xs++[x]) f:=by
 unfold putD
 rw [if_neg fun z=>h ((zzx hi).mp z)]
 unfold dA
 rw [Zh4]
 rfl
theorem zy2 {g : α->β} (h : ∀ a∈xs,f a = g a) : dA enc encB xs f = dA enc encB xs g:=by
 unfold dA
 exact Zip fun a ha=>by rw [h a ha]
noncomputable def grpD (enc : α->D) (encB : β->D) (f : α->β) (xs : List α) : List (D × List D):=(zgh f xs).map fun h=>(encB (f h),(xs.filter fun t=>decide (f t = f h)).map enc)
theorem zvo (hi : ∀ a b,encB a = encB b->a = b) {F : α->List D} {d : D} : ∀ {hs : List α},(hs.map f).Nodup->(∃ h∈hs,f h = f x)->appD (hs.map fun h=>(encB (f h),F h)) (encB (f x)) d = hs.map fun h=>(encB (f h),if f h = f x then F h++[d] else F h)
 | [],_,h=>by obtain ⟨_,h,_⟩:=h; cases h
 | y::ys,hn,h=>by
  rw [Zh5,Zh5,appD]
  rw [Zh5,Zjz] at hn
  by_cases e : f y = f x
  ·rw [if_pos (by show encB (f y) = encB (f x); rw [e]),if_pos e]
   congr 1
   refine Zip fun z hz=>?_
   have : f z≠f x:=fun w=>hn.1 (by rw [e,<- w]; exact Zjs hz)
   rw [if_neg this]
  ·rw [if_neg (fun z=>e (hi _ _ z)),if_neg e]
   congr 1
   refine zvo hi hn.2 ?_
   obtain ⟨z,hz,ez⟩:=h
   rcases Zie.mp hz with rfl | hz
   ·exact absurd ez e
   ·exact ⟨z,hz,ez⟩
theorem zq6 (hi : ∀ a b,encB a = encB b->a = b) {F : α->List D} {d : D} : ∀ {hs : List α},(∀ h∈hs,f h≠f x)->appD (hs.map fun h=>(encB (f h),F h)) (encB (f x)) d = (hs.map fun h=>(encB (f h),F h))++[(encB (f x),[d])]
 | [],_=>rfl
 | y::ys,h=>by
  rw [Zh5,appD,if_neg (fun z=>h y Zhx (hi _ _ z)),zq6 hi fun z hz=>h z (Zhv _ hz)]
  rfl
theorem zyb (hi : ∀ a b,encB a = encB b->a = b) : appD (grpD enc encB f xs) (encB (f x)) (enc x) = grpD enc encB f (xs++[x]):=by
 unfold grpD
 rw [zdy]
 unfold zkd
 have ef : ∀ h,((xs++[x]).filter fun t=>decide (f t = f h)).map enc = if f h = f x then (xs.filter fun t=>decide (f t = f h)).map enc++[enc x] else (xs.filter fun t=>decide (f t = f h)).map enc:=fun h=>by
  rw [Zj0]
  by_cases e : f h = f x
  ·rw [if_pos e,Zkg (by simp [e]),Zkx,Zh4]; rfl
  ·rw [if_neg e,Zkh (by simp; exact fun z=>e z.symm),Zkx,Zjj]
 split
 ·rename_i h
  rw [Zkd] at h
  obtain ⟨y,hy,e⟩:=h
  rw [zvo hi zr4 ⟨y,hy,of_decide_eq_true e⟩]
  exact Zip fun h _=>by rw [ef]
 ·rename_i h
  have hno : ∀ y∈zgh f xs,f y≠f x:=fun y hy e=>h (by rw [Zkd]; exact ⟨y,hy,decide_eq_true e⟩)
  rw [zq6 hi hno,Zh4]
  congr 1
  ·exact Zip fun h hh=>by rw [ef,if_neg (hno h hh)]
  ·rw [Zmt,ef,if_pos rfl]
   have : (xs.filter fun t=>decide (f t = f x)) = []:=by
    rw [Zqx]
    intro t ht e
    obtain ⟨z,hz,ez⟩:=(zk7 (f:=f) (xs:=xs) (f x)).mpr ⟨t,ht,of_decide_eq_true e⟩
    exact hno z hz ez
   rw [this]; rfl
theorem zt5 : ((grpD enc encB f xs).map fun q=>D.lst q.2) = (zbz f xs).map fun p=>D.lst (p.map enc):=by
 unfold grpD zbz
 rw [Zim,Zim]
 rfl
theorem zya : (grpD enc encB f xs).length <= xs.length:=by
 have:=zmn (f:=f) (xs:=xs)
 unfold zbz at this
 unfold grpD
 simpa using this
theorem zu0 {q : D × List D} (h : q∈grpD enc encB f xs) : q.2.length <= xs.length:=by
 unfold grpD at h
 obtain ⟨y,_,rfl⟩:=Zh3.mp h
 rw [Zhk]
 exact Zjb ..
end
end L2
namespace L2
open PySem PySem.W PyProof.Rows PySem.Spec PySem.Calls
end L2
namespace L2
open PySem PySem.Spec PyProof.Rows
end L2
namespace L2
open PySem PySem.W PyProof.Rows PySem.Spec PySem.Calls
end L2
namespace L2
open PySem PySem.Spec PyProof.Rows PySem.Calls
end L2
namespace L2
open PySem PySem.W PySem.Spec PyProof.Rows
section
variable {K : Zhi} {G H₀ L : Hp} {ss : List Sl} {i : Nat} {E : Ends} {te tk tv : TE} {k d : D} {c : TT} {tb : TS}
theorem zxo (I : Nat->List Sl->Prop) (m0 : Nat) (h0 : I m0 ss)
  (hs : ∀ m ss,I m ss -> ∃ b,EvT K G H₀ L ss c b/\(b = true -> ∀ N : St->Hp->Prop,(∀ m' ss,m' < m->I m' ss->Nx K G H₀ L N ss)->Go K G H₀ L { E with nx:=N,ct:=N,bk:=E.nx } ss tb)/\(b = false->Nx K G H₀ L E.nx ss)) : Go K G H₀ L E ss (zz1 c tb):=fun F H σ S =>
 ⟨fun m σ' H'=>At K G H₀ L (I m) σ' H',⟨m0,ss,F,S,h0⟩,fun m σ' H' ⟨ss1,F1,S1,h1⟩=>by
  obtain ⟨b,ev,ht,hf⟩:=hs m ss1 h1
  refine ev F1 H' σ' _ S1 fun F2 H2 e2=>?_
  cases b with
  | true =>
   rw [if_pos rfl]
   exact ⟨fun σ'' H''=>∃ m',m' < m/\At K G H₀ L (I m') σ'' H'',fun σ'' H'' h=>h,ht rfl _ (fun m' ss hm hI=>fun F3 H3 σ3 S3=>⟨m',hm,ss,F3,S3,hI⟩) F2 H2 σ' (S1.ext2 e2)⟩
  | false =>
   rw [if_neg Zih]
   exact hf rfl F2 H2 σ' (S1.ext2 e2)⟩
end
end L2
namespace L2
theorem zi3 {α : Type} {P : List α->Prop} (h0 : P []) (hs : ∀ xs x,P xs->P (xs++[x])) (xs : List α) : P xs:=by
 have : ∀ ys : List α,P ys.reverse:=by
  intro ys
  induction ys with
  | nil=>exact h0
  | cons y ys ih=>rw [Zku]; exact hs _ _ ih
 have:=this xs.reverse
 rwa [Zra] at this
section
variable {β γ : Type} [DecidableEq β] [DecidableEq γ]
noncomputable def ddS (acc : List β) (x : β) : List β:=if x∈acc then acc else acc++[x]
noncomputable def dd (ls : List β) : List β:=ls.foldl ddS []
theorem zm7 (ls : List β) (x : β) : dd (ls++[x]) = ddS (dd ls) x:=by unfold dd; rw [Zjl]; rfl
theorem zfb {x : β} (ls : List β) : x∈dd ls ↔ x∈ls:=by
 induction ls using zi3 generalizing x with
 | h0=>exact Zst
 | hs ls y ih =>
  rw [zm7]
  unfold ddS
  by_cases h : y∈dd ls
  ·rw [if_pos h,ih,Zhw,Zhp]
   exact ⟨.inl,fun z=>z.elim id fun e=>e ▸ ih.mp h⟩
  ·rw [if_neg h,Zhw,Zhw,ih]
theorem zig {ls : List β} {x : β} (h : x∈ls) : dd (ls++[x]) = dd ls:=by rw [zm7]; exact if_pos ((zfb ls).mpr h)
theorem zey {ls : List β} {x : β} (h : x ∉ ls) : dd (ls++[x]) = dd ls++[x]:=by rw [zm7]; exact if_neg fun z=>h ((zfb ls).mp z)
theorem zqm {ls : List β} {x y : β} (h : x∈ls) : (ls++[y]).idxOf x = ls.idxOf x:=by rw [Zrz,if_pos h]
theorem zkc {ls : List β} {x : β} (h : x ∉ ls) : ls.idxOf x = ls.length:=List.idxOf_eq_length h
theorem zhi {ls : List β} {x : β} (h : x∈ls) : ls.idxOf x < ls.length:=Zju.mpr h
theorem zys {ls : List β} {x : β} : ls.idxOf x <= ls.length:=List.idxOf_le_length
theorem zof {ls : List β} {x y : β} (h : x ∉ ls) : (ls++[y]).idxOf x = if y = x then ls.length else ls.length + 1:=by
 rw [Zrz,if_neg h]
 by_cases e : y = x
 ·subst e; rw [if_pos rfl]; simp
 ·rw [if_neg e]
  have : [y].idxOf x = 1:=by
   rw [zkc (by simp; exact fun z=>e z.symm)]; rfl
  omega
theorem zqo {ls : List β} {x : β} : (ls++[x]).idxOf x = ls.idxOf x:=by
 by_cases h : x∈ls
 ·exact zqm h
 ·rw [zof h,if_pos rfl,zkc h]
noncomputable def numF (ls : List β) : List Nat:=ls.map fun x=>(dd ls).idxOf x
theorem zga (ls : List β) (x : β) : numF (ls++[x]) = numF ls++[(dd ls).idxOf x]:=by
 unfold numF
 rw [Zh4,Zmt]
 congr 1
 ·refine Zip fun y hy=>?_
  by_cases h : x∈ls
  ·rw [zig h]
  ·rw [zey h,zqm ((zfb ls).mpr hy)]
 ·by_cases h : x∈ls
  ·rw [zig h]
  ·rw [zey h,zqo]
theorem znb (ls : List β) : (numF ls).length = ls.length:=by unfold numF; rw [Zhk]
noncomputable def fstF (ls : List β) : List Nat:=ls.map fun x=>ls.idxOf x
theorem zfd (ls : List β) : (fstF ls).length = ls.length:=by unfold fstF; rw [Zhk]
theorem zme (ls : List β) (x : β) : fstF (ls++[x]) = fstF ls++[ls.idxOf x]:=by
 unfold fstF
 rw [Zh4,Zmt,zqo]
 congr 1
 exact Zip fun y hy=>zqm hy
noncomputable def cntF (F : List Nat) (k : Nat) : Nat:=((Zhm k).filter fun j=>decide (F[j]? = some j)).length
theorem zjl (F : List Nat) (k : Nat) : cntF F (k + 1) = cntF F k + if F[k]? = some k then 1 else 0:=by
 unfold cntF
 rw [Zld,Zj0,Zh1]
 by_cases h : F[k]? = some k
 ·rw [if_pos h]; simp [h]
 ·rw [if_neg h]; simp [h]
theorem zkq {F : List Nat} {y k : Nat} (h : k <= F.length) : cntF (F++[y]) k = cntF F k:=by
 unfold cntF
 congr 1
 refine Zl3 fun j hj=>?_
 have : j < F.length:=Zh9 (Zia.mp hj) h
 rw [Zi8 this]
theorem zyg (F : List Nat) {k k' : Nat} (h : k <= k') : cntF F k <= cntF F k':=by
 induction k' with
 | zero=>rw [Zu5.mp h]; exact Zhu _
 | succ n ih =>
  rw [zjl]
  rcases Znv n k with c | c
  ·have : k = n + 1:=by omega
   subst this
   rw [zjl]; exact Zhu _
  ·have:=ih c; omega
theorem zz0 {F : List Nat} {k k' : Nat} (hk : F[k]? = some k) (h : k < k') : cntF F k < cntF F k':=by
 have h1:=zjl F k
 rw [if_pos hk] at h1
 have:=zyg F (show k + 1 <= k' from h)
 omega
theorem zwl (ls : List β) : ∀ x,(dd ls).idxOf x = cntF (fstF ls) (ls.idxOf x):=by
 induction ls using zi3 with
 | h0=>intro x; rfl
 | hs ls z ih =>
  intro x
  have fl:=zfd ls
  rw [zme]
  by_cases hx : x∈ls
  ·rw [zqm hx,zkq (by rw [fl]; exact zys),<- ih]
   by_cases hz : z∈ls
   ·rw [zig hz]
   ·rw [zey hz,zqm ((zfb ls).mpr hx)]
  ·have h0:=ih x
   rw [zkc hx] at h0
   have hxd : x ∉ dd ls:=fun q=>hx ((zfb ls).mp q)
   by_cases hz : z∈ls
   ·have hzx : z≠x:=fun e=>hx (e ▸ hz)
    rw [zig hz,zof hx,if_neg hzx,zjl,zkq (by rw [fl]; exact Zhu _),h0]
    have : (fstF ls++[ls.idxOf z])[ls.length]? = some (ls.idxOf z):=by rw [<- fl,Ziw (Zhu _)]; simp
    rw [this,if_neg]
    ·rfl
    ·intro e; injection e with e; have:=zhi hz; omega
   ·rw [zey hz,zof hxd,zof hx]
    have hl : (dd ls).length = cntF (fstF ls) ls.length:=by rw [<- h0,zkc hxd]
    by_cases e : z = x
    ·rw [if_pos e,if_pos e,zkq (by rw [fl]; exact Zhu _),hl]
    ·rw [if_neg e,if_neg e,zjl,zkq (by rw [fl]; exact Zhu _),hl]
     have : (fstF ls++[ls.idxOf z])[ls.length]? = some (ls.idxOf z):=by rw [<- fl,Ziw (Zhu _)]; simp
     rw [this,zkc hz,if_pos rfl]
theorem zpo : ∀ {a b : List Nat} {x y : Nat},a.length = b.length->(a++[x] < b++[y] ↔ a < b \/ (a = b/\x < y))
 | [],[],x,y,_=>by
  rw [Zsi,Zsi,Zi1]
  exact ⟨fun z=>.inr ⟨rfl,z.elim id fun q=>absurd q.2 (Zlq _)⟩,fun z=>z.elim (fun q=>absurd q (Zlq _)) fun q=>.inl q.2⟩
 | [],_::_,_,_,h=>by simp at h
 | _::_,[],_,_,h=>by simp at h
 | c::a,d::b,x,y,h=>by
  have ih:=zpo (a:=a) (b:=b) (x:=x) (y:=y) (by simpa using h)
  rw [Zo6,Zo6,Zi1,Zi1,ih]
  constructor
  ·rintro (k | ⟨rfl,k | ⟨rfl,k⟩⟩)
   ·exact .inl (.inl k)
   ·exact .inl (.inr ⟨rfl,k⟩)
   ·exact .inr ⟨rfl,k⟩
  ·rintro ((k | ⟨rfl,k⟩) | ⟨e,k⟩)
   ·exact .inl k
   ·exact .inr ⟨rfl,.inl k⟩
   ·injection e with e1 e2
    exact .inr ⟨e1,.inr ⟨e2,k⟩⟩
theorem zuo {α : Type} {a b : List α} {x y : α} : a++[x] = b++[y] ↔ a = b/\x = y:=by
 constructor
 ·intro h
  have:=List.append_inj' h rfl
  exact ⟨this.1,by simpa using this.2⟩
 ·rintro ⟨rfl,rfl⟩; rfl
theorem zrg {ls : List β} {x : β} : ls.idxOf x = ls.length \/ (fstF ls)[ls.idxOf x]? = some (ls.idxOf x):=by
 by_cases h : x∈ls
 ·refine .inr ?_
  unfold fstF
  rw [Zho,Zhj (zhi h),Zng,Zjm]
 ·exact .inl (zkc h)
theorem zqz (n : Nat) : ∀ (ls : List β) (ms : List γ),ls.length = n->ms.length = n->((numF ls < numF ms ↔ fstF ls < fstF ms)/\(numF ls = numF ms ↔ fstF ls = fstF ms)):=by
 induction n with
 | zero =>
  intro ls ms h1 h2
  rw [Zqm.mp h1,Zqm.mp h2]
  exact ⟨Zst,Zst⟩
 | succ n ih =>
  intro ls ms h1 h2
  rcases Zq4 ls with rfl | ⟨ls,x,rfl⟩
  ·simp at h1
  rcases Zq4 ms with rfl | ⟨ms,y,rfl⟩
  ·simp at h2
  simp only [List.concat_eq_append] at h1 h2 ⊢
  rw [Zh1] at h1 h2
  have h1 : ls.length = n:=by simpa using h1
  have h2 : ms.length = n:=by simpa using h2
  obtain ⟨i1,i2⟩:=ih ls ms h1 h2
  have key : fstF ls = fstF ms->(((dd ls).idxOf x < (dd ms).idxOf y ↔ ls.idxOf x < ms.idxOf y)/\((dd ls).idxOf x = (dd ms).idxOf y ↔ ls.idxOf x = ms.idxOf y)):=fun e=>by
   rw [zwl,zwl,e]
   have g1:=zrg (ls:=ls) (x:=x)
   have g2:=zrg (ls:=ms) (x:=y)
   rw [e] at g1
   have b1:=zys (ls:=ls) (x:=x)
   have b2:=zys (ls:=ms) (x:=y)
   rcases Zlk (ls.idxOf x) (ms.idxOf y) with c | c | c
   ·have:=zz0 (g1.resolve_left (by omega)) c
    exact ⟨⟨fun _=>c,fun _=>this⟩,⟨fun z=>by omega,fun z=>by omega⟩⟩
   ·rw [c]; exact ⟨⟨fun z=>absurd z (Zi3 _),fun z=>absurd z (Zi3 _)⟩,⟨fun _=>rfl,fun _=>rfl⟩⟩
   ·have:=zz0 (g2.resolve_left (by omega)) c
    exact ⟨⟨fun z=>by omega,fun z=>by omega⟩,⟨fun z=>by omega,fun z=>by omega⟩⟩
  rw [zga,zga,zme,zme,zpo (by rw [znb,znb,h1,h2]),zpo (by rw [zfd,zfd,h1,h2]),zuo,zuo,i1,i2]
  constructor
  ·constructor
   ·rintro (z | ⟨z1,z2⟩)
    ·exact .inl z
    ·exact .inr ⟨z1,(key z1).1.mp z2⟩
   ·rintro (z | ⟨z1,z2⟩)
    ·exact .inl z
    ·exact .inr ⟨z1,(key z1).1.mpr z2⟩
  ·constructor
   ·rintro ⟨z1,z2⟩; exact ⟨z1,(key z1).2.mp z2⟩
   ·rintro ⟨z1,z2⟩; exact ⟨z1,(key z1).2.mpr z2⟩
noncomputable def ngF (g : List Nat) : Nat:=g.foldl (fun a x=>max a (x + 1)) 0
theorem zm9 (g : List Nat) (x : Nat) : ngF (g++[x]) = max (ngF g) (x + 1):=by unfold ngF; rw [Zjl]; rfl
theorem zlb (ls : List β) : ngF (numF ls) = (dd ls).length:=by
 induction ls using zi3 with
 | h0=>rfl
 | hs ls x ih =>
  rw [zga,zm9,ih]
  by_cases h : x∈ls
  ·rw [zig h]
   have:=zhi ((zfb (x:=x) ls).mpr h)
   omega
  ·rw [zey h,zkc fun z=>h ((zfb ls).mp z),Zh1]
   simp
noncomputable def rgs : Nat->List (List Nat)
 | 0=>[[]]
 | n + 1=>(rgs n).flatMap fun g=>(Zhm (ngF g + 1)).map fun x=>g++[x]
theorem zj4 {n : Nat} {g : List Nat} : g∈rgs (n + 1) ↔ ∃ g'∈rgs n,∃ x,x <= ngF g'/\g = g'++[x]:=by
 rw [rgs,List.mem_flatMap]
 constructor
 ·rintro ⟨g',h1,h2⟩
  obtain ⟨x,hx,rfl⟩:=Zh3.mp h2
  exact ⟨g',h1,x,by have:=Zia.mp hx; omega,rfl⟩
 ·rintro ⟨g',h1,x,hx,rfl⟩
  exact ⟨g',h1,Zh3.mpr ⟨x,Zia.mpr (by omega),rfl⟩⟩
theorem zjs {n : Nat} : ∀ {g : List Nat},g∈rgs n->g.length = n:=by
 induction n with
 | zero=>intro g h; rw [rgs] at h; rw [Zhp.mp h]; rfl
 | succ n ih =>
  intro g h
  obtain ⟨g',h1,x,_,rfl⟩:=zj4.mp h
  rw [Zh1,ih h1]; rfl
theorem zpm (ls : List β) : numF ls∈rgs ls.length:=by
 induction ls using zi3 with
 | h0=>exact Zhp.mpr rfl
 | hs ls x ih =>
  rw [zga,Zh1]
  exact zj4.mpr ⟨_,ih,_,by rw [zlb]; exact zys,rfl⟩
theorem zyl (k : Nat) : ∀ x,x <= k->(Zhm k).idxOf x = x:=by
 induction k with
 | zero=>intro x h; rw [Zu5.mp h]; rfl
 | succ k ih =>
  intro x h
  rw [Zld]
  rcases Znv x k with c | c
  ·rw [zqm (Zia.mpr c),ih x (by omega)]
  ·rw [zof (fun z=>by have:=Zia.mp z; omega),Zjt]
   by_cases e : k = x
   ·rw [if_pos e]; exact e
   ·rw [if_neg e]; omega
theorem zzn {n : Nat} : ∀ {g : List Nat},g∈rgs n->dd g = Zhm (ngF g):=by
 induction n with
 | zero=>intro g h; rw [rgs] at h; rw [Zhp.mp h]; rfl
 | succ n ih =>
  intro g h
  obtain ⟨g',h1,x,hx,rfl⟩:=zj4.mp h
  have e:=ih h1
  have hm : x∈g' ↔ x < ngF g':=by rw [<- zfb g',e,Zia]
  rw [zm9]
  rcases Znv x (ngF g') with c | c
  ·rw [zig (hm.mpr c),e]; congr 1; omega
  ·have : x = ngF g':=by omega
   rw [zey (fun z=>by have:=hm.mp z; omega),e,this]
   rw [show max (ngF g') (ngF g' + 1) = ngF g' + 1 by omega,Zld]
theorem zq1 {n : Nat} : ∀ {g : List Nat},g∈rgs n->numF g = g:=by
 induction n with
 | zero=>intro g h; rw [rgs] at h; rw [Zhp.mp h]; rfl
 | succ n ih =>
  intro g h
  obtain ⟨g',h1,x,hx,rfl⟩:=zj4.mp h
  rw [zga,ih h1,zzn h1,zyl _ _ hx]
theorem zsa (ls : List β) {i j : Nat} {x y : β} (hi : ls[i]? = some x) (hj : ls[j]? = some y) : (numF ls).getD i 0 = (numF ls).getD j 0 ↔ x = y:=by
 have e : ∀ {k : Nat} {z : β},ls[k]? = some z->(numF ls).getD k 0 = (dd ls).idxOf z:=fun {k z} h=>by
  unfold numF
  rw [Zhh,Zho,h]; rfl
 rw [e hi,e hj]
 constructor
 ·intro h
  have hx : x∈dd ls:=(zfb ls).mpr (Zhs hi)
  have h1:=Zjm (zhi hx)
  have hy : y∈dd ls:=(zfb ls).mpr (Zhs hj)
  have h2:=Zjm (zhi hy)
  rw [<- h1,<- h2]
  exact getElem_congr rfl h _
 ·rintro rfl; rfl
theorem zns {α : Type} (xs : List α) (f : α->β) (g : α->γ) : (∀ a∈xs,∀ b∈xs,(f a = f b ↔ g a = g b))->numF (xs.map f) = numF (xs.map g):=by
 intro h
 refine (zqz _ _ _ (Zhk _) (Zhk _)).2.mpr ?_
 unfold fstF
 rw [Zim,Zim]
 refine Zip fun a ha=>?_
 show (xs.map f).idxOf (f a) = (xs.map g).idxOf (g a)
 have : ∀ ys : List α,(∀ b∈ys,(f b = f a ↔ g b = g a))->(ys.map f).idxOf (f a) = (ys.map g).idxOf (g a):=by
  intro ys
  induction ys with
  | nil=>intro _; rfl
  | cons y ys ih =>
   intro hy
   rw [Zh5,Zh5,Znp,Znp,ih fun b hb=>hy b (Zhv _ hb)]
   have : (f y == f a) = (g y == g a):=by rw [Zil,beq_iff_eq,beq_iff_eq]; exact hy y Zhx
   rw [this]
 exact this xs fun b hb=>h b hb a ha
theorem ydd (φ : β->γ) (ls : List β) : (dd (ls.map φ)).length <= (dd ls).length/\((dd (ls.map φ)).length = (dd ls).length -> ∀ x∈ls,∀ y∈ls,φ x = φ y->x = y):=by
 induction ls using zi3 with
 | h0=>exact ⟨Zhu _,fun _ x hx=>by simp at hx⟩
 | hs ls z ih =>
  obtain ⟨i1,i2⟩:=ih
  rw [Zh4,Zmt]
  by_cases hz : z∈ls
  ·rw [zig hz,zig (Zjs hz)]
   refine ⟨i1,fun e x hx y hy=>?_⟩
   have : ∀ {u : β},u∈ls++[z]->u∈ls:=fun {u} hu=>by
    rcases Zhw.mp hu with q | q
    ·exact q
    ·rw [Zhp.mp q]; exact hz
   exact i2 e x (this hx) y (this hy)
  ·rw [zey hz,Zh1]
   by_cases hm : φ z∈ls.map φ
   ·rw [zig hm]
    refine ⟨by omega,fun e=>?_⟩
    have : [z].length = 1:=rfl
    omega
   ·rw [zey hm,Zh1]
    refine ⟨Zrf i1 _,fun e x hx y hy hxy=>?_⟩
    have e' : (dd (ls.map φ)).length = (dd ls).length:=by
     have h1 : [φ z].length = 1:=rfl
     have h2 : [z].length = 1:=rfl
     omega
    rcases Zhw.mp hx with q | q <;> rcases Zhw.mp hy with r | r
    ·exact i2 e' x q y r hxy
    ·rw [Zhp.mp r] at hxy ⊢
     exact absurd (hxy ▸ Zjs q) hm
    ·rw [Zhp.mp q] at hxy ⊢
     exact absurd (hxy ▸ Zjs r) hm
    ·rw [Zhp.mp q,Zhp.mp r]
theorem zxv (π : β->Bool) (ls : List β) : (dd ls).length = (dd (ls.filter π)).length + (dd (ls.filter fun x=>!π x)).length:=by
 induction ls using zi3 with
 | h0=>rfl
 | hs ls z ih =>
  rw [Zj0,Zj0]
  cases hp : π z with
  | true =>
   rw [Zkg hp,Zkx,Zkh (by simp [hp]),Zkx,Zjj]
   by_cases hz : z∈ls
   ·rw [zig hz,zig (Zh0.mpr ⟨hz,hp⟩),ih]
   ·rw [zey hz,zey (fun q=>hz (Zh0.mp q).1),Zh1,Zh1,ih]
    omega
  | false =>
   rw [Zkh (by simp [hp]),Zkx,Zjj,Zkg (by simp [hp]),Zkx]
   by_cases hz : z∈ls
   ·rw [zig hz,zig (Zh0.mpr ⟨hz,by simp [hp]⟩),ih]
   ·rw [zey hz,zey (fun q=>hz (Zh0.mp q).1),Zh1,Zh1,ih]
    omega
noncomputable def ixo (ls : List β) (x : β) : Nat:=ls.idxOf x
theorem ydx {ls : List β} {x y : β} (h : x∈ls) : ixo (ls++[y]) x = ixo ls x:=zqm h
theorem zre {ls : List β} {x : β} : ixo (ls++[x]) x = ixo ls x:=zqo
theorem zz3 {ls : List β} {x : β} (h : x ∉ ls) : ixo ls x = ls.length:=zkc h
theorem zs1 (ls : List β) (x : β) : numF (ls++[x]) = numF ls++[ixo (dd ls) x]:=zga ls x
end
end L2
namespace L2
noncomputable abbrev Apt:=Nat × Nat
noncomputable abbrev Pr:=Nat × Nat × Int
noncomputable def absI (w : Int) : Int:=if w < 0 then -w else w
theorem ybd (w : Int) : 0 <= absI w:=by unfold absI; split <;> omega
section
variable {β γ : Type} [DecidableEq β] [DecidableEq γ]
noncomputable def zg1 (f : Nat->β) (p : Pr) : Int:=if decide (f p.1 = f p.2.1) = decide (0 < p.2.2) then 0 else absI p.2.2
theorem zxx (f : Nat->β) (p : Pr) : 0 <= zg1 f p:=by unfold zg1; split; exact Zof _; exact ybd _
theorem zgw {f : Nat->β} {g : Nat->γ} {p : Pr} (h : f p.1 = f p.2.1 ↔ g p.1 = g p.2.1) : zg1 f p = zg1 g p:=by
 unfold zg1
 have : decide (f p.1 = f p.2.1) = decide (g p.1 = g p.2.1):=by rw [Zil,decide_eq_true_eq,decide_eq_true_eq]; exact h
 rw [this]
noncomputable def sumI : List Int->Int
 | []=>0
 | x::xs=>x + sumI xs
noncomputable def zs9 (f : Nat->β) (ps : List Pr) : Int:=sumI (ps.map (zg1 f))
theorem zzg {α : Type} {f g : α->Int} : ∀ {ps : List α},(∀ p∈ps,f p <= g p)->sumI (ps.map f) <= sumI (ps.map g)
 | [],_=>Zof _
 | p::ps,h=>by
  have h1:=h p Zhx
  have h2:=zzg fun q hq=>h q (Zhv _ hq)
  show f p + sumI _ <= g p + sumI _
  omega
theorem zi2 {α : Type} {f g : α->Int} {ps : List α} (h : ∀ p∈ps,f p = g p) : sumI (ps.map f) = sumI (ps.map g):=by rw [Zip h]
theorem zlk {α : Type} (f : α->Int) (π : α->Bool) : ∀ ps : List α,sumI (ps.map f) = sumI ((ps.filter π).map f) + sumI ((ps.filter fun p=>!π p).map f)
 | []=>rfl
 | p::ps=>by
  have ih:=zlk f π ps
  show f p + sumI (ps.map f) = _
  cases hp : π p with
  | true =>
   rw [Zkg hp,Zkh (by simp [hp])]
   show _ = f p + sumI _ + _
   omega
  | false =>
   rw [Zkh (by simp [hp]),Zkg (by simp [hp])]
   show _ = _ + (f p + sumI _)
   omega
end
noncomputable def atG (g : List Nat) (i : Nat) : Nat:=g.getD i 0
noncomputable def toI (g : List Nat) : List Int:=g.map fun n : Nat=>(n : Int)
noncomputable def lossG (ps : List Pr) (g : List Nat) : Int:=zs9 (atG g) ps
noncomputable def keyG (ps : List Pr) (g : List Nat) : List Int:=lossG ps g::(1 - (ngF g : Int))::toI g
noncomputable def zkl (as : List Apt) (g : List Nat) : Prop:=∀ a∈as,atG g a.1≠atG g a.2
noncomputable instance (as : List Apt) (g : List Nat) : Decidable (zkl as g):=by unfold zkl; infer_instance
theorem zzm : ∀ {g h : List Nat},toI g < toI h ↔ g < h
 | [],[]=>by unfold toI; simp
 | [],_::_=>by unfold toI; simp
 | _::_,[]=>by unfold toI; simp
 | x::g,y::h=>by
  have ih:=zzm (g:=g) (h:=h)
  unfold toI at ih ⊢
  rw [Zh5,Zh5,Zi1,Zi1,ih]
  constructor
  ·rintro (z | ⟨z,q⟩)
   ·exact .inl (by omega)
   ·exact .inr ⟨by omega,q⟩
  ·rintro (z | ⟨z,q⟩)
   ·exact .inl (by omega)
   ·exact .inr ⟨by omega,q⟩
theorem zqr {ps qs : List Pr} {g h : List Nat} : keyG ps g < keyG qs h ↔ lossG ps g < lossG qs h \/ (lossG ps g = lossG qs h/\(ngF h < ngF g \/ (ngF g = ngF h/\g < h))):=by
 unfold keyG
 rw [Zi1,Zi1,zzm]
 constructor
 ·rintro (z | ⟨z,q | ⟨q,r⟩⟩)
  ·exact .inl z
  ·exact .inr ⟨z,.inl (by omega)⟩
  ·exact .inr ⟨z,.inr ⟨by omega,r⟩⟩
 ·rintro (z | ⟨z,q | ⟨q,r⟩⟩)
  ·exact .inl z
  ·exact .inr ⟨z,.inl (by omega)⟩
  ·exact .inr ⟨z,.inr ⟨by omega,r⟩⟩
theorem zyt {ps : List Pr} {g h : List Nat} (h1 : ¬ keyG ps g < keyG ps h) (h2 : ¬ keyG ps h < keyG ps g) : g = h:=by
 have e : keyG ps g = keyG ps h:=List.le_antisymm (Zpg.mp h2) (Zpg.mp h1)
 unfold keyG at e
 injection e with _ e
 injection e with _ e
 unfold toI at e
 have:=congrArg (Zs5 Int.toNat) e
 rw [Zim,Zim] at this
 exact (Zmm g).symm.trans (this.trans (Zmm h))
noncomputable def inB (B : List Nat) (i j : Nat) : Bool:=decide (i∈B) && decide (j∈B)
noncomputable def inP (B : List Nat) (ps : List Pr) : List Pr:=(ps.filter fun p=>inB B p.1 p.2.1).map fun p=>(B.idxOf p.1,B.idxOf p.2.1,p.2.2)
noncomputable def inA (B : List Nat) (as : List Apt) : List Apt:=(as.filter fun a=>inB B a.1 a.2).map fun a=>(B.idxOf a.1,B.idxOf a.2)
theorem zxb {β γ : Type} [DecidableEq β] [DecidableEq γ] {f : Nat->β} {g : Nat->γ} {ps : List Pr} (h : ∀ p∈ps,(f p.1 = f p.2.1 ↔ g p.1 = g p.2.1)) : zs9 f ps = zs9 g ps:=zi2 fun p hp=>zgw (h p hp)
section
variable {β γ : Type} [DecidableEq β] [DecidableEq γ]
theorem zm2 {m : Nat} {f : Nat->β} {ps : List Pr} (h : ∀ p∈ps,p.1 < m/\p.2.1 < m) : lossG ps (numF ((Zhm m).map f)) = zs9 f ps:=by
 refine zxb fun p hp=>?_
 obtain ⟨h1,h2⟩:=h p hp
 exact zsa _ (by rw [Zho,Zji h1]; rfl) (by rw [Zho,Zji h2]; rfl)
theorem ztd {B : List Nat} {b : Nat} (h : b∈B) : B[B.idxOf b]? = some b:=by
 rw [Zhj (zhi h),Zjm]
theorem zwo {B : List Nat} {f : Nat->β} {ps : List Pr} : lossG (inP B ps) (numF (B.map f)) = zs9 f (ps.filter fun p=>inB B p.1 p.2.1):=by
 unfold lossG zs9 inP
 rw [Zim]
 refine zi2 fun p hp=>?_
 obtain ⟨_,hb⟩:=Zh0.mp hp
 obtain ⟨h1,h2⟩ : p.1∈B/\p.2.1∈B:=by simpa [inB] using hb
 have:=zsa (B.map f) (i:=B.idxOf p.1) (j:=B.idxOf p.2.1) (by rw [Zho,ztd h1]; rfl) (by rw [Zho,ztd h2]; rfl)
 show zg1 (atG (numF (B.map f))) (B.idxOf p.1,B.idxOf p.2.1,p.2.2) = zg1 f p
 unfold zg1
 have e : decide (atG (numF (B.map f)) (B.idxOf p.1) = atG (numF (B.map f)) (B.idxOf p.2.1)) = decide (f p.1 = f p.2.1):=by rw [Zil,decide_eq_true_eq,decide_eq_true_eq]; exact this
 show (if decide (atG (numF (B.map f)) (B.idxOf p.1) = atG (numF (B.map f)) (B.idxOf p.2.1)) = _ then _ else _) = _
 rw [e]
theorem zwk {m : Nat} {ps : List Pr} {as : List Apt} {place : Nat->Nat} {h : List Nat} (hh : h∈rgs m) (hk : zkl as h) (hin : ∀ p∈ps,p.1 < m/\p.2.1 < m) (hl : ∀ p∈ps,0 < p.2.2->place p.1 = place p.2.1 \/ (p.1,p.2.1)∈as) :
  ¬ keyG ps h < keyG ps (numF ((Zhm m).map fun b=>(place b,atG h b))):=by
 have hlen:=zjs hh
 have e1 : (Zhm m).map (atG h) = h:=by
  refine Zkl fun i=>?_
  rw [Zho]
  by_cases hi : i < m
  ·rw [Zji hi]
   show some (atG h i) = _
   unfold atG
   rw [Zhh,Zhj (by omega)]; rfl
  ·rw [Zis (by simp; omega),Zis (by omega)]; rfl
 have e2 : ((Zhm m).map fun b=>(place b,atG h b)).map Zs1 = h:=by rw [Zim]; exact e1
 obtain ⟨d1,d2⟩:=ydd (Zs1 : Nat × Nat->Nat) ((Zhm m).map fun b=>(place b,atG h b))
 rw [e2] at d1 d2
 have hn : ngF h = (dd h).length:=by have:=zlb h; rw [zq1 hh] at this; exact this
 have hL : lossG ps (numF ((Zhm m).map fun b=>(place b,atG h b))) <= lossG ps h:=by
  rw [zm2 hin]
  unfold lossG
  refine zzg fun p hp=>?_
  by_cases hq : place p.1 = place p.2.1
  ·refine Zuq (zgw ?_)
   rw [Zmb]
   exact ⟨fun z=>z.2,fun z=>⟨hq,z⟩⟩
  ·have hne : ¬ ((place p.1,atG h p.1) = (place p.2.1,atG h p.2.1)):=fun z=>hq (by injection z)
   rcases Int.lt_or_le 0 p.2.2 with c | c
   ·have:=hk _ ((hl p hp c).resolve_left hq)
    refine Zuq (zgw ⟨fun z=>absurd z hne,fun z=>absurd z this⟩)
   ·have : zg1 (fun b=>(place b,atG h b)) p = 0:=by
     unfold zg1
     rw [decide_eq_false hne,decide_eq_false (by omega),if_pos rfl]
    rw [this]; exact zxx _ _
 rw [zqr,zlb,hn]
 rintro (z | ⟨z,q | ⟨q,r⟩⟩)
 ·omega
 ·omega
 ·have inj:=d2 q
  have : numF ((Zhm m).map fun b=>(place b,atG h b)) = numF ((Zhm m).map (atG h)):=zns _ _ _ fun a ha b hb=>by
   rw [Zmb]
   refine ⟨fun z=>z.2,fun z=>?_⟩
   have:=inj (place a,atG h a) (Zh3.mpr ⟨a,ha,rfl⟩) (place b,atG h b) (Zh3.mpr ⟨b,hb,rfl⟩) z
   rw [Zmb] at this
   exact this
  rw [this,e1,zq1 hh] at r
  exact Zlq _ r
theorem yag {m : Nat} {ps : List Pr} {B : List Nat} {π : Nat->Bool} {f : Nat->β} {g : Nat->γ} (hin : ∀ p∈ps,p.1 < m/\p.2.1 < m) (hB : B = (Zhm m).filter π) (hout : ∀ a < m,∀ b < m,π a = false->π b = false->(f a = f b ↔ g a = g b))
  (hf : ∀ a < m,∀ b < m,π a = true->π b = false->f a≠f b) (hg : ∀ a < m,∀ b < m,π a = true->π b = false->g a≠g b) (hle : ¬ keyG (inP B ps) (numF (B.map f)) < keyG (inP B ps) (numF (B.map g))) :
  ¬ keyG ps (numF ((Zhm m).map f)) < keyG ps (numF ((Zhm m).map g)):=by
 have memB : ∀ {b : Nat},b < m->(b∈B ↔ π b = true):=fun {b} hb=>by
  rw [hB,Zh0,Zia]; exact ⟨fun z=>z.2,fun z=>⟨hb,z⟩⟩
 have hs:=zlk (zg1 f) (fun p : Pr=>inB B p.1 p.2.1) ps
 have hs2:=zlk (zg1 g) (fun p : Pr=>inB B p.1 p.2.1) ps
 have ho : sumI ((ps.filter fun p=>!inB B p.1 p.2.1).map (zg1 f)) = sumI ((ps.filter fun p=>!inB B p.1 p.2.1).map (zg1 g)):=zi2 fun p hp=>zgw (by
  obtain ⟨h1,h2⟩:=Zh0.mp hp
  obtain ⟨b1,b2⟩:=hin p h1
  have h2 : ¬ (p.1∈B/\p.2.1∈B):=fun z=>by rw [show inB B p.1 p.2.1 = true by unfold inB; rw [decide_eq_true z.1,decide_eq_true z.2]; rfl] at h2; cases h2
  rw [memB b1,memB b2] at h2
  cases c1 : π p.1 with
  | true =>
   have c2 : π p.2.1 = false:=by cases c : π p.2.1 with
    | true=>exact absurd ⟨c1,c⟩ h2
    | false=>rfl
   exact ⟨fun z=>absurd z (hf _ b1 _ b2 c1 c2),fun z=>absurd z (hg _ b1 _ b2 c1 c2)⟩
  | false =>
   cases c2 : π p.2.1 with
   | true=>exact ⟨fun z=>absurd z.symm (hf _ b2 _ b1 c2 c1),fun z=>absurd z.symm (hg _ b2 _ b1 c2 c1)⟩
   | false=>exact hout _ b1 _ b2 c1 c2)
 have l1 : lossG ps (numF ((Zhm m).map f)) = lossG (inP B ps) (numF (B.map f)) + sumI ((ps.filter fun p=>!inB B p.1 p.2.1).map (zg1 f)):=by rw [zm2 hin,zwo]; exact hs
 have l2 : lossG ps (numF ((Zhm m).map g)) = lossG (inP B ps) (numF (B.map g)) + sumI ((ps.filter fun p=>!inB B p.1 p.2.1).map (zg1 f)):=by rw [zm2 hin,zwo,ho]; exact hs2
 have cut : ∀ {δ : Type} [DecidableEq δ] {u : Nat->δ},(∀ a < m,∀ b < m,π a = true->π b = false->u a≠u b)->(dd ((Zhm m).map u)).length = (dd (B.map u)).length + (dd (((Zhm m).filter fun b=>!π b).map u)).length:=fun {δ _ u} hu=>by
  have:=zxv (fun x=>decide (x∈B.map u)) ((Zhm m).map u)
  rw [Znq,Znq] at this
  have q1 : (Zhm m).filter ((fun x=>decide (x∈B.map u)) ∘ u) = B:=by
   rw [hB]
   refine Zl3 fun b hb=>?_
   have hb:=Zia.mp hb
   show decide (u b∈((Zhm m).filter π).map u) = π b
   cases c : π b with
   | true=>exact decide_eq_true (Zh3.mpr ⟨b,Zh0.mpr ⟨Zia.mpr hb,c⟩,rfl⟩)
   | false =>
    refine decide_eq_false fun z=>?_
    obtain ⟨a,ha,e⟩:=Zh3.mp z
    obtain ⟨h1,h2⟩:=Zh0.mp ha
    exact hu a (Zia.mp h1) b hb h2 c e
  have q2 : (Zhm m).filter ((fun x=>!decide (x∈B.map u)) ∘ u) = (Zhm m).filter fun b=>!π b:=by
   refine Zl3 fun b hb=>?_
   have hb:=Zia.mp hb
   show (!decide (u b∈B.map u)) = !π b
   congr 1
   cases c : π b with
   | true=>exact decide_eq_true (Zh3.mpr ⟨b,(memB hb).mpr c,rfl⟩)
   | false =>
    refine decide_eq_false fun z=>?_
    obtain ⟨a,ha,e⟩:=Zh3.mp z
    have ha':=ha
    rw [hB] at ha'
    obtain ⟨h1,h2⟩:=Zh0.mp ha'
    exact hu a (Zia.mp h1) b hb h2 c e
  rw [q1,q2] at this
  exact this
 have n1:=cut hf
 have n2:=cut hg
 have n3 : (dd (((Zhm m).filter fun b=>!π b).map f)).length = (dd (((Zhm m).filter fun b=>!π b).map g)).length:=by
  rw [<- zlb,<- zlb]
  refine congrArg ngF (zns _ _ _ fun a ha b hb=>?_)
  obtain ⟨a1,a2⟩:=Zh0.mp ha
  obtain ⟨b1,b2⟩:=Zh0.mp hb
  exact hout a (Zia.mp a1) b (Zia.mp b1) (by simpa using a2) (by simpa using b2)
 rw [zqr,zlb,zlb] at hle ⊢
 rw [l1,l2,n1,n2,n3]
 rintro (z | ⟨z,q | ⟨q,r⟩⟩)
 ·exact hle (.inl (by omega))
 ·exact hle (.inr ⟨by omega,.inl (by omega)⟩)
 ·refine hle (.inr ⟨by omega,.inr ⟨by omega,?_⟩⟩)
  -- the first place where they differ lies in the part
  have lm : ∀ {δ : Type} (u : Nat->δ),((Zhm m).map u).length = m:=fun u=>by simp
  have r':=(zqz m _ _ (lm f) (lm g)).1.mp r
  refine (zqz B.length _ _ (Zhk _) (Zhk _)).1.mpr ?_
  have glo : ∀ {δ : Type} [DecidableEq δ] (u : Nat->δ) (b : Nat),b < m -> ∀ k,((Zhm m).map u).idxOf (u b) = k ↔ k < m/\u k = u b /\ ∀ c < k,u c≠u b:=fun {δ _} u b hb k=>by
   have hm : u b∈(Zhm m).map u:=Zh3.mpr ⟨b,Zia.mpr hb,rfl⟩
   have hlt:=zhi hm
   rw [lm] at hlt
   have hget:=Zjm (zhi hm)
   rw [Zls,Zrt] at hget
   have hmin : ∀ c < ((Zhm m).map u).idxOf (u b),u c≠u b:=fun c hc z=>by
    have h1 : ((Zhm m).map u)[c]'(by rw [lm]; omega) = u b:=by rw [Zls,Zrt]; exact z
    have h2:=Zqw (p:=(· == u b)) (xs:=(Zhm m).map u) (i:=c) hc
    rw [h1] at h2
    simp at h2
   constructor
   ·rintro rfl
    exact ⟨hlt,hget,hmin⟩
   ·rintro ⟨k1,k2,k3⟩
    rcases Zlk (((Zhm m).map u).idxOf (u b)) k with c | c | c
    ·exact absurd hget (k3 _ c)
    ·exact c
    ·exact absurd k2 (hmin _ c)
  have asc : B.Pairwise (· < ·):=by rw [hB]; exact Zty Zn6 List.pairwise_lt_range
  have bm : ∀ {t : Nat} (h : t < B.length),B[t] < m:=fun {t} h=>by
   have : B[t]∈(Zhm m).filter π:=hB ▸ Zkc h
   exact Zia.mp (Zh0.mp this).1
  have bπ : ∀ {t : Nat} (h : t < B.length),π B[t] = true:=fun {t} h=>(memB (bm h)).mp (Zkc h)
  have mono : ∀ {s t : Nat} (h1 : s < B.length) (h2 : t < B.length),(B[s] < B[t] ↔ s < t):=fun {s t} h1 h2=>by
   rw [Zkr] at asc
   rcases Zlk s t with c | c | c
   ·exact ⟨fun _=>c,fun _=>asc _ _ h1 h2 c⟩
   ·subst c; exact ⟨fun z=>absurd z (Zi3 _),fun z=>absurd z (Zi3 _)⟩
   ·have:=asc _ _ h2 h1 c
    exact ⟨fun z=>by omega,fun z=>by omega⟩
  -- a first within the part
  have loc : ∀ {δ : Type} [DecidableEq δ] (u : Nat->δ),(∀ a < m,∀ b < m,π a = true->π b = false->u a≠u b) -> ∀ t (h : t < B.length),∃ s,∃ hs : s < B.length,(B.map u).idxOf (u B[t]) = s/\((Zhm m).map u).idxOf (u B[t]) = B[s]:=fun {δ _} u hu t ht=>by
   have hm : u B[t]∈B.map u:=Zh3.mpr ⟨_,Zkc ht,rfl⟩
   have hlt:=zhi hm
   rw [Zhk] at hlt
   refine ⟨_,hlt,rfl,(glo u _ (bm ht) _).mpr ⟨bm hlt,?_,fun c hc z=>?_⟩⟩
   ·have hget:=Zjm (zhi hm)
    rw [Zls] at hget
    exact hget
   ·have hcm : c < m:=Zk0 hc (bm hlt)
    have hcB : c∈B:=(memB hcm).mpr (by
     cases q : π c with
     | true=>rfl
     | false=>exact absurd z.symm (hu _ (bm ht) _ hcm (bπ ht) q))
    obtain ⟨s,hs,rfl⟩:=Zmn hcB
    have hst : s < (B.map u).idxOf (u B[t]):=(mono hs hlt).mp hc
    have h2:=Zqw (p:=(· == u B[t])) (xs:=B.map u) (i:=s) hst
    rw [Zls,z] at h2
    simp at h2
  rw [List.lt_iff_exists] at r' ⊢
  rcases r' with ⟨_,z⟩ | ⟨b,hb1,hb2,heq,hlt⟩
  ·rw [zfd,zfd,lm,lm] at z; omega
  ·refine .inr ?_
   rw [zfd,lm] at hb1
   have ga : ∀ {δ : Type} [DecidableEq δ] (u : Nat->δ) (c : Nat) (h : c < (fstF ((Zhm m).map u)).length),(fstF ((Zhm m).map u))[c] = ((Zhm m).map u).idxOf (u c):=fun {δ _} u c h=>by
    simp [fstF]
   have gb : ∀ {δ : Type} [DecidableEq δ] (u : Nat->δ) (c : Nat) (h : c < (fstF (B.map u)).length) (hc : c < B.length),(fstF (B.map u))[c] = (B.map u).idxOf (u B[c]):=fun {δ _} u c h hc=>by
    simp [fstF]
   rw [ga,ga] at hlt
   have heq' : ∀ c < b,((Zhm m).map f).idxOf (f c) = ((Zhm m).map g).idxOf (g c):=fun c hc=>by
    have:=heq c hc
    rw [ga,ga] at this
    exact this
   have hbB : π b = true:=by
    cases q : π b with
    | true=>rfl
    | false =>
     refine absurd hlt (Nat.not_lt.mpr (Zup ?_))
     symm
     refine (glo f b hb1 _).mpr ?_
     obtain ⟨k1,k2,k3⟩:=(glo g b hb1 _).mp rfl
     have πk : ∀ c,c < m->g c = g b->π c = false:=fun c hc z=>by
      cases w : π c with
      | false=>rfl
      | true=>exact absurd z (hg c hc b hb1 w q)
     refine ⟨k1,(hout _ k1 _ hb1 (πk _ k1 k2) q).mpr k2,fun c hc z=>?_⟩
     have hcm:=Zk0 hc k1
     have : π c = false:=by
      cases w : π c with
      | false=>rfl
      | true=>exact absurd z (hf c hcm b hb1 w q)
     exact k3 c hc ((hout _ hcm _ hb1 this q).mp z)
   obtain ⟨t,ht,rfl⟩:=Zmn ((memB hb1).mpr hbB)
   refine ⟨t,by rw [zfd,Zhk]; exact ht,by rw [zfd,Zhk]; exact ht,fun s hs=>?_,?_⟩
   ·have hsl : s < B.length:=Zk0 hs ht
    rw [gb f s _ hsl,gb g s _ hsl]
    obtain ⟨s1,p1,q1,w1⟩:=loc f hf s hsl
    obtain ⟨s2,p2,q2,w2⟩:=loc g hg s hsl
    have:=heq' B[s] ((mono hsl ht).mpr hs)
    rw [w1,w2] at this
    rw [q1,q2]
    rcases Zlk s1 s2 with c | c | c
    ·have:=(mono p1 p2).mpr c; omega
    ·exact c
    ·have:=(mono p2 p1).mpr c; omega
   ·rw [gb f t _ ht,gb g t _ ht]
    obtain ⟨s1,p1,q1,w1⟩:=loc f hf t ht
    obtain ⟨s2,p2,q2,w2⟩:=loc g hg t ht
    rw [w1,w2] at hlt
    rw [q1,q2]
    exact (mono p1 p2).mp hlt
noncomputable def labG (place : Nat->Nat) (B : Nat->List Nat) (Gs : Nat->List Nat) (b : Nat) : Nat × Nat:=(place b,atG (Gs (place b)) ((B (place b)).idxOf b))
noncomputable def yez (m : Nat) (place : Nat->Nat) (B : Nat->List Nat) (Gs : Nat->List Nat) : List Nat:=numF ((Zhm m).map (labG place B Gs))
structure BestOf (n : Nat) (ps : List Pr) (as : List Apt) (g : List Nat) : Prop where
 rg : g∈rgs n
 kp : zkl as g
 le : ∀ h∈rgs n,zkl as h -> ¬ keyG ps h < keyG ps g
theorem BestOf.uniq {n : Nat} {ps : List Pr} {as : List Apt} {g h : List Nat} (a : BestOf n ps as g) (b : BestOf n ps as h) : g = h:=zyt (b.le _ a.rg a.kp) (a.le _ b.rg b.kp)
theorem zrw {n : Nat} {f : Nat->β} {as : List Apt} (ha : ∀ a∈as,a.1 < n/\a.2 < n) (h : ∀ a∈as,f a.1≠f a.2) : zkl as (numF ((Zhm n).map f)):=fun a hm=>by
 obtain ⟨h1,h2⟩:=ha a hm
 refine fun z=>h a hm ?_
 exact (zsa ((Zhm n).map f) (by rw [Zho,Zji h1]; rfl) (by rw [Zho,Zji h2]; rfl)).mp z
theorem zzv {B : List Nat} (hn : B.Nodup) {i : Nat} (h : i < B.length) : B.idxOf B[i] = i:=by
 have hl:=zhi (Zkc h)
 have h1:=Zjm hl
 unfold Zi9 at hn
 rw [Zkr] at hn
 rcases Zlk (B.idxOf B[i]) i with c | c | c
 ·exact absurd h1 (hn _ _ hl h c)
 ·exact c
 ·exact absurd h1.symm (hn _ _ h hl c)
theorem ya7 {B : List Nat} {g : List Nat} (hn : B.Nodup) (hl : g.length = B.length) : B.map (fun b=>atG g (B.idxOf b)) = g:=by
 refine Zkl fun i=>?_
 rw [Zho]
 by_cases hi : i < B.length
 ·rw [Zhj hi]
  show some (atG g (B.idxOf B[i])) = _
  rw [zzv hn hi]
  unfold atG
  rw [Zhh,Zhj (by omega)]; rfl
 ·rw [Zis (by omega),Zis (by omega)]; rfl
theorem zth {m n : Nat} {ps : List Pr} {as : List Apt} {place : Nat -> Nat} {B : Nat -> List Nat} {Gs : Nat -> List Nat} (hin : ∀ p ∈ ps, p.1 < m /\ p.2.1 < m) (ha : ∀ a ∈ as, a.1 < m /\ a.2 < m) (hl : ∀ p ∈ ps, 0 < p.2.2 -> place p.1 = place p.2.1 \/ (p.1, p.2.1) ∈ as)
  (hp : ∀ b < m,place b < n) (hB : ∀ k < n,B k = (Zhm m).filter fun b=>decide (place b = k)) (hG : ∀ k < n,BestOf (B k).length (inP (B k) ps) (inA (B k) as) (Gs k)) : BestOf m ps as (yez m place B Gs):=by
 have hnd : ∀ k < n,(B k).Nodup:=fun k hk=>by rw [hB k hk]; exact Zqh Zn6 Zo4
 have hmem : ∀ k < n,∀ b < m,(b∈B k ↔ place b = k):=fun k hk b hb=>by
  rw [hB k hk,Zh0,Zia,decide_eq_true_eq]; exact ⟨fun z=>z.2,fun z=>⟨hb,z⟩⟩
 refine ⟨?_,?_,fun h hh hk=>?_⟩
 ·have:=zpm ((Zhm m).map (labG place B Gs))
  rw [Zhk,Zjt] at this
  exact this
 ·refine zrw ha fun a hm z=>?_
  obtain ⟨h1,h2⟩:=ha a hm
  unfold labG at z
  rw [Zmb] at z
  obtain ⟨z1,z2⟩:=z
  rw [<- z1] at z2
  have hk:=hp a.1 h1
  have b1:=(hmem _ hk _ h1).mpr rfl
  have b2:=(hmem _ hk _ h2).mpr z1.symm
  exact (hG _ hk).kp ((B (place a.1)).idxOf a.1,(B (place a.1)).idxOf a.2) (Zh3.mpr ⟨a,Zh0.mpr ⟨hm,by unfold inB; rw [decide_eq_true b1,decide_eq_true b2]; rfl⟩,rfl⟩) z2
 ·-- part after part takes its best grouping
  let fk : Nat->Nat->Nat × Nat:=fun k b=>if place b < k then labG place B Gs b else (place b,atG h b)
  have step : ∀ k, k <= n -> ¬ keyG ps h < keyG ps (numF ((Zhm m).map (fk k))) := by
   intro k
   induction k with
   | zero =>
    intro _
    have : (Zhm m).map (fk 0) = (Zhm m).map fun b=>(place b,atG h b):=Zip fun b _=>if_neg (Zjd _)
    rw [this]
    exact zwk hh hk hin hl
   | succ k ih =>
    intro hkn
    have hkn' : k < n:=hkn
    have h1:=ih (Zmv hkn)
    have f0 : ∀ b,place b≠k->fk (k + 1) b = fk k b:=fun b hb=>by
     show (if place b < k + 1 then _ else _) = if place b < k then _ else _
     by_cases c : place b < k
     ·rw [if_pos c,if_pos (by omega)]
     ·rw [if_neg c,if_neg (by omega)]
    have fst1 : ∀ j b,(fk j b).1 = place b:=fun j b=>by
     show (if place b < j then labG place B Gs b else (place b,atG h b)).1 = _
     split <;> rfl
    have sep : ∀ j,∀ a < m,∀ b < m,decide (place a = k) = true->decide (place b = k) = false->fk j a≠fk j b:=fun j a _ b _ c1 c2 z=>by
     have:=congrArg Zvq z
     rw [fst1,fst1] at this
     rw [decide_eq_true_eq] at c1
     rw [decide_eq_false_iff_not] at c2
     omega
    have h2 : ¬ keyG ps (numF ((Zhm m).map (fk k))) < keyG ps (numF ((Zhm m).map (fk (k + 1)))):=by
     refine yag (B:=B k) (π:=fun b=>decide (place b = k)) hin (hB k hkn') (fun a _ b _ c1 c2=>?_) (sep k) (sep (k + 1)) ?_
     ·rw [decide_eq_false_iff_not] at c1 c2
      rw [f0 a c1,f0 b c2]
     ·have hb : ∀ b∈B k,place b = k:=fun b hb=>by
       rw [hB k hkn'] at hb
       exact of_decide_eq_true (Zh0.mp hb).2
      have e1 : numF ((B k).map (fk k)) = numF ((B k).map (atG h)):=zns _ _ _ fun a ha b hb'=>by
       show (if place a < k then _ else _) = (if place b < k then _ else _) ↔ _
       rw [if_neg (by rw [hb a ha]; omega),if_neg (by rw [hb b hb']; omega),hb a ha,hb b hb',Zmb]
       exact ⟨fun z=>z.2,fun z=>⟨rfl,z⟩⟩
      have e2 : numF ((B k).map (fk (k + 1))) = Gs k:=by
       have : numF ((B k).map (fk (k + 1))) = numF ((B k).map fun b=>atG (Gs k) ((B k).idxOf b)):=zns _ _ _ fun a ha b hb'=>by
        show (if place a < k + 1 then _ else _) = (if place b < k + 1 then _ else _) ↔ _
        rw [if_pos (by rw [hb a ha]; omega),if_pos (by rw [hb b hb']; omega)]
        unfold labG
        rw [hb a ha,hb b hb',Zmb]
        exact ⟨fun z=>z.2,fun z=>⟨rfl,z⟩⟩
       rw [this,ya7 (hnd k hkn') (zjs (hG k hkn').rg),zq1 (hG k hkn').rg]
      rw [e1,e2]
      have hr:=zpm ((B k).map (atG h))
      rw [Zhk] at hr
      refine (hG k hkn').le _ hr fun a hm=>?_
      obtain ⟨c,hc,rfl⟩:=Zh3.mp hm
      obtain ⟨hc1,hc2⟩:=Zh0.mp hc
      obtain ⟨b1,b2⟩ : c.1∈B k/\c.2∈B k:=by
       unfold inB at hc2
       rw [Zib,decide_eq_true_eq,decide_eq_true_eq] at hc2
       exact hc2
      intro z
      exact hk c hc1 ((zsa ((B k).map (atG h)) (by rw [Zho,ztd b1]; rfl) (by rw [Zho,ztd b2]; rfl)).mp z)
    exact fun z=>h2 (Zrg (Zpg.mp h1) z)
  have:=step n (Zhu _)
  have e : (Zhm m).map (fk n) = (Zhm m).map (labG place B Gs):=Zip fun b hb=>if_pos (hp b (Zia.mp hb))
  rw [e] at this
  exact this
end
end L2
namespace L2
theorem zzs {α : Type} (key : α->List Int) : ∀ {xs : List α},xs≠[] -> ∃ x∈xs,∀ y∈xs,¬ key y < key x
 | [],h=>absurd rfl h
 | [x],_=>⟨x,Zhx,fun y hy=>by rw [Zhp.mp hy]; exact Zlq _⟩
 | x::y::r,_=>by
  obtain ⟨z,hz,hm⟩:=zzs key (xs:=y::r) (List.cons_ne_nil _ _)
  by_cases c : key x < key z
  ·refine ⟨x,Zhx,fun u hu=>?_⟩
   rcases Zie.mp hu with rfl | hu
   ·exact Zlq _
   ·exact fun q=>hm u hu (Zs6 q c)
  ·refine ⟨z,Zhv _ hz,fun u hu=>?_⟩
   rcases Zie.mp hu with rfl | hu
   ·exact c
   ·exact hm u hu
theorem zrv (n : Nat) : numF (Zhm n)∈rgs n:=by
 have:=zpm (Zhm n)
 rw [Zjt] at this
 exact this
theorem zru {n : Nat} {as : List Apt} (h : ∀ a∈as,a.1 < n/\a.2 < n/\a.1≠a.2) : zkl as (numF (Zhm n)):=by
 have:=zrw (n:=n) (f:=id) (as:=as) (fun a ha=>⟨(h a ha).1,(h a ha).2.1⟩) fun a ha=>(h a ha).2.2
 rw [Zmm] at this
 exact this
theorem yax {n : Nat} (ps : List Pr) {as : List Apt} (h : ∀ a∈as,a.1 < n/\a.2 < n/\a.1≠a.2) : ∃ g,BestOf n ps as g:=by
 have hm : numF (Zhm n)∈(rgs n).filter fun g=>decide (zkl as g):=Zh0.mpr ⟨zrv n,decide_eq_true (zru h)⟩
 obtain ⟨g,hg,hl⟩:=zzs (keyG ps) (Zrr hm)
 obtain ⟨g1,g2⟩:=Zh0.mp hg
 exact ⟨g,g1,of_decide_eq_true g2,fun h h1 h2=>hl h (Zh0.mpr ⟨h1,decide_eq_true h2⟩)⟩
open Classical in
noncomputable def bestP (n : Nat) (ps : List Pr) (as : List Apt) : List Nat:=if h : ∃ g,BestOf n ps as g then choose h else []
theorem zrd {n : Nat} {ps : List Pr} {as : List Apt} (h : ∀ a∈as,a.1 < n/\a.2 < n/\a.1≠a.2) : BestOf n ps as (bestP n ps as):=by
 have hx:=yax ps h
 unfold bestP
 rw [dif_pos hx]
 exact Zpy hx
theorem zxd {n : Nat} {ps : List Pr} {as : List Apt} {g : List Nat} (h : BestOf n ps as g) : bestP n ps as = g:=by
 have hx : ∃ g,BestOf n ps as g:=⟨g,h⟩
 have : BestOf n ps as (bestP n ps as):=by
  unfold bestP
  rw [dif_pos hx]
  exact Zpy hx
 exact this.uniq h
noncomputable def ztt (n : Nat) (ps : List Pr) (as : List Apt) : Prop:=(∀ p∈ps,p.1 < n/\p.2.1 < n) /\ ∀ a∈as,a.1 < n/\a.2 < n/\a.1≠a.2
theorem ycr {B : List Nat} {i j : Nat} (hi : i∈B) (hj : j∈B) (h : B.idxOf i = B.idxOf j) : i = j:=by
 have h1:=ztd hi
 rw [h,ztd hj] at h1
 injection h1 with h1
 exact h1.symm
theorem zw0 {B : List Nat} {i j : Nat} : inB B i j = true ↔ i∈B/\j∈B:=by
 unfold inB
 rw [Zib,decide_eq_true_eq,decide_eq_true_eq]
theorem zqy {m : Nat} {ps : List Pr} {as : List Apt} (h : ztt m ps as) (B : List Nat) : ztt B.length (inP B ps) (inA B as):=by
 refine ⟨fun p hp=>?_,fun a ha=>?_⟩
 ·obtain ⟨q,hq,rfl⟩:=Zh3.mp hp
  obtain ⟨b1,b2⟩:=zw0.mp (Zh0.mp hq).2
  exact ⟨zhi b1,zhi b2⟩
 ·obtain ⟨q,hq,rfl⟩:=Zh3.mp ha
  obtain ⟨q1,q2⟩:=Zh0.mp hq
  obtain ⟨b1,b2⟩:=zw0.mp q2
  exact ⟨zhi b1,zhi b2,fun z=>(h.2 q q1).2.2 (ycr b1 b2 z)⟩
section
variable {f : Nat->Nat} {m : Nat}
noncomputable def plc (f : Nat->Nat) (m b : Nat) : Nat:=((zgh f (Zhm m)).map f).idxOf (f b)
noncomputable def prt (f : Nat->Nat) (m k : Nat) : List Nat:=(zbz f (Zhm m)).getD k []
theorem zzo {b : Nat} (h : b < m) : plc f m b < (zbz f (Zhm m)).length:=by
 have : f b∈(zgh f (Zhm m)).map f:=by
  obtain ⟨y,hy,e⟩:=(zk7 (f:=f) (xs:=Zhm m) (f b)).mpr ⟨b,Zia.mpr h,rfl⟩
  exact Zh3.mpr ⟨y,hy,e⟩
 have:=zhi this
 unfold zbz
 rw [Zhk] at this ⊢
 exact this
theorem ya0 {b k : Nat} (hb : b < m) {y : Nat} (hy : (zgh f (Zhm m))[k]? = some y) : f b = f y ↔ plc f m b = k:=by
 have hnd:=zr4 (f:=f) (xs:=Zhm m)
 have hyk : ((zgh f (Zhm m)).map f)[k]? = some (f y):=by rw [Zho,hy]; rfl
 have hk:=(Zhn.mp hyk)
 unfold plc
 constructor
 ·intro e
  rw [e,<- hk.2]
  exact zzv hnd hk.1
 ·intro e
  have hm : f b∈(zgh f (Zhm m)).map f:=by
   obtain ⟨z,hz,e⟩:=(zk7 (f:=f) (xs:=Zhm m) (f b)).mpr ⟨b,Zia.mpr hb,rfl⟩
   exact Zh3.mpr ⟨z,hz,e⟩
  have:=Zjm (zhi hm)
  rw [<- this,<- hk.2]
  exact getElem_congr rfl e _
theorem zvy {k : Nat} (h : k < (zbz f (Zhm m)).length) : prt f m k = (Zhm m).filter fun b=>decide (plc f m b = k):=by
 have h' : k < (zgh f (Zhm m)).length:=by unfold zbz at h; rw [Zhk] at h; exact h
 unfold prt zbz
 rw [Zhh,Zho,Zhj h']
 show (Zhm m).filter _ = _
 refine Zl3 fun b hb=>?_
 rw [Zil,decide_eq_true_eq,decide_eq_true_eq]
 exact ya0 (Zia.mp hb) (Zhj h')
theorem yba {k b : Nat} (hk : k < (zbz f (Zhm m)).length) : b∈prt f m k ↔ b < m/\plc f m b = k:=by
 rw [zvy hk,Zh0,Zia,decide_eq_true_eq]
theorem yc5 {k : Nat} (hk : k < (zbz f (Zhm m)).length) : (prt f m k).Nodup:=by
 rw [zvy hk]; exact Zqh Zn6 Zo4
noncomputable def grsM (f : Nat->Nat) (m : Nat) (ps : List Pr) (as : List Apt) (k : Nat) : List Nat:=bestP (prt f m k).length (inP (prt f m k) ps) (inA (prt f m k) as)
noncomputable def labM (f : Nat->Nat) (m : Nat) (ps : List Pr) (as : List Apt) : Nat->Nat × Nat:=labG (plc f m) (prt f m) (grsM f m ps as)
noncomputable def zoa (f : Nat->Nat) (m : Nat) (ps : List Pr) (as : List Apt) : List Nat:=numF ((Zhm m).map (labM f m ps as))
theorem zx7 {ps : List Pr} {as : List Apt} (hg : ztt m ps as) (hl : ∀ p∈ps,0 < p.2.2->f p.1 = f p.2.1 \/ (p.1,p.2.1)∈as) : BestOf m ps as (zoa f m ps as) :=
 zth (n:=(zbz f (Zhm m)).length) (B:=prt f m) (Gs:=grsM f m ps as) hg.1 (fun a ha=>⟨(hg.2 a ha).1,(hg.2 a ha).2.1⟩) (fun p hp hw=>(hl p hp hw).imp (fun e=>by unfold plc; rw [e]) id) (fun b hb=>zzo hb) (fun k hk=>zvy hk) fun k hk=>zrd (zqy hg _).2
end
end L2
namespace L2
open PySem PySem.Spec PyProof.Rows
theorem zr0 (kvs : DD) (k d k' : D) : valD (putD kvs k d) k' = if k' = k then some d else valD kvs k':=by
 have hm : ∀ {kvs : DD},¬ k' = k->(kvs.map fun kv=>if kv.1 = k then (kv.1,d) else kv).find? (fun kv=>decide (kv.1 = k')) = kvs.find? fun kv=>decide (kv.1 = k'):=fun {kvs} hk=>by
  induction kvs with
  | nil=>rfl
  | cons q kvs ih =>
   rw [Zh5,Zi2,Zi2,ih]
   by_cases c : q.1 = k
   ·rw [if_pos c]
    have : ¬ q.1 = k':=fun z=>hk (z.symm.trans c)
    rw [decide_eq_false this]
   ·rw [if_neg c]
 unfold valD putD
 by_cases h : (kvs.any fun kv=>decide (kv.1 = k)) = true
 ·rw [if_pos h]
  by_cases hk : k' = k
  ·subst hk
   rw [if_pos rfl]
   clear hm
   induction kvs with
   | nil=>cases h
   | cons q kvs ih =>
    rw [Zh5,Zi2]
    by_cases c : q.1 = k'
    ·rw [if_pos c,decide_eq_true c]; rfl
    ·rw [if_neg c,decide_eq_false c]
     rw [Zk2,decide_eq_false c,Zmi] at h
     exact ih h
  ·rw [if_neg hk,hm hk]
 ·rw [if_neg h,List.find?_append]
  by_cases hk : k' = k
  ·subst hk
   rw [if_pos rfl]
   have : kvs.find? (fun kv=>decide (kv.1 = k')) = none:=by
    rw [List.find?_eq_none]
    intro x hx z
    exact h (Zkd.mpr ⟨x,hx,z⟩)
   rw [this]
   simp
  ·rw [if_neg hk]
   cases kvs.find? fun kv=>decide (kv.1 = k') with
   | some q=>rfl
   | none=>simp [Zi4 hk]
end L2
namespace My
open PySem L2 PyProof.Rows
noncomputable def top (i : Nat) : Stmt:=Zso.main.body.getD i (.Pass ⟨0,0,0,0⟩)
noncomputable abbrev zif : Stmt:=top 3
noncomputable abbrev zgg : List Str:=["value"]
theorem zqf : FnScope ["value"] zgg (zah zif):=zbu (by decide +kernel)
noncomputable abbrev zh8 : Stmt:=top 4
noncomputable abbrev zgk : List Str:=["value", "many"]
theorem zq0 : FnScope ["value", "many"] zgk (zah zh8):=zbu (by decide +kernel)
noncomputable abbrev zjc : Stmt:=top 5
noncomputable abbrev zhm : List Str:=["one", "other"]
theorem ztk : FnScope ["one", "other"] zhm (zah zjc):=zbu (by decide +kernel)
noncomputable abbrev zhg : Stmt:=top 6
noncomputable abbrev zhy : List Str:=["ring", "many"]
theorem zs5 : FnScope ["ring", "many"] zhy (zah zhg):=zbu (by decide +kernel)
noncomputable abbrev zfy : Stmt:=top 7
noncomputable abbrev zf1 : List Str:=["ring"]
theorem zpr : FnScope ["ring"] zf1 (zah zfy):=zbu (by decide +kernel)
noncomputable abbrev zkm : Stmt:=top 8
noncomputable abbrev zi9 : List Str:=["ring"]
theorem ztw : FnScope ["ring"] zi9 (zah zkm):=zbu (by decide +kernel)
noncomputable abbrev zf5 : Stmt:=top 9
noncomputable abbrev zf2 : List Str:=["ring", "many", "decided"]
theorem zl4 : FnScope ["ring", "many", "decided", "all_held"] zf2 (zah zf5):=zbu (by decide +kernel)
noncomputable abbrev zed : Stmt:=top 10
noncomputable abbrev zee : List Str:=["ring", "decided"]
theorem zne : FnScope ["ring", "decided"] zee (zah zed):=zbu (by decide +kernel)
noncomputable abbrev zgq : Stmt:=top 11
noncomputable abbrev ze2 : List Str:=["ring", "many", "weights", "decided"]
theorem zhs : FnScope ["ring", "many", "weights", "decided", "link", "gap"] ze2 (zah zgq):=zbu (by decide +kernel)
noncomputable abbrev zd5 : Stmt:=top 12
noncomputable abbrev zc8 : List Str:=["weights", "decided"]
theorem zb8 : FnScope ["weights", "decided", "loss", "pair", "choice", "weight"] zc8 (zah zd5):=zbu (by decide +kernel)
noncomputable abbrev zeb : Stmt:=top 13
noncomputable abbrev zef : List Str:=["rings", "many", "weights", "decided", "least"]
theorem zb0 : FnScope ["rings", "many", "weights", "decided", "least", "shown", "used", "ring", "amount", "pair", "within"] zef (zah zeb):=zbu (by decide +kernel)
noncomputable abbrev zff : Stmt:=top 14
noncomputable abbrev zeh : List Str:=["paper", "many", "decided"]
theorem zgy : FnScope ["paper", "many", "decided", "i", "j"] zeh (zah zff):=zbu (by decide +kernel)
noncomputable abbrev zeq : Stmt:=top 15
noncomputable abbrev zdn : List Str:=["decided", "pair", "choice"]
theorem zik : FnScope ["decided", "pair", "choice", "more"] zdn (zah zeq):=zbu (by decide +kernel)
noncomputable abbrev zds : Stmt:=top 16
noncomputable abbrev zct : List Str:=["aparts"]
theorem zek : FnScope ["aparts", "decided", "pair"] zct (zah zds):=zbu (by decide +kernel)
noncomputable abbrev zdp : Stmt:=top 17
noncomputable abbrev zcp : List Str:=["pairs"]
theorem zch : FnScope ["pairs", "weights", "i", "j", "weight"] zcp (zah zdp):=zbu (by decide +kernel)
noncomputable abbrev zh7 : Stmt:=top 18
noncomputable abbrev zfx : List Str:=["paper", "many", "pairs", "aparts", "least"]
theorem zdf : FnScope ["paper", "many", "pairs", "aparts", "least", "weights", "ahead", "here", "paper_here", "decided", "pair"] zfx (zah zh7):=zbu (by decide +kernel)
noncomputable abbrev zkr : Stmt:=top 20
noncomputable abbrev zje : List Str:=["things", "links"]
theorem zc7 : FnScope ["things", "links", "first", "thing", "one", "other", "kept", "lost", "lists"] zje (zah zkr):=zbu (by decide +kernel)
noncomputable abbrev zlh : Stmt:=top 22
noncomputable abbrev zl9 : List Str:=["aparts", "grouping"]
theorem zyv : FnScope ["aparts", "grouping"] zl9 (zah zlh):=zbu (by decide +kernel)
noncomputable abbrev zjk : Stmt:=top 23
noncomputable abbrev zhk : List Str:=["pairs", "grouping"]
theorem zd1 : FnScope ["pairs", "grouping", "loss", "i", "j", "weight", "is_held"] zhk (zah zjk):=zbu (by decide +kernel)
noncomputable abbrev zgc : Stmt:=top 24
noncomputable abbrev zgd : List Str:=["many", "pairs", "aparts"]
theorem zlt : FnScope ["many", "pairs", "aparts", "links"] zgd (zah zgc):=zbu (by decide +kernel)
noncomputable abbrev zf3 : Stmt:=top 25
noncomputable abbrev zhn : List Str:=["part", "pairs", "aparts"]
theorem zex : FnScope ["part", "pairs", "aparts", "numbers", "number", "block", "inner_pairs", "inner_aparts"] zhn (zah zf3):=zbu (by decide +kernel)
noncomputable abbrev zd3 : Stmt:=top 31
noncomputable abbrev zda : List Str:=["many"]
theorem zbr : FnScope ["many", "groupings", "block", "longer", "grouping", "group"] zda (zah zd3):=zbu (by decide +kernel)
noncomputable abbrev zc9 : Stmt:=top 32
noncomputable abbrev zc4 : List Str:=["case"]
theorem zhe : FnScope ["case", "kept"] zc4 (zah zc9):=zbu (by decide +kernel)
noncomputable abbrev zdt : Stmt:=top 33
noncomputable abbrev zcn : List Str:=["labels"]
theorem zdd : FnScope ["labels", "numbers", "grouping", "label"] zcn (zah zdt):=zbu (by decide +kernel)
noncomputable abbrev zhj : Stmt:=top 34
noncomputable abbrev zhx : List Str:=["many", "pairs", "aparts"]
theorem zci : FnScope ["many", "pairs", "aparts", "parts", "part", "labels", "place", "groups", "block", "group", "grouping"] zhx (zah zhj):=zbu (by decide +kernel)
noncomputable abbrev zdc : Stmt:=top 36
noncomputable abbrev zc6 : List Str:=["case", "grouping"]
theorem zl1 : FnScope ["case", "grouping"] zc6 (zah zdc):=zbu (by decide +kernel)
noncomputable abbrev zfk : Stmt:=top 37
noncomputable abbrev zec : List Str:=["case", "grouping", "i", "j"]
theorem zi7 : FnScope ["case", "grouping", "i", "j", "was_asked"] zec (zah zfk):=zbu (by decide +kernel)
noncomputable abbrev zd9 : Stmt:=top 38
noncomputable abbrev zdb : List Str:=["grouping", "i", "j"]
theorem zco : FnScope ["grouping", "i", "j", "first", "other", "ahead", "behind"] zdb (zah zd9):=zbu (by decide +kernel)
noncomputable abbrev zfn : Stmt:=top 39
noncomputable abbrev zeg : List Str:=["case", "grouping"]
theorem zcw : FnScope ["case", "grouping", "rings", "i", "j", "weight", "is_lost"] zeg (zah zfn):=zbu (by decide +kernel)
noncomputable abbrev zd4 : Stmt:=top 40
noncomputable abbrev zbq : List Str:=["case", "grouping", "least"]
theorem zly : FnScope ["case", "grouping", "least"] zbq (zah zd4):=zbu (by decide +kernel)
noncomputable abbrev zfj : Stmt:=top 41
noncomputable abbrev zcs : List Str:=["case", "grouping", "group", "least"]
theorem zes : FnScope ["case", "grouping", "group", "least", "block", "member", "number"] zcs (zah zfj):=zbu (by decide +kernel)
noncomputable abbrev zd6 : Stmt:=top 42
noncomputable abbrev zbp : List Str:=["case", "grouping", "group", "least"]
theorem zdv : FnScope ["case", "grouping", "group", "least", "first", "block", "parted"] zbp (zah zd6):=zbu (by decide +kernel)
noncomputable abbrev zib : Stmt:=top 43
noncomputable abbrev zgo : List Str:=["many", "pairs", "aparts"]
theorem zlq : FnScope ["many", "pairs", "aparts", "least"] zgo (zah zib):=zbu (by decide +kernel)
noncomputable abbrev zer : Stmt:=top 45
noncomputable abbrev zdu : List Str:=["_law_script", "_law_k"]
theorem zmh : FnScope ["_law_script", "_law_k"] zdu (zah zer):=zbu (by decide +kernel)
noncomputable abbrev zfe : Stmt:=top 46
noncomputable abbrev zea : List Str:=["_law_cell"]
theorem zg3 : FnScope ["_law_cell", "_law_weight_here"] zea (zah zfe):=zbu (by decide +kernel)
noncomputable abbrev zia : Stmt:=top 47
noncomputable abbrev zf0 : List Str:=["_law_script", "_law_many", "_law_at"]
theorem zde : FnScope ["_law_script", "_law_many", "_law_at", "_law_pairs", "_law_aparts", "_law_i", "_law_j", "_law_cell"] zf0 (zah zia):=zbu (by decide +kernel)
noncomputable abbrev zie : Stmt:=top 48
noncomputable abbrev zfz : List Str:=["_law_one", "_law_other"]
theorem zqg : FnScope ["_law_one", "_law_other"] zfz (zah zie):=zbu (by decide +kernel)
noncomputable abbrev zfc : Stmt:=top 49
noncomputable abbrev ze8 : List Str:=["_law_ring_here"]
theorem zol : FnScope ["_law_ring_here"] ze8 (zah zfc):=zbu (by decide +kernel)
noncomputable abbrev zh4 : Stmt:=top 50
noncomputable abbrev zf9 : List Str:=["_law_ring_here", "_law_weights_here", "_law_decided_here", "_law_never"]
theorem zd0 : FnScope ["_law_ring_here", "_law_weights_here", "_law_decided_here", "_law_never", "_law_gap", "_law_many", "_law_pair_here", "_law_weight_here"] zf9 (zah zh4):=zbu (by decide +kernel)
noncomputable abbrev zh5 : Stmt:=top 51
noncomputable abbrev zgb : List Str:=["_law_rows", "_law_weights_here", "_law_decided_here", "_law_least"]
theorem zb3 : FnScope ["_law_rows", "_law_weights_here", "_law_decided_here", "_law_least", "_law_total", "_law_pair_here", "_law_held", "_law_used", "_law_ring_here", "_law_amount"] zgb (zah zh5):=zbu (by decide +kernel)
noncomputable abbrev zgz : Stmt:=top 52
noncomputable abbrev zez : List Str:=["_law_paper", "_law_weights_here", "_law_decided_here", "_law_least"]
theorem zfg : FnScope ["_law_paper", "_law_weights_here", "_law_decided_here", "_law_least", "_law_pair_here", "_law_held", "_law_parted"] zez (zah zgz):=zbu (by decide +kernel)
noncomputable abbrev zew : Stmt:=top 53
noncomputable abbrev zdo : List Str:=["_law_pairs"]
theorem zc3 : FnScope ["_law_pairs", "_law_weights_here", "_law_i", "_law_j", "_law_weight_here"] zdo (zah zew):=zbu (by decide +kernel)
noncomputable abbrev zeu : Stmt:=top 54
noncomputable abbrev zdl : List Str:=["_law_aparts"]
theorem zfq : FnScope ["_law_aparts", "_law_decided_here", "_law_pair_here"] zdl (zah zeu):=zbu (by decide +kernel)
noncomputable abbrev zg2 : Stmt:=top 55
noncomputable abbrev ze5 : List Str:=["_law_many", "_law_cell"]
theorem zdi : FnScope ["_law_many", "_law_cell", "_law_number", "_law_ring_here", "_law_k", "_law_one"] ze5 (zah zg2):=zbu (by decide +kernel)
noncomputable abbrev zck : Stmt:=top 56
noncomputable abbrev zby : List Str:=["_law_rows", "_law_many", "_law_cell"]
theorem za8 : FnScope ["_law_rows", "_law_many", "_law_cell", "_law_way", "_law_more", "_law_at", "_law_ring_here", "_law_amount", "_law_few"] zby (zah zck):=zbu (by decide +kernel)
noncomputable abbrev zet : Stmt:=top 57
noncomputable abbrev zdm : List Str:=["_law_paper", "_law_many", "_law_cell"]
theorem zbn : FnScope ["_law_paper", "_law_many", "_law_cell", "_law_way", "_law_more", "_law_word", "_law_i", "_law_j", "_law_held", "_law_parted"] zdm (zah zet):=zbu (by decide +kernel)
noncomputable abbrev zy0 : Stmt:=top 58
noncomputable abbrev zws : List Str:=["_law_script"]
theorem zf4 : FnScope ["_law_script", "_law_many", "_law_pairs", "_law_aparts", "_law_weights_here", "_law_told", "_law_lost", "_law_papers", "_law_cell", "_law_at", "_law_paper", "_law_least", "_law_found"] zws (zah zy0):=zbu (by decide +kernel)
set_option genInjectivity false in
set_option genSizeOf false in
structure Ad where
 (Zct Zc1 Zd1 Zds Zdh Zef Zdb Zby Zcc Za3 Zbr Zbv Zbe Zat Zao Zcv Zed Zeo Zd3 Zde Zdr Za1 Za2 Zap Zdu Za4 Zbt Zax Zb1 Zab Zak Zad Zc3 Za7 Zbq Zc4 Zdg Zcg Zdd Zdf Zce Zbc Za8 Zcd Zaf Zbd Zf5 : Addr)
 (Zg8 Zeu Zge : Value)
 (Zcy Zdi Zdz Zd2 Zcw Zee Zc9 Zbw Zca Zaz Zbp Zbz Zbb Zan Zar Zdj Zec Zen Zd0 Zcz Zdx Zay Zaa Zaq Zdt Za6 Zb0 Zau Zb2 Zae Zaj Zac Zcq Zbi Zb3 Zcx Zc7 Zcb Zcp Zc6 Zcf Zbf Zba Zch Zag Za9 Zfj : Zkj)
structure Tx (K : Zhi) (mg : Str->Option Value) (ad0 : Ad) : Prop where
 Zey : mg "HELD" = some ad0.Zg8
 Zgb : RelV (.str (T [104,101,108,100])) ad0.Zg8
 Zcj : mg "MOST_BLOCKS" = some ad0.Zeu
 Zev : RelV (.int 7) ad0.Zeu
 Zcn : mg "PARTED" = some ad0.Zge
 Zei : RelV (.str (T [112,97,114,116,101,100])) ad0.Zge
 Zda : FX K mg "is_whole" zif zgg ad0.Zct ad0.Zcy
 Zb4 : FX K mg "is_block" zh8 zgk ad0.Zc1 ad0.Zdi
 Zdv : FX K mg "pair_of" zjc zhm ad0.Zd1 ad0.Zdz
 Zdw : FX K mg "is_ring" zhg zhy ad0.Zds ad0.Zd2
 Zb7 : FX K mg "links_of" zfy zf1 ad0.Zdh ad0.Zcw
 Zdn : FX K mg "gap_of" zkm zi9 ad0.Zef ad0.Zee
 Zd5 : FX K mg "is_never" zf5 zf2 ad0.Zdb ad0.Zc9
 Zbs : FX K mg "open_pairs" zed zee ad0.Zby ad0.Zbw
 Zdq : FX K mg "is_losing" zgq ze2 ad0.Zcc ad0.Zca
 Zb5 : FX K mg "decided_loss" zd5 zc8 ad0.Za3 ad0.Zaz
 Zcu : FX K mg "rings_show" zeb zef ad0.Zbr ad0.Zbp
 Zc2 : FX K mg "may_decide" zff zeh ad0.Zbv ad0.Zbz
 Zbh : FX K mg "with_choice" zeq zdn ad0.Zbe ad0.Zbb
 Zbm : FX K mg "first_decided" zds zct ad0.Zat ad0.Zan
 Zbo : FX K mg "first_weights" zdp zcp ad0.Zao ad0.Zar
 Zd8 : FX K mg "is_shown" zh7 zfx ad0.Zcv ad0.Zdj
 Zep : FX K mg "joined" zkr zje ad0.Zed ad0.Zec
 Ze3 : FX K mg "keeps" zlh zl9 ad0.Zeo ad0.Zen
 Zco : FX K mg "loss_of" zjk zhk ad0.Zd3 ad0.Zd0
 Zea : FX K mg "parts_of" zgc zgd ad0.Zde ad0.Zcz
 Zel : FX K mg "case_of" zf3 zhn ad0.Zdr ad0.Zdx
 Zb8 : FX K mg "groupings_of" zd3 zda ad0.Za1 ad0.Zay
 Zaw : FX K mg "best_in_part" zc9 zc4 ad0.Za2 ad0.Zaa
 Zbn : FX K mg "numbered_anew" zdt zcn ad0.Zap ad0.Zaq
 Zd4 : FX K mg "best_of" zhj zhx ad0.Zdu ad0.Zdt
 Zav : FX K mg "placed_pairs" zdc zc6 ad0.Za4 ad0.Za6
 Zcs : FX K mg "is_decided" zfk zec ad0.Zbt ad0.Zb0
 Zb6 : FX K mg "ring_through" zd9 zdb ad0.Zax ad0.Zau
 Zc0 : FX K mg "lost_rings" zfn zeg ad0.Zb1 ad0.Zb2
 Zai : FX K mg "placed_paper" zd4 zbq ad0.Zab ad0.Zae
 Zc8 : FX K mg "held_paper" zfj zcs ad0.Zak ad0.Zaj
 Za5 : FX K mg "asking_paper" zd6 zbp ad0.Zad ad0.Zac
 Zd9 : FX K mg "paper_of" zib zgo ad0.Zc3 ad0.Zcq
 Zam : FX K mg "_law_cell_at" zer zdu ad0.Za7 ad0.Zbi
 Zc5 : FX K mg "_law_weight" zfe zea ad0.Zbq ad0.Zb3
 Zd6 : FX K mg "_law_case" zia zf0 ad0.Zc4 ad0.Zcx
 Zb9 : FX K mg "_law_pair" zie zfz ad0.Zdg ad0.Zc7
 Zci : FX K mg "_law_links" zfc ze8 ad0.Zcg ad0.Zcb
 Zdk : FX K mg "_law_ring" zh4 zf9 ad0.Zdd ad0.Zcp
 Zd7 : FX K mg "_law_leaf" zh5 zgb ad0.Zdf ad0.Zc6
 Zbj : FX K mg "_law_judge" zgz zez ad0.Zce ad0.Zcf
 Zck : FX K mg "_law_weights" zew zdo ad0.Zbc ad0.Zbf
 Zcm : FX K mg "_law_decided" zeu zdl ad0.Za8 ad0.Zba
 Zdp : FX K mg "_law_drawn" zg2 ze5 ad0.Zcd ad0.Zch
 Zas : FX K mg "_law_leaf_spoiled" zck zby ad0.Zaf ad0.Zag
 Zah : FX K mg "_law_spoiled" zet zdm ad0.Zbd ad0.Za9
 Zff : FX K mg "law" zy0 zws ad0.Zf5 ad0.Zfj
 Zek : mg "abs" = none
 Ze4 : mg "all" = none
 Zfl : mg "bool" = none
 Ze0 : mg "dict" = none
 Zbl : mg "enumerate" = none
 Zg0 : mg "int" = none
 Zbx : mg "isinstance" = none
 Zal : mg "len" = none
 Zbu : mg "list" = none
 Zej : mg "max" = none
 Ze5 : mg "min" = none
 Zbk : mg "range" = none
 Zer : mg "reversed" = none
 Zf4 : mg "set" = none
 Zf6 : mg "zip" = none
section
variable {P : Ziq} {w : Zjv} {K : Zhi} {mg : Str->Option Value} {base : Heap} {ad0 : Ad}
noncomputable def znx (ds : List D) : Prop:=∃ (ns : List Int) (k : Int),ds = [.lst (ns.map .int),.int k]/\0 <= k
noncomputable def zfw : List D->D
 | [.lst xs,.int k]=>xs.getD k.toNat (.int 0)
 | _=>.non
theorem zin (Z : Tx K mg ad0) : FnOk P w K mg base CX0 1 ad0.Za7 ad0.Zbi zdu (SpD K znx zfw):=by
 refine okD Z.Zam.F zmh (by rintro ds ⟨ns,k,rfl,_⟩; rfl) fun cdv A outer s H Q E hr=>⟨_,(zad (zbi (zat zmy (pv 1) (zaz za9 (by rfl) Z.Zal Zli (zab (pv 0) zae)) (zau _)) (zag (zas (zbb (show IxR _ (rIxL K) from zbm) (pv 0) (pv 1) (fun _ _=>rfl)))) zax)
   (zag (zas zaj))),fun G ds hp rt=>?_⟩
 obtain ⟨ns,k,rfl,hk⟩:=hp
 have ll : (ns.map D.int).length = ns.length:=by simp
 refine zak (za7 (zal (zlr (g:=fun i j=>decide (i < j)) (zaa rfl).b (ze1 (zaa rfl).l).b)) (fun hb=>?_) (fun hb=>?_))
 ·simp only [decide_eq_true_eq] at hb
  have hk2 : k.toNat < ns.length:=by omega
  refine zaw (zep (d:=.int (ns.getD k.toNat 0)) (zaa rfl).l (zaa rfl).b ?_) ?_
  ·have:=zjr (xs:=ns.map D.int) (j:=k.toNat) (v:=D.int (ns.getD k.toNat 0)) (by rw [Zho,Zhh]; simp [hk2])
   rw [show ((k.toNat : Nat) : Int) = k by omega] at this
   exact this
  ·have e : zfw [D.lst (ns.map D.int),D.int k] = .int (ns.getD k.toNat 0):=by
    simp [zfw,Zhh,Zho,hk2]
   rw [e] at rt; exact rt
 ·simp only [decide_eq_false_iff_not] at hb
  have e : zfw [D.lst (ns.map D.int),D.int k] = .int 0:=by
   simp [zfw,Zhh,Zho,show ns[k.toNat]? = none from Zis (by omega)]
  rw [e] at rt
  refine za0 ?_
  ((try dsimp only); refine zam ?_)
  exact zaw zai rt
theorem small {n : Nat} (h : n <= 1000) : n <= sizeLine:=by rw [Zh2]; omega
noncomputable def encA (a : Apt) : D:=.tup [.int a.1,.int a.2]
noncomputable def encP (p : Pr) : D:=.tup [.int p.1,.int p.2.1,.int p.2.2]
noncomputable def unI : D->Int
 | .int i=>i
 | _=>0
noncomputable def unA : D->Apt
 | .tup [.int i,.int j]=>(i.toNat,j.toNat)
 | _=>(0,0)
noncomputable def unP : D->Pr
 | .tup [.int i,.int j,.int w]=>(i.toNat,j.toNat,w)
 | _=>(0,0,0)
theorem zvt (gs : List Int) : (gs.map D.int).map unI = gs:=by rw [Zim]; exact Zmm gs
theorem zgu (as : List Apt) : (as.map encA).map unA = as:=by rw [Zim]; exact Zmm as
theorem zjy (ps : List Pr) : (ps.map encP).map unP = ps:=by rw [Zim]; exact Zmm ps
noncomputable def zi8 (as : List Apt) (gs : List Int) : Bool:=as.all fun a=>!decide (gs.getD a.1 0 = gs.getD a.2 0)
noncomputable def zem (gs : List Int) (p : Pr) : Int:=if !decide (decide (gs.getD p.1 0 = gs.getD p.2.1 0) = decide (0 < p.2.2)) then absI p.2.2 else 0
noncomputable def yah (gs : List Int) (p : Pr) : Int:=if decide (decide (gs.getD p.1 0 = gs.getD p.2.1 0) = decide (p.2.2 < 0)) then absI p.2.2 else 0
noncomputable def sumL (f : Pr->Int) (ps : List Pr) : Int:=ps.foldl (fun a p=>a + f p) 0
theorem ztv (f : Pr->Int) (ps : List Pr) (p : Pr) : sumL f (ps++[p]) = sumL f ps + f p:=by unfold sumL; rw [Zjl]; rfl
noncomputable def ycq (ds : List D) : Prop:=∃ (as : List Apt) (gs : List Int),ds = [.lst (as.map encA),.lst (gs.map .int)]/\(∀ a∈as,a.1 < gs.length/\a.2 < gs.length)/\as.length <= 1000
noncomputable def yas : List D->D
 | [.lst as,.lst gs]=>.bl (zi8 (as.map unA) (gs.map unI))
 | _=>.non
theorem zoc (as : List Apt) (gs : List Int) : yas [.lst (as.map encA),.lst (gs.map .int)] = .bl (zi8 as gs):=by
 show D.bl (zi8 ((as.map encA).map unA) ((gs.map D.int).map unI)) = _
 rw [zgu,zvt]
noncomputable def zxq (ds : List D) : Prop:=∃ (ps : List Pr) (gs : List Int),ds = [.lst (ps.map encP),.lst (gs.map .int)]/\(∀ p∈ps,p.1 < gs.length/\p.2.1 < gs.length)/\ps.length <= 1000
noncomputable def zld : List D->D
 | [.lst ps,.lst gs]=>.int (sumL (zem (gs.map unI)) (ps.map unP))
 | _=>.non
noncomputable def yep : List D->D
 | [.lst ps,.lst gs]=>.int (sumL (yah (gs.map unI)) (ps.map unP))
 | _=>.non
theorem zgv (ps : List Pr) (gs : List Int) : zld [.lst (ps.map encP),.lst (gs.map .int)] = .int (sumL (zem gs) ps):=by
 show D.int (sumL (zem ((gs.map D.int).map unI)) ((ps.map encP).map unP)) = _
 rw [zjy,zvt]
theorem zs7 {gs : List Int} {i : Nat} (h : i < gs.length) : atI (gs.map D.int) (i : Int) = some (.int (gs.getD i 0)) :=
 zjr (by rw [Zho,Zhh]; simp [h])
theorem zxf (Z : Tx K mg ad0) : FnOk P w K mg base CX0 1 ad0.Zeo ad0.Zen zl9 (SpD K ycq yas):=by
 refine okD Z.Ze3.F zyv (by rintro ds ⟨c,d,rfl,_⟩; rfl) fun cdv A outer s H Q E hr=>⟨_,(zag (zas (zaz (zkt rfl) (by rfl) Z.Ze4 Zsz (zab (znp rfl (LcOk.of (Nx:=(["aparts", "grouping"] : List Str)) (sc:=zah zlh) (N':=(["i", "j", "grouping"] : List Str)) (nt:=2) (cs:=[1]) rfl rfl (by decide +kernel)) (zbc (pv 0)) (fun _ _ _ _=>(show PG _ _ (gTup K 2 _) from zcq rfl (zaq (zbx (i:=0) (show Zi9 (["i", "j", "grouping"] : List Str) by decide +kernel) rfl (Zkz rfl)) (zaq (zbx (i:=1) (show Zi9 (["i", "j", "grouping"] : List Str) by decide +kernel) rfl (Zkz rfl)) zbs)))) (fun _ _ _ _=>zg6) (fun _ _ _ _=>(zbl zqb (zbb (show IxR _ (rIxL K) from zbm) (pv 2) (pv 0) (fun _ _=>rfl)) (zbb (show IxR _ (rIxL K) from zbm) (pv 2) (pv 1) (fun _ _=>rfl)) (zau _)))) zae)))),fun G ds hp rt=>?_⟩
 obtain ⟨as,gs,rfl,hb,hl⟩:=hp
 rw [zoc] at rt
 exact zaw (znw (xs:=as) (g:=fun a=>!decide (gs.getD a.1 0 = gs.getD a.2 0)) (EvO.l (zqu as encA _ (zaa rfl).l (zmx (zcl (zb2 (by decide)) (zcl (zb2 (by decide)) zjp))) (by decide) (by rw [Zh2]; omega) fun a ha=>⟨_,zcu rfl (zar zan (zar zan zbt)),zzj (zep (zaa rfl).l (zaa rfl).b (zs7 (hb a ha).1)).b (zep (zaa rfl).l (zaa rfl).b (zs7 (hb a ha).2)).b⟩))) rt
theorem zj5 (Z : Tx K mg ad0) : FnOk P w K mg base CX0 1 ad0.Zd3 ad0.Zd0 zhk (SpD K zxq zld):=by
 refine okD Z.Zco.F zd1 (by rintro ds ⟨c,d,rfl,_⟩; rfl) fun cdv A outer s H Q E hr=>⟨_,(zad (psn 2 zd1.nd zaj)
   (zad (zbo Zh7 rfl (zbc (pv 0)) (zcq rfl (zaq (pgn 3 zd1.nd) (zaq (pgn 4 zd1.nd) (zaq (pgn 5 zd1.nd) zbs)))) (zad (psn 6 zd1.nd (zbl zcd (zbb (show IxR _ (rIxL K) from zbm) (pv 1) (pv 3) (fun _ _=>rfl)) (zbb (show IxR _ (rIxL K) from zbm) (pv 1) (pv 4) (fun _ _=>rfl)) (zau _)))
   (zag (zbi (zat zqb (pv 6) (zbl zk5 (pv 5) zaj (zau _)) (zau _)) (zag (psn 2 zd1.nd (za2 zc0 (pv 2) (zaz zh9 (by rfl) Z.Zek Zqi (zab (pv 5) zae))))) zax))))
   (zag (zas (pv 2))))),fun G ds hp rt=>?_⟩
 obtain ⟨ps,gs,rfl,hb,hl⟩:=hp
 rw [zgv] at rt
 refine zak (zay zai ?_)
 ((try dsimp only); refine zam ?_)
 refine zak (zdg encP ps (fun k ss=>∃ v3 v4 v5 v6 : Sl,ss = [.d (.lst (ps.map encP)),.d (.lst (gs.map .int)),.d (.int (sumL (zem gs) (ps.take k))),v3,v4,v5,v6]) (zaa rfl) ⟨.un,.un,.un,.un,rfl⟩ ?_ ?_)
 ·rintro L' k p ss hL hk ⟨v3,v4,v5,v6,rfl⟩
  refine ⟨_,zcu rfl (zar zan (zar zan (zar zan zbt))),fun N hN=>?_⟩
  have hp : p∈ps:=Zhs hk
  have hs : sumL (zem gs) (ps.take (k + 1)) = sumL (zem gs) (ps.take k) + zem gs p:=by rw [Zh8,hk]; exact ztv ..
  refine zak (zay (zb7 (zep (zaa rfl).l (zaa rfl).b (zs7 (hb p hp).1)).b (zep (zaa rfl).l (zaa rfl).b (zs7 (hb p hp).2)).b) ?_)
  ((try dsimp only); refine zam ?_)
  refine za7 (zal (zot (zaa rfl).b (zlo (zaa rfl).b zai.b).b)) (fun hq=>?_) (fun hq=>?_)
  ·refine zay (zcx (zaa rfl).b (zjv (zaa rfl).b).b) (hN _ ⟨.d (.int p.1),.d (.int p.2.1),.d (.int p.2.2),.d (.bl (decide (gs.getD p.1 0 = gs.getD p.2.1 0))),?_⟩)
   rw [hs]; unfold zem
   rw [if_pos hq]; rfl
  ·refine za0 (hN _ ⟨.d (.int p.1),.d (.int p.2.1),.d (.int p.2.2),.d (.bl (decide (gs.getD p.1 0 = gs.getD p.2.1 0))),?_⟩)
   rw [hs]; unfold zem
   rw [if_neg (by rw [hq]; decide),Zo8]
   first | done | rfl
 ·rintro ss ⟨v3,v4,v5,v6,rfl⟩
  ((try dsimp only); refine zam ?_)
  rw [Zif]
  exact zaw (zaa rfl) rt
noncomputable def encN (n : Nat) : D:=.int n
theorem zb6 (a b : Nat) (h : encN a = encN b) : a = b:=by unfold encN at h; injection h with h; omega
noncomputable def unN : D->Nat
 | .int i=>i.toNat
 | _=>0
theorem zj1 (xs : List Nat) : (xs.map encN).map unN = xs:=by rw [Zim]; exact Zmm xs
noncomputable def kp (i j : Nat) : Nat:=if j < i then j else i
noncomputable def lo (i j : Nat) : Nat:=if j > i then j else i
theorem ydn (i j : Nat) : (if (j : Int) < (i : Int) then (j : Int) else (i : Int)) = ((kp i j : Nat) : Int):=by unfold kp; split <;> split <;> omega
theorem yec (i j : Nat) : (if (j : Int) > (i : Int) then (j : Int) else (i : Int)) = ((lo i j : Nat) : Int):=by unfold lo; split <;> split <;> omega
noncomputable def ufS (f : Nat->Nat) (l : Apt) : Nat->Nat:=zoq (kp (f l.1) (f l.2)) (lo (f l.1) (f l.2)) f
noncomputable def ufF (ls : List Apt) : Nat->Nat:=ls.foldl ufS id
theorem zsc (ls : List Apt) (l : Apt) : ufF (ls++[l]) = ufS (ufF ls) l:=by unfold ufF; rw [Zjl]; rfl
theorem yer (i j : Nat) : (kp i j = i/\lo i j = j) \/ (kp i j = j/\lo i j = i):=by unfold kp lo; split <;> split <;> omega
theorem zjx {α : Type} {xs : List α} (h : xs.Nodup) {k : Nat} {x : α} (hk : xs[k]? = some x) : x ∉ xs.take k:=fun hm=>by
 obtain ⟨j,hj⟩:=Zl7.mp hm
 have hjk : j < k:=by
  have:=(Zhn.mp hj).1
  rw [Zin] at this; omega
 rw [List.getElem?_take,if_pos hjk] at hj
 have h1:=(Zhn.mp hj)
 have h2:=(Zhn.mp hk)
 unfold Zi9 at h
 rw [Zkr] at h
 exact h j k h1.1 h2.1 hjk (h1.2.trans h2.2.symm)
noncomputable def zim (xs : List Nat) (ls : List Apt) : List D:=(zbz (ufF ls) xs).map fun p=>.lst (p.map encN)
noncomputable def preJ (ds : List D) : Prop:=∃ (xs : List Nat) (ls : List Apt),ds = [.lst (xs.map encN),.lst (ls.map encA)]/\xs.Nodup/\(∀ l∈ls,l.1∈xs/\l.2∈xs)/\xs.length <= 1000
noncomputable def resJ : List D->List D
 | [.lst xs,.lst ls]=>zim (xs.map unN) (ls.map unA)
 | _=>[]
theorem zrc (xs : List Nat) (ls : List Apt) : resJ [.lst (xs.map encN),.lst (ls.map encA)] = zim xs ls:=by
 show zim ((xs.map encN).map unN) ((ls.map encA).map unA) = _
 rw [zj1,zgu]
theorem zvr (Z : Tx K mg ad0) : FnOk P w K mg base CX0 1 ad0.Zed ad0.Zec zje (SpO K preJ resJ) := by
 refine okO Z.Zep.F zc7 (by rintro ds ⟨c,d,rfl,_⟩; rfl) fun cdv A outer s H Q E hr=>⟨_,(zad (psn 2 zc7.nd zk0)
   (zad (zbo Zh7 rfl (zbc (pv 0)) (pgn 3 zc7.nd) (zag (zdq (zbh hr) (pv 2) (pv 3) (pv 3) rfl)))
   (zad (zbo Zh7 rfl (zbc (pv 1)) (zcq rfl (zaq (pgn 4 zc7.nd) (zaq (pgn 5 zc7.nd) zbs))) (zad (psn 6 zc7.nd (zaz (zln rfl) (by rfl) Z.Ze5 Zsy (zab (zc2 (zbh hr) (pv 2) (pv 4) (fun _ _=>rfl)) (zab (zc2 (zbh hr) (pv 2) (pv 5) (fun _ _=>rfl)) zae))))
   (zad (psn 7 zc7.nd (zaz (zlf rfl) (by rfl) Z.Zej Zrn (zab (zc2 (zbh hr) (pv 2) (pv 4) (fun _ _=>rfl)) (zab (zc2 (zbh hr) (pv 2) (pv 5) (fun _ _=>rfl)) zae))))
   (zag (zbo Zh7 rfl (zbc (pv 0)) (pgn 3 zc7.nd) (zag (zbi (zat zcd (zc2 (zbh hr) (pv 2) (pv 3) (fun _ _=>rfl)) (pv 7) (zau _)) (zag (zdq (zbh hr) (pv 2) (pv 3) (pv 6) rfl)) zax)))))))
   (zad (psn 8 zc7.nd zk0)
   (zad (zbo Zh7 rfl (zbc (pv 0)) (pgn 3 zc7.nd) (zag (ze9 (zhu Zir Zjc Zjh zce (zhu Zsu F.slot_dict_setdefault F.type_dict_setdefault znm (pv 8) (zab (zc2 (zbh hr) (pv 2) (pv 3) (fun _ _=>rfl)) (zab (zbg zae) zae))) (zab (pv 3) zae)))))
   (zag (zas (zb9 (show zdk _ _ zo3 from zml rfl) (by rfl) Z.Zbu Zm2 (zab (zzf Zsu F.slot_dict_values F.type_dict_values zt9 (pv 8)) zae))))))))),fun G ds hp rt=>?_⟩
 obtain ⟨xs,ls,rfl,hnd,hls,hxl⟩:=hp
 rw [zrc] at rt
 have hz : ∀ {n : Nat},n <= 1000->n < sizeLine:=fun h=>by rw [Zh2]; omega
 have dl : ∀ (ys : List Nat) (f : Nat->Nat),(dA encN encN ys f).length = ys.length:=fun ys f=>by unfold dA; rw [Zhk]
 refine zak (zqj fun p=>?_)
 ((try dsimp only); refine zam ?_)
 refine zak (zdg encN xs (fun k ss=>∃ v3 : Sl,ss = [.d (.lst (xs.map encN)),.d (.lst (ls.map encA)),dsl K p (dA encN encN (xs.take k) id),v3,.un,.un,.un,.un,.un]) (zaa rfl) ⟨.un,rfl⟩ ?_ ?_)
 ·rintro L' k x ss hL hk ⟨v3,rfl⟩
  refine ⟨_,zan,fun N hN=>?_⟩
  refine znc (i:=2) (d:=encN x) (k:=encN x) rfl (zaa rfl) (zaa rfl).b rfl (hz (by rw [dl,Zin]; omega)) (hN _ ⟨.d (encN x),?_⟩)
  have e : putD (dA encN encN (xs.take k) id) (encN x) (encN x) = dA encN encN (xs.take (k + 1)) id:=by
   rw [Zh8,hk]
   exact zfl (f:=id) zb6 (zjx hnd hk)
  rw [e]; rfl
 rintro ss ⟨v3,rfl⟩
 rw [Zif]
 ((try dsimp only); refine zam ?_)
 refine zak (zdg encA ls (fun k ss=>∃ (f : Nat->Nat) (v3 v4 v5 v6 v7 : Sl),ss = [.d (.lst (xs.map encN)),.d (.lst (ls.map encA)),dsl K p (dA encN encN xs f),v3,v4,v5,v6,v7,.un] /\ ∀ t∈xs,f t = ufF (ls.take k) t) (zaa rfl) ⟨id,_,_,_,_,_,rfl,fun _ _=>rfl⟩ ?_ ?_)
 ·rintro L' k l ss hL hk ⟨f,v3,v4,v5,v6,v7,rfl,hf⟩
  refine ⟨_,zcu rfl (zar zan (zar zan zbt)),fun N hN=>?_⟩
  obtain ⟨h1,h2⟩:=hls l (Zhs hk)
  refine zak (zay (d:=encN (kp (f l.1) (f l.2))) (by unfold encN; rw [<- ydn]; exact zpl (ze6 (k:=encN l.1) (d:=encN (f l.1)) rfl (zaa rfl).b rfl (zfa zb6 h1)).b (ze6 (k:=encN l.2) (d:=encN (f l.2)) rfl (zaa rfl).b rfl (zfa zb6 h2)).b) ?_)
  ((try dsimp only); refine zam ?_)
  refine zak (zay (d:=encN (lo (f l.1) (f l.2))) (by unfold encN; rw [<- yec]; exact zpu (ze6 (k:=encN l.1) (d:=encN (f l.1)) rfl (zaa rfl).b rfl (zfa zb6 h1)).b (ze6 (k:=encN l.2) (d:=encN (f l.2)) rfl (zaa rfl).b rfl (zfa zb6 h2)).b) ?_)
  ((try dsimp only); refine zam ?_)
  generalize hkk : kp (f l.1) (f l.2) = kk
  generalize hll : lo (f l.1) (f l.2) = ll
  refine zdg encN xs (fun q ss=>∃ (g : Nat->Nat) (v3 : Sl),ss = [.d (.lst (xs.map encN)),.d (.lst (ls.map encA)),dsl K p (dA encN encN xs g),v3,.d (encN l.1),.d (encN l.2),.d (encN kk),.d (encN ll),.un]/\(∀ t∈xs.take q,g t = zoq kk ll f t) /\ ∀ t,t ∉ xs.take q->g t = f t) (zaa rfl) ⟨f,_,rfl,(fun t ht=>by simp at ht),fun _ _=>rfl⟩ ?_ ?_
  ·rintro L2 q x ss hL2 hq ⟨g,v3,rfl,hg1,hg2⟩
   refine ⟨_,zan,fun N2 hN2=>?_⟩
   have hx : x∈xs:=Zhs hq
   have hxn:=zjx hnd hq
   have ext : xs.take (q + 1) = xs.take q++[x]:=by rw [Zh8,hq]; rfl
   have egx : g x = f x:=hg2 x hxn
   refine za7 (zal (zb7 (i:=(g x : Nat)) (j:=(ll : Nat)) (ze6 (k:=encN x) (d:=encN (g x)) rfl (zaa rfl).b rfl (zfa zb6 hx)).b (zaa rfl).b)) (fun hb=>?_) (fun hb=>?_)
   ·have hb : g x = ll:=by have:=of_decide_eq_true hb; omega
    refine znc (i:=2) (d:=encN kk) (k:=encN x) rfl (zaa rfl) (zaa rfl).b rfl (hz (by rw [dl]; omega)) (hN2 _ ⟨fun u=>if u = x then kk else g u,_,by rw [ya9 zb6 hx]; rfl,fun t ht=>?_,fun t ht=>?_⟩)
    ·rw [ext] at ht
     show (if t = x then kk else g t) = _
     rcases Zhw.mp ht with ht | ht
     ·rw [if_neg (fun z : t = x=>hxn (z ▸ ht))]; exact hg1 t ht
     ·rw [Zhp.mp ht,if_pos rfl]
      unfold zoq
      rw [if_pos (egx.symm.trans hb)]
    ·rw [ext] at ht
     have h3 : t≠x:=fun z=>ht (by rw [z]; simp)
     show (if t = x then kk else g t) = _
     rw [if_neg h3]
     exact hg2 t fun z=>ht (Zig _ z)
   ·have hb : g x≠ll:=by have:=of_decide_eq_false hb; omega
    refine za0 (hN2 _ ⟨g,_,rfl,fun t ht=>?_,fun t ht=>?_⟩)
    ·rw [ext] at ht
     rcases Zhw.mp ht with ht | ht
     ·exact hg1 t ht
     ·rw [Zhp.mp ht]
      unfold zoq
      rw [if_neg (by rw [<- egx]; exact hb),egx]
    ·rw [ext] at ht
     exact hg2 t fun z=>ht (Zig _ z)
  ·rintro ss ⟨g,v3,rfl,hg1,hg2⟩
   rw [Zif] at hg1
   refine hN _ ⟨g,_,_,_,_,_,rfl,fun t ht=>?_⟩
   have e : ls.take (k + 1) = ls.take k++[l]:=by rw [Zh8,hk]; rfl
   rw [hg1 t ht,e,zsc]
   unfold ufS
   rw [<- hf l.1 h1,<- hf l.2 h2,hkk,hll]
   unfold zoq
   rw [hf t ht]
 rintro ss ⟨f,v3,v4,v5,v6,v7,rfl,hf⟩
 rw [Zif] at hf
 ((try dsimp only); refine zam ?_)
 refine zak (zy4 fun p2=>?_)
 ((try dsimp only); refine zam ?_)
 refine zak (zdg encN xs (fun k ss=>∃ (kqs : KQ) (v3 : Sl),ss = [.d (.lst (xs.map encN)),.d (.lst (ls.map encA)),dsl K p (dA encN encN xs f),v3,v4,v5,v6,v7,dls K p2 kqs]/\kqs.map dat = grpD encN encN f (xs.take k)) (zaa rfl) ⟨[],_,rfl,rfl⟩ ?_ ?_)
 ·rintro L' k x ss hL hk ⟨kqs,v3,rfl,hq⟩
  refine ⟨_,zan,fun N hN=>?_⟩
  have hx : x∈xs:=Zhs hk
  have hlen : kqs.length <= xs.length:=by
   have h1:=congrArg Zrh hq
   rw [Zhk] at h1
   have h2:=zya (enc:=encN) (encB:=encN) (f:=f) (xs:=xs.take k)
   rw [Zin] at h2
   omega
  refine yae (i:=8) (k:=encN (f x)) (d:=encN x) rfl (ze6 (k:=encN x) (d:=encN (f x)) rfl (zaa rfl).b rfl (zfa zb6 hx)).b rfl (fun kqs'=>zaa rfl) (hz (by omega)) (fun z hzm=>hz ?_) fun kqs' he=>hN _ ⟨kqs',_,rfl,?_⟩
  ·have : dat z∈grpD encN encN f (xs.take k):=by rw [<- hq]; exact Zjs hzm
   have:=zu0 this
   rw [Zin] at this
   have e : (dat z).2 = z.2.2:=rfl
   rw [e] at this
   omega
  ·rw [he,hq,Zh8,hk]
   exact zyb zb6
 rintro ss ⟨kqs,v3,rfl,hq⟩
 rw [Zif] at hq
 refine zsq (i:=8) rfl ?_
 ((try dsimp only); refine zam ?_)
 have e : (kqs.map frzL).map (·.2) = zim xs ls:=by
  have h1 : (kqs.map frzL).map (·.2) = (kqs.map dat).map fun q=>D.lst q.2:=by rw [Zim,Zim]; rfl
  rw [h1,hq,zt5]
  unfold zim
  rw [zpc (g:=ufF ls) fun a ha b hb=>by rw [hf a ha,hf b hb]]
 refine zju (zy9 (i:=8) rfl) ?_
 rw [e]; exact rt
noncomputable def zho (m : Nat) (ps : List Pr) (as : List Apt) : Prop:=(∀ p∈ps,p.1 < p.2.1/\p.2.1 < m/\p.2.2≠0) /\ ∀ a∈as,a.1 < a.2/\a.2 < m
noncomputable def zyp (as : List Apt) (p : Pr) : Bool:=decide (0 < p.2.2) && !decide (encA (p.1,p.2.1)∈as.map encA)
noncomputable def ze4 (ps : List Pr) (as : List Apt) : List Apt:=(ps.filter (zyp as)).map fun p=>(p.1,p.2.1)
theorem zqi (a : Apt) : (encA a).nb = true:=rfl
noncomputable def preP (ds : List D) : Prop:=∃ (m : Nat) (ps : List Pr) (as : List Apt),ds = [.int m,.lst (ps.map encP),.lst (as.map encA)]/\m <= 100/\ps.length <= 1000/\as.length <= 1000/\zho m ps as
noncomputable def resP : List D->List D
 | [.int m,.lst ps,.lst as]=>zim (Zhm m.toNat) (ze4 (ps.map unP) (as.map unA))
 | _=>[]
theorem zrj (m : Nat) (ps : List Pr) (as : List Apt) : resP [.int m,.lst (ps.map encP),.lst (as.map encA)] = zim (Zhm m) (ze4 ps as):=by
 show zim (Zhm (m : Int).toNat) (ze4 ((ps.map encP).map unP) ((as.map encA).map unA)) = _
 rw [zjy,zgu]; rfl
theorem zx6 {m : Nat} {ps : List Pr} {as : List Apt} (hg : zho m ps as) : ∀ l∈ze4 ps as,l.1∈Zhm m/\l.2∈Zhm m:=fun l hl=>by
 obtain ⟨p,hp,rfl⟩:=Zh3.mp hl
 have:=hg.1 p (Zh0.mp hp).1
 exact ⟨Zia.mpr (Zk0 this.1 this.2.1),Zia.mpr this.2.1⟩
theorem zpp (Z : Tx K mg ad0) : FnOk P w K mg base CX0 2 ad0.Zde ad0.Zcz zgd (SpO K preP resP):=by
 have Zhd:=zvr (P:=P) (w:=w) (base:=base) Z
 refine okO Z.Zea.F zlt (by rintro ds ⟨c,d,e,rfl,_⟩; rfl) fun cdv A outer s H Q E hr=>⟨_,(zad (zkv (i:=3) zlt.nd rfl (Zkz rfl) rfl (LcOk.of (Nx:=(["many", "pairs", "aparts", "links"] : List Str)) (sc:=zah zgc) (N':=(["i", "j", "weight", "aparts"] : List Str)) (nt:=3) (cs:=[2]) rfl rfl (by decide +kernel)) (zbc (pv 1)) (fun _ _ _ _=>(show PG _ _ (gTup K 3 _) from zcq rfl (zaq (zbx (i:=0) (show Zi9 (["i", "j", "weight", "aparts"] : List Str) by decide +kernel) rfl (Zkz rfl)) (zaq (zbx (i:=1) (show Zi9 (["i", "j", "weight", "aparts"] : List Str) by decide +kernel) rfl (Zkz rfl)) (zaq (zbx (i:=2) (show Zi9 (["i", "j", "weight", "aparts"] : List Str) by decide +kernel) rfl (Zkz rfl)) zbs))))) (fun _ _ _ _=>(zh6 (PW.pt (zi5 (zat zk5 (pv 2) zaj (zau _)) (zgs (zat (show OpR _ _ (rInD K true) from zoi hr.units) (za3 (zab (pv 0) (zab (pv 1) zae))) (pv 3) (by with_unfolding_all rfl))))))) (fun _ _ _ _=>(za3 (zab (pv 0) (zab (pv 1) zae)))))
   (zag (zas (pcX Zhd hr Z.Zep (zab (zb9 (show zdk _ _ zrr from zny rfl) (by rfl) Z.Zbu Zm2 (zab (zug (by rfl) Z.Zbk (zab (pv 0) zae)) zae)) (zab (pv 3) zae)))))),fun G ds hp rt=>?_⟩
 obtain ⟨m,ps,as,rfl,hm,hpl,hal,hg⟩:=hp
 rw [zrj] at rt
 have e1 : (ps.filter (zyp as)).map (fun p=>encA (p.1,p.2.1)) = (ze4 ps as).map encA:=by unfold ze4; rw [Zim]; rfl
 refine zak (zdz (ds:=(ze4 ps as).map encA) (by
  rw [<- e1]
  exact zit ps encP (zyp as) (fun p=>encA (p.1,p.2.1)) (zaa rfl).l (zmx (zcl (zb2 (by decide)) (zcl (zb2 (by decide)) (zcl (zb2 (by decide)) zjp)))) (by decide) (by rw [Zh2]; omega) fun p hp=>⟨_,zcu rfl (zar zan (zar zan (zar zan zbt))),
   zgt (zal (zlo (zaa rfl).b zai.b)) fun _=>zal (zok (d:=encA (p.1,p.2.1)) (Ev.b (zbk (zac (zaa rfl) (zac (zaa rfl) zaf)) (small (by simp)))) (zaa rfl).b rfl (D.nbs_map zqi as) (by show 1 <= 60; decide)),
   fun _=>zbk (zac (zaa rfl) (zac (zaa rfl) zaf)) (small (by simp))⟩) fun p=>zei (i:=3) rfl ?_)
 ((try dsimp only); refine zam ?_)
 have:=zrc (Zhm m) (ze4 ps as)
 refine zju (ds:=zim (Zhm m) (ze4 ps as)) (by
  rw [<- this]
  exact zid (pre:=preJ) (res:=resJ) (zac (EvO.ev (znn (n:=m) (zaa rfl).b (by omega))) (zac (zaa rfl) zaf)) ⟨Zhm m,ze4 ps as,rfl,Zo4,zx6 hg,by simp; omega⟩) rt
noncomputable def idxP (part : List Nat) (p : Pr) : D:=.tup [.int (part.idxOf p.1 : Nat),.int (part.idxOf p.2.1 : Nat),.int p.2.2]
noncomputable def idxA (part : List Nat) (a : Apt) : D:=.tup [.int (part.idxOf a.1 : Nat),.int (part.idxOf a.2 : Nat)]
noncomputable def zp7 (part : List Nat) (ps : List Pr) (as : List Apt) : D:=.tup [.int part.length,.lst ((ps.filter fun p=>decide (p.1∈part) && decide (p.2.1∈part)).map (idxP part)),.lst ((as.filter fun a=>decide (a.1∈part) && decide (a.2∈part)).map (idxA part))]
noncomputable def preC (ds : List D) : Prop:=∃ (part : List Nat) (ps : List Pr) (as : List Apt),ds = [.lst (part.map encN),.lst (ps.map encP),.lst (as.map encA)]/\part.Nodup/\part.length <= 100/\ps.length <= 1000/\as.length <= 1000
noncomputable def resC : List D->D
 | [.lst part,.lst ps,.lst as]=>zp7 (part.map unN) (ps.map unP) (as.map unA)
 | _=>.non
theorem zrl (part : List Nat) (ps : List Pr) (as : List Apt) : resC [.lst (part.map encN),.lst (ps.map encP),.lst (as.map encA)] = zp7 part ps as:=by
 show zp7 ((part.map encN).map unN) ((ps.map encP).map unP) ((as.map encA).map unA) = _
 rw [zj1,zjy,zgu]
theorem zwg {part : List Nat} (h : part.Nodup) {k x : Nat} (hk : part[k]? = some x) : part.idxOf x = k:=by
 have hm : x∈part:=Zhs hk
 have hl:=Zju.mpr hm
 have h1:=Zjm hl
 obtain ⟨h2,h3⟩:=Zhn.mp hk
 unfold Zi9 at h
 rw [Zkr] at h
 rcases Zlk (part.idxOf x) k with c | c | c
 ·exact absurd (h1.trans h3.symm) (h _ _ hl h2 c)
 ·exact c
 ·exact absurd (h3.trans h1.symm) (h _ _ h2 hl c)
theorem znu (part : List Nat) (f : Nat->Nat) (i : Nat) : (valD (dA encN encN part f) (encN i)).isSome = decide (i∈part):=by
 by_cases h : i∈part
 ·rw [zfa zb6 h,decide_eq_true h]; rfl
 ·rw [zno zb6 h,decide_eq_false h]; rfl
theorem zts (Z : Tx K mg ad0) : FnOk P w K mg base CX0 1 ad0.Zdr ad0.Zdx zhn (SpD K preC resC):=by
 refine okD Z.Zel.F zex (by rintro ds ⟨c,d,e,rfl,_⟩; rfl) fun cdv A outer s H Q E hr=>⟨_,(zad (zv9 (i:=3) zex.nd rfl (Zs3 rfl) zk0)
   (zad (zbo Zh7 rfl (zfi (by rfl) Z.Zbl (zab (pv 0) zae)) (zcq rfl (zaq (pgn 4 zex.nd) (zaq (pgn 5 zex.nd) zbs))) (zag (zdq (zbh hr) (pv 3) (pv 5) (pv 4) rfl)))
   (zad (zkv (i:=6) zex.nd rfl (Zkz rfl) rfl (LcOk.of (Nx:=(["part", "pairs", "aparts", "numbers", "number", "block", "inner_pairs", "inner_aparts"] : List Str)) (sc:=zah zf3) (N':=(["i", "j", "weight", "numbers"] : List Str)) (nt:=3) (cs:=[3]) rfl rfl (by decide +kernel)) (zbc (pv 1)) (fun _ _ _ _=>(show PG _ _ (gTup K 3 _) from zcq rfl (zaq (zbx (i:=0) (show Zi9 (["i", "j", "weight", "numbers"] : List Str) by decide +kernel) rfl (Zkz rfl)) (zaq (zbx (i:=1) (show Zi9 (["i", "j", "weight", "numbers"] : List Str) by decide +kernel) rfl (Zkz rfl)) (zaq (zbx (i:=2) (show Zi9 (["i", "j", "weight", "numbers"] : List Str) by decide +kernel) rfl (Zkz rfl)) zbs))))) (fun _ _ _ _=>(zh6 (PW.pt (zi5 (zio (zmp (zbh hr) (pv 0) (pv 3)) (by with_unfolding_all rfl)) (zgs (zio (zmp (zbh hr) (pv 1) (pv 3)) (by with_unfolding_all rfl))))))) (fun _ _ _ _=>(za3 (zab (zc2 (zbh hr) (pv 3) (pv 0) (fun _ _=>rfl)) (zab (zc2 (zbh hr) (pv 3) (pv 1) (fun _ _=>rfl)) (zab (pv 2) zae))))))
   (zad (zkv (i:=7) zex.nd rfl (Zkz rfl) rfl (LcOk.of (Nx:=(["part", "pairs", "aparts", "numbers", "number", "block", "inner_pairs", "inner_aparts"] : List Str)) (sc:=zah zf3) (N':=(["i", "j", "numbers"] : List Str)) (nt:=2) (cs:=[3]) rfl rfl (by decide +kernel)) (zbc (pv 2)) (fun _ _ _ _=>(show PG _ _ (gTup K 2 _) from zcq rfl (zaq (zbx (i:=0) (show Zi9 (["i", "j", "numbers"] : List Str) by decide +kernel) rfl (Zkz rfl)) (zaq (zbx (i:=1) (show Zi9 (["i", "j", "numbers"] : List Str) by decide +kernel) rfl (Zkz rfl)) zbs)))) (fun _ _ _ _=>(zh6 (PW.pt (zi5 (zio (zmp (zbh hr) (pv 0) (pv 2)) (by with_unfolding_all rfl)) (zgs (zio (zmp (zbh hr) (pv 1) (pv 2)) (by with_unfolding_all rfl))))))) (fun _ _ _ _=>(za3 (zab (zc2 (zbh hr) (pv 2) (pv 0) (fun _ _=>rfl)) (zab (zc2 (zbh hr) (pv 2) (pv 1) (fun _ _=>rfl)) zae)))))
   (zag (zas (za3 (zab (zaz za9 (by rfl) Z.Zal Zli (zab (pv 0) zae)) (zab (pv 6) (zab (pv 7) zae)))))))))),fun G ds hp rt=>?_⟩
 obtain ⟨part,ps,as,rfl,hnd,hl,hpl,hal⟩:=hp
 rw [zrl] at rt
 refine zak (zqj fun p=>?_)
 ((try dsimp only); refine zam ?_)
 refine zak (zm0 encN part (fun k ss=>∃ v4 v5 : Sl,ss = [.d (.lst (part.map encN)),.d (.lst (ps.map encP)),.d (.lst (as.map encA)),dsl K p (dA encN encN (part.take k) part.idxOf),v4,v5,.un,.un]) (zaa rfl) ⟨.un,.un,rfl⟩ ?_ ?_)
 ·rintro L' k x ss hL hk ⟨v4,v5,rfl⟩
  refine ⟨_,zcu rfl (zar zan (zar zan zbt)),fun N hN=>?_⟩
  refine znc (i:=3) (d:=encN k) (k:=encN x) rfl (zaa rfl) (zaa rfl).b rfl (by rw [Zh2]; unfold dA; rw [Zhk,Zin]; omega) (hN _ ⟨.d (encN k),.d (encN x),?_⟩)
  have e : putD (dA encN encN (part.take k) part.idxOf) (encN x) (encN k) = dA encN encN (part.take (k + 1)) part.idxOf:=by
   rw [Zh8,hk,<- zwg hnd hk]
   exact zfl (f:=part.idxOf) zb6 (by rw [zwg hnd hk]; exact zjx hnd hk)
  rw [e]; rfl
 rintro ss ⟨v4,v5,rfl⟩
 rw [Zif]
 ((try dsimp only); refine zam ?_)
 have g1 : ∀ i : Nat,i∈part->valD (dA encN encN part part.idxOf) (encN i) = some (encN (part.idxOf i)):=fun i h=>zfa zb6 h
 refine zak (zdz (ds:=(ps.filter fun p=>decide (p.1∈part) && decide (p.2.1∈part)).map (idxP part)) (zit ps encP (fun p=>decide (p.1∈part) && decide (p.2.1∈part)) (idxP part) (zaa rfl).l (zmx (zcl (zb2 (by decide)) (zcl (zb2 (by decide)) (zcl (zb2 (by decide)) zjp)))) (by decide) (by rw [Zh2]; omega) fun q hq=>⟨_,zcu rfl (zar zan (zar zan (zar zan zbt))),
   zgt (by rw [<- znu part part.idxOf]; exact zki (zr2 (k:=encN q.1) rfl (zaa rfl).b rfl)) fun _=>(by rw [<- znu part part.idxOf]; exact zki (zr2 (k:=encN q.2.1) rfl (zaa rfl).b rfl)),fun hb=>by
    rw [Zib,decide_eq_true_eq,decide_eq_true_eq] at hb
    exact zbk (zac (ze6 (k:=encN q.1) rfl (zaa rfl).b rfl (g1 _ hb.1)) (zac (ze6 (k:=encN q.2.1) rfl (zaa rfl).b rfl (g1 _ hb.2)) (zac (zaa rfl) zaf))) (small (by simp))⟩)
  fun p6=>zei (i:=6) rfl ?_)
 ((try dsimp only); refine zam ?_)
 refine zak (zdz (ds:=(as.filter fun a=>decide (a.1∈part) && decide (a.2∈part)).map (idxA part)) (zit as encA (fun a=>decide (a.1∈part) && decide (a.2∈part)) (idxA part) (zaa rfl).l (zmx (zcl (zb2 (by decide)) (zcl (zb2 (by decide)) zjp))) (by decide) (by rw [Zh2]; omega) fun q hq=>⟨_,zcu rfl (zar zan (zar zan zbt)),
   zgt (by rw [<- znu part part.idxOf]; exact zki (zr2 (k:=encN q.1) rfl (zaa rfl).b rfl)) fun _=>(by rw [<- znu part part.idxOf]; exact zki (zr2 (k:=encN q.2) rfl (zaa rfl).b rfl)),fun hb=>by
    rw [Zib,decide_eq_true_eq,decide_eq_true_eq] at hb
    exact zbk (zac (ze6 (k:=encN q.1) rfl (zaa rfl).b rfl (g1 _ hb.1)) (zac (ze6 (k:=encN q.2) rfl (zaa rfl).b rfl (g1 _ hb.2)) zaf)) (small (by simp))⟩)
  fun p7=>zei (i:=7) rfl ?_)
 ((try dsimp only); refine zam ?_)
 refine zaw (d:=zp7 part ps as) ?_ rt
 have ll : ((part.map encN).length : Int) = part.length:=by rw [Zhk]
 unfold zp7
 rw [<- ll]
 exact zbk (zac (ze1 (zaa rfl).l) (zac (zaa rfl) (zac (zaa rfl) zaf))) (small (by simp))
noncomputable def encG (g : List Nat) : D:=.lst (g.map encN)
theorem zca (g : List Nat) : g.map encN = (toI g).map D.int:=by unfold toI; rw [Zim]; rfl
theorem yaa (g : List Nat) : (toI g = []/\(ngF g : Int) - 1 = -1) \/ ((ngF g : Int) - 1∈toI g /\ ∀ n∈toI g,n <= (ngF g : Int) - 1):=by
 have mm : ∀ {g : List Nat} {x : Nat},(x : Int)∈toI g ↔ x∈g:=fun {g x}=>by
  unfold toI
  rw [Zh3]
  exact ⟨fun ⟨y,hy,e⟩=>by have : y = x:=(by omega); exact this ▸ hy,fun h=>⟨x,h,rfl⟩⟩
 have all : ∀ {g : List Nat},(∀ x∈g,x + 1 <= ngF g)/\(g≠[] -> ∃ x∈g,ngF g = x + 1):=fun {g}=>by
  induction g using zi3 with
  | h0=>exact ⟨fun x hx=>by simp at hx,fun z=>absurd rfl z⟩
  | hs g y ih =>
   rw [zm9]
   refine ⟨fun x hx=>?_,fun _=>?_⟩
   ·rcases Zhw.mp hx with h | h
    ·have:=ih.1 x h; omega
    ·rw [Zhp.mp h]; omega
   ·by_cases c : ngF g <= y + 1
    ·exact ⟨y,by simp,by omega⟩
    ·have hne : g≠[]:=fun z=>c (by rw [z]; show 0 <= y + 1; omega)
     obtain ⟨x,hx,e⟩:=ih.2 hne
     exact ⟨x,Zig _ hx,by omega⟩
 by_cases h : g = []
 ·subst h; exact .inl ⟨rfl,rfl⟩
 ·obtain ⟨x,hx,e⟩:=all.2 h
  refine .inr ⟨?_,fun n hn=>?_⟩
  ·rw [show (ngF g : Int) - 1 = (x : Int) by omega]; exact mm.mpr hx
  ·obtain ⟨y,hy,rfl⟩:=Zh3.mp hn
   have:=all.1 y hy
   omega
noncomputable def extG (gs : List (List Nat)) : List (List Nat):=gs.flatMap fun g=>(Zhm (ngF g + 1)).map fun x=>g++[x]
theorem zx9 (gs : List (List Nat)) (g : List Nat) : extG (gs++[g]) = extG gs++(Zhm (ngF g + 1)).map fun x=>g++[x]:=by
 unfold extG; rw [List.flatMap_append]; simp
theorem zvi : ∀ {gs : List (List Nat)},(∀ g∈gs,ngF g <= 7)->(extG gs).length <= 8 * gs.length
 | [],_=>Zhu _
 | g::gs,h=>by
  have ih:=zvi fun x hx=>h x (Zhv _ hx)
  have h1:=h g Zhx
  show ((Zhm (ngF g + 1)).map _++extG gs).length <= _
  rw [Zh1,Zhk,Zjt,Zkb]
  omega
theorem zmt {n : Nat} : ∀ {g : List Nat},g∈rgs n->ngF g <= n:=by
 induction n with
 | zero=>intro g h; rw [rgs] at h; rw [Zhp.mp h]; exact Zhu _
 | succ n ih =>
  intro g h
  obtain ⟨g',h1,x,hx,rfl⟩:=zj4.mp h
  have:=ih h1
  rw [zm9]; omega
theorem zve : ∀ n ≤ 7,(rgs n).length <= 1000:=by decide +kernel
noncomputable def yc0 (ds : List D) : Prop:=∃ n : Nat,ds = [.int n]/\n <= 7
noncomputable def ydz : List D->D
 | [.int n]=>.lst ((rgs n.toNat).map encG)
 | _=>.non
theorem zlc (Z : Tx K mg ad0) : FnOk P w K mg base CX0 1 ad0.Za1 ad0.Zay zda (SpD K yc0 ydz):=by
 refine okD Z.Zb8.F zbr (by rintro ds ⟨c,rfl,_⟩; rfl) fun cdv A outer s H Q E hr=>⟨_,(zad (psn 1 zbr.nd (zbg (zab (zbg zae) zae)))
   (zad (zbo Zh7 rfl (zf6 (by rfl) Z.Zbk (zab (pv 0) zae)) (pgn 2 zbr.nd) (zad (psn 3 zbr.nd (zbg zae))
   (zad (zbo Zh7 rfl (zbc (pv 1)) (pgn 4 zbr.nd) (zag (zbo Zh7 rfl (zf6 (by rfl) Z.Zbk (zab (za2 zc0 (zw1 rfl (by rfl) Z.Zej (pv 4) (zli zhq zaj)) zaj) zae)) (pgn 5 zbr.nd) (zag (ze9 (zhu Zir Zjc Zjh zce (pv 3) (zab (za2 (show OpR _ _ (ze3 K) from zcj) (pv 4) (zbg (zab (pv 5) zae))) zae)))))))
   (zag (psn 1 zbr.nd (pv 3))))))
   (zag (zas (pv 1))))),fun G ds hp rt=>?_⟩
 obtain ⟨n,rfl,hn⟩:=hp
 refine zak (zay (d:=.lst ((rgs 0).map encG)) (EvO.ev (zbe (zac (EvO.ev (zbe zaf (small (by decide)))) zaf) (small (by decide)))) ?_)
 ((try dsimp only); refine zam ?_)
 refine zak (zkz (n:=(n : Int)) (fun k ss=>∃ v2 v3 v4 v5 : Sl,ss = [.d (.int n),.d (.lst ((rgs k).map encG)),v2,v3,v4,v5]) (zd7 (zaa rfl).b zhp) ⟨by omega,by omega⟩ ⟨.un,.un,.un,.un,rfl⟩ ?_ ?_ (fun _ _ _ h=>h))
 ·rintro k ss hk ⟨v2,v3,v4,v5,rfl⟩ N hN
  refine zak (zdz (zbe zaf (small (by decide))) fun p=>?_)
  ((try dsimp only); refine zam ?_)
  refine zak (zdg encG (rgs k) (fun j ss=>∃ v4 v5 : Sl,ss = [.d (.int n),.d (.lst ((rgs k).map encG)),.d (.int k),.o p ((extG ((rgs k).take j)).map encG),v4,v5]) (zaa rfl) ⟨v4,v5,rfl⟩ ?_ ?_)
  ·rintro L' j g ss hL hj ⟨v4,v5,rfl⟩
   refine ⟨_,zan,fun N2 hN2=>?_⟩
   have hg : g∈rgs k:=Zhs hj
   have hgl:=zjs hg
   have et : extG ((rgs k).take (j + 1)) = extG ((rgs k).take j)++(Zhm (ngF g + 1)).map fun x=>g++[x]:=by rw [Zh8,hj]; exact zx9 _ _
   have hb1 : (extG ((rgs k).take j)).length <= 8 * 1000:=by
    have h1:=zvi (gs:=(rgs k).take j) fun x hx=>by have:=zmt (Zke hx); omega
    have h2:=zve k (by omega)
    have h3 : ((rgs k).take j).length <= (rgs k).length:=by rw [Zin]; omega
    omega
   have hb2:=zmt hg
   refine zkz (n:=(ngF g : Int) - 1 + 2) (fun t ss=>∃ v5 : Sl,ss = [.d (.int n),.d (.lst ((rgs k).map encG)),.d (.int k),.o p ((extG ((rgs k).take j)++(Zhm t).map fun x=>g++[x]).map encG),.d (encG g),v5]) (zd7 (zcx (zvp (ns:=toI g) (d0:=-1) (by rw [<- zca]; exact Ev.l (zaa rfl)) (ziq zai.b) (yaa g)).b zai.b).b zhp) ⟨by omega,by omega⟩ ⟨v5,by simp⟩ ?_ ?_ (fun _ _ _ h=>h)
   ·rintro t ss ht ⟨v5,rfl⟩ N3 hN3
    have ea : encG (g++[t]) = .lst (g.map encN++[encN t]):=by unfold encG; rw [Zh4]; rfl
    refine zc5 (d:=encG (g++[t])) rfl (by rw [ea]; exact EvO.ev (zfp (da:=g.map encN) (db:=[encN t]) (Ev.l (zaa rfl)) (EvO.l (zbe (zac (zaa rfl) zaf) (small (by simp)))) (small (by rw [Zhk,hgl]; show k + 1 <= 1000; omega)))) (by rw [Zhk,Zh1,Zhk,Zjt,Zh2]; omega) (hN3 _ ⟨.d (.int t),?_⟩)
    have e5 : (extG ((rgs k).take j)++(Zhm (t + 1)).map fun x=>g++[x]).map encG = (extG ((rgs k).take j)++(Zhm t).map fun x=>g++[x]).map encG++[encG (g++[t])]:=by rw [Zld,Zh4 (f:=fun x=>g++[x]),<- Zou,Zh4 (f:=encG) (l₂:=Zs5 (fun x=>g++[x]) [t])]; rfl
    rw [e5]; rfl
   ·rintro ss ⟨v5,rfl⟩
    rw [show ((ngF g : Int) - 1 + 2).toNat = ngF g + 1 by omega,<- et]
    exact hN2 _ ⟨_,_,rfl⟩
  ·rintro ss ⟨v4,v5,rfl⟩
   rw [Zif]
   refine zei (i:=3) rfl ?_
   ((try dsimp only); refine zam ?_)
   exact zay (zaa rfl) (hN _ ⟨_,_,_,_,rfl⟩)
 ·rintro ss ⟨v2,v3,v4,v5,rfl⟩
  ((try dsimp only); refine zam ?_)
  exact zaw (zaa rfl) rt
theorem zk1 (g : List Nat) (i : Nat) : (toI g).getD i 0 = ((atG g i : Nat) : Int):=by
 unfold toI atG
 rw [Zhh,Zho,Zhh]
 cases g[i]? <;> rfl
theorem zla {as : List Apt} {g : List Nat} : zi8 as (toI g) = true ↔ zkl as g:=by
 unfold zi8 zkl
 rw [Zi5]
 refine ⟨fun h a ha z=>?_,fun h a ha=>?_⟩
 ·have:=h a ha
  rw [zk1,zk1,z] at this
  simp at this
 ·rw [zk1,zk1,decide_eq_false (fun z=>h a ha (by omega))]; rfl
theorem zy5 (g : List Nat) (p : Pr) : zem (toI g) p = zg1 (atG g) p:=by
 unfold zem zg1
 rw [zk1,zk1]
 have e : decide (((atG g p.1 : Nat) : Int) = ((atG g p.2.1 : Nat) : Int)) = decide (atG g p.1 = atG g p.2.1):=by rw [Zil,decide_eq_true_eq,decide_eq_true_eq]; omega
 rw [e]
 by_cases c : decide (atG g p.1 = atG g p.2.1) = decide (0 < p.2.2)
 ·rw [if_pos c,decide_eq_true c]; rfl
 ·rw [if_neg c,decide_eq_false c]; rfl
theorem zxh (f : Pr->Int) (ps : List Pr) : sumL f ps = sumI (ps.map f):=by
 have : ∀ (ps : List Pr) (z : Int),ps.foldl (fun a p=>a + f p) z = z + sumI (ps.map f):=by
  intro ps
  induction ps with
  | nil=>intro z; show z = z + 0; omega
  | cons p ps ih=>intro z; show ps.foldl _ (z + f p) = z + (f p + sumI (ps.map f)); rw [ih]; omega
 have h:=this ps 0
 unfold sumL
 omega
theorem zm8 (ps : List Pr) (g : List Nat) : sumL (zem (toI g)) ps = lossG ps g:=by
 rw [zxh]
 exact zi2 fun p _=>zy5 g p
noncomputable def zti (n : Nat) (ps : List Pr) (as : List Apt) : D:=.tup [.int n,.lst (ps.map encP),.lst (as.map encA)]
noncomputable def preB (ds : List D) : Prop:=∃ (n : Nat) (ps : List Pr) (as : List Apt),ds = [zti n ps as]/\1 <= n/\n <= 7/\ps.length <= 1000/\as.length <= 1000/\ztt n ps as
noncomputable def resB : List D->D
 | [.tup [.int n,.lst ps,.lst as]]=>encG (bestP n.toNat (ps.map unP) (as.map unA))
 | _=>.non
theorem zsm (n : Nat) (ps : List Pr) (as : List Apt) : resB [zti n ps as] = encG (bestP n ps as):=by
 show encG (bestP (n : Int).toNat ((ps.map encP).map unP) ((as.map encA).map unA)) = _
 rw [zjy,zgu]; rfl
noncomputable def lamP : Pos:=⟨142,25,142,96⟩
noncomputable abbrev lamQ : Str := "best_in_part.<locals>.<lambda>"
theorem zlx {T0 : Addr} (Z : Tx K mg ad0) (Y : LamAt base mg ad0.Zaa T0) : FnOk P w K mg base CX0 4 ad0.Za2 ad0.Zaa zc4 (SpDT K T0 lamP lamQ preB resB):=by
 have Zhf:=zxf (P:=P) (w:=w) (base:=base) Z
 have Zdy:=zj5 (P:=P) (w:=w) (base:=base) Z
 have Zfp:=zlc (P:=P) (w:=w) (base:=base) Z
 obtain ⟨c0,hc0,hC1⟩:=Y.ex
 refine Z.Zaw.F.okC zhe (fun vs H Q E h=>zkn (n:=1) (by rintro ds ⟨a,b,c,rfl,_⟩; rfl) h) (fun cdv A outer s H vs Q E hcd hr h=>?_)
 have hC0 : cdv = .ref c0:=hcd.symm.trans hc0
 refine ⟨_,(zad (zkv (i:=1) zhe.nd rfl (Zkz rfl) rfl (LcOk.of (Nx:=(["case", "kept"] : List Str)) (sc:=zah zc9) (N':=(["grouping", "case"] : List Str)) (nt:=1) (cs:=[0]) rfl rfl (by decide +kernel)) (zbc (pcX Zfp hr Z.Zb8 (zab (zbb (show IxR _ (rIxT K) from zbf) (pv 0) zaj (fun _ _=>rfl)) zae))) (fun _ _ _ _=>(zbx (i:=0) (show Zi9 (["grouping", "case"] : List Str) by decide +kernel) rfl (Zkz rfl))) (fun _ _ _ _=>(zh6 (zgi (pcX Zhf hr Z.Ze3 (zab (zbb (show IxR _ (rIxT K) from zbf) (pv 1) zaj (fun _ _=>rfl)) (zab (pv 0) zae)))))) (fun _ _ _ _=>(pv 0)))
   (zag (zas (zt2 (x:="grouping") (y:="case") (i:=0) (q:="best_in_part.<locals>.<lambda>") rfl hr (by rfl) Z.Ze5 (pv 1) hC1 Y.bt hC0 rfl rfl (by rfl) (fun _ _ _ _ _=>rfl) (by rfl) (by rfl) (by decide +kernel) (zyz (by rfl)) rfl rfl rfl rfl (fun cc hcc=>zym (by rfl) hcc) (fun _ _ _ _ _ hr=>(za3 (zab (pcX Zdy hr Z.Zco (zab (zbb (show IxR _ (rIxT K) from zbf) (pv 1) zaj (fun _ _=>rfl)) (zab (pv 0) zae))) (zab (zli zhq (zaz (show zdk _ _ (yb9 K) from zu6 rfl) (by rfl) Z.Zej Zrn (zab (pv 0) zae))) (zab (pv 0) zae))))))))),?_⟩
 refine zwx h (by rw [zkn (n:=1) (by rintro ds ⟨a,b,c,rfl,_⟩; rfl) h]; decide) fun G ds hT hp rt=>?_
 obtain ⟨n,ps,as,rfl,hn1,hn7,hpl,hal,hg⟩:=hp
 rw [zsm] at rt
 have fl:=zve n hn7
 have lenI : ∀ {g : List Nat},g∈rgs n->(toI g).length = n:=fun h=>by unfold toI; rw [Zhk,zjs h]
 refine zak (zdz (ds:=((rgs n).filter fun g=>zi8 as (toI g)).map encG) (zit (rgs n) encG (fun g=>zi8 as (toI g)) encG (Ev.l (zb4 (pre:=yc0) (res:=ydz) (zac (za6 (d:=.int n) (zaa rfl) zai.b rfl) zaf) ⟨n,rfl,hn7⟩)) (zb2 (by decide)) (by decide) (by rw [Zh2]; omega) fun g hgm=>⟨_,zan,?_,fun _=>zaa rfl⟩) fun p=>?_)
 ·have e:=zoc as (toI g)
  rw [<- zca] at e
  refine zki (by rw [<- e]; exact zb4 (pre:=ycq) (res:=yas) (zac (za6 (zaa rfl) zai.b rfl) (zac (zaa rfl) zaf)) ⟨as,toI g,by rw [<- zca],fun a ha=>by rw [lenI hgm]; exact ⟨(hg.2 a ha).1,(hg.2 a ha).2.1⟩,hal⟩)
 ((try dsimp only); refine zam ?_)
 have mem : ∀ {g : List Nat},g∈(rgs n).filter (fun g=>zi8 as (toI g))->g∈rgs n/\zkl as g:=fun h=>⟨(Zh0.mp h).1,zla.mp (Zh0.mp h).2⟩
 have kk : ∀ g : List Nat,lossG ps g::(-((ngF g : Int) - 1))::toI g = keyG ps g:=fun g=>by unfold keyG; rw [show -((ngF g : Int) - 1) = 1 - (ngF g : Int) by omega]
 refine zaw (zw8 encG ((rgs n).filter fun g=>zi8 as (toI g)) (fun g=>(lossG ps g,-((ngF g : Int) - 1),toI g)) n (zlj rfl) rfl hT ?_ (fun g hgm=>lenI (mem hgm).1) (fun F H g hgm=>?_) (fun g hgm hmin=>?_)) rt
 ·exact Zrr (Zh0.mpr ⟨zrv n,zla.mpr (zru hg.2)⟩)
 ·obtain ⟨h1,h2⟩:=mem hgm
  have e:=zgv ps (toI g)
  rw [<- zca,zm8] at e
  have hmx : (ngF g : Int) - 1∈toI g /\ ∀ n∈toI g,n <= (ngF g : Int) - 1:=by
   rcases yaa g with ⟨z,_⟩ | z
   ·have:=lenI h1
    rw [z] at this
    simp at this; omega
   ·exact z
  refine zbk (zac (by rw [<- e]; exact zb4 (pre:=zxq) (res:=zld) (zac (za6 (zaa rfl) zai.b rfl) (zac (zaa rfl) zaf)) ⟨ps,toI g,by rw [<- zca],fun p hp=>by rw [lenI h1]; exact hg.1 p hp,hpl⟩) (zac (ziq (yaf (ns:=toI g) (by rw [<- zca]; exact Ev.l (zaa rfl)) hmx.1 hmx.2).b) (zac (by rw [<- zca]; exact zaa rfl) zaf))) (small (by simp))
 ·obtain ⟨h1,h2⟩:=mem hgm
  congr 1
  refine (zxd ⟨h1,h2,fun h hh hk=>?_⟩).symm
  have:=hmin h (Zh0.mpr ⟨hh,zla.mpr hk⟩)
  rw [kk,kk] at this
  exact this
theorem zcb (a b : Apt) (h : encA a = encA b) : a = b:=by
 unfold encA at h
 injection h with h
 injection h with h1 h
 injection h with h2 _
 injection h1 with h1
 injection h2 with h2
 exact Prod.ext (by omega) (by omega)
noncomputable def yde (ds : List D) : Prop:=∃ ls : List Apt,ds = [.lst (ls.map encA)]/\ls.length <= 1000
noncomputable def zyq : List D->List D
 | [.lst ls]=>(numF (ls.map unA)).map encN
 | _=>[]
theorem ydw {β : Type} [DecidableEq β] (ls : List β) : (dd ls).length <= ls.length:=by
 induction ls using zi3 with
 | h0=>exact Zhu _
 | hs ls x ih =>
  rw [Zh1]
  by_cases h : x∈ls
  ·rw [zig h]; omega
  ·rw [zey h,Zh1]; exact Zrf ih _
theorem zkf (Z : Tx K mg ad0) : FnOk P w K mg base CX0 1 ad0.Zap ad0.Zaq zcn (SpO K yde zyq):=by
 refine okO Z.Zbn.F zdd (by rintro ds ⟨c,rfl,_⟩; rfl) fun cdv A outer s H Q E hr=>⟨_,(zad (psn 1 zdd.nd zgp)
   (zad (psn 2 zdd.nd (zbg zae))
   (zad (zbo Zh7 rfl (zbc (pv 0)) (pgn 3 zdd.nd) (zad (zbi (zio (zge (zbh hr) (pv 3) (pv 1)) (by with_unfolding_all rfl)) (zag (zdq (zbh hr) (pv 1) (pv 3) (zaz (show zdk _ _ zz6 from zva) (by rfl) Z.Zal Zli (zab (pv 1) zae)) rfl)) zax)
   (zag (ze9 (zhu Zir Zjc Zjh zce (pv 2) (zab (zc2 (zbh hr) (pv 1) (pv 3) (fun _ _=>rfl)) zae))))))
   (zag (zas (pv 2)))))),fun G ds hp rt=>?_⟩
 obtain ⟨ls,rfl,hl⟩:=hp
 have e0 : zyq [.lst (ls.map encA)] = (numF ls).map encN:=by show (numF ((ls.map encA).map unA)).map encN = _; rw [zgu]
 rw [e0] at rt
 let kv (l : List Apt) : DD:=dA encA encN (dd l) (ixo (dd l))
 have kvl : ∀ l : List Apt,(kv l).length = (dd l).length:=fun l=>by show (dA _ _ _ _).length = _; unfold dA; rw [Zhk]
 refine zak (zg5 fun p=>?_)
 ((try dsimp only); refine zam ?_)
 refine zak (zdz (zbe zaf (small (by decide))) fun q=>?_)
 ((try dsimp only); refine zam ?_)
 refine zak (zdg encA ls (fun k ss=>∃ v3 : Sl,ss = [.d (.lst (ls.map encA)),dslT K p (kv (ls.take k)),.o q ((numF (ls.take k)).map encN),v3]) (zaa rfl) ⟨.un,rfl⟩ ?_ ?_)
 ·rintro L' k x ss hL hk ⟨v3,rfl⟩
  refine ⟨_,zan,fun N hN=>?_⟩
  have et : ls.take (k + 1) = ls.take k++[x]:=by rw [Zh8,hk]; rfl
  have ltk : (ls.take k).length <= 1000:=by rw [Zin]; omega
  generalize ls.take k = lk at et ltk
  have hz : (kv lk).length < sizeLine:=by rw [kvl,Zh2]; have:=ydw lk; omega
  have vx : (valD (kv lk) (encA x)).isSome = decide (x∈lk):=by
   by_cases h : x∈lk
   ·rw [show valD (kv lk) (encA x) = _ from zfa zcb ((zfb lk).mpr h),decide_eq_true h]; rfl
   ·rw [show valD (kv lk) (encA x) = _ from zno zcb (fun z=>h ((zfb lk).mp z)),decide_eq_false h]; rfl
  refine zp0 (fun ss=>ss = [.d (.lst (ls.map encA)),dslT K p (kv (lk++[x])),.o q ((numF lk).map encN),.d (encA x)]) (fun N' hN'=>za7 (b:=!decide (x∈lk)) (by rw [<- vx]; exact zki (ztm (ds:=[.int x.1,.int x.2]) rfl (zaa rfl) rfl rfl)) (fun hb=>?_) (fun hb=>?_)) ?_
  ·have h : x ∉ lk:=by simpa using hb
   have hd : x ∉ dd lk:=fun z=>h ((zfb lk).mp z)
   refine zd8 (ds:=[.int x.1,.int x.2]) rfl (zz4 rfl) (zaa rfl) rfl rfl hz (hN' _ ?_)
   have e : putD (kv lk) (encA x) (.int (kv lk).length) = kv (lk++[x]):=by
    show putD (dA encA encN (dd lk) (ixo (dd lk))) (encA x) (encN (kv lk).length) = dA encA encN (dd (lk++[x])) (ixo (dd (lk++[x])))
    rw [zey h,kvl]
    have e1 : dA encA encN (dd lk) (ixo (dd lk)) = dA encA encN (dd lk) (ixo (dd lk++[x])):=zy2 fun y hy=>(ydx hy).symm
    rw [e1]
    have e2 : (dd lk).length = ixo (dd lk++[x]) x:=by rw [zre,zz3 hd]
    rw [e2]
    exact zfl (f:=(ixo (dd lk++[x]))) zcb hd
   rw [<- e]; rfl
  ·have h : x∈lk:=by simpa using hb
   refine za0 (hN' _ ?_)
   have e : kv lk = kv (lk++[x]):=by show dA _ _ (dd lk) (ixo (dd lk)) = dA _ _ (dd (lk++[x])) (ixo (dd (lk++[x]))); rw [zig h]
   rw [e]; rfl
  ·rintro ss rfl
   have hm : x∈dd (lk++[x]):=(zfb _).mpr (by simp)
   refine zc5 (d:=encN (ixo (dd (lk++[x])) x)) rfl (zra (ds:=[.int x.1,.int x.2]) rfl (zaa rfl) rfl rfl (zfa zcb hm)) (by rw [Zhk,znb,Zh2]; omega) (hN _ ⟨.d (encA x),?_⟩)
   rw [et,zs1,Zh4]
   have : ixo (dd (lk++[x])) x = ixo (dd lk) x:=by
    by_cases h : x∈lk
    ·rw [zig h]
    ·rw [zey h,zre]
   rw [this]; rfl
 ·rintro ss ⟨v3,rfl⟩
  rw [Zif]
  ((try dsimp only); refine zam ?_)
  exact zt3 rfl rt
theorem ybp (ls : List Apt) : ∀ l∈ls,ufF ls l.1 = ufF ls l.2:=by
 induction ls using zi3 with
 | h0=>intro l h; simp at h
 | hs ls z ih =>
  intro l hl
  rw [zsc]
  unfold ufS
  rw [zyr (x:=z.1) (y:=z.2) (yer _ _)]
  rcases Zhw.mp hl with h | h
  ·exact .inl (ih l h)
  ·rw [Zhp.mp h]
   exact .inr ⟨.inl rfl,.inr rfl⟩
theorem zxj (part : List Nat) (ps : List Pr) (as : List Apt) : zp7 part ps as = zti part.length (inP part ps) (inA part as):=by
 unfold zp7 zti inP inA inB
 rw [Zim,Zim]; rfl
theorem zvg {m : Nat} {ps : List Pr} {as : List Apt} (h : zho m ps as) : ztt m ps as:=⟨fun p hp=>by have:=h.1 p hp; exact ⟨Zk0 this.1 this.2.1,this.2.1⟩,fun a ha=>by have:=h.2 a ha; exact ⟨Zk0 this.1 this.2,this.2,Zic this.1⟩⟩
noncomputable def zfr (m : Nat) (ps : List Pr) (as : List Apt) : List Nat:=zoa (ufF (ze4 ps as)) m ps as
theorem zr9 {m : Nat} {ps : List Pr} {as : List Apt} (h : zho m ps as) : BestOf m ps as (zfr m ps as):=by
 refine zx7 (zvg h) fun p hp hw=>?_
 by_cases c : (p.1,p.2.1)∈as
 ·exact .inr c
 ·refine .inl (ybp _ (p.1,p.2.1) (Zh3.mpr ⟨p,Zh0.mpr ⟨hp,?_⟩,rfl⟩))
  unfold zyp
  rw [decide_eq_true hw,decide_eq_false fun z=>?_]; rfl
  obtain ⟨a,ha,e⟩:=Zh3.mp z
  exact c (zcb _ _ e ▸ ha)
noncomputable def fewP (m : Nat) (ps : List Pr) (as : List Apt) : Prop:=∀ p∈zbz (ufF (ze4 ps as)) (Zhm m),p.length <= 7
noncomputable def yar (ds : List D) : Prop:=∃ (m : Nat) (ps : List Pr) (as : List Apt),ds = [.int m,.lst (ps.map encP),.lst (as.map encA)]/\m <= 100/\ps.length <= 1000/\as.length <= 1000/\zho m ps as/\fewP m ps as
noncomputable def zyu : List D->Int × List D
 | [.int m,.lst ps,.lst as]=>(lossG (ps.map unP) (zfr m.toNat (ps.map unP) (as.map unA)),(zfr m.toNat (ps.map unP) (as.map unA)).map encN)
 | _=>(0,[])
theorem zor (m : Nat) (ps : List Pr) (as : List Apt) : zyu [.int m,.lst (ps.map encP),.lst (as.map encA)] = (lossG ps (zfr m ps as),(zfr m ps as).map encN):=by
 show (lossG ((ps.map encP).map unP) (zfr (m : Int).toNat ((ps.map encP).map unP) ((as.map encA).map unA)),(zfr (m : Int).toNat ((ps.map encP).map unP) ((as.map encA).map unA)).map encN) = _
 rw [zjy,zgu]; rfl
theorem zmm {T0 : Addr} (Z : Tx K mg ad0) (Y : LamAt base mg ad0.Zaa T0) : FnOk P w K mg base CX0 5 ad0.Zdu ad0.Zdt zhx (SpPT K T0 lamP lamQ yar zyu):=by
 have Zg6:=zpp (P:=P) (w:=w) (base:=base) Z
 have Zha:=zts (P:=P) (w:=w) (base:=base) Z
 have Zfo:=zlx (P:=P) (w:=w) (base:=base) Z Y
 have Zfk:=zkf (P:=P) (w:=w) (base:=base) Z
 have Zdy:=zj5 (P:=P) (w:=w) (base:=base) Z
 refine okPT Z.Zd4.F zci (by rintro ds ⟨c,d,e,rfl,_⟩; rfl) fun cdv A outer s H Q E hr=>⟨_,(zad (psn 3 zci.nd (pcX Zg6 hr Z.Zea (zab (pv 0) (zab (pv 1) (zab (pv 2) zae)))))
   (zad (zbo Zh7 rfl (zbc (pv 3)) (pgn 4 zci.nd) (zag (zbi (zat zk5 (zaz za9 (by rfl) Z.Zal Zli (zab (pv 4) zae)) (zfu (by rfl) Z.Zcj Z.Zev) (zau _)) (zag zsn) zax)))
   (zad (zv9 (i:=5) zci.nd rfl (Zs3 rfl) zk0)
   (zad (zbo Zh7 rfl (zfi (by rfl) Z.Zbl (zab (pv 3) zae)) (zcq rfl (zaq (pgn 6 zci.nd) (zaq (pgn 4 zci.nd) zbs))) (zad (psn 7 zci.nd (pcX Zfo hr Z.Zaw (zab (pcX Zha hr Z.Zel (zab (pv 4) (zab (pv 1) (zab (pv 2) zae)))) zae)))
   (zag (zbo Zh7 rfl (zl3 (by rfl) Z.Zf6 (zab (pv 4) (zab (pv 7) zae))) (zcq rfl (zaq (pgn 8 zci.nd) (zaq (pgn 9 zci.nd) zbs))) (zag (zdq (zbh hr) (pv 5) (pv 8) (za3 (zab (pv 6) (zab (pv 9) zae))) rfl))))))
   (zad (psn 10 zci.nd (pcX Zfk hr Z.Zbn (zab (znp rfl (LcOk.of (Nx:=(["many", "pairs", "aparts", "parts", "part", "labels", "place", "groups", "block", "group", "grouping"] : List Str)) (sc:=zah zhj) (N':=(["block", "labels"] : List Str)) (nt:=1) (cs:=[5]) rfl rfl (by decide +kernel)) (zf6 (by rfl) Z.Zbk (zab (pv 0) zae)) (fun _ _ _ _=>(zbx (i:=0) (show Zi9 (["block", "labels"] : List Str) by decide +kernel) rfl (Zkz rfl))) (fun _ _ _ _=>zg6) (fun _ _ _ _=>(zc2 (zbh hr) (pv 1) (pv 0) (fun _ _=>rfl)))) zae)))
   (zag (zas (za3 (zab (pcX Zdy hr Z.Zco (zab (pv 1) (zab (pv 10) zae))) (zab (pv 10) zae)))))))))),fun G ds hT hp rt=>?_⟩
 obtain ⟨m,ps,as,rfl,hm,hpl,hal,hg,h7⟩:=hp
 rw [zor] at rt
 have hgB:=zvg hg
 obtain ⟨f,hf⟩ : ∃ f,f = ufF (ze4 ps as):=⟨_,rfl⟩
 have eP : resP [.int m,.lst (ps.map encP),.lst (as.map encA)] = (zbz f (Zhm m)).map encG:=by rw [zrj]; unfold zim; rw [<- hf]; rfl
 have h7 : ∀ p∈zbz f (Zhm m),p.length <= 7:=by rw [hf]; exact h7
 have eb : zfr m ps as = zoa f m ps as:=by rw [hf]; rfl
 rw [eb] at rt
 have hpl2 : (zbz f (Zhm m)).length <= 100:=by have:=zmn (f:=f) (xs:=Zhm m); rw [Zjt] at this; omega
 have pk : ∀ (k : Nat) part,(zbz f (Zhm m))[k]? = some part->k < (zbz f (Zhm m)).length/\part = prt f m k/\part.length <= 7:=fun k part h=>by
  refine ⟨(Zhn.mp h).1,?_,h7 part (Zhs h)⟩
  unfold prt
  rw [Zhh,h]; rfl
 have pP : preP [.int m,.lst (ps.map encP),.lst (as.map encA)]:=⟨m,ps,as,rfl,hm,hpl,hal,hg⟩
 refine zak (zay (d:=.lst ((zbz f (Zhm m)).map encG)) (EvO.ev (by rw [<- eP]; exact zid (pre:=preP) (res:=resP) (zac (zaa rfl) (zac (zaa rfl) (zac (zaa rfl) zaf))) pP)) ?_)
 ((try dsimp only); refine zam ?_)
 generalize hpts : zbz f (Zhm m) = pts at *
 refine zak (zdg encG pts (fun k ss=>∃ v4 : Sl,ss = [.d (.int m),.d (.lst (ps.map encP)),.d (.lst (as.map encA)),.d (.lst (pts.map encG)),v4,.un,.un,.un,.un,.un,.un]) (zaa rfl) ⟨.un,rfl⟩ ?_ ?_)
 ·rintro L' k part ss hL hk ⟨v4,rfl⟩
  refine ⟨_,zan,fun N hN=>?_⟩
  have h1:=(pk k part hk).2.2
  have e : decide (((part.map encN).length : Int) > 7) = false:=decide_eq_false (by rw [Zhk]; omega)
  exact za7 (b:=false) (by rw [<- e]; exact zal (zlo (ze1 (Ev.l (zaa rfl))).b zai.b)) (fun hb=>by cases hb) (fun _=>za0 (hN _ ⟨_,rfl⟩))
 rintro ss ⟨v4,rfl⟩
 ((try dsimp only); refine zam ?_)
 refine zak (zqj fun p=>?_)
 ((try dsimp only); refine zam ?_)
 let lab:=labM f m ps as
 refine zak (zm0 encG pts (fun k ss=>∃ (kvs : DD) (v4 v6 v7 v8 v9 : Sl),ss = [.d (.int m),.d (.lst (ps.map encP)),.d (.lst (as.map encA)),.d (.lst (pts.map encG)),v4,dsl K p kvs,v6,v7,v8,v9,.un]/\(∀ b < m,plc f m b < k->valD kvs (encN b) = some (encA (lab b)))/\kvs.length <= 7 * k) (zaa rfl) ⟨[],v4,.un,.un,.un,.un,rfl,fun b _ h=>absurd h (Zjd _),Zhu _⟩ ?_ ?_)
 ·rintro L' k part ss hL hk ⟨kvs,v4,v6,v7,v8,v9,rfl,hv,hl⟩
  refine ⟨_,zcu rfl (zar zan (zar zan zbt)),fun N hN=>?_⟩
  obtain ⟨hkl,ep,hp7⟩:=pk k part hk
  have hnd : part.Nodup:=by rw [ep]; exact yc5 (by rw [hpts]; exact hkl)
  have hmem : ∀ {b : Nat},b∈part ↔ b < m/\plc f m b = k:=fun {b}=>by rw [ep]; exact yba (by rw [hpts]; exact hkl)
  have hp1 : 1 <= part.length:=by
   have hm1 : part∈zbz f (Zhm m):=by rw [hpts]; exact Zhs hk
   unfold zbz at hm1
   obtain ⟨y,hy,e⟩:=Zh3.mp hm1
   have : y∈part:=by rw [<- e]; exact Zh0.mpr ⟨zjd hy,decide_eq_true rfl⟩
   exact List.length_pos_of_mem this
  have eC:=zrl part ps as
  rw [zxj] at eC
  have eB:=zsm part.length (inP part ps) (inA part as)
  have pC : preC [.lst (part.map encN),.lst (ps.map encP),.lst (as.map encA)]:=⟨part,ps,as,rfl,hnd,by omega,hpl,hal⟩
  have pB : preB [zti part.length (inP part ps) (inA part as)]:=⟨_,_,_,rfl,hp1,hp7,by unfold inP; rw [Zhk]; exact Zik (Zjb _ _) hpl,by unfold inA; rw [Zhk]; exact Zik (Zjb _ _) hal,zqy hgB part⟩
  have hgl : (bestP part.length (inP part ps) (inA part as)).length = part.length:=zjs (zrd (zqy hgB _).2).rg
  have hgr : grsM f m ps as k = bestP part.length (inP part ps) (inA part as):=by unfold grsM; rw [<- ep]
  refine zak (zay (d:=encG (bestP part.length (inP part ps) (inA part as))) (by rw [<- eB]; exact zsj hT (zac (by rw [<- eC]; exact zb4 (pre:=preC) (res:=resC) (zac (zaa rfl) (zac (zaa rfl) (zac (zaa rfl) zaf))) pC) zaf) pB) ?_)
  ((try dsimp only); refine zam ?_)
  generalize bestP part.length (inP part ps) (inA part as) = gs at *
  refine ych encN encN part gs (fun t ss=>∃ (kvs : DD) (v8 v9 : Sl),ss = [.d (.int m),.d (.lst (ps.map encP)),.d (.lst (as.map encA)),.d (.lst (pts.map encG)),.d (encG part),dsl K p kvs,.d (.int k),.d (encG gs),v8,v9,.un]/\(∀ b < m,plc f m b < k->valD kvs (encN b) = some (encA (lab b)))/\(∀ b∈part.take t,valD kvs (encN b) = some (encA (lab b)))/\kvs.length <= 7 * k + t) (zaa rfl) (zaa rfl) hgl.symm ⟨kvs,v8,v9,rfl,hv,fun b hb=>by simp at hb,hl⟩ ?_ ?_
  ·rintro L2 t x y ss hL2 hx hy ⟨kvs,v8,v9,rfl,hv,hv2,hl⟩
   refine ⟨_,zcu rfl (zar zan (zar zan zbt)),fun N2 hN2=>?_⟩
   have hxm:=hmem.mp (Zhs hx)
   have ht:=(Zhn.mp hx).1
   have hlab : encA (lab x) = .tup [.int k,.int y]:=by
    show encA (labG (plc f m) (prt f m) (grsM f m ps as) x) = _
    unfold labG
    rw [hxm.2,hgr,<- ep,zwg hnd hx]
    unfold atG encA
    rw [Zhh,hy]; rfl
   refine znc (i:=5) (d:=.tup [.int k,.int y]) (k:=encN x) rfl (zbk (zac (zaa rfl) (zac (zaa rfl) zaf)) (small (by simp))) (zaa rfl).b rfl (by rw [Zh2]; omega) (hN2 _ ⟨putD kvs (encN x) (.tup [.int k,.int y]),.d (encN x),.d (encN y),rfl,fun b hb hpb=>?_,fun b hb=>?_,?_⟩)
   ·rw [zr0,if_neg fun z=>by have:=zb6 _ _ z; subst this; omega]
    exact hv b hb hpb
   ·rw [zr0]
    by_cases c : encN b = encN x
    ·rw [if_pos c,zb6 _ _ c,hlab]
    ·rw [if_neg c]
     rw [Zh8,hx] at hb
     rcases Zhw.mp hb with h | h
     ·exact hv2 b h
     ·exact absurd (by rw [show b = x by simpa using h]) c
   ·have:=zy6 kvs (encN x) (.tup [.int k,.int y]); omega
  ·rintro ss ⟨kvs,v8,v9,rfl,hv,hv2,hl⟩
   rw [Zif] at hv2
   refine hN _ ⟨kvs,_,_,_,v8,v9,rfl,fun b hb hpb=>?_,by omega⟩
   by_cases c : plc f m b < k
   ·exact hv b hb c
   ·exact hv2 b (hmem.mpr ⟨hb,by omega⟩)
 rintro ss ⟨kvs,v4,v6,v7,v8,v9,rfl,hv,hl⟩
 ((try dsimp only); refine zam ?_)
 have hv : ∀ b < m,valD kvs (encN b) = some (encA (lab b)):=fun b hb=>hv b hb (by have:=zzo (f:=f) hb; rw [hpts] at this; exact this)
 have eN : zyq [.lst (((Zhm m).map lab).map encA)] = (zoa f m ps as).map encN:=by
  show (numF ((((Zhm m).map lab).map encA).map unA)).map encN = _
  rw [zgu]; rfl
 refine zak (zdz (ds:=(zoa f m ps as).map encN) (by
  rw [<- eN]
  refine zid (pre:=yde) (res:=zyq) (zac (EvO.ev ?_) zaf) ⟨(Zhm m).map lab,rfl,by rw [Zhk,Zjt]; omega⟩
  have:=zj2 (K:=K) (G:=G) (H₀:=H) (L:=G) (ss:=[.d (.int m),.d (.lst (ps.map encP)),.d (.lst (as.map encA)),.d (.lst (pts.map encG)),v4,dsl K p kvs,v6,v7,v8,v9,.un]) (n:=((m : Nat) : Int).toNat) (tt:=zwq) (te:=zsp (tVar 1) (tVar 0)) (g:=zhv 0) (nt:=1) (cs:=[5]) (fun _=>true) (fun b=>encA (lab b)) (zpi (n:=m) (zd7 (zaa (i:=0) rfl).b zhp) ⟨by omega,by omega⟩) (zb2 (by decide)) (by decide) (by rw [Zh2]; omega) fun b hb=>⟨_,zan,zja,fun _=>ze6 (i:=1) (k:=encN b) rfl (zaa rfl).b rfl (hv b (by omega))⟩
  rw [Zk1.mpr fun _ _=>rfl,show ((m : Nat) : Int).toNat = m from rfl] at this
  rw [Zim]
  exact this) fun q=>?_)
 ((try dsimp only); refine zam ?_)
 have hbl : (zoa f m ps as).length = m:=by rw [<- eb]; exact zjs (zr9 hg).rg
 have eL:=zgv ps (toI (zoa f m ps as))
 rw [<- zca,zm8] at eL
 exact zxa rfl (by
  rw [<- eL]
  exact zxk (pre:=zxq) (res:=zld) (zd7 (zaa rfl).b (zd7 (zlj rfl).b zhp)) ⟨ps,toI (zoa f m ps as),by rw [<- zca],fun p hp=>by unfold toI; rw [Zhk,hbl]; exact hgB.1 p hp,hpl⟩ (by rw [eL]; rfl)) rt
noncomputable def prF (a b : Nat) : Apt:=(min a b,max a b)
noncomputable def zbj (r : List Nat) : List Apt:=(Zhm (r.length - 1)).map fun k=>prF (r.getD k 0) (r.getD (k + 1) 0)
noncomputable def gapR (r : List Nat) : Apt:=prF (r.getD 0 0) (r.getD (r.length - 1) 0)
noncomputable def zcr (r : List Nat) : Bool:=decide (3 <= r.length) && decide r.Nodup
noncomputable abbrev dAp {β : Type} (encB : β->D) (ks : List Apt) (f : Apt->β) : DD:=dA encA encB ks f
theorem valA {β : Type} [DecidableEq β] (encB : β->D) (ks : List Apt) (f : Apt->β) (a : Apt) : valD (dAp encB ks f) (encA a) = if a∈ks then some (encB (f a)) else none:=by
 by_cases h : a∈ks
 ·rw [if_pos h]; exact zfa zcb h
 ·rw [if_neg h]; exact zno zcb h
theorem yap {β : Type} [DecidableEq β] (encB : β->D) (ks : List Apt) (f : Apt->β) (a : Apt) : (valD (dAp encB ks f) (encA a)).isSome = decide (a∈ks):=by
 rw [valA]
 by_cases h : a∈ks
 ·rw [if_pos h,decide_eq_true h]; rfl
 ·rw [if_neg h,decide_eq_false h]; rfl
noncomputable def wtF (ks : List Apt) (f : Apt->Int) (a : Apt) : Int:=if a∈ks then f a else 0
theorem getA (ks : List Apt) (f : Apt->Int) (a : Apt) : (valD (dAp .int ks f) (encA a)).getD (.int 0) = .int (wtF ks f a):=by
 rw [valA]; unfold wtF
 by_cases h : a∈ks
 ·rw [if_pos h,if_pos h]; rfl
 ·rw [if_neg h,if_neg h]; rfl
theorem yaq {β : Type} (encB : β->D) (ks : List Apt) (f : Apt->β) : ∀ q∈dAp encB ks f,∃ es,q.1 = .tup es /\ ∀ d∈es,d.isInt = true:=fun q hq=>by
 obtain ⟨a,_,rfl⟩:=Zh3.mp hq
 exact ⟨_,rfl,fun d hd=>by simp at hd; rcases hd with rfl | rfl <;> rfl⟩
theorem lenA {β : Type} (encB : β->D) (ks : List Apt) (f : Apt->β) : (dAp encB ks f).length = ks.length:=by unfold dAp dA; rw [Zhk]
theorem atA {β : Type} (encB : β->D) (ks : List Apt) (f : Apt->β) {k : Nat} {a : Apt} (h : ks[k]? = some a) : (dAp encB ks f).getD k (.non,.non) = (encA a,encB (f a)):=by
 unfold dAp dA; rw [Zhh,Zho,h]; rfl
noncomputable abbrev zj3 : List Nat:=[104,101,108,100]
noncomputable abbrev zgx : List Nat:=[112,97,114,116,101,100]
noncomputable def encC (b : Bool) : D:=.str (if b then zj3 else zgx)
theorem zl7 (Z : Tx K mg ad0) : FnOk P w K mg base CX0 1 ad0.Zct ad0.Zcy zgg (SpD K (fun ds=>∃ i : Int,ds = [.int i]) fun _=>.bl true):=by
 refine okD Z.Zda.F zqf (by rintro ds ⟨i,rfl⟩; rfl) fun cdv A outer s H Q E hr=>⟨_,(zag (zas (zg9 (zaz zkh (by rfl) Z.Zbx Zqv (zab (pv 0) (zab (zqd (v:=.ty "int") (by rfl) Z.Zg0 boot_int rfl) zae))) (zha (ycn (zaz zjt (by rfl) Z.Zbx Zqv (zab (pv 0) (zab (zqd (v:=.ty "bool") (by rfl) Z.Zfl boot_bool rfl) zae)))))))),fun G ds hp rt=>?_⟩
 obtain ⟨i,rfl⟩:=hp
 exact zaw (d:=.bl true) (zg7 (yc6 (zaa rfl).b) fun _=>yd4 (ybx (zaa rfl).b)) rt
noncomputable def zrx (ds : List D) : Prop:=∃ k m : Nat,ds = [encN k,encN m]
noncomputable def zo0 : List D->D
 | [k,m]=>.bl (decide (unN k < unN m))
 | _=>.non
theorem zk4 (Z : Tx K mg ad0) : FnOk P w K mg base CX0 2 ad0.Zc1 ad0.Zdi zgk (SpD K zrx zo0):=by
 have Zes:=zl7 (P:=P) (w:=w) (base:=base) Z
 refine okD Z.Zb4.F zq0 (by rintro ds ⟨i,m,rfl⟩; rfl) fun cdv A outer s H Q E hr=>⟨_,(zag (zas (zg9 (pcX Zes hr Z.Zda (zab (pv 0) zae)) (zha (zxu zwe zmy zaj (pv 0) (pv 1)))))),fun G ds hp rt=>?_⟩
 obtain ⟨k,m,rfl⟩:=hp
 have e : zo0 [encN k,encN m] = .bl (true && (decide ((0 : Int) <= (k : Nat)) && decide (((k : Nat) : Int) < (m : Nat)))):=by
  show D.bl (decide (k < m)) = _
  rw [decide_eq_true (show (0 : Int) <= (k : Nat) by omega),Ziy,Ziy]
  congr 1
  exact decide_eq_decide.mpr (by omega)
 rw [e] at rt
 exact zaw (zg7 (zb4 (pre:=fun ds=>∃ i : Int,ds = [.int i]) (res:=fun _=>.bl true) (zac (zaa rfl) zaf) ⟨k,rfl⟩) fun _=>zso zai.b (zaa (d:=.int (k : Nat)) rfl).b (zaa (d:=.int (m : Nat)) rfl).b) rt
noncomputable def ziy (ds : List D) : Prop:=∃ a b : Nat,ds = [encN a,encN b]
noncomputable def zis : List D->D
 | [a,b]=>encA (prF (unN a) (unN b))
 | _=>.non
theorem zww {G H₀ L : Hp} {ss : List Sl} {ta tb tc td : TE} {a b : Nat} (e1 : Ev K G H₀ L ss ta (.int (if (b : Int) < (a : Nat) then (b : Int) else (a : Nat)))) (e2 : Ev K G H₀ L ss tb (.int (if (b : Int) > (a : Nat) then (b : Int) else (a : Nat)))) : Ev K G H₀ L ss (tTup (za5 ta (za5 tb tNil))) (encA (prF a b)):=by
 have h1 : (if (b : Int) < (a : Nat) then (b : Int) else (a : Nat)) = ((min a b : Nat) : Int):=by split <;> omega
 have h2 : (if (b : Int) > (a : Nat) then (b : Int) else (a : Nat)) = ((max a b : Nat) : Int):=by split <;> omega
 rw [h1] at e1
 rw [h2] at e2
 exact zbk (zac e1 (zac e2 zaf)) (small (by simp))
theorem zmq (Z : Tx K mg ad0) : FnOk P w K mg base CX0 1 ad0.Zd1 ad0.Zdz zhm (SpD K ziy zis):=by
 refine okD Z.Zdv.F ztk (by rintro ds ⟨i,m,rfl⟩; rfl) fun cdv A outer s H Q E hr=>⟨_,(zag (zas (za3 (zab (zaz (zln rfl) (by rfl) Z.Ze5 Zsy (zab (pv 0) (zab (pv 1) zae))) (zab (zaz (zlf rfl) (by rfl) Z.Zej Zrn (zab (pv 0) (zab (pv 1) zae))) zae))))),fun G ds hp rt=>?_⟩
 obtain ⟨a,b,rfl⟩:=hp
 exact zaw (d:=encA (prF a b)) (zww (tc:=tC .non) (td:=tC .non) (zpl (zaa (d:=.int (a : Nat)) rfl).b (zaa (d:=.int (b : Nat)) rfl).b) (zpu (zaa (d:=.int (a : Nat)) rfl).b (zaa (d:=.int (b : Nat)) rfl).b)) rt
theorem ya6 {r : List Nat} : metN (toI r) = r.length ↔ r.Nodup:=by
 have : (toI r).length = r.length:=by unfold toI; rw [Zhk]
 rw [<- this,ybk]
 unfold toI
 exact ⟨fun h=>(Zm7.mp h).imp fun h z=>h (by rw [z]),fun h=>Zm7.mpr (h.imp fun h z=>h (by omega))⟩
theorem zu7 {G H₀ L : Hp} {ss : List Sl} {i : Nat} {r : List Nat} (h : ss[i]? = some (.d (.lst (r.map encN)))) (hl : r.length <= 1000) : Ev K G H₀ L ss (tCB zw4 (za5 (tCB (zv6 K) (za5 (tVar i) tNil)) tNil)) (.int (metN (toI r))) :=
 zs0 (ns:=toI r) (by rw [<- zca]; exact (zaa h).l) (by unfold toI; rw [Zhk]; exact hl)
noncomputable def zqh (ds : List D) : Prop:=∃ (r : List Nat) (m : Nat),ds = [.lst (r.map encN),encN m]/\r.length <= 1000
noncomputable def zl0 : List D->D
 | [.lst r,m]=>.bl (zcr (r.map unN) && (r.map unN).all fun k=>decide (k < unN m))
 | _=>.non
theorem zmo (Z : Tx K mg ad0) : FnOk P w K mg base CX0 3 ad0.Zds ad0.Zd2 zhy (SpD K zqh zl0):=by
 have Zeb:=zk4 (P:=P) (w:=w) (base:=base) Z
 refine okD Z.Zdw.F zs5 (by rintro ds ⟨i,m,rfl,_⟩; rfl) fun cdv A outer s H Q E hr=>⟨_,(zag (zas (zg9 (zbl zsw (zaz za9 (by rfl) Z.Zal Zli (zab (pv 0) zae)) zaj (zau _)) (zg9 (zbl zcd (zaz (show zdk _ _ zw4 from zo6) (by rfl) Z.Zal Zli (zab (zb9 (show zdk _ _ (zv6 K) from zox rfl) (by rfl) Z.Zf4 boot_set (zab (pv 0) zae)) zae)) (zaz za9 (by rfl) Z.Zal Zli (zab (pv 0) zae)) (zau _)) (zha (zaz (zkt rfl) (by rfl) Z.Ze4 Zsz (zab (znp rfl (LcOk.of (Nx:=(["ring", "many"] : List Str)) (sc:=zah zhg) (N':=(["block", "many"] : List Str)) (nt:=1) (cs:=[1]) rfl rfl (by decide +kernel)) (zbc (pv 0)) (fun _ _ _ _=>(zbx (i:=0) (show Zi9 (["block", "many"] : List Str) by decide +kernel) rfl (Zkz rfl))) (fun _ _ _ _=>zg6) (fun _ _ _ _=>(pcX Zeb hr Z.Zb4 (zab (pv 0) (zab (pv 1) zae))))) zae))))))),fun G ds hp rt=>?_⟩
 obtain ⟨r,m,rfl,hl⟩:=hp
 have ll : ((r.map encN).length : Int) = r.length:=by rw [Zhk]
 have e : zl0 [.lst (r.map encN),encN m] = .bl (decide (((r.map encN).length : Int) ≥ 3) && (decide (((metN (toI r) : Nat) : Int) = ((r.map encN).length : Int)) && r.all fun k=>decide (k < m))):=by
  show D.bl (zcr ((r.map encN).map unN) && ((r.map encN).map unN).all fun k=>decide (k < m)) = _
  rw [zj1]
  unfold zcr
  rw [Zp7]
  congr 2
  ·exact decide_eq_decide.mpr (by rw [ll]; omega)
  ·congr 1
   refine decide_eq_decide.mpr ?_
   rw [<- ya6 (r:=r),Zhk]
   omega
 rw [e] at rt
 refine zaw (zg7 (ztq (ze1 (zaa rfl).l).b zai.b) fun _=>zg7 (zb7 (zu7 rfl hl).b (ze1 (zaa rfl).l).b) fun _=>znw (xs:=r) (g:=fun k=>decide (k < m)) (EvO.l (zqu r encN (fun k=>.bl (decide (k < m))) (zaa rfl).l (zb2 (by decide)) (by decide) (by rw [Zh2]; omega) fun k hk=>⟨_,zan,?_⟩))) rt
 exact zb4 (pre:=zrx) (res:=zo0) (zac (zaa rfl) (zac (zaa rfl) zaf)) ⟨k,m,rfl⟩
noncomputable def zx3 (ds : List D) : Prop:=∃ (r : List Nat),ds = [.lst (r.map encN)]/\r.length <= 1000
noncomputable def zmj : List D->List D
 | [.lst r]=>(zbj (r.map unN)).map encA
 | _=>[]
theorem zgf (r : List Nat) : zmj [.lst (r.map encN)] = (zbj r).map encA:=by show (zbj ((r.map encN).map unN)).map encA = _; rw [zj1]
theorem getN (r : List Nat) (k : Nat) (h : k < r.length) : (r.map encN).getD k .non = encN (r.getD k 0):=by
 rw [Zhh,Zhh,Zho,Zhj h]; rfl
theorem zi1 (Z : Tx K mg ad0) : FnOk P w K mg base CX0 2 ad0.Zdh ad0.Zcw zf1 (SpO K zx3 zmj):=by
 have Zex:=zmq (P:=P) (w:=w) (base:=base) Z
 refine okO Z.Zb7.F zpr (by rintro ds ⟨i,rfl,_⟩; rfl) fun cdv A outer s H Q E hr=>⟨_,(zag (zas (znp rfl (LcOk.of (Nx:=(["ring"] : List Str)) (sc:=zah zfy) (N':=(["one", "other"] : List Str)) (nt:=2) (cs:=[]) rfl rfl (by decide +kernel)) (zl3 (by rfl) Z.Zf6 (zab (pv 0) (zab (zev zgr (pv 0) (zfs zaj) zhf) zae))) (fun _ _ _ _=>(show PG _ _ (gTup K 2 _) from zcq rfl (zaq (zbx (i:=0) (show Zi9 (["one", "other"] : List Str) by decide +kernel) rfl (Zkz rfl)) (zaq (zbx (i:=1) (show Zi9 (["one", "other"] : List Str) by decide +kernel) rfl (Zkz rfl)) zbs)))) (fun _ _ _ _=>zg6) (fun _ _ _ _=>(pcX Zex hr Z.Zdv (zab (pv 0) (zab (pv 1) zae))))))),fun G ds hp rt=>?_⟩
 obtain ⟨r,rfl,hl⟩:=hp
 rw [zgf] at rt
 have hsl : cutD (r.map encN) (some 1) none = (r.drop 1).map encN:=by rw [zll _ (by decide),Zol]; rfl
 have e : (zbj r).map encA = ((Zhm (min (r.map encN).length ((r.drop 1).map encN).length)).filter fun _=>true).map fun k=>encA (prF (r.getD k 0) (r.getD (k + 1) 0)):=by
  unfold zbj
  rw [Zim,Zk1.mpr (fun _ _=>rfl),Zhk,Zhk,Zme,show min r.length (r.length - 1) = r.length - 1 by omega]
  rfl
 rw [e] at rt
 refine zju (zj2 (fun _=>true) (fun k=>encA (prF (r.getD k 0) (r.getD (k + 1) 0))) (EvF.evi (zz5 (ds:=r.map encN) (es:=(r.drop 1).map encN) (zaa rfl) (EvO.ev (by rw [<- hsl]; exact ziv (zaa rfl).l (zfm zai.b) zmv)))) (zmx (zcl (zb2 (by decide)) (zcl (zb2 (by decide)) zjp))) (by decide) (by rw [Zh2]; simp; omega) fun k hk=>?_) rt
 rw [Zhk,Zhk,Zme] at hk
 have h1:=getN r k (by omega)
 have h2 : ((r.drop 1).map encN).getD k .non = encN (r.getD (k + 1) 0):=by
  rw [Zhh,Zhh,Zho,Zom,Nat.add_comm 1 k,Zhj (by omega)]; rfl
 rw [h1,h2]
 exact ⟨_,zcu rfl (zar zan (zar zan zbt)),zja,fun _=>zb4 (pre:=ziy) (res:=zis) (zac (zaa rfl) (zac (zaa rfl) zaf)) ⟨_,_,rfl⟩⟩
noncomputable def zrp (ds : List D) : Prop:=∃ (r : List Nat),ds = [.lst (r.map encN)]/\r≠[]
noncomputable def zo2 : List D->D
 | [.lst r]=>encA (gapR (r.map unN))
 | _=>.non
theorem zjw (r : List Nat) : zo2 [.lst (r.map encN)] = encA (gapR r):=by show encA (gapR ((r.map encN).map unN)) = _; rw [zj1]
theorem zp3 {α : Type} {xs : List α} {v : α} (h : xs[xs.length - 1]? = some v) (hn : xs≠[]) : atI xs (-1) = some v:=by
 have hl : 0 < xs.length:=Zj6.mpr hn
 have h2 : ixN xs.length (-1) = some (xs.length - 1):=by
  unfold ixN
  split <;> rename_i z <;> first | omega | skip
  all_goals (split <;> first | omega | (congr 1; omega))
 unfold atI
 rw [h2]; exact h
theorem zlg (Z : Tx K mg ad0) : FnOk P w K mg base CX0 2 ad0.Zef ad0.Zee zi9 (SpD K zrp zo2):=by
 have Zex:=zmq (P:=P) (w:=w) (base:=base) Z
 refine okD Z.Zdn.F ztw (by rintro ds ⟨i,rfl,_⟩; rfl) fun cdv A outer s H Q E hr=>⟨_,(zag (zas (pcX Zex hr Z.Zdv (zab (zbb (show IxR _ (rIxL K) from zbm) (pv 0) zaj (fun _ _=>rfl)) (zab (zbb (show IxR _ (rIxL K) from zbm) (pv 0) (zli zhq zaj) (fun _ _=>rfl)) zae))))),fun G ds hp rt=>?_⟩
 obtain ⟨r,rfl,hn⟩:=hp
 have hl : 0 < r.length:=Zj6.mpr hn
 rw [zjw] at rt
 have h0 : atI (r.map encN) 0 = some (encN (r.getD 0 0)):=zjr (j:=0) (by rw [Zho,Zhh,Zhj hl]; rfl)
 have h1 : atI (r.map encN) (-1) = some (encN (r.getD (r.length - 1) 0)):=zp3 (by rw [Zhk,Zho,Zhh,Zhj (by omega)]; rfl) (by simpa using hn)
 exact zaw (zb4 (pre:=ziy) (res:=zis) (zac (zep (zaa rfl).l zai.b h0) (zac (zep (zaa rfl).l (ziq (i:=1) zai.b).b h1) zaf)) ⟨_,_,rfl⟩) rt
noncomputable abbrev Dec:=List Apt × (Apt->Bool)
noncomputable abbrev Wts:=List Apt × (Apt->Int)
noncomputable def decD (x : Dec) : D:=D.dicT (dAp encC x.1 x.2)
noncomputable def wtsD (y : Wts) : D:=D.dicT (dAp .int y.1 y.2)
noncomputable def zil (x : Dec) (a : Apt) : Bool:=decide (a∈x.1) && x.2 a
noncomputable def zgn (x : Dec) (a : Apt) : Bool:=decide (a∈x.1) && !x.2 a
theorem yb1 (x : Dec) (a : Apt) : decide ((valD (dAp encC x.1 x.2) (encA a)).getD .non = .str zgx) = zgn x a:=by
 unfold zgn
 rw [valA]
 by_cases h : a∈x.1
 ·rw [if_pos h,decide_eq_true h,Ziy]
  show decide (encC (x.2 a) = .str zgx) = _
  cases x.2 a
  ·exact decide_eq_true rfl
  ·exact decide_eq_false (by intro z; injection z with z; exact absurd z (by decide))
 ·rw [if_neg h,decide_eq_false h,Zmx]
  exact decide_eq_false (by intro z; cases z)
theorem getC (x : Dec) (a : Apt) : (valD (dAp encC x.1 x.2) (encA a)).getD .non = .non \/ ∃ m,(valD (dAp encC x.1 x.2) (encA a)).getD .non = .str m:=by
 rw [valA]
 by_cases h : a∈x.1
 ·rw [if_pos h]; exact .inr ⟨_,rfl⟩
 ·rw [if_neg h]; exact .inl rfl
section
variable {G H₀ L : Hp} {ss : List Sl} {td ty : TE} {a : Apt}
theorem zpw (x : Dec) (e1 : Ev K G H₀ L ss td (decD x)) (e2 : Ev K G H₀ L ss ty (encA a)) : Ev K G H₀ L ss (tOp rEq (zr8 td ty) (tC (.str (T zgx)))) (.bl (zgn x a)):=by
 rw [<- yb1]
 exact zuw (zmw e1 e2 rfl rfl) (getC x a) (zh2 (d:=.str zgx) fun H=>Rep.str (by decide)).b
theorem zjf (x : Dec) (e1 : Ev K G H₀ L ss td (decD x)) (e2 : Ev K G H₀ L ss ty (encA a)) : Ev K G H₀ L ss (zl5 ty td) (.bl (!decide (a∈x.1))):=by
 rw [<- yap encC x.1 x.2]
 exact zlw e1 e2 rfl rfl
theorem ztc (y : Wts) (e1 : Ev K G H₀ L ss td (wtsD y)) (e2 : Ev K G H₀ L ss ty (encA a)) : Ev K G H₀ L ss (zsf td ty (tC (.int 0))) (.int (wtF y.1 y.2 a)):=by
 rw [<- getA]
 exact ztf e1 e2 zai rfl rfl
end
theorem zo9 {G H₀ L : Hp} {ss : List Sl} {i : Nat} {r : List Nat} {E : XK} (h : ss[i]? = some (.d (.lst (r.map encN)))) (hl : r.length <= 1000) : EvO K G H₀ L ss (zhd (SpO K zx3 zmj) [] E (za5 (tVar i) tNil)) ((zbj r).map encA):=by
 rw [<- zgf]
 exact zid (pre:=zx3) (res:=zmj) (zac (zaa h) zaf) ⟨r,rfl,hl⟩
theorem zzt {G H₀ L : Hp} {ss : List Sl} {i : Nat} {r : List Nat} {E : XK} (h : ss[i]? = some (.d (.lst (r.map encN)))) (hn : r≠[]) : Ev K G H₀ L ss (zhd (SpD K zrp zo2) [] E (za5 (tVar i) tNil)) (encA (gapR r)):=by
 rw [<- zjw]
 exact zb4 (pre:=zrp) (res:=zo2) (zac (zaa h) zaf) ⟨r,rfl,hn⟩
noncomputable def zbw (r : List Nat) (x : Dec) : List Apt:=(zbj r++[gapR r]).filter fun a=>!decide (a∈x.1)
noncomputable def ybr (q : List Nat × Dec) (ds : List D) : Prop:=ds = [.lst (q.1.map encN),decD q.2]/\q.1≠[]/\q.1.length <= 1000
noncomputable def yb6 (q : List Nat × Dec) : List D:=(zbw q.1 q.2).map encA
theorem ze0 (r : List Nat) : (zbj r).length = r.length - 1:=by unfold zbj; rw [Zhk,Zjt]
theorem zi6 (Z : Tx K mg ad0) : FnOk P w K mg base CX0 3 ad0.Zby ad0.Zbw zee (SpGO K ybr yb6):=by
 have Zdc:=zi1 (P:=P) (w:=w) (base:=base) Z
 have Zeh:=zlg (P:=P) (w:=w) (base:=base) Z
 refine okGO Z.Zbs.F zne (by rintro q ds ⟨rfl,_⟩; rfl) fun cdv A outer s H Q E hr=>⟨_,(zag (zas (znp rfl (LcOk.of (Nx:=(["ring", "decided"] : List Str)) (sc:=zah zed) (N':=(["pair", "decided"] : List Str)) (nt:=1) (cs:=[1]) rfl rfl (by decide +kernel)) (zbc (za2 (show OpR _ _ (ze3 K) from zcj) (pcX Zdc hr Z.Zb7 (zab (pv 0) zae)) (zbg (zab (pcX Zeh hr Z.Zdn (zab (pv 0) zae)) zae)))) (fun _ _ _ _=>(zbx (i:=0) (show Zi9 (["pair", "decided"] : List Str) by decide +kernel) rfl (Zkz rfl))) (fun _ _ _ _=>(zh6 (zio (zge (zbh hr) (pv 0) (pv 1)) (by with_unfolding_all rfl)))) (fun _ _ _ _=>(pv 0))))),fun G ds q hp rt=>?_⟩
 obtain ⟨r,x⟩:=q
 obtain ⟨rfl,hn,hl⟩:=hp
 have hl : r.length <= 1000:=hl
 have e : (zbj r++[gapR r]).map encA = zmj [.lst (r.map encN)]++[encA (gapR r)]:=by rw [zgf,Zh4]; rfl
 have hll : (zmj [.lst (r.map encN)]).length + 1 <= 1001:=by rw [zgf,Zhk,ze0]; omega
 refine zju (zit (zbj r++[gapR r]) encA (fun a=>!decide (a∈x.1)) encA (by
   rw [e]
   refine EvO.l (zfp (EvO.l (zid (pre:=zx3) (res:=zmj) (zac (zaa rfl) zaf) ⟨r,rfl,hl⟩)) (EvO.l (zbe (zac ?_ zaf) (small (by simp)))) (by rw [Zh2,Zl9]; omega))
   rw [<- zjw]
   exact zb4 (pre:=zrp) (res:=zo2) (zac (zaa rfl) zaf) ⟨r,rfl,hn⟩) (zb2 (by decide)) (by decide) (by rw [Zh2,Zh1,ze0]; simp; omega)
  fun a ha=>⟨_,zan,zki (zjf x (zaa rfl) (zaa rfl)),fun _=>zaa rfl⟩) rt
noncomputable def zjm (x : Dec) (y : Wts) (a : Apt) : Bool:=!(zgn x a || (!decide (a∈x.1) && decide (wtF y.1 y.2 a <= 0)))
noncomputable def zu8 (x : Dec) (y : Wts) (a : Apt) : Bool:=zgn x a || (!decide (a∈x.1) && decide (wtF y.1 y.2 a < 0))
noncomputable def ziu (r : List Nat) (m : Nat) (y : Wts) (x : Dec) : Bool:=(zcr r && r.all fun k=>decide (k < m)) && (!decide (zbw r x = []) && ((zbj r).all (zjm x y) && zu8 x y (gapR r)))
noncomputable def ydu (q : List Nat × Nat × Wts × Dec) (ds : List D) : Prop:=ds = [.lst (q.1.map encN),encN q.2.1,wtsD q.2.2.1,decD q.2.2.2]/\q.1.length <= 1000
noncomputable def yd3 (q : List Nat × Nat × Wts × Dec) : D:=.bl (ziu q.1 q.2.1 q.2.2.1 q.2.2.2)
theorem zk6 (r : List Nat) (m : Nat) : zl0 [.lst (r.map encN),encN m] = .bl (zcr r && r.all fun k=>decide (k < m)):=by
 show D.bl (zcr ((r.map encN).map unN) && ((r.map encN).map unN).all fun k=>decide (k < m)) = _
 rw [zj1]
theorem ybv {l : List Apt} : decide (D.lst (l.map encA) = .lst []) = decide (l = []):=decide_eq_decide.mpr (by cases l <;> simp)
theorem nbsA (l : List Apt) : (D.lst (l.map encA)).nb = true:=D.nbs_map zqi l
theorem depA (l : List Apt) : (D.lst (l.map encA)).dep <= 60:=by
 show D.deps (l.map encA) + 1 <= 60
 have : D.deps (l.map encA) <= 1:=by
  induction l with
  | nil=>exact Zit _
  | cons a l ih=>exact Zsc.mpr ⟨Zhu 1,ih⟩
 omega
theorem zpf (Z : Tx K mg ad0) : FnOk P w K mg base CX0 4 ad0.Zcc ad0.Zca ze2 (SpG K ydu yd3):=by
 have Zez:=zmo (P:=P) (w:=w) (base:=base) Z
 have Zeg:=zi6 (P:=P) (w:=w) (base:=base) Z
 have Zdc:=zi1 (P:=P) (w:=w) (base:=base) Z
 have Zeh:=zlg (P:=P) (w:=w) (base:=base) Z
 refine okG Z.Zdq.F zhs (by rintro q ds ⟨rfl,_⟩; rfl) fun cdv A outer s H Q E hr=>⟨_,(zad (zbi (PW.pt (zkj (zii (zgi (pcX Zez hr Z.Zdw (zab (pv 0) (zab (pv 1) zae))))) (zir (zat (show OpR _ _ (rEqD K) from zvj hr.units) (pcX Zeg hr Z.Zbs (zab (pv 0) (zab (pv 3) zae))) (zbg zae) (zau _))))) (zag (zas zfo)) zax)
   (zad (zbo Zh7 rfl (zbc (pcX Zdc hr Z.Zb7 (zab (pv 0) zae))) (pgn 4 zhs.nd) (zag (zbi (PW.pt (zkj (zat zcd (zky (zbh hr) (pv 3) (pv 4) ⟨by rfl,by rfl,by rfl,by rfl⟩) (zfu (by rfl) Z.Zcn Z.Zei) (zau _)) (zir (PW.pt (zi5 (zio (zge (zbh hr) (pv 4) (pv 3)) (by with_unfolding_all rfl)) (zgs (zat zwe (zfh (zbh hr) (pv 2) (pv 4) zaj ⟨by rfl,by rfl,by rfl,by rfl⟩) zaj (zau _)))))))) (zag (zas zfo)) zax)))
   (zad (psn 5 zhs.nd (pcX Zeh hr Z.Zdn (zab (pv 0) zae)))
   (zag (zas (ybn (zbl zcd (zky (zbh hr) (pv 3) (pv 5) ⟨by rfl,by rfl,by rfl,by rfl⟩) (zfu (by rfl) Z.Zcn Z.Zei) (zau _)) (zha (zg9 (zzw (zge (zbh hr) (pv 5) (pv 3)) (by with_unfolding_all rfl)) (zha (zbl zmy (zfh (zbh hr) (pv 2) (pv 5) zaj ⟨by rfl,by rfl,by rfl,by rfl⟩) zaj (zau _))))))))))),fun G ds q hp rt=>?_⟩
 obtain ⟨r,m,y,x⟩:=q
 obtain ⟨rfl,hl⟩:=hp
 have hl : r.length <= 1000:=hl
 have rt : RtD K G H Q (.bl (ziu r m y x)):=rt
 have ring : ∀ {ss' : List Sl} {L : Hp} {E},ss'[0]? = some (.d (.lst (r.map encN)))->ss'[1]? = some (.d (encN m))->Ev K G H L ss' (zhd (SpD K zqh zl0) [] E (za5 (tVar 0) (za5 (tVar 1) tNil))) (.bl (zcr r && r.all fun k=>decide (k < m))):=fun {ss' L E} h0 h1=>by
  rw [<- zk6]
  exact zb4 (zac (zaa h0) (zac (zaa h1) zaf)) ⟨r,m,rfl,hl⟩
 have rne : (zcr r && r.all fun k=>decide (k < m)) = true->r≠[]:=fun h z=>by
  subst z; simp [zcr] at h
 refine zak (za7 (zg8 (c:=decide (zbw r x = [])) (zft (zal (ring rfl rfl))) fun hb=>zal (by
  rw [Zjn] at hb
  rw [<- ybv]
  exact zt6 (EvO.ev (zgj (pre:=ybr) (res:=yb6) (r,x) (zac (zaa rfl) (zac (zaa rfl) zaf)) ⟨rfl,rne hb,hl⟩)).b (EvO.ev (zbe zaf (small (by simp)))).b (nbsA _) rfl (depA _))) (fun hb=>?_) (fun hb=>?_))
 ·refine zaw zgl ?_
  have : ziu r m y x = false:=by
   unfold ziu
   rw [Zle,Zje,decide_eq_true_eq] at hb
   rcases hb with hb | hb
   ·rw [hb]; rfl
   ·rw [decide_eq_true hb]; simp
  rw [this] at rt; exact rt
 rw [Zkt,Zjn,decide_eq_false_iff_not] at hb
 obtain ⟨hr1,ho⟩:=hb
 have hrn:=rne hr1
 have e0 : ziu r m y x = ((zbj r).all (zjm x y) && zu8 x y (gapR r)):=by
  unfold ziu; rw [hr1,decide_eq_false ho]; simp
 rw [e0] at rt
 refine zak (zdg encA (zbj r) (fun k ss=>(∀ a∈(zbj r).take k,zjm x y a = true) /\ ∃ v4,ss = [.d (.lst (r.map encN)),.d (encN m),.d (wtsD y),.d (decD x),v4,.un]) (EvO.ev (zo9 rfl hl)) ⟨by simp,.un,rfl⟩ ?_ ?_)
 ·rintro L' k a ss hL hk ⟨hall,v4,rfl⟩
  refine ⟨_,zan,fun N hN=>?_⟩
  refine za7 (zg8 (zal (zpw x (zaa rfl) (zaa rfl))) fun _=>zgt (zki (zjf x (zaa rfl) (zaa rfl))) fun _=>zal (zza (ztc y (zaa rfl) (zaa rfl)).b zai.b)) (fun hb=>?_) (fun hb=>?_)
  ·refine zaw zgl ?_
   have : (zbj r).all (zjm x y) = false:=by
    rw [Zov]
    exact ⟨a,Zhs hk,by unfold zjm; rw [hb]; simp⟩
   rw [this] at rt; exact rt
  ·refine za0 (hN _ ⟨fun b hb'=>?_,.d (encA a),rfl⟩)
   rw [Zh8,hk] at hb'
   rcases Zhw.mp hb' with h | h
   ·exact hall b h
   ·rw [show b = a by simpa using h]; unfold zjm; rw [hb]; rfl
 rintro ss ⟨hall,v4,rfl⟩
 rw [Zif] at hall
 rw [Zi5.mpr hall,Ziy] at rt
 ((try dsimp only); refine zam ?_)
 refine zak (zay (zzt rfl hrn) ?_)
 ((try dsimp only); refine zam ?_)
 exact zaw (yal (zpw x (zaa rfl) (zaa rfl)) fun _=>zg7 (zjf x (zaa rfl) (zaa rfl)) fun _=>zqt (ztc y (zaa rfl) (zaa rfl)).b zai.b) rt
noncomputable def sumA (f : Apt->Int) (as : List Apt) : Int:=as.foldl (fun s a=>s + f a) 0
theorem zn7 (f : Apt->Int) (as : List Apt) (a : Apt) : sumA f (as++[a]) = sumA f as + f a:=by unfold sumA; rw [Zjl]; rfl
noncomputable def zjz (y : Wts) (x : Dec) (a : Apt) : Int:=if (!decide (x.2 a = decide (wtF y.1 y.2 a > 0))) = true then absI (wtF y.1 y.2 a) else 0
noncomputable def zpd (y : Wts) (x : Dec) : Int:=sumA (zjz y x) x.1
noncomputable def yeg (q : Wts × Dec) (ds : List D) : Prop:=ds = [wtsD q.1,decD q.2]
noncomputable def ycj (q : Wts × Dec) : D:=.int (zpd q.1 q.2)
theorem ybz (b : Bool) : decide ((if b then zj3 else zgx) = zj3) = b:=by cases b <;> decide
theorem zma (Z : Tx K mg ad0) : FnOk P w K mg base CX0 1 ad0.Za3 ad0.Zaz zc8 (SpG K yeg ycj):=by
 refine okG Z.Zb5.F zb8 (by rintro q ds rfl; rfl) fun cdv A outer s H Q E hr=>⟨_,(zad (psn 2 zb8.nd zaj)
   (zad (zbo Zh7 rfl (zk8 (zlm (pv 1))) (zcq rfl (zaq (pgn 3 zb8.nd) (zaq (pgn 4 zb8.nd) zbs))) (zad (psn 5 zb8.nd (zfh (zbh hr) (pv 0) (pv 3) zaj ⟨by rfl,by rfl,by rfl,by rfl⟩))
   (zag (zbi (zat zqb (zbl zcd (pv 4) (zfu (by rfl) Z.Zey Z.Zgb) (zau _)) (zbl zk5 (pv 5) zaj (zau _)) (zau _)) (zag (psn 2 zb8.nd (za2 zc0 (pv 2) (zaz zh9 (by rfl) Z.Zek Zqi (zab (pv 5) zae))))) zax))))
   (zag (zas (pv 2))))),fun G ds q hp rt=>?_⟩
 obtain ⟨y,x⟩:=q
 obtain rfl:=hp
 have rt : RtD K G H Q (.int (zpd y x)):=rt
 refine zak (zay zai ?_)
 ((try dsimp only); refine zam ?_)
 refine zak (zu4 (fun k ss=>∃ v3 v4 v5,ss = [.d (wtsD y),.d (decD x),.d (.int (sumA (zjz y x) (x.1.take k))),v3,v4,v5]) (zlu (kvs:=dAp encC x.1 x.2) (zaa rfl) (yaq _ _ _)) ⟨.un,.un,.un,rfl⟩ ?_ ?_)
 ·rintro L' k ss hL hk ⟨v3,v4,v5,rfl⟩
  rw [lenA] at hk
  have hka:=Zhj hk
  generalize x.1[k] = a at hka
  rw [atA encC x.1 x.2 hka]
  refine ⟨_,zcu (ds:=[encA a,encC (x.2 a)]) rfl (zar zan (zar zan zbt)),fun N hN=>?_⟩
  have hs : sumA (zjz y x) (x.1.take (k + 1)) = sumA (zjz y x) (x.1.take k) + zjz y x a:=by rw [Zh8,hka]; exact zn7 ..
  refine zak (zay (ztc (a:=a) y (zaa rfl) (zaa rfl)) ?_)
  ((try dsimp only); refine zam ?_)
  refine za7 (b:=!decide (x.2 a = decide (wtF y.1 y.2 a > 0))) (zal (by
   have h1 : Ev K G H L' ([.d (wtsD y),.d (decD x),.d (.int (sumA (zjz y x) (x.1.take k))),.d (encA a),.d (encC (x.2 a)),.d (.int (wtF y.1 y.2 a))] : List Sl) (tOp rEq (tVar 4) (tC (.str (T zj3)))) (.bl (x.2 a)):=by
    have:=zeo (K:=K) (G:=G) (H₀:=H) (L:=L') (ss:=([.d (wtsD y),.d (decD x),.d (.int (sumA (zjz y x) (x.1.take k))),.d (encA a),.d (encC (x.2 a)),.d (.int (wtF y.1 y.2 a))] : List Sl)) (l:=if x.2 a then zj3 else zgx) (m:=zj3) (ta:=tVar 4) (tb:=tC (.str (T zj3))) (zaa rfl).b (zh2 (d:=.str zj3) fun H=>Rep.str (by decide)).b
    rw [ybz] at this; exact this
   exact zot h1.b (zlo (zaa rfl).b zai.b).b)) (fun hq=>?_) (fun hq=>?_)
  ·refine zay (zcx (zaa rfl).b (zjv (zaa rfl).b).b) (hN _ ⟨.d (encA a),.d (encC (x.2 a)),.d (.int (wtF y.1 y.2 a)),?_⟩)
   have e0 : zjz y x a = absI (wtF y.1 y.2 a):=by unfold zjz; rw [if_pos hq]
   rw [hs,e0]; rfl
  ·refine za0 (hN _ ⟨.d (encA a),.d (encC (x.2 a)),.d (.int (wtF y.1 y.2 a)),?_⟩)
   have e0 : zjz y x a = 0:=by unfold zjz; rw [if_neg (by rw [hq]; decide)]
   rw [hs,e0,Zo8]; rfl
 rintro ss ⟨v3,v4,v5,rfl⟩
 rw [lenA,Zif]
 ((try dsimp only); refine zam ?_)
 exact zaw (zaa rfl) rt
noncomputable abbrev Usd:=List Apt × (Apt->Int)
noncomputable def addU (v : Int) (u : Usd) (a : Apt) : Usd:=(if a∈u.1 then u.1 else u.1++[a],fun b=>if b = a then wtF u.1 u.2 a + v else u.2 b)
theorem yad {β : Type} [DecidableEq β] (encB : β->D) (ks : List Apt) (f : Apt->β) {a : Apt} (h : a∈ks) (v : β) : putD (dAp encB ks f) (encA a) (encB v) = dAp encB ks (fun b=>if b = a then v else f b):=by
 unfold putD
 have : ((dAp encB ks f).any fun kv=>decide (kv.1 = encA a)) = true:=by
  rw [Zkd]
  exact ⟨(encA a,encB (f a)),Zh3.mpr ⟨a,h,rfl⟩,by simp⟩
 rw [if_pos this]
 unfold dAp dA
 rw [Zim]
 refine Zip fun b hb=>?_
 show (if encA b = encA a then (encA b,encB v) else (encA b,encB (f b))) = _
 by_cases hba : b = a
 ·subst hba; simp
 ·rw [if_neg (fun z=>hba (zcb _ _ z))]
  show _ = (encA b,encB (if b = a then v else f b))
  rw [if_neg hba]
theorem zqw {β : Type} [DecidableEq β] (encB : β->D) (ks : List Apt) (f : Apt->β) (a : Apt) (v : β) : putD (dAp encB ks f) (encA a) (encB v) = dAp encB (if a∈ks then ks else ks++[a]) (fun b=>if b = a then v else f b):=by
 by_cases h : a∈ks
 ·rw [if_pos h]; exact yad encB ks f h v
 ·rw [if_neg h]
  have e : dAp encB ks f = dAp encB ks (fun b=>if b = a then v else f b):=by
   unfold dAp dA
   refine Zip fun b hb=>?_
   show _ = (encA b,encB (if b = a then v else f b))
   rw [if_neg (fun z=>h (by rw [<- z]; exact hb))]
  rw [e]
  have:=zfl (enc:=encA) (encB:=encB) (f:=fun b=>if b = a then v else f b) (x:=a) (xs:=ks) zcb h
  rw [if_pos rfl] at this
  exact this
noncomputable abbrev Row:=List Nat × Int
noncomputable def zba (q : Row) : D:=.tup [.lst (q.1.map encN),.int q.2]
noncomputable def useR (x : Dec) (rows : List Row) : Usd:=rows.foldl (fun u q=>(zbw q.1 x).foldl (addU q.2) u) ([],fun _=>0)
noncomputable def sumR (rows : List Row) : Int:=rows.foldl (fun s q=>s + q.2) 0
theorem zv1 (x : Dec) (rows : List Row) (q : Row) : useR x (rows++[q]) = (zbw q.1 x).foldl (addU q.2) (useR x rows):=by unfold useR; rw [Zjl]; rfl
theorem zog (rows : List Row) (q : Row) : sumR (rows++[q]) = sumR rows + q.2:=by unfold sumR; rw [Zjl]; rfl
noncomputable def znl (m : Nat) (y : Wts) (x : Dec) (q : Row) : Bool:=decide (1 <= q.2) && ziu q.1 m y x
noncomputable def zn1 (rows : List Row) (m : Nat) (y : Wts) (x : Dec) (least : Int) : Bool:=rows.all (znl m y x) && (((useR x rows).1.all fun a=>decide ((useR x rows).2 a <= absI (wtF y.1 y.2 a))) && decide (zpd y x + sumR rows ≥ least))
theorem zos (v : Int) : ∀ (as : List Apt) (u : Usd) (b : Apt),b∈(as.foldl (addU v) u).1 ↔ b∈u.1 \/ b∈as
 | [],u,b=>by simp
 | a::as,u,b=>by
  rw [Zkw,zos v as]
  have : b∈(addU v u a).1 ↔ b∈u.1 \/ b = a:=by
   unfold addU
   by_cases h : a∈u.1
   ·rw [if_pos h]
    exact ⟨.inl,fun z=>z.elim id fun z=>by rw [z]; exact h⟩
   ·rw [if_neg h]; simp
  rw [this,Zie,or_assoc]
theorem zk2 (x : Dec) : ∀ (rows : List Row) (b : Apt),b∈(useR x rows).1 ↔ ∃ q∈rows,b∈zbw q.1 x:=by
 have : ∀ (rows : List Row) (u : Usd) (b : Apt),b∈(rows.foldl (fun u q=>(zbw q.1 x).foldl (addU q.2) u) u).1 ↔ b∈u.1 \/ ∃ q∈rows,b∈zbw q.1 x:=by
  intro rows
  induction rows with
  | nil=>intro u b; simp
  | cons q rows ih =>
   intro u b
   rw [Zkw,ih,zos]
   simp only [Zie,exists_eq_or_imp,or_assoc]
 intro rows b
 unfold useR
 rw [this]
 simp
theorem zjb (v : Int) : ∀ (as : List Apt) (u : Usd),(as.foldl (addU v) u).1.length <= u.1.length + as.length
 | [],u=>by simp
 | a::as,u=>by
  rw [Zkw]
  have h:=zjb v as (addU v u a)
  have h2 : (addU v u a).1.length <= u.1.length + 1:=by unfold addU; dsimp only; split <;> simp
  rw [Zkb]
  omega
theorem zq4 (r : List Nat) (x : Dec) : (zbw r x).length <= r.length - 1 + 1:=by
 unfold zbw
 refine Zik (Zjb _ _) ?_
 rw [Zh1,ze0]; simp
theorem zwu {r : List Nat} {m : Nat} {y : Wts} {x : Dec} (h : ziu r m y x = true) {a : Apt} (ha : a∈zbw r x) : a∈y.1:=by
 unfold ziu at h
 simp only [Zib] at h
 obtain ⟨_,_,hl,hg⟩:=h
 unfold zbw at ha
 obtain ⟨hm,hn⟩:=Zh0.mp ha
 have hnp : zgn x a = false:=by unfold zgn; rw [Zje] at hn; rw [hn]; rfl
 have hw : wtF y.1 y.2 a≠0:=by
  rcases Zhw.mp hm with hm | hm
  ·have:=Zi5.mp hl a hm
   unfold zjm at this
   rw [hnp,hn] at this
   simp at this
   omega
  ·have ea : a = gapR r:=by simpa using hm
   subst ea
   unfold zu8 at hg
   rw [hnp,hn] at hg
   simp at hg
   omega
 unfold wtF at hw
 split at hw
 ·assumption
 ·exact absurd rfl hw
noncomputable def yej (q : List Row × Nat × Wts × Dec × Int) (ds : List D) : Prop:=ds = [.lst (q.1.map zba),encN q.2.1,wtsD q.2.2.1,decD q.2.2.2.1,.int q.2.2.2.2]/\q.1.length <= 100 /\ ∀ r∈q.1,r.1.length <= 100
noncomputable def yd9 (q : List Row × Nat × Wts × Dec × Int) : D:=.bl (zn1 q.1 q.2.1 q.2.2.1 q.2.2.2.1 q.2.2.2.2)
theorem zq5 {α : Type} {l : List α} {k : Nat} {a b : α} (hk : l[k]? = some a) (h : b∈l.take (k + 1)) : b∈l.take k \/ b = a:=by
 rw [Zh8,hk] at h
 rcases Zhw.mp h with h | h
 ·exact .inl h
 ·exact .inr (by simpa using h)
theorem zur (x : Dec) : ∀ (rows : List Row),(∀ q∈rows,q.1.length <= 100)->(useR x rows).1.length <= rows.length * 101:=by
 intro rows
 have : ∀ (rows : List Row) (u : Usd),(∀ q∈rows,q.1.length <= 100)->(rows.foldl (fun u q=>(zbw q.1 x).foldl (addU q.2) u) u).1.length <= u.1.length + rows.length * 101:=by
  intro rows
  induction rows with
  | nil=>intro u _; simp
  | cons q rows ih =>
   intro u h
   rw [Zkw]
   have h1:=ih ((zbw q.1 x).foldl (addU q.2) u) fun r hr=>h r (Zhv _ hr)
   have h2:=zjb q.2 (zbw q.1 x) u
   have h3:=zq4 q.1 x
   have h4:=h q Zhx
   rw [Zkb]
   omega
 intro h
 have:=this rows ([],fun _=>0) h
 unfold useR
 simpa using this
theorem znd (Z : Tx K mg ad0) : FnOk P w K mg base CX0 5 ad0.Zbr ad0.Zbp zef (SpG K yej yd9) := by
 have Zes:=zl7 (P:=P) (w:=w) (base:=base) Z
 have Zfq:=zma (P:=P) (w:=w) (base:=base) Z
 have Zgs:=zpf (P:=P) (w:=w) (base:=base) Z
 have Zeg:=zi6 (P:=P) (w:=w) (base:=base) Z
 refine okG Z.Zcu.F zb0 (by rintro q ds ⟨rfl,_⟩; rfl) fun cdv A outer s H Q E hr=>⟨_,(zad (psn 5 zb0.nd (pcX Zfq hr Z.Zb5 (zab (pv 2) (zab (pv 3) zae))))
   (zad (psn 6 zb0.nd zgp)
   (zad (zbo Zh7 rfl (zbc (pv 0)) (zcq rfl (zaq (pgn 7 zb0.nd) (zaq (pgn 8 zb0.nd) zbs))) (zad (zbi (PW.pt (zkj (zii (zgi (pcX Zes hr Z.Zda (zab (pv 8) zae)))) (zkj (zat zmy (pv 8) zaj (zau _)) (zir (zii (zgi (pcX Zgs hr Z.Zdq (zab (pv 7) (zab (pv 1) (zab (pv 2) (zab (pv 3) zae))))))))))) (zag (zas zfo)) zax)
   (zad (psn 5 zb0.nd (za2 zc0 (pv 5) (pv 8)))
   (zag (zbo Zh7 rfl (zbc (pcX Zeg hr Z.Zbs (zab (pv 7) (zab (pv 3) zae)))) (pgn 9 zb0.nd) (zag (zdq (zbh hr) (pv 6) (pv 9) (za2 zc0 (zfh (zbh hr) (pv 6) (pv 9) zaj ⟨by rfl,by rfl,by rfl,by rfl⟩) (pv 8)) rfl)))))))
   (zad (zj9 (psn 10 zb0.nd (zaz (zkt rfl) (by rfl) Z.Ze4 Zsz (zab (znp rfl (LcOk.of (Nx:=(["rings", "many", "weights", "decided", "least", "shown", "used", "ring", "amount", "pair", "within"] : List Str)) (sc:=zah zeb) (N':=(["pair", "amount", "weights"] : List Str)) (nt:=2) (cs:=[2]) rfl rfl (by decide +kernel)) (zk8 (zlm (pv 6))) (fun _ _ _ _=>(show PG _ _ (gTup K 2 _) from zcq rfl (zaq (zbx (i:=0) (show Zi9 (["pair", "amount", "weights"] : List Str) by decide +kernel) rfl (Zkz rfl)) (zaq (zbx (i:=1) (show Zi9 (["pair", "amount", "weights"] : List Str) by decide +kernel) rfl (Zkz rfl)) zbs)))) (fun _ _ _ _=>zg6) (fun _ _ _ _=>(zbl zwe (pv 1) (zaz zh9 (by rfl) Z.Zek Zqi (zab (zc2 (zbh hr) (pv 2) (pv 0) (fun _ _=>rfl)) zae)) (zau _)))) zae))))
   (zag (zas (zg9 (pv 10) (zha (zbl zsw (pv 5) (pv 4) (zau _)))))))))),fun G ds q hp rt=>?_⟩
 obtain ⟨rows,m,y,x,least⟩:=q
 obtain ⟨rfl,hl,hrl⟩:=hp
 have hl : rows.length <= 100:=hl
 have hrl : ∀ r∈rows,r.1.length <= 100:=hrl
 have rt : RtD K G H Q (.bl (zn1 rows m y x least)):=rt
 refine zak (zay (d:=.int (zpd y x)) (za1 (pre:=yeg) (res:=ycj) (y,x) (zac (zaa rfl) (zac (zaa rfl) zaf)) rfl) ?_)
 ((try dsimp only); refine zam ?_)
 refine zak (zg5 fun p=>?_)
 ((try dsimp only); refine zam ?_)
 refine zak (zdg zba rows (fun k ss=>(∀ q∈rows.take k,znl m y x q = true) /\ ∃ v7 v8 v9,ss = [.d (.lst (rows.map zba)),.d (encN m),.d (wtsD y),.d (decD x),.d (.int least),.d (.int (zpd y x + sumR (rows.take k))),dslT K p (dAp .int (useR x (rows.take k)).1 (useR x (rows.take k)).2),v7,v8,v9,.un]) (zaa rfl) ⟨by simp,.un,.un,.un,by simp [sumR,useR,dA]; rfl⟩ ?_ ?_)
 ·rintro L' k q ss hL hk ⟨hall,v7,v8,v9,rfl⟩
  obtain ⟨r,am⟩:=q
  have hq : (r,am)∈rows:=Zhs hk
  have hr1 : r.length <= 100:=hrl _ hq
  have hkl : k < rows.length:=(Zhn.mp hk).1
  have hul : (useR x (rows.take k)).1.length <= 10100:=by
   have:=zur x (rows.take k) fun q hq=>hrl q (Zke hq)
   rw [Zin] at this
   omega
  have hol:=zq4 r x
  have ht : rows.take (k + 1) = rows.take k++[(r,am)]:=by rw [Zh8,hk]; rfl
  refine ⟨_,zcu (ds:=[.lst (r.map encN),.int am]) rfl (zar zan (zar zan zbt)),fun N hN=>?_⟩
  refine zak (za7 (b:=!true || (decide (am < 1) || !ziu r m y x)) (zg8 (zft (zal (zb4 (pre:=fun ds=>∃ i : Int,ds = [.int i]) (res:=fun _=>.bl true) (zac (zaa rfl) zaf) ⟨am,rfl⟩))) fun _=>zg8 (zal (zqt (zaa rfl).b zai.b)) fun _=>zft (zal (za1 (pre:=ydu) (res:=yd3) (r,m,y,x) (zac (zaa rfl) (zac (zaa rfl) (zac (zaa rfl) (zac (zaa rfl) zaf)))) ⟨rfl,(by show r.length <= 1000; omega)⟩))) (fun hb=>?_) (fun hb=>?_))
  ·refine zaw zgl ?_
   have : zn1 rows m y x least = false:=by
    have : rows.all (znl m y x) = false:=by
     rw [Zov]
     refine ⟨_,hq,?_⟩
     unfold znl
     simp only [Zoo,Zmi,Zle,decide_eq_true_eq,Zje] at hb
     rcases hb with hb | hb
     ·rw [decide_eq_false (by show ¬ 1 <= am; omega)]; simp
     ·show ¬ (decide (1 <= am) && ziu r m y x) = true
      rw [hb]; simp
    unfold zn1; rw [this]; rfl
   rw [this] at rt; exact rt
  simp only [Zoo,Zmi,Zkt,decide_eq_false_iff_not,Zjn] at hb
  obtain ⟨hb1,hb2⟩:=hb
  have hrow : znl m y x (r,am) = true:=by
   show (decide (1 <= am) && ziu r m y x) = true
   rw [decide_eq_true (by omega),hb2]; rfl
  have hrn : r≠[]:=fun z=>by subst z; simp [ziu,zcr] at hb2
  ((try dsimp only); refine zam ?_)
  refine zak (zay (zcx (zaa rfl).b (zaa rfl).b) ?_)
  ((try dsimp only); refine zam ?_)
  refine zdg encA (zbw r x) (fun j ss=>∃ v9,ss = [.d (.lst (rows.map zba)),.d (encN m),.d (wtsD y),.d (decD x),.d (.int least),.d (.int (zpd y x + sumR (rows.take k) + am)),dslT K p (dAp .int (((zbw r x).take j).foldl (addU am) (useR x (rows.take k))).1 (((zbw r x).take j).foldl (addU am) (useR x (rows.take k))).2),.d (.lst (r.map encN)),.d (.int am),v9,.un]) (EvO.ev (zgj (pre:=ybr) (res:=yb6) (r,x) (zac (zaa rfl) (zac (zaa rfl) zaf)) ⟨rfl,hrn,(by show r.length <= 1000; omega)⟩)) ⟨v9,by simp⟩ ?_ ?_
  ·rintro L2 j a ss hL2 hj ⟨v9,rfl⟩
   refine ⟨_,zan,fun N2 hN2=>?_⟩
   have hjl : j < (zbw r x).length:=(Zhn.mp hj).1
   have hl2:=zjb am ((zbw r x).take j) (useR x (rows.take k))
   rw [Zin] at hl2
   refine zd8 (d:=.int (wtF (((zbw r x).take j).foldl (addU am) (useR x (rows.take k))).1 (((zbw r x).take j).foldl (addU am) (useR x (rows.take k))).2 a + am)) rfl (zcx (by rw [<- getA]; exact (zpk rfl (zaa rfl) zai rfl rfl).b) (zaa rfl).b) (zaa rfl) rfl rfl (by rw [Zh2,lenA]; omega) (hN2 _ ⟨.d (encA a),?_⟩)
   have et : (zbw r x).take (j + 1) = (zbw r x).take j++[a]:=by rw [Zh8,hj]; rfl
   rw [et,Zjl]
   have:=zqw D.int (((zbw r x).take j).foldl (addU am) (useR x (rows.take k))).1 (((zbw r x).take j).foldl (addU am) (useR x (rows.take k))).2 a (wtF (((zbw r x).take j).foldl (addU am) (useR x (rows.take k))).1 (((zbw r x).take j).foldl (addU am) (useR x (rows.take k))).2 a + am)
   show Zql _ _ (dslT K p (putD _ (encA a) (.int _))) = _
   rw [this]; rfl
  ·rintro ss ⟨v9,rfl⟩
   refine hN _ ⟨fun b hb=>?_,.d (.lst (r.map encN)),.d (.int am),v9,?_⟩
   ·rcases zq5 hk hb with h | h
    ·exact hall b h
    ·rw [h]; exact hrow
   ·rw [Zif,ht,zv1,zog,Zt1]
 rintro ss ⟨hall,v7,v8,v9,rfl⟩
 rw [Zif] at hall ⊢
 ((try dsimp only); refine zam ?_)
 have hall2 : rows.all (znl m y x) = true:=Zi5.mpr hall
 have e0 : zn1 rows m y x least = (((useR x rows).1.all fun a=>decide ((useR x rows).2 a <= absI (wtF y.1 y.2 a))) && decide (zpd y x + sumR rows ≥ least)):=by unfold zn1; rw [hall2,Ziy]
 rw [e0] at rt
 have hul : (useR x rows).1.length <= 10100:=by
  have:=zur x rows hrl
  omega
 refine zak (zka (i:=6) rfl (zay (d:=.bl ((useR x rows).1.all fun a=>decide ((useR x rows).2 a <= absI (wtF y.1 y.2 a)))) (znw (xs:=(useR x rows).1) (EvO.l ?_)) ?_))
 ·have e1 : (useR x rows).1.map (fun a=>D.bl (decide ((useR x rows).2 a <= absI (wtF y.1 y.2 a)))) = ((Zhm (dAp .int (useR x rows).1 (useR x rows).2).length).filter fun _=>true).map fun k=>D.bl (decide ((useR x rows).2 ((useR x rows).1.getD k (0,0)) <= absI (wtF y.1 y.2 ((useR x rows).1.getD k (0,0))))):=by
   rw [Zk1.mpr (fun _ _=>rfl),lenA]
   refine Zkl fun i=>?_
   rw [Zho,Zho]
   by_cases hi : i < (useR x rows).1.length
   ·rw [Zji hi,Zhj hi]
    simp [Zhh,hi]
   ·rw [Zis (by omega),Zis (by simpa using hi)]; rfl
  rw [e1]
  refine zj2 (fun _=>true) (fun k=>D.bl (decide ((useR x rows).2 ((useR x rows).1.getD k (0,0)) <= absI (wtF y.1 y.2 ((useR x rows).1.getD k (0,0)))))) (EvF.evi (zlu (kvs:=dAp .int (useR x rows).1 (useR x rows).2) (zaa rfl) (yaq _ _ _))) (zmx (zcl (zb2 (by decide)) (zcl (zb2 (by decide)) zjp))) (by decide) (by rw [Zh2,lenA]; omega) fun k hk=>?_
  rw [lenA] at hk
  have hka:=Zhj hk
  have hget : (useR x rows).1.getD k (0,0) = (useR x rows).1[k]:=by rw [Zhh,hka]; rfl
  rw [hget]
  have hmem : (useR x rows).1[k]∈(useR x rows).1:=Zkc hk
  generalize (useR x rows).1[k] = a at hka hmem
  rw [atA _ _ _ hka]
  obtain ⟨q,hq,hao⟩:=(zk2 x rows a).mp hmem
  have hrq:=hall q hq
  have hay : a∈y.1:=by
   unfold znl at hrq
   rw [Zib] at hrq
   exact zwu hrq.2 hao
  refine ⟨_,zcu (ds:=[encA a,.int ((useR x rows).2 a)]) rfl (zar zan (zar zan zbt)),zja,fun _=>?_⟩
  have hw : wtF y.1 y.2 a = y.2 a:=if_pos hay
  rw [hw]
  exact zza (zaa rfl).b (zjv (zl8 (kvs:=dAp .int y.1 y.2) (zaa rfl) (zaa (d:=encA a) rfl) rfl rfl (by rw [show D.tup [.int a.1,.int a.2] = encA a from rfl,valA,if_pos hay])).b).b
 ((try dsimp only); refine zam ?_)
 exact zaw (zg7 (zaa rfl) fun _=>ztq (zaa rfl).b (zaa rfl).b) rt
noncomputable def zxc (as : List Apt) (ds : List D) : Prop:=ds = [.lst (as.map encA)]/\as.Nodup/\as.length <= 1000
noncomputable def decP (as : List Apt) : Dec:=(as,fun _=>false)
theorem zkp {α : Type} {l : List α} (h : l.Nodup) {k : Nat} {a : α} (hk : l[k]? = some a) : a ∉ l.take k:=fun hm=>by
 have hl:=(Zhn.mp hk).1
 have : (l.take (k + 1)).Nodup:=h.sublist (Zry _ _)
 rw [Zh8,hk] at this
 exact (Zkv.mp this).2.2 a hm a (by simp) rfl
theorem zkg (Z : Tx K mg ad0) : FnOk P w K mg base CX0 1 ad0.Zat ad0.Zan zct (SpG K zxc fun as=>decD (decP as)):=by
 refine okG Z.Zbm.F zek (by rintro q ds ⟨rfl,_⟩; rfl) fun cdv A outer s H Q E hr=>⟨_,(zad (psn 1 zek.nd zgp)
   (zad (zbo Zh7 rfl (zbc (pv 0)) (pgn 2 zek.nd) (zag (zdq (zbh hr) (pv 1) (pv 2) (zfu (by rfl) Z.Zcn Z.Zei) rfl)))
   (zag (zj9 (zas (pv 1)))))),fun G ds as hp rt=>?_⟩
 obtain ⟨rfl,hn,hl⟩:=hp
 refine zak (zg5 fun p=>?_)
 ((try dsimp only); refine zam ?_)
 refine zak (zdg encA as (fun k ss=>∃ v2,ss = [.d (.lst (as.map encA)),dslT K p (dAp encC (as.take k) (fun _=>false)),v2]) (zaa rfl) ⟨.un,rfl⟩ ?_ ?_)
 ·rintro L' k a ss hL hk ⟨v2,rfl⟩
  refine ⟨_,zan,fun N hN=>?_⟩
  refine zd8 (d:=encC false) rfl (zh2 (d:=.str zgx) fun H=>Rep.str (by decide)) (zaa rfl) rfl rfl (by rw [Zh2,lenA,Zin]; omega) (hN _ ⟨.d (encA a),?_⟩)
  have e : putD (dAp encC (as.take k) fun _=>false) (encA a) (encC false) = dAp encC (as.take (k + 1)) fun _=>false:=by
   rw [Zh8,hk]
   exact zfl (f:=fun _=>false) zcb (zkp hn hk)
  show Zql _ _ (dslT K p (putD _ (encA a) _)) = _
  rw [e]; rfl
 rintro ss ⟨v2,rfl⟩
 rw [Zif]
 ((try dsimp only); refine zam ?_)
 exact zka (i:=1) rfl (zaw (zaa rfl) rt)
noncomputable def keyP (p : Pr) : Apt:=(p.1,p.2.1)
noncomputable def wOf (ps : List Pr) (a : Apt) : Int:=((ps.find? fun p=>decide (keyP p = a)).map (·.2.2)).getD 0
noncomputable def wtsP (ps : List Pr) : Wts:=(ps.map keyP,wOf ps)
noncomputable def zyh (ps : List Pr) (ds : List D) : Prop:=ds = [.lst (ps.map encP)]/\(ps.map keyP).Nodup/\ps.length <= 1000
theorem zw2 : ∀ {ps : List Pr},(ps.map keyP).Nodup -> ∀ {p : Pr},p∈ps->wOf ps (keyP p) = p.2.2
 | q::ps,hn,p,hp=>by
  rw [Zh5,Zjz] at hn
  unfold wOf
  rw [Zi2]
  rcases Zie.mp hp with h | h
  ·subst h; rw [decide_eq_true rfl]; rfl
  ·have : ¬ keyP q = keyP p:=fun z=>hn.1 (by rw [z]; exact Zh3.mpr ⟨p,h,rfl⟩)
   rw [decide_eq_false this]
   exact zw2 hn.2 h
theorem zkk (Z : Tx K mg ad0) : FnOk P w K mg base CX0 1 ad0.Zao ad0.Zar zcp (SpG K zyh fun ps=>wtsD (wtsP ps)):=by
 refine okG Z.Zbo.F zch (by rintro q ds ⟨rfl,_⟩; rfl) fun cdv A outer s H Q E hr=>⟨_,(zad (psn 1 zch.nd zgp)
   (zad (zbo Zh7 rfl (zbc (pv 0)) (zcq rfl (zaq (pgn 2 zch.nd) (zaq (pgn 3 zch.nd) (zaq (pgn 4 zch.nd) zbs)))) (zag (zdq (zbh hr) (pv 1) (za3 (zab (pv 2) (zab (pv 3) zae))) (pv 4) rfl)))
   (zag (zj9 (zas (pv 1)))))),fun G ds ps hp rt=>?_⟩
 obtain ⟨rfl,hn,hl⟩:=hp
 refine zak (zg5 fun p=>?_)
 ((try dsimp only); refine zam ?_)
 refine zak (zdg encP ps (fun k ss=>∃ v2 v3 v4,ss = [.d (.lst (ps.map encP)),dslT K p (dAp .int ((ps.take k).map keyP) (wOf ps)),v2,v3,v4]) (zaa rfl) ⟨.un,.un,.un,rfl⟩ ?_ ?_)
 ·rintro L' k q ss hL hk ⟨v2,v3,v4,rfl⟩
  refine ⟨_,zcu rfl (zar zan (zar zan (zar zan zbt))),fun N hN=>?_⟩
  refine zd8 (ds:=[.int q.1,.int q.2.1]) (d:=.int q.2.2) rfl (zaa rfl) (zbk (zac (zaa rfl) (zac (zaa rfl) zaf)) (small (by simp))) rfl rfl (by rw [Zh2,lenA,Zhk,Zin]; omega) (hN _ ⟨.d (.int q.1),.d (.int q.2.1),.d (.int q.2.2),?_⟩)
  have hq:=Zhs hk
  have hnt : keyP q ∉ (ps.take k).map keyP:=by
   rw [Zmh]
   exact zkp hn (by rw [Zho,hk]; rfl)
  have e : putD (dAp .int ((ps.take k).map keyP) (wOf ps)) (encA (keyP q)) (.int q.2.2) = dAp .int ((ps.take (k + 1)).map keyP) (wOf ps):=by
   rw [Zh8,hk,Zh4,<- zw2 hn hq]
   exact zfl (f:=wOf ps) zcb hnt
  show Zql _ _ (dslT K p (putD _ (encA (keyP q)) _)) = _
  rw [e]; rfl
 rintro ss ⟨v2,v3,v4,rfl⟩
 rw [Zif]
 ((try dsimp only); refine zam ?_)
 exact zka (i:=1) rfl (zaw (zaa rfl) rt)
theorem ybo (x : Dec) (a : Apt) : decide ((valD (dAp encC x.1 x.2) (encA a)).getD .non = .str zj3) = zil x a:=by
 unfold zil
 rw [valA]
 by_cases h : a∈x.1
 ·rw [if_pos h,decide_eq_true h,Ziy]
  show decide (encC (x.2 a) = .str zj3) = _
  cases x.2 a
  ·exact decide_eq_false (by intro z; injection z with z; exact absurd z (by decide))
  ·exact decide_eq_true rfl
 ·rw [if_neg h,decide_eq_false h,Zmx]
  exact decide_eq_false (by intro z; cases z)
theorem yaz {G H₀ L : Hp} {ss : List Sl} {td ty : TE} {a : Apt} (x : Dec) (e1 : Ev K G H₀ L ss td (decD x)) (e2 : Ev K G H₀ L ss ty (encA a)) : Ev K G H₀ L ss (tOp rEq (zr8 td ty) (tC (.str (T zj3)))) (.bl (zil x a)):=by
 rw [<- ybo]
 exact zuw (zmw e1 e2 rfl rfl) (getC x a) (zh2 (d:=.str zj3) fun H=>Rep.str (by decide)).b
noncomputable def zjj (r : List Nat) (m : Nat) (x : Dec) : Bool:=(zcr r && r.all fun k=>decide (k < m)) && ((zbj r).all (zil x) && zgn x (gapR r))
noncomputable def ycb (q : List Nat × Nat × Dec) (ds : List D) : Prop:=ds = [.lst (q.1.map encN),encN q.2.1,decD q.2.2]/\q.1.length <= 1000
noncomputable def yds (q : List Nat × Nat × Dec) : D:=.bl (zjj q.1 q.2.1 q.2.2)
theorem zqx (Z : Tx K mg ad0) : FnOk P w K mg base CX0 4 ad0.Zdb ad0.Zc9 zf2 (SpG K ycb yds):=by
 have Zez:=zmo (P:=P) (w:=w) (base:=base) Z
 have Zdc:=zi1 (P:=P) (w:=w) (base:=base) Z
 have Zeh:=zlg (P:=P) (w:=w) (base:=base) Z
 refine okG Z.Zd5.F zl4 (by rintro q ds ⟨rfl,_⟩; rfl) fun cdv A outer s H Q E hr=>⟨_,(zad (zbi (zii (zgi (pcX Zez hr Z.Zdw (zab (pv 0) (zab (pv 1) zae))))) (zag (zas zfo)) zax)
   (zad (psn 3 zl4.nd (zaz (zkt rfl) (by rfl) Z.Ze4 Zsz (zab (znp rfl (LcOk.of (Nx:=(["ring", "many", "decided", "all_held"] : List Str)) (sc:=zah zf5) (N':=(["link", "decided"] : List Str)) (nt:=1) (cs:=[2]) rfl rfl (by decide +kernel)) (zbc (pcX Zdc hr Z.Zb7 (zab (pv 0) zae))) (fun _ _ _ _=>(zbx (i:=0) (show Zi9 (["link", "decided"] : List Str) by decide +kernel) rfl (Zkz rfl))) (fun _ _ _ _=>zg6) (fun _ _ _ _=>(zbl zcd (zky (zbh hr) (pv 1) (pv 0) ⟨by rfl,by rfl,by rfl,by rfl⟩) (zfu (by rfl) Z.Zey Z.Zgb) (zau _)))) zae)))
   (zag (zas (zg9 (pv 3) (zha (zbl zcd (zky (zbh hr) (pv 2) (pcX Zeh hr Z.Zdn (zab (pv 0) zae)) ⟨by rfl,by rfl,by rfl,by rfl⟩) (zfu (by rfl) Z.Zcn Z.Zei) (zau _)))))))),fun G ds q hp rt=>?_⟩
 obtain ⟨r,m,x⟩:=q
 obtain ⟨rfl,hl⟩:=hp
 have hl : r.length <= 1000:=hl
 have rt : RtD K G H Q (.bl (zjj r m x)):=rt
 have ring : ∀ {ss' : List Sl} {L : Hp} {E},ss'[0]? = some (.d (.lst (r.map encN)))->ss'[1]? = some (.d (encN m))->Ev K G H L ss' (zhd (SpD K zqh zl0) [] E (za5 (tVar 0) (za5 (tVar 1) tNil))) (.bl (zcr r && r.all fun k=>decide (k < m))):=fun {ss' L E} h0 h1=>by
  rw [<- zk6]
  exact zb4 (zac (zaa h0) (zac (zaa h1) zaf)) ⟨r,m,rfl,hl⟩
 refine zak (za7 (zft (zal (ring rfl rfl))) (fun hb=>?_) (fun hb=>?_))
 ·rw [Zje] at hb
  refine zaw zgl ?_
  have : zjj r m x = false:=by unfold zjj; rw [hb]; rfl
  rw [this] at rt; exact rt
 rw [Zjn] at hb
 have hrn : r≠[]:=fun z=>by subst z; simp [zcr] at hb
 have e0 : zjj r m x = ((zbj r).all (zil x) && zgn x (gapR r)):=by unfold zjj; rw [hb,Ziy]
 rw [e0] at rt
 ((try dsimp only); refine zam ?_)
 refine zak (zay (d:=.bl ((zbj r).all (zil x))) (znw (xs:=zbj r) (g:=zil x) (EvO.l (zqu (zbj r) encA (fun a=>.bl (zil x a)) (EvO.l (zo9 rfl hl)) (zb2 (by decide)) (by decide) (by rw [Zh2,ze0]; omega) fun a ha=>⟨_,zan,yaz x (zaa rfl) (zaa rfl)⟩))) ?_)
 ((try dsimp only); refine zam ?_)
 exact zaw (zg7 (zaa rfl) fun _=>zpw x (zaa rfl) (zzt rfl hrn)) rt
inductive Pap where
 | nev (r : List Nat) | rin (rows : List Row) | cas (i j : Nat) (a b : Pap)
noncomputable abbrev zcf : List Nat:=[114,105,110,103,115]
noncomputable abbrev zdw : List Nat:=[99,97,115,101]
noncomputable abbrev zc1 : List Nat:=[110,101,118,101,114]
noncomputable def zao : Pap->D
 | .nev r=>.tup [.str zc1,.lst (r.map encN)]
 | .rin rows=>.tup [.str zcf,.lst (rows.map zba)]
 | .cas i j a b=>.tup [.str zdw,encN i,encN j,zao a,zao b]
noncomputable def zyf : Pap->Prop
 | .nev r=>r.length <= 100
 | .rin rows=>rows.length <= 100 /\ ∀ q∈rows,q.1.length <= 100
 | .cas i j a b=>i < 8/\j < 8/\zyf a/\zyf b
noncomputable def putX (x : Dec) (a : Apt) (b : Bool) : Dec:=(x.1++[a],fun c=>if c = a then b else x.2 c)
noncomputable def mayD (i j m : Nat) (x : Dec) : Bool:=decide (i < m) && (decide (j < m) && (decide (i < j) && !decide ((i,j)∈x.1)))
noncomputable def zih (m : Nat) (y : Wts) (least : Int) : Pap->Dec->Bool
 | .nev r,x=>zjj r m x
 | .rin rows,x=>zn1 rows m y x least
 | .cas i j a b,x=>mayD i j m x && (zih m y least a (putX x (i,j) true) && zih m y least b (putX x (i,j) false))
noncomputable def zto (x : Dec) : Prop:=x.1.Nodup/\x.1.length <= 1000 /\ ∀ a∈x.1,a.1 < 8/\a.2 < 8
noncomputable def yd0 (q : Nat × Nat × Pap × Pap × Nat × Dec) (ds : List D) : Prop:=ds = [zao (.cas q.1 q.2.1 q.2.2.1 q.2.2.2.1),encN q.2.2.2.2.1,decD q.2.2.2.2.2]
noncomputable def ydg (q : Nat × Nat × Pap × Pap × Nat × Dec) : D:=.bl (mayD q.1 q.2.1 q.2.2.2.2.1 q.2.2.2.2.2)
theorem zmz (Z : Tx K mg ad0) : FnOk P w K mg base CX0 3 ad0.Zbv ad0.Zbz zeh (SpG K yd0 ydg):=by
 have Zeb:=zk4 (P:=P) (w:=w) (base:=base) Z
 refine okG Z.Zc2.F zgy (by rintro q ds rfl; rfl) fun cdv A outer s H Q E hr=>⟨_,(zad (psn 3 zgy.nd (zbb (show IxR _ (rIxT K) from zbf) (pv 0) zaj (fun _ _=>rfl)))
   (zad (psn 4 zgy.nd (zbb (show IxR _ (rIxT K) from zbf) (pv 0) zaj (fun _ _=>rfl)))
   (zag (zas (zg9 (pcX Zeb hr Z.Zb4 (zab (pv 3) (zab (pv 1) zae))) (zg9 (pcX Zeb hr Z.Zb4 (zab (pv 4) (zab (pv 1) zae))) (zg9 (zbl zmy (pv 3) (pv 4) (zau _)) (zha (zzw (zge (zbh hr) (za3 (zab (pv 3) (zab (pv 4) zae))) (pv 2)) (by with_unfolding_all rfl)))))))))),fun G ds q hp rt=>?_⟩
 obtain ⟨i,j,a,b,m,x⟩:=q
 obtain rfl:=hp
 have rt : RtD K G H Q (.bl (mayD i j m x)):=rt
 refine zak (zay (d:=encN i) (za6 (ds:=[.str zdw,encN i,encN j,zao a,zao b]) (zaa rfl) zai.b rfl) ?_)
 ((try dsimp only); refine zam ?_)
 refine zak (zay (d:=encN j) (za6 (ds:=[.str zdw,encN i,encN j,zao a,zao b]) (zaa rfl) zai.b rfl) ?_)
 ((try dsimp only); refine zam ?_)
 have hij : decide (i < j) = decide (((i : Nat) : Int) < ((j : Nat) : Int)):=decide_eq_decide.mpr (by omega)
 unfold mayD at rt
 rw [hij] at rt
 exact zaw (zg7 (zb4 (pre:=zrx) (res:=zo0) (zac (zaa rfl) (zac (zaa rfl) zaf)) ⟨i,m,rfl⟩) fun _=>zg7 (zb4 (pre:=zrx) (res:=zo0) (zac (zaa rfl) (zac (zaa rfl) zaf)) ⟨j,m,rfl⟩) fun _=>zg7 (zqt (zaa (d:=.int (i : Nat)) rfl).b (zaa (d:=.int (j : Nat)) rfl).b) fun _=>zjf (a:=(i,j)) x (zaa rfl) (zbk (ds:=[.int (i : Nat),.int (j : Nat)]) (zac (zaa rfl) (zac (zaa rfl) zaf)) (small (by simp)))) rt
noncomputable def yan (q : Dec × Apt × Bool) (ds : List D) : Prop:=ds = [decD q.1,encA q.2.1,encC q.2.2]/\zto q.1/\q.2.1 ∉ q.1.1
theorem zum (x : Dec) {a : Apt} (h : a ∉ x.1) (b : Bool) {β : Type} [DecidableEq β] (encB : Bool->D) : putD (dAp encB x.1 x.2) (encA a) (encB b) = dAp encB (putX x a b).1 (putX x a b).2:=by
 rw [zqw,if_neg h]; rfl
theorem zjq {β : Type} (encB : β->D) {ks : List Apt} (f : Apt->β) (h : ∀ a∈ks,a.1 < 8/\a.2 < 8) : ∀ q∈dAp encB ks f,∃ a b : Nat,a < 8/\b < 8/\q.1 = .tup [.int a,.int b]:=fun q hq=>by
 obtain ⟨a,ha,rfl⟩:=Zh3.mp hq
 exact ⟨a.1,a.2,(h a ha).1,(h a ha).2,rfl⟩
theorem zmi (Z : Tx K mg ad0) : FnOk P w K mg base CX0 1 ad0.Zbe ad0.Zbb zdn (SpG K yan fun q=>decD (putX q.1 q.2.1 q.2.2)):=by
 refine okG Z.Zbh.F zik (by rintro q ds ⟨rfl,_⟩; rfl) fun cdv A outer s H Q E hr=>⟨_,(zad (psn 3 zik.nd (zb9 (show zdk _ _ zoj from zj6) (by rfl) Z.Ze0 zp9 (zab (pv 0) zae)))
   (zad (zdq (zbh hr) (pv 3) (pv 1) (pv 2) rfl)
   (zag (zj9 (zas (pv 3)))))),fun G ds q hp rt=>?_⟩
 obtain ⟨x,a,b⟩:=q
 obtain ⟨rfl,⟨hn,hl,hs⟩,ha⟩:=hp
 refine zak (zn4 (kvs:=dAp encC x.1 x.2) (zaa rfl) (zjq encC x.2 hs) fun p=>?_)
 ((try dsimp only); refine zam ?_)
 refine zak (zd8 (i:=3) (d:=encC b) rfl (zaa rfl) (zaa (d:=encA a) rfl) rfl rfl (by rw [Zh2,lenA]; have hl : x.1.length <= 1000:=hl; omega) ?_)
 have hd : dslT K p (putD (dAp encC x.1 x.2) (.tup [.int a.1,.int a.2]) (encC b)) = dslT K p (dAp encC (putX x a b).1 (putX x a b).2):=by
  rw [show D.tup [.int a.1,.int a.2] = encA a from rfl,zum (β:=Bool) x ha b encC]
 rw [hd]
 ((try dsimp only); refine zam ?_)
 exact zka (i:=3) rfl (zaw (zaa rfl) rt)
noncomputable def Pap.sz : Pap->Nat
 | .nev _=>1 | .rin _=>1 | .cas _ _ a b=>a.sz + b.sz + 1
noncomputable def Pap.dp : Pap->Nat
 | .nev _=>0 | .rin _=>0 | .cas _ _ a b=>max a.dp b.dp + 1
theorem yau : ∀ p : Pap,p.sz + 1 <= 2 ^ (p.dp + 1)
 | .nev _=>by simp [Pap.sz,Pap.dp]
 | .rin _=>by simp [Pap.sz,Pap.dp]
 | .cas _ _ a b=>by
  have h1:=yau a
  have h2:=yau b
  have h3 : 2 ^ (a.dp + 1) <= 2 ^ (max a.dp b.dp + 1):=Zn0 (by decide) (by omega)
  have h4 : 2 ^ (b.dp + 1) <= 2 ^ (max a.dp b.dp + 1):=Zn0 (by decide) (by omega)
  have h5 : 2 ^ (max a.dp b.dp + 1 + 1) = 2 ^ (max a.dp b.dp + 1) * 2:=Nat.pow_succ ..
  simp only [Pap.sz,Pap.dp]
  omega
noncomputable abbrev Itm:=Pap × Dec
noncomputable def znt (t : Itm) : D:=.tup [zao t.1,decD t.2]
noncomputable def stSz (st : List Itm) : Nat:=st.foldr (fun t n=>t.1.sz + n) 0
theorem zhl (st : List Itm) (t : Itm) : stSz (st++[t]) = stSz st + t.1.sz:=by
 induction st with
 | nil=>simp [stSz]
 | cons a st ih=>simp only [stSz,Zo6,Zsk] at ih ⊢; omega
theorem zwd (p : Pap) : 1 <= p.sz:=by cases p <;> simp [Pap.sz]
theorem yce (st : List Itm) : st.length <= stSz st:=by
 induction st with
 | nil=>simp [stSz]
 | cons a st ih =>
  have:=zwd a.1
  simp only [stSz,Zsk,Zkb] at ih ⊢
  omega
noncomputable def Fits (t : Itm) : Prop:=zyf t.1/\zto t.2/\t.2.1.length + t.1.dp <= 1000
theorem zrk {x : Dec} {i j : Nat} (h : zto x) (hn : (i,j) ∉ x.1) (hi : i < 8) (hj : j < 8) (hl : x.1.length < 1000) (b : Bool) : zto (putX x (i,j) b):=by
 obtain ⟨h1,h2,h3⟩:=h
 refine ⟨Zkv.mpr ⟨h1,by simp,fun c hc d hd z=>hn (by rw [<- show d = (i,j) by simpa using hd,<- z]; exact hc)⟩,by show (x.1++[(i,j)]).length <= 1000; simp; omega,fun a ha=>?_⟩
 rcases Zhw.mp ha with z | z
 ·exact h3 a z
 ·rw [show a = (i,j) by simpa using z]; exact ⟨hi,hj⟩
noncomputable def yc8 (q : Pap × Nat × List Pr × List Apt × Int) (ds : List D) : Prop:=ds = [zao q.1,encN q.2.1,.lst (q.2.2.1.map encP),.lst (q.2.2.2.1.map encA),.int q.2.2.2.2]/\(Fits (q.1,decP q.2.2.2.1)/\q.1.sz <= 10000000)/\(q.2.2.1.map keyP).Nodup/\q.2.2.1.length <= 1000
noncomputable def yc3 (q : Pap × Nat × List Pr × List Apt × Int) : D:=.bl (zih q.2.1 (wtsP q.2.2.1) q.2.2.2.2 q.1 (decP q.2.2.2.1))
theorem zq3 (Z : Tx K mg ad0) : FnOk P w K mg base CX0 6 ad0.Zcv ad0.Zdj zfx (SpG K yc8 yc3):=by
 have Zfd:=zkk (P:=P) (w:=w) (base:=base) Z
 have Zfe:=zkg (P:=P) (w:=w) (base:=base) Z
 have Zf7:=znd (P:=P) (w:=w) (base:=base) Z
 have Zg7:=zqx (P:=P) (w:=w) (base:=base) Z
 have Zgf:=zmz (P:=P) (w:=w) (base:=base) Z
 have Zet:=zmi (P:=P) (w:=w) (base:=base) Z
 refine okG Z.Zd8.F zdf (by rintro q ds ⟨rfl,_⟩; rfl) fun cdv A outer s H Q E hr=>⟨_,(zad (psn 5 zdf.nd (pcX Zfd hr Z.Zbo (zab (pv 2) zae)))
   (zad (psn 6 zdf.nd (zbg (zab (za3 (zab (pv 0) (zab (pcX Zfe hr Z.Zbm (zab (pv 3) zae)) zae))) zae)))
   (zad (zxn Zh7 (zat zk5 (zaz za9 (by rfl) Z.Zal Zli (zab (pv 6) zae)) zaj (zau _)) (zad (psn 7 zdf.nd (zzf Zir Zt2 F.type_list_pop yek (pv 6)))
   (zad (psn 8 zdf.nd (zbb (show IxR _ (rIxT K) from zbf) (pv 7) zaj (fun _ _=>rfl)))
   (zad (psn 9 zdf.nd (zbb (show IxR _ (rIxT K) from zbf) (pv 7) zaj (fun _ _=>rfl)))
   (zag (zbi (zat zcd (zbb (show IxR _ (rIxT K) from zbf) (pv 8) zaj (fun _ _=>rfl)) zcg (zau _)) (zad (zbi (zii (zgi (pcX Zgf hr Z.Zc2 (zab (pv 8) (zab (pv 1) (zab (pv 9) zae)))))) (zag (zas zfo)) zax)
   (zad (psn 10 zdf.nd (za3 (zab (zbb (show IxR _ (rIxT K) from zbf) (pv 8) zaj (fun _ _=>rfl)) (zab (zbb (show IxR _ (rIxT K) from zbf) (pv 8) zaj (fun _ _=>rfl)) zae))))
   (zad (ze9 (zhu Zir Zjc Zjh zce (pv 6) (zab (za3 (zab (zbb (show IxR _ (rIxT K) from zbf) (pv 8) zaj (fun _ _=>rfl)) (zab (pcX Zet hr Z.Zbh (zab (pv 9) (zab (pv 10) (zab (zfu (by rfl) Z.Zey Z.Zgb) zae)))) zae))) zae)))
   (zag (ze9 (zhu Zir Zjc Zjh zce (pv 6) (zab (za3 (zab (zbb (show IxR _ (rIxT K) from zbf) (pv 8) zaj (fun _ _=>rfl)) (zab (pcX Zet hr Z.Zbh (zab (pv 9) (zab (pv 10) (zab (zfu (by rfl) Z.Zcn Z.Zei) zae)))) zae))) zae))))))) (zag (zbi (zat zcd (zbb (show IxR _ (rIxT K) from zbf) (pv 8) zaj (fun _ _=>rfl)) zcg (zau _)) (zag (zbi (zii (zgi (pcX Zf7 hr Z.Zcu (zab (zbb (show IxR _ (rIxT K) from zbf) (pv 8) zaj (fun _ _=>rfl)) (zab (pv 1) (zab (pv 5) (zab (pv 9) (zab (pv 4) zae)))))))) (zag (zas zfo)) zax)) (zag (zbi (zii (zgi (pcX Zg7 hr Z.Zd5 (zab (zbb (show IxR _ (rIxT K) from zbf) (pv 8) zaj (fun _ _=>rfl)) (zab (pv 1) (zab (pv 9) zae)))))) (zag (zas zfo)) zax))))))))))
   (zag (zas zfo))))),fun G ds q hp rt=>?_⟩
 obtain ⟨pp,m,ps,as,least⟩:=q
 obtain ⟨rfl,⟨hfit,hsz0⟩,hpn,hpl⟩:=hp
 have hsz0 : pp.sz <= 10000000:=hsz0
 have hfit : Fits (pp,decP as):=hfit
 have han : as.Nodup:=hfit.2.1.1
 have hal : as.length <= 1000:=hfit.2.1.2.1
 have rt : RtD K G H Q (.bl (zih m (wtsP ps) least pp (decP as))):=rt
 refine zak (zay (za1 (pre:=zyh) (res:=fun ps=>wtsD (wtsP ps)) ps (zac (zaa rfl) zaf) ⟨rfl,hpn,hpl⟩) ?_)
 ((try dsimp only); refine zam ?_)
 refine zak (zdz (ds:=[znt (pp,decP as)]) (zbe (zac (zbk (ds:=[zao pp,decD (decP as)]) (zac (zaa rfl) (zac (za1 (pre:=zxc) (res:=fun as=>decD (decP as)) as (zac (zaa rfl) zaf) ⟨rfl,han,hal⟩) zaf)) (small (by simp))) zaf) (small (by simp))) fun p=>?_)
 ((try dsimp only); refine zam ?_)
 generalize wtsP ps = y at rt
 refine zak (zxo (fun n ss=>∃ (st : List Itm) (v7 v8 v9 v10 : Sl),n = stSz st/\(∀ t∈st,Fits t)/\zih m y least pp (decP as) = st.all (fun t=>zih m y least t.1 t.2)/\stSz st <= 10000000/\ss = [.d (zao pp),.d (encN m),.d (.lst (ps.map encP)),.d (.lst (as.map encA)),.d (.int least),.d (wtsD y),.o p (st.map znt),v7,v8,v9,v10]) (stSz [(pp,decP as)]) ⟨[(pp,decP as)],.un,.un,.un,.un,rfl,fun t ht=>by rw [show t = (pp,decP as) by simpa using ht]; exact hfit,by simp,by show pp.sz + 0 <= 10000000; omega,rfl⟩ ?_)
 rintro n ss ⟨st,v7,v8,v9,v10,rfl,hst,heq,hbd,rfl⟩
 refine ⟨_,zal (zlo (ze1 (zlj rfl)).b zai.b),fun hb N hN=>?_,fun hb=>?_⟩
 ·have hne : st≠[]:=fun z=>by subst z; simp at hb
  obtain ⟨st',t,rfl⟩ : ∃ st' t,st = st'++[t]:=⟨st.dropLast,st.getLast hne,(List.dropLast_concat_getLast hne).symm⟩
  have hft:=hst t (by simp)
  have hst' : ∀ t∈st',Fits t:=fun t ht=>hst t (Zig _ ht)
  rw [Zmo,Zki,Zoz,Zkk] at heq
  rw [zhl] at hN hbd
  have hl1:=yce st'
  rw [Zh4]
  obtain ⟨pq,x⟩:=t
  have hsz:=zwd pq
  have hbd : stSz st' + pq.sz <= 10000000:=hbd
  refine zak (zwj (ds:=st'.map znt) (d:=znt (pq,x)) rfl (by decide) ?_)
  ((try dsimp only); refine zam ?_)
  refine zak (zay (d:=zao pq) (za6 (ds:=[zao pq,decD x]) (zaa rfl) zai.b rfl) ?_)
  ((try dsimp only); refine zam ?_)
  refine zak (zay (d:=decD x) (za6 (ds:=[zao pq,decD x]) (zaa rfl) zai.b rfl) ?_)
  ((try dsimp only); refine zam ?_)
  cases pq with
  | rin rows =>
   refine za7 (b:=false) (zal (zeo (l:=zcf) (m:=zdw) (za6 (ds:=[.str zcf,.lst (rows.map zba)]) (zaa rfl) zai.b rfl).b (zcm rfl (by decide)).b)) (fun h=>by cases h) fun _=>?_
   refine za7 (b:=true) (zal (zeo (l:=zcf) (m:=zcf) (za6 (ds:=[.str zcf,.lst (rows.map zba)]) (zaa rfl) zai.b rfl).b (zcm rfl (by decide)).b)) (fun _=>?_) fun h=>by cases h
   refine za7 (zft (zal (za1 (pre:=yej) (res:=yd9) (rows,m,y,x,least) (zac (za6 (ds:=[.str zcf,.lst (rows.map zba)]) (zaa rfl) zai.b rfl) (zac (zaa rfl) (zac (zaa rfl) (zac (zaa rfl) (zac (zaa rfl) zaf))))) ⟨rfl,hft.1.1,hft.1.2⟩))) (fun hb=>?_) (fun hb=>?_)
   ·rw [Zje] at hb
    have hb : zih m y least (.rin rows) x = false:=hb
    refine zaw zgl ?_
    rw [heq,hb,Zp6] at rt; exact rt
   ·rw [Zjn] at hb
    have hb : zih m y least (.rin rows) x = true:=hb
    rw [hb,Zkk] at heq
    exact za0 (hN _ _ (by simp [Pap.sz]) ⟨st',.d (znt (.rin rows,x)),.d (zao (.rin rows)),.d (decD x),v10,rfl,hst',heq,by omega,rfl⟩)
  | nev r =>
   refine za7 (b:=false) (zal (zeo (l:=zc1) (m:=zdw) (za6 (ds:=[.str zc1,.lst (r.map encN)]) (zaa rfl) zai.b rfl).b (zcm rfl (by decide)).b)) (fun h=>by cases h) fun _=>?_
   refine za7 (b:=false) (zal (zeo (l:=zc1) (m:=zcf) (za6 (ds:=[.str zc1,.lst (r.map encN)]) (zaa rfl) zai.b rfl).b (zcm rfl (by decide)).b)) (fun h=>by cases h) fun _=>?_
   refine za7 (zft (zal (za1 (pre:=ycb) (res:=yds) (r,m,x) (zac (za6 (ds:=[.str zc1,.lst (r.map encN)]) (zaa rfl) zai.b rfl) (zac (zaa rfl) (zac (zaa rfl) zaf))) ⟨rfl,Zik hft.1 (by decide)⟩))) (fun hb=>?_) (fun hb=>?_)
   ·rw [Zje] at hb
    have hb : zih m y least (.nev r) x = false:=hb
    refine zaw zgl ?_
    rw [heq,hb,Zp6] at rt; exact rt
   ·rw [Zjn] at hb
    have hb : zih m y least (.nev r) x = true:=hb
    rw [hb,Zkk] at heq
    exact za0 (hN _ _ (by simp [Pap.sz]) ⟨st',.d (znt (.nev r,x)),.d (zao (.nev r)),.d (decD x),v10,rfl,hst',heq,by omega,rfl⟩)
  | cas i j a b =>
   obtain ⟨⟨hi,hj,ha,hb'⟩,hdo,hln⟩:=hft
   have hln : x.1.length + (max a.dp b.dp + 1) <= 1000:=hln
   have hdo : zto x:=hdo
   have hbd : stSz st' + (a.sz + b.sz + 1) <= 10000000:=hbd
   refine za7 (b:=true) (zal (zeo (l:=zdw) (m:=zdw) (za6 (ds:=[.str zdw,encN i,encN j,zao a,zao b]) (zaa rfl) zai.b rfl).b (zcm rfl (by decide)).b)) (fun _=>?_) fun h=>by cases h
   refine zak (za7 (zft (zal (za1 (pre:=yd0) (res:=ydg) (i,j,a,b,m,x) (zac (zaa rfl) (zac (zaa rfl) (zac (zaa rfl) zaf))) rfl))) (fun hb=>?_) (fun hb=>?_))
   ·rw [Zje] at hb
    have hb : mayD i j m x = false:=hb
    refine zaw zgl ?_
    have : zih m y least (.cas i j a b) x = false:=by unfold zih; rw [hb]; rfl
    rw [heq,this,Zp6] at rt; exact rt
   rw [Zjn] at hb
   have hb : mayD i j m x = true:=hb
   have hnx : (i,j) ∉ x.1:=by unfold mayD at hb; simp at hb; exact hb.2.2.2
   ((try dsimp only); refine zam ?_)
   refine zak (zay (d:=encA (i,j)) (zbk (ds:=[.int (i : Nat),.int (j : Nat)]) (zac (za6 (ds:=[.str zdw,encN i,encN j,zao a,zao b]) (zaa rfl) zai.b rfl) (zac (za6 (ds:=[.str zdw,encN i,encN j,zao a,zao b]) (zaa rfl) zai.b rfl) zaf)) (small (by simp))) ?_)
   ((try dsimp only); refine zam ?_)
   refine zak (zc5 (d:=znt (a,putX x (i,j) true)) rfl (zbk (ds:=[zao a,decD (putX x (i,j) true)]) (zac (za6 (ds:=[.str zdw,encN i,encN j,zao a,zao b]) (zaa rfl) zai.b rfl) (zac (za1 (pre:=yan) (res:=fun q=>decD (putX q.1 q.2.1 q.2.2)) (x,(i,j),true) (zac (zaa rfl) (zac (zaa rfl) (zac (zh2 (d:=.str zj3) fun H=>Rep.str (by decide)) zaf))) ⟨rfl,hdo,hnx⟩) zaf)) (small (by simp))) (by rw [Zh2,Zhk]; omega) ?_)
   ((try dsimp only); refine zam ?_)
   refine zc5 (d:=znt (b,putX x (i,j) false)) rfl (zbk (ds:=[zao b,decD (putX x (i,j) false)]) (zac (za6 (ds:=[.str zdw,encN i,encN j,zao a,zao b]) (zaa rfl) zai.b rfl) (zac (za1 (pre:=yan) (res:=fun q=>decD (putX q.1 q.2.1 q.2.2)) (x,(i,j),false) (zac (zaa rfl) (zac (zaa rfl) (zac (zh2 (d:=.str zgx) fun H=>Rep.str (by decide)) zaf))) ⟨rfl,hdo,hnx⟩) zaf)) (small (by simp))) (by rw [Zh2]; simp; omega) (hN (stSz (st'++[(a,putX x (i,j) true)]++[(b,putX x (i,j) false)])) _ ?_ ⟨st'++[(a,putX x (i,j) true)]++[(b,putX x (i,j) false)],.d (znt (.cas i j a b,x)),.d (zao (.cas i j a b)),.d (decD x),.d (encA (i,j)),rfl,fun t ht=>?_,?_,?_,?_⟩)
   ·rw [zhl,zhl]; show stSz st' + a.sz + b.sz < stSz st' + (a.sz + b.sz + 1); omega
   ·have hle : (putX x (i,j) true).1.length = x.1.length + 1:=by simp [putX]
    rcases Zhw.mp ht with z | z
    ·rcases Zhw.mp z with z | z
     ·exact hst' t z
     ·rw [show t = (a,putX x (i,j) true) by simpa using z]
      exact ⟨ha,zrk hdo hnx hi hj (by omega) true,by show (x.1++[(i,j)]).length + a.dp <= 1000; simp; omega⟩
    ·rw [show t = (b,putX x (i,j) false) by simpa using z]
     exact ⟨hb',zrk hdo hnx hi hj (by omega) false,by show (x.1++[(i,j)]).length + b.dp <= 1000; simp; omega⟩
   ·rw [heq,Zmo,Zmo,Zki,Zki,Zoz,Zkk,Zkk]
    show (_ && (mayD i j m x && _)) = _
    rw [hb,Ziy,<- Zp7]
   ·rw [zhl,zhl]; show stSz st' + a.sz + b.sz <= 10000000; omega
   ·rw [Zh4,Zh4]; rfl
 ·have hst0 : st = []:=by
   cases st with
   | nil=>rfl
   | cons t st=>simp at hb
  subst hst0
  have heq : zih m y least pp (decP as) = true:=heq
  ((try dsimp only); refine zam ?_)
  refine zaw zgl ?_
  rw [heq] at rt; exact rt
noncomputable def plPs (ps : List Pr) (n : Nat) : List Pr:=ps.filter fun p=>decide (p.2.1 < n)
theorem ybu (g : List Nat) (k : Nat) : (toI g).idxOf (k : Int) = g.idxOf k:=by
 unfold toI
 induction g with
 | nil=>rfl
 | cons a g ih =>
  rw [Zh5,Znp,Znp,ih]
  by_cases h : a = k
  ·subst h; simp
  ·rw [show ((a : Int) == (k : Int)) = false by rw [beq_eq_false_iff_ne]; omega,show (a == k) = false by simpa using h]
theorem ybi {g : List Nat} {k : Nat} : (k : Int)∈toI g ↔ k∈g:=by
 unfold toI
 rw [Zh3]
 exact ⟨fun ⟨a,ha,e⟩=>by rw [<- show a = k by omega]; exact ha,fun h=>⟨k,h,rfl⟩⟩
theorem zmr {g : List Nat} {i : Nat} (h : i < g.length) : atG g i∈g:=by
 unfold atG
 rw [Zhh,Zhj h]; exact Zkc h
section
variable {G H₀ L : Hp} {ss : List Sl} {ta tb : TE} {g : List Nat} {i k : Nat}
theorem zp4 (a : Ev K G H₀ L ss ta (encG g)) (b : Ev K G H₀ L ss tb (encN i)) (h : i < g.length) : Ev K G H₀ L ss (tOp (rIxL K) ta tb) (encN (atG g i)):=by
 unfold encG at a
 rw [zca] at a
 have:=zs7 (gs:=toI g) (i:=i) (by unfold toI; rw [Zhk]; exact h)
 rw [zk1] at this
 exact zep a.l b.b this
theorem zo4 (a : Ev K G H₀ L ss ta (encG g)) (b : Ev K G H₀ L ss tb (encN k)) (h : k∈g) : Ev K G H₀ L ss (tBM K "list" (zht K) ta (za5 tb tNil)) (encN (g.idxOf k)):=by
 unfold encG at a
 rw [zca] at a
 have:=zx5 (K:=K) a.l b.b (ybi.mpr h)
 rw [ybu] at this
 exact this
theorem zql (a : Ev K G H₀ L ss ta (encG g)) : Ev K G H₀ L ss (tCB (fun xs H Q=>∃ p ys,xs = [.ref p]/\(SqL K H p ys \/ SqT K H p ys)/\Q (.int ys.length) H) (za5 ta tNil)) (encN g.length):=by
 have:=ze1 (K:=K) (Ev.l a)
 rw [Zhk] at this
 exact this
theorem zv2 {as : List Apt} {a : Apt} (e1 : Ev K G H₀ L ss ta (encA a)) (e2 : Ev K G H₀ L ss tb (.lst (as.map encA))) : Ev K G H₀ L ss (tOp (rInD K false) ta tb) (.bl (decide (a∈as))):=by
 have : decide (encA a∈as.map encA) = decide (a∈as):=decide_eq_decide.mpr ⟨fun h=>by obtain ⟨b,hb,e⟩:=Zh3.mp h; rw [<- zcb _ _ e]; exact hb,fun h=>Zh3.mpr ⟨a,h,rfl⟩⟩
 rw [<- this]
 exact yc1 e1.b e2.b rfl (D.nbs_map zqi as) (by show 1 <= 60; decide)
end
noncomputable abbrev Cas:=Nat × List Pr × List Apt
noncomputable def zpg (c : Cas) : D:=zti c.1 c.2.1 c.2.2
noncomputable def yb5 (q : Cas × List Nat) (ds : List D) : Prop:=ds = [zpg q.1,encG q.2]/\q.1.2.1.length <= 1000
theorem zhz (Z : Tx K mg ad0) : FnOk P w K mg base CX0 1 ad0.Za4 ad0.Za6 zc6 (SpGO K yb5 fun q=>(plPs q.1.2.1 q.2.length).map encP):=by
 refine okGO Z.Zav.F zl1 (by rintro q ds ⟨rfl,_⟩; rfl) fun cdv A outer s H Q E hr=>⟨_,(zag (zas (znp rfl (LcOk.of (Nx:=(["case", "grouping"] : List Str)) (sc:=zah zdc) (N':=(["pair", "grouping"] : List Str)) (nt:=1) (cs:=[1]) rfl rfl (by decide +kernel)) (zbc (zbb (show IxR _ (rIxT K) from zbf) (pv 0) zaj (fun _ _=>rfl))) (fun _ _ _ _=>(zbx (i:=0) (show Zi9 (["pair", "grouping"] : List Str) by decide +kernel) rfl (Zkz rfl))) (fun _ _ _ _=>(zh6 (zat zmy (zbb (show IxR _ (rIxT K) from zbf) (pv 0) zaj (fun _ _=>rfl)) (zaz (show zdk _ _ (fun xs H Q=>∃ p ys,xs = [.ref p]/\(SqL K H p ys \/ SqT K H p ys)/\Q (.int ys.length) H) from za9) (by rfl) Z.Zal Zli (zab (pv 1) zae)) (zau _)))) (fun _ _ _ _=>(pv 0))))),fun G ds q hp rt=>?_⟩
 obtain ⟨⟨m,ps,as⟩,g⟩:=q
 obtain ⟨rfl,hl⟩:=hp
 have hl : ps.length <= 1000:=hl
 refine zju (ds:=(plPs ps g.length).map encP) (zit ps encP (fun p=>decide (p.2.1 < g.length)) encP (Ev.l (za6 (ds:=[.int m,.lst (ps.map encP),.lst (as.map encA)]) (zaa rfl) zai.b rfl)) (zb2 (by decide)) (by decide) (by rw [Zh2]; omega) fun p hp=>⟨_,zan,?_,fun _=>zaa rfl⟩) rt
 have e : decide (p.2.1 < g.length) = decide (((p.2.1 : Nat) : Int) < ((g.length : Nat) : Int)):=decide_eq_decide.mpr (by omega)
 rw [e]
 exact zal (zqt (za6 (ds:=[.int (p.1 : Nat),.int (p.2.1 : Nat),.int p.2.2]) (zaa (d:=encP p) rfl) zai.b rfl).b (zql (zaa rfl)).b)
noncomputable def dcdG (as : List Apt) (g : List Nat) (i j : Nat) : Bool:=(decide (g.idxOf (atG g i) = i) && decide (atG g i <= atG g j)) || decide ((i,j)∈as)
noncomputable def ydc (q : Cas × List Nat × Nat × Nat) (ds : List D) : Prop:=ds = [zpg q.1,encG q.2.1,encN q.2.2.1,encN q.2.2.2]/\q.2.2.1 < q.2.1.length/\q.2.2.2 < q.2.1.length
theorem zm3 (Z : Tx K mg ad0) : FnOk P w K mg base CX0 1 ad0.Zbt ad0.Zb0 zec (SpG K ydc fun q=>.bl (dcdG q.1.2.2 q.2.1 q.2.2.1 q.2.2.2)):=by
 refine okG Z.Zcs.F zi7 (by rintro q ds ⟨rfl,_⟩; rfl) fun cdv A outer s H Q E hr=>⟨_,(zad (psn 4 zi7.nd (zg9 (zbl zcd (zhu Zir Zmd Zmc (show MtR _ _ (zht K) from zjg) (pv 1) (zab (zbb (show IxR _ (rIxL K) from zbm) (pv 1) (pv 2) (fun _ _=>rfl)) zae)) (pv 2) (zau _)) (zha (zbl zwe (zbb (show IxR _ (rIxL K) from zbm) (pv 1) (pv 2) (fun _ _=>rfl)) (zbb (show IxR _ (rIxL K) from zbm) (pv 1) (pv 3) (fun _ _=>rfl)) (zau _)))))
   (zag (zas (ybn (pv 4) (zha (zbl (show OpR _ _ (rInD K false) from zun hr.units) (za3 (zab (pv 2) (zab (pv 3) zae))) (zbb (show IxR _ (rIxT K) from zbf) (pv 0) zaj (fun _ _=>rfl)) (by with_unfolding_all rfl))))))),fun G ds q hp rt=>?_⟩
 obtain ⟨⟨m,ps,as⟩,g,i,j⟩:=q
 obtain ⟨rfl,hi,hj⟩:=hp
 have hi : i < g.length:=hi
 have hj : j < g.length:=hj
 have e1 : decide (((g.idxOf (atG g i) : Nat) : Int) = ((i : Nat) : Int)) = decide (g.idxOf (atG g i) = i):=decide_eq_decide.mpr (by omega)
 have e2 : decide (((atG g i : Nat) : Int) <= ((atG g j : Nat) : Int)) = decide (atG g i <= atG g j):=decide_eq_decide.mpr (by omega)
 refine zak (zay (d:=.bl (decide (g.idxOf (atG g i) = i) && decide (atG g i <= atG g j))) (by
  rw [<- e1,<- e2]
  exact zg7 (zb7 (zo4 (zaa rfl) (zp4 (zaa rfl) (zaa rfl) hi) (zmr hi)).b (zaa rfl).b) fun _=>zza (zp4 (zaa rfl) (zaa rfl) hi).b (zp4 (zaa rfl) (zaa rfl) hj).b) ?_)
 ((try dsimp only); refine zam ?_)
 exact zaw (yal (zaa rfl) fun _=>zv2 (a:=(i,j)) (zbk (ds:=[.int (i : Nat),.int (j : Nat)]) (zac (zaa rfl) (zac (zaa rfl) zaf)) (small (by simp))) (za6 (ds:=[.int m,.lst (ps.map encP),.lst (as.map encA)]) (zaa rfl) zai.b rfl)) rt
noncomputable def znr (g : List Nat) (i j : Nat) : List Nat:=if g.idxOf (atG g i) = g.idxOf (atG g j) then [i,g.idxOf (atG g i),j] else (if g.idxOf (atG g i) = i then [] else [g.idxOf (atG g i)])++[i,j]++(if g.idxOf (atG g j) = j then [] else [g.idxOf (atG g j)])
noncomputable def yci (q : List Nat × Nat × Nat) (ds : List D) : Prop:=ds = [encG q.1,encN q.2.1,encN q.2.2]/\q.2.1 < q.1.length/\q.2.2 < q.1.length
theorem eqN (a b : Nat) : decide (((a : Nat) : Int) = ((b : Nat) : Int)) = decide (a = b):=decide_eq_decide.mpr (by omega)
theorem zls (Z : Tx K mg ad0) : FnOk P w K mg base CX0 1 ad0.Zax ad0.Zau zdb (SpG K yci fun q=>.lst ((znr q.1 q.2.1 q.2.2).map encN)):=by
 refine okG Z.Zb6.F zco (by rintro q ds ⟨rfl,_⟩; rfl) fun cdv A outer s H Q E hr=>⟨_,(zad (psn 3 zco.nd (zhu Zir Zmd Zmc (show MtR _ _ (zht K) from zjg) (pv 0) (zab (zbb (show IxR _ (rIxL K) from zbm) (pv 0) (pv 1) (fun _ _=>rfl)) zae)))
   (zad (psn 4 zco.nd (zhu Zir Zmd Zmc (show MtR _ _ (zht K) from zjg) (pv 0) (zab (zbb (show IxR _ (rIxL K) from zbm) (pv 0) (pv 2) (fun _ _=>rfl)) zae)))
   (zad (zbi (zat zcd (pv 3) (pv 4) (zau _)) (zag (zas (zbg (zab (pv 1) (zab (pv 3) (zab (pv 2) zae)))))) zax)
   (zad (psn 5 zco.nd (zsk (zat zcd (pv 3) (pv 1) (zau _)) (zbg zae) (zbg (zab (pv 3) zae))))
   (zad (psn 6 zco.nd (zsk (zat zcd (pv 4) (pv 2) (zau _)) (zbg zae) (zbg (zab (pv 4) zae))))
   (zag (zas (za2 (show OpR _ _ (ze3 K) from zcj) (za2 (show OpR _ _ (ze3 K) from zcj) (pv 5) (zbg (zab (pv 1) (zab (pv 2) zae)))) (pv 6))))))))),fun G ds q hp rt=>?_⟩
 obtain ⟨g,i,j⟩:=q
 obtain ⟨rfl,hi,hj⟩:=hp
 have hi : i < g.length:=hi
 have hj : j < g.length:=hj
 have rt : RtD K G H Q (.lst ((znr g i j).map encN)):=rt
 unfold znr at rt
 refine zak (zay (zo4 (zaa rfl) (zp4 (zaa rfl) (zaa rfl) hi) (zmr hi)) ?_)
 ((try dsimp only); refine zam ?_)
 refine zak (zay (zo4 (zaa rfl) (zp4 (zaa rfl) (zaa rfl) hj) (zmr hj)) ?_)
 ((try dsimp only); refine zam ?_)
 generalize g.idxOf (atG g i) = f at rt
 generalize g.idxOf (atG g j) = o at rt
 refine zak (za7 (b:=decide (f = o)) (zal (by rw [<- eqN]; exact zb7 (zaa rfl).b (zaa rfl).b)) (fun hb=>?_) (fun hb=>?_))
 ·rw [if_pos (of_decide_eq_true hb)] at rt
  exact zaw (d:=.lst [encN i,encN f,encN j]) (EvO.ev (zbe (zac (zaa rfl) (zac (zaa rfl) (zac (zaa rfl) zaf))) (small (by simp)))) rt
 rw [if_neg (of_decide_eq_false hb)] at rt
 refine za0 ?_
 ((try dsimp only); refine zam ?_)
 refine zak (zay (d:=.lst ((if f = i then [] else [f]).map encN)) (ydo (b:=decide (f = i)) (zal (by rw [<- eqN]; exact zb7 (zaa rfl).b (zaa rfl).b)) (fun hb=>by rw [if_pos (of_decide_eq_true hb)]; exact EvO.ev (zbe zaf (small (by simp)))) fun hb=>by rw [if_neg (of_decide_eq_false hb)]; exact EvO.ev (zbe (zac (zaa rfl) zaf) (small (by simp)))) ?_)
 ((try dsimp only); refine zam ?_)
 refine zak (zay (d:=.lst ((if o = j then [] else [o]).map encN)) (ydo (b:=decide (o = j)) (zal (by rw [<- eqN]; exact zb7 (zaa rfl).b (zaa rfl).b)) (fun hb=>by rw [if_pos (of_decide_eq_true hb)]; exact EvO.ev (zbe zaf (small (by simp)))) fun hb=>by rw [if_neg (of_decide_eq_false hb)]; exact EvO.ev (zbe (zac (zaa rfl) zaf) (small (by simp)))) ?_)
 ((try dsimp only); refine zam ?_)
 have l1 : (if f = i then [] else [f]).length <= 1:=by split <;> simp
 have l2 : (if o = j then [] else [o]).length <= 1:=by split <;> simp
 rw [Zh4,Zh4] at rt
 exact zaw (d:=.lst ((if f = i then [] else [f]).map encN++[encN i,encN j]++(if o = j then [] else [o]).map encN)) (EvO.ev (zfp (EvO.l (zfp (zaa rfl).l (EvO.l (zbe (ds:=[encN i,encN j]) (zac (zaa rfl) (zac (zaa rfl) zaf)) (small (by simp)))) (by rw [Zh2,Zhk]; simp; omega))) (zaa rfl).l (by rw [Zh2,Zh1,Zhk,Zhk]; simp; omega))) rt
noncomputable def zu1 (g : List Nat) (p : Pr) : Bool:=!decide (decide (atG g p.1 = atG g p.2.1) = decide (0 < p.2.2))
noncomputable def selG (as : List Apt) (g : List Nat) (p : Pr) : Bool:=zu1 g p && !dcdG as g p.1 p.2.1
noncomputable def rowG (g : List Nat) (p : Pr) : Row:=(znr g p.1 p.2.1,absI p.2.2)
noncomputable def zop (ps : List Pr) (as : List Apt) (g : List Nat) : List Row:=((plPs ps g.length).filter (selG as g)).map (rowG g)
noncomputable def ydk (q : Cas × List Nat) (ds : List D) : Prop:=ds = [zpg q.1,encG q.2]/\q.1.2.1.length <= 1000 /\ ∀ p∈q.1.2.1,p.1 < p.2.1
theorem zng (Z : Tx K mg ad0) : FnOk P w K mg base CX0 2 ad0.Zb1 ad0.Zb2 zeg (SpG K ydk fun q=>.lst ((zop q.1.2.1 q.1.2.2 q.2).map zba)):=by
 have Zdl:=zhz (P:=P) (w:=w) (base:=base) Z
 have Zgh:=zm3 (P:=P) (w:=w) (base:=base) Z
 have Zfs:=zls (P:=P) (w:=w) (base:=base) Z
 refine okG Z.Zc0.F zcw (by rintro q ds ⟨rfl,_⟩; rfl) fun cdv A outer s H Q E hr=>⟨_,(zad (psn 2 zcw.nd (zbg zae))
   (zad (zbo Zh7 rfl (zbc (pcX Zdl hr Z.Zav (zab (pv 0) (zab (pv 1) zae)))) (zcq rfl (zaq (pgn 3 zcw.nd) (zaq (pgn 4 zcw.nd) (zaq (pgn 5 zcw.nd) zbs)))) (zad (psn 6 zcw.nd (zbl zqb (zbl zcd (zbb (show IxR _ (rIxL K) from zbm) (pv 1) (pv 3) (fun _ _=>rfl)) (zbb (show IxR _ (rIxL K) from zbm) (pv 1) (pv 4) (fun _ _=>rfl)) (zau _)) (zbl zk5 (pv 5) zaj (zau _)) (zau _)))
   (zag (zbi (PW.pt (zi5 (zgi (pv 6)) (zgs (zii (zgi (pcX Zgh hr Z.Zcs (zab (pv 0) (zab (pv 1) (zab (pv 3) (zab (pv 4) zae)))))))))) (zag (ze9 (zhu Zir Zjc Zjh zce (pv 2) (zab (za3 (zab (pcX Zfs hr Z.Zb6 (zab (pv 1) (zab (pv 3) (zab (pv 4) zae)))) (zab (zaz zh9 (by rfl) Z.Zek Zqi (zab (pv 5) zae)) zae))) zae)))) zax))))
   (zag (zas (pv 2))))),fun G ds q hp rt=>?_⟩
 obtain ⟨⟨m,ps,as⟩,g⟩:=q
 obtain ⟨rfl,hl,hlt⟩:=hp
 have hl : ps.length <= 1000:=hl
 have rt : RtD K G H Q (.lst ((zop ps as g).map zba)):=rt
 have hpl : (plPs ps g.length).length <= 1000:=Zik (Zjb _ _) hl
 refine zak (zdz (ds:=[]) (zbe zaf (small (by simp))) fun p2=>?_)
 ((try dsimp only); refine zam ?_)
 refine zak (zdg encP (plPs ps g.length) (fun k ss=>∃ v3 v4 v5 v6 : Sl,ss = [.d (zpg (m,ps,as)),.d (encG g),.o p2 (((((plPs ps g.length).take k).filter (selG as g)).map (rowG g)).map zba),v3,v4,v5,v6]) (EvO.ev (zgj (pre:=yb5) (res:=fun q=>(plPs q.1.2.1 q.2.length).map encP) ((m,ps,as),g) (zac (zaa rfl) (zac (zaa rfl) zaf)) ⟨rfl,hl⟩)) ⟨.un,.un,.un,.un,rfl⟩ ?_ ?_)
 ·rintro L' k p ss hL hk ⟨v3,v4,v5,v6,rfl⟩
  refine ⟨_,zcu (ds:=[.int (p.1 : Nat),.int (p.2.1 : Nat),.int p.2.2]) rfl (zar zan (zar zan (zar zan zbt))),fun N hN=>?_⟩
  have hpm:=Zh0.mp (Zhs hk)
  have hj : p.2.1 < g.length:=of_decide_eq_true hpm.2
  have hi : p.1 < g.length:=Zk0 (hlt p hpm.1) hj
  have et : (plPs ps g.length).take (k + 1) = (plPs ps g.length).take k++[p]:=by rw [Zh8,hk]; rfl
  refine zak (zay (d:=.bl (zu1 g p)) (by
   unfold zu1
   rw [<- eqN]
   exact zot (zb7 (zp4 (zaa rfl) (zaa rfl) hi).b (zp4 (zaa rfl) (zaa rfl) hj).b).b (zlo (zaa rfl).b zai.b).b) ?_)
  ((try dsimp only); refine zam ?_)
  refine za7 (b:=selG as g p) (zgt (zki (zaa rfl)) fun _=>zft (zal (za1 (pre:=ydc) (res:=fun q=>.bl (dcdG q.1.2.2 q.2.1 q.2.2.1 q.2.2.2)) ((m,ps,as),g,p.1,p.2.1) (zac (zaa rfl) (zac (zaa rfl) (zac (zaa rfl) (zac (zaa rfl) zaf)))) ⟨rfl,hi,hj⟩))) (fun hb=>?_) (fun hb=>?_)
  ·have hln : ((((plPs ps g.length).take k).filter (selG as g)).map (rowG g)).length <= 1000:=by
    rw [Zhk]
    have h1:=Zjb (selG as g) ((plPs ps g.length).take k)
    have h2:=List.length_take_le k (plPs ps g.length)
    have h3 : ((plPs ps g.length).take k).length <= (plPs ps g.length).length:=by rw [Zin]; omega
    omega
   refine zc5 (d:=zba (rowG g p)) rfl (zbk (ds:=[.lst ((znr g p.1 p.2.1).map encN),.int (absI p.2.2)]) (zac (za1 (pre:=yci) (res:=fun q=>.lst ((znr q.1 q.2.1 q.2.2).map encN)) (g,p.1,p.2.1) (zac (zaa rfl) (zac (zaa rfl) (zac (zaa rfl) zaf))) ⟨rfl,hi,hj⟩) (zac (zjv (zaa rfl).b) zaf)) (small (by simp))) (by rw [Zh2,Zhk]; omega) (hN _ ⟨.d (.int (p.1 : Nat)),.d (.int (p.2.1 : Nat)),.d (.int p.2.2),.d (.bl (zu1 g p)),?_⟩)
   rw [et,Zj0,Zkg hb,Zkx,Zh4,Zh4]; rfl
  ·refine za0 (hN _ ⟨.d (.int (p.1 : Nat)),.d (.int (p.2.1 : Nat)),.d (.int p.2.2),.d (.bl (zu1 g p)),?_⟩)
   rw [et,Zj0,Zkh (by rw [hb]; decide),Zkx,Zjj]; rfl
 rintro ss ⟨v3,v4,v5,v6,rfl⟩
 rw [Zif]
 refine zei (i:=2) rfl ?_
 ((try dsimp only); refine zam ?_)
 exact zaw (zaa rfl) rt
noncomputable def zmc (as : List Apt) (g : List Nat) (k : Nat) : Option Nat:=(Zhm g.length).find? fun i=>decide (atG g i = k) && decide ((i,g.length)∈as)
noncomputable def papS (ps : List Pr) (as : List Apt) (least : Int) : Nat->(List Nat->Pap) × (List Nat->Nat->Pap) × (List Nat->Nat->Pap)
 | 0=>(fun _=>.nev [],fun _ _=>.nev [],fun _ _=>.nev [])
 | n + 1=>(fun g=>if lossG (plPs ps g.length) g ≥ least then .rin (zop ps as g) else (papS ps as least n).2.2 g 0,
   fun g k=>if (zmc as g k).isSome then .nev [(zmc as g k).getD 0,g.idxOf k,g.length] else (papS ps as least n).1 (g++[k]),
   fun g k=>if ngF g <= k then (papS ps as least n).1 (g++[k]) else if (g.idxOf k,g.length)∈as then (papS ps as least n).2.2 g (k + 1) else .cas (g.idxOf k) g.length ((papS ps as least n).2.1 g k) ((papS ps as least n).2.2 g (k + 1)))
noncomputable def EnvC (c : Cas) (least : Int) : Prop:=c.1 <= 7/\c.2.1.length <= 1000/\zho c.1 c.2.1 c.2.2 /\ ∀ h∈rgs c.1,zkl c.2.2 h->least <= lossG c.2.1 h
noncomputable def Stp (c : Cas) (g : List Nat) : Prop:=g∈rgs g.length/\g.length <= c.1 /\ ∀ a∈c.2.2,a.2 < g.length->atG g a.1≠atG g a.2
theorem zo7 {g : List Nat} (h : g∈rgs g.length) {k : Nat} : k∈g ↔ k < ngF g:=by
 rw [<- zfb g,zzn h,Zia]
theorem yet {g : List Nat} (h : g∈rgs g.length) {i : Nat} (hi : i < g.length) : atG g i < ngF g:=(zo7 h).mp (zmr hi)
theorem zzl {g : List Nat} {i k : Nat} (h : i < g.length) : atG (g++[k]) i = atG g i:=by
 unfold atG; rw [Zhh,Zhh,Zi8 h]
theorem yeh {g : List Nat} {k : Nat} : atG (g++[k]) g.length = k:=by
 unfold atG; rw [Zhh,Ziw (Zhu _)]; simp
theorem zt0 {c : Cas} {least : Int} {g : List Nat} {k : Nat} (he : EnvC c least) (h : Stp c g) (hl : g.length < c.1) (hk : k <= ngF g) (hn : ∀ i < g.length,atG g i = k->(i,g.length) ∉ c.2.2) : Stp c (g++[k]):=by
 refine ⟨by rw [Zh1]; exact zj4.mpr ⟨g,h.1,k,hk,rfl⟩,by rw [Zh1]; exact hl,fun a ha hlt=>?_⟩
 have h1:=(he.2.2.1.2 a ha).1
 rw [Zh1] at hlt
 have hlt : a.2 < g.length + 1:=hlt
 rw [zzl (by omega)]
 by_cases e : a.2 = g.length
 ·rw [e,yeh]
  exact fun z=>hn a.1 (by omega) z (by rw [<- e]; exact ha)
 ·rw [zzl (by omega)]; exact h.2.2 a ha (by omega)
theorem zvw {c : Cas} {least : Int} {g : List Nat} (he : EnvC c least) (h : Stp c g) (hl : g.length < c.1) : Stp c (g++[ngF g]) :=
 zt0 he h hl (Zhu _) fun i hi z=>absurd (yet h.1 hi) (by omega)
theorem zul {as : List Apt} {g : List Nat} {k : Nat} (h : (zmc as g k).isSome = false) : ∀ i < g.length,atG g i = k->(i,g.length) ∉ as:=fun i hi e z=>by
 have h0 : zmc as g k = none:=by cases hx : zmc as g k with
  | none=>rfl
  | some _=>rw [hx] at h; cases h
 have:=Zqf.mp h0 i hi
 rw [decide_eq_true e,decide_eq_true z] at this
 cases this
theorem zrn {c : Cas} {least : Int} {g : List Nat} {k : Nat} (he : EnvC c least) (h : Stp c g) (hl : g.length < c.1) (hk : k < ngF g) (hn : (zmc c.2.2 g k).isSome = false) : Stp c (g++[k]) :=
 zt0 he h hl (Zmv hk) (zul hn)
theorem ydy {c : Cas} (hg : zho c.1 c.2.1 c.2.2) : plPs c.2.1 c.1 = c.2.1:=Zk1.mpr fun p hp=>decide_eq_true (hg.1 p hp).2.1
theorem zrh {c : Cas} {least : Int} {g : List Nat} (he : EnvC c least) (h : Stp c g) (hb : ¬ lossG (plPs c.2.1 g.length) g ≥ least) : g.length < c.1:=by
 rcases Znv g.length c.1 with z | z
 ·exact z
 ·exfalso
  have e : g.length = c.1:=Zpu h.2.1 z
  rw [e,ydy he.2.2.1] at hb
  exact hb (he.2.2.2 g (by rw [<- e]; exact h.1) fun a ha=>h.2.2 a ha (by rw [e]; exact (he.2.2.1.2 a ha).2))
theorem zrz {m l : Nat} (h : l < m) : (m - l) * (m + 3) = (m - (l + 1)) * (m + 3) + (m + 3):=by
 rw [show m - l = m - (l + 1) + 1 by omega,Nat.succ_mul]
noncomputable abbrev PQ:=Cas × List Nat × Nat × Int × Nat
noncomputable def zp1 (n : Nat) (q : PQ) (ds : List D) : Prop:=ds = [zpg q.1,encG q.2.1,.int q.2.2.2.1]/\EnvC q.1 q.2.2.2.1/\Stp q.1 q.2.1/\(q.1.1 - q.2.1.length) * (q.1.1 + 3) + 1 <= q.2.2.2.2/\q.2.2.2.2 < n
noncomputable def zxl (n : Nat) (q : PQ) (ds : List D) : Prop:=ds = [zpg q.1,encG q.2.1,encN q.2.2.1,.int q.2.2.2.1]/\EnvC q.1 q.2.2.2.1/\Stp q.1 q.2.1/\(q.1.1 - q.2.1.length) * (q.1.1 + 3) <= q.2.2.2.2 + q.2.2.1 + 1/\q.2.2.2.2 < n/\q.2.1.length < q.1.1/\q.2.2.1 < ngF q.2.1
noncomputable def ztl (n : Nat) (q : PQ) (ds : List D) : Prop:=ds = [zpg q.1,encG q.2.1,encN q.2.2.1,.int q.2.2.2.1]/\EnvC q.1 q.2.2.2.1/\Stp q.1 q.2.1/\(q.1.1 - q.2.1.length) * (q.1.1 + 3) <= q.2.2.2.2 + q.2.2.1/\q.2.2.2.2 < n/\q.2.1.length < q.1.1/\q.2.2.1 <= ngF q.2.1
noncomputable def zow (q : PQ) : D:=zao ((papS q.1.2.1 q.1.2.2 q.2.2.2.1 q.2.2.2.2).1 q.2.1)
noncomputable def zx0 (q : PQ) : D:=zao ((papS q.1.2.1 q.1.2.2 q.2.2.2.1 q.2.2.2.2).2.1 q.2.1 q.2.2.1)
noncomputable def zs2 (q : PQ) : D:=zao ((papS q.1.2.1 q.1.2.2 q.2.2.2.1 q.2.2.2.2).2.2 q.2.1 q.2.2.1)
theorem zvl {G H₀ L : Hp} {ss : List Sl} {ta tb : TE} {g : List Nat} {k : Nat} (a : Ev K G H₀ L ss ta (encG g)) (b : Ev K G H₀ L ss tb (encN k)) (h : g.length <= 100) : Ev K G H₀ L ss (tOp (ze3 K) ta (tLst (za5 tb tNil))) (encG (g++[k])):=by
 unfold encG at *
 rw [Zh4]
 exact EvO.ev (zfp a.l (EvO.l (zbe (ds:=[encN k]) (zac b zaf) (small (by simp)))) (by rw [Zh2,Zhk]; simp; omega))
theorem zq2 (Z : Tx K mg ad0) {n : Nat} (Zdm : FnOk P w K mg base CX0 (n + 3) ad0.Zad ad0.Zac zbp (SpG K (ztl n) zs2)) : FnOk P w K mg base CX0 (n + 4) ad0.Zab ad0.Zae zbq (SpG K (zp1 (n + 1)) zow):=by
 have Zdy:=zj5 (P:=P) (w:=w) (base:=base) Z
 have Zdl:=zhz (P:=P) (w:=w) (base:=base) Z
 have Zga:=zng (P:=P) (w:=w) (base:=base) Z
 refine okG (k:=n + 3) Z.Zai.F zly (by rintro q ds ⟨rfl,_⟩; rfl) fun cdv A outer s H Q E hr=>⟨_,(zad (zbi (zat zsw (pcX (hle:=by omega) Zdy hr Z.Zco (zab (pcX (hle:=by omega) Zdl hr Z.Zav (zab (pv 0) (zab (pv 1) zae))) (zab (pv 1) zae))) (pv 2) (zau _)) (zag (zas (za3 (zab zcg (zab (pcX (hle:=by omega) Zga hr Z.Zc0 (zab (pv 0) (zab (pv 1) zae))) zae))))) zax)
   (zag (zas (pcX (hle:=by omega) Zdm hr Z.Za5 (zab (pv 0) (zab (pv 1) (zab zaj (zab (pv 2) zae)))))))),fun G ds q hp rt=>?_⟩
 obtain ⟨⟨m,ps,as⟩,g,k,least,f⟩:=q
 obtain ⟨rfl,he,hs,hf,hfn⟩:=hp
 have hf : (m - g.length) * (m + 3) + 1 <= f:=hf
 have hfn : f < n + 1:=hfn
 obtain ⟨f,rfl⟩ : ∃ f',f = f' + 1:=⟨f - 1,by omega⟩
 have hpl : ps.length <= 1000:=he.2.1
 have hgl : g.length <= 7:=Zik hs.2.1 he.1
 have rt : RtD K G H Q (zao (if lossG (plPs ps g.length) g ≥ least then .rin (zop ps as g) else (papS ps as least f).2.2 g 0)):=rt
 have eL:=zgv (plPs ps g.length) (toI g)
 rw [<- zca,zm8] at eL
 have hin : ∀ p∈plPs ps g.length,p.1 < g.length/\p.2.1 < g.length:=fun p hp=>by
  have h1:=Zh0.mp hp
  have h2 : p.2.1 < g.length:=of_decide_eq_true h1.2
  exact ⟨Zk0 (he.2.2.1.1 p h1.1).1 h2,h2⟩
 refine zak (za7 (b:=decide (lossG (plPs ps g.length) g ≥ least)) (zal (ztq (i:=lossG (plPs ps g.length) g) (Ev.b (by
  rw [<- eL]
  exact zb4 (pre:=zxq) (res:=zld) (zac (EvO.ev (zgj (pre:=yb5) (res:=fun q=>(plPs q.1.2.1 q.2.length).map encP) ((m,ps,as),g) (zac (zaa rfl) (zac (zaa rfl) zaf)) ⟨rfl,hpl⟩)) (zac (zaa rfl) zaf)) ⟨plPs ps g.length,toI g,by rw [<- zca],fun p hp=>by unfold toI; rw [Zhk]; exact hin p hp,Zik (Zjb _ _) hpl⟩)) (zaa rfl).b)) (fun hb=>?_) (fun hb=>?_))
 ·rw [if_pos (of_decide_eq_true hb)] at rt
  exact zaw (zbk (ds:=[.str zcf,.lst ((zop ps as g).map zba)]) (zac (zcm rfl (by decide)) (zac (za1 (pre:=ydk) (res:=fun q=>.lst ((zop q.1.2.1 q.1.2.2 q.2).map zba)) ((m,ps,as),g) (zac (zaa rfl) (zac (zaa rfl) zaf)) ⟨rfl,hpl,fun p hp=>(he.2.2.1.1 p hp).1⟩) zaf)) (small (by simp))) rt
 have hb:=of_decide_eq_false hb
 rw [if_neg hb] at rt
 have hlm : g.length < m:=zrh he hs hb
 refine za0 ?_
 ((try dsimp only); refine zam ?_)
 exact zaw (za1 (pre:=ztl n) (res:=zs2) ((m,ps,as),g,0,least,f) (zac (zaa rfl) (zac (zaa rfl) (zac zai (zac (zaa rfl) zaf)))) ⟨rfl,he,hs,by show (m - g.length) * (m + 3) <= f + 0; omega,by show f < n; omega,hlm,Zit _⟩) rt
theorem zua (Z : Tx K mg ad0) {n : Nat} (Za0 : FnOk P w K mg base CX0 (n + 3) ad0.Zab ad0.Zae zbq (SpG K (zp1 n) zow)) : FnOk P w K mg base CX0 (n + 4) ad0.Zak ad0.Zaj zcs (SpG K (zxl (n + 1)) zx0):=by
 refine okG (k:=n + 3) Z.Zc8.F zes (by rintro q ds ⟨rfl,_⟩; rfl) fun cdv A outer s H Q E hr=>⟨_,(zad (psn 4 zes.nd (zaz za9 (by rfl) Z.Zal Zli (zab (pv 1) zae)))
   (zad (zbo Zh7 rfl (zfi (by rfl) Z.Zbl (zab (pv 1) zae)) (zcq rfl (zaq (pgn 5 zes.nd) (zaq (pgn 6 zes.nd) zbs))) (zag (zbi (PW.pt (zi5 (zat zcd (pv 6) (pv 2) (zau _)) (zgs (zat (show OpR _ _ (rInD K false) from zun hr.units) (za3 (zab (pv 5) (zab (pv 4) zae))) (zbb (show IxR _ (rIxT K) from zbf) (pv 0) zaj (fun _ _=>rfl)) (by with_unfolding_all rfl))))) (zag (zas (za3 (zab zcg (zab (zbg (zab (pv 5) (zab (zhu Zir Zmd Zmc (show MtR _ _ (zht K) from zjg) (pv 1) (zab (pv 2) zae)) (zab (pv 4) zae)))) zae))))) zax)))
   (zag (zas (pcX (hle:=by omega) Za0 hr Z.Zai (zab (pv 0) (zab (za2 (show OpR _ _ (ze3 K) from zcj) (pv 1) (zbg (zab (pv 2) zae))) (zab (pv 3) zae)))))))),fun G ds q hp rt=>?_⟩
 obtain ⟨⟨m,ps,as⟩,g,k,least,f⟩:=q
 obtain ⟨rfl,he,hs,hf,hfn,hlm,hk⟩:=hp
 have hf : (m - g.length) * (m + 3) <= f + k + 1:=hf
 have hlm : g.length < m:=hlm
 have hk : k < ngF g:=hk
 have hm7 : m <= 7:=he.1
 have hng : ngF g <= g.length:=zmt hs.1
 have hms:=zrz hlm
 have hfn : f < n + 1:=hfn
 have hgl : g.length <= 7:=Zik hs.2.1 he.1
 obtain ⟨f,rfl⟩ : ∃ f',f = f' + 1:=⟨f - 1,by omega⟩
 have rt : RtD K G H Q (zao (if (zmc as g k).isSome then .nev [(zmc as g k).getD 0,g.idxOf k,g.length] else (papS ps as least f).1 (g++[k]))):=rt
 refine zak (zay (zql (zaa rfl)) ?_)
 ((try dsimp only); refine zam ?_)
 refine zak (zm0 encN g (fun t ss=>∃ v5 v6 : Sl,ss = [.d (zpg (m,ps,as)),.d (encG g),.d (encN k),.d (.int least),.d (encN g.length),v5,v6] /\ ∀ i < t,(decide (atG g i = k) && decide ((i,g.length)∈as)) = false) (zaa rfl) ⟨.un,.un,rfl,fun i hi=>absurd hi (Zjd _)⟩ ?_ ?_)
 ·rintro L' t x ss hL ht ⟨v5,v6,rfl,hno⟩
  refine ⟨_,zcu (ds:=[.int (t : Nat),encN x]) rfl (zar zan (zar zan zbt)),fun N hN=>?_⟩
  have hx : atG g t = x:=by unfold atG; rw [Zhh,ht]; rfl
  refine za7 (b:=decide (atG g t = k) && decide ((t,g.length)∈as)) (zgt (zal (by rw [hx,<- eqN]; exact zb7 (zaa rfl).b (zaa rfl).b)) fun _=>zal (zv2 (a:=(t,g.length)) (zbk (ds:=[.int (t : Nat),.int (g.length : Nat)]) (zac (zaa rfl) (zac (zaa rfl) zaf)) (small (by simp))) (za6 (ds:=[.int m,.lst (ps.map encP),.lst (as.map encA)]) (zaa rfl) zai.b rfl))) (fun hb=>?_) (fun hb=>?_)
  ·have hX : zmc as g k = some t:=Zqe.mpr ⟨hb,Zia.mpr (Zhn.mp ht).1,fun j hj=>by rw [hno j hj]; rfl⟩
   rw [hX] at rt
   exact zaw (zbk (ds:=[.str zc1,.lst [encN t,encN (g.idxOf k),encN g.length]]) (zac (zcm rfl (by decide)) (zac (EvO.ev (zbe (zac (zaa rfl) (zac (zo4 (zaa rfl) (zaa rfl) ((zo7 hs.1).mpr hk)) (zac (zaa rfl) zaf))) (small (by simp)))) zaf)) (small (by simp))) rt
  ·refine za0 (hN _ ⟨_,_,rfl,fun i hi=>?_⟩)
   rcases Nat.lt_succ_iff_lt_or_eq.mp hi with z | z
   ·exact hno i z
   ·rw [z]; exact hb
 rintro ss ⟨v5,v6,rfl,hno⟩
 ((try dsimp only); refine zam ?_)
 have hX : zmc as g k = none:=Zqf.mpr fun i hi=>by rw [hno i hi]; rfl
 have hsn : Stp (m,ps,as) (g++[k]):=zrn he hs hlm hk (by show (zmc as g k).isSome = false; rw [hX]; rfl)
 rw [hX] at rt
 exact zaw (za1 (pre:=zp1 n) (res:=zow) ((m,ps,as),g++[k],0,least,f) (zac (zaa rfl) (zac (zvl (zaa rfl) (zaa rfl) (show g.length <= 100 by omega)) (zac (zaa rfl) zaf))) ⟨rfl,he,hsn,by show (m - (g++[k]).length) * (m + 3) + 1 <= f; rw [Zh1]; show (m - (g.length + 1)) * (m + 3) + 1 <= f; omega,by show f < n; omega⟩) rt
theorem zqa (Z : Tx K mg ad0) {n : Nat} (Za0 : FnOk P w K mg base CX0 (n + 3) ad0.Zab ad0.Zae zbq (SpG K (zp1 n) zow)) (Zgg : FnOk P w K mg base CX0 (n + 3) ad0.Zak ad0.Zaj zcs (SpG K (zxl n) zx0)) (Zdm : FnOk P w K mg base CX0 (n + 3) ad0.Zad ad0.Zac zbp (SpG K (ztl n) zs2)) : FnOk P w K mg base CX0 (n + 4) ad0.Zad ad0.Zac zbp (SpG K (ztl (n + 1)) zs2):=by
 refine okG (k:=n + 3) Z.Za5.F zdv (by rintro q ds ⟨rfl,_⟩; rfl) fun cdv A outer s H Q E hr=>⟨_,(zad (zbi (zat zk5 (pv 2) (zw1 rfl (by rfl) Z.Zej (pv 1) (zli zhq zaj)) (zau _)) (zag (zas (pcX (hle:=by omega) Za0 hr Z.Zai (zab (pv 0) (zab (za2 (show OpR _ _ (ze3 K) from zcj) (pv 1) (zbg (zab (pv 2) zae))) (zab (pv 3) zae)))))) zax)
   (zad (psn 4 zdv.nd (zhu Zir Zmd Zmc (show MtR _ _ (zht K) from zjg) (pv 1) (zab (pv 2) zae)))
   (zad (psn 5 zdv.nd (zaz za9 (by rfl) Z.Zal Zli (zab (pv 1) zae)))
   (zad (psn 6 zdv.nd (pcX (hle:=by omega) Zdm hr Z.Za5 (zab (pv 0) (zab (pv 1) (zab (za2 zc0 (pv 2) zaj) (zab (pv 3) zae))))))
   (zad (zbi (zat (show OpR _ _ (rInD K false) from zun hr.units) (za3 (zab (pv 4) (zab (pv 5) zae))) (zbb (show IxR _ (rIxT K) from zbf) (pv 0) zaj (fun _ _=>rfl)) (by with_unfolding_all rfl)) (zag (zas (pv 6))) zax)
   (zag (zas (za3 (zab zcg (zab (pv 4) (zab (pv 5) (zab (pcX (hle:=by omega) Zgg hr Z.Zc8 (zab (pv 0) (zab (pv 1) (zab (pv 2) (zab (pv 3) zae))))) (zab (pv 6) zae))))))))))))),fun G ds q hp rt=>?_⟩
 obtain ⟨⟨m,ps,as⟩,g,k,least,f⟩:=q
 obtain ⟨rfl,he,hs,hf,hfn,hlm,hk⟩:=hp
 have hf : (m - g.length) * (m + 3) <= f + k:=hf
 have hlm : g.length < m:=hlm
 have hk : k <= ngF g:=hk
 have hm7 : m <= 7:=he.1
 have hng : ngF g <= g.length:=zmt hs.1
 have hms:=zrz hlm
 have hfn : f < n + 1:=hfn
 have hgl : g.length <= 7:=Zik hs.2.1 he.1
 obtain ⟨f,rfl⟩ : ∃ f',f = f' + 1:=⟨f - 1,by omega⟩
 have rt : RtD K G H Q (zao (if ngF g <= k then (papS ps as least f).1 (g++[k]) else if (g.idxOf k,g.length)∈as then (papS ps as least f).2.2 g (k + 1) else .cas (g.idxOf k) g.length ((papS ps as least f).2.1 g k) ((papS ps as least f).2.2 g (k + 1)))):=rt
 have eN : decide ((ngF g : Int) - 1 < ((k : Nat) : Int)) = decide (ngF g <= k):=decide_eq_decide.mpr (by omega)
 refine zak (za7 (b:=decide (ngF g <= k)) (zal (by
  rw [<- eN]
  exact zlo (zaa rfl).b (zvp (ns:=toI g) (d0:=-1) (by rw [<- zca]; exact Ev.l (zaa rfl)) (ziq zai.b) (yaa g)).b)) (fun hb=>?_) (fun hb=>?_))
 ·have hb:=of_decide_eq_true hb
  rw [if_pos hb] at rt
  have ek : k = ngF g:=Zpu hk hb
  have hsn : Stp (m,ps,as) (g++[k]):=by rw [ek]; exact zvw he hs hlm
  exact zaw (za1 (pre:=zp1 n) (res:=zow) ((m,ps,as),g++[k],0,least,f) (zac (zaa rfl) (zac (zvl (zaa rfl) (zaa rfl) (show g.length <= 100 by omega)) (zac (zaa rfl) zaf))) ⟨rfl,he,hsn,by show (m - (g++[k]).length) * (m + 3) + 1 <= f; rw [Zh1]; show (m - (g.length + 1)) * (m + 3) + 1 <= f; omega,by show f < n; omega⟩) rt
 have hb:=of_decide_eq_false hb
 rw [if_neg hb] at rt
 refine za0 ?_
 ((try dsimp only); refine zam ?_)
 have hkm : k∈g:=(zo7 hs.1).mpr (show k < ngF g by omega)
 refine zak (zay (zo4 (zaa rfl) (zaa rfl) hkm) ?_)
 ((try dsimp only); refine zam ?_)
 refine zak (zay (zql (zaa rfl)) ?_)
 ((try dsimp only); refine zam ?_)
 refine zak (zay (za1 (pre:=ztl n) (res:=zs2) ((m,ps,as),g,k + 1,least,f) (zac (zaa rfl) (zac (zaa rfl) (zac (zcx (i:=(k : Nat)) (j:=1) (zaa rfl).b zai.b) (zac (zaa rfl) zaf)))) ⟨rfl,he,hs,by show (m - g.length) * (m + 3) <= f + (k + 1); omega,by show f < n; omega,hlm,by show k + 1 <= ngF g; omega⟩) ?_)
 ((try dsimp only); refine zam ?_)
 refine zak (za7 (b:=decide ((g.idxOf k,g.length)∈as)) (zal (zv2 (a:=(g.idxOf k,g.length)) (zbk (ds:=[.int (g.idxOf k : Nat),.int (g.length : Nat)]) (zac (zaa rfl) (zac (zaa rfl) zaf)) (small (by simp))) (za6 (ds:=[.int m,.lst (ps.map encP),.lst (as.map encA)]) (zaa rfl) zai.b rfl))) (fun hb=>?_) (fun hb=>?_))
 ·rw [if_pos (of_decide_eq_true hb)] at rt
  exact zaw (zaa rfl) rt
 rw [if_neg (of_decide_eq_false hb)] at rt
 refine za0 ?_
 ((try dsimp only); refine zam ?_)
 exact zaw (zbk (ds:=[.str zdw,encN (g.idxOf k),encN g.length,zao ((papS ps as least f).2.1 g k),zao ((papS ps as least f).2.2 g (k + 1))]) (zac (zcm rfl (by decide)) (zac (zaa rfl) (zac (zaa rfl) (zac (za1 (pre:=zxl n) (res:=zx0) ((m,ps,as),g,k,least,f) (zac (zaa rfl) (zac (zaa rfl) (zac (zaa rfl) (zac (zaa rfl) zaf)))) ⟨rfl,he,hs,by show (m - g.length) * (m + 3) <= f + k + 1; omega,by show f < n; omega,hlm,by show k < ngF g; omega⟩) (zac (zaa rfl) zaf))))) (small (by simp))) rt
theorem zo1 (Z : Tx K mg ad0) : ∀ n : Nat,FnOk P w K mg base CX0 (n + 3) ad0.Zab ad0.Zae zbq (SpG K (zp1 n) zow)/\FnOk P w K mg base CX0 (n + 3) ad0.Zak ad0.Zaj zcs (SpG K (zxl n) zx0)/\FnOk P w K mg base CX0 (n + 3) ad0.Zad ad0.Zac zbp (SpG K (ztl n) zs2)
 | 0=>⟨⟨fun vs H Q E h=>by obtain ⟨_,_,q,_,_,h,_⟩:=h; exact absurd h.2.2.2.2 (Zjd _),fun A outer s H args us vs Q E _ _ _ _ h=>by obtain ⟨_,_,q,_,_,h,_⟩:=h; exact absurd h.2.2.2.2 (Zjd _)⟩,⟨fun vs H Q E h=>by obtain ⟨_,_,q,_,_,h,_⟩:=h; exact absurd h.2.2.2.2.1 (Zjd _),fun A outer s H args us vs Q E _ _ _ _ h=>by obtain ⟨_,_,q,_,_,h,_⟩:=h; exact absurd h.2.2.2.2.1 (Zjd _)⟩,⟨fun vs H Q E h=>by obtain ⟨_,_,q,_,_,h,_⟩:=h; exact absurd h.2.2.2.2.1 (Zjd _),fun A outer s H args us vs Q E _ _ _ _ h=>by obtain ⟨_,_,q,_,_,h,_⟩:=h; exact absurd h.2.2.2.2.1 (Zjd _)⟩⟩
 | n + 1=>let ⟨h1,h2,h3⟩:=zo1 Z n; ⟨zq2 Z h3,zua Z h1,zqa Z h1 h2 h3⟩
noncomputable def zqv (m : Nat) : Pap->Prop
 | .nev r=>∀ k∈r,k < m
 | .rin rows=>∀ q∈rows,∀ k∈q.1,k < m
 | .cas i j a b=>i < m/\j < m/\zqv m a/\zqv m b
theorem yey {g : List Nat} {i j m : Nat} (hi : i < g.length) (hj : j < g.length) (hm : g.length <= m) : (∀ k∈znr g i j,k < m)/\(znr g i j).length <= 4:=by
 have h1 : g.idxOf (atG g i) < g.length:=Zju.mpr (zmr hi)
 have h2 : g.idxOf (atG g j) < g.length:=Zju.mpr (zmr hj)
 unfold znr
 split
 ·simp; omega
 ·split <;> split <;> simp <;> omega
theorem ya8 {ps : List Pr} {as : List Apt} {g : List Nat} {m : Nat} (hlt : ∀ p∈ps,p.1 < p.2.1) (hm : g.length <= m) : ∀ q∈zop ps as g,(∀ k∈q.1,k < m)/\q.1.length <= 4:=fun q hq=>by
 obtain ⟨p,hp,rfl⟩:=Zh3.mp hq
 have h1:=Zh0.mp (Zh0.mp hp).1
 have hj : p.2.1 < g.length:=of_decide_eq_true h1.2
 exact yey (Zk0 (hlt p h1.1) hj) hj hm
noncomputable def Rd : Nat->Nat->Nat
 | 0,_=>0
 | d + 1,l=>l + Rd d (l + 1)
noncomputable def PapR (n : Nat) : Pap->Prop
 | .nev r=>r.length <= 100
 | .rin rows=>rows.length <= n /\ ∀ q∈rows,q.1.length <= 100
 | .cas i j a b=>i < 8/\j < 8/\PapR n a/\PapR n b
theorem PapR.ok {n : Nat} (hn : n <= 100) : ∀ {p : Pap},PapR n p->zyf p
 | .nev _,h=>h
 | .rin _,h=>⟨Zik h.1 hn,h.2⟩
 | .cas _ _ _ _,h=>⟨h.1,h.2.1,h.2.2.1.ok hn,h.2.2.2.ok hn⟩
noncomputable def PB (m b n : Nat) (p : Pap) : Prop:=PapR n p/\zqv m p/\p.dp <= b
theorem PB.mono {m b b' n : Nat} {p : Pap} (h : PB m b n p) (hb : b <= b') : PB m b' n p:=⟨h.1,h.2.1,Zik h.2.2 hb⟩
theorem ztz {c : Cas} {least : Int} (he : EnvC c least) : ∀ n : Nat,
  (∀ g,Stp c g->PB c.1 (Rd (c.1 - g.length) g.length) c.2.1.length ((papS c.2.1 c.2.2 least n).1 g)) /\
  (∀ g k,Stp c g->g.length < c.1->k < ngF g->PB c.1 (Rd (c.1 - (g.length + 1)) (g.length + 1)) c.2.1.length ((papS c.2.1 c.2.2 least n).2.1 g k)) /\
  (∀ g k,Stp c g->g.length < c.1->k <= ngF g->PB c.1 (ngF g - k + Rd (c.1 - (g.length + 1)) (g.length + 1)) c.2.1.length ((papS c.2.1 c.2.2 least n).2.2 g k))
 | 0=>by
  have : ∀ b,PB c.1 b c.2.1.length (.nev []):=fun b=>⟨Zit _,fun k hk=>(by cases hk),Zit _⟩
  exact ⟨fun g _=>this _,fun g k _ _ _=>this _,fun g k _ _ _=>this _⟩
 | n + 1=>by
  obtain ⟨h1,h2,h3⟩:=ztz he n
  have hm7:=he.1
  have len1 : ∀ (g : List Nat) (k : Nat),(g++[k]).length = g.length + 1:=fun g k=>by simp
  refine ⟨fun g hs=>?_,fun g k hs hlm hk=>?_,fun g k hs hlm hk=>?_⟩
  ·show PB _ _ _ (if _ then _ else _)
   split
   ·have hr:=ya8 (as:=c.2.2) (fun p hp=>(he.2.2.1.1 p hp).1) hs.2.1
    refine ⟨⟨?_,fun q hq=>Zik (hr q hq).2 (by decide)⟩,fun q hq=>(hr q hq).1,Zit _⟩
    unfold zop plPs
    rw [Zhk]
    exact Zik (Zjb _ _) (Zjb _ _)
   ·rename_i hb
    have hlm:=zrh he hs hb
    refine (h3 g 0 hs hlm (Zit _)).mono ?_
    have hng:=zmt hs.1
    rw [show c.1 - g.length = c.1 - (g.length + 1) + 1 by omega,Rd]
    omega
  ·show PB _ _ _ (if _ then _ else _)
   have hik : g.idxOf k < g.length:=Zju.mpr ((zo7 hs.1).mpr hk)
   split
   ·rename_i hb
    obtain ⟨i,hi⟩:=Zjr.mp hb
    have hil:=Zia.mp (Zqe.mp hi).2.1
    refine ⟨by show 3 <= 100; decide,?_,Zit _⟩
    rw [hi]
    show ∀ z∈[i,g.idxOf k,g.length],z < c.1
    simp; omega
   ·rename_i hb
    have:=h1 (g++[k]) (zrn he hs hlm hk (by simpa using hb))
    rw [len1] at this
    exact this
  ·have hng:=zmt hs.1
   show PB _ _ _ (if _ then _ else if _ then _ else _)
   split
   ·rename_i hb
    have ek : k = ngF g:=Zpu hk hb
    have:=h1 (g++[k]) (by rw [ek]; exact zvw he hs hlm)
    rw [len1] at this
    exact this.mono (by omega)
   ·have hkl : k < ngF g:=by omega
    have hik : g.idxOf k < g.length:=Zju.mpr ((zo7 hs.1).mpr hkl)
    have p3:=h3 g (k + 1) hs hlm hkl
    split
    ·exact p3.mono (by omega)
    ·have p2:=h2 g k hs hlm hkl
     refine ⟨⟨by omega,by omega,p2.1,p3.1⟩,⟨by omega,hlm,p2.2.1,p3.2.1⟩,?_⟩
     have d2:=p2.2.2
     have d3:=p3.2.2
     show max _ _ + 1 <= _
     omega
noncomputable def papO (m : Nat) (ps : List Pr) (as : List Apt) : Pap:=(papS ps as (lossG ps (zfr m ps as)) 71).1 []
theorem zsb {m : Nat} {ps : List Pr} {as : List Apt} (hm : m <= 7) (hl : ps.length <= 1000) (hg : zho m ps as) : EnvC (m,ps,as) (lossG ps (zfr m ps as)):=by
 refine ⟨hm,hl,hg,fun h hh hk=>?_⟩
 have:=(zr9 hg).le h hh hk
 rw [zqr] at this
 exact Int.not_lt.mp fun z=>this (.inl z)
theorem zvs (c : Cas) : Stp c []:=⟨by show []∈[[]]; simp,Zit _,fun a _ h=>absurd h (Zjd _)⟩
theorem yew : ∀ m,m <= 7->Rd m 0 <= 21:=by decide
theorem yb4 {m n : Nat} {ps : List Pr} {as : List Apt} (hm : m <= 7) (hl : ps.length <= 100) (hg : zho m ps as) : PB m 21 ps.length ((papS ps as (lossG ps (zfr m ps as)) n).1 []) :=
 ((ztz (c:=(m,ps,as)) (zsb hm (by omega) hg) n).1 [] (zvs _)).mono (yew m hm)
theorem yam {m : Nat} {ps : List Pr} {as : List Apt} (hm : m <= 7) (hl : ps.length <= 100) (hg : zho m ps as) : PB m 21 ps.length (papO m ps as):=by
 unfold papO
 exact yb4 hm hl hg
theorem ydm {m : Nat} (h : m <= 7) (ps : List Pr) (as : List Apt) : fewP m ps as:=fun p hp=>by
 unfold zbz at hp
 obtain ⟨y,_,rfl⟩:=Zh3.mp hp
 have:=Zjb (fun t=>decide (ufF (ze4 ps as) t = ufF (ze4 ps as) y)) (Zhm m)
 rw [Zjt] at this
 omega
noncomputable def yen (ds : List D) : Prop:=∃ (m : Nat) (ps : List Pr) (as : List Apt),ds = [.int m,.lst (ps.map encP),.lst (as.map encA)]/\m <= 7/\ps.length <= 100/\as.length <= 100/\zho m ps as
noncomputable def ycw : List D->D
 | [.int m,.lst ps,.lst as]=>zao (papO m.toNat (ps.map unP) (as.map unA))
 | _=>.non
theorem zoo (m : Nat) (ps : List Pr) (as : List Apt) : ycw [.int m,.lst (ps.map encP),.lst (as.map encA)] = zao (papO m ps as):=by
 show zao (papO (m : Int).toNat ((ps.map encP).map unP) ((as.map encA).map unA)) = _
 rw [zjy,zgu]; rfl
theorem zrq {T0 : Addr} {G H₀ L : Hp} {ss : List Sl} {t : TA} {E : XK} {m : Nat} {ps : List Pr} {as : List Apt} (hT : HasT G T0 lamP lamQ) (a : EvAF K G H₀ L ss t [.int m,.lst (ps.map encP),.lst (as.map encA)]) (hm : m <= 7) (hl : ps.length <= 100) (hl2 : as.length <= 100) (hg : zho m ps as) : Ev K G H₀ L ss (zhd (SpPT K T0 lamP lamQ yar zyu) [] E t) (.tup [.int (lossG ps (zfr m ps as)),encG (zfr m ps as)]):=by
 have:=zv0 (K:=K) (H₀:=H₀) (L:=L) (E:=E) (pre:=yar) (res:=zyu) hT a ⟨m,ps,as,rfl,by omega,by omega,by omega,hg,ydm hm ps as⟩
 rw [zor] at this
 exact this
theorem yaj (m n : Nat) (ps : List Pr) (as : List Apt) (z : Int) : zao ((papS ps as z n).1 []) = zow ((m,ps,as),[],0,z,n):=rfl
theorem zqc {T0 : Addr} (Z : Tx K mg ad0) (Y : LamAt base mg ad0.Zaa T0) : FnOk P w K mg base CX0 76 ad0.Zc3 ad0.Zcq zgo (SpDT K T0 lamP lamQ yen ycw):=by
 have Ze2:=zmm (P:=P) (w:=w) (base:=base) Z Y
 have Za0:=(zo1 (P:=P) (w:=w) (base:=base) Z 72).1
 refine okDT Z.Zd9.F zlq (by rintro ds ⟨c,d,e,rfl,_⟩; rfl) fun cdv A outer s H Q E hr=>⟨_,(zad (zbi (zat zk5 (pv 0) (zfu (by rfl) Z.Zcj Z.Zev) (zau _)) (zag zsn) zax)
   (zad (psn 3 zlq.nd (zbb (show IxR _ (rIxT K) from zbf) (pcX Ze2 hr Z.Zd4 (zab (pv 0) (zab (pv 1) (zab (pv 2) zae)))) zaj (fun _ _=>rfl)))
   (zag (zas (pcX Za0 hr Z.Zai (zab (za3 (zab (pv 0) (zab (pv 1) (zab (pv 2) zae)))) (zab (zbg zae) (zab (pv 3) zae)))))))),fun G ds hT hp rt=>?_⟩
 obtain ⟨m,ps,as,rfl,hm,hpl,hal,hg⟩:=hp
 rw [zoo,papO,yaj m 71] at rt
 have e : decide (((m : Nat) : Int) > 7) = false:=decide_eq_false (by omega)
 refine zak (za7 (b:=false) (by rw [<- e]; exact zal (zlo (zaa rfl).b zai.b)) (fun hb=>by cases hb) (fun _=>?_))
 refine za0 ?_
 ((try dsimp only); refine zam ?_)
 refine zak (zay (d:=.int (lossG ps (zfr m ps as))) (za6 (ds:=[.int (lossG ps (zfr m ps as)),encG (zfr m ps as)]) (zrq hT (zac (zaa rfl) (zac (zaa rfl) (zac (zaa rfl) zaf))) hm hpl hal hg) zai.b rfl) ?_)
 ((try dsimp only); refine zam ?_)
 have hf : (m - 0) * (m + 3) + 1 <= 71:=by
  have h1 : (m - 0) * (m + 3) <= 7 * 10:=Nat.mul_le_mul (by omega) (by omega)
  omega
 exact zaw (za1 (pre:=zp1 72) (res:=zow) ((m,ps,as),[],0,lossG ps (zfr m ps as),71) (zac (zbk (ds:=[.int m,.lst (ps.map encP),.lst (as.map encA)]) (zac (zaa rfl) (zac (zaa rfl) (zac (zaa rfl) zaf))) (small (by simp))) (zac (EvO.ev (zbe (ds:=[]) zaf (small (by simp)))) (zac (zaa rfl) zaf))) ⟨rfl,zsb hm (by omega) hg,zvs _,hf,by show 71 < 72; decide⟩) rt
noncomputable def wgt (c : Int) : Int:=if c / 8 % 2 = 1 then 1 + c / 16 % (10 : Int) ^ (30 : Int).toNat else 1 + c / 16 % 4
noncomputable def wgtL (v : Int) : List Int:=[0,v,v,v,v,-v,-v,-v]
noncomputable def wF (c : Int) : Int:=(wgtL (wgt c)).getD (c % 8).toNat 0
theorem yby (c : Int) : 0 < wgt c:=by
 unfold wgt
 split
 ·have:=Zj2 (c / 16) (show (10 : Int) ^ (30 : Int).toNat≠0 by decide); omega
 ·have:=Zj2 (c / 16) (show (4 : Int)≠0 by decide); omega
theorem yex (c : Int) (h : 0 < c % 8) : wF c≠0:=by
 have h2:=Zjg c (show (0 : Int) < 8 by decide)
 have hp:=yby c
 unfold wF
 have : (c % 8).toNat = 1 \/ (c % 8).toNat = 2 \/ (c % 8).toNat = 3 \/ (c % 8).toNat = 4 \/ (c % 8).toNat = 5 \/ (c % 8).toNat = 6 \/ (c % 8).toNat = 7:=by omega
 rcases this with e | e | e | e | e | e | e <;> rw [e] <;> simp [wgtL] <;> omega
theorem yac {gs : List Int} {k : Int} (h0 : 0 <= k) (h1 : k < gs.length) : atI (gs.map D.int) k = some (.int (gs.getD k.toNat 0)):=by
 have:=zs7 (gs:=gs) (i:=k.toNat) (by omega)
 rwa [show ((k.toNat : Nat) : Int) = k by omega] at this
noncomputable def preW (ds : List D) : Prop:=∃ c : Int,ds = [.int c]
noncomputable def resW : List D->D
 | [.int c]=>.int (wF c)
 | _=>.non
theorem znq (Z : Tx K mg ad0) : FnOk P w K mg base CX0 1 ad0.Zbq ad0.Zb3 zea (SpD K preW resW):=by
 refine okD Z.Zc5.F zg3 (by rintro ds ⟨c,rfl⟩; rfl) fun cdv A outer s H Q E hr=>⟨_,(zad (psn 1 zg3.nd (za2 zc0 zaj (za2 zcz (za2 zej (pv 0) zaj) zaj)))
   (zad (zbi (zat zcd (za2 zcz (za2 zej (pv 0) zaj) zaj) zaj (zau _)) (zag (psn 1 zg3.nd (za2 zc0 zaj (za2 zcz (za2 zej (pv 0) zaj) (za2 ycy zaj zaj))))) zax)
   (zag (zas (zbb (show IxR _ (rIxL K) from zbm) (zbg (zab zaj (zab (pv 1) (zab (pv 1) (zab (pv 1) (zab (pv 1) (zab (zli zhq (pv 1)) (zab (zli zhq (pv 1)) (zab (zli zhq (pv 1)) zae))))))))) (za2 zcz (pv 0) zaj) (fun _ _=>rfl)))))),fun G ds hp rt=>?_⟩
 obtain ⟨c,rfl⟩:=hp
 refine zak (zay (zcx zai.b (zcy (zel (zaa rfl).b zai.b ⟨by decide,by decide⟩).b zai.b (by decide)).b) ?_)
 ((try dsimp only); refine zam ?_)
 refine zp0 (fun ss=>ss = [.d (.int c),.d (.int (wgt c))]) (fun N hN=>za7 (zal (zb7 (zcy (zel (zaa rfl).b zai.b ⟨by decide,by decide⟩).b zai.b (by decide)).b zai.b)) (fun hb=>zay (zcx zai.b (zcy (zel (zaa rfl).b zai.b ⟨by decide,by decide⟩).b (ycx zai.b zai.b ⟨by decide,by decide,by decide⟩).b (by decide)).b) (hN _ ?_)) (fun hb=>za0 (hN _ ?_))) ?_
 ·unfold wgt; rw [if_pos (of_decide_eq_true hb)]; rfl
 ·unfold wgt; rw [if_neg (of_decide_eq_false hb)]; rfl
 ·rintro ss rfl
  have h1:=Zj2 c (show (8 : Int)≠0 by decide)
  have h2:=Zjg c (show (0 : Int) < 8 by decide)
  exact zaw (zep (ds:=(wgtL (wgt c)).map D.int) (EvO.l (zbe (zac zai (zac (zaa rfl) (zac (zaa rfl) (zac (zaa rfl) (zac (zaa rfl) (zac (ziq (zaa rfl).b) (zac (ziq (zaa rfl).b) (zac (ziq (zaa rfl).b) zaf)))))))) (small (by simp [wgtL])))) (zcy (zaa rfl).b zai.b (by decide)).b (yac h1 (by show c % 8 < ((wgtL (wgt c)).length : Int); exact h2))) rt
noncomputable def kyP (p : Pr) : Apt:=(p.1,p.2.1)
noncomputable def Bef (k q : Nat) (as : List Apt) : Prop:=as.Nodup /\ ∀ a∈as,a.1 < k \/ (a.1 = k/\a.2 < k + 1 + q)
theorem Bef.put {k q : Nat} {as : List Apt} (h : Bef k q as) : Bef k (q + 1) (as++[(k,k + 1 + q)]):=by
 refine ⟨Zkv.mpr ⟨h.1,by simp,fun b hb c hc z=>?_⟩,fun a ha=>?_⟩
 ·rw [show c = (k,k + 1 + q) by simpa using hc] at z
  subst z
  rcases h.2 _ hb with z | z
  ·exact absurd z (Zi3 _)
  ·exact absurd z.2 (Zi3 _)
 ·rcases Zhw.mp ha with z | z
  ·exact (h.2 a z).imp id fun y=>⟨y.1,by omega⟩
  ·rw [show a = (k,k + 1 + q) by simpa using z]; exact .inr ⟨rfl,by show k + 1 + q < k + 1 + (q + 1); omega⟩
theorem Bef.mono {k q : Nat} {as : List Apt} (h : Bef k q as) : Bef k (q + 1) as:=⟨h.1,fun a ha=>(h.2 a ha).imp id fun y=>⟨y.1,by omega⟩⟩
theorem Bef.next {k q : Nat} {as : List Apt} (h : Bef k q as) : Bef (k + 1) 0 as:=⟨h.1,fun a ha=>.inl (by rcases h.2 a ha with y | y <;> omega)⟩
noncomputable def zvc (ds : List D) : Prop:=∃ (ns : List Int) (m at0 : Int),ds = [.lst (ns.map .int),.int m,.int at0]/\0 <= m/\m <= 10/\0 <= at0
noncomputable def zv4 (ds : List D) (r : D) : Prop:=∀ (ns : List Int) (m at0 : Int),ds = [.lst (ns.map .int),.int m,.int at0] -> ∃ ps as,r = .tup [.lst (ps.map encP),.lst (as.map encA)]/\ps.length <= 10 * m.toNat/\as.length <= 10 * m.toNat/\zho m.toNat ps as/\(ps.map kyP).Nodup/\as.Nodup
theorem zyo (ns : List Int) (k : Int) : ∃ i,zfw [.lst (ns.map .int),.int k] = .int i:=by
 show ∃ i,(ns.map D.int).getD k.toNat (.int 0) = .int i
 rw [Zhh,Zho]
 cases ns[k.toNat]? <;> exact ⟨_,rfl⟩
theorem zp6 (Z : Tx K mg ad0) : FnOk P w K mg base CX0 2 ad0.Zc4 ad0.Zcx zf0 (SpRD K zvc zv4) := by
 have Zcl:=zin (P:=P) (w:=w) (base:=base) Z
 have Zgd:=znq (P:=P) (w:=w) (base:=base) Z
 refine okRD Z.Zd6.F zde (by rintro ds ⟨c,d,e,rfl,_⟩; rfl) fun cdv A outer s H Q E hr=>⟨_,(zad (psn 3 zde.nd (zbg zae))
   (zad (psn 4 zde.nd (zbg zae))
   (zad (zbo Zh7 rfl (zf6 (by rfl) Z.Zbk (zab (pv 1) zae)) (pgn 5 zde.nd) (zag (zbo Zh7 rfl (zuy (by rfl) Z.Zbk (zab (za2 zc0 (pv 5) zaj) (zab (pv 1) zae))) (pgn 6 zde.nd) (zad (psn 7 zde.nd (pcX Zcl hr Z.Zam (zab (pv 0) (zab (pv 2) zae))))
   (zad (psn 2 zde.nd (za2 zc0 (pv 2) zaj))
   (zad (zbi (zat zk5 (za2 zcz (pv 7) zaj) zaj (zau _)) (zag (ze9 (zhu Zir Zjc Zjh zce (pv 3) (zab (za3 (zab (pv 5) (zab (pv 6) (zab (pcX Zgd hr Z.Zc5 (zab (pv 7) zae)) zae)))) zae)))) zax)
   (zag (zbi (zat zcd (za2 zcz (za2 zej (pv 7) zaj) zaj) zaj (zau _)) (zag (ze9 (zhu Zir Zjc Zjh zce (pv 4) (zab (za3 (zab (pv 5) (zab (pv 6) zae))) zae)))) zax))))))))
   (zag (zas (za3 (zab (pv 3) (zab (pv 4) zae)))))))),fun G ds hp rt=>?_⟩
 obtain ⟨ns,m,at0,rfl,hm0,hm8,ha0⟩:=hp
 refine zak (zdz (zbe zaf (small (by decide))) fun pp=>?_)
 ((try dsimp only); refine zam ?_)
 refine zak (zdz (zbe zaf (small (by decide))) fun pa=>?_)
 ((try dsimp only); refine zam ?_)
 refine zak (zkz (n:=m) (fun k ss=>∃ (at' : Int) (ps : List Pr) (as : List Apt) (v5 v6 v7 : Sl),ss = [.d (.lst (ns.map .int)),.d (.int m),.d (.int at'),.o pp (ps.map encP),.o pa (as.map encA),v5,v6,v7]/\0 <= at'/\ps.length <= 10 * k/\as.length <= 10 * k/\zho m.toNat ps as/\Bef k 0 (ps.map kyP)/\Bef k 0 as) (zd7 (zaa rfl).b zhp) ⟨by omega,by omega⟩ ⟨at0,[],[],.un,.un,.un,rfl,ha0,by simp,by simp,⟨by simp,by simp⟩,⟨by simp,by simp⟩,by simp,by simp⟩ ?_ ?_ (fun _ _ _ h=>h))
 ·rintro k ss hk ⟨at1,ps,as,v5,v6,v7,rfl,h0,hpl,hal,hg,hB1,hB2⟩ N hN
  refine zw5 (m:=(k : Int) + 1) (n:=m) (fun q ss=>∃ (at' : Int) (ps : List Pr) (as : List Apt) (v6 v7 : Sl),ss = [.d (.lst (ns.map .int)),.d (.int m),.d (.int at'),.o pp (ps.map encP),.o pa (as.map encA),.d (.int k),v6,v7]/\0 <= at'/\ps.length <= 10 * k + q/\as.length <= 10 * k + q/\zho m.toNat ps as/\Bef k q (ps.map kyP)/\Bef k q as) (zd7 (zcx (zaa rfl).b zai.b).b (zd7 (zaa rfl).b zhp)) ⟨by omega,by omega⟩ ⟨by omega,by omega⟩ ⟨at1,ps,as,v6,v7,rfl,h0,hpl,hal,hg,hB1,hB2⟩ ?_ ?_
  ·rintro q ss hq ⟨at2,ps,as,v6,v7,rfl,h0,hpl,hal,hg,hB1,hB2⟩ N2 hN2
   have ej : (k : Int) + 1 + (q : Int) = ((k + 1 + q : Nat) : Int):=by omega
   rw [ej]
   obtain ⟨c,ec⟩:=zyo ns at2
   refine zak (zay (d:=.int c) (by rw [<- ec]; exact zb4 (pre:=znx) (res:=zfw) (zac (zaa rfl) (zac (zaa rfl) zaf)) ⟨ns,at2,rfl,h0⟩) ?_)
   ((try dsimp only); refine zam ?_)
   refine zak (zay (zcx (zaa rfl).b zai.b) ?_)
   ((try dsimp only); refine zam ?_)
   refine zp0 (fun ss=>∃ ps1 : List Pr,ss = [.d (.lst (ns.map .int)),.d (.int m),.d (.int (at2 + 1)),.o pp (ps1.map encP),.o pa (as.map encA),.d (.int k),.d (.int ((k + 1 + q : Nat) : Int)),.d (.int c)]/\ps1.length <= 10 * k + (q + 1)/\zho m.toNat ps1 as/\Bef k (q + 1) (ps1.map kyP)) (fun N' hN'=>za7 (zal (zlo (zcy (zaa rfl).b zai.b (by decide)).b zai.b)) (fun hb=>?_) (fun hb=>?_)) ?_
   ·have hc : 0 < c % 8:=of_decide_eq_true hb
    refine zc5 (d:=encP (k,k + 1 + q,wF c)) rfl (zbk (zac (zaa rfl) (zac (zaa rfl) (zac (zb4 (pre:=preW) (res:=resW) (zac (zaa rfl) zaf) ⟨c,rfl⟩) zaf))) (small (by simp))) (by rw [Zhk,Zh2]; omega) (hN' _ ⟨ps++[(k,k + 1 + q,wF c)],by rw [Zh4]; rfl,by simp; omega,⟨fun p hp=>?_,hg.2⟩,by rw [Zh4]; exact hB1.put⟩)
    rcases Zhw.mp hp with z | z
    ·exact hg.1 p z
    ·rw [Zhp] at z
     subst z
     exact ⟨by show k < k + 1 + q; omega,by show k + 1 + q < m.toNat; omega,yex c hc⟩
   ·exact za0 (hN' _ ⟨ps,rfl,by omega,hg,hB1.mono⟩)
   ·rintro ss ⟨ps1,rfl,hpl1,hg1,hB3⟩
    refine za7 (zal (zb7 (zcy (zel (zaa rfl).b zai.b ⟨by decide,by decide⟩).b zai.b (by decide)).b zai.b)) (fun hb=>?_) (fun hb=>?_)
    ·refine zc5 (d:=encA (k,k + 1 + q)) rfl (zbk (zac (zaa rfl) (zac (zaa rfl) zaf)) (small (by simp))) (by rw [Zhk,Zh2]; omega) (hN2 _ ⟨at2 + 1,ps1,as++[(k,k + 1 + q)],_,_,by rw [Zh4]; rfl,by omega,hpl1,by simp; omega,⟨hg1.1,fun a ha=>?_⟩,hB3,hB2.put⟩)
     rcases Zhw.mp ha with z | z
     ·exact hg1.2 a z
     ·rw [Zhp] at z
      subst z
      exact ⟨by show k < k + 1 + q; omega,by show k + 1 + q < m.toNat; omega⟩
    ·exact za0 (hN2 _ ⟨at2 + 1,ps1,as,_,_,rfl,by omega,hpl1,by omega,hg1,hB3,hB2.mono⟩)
  ·rintro ss ⟨at2,ps,as,v6,v7,rfl,h0,hpl,hal,hg,hB1,hB2⟩
   exact hN _ ⟨at2,ps,as,_,v6,v7,rfl,h0,by omega,by omega,hg,hB1.next,hB2.next⟩
 ·rintro ss ⟨at1,ps,as,v5,v6,v7,rfl,h0,hpl,hal,hg,hB1,hB2⟩
  refine zei (i:=3) rfl (zei (i:=4) rfl ?_)
  ((try dsimp only); refine zam ?_)
  refine zaw (zbk (zac (zaa rfl) (zac (zaa rfl) zaf)) (small (by simp))) (rt _ fun ns' m' at' he=>?_)
  simp only [Zoq,D.int.injEq,and_true] at he
  obtain ⟨_,rfl,_⟩:=he
  exact ⟨ps,as,rfl,by omega,by omega,hg,hB1.1,hB2.1⟩
theorem depL {α : Type} (enc : α->D) (n : Nat) (h : ∀ a,(enc a).dep <= n) (l : List α) : (D.lst (l.map enc)).dep <= n + 1:=by
 show D.deps (l.map enc) + 1 <= n + 1
 have : D.deps (l.map enc) <= n:=by
  induction l with
  | nil=>exact Zit _
  | cons a l ih=>exact Zsc.mpr ⟨h a,ih⟩
 omega
theorem yb8 {α : Type} (enc : α->D) (l : List α) : decide (D.lst (l.map enc) = .lst []) = decide (l = []):=decide_eq_decide.mpr (by cases l <;> simp)
theorem zvn (q : Row) : (zba q).nb = true:=by
 show D.nbs [.lst (q.1.map encN),.int q.2] = true
 have : (D.lst (q.1.map encN)).nb = true:=D.nbs_map (fun _=>rfl) q.1
 unfold D.nbs
 rw [this]; rfl
theorem zs3 (q : Row) : (zba q).dep <= 2:=by
 have : (D.lst (q.1.map encN)).dep <= 0 + 1:=depL encN 0 (fun _=>Zhu _) q.1
 show D.deps [.lst (q.1.map encN),.int q.2] + 1 <= 2
 have h2 : D.deps [.lst (q.1.map encN),.int q.2] <= 1:=Zsc.mpr ⟨this,by simp [D.deps,D.dep]⟩
 omega
theorem zyj (m : List D) : cutD m none (some (-1)) = m.take (m.length - 1):=by
 unfold L2.cutD
 rw [show HT.sIx m.length 0 none = 0 from rfl,show HT.sIx m.length m.length (some (-1)) = (-1 + (m.length : Int)).toNat from rfl,Zsr,Zuo]
 congr 1; omega
noncomputable def nxN (n : Int) : Int:=n * 48271 % 4294967311
noncomputable def onN (m : Nat) (n : Int) : Nat:=(n / 7 % (m : Int)).toNat
noncomputable def drw (m : Nat) : Nat->Int->List Nat->List Nat
 | 0,_,l=>l
 | k + 1,n,l=>drw m k (nxN n) (if !decide (onN m (nxN n)∈l) || decide (nxN n % 16 = 3) then l++[onN m (nxN n)] else l)
noncomputable def drwF (m : Nat) (c : Int) : List Nat:=drw m (2 + c % 4).toNat (c % 4294967311 + 1) []
theorem yeq {m : Nat} (h : 0 < m) (n : Int) : onN m n < m:=by
 unfold onN
 have h0:=Zj2 (n / 7) (show (m : Int)≠0 by omega)
 have h1:=Zjg (n / 7) (show (0 : Int) < m by omega)
 omega
theorem zt1 {m : Nat} (h : 0 < m) : ∀ (k : Nat) (n : Int) (l : List Nat),(∀ x∈l,x < m)->(∀ x∈drw m k n l,x < m)/\(drw m k n l).length <= l.length + k
 | 0,n,l,hl=>⟨hl,Zhu _⟩
 | k + 1,n,l,hl=>by
  rw [drw]
  split
  ·have:=zt1 h k (nxN n) (l++[onN m (nxN n)]) fun x hx=>by
    rcases Zhw.mp hx with z | z
    ·exact hl x z
    ·rw [Zhp.mp z]; exact yeq h _
   exact ⟨this.1,by have h2:=this.2; simp at h2; omega⟩
  ·have:=zt1 h k (nxN n) l hl
   exact ⟨this.1,by omega⟩
noncomputable def ycm (q : Nat × Int) (ds : List D) : Prop:=ds = [encN q.1,.int q.2]/\0 < q.1
theorem zpe (Z : Tx K mg ad0) : FnOk P w K mg base CX0 1 ad0.Zcd ad0.Zch ze5 (SpGO K ycm fun q=>(drwF q.1 q.2).map encN):=by
 refine okGO Z.Zdp.F zdi (by rintro q ds ⟨rfl,_⟩; rfl) fun cdv A outer s H Q E hr=>⟨_,(zad (psn 2 zdi.nd (za2 zc0 (za2 zcz (pv 1) zaj) zaj))
   (zad (psn 3 zdi.nd (zbg zae))
   (zad (zbo Zh7 rfl (zf6 (by rfl) Z.Zbk (zab (za2 zc0 zaj (za2 zcz (pv 1) zaj)) zae)) (pgn 4 zdi.nd) (zad (psn 2 zdi.nd (za2 zcz (za2 yea (pv 2) zaj) zaj))
   (zad (psn 5 zdi.nd (za2 zcz (za2 zej (pv 2) zaj) (pv 0)))
   (zag (zbi (PW.pt (zkj (zat (show OpR _ _ (rInD K true) from zoi hr.units) (pv 5) (pv 3) (by with_unfolding_all rfl)) (zir (zat zcd (za2 zcz (pv 2) zaj) zaj (zau _))))) (zag (ze9 (zhu Zir Zjc Zjh zce (pv 3) (zab (pv 5) zae)))) zax)))))
   (zag (zas (pv 3)))))),fun G ds q hp rt=>?_⟩
 obtain ⟨m,c⟩:=q
 obtain ⟨rfl,hm⟩:=hp
 have hm : 0 < m:=hm
 refine zak (zay (zcx (zcy (zaa rfl).b zai.b (by decide)).b zai.b) ?_)
 ((try dsimp only); refine zam ?_)
 refine zak (zdz (ds:=[]) (zbe zaf (small (by simp))) fun p=>?_)
 ((try dsimp only); refine zam ?_)
 have h0:=Zj2 c (show (4 : Int)≠0 by decide)
 have h1:=Zjg c (show (0 : Int) < 4 by decide)
 refine zak (zkz (n:=2 + c % 4) (fun k ss=>∃ (n : Int) (l : List Nat) (v4 v5 : Sl),l.length <= k/\drw m ((2 + c % 4).toNat - k) n l = drwF m c/\ss = [.d (encN m),.d (.int c),.d (.int n),.o p (l.map encN),v4,v5]) (zd7 (zcx zai.b (zcy (zaa rfl).b zai.b (by decide)).b).b zhp) (by omega) ⟨c % 4294967311 + 1,[],.un,.un,by simp,rfl,rfl⟩ ?_ ?_ fun σ H R h=>h)
 ·rintro k ss hk ⟨n,l,v4,v5,hl,he,rfl⟩ N hN
  rw [show (2 + c % 4).toNat - k = (2 + c % 4).toNat - (k + 1) + 1 by omega,drw] at he
  refine zak (zay (d:=.int (nxN n)) (zcy (yee (zaa rfl).b zai.b (.inr ⟨by decide,by decide⟩)).b zai.b (by decide)) ?_)
  ((try dsimp only); refine zam ?_)
  have o0:=Zj2 (nxN n / 7) (show (m : Int)≠0 by omega)
  have eo : nxN n / 7 % (m : Int) = ((onN m (nxN n) : Nat) : Int):=(Zmq o0).symm
  refine zak (zay (d:=encN (onN m (nxN n))) (by
   rw [show encN (onN m (nxN n)) = .int (nxN n / 7 % (m : Int)) by rw [eo]; rfl]
   exact zcy (zel (zaa rfl).b zai.b ⟨by decide,by decide⟩).b (zaa (d:=.int (m : Nat)) rfl).b (by omega)) ?_)
  ((try dsimp only); refine zam ?_)
  generalize hn : nxN n = n' at he
  generalize onN m n' = o at he
  have em : decide (encN o∈l.map encN) = decide (o∈l):=decide_eq_decide.mpr ⟨fun h=>by obtain ⟨b,hb,e⟩:=Zh3.mp h; rw [<- zb6 _ _ e]; exact hb,fun h=>Zh3.mpr ⟨o,h,rfl⟩⟩
  refine za7 (b:=!decide (o∈l) || decide (n' % 16 = 3)) (zg8 (zal (by rw [<- em]; exact zok (zaa rfl).b (zlj rfl).b rfl (D.nbs_map (fun _=>rfl) l) (Zit _))) fun _=>zal (zb7 (zcy (zaa rfl).b zai.b (by decide)).b zai.b)) (fun hb=>?_) (fun hb=>?_)
  ·rw [if_pos hb] at he
   refine zc5 (d:=encN o) rfl (zaa rfl) (by rw [Zh2,Zhk]; omega) (hN _ ⟨n',l++[o],.d (.int (k : Nat)),.d (encN o),by simp; omega,he,?_⟩)
   rw [Zh4]; rfl
  ·rw [if_neg (by rw [hb]; decide)] at he
   exact za0 (hN _ ⟨n',l,.d (.int (k : Nat)),.d (encN o),by omega,he,rfl⟩)
 rintro ss ⟨n,l,v4,v5,hl,he,rfl⟩
 rw [Zq9] at he
 have he : l = drwF m c:=he
 rw [he]
 ((try dsimp only); refine zam ?_)
 exact zt3 rfl rt
noncomputable def rotR (r : List Nat) : List Nat:=r.drop 1++r.take 1
noncomputable def fewR (rows : List Row) (n : Nat) : List Row:=rows.take n++rows.drop (n + 1)
noncomputable def atR (rows : List Row) (c : Int) : Nat:=(c % (rows.length : Int)).toNat
noncomputable def zn3 (rows : List Row) (m : Nat) (c : Int) : Pap :=
 if decide (c % 9 = 0) || decide (rows = []) then .rin (rows++[(drwF m (c / 9),c / 9 / 64 % 4)]) else
 if c % 9 = 1 then .rin (fewR rows (atR rows (c / 9))) else
 if c % 9 = 2 then .rin (fewR rows (atR rows (c / 9))++[((rows.getD (atR rows (c / 9)) ([],0)).1,(rows.getD (atR rows (c / 9)) ([],0)).2 + 1)]) else
 if c % 9 = 3 then .rin (fewR rows (atR rows (c / 9))++[(rotR (rows.getD (atR rows (c / 9)) ([],0)).1,(rows.getD (atR rows (c / 9)) ([],0)).2)]) else
 if c % 9 = 4 then .rin (rows++[((rows.getD (atR rows (c / 9)) ([],0)).1,1)]) else
 if c % 9 = 5 then .nev (rows.getD (atR rows (c / 9)) ([],0)).1 else
 if c % 9 = 6 then .rin (fewR rows (atR rows (c / 9))++[((rows.getD (atR rows (c / 9)) ([],0)).1,(rows.getD (atR rows (c / 9)) ([],0)).2 - 1)]) else
 if c % 9 = 7 then .rin (fewR rows (atR rows (c / 9))++[((rows.getD (atR rows (c / 9)) ([],0)).1.take ((rows.getD (atR rows (c / 9)) ([],0)).1.length - 1),(rows.getD (atR rows (c / 9)) ([],0)).2)]) else
 .rin (fewR rows (atR rows (c / 9))++[((rows.getD (atR rows (c / 9)) ([],0)).1.reverse,(rows.getD (atR rows (c / 9)) ([],0)).2)])
noncomputable def yc4 (q : List Row × Nat × Int) (ds : List D) : Prop:=ds = [.lst (q.1.map zba),encN q.2.1,.int q.2.2]/\0 < q.2.1/\q.1.length <= 1000 /\ ∀ r∈q.1,r.1.length <= 1000
theorem yem (r : List Nat) {a : Int} (h : 0 <= a) : cutD (r.map encN) none (some a) = (r.take a.toNat).map encN:=by rw [zwh _ h,Zmh]
theorem ye2 (r : List Nat) {a : Int} (h : 0 <= a) : cutD (r.map encN) (some a) none = (r.drop a.toNat).map encN:=by rw [zll _ h,Zol]
theorem zrm {G H₀ L : Hp} {ss : List Sl} {t : TE} {r : List Nat} (a : Ev K G H₀ L ss t (.lst (r.map encN))) (h : r.length <= 1000) : EvO K G H₀ L ss (tOp (ze3 K) (tSl (rSlL K) t (zyn (tC (.int 1))) zni) (tSl (rSlL K) t zni (zyn (tC (.int 1))))) ((rotR r).map encN):=by
 unfold rotR
 rw [Zh4]
 have c1 : cutD (r.map encN) none (some 1) = (r.take 1).map encN:=yem r (by decide)
 have c2 : cutD (r.map encN) (some 1) none = (r.drop 1).map encN:=ye2 r (by decide)
 rw [<- c1,<- c2]
 exact zfp (EvO.l (ziv a.l (zfm zai.b) zmv)) (EvO.l (ziv a.l zmv (zfm zai.b))) (by rw [c1,c2,Zh2]; simp; omega)
theorem ziw (Z : Tx K mg ad0) : FnOk P w K mg base CX0 2 ad0.Zaf ad0.Zag zby (SpG K yc4 fun q=>zao (zn3 q.1 q.2.1 q.2.2)):=by
 have Zgo:=zpe (P:=P) (w:=w) (base:=base) Z
 refine okG Z.Zas.F za8 (by rintro q ds ⟨rfl,_⟩; rfl) fun cdv A outer s H Q E hr=>⟨_,(zad (psn 3 za8.nd (za2 zcz (pv 2) zaj))
   (zad (psn 4 za8.nd (za2 zej (pv 2) zaj))
   (zad (zbi (PW.pt (zkj (zat zcd (pv 3) zaj (zau _)) (zir (zat (show OpR _ _ (rEqD K) from zvj hr.units) (pv 0) (zbg zae) (zau _))))) (zag (zas (za3 (zab zcg (zab (za2 (show OpR _ _ (ze3 K) from zcj) (pv 0) (zbg (zab (za3 (zab (pcX Zgo hr Z.Zdp (zab (pv 1) (zab (pv 4) zae))) (zab (za2 zcz (za2 zej (pv 4) zaj) zaj) zae))) zae))) zae))))) zax)
   (zad (psn 5 za8.nd (za2 zcz (pv 4) (zaz za9 (by rfl) Z.Zal Zli (zab (pv 0) zae))))
   (zad (zue (zbb (show IxR _ (rIxL K) from zbm) (pv 0) (pv 5) (fun _ _=>rfl)) (zcq rfl (zaq (pgn 6 za8.nd) (zaq (pgn 7 za8.nd) zbs))))
   (zad (psn 8 za8.nd (za2 (show OpR _ _ (ze3 K) from zcj) (zev zgr (pv 0) zhf (zfs (pv 5))) (zev zgr (pv 0) (zfs (za2 zc0 (pv 5) zaj)) zhf)))
   (zad (zbi (zat zcd (pv 3) zaj (zau _)) (zag (zas (za3 (zab zcg (zab (pv 8) zae))))) zax)
   (zad (zbi (zat zcd (pv 3) zaj (zau _)) (zag (zas (za3 (zab zcg (zab (za2 (show OpR _ _ (ze3 K) from zcj) (pv 8) (zbg (zab (za3 (zab (pv 6) (zab (za2 zc0 (pv 7) zaj) zae))) zae))) zae))))) zax)
   (zad (zbi (zat zcd (pv 3) zaj (zau _)) (zag (zas (za3 (zab zcg (zab (za2 (show OpR _ _ (ze3 K) from zcj) (pv 8) (zbg (zab (za3 (zab (za2 (show OpR _ _ (ze3 K) from zcj) (zev zgr (pv 6) (zfs zaj) zhf) (zev zgr (pv 6) zhf (zfs zaj))) (zab (pv 7) zae))) zae))) zae))))) zax)
   (zad (zbi (zat zcd (pv 3) zaj (zau _)) (zag (zas (za3 (zab zcg (zab (za2 (show OpR _ _ (ze3 K) from zcj) (pv 0) (zbg (zab (za3 (zab (pv 6) (zab zaj zae))) zae))) zae))))) zax)
   (zad (zbi (zat zcd (pv 3) zaj (zau _)) (zag (zas (za3 (zab zcg (zab (pv 6) zae))))) zax)
   (zad (zbi (zat zcd (pv 3) zaj (zau _)) (zag (zas (za3 (zab zcg (zab (za2 (show OpR _ _ (ze3 K) from zcj) (pv 8) (zbg (zab (za3 (zab (pv 6) (zab (za2 zwn (pv 7) zaj) zae))) zae))) zae))))) zax)
   (zad (zbi (zat zcd (pv 3) zaj (zau _)) (zag (zas (za3 (zab zcg (zab (za2 (show OpR _ _ (ze3 K) from zcj) (pv 8) (zbg (zab (za3 (zab (zev zgr (pv 6) zhf (zfs (zli zhq zaj))) (zab (pv 7) zae))) zae))) zae))))) zax)
   (zag (zas (za3 (zab zcg (zab (za2 (show OpR _ _ (ze3 K) from zcj) (pv 8) (zbg (zab (za3 (zab (zta rfl (by rfl) Z.Zbu (by rfl) Z.Zer (zab (pv 6) zae)) (zab (pv 7) zae))) zae))) zae)))))))))))))))))),fun G ds q hp rt=>?_⟩
 obtain ⟨rows,m,c⟩:=q
 obtain ⟨rfl,hm,hl,hrl⟩:=hp
 have hm : 0 < m:=hm
 have hl : rows.length <= 1000:=hl
 have rt : RtD K G H Q (zao (zn3 rows m c)):=rt
 unfold zn3 at rt
 refine zak (zay (zcy (zaa rfl).b zai.b (by decide)) ?_)
 ((try dsimp only); refine zam ?_)
 refine zak (zay (zel (zaa rfl).b zai.b ⟨by decide,by decide⟩) ?_)
 ((try dsimp only); refine zam ?_)
 generalize c % 9 = wy at rt
 generalize c / 9 = mr at rt
 have app : ∀ {ss : List Sl} {L : Hp} {ta t1 t2 : TE} {rs : List Row} {q : Row},Ev K G H L ss ta (.lst (rs.map zba))->Ev K G H L ss t1 (.lst (q.1.map encN))->Ev K G H L ss t2 (.int q.2)->rs.length <= 1000->Ev K G H L ss (tTup (za5 (tC (.str (T zcf))) (za5 (tOp (ze3 K) ta (tLst (za5 (tTup (za5 t1 (za5 t2 tNil))) tNil))) tNil))) (zao (.rin (rs++[q]))):=fun {ss L ta t1 t2 rs q} a b d h=>by
  refine zbk (ds:=[.str zcf,.lst ((rs++[q]).map zba)]) (zac (zcm rfl (by decide)) (zac ?_ zaf)) (small (by simp))
  rw [Zh4]
  exact EvO.ev (zfp a.l (EvO.l (zbe (ds:=[zba q]) (zac (zbk (ds:=[.lst (q.1.map encN),.int q.2]) (zac b (zac d zaf)) (small (by simp))) zaf) (small (by simp)))) (by rw [Zh2,Zhk]; simp; omega))
 refine zak (za7 (b:=decide (wy = 0) || decide (rows = [])) (zg8 (zal (zb7 (zaa rfl).b zai.b)) fun _=>zal (by rw [<- yb8 zba]; exact zt6 (zaa rfl).b (EvO.ev (zbe zaf (small (by simp)))).b (D.nbs_map zvn rows) rfl (Zik (depL zba 2 zs3 rows) (by decide)))) (fun hb=>?_) (fun hb=>?_))
 ·rw [if_pos hb] at rt
  exact zaw (app (q:=(drwF m mr,mr / 64 % 4)) (zaa rfl) (EvO.ev (zgj (pre:=ycm) (res:=fun q=>(drwF q.1 q.2).map encN) (m,mr) (zac (zaa rfl) (zac (zaa rfl) zaf)) ⟨rfl,hm⟩)) (zcy (zel (zaa rfl).b zai.b ⟨by decide,by decide⟩).b zai.b (by decide)) hl) rt
 rw [if_neg (by rw [hb]; decide)] at rt
 rw [Zkt,decide_eq_false_iff_not,decide_eq_false_iff_not] at hb
 have hr0 : 0 < rows.length:=Zj6.mpr hb.2
 refine za0 ?_
 ((try dsimp only); refine zam ?_)
 have hlm : ((rows.map zba).length : Int) = (rows.length : Int):=by rw [Zhk]
 have a0:=Zj2 mr (show (rows.length : Int)≠0 by omega)
 have a1:=Zjg mr (show (0 : Int) < rows.length by omega)
 have ea : mr % (rows.length : Int) = ((atR rows mr : Nat) : Int):=(Zmq a0).symm
 have hal : atR rows mr < rows.length:=by omega
 refine zak (zay (d:=encN (atR rows mr)) (by
  rw [show encN (atR rows mr) = .int (mr % ((rows.map zba).length : Int)) by rw [hlm,ea]; rfl]
  exact zcy (zaa rfl).b (ze1 (zaa rfl).l).b (by omega)) ?_)
 ((try dsimp only); refine zam ?_)
 generalize atR rows mr = n at rt hal
 have hq : rows[n]? = some (rows.getD n ([],0)):=by rw [Zhh,Zhj hal]; rfl
 generalize rows.getD n ([],0) = q at rt hq
 obtain ⟨r,am⟩:=q
 have hrr : r.length <= 1000:=hrl _ (Zhs hq)
 refine zak (zze (zep (d:=zba (r,am)) (zaa rfl).l (zaa rfl).b (zjr (j:=n) (by rw [Zho,hq]; rfl))) (zcu (ds:=[.lst (r.map encN),.int am]) rfl (zar zan (zar zan zbt))) ?_)
 ((try dsimp only); refine zam ?_)
 have f1 : cutD (rows.map zba) none (some ((n : Nat) : Int)) = (rows.take n).map zba:=by rw [zwh _ (by omega),Zmh]; rfl
 have f2 : cutD (rows.map zba) (some (((n : Nat) : Int) + 1)) none = (rows.drop (n + 1)).map zba:=by rw [zll _ (by omega),Zol]; rfl
 refine zak (zay (d:=.lst ((fewR rows n).map zba)) (by
  unfold fewR
  rw [Zh4,<- f1,<- f2]
  exact EvO.ev (zfp (EvO.l (ziv (zaa rfl).l zmv (zfm (zaa rfl).b))) (EvO.l (ziv (zaa rfl).l (zfm (zcx (zaa rfl).b zai.b).b) zmv)) (by rw [f1,f2,Zh2]; simp; omega))) ?_)
 ((try dsimp only); refine zam ?_)
 have hfl : (fewR rows n).length <= 1000:=by unfold fewR; simp; omega
 generalize fewR rows n = few at rt hfl
 refine zak (za7 (zal (zb7 (zaa rfl).b zai.b)) (fun hb=>?_) (fun hb=>?_))
 ·rw [if_pos (of_decide_eq_true hb)] at rt
  exact zaw (zbk (ds:=[.str zcf,.lst (few.map zba)]) (zac (zcm rfl (by decide)) (zac (zaa rfl) zaf)) (small (by simp))) rt
 rw [if_neg (of_decide_eq_false hb)] at rt
 refine za0 ?_
 ((try dsimp only); refine zam ?_)
 refine zak (za7 (zal (zb7 (zaa rfl).b zai.b)) (fun hb=>?_) (fun hb=>?_))
 ·rw [if_pos (of_decide_eq_true hb)] at rt
  exact zaw (app (q:=(r,am + 1)) (zaa rfl) (zaa rfl) (zcx (zaa rfl).b zai.b) hfl) rt
 rw [if_neg (of_decide_eq_false hb)] at rt
 refine za0 ?_
 ((try dsimp only); refine zam ?_)
 refine zak (za7 (zal (zb7 (zaa rfl).b zai.b)) (fun hb=>?_) (fun hb=>?_))
 ·rw [if_pos (of_decide_eq_true hb)] at rt
  exact zaw (app (q:=(rotR r,am)) (zaa rfl) (EvO.ev (zrm (zaa rfl) hrr)) (zaa rfl) hfl) rt
 rw [if_neg (of_decide_eq_false hb)] at rt
 refine za0 ?_
 ((try dsimp only); refine zam ?_)
 refine zak (za7 (zal (zb7 (zaa rfl).b zai.b)) (fun hb=>?_) (fun hb=>?_))
 ·rw [if_pos (of_decide_eq_true hb)] at rt
  exact zaw (app (q:=(r,1)) (zaa rfl) (zaa rfl) zai hl) rt
 rw [if_neg (of_decide_eq_false hb)] at rt
 refine za0 ?_
 ((try dsimp only); refine zam ?_)
 refine zak (za7 (zal (zb7 (zaa rfl).b zai.b)) (fun hb=>?_) (fun hb=>?_))
 ·rw [if_pos (of_decide_eq_true hb)] at rt
  exact zaw (zbk (ds:=[.str zc1,.lst (r.map encN)]) (zac (zcm rfl (by decide)) (zac (zaa rfl) zaf)) (small (by simp))) rt
 rw [if_neg (of_decide_eq_false hb)] at rt
 refine za0 ?_
 ((try dsimp only); refine zam ?_)
 refine zak (za7 (zal (zb7 (zaa rfl).b zai.b)) (fun hb=>?_) (fun hb=>?_))
 ·rw [if_pos (of_decide_eq_true hb)] at rt
  exact zaw (app (q:=(r,am - 1)) (zaa rfl) (zaa rfl) (zwp (zaa rfl).b zai.b) hfl) rt
 rw [if_neg (of_decide_eq_false hb)] at rt
 refine za0 ?_
 ((try dsimp only); refine zam ?_)
 refine zak (za7 (zal (zb7 (zaa rfl).b zai.b)) (fun hb=>?_) (fun hb=>?_))
 ·rw [if_pos (of_decide_eq_true hb)] at rt
  have c3 : (r.take (r.length - 1)).map encN = cutD (r.map encN) none (some (-1)):=by rw [zyj,Zhk,Zmh]
  exact zaw (app (q:=(r.take (r.length - 1),am)) (zaa rfl) (by
   show Ev _ _ _ _ _ _ (.lst ((r.take (r.length - 1)).map encN))
   rw [c3]
   exact EvO.ev (ziv (zaa rfl).l zmv (zfm (ziq (i:=1) zai.b).b))) (zaa rfl) hfl) rt
 rw [if_neg (of_decide_eq_false hb)] at rt
 refine za0 ?_
 ((try dsimp only); refine zam ?_)
 exact zaw (app (q:=(r.reverse,am)) (zaa rfl) (by
  show Ev _ _ _ _ _ _ (.lst (r.reverse.map encN))
  rw [List.map_reverse]
  exact EvO.ev (zpn (zaa rfl).l)) (zaa rfl) hfl) rt
noncomputable def zb5 : Pap->Nat->Int->Pap
 | .rin rows,m,c=>zn3 rows m c
 | .nev r,_,_=>.nev (rotR r)
 | .cas i j a b,m,c =>
  if c % 12 = 0 then .cas i j b a else if c % 12 = 1 then .cas j i a b else
  if c % 12 = 2 then .cas (c / 12 % (m : Int)).toNat (c / 12 / 8 % (m : Int)).toNat a b else
  if c % 12 = 3 then (if c / 12 % 2 = 0 then a else b) else if c % 12 = 4 then .cas i j a a else
  if c % 12 % 2 = 1 then .cas i j (zb5 a m (c / 12)) b else .cas i j a (zb5 b m (c / 12))
theorem yao {rows : List Row} {m n : Nat} {c : Int} (hm : 0 < m) (h : PapR n (.rin rows)) (hi : zqv m (.rin rows)) : PapR (n + 1) (zn3 rows m c)/\zqv m (zn3 rows m c)/\(zn3 rows m c).dp = 0:=by
 have hd:=zt1 hm (2 + c / 9 % 4).toNat (c / 9 % 4294967311 + 1) [] (by simp)
 have d4:=Zjg (c / 9) (show (0 : Int) < 4 by decide)
 have hdl : (drwF m (c / 9)).length <= 100:=by have:=hd.2; simp at this; unfold drwF; omega
 have hdi : ∀ k∈drwF m (c / 9),k < m:=hd.1
 have add : ∀ (rs : List Row) (q : Row),rs.length <= n->(∀ z∈rs,z∈rows)->q.1.length <= 100->(∀ k∈q.1,k < m)->PapR (n + 1) (.rin (rs++[q]))/\zqv m (.rin (rs++[q]))/\(Pap.rin (rs++[q])).dp = 0:=fun rs q h1 h2 h3 h4=>by
  refine ⟨⟨by simp; omega,fun z hz=>?_⟩,fun z hz=>?_,rfl⟩ <;> rcases Zhw.mp hz with y | y
  ·exact h.2 z (h2 z y)
  ·rw [Zhp.mp y]; exact h3
  ·exact hi z (h2 z y)
  ·rw [Zhp.mp y]; exact h4
 unfold zn3
 split
 ·exact add rows _ h.1 (fun z hz=>hz) hdl hdi
 rename_i hb
 rw [Zle,decide_eq_true_eq,decide_eq_true_eq,not_or] at hb
 have hr0 : 0 < rows.length:=Zj6.mpr hb.2
 have a1:=Zjg (c / 9) (show (0 : Int) < rows.length by omega)
 have hal : atR rows (c / 9) < rows.length:=by unfold atR; omega
 have hq : rows.getD (atR rows (c / 9)) ([],0)∈rows:=by rw [Zhh,Zhj hal]; exact Zkc hal
 generalize atR rows (c / 9) = k at hal hq
 generalize rows.getD k ([],0) = q at hq
 have fm : ∀ z∈fewR rows k,z∈rows:=fun z hz=>(Zhw.mp hz).elim Zke Zny
 have fl : (fewR rows k).length <= n:=by have:=h.1; unfold fewR; simp; omega
 have q1:=h.2 q hq
 have q2:=hi q hq
 split
 ·exact ⟨⟨by omega,fun z hz=>h.2 z (fm z hz)⟩,fun z hz=>hi z (fm z hz),rfl⟩
 split
 ·exact add _ _ fl fm q1 q2
 split
 ·refine add _ _ fl fm (by unfold rotR; simp; omega) fun z hz=>q2 z ?_
  exact (Zhw.mp hz).elim Zny Zke
 split
 ·exact add _ _ h.1 (fun z hz=>hz) q1 q2
 split
 ·exact ⟨q1,q2,rfl⟩
 split
 ·exact add _ _ fl fm q1 q2
 split
 ·exact add _ _ fl fm (by simp; omega) fun z hz=>q2 z (Zke hz)
 ·exact add _ _ fl fm (by simp; omega) fun z hz=>q2 z (List.mem_reverse.mp hz)
theorem PapR.mono {n n' : Nat} (hn : n <= n') : ∀ {p : Pap},PapR n p->PapR n' p
 | .nev _,h=>h
 | .rin _,h=>⟨Zik h.1 hn,h.2⟩
 | .cas _ _ _ _,h=>⟨h.1,h.2.1,h.2.2.1.mono hn,h.2.2.2.mono hn⟩
theorem zku {m n : Nat} (hm : 0 < m) (hm8 : m <= 8) : ∀ {p : Pap} {b : Nat} {c : Int},PB m b n p->PB m b (n + 1) (zb5 p m c)
 | .rin rows,b,c,h=>by
  obtain ⟨h1,h2,h3⟩:=yao (c:=c) hm h.1 h.2.1
  exact ⟨h1,h2,by rw [zb5,h3]; exact Zit _⟩
 | .nev r,b,c,h=>⟨by have:=h.1; show (rotR r).length <= 100; have : r.length <= 100:=this; unfold rotR; simp; omega,fun z hz=>h.2.1 z ((Zhw.mp hz).elim Zny Zke),Zit _⟩
 | .cas i j x y,b,c,h=>by
  obtain ⟨⟨hi,hj,hx,hy⟩,⟨ii,ij,ix,iy⟩,hd⟩:=h
  have hd : max x.dp y.dp + 1 <= b:=hd
  have n1 : n <= n + 1:=by omega
  rw [zb5]
  split
  ·exact ⟨⟨hi,hj,hy.mono n1,hx.mono n1⟩,⟨ii,ij,iy,ix⟩,by show max y.dp x.dp + 1 <= b; omega⟩
  split
  ·exact ⟨⟨hj,hi,hx.mono n1,hy.mono n1⟩,⟨ij,ii,ix,iy⟩,hd⟩
  split
  ·have e1:=Zjg (c / 12) (show (0 : Int) < m by omega)
   have e2:=Zjg (c / 12 / 8) (show (0 : Int) < m by omega)
   exact ⟨⟨by omega,by omega,hx.mono n1,hy.mono n1⟩,⟨by omega,by omega,ix,iy⟩,hd⟩
  split
  ·split
   ·exact ⟨hx.mono n1,ix,by omega⟩
   ·exact ⟨hy.mono n1,iy,by omega⟩
  split
  ·exact ⟨⟨hi,hj,hx.mono n1,hx.mono n1⟩,⟨ii,ij,ix,ix⟩,by show max x.dp x.dp + 1 <= b; omega⟩
  split
  ·have ih:=zku hm hm8 (p:=x) (b:=b - 1) (c:=c / 12) ⟨hx,ix,by omega⟩
   exact ⟨⟨hi,hj,ih.1,hy.mono n1⟩,⟨ii,ij,ih.2.1,iy⟩,by have:=ih.2.2; show max _ y.dp + 1 <= b; omega⟩
  ·have ih:=zku hm hm8 (p:=y) (b:=b - 1) (c:=c / 12) ⟨hy,iy,by omega⟩
   exact ⟨⟨hi,hj,hx.mono n1,ih.1⟩,⟨ii,ij,ix,ih.2.1⟩,by have:=ih.2.2; show max x.dp _ + 1 <= b; omega⟩
noncomputable def zvk (n : Nat) (q : Pap × Nat × Int) (ds : List D) : Prop:=ds = [zao q.1,encN q.2.1,.int q.2.2]/\0 < q.2.1/\PapR 1000 q.1/\q.1.dp < n
noncomputable def ztx (q : Pap × Nat × Int) : D:=zao (zb5 q.1 q.2.1 q.2.2)
theorem zij (Z : Tx K mg ad0) : ∀ n : Nat,FnOk P w K mg base CX0 (n + 4) ad0.Zbd ad0.Za9 zdm (SpG K (zvk n) ztx)
 | 0=>⟨fun vs H Q E h=>by obtain ⟨_,_,q,_,_,h,_⟩:=h; exact absurd h.2.2.2 (Zjd _),fun A outer s H args us vs Q E _ _ _ _ h=>by obtain ⟨_,_,q,_,_,h,_⟩:=h; exact absurd h.2.2.2 (Zjd _)⟩
 | n + 1=>by
  have Zbg:=zij Z n
  have Ze1:=ziw (P:=P) (w:=w) (base:=base) Z
  refine okG (k:=n + 4) Z.Zah.F zbn (by rintro q ds ⟨rfl,_⟩; rfl) fun cdv A outer s H Q E hr=>⟨_,(zad (zbi (zat zcd (zbb (show IxR _ (rIxT K) from zbf) (pv 0) zaj (fun _ _=>rfl)) zcg (zau _)) (zag (zas (pcX (hle:=by omega) Ze1 hr Z.Zas (zab (zbb (show IxR _ (rIxT K) from zbf) (pv 0) zaj (fun _ _=>rfl)) (zab (pv 1) (zab (pv 2) zae)))))) zax)
   (zad (zbi (zat zcd (zbb (show IxR _ (rIxT K) from zbf) (pv 0) zaj (fun _ _=>rfl)) zcg (zau _)) (zag (zas (za3 (zab zcg (zab (za2 (show OpR _ _ (ze3 K) from zcj) (zev zgr (zbb (show IxR _ (rIxT K) from zbf) (pv 0) zaj (fun _ _=>rfl)) (zfs zaj) zhf) (zev zgr (zbb (show IxR _ (rIxT K) from zbf) (pv 0) zaj (fun _ _=>rfl)) zhf (zfs zaj))) zae))))) zax)
   (zad (psn 3 zbn.nd (za2 zcz (pv 2) zaj))
   (zad (psn 4 zbn.nd (za2 zej (pv 2) zaj))
   (zad (zue (pv 0) (zcq rfl (zaq (pgn 5 zbn.nd) (zaq (pgn 6 zbn.nd) (zaq (pgn 7 zbn.nd) (zaq (pgn 8 zbn.nd) (zaq (pgn 9 zbn.nd) zbs)))))))
   (zad (zbi (zat zcd (pv 3) zaj (zau _)) (zag (zas (za3 (zab zcg (zab (pv 6) (zab (pv 7) (zab (pv 9) (zab (pv 8) zae)))))))) zax)
   (zad (zbi (zat zcd (pv 3) zaj (zau _)) (zag (zas (za3 (zab zcg (zab (pv 7) (zab (pv 6) (zab (pv 8) (zab (pv 9) zae)))))))) zax)
   (zad (zbi (zat zcd (pv 3) zaj (zau _)) (zag (zas (za3 (zab zcg (zab (za2 zcz (pv 4) (pv 1)) (zab (za2 zcz (za2 zej (pv 4) zaj) (pv 1)) (zab (pv 8) (zab (pv 9) zae)))))))) zax)
   (zad (zbi (zat zcd (pv 3) zaj (zau _)) (zag (zas (zbb (show IxR _ (rIxL K) from zbm) (zbg (zab (pv 8) (zab (pv 9) zae))) (za2 zcz (pv 4) zaj) (fun _ _=>rfl)))) zax)
   (zad (zbi (zat zcd (pv 3) zaj (zau _)) (zag (zas (za3 (zab zcg (zab (pv 6) (zab (pv 7) (zab (pv 8) (zab (pv 8) zae)))))))) zax)
   (zad (zbi (zat zcd (za2 zcz (pv 3) zaj) zaj (zau _)) (zag (zas (za3 (zab zcg (zab (pv 6) (zab (pv 7) (zab (pcX (hle:=by omega) Zbg hr Z.Zah (zab (pv 8) (zab (pv 1) (zab (pv 4) zae)))) (zab (pv 9) zae)))))))) zax)
   (zag (zas (za3 (zab zcg (zab (pv 6) (zab (pv 7) (zab (pv 8) (zab (pcX (hle:=by omega) Zbg hr Z.Zah (zab (pv 9) (zab (pv 1) (zab (pv 4) zae)))) zae))))))))))))))))))),fun G ds q hp rt=>?_⟩
  obtain ⟨pq,m,c⟩:=q
  obtain ⟨rfl,hm,hpr,hdp⟩:=hp
  have hm : 0 < m:=hm
  have hdp : pq.dp < n + 1:=hdp
  have rt : RtD K G H Q (zao (zb5 pq m c)):=rt
  cases pq with
  | rin rows =>
   refine zak (za7 (b:=true) (zal (zeo (l:=zcf) (m:=zcf) (za6 (ds:=[.str zcf,.lst (rows.map zba)]) (zaa rfl) zai.b rfl).b (zcm rfl (by decide)).b)) (fun _=>?_) fun h=>by cases h)
   exact zaw (za1 (pre:=yc4) (res:=fun q=>zao (zn3 q.1 q.2.1 q.2.2)) (rows,m,c) (zac (za6 (ds:=[.str zcf,.lst (rows.map zba)]) (zaa rfl) zai.b rfl) (zac (zaa rfl) (zac (zaa rfl) zaf))) ⟨rfl,hm,hpr.1,fun r hr=>Zik (hpr.2 r hr) (by decide)⟩) rt
  | nev r =>
   refine zak (za7 (b:=false) (zal (zeo (l:=zc1) (m:=zcf) (za6 (ds:=[.str zc1,.lst (r.map encN)]) (zaa rfl) zai.b rfl).b (zcm rfl (by decide)).b)) (fun h=>by cases h) fun _=>?_)
   refine za0 ?_
   ((try dsimp only); refine zam ?_)
   refine zak (za7 (b:=true) (zal (zeo (l:=zc1) (m:=zc1) (za6 (ds:=[.str zc1,.lst (r.map encN)]) (zaa rfl) zai.b rfl).b (zcm rfl (by decide)).b)) (fun _=>?_) fun h=>by cases h)
   have hr1 : r.length <= 100:=hpr
   exact zaw (d:=.tup [.str zc1,.lst ((rotR r).map encN)]) (zbk (zac (zcm rfl (by decide)) (zac (EvO.ev (zrm (za6 (ds:=[.str zc1,.lst (r.map encN)]) (zaa rfl) zai.b rfl) (by omega))) zaf)) (small (by simp))) rt
  | cas i j a b =>
   have hdp : max a.dp b.dp + 1 < n + 1:=hdp
   rw [zb5] at rt
   refine zak (za7 (b:=false) (zal (zeo (l:=zdw) (m:=zcf) (za6 (ds:=[.str zdw,encN i,encN j,zao a,zao b]) (zaa rfl) zai.b rfl).b (zcm rfl (by decide)).b)) (fun h=>by cases h) fun _=>?_)
   refine za0 ?_
   ((try dsimp only); refine zam ?_)
   refine zak (za7 (b:=false) (zal (zeo (l:=zdw) (m:=zc1) (za6 (ds:=[.str zdw,encN i,encN j,zao a,zao b]) (zaa rfl) zai.b rfl).b (zcm rfl (by decide)).b)) (fun h=>by cases h) fun _=>?_)
   refine za0 ?_
   ((try dsimp only); refine zam ?_)
   refine zak (zay (zcy (zaa rfl).b zai.b (by decide)) ?_)
   ((try dsimp only); refine zam ?_)
   refine zak (zay (zel (zaa rfl).b zai.b ⟨by decide,by decide⟩) ?_)
   ((try dsimp only); refine zam ?_)
   generalize c % 12 = wy at rt
   generalize c / 12 = mr at rt
   refine zak (zze (zaa rfl) (zcu (ds:=[.str zdw,encN i,encN j,zao a,zao b]) rfl (zar zan (zar zan (zar zan (zar zan (zar zan zbt)))))) ?_)
   ((try dsimp only); refine zam ?_)
   have cas : ∀ {ss : List Sl} {L : Hp} {t1 t2 t3 t4 : TE} {i' j' : Nat} {a' b' : Pap},Ev K G H L ss t1 (encN i')->Ev K G H L ss t2 (encN j')->Ev K G H L ss t3 (zao a')->Ev K G H L ss t4 (zao b')->Ev K G H L ss (tTup (za5 (tC (.str (T zdw))) (za5 t1 (za5 t2 (za5 t3 (za5 t4 tNil)))))) (zao (.cas i' j' a' b')):=fun {ss L t1 t2 t3 t4 i' j' a' b'} e1 e2 e3 e4=>zbk (ds:=[.str zdw,encN i',encN j',zao a',zao b']) (zac (zcm rfl (by decide)) (zac e1 (zac e2 (zac e3 (zac e4 zaf))))) (small (by simp))
   refine zak (za7 (zal (zb7 (zaa rfl).b zai.b)) (fun hb=>?_) (fun hb=>?_))
   ·rw [if_pos (of_decide_eq_true hb)] at rt
    exact zaw (cas (zaa rfl) (zaa rfl) (zaa rfl) (zaa rfl)) rt
   rw [if_neg (of_decide_eq_false hb)] at rt
   refine za0 ?_
   ((try dsimp only); refine zam ?_)
   refine zak (za7 (zal (zb7 (zaa rfl).b zai.b)) (fun hb=>?_) (fun hb=>?_))
   ·rw [if_pos (of_decide_eq_true hb)] at rt
    exact zaw (cas (zaa rfl) (zaa rfl) (zaa rfl) (zaa rfl)) rt
   rw [if_neg (of_decide_eq_false hb)] at rt
   refine za0 ?_
   ((try dsimp only); refine zam ?_)
   refine zak (za7 (zal (zb7 (zaa rfl).b zai.b)) (fun hb=>?_) (fun hb=>?_))
   ·rw [if_pos (of_decide_eq_true hb)] at rt
    have o1 : encN (mr % (m : Int)).toNat = .int (mr % (m : Int)):=by unfold encN; rw [Zmq (Zj2 _ (by omega))]
    have o2 : encN (mr / 8 % (m : Int)).toNat = .int (mr / 8 % (m : Int)):=by unfold encN; rw [Zmq (Zj2 _ (by omega))]
    exact zaw (cas (by rw [o1]; exact zcy (zaa rfl).b (zaa (d:=.int (m : Nat)) rfl).b (by omega)) (by rw [o2]; exact zcy (zel (zaa rfl).b zai.b ⟨by decide,by decide⟩).b (zaa (d:=.int (m : Nat)) rfl).b (by omega)) (zaa rfl) (zaa rfl)) rt
   rw [if_neg (of_decide_eq_false hb)] at rt
   refine za0 ?_
   ((try dsimp only); refine zam ?_)
   refine zak (za7 (zal (zb7 (zaa rfl).b zai.b)) (fun hb=>?_) (fun hb=>?_))
   ·rw [if_pos (of_decide_eq_true hb)] at rt
    have z0:=Zj2 mr (show (2 : Int)≠0 by decide)
    have z1:=Zjg mr (show (0 : Int) < 2 by decide)
    have hat : atI [zao a,zao b] (mr % 2) = some (zao (if mr % 2 = 0 then a else b)):=by
     rcases (show mr % 2 = 0 \/ mr % 2 = 1 by omega) with z | z <;> rw [z] <;> rfl
    exact zaw (zep (ds:=[zao a,zao b]) (EvO.l (zbe (zac (zaa rfl) (zac (zaa rfl) zaf)) (small (by simp)))) (zcy (zaa rfl).b zai.b (by decide)).b hat) rt
   rw [if_neg (of_decide_eq_false hb)] at rt
   refine za0 ?_
   ((try dsimp only); refine zam ?_)
   refine zak (za7 (zal (zb7 (zaa rfl).b zai.b)) (fun hb=>?_) (fun hb=>?_))
   ·rw [if_pos (of_decide_eq_true hb)] at rt
    exact zaw (cas (zaa rfl) (zaa rfl) (zaa rfl) (zaa rfl)) rt
   rw [if_neg (of_decide_eq_false hb)] at rt
   refine za0 ?_
   ((try dsimp only); refine zam ?_)
   refine zak (za7 (zal (zb7 (zcy (zaa rfl).b zai.b (by decide)).b zai.b)) (fun hb=>?_) (fun hb=>?_))
   ·rw [if_pos (of_decide_eq_true hb)] at rt
    exact zaw (cas (zaa rfl) (zaa rfl) (za1 (pre:=zvk n) (res:=ztx) (a,m,mr) (zac (zaa rfl) (zac (zaa rfl) (zac (zaa rfl) zaf))) ⟨rfl,hm,hpr.2.2.1,by show a.dp < n; omega⟩) (zaa rfl)) rt
   rw [if_neg (of_decide_eq_false hb)] at rt
   refine za0 ?_
   ((try dsimp only); refine zam ?_)
   exact zaw (cas (zaa rfl) (zaa rfl) (zaa rfl) (za1 (pre:=zvk n) (res:=ztx) (b,m,mr) (zac (zaa rfl) (zac (zaa rfl) (zac (zaa rfl) zaf))) ⟨rfl,hm,hpr.2.2.2,by show b.dp < n; omega⟩)) rt
noncomputable def decB (x : Dec) : D:=D.dicT (dAp .bl x.1 x.2)
theorem zix (Z : Tx K mg ad0) : FnOk P w K mg base CX0 1 ad0.Zdg ad0.Zc7 zfz (SpD K ziy zis):=by
 refine okD Z.Zb9.F zqg (by rintro ds ⟨i,m,rfl⟩; rfl) fun cdv A outer s H Q E hr=>⟨_,(zag (zas (za3 (zab (zaz (zln rfl) (by rfl) Z.Ze5 Zsy (zab (pv 0) (zab (pv 1) zae))) (zab (zaz (zlf rfl) (by rfl) Z.Zej Zrn (zab (pv 0) (zab (pv 1) zae))) zae))))),fun G ds hp rt=>?_⟩
 obtain ⟨a,b,rfl⟩:=hp
 exact zaw (d:=encA (prF a b)) (zww (tc:=tC .non) (td:=tC .non) (zpl (zaa (d:=.int (a : Nat)) rfl).b (zaa (d:=.int (b : Nat)) rfl).b) (zpu (zaa (d:=.int (a : Nat)) rfl).b (zaa (d:=.int (b : Nat)) rfl).b)) rt
theorem at_N {r : List Nat} {k : Nat} (h : k < r.length) : atI (r.map encN) (k : Int) = some (encN (r.getD k 0)):=zjr (by rw [Zho,Zhh,Zhj h]; rfl)
noncomputable def zw7 (ds : List D) : Prop:=∃ (r : List Nat),ds = [.lst (r.map encN)]/\r.length <= 1000/\r≠[]
theorem zj8 (Z : Tx K mg ad0) : FnOk P w K mg base CX0 2 ad0.Zcg ad0.Zcb ze8 (SpO K zw7 zmj):=by
 have Zcr:=zix (P:=P) (w:=w) (base:=base) Z
 refine okO Z.Zci.F zol (by rintro ds ⟨i,rfl,_⟩; rfl) fun cdv A outer s H Q E hr=>⟨_,(zag (zas (znp rfl (LcOk.of (Nx:=(["_law_ring_here"] : List Str)) (sc:=zah zfc) (N':=(["_law_k", "_law_ring_here"] : List Str)) (nt:=1) (cs:=[0]) rfl rfl (by decide +kernel)) (zf6 (by rfl) Z.Zbk (zab (za2 zwn (zaz za9 (by rfl) Z.Zal Zli (zab (pv 0) zae)) zaj) zae)) (fun _ _ _ _=>(zbx (i:=0) (show Zi9 (["_law_k", "_law_ring_here"] : List Str) by decide +kernel) rfl (Zkz rfl))) (fun _ _ _ _=>zg6) (fun _ _ _ _=>(pcX Zcr hr Z.Zb9 (zab (zbb (show IxR _ (rIxL K) from zbm) (pv 1) (pv 0) (fun _ _=>rfl)) (zab (zbb (show IxR _ (rIxL K) from zbm) (pv 1) (za2 zc0 (pv 0) zaj) (fun _ _=>rfl)) zae))))))),fun G ds hp rt=>?_⟩
 obtain ⟨r,rfl,hl,hn⟩:=hp
 have hl1 : 0 < r.length:=Zj6.mpr hn
 rw [zgf] at rt
 have ll : ((r.map encN).length : Int) - 1 = ((r.length - 1 : Nat) : Int):=by rw [Zhk]; omega
 have e : (zbj r).map encA = ((Zhm (((r.map encN).length : Int) - 1).toNat).filter fun _=>true).map fun k=>encA (prF (r.getD k 0) (r.getD (k + 1) 0)):=by
  unfold zbj
  rw [Zim,Zk1.mpr (fun _ _=>rfl),ll,Zl6]
  rfl
 rw [e] at rt
 refine zju (zj2 (fun _=>true) (fun k=>encA (prF (r.getD k 0) (r.getD (k + 1) 0))) (zpi (zd7 (zwp (ze1 (zaa rfl).l).b zai.b).b zhp) (by rw [ll]; omega)) (zb2 (by decide)) (by decide) (by rw [Zh2,ll,Zl6]; omega) fun k hk=>?_) rt
 rw [ll,Zl6] at hk
 exact ⟨_,zan,zja,fun _=>zb4 (pre:=ziy) (res:=zis) (zac (zep (zaa rfl).l (zaa rfl).b (at_N (by omega))) (zac (zep (zaa rfl).l (zcx (zaa rfl).b zai.b).b (at_N (k:=k + 1) (by omega))) zaf)) ⟨_,_,rfl⟩⟩
theorem zms {G H₀ L : Hp} {ss : List Sl} {i : Nat} {r : List Nat} {E : XK} (h : ss[i]? = some (.d (.lst (r.map encN)))) (hl : r.length <= 1000) (hn : r≠[]) : EvO K G H₀ L ss (zhd (SpO K zw7 zmj) [] E (za5 (tVar i) tNil)) ((zbj r).map encA):=by
 rw [<- zgf]
 exact zid (pre:=zw7) (res:=zmj) (zac (zaa h) zaf) ⟨r,rfl,hl,hn⟩
noncomputable def allR (r : List Nat) : List Apt:=zbj r++[gapR r]
noncomputable def zdh (r : List Nat) (y : Wts) (x : Dec) (nv : Bool) (a : Apt) : Bool :=
 if a∈x.1 then decide (x.2 a = !decide (a = gapR r)) else !(nv || ((decide (a = gapR r) && decide (wtF y.1 y.2 a ≥ 0)) || (!decide (a = gapR r) && decide (wtF y.1 y.2 a <= 0))))
noncomputable def zg4 (r : List Nat) (y : Wts) (x : Dec) (nv : Bool) : Bool:=zcr r && ((allR r).all (zdh r y x nv) && (nv || decide ((zbw r x).length > 0)))
noncomputable def ybj (q : List Nat × Wts × Dec × Bool) (ds : List D) : Prop:=ds = [.lst (q.1.map encN),wtsD q.2.1,decB q.2.2.1,.bl q.2.2.2]/\q.1.length <= 1000
noncomputable def yb3 (q : List Nat × Wts × Dec × Bool) : D:=.bl (zg4 q.1 q.2.1 q.2.2.1 q.2.2.2)
theorem zzi {r : List Nat} (hn : r≠[]) : atI (r.map encN) 0 = some (encN (r.getD 0 0))/\atI (r.map encN) (-1) = some (encN (r.getD (r.length - 1) 0)):=by
 have hl : 0 < r.length:=Zj6.mpr hn
 exact ⟨zjr (j:=0) (by rw [Zho,Zhh,Zhj hl]; rfl),zp3 (by rw [Zhk,Zho,Zhh,Zhj (by omega)]; rfl) (by simpa using hn)⟩
theorem zup {G H₀ L : Hp} {ss : List Sl} {i : Nat} {r : List Nat} {E : XK} (h : ss[i]? = some (.d (.lst (r.map encN)))) (hn : r≠[]) : Ev K G H₀ L ss (zhd (SpD K ziy zis) [] E (za5 (tOp (rIxL K) (tVar i) (tC (.int 0))) (za5 (tOp (rIxL K) (tVar i) (tUn (rU fun i=>.int (-i)) (tC (.int 1)))) tNil))) (encA (gapR r)) :=
 zb4 (pre:=ziy) (res:=zis) (zac (zep (zaa h).l zai.b (zzi hn).1) (zac (zep (zaa h).l (ziq (i:=1) zai.b).b (zzi hn).2) zaf)) ⟨_,_,rfl⟩
theorem zt8 (a b : Apt) : decide (encA a = encA b) = decide (a = b):=decide_eq_decide.mpr ⟨zcb a b,fun z=>by rw [z]⟩
section
variable {G H₀ L : Hp} {ss : List Sl} {ta tb td ty : TE} {a b : Apt}
theorem yc9 (e1 : Ev K G H₀ L ss ta (encA a)) (e2 : Ev K G H₀ L ss tb (encA b)) : Ev K G H₀ L ss (tOp (rEqD K) ta tb) (.bl (decide (a = b))):=by
 rw [<- zt8]; exact zt6 e1.b e2.b rfl rfl (by show 1 <= 60; decide)
theorem zzr (e1 : Ev K G H₀ L ss ta (encA a)) (e2 : Ev K G H₀ L ss tb (encA b)) : Ev K G H₀ L ss (tOp (rNeD K) ta tb) (.bl (!decide (a = b))):=by
 rw [<- zt8]; exact yd6 e1.b e2.b rfl rfl (by show 1 <= 60; decide)
theorem zzu (x : Dec) (e1 : Ev K G H₀ L ss td (decB x)) (e2 : Ev K G H₀ L ss ty (encA a)) : Ev K G H₀ L ss (tDIn ty td) (.bl (decide (a∈x.1))):=by
 rw [<- yap D.bl x.1 x.2]
 exact zxg e1 e2 rfl rfl
theorem yb0 (x : Dec) (e1 : Ev K G H₀ L ss td (decB x)) (e2 : Ev K G H₀ L ss ty (encA a)) : Ev K G H₀ L ss (zl5 ty td) (.bl (!decide (a∈x.1))):=by
 rw [<- yap D.bl x.1 x.2]
 exact zlw e1 e2 rfl rfl
theorem ycd (x : Dec) (h : a∈x.1) (e1 : Ev K G H₀ L ss td (decB x)) (e2 : Ev K G H₀ L ss ty (encA a)) : Ev K G H₀ L ss (zsp td ty) (.bl (x.2 a)) :=
 zl8 (kvs:=dAp .bl x.1 x.2) e1 e2 rfl rfl (by rw [show D.tup [.int a.1,.int a.2] = encA a from rfl,valA,if_pos h])
end
theorem zoy (x : Dec) {l : List Apt} {k : Nat} {a : Apt} (hk : l[k]? = some a) : ((l.take (k + 1)).filter fun a=>!decide (a∈x.1)).length = ((l.take k).filter fun a=>!decide (a∈x.1)).length + (if a∈x.1 then 0 else 1):=by
 rw [Zh8,hk,Zj0,Zh1]
 congr 1
 by_cases h : a∈x.1 <;> simp [h]
theorem zlp (Z : Tx K mg ad0) : FnOk P w K mg base CX0 3 ad0.Zdd ad0.Zcp zf9 (SpG K ybj yb3):=by
 have Zcr:=zix (P:=P) (w:=w) (base:=base) Z
 have Zem:=zj8 (P:=P) (w:=w) (base:=base) Z
 refine okG Z.Zdk.F zd0 (by rintro q ds ⟨rfl,_⟩; rfl) fun cdv A outer s H Q E hr=>⟨_,(zad (zbi (PW.pt (zkj (zat zmy (zaz za9 (by rfl) Z.Zal Zli (zab (pv 0) zae)) zaj (zau _)) (zir (zat zqb (zaz (show zdk _ _ zw4 from zo6) (by rfl) Z.Zal Zli (zab (zb9 (show zdk _ _ (zv6 K) from zox rfl) (by rfl) Z.Zf4 boot_set (zab (pv 0) zae)) zae)) (zaz za9 (by rfl) Z.Zal Zli (zab (pv 0) zae)) (zau _))))) (zag (zas zfo)) zax)
   (zad (psn 4 zd0.nd (pcX Zcr hr Z.Zb9 (zab (zbb (show IxR _ (rIxL K) from zbm) (pv 0) zaj (fun _ _=>rfl)) (zab (zbb (show IxR _ (rIxL K) from zbm) (pv 0) (zli zhq zaj) (fun _ _=>rfl)) zae))))
   (zad (psn 5 zd0.nd zaj)
   (zad (zbo Zh7 rfl (zbc (za2 (show OpR _ _ (ze3 K) from zcj) (pcX Zem hr Z.Zci (zab (pv 0) zae)) (zbg (zab (pv 4) zae)))) (pgn 6 zd0.nd) (zad (psn 7 zd0.nd (zfh (zbh hr) (pv 1) (pv 6) zaj ⟨by rfl,by rfl,by rfl,by rfl⟩))
   (zag (zbi (zio (zmp (zbh hr) (pv 6) (pv 2)) (by with_unfolding_all rfl)) (zag (zbi (zat zqb (zc2 (zbh hr) (pv 2) (pv 6) (fun _ _=>rfl)) (zbl (show OpR _ _ (rNeD K) from zzp hr.units) (pv 6) (pv 4) (zau _)) (zau _)) (zag (zas zfo)) zax)) (zag (zbi (PW.pt (zkj (zgi (pv 3)) (zkj (PW.pt (zi5 (zat (show OpR _ _ (rEqD K) from zvj hr.units) (pv 6) (pv 4) (zau _)) (zgs (zat zsw (pv 7) zaj (zau _))))) (zir (PW.pt (zi5 (zat (show OpR _ _ (rNeD K) from zzp hr.units) (pv 6) (pv 4) (zau _)) (zgs (zat zwe (pv 7) zaj (zau _))))))))) (zag (zas zfo)) (zag (psn 5 zd0.nd (za2 zc0 (pv 5) zaj)))))))))
   (zag (zas (ybn (pv 3) (zha (zbl zk5 (pv 5) zaj (zau _)))))))))),fun G ds q hp rt=>?_⟩
 obtain ⟨r,y,x,nv⟩:=q
 obtain ⟨rfl,hl⟩:=hp
 have hl : r.length <= 1000:=hl
 have rt : RtD K G H Q (.bl (zg4 r y x nv)):=rt
 refine zak (za7 (zg8 (zal (zqt (ze1 (zaa rfl).l).b zai.b)) fun _=>zal (zzj (zu7 rfl hl).b (ze1 (zaa rfl).l).b)) (fun hb=>?_) (fun hb=>?_))
 ·refine zaw zgl ?_
  have : zg4 r y x nv = false:=by
   have : zcr r = false:=by
    unfold zcr
    rw [Zle,decide_eq_true_eq,Zje,decide_eq_false_iff_not] at hb
    simp only [Zhk] at hb
    rcases hb with hb | hb
    ·rw [decide_eq_false (by omega)]; rfl
    ·rw [decide_eq_false (p:=r.Nodup) (fun z=>hb (by rw [ya6.mpr z]))]; simp
   unfold zg4; rw [this]; rfl
  rw [this] at rt; exact rt
 rw [Zkt,decide_eq_false_iff_not,Zjn,decide_eq_true_eq] at hb
 simp only [Zhk] at hb
 obtain ⟨hb1,hb2⟩:=hb
 have hring : zcr r = true:=by
  unfold zcr
  rw [decide_eq_true (by omega),decide_eq_true (ya6.mp (by omega))]; rfl
 have hrn : r≠[]:=fun z=>by subst z; simp at hb1
 have e0 : zg4 r y x nv = ((allR r).all (zdh r y x nv) && (nv || decide ((zbw r x).length > 0))):=by unfold zg4; rw [hring,Ziy]
 rw [e0] at rt
 ((try dsimp only); refine zam ?_)
 refine zak (zay (zup rfl hrn) ?_)
 ((try dsimp only); refine zam ?_)
 refine zak (zay zai ?_)
 ((try dsimp only); refine zam ?_)
 have hcat : (allR r).map encA = (zbj r).map encA++[encA (gapR r)]:=by unfold allR; rw [Zh4]; rfl
 refine zak (zdg encA (allR r) (fun k ss=>(∀ a∈(allR r).take k,zdh r y x nv a = true) /\ ∃ v6 v7,ss = [.d (.lst (r.map encN)),.d (wtsD y),.d (decB x),.d (.bl nv),.d (encA (gapR r)),.d (.int (((allR r).take k).filter fun a=>!decide (a∈x.1)).length),v6,v7]) (by
  rw [hcat]
  exact EvO.ev (zfp (EvO.l (zms (i:=0) rfl hl hrn)) (EvO.l (zbe (zac (zaa rfl) zaf) (small (by simp)))) (by rw [Zh2,Zhk,ze0]; simp; omega))) ⟨by simp,.un,.un,rfl⟩ ?_ ?_)
 ·rintro L' k a ss hL hk ⟨hall,v6,v7,rfl⟩
  have hm : a∈allR r:=Zhs hk
  have bad : zdh r y x nv a = false->(allR r).all (zdh r y x nv) = false:=fun h=>Zov.mpr ⟨a,hm,by rw [h]; simp⟩
  have good : zdh r y x nv a = true -> ∀ b∈(allR r).take (k + 1),zdh r y x nv b = true:=fun h b hb=>by
   rcases zq5 hk hb with z | z
   ·exact hall b z
   ·rw [z]; exact h
  refine ⟨_,zan,fun N hN=>?_⟩
  refine zak (zay (ztc (a:=a) y (zaa rfl) (zaa rfl)) ?_)
  ((try dsimp only); refine zam ?_)
  refine za7 (zki (zzu (a:=a) x (zaa rfl) (zaa rfl))) (fun hb=>?_) (fun hb=>?_)
  ·rw [decide_eq_true_eq] at hb
   refine za7 (zal (zot (ycd x hb (zaa rfl) (zaa rfl)).b (zzr (a:=a) (b:=gapR r) (zaa rfl) (zaa rfl)).b)) (fun hc=>?_) (fun hc=>?_)
   ·refine zaw zgl ?_
    rw [bad (by unfold zdh; rw [if_pos hb]; rw [Zje] at hc; exact hc)] at rt; exact rt
   ·refine za0 (hN _ ⟨good (by unfold zdh; rw [if_pos hb]; rw [Zjn] at hc; exact hc),.d (encA a),.d (.int (wtF y.1 y.2 a)),?_⟩)
    rw [zoy x hk,if_pos hb]; rfl
  ·rw [decide_eq_false_iff_not] at hb
   refine za7 (zg8 (zal (zaa rfl)) fun _=>zg8 (zgt (zal (yc9 (a:=a) (b:=gapR r) (zaa rfl) (zaa rfl))) fun _=>zal (ztq (zaa rfl).b zai.b)) fun _=>zgt (zal (zzr (a:=a) (b:=gapR r) (zaa rfl) (zaa rfl))) fun _=>zal (zza (zaa rfl).b zai.b)) (fun hc=>?_) (fun hc=>?_)
   ·refine zaw zgl ?_
    rw [bad (by unfold zdh; rw [if_neg hb,hc]; rfl)] at rt; exact rt
   ·refine zay (zcx (zaa rfl).b zai.b) (hN _ ⟨good (by unfold zdh; rw [if_neg hb,hc]; rfl),.d (encA a),.d (.int (wtF y.1 y.2 a)),?_⟩)
    rw [zoy x hk,if_neg hb]; rfl
 rintro ss ⟨hall,v6,v7,rfl⟩
 rw [Zif] at hall ⊢
 rw [Zi5.mpr hall,Ziy] at rt
 ((try dsimp only); refine zam ?_)
 have e1 : decide ((zbw r x).length > 0) = decide ((0 : Int) < (((allR r).filter fun a=>!decide (a∈x.1)).length : Nat)):=decide_eq_decide.mpr (by unfold zbw allR; omega)
 rw [e1] at rt
 exact zaw (yal (zaa rfl) fun _=>zlo (zaa rfl).b zai.b) rt
noncomputable def zi4 (y : Wts) (x : Dec) (a : Apt) : Int:=if decide (x.2 a = decide (wtF y.1 y.2 a < 0)) = true then absI (wtF y.1 y.2 a) else 0
theorem zvm (y : Wts) (x : Dec) (a : Apt) : zi4 y x a = zjz y x a:=by
 unfold zi4 zjz
 by_cases h0 : wtF y.1 y.2 a = 0
 ·rw [h0]; simp [absI]
 ·have : decide (x.2 a = decide (wtF y.1 y.2 a < 0)) = !decide (x.2 a = decide (wtF y.1 y.2 a > 0)):=by
   by_cases h : wtF y.1 y.2 a < 0
   ·rw [decide_eq_true h,decide_eq_false (p:=wtF y.1 y.2 a > 0) (by omega)]; cases x.2 a <;> decide
   ·rw [decide_eq_false h,decide_eq_true (p:=wtF y.1 y.2 a > 0) (by omega)]; cases x.2 a <;> decide
  rw [this]
theorem zsu {f g : Apt->Int} (h : ∀ a,f a = g a) (as : List Apt) : sumA f as = sumA g as:=by rw [show f = g from funext h]
noncomputable def ze7 (x : Dec) (y : Wts) (v : Int) : List Apt->Usd->Bool
 | [],_=>true
 | a::as,u=>!(!decide (a∈x.1) && decide (absI (wtF y.1 y.2 a) < wtF u.1 u.2 a + v)) && ze7 x y v as (addU v u a)
noncomputable def zhr (x : Dec) (y : Wts) : List Row->Usd->Bool
 | [],_=>true
 | q::rows,u=>(decide (1 <= q.2) && zg4 q.1 y x false) && (ze7 x y q.2 (allR q.1) u && zhr x y rows ((allR q.1).foldl (addU q.2) u))
noncomputable def u0 : Usd:=([],fun _=>0)
noncomputable def zmk (rows : List Row) (y : Wts) (x : Dec) (least : Int) : Bool:=zhr x y rows u0 && decide (sumA (zi4 y x) x.1 + sumR rows ≥ least)
noncomputable def useL (rows : List Row) : Usd:=rows.foldl (fun u q=>(allR q.1).foldl (addU q.2) u) u0
theorem zov (rows : List Row) (q : Row) : useL (rows++[q]) = (allR q.1).foldl (addU q.2) (useL rows):=by unfold useL; rw [Zjl]; rfl
theorem zz9 {r : List Nat} {y : Wts} {x : Dec} (h : zg4 r y x false = true) {a : Apt} (ha : a∈allR r) (hx : a ∉ x.1) : a∈y.1:=by
 unfold zg4 at h
 simp only [Zib] at h
 have:=Zi5.mp h.2.1 a ha
 unfold zdh at this
 rw [if_neg hx] at this
 have hw : wtF y.1 y.2 a≠0:=fun z=>by
  rw [z] at this
  by_cases hg : a = gapR r <;> simp [hg] at this
 unfold wtF at hw
 split at hw
 ·assumption
 ·exact absurd rfl hw
theorem znf (v : Int) (u : Usd) (a : Apt) : a∈(addU v u a).1/\(addU v u a).2 a = wtF u.1 u.2 a + v:=by
 refine ⟨?_,?_⟩
 ·show a∈(if a∈u.1 then u.1 else u.1++[a])
  split
  ·assumption
  ·simp
 ·show (if a = a then _ else _) = _
  rw [if_pos rfl]
theorem zus (r : List Nat) : (allR r).length = r.length - 1 + 1:=by unfold allR; rw [Zh1,ze0]; rfl
theorem zy1 : ∀ (rows : List Row),(∀ q∈rows,q.1.length <= 100)->(useL rows).1.length <= rows.length * 101:=by
 have : ∀ (rows : List Row) (u : Usd),(∀ q∈rows,q.1.length <= 100)->(rows.foldl (fun u q=>(allR q.1).foldl (addU q.2) u) u).1.length <= u.1.length + rows.length * 101:=by
  intro rows
  induction rows with
  | nil=>intro u _; simp
  | cons q rows ih =>
   intro u h
   rw [Zkw]
   have h1:=ih ((allR q.1).foldl (addU q.2) u) fun r hr=>h r (Zhv _ hr)
   have h2:=zjb q.2 (allR q.1) u
   have h3:=zus q.1
   have h4:=h q Zhx
   rw [Zkb]
   omega
 intro rows h
 have:=this rows u0 h
 unfold useL
 simpa [u0] using this
noncomputable def yco (q : List Row × Wts × Dec × Int) (ds : List D) : Prop:=ds = [.lst (q.1.map zba),wtsD q.2.1,decB q.2.2.1,.int q.2.2.2]/\q.1.length <= 100 /\ ∀ r∈q.1,r.1.length <= 100
noncomputable def ycz (q : List Row × Wts × Dec × Int) : D:=.bl (zmk q.1 q.2.1 q.2.2.1 q.2.2.2)
theorem zwi {α : Type} {l : List α} {k : Nat} {a : α} (h : l[k]? = some a) : l.drop k = a::l.drop (k + 1):=by
 obtain ⟨h1,h2⟩:=Zhn.mp h
 rw [Zmw h1,h2]
theorem zp5 (Z : Tx K mg ad0) : FnOk P w K mg base CX0 4 ad0.Zdf ad0.Zc6 zgb (SpG K yco ycz):=by
 have Zcr:=zix (P:=P) (w:=w) (base:=base) Z
 have Zem:=zj8 (P:=P) (w:=w) (base:=base) Z
 have Zeq:=zlp (P:=P) (w:=w) (base:=base) Z
 refine okG Z.Zd7.F zb3 (by rintro q ds ⟨rfl,_⟩; rfl) fun cdv A outer s H Q E hr=>⟨_,(zad (psn 4 zb3.nd zaj)
   (zad (zbo Zh7 rfl (zk8 (zlm (pv 2))) (zcq rfl (zaq (pgn 5 zb3.nd) (zaq (pgn 6 zb3.nd) zbs))) (zag (zbi (zat zcd (pv 6) (zbl zmy (zfh (zbh hr) (pv 1) (pv 5) zaj ⟨by rfl,by rfl,by rfl,by rfl⟩) zaj (zau _)) (zau _)) (zag (psn 4 zb3.nd (za2 zc0 (pv 4) (zaz zh9 (by rfl) Z.Zek Zqi (zab (zfh (zbh hr) (pv 1) (pv 5) zaj ⟨by rfl,by rfl,by rfl,by rfl⟩) zae))))) zax)))
   (zad (psn 7 zb3.nd zgp)
   (zad (zbo Zh7 rfl (zbc (pv 0)) (zcq rfl (zaq (pgn 8 zb3.nd) (zaq (pgn 9 zb3.nd) zbs))) (zad (zbi (PW.pt (zkj (zat zmy (pv 9) zaj (zau _)) (zir (zii (zgi (pcX Zeq hr Z.Zdk (zab (pv 8) (zab (pv 1) (zab (pv 2) (zab zfo zae)))))))))) (zag (zas zfo)) zax)
   (zad (psn 4 zb3.nd (za2 zc0 (pv 4) (pv 9)))
   (zag (zbo Zh7 rfl (zbc (za2 (show OpR _ _ (ze3 K) from zcj) (pcX Zem hr Z.Zci (zab (pv 8) zae)) (zbg (zab (pcX Zcr hr Z.Zb9 (zab (zbb (show IxR _ (rIxL K) from zbm) (pv 8) zaj (fun _ _=>rfl)) (zab (zbb (show IxR _ (rIxL K) from zbm) (pv 8) (zli zhq zaj) (fun _ _=>rfl)) zae))) zae)))) (pgn 5 zb3.nd) (zad (zdq (zbh hr) (pv 7) (pv 5) (za2 zc0 (zfh (zbh hr) (pv 7) (pv 5) zaj ⟨by rfl,by rfl,by rfl,by rfl⟩) (pv 9)) rfl)
   (zag (zbi (PW.pt (zi5 (zio (zge (zbh hr) (pv 5) (pv 2)) (by with_unfolding_all rfl)) (zgs (zat zk5 (zc2 (zbh hr) (pv 7) (pv 5) (fun _ _=>rfl)) (zaz zh9 (by rfl) Z.Zek Zqi (zab (zc2 (zbh hr) (pv 1) (pv 5) (fun _ _=>rfl)) zae)) (zau _))))) (zag (zas zfo)) zax))))))))
   (zag (zas (zbl zsw (pv 4) (pv 3) (zau _)))))))),fun G ds q hp rt=>?_⟩
 obtain ⟨rows,y,x,least⟩:=q
 obtain ⟨rfl,hl,hrl⟩:=hp
 have hl : rows.length <= 100:=hl
 have hrl : ∀ r∈rows,r.1.length <= 100:=hrl
 have rt : RtD K G H Q (.bl (zmk rows y x least)):=rt
 refine zak (zay zai ?_)
 ((try dsimp only); refine zam ?_)
 refine zak (zu4 (fun k ss=>∃ v5 v6,ss = [.d (.lst (rows.map zba)),.d (wtsD y),.d (decB x),.d (.int least),.d (.int (sumA (zi4 y x) (x.1.take k))),v5,v6,.un,.un,.un]) (zlu (kvs:=dAp .bl x.1 x.2) (zaa rfl) (yaq _ _ _)) ⟨.un,.un,rfl⟩ ?_ ?_)
 ·rintro L' k ss hL hk ⟨v5,v6,rfl⟩
  rw [lenA] at hk
  have hka:=Zhj hk
  generalize x.1[k] = a at hka
  rw [atA D.bl x.1 x.2 hka]
  refine ⟨_,zcu (ds:=[encA a,.bl (x.2 a)]) rfl (zar zan (zar zan zbt)),fun N hN=>?_⟩
  have hs : sumA (zi4 y x) (x.1.take (k + 1)) = sumA (zi4 y x) (x.1.take k) + zi4 y x a:=by rw [Zh8,hka]; exact zn7 ..
  refine za7 (zal (yd8 (zaa rfl).b (zqt (ztc (a:=a) y (zaa rfl) (zaa rfl)).b zai.b).b)) (fun hq=>?_) (fun hq=>?_)
  ·refine zay (zcx (zaa rfl).b (zjv (ztc (a:=a) y (zaa rfl) (zaa rfl)).b).b) (hN _ ⟨.d (encA a),.d (.bl (x.2 a)),?_⟩)
   have e0 : zi4 y x a = absI (wtF y.1 y.2 a):=by unfold zi4; rw [if_pos hq]
   rw [hs,e0]; rfl
  ·refine za0 (hN _ ⟨.d (encA a),.d (.bl (x.2 a)),?_⟩)
   have e0 : zi4 y x a = 0:=by unfold zi4; rw [if_neg (by rw [hq]; decide)]
   rw [hs,e0,Zo8]; rfl
 rintro ss ⟨v5,v6,rfl⟩
 rw [lenA,Zif]
 ((try dsimp only); refine zam ?_)
 refine zak (zg5 fun p=>?_)
 ((try dsimp only); refine zam ?_)
 refine zak (zdg zba rows (fun k ss=>zhr x y rows u0 = zhr x y (rows.drop k) (useL (rows.take k)) /\ ∃ v5 v6 v8 v9,ss = [.d (.lst (rows.map zba)),.d (wtsD y),.d (decB x),.d (.int least),.d (.int (sumA (zi4 y x) x.1 + sumR (rows.take k))),v5,v6,dslT K p (dAp .int (useL (rows.take k)).1 (useL (rows.take k)).2),v8,v9]) (zaa rfl) ⟨rfl,v5,v6,.un,.un,by simp [sumR,useL,u0,dA]⟩ ?_ ?_)
 ·rintro L' k q ss hL hk ⟨heq,v5,v6,v8,v9,rfl⟩
  obtain ⟨r,am⟩:=q
  have hq : (r,am)∈rows:=Zhs hk
  have hr1 : r.length <= 100:=hrl _ hq
  have hkl : k < rows.length:=(Zhn.mp hk).1
  have hul : (useL (rows.take k)).1.length <= 10100:=by
   have:=zy1 (rows.take k) fun q hq=>hrl q (Zke hq)
   rw [Zin] at this
   omega
  have hal:=zus r
  have ht : rows.take (k + 1) = rows.take k++[(r,am)]:=by rw [Zh8,hk]; rfl
  rw [zwi hk] at heq
  have heq : zhr x y rows u0 = ((decide (1 <= am) && zg4 r y x false) && (ze7 x y am (allR r) (useL (rows.take k)) && zhr x y (rows.drop (k + 1)) ((allR r).foldl (addU am) (useL (rows.take k))))):=heq
  refine ⟨_,zcu (ds:=[.lst (r.map encN),.int am]) rfl (zar zan (zar zan zbt)),fun N hN=>?_⟩
  refine zak (za7 (b:=decide (am < 1) || !zg4 r y x false) (zg8 (zal (zqt (zaa rfl).b zai.b)) fun _=>zft (zal (za1 (pre:=ybj) (res:=yb3) (r,y,x,false) (zac (zaa rfl) (zac (zaa rfl) (zac (zaa rfl) (zac zgl zaf)))) ⟨rfl,(by show r.length <= 1000; omega)⟩))) (fun hb=>?_) (fun hb=>?_))
  ·refine zaw zgl ?_
   have : zmk rows y x least = false:=by
    have : zhr x y rows u0 = false:=by
     rw [heq]
     simp only [Zle,decide_eq_true_eq,Zje] at hb
     rcases hb with hb | hb
     ·rw [decide_eq_false (by omega)]; rfl
     ·rw [hb]; simp
    unfold zmk; rw [this]; rfl
   rw [this] at rt; exact rt
  simp only [Zkt,decide_eq_false_iff_not,Zjn] at hb
  obtain ⟨hb1,hb2⟩:=hb
  have hrn : r≠[]:=fun z=>by subst z; simp [zg4,zcr] at hb2
  rw [decide_eq_true (show 1 <= am by omega),hb2,Zkk,Ziy] at heq
  ((try dsimp only); refine zam ?_)
  refine zak (zay (zcx (zaa rfl).b (zaa rfl).b) ?_)
  ((try dsimp only); refine zam ?_)
  have hcat : (allR r).map encA = (zbj r).map encA++[encA (gapR r)]:=by unfold allR; rw [Zh4]; rfl
  refine zdg encA (allR r) (fun j ss=>ze7 x y am (allR r) (useL (rows.take k)) = ze7 x y am ((allR r).drop j) (((allR r).take j).foldl (addU am) (useL (rows.take k))) /\ ∃ v5,ss = [.d (.lst (rows.map zba)),.d (wtsD y),.d (decB x),.d (.int least),.d (.int (sumA (zi4 y x) x.1 + sumR (rows.take k) + am)),v5,v6,dslT K p (dAp .int (((allR r).take j).foldl (addU am) (useL (rows.take k))).1 (((allR r).take j).foldl (addU am) (useL (rows.take k))).2),.d (.lst (r.map encN)),.d (.int am)]) (by
   rw [hcat]
   exact EvO.ev (zfp (EvO.l (zms (i:=8) rfl (by omega) hrn)) (EvO.l (zbe (zac (zup (i:=8) rfl hrn) zaf) (small (by simp)))) (by rw [Zh2,Zhk,ze0]; simp; omega))) ⟨rfl,v5,rfl⟩ ?_ ?_
  ·rintro L2 j a ss hL2 hj ⟨hpe,v5,rfl⟩
   have ham : a∈allR r:=Zhs hj
   have hjl : j < (allR r).length:=(Zhn.mp hj).1
   have hl2:=zjb am ((allR r).take j) (useL (rows.take k))
   rw [Zin] at hl2
   have et : (allR r).take (j + 1) = (allR r).take j++[a]:=by rw [Zh8,hj]; rfl
   have ef : ((allR r).take (j + 1)).foldl (addU am) (useL (rows.take k)) = addU am (((allR r).take j).foldl (addU am) (useL (rows.take k))) a:=by rw [et,Zjl]; rfl
   rw [zwi hj] at hpe
   rw [ef]
   generalize ((allR r).take j).foldl (addU am) (useL (rows.take k)) = u at hpe hl2
   have hpe : ze7 x y am (allR r) (useL (rows.take k)) = (!(!decide (a∈x.1) && decide (absI (wtF y.1 y.2 a) < wtF u.1 u.2 a + am)) && ze7 x y am ((allR r).drop (j + 1)) (addU am u a)):=hpe
   refine ⟨_,zan,fun N2 hN2=>?_⟩
   refine zak (zd8 (d:=.int (wtF u.1 u.2 a + am)) rfl (zcx (by rw [<- getA]; exact (zpk rfl (zaa rfl) zai rfl rfl).b) (zaa rfl).b) (zaa rfl) rfl rfl (by rw [Zh2,lenA]; omega) ?_)
   have hput:=zqw D.int u.1 u.2 a (wtF u.1 u.2 a + am)
   have hd : dslT K p (putD (dAp .int u.1 u.2) (.tup [.int a.1,.int a.2]) (.int (wtF u.1 u.2 a + am))) = dslT K p (dAp .int (addU am u a).1 (addU am u a).2):=by
    rw [show D.tup [.int a.1,.int a.2] = encA a from rfl,hput]; rfl
   rw [hd]
   ((try dsimp only); refine zam ?_)
   refine za7 (b:=!decide (a∈x.1) && decide (absI (wtF y.1 y.2 a) < wtF u.1 u.2 a + am)) (zgt (zki (yb0 (a:=a) x (zaa rfl) (zaa rfl))) fun hx=>zal (by
    rw [Zje,decide_eq_false_iff_not] at hx
    have hay:=zz9 hb2 ham hx
    have hw : wtF y.1 y.2 a = y.2 a:=if_pos hay
    rw [hw,<- (znf am u a).2]
    exact zlo (zra (kvs:=dAp .int (addU am u a).1 (addU am u a).2) rfl (zaa (d:=encA a) rfl) rfl rfl (by rw [show D.tup [.int a.1,.int a.2] = encA a from rfl,valA,if_pos (znf am u a).1])).b (zjv (zl8 (kvs:=dAp .int y.1 y.2) (zaa rfl) (zaa (d:=encA a) rfl) rfl rfl (by rw [show D.tup [.int a.1,.int a.2] = encA a from rfl,valA,if_pos hay])).b).b)) (fun hc=>?_) (fun hc=>?_)
   ·refine zaw zgl ?_
    have : zmk rows y x least = false:=by unfold zmk; rw [heq,hpe,hc]; rfl
    rw [this] at rt; exact rt
   ·refine za0 (hN2 _ ⟨by rw [hpe,hc]; rfl,.d (encA a),rfl⟩)
  ·rintro ss ⟨hpe,v5,rfl⟩
   rw [Zo5,Zif] at hpe
   have hpe : ze7 x y am (allR r) (useL (rows.take k)) = true:=hpe
   rw [hpe,Ziy] at heq
   refine hN _ ⟨by rw [heq,ht,zov],v5,v6,.d (.lst (r.map encN)),.d (.int am),?_⟩
   rw [Zif,ht,zov,zog,Zt1]
 rintro ss ⟨heq,v5,v6,v8,v9,rfl⟩
 rw [Zo5] at heq
 have heq : zhr x y rows u0 = true:=heq
 rw [Zif]
 ((try dsimp only); refine zam ?_)
 unfold zmk at rt
 rw [heq,Ziy] at rt
 exact zaw (ztq (zaa rfl).b (zaa rfl).b) rt
theorem zmg (Z : Tx K mg ad0) : FnOk P w K mg base CX0 1 ad0.Za8 ad0.Zba zdl (SpG K zxc fun as=>decB (decP as)):=by
 refine okG Z.Zcm.F zfq (by rintro q ds ⟨rfl,_⟩; rfl) fun cdv A outer s H Q E hr=>⟨_,(zad (psn 1 zfq.nd zgp)
   (zad (zbo Zh7 rfl (zbc (pv 0)) (pgn 2 zfq.nd) (zag (zdq (zbh hr) (pv 1) (pv 2) zfo rfl)))
   (zag (zj9 (zas (pv 1)))))),fun G ds as hp rt=>?_⟩
 obtain ⟨rfl,hn,hl⟩:=hp
 refine zak (zg5 fun p=>?_)
 ((try dsimp only); refine zam ?_)
 refine zak (zdg encA as (fun k ss=>∃ v2,ss = [.d (.lst (as.map encA)),dslT K p (dAp .bl (as.take k) (fun _=>false)),v2]) (zaa rfl) ⟨.un,rfl⟩ ?_ ?_)
 ·rintro L' k a ss hL hk ⟨v2,rfl⟩
  refine ⟨_,zan,fun N hN=>?_⟩
  refine zd8 (d:=.bl false) rfl zgl (zaa rfl) rfl rfl (by rw [Zh2,lenA,Zin]; omega) (hN _ ⟨.d (encA a),?_⟩)
  have e : putD (dAp .bl (as.take k) fun _=>false) (encA a) (.bl false) = dAp .bl (as.take (k + 1)) fun _=>false:=by
   rw [Zh8,hk]
   exact zfl (f:=fun _=>false) zcb (zkp hn hk)
  show Zql _ _ (dslT K p (putD _ (encA a) _)) = _
  rw [e]; rfl
 rintro ss ⟨v2,rfl⟩
 rw [Zif]
 ((try dsimp only); refine zam ?_)
 exact zka (i:=1) rfl (zaw (zaa rfl) rt)
theorem zmf (Z : Tx K mg ad0) : FnOk P w K mg base CX0 1 ad0.Zbc ad0.Zbf zdo (SpG K zyh fun ps=>wtsD (wtsP ps)):=by
 refine okG Z.Zck.F zc3 (by rintro q ds ⟨rfl,_⟩; rfl) fun cdv A outer s H Q E hr=>⟨_,(zad (psn 1 zc3.nd zgp)
   (zad (zbo Zh7 rfl (zbc (pv 0)) (zcq rfl (zaq (pgn 2 zc3.nd) (zaq (pgn 3 zc3.nd) (zaq (pgn 4 zc3.nd) zbs)))) (zag (zdq (zbh hr) (pv 1) (za3 (zab (pv 2) (zab (pv 3) zae))) (pv 4) rfl)))
   (zag (zj9 (zas (pv 1)))))),fun G ds ps hp rt=>?_⟩
 obtain ⟨rfl,hn,hl⟩:=hp
 refine zak (zg5 fun p=>?_)
 ((try dsimp only); refine zam ?_)
 refine zak (zdg encP ps (fun k ss=>∃ v2 v3 v4,ss = [.d (.lst (ps.map encP)),dslT K p (dAp .int ((ps.take k).map keyP) (wOf ps)),v2,v3,v4]) (zaa rfl) ⟨.un,.un,.un,rfl⟩ ?_ ?_)
 ·rintro L' k q ss hL hk ⟨v2,v3,v4,rfl⟩
  refine ⟨_,zcu rfl (zar zan (zar zan (zar zan zbt))),fun N hN=>?_⟩
  refine zd8 (ds:=[.int q.1,.int q.2.1]) (d:=.int q.2.2) rfl (zaa rfl) (zbk (zac (zaa rfl) (zac (zaa rfl) zaf)) (small (by simp))) rfl rfl (by rw [Zh2,lenA,Zhk,Zin]; omega) (hN _ ⟨.d (.int q.1),.d (.int q.2.1),.d (.int q.2.2),?_⟩)
  have hq:=Zhs hk
  have hnt : keyP q ∉ (ps.take k).map keyP:=by
   rw [Zmh]
   exact zkp hn (by rw [Zho,hk]; rfl)
  have e : putD (dAp .int ((ps.take k).map keyP) (wOf ps)) (encA (keyP q)) (.int q.2.2) = dAp .int ((ps.take (k + 1)).map keyP) (wOf ps):=by
   rw [Zh8,hk,Zh4,<- zw2 hn hq]
   exact zfl (f:=wOf ps) zcb hnt
  show Zql _ _ (dslT K p (putD _ (encA (keyP q)) _)) = _
  rw [e]; rfl
 rintro ss ⟨v2,v3,v4,rfl⟩
 rw [Zif]
 ((try dsimp only); refine zam ?_)
 exact zka (i:=1) rfl (zaw (zaa rfl) rt)
theorem zq8 {r : List Nat} (h : r.Nodup) {i j : Nat} (hi : i < r.length) (hj : j < r.length) (e : r.getD i 0 = r.getD j 0) : i = j:=by
 rw [Zhh,Zhh,Zhj hi,Zhj hj] at e
 exact (Zne h).mp e
theorem ztu {r : List Nat} (h : zcr r = true) {a : Apt} (ha : a∈zbj r) : a≠gapR r:=by
 unfold zcr at h
 rw [Zib,decide_eq_true_eq,decide_eq_true_eq] at h
 obtain ⟨h3,hn⟩:=h
 unfold zbj at ha
 obtain ⟨k,hk,rfl⟩:=Zh3.mp ha
 have hk:=Zia.mp hk
 intro e
 unfold gapR prF at e
 have e1:=congrArg Zvq e
 have e2:=congrArg Zs1 e
 simp only at e1 e2
 have : (r.getD k 0 = r.getD 0 0/\r.getD (k + 1) 0 = r.getD (r.length - 1) 0) \/ (r.getD k 0 = r.getD (r.length - 1) 0/\r.getD (k + 1) 0 = r.getD 0 0):=by omega
 rcases this with ⟨h1,h2⟩ | ⟨h1,h2⟩
 ·have:=zq8 hn (by omega) (by omega) h1
  have:=zq8 hn (by omega) (by omega) h2
  omega
 ·have:=zq8 hn (by omega) (by omega) h1
  have:=zq8 hn (by omega) (by omega) h2
  omega
theorem zut {α : Type} {f g : α->Bool} : ∀ {l : List α},(∀ a∈l,f a = g a)->l.all f = l.all g
 | [],_=>rfl
 | a::l,h=>by rw [Zki,Zki,h a Zhx,zut fun b hb=>h b (Zhv _ hb)]
theorem zo8 {r : List Nat} {m : Nat} (y : Wts) (x : Dec) (hm : ∀ k∈r,k < m) : ziu r m y x = zg4 r y x false:=by
 unfold ziu zg4
 have h1 : (r.all fun k=>decide (k < m)) = true:=Zi5.mpr fun k hk=>decide_eq_true (hm k hk)
 rw [h1,Zkk]
 cases hr : zcr r with
 | false=>rfl
 | true =>
  rw [Ziy,Ziy,Zmi]
  have h2 : (!decide (zbw r x = [])) = decide ((zbw r x).length > 0):=by
   cases zbw r x <;> simp
  have h3 : (zbj r).all (zjm x y) = (zbj r).all (zdh r y x false):=by
   refine zut fun a ha=>?_
   have hg:=ztu hr ha
   unfold zjm zdh zgn
   rw [decide_eq_false hg]
   by_cases hx : a∈x.1
   ·rw [if_pos hx,decide_eq_true hx]; cases x.2 a <;> simp
   ·rw [if_neg hx,decide_eq_false hx]
    simp
  have h4 : zu8 x y (gapR r) = zdh r y x false (gapR r):=by
   unfold zu8 zdh zgn
   by_cases hx : gapR r∈x.1
   ·rw [if_pos hx,decide_eq_true hx]; cases x.2 (gapR r) <;> simp
   ·rw [if_neg hx,decide_eq_false hx]
    simp only [Zmx,Zmi,Zp5,Ziy,decide_true,Zoo,Zs9]
    rw [<- decide_not]
    exact decide_eq_decide.mpr (by omega)
  rw [h2,h3,h4]
  unfold allR
  rw [Zmo,Zki,Zoz,Zkk,Bool.and_comm]
theorem zwr (v : Int) (u : Usd) (a b : Apt) : wtF (addU v u a).1 (addU v u a).2 b = wtF u.1 u.2 b + if b = a then v else 0:=by
 by_cases h : b = a
 ·subst h
  rw [if_pos rfl]
  unfold wtF
  rw [if_pos (znf v u b).1,(znf v u b).2]
  rfl
 ·rw [if_neg h,Zo8]
  unfold wtF
  have h1 : (b∈(addU v u a).1) ↔ b∈u.1:=by
   show b∈(if a∈u.1 then u.1 else u.1++[a]) ↔ _
   split
   ·exact Zst
   ·simp [h]
  have h2 : (addU v u a).2 b = u.2 b:=if_neg h
  by_cases hb : b∈u.1
  ·rw [if_pos (h1.mpr hb),if_pos hb,h2]
  ·rw [if_neg (fun z=>hb (h1.mp z)),if_neg hb]
theorem zn5 (v : Int) : ∀ (as : List Apt) (u : Usd) (b : Apt),wtF (as.foldl (addU v) u).1 (as.foldl (addU v) u).2 b = wtF u.1 u.2 b + (as.count b : Nat) * v
 | [],u,b=>by simp
 | a::as,u,b=>by
  rw [Zkw,zn5 v as,zwr,Zpj]
  by_cases h : b = a
  ·subst h; simp [Zpx]; omega
  ·rw [if_neg h,if_neg (by simpa using Zi4 h)]; simp
theorem zk9 {x : Dec} {y : Wts} {v : Int} (hv : 1 <= v) : ∀ (as : List Apt) (u : Usd),ze7 x y v as u = true ↔ ∀ a∈as,a ∉ x.1->wtF u.1 u.2 a + (as.count a : Nat) * v <= absI (wtF y.1 y.2 a)
 | [],u=>by simp [ze7]
 | b::as,u=>by
  rw [ze7,Zib,zk9 hv as]
  constructor
  ·rintro ⟨h1,h2⟩ a ha hx
   by_cases hin : a∈as
   ·have:=h2 a hin hx
    rw [zwr] at this
    rw [Zpj]
    by_cases hab : a = b
    ·subst hab; simp [Zpx] at this ⊢; omega
    ·rw [if_neg hab] at this; rw [if_neg (by simpa using Zi4 hab)]; simpa using this
   ·have hab : a = b:=(Zie.mp ha).resolve_right hin
    subst hab
    rw [Zrb,Zru.mpr hin]
    simp [hx] at h1
    simp
    omega
  ·intro h
   refine ⟨?_,fun a ha hx=>?_⟩
   ·by_cases hx : b∈x.1
    ·simp [hx]
    ·have:=h b Zhx hx
     rw [Zrb] at this
     have hc : (0 : Int) <= (as.count b : Nat) * v:=Zs7 (by omega) (by omega)
     simp [hx]
     simp [Zpx] at this
     omega
   ·have:=h a (Zhv _ ha) hx
    rw [zwr]
    rw [Zpj] at this
    by_cases hab : a = b
    ·subst hab; simp [Zpx] at this ⊢; omega
    ·rw [if_neg hab]; rw [if_neg (by simpa using Zi4 hab)] at this; simpa using this
noncomputable def totR (P : Row->List Apt) (rows : List Row) (a : Apt) : Int:=rows.foldr (fun q s=>((P q).count a : Nat) * q.2 + s) 0
theorem zh3 (P : Row->List Apt) (q : Row) (rows : List Row) (a : Apt) : totR P (q::rows) a = ((P q).count a : Nat) * q.2 + totR P rows a:=rfl
theorem zmu (P : Row->List Apt) (a : Apt) : ∀ (rows : List Row),(∀ p∈rows,1 <= p.2)->0 <= totR P rows a
 | [],_=>Zof _
 | p::rows,h=>by
  rw [zh3]
  have h1:=zmu P a rows fun p hp=>h p (Zhv _ hp)
  have h2:=h p Zhx
  have h3 : (0 : Int) <= ((P p).count a : Nat) * p.2:=Zs7 (by omega) (by omega)
  omega
theorem zsl (P : Row->List Apt) (a : Apt) : ∀ (rows : List Row),(¬ ∃ p∈rows,a∈P p)->totR P rows a = 0
 | [],_=>rfl
 | p::rows,h=>by
  rw [zh3,zsl P a rows fun ⟨p',hp',ha'⟩=>h ⟨p',Zhv _ hp',ha'⟩,Zru.mpr fun z=>h ⟨p,Zhx,z⟩]
  simp
theorem zrf {x : Dec} {y : Wts} : ∀ (rows : List Row) (u : Usd), zhr x y rows u = true ↔ (∀ q ∈ rows, 1 <= q.2 /\ zg4 q.1 y x false = true) /\ ∀ a, a ∉ x.1 -> (∃ q ∈ rows, a ∈ allR q.1) -> wtF u.1 u.2 a + totR (fun q => allR q.1) rows a <= absI (wtF y.1 y.2 a)
 | [],u=>by simp [zhr]
 | q::rows,u=>by
  rw [zhr,Zib,Zib,Zib,decide_eq_true_eq,zrf rows]
  have htot:=zh3 (fun q=>allR q.1) q rows
  constructor
  ·rintro ⟨⟨h1,h2⟩,h3,h4,h5⟩
   rw [zk9 h1] at h3
   refine ⟨fun p hp=>?_,fun a hx hq=>?_⟩
   ·rcases Zie.mp hp with z | z
    ·rw [z]; exact ⟨h1,h2⟩
    ·exact h4 p z
   ·rw [htot]
    by_cases hr : ∃ p∈rows,a∈allR p.1
    ·have:=h5 a hx hr
     rw [zn5] at this
     omega
    ·obtain ⟨p,hp,ha⟩:=hq
     have ha : a∈allR q.1:=by
      rcases Zie.mp hp with z | z
      ·rw [<- z]; exact ha
      ·exact absurd ⟨p,z,ha⟩ hr
     have h0:=zsl (fun q=>allR q.1) a rows hr
     have:=h3 a ha hx
     omega
  ·rintro ⟨h1,h2⟩
   obtain ⟨h3,h4⟩:=h1 q Zhx
   have h5 : ∀ p∈rows,1 <= p.2/\zg4 p.1 y x false = true:=fun p hp=>h1 p (Zhv _ hp)
   refine ⟨⟨h3,h4⟩,(zk9 h3 _ _).mpr fun a ha hx=>?_,h5,fun a hx hq=>?_⟩
   ·have:=h2 a hx ⟨q,Zhx,ha⟩
    rw [htot] at this
    have:=zmu (fun q=>allR q.1) a rows fun p hp=>(h5 p hp).1
    omega
   ·obtain ⟨p,hp,ha⟩:=hq
    have:=h2 a hx ⟨p,Zhv _ hp,ha⟩
    rw [htot] at this
    rw [zn5]
    omega
theorem zzc (x : Dec) : ∀ (rows : List Row) (u : Usd) (a : Apt),wtF (rows.foldl (fun u q=>(zbw q.1 x).foldl (addU q.2) u) u).1 (rows.foldl (fun u q=>(zbw q.1 x).foldl (addU q.2) u) u).2 a = wtF u.1 u.2 a + totR (fun q=>zbw q.1 x) rows a
 | [],u,a=>by simp [totR]
 | q::rows,u,a=>by
  rw [Zkw,zzc x rows,zn5,zh3]
  omega
theorem znv (x : Dec) {a : Apt} (hx : a ∉ x.1) : ∀ (rows : List Row),totR (fun q=>zbw q.1 x) rows a = totR (fun q=>allR q.1) rows a
 | []=>rfl
 | q::rows=>by
  rw [zh3,zh3,znv x hx rows]
  have : (zbw q.1 x).count a = (allR q.1).count a:=by
   unfold zbw
   exact List.count_filter (by simp [hx])
  simp only [this]
theorem zr6 (r : List Nat) (x : Dec) (a : Apt) : a∈zbw r x ↔ a∈allR r/\a ∉ x.1:=by
 unfold zbw allR
 rw [Zh0]
 simp
theorem zu2 {rows : List Row} {m : Nat} {y : Wts} {x : Dec} {least : Int} (hm : ∀ q∈rows,∀ k∈q.1,k < m) : zn1 rows m y x least = zmk rows y x least:=by
 unfold zn1 zmk
 have hloss : zpd y x = sumA (zi4 y x) x.1:=(zsu (zvm y x) x.1).symm
 rw [hloss,<- Zp7]
 congr 1
 rw [Zil,Zib,zrf,Zi5,Zi5]
 have h0 : ∀ a,wtF u0.1 u0.2 a = 0:=fun a=>if_neg (by simp [u0])
 have huse : ∀ a,a∈(useR x rows).1->(useR x rows).2 a = totR (fun q=>zbw q.1 x) rows a:=fun a ha=>by
  have h1 : wtF (useR x rows).1 (useR x rows).2 a = (useR x rows).2 a:=if_pos ha
  have h2:=zzc x rows u0 a
  have h3 : wtF (useR x rows).1 (useR x rows).2 a = wtF u0.1 u0.2 a + totR (fun q=>zbw q.1 x) rows a:=h2
  rw [<- h1,h3,h0,Zo7]
 constructor
 ·rintro ⟨h1,h2⟩
  refine ⟨fun q hq=>?_,fun a hx hq=>?_⟩
  ·have:=h1 q hq
   unfold znl at this
   rw [Zib,decide_eq_true_eq,zo8 y x (hm q hq)] at this
   exact this
  ·obtain ⟨q,hq,ha⟩:=hq
   have hk : a∈(useR x rows).1:=(zk2 x rows a).mpr ⟨q,hq,(zr6 _ _ _).mpr ⟨ha,hx⟩⟩
   have:=h2 a hk
   rw [decide_eq_true_eq,huse a hk,znv x hx] at this
   rw [h0,Zo7]; exact this
 ·rintro ⟨h1,h2⟩
  refine ⟨fun q hq=>?_,fun a ha=>?_⟩
  ·unfold znl
   rw [Zib,decide_eq_true_eq,zo8 y x (hm q hq)]
   exact h1 q hq
  ·obtain ⟨q,hq,hao⟩:=(zk2 x rows a).mp ha
   obtain ⟨haa,hx⟩:=(zr6 _ _ _).mp hao
   have:=h2 a hx ⟨q,hq,haa⟩
   rw [h0,Zo7] at this
   rw [decide_eq_true_eq,huse a ha,znv x hx]; exact this
noncomputable def zf7 (y : Wts) (least : Int) : Pap->Dec->Bool
 | .nev r,x=>zg4 r y x true
 | .rin rows,x=>zmk rows y x least
 | .cas i j a b,x=>!(decide (i ≥ j) || decide ((i,j)∈x.1)) && (zf7 y least a (putX x (i,j) true) && zf7 y least b (putX x (i,j) false))
noncomputable def zyy (n : Nat) (q : Pap × Wts × Dec × Int) (ds : List D) : Prop:=ds = [zao q.1,wtsD q.2.1,decB q.2.2.1,.int q.2.2.2]/\Fits (q.1,q.2.2.1)/\q.1.dp < n
noncomputable def zx4 (q : Pap × Wts × Dec × Int) : D:=.bl (zf7 q.2.1 q.2.2.2 q.1 q.2.2.1)
theorem zkb (Z : Tx K mg ad0) : ∀ n : Nat,FnOk P w K mg base CX0 (n + 4) ad0.Zce ad0.Zcf zez (SpG K (zyy n) zx4)
 | 0=>⟨fun vs H Q E h=>by obtain ⟨_,_,q,_,_,h,_⟩:=h; exact absurd h.2.2 (Zjd _),fun A outer s H args us vs Q E _ _ _ _ h=>by obtain ⟨_,_,q,_,_,h,_⟩:=h; exact absurd h.2.2 (Zjd _)⟩
 | n + 1=>by
  have Zdo:=zkb Z n
  have Zeq:=zlp (P:=P) (w:=w) (base:=base) Z
  have Zgy:=zp5 (P:=P) (w:=w) (base:=base) Z
  refine okG (k:=n + 4) Z.Zbj.F zfg (by rintro q ds ⟨rfl,_⟩; rfl) fun cdv A outer s H Q E hr=>⟨_,(zad (zbi (zat zcd (zbb (show IxR _ (rIxT K) from zbf) (pv 0) zaj (fun _ _=>rfl)) zcg (zau _)) (zag (zas (pcX (hle:=by omega) Zeq hr Z.Zdk (zab (zbb (show IxR _ (rIxT K) from zbf) (pv 0) zaj (fun _ _=>rfl)) (zab (pv 1) (zab (pv 2) (zab zfo zae))))))) zax)
   (zad (zbi (zat zcd (zbb (show IxR _ (rIxT K) from zbf) (pv 0) zaj (fun _ _=>rfl)) zcg (zau _)) (zag (zas (pcX (hle:=by omega) Zgy hr Z.Zd7 (zab (zbb (show IxR _ (rIxT K) from zbf) (pv 0) zaj (fun _ _=>rfl)) (zab (pv 1) (zab (pv 2) (zab (pv 3) zae))))))) zax)
   (zad (psn 4 zfg.nd (za3 (zab (zbb (show IxR _ (rIxT K) from zbf) (pv 0) zaj (fun _ _=>rfl)) (zab (zbb (show IxR _ (rIxT K) from zbf) (pv 0) zaj (fun _ _=>rfl)) zae))))
   (zad (zbi (PW.pt (zkj (zat zsw (zbb (show IxR _ (rIxT K) from zbf) (pv 4) zaj (fun _ _=>rfl)) (zbb (show IxR _ (rIxT K) from zbf) (pv 4) zaj (fun _ _=>rfl)) (zau _)) (zir (zio (zmp (zbh hr) (pv 4) (pv 2)) (by with_unfolding_all rfl))))) (zag (zas zfo)) zax)
   (zad (psn 5 zfg.nd (zb9 (show zdk _ _ zoj from zj6) (by rfl) Z.Ze0 zp9 (zab (pv 2) zae)))
   (zad (zdq (zbh hr) (pv 5) (pv 4) zfo rfl)
   (zad (psn 6 zfg.nd (zb9 (show zdk _ _ zoj from zj6) (by rfl) Z.Ze0 zp9 (zab (pv 2) zae)))
   (zad (zdq (zbh hr) (pv 6) (pv 4) zfo rfl)
   (zag (zj9 (zj9 (zas (zg9 (pcX (hle:=by omega) Zdo hr Z.Zbj (zab (zbb (show IxR _ (rIxT K) from zbf) (pv 0) zaj (fun _ _=>rfl)) (zab (pv 1) (zab (pv 5) (zab (pv 3) zae))))) (zha (pcX (hle:=by omega) Zdo hr Z.Zbj (zab (zbb (show IxR _ (rIxT K) from zbf) (pv 0) zaj (fun _ _=>rfl)) (zab (pv 1) (zab (pv 6) (zab (pv 3) zae))))))))))))))))))),fun G ds q hp rt=>?_⟩
  obtain ⟨pq,y,x,least⟩:=q
  obtain ⟨rfl,hft,hdp⟩:=hp
  have hft : Fits (pq,x):=hft
  have hdp : pq.dp < n + 1:=hdp
  have rt : RtD K G H Q (.bl (zf7 y least pq x)):=rt
  cases pq with
  | nev r =>
   refine zak (za7 (b:=true) (zal (zeo (l:=zc1) (m:=zc1) (za6 (ds:=[.str zc1,.lst (r.map encN)]) (zaa rfl) zai.b rfl).b (zcm rfl (by decide)).b)) (fun _=>?_) fun h=>by cases h)
   exact zaw (za1 (pre:=ybj) (res:=yb3) (r,y,x,true) (zac (za6 (ds:=[.str zc1,.lst (r.map encN)]) (zaa rfl) zai.b rfl) (zac (zaa rfl) (zac (zaa rfl) (zac zgl zaf)))) ⟨rfl,Zik hft.1 (by decide)⟩) rt
  | rin rows =>
   refine zak (za7 (b:=false) (zal (zeo (l:=zcf) (m:=zc1) (za6 (ds:=[.str zcf,.lst (rows.map zba)]) (zaa rfl) zai.b rfl).b (zcm rfl (by decide)).b)) (fun h=>by cases h) fun _=>?_)
   ((try dsimp only); refine zam ?_)
   refine zak (za7 (b:=true) (zal (zeo (l:=zcf) (m:=zcf) (za6 (ds:=[.str zcf,.lst (rows.map zba)]) (zaa rfl) zai.b rfl).b (zcm rfl (by decide)).b)) (fun _=>?_) fun h=>by cases h)
   exact zaw (za1 (pre:=yco) (res:=ycz) (rows,y,x,least) (zac (za6 (ds:=[.str zcf,.lst (rows.map zba)]) (zaa rfl) zai.b rfl) (zac (zaa rfl) (zac (zaa rfl) (zac (zaa rfl) zaf)))) ⟨rfl,hft.1.1,hft.1.2⟩) rt
  | cas i j a b =>
   obtain ⟨⟨hi,hj,ha,hb'⟩,hdo,hln⟩:=hft
   have hln : x.1.length + (max a.dp b.dp + 1) <= 1000:=hln
   have hdo : zto x:=hdo
   have hdp : max a.dp b.dp + 1 < n + 1:=hdp
   refine zak (za7 (b:=false) (zal (zeo (l:=zdw) (m:=zc1) (za6 (ds:=[.str zdw,encN i,encN j,zao a,zao b]) (zaa rfl) zai.b rfl).b (zcm rfl (by decide)).b)) (fun h=>by cases h) fun _=>?_)
   ((try dsimp only); refine zam ?_)
   refine zak (za7 (b:=false) (zal (zeo (l:=zdw) (m:=zcf) (za6 (ds:=[.str zdw,encN i,encN j,zao a,zao b]) (zaa rfl) zai.b rfl).b (zcm rfl (by decide)).b)) (fun h=>by cases h) fun _=>?_)
   ((try dsimp only); refine zam ?_)
   refine zak (zay (d:=encA (i,j)) (zbk (ds:=[.int (i : Nat),.int (j : Nat)]) (zac (za6 (ds:=[.str zdw,encN i,encN j,zao a,zao b]) (zaa rfl) zai.b rfl) (zac (za6 (ds:=[.str zdw,encN i,encN j,zao a,zao b]) (zaa rfl) zai.b rfl) zaf)) (small (by simp))) ?_)
   ((try dsimp only); refine zam ?_)
   have hij : decide (((i : Nat) : Int) ≥ ((j : Nat) : Int)) = decide (i ≥ j):=decide_eq_decide.mpr (by omega)
   refine zak (za7 (b:=decide (i ≥ j) || decide ((i,j)∈x.1)) (zg8 (zal (by rw [<- hij]; exact ztq (za6 (ds:=[.int (i : Nat),.int (j : Nat)]) (zaa (d:=encA (i,j)) rfl) zai.b rfl).b (za6 (ds:=[.int (i : Nat),.int (j : Nat)]) (zaa (d:=encA (i,j)) rfl) zai.b rfl).b)) fun _=>zki (zzu (a:=(i,j)) x (zaa rfl) (zaa rfl))) (fun hb=>?_) (fun hb=>?_))
   ·refine zaw zgl ?_
    have : zf7 y least (.cas i j a b) x = false:=by unfold zf7; rw [hb]; rfl
    rw [this] at rt; exact rt
   have e0 : zf7 y least (.cas i j a b) x = (zf7 y least a (putX x (i,j) true) && zf7 y least b (putX x (i,j) false)):=by
    show (!(decide (i ≥ j) || decide ((i,j)∈x.1)) && _) = _
    rw [hb]; rfl
   rw [e0] at rt
   have hnx : (i,j) ∉ x.1:=by
    rw [Zkt,decide_eq_false_iff_not,decide_eq_false_iff_not] at hb
    exact hb.2
   have hl1 : x.1.length <= 1000:=hdo.2.1
   ((try dsimp only); refine zam ?_)
   have hput : ∀ (p : Addr) (c : Bool),dslT K p (putD (dAp .bl x.1 x.2) (.tup [.int (i : Nat),.int (j : Nat)]) (.bl c)) = dslT K p (dAp .bl (putX x (i,j) c).1 (putX x (i,j) c).2):=fun p c=>by
    rw [show D.tup [.int (i : Nat),.int (j : Nat)] = encA (i,j) from rfl,zum (β:=Bool) x hnx c D.bl]
   refine zak (zn4 (kvs:=dAp .bl x.1 x.2) (zaa rfl) (zjq D.bl x.2 hdo.2.2) fun p5=>?_)
   ((try dsimp only); refine zam ?_)
   refine zak (zd8 (i:=5) (d:=.bl true) rfl zgl (zaa (d:=encA (i,j)) rfl) rfl rfl (by rw [Zh2,lenA]; omega) ?_)
   rw [hput]
   ((try dsimp only); refine zam ?_)
   refine zak (zn4 (kvs:=dAp .bl x.1 x.2) (zaa rfl) (zjq D.bl x.2 hdo.2.2) fun p6=>?_)
   ((try dsimp only); refine zam ?_)
   refine zak (zd8 (i:=6) (d:=.bl false) rfl zgl (zaa (d:=encA (i,j)) rfl) rfl rfl (by rw [Zh2,lenA]; omega) ?_)
   rw [hput]
   ((try dsimp only); refine zam ?_)
   refine zka (i:=5) rfl (zka (i:=6) rfl ?_)
   have f1 : Fits (a,putX x (i,j) true):=⟨ha,zrk hdo hnx hi hj (by omega) true,by show (x.1++[(i,j)]).length + a.dp <= 1000; simp; omega⟩
   have f2 : Fits (b,putX x (i,j) false):=⟨hb',zrk hdo hnx hi hj (by omega) false,by show (x.1++[(i,j)]).length + b.dp <= 1000; simp; omega⟩
   exact zaw (zg7 (za1 (pre:=zyy n) (res:=zx4) (a,y,putX x (i,j) true,least) (zac (za6 (ds:=[.str zdw,encN i,encN j,zao a,zao b]) (zaa rfl) zai.b rfl) (zac (zaa rfl) (zac (zaa rfl) (zac (zaa rfl) zaf)))) ⟨rfl,f1,by show a.dp < n; omega⟩) fun _=>za1 (pre:=zyy n) (res:=zx4) (b,y,putX x (i,j) false,least) (zac (za6 (ds:=[.str zdw,encN i,encN j,zao a,zao b]) (zaa rfl) zai.b rfl) (zac (zaa rfl) (zac (zaa rfl) (zac (zaa rfl) zaf)))) ⟨rfl,f2,by show b.dp < n; omega⟩) rt
theorem zs4 {r : List Nat} {m : Nat} (y : Wts) (x : Dec) (hm : ∀ k∈r,k < m) : zjj r m x = zg4 r y x true:=by
 unfold zjj zg4
 have h1 : (r.all fun k=>decide (k < m)) = true:=Zi5.mpr fun k hk=>decide_eq_true (hm k hk)
 rw [h1,Zkk]
 cases hr : zcr r with
 | false=>rfl
 | true =>
  rw [Ziy,Ziy,Zt5,Zkk]
  have h3 : (zbj r).all (zil x) = (zbj r).all (zdh r y x true):=by
   refine zut fun a ha=>?_
   have hg:=ztu hr ha
   unfold zil zdh
   rw [decide_eq_false hg]
   by_cases hx : a∈x.1
   ·rw [if_pos hx,decide_eq_true hx]; cases x.2 a <;> simp
   ·rw [if_neg hx,decide_eq_false hx]; rfl
  have h4 : zgn x (gapR r) = zdh r y x true (gapR r):=by
   unfold zgn zdh
   by_cases hx : gapR r∈x.1
   ·rw [if_pos hx,decide_eq_true hx]; cases x.2 (gapR r) <;> simp
   ·rw [if_neg hx,decide_eq_false hx]; rfl
  rw [h3,h4]
  unfold allR
  rw [Zmo,Zki,Zoz,Zkk]
theorem zj0 {m : Nat} {y : Wts} {least : Int} : ∀ (p : Pap) (x : Dec),zqv m p->zih m y least p x = zf7 y least p x
 | .nev r,x,h=>zs4 y x h
 | .rin rows,x,h=>zu2 h
 | .cas i j a b,x,⟨hi,hj,ha,hb⟩=>by
  unfold zih zf7
  rw [zj0 a _ ha,zj0 b _ hb]
  congr 1
  unfold mayD
  have e : decide (i < j) = !decide (i ≥ j):=by rw [<- decide_not]; exact decide_eq_decide.mpr (by omega)
  rw [decide_eq_true hi,decide_eq_true hj,Ziy,Ziy,Bool.not_or,e]
noncomputable def zph (ns : List Int) (k : Int) : Int:=ns.getD k.toNat 0
theorem zp8 (ns : List Int) (k : Int) : zfw [.lst (ns.map .int),.int k] = .int (zph ns k):=by
 show (ns.map D.int).getD k.toNat (.int 0) = _
 unfold zph
 rw [Zhh,Zhh,Zho]
 cases ns[k.toNat]? <;> rfl
theorem zwt {G H₀ L : Hp} {ss : List Sl} {i : Nat} {tk : TE} {E : XK} {ns : List Int} {k : Int} (h : ss[i]? = some (.d (.lst (ns.map .int)))) (e : Ev K G H₀ L ss tk (.int k)) (hk : 0 <= k) : Ev K G H₀ L ss (zhd (SpD K znx zfw) [] E (za5 (tVar i) (za5 tk tNil))) (.int (zph ns k)):=by
 rw [<- zp8]
 exact zb4 (pre:=znx) (res:=zfw) (zac (zaa h) (zac e zaf)) ⟨ns,k,rfl,hk⟩
noncomputable def zxm (K : Zhi) (T0 : Addr) : Sp:=fun vs H Q _=>∃ (a : Addr) (ns : List Int),vs = [.ref a]/\SqL K H a (ns.map V.int)/\ns.length <= 63/\HasT H T0 lamP lamQ /\ ∀ H',Same H H'->Q (.bl true) H'
theorem zou {K : Zhi} {H : Hp} : ∀ ns : List Int,Reps K H (ns.map D.int) (ns.map V.int)
 | []=>Reps.nil
 | n::ns=>Reps.cons Rep.int (zou ns)
theorem ybs {m n : Nat} {p : Pap} {as : List Apt} (hm : m <= 7) (hn : n <= 100) (h : PB m 21 n p) (ha : as.Nodup) (hl : as.length <= 100) (hg : ∀ a∈as,a.1 < a.2/\a.2 < m) : Fits (p,decP as)/\p.sz <= 10000000:=by
 have hd:=h.2.2
 refine ⟨⟨h.1.ok hn,⟨ha,by show as.length <= 1000; omega,fun a hm'=>by have:=hg a hm'; omega⟩,by show as.length + p.dp <= 1000; omega⟩,?_⟩
 have h1:=yau p
 have h2 : 2 ^ (p.dp + 1) <= 2 ^ 22:=Zn0 (by decide) (by omega)
 have h3 : (2 : Nat) ^ 22 = 4194304:=by decide
 omega
theorem yef {T0 : Addr} (Z : Tx K mg ad0) (Y : LamAt base mg ad0.Zaa T0) : FnOk P w K mg base CX0 90 ad0.Zf5 ad0.Zfj zws (zxm K T0):=by
 have Zcl:=zin (P:=P) (w:=w) (base:=base) Z
 have Zg2:=zp6 (P:=P) (w:=w) (base:=base) Z
 have Zfx:=zmf (P:=P) (w:=w) (base:=base) Z
 have Zfy:=zmg (P:=P) (w:=w) (base:=base) Z
 have Zdo:=zkb (P:=P) (w:=w) (base:=base) Z 22
 have Zbg:=zij (P:=P) (w:=w) (base:=base) Z 22
 have Zg4:=zq3 (P:=P) (w:=w) (base:=base) Z
 have Ze2:=zmm (P:=P) (w:=w) (base:=base) Z Y
 have Zg3:=zqc (P:=P) (w:=w) (base:=base) Z Y
 refine Z.Zff.F.ok zf4 (fun vs H Q E h=>by obtain ⟨a,ns,rfl,_⟩:=h; rfl) (fun cdv A outer s H vs Q E hr h=>⟨_,(zad (psn 1 zf4.nd (za2 zc0 zaj (za2 zcz (pcX Zcl hr Z.Zam (zab (pv 0) (zab zaj zae))) zaj)))
   (zad (zue (pcX Zg2 hr Z.Zd6 (zab (pv 0) (zab (pv 1) (zab zaj zae)))) (zcq rfl (zaq (pgn 2 zf4.nd) (zaq (pgn 3 zf4.nd) zbs))))
   (zad (psn 4 zf4.nd (pcX Zfx hr Z.Zck (zab (pv 2) zae)))
   (zad (psn 5 zf4.nd (pcX Zg3 hr Z.Zd9 (zab (pv 1) (zab (zb9 zdj (by rfl) Z.Zbu Zm2 (zab (pv 2) zae)) (zab (zb9 zdj (by rfl) Z.Zbu Zm2 (zab (pv 3) zae)) zae)))))
   (zad (psn 6 zf4.nd (zbb (show IxR _ (rIxT K) from zbf) (pcX Ze2 hr Z.Zd4 (zab (pv 1) (zab (zb9 zdj (by rfl) Z.Zbu Zm2 (zab (pv 2) zae)) (zab (zb9 zdj (by rfl) Z.Zbu Zm2 (zab (pv 3) zae)) zae)))) zaj (fun _ _=>rfl)))
   (zad (psn 7 zf4.nd (zbg (zab (pv 5) zae)))
   (zad (zbo Zh7 rfl (zbc (zev zgr (pv 0) (zfs zaj) (zfs zaj))) (pgn 8 zf4.nd) (zad (ze9 (zhu Zir Zjc Zjh zce (pv 7) (zab (pcX Zbg hr Z.Zah (zab (pv 5) (zab (pv 1) (zab (pv 8) zae)))) zae)))
   (zag (zbi (zat zcd (za2 zcz (za2 zej (pv 8) zaj) zaj) zaj (zau _)) (zag (ze9 (zhu Zir Zjc Zjh zce (pv 7) (zab (pcX Zbg hr Z.Zah (zab (zbb (show IxR _ (rIxL K) from zbm) (pv 7) (zli zhq zaj) (fun _ _=>rfl)) (zab (pv 1) (zab (za2 zej (pv 8) zaj) zae)))) zae)))) zax))))
   (zad (zbo Zh7 rfl (zfi (by rfl) Z.Zbl (zab (pv 7) zae)) (zcq rfl (zaq (pgn 9 zf4.nd) (zaq (pgn 10 zf4.nd) zbs))) (zad (psn 11 zf4.nd (za2 zwn (za2 zc0 (pv 6) (za2 zcz (za2 zej (pcX Zcl hr Z.Zam (zab (pv 0) (zab (za2 zc0 zaj (pv 9)) zae))) zaj) zaj)) zaj))
   (zad (psn 12 zf4.nd (pcX Zg4 hr Z.Zd8 (zab (pv 10) (zab (pv 1) (zab (zb9 zdj (by rfl) Z.Zbu Zm2 (zab (pv 2) zae)) (zab (zb9 zdj (by rfl) Z.Zbu Zm2 (zab (pv 3) zae)) (zab (pv 11) zae)))))))
   (zag (zbi (PW.pt (zkj (zii (zgi (zaz zjh (by rfl) Z.Zbx Zqv (zab (pv 12) (zab (zqd (v:=.ty "bool") (by rfl) Z.Zfl boot_bool rfl) zae))))) (zir (zat zqb (pv 12) (pcX Zdo hr Z.Zbj (zab (pv 10) (zab (pv 4) (zab (pcX Zfy hr Z.Zcm (zab (pv 3) zae)) (zab (pv 11) zae))))) (zau _))))) (zag (zas zfo)) zax)))))
   (zag (zas zfo)))))))))),?_⟩)
 obtain ⟨a,ns,rfl,sq,hl,hT,hQ⟩:=h
 have r0 : Reps K H [.lst (ns.map .int)] [.ref a]:=Reps.cons (Rep.lst sq (zou ns)) Reps.nil
 have rt : RtD K H H Q (.bl true):=fun v F H' e r=>by rw [r.of_bl]; exact hQ H' e.hh
 refine (?_ : Go K H H H _ (slots 13 [.lst (ns.map .int)]) _) H H _ (zdr (Same.refl H) r0 (by simp))
 have m0:=Zj2 (zph ns 0) (show (3 : Int)≠0 by decide)
 have m1:=Zjg (zph ns 0) (show (0 : Int) < 3 by decide)
 refine zak (zay (zcx zai.b (zcy (zwt rfl zai (by decide)).b zai.b (by decide)).b) ?_)
 obtain ⟨m,em⟩ : ∃ m : Nat,3 + zph ns 0 % 3 = (m : Int):=⟨(3 + zph ns 0 % 3).toNat,by omega⟩
 rw [em]
 have h3 : 3 <= m:=by omega
 have h5 : m <= 5:=by omega
 ((try dsimp only); refine zam ?_)
 refine zak (zxy (pre:=zvc) (R:=zv4) (ds:=[.lst (ns.map .int),.int m,.int 1]) (zac (zaa rfl) (zac (zaa rfl) (zac zai zaf))) ⟨ns,m,1,rfl,by omega,by omega,by decide⟩ fun r hR=>?_)
 obtain ⟨ps,as,rfl,hpl,hal,hg,hpn,han⟩:=hR ns m 1 rfl
 have hpl : ps.length <= 10 * m:=hpl
 have hal : as.length <= 10 * m:=hal
 have hg : zho m ps as:=hg
 have hpn : (ps.map keyP).Nodup:=hpn
 refine ⟨_,zcu rfl (zar zan (zar zan zbt)),?_⟩
 ((try dsimp only); refine zam ?_)
 refine zak (zay (za1 (pre:=zyh) (res:=fun ps=>wtsD (wtsP ps)) ps (zac (zaa rfl) zaf) ⟨rfl,hpn,by omega⟩) ?_)
 ((try dsimp only); refine zam ?_)
 have hO:=yam (m:=m) (by omega) (show ps.length <= 100 by omega) hg
 refine zak (zay (d:=zao (papO m ps as)) (by
  rw [<- zoo]
  exact zsj hT (zac (zaa rfl) (zac (EvO.ev (zic (zaa rfl).l)) (zac (EvO.ev (zic (zaa rfl).l)) zaf))) ⟨m,ps,as,rfl,by omega,by omega,by omega,hg⟩) ?_)
 ((try dsimp only); refine zam ?_)
 refine zak (zay (d:=.int (lossG ps (zfr m ps as))) (za6 (ds:=[.int (lossG ps (zfr m ps as)),encG (zfr m ps as)]) (zrq hT (zac (zaa rfl) (zac (EvO.ev (zic (zaa rfl).l)) (zac (EvO.ev (zic (zaa rfl).l)) zaf))) (by omega) (by omega) (by omega) hg) zai.b rfl) ?_)
 ((try dsimp only); refine zam ?_)
 generalize papO m ps as = p0 at hO
 generalize lossG ps (zfr m ps as) = lst
 refine zak (zdz (ds:=[zao p0]) (zbe (zac (zaa rfl) zaf) (small (by simp))) fun p7=>?_)
 ((try dsimp only); refine zam ?_)
 have exs : L2.cutD (ns.map D.int) (some 14) (some 20) = ((ns.drop 14).take 6).map D.int:=by
  rw [zyd _ (by decide) (by decide),Zmh,Zol]; rfl
 have hxl : ((ns.drop 14).take 6).length <= 6:=by simp; omega
 generalize (ns.drop 14).take 6 = xs at exs hxl
 have hN2 : ∀ {p : Pap},PB m 21 (ps.length + 1) p->PB m 21 (ps.length + 2) p:=fun h=>⟨h.1.mono (by omega),h.2⟩
 refine zak (zdg D.int xs (fun k ss=>∃ (pl : List Pap) (v8 : Sl),(∀ p∈pl,PB m 21 (ps.length + 2) p)/\pl.length <= 1 + 2 * k/\ss = [.d (.lst (ns.map .int)),.d (encN m),.d (.lst (ps.map encP)),.d (.lst (as.map encA)),.d (wtsD (wtsP ps)),.d (zao p0),.d (.int lst),.o p7 (pl.map zao),v8,.un,.un,.un,.un]) (by
  rw [<- exs]
  exact EvO.ev (ziv (zaa rfl).l (zfm zai.b) (zfm zai.b))) ⟨[p0],.un,fun p hp=>by rw [Zhp.mp hp]; exact hN2 ⟨hO.1.mono (by omega),hO.2⟩,by simp,rfl⟩ ?_ ?_)
 ·rintro L' k x ss hL hk ⟨pl,v8,hpp,hpl2,rfl⟩
  refine ⟨_,zan,fun N hN=>?_⟩
  have hk6:=(Zhn.mp hk).1
  have hs1 : PB m 21 (ps.length + 1) (zb5 p0 m x):=zku (by omega) (by omega) hO
  refine zak (zc5 (d:=zao (zb5 p0 m x)) rfl (za1 (pre:=zvk 22) (res:=ztx) (p0,m,x) (zac (zaa rfl) (zac (zaa rfl) (zac (zaa rfl) zaf))) ⟨rfl,by show 0 < m; omega,hO.1.mono (by omega),by have:=hO.2.2; show p0.dp < 22; omega⟩) (by rw [Zh2,Zhk]; omega) ?_)
  ((try dsimp only); refine zam ?_)
  have hpp1 : ∀ p∈pl++[zb5 p0 m x],PB m 21 (ps.length + 2) p:=fun p hp=>by
   rcases Zhw.mp hp with z | z
   ·exact hpp p z
   ·rw [Zhp.mp z]; exact hN2 hs1
  have em1 : pl.map zao++[zao (zb5 p0 m x)] = (pl++[zb5 p0 m x]).map zao:=by rw [Zh4]; rfl
  refine za7 (zal (zb7 (zcy (zel (zaa rfl).b zai.b ⟨by decide,by decide⟩).b zai.b (by decide)).b zai.b)) (fun _=>?_) (fun _=>?_)
  ·refine zc5 (d:=zao (zb5 (zb5 p0 m x) m (x / 28))) rfl (za1 (pre:=zvk 22) (res:=ztx) (zb5 p0 m x,m,x / 28) (zac (zep (ds:=pl.map zao++[zao (zb5 p0 m x)]) (zlj rfl) (ziq (i:=1) zai.b).b (zp3 (by rw [Zh1,Ziw (by simp)]; simp) (by simp))) (zac (zaa rfl) (zac (zel (zaa rfl).b zai.b ⟨by decide,by decide⟩) zaf))) ⟨rfl,by show 0 < m; omega,hs1.1.mono (by omega),by have:=hs1.2.2; show (zb5 p0 m x).dp < 22; omega⟩) (by rw [Zh2]; simp; omega) (hN _ ⟨pl++[zb5 p0 m x]++[zb5 (zb5 p0 m x) m (x / 28)],.d (.int x),fun p hp=>?_,by simp; omega,?_⟩)
   ·rcases Zhw.mp hp with z | z
    ·exact hpp1 p z
    ·rw [Zhp.mp z]; exact zku (by omega) (by omega) hs1
   ·rw [show (pl++[zb5 p0 m x]++[zb5 (zb5 p0 m x) m (x / 28)]).map zao = pl.map zao++[zao (zb5 p0 m x)]++[zao (zb5 (zb5 p0 m x) m (x / 28))] by simp]; rfl
  ·refine za0 (hN _ ⟨pl++[zb5 p0 m x],.d (.int x),hpp1,by simp; omega,?_⟩)
   rw [em1]; rfl
 rintro ss ⟨pl,v8,hpp,hpl2,rfl⟩
 have hpl2 : pl.length <= 1 + 2 * xs.length:=hpl2
 refine zei (i:=7) rfl ?_
 ((try dsimp only); refine zam ?_)
 refine zak (zm0 zao pl (fun k ss=>∃ (v9 v10 v11 v12 : Sl),ss = [.d (.lst (ns.map .int)),.d (encN m),.d (.lst (ps.map encP)),.d (.lst (as.map encA)),.d (wtsD (wtsP ps)),.d (zao p0),.d (.int lst),.d (.lst (pl.map zao)),v8,v9,v10,v11,v12]) (zaa rfl) ⟨.un,.un,.un,.un,rfl⟩ ?_ ?_)
 ·rintro L' k p ss hL hk ⟨v9,v10,v11,v12,rfl⟩
  refine ⟨_,zcu (ds:=[.int (k : Nat),zao p]) rfl (zar zan (zar zan zbt)),fun N hN=>?_⟩
  have hpb:=hpp p (Zhs hk)
  obtain ⟨hfit,hsz⟩:=ybs (by omega) (by omega) hpb han (by omega) hg.2
  refine zak (zay (zwp (zcx (zaa rfl).b (zcy (zel (zwt (k:=14 + (k : Int)) rfl (zcx zai.b (zaa rfl).b) (by omega)).b zai.b ⟨by decide,by decide⟩).b zai.b (by decide)).b).b zai.b) ?_)
  generalize lst + zph ns (14 + (k : Int)) / 5 % 3 - 1 = le
  ((try dsimp only); refine zam ?_)
  refine zak (zay (d:=.bl (zih m (wtsP ps) le p (decP as))) (za1 (pre:=yc8) (res:=yc3) (p,m,ps,as,le) (zac (zaa rfl) (zac (zaa rfl) (zac (EvO.ev (zic (zaa rfl).l)) (zac (EvO.ev (zic (zaa rfl).l)) (zac (zaa rfl) zaf))))) ⟨rfl,⟨hfit,hsz⟩,hpn,by show ps.length <= 1000; omega⟩) ?_)
  ((try dsimp only); refine zam ?_)
  rw [zj0 _ _ hpb.2.1]
  refine za7 (b:=!true || !decide (zf7 (wtsP ps) le p (decP as) = zf7 (wtsP ps) le p (decP as))) (zg8 (zft (zal (ydb (zaa rfl).b))) fun _=>zal (zot (zaa rfl).b (za1 (pre:=zyy 22) (res:=zx4) (p,wtsP ps,decP as,le) (zac (zaa rfl) (zac (zaa rfl) (zac (za1 (pre:=zxc) (res:=fun as=>decB (decP as)) as (zac (zaa rfl) zaf) ⟨rfl,han,by omega⟩) (zac (zaa rfl) zaf)))) ⟨rfl,hfit,by have:=hpb.2.2; show p.dp < 22; omega⟩).b)) (fun hb=>?_) (fun _=>?_)
  ·rw [decide_eq_true rfl] at hb; cases hb
  ·exact za0 (hN _ ⟨_,_,_,_,rfl⟩)
 rintro ss ⟨v9,v10,v11,v12,rfl⟩
 ((try dsimp only); refine zam ?_)
 exact zaw zgl rt
end
theorem lb1 {n : Str} {s : Stmt} {ps : List Str} (hp : ps.length = 1) (h : ∀ (kV doc pm : Value) (an : Option Addr) (cdv ct a0 : Value),Znd (Zjy n n (zen s) (zb1 s) (zah s) .none kV doc pm an cdv ct) ⟨[a0],[]⟩ = pure (ps.zip [a0])) : Bd n s ps:=fun kV doc pm an cdv ct us hl=>match us,hl.trans hp with
 | [a0],_=>h kV doc pm an cdv ct a0
theorem lb2 {n : Str} {s : Stmt} {ps : List Str} (hp : ps.length = 2) (h : ∀ (kV doc pm : Value) (an : Option Addr) (cdv ct a0 a1 : Value),Znd (Zjy n n (zen s) (zb1 s) (zah s) .none kV doc pm an cdv ct) ⟨[a0,a1],[]⟩ = pure (ps.zip [a0,a1])) : Bd n s ps:=fun kV doc pm an cdv ct us hl=>match us,hl.trans hp with
 | [a0,a1],_=>h kV doc pm an cdv ct a0 a1
theorem lb3 {n : Str} {s : Stmt} {ps : List Str} (hp : ps.length = 3) (h : ∀ (kV doc pm : Value) (an : Option Addr) (cdv ct a0 a1 a2 : Value),Znd (Zjy n n (zen s) (zb1 s) (zah s) .none kV doc pm an cdv ct) ⟨[a0,a1,a2],[]⟩ = pure (ps.zip [a0,a1,a2])) : Bd n s ps:=fun kV doc pm an cdv ct us hl=>match us,hl.trans hp with
 | [a0,a1,a2],_=>h kV doc pm an cdv ct a0 a1 a2
theorem lb4 {n : Str} {s : Stmt} {ps : List Str} (hp : ps.length = 4) (h : ∀ (kV doc pm : Value) (an : Option Addr) (cdv ct a0 a1 a2 a3 : Value),Znd (Zjy n n (zen s) (zb1 s) (zah s) .none kV doc pm an cdv ct) ⟨[a0,a1,a2,a3],[]⟩ = pure (ps.zip [a0,a1,a2,a3])) : Bd n s ps:=fun kV doc pm an cdv ct us hl=>match us,hl.trans hp with
 | [a0,a1,a2,a3],_=>h kV doc pm an cdv ct a0 a1 a2 a3
theorem lb5 {n : Str} {s : Stmt} {ps : List Str} (hp : ps.length = 5) (h : ∀ (kV doc pm : Value) (an : Option Addr) (cdv ct a0 a1 a2 a3 a4 : Value),Znd (Zjy n n (zen s) (zb1 s) (zah s) .none kV doc pm an cdv ct) ⟨[a0,a1,a2,a3,a4],[]⟩ = pure (ps.zip [a0,a1,a2,a3,a4])) : Bd n s ps:=fun kV doc pm an cdv ct us hl=>match us,hl.trans hp with
 | [a0,a1,a2,a3,a4],_=>h kV doc pm an cdv ct a0 a1 a2 a3 a4
theorem Zgv : Bd "is_whole" zif zgg:=lb1 rfl fun _ _ _ _ _ _ _=>rfl
theorem Zgr : Bd "is_block" zh8 zgk:=lb2 rfl fun _ _ _ _ _ _ _ _=>rfl
theorem Zg5 : Bd "pair_of" zjc zhm:=lb2 rfl fun _ _ _ _ _ _ _ _=>rfl
theorem Zgz : Bd "is_ring" zhg zhy:=lb2 rfl fun _ _ _ _ _ _ _ _=>rfl
theorem Zgt : Bd "links_of" zfy zf1:=lb1 rfl fun _ _ _ _ _ _ _=>rfl
theorem Zhb : Bd "gap_of" zkm zi9:=lb1 rfl fun _ _ _ _ _ _ _=>rfl
theorem Zgq : Bd "is_never" zf5 zf2:=lb3 rfl fun _ _ _ _ _ _ _ _ _=>rfl
theorem Zfz : Bd "open_pairs" zed zee:=lb2 rfl fun _ _ _ _ _ _ _ _=>rfl
theorem Zgi : Bd "is_losing" zgq ze2:=lb4 rfl fun _ _ _ _ _ _ _ _ _ _=>rfl
theorem Zfb : Bd "decided_loss" zd5 zc8:=lb2 rfl fun _ _ _ _ _ _ _ _=>rfl
theorem Zf0 : Bd "rings_show" zeb zef:=lb5 rfl fun _ _ _ _ _ _ _ _ _ _ _=>rfl
theorem Zfw : Bd "may_decide" zff zeh:=lb3 rfl fun _ _ _ _ _ _ _ _ _=>rfl
theorem Zft : Bd "with_choice" zeq zdn:=lb3 rfl fun _ _ _ _ _ _ _ _ _=>rfl
theorem Ze7 : Bd "first_decided" zds zct:=lb1 rfl fun _ _ _ _ _ _ _=>rfl
theorem Ze8 : Bd "first_weights" zdp zcp:=lb1 rfl fun _ _ _ _ _ _ _=>rfl
theorem Zgm : Bd "is_shown" zh7 zfx:=lb5 rfl fun _ _ _ _ _ _ _ _ _ _ _=>rfl
theorem Zhc : Bd "joined" zkr zje:=lb2 rfl fun _ _ _ _ _ _ _ _=>rfl
theorem Zhe : Bd "keeps" zlh zl9:=lb2 rfl fun _ _ _ _ _ _ _ _=>rfl
theorem Zg1 : Bd "loss_of" zjk zhk:=lb2 rfl fun _ _ _ _ _ _ _ _=>rfl
theorem Zgn : Bd "parts_of" zgc zgd:=lb3 rfl fun _ _ _ _ _ _ _ _ _=>rfl
theorem Zgw : Bd "case_of" zf3 zhn:=lb3 rfl fun _ _ _ _ _ _ _ _ _=>rfl
theorem Ze9 : Bd "groupings_of" zd3 zda:=lb1 rfl fun _ _ _ _ _ _ _=>rfl
theorem Zfh : Bd "best_in_part" zc9 zc4:=lb1 rfl fun _ _ _ _ _ _ _=>rfl
theorem Ze6 : Bd "numbered_anew" zdt zcn:=lb1 rfl fun _ _ _ _ _ _ _=>rfl
theorem Zgx : Bd "best_of" zhj zhx:=lb3 rfl fun _ _ _ _ _ _ _ _ _=>rfl
theorem Zfa : Bd "placed_pairs" zdc zc6:=lb2 rfl fun _ _ _ _ _ _ _ _=>rfl
theorem Zf3 : Bd "is_decided" zfk zec:=lb4 rfl fun _ _ _ _ _ _ _ _ _ _=>rfl
theorem Zfc : Bd "ring_through" zd9 zdb:=lb3 rfl fun _ _ _ _ _ _ _ _ _=>rfl
theorem Zfv : Bd "lost_rings" zfn zeg:=lb2 rfl fun _ _ _ _ _ _ _ _=>rfl
theorem Zfg : Bd "placed_paper" zd4 zbq:=lb3 rfl fun _ _ _ _ _ _ _ _ _=>rfl
theorem Zf2 : Bd "held_paper" zfj zcs:=lb4 rfl fun _ _ _ _ _ _ _ _ _ _=>rfl
theorem Zfi : Bd "asking_paper" zd6 zbp:=lb4 rfl fun _ _ _ _ _ _ _ _ _ _=>rfl
theorem Zgl : Bd "paper_of" zib zgo:=lb3 rfl fun _ _ _ _ _ _ _ _ _=>rfl
theorem Zfu : Bd "_law_cell_at" zer zdu:=lb2 rfl fun _ _ _ _ _ _ _ _=>rfl
theorem Zf1 : Bd "_law_weight" zfe zea:=lb1 rfl fun _ _ _ _ _ _ _=>rfl
theorem Zgp : Bd "_law_case" zia zf0:=lb3 rfl fun _ _ _ _ _ _ _ _ _=>rfl
theorem Zgj : Bd "_law_pair" zie zfz:=lb2 rfl fun _ _ _ _ _ _ _ _=>rfl
theorem Zf9 : Bd "_law_links" zfc ze8:=lb1 rfl fun _ _ _ _ _ _ _=>rfl
theorem Zgu : Bd "_law_ring" zh4 zf9:=lb4 rfl fun _ _ _ _ _ _ _ _ _ _=>rfl
theorem Zgk : Bd "_law_leaf" zh5 zgb:=lb4 rfl fun _ _ _ _ _ _ _ _ _ _=>rfl
theorem Zf8 : Bd "_law_judge" zgz zez:=lb4 rfl fun _ _ _ _ _ _ _ _ _ _=>rfl
theorem Zfr : Bd "_law_weights" zew zdo:=lb1 rfl fun _ _ _ _ _ _ _=>rfl
theorem Zfn : Bd "_law_decided" zeu zdl:=lb1 rfl fun _ _ _ _ _ _ _=>rfl
theorem Zgc : Bd "_law_drawn" zg2 ze5:=lb2 rfl fun _ _ _ _ _ _ _ _=>rfl
theorem Zew : Bd "_law_leaf_spoiled" zck zby:=lb3 rfl fun _ _ _ _ _ _ _ _ _=>rfl
theorem Zfm : Bd "_law_spoiled" zet zdm:=lb3 rfl fun _ _ _ _ _ _ _ _ _=>rfl
theorem Zg9 : Bd "law" zy0 zws:=lb1 rfl fun _ _ _ _ _ _ _=>rfl
theorem all_mk {l : Zox} {w : Zjv} {K : Zhi} {mg : Str->Option Value} {fa Zct Zc1 Zd1 Zds Zdh Zef Zdb Zby Zcc Za3 Zbr Zbv Zbe Zat Zao Zcv Zed Zeo Zd3 Zde Zdr Za1 Za2 Zap Zdu Za4 Zbt Zax Zb1 Zab Zak Zad Zc3 Za7 Zbq Zc4 Zdg Zcg Zdd Zdf Zce Zbc Za8 Zcd Zaf Zbd Zf5 : Addr} {t_HELD t_MOST_BLOCKS t_PARTED : Tok} {Zcy Zdi Zdz Zd2 Zcw Zee Zc9 Zbw Zca Zaz Zbp Zbz Zbb Zan Zar Zdj Zec Zen Zd0 Zcz Zdx Zay Zaa Zaq Zdt Za6 Zb0 Zau Zb2 Zae Zaj Zac Zcq Zbi Zb3 Zcx Zc7 Zcb Zcp Zc6 Zcf Zbf Zba Zch Zag Za9 Zfj : Zkj} (hfa : mg "law" = some (.ref fa)) (Zey : mg "HELD" = some (.str (T [104,101,108,100]) t_HELD)) (Zcj : mg "MOST_BLOCKS" = some (.int 7 t_MOST_BLOCKS)) (Zcn : mg "PARTED" = some (.str (T [112,97,114,116,101,100]) t_PARTED)) (Zda : FX K mg "is_whole" zif zgg Zct Zcy) (Zb4 : FX K mg "is_block" zh8 zgk Zc1 Zdi) (Zdv : FX K mg "pair_of" zjc zhm Zd1 Zdz) (Zdw : FX K mg "is_ring" zhg zhy Zds Zd2) (Zb7 : FX K mg "links_of" zfy zf1 Zdh Zcw) (Zdn : FX K mg "gap_of" zkm zi9 Zef Zee) (Zd5 : FX K mg "is_never" zf5 zf2 Zdb Zc9) (Zbs : FX K mg "open_pairs" zed zee Zby Zbw) (Zdq : FX K mg "is_losing" zgq ze2 Zcc Zca) (Zb5 : FX K mg "decided_loss" zd5 zc8 Za3 Zaz) (Zcu : FX K mg "rings_show" zeb zef Zbr Zbp) (Zc2 : FX K mg "may_decide" zff zeh Zbv Zbz) (Zbh : FX K mg "with_choice" zeq zdn Zbe Zbb) (Zbm : FX K mg "first_decided" zds zct Zat Zan) (Zbo : FX K mg "first_weights" zdp zcp Zao Zar) (Zd8 : FX K mg "is_shown" zh7 zfx Zcv Zdj) (Zep : FX K mg "joined" zkr zje Zed Zec) (Ze3 : FX K mg "keeps" zlh zl9 Zeo Zen) (Zco : FX K mg "loss_of" zjk zhk Zd3 Zd0) (Zea : FX K mg "parts_of" zgc zgd Zde Zcz) (Zel : FX K mg "case_of" zf3 zhn Zdr Zdx) (Zb8 : FX K mg "groupings_of" zd3 zda Za1 Zay) (Zaw : FX K mg "best_in_part" zc9 zc4 Za2 Zaa) (Zbn : FX K mg "numbered_anew" zdt zcn Zap Zaq) (Zd4 : FX K mg "best_of" zhj zhx Zdu Zdt) (Zav : FX K mg "placed_pairs" zdc zc6 Za4 Za6) (Zcs : FX K mg "is_decided" zfk zec Zbt Zb0) (Zb6 : FX K mg "ring_through" zd9 zdb Zax Zau) (Zc0 : FX K mg "lost_rings" zfn zeg Zb1 Zb2) (Zai : FX K mg "placed_paper" zd4 zbq Zab Zae) (Zc8 : FX K mg "held_paper" zfj zcs Zak Zaj) (Za5 : FX K mg "asking_paper" zd6 zbp Zad Zac) (Zd9 : FX K mg "paper_of" zib zgo Zc3 Zcq) (Zam : FX K mg "_law_cell_at" zer zdu Za7 Zbi) (Zc5 : FX K mg "_law_weight" zfe zea Zbq Zb3) (Zd6 : FX K mg "_law_case" zia zf0 Zc4 Zcx) (Zb9 : FX K mg "_law_pair" zie zfz Zdg Zc7) (Zci : FX K mg "_law_links" zfc ze8 Zcg Zcb) (Zdk : FX K mg "_law_ring" zh4 zf9 Zdd Zcp) (Zd7 : FX K mg "_law_leaf" zh5 zgb Zdf Zc6) (Zbj : FX K mg "_law_judge" zgz zez Zce Zcf) (Zck : FX K mg "_law_weights" zew zdo Zbc Zbf) (Zcm : FX K mg "_law_decided" zeu zdl Za8 Zba) (Zdp : FX K mg "_law_drawn" zg2 ze5 Zcd Zch) (Zas : FX K mg "_law_leaf_spoiled" zck zby Zaf Zag) (Zah : FX K mg "_law_spoiled" zet zdm Zbd Za9) (Zff : FX K mg "law" zy0 zws Zf5 Zfj) (Zek : mg "abs" = none) (Ze4 : mg "all" = none) (Zfl : mg "bool" = none) (Ze0 : mg "dict" = none) (Zbl : mg "enumerate" = none) (Zg0 : mg "int" = none) (Zbx : mg "isinstance" = none) (Zal : mg "len" = none) (Zbu : mg "list" = none) (Zej : mg "max" = none) (Ze5 : mg "min" = none) (Zbk : mg "range" = none) (Zer : mg "reversed" = none) (Zf4 : mg "set" = none) (Zf6 : mg "zip" = none) :
  ∃ fd fl : Zkj,(∀ (s : Zhq) (v : Value),Zpz s fd ⟨[v],[]⟩ [("_law_script", v)])/\(∃ g oc od osl,mg "best_in_part" = some (.ref g)/\K.lookup g = some ⟨oc,od,.func fl,osl⟩) /\ ∀ (base : Heap) (T0 : Addr),K.In base->base.Ns Zj9 mg->LamAt base mg fl T0->FnOk l.prog w K mg base CX0 90 fa fd ["_law_script"] (zxm K T0):=by
 have e:=hfa.symm.trans Zff.M
 cases e
 exact ⟨_,_,Zff.bt Zg9,Zaw.lk,fun base T0 _ _ Y=>yef (ad0:=⟨Zct,Zc1,Zd1,Zds,Zdh,Zef,Zdb,Zby,Zcc,Za3,Zbr,Zbv,Zbe,Zat,Zao,Zcv,Zed,Zeo,Zd3,Zde,Zdr,Za1,Za2,Zap,Zdu,Za4,Zbt,Zax,Zb1,Zab,Zak,Zad,Zc3,Za7,Zbq,Zc4,Zdg,Zcg,Zdd,Zdf,Zce,Zbc,Za8,Zcd,Zaf,Zbd,_,_,_,_,Zcy,Zdi,Zdz,Zd2,Zcw,Zee,Zc9,Zbw,Zca,Zaz,Zbp,Zbz,Zbb,Zan,Zar,Zdj,Zec,Zen,Zd0,Zcz,Zdx,Zay,Zaa,Zaq,Zdt,Za6,Zb0,Zau,Zb2,Zae,Zaj,Zac,Zcq,Zbi,Zb3,Zcx,Zc7,Zcb,Zcp,Zc6,Zcf,Zbf,Zba,Zch,Zag,Za9,Zfj⟩) ⟨Zey,⟨_,rfl⟩,Zcj,⟨_,rfl⟩,Zcn,⟨_,rfl⟩,Zda,Zb4,Zdv,Zdw,Zb7,Zdn,Zd5,Zbs,Zdq,Zb5,Zcu,Zc2,Zbh,Zbm,Zbo,Zd8,Zep,Ze3,Zco,Zea,Zel,Zb8,Zaw,Zbn,Zd4,Zav,Zcs,Zb6,Zc0,Zai,Zc8,Za5,Zd9,Zam,Zc5,Zd6,Zb9,Zci,Zdk,Zd7,Zbj,Zck,Zcm,Zdp,Zas,Zah,Zff,Zek,Ze4,Zfl,Ze0,Zbl,Zg0,Zbx,Zal,Zbu,Zej,Ze5,Zbk,Zer,Zf4,Zf6⟩ Y⟩
theorem walk {l : Zox} {q : Ziq} {loose : List Str} {XP : (Str->Option Value)->Heap->Prop} {YP : Zjv->Heap->Prop} {d : DefRec} {K : Params->Zhi} (hn : l.most = some 63) (hdf : d.params.defaults = [])
  (hY : ∀ (w : Zjv) (h : Heap),YP w h->(K w.params).In h) (hrec : ((recsOf q).find? fun e=>e.name == ("best_in_part" : Str)).isSome = true) (hno : ∀ p,PySem.W.noTabs (K p) = true)
  (F : ∀ (w : Zjv) (mg : Str->Option Value) (fa : Addr) (h : Heap),(K w.params).In h->h.Ns Zj9 mg->mg d.name = some (.ref fa) ->
   ∃ fd fl : Zkj,(∀ (s : Zhq) (u : Value),Zpz s fd ⟨[u],[]⟩ [("_law_script", u)])/\(∃ g oc od osl,mg "best_in_part" = some (.ref g)/\(K w.params).lookup g = some ⟨oc,od,.func fl,osl⟩) /\ ∀ (base : Heap) (T0 : Addr),(K w.params).In base->base.Ns Zj9 mg->LamAt base mg fl T0->FnOk l.prog w (K w.params) mg base CX0 90 fa fd ["_law_script"] (zxm (K w.params) T0)) :
  Zsa q loose XP YP l.row.toRowW d [] (fun f vs=>Zro f vs) :=
 L2.walk_ofT (n:=63) (k:=90) (x:="_law_script") (nm:="best_in_part") (pos:=lamP) (lq:=lamQ) (CX:=CX0) (sp:=zxm) hn (by decide) hdf ⟨rfl,by decide,by decide,rfl⟩ hY hrec hno F (fun _ _ a T ns hl hS hT=>⟨a,ns,rfl,hS,hl,hT,fun _ sm=>⟨rfl,sm _ _ hT⟩⟩) fun _ _ _ _ z=>z
end My
namespace PySem.W.Fast
noncomputable def tw6564841998106775280 : Unit:=()
noncomputable def tw825262059529996351 : Unit:=()
noncomputable def tw12960241831318384565 : Unit:=()
noncomputable def tw10610413153384196586 : Unit:=()
noncomputable def tw12734039656316486085 : Unit:=()
noncomputable def tw15703342566598141473 : Unit:=()
noncomputable def tw6420213193348625852 : Unit:=()
noncomputable def tw10724486884811174825 : Unit:=()
noncomputable def tw15206198114355247160 : Unit:=()
noncomputable def tw3197149228188969020 : Unit:=()
noncomputable def tw13126538672676055896 : Unit:=()
noncomputable def tw6769233352954817894 : Unit:=()
noncomputable def tw16609559396583094616 : Unit:=()
noncomputable def tw7898103527379747559 : Unit:=()
noncomputable def tw16009315785884704764 : Unit:=()
noncomputable def tw8863715721007676046 : Unit:=()
noncomputable def tw4214113210675658633 : Unit:=()
noncomputable def tw4347254408736435865 : Unit:=()
noncomputable def tw6152613518873491453 : Unit:=()
noncomputable def tw5176353058440731162 : Unit:=()
noncomputable def tw15196392307789985188 : Unit:=()
noncomputable def tw8505194977784954462 : Unit:=()
noncomputable def tw17627016213946448325 : Unit:=()
noncomputable def tw4682241031389322378 : Unit:=()
noncomputable def tw2594868076839982259 : Unit:=()
noncomputable def tw15222772664929309809 : Unit:=()
noncomputable def tw8399185985926142740 : Unit:=()
noncomputable def tw2820152308209712753 : Unit:=()
noncomputable def tw8058136847446825145 : Unit:=()
noncomputable def tw2797537341183951011 : Unit:=()
noncomputable def tw3365124310399897149 : Unit:=()
noncomputable def tw6058479669522463891 : Unit:=()
noncomputable def tw5694026175034016489 : Unit:=()
noncomputable def tw1956615871976986898 : Unit:=()
noncomputable def tw4510499112490607226 : Unit:=()
noncomputable def tw6024341124329192401 : Unit:=()
noncomputable def tw765827931760655798 : Unit:=()
noncomputable def tw10891652029222884325 : Unit:=()
noncomputable def tw8626760477795486776 : Unit:=()
noncomputable def tw5140317480677584237 : Unit:=()
noncomputable def tw4972439273052688353 : Unit:=()
noncomputable def tw15257804619370227938 : Unit:=()
noncomputable def tw140750340648257531 : Unit:=()
noncomputable def tw6370325502196200938 : Unit:=()
noncomputable def tw7908002074421748599 : Unit:=()
noncomputable def tw6221436780773156958 : Unit:=()
noncomputable def tw1561190902689973070 : Unit:=()
noncomputable def tw2359407827586952709 : Unit:=()
noncomputable def tw10042797502010579377 : Unit:=()
noncomputable def tw4600940673060980202 : Unit:=()
noncomputable def tw3462591326179653304 : Unit:=()
noncomputable def tw11004617422556967114 : Unit:=()
noncomputable def tw716260597732991660 : Unit:=()
end PySem.W.Fast
open PySem PySem.W PyProof.Rows
set_option maxRecDepth 100000 in
set_option maxHeartbeats 0 in
theorem PySem.Challenge.cw_folk_k38_papers_shown_holds : PySem.Challenge.rw_folk_k38_papers_shown.Holds := by
 w_on; o_law; k_head; (case hw=>w_witness2)
 k_fill
 refine My.walk (l:=Zml) rfl rfl (fun w h Y=>PySem.W.km_in_of Y) rfl (fun p=>by kernel_rfl) ?F
 case F =>
  intro w mg fa h KX G hmg
  refine' My.all_mk hmg (mg_of KX G ?a_HELD) (mg_of KX G ?a_MOST_BLOCKS) (mg_of KX G ?a_PARTED) (L2.fx_mk KX G My.Zgv ?a0 ?l0 ?c0 ?k0) (L2.fx_mk KX G My.Zgr ?a1 ?l1 ?c1 ?k1) (L2.fx_mk KX G My.Zg5 ?a2 ?l2 ?c2 ?k2) (L2.fx_mk KX G My.Zgz ?a3 ?l3 ?c3 ?k3) (L2.fx_mk KX G My.Zgt ?a4 ?l4 ?c4 ?k4) (L2.fx_mk KX G My.Zhb ?a5 ?l5 ?c5 ?k5) (L2.fx_mk KX G My.Zgq ?a6 ?l6 ?c6 ?k6) (L2.fx_mk KX G My.Zfz ?a7 ?l7 ?c7 ?k7) (L2.fx_mk KX G My.Zgi ?a8 ?l8 ?c8 ?k8) (L2.fx_mk KX G My.Zfb ?a9 ?l9 ?c9 ?k9) (L2.fx_mk KX G My.Zf0 ?a10 ?l10 ?c10 ?k10) (L2.fx_mk KX G My.Zfw ?a11 ?l11 ?c11 ?k11) (L2.fx_mk KX G My.Zft ?a12 ?l12 ?c12 ?k12) (L2.fx_mk KX G My.Ze7 ?a13 ?l13 ?c13 ?k13) (L2.fx_mk KX G My.Ze8 ?a14 ?l14 ?c14 ?k14) (L2.fx_mk KX G My.Zgm ?a15 ?l15 ?c15 ?k15) (L2.fx_mk KX G My.Zhc ?a16 ?l16 ?c16 ?k16) (L2.fx_mk KX G My.Zhe ?a17 ?l17 ?c17 ?k17) (L2.fx_mk KX G My.Zg1 ?a18 ?l18 ?c18 ?k18) (L2.fx_mk KX G My.Zgn ?a19 ?l19 ?c19 ?k19) (L2.fx_mk KX G My.Zgw ?a20 ?l20 ?c20 ?k20) (L2.fx_mk KX G My.Ze9 ?a21 ?l21 ?c21 ?k21) (L2.fx_mk KX G My.Zfh ?a22 ?l22 ?c22 ?k22) (L2.fx_mk KX G My.Ze6 ?a23 ?l23 ?c23 ?k23) (L2.fx_mk KX G My.Zgx ?a24 ?l24 ?c24 ?k24) (L2.fx_mk KX G My.Zfa ?a25 ?l25 ?c25 ?k25) (L2.fx_mk KX G My.Zf3 ?a26 ?l26 ?c26 ?k26) (L2.fx_mk KX G My.Zfc ?a27 ?l27 ?c27 ?k27) (L2.fx_mk KX G My.Zfv ?a28 ?l28 ?c28 ?k28) (L2.fx_mk KX G My.Zfg ?a29 ?l29 ?c29 ?k29) (L2.fx_mk KX G My.Zf2 ?a30 ?l30 ?c30 ?k30) (L2.fx_mk KX G My.Zfi ?a31 ?l31 ?c31 ?k31) (L2.fx_mk KX G My.Zgl ?a32 ?l32 ?c32 ?k32) (L2.fx_mk KX G My.Zfu ?a33 ?l33 ?c33 ?k33) (L2.fx_mk KX G My.Zf1 ?a34 ?l34 ?c34 ?k34) (L2.fx_mk KX G My.Zgp ?a35 ?l35 ?c35 ?k35) (L2.fx_mk KX G My.Zgj ?a36 ?l36 ?c36 ?k36) (L2.fx_mk KX G My.Zf9 ?a37 ?l37 ?c37 ?k37) (L2.fx_mk KX G My.Zgu ?a38 ?l38 ?c38 ?k38) (L2.fx_mk KX G My.Zgk ?a39 ?l39 ?c39 ?k39) (L2.fx_mk KX G My.Zf8 ?a40 ?l40 ?c40 ?k40) (L2.fx_mk KX G My.Zfr ?a41 ?l41 ?c41 ?k41) (L2.fx_mk KX G My.Zfn ?a42 ?l42 ?c42 ?k42) (L2.fx_mk KX G My.Zgc ?a43 ?l43 ?c43 ?k43) (L2.fx_mk KX G My.Zew ?a44 ?l44 ?c44 ?k44) (L2.fx_mk KX G My.Zfm ?a45 ?l45 ?c45 ?k45) (L2.fx_mk KX G My.Zg9 ?a46 ?l46 ?c46 ?k46) (mg_none_of KX G ?y_abs) (mg_none_of KX G ?y_all) (mg_none_of KX G ?y_bool) (mg_none_of KX G ?y_dict) (mg_none_of KX G ?y_enumerate) (mg_none_of KX G ?y_int) (mg_none_of KX G ?y_isinstance) (mg_none_of KX G ?y_len) (mg_none_of KX G ?y_list) (mg_none_of KX G ?y_max) (mg_none_of KX G ?y_min) (mg_none_of KX G ?y_range) (mg_none_of KX G ?y_reversed) (mg_none_of KX G ?y_set) (mg_none_of KX G ?y_zip)
  (case a_HELD | a_MOST_BLOCKS | a_PARTED | a0 | l0 | c0 | k0 | a1 | l1 | c1 | k1 | a2 | l2 | c2 | k2 | a3 | l3 | c3 | k3 | a4 | l4 | c4 | k4 | a5 | l5 | c5 | k5 | a6 | l6 | c6 | k6 | a7 | l7 | c7 | k7 | a8 | l8 | c8 | k8 | a9 | l9 | c9 | k9 | a10 | l10 | c10 | k10 | a11 | l11 | c11 | k11 | a12 | l12 | c12 | k12 | a13 | l13 | c13 | k13 | a14 | l14 | c14 | k14 | a15 | l15 | c15 | k15 | a16 | l16 | c16 | k16 | a17 | l17 | c17 | k17 | a18 | l18 | c18 | k18 | a19 | l19 | c19 | k19 | a20 | l20 | c20 | k20 | a21 | l21 | c21 | k21 | a22 | l22 | c22 | k22 | a23 | l23 | c23 | k23 | a24 | l24 | c24 | k24 | a25 | l25 | c25 | k25 | a26 | l26 | c26 | k26 | a27 | l27 | c27 | k27 | a28 | l28 | c28 | k28 | a29 | l29 | c29 | k29 | a30 | l30 | c30 | k30 | a31 | l31 | c31 | k31 | a32 | l32 | c32 | k32 | a33 | l33 | c33 | k33 | a34 | l34 | c34 | k34 | a35 | l35 | c35 | k35 | a36 | l36 | c36 | k36 | a37 | l37 | c37 | k37 | a38 | l38 | c38 | k38 | a39 | l39 | c39 | k39 | a40 | l40 | c40 | k40 | a41 | l41 | c41 | k41 | a42 | l42 | c42 | k42 | a43 | l43 | c43 | k43 | a44 | l44 | c44 | k44 | a45 | l45 | c45 | k45 | a46 | l46 | c46 | k46 | y_abs | y_all | y_bool | y_dict | y_enumerate | y_int | y_isinstance | y_len | y_list | y_max | y_min | y_range | y_reversed | y_set | y_zip=>k_is)
