import PyProof.Rows.All
import Wide.All
import OpenK.AllK
import Wide.FinOn
import Lean
import PyProof.EqAt
import PyProof.EqKinds
import PyProof.TupleCall
import KE.KLam
import PyProof.SetRoads
import PyProof.SetNew
import PyProof.CollectIter
import PyProof.DictWalks
import PyProof.Walks
import PyProof.RulesTry
import PyProof.FactsAll.set
import PyProof.WalksMore
import PyProof.FactsAll.subtypes
import PyProof.ExcAttrAll.ValueError
import PyProof.Rows.StrJoin2
import PyProof.Rows.FStr
import PyProof.ExcBaseAll.ValueError
import PyProof.StrCalls2
import PyProof.StrBlockH
import PyProof.MeetsStr2
import PyProof.Rows.SeqMore2
import KE.KDictList
import PyProof.ZipIter
import PyProof.Draws
import PyProof.DictTruth
import PyProof.Rows.SortShellK
import PyProof.Rows.SortWalk
import PyProof.TupleKey
import PyProof.Rows.Range3
import KE.KNestM
import KE.KMinKey
import PySem.Challenge.RW_keyfold_k31_whole_counts
open List(all_cons all_eq_true all_map all_toArray any_cons append_nil cons_append countP_congr countP_cons countP_map drop_eq_getElem_cons drop_eq_nil_of_le drop_zero ext_getElem? extract_eq_drop_take filter_cons find?_cons find?_eq_none flatten_cons foldl_cons forIn_cons forIn_nil getElem?_append_left getElem?_append_right getElem?_cons_succ getElem?_drop getElem?_inj getElem?_range getElem?_set_ne getElem?_set_self getElem?_take getElem?_toArray getElem_idxOf getElem_mem getElem_of_mem idxOf_cons idxOf_lt_length_iff length_cons length_drop length_eq_zero_iff length_map length_nil length_pos_of_mem length_range length_replicate length_set length_singleton length_take lookup_append lookup_cons mapM_cons mapM_toArray map_append map_congr_left map_cons map_drop map_id map_map map_nil map_take mem_append mem_append_left mem_append_right mem_cons mem_cons_of_mem mem_cons_self mem_filterMap mem_map mem_map_of_mem mem_of_getElem? mem_of_mem_take mem_range mem_singleton mergeSort_perm nil_append nodup_append nodup_cons nodup_nil not_mem_nil of_mem_zip pairwise_append pairwise_cons pairwise_iff_getElem pairwise_map pairwise_mergeSort prefix_refl range' range_succ replicate_succ size_toArray sum_cons take_append_drop take_length take_of_length_le zipIdx_cons zip_cons_cons)
open Nat(add_assoc add_mod add_zero le_add_right le_of_lt_succ le_refl le_succ lt_min lt_of_lt_of_le lt_or_ge lt_succ_of_lt lt_succ_self lt_trichotomy max_le min_le_right mod_eq_of_lt mod_lt mul_comm ne_of_gt ne_of_lt one_le_two_pow pow_add pow_le_pow_right pow_succ sub_self sub_zero succ_add succ_pos zero_add zero_le zero_mul)
open Option(bind_eq_bind bind_eq_some_iff bind_some getD_none getD_some isSome_map map_eq_some_iff map_some pure_def)
open Bool(and_eq_true false_eq_true or_eq_true)
open Array(forIn_toList getD_eq_getD_getElem? getElem?_toList getElem_mem_toList getElem_toList length_toList mem_toList_iff perm_iff_toList_perm size_map toList_append toList_extract toList_inj toList_push)
local macro_rules|`(tactic|omega)=>`(tactic|first|with_reducible assumption|with_reducible exact Nat.le_refl _|with_reducible exact Nat.zero_le _|with_reducible exact Nat.succ_pos _|with_reducible exact Nat.le_of_lt (by assumption)|with_reducible exact Nat.lt_of_lt_of_le (by assumption) (by assumption)|with_reducible exact Nat.lt_of_le_of_lt (by assumption) (by assumption)|with_reducible exact Nat.le_trans (by assumption) (by assumption)|with_reducible exact Nat.lt_of_lt_of_le Nat.zero_lt_one (by assumption)|with_reducible exact Nat.le_trans (by assumption) (by decide)|with_reducible exact Nat.lt_of_le_of_lt (by assumption) (by decide)|with_reducible exact Nat.lt_of_lt_of_le (by assumption) (by decide)|with_reducible exact Nat.lt_succ_of_le (by assumption)|with_reducible exact Nat.succ_le_of_lt (by assumption)|with_reducible exact Nat.ne_of_lt (by assumption)|with_reducible exact Nat.ne_of_gt (by assumption)|with_reducible exact Nat.not_lt.mpr (by assumption)|with_reducible exact Nat.lt_of_le_of_lt (Nat.add_le_add_left (by decide) _) (by assumption)|with_reducible exact Nat.le_of_eq (by assumption)|lia|omega +splitMinMax)
local macro_rules|`(tactic|decide)=>`(tactic|decide +kernel)
set_option Elab.async false
set_option linter.all false
set_option maxRecDepth 100000
set_option compiler.extract_closed false
set_option maxHeartbeats 4000000
open Option renaming some→ag,none→a4,map_eq_some_iff→d7,bind_eq_some_iff→hD,bind_some→lr,isSome_map→Sa,map_some→UI,getD_some→XS,bind_eq_bind→aa2,isSome_some→aci,pure_def→aeb
open _root_ renaming List→ak,Option→a5,if_pos→cc,if_neg→cn,decide_eq_false→dV,Bool→eM,decide_eq_true→gx,Array→hO,absurd→ib,if_false→la,beq_eq_false_iff_ne→lE,of_decide_eq_true→mv,if_true→mz,congrArg→q7,DecidableEq→wt,decide_eq_true_eq→x6,trivial→TC,String→Uk,beq_iff_eq→XD,beq_self_eq_true→XR,dif_pos→YP,bne_self_eq_false→Z6,decide_eq_false_iff_not→aay,or_false→abI,Unit→acf,funext→acr,of_decide_eq_false→acu,StateT→acv
open PySem renaming wpAny_bind→av,Value→ax,wpAny_pure→ay,Addr→bc,Shared→bo,sizeLine→da,wpAny→dr,starEach→ek,Str→el,model→eG,Program→e8,Expr→gy,PyData→hA,World→hL,Around→iv,Heap→ja,strKind→kh,Scope→ku,Paired→lC,wpAny_call_entry→mi,mainGlobals→my,wpAny_newObj_type→ng,cLine→nq,bootBuiltins→n0,compareOp→oa,behindInMarks→ov,eval→qa,Stmt→qb,backTo→rb,wpAny_mono→ro,wpAny_callSpecial?_slot→r0,wpAny_field→sA,wpAny_holding→vl,IsTupleKey→wq,wpAny_truthy_bool→xa,wpAny_setState_of→za,cellsFrom→ze,wpAny_seqItems→zv,SetTable→A1,FuncData→K1,wpAny_forIn_list→ON,wpAny_rule→O8,wpAny_Call_Name_kw→Pd,binaryOp→Ra,NameKind→Rg,attributeBase→RK,sysModules→RV,assignEach→RY,keywordEach→S7,ofAClassStatement→Tq,mem_of_lookup→TB,swapsWith→TM,Pos→Ud,sizeLine_eq→Uh,wpAny_pyIter_tuple→Um,wpAny_typeOf→Uq,wpAny_setField_rec→Uz,foldedSetIterable→UO,bindArgs→UY,wpAny_isInstance→Vj,holding→Vk,IsPair→VX,wpAny_comprehension_free→V2,wpAny_attempt→V3,wpAny_specialOf→Wh,letOwnedTupleGo→Wq,wpAny_passesOwn→Ws,Keyword→Wu,wpAny_tupleItemsOf→Wz,assign→WA,tupleKind_room_in1→WB,sliceBounds→WN,getItem→WO,backToKw→WS,wpAny_pyIter_enum→WX,wpAny_collect_seq→W2,wpAny_eqBool_int→Xx,Arguments→XO,checkBuiltinCall→XT,codeAny→XW,ReadsAll→X1,wpAny_updateSeq_pair→X6,hashByValue→Yd,builtinsNs→YY,firstArgMember→Zn,wpAny_letOwnedTupleGo_enum→Zo,wpAny_assign_Name→ZQ,callerA→ZX,wpAny_standAt→Z_,wpAny_newList→aaf,filterMap_getElem?_range→aai,wpAny_onRaise→aaj,Reads→aaq,wpAny_pyHash_int→aar,wpAny_pyHash_str→aas,eqIsQuiet→aat,atKey→aau,noFill_tuple_add→aav,wpAny_pyNext_enum_itemD→aax,wpAny_askSetting→aaA,IsZip→aaB,pyNext→aaI,rawInt→aaJ,wpAny_pyNext_range_end→aaK,wpAny_pyIter_rangeiter→aaL,codeAny_mono→aaO,wpAny_Assign_Subscript→aaQ,concat_meets→aaR,IsPart→aaS,seqIndex_neg→aaT,wpAny_getItem_list_neg→aaV,call_meets→aaW,wpAny_execs_nil→aa7,codeAny_builtin→aba,isSubtype_tuple_tuple→abf,wpAny_isTrue_Compare1→abg,exec_Assign_Name_used→abj,builtinLookup_eq_fast→abk,wpAny_loadName_local→abp,IsRangeIter→abq,subscripted→abt,seqIndex_of→abv,newFunctionEnv→abx,wpAny_newTuple→abD,tupleKind→abR,standAt→abS,setItem→abT,getMethod→abU,BindsTo→abV,valueAt→abX,pushCells→abZ,wpAny_loadName_cell→ab1,swapsWithSole→ab6,swappedStores→ab7,seq_tuple_add→ab9,pyIter→acg,wpAny_pyIter_range→ach,wpAny_getItem_heap→ack,wpAny_setItem_heap→acm,Within→acE,CmpOp→acF,Operator→acG,list_append→acK,numAt→acV,Result→ac4,seqSlot_of→ac7,putSet_of→adh,field→adm,wpAny_of_eq→ado,wpAny_letGo→adu,GenState→adI,wpAny_Name→adJ,callWith→adK,bindL→adL,bindC→adM,call→adP,typeIs_int→adQ,checkCount→adW,entryFor→ad0,intItems→ad6,KeyKind→aem
open Bool renaming true→a6,false→a8,false_eq_true→gh,and_eq_true→pX,not_true→uk,not_false→U4,false_ne_true→Ww,or_eq_false_iff→Yn,or_eq_true→Zi,not_eq_true'→Z1,and_false→abE,eq_false_iff→acN,false_or→aeg,and_true→ael
open List renaming getElem?_eq_getElem→a7,getElem?_eq_some_iff→ba,length_append→cv,getElem?_map→dk,length_map→dv,mem_cons_of_mem→ee,replicate→eh,range→ew,mem_cons_self→eR,map_cons→fh,mem_cons→fx,size_toArray→f5,mem_singleton→gA,length_cons→hG,getElem?_append_right→h6,getElem?_append_left→h7,append_nil→ia,append_assoc→j0,mem_append→k6,length_range→mc,mem_append_right→mm,getElem?_of_mem→m7,idxOf_lt_length_iff→o3,getElem?_cons_succ→qf,mem_map→q5,mem_of_getElem?→ra,find?_cons→rp,map_map→rT,pairwise_mergeSort→s8,mergeSort_perm→ti,lookup→xl,take_of_length_le→y0,pairwise_append→E3,take_append_drop→H8,replicate_succ→L3,pairwise_map→Ml,length_drop→M3,mem_of_mem_take→N_,length_replicate→Pf,foldl_cons→Pw,nodup_append→Qf,length_take→Qr,pairwise_iff_getElem→Qt,take_append_of_le_length→Qu,getElem?_replicate→QH,getD→RR,any_cons→R_,length_set→Sn,length_eq_zero_iff→So,map_append→Sv,mem_range→SJ,all_eq_true→SV,getElem?_set_self→S4,drop_eq_getElem_cons→S8,drop_eq_nil_of_le→Ta,lookup_cons→Tg,extract_eq_drop_take→Tn,filter_cons→Tt,filterMap_cons_some→Tz,length_singleton→T2,getElem_of_mem→T3,pairwise_singleton→T5,map_congr_left→Ua,getElem_mem→Ui,nodup_cons→Up,flatten_cons→Uy,mem_append_left→UE,getElem_idxOf→UK,length_pos_of_mem→UR,mem_map_of_mem→U7,perm_append_singleton→U9,nodup_nil→VJ,getElem?_drop→Wg,getElem?_set_ne→Wk,foldl→WC,length→WH,ext_getElem?→W8,filterMap_replicate_of_none→Xf,forIn_cons→XQ,idxOf_cons→XU,pairwise_cons→X0,not_mem_nil→X8,mem_of_mem_drop→Ya,eq_nil_of_length_eq_zero→Yo,count_singleton→Yp,mem_filter→Yq,filterMap_cons→Yr,mapM_toArray→YU,nil_append→Zk,getElem?_range→Zl,getD_eq_getElem?_getD→Zm,length_eraseIdx_of_lt→Zp,getElem?_eq_none_iff→ZF,any_eq_false→ZR,take_sublist→ZW,getElem?_set→Z7,idxOf_append→Z9,mem_filterMap→aaa,getElem?_take_of_lt→aab,lookup_append→aad,getElem?_take→aak,zip_cons_cons→aal,find?_eq_none→aam,length_erase_of_mem→aao,forIn_nil→aaw,drop_zero→aaz,mapM_cons→aaC,map→aaD,getElem?_toArray→aaE,getElem?_inj→aaX,filter_eq_nil_iff→aa5,perm_append_comm→abl,getElem?_eq_none→abo,prefix_refl→abw,zip→abG,zipIdx_cons→abH,all_toArray→abK,cons_append→abM,take_length→abN,map_nil→abY,toList_toArray→ab3,length_nil→acj,filterMap_map→aco,map_inj_right→acz,map_replicate→acA,drop_sublist→acS,getElem_drop→acT,map_take→acX,map_drop→acY,set_set→acZ,take_add_one→ac0,le_antisymm→ac8,range'_succ→ac_,drop_append→ada,getElem_map→adb,getElem_zip→ade,ext_getElem→adg,perm_middle→adi,any_eq_true→adj,drop_length→adl,not_lt→ads,zipIdx_nil→adz,length_zip→adA,find?_some→adD,map_const'→adF,of_mem_zip→adN,range_succ→ad1,take_succ→ad_,lt_irrefl→aea,head?_map→aee
open PySem.Heap renaming get?_push_of_some→a9,lt_size→en,get?_push_size→er,size_push→nC,get?_update_self→OG,get?_update_other→Ux,SameBut→Vi,ExtBut→adn
open PyProof.Rows renaming arrOf→b0,wpS_bind→eK,wpS_pure→ka,pendingOf→lg,slot_tuple_getitem→n7,SortSt→pd,Keyed→pq,KeyOrd→rk,failedOf→C3,wpS_forRange→Qh,SortKind→To,wpS_get→TF,listItems_at→UC,firstOfTuple'→UL,callWith_type1→UN,seqObj→U0,wpS_mono→U1,IntsAre→Vt,gallopOf→Wc,wpS_modify→WG,pairsOf→WY,envOfC→XN,tuples'→YT,wpS_lift→Zt,AllBare→ZP,subscriptTail_builtinR→aaU,pairsOf_size→aa1,entry_list_sort→aa_,lt_str→abh,slot_list_sort→aby,args_list_sort→abz,sortedHeap_old→abA,pairsOf_toList→abJ,entry_tuple_getitem→ab2,IsTup→ab5,subscriptTail→ab8,tupleItemsOf_→ab_,sortedHeap_at→aca,listUpdate_at→acd,args_tuple_getitem→acp,keyKind'→acO,plain_sorted→acP,entry_sorted→acQ,args_sorted1→acR,kind_sorted→adq,seqEpoch_at→adv,keyKind'_eq→adw,Subscript_→adO,oneType'→adV,size_push'→adX,setArr→ad9,lt_int→aeo
open Decidable renaming decide→ei
open Nat renaming le_refl→e9,le_trans→fg,lt_of_lt_of_le→i3,zero_add→lk,ne_of_lt→m3,lt_irrefl→oe,le_of_lt→J8,lt_or_ge→Rv,pow_succ→RA,zero_le→RC,pow_le_pow_right→Uc,mod_eq_of_lt→UD,lt_succ_of_lt→UJ,le_of_lt_succ→UM,one_le_two_pow→Vg,lt_succ_self→Vm,lt_trans→Vn,lt_trichotomy→V5,ne_of_gt→X2,min_le_right→YJ,mod_eq_sub_mod→Zy,mod_lt→aah,succ_pos→aaF,le_of_eq→aaM,le_add_right→aa3,strongRecOn→abd,min_le_left→abe,add_assoc→abO,le_succ→abW,lt_of_le_of_lt→acn,pos_of_ne_zero→acs,lt_or_eq_of_le→acy,sub_self→acW,min_eq_right→adk,two_pow_pos→adB,not_lt_zero→adC,min_eq_left→adE,mul_comm→adS,mul_le_mul→adT,sub_zero→adZ,zero_mul→aed
open Array renaming length_toList→gz,getElem?_eq_getElem→kb,getElem?_toList→kc,getElem?_eq_some_iff→rg,getD_eq_getD_getElem?→zh,getElem_mem_toList→H7,getElem?_setIfInBounds_self_of_lt→UT,perm_iff_toList_perm→U2,toList_setIfInBounds→U3,size_setIfInBounds→We,toList_extract→W5,toList_filterMap→Xk,getElem?_setIfInBounds_ne→Xo,toList_push→Z2,toList_append→aag,forIn_toList→aaH,getElem?_eq_none→aa4,replicate→abc,getElem_extract→abm,mem_toList_iff→abr,toArray_toList→abB,getElem_toList→abC,all_eq_true'→acq,foldl_toList→acx,size_append→acL,toList_map→adf,toList_inj→adY,toList→aeq
open PySem.SetTable renaming below→hB,runEnd→ke,bits→lb,leap→mx,insertAt→yk,Probe→Dd,turns→QD,layClean→Xg,grown→Xl,laid→aan,slot→acb,probe→aec,fill→aek,has→aeu
open PySem.PyData renaming eqv→hH,eqvAll→ma,depth→m4,depthAll→pw,canLayAll0→wx,strOk→E1,canLay0→UU,str→UW
open Option.some renaming inj→h8,injEq→ZY
open PySem.Value renaming ref→jl,type→r4,none→Tu,int→YW,isStrOf_shape→ab0,isStrOf→ab4,str→ac2,bool→adH
open Ne renaming symm→kg
open PySem.Builtin.SmallTypes renaming nextOf→o4,ownedTupleIsFree→A2,ownedTupleHandOut→VY
open PySem.W renaming findIn→pz,emptyDict→xb,fnOf→K2,keepIn→Qo,instObj→QN,nsIn→RE,plainGet→Xy,OpenLaw→X3,plainGet_of→Ys,isFn→YH,lookIn→Y4,callWith_K→Y_,codeIn→Ze,methodObj→ZH,hasDictIn→ZV,cellsFrom_some→aaP,takerIn→aa8,makesIn→aa9,methodCall_KW→abi,plainOver→acH,specialIn→acI,kia_one→acM,handedIn→ac3,WalkO→adG,kitOne→adU,mg_of→aej
open PySem.SetTable.layClean renaming free→p0
open List.Perm renaming eq_of_pairwise→qs,append_left→Xu,append_right→aa0,trans→abb,cons→abL,swap→ad4
open Int renaming emod_lt_of_pos→tq,emod_nonneg→vu,toNat_natCast→UP,natCast_mul→adx,le_antisymm→ady
open List.cons renaming injEq→vr,inj→V6
open PySem.Builtin.Tuple renaming tupleHashOf→v3,tupleExact→z0,tupleItemsOf→RU,tupleTooMany→Zj
open Pure renaming pure→wh
open PyProof.Rows.KeyOrd renaming klt_asymm→wi,kle_refl→H4,kle_trans→J7,kle_of_klt→L6
open PySem.PassesOwn renaming never→H5
open PySem.AutoSeq1 renaming wpAny_loadPart'→PL
open PySem.NameKind renaming free→PY,cell→P6
open Classical renaming propDecidable→QF
open False renaming elim→Q1
open ForInStep renaming yield→Q5
open True renaming intro→R9
open PySem.Obj renaming data_mapFields→Su,mapSeq→Tx,isFreed_of_fields→Xr,putSet→ZD,cls_mapFields→Z0
open PySem.Manifest.ParamKind renaming posOnly→Sw,posOrKw→ad3,varPos→aef
open PySem.Builtin.Slice renaming slicePlaces→SH,sliceAdjust→VO,sliceApplied→Zh
open PySem.Builtin.Range renaming rangeSize→T1
open PySem.SetTable.below renaming go→UQ
open PySem.Str renaming ofString→Vz,empty→XI
open LawfulBEq renaming eq_of_beq→VG
open PySem.Calls renaming call_function_entry→VP,Name_function_global→Y3
open PySem.Heap.SameBut renaming update→VW
open PySem.Paired renaming length→V0,snoc→aey
open PySem.F renaming args_tuple_add_2→V1,entry_tuple_add→WI,slot_tuple_add→WW,slot_dict_getitem→ZE
open Array.Perm renaming refl→Wv
open List.Pairwise renaming nil→WU
open PySem.SetTable.probe renaming go→Xi
open Min renaming min→XP
open PySem.Around renaming under_plainId→X4,under→aaN
open Iff renaming rfl→YK
open Or renaming inr→aac,inl→abu
open Prod.mk renaming injEq→aae
open Function renaming comp→aap
open PySem.Challenge renaming pw_keyfold_k31_whole_counts→aaG
open PySem.Manifest.Receiver renaming self→aaY,none→aaZ
open PySem.SetTable.sizeAbove renaming go→abn
open Std.Legacy.Range renaming forIn_eq_forIn_range'→abF,size→aev
open Sum renaming inl→abP,inr→abQ
open PySem.SeqAt.Reads renaming unique→ace
open Exists renaming choose_spec→acw,elim→adt
open ForIn renaming forIn→acD
open PySem.Code renaming isFrame→acJ
open PySem.pickOrder renaming go→acU
open PySem.PyData.tuple renaming inj→ac1
open PySem.IsL renaming update→ac5
open PySem.SeqAt renaming eqAt_reads→ac6,EqAt→adR
open Std.Legacy renaming Range→ac9
open PySem.Shared renaming heap→adp
open PySem.Builtin.Frozenset renaming newClass→ad2,addrOf→aeh,sizeOf→aei,slot0→aep
open Eq renaming mpr→aet
open PySem.IsRange renaming new→aex
noncomputable section
set_option hygiene false in
local macro_rules|`(#[$n:num])=>do
 let some x:=(#[`((#[1])),
`(by omega),
`((#[4])),
`((by simp)),
`(by decide),
`((eG prog w)),
`((by symm)),
`((enc (po t []))),
`((eG X.prog X.w)),
`(.inl rfl),
`(Inv X pins σ H s),
`((b0 st).size),
`(o.idxOf c),
`(.loc S.length),
`(.type "list"),
`(s.heap.objs.size+1),
`(.ref s.heap.objs.size),
`(by simpa using hb),
`(At.Lu.mpr rfl),
`(s.heap.get? b),
`(X.env.cells.lookup x),
`(.str "abcdefghijklmnopqrstuvwxyz"),
`(X.env.scope.names.lookup x),
`(sortPriv% PySem.Builtin.SortState.pending)]:Array (Lean.MacroM Lean.Term))[n.getNat]?|Lean.Macro.throwUnsupported
 x
set_option hygiene false in
local macro_rules|`(tactic|rw[$n:num])=>do
 let some x:=(#[`(tactic|dsimp only),
`(tactic|split at e),
`(tactic|and_intros),
`(tactic|refine aA rfl ?_),
`(tactic|simpa using this),
`(tactic|constructor)]:Array (Lean.MacroM (Lean.TSyntax `tactic)))[n.getNat]?|Lean.Macro.throwUnsupported
 x
abbrev Ll:=PySem.W.Frag
abbrev Lm:=ax->bo->Prop
abbrev Ln:=ak (bc×PySem.Obj)
abbrev Lo:=el->a5 ax
namespace L2
open PySem PySem.Spec PyProof.Rows
noncomputable instance Z3:wt hA:=λa b=>QF (a=b)
noncomputable def keyOk:Nat->hA->eM
 |_,.int _=>a6
 |_,.str x=>E1 x
 |n+1,.tuple xs=>xs.all (keyOk n)
 |_,_=>a8
noncomputable def MS (w:hL):Nat->hA->Int
 |_,.int i=>hashInt i
 |_,.str x=>hashStr w x
 |n+1,.tuple xs=>reduceHash (v3 (xs.map (MS w n)))
 |_,_ => 0
noncomputable def AA:Nat->hA->Nat
 |n+1,.tuple xs=>(xs.map (AA n)).sum+1
 |_,_ => 1
theorem bA {n:Nat}{xs:ak hA}(h:keyOk (n+1) (.tuple xs)=a6):∀ x∈xs,keyOk n x=a6:=by rw[keyOk,SV] at h;exact h
theorem gR:∀ {n:Nat}{p:hA},keyOk n p=a6->p.canLay0=a6:=by
 intro n
 induction n with
 |zero =>
  intro p h;cases p with
  |int i=>rfl
  |str x=>rw[UU];simpa [keyOk] using h
  |_=>simp[keyOk] at h
 |succ n d =>
  intro p h;cases p with
  |int i=>rfl
  |str x=>rw[UU];simpa [keyOk] using h
  |tuple a =>
   rw[UU];have:=bA h;clear h
   induction a with
   |nil=>rfl
   |cons x a c=>rw[wx,d (this x #[3]),c λy b=>this y (by simp[b])];rfl
  |_=>simp[keyOk] at h
theorem vN:∀ {n:Nat}{p:hA},keyOk n p=a6->p.depth<=n:=by
 intro n
 induction n with
 |zero =>
  intro p h;cases p<;>first |(simp[keyOk] at h;done) |simp[m4]
 |succ n d =>
  intro p h;cases p with
  |tuple a =>
   rw[m4];have:=bA h;clear h;refine Nat.succ_le_succ ?_
   induction a with
   |nil=>rw[pw];omega
   |cons x a c=>rw[pw];exact max_le.mpr ⟨d (this x #[3]),c λy b=>this y (by simp[b])⟩
  |int i=>simp[m4]
  |str i=>simp[m4]
  |_=>simp[keyOk] at h
theorem mQ:∀ {n:Nat}{p q:hA},keyOk n p=a6->keyOk n q=a6->hH p q=ei (p=q):=by
 have str:∀ x y:el,hH (.str x) (.str y)=ei (UW x = .str y):=λx y=>by
  rw[hH];by_cases e:x=y
  ·subst e;simp
  rw[lE.mpr e,dV (λz=>e (PyData.str.inj z))]
 have int:∀ x y:Int,hH (.int x) (.int y)=ei (PyData.int x = .int y):=λx y=>by
  rw[hH];by_cases e:x=y
  ·subst e;simp
  rw[lE.mpr e,dV (λz=>e (PyData.int.inj z))]
 have b:∀ p q:hA,p≠q->a8=ei (p=q):=λp q h=>(dV h).symm;intro n
 induction n with
 |zero =>
  intro p q d c;cases p<;>first |(simp[keyOk] at d;done) |skip<;>cases q<;>first |(simp[keyOk] at c;done) |exact int _ _ |exact str _ _ |exact b _ _ (λz=>nomatch z)
 |succ n r =>
  intro p q d c;cases p with
  |tuple f =>
   cases q with
   |tuple a =>
    rw[hH];have l:=bA d;have m:=bA c;clear d c
    have k:ma f a=ei (f=a):=by
     induction f generalizing a with
     |nil=>cases a<;>simp[ma]
     |cons x f o =>
      cases a with
      |nil=>simp[ma]
      |cons y a =>
       rw[ma,r (l x #[3]) (m y #[3]),o a (λz g=>l z (by simp[g])) (λz g=>m z (by simp[g]))];by_cases e:x=y
       ·subst e;simp
       simp[e]
    rw[k];by_cases e:f=a
    ·subst e;simp
    rw[dV e,dV (λz=>e (ac1 z))]
   |int i=>rw[hH];exact b _ _ (λz=>nomatch z)
   |str i=>rw[hH];exact b _ _ (λz=>nomatch z)
   |_=>simp[keyOk] at c
  |int i =>
   cases q with
   |int j=>exact int _ _
   |str j=>rw[hH];exact b _ _ (λz=>nomatch z)
   |tuple j=>rw[hH];exact b _ _ (λz=>nomatch z)
   |_=>simp[keyOk] at c
  |str i =>
   cases q with
   |int j=>rw[hH];exact b _ _ (λz=>nomatch z)
   |str j=>exact str _ _
   |tuple j=>rw[hH];exact b _ _ (λz=>nomatch z)
   |_=>simp[keyOk] at c
  |_=>simp[keyOk] at d
theorem u_ {h h':ja}{d:bc}{o:Obj}{es ep}(u:h.get? d=ag o)(hd:o.data = .dict es ep)(k:Vi d h h'):∀ {n:Nat}{p:hA}{v:ax}{as:ak bc},keyOk n p=a6->aaq h v p as->aaq h' v p as:=by
 intro n
 induction n with
 |zero =>
  intro p v as b r;cases r with
  |int i t=>exact .int i t
  |str x t=>exact .str x t
  |_=>simp[keyOk] at b
 |succ n B =>
  intro p v as b r;cases r with
  |int i t=>exact .int i t
  |str x t=>exact .str x t
  | @tuple a D s m g as e j c f =>
   have C:a≠d:=by rintro rfl;rw[u] at e;cases e;rw[hd] at c;exact nomatch c
   refine .tuple ((k.2 a C).trans e) j c ?_;have it:=bA b;clear b e j c;generalize s.toList=l at f
   induction g generalizing l as with
   |nil=>cases f;exact .nil
   |cons x g A =>
    cases f with
    |cons w z=>exact .cons (B (it x #[3]) w) (A (λy q=>it y (by simp[q])) _ z)
  |_=>simp[keyOk] at b
section
variable {prog:e8}{w:hL}{A:iv}{E:Lm}{s:bo}
theorem xY:∀ {n:Nat}{p:hA}{A:iv}{s:bo}{v:ax}{as:ak bc}{Q:Int->bo->Prop},keyOk n p=a6->A.units+n<nq->aaq s.heap v p as->Q (MS w n p) { s with toks:=s.toks+AA n p } ->
  dr #[5] A (pyHash v) Q E s:=by
 intro n
 induction n with
 |zero =>
  intro p A s v as Q d y r h;cases r with
  |int i t=>exact aar h
  |str x t=>exact aas h
  |_=>simp[keyOk] at d
 |succ n z =>
  intro p A s v as Q d y r h;cases r with
  |int i t=>exact aar h
  |str x t=>exact aas h
  | @tuple a o items m u as l hc hd C =>
   have c:s.TypeIs (.ref a) "tuple":=⟨o,l,hc⟩;have it:=bA d;unfold pyHash
   first |unfold pyHashByItsType |skip
   first |refine av (wpAny_cRoomFor_or (.inr #[0]) ?_) |skip
   refine av (Wh c F.slot_tuple_hash.lookup ?_);show dr _ _ (if (ag (Value.builtin "tuple.__hash__")==ag Tu)=a6 then _ else _) Q E s;rw[cn (by rw[beq_builtin_none];exact Ww)];refine av (Wh c F.slot_tuple_hash.lookup ?_);show dr _ _ (callSpecialIfBoundUnlessNone? (.ref a) "__hash__" _ >>= _) Q E s;refine av (wpAny_callSpecialIfBoundUnlessNone?_slot c F.slot_tuple_hash (mi F.slot_tuple_hash c F.entry_tuple_hash ?_ (F.args_tuple_hash_1 _)));show dr _ _ (RU (.ref a) >>= _) _ _ s;refine av (Wz l hd ?_);refine av ?_;rw[← aaH]
   refine ON _
    (λrest (b:hO Int) e => ∃ done left bs,u=done++left/\X1 s.heap rest left bs/\b.toList=done.map (MS w n)/\e={ s with toks:=s.toks+(done.map (AA n)).sum })
    _ ?_ ?_ _ _ ⟨[],u,as,rfl,C,rfl,rfl⟩
   ·rintro x rest b e ⟨done,left,bs,rfl,f,hb,rfl⟩;cases f with
    | @cons _ _ k q D g B j =>
     refine av (z (A:=A.in1) (it k #[3]) (by show A.units+1+n<nq;omega) (s:={ s with toks:=s.toks+(done.map (AA n)).sum }) B ?_)
     first
      |exact ay ⟨done++[k],q,g,by simp,j,by simp[hb],by simp[abO]⟩
      |exact av (ay (ay ⟨done++[k],q,g,by simp,j,by simp[hb],by simp[abO]⟩))
   rintro b e ⟨done,left,bs,rfl,f,hb,rfl⟩;cases f;rw[ia] at h;show dr _ _ (retInt (v3 b.toList)) _ _ _;rw[hb];refine wpAny_ret_mkInt ?_;show dr _ _ (if (ei (-(2:Int) ^ 63<=v3 (done.map (MS w n)))&&ei (v3 (done.map (MS w n))<2 ^ 63))=a6 then _ else _) Q E _;rw[MS,AA] at h;unfold reduceHash at h;by_cases hr:(ei (-(2:Int) ^ 63<=v3 (done.map (MS w n)))&&ei (v3 (done.map (MS w n))<2 ^ 63))=a6
   ·rw[cc hr];rw[cc hr] at h;exact ay (by simpa [abO] using h)
   rw[cn hr];rw[cn hr] at h;exact av (O8 (ay (by simpa [abO] using h)))
  |_=>simp[keyOk] at d
theorem vc:∀ {n:Nat}{p:hA}{s:bo}{v:ax}{as:ak bc}{Q:eM->bo->Prop},keyOk n p=a6->aaq s.heap v p as->Q a6 s->dr #[5] A (aat n v) Q E s:=by
 intro n
 induction n with
 |zero =>
  intro p s v as Q b r h;cases r with
  |int i t=>unfold aat;exact ay h
  |str x t=>unfold aat;exact ay h
  |_=>simp[keyOk] at b
 |succ n z =>
  intro p s v as Q b r h;cases r with
  |int i t=>unfold aat;exact ay h
  |str x t=>unfold aat;exact ay h
  | @tuple a o items m B as f hc hd D =>
   have e:s.TypeIs (.ref a) "tuple":=⟨o,f,hc⟩;have it:=bA b;unfold aat;refine av (Wh e F.slot_tuple_eq.lookup ?_);show dr _ _ (isInstance (.ref a) (.type "tuple") >>= _) _ _ s;refine av (Vj e abf ?_);simp only[uk,gh,la];refine av (zv f hd ?_);refine av ?_;show dr _ _ (acD items _ _) _ _ s;rw[← aaH];refine ON _ (λrest r c=>r.1=a4/\c=s/\∃ left bs,X1 s.heap rest left bs/\∀ x∈left,keyOk n x=a6) _ ?_ ?_ _ _ ⟨rfl,rfl,B,as,D,it⟩
   ·rintro v rest r c ⟨hr,rfl,left,bs,j,d⟩;cases j with
    | @cons _ _ k u I g C l =>
     refine av (z (d k #[3]) C ?_);simp only[uk,gh,la];exact ay ⟨rfl,rfl,u,g,l,λy q=>d y (by simp[q])⟩
   rintro⟨G,H⟩ c ⟨hr,rfl,_⟩;simp only at hr;subst hr;exact ay h
  |_=>simp[keyOk] at b
end
noncomputable def aR (prog:e8) (w:hL):HeapKind prog w hA where
 is:=λh p a=>keyOk 8 p=a6/\∃ e,aaq h (.ref a) p e
 hash:=MS w 8
 draws:=AA 8
 room:=λA=>A.units+8<nq
 inj:=λ⟨c,e,d⟩ ⟨_,bs,f⟩=>ace _ _ _ _ _ (gR c) d f
 keeps:=λ⟨c,e,d⟩ k hd j=>⟨c,e,u_ k hd j c d⟩
 pyHash:=λg ⟨c,e,d⟩ h=>xY c g d h
 eqBool:=λ{A E s x y a b Q} g ⟨c,e,d⟩ ⟨i,bs,f⟩ h=>SeqAt.eqBoolOverData prog w A E s _ _ _ _ _ _ Q d f (gR c) (gR i) (by have:=vN c;omega) (by rw[mQ c i];exact h)
 quiet:=λ⟨c,e,d⟩ h=>vc c d h
abbrev Key:=Sum Int el
noncomputable def rW:Key->ax->eM
 | .inl k,v=>Value.isInt k v
 | .inr x,v=>ab4 x v
noncomputable def J5 (w:hL):Key->Int
 | .inl k=>hashInt k
 | .inr x=>hashStr w x
theorem bB:∀ {k:Key}{v:ax},rW k v=a6->(∃ i t,k=abP i/\v=YW i t)∨(∃ x t,k=abQ x/\v=ac2 x t)
 | .inl i,v,h=>by
  obtain⟨t,e⟩:=Value.isInt_shape (k:=i) (v:=v) h;exact .inl ⟨i,t,rfl,e⟩
 | .inr x,v,h=>by
  obtain⟨t,e⟩:=ab0 (x:=x) (v:=v) h;exact .inr ⟨x,t,rfl,e⟩
theorem Bc (i:Int)(t:Tok):rW (.inl i) (.int i t)=a6:=by simp[rW,Value.isInt]
theorem Bb (x:el)(t:Tok):rW (.inr x) (.str x t)=a6:=by simp[rW,ab4]
theorem Hb (a b:Int):ei ((abP a:Key)=abP b)=(a==b):=by
 by_cases e:a=b
 ·subst e;simp
 have h:¬ (abP a:Key)=abP b:=λq=>e (Sum.inl.inj q);rw[dV h];exact(lE.mpr e).symm
theorem G9 (a b:el):ei ((abQ a:Key)=abQ b)=ei (a=b):=by
 by_cases e:a=b
 ·subst e;simp
 have h:¬ (abQ a:Key)=abQ b:=λq=>e (Sum.inr.inj q);rw[dV h,dV e]
theorem Ha (a:Int)(b:el):ei ((abP a:Key)=abQ b)=a8:=dV (λq=>nomatch q)
theorem G_ (a:el)(b:Int):ei ((abQ a:Key)=abP b)=a8:=dV (λq=>nomatch q)
noncomputable def bG (prog:e8)(w:hL):aem prog w Key where
 is:=rW
 hash:=J5 w
 inj:=λv a b g hb=>by
  rcases bB g with ⟨i,t,rfl,rfl⟩ |⟨x,t,rfl,rfl⟩
  ·rcases bB hb with ⟨j,u,rfl,e⟩ |⟨y,u,rfl,e⟩
   ·injection e with c _;rw[c]
   exact nomatch e
  rcases bB hb with ⟨j,u,rfl,e⟩ |⟨y,u,rfl,e⟩
  ·exact nomatch e
  injection e with c _;rw[c]
 byValue:=λk v h=>by
  rcases bB h with ⟨i,t,rfl,rfl⟩ |⟨x,t,rfl,rfl⟩<;>rfl
 pyHash:=λd h=>by
  rcases bB d with ⟨i,t,rfl,rfl⟩ |⟨x,t,rfl,rfl⟩
  ·exact aar h
  exact aas h
 eqBool:=λf d h=>by
  rcases bB f with ⟨i,t,rfl,rfl⟩ |⟨x,t,rfl,rfl⟩
  ·rcases bB d with ⟨j,u,rfl,rfl⟩ |⟨y,u,rfl,rfl⟩
   ·rw[Hb] at h;exact Xx h
   rw[Ha] at h;exact SeqAt.EqAt.int_str i t y u _ _ _ _ h
  rcases bB d with ⟨j,u,rfl,rfl⟩ |⟨y,u,rfl,rfl⟩
  ·rw[G_] at h;exact SeqAt.EqAt.str_int x t j u _ _ _ _ h
  rw[G9] at h;exact wpAny_eqBool_str h
 «strs»:=λk x t v h=>by
  rcases bB h with ⟨i,u,rfl,e⟩ |⟨y,u,rfl,e⟩
  ·exact nomatch e
  injection e with c _
  subst c;cases v<;>rfl
theorem vz (prog:e8)(w:hL)(i:Int)(t:Tok):(bG prog w).is (.inl i) (.int i t)=a6:=Bc i t
theorem vy (prog:e8)(w:hL)(x:el)(t:Tok):(bG prog w).is (.inr x) (.str x t)=a6:=Bb x t
inductive V where
 |LR |bl (b:eM) |int (i:Int) |str (x:el) |Ve (b:hO UInt8) |Vf (b:UInt64) |ref (a:bc) |ty (n:Uk)
 deriving DecidableEq
noncomputable def RelV:V->ax->Prop
 | .LR,u=>u=Tu
 | .bl b,u=>u=adH b
 | .int i,u => ∃ t,u=YW i t
 | .str x,u => ∃ t,u=ac2 x t
 | .Ve b,u => ∃ t,u=Value.bytes b t
 | .Vf b,u => ∃ t,u=Value.float b t
 | .ref a,u=>u=jl a
 | .ty n,u=>u=r4 n
abbrev Vals:ak V->ak ax->Prop:=lC RelV
theorem Vals.length {xs:ak V}{us:ak ax}(r:Vals xs us):xs.length=us.length:=V0 r
theorem Vals.get:∀ {xs:ak V}{us:ak ax}{i:Nat}{x:V},Vals xs us->xs[i]?=ag x->∃ u,us[i]?=ag u/\RelV x u
 |_,_,_,_,.nil,e=>by simp at e
 |_,_,0,_,.cons r _,e=>by simp at e;subst e;exact⟨_,rfl,r⟩
 |_,_,i+1,x,.cons _ t,e=>by
  obtain⟨u,a,b⟩:=Vals.get (i:=i) (x:=x) t (by simpa using e);exact⟨u,by simpa using a,b⟩
theorem Vals.set {x:V}{u:ax}(r:RelV x u):∀ {xs:ak V}{us:ak ax}(i:Nat),Vals xs us->Vals (xs.set i x) (us.set i u)
 |_,_,_,.nil => .nil
 |_,_,0,.cons _ t => .cons r t
 |_,_,i+1,.cons q t => .cons q (Vals.set r i t)
theorem Vals.append:∀ {xs ys:ak V}{us ws:ak ax},Vals xs us->Vals ys ws->Vals (xs++ys) (us++ws)
 |_,_,_,_,.nil,s=>s
 |_,_,_,_,.cons r t,s => .cons r (Vals.append t s)
theorem Vals.take:∀ {xs:ak V}{us:ak ax}(n:Nat),Vals xs us->Vals (xs.take n) (us.take n)
 |_,_,0,_ => .nil
 |_,_,_+1,.nil => .nil
 |_,_,n+1,.cons r t => .cons r (Vals.take n t)
theorem Vals.drop:∀ {xs:ak V}{us:ak ax}(n:Nat),Vals xs us->Vals (xs.drop n) (us.drop n)
 |_,_,0,r=>r
 |_,_,_+1,.nil => .nil
 |_,_,n+1,.cons _ t=>Vals.drop n t
noncomputable def Na:a5 V->a5 ax->Prop
 |ag v,ag u=>RelV v u
 |a4,a4=>True
 |_,_=>False
def KV {a:Type}:ak (a×V)->ak (a×ax)->Prop:=lC λ(p : a×V) (q : a×ax)=>p.1=q.1/\RelV p.2 q.2
noncomputable def kV:Key->V
 | .inl i => .int i
 | .inr x => .str x
inductive HO where
 |lst (xs:ak V)
 |tup (xs:ak V)
 |dK (kvs:ak (Key×V)) |dT (kvs:ak (ak Key×V)) |dN (kvs:ak (hA×bc×V))
 |set (S:Int->eM) (n:Nat)
 |ins (C dx:bc) (fs:ak (el×V))
 |own (x:bc)
 |xd (fs:ak (el×V))
 |met (f x:bc)
 |X7 (lo hi:Int)
 |QB (o:Obj) (u:HO)
 |TH (ps:hO ax)
 |ext (φ:ja->Prop)
abbrev Hp:=bc->a5 HO
noncomputable def upd (H:Hp) (a:bc) (o:HO):Hp:=λb=>if b=a then ag o else H b
theorem LD {H:Hp}{a:bc}{o:HO}:upd H a o a=ag o:=by unfold upd;rw[cc rfl]
theorem aH {H:Hp}{a b:bc}{o:HO}(h:b≠a):upd H a o b=H b:=by unfold upd;rw[cn h]
theorem IL {H:Hp}{a b:bc}{o u:HO}(h:H a=ag o)(h':H b=ag u)(d:o≠u):a≠b:=by intro e;subst e;rw[h] at h';exact d (h8 h')
theorem aM {H:Hp}{a b:bc}{o:HO}(h:H a=ag o)(h':H b=a4):a≠b:=by intro e;subst e;rw[h] at h';cases h'
def O5 (h:ja)(a:bc)(its:hO ax):Prop:=∃ n,h.get? a=ag { cls:=.type "tuple",data:=.seq its n }
theorem O5.tup {h:ja}{a:bc}{its:hO ax}(x:O5 h a its):ab5 h a its:=let ⟨n,e⟩:=x;⟨_,e,rfl,n,rfl⟩
theorem O5.new (h:ja)(its:hO ax):O5 (h.push { cls:=.type "tuple",data:=.seq its }) h.objs.size its:=⟨_,er _ rfl⟩
section
variable (P:e8) (w:hL)
noncomputable def L9 (H:Hp)(h:ja)(a:bc):HO->Prop
 | .lst c=>c.length<=da/\∃ (its:ak ax) (n:Nat),Vals c its/\h.get? a=ag { cls:=#[14],data:=.seq its.toArray n }
 | .tup c=>c.length<=da/\∃ its:ak ax,Vals c its/\O5 h a its.toArray
 | .dK b=>b.length<=da/\(a==RV)=a8/\∃ i,KV b i/\h.DictOf (bG P w) a i
 | .dT b=>b.length<=da/\(a==RV)=a8/\∃ c:ak (ak Key×bc×ax),
   lC (λ(p:ak Key×V) (q:ak Key×bc×ax)=>p.1=q.1/\H q.2.1=ag (.tup (p.1.map kV))/\RelV p.2 q.2.2) b c /\
   ∃ o es ep,h.get? a=ag o/\o.ExactDict/\o.data = .dict es ep/\es.toList=c.map (entryOfKey (abR (bG P w)))/\(c.map (·.1)).Nodup
 | .dN b=>b.length<=da/\(a==RV)=a8/\∃ c:ak (hA×bc×ax),lC (λp q=>p.1=q.1/\p.2.1=q.2.1/\RelV p.2.2 q.2.2) b c /\
   ∃ o es ep,h.get? a=ag o/\o.ExactDict/\o.data = .dict es ep/\es.toList=c.map (entryOfKey (aR P w))/\(c.map (·.1)).Nodup
 | .set S n=>h.SetOf (intKind P w) a S n
 | .ins C e fs=>H e=ag (.own a)/\fs.length<=1000/\e≠a/\h.get? a=ag (QN C e) /\
   ∃ d,h.Ns1 e d/\(∀ f,Na (fs.lookup f) (d f))/\acE d (fs.map (·.1))
 | .own _ => ∃ o,h.get? a=ag o
 | .xd fs => ∃ d,h.Ns1 a d/\∀ f,Na (fs.lookup f) (d f)
 | .X7 lo l => ∃ t u v,h.get? a=ag { cls:=.type "range",data:=.fields #[.int lo t,.int l u,.int 1 v] }
 | .QB o u=>h.get? a=ag o/\L9 H h a u
 | .TH m=>h.get? a=ag { cls:=.none,data:=.fields m }
 | .met f x=>h.get? a=ag (ZH (.ref f) (.ref x))
 | .ext g => g h/\(∃ o,h.get? a=ag o)/\∀ j k:ja,g j->(∀ o,j.get? a=ag o->k.get? a=ag o)->g k
def NL (H:Hp)(h:ja):Prop:=∀ a o,H a=ag o->L9 P w H h a o
end
section
variable {P:e8}{w:hL}{H H':Hp}{h h':ja}{a:bc}{o:HO}
theorem L9.lt (x:L9 P w H h a o):a<h.objs.size:=by
 cases o with
 |lst c=>obtain⟨_,_,_,_,e⟩:=x;exact en e
 |tup c=>obtain⟨_,_,_,_,e⟩:=x;exact en e
 |dK b=>obtain⟨_,_,_,_,o,_,_,e,_⟩:=x;exact en e
 |dT b=>obtain⟨_,_,_,_,o,_,_,e,_⟩:=x;exact en e
 |dN b=>obtain⟨_,_,_,_,o,_,_,e,_⟩:=x;exact en e
 |set S n=>obtain⟨o,_,_,_,e,_⟩:=x;exact en e
 |ins C g fs=>obtain⟨_,_,_,e,_⟩:=x;exact en e
 |own y=>obtain⟨_,e⟩:=x;exact en e
 |xd fs=>obtain⟨_,⟨_,_,_,e,_⟩,_⟩:=x;exact en e
 |X7 lo i=>obtain⟨_,_,_,e⟩:=x;exact en e
 |QB d u=>obtain⟨e,_⟩:=x;exact en e
 |TH k=>exact en (show h.get? a=ag _ from x)
 |met f y=>exact en (show h.get? a=ag _ from x)
 |ext j=>obtain⟨_,⟨_,e⟩,_⟩:=x;exact en e
theorem Paired.Pn {α c:Type}{F G : α->c->Prop}:∀ {l₁:ak α}{l₂:ak c},lC F l₁ l₂->(∀ a b,F a b->G a b)->lC G l₁ l₂
 |_,_,.nil,_ => .nil
 |_,_,.cons r t,f => .cons (f _ _ r) (Paired.Pn t f)
theorem L9.OC (x:L9 P w H h a o)(k:∀ b u,(b=a∨H b=ag (.own a))->h.get? b=ag u->h'.get? b=ag u)
  (B:∀ b,H b=ag (.own a)->H' b=ag (.own a)) (E:∀ b xs,H b=ag (.tup xs)->H' b=ag (.tup xs)):L9 P w H' h' a o:=by
 induction o with
 |lst xs=>obtain⟨z,its,n,r,e⟩:=x;exact⟨z,its,n,r,k _ _ (#[9]) e⟩
 |tup xs=>obtain⟨z,its,r,n,e⟩:=x;exact⟨z,its,r,n,k _ _ (#[9]) e⟩
 |dK i=>obtain⟨z,y,A,r,g,es,ep,e,c⟩:=x;exact⟨z,y,A,r,g,es,ep,k _ _ (#[9]) e,c⟩
 |dT i =>
  obtain⟨z,y,xs,r,g,es,ep,e,c⟩:=x;exact⟨z,y,xs,Paired.Pn r λp q z=>⟨z.1,E _ _ z.2.1,z.2.2⟩,g,es,ep,k _ _ (#[9]) e,c⟩
 |dN i=>obtain⟨z,y,xs,r,g,es,ep,e,c⟩:=x;exact⟨z,y,xs,r,g,es,ep,k _ _ (#[9]) e,c⟩
 |set S n=>obtain⟨g,es,ep,t,e,c⟩:=x;exact⟨g,es,ep,t,k _ _ (#[9]) e,c⟩
 |ins C F fs =>
  obtain⟨d,z,ne,e,l,⟨j,es,ep,s,c⟩,r⟩:=x;exact⟨B _ d,z,ne,k _ _ (#[9]) e,l,⟨j,es,ep,k _ _ (.inr d) s,c⟩,r⟩
 |own y=>obtain⟨g,e⟩:=x;exact⟨g,k _ _ (#[9]) e⟩
 |xd fs=>obtain⟨l,⟨j,es,ep,e,c⟩,r⟩:=x;exact⟨l,⟨j,es,ep,k _ _ (#[9]) e,c⟩,r⟩
 |X7 lo G=>obtain⟨t,u,v,e⟩:=x;exact⟨t,u,v,k _ _ (#[9]) e⟩
 |QB g u D=>obtain⟨e,q⟩:=x;exact⟨k _ _ (#[9]) e,D q⟩
 |TH m =>
  have e:h.get? a=ag { cls:=.none,data:=.fields m }:=x;show h'.get? a=ag { cls:=.none,data:=.fields m };exact k a _ (#[9]) e
 |met f y =>
  have e:h.get? a=ag (ZH (.ref f) (.ref y)):=x;show h'.get? a=ag (ZH (.ref f) (.ref y));exact k a _ (#[9]) e
 |ext I=>obtain⟨p,⟨o,e⟩,st⟩:=x;exact⟨st _ _ p λo q=>k _ _ (#[9]) q,⟨o,k _ _ (#[9]) e⟩,st⟩
theorem NL.lt (x:NL P w H h)(e:H a=ag o):a<h.objs.size:=(x a o e).lt
theorem NL.fresh (x:NL P w H h)(e:h.objs.size<=a):H a=a4:=by
 cases q:H a with
 |none=>rfl
 |some u=>exact ib (i3 (x.lt q) e) (oe _)
theorem NL.kept (x:NL P w H h)(k:∀ b u,h.get? b=ag u->h'.get? b=ag u):NL P w H h':=λa o e =>
 (x a o e).OC (λb u _ q=>k b u q) (λ_ q=>q) λ_ _ q=>q
theorem NL.laid (x:NL P w H h)(k:∀ b u,h.get? b=ag u->h'.get? b=ag u)(f:h.objs.size<=a)(new:L9 P w (upd H a o) h' a o):NL P w (upd H a o) h':=λb u e=>by
 have d:=x.fresh f;by_cases hb:b=a
 ·subst hb;rw[LD] at e;cases e;exact new
 rw[aH hb] at e;exact(x b u e).OC (λc v _ q=>k c v q) (λc q=>by rw[aH (aM q d)];exact q) λc g q=>by rw[aH (aM q d)];exact q
end
def Rd (H:Hp)(a:bc)(u:HO):Prop:=H a=ag u∨∃ o,H a=ag (.QB o u)
theorem Rd.ok {P:e8}{w:hL}{H:Hp}{h:ja}{a:bc}{u:HO}(r:Rd H a u)(x:NL P w H h):L9 P w H h a u:=by
 rcases r with r |⟨o,r⟩
 ·exact x a u r
 obtain⟨_,q⟩:=x a _ r;exact q
noncomputable def VI:a5 HO->Prop
 |ag (.lst _)=>True
 |ag (.dK _)=>True
 |ag (.dT _)=>True
 |ag (.dN _)=>True
 |ag (.set _ _)=>True
 |ag (.ins _ _ _)=>True
 |ag (.ext _)=>True
 |_=>False
section
variable {P:e8}{w:hL}{H:Hp}{h h':ja}{x e:bc}{o':HO}
theorem NL.write (ok:NL P w H h)(a:VI (H x))(i:e=x∨H e=ag (.own x))(k:∀ b u,b≠e->h.get? b=ag u->h'.get? b=ag u)(m:∃ u,h'.get? e=ag u)
  (new:L9 P w (upd H x o') h' x o'):NL P w (upd H x o') h':=λb u q=>by
 have j:∀ c y,H c=ag (.own y)->c≠x:=λc y r z=>by subst z;rw[r] at a;exact a
 have l:∀ c f,H c=ag (.tup f)->c≠x:=λc f r z=>by subst z;rw[r] at a;exact a
 by_cases hb:b=x
 ·subst hb;rw[LD] at q;cases q;exact new
 rw[aH hb] at q;by_cases d:b=e
 ·have g:H b=ag (.own x):=by
   rcases i with z |z
   ·exact ib (d.trans z) hb
   rw[d];exact z
  rw[q] at g;cases g;obtain⟨v,n⟩:=m;exact⟨v,by rw[d];exact n⟩
 refine(ok b u q).OC (λc v hc r=>k c v ?_ r) (λc r=>by rw[aH (j c b r)];exact r) λc f r=>by rw[aH (l c f r)];exact r
 rcases hc with rfl |hc
 ·exact d
 rintro rfl;rcases i with z |z
 ·exact j c b hc z
 rw[hc] at z;cases z;exact hb rfl
end
structure Un (fs ex:ak bc) (H H':Hp) (h h':ja):Prop where
 keep:∀ b o,h.get? b=ag o->H b=a4->b∉fs->b∉ex->h'.get? b=ag o
 slot:∀ b o,h.get? b=ag o->H b=a4->b∈fs->b∉ex->∃ sl,h'.get? b=ag { o with slots:=sl }
 free:∀ b o,h.get? b=ag o->H b=a4->b∉ex->H' b=a4
 there:∀ b o,h.get? b=ag o->b∉ex->∃ o',h'.get? b=ag o'
 Po:∀ b xs,H b=ag (.tup xs)->H' b=ag (.tup xs)
 O6:∀ b o u,H b=ag (.QB o u)->H' b=ag (.QB o u)
 Pp:∀ b ps,H b=ag (.TH ps)->∃ more,H' b=ag (.TH (ps++more))
section
variable {fs Z4 ex ex':ak bc}{H H1 H2:Hp}{h h1 h2 h':ja}{a x e:bc}{o:HO}
theorem Un.any (u:Un fs ex H H1 h h1){b:bc}{a:Obj}(q:h.get? b=ag a)(n:H b=a4)(c:b∉ex):∃ d,h1.get? b=ag { a with slots:=d }:=by
 by_cases hb:b∈fs
 ·exact u.slot b a q n hb c
 exact⟨a.slots,u.keep b a q n hb c⟩
theorem Un.kept (k:∀ b u,h.get? b=ag u->h'.get? b=ag u):Un fs ex H H h h':=
 ⟨λb a q _ _ _=>k b a q,λb a q _ _ _=>⟨a.slots,k b a q⟩,λ_ _ _ n _=>n,λb a q _=>⟨a,k b a q⟩,λ_ _ q=>q,λ_ _ _ q=>q,λ_ c q=>⟨#[],by rw[q];simp⟩⟩
theorem Un.refl:Un fs ex H H h h:=Un.kept λ_ _ q=>q
theorem Un.laid (k:∀ b u,h.get? b=ag u->h'.get? b=ag u)(d:h.objs.size<=a)(c:H a=a4):Un fs ex H (upd H a o) h h' where
 keep:=λb u q _ _ _=>k b u q
 slot:=λb u q _ _ _=>⟨u.slots,k b u q⟩
 free:=λb u q n _=>by rw[aH (m3 (i3 (en q) d))];exact n
 there:=λb u q _=>⟨u,k b u q⟩
 Po:=λb e q=>by rw[aH (aM q c)];exact q
 O6:=λb u e q=>by rw[aH (aM q c)];exact q
 Pp:=λb f q=>⟨#[],by rw[aH (aM q c),q];simp⟩
theorem Un.write (a:VI (H x))(j:e=x∨H e=ag (.own x))(k:∀ b u,b≠e->h.get? b=ag u->h'.get? b=ag u)(i:∃ u,h'.get? e=ag u):Un fs ex H (upd H x o) h h':=by
 have d:∀ b,H b=a4->b≠x:=λb n z=>by subst z;rw[n] at a;exact a
 have hb:∀ b,H b=a4->b≠e:=λb n z=>by
  subst z;rcases j with r |r
  ·exact d b n r
  rw[n] at r;cases r
 have c:∀ b u,H b=ag u->¬ VI (ag u)->b≠x:=λb u q g z=>by subst z;rw[q] at a;exact g a
 refine⟨λb u q n _ _=>k b u (hb b n) q,λb u q n _ _=>⟨u.slots,k b u (hb b n) q⟩,λb u q n _=>by rw[aH (d b n)];exact n,λb u q _=>?_,
  λb l q=>by rw[aH (c b _ q λz=>z)];exact q,λb u l q=>by rw[aH (c b _ q λz=>z)];exact q,λb m q=>⟨#[],by rw[aH (c b _ q λz=>z),q];simp⟩⟩
 by_cases f:b=e
 ·subst f;exact i
 exact⟨u,k b u f q⟩
end
noncomputable def Xp (h:ja)(H:Hp):ak bc:=(ew h.objs.size).filter λa=>(H a).isSome
noncomputable def t_ (h:ja)(H:Hp):ja:=PySem.W.hideAll h (Xp h H)
theorem Bi (h:ja)(H:Hp):(t_ h H).objs.size=h.objs.size:=PySem.W.hideAll_size _ _
theorem C4 {h:ja}{H:Hp}{b:bc}{o:Obj}(e:h.get? b=ag o)(n:H b=a4):(t_ h H).get? b=ag o:=
 PySem.W.hideAll_get _ e λa=>by
  have q:(H b).isSome=a6:=(Yq.mp a).2;rw[n] at q;simp at q
theorem EJ {h:ja}{H:Hp}{b:bc}{o:Obj}(e:(t_ h H).get? b=ag o):h.get? b=ag o/\H b=a4:=by
 have a:h.get? b=ag o:=PySem.W.of_hideAll (Xp h H) e;refine⟨a,?_⟩;cases q:H b with
 |none=>rfl
 |some x =>
  have c:b∈Xp h H:=Yq.mpr ⟨SJ.mpr (en a),by simp[q]⟩;have z:(t_ h H).get? b=a4:=PySem.W.hideAll_none (Xp h H) c;rw[z] at e;cases e
noncomputable def Fz (g h:ja)(L:bc):Ln:=(ew h.objs.size).filterMap λa=>if a=L∨(g.get? a).isSome=a6 then a4 else (h.get? a).map λo=>(a,o)
noncomputable def rest (g h:ja)(L d:bc):Ln:=(Fz g h L).filter λp=>ei (p.1≠d)
structure Mod (K:Ll) (mg:Lo) (base:ja):Prop where
 VL:K.In base
 glob:base.Ns my mg
 blt:∃ mb,base.Ns YY mb/\∀ x:el,x≠"__name__"->mb x=n0 x
 nolimit:base.NoLimit
structure Cx where
 prog:e8
 w:hL
 K:Ll
 mg:Lo
 base:ja
 A:iv
 N:ak el
 s₀:bo
 H₀:Hp
 env:Env
 outer:ak Env
 stack:ak Env
 ex:ak bc
 fn:el->eM
 calm:eM
 pn:Ln
 xe:Lm
noncomputable def QU (l:ak Env):ak bc:=l.filterMap (·.frame)
abbrev Cx.fs (X:Cx):ak bc:=QU X.outer
def VM (sc:ku)(x:el):Prop:=sc.names.lookup x=ag .local∨sc.names.lookup x=ag .cell∨sc.names.lookup x=ag .free
def Loc (sc:ku)(x:el):Prop:=sc.names.lookup x=ag .local∨sc.names.lookup x=ag .cell
def Look (env:Env)(h:ja)(m:Lo)(x:el)(u:ax):Prop:=
 (env.kindOf x=ag .local/\m x=ag u)∨((env.kindOf x=ag .cell∨env.kindOf x=ag .free)/\∃ c,env.cells.lookup x=ag c/\h.IsCell c (ag u))
structure Cx.Ok (X:Cx):Prop where
 mod:Mod X.K X.mg X.base
 kind:X.env.scope.kind = .function
 glob:X.env.globals=my
 blt:X.env.builtins=YY
 above:X.s₀.heap.objs.size<=X.env.locals
 inj:∀ x y c,X.env.cells.lookup x=ag c->X.env.cells.lookup y=ag c->x=y
 has:∀ x,(X.env.kindOf x=ag .cell∨X.env.kindOf x=ag .free)->∃ c,X.env.cells.lookup x=ag c
 VN:∀ x c,X.fn x=a6->X.env.cells.lookup x=ag c->X.s₀.heap.objs.size<=c
 hd:X.calm=a6->X.A.handled=a4
 frames:X.A.frames=ag X.stack
 Xq:X.stack=X.outer∨(X.stack=X.env::X.outer/\X.env.frame=ag X.env.locals)
 Z5:∀ b∈X.ex,b≠X.env.locals/\∀ x c,X.env.cells.lookup x=ag c->c≠b
 bs:∀ b o,X.base.get? b=ag o->X.s₀.heap.get? b=ag o/\X.H₀ b=a4
 SQ:X.base.objs.size<=X.s₀.heap.objs.size
 RL:∀ b o,X.base.get? b=ag o->b∉X.ex
 SU:∀ b∈X.ex,b∉X.fs
 Oo:X.s₀.heap.FunFrames X.base X.outer
 Ur:∀ b∈X.fs,X.H₀ b=a4
structure Inv (X:Cx) (pins:Ln) (σ:ak (a5 V)) (H:Hp) (s:bo):Prop where
 ok:X.Ok
 os:s.os=X.s₀.os
 bare:ZP s.gens
 base:Un X.fs X.ex X.H₀ H X.s₀.heap s.heap
 loc:∃ m,s.heap.Ns X.env.locals m/\∀ (i:Nat) (x:el) (v:V),X.N[i]?=ag x->σ[i]?=ag (ag v)->VM X.env.scope x->∃ u,RelV v u/\Look X.env s.heap m x u
 cell:∀ x c,X.env.cells.lookup x=ag c->∃ v,s.heap.IsCell c v
 free:H X.env.locals=a4
 NA:∀ x c,X.env.cells.lookup x=ag c->H c=a4
 pin:∀ p∈X.pn++pins,s.heap.get? p.1=ag p.2/\H p.1=a4/\p.1≠X.env.locals/\p.1∉X.fs/\∀ v,p.2.data≠.cell v
 LW:NL X.prog X.w H s.heap
 len : σ.length=X.N.length
section
variable {X:Cx}{pins:Ln}{σ:ak (a5 V)}{H H':Hp}{s:bo}{h':ja}
theorem Cx.Ok.X9 (ok:X.Ok){b:bc}{o:Obj}(e:X.base.get? b=ag o):b∉X.fs:=λhb=>by have:=(ok.Oo.mem hb).1;rw[e] at this;cases this
theorem Inv.bs (I:#[10]):∀ b o,X.base.get? b=ag o->#[19]=ag o/\H b=a4:=λb o e =>
 ⟨I.base.keep b o (I.ok.bs b o e).1 (I.ok.bs b o e).2 (I.ok.X9 e) (I.ok.RL b o e),I.base.free b o (I.ok.bs b o e).1 (I.ok.bs b o e).2 (I.ok.RL b o e)⟩
theorem Inv.bk (I:#[10]):∀ b o,X.base.get? b=ag o->#[19]=ag o:=λb o e=>(I.bs b o e).1
theorem Inv.mod (I:#[10]):Mod X.K X.mg X.base:=I.ok.mod
theorem Inv.Pq (I:#[10]):X.K.In s.heap:=I.ok.mod.VL.keeps I.bk
theorem Inv.lt (I:#[10]):X.env.locals<s.heap.objs.size:=let ⟨_,a,_⟩:=I.loc;a.lt
theorem Inv.sz (I:#[10]):X.s₀.heap.objs.size<=s.heap.objs.size:=fg I.ok.above (J8 I.lt)
theorem Inv.X_ (I:#[10]){a:bc}(h:s.heap.objs.size<=a):a∉X.fs:=λhb=>by obtain⟨_,o,b,_⟩:=I.ok.Oo.mem hb;exact ib (i3 (en b) (fg I.sz h)) (oe _)
theorem Inv.Us (I:#[10]):∀ x c,#[20]=ag c->c≠X.env.locals:=λx c e z=>by obtain⟨v,o,a,hd⟩:=I.cell x c e;obtain⟨m,⟨f,es,ep,d,b,_⟩,_⟩:=I.loc;rw[z,d] at a;cases a;rw[b] at hd;cases hd
theorem Inv.Oo (I:#[10]):s.heap.FunFrames X.base X.outer:=by
 have all:∀ (l:ak Env),(∀ b∈QU l,b∈X.fs)->X.s₀.heap.FunFrames X.base l->s.heap.FunFrames X.base l:=by
  intro l
  induction l with
  |nil=>intro _ _;trivial
  |cons env r i =>
   intro d g;obtain⟨f,⟨L,o,c,j,h,hd⟩,hr⟩:=g;have a:L∈X.fs:=d L (by unfold QU;rw[Yr,c];exact eR);obtain⟨k,e⟩:=I.base.slot L o h (I.ok.Ur L a) a λz=>I.ok.SU L z a;exact⟨f,⟨L,_,c,j,e,hd⟩,i (λb hb=>d b (by unfold QU;rw[Yr,c];exact ee _ hb)) hr⟩
 exact all X.outer (λ_ hb=>hb) I.ok.Oo
theorem Inv.stack (I:#[10]):s.heap.FunFrames X.base X.stack:=by
 rcases I.ok.Xq with e |⟨e,a⟩
 ·rw[e];exact I.Oo
 rw[e];obtain⟨m,b,_⟩:=I.loc;refine .cons (by rw[I.ok.kind];decide) a b ?_ I.Oo;exact Heap.get?_none_of_le (fg I.ok.SQ I.ok.above)
theorem Inv.Pr (I:#[10]):∀ b∈QU X.stack,b∈X.env.locals::X.fs:=λb hb=>by
 rcases I.ok.Xq with e |⟨e,a⟩
 ·rw[e] at hb;exact ee _ hb
 rw[e] at hb;unfold QU at hb;rw[Yr,a] at hb;exact hb
theorem Inv.QC (I:#[10]):∀ b∈QU X.stack,H b=a4:=λb hb=>by
 rcases fx.mp (I.Pr b hb) with e |hb
 ·rw[e];exact I.free
 obtain⟨_,o,a,_⟩:=I.ok.Oo.mem hb;exact I.base.free b o a (I.ok.Ur b hb) λz=>I.ok.SU b z hb
theorem Inv.step {g':hO adI}{t':Nat}{d':Drawn}{ch:ak bc}(I:#[10])
  (j:∀ b∈ch,(b∈X.ex∨X.s₀.heap.objs.size<=b)/\b≠X.env.locals/\(∀ x c,#[20]=ag c->c≠b)/\∀ p∈X.pn++pins,p.1≠b)
  (keep:∀ b o,b≠X.env.locals->b∉X.fs->b∉ch->#[19]=ag o->H b=a4->h'.get? b=ag o)
  (slot:∀ b o,b≠X.env.locals->b∈X.fs->b∉ch->#[19]=ag o->H b=a4->∃ E,h'.get? b=ag { o with slots:=E }) (free:∀ b o,b∉ch->#[19]=ag o->H b=a4->H' b=a4)
  (there:∀ b o,b∉ch->#[19]=ag o->∃ y,h'.get? b=ag y)
  (Po:∀ b xs,H b=ag (.tup xs)->H' b=ag (.tup xs)) (O6:∀ b o u,H b=ag (.QB o u)->H' b=ag (.QB o u)) (Pp:∀ b C,H b=ag (.TH C)->∃ more,H' b=ag (.TH (C++more)))
  (ns:∀ m,s.heap.Ns X.env.locals m->h'.Ns X.env.locals m) (LW:NL X.prog X.w H' h') (N:ZP g') :
  Inv X pins σ H' { s with heap:=h',gens:=g',drawn:=d',toks:=t' }:=by
 have F:∀ b o,X.s₀.heap.get? b=ag o->b≠X.env.locals:=λb o e=>m3 (i3 (en e) I.ok.above)
 have B:∀ b o,X.s₀.heap.get? b=ag o->b∉X.ex->b∉ch:=λb o e a hb=>by
  rcases (j b hb).1 with z |z
  ·exact a z
  exact ib (i3 (en e) z) (oe _)
 have f:∀ x c,#[20]=ag c->∀ v,s.heap.IsCell c v->h'.IsCell c v:=λx c e v J=>by
  obtain⟨o,h,hd⟩:=J
  have A:c∉ch:=λz=>(j c z).2.2.1 x c e rfl;by_cases hc:c∈X.fs
  ·obtain⟨E,q⟩:=slot c o (I.Us x c e) hc A h (I.NA x c e);exact⟨_,q,hd⟩
  exact⟨o,keep c o (I.Us x c e) hc A h (I.NA x c e),hd⟩
 refine⟨I.ok,I.os,N,⟨λb o e n hb a=>?_,λb o e n hb a=>?_,λb o e n a=>?_,λb o e a=>?_,λb xs e=>Po b xs (I.base.Po b xs e),λb o xs e=>O6 b o xs (I.base.O6 b o xs e),λb C e=>?_⟩,?_,λx c e=>?_,?_,λx c e=>?_,λp G=>?_,LW,I.len⟩
 ·exact keep b o (F b o e) hb (B b o e a) (I.base.keep b o e n hb a) (I.base.free b o e n a)
 ·obtain⟨E,g⟩:=I.base.slot b o e n hb a;obtain⟨D,t⟩:=slot b _ (F b o e) hb (B b o e a) g (I.base.free b o e n a);exact⟨D,t⟩
 ·obtain⟨y,g⟩:=I.base.there b o e a;exact free b y (B b o e a) g (I.base.free b o e n a)
 ·obtain⟨y,g⟩:=I.base.there b o e a;exact there b y (B b o e a) g
 ·obtain⟨m1,g⟩:=I.base.Pp b C e;obtain⟨m2,t⟩:=Pp b _ g;exact⟨m1++m2,by rw[t,Array.append_assoc]⟩
 ·obtain⟨m,M,K⟩:=I.loc;refine⟨m,ns m M,λi x v g t L=>?_⟩;obtain⟨u,r,l⟩:=K i x v g t L;refine⟨u,r,?_⟩;rcases l with l |⟨k,c,e,z⟩
  ·exact .inl l
  exact .inr ⟨k,c,e,f x c e _ z⟩
 ·obtain⟨v,z⟩:=I.cell x c e;exact⟨v,f x c e v z⟩
 ·obtain⟨m,⟨o,_,_,h,_⟩,_⟩:=I.loc;exact free _ o (λz=>(j _ z).2.1 rfl) h I.free
 ·obtain⟨v,o,h,hd⟩:=I.cell x c e;exact free c o (λz=>(j c z).2.2.1 x c e rfl) h (I.NA x c e)
 obtain⟨e,n,ne,nf,d⟩:=I.pin p G;have A:p.1∉ch:=λz=>(j p.1 z).2.2.2 p G rfl;exact⟨keep p.1 p.2 ne nf A e n,free p.1 p.2 A e n,ne,nf,d⟩
theorem Inv.un {t':Nat}(I:#[10])(u:Un X.fs [] H H' s.heap h')(LW:NL X.prog X.w H' h'):Inv X pins σ H' { s with heap:=h',toks:=t' }:=by
 obtain⟨m,⟨o,es,ep,a,r⟩,_⟩:=id I.loc;obtain⟨l,g⟩:=u.any a I.free #[3]
 exact I.step (g':=s.gens) (d':=s.drawn) (ch:=[]) (λ_ z=>nomatch z) (λb o _ hb _ e n=>u.keep b o e n hb #[3]) (λb o _ hb _ e n=>u.slot b o e n hb #[3]) (λb o _ e n=>u.free b o e n #[3]) (λb o _ e=>u.there b o e #[3]) u.Po u.O6 u.Pp (λk h=>by
  obtain⟨j,d,f,c,i⟩:=h;rw[a] at c;cases c
  exact⟨_,d,f,g,i⟩) LW I.bare
theorem Inv.call {g':hO adI}{t':Nat}{d':Drawn}{ch:ak bc}(I:#[10])(u:Un (QU X.stack) ch H H' s.heap h')(LW:NL X.prog X.w H' h')(k:ZP g')
  (d:∀ b∈ch,(b∈X.ex∨X.s₀.heap.objs.size<=b)/\b≠X.env.locals/\(∀ x c,#[20]=ag c->c≠b)/\∀ p∈X.pn++pins,p.1≠b) :
  Inv X pins σ H' { s with heap:=h',gens:=g',drawn:=d',toks:=t' }:=by
 obtain⟨m,⟨o,es,ep,f,r⟩,_⟩:=id I.loc;obtain⟨v,a⟩:=u.any f I.free λz=>(d _ z).2.1 rfl
 exact I.step (ch:=ch) d (λb o a hb hc e n=>u.keep b o e n (λz=>(fx.mp (I.Pr b z)).elim a hb) hc) (λb o _ _ hc e n=>u.any e n hc) (λb o hc e n=>u.free b o e n hc) (λb o hc e=>u.there b o e hc) u.Po u.O6 u.Pp (λt j=>by
  obtain⟨q,h,i,g,l⟩:=j;rw[f] at g;cases g
  exact⟨_,h,i,a,l⟩) LW k
theorem Inv.turned {t':Nat}{it:bc}(I:#[10])(k:∀ b o,b≠it->#[19]=ag o->h'.get? b=ag o)(i:H it=a4)(a:it≠X.env.locals)
  (j:it∈X.ex∨X.s₀.heap.objs.size<=it) (l:∀ x c,#[20]=ag c->c≠it) (f:∀ p∈X.pn++pins,p.1≠it):Inv X pins σ H { s with heap:=h',toks:=t' }:=by
 have d:∀ b u,H b=ag u->b≠it:=λb u e z=>by rw[z,i] at e;cases e
 refine I.step (g':=s.gens) (d':=s.drawn) (ch:=[it]) (λb hb=>?_) (λb o _ _ hc e _=>k b o (λz=>hc (by simp[z])) e) (λb o _ _ hc e _=>⟨o.slots,k b o (λz=>hc (by simp[z])) e⟩) (λ_ _ _ _ n=>n)
  (λb o hc e=>⟨o,k b o (λz=>hc (by simp[z])) e⟩) (λ_ _ e=>e) (λ_ _ _ e=>e) (λb t e=>⟨#[],by rw[e];simp⟩) (λm g=>?_) (λb u e=>?_) I.bare
 ·have e:b=it:=#[17]
  subst e;exact⟨j,a,l,f⟩
 ·obtain⟨o,es,ep,h,r⟩:=g;exact⟨o,es,ep,k _ o (kg a) h,r⟩
 refine(I.LW b u e).OC (λc v hc q=>k c v ?_ q) (λ_ q=>q) λ_ _ q=>q;rcases hc with z |z
 ·rw[z];exact d b u e
 exact d c _ z
theorem Inv.tok (I:#[10])(t:Nat):Inv X pins σ H { s with toks:=t }:=I.un (h':=s.heap) (t':=t) Un.refl I.LW
theorem Inv.kept {t':Nat}(I:#[10])(k:∀ b u,#[19]=ag u->h'.get? b=ag u):Inv X pins σ H { s with heap:=h',toks:=t' }:=I.un (Un.kept k) (I.LW.kept k)
theorem Inv.laid {a:bc}{o:HO}{t':Nat}(I:#[10])(k:∀ b u,#[19]=ag u->h'.get? b=ag u)(c:s.heap.objs.size<=a)(new:L9 X.prog X.w (upd H a o) h' a o) :
  Inv X pins σ (upd H a o) { s with heap:=h',toks:=t' }:=I.un (Un.laid k c (I.LW.fresh c)) (I.LW.laid k c new)
theorem Inv.write {x e:bc}{o:HO}{t':Nat}(I:#[10])(c:VI (H x))(a:e=x∨H e=ag (.own x))(k:∀ b u,b≠e->#[19]=ag u->h'.get? b=ag u)(d:∃ u,h'.get? e=ag u)
  (new:L9 X.prog X.w (upd H x o) h' x o):Inv X pins σ (upd H x o) { s with heap:=h',toks:=t' }:=I.un (Un.write c a k d) (I.LW.write c a k d new)
theorem Inv.NS {a:Ln}(I:#[10])(h:∀ p∈a,s.heap.get? p.1=ag p.2/\H p.1=a4/\p.1≠X.env.locals/\p.1∉X.fs/\∀ v,p.2.data≠.cell v):Inv X a σ H s:=
 ⟨I.ok,I.os,I.bare,I.base,I.loc,I.cell,I.free,I.NA,λp b=>(k6.mp b).elim (λz=>I.pin p (UE _ z)) (h p),I.LW,I.len⟩
theorem vm {N:ak el}(e:N.Nodup){i j:Nat}{x:el}(a:N[i]?=ag x)(b:N[j]?=ag x):i=j:=by obtain⟨f,c⟩:=ba.mp a;obtain⟨g,d⟩:=ba.mp b;exact(List.getElem_inj e).mp (c.trans d.symm)
theorem mF {M:Model}{A:iv}{E:Lm}{i:Nat}{x:el}{v:V}{u:ax}{Q:acf->bo->Prop}(I:#[10])(W:X.N.Nodup)(C:X.N[i]?=ag x)(l:Loc X.env.scope x)(r:RelV v u)
  (h:∀ s',Inv X pins (σ.set i (ag v)) H s'->(∃ a,Vi a s.heap s'.heap/\(a=X.env.locals∨#[20]=ag a))->Q () s') (hf:X.fn x=a6∨#[22]=ag .local:=by first |exact .inl rfl |exact .inr rfl |assumption):dr M A (storeName X.env x u) Q E s:=by
 obtain⟨m,R,U⟩:=id I.loc;have Yb:(X.env.scope.kind==.class ||(X.env.scope.kind==.module&&X.env.locals != X.env.globals))=a8:=by rw[I.ok.kind];rfl
 have Z:i < σ.length:=by rw[I.len];exact(ba.mp C).1
 have Us:=I.Us
 have tracked:∀ {a:bc}{h':ja},(∃ o,s.heap.get? a=ag o/\H a=a4)->Vi a s.heap h'->NL X.prog X.w H h':=λ{a h'} ha f b ob e=>by
  obtain⟨_,_,Y⟩:=ha;refine(I.LW b ob e).OC (λc F hc q=>(f.2 c ?_).trans q) (λ_ q=>q) λ_ _ q=>q;rintro rfl;rcases hc with rfl |hc
  ·rw[Y] at e;cases e
  rw[Y] at hc;cases hc
 rcases l with hk |hk
 ·refine wpAny_storeName_local hk R (λh' Yc f=>?_) Yb;obtain⟨oL,_,_,QV,_⟩:=id R;refine h _ ⟨I.ok,I.os,I.bare,⟨λb o e n hb l=>?_,λb o e n hb l=>?_,I.base.free,λb o e l=>?_,I.base.Po,I.base.O6,I.base.Pp⟩,⟨_,Yc,λj y O g t K=>?_⟩,λy c e=>?_,I.free,I.NA,λp L=>?_,tracked ⟨oL,QV,I.free⟩ f,by simpa using I.len⟩ ⟨_,f,#[9]⟩
  ·exact(f.2 b (m3 (i3 (en e) I.ok.above))).trans (I.base.keep b o e n hb l)
  ·obtain⟨S,g⟩:=I.base.slot b o e n hb l;exact⟨S,(f.2 b (m3 (i3 (en e) I.ok.above))).trans g⟩
  ·obtain⟨J,g⟩:=I.base.there b o e l;exact⟨J,(f.2 b (m3 (i3 (en e) I.ok.above))).trans g⟩
  ·by_cases B:j=i
   ·subst B;rw[C] at g;cases g;rw[S4 Z] at t;cases t;exact⟨u,r,.inl ⟨hk,by simp⟩⟩
   rw[Wk (kg B)] at t;obtain⟨P,T,q⟩:=U j y O g t K;refine⟨P,T,?_⟩;rcases q with ⟨k,e⟩ |⟨k,c,e,z⟩
   ·refine .inl ⟨k,?_⟩;have:y≠x:=λe=>B (vm W g (e▸C));simp[this,e]
   exact .inr ⟨k,c,e,z.sameBut f (Us y c e)⟩
  ·obtain⟨F,z⟩:=I.cell y c e;exact⟨F,z.sameBut f (Us y c e)⟩
  obtain⟨e,n,ne,nf,d⟩:=I.pin p L;exact⟨(f.2 p.1 ne).trans e,n,ne,nf,d⟩
 have G:X.fn x=a6:=by
  rcases hf with z |z
  ·exact z
  rw[z] at hk;cases hk
 obtain⟨c,hc⟩:=I.ok.has x (.inl hk);obtain⟨F,z⟩:=I.cell x c hc;refine wpAny_storeName_cell I.ok.kind hk hc z (λh' Oz f=>?_);obtain⟨oc,Z8,Ye⟩:=id z;refine h { s with heap:=h' } ⟨I.ok,I.os,I.bare,⟨λb o e n hb l=>?_,λb o e n hb l=>?_,I.base.free,λb o e l=>?_,I.base.Po,I.base.O6,I.base.Pp⟩,⟨m,R.sameBut f (kg (Us x c hc)),λj y O g t K=>?_⟩,λy D e=>?_,I.free,I.NA,λp L=>?_,tracked ⟨oc,Z8,I.NA x c hc⟩ f,by simpa using I.len⟩ ⟨c,f,.inr hc⟩
 ·exact(f.2 b (m3 (i3 (en e) (I.ok.VN x c G hc)))).trans (I.base.keep b o e n hb l)
 ·obtain⟨S,g⟩:=I.base.slot b o e n hb l;exact⟨S,(f.2 b (m3 (i3 (en e) (I.ok.VN x c G hc)))).trans g⟩
 ·obtain⟨J,g⟩:=I.base.there b o e l;exact⟨J,(f.2 b (m3 (i3 (en e) (I.ok.VN x c G hc)))).trans g⟩
 ·by_cases B:j=i
  ·subst B;rw[C] at g;cases g;rw[S4 Z] at t;cases t;exact⟨u,r,.inr ⟨.inl hk,c,hc,Oz⟩⟩
  rw[Wk (kg B)] at t;obtain⟨P,T,q⟩:=U j y O g t K;refine⟨P,T,?_⟩;rcases q with q |⟨k,D,e,z'⟩
  ·exact .inl q
  refine .inr ⟨k,D,e,z'.sameBut f ?_⟩;rintro rfl;exact B (vm W g (I.ok.inj _ _ _ e hc▸C))
 ·by_cases Ru:D=c
  ·subst Ru;exact⟨_,Oz⟩
  obtain⟨w2,z2⟩:=I.cell y D e;exact⟨w2,z2.sameBut f Ru⟩
 obtain⟨e,n,ne,nf,d⟩:=I.pin p L;refine⟨(f.2 p.1 ?_).trans e,n,ne,nf,d⟩;intro q;rw[q,Z8] at e;have q':oc=p.2:=h8 e;exact d F (by rw[← q'];exact Ye)
theorem oU {M:Model}{A:iv}{E:Lm}{i:Nat}{x:el}{v:V}{u:ax}{Q:acf->bo->Prop}(I:#[10])(e:X.N.Nodup)(a:X.N[i]?=ag x)(b:Loc X.env.scope x)(r:RelV v u)
  (h:∀ s',Inv X pins (σ.set i (ag v)) H s'->Q () s') (d:X.fn x=a6∨#[22]=ag .local:=by first |exact .inl rfl |exact .inr rfl |assumption):dr M A (storeName X.env x u) Q E s:=
 mF I e a b r (λs' c _=>h s' c) d
theorem Inv.VQ {s':bo}{ch:ak bc}(I:#[10])(d:s'.os=s.os)(u:Un (QU X.stack) ch H H' s.heap s'.heap)(LW:NL X.prog X.w H' s'.heap)(a:ZP s'.gens)
  (f:∀ b∈ch,(b∈X.ex∨X.s₀.heap.objs.size<=b)/\b≠X.env.locals/\(∀ x c,#[20]=ag c->c≠b)/\∀ p∈X.pn++pins,p.1≠b):Inv X pins σ H' s':=by
 obtain⟨h',g',d',t',g⟩:=s';have e:g=s.os:=d;subst e;exact I.call (g':=g') (t':=t') (d':=d') u LW a f
end
abbrev XK:=ax->a5 bc->Hp->Prop
abbrev St:=ak (a5 V)
abbrev VK:=V->Hp->Prop
abbrev TE:=St->Hp->VK->Prop
abbrev TT:=St->Hp->(eM->Hp->Prop)->Prop
abbrev TA:=St->Hp->(ak V->Hp->Prop)->Prop
structure Ends where
 nx:St->Hp->Prop
 rt:VK
 bk:St->Hp->Prop:=λ_ _=>False
 ct:St->Hp->Prop:=λ_ _=>False
abbrev TS:=Ends->St->Hp->Prop
def EP (X:Cx)(a:Ln)(c:St)(Q:VK)(u:ax)(s':bo):Prop:=∃ v b,Inv X a c b s'/\RelV v u/\Q v b
def TP (X:Cx)(a:Ln)(d:St)(Q:eM->Hp->Prop)(b:eM)(s':bo):Prop:=∃ c,Inv X a d c s'/\Q b c
def AP (X:Cx)(a:Ln)(d:St)(Q:ak V->Hp->Prop)(us:ak ax)(s':bo):Prop:=∃ c b,Inv X a d b s'/\Vals c us/\Q c b
def SP (X:Cx)(b:Ln)(D:Ends)(f:Flow)(s':bo):Prop:=
 match f with
 | .next => ∃ a c,Inv X b a c s'/\D.nx a c
 | .brk => ∃ a c,Inv X b a c s'/\D.bk a c
 | .cont => ∃ a c,Inv X b a c s'/\D.ct a c
 | .ret u => ∃ v a c,Inv X b a c s'/\RelV v u/\D.rt v c
def PE (X:Cx)(e:gy)(t:TE):Prop:=
 ∀ (a:Ln) (s:bo) (b:St) (H:Hp) (Q:VK),Inv X a b H s->t b H Q->dr #[8] X.A (qa e X.env) (EP X a b Q) X.xe s
def PT (X:Cx)(e:gy)(t:TT):Prop:=
 ∀ (a:Ln) (s:bo) (b:St) (H:Hp) (Q:eM->Hp->Prop),Inv X a b H s->t b H Q->dr #[8] X.A (isTrue e X.env (qa e X.env)) (TP X a b Q) X.xe s
def PW (X:Cx)(e:gy)(t:TT):Prop:=
 ∀ (whole:Sem ax) (a:Ln) (s:bo) (b:St) (H:Hp) (Q:eM->Hp->Prop),Inv X a b H s->t b H Q->dr #[8] X.A (isTrue e X.env whole) (TP X a b Q) X.xe s
theorem PW.pt {X:Cx}{e:gy}{t:TT}(h:PW X e t):PT X e t:=h _
def PA (X:Cx)(es:ak gy)(t:TA):Prop:=
 ∀ (pos:Ud) (a:Ln) (s:bo) (b:St) (H:Hp) (Q:ak V->Hp->Prop),Inv X a b H s->t b H Q->dr #[8] X.A (spliced (rb pos (ek es X.env))) (AP X a b Q) X.xe s
def PS (X:Cx)(st:qb)(t:TS):Prop:=
 ∀ (a:Ln) (s:bo) (b:St) (H:Hp) (D:Ends),Inv X a b H s->t D b H->dr #[8] X.A (exec st X.env) (SP X a D) X.xe s
def Qj (X:Cx)(st:ak qb)(t:TS):Prop:=
 ∀ (a:Ln) (s:bo) (b:St) (H:Hp) (D:Ends),Inv X a b H s->t D b H->dr #[8] X.A (execs st X.env) (SP X a D) X.xe s
theorem LO {α:Type}{t:Sem α}{Q b : α->bo->Prop}{M:Model}{A:iv}{E:Lm}{s:bo}(h:dr M A t Q E s)(c:∀ a s,Q a s->b a s):dr M A t b E s:=ro h c λ_ _ x=>x
section
variable {X:Cx}
theorem bin {a b:gy}{n m:TE}(ha:PE X a n)(hb:PE X b m){c:Ln}{s:bo}{d:St}{H:Hp}{R:V->V->Hp->Prop}(I:Inv X c d H s)(h:n d H λx l=>m d l λy e=>R x y e)
  {α:Type}{Q : α->bo->Prop}{f:ax->ax->Sem α}
  (C:∀ v u j x y e,Inv X c d e j->RelV x v->RelV y u->R x y e->dr #[8] X.A (f v u) Q X.xe j) :
  dr #[8] X.A (qa a X.env) (λv g=>dr #[8] X.A (qa b X.env) (λu i=>dr #[8] X.A (f v u) Q X.xe i) X.xe g) X.xe s:=by
 refine LO (ha c s d H _ I h) λv r k=>?_;obtain⟨x,l,z,p,o⟩:=k;refine LO (hb c r d l _ z o) λu j k=>?_;obtain⟨y,e,B,q,t⟩:=k;exact C v u j x y e B p q t
noncomputable def Ib (i:Nat):TE:=λa H Q => ∃ v,a[i]?=ag (ag v)/\Q v H
noncomputable def tC (v:V):TE:=λ_ H Q=>Q v H
theorem Cj {i:Nat}{x:el}{pos:Ud}(f:X.N[i]?=ag x)(k:VM X.env.scope x)(hd:(x==("__debug__":el))=a8:=by decide)(b:(x==("__classdict__":el))=a8:=by decide):PE X (.Name x pos) (Ib i):=by
 intro a s g H Q I h;obtain⟨v,e,h⟩:=h;obtain⟨m,n,d⟩:=I.loc;obtain⟨u,r,l⟩:=d i x v f e k;have fin:EP X a g Q u s:=⟨v,H,I,r,h⟩;rcases l with ⟨hk,j⟩ |⟨hk,c,hc,QE⟩
 ·exact adJ (abp I.ok.kind hk n j fin) hd
 rcases hk with hk |hk
 ·exact adJ (ab1 I.ok.kind hk hc QE fin) hd
 exact adJ (wpAny_loadName_free I.ok.kind hk hc QE fin b) hd
theorem Ut {i j pos}:PE X (.Constant (.int i) j pos) (tC (.int i)):=λ_ _ _ H _ I h=>wpAny_Constant_int ⟨.int i,H,I.tok _,⟨_,rfl⟩,h⟩
theorem VR {b j pos}:PE X (.Constant (.bool b) j pos) (tC (.bl b)):=λ_ _ _ H _ I h=>Constant_bool ⟨.bl b,H,I,rfl,h⟩
theorem Uu {j pos}:PE X (.Constant .none j pos) (tC .LR):=λ_ _ _ H _ I h=>Constant_none ⟨.LR,H,I,rfl,h⟩
theorem Uv {x j pos}:PE X (.Constant (.str x) j pos) (tC (.str x)):=λ_ _ _ H _ I h=>Calls.Constant_str ⟨.str x,H,I.tok _,⟨_,rfl⟩,h⟩
def Gl (X:Cx)(x:el):Prop:=X.env.kindOf x=ag .globalImplicit
theorem zr {E:Lm}{a:Ln}{s:bo}{c:St}{H:Hp}{x:el}{u:ax}{pos:Ud}{Q:Lm}(I:Inv X a c H s)(b:Gl X x)(d:X.mg x=ag u)(h:Q u s)
  (hd:(x==("__debug__":el))=a8:=by decide):dr #[8] X.A (qa (.Name x pos) X.env) Q E s:=
 Y3 I.ok.kind b (Calls.loadGlobal_global (by rw[I.ok.glob];exact I.mod.glob.keeps I.bk) d h) hd
theorem jg {E:Lm}{a:Ln}{s:bo}{b:St}{H:Hp}{x:el}{u:ax}{pos:Ud}{Q:Lm}(I:Inv X a b H s)(g:Gl X x)(c:X.mg x=a4)(d:n0 x=ag u)(h:Q u s)
  (e:x≠"__name__":=by decide) (hd:(x==("__debug__":el))=a8:=by decide):dr #[8] X.A (qa (.Name x pos) X.env) Q E s:=by
 obtain⟨j,f,i⟩:=I.mod.blt;exact Y3 I.ok.kind g (Calls.loadGlobal_builtin (by rw[I.ok.glob];exact I.mod.glob.keeps I.bk) c (by rw[I.ok.blt];exact f.keeps I.bk) ((i x e).trans d) h) hd
theorem EF {x:el}{v:V}{u:ax}{pos:Ud}(a:Gl X x)(c:X.mg x=a4)(b:n0 x=ag u)(r:RelV v u)(d:x≠"__name__":=by decide)(hd:(x==("__debug__":el))=a8:=by decide):PE X (.Name x pos) (tC v):=
 λ_ _ _ H _ I h=>jg I a c b ⟨v,H,I,r,h⟩ d hd
variable {a b:gy}{ta tb:TE}{pos:Ud}
def PC (X:Cx)(op:acF)(a b:gy)(t:TE):Prop:=
 ∀ (c:Ln) (s:bo) (f:St) (H:Hp) (Q:VK),Inv X c f H s->t f H Q ->
  dr #[8] X.A (qa a X.env) (λv e=>dr #[8] X.A (qa b X.env) (λu d=>dr #[8] X.A (oa op v u) (EP X c f Q) X.xe d) X.xe e) X.xe s
theorem vn (b:gy){op:acF}(h:op≠.In)(a:op≠.NotIn):ov op b=a8:=by
 have c:(op==CmpOp.In)=a8:=by cases op<;>first |rfl |exact ib rfl h
 have d:(op==CmpOp.NotIn)=a8:=by cases op<;>first |rfl |exact ib rfl a
 cases b<;>simp[ov,c,d]
noncomputable def tB (t:TE):TT:=λb H Q=>t b H λx a => ∃ c,x = .bl c/\Q c a
theorem GT {op:acF}{t:TE}(h:PC X op a b t)(d:ov op b=a8:=by first |exact vn _ (by decide) (by decide) |rfl):PE X (.Compare a [op] [b] pos) t:=λc s f H Q I e=>wpAny_Compare1 (h c s f H Q I e) d
theorem xx {op:acF}{t:TE}(h:PC X op a b t)(f:ov op b=a8:=by first |exact vn _ (by decide) (by decide) |rfl):PT X (.Compare a [op] [b] pos) (tB t):=by intro e s k H Q I i;refine abg (LO (h e s k H _ I i) λv r f=>LO f λu w n=>LO n λc p g=>?_) f;obtain⟨x,o,m,l,j⟩:=g;obtain⟨d,rfl,q⟩:=j;cases l;exact xa ⟨o,m,q⟩
theorem GE {e:gy}{t:TE}(h:PE X e t)(g:∀ whole,isTrue e X.env whole=(do let v ← whole;abS e.pos;Vk [v] (truthy v)):=by intro _;rfl):PT X e (tB t):=by intro a s i H Q I c;refine isTrue_plain (LO (h a s i H _ I c) λv m b=>?_) (g _);obtain⟨x,l,k,j,f⟩:=b;obtain⟨d,rfl,q⟩:=f;cases j;exact xa ⟨l,k,q⟩
variable {tA Xs:TT}{rest:ak gy}
noncomputable def JU (t u:TT):TT:=λb H Q=>t b H λc a=>if c=a6 then u b a Q else Q a8 a
noncomputable def tOr (t u:TT):TT:=λb H Q=>t b H λc a=>if c=a6 then Q a6 a else u b a Q
noncomputable def JO (t:TT):TT:=λb H Q=>t b H λc a=>Q (!c) a
theorem Ej (ha:PT X a tA):PW X (.BoolOp .And [a] pos) tA:=by
 intro g b s d H Q I h;refine isTrue_and (LO (ha b s d H Q I h) λc f e=>?_);cases c with
 |true=>exact isTrue_and_nil e
 |false=>exact e
theorem GA (ha:PT X a tA):PW X (.BoolOp .Or [a] pos) tA:=by
 intro g b s d H Q I h;refine isTrue_or (LO (ha b s d H Q I h) λc f e=>?_);cases c with
 |false=>exact isTrue_or_nil e
 |true=>exact e
theorem GB (ha:PT X a tA)(hb:PW X (.BoolOp .And (b::rest) pos) Xs):PW X (.BoolOp .And (a::b::rest) pos) (JU tA Xs):=by
 intro k d s f H Q I h;refine isTrue_and (LO (ha d s f H _ I h) λc l j=>?_);obtain⟨i,g,e⟩:=j;cases c with
 |true=>exact hb k d l f i Q g e
 |false=>exact⟨i,g,e⟩
theorem Iy (ha:PT X a tA)(hb:PW X (.BoolOp .Or (b::rest) pos) Xs):PW X (.BoolOp .Or (a::b::rest) pos) (tOr tA Xs):=by
 intro k d s f H Q I h;refine isTrue_or (LO (ha d s f H _ I h) λc l j=>?_);obtain⟨i,g,e⟩:=j;cases c with
 |true=>exact⟨i,g,e⟩
 |false=>exact hb k d l f i Q g e
theorem GF (ha:PT X a tA):PT X (.UnaryOp .Not a pos) (JO tA):=by intro b s e H Q I h;exact isTrue_not (ha b s e H (λc d=>Q (!c) d) I h)
noncomputable def Ip (ta tb:TE):TE:=λb H Q=>ta b H λx a => ∃ c,x = .bl c/\if c=a6 then tb b a Q else Q (.bl a8) a
theorem GR {op}{t:TE}(h:PE X a t):PE X (.BoolOp op [a] pos) t:=λb s d H Q I c=>BoolOp_one (h b s d H Q I c)
theorem GU (ha:PE X a ta)(hb:PE X (.BoolOp .And (b::rest) pos) tb):PE X (.BoolOp .And (a::b::rest) pos) (Ip ta tb):=by
 intro d s f H Q I h;refine BoolOp_and (LO (ha d s f H _ I h) λv l j=>?_);obtain⟨x,i,g,k,e⟩:=j;obtain⟨c,rfl,e⟩:=e;cases k;refine xa ?_;cases c with
 |true=>exact hb d l f i Q g e
 |false=>exact⟨.bl a8,i,g,rfl,e⟩
noncomputable def tIf (t:TT)(ta tb:TE):TE:=λa H Q=>t a H λc b=>if c=a6 then ta a b Q else tb a b Q
theorem Co {c:gy}(hc:PT X c tA)(ha:PE X a ta)(hb:PE X b tb):PE X (.IfExp c a b pos) (tIf tA ta tb):=by
 intro e s f H Q I h;refine wpAny_IfExp (LO (hc e s f H _ I h) λd i l=>?_);obtain⟨k,j,g⟩:=l;cases d with
 |true=>exact ha e i f k Q j g
 |false=>exact hb e i f k Q j g
end
def Oq (K:Ll)(H:Hp)(a:bc)(xs:ak V):Prop:=
 Rd H a (.lst xs) ∨
  ∃ (o:Obj) (its:hO ax) (n:Nat),K.lookup a=ag o/\o.cls = #[14]/\o.dict=a4/\o.data = .seq its n/\its.size<=da/\Vals xs its.toList
def O2 (K:Ll)(H:Hp)(a:bc)(xs:ak V):Prop:=
 Rd H a (.tup xs) ∨
  ∃ (o:Obj) (its:hO ax) (n:Nat),K.lookup a=ag o/\o.cls = .type "tuple"/\o.data = .seq its n/\its.size<=da/\Vals xs its.toList
noncomputable def Kz:ax->a5 V
 | .none=>ag .LR
 | .bool b=>ag (.bl b)
 | .int i _=>ag (.int i)
 | .str x _=>ag (.str x)
 | .bytes b _=>ag (.Ve b)
 | .float b _=>ag (.Vf b)
 | .ref a=>ag (.ref a)
 | .type n=>ag (.ty n)
 |_=>a4
theorem RelV.abs {x:V}{u:ax}(r:RelV x u):Kz u=ag x:=by
 cases x with
 |LR=>cases r;rfl
 |bl _=>cases r;rfl
 |int _=>obtain⟨t,rfl⟩:=r;rfl
 |str _=>obtain⟨t,rfl⟩:=r;rfl
 |Ve _=>obtain⟨t,rfl⟩:=r;rfl
 |Vf _=>obtain⟨t,rfl⟩:=r;rfl
 |ref _=>cases r;rfl
 |ty _=>cases r;rfl
theorem RelV.inj {x y:V}{u:ax}(r:RelV x u)(q:RelV y u):x=y:=h8 (r.abs.symm.trans q.abs)
theorem Vals.inj:∀ {xs ys:ak V}{us:ak ax},Vals xs us->Vals ys us->xs=ys
 |_,_,_,.nil,.nil=>rfl
 |_,_,_,.cons r t,.cons b a=>by rw[r.inj b,Vals.inj t a]
section
variable {X:Cx}{pins:Ln}{σ:St}{H:Hp}{s:bo}{a:bc}{xs ys:ak V}
theorem Inv.list (I:#[10])(h:Oq X.K H a xs):∃ its:ak ax,Vals xs its/\PlainL s.heap a its.toArray/\xs.length<=da:=by
 rcases h with h |⟨o,its,n,b,hc,hd,c,d,r⟩
 ·obtain⟨z,its,n,r,e⟩:=h.ok I.LW;exact⟨its,r,⟨_,n,e,rfl,rfl,rfl⟩,z⟩
 refine⟨its.toList,r,⟨o,n,I.Pq a o b,hc,hd,by simpa using c⟩,?_⟩;have e:=r.length;simp only[gz] at e;omega
theorem Inv.tuple (I:#[10])(h:O2 X.K H a xs):∃ its:ak ax,Vals xs its/\ab5 s.heap a its.toArray/\xs.length<=da:=by
 rcases h with h |⟨o,its,n,b,hc,c,d,r⟩
 ·obtain⟨z,its,r,p⟩:=h.ok I.LW;exact⟨its,r,p.tup,z⟩
 refine⟨its.toList,r,⟨o,I.Pq a o b,hc,n,by simpa using c⟩,?_⟩;have e:=r.length;simp only[gz] at e;omega
theorem Inv.OD (I:#[10])(h:Oq X.K H a xs)(h':Oq X.K H a ys):xs=ys:=by
 obtain⟨its,r,⟨o,n,e,_,_,d⟩,_⟩:=I.list h;obtain⟨b,i,⟨k,j,f,_,_,c⟩,_⟩:=I.list h';rw[e] at f;cases f;rw[d] at c;injection c with g _
 have:its=b:=by simpa using q7 aeq g
 subst this;exact r.inj i
theorem Inv.N9 (I:#[10])(h:O2 X.K H a xs)(h':O2 X.K H a ys):xs=ys:=by
 obtain⟨its,r,⟨o,e,_,n,d⟩,_⟩:=I.tuple h;obtain⟨b,i,⟨k,f,_,j,c⟩,_⟩:=I.tuple h';rw[e] at f;cases f;rw[d] at c;injection c with g _
 have:its=b:=by simpa using q7 aeq g
 subst this;exact r.inj i
end
abbrev Cx.O7 (X:Cx)(E:Lm):Cx:={ X with xe:=E }
abbrev Cx.SX (X:Cx):Cx:=X.O7 λ_ _=>False
theorem Cx.Ok.O7 {X:Cx}(ok:X.Ok)(E:Lm):(X.O7 E).Ok:=
 ⟨ok.mod,ok.kind,ok.glob,ok.blt,ok.above,ok.inj,ok.has,ok.VN,ok.hd,ok.frames,ok.Xq,ok.Z5,ok.bs,ok.SQ,ok.RL,ok.SU,ok.Oo,ok.Ur⟩
theorem Cx.Ok.Ng {X:Cx}{E:Lm}(ok:(X.O7 E).Ok):X.Ok:=
 ⟨ok.mod,ok.kind,ok.glob,ok.blt,ok.above,ok.inj,ok.has,ok.VN,ok.hd,ok.frames,ok.Xq,ok.Z5,ok.bs,ok.SQ,ok.RL,ok.SU,ok.Oo,ok.Ur⟩
section
variable {X:Cx}{pins:Ln}{σ:St}{H:Hp}{s:bo}{E:Lm}
theorem Inv.O7 (I:#[10])(E:Lm):Inv (X.O7 E) pins σ H s:=⟨I.ok.O7 E,I.os,I.bare,I.base,I.loc,I.cell,I.free,I.NA,I.pin,I.LW,I.len⟩
theorem Inv.Ng (I:Inv (X.O7 E) pins σ H s):#[10]:=⟨I.ok.Ng,I.os,I.bare,I.base,I.loc,I.cell,I.free,I.NA,I.pin,I.LW,I.len⟩
theorem SP.Ng {D:Ends}{f:Flow}{s':bo}(h:SP (X.O7 E) pins D f s'):SP X pins D f s':=by
 cases f with
 |next=>obtain⟨a,b,I,q⟩:=h;exact⟨a,b,I.Ng,q⟩
 |brk=>obtain⟨a,b,I,q⟩:=h;exact⟨a,b,I.Ng,q⟩
 |cont=>obtain⟨a,b,I,q⟩:=h;exact⟨a,b,I.Ng,q⟩
 |ret u=>obtain⟨v,a,b,I,r,q⟩:=h;exact⟨v,a,b,I.Ng,r,q⟩
theorem Qj.SX {st:ak qb}{t:TS}(h:Qj X.SX st t):Qj X st t:=λpins s σ H D I a =>
 ro (h pins s σ H D (I.O7 _) a) (λ_ _ q=>q.Ng) λ_ _ z=>Q1 z
end
section
variable {X:Cx}{st:qb}{rest:ak qb}{t u:TS}{e:gy}{te:TE}{pos:Ud}
noncomputable def Ig:TS:=λD a H=>D.nx a H
noncomputable def Ic (t u:TS):TS:=λD a H=>t { D with nx:=u D } a H
theorem SY:Qj X [] Ig:=λ_ _ a H _ I h=>aa7 ⟨a,H,I,h⟩
theorem Ca (i:PS X st t)(j:Qj X rest u):Qj X (st::rest) (Ic t u):=by
 intro a s d H D I h;refine wpAny_execs_cons (LO (i a s d H { D with nx:=u D } I h) λf e q=>?_);cases f with
 |next =>
  obtain⟨b,g,c,q⟩:=q;exact j a e b g D c q
 |ret v=>exact q
 |brk=>exact q
 |cont=>exact q
theorem Em (b:PS X st t):Qj X [st] t:=by
 intro a s c H D I h;refine wpAny_execs_cons (LO (b a s c H D I h) λf d q=>?_);cases f with
 |next=>exact aa7 q
 |ret v=>exact q
 |brk=>exact q
 |cont=>exact q
theorem Inv.quiet {a:Ln}{b:St}{H:Hp}{s:bo}(I:Inv X a b H s):interactive X.env=a8:=by simp[interactive,I.ok.kind]
noncomputable def Ij (te:TE):TS:=λD a H=>te a H λ_ b=>D.nx a b
theorem Eo (f:PE X e te)(d:TM e a4 pos.line X.env=wh a8:=by rfl):PS X (.Expr e pos) (Ij te):=by intro a s b H D I h;exact wpAny_Expr_any (LO (f a s b H _ I h) λv k ⟨x,g,i,j,c⟩=>⟨b,g,i,c⟩) I.quiet d
noncomputable def JM (te:TE):TS:=λD a H=>te a H D.rt
theorem GH (f:PE X e te):PS X (.Return (ag e) pos) (JM te):=by intro a s b H D I h;exact wpAny_Return_some (LO (f a s b H _ I h) λv j ⟨x,g,i,c,d⟩=>⟨x,b,g,i,c,d⟩)
noncomputable def JQ (c:TT)(t u:TS):TS:=λD a H=>c a H λb d=>if b=a6 then t D a d else u D a d
theorem Iz {c:gy}{a b:ak qb}{l:TT}(hc:PT X c l)(ha:Qj X a t)(hb:Qj X b u):PS X (.If c a b pos) (JQ l t u):=by
 intro e s f H D I h;refine wpAny_If (LO (hc e s f H _ I h) λd i m=>?_);obtain⟨k,j,g⟩:=m;cases d with
 |true=>exact ha e i f k D j g
 |false=>exact hb e i f k D j g
end
abbrev TG:=V->St->Hp->(St->Hp->Prop)->Prop
abbrev S5:=ak V->St->Hp->(St->Hp->Prop)->Prop
def PG (X:Cx)(target:gy)(t:TG):Prop:=
 ∀ (a:Ln) (s:bo) (d:St) (H:Hp) (v:V) (u:ax) (Q:St->Hp->Prop),Inv X a d H s->RelV v u->t v d H Q ->
  dr #[8] X.A (WA target X.env u) (λ_ e => ∃ b c,Inv X a b c e/\Q b c) X.xe s
def TJ (X:Cx)(ts:ak gy)(t:S5):Prop:=
 ∀ (a:Ln) (s:bo) (e:St) (H:Hp) (d:ak V) (f:ak ax) (Q:St->Hp->Prop),Inv X a e H s->Vals d f->t d e H Q ->
  dr #[8] X.A (assignInOrder ((RY ts X.env).map (·.2)) f) (λ_ g => ∃ b c,Inv X a b c g/\Q b c) X.xe s
abbrev DE:=V->V->V->Hp->(Hp->Prop)->Prop
def HP (X:Cx)(t:DE):Prop:=
 ∀ (a:Ln) (s:bo) (e:St) (H:Hp) (o i v:V) (c b u:ax) (Q:Hp->Prop),Inv X a e H s->RelV o c->RelV i b->RelV v u->t o i v H Q ->
  dr #[8] X.A (abT c b u) (λ_ f => ∃ d,Inv X a e d f/\Q d) X.xe s
abbrev Uw:=V->V->Hp->VK->Prop
def Xt (X:Cx)(op:acG)(t:Uw):Prop:=
 ∀ (a:Ln) (s:bo) (b:St) (H:Hp) (x y:V) (v u:ax) (Q:VK),Inv X a b H s->RelV x v->RelV y u->t x y H Q ->
  dr #[8] X.A (inplaceOp op v u) (EP X a b Q) X.xe s
section
variable {X:Cx}{pos:Ud}
noncomputable def FZ (i:Nat):TG:=λv a H Q=>Q (a.set i (ag v)) H
theorem Ey {i:Nat}{x:el}(d:X.N.Nodup)(e:X.N[i]?=ag x)(b:Loc X.env.scope x)(f:X.fn x=a6∨#[22]=ag .local:=by first |exact .inl rfl |exact .inr rfl |assumption):PG X (.Name x pos) (FZ i):=by intro a s j H v u Q I r h;exact ZQ (oU I d e b r (λg c=>⟨_,H,c,h⟩) f)
noncomputable def Kb:S5:=λb a H Q=>b=[]/\Q a H
noncomputable def Jb (t:TG)(u:S5):S5:=λc d H Q => ∃ v r,c=v::r/\t v d H λa b=>u r a b Q
theorem S6:TJ X [] Kb:=by intro a s b H c d Q I r h;obtain⟨e,h⟩:=h;subst e;cases r;exact assignInOrder_nil ⟨b,H,I,h⟩
theorem Ci {e:gy}{es:ak gy}{t:TG}{u:S5}(m:PG X e t)(n:TJ X es u)
  (g:(RY (e::es) X.env).map (·.2)=WA e X.env::(RY es X.env).map (·.2):=by rfl):TJ X (e::es) (Jb t u):=by
 intro a s i H p w Q I r h;obtain⟨v,q,d,h⟩:=h;subst d;cases r with
 |cons r j =>
  rw[g];refine assignInOrder_cons (LO (m a s i H _ _ _ I r h) λ_ k c=>?_);obtain⟨b,o,l,f⟩:=c;exact n a k b o _ _ Q l j f
noncomputable def J_ (K:Ll)(n:Nat)(t:S5):TG:=λv c H Q => ∃ a b,v = .ref a/\O2 K H a b/\b.length=n/\t b c H Q
theorem GN {es:ak gy}{k:Nat}{t:S5}{n:Nat}(hc:X.calm=a6)(h:TJ X es t)
  (x:(RY es X.env).length=n:=by rfl) (l:(RY es X.env).findIdx? (·.1)=a4:=by rfl):PG X (.Tuple es k pos) (J_ X.K n t):=by
 intro c s g H v u Q I r d;obtain⟨a,w,m,y,p,d⟩:=d;subst m;cases r;obtain⟨its,f,z,A⟩:=I.tuple y;refine assign_Tuple_tuple (I.ok.hd hc) z (by simp[x,← p,f.length]) l λi j=>?_;have q:Inv X c g H { s with heap:=i }:=I.kept (t':=s.toks) λb o e=>j b o (m3 (en e)) e;exact h c _ g H w _ Q q (by simpa using f) d
noncomputable def Ka (to d:TE)(t:DE):TG:=λv a H Q=>to a H λo e=>d a e λi b=>t o i v b λc=>Q a c
theorem GO {o i:gy}{to f:TE}{t:DE}(n:PE X o to)(C:PE X i f)(k:HP X t)
  (ha:∀ v,WA (.Subscript o i pos) X.env v=(do
   let b ← Vk [v] (qa o X.env);let d ← Vk [v,b] (qa i X.env)
   abS pos
   Vk [v,b,d] (abT b d v)
   release [v,b,d] []):=by intro _;rfl):PG X (.Subscript o i pos) (Ka to f t):=by
 intro a s e H v u Q I r h;rw[ha];refine av (vl (LO (n a s e H _ I h) λb w c=>?_));obtain⟨x,F,A,p,j⟩:=c;refine av (vl (LO (C a w e F _ A j) λd E c=>?_));obtain⟨y,D,B,q,z⟩:=c;refine av (Z_ (av (vl (LO (k a E e D x y v b d u _ B p q r z) λ_ G c=>?_))));obtain⟨g,m,l⟩:=c;exact wpAny_release ⟨e,g,m,l⟩
noncomputable def Io (b:TE)(g:TG):TS:=λD a H=>b a H λx c=>g x a c D.nx
theorem Cb {b e:gy}{c:TE}{g:TG}(k:PE X e c)(r:PG X b g)(l:ab6 [b] e pos.line X.env=wh a8:=by rfl)(i:ab7 [b] e X.env=wh a4:=by rfl)
  (p:(RY [b] X.env).map (·.2)=[WA b X.env]:=by rfl):PS X (.Assign [b] e pos) (Io c g):=by
 intro a s d H D I h;refine wpAny_Assign_stores (LO (k a s d H _ I h) λv n f=>?_) l i;obtain⟨x,t,o,m,j⟩:=f;rw[p];exact LO (r a n d t x v _ o m j) λ_ u q=>q
theorem GG {i:Nat}{x:el}{e:gy}{c:TE}{a:Ud}(l:X.N.Nodup)(q:X.N[i]?=ag x)(d:Loc X.env.scope x)(j:PE X e c)(k:TM e (ag (.Name x a)) pos.line X.env=wh a8:=by rfl)(r:X.fn x=a6∨#[22]=ag .local:=by first |exact .inl rfl |exact .inr rfl |assumption) :
  PS X (.Assign [.Name x a] e pos) (Io c (FZ i)):=by
 intro b s m H D I h;refine wpAny_Assign_Name (LO (j b s m H _ I h) λv u f=>?_) k;obtain⟨y,t,p,n,g⟩:=f;exact oU p l q d n (λw o=>⟨_,t,o,g⟩) r
noncomputable def JT (i:Nat)(c:TE)(d:Uw):TS:=λD a H => ∃ x,a[i]?=ag (ag x)/\c a H λy e=>d x y e λz b=>D.nx (a.set i (ag z)) b
theorem GK {i:Nat}{x:el}{e:gy}{o:TE}{op:acG}{p:Uw}{f:Ud}(G:X.N.Nodup)(t:X.N[i]?=ag x)(g:Loc X.env.scope x)(E:PE X e o)(L:Xt X op p)(V:X.fn x=a6∨#[22]=ag .local:=by first |exact .inl rfl |exact .inr rfl |assumption) :
  PS X (.AugAssign (.Name x f) op e pos) (JT i o p):=by
 intro a s q H D I h;obtain⟨v,B,h⟩:=h;obtain⟨m,T,F⟩:=I.loc;have n:VM X.env.scope x:=by rcases g with k |k;exact .inl k;exact .inr (.inl k)
 obtain⟨u,r,l⟩:=F i x v t B n;refine wpAny_AugAssign_Name ?_;have go:dr #[8] X.A (qa e X.env) (λw d=>dr #[8] X.A (inplaceOp op u w) (λr b=>dr #[8] X.A (storeName X.env x r) (λ_=>SP X a D .next) X.xe b) X.xe d) X.xe s:=by refine LO (E a s q H _ I h) λw P j=>?_;obtain⟨y,W,R,M,C⟩:=j;refine LO (L a P q W v y u w _ R r M C) λz s2 j=>?_;obtain⟨Z,U,S,O,Q⟩:=j;exact oU S G t g O (λY K=>⟨_,U,K,Q⟩) V
 rcases l with ⟨hk,J⟩ |⟨hk,c,hc,QE⟩
 ·exact abp I.ok.kind hk T J go
 rcases hk with hk |hk
 ·exact ab1 I.ok.kind hk hc QE go
 rcases g with k |k
 ·have:#[22]=ag .free:=hk;rw[k] at this;cases this
 have:#[22]=ag .free:=hk;rw[k] at this;cases this
noncomputable def Im (to d b:TE)(f:V->V->Hp->VK->Prop)(l:Uw)(h:DE):TS:=λD a H=>to a H λo m=>d a m λi k=>f o i k λx c=>b a c λy e=>l x y e λz j=>h o i z j λg=>D.nx a g
def Ju (X:Cx)(t:V->V->Hp->VK->Prop):Prop:=
 ∀ (a:Ln) (s:bo) (d:St) (H:Hp) (o i:V) (c b:ax) (Q:VK),Inv X a d H s->RelV o c->RelV i b->t o i H Q ->
  dr #[8] X.A (WO c b) (EP X a d Q) X.xe s
theorem Er {o i e:gy}{to j g:TE}{k:V->V->Hp->VK->Prop}{p:Uw}{n:DE}{op:acG}{y:Ud}(N:PE X o to)(Z:PE X i j)(Y:Ju X k)(w:PE X e g)(O:Xt X op p)(x:HP X n)
  (ha:∀ c f new,augStore i c f new=(do Vk [new,c,f] (abT c f new);release [new,c,f] [];wh .next):=by intros;rfl):PS X (.AugAssign (.Subscript o i y) op e pos) (Im to j g k p n):=by
 intro a s d H D I h;refine wpAny_AugAssign_SubscriptAny (LO (N a s d H _ I h) λc Q b=>?_) ha;obtain⟨x1,H1,U,l,u⟩:=b;refine LO (Z a Q d H1 _ U u) λf s2 b=>?_;obtain⟨x2,H2,W,m,S⟩:=b;refine LO (Y a s2 d H2 x1 x2 c f _ W l m S) λold G b=>?_;obtain⟨z,t,M,r3,J⟩:=b;refine LO (w a G d t _ M J) λv B b=>?_;obtain⟨x4,K,A,R,F⟩:=b;refine LO (O a B d K z x4 old v _ A r3 R F) λnew q b=>?_;obtain⟨x5,T,E,C,r⟩:=b;exact LO (x a q d T x1 x2 x5 c f new _ E l m C r) λ_ s6 ⟨P,L,q6⟩=>⟨d,P,L,q6⟩
noncomputable def ipI (f:Int->Int->Int):Uw:=λx y H Q => ∃ i j,x = .int i/\y = .int j/\Q (.int (f i j)) H
theorem Hg:Xt X .Add (ipI λi j=>i+j):=by intro a s g H x y v u Q I d e h;obtain⟨i,j,b,c,q⟩:=h;subst b;subst c;obtain⟨t,rfl⟩:=d;obtain⟨f,rfl⟩:=e;exact iadd_int ⟨.int _,H,I.tok _,⟨_,rfl⟩,q⟩
end
structure It where
 go:Nat->Hp->Prop
 Qk:Nat->Hp->V->Hp->Prop
 stop:Nat->Hp->Prop
def g0 (X:Cx)(a:Ln)(H:Hp)(b:bc):Prop:=
 H b=a4/\b≠X.env.locals/\b∉X.fs/\(b∈X.ex∨X.s₀.heap.objs.size<=b)/\(∀ x c,#[20]=ag c->c≠b)/\∀ p∈X.pn++a,p.1≠b
theorem Inv.Ot {X:Cx}{a:Ln}{f:St}{H H':Hp}{s:bo}{b:bc}(I:Inv X a f H s)(hb:s.heap.objs.size<=b)(g:H' b=a4):g0 X a H' b:=by
 refine⟨g,X2 (i3 I.lt hb),I.X_ hb,.inr (fg I.sz hb),λx c e z=>?_,λp d z=>?_⟩
 ·obtain⟨v,q⟩:=I.cell x c e;exact ib (i3 q.lt (by rw[z];exact hb)) (oe _)
 exact ib (i3 (en (I.pin p d).1) (by rw[z];exact hb)) (oe _)
structure Turn (P:e8) (w:hL) (K:Ll) (tg:gy) (J:It) (fp:ak bc) (it:bc) (tn:Nat->ja->Prop):Prop where
 mem:it∈fp
 obj:∀ i h,tn i h->∀ b∈fp,∃ o,h.get? b=ag o/\∀ v,o.data≠.cell v
 keep:∀ i h h',tn i h->(∀ b∈fp,∀ o,h.get? b=ag o->h'.get? b=ag o)->tn i h'
 item:∀ (X:Cx),X.prog=P->X.w=w->X.K=K->X.calm=a6->∀ (i:Nat) (pins:Ln) (s:bo) (σ:St) (H:Hp) (E:Lm),Inv X pins σ H s->(∀ b∈fp,g0 X pins H b)->tn i s.heap->J.go i H ->
  dr (eG P w) X.A (aaI (.ref it)) (λr s1 => ∃ u,r=ag u /\
   dr (eG P w) X.A (Wq tg (.ref it) u) (λ_ s2 => ∃ x H',Inv X pins σ H' s2/\RelV x u/\J.Qk i H x H'/\tn (i+1) s2.heap/\∀ b∈fp,H' b=a4) E s1) E s
 done:∀ (X:Cx),X.prog=P->X.w=w->X.K=K->X.calm=a6->∀ (i:Nat) (pins:Ln) (s:bo) (σ:St) (H:Hp) (E:Lm),Inv X pins σ H s->(∀ b∈fp,g0 X pins H b)->tn i s.heap->J.stop i H ->
  dr (eG P w) X.A (aaI (.ref it)) (λr s1=>r=a4/\Inv X pins σ H s1) E s
 self:∀ (A:iv) (i:Nat) (s:bo) (Q:Lm) (E:Lm),tn i s.heap->Q (.ref it) s->dr (eG P w) A (acg (.ref it)) Q E s
abbrev TI:=St->Hp->(It->Hp->Prop)->Prop
def Yf (X:Cx)(a:Ln)(h:St)(g:gy)(R:It->Hp->Prop)(f:ax)(e:bo):Prop:=
 ∃ (it:bc) (fp:ak bc) (d:Nat->ja->Prop) (J:It) (c:Hp),f = .ref it/\Inv X a h c e/\Turn X.prog X.w X.K g J fp it d/\d 0 e.heap/\(∀ b∈fp,g0 X a c b)/\R J c
def PI (X:Cx)(d iter:gy)(c:TI):Prop:=
 ∀ (a:Ln) (s:bo) (b:St) (H:Hp) (R:It->Hp->Prop),Inv X a b H s->c b H R ->
  dr #[8] X.A (qa iter X.env) (λv e=>dr #[8] X.A (acg v) (Yf X a b d R) X.xe e) X.xe s
theorem vU {M:Model}{A:iv}{E:Lm}{s:bo}{b:gy}{it:bc}{u:ax}{o:Obj}{n:Uk}{vs:hO ax}{Q:acf->bo->Prop}(c:s.heap.get? it=ag o)(hc:o.cls = .type n)(hd:o.data = .fields vs)
  (d:["enumerate","zip","dict_itemiterator","dict_reverseitemiterator","odict_iterator","itertools.zip_longest","itertools.pairwise"].contains n=a8) (a:Q () s):dr M A (Wq b (.ref it) u) Q E s:=by
 unfold Wq
 cases b<;>first
  |exact ay a
  |(cases u<;>first
    |exact ay a
    |(refine av (wpAny_load c ?_)
      rw[hc,hd];show dr M A (if (["enumerate","zip","dict_itemiterator","dict_reverseitemiterator","odict_iterator","itertools.zip_longest","itertools.pairwise"].contains n&&vs[0]?==ag (aaJ _))=a6 then _ else _) Q E s;rw[cn (by intro h;rw[d,Bool.false_and] at h;cases h)]
      exact ay a))
noncomputable def Yg (K:Ll)(a:bc):It:=
 ⟨λi H => ∃ b x,Oq K H a b/\b[i]?=ag x,λi H x c=>c=H/\∀ b,Oq K H a b->b[i]?=ag x,λi H => ∃ b,Oq K H a b/\b.length<=i⟩
noncomputable def Yh (K:Ll)(a:bc):It:=
 ⟨λi H => ∃ b x,O2 K H a b/\b[i]?=ag x,λi H x c=>c=H/\∀ b,O2 K H a b->b[i]?=ag x,λi H => ∃ b,O2 K H a b/\b.length<=i⟩
noncomputable def Xv (lo:Int)(n:Nat):It:=⟨λi _=>i<n,λi H x a=>a=H/\x = .int (lo+i),λi _=>n<=i⟩
theorem An {P:e8}{w:hL}{K:Ll}{T:gy}(a it:bc):Turn P w K T (Yg K a) [it] it (λi h=>h.IsListIter it a i) where
 mem:=by simp
 obj:=λi h st b hb=>by
  have e:b=it:=#[17]
  subst e;obtain⟨o,e,c,d⟩:=st;exact⟨o,e,λv z=>by rw[d] at z;cases z⟩
 keep:=λi h g st k=>st.at λo e=>k it #[3] o e
 item:=by
  intro X F q y hc i f s J H E I l st C;subst F q y;obtain⟨Q,x,j,m⟩:=C;obtain⟨its,t,p,M⟩:=I.list j;obtain⟨u,L,S⟩:=t.get m;obtain⟨A,r,R,D,n,B⟩:=l it #[3];refine wpAny_pyNext_list_item st p.isList (x:=u) (by simpa using L) λg G sb=>?_;have O:Inv X f J H { s with heap:=g }:=I.turned (t':=s.toks) (λb o hb e=>(sb.2 b hb).trans e) A r D n B;obtain⟨o,e,c,d⟩:=id G;exact⟨u,rfl,vU (s:={ s with heap:=g }) e c d #[2] ⟨x,H,O,S,⟨rfl,λW N=>by rw[I.OD N j];exact m⟩,G,λb hb=>(l b hb).1⟩⟩
 done:=by
  intro X F q y hc i f s J H E I l st C;subst F q y;obtain⟨Q,j,m⟩:=C;obtain⟨its,t,p,M⟩:=I.list j;obtain⟨A,r,R,D,n,B⟩:=l it #[3];have V:=t.length;exact wpAny_pyNext_list_end (I.ok.hd hc) st p.isList (by simp;omega) λg U=>⟨rfl,I.turned (t':=s.toks) (λb o hb e=>U b o hb e) A r D n B⟩
 self:=λ_ _ _ _ _ st h=>wpAny_pyIter_listiter st h
theorem w5 {P:e8}{w:hL}{K:Ll}{T:gy}(a it:bc):Turn P w K T (Yh K a) [it] it (λi h=>h.IsTupleIter it a i) where
 mem:=by simp
 obj:=λi h st b hb=>by
  have e:b=it:=#[17]
  subst e;obtain⟨o,e,c,d⟩:=st;exact⟨o,e,λv z=>by rw[d] at z;cases z⟩
 keep:=λi h g st k=>st.at λo e=>k it #[3] o e
 item:=by
  intro X F q y hc i f s J H E I l st C;subst F q y;obtain⟨Q,x,j,m⟩:=C;obtain⟨its,t,p,M⟩:=I.tuple j;obtain⟨u,L,S⟩:=t.get m;obtain⟨A,r,R,D,n,B⟩:=l it #[3];refine wpAny_pyNext_tuple_item st (show s.heap.IsTuple a its.toArray from p) (x:=u) (by simpa using L) λg G sb=>?_;have O:Inv X f J H { s with heap:=g }:=I.turned (t':=s.toks) (λb o hb e=>(sb.2 b hb).trans e) A r D n B;obtain⟨o,e,c,d⟩:=id G;exact⟨u,rfl,vU (s:={ s with heap:=g }) e c d #[2] ⟨x,H,O,S,⟨rfl,λW N=>by rw[I.N9 N j];exact m⟩,G,λb hb=>(l b hb).1⟩⟩
 done:=by
  intro X F q y hc i f s J H E I l st C;subst F q y;obtain⟨Q,j,m⟩:=C;obtain⟨its,t,p,M⟩:=I.tuple j;obtain⟨A,r,R,D,n,B⟩:=l it #[3];have V:=t.length;exact wpAny_pyNext_tuple_end (I.ok.hd hc) st (show s.heap.IsTuple a its.toArray from p) (by simp;omega) λg U=>⟨rfl,I.turned (t':=s.toks) (λb o hb e=>U b o hb e) A r D n B⟩
 self:=λ_ _ _ _ _ st h=>wpAny_pyIter_tupleiter st h
theorem w6 {P:e8}{w:hL}{K:Ll}{G:gy}(it:bc)(lo:Int)(n:Nat):Turn P w K G (Xv lo n) [it] it (λi h=>abq h it (lo+(i:Nat)*1) ((n:Int)-(i:Nat)) 1) where
 mem:=by simp
 obj:=λi h st b hb=>by
  have e:b=it:=#[17]
  subst e
  exact⟨_,st,λv z=>by
   have C:Data.fields _=Data.cell v:=z
   cases C⟩
 keep:=λi h c st k=>k it #[3] _ st
 item:=by
  intro X u g l hc i a s y H E I d st q;subst u g l;obtain⟨m,j,F,r,f,p⟩:=d it #[3];have W:=Walks.range (prog:=X.prog) (w:=X.w) (I.ok.hd hc) it lo 1 n;refine W.item i s _ _ q st λv c tk B x A=>?_;obtain⟨t,rfl⟩:=B;have D:Inv X a y H { s with heap:=c,toks:=tk }:=I.turned (λb o hb e=>A b o (#[17]) e) m j r f p;refine⟨_,rfl,vU (s:={ s with heap:=c,toks:=tk }) (n:="range_iterator") x rfl rfl #[2] ⟨.int (lo+i),H,D,⟨t,?_⟩,⟨rfl,rfl⟩,x,λb hb=>(d b hb).1⟩⟩;rw[Int.mul_one]
 done:=by
  intro X u g l hc i a s y H E I d st q;subst u g l;obtain⟨m,j,F,r,f,p⟩:=d it #[3];exact aaK (I.ok.hd hc) st (by have:n<=i:=q;omega) λc J=>⟨rfl,I.turned (t':=s.toks) (λb o hb e=>J b o hb e) m j r f p⟩
 self:=λ_ _ _ _ _ st h=>aaL st h
section
variable {X:Cx}{tg:gy}
noncomputable def IZ (K:Ll)(c:TE):TI:=λd H R=>c d H λx b => ∃ a,x = .ref a/\(∃ e,Oq K b a e)/\R (Yg K a) b
noncomputable def J9 (K:Ll)(c:TE):TI:=λd H R=>c d H λx b => ∃ a,x = .ref a/\(∃ e,O2 K b a e)/\R (Yh K a) b
theorem Ew {l:gy}{g:TE}(k:PE X l g):PI X tg l (IZ X.K g):=by
 intro c s m H R I h;refine LO (k c s m H _ I h) λv d i=>?_;obtain⟨x,t,f,n,j⟩:=i;obtain⟨a,e,⟨y,r⟩,q⟩:=j;subst e;cases n;obtain⟨its,u,p,w⟩:=f.list r;refine wpAny_pyIter_list p.isList ?_;refine⟨d.heap.objs.size,[d.heap.objs.size],_,_,t,rfl,f.kept (t':=d.toks) λb o e=>a9 _ e,An a _,⟨_,er _ rfl,rfl,rfl⟩,λb hb=>?_,q⟩;have e:b=d.heap.objs.size:=#[17]
 subst e;exact f.Ot (e9 _) (f.LW.fresh (e9 _))
theorem GM {l:gy}{g:TE}(k:PE X l g):PI X tg l (J9 X.K g):=by
 intro d s m H R I h;refine LO (k d s m H _ I h) λv c i=>?_;obtain⟨x,t,f,n,j⟩:=i;obtain⟨a,e,⟨y,r⟩,q⟩:=j;subst e;cases n;obtain⟨its,u,p,w⟩:=f.tuple r;refine Um (show c.heap.IsTuple a its.toArray from p) ?_;refine⟨c.heap.objs.size,[c.heap.objs.size],_,_,t,rfl,f.kept (t':=c.toks) λb o e=>a9 _ e,w5 a _,⟨_,er _ rfl,rfl,rfl⟩,λb hb=>?_,q⟩;have e:b=c.heap.objs.size:=#[17]
 subst e;exact f.Ot (e9 _) (f.LW.fresh (e9 _))
theorem B9 {c:Ln}{d:St}{H:Hp}{s:bo}{R:It->Hp->Prop}{E:Lm}{lo a:Int}{t u v:Tok}{tk:Nat}(I:Inv X c d H s)(k : -(2 ^ 62)<=lo)(l:lo<2 ^ 62)(h : -(2 ^ 62)<=a)(j:a<2 ^ 62)
  (q:R (Xv lo (a-lo).toNat) H):dr #[8] X.A (acg (#[16])) (Yf X c d tg R) E { s with heap:=s.heap.push { cls:=.type "range",data:=.fields #[.int lo t,.int a u,.int 1 v] },toks:=tk }:=by
 refine ach (aex ..) (small_one k l h j) ?_;have f:Inv X c d H { s with heap:=s.heap.push { cls:=.type "range",data:=.fields #[.int lo t,.int a u,.int 1 v] },toks:=tk }:=I.kept λb o e=>a9 _ e
 refine⟨(s.heap.push { cls:=.type "range",data:=.fields #[.int lo t,.int a u,.int 1 v] }).objs.size,[(s.heap.push { cls:=.type "range",data:=.fields #[.int lo t,.int a u,.int 1 v] }).objs.size],_,_,H,rfl,
  f.kept (t':=tk) λb o e=>a9 _ e,w6 _ lo (a-lo).toNat,?_,λb hb=>?_,q⟩
 ·have g:lo+((0:Nat):Int)*1=lo:=by simp
  have i:(((a-lo).toNat:Nat):Int)-((0:Nat):Int)=T1 lo a 1:=by rw[rangeSize_one];split<;>omega
  show abq _ _ (lo+((0:Nat):Int)*1) ((((a-lo).toNat:Nat):Int)-((0:Nat):Int)) 1;rw[g,i];exact er _ rfl
 have e:b=(s.heap.push { cls:=.type "range",data:=.fields #[.int lo t,.int a u,.int 1 v] }).objs.size:=#[17]
 subst e;exact f.Ot (e9 _) (f.LW.fresh (e9 _))
noncomputable def IY (a:TA):TI:=λd H R=>a d H λb c => ∃ j:Int,b=[.int j]/\-(2 ^ 62)<=j/\j<2 ^ 62/\R (Xv 0 j.toNat) c
theorem AJ {a:gy}{d:TA}{p pos:Ud}(u:Gl X "range")(l:X.mg "range"=a4)(ha:PA X [a] d)(g:ek [a] X.env=[(a8,qa a X.env)]:=by rfl):PI X tg (.Call (.Name "range" p) [a] [] pos) (IY d):=by
 intro b s i H R I h;refine Call_ (jg I u l boot_range (UN (LO (ha pos b s i H _ I h) λx w f=>?_) g rfl));obtain⟨v,y,o,m,c⟩:=f;obtain⟨j,e,c,n,q⟩:=c;subst e;cases m with
 |cons r k =>
  cases k;obtain⟨t,rfl⟩:=r;exact call_range_1 (B9 o #[0] #[0] c n (by simpa using q))
noncomputable def JR (h:TI)(g:TG)(f:TS):TS:=λD a H=>h a H λJ k => ∃ W:Nat->Nat->St->Hp->Prop,(∃ m,W 0 m a k)/\∀ i m a H,W i m a H ->
 (J.stop i H/\D.nx a H)∨(J.go i H/\∃ N:St->Hp->Prop,(∀ c b,N c b->∃ e,e<m/\W (i+1) e c b)/\∀ x b,J.Qk i H x b->g x a b λd j=>f { D with nx:=N,ct:=N,bk:=D.nx } d j)
noncomputable def mJ (fp:ak bc)(h:ja):Ln:=fp.filterMap λb=>(h.get? b).map λo=>(b,o)
theorem hZ {fp:ak bc}{h:ja}{b:bc}{o:Obj}(hb:b∈fp)(e:h.get? b=ag o):(b,o)∈mJ fp h:=aaa.mpr ⟨b,hb,by rw[e];rfl⟩
theorem AQ {fp:ak bc}{h:ja}{p:bc×Obj}(a:p∈mJ fp h):p.1∈fp/\h.get? p.1=ag p.2:=by
 obtain⟨b,hb,e⟩:=aaa.mp a;cases q:h.get? b with
 |none=>rw[q] at e;cases e
 |some o =>
  rw[q] at e;have c:(b,o)=p:=h8 e;subst c;exact⟨hb,q⟩
theorem Inv.pinned {a:Ln}{c:St}{H:Hp}{s:bo}{fp:ak bc}(I:Inv X a c H s)(l:∀ b∈fp,g0 X a H b)(i:∀ b∈fp,∃ o,#[19]=ag o/\∀ v,o.data≠.cell v):Inv X (a++mJ fp s.heap) c H s:=
 I.NS λp j=>(k6.mp j).elim (λz=>I.pin p (mm _ z)) λz=>by
  obtain⟨hb,e⟩:=AQ z;obtain⟨h,g,k,_⟩:=l p.1 hb;obtain⟨o,f,d⟩:=i p.1 hb;rw[e] at f;cases f;exact⟨e,h,g,k,d⟩
theorem Inv.OE {a pl:Ln}{b:St}{H:Hp}{s:bo}(I:Inv X (a++pl) b H s):Inv X a b H s:=I.NS λp c=>I.pin p (mm _ (UE _ c))
theorem GI {iter:gy}{body:ak qb}{V:TI}{g:TG}{M:TS}{pos:Ud}(z:PassesOwn #[8] X.A X.env X.xe)(hc:X.calm=a6)(hi:PI X tg iter V)(hg:PG X tg g)(hb:Qj X body M)
  (hs:∀ x,UO iter X.env x=wh x:=by intro _;rfl):PS X (.For tg iter body [] pos) (JR V g M):=by
 intro c s S H D I h;refine wpAny_For (LO (hi c s S H _ I h) λv s1 h1=>LO h1 λVS s2 h2=>?_) hs;obtain⟨it,fp,Z,J,H2,e,I2,T,Oe,P,W,⟨m0,w0⟩,B⟩:=h2;subst e;have K:∀ {q:Hp},(∀ b∈fp,q b=a4)->∀ b∈fp,g0 X c q b:=λhn b hb=>⟨hn b hb,(P b hb).2⟩;refine codeAny_forLoop_any (λn s' => ∃ i l q,Inv X c l q s'/\Z i s'.heap/\(∀ b∈fp,q b=a4)/\W i n l q) ?_ m0 ⟨0,S,H2,I2,Oe,λb hb=>(P b hb).1,w0⟩;rintro n R ⟨i,j,E,U,Nx,O,w3⟩;rcases B i n j E w3 with ⟨stop,qn⟩ |⟨go,N,hN,step⟩
 ·refine Ws z (LO (T.done X rfl rfl rfl hc i c R j E X.xe U (K O) Nx stop) λr s4 y=>?_);obtain⟨hr,I4⟩:=y;subst hr;exact aa7 ⟨j,E,I4,qn⟩
 refine Ws z (LO (T.item X rfl rfl rfl hc i c R j E X.xe U (K O) Nx go) λr s4 y=>?_);obtain⟨u,hr,h4⟩:=y;subst hr;refine Ws z (LO h4 λ_ Q y=>?_);obtain⟨x,Y,I5,r5,y5,F,Yi⟩:=y;have Yj:=I5.pinned (K Yi) (T.obj _ _ F);refine Ws z (LO (hg _ Q j Y x u _ Yj r5 (step x Y y5)) λ_ s6 y=>?_);obtain⟨G,H6,I6,q6⟩:=y;refine Ws z (LO (hb _ s6 G H6 _ I6 q6) λf L t=>?_);have again:∀ {a:St}{p:Hp},Inv X (c++mJ fp Q.heap) a p L->N a p->∃ m,m<n/\∃ i l q,Inv X c l q L/\Z i L.heap/\(∀ b∈fp,q b=a4)/\W i m l q:=λ{a p} k C=>by obtain⟨m',hm,w7⟩:=hN a p C;refine⟨m',hm,i+1,a,p,k.OE,T.keep _ _ _ F λb hb o e=>(k.pin (b,o) (mm _ (mm _ (hZ hb e)))).1,λb hb=>?_,w7⟩;obtain⟨o,e,d⟩:=T.obj _ _ F b hb;exact(k.pin (b,o) (mm _ (mm _ (hZ hb e)))).2.1
 cases f with
 |next=>obtain⟨a,p,k,C⟩:=t;exact again k C
 |cont=>obtain⟨a,p,k,C⟩:=t;exact again k C
 |brk=>obtain⟨a,p,k,t⟩:=t;exact⟨a,p,k.OE,t⟩
 |ret v=>obtain⟨x7,a,p,k,r7,t⟩:=t;exact⟨x7,a,p,k.OE,r7,t⟩
end
abbrev R2:=V->V->Hp->VK->Prop
def Pt (X:Cx)(f:ax->ax->Sem ax)(r:R2):Prop:=
 ∀ (a:Ln) (s:bo) (b:St) (H:Hp) (x y:V) (v u:ax) (Q:VK),Inv X a b H s->RelV x v->RelV y u->r x y H Q ->
  dr #[8] X.A (f v u) (EP X a b Q) X.xe s
def Xw (X:Cx)(f:ax->Sem ax)(r:V->Hp->VK->Prop):Prop:=
 ∀ (a:Ln) (s:bo) (b:St) (H:Hp) (x:V) (v:ax) (Q:VK),Inv X a b H s->RelV x v->r x H Q ->
  dr #[8] X.A (f v) (EP X a b Q) X.xe s
def iM (X:Cx)(f:ax)(r:ak V->Hp->VK->Prop):Prop:=
 ∀ (a:Ln) (s:bo) (b:St) (H:Hp) (c:ak V) (d:ak ax) (Q:VK),Inv X a b H s->Vals c d->r c H Q ->
  dr #[8] X.A (call f d) (EP X a b Q) X.xe s
def KB (X:Cx)(r:V->Hp->(eM->Hp->Prop)->Prop):Prop:=
 ∀ (a:Ln) (s:bo) (b:St) (H:Hp) (x:V) (v:ax) (Q:eM->Hp->Prop),Inv X a b H s->RelV x v->r x H Q ->
  dr #[8] X.A (truthy v) (TP X a b Q) X.xe s
noncomputable def VT (r:R2)(d b:TE):TE:=λa H Q=>d a H λx e=>b a e λy c=>r x y c Q
noncomputable def tUn (r:V->Hp->VK->Prop)(a:TE):TE:=λc H Q=>a c H λx b=>r x b Q
noncomputable def rI (C:Int->Int->Prop)(g:Int->Int->V):R2:=λx y H Q => ∃ i j,x = .int i/\y = .int j/\C i j/\Q (g i j) H
noncomputable def Vh (g:Int->Int->V):R2:=λx y H Q => ∃ i j,x = .int i/\y = .int j/\Q (g i j) H
def rU (g:Int->V):V->Hp->VK->Prop:=λx H Q => ∃ i,x = .int i/\Q (g i) H
section
variable {X:Cx}{a b c:gy}{ta tb tc:TE}{pos:Ud}
theorem HF (ha:PE X a ta)(hb:PE X b tb){c:Ln}{s:bo}{d:St}{H:Hp}{R:V->V->Hp->Prop}(I:Inv X c d H s)
  (h:ta d H λx l=>tb d l λy e=>R x y e) {Q:Lm}{f:ax->ax->Sem ax}
  (z:∀ v u j x y e,Inv X c d e j->RelV x v->RelV y u->R x y e->dr #[8] X.A (f v u) Q X.xe j) :
  dr #[8] X.A (qa a X.env) (λv g=>dr #[8] X.A (qa b X.env) (λu i=>dr #[8] X.A (f v u) Q X.xe i) X.xe g) X.xe s:=by
 refine LO (ha c s d H _ I h) λv p k=>?_;obtain⟨x,l,r,n,m⟩:=k;refine LO (hb c p d l _ r m) λu j k=>?_;obtain⟨y,e,t,o,q⟩:=k;exact z v u j x y e t n o q
theorem ID {op:acG}{r:R2}(g:Pt X (Ra op) r)(ha:PE X a ta)(hb:PE X b tb):PE X (.BinOp a op b pos) (VT r ta tb):=by intro c s d H Q I h;exact wpAny_BinOp (HF ha hb I h λv u k x y j i e f q=>g c k d j x y v u Q i e f q)
theorem IC {op:UnaryOp}{r:V->Hp->VK->Prop}(d:Xw X (unaryOp op) r)(ha:PE X a ta):PE X (.UnaryOp op a pos) (tUn r ta):=by intro b s c H Q I h;exact UnaryOp_ (LO (ha b s c H _ I h) λv f ⟨x,i,j,e,g⟩=>d b f c i x v Q j e g)
theorem Yk {f:ax->ax->Sem ax}{C:Int->Int->Prop}{g:Int->Int->Int}
  (rule:∀ (i j:Int) (t u:Tok) (s:bo) (Q:Lm) (E:Lm),C i j->Q (.int (g i j) s.toks) { s with toks:=s.toks+1 }->dr #[8] X.A (f (.int i t) (.int j u)) Q E s) :
  Pt X f (rI C λi j => .int (g i j)):=by
 intro a s e H x y v u Q I c d h;obtain⟨i,j,rfl,rfl,hc,q⟩:=h;obtain⟨t,rfl⟩:=c;obtain⟨b,rfl⟩:=d;exact rule i j t b s _ _ hc ⟨.int (g i j),H,I.tok _,⟨_,rfl⟩,q⟩
theorem IG {f:ax->ax->Sem ax}{g:Int->Int->Int}
  (rule:∀ (i j:Int) (t u:Tok) (s:bo) (Q:Lm) (E:Lm),Q (.int (g i j) s.toks) { s with toks:=s.toks+1 }->dr #[8] X.A (f (.int i t) (.int j u)) Q E s) :
  Pt X f (Vh λi j => .int (g i j)):=by
 intro a s e H x y v u Q I c d h;obtain⟨i,j,rfl,rfl,q⟩:=h;obtain⟨t,rfl⟩:=c;obtain⟨b,rfl⟩:=d;exact rule i j t b s _ _ ⟨.int (g i j),H,I.tok _,⟨_,rfl⟩,q⟩
theorem II {f:ax->ax->Sem ax}{g:Int->Int->eM}
  (rule:∀ (i j:Int) (t u:Tok) (s:bo) (Q:Lm) (E:Lm),Q (.bool (g i j)) s->dr #[8] X.A (f (.int i t) (.int j u)) Q E s) :
  Pt X f (Vh λi j => .bl (g i j)):=by
 intro a s e H x y v u Q I c d h;obtain⟨i,j,rfl,rfl,q⟩:=h;obtain⟨t,rfl⟩:=c;obtain⟨b,rfl⟩:=d;exact rule i j t b s _ _ ⟨.bl (g i j),H,I,rfl,q⟩
def KF (i j:Int):Prop:=0<j/\j<1073741824
def S_ (i j:Int):Prop:=(-(2 ^ 64)<i/\i<2 ^ 64)∨(-(2 ^ 64)<j/\j<2 ^ 64)
theorem S_.ok {i j:Int}(h:S_ i j):IntMulOk i j:=by
 rcases h with ⟨a,b⟩ |⟨a,b⟩
 ·exact .of_left (intBits_le_64 a b)
 exact .of_right (intBits_le_64 a b)
theorem GZ:Pt X (Ra .Add) (Vh λi j => .int (i+j)):=IG λ_ _ _ _ _ _ _ q=>add_int q
theorem GV:Pt X (Ra .Sub) (Vh λi j => .int (i-j)):=IG λ_ _ _ _ _ _ _ q=>sub_int q
theorem GW:Pt X (Ra .Mult) (rI S_ λi j => .int (i*j)):=Yk λ_ _ _ _ _ _ _ hc q=>mul_int q hc.ok
theorem EH:Pt X (Ra .FloorDiv) (rI KF λi j => .int (i / j)):=Yk λi j _ _ _ _ _ hc q=>by have a:(0:Int)<j:=hc.1;have b:j<1073741824:=hc.2;exact floordiv_int #[0] (by rw[Int.fdiv_eq_ediv_of_nonneg i #[0]];exact q) (.inl (PyProof.noPylong_small #[0]))
theorem GX:Pt X (Ra .Mod) (rI (λ_ j => 0<j) λi j => .int (i % j)):=Yk λi j _ _ _ _ _ hc q=>by have a:(0:Int)<j:=hc;exact mod_int' #[0] (by rw[Int.fmod_eq_emod_of_nonneg i #[0]];exact q)
theorem unI {f:ax->Sem ax}{g:Int->Int}
  (rule:∀ (i:Int) (t:Tok) (s:bo) (Q:Lm) (E:Lm),Q (.int (g i) s.toks) { s with toks:=s.toks+1 }->dr #[8] X.A (f (.int i t)) Q E s) :
  Xw X f (rU λi => .int (g i)):=by
 intro a s c H x v Q I b h;obtain⟨i,rfl,q⟩:=h;obtain⟨t,rfl⟩:=b;exact rule i t s _ _ ⟨.int (g i),H,I.tok _,⟨_,rfl⟩,q⟩
theorem F7:Xw X (unaryOp .USub) (rU λi => .int (-i)):=unI λ_ _ _ _ _ q=>neg_int q
end
section
variable {X:Cx}{a b c:gy}{ta tb tc:TE}{pos:Ud}
theorem yc {a:Ln}{c:St}{H:Hp}{s:bo}{Q:VK}{k b:eM}(I:Inv X a c H s)(q:Q (.bl k) H)(e:k=b):EP X a c Q (.bool b) s:=by subst e;exact⟨.bl k,H,I,rfl,q⟩
theorem IE:Pt X (oa .Lt) (Vh λi j => .bl (ei (i<j))):=II λ_ _ _ _ _ _ _ q=>aeo q
theorem IF:Pt X (oa .Gt) (Vh λi j => .bl (ei (j<i))):=II λ_ _ _ _ _ _ _ q=>gt_int q
theorem AO:Pt X (oa .Lt) (λx y H Q => ∃ i j,x = .str i/\y = .str j/\Q (.bl (ei (i.cps.toList<j.cps.toList))) H):=by intro a s e H x y v u Q I b c h;obtain⟨i,j,rfl,rfl,q⟩:=h;obtain⟨t,rfl⟩:=b;obtain⟨d,rfl⟩:=c;exact abh (yc I q rfl)
theorem GY:Pt X (oa .Is) (λx y H Q=>y = .LR/\Q (.bl (ei (x = .LR))) H):=by
 intro a s d H x y v u Q I b c h;obtain⟨rfl,q⟩:=h;cases c;refine is_none_gen (yc I q ?_)
 cases x<;>first
  |(cases b;rfl)
  |(obtain⟨t,rfl⟩:=b;rfl)
theorem EG:Pt X (oa .IsNot) (λx y H Q=>y = .LR/\Q (.bl (!ei (x = .LR))) H):=by
 intro a s d H x y v u Q I b c h;obtain⟨rfl,q⟩:=h;cases c;refine isnot_none_gen (yc I q ?_)
 cases x<;>first
  |(cases b;rfl)
  |(obtain⟨t,rfl⟩:=b;rfl)
theorem Cy (b:gy){op:acF}(h:op≠.In:=by decide)(a:op≠.NotIn:=by decide):ov op b=a8:=by
 have c:(op==CmpOp.In)=a8:=by cases op<;>first |rfl |exact ib rfl h
 have d:(op==CmpOp.NotIn)=a8:=by cases op<;>first |rfl |exact ib rfl a
 cases b<;>simp[ov,c,d]
theorem ED {op:acF}{r:R2}(i:Pt X (oa op) r)(ha:PE X a ta)(hb:PE X b tb)(g:ov op b=a8):PE X (.Compare a [op] [b] pos) (VT r ta tb):=by intro c s d H Q I h;exact wpAny_Compare1 (HF ha hb I h λv u l x y k j e f q=>i c l d k x y v u Q j e f q) g
noncomputable def NT (t:TE):TT:=λb H Q=>t b H λx a => ∃ k,x = .bl k/\Q k a
theorem El {op:acF}{r:R2}(n:Pt X (oa op) r)(ha:PE X a ta)(hb:PE X b tb)(l:ov op b=a8):PT X (.Compare a [op] [b] pos) (NT (VT r ta tb)):=by
 intro d s f H Q I h
 refine abg (LO (ha d s f H _ I h) λv q ⟨x,E,A,o,i⟩=>LO (hb d q f E _ A i) λu D ⟨y,C,w,p,t⟩ =>
  LO (n d D f C x y v u _ w o p t) λc F ⟨z,g,m,B,k,e,j⟩=>?_) l
 subst e;cases B;exact xa ⟨g,m,j⟩
def Jr (K:Ll)(x:V)(H:Hp)(k:eM):Prop:=
 match x with
 | .LR=>k=a8
 | .bl b=>k=b
 | .int i=>k=(i != 0)
 | .str y=>y.length<=da/\k=((y.length:Int) != 0)
 | .Ve y=>y.size<=da/\k=((y.size:Int) != 0)
 | .ref p=>(∃ c,Oq K H p c/\k = !c.isEmpty)∨(∃ c,O2 K H p c/\k = !c.isEmpty)∨∃ a,H p=ag (.dK a)/\k = !a.isEmpty
 |_=>False
theorem xT {a:Type}{kvs:ak (a×V)}{vs:ak (a×ax)}(r:KV kvs vs):(!vs.isEmpty) = !kvs.isEmpty:=by cases r<;>rfl
theorem pQ {xs:ak V}{its:ak ax}(r:Vals xs its):(!its.toArray.isEmpty) = !xs.isEmpty:=by cases r<;>simp
theorem je:(da:Nat)<2 ^ 63:=by rw[Uh];decide
theorem Gb:KB X (λx H Q => ∃ k,Jr X.K x H k/\Q k H):=by
 intro o s C H x v Q I g h;obtain⟨k,e,q⟩:=h;have B:=je;have A:da=16777216:=Uh;cases x with
 |LR =>
  cases g;have a:k=a8:=e;subst a;exact truthy_none ⟨H,I,q⟩
 |bl b =>
  cases g;have a:k=b:=e;subst a;exact xa ⟨H,I,q⟩
 |int i =>
  obtain⟨t,rfl⟩:=g;have a:k=(i != 0):=e;subst a;exact PySem.P.truthy_int ⟨H,I,q⟩
 |str y =>
  obtain⟨t,rfl⟩:=g;obtain⟨u,a⟩:y.length<=da/\k=((y.length:Int) != 0):=e;subst a;exact PySem.P.truthy_str #[0] ⟨H,I.tok _,q⟩
 |Ve y =>
  obtain⟨t,rfl⟩:=g;obtain⟨u,a⟩:y.size<=da/\k=((y.size:Int) != 0):=e;subst a;exact PySem.W.truthy_bytes #[0] ⟨H,I.tok _,q⟩
 |ref p =>
  cases g;have a:(∃ f,Oq X.K H p f/\k = !f.isEmpty)∨(∃ f,O2 X.K H p f/\k = !f.isEmpty)∨∃ c,H p=ag (.dK c)/\k = !c.isEmpty:=e;rcases a with ⟨f,j,a⟩ |⟨f,j,a⟩ |⟨c,j,a⟩
  ·subst a;obtain⟨its,r,pl,n⟩:=I.list j;have d:=r.length;exact wpAny_truthy_list pl.isList (by simp only[f5];omega) ⟨H,I.tok _,by rw[pQ r];exact q⟩
  ·subst a;obtain⟨its,r,pl,n⟩:=I.tuple j;have d:=r.length;exact truthy_tuple pl (by simp only[f5];omega) ⟨H,I.tok _,by rw[pQ r];exact q⟩
  subst a;obtain⟨n,z,l,r,m⟩:c.length<=da/\(p==RV)=a8/\∃ l,KV c l/\s.heap.DictOf (bG X.prog X.w) p l:=I.LW p _ j;have d:c.length=l.length:=V0 r;exact wpAny_truthy_dict z m #[0] ⟨H,I.tok _,by rw[xT r];exact q⟩
 |_=>exact(show False from e).elim
theorem xE:Pt X (Ra .Add) (λx y H Q => ∃ i j,x = .str i/\y = .str j/\i.length+j.length<=da/\Q (.str (i++j)) H):=by intro a s f H x y v u Q I d e h;obtain⟨i,j,rfl,rfl,c,q⟩:=h;obtain⟨t,rfl⟩:=d;obtain⟨b,rfl⟩:=e;exact add_str (λb tk=>⟨.str (i++j),H,I.tok _,⟨_,rfl⟩,q⟩) c
theorem vals1 {x:V}{us:ak ax}(r:Vals [x] us):∃ u,us=[u]/\RelV x u:=by
 cases r with
 |cons a b=>cases b;exact⟨_,rfl,a⟩
theorem vals2 {x y:V}{us:ak ax}(r:Vals [x,y] us):∃ u a,us=[u,a]/\RelV x u/\RelV y a:=by
 cases r with
 |cons b c =>
  cases c with
  |cons d e=>cases e;exact⟨_,_,rfl,b,d⟩
theorem sI:iM X (.type "int") (λxs H Q=>(∃ i,xs=[.int i]/\Q (.int i) H)∨∃ k,xs=[.bl k]/\Q (.int (if k then 1 else 0)) H):=by
 intro a s c H xs d Q I r h;rcases h with ⟨i,rfl,q⟩ |⟨k,rfl,q⟩
 ·obtain⟨u,rfl,t,rfl⟩:=vals1 r;exact call_int_int ⟨.int i,H,I,⟨_,rfl⟩,q⟩
 obtain⟨u,rfl,b⟩:=vals1 r;cases b;exact call_int_bool ⟨.int (if k then 1 else 0),H,I.tok _,⟨_,rfl⟩,q⟩
end
structure Ql (h:ja) (x dx C:bc) (mA:Lo):Prop where
 obj:h.get? x=ag (QN C dx)
 ns:h.Ns1 dx mA
 ne:dx≠x
theorem A5 {h:ja}{b:bc}{d:Lo}(n:h.Ns1 b d):∃ c,h.get? b=ag c/\∀ name,Y4 name c=ag (d name):=by
 obtain⟨o,es,ep,l,hd,g,_,k⟩:=n;refine⟨o,l,λname=>?_⟩;have e:=k name;unfold nsFind findBy at e;rw[← Array.find?_toList] at e;unfold Y4;rw[hd];rw[0];split
 ·rename_i y q;rw[q] at e;exact q7 ag e
 rename_i q;rw[q] at e;have a:es.toList.any (·.refKey)=a8:=by rw[ZR];intro y i;obtain⟨z,t,f⟩:=g y (abr.mp i);simp[DictEntry.refKey,f]
 have j:¬ es.toList.any (·.refKey)=a6:=by rw[a];exact Ww
 rw[cn j];exact q7 ag e
theorem Ql.look {h:ja}{x b C:bc}{c:Lo}(I:Ql h x b C c):∃ a,PySem.W.InstAt h x (QN C b) C (ag a)/\∀ name,Y4 name a=ag (c name):=
 let ⟨a,d,e⟩:=A5 I.ns
 ⟨a,⟨I.obj,rfl,rfl,d⟩,e⟩
section
variable {prog:e8}{w:hL}{A:iv}{E:Lm}{s:bo}{K:Ll}{x dx C f:bc}{mA:Lo}{name:el}{v:ax}
theorem get_map {expr:eM}{Q:Lm}(X:K.In s.heap)(I:Ql s.heap x dx C mA)(b:Xy K C name=a6)(e:ZV K C=a6)
  (ha:pz K (.ref C) name=ag a4) (c:mA name=ag v) (a:ac3 v=a6) (h:Q v { s with toks:=s.toks+1 }) :
  dr #[5] A (getAttr (.ref x) name expr) Q E s:=by
 obtain⟨f,J,d⟩:=I.look;exact PySem.W.get_value X J (Ys b).1 (PySem.W.findObj_own e ha rfl (by rw[d,c])) a h
theorem C5 {pl:Sem eM}{Q:ax×ak ax->bo->Prop}(X:K.In s.heap)(I:Ql s.heap x dx C mA)(a:Xy K C name=a6)
  (d:pz K (.ref C) name=ag (ag (.ref f))) (g:YH K (.ref f)=a6) (b:mA name=a4) (h:Q (.ref f,[.ref x]) s) :
  dr #[5] A (abU (.ref x) name pl) Q E s:=by
 obtain⟨c,J,e⟩:=I.look;exact PySem.W.method_fn X J (Ys a).1 (Ys a).2 d (XD.mp g) (by show (Y4 name c).map (·.isSome)=ag a8;rw[e,b];rfl) h
theorem Ea {ns:ak el}{Q:acf->bo->Prop}(X:K.In s.heap)(I:Ql s.heap x dx C mA)
  (k:pz K (.ref C) "__setattr__"=ag (ag (.builtin "object.__setattr__"))) (m:acH K C=a6) (q:aa8 K C name=ag a4) (l:ZV K C=a6)
  (j:acE mA ns) (hsz:ns.length<=da)
  (h:∀ h',Ql h' x dx C (λy=>if y=name then ag v else mA y)->Vi dx s.heap h'->Q () { s with heap:=h',toks:=s.toks+2 }) :
  dr #[5] A (setAttr (.ref x) name v) Q E s:=by
 obtain⟨u,J,t⟩:=I.look;refine PySem.W.set_plain X J k (PySem.W.osa_open (s:={ s with toks:=s.toks+1 }) (r:=a4) X J m q λb=>?_);obtain⟨cd,hc,p⟩:=PySem.W.any_some l;have i:s.heap.get? x=ag ⟨.ref C,ag dx,.plain,#[]⟩:=I.obj;refine av (ay (av (av (wpAny_loadPart i (av (PySem.W.Looks.here (s:={ s with toks:=s.toks+1 }) (PySem.W.looks_clsIn X hc) ?_))))));rw[p];refine ay (a:=ag dx) (av (ay (av ?_)));refine wpAny_nsSet1 (s:={ s with toks:=s.toks+1 }) I.ns λh' f g=>?_;obtain⟨oD,o,n,d,e,c⟩:=f.count (PySem.Within.cons name v j);refine av (wpAny_lookBehind d (by rw[e];exact pastItsLine_dict (fg c (by rw[hG];omega))) ?_);exact ay (h _ ⟨(g.2 _ (kg I.ne)).trans I.obj,f,I.ne⟩ g)
theorem CO {R:ac4->bo->Prop}{vs:ak ax}{kw:ak (el×ax)}(X:K.In s.heap)(a:aa9 K C=a6)
  (b:pz K (.ref C) "__init__"=ag (ag (.ref f))) (c:PySem.W.typeIn K (.ref f)=ag (.type "function"))
  (h:XW #[5] (A.under (.builtin "type.__call__" ⟨.ref C::vs,kw⟩)) (.call (.ref f) ⟨.ref (#[15])::vs,kw⟩) (PySem.W.InitBack (#[15]) R)
   { s with heap:=(s.heap.push xb).push (QN C s.heap.objs.size) }) :
  XW #[5] A (.call (.ref C) ⟨vs,kw⟩) R s:=by
 obtain⟨e,g,d,t,os⟩:=s;exact PySem.W.make_core (PySem.W.makes_of X a) (PySem.W.looks_findIn X b) (λself=>PySem.W.bind_fn X self c) (#[9]) h
end
noncomputable def gq (f:el)(v:V):ak (el×V)->ak (el×V)
 |[]=>[(f,v)]
 |(g,x)::r=>if g=f then (g,v)::r else (g,x)::gq f v r
theorem nI (f g:el)(v:V):∀ fs:ak (el×V),(gq f v fs).lookup g=if g=f then ag v else fs.lookup g
 |[]=>by
  show xl g [(f,v)]=_;by_cases h:g=f
  ·have hb:(g==f)=a6:=XD.mpr h;simp only[xl,hb,cc h]
  have hb:(g==f)=a8:=lE.mpr h;simp only[xl,hb,cn h]
 |(k,x)::r=>by
  have b:=nI f g v r;rw[show gq f v ((k,x)::r)=(if k=f then (k,v)::r else (k,x)::gq f v r) from rfl];by_cases a:k=f
  ·rw[cc a];by_cases h:g=k
   ·have hb:(g==k)=a6:=XD.mpr h;simp only[xl,hb,cc (h.trans a)]
   have hb:(g==k)=a8:=lE.mpr h;simp only[xl,hb,cn (λe:g=f=>h (e.trans a.symm))]
  rw[cn a];by_cases h:g=k
  ·have hb:(g==k)=a6:=XD.mpr h;simp only[xl,hb,cn (λe:g=f=>a (h.symm.trans e))]
  have hb:(g==k)=a8:=lE.mpr h;simp only[xl,hb];exact b
theorem mP (f:el)(v:V):∀ fs:ak (el×V),f∈(gq f v fs).map (·.1)/\∀ g,g∈fs.map (·.1)->g∈(gq f v fs).map (·.1)
 |[]=>⟨by simp[gq],λg h=>by simp at h⟩
 |(k,x)::r=>by
  obtain⟨c,b⟩:=mP f v r;rw[show gq f v ((k,x)::r)=(if k=f then (k,v)::r else (k,x)::gq f v r) from rfl];by_cases a:k=f
  ·rw[cc a];subst a;exact⟨by simp,λg h=>by simpa using h⟩
  rw[cn a];refine⟨?_,λg h=>?_⟩
  ·rw[fh];exact ee _ c
  rw[fh] at h ⊢;rcases fx.mp h with e |e
  ·exact fx.mpr (.inl e)
  exact ee _ (b g e)
theorem nK (f:el)(v:V):∀ fs:ak (el×V),(gq f v fs).length<=fs.length+1
 |[]=>by simp[gq]
 |(k,x)::r=>by
  have b:=nK f v r;rw[show gq f v ((k,x)::r)=(if k=f then (k,v)::r else (k,x)::gq f v r) from rfl];by_cases a:k=f
  ·rw[cc a,hG,hG];omega
  rw[cn a,hG,hG];omega
theorem Na.some_of {v:V}{o:a5 ax}(r:Na (ag v) o):∃ u,o=ag u/\RelV v u:=by
 cases o with
 |none=>exact(show False from r).elim
 |some u=>exact⟨u,rfl,r⟩
theorem Na.none_of {o:a5 ax}(r:Na a4 o):o=a4:=by
 cases o with
 |none=>rfl
 |some u=>exact(show False from r).elim
theorem Bj {v:V}{u:ax}(r:RelV v u):ac3 u=a6:=by
 cases v with
 |LR=>cases (show u=Tu from r);rfl
 |bl b=>cases (show u=adH b from r);rfl
 |int i=>obtain⟨t,e⟩:=(show ∃ t,u=YW i t from r);cases e;rfl
 |str x=>obtain⟨t,e⟩:=(show ∃ t,u=ac2 x t from r);cases e;rfl
 |Ve b=>obtain⟨t,e⟩:=(show ∃ t,u=Value.bytes b t from r);cases e;rfl
 |Vf b=>obtain⟨t,e⟩:=(show ∃ t,u=Value.float b t from r);cases e;rfl
 |ref a=>cases (show u=jl a from r);rfl
 |ty n=>cases (show u=r4 n from r);rfl
section
variable {P:e8}{w:hL}{H H':Hp}{h h':ja}{a C dx:bc}{fs Z4:ak (el×V)}
theorem t5 (LW:NL P w H h)(e:H a=ag (.ins C dx fs)):∃ b,Ql h a dx C b/\(∀ f,Na (fs.lookup f) (b f))/\acE b (fs.map (·.1))/\fs.length<=1000/\H dx=ag (.own a):=by obtain⟨d,z,ne,c,b,n,r,q⟩:=(show L9 P w H h a (.ins C dx fs) from LW a _ e);exact⟨b,⟨c,n,ne⟩,r,q,z,d⟩
end
structure Qm (K:Ll) (C:bc):Prop where
 pg:Xy K C XI=a6
 hd:ZV K C=a6
 po:acH K C=a6
 sa:pz K (.ref C) "__setattr__"=ag (ag (.builtin "object.__setattr__"))
theorem Qm.get {K:Ll}{C:bc}(c:Qm K C)(f:el):Xy K C f=a6:=c.pg
def Nh (K:Ll)(C:bc)(f:el):Prop:=pz K (.ref C) f=ag a4
theorem Nh.VU {K:Ll}{C:bc}{f:el}(n:Nh K C f):aa8 K C f=ag a4:=by unfold aa8;rw[show pz K (.ref C) f=ag a4 from n];rfl
structure Con (K:Ll) (C:bc) (f:el) (v:V) (u:ax):Prop where
 at_:pz K (.ref C) f=ag (ag u)
 rel:RelV v u
 get:acI K u "__get__"=ag a4
 cp:PySem.W.copiedNames.contains f=a8
structure Meth (K:Ll) (C:bc) (m:el) (f:bc):Prop where
 at_:pz K (.ref C) m=ag (ag (.ref f))
 fn:YH K (.ref f)=a6
 kp:Qo K (.ref f)=a6
section
variable {X:Cx}{pins:Ln}{σ:St}{H:Hp}{s:bo}{a C dx:bc}{fs:ak (el×V)}{f:el}{v:V}{A:iv}{E:Lm}
theorem x9 {b:eM}{Q:Lm}(I:#[10])(e:H a=ag (.ins C dx fs))(c:Qm X.K C)(n:Nh X.K C f)(l:fs.lookup f=ag v)
  (h:∀ u s',Inv X pins σ H s'->RelV v u->Q u s'):dr #[8] A (getAttr (.ref a) f b) Q E s:=by
 obtain⟨i,O,r,_,_,_⟩:=t5 I.LW e;obtain⟨u,g,d⟩:=Na.some_of (v:=v) (o:=i f) (by rw[← l];exact r f);exact get_map I.Pq O (c.get f) c.hd n g (Bj d) (h u _ (I.tok _) d)
theorem pS {m:el}{g:bc}{pl:Sem eM}{Q:ax×ak ax->bo->Prop}(I:#[10])(e:H a=ag (.ins C dx fs))(c:Qm X.K C)(k:Meth X.K C m g)(l:fs.lookup m=a4)
  (h:Q (.ref g,[.ref a]) s):dr #[8] A (abU (.ref a) m pl) Q E s:=by
 obtain⟨b,O,r,_,_,_⟩:=t5 I.LW e;have d:b m=a4:=Na.none_of (by rw[← l];exact r m);exact C5 I.Pq O (c.get m) k.at_ k.fn d h
theorem xm {y:V}{u:ax}{Q:acf->bo->Prop}(I:#[10])(e:H a=ag (.ins C dx fs))(c:Qm X.K C)(n:Nh X.K C f)(B:fs.length<1000)(p:RelV y u)
  (h:∀ s',Inv X pins σ (upd H a (.ins C dx (gq f y fs))) s'->Q () s'):dr #[8] A (setAttr (.ref a) f u) Q E s:=by
 obtain⟨k,O,r,j,_,i⟩:=t5 I.LW e;have m:(fs.map (·.1)).length<=da:=by rw[dv,Uh];omega
 refine Ea I.Pq O c.sa c.po n.VU c.hd j m λl d sb=>h _ ?_;have hd:∃ o,l.get? dx=ag o:=let ⟨o,_,_,v,_⟩:=d.ns;⟨o,v⟩;refine I.write (x:=a) (e:=dx) (by rw[e];exact R9) (.inr i) (λb q hb z=>(sb.2 b hb).trans z) hd ?_;refine⟨by rw[aH O.ne];exact i,?_,O.ne,d.obj,_,d.ns,λg=>?_,λg t=>?_⟩
 ·have:=nK f y fs;omega
 ·show Na ((gq f y fs).lookup g) (if g=f then ag u else k g);rw[nI];by_cases q:g=f
  ·rw[cc q,cc q];exact p
  rw[cn q,cn q];exact r g
 by_cases q:g=f
 ·rw[q];exact(mP f y fs).1
 refine(mP f y fs).2 g (j g λz=>t ?_);show (if g=f then ag u else k g)=a4;rw[cn q];exact z
theorem Inv.made (I:#[10]):Inv X pins σ (upd (upd H s.heap.objs.size (.own (#[15]))) (#[15]) (.ins C s.heap.objs.size []))
  { s with heap:=(s.heap.push xb).push (QN C s.heap.objs.size) }:=by
 have c:(s.heap.push xb).get? s.heap.objs.size=ag xb:=er s.heap rfl;have f:((s.heap.push xb).push (QN C s.heap.objs.size)).get? (#[15])=ag (QN C s.heap.objs.size):=by have:=er (s.heap.push xb) (o:=QN C s.heap.objs.size) rfl;rwa [nC] at this
 have h:(s.heap.push xb).Ns s.heap.objs.size (λ_=>a4):=⟨xb,#[],_,c,rfl,(λe d=>ib d #[3]),λ_=>rfl⟩;have i:=I.laid (a:=s.heap.objs.size) (o:=.own (#[15])) (h':=s.heap.push xb) (t':=s.toks) (λb u q=>a9 _ q) (e9 _) ⟨_,c⟩;refine i.laid (a:=#[15]) (o:=.ins C s.heap.objs.size []) (t':=s.toks) (λb u q=>a9 _ q) (aaM (nC _ _)) ?_;have ne:s.heap.objs.size≠#[15]:=m3 (Vm _);refine⟨by rw[aH ne,LD],RC _,ne,f,λ_=>a4,(Heap.Ns1.of_empty h).at λo q=>a9 _ q,λ_=>R9,λy g=>ib rfl g⟩
theorem Fx {prog:e8}{w:hL}{env:Env}{e:gy}{f:el}{pos:Ud}{s:bo}{Q:Lm}(hb:RK e f env (qa e env)=qa e env)
  (h:dr #[5] A (qa e env) (λo a=>dr #[5] A (getAttr o f a6) Q E a) E s):dr #[5] A (qa (.Attribute e f pos) env) Q E s:=
 Attribute_any_ h (by rw[arm_eval_Attribute,hb])
end
noncomputable def JS (K:Ll)(c:TE)(f:el):TE:=λe H Q=>c e H λx b => ∃ a C d fs v,x = .ref a/\b a=ag (.ins C d fs)/\Qm K C/\Nh K C f/\fs.lookup f=ag v/\Q v b
noncomputable def JV (K:Ll)(e tv:TE)(f:el):TS:=λD b H=>tv b H λy g=>e b g λx c => ∃ a C d fs,x = .ref a/\c a=ag (.ins C d fs)/\Qm K C/\Nh K C f/\fs.length<1000 /\
 D.nx b (upd c a (.ins C d (gq f y fs)))
section
variable {X:Cx}{o e value:gy}{f:el}{pos pos' S9:Ud}{ta tv:TE}
theorem GS (g:PE X e ta)(hb:RK e f X.env (qa e X.env)=qa e X.env):PE X (.Attribute e f pos) (JS X.K ta f):=by intro b s j H Q I h;refine Fx hb (LO (g b s j H _ I h) λu y d=>?_);obtain⟨x,r,m,k,a,C,w,fs,v,ex,i,c,n,l,q⟩:=d;subst ex;obtain rfl:u=jl a:=k;exact x9 m i c n l λt z o p=>⟨v,r,o,p,q⟩
theorem GJ (ha:PE X o ta)(r:PE X value tv)(g:TM value (ag (.Attribute o f pos')) pos.line X.env=wh a8):PS X (.Assign [.Attribute o f pos'] value pos) (JV X.K ta tv f):=by intro b s d H D I h;refine plainObj_wpAny_Assign_Attribute (LO (r b s d H _ I h) λu t ⟨y,A,w,m,q⟩=>LO (ha b t d A _ w q) λi G e=>?_) g;obtain⟨x,F,z,k,a,C,E,fs,ex,j,c,n,l,v⟩:=e;subst ex;obtain rfl:i=jl a:=k;exact xm z j c n l m λB p=>⟨d,_,p,v⟩
theorem FV {pl:Sem eM}{m:el}{d:Ud}{args:ak gy}{b:Ln}{s:bo}{i:St}{H:Hp}{Q:Lm}{o:TE}(y:PE X e o)(I:Inv X b i H s)
  (h:o i H λx n => ∃ a C r fs g,x = .ref a/\n a=ag (.ins C r fs)/\Qm X.K C/\Meth X.K C m g/\fs.lookup m=a4 /\
   ∀ j,Inv X b i n j->dr #[8] X.A (adK pos (.ref g) [.ref a] (rb pos (ek args X.env)) (WS pos (S7 [] X.env))) Q X.xe j)
  (D:qa (.Call (.Attribute e m d) args [] pos) X.env=(do
   let p ← qa e X.env
   abS d.atName
   let (f,first) ← Vk [p] (abU p m pl)
   adK pos f first (rb pos (ek args X.env)) (WS pos (S7 [] X.env)))) :
  dr #[8] X.A (qa (.Call (.Attribute e m d) args [] pos) X.env) Q X.xe s:=by
 refine abi (pl:=pl) (LO (y b s i H _ I h) λu j v=>?_) D;obtain⟨x,n,t,B,a,C,r,fs,g,ex,z,c,k,l,q⟩:=v;subst ex;obtain rfl:u=jl a:=B;exact pS t z c k l (q j t)
end
section
variable {X:Cx}{pins:Ln}{σ:St}{H:Hp}{s:bo}{A:iv}{E:Lm}{Q:Lm}{c:ax}{b:eM}
inductive OF (K:Ll) (H:Hp):V->ax->Prop where
 |LR:OF K H .LR (.type "NoneType")
 |bl (x:eM):OF K H (.bl x) (.type "bool")
 |int (i:Int):OF K H (.int i) (.type "int")
 |str (x:el):OF K H (.str x) (.type "str")
 |Vf (x:UInt64):OF K H (.Vf x) (.type "float")
 |lst {a:bc}{xs:ak V}(e:H a=ag (.lst xs)):OF K H (.ref a) (.type "list")
 |QB {a:bc}{o:Obj}{xs:ak V}(e:H a=ag (.QB o (.lst xs))):OF K H (.ref a) (.type "list")
 |tup {a:bc}{xs:ak V}(e:H a=ag (.tup xs)):OF K H (.ref a) (.type "tuple")
 |dK {a:bc}{kvs:ak (Key×V)}(e:H a=ag (.dK kvs)):OF K H (.ref a) (.type "dict")
 |dT {a:bc}{kvs:ak (ak Key×V)}(e:H a=ag (.dT kvs)):OF K H (.ref a) (.type "dict")
 |ins {a C dx:bc}{fs:ak (el×V)}(e:H a=ag (.ins C dx fs)) (cl:Qm K C) (ha:pz K (.ref C) "__class__"=ag (ag (.builtin "object.__class__")))
   (hn:acI K (.builtin "object.__class__") "__get__"=ag (ag (.builtin "getset_descriptor.__get__"))) (htk:PySem.W.takesIn K (.builtin "object.__class__")=ag a6)
   (hm:PySem.W.mroIn K C (.type "object")=ag a6):OF K H (.ref a) (.ref C)
end
structure L1 (k:Nat) (A:iv):Prop where
 hd:A.handled=a4
 dp:A.depth+3*k+5<recursionLimit
 un:A.units+16*k+200<nq
 gd:A.guards=ag []
theorem L1.mono {j k:Nat}{A:iv}(r:L1 k A)(h:j<=k):L1 j A:=⟨r.hd,by have:=r.dp;omega,by have:=r.un;omega,r.gd⟩
theorem L1.deeper {k:Nat}{A:iv}(r:L1 (k+1) A)(env:Env):L1 k (A.deeper env):=
 ⟨r.hd,by have:=r.dp;show A.depth+1+3*k+5 < _;omega,by have:=r.un;show A.units+3+16*k+200 < _;omega,r.gd⟩
theorem xK {A:iv}{C:bc}{us:ak ax}{kw:ak (el×ax)}:(A.under (.builtin "type.__call__" ⟨.ref C::us,kw⟩)).depth=A.depth+1:=by
 first |rfl |simp[aaN,Code.weight,Code.isCreation,Code.isGuard,Code.isCaller,Code.frames,acJ,guardIds]
theorem xJ {A:iv}{C:bc}{us:ak ax}{kw:ak (el×ax)}:(A.under (.builtin "type.__call__" ⟨.ref C::us,kw⟩)).units=A.units+1:=by
 first |rfl |simp[aaN,Code.cUnits,Code.frames,acJ]
theorem vH {A:iv}{C:bc}{us:ak ax}{kw:ak (el×ax)}:(A.under (.builtin "type.__call__" ⟨.ref C::us,kw⟩)).guards=A.guards:=by
 first |rfl |simp[aaN,Code.guards,Code.isGuard,guardIds,pushGuards]
theorem L1.make {k:Nat}{A:iv}(r:L1 (k+1) A)(C:bc)(us:ak ax)(kw:ak (el×ax)):L1 k (A.under (.builtin "type.__call__" ⟨.ref C::us,kw⟩)):=
 ⟨r.hd,by have:=r.dp;rw[xK];omega,by have:=r.un;rw[xJ];omega,by rw[vH];exact r.gd⟩
theorem L1.depth {k:Nat}{A:iv}(r:L1 k A):A.depth<recursionLimit:=by have:=r.dp;omega
theorem L1.units {k:Nat}{A:iv}(r:L1 k A):A.units+64<nq:=by have:=r.un;omega
noncomputable def uP:TA:=λ_ H Q=>Q [] H
noncomputable def FG (c:TE)(e:TA):TA:=λa H Q=>c a H λx d=>e a d λf b=>Q (x::f) b
section
variable {X:Cx}{e:gy}{es:ak gy}{te:TE}{t:TA}{pos:Ud}
theorem MD:PA X [] uP:=λ_ _ _ _ H Q I h=>Calls.spliced_nil ⟨[],H,I,.nil,h⟩
theorem di (ha:PE X e te)(hr:PA X es t)(f:ek (e::es) X.env=(a8,qa e X.env)::ek es X.env:=by rfl):PA X (e::es) (FG te t):=by intro pos a s b H Q I h;rw[f];show dr _ _ (spliced ((a8,qa e X.env)::rb pos (ek es X.env))) _ _ s;refine Calls.spliced_cons (LO (ha a s b H _ I h) λu j c=>?_);obtain⟨x,p,n,g,d⟩:=c;exact LO (hr pos a j b p _ n d) λq r ⟨m,o,l,i,k⟩=>⟨x::m,o,l,.cons g i,k⟩
noncomputable def JL (t:TA):TE:=λc H Q=>t c H λb a=>b.length<=da/\∀ p,a p=a4->Q (.ref p) (upd a p (.tup b))
noncomputable def JP (t:TA):TE:=λc H Q=>t c H λb a=>b.length<=da/\∀ p,a p=a4->Q (.ref p) (upd a p (.lst b))
theorem GP {x1}(h:PA X es t):PE X (.Tuple es x1 pos) (JL t):=by intro a s g H Q I k;refine wpAny_Tuple_spliced (LO (h pos a s g H _ I k) λj c ⟨i,f,d,r,z,q⟩=>⟨by rw[← r.length];exact z,?_⟩);have l:f c.heap.objs.size=a4:=d.LW.fresh (e9 _);refine⟨.ref c.heap.objs.size,upd f c.heap.objs.size (.tup i),d.laid (t':=c.toks) (λb u e=>a9 _ e) (e9 _) ?_,rfl,q _ l⟩;exact⟨z,j,r,O5.new _ _⟩
theorem Cn (h:PA X es t):PE X (.List es pos) (JP t):=by intro a s g H Q I k;refine wpAny_List_spliced (LO (h pos a s g H _ I k) λj c ⟨i,f,d,r,z,q⟩=>⟨by rw[← r.length];exact z,?_⟩);have l:f c.heap.objs.size=a4:=d.LW.fresh (e9 _);refine⟨.ref c.heap.objs.size,upd f c.heap.objs.size (.lst i),d.laid (t':=c.toks) (λb u e=>a9 _ e) (e9 _) ?_,rfl,q _ l⟩;exact⟨z,j,0,r,er _ rfl⟩
end
abbrev Sp:=ak V->Hp->VK->XK->Prop
abbrev Rw:=ak Env->Hp->bo->XK->Lm
structure Qn (P:e8) (w:hL) (K:Ll) (mg:Lo) (base:ja) (A:iv) (outer:ak Env) (s:bo) (H:Hp):Prop where
 frames:A.frames=ag outer
 mod:Mod K mg base
 bs:∀ b o,base.get? b=ag o->s.heap.get? b=ag o/\H b=a4
 SQ:base.objs.size<=s.heap.objs.size
 Oo:s.heap.FunFrames base outer
 Ur:∀ b∈QU outer,H b=a4
 LW:NL P w H s.heap
 bare:ZP s.gens
def CE (outer:ak Env)(P:e8)(w:hL)(H:Hp)(s:bo)(Q:VK)(u:ax)(s':bo):Prop:=
 ∃ v a,s'.os=s.os/\ZP s'.gens/\Un (QU outer) [] H a s.heap s'.heap/\NL P w a s'.heap/\RelV v u/\Q v a
def CR (CX:Rw)(outer:ak Env)(P:e8)(w:hL)(H:Hp)(s:bo)(Q:VK)(E:XK)(r:ac4)(s':bo):Prop:=
 match r with
 | .ok (.ret u)=>CE outer P w H s Q u s'
 | .ok _=>False
 | .error e=>CX outer H s E e s'
structure Ny (P:e8) (w:hL) (K:Ll) (mg:Lo) (base:ja) (CX:Rw) (k:Nat) (f:bc) (fd:K1) (ps:ak el) (sp:Sp):Prop where
 len:∀ vs H Q E,sp vs H Q E->vs.length=ps.length
 run:∀ (A:iv) (outer:ak Env) (s:bo) (H:Hp) (args:Args) (us:ak ax) (vs:ak V) (Q:VK) (E:XK),L1 k A->Qn P w K mg base A outer s H->abV s fd args (ps.zip us)->Vals vs us->sp vs H Q E ->
  XW (eG P w) A (.call (.ref f) args) (CR CX outer P w H s Q E) s
theorem Ny.imp {P:e8}{w:hL}{K:Ll}{mg:Lo}{base:ja}{CX:Rw}{k:Nat}{f:bc}{fd:K1}{b:ak el}{sp a:Sp}(F:Ny P w K mg base CX k f fd b sp)
  (h:∀ vs H Q E,a vs H Q E->sp vs H Q E):Ny P w K mg base CX k f fd b a:=
 ⟨λvs H Q E q=>F.len vs H Q E (h _ _ _ _ q),λA outer s H args g vs Q E hr c hb e d=>F.run A outer s H args g vs Q E hr c hb e (h _ _ _ _ d)⟩
theorem Qn.make {P:e8}{w:hL}{K:Ll}{mg:Lo}{base:ja}{A:iv}{outer:ak Env}{s:bo}{H:Hp}(e:Qn P w K mg base A outer s H)(C:bc)(us:ak ax)(kw:ak (el×ax)) :
  Qn P w K mg base (A.under (.builtin "type.__call__" ⟨.ref C::us,kw⟩)) outer s H:=⟨by first |exact e.frames |(simpa [aaN,Code.envs,acJ,pushEnvs] using e.frames),e.mod,e.bs,e.SQ,e.Oo,e.Ur,e.LW,e.bare⟩
section
variable {X:Cx}{pins:Ln}{σ:St}{H:Hp}{s s':bo}
theorem Inv.VV (I:#[10]):Qn X.prog X.w X.K X.mg X.base X.A X.stack s H:=
 ⟨I.ok.frames,I.ok.mod,I.bs,fg I.ok.SQ I.sz,I.stack,I.QC,I.LW,I.bare⟩
theorem Inv.after {Q:VK}{u:ax}(I:#[10])(h:CE X.stack X.prog X.w H s Q u s'):EP X pins σ Q u s':=by obtain⟨v,c,os,bare,un,LW,r,q⟩:=h;obtain⟨a,g,d,t,e⟩:=s';obtain rfl:e=s.os:=os;exact⟨v,c,I.call (h':=a) (g':=g) (d':=d) (t':=t) (ch:=[]) un LW bare (λb z=>ib z #[3]),r,q⟩
end
noncomputable def FH (sp:Sp)(a:ak V)(E:XK)(t:TA):TE:=λd H Q=>t d H λb c=>sp (b++a) c Q E
noncomputable def Ih (C:bc)(m:el)(sp:Sp)(d:ak V)(E:XK)(f:TE)(t:TA):TE:=λc H Q=>f c H λx b => ∃ a h fs,x = .ref a/\b a=ag (.ins C h fs)/\fs.lookup m=a4 /\
 t c b λg e=>sp (x::(g++d)) e Q E
noncomputable def Ii (C:bc)(sp:Sp)(c:ak V)(E:XK)(t:TA):TE:=λf H Q=>t f H λe b => ∀ x a,b x=a4->b a=a4->a≠x ->
 sp (.ref x::(e++c)) (upd (upd b a (.own x)) x (.ins C a [])) (λv d=>v = .LR/\Q (.ref x) d) E
def Binds (K:Ll)(fd:K1)(b:ak el)(ds:ak ax):Prop:=
 ∀ (s:bo) (a:ak ax),K.In s.heap->(a++ds).length=b.length->abV s fd ⟨a,[]⟩ (b.zip (a++ds))
theorem Binds.all {K:Ll}{fd:K1}{a:ak el}(h:∀ us:ak ax,us.length=a.length->UY fd ⟨us,[]⟩=wh (a.zip us)):Binds K fd a []:=λs us _ b=>by rw[ia] at b ⊢;exact .of_eq (h us b)
def Passes (CX:Rw)(X:Cx)(E:XK):Prop:=∀ (a:Ln) (c:St) (H:Hp) (s:bo) (e:ax) (b:bo),Inv X a c H s->CX X.stack H s E e b->X.xe e b
section
variable {X:Cx}{CX:Rw}{k:Nat}{f C:bc}{fd:K1}{ps:ak el}{sp:Sp}{Pu:ak V}{ds:ak ax}{E:XK}{x m:el}{p pos apos:Ud}{e o:gy}{es:ak gy}{ta:TE}{t:TA}
theorem B6 {a:Ln}{c:St}{H:Hp}{s:bo}{Q:VK}{us:ak ax}{vs:ak V}(F:Ny X.prog X.w X.K X.mg X.base CX k f fd ps sp)(hr:L1 k X.A)(hb:Binds X.K fd ps ds)(hd:Vals Pu ds)(g:Passes CX X E)
  (I:Inv X a c H s) (r:Vals vs us) (h:sp (vs++Pu) H Q E):dr #[8] X.A (call (.ref f) us) (EP X a c Q) X.xe s:=by
 have d:Vals (vs++Pu) (us++ds):=r.append hd;have j:(us++ds).length=ps.length:=by rw[← d.length];exact F.len _ _ _ _ h
 refine wpAny_call (aaO (F.run X.A X.stack s H ⟨us,[]⟩ (us++ds) (vs++Pu) Q E hr I.VV (hb s us I.Pq j) d h) λr i b=>?_);cases r with
 |error e=>exact g a c H s e i I b
 |ok l =>
  cases l with
  |ret u=>exact I.after b
  |next=>exact Q1 b
  |brk=>exact Q1 b
  |cont=>exact Q1 b
theorem EE (F:Ny X.prog X.w X.K X.mg X.base CX k f fd ps sp)(hr:L1 k X.A)(n:Gl X x)(l:X.mg x=ag (.ref f))(d:Qo X.K (.ref f)=a6)(hb:Binds X.K fd ps ds)(hd:Vals Pu ds)(c:Passes CX X E)
  (ha:PA X (e::es) t) (i:(x==("__debug__":el))=a8:=by decide) (g:ek (e::es) X.env=(a8,qa e X.env)::ek es X.env:=by rfl) (m:(rb pos (ek es X.env)).any (·.1)=a8:=by rfl) :
  PE X (.Call (.Name x p) (e::es) [] pos) (FH sp Pu E t):=by
 intro a s j H Q I h;refine Pd (zr I n l ?_ i);refine Y_ (h₀:=X.base) I.ok.mod.VL d (LO (ha pos a s j H _ I h) λv u ⟨o,y,b,r,q⟩=>⟨b.Pq,?_⟩) g m;exact B6 F hr hb hd c b r q
theorem EA {pl:Sem eM}(z:PE X o ta)(c:Qm X.K C)(i:Meth X.K C m f)(F:Ny X.prog X.w X.K X.mg X.base CX k f fd ps sp)(hr:L1 k X.A)(hb:Binds X.K fd ps ds)(hd:Vals Pu ds)(p:Passes CX X E)(ha:PA X (e::es) t)
  (y:ek (e::es) X.env=(a8,qa e X.env)::ek es X.env:=by rfl) (G:(rb pos (ek es X.env)).any (·.1)=a8:=by rfl)
  (N:qa (.Call (.Attribute o m apos) (e::es) [] pos) X.env=(do
   let d ← qa o X.env
   abS apos.atName
   let (f,first) ← Vk [d] (abU d m pl)
   adK pos f first (rb pos (ek (e::es) X.env)) (WS pos (S7 [] X.env))):=by rfl) :
  PE X (.Call (.Attribute o m apos) (e::es) [] pos) (Ih C m sp Pu E ta t):=by
 intro b s g H Q I h;refine abi (pl:=pl) (LO (z b s g H _ I h) λu J v=>?_) N;obtain⟨x,M,n,D,a,O,fs,ex,B,l,q⟩:=v;subst ex;obtain rfl:u=jl a:=D;refine pS n B c i l ?_;refine Y_ (first:=[.ref a]) (h₀:=X.base) I.ok.mod.VL i.kp (LO (ha pos b J g M _ n q) λus R ⟨vs,P,j,r,L⟩=>⟨j.Pq,?_⟩) y G;exact B6 (us:=.ref a::us) (vs:=.ref a::vs) F hr hb hd p j (.cons rfl r) L
structure Mk (K:Ll) (C f:bc):Prop where
 makes:aa9 K C=a6
 init:pz K (.ref C) "__init__"=ag (ag (.ref f))
 fn:YH K (.ref f)=a6
 kp:Qo K (.ref C)=a6
theorem B5 {a:Ln}{g:St}{H:Hp}{s:bo}{Q:VK}{us:ak ax}{vs:ak V}(M:Mk X.K C f)(F:Ny X.prog X.w X.K X.mg X.base CX k f fd ps sp)(hr:L1 (k+1) X.A)(hb:Binds X.K fd ps ds)(hd:Vals Pu ds)
  (l:Passes CX X E) (I:Inv X a g H s) (r:Vals vs us)
  (h:∀ x c,H x=a4->H c=a4->c≠x->sp (.ref x::(vs++Pu)) (upd (upd H c (.own x)) x (.ins C c [])) (λv z=>v = .LR/\Q (.ref x) z) E) :
  dr #[8] X.A (call (.ref C) us) (EP X a g Q) X.xe s:=by
 have j:=h (#[15]) s.heap.objs.size (I.LW.fresh (abW _)) (I.LW.fresh (e9 _)) (m3 (Vm _));have d:=Inv.made (C:=C) I;have i:Vals (V.ref (#[15])::(vs++Pu)) (jl (#[15])::(us++ds)):=.cons rfl (r.append hd);have n:(jl (#[15])::us++ds).length=ps.length:=by have e:=i.length;rw[F.len _ _ _ _ j] at e;exact e.symm
 refine wpAny_call (CO (f:=f) I.Pq M.makes M.init (XD.mp M.fn) (aaO (F.run _ X.stack _ _ ⟨jl (#[15])::us,[]⟩ (jl (#[15])::(us++ds)) _ _ E (hr.make C us [])
  (d.VV.make C us []) (hb _ (jl (#[15])::us) d.Pq n) i j) λr m b=>?_))
 cases r with
 |error e=>exact l a g _ _ e m d b
 |ok q =>
  cases q with
  |ret u =>
   obtain⟨v,y,t,o,ev,p⟩:=d.after b;subst ev;exact⟨o,⟨V.ref (#[15]),y,t,rfl,p⟩⟩
  |next=>exact Q1 b
  |brk=>exact Q1 b
  |cont=>exact Q1 b
theorem EB (M:Mk X.K C f)(F:Ny X.prog X.w X.K X.mg X.base CX k f fd ps sp)(hr:L1 (k+1) X.A)(m:Gl X x)(j:X.mg x=ag (.ref C))(hb:Binds X.K fd ps ds)(hd:Vals Pu ds)(c:Passes CX X E)
  (ha:PA X (e::es) t) (g:(x==("__debug__":el))=a8:=by decide) (d:ek (e::es) X.env=(a8,qa e X.env)::ek es X.env:=by rfl) (l:(rb pos (ek es X.env)).any (·.1)=a8:=by rfl) :
  PE X (.Call (.Name x p) (e::es) [] pos) (Ii C sp Pu E t):=by
 intro a s i H Q I h;refine Pd (zr I m j ?_ g);refine Y_ (h₀:=X.base) I.ok.mod.VL M.kp (LO (ha pos a s i H _ I h) λu o ⟨n,v,b,r,q⟩=>⟨b.Pq,?_⟩) d l;exact B5 M F hr hb hd c b r q
end
section
variable {X:Cx}{CX:Rw}{k:Nat}{f C:bc}{fd:K1}{ps ks:ak el}{sp:Sp}{E:XK}{x m:el}{p pos apos kpos:Ud}{e o:gy}{es:ak gy}{kws:ak Wu}{te ta:TE}{t tk:TA}{nm:a5 el}
structure Yl (K:Ll) (fd:K1) (ps ks:ak el) (g:ak ax->ak ax->ak ax) (gV:ak V->ak V->ak V):Prop where
 to:∀ (s:bo) (us ws:ak ax),K.In s.heap->(g us ws).length=ps.length->abV s fd ⟨us,ks.zip ws⟩ (ps.zip (g us ws))
 rel:∀ {vs:ak V}{us:ak ax}{zs:ak V}{ws:ak ax},Vals vs us->Vals zs ws->Vals (gV vs zs) (g us ws)
variable {g:ak ax->ak ax->ak ax}{gV:ak V->ak V->ak V}
end
structure Lw (N P:ak el) (sc:ku):Prop where
 kind:sc.kind = .function
 co:sc.isCoroutine=a8
 gen:sc.isGenerator=a8
 nd:N.Nodup
 pre:N.take P.length=P
 par:∀ x∈P,sc.names.lookup x=ag .local∨sc.names.lookup x=ag .cell
 UA:∀ y∈sc.names,y.2≠.free
theorem sK {kindOf:el->a5 Rg}{x:el}:∀ {binds:ak (el×ax)}{m:Lo},(∀ v,(x,v)∉binds)->adL kindOf binds m x=m x
 |[],_,_=>rfl
 |(n,v)::r,m,h=>by
  unfold adL;rw[sK λw a=>h w (ee _ a)];split
  ·have:x≠n:=by rintro rfl;exact h v eR
   simp[this]
  rfl
theorem sM {kindOf:el->a5 Rg}{x:el}:∀ {binds:ak (el×ax)}{m:Lo},(∀ v,(x,v)∉binds)->adM kindOf binds m x=m x
 |[],_,_=>rfl
 |(n,v)::r,m,h=>by
  unfold adM;rw[sM λw a=>h w (ee _ a)];split
  ·rfl
  have:x≠n:=by rintro rfl;exact h v eR
  simp[this]
theorem sL {kindOf:el->a5 Rg}{x:el}{v:ax}:∀ {P:ak el}{vs:ak ax}{i:Nat}{m:Lo},P.Nodup->P[i]?=ag x->vs[i]?=ag v->kindOf x=ag .local ->
  adL kindOf (P.zip vs) m x=ag v
 |[],_,_,_,_,h,_,_=>by simp at h
 |_::_,[],_,_,_,_,h,_=>by simp at h
 |p::P,w::vs,0,m,nd,h1,h2,hk=>by
  simp at h1 h2;subst h1;subst h2;show adL kindOf ((p,w)::P.zip vs) m p=_;unfold adL;rw[sK λv a=>(Up.mp nd).1 (adN a).1,cc hk];simp
 |p::P,w::vs,i+1,m,nd,h1,h2,hk=>by
  show adL kindOf ((p,w)::P.zip vs) m x=_;unfold adL;exact sL (i:=i) (Up.mp nd).2 (by simpa using h1) (by simpa using h2) hk
theorem sN {kindOf:el->a5 Rg}{x:el}{v:ax}:∀ {P:ak el}{vs:ak ax}{i:Nat}{m:Lo},P.Nodup->P[i]?=ag x->vs[i]?=ag v->kindOf x≠ag .local ->
  adM kindOf (P.zip vs) m x=ag v
 |[],_,_,_,_,h,_,_=>by simp at h
 |_::_,[],_,_,_,_,h,_=>by simp at h
 |p::P,w::vs,0,m,nd,h1,h2,hk=>by
  simp at h1 h2;subst h1;subst h2;show adM kindOf ((p,w)::P.zip vs) m p=_;unfold adM;rw[sM λv a=>(Up.mp nd).1 (adN a).1,cn hk];simp
 |p::P,w::vs,i+1,m,nd,h1,h2,hk=>by
  show adM kindOf ((p,w)::P.zip vs) m x=_;unfold adM;exact sN (i:=i) (Up.mp nd).2 (by simpa using h1) (by simpa using h2) hk
noncomputable def start (N:ak el)(vs:ak V):St:=vs.map ag++eh (N.length-vs.length) a4
noncomputable def p9 (CX:Rw)(P:e8)(w:hL)(K:Ll)(mg:Lo)(base:ja)(N:ak el)(qual:el)(scope:ku)(f:bc)(cd:ax)(A:iv)(outer:ak Env)(s:bo)(H:Hp)(E:XK):Cx where
 prog:=P
 w:=w
 K:=K
 mg:=mg
 base:=base
 A:=A.deeper (XN qual scope s.heap.objs.size f cd)
 N:=N
 s₀:=s
 H₀:=H
 env:=XN qual scope s.heap.objs.size f cd
 outer:=outer
 stack:=XN qual scope s.heap.objs.size f cd::outer
 ex:=[]
 calm:=a6
 fn:=λ_=>a6
 pn:=[]
 xe:=λe b=>dr (eG P w) (A.deeper (XN qual scope s.heap.objs.size f cd)) (leaving (XN qual scope s.heap.objs.size f cd) e) (λ_ a=>CX outer H s E e a) (λc a=>CX outer H s E c a) b
theorem wa {sc:ku}{n:Nat}{x:el}(h:sc.names.lookup x=ag .cell):∃ c,(ze n sc.names []).lookup x=ag c:=by have q:=aaP sc.names n [] (.inl h);exact Option.isSome_iff_exists.mp q
theorem Be {CX:Rw}{P:e8}{w:hL}{K:Ll}{mg:Lo}{base:ja}{N j:ak el}{qual:el}{scope:ku}{f:bc}{cd:ax}{A:iv}{outer:ak Env}{s F:bo}{H:Hp}{E:XK}{us:ak ax}{vs:ak V}
  (S:Lw N j scope) (hd:A.handled=a4) (g:Qn P w K mg base A outer s H) (L:vs.length=j.length) (r:Vals vs us)
  (x:InCallC s s.heap.objs.size (adL (XN qual scope s.heap.objs.size f cd).kindOf (j.zip us) λ_=>a4) (ze (#[15]) scope.names []) (adM (XN qual scope s.heap.objs.size f cd).kindOf (j.zip us) λ_=>a4) F) :
  Inv (p9 CX P w K mg base N qual scope f cd A outer s H E) [] (start N vs) H F:=by
 have M:j.length<=N.length:=by have:=q7 WH S.pre;rw[Qr] at this;omega
 obtain⟨o,tk,rfl,C⟩:=x.done;have B:∀ b:bc,b∉(p9 CX P w K mg base N qual scope f cd A outer s H E).ex:=λb z=>ib (show b∈([]:ak bc) from z) #[3]
 refine⟨⟨g.mod,S.kind,rfl,rfl,e9 _,λy z c o d=>?_,λy hy=>?_,λy c _ h=>?_,λ_=>hd,Around.frames_deeper g.frames,.inr ⟨rfl,rfl⟩,λb z=>ib z (B b),g.bs,g.SQ,λb _ _=>B b,λb z=>ib z (B b),g.Oo,g.Ur⟩,
  rfl,g.bare,Un.kept C,⟨_,x.toInCall.ns,λi y v o d J=>?_⟩,λy c h=>⟨_,x.cell y c h⟩,g.LW.fresh (e9 _),λy c h=>?_,λp m=>ib (show p∈([]:Ln) from m) #[3],g.LW.kept C,?_⟩
 ·exact name_of_addr x.apart (TB o) (TB d)
 ·have hy:scope.names.lookup y=ag .cell∨scope.names.lookup y=ag .free:=hy;rcases hy with hy |hy
  ·exact wa hy
  exact ib rfl (S.UA _ (TB hy))
 ·exact J8 (x.above y c (TB h))
 ·have t:i<vs.length:=by
   unfold start at d;by_cases t:i<vs.length
   ·exact t
   rw[h6 (by simpa using t)] at d;rw[QH] at d;split at d<;>cases d
  have I:vs[i]?=ag v:=by
   unfold start at d;rw[h7 (by simpa using t),dk] at d;cases e:vs[i]? with
   |none=>rw[e] at d;cases d
   |some a=>rw[e] at d;cases d;rfl
  obtain⟨u,D,G⟩:=r.get I;have m:j[i]?=ag y:=by rw[← S.pre,aab #[0]];exact o
  have l:j.Nodup:=by rw[← S.pre];exact S.nd.sublist (ZW _ _)
  refine⟨u,G,?_⟩;rcases S.par y (ra m) with k |k
  ·exact .inl ⟨k,sL l m D k⟩
  obtain⟨c,e⟩:=wa (n:=#[15]) k;refine .inr ⟨.inl k,c,e,?_⟩;have q:=x.cell y c e;rw[sN l m D (by show scope.names.lookup y≠_;rw[k];decide)] at q;exact q
 ·exact g.LW.fresh (J8 (x.above y c (TB h)))
 unfold start;show _=N.length;rw[cv,dv,Pf];omega
theorem Jc {CX:Rw}{P:e8}{w:hL}{K:Ll}{mg:Lo}{base:ja}{k:Nat}{f:bc}{name qual:el}{params:XO}{body:ak qb}{scope:ku}{B kV doc z c ct oc:ax}{C T:a5 bc}
  {Y:hO (a5 ax)}{N h:ak el}{sp:Sp}(O:K.lookup f=ag ⟨oc,T,.func (K2 name qual params body scope B kV doc z C c ct),Y⟩) (F:Ze K c qual=a6) (S:Lw N h scope)
  (len:∀ vs H Q E,sp vs H Q E->vs.length=h.length)
  (U:∀ (A:iv) (outer:ak Env) (s:bo) (H:Hp) (vs:ak V) (Q:VK) (E:XK),L1 k (A.deeper (XN qual scope s.heap.objs.size f c))->sp vs H Q E ->
   ∃ t,Qj (p9 CX P w K mg base N qual scope f c A outer s H E) body t/\t { nx:=λ_ H'=>Q .LR H',rt:=Q } (start N vs) H) :
  Ny P w K mg base CX (k+1) f (K2 name qual params body scope B kV doc z C c ct) h sp:=by
 refine⟨len,λA outer s H args Z vs Q E hr g hb r p=>?_⟩;have G:=len _ _ _ _ p;have KX:K.In s.heap:=g.mod.VL.keeps λb o e=>(g.bs b o e).1;have i:s.heap.NoLimit:=g.mod.nolimit.keeps λb o e=>(g.bs b o e).1
 have R:∀ y∈h.zip Z,scope.names.lookup y.1=ag .local∨(scope.names.lookup y.1=ag .cell/\((ze (#[15]) scope.names []).lookup y.1).isSome=a6):=λX L=>by
  obtain⟨n,v⟩:=X
  rcases S.par n (adN L).1 with q |q
  ·exact .inl q
  exact .inr ⟨q,aaP _ _ _ (.inl q)⟩
 refine codeAny_call_function hr.depth (KX _ _ O) rfl S.co S.gen rfl (PySem.W.codeRec_of KX F) (hb _ _ _ _ ?_);refine wpAny_newFunctionEnv_cells S.kind R λenv D m x=>?_;subst D;refine⟨i.keeps x.toInCall.keep,codeAny_func ?_⟩;obtain⟨t,ht,M⟩:=U A outer s H vs Q E (hr.deeper _) p;have I:Inv (p9 CX P w K mg base N qual scope f c A outer s H E) [] (start N vs) H m:=Be S hr.hd g G r x;refine ro (ht [] m (start N vs) H _ I M) (λfl l d=>?_) λe l d=>d
 have fin:∀ {a:St}{H':Hp}{v:V}{u:ax},Inv (p9 CX P w K mg base N qual scope f c A outer s H E) [] a H' l->RelV v u->Q v H'->CE outer P w H s Q u l:=
  λ{a H' v u} J j q=>⟨v,H',J.os,J.bare,J.base,J.LW,j,q⟩
 cases fl with
 |ret u =>
  obtain⟨v,a,H',J,j,q⟩:=d;exact fin J j q
 |next =>
  obtain⟨a,H',J,q⟩:=d;exact fin (v:=V.LR) (u:=Tu) J rfl q
 |brk =>
  obtain⟨_,_,_,q⟩:=d;exact Q1 q
 |cont =>
  obtain⟨_,_,_,q⟩:=d;exact Q1 q
section
variable {X:Cx}{x:el}{p pos:Ud}{e:gy}{es:ak gy}{t:TA}{id T:Uk}{r:ak V->Hp->VK->Prop}
noncomputable def Ym (r:ak V->Hp->VK->Prop)(t:TA):TE:=λc H Q=>t c H λa b=>r a b Q
theorem i_ (hc:iM X (.builtin id) r)(u:Gl X x)(i:X.mg x=a4)(j:n0 x=ag (.builtin id))(ha:PA X (e::es) t)(q:x≠"__name__":=by decide)(g:(x==("__debug__":el))=a8:=by decide)
  (d:ek (e::es) X.env=(a8,qa e X.env)::ek es X.env:=by rfl) (k:(rb pos (ek es X.env)).any (·.1)=a8:=by rfl):PE X (.Call (.Name x p) (e::es) [] pos) (Ym r t):=by
 intro a s b H Q I h;refine Pd (jg I u i j ?_ q g);exact PyProof.Rows.callWith_builtin1 (LO (ha pos a s b H _ I h) λo m ⟨f,v,n,l,c⟩=>hc a m b v f o Q n l c) d k
theorem mK (hc:iM X (.type T) r)(u:Gl X x)(i:X.mg x=a4)(j:n0 x=ag (.type T))(ha:PA X (e::es) t)(q:x≠"__name__":=by decide)(g:(x==("__debug__":el))=a8:=by decide)
  (d:ek (e::es) X.env=(a8,qa e X.env)::ek es X.env:=by rfl) (k:(rb pos (ek es X.env)).any (·.1)=a8:=by rfl):PE X (.Call (.Name x p) (e::es) [] pos) (Ym r t):=by
 intro a s b H Q I h;refine Pd (jg I u i j ?_ q g);exact UN (LO (ha pos a s b H _ I h) λo m ⟨f,v,n,l,c⟩=>hc a m b v f o Q n l c) d k
end
section
variable {κ:Type} [wt κ]
noncomputable def kY (kvs:ak (κ×V))(k : κ):a5 V:=(kvs.find? λa=>ei (a.1=k)).map (·.2)
noncomputable def putK (kvs:ak (κ×V))(k : κ)(v:V):ak (κ×V):=
 if (kvs.any λa=>ei (a.1=k))=a6 then kvs.map (λa=>if a.1=k then (a.1,v) else a) else kvs++[(k,v)]
theorem oJ {p : κ×V}{r:ak (κ×V)}{k : κ}(e:p.1=k):kY (p::r) k=ag p.2:=by simp[kY,rp,e]
theorem oK {p : κ×V}{r:ak (κ×V)}{k : κ}(e:¬ p.1=k):kY (p::r) k=kY r k:=by simp[kY,rp,e]
theorem uL (k : κ):∀ kvs:ak (κ×V),(kvs.any λa=>ei (a.1=k))=(kY kvs k).isSome
 |[]=>rfl
 |p::r=>by
  rw[R_];by_cases e:p.1=k
  ·simp only[oJ e,gx e,Bool.true_or,aci]
  rw[oK e,dV e,aeg];exact uL k r
theorem nJ (kvs:ak (κ×V))(k : κ)(v:V):(putK kvs k v).length<=kvs.length+1:=by
 unfold putK;split
 ·rw[dv];omega
 rw[cv,hG,acj];omega
theorem Na.MB {o:a5 V}{u:a5 ax}(r:Na o u):o.isSome=u.isSome:=by
 cases o with
 |none=>cases u with
  |none=>rfl
  |some _=>exact(show False from r).elim
 |some _=>cases u with
  |none=>exact(show False from r).elim
  |some _=>rfl
theorem KV.val {kvs:ak (κ×V)}{vs:ak (κ×ax)}(r:KV kvs vs)(k : κ):Na (kY kvs k) (abX vs k):=by
 unfold KV at r
 induction r with
 |nil=>exact R9
 | @cons p q i a h t f =>
  obtain⟨d,g⟩:=h;by_cases e:p.1=k
  ·have c:q.1=k:=d.symm.trans e;have b:abX (q::a) k=ag q.2:=by simp[abX,rp,c]
   rw[oJ e,b];exact g
  have c:¬ q.1=k:=λz=>e (d.trans z);have b:abX (q::a) k=abX a k:=by simp[abX,rp,c]
  rw[oK e,b];exact f
theorem KV.any {kvs:ak (κ×V)}{vs:ak (κ×ax)}(r:KV kvs vs)(k : κ):(kvs.any λa=>ei (a.1=k))=vs.any λa=>ei (a.1=k):=by
 unfold KV at r
 induction r with
 |nil=>rfl
 |cons h t b=>rw[R_,R_,b,h.1]
theorem KV.UB {kvs:ak (κ×V)}{vs:ak (κ×ax)}(r:KV kvs vs)(k : κ){y:V}{u:ax}(c:RelV y u) :
  KV (kvs.map λa=>if a.1=k then (a.1,y) else a) (vs.map λa=>if a.1=k then (a.1,u) else a):=by
 unfold KV at r ⊢
 induction r with
 |nil=>exact .nil
 | @cons p q i g h t d =>
  rw[fh,fh];refine .cons ?_ d;obtain⟨b,f⟩:=h;by_cases e:p.1=k
  ·rw[cc e,cc (b.symm.trans e)];exact⟨b,c⟩
  rw[cn e,cn (λz=>e (b.trans z))];exact⟨b,f⟩
theorem KV.put {kvs:ak (κ×V)}{vs:ak (κ×ax)}(r:KV kvs vs)(k : κ){y:V}{u:ax}(a:RelV y u):KV (putK kvs k y) (stored vs k u):=by
 unfold putK stored;rw[r.any k];by_cases e:(vs.any λb=>ei (b.1=k))=a6
 ·rw[cc e,cc e];exact r.UB k a
 rw[cn e,cn e];exact aey r ⟨rfl,a⟩
theorem KV.length {kvs:ak (κ×V)}{vs:ak (κ×ax)}(r:KV kvs vs):kvs.length=vs.length:=V0 r
end
theorem vO {P:e8}{w:hL}{k:Key}{u:ax}(r:RelV (kV k) u):(bG P w).is k u=a6:=by
 cases k with
 |inl i=>obtain⟨t,e⟩:=(show ∃ t,u=YW i t from r);subst e;exact vz P w i t
 |inr x=>obtain⟨t,e⟩:=(show ∃ t,u=ac2 x t from r);subst e;exact vy P w x t
theorem rX {P:e8}{w:hL}:∀ {a:ak Key}{us:ak ax},Vals (a.map kV) us->ItemsAre (bG P w) a us
 |[],_,r=>by rw[abY] at r;cases r;exact .nil
 |k::a,_,r=>by
  rw[fh] at r;cases r with
  |cons h t=>exact .cons (vO h) (rX t)
abbrev KT (H:Hp):ak (ak Key×V)->ak (ak Key×bc×ax)->Prop:=lC λp q=>p.1=q.1/\H q.2.1=ag (.tup (p.1.map kV))/\RelV p.2 q.2.2
theorem KT.val {H:Hp}{kvs:ak (ak Key×V)}{xs:ak (ak Key×bc×ax)}(r:KT H kvs xs)(k:ak Key):Na (kY kvs k) ((aau xs k).map (·.2)):=by
 induction r with
 |nil=>exact R9
 | @cons p q i a h t f =>
  obtain⟨d,_,g⟩:=h;by_cases e:p.1=k
  ·have c:q.1=k:=d.symm.trans e;have b:aau (q::a) k=ag q.2:=by simp[aau,rp,c]
   rw[oJ e,b];exact g
  have c:¬ q.1=k:=λz=>e (d.trans z);have b:aau (q::a) k=aau a k:=by simp[aau,rp,c]
  rw[oK e,b];exact f
theorem KT.UB {H:Hp}{kvs:ak (ak Key×V)}{xs:ak (ak Key×bc×ax)}(r:KT H kvs xs)(k:ak Key){y:V}{u:ax}(f:RelV y u) :
  KT H (kvs.map λb=>if b.1=k then (b.1,y) else b) (xs.map (putAt k u)):=by
 induction r with
 |nil=>exact .nil
 | @cons p q j i h t g =>
  rw[fh,fh];refine .cons ?_ g;obtain⟨a,c,d⟩:=h;unfold putAt;by_cases e:p.1=k
  ·rw[cc e,cc (a.symm.trans e)];exact⟨a,c,f⟩
  rw[cn e,cn (λz=>e (a.trans z))];exact⟨a,c,d⟩
theorem KT.put {H:Hp}{kvs:ak (ak Key×V)}{xs:ak (ak Key×bc×ax)}(r:KT H kvs xs)(k:ak Key){b:bc}{y:V}{u:ax}(hb:H b=ag (.tup (k.map kV)))(a:RelV y u) :
  KT H (putK kvs k y) (storedH xs k b u):=by
 have e:(kvs.any λc=>ei (c.1=k))=(aau xs k).isSome:=by rw[uL,(r.val k).MB,Sa]
 unfold putK storedH;rw[e];by_cases q:(aau xs k).isSome=a6
 ·rw[cc q,cc q];exact r.UB k a
 rw[cn q,cn q];exact aey r ⟨rfl,hb,a⟩
theorem KT.keeps {H H':Hp}{kvs:ak (ak Key×V)}{xs:ak (ak Key×bc×ax)}(r:KT H kvs xs)(a:∀ b ys,H b=ag (.tup ys)->H' b=ag (.tup ys)):KT H' kvs xs:=
 Paired.Pn r λ_ _ z=>⟨z.1,a _ _ z.2.1,z.2.2⟩
section
variable {P:e8}{w:hL}{H:Hp}{h:ja}{a:bc}
theorem FM {u:HO}(ok:NL P w H h)(e:Rd H a u):L9 P w H h a u:=e.ok ok
theorem vZ {kvs:ak (Key×V)}(ok:NL P w H h)(e:Rd H a (.dK kvs)):kvs.length<=da/\(a==RV)=a8/\∃ vs,KV kvs vs/\h.DictOf (bG P w) a vs:=
 show L9 P w H h a (.dK kvs) from FM ok e
theorem Jj {kvs:ak (Key×V)}(ok:NL P w H h)(e:H a=ag (.dK kvs)):kvs.length<=da/\(a==RV)=a8/\∃ vs,KV kvs vs/\h.DictOf (bG P w) a vs:=vZ ok (.inl e)
theorem pN {b:ak Key}(ok:NL P w H h)(e:H a=ag (.tup (b.map kV))):(abR (bG P w)).is h b a:=by obtain⟨_,its,r,p⟩:=(show L9 P w H h a (.tup (b.map kV)) from ok a _ e);obtain⟨o,c,d,n,f⟩:=p.tup;exact⟨o,its.toArray,n,c,d,f,by simpa using rX r⟩
theorem vY {kvs:ak (ak Key×V)}(ok:NL P w H h)(e:Rd H a (.dT kvs)):kvs.length<=da/\(a==RV)=a8 /\
  ∃ xs,KT H kvs xs/\h.DictOfH (abR (bG P w)) a xs:=by
 obtain⟨z,y,xs,r,o,es,ep,i,j,c,f,d⟩:=(show L9 P w H h a (.dT kvs) from FM ok e);refine⟨z,y,xs,r,o,es,ep,i,j,c,f,λx hx=>?_,d⟩
 have all:∀ {l:ak (ak Key×V)}{m:ak (ak Key×bc×ax)},KT H l m->∀ x∈m,(abR (bG P w)).is h x.1 x.2.1:=by
  intro l m q
  induction q with
  |nil=>intro x hx;exact nomatch hx
  | @cons p q n k b t g =>
   intro x hx;rcases fx.mp hx with e |hx
   ·subst e;exact pN ok (by rw[← b.1];exact b.2.1)
   exact g x hx
 exact all r x hx
theorem Ji {kvs:ak (ak Key×V)}(ok:NL P w H h)(e:H a=ag (.dT kvs)):kvs.length<=da/\(a==RV)=a8 /\
  ∃ xs,KT H kvs xs/\h.DictOfH (abR (bG P w)) a xs:=vY ok (.inl e)
end
def Ou (H:Hp)(a:bc)(y:V)(r:a5 V):Prop:=
 (∃ c k,Rd H a (.dK c)/\y=kV k/\r=kY c k)∨∃ c k b,Rd H a (.dT c)/\y = .ref b/\H b=ag (.tup (k.map kV))/\r=kY c k
def RM (H:Hp)(a:bc)(y v:V)(H':Hp):Prop:=
 (∃ c k,H a=ag (.dK c)/\y=kV k/\c.length<da/\H'=upd H a (.dK (putK c k v))) ∨
 ∃ c k b,H a=ag (.dT c)/\y = .ref b/\H b=ag (.tup (k.map kV))/\c.length<da/\H'=upd H a (.dT (putK c k v))
theorem Ou.k {H:Hp}{a:bc}{kvs:ak (Key×V)}{k:Key}(e:H a=ag (.dK kvs)):Ou H a (kV k) (kY kvs k):=.inl ⟨kvs,k,.inl e,rfl,rfl⟩
theorem RM.k {H:Hp}{a:bc}{kvs:ak (Key×V)}{k:Key}{v:V}(e:H a=ag (.dK kvs))(b:kvs.length<da):RM H a (kV k) v (upd H a (.dK (putK kvs k v))):=.inl ⟨kvs,k,e,rfl,b,rfl⟩
section
variable {X:Cx}{pins:Ln}{σ:St}{H:Hp}{s:bo}{a:bc}{y v:V}{u r:ax}{o:a5 V}{A:iv}{E:Lm}
theorem Inv.big (I:#[10]):RV<s.heap.objs.size:=by have h:my<s.heap.objs.size:=(I.mod.glob.keeps I.bk).lt;exact Vn #[2] h
theorem Bq {Q:Lm}(r:A.units+1<nq)(I:#[10])(g:Ou H a y (ag v))(n:RelV y u)(h:∀ c s',Inv X pins σ H s'->RelV v c->Q c s') :
  dr #[8] A (WO (.ref a) u) Q E s:=by
 rcases g with ⟨d,k,e,m,l⟩ |⟨d,k,b,e,m,C,l⟩
 ·subst m;obtain⟨z,hd,t,rel,i⟩:=vZ I.LW e;obtain⟨c,f,j⟩:=Na.some_of (v:=v) (o:=abX t k) (by rw[l];exact rel.val k);exact wpAny_getItem_of (vO n) i.mapOf f (h c _ (I.tok _) j)
 subst m;cases (show u=jl b from n);obtain⟨z,hd,B,rel,i⟩:=vY I.LW e;obtain⟨c,f,j⟩:=Na.some_of (v:=v) (o:=(aau B k).map (·.2)) (by rw[l];exact rel.val k);obtain⟨p,x,q⟩:=d7.mp f;refine ack (WB r) (pN I.LW C) i x ?_;rw[q];exact h c _ (I.tok _) j
theorem Kw {Q:Lm}(j:A.units+1<nq)(I:#[10])(g:Ou H a y o)(i:RelV y u)(h:∀ s',Inv X pins σ H s'->Q (.bool o.isSome) s') :
  dr #[8] A (oa .In u (.ref a)) Q E s:=by
 rcases g with ⟨c,k,e,f,l⟩ |⟨c,k,b,e,f,m,l⟩
 ·subst f;obtain⟨z,hd,n,rel,d⟩:=vZ I.LW e;refine wpAny_in_of (vO i) hd d.mapOf ?_;rw[← (rel.val k).MB,← l];exact h _ (I.tok _)
 subst f;cases (show u=jl b from i);obtain⟨z,hd,p,rel,d⟩:=vY I.LW e;refine wpAny_in_heap (WB j) (pN I.LW m) hd d ?_;have q:=(rel.val k).MB;rw[Sa] at q;rw[← q,← l];exact h _ (I.tok _)
theorem Fg {Q:Lm}(j:A.units+1<nq)(I:#[10])(g:Ou H a y o)(i:RelV y u)(h:∀ s',Inv X pins σ H s'->Q (.bool (!o.isSome)) s') :
  dr #[8] A (oa .NotIn u (.ref a)) Q E s:=by
 rcases g with ⟨c,k,e,f,l⟩ |⟨c,k,b,e,f,m,l⟩
 ·subst f;obtain⟨z,hd,n,rel,d⟩:=vZ I.LW e;refine wpAny_notIn_of (vO i) hd d.mapOf ?_;rw[← (rel.val k).MB,← l];exact h _ (I.tok _)
 subst f;cases (show u=jl b from i);obtain⟨z,hd,p,rel,d⟩:=vY I.LW e;refine wpAny_notIn_heap (WB j) (pN I.LW m) hd d ?_;have q:=(rel.val k).MB;rw[Sa] at q;rw[← q,← l];exact h _ (I.tok _)
theorem uh {h':ja}{t':Nat}{c:HO}(I:#[10])(g:VI (H a))(d:Vi a s.heap h')(f:∃ q,h'.get? a=ag q)(new:L9 X.prog X.w (upd H a c) h' a c) :
  Inv X pins σ (upd H a c) { s with heap:=h',toks:=t' }:=
 I.write (x:=a) (e:=a) g (#[9]) (λb q hb z=>(d.2 b hb).trans z) f new
theorem Hr {P:e8}{w:hL}{H':Hp}{h':ja}{kvs:ak (Key×V)}{vs:ak (Key×ax)}(z:kvs.length<=da)(hd:(a==RV)=a8)(rel:KV kvs vs)(b:h'.DictOf (bG P w) a vs) :
  L9 P w H' h' a (.dK kvs):=⟨z,hd,vs,rel,b⟩
theorem Bp {H':Hp}{Q:acf->bo->Prop}(K:A.units+1<nq)(I:#[10])(g:RM H a y v H')(D:RelV y u)(B:RelV v r)(h:∀ s',Inv X pins σ H' s'->Q () s') :
  dr #[8] A (abT (.ref a) u r) Q E s:=by
 rcases g with ⟨d,k,e,t,l,o⟩ |⟨d,k,b,e,t,F,l,o⟩
 ·subst t o;obtain⟨z,hd,L,rel,p⟩:=Jj I.LW e;have n:L.length<=da:=by rw[← rel.length];exact z
  have m:(putK d k v).length<=da:=by have:=nJ d k v;omega
  refine wpAny_setItem_pairs (hsz:=n) (vO D) p λx f j=>h _ ?_;have G:∃ q,x.get? a=ag q:=let ⟨q,_,_,i,_⟩:=f;⟨q,i⟩;exact uh I (by rw[e];exact R9) j G (Hr m hd (rel.put k B) f)
 subst t o;cases (show u=jl b from D);obtain⟨z,hd,O,rel,p⟩:=Ji I.LW e;have n:O.length<=da:=by rw[← V0 rel];exact z
 have m:(putK d k v).length<=da:=by have:=nJ d k v;omega
 refine acm (hsz:=n) (WB K) (pN I.LW F) p λx f j=>h _ ?_;obtain⟨q,es,ep,i,P,J,N,_,M⟩:=f;refine uh I (by rw[e];exact R9) j ⟨q,i⟩ ⟨m,hd,_,(rel.put k F B).keeps λc R C=>?_,q,es,ep,i,P,J,N,M⟩;rw[aH (IL C e (λz=>nomatch z))];exact C
end
def BB (i:gy):Prop:=∀ a b,abt i a8 a b=operate [a,b] (WO a b)
theorem yL {prog:e8}{w:hL}{A:iv}{E:Lm}{s:bo}{env:Env}{value slice:gy}{pos:Ud}{T id:Uk}{Q:Lm}
  (k:typeLookup (.type T) "__getitem__"=wh (ag (.builtin id))) (j:BB slice)
  (h:dr #[5] A (qa value env) (λo d=>dr #[5] A (qa slice env) (λi a=>a.TypeIs o T/\dr #[5] A (WO o i) Q E a) E d) E s) :
  dr #[5] A (qa (.Subscript value slice pos) env) Q E s:=by
 refine adO (ro h (λo d f=>ro f (λi a b=>?_) λ_ _ x=>x) λ_ _ x=>x);obtain⟨g,b⟩:=b;unfold ab8;refine av ?_;rw[getitemInPython_of_ne g.not_modules];refine av (Wh g k ?_);have fin:dr #[5] A (abt slice a8 o i) (λr c=>dr #[5] A (letTemporaryGo value o r >>= λ_=>wh r) Q E c) E a:=by rw[j o i];exact wpAny_operating (ro b (λr c e=>av (wpAny_letTemporaryGo (ay e))) λ_ _ x=>x)
 first
  |exact ay (av fin)
  |exact av (ay (av fin))
  |exact av fin
theorem v4 {X:Cx}{c:Ln}{h:St}{H:Hp}{s:bo}{a:bc}{y:V}{o:a5 V}(I:Inv X c h H s)(g:Ou H a y o):s.TypeIs (.ref a) "dict":=by
 rcases g with ⟨d,k,e,_,_⟩ |⟨d,k,b,e,_,_,_⟩
 ·obtain⟨_,_,i,_,f⟩:=vZ I.LW e;exact f.typeIs
 obtain⟨_,_,j,_,f⟩:=vY I.LW e;exact f.typeIs
noncomputable def Il (d ty:TE):TE:=λc H Q=>d c H λx e=>ty c e λy b => ∃ a v,x = .ref a/\Ou b a y (ag v)/\Q v b
noncomputable def Ik (ty d:TE):TE:=λc H Q=>ty c H λy e=>d c e λx b => ∃ a o,x = .ref a/\Ou b a y o/\Q (.bl o.isSome) b
noncomputable def yK (ty d:TE):TE:=λc H Q=>ty c H λy e=>d c e λx b => ∃ a o,x = .ref a/\Ou b a y o/\Q (.bl (!o.isSome)) b
noncomputable def Ir (e ty tv:TE):TS:=λD b H=>tv b H λv g=>e b g λx d=>ty b d λy f => ∃ a c,x = .ref a/\RM f a y v c/\D.nx b c
section
variable {X:Cx}{o i e value:gy}{pos pos' S9:Ud}{td ty tv:TE}
theorem EC (k:X.A.units+1<nq)(q:PE X o td)(z:PE X i ty)(j:BB i):PE X (.Subscript o i pos) (Il td ty):=by intro b s c H Q I h;refine yL ZE.lookup j (LO (q b s c H _ I h) λu r ⟨x,C,w,l,f⟩=>LO (z b r c C _ w f) λE G e=>?_);obtain⟨y,B,d,n,a,v,ex,g,t⟩:=e;subst ex;obtain rfl:u=jl a:=l;exact⟨v4 d g,Bq k d g n λJ D p m=>⟨v,B,p,m,t⟩⟩
theorem Cq (j:X.A.units+1<nq)(v:PE X i ty)(n:PE X o td):PC X .In i o (Ik ty td):=by intro b s c H Q I h;refine LO (v b s c H _ I h) λC p ⟨y,z,r,l,e⟩=>LO (n b p c z _ r e) λu D d=>?_;obtain⟨x,w,t,k,a,f,ex,g,q⟩:=d;subst ex;obtain rfl:u=jl a:=k;exact Kw j t g l λB m=>⟨.bl f.isSome,w,m,rfl,q⟩
theorem AL (j:X.A.units+1<nq)(v:PE X i ty)(n:PE X o td):PC X .NotIn i o (yK ty td):=by intro b s c H Q I h;refine LO (v b s c H _ I h) λC p ⟨y,z,r,l,e⟩=>LO (n b p c z _ r e) λu D d=>?_;obtain⟨x,w,t,k,a,f,ex,g,q⟩:=d;subst ex;obtain rfl:u=jl a:=k;exact Fg j t g l λB m=>⟨.bl (!f.isSome),w,m,rfl,q⟩
theorem Ep (k:X.A.units+1<nq)(z:PE X o td)(G:PE X i ty)(w:PE X value tv)(f:TM value (ag (.Subscript o i pos')) pos.line X.env=wh a8) :
  PS X (.Assign [.Subscript o i pos'] value pos) (Ir td ty tv):=by
 intro b s c H D I h;refine aaQ (LO (w b s c H _ I h) λr B ⟨v,L,F,l,e⟩=>LO (z b B c L _ F e) λu K ⟨x,J,E,p,C⟩=>LO (G b K c J _ E C) λP O d=>?_) f;obtain⟨y,M,t,q,a,n,ex,g,m⟩:=d;subst ex;obtain rfl:u=jl a:=p;exact Bp k t g q l λN j=>⟨c,n,j,m⟩
end
theorem Di {P:e8}{w:hL}{H:Hp}(h:ja)(hb:RV<h.objs.size):L9 P w H (h.push { cls:=.type "dict",data:=.dict #[] }) h.objs.size (.dK []):=
 ⟨RC _,lE.mpr (kg (m3 hb)),[],.nil,Heap.DictOf.new h⟩
noncomputable def Gd:TE:=λ_ H Q => ∀ p,H p=a4->Q (.ref p) (upd H p (.dK []))
section
variable {X:Cx}{pos:Ud}
theorem RN:PE X (.Dict [] [] pos) Gd:=λb s c H Q I h =>
 wpAny_Dict_empty ⟨#[16],_,I.laid (a:=s.heap.objs.size) (o:=.dK []) (t':=s.toks) (λ_ _ q=>a9 _ q) (e9 _) (Di s.heap I.big),rfl,h _ (I.LW.fresh (e9 _))⟩
end
structure M1 (X:Cx) (o:gy) (m:el) (apos:Ud) (e:gy) (L5:Ud):Prop where
 base:RK o m X.env (qa o X.env)=qa o X.env
 few:((rb L5 (ek [e] X.env)).all (λx => !x.1)&&(WS L5 (S7 [] X.env)).all (λx=>x.1.isSome)
  && ei (([e]:ak gy).length+([]:ak Wu).length+(if ([]:ak Wu).isEmpty then 0 else 1)<30))=a6
 line:(apos.endLine==L5.line)=a6
 trees:rb L5 (ek [e] X.env)=[(a8,qa e X.env)]
structure M2 (X:Cx) (o:gy) (m:el) (apos:Ud) (e f:gy) (L5:Ud):Prop where
 base:RK o m X.env (qa o X.env)=qa o X.env
 few:((rb L5 (ek [e,f] X.env)).all (λx => !x.1)&&(WS L5 (S7 [] X.env)).all (λx=>x.1.isSome)
  && ei (([e,f]:ak gy).length+([]:ak Wu).length+(if ([]:ak Wu).isEmpty then 0 else 1)<30))=a6
 line:(apos.endLine==L5.line)=a6
 trees:rb L5 (ek [e,f] X.env)=[(a8,qa e X.env),(a8,qa f X.env)]
end L2
namespace Att
open PySem PySem.W PySem.Calls PyProof.Rows
theorem n6 {P:Params}{h:ja}:∀ (ns:ak Int) (vs:ak ax),WellAll P h vs (ns.map WData.int)->Vt vs ns:=by
 intro ns
 induction ns with
 |nil =>
  intro vs w;rw[abY] at w;cases w;exact .nil
 |cons n ns c =>
  intro vs w;rw[fh] at w;cases w with
  |cons a b =>
   cases a;exact .cons _ _ (c _ b)
theorem Av {l:X3}{n:Nat}(s:l.most=ag n){P:Params}{h:ja}{args:ak WData}{vals:ak ax}
  (g:l.row.toRowW.claim.pre args=a6) (o:WellAll P h vals args) :
  ∃ a vs ns,vals=[jl a]/\args=[WData.list (ns.map WData.int)]/\h.get? a=ag { cls:=#[14],data:=.seq vs.toArray }/\Vt vs ns/\ns.length<=n:=by
 have f:WShape.hasAll [] args [.list .int]=a6:=(pre_splitW g).1;have hc:l.pre.holds [] { args:=args }=a6:=(pre_splitW g).2;obtain⟨d,r,rfl,t,u⟩:=hasAllW_cons f;obtain rfl:=hasAllW_nil u;obtain⟨w,rfl,k⟩:=hasW_list t;obtain⟨ns,rfl⟩:=items_int k
 have b:ns.length<=n:=by
  unfold OpenLaw.pre at hc;have e:(WTm.not (.lt (.lit (.int (n:Int))) (.len (.arg 0)))).holds [] { args:=[.list (ns.map .int)] }=a6:=by have e:=(holds_andW hc).1;rw[s] at e;exact e
  have c:=condW_of e (w_not (w_lt w_lit (w_len_list (w_arg rfl))));rw[dv] at c;refine Nat.le_of_not_lt λq=>?_;have j:(n:Int)<((ns.length:Nat):Int):=#[1]
  first
   |(rw[gx j] at c;exact ib c #[2])
   |(simp at c;omega)
 cases o with
 |cons i m =>
  cases m;cases i with
  |list p v=>exact⟨_,_,ns,rfl,rfl,p,n6 ns _ v,b⟩
theorem AH (l:X3)(args:ak WData):l.row.toRowW.claim.post args (.bool a6) args=a6:=
 postW_of (r:=l.row.toRowW) (X:=(a6==a6))
  (show WShape.has [] (.bool a6) .bool=a6 by first |rfl |decide |simp[WShape.has,WShape.arms,WShape.armsAll])
  (show (WTm.eq .res (.lit (.bool a6))).value [] { args:=args,res:=ag (.bool a6),after:=args }=ag (.bool (a6==a6)) from w_eq_bool (w_res rfl) w_lit) rfl
theorem PZ {l:X3}{n:Nat}{q:e8}{loose:ak el}{m:(Lo)->ja->Prop}{k:hL->ja->Prop}{d:DefRec}
  (E:l.most=ag n) (D:d.params.defaults=[])
  (call:∀ (w:hL) (s₀ b:bo) (mg i:Lo) (g:bc) (o:Obj) (h cd doc:ax) (a:bc) (vs:ak ax) (ns:ak Int),
   Ground q loose [] m w s₀ mg i b.heap->k w b.heap ->
   b.heap.get? g=ag o->o.data = .func (docDef d.name d.params d.body d.scope h cd doc)->b.heap.CodeRec cd d.name->mg d.name=ag (.ref g) ->
   b.heap.get? a=ag { cls:=#[14],data:=.seq vs.toArray }->Vt vs ns->ns.length<=n->b.gens = #[] ->
   XW (eG l.prog w) ZX (.call (.ref g) ⟨[.ref a],[]⟩) (λr s'=>r = .ok (.ret (.bool a6))/\OldK b.heap s'.heap/\s'.os=b.os/\ZP s'.gens) b) :
  adG q loose m k l.row.toRowW d [] (λf vs=>adP f vs):=by
 intro w s₀ b mg i G Y g o h cd doc x kV B hd v p K F args vals L t j J y z;obtain rfl:x = .none:=Dflts.none p D;obtain rfl:kV = .none:=Dflts.noKw p;obtain⟨a,vs,ns,rfl,rfl,s,c,e⟩:=Av E t y;refine enter_call (aaO (call w s₀ b mg i g o h cd doc a vs ns G Y B (fd_plain hd) v K s c e F) λr s' I=>?_);obtain⟨rfl,H,u,C⟩:=I;exact⟨.inl ⟨.bool a6,.bool a6,[],rfl,λ_=>rfl,.bool a6,AH l _,λ_=>⟨WU,λ_ A=>(nomatch A)⟩⟩,H,u,C⟩
end Att
namespace L2
open PySem PySem.Spec PyProof.Rows
theorem mn:∀ {vs:ak ax}{ns:ak Int},Vt vs ns->Vals (ns.map V.int) vs
 |_,_,.nil => .nil
 |_,_,.cons n t h => .cons ⟨t,rfl⟩ (mn h)
def HQ (H:Hp):Prop:=∀ b,H b=a4∨∃ o a,H b=ag (.QB o (.lst a))
theorem CV {P:e8}{w:hL}{K:Ll}{mg t:Lo}{CX:Rw}{k:Nat}{p a:bc}{fd:K1}{x:el}{sp:Sp}{c:bo}{vs:ak ax}{ns:ak Int}
  (KX:K.In c.heap) (i:c.heap.Ns my mg) (hb:c.heap.Ns YY t) (y:∀ x:el,x≠"__name__"->t x=n0 x) (U:c.heap.NoLimit) (X:c.gens = #[])
  (ha:c.heap.get? a=ag { cls:=#[14],data:=.seq vs.toArray }) (I:Vt vs ns) (A:ns.length<=da) (hr:L1 k ZX)
  (F:∀ base:ja,K.In base->base.Ns my mg->Ny P w K mg base CX k p fd [x] sp) (Y:∀ (s:bo) (u:ax),abV s fd ⟨[u],[]⟩ [(x,u)])
  (S:∀ H:Hp,HQ H->Oq K H a (ns.map V.int)->sp [.ref a] H (λv _=>v = .bl a6) λ_ _ _=>False)
  (Z:∀ H e s',CX [] H c (λ_ _ _=>False) e s'->False) :
  XW (eG P w) ZX (.call (.ref p) ⟨[.ref a],[]⟩) (λr s'=>r = .ok (.ret (.bool a6))/\OldK c.heap s'.heap/\s'.os=c.os/\ZP s'.gens) c:=by
 have E:=mn I;have R:=I.length
 have core:∀ H:Hp,HQ H->Oq K H a (ns.map V.int)->NL P w H c.heap->(∀ b,H b≠a4->b=a)->(H a≠a4->K.lookup a=a4) ->
   XW (eG P w) ZX (.call (.ref p) ⟨[.ref a],[]⟩) (λr s'=>r = .ok (.ret (.bool a6))/\OldK c.heap s'.heap/\s'.os=c.os/\ZP s'.gens) c:=by
  intro H D Q LW C N;have G:∀ {b:bc}{o:Obj},c.heap.get? b=ag o->H b=a4->(t_ c.heap H).get? b=ag o:=λe n=>C4 e n
  have VZ:∀ {b:bc}{o:Obj}{es:hO DictEntry}{ep:Nat},c.heap.get? b=ag o->o.data = .dict es ep->H b=a4:=λ{b o es ep} e d=>by
   cases q:H b with
   |none=>rfl
   |some u =>
    have l:b=a:=C b (by rw[q];simp);subst l;rw[ha] at e;cases e;have d':Data.seq vs.toArray _=Data.dict es ep:=d;cases d'
  have j:∀ {b:bc}{m:Lo},c.heap.Ns b m->(t_ c.heap H).Ns b m:=λ{b m} ⟨o,es,ep,e,d,r⟩=>⟨o,es,ep,G e (VZ e d),d,r⟩
  have f:K.In (t_ c.heap H):=λb o e=>G (KX b o e) (by
   cases q:H b with
   |none=>rfl
   |some u =>
    have l:b=a:=C b (by rw[q];simp);subst l
    rw[N (by rw[q];simp)] at e;cases e)
  have hM:Mod K mg (t_ c.heap H):=⟨f,j i,⟨t,j hb,y⟩,let ⟨W,h1,h2⟩:=U;⟨W,j h1,h2⟩⟩;have M:Qn P w K mg (t_ c.heap H) ZX [] c H:=⟨rfl,hM,λb o e=>EJ e,aaM (Bi _ _),TC,λb hb=>ib (show b∈([]:ak bc) from hb) #[3],LW,.of_eq X⟩;refine aaO ((F _ f (j i)).run ZX [] c H ⟨[.ref a],[]⟩ [.ref a] [.ref a] _ _ hr M (Y c (.ref a)) (.cons rfl .nil) (S H D Q)) λr s' h=>?_;cases r with
  |error e=>exact(Z H e s' h).elim
  |ok fl =>
   cases fl with
   |next=>exact Q1 h
   |brk=>exact Q1 h
   |cont=>exact Q1 h
   |ret u =>
    obtain⟨v,H',os,bare,un,J,r',q⟩:=h;have T:v = .bl a6:=q;subst T;obtain rfl:u=adH a6:=r';refine⟨rfl,OldK.of_keep λb o e=>?_,os,bare⟩;cases q:H b with
    |none=>exact un.keep b o e q (by intro z;exact ib (show b∈([]:ak bc) from z) #[3]) #[3]
    |some u =>
     rcases D b with z |⟨O,xs,z⟩
     ·rw[q] at z;cases z
     have z2:=un.O6 b O _ z;obtain⟨B,_⟩:=LW b _ z;obtain⟨L,_⟩:=J b _ z2;rw[e] at B;cases B;exact L
 cases hk:K.lookup a with
 |some o =>
  have e:=KX a o hk;rw[ha] at e;cases e;refine core (λ_=>a4) (λ_ => #[9]) (.inr ⟨_,vs.toArray,_,hk,rfl,rfl,rfl,by rw[f5,R];exact A,by simpa using E⟩) (λb u z=>by have g:(a4:a5 HO)=ag u:=z;cases g) (λb z=>ib rfl z) λz=>ib rfl z
 |none =>
  refine core (λb=>if b=a then ag (.QB { cls:=#[14],data:=.seq vs.toArray } (.lst (ns.map V.int))) else a4) (λb=>?_) (.inl (.inr ⟨{ cls:=#[14],data:=.seq vs.toArray },cc rfl⟩)) (λb u z=>?_) (λb z=>?_) λ_=>hk
  ·by_cases hb:b=a
   ·exact .inr ⟨_,_,cc hb⟩
   exact .inl (cn hb)
  ·by_cases hb:b=a
   ·have g:=(cc hb).symm.trans z;cases g;subst hb;exact⟨ha,by rw[dv];exact A,vs,_,E,ha⟩
   have g:=(cn hb).symm.trans z;cases g
  by_cases hb:b=a
  ·exact hb
  exact ib (cn hb) z
theorem Tc {l:X3}{n k:Nat}{q:e8}{loose:ak el}{A:(Lo)->ja->Prop}{p:hL->ja->Prop}{d:DefRec}{K:Params->Ll}{CX:hL->Rw}{sp:hL->Sp}{x:el}
  (I:l.most=ag n) (y:n<=da) (E:d.params.defaults=[]) (hr:L1 k ZX)
  (C:∀ (w:hL) (h:ja),p w h->(K w.params).In h)
  (F:∀ (w:hL) (mg:Lo) (m:bc) (h:ja),(K w.params).In h->h.Ns my mg->mg d.name=ag (.ref m) ->
   ∃ fd:K1,(∀ (s:bo) (u:ax),abV s fd ⟨[u],[]⟩ [(x,u)]) /\
    ∀ base:ja,(K w.params).In base->base.Ns my mg->Ny l.prog w (K w.params) mg base (CX w) k m fd [x] (sp w))
  (r:∀ (w:hL) (H:Hp) (a:bc) (ns:ak Int),ns.length<=n->HQ H->Oq (K w.params) H a (ns.map V.int)->sp w [.ref a] H (λv _=>v = .bl a6) λ_ _ _=>False)
  (z:∀ (w:hL) (H:Hp) (s:bo) (e:ax) (s':bo),CX w [] H s (λ_ _ _=>False) e s'->False) :
  adG q loose A p l.row.toRowW d [] (λf vs=>adP f vs):=by
 refine Att.PZ I E λw s₀ j mg Q m o O cd doc a vs ns G Y P hd N L t i c J=>?_;have KX:=C w _ Y;obtain⟨fd,hb,M⟩:=F w mg m _ KX G.T.g L;exact CV KX G.T.g G.T.b G.T.builtins G.T.nolimit J t i (fg c y) hr M hb (λH B D=>r w H a ns c B D) λH e s'=>z w H j e s'
noncomputable def dZ (s:qb):XO:=match s with
 | .FunctionDef _ a _ _ _ _ _ _ _ _=>a
 |_ => { posonlyargs:=[],args:=[],vararg:=a4,kwonlyargs:=[],kw_defaults:=[],kwarg:=a4,defaults:=[] }
noncomputable def bQ (s:qb):ak qb:=match s with
 | .FunctionDef _ _ b _ _ _ _ _ _ _=>b
 |_=>[]
noncomputable def aq (s:qb):ku:=match s with
 | .FunctionDef _ _ _ _ _ _ sc _ _ _=>sc
 |_ => { kind:=.function,names:=[],isGenerator:=a8,isCoroutine:=a8 }
abbrev Rx:Rw:=λ_ _ _ _ _ _=>False
abbrev E0:XK:=λ_ _ _=>False
theorem Cr {X:Cx}:Passes Rx X E0:=λ_ _ _ _ _ _ _ h=>h.elim
structure QX (K:Ll) (x qual:el) (st:qb) (f:bc) (fd:K1):Prop where
 ex:∃ (oc:ax) (od:a5 bc) (kV doc pm:ax) (an:a5 bc) (LU ct:ax) (QW:hO (a5 ax)),
  fd=K2 x qual (dZ st) (bQ st) (aq st) .none kV doc pm an LU ct/\K.lookup f=ag ⟨oc,od,.func fd,QW⟩/\Ze K LU qual=a6
 kp:Qo K (.ref f)=a6
section
variable {P:e8}{w:hL}{K:Ll}{mg:Lo}{base:ja}
theorem QX.binds {x qual:el}{st:qb}{f:bc}{fd:K1}{c:ak el}(F:QX K x qual st f fd)
  (h:∀ (kV doc a:ax) (b:a5 bc) (d ct:ax) (us:ak ax),us.length=c.length->UY (K2 x qual (dZ st) (bQ st) (aq st) .none kV doc a b d ct) ⟨us,[]⟩=wh (c.zip us)):Binds K fd c []:=by
 obtain⟨j,i,kV,doc,a,b,d,ct,k,rfl,e,g⟩:=F.ex;exact .all (h kV doc a b d ct)
theorem Hj {x qual:el}{st:qb}{f:bc}{g:ax}{e d:a5 bc}{h:hO (a5 ax)}{kV doc b a ct:ax}(l:K.lookup f=ag ⟨g,e,.func (K2 x qual (dZ st) (bQ st) (aq st) .none kV doc b d a ct),h⟩)
  (c:Ze K a qual=a6) (k:Qo K (.ref f)=a6):QX K x qual st f (K2 x qual (dZ st) (bQ st) (aq st) .none kV doc b d a ct):=⟨⟨g,e,kV,doc,b,d,a,ct,h,rfl,l,c⟩,k⟩
end
theorem aV {A:iv}{k:Nat}(hr:L1 k A):A.units+1<nq:=acn (Nat.add_le_add_left (#[4] : 1<=64) _) hr.units
section
variable {X:Cx}
theorem pv (i:Nat){x:el}{pos:Ud}(c:X.N[i]?=ag x:=by rfl)(a:VM X.env.scope x:=by first |exact abu rfl |exact aac (abu rfl) |exact aac (aac rfl))(hd:(x==("__debug__":el))=a8:=by decide)
  (b:(x==("__classdict__":el))=a8:=by decide):PE X (.Name x pos) (Ib i):=Cj c a hd b
end
def LH (H H':Hp):Prop:=∀ b o,H b=ag o->H' b=ag o
theorem LH.refl (H:Hp):LH H H:=λ_ _ h=>h
theorem LH.trans {H e d:Hp}(a:LH H e)(b:LH e d):LH H d:=λc o h=>b c o (a c o h)
end L2
namespace HT
open PySem PyProof.Rows
section
variable {prog:e8}{w:hL}{A:iv}{E:Lm}{s:bo}
theorem Td {t b:bc}{vs ws:ak ax}{Q:Lm}(m:ab5 s.heap t vs.toArray)(hb:ab5 s.heap b ws.toArray)(j:vs≠[])
  (o:ws=[]->Q (.ref t) s) (p:ws≠[]->Q (#[16]) { s with heap:=s.heap.push { cls:=.type "tuple",data:=.seq (vs++ws).toArray } })
  (hsz:vs.length+ws.length<=da):dr #[5] A (Ra .Add (.ref t) (.ref b)) Q E s:=by
 obtain⟨⟨cls,h,data,l⟩,d,hc,n,hd⟩:=id m;obtain⟨⟨q,k,data2,g⟩,f,i,n2,a⟩:=id hb;simp only at hc hd i a;subst hc hd i a;have e:vs.toArray++ws.toArray=(vs++ws).toArray:=by simp
 by_cases c:ws=[]
 ·exact aaR ⟨_,d,rfl⟩ ⟨_,f,rfl⟩ aav ab9 WW WI (V1 _ _)
   (tuple_addW1 t b vs.toArray ws.toArray n n2 h k l g (by simpa using j) (by simp[c])) ⟨d,f,o c⟩
 refine aaR ⟨_,d,rfl⟩ ⟨_,f,rfl⟩ aav ab9 WW WI (V1 _ _)
  (tuple_addW2 t b vs.toArray ws.toArray n n2 h k l g (by simpa using j) (by simpa using c) (by rw[f5,f5];exact hsz)) ⟨d,f,?_⟩
 rw[e];exact p c
noncomputable def L_ (n d:Nat):a5 Int->Nat
 |a4=>d
 |ag v=>if v<0 then (v+(n:Int)).toNat else XP v.toNat n
theorem P0 (n d:Nat):L_ n d a4=d:=rfl
theorem QG (n d k:Nat):L_ n d (ag (k:Int))=XP k n:=by show (if (k:Int)<0 then ((k:Int)+(n:Int)).toNat else XP (k:Int).toNat n)=XP k n;rw[cn #[0],UP]
theorem Gv (n d:Nat)(hd:d<=n)(o:a5 Int):L_ n d o<=n:=by
 cases o with
 |none=>exact hd
 |some v =>
  show (if v<0 then (v+(n:Int)).toNat else XP v.toNat n)<=n;by_cases a:v<0
  ·rw[cc a];omega
  rw[cn a];exact YJ _ _
theorem zZ (v:Int)(n d:Nat):(if v<0 then max (v+(n:Int)) 0 else XP v (n:Int))=((L_ n d (ag v):Nat):Int):=by
 show (if v<0 then max (v+(n:Int)) 0 else XP v (n:Int))=(((if v<0 then (v+(n:Int)).toNat else XP v.toNat n):Nat):Int);by_cases a:v<0
 ·simp only[cc a];omega
 simp only[cn a];omega
theorem yv (lo a:a5 Int)(n:Nat):VO lo a 1 (n:Int)=(((L_ n 0 lo:Nat):Int),((L_ n n a:Nat):Int)):=by
 have b:¬ ((1:Int)<0):=#[1]
 unfold VO;simp only[b,la];refine Prod.ext ?_ ?_
 ·cases lo with
  |none=>rfl
  |some v=>exact zZ v n 0
 cases a with
 |none=>rfl
 |some v=>exact zZ v n n
theorem xB (i j:Nat):SH (i:Int) (j:Int) 1=j-i:=by
 unfold SH;have a:(1:Int) > 0:=#[1]
 simp only[a,mz,Int.ediv_one];split<;>omega
theorem o0 {v:ax}{o:a5 Int}{Q:a5 Int->bo->Prop}(p:aaS v o)(h:Q o s):dr #[5] A (Builtin.Slice.slicePartIndex v) Q E s:=by
 cases p with
 |none=>exact slicePart_none h
 |int i t=>exact slicePart_int h
theorem MU {f:bc}{b c:ax}{lo a:a5 Int}{n:Nat}{Q:Int×Int×Nat->bo->Prop}(i:s.heap.IsSliceOf f b c .none)(pl:aaS b lo)(g:aaS c a)
  (h:Q (((L_ n 0 lo:Nat):Int),1,L_ n n a-L_ n 0 lo) s):dr #[5] A (Zh (.ref f) (wh (n:Int))) Q E s:=by
 obtain⟨os,e,j,d⟩:=id i;unfold Zh Builtin.Slice.sliceFields;refine av (av (sA e d (x:=b) rfl (av (sA e d (x:=c) rfl (av (sA e d (x:=.none) rfl (ay ?_)))))));refine av (slicePart_none ?_);show dr _ _ (if ((1:Int)==0)=a6 then _ else _) _ _ s;rw[cn #[2]];refine av (o0 pl (av (o0 g (av (ay ?_)))));show dr _ _ (match VO lo a 1 (n:Int) with |(lo,a)=>wh (lo,(1:Int),SH lo a 1)) _ _ s;rw[yv lo a n];show dr _ _ (wh (((L_ n 0 lo:Nat):Int),(1:Int),SH ((L_ n 0 lo:Nat):Int) ((L_ n n a:Nat):Int) 1)) _ _ s;rw[xB];exact ay h
theorem Ch (xs:hO ax)(i k:Nat):((ew k).filterMap λ(m:Nat)=>xs[((i:Int)+(m:Int)*1).toNat]?).toArray=((xs.toList.drop i).take k).toArray:=by
 have e:(λ(m:Nat)=>xs[((i:Int)+(m:Int)*1).toNat]?)=λm=>xs[i+m]?:=by
  funext m;have:((i:Int)+(m:Int)*1).toNat=i+m:=#[1]
  rw[this]
 rw[e];have:=pick_run xs i k;rw[aco] at this;have a:((λx=>xs[x]?) ∘ λx=>i+x)=λm=>xs[i+m]?:=rfl;rw[a] at this;rw[this]
theorem NU {t d:bc}{items:hO ax}{e g:ax}{lo a:a5 Int}{Q:Lm}(c:ab5 s.heap t items)(f:s.heap.IsSliceOf d e g .none)(pl:aaS e lo)(o:aaS g a)
  (i:¬ (L_ items.size 0 lo=0/\L_ items.size items.size a=items.size))
  (h:Q (#[16]) { s with heap:=s.heap.push { cls:=.type "tuple",data:=.seq ((items.toList.drop (L_ items.size 0 lo)).take (L_ items.size items.size a-L_ items.size 0 lo)).toArray } })
  (hsz:items.size<=da):dr #[5] A (WO (.ref t) (.ref d)) Q E s:=by
 have b:sizeOk (.seq ((items.toList.drop (L_ items.size 0 lo)).take (L_ items.size items.size a-L_ items.size 0 lo)).toArray):=by show ((items.toList.drop (L_ items.size 0 lo)).take (L_ items.size items.size a-L_ items.size 0 lo)).toArray.size<=da;rw[f5,Qr,M3,gz];omega
 have p:L_ items.size items.size a<=items.size:=Gv _ _ (e9 _) a;obtain⟨os,n,k,u⟩:=id f;have l:s.TypeIs (.ref d) "slice":=⟨os,n,k⟩;unfold WO
 try with_reducible refine vl ?_
 first |refine av (ay ?_) |skip
 refine av (wpAny_sequenceKey c.typeIs #[2] ?_)
 refine av (r0 (name:=Vz "__getitem__") c.typeIs n7
  (mi n7 c.typeIs ab2 ?_ (acp _ _)))
 show dr _ _ (RU (.ref t) >>= _) _ _ s;refine av (ab_ c ?_);refine av (Uq l ?_);rw[cc #[2]];refine av (MU f pl o ?_);have j:¬ ((((L_ items.size 0 lo:Nat):Int)==0&&(1:Int)==1&&(L_ items.size items.size a-L_ items.size 0 lo)==items.size)=a6):=by intro q;rw[pX,pX] at q;have r:((L_ items.size 0 lo:Nat):Int)=0:=VG q.1.1;have v:L_ items.size items.size a-L_ items.size 0 lo=items.size:=VG q.2;exact i ⟨#[1],#[1]⟩
 show dr _ _ (if (((L_ items.size 0 lo:Nat):Int)==0&&(1:Int)==1&&(L_ items.size items.size a-L_ items.size 0 lo)==items.size)=a6 then _ else _) _ _ s;rw[cn j,Ch]
 first
  |exact av (m:=z0 _) (ng (ay ⟨_,rfl,ay h⟩) b)
  |exact av (m:=z0 _) (ng (av (ay (ay ⟨_,rfl,ay h⟩))) b)
  |exact av (av (m:=z0 _) (ng (ay (ay ⟨_,rfl,ay h⟩)) b))
  |exact av (av (m:=z0 _) (ng (ay ⟨_,rfl,ay h⟩) b))
end
end HT
namespace L2
open PySem PySem.Spec PyProof.Rows
abbrev TO:=St->Hp->(a5 Int->Hp->Prop)->Prop
def PO (X:Cx)(e:a5 gy)(t:TO):Prop:=
 ∀ (a:Ln) (s:bo) (b:St) (H:Hp) (Q:a5 Int->Hp->Prop),Inv X a b H s->t b H Q ->
  dr #[8] X.A (evalPart e X.env) (λu d => ∃ o c,Inv X a b c d/\aaS u o/\Q o c) X.xe s
noncomputable def DY:TO:=λ_ H Q=>Q a4 H
noncomputable def Ie (t:TE):TO:=λb H Q=>t b H λx a => ∃ i,x = .int i/\Q (ag i) a
theorem intsAre_of {ns:ak Int}:∀ {us:ak ax},Vals (ns.map V.int) us->Vt us ns:=by
 induction ns with
 |nil=>intro us r;rw[abY] at r;cases r;exact .nil
 |cons n ns c =>
  intro us r;rw[fh] at r;cases r with
  |cons a b =>
   obtain⟨t,e⟩:=a;subst e;exact .cons n t (c b)
section
variable {X:Cx}{e:gy}{te:TE}{lo hi:a5 gy}{tl th:TO}{pos p2:Ud}
theorem Eu:PO X a4 DY:=by intro a s b H Q I h;rw[evalPart_none];exact ay ⟨a4,H,I,.none,h⟩
theorem Es (h:PE X e te):PO X (ag e) (Ie te):=by intro a s f H Q I c;rw[evalPart_some];refine LO (h a s f H _ I c) λu l b=>?_;obtain⟨x,k,j,g,d⟩:=b;obtain⟨i,rfl,q⟩:=d;obtain⟨t,rfl⟩:=g;exact⟨ag i,k,j,.int i t,q⟩
def XA (X:Cx)(r:V->a5 Int->a5 Int->Hp->VK->Prop):Prop:=
 ∀ (a:Ln) (s:bo) (d:St) (H:Hp) (x:V) (v c b:ax) (lo hi:a5 Int) (e:bc) (Q:VK),Inv X a d H s->RelV x v->s.heap.IsSliceOf e c b .none->aaS c lo->aaS b hi->r x lo hi H Q ->
  ∃ T id,typeLookup (.type T) "__getitem__"=wh (ag (.builtin id))/\s.TypeIs v T/\dr #[8] X.A (WO v (.ref e)) (EP X a d Q) X.xe s
noncomputable def tSl (r:V->a5 Int->a5 Int->Hp->VK->Prop)(te:TE)(tl th:TO):TE:=λa H Q=>te a H λx d=>tl a d λl b=>th a b λu c=>r x l u c Q
theorem Ck {r:V->a5 Int->a5 Int->Hp->VK->Prop}(hr:XA X r)(m:PE X e te)(p:PO X lo tl)(o:PO X hi th):PE X (.Subscript e (.Slice lo hi a4 p2) pos) (tSl r te tl th):=by intro a s d H Q I h;refine adO (LO (m a s d H _ I h) λv C i=>?_);obtain⟨x,M,F,z,k⟩:=i;refine wpAny_Slice (LO (p a C d M _ F k) λf L ⟨l,K,E,pl,D⟩=>LO (o a L d K _ E D) λg c i=>?_);obtain⟨u,j,y,J,t⟩:=i;rw[evalPart_none];refine ay ?_;have n:Inv X a d j { c with heap:=c.heap.push { cls:=.type "slice",data:=.fields #[f,g,.none] } }:=y.kept (t':=c.toks) λb O q=>a9 _ q;obtain⟨T,id,B,N,G⟩:=hr a { c with heap:=c.heap.push { cls:=.type "slice",data:=.fields #[f,g,.none] } } d j x v f g l u c.heap.objs.size Q n z (Heap.IsSliceOf.new ..) pl J t;show dr #[8] X.A (ab8 e (.Slice lo hi a4 p2) v (.ref c.heap.objs.size)) (EP X a d Q) X.xe { c with heap:=c.heap.push { cls:=.type "slice",data:=.fields #[f,g,.none] } };exact tail_any (ops:=[.ref c.heap.objs.size,v]) N B G (by with_unfolding_all rfl)
noncomputable def v6 (xs:ak V)(lo hi:a5 Int):ak V:=(xs.drop (HT.L_ xs.length 0 lo)).take (HT.L_ xs.length xs.length hi-HT.L_ xs.length 0 lo)
theorem f6 (xs:ak V)(lo hi:a5 Int):(v6 xs lo hi).length<=xs.length:=by unfold v6;rw[Qr,M3];omega
def JW (K:Ll):V->a5 Int->a5 Int->Hp->VK->Prop:=λx lo hi H Q => ∃ a b,x = .ref a/\O2 K H a b /\
 ¬ (HT.L_ b.length 0 lo=0/\HT.L_ b.length b.length hi=b.length)/\∀ p,H p=a4->Q (.ref p) (upd H p (.tup (v6 b lo hi)))
theorem Gi:XA X (JW X.K):=by
 intro f s t H x v n u lo hi w Q I l k pl m h;obtain⟨a,d,rfl,i,j,q⟩:=h;cases l;obtain⟨its,r,g,e⟩:=I.tuple i;have c:its.toArray.size=d.length:=by rw[f5];exact r.length.symm
 refine⟨"tuple",_,n7.lookup,g.typeIs,?_⟩;refine HT.NU g k pl m (by rw[c];exact j) ?_ (by rw[c];exact e);rw[c];refine⟨#[16],_,I.laid (t':=s.toks) (o:=.tup (v6 d lo hi)) (λb p q=>a9 _ q) (e9 _) ?_,rfl,q _ (I.LW.fresh (e9 _))⟩;exact⟨fg (f6 d lo hi) e,_,(r.drop (HT.L_ d.length 0 lo)).take (HT.L_ d.length d.length hi-HT.L_ d.length 0 lo),O5.new _ _⟩
noncomputable def Iw (K:Ll):R2:=λx y H Q => ∃ a b d c,x = .ref a/\y = .ref b/\O2 K H a d/\O2 K H b c/\d≠[]/\d.length+c.length<=da /\
 (c=[]->Q (.ref a) H)/\(c≠[]->∀ p,H p=a4->Q (.ref p) (upd H p (.tup (d++c))))
theorem Vals.Lz {xs:ak V}{us:ak ax}(r:Vals xs us):us=[]↔xs=[]:=by
 cases r with
 |nil=>simp
 |cons _ _=>simp
theorem EI:Pt X (Ra .Add) (Iw X.K):=by intro f s A H x y v u Q I l m h;obtain⟨a,b,p,k,rfl,rfl,r,hb,g,e,i,n⟩:=h;cases l;cases m;obtain⟨its,d,j,_⟩:=I.tuple r;obtain⟨B,c,p2,_⟩:=I.tuple hb;refine HT.Td j p2 (λz=>g (d.Lz.mp z)) (λz=>⟨.ref a,H,I,rfl,i (c.Lz.mp z)⟩) (λz=>?_) (by rw[← d.length,← c.length];exact e);refine⟨#[16],_,I.laid (t':=s.toks) (o:=.tup (p++k)) (λb t q=>a9 _ q) (e9 _) ?_,rfl,n (λw=>z (c.Lz.mpr w)) _ (I.LW.fresh (e9 _))⟩;exact⟨by rw[cv];exact e,_,d.append c,O5.new _ _⟩
end
noncomputable def Ry (n:Nat)(i:Int):a5 Nat:=if 0<=i then (if i<n then ag i.toNat else a4) else if -(n:Int)<=i then ag (i+n).toNat else a4
noncomputable def O3 {α:Type}(xs:ak α)(i:Int):a5 α:=(Ry xs.length i).bind λj=>xs[j]?
theorem zA {n:Nat}{i:Int}{j:Nat}(h:Ry n i=ag j):seqIndex? i n=ag j/\j<n/\-(n:Int)<=i/\i<n:=by
 unfold Ry at h;by_cases b : 0<=i
 ·rw[cc b] at h;by_cases a:i<n
  ·rw[cc a] at h;have e:i.toNat=j:=h8 h;exact⟨by rw[abv b a,e],#[1],#[1],a⟩
  rw[cn a] at h;cases h
 rw[cn b] at h;by_cases a : -(n:Int)<=i
 ·rw[cc a] at h;have e:(i+n).toNat=j:=h8 h;exact⟨by rw[aaT #[0] a,e],#[1],a,#[1]⟩
 rw[cn a] at h;cases h
theorem l8 {α:Type}{xs:ak α}{i:Int}{v : α}(h:O3 xs i=ag v):∃ j,seqIndex? i xs.length=ag j/\xs[j]?=ag v/\j<xs.length/\-(xs.length:Int)<=i/\i<xs.length:=by
 unfold O3 at h;cases e:Ry xs.length i with
 |none=>rw[e] at h;cases h
 |some j =>
  rw[e] at h;obtain⟨a,b,d,c⟩:=zA e;exact⟨j,a,h,b,d,c⟩
def oy (b:gy):Prop:=∀ o i,abt b a8 o i=operate [o,i] (WO o i)
def V7 (X:Cx)(r:R2):Prop:=
 ∀ (value slice:gy) (a:Ln) (s:bo) (b:St) (H:Hp) (x y:V) (v u:ax) (Q:VK),Inv X a b H s->RelV x v->RelV y u->r x y H Q ->
  abt slice a8 v u=operate [v,u] (WO v u)->dr #[8] X.A (ab8 value slice v u) (EP X a b Q) X.xe s
def Yt (X:Cx)(id:Uk)(r:V->ak V->Hp->VK->Prop):Prop:=
 ∀ (a:Ln) (s:bo) (b:St) (H:Hp) (x:V) (c:ak V) (v:ax) (d:ak ax) (Q:VK),Inv X a b H s->RelV x v->Vals c d->r x c H Q ->
  dr #[8] X.A (call (.builtin id) (v::d)) (EP X a b Q) X.xe s
section
variable {X:Cx}{a b:gy}{ta tb:TE}{pos:Ud}
theorem FP {r:R2}(hr:V7 X r)(ha:PE X a ta)(hb:PE X b tb)(d:oy b):PE X (.Subscript a b pos) (VT r ta tb):=by intro c s e H Q I h;exact adO (HF ha hb I h λv u k x y j i f g q=>hr a b c k e j x y v u Q i f g q (d _ _))
noncomputable def Iv (K:Ll):R2:=λx y H Q => ∃ p a i v,x = .ref p/\y = .int i/\Oq K H p a/\O3 a i=ag v/\Q v H
noncomputable def JY (K:Ll):R2:=λx y H Q => ∃ p a i v,x = .ref p/\y = .int i/\O2 K H p a/\O3 a i=ag v/\Q v H
noncomputable def JZ:R2:=λx y H Q => ∃ z i c,x = .str z/\y = .int i/\z.length<=da/\O3 z.cps.toList i=ag c/\Q (.str ⟨#[c]⟩) H
theorem zy:V7 X (Iv X.K):=by
 intro value slice a s f H x y v u Q I n B h e;obtain⟨p,J,i,z,rfl,rfl,E,l,q⟩:=h;cases n;obtain⟨t,rfl⟩:=B;obtain⟨its,r,pl,G⟩:=I.list E;obtain⟨j,b,D,F,C,o⟩:=l8 l;obtain⟨w,d,A⟩:=r.get D;have m:=r.length;have L:=je;have fin:EP X a f Q w s:=⟨z,H,I,A,q⟩;by_cases g : 0<=i
 ·have c:i.toNat=j:=by
   rw[abv g o] at b;exact h8 b
  exact item_listR pl.isList g #[0] (by rw[c];simpa using d) fin e
 have c:(i+(its.toArray.size:Int)).toNat=j:=by rw[aaT #[0] C] at b;rw[f5,← m];exact h8 b
 exact aaU (x:=w) pl.isList.typeIs slot_list_getitem.lookup
  (aaV (Q:=λr k=>r=w/\EP X a f Q r k) pl.isList #[0] (by rw[f5]<;>omega) #[0] (by rw[c];simpa using d) ⟨rfl,fin⟩) e
theorem Hc:V7 X (JY X.K):=by
 intro value slice a s b H x y v u Q I k m h e;obtain⟨p,F,i,z,rfl,rfl,A,f,q⟩:=h;cases k;obtain⟨t,rfl⟩:=m;obtain⟨its,r,pl,C⟩:=I.tuple A;obtain⟨j,n,o,B,E,D⟩:=l8 f;obtain⟨w,d,l⟩:=r.get o;have g:=r.length;have G:=je;have fin:EP X a b Q w s:=⟨z,H,I,l,q⟩
 exact aaU (x:=w) pl.typeIs n7.lookup
  (getItem_tuple (j:=j) (Q:=λr c=>r=w/\EP X a b Q r c) pl #[0] #[0] (by rw[f5,← g];exact n) (by simpa using d) ⟨rfl,fin⟩) e
theorem Hd:V7 X JZ:=by
 intro value slice b s B H x y v u Q I l n h e;obtain⟨z,i,c,rfl,rfl,A,f,q⟩:=h;obtain⟨t,rfl⟩:=l;obtain⟨r,rfl⟩:=n;obtain⟨j,a,p,w,o,m⟩:=l8 f;have k:z.cps.toList.length=z.length:=by simp[Str.length]
 rw[k] at a o m;have C:=je
 exact tail_any (typeIs_str s z t) slot_str_getitem.lookup (getItem_str (c:=c) (by
  have d:ei (i < -(2 ^ 63:Int))=a8:=dV #[0];have g:ei (i≥2 ^ 63)=a8:=dV #[0]
  rw[d,g,Bool.or_false]) (by rw[a];simpa using p) ⟨.str ⟨#[c]⟩,H,I.tok _,⟨_,rfl⟩,q⟩) e
theorem xI (its:ak ax)(n j:Nat)(u:ax):Tx (·.setIfInBounds j u) { cls:=#[14],data:=.seq its.toArray n }={ cls:=#[14],data:=.seq (its.set j u).toArray n }:=by simp[Tx]
theorem Inv.lst {a:Ln}{b:St}{H:Hp}{s:bo}{p:bc}{xs:ak V}(I:Inv X a b H s)(h:H p=ag (.lst xs)) :
  ∃ (its:ak ax) (n:Nat),Vals xs its/\s.heap.get? p=ag { cls:=#[14],data:=.seq its.toArray n }/\xs.length<=da:=by
 obtain⟨z,its,n,r,e⟩:=I.LW p _ h;exact⟨its,n,r,e,z⟩
theorem Inv.UG {a:Ln}{d:St}{H:Hp}{s:bo}{p:bc}{xs ys:ak V}{its its':ak ax}{n c:Nat}{f:Obj->Obj}(I:Inv X a d H s)(h:H p=ag (.lst xs))
  (i:s.heap.get? p=ag { cls:=#[14],data:=.seq its.toArray n }) (g:f { cls:=#[14],data:=.seq its.toArray n }={ cls:=#[14],data:=.seq its'.toArray c }) (r:Vals ys its') (hz:ys.length<=da) (t:Nat) :
  Inv X a d (upd H p (.lst ys)) { s with heap:=s.heap.update p f,toks:=t }:=by
 have e:(s.heap.update p f).get? p=ag { cls:=#[14],data:=.seq its'.toArray c }:=by rw[OG f i (by rw[g]<;>rfl),g]
 refine I.write (x:=p) (e:=p) (by rw[h];trivial) (#[9]) (λb u hb q=>(Ux _ _ (kg hb)).trans q) ⟨_,e⟩ ?_;exact⟨hz,its',c,r,e⟩
def Iu:V->V->V->Hp->(Hp->Prop)->Prop:=λo i v H Q => ∃ p a k j,o = .ref p/\i = .int k/\H p=ag (.lst a)/\Ry a.length k=ag j/\Q (upd H p (.lst (a.set j v)))
theorem set_list:HP X Iu:=by
 intro a s A H o i v D G u Q I B ri y h;obtain⟨p,C,k,j,rfl,rfl,l,x,q⟩:=h;cases B;obtain⟨t,rfl⟩:=ri;obtain⟨its,n,r,e,z⟩:=I.lst l;obtain⟨b,F,g,m⟩:=zA x;have d:=r.length;have E:=je
 have f:Inv X a A (upd H p (.lst (C.set j v))) { s with heap:=s.heap.update p (Tx (·.setIfInBounds j u)) }:=
  I.UG l e (xI its n j u) (r.set y j) (by rw[Sn];exact z) s.toks
 by_cases w : 0<=k
 ·have c:k.toNat=j:=by
   rw[abv w m] at b;exact h8 b
  exact PySem.W.ki_setAt e w #[0] (by rw[f5,← d];exact m) (by rw[c];exact⟨_,f,q⟩)
 have c:(k+(its.toArray.size:Int)).toNat=j:=by rw[aaT #[0] g] at b;rw[f5,← d];exact h8 b
 exact PySem.W.ki_setBack e #[0] (by rw[f5,← d];exact g) #[0] (by rw[c];exact⟨_,f,q⟩)
theorem tI (lo a:a5 Int)(n:Nat):(WN lo a a4 n).1=((HT.L_ n 0 lo:Nat):Int)/\(WN lo a a4 n).2.1=((HT.L_ n n a:Nat):Int)/\(WN lo a a4 n).2.2=1:=by
 refine⟨?_,?_,rfl⟩
 ·cases lo with
  |none=>simp[WN,HT.L_]
  |some i =>
   simp only[WN,HT.L_,getD_none,show (1:Int) > 0 by decide,mz];by_cases h:i<0
   ·simp only[h,mz]<;>omega
   simp only[h,la]<;>omega
 cases a with
 |none=>simp[WN,HT.L_]
 |some i =>
  simp only[WN,HT.L_,getD_none,show (1:Int) > 0 by decide,mz];by_cases h:i<0
  ·simp only[h,mz]<;>omega
  simp only[h,la]<;>omega
theorem qD (its:ak ax)(lo a:a5 Int):slicePick its.toArray lo a a4=((its.drop (HT.L_ its.length 0 lo)).take (HT.L_ its.length its.length a-HT.L_ its.length 0 lo)).toArray:=by obtain⟨b,c,d⟩:=tI lo a its.toArray.size;unfold slicePick;rw[b,c,d];simp only[sliceRange_one,pick_run,f5]<;>rfl
def JX (K:Ll):V->a5 Int->a5 Int->Hp->VK->Prop:=λx lo c H Q => ∃ a b,x = .ref a/\Oq K H a b/\∀ p,H p=a4->Q (.ref p) (upd H p (.lst (v6 b lo c)))
theorem D_:XA X (JX X.K):=by intro f s t H x v n u lo e w Q I l j pl m h;obtain⟨a,c,rfl,i,q⟩:=h;cases l;obtain⟨its,r,g,k⟩:=I.list i;have d:=r.length;refine⟨"list",_,slot_list_getitem.lookup,g.isList.typeIs,?_⟩;refine wpAny_getItem_list_slice g.isList j pl m .none #[3] ?_ (by rw[f5]<;>omega);rw[qD,← d];refine⟨#[16],_,I.laid (t':=s.toks) (o:=.lst (v6 c lo e)) (λb p q=>a9 _ q) (e9 _) ?_,rfl,q _ (I.LW.fresh (e9 _))⟩;exact⟨fg (f6 c lo e) k,_,0,(r.drop (HT.L_ c.length 0 lo)).take (HT.L_ c.length c.length e-HT.L_ c.length 0 lo),er _ rfl⟩
theorem io:iM X (.builtin "len") (λxs H Q => ∃ p ys,xs=[.ref p]/\(Oq X.K H p ys∨O2 X.K H p ys)/\Q (.int ys.length) H):=by
 intro c s f H xs g Q I r h;obtain⟨p,ys,rfl,hq,q⟩:=h;obtain⟨u,rfl,e⟩:=vals1 r;cases e;have i:=je;rcases hq with hq |hq
 ·obtain⟨its,b,pl,d⟩:=I.list hq;have a:=b.length;exact Calls.call_len_list pl.isList (by simp only[f5]<;>omega) ⟨.int ys.length,H,I.tok _,⟨s.toks+1,by rw[f5,a]⟩,q⟩
 obtain⟨its,b,pl,d⟩:=I.tuple hq;have a:=b.length;exact len_tuple pl (by simp only[f5]<;>omega) ⟨.int ys.length,H,I.tok _,⟨s.toks+1,by rw[f5,a]⟩,q⟩
theorem uq:iM X (.builtin "len") (λxs H Q => ∃ z,xs=[.str z]/\z.length<=da/\Q (.int z.length) H):=by intro a s c H xs d Q I r h;obtain⟨z,rfl,b,q⟩:=h;obtain⟨u,rfl,t,rfl⟩:=vals1 r;have e:=je;exact len_str #[0] ⟨.int z.length,H,I.tok _,⟨_,rfl⟩,q⟩
theorem j7:iM X (.type "tuple") (λxs H Q => ∃ p ys,xs=[.ref p]/\((Oq X.K H p ys/\∀ l,H l=a4->Q (.ref l) (upd H l (.tup ys)))∨(O2 X.K H p ys/\Q (.ref p) H))):=by
 intro a s j H xs t Q I r h;obtain⟨p,ys,rfl,h⟩:=h;obtain⟨u,rfl,m⟩:=vals1 r;cases m;rcases h with ⟨d,q⟩ |⟨d,q⟩
 ·obtain⟨its,f,pl,i⟩:=I.list d;have g:=f.length;refine call_tuple_list pl.isList (λc kp=>?_) (by simp only[f5]<;>omega);have k:Inv X a j H { s with heap:=c }:=I.kept (t':=s.toks) kp
  have n:Inv X a j (upd H c.objs.size (.tup ys)) { s with heap:=c.push { cls:=.type "tuple",data:=.seq its.toArray } }:=
   k.laid (t':=s.toks) (λb o e=>a9 _ e) (e9 _) (show L9 X.prog X.w _ _ _ (.tup ys) from⟨i,its,f,O5.new _ _⟩)
  exact⟨.ref c.objs.size,_,n,rfl,q _ (k.LW.fresh (e9 _))⟩
 obtain⟨its,f,pl,i⟩:=I.tuple d;exact call_tuple_same pl ⟨.ref p,H,I,rfl,q⟩
def V8 (K:Ll)(T:Uk)(x:V)(H:Hp):Prop:=match x with
 | .str _=>T="str"
 | .int _=>T="int"
 | .ref p=>(T="list"/\∃ b,Oq K H p b)∨(T="tuple"/\((∃ o,K.lookup p=ag o/\o.cls = .type "tuple"/\o.dict=a4)∨∃ b,Rd H p (.tup b))) ∨
   (T="dict"/\((∃ a,H p=ag (.dK a))∨∃ a,H p=ag (.dT a)))∨(T="set"/\∃ S n,H p=ag (.set S n))
 |_=>False
theorem F8 {f:Ln}{j:St}{H:Hp}{s:bo}{T:Uk}{x:V}{v:ax}(I:Inv X f j H s)(r:RelV x v)(ty:V8 X.K T x H) :
  s.TypeIs v T/\∀ a,v = .ref a->∃ h,s.heap.get? a=ag h/\h.dict=a4:=by
 cases x with
 |str z =>
  obtain⟨t,rfl⟩:=r;cases (show T="str" from ty);exact⟨typeIs_str s z t,λ_ e=>nomatch e⟩
 |int i =>
  obtain⟨t,rfl⟩:=r;cases (show T="int" from ty);exact⟨adQ s i t,λ_ e=>nomatch e⟩
 |ref p =>
  cases r;rcases ty with ⟨rfl,k,l⟩ |⟨rfl,⟨o,b,hc,hd⟩ |⟨k,hr⟩⟩ |⟨rfl,b⟩ |⟨rfl,S,n,b⟩
  ·obtain⟨its,_,pl,_⟩:=I.list l;refine⟨pl.isList.typeIs,λa e=>?_⟩;cases e;obtain⟨o,n,e,c,hd,_⟩:=pl;exact⟨o,e,hd⟩
  ·refine⟨⟨o,I.Pq p o b,hc⟩,λa e=>?_⟩;cases e;exact⟨o,I.Pq _ o b,hd⟩
  ·obtain⟨_,its,_,n,e⟩:=hr.ok I.LW;refine⟨⟨_,e,rfl⟩,λa d=>?_⟩;cases d;exact⟨_,e,rfl⟩
  ·have z:∃ o,s.heap.get? p=ag o/\o.ExactDict:=by
    rcases b with ⟨g,b⟩ |⟨g,b⟩
    ·obtain⟨_,_,_,_,o,_,_,e,ex,_⟩:=I.LW p _ b;exact⟨o,e,ex⟩
    obtain⟨_,_,_,_,o,_,_,e,ex,_⟩:=I.LW p _ b;exact⟨o,e,ex⟩
   obtain⟨o,e,ex⟩:=z;refine⟨⟨o,e,ex.1⟩,λa d=>?_⟩;cases d;exact⟨o,e,ex.2.1⟩
  obtain⟨o,_,_,_,e,ex,_⟩:=I.LW p _ b;refine⟨⟨o,e,ex.1⟩,λa d=>?_⟩;cases d;exact⟨o,e,ex.2.1⟩
 |_=>exact Q1 ty
noncomputable def tBM (K:Ll)(T:Uk)(r:V->ak V->Hp->VK->Prop)(to:TE)(t:TA):TE:=λb H Q=>to b H λx a=>V8 K T x a/\t b a λd c=>r x d c Q
variable {o e:gy}{es:ak gy}{to:TE}{t:TA}{name:el}{apos L5:Ud}{T id:Uk}{r:V->ak V->Hp->VK->Prop}
theorem Cp (L:PlainAttrs T)(slot:Slot T name id)(b:typeOf (.builtin id)=wh (.type "method_descriptor"))(m:Yt X id r)(n:PE X o to)(ha:PA X (e::es) t)
  (w:RK o name X.env (qa o X.env)=qa o X.env:=by rfl)
  (F:((rb L5 (ek (e::es) X.env)).all (λx => !x.1)&&(WS L5 (S7 [] X.env)).all (λx=>x.1.isSome)
   && ei ((e::es).length+([]:ak Wu).length+(if ([]:ak Wu).isEmpty then 0 else 1)<30))=a6:=by rfl)
  (A:(apos.endLine==L5.line)=a6:=by rfl) (k:ek (e::es) X.env=(a8,qa e X.env)::ek es X.env:=by rfl) (B:(rb L5 (ek es X.env)).any (·.1)=a8:=by rfl) :
  PE X (.Call (.Attribute o name apos) (e::es) [] L5) (tBM X.K T r to t):=by
 intro a s c H Q I h;refine wpAny_Call_method_late w F A rfl (LO (n a s c H _ I h) λv q i=>?_);obtain⟨x,J,g,f,ty,j⟩:=i;obtain⟨C,D⟩:=F8 g f ty;refine⟨T,id,L,slot,b,C,D,?_⟩;have d:=ha L5 a q c J _ g j;rw[k] at d ⊢;refine Calls.callWith_builtin (by show (a8 ||(rb L5 (ek es X.env)).any (·.1))=a8;rw[B]<;>rfl) (Calls.evalArgs_plain ?_);exact LO d λz G ⟨l,E,y,p,u⟩=>m a G c E x l v z Q y f p u
end
def MtM (X:Cx)(id:Uk)(r:V->ak V->Hp->VK->Prop):Prop:=
 ∀ (a:Ln) (s:bo) (b:St) (H:Hp) (x:V) (c:ak V) (v:ax) (d:ak ax) (Q:VK),Inv X a b H s->RelV x v->Vals c d->r x c H Q ->
  dr #[8] X.A (call (.builtin id) (v::d)) (EP X a b Q) X.xe s
theorem Vals.one:∀ {x:V}{us:ak ax},Vals [x] us->∃ u,us=[u]/\RelV x u
 |_,_,.cons r .nil=>⟨_,rfl,r⟩
theorem Vals.rep {xs:ak V}{us:ak ax}(h:Vals xs us):∀ k:Nat,Vals (eh k xs).flatten (eh k us).flatten
 | 0 => .nil
 |k+1=>by
  rw[L3,L3,Uy,Uy];exact Vals.append h (Vals.rep h k)
theorem foldl_rep (its:ak ax):∀ (k:Nat) (a:ak ax),
  WC (λx1 x2=>x1++x2) a.toArray (eh k its.toArray)=(a++(eh k its).flatten).toArray
 | 0,a=>by simp
 |k+1,a=>by
  have e:a.toArray++its.toArray=(a++its).toArray:=by simp
  have b:(a++its)++(eh k its).flatten=a++(eh (k+1) its).flatten:=by rw[L3,Uy,j0]
  rw[← b,← foldl_rep its k (a++its),← e,L3,Pw]
section
variable {X:Cx}{pins:Ln}{σ:St}{H:Hp}{s:bo}{l b:bc}{xs ys zs:ak V}
theorem Inv.Yu {its its':ak ax}{n:Nat}{f:hO ax->hO ax}{t':Nat}(I:#[10])(a:H l=ag (.lst xs))
  (e:s.heap.get? l=ag { cls:=#[14],data:=.seq its.toArray n }) (d:f its.toArray=its'.toArray) (c:Vals ys its') (hz:ys.length<=da) :
  Inv X pins σ (upd H l (.lst ys)) { s with heap:=s.heap.update l (Tx f),toks:=t' }:=by
 have q:=ac5 e f;rw[d] at q;refine I.write (x:=l) (e:=l) (by rw[a];exact TC) (#[9]) (λg u hb b=>(Ux s.heap (Tx f) (kg hb)).trans b) ⟨_,q⟩ ?_;exact⟨hz,its',_,c,q⟩
theorem Inv.Yv {its:ak ax}{t':Nat}(I:#[10])(a:Vals ys its)(hz:ys.length<=da) :
  Inv X pins σ (upd H s.heap.objs.size (.lst ys)) { s with heap:=s.heap.push { cls:=#[14],data:=.seq its.toArray },toks:=t' }:=
 I.laid (λ_ _ q=>a9 _ q) (e9 _) ⟨hz,its,0,a,er _ rfl⟩
theorem Inv.fresh (I:#[10]):H s.heap.objs.size=a4:=I.LW.fresh (e9 _)
theorem Inv.Yw (I:#[10])(a:H l=ag (.lst xs)):xs.length<=da/\∃ (its:ak ax) (n:Nat),Vals xs its/\xs.length=its.length/\s.heap.get? l=ag { cls:=#[14],data:=.seq its.toArray n }:=by obtain⟨z,its,n,r,e⟩:=I.LW l _ a;exact⟨z,its,n,r,r.length,e⟩
end
section
variable {X:Cx}
def Ei:V->ak V->Hp->VK->Prop:=λx b H Q => ∃ l a y,x = .ref l/\b=[y]/\H l=ag (.lst a)/\a.length<da/\Q .LR (upd H l (.lst (a++[y])))
theorem AX:MtM X "list.append" Ei:=by intro b s k H x j v o Q I d c h;obtain⟨l,m,y,rfl,rfl,a,i,q⟩:=h;cases d;obtain⟨u,rfl,f⟩:=c.one;obtain⟨z,its,n,r,g,e⟩:=I.Yw a;refine aaW F.slot_list_append ⟨_,e,rfl⟩ F.entry_list_append (F.args_list_append_2 _ _) (acK l its.toArray n u (by rw[f5];omega)) ⟨e,?_⟩;refine⟨.LR,_,I.Yu (its':=its++[u]) a e #[3] (r.append (.cons f .nil)) ?_,rfl,q⟩;rw[cv,T2];omega
theorem len_rep {α:Type}(xs:ak α)(k:Nat):(eh k xs).flatten.length=k*xs.length:=by
 induction k with
 |zero=>simp
 |succ k a=>rw[L3,Uy,cv,a,Nat.succ_mul,Nat.add_comm]
end
inductive D where
 |LR |bl (b:eM) |int (i:Int) |str (x:el)
 |tup (xs:ak D) |lst (xs:ak D) |set (xs:ak D) |loc (l:Nat) |fn (x:el) (st:qb)
 deriving Inhabited
def TQ (K:Ll)(H:Hp)(J:ak bc)(a:bc)(xs:ak V):Prop:=
 (Rd H a (.tup xs)/\a∉J/\xs.length<=da)∨∃ (o:Obj) (its:hO ax) (n:Nat),K.lookup a=ag o/\o.cls = .type "tuple"/\o.dict=a4/\o.data = .seq its n/\its.size<=da/\Vals xs its.toList
def LQ (K:Ll)(H:Hp)(J:ak bc)(a:bc)(xs:ak V):Prop:=
 (Rd H a (.lst xs)/\a∉J/\xs.length<=da)∨∃ (o:Obj) (its:hO ax) (n:Nat),K.lookup a=ag o/\o.cls = #[14]/\o.dict=a4/\o.data = .seq its n/\its.size<=da/\Vals xs its.toList
theorem TQ.sq {K:Ll}{H:Hp}{J:ak bc}{a:bc}{xs:ak V}(h:TQ K H J a xs):O2 K H a xs:=h.elim (λz => .inl z.1) λ⟨o,its,n,a,b,_,c⟩ => .inr ⟨o,its,n,a,b,c⟩
theorem LQ.sq {K:Ll}{H:Hp}{J:ak bc}{a:bc}{xs:ak V}(h:LQ K H J a xs):Oq K H a xs:=h.elim (λz => .inl z.1) .inr
noncomputable def HN (a:bc)(us:ak ax):HO:=HO.ext λh => ∃ o es ep t,h.get? a=ag o/\o.ExactSet/\o.data = .set es ep t/\(es.toList.map (·.2))=us/\t.fits es.size=a6/\es.size<=da
def Te (x:el):Prop:=x.length<=da/\E1 x=a6
mutual
def At (K:Ll)(H:Hp)(J:ak bc):D->V->Prop
 | .LR,v=>v = .LR
 | .bl b,v=>v = .bl b
 | .int i,v=>v = .int i
 | .str x,v=>v = .str x/\Te x
 | .tup d,v => ∃ a c,v = .ref a/\TQ K H J a c/\Ly K H J d c
 | .lst d,v => ∃ a c,v = .ref a/\LQ K H J a c/\Ly K H J d c
 | .set d,v => ∃ a e c,v = .ref a/\H a=ag (HN a e)/\a∉J/\Vals c e/\Ly K H J d c
 | .loc l,v => ∃ a,v = .ref a/\J[l]?=ag a
 | .fn x st,v => ∃ f fd,v = .ref f/\QX K x x st f fd
def Ly (K:Ll)(H:Hp)(J:ak bc):ak D->ak V->Prop
 |[],vs=>vs=[]
 |d::ds,vs => ∃ v r,vs=v::r/\At K H J d v/\Ly K H J ds r
end
structure Ex (J:ak bc) (H:Hp) (J':ak bc) (H':Hp):Prop where
 pre:J <+: J'
 keep:∀ b o,H b=ag o->b∉J->H' b=ag o/\b∉J'
theorem Ex.refl {J:ak bc}{H:Hp}:Ex J H J H:=⟨abw _,λ_ _ h n=>⟨h,n⟩⟩
theorem Ex.trans {J f e:ak bc}{H g d:Hp}(a:Ex J H f g)(b:Ex f g e d):Ex J H e d:=
 ⟨a.pre.trans b.pre,λc o h n=>let ⟨i,n1⟩:=a.keep c o h n;b.keep c o i n1⟩
theorem Ex.same {J:ak bc}{H H':Hp}(s:LH H H'):Ex J H J H':=⟨abw _,λb o h n=>⟨s b o h,n⟩⟩
section
variable {K:Ll}{H H':Hp}{J J':ak bc}
theorem Rd.ex {a:bc}{u:HO}(e:Ex J H J' H')(h:Rd H a u)(n:a∉J):Rd H' a u/\a∉J':=by
 rcases h with h |⟨o,h⟩
 ·exact⟨.inl (e.keep a _ h n).1,(e.keep a _ h n).2⟩
 exact⟨.inr ⟨o,(e.keep a _ h n).1⟩,(e.keep a _ h n).2⟩
theorem TQ.ex {a:bc}{xs:ak V}(e:Ex J H J' H')(h:TQ K H J a xs):TQ K H' J' a xs:=h.elim (λz => .inl ⟨(z.1.ex e z.2.1).1,(z.1.ex e z.2.1).2,z.2.2⟩) .inr
theorem LQ.ex {a:bc}{xs:ak V}(e:Ex J H J' H')(h:LQ K H J a xs):LQ K H' J' a xs:=h.elim (λz => .inl ⟨(z.1.ex e z.2.1).1,(z.1.ex e z.2.1).2,z.2.2⟩) .inr
theorem TQ.len {a:bc}{xs:ak V}(h:TQ K H J a xs):xs.length<=da:=by
 rcases h with ⟨_,_,z⟩ |⟨o,its,n,_,_,_,_,z,r⟩
 ·exact z
 have e:=Vals.length r;simp only[gz] at e;omega
theorem LQ.len {a:bc}{xs:ak V}(h:LQ K H J a xs):xs.length<=da:=by
 rcases h with ⟨_,_,z⟩ |⟨o,its,n,_,_,_,_,z,r⟩
 ·exact z
 have e:=Vals.length r;simp only[gz] at e;omega
theorem om {α:Type}{l a:ak α}(h:l <+: a){i:Nat}{x : α}(e:l[i]?=ag x):a[i]?=ag x:=by obtain⟨t,rfl⟩:=h;rw[h7 (ba.mp e).1];exact e
mutual
theorem At.ex (e:Ex J H J' H'):∀ {d:D}{v:V},At K H J d v->At K H' J' d v
 | .LR,_,h=>by unfold At at h ⊢;exact h
 | .bl _,_,h=>by unfold At at h ⊢;exact h
 | .int _,_,h=>by unfold At at h ⊢;exact h
 | .str _,_,h=>by unfold At at h ⊢;exact h
 | .tup c,_,h=>by unfold At at h ⊢;obtain⟨a,b,rfl,q,r⟩:=h;exact⟨a,b,rfl,q.ex e,Ly.ex e r⟩
 | .lst c,_,h=>by unfold At at h ⊢;obtain⟨a,b,rfl,q,r⟩:=h;exact⟨a,b,rfl,q.ex e,Ly.ex e r⟩
 | .set c,_,h=>by unfold At at h ⊢;obtain⟨a,f,b,rfl,q,n,r,z⟩:=h;exact⟨a,f,b,rfl,(e.keep a _ q n).1,(e.keep a _ q n).2,r,Ly.ex e z⟩
 | .loc l,_,h=>by unfold At at h ⊢;obtain⟨a,rfl,q⟩:=h;exact⟨a,rfl,om e.pre q⟩
 | .fn _ _,_,h=>by unfold At at h ⊢;exact h
theorem Ly.ex (e:Ex J H J' H'):∀ {ds:ak D}{vs:ak V},Ly K H J ds vs->Ly K H' J' ds vs
 |[],_,h=>by unfold Ly at h ⊢;exact h
 |d::ds,_,h=>by unfold Ly at h ⊢;obtain⟨v,r,rfl,p,q⟩:=h;exact⟨v,r,rfl,At.ex e p,Ly.ex e q⟩
end
theorem At.Mf {v:V}:At K H J .LR v↔v = .LR:=by unfold At;exact YK
theorem At.LZ {b:eM}{v:V}:At K H J (.bl b) v↔v = .bl b:=by unfold At;exact YK
theorem At.Lu {i:Int}{v:V}:At K H J (.int i) v↔v = .int i:=by unfold At;exact YK
theorem At.LK {x:el}{v:V}:At K H J (.str x) v↔v = .str x/\Te x:=by unfold At;exact YK
theorem At.LF {ds:ak D}{v:V}:At K H J (.tup ds) v↔∃ a xs,v = .ref a/\TQ K H J a xs/\Ly K H J ds xs:=by unfold At;exact YK
theorem At.LG {ds:ak D}{v:V}:At K H J (.lst ds) v↔∃ a xs,v = .ref a/\LQ K H J a xs/\Ly K H J ds xs:=by unfold At;exact YK
theorem At.OA {ds:ak D}{v:V}:At K H J (.set ds) v↔∃ a us xs,v = .ref a/\H a=ag (HN a us)/\a∉J/\Vals xs us/\Ly K H J ds xs:=by unfold At;exact YK
theorem At.LI {l:Nat}{v:V}:At K H J (.loc l) v↔∃ a,v = .ref a/\J[l]?=ag a:=by unfold At;exact YK
theorem At.RS {x:el}{st:qb}{v:V}:At K H J (.fn x st) v↔∃ f fd,v = .ref f/\QX K x x st f fd:=by unfold At;exact YK
theorem Ly.Lz {vs:ak V}:Ly K H J [] vs↔vs=[]:=by unfold Ly;exact YK
theorem Ly.Lv {d:D}{ds:ak D}{vs:ak V}:Ly K H J (d::ds) vs↔∃ v r,vs=v::r/\At K H J d v/\Ly K H J ds r:=by
 rw[5]
 ·intro h;unfold Ly at h;exact h
 intro h;unfold Ly;exact h
theorem Ly.nil:Ly K H J [] []:=Ly.Lz.mpr rfl
theorem Ly.cons {d:D}{v:V}{ds:ak D}{vs:ak V}(h:At K H J d v)(r:Ly K H J ds vs):Ly K H J (d::ds) (v::vs):=Ly.Lv.mpr ⟨v,vs,rfl,h,r⟩
theorem Ly.LA {d:D}{v:V}{ds:ak D}{vs:ak V}(h:Ly K H J (d::ds) (v::vs)):At K H J d v/\Ly K H J ds vs:=by obtain⟨_,_,e,p,q⟩:=Ly.Lv.mp h;cases e;exact⟨p,q⟩
theorem Ly.length:∀ {ds:ak D}{vs:ak V},Ly K H J ds vs->ds.length=vs.length
 |[],_,h=>by rw[Ly.Lz.mp h];rfl
 |d::ds,_,h=>by obtain⟨v,r,rfl,_,q⟩:=Ly.Lv.mp h;rw[hG,hG,Ly.length q]
theorem Ly.append:∀ {ds es:ak D}{vs us:ak V},Ly K H J ds vs->Ly K H J es us->Ly K H J (ds++es) (vs++us)
 |[],_,_,_,h,k=>by rw[Ly.Lz.mp h];exact k
 |d::ds,_,_,_,h,k=>by obtain⟨v,r,rfl,p,q⟩:=Ly.Lv.mp h;exact .cons p (Ly.append q k)
theorem Ly.get:∀ {ds:ak D}{vs:ak V}{i:Nat}{d:D},Ly K H J ds vs->ds[i]?=ag d->∃ v,vs[i]?=ag v/\At K H J d v
 |[],_,_,_,_,e=>by simp at e
 |d::ds,_,0,_,h,e=>by obtain⟨v,r,rfl,p,q⟩:=Ly.Lv.mp h;simp at e;subst e;exact⟨v,rfl,p⟩
 |d::ds,_,i+1,_,h,e=>by obtain⟨v,r,rfl,p,q⟩:=Ly.Lv.mp h;exact Ly.get (i:=i) q (by simpa using e)
theorem Ly.get':∀ {ds:ak D}{vs:ak V}{i:Nat}{v:V},Ly K H J ds vs->vs[i]?=ag v->∃ d,ds[i]?=ag d/\At K H J d v
 |[],_,_,_,h,e=>by rw[Ly.Lz.mp h] at e;simp at e
 |d::ds,_,0,_,h,e=>by obtain⟨v,r,rfl,p,q⟩:=Ly.Lv.mp h;simp at e;subst e;exact⟨d,rfl,p⟩
 |d::ds,_,i+1,_,h,e=>by obtain⟨v,r,rfl,p,q⟩:=Ly.Lv.mp h;exact Ly.get' (i:=i) q (by simpa using e)
theorem Ly.take:∀ {ds:ak D}{vs:ak V}(n:Nat),Ly K H J ds vs->Ly K H J (ds.take n) (vs.take n)
 |_,_,0,_=>by simpa using Ly.nil
 |[],_,_+1,h=>by rw[Ly.Lz.mp h];simpa using Ly.nil
 |d::ds,_,n+1,h=>by obtain⟨v,r,rfl,p,q⟩:=Ly.Lv.mp h;exact .cons p (Ly.take n q)
theorem Ly.drop:∀ {ds:ak D}{vs:ak V}(n:Nat),Ly K H J ds vs->Ly K H J (ds.drop n) (vs.drop n)
 |_,_,0,h=>h
 |[],_,_+1,h=>by rw[Ly.Lz.mp h];simpa using Ly.nil
 |d::ds,_,n+1,h=>by obtain⟨v,r,rfl,p,q⟩:=Ly.Lv.mp h;exact Ly.drop n q
theorem Ly.rep {ds:ak D}{vs:ak V}(h:Ly K H J ds vs):∀ k:Nat,Ly K H J (eh k ds).flatten (eh k vs).flatten
 | 0=>Ly.nil
 |k+1=>by rw[L3,L3,Uy,Uy];exact h.append (Ly.rep h k)
theorem Ly.ofInts:∀ (ns:ak Int),Ly K H J (ns.map D.int) (ns.map V.int)
 |[] => .nil
 |n::ns => .cons (#[18]) (Ly.ofInts ns)
theorem Ly.Oa:∀ {ns:ak Int}{vs:ak V},Ly K H J (ns.map D.int) vs->vs=ns.map V.int
 |[],_,h=>Ly.Lz.mp h
 |n::ns,_,h=>by obtain⟨v,r,rfl,p,q⟩:=Ly.Lv.mp h;rw[At.Lu.mp p,Ly.Oa q];rfl
end
mutual
def toPy:D->a5 hA
 | .LR=>ag .none
 | .bl b=>ag (.bool b)
 | .int i=>ag (.int i)
 | .str x=>ag (.str x)
 | .tup a=>(cg a).map .tuple
 | .lst a=>(cg a).map .list
 | .set _=>a4
 | .loc _=>a4
 | .fn _ _=>a4
def cg:ak D->a5 (ak hA)
 |[]=>ag []
 |d::ds=>(toPy d).bind λp=>(cg ds).map λr=>p::r
end
inductive MO where
 |dict (kvs:ak (D×D)) |lst (xs:ak D) |exc (c:el) |LL (kvs:ak (D×D)) |ins (c:el) (fs:ak (el×D)) |tab (x q:el) |UH (lam:gy) (q n:el) (d:D)
 deriving Inhabited
abbrev Lq:=ak MO
noncomputable def fN:D->a5 Key
 | .int i=>ag (.inl i)
 | .str x=>ag (.inr x)
 |_=>a4
noncomputable def ExO (a C:bc):HO:=HO.ext λh => ∃ o,h.get? a=ag o/\o.cls = .ref C
noncomputable def DJ (c:bc)(q:el):HO:=HO.ext λh => ∃ o a t,h.get? c=ag o/\o.data = .fields a/\a[1]?=ag (.str q t)
noncomputable def Jv (a:bc)(o:Obj):HO:=HO.ext λh=>h.get? a=ag o
structure V9 (H:Hp) (J:ak bc) (params:XO) (body:gy) (scope:ku) (q n:el) (a c c':bc) (pm QY:ax) (oc:Obj) (u:ax):Prop where
 fn:H a=ag (Jv a (PySem.W.kla_obj "<lambda>" q params body scope [(n,c)] pm c' QY))
 cj:c'∉J
 cd:H c'=ag (DJ c' q)
 nj:c∉J
 cl:H c=ag (Jv c oc)
 dt:oc.data = .cell (ag u)
def KC (H:Hp)(J:ak bc)(q:el)(a:hO ax):Prop:=TriplesOk a.toList/\∀ pos b,codeAmong pos a.toList=ag b->∃ c,b = .ref c/\c∉J/\H c=ag (DJ c q)
noncomputable def fM (d:D):a5 hA:=(toPy d).bind λp=>if keyOk 8 p=a6 then ag p else a4
abbrev QZ (K:Ll)(H:Hp)(J:ak bc):(D×D)->(hA×bc×V)->Prop:=λp q=>(fM p.1=ag q.1/\At K H J p.1 (.ref q.2.1))/\At K H J p.2 q.2.2
abbrev XB (K:Ll)(H:Hp)(J:ak bc):(el×D)->(el×V)->Prop:=λp q=>p.1=q.1/\At K H J p.2 q.2
noncomputable def Rz (K:Ll)(H:Hp)(J:ak bc):MO->bc->Prop
 | .lst i,a => ∃ h,H a=ag (.lst h)/\Ly K H J i h
 | .dict e,a => ∃ b:ak (Key×V),H a=ag (.dK b)/\lC (λ(p:D×D) (q:Key×V)=>(fN p.1=ag q.1/\At K H J p.1 (kV q.1))/\At K H J p.2 q.2) e b
 | .exc c,a => ∃ C,RE K my c=ag (ag (.ref C))/\H a=ag (ExO a C)
 | .LL e,a => ∃ b:ak (hA×bc×V),H a=ag (.dN b)/\lC (QZ K H J) e b
 | .ins c fs,a => ∃ C m g,RE K my c=ag (ag (.ref C))/\H a=ag (.ins C m g)/\lC (XB K H J) fs g
 | .UH f q n d,a => ∃ params body scope pos c j k l o u v,f = .Lambda params body scope pos/\V9 H J params body scope q n a c j k l o u/\RelV v u/\At K H J d v
 | .tab x q,a => ∃ c b,PySem.W.tabIn K x=ag (c,a)/\H a=ag (.TH b)/\KC H J q b
structure LX (K:Ll) (J:ak bc) (S:Lq) (H:Hp):Prop where
 len:J.length=S.length
 nd:J.Nodup
 at_:∀ (l:Nat) (a:bc) (o:MO),J[l]?=ag a->S[l]?=ag o->Rz K H J o a
section
variable {K:Ll}{H H':Hp}{J J':ak bc}{S:Lq}
theorem Rz.Px {o:MO}{a:bc}(h:Rz K H J o a):H a≠a4:=by
 cases o with
 |dict b=>obtain⟨_,e,_⟩:=h;rw[e];simp
 |lst g=>obtain⟨_,e,_⟩:=h;rw[e];simp
 |exc c=>obtain⟨_,_,e⟩:=h;rw[e];simp
 |LL b=>obtain⟨_,e,_⟩:=h;rw[e];simp
 |ins c fs=>obtain⟨_,_,_,_,e,_⟩:=h;rw[e];simp
 |tab x q=>obtain⟨_,_,_,e,_⟩:=h;rw[e];simp
 |UH f q n d=>obtain⟨_,_,_,_,_,_,_,_,_,_,_,_,e,_⟩:=h;rw[e.fn];simp
theorem LX.tracked (s:LX K J S H){a:bc}(h:a∈J):H a≠a4:=by
 obtain⟨l,e⟩:=m7 h;have b:l<S.length:=by rw[← s.len];exact(ba.mp e).1
 exact(s.at_ l a _ e (a7 b)).Px
theorem Rz.ex {o:MO}{a:bc}(e:Ex J H J' H')(k:H' a=H a)(h:Rz K H J o a):Rz K H' J' o a:=by
 cases o with
 |dict i=>obtain⟨g,q,r⟩:=h;exact⟨g,k.trans q,Paired.Pn r λp q z=>⟨⟨z.1.1,z.1.2.ex e⟩,z.2.ex e⟩⟩
 |lst O=>obtain⟨D,q,r⟩:=h;exact⟨D,k.trans q,r.ex e⟩
 |exc c=>obtain⟨C,q,r⟩:=h;exact⟨C,q,k.trans r⟩
 |LL i=>obtain⟨g,q,r⟩:=h;exact⟨g,k.trans q,Paired.Pn r λp q z=>⟨⟨z.1.1,z.1.2.ex e⟩,z.2.ex e⟩⟩
 |ins c fs=>obtain⟨C,B,A,n,q,r⟩:=h;exact⟨C,B,A,n,k.trans q,Paired.Pn r λp q z=>⟨z.1,z.2.ex e⟩⟩
 |UH M q n d =>
  obtain⟨N,y,sc,po,c,f,w,t,I,u,v,l,b,E,m⟩:=h;exact⟨N,y,sc,po,c,f,w,t,I,u,v,l,⟨k.trans b.fn,(e.keep f _ b.cd b.cj).2,(e.keep f _ b.cd b.cj).1,(e.keep c _ b.cl b.nj).2,(e.keep c _ b.cl b.nj).1,b.dt⟩,E,m.ex e⟩
 |tab x q =>
  obtain⟨c,g,n,s,F,G⟩:=h;exact⟨c,g,n,k.trans s,F,λpos L b=>let ⟨f,z1,z2,j⟩:=G pos L b;⟨f,z1,(e.keep f _ j z2).2,(e.keep f _ j z2).1⟩⟩
theorem LX.same (s:LX K J S H)(e:LH H H'):LX K J S H':=⟨s.len,s.nd,λl a o c d=>by
 have q:=s.at_ l a o c d;refine q.ex (Ex.same e) ?_;obtain⟨u,b⟩:=Option.ne_none_iff_exists'.mp q.Px
 rw[b];exact e a u b⟩
end
theorem aO {H:Hp}{p:bc}(h:H p=a4)(o:HO):LH H (upd H p o):=λb u q=>by rw[aH (aM q h)];exact q
abbrev Lr:=ak (a5 D)
abbrev Out (α:Type):=a5 (Except el α×Lq)
abbrev Lk(α:Type):=Lr->Lq->Out α
abbrev Lp:=ak D->Lq->Out D
abbrev WT:=el->ak bc->Lq->Hp->Prop
noncomputable def ai {α b:Type}(m:Out α) (k : α->Lq->Out b):Out b:=
 match m with
 |a4=>a4
 |ag (.error c,S)=>ag (.error c,S)
 |ag (.ok a,S)=>k a S
noncomputable def LB {α:Type}(a : α) (S:Lq):Out α:=ag (.ok a,S)
@[simp] theorem eI {α b:Type}(a : α)(S:Lq)(k : α->Lq->Out b):ai (LB a S) k=k a S:=rfl
@[simp] theorem fF {α b:Type}(a : α)(S:Lq)(k : α->Lq->Out b):ai (ag (.ok a,S)) k=k a S:=rfl
@[simp] theorem H9 {α a:Type}(c:el)(S:Lq)(k : α->Lq->Out a):ai (ag (.error c,S)) k=ag (.error c,S):=rfl
@[simp] theorem HE {α a:Type}(k : α->Lq->Out a):ai a4 k=a4:=rfl
noncomputable def aL {α:Type}(a:a5 α) (S:Lq):Out α:=a.map λa=>(.ok a,S)
@[simp] theorem bF {α:Type}(a : α)(S:Lq):aL (ag a) S=LB a S:=rfl
@[simp] theorem HY {α:Type}(S:Lq):aL (a4:a5 α) S=a4:=rfl
structure Cf (X:Cx) (J:ak bc) (ρ:Lr) (S:Lq) (σ:St) (H:Hp):Prop where
 len : ρ.length = σ.length
 env:∀ (i:Nat) (d:D),ρ[i]?=ag (ag d)->∃ v,σ[i]?=ag (ag v)/\At X.K H J d v
 L0:LX X.K J S H
theorem Cf.re {X:Cx}{J a:ak bc}{ρ:Lr}{S b:Lq}{f:St}{H H':Hp}(c:Cf X J ρ S f H)(e:Ex J H a H')(s:LX X.K a b H'):Cf X a ρ b f H':=
 ⟨c.len,λi d h=>let ⟨v,g,j⟩:=c.env i d h;⟨v,g,j.ex e⟩,s⟩
def KD {α g:Type}(X:Cx)(W:WT)(R:ak bc->Hp->α->g->Prop)(J:ak bc)(H:Hp)(r:Except el α)(f:Lq)(Q : g->Hp->Prop):Prop:=
 match r with
 | .ok a => ∀ e d b,Ex J H e d->LX X.K e f d->R e d a b->Q b d
 | .error c => ∀ e d,Ex J H e d->LX X.K e f d->W c e f d
def tG {α c:Type}(X:Cx)(W:WT)(R:ak bc->Hp->α->c->Prop)(ds:ak D)(vs:ak V)(g:Lk α):St->Hp->(c->Hp->Prop)->Prop:=λd H Q =>
 ∃ J b S r a,Cf X J b S d H/\Ly X.K H J ds vs/\g b S=ag (r,a)/\KD X W R J H r a Q
abbrev RD (X:Cx):ak bc->Hp->D->V->Prop:=λJ H d v=>At X.K H J d v
abbrev RDs (X:Cx):ak bc->Hp->ak D->ak V->Prop:=λJ H d v=>Ly X.K H J d v
abbrev RB:ak bc->Hp->eM->eM->Prop:=λ_ _ a b=>a=b
noncomputable def tE (X:Cx)(W:WT)(g:Lk D):TE:=tG X W (RD X) [] [] g
noncomputable def tA (X:Cx)(W:WT)(g:Lk (ak D)):TA:=tG X W (RDs X) [] [] g
noncomputable def tT (X:Cx)(W:WT)(g:Lk eM):TT:=tG X W RB [] [] g
def SE (X:Cx)(W:WT)(e:gy)(g:Lk D):Prop:=PE X e (tE X W g)
def SA (X:Cx)(W:WT)(es:ak gy)(g:Lk (ak D)):Prop:=PA X es (tA X W g)
def OI (X:Cx)(W:WT)(e:gy)(g:Lk eM):Prop:=PT X e (tT X W g)
def SW (X:Cx)(W:WT)(e:gy)(g:Lk eM):Prop:=PW X e (tT X W g)
theorem PE.imp {X:Cx}{e:gy}{t t':TE}(h:PE X e t)(i:∀ b H Q,t' b H Q->t b H Q):PE X e t':=λa s b H Q I z=>h a s b H Q I (i b H Q z)
theorem PT.imp {X:Cx}{e:gy}{t t':TT}(h:PT X e t)(i:∀ b H Q,t' b H Q->t b H Q):PT X e t':=λa s b H Q I z=>h a s b H Q I (i b H Q z)
theorem PW.imp {X:Cx}{e:gy}{t t':TT}(h:PW X e t)(i:∀ b H Q,t' b H Q->t b H Q):PW X e t':=λc a s b H Q I z=>h c a s b H Q I (i b H Q z)
theorem PA.imp {X:Cx}{e:ak gy}{t t':TA}(h:PA X e t)(i:∀ b H Q,t' b H Q->t b H Q):PA X e t':=λpos a s b H Q I z=>h pos a s b H Q I (i b H Q z)
section
variable {X:Cx}{W:WT}{α β γ:Type}{R:ak bc->Hp->γ->β->Prop}
theorem tG.LC {l:Lk D}{k:D->Lk γ}{ds:ak D}{vs:ak V}{j:St}{H:Hp}{Q : β->Hp->Prop}
  (h:tG X W R ds vs (λρ S=>ai (l ρ S) λd f=>k d ρ f) j H Q):tE X W l j H λv s => ∃ d,tG X W R (d::ds) (v::vs) (k d) j s Q:=by
 obtain⟨J,ρ,S,r,t,c,a,e,z⟩:=h;cases q:l ρ S with
 |none=>simp[q] at e
 |some o =>
  obtain⟨u,f⟩:=o;simp only[q] at e;cases u with
  |error x =>
   cases e;exact⟨J,ρ,S,.error x,_,c,.nil,q,z⟩
  |ok d =>
   refine⟨J,ρ,S,.ok d,f,c,.nil,q,λA s v x y m=>⟨d,A,ρ,f,r,t,c.re x y,.cons m (a.ex x),e,?_⟩⟩;cases r with
   |ok g=>exact λi n b x2 p w=>z i n b (x.trans x2) p w
   |error g=>exact λi n x2 p=>z i n (x.trans x2) p
theorem tG.OJ {l:Lk (ak D)}{k:ak D->Lk γ}{ds:ak D}{vs:ak V}{j:St}{H:Hp}{Q : β->Hp->Prop}
  (h:tG X W R ds vs (λρ S=>ai (l ρ S) λd f=>k d ρ f) j H Q):tA X W l j H λus s => ∃ es,es.length=us.length/\tG X W R (es++ds) (us++vs) (k es) j s Q:=by
 obtain⟨J,ρ,S,r,t,c,a,e,z⟩:=h;cases q:l ρ S with
 |none=>simp[q] at e
 |some o =>
  obtain⟨u,f⟩:=o;simp only[q] at e;cases u with
  |error x =>
   cases e;exact⟨J,ρ,S,.error x,_,c,.nil,q,z⟩
  |ok d =>
   refine⟨J,ρ,S,.ok d,f,c,.nil,q,λA s v x y m=>⟨d,Ly.length m,A,ρ,f,r,t,c.re x y,Ly.append m (a.ex x),e,?_⟩⟩;cases r with
   |ok g=>exact λi n b x2 p w=>z i n b (x.trans x2) p w
   |error g=>exact λi n x2 p=>z i n (x.trans x2) p
theorem tG.Pe {l:Lk eM}{k:eM->Lk γ}{ds:ak D}{vs:ak V}{j:St}{H:Hp}{Q : β->Hp->Prop}
  (h:tG X W R ds vs (λρ S=>ai (l ρ S) λd f=>k d ρ f) j H Q):tT X W l j H λb s=>tG X W R ds vs (k b) j s Q:=by
 obtain⟨J,ρ,S,r,t,c,a,e,z⟩:=h;cases q:l ρ S with
 |none=>simp[q] at e
 |some o =>
  obtain⟨u,f⟩:=o;simp only[q] at e;cases u with
  |error x =>
   cases e;exact⟨J,ρ,S,.error x,_,c,.nil,q,z⟩
  |ok d =>
   refine⟨J,ρ,S,.ok d,f,c,.nil,q,λA s v x y m=>?_⟩;cases m;refine⟨A,ρ,f,r,t,c.re x y,a.ex x,e,?_⟩;cases r with
   |ok g=>exact λi n b x2 p w=>z i n b (x.trans x2) p w
   |error g=>exact λi n x2 p=>z i n (x.trans x2) p
end
section
variable {X:Cx}{pins:Ln}{σ:St}{H:Hp}{s:bo}{J:ak bc}
mutual
theorem At.reads (I:Inv X pins σ H s):∀ {d:D}{v:V}{u:ax}{p:hA},At X.K H J d v->RelV v u->toPy d=ag p->p.canLay0=a6/\∃ as,aaq s.heap u p as
 | .LR,_,_,_,h,r,e=>by
  have h:=At.Mf.mp h;subst h;simp[toPy] at e;subst e;cases r;exact⟨rfl,[],.none⟩
 | .bl b,_,_,_,h,r,e=>by
  have h:=At.LZ.mp h;subst h;simp[toPy] at e;subst e;cases r;exact⟨rfl,[],.bool b⟩
 | .int i,_,_,_,h,r,e=>by
  have h:=At.Lu.mp h;subst h;simp[toPy] at e;subst e;obtain⟨t,rfl⟩:=r;exact⟨rfl,[],.int i t⟩
 | .str x,_,_,_,h,r,e=>by
  obtain⟨ev,w⟩:=At.LK.mp h;subst ev;simp[toPy] at e;subst e;obtain⟨t,rfl⟩:=r;exact⟨by rw[UU];exact w.2,[],.str x t⟩
 | .tup m,_,_,_,h,r,e=>by
  obtain⟨a,y,rfl,q,z⟩:=At.LF.mp h;rw[toPy] at e;obtain⟨A,f,g⟩:=d7.mp e;subst g;cases r;obtain⟨its,j,⟨o,k,hc,n,hd⟩,_⟩:=I.tuple q.sq;obtain⟨c,as,l⟩:=Ly.readsAll I z j f;exact⟨by rw[UU];exact c,_,.tuple k hc hd (by simpa using l)⟩
 | .lst m,_,_,_,h,r,e=>by
  obtain⟨a,y,rfl,q,z⟩:=At.LG.mp h;rw[toPy] at e;obtain⟨A,f,g⟩:=d7.mp e;subst g;cases r;obtain⟨its,j,⟨o,n,k,hc,_,hd⟩,_⟩:=I.list q.sq;obtain⟨c,as,l⟩:=Ly.readsAll I z j f;exact⟨by rw[UU];exact c,_,.list k hc hd (by simpa using l)⟩
 | .set _,_,_,_,_,_,e=>by simp[toPy] at e
 | .loc _,_,_,_,_,_,e=>by simp[toPy] at e
 | .fn _ _,_,_,_,_,_,e=>by simp[toPy] at e
theorem Ly.readsAll (I:Inv X pins σ H s):∀ {ds:ak D}{vs:ak V}{us:ak ax}{a:ak hA},Ly X.K H J ds vs->Vals vs us->cg ds=ag a->wx a=a6/\∃ as,X1 s.heap us a as
 |[],_,_,_,h,r,e=>by
  have h:=Ly.Lz.mp h;subst h;simp[cg] at e;subst e;cases r;exact⟨rfl,[],.nil⟩
 |d::ds,_,_,_,h,r,e=>by
  obtain⟨v,vs,rfl,p,q⟩:=Ly.Lv.mp h;rw[cg] at e;obtain⟨t,b,f⟩:=hD.mp e;obtain⟨o,g,c⟩:=d7.mp f;subst c;cases r with
  |cons k l =>
   obtain⟨i,as,m⟩:=At.reads I p k b;obtain⟨j,bs,n⟩:=Ly.readsAll I q l g;exact⟨by rw[wx,i,j];rfl,_,.cons m n⟩
end
end
section
variable {K:Ll}
def Yx (K:Ll)(g:D->a5 D):V->Hp->VK->Prop:=λx H Q => ∃ J c d,(∀ a∈J,H a≠a4)/\At K H J c x/\g c=ag d/\∀ b v,LH H b->At K b J d v->Q v b
noncomputable def V_ (K:Ll)(g:D->D->a5 D):R2:=λx y H Q => ∃ J c e d,(∀ a∈J,H a≠a4)/\At K H J c x/\At K H J e y/\g c e=ag d/\∀ b v,LH H b->At K b J d v->Q v b
def Yy (K:Ll)(g:ak D->a5 D):ak V->Hp->VK->Prop:=λe H Q => ∃ J c d,(∀ a∈J,H a≠a4)/\Ly K H J c e/\g c=ag d/\∀ b v,LH H b->At K b J d v->Q v b
end
theorem zJ {H:Hp}{J:ak bc}(h:∀ a∈J,H a≠a4){p:bc}(n:H p=a4):p∉J:=λm=>h p m n
theorem At.Ni {K:Ll}{H:Hp}{J:ak bc}{p:bc}{ds:ak D}{xs:ak V}(h:Ly K H J ds xs)(n:H p=a4)(b:∀ a∈J,H a≠a4)(hz:xs.length<=da):At K (upd H p (.tup xs)) J (.tup ds) (.ref p):=
 At.LF.mpr ⟨p,xs,rfl,.inl ⟨.inl LD,zJ b n,hz⟩,h.ex (Ex.same (aO n _))⟩
theorem At.M0 {K:Ll}{H:Hp}{J:ak bc}{p:bc}{ds:ak D}{xs:ak V}(h:Ly K H J ds xs)(n:H p=a4)(b:∀ a∈J,H a≠a4)(hz:xs.length<=da):At K (upd H p (.lst xs)) J (.lst ds) (.ref p):=
 At.LG.mpr ⟨p,xs,rfl,.inl ⟨.inl LD,zJ b n,hz⟩,h.ex (Ex.same (aO n _))⟩
section
variable {X:Cx}{W:WT}
theorem tG.mono {α f:Type}{R:ak bc->Hp->α->f->Prop}{ds:ak D}{vs:ak V}{g:Lk α}{j:St}{H:Hp}{Q d : f->Hp->Prop}(h:tG X W R ds vs g j H Q)(i:∀ b H',Q b H'->d b H'):tG X W R ds vs g j H d:=by
 obtain⟨J,m,S,r,k,c,a,e,z⟩:=h;refine⟨J,m,S,r,k,c,a,e,?_⟩;cases r with
 |ok g=>exact λl H' b x s r=>i _ _ (z l H' b x s r)
 |error g=>exact z
theorem LX.all {K:Ll}{J:ak bc}{S:Lq}{H:Hp}(s:LX K J S H):∀ a∈J,H a≠a4:=λ_ m=>s.tracked m
theorem tG.Yz {g:D->a5 D}{b:D}{x:V}{i:St}{H:Hp}{Q:VK}(h:tG X W (RD X) [b] [x] (λ_ S=>aL (g b) S) i H Q):Yx X.K g x H Q:=by
 obtain⟨J,l,S,r,k,c,a,e,z⟩:=h;obtain⟨f,_⟩:=a.LA;cases q:g b with
 |none=>simp[q] at e
 |some d =>
  simp only[q,bF,LB] at e;cases e;exact⟨J,b,d,c.L0.all,f,q,λj v s m=>z J j v (Ex.same s) (c.L0.same s) m⟩
theorem tG.op2 {g:D->D->a5 D}{f b:D}{x y:V}{j:St}{H:Hp}{Q:VK}(h:tG X W (RD X) [b,f] [y,x] (λ_ S=>aL (g f b) S) j H Q):V_ X.K g x y H Q:=by
 obtain⟨J,o,S,r,n,c,a,e,z⟩:=h;obtain⟨l,a⟩:=a.LA;obtain⟨i,_⟩:=a.LA;cases q:g f b with
 |none=>simp[q] at e
 |some d =>
  simp only[q,bF,LB] at e;cases e;exact⟨J,f,b,d,c.L0.all,i,l,q,λk v s m=>z J k v (Ex.same s) (c.L0.same s) m⟩
theorem tG.opS {g:ak D->a5 D}{ds:ak D}{xs:ak V}{b:St}{H:Hp}{Q:VK}(h:tG X W (RD X) ds xs (λ_ S=>aL (g ds) S) b H Q):Yy X.K g xs H Q:=by
 obtain⟨J,j,S,r,i,c,a,e,z⟩:=h;cases q:g ds with
 |none=>simp[q] at e
 |some d =>
  simp only[q,bF,LB] at e;cases e;exact⟨J,ds,d,c.L0.all,a,q,λf v s m=>z J f v (Ex.same s) (c.L0.same s) m⟩
abbrev P4 (X:Cx)(f:ax->ax->Sem ax)(g:D->D->a5 D):Prop:=Pt X f (V_ X.K g)
abbrev UnD (X:Cx)(f:ax->Sem ax)(g:D->a5 D):Prop:=Xw X f (Yx X.K g)
abbrev j_ (X:Cx)(f:ax)(g:ak D->a5 D):Prop:=iM X f (Yy X.K g)
noncomputable def ah (i:Nat):Lk D:=λa S=>match a[i]? with
 |ag (ag d)=>LB d S
 |_=>a4
theorem aa {i:Nat}{x:el}{pos:Ud}(b:X.N[i]?=ag x:=by rfl)(f:VM X.env.scope x:=by first |exact abu rfl |exact aac (abu rfl) |exact aac (aac rfl))(hd:(x==("__debug__":el))=a8:=by decide)
  (a:(x==("__classdict__":el))=a8:=by decide):SE X W (.Name x pos) (ah i):=(Cj b f hd a).imp λk H Q h=>by
 obtain⟨J,m,S,r,l,c,_,e,z⟩:=h;unfold ah at e;rw[1]
 ·rename_i d q;obtain⟨v,g,j⟩:=c.env i d q;cases e;exact⟨v,g,z J H v Ex.refl c.L0 j⟩
 cases e
noncomputable def aG (d:D):Lk D:=λ_ S=>LB d S
theorem lT {d:D}{v:V}{b:St}{H:Hp}{Q:VK}(h:tE X W (aG d) b H Q)(a:∀ J,At X.K H J d v):Q v H:=by obtain⟨J,g,S,r,f,c,_,e,z⟩:=h;cases e;exact z J H v Ex.refl c.L0 (a J)
theorem ar {i j pos}:SE X W (.Constant (.int i) j pos) (aG (.int i)):=Ut.imp λa H Q h=>lT h λ_=>#[18]
theorem rf {b j pos}:SE X W (.Constant (.bool b) j pos) (aG (.bl b)):=VR.imp λa H Q h=>lT h λ_=>At.LZ.mpr rfl
theorem i0 {j pos}:SE X W (.Constant .none j pos) (aG .LR):=Uu.imp λa H Q h=>lT h λ_=>At.Mf.mpr rfl
theorem ko {x j pos}(a:Te x:=by exact⟨by decide,by decide⟩):SE X W (.Constant (.str x) j pos) (aG (.str x)):=Uv.imp λb H Q h=>lT h λ_=>At.LK.mpr ⟨rfl,a⟩
noncomputable def aI (g:D->D->a5 D)(b d:Lk D):Lk D:=λa S=>ai (b a S) λx e=>ai (d a e) λy c=>aL (g x y) c
noncomputable def RT (g:D->a5 D)(b:Lk D):Lk D:=λa S=>ai (b a S) λx c=>aL (g x) c
variable {a b c:gy}{fa fb fc:Lk D}{pos:Ud}
theorem l7 {g:D->D->a5 D}{a:St}{H:Hp}{Q:VK}(h:tE X W (aI g fa fb) a H Q):VT (V_ X.K g) (tE X W fa) (tE X W fb) a H Q:=
 (tG.LC h).mono λv j ⟨d,b⟩=>(tG.LC b).mono λf e ⟨i,c⟩=>tG.op2 c
theorem aF {op:acG}{g:D->D->a5 D}(c:P4 X (Ra op) g)(ha:SE X W a fa)(hb:SE X W b fb):SE X W (.BinOp a op b pos) (aI g fa fb):=
 (ID c ha hb).imp λd H Q h=>l7 h
theorem yP {op:UnaryOp}{g:D->a5 D}(c:UnD X (unaryOp op) g)(ha:SE X W a fa):SE X W (.UnaryOp op a pos) (RT g fa):=
 (IC c ha).imp λf H Q h=>(tG.LC h).mono λv e ⟨d,b⟩=>tG.Yz b
theorem o7 {op:acF}{g:D->D->a5 D}(c:P4 X (oa op) g)(ha:SE X W a fa)(hb:SE X W b fb)(d:ov op b=a8:=by first |exact Cy _ (by decide) (by decide) |with_unfolding_all rfl):SE X W (.Compare a [op] [b] pos) (aI g fa fb):=
 (ED c ha hb d).imp λe H Q h=>l7 h
noncomputable def QI:D->a5 eM
 | .bl b=>ag b
 |_=>a4
noncomputable def br (f:Lk D):Lk eM:=λa S=>ai (f a S) λx b=>aL (QI x) b
theorem iY {f:Lk D}{a:St}{H:Hp}{Q:eM->Hp->Prop}(h:tT X W (br f) a H Q):NT (tE X W f) a H Q:=
 (tG.LC h).mono λv i b=>by
  obtain⟨d,g⟩:=b
  obtain⟨J,l,S,r,j,c,m,e,z⟩:=g;obtain⟨m,_⟩:=m.LA;cases d with
  |bl k =>
   cases e;exact⟨k,At.LZ.mp m,z J i k Ex.refl c.L0 rfl⟩
  |_=>simp[QI] at e
theorem NT.mono {t t':TE}(i:∀ a H Q,t' a H Q->t a H Q){a:St}{H:Hp}{Q:eM->Hp->Prop}(h:NT t' a H Q):NT t a H Q:=i _ _ _ h
theorem bL {op:acF}{g:D->D->a5 D}(c:P4 X (oa op) g)(ha:SE X W a fa)(hb:SE X W b fb)(d:ov op b=a8:=by first |exact Cy _ (by decide) (by decide) |with_unfolding_all rfl) :
  OI X W (.Compare a [op] [b] pos) (br (aI g fa fb)):=
 (El c ha hb d).imp λe H Q h=>NT.mono (λ_ _ _=>l7) (iY h)
theorem gg (ha:SE X W a fa)(b:∀ whole,isTrue a X.env whole=(do let v ← whole;abS a.pos;Vk [v] (truthy v)):=by intro _;rfl):OI X W a (br fa):=
 (GE ha b).imp λc H Q h=>iY h
noncomputable def Hz (g g':D->D->a5 D)(fa fb fc:Lk D):Lk D:=λa S=>ai (fa a S) λx e=>ai (fb a e) λy c=>ai (aL ((g x y).bind QI) c) λk b =>
 if k=a6 then ai (fc a b) λz d=>aL (g' y z) d else LB (.bl a8) b
noncomputable def wA (f g:Lk eM):Lk eM:=λa S=>ai (f a S) λk b=>if k=a6 then g a b else LB a8 b
noncomputable def Dw (f g:Lk eM):Lk eM:=λa S=>ai (f a S) λk b=>if k=a6 then LB a6 b else g a b
noncomputable def wp (f:Lk eM):Lk eM:=λa S=>ai (f a S) λk b=>LB (!k) b
variable {ga gb:Lk eM}{rest:ak gy}
theorem on {k:eM}{a:St}{H:Hp}{Q:eM->Hp->Prop}(h:tG X W RB [] [] (λ_ S=>LB k S) a H Q):Q k H:=by obtain⟨J,d,S,r,b,c,_,e,z⟩:=h;cases e;exact z J H k Ex.refl c.L0 rfl
theorem s_ (ha:OI X W a ga):SW X W (.BoolOp .And [a] pos) ga:=Ej ha
theorem BN (ha:OI X W a ga):SW X W (.BoolOp .Or [a] pos) ga:=GA ha
theorem xf (ha:OI X W a ga)(hb:SW X W (.BoolOp .And (b::rest) pos) gb):SW X W (.BoolOp .And (a::b::rest) pos) (wA ga gb):=
 (GB ha hb).imp λe H Q h=>(tG.Pe h).mono λk d c=>by
  cases k with
  |true=>rw[cc rfl];exact c
  |false=>rw[cn #[2]];exact on c
theorem FI (ha:OI X W a ga)(hb:SW X W (.BoolOp .Or (b::rest) pos) gb):SW X W (.BoolOp .Or (a::b::rest) pos) (Dw ga gb):=
 (Iy ha hb).imp λe H Q h=>(tG.Pe h).mono λk d c=>by
  cases k with
  |true=>rw[cc rfl];exact on c
  |false=>rw[cn #[2]];exact c
theorem kZ {e:gy}(h:SW X W e ga):OI X W e ga:=PW.pt h
theorem w_ (ha:OI X W a ga):OI X W (.UnaryOp .Not a pos) (wp ga):=(GF ha).imp λd H Q h=>(tG.Pe h).mono λk c b=>on b
noncomputable def Fu (f g:Lk D):Lk D:=λa S=>ai (f a S) λx c=>ai (aL (QI x) c) λk b=>if k=a6 then g a b else LB (.bl a8) b
noncomputable def cOr (f g:Lk D):Lk D:=λa S=>ai (f a S) λx c=>ai (aL (QI x) c) λk b=>if k=a6 then LB (.bl a6) b else g a b
noncomputable def Kx (f:Lk D):Lk D:=λa S=>ai (f a S) λx c=>ai (aL (QI x) c) λk b=>LB (.bl (!k)) b
theorem blv {f:Lk D}{k:eM->Lk D}{a:St}{H:Hp}{Q:VK}(h:tE X W (λρ S=>ai (f ρ S) λx j=>ai (aL (QI x) j) λb S2=>k b ρ S2) a H Q) :
  tE X W f a H λx g => ∃ c,x = .bl c/\tE X W (k c) a g Q:=(tG.LC h).mono λv g i=>by
 obtain⟨d,n⟩:=i
 obtain⟨J,ρ,S,r,l,c,m,e,z⟩:=n;obtain⟨m,_⟩:=m.LA;cases d with
 |bl b=>exact⟨b,At.LZ.mp m,J,ρ,S,r,l,c,.nil,e,z⟩
 |_=>simp[QI] at e
theorem G0 {k:eM}{a:St}{H:Hp}{Q:VK}(h:tE X W (λ_ S=>LB (.bl k) S) a H Q):Q (.bl k) H:=lT (d:=.bl k) h λ_=>At.LZ.mpr rfl
theorem B1 {op}(ha:SE X W a fa):SE X W (.BoolOp op [a] pos) fa:=GR ha
theorem Gu (ha:SE X W a fa)(hb:SE X W (.BoolOp .And (b::rest) pos) fb):SE X W (.BoolOp .And (a::b::rest) pos) (Fu fa fb):=
 (GU ha hb).imp λg H Q h=>(blv (k:=λk d S=>if k=a6 then fb d S else LB (.bl a8) S) h).mono λv f ⟨k,e,c⟩=>⟨k,e,by
  cases k with
  |true=>rw[cc rfl];exact c
  |false=>rw[cn #[2]];exact G0 c⟩
noncomputable def qi (t:Lk eM)(f g:Lk D):Lk D:=λa S=>ai (t a S) λk b=>if k=a6 then f a b else g a b
theorem hU (hc:OI X W c ga)(ha:SE X W a fa)(hb:SE X W b fb):SE X W (.IfExp c a b pos) (qi ga fa fb):=
 (Co hc ha hb).imp λf H Q h=>(tG.Pe h).mono λk e d=>by
  cases k with
  |true=>rw[cc rfl];exact d
  |false=>rw[cn #[2]];exact d
noncomputable def aB:Lk (ak D):=λ_ S=>LB [] S
noncomputable def af (f:Lk D)(g:Lk (ak D)):Lk (ak D):=λa S=>ai (f a S) λd e=>ai (g a e) λb c=>LB (d::b) c
variable {es:ak gy}{gs:Lk (ak D)}
theorem aj:SA X W [] aB:=MD.imp λd H Q h=>by obtain⟨J,b,S,r,a,c,_,e,z⟩:=h;cases e;exact z J H _ Ex.refl c.L0 .nil
theorem ae {e:gy}(ha:SE X W e fa)(hr:SA X W es gs)(k:ek (e::es) X.env=(a8,qa e X.env)::ek es X.env:=by rfl):SA X W (e::es) (af fa gs):=
 (di ha hr k).imp λt H Q h=>(tG.LC h).mono λv A ⟨d,p⟩=>(tG.OJ p).mono λa g j=>by
  obtain⟨b,f,s⟩:=j
  obtain⟨J,w,S,r,u,c,m,e,z⟩:=s;cases e;refine z J g _ Ex.refl c.L0 ?_
  have split:∀ {b:ak D}{a:ak V},b.length=a.length->Ly X.K g J (b++[d]) (a++[v])->Ly X.K g J b a/\At X.K g J d v:=by
   intro b
   induction b with
   |nil=>intro a f m;cases a with
    |nil=>exact⟨.nil,m.LA.1⟩
    |cons _ _=>simp at f
   |cons x o n=>intro a f m;cases a with
    |nil=>simp at f
    |cons y l =>
     have q:=Ly.LA (show Ly X.K g J (x::(o++[d])) (y::(l++[v])) from m);have i:=n (by simpa using f) q.2;exact⟨.cons q.1 i.1,i.2⟩
  have q:=split f m;exact .cons q.2 q.1
noncomputable def NV (ds:ak D)(d:D):a5 D:=if ds.length<=da then ag d else a4
noncomputable def js (g:Lk (ak D)):Lk D:=λb S=>ai (g b S) λa c=>aL (NV a (.tup a)) c
noncomputable def yq (g:Lk (ak D)):Lk D:=λb S=>ai (g b S) λa c=>aL (NV a (.lst a)) c
theorem dg {k}(h:SA X W es gs):SE X W (.Tuple es k pos) (js gs):=(GP h).imp λi H Q h=>(tG.OJ h).mono λl o f=>by
 obtain⟨g,b,d⟩:=f
 rw[ia,ia] at d;obtain⟨J,n,S,r,j,c,m,e,z⟩:=d;unfold NV at e;rw[1]
 ·rename_i le;cases e;exact⟨by rw[← b];exact le,λp a=>z J _ _ (Ex.same (aO a _)) (c.L0.same (aO a _)) (At.Ni m a c.L0.all (by rw[← b];exact le))⟩
 cases e
theorem mI (h:SA X W es gs):SE X W (.List es pos) (yq gs):=(Cn h).imp λi H Q h=>(tG.OJ h).mono λk n f=>by
 obtain⟨g,b,d⟩:=f
 rw[ia,ia] at d;obtain⟨J,l,S,r,j,c,m,e,z⟩:=d;unfold NV at e;rw[1]
 ·rename_i le;cases e;exact⟨by rw[← b];exact le,λp a=>z J _ _ (Ex.same (aO a _)) (c.L0.same (aO a _)) (At.M0 m a c.L0.all (by rw[← b];exact le))⟩
 cases e
noncomputable def bx (g:ak D->a5 D)(t:Lk (ak D)):Lk D:=λa S=>ai (t a S) λb c=>aL (g b) c
theorem qd {g:ak D->a5 D}{b:St}{H:Hp}{Q:VK}(h:tE X W (bx g gs) b H Q):Ym (Yy X.K g) (tA X W gs) b H Q:=
 (tG.OJ h).mono λi e c=>by
  obtain⟨d,f,a⟩:=c
  rw[ia,ia] at a;exact tG.opS a
theorem bE {g:ak D->a5 D}{id:Uk}{x:el}{p:Ud}{e:gy}(hc:j_ X (.builtin id) g)(i:X.mg x=a4)(a:n0 x=ag (.builtin id))(ha:SA X W (e::es) gs)(b:Gl X x:=by rfl)
  (j:x≠"__name__":=by decide) (d:(x==("__debug__":el))=a8:=by decide) (f:ek (e::es) X.env=(a8,qa e X.env)::ek es X.env:=by rfl) (c:(rb pos (ek es X.env)).any (·.1)=a8:=by rfl) :
  SE X W (.Call (.Name x p) (e::es) [] pos) (bx g gs):=by
 refine PE.imp (i_ hc b i a ha j d f c) λk H Q h=>qd h
theorem cB {g:ak D->a5 D}{T:Uk}{x:el}{p:Ud}{e:gy}(hc:j_ X (.type T) g)(i:X.mg x=a4)(b:n0 x=ag (.type T))(ha:SA X W (e::es) gs)(a:Gl X x:=by rfl)
  (j:x≠"__name__":=by decide) (d:(x==("__debug__":el))=a8:=by decide) (f:ek (e::es) X.env=(a8,qa e X.env)::ek es X.env:=by rfl) (c:(rb pos (ek es X.env)).any (·.1)=a8:=by rfl) :
  SE X W (.Call (.Name x p) (e::es) [] pos) (bx g gs):=by
 refine PE.imp (mK hc a i b ha j d f c) λk H Q h=>qd h
end
section
variable {X:Cx}
theorem tf {x y:el}(b:E1 x=a6)(a:E1 y=a6):E1 (x++y)=a6:=by
 unfold E1 at *
 rw[show (x++y).cps=x.cps++y.cps from rfl,Array.all_append,b,a];rfl
noncomputable def bz:D->D->a5 D
 | .int i,.int j=>ag (.int (i+j))
 | .str x,.str y=>if x.length+y.length<=da then ag (.str (x++y)) else a4
 | .tup b,.tup a=>if b.length+a.length<=da then ag (.tup (b++a)) else a4
 | .lst b,.lst a=>if b.length+a.length<=da then ag (.lst (b++a)) else a4
 |_,_=>a4
theorem Ds {prog:e8}{w:hL}{A:iv}{E:Lm}{s:bo}{t b:bc}{vs ws:ak ax}{Q:Lm}(g:ab5 s.heap t vs.toArray)(hb:ab5 s.heap b ws.toArray)(i:vs=[])
  (k:Q (.ref b) s):dr #[5] A (Ra .Add (.ref t) (.ref b)) Q E s:=by
 obtain⟨⟨cls,h,data,l⟩,d,hc,n,hd⟩:=id g;obtain⟨⟨m,j,data2,f⟩,e,c,n2,a⟩:=id hb;simp only at hc hd c a;subst hc hd c a
 exact aaR ⟨_,d,rfl⟩ ⟨_,e,rfl⟩ aav ab9 WW WI (V1 _ _)
   (tuple_addW0 t b vs.toArray ws.toArray n n2 h j l f (by simp[i])) ⟨d,e,k⟩
theorem yl {prog:e8}{w:hL}{A:iv}{E:Lm}{s:bo}{t b:bc}{vs ws:hO ax}{Q:Lm}(g:PlainL s.heap t vs)(hb:PlainL s.heap b ws)
  (h:Q (#[16]) { s with heap:=s.heap.push { cls:=#[14],data:=.seq (vs++ws) } }) (hsz:vs.size+ws.size<=da):dr #[5] A (Ra .Add (.ref t) (.ref b)) Q E s:=by
 obtain⟨⟨cls,i,data,k⟩,n,d,hc,_,hd⟩:=id g;obtain⟨⟨l,j,data2,f⟩,n2,e,c,_,a⟩:=id hb;simp only at hc hd c a;subst hc hd c a
 exact aaR ⟨_,d,rfl⟩ ⟨_,e,rfl⟩ noFill_list_add seq_list_add PySem.F.slot_list_add PySem.F.entry_list_add (PySem.F.args_list_add_2 _ _)
   (list_addW t b vs ws n n2 i j k f hsz) ⟨d,e,h⟩
theorem oQ (x y:el):(x++y).length=x.length+y.length:=by show (x.cps++y.cps).size=_;rw[acL];rfl
theorem bd:P4 X (Ra .Add) bz:=by
 intro c s o H x y v u Q I g k h;obtain⟨J,T,S,d,K,f,n,e,q⟩:=h;unfold bz at e;rw[1]
 ·rename_i i j;cases e;cases At.Lu.mp f;cases At.Lu.mp n;exact GZ c s o H _ _ v u Q I g k ⟨i,j,rfl,rfl,q H _ (LH.refl H) (#[18])⟩
 ·rename_i a b;rw[1]
  ·rename_i le;cases e;obtain⟨ex,P⟩:=At.LK.mp f;obtain⟨O,R⟩:=At.LK.mp n;subst ex O;exact xE c s o H _ _ v u Q I g k ⟨a,b,rfl,rfl,le,q H _ (LH.refl H) (At.LK.mpr ⟨rfl,by rw[oQ];exact le,tf P.2 R.2⟩)⟩
  cases e
 ·rename_i N M;rw[1]
  ·rename_i le;cases e;obtain⟨a,m,rfl,t1,m1⟩:=At.LF.mp f;obtain⟨b,t,rfl,t2,m2⟩:=At.LF.mp n;by_cases L:m=[]
   ·subst L;cases g;cases k;obtain⟨its,r,D,_⟩:=I.tuple t1.sq;obtain⟨F,E,B,_⟩:=I.tuple t2.sq;have w:N=[]:=So.mp m1.length;subst w;refine Ds D B (r.Lz.mpr rfl) ⟨.ref b,H,I,rfl,q H _ (LH.refl H) n⟩
   refine EI c s o H _ _ v u Q I g k ⟨a,b,m,t,rfl,rfl,t1.sq,t2.sq,L,by rw[← m1.length,← m2.length];exact le,λG=>?_,λG p l=>?_⟩
   ·subst G;have A:M=[]:=So.mp m2.length;subst A;exact q H _ (LH.refl H) (by rw[ia];exact f)
   exact q _ _ (aO l _) (At.Ni (m1.append m2) l K (by rw[cv,← m1.length,← m2.length];exact le))
  cases e
 ·rename_i N M;rw[1]
  ·rename_i le;cases e;obtain⟨a,m,rfl,t1,m1⟩:=At.LG.mp f;obtain⟨b,t,rfl,t2,m2⟩:=At.LG.mp n;cases g;cases k;obtain⟨its,r,D,_⟩:=I.list t1.sq;obtain⟨F,E,B,_⟩:=I.list t2.sq;have C:m.length+t.length<=da:=by rw[← m1.length,← m2.length];exact le
   have l:=I.fresh;refine yl D B ?_ (by rw[f5,f5,← r.length,← E.length];exact C);show EP X c o Q (#[16]) { s with heap:=s.heap.push { cls:=#[14],data:=.seq (its.toArray++F.toArray) } };refine⟨#[16],_,?_,rfl,q _ _ (aO l (.lst (m++t))) (At.M0 (m1.append m2) l K (by rw[cv];exact C))⟩;have z:=I.Yv (its:=its++F) (t':=s.toks) (r.append E) (by rw[cv];exact C);simpa using z
  cases e
 cases e
noncomputable def uR:D->D->a5 D
 | .int i,.int j=>ag (.int (i-j))
 |_,_=>a4
noncomputable def gP (i j:Int):eM:=(ei (-(2 ^ 64)<i)&&ei (i<2 ^ 64)) ||(ei (-(2 ^ 64)<j)&&ei (j<2 ^ 64))
theorem yZ {i j:Int}(h:gP i j=a6):S_ i j:=by
 unfold gP at h;rw[Zi,pX,pX] at h;rcases h with ⟨a,b⟩ |⟨a,b⟩
 ·exact .inl ⟨mv a,mv b⟩
 exact .inr ⟨mv a,mv b⟩
noncomputable def dM:D->D->a5 D
 | .int i,.int j=>if 0<j/\j<1073741824 then ag (.int (i / j)) else a4
 |_,_=>a4
noncomputable def ck:D->D->a5 D
 | .int i,.int j=>if 0<j then ag (.int (i % j)) else a4
 |_,_=>a4
noncomputable def AR:D->a5 D
 | .int i=>ag (.int (-i))
 |_=>a4
theorem xF:P4 X (Ra .Sub) uR:=by
 intro a s c H x y v u Q I f g h;obtain⟨J,n,m,d,l,b,k,e,q⟩:=h;unfold uR at e;rw[1]
 ·rename_i i j;cases e;cases At.Lu.mp b;cases At.Lu.mp k;exact GV a s c H _ _ v u Q I f g ⟨i,j,rfl,rfl,q H _ (LH.refl H) (#[18])⟩
 cases e
theorem jB:P4 X (Ra .FloorDiv) dM:=by
 intro a s f H x y v u Q I g k h;obtain⟨J,o,n,d,m,b,l,e,q⟩:=h;unfold dM at e;rw[1]
 ·rename_i i j;rw[1]
  ·rename_i c;cases e;cases At.Lu.mp b;cases At.Lu.mp l;exact EH a s f H _ _ v u Q I g k ⟨i,j,rfl,rfl,c,q H _ (LH.refl H) (#[18])⟩
  cases e
 cases e
theorem cF:P4 X (Ra .Mod) ck:=by
 intro a s f H x y v u Q I g k h;obtain⟨J,o,n,d,m,b,l,e,q⟩:=h;unfold ck at e;rw[1]
 ·rename_i i j;rw[1]
  ·rename_i c;cases e;cases At.Lu.mp b;cases At.Lu.mp l;exact GX a s f H _ _ v u Q I g k ⟨i,j,rfl,rfl,c,q H _ (LH.refl H) (#[18])⟩
  cases e
 cases e
theorem sT:UnD X (unaryOp .USub) AR:=by
 intro a s c H x v Q I f h;obtain⟨J,j,d,g,b,e,q⟩:=h;unfold AR at e;rw[1]
 ·rename_i i;cases e;cases At.Lu.mp b;exact F7 a s c H _ v Q I f ⟨i,rfl,q H _ (LH.refl H) (#[18])⟩
 cases e
noncomputable def Nb (x y:D):a5 D:=match toPy x,toPy y with
 |ag p,ag q=>if XP p.depth q.depth<=150 then ag (.bl (hH p q)) else a4
 |_,_=>a4
noncomputable def Q0 (x y:D):a5 D:=match toPy x,toPy y with
 |ag p,ag q=>if XP p.depth q.depth<=150 then ag (.bl (!hH p q)) else a4
 |_,_=>a4
theorem fT (t:X.A.units+150<nq):P4 X (oa .Eq) Nb:=by
 intro a s C H x y v u Q I j k h;obtain⟨J,B,z,d,r,f,n,e,q⟩:=h;unfold Nb at e;rw[1]
 ·rename_i p o b c;rw[1]
  ·rename_i le;cases e;obtain⟨g,w,l⟩:=f.reads I j b;obtain⟨i,bs,m⟩:=n.reads I k c;exact SeqAt.compareEq_reads l m g i #[0] ⟨.bl (hH p o),H,I,rfl,q H _ (LH.refl H) (At.LZ.mpr rfl)⟩
  cases e
 cases e
theorem Cu (t:X.A.units+150<nq):P4 X (oa .NotEq) Q0:=by
 intro a s C H x y v u Q I j k h;obtain⟨J,B,z,d,r,f,n,e,q⟩:=h;unfold Q0 at e;rw[1]
 ·rename_i p o b c;rw[1]
  ·rename_i le;cases e;obtain⟨g,w,l⟩:=f.reads I j b;obtain⟨i,bs,m⟩:=n.reads I k c;exact SeqAt.compareNe_reads l m g i #[0] ⟨.bl (!hH p o),H,I,rfl,q H _ (LH.refl H) (At.LZ.mpr rfl)⟩
  cases e
 cases e
noncomputable def NW (x y:el):eM:=ei (x.cps.toList<y.cps.toList)
noncomputable def Wa:D->D->a5 D
 | .int i,.int j=>ag (.bl (ei (i<j)))
 | .str x,.str y=>ag (.bl (NW x y))
 |_,_=>a4
noncomputable def TR:D->D->a5 D
 | .int i,.int j=>ag (.bl (ei (j<i)))
 | .str x,.str y=>ag (.bl (NW y x))
 |_,_=>a4
theorem IJ:P4 X (oa .Lt) Wa:=by
 intro c s g H x y v u Q I k l h;obtain⟨J,p,o,d,n,f,m,e,q⟩:=h;unfold Wa at e;rw[1]
 ·rename_i i j;cases e;cases At.Lu.mp f;cases At.Lu.mp m;exact IE c s g H _ _ v u Q I k l ⟨i,j,rfl,rfl,q H _ (LH.refl H) (At.LZ.mpr rfl)⟩
 ·rename_i a b;cases e;cases (At.LK.mp f).1;cases (At.LK.mp m).1;exact AO c s g H _ _ v u Q I k l ⟨a,b,rfl,rfl,q H _ (LH.refl H) (At.LZ.mpr rfl)⟩
 cases e
theorem FU:P4 X (oa .Gt) TR:=by
 intro c s m H x y v u Q I g k h;obtain⟨J,r,p,d,o,f,l,e,q⟩:=h;unfold TR at e;rw[1]
 ·rename_i i j;cases e;cases At.Lu.mp f;cases At.Lu.mp l;exact IF c s m H _ _ v u Q I g k ⟨i,j,rfl,rfl,q H _ (LH.refl H) (At.LZ.mpr rfl)⟩
 ·rename_i a b;cases e;cases (At.LK.mp f).1;cases (At.LK.mp l).1;obtain⟨t,rfl⟩:=g;obtain⟨n,rfl⟩:=k;exact PySem.P.gt_str ⟨.bl (NW b a),H,I,rfl,q H _ (LH.refl H) (At.LZ.mpr rfl)⟩
 cases e
noncomputable def mR:D->eM
 | .LR=>a6
 |_=>a8
noncomputable def Vl:D->D->a5 D
 |x,.LR=>ag (.bl (mR x))
 |_,_=>a4
noncomputable def pP:D->D->a5 D
 |x,.LR=>ag (.bl (!mR x))
 |_,_=>a4
theorem Cw {K:Ll}{H:Hp}{J:ak bc}{d:D}{x:V}(h:At K H J d x):ei (x = .LR)=mR d:=by
 cases d with
 |LR=>cases At.Mf.mp h;rfl
 |bl b=>cases At.LZ.mp h;rfl
 |int i=>cases At.Lu.mp h;rfl
 |str i=>cases (At.LK.mp h).1;rfl
 |tup c=>obtain⟨a,_,rfl,_⟩:=At.LF.mp h;rfl
 |lst c=>obtain⟨a,_,rfl,_⟩:=At.LG.mp h;rfl
 |set c=>obtain⟨a,_,_,rfl,_⟩:=At.OA.mp h;rfl
 |loc l=>obtain⟨a,rfl,_⟩:=At.LI.mp h;rfl
 |fn _ _=>obtain⟨a,_,rfl,_⟩:=At.RS.mp h;rfl
theorem FS:P4 X (oa .Is) Vl:=by
 intro a s c H x y v u Q I f g h;obtain⟨J,l,k,d,j,b,i,e,q⟩:=h;unfold Vl at e;rw[1]
 ·cases e;cases At.Mf.mp i;exact GY a s c H _ _ v u Q I f g ⟨rfl,by rw[Cw b];exact q H _ (LH.refl H) (At.LZ.mpr rfl)⟩
 cases e
theorem Cv:P4 X (oa .IsNot) pP:=by
 intro a s c H x y v u Q I f g h;obtain⟨J,l,k,d,j,b,i,e,q⟩:=h;unfold pP at e;rw[1]
 ·cases e;cases At.Mf.mp i;exact EG a s c H _ _ v u Q I f g ⟨rfl,by rw[Cw b];exact q H _ (LH.refl H) (At.LZ.mpr rfl)⟩
 cases e
end
section
variable {X:Cx}{W:WT}
noncomputable def xn:D->a5 (ak D)
 | .tup a=>ag a
 | .lst a=>ag a
 |_=>a4
noncomputable def xZ (x y:D):a5 eM:=match toPy x,(xn y).bind cg with
 |ag p,ag a=>if p.depth<=150 then ag (a.any λq=>hH q p) else a4
 |_,_=>a4
noncomputable def inD (x y:D):a5 D:=(xZ x y).map .bl
noncomputable def tQ (x y:D):a5 D:=(xZ x y).map λb => .bl (!b)
noncomputable def qE (h:ja) (p:hA) (u:ax):eM:=by
 classical exact if H:∃ q a,aaq h u q a/\q.canLay0=a6 then hH H.choose p else a8
theorem zR {h:ja}{p q:hA}{u:ax}{as:ak bc}(r:aaq h u q as)(c:q.canLay0=a6):qE h p u=hH q p:=by unfold qE;have H:∃ q as,aaq h u q as/\q.canLay0=a6:=⟨q,as,r,c⟩;rw[YP H];obtain⟨b,a,d⟩:=H.choose_spec;rw[ace _ _ _ _ _ c r a]
theorem Af {h:ja}{p:hA}:∀ {us:ak ax}{a:ak hA}{as:ak bc},X1 h us a as->wx a=a6->us.any (qE h p)=a.any λq=>hH q p
 |_,_,_,.nil,_=>rfl
 |_,_,_,.cons r t,c=>by
  rw[wx,pX] at c;rw[R_,R_,zR r c.1,Af t c.2]
theorem rN {h:ja}:∀ {us:ak ax}{a:ak hA}{as:ak bc},X1 h us a as->wx a=a6->∀ u∈us,∃ q bs,aaq h u q bs/\q.canLay0=a6
 |_,_,_,.nil,_,u,m=>by simp at m
 |_,_,_,.cons r t,c,u,m=>by
  rw[wx,pX] at c;rcases fx.mp m with e |m
  ·subst e;exact⟨_,_,r,c.1⟩
  exact rN t c.2 u m
theorem zF {neg:eM}{op:acF}(hu:X.A.units+151<nq)
  (M:∀ {s:bo}{l:bc}{items:hO ax}{x:ax}{Q:Lm}(e:ax->eM),s.heap.IsList l items->(∀ y∈items,adR X.A.in1 s y x (e y))->Q (.bool (if neg then !items.any e else items.any e)) s->dr #[8] X.A (oa op x (.ref l)) Q X.xe s)
  (U:∀ {s:bo}{l:bc}{items:hO ax}{x:ax}{Q:Lm}(e:ax->eM),ab5 s.heap l items->(∀ y∈items,adR X.A.in1 s y x (e y))->Q (.bool (if neg then !items.any e else items.any e)) s->dr #[8] X.A (oa op x (.ref l)) Q X.xe s) :
  P4 X (oa op) (λx y=>(xZ x y).map λb => .bl (if neg then !b else b)):=by
 intro n s S H x y v u Q I T E h;obtain⟨J,dx,L,d,Z,N,G,e,q⟩:=h;obtain⟨b,g,K⟩:=d7.mp e;subst K;unfold xZ at g;split at g
 ·rename_i p o ep eq;split at g
  ·rename_i le;cases g;obtain⟨Y,es,D⟩:=hD.mp eq;obtain⟨P,i,V⟩:=N.reads I T ep;have fin:∀ {f:ak ax}{i:ak bc},X1 s.heap f o i->wx o=a6->EP X n S Q (.bool (if neg then !f.toArray.any (qE s.heap p) else f.toArray.any (qE s.heap p))) s:=λ{f i} z c=>by rw[show f.toArray.any (qE s.heap p)=f.any (qE s.heap p) by simp,Af z c];exact⟨.bl _,H,I,rfl,q H _ (LH.refl H) (At.LZ.mpr rfl)⟩
   have ev:∀ {f:ak ax}{i:ak bc},X1 s.heap f o i->wx o=a6->∀ y∈f.toArray,adR X.A.in1 s y v (qE s.heap p y):=λ{f i} z c y O=>by obtain⟨B,bs,F,C⟩:=rN z c y (by simpa using O);rw[zR F C];exact ac6 B p X.A.in1 s y v bs _ F V C P (by show X.A.units+1+XP B.depth p.depth<nq;omega)
   cases L with
   |tup R =>
    cases es;obtain⟨a,W,rfl,t,m⟩:=At.LF.mp G;cases E;obtain⟨its,r,pl,_⟩:=I.tuple t.sq;obtain⟨j,bs,k⟩:=Ly.readsAll I m r D;exact U (qE s.heap p) pl (ev k j) (fin k j)
   |lst R =>
    cases es;obtain⟨a,W,rfl,t,m⟩:=At.LG.mp G;cases E;obtain⟨its,r,pl,_⟩:=I.list t.sq;obtain⟨j,bs,k⟩:=Ly.readsAll I m r D;exact M (qE s.heap p) pl.isList (ev k j) (fin k j)
   |_=>simp[xn] at es
  cases g
 cases g
theorem FT (c:X.A.units+151<nq):P4 X (oa .In) inD:=
 zF (neg:=a8) c (λe b a q=>SeqAt.in_listAt e b a q) (λe b a q=>SeqAt.in_tupleAt e b a q)
theorem Ct (c:X.A.units+151<nq):P4 X (oa .NotIn) tQ:=
 zF (neg:=a6) c (λe b a q=>SeqAt.notIn_listAt e b a q) (λe b a q=>SeqAt.notIn_tupleAt e b a q)
theorem mC {x:el}(h:E1 x=a6){c:Nat}(m:c∈x.cps.toList):c<0x110000:=by unfold E1 at h;rw[acq] at h;exact mv (h c (abr.mp m))
theorem oR {l:ak Nat}(h:∀ c∈l,c<0x110000):E1 ⟨l.toArray⟩=a6:=by unfold E1;rw[acq];intro c m;exact gx (h c (by simpa using m))
noncomputable def TU:D->D->a5 D
 | .tup a,.int i=>O3 a i
 | .lst a,.int i=>O3 a i
 | .str x,.int i=>(O3 x.cps.toList i).map λc => .str ⟨#[c]⟩
 |_,_=>a4
theorem ux {K:Ll}{H:Hp}{J:ak bc}{ds:ak D}{vs:ak V}{i:Int}{d:D}(m:Ly K H J ds vs)(h:O3 ds i=ag d):∃ v,O3 vs i=ag v/\At K H J d v:=by unfold O3 at h ⊢;rw[← m.length];obtain⟨j,b,c⟩:=hD.mp h;obtain⟨v,e,a⟩:=m.get c;exact⟨v,by rw[b];exact e,a⟩
def IxD (X:Cx)(g:D->D->a5 D):Prop:=V7 X (V_ X.K g)
theorem ixd:IxD X TU:=by
 intro value slice b s n H x y v u Q I o p h g;obtain⟨J,L,K,d,F,k,A,e,q⟩:=h;unfold TU at e;rw[1]
 ·rename_i E i;obtain⟨a,r,rfl,t,m⟩:=At.LF.mp k;cases At.Lu.mp A;obtain⟨w,f,a1⟩:=ux m e;exact Hc value slice b s n H _ _ v u Q I o p ⟨a,r,i,w,rfl,rfl,t.sq,f,q H _ (LH.refl H) a1⟩ g
 ·rename_i E i;obtain⟨a,r,rfl,t,m⟩:=At.LG.mp k;cases At.Lu.mp A;obtain⟨w,f,a1⟩:=ux m e;exact zy value slice b s n H _ _ v u Q I o p ⟨a,r,i,w,rfl,rfl,t.sq,f,q H _ (LH.refl H) a1⟩ g
 ·rename_i z i;obtain⟨ex,B⟩:=At.LK.mp k;subst ex;cases At.Lu.mp A;obtain⟨c,f,D⟩:=d7.mp e;subst D;refine Hd value slice b s n H _ _ v u Q I o p ⟨z,i,c,rfl,rfl,B.1,f,q H _ (LH.refl H) (At.LK.mpr ⟨rfl,by show 1<=da;decide,oR (l:=[c]) λG m=>?_⟩)⟩ g;obtain⟨j,_,C,_⟩:=l8 f;rw[gA.mp m];exact mC B.2 (ra C)
 cases e
variable {a b c:gy}{fa fb fc:Lk D}{pos:Ud}
theorem FK {g:D->D->a5 D}(hr:IxD X g)(ha:SE X W a fa)(hb:SE X W b fb)(c:oy b:=by exact λ_ _=>rfl):SE X W (.Subscript a b pos) (aI g fa fb):=
 (FP hr ha hb c).imp λd H Q h=>l7 h
noncomputable def lS {α:Type}(xs:ak α)(lo a:a5 Int):ak α:=(xs.drop (HT.L_ xs.length 0 lo)).take (HT.L_ xs.length xs.length a-HT.L_ xs.length 0 lo)
noncomputable def QJ (d:D)(lo b:a5 Int):a5 D:=match d with
 | .tup a=>ag (.tup (lS a lo b))
 | .lst a=>ag (.lst (lS a lo b))
 |_=>a4
theorem Ly.cut {K:Ll}{H:Hp}{J:ak bc}{ds:ak D}{vs:ak V}(m:Ly K H J ds vs)(lo a:a5 Int):Ly K H J (lS ds lo a) (v6 vs lo a):=by unfold lS v6;rw[← m.length];exact(m.drop _).take _
theorem yf {α:Type}{xs:ak α}{lo a:a5 Int}(h:HT.L_ xs.length 0 lo=0/\HT.L_ xs.length xs.length a=xs.length):lS xs lo a=xs:=by unfold lS;rw[h.1,h.2];simp
def rDl (K:Ll)(g:D->a5 Int->a5 Int->a5 D):V->a5 Int->a5 Int->Hp->VK->Prop:=λx lo e H Q => ∃ J c d,(∀ a∈J,H a≠a4)/\At K H J c x/\g c lo e=ag d/\∀ b v,LH H b->At K b J d v->Q v b
theorem jT {prog:e8}{w:hL}{A:iv}{E:Lm}{s:bo}{t c:bc}{items:hO ax}{e g:ax}{lo b:a5 Int}{Q:Lm}(a:ab5 s.heap t items)(f:s.heap.IsSliceOf c e g .none)(pl:aaS e lo)(l:aaS g b)
  (d:HT.L_ items.size 0 lo=0/\HT.L_ items.size items.size b=items.size) (h:Q (.ref t) s):dr #[5] A (WO (.ref t) (.ref c)) Q E s:=by
 obtain⟨os,k,i,m⟩:=id f;have j:s.TypeIs (.ref c) "slice":=⟨os,k,i⟩;unfold WO
 try with_reducible refine vl ?_
 first |refine av (ay ?_) |skip
 refine av (wpAny_sequenceKey a.typeIs #[2] ?_)
 refine av (r0 (name:=Vz "__getitem__") a.typeIs n7
  (mi n7 a.typeIs ab2 ?_ (acp _ _)))
 show dr _ _ (RU (.ref t) >>= _) _ _ s;refine av (ab_ a ?_);refine av (Uq j ?_);rw[cc #[2]];refine av (HT.MU f pl l ?_);show dr _ _ (if (((HT.L_ items.size 0 lo:Nat):Int)==0&&(1:Int)==1&&(HT.L_ items.size items.size b-HT.L_ items.size 0 lo)==items.size)=a6 then _ else _) _ _ s;rw[cc (by rw[d.1,d.2];simp)];unfold Builtin.Tuple.tupleIsExact;refine av (av (Uq a.typeIs (ay ?_)));rw[cc #[2]];exact av (O8 (ay ⟨_,rfl,ay h⟩))
def SlD (X:Cx)(g:D->a5 Int->a5 Int->a5 D):Prop:=XA X (rDl X.K g)
theorem Wb:SlD X QJ:=by
 intro c s y H x v u z lo f B Q I n k pl o h;obtain⟨J,F,d,w,l,e,q⟩:=h;unfold QJ at e;rw[1]
 ·rename_i D;cases e;obtain⟨a,b,rfl,t,m⟩:=At.LF.mp l;have C:=m.length;by_cases j:HT.L_ b.length 0 lo=0/\HT.L_ b.length b.length f=b.length
  ·cases n;obtain⟨its,r,A,E⟩:=I.tuple t.sq;have g:its.toArray.size=b.length:=by rw[f5];exact r.length.symm
   refine⟨"tuple",_,n7.lookup,A.typeIs,?_⟩;refine jT A k pl o (by rw[g];exact j) ⟨.ref a,H,I,rfl,q H _ (LH.refl H) ?_⟩;rw[yf (by rw[C];exact j)];exact l
  exact Gi c s y H _ v u z lo f B Q I n k pl o ⟨a,b,rfl,t.sq,j,λp i=>q _ _ (aO i _) (At.Ni (m.cut lo f) i w (fg (f6 b lo f) t.len))⟩
 ·rename_i D;cases e;obtain⟨a,b,rfl,t,m⟩:=At.LG.mp l;exact D_ c s y H _ v u z lo f B Q I n k pl o ⟨a,b,rfl,t.sq,λp i=>q _ _ (aO i _) (At.M0 (m.cut lo f) i w (fg (f6 b lo f) t.len))⟩
 cases e
noncomputable def Bf:D->a5 (a5 Int)
 | .int i=>ag (ag i)
 |_=>a4
noncomputable def l0 (f:a5 (Lk D)):Lk (a5 Int):=match f with
 |a4=>λ_ S=>LB a4 S
 |ag f=>λa S=>ai (f a S) λd b=>aL (Bf d) b
def SO (X:Cx)(W:WT)(e:a5 gy)(f:a5 (Lk D)):Prop:=match e,f with
 |a4,a4=>True
 |ag e,ag f=>SE X W e f
 |_,_=>False
noncomputable def Tf (g:D->a5 Int->a5 Int->a5 D)(f:Lk D)(lo b:a5 (Lk D)):Lk D:=λa S=>ai (f a S) λx d=>ai (l0 lo a d) λl c=>ai (l0 b a c) λu e=>aL (g x l u) e
noncomputable def tPt (X:Cx)(W:WT)(f:a5 (Lk D)):TO:=tG X W (λ_ _ a b=>a=b) [] [] (l0 f)
theorem tG.TV {α s:Type}{R:ak bc->Hp->α->s->Prop}{f:a5 (Lk D)}{k:a5 Int->Lk α}{ds:ak D}{vs:ak V}{l:St}{H:Hp}{Q : s->Hp->Prop}
  (h:tG X W R ds vs (λρ S=>ai (l0 f ρ S) λd i=>k d ρ i) l H Q):tPt X W f l H λb t=>tG X W R ds vs (k b) l t Q:=by
 obtain⟨J,ρ,S,r,u,c,a,e,z⟩:=h;cases q:l0 f ρ S with
 |none=>simp[q] at e
 |some o =>
  obtain⟨w,i⟩:=o;simp only[q] at e;cases w with
  |error x =>
   cases e;exact⟨J,ρ,S,.error x,_,c,.nil,q,z⟩
  |ok d =>
   refine⟨J,ρ,S,.ok d,i,c,.nil,q,λB t v x A m=>?_⟩;cases m;refine⟨B,ρ,i,r,u,c.re x A,a.ex x,e,?_⟩;cases r with
   |ok g=>exact λj n b x2 p y=>z j n b (x.trans x2) p y
   |error g=>exact λj n x2 p=>z j n (x.trans x2) p
theorem FO {e:a5 gy}{f:a5 (Lk D)}(h:SO X W e f):PO X e (tPt X W f):=by
 cases e with
 |none =>
  cases f with
  |none =>
   intro a s b H Q I z;refine Eu a s b H Q I ?_;obtain⟨J,k,S,r,g,c,_,e,z⟩:=z;cases e;exact z J H _ Ex.refl c.L0 rfl
  |some _=>exact h.elim
 |some e =>
  cases f with
  |none=>exact h.elim
  |some f =>
   intro a s b H Q I z;refine Es h a s b H Q I ?_;refine(tG.LC z).mono λv l ⟨d,j⟩=>?_;obtain⟨J,k,S,r,g,c,m,e,z⟩:=j;obtain⟨m,_⟩:=m.LA;cases d with
   |int i =>
    cases e;exact⟨i,At.Lu.mp m,z J l _ Ex.refl c.L0 rfl⟩
   |_=>simp[Bf] at e
theorem u3 {g:D->a5 Int->a5 Int->a5 D}{lo f:a5 gy}{b i:a5 (Lk D)}{o:Ud}(hr:SlD X g)(ha:SE X W a fa)(k:SO X W lo b)(n:SO X W f i):SE X W (.Subscript a (.Slice lo f a4 o) pos) (Tf g fa b i):=
 (Ck hr ha (FO k) (FO n)).imp λC H Q h=>(tG.LC h).mono λv I ⟨d,x⟩=>(tG.TV x).mono λl F y=>(tG.TV y).mono λu B j=>by
  obtain⟨J,G,S,r,E,c,m,e,z⟩:=j;obtain⟨m,_⟩:=m.LA;cases q:g d l u with
  |none=>simp[q] at e
  |some t =>
   simp only[q,bF,LB] at e;cases e;exact⟨J,d,t,c.L0.all,m,q,λw A s p=>z J w A (Ex.same s) (c.L0.same s) p⟩
end
end L2
namespace L2
open PySem PySem.Spec PyProof.Rows PySem.W
section
variable {X:Cx}{W:WT}
theorem mN:fillsNumberSlot (.type "tuple") "mul"=wh a8:=
 PySem.fillsNumberSlot_seq (id:="tuple.__mul__") (r:=ag (.builtin "tuple.__rmul__")) F.slot_tuple_mul.lookup #[2] F.slot_tuple_rmul.lookup #[2]
theorem tM:seqRepeat? (.type "tuple")=wh (ag (.builtin "tuple.__mul__")):=by unfold seqRepeat?;rw[ac7 (T:="tuple") (name:="__mul__") (id:="tuple.__mul__") F.slot_tuple_mul.lookup #[2],ac7 (T:="tuple") (name:="__rmul__") (id:="tuple.__rmul__") F.slot_tuple_rmul.lookup #[2]];rfl
theorem pR (a:Int)(t:Tok)(l:bc)(items:hO ax)(n:Nat)(b:a5 bc)(c:hO (a5 ax)) :
  Meets (Builtin.«int.__rmul__» ⟨[.int a t,.ref l],[]⟩) (λ_ R s=>s.heap.get? l=ag { cls:=.type "tuple",dict:=b,data:=.seq items n,slots:=c }/\R (.ok (.ret Value.notImplemented)) s):=
 .of_wp λprog w A R s h=>by obtain⟨f,g,d,tk,os⟩:=s;obtain⟨e,h⟩:=h;wp_walk;exact⟨_,rfl,h⟩
theorem w9 (l:bc)(items:hO ax)(n:Nat)(o:a5 bc)(x:hO (a5 ax))(k:Int)(t:Tok)(C : 2<=k)(D:k<2 ^ 30)(a:items.isEmpty=a8)(hsz:items.size*k.toNat<=da) :
  Meets (Builtin.«tuple.__mul__» ⟨[.ref l,.int k t],[]⟩) (λ_ R s=>s.heap.get? l=ag { cls:=.type "tuple",dict:=o,data:=.seq items n,slots:=x }/\R (.ok (.ret (jl s.heap.objs.size))) { s with heap:=s.heap.push { cls:=r4 "tuple",data:=Data.seq (WC (λx1 x2=>x1++x2) #[] (eh k.toNat items)) },toks:=s.toks }):=
 .of_wp λprog w A R s h=>by
  obtain⟨u,g,d,tk,os⟩:=s;obtain⟨b,h⟩:=h;have y:=AutoSeq1.idx_int
  wp_walk using PL b
  have z:(0:Int)<=k:=#[1]
  have i:((k.toNat:Nat):Int)=k:=#[1]
  have p:¬ ((ei (k < -2 ^ 63) ||ei (k≥2 ^ 63))=a6):=by rw[dV #[0],dV #[0]];decide
  have q:¬ ((items.isEmpty ||k==1)=a6):=by rw[a,aeg,lE.mpr #[0]];decide
  have j:¬ ((ei (k<=0) ||items.isEmpty)=a6):=by rw[a,dV #[0]];decide
  have c:((items.size*k.toNat:Nat):Int)=(items.size:Int)*k:=by rw[adx,i]
  have B:(da:Nat)=2 ^ 24:=rfl;have r:¬ ((items.size:Int)*k > (2 ^ 63-1) / 8):=by rw[← c];omega
  have v:Zj ((items.size:Int)*k)=a8:=by unfold Zj;rw[← c];exact dV #[0]
  rw[cn p];refine av (ab_ (⟨_,b,rfl,n,rfl⟩:ab5 u l items) ?_);rw[0];rw[cn q,cn j,cn r,cn (by rw[v];decide)]
  have f:sizeOk (.seq (WC (λx1 x2=>x1++x2) #[] (eh k.toNat items))):=by
   have e:WC (λx1 x2=>x1++x2) #[] (eh k.toNat items)=(eh k.toNat items.toList).flatten.toArray:=by have:=foldl_rep items.toList k.toNat [];rw[4]
   show (WC (λx1 x2=>x1++x2) #[] (eh k.toNat items)).size<=da;rw[e,f5,len_rep,gz,adS];exact hsz
  first
   |exact av (m:=z0 _) (ng (ay ⟨_,rfl,h⟩) f)
   |exact av (m:=z0 _) (ng (av (ay (ay ⟨_,rfl,h⟩))) f)
noncomputable def c_:D->D->a5 D
 | .int i,.int j=>if gP i j then ag (.int (i*j)) else a4
 | .str x,.int n=>if -1000<=n/\n<1 then ag (.str ⟨#[]⟩) else if 1<=n/\n<=1000/\x.length<=1000 then ag (.str ⟨(eh n.toNat x.cps.toList).flatten.toArray⟩) else a4
 | .tup a,.int n=>if 2<=n/\n<=1000/\0<a.length/\a.length<=1000 then ag (.tup (eh n.toNat a).flatten) else a4
 |_,_=>a4
theorem CG (x:el)(n:Int)(h : 1<=n):Txt.mul x n=⟨(eh n.toNat x.cps.toList).flatten.toArray⟩:=by
 have f:∀ m:Nat,(eh m x.cps).foldl (·++·) #[]=(eh m x.cps.toList).flatten.toArray:=λm=>by
  have:∀ (m:Nat) (a:ak Nat),(eh m x.cps).foldl (·++·) a.toArray=(a++(eh m x.cps.toList).flatten).toArray:=by
   intro m
   induction m with
   |zero=>intro a;simp
   |succ m b =>
    intro a;rw[L3,Pw,L3,Uy,← j0];have e:a.toArray++x.cps=(a++x.cps.toList).toArray:=by simp
    rw[e];exact b _
  have:=this m [];rw[4]
 unfold Txt.mul;rw[cn #[0]];split
 ·rename_i c;rw[Zi] at c;rcases c with c |c
  ·have:n=1:=VG c;subst this;show x=⟨([x.cps.toList].flatten).toArray⟩;simp
  have d:x.cps.size=0:=VG c;have:x.cps.toList=[]:=by simpa using Array.size_eq_zero_iff.mp d
  have g:∀ m:Nat,(eh m ([]:ak Nat)).flatten=[]:=λm=>by induction m with
   |zero=>rfl
   |succ m b=>rw[L3,Uy,b];rfl
  rw[this,g];cases x with
  |mk cps =>
   simp only at this;have:cps = #[]:=by rw[4]
   rw[this]
 rw[f]
theorem eN:P4 X (Ra .Mult) c_:=by
 intro p s σ H x y v u Q I A B h;obtain⟨J,dx,dy,d,V,w,C,e,q⟩:=h;unfold c_ at e;rw[1]
 ·rename_i i j;rw[1]
  ·rename_i c;cases e;cases At.Lu.mp w;cases At.Lu.mp C;exact GW p s σ H _ _ v u Q I A B ⟨i,j,rfl,rfl,yZ c,q H _ (LH.refl H) (#[18])⟩
  cases e
 ·rename_i z n;obtain⟨ex,kx⟩:=At.LK.mp w;subst ex;cases At.Lu.mp C;obtain⟨t,rfl⟩:=A;obtain⟨t',rfl⟩:=B;rw[1]
  ·rename_i c;cases e;refine SB.mul ⟨by rw[dV #[0],dV #[0]];rfl,λh=>ib c.2 h,λh=>ib c.2 h⟩ λt' k=>?_;rw[show Txt.mul z n=⟨#[]⟩ from cc c.2];exact⟨.str _,H,I.tok _,⟨t',rfl⟩,q H _ (LH.refl H) (At.LK.mpr ⟨rfl,by show 0<=da;decide,#[4]⟩)⟩
  rename_i c;rw[1]
  ·rename_i c2;cases e;have L:(da:Nat)=2 ^ 24:=rfl
   have f:z.length*n.toNat<=1000000:=by
    have:n.toNat<=1000:=#[1]
    exact fg (adT c2.2.2 this) #[2]
   have ok:MulOk z n:=by
    refine⟨by rw[dV #[0],dV #[0]];rfl,λ_ _ hh=>?_,λ_ _=>?_⟩
    ·have N:(2 ^ 63-1) / n≥(2 ^ 63-1) / 1000:=by
      apply Int.le_ediv_of_mul_le #[0];have:((2 ^ 63-1) / 1000:Int)=9223372036854775:=#[4]
      rw[this];omega
     have O:((2 ^ 63-1) / 1000:Int)=9223372036854775:=#[4]
     omega
    unfold Builtin.Str.tooLong;exact dV #[0]
   refine SB.mul ok λt' k=>?_;rw[CG z n #[0]];have W:z.cps.toList.length=z.length:=by simp[Str.length]
   refine⟨.str _,H,I.tok _,⟨t',rfl⟩,q H _ (LH.refl H) (At.LK.mpr ⟨rfl,?_,oR λc m=>?_⟩)⟩
   ·show (List.toArray _).size<=_;rw[f5,len_rep,W,adS];omega
   obtain⟨l,Y,P⟩:=List.mem_flatten.mp m;rw[(List.mem_replicate.mp Y).2] at P;exact mC kx.2 P
  cases e
 ·rename_i xs n;rw[1]
  ·rename_i c;cases e;obtain⟨a,M,rfl,R,m⟩:=At.LF.mp w;cases At.Lu.mp C;cases A;obtain⟨t',rfl⟩:=B;obtain⟨its,r,⟨⟨cls,E,data,K⟩,g,hc,D,hd⟩,hz⟩:=I.tuple R.sq;simp only at hc hd;subst hc hd;have l1:=m.length;have Z:=r.length;have L:(da:Nat)=2 ^ 24:=rfl
   have f:its.toArray.size*n.toNat<=da:=by
    rw[f5];have N:its.length<=1000:=#[1]
    have O:n.toNat<=1000:=#[1]
    exact fg (adT N O) (by rw[L];decide)
   have h0 : 0<its.length:=#[1]
   have MQ:its.toArray.isEmpty=a8:=by
    cases its with
    |nil=>simp at h0
    |cons _ _=>rfl
   refine wpAny_binaryOp_repeat_ref (T:="tuple") (U:="int") #[2] ⟨_,g,rfl⟩ (λS=>adQ S n t') mN F.fills_int_mul F.slot_int_rmul tM F.slot_int_index.lookup
    (aaW F.slot_int_rmul (adQ s n t') F.entry_int_rmul (F.args_int_rmul_2 _ _) (pR n t' a its.toArray D E K)
     ⟨g,rfl,⟨_,g,rfl⟩,aaW F.slot_tuple_mul ⟨_,g,rfl⟩ F.entry_tuple_mul (F.args_tuple_mul_2 _ _) (w9 a its.toArray D E K n t' c.1 #[0] MQ f) ⟨g,?_⟩⟩)
   have YA:WC (λx1 x2=>x1++x2) #[] (eh n.toNat its.toArray)=(eh n.toNat its).flatten.toArray:=by have:=foldl_rep its n.toNat [];rw[Zk] at this;exact this
   rw[YA];have G:(eh n.toNat M).flatten.length<=da:=by rw[len_rep,adS,Z];rw[f5] at f;exact f
   exact⟨#[16],_,I.laid (t':=s.toks) (o:=.tup (eh n.toNat M).flatten) (λb ob q=>a9 _ q) (e9 _) ⟨G,_,r.rep n.toNat,O5.new _ _⟩,rfl,q _ _ (aO I.fresh _) (At.Ni (m.rep n.toNat) I.fresh V G)⟩
  cases e
 cases e
end
section
variable {X:Cx}{W:WT}
noncomputable def zw:D->a5 Uk
 | .LR=>ag "NoneType"
 | .bl _=>ag "bool"
 | .int _=>ag "int"
 | .str _=>ag "str"
 | .tup _=>ag "tuple"
 | .lst _=>ag "list"
 |_=>a4
noncomputable def vP (T k:Uk):eM:=k==T ||(k=="bool"&&T=="int")
noncomputable def Bd (T:Uk)(d:D):a5 D:=(zw d).map λk => .bl (vP T k)
def DG (T:Uk):Prop:=∀ (K:Frag),adU K (.type "NoneType") (.type T)=ag (vP T "NoneType")/\adU K (.type "bool") (.type T)=ag (vP T "bool")/\adU K (.type "int") (.type T)=ag (vP T "int") /\
 adU K (.type "str") (.type T)=ag (vP T "str")/\adU K (.type "tuple") (.type T)=ag (vP T "tuple")/\adU K (#[14]) (.type T)=ag (vP T "list")
theorem vM:DG "bool":=λK=>⟨rfl,rfl,rfl,rfl,rfl,rfl⟩
theorem Dt {T:Uk}(A:DG T):iM X (.builtin "isinstance") (λxs H Q => ∃ x,xs=[x,.ty T]/\Yx X.K (Bd T) x H Q):=by
 intro j s L H xs S Q I r h;obtain⟨x,rfl,J,G,d,R,f,e,q⟩:=h;obtain⟨u,U,rfl,g,E⟩:=vals2 r;cases E;obtain⟨k,c,C⟩:=d7.mp e;subst C;obtain⟨M,B,P,O,F,w⟩:=A X.K;have fin:∀ tk,EP X j L Q (.bool (vP T k)) { s with toks:=tk }:=λtk=>⟨.bl _,H,I.tok _,rfl,q H _ (LH.refl H) (At.LZ.mpr rfl)⟩;cases G with
 |LR=>cases c;cases At.Mf.mp f;cases g;exact acM kitx_none I.Pq R9 M (λz=>nomatch z) fin
 |bl b=>cases c;cases At.LZ.mp f;cases g;exact acM kitx_bool I.Pq R9 B (λz=>nomatch z) fin
 |int i=>cases c;cases At.Lu.mp f;obtain⟨t,rfl⟩:=g;exact acM kitx_int I.Pq R9 P (λz=>nomatch z) fin
 |str y=>cases c;cases (At.LK.mp f).1;obtain⟨t,rfl⟩:=g;exact acM kitx_str I.Pq R9 O (λz=>nomatch z) fin
 |tup v =>
  cases c;obtain⟨a,N,rfl,l,_⟩:=At.LF.mp f;cases g;obtain⟨its,D,⟨o,m,p,_⟩,_⟩:=I.tuple l.sq;exact acM kitx_tuple I.Pq ⟨o,m,p⟩ F (λz=>nomatch z) fin
 |lst v =>
  cases c;obtain⟨a,N,rfl,l,_⟩:=At.LG.mp f;cases g;obtain⟨its,D,⟨o,n,m,p,_⟩,_⟩:=I.list l.sq;exact acM kitx_list I.Pq ⟨o,m,p⟩ w (λz=>nomatch z) fin
 |set _=>simp[zw] at c
 |loc _=>simp[zw] at c
 |fn _ _=>simp[zw] at c
variable {a b c e:gy}{fa fb fc:Lk D}{pos:Ud}{es:ak gy}{gs:Lk (ak D)}
theorem B2 {T:Uk}{x t:el}{p a:Ud}(j:DG T)(i:x="isinstance")(l:X.mg x=a4)(b:X.mg t=a4)(c:n0 t=ag (.type T))(ha:SE X W e fa)
  (o:Gl X x:=by rfl) (f:Gl X t:=by rfl) (n:t≠"__name__":=by decide) (k:(t==("__debug__":el))=a8:=by decide)
  (g:ek (e::[.Name t a]) X.env=(a8,qa e X.env)::ek [.Name t a] X.env:=by rfl) (m:(rb pos (ek [.Name t a] X.env)).any (·.1)=a8:=by rfl) :
  SE X W (.Call (.Name x p) [e,.Name t a] [] pos) (RT (Bd T) fa):=by
 subst i;refine PE.imp (i_ (Dt j) o l #[2] (di ha (di (EF (v:=.ty T) f b c (show RelV (.ty T) (.type T) from rfl) n k) MD (by rfl)) g) #[2] #[2] g m) λr H Q h=>?_;exact(tG.LC h).mono λv s ⟨d,q⟩=>⟨v,rfl,tG.Yz q⟩
noncomputable def cr:ak D->a5 D
 |[.tup xs]=>ag (.int xs.length)
 |[.lst xs]=>ag (.int xs.length)
 |[.str x]=>ag (.int x.length)
 |_=>a4
theorem gC:j_ X (.builtin "len") cr:=by
 intro b s f H u g Q I r h;obtain⟨J,l,d,o,m,e,q⟩:=h;unfold cr at e;rw[1]
 ·rename_i j;cases e;obtain⟨v,w,rfl,a,n⟩:=Ly.Lv.mp m;cases Ly.Lz.mp n;obtain⟨p,c,rfl,t,i⟩:=At.LF.mp a;exact io b s f H _ g Q I r ⟨p,c,rfl,.inr t.sq,by rw[← i.length];exact q H _ (LH.refl H) (#[18])⟩
 ·rename_i j;cases e;obtain⟨v,w,rfl,a,n⟩:=Ly.Lv.mp m;cases Ly.Lz.mp n;obtain⟨p,c,rfl,t,i⟩:=At.LG.mp a;exact io b s f H _ g Q I r ⟨p,c,rfl,.inl t.sq,by rw[← i.length];exact q H _ (LH.refl H) (#[18])⟩
 ·rename_i y;cases e;obtain⟨v,w,rfl,a,n⟩:=Ly.Lv.mp m;cases Ly.Lz.mp n;obtain⟨ex,k⟩:=At.LK.mp a;subst ex;exact uq b s f H _ g Q I r ⟨y,rfl,k.1,q H _ (LH.refl H) (#[18])⟩
 cases e
noncomputable def intD:ak D->a5 D
 |[.int i]=>ag (.int i)
 |[.bl k]=>ag (.int (if k then 1 else 0))
 |_=>a4
theorem Hw:j_ X (.type "int") intD:=by
 intro b s c H l f Q I r h;obtain⟨J,g,d,j,m,e,q⟩:=h;unfold intD at e;rw[1]
 ·rename_i i;cases e;obtain⟨v,w,rfl,a,n⟩:=Ly.Lv.mp m;cases Ly.Lz.mp n;cases At.Lu.mp a;exact sI b s c H _ f Q I r (.inl ⟨i,rfl,q H _ (LH.refl H) (#[18])⟩)
 ·rename_i k;cases e;obtain⟨v,w,rfl,a,n⟩:=Ly.Lv.mp m;cases Ly.Lz.mp n;cases At.LZ.mp a;exact sI b s c H _ f Q I r (.inr ⟨k,rfl,q H _ (LH.refl H) (#[18])⟩)
 cases e
noncomputable def iO:ak D->a5 D
 |[.tup xs]=>ag (.tup xs)
 |[.lst xs]=>ag (.tup xs)
 |_=>a4
theorem jn:j_ X (.type "tuple") iO:=by
 intro b s g H x i Q I r h;obtain⟨J,u,d,k,m,e,q⟩:=h;unfold iO at e;rw[1]
 ·rename_i o;cases e;obtain⟨v,w,rfl,a,n⟩:=Ly.Lv.mp m;cases Ly.Lz.mp n;obtain⟨p,c,rfl,t,j⟩:=At.LF.mp a;exact j7 b s g H _ i Q I r ⟨p,c,rfl,.inr ⟨t.sq,q H _ (LH.refl H) a⟩⟩
 ·rename_i o;cases e;obtain⟨v,w,rfl,a,n⟩:=Ly.Lv.mp m;cases Ly.Lz.mp n;obtain⟨p,c,rfl,t,j⟩:=At.LG.mp a;exact j7 b s g H _ i Q I r ⟨p,c,rfl,.inl ⟨t.sq,λl f=>q _ _ (aO f _) (At.Ni j f k t.len)⟩⟩
 cases e
end
inductive Fl where
 |next (ρ:Lr) |ret (d:D) |brk (ρ:Lr) |cont (ρ:Lr)
def Py (X:Cx)(W:WT)(J:ak bc)(H:Hp)(r:Except el Fl)(f:Lq)(E:Ends):Prop:=
 match r with
 | .ok (.next ρ') => ∀ e b a,Ex J H e a->Cf X e ρ' f b a->E.nx b a
 | .ok (.brk ρ') => ∀ e b a,Ex J H e a->Cf X e ρ' f b a->E.bk b a
 | .ok (.cont ρ') => ∀ e b a,Ex J H e a->Cf X e ρ' f b a->E.ct b a
 | .ok (.ret d) => ∀ e a v,Ex J H e a->LX X.K e f a->At X.K a e d v->E.rt v a
 | .error c => ∀ e a,Ex J H e a->LX X.K e f a->W c e f a
theorem Py.ex {X:Cx}{W:WT}{J k:ak bc}{H m:Hp}{r:Except el Fl}{j:Lq}{E:Ends}(h:Py X W J H r j E)(x:Ex J H k m):Py X W k m r j E:=by
 cases r with
 |error c=>exact λi g e s=>h i g (x.trans e) s
 |ok f =>
  cases f with
  |next l=>exact λi b g e c=>h i b g (x.trans e) c
  |brk l=>exact λi b g e c=>h i b g (x.trans e) c
  |cont l=>exact λi b g e c=>h i b g (x.trans e) c
  |ret d=>exact λi g v e s a=>h i g v (x.trans e) s a
noncomputable def tS (X:Cx)(W:WT)(f:Lk Fl):TS:=λE c H => ∃ J b S r a,Cf X J b S c H/\f b S=ag (r,a)/\Py X W J H r a E
def SS (X:Cx)(W:WT)(st:qb)(f:Lk Fl):Prop:=PS X st (tS X W f)
def Q3 (X:Cx)(W:WT)(st:ak qb)(f:Lk Fl):Prop:=Qj X st (tS X W f)
theorem PS.imp {X:Cx}{st:qb}{t t':TS}(h:PS X st t)(i:∀ E b H,t' E b H->t E b H):PS X st t':=λa s b H D I z=>h a s b H D I (i _ _ _ z)
theorem Qj.imp {X:Cx}{st:ak qb}{t t':TS}(h:Qj X st t)(i:∀ E b H,t' E b H->t E b H):Qj X st t':=λa s b H D I z=>h a s b H D I (i _ _ _ z)
section
variable {X:Cx}{W:WT}{st:qb}{rest:ak qb}{f g:Lk Fl}{e c:gy}{fe:Lk D}{gt:Lk eM}{pos:Ud}
noncomputable def eE:Lk Fl:=λa S=>LB (.next a) S
noncomputable def aP (f g:Lk Fl):Lk Fl:=λd S=>ai (f d S) λc b=>match c with
 | .next a=>g a b
 |o=>LB o b
noncomputable def bg (f:Lk D):Lk Fl:=λa S=>ai (f a S) λd b=>LB (.ret d) b
noncomputable def P5 (t:Lk eM)(f g:Lk Fl):Lk Fl:=λa S=>ai (t a S) λk b=>if k=a6 then f a b else g a b
noncomputable def bh (i:Nat)(f:Lk D):Lk Fl:=λa S=>ai (f a S) λd b=>LB (.next (a.set i (ag d))) b
noncomputable def ww (f:Lk D):Lk Fl:=λa S=>ai (f a S) λ_ b=>LB (.next a) b
theorem cA:Q3 X W [] eE:=SY.imp λE a H h=>by obtain⟨J,d,S,r,b,c,e,z⟩:=h;cases e;exact z J a H Ex.refl c
theorem BY {E:Ends}{i:St}{H:Hp}(h:tS X W (aP f g) E i H):Ic (tS X W f) (tS X W g) E i H:=by
 obtain⟨J,b,S,r,m,c,e,z⟩:=h;unfold aP at e;cases q:f b S with
 |none=>simp[q] at e
 |some o =>
  obtain⟨n,j⟩:=o;simp only[q] at e;cases n with
  |error x =>
   cases e;exact⟨J,b,S,.error x,_,c,q,z⟩
  |ok l =>
   cases l with
   |next a=>exact⟨J,b,S,.ok (.next a),j,c,q,λs p t x k=>⟨s,a,j,r,m,k,e,z.ex x⟩⟩
   |ret d=>cases e;exact⟨J,b,S,.ok (.ret d),_,c,q,z⟩
   |brk a=>cases e;exact⟨J,b,S,.ok (.brk a),_,c,q,z⟩
   |cont a=>cases e;exact⟨J,b,S,.ok (.cont a),_,c,q,z⟩
theorem ao (a:SS X W st f)(b:Q3 X W rest g):Q3 X W (st::rest) (aP f g):=(Ca a b).imp λE c H h=>BY h
theorem au (a:SS X W st f):Q3 X W [st] f:=Em a
theorem tS.LC {k:D->Lk Fl}{E:Ends}{g:St}{H:Hp}(h:tS X W (λρ S=>ai (fe ρ S) λd a=>k d ρ a) E g H) :
  tE X W fe g H λv f => ∃ J ρ S d r b,Cf X J ρ S g f/\At X.K f J d v/\k d ρ S=ag (r,b)/\Py X W J f r b E:=by
 obtain⟨J,ρ,S,r,b,c,e,z⟩:=h;cases q:fe ρ S with
 |none=>simp[q] at e
 |some o =>
  obtain⟨i,a⟩:=o;simp only[q] at e;cases i with
  |error x =>
   cases e;exact⟨J,ρ,S,.error x,_,c,.nil,q,z⟩
  |ok d=>exact⟨J,ρ,S,.ok d,a,c,.nil,q,λl f v x j m=>⟨l,ρ,a,d,r,b,c.re x j,m,e,z.ex x⟩⟩
theorem tS.Pe {k:eM->Lk Fl}{E:Ends}{f:St}{H:Hp}(h:tS X W (λρ S=>ai (gt ρ S) λd a=>k d ρ a) E f H) :
  tT X W gt f H λb g=>tS X W (k b) E f g:=by
 obtain⟨J,ρ,S,r,i,c,e,z⟩:=h;cases q:gt ρ S with
 |none=>simp[q] at e
 |some o =>
  obtain⟨j,a⟩:=o;simp only[q] at e;cases j with
  |error x =>
   cases e;exact⟨J,ρ,S,.error x,_,c,.nil,q,z⟩
  |ok d =>
   refine⟨J,ρ,S,.ok d,a,c,.nil,q,λn g v x l m=>?_⟩;cases m;exact⟨n,ρ,a,r,i,c.re x l,e,z.ex x⟩
theorem aJ (b:SE X W e fe):SS X W (.Return (ag e) pos) (bg fe):=(GH b).imp λE j H h=>(tS.LC h).mono λv f a=>by obtain⟨J,i,S,d,r,g,c,m,q,z⟩:=a;cases q;exact z J f v Ex.refl c.L0 m
theorem gJ {a b:ak qb}(hc:OI X W c gt)(ha:Q3 X W a f)(hb:Q3 X W b g):SS X W (.If c a b pos) (P5 gt f g):=(Iz hc ha hb).imp λE i H h=>(tS.Pe h).mono λk e d=>by
 cases k with
 |true=>rw[cc rfl];exact d
 |false=>rw[cn #[2]];exact d
theorem tm (f:SE X W e fe)(b:TM e a4 pos.line X.env=wh a8:=by rfl):SS X W (.Expr e pos) (ww fe):=(Eo f b).imp λE g H h=>(tS.LC h).mono λv i a=>by obtain⟨J,k,S,d,r,j,c,m,q,z⟩:=a;cases q;exact z J g i Ex.refl c
theorem Cf.set {J:ak bc}{ρ:Lr}{S:Lq}{b:St}{H:Hp}{i:Nat}{d:D}{v:V}(c:Cf X J ρ S b H)(m:At X.K H J d v):Cf X J (ρ.set i (ag d)) S (b.set i (ag v)) H:=by
 refine⟨by rw[Sn,Sn];exact c.len,λj k h=>?_,c.L0⟩;by_cases a:j=i
 ·subst a;have e:j < ρ.length:=by have:=(ba.mp h).1;rwa [Sn] at this
  rw[S4 e] at h;cases h;exact⟨v,S4 (by rw[← c.len];exact e),m⟩
 rw[Wk (kg a)] at h;obtain⟨l,f,g⟩:=c.env j k h;exact⟨l,by rw[Wk (kg a)];exact f,g⟩
theorem aN {i:Nat}{x:el}{a:Ud}(k:X.N.Nodup)(g:SE X W e fe)(l:X.N[i]?=ag x:=by rfl)(b:Loc X.env.scope x:=by first |exact abu rfl |exact aac rfl)(j:TM e (ag (.Name x a)) pos.line X.env=wh a8:=by rfl)
  (n:X.fn x=a6∨#[22]=ag .local:=by first |exact .inl rfl |exact .inr rfl |assumption) :
  SS X W (.Assign [.Name x a] e pos) (bh i fe):=(GG k l b g j n).imp λE p H h=>(tS.LC h).mono λv o f=>by
 obtain⟨J,t,S,d,r,s,c,m,q,z⟩:=f
 cases q;exact z J _ o Ex.refl (c.set m)
noncomputable def tgD (X:Cx)(u:D->Lr->a5 Lr):TG:=λv e H Q => ∃ J c S d b,Cf X J c S e H/\At X.K H J d v/\u d c=ag b/\∀ a,Cf X J b S a H->Q a H
noncomputable def JK (X:Cx)(u:ak D->Lr->a5 Lr):S5:=λe f H Q => ∃ J c S d a,Cf X J c S f H/\Ly X.K H J d e/\u d c=ag a/\∀ b,Cf X J a S b H->Q b H
def SG (X:Cx)(a:gy)(u:D->Lr->a5 Lr):Prop:=PG X a (tgD X u)
def XC (X:Cx)(a:ak gy)(u:ak D->Lr->a5 Lr):Prop:=TJ X a (JK X u)
theorem PG.imp {c:gy}{t t':TG}(h:PG X c t)(i:∀ v b H Q,t' v b H Q->t v b H Q):PG X c t':=λa s b H v u Q I r z=>h a s b H v u Q I r (i _ _ _ _ z)
theorem TJ.imp {c:ak gy}{t t':S5}(h:TJ X c t)(i:∀ v b H Q,t' v b H Q->t v b H Q):TJ X c t':=λa s b H v u Q I r z=>h a s b H v u Q I r (i _ _ _ _ z)
noncomputable def aE (i:Nat):D->Lr->a5 Lr:=λd a=>ag (a.set i (ag d))
noncomputable def eS:ak D->Lr->a5 Lr:=λa b=>match a with
 |[]=>ag b
 |_=>a4
noncomputable def aS (u:D->Lr->a5 Lr)(us:ak D->Lr->a5 Lr):ak D->Lr->a5 Lr:=λc b=>match c with
 |d::r=>(u d b).bind λa=>us r a
 |[]=>a4
noncomputable def iX (n:Nat)(us:ak D->Lr->a5 Lr):D->Lr->a5 Lr:=λd b=>match d with
 | .tup a=>if a.length=n then us a b else a4
 |_=>a4
theorem aK {i:Nat}{x:el}(b:X.N.Nodup)(g:X.N[i]?=ag x:=by rfl)(a:Loc X.env.scope x:=by first |exact abu rfl |exact aac rfl)(j:X.fn x=a6∨#[22]=ag .local:=by first |exact .inl rfl |exact .inr rfl |assumption) :
  SG X (.Name x pos) (aE i):=(Ey b g a j).imp λv k H Q h=>by
 obtain⟨J,l,S,d,f,c,m,e,z⟩:=h;cases e;exact z _ (c.set m)
theorem g_:XC X [] eS:=S6.imp λv f H Q h=>by
 obtain⟨J,d,S,a,b,c,m,e,z⟩:=h;cases a with
 |nil=>cases e;exact⟨Ly.Lz.mp m,z _ c⟩
 |cons _ _=>cases e
theorem bu {e:gy}{es:ak gy}{u:D->Lr->a5 Lr}{us:ak D->Lr->a5 Lr}(o:SG X e u)(p:XC X es us)
  (i:(RY (e::es) X.env).map (·.2)=WA e X.env::(RY es X.env).map (·.2):=by rfl):XC X (e::es) (aS u us):=(Ci o p i).imp λv t H Q h=>by
 obtain⟨J,q,S,f,b,c,m,e,z⟩:=h;cases f with
 |nil=>cases e
 |cons d r =>
  obtain⟨s,n,rfl,m1,m2⟩:=Ly.Lv.mp m;obtain⟨a,g,j⟩:=hD.mp e;exact⟨s,n,rfl,J,q,S,d,a,c,m1,g,λk l=>⟨J,a,S,r,b,l,m2,j,z⟩⟩
theorem kn {es:ak gy}{k:Nat}{us:ak D->Lr->a5 Lr}{n:Nat}(hc:X.calm=a6)(h:XC X es us)
  (o:(RY es X.env).length=n:=by rfl) (g:(RY es X.env).findIdx? (·.1)=a4:=by rfl):SG X (.Tuple es k pos) (iX n us):=(GN hc h o g).imp λv q H Q h=>by
 obtain⟨J,p,S,d,b,c,m,e,z⟩:=h;cases d with
 |tup i =>
  obtain⟨a,l,rfl,t,f⟩:=At.LF.mp m;simp only[iX] at e;rw[1]
  ·rename_i j;exact⟨a,l,rfl,t.sq,by rw[← f.length];exact j,J,p,S,i,b,c,f,e,z⟩
  cases e
 |_=>cases e
noncomputable def uv (u:D->Lr->a5 Lr)(f:Lk D):Lk Fl:=λa S=>ai (f a S) λd b=>aL ((u d a).map Fl.next) b
theorem Gg {a e:gy}{u:D->Lr->a5 Lr}(k:SE X W e fe)(p:SG X a u)(l:ab6 [a] e pos.line X.env=wh a8:=by rfl)(j:ab7 [a] e X.env=wh a4:=by rfl)
  (o:(RY [a] X.env).map (·.2)=[WA a X.env]:=by rfl):SS X W (.Assign [a] e pos) (uv u fe):=(Cb k p l j o).imp λE t H h=>(tS.LC h).mono λv s i=>by
 obtain⟨J,g,S,d,r,w,c,m,q,z⟩:=i
 cases hu:u d g with
 |none=>simp[hu] at q
 |some b =>
  simp only[hu,UI,bF,LB] at q;cases q;exact⟨J,g,_,d,b,c,m,hu,λf n=>z J f s Ex.refl n⟩
structure Walk (X:Cx) (Jt:It) (ds:ak D) (J0:ak bc) (H0:Hp):Prop where
 len:ds.length<=da
 go:∀ J H i,Ex J0 H0 J H->i<ds.length->Jt.go i H
 Qk:∀ J H (i:Nat) x H',Ex J0 H0 J H->(∀ a∈J,H a≠a4)->i<ds.length->Jt.Qk i H x H'->∃ d,ds[i]?=ag d/\At X.K H' J d x/\LH H H'
 stop:∀ J H i,Ex J0 H0 J H->ds.length<=i->Jt.stop i H
noncomputable def iW (X:Cx)(W:WT)(h:Lk (ak D)):TI:=λi H R => ∃ J e S r d,Cf X J e S i H/\h e S=ag (r,d)/\match r with
 | .ok g => ∀ b a f,Ex J H b a->LX X.K b d a->Walk X f g b a->R f a
 | .error c => ∀ b a,Ex J H b a->LX X.K b d a->W c b d a
def SI (X:Cx)(W:WT)(a iter:gy)(b:Lk (ak D)):Prop:=PI X a iter (iW X W b)
theorem PI.imp {c iter:gy}{t t':TI}(h:PI X c iter t)(i:∀ b H R,t' b H R->t b H R):PI X c iter t':=λa s b H R I z=>h a s b H R I (i _ _ _ z)
noncomputable def fV (u:D->Lr->a5 Lr)(body:Lk Fl):ak D->Lk Fl
 |[],ρ,S=>LB (.next ρ) S
 |d::ds,ρ,S=>match u d ρ with
  |a4=>a4
  |ag c=>ai (body c S) λe b=>match e with
   | .next a=>fV u body ds a b
   | .cont a=>fV u body ds a b
   | .brk a=>LB (.next a) b
   | .ret d=>LB (.ret d) b
noncomputable def kM (c:Lk (ak D))(u:D->Lr->a5 Lr)(body:Lk Fl):Lk Fl:=λa S=>ai (c a S) λb d=>fV u body b a d
theorem gm {V iter:gy}{body:ak qb}{R:Lk (ak D)}{u:D->Lr->a5 Lr}(hp:PassesOwn #[8] X.A X.env X.xe)(hc:X.calm=a6)(B:SI X W V iter R)(hg:SG X V u)(hb:Q3 X W body f)
  (hs:∀ x,UO iter X.env x=wh x:=by intro _;rfl):SS X W (.For V iter body [] pos) (kM R u f):=(GI hp hc B hg hb hs).imp λE σ H h=>by
 obtain⟨J,M,S,r,s,c,e,z⟩:=h;unfold kM at e;cases q:R M S with
 |none=>simp[q] at e
 |some o =>
  obtain⟨U,S1⟩:=o;simp only[q] at e;cases U with
  |error x =>
   cases e;exact⟨J,M,S,.error x,_,c,q,z⟩
  |ok p =>
   refine⟨J,M,S,.ok p,S1,c,q,λZ H0 Jt x0 s0 w=>?_⟩
   refine⟨λi m σ H=>m=p.length-i/\∃ a k l,Ex Z H0 a H/\Cf X a k l σ H/\∃ r s,fV u f (p.drop i) k l=ag (r,s)/\Py X W a H r s E,
    ⟨_,rfl,Z,M,S1,Ex.refl,c.re x0 s0,r,s,by simpa using e,z.ex x0⟩,λi m T F hw=>?_⟩
   obtain⟨hm,a,k,l,ex,P,r1,K,j,ez⟩:=hw;by_cases B:i<p.length
   ·refine .inr ⟨w.go a F i ex B,λn t => ∃ Jy C Sy,Ex Z H0 Jy t/\Cf X Jy C Sy n t/\∃ r s,fV u f (p.drop (i+1)) C Sy=ag (r,s)/\Py X W Jy t r s E,
     λn t hn=>⟨p.length-(i+1),#[1],rfl,hn⟩,λx t y=>?_⟩
    obtain⟨d,ed,ad,sm⟩:=w.Qk a F i x t ex P.L0.all B y;have hd:p.drop i=d::p.drop (i+1):=by rw[S8 B];rw[a7 B] at ed;cases ed;rfl
    rw[hd] at j;unfold fV at j;cases hu:u d k with
    |none=>simp[hu] at j
    |some g =>
     simp only[hu] at j;have O:Ex a F a t:=Ex.same sm;refine⟨a,k,l,d,g,P.re O (P.L0.same sm),ad,hu,λσ2 G=>?_⟩;cases v:f g l with
     |none=>simp[v] at j
     |some o =>
      obtain⟨U,N⟩:=o;simp only[v] at j;have L:=ez.ex O;cases U with
      |error x =>
       cases j;exact⟨a,g,l,.error x,_,G,v,L⟩
      |ok fl =>
       cases fl with
       |next b=>exact⟨a,g,l,.ok (.next b),N,G,v,λY n H2 I Q=>⟨Y,b,N,ex.trans (O.trans I),Q,r1,K,j,L.ex I⟩⟩
       |cont b=>exact⟨a,g,l,.ok (.cont b),N,G,v,λY n H2 I Q=>⟨Y,b,N,ex.trans (O.trans I),Q,r1,K,j,L.ex I⟩⟩
       |brk b=>cases j;exact⟨a,g,l,.ok (.brk b),_,G,v,L⟩
       |ret dd=>cases j;exact⟨a,g,l,.ok (.ret dd),_,G,v,L⟩
   refine .inl ⟨w.stop a F i ex #[0],?_⟩;rw[Ta #[0]] at j;unfold fV at j;cases j;exact ez a T F Ex.refl P
noncomputable def yo (f:Lk D):Lk (ak D):=λa S=>ai (f a S) λd b=>aL (match d with | .tup c=>ag c |_=>a4) b
noncomputable def Dz (f:Lk D):Lk (ak D):=λa S=>ai (f a S) λd b=>aL (match d with | .lst c=>ag c |_=>a4) b
theorem Walk.list {a:bc}{ds:ak D}{xs:ak V}{J:ak bc}{H:Hp}(t:LQ X.K H J a xs)(m:Ly X.K H J ds xs):Walk X (Yg X.K a) ds J H where
 len:=by rw[m.length];exact t.len
 go:=λc f i x b=>by
  have m1:=m.ex x;obtain⟨v,h,_⟩:=m1.get (a7 b);exact⟨xs,v,(t.ex x).sq,h⟩
 Qk:=λc f i v k x j b y=>by
  obtain⟨rfl,g⟩:=y;obtain⟨d,e,a⟩:=(m.ex x).get' (g xs (t.ex x).sq);exact⟨d,e,a,LH.refl _⟩
 stop:=λc f i x b=>⟨xs,(t.ex x).sq,by rw[← m.length];exact b⟩
theorem Walk.tup {a:bc}{ds:ak D}{xs:ak V}{J:ak bc}{H:Hp}(t:TQ X.K H J a xs)(m:Ly X.K H J ds xs):Walk X (Yh X.K a) ds J H where
 len:=by rw[m.length];exact t.len
 go:=λc f i x b=>by
  have m1:=m.ex x;obtain⟨v,h,_⟩:=m1.get (a7 b);exact⟨xs,v,(t.ex x).sq,h⟩
 Qk:=λc f i v k x j b y=>by
  obtain⟨rfl,g⟩:=y;obtain⟨d,e,a⟩:=(m.ex x).get' (g xs (t.ex x).sq);exact⟨d,e,a,LH.refl _⟩
 stop:=λc f i x b=>⟨xs,(t.ex x).sq,by rw[← m.length];exact b⟩
theorem tY {k:D->a5 (ak D)}{i:St}{H:Hp}{R:It->Hp->Prop}(h:iW X W (λρ S=>ai (fe ρ S) λd f=>aL (k d) f) i H R) :
  tE X W fe i H λv b => ∃ J S d ds,LX X.K J S b/\At X.K b J d v/\k d=ag ds/\∀ H' a,LH b H'->Walk X a ds J H'->R a H':=by
 obtain⟨J,ρ,S,r,p,c,e,z⟩:=h;cases q:fe ρ S with
 |none=>simp[q] at e
 |some o =>
  obtain⟨n,f⟩:=o;simp only[q] at e;cases n with
  |error x =>
   cases e;exact⟨J,ρ,S,.error x,_,c,.nil,q,z⟩
  |ok d =>
   refine⟨J,ρ,S,.ok d,f,c,.nil,q,λl b v x j m=>?_⟩;cases hk:k d with
   |none=>simp[hk] at e
   |some ds =>
    simp only[hk,fF,bF,LB] at e;cases e;exact⟨l,_,d,ds,j,m,hk,λH' a g w=>z l H' a (x.trans (Ex.same g)) (j.same g) w⟩
theorem Gm {j:gy}(f:SE X W e fe):SI X W j e (yo fe):=(GM f).imp λn H R h=>(tY h).mono λv k c=>by
 obtain⟨J,S,d,l,s,m,b,z⟩:=c
 cases d with
 |tup o =>
  cases b;obtain⟨a,i,rfl,t,g⟩:=At.LF.mp m;exact⟨a,rfl,⟨i,t.sq⟩,z k _ (LH.refl _) (Walk.tup t g)⟩
 |_=>cases b
theorem Go {j:gy}(f:SE X W e fe):SI X W j e (Dz fe):=(Ew f).imp λn H R h=>(tY h).mono λv k c=>by
 obtain⟨J,S,d,l,s,m,b,z⟩:=c
 cases d with
 |lst o =>
  cases b;obtain⟨a,i,rfl,t,g⟩:=At.LG.mp m;exact⟨a,rfl,⟨i,t.sq⟩,z k _ (LH.refl _) (Walk.list t g)⟩
 |_=>cases b
noncomputable def dL:ak D->a5 (ak D)
 |[.int j]=>if -(2 ^ 62)<=j/\j<=16777216 then ag ((ew j.toNat).map λ(k:Nat)=>D.int k) else a4
 |_=>a4
noncomputable def gE (k:ak D->a5 (ak D))(t:Lk (ak D)):Lk (ak D):=λa S=>ai (t a S) λb c=>aL (k b) c
theorem Walk.range {J:ak bc}{H:Hp}(lo:Int)(n:Nat)(hz:n<=da):Walk X (Xv lo n) ((ew n).map λ(k:Nat)=>D.int (lo+k)) J H where
 len:=by rw[dv,mc];exact hz
 go:=λb c i x a=>by rw[dv,mc] at a;exact a
 Qk:=λb c i v d x e a y=>by
  obtain⟨rfl,rfl⟩:=y;rw[dv,mc] at a;exact⟨.int (lo+i),by rw[dk,Zl a];rfl,#[18],LH.refl _⟩
 stop:=λb c i x a=>by rw[dv,mc] at a;exact a
theorem i8 {k:ak D->a5 (ak D)}{t:Lk (ak D)}{i:St}{H:Hp}{R:It->Hp->Prop}(h:iW X W (λρ S=>ai (t ρ S) λd f=>aL (k d) f) i H R) :
  tA X W t i H λvs b => ∃ J S es ds,LX X.K J S b/\Ly X.K b J es vs/\k es=ag ds/\∀ H' a,LH b H'->Walk X a ds J H'->R a H':=by
 obtain⟨J,ρ,S,r,p,c,e,z⟩:=h;cases q:t ρ S with
 |none=>simp[q] at e
 |some o =>
  obtain⟨n,f⟩:=o;simp only[q] at e;cases n with
  |error x =>
   cases e;exact⟨J,ρ,S,.error x,_,c,.nil,q,z⟩
  |ok es =>
   refine⟨J,ρ,S,.ok es,f,c,.nil,q,λl b v x j m=>?_⟩;cases hk:k es with
   |none=>simp[hk] at e
   |some ds =>
    simp only[hk,fF,bF,LB] at e;cases e;exact⟨l,_,es,ds,j,m,hk,λH' a g w=>z l H' a (x.trans (Ex.same g)) (j.same g) w⟩
theorem dP {l a:gy}{t:Lk (ak D)}{x:el}{p:Ud}(e:x="range")(i:X.mg x=a4)(ha:SA X W [a] t)(k:Gl X x:=by rfl)(g:ek [a] X.env=[(a8,qa a X.env)]:=by rfl):SI X W l (.Call (.Name x p) [a] [] pos) (gE dL t):=by
 subst e;refine PI.imp (AJ k i ha g) λu H R h=>(i8 h).mono λq d f=>?_;obtain⟨J,S,es,o,s,m,b,z⟩:=f;unfold dL at b;split at b
 ·rename_i j;split at b
  ·rename_i c;cases b;obtain⟨v,r,rfl,a1,n⟩:=Ly.Lv.mp m;cases Ly.Lz.mp n;cases At.Lu.mp a1;refine⟨j,rfl,c.1,#[1],z d _ (LH.refl _) ?_⟩;have w:=Walk.range (X:=X) (J:=J) (H:=d) 0 j.toNat (by show j.toNat<=16777216;omega);simpa using w
  cases b
 cases b
end
structure MH (scope:ku) (env:Env):Prop where
 kind:scope.kind = .function
 nd:(scope.names.map (·.1)).Nodup
 names:∀ y∈scope.names,y.2 = .local->scope.names.lookup y.1=ag .local
 frees:∀ y∈scope.names,y.2 = .free->env.kindOf y.1=ag .cell∨env.kindOf y.1=ag .free
theorem eQ {env:Env}:∀ (names:ak (el×Rg)) (a:ak (el×bc)),(∀ y∈names,y.2 = .free->∃ c,env.cells.lookup y.1=ag c)->(∀ x c,a.lookup x=ag c->env.cells.lookup x=ag c) ->
  ∃ cl:ak (el×bc),(acD names a λ(x:el×Rg) r=>(do
    let (name,kind):=x
    if kind==.free then wh (Q5 ((name,← cellOf env name)::r)) else wh (Q5 r):Sem (ForInStep (ak (el×bc)))))=wh cl /\
   (∀ x c,cl.lookup x=ag c->env.cells.lookup x=ag c)/\(∀ x c,a.lookup x=ag c->∃ b,cl.lookup x=ag b)/\(∀ y∈names,y.2 = .free->∃ c,cl.lookup y.1=ag c)
 |[],a,_,ha=>⟨a,by simp,ha,λx c h=>⟨c,h⟩,by simp⟩
 |(n,k)::r,a,hc,ha=>by
  by_cases i:k = .free
  ·subst i;obtain⟨c,m⟩:=hc (n,.free) (eR ..) rfl
   have o:∀ x b,((n,c)::a).lookup x=ag b->env.cells.lookup x=ag b:=λx b h=>by
    rw[Tg] at h;cases d:x==n with
    |true =>
     rw[d] at h;cases h;have:x=n:=VG d;rw[this];exact m
    |false=>rw[d] at h;exact ha x b h
   obtain⟨cl,e,l,f,j⟩:=eQ r ((n,c)::a) (λy hy=>hc y (ee _ hy)) o;have p:cellOf env n=wh c:=by unfold cellOf;rw[m]
   refine⟨cl,?_,l,λx b h=>?_,λy hy g=>?_⟩
   ·rw[XQ];simp only[XR,mz,p,pure_bind];exact e
   ·by_cases d:(x==n)=a6
    ·exact f x c (by rw[Tg,d])
    exact f x b (by rw[Tg,acN.mpr d];exact h)
   rcases fx.mp hy with rfl |hy
   ·exact f n c (by rw[Tg,XR])
   exact j y hy g
  obtain⟨cl,e,l,f,j⟩:=eQ r a (λy hy=>hc y (ee _ hy)) ha;refine⟨cl,?_,l,f,λy hy g=>?_⟩
  ·rw[XQ];have:(k==PY)=a8:=by simpa using i
   simp only[this,gh,la,pure_bind];exact e
  rcases fx.mp hy with rfl |hy
  ·exact ib g i
  exact j y hy g
noncomputable def mV (X:Cx)(scope:ku)(cl:ak (el×bc))(c:ak el)(C:bc)(b:bo)(a:Hp)(fp:ak bc):Cx:=
 { X with N:=c,s₀:=b,H₀:=a,env:=compEnvC scope cl C X.env,outer:=X.stack,ex:=fp,fn:=λx=>scope.names.lookup x==ag .cell,pn:=[],xe:=λ_ _=>False }
theorem fw {env:Env}{x:el}:∀ {names:ak (el×Rg)}{k:Rg},(names.map λ(n,k)=>if (k==PY&&env.scope.kind==.function&&env.kindOf n==ag .cell) then (n,P6) else (n,k)).lookup x=ag k ->
  (k = .cell∨k = .free)->(x,PY)∈names∨(x,P6)∈names
 |[],_,h,_=>by simp at h
 |(n,k0)::r,k,h,a=>by
  have b:∀ {k'},(r.map λ(n,k)=>if (k==PY&&env.scope.kind==.function&&env.kindOf n==ag .cell) then (n,P6) else (n,k)).lookup x=ag k'->(k' = .cell∨k' = .free)->(x,PY)∈(n,k0)::r∨(x,P6)∈(n,k0)::r:=λh a=>(fw h a).imp (ee _) (ee _);rw[fh] at h;by_cases hc:(k0==PY&&env.scope.kind==.function&&env.kindOf n==ag .cell)=a6
  ·simp only[hc,mz,Tg] at h;cases hx:x==n with
   |true =>
    have e:x=n:=VG hx;subst e;have:k0 = .free:=by simp at hc;exact hc.1.1
    subst this;exact .inl (eR ..)
   |false=>rw[hx] at h;exact b h a
  simp only[hc,la,Tg,gh] at h;cases hx:x==n with
  |true =>
   rw[hx] at h;have e:x=n:=VG hx;subst e;cases h;rcases a with rfl |rfl
   ·exact .inr (eR ..)
   exact .inl (eR ..)
  |false=>rw[hx] at h;exact b h a
noncomputable def bT {α:Type}(ts:Nat)(ix:ak Nat)(a:ak (a5 α)):ak (a5 α):=eh ts a4++ix.map λi=>(a[i]?).getD a4
noncomputable def iQ (ts:ak el)(ix:ak Nat)(N:ak el):ak el:=ts++ix.map λi=>N.getD i XI
theorem hV {env:Env}{x:el}:∀ {names:ak (el×Rg)},names.lookup x=ag .free ->
  (names.map λ(n,k)=>if (k==PY&&env.scope.kind==.function&&env.kindOf n==ag .cell) then (n,P6) else (n,k)).lookup x=ag .cell ∨
  (names.map λ(n,k)=>if (k==PY&&env.scope.kind==.function&&env.kindOf n==ag .cell) then (n,P6) else (n,k)).lookup x=ag .free
 |[],h=>by simp at h
 |(n,k0)::r,h=>by
  rw[fh];rw[Tg] at h;by_cases hc:(k0==PY&&env.scope.kind==.function&&env.kindOf n==ag .cell)=a6
  ·simp only[hc,mz,Tg];cases hx:x==n with
   |true=>exact #[9]
   |false=>rw[hx] at h;exact hV h
  simp only[hc,la,Tg,gh];cases hx:x==n with
  |true=>rw[hx] at h;exact .inr h
  |false=>rw[hx] at h;exact hV h
theorem lookup_mem {x:el}{k:Rg}:∀ {names:ak (el×Rg)},names.lookup x=ag k->(x,k)∈names
 |[],h=>by simp at h
 |(n,k0)::r,h=>by
  rw[Tg] at h;cases hx:x==n with
  |true=>rw[hx] at h;cases h;rw[VG hx];exact eR ..
  |false=>rw[hx] at h;exact ee _ (lookup_mem h)
theorem bC:∀ (names:ak (el×Rg)) (n:Nat) (a:ak (el×bc)),ze n names a=ze n names []++a
 |[],_,_=>rfl
 |(x,k)::r,n,a=>by
  unfold ze;split
  ·rw[bC r _ ((x,n)::a),bC r _ [(x,n)],j0];rfl
  exact bC r n a
theorem im {x:el}{c:bc}:∀ {names:ak (el×Rg)}{n:Nat},(x,c)∈ze n names []->(x,P6)∈names
 |[],_,h=>by cases h
 |(y,k)::r,n,h=>by
  unfold ze at h;split at h
  ·rename_i a;rw[bC] at h;rcases k6.mp h with h |h
   ·exact ee _ (im h)
   have:=gA.mp h;cases this;rw[VG a];exact eR ..
  exact ee _ (im h)
theorem d4 {x:el}:∀ {names:ak (el×Rg)}{n:Nat},(x,P6)∈names->∃ c,(ze n names []).lookup x=ag c
 |(y,k)::r,n,h=>by
  unfold ze;rcases fx.mp h with e |h
  ·cases e;rw[cc (by rfl),bC,aad];cases q:(ze (n+1) r []).lookup x with
   |some c=>exact⟨c,rfl⟩
   |none=>exact⟨n,by simp⟩
  split
  ·obtain⟨c,e⟩:=d4 (n:=n+1) h;rw[bC,aad,e];exact⟨c,rfl⟩
  exact d4 h
theorem pG {x:el}{k a:Rg}:∀ {names:ak (el×Rg)},(names.map (·.1)).Nodup->(x,k)∈names->(x,a)∈names->k=a
 |(y,k0)::r,nd,h,h'=>by
  obtain⟨n1,n2⟩:=Up.mp nd;rcases fx.mp h with e |p<;>rcases fx.mp h' with b |q
  ·cases e;cases b;rfl
  ·cases e;exact ib (q5.mpr ⟨_,q,rfl⟩) n1
  ·cases b;exact ib (q5.mpr ⟨_,p,rfl⟩) n1
  exact pG n2 p q
structure OB (X:Cx) (scope:ku) (cl:ak (el×bc)) (s3:bo) (h4:ja):Prop where
 out:∀ x c,cl.lookup x=ag c->X.env.cells.lookup x=ag c∨(s3.heap.objs.size<c/\h4.IsCell c a4)
 inj:∀ x y c,cl.lookup x=ag c->cl.lookup y=ag c->x=y
 has:∀ x,(x,PY)∈scope.names∨(x,P6)∈scope.names->∃ c,cl.lookup x=ag c
 frees:∀ x c,scope.names.lookup x=ag .free->cl.lookup x=ag c->X.env.cells.lookup x=ag c
 own:∀ x c,scope.names.lookup x=ag .cell->cl.lookup x=ag c->s3.heap.objs.size<c
theorem OB.of {X:Cx}{i:Ln}{m:St}{k:Hp}{scope:ku}{cl:ak (el×bc)}{b:bo}{o:Obj}(I:Inv X i m k b)(S:MH scope X.env)(f:∀ x c,cl.lookup x=ag c->#[20]=ag c)(s:∀ y∈scope.names,y.2 = .free->∃ c,cl.lookup y.1=ag c) :
  OB X scope (ze (b.heap.objs.size+1) scope.names cl) b (abZ (b.heap.push o) scope.names):=by
 have ok:=cellsFrom_ok scope.names (b.heap.push o) (b.heap.objs.size+1) [] ⟨λ_ _ p=>(nomatch p),WU⟩ (by rw[nC];exact e9 _);rw[nC] at ok
 have g:∀ x c,(ze (b.heap.objs.size+1) scope.names cl).lookup x=ag c->((ze (b.heap.objs.size+1) scope.names []).lookup x=ag c)∨((ze (b.heap.objs.size+1) scope.names []).lookup x=a4/\cl.lookup x=ag c):=λx c h=>by
  rw[bC,aad] at h;cases q:(ze (b.heap.objs.size+1) scope.names []).lookup x with
  |some d=>rw[q] at h;exact .inl h
  |none=>rw[q] at h;exact .inr ⟨rfl,h⟩
 have old:∀ x c,#[20]=ag c->c<b.heap.objs.size:=λx c h=>let ⟨v,q⟩:=I.cell x c h;q.lt;refine⟨λx c h=>?_,λx y c hx l=>?_,λx hx=>?_,λx c j h=>?_,λx c j h=>?_⟩
 ·rcases g x c h with q |⟨_,q⟩
  ·have:=ok.empty x c (mem_of_lookup q);exact .inr ⟨this.2,this.1⟩
  exact .inl (f x c q)
 ·rcases g x c hx with q |⟨_,q⟩<;>rcases g y c l with r |⟨_,r⟩
  ·exact name_of_addr ok.apart (mem_of_lookup q) (mem_of_lookup r)
  ·have a:=(ok.empty x c (mem_of_lookup q)).2;exact ib (i3 (UJ (old y c (f y c r))) a) (oe _)
  ·have a:=(ok.empty y c (mem_of_lookup r)).2;exact ib (i3 (UJ (old x c (f x c q))) a) (oe _)
  exact I.ok.inj x y c (f x c q) (f y c r)
 ·rw[bC,aad];cases q:(ze (b.heap.objs.size+1) scope.names []).lookup x with
  |some d=>exact⟨d,rfl⟩
  |none =>
   rcases hx with hx |hx
   ·exact s _ hx rfl
   obtain⟨c,e⟩:=d4 (n:=b.heap.objs.size+1) hx;rw[q] at e;cases e
 ·rcases g x c h with q |⟨_,q⟩
  ·have:=pG S.nd (lookup_mem j) (im (mem_of_lookup q));cases this
  exact f x c q
 rcases g x c h with q |⟨q,_⟩
 ·exact(ok.empty x c (mem_of_lookup q)).2
 obtain⟨d,e⟩:=d4 (n:=b.heap.objs.size+1) (lookup_mem j);rw[q] at e;cases e
theorem qB {M:Model}{A:iv}{E:Lm}{s:bo}{scope:ku}{globals:bc}{cl:ak (el×bc)}{qual:el}{env:Env}{Q:Env->bo->Prop}
  (a:Q (newEnv scope s.heap.objs.size globals (ze (#[15]) scope.names cl) qual a4 .none (ag env) YY) { s with heap:=abZ (s.heap.push { cls:=.type "dict",data:=.dict #[] }) scope.names }) :
  dr M A (abx scope globals cl [] qual a4 .none (ag env)) Q E s:=by
 simp only[abx,aci,mz];refine av (wpAny_alloc ?_);refine av (wpAny_layCells _ (λname kind cells=>by cases hkc:kind==P6<;>simp[hkc]) _ _ _ _ ?_);rw[show ({ s with heap:=s.heap.push { cls:=.type "dict",data:=.dict #[] } }:bo).heap.objs.size=#[15] from nC ..];rw[aaw];exact av (ay (ay a))
section
variable {X:Cx}{pins:Ln}{σ:St}{H:Hp}{s:bo}
theorem Inv.enter {scope:ku}{cl:ak (el×bc)}{ts:ak el}{ix:ak Nat}{fp:ak bc}{j:bo}{D:ja}{C:Hp}{m:Lo}{tk:Nat}(I:Inv X pins σ C j)(S:MH scope X.env)(n:OB X scope cl j D)
  (R:∀ t∈ix,scope.names.lookup (X.N.getD t XI)=ag .free)
  (f:∀ b∈fp,g0 X pins C b) (G:∀ b∈fp,∃ o,j.heap.get? b=ag o) (k:∀ b o,j.heap.get? b=ag o->D.get? b=ag o) (hn:D.Ns j.heap.objs.size m) :
  Inv (mV X scope cl (iQ ts ix X.N) j.heap.objs.size j C fp) [] (bT ts.length ix σ) C { j with heap:=D,toks:=tk }:=by
 have own:∀ b o,j.heap.get? b=ag o->∀ c,j.heap.objs.size<c->c≠b:=λb o e c h z=>oe _ (Vn h (z▸en e))
 refine⟨⟨I.ok.mod,S.kind,I.ok.glob,I.ok.blt,e9 _,n.inj,λx P=>?_,(λx c a e=>J8 (n.own x c (VG a) e)),I.ok.hd,I.ok.frames,#[9],λb hb=>⟨?_,λx c e=>?_⟩,I.bs,fg I.ok.SQ I.sz,λb o e hb=>?_,λb hb z=>?_,I.stack,I.QC⟩,
  rfl,I.bare,Un.kept k,⟨m,hn,λi x v Q T e3=>?_⟩,λx c e=>?_,I.fresh,λx c e=>?_,λp hp=>ib (show p∈([]:Ln) from hp) #[3],I.LW.kept k,?_⟩
 ·rcases P with z |z
  ·exact n.has x (fw z (#[9]))
  exact n.has x (fw z (.inr rfl))
 ·obtain⟨o,A⟩:=G b hb;exact m3 (en A)
 ·rcases n.out x c e with q |q
  ·exact(f b hb).2.2.2.2.1 x c q
  obtain⟨o,A⟩:=G b hb;exact own b o A c q.1
 ·obtain⟨Y,_,_,M,_⟩:=f b hb;rcases M with z |z
  ·exact I.ok.RL b o e z
  exact ib (i3 (en e) (fg I.ok.SQ z)) (oe _)
 ·obtain⟨Y,U,f2,M,_⟩:=f b hb;rcases fx.mp (I.Pr b z) with e |e
  ·exact U e
  exact f2 e
 ·-- a captured name
  have d:(bT ts.length ix σ)[i]?=ag (ag v):=T;have s:(iQ ts ix X.N)[i]?=ag x:=Q;unfold bT at d;unfold iQ at s;by_cases E:i<ts.length
  ·rw[h7 (by simpa using E),QH] at d;rw[cc E] at d;cases d
  rw[h6 (by simpa using E)] at d;rw[h6 (by simpa using E)] at s;rw[Pf] at d;rw[dk] at d s;cases et:ix[i-ts.length]? with
  |none=>rw[et] at d;cases d
  |some t =>
   rw[et] at d s;simp only[UI,ZY] at d s
   have H : σ[t]?=ag (ag v):=by
    cases q : σ[t]? with
    |none=>rw[q] at d;cases d
    |some w=>rw[q] at d;simp only[XS] at d;rw[d]
   have J:t<X.N.length:=by rw[← I.len];exact(ba.mp H).1
   have W:X.N[t]?=ag x:=by rw[Zm,a7 J] at s;rw[a7 J];simp only[XS] at s;rw[s]
   have F:scope.names.lookup x=ag .free:=by have:=R t (ra et);rwa [s] at this
   have L:=lookup_mem F;have g:=S.frees _ L rfl;obtain⟨m0,_,V⟩:=I.loc
   obtain⟨u,r,l⟩:=V t x v W H (by
    rcases g with z |z
    ·exact .inr (.inl z)
    exact .inr (.inr z))
   refine⟨u,r,.inr ⟨hV F,?_⟩⟩;obtain⟨c,K⟩:=n.has x (.inl L);have Z:=n.frees x c F K;rcases l with ⟨kl,_⟩ |⟨_,c',O,cell⟩
   ·have y:X.env.kindOf x=ag .local:=kl;rcases g with z |z
    ·have B:X.env.kindOf x=ag .cell:=z;rw[y] at B;cases B
    have B:X.env.kindOf x=ag .free:=z;rw[y] at B;cases B
   rw[Z] at O;cases O;exact⟨c,K,cell.keeps k⟩
 ·rcases n.out x c e with q |q
  ·obtain⟨v,o,A,hd⟩:=I.cell x c q;exact⟨v,o,k c o A,hd⟩
  exact⟨_,q.2⟩
 ·rcases n.out x c e with q |q
  ·exact I.NA x c q
  exact I.LW.fresh (J8 q.1)
 show (bT ts.length ix σ).length=(iQ ts ix X.N).length;unfold bT iQ;simp
theorem Inv.leave {scope:ku}{cl:ak (el×bc)}{s:ak el}{m:St}{fp:ak bc}{g s':bo}{h':ja}{j H':Hp}{r:Ln}(I:Inv X pins σ j g)(f:∀ b∈fp,g0 X pins j b)
  (i:Inv (mV X scope cl s g.heap.objs.size g j fp) r m H' s') (k:∀ b,b≠g.heap.objs.size->h'.get? b=s'.heap.get? b):Inv X pins σ H' { s' with heap:=h' }:=by
 have un:Un (QU X.stack) fp j H' g.heap s'.heap:=i.base;have l:∀ b o,g.heap.get? b=ag o->b≠g.heap.objs.size:=λb o e=>m3 (en e)
 have p:Un (QU X.stack) fp j H' g.heap h':=by
  refine⟨λb o e n hb h=>?_,λb o e n hb h=>?_,un.free,λb o e h=>?_,un.Po,un.O6,un.Pp⟩
  ·rw[k b (l b o e)];exact un.keep b o e n hb h
  ·rw[k b (l b o e)];exact un.slot b o e n hb h
  rw[k b (l b o e)];exact un.there b o e h
 have LW:NL X.prog X.w H' h':=λb u e=>by
  have x:H' g.heap.objs.size=a4:=i.free;have ne:∀ c v,H' c=ag v->c≠g.heap.objs.size:=λc v q z=>by rw[z,x] at q;cases q
  refine(i.LW b u e).OC (λc v hc q=>?_) (λ_ q=>q) λ_ _ q=>q;rw[k c]
  ·exact q
  rcases hc with z |z
  ·rw[z];exact ne b u e
  exact ne c _ z
 have os:s'.os=g.os:=i.os;exact I.VQ (s':={ s' with heap:=h' }) os p LW i.bare λb hb=>let ⟨_,a,_,t,c,d⟩:=f b hb;⟨t,a,c,d⟩
end
section
variable {prog:e8}{w:hL}{A:iv}{R:ac4->bo->Prop}{s:bo}
theorem uj {elt target iter:gy}{ifs:ak gy}{scope:ku}{pos:Ud}{it l:ax}{env:Env}(I:Nat->bo->Prop)
  (y:∀ n s,I n s->dr #[5] A (aaI it) (λr d=>match r with
   |a4=>R (.ok .next) d
   |ag v=>dr #[5] A (Wq target it v) (λ_ z=>dr #[5] A (WA target env v) (λ_ i =>
     dr #[5] A (acD ifs a6 λc r=>if r=a6 then do let ok ← isTrue c env (qa c env);wh (Q5 ok) else wh (Q5 r)) (λok b =>
      if ok=a6 then dr #[5] A (qa elt env) (λx k =>
       dr #[5] A (call (.builtin "list.append") [l,x]) (λ_ j => ∃ m,m<n/\I m j) (λ_ _=>False) k) (λ_ _=>False) b
      else ∃ m,m<n/\I m b) (λ_ _=>False) i) (λ_ _=>False) z) (λ_ _=>False) d) (λ_ _=>False) s)
  (n:Nat) (h:I n s):XW #[5] A (.compLoop (.ListComp elt [⟨target,iter,ifs,0⟩] scope pos) 0 it l env) R s:=by
 have no:∀ {α:Type}{t:Sem α}{Q : α->bo->Prop}{E:Lm}{s:bo},dr #[5] A t Q (λ_ _=>False) s->dr #[5] A t Q E s:=λh=>ro h (λ_ _ q=>q) λ_ _ f=>f.elim;refine codeAny_loop rfl I (λn s C=>?_) n h;show dr _ A ((compTurn (.ListComp elt [⟨target,iter,ifs,0⟩] scope pos) 0 it l env).onRaise (λx=>do noteFrame x env;theTreesLotGoes x)) _ _ s;refine wpAny_noted ?_;rw[compTurn_list];refine av (Z_ (av (ro (no (y n s C)) (λr d g=>?_) λ_ _ a=>a)));cases r with
 |none=>exact ay g
 |some v =>
  refine av (ro (no g) (λ_ z B=>?_) λ_ _ a=>a);refine av (ro (no B) (λ_ i p=>av (ro (no p) (λok b e=>?_) λ_ _ a=>a)) λ_ _ a=>a);cases ok with
  |false=>exact ay ⟨rfl,e⟩
  |true =>
   exact av (av (ro (no e) (λx k u=>av (ro (no u) (λ_ j o=>ay (ay ⟨rfl,o⟩)) λ_ _ a=>a)) λ_ _ a=>a))
end
section
variable {X:Cx}{pins:Ln}{σ:St}{H:Hp}{s:bo}{D₀:bc}
theorem Inv.adopt {ys:ak V}{its:ak ax}{n:Nat}(I:#[10])(f:g0 X pins H D₀)(e:s.heap.get? D₀=ag { cls:=#[14],data:=.seq its.toArray n })(r:Vals ys its)(hz:ys.length<=da):Inv X pins σ (upd H D₀ (.lst ys)) s:=by
 obtain⟨j,g,m,l,d,i⟩:=f;have ne:∀ b o,H b=ag o->b≠D₀:=λb o q=>aM q j
 have q:=I.step (h':=s.heap) (H':=upd H D₀ (.lst ys)) (g':=s.gens) (d':=s.drawn) (t':=s.toks) (ch:=[D₀]) (λb hb=>by
   have:b=D₀:=#[17]
   subst this
   exact⟨l,g,d,i⟩)
  (λb o _ _ _ e _=>e) (λb o _ _ _ e _=>⟨o.slots,e⟩) (λb o hb _ k=>by rw[aH (λz=>hb (by simp[z]))];exact k) (λb o _ e=>⟨o,e⟩)
  (λb a q=>by rw[aH (ne b _ q)];exact q) (λb o a q=>by rw[aH (ne b _ q)];exact q) (λb p q=>⟨#[],by rw[aH (ne b _ q),q];simp⟩) (λ_ h=>h) (λb u q=>?_) I.bare
 ·exact q
 by_cases hb:b=D₀
 ·subst hb;rw[LD] at q;cases q;exact⟨hz,its,n,r,e⟩
 rw[aH hb] at q;exact(I.LW b u q).OC (λc v _ z=>z) (λc z=>by rw[aH (ne c _ z)];exact z) λc a z=>by rw[aH (ne c _ z)];exact z
end
def Wi (X:Cx)(W:WT)(ifs:ak gy)(g:Lk eM):Prop:=
 ∀ (a:Ln) (s:bo) (b:St) (H:Hp) (Q:eM->Hp->Prop),Inv X a b H s->tT X W g b H Q ->
  dr #[8] X.A (acD ifs a6 λc r=>if r=a6 then do let ok ← isTrue c X.env (qa c X.env);wh (Q5 ok) else wh (Q5 r)) (TP X a b Q) X.xe s
noncomputable def dB:Lk eM:=λ_ S=>LB a6 S
theorem df {X:Cx}{W:WT}:Wi X W [] dB:=by intro a s b H Q I h;rw[aaw];exact ay ⟨H,I,on h⟩
theorem g9 {X:Cx}{W:WT}{c:gy}{g:Lk eM}(hc:OI X W c g):Wi X W [c] g:=by intro a s d H Q I h;rw[XQ];simp only[mz,aaw];refine av (av (LO (hc a s d H Q I h) λb e q=>ay ?_));exact ay q
noncomputable def TX {α:Type}(m:Out α):a5 (α×Lq):=match m with
 |ag (.ok a,S)=>ag (a,S)
 |_=>a4
noncomputable def b8 (u:D->Lr->a5 Lr)(gt:Lk eM)(fe:Lk D):ak D->Lr->Lq->a5 (ak D×Lq)
 |[],_,S=>ag ([],S)
 |d::ds,ρ,S=>(u d ρ).bind λa=>(TX (gt a S)).bind λ(k,b) =>
  if k=a6 then (TX (fe a b)).bind λ(y,c)=>(b8 u gt fe ds a c).map λ(f,e)=>(y::f,e)
  else b8 u gt fe ds a b
noncomputable def cy (n:Nat)(ix:ak Nat)(c:Lk (ak D))(u:D->Lr->a5 Lr)(gt:Lk eM)(fe:Lk D):Lk D:=λa S=>ai (c a S) λb d =>
 match b8 u gt fe b (bT n ix a) d with
 |ag (out,S2)=>LB (.lst out) S2
 |a4=>a4
abbrev W0:WT:=λ_ _ _ _=>False
section
variable {X:Cx}{W:WT}
structure CompEnd (X:Cx) (pins:Ln) (σ:St) (J0:ak bc) (H0:Hp) (S2:Lq) (out:ak D) (a C:bc) (s':bo):Prop where
 ns:∃ m,s'.heap.Ns C m
 own:X.s₀.heap.objs.size<=C/\C≠X.env.locals/\(∀ x c,X.env.cells.lookup x=ag c->c≠C)/\∀ p∈X.pn++pins,p.1≠C
 fin:∀ h',(∀ b,b≠C->h'.get? b=s'.heap.get? b)->∃ J' H1 ys,Inv X pins σ (upd H1 a (.lst ys)) { s' with heap:=h' }/\Ex J0 H0 J' H1/\LX X.K J' S2 H1/\Ly X.K H1 J' out ys/\H1 a=a4/\ys.length<=da/\upd H1 a (.lst ys) C=a4
theorem CompEnd.Wj {c:Ln}{f:St}{h:ak bc}{g:Hp}{S2:Lq}{out:ak D}{a C:bc}{s':bo}(ce:CompEnd X c f h g S2 out a C s')(h':ja)(k:∀ b,b≠C->h'.get? b=s'.heap.get? b) :
  ∃ d H',Inv X c f H' { s' with heap:=h' }/\Ex h g d H'/\LX X.K d S2 H'/\At X.K H' d (.lst out) (.ref a)/\H' C=a4:=by
 obtain⟨d,o,n,i,l,st,ad,e,j,m⟩:=ce.fin h' k;exact⟨d,_,i,l.trans (Ex.same (aO e _)),st.same (aO e _),At.M0 ad e st.all j,m⟩
def yz (X':Cx)(m:Nat->ja->Prop)(fp:ak bc)(a:bc)(u:D->Lr->a5 Lr)(gt:Lk eM)(fe:Lk D)(ds out:ak D)(k:ak bc)(l:Hp)(S2:Lq)(n:Nat)(s':bo):Prop:=
 ∃ (i:Nat) (e:St) (d:Hp) (f:ak bc) (c:Lr) (h:Lq) (dn rest:ak D) (g:ak V) (j:ak ax) (ep:Nat),
  n=ds.length-i+1/\i<=ds.length/\Inv X' [] e d s'/\m i s'.heap/\(∀ b∈a::fp,d b=a4)/\Ex k l f d/\Cf X' f c h e d /\
  s'.heap.get? a=ag { cls:=#[14],data:=.seq j.toArray ep }/\Vals g j/\Ly X'.K d f dn g/\dn.length<=i/\b8 u gt fe (ds.drop i) c h=ag (rest,S2)/\out=dn++rest
theorem Bt {X':Cx}{tg elt:gy}{ifs:ak gy}{u:D->Lr->a5 Lr}{gt:Lk eM}{fe:Lk D}{it a:bc}{fp:ak bc}{tn:Nat->ja->Prop}{Jt:It}{ds out:ak D}{Y:ak bc}{U:Hp}{S2:Lq}{R:ac4->bo->Prop}
  (hx:X'.xe=λ_ _=>False) (hc:X'.calm=a6) (sg:SG X' tg u) (st:Wi X' W0 ifs gt) (se:SE X' W0 elt fe) (T:Turn X'.prog X'.w X'.K tg Jt fp it tn) (wk:Walk X' Jt ds Y U) (na:a∉fp) (hz:ds.length<=da)
  (fin:∀ (Nf:Ln) (H':Hp) (b:bc),b∈a::fp->H' b=a4->(∀ p∈Nf,p.1≠b)->g0 X' Nf H' b)
  (YB:∀ (s':bo) (j:St) (H':Hp) (B:ak bc) (G:Lr) (ys:ak V) (us:ak ax) (ep:Nat),Inv X' [] j H' s'->Ex Y U B H'->Cf X' B G S2 j H'->H' a=a4->s'.heap.get? a=ag { cls:=#[14],data:=.seq us.toArray ep }->Vals ys us->Ly X'.K H' B out ys->ys.length<=da->R (.ok .next) s') :
  ∀ n s,yz X' tn fp a u gt fe ds out Y U S2 n s->dr (eG X'.prog X'.w) X'.A (aaI (.ref it)) (λr P=>match r with
   |a4=>R (.ok .next) P
   |ag v=>dr (eG X'.prog X'.w) X'.A (Wq tg (.ref it) v) (λ_ QK=>dr (eG X'.prog X'.w) X'.A (WA tg X'.env v) (λ_ s₂ =>
     dr (eG X'.prog X'.w) X'.A (acD ifs a6 λc r=>if r=a6 then do let ok ← isTrue c X'.env (qa c X'.env);wh (Q5 ok) else wh (Q5 r)) (λok O =>
      if ok=a6 then dr (eG X'.prog X'.w) X'.A (qa elt X'.env) (λx s₄ =>
       dr (eG X'.prog X'.w) X'.A (call (.builtin "list.append") [.ref a,x]) (λ_ s₅ => ∃ m,m<n/\yz X' tn fp a u gt fe ds out Y U S2 m s₅) (λ_ _=>False) s₄) (λ_ _=>False) O
      else ∃ m,m<n/\yz X' tn fp a u gt fe ds out Y U S2 m O) (λ_ _=>False) s₂) (λ_ _=>False) QK) (λ_ _=>False) P) (λ_ _=>False) s:=by
 rintro n s ⟨i,j,H',B,G,Sx,dn,rest,ys,us,ep,hn,hi,I',tni,fr,ex,cx,ga,vs,ad,dl,l,eo⟩;have fa:=fin [] H' a (eR ..) (fr a (eR ..)) (λp E=>by simp at E)
 have I1:Inv X' [(a,{ cls:=#[14],data:=.seq us.toArray ep })] j H' s:=I'.NS λp E=>by
  have:p=(a,{ cls:=#[14],data:=.seq us.toArray ep }):=by simpa using E
  subst this;exact⟨ga,fa.1,fa.2.1,fa.2.2.1,λv z=>by cases z⟩
 have YC:∀ H1:Hp,(∀ b∈fp,H1 b=a4)->∀ b∈fp,g0 X' [(a,{ cls:=#[14],data:=.seq us.toArray ep })] H1 b:=λH1 hn b hb=>fin _ H1 b (ee _ hb) (hn b hb) λp E=>by
  have:p=(a,{ cls:=#[14],data:=.seq us.toArray ep }):=by simpa using E
  subst this;intro z;have z':a=b:=z;exact na (z'▸hb)
 by_cases Nc:i<ds.length
 ·refine LO (T.item X' rfl rfl rfl hc i _ s j H' (λ_ _=>False) I1 (YC H' λb hb=>fr b (ee _ hb)) tni (wk.go B H' i ex Nc)) λr s1 H=>?_;obtain⟨v,Z,h1⟩:=H;subst Z;refine LO h1 λ_ s5 H=>?_;obtain⟨x,X,I5,r5,y5,YD,Yi⟩:=H;obtain⟨d,ed,ad5,sm⟩:=wk.Qk B H' i x X ex cx.L0.all Nc y5;have x5:Ex B H' B X:=Ex.same sm;have c5:Cf X' B G Sx j X:=cx.re x5 (cx.L0.same sm);have hd:ds.drop i=d::ds.drop (i+1):=by rw[S8 Nc];rw[a7 Nc] at ed;cases ed;rfl
  rw[hd,b8] at l;obtain⟨h,eu,l⟩:=hD.mp l;obtain⟨⟨k,W⟩,eg,l⟩:=hD.mp l
  have eg':gt h Sx=ag (.ok k,W):=by
   unfold TX at eg;split at eg
   ·rename_i q;cases eg;exact q
   cases eg
  have Yj:=I5.pinned (YC X Yi) (T.obj _ _ YD)
  have keep:∀ {f:St}{C:Hp}{I:bo},Inv X' ([(a,{ cls:=#[14],data:=.seq us.toArray ep })]++mJ fp s5.heap) f C I->tn (i+1) I.heap/\(∀ b∈a::fp,C b=a4)/\I.heap.get? a=ag { cls:=#[14],data:=.seq us.toArray ep }:=λ{f C I} S=>by
   have pa:=S.pin (a,{ cls:=#[14],data:=.seq us.toArray ep }) (mm _ (UE _ #[3]));refine⟨T.keep _ _ _ YD λb hb o e=>(S.pin (b,o) (mm _ (mm _ (hZ hb e)))).1,λb hb=>?_,pa.1⟩;rcases fx.mp hb with rfl |hb
   ·exact pa.2.1
   obtain⟨o,e,_⟩:=T.obj _ _ YD b hb;exact(S.pin (b,o) (mm _ (mm _ (hZ hb e)))).2.1
  have nop:∀ {f:St}{C:Hp}{I:bo},Inv X' ([(a,{ cls:=#[14],data:=.seq us.toArray ep })]++mJ fp s5.heap) f C I->Inv X' [] f C I:=λ{f C I} S=>S.NS λp E=>ib E #[3];have g:=sg _ s5 j X x v (λf C=>C=X/\Cf X' B h Sx f C) Yj r5 ⟨B,G,Sx,d,h,c5,ad5,eu,λf c6=>⟨rfl,c6⟩⟩;rw[hx] at g;refine LO g λ_ I H=>?_;obtain⟨f,C,S,eH,c6⟩:=H;subst eH
  have t:=st _ I f C (λb M=>b=k/\∃ J,Ex B C J M/\Cf X' J h W f M) S ⟨B,h,Sx,.ok k,W,c6,.nil,eg',λJ M b x7 s7 eb=>by
   cases eb
   exact⟨rfl,J,x7,c6.re x7 s7⟩⟩
  rw[hx] at t;refine LO t λb s7 H=>?_;obtain⟨M,I7,eb,J,x7,c7⟩:=H;subst eb;have ex7:Ex Y U J M:=ex.trans (x5.trans x7);have ad7:Ly X'.K M J dn ys:=(ad.ex x5).ex x7;cases b with
  |false =>
   rw[cn #[2]];simp only[gh,la] at l;obtain⟨t8,XE,g8⟩:=keep I7;exact⟨ds.length-(i+1)+1,#[1],i+1,f,M,J,h,W,dn,rest,ys,us,ep,rfl,#[1],nop I7,t8,XE,ex7,c7,g8,vs,ad7,#[1],l,eo⟩
  |true =>
   rw[cc rfl];simp only[mz] at l;obtain⟨⟨y,Sy⟩,ey,l⟩:=hD.mp l;obtain⟨⟨ry,S3⟩,ey2,l⟩:=d7.mp l
   have ey':fe h W=ag (.ok y,Sy):=by
    unfold TX at ey;split at ey
    ·rename_i q;cases ey;exact q
    cases ey
   simp only[aae] at l;obtain⟨Z,es⟩:=l;subst es Z;have t:=se _ s7 f M (λw L => ∃ N,Ex J M N L/\Cf X' N h Sy f L/\At X'.K L N y w) I7 ⟨J,h,W,.ok y,Sy,c7,.nil,ey',λN L w x8 Q aw=>⟨N,x8,c7.re x8 Q,aw⟩⟩;rw[hx] at t;refine LO t λw Q H=>?_;obtain⟨vw,L,I8,rw8,N,x8,c8,aw⟩:=H;obtain⟨t8,XE,g8⟩:=keep I8;have ad8:Ly X'.K L N dn ys:=ad7.ex x8;have l1:=ad8.length;have l2:=vs.length;refine aaW F.slot_list_append ⟨_,g8,rfl⟩ F.entry_list_append (F.args_list_append_2 _ _) (acK a us.toArray ep w (by rw[f5];omega)) ⟨g8,?_⟩;have YE:=ac5 g8 (·.push w);have Wm:=fin [] L a (eR ..) (XE a (eR ..)) (λp E=>by simp at E);have I9:Inv X' [] f L { Q with heap:=Q.heap.update a (Tx (·.push w)),toks:=Q.toks }:=(nop I8).turned (it:=a) (λb o hb e=>(Ux Q.heap (Tx (·.push w)) (kg hb)).trans e) Wm.1 Wm.2.1 Wm.2.2.2.1 Wm.2.2.2.2.1 Wm.2.2.2.2.2;refine⟨ds.length-(i+1)+1,#[1],i+1,f,L,N,h,Sy,dn++[y],ry,ys++[vw],us++[w],_,rfl,#[1],I9,?_,XE,ex7.trans x8,c8,by simpa using YE,vs.append (.cons rw8 .nil),ad8.append (.cons aw .nil),by rw[cv,T2];omega,ey2,by rw[eo];simp⟩;exact T.keep _ _ _ t8 λb hb o e=>(Ux Q.heap (Tx (·.push w)) (λz:a=b=>na (by rw[z];exact hb))).trans e
 refine LO (T.done X' rfl rfl rfl hc i _ s j H' (λ_ _=>False) I1 (YC H' λb hb=>fr b (ee _ hb)) tni (wk.stop B H' i ex #[0])) λr s1 H=>?_;obtain⟨Z,J1⟩:=H;subst Z;rw[Ta #[0],b8] at l;cases l;rw[ia] at eo;subst eo;have l1:=ad.length;have pa:=J1.pin (a,{ cls:=#[14],data:=.seq us.toArray ep }) (mm _ #[3]);exact YB s1 j H' B G ys us ep (J1.NS λp E=>ib E #[3]) ex cx pa.2.1 pa.1 vs ad #[0]
theorem mW {W iter elt:gy}{ifs:ak gy}{scope:ku}{pos:Ud}{u:D->Lr->a5 Lr}{gt:Lk eM}{fe:Lk D}{ts:ak el}{ix:ak Nat}{cl:ak (el×bc)}
  {g:Ln}{r:St}{l:bo}{E:Lm}{it:bc}{fp:ak bc}{tn:Nat->ja->Prop}{Jt:It}{j:Hp}{B:ak bc}{ρ:Lr}{U S2:Lq}{ds out:ak D}{Q:ax->bc->ac4->bo->Prop}
  (hc:X.calm=a6) (Sc:MH scope X.env) (h1:∀ x c,cl.lookup x=ag c->#[20]=ag c) (h2:∀ y∈scope.names,y.2 = .free->∃ c,cl.lookup y.1=ag c) (Pz:∀ t∈ix,scope.names.lookup (X.N.getD t XI)=ag .free)
  (Q4:∀ cl C f H3 fp,SG (mV X scope cl (iQ ts ix X.N) C f H3 fp) W u/\Wi (mV X scope cl (iQ ts ix X.N) C f H3 fp) W0 ifs gt/\SE (mV X scope cl (iQ ts ix X.N) C f H3 fp) W0 elt fe)
  (Y:Inv X g r j l) (T:Turn X.prog X.w X.K W Jt fp it tn) (t0:tn 0 l.heap) (f2:∀ b∈fp,g0 X g j b) (c2:Cf X B ρ U r j) (J:Walk X Jt ds B j)
  (ec:b8 u gt fe ds (bT ts.length ix ρ) U=ag (out,S2))
  (hRR:∀ a C s',CompEnd X g r B j S2 out a C s'->Q (.ref a) C (.ok .next) s') :
  dr #[8] X.A (newList []) (λG O=>dr #[8] X.A (abx scope X.env.globals cl [] X.env.qual a4 .none (ag X.env)) (λWn H =>
   XW #[8] X.A (.compStart (.ListComp elt [⟨W,iter,ifs,0⟩] scope pos) 0 (.ref it) G { Wn with scope:=relabel scope X.env }) (Q G Wn.locals) H) E O) E l:=by
 refine ng (qB ?_);rw[0];generalize F:l.heap.objs.size=a at *
 have S:∀ b o,l.heap.get? b=ag o->(l.heap.push { cls:=#[14],dict:=a4,data:=.seq ([]:ak ax).toArray }).get? b=ag o:=λb o e=>a9 _ e;obtain⟨f,TY⟩:∃ f:bo,f={ l with heap:=l.heap.push { cls:=#[14],dict:=a4,data:=.seq ([]:ak ax).toArray } }:=⟨_,rfl⟩;have s:Inv X g r j f:=by rw[TY];exact Y.kept (t':=l.toks) S
 have n:f.heap=l.heap.push { cls:=#[14],dict:=a4,data:=.seq ([]:ak ax).toArray }:=by rw[TY]
 have XF:f.heap.objs.size=a+1:=by rw[n,nC,F]
 rw[← n];have ic:=OB.of (o:={ cls:=.type "dict",data:=.dict #[] }) s Sc h1 h2;have hn4:(abZ (f.heap.push { cls:=.type "dict",data:=.dict #[] }) scope.names).Ns f.heap.objs.size (λ_=>a4):=(Heap.Ns.new f.heap (.type "dict")).keeps (pushCells_keeps _ _);have V:∀ b o,f.heap.get? b=ag o->(abZ (f.heap.push { cls:=.type "dict",data:=.dict #[] }) scope.names).get? b=ag o:=λb o e=>pushCells_keeps _ _ b o (a9 _ e);generalize hcl':ze (f.heap.objs.size+1) scope.names cl=cl' at *
 generalize hh4:abZ (f.heap.push { cls:=.type "dict",data:=.dict #[] }) scope.names=I at *
 have a3:f.heap.get? a=ag { cls:=#[14],data:=.seq ([]:ak ax).toArray }:=by rw[n,← F];exact er _ rfl
 have fa:g0 X g j a:=Y.Ot (by rw[F];exact e9 _) (by rw[← F];exact Y.fresh);have Wo:∀ b∈fp,∃ o,l.heap.get? b=ag o:=λb hb=>let ⟨o,e,_⟩:=T.obj 0 _ t0 b hb;⟨o,e⟩;have na:a∉fp:=λhb=>by obtain⟨o,e⟩:=Wo a hb;have:=en e;rw[F] at this;exact ib this (oe _)
 have P:∀ b∈a::fp,g0 X g j b:=λb hb=>by
  rcases fx.mp hb with rfl |hb
  ·exact fa
  exact f2 b hb
 have fo:∀ b∈a::fp,∃ o,f.heap.get? b=ag o:=λb hb=>by
  rcases fx.mp hb with rfl |hb
  ·exact⟨_,a3⟩
  obtain⟨o,e⟩:=Wo b hb;exact⟨o,by rw[n];exact S b o e⟩
 have toks:∀ t,Inv (mV X scope cl' (iQ ts ix X.N) f.heap.objs.size f j (a::fp)) [] (bT ts.length ix r) j { f with heap:=I,toks:=t }:=λt=>s.enter Sc ic Pz P fo V hn4;obtain⟨sg,st,se⟩:=Q4 cl' f.heap.objs.size f j (a::fp)
 have fin:∀ (Nf:Ln) (H':Hp) (b:bc),b∈a::fp->H' b=a4->(∀ p∈Nf,p.1≠b)->g0 (mV X scope cl' (iQ ts ix X.N) f.heap.objs.size f j (a::fp)) Nf H' b:=λNf H' b hb hn hp=>by
  refine⟨hn,?_,λz=>?_,.inl hb,λx c e=>?_,λp hq=>hp p hq⟩
  ·obtain⟨o,e⟩:=fo b hb;exact m3 (en e)
  ·obtain⟨_,f1,Z,_⟩:=P b hb;rcases fx.mp (s.Pr b z) with q |q
   ·exact f1 q
   exact Z q
  rcases ic.out x c e with q |q
  ·exact(P b hb).2.2.2.2.1 x c q
  obtain⟨o,ho⟩:=fo b hb;intro z;exact oe _ (Vn q.1 (z▸en ho))
 have own:X.s₀.heap.objs.size<=f.heap.objs.size/\f.heap.objs.size≠X.env.locals/\(∀ x c,#[20]=ag c->c≠f.heap.objs.size)/\∀ p∈X.pn++g,p.1≠f.heap.objs.size:=by obtain⟨_,g1,g2,g3,g4,g5⟩:=s.Ot (H':=λ_=>a4) (e9 f.heap.objs.size) rfl;exact⟨s.sz,g1,g4,g5⟩
 have c3:Cf (mV X scope cl' (iQ ts ix X.N) f.heap.objs.size f j (a::fp)) B (bT ts.length ix ρ) U (bT ts.length ix r) j:=by
  refine⟨by unfold bT;simp,λi d h=>?_,c2.L0⟩;unfold bT at h ⊢;by_cases hi:i<ts.length
  ·rw[h7 (by simpa using hi),QH,cc hi] at h;cases h
  rw[h6 (by simpa using hi),Pf,dk] at h ⊢;cases et:ix[i-ts.length]? with
  |none=>rw[et] at h;cases h
  |some t =>
   rw[et] at h;simp only[UI,ZY] at h ⊢
   have hr : ρ[t]?=ag (ag d):=by
    cases q : ρ[t]? with
    |none=>rw[q] at h;cases h
    |some w=>rw[q] at h;simp only[XS] at h;rw[h]
   obtain⟨v,e1,e2⟩:=c2.env t d hr;exact⟨v,by rw[e1];rfl,e2⟩
 have w3:Walk (mV X scope cl' (iQ ts ix X.N) f.heap.objs.size f j (a::fp)) Jt ds B j:=⟨J.len,J.go,J.Qk,J.stop⟩
 have M:∀ t,XW #[8] X.A (.compLoop (.ListComp elt [⟨W,iter,ifs,0⟩] scope pos) 0 (.ref it) (.ref a) (compEnvC scope cl' f.heap.objs.size X.env)) (Q (.ref a) f.heap.objs.size) { f with heap:=I,toks:=t }:=by
  intro t;refine uj _ (Bt (R:=Q (.ref a) f.heap.objs.size) (S2:=S2) (out:=out) (X':=mV X scope cl' (iQ ts ix X.N) f.heap.objs.size f j (a::fp)) rfl hc sg st se T w3 na J.len fin ?_) (ds.length+1) ?_
  ·intro s' σ' H' Jx ρx ys us ep I' ex cx ha ga vs ad lz;refine hRR a f.heap.objs.size s' ⟨let ⟨m,hm,_⟩:=I'.loc;⟨m,hm⟩,own,λh' k=>?_⟩;have I4:=s.leave P I' k;have YE:h'.get? a=ag { cls:=#[14],data:=.seq us.toArray ep }:=by rw[k a (by rw[XF];exact m3 (Vm _))];exact ga
   have fa':g0 X g H' a:=⟨ha,fa.2⟩;have I5:=I4.adopt fa' YE vs lz;have hC:H' f.heap.objs.size=a4:=I'.free;refine⟨Jx,H',ys,I5,ex,cx.L0,ad,ha,lz,?_⟩;rw[aH (by rw[XF];exact X2 (Vm _))];exact hC
  refine⟨0,_,j,B,bT ts.length ix ρ,U,[],out,[],[],0,rfl,RC _,toks t,?_,λb hb=>(P b hb).1,Ex.refl,c3,V a _ a3,.nil,.nil,e9 _,by simpa using ec,rfl⟩;exact T.keep 0 _ _ t0 λb hb o e=>V b o (by rw[n];exact S b o e)
 have L:=M l.toks;have t4:tn 0 I:=T.keep 0 _ _ t0 λb hb o e=>V b o (by rw[n];exact S b o e);rw[show ({ f with heap:=I,toks:=l.toks }:bo)={ l with heap:=I } by rw[TY]] at L;exact codeAny_compStart_list L (T.self _ 0 _ _ _ t4 L)
def HV (X:Cx)(scope:ku)(ts:ak el)(ix:ak Nat)(c:gy)(ifs:ak gy)(elt:gy)(u:D->Lr->a5 Lr)(gt:Lk eM)(fe:Lk D):Prop:=
 ∀ (cl:ak (el×bc)) (C:bc) (a:bo) (b:Hp) (fp:ak bc),SG (mV X scope cl (iQ ts ix X.N) C a b fp) c u/\Wi (mV X scope cl (iQ ts ix X.N) C a b fp) W0 ifs gt/\SE (mV X scope cl (iQ ts ix X.N) C a b fp) W0 elt fe
theorem kJ {scope:ku}{a:Ln}{f:St}{H:Hp}{s:bo}(I:Inv X a f H s)(Sc:MH scope X.env):∃ cl,closureFor scope X.env=wh cl/\(∀ x c,cl.lookup x=ag c->#[20]=ag c)/\(∀ y∈scope.names,y.2 = .free->∃ c,cl.lookup y.1=ag c):=by obtain⟨cl,e,g,_,b⟩:=eQ (env:=X.env) scope.names [] (λy d h=>I.ok.has y.1 (Sc.frees y d h)) #[3];refine⟨cl,?_,g,b⟩;unfold closureFor;exact(q7 (λ(m:Sem (ak (el×bc)))=>m >>= λr=>(wh r:Sem (ak (el×bc)))) e).trans rfl
theorem sF {i:Lk (ak D)}{u:D->Lr->a5 Lr}{gt:Lk eM}{fe:Lk D}{n:Nat}{ix:ak Nat}{g:St}{H:Hp}{Q:VK}(h:tE X W (cy n ix i u gt fe) g H Q) :
  iW X W i g H λj f => ∃ b ρ a S2 ds out,Cf X b ρ a g f/\Walk X j ds b f/\b8 u gt fe ds (bT n ix ρ) a=ag (out,S2)/\∀ d H' v,Ex b f d H'->LX X.K d S2 H'->At X.K H' d (.lst out) v->Q v H':=by
 obtain⟨J,ρ,S,r,A,c,_,e,z⟩:=h;unfold cy at e;cases q:i ρ S with
 |none=>simp[q] at e
 |some o =>
  obtain⟨t,a⟩:=o;simp only[q] at e;cases t with
  |error x =>
   cases e;exact⟨J,ρ,S,.error x,_,c,q,z⟩
  |ok ds =>
   simp only[fF] at e;cases qc:b8 u gt fe ds (bT n ix ρ) a with
   |none=>rw[qc] at e;cases e
   |some p =>
    obtain⟨out,S2⟩:=p;rw[qc] at e;cases e;exact⟨J,ρ,S,.ok ds,a,c,q,λb f j k y w=>⟨b,ρ,a,_,ds,out,c.re k y,w,qc,λd H' v m l s=>z d H' v (k.trans m) l s⟩⟩
theorem bW {d iter elt:gy}{ifs:ak gy}{scope:ku}{pos:Ud}{i:Lk (ak D)}{u:D->Lr->a5 Lr}{gt:Lk eM}{fe:Lk D}{ts:ak el}{ix:ak Nat}
  (hc:X.calm=a6) (Sc:MH scope X.env) (o:∀ t∈ix,scope.names.lookup (X.N.getD t XI)=ag .free) (L:SI X W d iter i) (G:HV X scope ts ix d ifs elt u gt fe)
  (n:∀ x,UO iter X.env x=wh x:=by intro _;rfl):SE X W (.ListComp elt [⟨d,iter,ifs,0⟩] scope pos) (cy ts.length ix i u gt fe):=by
 intro c s y H Q I h;obtain⟨cl,P,J,K⟩:=kJ I Sc;rw[eval_ListComp];refine V2 (use:=a4) rfl n P Sc.kind Sc.names ?_;refine LO (L c s y H _ I (sF h)) λv Y p=>LO p λV s2 O=>?_;obtain⟨it,fp,tn,S,H2,e,B,T,E,F,Z,ρ,U,S2,R,out,r,A,w,fin⟩:=O;subst e;refine mW hc Sc J K o G B T E F r A w λa C f ce=>?_;obtain⟨m,z⟩:=ce.ns;refine⟨m,z,λj sb=>?_⟩;obtain⟨M,g,k,l,f,q,_⟩:=ce.Wj j λb hb=>sb.2 b hb;exact⟨.ref a,g,k,rfl,fin M g _ l f q⟩
end
section
variable {X:Cx}{W:WT}
theorem oV {f iter elt:gy}{ifs:ak gy}{scope:ku}{pos r j:Ud}{l:Lk (ak D)}{u:D->Lr->a5 Lr}{gt:Lk eM}{fe:Lk D}{ts:ak el}{ix:ak Nat}{i:Nat}{y:el}
  (V:X.N.Nodup) (hc:X.calm=a6) (Sc:MH scope X.env) (Pz:∀ t∈ix,scope.names.lookup (X.N.getD t XI)=ag .free) (hi:SI X W f iter l) (Q4:HV X scope ts ix f ifs elt u gt fe)
  (G:X.N[i]?=ag y:=by rfl) (B:Loc X.env.scope y:=by first |exact abu rfl |exact aac rfl) (S:TM (.ListComp elt [⟨f,iter,ifs,0⟩] scope pos) (ag (.Name y j)) r.line X.env=wh a6:=by rfl)
  (hf:X.fn y=a6∨X.env.scope.names.lookup y=ag .local:=by first |exact .inl rfl |exact .inr rfl |assumption)
  (U:∀ x,UO iter X.env x=wh x:=by intro _;rfl):SS X W (.Assign [.Name y j] (.ListComp elt [⟨f,iter,ifs,0⟩] scope pos) r) (bh i (cy ts.length ix l u gt fe)):=by
 intro c s k H E I h;obtain⟨cl,Qq,h1,h2⟩:=kJ I Sc;have h:=tS.LC h;rw[abj _ _ _ _ S];refine av (Z_ (av ?_));show dr _ X.A (do let _ ← comprehension (.ListComp elt [⟨f,iter,ifs,0⟩] scope pos) scope X.env _ (newList []) a8 (qa iter X.env) (ag (WA (.Name y j) X.env))) _ _ s;refine av (ro (V2 (use:=ag (WA (.Name y j) X.env)) (Q:=λ_ d=>SP X c E .next d) rfl U Qq Sc.kind Sc.names ?_) (λ_ d P=>ay (ay P)) λ_ _ e=>e);refine LO (hi c s k H _ I (sF h)) λv s1 Y=>LO Y λVS s2 R=>?_;obtain⟨it,fp,tn,Jt,H2,e,K,T,t0,L,J0,ρ,S1,S2,ds,out,c2,wk,J,fin⟩:=R;subst e;refine mW hc Sc h1 h2 Pz Q4 K T t0 L c2 wk J λa C d ce=>?_;obtain⟨m,hm⟩:=ce.ns;obtain⟨o1,o2,n,O⟩:=ce.own;obtain⟨J',g,I',x',Lx,m',hC⟩:=ce.Wj d.heap λ_ _=>rfl;have YG:Inv X c k g d:=I';have q:=fin J' g _ x' Lx m';show dr _ X.A (WA (.Name y j) X.env (.ref a)) _ _ d;refine ZQ (mF YG V G B (v:=.ref a) rfl (λp I3 Zq=>?_) hf);obtain⟨ad,sb,hd⟩:=Zq
 have M:C≠ad:=by
  rcases hd with z |z
  ·rw[z];exact o2
  exact(n y ad z).symm
 refine⟨m,hm.sameBut sb M,λw YI=>?_⟩;have F:Inv X c (k.set i (ag (.ref a))) g { p with heap:=w }:=I3.turned (t':=p.toks) (it:=C) (λb o hb e=>(YI.2 b hb).trans e) hC o2 (.inr o1) n O;obtain⟨Jq,ρq,Sq,dq,rq,Sq',cq,mq,eq,Z⟩:=q;cases eq;exact⟨_,g,F,Z Jq _ g Ex.refl (cq.set mq)⟩
noncomputable def XG (K:Ll)(F:Lp):Sp:=λf H Q _ => ∃ J S e d c,Ly K H J e f/\LX K J S H/\F e S=ag (.ok d,c)/\∀ b a v,Ex J H b a->LX K b c a->At K a b d v->Q v a
def Sr (P:e8)(w:hL)(K:Ll)(mg:Lo)(base:ja)(k:Nat)(f:bc)(fd:K1)(a:ak el)(F:Lp):Prop:=
 Ny P w K mg base Rx k f fd a (XG K F)
noncomputable def j4 (m:Out D):Out D:=match m with
 |ag (.ok d,S)=>ag (.ok d,S)
 |_=>a4
noncomputable def aQ (F:Lp)(t:Lk (ak D)):Lk D:=λa S=>ai (t a S) λb c=>j4 (F b c)
variable {x:el}{p pos:Ud}{e:gy}{es:ak gy}{gs:Lk (ak D)}
theorem Dj {F:Lp}{f:St}{H:Hp}{Q:VK}{a:XK}(h:tE X W (aQ F gs) f H Q):FH (XG X.K F) [] a (tA X W gs) f H Q:=
 (tG.OJ h).mono λt x i=>by
  obtain⟨b,s,g⟩:=i
  rw[ia,ia] at g;obtain⟨J,u,S,r,n,c,m,e,z⟩:=g;have e:j4 (F b S)=ag (r,n):=e;unfold j4 at e;rw[1]
  ·rename_i d w q;cases e;exact⟨J,S,b,d,_,by rw[ia];exact m,c.L0,q,λp o v k j l=>z p o v k j l⟩
  cases e
theorem Eg {k:Nat}{f:bc}{fd:K1}{a:ak el}{F:Lp}(G:Sr X.prog X.w X.K X.mg X.base k f fd a F)(hr:L1 k X.A)(g:X.mg x=ag (.ref f))(b:Qo X.K (.ref f)=a6)(hb:Binds X.K fd a [])
  (ha:SA X W (e::es) gs) (j:Gl X x:=by rfl) (d:(x==("__debug__":el))=a8:=by decide) (c:ek (e::es) X.env=(a8,qa e X.env)::ek es X.env:=by rfl) (i:(rb pos (ek es X.env)).any (·.1)=a8:=by rfl) :
  SE X W (.Call (.Name x p) (e::es) [] pos) (aQ F gs):=
 PE.imp (EE (E:=E0) G hr j g b hb .nil Cr ha d c i) λl H Q h=>Dj h
end
section
variable {X:Cx}{W:WT}
noncomputable def XH (x:el):It:=⟨λi _=>i<x.cps.size,λi H v a=>a=H/\∃ c,x.cps[i]?=ag c/\v = .str ⟨#[c]⟩,λi _=>x.cps.size<=i⟩
theorem uN {P:e8}{w:hL}{K:Ll}{V:gy}{it:bc}{x:el}{St:Nat->ja->Prop}
  (M:∀ (A:iv) (i:Nat) (s:bo) (Q:Lm) (E:Lm),St i s.heap->Q (.ref it) s->dr (eG P w) A (acg (.ref it)) Q E s) (t:∀ D:iv,D.handled=a4->Walks P w D it [it] [it] x.cps.size (SignAt x) St) (J:∀ i h,St i h->∃ o n vs,h.get? it=ag o/\o.cls = .type n/\o.data = .fields vs/\["enumerate","zip","dict_itemiterator","dict_reverseitemiterator","odict_iterator","itertools.zip_longest","itertools.pairwise"].contains n=a8) :
  Turn P w K V (XH x) [it] it (λi h=>i<=x.cps.size/\St i h) where
 mem:=by simp
 obj:=λi h st b hb=>by
  have e:b=it:=#[17]
  subst e;obtain⟨o,n,vs,e,_,d,_⟩:=J i h st.2;exact⟨o,e,λv z=>by rw[d] at z;cases z⟩
 keep:=λi h f st k=>⟨st.1,(t ZX rfl).frame i h f st.2 λb hb o e=>k b hb o e⟩
 item:=by
  intro X C m q hc i a s G H E I j st g;subst C m q;obtain⟨r,p,T,B,l,y⟩:=j it #[3];refine(t X.A (I.ok.hd hc)).item i s _ _ g st.2 λv f tk R F k=>?_;obtain⟨c,u,N,ev⟩:=R;subst ev;have S:Inv X a G H { s with heap:=f,toks:=tk }:=I.turned (t':=tk) (λb o hb e=>k b o (#[17]) e) r p B l y;obtain⟨o,n,vs,e,L,d,U⟩:=J _ _ F;exact⟨_,rfl,vU (s:={ s with heap:=f,toks:=tk }) e L d U ⟨.str ⟨#[c]⟩,H,S,⟨u,rfl⟩,⟨rfl,c,N,rfl⟩,⟨g,F⟩,λb hb=>(j b hb).1⟩⟩
 done:=by
  intro X C m q hc i a s G H E I j st g;subst C m q;obtain⟨r,p,T,B,l,y⟩:=j it #[3];have O:i=x.cps.size:=Nat.le_antisymm st.1 g;subst O;exact(t X.A (I.ok.hd hc)).done s _ _ st.2 λf tk k=>⟨rfl,I.turned (t':=tk) (λb o hb e=>k b o (#[17]) e) r p B l y⟩
 self:=λA i s Q E st h=>M A i s Q E st.2 h
theorem Walk.str {x:el}{J:ak bc}{H:Hp}(ok:Te x):Walk X (XH x) (x.cps.toList.map λc=>D.str ⟨#[c]⟩) J H where
 len:=by rw[dv,gz];exact ok.1
 go:=λd e i _ a=>by rw[dv,gz] at a;exact a
 Qk:=λd e i v j _ g a y=>by
  obtain⟨rfl,c,f,rfl⟩:=y;rw[dv,gz] at a;have b:x.cps.toList[i]?=ag c:=by simpa using f
  refine⟨.str ⟨#[c]⟩,by rw[dk,b];rfl,At.LK.mpr ⟨rfl,by show 1<=da;decide,oR (l:=[c]) λh m=>?_⟩,LH.refl _⟩;rw[gA.mp m];exact mC ok.2 (ra b)
 stop:=λd e i _ a=>by rw[dv,gz] at a;exact a
noncomputable def Gj:D->a5 (ak D)
 | .str x=>ag (x.cps.toList.map λc=>D.str ⟨#[c]⟩)
 |_=>a4
noncomputable def Du (f:Lk D):Lk (ak D):=λa S=>ai (f a S) λd b=>aL (Gj d) b
variable {e:gy}{fe:Lk D}{pos:Ud}
theorem Gn {C:gy}(r:SE X W e fe):SI X W C e (Du fe):=by
 intro c s u H R I h;refine LO (r c s u H _ I (tY h)) λv a n=>?_;obtain⟨y,f,g,w,J,S,d,D,so,m,l,z⟩:=n;cases d with
 |str x =>
  cases l;obtain⟨B,ok⟩:=At.LK.mp m;subst B;obtain⟨t,rfl⟩:=w
  have fp:∀ b∈[a.heap.objs.size],g0 X c f b:=λb hb=>by
   have e:b=a.heap.objs.size:=#[17]
   subst e;exact g.Ot (e9 _) g.fresh
  cases ha:x.cps.all (·<128)
  ·refine wpAny_pyIter_wide ha ?_;refine⟨a.heap.objs.size,[a.heap.objs.size],_,XH x,f,rfl,g.kept (t':=a.toks) λb o e=>a9 _ e,uN (St:=λi h=>h.IsStrIter a.heap.objs.size "str_iterator" x t i) (λA i s Q E st q=>wpAny_pyIter_striter_wide st q) (λp j=>Walks.strWide j _ x t) (λi h st=>?_),⟨RC _,_,er _ rfl,rfl,rfl⟩,fp,z f _ (LH.refl _) (Walk.str ok)⟩;obtain⟨o,k,hc,hd⟩:=st;exact⟨o,_,_,k,hc,hd,#[4]⟩
  refine wpAny_pyIter_ascii ha ?_;refine⟨a.heap.objs.size,[a.heap.objs.size],_,XH x,f,rfl,g.kept (t':=a.toks) λb o e=>a9 _ e,uN (St:=λi h=>h.IsStrIter a.heap.objs.size "str_ascii_iterator" x t i) (λA i s Q E st q=>wpAny_pyIter_striter_ascii st q) (λp j=>Walks.strAscii j _ x t) (λi h st=>?_),⟨RC _,_,er _ rfl,rfl,rfl⟩,fp,z f _ (LH.refl _) (Walk.str ok)⟩;obtain⟨o,k,hc,hd⟩:=st;exact⟨o,_,_,k,hc,hd,#[4]⟩
 |_=>cases l
theorem lJ {prog:e8}{w:hL}{A:iv}{E:Lm}{s:bo}{it l:bc}{i:Nat}{items}{x:ax}{Q:Lm}(a:s.heap.IsTupleIter it l i)
  (d:s.heap.IsTuple l items) (c:items[i]?=ag x)
  (g:∀ h',h'.IsTupleIter it l (i+1)->Vi it s.heap h'->Q x { s with heap:=h' }) :
  dr #[5] A (o4 (.ref it)) Q E s:=by
 obtain⟨o,b,hc,hd⟩:=id a;obtain⟨h,e,_,j,f⟩:=d;unfold o4
 refine av (r0 (name:=Vz "__next__") a.typeIs F.slot_tuple_iterator_next
  (mi F.slot_tuple_iterator_next a.typeIs F.entry_tuple_iterator_next ?_ (F.args_tuple_iterator_next_1 _)))
 show dr _ _ (adm (.ref it) 0 >>= _) _ _ s;refine av (sA b hd (x:=.ref l) rfl ?_);show dr _ _ (if (jl l==Tu)=a6 then _ else _) _ _ s;rw[cn (show ¬ ((jl l==Tu)=a6) from Ww)];show dr _ _ (adm (.ref it) 1 >>= _) _ _ s;refine av (sA b hd (x:=.int i 0) rfl ?_);show dr _ _ (seqItems? (.ref l) >>= _) _ _ s;refine av (zv e f ?_);simp only[UP,c];refine av (wpAny_setField b hd #[3] (ay ⟨x,rfl,ay (g _ ?_ (VW ..))⟩))
 exact⟨_,OG _ b (Xr (Su hd _)),(Z0 ..).trans hc,by
  rw[Su hd];simp[aaJ]⟩
theorem gO {prog:e8}{w:hL}{A:iv}{E:Lm}{s:bo}{it l:bc}{i:Nat}{items}{Q:Lm}(d:A.handled=a4)
  (b:s.heap.IsTupleIter it l i) (g:s.heap.IsTuple l items) (f:items[i]?=a4)
  (k:∀ h' e,adn it s.heap h'->(∃ o,h'.get? e=ag o/\o.cls = .type "StopIteration")->E (.ref e) { s with heap:=h' }) :
  dr #[5] A (o4 (.ref it)) Q E s:=by
 obtain⟨o,c,hc,hd⟩:=id b;obtain⟨n,h,_,p,j⟩:=g;unfold o4
 refine av (r0 (name:=Vz "__next__") b.typeIs F.slot_tuple_iterator_next
  (mi F.slot_tuple_iterator_next b.typeIs F.entry_tuple_iterator_next ?_ (F.args_tuple_iterator_next_1 _)))
 show dr _ _ (adm (.ref it) 0 >>= _) _ _ s;refine av (sA c hd (x:=.ref l) rfl ?_);show dr _ _ (if (jl l==Tu)=a6 then _ else _) _ _ s;rw[cn (show ¬ ((jl l==Tu)=a6) from Ww)];show dr _ _ (adm (.ref it) 1 >>= _) _ _ s;refine av (sA c hd (x:=.int i 0) rfl ?_);show dr _ _ (seqItems? (.ref l) >>= _) _ _ s;refine av (zv h j ?_);simp only[UP,f];refine av (O8 (av (wpAny_setField c hd #[3] ?_)));show dr _ _ (newExc (.type "StopIteration") [] >>= _) _ _ _;refine av ?_;simp only[newExc,newTuple];refine av (ng ?_ (by size_fits));refine av (m:=Zn _ _) (ado (a:=Tu) (by first |rfl |(simp only[Zn];rfl)) ?_);refine ng ?_ (by size_fits);simp only[raiseNew];refine av (wpAny_handled ?_)
 first |rw[show A.in1.handled=a4 from d] |rw[d]
 refine av (ay (wpAny_throw ?_));exact k _ _ (((VW ..).extBut.push _).push _) ⟨_,er _ rfl,rfl⟩
theorem Draws.tup {prog:e8}{w:hL}{A:iv}(g:A.handled=a4)(it l:bc)(j:l≠it)(items:hO ax) :
  Draws prog w A it [it,l] items.size (λi v=>items[i]?=ag v) (λi h=>h.IsTupleIter it l i/\h.IsTuple l items) where
 live:=λ_ _ st=>let ⟨o,a,_⟩:=st.1;⟨o,a⟩
 frame:=λ_ _ _ st b=>⟨let ⟨o,a,r⟩:=st.1;⟨o,b it #[3] o a,r⟩,let ⟨o,a,r⟩:=st.2;⟨o,b l #[3] o a,r⟩⟩
 item:=λi s Q E d st m=>by
  refine lJ st.1 st.2 (x:=items[i]) (by simp[d]) λe f c=>?_;exact m _ e s.toks (by simp[d]) ⟨f,st.2.extBut c.extBut j⟩ c
 done:=λs Q E st k=>gO g st.1 st.2 #[3] k
theorem pJ (l:bc)(items:hO ax)(n:Nat)(e:a5 bc)(i:hO (a5 ax)) :
  Meets (Builtin.«enumerate.__new__» ⟨[.type "enumerate",.ref l],[]⟩) (λ_ R s=>s.heap.get? l=ag { cls:=.type "tuple",dict:=e,data:=.seq items n,slots:=i } /\
   R (.ok (.ret (.ref (s.heap.push { cls:=.type "tuple_iterator",data:=.fields #[.ref l,.int 0 0] }).objs.size)))
    { s with heap:=(s.heap.push { cls:=.type "tuple_iterator",data:=.fields #[.ref l,.int 0 0] }).push { cls:=.type "enumerate",data:=.fields #[.none,.bool a8,#[16],aaJ 0,.none,.none] } }):=
 .of_wp λprog w A R s h=>by
  obtain⟨f,g,d,tk,os⟩:=s;obtain⟨a,h⟩:=h;have j:=sub_enumerate;have b:Heap.IsTuple (adp ⟨f,g,d,tk,os⟩) l items:=⟨_,a,rfl,n,rfl⟩
  wp_walk using PL a
  refine wpAny_stack_any λst=>ay ?_;split
  ·rename_i c _ _ _ _ _;cases (c==r4 "enumerate")
   ·wp_walk using PL a,Um b
    exact⟨_,rfl,h⟩
   wp_walk using PL a,Um b
   exact⟨_,rfl,h⟩
  wp_walk using PL a,Um b
  exact⟨_,rfl,h⟩
theorem qH {prog:e8}{w:hL}{A:iv}{E:Lm}{s:bo}{l:bc}{items:hO ax}{Q:Lm}(f:ab5 s.heap l items)
  (h:∀ h',IsEnum h' (#[15]) s.heap.objs.size 0 .none->h'.IsTupleIter s.heap.objs.size l 0->h'.objs.size=s.heap.objs.size+2 ->
   (∀ b o,#[19]=ag o->h'.get? b=ag o)->Q (.ref (#[15])) { s with heap:=h' }) :
  dr #[5] A (call (.type "enumerate") [.ref l]) Q E s:=by
 obtain⟨⟨c,g,dt,i⟩,e,hc,n,hd⟩:=f
 replace hc:c = .type "tuple":=hc
 replace hd:dt = .seq items n:=hd
 subst hc hd
 refine callType_new F.called_enumerate #[2] (F.typeCall_enumerate_1 _) (F.newCall_enumerate_1 _) (λobj=>F.args_object_init_2 obj _) F.entry_enumerate_new
  (pJ l items n g i) ⟨e,?_⟩
 have a:(s.heap.push { cls:=.type "tuple_iterator",data:=.fields #[.ref l,.int 0 0] }).objs.size=#[15]:=nC ..;show _/\_;rw[a]
 have d:IsEnum ((s.heap.push { cls:=.type "tuple_iterator",data:=.fields #[.ref l,.int 0 0] }).push
   { cls:=.type "enumerate",data:=.fields #[.none,.bool a8,#[16],aaJ 0,.none,.none] }) (#[15]) s.heap.objs.size 0 .none:=by
  have:=er (s.heap.push { cls:=.type "tuple_iterator",data:=.fields #[.ref l,.int 0 0] })
   (o:={ cls:=.type "enumerate",data:=.fields #[.none,.bool a8,#[16],aaJ 0,.none,.none] }) rfl
  rw[a] at this;exact this
 refine⟨⟨_,d,rfl⟩,h _ d ⟨_,a9 _ (er _ rfl),rfl,rfl⟩ (by rw[nC,a]) λb o x=>a9 _ (a9 _ x)⟩
theorem jR {prog:e8}{w:hL}{A:iv}{E:Lm}{s:bo}{e it l:bc}{i:Nat}{items:hO ax}{old:ax}{Q:a5 ax->bo->Prop}(k:A.handled=a4)
  (d:IsEnum s.heap e it i old) (a:s.heap.IsTupleIter it l i) (j:s.heap.IsTuple l items) (g:items[i]?=a4)
  (n:∀ h',adn it s.heap h'->Q a4 { s with heap:=h' }):dr #[5] A (aaI (.ref e)) Q E s:=by
 have f:s.TypeIs (.ref e) "enumerate":=⟨_,d,rfl⟩;unfold aaI
 refine av (V3 (r0 (name:=Vz "__next__") f F.slot_enumerate_next
  (mi F.slot_enumerate_next f F.entry_enumerate_next ?_ (F.args_enumerate_next_1 _))))
 show dr _ _ (adm (.ref e) 2 >>= _) _ _ _;refine av (sA d rfl (x:=.ref it) rfl ?_);refine av (gO k a j g λh' x c h=>?_);obtain⟨o,m,hc⟩:=h;refine av (Vj (T:="StopIteration") (b:=a6) ⟨o,m,hc⟩ isSubtype_stop ?_);exact ay (n _ c)
noncomputable def YL (K:Ll)(a:bc):It:=
 ⟨λi H => ∃ b x,O2 K H a b/\b[i]?=ag x,λi H x c => ∃ p y,H p=a4/\x = .ref p/\c=upd H p (.tup [.int i,y])/\∀ b,O2 K H a b->b[i]?=ag y,λi H => ∃ b,O2 K H a b/\b.length<=i⟩
theorem Ao {P:e8}{w:hL}{K:Ll}{es:ak gy}{k:Nat}{pt:Ud}(a e it:bc)(V:e≠it)(YM:a≠e)(YN:a≠it):Turn P w K (.Tuple es k pt) (YL K a) [e,it] e (λi h=>(∃ old,IsEnum h e it i old)/\h.IsTupleIter it a i) where
 mem:=by simp
 obj:=λi h st b hb=>by
  obtain⟨⟨old,d⟩,o,l,hc,hd⟩:=st;rcases fx.mp hb with rfl |hb
  ·exact⟨_,d,λv z=>by cases z⟩
  have:b=it:=#[17]
  subst this;exact⟨o,l,λv z=>by rw[hd] at z;cases z⟩
 keep:=λi h h' st kp=>by
  obtain⟨⟨old,d⟩,o,l,r⟩:=st;exact⟨⟨old,kp e #[3] _ d⟩,o,kp it #[3] o l,r⟩
 item:=by
  intro X n W M hc i j s Z H E I G st R;subst n W M;obtain⟨D,x,B,J⟩:=R;obtain⟨its,T,p,hz⟩:=I.tuple B;obtain⟨u,hu,ru⟩:=T.get J;obtain⟨⟨old,d⟩,g⟩:=st;have Nc:i<its.toArray.size:=by rw[f5];exact(ba.mp hu).1
  refine aax (Draws.tup (A:=X.A.in1) (I.ok.hd hc) it a YN its.toArray) d ⟨g,p⟩ Nc V (by simp[V,kg YM]) λy h' tk n l Vo hT hsz hk=>?_
  have ey:y=u:=by
   have:its.toArray[i]?=ag u:=by simpa using hu
   rw[this] at n;exact(h8 n).symm
  subst ey;refine⟨_,rfl,Zo (s:={ s with heap:=h',toks:=tk+1 }) l λF Vp N=>?_⟩;have hn:H s.heap.objs.size=a4:=I.fresh;obtain⟨L,Y,fe2,YO,YQ,YR⟩:=G e #[3];obtain⟨t,C,YS,S,U,O⟩:=G it #[3];have kp:∀ b o,b≠e->b≠it->#[19]=ag o->F.get? b=ag o:=λb o h1 QL f=>(N.2 b h1).trans (hk b o h1 QL f);have Wt:s.heap.objs.size≠e:=X2 (en d);have Q6:F.get? s.heap.objs.size=ag { cls:=.type "tuple",data:=.seq #[.int i tk,y] }:=(N.2 _ Wt).trans hT;have ne:∀ b o,H b=ag o->b≠s.heap.objs.size:=λb o q=>aM q hn
  have I1:Inv X j Z (upd H s.heap.objs.size (.tup [.int i,x])) { s with heap:=F,toks:=tk+1 }:=by
   refine I.step (h':=F) (g':=s.gens) (d':=s.drawn) (t':=tk+1) (ch:=[e,it]) (λb hb=>?_) (λb o _ _ hb f _=>kp b o (λz=>hb (by simp[z])) (λz=>hb (by simp[z])) f) (λb o _ _ hb f _=>⟨o.slots,kp b o (λz=>hb (by simp[z])) (λz=>hb (by simp[z])) f⟩)
    (λb o hb f n'=>by rw[aH (m3 (en f))];exact n') (λb o hb f=>⟨o,kp b o (λz=>hb (by simp[z])) (λz=>hb (by simp[z])) f⟩)
    (λb D q=>by rw[aH (ne b _ q)];exact q) (λb o D q=>by rw[aH (ne b _ q)];exact q) (λb ps q=>⟨#[],by rw[aH (ne b _ q),q];simp⟩)
    (λm hm=>?_) (λb o q=>?_) I.bare
   ·rcases fx.mp hb with rfl |hb
    ·exact⟨YO,Y,YQ,YR⟩
    have:b=it:=#[17]
    subst this;exact⟨S,C,U,O⟩
   ·obtain⟨o,es,ep,l,r⟩:=hm;exact⟨o,es,ep,kp _ o (kg Y) (kg C) l,r⟩
   by_cases hb:b=s.heap.objs.size
   ·subst hb;rw[LD] at q;cases q;exact⟨by show 2<=da;decide,[.int i tk,y],.cons ⟨tk,rfl⟩ (.cons ru .nil),_,Q6⟩
   rw[aH hb] at q;refine(I.LW b o q).OC (λc v Oz z=>kp c v ?_ ?_ z) (λc z=>by rw[aH (ne c _ z)];exact z) λc D z=>by rw[aH (ne c _ z)];exact z
   ·rcases Oz with z' |z'
    ·rw[z'];exact aM q L
    exact aM z' L
   rcases Oz with z' |z'
   ·rw[z'];exact aM q t
   exact aM z' t
  refine⟨#[16],_,I1,rfl,⟨_,x,hn,rfl,rfl,λys hy=>by rw[I.N9 hy B];exact J⟩,⟨⟨y,Vp⟩,Vo.1.extBut N.extBut (kg V)⟩,λb hb=>?_⟩;rcases fx.mp hb with rfl |hb
  ·rw[aH (kg Wt)];exact L
  have:b=it:=#[17]
  subst this;obtain⟨o,Qe,_⟩:=g;rw[aH (m3 (en Qe))];exact t
 done:=by
  intro X n W M hc i j s Z H E I G st R;subst n W M;obtain⟨D,B,J⟩:=R;obtain⟨its,T,p,hz⟩:=I.tuple B;obtain⟨⟨old,d⟩,g⟩:=st;obtain⟨t,C,YS,S,U,O⟩:=G it #[3];have hl:=T.length;exact jR (I.ok.hd hc) d g p (by simp;omega) λh' eb=>⟨rfl,I.turned (t':=s.toks) (λb o hb e=>eb b o hb e) t C S U O⟩
 self:=by
  intro A i s Q E st h;obtain⟨⟨old,d⟩,_⟩:=st;exact WX d h
noncomputable def bi (i:Nat):ak D->ak D
 |[]=>[]
 |d::ds => .tup [.int i,d]::bi (i+1) ds
theorem bH:∀ (ds:ak D) (i:Nat),(bi i ds).length=ds.length
 |[],_=>rfl
 |d::ds,i=>by rw[bi,hG,hG,bH ds]
theorem c9:∀ (ds:ak D) (i j:Nat),(bi i ds)[j]?=(ds[j]?).map λd=>D.tup [.int (i+j:Nat),d]
 |[],_,_=>by simp[bi]
 |d::ds,i,0=>by simp[bi]
 |d::ds,i,j+1=>by
  rw[bi,qf,c9 ds (i+1) j,qf,show i+1+j=i+(j+1) by omega]
theorem Walk.enum {a:bc}{ds:ak D}{xs:ak V}{J:ak bc}{H:Hp}(t:TQ X.K H J a xs)(m:Ly X.K H J ds xs):Walk X (YL X.K a) (bi 0 ds) J H where
 len:=by rw[bH,m.length];exact t.len
 go:=λc g i x b=>by
  rw[bH] at b;have m1:=m.ex x;obtain⟨v,k,_⟩:=m1.get (a7 b);exact⟨xs,v,(t.ex x).sq,k⟩
 Qk:=λc g i v l x h b y=>by
  obtain⟨p,y,f,rfl,rfl,j⟩:=y;obtain⟨d,e,a⟩:=(m.ex x).get' (j xs (t.ex x).sq);refine⟨.tup [.int i,d],by rw[c9,e];simp,At.Ni (.cons (#[18]) (.cons a .nil)) f h (by show 2<=da;decide),aO f _⟩
 stop:=λc g i x b=>by
  rw[bH] at b;exact⟨xs,(t.ex x).sq,by rw[← m.length];exact b⟩
noncomputable def j6:ak D->a5 (ak D)
 |[.tup xs]=>ag (bi 0 xs)
 |_=>a4
theorem oj {es:ak gy}{k:Nat}{pt p:Ud}{a:gy}{t:Lk (ak D)}{x:el}(w:x="enumerate")(B:X.mg x=a4)(ha:SA X W [a] t)(L:Gl X x:=by rfl)
  (A:ek (a::[]) X.env=(a8,qa a X.env)::ek [] X.env:=by rfl) (C:(rb pos (ek [] X.env)).any (·.1)=a8:=by rfl):SI X W (.Tuple es k pt) (.Call (.Name x p) [a] [] pos) (gE j6 t):=by
 subst w;intro c s l H R I h;refine Pd (jg I L B boot_enumerate ?_ #[2] #[2]);refine callWith_type1 (LO (ha pos c s l H _ I (i8 h)) λY d y=>?_) A C;obtain⟨T,g,e,E,J,S,N,O,so,m,f,z⟩:=y;unfold j6 at f;split at f
 ·rename_i V;cases f;obtain⟨v,r,rfl,a1,n⟩:=Ly.Lv.mp m;cases Ly.Lz.mp n;obtain⟨ad,U,rfl,i,M⟩:=At.LF.mp a1;obtain⟨u,rfl,G⟩:=vals1 E;cases G;obtain⟨its,P,pl,Q⟩:=e.tuple i.sq;have o:ad<d.heap.objs.size:=pl.lt;refine qH pl λq j it sz kp=>?_;have F:Inv X c l g { d with heap:=q }:=e.kept (t':=d.toks) kp;refine WX j ?_;refine⟨d.heap.objs.size+1,[d.heap.objs.size+1,d.heap.objs.size],_,YL X.K ad,g,rfl,F,Ao ad _ _ (X2 (Vm _)) (m3 (UJ o)) (m3 o),⟨⟨_,j⟩,it⟩,λb hb=>?_,z g _ (LH.refl _) (Walk.enum i M)⟩;rcases fx.mp hb with rfl |hb
  ·exact e.Ot (abW _) (e.LW.fresh (abW _))
  have:b=d.heap.objs.size:=#[17]
  subst this;exact e.Ot (e9 _) e.fresh
 cases f
end
section
variable {X:Cx}{W:WT}
theorem D9 {prog:e8}{w:hL}{A:iv}{E:Lm}{s:bo}{i:PyProof.Rows.KeyKind}(n : i.OneLt){x:ax}{Q:Lm}
  (h:dr #[5] A.in1 (collect x) (λvs d=>PyProof.Rows.KeysOf i (WY vs)/\(∀ c a rest,vs=c::a::rest->acO (c::a::rest).toArray=wh adV)/\vs.length<64 /\
   ∀ (f:pd) h' ep,(b0 f).Perm (WY vs)->SortedToK i (b0 f) (WY vs).size->(∀ b o,d.heap.get? b=ag o->h'.get? b=ag o)->h'.get? d.heap.objs.size=ag (U0 "list" ((b0 f).map (·.2)) ep) ->
    Q (.ref d.heap.objs.size) { d with heap:=h' }) E s):dr #[5] A (call (.builtin "sorted") [x]) Q E s:=by
 refine VP adq acP acQ (acR _) ?_;unfold Builtin.«sorted»;refine av (m:=adW "sorted" 1 1 _) (ay ?_);refine av (LO h λvs d k=>?_);obtain⟨p,g,l,q⟩:=k;refine av (aaf ?_);have j:(d.heap.push (U0 "list" vs.toArray 0)).get? d.heap.objs.size=ag (U0 "list" vs.toArray 0):=er _ rfl;refine av (vl (mi aby ⟨_,j,rfl⟩ aa_ (list_sort_treeK n j p g l λf a1 a2=>⟨_,rfl,?_⟩) (abz _)));obtain⟨ep,r⟩:=aca (out:=(b0 f).map (·.2)) j
 exact ay ⟨_,rfl,q f _ ep a1 a2 (λb o e=>by
  rw[abA (m3 (en e)) (by rw[adX];exact UJ (en e))]
  exact a9 _ e) r⟩
end
noncomputable def NX (a b:el):eM:=!NW b a
theorem MI {a b:el}:NX a b=a6↔a.cps.toList<=b.cps.toList:=by unfold NX NW;rw[Z1,aay,ads]
theorem jF (a b c:el)(h:NX a b=a6)(g:NX b c=a6):NX a c=a6:=MI.mpr (List.le_trans (MI.mp h) (MI.mp g))
theorem rS (a b:el):(NX a b ||NX b a)=a6:=by rw[Zi,MI,MI];exact List.le_total _ _
theorem D4 {a b:el}(h:a.cps.toList=b.cps.toList):a=b:=by cases a;cases b;congr;exact adY.mp h
theorem pL {a b:el}(h:NX a b=a6)(g:NX b a=a6):a=b:=D4 (ac8 (MI.mp h) (MI.mp g))
noncomputable def lj (l:ak el):ak el:=l.mergeSort NX
theorem tx {l c:ak el}(d:c.Perm l)(e:c.Pairwise λa b=>NX a b=a6):c=lj l:=
 qs (le:=λa b=>NX a b=a6) (λa b _ _ h g=>pL h g) e (s8 jF rS l) (d.trans (ti l NX).symm)
theorem pairwise_of_rising:∀ (p:el) (l:ak el),risingS p l=a6->(p::l).Pairwise λa b=>NX a b=a6
 |p,[],_=>by simp
 |p,x::r,h=>by
  have c:(!ltCps x.cps.toList p.cps.toList&&risingS x r)=a6:=h;rw[pX] at c;have d:NX p x=a6:=by unfold NX NW;rw[← ltCps_eq];exact c.1
  have t:=pairwise_of_rising x r c.2;refine X0.mpr ⟨λy hy=>?_,t⟩;rcases fx.mp hy with rfl |hy
  ·exact d
  exact jF _ _ _ d ((X0.mp t).1 y hy)
theorem jS {l:ak el}(h:sortedS l=a6):l.Pairwise λa b=>NX a b=a6:=by
 cases l with
 |nil=>exact .nil
 |cons x r=>exact pairwise_of_rising x r h
noncomputable def XJ (a b:Int):eM:=ei (a<=b)
noncomputable def sortI (l:ak Int):ak Int:=l.mergeSort XJ
theorem tF {l d:ak Int}(e:d.Perm l)(f:d.Pairwise (·<=·)):d=sortI l:=by
 refine qs (le:=λa b=>XJ a b=a6) (λa b _ _ h g=>?_) (f.imp λh=>gx h) (s8 (λa b c h g=>?_) (λa b=>?_) l) (e.trans (ti l XJ).symm)
 ·exact ady (mv h) (mv g)
 ·exact gx (Int.le_trans (mv h) (mv g))
 unfold XJ;rw[Zi,x6,x6];exact Int.le_total a b
noncomputable def fm:ak D->a5 (ak el)
 |[]=>ag []
 | .str x::r=>(fm r).map (x::·)
 |_=>a4
noncomputable def bU:ak D->a5 (ak Int)
 |[]=>ag []
 | .int x::r=>(bU r).map (x::·)
 |_=>a4
theorem mB:∀ ss:ak el,fm (ss.map .str)=ag ss
 |[]=>rfl
 |x::r=>by rw[fh,fm,mB r];rfl
theorem MC:∀ ss:ak Int,bU (ss.map .int)=ag ss
 |[]=>rfl
 |x::r=>by rw[fh,bU,MC r];rfl
theorem oP:∀ {ds:ak D}{ss:ak el},fm ds=ag ss->ds=ss.map .str
 |[],ss,e=>by cases e;rfl
 | .str x::r,ss,e=>by
  obtain⟨t,a,b⟩:=d7.mp (show (fm r).map (x::·)=ag ss from e);subst b;rw[oP a];rfl
 | .LR::_,_,e=>by cases e
 | .bl _::_,_,e=>by cases e
 | .int _::_,_,e=>by cases e
 | .tup _::_,_,e=>by cases e
 | .lst _::_,_,e=>by cases e
 | .set _::_,_,e=>by cases e
 | .loc _::_,_,e=>by cases e
 | .fn _ _::_,_,e=>by cases e
theorem fB:∀ {ds:ak D}{ss:ak Int},bU ds=ag ss->ds=ss.map .int
 |[],ss,e=>by cases e;rfl
 | .int x::r,ss,e=>by
  obtain⟨t,a,b⟩:=d7.mp (show (bU r).map (x::·)=ag ss from e);subst b;rw[fB a];rfl
 | .LR::_,_,e=>by cases e
 | .bl _::_,_,e=>by cases e
 | .str _::_,_,e=>by cases e
 | .tup _::_,_,e=>by cases e
 | .lst _::_,_,e=>by cases e
 | .set _::_,_,e=>by cases e
 | .loc _::_,_,e=>by cases e
 | .fn _ _::_,_,e=>by cases e
theorem xg {a b:ak D}(p:a.Perm b):∀ {sb},fm b=ag sb->∃ sa,fm a=ag sa/\sa.Perm sb:=by
 induction p with
 |nil=>intro sb e;exact⟨sb,e,.refl _⟩
 |cons x p o =>
  intro sb e;cases x with
  |str z =>
   obtain⟨t,c,d⟩:=d7.mp (show (fm _).map (z::·)=ag sb from e);subst d;obtain⟨sa,h,g⟩:=o c;exact⟨z::sa,by rw[fm,h];rfl,.cons z g⟩
  |_=>cases e
 |swap x y l =>
  intro sb e;cases x with
  |str z =>
   cases y with
   |str f =>
    obtain⟨t,c,d⟩:=d7.mp (show (fm (.str f::l)).map (z::·)=ag sb from e);obtain⟨i,h,g⟩:=d7.mp (show (fm l).map (f::·)=ag t from c);subst d g;exact⟨f::z::i,by rw[fm,fm,h];rfl,.swap z f i⟩
   |_=>cases e
  |_=>cases e
 |trans _ _ j n =>
  intro sb e;obtain⟨q,c,m⟩:=n e;obtain⟨sa,d,k⟩:=j c;exact⟨sa,d,k.trans m⟩
theorem xU {a b:ak D}(p:a.Perm b):∀ {sb},bU b=ag sb->∃ sa,bU a=ag sa/\sa.Perm sb:=by
 induction p with
 |nil=>intro sb e;exact⟨sb,e,.refl _⟩
 |cons x p o =>
  intro sb e;cases x with
  |int z =>
   obtain⟨t,c,d⟩:=d7.mp (show (bU _).map (z::·)=ag sb from e);subst d;obtain⟨sa,h,g⟩:=o c;exact⟨z::sa,by rw[bU,h];rfl,.cons z g⟩
  |_=>cases e
 |swap x y l =>
  intro sb e;cases x with
  |int z =>
   cases y with
   |int f =>
    obtain⟨t,c,d⟩:=d7.mp (show (bU (.int f::l)).map (z::·)=ag sb from e);obtain⟨i,h,g⟩:=d7.mp (show (bU l).map (f::·)=ag t from c);subst d g;exact⟨f::z::i,by rw[bU,bU,h];rfl,.swap z f i⟩
   |_=>cases e
  |_=>cases e
 |trans _ _ j n =>
  intro sb e;obtain⟨q,c,m⟩:=n e;obtain⟨sa,d,k⟩:=j c;exact⟨sa,d,k.trans m⟩
section
variable {K:Ll}{H:Hp}{J:ak bc}
theorem Ly.strs:∀ {ss:ak el}{vs:ak V}{us:ak ax},Ly K H J (ss.map .str) vs->Vals vs us->StrsAre us ss/\vs=ss.map V.str/\∀ x∈ss,Te x
 |[],vs,us,m,r=>by
  cases Ly.Lz.mp m;cases r;exact⟨.nil,rfl,by simp⟩
 |x::ss,vs,us,m,r=>by
  obtain⟨v,h,rfl,a,b⟩:=Ly.Lv.mp m;obtain⟨ev,ok⟩:=At.LK.mp a;subst ev;cases r with
  |cons d e =>
   obtain⟨t,rfl⟩:=d;obtain⟨f,g,c⟩:=Ly.strs b e;refine⟨.cons x t f,by rw[g];rfl,λy hy=>?_⟩;rcases fx.mp hy with rfl |hy
   ·exact ok
   exact c y hy
theorem Ly.ofStrs:∀ {ss:ak el},(∀ x∈ss,Te x)->Ly K H J (ss.map .str) (ss.map V.str)
 |[],_ => .nil
 |x::ss,h => .cons (At.LK.mpr ⟨rfl,h x (eR ..)⟩) (Ly.ofStrs λy a=>h y (ee _ a))
theorem qQ:∀ {us:ak ax}{ss:ak el},StrsAre us ss->Vals (ss.map V.str) us
 |_,_,.nil => .nil
 |_,_,.cons x t h => .cons ⟨t,rfl⟩ (qQ h)
end
section
theorem BR {prog:e8}{w:hL}{A:iv}{E:Lm}{s:bo}{x:ax}{Q:Lm}
  (h:dr #[5] A.in1 (collect x) (λvs a => ∃ ns,Vt vs ns/\vs.length<64 /\
   ∀ (out:hO ax) (c:ak Int) h' ep,Vt out.toList c->c.Perm ns->c.Pairwise (·<=·)->(∀ b o,a.heap.get? b=ag o->h'.get? b=ag o)->h'.get? a.heap.objs.size=ag (U0 "list" out ep) ->
    Q (.ref a.heap.objs.size) { a with heap:=h' }) E s):dr #[5] A (call (.builtin "sorted") [x]) Q E s:=by
 refine VP adq acP acQ (acR _) ?_;unfold Builtin.«sorted»;refine av (m:=adW "sorted" 1 1 _) (ay ?_);refine av (LO h λvs a f=>?_);obtain⟨ns,j,g,q⟩:=f;refine av (aaf ?_);have d:(a.heap.push (U0 "list" vs.toArray 0)).get? a.heap.objs.size=ag (U0 "list" vs.toArray 0):=er _ rfl;refine av (vl (mi aby ⟨_,d,rfl⟩ aa_ (list_sort_tree d j g λout c a1 a2 i=>⟨_,rfl,?_⟩) (abz _)));obtain⟨ep,k⟩:=aca (out:=out) d
 exact ay ⟨_,rfl,q out c _ ep a1 a2 i (λb o e=>by
  rw[abA (m3 (en e)) (by rw[adX];exact UJ (en e))]
  exact a9 _ e) k⟩
end
section
variable {X:Cx}{W:WT}
noncomputable def iB (xs:ak D):a5 (ak D):=if xs.length<64 then
  match fm xs with
  |ag a=>ag ((lj a).map .str)
  |a4=>(bU xs).map λns=>(sortI ns).map .int
 else a4
theorem mG {c:Ln}{u:St}{H:Hp}{s:bo}{J:ak bc}{x:ax}{ds:ak D}{out:ak D}{Q:VK}(Y:∀ a∈J,H a≠a4)(e:iB ds=ag out)(q:∀ H' v,LH H H'->At X.K H' J (.lst out) v->Q v H')
  (O:∀ (R:ak ax->bo->Prop) (E:Lm),(∀ us vs d t,Inv X c u H d->Vals vs us->t.Perm ds->Ly X.K H J t vs->R us d)->dr #[8] X.A.in1 (collect x) R E s) :
  dr #[8] X.A (call (.builtin "sorted") [x]) (EP X c u Q) X.xe s:=by
 unfold iB at e;rw[1]
 ·rename_i r
  have fin:∀ {d:bo}{i:ja}{ep:Nat}{us':ak ax}{p:ak V}(g:Inv X c u H d) (k:∀ b o,d.heap.get? b=ag o->i.get? b=ag o) (j:i.get? d.heap.objs.size=ag (U0 "list" us'.toArray ep)) (f:Vals p us') (m:Ly X.K H J out p) (C:p.length<=da),
    EP X c u Q (.ref d.heap.objs.size) { d with heap:=i }:=λ{d i ep us' p} g k j f m C =>
   ⟨.ref d.heap.objs.size,_,g.laid (t':=d.toks) (o:=.lst p) k (e9 _) ⟨C,us',ep,f,j⟩,rfl,q _ _ (aO g.fresh _) (At.M0 m g.fresh Y C)⟩
  rw[1]
  ·rename_i l es;cases e;have I:=oP es;subst I;refine D9 strKind_oneLt (O _ _ λus vs d t g f G m=>?_);have y:∃ F,fm t=ag F/\F.Perm l:=by exact xg G (mB l)
   obtain⟨F,z,h⟩:=y;have L:=oP z;subst L;obtain⟨sa,ev,ok⟩:=Ly.strs m f;have n:us.length=l.length:=by rw[← f.length,ev,dv];exact h.length_eq
   refine⟨sa.keysOf,λS P rest e=>keyKind_strs (by rw[← e];exact sa),by rw[dv] at r;omega,λLx i ep hp Z k j=>?_⟩;obtain⟨so,h1,M,h3⟩:=sorted_out_str sa hp Z;have N:so=lj l:=tx (M.trans h) (jS h3);subst N;have B:∀ x∈lj l,Te x:=λx T=>ok x (M.mem_iff.mp T);refine fin (us':=((b0 Lx).map (·.2)).toList) g k (by rw[abB];exact j) (qQ h1) (Ly.ofStrs B) ?_;rw[dv,(M.trans h).length_eq];rw[dv] at r;exact J8 (i3 r #[2])
  obtain⟨ns,es,W⟩:=d7.mp e;subst W;have I:=fB es;subst I;refine BR (O _ _ λus vs d t g f G m=>?_);obtain⟨U,z,h⟩:=xU G (MC ns);have L:=fB z;subst L;have ev:=Ly.Oa m;subst ev;have hI:=intsAre_of f;have n:us.length=ns.length:=by rw[← f.length,dv];exact h.length_eq
  rw[dv] at r;refine⟨U,hI,#[1],λout no i ep a1 a2 a3 k j=>?_⟩;have N:no=sortI ns:=tF (a2.trans h) a3;subst N;refine fin (us':=out.toList) g k (by rw[abB];exact j) (mn a1) (Ly.ofInts _) ?_;rw[dv,(a2.trans h).length_eq];exact J8 (i3 r #[2])
 cases e
noncomputable def BS:ak D->a5 D
 |[.tup xs]=>(iB xs).map .lst
 |[.lst xs]=>(iB xs).map .lst
 |_=>a4
theorem Fp:j_ X (.builtin "sorted") BS:=by
 intro B s K H L M Q I r h;obtain⟨J,G,d,A,m,e,q⟩:=h;unfold BS at e;rw[1]
 ·rename_i j;obtain⟨out,f,g⟩:=d7.mp e;subst g;obtain⟨v,w,rfl,a,n⟩:=Ly.Lv.mp m;cases Ly.Lz.mp n;obtain⟨p,c,rfl,t,y⟩:=At.LF.mp a;obtain⟨u,rfl,x⟩:=vals1 r;cases x;obtain⟨its,b,⟨o,l,hc,D,hd⟩,i⟩:=I.tuple t.sq;refine mG A f q λF E z=>W2 p (.inr rfl) l hc hd (λC k=>?_) (by rw[f5,← b.length];exact i);exact z _ c _ j (I.kept (t':=s.toks) k) (by simpa using b) (.refl _) y
 ·rename_i j;obtain⟨out,f,g⟩:=d7.mp e;subst g;obtain⟨v,w,rfl,a,n⟩:=Ly.Lv.mp m;cases Ly.Lz.mp n;obtain⟨p,c,rfl,t,y⟩:=At.LG.mp a;obtain⟨u,rfl,x⟩:=vals1 r;cases x;obtain⟨its,b,⟨o,D,l,hc,_,hd⟩,i⟩:=I.list t.sq;refine mG A f q λF E z=>W2 p (#[9]) l hc hd (λC k=>?_) (by rw[f5,← b.length];exact i);exact z _ c _ j (I.kept (t':=s.toks) k) (by simpa using b) (.refl _) y
 cases e
end
noncomputable def ft (a b:D):eM:=ei (fN a=fN b)
noncomputable def putD (kvs:ak (D×D))(k v:D):ak (D×D):=if (kvs.any λp=>ft p.1 k)=a6 then kvs.map (λp=>if ft p.1 k=a6 then (p.1,v) else p) else kvs++[(k,v)]
noncomputable def getD (kvs:ak (D×D))(k:D):a5 D:=(kvs.find? λp=>ft p.1 k).map (·.2)
abbrev Tj (K:Ll)(H:Hp)(J:ak bc):(D×D)->(Key×V)->Prop:=λp q=>(fN p.1=ag q.1/\At K H J p.1 (kV q.1))/\At K H J p.2 q.2
section
variable {K:Ll}{H H':Hp}{J J':ak bc}
theorem o9 {a k:D}{x y:Key}(h:fN a=ag x)(g:fN k=ag y):ft a k=ei (x=y):=by
 unfold ft;rw[h,g];by_cases e:x=y
 ·subst e;simp
 rw[dV e,dV (λz=>e (h8 z))]
theorem HL {kvs:ak (D×D)}{a:ak (Key×V)}{k:D}{y:Key}(g:fN k=ag y)(r:lC (Tj K H J) kvs a):(kvs.any λp=>ft p.1 k)=a.any λq=>ei (q.1=y):=by
 induction r with
 |nil=>rfl
 |cons h t b=>rw[R_,R_,b,o9 h.1.1 g]
theorem AD {kvs:ak (D×D)}{a:ak (Key×V)}{k v:D}{y:Key}{w:V}(g:fN k=ag y)(c:At K H J v w)(r:lC (Tj K H J) kvs a):lC (Tj K H J) (kvs.map λp=>if ft p.1 k=a6 then (p.1,v) else p) (a.map λq=>if q.1=y then (q.1,w) else q):=by
 induction r with
 |nil=>exact .nil
 | @cons p q f d h t b =>
  refine .cons ?_ b;show Tj K H J (if ft p.1 k=a6 then (p.1,v) else p) (if q.1=y then (q.1,w) else q);rw[o9 h.1.1 g];by_cases e:q.1=y
  ·rw[cc (gx e),cc e];exact⟨h.1,c⟩
  rw[cn (by rw[dV e];decide),cn e];exact h
theorem AF {k v:D}{y:Key}{w:V}(g:fN k=ag y)(c:At K H J k (kV y))(e:At K H J v w){a:ak (D×D)}{b:ak (Key×V)}(h:lC (Tj K H J) a b):lC (Tj K H J) (a++[(k,v)]) (b++[(y,w)]):=by
 induction h with
 |nil=>exact .cons ⟨⟨g,c⟩,e⟩ .nil
 |cons h t d=>exact .cons h d
theorem GC {kvs:ak (D×D)}{a:ak (Key×V)}{k v:D}{y:Key}{w:V}(g:fN k=ag y)(c:At K H J k (kV y))(b:At K H J v w)(r:lC (Tj K H J) kvs a):lC (Tj K H J) (putD kvs k v) (putK a y w):=by
 unfold putD putK;rw[HL g r];split
 ·exact AD g b r
 exact AF g c b r
theorem C7 {kvs:ak (D×D)}{a:ak (Key×V)}{k:D}{y:Key}(g:fN k=ag y)(r:lC (Tj K H J) kvs a) :
  (getD kvs k=a4/\kY a y=a4)∨∃ d v,getD kvs k=ag d/\kY a y=ag v/\At K H J d v:=by
 unfold getD kY
 induction r with
 |nil=>exact .inl ⟨rfl,rfl⟩
 | @cons p q f c h t b =>
  rw[rp,rp,o9 h.1.1 g];by_cases e:q.1=y
  ·rw[gx e];exact .inr ⟨p.2,q.2,rfl,rfl,h.2⟩
  rw[dV e];exact b
theorem kt {α b:Type}{F : α->b->Prop}{a:ak α}{c:ak b}(r:lC F a c):a.length=c.length:=V0 r
end
section
variable {X:Cx}{W:WT}{pos pos':Ud}{o i e:gy}{fo fi fv:Lk D}
noncomputable def wu:Lk D:=λ_ S=>LB (#[13]) (S++[.dict []])
theorem LX.push {K:Ll}{J:ak bc}{S:Lq}{H:Hp}{p:bc}{o:HO}{mo:MO}(s:LX K J S H)(e:H p=a4)(h:Rz K (upd H p o) (J++[p]) mo p):LX K (J++[p]) (S++[mo]) (upd H p o)/\Ex J H (J++[p]) (upd H p o):=by
 have x:Ex J H (J++[p]) (upd H p o):=⟨⟨[p],rfl⟩,λb u hb i=>⟨by rw[aH (aM hb e)];exact hb,λz=>by
  rcases k6.mp z with z |z
  ·exact i z
  exact aM hb e (by simpa using z)⟩⟩
 refine⟨⟨by rw[cv,cv,s.len];rfl,?_,λl a k c d=>?_⟩,x⟩
 ·rw[Qf];refine⟨s.nd,by simp,λa j b hb z=>?_⟩;have:b=p:=#[17]
  subst this;exact s.tracked j (z▸e)
 by_cases f:l<J.length
 ·rw[h7 f] at c;rw[h7 (by rw[← s.len];exact f)] at d;have q:=s.at_ l a k c d;refine q.ex x ?_;rw[aH];intro z;exact q.Px (z▸e)
 rw[h6 #[0]] at c;rw[h6 (by rw[← s.len];omega)] at d;have g:l-J.length=0:=by have:=(ba.mp c).1;simp at this;omega
 rw[g] at c;rw[← s.len,g] at d;simp at c d;subst c d;exact h
theorem tJ:SE X W (.Dict [] [] pos) wu:=RN.imp λf H Q h=>by obtain⟨J,d,S,r,b,c,_,e,z⟩:=h;cases e;intro p a;have q:=c.L0.push (o:=.dK []) (mo:=.dict []) a ⟨[],LD,.nil⟩;refine z (J++[p]) _ _ q.2 q.1 (At.LI.mpr ⟨p,rfl,?_⟩);rw[← c.L0.len,h6 (e9 _)];simp
theorem LX.update {K:Ll}{J:ak bc}{S:Lq}{H:Hp}{l:Nat}{a:bc}{o:HO}{mo:MO}(s:LX K J S H)(d:J[l]?=ag a)(i:∀ g H',Ex J H g H'->H'=upd H a o->g=J->Rz K H' g mo a):LX K J (S.set l mo) (upd H a o)/\Ex J H J (upd H a o):=by
 have m:a∈J:=ra d;have x:Ex J H J (upd H a o):=⟨abw _,λb u hb h=>⟨by rw[aH (λz:b=a=>h (by rw[z];exact m))];exact hb,h⟩⟩;refine⟨⟨by rw[Sn];exact s.len,s.nd,λj b n c e=>?_⟩,x⟩;by_cases f:j=l
 ·subst f;rw[d] at c;cases c;have k:j<S.length:=by rw[← s.len];exact(ba.mp d).1
  rw[S4 k] at e;cases e;exact i J _ x rfl rfl
 rw[Wk (kg f)] at e;refine(s.at_ j b n c e).ex x ?_;rw[aH];intro z;subst z;exact f ((aaX (ba.mp c).1 s.nd).mp (c.trans d.symm))
noncomputable def ve (x k v:D)(ρ:Lr)(S:Lq):Out Fl:=match x with
 | .loc l=>match S[l]?,fN k with
  |ag (.dict kvs),ag _=>if kvs.length<da then LB (.next ρ) (S.set l (.dict (putD kvs k v))) else a4
  |_,_=>a4
 |_=>a4
noncomputable def yp (fo fi fv:Lk D):Lk Fl:=λa S=>ai (fv a S) λv d=>ai (fo a d) λx b=>ai (fi a b) λk c=>ve x k v a c
noncomputable def tH (X:Cx)(W:WT)(ds:ak D)(vs:ak V)(g:Lk Fl):TS:=λE c H => ∃ J b S r a,Cf X J b S c H/\Ly X.K H J ds vs/\g b S=ag (r,a)/\Py X W J H r a E
theorem tH.LC {g:Lk D}{k:D->Lk Fl}{ds:ak D}{vs:ak V}{E:Ends}{f:St}{H:Hp}
  (h:tH X W ds vs (λρ S=>ai (g ρ S) λd b=>k d ρ b) E f H):tE X W g f H λv i => ∃ d,tH X W (d::ds) (v::vs) (k d) E f i:=by
 obtain⟨J,ρ,S,r,j,c,a,e,z⟩:=h;cases q:g ρ S with
 |none=>simp[q] at e
 |some o =>
  obtain⟨l,b⟩:=o;simp only[q] at e;cases l with
  |error x =>
   cases e;exact⟨J,ρ,S,.error x,_,c,.nil,q,z⟩
  |ok d=>exact⟨J,ρ,S,.ok d,b,c,.nil,q,λp i v x n m=>⟨d,p,ρ,b,r,j,c.re x n,.cons m (a.ex x),e,z.ex x⟩⟩
theorem CZ {k:D}{y:Key}{K:Ll}{H:Hp}{J:ak bc}{v:V}(g:fN k=ag y)(a:At K H J k v):v=kV y:=by
 cases k with
 |int i=>cases g;exact At.Lu.mp a
 |str x=>cases g;exact(At.LK.mp a).1
 |_=>cases g
theorem xh (D:X.A.units+1<nq)(N:SE X W o fo)(T:SE X W i fi)(M:SE X W e fv)(B:TM e (ag (.Subscript o i pos')) pos.line X.env=wh a8:=by rfl):SS X W (.Assign [.Subscript o i pos'] e pos) (yp fo fi fv):=
 (Ep D N T M B).imp λE g H h=>by
  have h:tH X W [] [] (yp fo fi fv) E g H:=let ⟨J,s,S,r,n,c,e,z⟩:=h;⟨J,s,S,r,n,c,.nil,e,z⟩;refine(tH.LC h).mono λv H1 ⟨P,Q⟩=>(tH.LC Q).mono λx H2 ⟨I,R⟩=>(tH.LC R).mono λy Y ⟨V,C⟩=>?_;obtain⟨J,s,S,r,n,c,m,e,z⟩:=C;obtain⟨mk,m⟩:=m.LA;obtain⟨F,m⟩:=m.LA;obtain⟨L,_⟩:=m.LA;unfold ve at e;cases I with
  |loc l =>
   simp only at e;rw[1]
   ·rename_i d u es j;rw[1]
    ·rename_i lt;cases e;obtain⟨a,rfl,t⟩:=At.LI.mp F;obtain⟨U,w,f⟩:=c.L0.at_ l a _ t es;have O:=CZ j mk;subst O;have q:=c.L0.update (o:=.dK (putK U u v)) (mo:=.dict (putD d V P)) t λJ' Z b G K=>by subst G K;refine⟨_,LD,GC j (mk.ex b) (L.ex b) ?_⟩;exact Paired.Pn f λp q z=>⟨⟨z.1.1,z.1.2.ex b⟩,z.2.ex b⟩
     exact⟨a,_,rfl,RM.k w (by rw[← kt f];exact lt),z J g _ q.2 (c.re q.2 q.1)⟩
    cases e
   cases e
  |_=>cases e
noncomputable def Fh (neg:eM)(k x:D)(S:Lq):a5 D:=match x with
 | .loc l=>match S[l]?,fN k with
  |ag (.dict kvs),ag _=>ag (.bl (if neg then !(getD kvs k).isSome else (getD kvs k).isSome))
  |_,_=>a4
 |_=>a4
noncomputable def By (neg:eM)(c fd:Lk D):Lk D:=λa S=>ai (c a S) λk d=>ai (fd a d) λx b=>aL (Fh neg k x b) b
theorem p7 {neg:eM}{i:St}{H:Hp}{Q:VK}(h:tE X W (By neg fi fo) i H Q):tE X W fi i H λy n=>tE X W fo i n λx b => ∃ a o,x = .ref a/\Ou b a y o/\Q (.bl (if neg then !o.isSome else o.isSome)) b:=
 (tG.LC h).mono λy n ⟨L,C⟩=>(tG.LC C).mono λx b s=>by
  obtain⟨A,D⟩:=s
  obtain⟨J,I,S,r,G,c,m,e,z⟩:=D;obtain⟨w,m⟩:=m.LA;obtain⟨mk,_⟩:=m.LA;unfold Fh at e;cases A with
  |loc l =>
   simp only at e;rw[1]
   ·rename_i p F es j;cases e;obtain⟨a,rfl,E⟩:=At.LI.mp w;obtain⟨K,u,t⟩:=c.L0.at_ l a _ E es;have B:=CZ j mk;subst B;refine⟨a,_,rfl,Ou.k u,?_⟩;have q:=z J b _ Ex.refl c.L0 (At.LZ.mpr rfl);rcases C7 j t with ⟨g,f⟩ |⟨d,v,g,f,_⟩
    ·rw[g] at q;rw[f];exact q
    rw[g] at q;rw[f];exact q
   cases e
  |_=>cases e
theorem Gr (c:X.A.units+1<nq)(a:SE X W i fi)(b:SE X W o fo)(d:ov .In o=a8:=by with_unfolding_all rfl):SE X W (.Compare i [.In] [o] pos) (By a8 fi fo):=
 (GT (Cq c a b) d).imp λe H Q h=>p7 (neg:=a8) h
theorem Ga (c:X.A.units+1<nq)(a:SE X W i fi)(b:SE X W o fo)(d:ov .In o=a8:=by with_unfolding_all rfl):OI X W (.Compare i [.In] [o] pos) (br (By a8 fi fo)):=
 (xx (Cq c a b) d).imp λe H Q h=>NT.mono (t:=Ik (tE X W fi) (tE X W fo)) (λ_ _ _=>p7 (neg:=a8)) (iY h)
theorem Ar (c:X.A.units+1<nq)(a:SE X W i fi)(b:SE X W o fo)(d:ov .NotIn o=a8:=by with_unfolding_all rfl):OI X W (.Compare i [.NotIn] [o] pos) (br (By a6 fi fo)):=
 (xx (AL c a b) d).imp λe H Q h=>NT.mono (t:=yK (tE X W fi) (tE X W fo)) (λ_ _ _=>p7 (neg:=a6)) (iY h)
noncomputable def zX (x k:D)(S:Lq):a5 D:=match x with
 | .loc l=>match S[l]?,fN k with
  |ag (.dict kvs),ag _=>getD kvs k
  |_,_=>a4
 |_=>a4
noncomputable def Jm (fd c:Lk D):Lk D:=λa S=>ai (fd a S) λx d=>ai (c a d) λk b=>aL (zX x k b) b
theorem Ef (t:X.A.units+1<nq)(B:SE X W o fo)(F:SE X W i fi)(s:BB i):SE X W (.Subscript o i pos) (Jm fo fi):=(EC t B F s).imp λN H Q h =>
 (tG.LC h).mono λx T ⟨w,D⟩=>(tG.LC D).mono λy G n=>by
  obtain⟨M,E⟩:=n
  obtain⟨J,P,S,r,O,c,m,e,z⟩:=E;obtain⟨mk,m⟩:=m.LA;obtain⟨u,_⟩:=m.LA;unfold zX at e;cases w with
  |loc l =>
   simp only at e;rw[1]
   ·rename_i j L es g;obtain⟨a,rfl,I⟩:=At.LI.mp u;obtain⟨R,q,p⟩:=c.L0.at_ l a _ I es;have C:=CZ g mk;subst C;rcases C7 g p with ⟨b,f⟩ |⟨d,v,b,f,K⟩
    ·rw[b] at e;cases e
    rw[b] at e;cases e;exact⟨a,v,rfl,by rw[← f];exact Ou.k q,z J G _ Ex.refl c.L0 K⟩
   cases e
  |_=>cases e
end
section
variable {X:Cx}{W:WT}
theorem SE.either {e:gy}{g g1 g2:Lk D}(i:SE X W e g1)(j:SE X W e g2)(h:∀ ρ S,g ρ S=g1 ρ S∨g ρ S=g2 ρ S):SE X W e g:=λb s d H Q I z=>by
 obtain⟨J,ρ,S,r,f,c,a,e,y⟩:=z;rcases h ρ S with q |q
 ·exact i b s d H Q I ⟨J,ρ,S,r,f,c,a,by rw[← q];exact e,y⟩
 exact j b s d H Q I ⟨J,ρ,S,r,f,c,a,by rw[← q];exact e,y⟩
theorem OI.either {e:gy}{g g1 g2:Lk eM}(i:OI X W e g1)(j:OI X W e g2)(h:∀ ρ S,g ρ S=g1 ρ S∨g ρ S=g2 ρ S):OI X W e g:=λb s d H Q I z=>by
 obtain⟨J,ρ,S,r,f,c,a,e,y⟩:=z;rcases h ρ S with q |q
 ·exact i b s d H Q I ⟨J,ρ,S,r,f,c,a,by rw[← q];exact e,y⟩
 exact j b s d H Q I ⟨J,ρ,S,r,f,c,a,by rw[← q];exact e,y⟩
theorem SI.either {b e:gy}{g g1 g2:Lk (ak D)}(i:SI X W b e g1)(j:SI X W b e g2)(h:∀ ρ S,g ρ S=g1 ρ S∨g ρ S=g2 ρ S):SI X W b e g:=λa s d H R I z=>by
 obtain⟨J,ρ,S,r,f,c,e,y⟩:=z;rcases h ρ S with q |q
 ·exact i a s d H R I ⟨J,ρ,S,r,f,c,by rw[← q];exact e,y⟩
 exact j a s d H R I ⟨J,ρ,S,r,f,c,by rw[← q];exact e,y⟩
theorem cz {α e:Type}(m:Out α){k d b : α->Lq->Out e}(h:∀ a S,k a S=d a S∨k a S=b a S):ai m k=ai m d∨ai m k=ai m b:=by
 cases m with
 |none=>exact #[9]
 |some o =>
  obtain⟨r,S⟩:=o;cases r with
  |error c=>exact #[9]
  |ok a=>exact h a S
noncomputable def bN:D->eM
 | .loc _=>a6
 |_=>a8
noncomputable def Mu (x i:D)(S:Lq):a5 D:=if bN x=a6 then zX x i S else TU x i
noncomputable def Nd (c e:Lk D):Lk D:=λa S=>ai (c a S) λx d=>ai (e a d) λi b=>aL (Mu x i b) b
variable {a b:gy}{fa fb:Lk D}{pos:Ud}
theorem aU (g:X.A.units+1<nq)(ha:SE X W a fa)(hb:SE X W b fb)(d:BB b:=by exact λ_ _=>rfl):SE X W (.Subscript a b pos) (Nd fa fb):=
 SE.either (Ef g ha hb d) (FK ixd ha hb d) λc S=>cz _ λx e=>by
  by_cases h:bN x=a6
  ·refine .inl (q7 (ai (fb c e)) (acr λi=>acr λf=>?_));unfold Mu;rw[cc h]
  refine .inr (q7 (ai (fb c e)) (acr λi=>acr λf=>?_));unfold Mu;rw[cn h]
noncomputable def RF (neg:eM)(k x:D)(S:Lq):a5 D:=if bN x=a6 then Fh neg k x S else (if neg=a6 then tQ k x else inD k x)
noncomputable def RW (neg:eM)(c fd:Lk D):Lk D:=λa S=>ai (c a S) λk d=>ai (fd a d) λx b=>aL (RF neg k x b) b
theorem mS (neg:eM)(a fd:Lk D)(ρ:Lr)(S:Lq):RW neg a fd ρ S=By neg a fd ρ S∨RW neg a fd ρ S=aI (if neg=a6 then tQ else inD) a fd ρ S:=by
 unfold RW By aI;refine cz _ λk c=>cz _ λx b=>?_;unfold RF;by_cases h:bN x=a6
 ·exact .inl (by rw[cc h])
 refine .inr ?_;rw[cn h];cases neg<;>rfl
variable (hu:X.A.units+150<nq) (LY:X.A.units+1<nq)
include hu LY
theorem Gq (e:X.A.units+151<nq)(ha:SE X W a fa)(hb:SE X W b fb)(c:ov .In b=a8:=by with_unfolding_all rfl):SE X W (.Compare a [.In] [b] pos) (RW a8 fa fb):=
 SE.either (Gr LY ha hb c) (o7 (FT e) ha hb c) λd S=>mS a8 fa fb d S
theorem oN {f a b:Lk D}{ρ:Lr}{S:Lq}(h:f ρ S=a ρ S∨f ρ S=b ρ S):br f ρ S=br a ρ S∨br f ρ S=br b ρ S:=by
 unfold br;rcases h with h |h
 ·exact .inl (by rw[h])
 exact .inr (by rw[h])
theorem BL (e:X.A.units+151<nq)(ha:SE X W a fa)(hb:SE X W b fb)(c:ov .In b=a8:=by with_unfolding_all rfl):OI X W (.Compare a [.In] [b] pos) (br (RW a8 fa fb)):=
 OI.either (Ga LY ha hb c) (bL (FT e) ha hb c) λd S=>oN hu LY (mS a8 fa fb d S)
theorem Aq (e:X.A.units+151<nq)(ha:SE X W a fa)(hb:SE X W b fb)(c:ov .NotIn b=a8:=by with_unfolding_all rfl):OI X W (.Compare a [.NotIn] [b] pos) (br (RW a6 fa fb)):=
 OI.either (Ar LY ha hb c) (bL (Ct e) ha hb c) λd S=>oN hu LY (mS a6 fa fb d S)
omit hu LY
noncomputable def cm:D->a5 (ak D)
 | .tup a=>ag a
 | .lst a=>ag a
 | .str x=>ag (x.cps.toList.map λc=>D.str ⟨#[c]⟩)
 |_=>a4
noncomputable def bM (f:Lk D):Lk (ak D):=λa S=>ai (f a S) λd b=>aL (cm d) b
theorem cQ {f:gy}(ha:SE X W a fa):SI X W f a (bM fa):=by
 refine SI.either (g1:=yo fa) (g2:=λb S=>ai (fa b S) λd e=>aL (match d with | .lst g=>ag g | .str x=>ag (x.cps.toList.map λc=>D.str ⟨#[c]⟩) |_=>a4) e) (Gm ha) (SI.either (Go ha) (Gn ha) λb S=>?_) λb S=>?_
 ·unfold Dz Du;refine cz _ λd e=>?_;cases d<;>first |exact #[9] |exact .inr rfl
 unfold bM yo;refine cz _ λd e=>?_;cases d<;>first |exact #[9] |exact .inr rfl
end
noncomputable def a_ (n m:Nat) (G:Lk Fl):Lp:=λa S=>if a.length=n then
  match G (a.map ag++eh m a4) S with
  |ag (.ok (.ret d),S')=>ag (.ok d,S')
  |ag (.ok (.next _),S')=>ag (.ok .LR,S')
  |_=>a4
 else a4
def bf (K:Ll)(mg:Lo)(x:el)(st:qb)(a:ak el):Prop:=∃ f fd,QX K x x st f fd/\mg x=ag (.ref f)/\Binds K fd a []
def M7 (P:e8)(w:hL)(K:Ll)(mg:Lo)(base:ja)(k:Nat)(x:el)(a:ak el)(F:Lp):Prop:=
 ∃ f fd,Sr P w K mg base k f fd a F/\mg x=ag (.ref f)/\Qo K (.ref f)=a6/\Binds K fd a []
section
variable {P:e8}{w:hL}{K:Ll}{mg:Lo}{base:ja}
theorem nP {x qual:el}{st:qb}{sc:ku}{N b:ak el}{k:Nat}{G:Lk Fl}{f:bc}{fd:K1}(R:QX K x qual st f fd)(T:aq st=sc)(S:Lw N b sc)
  (h:∀ (A:iv) (outer:ak Env) (s:bo) (H:Hp) (E:XK),L1 k (A.deeper (XN qual sc s.heap.objs.size f fd.code))->Q3 (p9 Rx P w K mg base N qual sc f fd.code A outer s H E).SX W0 (bQ st) G) :
  Sr P w K mg base (k+1) f fd b (a_ b.length (N.length-b.length) G):=by
 subst T;obtain⟨oc,od,kV,doc,Y,an,LU,ct,QW,rfl,D,F⟩:=R.ex
 have len:∀ a St r,a_ b.length (N.length-b.length) G a St=ag r->a.length=b.length:=λa St r e=>by
  unfold a_ at e;rw[1]
  ·assumption
  cases e
 refine Jc D F S (λM H Q E h=>?_) λA outer s H M Q E hr y=>?_
 ·obtain⟨J,St,a,d,j,m,_,e,_⟩:=h;rw[← m.length];exact len a St _ e
 obtain⟨J,St,a,d,j,m,so,e,z⟩:=y;have p:=len a St _ e
 have L:∃ r,G (a.map ag++eh (N.length-b.length) a4) St=ag (.ok r,j)/\(r = .ret d∨(d = .LR/\∃ t,r = .next t)):=by
  unfold a_ at e;rw[cc p] at e;rw[1]
  ·rename_i C X q;cases e;exact⟨_,q,#[9]⟩
  ·rename_i g X q;cases e;exact⟨_,q,.inr ⟨rfl,g,rfl⟩⟩
  cases e
 obtain⟨r,V,u⟩:=L;refine⟨_,(h A outer s H E hr).SX,J,_,St,.ok r,j,⟨?_,λi Z hd=>?_,so⟩,V,?_⟩
 ·unfold start;rw[cv,cv,dv,dv,← m.length,p];simp
 ·by_cases o:i<a.length
  ·rw[h7 (by simpa using o),dk] at hd;cases q:a[i]? with
   |none=>rw[q] at hd;cases hd
   |some C =>
    rw[q] at hd;cases hd;obtain⟨v,ev,W⟩:=m.get q;refine⟨v,?_,W⟩;unfold start;rw[h7 (by rw[dv,← m.length];exact o),dk,ev];rfl
  rw[h6 (by simpa using o),QH] at hd;split at hd<;>cases hd
 rcases u with rfl |⟨rfl,t,rfl⟩
 ·exact λn l v c B O=>z n l v c B O
 exact λn U l c I=>z n l _ c I.L0 (At.Mf.mpr rfl)
theorem pV {x:el}{st:qb}{sc:ku}{N a:ak el}{k:Nat}{G:Lk Fl}{f:bc}{fd:K1}(c:QX K x x st f fd)(d:aq st=sc)(Sc:Lw N a sc)
  (h:∀ (f:bc) (b:ax) (A:iv) (outer:ak Env) (s:bo) (H:Hp) (E:XK),L1 k (A.deeper (XN x sc s.heap.objs.size f b))->Q3 (p9 Rx P w K mg base N x sc f b A outer s H E).SX W0 (bQ st) G) :
  Sr P w K mg base (k+1) f fd a (a_ a.length (N.length-a.length) G):=nP c d Sc λA outer s H E hr=>h f fd.code A outer s H E hr
theorem aT {x:el}{st:qb}{sc:ku}{N a:ak el}{k:Nat}{G:Lk Fl}(g:bf K mg x st a)(e:aq st=sc)(Sc:Lw N a sc)
  (h:∀ (f:bc) (c:ax) (A:iv) (outer:ak Env) (s:bo) (H:Hp) (E:XK),L1 k (A.deeper (XN x sc s.heap.objs.size f c))->Q3 (p9 Rx P w K mg base N x sc f c A outer s H E).SX W0 (bQ st) G) :
  M7 P w K mg base (k+1) x a (a_ a.length (N.length-a.length) G):=by
 obtain⟨f,fd,b,d,hb⟩:=g;exact⟨f,fd,pV b e Sc h,d,b.kp,hb⟩
theorem lV {x:el}{st:qb}{b:ak el}{k:Nat}(i:bf K mg x st b):M7 P w K mg base k x b (λ_ _=>a4):=by
 obtain⟨f,fd,g,c,hb⟩:=i;have no:∀ a H Q E,¬ XG K (λ_ _=>a4) a H Q E:=λa H Q E h=>by obtain⟨J,S,j,d,l,_,_,e,_⟩:=h;cases e
 exact⟨f,fd,⟨λa H Q E h=>ib h (no a H Q E),λA outer s H args m a Q E _ _ _ _ h=>ib h (no a H Q E)⟩,c,g.kp,hb⟩
theorem aX {A:iv}{k:Nat}(hr:L1 k A):A.units+150<nq:=by have:=hr.un;omega
theorem aW {A:iv}{k:Nat}(hr:L1 k A):A.units+151<nq:=by have:=hr.un;omega
end
section
variable {X:Cx}{W:WT}{x:el}{p pos:Ud}{e:gy}{es:ak gy}{gs:Lk (ak D)}
theorem aD {k:Nat}{c:ak el}{F:Lp}(C:M7 X.prog X.w X.K X.mg X.base k x c F)(hr:L1 k X.A)
  (ha:SA X W (e::es) gs) (a:Gl X x:=by rfl) (h:(x==("__debug__":el))=a8:=by decide) (g:ek (e::es) X.env=(a8,qa e X.env)::ek es X.env:=by rfl) (b:(rb pos (ek es X.env)).any (·.1)=a8:=by rfl) :
  SE X W (.Call (.Name x p) (e::es) [] pos) (aQ F gs):=by
 obtain⟨f,fd,G,i,d,hb⟩:=C;exact Eg G hr i d hb ha a h g b
end
noncomputable def yO (K:Ll)(n:Nat):Sp:=λc H Q _ => ∃ (a:bc) (ns:ak Int),c=[.ref a]/\Oq K H a (ns.map V.int)/\ns.length<=n/\∀ b,Q (.bl a6) b
theorem G7 {P:e8}{w:hL}{K:Ll}{mg:Lo}{base:ja}{k n:Nat}{f:bc}{fd:K1}{d:ak el}{F:Lp}(h:Sr P w K mg base k f fd d F)(p:n<=1000)
  (r:∀ ns:ak Int,ns.length<=n->∃ b,F [.lst (ns.map .int)] []=ag (.ok (.bl a6),b)):Ny P w K mg base Rx k f fd d (yO K n):=by
 refine Ny.imp h λs H Q E g=>?_;obtain⟨a,ns,e,i,c,q⟩:=g;subst e;obtain⟨b,eF⟩:=r ns c;refine⟨[],[],[.lst (ns.map .int)],.bl a6,b,.cons (At.LG.mpr ⟨a,ns.map V.int,rfl,?_,Ly.ofInts ns⟩) .nil,⟨rfl,.nil,λl a o h=>by simp at h⟩,eF,λt j v _ _ m=>?_⟩
 ·rcases i with z |z
  ·exact .inl ⟨z,by simp,by rw[dv];exact fg c (fg p #[2])⟩
  exact .inr z
 rw[At.LZ.mp m];exact q j
theorem RZ {l:X3}{q:e8}{loose:ak el}{g:(Lo)->ja->Prop}{b:hL->ja->Prop}{d:DefRec}{K:Params->Ll}{k:Nat}{x:el}(o:l.most=ag 63)(m:d.params.defaults=[])(hr:L1 k ZX)
  (i:∀ (w:hL) (h:ja),b w h->(K w.params).In h)
  (F:∀ (w:hL) (mg:Lo) (c:bc) (h:ja),(K w.params).In h->h.Ns my mg->mg d.name=ag (.ref c) ->
   ∃ fd:K1,(∀ (s:bo) (u:ax),abV s fd ⟨[u],[]⟩ [(x,u)])/\∀ base:ja,(K w.params).In base->base.Ns my mg->Ny l.prog w (K w.params) mg base Rx k c fd [x] (yO (K w.params) 63)) :
  adG q loose g b l.row.toRowW d [] (λf vs=>adP f vs):=
 L2.Tc (n:=63) (k:=k) (x:=x) (CX:=λ_=>Rx) (sp:=λw=>yO (K w.params) 63) o #[2] m hr i F (λ_ _ a ns e _ j=>⟨a,ns,rfl,j,e,λ_=>rfl⟩) λ_ _ _ _ _ z=>z
theorem fG:n0 "len"=ag (.builtin "len"):=by decide
theorem eL:n0 "tuple"=ag (.type "tuple"):=by decide
theorem Fw:n0 "list"=ag (#[14]):=by decide
theorem HK:n0 "int"=ag (.type "int"):=by decide
theorem Ab:n0 "bool"=ag (.type "bool"):=by decide
theorem HH:n0 "set"=ag (.type "set"):=by decide
theorem HJ:n0 "min"=ag (.builtin "min"):=by decide
theorem gW:n0 "sorted"=ag (.builtin "sorted"):=by decide
end L2
namespace L2
open PySem
section
variable {prog:e8}{w:hL}{K:Type} [wt K]
def Qs (xs:hO Nat):Prop:=xs.toList.Pairwise (· < ·)
theorem Qs.lt {xs:hO Nat}(h:Qs xs){i j:Nat}(a:i<j)(b:j<xs.size):xs[i]'(Vn a b)<xs[j]:=by have:=Qt.mp h i j (by simpa using Vn a b) (by simpa using b) a;rw[4]
theorem qm (xs:hO Nat)(j:Nat):∀ (fuel lo a:Nat),a-lo<=fuel->lo<=a->a<=xs.size->Qs xs->(∀ i (h:i<xs.size),i<lo->xs[i]<j)->(∀ i (h:i<xs.size),a<=i->j<=xs[i]) ->
  UQ xs j fuel lo a<=xs.size/\(∀ i (h:i<xs.size),i<UQ xs j fuel lo a->xs[i]<j)/\(∀ i (h:i<xs.size),UQ xs j fuel lo a<=i->j<=xs[i])
 | 0,lo,a,l,k,b,_,c,d=>by
  have e:lo=a:=#[1]
  subst e;unfold UQ;exact⟨b,c,d⟩
 |fuel+1,lo,a,l,k,b,hr,c,d=>by
  unfold UQ;by_cases h:lo<a
  ·rw[cc h];have g:(lo+a) / 2<xs.size:=#[1]
   have m:xs.getD ((lo+a) / 2) j=xs[(lo+a) / 2]:=by simp[Array.getD,g]
   simp only[m];by_cases hc:xs[(lo+a) / 2]<j
   ·rw[cc hc];refine qm xs j fuel _ a #[0] #[0] b hr (λi f n=>?_) d;rcases Rv i ((lo+a) / 2) with q |q
    ·exact Vn (hr.lt q g) hc
    have e:i=(lo+a) / 2:=#[1]
    subst e;exact hc
   rw[cn hc];refine qm xs j fuel lo _ #[0] #[0] #[0] hr c λi f o=>?_;rcases Rv ((lo+a) / 2) i with q |q
   ·have:=hr.lt q f;omega
   have e:i=(lo+a) / 2:=#[1]
   subst e;omega
  rw[cn h];have e:lo=a:=#[1]
  subst e;exact⟨b,c,d⟩
theorem kN {xs:hO Nat}(hr:Qs xs)(j:Nat):hB xs j<=xs.size/\(∀ i (h:i<xs.size),i<hB xs j->xs[i]<j)/\(∀ i (h:i<xs.size),hB xs j<=i->j<=xs[i]):=by unfold hB;exact qm xs j xs.size 0 xs.size #[0] #[0] (e9 _) hr (λi _ h=>ib h #[0]) λi h q=>ib h #[0]
theorem ql {xs:hO Nat}(hr:Qs xs){j p:Nat}(f:p<=xs.size)(d:∀ i (h:i<xs.size),i<p->xs[i]<j)(e:∀ i (h:i<xs.size),p<=i->j<=xs[i]):hB xs j=p:=by
 obtain⟨a,b,c⟩:=kN hr j;rcases V5 (hB xs j) p with q |q |q
 ·have x:=c _ #[0] (e9 _);have y:=d (hB xs j) #[0] q;omega
 ·exact q
 have x:=b p #[0] q;have y:=e p #[0] (e9 _);omega
theorem Qs.put {t:A1}(hr:Qs t.place){j:Nat}(r:∀ i,t.slot j≠.live i):Qs (t.put j).1.place:=by
 obtain⟨a,b,c⟩:=kN hr j;have p:t.place[hB t.place j]?≠ag j:=λe=>r (hB t.place j) (by unfold acb;simp[e]);unfold SetTable.put Qs yk;simp only[aag,Z2,W5];have s:(t.place.toList.drop 0).take (hB t.place j-0)=t.place.toList.take (hB t.place j):=by simp
 have key:∀ i,hB t.place j<=i->∀ h:i<t.place.size,j<t.place[i]:=by
  intro i d h;have o:=c i h d;rcases Rv j t.place[i] with q |q
  ·exact q
  exfalso;have hb:hB t.place j<t.place.size:=#[1]
  have u:=c _ hb (e9 _);rcases Rv (hB t.place j) i with z |z
  ·have:=hr.lt z h;omega
  have e:hB t.place j=i:=#[1]
  refine p ?_;rw[kb hb];congr 1;have:t.place[hB t.place j]=t.place[i]:=by simp only[e]
  omega
 have n:(t.place.toList.drop (hB t.place j)).take (t.place.size-hB t.place j)=t.place.toList.drop (hB t.place j):=y0 #[3];simp only[Tn,aaz,adZ] at *
 rw[n];rw[j0,E3,List.singleton_append,X0];refine⟨hr.sublist (ZW ..),⟨λy hy=>?_,hr.sublist (acS ..)⟩,λx f y hy=>?_⟩
 ·obtain⟨i,d,e⟩:=T3 hy;rw[acT] at e;have:=key (hB t.place j+i) #[0] (by simp at d;omega);rw[abC] at e;omega
 obtain⟨i,d,e⟩:=T3 f;rw[List.getElem_take,abC] at e;have g:i<hB t.place j:=by simp at d;omega
 have o:=b i #[0] g;rcases fx.mp hy with rfl |hy
 ·omega
 obtain⟨k,l,m⟩:=T3 hy;rw[acT,abC] at m;have:=key (hB t.place j+k) #[0] (by simp at l;omega);omega
theorem xC {α c:Type}{F : α->c->Prop}{l:ak α}{m:ak c}(r:lC F l m):∀ b∈m,∃ a∈l,F a b:=by
 induction r with
 |nil=>intro b hb;cases hb
 |cons f t e =>
  intro b hb;rcases fx.mp hb with rfl |hb
  ·exact⟨_,eR ..,f⟩
  obtain⟨a,g,d⟩:=e b hb;exact⟨a,ee _ g,d⟩
theorem vi {α c:Type}{F : α->c->Prop}{l:ak α}{m:ak c}(r:lC F l m):∀ a∈l,∃ b∈m,F a b:=by
 induction r with
 |nil=>intro b hb;cases hb
 |cons f t e =>
  intro b hb;rcases fx.mp hb with rfl |hb
  ·exact⟨_,eR ..,f⟩
  obtain⟨a,g,d⟩:=e b hb;exact⟨a,ee _ g,d⟩
theorem vh {α c:Type}{F : α->c->Prop}{l:ak α}{m:ak c}(r:lC F l m){a : α}{b : c}(f:F a b):lC F (l++[a]) (m++[b]):=by
 induction r with
 |nil=>exact .cons f .nil
 |cons g t d=>exact .cons g d
theorem nH {α a:Type}{F : α->a->Prop}{l:ak α}{m:ak a}(r:lC F l m):l.length=m.length:=by
 induction r with
 |nil=>rfl
 |cons g t b=>simp[b]
variable {knd:aem prog w K}{pk:K->eM}{led:eM}
noncomputable def bq (a:ak K)(k:K):ak K:=if k∈a then a else a++[k]
variable {A:iv}{E:Lm}{s:bo}
end
namespace SF
theorem P7:ad0 table "set.update.loop"=ag Builtin.«set.update.loop»:=entryFor_of_tree (by kernel_rfl)
theorem PB:plainId "set.update.loop"=a6:=by decide
theorem TZ (a:ax):checkTypeCall "set" ⟨[a],[]⟩=wh ():=by kernel_rfl
theorem Wx (a:ax):XT "set.__new__" ⟨[.type "set",a],[]⟩=wh ():=by kernel_rfl
theorem R0:ad0 table "set.__iter__"=ag Builtin.«frozenset.__iter__»:=entryFor_alias (id':="frozenset.__iter__") (by kernel_rfl) rfl #[2] (by kernel_rfl)
theorem slot_next:Slot "set_iterator" "__next__" "set_iterator.__next__":=
 .of (owner:="set_iterator") (n:="__next__") (by rw[typeLookup_type,abk];kernel_rfl) #[2] #[2] #[2]
  (by first |exact .inl #[2] |exact .inr #[2]) (by rw[isSubtype_type];kernel_rfl)
theorem slot_self:Slot "set_iterator" "__iter__" "set_iterator.__iter__":=
 .of (owner:="set_iterator") (n:="__iter__") (by rw[typeLookup_type,abk];kernel_rfl) #[2] #[2] #[2]
  (by first |exact .inl #[2] |exact .inr #[2]) (by rw[isSubtype_type];kernel_rfl)
theorem P8:ad0 table "set_iterator.__next__"=ag Builtin.«set_iterator.__next__»:=entryFor_of_tree (by kernel_rfl)
theorem R1:Manifest.owners.lookup (String.ofList ['r','o','t','a','r','e','t','i','_','t','e','s'].reverse)=ag Manifest.sig_set_iterator:=by kernel_rfl
theorem args_next (a:ax):argsOk "set_iterator.__next__" ⟨[a],[]⟩:=by unfold argsOk;rw[signature?_of (id:="set_iterator.__next__") (n:=['_','_','t','x','e','n','_','_']) (o:=['r','o','t','a','r','e','t','i','_','t','e','s']) (by kernel_rfl) R1];kernel_rfl
end SF
section
variable {prog:e8}{w:hL}{K:Type} [wt K] {knd:aem prog w K}{pk:K->eM}{led:eM}
noncomputable def met (val:Nat->K)(i:Nat):ak K:=((ew i).map val).foldl bq []
theorem vC (val:Nat->K)(i:Nat):met val (i+1)=bq (met val i) (val i):=by unfold met;rw[ad1,Sv,List.foldl_append];rfl
theorem y9 (val:Nat->K):∀ i,(met val i).length<=i
 | 0=>e9 _
 |i+1=>by
  have a:=y9 val i;rw[vC];unfold bq;split
  ·omega
  rw[cv,T2];omega
section
variable {A:iv}{E:Lm}{s:bo}
noncomputable def Pg (w:hL):eM:=w.params.followText "set-order"
abbrev gp (w:hL):Obj:={ cls:=.type "set",dict:=a4,data:=.set #[] 0 (.fresh 0 0 (!Pg w)) }
theorem uX (a:ax){Q₁:Lm}(h:Q₁ (#[16]) { s with heap:=s.heap.push (gp w) }) :
  XW #[5] A (.call (.builtin "set.__new__") ⟨[.type "set",a],[]⟩) (wants Q₁ E) s:=by
 refine codeAny_of_tree ?_;show dr _ A.in1 (do XT "set.__new__" ⟨[.type "set",a],[]⟩;again (.builtin "set.__new__" ⟨[.type "set",a],[]⟩)) _ _ s;refine av (ado (SF.Wx a) (ay ⟨plainId_quiet F.plain_set_new _,aba F.entry_set_new ?_⟩));rw[X4 F.plain_set_new _];unfold Builtin.«set.__new__» ad2;have q:=sub_set_self;obtain⟨b,g,d,tk,os⟩:=s;rw[0]
 wp_walk
 refine aaA (ay ?_);simp only[newObj];exact av (wpAny_alloc (ay (ay h)))
theorem q8 {M:Model}{self a:ax}{Q:acf->bo->Prop}(c:s.TypeIs self "set")(i:Q () s):dr M A (XT "set.__init__" ⟨[self,a],[]⟩) Q E s:=by
 simp only[XT,kind_set_init,split_set_init,sig_set_init];refine av (Vj c sub_set_self ?_);simp only[uk,gh,la];unfold Bind.checkArgs;rw[0];refine av (m:=Bind.printed "set" a6 _ _) (PyProof.Rows.printed_name #[2] ?_);refine av (m:=Bind.printed "*" a8 _ _) (PyProof.Rows.printed_star (self:=self) rfl c λb=>?_);have d:(aaY==aaZ)=a8:=#[4]
 have g:(if (aaY==aaZ)=a6 then [self,a].length else [self,a].length-1)=1:=by simp[d]
 rw[g];simp only[abY];have j:(Sw==Sw)=a6:=#[4]
 have f:(Sw==ad3)=a8:=#[4]
 have h:(Sw==aef)=a8:=#[4]
 have e:Bind.check ⟨.positional,"set","*",.self,[⟨"iterable",.posOnly,a8⟩]⟩ "set" b 1 []=wh ():=by simp[Bind.check,Bind.checkCount,Bind.isPositional,j,f,h]
 rw[e];exact ay i
end
end
end L2
namespace L2
open PySem
section
variable {prog:e8}{w:hL}{A:iv}{E:Lm}{s:bo}
theorem wp_choose {a:Source}{n:Nat}{Q:Nat->bo->Prop}(b:n≠0)(h:∀ i,i<n->Q i { s with drawn:=s.drawn.bump a }):dr #[5] A (choose a n) Q E s:=
 λ_ _ _=>⟨b,h _ (aah _ (acs b))⟩
theorem kH {α:Type}:∀ {xs:ak α}{i:Nat}{x : α},xs[i]?=ag x->(x::xs.eraseIdx i).Perm xs
 |[],_,_,h=>by simp at h
 |y::ys,0,x,h=>by simp at h;subst h;exact .refl _
 |y::ys,i+1,x,h=>by
  rw[qf] at h;rw[List.eraseIdx_cons_succ];exact(ad4 y x _).trans ((kH h).cons y)
theorem kW {α:Type}:∀ (n:Nat) (xs:ak α) {s:bo}{Q:ak α->bo->Prop},xs.length=n->(∀ ys d,ys.Perm xs->Q ys { s with drawn:=d })->dr #[5] A (drawOrder n xs) Q E s
 | 0,xs,s,Q,a,h=>by
  obtain rfl:=So.mp a;unfold drawOrder;exact ay (h [] s.drawn (.refl _))
 |n+1,[],s,Q,a,h=>by simp at a
 |n+1,x::r,s,Q,a,h=>by
  unfold drawOrder;refine av (wp_choose #[3] λi b=>?_);have e:=a7 b;rw[e];rw[0];refine av (kW n _ (by rw[Zp b,a];omega) λys d p=>?_);exact ay (h _ d ((p.cons _).trans (kH e)))
theorem rH {α:Type}(next:Nat->Nat):∀ (m k:Nat) (left:ak α) (out:hO α),left.length=m->(acU next m k left out).toList.Perm (out.toList++left)
 | 0,k,left,out,a=>by
  obtain rfl:=So.mp a;unfold acU;rw[ia]
 |m+1,k,left,out,a=>by
  have b:next k % left.length<left.length:=aah _ #[0]
  have e:=a7 b;unfold acU;rw[e];rw[0];refine(rH next m (k+1) _ _ (by rw[Zp b,a];omega)).trans ?_;rw[Z2,j0];exact(kH e).append_left _
def ME (h:ja)(it a:bc)(first:ax)(i n ep:Nat):Prop:=∃ o,h.get? it=ag o/\o.cls = .type "set_iterator"/\o.data = .fields #[first,.int i 0,.ref a,.int n 0,.int ep 0]
inductive Way (w:hL) (a it:bc) (es:hO (Int×ax)) (ep:Nat) (t:A1):hO (Int×ax)->ak bc->(Nat->ax->ja->Prop)->Prop where
 |text (hb:Pg w=a6):Way w a it es ep t (pickOrder (w.params.setOrder a ep) es) [it,a] (λ_ f _ => ∃ k:Nat,f = .int k 0)
 |one (hb:Pg w=a8) (hl:t.led=a6) (h1:t.plain=a6∨es.size<=1) (hr:Qs t.place):Way w a it es ep t es [it,a] (λi f _ => ∃ k:Nat,f = .int k 0/\hB t.place k=i)
 |drawn (hb:Pg w=a8) (hp:t.plain=a8) (h1 : 1<es.size) (tp:bc) (order:ak Nat) (ho:order.Perm (ew es.size)):tp≠it ->
  Way w a it es ep t (order.filterMap λi=>es[i]?).toArray [it,a,tp] (λ_ f h=>f = .ref tp/\h.IsTuple tp (order.map λ(i:Nat)=>YW i 0).toArray)
theorem AM {es:hO (Int×ax)}{order:ak Nat}(c:order.Perm (ew es.size)):(order.filterMap λi=>es[i]?).length=order.length/\∀ i:Nat,(order.filterMap λi=>es[i]?)[i]?=(order[i]?).bind λj=>es[j]?:=by
 have d:∀ j∈order,j<es.size:=λj a=>SJ.mp (c.mem_iff.mp a);clear c
 induction order with
 |nil=>exact⟨rfl,λi=>by simp⟩
 |cons j r h =>
  have a:=d j (eR ..);obtain⟨e,f⟩:=h λk g=>d k (ee _ g);rw[Tz (b:=es[j]) (by simp[a])];refine⟨by simp[e],λi=>?_⟩;cases i with
  |zero=>simp[a]
  |succ i=>simpa using f i
theorem Way.perm {a it:bc}{es:hO (Int×ax)}{ep:Nat}{t:A1}{out:hO (Int×ax)}{fp:ak bc}{F:Nat->ax->ja->Prop}(y:Way w a it es ep t out fp F):out.toList.Perm es.toList:=by
 cases y with
 |text hb=>simpa [pickOrder] using rH (w.params.setOrder a ep) es.size 0 es.toList #[] #[3]
 |one=>exact .refl _
 |drawn hb c d tp order b e =>
  have q:=b.filterMap λi=>es[i]?;rw[aai] at q;simpa using q
end
section
variable {prog:e8}{w:hL}{A:iv}{E:Lm}{s:bo}
variable {a it:bc}{o:Obj}{es:hO (Int×ax)}{ep:Nat}{t:A1}
theorem jv {Q:eM->bo->Prop}(h:Q (Pg w) s):dr #[5] A setsByText Q E s:=by unfold setsByText;exact av (aaA (ay h))
theorem uH {Q:eM->bo->Prop}(b:s.heap.get? a=ag o)(hd:o.data = .set es ep t)(c:t.fits es.size=a6)(h:Q (!Pg w&&(!t.plain&&ei (es.size > 1))) s):dr #[5] A (setDrawn a) Q E s:=by unfold setDrawn;refine av (za b hd c ?_);rw[0];exact av (jv (ay h))
theorem xu {Q:Lm}(c:s.heap.get? a=ag o)(hex:o.ExactSet)(hd:o.data = .set es ep t)(j:t.fits es.size=a6)(hz:es.size<=da)(p:Pg w=a8->t.led=a6)(hr:Qs t.place)
  (h:∀ it out fp F first h' d,Way w a it es ep t out fp F->ME h' it a first 0 es.size ep->F 0 first h'->(∀ b o,#[19]=ag o->h'.get? b=ag o)->s.heap.objs.size<=it->(∀ b∈fp,b=a∨s.heap.objs.size<=b) ->
   Q (.ref it) { s with heap:=h',drawn:=d }):dr #[5] A (acg (.ref a)) Q E s:=by
 have n:s.TypeIs (.ref a) "set":=⟨o,c,hex.1⟩;refine wpAny_pyIter_slot n F.slot_set_iter (mi F.slot_set_iter n SF.R0 ?_ (F.args_set_iter_1 _));unfold Builtin.«frozenset.__iter__» aep slotArgs;simp only[List.isEmpty_nil,uk,gh,↓reduceIte,bind_assoc,acj,Z6];unfold aeh aei;refine av (ay ?_)
 try rw[0]
 refine av (ay ?_);refine av (av (wpAny_setEntries_of c hd j (ay ?_)));refine av (uH c hd j ?_);have q:a<s.heap.objs.size:=en c;cases hc:(!Pg w&&(!t.plain&&ei (es.size > 1))) with
 |true =>
  rw[pX,pX,Z1,Z1] at hc;obtain⟨hb,k,g⟩:=hc;have g:=mv g;rw[cc rfl];refine av (kW es.size (ew es.size) #[3] λorder d l=>?_);have f:order.length=es.size:=by rw[l.length_eq,mc]
  refine av (abD ?_ (by rw[dv,f];exact hz));refine av (wpAny_setEpoch_of (a9 _ c) hd j ?_);refine av (ng (ay ⟨_,rfl,"set_iterator",_,⟨_,er _ rfl,rfl⟩,SF.slot_next.lookup,?_⟩))
  refine h _ _ _ _ (#[16]) _ d (Way.drawn hb k g s.heap.objs.size order l ?_) ⟨_,er _ rfl,rfl,rfl⟩ ⟨rfl,⟨_,a9 _ (er _ rfl),rfl,0,?_⟩⟩
   (λb o e=>a9 _ (a9 _ e)) ?_ ?_
  ·rw[nC];exact m3 (Vm _)
  ·rfl
  ·rw[nC];exact abW _
  intro b hb;rcases fx.mp hb with e |hb
  ·rw[e,nC];exact .inr (abW _)
  rcases fx.mp hb with e |hb
  ·exact .inl e
  rw[gA.mp hb];exact .inr (e9 _)
 |false =>
  rw[cn #[2]];refine av (ay ?_);refine av (wpAny_setEpoch_of c hd j ?_);refine av (ng (ay ⟨_,rfl,"set_iterator",_,⟨_,er _ rfl,rfl⟩,SF.slot_next.lookup,?_⟩))
  have m:∀ b∈[s.heap.objs.size,a],b=a∨s.heap.objs.size<=b:=λb hb=>by
   rcases fx.mp hb with e |hb
   ·rw[e];exact .inr (e9 _)
   exact .inl (gA.mp hb)
  cases hb:Pg w with
  |true=>exact h _ _ _ _ (.int 0 0) _ s.drawn (Way.text hb) ⟨_,er _ rfl,rfl,rfl⟩ ⟨0,rfl⟩ (λb o e=>a9 _ e) (e9 _) m
  |false =>
   have g:t.plain=a6∨es.size<=1:=by
    cases k:t.plain with
    |true=>exact #[9]
    |false =>
     rw[hb,k] at hc;have:=acu (show ei (es.size > 1)=a8 from hc);exact .inr #[0]
   exact h _ _ _ _ (.int 0 0) _ s.drawn (Way.one hb (p hb) g hr) ⟨_,er _ rfl,rfl,rfl⟩ ⟨0,rfl,ql hr (RC _) (λi _ z=>ib z #[0]) λi _ _=>RC _⟩ (λb o e=>a9 _ e) (e9 _) m
theorem ME.ty {first:ax}{i n:Nat}(x:ME s.heap it a first i n ep):s.TypeIs (.ref it) "set_iterator":=let ⟨o,b,hc,_⟩:=x;⟨o,b,hc⟩
theorem iz {k i:Nat}{Q:a5 (ax×Nat)->bo->Prop}(b:s.heap.get? a=ag o)(hd:o.data = .set es ep t)(c:t.fits es.size=a6)(hb:Pg w=a6)
  (h:Q (((pickOrder (w.params.setOrder a ep) es)[i]?).map λe=>(e.2,k)) s):dr #[5] A (setNext a k i ep) Q E s:=by
 unfold setNext;refine av (za b hd c ?_);rw[0];refine av (jv ?_);rw[hb,cc rfl,cn #[3]];refine av ?_;unfold setWalk;refine av (za b hd c ?_);rw[0];refine av (jv ?_);rw[hb,cc rfl];exact av (aaA (ay (ay h)))
theorem iU {k i:Nat}{Q:a5 (ax×Nat)->bo->Prop}(b:s.heap.get? a=ag o)(hd:o.data = .set es ep t)(d:t.fits es.size=a6)(hb:Pg w=a8)(e:t.led=a6)(h1:t.plain=a6∨es.size<=1)
  (h:Q (match es[hB t.place k]?,t.place[hB t.place k]? with |ag (_,x),ag j=>ag (x,j+1) |_,_=>a4) s):dr #[5] A (setNext a k i ep) Q E s:=by
 unfold setNext;refine av (za b hd d ?_);rw[0];refine av (jv ?_);rw[hb,cn #[2]]
 have c:(!t.plain&&ei (es.size > 1))=a8:=by
  rcases h1 with h1 |h1
  ·rw[h1];rfl
  rw[dV #[0],abE]
 show dr _ _ (if (!t.plain&&ei (es.size > 1))=a6 then _ else _) _ _ _;rw[c,cn #[2]];refine av ?_;show dr _ _ (if (!t.led&&!es.isEmpty)=a6 then _ else _) _ _ _;rw[e,cn #[3]];exact ay (ay h)
end
section
variable {prog:e8}{w:hL}{A:iv}{E:Lm}{s:bo}
variable {a it:bc}{o:Obj}{es:hO (Int×ax)}{ep:Nat}{t:A1}
theorem q9 {h:ja}{first f':ax}{i n:Nat}(x:ME h it a first i n ep) :
  ME (h.update it (Obj.mapFields (·.setIfInBounds 0 f'))) it a f' i n ep:=by
 obtain⟨o,b,hc,hd⟩:=x;exact⟨_,OG _ b (Xr (Su hd _)),(Z0 ..).trans hc,by rw[Su hd];simp⟩
theorem q_ {h:ja}{first:ax}{i n:Nat}(x:ME h it a first i n ep) :
  ME (h.update it (Obj.mapFields (·.setIfInBounds 1 (aaJ ((i:Int)+1))))) it a first (i+1) n ep:=by
 obtain⟨o,b,hc,hd⟩:=x;exact⟨_,OG _ b (Xr (Su hd _)),(Z0 ..).trans hc,by rw[Su hd];simp[aaJ]⟩
set_option maxHeartbeats 1000000 in
theorem next_item {out:Array (Int×Value)}{fp:List Addr}{F:Nat->Value->Heap->Prop}{first:Value}{i:Nat}{x:Int×Value}{Q:Option Value->Shared->Prop}(y:Way w a it es ep t out fp F)(MQ:a≠it)(f:s.heap.get? a=some o)(hd:o.data = .set es ep t)
  (c:t.fits es.size=true) (b:ME s.heap it a first i es.size ep) (B:F i first s.heap) (d:out[i]?=some x)
  (J:∀ f' h',ME h' it a f' (i+1) es.size ep->F (i+1) f' h'->Heap.SameBut it s.heap h'->Q (some x.2) { s with heap:=h' }):wpAny (model prog w) A (pyNext (.ref it)) Q E s:=by
 obtain⟨oi,g,T4,m⟩:=id b;unfold pyNext;refine wpAny_bind (wpAny_attempt (wpAny_callSpecial?_slot (name:=Str.ofString "__next__") b.ty SF.slot_next (wpAny_call_entry SF.slot_next b.ty SF.P8 ?_ (SF.args_next _))));unfold Builtin.«set_iterator.__next__»;refine wpAny_bind (wpAny_pure ?_);refine wpAny_bind (wpAny_fieldsOf g m ?_);dsimp only;refine wpAny_bind (wpAny_setEntries_of f hd c ?_);rw[if_neg (by simp)]
 have step:∀ (f':Value),F (i+1) f' ((s.heap.update it (Obj.mapFields (·.setIfInBounds 0 f'))).update it (Obj.mapFields (·.setIfInBounds 1 (rawInt ((i:Int)+1)))))->∀ (k:Nat),f'=rawInt k->∀ (C:Lm),
   wpAny (model prog w) A.in1 (do setField (.ref it) 0 (rawInt k);setField (.ref it) 1 (rawInt ((i:Int)+1));ret x.2) (λfin Y => ∃ v,fin = .done (.ret v)/\Q (some v) Y) C s:=by
  rintro f' r k rfl C;refine wpAny_bind (wpAny_setField g m (by simp) ?_);have D:=q9 (f':=rawInt k) b;obtain⟨o1,Z,Wy,YV⟩:=id D;refine wpAny_bind (wpAny_setField Z YV (by simp) (wpAny_pure ⟨_,rfl,?_⟩));exact J _ _ (q_ D) r ((Heap.SameBut.update ..).trans (Heap.SameBut.update ..))
 cases y with
 |text hb =>
  obtain⟨k,rfl⟩:=B;dsimp only;refine wpAny_bind (iz f hd c hb ?_);simp only[Int.toNat_natCast];rw[d];exact wpAny_mono (step (rawInt k) ⟨k,rfl⟩ k rfl _) (λ_ _ h=>let ⟨v,e,q⟩:=h;⟨v,e,wpAny_pure q⟩) λ_ _ h=>h
 |one hb N I hr =>
  have hi:i<es.size:=(Array.getElem?_eq_some_iff.mp d).1;have O:t.place.size=es.size:=by have:=c;simp only[SetTable.fits,and_eq_true,beq_iff_eq] at this;exact this.1
  obtain⟨k,rfl,U⟩:=B;have l:t.place[i]?=some t.place[i]:=Array.getElem?_eq_getElem (by omega)
  have V:SetTable.below t.place (t.place[i]+1)=i+1:=ql hr (by omega) (λn H Nc=>by
   rcases lt_or_ge n i with q |q
   ·have:=hr.lt q (show i<t.place.size by omega);omega
   have e:n=i:=by omega
   subst e;omega) λn H XM=>hr.lt (show i<n by omega) H
  dsimp only;refine wpAny_bind (iU f hd c hb N I ?_);rw[Int.toNat_natCast,U,d,l];exact wpAny_mono (step (rawInt ((t.place[i]+1:Nat):Int)) ⟨_,rfl,V⟩ (t.place[i]+1) rfl _) (λ_ _ h=>let ⟨v,e,q⟩:=h;⟨v,e,wpAny_pure q⟩) λ_ _ h=>h
 |drawn hb hp I tp order M j =>
  obtain⟨rfl,X⟩:=B;obtain⟨z,L,W,u,G⟩:=id X;dsimp only;refine wpAny_bind (wpAny_seqItems L G ?_);obtain⟨g1,S⟩:=AM (es:=es) M;have K:(order.filterMap λi=>es[i]?)[i]?=some x:=by simpa using d
  rw[S i] at K;obtain⟨p,P,T⟩:=bind_eq_some_iff.mp K;have R:((order.map λ(i:Nat)=>Value.int i 0).toArray)[Int.toNat (i:Int)]?=some (.int p 0):=by rw[Int.toNat_natCast,getElem?_toArray,List.getElem?_map,P];rfl
  dsimp only;rw[R];dsimp only;refine wpAny_bind ?_;unfold setNextDrawn;refine wpAny_bind (wpAny_setState_of f hd c ?_);dsimp only;rw[Int.toNat_natCast,Int.toNat_natCast,if_neg (by simp),T];refine wpAny_pure ?_;refine wpAny_bind (wpAny_setField g m (by simp) (wpAny_pure ⟨_,rfl,wpAny_pure ?_⟩));exact J _ _ (q_ b) ⟨rfl,⟨z,((Heap.SameBut.update ..).2 tp j).trans L,W,u,G⟩⟩ (Heap.SameBut.update ..)
end
section
variable {prog:e8}{w:hL}{A:iv}{E:Lm}{s:bo}
variable {a it:bc}{o:Obj}{es:hO (Int×ax)}{ep:Nat}{t:A1}
theorem xt {α:Type}{Q : α->bo->Prop}(c:A.handled=a4)(h:∀ h' e,(∀ b o,#[19]=ag o->h'.get? b=ag o)->(∃ o,h'.get? e=ag o/\o.cls = .type "StopIteration")->E (.ref e) { s with heap:=h' }) :
  dr #[5] A (newExc (.type "StopIteration") [] >>= λe=>(raiseNew e:Sem α)) Q E s:=by
 refine av ?_;simp only[newExc,newTuple];refine av (ng ?_ (by size_fits));refine av (m:=Zn _ _) (ado (a:=Tu) (by first |rfl |(simp only[Zn];rfl)) ?_);refine ng ?_ (by size_fits);simp only[raiseNew];refine av (wpAny_handled ?_);rw[c];refine av (ay (wpAny_throw ?_));exact h _ _ (λb o e=>a9 _ (a9 _ e)) ⟨_,er _ rfl,rfl⟩
set_option maxHeartbeats 1000000 in
theorem next_end {out:Array (Int×Value)}{fp:List Addr}{F:Nat->Value->Heap->Prop}{first:Value}{Q:Option Value->Shared->Prop}(U:A.handled=none)(y:Way w a it es ep t out fp F)(MQ:a≠it)(l:s.heap.get? a=some o)(hd:o.data = .set es ep t)
  (m:t.fits es.size=true) (c:ME s.heap it a first es.size es.size ep) (n:F es.size first s.heap)
  (P:∀ h',(∀ b o,b≠it->s.heap.get? b=some o->h'.get? b=some o)->Q none { s with heap:=h' }):wpAny (model prog w) A (pyNext (.ref it)) Q E s:=by
 have z:out.size=es.size:=by have:=y.perm.length_eq;simpa using this
 obtain⟨oi,h,Y,j⟩:=id c;unfold pyNext;refine wpAny_bind (wpAny_attempt (wpAny_callSpecial?_slot (name:=Str.ofString "__next__") c.ty SF.slot_next (wpAny_call_entry SF.slot_next c.ty SF.P8 ?_ (SF.args_next _))));unfold Builtin.«set_iterator.__next__»;refine wpAny_bind (wpAny_pure ?_);refine wpAny_bind (wpAny_fieldsOf h j ?_);dsimp only;refine wpAny_bind (wpAny_setEntries_of l hd m ?_);rw[if_neg (by simp)]
 have fin:∀ (g:Shared) (p:Fin->Shared->Prop),(∀ b o,b≠it->s.heap.get? b=some o->g.heap.get? b=some o)->(∀ h',({ s with heap:=h' }:Shared)={ g with heap:=h' }) ->
   wpAny (model prog w) A.in1 (newExc (.type "StopIteration") [] >>= λe=>(raiseNew e:Sem Fin)) p
    (λe R=>wpAny (model prog w) A (do let b ← isInstance e (.type "StopIteration");if b=true then pure none else throw e) Q E R) g:=λg p D C=>by
  refine xt (by simp[U]) λh' e k u=>?_;obtain⟨K,L,G⟩:=u;refine wpAny_bind (wpAny_isInstance (T:="StopIteration") (b:=true) ⟨K,L,G⟩ isSubtype_stop ?_);rw[if_pos rfl];refine wpAny_pure ?_;rw[← C];exact P h' λb o d e=>k b o (D b o d e)
 have up:∀ (f:Array Value->Array Value) b o,b≠it->s.heap.get? b=some o->(s.heap.update it (Obj.mapFields f)).get? b=some o:=λf b o d e=>((Heap.SameBut.update ..).2 b d).trans e;cases y with
 |text hb =>
  obtain⟨k,rfl⟩:=n;dsimp only;refine wpAny_bind (iz l hd m hb ?_);simp only[Int.toNat_natCast];rw[Array.getElem?_eq_none (by omega)];refine wpAny_bind (wpAny_setField h j (by simp) ?_);exact fin _ _ (up _) λ_=>rfl
 |one hb v q hr =>
  have key:∃ k:Nat,first = .int k 0/\es[SetTable.below t.place k]?=none:=by obtain⟨k,rfl,e⟩:=n;exact⟨k,rfl,by rw[e];exact Array.getElem?_eq_none (le_refl _)⟩
  obtain⟨k,rfl,I⟩:=key;dsimp only;refine wpAny_bind (iU l hd m hb v q ?_);rw[Int.toNat_natCast,I];refine wpAny_bind (wpAny_setField h j (by simp) ?_);exact fin _ _ (up _) λ_=>rfl
 |drawn hb X q tp order r x =>
  obtain⟨rfl,M⟩:=n;obtain⟨O,V,Z,N,J⟩:=id M;dsimp only;refine wpAny_bind (wpAny_seqItems V J ?_);dsimp only;have B:((order.map λ(i:Nat)=>Value.int i 0).toArray)[Int.toNat (es.size:Int)]?=none:=by rw[Int.toNat_natCast,getElem?_toArray,List.getElem?_eq_none];rw[length_map,r.length_eq,length_range];exact le_refl _
  rw[B];dsimp only;refine wpAny_bind (wpAny_setField h j (by simp) ?_);have H:=q9 (f':=rawInt 0) c;obtain⟨o1,S,Wy,W⟩:=id H;refine wpAny_bind (wpAny_setField S W (by simp) ?_);exact fin _ _ (λb o d e=>((Heap.SameBut.update ..).2 b d).trans (up _ b o d e)) λ_=>rfl
theorem Dg:ad0 table "set_iterator.__iter__"=ag Builtin.«dict_keyiterator.__iter__»:=entryFor_alias (id':="dict_keyiterator.__iter__") (by kernel_rfl) rfl #[2] (by kernel_rfl)
theorem args_self (a:ax):argsOk "set_iterator.__iter__" ⟨[a],[]⟩:=by unfold argsOk;rw[signature?_of (id:="set_iterator.__iter__") (n:=['_','_','r','e','t','i','_','_']) (o:=['r','o','t','a','r','e','t','i','_','t','e','s']) (by kernel_rfl) SF.R1];kernel_rfl
theorem B0 {first:ax}{i n:Nat}{Q:Lm}(b:ME s.heap it a first i n ep)(h:Q (.ref it) s):dr #[5] A (acg (.ref it)) Q E s:=by refine wpAny_pyIter_slot b.ty SF.slot_self (mi SF.slot_self b.ty Dg ?_ (args_self _));show dr _ _ (ret (.ref it)) _ _ s;exact ay ⟨_,rfl,"set_iterator",_,b.ty,SF.slot_next.lookup,h⟩
theorem ME.keep {h h':ja}{first:ax}{i n:Nat}(x:ME h it a first i n ep)(e:∀ o,h.get? it=ag o->h'.get? it=ag o):ME h' it a first i n ep:=let ⟨o,b,r⟩:=x;⟨o,e o b,r⟩
theorem Way.fp {out:hO (Int×ax)}{fp:ak bc}{F:Nat->ax->ja->Prop}(y:Way w a it es ep t out fp F):it∈fp/\a∈fp/\∀ i f (h h':ja),(∀ b∈fp,b≠it->∀ o,h.get? b=ag o->h'.get? b=ag o)->F i f h->F i f h':=by
 cases y with
 |text=>exact⟨by simp,by simp,λ_ _ _ _ _ x=>x⟩
 |one=>exact⟨by simp,by simp,λ_ _ _ _ _ x=>x⟩
 |drawn _ _ _ tp order _ d=>exact⟨by simp,by simp,λ_ _ h h' k x=>⟨x.1,by obtain⟨o,c,r⟩:=x.2;exact⟨o,k tp #[3] d o c,r⟩⟩⟩
theorem Walks.set {out:hO (Int×ax)}{fp:ak bc}{F:Nat->ax->ja->Prop}(r:A.handled=a4)(y:Way w a it es ep t out fp F)(m:a≠it)(hex:o.ExactSet)(hd:o.data = .set es ep t)(p:t.fits es.size=a6) :
  Walks prog w A it fp [it] es.size (λi v=>(out[i]?).map (·.2)=ag v) (λi h=>h.get? a=ag o/\∃ first,ME h it a first i es.size ep/\F i first h) where
 sub:=λb hb=>by rw[gA.mp hb];exact y.fp.1
 frame:=λi h d st k=>⟨k a y.fp.2.1 o st.1,let ⟨f,c,j⟩:=st.2;⟨f,c.keep λo e=>k it y.fp.1 o e,y.fp.2.2 i f h d (λb hb _ o e=>k b hb o e) j⟩⟩
 item:=λi s Q E C st g=>by
  obtain⟨l,f,c,j⟩:=st;have x:out.size=es.size:=by have:=y.perm.length_eq;rw[4]
  have n:out[i]?=ag out[i]:=kb #[0];refine next_item y m l hd p c j n λB d u q sb=>?_;refine g _ d s.toks (by rw[n];rfl) ⟨(sb.2 a m).trans l,B,u,q⟩ λb o hb e=>(sb.2 b (λz=>hb (by simp[z]))).trans e
 done:=λs Q E st g=>by
  obtain⟨l,f,c,j⟩:=st;exact next_end r y m l hd p c j λd k=>g d s.toks λb o hb e=>k b o (λz=>hb (by simp[z])) e
 self:=λi s Q E st g=>let ⟨f,c,_⟩:=st.2;B0 c g
end
section
variable {prog:e8}{w:hL}{A:iv}{E:Lm}{s:bo}
set_option maxHeartbeats 1000000 in
theorem nR {x:Addr}{T:String}(Y:T="set"∨T="dict")(hT:s.TypeIs (.ref x) T){Q:List Value->Shared->Prop}(t:List Value->Prop)
  (T6:∀ (h0:Heap) (Q':Lm) (E':Lm),(∀ b o,s.heap.get? b=some o->h0.get? b=some o) ->
   (∀ (I:Addr) (fp i:List Addr) (n:Nat) (P:Nat->Value->Prop) (St:Nat->Shared->Prop) (g:Shared),WalksS prog w A.in1 I fp i (λa b=>b=a) n P St->St 0 g->n<=sizeLine->(∀ b∈fp,b=x∨h0.objs.size<=b)->(∀ b∈i,h0.objs.size<=b) ->
    (∀ b o,h0.get? b=some o->g.heap.get? b=some o)->g.gens=s.gens->g.os=s.os->(∀ d,ItemsOf P d n->t d.toList)->Q' (.ref I) g)->wpAny (model prog w) A.in1 (pyIter (.ref x)) Q' E' { s with heap:=h0 })
  (hQ:∀ s' d,t d->(∀ b o,s.heap.get? b=some o->s'.heap.get? b=some o)->s'.gens=s.gens->s'.os=s.os->Q d s'):wpAny (model prog w) A (collect (.ref x)) Q E s:=by
 obtain⟨S,O,V⟩:=id hT;have C:x<s.heap.objs.size:=Heap.lt_size O;unfold collect;refine wpAny_bind (wpAny_runValue (codeAny_builtin F.entry_proto_collect ?_));rw[Around.under_plainId F.plain_proto_collect _];show wpAny _ A.in1 (newList [] >>= λl=>again (.builtin "list.__iadd__" ⟨[l,.ref x],[]⟩)) _ _ s;refine wpAny_bind (wpAny_newObj_type ?_);refine wpAny_pure ⟨plainId_quiet F.plain_list_iadd _,codeAny_builtin F.entry_list_iadd ?_⟩;rw[Around.under_plainId F.plain_list_iadd _];have SD:(s.heap.push { cls:=.type "list",data:=.seq ([]:List Value).toArray }).get? s.heap.objs.size=some { cls:=.type "list",data:=.seq ([]:List Value).toArray }:=Heap.get?_push_size _ rfl;have Z:Shared.TypeIs { s with heap:=s.heap.push { cls:=.type "list",data:=.seq ([]:List Value).toArray } } (.ref x) T:=⟨S,Heap.get?_push_of_some _ O,V⟩;have n1:Builtin.List.listSameRef (.ref s.heap.objs.size) (.ref x)=false:=by simp[Builtin.List.listSameRef,ne_of_gt C]
 show wpAny _ A.in1 (Builtin.List.listExtendWith (.ref s.heap.objs.size) (.ref x) (.ref s.heap.objs.size)) _ _ _;unfold Builtin.List.listExtendWith;refine wpAny_bind (wpAny_typeOf Z ?_);have kp:∀ b o,s.heap.get? b=some o->(s.heap.push { cls:=.type "list",data:=.seq ([]:List Value).toArray }).get? b=some o:=λb o e=>Heap.get?_push_of_some _ e;have sz:(s.heap.push { cls:=.type "list",data:=.seq ([]:List Value).toArray }).objs.size=s.heap.objs.size+1:=Heap.size_push ..
 have main:∀ (I:Addr) (fp i:List Addr) (n:Nat) (P:Nat->Value->Prop) (St:Nat->Shared->Prop) (g:Shared),WalksS prog w A.in1 I fp i (λa b=>b=a) n P St->St 0 g->n<=sizeLine ->
   (∀ b∈fp,b=x∨(s.heap.push { cls:=.type "list",data:=.seq ([]:List Value).toArray }).objs.size<=b)->(∀ b∈i,(s.heap.push { cls:=.type "list",data:=.seq ([]:List Value).toArray }).objs.size<=b) ->
   (∀ b o,(s.heap.push { cls:=.type "list",data:=.seq ([]:List Value).toArray }).get? b=some o->g.heap.get? b=some o)->g.gens=s.gens->g.os=s.os->(∀ d,ItemsOf P d n->t d.toList) ->
   ∀ (R:Result->Shared->Prop),(∀ s' d c,t d.toList->(∀ b o,s.heap.get? b=some o->s'.heap.get? b=some o)->s'.gens=s.gens->s'.os=s.os->s'.heap.get? s.heap.objs.size=some { cls:=.type "list",dict:=none,data:=.seq d c,slots:=#[] }->R (.ok (.ret (.ref s.heap.objs.size))) s') ->
   wpAny (model prog w) A.in1 (rule "list.extend.makes-room" >>= λ_=>Builtin.List.listTouch (.ref s.heap.objs.size) >>= λ_=>again (.builtin "list.extend.loop" ⟨[.ref s.heap.objs.size,.ref I,.ref s.heap.objs.size],[]⟩))
    (λfin s'=>match fin with | .done f=>R (.ok f) s' | .again N=>N.quiet=true/\codeAny (model prog w) A N R s') (λe s'=>R (.error e) s') g:=by
  intro I fp i n P St g W st G M p j K o1 L R hR
  have Tp:s.heap.objs.size∉fp:=λu=>by
   rcases M _ u with e |e
   ·exact ne_of_gt C e
   rw[sz] at e;exact Nat.not_succ_le_self _ e
  refine wpAny_bind (wpAny_rule ?_);refine wpAny_bind ?_;have hS:g.heap.get? s.heap.objs.size=some { cls:=.type "list",data:=.seq ([]:List Value).toArray }:=j _ _ SD;show wpAny _ A.in1 (updateSeq s.heap.objs.size (·.push .none) >>= λ_=>updateSeq s.heap.objs.size (·.pop)) _ _ _;refine wpAny_bind (wpAny_updateSeq hS rfl ?_);have Vr:=Heap.get?_update_self (Obj.mapSeq (·.push Value.none)) hS rfl;refine wpAny_updateSeq (hz:=by seq_fits) Vr rfl ?_;have NN:=Heap.get?_update_self (Obj.mapSeq (·.pop)) Vr rfl
  have q:∀ b o,b≠s.heap.objs.size->g.heap.get? b=some o->((g.heap.update s.heap.objs.size (Obj.mapSeq (·.push Value.none))).update s.heap.objs.size (Obj.mapSeq (·.pop))).get? b=some o:=
   λb o hb e=>(Heap.get?_update_other _ _ (Ne.symm hb)).trans ((Heap.get?_update_other _ _ (Ne.symm hb)).trans e)
  refine wpAny_pure ⟨plainId_quiet F.plain_extend_loop _,codeAny_extend_loopS W G _ Tp _ n 0 _ _ _ rfl (zero_le _) (W.frame 0 g _ g.toks st (le_refl _) λb hb o e=>q b o (λh=>Tp (h▸hb)) e) NN (ItemsOf.nil P) λs' WD N u PN YZ=>?_⟩;refine hR s' WD N (L WD YZ) (λb o e=>?_) (u.gens.trans K) (u.os.trans o1) PN;have hb:b<s.heap.objs.size:=Heap.lt_size e;refine u.heap b o (λz=>?_) (q b o (ne_of_lt hb) (j b o (kp b o e)));rcases mem_cons.mp z with z |z
  ·exact ne_of_lt hb z
  have:=p b z;rw[sz] at this;exact Nat.not_succ_le_self _ (Nat.le_trans this (Nat.le_of_lt hb))
 have last:∀ (s':Shared) (d:Array Value) (c:Nat),t d.toList->(∀ b o,s.heap.get? b=some o->s'.heap.get? b=some o)->s'.gens=s.gens->s'.os=s.os->s'.heap.get? s.heap.objs.size=some { cls:=.type "list",dict:=none,data:=.seq d c,slots:=#[] } ->
   wpAny (model prog w) A (load s.heap.objs.size >>= λo=>match o.data with | .seq D _=>pure D.toList |_=>unsupported "internal:collect") Q E s':=λs' d c H J y B m=>wpAny_bind (wpAny_load m (wpAny_pure (hQ s' d.toList H J y B)))
 rcases Y with rfl |rfl
 ·rw[if_neg (by rw[n1];decide)];refine wpAny_bind (T6 _ _ _ kp λI fp i n P St g W st G M p j K o1 L=>?_);have k:g.TypeIs (.ref x) "set":=⟨S,j _ _ (kp _ _ O),V⟩;refine wpAny_bind (wpAny_holding ?_);unfold Builtin.List.listLengthHint;refine wpAny_bind (wpAny_specialOf k F.slot_set_len.lookup ?_)
  (generalize WE:("set.__len__":String)=id0;wp_delta;rw[show splitId id0=some ("set","__len__") from by subst WE;decide];subst WE)
  refine wpAny_bind (wpAny_isInstance (b:=true) k (by rw[isSubtype_type];kernel_rfl) ?_);refine wpAny_bind (wpAny_typeOf k ?_);refine wpAny_pure ?_;dsimp only;split
  ·refine main I fp i n P St g W st G M p j K o1 L (λr s'=>match r with
    | .ok (.ret v)=>wpAny (model prog w) A (match v with
     | .ref a=>do
      let o ← load a
      match o.data with
       | .seq D _=>pure D.toList
       |_=>unsupported "internal:collect"
     |_=>unsupported "internal:collect") Q E s'
    | .ok _=>False
    | .error e=>E e s') ?_
   exact λU d c H J y B m=>last U d c H J y B m
  rename_i X;exact absurd (by decide) X
 rw[if_neg (by rw[n1];decide)];refine wpAny_bind (T6 _ _ _ kp λI fp i n P St g W st G M p j K o1 L=>?_);have k:g.TypeIs (.ref x) "dict":=⟨S,j _ _ (kp _ _ O),V⟩;refine wpAny_bind (wpAny_holding ?_);unfold Builtin.List.listLengthHint;refine wpAny_bind (wpAny_specialOf k F.slot_dict_len.lookup ?_)
 (generalize WE:("dict.__len__":String)=id0;wp_delta;rw[show splitId id0=some ("dict","__len__") from by subst WE;decide];subst WE)
 refine wpAny_bind (wpAny_isInstance (b:=true) k (by rw[isSubtype_type];kernel_rfl) ?_);refine wpAny_bind (wpAny_typeOf k ?_);refine wpAny_pure ?_;dsimp only;split
 ·refine main I fp i n P St g W st G M p j K o1 L (λr s'=>match r with
   | .ok (.ret v)=>wpAny (model prog w) A (match v with
    | .ref a=>do
     let o ← load a
     match o.data with
      | .seq D _=>pure D.toList
      |_=>unsupported "internal:collect"
    |_=>unsupported "internal:collect") Q E s'
   | .ok _=>False
   | .error e=>E e s') ?_
  exact λU d c H J y B m=>last U d c H J y B m
 rename_i X;exact absurd (by decide) X
end
end L2
namespace L2
open PySem PySem.Spec PyProof.Rows PySem.W
noncomputable def oY (d:D)(S:Lq):a5 D:=match d with
 | .tup a=>(iB a).map .lst
 | .lst a=>(iB a).map .lst
 | .loc l=>match S[l]? with
  |ag (.dict kvs)=>(iB (kvs.map (·.1))).map .lst
  |_=>a4
 |_=>a4
noncomputable def z6 (f:Lk D):Lk D:=λb S=>ai (f b S) λd a=>aL (oY d a) a
noncomputable def wv (k:D->eM)(g:D->D->a5 D)(fe b:Lk D):Lk D:=λa S=>ai (fe a S) λx d=>if k x=a6 then ai (b a d) λy c=>aL (g x y) c else a4
section
variable {X:Cx}{W:WT}
variable {e:gy}{fe:Lk D}{gs:Lk (ak D)}{pos Q8 p p2:Ud}{x y:el}
theorem vD {k:D->eM}{g:D->D->a5 D}{n:Lk D}{T:Uk}{r:V->ak V->Hp->VK->Prop}{l:St}{H:Hp}{Q:VK}(p:∀ J i d v,k d=a6->At X.K i J d v->V8 X.K T v i)
  (hr:∀ (v a:V) (f:Hp) (Q:VK),V_ X.K g v a f Q->r v [a] f Q) (h:tE X W (wv k g fe n) l H Q):tBM X.K T r (tE X W fe) (FG (tE X W n) uP) l H Q:=
 (tG.LC h).mono λv i o=>by
  obtain⟨d,b⟩:=o
  by_cases j:k d=a6
  ·simp only[j,mz] at b;refine⟨?_,(tG.LC b).mono λa f ⟨s,q⟩=>hr v a f Q (tG.op2 q)⟩;obtain⟨J,_,_,_,_,_,m,_,_⟩:=b;exact p J i d v j m.LA.1
  obtain⟨J,u,S,r,t,c,m,e,z⟩:=b;simp only[j,gh,la] at e;cases e
theorem Inv.moved {a:Ln}{c:St}{H:Hp}{s s':bo}(I:Inv X a c H s)(k:∀ b o,#[19]=ag o->s'.heap.get? b=ag o)(g:s'.gens=s.gens)(o:s'.os=s.os):Inv X a c H s':=by obtain⟨d,g',d',t',e⟩:=s';cases g;cases o;exact I.call (d':=d') (t':=t') (g':=s.gens) (ch:=[]) (Un.kept k) (I.LW.kept k) I.bare λb z=>ib z #[3]
theorem D2 {K:Ll}{H:Hp}{J:ak bc}{ss:ak el}{vs:ak V}(m:Ly K H J (ss.map .str) vs):vs=ss.map V.str/\∀ x∈ss,Te x:=by
 induction ss generalizing vs with
 |nil=>exact⟨Ly.Lz.mp m,λx hx=>by cases hx⟩
 |cons a l f =>
  obtain⟨v,r,rfl,m1,m2⟩:=Ly.Lv.mp m;obtain⟨b,e⟩:=At.LK.mp m1;obtain⟨d,c⟩:=f m2;subst b d;refine⟨rfl,λx hx=>?_⟩;rcases fx.mp hx with rfl |hx
  ·exact e
  exact c x hx
theorem mL {α c:Type}{R : α->c->Prop}:∀ {l:ak α}{m:ak c},l.length=m.length->(∀ (i:Nat) a b,l[i]?=ag a->m[i]?=ag b->R a b)->lC R l m
 |[],[],_,_ => .nil
 |a::l,b::m,h,k => .cons (k 0 a b rfl rfl) (mL (by simpa using h) λi x y d e=>k (i+1) x y (by simpa using d) (by simpa using e))
 |[],_::_,h,_=>by simp at h
 |_::_,[],h,_=>by simp at h
theorem pB {α e:Type}{R : α->e->Prop}{l:ak α}{m:ak e}(r:lC R l m):∀ (i:Nat) a b,l[i]?=ag a->m[i]?=ag b->R a b:=by
 induction r with
 |nil=>intro i a b h;simp at h
 |cons f t g =>
  intro i a b c d;cases i with
  |zero=>simp at c d;subst c d;exact f
  |succ i=>exact g i a b (by simpa using c) (by simpa using d)
theorem zx {P:e8}{w:hL}{k:Key}{u:ax}(h:(bG P w).is k u=a6):RelV (kV k) u:=by
 rcases bB h with ⟨i,t,rfl,e⟩ |⟨x,t,rfl,e⟩
 ·exact⟨t,e⟩
 exact⟨t,e⟩
theorem v7 (hc:X.calm=a6):iM X (.builtin "sorted") (λxs H Q => ∃ (p:bc) (j:ak (Key×V)) (J:ak bc) (ds out:ak D),xs=[.ref p]/\H p=ag (.dK j)/\(∀ a∈J,H a≠a4)/\Ly X.K H J ds (j.map λq=>kV q.1)/\iB ds=ag out/\∀ H' v,LH H H'->At X.K H' J (.lst out) v->Q v H'):=by
 intro G s σ H xs C Q I r h;obtain⟨p,j,J,ds,out,rfl,Y,M,m,e,q⟩:=h;obtain⟨u,rfl,ru⟩:=vals1 r;cases ru;obtain⟨R,Z,l,F,hd⟩:=I.LW p _ Y;obtain⟨ep,U⟩:=hd.dictAt;have d:l.length=j.length:=(KV.length F).symm;refine mG M e q λQ' E hQ=>?_;have P:X.A.in1.handled=a4:=I.ok.hd hc;refine nR (.inr rfl) hd.typeIs (λC=>Vals (j.map λq=>kV q.1) C) (λf Q2 E2 k0 S=>?_) λL c n k g os=>?_
 ·have y:f.DictAt (bG X.prog X.w) p l ep:=U.keep k0;refine wpAny_pyIter_dict (s:={ s with heap:=f }) Z y ?_;have W:p<f.objs.size:=y.lt_size
  refine S f.objs.size [f.objs.size,p] [f.objs.size] l.length _ _ _ ((Walks.dictKeys (A:=X.A.in1.in1) P f.objs.size p (m3 W) l ep).toS) ⟨⟨_,er _ rfl,rfl,rfl⟩,y.push _⟩ (by rw[d];exact R)
   (λb hb=>by
    rcases fx.mp hb with z |hb
    ·rw[z];exact .inr (e9 _)
    exact .inl (gA.mp hb))
   (λb hb=>by rw[gA.mp hb];exact e9 _) (λb o e=>a9 _ e) rfl rfl λc ha=>?_
  obtain⟨a1,a2⟩:=ha;refine mL (by have t:c.toList.length=c.size:=gz;rw[dv,t,a1,d]) λi v u n B=>?_;rw[kc] at B;obtain⟨k,x,t,O⟩:=a2 i u B;rw[dk] at n;obtain⟨q,T,N⟩:=d7.mp n;have e5:=(pB F i q (k,x) T t).1;rw[← N,e5];exact zx O
 exact hQ c _ L ds (I.moved k g os) n (.refl _) m
theorem Eb (y:x="sorted")(hc:X.calm=a6)(n:X.mg x=a4)(ha:SE X W e fe)(w:Gl X x:=by rfl)(g:ek [e] X.env=(a8,qa e X.env)::ek [] X.env:=by rfl)(s:(rb pos (ek [] X.env)).any (·.1)=a8:=by rfl) :
  SE X W (.Call (.Name x p) [e] [] pos) (z6 fe):=by
 subst y
 refine SE.either (g1:=bx BS (af fe aB)) (g2:=λi S=>ai (fe i S) λd j=>aL (match d with | .loc l=>(match j[l]? with |ag (.dict b)=>(iB (b.map (·.1))).map .lst |_=>a4) |_=>a4) j)
  (bE Fp n gW (ae ha aj g) w #[2] #[2] g s) ?_ λi S=>?_
 ·refine PE.imp (i_ (v7 hc) w n gW (di ha MD g) #[2] #[2] g s) λL H Q h=>?_;refine(tG.LC h).mono λv O ⟨d,I⟩=>?_;obtain⟨J,i,S,r,M,c,m,eq,z⟩:=I;obtain⟨m,_⟩:=m.LA;show uP _ _ _;cases d with
  |loc l =>
   obtain⟨a,rfl,A⟩:=At.LI.mp m;cases hS:S[l]? with
   |none=>simp[hS] at eq
   |some C =>
    cases C with
    |lst N=>simp[hS] at eq
    |exc c=>simp[hS] at eq
    |LL _=>simp[hS] at eq
    |ins _ _=>simp[hS] at eq
    |tab _ _=>simp[hS] at eq
    |UH _ _ _ _=>simp[hS] at eq
    |dict b =>
     simp only[hS] at eq;cases hq:iB (b.map (·.1)) with
     |none=>simp[hq] at eq
     |some out =>
      simp only[hq,UI,bF,LB] at eq;cases eq;obtain⟨K,u,G⟩:=c.L0.at_ l a _ A hS;refine⟨a,K,J,b.map (·.1),out,rfl,u,c.L0.all,?_,hq,λE v k B=>z J E v (Ex.same k) (c.L0.same k) B⟩;clear hq hS z u
      induction G with
      |nil=>exact .nil
      |cons f t F=>exact .cons f.1.2 F
  |_=>simp at eq
 unfold z6 bx af aB;cases q:fe i S with
 |none=>exact #[9]
 |some o =>
  obtain⟨D,j⟩:=o;cases D with
  |error c=>exact #[9]
  |ok d=>cases d<;>first |exact #[9] |exact .inr rfl
end
mutual
inductive Lit:gy->D->Prop
 |int {i:Int}{j p}:Lit (.Constant (.int i) j p) (.int i)
 |bl {b:eM}{j p}:Lit (.Constant (.bool b) j p) (.bl b)
 |LR {j p}:Lit (.Constant .none j p) .LR
 |str {x:el}{j p} (hx:Te x):Lit (.Constant (.str x) j p) (.str x)
 |neg {i:Int}{j p q}:Lit (.UnaryOp .USub (.Constant (.int i) j p) q) (.int (-i))
 |tup {es:ak gy}{ds:ak D}{k p} (h:Q9 es ds) (n:ds.length<=1000):Lit (.Tuple es k p) (.tup ds)
 |lst {es:ak gy}{ds:ak D}{p} (h:Q9 es ds) (n:ds.length<=1000):Lit (.List es p) (.lst ds)
inductive Q9:ak gy->ak D->Prop
 |nil:Q9 [] []
 |cons {e:gy}{d:D}{es:ak gy}{ds:ak D}(h:Lit e d) (r:Q9 es ds):Q9 (e::es) (d::ds)
end
section
variable {X:Cx}{W:WT}
theorem SE.eq {e:gy}{g g':Lk D}(h:SE X W e g)(q:g=g'):SE X W e g':=q▸h
theorem SA.eq {e:ak gy}{g g':Lk (ak D)}(h:SA X W e g)(q:g=g'):SA X W e g':=q▸h
theorem BQ {e:gy}{d:D}(h:Lit e d)(es:ak gy):ek (e::es) X.env=(a8,qa e X.env)::ek es X.env:=by cases h<;>rfl
mutual
theorem kr:∀ {e:gy}{d:D},Lit e d->SE X W e (aG d)
 |_,_,.int=>ar
 |_,_,.bl=>rf
 |_,_,.LR=>i0
 |_,_,.str a=>ko a
 |_,_,.neg=>SE.eq (yP sT ar) rfl
 |_,_,.tup (ds:=ds) h n=>SE.eq (dg (xp h)) (by
   funext ρ S;show aL (NV ds (.tup ds)) S=LB (.tup ds) S;unfold NV
   rw[cc (fg n (by decide))];rfl)
 |_,_,.lst (ds:=ds) h n=>SE.eq (mI (xp h)) (by
   funext ρ S;show aL (NV ds (.lst ds)) S=LB (.lst ds) S;unfold NV
   rw[cc (fg n (by decide))];rfl)
theorem xp:∀ {es:ak gy}{ds:ak D},Q9 es ds->SA X W es (λ_ S=>LB ds S)
 |_,_,.nil=>aj
 |_,_,.cons h r=>SA.eq (ae (kr h) (xp r) (BQ h _)) rfl
end
end
noncomputable def Jl (F:Lp)(t:Lk (ak D)):Lk D:=λa S=>ai (t a S) λb c=>F b c
noncomputable def Hx (c:el)(t:Lk (ak D)):Lk Fl:=λa S=>ai (t a S) λb e=>ai (aL (NV b .LR) e) λ_ d=>ag (.error c,d)
end L2
namespace L2
open PySem PySem.Spec PySem.Calls PyProof.Rows PySem.W
structure ExcIn (K:Frag) (C:bc):Prop where
 cls:pz K (.ref C) "__class__"=ag (ag (.builtin "object.__class__"))
 ga:pz K (.ref C) "__getattribute__"=ag (ag (.builtin "BaseException.__getattribute__"))
 gn:pz K (.ref C) "__getattr__"=ag a4
 so:subIn K (.ref C) (.type "object")=ag a6
 sb:subIn K (.ref C) (.type "BaseException")=ag a6
 is:(clsIn K C).isSome=a6
end L2
namespace L2
open PySem PySem.Spec PyProof.Rows PySem.W
section
variable {X:Cx}{W:WT}{e:gy}{fe fa:Lk D}{pos p p2:Ud}
noncomputable def IW (a:el->a5 eM)(d:D)(S:Lq):a5 D:=match d with
 | .loc l=>(match S[l]? with
  |ag (.exc c)=>(a c).map .bl
  |_=>a4)
 |_=>a4
noncomputable def Ky (a:el->a5 eM)(fe:Lk D):Lk D:=λc S=>ai (fe c S) λd b=>aL (IW a d b) b
end
section
variable {X:Cx}{W:WT}{fe fa:Lk D}
theorem eX:∀ {us:ak ax}{ns:ak Int},Vals (ns.map V.int) us->Vt us ns
 |_,[],r=>by cases r;exact .nil
 |_,n::ns,r=>by
  cases r with
  |cons a b =>
   obtain⟨t,rfl⟩:=a;exact .cons n t (eX b)
noncomputable def tZ:D->eM
 | .lst _=>a6
 |_=>a8
theorem G4 {J:ak bc}{b:Hp}{d:D}{v:V}(e:tZ d=a6)(m:At X.K b J d v):V8 X.K "list" v b:=by
 cases d<;>first |(cases e;done) |skip
 rename_i f;obtain⟨a,c,rfl,lq,_⟩:=At.LG.mp m;exact .inl ⟨rfl,c,lq.sq⟩
end
section
variable {X:Cx}{W:WT}{e:gy}{fe:Lk D}{pos p:Ud}{x:el}
noncomputable def IS (d:D)(S:Lq):a5 D:=match d with
 | .loc l=>(match S[l]? with
  |ag (.dict kvs)=>ag (.int kvs.length)
  |_=>a4)
 |_=>a4
theorem v8 (hc:X.calm=a6):iM X (#[14]) (λxs H Q => ∃ (p:bc) (d:ak (Key×V)),xs=[.ref p]/\H p=ag (.dK d)/\∀ l,H l=a4->Q (.ref l) (upd H l (.lst (d.map λq=>kV q.1)))):=by
 intro t s M H xs N Q I r h;obtain⟨p,d,rfl,E,q⟩:=h;obtain⟨u,rfl,G⟩:=vals1 r;cases G;obtain⟨g,F,j,n,hd⟩:=I.LW p _ E;obtain⟨ep,C⟩:=hd.dictAt;have b:j.length=d.length:=(KV.length n).symm;refine kdl_call (kdl_dict (kvs:=j) (ep:=ep) (knd:=bG X.prog X.w) F) (I.ok.hd hc) C (by rw[b];exact g) λL tk a c k D K=>?_;obtain⟨a1,a2⟩:=K;have A:Vals (d.map λq=>kV q.1) a.toList:=by refine mL (by have e:a.toList.length=a.size:=gz;rw[dv,e,a1,b]) λi v u m f=>?_;rw[kc] at f;obtain⟨k,x,e,z⟩:=a2 i u f;rw[dk] at m;obtain⟨q,B,y⟩:=d7.mp m;have J:=(pB n i q (k,x) B e).1;rw[← y,J];exact zx z
 exact⟨#[16],_,I.laid (t':=tk) (o:=.lst (d.map λq=>kV q.1)) k (e9 _) ⟨by rw[dv];exact g,a.toList,c,A,by simpa using D⟩,rfl,q _ I.fresh⟩
noncomputable def gQ (d:D)(S:Lq):a5 D:=match d with
 | .loc l=>(match S[l]? with
  |ag (.dict kvs)=>if kvs.length<=da then ag (.lst (kvs.map (·.1))) else a4
  |_=>a4)
 |_=>a4
noncomputable def mX (fe:Lk D):Lk D:=λb S=>ai (fe b S) λd a=>aL (gQ d a) a
theorem u4 (I:X.A.units+1<nq)(y:X.mg x=a4)(ha:SE X W e fe)(hc:X.calm=a6:=by rfl)(s:x="list":=by rfl)(F:Gl X x:=by rfl)(i:ek [e] X.env=(a8,qa e X.env)::ek [] X.env:=by rfl)(B:(rb pos (ek [] X.env)).any (·.1)=a8:=by rfl) :
  SE X W (.Call (.Name x p) [e] [] pos) (mX fe):=by
 subst s;refine PE.imp (mK (v8 hc) F y Fw (di ha MD i) #[2] #[2] i B) λM H Q h=>?_;refine(tG.LC h).mono λv G ⟨d,E⟩=>?_;obtain⟨J,O,S,r,N,c,m,eq,z⟩:=E;obtain⟨m,_⟩:=m.LA;show uP _ _ _;unfold gQ at eq;cases d with
 |loc l =>
  obtain⟨a,rfl,u⟩:=At.LI.mp m;cases hS:S[l]? with
  |none=>simp[hS] at eq
  |some w =>
   cases w with
   |dict b =>
    simp only[hS] at eq;split at eq
    ·rename_i j;cases eq;obtain⟨o,k,n⟩:=c.L0.at_ l a _ u hS;refine⟨a,o,rfl,k,λL g=>?_⟩
     have C:Ly X.K G J (b.map (·.1)) (o.map λq=>kV q.1):=by
      clear hS z k j
      induction n with
      |nil=>exact .nil
      |cons f t D=>exact .cons f.1.2 D
     refine z J _ _ (Ex.same (aO g _)) (c.L0.same (aO g _)) (At.M0 C g (λa ha=>c.L0.tracked ha) ?_);rw[dv,← n.length];exact j
    cases eq
   |_=>simp[hS] at eq
 |_=>simp at eq
end
noncomputable def fq (a b:D):eM:=match fM a,fM b with
 |ag p,ag q=>hH p q
 |_,_=>a8
noncomputable def putN (kvs:ak (D×D))(k v:D):ak (D×D):=if (kvs.any λp=>fq p.1 k)=a6 then kvs.map (λp=>if fq p.1 k=a6 then (p.1,v) else p) else kvs++[(k,v)]
noncomputable def lM (kvs:ak (D×D))(k:D):a5 D:=(kvs.find? λp=>fq p.1 k).map (·.2)
noncomputable def lB (b:ak (hA×bc×V)) (k:hA) (a:bc) (v:V):ak (hA×bc×V):=if (b.any λp=>ei (p.1=k))=a6 then b.map (λp=>if p.1=k then (p.1,p.2.1,v) else p) else b++[(k,a,v)]
noncomputable def qR (a:ak (hA×bc×V)) (k:hA):a5 V:=(a.find? λp=>ei (p.1=k)).map (·.2.2)
abbrev RQ:(hA×bc×V)->(hA×bc×ax)->Prop:=λp q=>p.1=q.1/\p.2.1=q.2.1/\RelV p.2.2 q.2.2
theorem tX {d:D}{p:hA}(h:fM d=ag p):toPy d=ag p/\keyOk 8 p=a6:=by
 unfold fM at h;obtain⟨q,b,a⟩:=hD.mp h;split at a
 ·rename_i c;cases a;exact⟨b,c⟩
 cases a
section
variable {K:Ll}{H H':Hp}{J J':ak bc}
theorem o8 {a k:D}{x y:hA}(h:fM a=ag x)(g:fM k=ag y):fq a k=ei (x=y):=by unfold fq;rw[h,g];exact mQ (tX h).2 (tX g).2
theorem HM {kvs:ak (D×D)}{a:ak (hA×bc×V)}{k:D}{y:hA}(g:fM k=ag y)(r:lC (QZ K H J) kvs a):(kvs.any λp=>fq p.1 k)=a.any λq=>ei (q.1=y):=by
 induction r with
 |nil=>rfl
 |cons h t b=>rw[R_,R_,b,o8 h.1.1 g]
theorem AE {kvs:ak (D×D)}{a:ak (hA×bc×V)}{k v:D}{y:hA}{w:V}(g:fM k=ag y)(c:At K H J v w)(r:lC (QZ K H J) kvs a) :
  lC (QZ K H J) (kvs.map λp=>if fq p.1 k=a6 then (p.1,v) else p) (a.map λq=>if q.1=y then (q.1,q.2.1,w) else q):=by
 induction r with
 |nil=>exact .nil
 | @cons p q f d h t b =>
  refine .cons ?_ b;show QZ K H J (if fq p.1 k=a6 then (p.1,v) else p) (if q.1=y then (q.1,q.2.1,w) else q);rw[o8 h.1.1 g];by_cases e:q.1=y
  ·rw[cc (gx e),cc e];exact⟨h.1,c⟩
  rw[cn (by rw[dV e];decide),cn e];exact h
theorem AG {k v:D}{y:hA}{b:bc}{w:V}(g:fM k=ag y)(d:At K H J k (.ref b))(f:At K H J v w){a:ak (D×D)}{c:ak (hA×bc×V)}(h:lC (QZ K H J) a c):lC (QZ K H J) (a++[(k,v)]) (c++[(y,b,w)]):=by
 induction h with
 |nil=>exact .cons ⟨⟨g,d⟩,f⟩ .nil
 |cons h t e=>exact .cons h e
theorem GD {kvs:ak (D×D)}{a:ak (hA×bc×V)}{k v:D}{y:hA}{b:bc}{w:V}(g:fM k=ag y)(d:At K H J k (.ref b))(c:At K H J v w)(r:lC (QZ K H J) kvs a):lC (QZ K H J) (putN kvs k v) (lB a y b w):=by
 unfold putN lB;rw[HM g r];split
 ·exact AE g c r
 exact AG g d c r
theorem C8 {kvs:ak (D×D)}{a:ak (hA×bc×V)}{k:D}{y:hA}(g:fM k=ag y)(r:lC (QZ K H J) kvs a) :
  (lM kvs k=a4/\qR a y=a4)∨∃ d v,lM kvs k=ag d/\qR a y=ag v/\At K H J d v:=by
 unfold lM qR
 induction r with
 |nil=>exact .inl ⟨rfl,rfl⟩
 | @cons p q f c h t b =>
  rw[rp,rp,o8 h.1.1 g];by_cases e:q.1=y
  ·rw[gx e];exact .inr ⟨p.2,q.2.2,rfl,rfl,h.2⟩
  rw[dV e];exact b
end
theorem Gz {a:ak (hA×bc×V)}{xs:ak (hA×bc×ax)}(r:lC RQ a xs)(k:hA):(a.any λp=>ei (p.1=k))=(aau xs k).isSome:=by
 unfold aau;rw[Sa]
 induction r with
 |nil=>rfl
 | @cons p q c d h t b =>
  rw[R_,rp,b,h.1];by_cases e:q.1=k
  ·rw[gx e];rfl
  rw[dV e];rfl
theorem B7 {a:ak (hA×bc×V)}{xs:ak (hA×bc×ax)}(r:lC RQ a xs)(k:hA):Na (qR a k) ((aau xs k).map (·.2)):=by
 unfold qR aau
 induction r with
 |nil=>exact R9
 | @cons p q c d h t b =>
  rw[rp,rp,h.1];by_cases e:q.1=k
  ·rw[gx e];exact h.2.2
  rw[dV e];exact b
theorem Gx {a:ak (hA×bc×V)}{xs:ak (hA×bc×ax)}(r:lC RQ a xs)(k:hA){v:V}{u:ax}(b:RelV v u):lC RQ (a.map λp=>if p.1=k then (p.1,p.2.1,v) else p) (xs.map (putAt k u)):=by
 induction r with
 |nil=>exact .nil
 | @cons p q d f h t c =>
  refine .cons ?_ c;show RQ (if p.1=k then (p.1,p.2.1,v) else p) (putAt k u q);unfold putAt;by_cases e:p.1=k
  ·rw[cc e,cc (h.1.symm.trans e)];exact⟨h.1,h.2.1,b⟩
  rw[cn e,cn (λz=>e (h.1.trans z))];exact h
theorem Gy {a:ak (hA×bc×V)}{xs:ak (hA×bc×ax)}(r:lC RQ a xs)(k:hA)(b:bc){v:V}{u:ax}(c:RelV v u):lC RQ (a++[(k,b,v)]) (xs++[(k,b,u)]):=by
 induction r with
 |nil=>exact .cons ⟨rfl,rfl,c⟩ .nil
 |cons h t d=>exact .cons h d
theorem Gw {c:ak (hA×bc×V)}{xs:ak (hA×bc×ax)}(r:lC RQ c xs)(k:hA)(b:bc){v:V}{u:ax}(a:RelV v u):lC RQ (lB c k b v) (storedH xs k b u):=by
 unfold lB storedH;rw[Gz r k];split
 ·exact Gx r k a
 exact Gy r k b a
theorem AC (a:ak (hA×bc×V))(k:hA)(b:bc)(v:V):(lB a k b v).length<=a.length+1:=by
 unfold lB;split
 ·rw[dv];omega
 rw[cv];simp
section
variable {X:Cx}{pins:Ln}{σ:St}{H:Hp}{s:bo}{J:ak bc}{a:bc}
theorem lK (I:#[10]){d:D}{y:hA}{b:bc}(g:fM d=ag y)(m:At X.K H J d (.ref b)):(aR X.prog X.w).is s.heap y b:=by obtain⟨a,c⟩:=tX g;exact⟨c,(At.reads I m (show RelV (.ref b) (.ref b) from rfl) a).2⟩
theorem zW {kvs:ak (D×D)}{b:ak (hA×bc×V)}(I:#[10])(e:H a=ag (.dN b))(r:lC (QZ X.K H J) kvs b) :
  b.length<=da/\(a==RV)=a8/\∃ xs,lC RQ b xs/\s.heap.DictOfH (aR X.prog X.w) a xs:=by
 obtain⟨z,y,xs,q,o,es,ep,g,i,c,f,d⟩:=I.LW a _ e;refine⟨z,y,xs,q,o,es,ep,g,i,c,f,?_,d⟩;clear g i c f d z e
 induction r generalizing xs with
 |nil=>cases q;intro x hx;exact nomatch hx
 | @cons p m u n h t l =>
  cases q with
  |cons j k =>
   intro x hx;rcases fx.mp hx with e |hx
   ·subst e;rw[← j.1,← j.2.1];exact lK I h.1.1 h.1.2
   exact l _ k x hx
end
def yw (K:Ll)(H:Hp)(a:bc)(y:V)(r:a5 V):Prop:=∃ J c d f e b,H a=ag (.dN d)/\lC (QZ K H J) c d/\fM f=ag e/\At K H J f (.ref b)/\y = .ref b/\r=qR d e
def Jw (K:Ll)(H:Hp)(a:bc)(y v:V)(H':Hp):Prop:=∃ J d c f e b,H a=ag (.dN c)/\lC (QZ K H J) d c/\fM f=ag e/\At K H J f (.ref b)/\y = .ref b/\c.length<da/\H'=upd H a (.dN (lB c e b v))
section
variable {X:Cx}{pins:Ln}{σ:St}{H:Hp}{s:bo}{a:bc}{y v:V}{u r:ax}{o:a5 V}{A:iv}{E:Lm}
theorem xG (a:A.units+150<nq):(aR X.prog X.w).room A.in1:=by show A.units+1+8<nq;omega
theorem AU {Q:Lm}(k:A.units+150<nq)(I:#[10])(g:yw X.K H a y (ag v))(r:RelV y u)(h:∀ c s',Inv X pins σ H s'->RelV v c->Q c s') :
  dr #[8] A (WO (.ref a) u) Q E s:=by
 obtain⟨J,f,D,F,d,b,e,C,m,mk,x,l⟩:=g;subst x;cases (show u=jl b from r);obtain⟨z,hd,B,rel,n⟩:=zW I e C;obtain⟨c,j,q⟩:=Na.some_of (v:=v) (o:=(aau B d).map (·.2)) (by rw[l];exact B7 rel d);obtain⟨p,t,i⟩:=d7.mp j;refine ack (xG k) (lK I m mk) n t ?_;rw[i];exact h c _ (I.tok _) q
theorem EN {Q:Lm}(f:A.units+150<nq)(I:#[10])(g:yw X.K H a y o)(k:RelV y u)(h:∀ s',Inv X pins σ H s'->Q (.bool (!o.isSome)) s') :
  dr #[8] A (oa .NotIn u (.ref a)) Q E s:=by
 obtain⟨J,c,r,t,d,b,e,n,i,mk,m,l⟩:=g;subst m;cases (show u=jl b from k);obtain⟨z,hd,p,rel,j⟩:=zW I e n;refine wpAny_notIn_heap (xG f) (lK I i mk) hd j ?_;have q:=(B7 rel d).MB;rw[Sa] at q;rw[← q,← l];exact h _ (I.tok _)
theorem AT {H':Hp}{Q:acf->bo->Prop}(m:A.units+150<nq)(I:#[10])(g:Jw X.K H a y v H')(F:RelV y u)(o:RelV v r)(h:∀ s',Inv X pins σ H' s'->Q () s') :
  dr #[8] A (abT (.ref a) u r) Q E s:=by
 obtain⟨J,i,f,R,c,b,e,O,p,mk,L,l,x⟩:=g;subst L x;cases (show u=jl b from F);obtain⟨z,hd,M,rel,B⟩:=zW I e O;have t:M.length<=da:=by rw[← V0 rel];exact z
 have n:(lB f c b v).length<=da:=by have:=AC f c b v;omega
 refine acm (hsz:=t) (xG m) (lK I p mk) B λP C j=>h _ ?_;obtain⟨q,es,ep,d,N,k,G,_,D⟩:=C;exact uh I (by rw[e];exact R9) j ⟨q,d⟩ ⟨n,hd,_,Gw rel c b o,q,es,ep,d,N,k,G,D⟩
theorem CF (I:#[10])(g:yw X.K H a y o):s.TypeIs (.ref a) "dict":=by obtain⟨J,c,i,n,j,b,e,f,h,mk,k,l⟩:=g;obtain⟨_,_,m,_,d⟩:=zW I e f;exact d.typeIs
end
section
variable {X:Cx}{o i e value:gy}{pos pos' S9:Ud}{td ty tv:TE}
theorem Ez (m:X.A.units+150<nq)(t:PE X o td)(C:PE X i ty)(l:BB i):PE X (.Subscript o i pos) (λc H Q=>td c H λx e=>ty c e λy d => ∃ a v,x = .ref a/\yw X.K d a y (ag v)/\Q v d):=by intro b s c H Q I h;refine yL ZE.lookup l (LO (t b s c H _ I h) λu w ⟨x,e,B,n,k⟩=>LO (C b w c e _ B k) λE G j=>?_);obtain⟨y,d,f,q,a,v,ex,g,z⟩:=j;subst ex;obtain rfl:u=jl a:=n;exact⟨CF f g,AU m f g q λJ D r p=>⟨v,d,r,p,z⟩⟩
theorem AK (l:X.A.units+150<nq)(z:PE X i ty)(q:PE X o td):PC X .NotIn i o (λc H Q=>ty c H λy e=>td c e λx d => ∃ a o,x = .ref a/\yw X.K d a y o/\Q (.bl (!o.isSome)) d):=by intro b s c H Q I h;refine LO (z b s c H _ I h) λC r ⟨y,e,v,n,j⟩=>LO (q b r c e _ v j) λu D f=>?_;obtain⟨x,d,w,m,a,k,ex,g,t⟩:=f;subst ex;obtain rfl:u=jl a:=m;exact EN l w g n λB p=>⟨.bl (!k.isSome),d,p,rfl,t⟩
theorem En (p:X.A.units+150<nq)(E:PE X o td)(M:PE X i ty)(C:PE X value tv)(m:TM value (ag (.Subscript o i pos')) pos.line X.env=wh a8) :
  PS X (.Assign [.Subscript o i pos'] value pos) (λD c H=>tv c H λv f=>td c f λx e=>ty c e λy j => ∃ a d,x = .ref a/\Jw X.K j a y v d/\D.nx c d):=by
 intro b s c H D I h;refine aaQ (LO (C b s c H _ I h) λr F ⟨v,f,J,q,l⟩=>LO (E b F c f _ J l) λu N ⟨x,e,L,w,G⟩=>LO (M b N c e _ L G) λQ P k=>?_) m;obtain⟨y,j,B,z,a,d,ex,g,t⟩:=k;subst ex;obtain rfl:u=jl a:=w;exact AT p B g z q λO n=>⟨c,d,n,t⟩
end
noncomputable def fA:D->eM
 | .tup _=>a6
 |_=>a8
section
variable {X:Cx}{W:WT}{pos pos':Ud}{o i e:gy}{fo fi fv:Lk D}
noncomputable def z7:Lk D:=λ_ S=>LB (#[13]) (S++[.LL []])
theorem R3:PE X (.Dict [] [] pos) (λ_ H Q => ∀ p,H p=a4->Q (.ref p) (upd H p (.dN []))):=λb s c H Q I h =>
 wpAny_Dict_empty ⟨#[16],_,I.laid (a:=s.heap.objs.size) (o:=.dN []) (t':=s.toks) (λ_ _ q=>a9 _ q) (e9 _)
  ⟨RC _,lE.mpr (kg (m3 I.big)),[],.nil,_,#[],0,er _ rfl,⟨rfl,rfl,rfl⟩,rfl,rfl,VJ⟩,rfl,h _ (I.LW.fresh (e9 _))⟩
theorem yR:SE X W (.Dict [] [] pos) z7:=R3.imp λf H Q h=>by obtain⟨J,d,S,r,b,c,_,e,z⟩:=h;cases e;intro p a;have q:=c.L0.push (o:=.dN []) (mo:=.LL []) a ⟨[],LD,.nil⟩;refine z (J++[p]) _ _ q.2 q.1 (At.LI.mpr ⟨p,rfl,?_⟩);rw[← c.L0.len,h6 (e9 _)];simp
noncomputable def pp (x k v:D)(ρ:Lr)(S:Lq):Out Fl:=match x with
 | .loc l=>match S[l]?,fM k with
  |ag (.LL kvs),ag _=>if kvs.length<da/\fA k=a6 then LB (.next ρ) (S.set l (.LL (putN kvs k v))) else a4
  |_,_=>a4
 |_=>a4
noncomputable def wo (fo fi fv:Lk D):Lk Fl:=λa S=>ai (fv a S) λv d=>ai (fo a d) λx b=>ai (fi a b) λk c=>pp x k v a c
theorem sW {K:Ll}{H:Hp}{J:ak bc}{d:D}{v:V}(h:fA d=a6)(m:At K H J d v):∃ b,v = .ref b:=by
 cases d with
 |tup a=>obtain⟨b,_,e,_⟩:=At.LF.mp m;exact⟨b,e⟩
 |_=>cases h
theorem yN (G:X.A.units+150<nq)(P:SE X W o fo)(U:SE X W i fi)(O:SE X W e fv)(D:TM e (ag (.Subscript o i pos')) pos.line X.env=wh a8:=by rfl):SS X W (.Assign [.Subscript o i pos'] e pos) (wo fo fi fv):=
 (En G P U O D).imp λE k H h=>by
  have h:tH X W [] [] (wo fo fi fv) E k H:=let ⟨J,t,S,r,s,c,e,z⟩:=h;⟨J,t,S,r,s,c,.nil,e,z⟩;refine(tH.LC h).mono λv H1 ⟨Q,R⟩=>(tH.LC R).mono λx H2 ⟨L,T⟩=>(tH.LC T).mono λy V ⟨B,F⟩=>?_;obtain⟨J,t,S,r,s,c,m,e,z⟩:=F;obtain⟨mk,m⟩:=m.LA;obtain⟨I,m⟩:=m.LA;obtain⟨N,_⟩:=m.LA;unfold pp at e;cases L with
  |loc l =>
   simp only at e;rw[1]
   ·rename_i d j es n;rw[1]
    ·rename_i lt;cases e;obtain⟨a,rfl,w⟩:=At.LI.mp I;obtain⟨u,C,g⟩:=c.L0.at_ l a _ w es;obtain⟨b,rfl⟩:=sW lt.2 mk;have q:=c.L0.update (o:=.dN (lB u j b v)) (mo:=.LL (putN d B Q)) w λZ Y f K M=>by subst K M;refine⟨_,LD,GD n (mk.ex f) (N.ex f) ?_⟩;exact Paired.Pn g λp q z=>⟨⟨z.1.1,z.1.2.ex f⟩,z.2.ex f⟩
     exact⟨a,_,rfl,⟨J,d,u,B,j,b,C,g,n,mk,rfl,by rw[← kt g];exact lt.1,rfl⟩,z J k _ q.2 (c.re q.2 q.1)⟩
    cases e
   cases e
  |_=>cases e
noncomputable def pH (neg:eM)(k x:D)(S:Lq):a5 D:=match x with
 | .loc l=>match S[l]?,fM k with
  |ag (.LL kvs),ag _=>if fA k=a6 then ag (.bl (if neg then !(lM kvs k).isSome else (lM kvs k).isSome)) else a4
  |_,_=>a4
 |_=>a4
noncomputable def Dy (neg:eM)(c fd:Lk D):Lk D:=λa S=>ai (c a S) λk d=>ai (fd a d) λx b=>aL (pH neg k x b) b
theorem CC {neg:eM}{k:St}{H:Hp}{Q:VK}(h:tE X W (Dy neg fi fo) k H Q):tE X W fi k H λy s=>tE X W fo k s λx f => ∃ a o,x = .ref a/\yw X.K f a y o/\Q (.bl (if neg then !o.isSome else o.isSome)) f:=
 (tG.LC h).mono λy s ⟨I,C⟩=>(tG.LC C).mono λx f t=>by
  obtain⟨B,D⟩:=t
  obtain⟨J,M,S,r,L,c,m,e,z⟩:=D;obtain⟨A,m⟩:=m.LA;obtain⟨mk,_⟩:=m.LA;unfold pH at e;cases B with
  |loc l =>
   simp only at e;rw[1]
   ·rename_i g u es p;rw[1]
    ·rename_i G;cases e;obtain⟨a,rfl,F⟩:=At.LI.mp A;obtain⟨E,w,n⟩:=c.L0.at_ l a _ F es;obtain⟨b,rfl⟩:=sW G mk;refine⟨a,_,rfl,⟨J,g,E,I,u,b,w,n,p,mk,rfl,rfl⟩,?_⟩;have q:=z J f _ Ex.refl c.L0 (At.LZ.mpr rfl);rcases C8 p n with ⟨j,i⟩ |⟨d,v,j,i,_⟩
     ·rw[j] at q;rw[i];exact q
     rw[j] at q;rw[i];exact q
    cases e
   cases e
  |_=>cases e
theorem qT (g:X.A.units+150<nq)(d:SE X W i fi)(e:SE X W o fo)(j:ov .NotIn o=a8:=by with_unfolding_all rfl):OI X W (.Compare i [.NotIn] [o] pos) (br (Dy a6 fi fo)):=
 (xx (AK g d e) j).imp λb H Q h=>NT.mono (t:=λb H Q=>tE X W fi b H λy f=>tE X W fo b f λx c => ∃ a o,x = .ref a/\yw X.K c a y o/\Q (.bl (!o.isSome)) c) (λ_ _ _=>CC (neg:=a6)) (iY h)
noncomputable def jd (x k:D)(S:Lq):a5 D:=match x with
 | .loc l=>match S[l]?,fM k with
  |ag (.LL kvs),ag _=>if fA k=a6 then lM kvs k else a4
  |_,_=>a4
 |_=>a4
noncomputable def z8 (fd c:Lk D):Lk D:=λa S=>ai (fd a S) λx d=>ai (c a d) λk b=>aL (jd x k b) b
theorem yQ (u:X.A.units+150<nq)(D:SE X W o fo)(G:SE X W i fi)(t:BB i:=by exact λ_ _=>rfl):SE X W (.Subscript o i pos) (z8 fo fi):=(Ez u D G t).imp λO H Q h =>
 (tG.LC h).mono λx T ⟨C,E⟩=>(tG.LC E).mono λy I p=>by
  obtain⟨w,F⟩:=p
  obtain⟨J,R,S,r,P,c,m,e,z⟩:=F;obtain⟨mk,m⟩:=m.LA;obtain⟨B,_⟩:=m.LA;unfold jd at e;cases C with
  |loc l =>
   simp only at e;rw[1]
   ·rename_i f q es n;rw[1]
    ·rename_i N;obtain⟨a,rfl,L⟩:=At.LI.mp B;obtain⟨K,s,j⟩:=c.L0.at_ l a _ L es;obtain⟨b,rfl⟩:=sW N mk;rcases C8 n j with ⟨g,k⟩ |⟨d,v,g,k,M⟩
     ·rw[g] at e;cases e
     rw[g] at e;cases e;exact⟨a,v,rfl,⟨J,f,K,w,q,b,s,j,n,mk,rfl,k.symm⟩,z J I _ Ex.refl c.L0 M⟩
    cases e
   cases e
  |_=>cases e
end
def nU (K:Ll)(c f:el):Prop:=∃ C,RE K my c=ag (ag (.ref C))/\Qm K C/\Nh K C f
def MethAt (K:Ll)(c m qual:el)(st:qb)(a:ak el):Prop:=∃ C f fd,RE K my c=ag (ag (.ref C))/\Qm K C/\Meth K C m f/\QX K m qual st f fd/\Binds K fd a []
def HR (K:Ll)(mg:Lo)(c qual:el)(st:qb)(a:ak el):Prop:=∃ C f fd,RE K my c=ag (ag (.ref C))/\mg c=ag (.ref C)/\Mk K C f/\QX K "__init__" qual st f fd/\Binds K fd a []
noncomputable def nG (f:el)(v:D):ak (el×D)->ak (el×D)
 |[]=>[(f,v)]
 |(k,x)::r=>if k=f then (k,v)::r else (k,x)::nG f v r
section
variable {K:Ll}{H H':Hp}{J J':ak bc}
theorem zI {fs:ak (el×D)}{vs:ak (el×V)}(r:lC (XB K H J) fs vs)(f:el):(fs.lookup f=a4/\vs.lookup f=a4)∨∃ d v,fs.lookup f=ag d/\vs.lookup f=ag v/\At K H J d v:=by
 induction r with
 |nil=>exact .inl ⟨rfl,rfl⟩
 | @cons p q l k h t j =>
  obtain⟨a,g⟩:=p;obtain⟨c,i⟩:=q;have b:a=c:=h.1;subst b;by_cases e:f=a
  ·have hb:(f==a)=a6:=XD.mpr e;refine .inr ⟨g,i,?_,?_,h.2⟩<;>simp only[xl,hb]
  have hb:(f==a)=a8:=lE.mpr e;simp only[xl,hb];exact j
theorem Hk {fs:ak (el×D)}{vs:ak (el×V)}(r:lC (XB K H J) fs vs)(f:el){d:D}{v:V}(a:At K H J d v):lC (XB K H J) (nG f d fs) (gq f v vs):=by
 induction r with
 |nil=>exact .cons ⟨rfl,a⟩ .nil
 | @cons p q g c h t m =>
  obtain⟨b,i⟩:=p;obtain⟨l,j⟩:=q;have k:b=l:=h.1;subst k;rw[show nG f d ((b,i)::g)=(if b=f then (b,d)::g else (b,i)::nG f d g) from rfl,show gq f v ((b,j)::c)=(if b=f then (b,v)::c else (b,j)::gq f v c) from rfl];by_cases e:b=f
  ·rw[cc e,cc e];exact .cons ⟨rfl,a⟩ t
  rw[cn e,cn e];exact .cons h m
theorem Ly.split:∀ {es ds:ak D}{us vs:ak V},es.length=us.length->Ly K H J (es++ds) (us++vs)->Ly K H J es us/\Ly K H J ds vs
 |[],_,[],_,_,h=>⟨.nil,h⟩
 |e::es,ds,u::us,vs,hl,h=>by
  obtain⟨a,b⟩:=Ly.LA (d:=e) (v:=u) (ds:=es++ds) (vs:=us++vs) h;obtain⟨f,c⟩:=Ly.split (es:=es) (us:=us) (by simpa using hl) b;exact⟨.cons a f,c⟩
 |[],_,_::_,_,hl,_=>by simp at hl
 |_::_,_,[],_,hl,_=>by simp at hl
end
noncomputable def xV (c:el)(d:D)(S:Lq):a5 (ak (el×D)):=match d with
 | .loc l=>(match S[l]? with
  |ag (.ins c' fs)=>if c'=c then ag fs else a4
  |_=>a4)
 |_=>a4
theorem zD {c:el}{d:D}{S:Lq}{fs:ak (el×D)}(h:xV c d S=ag fs):∃ l,d = .loc l/\S[l]?=ag (.ins c fs):=by
 unfold xV at h;split at h
 ·rename_i l;split at h
  ·rename_i f b e;split at h
   ·rename_i a;cases h;subst a;exact⟨l,rfl,e⟩
   cases h
  cases h
 cases h
section
variable {X:Cx}{W:WT}{pos pos' apos p:Ud}{o e value:gy}{es:ak gy}{fo fv:Lk D}{gs:Lk (ak D)}{c f m x:el}
noncomputable def kG (c f:el)(d:D)(S:Lq):a5 D:=(xV c d S).bind λfs=>fs.lookup f
noncomputable def jt (c f:el)(fo:Lk D):Lk D:=λb S=>ai (fo b S) λd a=>aL (kG c f d a) a
theorem cS (T:nU X.K c f)(A:SE X W o fo)(hb:RK o f X.env (qa o X.env)=qa o X.env:=by rfl):SE X W (.Attribute o f pos) (jt c f fo):=
 (GS A hb).imp λI H Q h=>(tG.LC h).mono λx D m=>by
  obtain⟨i,j⟩:=m
  obtain⟨J,M,S,r,L,cf,B,b,z⟩:=j
  try dsimp only at b
  obtain⟨w,_⟩:=B.LA;cases q:kG c f i S with
  |none=>rw[q] at b;cases b
  |some d =>
   rw[q] at b;cases b;obtain⟨fs,j,e⟩:=hD.mp q;obtain⟨l,rfl,es⟩:=zD j;obtain⟨a,rfl,E⟩:=At.LI.mp w;obtain⟨C,i,y,n,t,p⟩:=cf.L0.at_ l a _ E es;obtain⟨N,k,cl,s⟩:=T;rw[n] at k;cases k;rcases zI p f with ⟨g,_⟩ |⟨G,v,g,u,F⟩
   ·rw[g] at e;cases e
   rw[g] at e;cases e;exact⟨a,C,i,y,v,rfl,t,cl,s,u,z J D v Ex.refl cf.L0 F⟩
noncomputable def o5 (c f:el)(d v:D)(ρ:Lr)(S:Lq):Out Fl:=match d with
 | .loc l=>(match S[l]? with
  |ag (.ins c' fs)=>if c'=c/\fs.length<1000 then LB (.next ρ) (S.set l (.ins c (nG f v fs))) else a4
  |_=>a4)
 |_=>a4
theorem BX {T:nU X.K c f}{g:St}{H:Hp}{J:ak bc}{ρ:Lr}{S m:Lq}{r:Except el Fl}{E:Ends}{d h:D}{x y:V}(cf:Cf X J ρ S g H)(w:At X.K H J d x)(B:At X.K H J h y)
  (b:o5 c f d h ρ S=ag (r,m)) (z:Py X W J H r m E):∃ a C e fs,x = .ref a/\H a=ag (.ins C e fs)/\Qm X.K C/\Nh X.K C f/\fs.length<1000/\E.nx g (upd H a (.ins C e (gq f y fs))):=by
 unfold o5 at b;split at b
 ·rename_i l;split at b
  ·rename_i A fs es;split at b
   ·rename_i hc;obtain⟨L,F⟩:=hc;subst L;cases b;obtain⟨a,rfl,t⟩:=At.LI.mp w;obtain⟨C,e,k,n,v,i⟩:=cf.L0.at_ l a _ t es;obtain⟨O,s,cl,u⟩:=T;rw[n] at s;cases s;have q:=cf.L0.update (o:=.ins C e (gq f y k)) (mo:=.ins A (nG f h fs)) t λN M j G I=>by subst G I;refine⟨C,e,_,n,LD,Hk (Paired.Pn i λp q z=>⟨z.1,z.2.ex j⟩) f (B.ex j)⟩
    exact⟨a,C,e,k,rfl,v,cl,u,by rw[← kt i];exact F,z J g _ q.2 (cf.re q.2 q.1)⟩
   cases b
  cases b
 cases b
noncomputable def qh (c f:el)(fo fv:Lk D):Lk Fl:=λa S=>ai (fv a S) λv e=>ai (fo a e) λd b=>o5 c f d v a b
theorem tj (T:nU X.K c f)(n:SE X W o fo)(p:SE X W value fv)(j:TM value (ag (.Attribute o f pos')) pos.line X.env=wh a8:=by rfl):SS X W (.Assign [.Attribute o f pos'] value pos) (qh c f fo fv):=
 (GJ n p j).imp λE m H h=>by
  have h:tH X W [] [] (qh c f fo fv) E m H:=let ⟨J,i,S,r,g,c,e,z⟩:=h;⟨J,i,S,r,g,c,.nil,e,z⟩;refine(tH.LC h).mono λy v ⟨t,q⟩=>(tH.LC q).mono λx u ⟨d,s⟩=>?_;obtain⟨J,i,S,r,g,cf,a,b,z⟩:=s
  try dsimp only at b
  obtain⟨k,a⟩:=a.LA;obtain⟨l,_⟩:=a.LA;exact BX (T:=T) cf k l b z
noncomputable def Jo (c f:el)(d v y:D)(ρ:Lr)(S:Lq):Out Fl:=match v,y with
 | .int i,.int j=>o5 c f d (.int (i+j)) ρ S
 |_,_=>a4
noncomputable def Jn (c f:el)(fo fv:Lk D):Lk Fl:=λa S=>ai (fo a S) λd b=>ai (aL (kG c f d b) b) λv e=>ai (fv a e) λy g=>Jo c f d v y a g
def qt (P:e8)(w:hL)(K:Ll)(mg:Lo)(base:ja)(k:Nat)(c m:el)(a:ak el)(F:Lp):Prop:=
 ∃ C f fd,RE K my c=ag (ag (.ref C))/\Qm K C/\Meth K C m f/\Sr P w K mg base k f fd a F/\Binds K fd a []
def HX (P:e8)(w:hL)(K:Ll)(mg:Lo)(base:ja)(k:Nat)(c:el)(a:ak el)(F:Lp):Prop:=
 ∃ C f fd,RE K my c=ag (ag (.ref C))/\mg c=ag (.ref C)/\Mk K C f/\Sr P w K mg base k f fd a F/\Binds K fd a []
noncomputable def vT (c m:el)(d:D)(S:Lq):a5 D:=(xV c d S).bind λfs=>if fs.lookup m=a4 then ag .LR else a4
noncomputable def dO (c m:el)(F:Lp)(fo:Lk D)(gs:Lk (ak D)):Lk D:=λa S=>ai (fo a S) λd b=>ai (aL (vT c m d b) b) λ_ f=>ai (gs a f) λe g=>j4 (F (d::e) g)
noncomputable def Hy (c m:el)(F:Lp)(fo:Lk D)(gs:Lk (ak D)):Lk D:=λa S=>ai (fo a S) λd b=>ai (aL (vT c m d b) b) λ_ f=>ai (gs a f) λe g=>F (d::e) g
theorem CJ {C:bc}(n:RE X.K my c=ag (ag (.ref C))){k:Lk D}{d:D}{x:V}{i:St}{H:Hp}{Q:VK}(h:tG X W (RD X) [d] [x] (λρ j=>ai (aL (vT c m d j) j) λ_ S2=>k ρ S2) i H Q) :
  ∃ a e fs,x = .ref a/\H a=ag (.ins C e fs)/\fs.lookup m=a4/\tG X W (RD X) [d] [x] k i H Q:=by
 obtain⟨J,ρ,S,r,A,cf,B,b,z⟩:=h
 try dsimp only at b
 obtain⟨g,M⟩:=B.LA;cases q:vT c m d S with
 |none=>rw[q] at b;cases b
 |some I =>
  rw[q,bF,eI] at b;obtain⟨fs,F,o⟩:=hD.mp q;obtain⟨l,rfl,es⟩:=zD F;have f:=g;obtain⟨a,rfl,G⟩:=At.LI.mp g;obtain⟨N,e,y,p,u,t⟩:=cf.L0.at_ l a _ G es;rw[n] at p;cases p;split at o
  ·rename_i E;rcases zI t m with ⟨_,w⟩ |⟨L,v,s,_⟩
   ·exact⟨a,e,y,rfl,u,w,J,ρ,S,r,A,cf,.cons f .nil,b,z⟩
   rw[E] at s;cases s
  cases o
theorem bO {k:Nat}{ps:ak el}{F:Lp}{pl:Sem eM}(G:qt X.prog X.w X.K X.mg X.base k c m ps F)(hr:L1 k X.A)(O:SE X W o fo)(ha:SA X W (e::es) gs)
  (l:ek (e::es) X.env=(a8,qa e X.env)::ek es X.env:=by rfl) (P:(rb pos (ek es X.env)).any (·.1)=a8:=by rfl)
  (ht:qa (.Call (.Attribute o m apos) (e::es) [] pos) X.env=(do
   let j ← qa o X.env
   abS apos.atName
   let (f,first) ← Vk [j] (abU j m pl)
   adK pos f first (rb pos (ek (e::es) X.env)) (WS pos (S7 [] X.env))):=by rfl) :
  SE X W (.Call (.Attribute o m apos) (e::es) [] pos) (dO c m F fo gs):=by
 obtain⟨C,f,fd,n,cl,mt,fn,hb⟩:=G;refine PE.imp (EA (E:=E0) O cl mt fn hr hb .nil Cr ha l P ht) λσ H Q h=>(tG.LC h).mono λx H1 g=>?_;obtain⟨d,Y⟩:=g;obtain⟨a,L,fs,s,y,M,Z⟩:=CJ n Y;refine⟨a,L,fs,s,y,M,(tG.OJ Z).mono λus H2 g=>?_⟩;obtain⟨i,B,u⟩:=g;obtain⟨J,ρ,S,r,R,cf,U,b,z⟩:=u
 try dsimp only at b
 obtain⟨m1,m2⟩:=Ly.split B U;obtain⟨N,_⟩:=m2.LA;have b:j4 (F (d::i) S)=ag (r,R):=b;unfold j4 at b;split at b
 ·rename_i I S2 q;cases b;exact⟨J,S,d::i,I,_,.cons N (by rw[ia];exact m1),cf.L0,q,λV T v t p D=>z V T v t p D⟩
 cases b
noncomputable def z9 (c:el)(F:Lp)(gs:Lk (ak D)):Lk D:=λb S=>ai (gs b S) λd a=>(match F (.loc a.length::d) (a++[.ins c []]) with
 |ag (.ok .LR,S2)=>LB (.loc a.length) S2
 |_=>a4)
theorem Ed {k:Nat}{Y:ak el}{F:Lp}(G:HX X.prog X.w X.K X.mg X.base k c Y F)(hr:L1 (k+1) X.A)(ha:SA X W (e::es) gs)(V:Gl X c:=by rfl)
  (L:(c==("__debug__":el))=a8:=by decide) (D:ek (e::es) X.env=(a8,qa e X.env)::ek es X.env:=by rfl) (N:(rb pos (ek es X.env)).any (·.1)=a8:=by rfl) :
  SE X W (.Call (.Name c p) (e::es) [] pos) (z9 c F gs):=by
 obtain⟨C,f,fd,n,M,mk,fn,hb⟩:=G;refine PE.imp (EB (E:=E0) mk fn hr V M hb .nil Cr ha L D N) λσ H Q h=>(tG.OJ h).mono λus g u=>?_;obtain⟨i,hl,m⟩:=u;rw[ia,ia] at m;obtain⟨J,ρ,S,r,O,cf,T,a,z⟩:=m
 try dsimp only at a
 intro x d t b ne;have B:(upd g d (.own x)) x=a4:=by rw[aH (kg ne)];exact t
 have P:=cf.L0.same (aO b (.own x));have x1:Ex J g J (upd g d (.own x)):=Ex.same (aO b _);have q:=P.push (o:=.ins C d []) (mo:=.ins c []) B ⟨C,d,[],n,LD,.nil⟩;have x2:=x1.trans q.2;have l:(J++[x])[S.length]?=ag x:=by rw[← cf.L0.len,h6 (e9 _)];simp
 have a:(match F (#[13]::i) (S++[.ins c []]) with
  |ag (.ok .LR,s)=>LB (#[13]) s
  |_=>a4)=ag (r,O):=a
 split at a
 ·rename_i s Z;cases a;refine⟨J++[x],_,#[13]::i,.LR,_,.cons (At.LI.mpr ⟨x,rfl,l⟩) (by rw[ia];exact T.ex x2),q.1,Z,λU R v j y I=>⟨At.Mf.mp I,?_⟩⟩;exact z U R (.ref x) (x2.trans j) y (At.LI.mpr ⟨x,rfl,om j.pre l⟩)
 cases a
end
section
variable {P:e8}{w:hL}{K:Ll}{mg:Lo}{base:ja}
theorem nO {x qual:el}{st:qb}{sc:ku}{N a:ak el}{k:Nat}{G:Lk Fl}{f:bc}{fd:K1}(c:QX K x qual st f fd)(d:aq st=sc)(Sc:Lw N a sc)
  (h:∀ (f:bc) (b:ax) (A:iv) (outer:ak Env) (s:bo) (H:Hp) (E:XK),L1 k (A.deeper (XN qual sc s.heap.objs.size f b))->Q3 (p9 Rx P w K mg base N qual sc f b A outer s H E).SX W0 (bQ st) G) :
  Sr P w K mg base (k+1) f fd a (a_ a.length (N.length-a.length) G):=nP c d Sc λA outer s H E hr=>h f fd.code A outer s H E hr
theorem ir {c m qual:el}{st:qb}{sc:ku}{N a:ak el}{k:Nat}{G:Lk Fl}(g:MethAt K c m qual st a)(e:aq st=sc)(Sc:Lw N a sc)
  (h:∀ (f:bc) (b:ax) (A:iv) (outer:ak Env) (s:bo) (H:Hp) (E:XK),L1 k (A.deeper (XN qual sc s.heap.objs.size f b))->Q3 (p9 Rx P w K mg base N qual sc f b A outer s H E).SX W0 (bQ st) G) :
  qt P w K mg base (k+1) c m a (a_ a.length (N.length-a.length) G):=by
 obtain⟨C,f,fd,n,cl,mt,d,hb⟩:=g;exact⟨C,f,fd,n,cl,mt,nO d e Sc h,hb⟩
theorem Fr {c qual:el}{st:qb}{sc:ku}{N a:ak el}{k:Nat}{G:Lk Fl}(i:HR K mg c qual st a)(g:aq st=sc)(Sc:Lw N a sc)
  (h:∀ (f:bc) (b:ax) (A:iv) (outer:ak Env) (s:bo) (H:Hp) (E:XK),L1 k (A.deeper (XN qual sc s.heap.objs.size f b))->Q3 (p9 Rx P w K mg base N qual sc f b A outer s H E).SX W0 (bQ st) G) :
  HX P w K mg base (k+1) c a (a_ a.length (N.length-a.length) G):=by
 obtain⟨C,f,fd,n,d,mt,e,hb⟩:=i;exact⟨C,f,fd,n,d,mt,nO e g Sc h,hb⟩
theorem Bw {c m qual:el}{st:qb}{b:ak el}{k:Nat}(g:MethAt K c m qual st b):qt P w K mg base k c m b (λ_ _=>a4):=by
 obtain⟨C,f,fd,n,cl,mt,j,hb⟩:=g;have no:∀ a H Q E,¬ XG K (λ_ _=>a4) a H Q E:=λa H Q E h=>by obtain⟨J,S,i,d,l,_,_,e,_⟩:=h;cases e
 exact⟨C,f,fd,n,cl,mt,⟨λa H Q E h=>ib h (no a H Q E),λA outer s H args o a Q E _ _ _ _ h=>ib h (no a H Q E)⟩,hb⟩
end
noncomputable def fz (d:D)(S:Lq):a5 (ak D):=match d with
 | .loc l=>(match S[l]? with
  |ag (.lst xs)=>ag xs
  |_=>a4)
 |_=>a4
theorem EW {d:D}{S:Lq}{xs:ak D}(h:fz d S=ag xs):∃ l,d = .loc l/\S[l]?=ag (.lst xs):=by
 unfold fz at h;split at h
 ·rename_i l;split at h
  ·rename_i a e;cases h;exact⟨l,rfl,e⟩
  cases h
 cases h
section
variable {X:Cx}{W:WT}{pos L5 apos p:Ud}{o e a b:gy}{fo fe fa fb:Lk D}{x:el}
theorem tU {J:ak bc}{S:Lq}{H:Hp}{d:D}{v:V}{xs:ak D}(so:LX X.K J S H)(m:At X.K H J d v)(h:fz d S=ag xs):∃ l q us,d = .loc l/\v = .ref q/\J[l]?=ag q/\S[l]?=ag (.lst xs)/\H q=ag (.lst us)/\Ly X.K H J xs us:=by obtain⟨l,rfl,es⟩:=EW h;obtain⟨q,rfl,a⟩:=At.LI.mp m;obtain⟨us,c,b⟩:=so.at_ l q _ a es;exact⟨l,q,us,rfl,rfl,a,es,c,b⟩
noncomputable def Dx:Lk D:=λ_ S=>LB (#[13]) (S++[.lst []])
theorem Ec:SE X W (.List [] pos) Dx:=(Cn MD).imp λb H Q h=>by
 obtain⟨J,f,S,r,d,c,_,e,z⟩:=h
 try dsimp only at e
 cases e;show uP b H _;refine⟨RC _,λp a=>?_⟩;have q:=c.L0.push (o:=.lst []) (mo:=.lst []) a ⟨[],LD,.nil⟩;refine z (J++[p]) _ _ q.2 q.1 (At.LI.mpr ⟨p,rfl,?_⟩);rw[← c.L0.len,h6 (e9 _)];simp
noncomputable def yt (d v:D)(S:Lq):Out D:=match d with
 | .loc l=>(match S[l]? with
  |ag (.lst xs)=>if xs.length<da then LB .LR (S.set l (.lst (xs++[v]))) else a4
  |_=>a4)
 |_=>a4
noncomputable def HA (fo fe:Lk D):Lk D:=λa S=>ai (fo a S) λd b=>ai (aL (fz d b) b) λ_ c=>ai (fe a c) λv e=>yt d v e
theorem Gs {name:el}(hn:name="append")(T:SE X W o fo)(ha:SE X W a fe)(Z:RK o name X.env (qa o X.env)=qa o X.env:=by rfl)
  (Qp:((rb L5 (ek [a] X.env)).all (λx => !x.1)&&(WS L5 (S7 [] X.env)).all (λx=>x.1.isSome)
   && ei ([a].length+([]:ak Wu).length+(if ([]:ak Wu).isEmpty then 0 else 1)<30))=a6:=by rfl)
  (OH:(apos.endLine==L5.line)=a6:=by rfl) (p:ek [a] X.env=(a8,qa a X.env)::ek [] X.env:=by rfl) (NM:(rb L5 (ek [] X.env)).any (·.1)=a8:=by rfl) :
  SE X W (.Call (.Attribute o name apos) [a] [] L5) (HA fo fe):=by
 subst hn;refine PE.imp (Cp F.plainAttrs_list F.slot_list_append F.type_list_append AX T (di ha MD p) Z Qp OH p NM) λR H Q h=>(tG.LC h).mono λx H1 w=>?_;obtain⟨d,h1⟩:=w;obtain⟨J,g,S,r,U,c,m,e,z⟩:=h1
 try dsimp only at e
 obtain⟨s,_⟩:=m.LA;cases q:fz d S with
 |none=>rw[q] at e;cases e
 |some xs =>
  rw[q,bF,eI] at e;obtain⟨l,j,us,rfl,rfl,hq,es,B,mu⟩:=tU c.L0 s q;refine⟨.inl ⟨rfl,us,.inl (.inl B)⟩,?_⟩;have h2:tG X W (RD X) [.loc l] [.ref j] (λg i=>ai (fe g i) λv Y=>yt (.loc l) v Y) R H1 Q:=⟨J,g,S,r,U,c,.cons s .nil,e,z⟩;refine(tG.LC h2).mono λy H2 ⟨t,C⟩=>?_;show uP _ _ _;obtain⟨A,L,i,V,D,u,m2,b,z2⟩:=C
  try dsimp only at b
  obtain⟨E,m2⟩:=m2.LA;obtain⟨G,_⟩:=m2.LA;have b:yt (.loc l) t i=ag (V,D):=b;unfold yt at b;simp only at b;split at b
  ·rename_i N K;split at b
   ·rename_i lt;cases b;obtain⟨q2,O,f⟩:=At.LI.mp G;cases O;obtain⟨T7,P,k⟩:=u.L0.at_ l j _ f K;have up:=u.L0.update (o:=.lst (T7++[y])) (mo:=.lst (N++[t])) f λJ' H' n I M=>by subst I M;exact⟨_,LD,(k.ex n).append (.cons (E.ex n) .nil)⟩
    exact⟨j,T7,y,rfl,rfl,P,by rw[← k.length];exact lt,z2 A _ _ up.2 up.1 (At.Mf.mpr rfl)⟩
   cases b
  cases b
noncomputable def lL (x i:D)(S:Lq):a5 D:=match i with
 | .int k=>(fz x S).bind λa=>O3 a k
 |_=>a4
noncomputable def uw (fa fb:Lk D):Lk D:=λa S=>ai (fa a S) λx c=>ai (fb a c) λi b=>aL (lL x i b) b
theorem tK (ha:SE X W a fa)(hb:SE X W b fb)(p:oy b:=by exact λ_ _=>rfl):SE X W (.Subscript a b pos) (uw fa fb):=
 (FP zy ha hb p).imp λC H Q h=>(tG.LC h).mono λv K ⟨d,f⟩=>(tG.LC f).mono λB y i=>by
  obtain⟨u,g⟩:=i
  obtain⟨J,G,S,r,D,c,m,e,z⟩:=g
  try dsimp only at e
  obtain⟨n,m⟩:=m.LA;obtain⟨s,_⟩:=m.LA;cases q:lL d u S with
  |none=>rw[q] at e;cases e
  |some E =>
   rw[q] at e;cases e;unfold lL at q;split at q
   ·rename_i k;obtain⟨F,f,g⟩:=hD.mp q;obtain⟨l,A,x,rfl,rfl,I,es,o,t⟩:=tU c.L0 s f;cases At.Lu.mp n;obtain⟨w,j,a1⟩:=ux t g;exact⟨A,x,k,w,rfl,rfl,.inl (.inl o),j,z J y w Ex.refl c.L0 a1⟩
   cases q
noncomputable def Bx (fa fb:Lk D):Lk D:=λa S=>ai (fa a S) λx c=>ai (fb a c) λi b=>aL (if bN x=a6 then lL x i b else TU x i) b
theorem yS (ha:SE X W a fa)(hb:SE X W b fb)(d:oy b:=by exact λ_ _=>rfl):SE X W (.Subscript a b pos) (Bx fa fb):=
 SE.either (tK ha hb d) (FK ixd ha hb d) λc S=>cz _ λx e=>by
  by_cases h:bN x=a6
  ·refine .inl (q7 (ai (fb c e)) (acr λi=>acr λf=>?_));rw[cc h]
  refine .inr (q7 (ai (fb c e)) (acr λi=>acr λf=>?_));rw[cn h]
noncomputable def Dp (fe:Lk D):Lk D:=λb S=>ai (fe b S) λd a=>aL ((fz d a).map λc => .int c.length) a
theorem Ee (j:X.mg x=a4)(ha:SE X W e fe)(b:x="len":=by rfl)(s:Gl X x:=by rfl)(a:ek [e] X.env=(a8,qa e X.env)::ek [] X.env:=by rfl)(k:(rb pos (ek [] X.env)).any (·.1)=a8:=by rfl) :
  SE X W (.Call (.Name x p) [e] [] pos) (Dp fe):=by
 subst b;refine PE.imp (i_ io s j fG (di ha MD a) #[2] #[2] a k) λw H Q h=>?_;refine(tG.LC h).mono λv t ⟨d,o⟩=>?_;obtain⟨J,B,S,r,y,c,m,eq,z⟩:=o
 try dsimp only at eq
 obtain⟨g,_⟩:=m.LA;show uP _ _ _;cases q:fz d S with
 |none=>rw[q] at eq;cases eq
 |some A =>
  rw[q] at eq;cases eq;obtain⟨l,u,n,rfl,rfl,C,es,f,i⟩:=tU c.L0 g q;refine⟨u,n,rfl,.inl (.inl (.inl f)),?_⟩;rw[← i.length];exact z J t _ Ex.refl c.L0 (#[18])
noncomputable def Fi (fe:Lk D):Lk D:=λc S=>ai (fe c S) λd a=>aL ((fz d a).bind λb=>if b.length<=da then ag (.tup b) else a4) a
end
theorem ints_get:∀ {vs:ak ax}{ns:ak Int}(i:Nat) {n:Int},Vt vs ns->ns[i]?=ag n->∃ t,vs[i]?=ag (.int n t)
 |_,_,_,_,.nil,e=>by simp at e
 |_,_,0,_,.cons n t r,e=>by simp at e;subst e;exact⟨t,rfl⟩
 |_,_,i+1,_,.cons n t r,e=>by
  obtain⟨a,h⟩:=ints_get i r (by simpa using e);exact⟨a,by simpa using h⟩
theorem vQ:∀ {vs:ak ax}{ns:ak Int},Vt vs ns->vs.length=ns.length
 |_,_,.nil=>rfl
 |_,_,.cons n t r=>by simp[vQ r]
theorem rM {k:Int}:∀ {ns:ak Int}{j:Nat},j<ns.idxOf k->∀ (a:j<ns.length),ns[j]≠k
 |n::r,0,h,_=>by
  intro e;have e:n=k:=e;subst e;simp at h
 |n::r,j+1,h,a=>by
  by_cases e:n=k
  ·subst e;simp at h
  have hb:(n==k)=a8:=by simpa using e
  rw[XU,hb] at h;exact rM (ns:=r) (j:=j) (by simpa using h) (by simpa using a)
theorem mr {prog:e8}{w:hL}{A:iv}{E:Lm}{s:bo}{l:bc}{o:Obj}{n:Nat}{vs:ak ax}{ns:ak Int}{k:Int}{t:Tok}{Q:Lm}(B:s.heap.get? l=ag o)(hc:o.cls = .type "tuple")(hd:o.data = .seq vs.toArray n)(C:Vt vs ns)
  (H:k∈ns) (h:∀ t' s',s'={ s with toks:=s.toks+1 }->Q (.int (ns.idxOf k:Nat) t') s'):dr #[5] A (call (.builtin "tuple.index") [.ref l,.int k t]) Q E s:=by
 have J:s.TypeIs (.ref l) "tuple":=⟨o,B,hc⟩;refine mi F.slot_tuple_index J F.entry_tuple_index ?_ (F.args_tuple_index_2 _ _);show dr _ _ (RU (.ref l) >>= _) _ _ s;refine av (Wz B hd ?_);have y:=vQ C;have u:ns.idxOf k<ns.length:=o3.mpr H;show dr _ _ (acD [0:XP vs.toArray.size vs.toArray.size] _ _ >>= _) _ _ s;refine av ?_;rw[abF];have j:([0:XP vs.toArray.size vs.toArray.size]:ac9).size=vs.length:=by simp[aev]
 show dr _ _ (acD (range' 0 ([0:XP vs.toArray.size vs.toArray.size]:ac9).size 1) _ _) _ _ _;rw[j];refine ON _ (λrest r s'=>r.1=a4/\s'=s/\∃ i,i<=ns.idxOf k/\rest=range' i (vs.length-i) 1) _ ?_ ?_ _ _ ⟨rfl,rfl,0,RC _,by simp⟩
 ·rintro x rest r s' ⟨hr,rfl,i,L,b⟩;have N:i<vs.length:=#[1]
  obtain⟨m,g⟩:∃ m,vs.length-i=m+1:=⟨vs.length-i-1,#[1]⟩;rw[g,ac_] at b;obtain⟨rfl,rfl⟩:=V6 b;obtain⟨a,c⟩:∃ a,ns[x]?=ag a:=⟨ns[x]'#[0],a7 _⟩;obtain⟨t',K⟩:=ints_get x C c;have M:vs.toArray[x]?=ag (.int a t'):=by simpa using K
  rw[M];show dr _ _ (eqBool (.int a t') (.int k t) >>= _) _ _ _;refine av (Xx ?_);by_cases e:a=k
  ·subst e
   have ex:ns.idxOf a=x:=by
    have R:ns.idxOf a<=x:=by
     have d:x<ns.length:=#[1]
     have:ns[x]=a:=by rw[a7 d] at c;exact h8 c
     rcases Rv x (ns.idxOf a) with h2 |h2
     ·exact ib this (rM h2 d)
     exact h2
    omega
   rw[XR];simp only[mz];refine av (ro (show dr _ _ (retInt (x:Int)) _ _ _ from wpAny_ret_mkInt (Q:=λv p => ∃ t',v = .int (x:Int) t'/\p={ s' with toks:=s'.toks+1 }) ⟨_,rfl,rfl⟩) (λfin p D=>?_) λ_ _ z=>z);obtain⟨v,G,t',I,f⟩:=D;subst G I;refine ay (ay ⟨_,rfl,?_⟩);have q:=h t' p f;rw[ex] at q;exact q
  rw[lE.mpr e];simp only[gh,la];refine ay ⟨rfl,rfl,x+1,?_,?_⟩
  ·have d:x<ns.length:=#[1]
   rcases Rv x (ns.idxOf k) with h2 |h2
   ·exact h2
   exfalso;have f:x=ns.idxOf k:=#[1]
   rw[f,a7 u,UK u] at c;exact e (h8 c).symm
  congr 1;omega
 rintro⟨O,P⟩ s' ⟨hr,rfl,i,L,b⟩;exfalso;obtain⟨m,g⟩:∃ m,vs.length-i=m+1:=⟨vs.length-i-1,#[1]⟩;rw[g,ac_] at b;cases b
section
variable {X:Cx}{W:WT}{fe fa:Lk D}
theorem AV:Yt X "tuple.index" (λx xs H Q => ∃ (a:bc) (ns:ak Int) (k:Int),x = .ref a/\xs=[.int k]/\O2 X.K H a (ns.map V.int)/\k∈ns/\Q (.int (ns.idxOf k:Nat)) H):=by intro b s w H x xs v y Q I j c h;obtain⟨a,ns,k,rfl,rfl,g,d,q⟩:=h;cases j;obtain⟨u,rfl,l⟩:=vals1 c;obtain⟨t2,rfl⟩:=l;obtain⟨its,i,⟨o,m,p,n,f⟩,_⟩:=I.tuple g;refine mr (vs:=its) m p f (eX i) d λr t e=>?_;subst e;exact⟨.int _,H,I.tok _,⟨_,rfl⟩,q⟩
noncomputable def jJ:D->D->a5 D
 | .tup a,.int k=>(bU a).bind λns=>if k∈ns then ag (.int (ns.idxOf k:Nat)) else a4
 |_,_=>a4
theorem F9 {J:ak bc}{b:Hp}{d:D}{v:V}(e:fA d=a6)(m:At X.K b J d v):V8 X.K "tuple" v b:=by
 cases d<;>first |(cases e;done) |skip
 rename_i j;obtain⟨a,g,rfl,c,_⟩:=At.LF.mp m;rcases c with z |⟨o,its,n,h,i,f,_⟩
 ·exact .inr (.inl ⟨rfl,.inr ⟨g,z.1⟩⟩)
 exact .inr (.inl ⟨rfl,.inl ⟨o,h,i,f⟩⟩)
theorem rO {o:gy}{name:el}{b c:Ud}{a:gy}(z:name="index")(s:SE X W o fe)(ha:SE X W a fa)(u:RK o name X.env (qa o X.env)=qa o X.env:=by rfl)
  (B:((rb c (ek [a] X.env)).all (λx => !x.1)&&(WS c (S7 [] X.env)).all (λx=>x.1.isSome)
   && ei ([a].length+([]:ak Wu).length+(if ([]:ak Wu).isEmpty then 0 else 1)<30))=a6:=by rfl)
  (w:(b.endLine==c.line)=a6:=by rfl) (g:ek [a] X.env=(a8,qa a X.env)::ek [] X.env:=by rfl) (y:(rb c (ek [] X.env)).any (·.1)=a8:=by rfl) :
  SE X W (.Call (.Attribute o name b) [a] [] c) (wv fA jJ fe fa):=by
 subst z;refine PE.imp (Cp F.plainAttrs_tuple F.slot_tuple_index F.type_tuple_index AV s (di ha MD g) u B w g y) λM H Q h=>vD (λJ N d v l m=>F9 l m) (λv I A Q q=>?_) h;obtain⟨J,L,G,K,E,n,C,eq,q⟩:=q;unfold jJ at eq;split at eq
 ·rename_i D k;obtain⟨ns,j,f⟩:=hD.mp eq;split at f
  ·rename_i hc;cases f;cases At.Lu.mp C;obtain⟨a,r,rfl,i,t⟩:=At.LF.mp n;have p:=fB j;subst p;have e:r=ns.map V.int:=Ly.Oa t;subst e;exact⟨a,ns,k,rfl,rfl,i.sq,hc,q A _ (LH.refl _) (#[18])⟩
  cases f
 cases eq
end
noncomputable def G3:ak Int->a5 Int
 |[]=>a4
 |n::r=>ag (r.foldl (λa b=>if b<a then b else a) n)
theorem ud:∀ (r:ak Int) (n:Int),(r.foldl (λa b=>if b<a then b else a) n∈n::r)/\∀ a∈n::r,r.foldl (λa b=>if b<a then b else a) n<=a
 |[],n=>by simp
 |x::r,n=>by
  rw[Pw];by_cases f:x<n
  ·rw[cc f];obtain⟨d,c⟩:=ud r x;refine⟨ee _ d,λa ha=>?_⟩;rcases fx.mp ha with e |ha
   ·have g:=c x (eR ..);omega
   exact c a ha
  rw[cn f];obtain⟨d,c⟩:=ud r n;have g:=c n (eR ..);refine⟨?_,λa ha=>?_⟩
  ·rcases fx.mp d with e |h
   ·rw[e];exact eR ..
   exact ee _ (ee _ h)
  rcases fx.mp ha with e |ha
  ·omega
  rcases fx.mp ha with e |ha
  ·omega
  exact c a (ee _ ha)
theorem AY {ns:ak Int}{M:Int}(c:M∈ns)(d:∀ a∈ns,M<=a):G3 ns=ag M:=by
 cases ns with
 |nil=>simp at c
 |cons n r =>
  obtain⟨a,b⟩:=ud r n;exact q7 ag (ady (b M c) (d _ a))
theorem kA:∀ {vs:ak ax}{ns:ak Int},Vt vs ns->∃ xs:ak (Int×Tok),vs=xs.map (λp => .int p.1 p.2)/\ns=xs.map (·.1)
 |_,_,.nil=>⟨[],rfl,rfl⟩
 |_,_,.cons n t r=>by
  obtain⟨xs,a,b⟩:=kA r;exact⟨(n,t)::xs,by rw[a];rfl,by rw[b];rfl⟩
section
variable {X:Cx}{W:WT}
noncomputable def vA:ak D->a5 D
 |[.lst ds]=>(bU ds).bind λns=>(G3 ns).map .int
 |_=>a4
theorem Fq (hc:X.calm=a6):j_ X (.builtin "min") vA:=by
 intro o s σ H b us Q I r h;obtain⟨J,V,d,W,m,e,q⟩:=h;unfold vA at e;rw[1]
 ·rename_i Z;obtain⟨ns,A,E⟩:=hD.mp e;obtain⟨M,g,B⟩:=d7.mp E;subst B;obtain⟨v,w,rfl,a,n⟩:=Ly.Lv.mp m;cases Ly.Lz.mp n;obtain⟨p,U,rfl,t,S⟩:=At.LG.mp a;obtain⟨u,rfl,O⟩:=vals1 r;cases O;have K:=fB A;subst K;have ev:=Ly.Oa S;subst ev;obtain⟨its,G,pl,Y⟩:=I.list t.sq;obtain⟨b,ex,c⟩:=kA (eX G)
  have R : 0<b.length:=by
   cases b with
   |nil=>subst c;cases g
   |cons x b=>simp
  have F:s.heap.IsList p (ad6 b.toArray):=by have:=pl.isList;rw[ex] at this;simpa [ad6] using this
  refine min_intList (I.ok.hd hc) F (by simpa using R) λv T tk L C=>?_;obtain⟨N,rfl⟩:=intItems_at L;obtain⟨h1,P⟩:=argBest_lt (acV b.toArray) (b.toArray.size-1)
  have mem:acV b.toArray (argBest (λi j=>ei (acV b.toArray i<acV b.toArray j)) (b.toArray.size-1))∈ns:=by
   have hb:argBest (λi j=>ei (acV b.toArray i<acV b.toArray j)) (b.toArray.size-1)<b.length:=by
    have:b.toArray.size=b.length:=by simp
    omega
   rw[numAt_eq,c];simp only[Zm,dk,ab3,a7 hb,UI,XS];exact q5.mpr ⟨_,Ui hb,rfl⟩
  have low:∀ a∈ns,acV b.toArray (argBest (λi j=>ei (acV b.toArray i<acV b.toArray j)) (b.toArray.size-1))<=a:=by
   intro a l;rw[c] at l;obtain⟨x,y,rfl⟩:=q5.mp l;obtain⟨j,z,rfl⟩:=T3 y
   have D:=P j (by
    have:b.toArray.size=b.length:=by simp
    omega)
   refine Int.le_trans D (Int.le_of_eq ?_);simp[acV,z]
  have k:=AY mem low;rw[g] at k;have f:=h8 k;refine⟨.int M,H,I.kept (t':=tk) C,⟨N,by rw[f]⟩,q H _ (LH.refl H) (#[18])⟩
 cases e
end
section
variable {X:Cx}{W:WT}{pos:Ud}
noncomputable def HU (K:Ll)(a:bc):It:=
 ⟨λi H => ∃ b x,Oq K H a b/\b[i]?=ag x,λi H x c => ∃ p y,H p=a4/\x = .ref p/\c=upd H p (.tup [.int i,y])/\∀ b,Oq K H a b->b[i]?=ag y,λi H => ∃ b,Oq K H a b/\b.length<=i⟩
theorem w8 {P:e8}{w:hL}{K:Ll}{es:ak gy}{k:Nat}{pt:Ud}(a e it:bc)(V:e≠it)(YM:a≠e)(YN:a≠it):Turn P w K (.Tuple es k pt) (HU K a) [e,it] e (λi h=>(∃ old,IsEnum h e it i old)/\h.IsListIter it a i) where
 mem:=by simp
 obj:=λi h st b hb=>by
  obtain⟨⟨old,d⟩,o,l,hc,hd⟩:=st;rcases fx.mp hb with rfl |hb
  ·exact⟨_,d,λv z=>by cases z⟩
  have:b=it:=#[17]
  subst this;exact⟨o,l,λv z=>by rw[hd] at z;cases z⟩
 keep:=λi h h' st kp=>by
  obtain⟨⟨old,d⟩,o,l,r⟩:=st;exact⟨⟨old,kp e #[3] _ d⟩,o,kp it #[3] o l,r⟩
 item:=by
  intro X n W M hc i j s Z H E I G st R;subst n W M;obtain⟨D,x,B,J⟩:=R;obtain⟨its,T,p,hz⟩:=I.list B;obtain⟨u,hu,ru⟩:=T.get J;obtain⟨⟨old,d⟩,g⟩:=st;have Nc:i<its.toArray.size:=by rw[f5];exact(ba.mp hu).1
  refine aax (Draws.list (A:=X.A.in1) (I.ok.hd hc) it a YN its.toArray) d ⟨g,p.isList⟩ Nc V (by simp[V,kg YM]) λy h' tk n l Vo hT hsz hk=>?_
  have ey:y=u:=by
   have:its.toArray[i]?=ag u:=by simpa using hu
   rw[this] at n;exact(h8 n).symm
  subst ey;refine⟨_,rfl,Zo (s:={ s with heap:=h',toks:=tk+1 }) l λF Vp N=>?_⟩;have hn:H s.heap.objs.size=a4:=I.fresh;obtain⟨L,Y,fe2,YO,YQ,YR⟩:=G e #[3];obtain⟨t,C,YS,S,U,O⟩:=G it #[3];have kp:∀ b o,b≠e->b≠it->#[19]=ag o->F.get? b=ag o:=λb o h1 QL f=>(N.2 b h1).trans (hk b o h1 QL f);have Wt:s.heap.objs.size≠e:=X2 (en d);have Q6:F.get? s.heap.objs.size=ag { cls:=.type "tuple",data:=.seq #[.int i tk,y] }:=(N.2 _ Wt).trans hT;have ne:∀ b o,H b=ag o->b≠s.heap.objs.size:=λb o q=>aM q hn
  have I1:Inv X j Z (upd H s.heap.objs.size (.tup [.int i,x])) { s with heap:=F,toks:=tk+1 }:=by
   refine I.step (h':=F) (g':=s.gens) (d':=s.drawn) (t':=tk+1) (ch:=[e,it]) (λb hb=>?_) (λb o _ _ hb f _=>kp b o (λz=>hb (by simp[z])) (λz=>hb (by simp[z])) f) (λb o _ _ hb f _=>⟨o.slots,kp b o (λz=>hb (by simp[z])) (λz=>hb (by simp[z])) f⟩)
    (λb o hb f n'=>by rw[aH (m3 (en f))];exact n') (λb o hb f=>⟨o,kp b o (λz=>hb (by simp[z])) (λz=>hb (by simp[z])) f⟩)
    (λb D q=>by rw[aH (ne b _ q)];exact q) (λb o D q=>by rw[aH (ne b _ q)];exact q) (λb ps q=>⟨#[],by rw[aH (ne b _ q),q];simp⟩)
    (λm hm=>?_) (λb o q=>?_) I.bare
   ·rcases fx.mp hb with rfl |hb
    ·exact⟨YO,Y,YQ,YR⟩
    have:b=it:=#[17]
    subst this;exact⟨S,C,U,O⟩
   ·obtain⟨o,es,ep,l,r⟩:=hm;exact⟨o,es,ep,kp _ o (kg Y) (kg C) l,r⟩
   by_cases hb:b=s.heap.objs.size
   ·subst hb;rw[LD] at q;cases q;exact⟨by show 2<=da;decide,[.int i tk,y],.cons ⟨tk,rfl⟩ (.cons ru .nil),_,Q6⟩
   rw[aH hb] at q;refine(I.LW b o q).OC (λc v Oz z=>kp c v ?_ ?_ z) (λc z=>by rw[aH (ne c _ z)];exact z) λc D z=>by rw[aH (ne c _ z)];exact z
   ·rcases Oz with z' |z'
    ·rw[z'];exact aM q L
    exact aM z' L
   rcases Oz with z' |z'
   ·rw[z'];exact aM q t
   exact aM z' t
  refine⟨#[16],_,I1,rfl,⟨_,x,hn,rfl,rfl,λys hy=>by rw[I.OD hy B];exact J⟩,⟨⟨y,Vp⟩,Vo.1.extBut N.extBut (kg V)⟩,λb hb=>?_⟩;rcases fx.mp hb with rfl |hb
  ·rw[aH (kg Wt)];exact L
  have:b=it:=#[17]
  subst this;obtain⟨o,Qe,_⟩:=g;rw[aH (m3 (en Qe))];exact t
 done:=by
  intro X n W M hc i j s Z H E I G st R;subst n W M;obtain⟨D,B,J⟩:=R;obtain⟨its,T,p,hz⟩:=I.list B;obtain⟨⟨old,d⟩,g⟩:=st;obtain⟨t,C,YS,S,U,O⟩:=G it #[3];have hl:=T.length;exact wpAny_pyNext_enum_end (I.ok.hd hc) d g p.isList (by simp;omega) λh' eb=>⟨rfl,I.turned (t':=s.toks) (λb o hb e=>eb b o hb e) t C S U O⟩
 self:=by
  intro A i s Q E st h;obtain⟨⟨old,d⟩,_⟩:=st;exact WX d h
theorem Walk.Ts {a:bc}{ds:ak D}{xs:ak V}{J:ak bc}{H:Hp}(t:LQ X.K H J a xs)(m:Ly X.K H J ds xs):Walk X (HU X.K a) (bi 0 ds) J H where
 len:=by rw[bH,m.length];exact t.len
 go:=λc g i x b=>by
  rw[bH] at b;have m1:=m.ex x;obtain⟨v,k,_⟩:=m1.get (a7 b);exact⟨xs,v,(t.ex x).sq,k⟩
 Qk:=λc g i v l x h b y=>by
  obtain⟨p,y,f,rfl,rfl,j⟩:=y;obtain⟨d,e,a⟩:=(m.ex x).get' (j xs (t.ex x).sq);refine⟨.tup [.int i,d],by rw[c9,e];simp,At.Ni (.cons (#[18]) (.cons a .nil)) f h (by show 2<=da;decide),aO f _⟩
 stop:=λc g i x b=>by
  rw[bH] at b;exact⟨xs,(t.ex x).sq,by rw[← m.length];exact b⟩
noncomputable def ye:ak D->a5 (ak D)
 |[.lst xs]=>ag (bi 0 xs)
 |_=>a4
theorem xk {es:ak gy}{k:Nat}{pt p:Ud}{a:gy}{t:Lk (ak D)}{x:el}(A:x="enumerate")(E:X.mg x=a4)(ha:SA X W [a] t)(N:Gl X x:=by rfl)
  (C:ek (a::[]) X.env=(a8,qa a X.env)::ek [] X.env:=by rfl) (F:(rb pos (ek [] X.env)).any (·.1)=a8:=by rfl):SI X W (.Tuple es k pt) (.Call (.Name x p) [a] [] pos) (gE ye t):=by
 subst A;intro c s q H R I h;refine Pd (jg I N E boot_enumerate ?_ #[2] #[2]);refine callWith_type1 (LO (ha pos c s q H _ I (i8 h)) λus d B=>?_) C F;obtain⟨V,i,f,G,J,S,P,Q,so,m,g,z⟩:=B;unfold ye at g;split at g
 ·rename_i Z;cases g;obtain⟨v,r,rfl,a1,n⟩:=Ly.Lv.mp m;cases Ly.Lz.mp n;obtain⟨ad,Y,rfl,j,O⟩:=At.LG.mp a1;obtain⟨u,rfl,M⟩:=vals1 G;cases M;obtain⟨its,T,pl,U⟩:=f.list j.sq;have w:ad<d.heap.objs.size:=by obtain⟨o,n,e,_⟩:=pl;exact en e
  refine call_enumerate_list pl.isList λy l it sz kp=>?_;have L:Inv X c q i { d with heap:=y }:=f.kept (t':=d.toks) kp;refine WX l ?_;refine⟨d.heap.objs.size+1,[d.heap.objs.size+1,d.heap.objs.size],_,HU X.K ad,i,rfl,L,w8 ad _ _ (X2 (Vm _)) (m3 (UJ w)) (m3 w),⟨⟨_,l⟩,it⟩,λb hb=>?_,z i _ (LH.refl _) (Walk.Ts j O)⟩;rcases fx.mp hb with rfl |hb
  ·exact f.Ot (abW _) (f.LW.fresh (abW _))
  have:b=d.heap.objs.size:=#[17]
  subst this;exact f.Ot (e9 _) f.fresh
 cases g
noncomputable def ug:ak D->a5 (ak D)
 |[.tup xs]=>ag (bi 0 xs)
 |[.lst xs]=>ag (bi 0 xs)
 |_=>a4
theorem BU {es:ak gy}{k:Nat}{pt p:Ud}{a:gy}{t:Lk (ak D)}{x:el}(d:x="enumerate")(g:X.mg x=a4)(ha:SA X W [a] t)(c:Gl X x:=by rfl)
  (f:ek (a::[]) X.env=(a8,qa a X.env)::ek [] X.env:=by rfl) (e:(rb pos (ek [] X.env)).any (·.1)=a8:=by rfl):SI X W (.Tuple es k pt) (.Call (.Name x p) [a] [] pos) (gE ug t):=by
 refine SI.either (oj d g ha c f e) (xk d g ha c f e) λi S=>?_;unfold gE;refine cz _ λh j=>?_;unfold ug j6 ye
 match h with
 |[.tup xs]=>exact #[9]
 |[.lst xs]=>exact .inr rfl
 |[]=>exact #[9]
 |[.LR]=>exact #[9]
 |[.bl _]=>exact #[9]
 |[.int _]=>exact #[9]
 |[.str _]=>exact #[9]
 |[.set _]=>exact #[9]
 |[.loc _]=>exact #[9]
 |[.fn _ _]=>exact #[9]
 |a::b::r=>cases a<;>exact #[9]
end
section
variable {X:Cx}{W:WT}{pos p:Ud}{e:gy}
noncomputable def Fs (c:el)(g:Lr->Lq->eM):Lk Fl:=λa S=>if g a S=a6 then ag (.error c,S) else a4
end
section
variable {X:Cx}{W:WT}{pos pos' p:Ud}{o i e:gy}{es:ak gy}{gs:Lk (ak D)}{fo fi fv fe:Lk D}{x:el}
noncomputable def j5 (x k v:D)(ρ:Lr)(S:Lq):Out Fl:=match k with
 | .int i=>(match x with
  | .loc l=>(match S[l]? with
   |ag (.lst xs)=>(match Ry xs.length i with
    |ag j=>LB (.next ρ) (S.set l (.lst (xs.set j v)))
    |a4=>a4)
   |_=>a4)
  |_=>a4)
 |_=>a4
noncomputable def z_ (fo fi fv:Lk D):Lk Fl:=λa S=>ai (fv a S) λv d=>ai (fo a d) λx b=>ai (fi a b) λk c=>j5 x k v a c
theorem Ly.set {K:Ll}{H:Hp}{J:ak bc}{d:D}{v:V}(a:At K H J d v):∀ {ds:ak D}{vs:ak V}(j:Nat),Ly K H J ds vs->Ly K H J (ds.set j d) (vs.set j v)
 |[],vs,j,m=>by cases Ly.Lz.mp m;exact m
 |e::ds,vs,j,m=>by
  obtain⟨u,r,rfl,m1,m2⟩:=Ly.Lv.mp m;cases j with
  |zero=>exact .cons a m2
  |succ j=>exact .cons m1 (Ly.set a j m2)
theorem D6 (N:SE X W o fo)(Q:SE X W i fi)(M:SE X W e fv)(D:ab6 [.Subscript o i pos'] e pos.line X.env=wh a8:=by rfl)(B:ab7 [.Subscript o i pos'] e X.env=wh a4:=by rfl)
  (f:(RY [.Subscript o i pos'] X.env).map (·.2)=[WA (.Subscript o i pos') X.env]:=by rfl)
  (ha:∀ v,WA (.Subscript o i pos') X.env v=(do
   let b ← Vk [v] (qa o X.env);let n ← Vk [v,b] (qa i X.env)
   abS pos'
   Vk [v,b,n] (abT b n v)
   release [v,b,n] []):=by intro _;rfl):SS X W (.Assign [.Subscript o i pos'] e pos) (z_ fo fi fv):=
 (Cb M (GO N Q set_list ha) D B f).imp λE t H h=>by
  have h:tH X W [] [] (z_ fo fi fv) E t H:=let ⟨J,g,S,r,d,c,e,z⟩:=h;⟨J,g,S,r,d,c,.nil,e,z⟩;refine(tH.LC h).mono λv Z ⟨u,f⟩=>(tH.LC f).mono λx Y ⟨s,P⟩=>(tH.LC P).mono λy T ⟨A,F⟩=>?_;obtain⟨J,g,S,r,d,c,m,e,z⟩:=F;obtain⟨mk,m⟩:=m.LA;obtain⟨G,m⟩:=m.LA;obtain⟨L,_⟩:=m.LA;have e:j5 s A u g S=ag (r,d):=e;unfold j5 at e;cases A with
  |int k =>
   cases s with
   |loc l =>
    simp only at e;rw[1]
    ·rename_i O es;rw[1]
     ·rename_i j R;cases e;obtain⟨a,rfl,ha⟩:=At.LI.mp G;obtain⟨w,C,q⟩:=c.L0.at_ l a _ ha es;cases At.Lu.mp mk;have up:=c.L0.update (o:=.lst (w.set j v)) (mo:=.lst (O.set j u)) ha λV U p I K=>by subst I K;exact⟨_,LD,Ly.set (L.ex p) j (q.ex p)⟩
      exact⟨a,w,k,j,rfl,rfl,C,by rw[← q.length];exact R,z J t _ up.2 (c.re up.2 up.1)⟩
     cases e
    cases e
   |_=>cases e
  |_=>cases e
end
def FE (K:Ll)(x qual:el)(st:qb)(f:bc):Prop:=∃ fd,QX K x qual st f fd
def BD (x qual:el)(st:qb)(b:ak el):Prop:=∀ (kV doc c:ax) (e:a5 bc) (d ct:ax) (a:ak ax),a.length=b.length->UY (K2 x qual (dZ st) (bQ st) (aq st) .none kV doc c e d ct) ⟨a,[]⟩=wh (b.zip a)
section
variable {P:ak ax->Prop}{us:ak ax}
theorem us0 (h:us.length=0)(k:P []):P us:=by rw[So.mp h];exact k
theorem DU {n:Nat}(h:us.length=n+1)(k:∀ a r,r.length=n->P (a::r)):P us:=by
 cases us with
 |nil=>cases h
 |cons a r=>exact k a r (Nat.succ.inj h)
theorem us1 (h:us.length=1)(k:∀ a,P [a]):P us:=DU h λa _ h=>us0 (P:=λr=>P (a::r)) h (k a)
theorem T7 (h:us.length=2)(k:∀ a b,P [a,b]):P us:=DU h λa _ h=>us1 (P:=λr=>P (a::r)) h (k a)
theorem us3 (h:us.length=3)(k:∀ a b c,P [a,b,c]):P us:=DU h λa _ h=>T7 (P:=λr=>P (a::r)) h (k a)
theorem us4 (h:us.length=4)(k:∀ a b c d,P [a,b,c,d]):P us:=DU h λa _ h=>us3 (P:=λr=>P (a::r)) h (k a)
end
section
variable {x qual:el}{st:qb}{p1 p2 p3 p4 p5 p6:el}
theorem Y6 (h:∀ (kV doc b:ax) (d:a5 bc) (c ct:ax) (a:ax),UY (K2 x qual (dZ st) (bQ st) (aq st) .none kV doc b d c ct) ⟨[a],[]⟩=wh [(p1,a)]):BD x qual st [p1]:=λkV doc b d c ct e f=>us1 (P:=λe=>UY _ ⟨e,[]⟩=wh (abG [p1] e)) f λa=>(h kV doc b d c ct a)
theorem Y7 (h:∀ (kV doc c:ax) (e:a5 bc) (d ct:ax) (a b:ax),UY (K2 x qual (dZ st) (bQ st) (aq st) .none kV doc c e d ct) ⟨[a,b],[]⟩=wh [(p1,a),(p2,b)]):BD x qual st [p1,p2]:=λkV doc c e d ct f g=>T7 (P:=λf=>UY _ ⟨f,[]⟩=wh (abG [p1,p2] f)) g λa b=>(h kV doc c e d ct a b)
theorem Y8 (h:∀ (kV doc d:ax) (f:a5 bc) (e ct:ax) (a b c:ax),UY (K2 x qual (dZ st) (bQ st) (aq st) .none kV doc d f e ct) ⟨[a,b,c],[]⟩=wh [(p1,a),(p2,b),(p3,c)]):BD x qual st [p1,p2,p3]:=λkV doc d f e ct g i=>us3 (P:=λg=>UY _ ⟨g,[]⟩=wh (abG [p1,p2,p3] g)) i λa b c=>(h kV doc d f e ct a b c)
theorem Y9 (h:∀ (kV doc e:ax) (g:a5 bc) (f ct:ax) (a b c d:ax),UY (K2 x qual (dZ st) (bQ st) (aq st) .none kV doc e g f ct) ⟨[a,b,c,d],[]⟩=wh [(p1,a),(p2,b),(p3,c),(p4,d)]):BD x qual st [p1,p2,p3,p4]:=λkV doc e g f ct i j=>us4 (P:=λi=>UY _ ⟨i,[]⟩=wh (abG [p1,p2,p3,p4] i)) j λa b c d=>(h kV doc e g f ct a b c d)
end
section
variable {K:Ll}{h:ja}{mg:Lo}{x m c qual:el}{st:qb}{ps:ak el}{f C:bc}
theorem fE {e:ax}{d h:a5 bc}{g:hO (a5 ax)}{kV doc b a ct:ax}(l:K.lookup f=ag ⟨e,d,.func (K2 x qual (dZ st) (bQ st) (aq st) .none kV doc b h a ct),g⟩)
  (c:Ze K a qual=a6) (k:Qo K (.ref f)=a6):FE K x qual st f:=⟨_,Hj l c k⟩
theorem dAt (X:K.In h)(G:h.Ns my mg)(a:RE K my x=ag (ag (.ref f)))(q:FE K x x st f)(b:BD x x st ps):bf K mg x st ps:=
 adt q λfd F=>⟨f,fd,F,aej X G a,F.binds b⟩
abbrev NC (K:Ll)(c:el)(C:bc):Prop:=RE K my c=ag (ag (.ref C))/\Qm K C
theorem mAt (n:NC K c C)(a:pz K (.ref C) m=ag (ag (.ref f)))(i:YH K (.ref f)=a6)(q:FE K m qual st f)(b:BD m qual st ps):MethAt K c m qual st ps:=
 adt q λfd F=>⟨C,f,fd,n.1,n.2,⟨a,i,F.kp⟩,F,F.binds b⟩
theorem kAt (X:K.In h)(G:h.Ns my mg)(n:NC K c C)(d:aa9 K C=a6)(e:Qo K (.ref C)=a6)(a:pz K (.ref C) "__init__"=ag (ag (.ref f)))(i:YH K (.ref f)=a6)(q:FE K "__init__" qual st f)(b:BD "__init__" qual st ps):HR K mg c qual st ps:=
 adt q λfd F=>⟨C,f,fd,n.1,aej X G n.1,⟨d,a,i,e⟩,F,F.binds b⟩
end
section
variable {prog:e8}{w:hL}{A:iv}{E:Lm}{s:bo}
structure ZA (z TI TO i1 i2:bc) (f1 f2:ak bc):Prop where
 m1:i1∈f1
 m2:i2∈f2
 z1:z∉f1
 z2:z∉f2
 o1:TO∉f1
 o2:TO∉f2
 x1:i2∉f1
 x2:i1∉f2
 oz:TO≠z
 tz:TI≠z
 to:TI≠TO
 t1:TI∉f1
 t2:TI∉f2
variable {z TI TO i1 i2:bc}{f1 f2:ak bc}{n1 n2:Nat}{P1 P2:Nat->ax->Prop}{S1 S2:Nat->ja->Prop}{a b:ax}
theorem ZA.ne1 (D:ZA z TI TO i1 i2 f1 f2):i1≠z/\i1≠TO/\i1≠i2/\i2≠z/\i2≠TO/\TI≠i1/\TI≠i2:=
 ⟨λe=>D.z1 (e▸D.m1),λe=>D.o1 (e▸D.m1),λe=>D.x1 (e▸D.m1),λe=>D.z2 (e▸D.m2),λe=>D.o2 (e▸D.m2),λe=>D.t1 (e▸D.m1),λe=>D.t2 (e▸D.m2)⟩
theorem dm {x y:bc}{l:ak bc}(h:x∉l)(g:y∈l):y≠x:=λe=>h (e▸g)
theorem BE (D:ZA z TI TO i1 i2 f1 f2)(u:Draws prog w A i1 f1 n1 P1 S1)(t:Draws prog w A i2 f2 n2 P2 S2){j k:Nat}(hj:j<n1)(hk:k<n2){Q:Lm}
  (hz:aaB s.heap z TI TO .none) (X:VX s.heap TI (.ref i1) (.ref i2)) (Za:VX s.heap TO a b) (t1:S1 j s.heap) (t2:S2 k s.heap)
  (hQ:∀ x y h' tk,P1 j x->P2 k y->aaB h' z TI TO (aaJ s.heap.objs.size)->VX h' TO x y->S1 (j+1) h'->S2 (k+1) h'->VX h' s.heap.objs.size x y->h'.objs.size=#[15] ->
   (∀ c o,c≠z->c≠TO->c≠i1->c≠i2->s.heap.get? c=ag o->h'.get? c=ag o)->Q (#[16]) { s with heap:=h',toks:=tk }) :
  dr #[5] A (Builtin.«zip.__next__» ⟨[.ref z],[]⟩) (λfin s' => ∃ v,fin = .done (.ret v)/\Q v s') E s:=by
 obtain⟨W,V,e3,U,Z,e6,e7⟩:=D.ne1;show dr _ _ (adm (.ref z) 2 >>= _) _ _ _;refine av (sA (x:=.bool a8) hz rfl rfl ?_);show dr _ _ (adm (.ref z) 3 >>= _) _ _ _;refine av (sA (x:=.ref TI) hz rfl rfl (av (zv X rfl ?_)));show dr _ _ (A2 (.ref z) >>= _) _ _ _;unfold A2;refine av (av (sA (x:=.none) hz rfl rfl (ay ?_)));simp only[mz];refine av (O8 (av (sA (x:=.ref TO) hz rfl rfl (av (Uz hz #[3] λha L g=>av ?_)))));have L:aaB ha z TI TO .ellipsis:=L;simp only[abH,adz,XQ,aaw];refine av (av (aaj ?_));show dr _ _ (o4 (.ref i1) >>= _) _ _ _;refine av (u.item j _ _ _ hj (u.frame _ _ _ t1 λc hc o e=>g.extBut _ _ (dm D.z1 hc) e) λx hb tb px K m=>ay ?_);have R:VX hb TO a b:=m.extBut _ _ (kg V) (g.extBut _ _ D.oz Za);refine av (zv R rfl (av (X6 R λhc M n=>av (adu (ay ?_)))));have M:VX hc TO x b:=M;refine av (av (aaj ?_));show dr _ _ (o4 (.ref i2) >>= _) _ _ _;have Zb:S2 k hc:=t.frame _ _ _ t2 λc f o e=>n.extBut _ _ (dm D.o2 f) (m.extBut _ _ (dm D.x2 f) (g.extBut _ _ (dm D.z2 f) e));refine av (t.item k _ _ _ hk Zb λy hd td py J l=>ay ?_);have S:VX hd TO x b:=l.extBut _ _ (kg Z) M;refine av (zv S rfl (av (X6 S λd r h=>av (adu (ay (ay ?_))))));have r:VX d TO x y:=r;refine av (zv r rfl (av (abD ?_)));have sz:d.objs.size=s.heap.objs.size:=by rw[h.1,l.1,n.1,m.1,g.1]
 have all:∀ c o,c≠z->c≠TO->c≠i1->c≠i2->s.heap.get? c=ag o->d.get? c=ag o:=λc o C B I H e=>h.extBut _ _ B (l.extBut _ _ H (n.extBut _ _ B (m.extBut _ _ I (g.extBut _ _ C e))));have T:aaB d z TI TO .ellipsis:=h.extBut _ _ (kg D.oz) (l.extBut _ _ (kg U) (n.extBut _ _ (kg D.oz) (m.extBut _ _ (kg W) L)));have F:S1 (j+1) d:=u.frame _ _ _ K λc f o e=>h.extBut _ _ (dm D.o1 f) (l.extBut _ _ (dm D.x1 f) (n.extBut _ _ (dm D.o1 f) e));have O:S2 (k+1) d:=t.frame _ _ _ J λc f o e=>h.extBut _ _ (dm D.o2 f) e;have P:z<d.objs.size:=en T;show dr _ _ (VY (.ref z) (.ref d.objs.size) >>= _) _ _ _;unfold VY;have zf:aaB (d.push { cls:=.type "tuple",data:=.seq #[x,y] }) z TI TO .ellipsis:=a9 _ T;refine av (av (Uz zf #[3] λY zg G=>Uz (show aaB Y z TI TO (aaJ d.objs.size) from zg) #[3] λi p N=>ay ⟨_,rfl,?_⟩));have p:aaB i z TI TO (aaJ d.objs.size):=p;have up:∀ c o,c≠z->d.get? c=ag o->i.get? c=ag o:=λc o q e=>N.extBut _ _ q (G.extBut _ _ q (a9 _ e));have new:VX i d.objs.size x y:=N.extBut _ _ (X2 P) (G.extBut _ _ (X2 P) (er _ rfl));have size:i.objs.size=d.objs.size+1:=by rw[N.1,G.1,nC]
 show Q (.ref d.objs.size) _;rw[sz] at p new size ⊢;exact hQ x y i _ px py p (up _ _ D.oz r) (u.frame _ _ _ F λc f o e=>up c o (dm D.z1 f) e) (t.frame _ _ _ O λc f o e=>up c o (dm D.z2 f) e) new size λc o C B I H e=>up c o C (all c o C B I H e)
theorem DN (D:ZA z TI TO i1 i2 f1 f2)(y:Draws prog w A i1 f1 n1 P1 S1)(I:Draws prog w A i2 f2 n2 P2 S2){j k:Nat}(Zc:j=n1∨(j<n1/\k=n2)){Q:Fin->bo->Prop}
  (hz:aaB s.heap z TI TO .none) (Z:VX s.heap TI (.ref i1) (.ref i2)) (Y:VX s.heap TO a b) (t1:S1 j s.heap) (t2:S2 k s.heap)
  (hE:∀ h' e tk,(∀ c o,c≠z->c≠TO->c≠i1->c≠i2->s.heap.get? c=ag o->h'.get? c=ag o)->(∃ o,h'.get? e=ag o/\o.cls = .type "StopIteration")->E (.ref e) { s with heap:=h',toks:=tk }) :
  dr #[5] A (Builtin.«zip.__next__» ⟨[.ref z],[]⟩) Q E s:=by
 obtain⟨H,T,e3,U,e5,e6,e7⟩:=D.ne1;show dr _ _ (adm (.ref z) 2 >>= _) _ _ _;refine av (sA (x:=.bool a8) hz rfl rfl ?_);show dr _ _ (adm (.ref z) 3 >>= _) _ _ _;refine av (sA (x:=.ref TI) hz rfl rfl (av (zv Z rfl ?_)));show dr _ _ (A2 (.ref z) >>= _) _ _ _;unfold A2;refine av (av (sA (x:=.none) hz rfl rfl (ay ?_)));simp only[mz];refine av (O8 (av (sA (x:=.ref TO) hz rfl rfl (av (Uz hz #[3] λM n m=>av ?_)))));have n:aaB M z TI TO .ellipsis:=n
 have stop:∀ (h:ja) (L:aaB h z TI TO .ellipsis) (e:bc) (tk:Nat) (d:ja) (C:bc),z≠C->adn C h d->(∃ o,d.get? e=ag o/\o.cls = .type "StopIteration")->(∀ c o,c≠z->c≠TO->c≠i1->c≠i2->s.heap.get? c=ag o->d.get? c=ag o) ->
   dr #[5] A (setField (.ref z) 0 .none) (λ_ R=>E (.ref e) R) E { s with heap:=d,toks:=tk }:=by
  rintro h L e tk d C MQ kx ⟨V,v,K⟩ X;have z2:aaB d z TI TO .ellipsis:=kx _ _ MQ L;have F:e≠z:=λq=>by subst q;rw[z2] at v;cases v;simp at K
  exact Uz z2 #[3] λS _ N=>hE S e tk (λc o f r l p x=>N.extBut _ _ f (X c o f r l p x)) ⟨V,N.extBut _ _ F v,K⟩
 simp only[abH,adz,XQ,aaw];refine av (av (aaj ?_));show dr _ _ (o4 (.ref i1) >>= _) _ _ _;have i:=y.frame _ _ _ t1 λc hc o e=>m.extBut c o (dm D.z1 hc) e;rcases Zc with rfl |⟨O,rfl⟩
 ·refine av (y.done _ _ _ i λd e g u=>?_);exact stop M n e s.toks d i1 (kg H) g u λc o f r l p x=>g _ _ l (m.extBut _ _ f x)
 refine av (y.item j _ _ _ O i λx hb P px tb1 t=>ay ?_);have J:VX hb TO a b:=t.extBut _ _ (kg T) (m.extBut _ _ D.oz Y);refine av (zv J rfl (av (X6 J λhc oc G=>av (adu (ay ?_)))));refine av (av (aaj ?_));show dr _ _ (o4 (.ref i2) >>= _) _ _ _;have W:=I.frame _ _ _ t2 λc B o e=>G.extBut c o (dm D.o2 B) (t.extBut _ _ (dm D.x2 B) (m.extBut _ _ (dm D.z2 B) e));have zc:aaB hc z TI TO .ellipsis:=G.extBut _ _ (kg D.oz) (t.extBut _ _ (kg H) n);refine av (I.done _ _ _ W λd e g u=>?_);exact stop hc zc e P d i2 (kg U) g u λc o f r l p x=>g _ _ p (G.extBut _ _ r (t.extBut _ _ l (m.extBut _ _ f x)))
end
def PQ (k:eM)(h:ja)(a:bc)(items:hO ax):Prop:=match k with
 |a6=>h.IsTuple a items
 |a8=>h.IsList a items
def RG (k:eM)(h:ja)(it a:bc)(i:Nat):Prop:=match k with
 |a6=>h.IsTupleIter it a i
 |a8=>h.IsListIter it a i
noncomputable def T8 (k:eM)(a:bc):Obj:=match k with
 |a6 => { cls:=.type "tuple_iterator",data:=.fields #[.ref a,.int 0 0] }
 |a8 => { cls:=.type "list_iterator",data:=.fields #[.ref a,.int 0 0] }
section
variable {prog:e8}{w:hL}{A:iv}{E:Lm}{s:bo}
theorem PQ.keep {k:eM}{h h':ja}{a:bc}{items:hO ax}(x:PQ k h a items)(e:∀ o,h.get? a=ag o->h'.get? a=ag o):PQ k h' a items:=by
 cases k with
 |true=>obtain⟨o,b,r⟩:=(x:h.IsTuple a items);exact⟨o,e o b,r⟩
 |false=>obtain⟨o,b,r⟩:=(x:h.IsList a items);exact⟨o,e o b,r⟩
theorem RG.keep {k:eM}{h h':ja}{it a:bc}{i:Nat}(x:RG k h it a i)(e:∀ o,h.get? it=ag o->h'.get? it=ag o):RG k h' it a i:=by
 cases k with
 |true=>obtain⟨o,b,r⟩:=(x:h.IsTupleIter it a i);exact⟨o,e o b,r⟩
 |false=>obtain⟨o,b,r⟩:=(x:h.IsListIter it a i);exact⟨o,e o b,r⟩
theorem RG.obj {k:eM}{h:ja}{it a:bc}{i:Nat}(x:RG k h it a i):∃ o,h.get? it=ag o/\∀ v,o.data≠.cell v:=by
 cases k with
 |true=>obtain⟨o,b,_,hd⟩:=(x:h.IsTupleIter it a i);exact⟨o,b,λv z=>by rw[hd] at z;cases z⟩
 |false=>obtain⟨o,b,_,hd⟩:=(x:h.IsListIter it a i);exact⟨o,b,λv z=>by rw[hd] at z;cases z⟩
theorem PQ.lt {k:eM}{h:ja}{a:bc}{items:hO ax}(x:PQ k h a items):a<h.objs.size:=by
 cases k with
 |true=>obtain⟨o,b,_⟩:=(x:h.IsTuple a items);exact en b
 |false=>obtain⟨o,b,_⟩:=(x:h.IsList a items);exact en b
theorem Draws.seq (k:eM)(c:A.handled=a4)(it a:bc)(b:a≠it)(items:hO ax):Draws prog w A it [it,a] items.size (λi v=>items[i]?=ag v) (λi h=>RG k h it a i/\PQ k h a items):=by
 cases k with
 |true=>exact Draws.tup c it a b items
 |false=>exact Draws.list c it a b items
theorem yU {k:eM}{a:bc}{items:hO ax}{Q:Lm}(x:PQ k s.heap a items)(h:Q (#[16]) { s with heap:=s.heap.push (T8 k a) }):dr #[5] A (acg (.ref a)) Q E s:=by
 cases k with
 |true=>exact Um (show s.heap.IsTuple a items from x) h
 |false=>exact wpAny_pyIter_list (show s.heap.IsList a items from x) h
end
abbrev WJ (k1:eM)(h:ja)(a:bc):ja:=h.push (T8 k1 a)
abbrev WK (k1 k2:eM)(h:ja)(a b:bc):ja:=(WJ k1 h a).push (T8 k2 b)
abbrev WL (k1 k2:eM)(h:ja)(a b:bc):ja:=(WK k1 k2 h a b).push { cls:=.type "tuple",data:=.seq #[.ref h.objs.size,.ref (WJ k1 h a).objs.size] }
abbrev WM (k1 k2:eM)(h:ja)(a b:bc):ja:=(WL k1 k2 h a b).push { cls:=.type "tuple",data:=.seq #[.none,.none] }
abbrev RH (k1 k2:eM)(h:ja)(a b:bc):ja:=(WM k1 k2 h a b).push { cls:=.type "zip",data:=.fields #[.none,.bool a8,.bool a8,.ref (WK k1 k2 h a b).objs.size,.ref (WL k1 k2 h a b).objs.size] }
theorem DM (f c:eM)(a b:bc)(xs ys:hO ax):Meets (Builtin.«zip.__new__» ⟨[.type "zip",.ref a,.ref b],[]⟩) (λ_ R s=>PQ f s.heap a xs/\PQ c s.heap b ys /\
   R (.ok (.ret (.ref (WM f c s.heap a b).objs.size))) { s with heap:=RH f c s.heap a b }):=
 .of_wp λprog w A R s h=>by
  obtain⟨i,g,d,tk,os⟩:=s;obtain⟨k,hb,h⟩:=h;have l:=sub_zip;have ga:PQ f (adp ⟨i,g,d,tk,os⟩) a xs:=k;have j:PQ c (adp ⟨i.push (T8 f a),g,d,tk,os⟩) b ys:=PQ.keep (show PQ c i b ys from hb) λo e=>a9 _ e
  wp_walk using yU ga,yU j
  exact⟨_,rfl,h⟩
section
variable {prog:e8}{w:hL}{A:iv}{E:Lm}{s:bo}
theorem Bv {d f:eM}{a b:bc}{xs ys:hO ax}{Q:Lm}(ha:PQ d s.heap a xs)(hb:PQ f s.heap b ys)
  (h:∀ h',aaB h' (s.heap.objs.size+4) (s.heap.objs.size+2) (s.heap.objs.size+3) .none->VX h' (s.heap.objs.size+2) (#[16]) (.ref (#[15])) ->
   VX h' (s.heap.objs.size+3) .none .none->RG d h' s.heap.objs.size a 0->RG f h' (#[15]) b 0->(∀ c o,s.heap.get? c=ag o->h'.get? c=ag o)->Q (.ref (s.heap.objs.size+4)) { s with heap:=h' }) :
  dr #[5] A (call (.type "zip") [.ref a,.ref b]) Q E s:=by
 refine callType_new F.called_zip #[2] (F.typeCall_zip_2 _ _) (F.newCall_zip_2 _ _) (λobj=>F.args_object_init_3 obj _ _) F.entry_zip_new (DM d f a b xs ys) ⟨ha,hb,?_⟩;have t:(WJ d s.heap a).objs.size=#[15]:=nC ..;have r:(WK d f s.heap a b).objs.size=s.heap.objs.size+2:=by rw[nC,t]
 have q:(WL d f s.heap a b).objs.size=s.heap.objs.size+3:=by rw[nC,r]
 have v:(WM d f s.heap a b).objs.size=s.heap.objs.size+4:=by rw[nC,q]
 have up1:∀ c o,(WM d f s.heap a b).get? c=ag o->(RH d f s.heap a b).get? c=ag o:=λc o e=>a9 _ e;have l:∀ c o,(WL d f s.heap a b).get? c=ag o->(RH d f s.heap a b).get? c=ag o:=λc o e=>up1 _ _ (a9 _ e);have j:∀ c o,(WK d f s.heap a b).get? c=ag o->(RH d f s.heap a b).get? c=ag o:=λc o e=>l _ _ (a9 _ e);have g:∀ c o,(WJ d s.heap a).get? c=ag o->(RH d f s.heap a b).get? c=ag o:=λc o e=>j _ _ (a9 _ e);have m:(RH d f s.heap a b).get? (WM d f s.heap a b).objs.size=ag _:=er _ rfl;have u:(RH d f s.heap a b).get? (WL d f s.heap a b).objs.size=ag _:=up1 _ _ (er _ rfl);have n:(RH d f s.heap a b).get? (WK d f s.heap a b).objs.size=ag _:=l _ _ (er _ rfl);have fr:∀ k c,(T8 k c).isFreed=a8:=λk c=>by cases k<;>rfl
 have p:(RH d f s.heap a b).get? (WJ d s.heap a).objs.size=ag (T8 f b):=j _ _ (er _ (fr f b));have y:(RH d f s.heap a b).get? s.heap.objs.size=ag (T8 d a):=g _ _ (er _ (fr d a))
 have it:∀ (k:eM) (c i:bc),(RH d f s.heap a b).get? i=ag (T8 k c)->RG k (RH d f s.heap a b) i c 0:=λk c i e=>by
  cases k with
  |true=>exact⟨_,e,rfl,rfl⟩
  |false=>exact⟨_,e,rfl,rfl⟩
 show _/\_;rw[v] at m ⊢;rw[q] at u m;rw[r] at n m;rw[t] at p n;exact⟨⟨_,m,rfl⟩,h _ m n u (it _ _ _ y) (it _ _ _ p) λc o x=>g _ _ (a9 _ x)⟩
end
def RI (k:eM)(K:Ll)(H:Hp)(a:bc)(xs:ak V):Prop:=match k with
 |a6=>O2 K H a xs
 |a8=>Oq K H a xs
section
variable {X:Cx}{pins:Ln}{σ:St}{H:Hp}{s:bo}
theorem Inv.Q_ {k:eM}{a:bc}{xs:ak V}(I:#[10])(h:RI k X.K H a xs):∃ its:ak ax,Vals xs its/\PQ k s.heap a its.toArray:=by
 cases k with
 |true=>obtain⟨its,r,p,_⟩:=I.tuple h;exact⟨its,r,p⟩
 |false=>obtain⟨its,r,⟨o,n,b,hc,_,hd⟩,_⟩:=I.list h;exact⟨its,r,o,b,hc,n,hd⟩
theorem Inv.P9 {k:eM}{a:bc}{xs ys:ak V}(I:#[10])(h:RI k X.K H a xs)(h':RI k X.K H a ys):xs=ys:=by
 cases k with
 |true=>exact I.N9 h h'
 |false=>exact I.OD h h'
end
theorem PQ.ne {k:eM}{h:ja}{a it c:bc}{items:hO ax}{i:Nat}(x:PQ k h a items)(y:RG k h it c i):a≠it:=λe=>by
 subst e;cases k with
 |true =>
  obtain⟨o1,g,f,_⟩:=(x:h.IsTuple a items);obtain⟨o2,d,b,_⟩:=(y:h.IsTupleIter a c i);rw[g] at d;cases d;rw[f] at b;exact ib b #[3]
 |false =>
  obtain⟨o1,g,f,_⟩:=(x:h.IsList a items);obtain⟨o2,d,b,_⟩:=(y:h.IsListIter a c i);rw[g] at d;cases d;rw[f] at b;exact ib b #[3]
noncomputable def Zd (K:Ll)(f e:eM)(a b:bc)(n1 n2:Nat):It:=
 ⟨λi H=>i<n1/\i<n2/\∃ d c,RI f K H a d/\RI e K H b c/\d.length=n1/\c.length=n2,
  λi H v g => ∃ p x y,H p=a4/\v = .ref p/\g=upd H p (.tup [x,y])/\(∀ d,RI f K H a d->d[i]?=ag x)/\∀ c,RI e K H b c->c[i]?=ag y,
  λi H=>(n1<=i∨n2<=i)/\∃ d c,RI f K H a d/\RI e K H b c/\d.length=n1/\c.length=n2⟩
structure ZSt (k1 k2:eM) (a b z TI TO i1 i2:bc) (n1 n2 i:Nat) (h:ja):Prop where
 zip:aaB h z TI TO .none
 its:VX h TI (.ref i1) (.ref i2)
 out:∃ u v,VX h TO u v
 fst:RG k1 h i1 a i
 snd:RG k2 h i2 b i
 le1:i<=n1
 le2:i<=n2
theorem BK {P:e8}{w:hL}{K:Ll}{es:ak gy}{kk:Nat}{pt:Ud}(k1 B:eM)(a b z TI TO g f:bc)(n1 n2:Nat)(D:ZA z TI TO g f [g,a] [f,b]) :
  Turn P w K (.Tuple es kk pt) (Zd K k1 B a b n1 n2) [z,TI,TO,g,f] z (ZSt k1 B a b z TI TO g f n1 n2) where
 mem:=by simp
 obj:=λi h st c hc=>by
  simp only[fx,X8,abI] at hc;rcases hc with rfl |rfl |rfl |rfl |rfl
  ·exact⟨_,st.zip,λv q=>by cases q⟩
  ·exact⟨_,st.its,λv q=>by cases q⟩
  ·obtain⟨u,v,e⟩:=st.out;exact⟨_,e,λv q=>by cases q⟩
  ·exact st.fst.obj
  exact st.snd.obj
 keep:=λi h h' st kp=>by
  obtain⟨u,v,e⟩:=st.out;exact⟨kp _ #[3] _ st.zip,kp _ #[3] _ st.its,⟨u,v,kp _ #[3] _ e⟩,st.fst.keep λo e=>kp _ #[3] o e,st.snd.keep λo e=>kp _ #[3] o e,st.le1,st.le2⟩
 item:=by
  intro X hP hw hK hc i C s σ H E I l st hg;subst hP hw hK;obtain⟨l1,l2,J,ys,V,W,lx,ly⟩:=hg;obtain⟨L,ru,S⟩:=I.Q_ V;obtain⟨N,rv,pv⟩:=I.Q_ W;obtain⟨u0,v0,Y⟩:=st.out;have su:L.toArray.size=n1:=by rw[f5,← ru.length,lx]
  have sv:N.toArray.size=n2:=by rw[f5,← rv.length,ly]
  have ne1:a≠g:=S.ne st.fst;have G:b≠f:=pv.ne st.snd;have U:s.TypeIs (.ref z) "zip":=⟨_,st.zip,rfl⟩;unfold aaI;refine av (V3 (r0 (name:=Vz "__next__") U F.slot_zip_next (mi F.slot_zip_next U F.entry_zip_next ?_ (F.args_zip_next_1 _))))
  refine BE D (Draws.seq (A:=X.A.in1) k1 (I.ok.hd hc) g a ne1 L.toArray) (Draws.seq (A:=X.A.in1) B (I.ok.hd hc) f b G N.toArray) (j:=i) (k:=i) #[0] #[0] st.zip st.its Y ⟨st.fst,S⟩ ⟨st.snd,pv⟩
   λu v h' tk hu hv z' o' f' g' new size kp=>ay ⟨_,rfl,wpAny_letOwnedTupleGo_zip (s:={ s with heap:=h',toks:=tk }) z' λM z2 B=>?_⟩
  have hu:L[i]?=ag u:=by simpa using hu
  have hv:N[i]?=ag v:=by simpa using hv
  obtain⟨x,ex⟩:∃ x,J[i]?=ag x:=⟨_,a7 #[0]⟩;obtain⟨y,ey⟩:∃ y,ys[i]?=ag y:=⟨_,a7 #[0]⟩;obtain⟨u',e1,rx⟩:=ru.get ex;rw[hu] at e1;cases e1;obtain⟨v',e2,ry⟩:=rv.get ey;rw[hv] at e2;cases e2;have hn:H s.heap.objs.size=a4:=I.fresh;have kq:∀ c o,c≠z->c≠TO->c≠g->c≠f->s.heap.get? c=ag o->M.get? c=ag o:=λc o q1 q2 q3 q4 e=>(B.2 c q1).trans (kp c o q1 q2 q3 q4 e);have nz:s.heap.objs.size≠z:=X2 (en st.zip);have Q6:VX M s.heap.objs.size u v:=(B.2 _ nz).trans new;have R:∀ c o,H c=ag o->c≠s.heap.objs.size:=λc o q=>aM q hn
  have O:∀ c∈[z,TO,g,f],c∈[z,TI,TO,g,f]:=λc hc=>by
   simp only[fx,X8,abI] at hc ⊢;rcases hc with h |h |h |h
   ·exact .inl h
   ·exact .inr (.inr (.inl h))
   ·exact .inr (.inr (.inr (.inl h)))
   exact .inr (.inr (.inr (.inr h)))
  have Z:∀ {c:bc},c∉[z,TO,g,f]->c≠z/\c≠TO/\c≠g/\c≠f:=λ{c} h=>by simpa using h
  have t:∀ c o,c∉[z,TO,g,f]->s.heap.get? c=ag o->M.get? c=ag o:=λc o h e=>kq c o (Z h).1 (Z h).2.1 (Z h).2.2.1 (Z h).2.2.2 e;have out:∀ c o,H c=ag o->c∉[z,TO,g,f]:=λc o q hc=>by have:=(l c (O c hc)).1;rw[this] at q;cases q
  have I1:Inv X C σ (upd H s.heap.objs.size (.tup [x,y])) { s with heap:=M,toks:=tk }:=by
   refine I.step (h':=M) (g':=s.gens) (d':=s.drawn) (t':=tk) (ch:=[z,TO,g,f]) (λc hc=>?_) (λc o _ _ hc e _=>t c o hc e) (λc o _ _ hc e _=>⟨o.slots,t c o hc e⟩)
    (λc o _ e n'=>by rw[aH (m3 (en e))];exact n') (λc o hc e=>⟨o,t c o hc e⟩)
    (λc J q=>by rw[aH (R c _ q)];exact q) (λc o J q=>by rw[aH (R c _ q)];exact q) (λc ps q=>⟨#[],by rw[aH (R c _ q),q];simp⟩)
    (λm hm=>?_) (λc o q=>?_) I.bare
   ·obtain⟨_,g1,_,g3,g4,g5⟩:=l c (O c hc);exact⟨g3,g1,g4,g5⟩
   ·obtain⟨o,es,ep,p,r⟩:=hm;exact⟨o,es,ep,kq _ o (kg (l z #[3]).2.1) (kg (l TO #[3]).2.1) (kg (l g #[3]).2.1) (kg (l f #[3]).2.1) p,r⟩
   by_cases hb:c=s.heap.objs.size
   ·subst hb;rw[LD] at q;cases q;exact⟨by show 2<=da;decide,[u,v],.cons rx (.cons ry .nil),_,Q6⟩
   rw[aH hb] at q;refine(I.LW c o q).OC (λd v' Oz e=>t d v' ?_ e) (λd e=>by rw[aH (R d _ e)];exact e) λd J e=>by rw[aH (R d _ e)];exact e
   rcases Oz with rfl |Oz
   ·exact out _ _ q
   exact out _ _ Oz
  refine⟨#[16],_,I1,rfl,⟨_,x,y,hn,rfl,rfl,λQv h'=>by rw[I.P9 h' V];exact ex,λQM h'=>by rw[I.P9 h' W];exact ey⟩,?_,λc hc=>?_⟩
  ·have kz:∀ c o,c≠z->h'.get? c=ag o->M.get? c=ag o:=λc o q e=>(B.2 c q).trans e;obtain⟨n1',n2',n3',n4',n5',n6',n7'⟩:=D.ne1;exact⟨z2,kq _ _ D.tz D.to n6' n7' st.its,⟨u,v,kz _ _ D.oz o'⟩,f'.1.keep λo e=>kz _ o n1' e,g'.1.keep λo e=>kz _ o n4' e,#[1],#[1]⟩
  have Nc:c<s.heap.objs.size:=by
   have q:∃ o,s.heap.get? c=ag o:=by
    simp only[fx,X8,abI] at hc;rcases hc with rfl |rfl |rfl |rfl |rfl
    ·exact⟨_,st.zip⟩
    ·exact⟨_,st.its⟩
    ·exact⟨_,Y⟩
    ·obtain⟨o,p,_⟩:=st.fst.obj;exact⟨o,p⟩
    obtain⟨o,p,_⟩:=st.snd.obj;exact⟨o,p⟩
   obtain⟨o,p⟩:=q;exact en p
  rw[aH (m3 Nc)];exact(l c hc).1
 done:=by
  intro X hP hw hK hc i C s σ H E I l st hg;subst hP hw hK;obtain⟨le,J,ys,V,W,lx,ly⟩:=hg;obtain⟨L,ru,S⟩:=I.Q_ V;obtain⟨N,rv,pv⟩:=I.Q_ W;obtain⟨u0,v0,Y⟩:=st.out;have su:L.toArray.size=n1:=by rw[f5,← ru.length,lx]
  have sv:N.toArray.size=n2:=by rw[f5,← rv.length,ly]
  have ne1:a≠g:=S.ne st.fst;have G:b≠f:=pv.ne st.snd;have U:s.TypeIs (.ref z) "zip":=⟨_,st.zip,rfl⟩;have e1:=st.le1;have e2:=st.le2;unfold aaI;refine av (V3 (r0 (name:=Vz "__next__") U F.slot_zip_next (mi F.slot_zip_next U F.entry_zip_next ?_ (F.args_zip_next_1 _))));refine DN D (Draws.seq (A:=X.A.in1) k1 (I.ok.hd hc) g a ne1 L.toArray) (Draws.seq (A:=X.A.in1) B (I.ok.hd hc) f b G N.toArray) (j:=i) (k:=i) #[0] st.zip st.its Y ⟨st.fst,S⟩ ⟨st.snd,pv⟩ λh' e tk kp he=>?_;obtain⟨o,p,Vq⟩:=he;refine av (Vj (T:="StopIteration") (b:=a6) ⟨o,p,Vq⟩ isSubtype_stop ?_);refine ay ⟨rfl,?_⟩
  have O:∀ c∈[z,TO,g,f],c∈[z,TI,TO,g,f]:=λc hc=>by
   simp only[fx,X8,abI] at hc ⊢;rcases hc with h |h |h |h
   ·exact .inl h
   ·exact .inr (.inr (.inl h))
   ·exact .inr (.inr (.inr (.inl h)))
   exact .inr (.inr (.inr (.inr h)))
  have t:∀ c o,c∉[z,TO,g,f]->s.heap.get? c=ag o->h'.get? c=ag o:=λc o h e=>by
   have h:c≠z/\c≠TO/\c≠g/\c≠f:=by simpa using h
   exact kp c o h.1 h.2.1 h.2.2.1 h.2.2.2 e
  have out:∀ c o,H c=ag o->c∉[z,TO,g,f]:=λc o q hc=>by have:=(l c (O c hc)).1;rw[this] at q;cases q
  refine I.step (h':=h') (g':=s.gens) (d':=s.drawn) (t':=tk) (ch:=[z,TO,g,f]) (λc hc=>?_) (λc o _ _ hc e _=>t c o hc e) (λc o _ _ hc e _=>⟨o.slots,t c o hc e⟩)
   (λ_ _ _ _ n=>n) (λc o hc e=>⟨o,t c o hc e⟩) (λ_ _ e=>e) (λ_ _ _ e=>e) (λc ps e=>⟨#[],by rw[e];simp⟩) (λm hm=>?_) (λc o q=>?_) I.bare
  ·obtain⟨_,g1,_,g3,g4,g5⟩:=l c (O c hc);exact⟨g3,g1,g4,g5⟩
  ·obtain⟨o,es,ep,p,r⟩:=hm;exact⟨o,es,ep,kp _ o (kg (l z #[3]).2.1) (kg (l TO #[3]).2.1) (kg (l g #[3]).2.1) (kg (l f #[3]).2.1) p,r⟩
  refine(I.LW c o q).OC (λd v' Oz e=>t d v' ?_ e) (λd e=>e) λd J e=>e;rcases Oz with rfl |Oz
  ·exact out _ _ q
  exact out _ _ Oz
 self:=by
  intro A i s Q E st h;exact wpAny_pyIter_zip st.zip h
noncomputable def kj:ak D->ak D->ak D
 |d::ds,e::es => .tup [d,e]::kj ds es
 |_,_=>[]
theorem d6:∀ ds es:ak D,(kj ds es).length=XP ds.length es.length
 |[],es=>by simp[kj]
 |d::ds,[]=>by simp[kj]
 |d::ds,e::es=>by simp only[kj,hG,d6 ds es];omega
theorem oG:∀ (ds es:ak D) (i:Nat) {d e:D},ds[i]?=ag d->es[i]?=ag e->(kj ds es)[i]?=ag (.tup [d,e])
 |[],_,_,_,_,h,_=>by simp at h
 |_::_,[],_,_,_,_,h=>by simp at h
 |a::ds,b::es,0,d,e,h,g=>by
  have h:a=d:=by simpa using h
  have g:b=e:=by simpa using g
  subst h g;rfl
 |a::ds,b::es,i+1,d,e,h,g=>by
  rw[kj,qf];exact oG ds es i (by simpa using h) (by simpa using g)
noncomputable def DO:ak D->a5 (ak D)
 |[x,y]=>(xn x).bind λa=>(xn y).map λb=>kj a b
 |_=>a4
section
variable {X:Cx}{W:WT}
theorem BZ {H:Hp}{J:ak bc}{d:D}{v:V}{xs:ak D}(m:At X.K H J d v)(h:xn d=ag xs):∃ (k:eM) (a:bc) (vs:ak V),v = .ref a/\Ly X.K H J xs vs/\vs.length<=da/\∀ c H',Ex J H c H'->RI k X.K H' a vs:=by
 cases d with
 |tup e=>cases h;obtain⟨a,vs,rfl,b,m⟩:=At.LF.mp m;exact⟨a6,a,vs,rfl,m,b.len,λc H' x=>(b.ex x).sq⟩
 |lst e=>cases h;obtain⟨a,vs,rfl,b,m⟩:=At.LG.mp m;exact⟨a8,a,vs,rfl,m,b.len,λc H' x=>(b.ex x).sq⟩
 |_=>cases h
theorem Walk.zip {k j:eM}{a b:bc}{ds es:ak D}{xs ys:ak V}{J:ak bc}{H:Hp}(m1:Ly X.K H J ds xs)(m2:Ly X.K H J es ys)(z:xs.length<=da)(f:∀ h H',Ex J H h H'->RI k X.K H' a xs)(g:∀ h H',Ex J H h H'->RI j X.K H' b ys) :
  Walk X (Zd X.K k j a b xs.length ys.length) (kj ds es) J H where
 len:=by rw[d6,m1.length];omega
 go:=λl n i x c=>by
  rw[d6,m1.length,m2.length] at c;exact⟨#[1],#[1],xs,ys,f _ _ x,g _ _ x,rfl,rfl⟩
 Qk:=λl n i v H' x r c y=>by
  obtain⟨p,u,w,m,rfl,rfl,s,o⟩:=y;obtain⟨d,q,a1⟩:=(m1.ex x).get' (s xs (f _ _ x));obtain⟨e,t,a2⟩:=(m2.ex x).get' (o ys (g _ _ x));exact⟨.tup [d,e],oG ds es i q t,At.Ni (.cons a1 (.cons a2 .nil)) m r (by show 2<=da;decide),aO m _⟩
 stop:=λl n i x c=>by
  rw[d6,m1.length,m2.length] at c;exact⟨#[1],xs,ys,f _ _ x,g _ _ x,rfl,rfl⟩
theorem T9 {x a b:Nat}(c:x≠a)(d:x≠b):(x:bc)∉([a,b]:ak bc):=λh=>by
 rcases fx.mp h with e |h
 ·exact c e
 exact d (gA.mp h)
theorem H_ (N A B:Nat)(a:A<N)(b:B<N):ZA (N+4) (N+2) (N+3) N (N+1) [N,A] [N+1,B]:=
 ⟨eR ..,eR ..,T9 #[0] #[0],T9 #[0] #[0],T9 #[0] #[0],T9 #[0] #[0],T9 #[0] #[0],T9 #[0] #[0],
  (#[1]:(N+3:Nat)≠N+4),(#[1]:(N+2:Nat)≠N+4),(#[1]:(N+2:Nat)≠N+3),T9 #[0] #[0],T9 #[0] #[0]⟩
theorem J3 {N b:Nat}(h:(b:bc)∈([N+4,N+2,N+3,N,N+1]:ak bc)):N<=b:=by simp only[fx,X8,abI] at h;have h:b=N+4∨b=N+2∨b=N+3∨b=N∨b=N+1:=h;omega
theorem boot_zip:n0 "zip"=ag (.type "zip"):=by decide
theorem Gk {es:ak gy}{k:Nat}{pt p pos:Ud}{a b:gy}{t:Lk (ak D)}{x:el}(Q:x="zip")(hm:X.mg x=a4)(ha:SA X W [a,b] t)(hg:Gl X x:=by rfl)
  (T:ek (a::[b]) X.env=(a8,qa a X.env)::ek [b] X.env:=by rfl) (MA:(rb pos (ek [b] X.env)).any (·.1)=a8:=by rfl):SI X W (.Tuple es k pt) (.Call (.Name x p) [a,b] [] pos) (gE DO t):=by
 subst Q;intro c s C H R I h;refine Pd (jg I hg hm boot_zip ?_ #[2] #[2]);refine callWith_type1 (LO (ha pos c s C H _ I (i8 h)) λus f Zq=>?_) T MA;obtain⟨vs,g,d,r1,J,S,O1,ds,so,m,e,z⟩:=Zq;unfold DO at e;rw[1]
 ·rename_i dx dy;obtain⟨xs,h1,h2⟩:=hD.mp e;obtain⟨ys,h3,h4⟩:=d7.mp h2;subst h4;obtain⟨v1,r,rfl,a1,n⟩:=Ly.Lv.mp m;obtain⟨v2,r',rfl,a2,n⟩:=Ly.Lv.mp n;cases Ly.Lz.mp n;obtain⟨E,o,L,rfl,m1,q,M⟩:=BZ a1 h1;obtain⟨y,i,B,rfl,m2,lw2,F⟩:=BZ a2 h3;obtain⟨u1,u2,rfl,l,j⟩:=vals2 r1;cases l;cases j;obtain⟨w,Z,O⟩:=d.Q_ (M _ _ Ex.refl);obtain⟨RP,rv2,u⟩:=d.Q_ (F _ _ Ex.refl);have l1:=O.lt;have l2:=u.lt;refine Bv O u λP G g2 U g4 Y kp=>?_;have V:Inv X c C g { f with heap:=P }:=d.kept (t':=f.toks) kp;refine wpAny_pyIter_zip G ?_;generalize A:f.heap.objs.size=N at *
  refine⟨N+4,[N+4,N+2,N+3,N,N+1],_,Zd X.K E y o i L.length B.length,g,rfl,V,BK E y o i (N+4) (N+2) (N+3) N (N+1) L.length B.length ?_,⟨G,g2,⟨_,_,U⟩,g4,Y,RC _,RC _⟩,λb hb=>?_,z g _ (LH.refl _) (Walk.zip m1 m2 q M F)⟩
  ·exact H_ N o i l1 l2
  have v:N<=b:=J3 hb;exact d.Ot (by rw[A];exact v) (d.LW.fresh (by rw[A];exact v))
 cases e
end
end L2
namespace L2
open PySem PyProof.Rows
abbrev E9:eM->pq->hO pq->Nat->Nat->Nat->acv pd Sem (a5 Nat):=sortPriv% PySem.Builtin.gallop
abbrev CK:hO pq->hO pq->acv pd Sem (hO pq):=sortPriv% PySem.Builtin.mergeLo
abbrev mergeAt':Nat->acv pd Sem eM:=sortPriv% PySem.Builtin.mergeAt
def qq (prog:e8)(w:hL)(A:iv)(E:Lm)(s:bo)(a:To)(O:rk)(kf:ax->O.α)(G:pq->Prop):Prop:=
 ∀ x y:pq,G x->G y->∀ (st:pd) (Q:a5 eM->pd->Prop),kindOf st=a->Q (ag (O.blt (kf x.1) (kf y.1))) st->wpS #[5] A E s (lt' x y) Q st
section
variable {prog:e8}{w:hL}{A:iv}{E:Lm}{s:bo}{kd:To}{O:rk}{kf:ax->O.α}{G:pq->Prop}
theorem cG {arr:hO pq}{i:Nat}(h:i<arr.size){Q:pq->pd->Prop}{st:pd}(q:Q arr[i] st):wpS #[5] A E s (elem' arr i) Q st:=by rw[elem'_eq,getElem?_pos arr i h];exact ka q
noncomputable def T_ (O:rk)(kf:ax->O.α)(left:eM)(key x:pq):eM:=if left then O.blt (kf x.1) (kf key.1) else !O.blt (kf key.1) (kf x.1)
theorem ii {e:Type}{b:Nat}{f:Nat->e->acv pd Sem (ForInStep e)}{Q : e->pd->Prop}{c : e}{st:pd}(hb : 0<b)(h:wpS #[5] A E s (f 0 c) (λr d=>match r with | .done a=>Q a d | .yield _=>False) st):wpS #[5] A E s (acD [0:b] c f) Q st:=by
 refine Qh (I:=λx a d=>x=0/\a=c/\d=st) (λi a d _ _ z=>?_) (λa d z=>?_) ⟨rfl,rfl,rfl⟩
 ·obtain⟨rfl,rfl,rfl⟩:=z
  exact U1 h λr j q=>by
   cases r with
   |done g=>exact q
   |yield g=>exact q.elim
 have:=z.1;omega
theorem yD (L:qq prog w A E s kd O kf G){left:eM}{key:pq}{arr:hO pq}{base n a k:Nat}{st:pd}{Q:a5 Nat->pd->Prop}(l:kindOf st=kd)(m:G key)(ga:∀ x∈arr.toList,G x)
  (hb:base+n<=arr.size) (t : 2<=n) (B:Nat->eM) (p:∀ i (h:base+i<arr.size),i<n->B i=T_ O kf left key arr[base+i])
  (c:(a=0/\k=1/\B 0=a6/\B 1=a8)∨(a=n-1/\k=n-1/\B (n-1)=a8/\B (n-2)=a6))
  (h:Q (ag k) st):wpS #[5] A E s (E9 left key arr base n a) Q st:=by
 have b:∀ i,i<n->∀ {d:a5 eM->pd->Prop},d (ag (B i)) st->wpS #[5] A E s (do let x ← elem' arr (base+i);if left=a6 then lt' x key else return (← lt' key x).map (!·)) d st:=by
  intro i r d q;have f:base+i<arr.size:=#[1]
  refine eK (cG f ?_);have o:G arr[base+i]:=ga _ (H7 f);have e:=p i f r;unfold T_ at e;cases left with
  |true =>
   rw[cc rfl];rw[cc rfl] at e;exact L _ _ o m st _ l (by rw[← e];exact q)
  |false =>
   rw[cn #[2]];rw[cn #[2]] at e;refine eK (L _ _ m o st _ l (ka ?_));show d (ag (!O.blt (kf key.1) (kf arr[base+i].1))) st;rw[← e];exact q
 rcases c with ⟨rfl,rfl,g,j⟩ |⟨rfl,rfl,g,j⟩
 ·refine eK (b 0 #[0] ?_);rw[g];rw[0];rw[cc rfl];refine eK (ii #[0] ?_);rw[0];rw[cn #[0]];refine eK (b (0+1) #[0] ?_);rw[show 0+1=1 from rfl,j];refine ka ?_;rw[0];refine eK (ii #[0] ?_);rw[0];rw[cc #[0]];refine ka (ka ?_);rw[show 0+XP 1 (n-0)=1 by omega];exact h
 refine eK (b (n-1) #[0] ?_);rw[g];rw[0];rw[cn #[2]];refine eK (ii #[0] ?_);rw[0];rw[cn #[0]];refine eK (b (n-1-1) #[0] ?_);rw[show n-1-1=n-2 from #[1],j];refine ka ?_;rw[0];refine eK (ii #[0] ?_);rw[0];rw[cc #[0]];exact ka (ka h)
end
section
variable {O:rk}{kf:ax->O.α}
def Nz (O:rk)(kf:ax->O.α)(x y:pq):Prop:=O.kle (kf x.1) (kf y.1)
theorem jG {x y z:pq}(h:Nz O kf x y)(g:Nz O kf y z):Nz O kf x z:=J7 h g
structure Mg (O:rk) (kf:ax->O.α) (T out A B:ak pq):Prop where
 perm:(out++(A++B)).Perm T
 so:out.Pairwise (Nz O kf)
 sa:A.Pairwise (Nz O kf)
 sb:B.Pairwise (Nz O kf)
 low:∀ x∈out,∀ y∈A++B,Nz O kf x y
def Res (O:rk)(kf:ax->O.α)(T r:ak pq):Prop:=r.Perm T/\r.Pairwise (Nz O kf)
theorem Mg.WQ {T out p A B:ak pq}(h:Mg O kf T out (p++A) B)(l:∀ x∈p,∀ y∈B,Nz O kf x y):Mg O kf T (out++p) A B:=by
 have sa:=E3.mp h.sa;refine⟨by have:=h.perm;simpa [j0] using this,E3.mpr ⟨h.so,sa.1,λx hx y hy=>h.low x hx y (by simp[hy])⟩,sa.2.1,h.sb,λx hx y hy=>?_⟩;rcases k6.mp hx with hx |hx
 ·exact h.low x hx y (by
   rcases k6.mp hy with hy |hy
   ·simp[hy]
   simp[hy])
 rcases k6.mp hy with hy |hy
 ·exact sa.2.2 x hx y hy
 exact l x hx y hy
theorem Mg.WR {T out p A B:ak pq}(h:Mg O kf T out A (p++B))(l:∀ x∈p,∀ y∈A,Nz O kf x y):Mg O kf T (out++p) A B:=by
 have sb:=E3.mp h.sb;refine⟨?_,E3.mpr ⟨h.so,sb.1,λx hx y hy=>h.low x hx y (by simp[hy])⟩,h.sa,sb.2.1,λx hx y hy=>?_⟩
 ·refine abb ?_ h.perm;rw[j0];refine Xu out ?_;rw[← j0,← j0];exact aa0 B abl
 rcases k6.mp hx with hx |hx
 ·exact h.low x hx y (by
   rcases k6.mp hy with hy |hy
   ·simp[hy]
   simp[hy])
 rcases k6.mp hy with hy |hy
 ·exact l x hx y hy
 exact sb.2.2 x hx y hy
theorem Mg.last {T out B:ak pq}{z:pq}(h:Mg O kf T out [z] B)(l:∀ y∈B,Nz O kf y z):Res O kf T (out++B++[z]):=by
 refine⟨?_,E3.mpr ⟨E3.mpr ⟨h.so,h.sb,λx hx y a=>h.low x hx y (by simp[a])⟩,T5 _ _,λx hx y a=>?_⟩⟩
 ·refine abb ?_ h.perm;rw[j0];exact Xu out abl
 have b:y=z:=by simpa using a
 subst b;rcases k6.mp hx with hx |hx
 ·exact h.low x hx y #[3]
 exact l x hx
theorem drop_cons {a:hO pq}{i:Nat}(h:i<a.size):a.toList.drop i=a[i]::a.toList.drop (i+1):=by rw[S8 (by simpa using h)];simp
theorem nQ {a:hO pq}(i:Nat):(a.extract i).toList=a.toList.drop i:=by rw[W5,Tn];exact y0 #[3]
theorem zp {l:ak pq}{x y:pq}(a:(y::l).Pairwise (Nz O kf))(h:Nz O kf x y):∀ z∈y::l,Nz O kf x z:=by
 intro z hz;rcases fx.mp hz with e |hz
 ·rw[e];exact h
 exact jG h ((X0.mp a).1 z hz)
end
structure SameS (st Lx:pd):Prop where
 kind:kindOf Lx=kindOf st
 arr:b0 Lx=b0 st
 pend:lg Lx=lg st
 fail:C3 Lx=C3 st
section
variable {prog:e8}{w:hL}{A:iv}{E:Lm}{s:bo}{kd:To}{O:rk}{kf:ax->O.α}{G:pq->Prop}
theorem uJ (L:qq prog w A E s kd O kf G){a b:hO pq}{st:pd}{Q:hO pq->pd->Prop}(V:kindOf st=kd)(ga:∀ x∈a.toList,G x)(Y:∀ x∈b.toList,G x)(hn:b.size=a.size)(u : 2<=a.size)
  (sa:a.toList.Pairwise (Nz O kf)) (sb:b.toList.Pairwise (Nz O kf)) (K:∀ i (h:i<a.size),O.blt (kf (b[i]'#[0]).1) (kf a[i].1)=a6) (ab:∀ i (h:i+1<a.size),O.blt (kf (b[i+1]'#[0]).1) (kf a[i].1)=a8) (hg : 2<=Wc st)
  (h:∀ r,Res O kf (a.toList++b.toList) r.toList->Q r st):wpS #[5] A E s (CK a b) Q st:=by
 have S : 0<a.size:=#[1]
 have hb : 0<b.size:=#[1]
 let T:=a.toList++b.toList;let I:hO pq->Nat->Nat->Prop:=λout d f=>Mg O kf T out.toList (a.toList.drop d) (b.toList.drop f);have Z:∀ i (n:i<a.size),G a[i]:=λi n=>ga _ (H7 n);have gB:∀ i (n:i<b.size),G b[i]:=λi n=>Y _ (H7 n)
 have H:∀ i j (n:i<a.size) (B:j<a.size),i<=j->Nz O kf a[i] a[j]:=by
  intro i j n B Q7;rcases Rv i j with Nc |XM
  ·have:=Qt.mp sa i j (by simpa using n) (by simpa using B) Nc;rw[4]
  have e:i=j:=#[1]
  subst e;exact H4 _
 have first:Nz O kf b[0] a[0]:=L6 (K 0 S)
 have last:∀ y∈b.toList,Nz O kf y a[a.size-1]:=λy l=>by
  obtain⟨j,B,rfl⟩:=T3 l;have N:j<a.size:=by rw[← hn];simpa using B
  have:=jG (L6 (K j N)) (H j (a.size-1) N #[0] #[0]);rw[4]
 have W:∀ {out:hO pq}{d f:Nat},I out d f->d+1=a.size->Res O kf T (out++b.extract f++a.extract d).toList:=by
  intro out d f g e;have g:Mg O kf T out.toList (a.toList.drop d) (b.toList.drop f):=g;have M:a.toList.drop d=[a[a.size-1]]:=by rw[drop_cons #[0],Ta (by simp[e])];congr 2;omega
  rw[aag,aag,nQ,nQ,M];rw[M] at g;exact g.last λy l=>last y (Ya l)
 have P:∀ {out:hO pq}{d f:Nat}(m:d<a.size) (u:f<b.size),I out d f->Nz O kf b[f] a[d]->I (out.push b[f]) d (f+1):=by
  intro out d f m u g J;have g:Mg O kf T out.toList (a.toList.drop d) (b.toList.drop f):=g;have z:=g;rw[drop_cons u] at g;show Mg O kf T (out.push b[f]).toList _ _;rw[Z2];refine Mg.WR (p:=[b[f]]) g λx v y l=>?_;have ex:x=b[f]:=by simpa using v
  subst ex;have R:=z.sa;rw[drop_cons m] at R l;exact zp R J y l
 have WV:∀ {out:hO pq}{d f:Nat}(m:d<a.size) (u:f<b.size),I out d f->Nz O kf a[d] b[f]->I (out.push a[d]) (d+1) f:=by
  intro out d f m u g J;have g:Mg O kf T out.toList (a.toList.drop d) (b.toList.drop f):=g;have z:=g;rw[drop_cons m] at g;show Mg O kf T (out.push a[d]).toList _ _;rw[Z2];refine Mg.WQ (p:=[a[d]]) g λx v y l=>?_;have ex:x=a[d]:=by simpa using v
  subst ex;have U:=z.sb;rw[drop_cons u] at U l;exact zp U J y l
 have start:I #[b[0]] 0 1:=by
  have g:Mg O kf T [] a.toList b.toList:=⟨by simp[T],WU,sa,sb,λx v=>by simp at v⟩;have z:I #[] 0 0:=by show Mg O kf T [] (a.toList.drop 0) (b.toList.drop 0);simpa using g
  exact P S hb z first
 refine eK (Zt (O8 ⟨rfl,?_⟩));refine eK (cG hb ?_);rw[0];rw[cn (by simp;omega),cn (by simp;omega)];refine eK (TF ?_);refine eK (U1 (Q:=λc k=>k=st/\∃ r rest,c=(ag r,rest)/\Res O kf T r.toList) (ii #[0] ?_) ?post)
 case post =>
  rintro c k ⟨rfl,r,rest,rfl,hr⟩;exact ka (h r hr)
 rw[0]
 refine eK (U1 (Qh (I:=λy c k=>k=st/\∃ out d f F D,c=(a4,out,d,f,F,D)/\I out d f/\d+1<a.size/\f<b.size/\d+f=y+1/\(f=d+1/\F=0∨f=d/\D=0))
  (Q:=λc k=>k=st/\∃ r rest,c=(ag r,rest)/\Res O kf T r.toList) ?step ?fin ⟨rfl,_,_,_,_,_,rfl,start,#[1],#[1],rfl,.inl ⟨rfl,rfl⟩⟩) ?post1)
 case post1 =>
  rintro c k ⟨rfl,r,rest,rfl,hr⟩;exact ka ⟨rfl,r,_,rfl,hr⟩
 case fin =>
  rintro c k ⟨rfl,out,d,f,F,D,rfl,g,m,o,h4,_⟩;omega
 case step =>
  rintro y c k _ l ⟨rfl,out,d,f,F,D,rfl,g,m,o,h4,h5⟩;rw[0];have q:d<a.size:=#[1]
  refine eK (cG o (eK (cG q (eK (L _ _ (gB _ o) (Z _ q) k _ V ?_)))));rw[0];rcases h5 with ⟨rfl,rfl⟩ |⟨rfl,rfl⟩
  ·have e:=ab d #[0];rw[e,cn #[2]];refine eK (cG q ?_);have C:=WV q o g (show O.kle _ _ from e)
   try rw[0]
   by_cases t:(d+1+1==a.size)=a6
   ·rw[cc t];exact ka ⟨rfl,_,_,rfl,W C (by simpa using t)⟩
   rw[cn t];have X:d+1+1≠a.size:=by simpa using t
   rw[cn (show ¬ (0+1≥Wc k) by omega)];exact ka ⟨rfl,_,_,_,_,_,rfl,C,#[1],o,#[1],.inr ⟨rfl,rfl⟩⟩
  have e:=K f q;rw[e,cc rfl];refine eK (cG o ?_);have C:=P q o g (L6 e)
  try rw[0]
  have t:¬ (f+1==b.size)=a6:=by simp;omega
  rw[cn t,cn (show ¬ (0+1≥Wc k) by omega)];exact ka ⟨rfl,_,_,_,_,_,rfl,C,m,#[1],#[1],.inl ⟨rfl,rfl⟩⟩
end
abbrev sD:Nat->Nat->acv pd Sem (a5 Nat):=sortPriv% PySem.Builtin.countRun
abbrev wC:Nat->Nat->Nat->acv pd Sem eM:=sortPriv% PySem.Builtin.binarySort
section
variable {prog:e8}{w:hL}{A:iv}{E:Lm}{s:bo}{kd:To}{O:rk}{kf:ax->O.α}{G:pq->Prop}
noncomputable def KX (kf:ax->O.α)(xs:hO pq)(i:Nat):O.α:=match xs[i]? with
 |ag p=>kf p.1
 |a4=>kf .none
theorem wL {xs ys:hO pq}{i j:Nat}(h:xs[i]?=ys[j]?):KX kf xs i=KX kf ys j:=by unfold KX;rw[h]
theorem nT {xs:hO pq}{i:Nat}(h:i<xs.size):KX kf xs i=kf xs[i].1:=by unfold KX;rw[getElem?_pos xs i h]
structure Sg (G:pq->Prop) (kd:To) (lo hi:Nat) (st Lx:pd):Prop where
 kind:kindOf Lx=kd
 good:∀ x∈(b0 Lx).toList,G x
 perm:(b0 Lx).Perm (b0 st)
 pend:lg Lx=lg st
 fail:C3 Lx=C3 st
 Vs:Wc Lx=Wc st
 same:∀ k,(k<lo∨hi<=k)->(b0 Lx)[k]?=(b0 st)[k]?
theorem Sg.size {lo b:Nat}{st a:pd}(h:Sg G kd lo b st a):(b0 a).size=#[11]:=h.perm.size_eq
theorem Sg.set {lo b:Nat}{st a:pd}(h:Sg G kd lo b st a){ys:hO pq}(c:ys.Perm (b0 a))(f:∀ k,(k<lo∨b<=k)->ys[k]?=(b0 a)[k]?):Sg G kd lo b st (ad9 a ys):=
 ⟨h.kind,λx e=>h.good x ((U2.mp c).mem_iff.mp e),c.trans h.perm,h.pend,h.fail,h.Vs,λk d=>(f k d).trans (h.same k d)⟩
theorem cY (L:qq prog w A E s kd O kf G){lo b:Nat}{st0 st:pd}(a:Sg G kd lo b st0 st){i j:Nat}(b:i<(b0 st0).size)(e:j<(b0 st0).size){Q:a5 eM->pd->Prop}
  (q:Q (ag (O.blt (KX kf (b0 st) i) (KX kf (b0 st) j))) st):wpS #[5] A E s (ltAt' i j) Q st:=by
 have d:i<#[11]:=by rw[a.size];exact b
 have c:j<#[11]:=by rw[a.size];exact e
 rw[nT d,nT c] at q;rw[ltAt'_eq];refine eK (TF (eK (cG d (eK (cG c ?_)))));exact L _ _ (a.good _ (H7 d)) (a.good _ (H7 c)) st _ a.kind q
theorem DQ {i j:Nat}{st:pd}{Q:acf->pd->Prop}(q:Q () (ad9 st (bubble (b0 st) i (i-j)))):wpS #[5] A E s (moveDown' i j) Q st:=by rw[moveDown'_eq];exact WG q
def OK (kf:ax->O.α)(xs:hO pq)(lo a:Nat):Prop:=∀ i j,lo<=i->i<=j->j<a->O.kle (KX kf xs i) (KX kf xs j)
theorem uI (L:qq prog w A E s kd O kf G){lo b:Nat}{st:pd}{Q:a5 Nat->pd->Prop}(g:kindOf st=kd)(i:∀ x∈(b0 st).toList,G x)(k:lo+b<=#[11])(l : 2<=b)
  (u:O.blt (KX kf (b0 st) lo) (KX kf (b0 st) (lo+1))=a6) (d:b=2∨O.blt (KX kf (b0 st) (lo+2)) (KX kf (b0 st) (lo+1))=a6) (h:Q (ag 2) st):wpS #[5] A E s (sD lo b) Q st:=by
 have e:Sg G kd lo lo st st:=⟨g,i,Wv _,rfl,rfl,rfl,λ_ _=>rfl⟩;refine eK (U1 (Qh (I:=λx c a=>a=st/\c=(a4,x)/\x<=2) (Q:=λc a=>a=st/\c=(a4,2)) ?s1 ?f1 ⟨rfl,rfl,#[1]⟩) ?p1)
 case s1 =>
  rintro x c a m j ⟨rfl,rfl,f⟩
  try rw[0]
  refine eK (cY L e #[0] #[0] ?_);have:x=1∨x=2:=#[1]
  rcases this with rfl |rfl
  ·rw[show lo+1-1=lo by omega,show O.blt (KX kf (b0 a) (lo+1)) (KX kf (b0 a) lo)=a8 from wi u];exact ka ⟨rfl,rfl,#[1]⟩
  rw[show lo+2-1=lo+1 by omega,d.resolve_left #[0]];exact ka ⟨rfl,rfl⟩
 case f1 =>
  rintro c a ⟨rfl,rfl,f⟩;exact⟨rfl,by rw[show max 1 b=2 by omega]⟩
 case p1 =>
  rintro c a ⟨rfl,rfl⟩
  try rw[0]
  split
  ·exact ka h
  rw[cc #[2]];refine eK (cY L e #[0] #[0] ?_);rw[show lo+2-1=lo+1 by omega,u];exact ka h
theorem DH {xs:hO pq}{a d:Nat}(f:a<xs.size)(hd:d<=a)(k:Nat):KX kf (bubble xs a d) k=if k=a-d then KX kf xs a else if a-d<k/\k<=a then KX kf xs (k-1) else KX kf xs k:=by
 have e:=getElem?_bubble f d hd k;split
 ·rename_i b;rw[cc b] at e;exact wL e
 rename_i b;rw[cn b] at e;split
 ·rename_i c;rw[cc c] at e;exact wL e
 rename_i c;rw[cn c] at e;exact wL e
theorem iV (L:qq prog w A E s kd O kf G){lo n ok:Nat}{st0 st:pd}{Q:eM->pd->Prop}(B:Sg G kd lo (lo+n) st0 st)(D:lo+n<=(b0 st0).size)(LW:ok<=n)(ha:OK kf (b0 st) lo (lo+ok))
  (h:∀ d,Sg G kd lo (lo+n) st0 d->OK kf (b0 d) lo (lo+n)->Q a6 d):wpS #[5] A E s (wC lo n ok) Q st:=by
 refine eK (U1 (Qh (I:=λk c d=>c=(a4,())/\Sg G kd lo (lo+n) st0 d/\OK kf (b0 d) lo (lo+XP k n)) (Q:=λc d=>c=(a4,())/\Sg G kd lo (lo+n) st0 d/\OK kf (b0 d) lo (lo+n)) ?s1 ?f1 ⟨rfl,B,λi j a1 a2 z=>?i1⟩) ?p1)
 case i1 =>
  by_cases e:j<lo+ok
  ·exact ha i j a1 a2 e
  have:i=j:=#[1]
  subst this;exact H4 _
 case f1 =>
  rintro c d ⟨hc,o,m⟩;refine⟨hc,o,?_⟩;rwa [show XP (max (max ok 1) n) n=n by omega] at m
 case p1 =>
  rintro c d ⟨rfl,o,m⟩;exact ka (h d o m)
 case s1 =>
  rintro k c d y C ⟨rfl,o,m⟩;rw[show XP k n=k by omega] at m
  try rw[0]
  refine eK (U1 (Qh (I:=λx c f=>f=d/\∃ l r,c=(a4,l,r)/\l<=r/\r<=k/\r-l<=k-x/\(∀ i,i<l->O.kle (KX kf (b0 d) (lo+i)) (KX kf (b0 d) (lo+k)))/\∀ i,r<=i->i<k->O.klt (KX kf (b0 d) (lo+k)) (KX kf (b0 d) (lo+i)))
   (Q:=λc f=>f=d/\∃ l r,c=(a4,l,r)/\l<=k/\(∀ i,i<l->O.kle (KX kf (b0 d) (lo+i)) (KX kf (b0 d) (lo+k)))/\∀ i,l<=i->i<k->O.klt (KX kf (b0 d) (lo+k)) (KX kf (b0 d) (lo+i))) ?s2 ?f2 ⟨rfl,0,k,rfl,#[1],#[1],#[1],λi M=>#[1],λi a b=>#[1]⟩) ?p2)
  case f2 =>
   rintro c f ⟨rfl,l,r,rfl,a1,a2,z,p,t⟩;exact⟨rfl,l,r,rfl,#[1],p,λi v u=>t i #[0] u⟩
  case s2 =>
   rintro x c f _ J ⟨rfl,l,r,rfl,a1,a2,z,p,t⟩
   try rw[0]
   by_cases e:l≥r
   ·rw[cc e];exact ka ⟨rfl,l,r,rfl,#[1],p,λi v u=>t i #[0] u⟩
   rw[cn e];refine eK (cY L o #[0] #[0] ?_);clear D LW y C;have m1:l<=(l+r) / 2:=#[1]
   have m2:(l+r) / 2<r:=#[1]
   generalize (l+r) / 2=md at *
   cases hb:O.blt (KX kf (b0 f) (lo+k)) (KX kf (b0 f) (lo+md)) with
   |true=>exact ka ⟨rfl,l,md,rfl,m1,#[1],#[1],p,λi v u=>KeyOrd.klt_of_klt_of_kle hb (m _ _ #[0] #[0] #[0])⟩
   |false=>exact ka ⟨rfl,md+1,r,rfl,m2,a2,#[1],λi v=>J7 (m _ _ #[0] #[0] #[0]) (show O.kle _ _ from hb),t⟩
  case p2 =>
   rintro c f ⟨rfl,l,r,rfl,a1,p,t⟩
   try rw[0]
   have g:lo+k<(b0 f).size:=by rw[o.size];omega
   refine eK (DQ (ka ⟨rfl,o.set (bubble_perm _ _ _) (λq hq=>?_),?_⟩))
   ·rw[getElem?_bubble g _ #[0],cn (by rcases hq with hq |hq<;>omega),cn (by rcases hq with hq |hq<;>omega)]
   rw[show XP (k+1) n=k+1 by omega];intro i j v u K;show O.kle (KX kf (bubble (b0 f) (lo+k) (lo+k-(lo+l))) i) (KX kf (bubble (b0 f) (lo+k) (lo+k-(lo+l))) j);rw[DH g #[0],DH g #[0],show lo+k-(lo+k-(lo+l))=lo+l by omega];have up:∀ q,lo<=q->q<lo+l->O.kle (KX kf (b0 f) q) (KX kf (b0 f) (lo+k)):=λq F H=>by have:=p (q-lo) #[0];rwa [show lo+(q-lo)=q by omega] at this
   have dn:∀ q,lo+l<=q->q<lo+k->O.klt (KX kf (b0 f) (lo+k)) (KX kf (b0 f) q):=λq F H=>by have:=t (q-lo) #[0] #[0];rwa [show lo+(q-lo)=q by omega] at this
   clear D LW y C g p t B o ha h
   repeat' split
   all_goals first
    |(exfalso;omega)
    |exact H4 _
    |exact up _ #[0] #[0]
    |exact L6 (dn _ #[0] #[0])
    |exact m _ _ #[0] #[0] #[0]
theorem writes:∀ (m:ak pq) (xs:hO pq) (b o:Nat),b+o+m.length<=xs.size->((m.zipIdx o).foldl (λa (c:pq×Nat)=>a.setIfInBounds (b+c.2) c.1) xs).toList=xs.toList.take (b+o)++(m++xs.toList.drop (b+o+m.length))
 |[],xs,b,o,h=>by simp
 |p::m,xs,b,o,h=>by
  rw[hG] at h;have e:=writes m (xs.setIfInBounds (b+o) p) b (o+1) (by rw[We];omega);rw[abH,Pw];show ((m.zipIdx (o+1)).foldl _ (xs.setIfInBounds (b+o) p)).toList=_;rw[e,U3,← abO,hG];have d:(xs.toList.set (b+o) p).take (b+o+1)=xs.toList.take (b+o)++[p]:=by rw[ad_,List.take_set_of_le (e9 _),S4 (by simpa using (#[1]:b+o<xs.size))];rfl
  have f:(xs.toList.set (b+o) p).drop (b+o+1+m.length)=xs.toList.drop (b+o+(m.length+1)):=by rw[List.drop_set_of_lt #[0]];congr 1;omega
  rw[d,f];simp
end
section
variable {prog:e8}{w:hL}{A:iv}{E:Lm}{s:bo}{kd:To}{O:rk}{kf:ax->O.α}{G:pq->Prop}
theorem DP {st a:pd}{Q:PUnit->pd->Prop}(q:Q ⟨⟩ a):wpS #[5] A E s (set a:acv pd Sem PUnit) Q st:=by unfold wpS;rw[StateT.run_set];exact ay ⟨rfl,q⟩
theorem uK (L:qq prog w A E s kd O kf G){st:pd}{f g:Nat}{X Y:ak pq}{Q:eM->pd->Prop}(F:kindOf st=kd)(m:∀ x∈(b0 st).toList,G x)(hf:C3 st=a4)(R4 : 2<=Wc st)
  (p:lg st = #[(0,32,f),(32,32,g)]) (e:(b0 st).toList=X++Y) (d:X.length=32) (H:Y.length=32) (D:X.Pairwise (Nz O kf)) (N:Y.Pairwise (Nz O kf))
  (k:∀ i (h:i<32),O.blt (kf (X[i]'#[0]).1) (kf (Y[i]'#[0]).1)=a6) (K:∀ i (h:i+1<32),O.blt (kf (Y[i]'#[0]).1) (kf (X[i+1]'#[0]).1)=a6)
  (h:∀ q,C3 q=a4->(lg q).size=1->Res O kf (X++Y) (b0 q).toList->Q a6 q) :
  wpS #[5] A E s (mergeAt' 0) Q st:=by
 have M:#[11]=32+32:=by have:=q7 WH e;simpa [d,H] using this
 have o:∀ j (R:j<#[11]),(b0 st)[j]=(X++Y)[j]'(by rw[cv];omega):=λj R=>by
  have h2:(b0 st)[j]=(b0 st).toList[j]'(by simpa using R):=by simp
  rw[h2];congr 1
 have C:∀ j (c:j<32),(b0 st)[j]'#[0]=X[j]'#[0]:=λj c=>by rw[o,List.getElem_append_left]
 have t:∀ j (c:j<32),(b0 st)[32+j]'#[0]=Y[j]'#[0]:=λj c=>by rw[o,List.getElem_append_right #[0]];congr 1;omega
 have gd:∀ j (c:j<#[11]),G (b0 st)[j]:=λj c=>m _ (H7 c);refine eK (TF ?_);rw[show (#[23]) st=lg st from rfl,p,show (#[(0,32,f),(32,32,g)]:hO (Nat×Nat×Nat))[0]?=ag (0,32,f) from rfl,show (#[(0,32,f),(32,32,g)]:hO (Nat×Nat×Nat))[0+1]?=ag (32,32,g) from rfl];rw[0];refine eK (DP ?_);refine eK (cG (show 32<#[11] by omega) ?_);have V:(b0 st)[32]'#[0]=Y[0]'#[0]:=t 0 #[0];refine eK (yD L (by exact F) (gd 32 #[0]) m (by show 0+32<=#[11];omega) #[0] (λj=>if c : 0+j<#[11] then T_ O kf a8 ((b0 st)[32]'#[0]) (b0 st)[0+j] else a8) (λj c _=>by rw[YP c]) (.inl ⟨rfl,rfl,?_,?_⟩) ?_)
 ·rw[YP #[0],V];unfold T_;rw[cn #[2]];have:=wi (k 0 #[0]);rw[show (b0 st)[0+0]'#[0]=X[0]'#[0] from C 0 #[0]];rw[show O.blt (kf (Y[0]'#[0]).1) (kf (X[0]'#[0]).1)=a8 from this];rfl
 ·rw[YP #[0],V];unfold T_;rw[cn #[2]];simp only[lk];rw[show (b0 st)[1]'#[0]=X[1]'#[0] from C 1 #[0],show O.blt (kf (Y[0]'#[0]).1) (kf (X[1]'#[0]).1)=a6 from K 0 #[0]];rfl
 try rw[0]
 rw[cn #[3]];refine eK (cG (show 0+1+(32-1)-1<#[11] by omega) ?_);have U:(b0 st)[0+1+(32-1)-1]'#[0]=X[32-1]'#[0]:=by have:=C (32-1) #[0];rw[← this]
 refine eK (yD L (by exact F) (gd _ #[0]) m (by show 32+32<=#[11];omega) #[0] (λj=>if c : 32+j<#[11] then T_ O kf a6 ((b0 st)[0+1+(32-1)-1]'#[0]) (b0 st)[32+j] else a8) (λj c _=>by rw[YP c]) (.inr ⟨rfl,rfl,?_,?_⟩) ?_)
 ·rw[YP #[0],U];unfold T_;rw[cc rfl,t (32-1) #[0]];exact wi (k (32-1) #[0])
 ·rw[YP #[0],U];unfold T_;rw[cc rfl,t (32-2) #[0]];have:=K (32-2) #[0];simp only[show 32-2+1=32-1 by omega] at this;exact this
 try rw[0]
 rw[cn #[3],cc #[0]];have ex:((b0 st).extract (0+1) 32).toList=X.drop 1:=by rw[W5,Tn,e,List.drop_append_of_le_length #[0],Qu (by rw[M3];omega)];exact y0 (by rw[M3];omega)
 have y:((b0 st).extract 32 (32+(32-1))).toList=Y.take (32-1):=by rw[W5,Tn,e,ada,Ta #[0],Zk,d,acW,aaz,Nat.add_sub_cancel_left]
 have lx:((b0 st).extract (0+1) 32).size=32-1:=by rw[← gz,ex,M3,d]
 have ly:((b0 st).extract 32 (32+(32-1))).size=32-1:=by rw[← gz,y,Qr,H];omega
 have P:∀ i (n:i<32-1),((b0 st).extract (0+1) 32)[i]'#[0]=X[i+1]'#[0]:=λi n=>by rw[abm,← C (i+1) #[0]];congr 1;omega
 have yb:∀ i (n:i<32-1),((b0 st).extract 32 (32+(32-1)))[i]'#[0]=Y[i]'#[0]:=λi n=>by rw[abm];exact t i #[0]
 refine eK (uJ (a:=(b0 st).extract (0+1) 32) (b:=(b0 st).extract 32 (32+(32-1))) L (by exact F) (λz hz=>by rw[ex] at hz;exact m z (by rw[e];simp[Ya hz])) (λz hz=>by rw[y] at hz;exact m z (by rw[e];simp[N_ hz])) #[0] #[0]
  (by rw[ex];exact D.sublist (acS _ _)) (by rw[y];exact N.sublist (ZW _ _)) (λi n=>by rw[P i #[0],yb i #[0]];exact K i #[0]) (λi n=>by rw[P i #[0],yb (i+1) #[0]];exact wi (k (i+1) #[0])) (by exact R4) λr hr=>?_)
 refine eK (WG (eK (TF (ka ?_))));rw[ex,y] at hr;have W:r.toList.length=(32-1)+(32-1):=by rw[hr.1.length_eq,cv,M3,Qr,d,H];omega
 have S:=writes r.toList (b0 st) (0+1) 0 (by rw[W,M];omega);have e1:(b0 st).toList.take (0+1)=X.take 1:=by rw[e,Qu #[0]]
 have e2:(b0 st).toList.drop (0+1+((32-1)+(32-1)))=Y.drop (32-1):=by rw[e,ada,Ta #[0],Zk,d]
 rw[add_zero,W,e1,e2] at S;show Q (C3 st).isNone _;rw[hf];have YX:(((#[(0,32,f),(32,32,g)]:hO (Nat×Nat×Nat)).setIfInBounds 0 (0,32+32,f)).eraseIdxIfInBounds (0+1)).size=1:=by rw[← gz,Array.toList_eraseIdxIfInBounds,U3];rfl
 refine h _ hf YX ?_;show Res O kf (X++Y) (WC (λa (x:pq×Nat)=>a.setIfInBounds (0+1+x.2) x.1) (b0 st) r.toList.zipIdx).toList;rw[S]
 have B:∀ {Z:ak pq},Z.Pairwise (Nz O kf)->∀ a b (ha:a<Z.length) (hb:b<Z.length),a<=b->Nz O kf Z[a] Z[b]:=by
  intro Z sZ a b ha hb Vu;rcases Rv a b with Nc |XM
  ·exact Qt.mp sZ a b ha hb Nc
  have e:a=b:=#[1]
  subst e;exact H4 _
 have J:∀ z∈X++Y,Nz O kf (X[0]'#[0]) z/\Nz O kf z (Y[32-1]'#[0]):=λz hz=>by
  rcases k6.mp hz with hz |hz
  ·obtain⟨j,c,rfl⟩:=T3 hz;exact⟨B D 0 j #[0] c (RC _),jG (B D j (32-1) c #[0] #[0]) (L6 (k (32-1) #[0]))⟩
  obtain⟨j,c,rfl⟩:=T3 hz;exact⟨jG (L6 (k 0 #[0])) (B N 0 j #[0] c (RC _)),B N j (32-1) c #[0] #[0]⟩
 have T:∀ z∈r.toList,z∈X++Y:=λz hz=>by
  rcases k6.mp (hr.1.mem_iff.mp hz) with hz |hz
  ·exact UE _ (Ya hz)
  exact mm _ (N_ hz)
 have x1:X.take 1=[X[0]'#[0]]:=by
  cases X with
  |nil=>simp at d
  |cons a l=>rfl
 have y1:Y.drop (32-1)=[Y[32-1]'#[0]]:=by rw[S8 #[0],Ta #[0]]
 refine⟨?_,?_⟩
 ·refine abb (Xu _ (aa0 _ hr.1)) ?_;have q1:X.take 1++((X.drop 1++Y.take (32-1))++Y.drop (32-1))=(X.take 1++X.drop 1)++(Y.take (32-1)++Y.drop (32-1)):=by simp only[j0]
  rw[q1,H8,H8]
 rw[x1,y1];refine E3.mpr ⟨T5 _ _,E3.mpr ⟨hr.2,T5 _ _,λu I v hv=>?_⟩,λu I v hv=>?_⟩
 ·rw[gA.mp hv];exact(J u (T u I)).2
 rw[gA.mp I];rcases k6.mp hv with hv |hv
 ·exact(J v (T v hv)).1
 rw[gA.mp hv];exact(J _ (mm _ (Ui _))).1
end
abbrev mH:acv pd Sem acf:=sortPriv% PySem.Builtin.sortRuns
abbrev bX:Nat->Nat->Nat->Nat:=sortPriv% PySem.Builtin.minRun
section
variable {prog:e8}{w:hL}{A:iv}{E:Lm}{s:bo}{kd:To}{O:rk}{kf:ax->O.α}{G:pq->Prop}
def Js {α:Type}(lt : α->α->eM)(d:ak α):Prop:=d.length=64/\(∃ a b c r,d=a::b::c::r/\lt a b=a6/\lt c b=a6)/\∃ a b c r,d.drop 32=a::b::c::r/\lt a b=a6/\lt c b=a6/\∃ X Y:ak α,X.length=32/\Y.length=32 /\
 (d.take 32).Perm X/\(d.drop 32).Perm Y/\X.Pairwise (λa b=>lt b a=a8)/\Y.Pairwise (λa b=>lt b a=a8)/\(∀ p∈X.zip Y,lt p.1 p.2=a6)/\∀ p∈Y.zip X.tail,lt p.1 p.2=a6
def Spec {α:Type}(lt : α->α->eM)(a:ak α):Prop:=(a.length<64/\a.Nodup)∨Js lt a
noncomputable def jh (kf:ax->O.α)(xs:hO pq):ak O.α:=xs.toList.map λp=>kf p.1
theorem jP {xs:hO pq}{i:Nat}{a:O.α}(h:(jh kf xs)[i]?=ag a):KX kf xs i=a:=by unfold jh at h;rw[dk] at h;obtain⟨p,b,rfl⟩:=d7.mp h;unfold KX;rw[show xs[i]?=ag p by simpa using b]
theorem wF {xs:hO pq}{lo n:Nat}(h:OK kf xs lo (lo+n))(d:lo+n<=xs.size):((xs.toList.drop lo).take n).Pairwise (Nz O kf):=by rw[Qt];intro i j a b c;rw[Qr,M3,gz] at a b;have q:=h (lo+i) (lo+j) #[0] #[0] #[0];rw[nT #[0],nT #[0]] at q;show O.kle _ _;simpa using q
theorem CW {a b:O.α}(c:O.kle a b)(d:O.kle b a):a=b:=O.total _ _ d c
structure UZ (G:pq->Prop) (kd:To) (kf:ax->O.α) (st Lx:pd) (p:hO (Nat×Nat×Nat)):Prop where
 kind:kindOf Lx=kd
 good:∀ x∈(b0 Lx).toList,G x
 fail:C3 Lx=a4
 Vs : 2<=Wc Lx
 perm:(b0 Lx).Perm (b0 st)
 pend:lg Lx=p
 tk:((b0 Lx).toList.take 32).Perm ((b0 st).toList.take 32)
 ts:((b0 Lx).toList.take 32).Pairwise (Nz O kf)
theorem uY {xs ys:hO pq}{lo n:Nat}(f:ys.Perm xs)(h:lo+n<=xs.size)(same:∀ k,(k<lo∨lo+n<=k)->ys[k]?=xs[k]?):ys.toList.take lo=xs.toList.take lo/\ys.toList.drop (lo+n)=xs.toList.drop (lo+n)/\((ys.toList.drop lo).take n).Perm ((xs.toList.drop lo).take n):=by
 have b:ys.toList.take lo=xs.toList.take lo:=by
  apply W8;intro i;rw[aak,aak];split
  ·rename_i g;simpa using same i (.inl g)
  rfl
 have c:ys.toList.drop (lo+n)=xs.toList.drop (lo+n):=by apply W8;intro i;rw[Wg,Wg];simpa using same (lo+n+i) (.inr #[0])
 have d:∀ a:hO pq,a.toList=a.toList.take lo++((a.toList.drop lo).take n++a.toList.drop (lo+n)):=λa=>by rw[← List.drop_drop,H8,H8]
 have e:=U2.mp f;rw[d ys,d xs,b,c] at e;exact⟨b,c,(List.perm_append_right_iff _).mp ((List.perm_append_left_iff _).mp e)⟩
theorem Ad {xs:hO pq}{lo:Nat}(u:O.blt (KX kf xs lo) (KX kf xs (lo+1))=a6):OK kf xs lo (lo+2):=λi j a b c=>by
 have:i=j∨i=lo/\j=lo+1:=#[1]
 rcases this with rfl |⟨rfl,rfl⟩
 ·exact H4 _
 exact L6 u
theorem qy (L:qq prog w A E s kd O kf G){st:pd}{Q:acf->pd->Prop}(hk:kindOf st=kd)(hg:∀ x∈(b0 st).toList,G x)(hf:C3 st=a4)(hp:lg st = #[])(R4 : 2<=Wc st)(sp:Js O.blt (jh kf (b0 st)))
  (h:∀ d,(b0 d).Perm (b0 st)->C3 d=a4->OK kf (b0 d) 0 #[11]->Q () d):wpS #[5] A E s mH Q st:=by
 obtain⟨Zf,⟨a,b,c,r,F,R,d0⟩,a1,b1,c1,r1,W,u1,d1,X,Y,lX,lY,V,pY,sX,sY,xy,yx⟩:=sp;have C:(jh kf (b0 st)).length=#[11]:=by unfold jh;rw[dv,gz]
 rw[C] at Zf;have R:O.blt (KX kf (b0 st) 0) (KX kf (b0 st) 1)=a6:=by rw[jP (i:=0) (by rw[F];rfl),jP (i:=1) (by rw[F];rfl)];exact R
 have d0:#[11]=2∨O.blt (KX kf (b0 st) 2) (KX kf (b0 st) 1)=a6:=.inr (by rw[jP (i:=2) (by rw[F];rfl),jP (i:=1) (by rw[F];rfl)];exact d0);have S0:∀ lo m,Sg G kd lo m st st:=λlo m=>⟨hk,hg,Wv _,rfl,rfl,rfl,λ_ _=>rfl⟩;refine eK (TF ?_);rw[0];have m64:bX #[11] #[11] 0=32:=by rw[Zf];rfl
 refine eK (U1 (Qh (I:=λx c d=>x=0/\c=(a4,0)/\d=st∨x=1/\c=(a4,32)/\UZ G kd kf st d #[(0,32,0)]/\(b0 d).toList.drop 32=(b0 st).toList.drop 32∨2<=x/\c=(a4,64)/\∃ o,UZ G kd kf st d #[(0,32,o),(32,32,0)]/\((b0 d).toList.drop 32).Perm ((b0 st).toList.drop 32)/\((b0 d).toList.drop 32).Pairwise (Nz O kf))
  (Q:=λc d=>c=(a4,64)/\∃ o,UZ G kd kf st d #[(0,32,o),(32,32,0)]/\((b0 d).toList.drop 32).Perm ((b0 st).toList.drop 32)/\((b0 d).toList.drop 32).Pairwise (Nz O kf)) ?s1 ?f1 (.inl ⟨rfl,rfl,rfl⟩)) ?p1)
 case f1 =>
  rintro c d (⟨q,_⟩ |⟨q,_⟩ |⟨_,P⟩)
  ·have q:max 0 #[11]=0:=q;omega
  ·have q:max 0 #[11]=1:=q;omega
  exact P
 case s1 =>
  rintro x c d _ hx (⟨rfl,rfl,rfl⟩ |⟨rfl,rfl,H,hd⟩ |⟨P,rfl,o,H,hd⟩)
  ·rw[0];rw[cn #[0]];refine eK (uI L hk hg (by show 0+((b0 d).size-0)<=(b0 d).size;omega) (by show 2<=(b0 d).size-0;omega) (by simpa using R) (.inr (by simpa using d0.resolve_left #[0])) ?_);rw[0];rw[cc (show 2<bX (b0 d).size (b0 d).size 0 by omega)];refine eK (Zt (O8 ⟨rfl,?_⟩));refine eK (iV (n:=XP ((b0 d).size-0) (bX (b0 d).size (b0 d).size 0)) L (S0 0 _) #[0] #[0] (Ad (by simpa using R)) λf e D=>?_);rw[cn #[2]];refine eK (TF ?_);have hb:(lg f).back?=a4:=by rw[e.pend,hp];rfl
   rw[show (#[23]) f=lg f from rfl,hb];rw[0];have t:XP ((b0 d).size-0) (bX (b0 d).size (b0 d).size 0)=32:=#[1]
   have T:(lg f).push (0,XP ((b0 d).size-0) (bX (b0 d).size (b0 d).size 0),0) = #[(0,32,0)]:=by rw[e.pend,hp,t];rfl
   have S:((a4:a5 acf),0+XP ((b0 d).size-0) (bX (b0 d).size (b0 d).size 0))=(a4,32):=by rw[t]
   rw[t] at e D;have XF:=e.size;obtain⟨_,q2,u⟩:=uY e.perm #[0] e.same;have v:=wF D #[0];rw[aaz] at u v;rw[aaz] at u;exact eK (WG (ka (.inr (.inl ⟨rfl,S,⟨e.kind,e.good,e.fail.trans hf,by show 2<=Wc f;rw[e.Vs];exact R4,e.perm,T,u,v⟩,by simpa using q2⟩))))
  ·rw[0];have sz':(b0 d).size=#[11]:=H.perm.size_eq
   have J:∀ {k:Nat}{z:O.α},(a1::b1::c1::r1)[k]?=ag z->KX kf (b0 d) (32+k)=z:=λ{k z} hz=>by
    have e1:(b0 d).toList[32+k]?=(b0 st).toList[32+k]?:=by rw[← Wg,← Wg,hd]
    rw[wL (ys:=b0 st) (j:=32+k) (by simpa using e1)];exact jP (by rw[← Wg,W];exact hz)
   have u':O.blt (KX kf (b0 d) 32) (KX kf (b0 d) (32+1))=a6:=by have:=J (k:=0) rfl;rw[add_zero] at this;rw[this,J (k:=1) rfl];exact u1
   rw[cn (show ¬ 32≥#[11] by omega)];refine eK (uI L H.kind H.good (by show 32+(#[11]-32)<=(b0 d).size;omega) (by show 2<=#[11]-32;omega) u' (.inr (by rw[J (k:=2) rfl,J (k:=1) rfl];exact d1)) ?_);rw[0];rw[cc (show 2<bX #[11] #[11] 0 by omega)];refine eK (Zt (O8 ⟨rfl,?_⟩));refine eK (iV (n:=XP (#[11]-32) (bX #[11] #[11] 0)) (st0:=d) L ⟨H.kind,H.good,Wv _,rfl,rfl,rfl,λ_ _=>rfl⟩ #[0] #[0] (Ad u') λf e D=>?_);rw[cn #[2]];refine eK (TF ?_);have t:XP (#[11]-32) (bX #[11] #[11] 0)=32:=#[1]
   have hb:(lg f).back?=ag (0,32,0):=by rw[e.pend,H.pend];rfl
   rw[show (#[23]) f=lg f from rfl,hb];rw[0];refine eK (ii (show 0<#[11] by omega) ?_);refine eK (TF ?_);rw[show (#[23]) f=lg f from rfl,cn (show ¬ (lg f).size > 1 by rw[e.pend,H.pend];decide)];refine ka ?_;rw[0];have T:∀ o,((lg f).modify ((lg f).size-1) λx=>(x.1,x.2.1,o)).push (32,XP (#[11]-32) (bX #[11] #[11] 0),0) = #[(0,32,o),(32,32,0)]:=λo=>by rw[e.pend,H.pend,t];rfl
   have S:((a4:a5 acf),32+XP (#[11]-32) (bX #[11] #[11] 0))=(a4,64):=by rw[t]
   rw[t] at e D;have XF:=e.size;obtain⟨q1,_,u⟩:=uY e.perm #[0] e.same;have v:=wF D #[0];have full:∀ K:hO pq,K.size=64->(K.toList.drop 32).take 32=K.toList.drop 32:=λK hz=>y0 (by rw[M3,gz];omega);rw[full _ #[0],full _ #[0],hd] at u;rw[full _ #[0]] at v;exact eK (WG (eK (WG (ka (.inr (.inr ⟨#[1],S,_,⟨e.kind,e.good,e.fail.trans H.fail,by show 2<=Wc f;rw[e.Vs];exact H.Vs,e.perm.trans H.perm,T _,by rw[show (b0 f).toList.take 32=(b0 d).toList.take 32 from q1];exact H.tk,by rw[show (b0 f).toList.take 32=(b0 d).toList.take 32 from q1];exact H.ts⟩,u,v⟩))))))
  rw[0];rw[cc (show 64≥#[11] by omega)];exact ka ⟨rfl,o,H,hd⟩
 case p1 =>
  rintro c d ⟨rfl,o,H,hd,TN⟩;rw[0];have sz':(b0 d).size=#[11]:=H.perm.size_eq
  have B:∀ {M N:ak pq}{Z:ak O.α},M.Perm N->(N.map λp=>kf p.1).Perm Z->M.Pairwise (Nz O kf)->Z.Pairwise O.kle->M.map (λp=>kf p.1)=Z:=λ{M N Z} p1 p2 s1 s2 =>
   qs (λ_ _ _ _=>CW) (Ml.mpr s1) s2 ((p1.map _).trans p2)
  have hX:=B H.tk (by unfold jh at V;rw[← acX] at V;exact V) H.ts sX;have hY:=B hd (by unfold jh at pY;rw[← acY] at pY;exact pY) TN sY;have l1:((b0 d).toList.take 32).length=32:=by rw[Qr,gz];omega
  have l2:((b0 d).toList.drop 32).length=32:=by rw[M3,gz];omega
  have gX:∀ i (m:i<32),kf (((b0 d).toList.take 32)[i]'#[0]).1=X[i]'#[0]:=λi m=>by simp only[← hX,adb]
  have gY:∀ i (m:i<32),kf (((b0 d).toList.drop 32)[i]'#[0]).1=Y[i]'#[0]:=λi m=>by simp only[← hY,adb]
  have U:∀ i (m:i<32),O.blt (X[i]'#[0]) (Y[i]'#[0])=a6:=λi m=>by have:=xy _ (Ui (l:=X.zip Y) (n:=i) (by rw[adA];omega));rw[ade] at this;exact this
  have yx':∀ i (m:i+1<32),O.blt (Y[i]'#[0]) (X[i+1]'#[0])=a6:=λi m=>by have:=yx _ (Ui (l:=Y.zip X.tail) (n:=i) (by rw[adA,List.length_tail];omega));rw[ade,List.getElem_tail] at this;exact this
  refine eK (U1 (Qh (I:=λy c g=>y=0/\c=(a4,())/\g=d∨0<y/\c=(a4,())/\C3 g=a4/\(lg g).size=1/\Res O kf (b0 d).toList (b0 g).toList)
   (Q:=λc g=>c=(a4,())/\C3 g=a4/\(lg g).size=1/\Res O kf (b0 d).toList (b0 g).toList) ?s2 ?f2 (.inl ⟨rfl,rfl,rfl⟩)) ?p2)
  case f2 =>
   rintro c g (⟨q,_⟩ |⟨_,P⟩)
   ·have q:max 0 #[11]=0:=q;omega
   exact P
  case p2 =>
   rintro c g ⟨rfl,f2,_,r2⟩;refine ka (h g ((U2.mpr r2.1).trans H.perm) f2 λi j _ Q7 hj=>?_);have sz2:(b0 g).size=(b0 d).size:=by have:=r2.1.length_eq;rw[4]
   rw[nT #[0],nT #[0]];rcases Rv i j with Nc |XM
   ·have:=Qt.mp r2.2 i j (by rw[gz];omega) (by rw[gz];omega) Nc;simpa [Nz] using this
   obtain rfl:i=j:=#[1]
   exact H4 _
  case s2 =>
   rintro y c g _ hy (⟨rfl,rfl,rfl⟩ |⟨_,rfl,z⟩)
   ·refine eK (TF ?_);rw[show (#[23]) g=lg g from rfl,H.pend,cn (show ¬ (#[(0,32,o),(32,32,0)]:hO (Nat×Nat×Nat)).size<=1 by show ¬ 2<=1;decide)];refine eK (uK L H.kind H.good H.fail H.Vs H.pend (H8 32 _).symm l1 l2 H.ts TN (λi m=>by rw[gX i m,gY i m];exact U i m) (λi m=>by rw[gX (i+1) m,gY i #[0]];exact yx' i m) λf f3 p3 r3=>?_);rw[H8] at r3;exact ka (.inr ⟨#[1],rfl,f3,p3,r3⟩)
   refine eK (TF ?_);rw[show (#[23]) g=lg g from rfl,cc (aaM z.2.1)];exact ka ⟨rfl,z⟩
end
section
variable {prog:e8}{w:hL}{A:iv}{E:Lm}{s:bo}{kd:To}{O:rk}{kf:ax->O.α}{G:pq->Prop}
theorem wE {xs:hO pq}{n:Nat}(h:OK kf xs 0 n)(h0 : 0<n)(e:O.blt (KX kf xs n) (KX kf xs (n-1))=a8):OK kf xs 0 (n+1):=by
 intro i j a b f;by_cases d:j=n
 ·subst d;by_cases c:i=j
  ·subst c;exact H4 _
  exact J7 (h i (j-1) a #[0] #[0]) e
 exact h i j a b #[0]
theorem DA {a b:O.α}(h:O.blt b a=a8)(c:a≠b):O.blt a b=a6:=by
 cases q:O.blt a b with
 |true=>rfl
 |false=>exact ib (O.total _ _ q h) c
theorem qA (L:qq prog w A E s kd O kf G){st:pd}{Q:a5 Nat->pd->Prop}(v:kindOf st=kd)(N:∀ x∈(b0 st).toList,G x)(X : 2<=#[11])
  (hd:∀ i j,i<j->j<#[11]->KX kf (b0 st) i≠KX kf (b0 st) j)
  (h:∀ n d,(∀ l,Sg G kd 0 (max l #[11]) st d)->2<=n->n<=#[11]->OK kf (b0 d) 0 n->Q (ag n) d):wpS #[5] A E s (sD 0 #[11]) Q st:=by
 have p:∀ l,Sg G kd 0 l st st:=λl=>⟨v,N,Wv _,rfl,rfl,rfl,λ_ _=>rfl⟩;generalize U:#[11]=NY at *
 refine eK (U1 (Qh (I:=λx c d=>d=st/\c=(a4,x)/\OK kf (b0 st) 0 x)
  (Q:=λc d=>d=st/\∃ n,c=(a4,n)/\1<=n/\n<=NY/\OK kf (b0 st) 0 n/\(n<NY->O.blt (KX kf (b0 st) n) (KX kf (b0 st) (n-1))=a6)) ?s1 ?f1 ⟨rfl,rfl,λi j a b c=>by
   have:i=j:=#[1]
   subst this;exact H4 _⟩) ?p1)
 case s1 =>
  rintro x c d t D ⟨rfl,rfl,g⟩
  try rw[0]
  refine eK (cY L (p 0) #[0] #[0] ?_);rw[lk];cases hb:O.blt (KX kf (b0 d) x) (KX kf (b0 d) (x-1)) with
  |true=>exact ka ⟨rfl,x,rfl,t,#[1],g,λ_=>hb⟩
  |false=>exact ka ⟨rfl,rfl,wE g t hb⟩
 case f1 =>
  rintro c d ⟨rfl,rfl,g⟩;exact⟨rfl,_,rfl,#[1],#[1],g,λW=>#[1]⟩
 case p1 =>
  rintro c d ⟨rfl,n,rfl,K,C,g,hb⟩
  try rw[0]
  by_cases u:(n==NY)=a6
  ·rw[cc u];have:n=NY:=by simpa using u
   exact ka (h n d (λl=>p _) #[0] C g)
  rw[cn u];have V:n≠NY:=by simpa using u
  have hb:=hb #[0];by_cases y:n > 1
  ·rw[cc y];refine eK (cY L (p 0) #[0] #[0] ?_);rw[lk,DA (g 0 (n-1) (e9 _) #[0] #[0]) (hd 0 (n-1) #[0] #[0])];exact ka (h n d (λl=>p _) y C g)
  rw[cn y];have:n=1:=#[1]
  subst this;refine eK (Zt (O8 ⟨rfl,?_⟩))
  refine eK (U1 (Qh (I:=λx c f=>f=d/\c=(a4,x,0)/\∀ i j,i<j->j<x->O.blt (KX kf (b0 d) j) (KX kf (b0 d) i)=a6)
   (Q:=λc f=>f=d/\∃ m,c=(a4,m,0)/\2<=m/\m<=NY/\∀ i j,i<j->j<m->O.blt (KX kf (b0 d) j) (KX kf (b0 d) i)=a6) ?_ ?_ ⟨rfl,rfl,λi j a b=>?_⟩) ?_)
  ·rintro x c f t D ⟨rfl,rfl,q⟩
   try rw[0]
   refine eK (cY L (p 0) #[0] #[0] ?_);rw[lk];cases Vv:O.blt (KX kf (b0 f) x) (KX kf (b0 f) (x-1)) with
   |true =>
    try rw[0]
    rw[cc rfl,cn #[0]];refine ka ⟨rfl,rfl,λi j a b=>?_⟩;by_cases J:j=x
    ·subst J;by_cases l:i=j-1
     ·subst l;exact Vv
     exact O.trans _ _ _ Vv (q i (j-1) #[0] #[0])
    exact q i j a #[0]
   |false =>
    try rw[0]
    rw[cn #[2]];refine eK (cY L (p 0) #[0] #[0] ?_);rw[lk,DA Vv (hd (x-1) x #[0] #[0])];exact ka ⟨rfl,x,rfl,t,#[1],q⟩
  ·rintro c f ⟨rfl,rfl,q⟩;exact⟨rfl,_,rfl,#[1],#[1],q⟩
  ·have:i=0/\j=1:=#[1]
   obtain⟨rfl,rfl⟩:=this;exact hb
  rintro c f ⟨rfl,m,rfl,T,Z,q⟩
  try rw[0]
  rw[cn #[0]];rw[show (0:Nat)+m=m by omega];refine eK (show wpS _ _ _ _ (reverseSlice' 0 m) _ _ from ?_);rw[reverseSlice'_eq];refine WG ?_;have F:=λk=>getElem?_mirror_all (xs:=b0 f) (i:=0) (j:=m) #[0] k;have z:∀ l,Sg G kd 0 (max l NY) f (ad9 f (mirror (b0 f) 0 m ((m-0) / 2))):=λl=>(p _).set (mirror_perm _ _ _ _) λk Y=>by rw[F k,cn #[0]]
  have r:OK kf (b0 (ad9 f (mirror (b0 f) 0 m ((m-0) / 2)))) 0 m:=by
   have B:∀ k,k<m->KX kf (b0 (ad9 f (mirror (b0 f) 0 m ((m-0) / 2)))) k=KX kf (b0 f) (m-1-k):=λk v=>by have:=F k;rw[cc ⟨RC _,v⟩] at this;exact wL (by rw[lk] at this;exact this)
   intro i j a1 a2 M;rw[B i #[0],B j M];by_cases e:i=j
   ·subst e;exact H4 _
   exact L6 (q (m-1-j) (m-1-i) #[0] #[0])
  generalize ad9 f (mirror (b0 f) 0 m ((m-0) / 2))=TK at z r ⊢
  refine eK (U1 (Qh (I:=λx c o=>o=TK/\c=(a4,x)/\OK kf (b0 TK) 0 x)
   (Q:=λc o=>o=TK/\∃ n,c=(a4,n)/\2<=n/\n<=NY/\OK kf (b0 TK) 0 n) ?_ ?_ ⟨rfl,rfl,r⟩) ?_)
  ·rintro x c o t D ⟨rfl,rfl,g⟩
   try rw[0]
   refine eK (cY L (z 0) #[0] #[0] ?_);rw[lk];cases Vv:O.blt (KX kf (b0 o) x) (KX kf (b0 o) (x-1)) with
   |true=>exact ka ⟨rfl,x,rfl,#[1],#[1],g⟩
   |false=>exact ka ⟨rfl,rfl,wE g #[0] Vv⟩
  ·rintro c o ⟨rfl,rfl,g⟩;exact⟨rfl,_,rfl,#[1],#[1],g⟩
  rintro c o ⟨rfl,P,rfl,S,R,H⟩;exact ka (h P o z S R H)
theorem qz (L:qq prog w A E s kd O kf G){st:pd}{Q:acf->pd->Prop}(C:kindOf st=kd)(N:∀ x∈(b0 st).toList,G x)(P:C3 st=a4)(r:lg st = #[])(n2 : 2<=#[11])(S:#[11]<64)
  (hd:∀ i j,i<j->j<#[11]->KX kf (b0 st) i≠KX kf (b0 st) j)
  (h:∀ a,(b0 a).Perm (b0 st)->C3 a=a4->OK kf (b0 a) 0 #[11]->Q () a):wpS #[5] A E s mH Q st:=by
 refine eK (TF ?_);rw[0]
 refine eK (U1 (Qh (I:=λx c a=>x=0/\c=(a4,0)/\a=st∨0<x/\c=(a4,#[11])/\(b0 a).Perm (b0 st)/\C3 a=a4/\OK kf (b0 a) 0 #[11]/\(lg a).size<=1)
   (Q:=λc a=>c=(a4,#[11])/\(b0 a).Perm (b0 st)/\C3 a=a4/\OK kf (b0 a) 0 #[11]/\(lg a).size<=1) ?s1 ?f1 (.inl ⟨rfl,rfl,rfl⟩)) ?p1)
 case f1 =>
  rintro c a (⟨B,_⟩ |⟨_,e⟩)
  ·have B:max 0 #[11]=0:=B;omega
  exact e
 case p1 =>
  rintro c a ⟨rfl,a1,a2,q,o⟩;rw[0];refine eK (ii (show 0<#[11] by omega) ?_);refine eK (TF ?_);rw[show (#[23]) a=lg a from rfl,cc o];exact ka (ka (h a a1 a2 q))
 case s1 =>
  rintro x c a _ R (⟨rfl,rfl,rfl⟩ |⟨_,rfl,a1,a2,q,o⟩)
  ·rw[0];rw[cn #[0]];rw[show (b0 a).size-0=(b0 a).size from rfl];refine eK (qA L C N n2 hd λn f K D H m=>?_);rw[0]
   have v:bX (b0 a).size (b0 a).size 0=(b0 a).size:=by
    cases hsz:(b0 a).size with
    |zero=>omega
    |succ k=>exact cc #[0]
   have p:Sg G kd 0 (0+(b0 a).size) a f:=by have:=K 0;rw[Nat.max_eq_right (RC _)] at this;rw[4]
   have done:∀ (b:pd) (n:Nat),n=(b0 a).size->Sg G kd 0 (0+n) a b->OK kf (b0 b) 0 n->∀ d,b0 d=b0 b->C3 d=C3 b->lg d=(lg b).push (0,n,0)->0<0+1/\((a4:a5 acf),0+n)=(a4,(b0 a).size)/\(b0 d).Perm (b0 a)/\C3 d=a4/\OK kf (b0 d) 0 (b0 a).size/\(lg d).size<=1:=λb n z g m d t F J=>by refine⟨#[1],by rw[z,lk],by rw[t];exact g.perm,by rw[F,g.fail];exact P,by rw[t,← z];exact m,by rw[J,g.pend,r];exact e9 _⟩
   by_cases e:n<bX (b0 a).size (b0 a).size 0
   ·rw[cc e];refine eK (Zt (O8 ⟨rfl,?_⟩));have l:XP (b0 a).size (bX (b0 a).size (b0 a).size 0)=(b0 a).size:=by rw[v];omega
    refine eK (iV (n:=XP (b0 a).size (bX (b0 a).size (b0 a).size 0)) L (by rw[l];exact p) (by rw[l];omega) (by rw[l];exact H) (by rw[lk];exact m) λb y M=>?_);rw[cn #[2]];refine eK (TF ?_);have hb:(lg b).back?=a4:=by rw[y.pend,r];rfl
    rw[show (#[23]) b=lg b from rfl,hb];rw[0];exact eK (WG (ka (.inr (done b _ l y (by simpa using M) _ rfl rfl rfl))))
   rw[cn e];refine eK (TF ?_);have hb:(lg f).back?=a4:=by rw[p.pend,r];rfl
   rw[show (#[23]) f=lg f from rfl,hb];rw[0];have u:n=(b0 a).size:=by rw[v] at e;omega
   exact eK (WG (ka (.inr (done f n u (by rw[u];exact p) m _ rfl rfl rfl))))
  rw[0];rw[cc (e9 _)];exact ka ⟨rfl,a1,a2,q,o⟩
end
def qp (prog:e8)(w:hL)(e:bo)(vs:ak ax)(O:rk)(kf:ax->O.α):Prop:=∃ d:To,∀ (A:iv) (E:Lm) (a:bo),A.units+8<nq->(∀ b o,e.heap.get? b=ag o->a.heap.get? b=ag o) ->
 (2<=vs.length->∀ c:To->bo->Prop,c d a->dr #[5] A (acO vs.toArray) c E a)/\qq prog w A E a d O kf (λp=>p.1∈vs)
theorem iR:∀ {vs:ak ax}{p:ax×ax},p∈vs.zip vs->p.1=p.2/\p.1∈vs
 |[],_,h=>by simp at h
 |v::vs,p,h=>by
  rw[aal] at h;rcases fx.mp h with e |h
  ·subst e;exact⟨rfl,by simp⟩
  obtain⟨a,b⟩:=iR h;exact⟨a,ee _ b⟩
theorem sR:∀ (vs:ak ax),(vs.zip vs).map (·.2)=vs
 |[]=>rfl
 |v::vs=>by rw[aal,fh,sR vs]
section
variable {prog:e8}{w:hL}{A:iv}{E:Lm}{s:bo}{O:rk}{kf:ax->O.α}
theorem yW {vs:ak ax}{xs:hO pq}(e:xs.Perm (WY vs))(ha:OK kf xs 0 (WY vs).size):(xs.map (·.2)).toList.Perm vs/\(xs.map (·.2)).toList.Pairwise λa b=>O.kle (kf a) (kf b):=by
 have c:=U2.mp e;rw[abJ] at c;refine⟨?_,?_⟩
 ·have:=c.map (·.2);rw[sR] at this;rw[adf];exact this
 rw[adf,Ml,Qt];intro i j g h k;have f:i<xs.size:=by simpa using g
 have d:j<xs.size:=by simpa using h
 have q:=ha i j (RC _) (J8 k) (by rw[← e.size_eq];exact d);rw[nT f,nT d] at q;have l:=(iR (c.mem_iff.mp (H7 f))).1;have m:=(iR (c.mem_iff.mp (H7 d))).1;rw[l,m] at q;simpa using q
def uy (prog:e8)(w:hL)(O:rk)(kf:ax->O.α)(vs:ak ax):Prop:=∀ (A:iv) (E:Lm) (s:bo) (b:To) (G:pq->Prop),qq prog w A E s b O kf G->∀ (st:pd) (Q:acf->pd->Prop),
 kindOf st=b->(∀ x∈(b0 st).toList,G x)->C3 st=a4->lg st = #[]->2<=Wc st->b0 st=WY vs->(∀ a,(b0 a).Perm (b0 st)->C3 a=a4->OK kf (b0 a) 0 #[11]->Q () a)->wpS #[5] A E s mH Q st
theorem pM (vs:ak ax):jh kf (WY vs)=vs.map kf:=by unfold jh;rw[abJ];exact(Ua λp a=>by rw[(iR a).1];rfl).trans ((rT (g:=kf) (f:=λp:ax×ax=>p.2)).symm.trans (by rw[sR]))
theorem i7 {vs:ak ax}(b : 2<=vs.length)(o:vs.length<64)(hd:(vs.map kf).Nodup):uy prog w O kf vs:=λA E s p G L st Q a1 a2 g f q c h=>by
 have n:#[11]=vs.length:=by rw[c,aa1]
 refine qz L a1 a2 g f #[0] #[0] (λi j r l=>?_) h
 have e:∀ k,k<vs.length->(vs.map kf)[k]?=ag (KX kf (b0 st) k):=λk m=>by
  have d:(jh kf (b0 st))[k]?=(vs.map kf)[k]?:=by rw[c,pM]
  rw[← d,a7 (by unfold jh;rw[dv,gz];omega)];exact q7 ag (jP (a7 _)).symm
 intro z;have a:=e i #[0];have b:=e j #[0];rw[z,← b] at a;exact ib ((aaX (by rw[dv];omega) hd).mp a) #[0]
theorem Ax {vs:ak ax}(d : 2<=vs.length)(sp:Spec O.blt (vs.map kf)):uy prog w O kf vs:=by
 rcases sp with ⟨h,nd⟩ |sp
 ·exact i7 d (by rw[dv] at h;exact h) nd
 exact λA E s f G L st Q a1 a2 b a c e h=>qy L a1 a2 b a c (by rw[e,pM];exact sp) h
theorem vI {a:bc}{vs:ak ax}{n:Nat}{P:Fin->bo->Prop}{q:bo}(f:s.heap.get? a=ag (U0 "list" vs.toArray n))(G:vs.length<=da)(t:A.units+8<nq)(g : 2<=vs.length->qp prog w q vs O kf/\uy prog w O kf vs)(C:∀ b o,q.heap.get? b=ag o->b≠a/\#[19]=ag o)
  (h:∀ out:hO ax,out.toList.Perm vs->(out.toList.Pairwise λa b=>O.kle (kf a) (kf b))->P (.done (.ret .none)) { s with heap:=sortedHeap s.heap a vs out }) :
  dr #[5] A (Builtin.«list.sort» ⟨[.ref a],[]⟩) P E s:=by
 have N:a<s.heap.objs.size:=en f;have H:vs.toArray.size<=da:=by simpa using G
 rw[list_sort_plain];refine av (UC f rfl ?_);refine av (acd f rfl ?_ (hsz:=H));have l:=get?_update_seq f (λ_ => #[]);refine av (adv l rfl ?_);refine av (abD ?_);refine av (aaf ?_);refine vl ?_;generalize M:(if (#[]:hO ax).size==vs.toArray.size then n else n+1)=e1 at l;have z:∀ b o,q.heap.get? b=ag o->(((s.heap.update a (Tx λ_ => #[])).push (U0 "tuple" vs.toArray 0)).push (U0 "list" #[] 0)).get? b=ag o:=by intro b o J;obtain⟨I,p⟩:=C b o J;refine a9 _ (a9 _ ?_);rw[Heap.get?_update_ne _ _ _ _ I];exact p
 have k:(((s.heap.update a (Tx λ_ => #[])).push (U0 "tuple" vs.toArray 0)).push (U0 "list" #[] 0)).get? a=ag (U0 "list" #[] e1):=a9 _ (a9 _ l);show dr #[5] A _ P E { s with heap:=((s.heap.update a (Tx λ_ => #[])).push (U0 "tuple" vs.toArray 0)).push (U0 "list" #[] 0) };rw[0];by_cases c:vs.toArray.size<2
 ·rw[cc c,cc c];refine av (ay ?_);rw[StateT.run_pure];refine av (ay ?_);rw[0];refine av (adv k rfl ?_);refine av (acd k rfl ?_ (hsz2:=by rw[size_map];show (WY vs).size<=_;rw[aa1];omega));simp only[Z6,gh,la]
  obtain⟨o1,o2⟩:=yW (kf:=kf) (vs:=vs) (xs:=WY vs) (Wv _) (λi j a1 a2 m=>by
   have:i=j:=by rw[aa1] at m;simp at c;omega
   subst this;exact H4 _)
  exact ay (h _ o1 o2)
 rw[cn c,cn c];have y : 2<=vs.length:=by simp at c;omega
 obtain⟨⟨u,g⟩,F⟩:=g y;refine av ((g A _ _ t z).1 y _ ?_)
 refine av (ro (F A _ _ u _ (g A _ _ t z).2 (SortSt.mk' u (vs.toArray.zip vs.toArray) #[] 7 a4) (λ_ d=>(b0 d).Perm (WY vs)/\C3 d=a4/\OK kf (b0 d) 0 (WY vs).size)
  rfl (λx B=>?_) rfl rfl (show 2<=7 by decide) rfl λd a1 a2 m=>⟨a1,a2,m⟩) ?_ λ_ _ e=>e)
 ·have r:x∈(WY vs).toList:=B;rw[abJ] at r;exact(iR r).2
 rintro⟨⟨⟩,d⟩ L ⟨rfl,v,K,D⟩;rw[0];obtain⟨o1,o2⟩:=yW v D;refine av (adv k rfl ?_);refine av (acd k rfl ?_ (hsz2:=by refine fg (aaM ((size_map ..).trans (v.size_eq.trans (aa1 _)))) ?_;omega));rw[K];simp only[Z6,gh,la];exact ay (h _ o1 o2)
theorem tw {x:ax}{Q:Lm}(k:A.units+20<nq)
  (h:dr #[5] A.in1 (collect x) (λvs c=>vs.length<=da/\∃ (O:rk) (kf:ax->O.α),(2<=vs.length->qp prog w c vs O kf/\uy prog w O kf vs) /\
   ∀ (out:hO ax) h' ep,out.toList.Perm vs->(out.toList.Pairwise λa b=>O.kle (kf a) (kf b))->(∀ b o,c.heap.get? b=ag o->h'.get? b=ag o)->h'.get? c.heap.objs.size=ag (U0 "list" out ep) ->
    Q (.ref c.heap.objs.size) { c with heap:=h' }) E s):dr #[5] A (call (.builtin "sorted") [x]) Q E s:=by
 refine VP adq acP acQ (acR _) ?_;unfold Builtin.«sorted»;refine av (m:=adW "sorted" 1 1 _) (ay ?_);refine av (ro h (λvs c f=>?_) λ_ _ z=>z);obtain⟨g,O,kf,i,q⟩:=f;refine av (aaf ?_);have d:(c.heap.push (U0 "list" vs.toArray 0)).get? c.heap.objs.size=ag (U0 "list" vs.toArray 0):=er _ rfl;refine av (vl (mi aby ⟨_,d,rfl⟩ aa_ (vI d g (by show A.units+1+1+8<nq;omega) i (λb o e=>⟨m3 (en e),a9 _ e⟩) λout a1 a2=>⟨_,rfl,?_⟩) (abz _)));obtain⟨ep,j⟩:=aca (out:=out) d
 exact ay ⟨_,rfl,q out _ ep a1 a2 (λb o e=>by
  rw[abA (m3 (en e)) (by rw[adX];exact UJ (en e))]
  exact a9 _ e) j⟩
end
structure Ue where
 O:rk
 keyOf:ax->a5 O.α
 dflt:O.α
 ty:Uk
 nt:(r4 ty != r4 "tuple")=a6
 typ:∀ v a,keyOf v=ag a->typeOf v=wh (.type ty)
 fst:∀ v a,keyOf v=ag a->UL v=wh a4
 eqB:∀ {prog:e8}{w:hL}{A:iv}{E:Lm}{s:bo}{x y:ax}{a b:O.α}{Q:eM->bo->Prop},keyOf x=ag a->keyOf y=ag b->Q (!O.blt a b&&!O.blt b a) s->dr (eG prog w) A (eqBool x y) Q E s
 lt:∀ {prog:e8}{w:hL}{A:iv}{E:Lm}{s:bo}{x y:ax}{a b:O.α}{Q:eM->bo->Prop}(o:eM),keyOf x=ag a->keyOf y=ag b->Q (O.blt a b) s->dr (eG prog w) A (oneLt' o x y) Q E s
noncomputable def Nj:rk where
 α:=Int
 blt a b:=ei (a<b)
 irrefl a:=by simp
 trans a b c h1 h2:=by simp only[x6] at *;omega
 negTrans a b c h:=by simp only[x6] at *;omega
 total a b h1 h2:=by simp only[aay] at *;omega
theorem E5 (i j:Int):(i==j)=(!ei (i<j)&&!ei (j<i)):=by
 by_cases a:i=j
 ·subst a;simp
 have:i<j∨j<i:=#[1]
 rcases this with h1 |h1<;>simp[a,h1]
theorem D3 (i j:el):ei (i=j)=(!ei (i.cps.toList<j.cps.toList)&&!ei (j.cps.toList<i.cps.toList)):=by
 by_cases a:i=j
 ·subst a;have:=aea i.cps.toList;simp[this]
 have ne:i.cps.toList≠j.cps.toList:=λz=>a (by
  cases i;cases j;have:=adY.mp z;simp only at this
  rw[this])
 rw[dV a];by_cases b:i.cps.toList<j.cps.toList
 ·simp[b]
 by_cases c:j.cps.toList<i.cps.toList
 ·simp[c]
 exact ib (ac8 (ads.mp c) (ads.mp b)) ne
noncomputable def IU (v:ax):a5 Int:=match v with | .int i _=>ag i |_=>a4
noncomputable def IT (v:ax):a5 (ak Nat):=match v with | .str x _=>ag x.cps.toList |_=>a4
theorem jI {v:ax}{i:Int}(h:IU v=ag i):∃ t,v = .int i t:=by
 cases v<;>first |(cases h;done) |skip
 cases h;exact⟨_,rfl⟩
theorem jH {v:ax}{i:ak Nat}(h:IT v=ag i):∃ x t,v = .str x t/\i=x.cps.toList:=by
 cases v<;>first |(cases h;done) |skip
 cases h;exact⟨_,_,rfl,rfl⟩
noncomputable def OL:Ue where
 O:=Nj
 keyOf:=IU
 dflt:=(0:Int)
 ty:="int"
 nt:=#[4]
 typ v a h:=by obtain⟨t,rfl⟩:=jI h;rfl
 fst v a h:=by obtain⟨t,rfl⟩:=jI h;rfl
 eqB {prog w A E s x y a b Q} ha hb h:=by
  obtain⟨t,rfl⟩:=jI ha;obtain⟨u,rfl⟩:=jI hb;exact Xx (aet (q7 (λz=>Q z s) (E5 a b)) h)
 lt {prog w A E s x y a b Q} o ha hb h:=by
  obtain⟨t,rfl⟩:=jI ha;obtain⟨u,rfl⟩:=jI hb;cases o with
  |true=>exact oneLt_int h
  |false =>
   rw[oneLt'_eq];simp only[gh,la];exact av (show dr _ _ (oa .Lt (.int _ t) (.int _ u)) _ _ _ from aeo (xa h))
noncomputable def NB:Ue where
 O:=PyProof.Rows.strKind.toKeyOrd
 keyOf:=IT
 dflt:=([]:ak Nat)
 ty:="str"
 nt:=#[4]
 typ v a h:=by obtain⟨x,t,rfl,_⟩:=jH h;rfl
 fst v a h:=by obtain⟨x,t,rfl,_⟩:=jH h;rfl
 eqB {prog w A E s x y a b Q} ha hb h:=by
  obtain⟨d,t,rfl,rfl⟩:=jH ha;obtain⟨c,u,rfl,rfl⟩:=jH hb;exact wpAny_eqBool_str (by rw[D3];exact h)
 lt {prog w A E s x y a b Q} o ha hb h:=by
  obtain⟨d,t,rfl,rfl⟩:=jH ha;obtain⟨c,u,rfl,rfl⟩:=jH hb;cases o with
  |true=>exact oneLt_str h
  |false =>
   rw[oneLt'_eq];simp only[gh,la];exact av (show dr _ _ (oa .Lt (.str d t) (.str c u)) _ _ _ from abh (xa h))
noncomputable def de (O:rk):ak O.α->ak O.α->eM
 |[],[]=>a8
 |[],_::_=>a6
 |_::_,[]=>a8
 |a::as,b::bs=>if (!O.blt a b&&!O.blt b a)=a6 then de O as bs else O.blt a b
theorem sx {O:rk}{a b:O.α}(h:(!O.blt a b&&!O.blt b a)=a6):a=b:=by rw[pX] at h;exact O.total _ _ (by simpa using h.1) (by simpa using h.2)
theorem vo {O:rk}(a:O.α):(!O.blt a a&&!O.blt a a)=a6:=by rw[O.irrefl];rfl
theorem cC {O:rk}(a:O.α)(as bs:ak O.α):de O (a::as) (a::bs)=de O as bs:=by rw[de,cc (vo a)]
theorem bP {O:rk}{a b:O.α}(as bs:ak O.α)(h:a≠b):de O (a::as) (b::bs)=O.blt a b:=by rw[de,cn (λz=>h (sx z))]
theorem AS {O:rk}{a b:O.α}(h:O.blt a b=a6):a≠b:=λz=>by subst z;rw[O.irrefl] at h;cases h
noncomputable def nZ (O:rk):rk where
 α:=ak O.α
 blt:=de O
 irrefl a:=by
  induction a with
  |nil=>rfl
  |cons x a j=>rw[cC];exact j
 trans a:=by
  induction a with
  |nil =>
   intro b c f d;cases b with
   |nil=>cases f
   |cons y b=>cases c with
    |nil=>cases d
    |cons z c=>rfl
  |cons x a j =>
   intro b c f d;cases b with
   |nil=>cases f
   |cons y b=>cases c with
    |nil=>cases d
    |cons z c =>
     by_cases i:x=y
     ·subst i;rw[cC] at f;by_cases g:x=z
      ·subst g;rw[cC] at d ⊢;exact j b c f d
      rw[bP _ _ g] at d ⊢;exact d
     rw[bP _ _ i] at f;by_cases g:y=z
     ·subst g;rw[bP _ _ i];exact f
     rw[bP _ _ g] at d;have k:=O.trans _ _ _ f d;rw[bP _ _ (AS k)];exact k
 negTrans a:=by
  induction a with
  |nil =>
   intro b c h;cases c with
   |nil=>cases h
   |cons z c=>cases b with
    |nil=>exact .inr rfl
    |cons y b=>exact #[9]
  |cons x a j =>
   intro b c h;cases c with
   |nil=>cases h
   |cons z c=>cases b with
    |nil=>exact .inr rfl
    |cons y b =>
     by_cases i:x=z
     ·subst i;rw[cC] at h;by_cases g:x=y
      ·subst g;rw[cC,cC];exact j b c h
      rw[bP _ _ g,bP _ _ (kg g)];cases f:O.blt x y with
      |true=>exact #[9]
      |false=>cases d:O.blt y x with
       |true=>exact .inr rfl
       |false=>exact ib (O.total _ _ f d) g
     rw[bP _ _ i] at h;by_cases g:x=y
     ·subst g;rw[bP _ _ i];exact .inr h
     by_cases l:y=z
     ·subst l;rw[bP _ _ g];exact .inl h
     rw[bP _ _ g,bP _ _ l];exact O.negTrans _ _ _ h
 total a:=by
  induction a with
  |nil =>
   intro b f d;cases b with
   |nil=>rfl
   |cons y b=>cases f
  |cons x a j =>
   intro b f d;cases b with
   |nil=>cases d
   |cons y b =>
    by_cases e:x=y
    ·subst e;rw[cC] at f d;rw[j b f d]
    rw[bP _ _ e] at f;rw[bP _ _ (kg e)] at d;exact ib (O.total _ _ f d) e
inductive KeysAre (κ:Ue):ak ax->ak κ.O.α->Prop
 |nil:KeysAre κ [] []
 |cons {v:ax}{a : κ.O.α}{vs:ak ax}{as:ak κ.O.α} : κ.keyOf v=ag a->KeysAre κ vs as->KeysAre κ (v::vs) (a::as)
def OM (b:Ue)(h:ja)(v:ax)(as:ak b.O.α):Prop:=∃ a o its n,v = .ref a/\h.get? a=ag o/\o.cls = .type "tuple"/\o.data = .seq its n/\KeysAre b its.toList as
theorem OM.keeps {c:Ue}{h h':ja}{v:ax}{as:ak c.O.α}(t:OM c h v as)(k:∀ b o,h.get? b=ag o->h'.get? b=ag o):OM c h' v as:=by obtain⟨a,o,its,n,e,d,hc,hd,f⟩:=t;exact⟨a,o,its,n,e,k _ _ d,hc,hd,f⟩
section
variable {prog:e8}{w:hL}{A:iv}{E:Lm}{s:bo}{κ:Ue}
theorem kX {f:eM}{x y:ax}{as bs:ak κ.O.α}{Q:eM->bo->Prop}(K:OM κ s.heap x as)(P:OM κ s.heap y bs)(q:Q (de κ.O as bs) s):dr #[5] A (keyLt' (YT f) x y) Q E s:=by
 obtain⟨a,o,G,n,rfl,R,hc,hd,N⟩:=K;obtain⟨b,o2,C,n2,rfl,W,Z,D,F⟩:=P;refine av (UC R hd ?_);refine av (UC W D ?_);refine av ?_;refine ON _ (λrest r z=>r.1=a4/\z=s/\∃ k j g l t,rest=(abG j g).zipIdx k/\KeysAre κ j l/\KeysAre κ g t/\de κ.O l t=de κ.O as bs/\ei (j.length<g.length)=ei (G.size<C.size)) _ ?_ ?_ _ _ ⟨rfl,rfl,0,G.toList,C.toList,as,bs,rfl,N,F,rfl,by simp⟩
 ·rintro⟨⟨u,v⟩,i⟩ rest r z ⟨hr,rfl,k,j,g,l,t,d,H,B,h,c⟩;cases H with
  |nil=>simp at d
  | @cons Y m V S J L =>
   cases B with
   |nil=>simp at d
   | @cons v' p U T I X =>
    rw[aal,abH] at d;simp only[vr,aae] at d;obtain⟨⟨⟨rfl,rfl⟩,rfl⟩,rfl⟩:=d;refine av (κ.eqB J I ?_);by_cases e:m=p
    ·subst e;rw[vo];simp only[uk,gh,la];rw[cC] at h;exact ay ⟨rfl,rfl,i+1,V,U,S,T,rfl,L,X,h,by rw[← c];simp⟩
    have M:(!κ.O.blt m p&&!κ.O.blt p m)=a8:=by
     cases hb:(!κ.O.blt m p&&!κ.O.blt p m) with
     |false=>rfl
     |true=>exact ib (sx hb) e
    rw[M];simp only[U4,mz];rw[bP _ _ e] at h;refine av (κ.lt _ J I ?_);rw[h];exact ay (ay q)
 rintro⟨r1,r2⟩ z ⟨hr,rfl,k,j,g,l,t,d,H,B,h,c⟩;simp only at hr;subst hr;refine ay ?_;show Q (ei (G.size<C.size)) z;rw[← c]
 have e:ei (j.length<g.length)=de κ.O l t:=by
  cases H with
  |nil=>cases B with
   |nil=>rfl
   |cons _ _=>simp[de]
  |cons _ _=>cases B with
   |nil=>simp[de]
   |cons _ _=>simp at d
 rw[e,h];exact q
theorem CN:∀ {vs:ak ax}{as:ak κ.O.α},KeysAre κ vs as->vs.mapM UL=wh (vs.map λ_=>a4)
 |_,_,.nil=>by simp
 |_,_,.cons h r=>by rw[aaC,κ.fst _ _ h,CN r];simp
theorem vG:∀ {vs:ak ax}{as:ak κ.O.α},KeysAre κ vs as->vs.mapM typeOf=wh (vs.map λ_=>r4 κ.ty)
 |_,_,.nil=>by simp
 |_,_,.cons h r=>by rw[aaC,κ.typ _ _ h,vG r];simp
theorem FQ {vs:ak ax}{as:ak κ.O.α}(h:KeysAre κ vs as)(h0 : 0<vs.length):oneTypeOnly' vs.toArray=wh (ag (.type κ.ty)):=by
 rw[oneTypeOnly'_eq,YU,vG h];simp only[map_pure,pure_bind];have b:((aaD (λ_=>r4 κ.ty) vs).toArray.all λx=>x==r4 κ.ty)=a6:=by simp only[abK,all_map,SV];intro _ _;simp
 have a:(aaD (λ_=>r4 κ.ty) vs).toArray[0]?=ag (r4 κ.ty):=by
  cases vs with
  |nil=>simp at h0
  |cons v vs=>simp
 rw[a];simp only[b,mz]
inductive Mb (κ:Ue) (h:ja):ak ax->ak (ak κ.O.α)->Prop
 |nil:Mb κ h [] []
 |cons {v:ax}{a : κ.O.α}{as:ak κ.O.α}{vs:ak ax}{Rb:ak (ak κ.O.α)}:OM κ h v (a::as)->Mb κ h vs Rb->Mb κ h (v::vs) ((a::as)::Rb)
theorem Mb.keeps {h h':ja}{vs:ak ax}{a:ak (ak κ.O.α)}(t:Mb κ h vs a)(k:∀ b o,h.get? b=ag o->h'.get? b=ag o):Mb κ h' vs a:=by
 induction t with
 |nil=>exact .nil
 |cons q _ c=>exact .cons (q.keeps k) c
theorem Mb.mem {h:ja}{vs:ak ax}{a:ak (ak κ.O.α)}(t:Mb κ h vs a){v:ax}(hv:v∈vs):∃ as,OM κ h v as:=by
 induction t with
 |nil=>simp at hv
 |cons q _ b =>
  rcases fx.mp hv with e |hv
  ·subst e;exact⟨_,q⟩
  exact b hv
theorem Bn {v:ax}{a : κ.O.α}{as:ak κ.O.α}{Q:a5 ax->bo->Prop}(t:OM κ s.heap v (a::as))(q:∀ u,κ.keyOf u=ag a->Q (ag u) s):dr #[5] A (UL v) Q E s:=by
 obtain⟨b,o,its,n,rfl,d,hc,hd,c⟩:=t;generalize f:its.toList=l at c;cases c with
 | @cons u _ g _ k r =>
  refine av (Uq ⟨o,d,hc⟩ ?_);rw[cn #[2]];refine av (UC d hd (ay ?_));have e:its[0]?=ag u:=by rw[← kc,f];rfl
  rw[e];exact q u k
theorem A3 {vs:ak ax}{b:ak (ak κ.O.α)}(t:Mb κ s.heap vs b):∀ {Q:ak (a5 ax)->bo->Prop},(∀ us as,KeysAre κ us as->us.length=vs.length->Q (us.map ag) s)->dr #[5] A (vs.mapM UL) Q E s:=by
 induction t with
 |nil=>intro Q q;exact ay (q [] [] .nil rfl)
 |cons h _ d =>
  intro Q q;rw[aaC];refine av (Bn h λu a=>av (d λus as c e=>ay ?_));exact q (u::us) (_::as) (.cons a c) (by simp[e])
theorem filterMap_some:∀ (us:ak ax),((us.map ag).toArray.filterMap id)=us.toArray:=by
 intro us;rw[List.filterMap_toArray];congr 1
 induction us with
 |nil=>rfl
 |cons u us a=>simp[a]
theorem Ba {vs:ak ax}{b:ak (ak κ.O.α)}(t:Mb κ s.heap vs b)(h0 : 0<vs.length){Q:To->bo->Prop}(q:Q (YT a6) s):dr #[5] A (acO vs.toArray) Q E s:=by
 rw[adw,YU];refine av (av (A3 t λa d c f=>ay ?_));have e:((a.map ag).toArray.all λx=>x.isSome)=a6:=by simp
 show dr _ _ (if ((a.map ag).toArray.all λx=>x.isSome)=a6 then _ else _) _ _ _;rw[cc e];refine av (O8 ?_);rw[filterMap_some,FQ c #[0]];refine av (ay (ay ?_));show Q (YT (r4 κ.ty != r4 "tuple")) s;rw[κ.nt];exact q
noncomputable def Vx (κ:Ue)(h:ja)(v:ax):ak κ.O.α:=match v with
 | .ref a=>(match h.get? a with
  |ag o=>(match o.data with
   | .seq its _=>its.toList.map λu=>(κ.keyOf u).getD κ.dflt
   |_=>[])
  |a4=>[])
 |_=>[]
theorem KeysAre.Tv {vs:ak ax}{as:ak κ.O.α}(h:KeysAre κ vs as):vs.map (λu=>(κ.keyOf u).getD κ.dflt)=as:=by
 induction h with
 |nil=>rfl
 |cons k _ a=>rw[fh,k,a];rfl
theorem xP {h:ja}{v:ax}{as:ak κ.O.α}(t:OM κ h v as):Vx κ h v=as:=by obtain⟨b,o,its,n,rfl,a,hc,hd,c⟩:=t;unfold Vx;rw[0];rw[a];rw[0];rw[hd];exact c.Tv
theorem uV {a:bo}{vs:ak ax}{f:ak (ak κ.O.α)}(t:Mb κ a.heap vs f):qp prog w a vs (nZ κ.O) (Vx κ a.heap):=by refine⟨YT a6,λA E l h k=>⟨λm j q=>Ba (t.keeps k) #[0] q,λx y g e st Q d q=>?_⟩⟩;obtain⟨i,c⟩:=t.mem g;obtain⟨bs,b⟩:=t.mem e;rw[xP c,xP b] at q;rw[lt'_eq];refine eK (TF ?_);rw[d];exact eK (Zt (V3 (kX (c.keeps k) (b.keeps k) ⟨rfl,ka q⟩)))
end
noncomputable def EV (a b:el):eM:=ei (a.cps.toList<b.cps.toList)
noncomputable def MZ:ak el->ak el->eM
 |[],[]=>a8
 |[],_::_=>a6
 |_::_,[]=>a8
 |a::as,b::bs=>if a=b then MZ as bs else EV a b
theorem str_inj {a b:el}(h:a.cps.toList=b.cps.toList):a=b:=by cases a;cases b;have:=adY.mp h;simp only at this;rw[this]
theorem fU:∀ as bs:ak el,de NB.O (as.map λx=>x.cps.toList) (bs.map λx=>x.cps.toList)=MZ as bs
 |[],[]=>rfl
 |[],_::_=>rfl
 |_::_,[]=>rfl
 |a::as,b::bs=>by
  rw[MZ];by_cases e:a=b
  ·subst e;rw[cc rfl];exact(cC (O:=NB.O) _ _ _).trans (fU as bs)
  rw[cn e];exact bP (O:=NB.O) _ _ λz=>e (str_inj z)
theorem vF:∀ {as bs:ak el},as.map (λx=>x.cps.toList)=bs.map (λx=>x.cps.toList)->as=bs
 |[],[],_=>rfl
 |[],_::_,h=>by cases h
 |_::_,[],h=>by cases h
 |a::as,b::bs,h=>by
  simp only[fh,vr] at h;rw[str_inj h.1,vF h.2]
noncomputable def Rf:rk where
 α:=ak el
 blt:=MZ
 irrefl a:=by rw[← fU];exact(nZ NB.O).irrefl _
 trans a b c h1 h2:=by rw[← fU] at *;exact(nZ NB.O).trans _ _ _ h1 h2
 negTrans a b c h:=by rw[← fU] at h;rw[← fU a b,← fU b c];exact(nZ NB.O).negTrans _ _ _ h
 total a b h1 h2:=by rw[← fU] at h1 h2;exact vF ((nZ NB.O).total _ _ h1 h2)
section
variable {prog:e8}{w:hL}{A:iv}{E:Lm}{s:bo}
theorem SK {x:el}{v:ax}(h:(kh prog w).is x v=a6):∃ t,v = .str x t:=ab0 h
theorem qC {x y:ak el}{a b:bc}{P:Fin->bo->Prop}(L:wq (kh prog w) s.heap x a)(I:wq (kh prog w) s.heap y b)(h:P (.done (.ret (.bool (MZ x y)))) s) :
  dr #[5] A (Builtin.«tuple.__lt__» ⟨[.ref a,.ref b],[]⟩) P E s:=by
 have H:=I.typeIs;obtain⟨Z,G,U,z,_,O,C⟩:=L;obtain⟨W,B,nb,S,_,N,t⟩:=I;show dr _ _ (isInstance (.ref b) (.type "tuple") >>= _) _ _ s;refine av (Vj H abf ?_);simp only[uk,gh,la];refine av (Wz z O (av (Wz S N (av ?_))))
 refine ON _
  (λrest r j=>r.1=a4/\j=s/\∃ k l i f,rest=abG i f/\ItemsAre (kh prog w) k i/\ItemsAre (kh prog w) l f/\MZ k l=MZ x y/\ei (i.length<f.length)=ei (G.size<B.size))
  _ ?_ ?_ _ _ ⟨rfl,rfl,x,y,G.toList,B.toList,rfl,C,t,rfl,by simp⟩
 ·rintro⟨u,v⟩ rest r j ⟨hr,rfl,k,l,i,f,g,q,p,d,c⟩;cases q with
  |nil=>simp at g
  | @cons o V F R J M =>
   cases p with
   |nil=>simp at g
   | @cons n v' D Q K T =>
    simp only[aal,vr,aae] at g;obtain⟨⟨rfl,rfl⟩,rfl⟩:=g;refine av ((kh prog w).eqBool (a:=o) (b:=n) J K ?_);rw[MZ] at d;by_cases m:o=n
    ·rw[gx m];rw[cc m] at d;simp only[uk,gh,la];exact ay ⟨rfl,rfl,F,D,R,Q,rfl,M,T,d,by simpa using c⟩
    rw[dV m];rw[cn m] at d;simp only[U4,mz];obtain⟨t1,rfl⟩:=SK J;obtain⟨t2,rfl⟩:=SK K;refine av (O8 (av (show dr _ _ (oa .Lt (.str o t1) (.str n t2)) _ _ _ from abh ?_)));refine av (ay (ay (ay ?_)));show P (.done (.ret (.bool (EV o n)))) j;rw[d];exact h
 rintro⟨X,Y⟩ j ⟨hr,rfl,k,l,i,f,g,q,p,d,c⟩;simp only at hr;subst hr;refine ay ?_;show P (.done (.ret (.bool (ei (G.size<B.size))))) j;rw[← c]
 have e:ei (i.length<f.length)=MZ k l:=by
  cases q with
  |nil=>cases p with
   |nil=>rfl
   |cons _ _=>simp[MZ]
  |cons _ _=>cases p with
   |nil=>simp[MZ]
   |cons _ _=>simp at g
 rw[e,d];exact h
theorem j8 {x y:ak el}{a b:bc}{Q:Lm}(c:wq (kh prog w) s.heap x a)(d:wq (kh prog w) s.heap y b)(h:Q (.bool (MZ x y)) s) :
  dr #[5] A (call (.builtin "tuple.__lt__") [.ref a,.ref b]) Q E s:=
 mi F.slot_tuple_lt c.typeIs F.entry_tuple_lt (qC c d ⟨_,rfl,h⟩) (F.args_tuple_lt_2 _ _)
theorem mM {x y:ak el}{a b:bc}{Q:eM->bo->Prop}(o:eM)(f:A.units+1<nq)(c:wq (kh prog w) s.heap x a)(d:wq (kh prog w) s.heap y b)(h:Q (MZ x y) s) :
  dr #[5] A (oneLt' o (.ref a) (.ref b)) Q E s:=by
 rw[oneLt'_eq];cases o with
 |true =>
  simp only[mz];refine av (wpAny_cRoomFor #[0] ?_);refine av (wpAny_callSpecialIfBound?_slot c.typeIs F.slot_tuple_lt (j8 c d ?_));exact xa h
 |false =>
  simp only[gh,la];exact av (wpAny_richCompare_same_room (op:=.Lt) c.typeIs d.typeIs F.slot_tuple_lt (j8 c d ⟨(λe=>nomatch e),xa h⟩) #[0])
theorem xS {x:ak el}{vs:ak ax}(h:ItemsAre (kh prog w) x vs):KeysAre NB vs (x.map λy=>y.cps.toList):=by
 induction h with
 |nil=>exact .nil
 |cons h _ a=>obtain⟨t,rfl⟩:=SK h;exact .cons rfl a
theorem yG {h:ja}{x:ak el}{a:bc}(b:wq (kh prog w) h x a):OM NB h (.ref a) (x.map λy=>y.cps.toList):=by obtain⟨o,its,n,c,hc,hd,d⟩:=b;exact⟨a,o,its,n,rfl,c,hc,hd,xS d⟩
theorem Bm {x:ak el}{a:bc}{Q:a5 ax->bo->Prop}(d:wq (kh prog w) s.heap x a)(q:∀ r,r.isSome = !x.isEmpty->(∀ u,r=ag u->∃ y t,u = .str y t)->Q r s):dr #[5] A (UL (.ref a)) Q E s:=by
 obtain⟨o,its,n,b,hc,hd,c⟩:=d;refine av (Uq ⟨o,b,hc⟩ ?_);rw[cn #[2]];refine av (UC b hd (ay ?_));generalize f:its.toList=l at c;have e:its[0]?=l[0]?:=by rw[← kc,f]
 rw[e];cases c with
 |nil=>exact q a4 rfl λu z=>nomatch z
 | @cons k v h i g j =>
  obtain⟨t,rfl⟩:=SK g;exact q _ rfl λu z=>by cases z;exact⟨_,_,rfl⟩
inductive L7 (prog:e8) (w:hL) (h:ja):ak ax->ak (ak el)->Prop
 |nil:L7 prog w h [] []
 |cons {a:bc}{x:ak el}{vs:ak ax}{xs:ak (ak el)}:wq (kh prog w) h x a->L7 prog w h vs xs->L7 prog w h (.ref a::vs) (x::xs)
theorem k8 {h h':ja}{x:ak el}{a:bc}(t:wq (kh prog w) h x a)(k:∀ b o,h.get? b=ag o->h'.get? b=ag o):wq (kh prog w) h' x a:=by obtain⟨o,its,n,c,r⟩:=t;exact⟨o,its,n,k _ _ c,r⟩
theorem L7.keeps {h h':ja}{vs:ak ax}{xs:ak (ak el)}(t:L7 prog w h vs xs)(k:∀ b o,h.get? b=ag o->h'.get? b=ag o):L7 prog w h' vs xs:=by
 induction t with
 |nil=>exact .nil
 |cons q _ a=>exact .cons (k8 q k) a
theorem L7.mem {h:ja}{vs:ak ax}{xs:ak (ak el)}(t:L7 prog w h vs xs){v:ax}(hv:v∈vs):∃ a x,v = .ref a/\wq (kh prog w) h x a:=by
 induction t with
 |nil=>simp at hv
 |cons q _ b =>
  rcases fx.mp hv with e |hv
  ·exact⟨_,_,e,q⟩
  exact b hv
theorem A0 {vs:ak ax}{xs:ak (ak el)}(t:L7 prog w s.heap vs xs):∀ {Q:ak (a5 ax)->bo->Prop},(∀ us,us.map Option.isSome=xs.map (λx => !x.isEmpty)->(∀ u,ag u∈us->∃ y t,u = .str y t)->Q us s)->dr #[5] A (vs.mapM UL) Q E s:=by
 induction t with
 |nil=>intro Q q;exact ay (q [] rfl λu z=>nomatch z)
 |cons h _ d =>
  intro Q q;rw[aaC];refine av (Bm h λr hr b=>av (d λus c a=>ay (q (r::us) (by rw[fh,fh,hr,c]) λu z=>?_)));rcases fx.mp z with e |z
  ·exact b u e.symm
  exact a u z
theorem CL {vs:ak ax}{xs:ak (ak el)}(t:L7 prog w s.heap vs xs):∀ {Q:ak ax->bo->Prop},Q (vs.map λ_=>r4 "tuple") s->dr #[5] A (vs.mapM typeOf) Q E s:=by
 induction t with
 |nil=>intro Q q;exact ay q
 |cons h _ a =>
  intro Q q;rw[aaC];exact av (Uq h.typeIs (av (a (ay q))))
theorem rJ {vs:ak ax}{xs:ak (ak el)}(t:L7 prog w s.heap vs xs)(h0 : 0<vs.length){Q:a5 ax->bo->Prop}(q:Q (ag (.type "tuple")) s):dr #[5] A (oneTypeOnly' vs.toArray) Q E s:=by
 rw[oneTypeOnly'_eq,YU];refine av (av (CL t (ay ?_)));have b:((aaD (λ_=>r4 "tuple") vs).toArray.all λx=>x==r4 "tuple")=a6:=by simp only[abK,all_map,SV];intro _ _;simp
 have a:(aaD (λ_=>r4 "tuple") vs).toArray[0]?=ag (r4 "tuple"):=by
  cases vs with
  |nil=>simp at h0
  |cons v vs=>simp
 rw[a];simp only[b,mz];exact ay q
theorem qW:∀ {us:ak ax},(∀ u∈us,∃ y t,u = .str y t)->∃ as,KeysAre NB us as
 |[],_=>⟨[],.nil⟩
 |u::us,h=>by
  obtain⟨y,t,rfl⟩:=h _ (eR ..);obtain⟨as,k⟩:=qW λu a=>h u (ee _ a);exact⟨_,.cons rfl k⟩
theorem A_ {vs:ak ax}{xs:ak (ak el)}(t:L7 prog w s.heap vs xs)(h0 : 0<vs.length){Q:To->bo->Prop}(q:Q (if xs.all (λx => !x.isEmpty) then YT a6 else if (xs.head?.map λx => !x.isEmpty)=ag a6 then general' else adV) s):dr #[5] A (acO vs.toArray) Q E s:=by
 rw[adw,YU];refine av (av (A0 t λus a f=>ay ?_))
 have j:us.length=vs.length:=by
  have i:=q7 WH a;rw[dv,dv] at i;have g:vs.length=xs.length:=by clear q h0 a f i;induction t with |nil=>rfl |cons _ _ h=>simp[h]
  omega
 have e:(us.toArray.all λx=>x.isSome)=xs.all λx => !x.isEmpty:=by have:=q7 (λl=>List.all l id) a;rw[abK];simpa [all_map,Function.comp_def] using this
 have g:((us.toArray[0]?).bind id).isSome=ei ((xs.head?.map λx => !x.isEmpty)=ag a6):=by
  rw[aaE];cases us with
  |nil=>cases xs with
   |nil=>rfl
   |cons x xs=>cases a
  |cons u us=>cases xs with
   |nil=>cases a
   |cons x xs =>
    simp only[fh,vr] at a;show u.isSome=_;rw[a.1];cases x<;>simp
 show dr _ _ (if (us.toArray.all λx=>x.isSome)=a6 then _ else _) _ _ _;rw[e];by_cases c:(xs.all λx => !x.isEmpty)=a6
 ·rw[cc c];rw[cc c] at q;refine av (O8 ?_)
  have n:∃ b:ak ax,us=b.map ag:=by
   rw[← e,abK,SV] at c;clear e g a f j q
   induction us with
   |nil=>exact⟨[],rfl⟩
   |cons u us h =>
    obtain⟨b,rfl⟩:=h λx k=>c x (ee _ k);have:=c u (eR ..);cases u with
    |none=>cases this
    |some v=>exact⟨v::b,rfl⟩
  obtain⟨b,rfl⟩:=n;obtain⟨o,m⟩:=qW (us:=b) λu a=>f u (U7 a);rw[filterMap_some,FQ m (by rw[dv] at j;omega)];refine av (ay (ay ?_));exact q
 rw[cn c];rw[cn c] at q;show dr _ _ (if ((us.toArray[0]?).bind id).isSome=a6 then _ else _) _ _ _;rw[g];by_cases d:(xs.head?.map λx => !x.isEmpty)=ag a6
 ·rw[cc (gx d)];rw[cc d] at q;exact ay q
 rw[cn (by rw[dV d];decide)];rw[cn d] at q;exact av (rJ t h0 (ay q))
noncomputable def U5 (prog:e8) (w:hL) (h:ja) (v:ax):ak el:=match v with
 | .ref a => @dite _ (∃ x,wq (kh prog w) h x a) (QF _) (λe=>e.choose) λ_=>[]
 |_=>[]
theorem tW {h:ja}{x:ak el}{a:bc}(t:wq (kh prog w) h x a):U5 prog w h (.ref a)=x:=by unfold U5;rw[0];rw[YP ⟨x,t⟩];exact(acw (⟨x,t⟩:∃ x,wq (kh prog w) h x a)).inj t
theorem L7.keys {h:ja}{vs:ak ax}{xs:ak (ak el)}(t:L7 prog w h vs xs):vs.map (U5 prog w h)=xs:=by
 induction t with
 |nil=>rfl
 |cons q _ a=>rw[fh,tW q,a]
theorem uU {f:bo}{vs:ak ax}{xs:ak (ak el)}(t:L7 prog w f.heap vs xs):qp prog w f vs Rf (U5 prog w f.heap):=by
 refine⟨if xs.all (λx => !x.isEmpty) then YT a6 else if (xs.head?.map λx => !x.isEmpty)=ag a6 then general' else adV,λA E l v k=>⟨λB z q=>A_ (t.keeps k) #[0] q,λx y s p st Q o q=>?_⟩⟩;obtain⟨a,n,i,j⟩:=t.mem s;obtain⟨b,u,m,h⟩:=t.mem p;rw[i,m,tW j,tW h] at q;rw[lt'_eq];refine eK (TF ?_);rw[o,i,m];have e:=k8 j k;have d:=k8 h k
 have fin:∀ c,(c=YT a6∨c=general'∨c=adV)->∀ (E:Lm) (R:eM->bo->Prop),R (MZ n u) l->dr #[5] A (keyLt' c (.ref a) (.ref b)) R E l:=λc g E R r=>by
  rcases g with rfl |rfl |rfl
  ·exact kX (yG e) (yG d) (by rw[fU];exact r)
  ·exact mM a8 #[0] e d r
  exact mM a6 #[0] e d r
 refine eK (Zt (V3 (fin _ ?_ _ _ ⟨rfl,ka q⟩)));split
 ·exact #[9]
 split
 ·exact .inr (#[9])
 exact .inr (.inr rfl)
def MJ (prog:e8)(w:hL)(h:ja)(a:bc)(x:ak el)(n:Int):Prop:=∃ o b t m,h.get? a=ag o/\o.cls = .type "tuple"/\o.data = .seq #[.ref b,.int n t] m/\wq (kh prog w) h x b
theorem MJ.keeps {h h':ja}{a:bc}{x:ak el}{n:Int}(t:MJ prog w h a x n)(k:∀ b o,h.get? b=ag o->h'.get? b=ag o):MJ prog w h' a x n:=by obtain⟨o,b,t,m,c,hc,hd,hb⟩:=t;exact⟨o,b,t,m,k _ _ c,hc,hd,k8 hb k⟩
theorem MJ.inj {h:ja}{a:bc}{x y:ak el}{n m:Int}(t:MJ prog w h a x n)(u:MJ prog w h a y m):x=y/\n=m:=by obtain⟨o,b,_,_,g,hc,hd,hb⟩:=t;obtain⟨k,l,_,_,d,j,c,i⟩:=u;rw[g] at d;cases d;rw[hd] at c;simp only[Data.seq.injEq,Array.mk.injEq,vr,Value.ref.injEq,Value.int.injEq] at c;obtain⟨⟨e,⟨f,_⟩,_⟩,_⟩:=c;subst e;exact⟨hb.inj i,f⟩
theorem xR {a b:bc}{x y:ak el}{n m:Int}{Q:eM->bo->Prop}(i:A.units+1<nq)(g:MJ prog w s.heap a x n)(l:MJ prog w s.heap b y m)(d:x=y->n=m)(q:Q (MZ x y) s):dr #[5] A (keyLt' (YT a8) (.ref a) (.ref b)) Q E s:=by
 obtain⟨o,c,t,k,p,hc,hd,hb⟩:=g;obtain⟨B,j,h,v,r,z,u,f⟩:=l;refine av (UC p hd ?_);refine av (UC r u ?_);refine av ?_;show dr _ _ (acD [((jl c,jl j),0),((YW n t,YW m h),1)] _ _) _ _ _;rw[XQ];refine av (av (wpAny_eqBool_tuple #[0] hb f ?_));by_cases e:x=y
 ·subst e;rw[gx rfl];simp only[uk,gh,la];refine ay ?_;rw[0];rw[XQ];refine av (av (Xx ?_));rw[show (n==m)=a6 from by rw[d rfl];simp];simp only[uk,gh,la];refine ay ?_;rw[0];rw[aaw];refine ay (ay ?_);rw[show MZ x x=a8 from Rf.irrefl x] at q;exact q
 rw[dV e];simp only[U4,mz];exact av (mM _ i hb f (ay (ay (ay q))))
inductive Mh (prog:e8) (w:hL) (h:ja):ak ax->ak (ak el×Int)->Prop
 |nil:Mh prog w h [] []
 |cons {a:bc}{x:ak el}{n:Int}{vs:ak ax}{xs:ak (ak el×Int)}:MJ prog w h a x n->Mh prog w h vs xs->Mh prog w h (.ref a::vs) ((x,n)::xs)
theorem Mh.keeps {h h':ja}{vs:ak ax}{xs:ak (ak el×Int)}(t:Mh prog w h vs xs)(k:∀ b o,h.get? b=ag o->h'.get? b=ag o):Mh prog w h' vs xs:=by
 induction t with
 |nil=>exact .nil
 |cons q _ a=>exact .cons (q.keeps k) a
theorem Mh.mem {h:ja}{vs:ak ax}{xs:ak (ak el×Int)}(t:Mh prog w h vs xs){v:ax}(hv:v∈vs):∃ a x n,v = .ref a/\MJ prog w h a x n/\(x,n)∈xs:=by
 induction t with
 |nil=>simp at hv
 |cons q _ b =>
  rcases fx.mp hv with e |hv
  ·exact⟨_,_,_,e,q,eR ..⟩
  obtain⟨a,x,n,e,p,m⟩:=b hv;exact⟨a,x,n,e,p,ee _ m⟩
theorem CM {vs:ak ax}{xs:ak (ak el×Int)}(t:Mh prog w s.heap vs xs):∀ {Q:ak (a5 ax)->bo->Prop},(∀ us ys,L7 prog w s.heap us ys->us.length=vs.length->Q (us.map ag) s)->dr #[5] A (vs.mapM UL) Q E s:=by
 induction t with
 |nil=>intro Q q;exact ay (q [] [] .nil rfl)
 |cons h _ e =>
  intro Q q;rw[aaC];obtain⟨o,b,t,m,a,hc,hd,hb⟩:=h;refine av ?_;refine av (Uq ⟨o,a,hc⟩ ?_);rw[cn #[2]];refine av (UC a hd (ay ?_));exact av (e λus ys d c=>ay (q (.ref b::us) (_::ys) (.cons hb d) (by simp[c])))
theorem CY {vs:ak ax}{xs:ak (ak el×Int)}(t:Mh prog w s.heap vs xs)(h0 : 0<vs.length){Q:To->bo->Prop}(q:Q (YT a8) s):dr #[5] A (acO vs.toArray) Q E s:=by
 rw[adw,YU];refine av (av (CM t λa d b c=>ay ?_));have e:((a.map ag).toArray.all λx=>x.isSome)=a6:=by simp
 show dr _ _ (if ((a.map ag).toArray.all λx=>x.isSome)=a6 then _ else _) _ _ _;rw[cc e];refine av (O8 ?_);rw[filterMap_some];refine av (rJ b #[0] (ay ?_));exact q
noncomputable def Vy (prog:e8) (w:hL) (h:ja) (v:ax):ak el:=match v with
 | .ref a => @dite _ (∃ x n,MJ prog w h a x n) (QF _) (λe=>e.choose) λ_=>[]
 |_=>[]
theorem xQ {h:ja}{x:ak el}{n:Int}{a:bc}(t:MJ prog w h a x n):Vy prog w h (.ref a)=x:=by unfold Vy;rw[0];rw[YP ⟨x,n,t⟩];obtain⟨m,u⟩:=(acw (⟨x,n,t⟩:∃ x n,MJ prog w h a x n));exact(u.inj t).1
theorem Mh.keys {h:ja}{vs:ak ax}{xs:ak (ak el×Int)}(t:Mh prog w h vs xs):vs.map (Vy prog w h)=xs.map (·.1):=by
 induction t with
 |nil=>rfl
 |cons q _ a=>rw[fh,fh,xQ q,a]
theorem uc:∀ {xs:ak (ak el×Int)},(xs.map (·.1)).Nodup->∀ {x:ak el}{n m:Int},(x,n)∈xs->(x,m)∈xs->n=m
 |[],_,_,_,_,h,_=>by cases h
 |p::xs,hd,x,n,m,h1,h2=>by
  rw[fh,Up] at hd;rcases fx.mp h1 with e |h1
  ·rcases fx.mp h2 with a |h2
   ·rw[← e] at a;exact(Prod.mk.inj a).2.symm
   exact ib (U7 (f:=(·.1)) h2) (by rw[← e] at hd;exact hd.1)
  rcases fx.mp h2 with a |h2
  ·exact ib (U7 (f:=(·.1)) h1) (by rw[← a] at hd;exact hd.1)
  exact uc hd.2 h1 h2
theorem xj {c:bo}{vs:ak ax}{xs:ak (ak el×Int)}(t:Mh prog w c.heap vs xs)(hd:(xs.map (·.1)).Nodup):qp prog w c vs Rf (Vy prog w c.heap):=by refine⟨YT a8,λA E u r k=>⟨λz s q=>CY (t.keeps k) #[0] q,λx y m j st Q i q=>?_⟩⟩;obtain⟨a,o,p,f,g,l⟩:=t.mem m;obtain⟨b,B,v,h,d,n⟩:=t.mem j;rw[f,h,xQ g,xQ d] at q;rw[lt'_eq];refine eK (TF ?_);rw[i,f,h];exact eK (Zt (V3 (xR #[0] (g.keeps k) (d.keeps k) (λe=>by subst e;exact uc hd l n) ⟨rfl,ka q⟩)))
end
end L2
namespace L2
open PySem PySem.Spec PyProof.Rows PySem.W
section
variable {X:Cx}{W:WT}
noncomputable def tupI:D->a5 (ak Int)
 | .tup a=>match bU a with
  |ag (n::ns)=>ag (n::ns)
  |_=>a4
 |_=>a4
noncomputable def fO {α:Type}(f:D->a5 α):ak D->a5 (ak α)
 |[]=>ag []
 |d::r=>(f d).bind λa=>(fO f r).map (a::·)
noncomputable def eB {α:Type}(lt : α->α->eM):ak α->ak α->eM
 |[],[]=>a8
 |[],_::_=>a6
 |_::_,[]=>a8
 |a::as,b::bs=>if (!lt a b&&!lt b a)=a6 then eB lt as bs else lt a b
noncomputable def cH (a b:ak Int):eM:=!eB (λx y=>ei (x<y)) b a
noncomputable def oX:ak D->a5 D
 |[.lst xs]=>(fO tupI xs).bind λa => @ite _ (xs.length<=da/\Spec (eB λ(x y:Int)=>ei (x<y)) a) (QF _) (ag (.lst ((a.mergeSort cH).map λns => .tup (ns.map .int)))) a4
 |_=>a4
theorem tV (O:rk):∀ as bs:ak O.α,de O as bs=eB O.blt as bs
 |[],[]=>rfl
 |[],_::_=>rfl
 |_::_,[]=>rfl
 |a::as,b::bs=>by rw[de,eB,tV O as bs]
theorem jA {K:Ll}{H:Hp}{J:ak bc}{out us:ak ax}(p:out.Perm us):∀ {vs:ak V}{ds:ak D},Vals vs us->Ly K H J ds vs->∃ e f,Vals e out/\Ly K H J f e/\f.Perm ds:=by
 induction p with
 |nil=>intro vs ds r m;exact⟨vs,ds,r,m,.refl _⟩
 |cons x p z =>
  intro vs ds r m;cases r with
  | @cons v _ u _ g h =>
   cases ds with
   |nil=>cases Ly.Lz.mp m
   |cons d ds =>
    obtain⟨m1,m2⟩:=m.LA;obtain⟨e,f,a,b,c⟩:=z h m2;exact⟨v::e,d::f,.cons g a,.cons m1 b,.cons d c⟩
 |swap x y l =>
  intro vs ds r m;cases r with
  | @cons v _ u _ g h=>cases h with
   | @cons o _ i _ F w =>
    cases ds with
    |nil=>cases Ly.Lz.mp m
    |cons d ds=>cases ds with
     |nil=>obtain⟨_,m2⟩:=m.LA;cases Ly.Lz.mp m2
     |cons j ds =>
      obtain⟨m1,m2⟩:=m.LA;obtain⟨s,n⟩:=m2.LA;exact⟨o::v::i,j::d::ds,.cons F (.cons g w),.cons s (.cons m1 n),.swap d j ds⟩
 |trans _ _ k A =>
  intro vs ds r m;obtain⟨G,t,a,b,c⟩:=A r m;obtain⟨B,C,a2,E,q⟩:=k a b;exact⟨B,C,a2,E,q.trans c⟩
theorem gZ {α:Type}{f:D->a5 α}{g : α->D}(b:∀ d a,f d=ag a->d=g a):∀ {ds:ak D}{as:ak α},fO f ds=ag as->ds=as.map g
 |[],as,h=>by cases h;rfl
 |d::ds,as,h=>by
  obtain⟨a,c,j⟩:=hD.mp (show (f d).bind _=ag as from h);obtain⟨r,i,e⟩:=d7.mp j;subst e;rw[fh,b d a c,gZ b i]
theorem wH {α:Type}{f:D->a5 α}:∀ {ds:ak D}{as:ak α},fO f ds=ag as->∀ a∈as,∃ d,f d=ag a
 |[],as,h,a,ha=>by cases h;simp at ha
 |d::ds,as,h,a,ha=>by
  obtain⟨b,c,j⟩:=hD.mp (show (f d).bind _=ag as from h);obtain⟨r,i,g⟩:=d7.mp j;subst g;rcases fx.mp ha with e |ha
  ·subst e;exact⟨d,c⟩
  exact wH i a ha
theorem yH {d:D}{ns:ak Int}(h:tupI d=ag ns):d = .tup (ns.map .int)/\ns≠[]:=by
 unfold tupI at h;split at h
 ·split at h
  ·rename_i e;cases h;rw[fB e];exact⟨rfl,by simp⟩
  cases h
 cases h
theorem lH {α:Type}{g : α->D}{l:ak D}{as:ak α}(h:l.Perm (as.map g)):∃ bs:ak α,l=bs.map g/\bs.Perm as:=by
 generalize e:as.map g=l2 at h
 induction h generalizing as with
 |nil=>cases as with
  |nil=>exact⟨[],rfl,.refl _⟩
  |cons a as=>cases e
 |cons x p n=>cases as with
  |nil=>cases e
  |cons a as =>
   rw[fh] at e;obtain⟨rfl,j⟩:=V6 e;obtain⟨bs,d,c⟩:=n j;exact⟨a::bs,by rw[fh,d],.cons a c⟩
 |swap x y l=>cases as with
  |nil=>cases e
  |cons a as=>cases as with
   |nil=>simp at e
   |cons b as =>
    simp only[fh,vr] at e;obtain⟨rfl,rfl,rfl⟩:=e;exact⟨b::a::as,rfl,.swap a b as⟩
 |trans _ _ i m =>
  obtain⟨bs,d,c⟩:=m e;obtain⟨k,o,f⟩:=i (as:=bs) d.symm;exact⟨k,o,f.trans c⟩
theorem rV:∀ {us:ak ax}{ns:ak Int},Vt us ns->KeysAre OL us ns
 |_,_,.nil => .nil
 |_,_,.cons n t r => .cons rfl (rV r)
section
variable {X:Cx}{pins:Ln}{σ:St}{H:Hp}{s:bo}{J:ak bc}
theorem DW (I:#[10]){ns:ak Int}{v:V}{u:ax}(m:At X.K H J (.tup (ns.map .int)) v)(r:RelV v u):OM OL s.heap u ns:=by obtain⟨a,d,rfl,q,z⟩:=At.LF.mp m;cases r;obtain⟨its,b,⟨o,c,hc,n,hd⟩,_⟩:=I.tuple q.sq;have e:=Ly.Oa z;subst e;exact⟨a,o,its.toArray,n,rfl,c,hc,hd,by simpa using rV (intsAre_of b)⟩
theorem oM (I:#[10]):∀ {c:ak (ak Int)}{vs:ak V}{us:ak ax},(∀ ns∈c,ns≠[])->Ly X.K H J (c.map λns => .tup (ns.map .int)) vs->Vals vs us->Mb OL s.heap us c/\us.map (Vx OL s.heap)=c
 |[],vs,us,_,m,r=>by cases Ly.Lz.mp m;cases r;exact⟨.nil,rfl⟩
 |ns::c,vs,us,h0,m,r=>by
  obtain⟨v,g,rfl,m1,m2⟩:=Ly.Lv.mp m;cases r with
  |cons e f =>
   obtain⟨a,b⟩:=oM I (λx d=>h0 x (ee _ d)) m2 f;have t:=DW I m1 e;have ne:=h0 ns (eR ..);cases ns with
   |nil=>exact ib rfl ne
   |cons n ns=>exact⟨.cons t a,by rw[fh,xP t,b];rfl⟩
end
theorem CU {j:Type}{O:rk}{key : j->ak O.α}(inj:∀ a b,key a=key b->a=b){l i:ak j}(o:i.Perm l)(m:i.Pairwise λa b=>(nZ O).kle (key a) (key b)):i=l.mergeSort λa b => !de O (key b) (key a):=by
 refine qs (le:=λa b=>(!de O (key b) (key a))=a6) (λa b _ _ h g=>inj _ _ ?_) (m.imp λh=>?_) (s8 (λa b c h g=>?_) (λa b=>?_) l) (o.trans (ti l _).symm)
 ·have k:de O (key a) (key b)=a8:=by simpa using g
  have d:de O (key b) (key a)=a8:=by simpa using h
  exact(nZ O).total _ _ k d
 ·have d:de O _ _=a8:=h;rw[d];rfl
 ·have e:(nZ O).kle (key a) (key b):=by show de O (key b) (key a)=a8;simpa using h
  have f:(nZ O).kle (key b) (key c):=by show de O (key c) (key b)=a8;simpa using g
  have n:de O (key c) (key a)=a8:=J7 e f;rw[n];rfl
 cases e:de O (key b) (key a) with
 |false=>rfl
 |true =>
  have f:de O (key a) (key b)=a8:=wi (O:=nZ O) e;rw[f];rfl
theorem Dq (hu:X.A.units+150<nq):j_ X (.builtin "sorted") oX:=by
 intro P s σ H xs us Q I r h;obtain⟨J,ds,d,hJ,m,e,q⟩:=h;unfold oX at e;rw[1]
 ·rename_i ys;obtain⟨i,es,e⟩:=hD.mp e;rw[1]
  ·rename_i B;obtain⟨B,sp⟩:=B;cases e;obtain⟨v,w,rfl,a,n⟩:=Ly.Lv.mp m;cases Ly.Lz.mp n;obtain⟨p,zs,rfl,t,E⟩:=At.LG.mp a;obtain⟨u,rfl,ru⟩:=vals1 r;cases ru;obtain⟨its,z,⟨o,nn,ho,hc,_,hd⟩,Y⟩:=I.list t.sq;have ed:=gZ (λd a h=>(yH h).1) es;have ne:∀ ns∈i,ns≠[]:=λns hn=>let ⟨d,h⟩:=wH es ns hn;(yH h).2;subst ed;have L:its.length<=da:=by rw[← z.length,← E.length];exact B
   refine tw #[0] (W2 p (#[9]) ho hc hd (λF k=>?_) (by rw[f5,← z.length];exact Y));have c:=I.kept (t':=s.toks) k;obtain⟨tu,W⟩:=oM c ne E z;have C:de Nj=eB (λ(x y:Int)=>ei (x<y)):=by funext a b;exact tV Nj a b
   refine⟨by simpa using L,nZ OL.O,Vx OL F,λN=>⟨uV (by simpa using tu),Ax N ?_⟩,λo N ep j U V T=>?_⟩
   ·have D : @Spec (ak Nj.α) (de Nj) i:=aet (q7 (λf => @Spec (ak Int) f i) C) sp;have Ub:aaD (Vx OL F) its.toArray.toList=i:=by simpa using W
    exact aet (q7 (λl => @Spec (ak Nj.α) (de Nj) l) Ub) D
   have j:o.toList.Perm its:=by simpa using j
   obtain⟨M,Zr,a1,a2,a3⟩:=jA j z E;obtain⟨g,S,K⟩:=lH a3;subst S;have hk:=(oM c (λx R=>ne x (K.mem_iff.mp R)) a2 a1).2;have Z:g.Pairwise λa b=>(nZ Nj).kle a b:=by have:=Ml.mpr U;rw[hk] at this;exact this
   have C:(λ(a b:ak Int) => !de Nj b a)=cH:=by funext a b;unfold cH;exact q7 Bool.not (tV Nj b a)
   have Ti:g=i.mergeSort cH:=by rw[← C];exact CU (O:=Nj) (key:=λ(a:ak Int)=>a) (λa b h=>h) K Z
   subst Ti;have G:M.length<=da:=by rw[a1.length,j.length_eq];exact L
   exact⟨.ref _,_,c.laid (t':=s.toks) (o:=.lst M) V (e9 _) ⟨G,o.toList,ep,a1,by simpa using T⟩,rfl,q _ _ (aO c.fresh _) (At.M0 a2 c.fresh hJ G)⟩
  cases e
 cases e
end
mutual
def Ov (n:Nat):D->eM
 | .tup a=>n8 n a
 | .lst a=>n8 n a
 | .set a=>n8 n a
 | .loc l=>ei (l<n)
 |_=>a6
def n8 (n:Nat):ak D->eM
 |[]=>a6
 |d::ds=>Ov n d&&n8 n ds
end
section
variable {K:Ll}{H H2:Hp}{J J2:ak bc}
theorem TQ.back {a:bc}{xs:ak V}(h:TQ K H J2 a xs)(p:J <+: J2):TQ K H J a xs:=h.elim (λz => .inl ⟨z.1,λm=>z.2.1 (p.subset m),z.2.2⟩) .inr
theorem LQ.back {a:bc}{xs:ak V}(h:LQ K H J2 a xs)(p:J <+: J2):LQ K H J a xs:=h.elim (λz => .inl ⟨z.1,λm=>z.2.1 (p.subset m),z.2.2⟩) .inr
theorem Cc {l:Nat}{a:bc}(p:J <+: J2)(b:l<J.length)(h:J2[l]?=ag a):J[l]?=ag a:=by obtain⟨r,rfl⟩:=p;rwa [h7 b] at h
mutual
theorem At.Ov:∀ {d:D}{v:V},At K H J d v->L2.Ov J.length d=a6
 | .LR,_,_=>rfl
 | .bl _,_,_=>rfl
 | .int _,_,_=>rfl
 | .str _,_,_=>rfl
 | .fn _ _,_,_=>rfl
 | .tup b,_,h=>by obtain⟨a,c,_,_,r⟩:=At.LF.mp h;rw[L2.Ov];exact Ly.Ov r
 | .lst b,_,h=>by obtain⟨a,c,_,_,r⟩:=At.LG.mp h;rw[L2.Ov];exact Ly.Ov r
 | .set b,_,h=>by obtain⟨a,e,c,_,_,_,_,r⟩:=At.OA.mp h;rw[L2.Ov];exact Ly.Ov r
 | .loc l,_,h=>by obtain⟨a,_,q⟩:=At.LI.mp h;exact gx (ba.mp q).1
theorem Ly.Ov:∀ {ds:ak D}{vs:ak V},Ly K H J ds vs->n8 J.length ds=a6
 |[],_,_=>rfl
 |d::ds,_,h=>by obtain⟨v,r,_,p,q⟩:=Ly.Lv.mp h;rw[n8,At.Ov p,Ly.Ov q];rfl
end
mutual
theorem At.back (p:J <+: J2):∀ {d:D}{v:V},At K H J2 d v->L2.Ov J.length d=a6->At K H J d v
 | .LR,_,h,_=>by rw[At.Mf] at h ⊢;exact h
 | .bl _,_,h,_=>by rw[At.LZ] at h ⊢;exact h
 | .int _,_,h,_=>by rw[At.Lu] at h ⊢;exact h
 | .str _,_,h,_=>by rw[At.LK] at h ⊢;exact h
 | .fn _ _,_,h,_=>by rw[At.RS] at h ⊢;exact h
 | .tup c,_,h,i=>by
  obtain⟨a,b,e,q,r⟩:=At.LF.mp h;rw[L2.Ov] at i;exact At.LF.mpr ⟨a,b,e,q.back p,Ly.back p r i⟩
 | .lst c,_,h,i=>by
  obtain⟨a,b,e,q,r⟩:=At.LG.mp h;rw[L2.Ov] at i;exact At.LG.mpr ⟨a,b,e,q.back p,Ly.back p r i⟩
 | .set c,_,h,i=>by
  obtain⟨a,f,b,e,q,n,z,r⟩:=At.OA.mp h;rw[L2.Ov] at i;exact At.OA.mpr ⟨a,f,b,e,q,λm=>n (p.subset m),z,Ly.back p r i⟩
 | .loc l,_,h,i=>by
  obtain⟨a,e,q⟩:=At.LI.mp h;rw[L2.Ov,x6] at i;exact At.LI.mpr ⟨a,e,Cc p i q⟩
theorem Ly.back (p:J <+: J2):∀ {ds:ak D}{vs:ak V},Ly K H J2 ds vs->n8 J.length ds=a6->Ly K H J ds vs
 |[],_,h,_=>by rw[Ly.Lz] at h ⊢;exact h
 |d::ds,_,h,i=>by
  obtain⟨v,r,e,q,z⟩:=Ly.Lv.mp h;rw[n8,pX] at i;exact Ly.Lv.mpr ⟨v,r,e,At.back p q i.1,Ly.back p z i.2⟩
end
theorem jb {α d:Type}{R R2 T : α->d->Prop}{l:ak α}:∀ {m m2:ak d},lC T l m2->lC R l m->(∀ a b c,T a c->R a b->R2 a b)->lC R2 l m:=by
 intro m m2 t r h
 induction r generalizing m2 with
 |nil=>exact .nil
 |cons q _ f=>cases t with
  |cons e t2=>exact .cons (h _ _ _ e q) (f t2)
theorem Rz.back (p:J <+: J2){o:MO}{a:bc}(old:Rz K H J o a)(h:Rz K H2 J2 o a):Rz K H2 J o a:=by
 cases o with
 |lst Q =>
  obtain⟨_,_,b⟩:=old;obtain⟨F,q,r⟩:=h;exact⟨F,q,r.back p b.Ov⟩
 |exc c=>obtain⟨C,q,r⟩:=h;exact⟨C,q,r⟩
 |dict i =>
  obtain⟨_,_,b⟩:=old;obtain⟨g,q,r⟩:=h;exact⟨g,q,jb b r λx y z t u=>⟨⟨u.1.1,u.1.2.back p t.1.2.Ov⟩,u.2.back p t.2.Ov⟩⟩
 |LL i =>
  obtain⟨_,_,b⟩:=old;obtain⟨g,q,r⟩:=h;exact⟨g,q,jb b r λx y z t u=>⟨⟨u.1.1,u.1.2.back p t.1.2.Ov⟩,u.2.back p t.2.Ov⟩⟩
 |ins c fs =>
  obtain⟨_,_,_,_,_,b⟩:=old;obtain⟨C,E,D,n,q,r⟩:=h;exact⟨C,E,D,n,q,jb b r λx y z t u=>⟨u.1,u.2.back p t.2.Ov⟩⟩
 |UH O q n d =>
  obtain⟨_,_,_,_,_,_,_,_,_,_,_,_,_,_,b⟩:=old;obtain⟨P,B,sc,po,c,j,A,w,M,u,v,k,f,G,m⟩:=h;exact⟨P,B,sc,po,c,j,A,w,M,u,v,k,⟨f.fn,λz=>f.cj (p.subset z),f.cd,λz=>f.nj (p.subset z),f.cl,f.dt⟩,G,m.back p b.Ov⟩
 |tab x q =>
  obtain⟨c,g,n,s,I,L⟩:=h;exact⟨c,g,n,s,I,λpos N e=>let ⟨j,z1,z2,l⟩:=L pos N e;⟨j,z1,λz=>z2 (p.subset z),l⟩⟩
end
section
variable {X:Cx}{W:WT}{e:gy}{f:Lk D}
noncomputable def jM (f:Lk D):Lk D:=λa S=>match f a S with
 |ag (.ok (.loc l),S2)=>(match S2[l]? with
  |ag (.lst xs) => @ite _ (S.length<=l/\S2.take S.length=S/\n8 S.length xs=a6/\xs.length<=da) (QF _) (LB (.lst xs) S) a4
  |_=>a4)
 |_=>a4
theorem rc (h:SE X W e f):SE X W e (jM f):=PE.imp h λM H Q t=>by
 obtain⟨J,I,S,r,N,c,m,eq,z⟩:=t;unfold jM at eq;split at eq
 ·rename_i l u G;split at eq
  ·rename_i O ex;split at eq
   ·rename_i hc;obtain⟨L,A,E,y⟩:=hc;cases eq;refine⟨J,I,S,_,u,c,m,G,λv F b x so at_=>?_⟩;have p:=c.L0.len;obtain⟨a,rfl,n⟩:=At.LI.mp at_;obtain⟨C,K,j⟩:=so.at_ l a _ n ex;have w:a∉J:=λB=>by obtain⟨k,d⟩:=m7 B;have i:=(ba.mp d).1;have q:v[k]?=ag a:=om x.pre d;have:=(aaX (ba.mp q).1 so.nd).mp (q.trans n.symm);omega
    refine z J F (.ref a) ⟨abw _,λb o hb s=>⟨(x.keep b o hb s).1,s⟩⟩ ⟨p,c.L0.nd,λk b o d g=>?_⟩ (At.LG.mpr ⟨a,C,rfl,?_,j.back x.pre (by rw[p];exact E)⟩)
    ·have i:k<S.length:=(ba.mp g).1;have D:u[k]?=ag o:=by rw[← g,← A,aak,cc i]
     exact(c.L0.at_ k b o d g).back x.pre (so.at_ k b o (om x.pre d) D)
    exact .inl ⟨.inl K,w,by rw[← j.length];exact y⟩
   cases eq
  cases eq
 cases eq
end
section
variable {X:Cx}{W:WT}{pos pos':Ud}{o i e:gy}{fo fi fv:Lk D}{x:el}
noncomputable def y7:D->D->a5 D
 | .int a,.int b=>if gP a b then ag (.int (a*b)) else a4
 |_,_=>a4
noncomputable def ipM:Uw:=λx y H Q => ∃ i j,x = .int i/\y = .int j/\gP i j=a6/\Q (.int (i*j)) H
theorem He:Xt X .Mult ipM:=by intro a s g H x y v u Q I d e h;obtain⟨i,j,b,c,k,q⟩:=h;subst b;subst c;obtain⟨t,rfl⟩:=d;obtain⟨f,rfl⟩:=e;exact PyProof.Rows.imul_int ⟨.int _,H,I.tok _,⟨_,rfl⟩,q⟩ (yZ k).ok
noncomputable def wz (n:Nat)(fv:Lk D):Lk Fl:=λa S=>match a[n]? with
 |ag (ag d)=>ai (fv a S) λy b=>aL ((y7 d y).map λz=>Fl.next (a.set n (ag z))) b
 |_=>a4
theorem D7 {n:Nat}(l:X.N.Nodup)(j:SE X W e fv)(t:X.N[n]?=ag x:=by rfl)(g:Loc X.env.scope x:=by first |exact abu rfl |exact aac rfl)
  (w:X.fn x=a6∨#[22]=ag .local:=by first |exact .inl rfl |exact .inr rfl |assumption) :
  SS X W (.AugAssign (.Name x pos') .Mult e pos) (wz n fv):=(GK l t g j He w).imp λE D H h=>by
 obtain⟨J,f,S,r,G,c,eq,z⟩:=h;unfold wz at eq;split at eq
 ·rename_i d hd;obtain⟨v,m,B⟩:=c.env n d hd;refine⟨v,m,?_⟩;cases q:fv f S with
  |none=>rw[q] at eq;cases eq
  |some p =>
   obtain⟨o,F⟩:=p;rw[q] at eq;cases o with
   |error C=>cases eq;exact⟨J,f,S,_,_,c,.nil,q,z⟩
   |ok y =>
    simp only[fF] at eq;cases hg:y7 d y with
    |none=>rw[hg] at eq;cases eq
    |some I =>
     rw[hg] at eq;cases eq;refine⟨J,f,S,_,_,c,.nil,q,λi u b x2 A m2=>?_⟩;unfold y7 at hg;split at hg
     ·split at hg
      ·rename_i a s k;cases hg;cases At.Lu.mp B;cases At.Lu.mp m2;exact⟨a,s,rfl,rfl,k,z i _ u x2 ((c.re x2 A).set (#[18]))⟩
      cases hg
     cases hg
 cases eq
end
section
variable {X:Cx}{W:WT}{pos pos':Ud}{o i e:gy}{fo fi fv:Lk D}{x:el}
theorem C6:Ju X (Iv X.K):=by
 intro a s k H x y v u Q I l o h;obtain⟨p,F,i,z,rfl,rfl,C,f,q⟩:=h;cases l;obtain⟨t,rfl⟩:=o;obtain⟨its,r,pl,E⟩:=I.list C;obtain⟨j,b,B,D,A,m⟩:=l8 f;obtain⟨w,d,n⟩:=r.get B;have g:=r.length;have G:=je;have fin:EP X a k Q w s:=⟨z,H,I,n,q⟩;by_cases e : 0<=i
 ·have c:i.toNat=j:=by
   rw[abv e m] at b;exact h8 b
  exact wpAny_getItem_list pl.isList e #[0] (by rw[c];simpa using d) fin
 have c:(i+(its.toArray.size:Int)).toNat=j:=by rw[aaT #[0] A] at b;rw[f5,← g];exact h8 b
 exact aaV pl.isList #[0] (by rw[f5]<;>omega) #[0] (by rw[c];simpa using d) fin
noncomputable def wJ:D->D->a5 D
 | .int a,.int b=>ag (.int (a+b))
 |_,_=>a4
noncomputable def qk (fo fi fv:Lk D):Lk Fl:=λb S=>ai (fo b S) λx f=>ai (fi b f) λk c=>ai (aL (lL x k c) c) λa e=>ai (fv b e) λy d=>match wJ a y with
 |ag z=>j5 x k z b d
 |a4=>a4
theorem D8 (ho:SE X W o fo)(hi:SE X W i fi)(T:SE X W e fv)
  (ha:∀ s p new,augStore i s p new=(do Vk [new,s,p] (abT s p new);release [new,s,p] [];wh .next):=by intros;rfl):SS X W (.AugAssign (.Subscript o i pos') .Add e pos) (qk fo fi fv):=
 (Er ho hi C6 T Hg set_list ha).imp λE v H h=>by
  have h:tH X W [] [] (qk fo fi fv) E v H:=let ⟨J,f,S,r,x,c,e,z⟩:=h;⟨J,f,S,r,x,c,.nil,e,z⟩;refine(tH.LC h).mono λox H1 ⟨dx,h1⟩=>(tH.LC h1).mono λik F ⟨Y,h2⟩=>?_;obtain⟨J,f,S,r,x,c,m,e,z⟩:=h2;obtain⟨mk,m1⟩:=m.LA;obtain⟨O,_⟩:=m1.LA
  try dsimp only at e
  cases q:lL dx Y S with
  |none=>rw[q] at e;cases e
  |some g =>
   rw[q,bF,eI] at e;have q0:=q;unfold lL at q;split at q
   ·rename_i k;obtain⟨xs,g1,N⟩:=hD.mp q;obtain⟨l,C,us,rfl,rfl,hq,es,L,Q⟩:=tU c.L0 O g1;cases At.Lu.mp mk;obtain⟨w,K,a1⟩:=ux Q N;refine⟨C,us,k,w,rfl,rfl,.inl (.inl L),K,?_⟩
    have h3:tH X W [g,.int k,.loc l] [w,.int k,.ref C] (λf U=>ai (fv f U) λy V=>match wJ g y with
     |ag z=>j5 (.loc l) (.int k) z f V
     |a4=>a4) E v F:=⟨J,f,S,r,x,c,.cons a1 m,e,z⟩
    refine(tH.LC h3).mono λy H3 ⟨A,h4⟩=>?_;obtain⟨I,t,G,r2,Y1,u,m2,d,z2⟩:=h4;obtain⟨P,m2⟩:=m2.LA;obtain⟨mw,m2⟩:=m2.LA;obtain⟨_,m2⟩:=m2.LA;obtain⟨Y2,_⟩:=m2.LA
    try dsimp only at d
    cases hz:wJ g A with
    |none=>rw[hz] at d;cases d
    |some zd =>
     rw[hz] at d
     obtain⟨a,b,rfl,rfl,rfl⟩:∃ a b,g = .int a/\A = .int b/\zd = .int (a+b):=by
      cases g<;>first |(cases hz;done) |(cases A<;>first |(cases hz;done) |(cases hz;exact⟨_,_,rfl,rfl,rfl⟩))
     cases At.Lu.mp mw;cases At.Lu.mp P;refine⟨a,b,rfl,rfl,?_⟩;have d:j5 (.loc l) (.int k) (.int (a+b)) t G=ag (r2,Y1):=d;unfold j5 at d;simp only at d;split at d
     ·rename_i D R;split at d
      ·rename_i j ej;cases d;obtain⟨a',M,n⟩:=At.LI.mp Y2;cases M;obtain⟨T7,Y5,B⟩:=u.L0.at_ l _ _ n R;have up:=u.L0.update (o:=.lst (T7.set j (.int (a+b)))) (mo:=.lst (D.set j (.int (a+b)))) n λJ' H' Z eH eJ=>by subst eH eJ;exact⟨_,LD,Ly.set (#[18]) j (B.ex Z)⟩
       exact⟨_,T7,k,j,rfl,rfl,Y5,by rw[← B.length];exact ej,z2 I v _ up.2 (u.re up.2 up.1)⟩
      cases d
     cases d
   cases q
end
noncomputable def XX (lo:Int)(n:Nat):It:=⟨λi _=>i<n,λi H x a=>a=H/\x = .int (lo-i),λi _=>n<=i⟩
theorem Ap {P:e8}{w:hL}{K:Ll}{G:gy}(it:bc)(lo:Int)(n:Nat):Turn P w K G (XX lo n) [it] it (λi h=>abq h it (lo+(i:Nat)*(-1)) ((n:Int)-(i:Nat)) (-1)) where
 mem:=by simp
 obj:=λi h st b hb=>by
  have e:b=it:=#[17]
  subst e
  exact⟨_,st,λv z=>by
   have C:Data.fields _=Data.cell v:=z
   cases C⟩
 keep:=λi h c st k=>k it #[3] _ st
 item:=by
  intro X u g l hc i a s y H E I d st q;subst u g l;obtain⟨m,j,F,r,f,p⟩:=d it #[3];have W:=Walks.range (prog:=X.prog) (w:=X.w) (I.ok.hd hc) it lo (-1) n;refine W.item i s _ _ q st λv c tk B x A=>?_;obtain⟨t,rfl⟩:=B;have D:Inv X a y H { s with heap:=c,toks:=tk }:=I.turned (λb o hb e=>A b o (#[17]) e) m j r f p;refine⟨_,rfl,vU (s:={ s with heap:=c,toks:=tk }) (n:="range_iterator") x rfl rfl #[2] ⟨.int (lo-i),H,D,⟨t,?_⟩,⟨rfl,rfl⟩,x,λb hb=>(d b hb).1⟩⟩;rw[show lo+(i:Int) * -1=lo-i by omega]
 done:=by
  intro X u g l hc i a s y H E I d st q;subst u g l;obtain⟨m,j,F,r,f,p⟩:=d it #[3];exact aaK (I.ok.hd hc) st (by have:n<=i:=q;omega) λc J=>⟨rfl,I.turned (t':=s.toks) (λb o hb e=>J b o hb e) m j r f p⟩
 self:=λ_ _ _ _ _ st h=>aaL st h
theorem qY (a b:Int):T1 a b (-1)=if b<a then a-b else 0:=by unfold T1;simp only[show ¬ (-1:Int) > 0 by decide,la,Int.neg_neg,Int.ediv_one];split<;>omega
section
variable {X:Cx}{tg:gy}{W:WT}{pos:Ud}
theorem Az {c:Ln}{d:St}{H:Hp}{s:bo}{R:It->Hp->Prop}{E:Lm}{lo a:Int}{t u v:Tok}{tk:Nat}(I:Inv X c d H s)(k : -(2 ^ 62)<=lo)(l:lo<2 ^ 62)(i : -(2 ^ 62)<=a)(j:a<2 ^ 62)
  (q:R (XX lo (lo-a).toNat) H):dr #[8] X.A (acg (#[16])) (Yf X c d tg R) E { s with heap:=s.heap.push { cls:=.type "range",data:=.fields #[.int lo t,.int a u,.int (-1) v] },toks:=tk }:=by
 refine ach (aex ..) ?_ ?_
 ·unfold Builtin.Range.small;rw[qY];simp only[Builtin.Range.rangeFitsLong,pX,Zi,x6,XD,show ¬ (-1:Int) > 0 by decide,la];split<;>omega
 have f:Inv X c d H { s with heap:=s.heap.push { cls:=.type "range",data:=.fields #[.int lo t,.int a u,.int (-1) v] },toks:=tk }:=I.kept λb o e=>a9 _ e
 refine⟨(s.heap.push { cls:=.type "range",data:=.fields #[.int lo t,.int a u,.int (-1) v] }).objs.size,[(s.heap.push { cls:=.type "range",data:=.fields #[.int lo t,.int a u,.int (-1) v] }).objs.size],_,_,H,rfl,
  f.kept (t':=tk) λb o e=>a9 _ e,Ap _ lo (lo-a).toNat,?_,λb hb=>?_,q⟩
 ·have g:lo+((0:Nat):Int)*(-1)=lo:=by simp
  have h:(((lo-a).toNat:Nat):Int)-((0:Nat):Int)=T1 lo a (-1):=by rw[qY];split<;>omega
  show abq _ _ (lo+((0:Nat):Int)*(-1)) ((((lo-a).toNat:Nat):Int)-((0:Nat):Int)) (-1);rw[g,h];exact er _ rfl
 have e:b=(s.heap.push { cls:=.type "range",data:=.fields #[.int lo t,.int a u,.int (-1) v] }).objs.size:=#[17]
 subst e;exact f.Ot (e9 _) (f.LW.fresh (e9 _))
theorem AI {a b c:gy}{l:TA}{p pos:Ud}(z:Gl X "range")(u:X.mg "range"=a4)(ha:PA X [a,b,c] l)(o:ek [a,b,c] X.env=(a8,qa a X.env)::ek [b,c] X.env:=by rfl)(v:(rb pos (ek [b,c] X.env)).any (·.1)=a8:=by rfl) :
  PI X tg (.Call (.Name "range" p) [a,b,c] [] pos) (λg H R=>l g H λvs m => ∃ i j:Int,vs=[.int i,.int j,.int (-1)]/\(-1000<=i/\i<2 ^ 25/\-1000<=j/\j<2 ^ 25)/\R (XX i (i-j).toNat) m):=by
 intro d s g H R I h;refine Call_ (jg I z u boot_range (UN (LO (ha pos d s g H _ I h) λG E n=>?_) o v));obtain⟨vs,m,y,w,k⟩:=n;obtain⟨i,j,e,⟨k,F,D,C⟩,q⟩:=k;subst e;cases w with
 |cons r f =>
  cases f with
  |cons A f =>
   cases f with
   |cons x f =>
    cases f;obtain⟨t,rfl⟩:=r;obtain⟨B,rfl⟩:=A;obtain⟨t2,rfl⟩:=x;exact call_range_3 #[2] (Az y #[0] #[0] #[0] #[0] q)
noncomputable def u8:ak D->a5 (ak D)
 |[.int i,.int j,.int k]=>if -1000<=i/\i<16000000/\-1000<=j/\j<2 ^ 25/\k = -1 then ag ((ew (i-j).toNat).map λ(k:Nat)=>D.int (i-k)) else a4
 |_=>a4
theorem Walk.down {J:ak bc}{H:Hp}(lo:Int)(n:Nat)(hz:n<=da):Walk X (XX lo n) ((ew n).map λ(k:Nat)=>D.int (lo-k)) J H where
 len:=by rw[dv,mc];exact hz
 go:=λb c i x a=>by rw[dv,mc] at a;exact a
 Qk:=λb c i v d x e a y=>by
  obtain⟨rfl,rfl⟩:=y;rw[dv,mc] at a;exact⟨.int (lo-i),by rw[dk,Zl a];rfl,#[18],LH.refl _⟩
 stop:=λb c i x a=>by rw[dv,mc] at a;exact a
theorem Au {tg a b c:gy}{t:Lk (ak D)}{x:el}{p:Ud}(e:x="range")(o:X.mg x=a4)(ha:SA X W [a,b,c] t)(u:Gl X x:=by rfl)(g:ek [a,b,c] X.env=(a8,qa a X.env)::ek [b,c] X.env:=by rfl)(q:(rb pos (ek [b,c] X.env)).any (·.1)=a8:=by rfl) :
  SI X W tg (.Call (.Name x p) [a,b,c] [] pos) (gE u8 t):=by
 subst e;refine PI.imp (AI u o ha g q) λI H R h=>(i8 h).mono λE w f=>?_;obtain⟨J,S,es,y,s,m,d,z⟩:=f;unfold u8 at d;split at d
 ·rename_i i j k;split at d
  ·rename_i c;obtain⟨F,G,B,A,rfl⟩:=c;cases d;obtain⟨v,r,rfl,a1,n⟩:=Ly.Lv.mp m;obtain⟨C,K,rfl,a2,n⟩:=Ly.Lv.mp n;obtain⟨L,M,rfl,l,n⟩:=Ly.Lv.mp n;cases Ly.Lz.mp n;cases At.Lu.mp a1;cases At.Lu.mp a2;cases At.Lu.mp l;exact⟨i,j,rfl,⟨#[1],#[1],#[1],#[1]⟩,z w _ (LH.refl _) (Walk.down i (i-j).toNat (by show (i-j).toNat<=16777216;omega))⟩
  cases d
 cases d
end
section
variable {X:Cx}{W:WT}
noncomputable def qj (n:Nat)(ix:ak Nat)(c:Lk (ak D))(u:D->Lr->a5 Lr)(gt:Lk eM)(fe:Lk D):Lk D:=λa S=>ai (c a S) λb d =>
 match b8 u gt fe b (bT n ix a) d with
 |ag (out,S2)=>LB (.loc S2.length) (S2++[.lst out])
 |a4=>a4
theorem yi {i:Lk (ak D)}{u:D->Lr->a5 Lr}{gt:Lk eM}{fe:Lk D}{n:Nat}{ix:ak Nat}{g:St}{H:Hp}{Q:VK}(h:tE X W (qj n ix i u gt fe) g H Q) :
  iW X W i g H λj f => ∃ b ρ a S2 ds out,Cf X b ρ a g f/\Walk X j ds b f/\b8 u gt fe ds (bT n ix ρ) a=ag (out,S2)/\∀ d H' v,Ex b f d H'->LX X.K d (S2++[.lst out]) H'->At X.K H' d (.loc S2.length) v->Q v H':=by
 obtain⟨J,ρ,S,r,A,c,_,e,z⟩:=h;unfold qj at e;cases q:i ρ S with
 |none=>simp[q] at e
 |some o =>
  obtain⟨t,a⟩:=o;simp only[q] at e;cases t with
  |error x =>
   cases e;exact⟨J,ρ,S,.error x,_,c,q,z⟩
  |ok ds =>
   simp only[fF] at e;cases qc:b8 u gt fe ds (bT n ix ρ) a with
   |none=>rw[qc] at e;cases e
   |some p =>
    obtain⟨out,S2⟩:=p;rw[qc] at e;cases e;exact⟨J,ρ,S,.ok ds,a,c,q,λb f j k y w=>⟨b,ρ,a,_,ds,out,c.re k y,w,qc,λd H' v m l s=>z d H' v (k.trans m) l s⟩⟩
theorem uS {g iter elt:gy}{ifs:ak gy}{scope:ku}{pos G j:Ud}{r:Lk (ak D)}{u:D->Lr->a5 Lr}{gt:Lk eM}{fe:Lk D}{ts:ak el}{ix:ak Nat}{i:Nat}{y:el}
  (hN:X.N.Nodup) (hc:X.calm=a6) (Sc:MH scope X.env) (Pz:∀ t∈ix,scope.names.lookup (X.N.getD t XI)=ag .free) (hi:SI X W g iter r) (Q4:HV X scope ts ix g ifs elt u gt fe)
  (O:X.N[i]?=ag y:=by rfl) (L:Loc X.env.scope y:=by first |exact abu rfl |exact aac rfl) (YF:TM (.ListComp elt [⟨g,iter,ifs,0⟩] scope pos) (ag (.Name y j)) G.line X.env=wh a6:=by rfl)
  (hf:X.fn y=a6∨X.env.scope.names.lookup y=ag .local:=by first |exact .inl rfl |exact .inr rfl |assumption)
  (hs:∀ x,UO iter X.env x=wh x:=by intro _;rfl):SS X W (.Assign [.Name y j] (.ListComp elt [⟨g,iter,ifs,0⟩] scope pos) G) (bh i (qj ts.length ix r u gt fe)):=by
 intro c s l H E I h;obtain⟨cl,Qq,h1,h2⟩:=kJ I Sc;have h:=tS.LC h;rw[abj _ _ _ _ YF];refine av (Z_ (av ?_));show dr _ X.A (do let _ ← comprehension (.ListComp elt [⟨g,iter,ifs,0⟩] scope pos) scope X.env _ (newList []) a8 (qa iter X.env) (ag (WA (.Name y j) X.env))) _ _ s;refine av (ro (V2 (use:=ag (WA (.Name y j) X.env)) (Q:=λ_ d=>SP X c E .next d) rfl hs Qq Sc.kind Sc.names ?_) (λ_ d Z=>ay (ay Z)) λ_ _ e=>e);refine LO (hi c s l H _ I (yi h)) λv s1 Qg=>LO Qg λVS s2 QL=>?_;obtain⟨it,fp,tn,Jt,H2,e,R,T,t0,S,J0,ρ,S1,S2,ds,out,c2,wk,P,fin⟩:=QL;subst e;refine mW hc Sc h1 h2 Pz Q4 R T t0 S c2 wk P λa C d ce=>?_;obtain⟨m,hm⟩:=ce.ns;obtain⟨o1,o2,w,Y⟩:=ce.own;obtain⟨n,k,f,I',x',F,ad,p,lz,hC⟩:=ce.fin d.heap λ_ _=>rfl;have YG:Inv X c l (upd k a (.lst f)) d:=I'
 have x2:Ex n k (n++[a]) (upd k a (.lst f)):=⟨⟨[a],rfl⟩,λb u hb V=>⟨by rw[aH (aM hb p)];exact hb,λz=>by
   rcases k6.mp z with z |z
   ·exact V z
   exact aM hb p (by simpa using z)⟩⟩
 have J:=F.push (o:=.lst f) (mo:=.lst out) p ⟨f,LD,ad.ex x2⟩;have q:=fin (n++[a]) _ (.ref a) (x'.trans J.2) J.1 (At.LI.mpr ⟨a,rfl,by rw[← F.len,h6 (e9 _)];simp⟩);show dr _ X.A (WA (.Name y j) X.env (.ref a)) _ _ d;refine ZQ (mF YG hN O L (v:=.ref a) rfl (λB I3 Zq=>?_) hf);obtain⟨ad,sb,hd⟩:=Zq
 have U:C≠ad:=by
  rcases hd with z |z
  ·rw[z];exact o2
  exact(w y ad z).symm
 refine⟨m,hm.sameBut sb U,λK YI=>?_⟩;have M:Inv X c (l.set i (ag (.ref a))) (upd k a (.lst f)) { B with heap:=K }:=I3.turned (t':=B.toks) (it:=C) (λb o hb e=>(YI.2 b hb).trans e) hC o2 (.inr o1) w Y;obtain⟨Jq,ρq,Sq,dq,rq,Sq',cq,mq,eq,zq⟩:=q;cases eq;exact⟨_,_,M,zq Jq _ _ Ex.refl (cq.set mq)⟩
end
noncomputable def F2 (X:Cx)(q:el)(scope:ku)(cl:ak (el×bc))(c:ak el)(f:bc)(cd:ax)(a:bo)(b:Hp):Cx:=
 { X with A:=X.A.in1.deeper (envX q scope a.heap.objs.size f cd cl),N:=c,s₀:=a,H₀:=b,env:=envX q scope a.heap.objs.size f cd cl,outer:=X.stack,stack:=envX q scope a.heap.objs.size f cd cl::X.stack,ex:=[],fn:=λ_=>a8,calm:=a6,pn:=[],xe:=λ_ _=>False }
section
variable {X:Cx}{pins:Ln}{σ:St}{H:Hp}{s:bo}{scope:ku}{cl:ak (el×bc)}{ix:ak Nat}{x q:el}
structure WZ (X:Cx) (scope:ku) (cl:ak (el×bc)):Prop where
 sub:∀ x c,cl.lookup x=ag c->X.env.cells.lookup x=ag c
 has:∀ y∈scope.names,y.2 = .free->∃ c,cl.lookup y.1=ag c
def Jz (X:Cx)(k:Nat)(q:el)(scope:ku)(x:el)(ix:ak Nat)(body:gy)(c:Lk D):Prop:=
 ∀ (cl:ak (el×bc)) (f:bc) (cd:ax) (a:bo) (b:Hp),L1 k (F2 X q scope cl (iQ [x] ix X.N) f cd a b).A->SE (F2 X q scope cl (iQ [x] ix X.N) f cd a b) W0 body c
structure R5 (X:Cx) (scope:ku) (x:el) (ix:ak Nat):Prop where
 sc:MH scope X.env
 nc:∀ y∈scope.names,y.2≠.cell
 cap:∀ t∈ix,scope.names.lookup (X.N.getD t XI)=ag .free
 par:scope.names.lookup x=ag .local
 co:scope.isCoroutine=a8
 gen:scope.isGenerator=a8
end
class BmB (base:ja) (mg:Lo):Prop where
 out:∃ bm o,mg "__builtins__"=ag (.ref bm)/\bm≠YY/\bm≠my/\base.get? bm=ag o/\o.cls = .type "module"/\o.dict=ag YY/\o.data = .plain
section
variable {X:Cx}{pins:Ln}{σ:St}{scope:ku}{cl:ak (el×bc)}{ix:ak Nat}{x q:el}{params:XO}{body:gy}{pm QY:ax}{c' f Ia St p:bc}{k:Nat}{gk:Lk D}{ρ:Lr}{S2:Lq}{y:D}{zs:ak V}{ds:ak D}{J0:ak bc}{H0:Hp}{R:ac4->bo->Prop}
structure Zu (X:Cx) (pins:Ln) (scope:ku) (cl:ak (el×bc)) (ix:ak Nat) (x q:el) (params:XO) (body:gy) (pm QY:ax) (c' f Ia St p:bc) (k:Nat) (gk:Lk D):Prop where
 hr:L1 (k+2) X.A
 L:R5 X scope x ix
 lc:WZ X scope cl
 hb:∀ u,UY (kla_fn "<lambda>" q params body scope cl pm (.ref c') QY) ⟨[u],[]⟩=wh [(x,u)]
 ok:Jz X k q scope x ix body gk
 ff:∀ H:Hp,H f=a4->g0 X pins H f
 fI:∀ H:Hp,H Ia=a4->g0 X pins H Ia
 fS:∀ H:Hp,H St=a4->g0 X pins H St
 n1:f≠Ia
 n2:f≠St
 n3:Ia≠St
 n4:p≠Ia
 n5:p≠St
structure MinAt (X:Cx) (pins:Ln) (σ:ak (a5 V)) (scope:ku) (cl:ak (el×bc)) (q:el) (params:XO) (body:gy) (pm QY:ax) (c' f Ia St p:bc) (ρ:Lr) (zs:ak V) (ds:ak D) (J0:ak bc) (H0:Hp) (j:Nat) (s:bo) (H:Hp) (J:ak bc) (S:Lq):Prop where
 I:Inv X pins σ H s
 ex:Ex J0 H0 J H
 c:Cf X J ρ S σ H
 lq:LQ X.K H J p zs
 az:Ly X.K H J ds zs
 hc:H c'=ag (DJ c' q)
 nc:c'∉J
 Hf:H f=a4
 HI:H Ia=a4
 HS:H St=a4
 gf:s.heap.get? f=ag (kla_obj "<lambda>" q params body scope cl pm c' QY)
 it:s.heap.IsListIter Ia p j
end
mutual
def tO:D->eM
 | .LR=>a6
 | .bl _=>a6
 | .int _=>a6
 | .str _=>a6
 | .tup a=>tOs a
 |_=>a8
def tOs:ak D->eM
 |[]=>a6
 |d::ds=>tO d&&tOs ds
end
def KA (o:HO):Prop:=∃ a,o = .tup a∨∃ b,o = .QB b (.tup a)
structure W3 (scope:ku) (x n:el):Prop where
 kind:scope.kind = .function
 nc:∀ y∈scope.names,y.2≠.cell
 par:scope.names.lookup x=ag .local
 cap:scope.names.lookup n=ag .free
 one:∀ y∈scope.names,y.2 = .free->y.1=n
 co:scope.isCoroutine=a8
 gen:scope.isGenerator=a8
noncomputable def IK (S:Lq):eM:=S.all λo=>match o with
 | .UH _ _ _ _=>a8
 |_=>a6
section
variable {K:Ll}{H:Hp}{J:ak bc}{c:bc}{oc:Obj}
structure Alone (H:Hp) (c:bc):Prop where
 st:∀ us,H c≠ag (HN c us)
 tu:∀ o,KA o->H c≠ag o
 li:∀ xs,H c≠ag (.lst xs)/\∀ ob,H c≠ag (.QB ob (.lst xs))
 cd:∀ q,H c≠ag (DJ c q)
end
section
variable {X:Cx}{W:WT}{g n z q:el}{p pos lp:Ud}{e1 e2:gy}{f1 f2:Lk D}{params:XO}{body:gy}{scope:ku}{k i:Nat}{ps:ak el}{F:Lp}{c0 P:bc}
structure LamM (X:Cx) (σ:St) (q n:el) (params:XO) (body:gy) (scope:ku) (lp:Ud) (i:Nat) (F:Lp) (Q:V->Hp->Prop) (v1 v2:V) (f c c':bc) (pm QY:ax) (a b dc y:D) (J:ak bc) (ρ:Lr) (S S3:Lq) (H0 H2:Hp):Prop where
 cf:Cf X J ρ S σ H0
 a1:At X.K H0 J a v1
 a2:At X.K H0 J b v2
 ri : ρ[i]?=ag (ag dc)
 eF:F [a,b,.loc S.length] (S++[.UH (.Lambda params body scope lp) q n dc])=ag (.ok y,S3)
 nc:IK S=a6
 ty:tO y=a6
 tk:S3.take S.length=S
 ex:Ex J H0 J H2
 so:LX X.K J S H2
 nf:H2 f=a4
 cj:c'∉J
 cd:H2 c'=ag (DJ c' q)
 ce:X.env.cells.lookup n=ag c
 fin:∀ J' H' v,Ex J H0 J' H'->LX X.K J' S H'->At X.K H' J' y v->Q v H'
end
end L2
namespace L2
open PySem
noncomputable def PU:Nat->Nat->Nat
 | 0,i=>i
 |n+1,i=>PU n (5*i+1)
theorem zG (a b i:Nat):PU (a+b) i=PU b (PU a i):=by
 induction a generalizing i with
 |zero=>simp[PU]
 |succ a c=>rw[succ_add];exact c _
theorem E6 (k:Nat):∃ a b,∀ x,PU (2 ^ k) x=(1+2 ^ (k+2)*a)*x+2 ^ k*(2*b+1):=by
 induction k with
 |zero=>exact⟨1,0,λx=>by simp[PU]⟩
 |succ k f =>
  obtain⟨a,b,h⟩:=f;refine⟨a+2*2 ^ k*a*a,b+2 ^ k*a*(2*b+1),λx=>?_⟩;have e : 2 ^ (k+1)=2 ^ k+2 ^ k:=by rw[RA];omega
  have d : 2 ^ (k+2)=4*2 ^ k:=by rw[pow_add];omega
  have c : 2 ^ (k+1+2)=8*2 ^ k:=by rw[pow_add,pow_add];omega
  rw[e,zG,h,h,c,d];generalize 2 ^ k=p
  grind
theorem E7 (n m x y:Nat)(h:x % m=y % m):PU n x % m=PU n y % m:=by
 induction n generalizing x y with
 |zero=>exact h
 |succ n a=>exact a _ _ (by rw[add_mod,Nat.mul_mod,h,← Nat.mul_mod,← add_mod])
theorem E8 (k:Nat):∀ i t,t<2 ^ k->∃ n,n<2 ^ k/\PU n i % 2 ^ k=t:=by
 induction k with
 |zero=>intro i t h;exact⟨0,#[1],by simp at h;simp[h,Nat.mod_one]⟩
 |succ k s =>
  intro i t h;have e : 2 ^ (k+1)=2*2 ^ k:=by rw[RA];omega
  have r : 0<2 ^ k:=adB k;obtain⟨n,w,c⟩:=s i (t % 2 ^ k) (aah _ r);obtain⟨a,b,v⟩:=E6 k
  have l:PU (n+2 ^ k) i % (2*2 ^ k)=(PU n i+2 ^ k) % (2*2 ^ k):=by
   rw[zG,v]
   have:(1+2 ^ (k+2)*a)*PU n i+2 ^ k*(2*b+1)=PU n i+2 ^ k+(2*2 ^ k)*(2*a*PU n i+b):=by
    have f : 2 ^ (k+2)=4*2 ^ k:=by rw[pow_add];omega
    rw[f];generalize 2 ^ k=p
    grind
   rw[this,Nat.add_mul_mod_self_left]
  rw[e] at h ⊢;generalize j:PU n i=z at *
  by_cases q:z % (2*2 ^ k)=t
  ·exact⟨n,#[1],by rw[j];exact q⟩
  refine⟨n+2 ^ k,#[1],?_⟩;rw[l];generalize 2 ^ k=p at *
  have u:z % (2*p) % p=z % p:=Nat.mod_mod_of_dvd _ ⟨2,#[1]⟩;have x:z % (2*p)<2*p:=aah _ #[0];rw[add_mod];have d:p % (2*p)=p:=UD #[0];rw[d];rw[← u] at c;generalize z % (2*p)=y at *
  have m:y % p=if y<p then y else y-p:=by
   split
   ·exact UD #[0]
   rw[Zy #[0],UD #[0]]
  have o:t % p=if t<p then t else t-p:=by
   split
   ·exact UD #[0]
   rw[Zy #[0],UD #[0]]
  have g:(y+p) % (2*p)=if y<p then y+p else y-p:=by
   split
   ·exact UD #[0]
   rw[Zy #[0],show y+p-2*p=y-p by omega,UD #[0]]
  rw[m,o] at c;rw[g];split at c<;>split at c<;>split<;>omega
noncomputable def du (mask:Nat):Nat->Nat->Nat->Nat×Nat
 | 0,i,p=>(i,p)
 |n+1,i,p=>du mask n (mx mask i p).1 (mx mask i p).2
theorem A9 (mask a b i p:Nat):du mask (a+b) i p=du mask b (du mask a i p).1 (du mask a i p).2:=by
 induction a generalizing i p with
 |zero=>simp[du]
 |succ a c=>rw[succ_add];exact c _ _
theorem A8 (mask n i p:Nat):(du mask n i p).2=p / 32 ^ n:=by
 induction n generalizing i p with
 |zero=>simp[du]
 |succ n a =>
  show (du mask n _ _).2=_;rw[a];show p / 32 / 32 ^ n=_;rw[Nat.div_div_eq_div_mul,RA,adS 32]
theorem xM (mask n i:Nat):(du mask n i 0).1 % (mask+1)=PU n i % (mask+1):=by
 induction n generalizing i with
 |zero=>rfl
 |succ n a =>
  show (du mask n _ _).1 % _=PU n _ % _;have:(mx mask i 0).2=0:=rfl;rw[this,a];refine E7 _ _ _ _ ?_;show (i*5+1+0 / 32) % (mask+1) % (mask+1)=_;rw[Nat.mod_mod];congr 1;omega
theorem vK (mask n i p:Nat)(a:i<=mask):(du mask n i p).1<=mask:=by
 induction n generalizing i p with
 |zero=>exact a
 |succ n b=>exact b _ _ (UM (aah _ (aaF _)))
theorem rP {mask k:Nat}(b:mask+1=2 ^ k){i p j:Nat}(c:i<=mask)(d:p<2 ^ 64)(f:j<=mask):∃ n,n<mask+14/\(du mask n i p).1=j:=by
 have a:(du mask 13 i p).2=0:=by rw[A8];exact Nat.div_eq_of_lt (i3 d #[2])
 obtain⟨n,g,e⟩:=E8 k (du mask 13 i p).1 j #[0];refine⟨13+n,#[1],?_⟩;rw[A9,a];have:=xM mask n (du mask 13 i p).1;rw[b,e] at this;rw[← b,UD (Nat.lt_succ_of_le (vK _ _ _ _ (vK _ _ _ _ c)))] at this;exact this
theorem Aa (h:Int):lb h<2 ^ 64:=by unfold lb;have:=vu h (show (2 ^ 64:Int)≠0 by decide);have:=tq h (show (0:Int)<2 ^ 64 by decide);omega
theorem zK {owner:hO (a5 Nat)}{mask:Nat}:∀ (n fuel i p:Nat),n<fuel->owner[(du mask n i p).1]?=ag a4->∃ j,p0 mask owner fuel i p=ag j/\owner[j]?=ag a4
 |n,0,_,_,h,_=>ib h (adC _)
 |n,fuel+1,i,p,h,e=>by
  unfold p0;split
  ·rename_i k a;have:=adD a;refine⟨i+k,rfl,?_⟩;rw[zh] at this;cases q:owner[i+k]? with
   |none=>rw[q] at this;cases this
   |some o=>rw[q] at this;cases o with
    |none=>rfl
    |some v=>cases this
  rename_i a;cases n with
  |zero =>
   have : 0∈ew (ke mask i+1-i):=by rw[SJ];unfold ke;split<;>omega
   have:=aam.mp a 0 this;rw[zh] at this;have e:owner[i]?=ag a4:=e;rw[add_zero,e] at this;exact ib rfl this
  |succ n=>exact zK n fuel _ _ (Nat.lt_of_succ_lt_succ h) e
theorem uW {k:Nat}:∀ {l:ak (a5 Nat)}{j:Nat},l[j]?=ag a4->((l.set j (ag k)).filterMap id).Perm (k::l.filterMap id)
 |[],j,h=>by simp at h
 |a::l,0,h=>by
  simp at h;subst h;simp
 |a::l,j+1,h=>by
  have b:=uW (l:=l) (j:=j) (k:=k) (by simpa using h);cases a with
  |none=>simpa using b
  |some v =>
   simp only[List.set_cons_succ,Tz (f:=id) rfl];exact(abL v b).trans (ad4 _ _ _)
theorem zP:∀ {l:ak (a5 Nat)},(l.filterMap id).length<l.length->∃ j:Nat,l[j]?=ag a4
 |[],h=>by simp at h
 |a4::l,h=>⟨0,rfl⟩
 |ag v::l,h=>by
  simp only[Tz (f:=id) rfl,hG] at h;obtain⟨j,e⟩:=zP (l:=l) #[0];exact⟨j+1,by simpa using e⟩
theorem xO {mask k:Nat}(o:mask+1=2 ^ k):∀ (a:ak Int) (owner:hO (a5 Nat)) (n:Nat),owner.size=mask+1->(owner.toList.filterMap id).Perm (ew n)->n+a.length<=mask+1 ->
  ∃ d,a.foldl (init:=ag (owner,n)) (λe h=>do
   let (owner,k) ← e;let j ← p0 mask owner (QD mask) (lb h % (mask+1)) (lb h)
   wh (owner.setIfInBounds j (ag k),k+1))=ag (d,n+a.length)/\d.size=mask+1/\(d.toList.filterMap id).Perm (ew (n+a.length))
 |[],owner,n,f,b,_=>⟨owner,rfl,f,b⟩
 |h::a,owner,n,f,b,h3=>by
  rw[hG] at h3;have t:(owner.toList.filterMap id).length=n:=by rw[b.length_eq,mc]
  obtain⟨q,c⟩:=zP (l:=owner.toList) (by rw[t,gz];omega);rw[kc] at c;have u:q<owner.size:=(rg.mp c).1;obtain⟨m,A,v⟩:=rP o (i:=lb h % (mask+1)) (p:=lb h) (j:=q) (UM (aah _ (aaF _))) (Aa h) #[0];obtain⟨j,y,g⟩:=zK (owner:=owner) (mask:=mask) m (QD mask) _ _ (by unfold QD;omega) (by rw[v];exact c);have z:j<owner.size:=(rg.mp g).1
  obtain⟨s,r,w,x⟩:=xO o a (owner.setIfInBounds j (ag n)) (n+1) (by rw[We,f]) (by
   rw[U3,ad1]
   exact(uW (by rw[kc];exact g)).trans ((abL n b).trans (U9 n (ew n)).symm)) #[0]
  refine⟨s,?_,w,?_⟩
  ·rw[Pw,hG,show n+(a.length+1)=n+1+a.length by omega,← r];simp only[aa2,lr,y,aeb]
  rw[hG,show n+(a.length+1)=n+1+a.length by omega];exact x
theorem EY {mask k:Nat}(m:mask+1=2 ^ k)(finger moves:Nat)(led plain:eM)(e:hO Int)(n:e.size<=mask+1) :
  ∃ t order,aan mask finger moves led plain e=ag (t,order)/\order.toList.Perm (ew e.size)/\t.mask=mask/\t.place.size=e.size/\t.dummies = #[]/\t.led=led/\t.plain=plain/\Qs t.place:=by
 obtain⟨o,h,l,f⟩:=xO m e.toList (abc (mask+1) a4) 0 #[3] (by simp[Xf]) (by simpa using n);rw[lk,gz,acx] at h;rw[lk,gz] at f;have p:Xg mask e=ag o:=by unfold Xg;rw[h];rfl
 have q:(ew (mask+1)).map (λj=>o.getD j a4)=o.toList:=by
  apply adg
  ·simp[l]
  intro i a b;simp at a b;simp[a,b,l,zh]
 have g:((ew (mask+1)).filterMap λj=>(o.getD j a4).map (j,·)).map (·.2)=o.toList.filterMap id:=by rw[List.map_filterMap,← q,aco];congr 1;funext j;show _=o.getD j a4;cases o.getD j a4<;>rfl
 refine⟨_,_,by unfold aan;simp only[p,aa2,lr,aeb];rfl,?_,rfl,?_,rfl,rfl,rfl,?_⟩
 ·show List.Perm (aaD _ _) _;rw[g];exact f
 ·have:=q7 WH g;rw[f.length_eq,mc,dv] at this;rw[4]
 unfold Qs;simp only[ab3,Ml];rw[List.pairwise_filterMap];refine List.pairwise_lt_range.imp λ{a b} r c hc d hd=>?_;obtain⟨u,_,rfl⟩:=d7.mp hc;obtain⟨v,_,rfl⟩:=d7.mp hd;exact r
end L2
namespace L2
open PySem PySem.Spec PyProof.Rows PySem.W
theorem nL {K:Type}[wt K]:∀ (l b:ak K),b.Nodup->(l.foldl bq b).Nodup
 |[],b,h=>h
 |a::l,b,h=>by
  rw[Pw];refine nL l _ ?_;unfold bq;split
  ·exact h
  rename_i n;rw[Qf];exact⟨h,by simp,λx c y d=>by rw[gA.mp d];intro e;subst e;exact n c⟩
noncomputable def D1:ak D->a5 D
 |[.lst ds]=>(bU ds).map λns => .int ns.sum
 |_=>a4
noncomputable def xc:D->a5 eM
 | .LR=>ag a8
 | .tup a=>ag (!a.isEmpty)
 |_=>a4
noncomputable def Dv (c e:Lk D):Lk D:=λa S=>ai (c a S) λx d=>ai (aL (xc x) d) λk b=>if k=a6 then LB x b else e a b
section
variable {X:Cx}{W:WT}{a b:gy}{rest:ak gy}{fa fb:Lk D}{pos:Ud}
theorem HG:n0 "sum"=ag (.builtin "sum"):=by decide
theorem Hv (hc:X.calm=a6):j_ X (.builtin "sum") D1:=by
 intro c s G H b K Q I r h;obtain⟨J,C,d,D,m,e,q⟩:=h;unfold D1 at e;rw[1]
 ·rename_i F;obtain⟨ns,f,j⟩:=d7.mp e;subst j;obtain⟨v,w,rfl,a,n⟩:=Ly.Lv.mp m;cases Ly.Lz.mp n;obtain⟨p,B,rfl,t,z⟩:=At.LG.mp a;obtain⟨u,rfl,y⟩:=vals1 r;cases y;have o:=fB f;subst o;have ev:=Ly.Oa z;subst ev;obtain⟨its,l,pl,E⟩:=I.list t.sq;obtain⟨b,ex,g⟩:=kA (eX l);have k:s.heap.IsList p (ad6 b.toArray):=by have:=pl.isList;rw[ex] at this;simpa [ad6] using this
  refine sum_intListG (I.ok.hd hc) k λA tk x i=>?_;refine⟨.int ns.sum,H,I.kept (t':=tk) i,⟨x,?_⟩,q H _ (LH.refl H) (#[18])⟩;rw[preSum_eq,y0 #[3],g]
 cases e
noncomputable def JN (K:Ll)(d c:TE):TE:=λb H Q=>d b H λx a => ∃ k,Jr K x a k/\if k=a6 then Q x a else c b a Q
theorem GQ {j g:TE}(ha:PE X a j)(hb:PE X (.BoolOp .Or (b::rest) pos) g):PE X (.BoolOp .Or (a::b::rest) pos) (JN X.K j g):=by
 intro d s f H Q I h;refine BoolOp_or (LO (ha d s f H _ I h) λv r p=>?_);obtain⟨x,n,t,l,k,tk,i⟩:=p;refine ro (Gb d r f n x v (λc e=>c=k/\e=n) t l ⟨k,tk,rfl,rfl⟩) (λc u q=>?_) λ_ _ o=>o;obtain⟨e,m,rfl,rfl⟩:=q;cases c with
 |false=>exact hb d u f e Q m i
 |true=>exact⟨x,e,m,l,i⟩
theorem Gp (ha:SE X W a fa)(hb:SE X W (.BoolOp .Or (b::rest) pos) fb):SE X W (.BoolOp .Or (a::b::rest) pos) (Dv fa fb):=
 (GQ ha hb).imp λy H Q h=>(tG.LC h).mono λv x p=>by
  obtain⟨d,w⟩:=p
  obtain⟨J,l,S,r,j,c,m,e,z⟩:=w;obtain⟨i,_⟩:=m.LA;have f:ai (aL (xc d) S) (λk o=>if k=a6 then LB d o else fb l o)=ag (r,j):=e;clear e;cases d with
  |LR =>
   cases At.Mf.mp i;exact⟨a8,rfl,J,l,S,r,j,c,.nil,f,z⟩
  |tup n =>
   obtain⟨q,g,rfl,s,u⟩:=At.LF.mp i;refine⟨!g.isEmpty,.inr (.inl ⟨g,s.sq,rfl⟩),?_⟩;have t:(!n.isEmpty) = !g.isEmpty:=by have:=u.length;cases n<;>cases g<;>simp at this<;>rfl
   rw[xc,bF,eI,t] at f;cases hv:g.isEmpty with
   |true =>
    rw[hv] at f;exact⟨J,l,S,r,j,c,.nil,f,z⟩
   |false =>
    rw[hv] at f;cases f;exact z J x _ Ex.refl c.L0 i
  |_=>cases f
end
end L2
namespace L2
open PySem
noncomputable def VA (mask:Nat)(p:Dd):Dd:=
 if p.more > 0 then { p with j:=p.j+1,more:=p.more-1 } else
 { p with j:=(mx mask p.i p.perturb).1,more:=ke mask (mx mask p.i p.perturb).1-(mx mask p.i p.perturb).1,i:=(mx mask p.i p.perturb).1,perturb:=(mx mask p.i p.perturb).2 }
noncomputable def iP (mask:Nat):Nat->Dd->Dd
 | 0,p=>p
 |n+1,p=>iP mask n (VA mask p)
theorem k_ (mask a b:Nat)(p:Dd):iP mask (a+b) p=iP mask b (iP mask a p):=by
 induction a generalizing p with
 |zero=>simp[iP]
 |succ a c=>rw[succ_add];exact c _
theorem mD (mask n:Nat)(p:Dd):iP mask (n+1) p=VA mask (iP mask n p):=k_ mask n 1 p
noncomputable def QO (mask i p:Nat):Dd:={ j:=i,more:=ke mask i-i,i:=i,perturb:=p,dummy:=a4 }
noncomputable def wy (mask:Nat)(h:Int)(n:Nat):Dd:=iP mask n (QO mask (lb h % (mask+1)) (lb h))
theorem yC (t:A1)(h:Int)(n:Nat):wy t.mask h (n+1)=t.advance (wy t.mask h n):=mD _ _ _
theorem tL (mask i:Nat):i<=ke mask i/\ke mask i<=i+9:=by unfold ke;split<;>omega
theorem xq (mask i:Nat)(h:i<=mask):ke mask i<=mask:=by unfold ke;split<;>omega
theorem k9 (mask i p:Nat):∀ r,r<=ke mask i-i->iP mask r (QO mask i p)={ QO mask i p with j:=i+r,more:=ke mask i-i-r }
 | 0,_=>rfl
 |r+1,h=>by
  rw[mD,k9 mask i p r #[0]];unfold VA QO;rw[cc (by show ke mask i-i-r > 0;omega)];rfl
theorem mE (mask i p:Nat):iP mask (ke mask i-i+1) (QO mask i p)=QO mask (mx mask i p).1 (mx mask i p).2:=by rw[mD,k9 mask i p _ (e9 _)];unfold VA QO;rw[cn #[3]]
theorem oS (mask:Nat):∀ (n i p:Nat),∃ m,m<=10*n/\iP mask m (QO mask i p)=QO mask (du mask n i p).1 (du mask n i p).2
 | 0,i,p=>⟨0,#[1],rfl⟩
 |n+1,i,p=>by
  obtain⟨m,b,a⟩:=oS mask n (mx mask i p).1 (mx mask i p).2;refine⟨ke mask i-i+1+m,by have:=tL mask i;omega,?_⟩;rw[k_,mE,a];rfl
theorem F6 {mask k:Nat}(c:mask+1=2 ^ k)(h:Int){j:Nat}(b:j<=mask):∃ n,n<10*(mask+14)/\(wy mask h n).j=j:=by obtain⟨n,f,e⟩:=rP c (i:=lb h % (mask+1)) (p:=lb h) (j:=j) (UM (aah _ (aaF _))) (Aa h) b;obtain⟨m,d,a⟩:=oS mask n (lb h % (mask+1)) (lb h);refine⟨m,#[1],?_⟩;unfold wy;rw[a];exact e
theorem yM (mask:Nat):∀ (n:Nat) (p:Dd),p.j+p.more<=mask->(iP mask n p).j+(iP mask n p).more<=mask
 | 0,p,h=>h
 |n+1,p,h=>by
  refine yM mask n _ ?_;unfold VA;split
  ·show p.j+1+(p.more-1)<=mask;omega
  have a:(mx mask p.i p.perturb).1<=mask:=UM (aah _ (aaF _));have b:=xq mask _ a;have c:=tL mask (mx mask p.i p.perturb).1;show (mx mask p.i p.perturb).1+(ke mask (mx mask p.i p.perturb).1-(mx mask p.i p.perturb).1)<=mask;omega
theorem FD (mask:Nat)(h:Int)(n:Nat):(wy mask h n).j<=mask:=by have a:lb h % (mask+1)<=mask:=UM (aah _ (aaF _));have b:=xq mask _ a;have c:=tL mask (lb h % (mask+1));have:=yM mask n (QO mask (lb h % (mask+1)) (lb h)) (by show _+(_ - _)<=_;unfold QO;simp only;omega);exact fg (aa3 _ _) this
theorem oT (mask:Nat):∀ (n:Nat) (p:Dd),(iP mask n p).dummy=p.dummy
 | 0,p=>rfl
 |n+1,p=>by
  rw[iP,oT mask n];unfold VA;split<;>rfl
theorem BG (mask:Nat)(h:Int)(n:Nat):(wy mask h n).dummy=a4:=oT _ _ _
theorem eZ {t:A1}(hr:Qs t.place){i j:Nat}(h:t.place[i]?=ag j):t.slot j = .live i:=by
 obtain⟨a,e⟩:=rg.mp h
 have hb:hB t.place j=i:=ql hr (J8 a) (λn b q=>by have:=hr.lt q a;omega) λn b q=>by
  rcases Rv i n with z |z
  ·have:=hr.lt z b;omega
  have:n=i:=#[1]
  subst this;omega
 unfold acb;simp[hb,h]
theorem oZ {t:A1}(hd:t.dummies = #[]){j:Nat}(h:∀ i:Nat,t.place[i]?≠ag j):t.slot j = .empty:=by
 unfold acb;have e:(t.place[hB t.place j]?==ag j)=a8:=by rw[lE];exact h _
 simp[e,hd,aeu]
def QP (t:A1)(j:Nat):Prop:=∃ i:Nat,t.place[i]?=ag j
structure Tb (hs:ak Int) (t:A1):Prop where
 pow:∃ k,t.mask+1=2 ^ (k+1)
 VB:t.dummies = #[]
 Ug:t.place.size=hs.length
 R6:Qs t.place
 le:∀ (i j:Nat),t.place[i]?=ag j->j<=t.mask
 way:∀ (i:Nat) (h:Int) (j:Nat),hs[i]?=ag h->t.place[i]?=ag j->∃ n,(wy t.mask h n).j=j/\∀ m,m<n->QP t (wy t.mask h m).j
theorem Tb.Zv {a:ak Int}{t:A1}(T:Tb a t):t.gaveWay=a8:=by
 obtain⟨k,e⟩:=T.pow;unfold SetTable.gaveWay;rw[RA] at e;have:t.mask % 2=1:=#[1]
 rw[this];rfl
theorem Cg:∀ (n:Nat) (l:ak Nat),l.Nodup->l.length<n->∃ j,j<n/\j∉l
 | 0,l,_,h=>ib h (adC _)
 |n+1,l,hn,h=>by
  by_cases q:n∈l
  ·have a:(l.erase n).length<n:=by have:=UR q;rw[aao q];omega
   obtain⟨j,b,e⟩:=Cg n (l.erase n) (hn.erase n) a;refine⟨j,#[1],λz=>e ?_⟩;rw[List.Nodup.mem_erase_iff hn];exact⟨#[1],z⟩
  exact⟨n,#[1],q⟩
theorem Tb.room {a:ak Int}{t:A1}(T:Tb a t)(d:a.length<=t.mask):∃ j,j<=t.mask/\¬ QP t j:=by obtain⟨j,c,b⟩:=Cg (t.mask+1) t.place.toList (T.R6.imp λh=>m3 h) (by rw[gz,T.Ug];omega);refine⟨j,#[1],λ⟨i,e⟩=>b ?_⟩;rw[← kc] at e;exact ra e
theorem least {P:Nat->Prop}(n:Nat)(h:P n):∃ m,m<=n/\P m/\∀ k,k<m->¬ P k:=by
 induction n using abd with
 |ind n f =>
  by_cases q:∃ k,k<n/\P k
  ·obtain⟨k,d,e⟩:=q;obtain⟨m,a,b,c⟩:=f k d e;exact⟨m,#[1],b,c⟩
  exact⟨n,e9 _,h,λk d e=>q ⟨k,d,e⟩⟩
theorem Tb.free {a:ak Int}{t:A1}(T:Tb a t)(l:a.length<=t.mask)(h:Int):∃ N,N<10*(t.mask+14)/\¬ QP t (wy t.mask h N).j/\∀ m,m<N->QP t (wy t.mask h m).j:=by obtain⟨j,g,i⟩:=T.room l;obtain⟨k,e⟩:=T.pow;obtain⟨n,o,d⟩:=F6 e h g;obtain⟨N,p,f,b⟩:=least (P:=λn => ¬ QP t (wy t.mask h n).j) n (by rw[d];exact i);exact⟨N,#[1],f,λm c=>Classical.byContradiction (b m c)⟩
theorem rG {f:ak Int}{t:A1}(T:Tb f t){ha:Nat->Int}(s:∀ (i:Nat) (x:Int),f[i]?=ag x->ha i=x){h:Int}{N:Nat}(r:¬ QP t (wy t.mask h N).j)(p:∀ m,m<N->QP t (wy t.mask h m).j) :
  ∀ (fuel n:Nat),n<=N->N<n+fuel->(∃ m i,n<=m/\m<N/\t.place[i]?=ag (wy t.mask h m).j/\f[i]?=ag h/\(∀ d,n<=d->d<m->∀ i:Nat,t.place[i]?=ag (wy t.mask h d).j->f[i]?≠ag h)/\Xi t ha h fuel (wy t.mask h n)=ag (.candidate (wy t.mask h m).j i (wy t.mask h (m+1)))) ∨
   ((∀ m,n<=m->m<N->∀ i:Nat,t.place[i]?=ag (wy t.mask h m).j->f[i]?≠ag h)/\Xi t ha h fuel (wy t.mask h n)=ag (.empty (wy t.mask h N).j a4))
 | 0,n,B,u=>ib u #[0]
 |fuel+1,n,B,u=>by
  unfold Xi;rcases Rv n N with q |q
  ·obtain⟨i,e⟩:=p n q;rw[eZ T.R6 e];rw[0];have C:i<f.length:=by rw[← T.Ug];exact(rg.mp e).1
   have l:=a7 C;rw[s i _ l];by_cases c:f[i]=h
   ·rw[c,cc (XR h)];refine .inl ⟨n,i,e9 _,q,e,by rw[l,c],λd a b=>ib a #[0],?_⟩;rw[yC]
   rw[cn (by simpa using c),← yC];have g:∀ k:Nat,t.place[k]?=ag (wy t.mask h n).j->f[k]?≠ag h:=λk E z=>by have z1:=eZ T.R6 e;rw[eZ T.R6 E] at z1;cases z1;rw[l] at z;exact c (h8 z)
   rcases rG T s r p fuel (n+1) q (by omega) with ⟨m,k,a1,a2,y,w,A,D⟩ |⟨a1,a2⟩
   ·refine .inl ⟨m,k,#[1],a2,y,w,λd v o=>?_,D⟩;rcases Rv n d with z |z
    ·exact A d z o
    have:d=n:=#[1]
    subst this;exact g
   refine .inr ⟨λd v o=>?_,a2⟩;rcases Rv n d with z |z
   ·exact a1 d z o
   have:d=n:=#[1]
   subst this;exact g
  have:n=N:=#[1]
  subst this;rw[oZ T.VB λi e=>r ⟨i,e⟩];rw[0];rw[BG];exact .inr ⟨λm a b=>ib a #[0],rfl⟩
theorem FX {α:Type}(l:ak α)(p:Nat)(x : α)(d:p<=l.length)(i:Nat):(l.take p++x::l.drop p)[i]?=if i<p then l[i]? else if i=p then ag x else l[i-1]?:=by
 have c:(l.take p).length=p:=by rw[Qr];omega
 by_cases a:i<p
 ·rw[cc a,h7 #[0],aab a]
 rw[cn a,h6 #[0],c];by_cases b:i=p
 ·rw[cc b,b,acW];rfl
 rw[cn b];obtain⟨q,e⟩:∃ q,i=p+q+1:=⟨i-p-1,#[1]⟩;subst e;rw[show p+q+1-p=q+1 by omega,qf,Wg];rfl
theorem cI {α:Type}(xs:hO α)(p:Nat)(x : α):(yk xs p x).toList=xs.toList.take p++x::xs.toList.drop p:=by unfold yk;simp only[aag,Z2,W5,Tn,aaz,adZ];rw[y0 (l:=xs.toList.drop p) #[3],j0];rfl
theorem Tb.put {d:ak Int}{t:A1}(T:Tb d t){h:Int}{N:Nat}(v:¬ QP t (wy t.mask h N).j)(C:∀ m,m<N->QP t (wy t.mask h m).j) :
  Tb (d.take (t.put (wy t.mask h N).j).2++h::d.drop (t.put (wy t.mask h N).j).2) (t.put (wy t.mask h N).j).1:=by
 have f:=FD t.mask h N;generalize y:(wy t.mask h N).j=j at v f ⊢;have r:∀ i,t.slot j≠.live i:=λi e=>by rw[oZ T.VB λi e=>v ⟨i,e⟩] at e;cases e
 have o:hB t.place j<=t.place.size:=(kN T.R6 j).1;have A:(t.put j).2=hB t.place j:=rfl;have l:(t.put j).1.place=yk t.place (hB t.place j) j:=rfl;have w:(t.put j).1.mask=t.mask:=rfl;rw[A];generalize hB t.place j=p at o l;have k:∀ i:Nat,(t.put j).1.place[i]?=if i<p then t.place[i]? else if i=p then ag j else t.place[i-1]?:=λi=>by rw[l,← kc,cI,FX _ _ _ (by simpa using o)];simp only[kc]
 have B:∀ i:Nat,(d.take p++h::d.drop p)[i]?=if i<p then d[i]? else if i=p then ag h else d[i-1]?:=λi=>FX _ _ _ (by rw[← T.Ug];exact o) i
 have tk:∀ x,QP t x->QP (t.put j).1 x:=λx z=>by
  obtain⟨i,e⟩:=z
  by_cases q:i<p
  ·exact⟨i,by rw[k,cc q];exact e⟩
  exact⟨i+1,by rw[k,cn #[0],cn #[0]];exact e⟩
 refine⟨T.pow,?_,?_,T.R6.put r,?_,?_⟩
 ·show (if aeu t.dummies j then _ else t.dummies) = #[];rw[T.VB];rfl
 ·have:=q7 WH (cI t.place p j);rw[← l] at this;simp only[gz,cv,Qr,hG,M3] at this ⊢;rw[this,T.Ug]
 ·intro i x e;rw[k] at e;rw[w];rw[1]
  ·exact T.le i x e
  rw[1]
  ·cases e;exact f
  exact T.le _ x e
 intro i u x c ex;rw[k] at ex;rw[B] at c;rw[w];split at ex
 ·rename_i q;rw[cc q] at c;obtain⟨n,a,b⟩:=T.way i u x c ex;exact⟨n,a,λm g=>tk _ (b m g)⟩
 rename_i q;rw[cn q] at c;split at ex
 ·rename_i s;rw[cc s] at c;cases ex;cases c;exact⟨N,y,λm g=>tk _ (C m g)⟩
 rename_i s;rw[cn s] at c;obtain⟨n,a,b⟩:=T.way _ u x c ex;exact⟨n,a,λm g=>tk _ (b m g)⟩
theorem vX {owner:hO (a5 Nat)}{mask:Nat}(hz:owner.size=mask+1):∀ (fuel i p:Nat),i<=mask->∀ {j:Nat},p0 mask owner fuel i p=ag j ->
  owner[j]?=ag a4/\∃ m,(iP mask m (QO mask i p)).j=j/\∀ d,d<m->∃ k,owner[(iP mask d (QO mask i p)).j]?=ag (ag k)
 | 0,i,p,u,j,e=>by unfold p0 at e;cases e
 |fuel+1,i,p,u,j,e=>by
  have hr:=tL mask i;have v:=xq mask i u
  have f:∀ r,r<=ke mask i-i->(owner.getD (i+r) (ag 0)).isNone=a8->∃ k,owner[(iP mask r (QO mask i p)).j]?=ag (ag k):=λr w o=>by
   rw[k9 mask i p r w];show ∃ k,owner[i+r]?=ag (ag k);have g:i+r<owner.size:=#[1]
   rw[kb g];rw[zh,kb g,XS] at o;cases q:owner[i+r] with
   |none=>rw[q] at o;cases o
   |some k=>exact⟨k,rfl⟩
  unfold p0 at e;rw[1]
  ·rename_i r l;cases e;rw[List.find?_range_eq_some] at l;obtain⟨n,t,x⟩:=l;have t:=SJ.mp t;refine⟨?_,r,?_,λd s=>f d #[0] ?_⟩
   ·have g:i+r<owner.size:=#[1]
    rw[zh,kb g,XS] at n;rw[kb g];cases q:owner[i+r] with
    |none=>rfl
    |some k=>rw[q] at n;cases n
   ·rw[k9 mask i p r #[0]]
   have:=x d s;rw[4]
  rename_i l;have y:∀ r,r<=ke mask i-i->(owner.getD (i+r) (ag 0)).isNone=a8:=λr h=>by have:=aam.mp l r (SJ.mpr #[0]);exact acN.mpr this
  obtain⟨a,m,b,c⟩:=vX hz fuel (mx mask i p).1 (mx mask i p).2 (UM (aah _ (aaF _))) e;refine⟨a,ke mask i-i+1+m,?_,λd s=>?_⟩
  ·rw[k_,mE];exact b
  rcases Rv d (ke mask i-i+1) with q |q
  ·exact f d #[0] (y d #[0])
  obtain⟨m2,rfl⟩:∃ m2,d=ke mask i-i+1+m2:=⟨d-(ke mask i-i+1),#[1]⟩;rw[k_,mE];exact c m2 #[0]
def Lay (mask:Nat)(all:ak Int)(owner:hO (a5 Nat)):Prop:=∀ (j k:Nat),owner[j]?=ag (ag k)->∃ h,all[k]?=ag h/\∃ m,(wy mask h m).j=j/\∀ a,a<m->∃ b,owner[(wy mask h a).j]?=ag (ag b)
theorem zt {mask:Nat}(all:ak Int):∀ (f pre:ak Int),all=pre++f->∀ (owner g:hO (a5 Nat)) (n:Nat),owner.size=mask+1->Lay mask all owner ->
  f.foldl (init:=ag (owner,pre.length)) (λd h=>do
   let (owner,k) ← d;let j ← p0 mask owner (QD mask) (lb h % (mask+1)) (lb h)
   wh (owner.setIfInBounds j (ag k),k+1))=ag (g,n)->Lay mask all g
 |[],pre,_,owner,g,n,_,h,e=>by cases e;exact h
 |h::f,pre,ea,owner,g,n,hz,L,e=>by
  rw[Pw] at e;simp only[aa2,lr,aeb] at e;cases ef:p0 mask owner (QD mask) (lb h % (mask+1)) (lb h) with
  |none =>
   rw[ef] at e;exfalso
   have:∀ l:ak Int,l.foldl (init:=(a4:a5 (hO (a5 Nat)×Nat))) (λd h=>d.bind λx=>(p0 mask x.1 (QD mask) (lb h % (mask+1)) (lb h)).bind λj=>ag (x.1.setIfInBounds j (ag x.2),x.2+1))=a4:=λl=>by
    induction l with
    |nil=>rfl
    |cons a l w=>rw[Pw];exact w
   have:=this f;simp only[Option.bind_none] at e;rw[this] at e;cases e
  |some j =>
   rw[ef,lr] at e;obtain⟨a,m,b,c⟩:=vX hz _ _ _ (UM (aah _ (aaF _))) ef;have r:j<owner.size:=(rg.mp a).1
   have keep:∀ x k,owner[x]?=ag (ag k)->∃ i,(owner.setIfInBounds j (ag pre.length))[x]?=ag (ag i):=λx k q=>by
    by_cases z:j=x
    ·subst z;exact⟨pre.length,by rw[UT r]⟩
    exact⟨k,by rw[Xo z];exact q⟩
   refine zt all f (pre++[h]) (by rw[ea];simp) (owner.setIfInBounds j (ag pre.length)) g n (by rw[We,hz]) ?_ (by rw[cv];exact e);intro x k q;by_cases z:j=x
   ·subst z;rw[UT r] at q;cases q;refine⟨h,by rw[ea];simp,m,b,λo p=>?_⟩;obtain⟨i,q⟩:=c o p;exact keep _ _ q
   rw[Xo z] at q;obtain⟨s,t,m2,v,u⟩:=L x k q;refine⟨s,t,m2,v,λo p=>?_⟩;obtain⟨i,q⟩:=u o p;exact keep _ _ q
theorem pC {es:hO (Int×ax)}{order:ak Nat}(c:order.Perm (ew es.size)):(order.filterMap λi=>es[i]?).length=order.length/\∀ i:Nat,(order.filterMap λi=>es[i]?)[i]?=(order[i]?).bind λj=>es[j]?:=by
 have d:∀ j∈order,j<es.size:=λj a=>SJ.mp (c.mem_iff.mp a);clear c
 induction order with
 |nil=>exact⟨rfl,λi=>by simp⟩
 |cons j r h =>
  have a:=d j (eR ..);obtain⟨e,f⟩:=h λk g=>d k (ee _ g);rw[Tz (b:=es[j]) (by simp[a])];refine⟨by simp[e],λi=>?_⟩;cases i with
  |zero=>simp[a]
  |succ i=>simpa using f i
theorem EX {mask k:Nat}(p:mask+1=2 ^ (k+1))(finger moves:Nat)(led plain:eM)(es:hO (Int×ax))(x:es.size<=mask+1) :
  ∃ t order,aan mask finger moves led plain (es.map (·.1))=ag (t,order)/\order.toList.Perm (ew es.size)/\t.mask=mask/\t.led=led/\t.plain=plain/\Tb ((order.filterMap (es[·]?)).toList.map (·.1)) t:=by
 have f:(es.map (·.1)).size=es.size:=size_map ..;obtain⟨t,order,b,d,g,B,P,S,Q,E⟩:=EY p finger moves led plain (es.map (·.1)) (by rw[f];exact x);rw[f] at d B;have L:t.place.size=((order.filterMap (es[·]?)).toList.map (·.1)).length:=by obtain⟨N,_⟩:=pC d;rw[dv,Xk,N,d.length_eq,mc,B]
 have H:=b;unfold aan at b;cases hc:Xg mask (es.map (·.1)) with
 |none=>rw[hc] at b;cases b
 |some o =>
  have w:=hc;simp only[hc,aa2,lr,aeb,ZY,aae] at b;obtain⟨s,F⟩:=b;unfold Xg at w;obtain⟨⟨a,n⟩,q,rfl⟩:=d7.mp w;rw[← acx] at q;have I:Lay mask (es.map (·.1)).toList a:=zt (es.map (·.1)).toList (es.map (·.1)).toList [] rfl (abc (mask+1) a4) a n #[3] (λj k e=>by simp[Array.getElem?_replicate] at e) q;have D:a.size=mask+1:=by obtain⟨o2,a1,a2,_⟩:=xO p (es.map (·.1)).toList (abc (mask+1) a4) 0 #[3] (by simp[Xf]) (by simpa using x);rw[q] at a1;cases a1;exact a2
  have live:∀ i j:Nat,t.place[i]?=ag j->∃ k,order[i]?=ag k/\a[j]?=ag (ag k)/\j<=mask:=λi j e=>by
   rw[← s] at e;rw[← F];simp only[aaE,dk,d7] at e ⊢;obtain⟨⟨C,r⟩,y,rfl⟩:=e;refine⟨r,⟨_,y,rfl⟩,?_⟩;have:=ra y;obtain⟨j2,m1,m2⟩:=aaa.mp this;have m1:=SJ.mp m1;obtain⟨k2,A,J⟩:=d7.mp m2;cases J;have c:C<a.size:=#[1]
   rw[zh,kb c,XS] at A;rw[kb c,A];exact⟨rfl,by show C<=mask;omega⟩
  have l:∀ j k:Nat,a[j]?=ag (ag k)->QP t j:=λj k e=>by
   have Y:j<a.size:=(rg.mp e).1;have:(j,k)∈(ew (mask+1)).filterMap λj=>(a.getD j a4).map (j,·):=by refine aaa.mpr ⟨j,SJ.mpr #[0],?_⟩;rw[zh,e];rfl
   obtain⟨i,U⟩:=m7 this;refine⟨i,?_⟩;rw[← s];simp only[aaE,dk];rw[U];rfl
  refine⟨t,order,H,d,g,S,Q,⟨k,by rw[g,p]⟩,P,L,E,λi j e=>by rw[g];exact(live i j e).choose_spec.2.2,λi h j u W=>?_⟩;obtain⟨k,V,O,Z⟩:=live i j W;obtain⟨X,v,m,T,M⟩:=I j k O;obtain⟨_,G⟩:=pC d;rw[dk,Xk,G i,kc,V,lr] at u;rw[kc,Array.getElem?_map,u] at v;cases v;rw[g];exact⟨m,T,λK R=>let ⟨r,z⟩:=M K R;l _ _ z⟩
section
variable {prog:e8}{w:hL}{A:iv}{E:Lm}{s:bo}
theorem xr {h h':ja}(k:∀ (b:bc) (o:Obj) (vs:hO ax) (m:Nat),h.get? b=ag o->o.data = .seq vs m->h'.get? b=ag o):∀ {n:Nat}{p:hA}{v:ax}{as:ak bc},keyOk n p=a6->aaq h v p as->aaq h' v p as:=by
 intro n
 induction n with
 |zero =>
  intro p v as c r;cases r with
  |int i t=>exact .int i t
  |str x t=>exact .str x t
  |_=>simp[keyOk] at c
 |succ n A =>
  intro p v as c r;cases r with
  |int i t=>exact .int i t
  |str x t=>exact .str x t
  | @tuple a q vs m f as g j d e =>
   refine .tuple (k a q vs m g d) j d ?_;have it:=bA c;clear c g j d;generalize vs.toList=l at e
   induction f generalizing l as with
   |nil=>cases e;exact .nil
   |cons x f z =>
    cases e with
    |cons u w=>exact .cons (A (it x #[3]) u) (z (λy s=>it y (by simp[s])) _ w)
  |_=>simp[keyOk] at c
theorem nS:∀ {n:Nat}{p:hA}{s:bo}{v:ax}{as:ak bc}{Q:eM->bo->Prop},keyOk n p=a6->aaq s.heap v p as->Q a8 s->dr #[5] A (Tq n v) Q E s:=by
 intro n
 induction n with
 |zero =>
  intro p s v as Q b r h;cases r with
  |int i t=>unfold Tq;exact ay h
  |str x t=>unfold Tq;exact ay h
  |_=>simp[keyOk] at b
 |succ n z =>
  intro p s v as Q b r h;cases r with
  |int i t=>unfold Tq;exact ay h
  |str x t=>unfold Tq;exact ay h
  | @tuple a o items m B as e hc hd D =>
   have q:s.TypeIs (.ref a) "tuple":=⟨o,e,hc⟩;have it:=bA b;unfold Tq;refine av (Uq q ?_);rw[0];rw[cc (by rfl)];refine av (ay ?_);simp only[uk,gh,la];refine av (zv e hd ?_);rw[0];refine av ?_;rw[← aaH];refine ON _ (λrest r c=>r.1=a4/\c=s/\∃ left bs,X1 s.heap rest left bs/\∀ x∈left,keyOk n x=a6) _ ?_ ?_ _ _ ⟨rfl,rfl,B,as,D,it⟩
   ·rintro v rest r c ⟨hr,rfl,left,bs,g,d⟩;cases g with
    | @cons _ _ k u H f C j =>
     refine av (z (d k #[3]) C ?_);simp only[gh,la];exact ay ⟨rfl,rfl,u,f,j,λy l=>d y (by simp[l])⟩
   rintro⟨F,G⟩ c ⟨hr,rfl,_⟩;simp only at hr;subst hr;exact ay h
  |_=>simp[keyOk] at b
theorem wB:∀ {n:Nat}{p:hA}{s:bo}{v:ax}{as:ak bc}{Q:eM->bo->Prop},keyOk n p=a6->aaq s.heap v p as->(∀ b,Q b s)->dr #[5] A (Yd n v) Q E s:=by
 intro n
 induction n with
 |zero =>
  intro p s v as Q c r h;cases r with
  |int i t=>unfold Yd;exact ay (h _)
  |str x t=>unfold Yd;exact ay (h _)
  |_=>simp[keyOk] at c
 |succ n C =>
  intro p s v as Q c r h;cases r with
  |int i t=>unfold Yd;exact ay (h _)
  |str x t=>unfold Yd;exact ay (h _)
  | @tuple a o items m D as f hc hd H =>
   have u:s.TypeIs (.ref a) "tuple":=⟨o,f,hc⟩;have it:=bA c;unfold Yd;refine av (Wh u F.slot_tuple_hash.lookup ?_);rw[0];refine av (zv f hd ?_);refine av ?_;show dr _ _ (acD items _ _) _ _ s;rw[← aaH];refine ON _ (λrest r d=>d=s/\∃ left bs,X1 s.heap rest left bs/\∀ x∈left,keyOk n x=a6) _ ?_ ?_ _ _ ⟨rfl,D,as,H,it⟩
   ·rintro v rest r d ⟨rfl,left,bs,j,e⟩;cases j with
    | @cons _ _ k z J g G l =>
     refine av (C (e k #[3]) G λb=>?_);cases b with
     |true =>
      simp only[uk,gh,la];exact ay ⟨rfl,z,g,l,λy q=>e y (by simp[q])⟩
     |false =>
      simp only[U4,mz];exact ay (ay (h _))
   rintro⟨B,I⟩ d ⟨rfl,_⟩;cases B with
   |none=>exact ay (h _)
   |some b=>exact ay (h _)
  |_=>simp[keyOk] at c
abbrev yy (prog:e8)(w:hL)(h:ja):hA->Int×ax->Prop:=λk e=>e.1=MS w 8 k/\∃ b,e.2 = .ref b/\(aR prog w).is h k b
abbrev FC (w:hL)(R:hA->bc->Prop):hA->Int×ax->Prop:=λk e=>e.1=MS w 8 k/\∃ b,e.2 = .ref b/\R k b
def MV (w:hL)(led:eM)(R:hA->bc->Prop)(h:ja)(a:bc)(b:ak hA):Prop:=
 ∃ o es ep t,h.get? a=ag o/\o.ExactSet/\o.data = .set es ep t/\(∃ l:ak (Int×ax),l.Perm es.toList/\lC (FC w R) b l)/\Tb (es.toList.map (·.1)) t/\es.size*5<t.mask*3/\t.mask<=8*es.size+7/\t.led=led
theorem xo {k:hA}{b:bc}(f:(aR prog w).is s.heap k b):∀ {l:ak ax}{Q:eM->bo->Prop},(∀ y∈l,∃ c a,y = .ref a/\(aR prog w).is s.heap c a)->Q a8 s->dr #[5] A (searchCouldBeSeen (.ref b) l) Q E s:=by
 intro l Q e h;unfold searchCouldBeSeen;refine av ?_;refine ON _ (λrest r d=>r.1=a4/\d=s/\∀ y∈rest,∃ c a,y = .ref a/\(aR prog w).is s.heap c a) _ ?_ ?_ _ _ ⟨rfl,rfl,e⟩
 ·rintro y rest r d ⟨hr,rfl,e⟩;obtain⟨c,a,rfl,m⟩:=e y (eR ..);have g:∀ y∈rest,∃ c a,y = .ref a/\(aR prog w).is d.heap c a:=λy n=>e y (ee _ n);rw[0];split
  ·exact ay ⟨rfl,rfl,g⟩
  refine av ((aR prog w).quiet f ?_);simp only[uk,gh,la];refine av ((aR prog w).quiet m ?_);simp only[uk,gh,la];obtain⟨o1,p,i⟩:=f;obtain⟨o2,o,j⟩:=m;refine av (nS o1 i ?_);simp only[gh,la];refine av (nS o2 j ?_);simp only[gh,la];exact ay ⟨rfl,rfl,g⟩
 rintro⟨i,j⟩ d ⟨hr,rfl,_⟩;simp only at hr;subst hr;exact ay h
theorem E4 {α:Type}{M:Model}{c:Prop}[Decidable c]{a k:Sem α}{Q : α->bo->Prop}(ha:c->dr M A k Q E s->dr M A a Q E s)(b:dr M A k Q E s):dr M A (if c then a else k) Q E s:=by
 split
 ·rename_i h;exact ha h b
 exact b
theorem o6 {a:bc}{o:Obj}{es:hO (Int×ax)}{ep:Nat}{t:A1}{B:ak hA}{k:hA}{b:bc}(V:A.units+8<nq)
  (K:s.heap.get? a=ag o) (hd:o.data = .set es ep t) (L:t.fits es.size=a6) (T:Tb (es.toList.map (·.1)) t) (H:∀ (i:Nat) e,es[i]?=ag e->∃ k∈B,yy prog w s.heap k e) (P:∀ k∈B,∃ (i:Nat) (e:_),es[i]?=ag e/\yy prog w s.heap k e)
  (J:(aR prog w).is s.heap k b) {N:Nat}(v:¬ QP t (wy t.mask (MS w 8 k) N).j) (O:∀ m,m<N->QP t (wy t.mask (MS w 8 k) m).j) (M:N<10*(t.mask+15)) {Q:SetFound->bo->Prop}
  (X:k∈B->Q (.there a4) s) (Y:k∉B->Q (.free (wy t.mask (MS w 8 k) N).j a8) s):∀ (fuel n:Nat) (st:a5 Dd),n<=N->N<n+fuel->st.getD (t.probeStart (MS w 8 k))=wy t.mask (MS w 8 k) n ->
   (∀ m,m<n->∀ (i:Nat) e,t.place[i]?=ag (wy t.mask (MS w 8 k) m).j->es[i]?=ag e->¬ yy prog w s.heap k e) ->
   dr #[5] A (setSearchFrom a (.ref b) (MS w 8 k) a6 fuel st) Q E s
 | 0,n,st,a1,a2,_,_=>ib a2 #[0]
 |fuel+1,n,st,a1,a2,est,Xz=>by
  unfold setSearchFrom;refine av (za K hd L ?_);rw[0];rw[T.Zv];simp only[gh,la];rw[est];have XY:∀ (i:Nat) (x:Int),(es.toList.map (·.1))[i]?=ag x->(es[i]?.map (·.1)).getD 0=x:=λi x e=>by rw[dk,kc] at e;rw[e];rfl
  have r:∀ {u:hA}{e:Int×ax},yy prog w s.heap k e->yy prog w s.heap u e->k=u:=λ{u e} m1 m2=>by obtain⟨_,I,h,i1⟩:=m1;obtain⟨_,l,f,C⟩:=m2;rw[h] at f;cases f;exact(aR prog w).inj i1 C
  have hp:=rG T (ha:=λi=>(es[i]?.map (·.1)).getD 0) XY v O (10*QD t.mask) n a1 (by unfold QD;omega);have Zw:aec t (λi=>(es[i]?.map (·.1)).getD 0) (MS w 8 k) (wy t.mask (MS w 8 k) n)=Xi t (λi=>(es[i]?.map (·.1)).getD 0) (MS w 8 k) (10*QD t.mask) (wy t.mask (MS w 8 k) n):=rfl;show dr _ _ (match aec t (λi=>(es[i]?.map (·.1)).getD 0) (MS w 8 k) (wy t.mask (MS w 8 k) n) with |ag met=>_ |_=>_) _ _ _;rw[Zw];rcases hp with ⟨m,i,I,l,W,S,b5,b6⟩ |⟨I,l⟩
  ·rw[b6];rw[0];rw[dk,kc] at S;obtain⟨⟨hh,y⟩,h,f⟩:=d7.mp S;obtain⟨u,Ub,m1,b',m2,R⟩:=H i _ h;simp only at m1 m2 f;subst m2;refine E4 (λ_ go=>?_) ?_
   ·refine av (xo J (λy hy=>?_) ?_)
    ·obtain⟨e,D,rfl⟩:=q5.mp hy;have D:=abr.mp D;obtain⟨j,hj⟩:=Array.getElem?_of_mem (Array.mem_filter.mp D).1;obtain⟨k2,_,_,l,f,C⟩:=H j e hj;exact⟨k2,l,f,C⟩
    simp only[gh,la];exact go
   rw[h];rw[0];refine av (vl ((aR prog w).eqBool V R J ?_));refine av (za K hd L ?_);rw[0];by_cases q:u=k
   ·subst q;simp only[decide_true,Bool.and_self,mz];exact ay (X Ub)
   rw[dV q];simp only[abE,gh,la];have sm:t.sameMemory t.moves t.mask=ag a6:=by unfold SetTable.sameMemory;simp
   rw[sm];rw[0];rw[cc rfl,eZ T.R6 W];rw[0];rw[h];rw[0];refine av (wpAny_isSame_ref_self ?_);rw[cc rfl];refine av (ay ?_);rw[0];refine o6 V K hd L T H P J v O M X Y fuel (m+1) _ l #[0] rfl λp hm' i' e' d c F=>?_;rcases Rv p n with z |z
   ·exact Xz p z i' e' d c F
   rcases Rv p m with z2 |z2
   ·refine b5 p z z2 i' d ?_;rw[dk,kc,c];exact q7 ag F.1
   have:p=m:=#[1]
   subst this;have z1:=eZ T.R6 W;rw[eZ T.R6 d] at z1;cases z1;rw[h] at c;cases c;exact q (r F ⟨m1,b',rfl,R⟩).symm
  rw[l];rw[0];refine ay (Y λQ4=>?_);obtain⟨i,e,d,c⟩:=P k Q4;have G:i<t.place.size:=by rw[T.Ug,dv,gz];exact(rg.mp d).1
  have U:(es.toList.map (·.1))[i]?=ag (MS w 8 k):=by rw[dk,kc,d];exact q7 ag c.1
  obtain⟨g,Z,w2⟩:=T.way i (MS w 8 k) _ U (kb G)
  have Yc:g<N:=by
   rcases V5 g N with z |z |z
   ·exact z
   ·subst z;exact ib ⟨i,by rw[Z];exact kb G⟩ v
   exact ib (w2 N z) v
  have pl:t.place[i]?=ag (wy t.mask (MS w 8 k) g).j:=by rw[Z];exact kb G
  rcases Rv g n with z |z
  ·exact Xz g z i e pl d c
  exact I g z Yc i pl U
end
theorem BT {n:Nat}(h:n<2 ^ 60):∃ m,SetTable.sizeAbove n=2 ^ (m+1)/\n<2 ^ (m+1)/\(2 ^ (m+1)<=2*n∨2 ^ (m+1)=8):=by
 have step:∀ (a k:Nat),∃ m,abn n a (2 ^ k)=2 ^ m/\(m<k+a->n<2 ^ m)/\(2 ^ m<=2*n∨m=k)/\k<=m:=by
  intro a
  induction a with
  |zero=>intro k;exact⟨k,rfl,λh=>ib h #[0],.inr rfl,e9 _⟩
  |succ a g =>
   intro k;unfold abn;split
   ·rename_i d;obtain⟨m,b,c,h3,f⟩:=g (k+1);refine⟨m,by rw[← b,RA],λh=>c #[0],?_,#[1]⟩;rcases h3 with h3 |rfl
    ·exact .inl h3
    exact .inl (by rw[RA];omega)
   exact⟨k,rfl,λ_=>#[1],.inr rfl,e9 _⟩
 obtain⟨m,b,c,h3,f⟩:=step 64 3;obtain⟨m,rfl⟩:∃ e,m=e+1:=⟨m-1,#[1]⟩;refine⟨m,b,?_,?_⟩
 ·by_cases q:m+1<67
  ·exact c q
  exact i3 h (Uc #[2] #[0])
 rcases h3 with h3 |h3
 ·exact .inl h3
 rw[h3];exact .inr rfl
theorem Tb.with {a:ak Int}{t:A1}(T:Tb a t)(b:eM):Tb a { t with plain:=b }:=⟨T.pow,T.VB,T.Ug,T.R6,T.le,T.way⟩
theorem Tb.fits {a:ak Int}{t:A1}(T:Tb a t){n:Nat}(b:a.length=n)(h:n<=t.mask):t.fits n=a6:=by unfold SetTable.fits aek;rw[T.VB,T.Ug,b];simpa using h
section
variable {prog:e8}{w:hL}{A:iv}{E:Lm}{s:bo}{led:eM}
theorem MV.stored {R:hA->bc->Prop}{h:ja}{a:bc}{o:Obj}{es:hO (Int×ax)}{ep:Nat}{t:A1}(f:h.get? a=ag o)(hex:o.ExactSet)(hd:o.data = .set es ep t){b:hO (Int×ax)}{t':A1}{c:ak hA}
  (e:∃ l:ak (Int×ax),l.Perm b.toList/\lC (FC w R) c l) (T:Tb (b.toList.map (·.1)) t') (i:b.size*5<t'.mask*3) (j:t'.mask<=8*b.size+7) (d:t'.led=led) :
  MV w led R (h.update a (ZD b t')) a c:=by
 have g:(h.update a (ZD b t')).get? a=ag { o with data:=.set b (ep+1) t' }:=by have q:=OG (ZD b t') f (by rw[adh b t' hd];rfl);rw[adh b t' hd] at q;exact q
 exact⟨_,b,ep+1,t',g,hex,rfl,e,T,i,j,d⟩
theorem BW {a:bc}{f:ak hA}{k:hA}{b:bc}{Q:eM->bo->Prop}(hu:A.units+8<nq){R:hA->bc->Prop}(S:∀ k b,R k b->(aR prog w).is s.heap k b)(X:MV w led R s.heap a f)(F:R k b)(M:f.length<1000)
  (h:∀ r h',Vi a s.heap h'->MV w led R h' a (bq f k)->Q r { s with heap:=h' }):dr #[5] A (setAddHashed a (.ref b) (MS w 8 k)) Q E s:=by
 have PR:=X;obtain⟨o,es,ep,t,y,hex,hd,hl,T,q1,q2,q3⟩:=X;obtain⟨l,pl,D⟩:=id hl;have hn:es.size=f.length:=by have K:=pl.length_eq;have e2:=nH D;simp only[gz] at K;omega
 have d:(es.toList.map (·.1)).length=es.size:=by simp
 have O:t.fits es.size=a6:=T.fits d #[0];have x:∀ (i:Nat) e,es[i]?=ag e->∃ k∈f,yy prog w s.heap k e:=λi e g=>by rw[← kc] at g;obtain⟨k,F,m⟩:=xC D e (pl.mem_iff.mpr (ra g));exact⟨k,F,m.1,m.2.choose,m.2.choose_spec.1,S _ _ m.2.choose_spec.2⟩
 have XZ:∀ k∈f,∃ (i:Nat) (e:_),es[i]?=ag e/\yy prog w s.heap k e:=λk g=>by obtain⟨e,he,m⟩:=vi D k g;obtain⟨i,g2⟩:=m7 (pl.mem_iff.mp he);exact⟨i,e,by rw[← kc];exact g2,m.1,m.2.choose,m.2.choose_spec.1,S _ _ m.2.choose_spec.2⟩
 have Y:(aR prog w).is s.heap k b:=S k b F;obtain⟨N,n1,n2,n3⟩:=T.free (by rw[d];omega) (MS w 8 k);have hj:=FD t.mask (MS w 8 k) N;unfold setAddHashed setAddHashedIn;refine vl (av (za y hd O ?_));simp only;rw[show byScan (.ref b) es=a8 from rfl,cn #[2]];unfold setSearch;refine av (o6 hu y hd O T x XZ Y n2 n3 #[0] (λQ4=>?_) (λZx=>?_) 100000 0 a4 #[0] #[0] rfl λm x=>ib x #[0])
 ·refine ay ?_;have:=h a8 s.heap (Heap.SameBut.refl ..) (by unfold bq;rw[cc Q4];exact PR);exact this
 rw[0];refine av (za y hd O ?_);rw[0];have v:=T.put n2 n3;generalize P:t.put (wy t.mask (MS w 8 k) N).j=tp at v ⊢;obtain⟨t1,p⟩:=tp;have V:t1.mask=t.mask:=by rw[show t1=(t.put (wy t.mask (MS w 8 k) N).j).1 by rw[P]];rfl
 have L:t1.led=led:=by rw[show t1=(t.put (wy t.mask (MS w 8 k) N).j).1 by rw[P]];exact q3
 have K:((yk es p (MS w 8 k,jl b)).toList.map (·.1))=(es.toList.map (·.1)).take p++MS w 8 k::(es.toList.map (·.1)).drop p:=by rw[cI,Sv,fh,acX,acY]
 have u:(yk es p (MS w 8 k,jl b)).size=es.size+1:=by have:=q7 WH (cI es p (MS w 8 k,jl b));simp only[gz,cv,Qr,hG,M3] at this;omega
 have R7:(yk es p (MS w 8 k,jl b)).toList.Perm (es.toList++[(MS w 8 k,jl b)]):=by rw[cI];refine(adi).trans ?_;rw[H8];exact(U9 _ _).symm
 have H:∃ l:ak (Int×ax),l.Perm (yk es p (MS w 8 k,jl b)).toList/\lC (FC w R) (bq f k) l:=by refine⟨l++[(MS w 8 k,jl b)],(pl.append_right _).trans R7.symm,?_⟩;unfold bq;rw[cn Zx];exact vh D ⟨rfl,b,rfl,F⟩
 rw[← K] at v;generalize yk es p (MS w 8 k,jl b)=c at v u H ⊢;clear P
 have fin:∀ t2:A1,Tb (c.toList.map (·.1)) t2->t2.mask=t.mask->t2.led=led ->
   dr #[5] A (do
    storeSet a c t2
    if !a8&&t2.tooFull then setRelay a (Xl (es.size+1))
    return a6) Q E s:=λt2 C em2 B=>by
  have Z:(c.toList.map (·.1)).length=c.size:=by simp
  have W4:t2.fill=es.size+1:=by unfold aek;rw[C.VB,C.Ug,Z,u];rfl
  have W:c.size<=da:=by rw[u,Uh];omega
  refine av (wpAny_storeSet_of y hd ?_ W);have sb:=VW s.heap a (ZD c t2);cases R8:t2.tooFull with
  |false =>
   simp only[U4,abE,gh,la];refine ay (h a6 _ sb (MV.stored y hex hd H C ?_ #[0] B));unfold SetTable.tooFull at R8;rw[W4] at R8;have:=acu R8;omega
  |true =>
   simp only[U4,ael,mz];have U:(s.heap.update a (ZD c t2)).get? a=ag { o with data:=.set c (ep+1) t2 }:=by have q:=OG (ZD c t2) y (by rw[adh c t2 hd];rfl);rw[adh c t2 hd] at q;exact q
   have I:t2.fits c.size=a6:=C.fits Z (by rw[u];omega);unfold setRelay;refine av (av (za U rfl I ?_));rw[0];have eg:Xl (es.size+1)=(es.size+1)*4:=by unfold Xl;rw[cn #[0]]
   obtain⟨m,z1,z2,z3⟩:=BT (n:=Xl (es.size+1)) (by rw[eg];omega);rw[cn (by rw[z1,Uh];omega)];have x : 2 ^ (m+1)-1+1=2 ^ (m+1):=by have:=adB (m+1);omega
   obtain⟨t3,order,l1,l2,l3,l4,l5,l6⟩:=EX x t2.finger (t2.movedTo (2 ^ (m+1)-1)) t2.led t2.plain c (by rw[x,u];omega);have J:t2.relaid (c.map (·.1)) (Xl (es.size+1))=ag (t3,order):=by unfold SetTable.relaid;rw[z1];exact l1
   rw[J];have z:(order.filterMap (c[·]?)).toList.Perm c.toList:=by rw[Xk];have:=l2.filterMap (λi=>c[i]?);rw[aai] at this;exact this
   have G:(order.filterMap (c[·]?)).size=c.size:=by have:=z.length_eq;rw[gz,gz] at this;exact this
   refine av ?_;show dr _ _ (if ((order.filterMap (c[·]?)).size != c.size)=a6 then _ else _) _ _ _;rw[cn (by rw[G];simp)]
   first
    |refine ay ?_
    |refine av (ay (ay ?_))
   refine wpAny_storeSet_of U rfl (ay (h a6 _ (sb.trans (VW _ a _)) ?_)) (by rw[G];exact W);obtain⟨l',p',r'⟩:=H;refine MV.stored U hex rfl ⟨l',p'.trans z.symm,r'⟩ l6 ?_ ?_ (l4.trans B)
   ·rw[G,l3,u];omega
   rw[G,l3,u];omega
 obtain⟨Ub,as,UX⟩:=Y;split
 ·refine av (wB Ub UX λbb=>?_);cases bb with
  |true=>exact fin t1 v V L
  |false=>exact fin { t1 with plain:=a8 } (v.with a8) V L
 refine av (ay ?_);exact fin t1 v V L
end
section
variable {prog:e8}{w:hL}{led:eM}
section
variable {A:iv}{R:ac4->bo->Prop}{I:bc}{fp wr:ak bc}{G:hO adI->hO adI->Prop}{n:Nat}{P:Nat->ax->Prop}{St:Nat->bo->Prop}
theorem MV.keep {R:hA->bc->Prop}{h h':ja}{a:bc}{b:ak hA}(x:MV w led R h a b)(e:∀ o,h.get? a=ag o->h'.get? a=ag o):MV w led R h' a b:=by obtain⟨o,es,ep,t,c,r⟩:=x;exact⟨o,es,ep,t,e o c,r⟩
theorem MV.start {R:hA->bc->Prop}{h:ja}{a:bc}(e:h.get? a=ag (gp w)):MV w (!Pg w) R h a []:=
 ⟨gp w,#[],0,.fresh 0 0 (!Pg w),e,⟨rfl,rfl,rfl⟩,rfl,⟨[],.refl _,.nil⟩,⟨⟨2,rfl⟩,rfl,rfl,WU,λi j e=>by simp[SetTable.fresh] at e,λi h j e=>by simp at e⟩,(by show 0*5<7*3;decide),(by show 7<=8*0+7;decide),rfl⟩
theorem qZ (W:WalksS prog w A.in1 I fp wr G n P St)(S:bc)(y:S∉fp){h0:ja}(E:∀ b o,h0.get? b=ag o->b≠S)(l:∀ b o,h0.get? b=ag o->b∉wr){Rl:hA->bc->Prop}(J:∀ k b,Rl k b->(aR prog w).is h0 k b)(val:Nat->hA)(K:∀ i v,P i v->∃ b,v = .ref b/\Rl (val i) b)(X:A.units+9<nq)(hb:n<1000) :
  ∀ (k i:Nat) (s:bo),n-i=k->i<=n->St i s->MV w led Rl s.heap S (met val i)->(∀ b o,h0.get? b=ag o->#[19]=ag o) ->
   (∀ s',Moved (S::wr) G s s'->MV w led Rl s'.heap S (met val n)->R (.ok (.ret .none)) s') ->
   XW #[5] A (.builtin "set.update.loop" ⟨[.ref S,.ref I],[]⟩) R s:=by
 have d:S∉wr:=λh=>y (W.sub _ h);intro k
 induction k with
 |zero =>
  intro i s D O st j u g;obtain rfl:i=n:=#[1]
  refine aba SF.P7 ?_;rw[X4 SF.PB _];show dr _ A.in1 (aaI (.ref I) >>= _) _ _ s;refine av (W.done s _ _ st λs' a=>?_);show dr _ A.in1 (ret Tu) _ _ s';exact ay (g s' (a.mono λb hb=>ee _ hb) (j.keep λo e=>a.heap S o d e))
 |succ k M =>
  intro i s D O st j u g;have B:i<n:=#[1]
  refine aba SF.P7 ?_;rw[X4 SF.PB _];show dr _ A.in1 (aaI (.ref I) >>= _) _ _ s;refine av (W.item i s _ _ B st λv s' V H a=>?_);obtain⟨b,rfl,t⟩:=K i v V;show dr _ A.in1 (Vk [.ref b] (setAdd S (.ref b)) >>= _) _ _ s';refine av (vl ?_);unfold setAdd;have p:∀ b o,h0.get? b=ag o->s'.heap.get? b=ag o:=λb o e=>a.heap b o (l b o e) (u b o e);have f:∀ k b,Rl k b->(aR prog w).is s'.heap k b:=λk b q=>let ⟨a1,F,a2⟩:=J k b q;⟨a1,F,xr (λc Y vs n U Z=>p _ _ U) a1 a2⟩;have C:A.in1.units+8<nq:=by show A.units+1+8<nq;omega
  refine vl (av ((aR prog w).pyHash C (f _ _ t) ?_));have hr:(met val i).length<1000:=by have:=y9 val i;omega
  refine BW (s:={ s' with toks:=s'.toks+(aR prog w).draws (val i) }) C f (j.keep λo e=>a.heap S o d e) t hr λr m sb x=>?_;rw[← vC] at x;refine ay ⟨plainId_quiet SF.PB _,M (i+1) _ #[0] B (W.frame _ s' _ _ H (aa3 _ _) λb hb o e=>?_) x (λb o e=>?_) λQ T L=>?_⟩
  ·rw[sb.2 b (λz=>y (z▸hb))];exact e
  ·rw[show (({ s' with toks:=s'.toks+(aR prog w).draws (val i),heap:=m }:bo)).heap=m from rfl,sb.2 b (E b o e)];exact p b o e
  refine g Q (Moved.trans W.gtrans ((a.mono λb hb=>ee _ hb).then_heap (aa3 _ _) λb o N e=>?_) T) L;rw[sb.2 b (λz=>N (z▸eR))];exact e
end
section
variable {A:iv}{E:Lm}{s:bo}
set_option maxHeartbeats 3200000 in
theorem DK {l:Addr}{items:Array Value}{Q:Lm}(U:A.handled=none)(y:s.heap.IsTuple l items)(M:A.units+20<cLine){Rl:PyData->Addr->Prop}(B:∀ k b,Rl k b->(aR prog w).is s.heap k b)(val:Nat->PyData)(C:∀ (i:Nat) v,items[i]?=some v->∃ b,v = .ref b/\Rl (val i) b)
  (hb:items.size<1000)
  (h:∀ (h':Heap) (tk:Nat),MV w (!Pg w) Rl h' s.heap.objs.size (met val items.size)->(∀ b o,b<s.heap.objs.size->s.heap.get? b=some o->h'.get? b=some o)->Q (.ref s.heap.objs.size) { s with heap:=h',toks:=tk }) :
  wpAny (model prog w) A (call (.type "set") [.ref l]) Q E s:=by
 obtain⟨c,tl,Zz⟩:=F.called_set.mro;have Z:=F.called_set.made;have c2:=F.called_set.sub;refine wpAny_call (codeAny_of_tree ?_);show wpAny _ _ (callAny (.type "set") _) _ _ _;refine wpAny_pure ⟨Code.quiet_builtin _ (by decide),codeAny_builtin F.entry_type_call ?_⟩;rw[Around.under_plain (weight_type_call_type "set" [.ref l] []) rfl];have c3:=F.called_set.notType;have c4:=F.called_set.canCreate;have c5:=SF.TZ (.ref l)
 repeat (any_goals (first |assumption |wp_step))
 refine codeAny_mono (uX (.ref l) (E:=E) (Q₁:=λobj d=>obj = .ref s.heap.objs.size/\d={ s with heap:=s.heap.push (gp w) }) ⟨rfl,rfl⟩) λr d hr=>?_;cases r with
 |error e=>exact hr
 |ok V =>
  cases V with
  |ret obj =>
   obtain⟨rfl,rfl⟩:=hr;have m:(s.heap.push (gp w)).get? s.heap.objs.size=some (gp w):=Heap.get?_push_size _ rfl;have W:Shared.TypeIs { s with heap:=s.heap.push (gp w) } (.ref s.heap.objs.size) "set":=⟨_,m,rfl⟩;have i1:=F.called_set.init.lookup;have Y:=F.called_set.init.bind (.ref s.heap.objs.size)
   repeat (any_goals (first |assumption |wp_step))
   refine codeAny_mono (codeAny_call_builtin (R:=wants (λr a=>r = .none/\∃ h' tk,a={ s with heap:=h',toks:=tk }/\MV w (!Pg w) Rl h' s.heap.objs.size (met val items.size) /\
     (∀ b o,b<s.heap.objs.size->s.heap.get? b=some o->h'.get? b=some o)) E) F.called_set.init.plain F.entry_set_init (q8 W ?_)) λf a j=>?_
   ·obtain⟨⟨ZC,W6,W7,U8⟩,t,q,p,x⟩:=id y;simp only at q x;subst q x;have u:=Heap.get?_push_of_some (gp w) t;have t1:=F.sub_tuple_set;have t2:=F.sub_tuple_frozenset;have t3:(Value.type "tuple"==Value.type "dict")=false:=by decide
    have z:(s.heap.push (gp w)).IsTuple l items:=⟨_,u,rfl,p,rfl⟩;unfold Builtin.«set.__init__» noKeywords Builtin.Frozenset.updateFrom;generalize K:pyIter=PI
    wp_walk
    subst K;refine wpAny_pyIter_tuple z ?_;refine wpAny_bind (wpAny_runValue ?_);have n:l<s.heap.objs.size:=Heap.lt_size t;have z1:(s.heap.push (gp w)).objs.size=s.heap.objs.size+1:=Heap.size_push ..;have G:l≠(s.heap.push (gp w)).objs.size:=by rw[z1];exact ne_of_lt (lt_succ_of_lt n)
    have O:s.heap.objs.size∉[(s.heap.push (gp w)).objs.size,l]:=by
     rw[z1];intro hm;rcases mem_cons.mp hm with e |hm
     ·exact ne_of_lt (lt_succ_self _) e
     exact ne_of_gt n (mem_singleton.mp hm)
    refine qZ (led:=!Pg w) (h0:=s.heap) ((Walks.tuple (by simp[U]) _ l G items).toS) s.heap.objs.size O (λb o e=>ne_of_lt (Heap.lt_size e)) (λb o e hm=>by rw[mem_singleton.mp hm,z1] at e;exact absurd (Heap.lt_size e) (Nat.not_lt.mpr (le_succ _))) B val C (by first |exact M |(simp;omega)) hb (items.size-0) 0 _ (by omega) (zero_le _)
     ⟨⟨_,Heap.get?_push_size _ rfl,rfl,rfl⟩,⟨_,Heap.get?_push_of_some _ u,rfl,p,rfl⟩⟩ (MV.start (Heap.get?_push_of_some _ m)) (λb o e=>Heap.get?_push_of_some _ (Heap.get?_push_of_some _ e)) λT hm g=>?_
    obtain⟨h',S,N,J,L⟩:=T;have X:S=s.gens:=hm.gens;have P:N=s.drawn:=hm.drawn;have I:L=s.os:=hm.os;subst X P I;show wpAny _ _ _ _ _ _;refine wpAny_pure ?_;show wpAny _ _ (ret Value.none) _ _ _;refine wpAny_pure ⟨rfl,h',J,rfl,g,λb o hb e=>hm.heap b o ?_ (Heap.get?_push_of_some _ (Heap.get?_push_of_some _ e))⟩;intro hm;rcases mem_cons.mp hm with e |hm
    ·exact ne_of_lt hb e
    rw[z1] at hm;exact ne_of_lt (lt_succ_of_lt hb) (mem_singleton.mp hm)
   cases f with
   |error e=>exact j
   |ok D =>
    cases D with
    |ret r =>
     obtain⟨rfl,h',tk,rfl,g,H⟩:=j
     repeat (any_goals (first |assumption |wp_step))
     exact h _ _ g H
    |_=>exact j.elim
  |_=>exact hr.elim
set_option maxHeartbeats 3200000 in
theorem qG {l:Addr}{items:Array Value}{Q:Lm}(U:A.handled=none)(y:s.heap.IsList l items)(M:A.units+20<cLine){Rl:PyData->Addr->Prop}(B:∀ k b,Rl k b->(aR prog w).is s.heap k b)(val:Nat->PyData)(C:∀ (i:Nat) v,items[i]?=some v->∃ b,v = .ref b/\Rl (val i) b)
  (hb:items.size<1000)
  (h:∀ (h':Heap) (tk:Nat),MV w (!Pg w) Rl h' s.heap.objs.size (met val items.size)->(∀ b o,b<s.heap.objs.size->s.heap.get? b=some o->h'.get? b=some o)->Q (.ref s.heap.objs.size) { s with heap:=h',toks:=tk }) :
  wpAny (model prog w) A (call (.type "set") [.ref l]) Q E s:=by
 obtain⟨c,tl,Zz⟩:=F.called_set.mro;have Z:=F.called_set.made;have c2:=F.called_set.sub;refine wpAny_call (codeAny_of_tree ?_);show wpAny _ _ (callAny (.type "set") _) _ _ _;refine wpAny_pure ⟨Code.quiet_builtin _ (by decide),codeAny_builtin F.entry_type_call ?_⟩;rw[Around.under_plain (weight_type_call_type "set" [.ref l] []) rfl];have c3:=F.called_set.notType;have c4:=F.called_set.canCreate;have c5:=SF.TZ (.ref l)
 repeat (any_goals (first |assumption |wp_step))
 refine codeAny_mono (uX (.ref l) (E:=E) (Q₁:=λobj d=>obj = .ref s.heap.objs.size/\d={ s with heap:=s.heap.push (gp w) }) ⟨rfl,rfl⟩) λr d hr=>?_;cases r with
 |error e=>exact hr
 |ok V =>
  cases V with
  |ret obj =>
   obtain⟨rfl,rfl⟩:=hr;have m:(s.heap.push (gp w)).get? s.heap.objs.size=some (gp w):=Heap.get?_push_size _ rfl;have W:Shared.TypeIs { s with heap:=s.heap.push (gp w) } (.ref s.heap.objs.size) "set":=⟨_,m,rfl⟩;have i1:=F.called_set.init.lookup;have Y:=F.called_set.init.bind (.ref s.heap.objs.size)
   repeat (any_goals (first |assumption |wp_step))
   refine codeAny_mono (codeAny_call_builtin (R:=wants (λr a=>r = .none/\∃ h' tk,a={ s with heap:=h',toks:=tk }/\MV w (!Pg w) Rl h' s.heap.objs.size (met val items.size) /\
     (∀ b o,b<s.heap.objs.size->s.heap.get? b=some o->h'.get? b=some o)) E) F.called_set.init.plain F.entry_set_init (q8 W ?_)) λf a j=>?_
   ·obtain⟨⟨ZC,W6,W7,U8⟩,t,q,p,x⟩:=id y;simp only at q x;subst q x;have u:=Heap.get?_push_of_some (gp w) t;have t1:=F.sub_list_set;have t2:=F.sub_list_frozenset;have t3:(Value.type "list"==Value.type "dict")=false:=by decide
    have z:(s.heap.push (gp w)).IsList l items:=⟨_,u,rfl,p,rfl⟩;unfold Builtin.«set.__init__» noKeywords Builtin.Frozenset.updateFrom;generalize K:pyIter=PI
    wp_walk
    subst K;refine wpAny_pyIter_list z ?_;refine wpAny_bind (wpAny_runValue ?_);have n:l<s.heap.objs.size:=Heap.lt_size t;have z1:(s.heap.push (gp w)).objs.size=s.heap.objs.size+1:=Heap.size_push ..;have G:l≠(s.heap.push (gp w)).objs.size:=by rw[z1];exact ne_of_lt (lt_succ_of_lt n)
    have O:s.heap.objs.size∉[(s.heap.push (gp w)).objs.size,l]:=by
     rw[z1];intro hm;rcases mem_cons.mp hm with e |hm
     ·exact ne_of_lt (lt_succ_self _) e
     exact ne_of_gt n (mem_singleton.mp hm)
    refine qZ (led:=!Pg w) (h0:=s.heap) ((Walks.list (by simp[U]) _ l G items).toS) s.heap.objs.size O (λb o e=>ne_of_lt (Heap.lt_size e)) (λb o e hm=>by rw[mem_singleton.mp hm,z1] at e;exact absurd (Heap.lt_size e) (Nat.not_lt.mpr (le_succ _))) B val C (by first |exact M |(simp;omega)) hb (items.size-0) 0 _ (by omega) (zero_le _)
     ⟨⟨_,Heap.get?_push_size _ rfl,rfl,rfl⟩,⟨_,Heap.get?_push_of_some _ u,rfl,p,rfl⟩⟩ (MV.start (Heap.get?_push_of_some _ m)) (λb o e=>Heap.get?_push_of_some _ (Heap.get?_push_of_some _ e)) λT hm g=>?_
    obtain⟨h',S,N,J,L⟩:=T;have X:S=s.gens:=hm.gens;have P:N=s.drawn:=hm.drawn;have I:L=s.os:=hm.os;subst X P I;show wpAny _ _ _ _ _ _;refine wpAny_pure ?_;show wpAny _ _ (ret Value.none) _ _ _;refine wpAny_pure ⟨rfl,h',J,rfl,g,λb o hb e=>hm.heap b o ?_ (Heap.get?_push_of_some _ (Heap.get?_push_of_some _ e))⟩;intro hm;rcases mem_cons.mp hm with e |hm
    ·exact ne_of_lt hb e
    rw[z1] at hm;exact ne_of_lt (lt_succ_of_lt hb) (mem_singleton.mp hm)
   cases f with
   |error e=>exact j
   |ok D =>
    cases D with
    |ret r =>
     obtain⟨rfl,h',tk,rfl,g,H⟩:=j
     repeat (any_goals (first |assumption |wp_step))
     exact h _ _ g H
    |_=>exact j.elim
  |_=>exact hr.elim
end
end
end L2
namespace L2
open PySem PySem.Spec PyProof.Rows PySem.W
noncomputable def Gf:D->a5 el
 | .str x=>ag x
 |_=>a4
noncomputable def SM:D->a5 (ak el)
 | .tup a=>fO Gf a
 |_=>a4
abbrev Mv (x:ak el):D:=.tup (x.map .str)
noncomputable def Mo (a b:ak el):eM:=!MZ b a
noncomputable def lh:D->a5 D
 | .lst a=>if a.length<900 then (fO SM a).bind λb=>if (b.foldl bq []).length<64 then ag (.lst (((b.foldl bq []).mergeSort Mo).map Mv)) else a4 else a4
 |_=>a4
noncomputable def VC:D->a5 (ak el×Int)
 | .tup [d,.int n]=>(SM d).map λx=>(x,n)
 |_=>a4
abbrev NQ (p:ak el×Int):D:=.tup [Mv p.1,.int p.2]
noncomputable def tD:ak D->a5 D
 |[.lst ds]=>(fO VC ds).bind λc=>if c.length<64/\(c.map (·.1)).Nodup then ag (.lst ((c.mergeSort λa b=>Mo a.1 b.1).map NQ)) else a4
 |_=>a4
noncomputable def ui:D->D->a5 D
 | .lst a,d=>(fO SM a).bind λb=>(SM d).map λx => .int (b.count x:Nat)
 |_,_=>a4
theorem D5 {d:D}{x:el}(h:Gf d=ag x):d = .str x:=by
 cases d<;>first |(cases h;done) |skip
 cases h;rfl
theorem sV {d:D}{x:ak el}(h:SM d=ag x):d=Mv x:=by
 cases d<;>first |(cases h;done) |skip
 exact q7 D.tup (gZ (g:=D.str) (λd a h=>D5 h) h)
theorem GL {d:D}{p:ak el×Int}(h:VC d=ag p):d=NQ p:=by
 unfold VC at h;split at h
 ·obtain⟨x,a,b⟩:=d7.mp h;subst b;rw[sV a]
 cases h
noncomputable def O4 (x:ak el):hA:=.tuple (x.map .str)
theorem tN {x y:ak el}(h:O4 x=O4 y):x=y:=by
 replace h:x.map UW=y.map UW:=ac1 h
 induction x generalizing y with
 |nil=>cases y with
  |nil=>rfl
  |cons b y=>cases h
 |cons a x c=>cases y with
  |nil=>cases h
  |cons b y =>
   simp only[fh,vr,PyData.str.injEq] at h;rw[h.1,c h.2]
theorem qU:∀ x:ak el,cg (x.map D.str)=ag (x.map .str)
 |[]=>rfl
 |a::x=>by rw[fh,cg,qU x];rfl
theorem As (x:ak el):toPy (Mv x)=ag (O4 x):=by show (cg _).map _=_;rw[qU];rfl
theorem zE {α d:Type}[wt α][wt d]{f : α->d}(inj:∀ a b,f a=f b->a=b):∀ (l c:ak α),(l.map f).foldl bq (c.map f)=(l.foldl bq c).map f
 |[],c=>rfl
 |a::l,c=>by
  rw[fh,Pw,Pw,← zE inj l];congr 1;unfold bq;have e:f a∈c.map f↔a∈c:=⟨λh=>by obtain⟨b,hb,e⟩:=q5.mp h;rw[← inj _ _ e];exact hb,λh=>U7 h⟩;by_cases h:a∈c
  ·rw[cc h,cc (e.mpr h)]
  rw[cn h,cn (λz=>h (e.mp z)),Sv];rfl
theorem Cs {O:rk}{l f:ak O.α}(j:f.Perm l)(k:f.Pairwise O.kle):f=l.mergeSort λa b => !O.blt b a:=by
 refine qs (le:=λa b=>(!O.blt b a)=a6) (λa b _ _ h g=>?_) (k.imp λh=>?_) (s8 (λa b c h g=>?_) (λa b=>?_) l) (j.trans (ti l _).symm)
 ·exact O.total _ _ (by simpa using g) (by simpa using h)
 ·have i:O.blt _ _=a8:=h;rw[i];rfl
 ·have d:O.kle a b:=by show O.blt b a=a8;simpa using h
  have e:O.kle b c:=by show O.blt c b=a8;simpa using g
  have m:O.blt c a=a8:=J7 d e;rw[m];rfl
 cases d:O.blt b a with
 |false=>rfl
 |true =>
  have e:O.blt a b=a8:=wi d;rw[e];rfl
section
variable {X:Cx}{pins:Ln}{σ:St}{H:Hp}{s:bo}{J:ak bc}
theorem pO:∀ {x:ak el}{us:ak ax},Vals (x.map V.str) us->ItemsAre (kh X.prog X.w) x us
 |[],_,r=>by cases r;exact .nil
 |a::x,_,r=>by
  cases r with
  |cons b c =>
   obtain⟨t,rfl⟩:=b;exact .cons (by simp[kh,ab4]) (pO c)
theorem qS (I:#[10]){x:ak el}{v:V}{u:ax}(m:At X.K H J (Mv x) v)(r:RelV v u):∃ a,v = .ref a/\u = .ref a/\wq (kh X.prog X.w) s.heap x a/\(aR X.prog X.w).is s.heap (O4 x) a:=by
 obtain⟨a,i,rfl,q,z⟩:=At.LF.mp m;cases r;obtain⟨its,d,⟨o,h,hc,n,hd⟩,_⟩:=I.tuple q.sq;obtain⟨e,c⟩:=D2 z;subst e;have b:fM (Mv x)=ag (O4 x):=by unfold fM;rw[As,lr,cc];show List.all _ (keyOk 7)=a6;rw[SV];intro p g;obtain⟨y,f,rfl⟩:=q5.mp g;exact(c y f).2
 exact⟨a,rfl,rfl,⟨o,its.toArray,n,h,hc,hd,by simpa using pO d⟩,lK I b m⟩
theorem sU (I:#[10]):∀ {xs:ak (ak el)}{vs:ak V}{us:ak ax},Ly X.K H J (xs.map Mv) vs->Vals vs us->L7 X.prog X.w s.heap us xs
 |[],vs,us,m,r=>by cases Ly.Lz.mp m;cases r;exact .nil
 |x::xs,vs,us,m,r=>by
  obtain⟨v,d,rfl,m1,m2⟩:=Ly.Lv.mp m;cases r with
  |cons b c =>
   obtain⟨a,_,rfl,t,_⟩:=qS I m1 b;exact .cons t (sU I m2 c)
theorem IA (I:#[10]){p:ak el×Int}{v:V}{u:ax}(m:At X.K H J (NQ p) v)(r:RelV v u):∃ a,u = .ref a/\MJ X.prog X.w s.heap a p.1 p.2:=by
 obtain⟨a,j,rfl,q,z⟩:=At.LF.mp m;cases r;obtain⟨its,c,⟨o,e,hc,n,hd⟩,_⟩:=I.tuple q.sq;obtain⟨k,h,rfl,m1,z⟩:=Ly.Lv.mp z;obtain⟨g,i,rfl,m2,z⟩:=Ly.Lv.mp z;cases Ly.Lz.mp z;cases At.Lu.mp m2;cases c with
 |cons d c=>cases c with
  |cons f c =>
   cases c;obtain⟨b,rfl,rfl,t,_⟩:=qS I m1 d;obtain⟨tk,rfl⟩:=f;exact⟨a,rfl,o,b,tk,n,e,hc,hd,t⟩
theorem xz (I:#[10]):∀ {xs:ak (ak el×Int)}{vs:ak V}{us:ak ax},Ly X.K H J (xs.map NQ) vs->Vals vs us->Mh X.prog X.w s.heap us xs
 |[],vs,us,m,r=>by cases Ly.Lz.mp m;cases r;exact .nil
 |x::xs,vs,us,m,r=>by
  obtain⟨v,d,rfl,m1,m2⟩:=Ly.Lv.mp m;cases r with
  |cons b c =>
   obtain⟨a,rfl,t⟩:=IA I m1 b;exact .cons t (xz I m2 c)
end
section
variable {X:Cx}{W:WT}
theorem Dr (hu:X.A.units+150<nq):j_ X (.builtin "sorted") tD:=by
 intro P s σ H xs us Q I r h;obtain⟨J,ds,d,hJ,m,e,q⟩:=h;unfold tD at e;rw[1]
 ·rename_i ys;obtain⟨j,es,e⟩:=hD.mp e;rw[1]
  ·rename_i D;obtain⟨D,nd⟩:=D;cases e;obtain⟨v,w,rfl,a,n⟩:=Ly.Lv.mp m;cases Ly.Lz.mp n;obtain⟨p,zs,rfl,t,K⟩:=At.LG.mp a;obtain⟨u,rfl,ru⟩:=vals1 r;cases ru;obtain⟨its,F,⟨o,nn,ho,hc,_,hd⟩,Zs⟩:=I.list t.sq;have ed:=gZ (λd a h=>GL h) es;subst ed;have f:its.length=j.length:=by rw[← F.length,← K.length,dv]
   have E:its.length<=da:=by rw[f,Uh];omega
   refine tw #[0] (W2 p (#[9]) ho hc hd (λL k=>?_) (by rw[f5];exact E));have x:=I.kept (t':=s.toks) k;have tu:=xz x K F;refine⟨by simpa using E,Rf,Vy X.prog X.w L,λi=>⟨xj (by simpa using tu) nd,i7 i (by simpa [f] using D) ?_⟩,λo i ep y T U S=>?_⟩
   ·have:=tu.keys;have B:aaD (Vy X.prog X.w L) its.toArray.toList=j.map (·.1):=by rw[4]
    exact aet (q7 (λl=>List.Nodup l) B) nd
   have y:o.toList.Perm its:=by simpa using y
   obtain⟨N,Zr,a1,a2,a3⟩:=jA y F K;obtain⟨z,B,C⟩:=lH a3;subst B;have Y:=(xz x a2 a1).keys;have V:(z.map (·.1)).Pairwise Rf.kle:=by have:=Ml.mpr T;rw[Y] at this;exact this
   have W:(z.map (·.1)).Nodup:=(C.map (·.1)).nodup_iff.mpr nd
   have Ti:z=j.mergeSort λa b=>Mo a.1 b.1:=by
    have tr:∀ a b c:ak el×Int,Mo a.1 b.1=a6->Mo b.1 c.1=a6->Mo a.1 c.1=a6:=λa b c h g=>by
     have G:Rf.kle a.1 b.1:=by show MZ b.1 a.1=a8;simpa [Mo] using h
     have i:Rf.kle b.1 c.1:=by show MZ c.1 b.1=a8;simpa [Mo] using g
     have Z:MZ c.1 a.1=a8:=J7 (O:=Rf) G i;unfold Mo;rw[Z];rfl
    have to:∀ a b:ak el×Int,(Mo a.1 b.1 ||Mo b.1 a.1)=a6:=λa b=>by
     unfold Mo;cases G:MZ b.1 a.1 with
     |false=>rfl
     |true =>
      have i:MZ a.1 b.1=a8:=wi (O:=Rf) G;rw[i];rfl
    refine qs (le:=λa b=>Mo a.1 b.1=a6) (λa b ha hb h g=>?_) ?_ (s8 tr to j) (C.trans (ti j _).symm)
    ·have e:a.1=b.1:=Rf.total _ _ (show MZ _ _=a8 by simpa [Mo] using g) (show MZ _ _=a8 by simpa [Mo] using h);have R:b∈z:=C.mem_iff.mpr ((ti j _).mem_iff.mp hb);obtain⟨a1,a2⟩:=a;obtain⟨b1,b2⟩:=b;simp only at e;subst e;rw[uc W ha R]
    refine(Ml.mp V).imp λh=>?_;unfold Mo;rw[show MZ _ _=a8 from h];rfl
   subst Ti;have M:N.length<=da:=by rw[a1.length,y.length_eq];exact E
   exact⟨.ref _,_,x.laid (t':=s.toks) (o:=.lst N) U (e9 _) ⟨M,o.toList,ep,a1,by simpa using S⟩,rfl,q _ _ (aO x.fresh _) (At.M0 a2 x.fresh hJ M)⟩
  cases e
 cases e
end
def RX (vs:ak V)(a:ak (ak el))(k:hA)(b:bc):Prop:=∃ (i:Nat) (y:ak el),vs[i]?=ag (V.ref b)/\a[i]?=ag y/\k=O4 y
noncomputable def DF (w:hL)(vs:ak V)(a:ak (ak el))(p:bc):HO:=HO.ext λh=>MV w (!Pg w) (RX vs a) h p ((a.foldl bq []).map O4)
section
variable {X:Cx}{W:WT}{x y:el}{p p2 pos Q8:Ud}{fe fa:Lk D}
theorem ow {K:Ll}{H:Hp}{J:ak bc}:∀ {ds:ak D}{vs:ak V}{i:Nat}{d:D},Ly K H J ds vs->ds[i]?=ag d->∃ v,vs[i]?=ag v/\At K H J d v
 |[],_,_,_,_,e=>by simp at e
 |d0::ds,vs,i,d,m,e=>by
  obtain⟨v,r,rfl,a,n⟩:=Ly.Lv.mp m;cases i with
  |zero=>cases e;exact⟨v,rfl,a⟩
  |succ i =>
   obtain⟨c,b,f⟩:=ow n (by simpa using e);exact⟨c,by simpa using b,f⟩
theorem FL {K:Ll}{H:Hp}{J:ak bc}{vs:ak V}{c:ak (ak el)}(m:Ly K H J (c.map Mv) vs){z:ak el}{b:bc}(r:RX vs c (O4 z) b):At K H J (Mv z) (.ref b):=by obtain⟨i,y,f,h,g⟩:=r;have:=tN g;subst this;obtain⟨v,e,a⟩:=ow m (i:=i) (d:=Mv z) (by rw[dk,h];rfl);rw[f] at e;cases e;exact a
theorem Fj (hc:X.calm=a6)(W:X.A.units+150<nq):iM X (.type "set") (λxs H Q => ∃ (a:bc) (J:ak bc) (c:ak (ak el)) (vs:ak V),xs=[.ref a]/\Oq X.K H a vs/\Ly X.K H J (c.map Mv) vs/\c.length<900/\∀ p,H p=a4->Q (.ref p) (upd H p (DF X.w vs c p))):=by
 intro G s Z H xs us Q I r h;obtain⟨a,J,c,vs,rfl,R,m,hb,q⟩:=h;obtain⟨u,rfl,P⟩:=vals1 r;cases P;obtain⟨its,F,⟨o,n,C,T,_,l⟩,Y⟩:=I.list R;have tp:s.heap.IsList a its.toArray:=⟨o,C,T,n,l⟩;have x:its.length=c.length:=by rw[← F.length,← m.length,dv]
 refine qG (Rl:=RX vs c) (I.ok.hd hc) tp #[0] (λk b hr=>?_) (λi=>O4 (c.getD i [])) (λi v M=>?_) (by rw[f5,x];omega) λU tk B k=>?_
 ·obtain⟨i,y,g,f,rfl⟩:=hr;obtain⟨a',j,_,_,t⟩:=qS I (FL m ⟨i,y,g,f,rfl⟩) (show RelV (.ref b) (.ref b) from rfl);cases j;exact t
 ·have E:its[i]?=ag v:=by simpa using M
  have O:i<c.length:=by rw[← x];exact(ba.mp E).1
  have f:=a7 O;obtain⟨w,g,S⟩:=ow m (i:=i) (d:=Mv c[i]) (by rw[dk,f];rfl);obtain⟨u,j,L⟩:=F.get (i:=i) g;rw[E] at j;cases j;obtain⟨b,rfl,rfl,_,_⟩:=qS I S L;exact⟨b,rfl,i,c[i],g,f,by simp only[RR,f];rfl⟩
 have D:its.toArray.size=c.length:=by rw[f5,x]
 have N:met (λi=>O4 (c.getD i [])) c.length=(c.foldl bq []).map O4:=by
  unfold met
  have:(ew c.length).map (λi=>O4 (c.getD i []))=c.map O4:=by
   apply adg
   ·simp
   intro i a b;simp at a;simp[RR,a]
  rw[this];exact zE (λa b h=>tN h) c []
 rw[D,N] at B;refine⟨#[16],_,I.laid (t':=tk) (o:=DF X.w vs c s.heap.objs.size) (λb o e=>k b o (en e) e) (e9 _) ⟨B,?_,λh1 h2 z k=>z.keep k⟩,rfl,q _ I.fresh⟩;obtain⟨o,es,ep,t,C,_⟩:=B;exact⟨o,C⟩
theorem vE {K:Ll}{H:Hp}{J:ak bc}{w:hL}{vs:ak V}{d:ak (ak el)}(m:Ly K H J (d.map Mv) vs):∀ {c:ak (ak el)}{l:ak (Int×ax)},lC (FC w (RX vs d)) (c.map O4) l->∃ a,Vals a (l.map (·.2))/\Ly K H J (c.map Mv) a
 |[],_,r=>by cases r;exact⟨[],.nil,.nil⟩
 |z::c,_,r=>by
  cases r with
  | @cons _ e _ l h r =>
   obtain⟨_,b,f,hr⟩:=h;obtain⟨a,a1,a2⟩:=vE m r;exact⟨.ref b::a,.cons f a1,.cons (FL m hr) a2⟩
theorem yg (hc:X.calm=a6)(hu:X.A.units+150<nq):iM X (.builtin "sorted") (λxs H Q => ∃ (p:bc) (J:ak bc) (e:ak (ak el)) (vs:ak V),xs=[.ref p]/\H p=ag (DF X.w vs e p)/\(∀ a∈J,H a≠a4)/\Ly X.K H J (e.map Mv) vs/\(e.foldl bq []).length<64 /\
  ∀ H' v,LH H H'->At X.K H' J (.lst (((e.foldl bq []).mergeSort Mo).map Mv)) v->Q v H'):=by
 intro pins s σ H xs us Q I r h;obtain⟨p,J,e,vs,rfl,C,hJ,m0,ZG,q⟩:=h;obtain⟨u,rfl,ru⟩:=vals1 r;cases ru;obtain⟨⟨o,es,ep,t,D,hex,hd,hl,T,q1,q2,US⟩,_,_⟩:=I.LW p _ C;obtain⟨l,W,rl⟩:=id hl;have E:(e.foldl bq []).Nodup:=nL e [] VJ;generalize hzs:e.foldl bq []=zs at *
 have B:es.size=zs.length:=by
  have e1:l.length=es.size:=by have:=W.length_eq;rw[gz] at this;exact this
  have S:=nH rl;rw[dv] at S;exact e1.symm.trans S.symm
 have hf:t.fits es.size=a6:=T.fits #[3] #[0];have U:es.size<=da:=by rw[B,Uh];omega
 have hh:X.A.in1.handled=a4:=I.ok.hd hc;obtain⟨U6,r2,m2⟩:=vE m0 rl;refine tw #[0] ?_;refine nR (#[9]) ⟨o,D,hex.1⟩ (λus=>us.Perm (l.map (·.2))) (λh0 Q2 E2 L Y0=>?_) λs' c R7 k g os=>?_
 ·refine xu (s:={ s with heap:=h0 }) (L _ _ D) hex hd hf U (λhb=>by rw[US,hb];rfl) T.R6 λit ot fp F first h' d y si hF Y f Sz=>?_
  have MQ:p≠it:=λz=>by have h1:p<h0.objs.size:=en (L _ _ D);rw[z] at h1;exact ib (i3 h1 f) (oe _)
  refine Y0 it fp [it] es.size _ _ _ ((Walks.set (A:=X.A.in1.in1) hh y MQ hex hd hf).toS) ⟨Y _ _ (L _ _ D),first,si,hF⟩ U Sz (λb hb=>by rw[gA.mp hb];exact f) Y rfl rfl λc ha=>?_;obtain⟨a1,a2⟩:=ha;have osz:ot.size=es.size:=by have:=y.perm.length_eq;rw[4]
  have G:c.toList=ot.toList.map (·.2):=by
   apply W8;intro i;by_cases hi:i<es.size
   ·have Z:c[i]?=ag c[i]:=kb #[0];have:=a2 i _ Z;rw[dk,kc,kc,Z,this]
   rw[dk,kc,kc,aa4 #[0],aa4 #[0]];rfl
  rw[G];exact(y.perm.trans W.symm).map _
 have m:=I.moved k g os;obtain⟨vs3,ds3,R,N,p3⟩:=jA R7 r2 m2;obtain⟨zs3,G,M⟩:=lH p3;subst G;have tu:=sU m N R;have P:c.length=zs.length:=by rw[← R.length,← N.length,dv,M.length_eq]
 refine⟨by rw[P,Uh];omega,Rf,U5 X.prog X.w s'.heap,λh2=>⟨uU tu,i7 h2 (by rw[P];exact ZG) ?_⟩,λo h2 ep C hs k2 PM=>?_⟩
 ·exact aet (q7 (λl=>List.Nodup l) tu.keys) (M.nodup_iff.mpr E)
 obtain⟨x,ds4,a1,a2,a3⟩:=jA C R N;obtain⟨j,e4,p4⟩:=lH a3;subst e4;have hk:=(sU m a2 a1).keys;have TL:j.Pairwise Rf.kle:=by have:=Ml.mpr hs;rw[hk] at this;exact this
 have Ti:j=zs.mergeSort Mo:=Cs (O:=Rf) (p4.trans M) TL;subst Ti;have n:x.length<=da:=by rw[a1.length,C.length_eq,P,Uh];omega
 exact⟨.ref _,_,m.laid (t':=s'.toks) (o:=.lst x) k2 (e9 _) ⟨n,o.toList,ep,a1,by simpa using PM⟩,rfl,q _ _ (aO m.fresh _) (At.M0 a2 m.fresh hJ n)⟩
theorem uZ {a:gy}(l:x="sorted")(w:y="set")(hc:X.calm=a6)(f:X.A.units+150<nq)(E:X.mg x=a4)(N:X.mg y=a4)(ha:SE X W a fe)(L:Gl X x:=by rfl)(G:Gl X y:=by rfl)
  (e:ek [a] X.env=(a8,qa a X.env)::ek [] X.env:=by rfl)
  (k:ek [(.Call (.Name y p2) [a] [] Q8)] X.env=(a8,qa (.Call (.Name y p2) [a] [] Q8) X.env)::ek [] X.env:=by rfl)
  (F:(rb Q8 (ek [] X.env)).any (·.1)=a8:=by rfl) (M:(rb pos (ek [] X.env)).any (·.1)=a8:=by rfl) :
  SE X W (.Call (.Name x p) [.Call (.Name y p2) [a] [] Q8] [] pos) (RT lh fe):=by
 subst l w;have inner:=mK (X:=X) (p:=p2) (pos:=Q8) (Fj hc f) G N HH (di ha MD e) #[2] #[2] e F;refine PE.imp (i_ (yg hc f) L E gW (di inner MD k) #[2] #[2] k M) λR H Q h=>?_;refine(tG.LC h).mono λv S ⟨d,K⟩=>?_;obtain⟨J,B,P,r,s,eq,q⟩:=tG.Yz K;cases B with
 |lst O =>
  unfold lh at eq;simp only at eq;split at eq
  ·rename_i hb;obtain⟨j,o,c⟩:=hD.mp eq;split at c
   ·rename_i D;cases c;have C:=gZ (λd a h=>sV h) o;subst C;obtain⟨b,g,rfl,n,m⟩:=At.LG.mp s;show uP _ _ _;refine⟨b,J,j,g,rfl,n.sq,m,#[17],λp i=>?_⟩;refine⟨p,J,j,g,rfl,LD,λa ha=>?_,m.ex (Ex.same (aO i _)),D,λI v u t=>q I v ((aO i _).trans u) t⟩;by_cases z:a=p
    ·rw[z,LD];simp
    rw[aH z];exact r a ha
   cases c
  cases eq
 |_=>cases eq
end
section
variable {X:Cx}{W:WT}{fe fa:Lk D}
theorem Jk (x:ak el):(O4 x).depth<=8/\keyOk 8 (O4 x)=(x.map UW).all (keyOk 7):=by
 refine⟨?_,rfl⟩;unfold O4;rw[m4]
 have:pw (x.map UW)<=0:=by
  induction x with
  |nil=>simp[pw]
  |cons a x b=>rw[fh,pw];exact max_le.mpr ⟨by simp[m4],b⟩
 omega
theorem AW (hu:X.A.units+150<nq):Yt X "list.count" (λx xs H Q => ∃ (a b:bc) (J:ak bc) (vs:ak V) (g:ak (ak el)) (y:ak el),x = .ref a/\xs=[.ref b]/\Oq X.K H a vs/\Ly X.K H J (g.map Mv) vs/\At X.K H J (Mv y) (.ref b)/\Q (.int (g.count y:Nat)) H):=by
 intro C s σ H x xs v us Q I R D h;obtain⟨a,b,J,vs,g,y,rfl,rfl,M,m,N,q⟩:=h;cases R;obtain⟨u,rfl,Z⟩:=vals1 D;cases Z;obtain⟨its,k,⟨o,n,t,hc,_,hd⟩,_⟩:=I.list M;have tu:=sU I m k;obtain⟨b',e,_,_,ky⟩:=qS I N (show RelV (.ref b) (.ref b) from rfl);cases e;obtain⟨r,as,S⟩:=ky;obtain⟨oc,T,E,W⟩:=o;simp only at hc hd;subst hc hd;refine aaW F.slot_list_count ⟨_,t,rfl⟩ F.entry_list_count (F.args_list_count_2 _ _) (SeqAt.list_countAt a its.toArray n T W (.ref b) (λu=>ei (U5 X.prog X.w s.heap u=y))) ⟨t,λu j=>?_,?_⟩
 ·have j:u∈its:=by simpa using j
  obtain⟨i,B⟩:=m7 j;have O:i<g.length:=by rw[← dv (f:=Mv),m.length,k.length];exact(ba.mp B).1
  obtain⟨w,G,aw⟩:=ow m (i:=i) (d:=Mv g[i]) (by rw[dk,a7 O];rfl);obtain⟨u2,p,L⟩:=k.get (i:=i) G;rw[B] at p;cases p;obtain⟨c,rfl,rfl,tk,l,as2,U⟩:=qS I aw L;rw[tW tk]
  have e5:hH (O4 g[i]) (O4 y)=ei (g[i]=y):=by
   rw[mQ l r];by_cases z:g[i]=y
   ·rw[gx z,gx (q7 O4 z)]
   rw[dV z,dV λh=>z (tN h)]
  rw[← e5];exact ac6 _ _ _ s _ _ _ _ U S (gR l) (gR r) (by have Y:=(Jk g[i]).1;have h2:=(Jk y).1;have h3:XP (O4 g[i]).depth (O4 y).depth<=8:=fg (abe _ _) Y;show X.A.units+1 + _<nq;omega)
 have P:(its.toArray.toList.countP λu=>ei (U5 X.prog X.w s.heap u=y))=g.count y:=by have:=tu.keys;rw[← this];simp only[List.count,countP_map];apply countP_congr;intro u j;simp
 rw[P];exact⟨.int _,H,I.tok _,⟨_,rfl⟩,q⟩
theorem AZ {o:gy}{name:el}{c e:Ud}{a:gy}(n:X.A.units+150<nq)(E:name="count")(w:SE X W o fe)(ha:SE X W a fa)(B:RK o name X.env (qa o X.env)=qa o X.env:=by rfl)
  (K:((rb e (ek [a] X.env)).all (λx => !x.1)&&(WS e (S7 [] X.env)).all (λx=>x.1.isSome)
   && ei ([a].length+([]:ak Wu).length+(if ([]:ak Wu).isEmpty then 0 else 1)<30))=a6:=by rfl)
  (C:(c.endLine==e.line)=a6:=by rfl) (g:ek [a] X.env=(a8,qa a X.env)::ek [] X.env:=by rfl) (D:(rb e (ek [] X.env)).any (·.1)=a8:=by rfl) :
  SE X W (.Call (.Attribute o name c) [a] [] e) (wv tZ ui fe fa):=by
 subst E;refine PE.imp (Cp F.plainAttrs_list F.slot_list_count F.type_list_count (AW n) w (di ha MD g) B K C g D) λT H Q h=>vD (λJ V d v l m=>G4 l m) (λv O G Q q=>?_) h;obtain⟨J,S,N,R,M,r,f,eq,q⟩:=q;unfold ui at eq;split at eq
 ·rename_i L P;obtain⟨I,j,p⟩:=hD.mp eq;obtain⟨y,t,k⟩:=d7.mp p;subst k;have s:=gZ (λd a h=>sV h) j;subst s;rw[sV t] at f;obtain⟨a,u,rfl,i,z⟩:=At.LG.mp r;obtain⟨b,U,rfl,_⟩:=At.LF.mp f;exact⟨a,b,J,u,I,y,rfl,rfl,i.sq,z,f,q G _ (LH.refl _) (#[18])⟩
 cases eq
end
end L2
namespace L2
open PySem PyProof.Rows
section
variable (f g:Lk D) (ρ:Lr) (S:Lq) (i:Nat) (k:eM)
@[simp] theorem K6 (d:D):aG d ρ S=LB d S:=rfl
@[simp] theorem K8 (op:D->D->a5 D):aI op f g ρ S=ai (f ρ S) λx a=>ai (g ρ a) λy S2=>aL (op x y) S2:=rfl
@[simp] theorem Lb (op:D->a5 D):RT op f ρ S=ai (f ρ S) λx a=>aL (op x) a:=rfl
@[simp] theorem KJ:br f ρ S=ai (f ρ S) λx a=>aL (QI x) a:=rfl
@[simp] theorem JJ (a b:D->D->a5 D)(h:Lk D):Hz a b f g h ρ S=ai (f ρ S) λx e=>ai (g ρ e) λy S2=>ai (aL ((a x y).bind QI) S2) λk c=>if k=a6 then ai (h ρ c) λz d=>aL (b y z) d else LB (.bl a8) c:=rfl
@[simp] theorem Ku (a b:Lk eM):wA a b ρ S=ai (a ρ S) λk c=>if k=a6 then b ρ c else LB a8 c:=rfl
@[simp] theorem KO (a b:Lk eM):Dw a b ρ S=ai (a ρ S) λk c=>if k=a6 then LB a6 c else b ρ c:=rfl
@[simp] theorem Ki (a:Lk eM):wp a ρ S=ai (a ρ S) λk b=>LB (!k) b:=rfl
@[simp] theorem K_:Fu f g ρ S=ai (f ρ S) λx a=>ai (aL (QI x) a) λk S2=>if k=a6 then g ρ S2 else LB (.bl a8) S2:=rfl
@[simp] theorem Fe:cOr f g ρ S=ai (f ρ S) λx a=>ai (aL (QI x) a) λk S2=>if k=a6 then LB (.bl a6) S2 else g ρ S2:=rfl
@[simp] theorem KP:Kx f ρ S=ai (f ρ S) λx a=>ai (aL (QI x) a) λk S2=>LB (.bl (!k)) S2:=rfl
@[simp] theorem KZ (t:Lk eM):qi t f g ρ S=ai (t ρ S) λk a=>if k=a6 then f ρ a else g ρ a:=rfl
@[simp] theorem Jh:aB ρ S=LB [] S:=rfl
@[simp] theorem Hq (t:Lk (ak D)):af f t ρ S=ai (f ρ S) λd a=>ai (t ρ a) λds S2=>LB (d::ds) S2:=rfl
@[simp] theorem KI (t:Lk (ak D)):js t ρ S=ai (t ρ S) λds a=>aL (NV ds (.tup ds)) a:=rfl
@[simp] theorem KU (t:Lk (ak D)):yq t ρ S=ai (t ρ S) λds a=>aL (NV ds (.lst ds)) a:=rfl
@[simp] theorem Ks (h:ak D->a5 D)(t:Lk (ak D)):bx h t ρ S=ai (t ρ S) λds a=>aL (h ds) a:=rfl
@[simp] theorem Kj:eE ρ S=LB (.next ρ) S:=rfl
@[simp] theorem F0 (a b:Lk Fl):aP a b ρ S=ai (a ρ S) λe d=>match e with
 | .next c=>b c d
 |o=>LB o d:=rfl
@[simp] theorem KM:bg f ρ S=ai (f ρ S) λd a=>LB (.ret d) a:=rfl
@[simp] theorem Lf (t:Lk eM)(a b:Lk Fl):P5 t a b ρ S=ai (t ρ S) λk c=>if k=a6 then a ρ c else b ρ c:=rfl
@[simp] theorem KK:bh i f ρ S=ai (f ρ S) λd a=>LB (.next (ρ.set i (ag d))) a:=rfl
@[simp] theorem K3 (a:Lk (ak D))(u:D->Lr->a5 Lr)(b:Lk Fl):kM a u b ρ S=ai (a ρ S) λds c=>fV u b ds ρ c:=rfl
@[simp] theorem KL (h:ak D->a5 (ak D))(t:Lk (ak D)):gE h t ρ S=ai (t ρ S) λds a=>aL (h ds) a:=rfl
@[simp] theorem JD:bM f ρ S=ai (f ρ S) λd a=>aL (cm d) a:=rfl
@[simp] theorem Ke:dB ρ S=LB a6 S:=rfl
@[simp] theorem K5 (F:Lp)(t:Lk (ak D)):aQ F t ρ S=ai (t ρ S) λds a=>j4 (F ds a):=rfl
@[simp] theorem JH (d:D):j4 (LB d S)=LB d S:=rfl
@[simp] theorem Jg (d:D):j4 (ag (.ok d,S))=LB d S:=rfl
@[simp] theorem Ld:Nd f g ρ S=ai (f ρ S) λx a=>ai (g ρ a) λy S2=>aL (Mu x y S2) S2:=rfl
@[simp] theorem Le:RW k f g ρ S=ai (f ρ S) λx a=>ai (g ρ a) λy S2=>aL (RF k x y S2) S2:=rfl
@[simp] theorem Kf:z6 f ρ S=ai (f ρ S) λd a=>aL (oY d a) a:=rfl
@[simp] theorem KR:wu ρ S=LB (#[13]) (S++[.dict []]):=rfl
@[simp] theorem KN (h:Lk D):yp f g h ρ S=ai (h ρ S) λv b=>ai (f ρ b) λx S2=>ai (g ρ S2) λk a=>ve x k v ρ a:=rfl
@[simp] theorem Kr (n:Nat)(ix:ak Nat)(a:Lk (ak D))(u:D->Lr->a5 Lr)(gt:Lk eM):cy n ix a u gt f ρ S=ai (a ρ S) λds b =>
 match b8 u gt f ds (bT n ix ρ) b with
 |ag (out,S2)=>LB (.lst out) S2
 |a4=>a4:=rfl
@[simp] theorem Lc (op:D->a5 Int->a5 Int->a5 D)(lo a:a5 (Lk D)):Tf op f lo a ρ S=ai (f ρ S) λx b=>ai (l0 lo ρ b) λl S2=>ai (l0 a ρ S2) λu c=>aL (op x l u) c:=rfl
@[simp] theorem JG:l0 a4 ρ S=LB a4 S:=rfl
@[simp] theorem JF:l0 (ag f) ρ S=ai (f ρ S) λd a=>aL (Bf d) a:=rfl
@[simp] theorem F1 (a:D->eM)(op:D->D->a5 D):wv a op f g ρ S=ai (f ρ S) λx b=>if a x=a6 then ai (g ρ b) λy S2=>aL (op x y) S2 else a4:=rfl
@[simp] theorem KH (d:D)(h : ρ[i]?=ag (ag d)):ah i ρ S=LB d S:=by unfold ah;rw[h]
@[simp] theorem JC (d:D):aE i d ρ=ag (ρ.set i (ag d)):=rfl
@[simp] theorem K7 (b:eM):QI (.bl b)=ag b:=rfl
end
@[simp] theorem bR {ds:ak D}{d:D}(h:ds.length<=1000):NV ds d=ag d:=by
 unfold NV;rw[cc (fg h #[2])]
theorem aA {n m:Nat}{G:Lk Fl}{ds:ak D}{S a:Lq}{d:D}(b:ds.length=n)(h:G (ds.map ag++eh m a4) S=LB (.ret d) a):a_ n m G ds S=LB d a:=by unfold a_;rw[cc b,h];rfl
theorem dz {u:D->Lr->a5 Lr}{gt:Lk eM}{fe:Lk D}(I:Lr->Prop)(g:D->eM)(f:D->D)(S:Lq) :
  ∀ (ds:ak D) (ρ:Lr),I ρ->(∀ d∈ds,∀ ρ,I ρ->∃ a,u d ρ=ag a/\I a/\gt a S=LB (g d) S/\(g d=a6->fe a S=LB (f d) S))->b8 u gt fe ds ρ S=ag ((ds.filter g).map f,S)
 |[],ρ,_,_=>rfl
 |d::ds,ρ,hI,h=>by
  obtain⟨a,i,k,j,l⟩:=h d (eR ..) ρ hI;have c:=dz I g f S ds a k λx e=>h x (ee _ e);rw[b8,i,lr,j];simp only[LB,TX,lr];by_cases b:g d=a6
  ·rw[cc b,l b];simp only[LB,TX,lr,c,UI,Tt,b,mz,fh]
  rw[cn b,c,Tt,cn b]
theorem dR {u:D->Lr->a5 Lr}{fe:Lk D}(I:Lr->Prop)(f:D->D)(S:Lq)(ds:ak D)(ρ:Lr)(b:I ρ)
  (h:∀ d∈ds,∀ ρ,I ρ->∃ a,u d ρ=ag a/\I a/\fe a S=LB (f d) S):b8 u dB fe ds ρ S=ag (ds.map f,S):=by
 have q:=dz (u:=u) (gt:=dB) (fe:=fe) I (λ_=>a6) f S ds ρ b λd hd ρ hr=>by obtain⟨a,c,g,e⟩:=h d hd ρ hr;exact⟨a,c,g,rfl,λ_=>e⟩
 rw[q,List.filter_eq_self.mpr λ_ _=>rfl]
theorem b7 {u:D->Lr->a5 Lr}{body:Lk Fl}(I:Nat->Lr->Lq->Prop):∀ (ds:ak D) (i:Nat) (ρ:Lr) (S:Lq),I i ρ S ->
  (∀ (j:Nat) d ρ S,ds[j]?=ag d->I (i+j) ρ S->∃ l,u d ρ=ag l/\∃ g k,body l S=LB (.next g) k/\I (i+j+1) g k)->∃ g k,fV u body ds ρ S=LB (.next g) k/\I (i+ds.length) g k
 |[],i,ρ,S,n,_=>⟨ρ,S,rfl,n⟩
 |d::ds,i,ρ,S,n,h=>by
  obtain⟨l,p,g,k,s,q⟩:=h 0 d ρ S rfl n
  obtain⟨m,w,t,r⟩:=b7 I ds (i+1) g k q λj x ρ S o v=>by
   obtain⟨a,b,c,d,e,f⟩:=h (j+1) x ρ S (by simpa using o) (by rw[show i+(j+1)=i+1+j by omega];exact v);exact⟨a,b,c,d,e,by rw[show i+1+j+1=i+(j+1)+1 by omega];exact f⟩
  refine⟨m,w,?_,by rw[hG,show i+(ds.length+1)=i+1+ds.length by omega];exact r⟩;rw[fV,p];simp only[s,eI];exact t
mutual
def pl:D->eM
 | .tup a=>SN a
 | .lst a=>SN a
 | .set _=>a8
 | .loc _=>a8
 | .fn _ _=>a8
 |_=>a6
def SN:ak D->eM
 |[]=>a6
 |d::ds=>pl d&&SN ds
end
theorem yV:∀ {ds:ak D},SN ds=a6↔∀ d∈ds,pl d=a6
 |[]=>by simp[SN]
 |d::ds=>by rw[SN,pX,yV (ds:=ds)];simp
mutual
theorem yJ:∀ {d:D},pl d=a6->∃ p,toPy d=ag p
 | .LR,_=>⟨_,rfl⟩
 | .bl _,_=>⟨_,rfl⟩
 | .int _,_=>⟨_,rfl⟩
 | .str _,_=>⟨_,rfl⟩
 | .tup b,h=>by
  rw[pl] at h;obtain⟨a,e⟩:=k7 h;exact⟨.tuple a,by rw[toPy,e];rfl⟩
 | .lst b,h=>by
  rw[pl] at h;obtain⟨a,e⟩:=k7 h;exact⟨.list a,by rw[toPy,e];rfl⟩
 | .set _,h=>by simp[pl] at h
 | .loc _,h=>by simp[pl] at h
 | .fn _ _,h=>by simp[pl] at h
theorem k7:∀ {ds:ak D},SN ds=a6->∃ a,cg ds=ag a
 |[],_=>⟨[],rfl⟩
 |d::ds,h=>by
  rw[SN,pX] at h;obtain⟨p,b⟩:=yJ h.1;obtain⟨a,c⟩:=k7 h.2;exact⟨p::a,by rw[cg,b,c];rfl⟩
end
theorem qV:∀ {ds:ak D}{a:ak hA},cg ds=ag a->a.length=ds.length
 |[],a,e=>by cases e;rfl
 |d::ds,a,e=>by
  rw[cg] at e;obtain⟨p,_,f⟩:=hD.mp e;obtain⟨r,b,c⟩:=d7.mp f;subst c;rw[hG,hG,qV b]
theorem Fv {α:Type}[BEq α][LawfulBEq α][wt α](a b : α):(a==b)=ei (a=b):=by by_cases h:a=b<;>simp[h]
@[simp] theorem Fc (i j:Int):Nb (.int i) (.int j)=ag (.bl (ei (i=j))):=by simp[Nb,toPy,hH,m4,Fv]
@[simp] theorem yY (i j:Int):Q0 (.int i) (.int j)=ag (.bl (!ei (i=j))):=by simp[Q0,toPy,hH,m4,Fv]
@[simp] theorem Kc (a b:eM):Nb (.bl a) (.bl b)=ag (.bl (a==b)):=by simp[Nb,toPy,hH,m4]
theorem g7:∀ l:ak el,cg (l.map .str)=ag (l.map .str)
 |[]=>rfl
 |a::l=>by rw[fh,cg,g7 l];rfl
theorem pW:∀ l m:ak el,ma (l.map .str) (m.map .str)=ei (l=m)
 |[],[]=>rfl
 |[],b::m=>by simp[ma]
 |a::l,[]=>by simp[ma]
 |a::l,b::m=>by
  rw[fh,fh,ma,pW l m];simp only[hH,vr];by_cases h:a=b<;>by_cases c:l=m<;>simp[h,c]
theorem p8:∀ l:ak el,pw (l.map .str)=0
 |[]=>rfl
 |a::l=>by rw[fh,pw,p8 l];rfl
theorem Fb {ds:ak D}(h:SN ds=a6):Nb (.lst ds) (.lst [])=ag (.bl (ds.isEmpty)):=by
 obtain⟨a,e⟩:=k7 h;have b:toPy (.lst ds)=ag (.list a):=by rw[toPy,e];rfl
 have l:=qV e;have c:toPy (.lst [])=ag (.list []):=rfl;unfold Nb;rw[b,c];cases a with
 |nil=>cases ds with
  |nil=>simp[m4,pw,hH,ma]
  |cons _ _=>simp at l
 |cons p a=>cases ds with
  |nil=>simp at l
  |cons _ _=>simp[m4,pw,hH,ma]
theorem in3 (x a b c:el):inD (.str x) (.tup [.str a,.str b,.str c])=ag (.bl (ei (a=x) ||(ei (b=x) ||ei (c=x)))):=by simp[inD,xZ,toPy,cg,xn,hH,m4,Fv]
section
variable (ρ:Lr) (S:Lq)
@[simp] theorem Kq (F:Lp)(t:Lk (ak D)):Jl F t ρ S=ai (t ρ S) λds a=>F ds a:=rfl
@[simp] theorem JE (c:el)(t:Lk (ak D)):Hx c t ρ S=ai (t ρ S) λds a=>ai (aL (NV ds .LR) a) λ_ S2=>ag (.error c,S2):=rfl
@[simp] theorem K0 (a:el->a5 eM)(f:Lk D):Ky a f ρ S=ai (f ρ S) λd b=>aL (IW a d b) b:=rfl
end
end L2
namespace LJ
open PySem L2
noncomputable def C9:Lk Fl:=
  (bg (aI Nb (bx cr (af (ah 0) aB)) (aG (.int 3))))
noncomputable def fK:Lp:=a_ 1 0 C9
noncomputable def lN:Lk Fl:=
  (bg (qi (br (aQ fK (af (ah 0) aB))) (Tf QJ (ah 0) (ag (aG (.int 1))) a4) (js aB)))
noncomputable def cD:Lp:=a_ 1 0 lN
noncomputable def pT:Lk Fl:=
  (bg (qi (br (aQ fK (af (ah 0) aB))) (wv fA jJ (ah 1) (Nd (ah 0) (aG (.int 0)))) (bx cr (af (ah 1) aB))))
noncomputable def kO:Lp:=a_ 2 0 pT
noncomputable def r8:Lk Fl:=
  (aP (bh 4 (Bx (ah 0) (ah 1)))
  (bg (qi (br (aI Nb (Nd (ah 4) (aG (.int 0))) (ah 2))) (Nd (ah 4) (aI bz (aG (.int 1)) (ah 3))) (ah 1))))
noncomputable def m_:Lp:=a_ 4 1 r8
noncomputable def ca (rec:Lp):Lk Fl:=
  (P5 (br (RW a6 (ah 3) (ah 2))) (ww (aQ rec (af (ah 0) (af (ah 3) (af (ah 2) aB))))) eE)
noncomputable def eC (rec:Lp):Lk Fl:=
  (aP (kM (bM (aQ cD (af (Bx (ah 0) (ah 1)) aB))) (aE 3) (ca rec))
  (yp (ah 2) (ah 1) (aG (.bl a6))))
noncomputable def bp:Nat->Lp
 | 0=>λ_ _=>a4
 |n+1=>a_ 3 1 (eC (bp n))
noncomputable def jj:Lk Fl:=
  (aP (bh 2 wu)
  (aP (ww (aQ (bp 10) (af (ah 0) (af (ah 1) (af (ah 2) aB)))))
  (bg (mX (ah 2)))))
noncomputable def fJ:Lp:=a_ 2 1 jj
noncomputable def ji:Lk Fl:=
  (bg (qi (br (aQ fK (af (ah 0) aB))) (js (af (Nd (ah 0) (aG (.int 0))) (af (Nd (ah 1) (Nd (ah 0) (aG (.int 1)))) (af (Nd (ah 1) (Nd (ah 0) (aG (.int 2)))) aB)))) (ah 0)))
noncomputable def fH:Lp:=a_ 2 0 ji
noncomputable def iI:Lk D:=
  (aG .LR)
noncomputable def gv:Lk Fl:=
  (bg (bx iO (af (cy 1 [] (gE dL (af (ah 0) aB)) (aE 0) dB iI) aB)))
noncomputable def gG:Lp:=a_ 1 0 gv
noncomputable def h_:Lk Fl:=
  (bg (aI bz (aI bz (Tf QJ (ah 0) a4 (ag (ah 1))) (js (af (ah 2) aB))) (Tf QJ (ah 0) (ag (aI bz (ah 1) (aG (.int 1)))) a4)))
noncomputable def dF:Lp:=a_ 3 0 h_
noncomputable def fj:Lk eM:=
  (br (aI Vl (ah 1) (aG .LR)))
noncomputable def fC:Lk D:=
  (ah 0)
noncomputable def ie:Lk Fl:=
  (bg (cy 2 [] (gE j6 (af (ah 0) aB)) (iX 2 (aS (aE 0) (aS (aE 1) eS))) fj fC))
noncomputable def dG:Lp:=a_ 1 0 ie
noncomputable def eU:Lk Fl:=
  (wz 1 (aG (.int 2)))
noncomputable def fW:Lk Fl:=
  (aP (bh 1 (aG (.int 1)))
  (aP (kM (bM (aQ dG (af (ah 0) aB))) (aE 2) eU)
  (bg (ah 1))))
noncomputable def dH:Lp:=a_ 1 2 fW
noncomputable def r6:Lk Fl:=
  (aP (bh 2 (qi (br (aQ fK (af (ah 0) aB))) (Nd (ah 1) (Nd (ah 0) (aG (.int 0)))) (aG .LR)))
  (bg (qi (br (aI Vl (ah 2) (aG .LR))) (aQ cD (af (ah 0) aB)) (js (af (Nd (ah 0) (aI bz (aG (.int 1)) (ah 2))) aB)))))
noncomputable def m9:Lp:=a_ 2 1 r6
noncomputable def fX:Lk D:=
  (aG (.int 0))
noncomputable def bJ:Lk Fl:=
  (qk (ah 2) (ah 5) (aI dM (uw (ah 2) (ah 3)) (bx cr (af (ah 4) aB))))
noncomputable def dC:Lk Fl:=
  (aP (bh 4 (aQ m9 (af (Nd (ah 0) (ah 3)) (af (ah 1) aB))))
  (kM (bM (ah 4)) (aE 5) bJ))
noncomputable def iF:Lk Fl:=
  (aP (bh 2 (qj 1 [] (bM (ah 0)) (aE 0) dB fX))
  (aP (z_ (ah 2) (RT AR (aG (.int 1))) (aQ dH (af (ah 1) aB)))
  (aP (kM (gE u8 (af (aI uR (bx cr (af (ah 0) aB)) (aG (.int 1))) (af (RT AR (aG (.int 1))) (af (RT AR (aG (.int 1))) aB)))) (aE 3) dC)
  (bg (ah 2)))))
noncomputable def bt:Lp:=a_ 2 4 iF
noncomputable def cM:Lk eM:=
  (wA (wp (br (aQ fK (af (ah 1) aB)))) (br (RW a8 (ah 2) (Nd (ah 1) (aG (.int 1))))))
noncomputable def iH:Lk D:=
  (ah 0)
noncomputable def gu:Lk Fl:=
  (bg (cy 2 [1] (gE j6 (af (ah 0) aB)) (iX 2 (aS (aE 0) (aS (aE 1) eS))) cM iH))
noncomputable def cb:Lp:=a_ 2 0 gu
noncomputable def ij:Lk D:=
  (Nd (ah 1) (ah 0))
noncomputable def kD:Lk Fl:=
  (aP (bh 3 (jM (aQ bt (af (ah 0) (af (ah 2) aB)))))
  (bg (bx D1 (af (cy 1 [3] (bM (ah 1)) (aE 0) dB ij) aB))))
noncomputable def cV:Lp:=a_ 3 1 kD
noncomputable def cO:Lk Fl:=
  (aP (bh 5 (aQ dF (af (ah 3) (af (ah 4) (af (aG (.int 0)) aB)))))
  (bh 3 (qi (br (aI TR (aQ cV (af (ah 0) (af (ah 1) (af (ah 5) aB)))) (aG (.int 0)))) (ah 5) (aQ dF (af (ah 3) (af (ah 4) (af (aG (.int 1)) aB)))))))
noncomputable def cJ:Lk Fl:=
  (aP (P5 (br (aI Nb (aQ cV (af (ah 0) (af (ah 1) (af (ah 2) aB)))) (aG (.int 0)))) (bg (aG .LR)) eE)
  (aP (bh 3 (ah 2))
  (aP (kM (bM (aQ dG (af (ah 2) aB))) (aE 4) cO)
  (bg (ah 3)))))
noncomputable def gF:Lp:=a_ 3 3 cJ
noncomputable def d9:Lk eM:=
  (wp (br (aQ fK (af (ah 0) aB))))
noncomputable def fZ:Lk D:=
  (js (af (Nd (ah 0) (aG (.int 1))) (af (ah 1) aB)))
noncomputable def mU:Lk Fl:=
  (bg (cy 2 [] (gE DO (af (ah 0) (af (jM (aQ bt (af (ah 0) (af (ah 1) aB)))) aB))) (iX 2 (aS (aE 0) (aS (aE 1) eS))) d9 fZ))
noncomputable def nr:Lp:=a_ 2 0 mU
noncomputable def pU:Lk Fl:=
  (bg (bx iO (af (bx tD (af (aQ nr (af (ah 0) (af (aQ gG (af (ah 1) aB)) aB))) aB)) aB)))
noncomputable def mf:Lp:=a_ 2 0 pU
noncomputable def ig:Lk Fl:=
  (bg (aQ cV (af (ah 0) (af (aQ cb (af (ah 0) (af (ah 1) aB))) (af (ah 2) aB)))))
noncomputable def dI:Lp:=a_ 3 0 ig
noncomputable def mT:Lk Fl:=
  (bg (aQ gF (af (ah 0) (af (aQ cb (af (ah 0) (af (ah 1) aB))) (af (ah 2) aB)))))
noncomputable def g6:Lp:=a_ 3 0 mT
noncomputable def eP:Lk Fl:=
  (aP (qh "Rows" "order" (ah 0) (ah 1))
  (aP (qh "Rows" "gathered" (ah 0) Dx)
  (aP (qh "Rows" "numbers" (ah 0) z7)
  (qh "Rows" "choices" (ah 0) z7))))
noncomputable def b9:Lp:=a_ 2 0 eP
noncomputable def cU:Lk Fl:=
  (yp (ah 3) (ah 5) (ah 4))
noncomputable def bY:Lk D:=
  (aQ fH (af (uw (jt "Rows" "gathered" (ah 2)) (ah 0)) (af (ah 1) aB)))
noncomputable def gT:Lk Fl:=
  (aP (bh 2 (aQ fJ (af (jt "Rows" "gathered" (ah 0)) (af (ah 1) aB))))
  (aP (bh 3 wu)
  (aP (kM (gE ug (af (ah 2) aB)) (iX 2 (aS (aE 4) (aS (aE 5) eS))) cU)
  (bg (bx iO (af (cy 1 [3,0] (bM (ah 2)) (aE 0) dB bY) aB))))))
noncomputable def dW:Lp:=a_ 2 4 gT
noncomputable def bj:Lk D:=
  (aQ kO (af (uw (jt "Rows" "gathered" (ah 1)) (ah 0)) (af (jt "Rows" "order" (ah 1)) aB)))
noncomputable def dw:Lk Fl:=
  (aP (bh 4 (cy 1 [0] (bM (js (af (ah 2) (af (ah 3) aB)))) (aE 0) dB bj))
  (bg (Nd (jt "Rows" "order" (ah 0)) (bx vA (af (aI bz (ah 4) (yq (af (wv fA jJ (jt "Rows" "order" (ah 0)) (ah 1)) aB))) aB)))))
noncomputable def bZ:Lp:=a_ 4 1 dw
noncomputable def dQ:Lk Fl:=
  (aP (P5 (br (Dy a6 (ah 1) (jt "Rows" "numbers" (ah 0)))) (aP (wo (jt "Rows" "numbers" (ah 0)) (ah 1) (Dp (jt "Rows" "gathered" (ah 0))))
  (ww (HA (jt "Rows" "gathered" (ah 0)) (ah 1)))) eE)
  (bg (z8 (jt "Rows" "numbers" (ah 0)) (ah 1))))
noncomputable def bS:Lp:=a_ 2 0 dQ
noncomputable def cu:Lk Fl:=
  (bg (qi (br (aI Nb (ah 2) (ah 3))) (ah 2) (dO "Rows" "number_of" bS (ah 0) (af (js (af (ah 1) (af (ah 2) (af (ah 3) aB)))) aB))))
noncomputable def bK:Lp:=a_ 4 0 cu
noncomputable def nN:Lk Fl:=
  (bg (aQ m_ (af (jt "Rows" "gathered" (ah 0)) (af (ah 1) (af (ah 2) (af (ah 3) aB))))))
noncomputable def bV:Lp:=a_ 4 0 nN
noncomputable def cT (rec:Lp):Lk Fl:=
  (aP (bh 4 (dO "Rows" "first_character" bZ (ah 0) (af (ah 1) (af (ah 2) (af (ah 3) aB)))))
  (aP (P5 (br (aI Nb (ah 4) (ah 1))) (bg (dO "Rows" "number_of_ask" bK (ah 0) (af (ah 1) (af (dO "Rows" "side" bV (ah 0) (af (ah 2) (af (ah 1) (af (aG (.int 0)) aB)))) (af (dO "Rows" "side" bV (ah 0) (af (ah 3) (af (ah 1) (af (aG (.int 1)) aB)))) aB))))) eE)
  (aP (bh 5 (dO "Rows" "choose" rec (ah 0) (af (ah 1) (af (dO "Rows" "side" bV (ah 0) (af (ah 2) (af (ah 4) (af (aG (.int 0)) aB)))) (af (dO "Rows" "side" bV (ah 0) (af (ah 3) (af (ah 4) (af (aG (.int 0)) aB)))) aB)))))
  (aP (bh 6 (dO "Rows" "choose" rec (ah 0) (af (ah 1) (af (dO "Rows" "side" bV (ah 0) (af (ah 2) (af (ah 4) (af (aG (.int 1)) aB)))) (af (dO "Rows" "side" bV (ah 0) (af (ah 3) (af (ah 4) (af (aG (.int 1)) aB)))) aB)))))
  (bg (dO "Rows" "number_of_ask" bK (ah 0) (af (ah 4) (af (ah 5) (af (ah 6) aB)))))))))
noncomputable def cX (rec:Lp):Lp:=a_ 4 3 (cT rec)
noncomputable def dY (rec:Lp):Lk Fl:=
  (aP (bh 4 (js (af (ah 1) (af (ah 2) (af (ah 3) aB)))))
  (aP (P5 (br (Dy a6 (ah 4) (jt "Rows" "choices" (ah 0)))) (wo (jt "Rows" "choices" (ah 0)) (ah 4) (qi (br (aI Nb (ah 2) (ah 3))) (ah 2) (dO "Rows" "choose_anew" (cX rec) (ah 0) (af (ah 1) (af (ah 2) (af (ah 3) aB)))))) eE)
  (bg (z8 (jt "Rows" "choices" (ah 0)) (ah 4)))))
noncomputable def d5:Nat->Lp
 | 0=>λ_ _=>a4
 |n+1=>a_ 4 1 (dY (d5 n))
noncomputable def eO (rec:Lp):Lk Fl:=
  (aP (P5 (br (aI Nb (Nd (ah 1) (aG (.int 0))) (aG (.str "names")))) (bg (dO "Rows" "number_of" bS (ah 0) (af (ah 1) aB))) eE)
  (bg (dO "Rows" "choose" (d5 9) (ah 0) (af (Nd (ah 1) (aG (.int 1))) (af (aQ rec (af (ah 0) (af (Nd (ah 1) (aG (.int 2))) aB))) (af (aQ rec (af (ah 0) (af (Nd (ah 1) (aG (.int 3))) aB))) aB))))))
noncomputable def cP:Nat->Lp
 | 0=>λ_ _=>a4
 |n+1=>a_ 2 0 (eO (cP n))
noncomputable def vW:Lk Fl:=
  (aP (bh 2 (z9 "Rows" b9 (af (ah 1) aB)))
  (bg (dO "Rows" "fold_from" dW (ah 2) (af (aQ (cP 15) (af (ah 2) (af (ah 0) aB))) aB))))
noncomputable def me:Lp:=a_ 2 1 vW
noncomputable def nM:Lk Fl:=
  (aP (P5 (br (aI Wa (ah 1) (bx cr (af (ah 0) aB)))) (bg (Nd (ah 0) (ah 1))) eE)
  (bg (aG (.int 0))))
noncomputable def ju:Lp:=a_ 2 0 nM
noncomputable def sj:Lk Fl:=
  (aP (bh 2 (aI ck (aI c_ (aI bz (aI bz (aQ ju (af (ah 0) (af (ah 1) aB))) (aI c_ (aG (.int 7919)) (ah 1))) (aG (.int 1))) (aG (.int 48271))) (aG (.int 2147483647))))
  (bg (aI ck (aI bz (aI bz (aI c_ (ah 2) (ah 2)) (aI c_ (aG (.int 7)) (ah 2))) (ah 1)) (aG (.int 2147483629)))))
noncomputable def aZ:Lp:=a_ 2 1 sj
noncomputable def sk:Lk Fl:=
  (aP (bh 2 (aI ck (aI c_ (aI bz (aI bz (ah 0) (aI c_ (aG (.int 104729)) (ah 1))) (aG (.int 17))) (aG (.int 69621))) (aG (.int 2147483647))))
  (bg (aI ck (aI bz (aI bz (aI c_ (ah 2) (ah 2)) (aI c_ (aG (.int 3)) (ah 2))) (ah 1)) (aG (.int 2147483629)))))
noncomputable def dU:Lp:=a_ 2 1 sk
noncomputable def f_:Lk Fl:=
  (bh 5 (aI bz (ah 5) (Nd (ah 1) (aI ck (aI dM (ah 4) (aI bz (aI c_ (aG (.int 31)) (ah 6)) (aG (.int 29)))) (aG (.int 26))))))
noncomputable def f9:Lk Fl:=
  (aP (bh 4 (aQ dU (af (ah 0) (af (ah 3) aB))))
  (aP (bh 5 (Nd (ah 1) (aI ck (ah 4) (aG (.int 26)))))
  (aP (kM (gE dL (af (aI c_ (aI ck (aI dM (ah 4) (aG (.int 26))) (aG (.int 8))) (aI ck (ah 0) (aG (.int 2)))) aB)) (aE 6) f_)
  (yp (ah 2) (aI bz (ah 5) (aI c_ (aG (.str "q")) (bx intD (af (RW a8 (ah 5) (aG (D.tup [(D.str "names"),(D.str "ask"),(D.str "end")]))) aB)))) (aG (.bl a6))))))
noncomputable def rZ:Lk Fl:=
  (aP (bh 1 (aG (#[21])))
  (aP (bh 2 wu)
  (aP (kM (gE dL (af (aG (.int 6)) aB)) (aE 3) f9)
  (bg (bx iO (af (z6 (ah 2)) aB))))))
noncomputable def m8:Lp:=a_ 1 6 rZ
noncomputable def iZ:Lk eM:=
  (br (aI Nb (aI ck (aI dM (ah 2) (aI bz (aI c_ (aG (.int 3)) (ah 0)) (aG (.int 1)))) (aG (.int 4))) (aG (.int 0))))
noncomputable def jk:Lk D:=
  (ah 1)
noncomputable def sf:Lk Fl:=
  (bg (bx iO (af (cy 2 [0] (gE j6 (af (ah 1) aB)) (iX 2 (aS (aE 0) (aS (aE 1) eS))) iZ jk) aB)))
noncomputable def nk:Lp:=a_ 2 0 sf
noncomputable def ub (rec:Lp):Lk Fl:=
  (aP (P5 (Dw (br (aI Nb (ah 3) (aG (.int 0)))) (br (aI Nb (aI ck (ah 0) (aG (.int 7))) (aG (.int 0))))) (bg (js (af (aG (.str "names")) (af (aQ nk (af (aI dM (ah 0) (aG (.int 7))) (af (ah 1) aB))) aB)))) eE)
  (aP (bh 4 (aQ rec (af (aQ dU (af (ah 0) (af (aG (.int 1)) aB))) (af (ah 1) (af (ah 2) (af (aI uR (ah 3) (aG (.int 1))) aB))))))
  (aP (bh 5 (aQ rec (af (aQ dU (af (ah 0) (af (aG (.int 2)) aB))) (af (ah 1) (af (ah 2) (af (aI uR (ah 3) (aG (.int 1))) aB))))))
  (bg (js (af (aG (.str "ask")) (af (aI ck (aI dM (ah 0) (aG (.int 7))) (ah 2)) (af (ah 4) (af (ah 5) aB)))))))))
noncomputable def l_:Nat->Lp
 | 0=>λ_ _=>a4
 |n+1=>a_ 4 2 (ub (l_ n))
noncomputable def ge:Lk Fl:=
  (aP (bh 4 (aI ck (aQ dU (af (ah 0) (af (ah 3) aB))) (aI bz (bx cr (af (ah 2) aB)) (aG (.int 1)))))
  (bh 2 (aI bz (aI bz (Tf QJ (ah 2) a4 (ag (ah 4))) (yq (af (ah 3) aB))) (Tf QJ (ah 2) (ag (ah 4)) a4))))
noncomputable def r_:Lk Fl:=
  (aP (bh 2 (yq aB))
  (aP (kM (gE dL (af (ah 1) aB)) (aE 3) ge)
  (bg (bx iO (af (ah 2) aB)))))
noncomputable def ni:Lp:=a_ 2 3 r_
noncomputable def fY:Lk D:=
  (Nd (aG (D.tup [D.LR,(D.int 0),(D.int 1),D.LR])) (aI ck (aQ dU (af (ah 1) (af (ah 0) aB))) (aG (.int 4))))
noncomputable def r9:Lk Fl:=
  (bg (bx iO (af (cy 1 [0] (gE dL (af (ah 1) aB)) (aE 0) dB fY) aB)))
noncomputable def nh:Lp:=a_ 2 0 r9
noncomputable def lP:Lk D:=
  (aI bz (ah 0) (aG (D.tup [(D.int 0)])))
noncomputable def lO:Lk D:=
  (aI bz (ah 0) (aG (D.tup [(D.int 1)])))
noncomputable def dD:Lk Fl:=
  (bh 1 (aI bz (cy 1 [] (bM (ah 1)) (aE 0) dB lP) (cy 1 [] (bM (ah 1)) (aE 0) dB lO)))
noncomputable def kC:Lk Fl:=
  (aP (bh 1 (aG (D.lst [(D.tup [])])))
  (aP (kM (gE dL (af (ah 0) aB)) (aE 2) dD)
  (bg (bx oX (af (ah 1) aB)))))
noncomputable def dS:Lp:=a_ 1 2 kC
noncomputable def kE (rec:Lp):Lk Fl:=
  (aP (P5 (br (aI Nb (Nd (ah 0) (aG (.int 0))) (aG (.str "names")))) (bg (Nd (ah 0) (aG (.int 1)))) eE)
  (bg (aQ rec (af (Nd (ah 0) (aI bz (aG (.int 2)) (Nd (ah 1) (Nd (ah 0) (aG (.int 1)))))) (af (ah 1) aB)))))
noncomputable def cW:Nat->Lp
 | 0=>λ_ _=>a4
 |n+1=>a_ 2 0 (kE (cW n))
noncomputable def vV:Lk Fl:=
  (aP (bh 2 (aI bz (aG (.int 1)) (aI ck (aQ aZ (af (ah 0) (af (aG (.int 0)) aB))) (ah 1))))
  (aP (bh 3 (aQ m8 (af (aQ aZ (af (ah 0) (af (aG (.int 1)) aB))) aB)))
  (aP (bh 4 (aQ (l_ 8) (af (aQ aZ (af (ah 0) (af (aG (.int 2)) aB))) (af (ah 3) (af (ah 2) (af (aI bz (aG (.int 1)) (aI ck (aQ aZ (af (ah 0) (af (aG (.int 3)) aB))) (aG (.int 5)))) aB))))))
  (bg (js (af (ah 2) (af (ah 3) (af (ah 4) (af (aQ ni (af (aQ aZ (af (ah 0) (af (aG (.int 4)) aB))) (af (ah 2) aB))) aB)))))))))
noncomputable def l9:Lp:=a_ 2 3 vV
noncomputable def eW:Lk eM:=
  (wA (br (aI pP (Nd (ah 1) (ah 0)) (aG .LR))) (br (aI Q0 (Nd (ah 1) (ah 0)) (Nd (ah 2) (ah 0)))))
noncomputable def lR:Lk D:=
  (ah 0)
noncomputable def kF:Lk Fl:=
  (bg (aI Nb (cy 1 [1,0] (gE dL (af (bx cr (af (ah 1) aB)) aB)) (aE 0) eW lR) (yq aB)))
noncomputable def kP:Lp:=a_ 2 0 kF
noncomputable def iA:Lk eM:=
  (br (RT (Bd "bool") (ah 0)))
noncomputable def iG:Lk D:=
  (ah 0)
noncomputable def gr:Lk Fl:=
  (bg (aI Nb (cy 1 [] (bM (ah 0)) (aE 0) iA iG) (yq aB)))
noncomputable def cL:Lp:=a_ 1 0 gr
noncomputable def ou:Lk D:=
  (aQ (cW 15) (af (ah 1) (af (ah 0) aB)))
noncomputable def oq:Lk D:=
  (js (af (ah 0) (af (wv tZ ui (ah 1) (ah 0)) aB)))
noncomputable def zU:Lk D:=
  (ah 1)
noncomputable def jw:Lk eM:=
  (wA (br (aQ kP (af (ah 0) (af (ah 1) aB)))) (br (RW a8 (ah 2) (aQ (cW 15) (af (ah 3) (af (ah 0) aB))))))
noncomputable def lQ:Lk D:=
  (ah 0)
noncomputable def FY:Lk Fl:=
  (aP (uv (iX 4 (aS (aE 1) (aS (aE 2) (aS (aE 3) (aS (aE 4) eS))))) (aQ l9 (af (ah 0) (af (aG (.int 6)) aB))))
  (aP (bh 5 (aQ me (af (ah 3) (af (ah 4) aB))))
  (aP (bh 6 (aQ nh (af (aQ aZ (af (ah 0) (af (aG (.int 5)) aB))) (af (ah 1) aB))))
  (aP (bh 7 (Nd (aI bz (ah 2) (aG (D.tup [(D.str "zzzzzzzz")]))) (aI ck (aQ aZ (af (ah 0) (af (aG (.int 6)) aB))) (aI bz (bx cr (af (ah 2) aB)) (aG (.int 1))))))
  (aP (bh 8 (cy 1 [3] (bM (aQ dS (af (ah 1) aB))) (aE 0) dB ou))
  (aP (bh 9 (RT lh (ah 8)))
  (aP (P5 (br (aI Q0 (aQ mf (af (ah 5) (af (ah 1) aB))) (bx iO (af (cy 1 [8] (bM (ah 9)) (aE 0) dB oq) aB)))) (bg (aG (.bl a8))) eE)
  (aP (P5 (wp (br (aQ cL (af (cy 2 [] (bM (aQ mf (af (ah 5) (af (ah 1) aB)))) (iX 2 (aS (aE 0) (aS (aE 1) eS))) dB zU) aB)))) (bg (aG (.bl a8))) eE)
  (aP (bh 10 (cy 1 [6,7,3] (bM (aQ dS (af (ah 1) aB))) (aE 0) jw lQ))
  (aP (bh 11 (aQ dI (af (ah 5) (af (ah 7) (af (ah 6) aB)))))
  (aP (P5 (Dw (br (RT (Bd "bool") (ah 11))) (br (aI Q0 (ah 11) (bx cr (af (ah 10) aB))))) (bg (aG (.bl a8))) eE)
  (aP (bh 12 (aG .LR))
  (aP (P5 (br (aI TR (bx cr (af (ah 10) aB)) (aG (.int 0)))) (bh 12 (Nd (ah 10) (aG (.int 0)))) eE)
  (aP (bh 13 (aQ g6 (af (ah 5) (af (ah 7) (af (ah 6) aB)))))
  (bg (Fu (aI Nb (ah 13) (ah 12)) (aQ cL (af (Dv (ah 13) (js aB)) aB))))))))))))))))))
noncomputable def DI:Lp:=a_ 1 13 FY
noncomputable def top (i:Nat):qb:=aaG.main.body.getD i (.Pass ⟨0,0,0,0⟩)
noncomputable def Fm:qb->ak qb
 | .ClassDef _ _ _ b _ _ _ _ _ _ _=>b
 |_=>[]
noncomputable def vB (i j:Nat):qb:=(Fm (top i)).getD j (.Pass ⟨0,0,0,0⟩)
abbrev B4:qb:=top 1
abbrev Lg(s:el):=(s,NameKind.local)
abbrev Lh(s:el):=(s,NameKind.globalImplicit)
abbrev Lj(s:el):el×Const:=("fast",.str s)
abbrev Li(l:ak (el×Rg))(m:ak (el×Const)):ku:=⟨.function,l,a8,a8,m⟩
noncomputable abbrev BF:ku:=Li [Lg "row",Lh "len"] []
abbrev lv:qb:=top 2
noncomputable abbrev kT:ku:=Li [Lg "row",Lh "asks"] []
abbrev pc:qb:=top 3
noncomputable abbrev oH:ku:=Li [Lg "row",Lg "order",Lh "asks",Lh "len"] []
abbrev rn:qb:=top 4
noncomputable abbrev qM:ku:=Li [Lg "rows",Lg "number",Lg "character",Lg "value",Lg "row"] []
abbrev nB:qb:=top 6
noncomputable abbrev nu:ku:=Li [Lg "rows",Lg "number",Lg "left",Lg "below",Lh "rows_below",Lh "leave_row"] []
abbrev i5:qb:=top 5
noncomputable abbrev iT:ku:=Li [Lg "rows",Lg "top",Lg "left",Lh "leave_row",Lh "list"] []
abbrev i4:qb:=top 7
noncomputable abbrev iS:ku:=Li [Lg "row",Lg "numbers",Lh "asks"] []
abbrev j1:qb:=top 10
noncomputable abbrev Mp:ku:=Li [Lg "many",Lh "tuple",Lh "range"] [Lj "many",Lj "character"]
abbrev lm:qb:=top 11
noncomputable abbrev kS:ku:=Li [Lg "sheet",Lg "character",Lg "value"] []
abbrev lu:qb:=top 12
noncomputable abbrev My:ku:=Li [Lg "sheet",Lh "enumerate"] [Lj "sheet",Lj "character",Lj "value"]
abbrev fR:qb:=top 15
noncomputable abbrev fP:ku:=Li [Lg "sheet",Lg "things",Lg "character",Lh "unknown_in"] []
abbrev rm:qb:=top 16
noncomputable abbrev qL:ku:=Li [Lg "row",Lg "sheet",Lg "value",Lh "asks",Lh "rows_below"] []
abbrev iC:qb:=top 14
noncomputable abbrev Mc:ku:=Li [Lg "fold",Lg "sheet",Lg "coming",Lg "number",Lg "ways",Lg "below",Lh "things_agreeing",Lh "range",Lh "len",Lh "ways_on"] [Lj "fold",Lj "sheet",Lj "row",Lj "coming",Lj "number",Lj "ways",Lj "below"]
abbrev jY:qb:=top 17
noncomputable abbrev Mq:ku:=Li [Lg "fold",("name",.cell),Lh "enumerate"] [Lj "fold",Lj "name",Lj "number",Lj "row"]
abbrev pe:qb:=top 18
noncomputable abbrev M4:ku:=Li [Lg "fold",Lg "leaves",Lg "sheet",("coming",.cell),Lh "things_coming",Lh "sum"] [Lj "fold",Lj "leaves",Lj "sheet",Lj "coming",Lj "number"]
abbrev jZ:qb:=top 19
noncomputable abbrev jV:ku:=Li [Lg "fold",Lg "leaves",Lg "sheet",Lg "thing",Lg "character",Lg "without",Lh "count_at",Lh "unknown_in",Lh "with_value"] []
abbrev rE:qb:=top 21
noncomputable abbrev Nu:ku:=Li [Lg "fold",Lg "sheet",Lh "zip",Lh "things_coming"] [Lj "fold",Lj "sheet",Lj "row",Lj "coming"]
abbrev u7:qb:=top 22
noncomputable abbrev uG:ku:=Li [Lg "fold",Lg "many",Lh "tuple",Lh "sorted",Lh "counted",Lh "blank_sheet"] []
abbrev lw:qb:=top 23
noncomputable abbrev kU:ku:=Li [Lg "fold",Lg "name",Lg "sheet",Lh "count_at",Lh "leaves_with"] []
abbrev rj:qb:=top 24
noncomputable abbrev qK:ku:=Li [Lg "fold",Lg "name",Lg "sheet",Lh "least_thing",Lh "leaves_with"] []
abbrev iE:qb:=vB 8 0
noncomputable abbrev iw:ku:=Li [Lg "self",Lg "order"] []
abbrev gM:qb:=vB 8 7
noncomputable abbrev L8:ku:=Li [("self",.cell),Lg "top",Lg "left",("numbers",.cell),Lg "place",Lg "number",Lh "rows_as_left",Lh "enumerate",Lh "tuple"] [Lj "self",Lj "top",Lj "left",Lj "numbers",Lj "place",Lj "number"]
abbrev dh:qb:=vB 8 4
noncomputable abbrev LV:ku:=Li [("self",.cell),Lg "character",Lg "no",Lg "yes",Lg "places",Lh "min"] [Lj "self",Lj "character",Lj "no",Lj "yes",Lj "number",Lj "places"]
abbrev gL:qb:=vB 8 1
noncomputable abbrev gI:ku:=Li [Lg "self",Lg "row",Lh "len"] []
abbrev d_:qb:=vB 8 2
noncomputable abbrev d8:ku:=Li [Lg "self",Lg "character",Lg "no",Lg "yes"] []
abbrev nF:qb:=vB 8 3
noncomputable abbrev nw:ku:=Li [Lg "self",Lg "number",Lg "character",Lg "value",Lh "side_of"] []
abbrev fu:qb:=vB 8 6
noncomputable abbrev e_:ku:=Li [Lg "self",Lg "character",Lg "no",Lg "yes",Lg "first",Lg "without",Lg "having"] []
abbrev j3:qb:=vB 8 5
noncomputable abbrev jW:ku:=Li [Lg "self",Lg "character",Lg "no",Lg "yes",Lg "choice"] []
abbrev iD:qb:=top 27
noncomputable abbrev iu:ku:=Li [Lg "rows",Lg "key",Lh "number_of_key"] []
abbrev u6:qb:=top 26
noncomputable abbrev uF:ku:=Li [Lg "key",Lg "order",Lg "rows",Lh "Rows",Lh "number_of_key"] []
abbrev nE:qb:=top 29
noncomputable abbrev nv:ku:=Li [Lg "_law_script",Lg "_law_k",Lh "len"] []
abbrev rC:qb:=top 30
noncomputable abbrev qO:ku:=Li [Lg "_law_script",Lg "_law_k",Lg "_law_drawn_here",Lh "_law_cell_at"] []
abbrev rD:qb:=top 31
noncomputable abbrev qP:ku:=Li [Lg "_law_number",Lg "_law_k",Lg "_law_drawn_here"] []
abbrev rh:qb:=top 32
noncomputable abbrev qJ:ku:=Li [Lg "_law_number",Lg "_law_letters",Lg "_law_found",Lg "_law_k",Lg "_law_drawn_here",Lg "_law_word",Lg "_law_at",Lh "range",Lh "_law_drawn",Lh "int",Lh "tuple",Lh "sorted"] []
abbrev rB:qb:=top 33
noncomputable abbrev Nv:ku:=Li [("_law_number",.cell),Lg "_law_words_here",Lh "tuple",Lh "enumerate"] [Lj "_law_number",Lj "_law_words_here",Lj "_law_k",Lj "_law_word"]
abbrev yT:qb:=top 34
noncomputable abbrev yB:ku:=Li [Lg "_law_number",Lg "_law_words_here",Lg "_law_many",Lg "_law_deep",Lg "_law_no",Lg "_law_yes",Lh "_law_names",Lh "_law_key",Lh "_law_drawn"] []
abbrev rA:qb:=top 35
noncomputable abbrev qN:ku:=Li [Lg "_law_number",Lg "_law_many",Lg "_law_found",Lg "_law_k",Lg "_law_at",Lh "range",Lh "_law_drawn",Lh "len",Lh "tuple"] []
abbrev rz:qb:=top 36
noncomputable abbrev Nw:ku:=Li [("_law_number",.cell),Lg "_law_many",Lh "tuple",Lh "range"] [Lj "_law_number",Lj "_law_many",Lj "_law_k"]
abbrev o_:qb:=top 37
noncomputable abbrev Mn:ku:=Li [Lg "_law_many",Lg "_law_found",Lg "_law_k",Lh "range",Lh "sorted"] [Lj "_law_many",Lj "_law_found",Lj "_law_k",Lj "_law_thing"]
abbrev pf:qb:=top 38
noncomputable abbrev oI:ku:=Li [Lg "_law_key_here",Lg "_law_thing",Lh "_law_answer"] []
abbrev u5:qb:=top 39
noncomputable abbrev uE:ku:=Li [Lg "_law_script",Lg "_law_most",Lg "_law_many",Lg "_law_words_here",Lg "_law_key_here",Lh "_law_mixed",Lh "_law_words",Lh "_law_key",Lh "_law_order"] []
abbrev ph:qb:=top 40
noncomputable abbrev M5:ku:=Li [("_law_thing",.cell),("_law_sheet_here",.cell),Lh "range",Lh "len"] [Lj "_law_thing",Lj "_law_sheet_here",Lj "_law_k"]
abbrev jX:qb:=top 41
noncomputable abbrev Mr:ku:=Li [Lg "_law_row"] [Lj "_law_row",Lj "_law_part"]
abbrev B3:qb:=top 42
noncomputable abbrev ND:ku:=Li [Lg "_law_script",Lg "_law_many",Lg "_law_words_here",("_law_key_here",.cell),Lg "_law_order_here",Lg "_law_fold",("_law_sheet_here",.cell),("_law_name",.cell),("_law_answers",.cell),Lg "_law_unlike",Lg "_law_number",Lg "_law_good",Lg "_law_least",Lg "_law_told_one",Lh "_law_made",Lh "folded",Lh "_law_sheet",Lh "_law_mixed",Lh "len",Lh "_law_things",Lh "sorted",Lh "set",Lh "counts",Lh "tuple",Lh "_law_no_truths",Lh "count_name",Lh "isinstance",Lh "bool",Lh "witness"] [Lj "_law_script",Lj "_law_many",Lj "_law_words_here",Lj "_law_key_here",Lj "_law_order_here",Lj "_law_fold",Lj "_law_sheet_here",Lj "_law_name",Lj "_law_thing",Lj "_law_answers",Lj "_law_unlike",Lj "_law_names_here",Lj "_law_number",Lj "_law_good",Lj "_law_least",Lj "_law_told_one"]
set_option hygiene false in
local macro_rules|`(tactic|and_intros)=>`(tactic|(have hu:=aX hr;have LY:=aV hr;have Ms:=aW hr;have MR:=hr.gd))
set_option hygiene false in
local macro_rules|`(tactic|nofun)=>`(tactic|exact ⟨rfl,rfl,rfl,by decide,rfl,by decide,by decide⟩)
set_option hygiene false in
local macro_rules|`(tactic|exists $z)=>`(tactic|exact(show ∀ y∈(_:List (Str×NameKind)),y.2=NameKind.free->List.lookup y.1 ($z).names=some NameKind.cell∨List.lookup y.1 ($z).names=some NameKind.free from by decide))
set_option hygiene false in
local macro_rules|`(tactic|exists $z,$n)=>`(tactic|exact(show ∀ t∈(($z):List Nat),List.lookup ((($n):List Str).getD t Str.empty) _=some NameKind.free from by decide))
set_option hygiene false in
local macro_rules|`(tactic|symm)=>`(tactic|exact hr.mono (by omega))
set_option hygiene false in
local macro_rules|`(!$n:num)=>`(aa (i:=$n))
structure Top (K:Ll) (mg:Lo):Prop where
 Va:bf K mg "asks" B4 ["row"]
 PD:bf K mg "rows_below" lv ["row"]
 Qw:bf K mg "place_of" pc ["row","order"]
 Rh:bf K mg "side_of" rn ["rows","number","character","value"]
 Of:bf K mg "leave_row" nB ["rows","number","left"]
 OO:bf K mg "rows_as_left" i5 ["rows","top"]
 OP:bf K mg "with_numbers" i4 ["row","numbers"]
 O9:bf K mg "blank_sheet" j1 ["many"]
 PF:bf K mg "with_value" lm ["sheet","character","value"]
 PH:bf K mg "unknown_in" lu ["sheet"]
 NZ:bf K mg "things_agreeing" fR ["sheet"]
 Ri:bf K mg "ways_on" rm ["row","sheet"]
 Ow:bf K mg "things_coming" iC ["fold","sheet"]
 O_:bf K mg "leaves_with" jY ["fold","name"]
 Qx:bf K mg "count_at" pe ["fold","leaves","sheet"]
 Pa:bf K mg "least_thing" jZ ["fold","leaves","sheet"]
 Rj:bf K mg "counted" rE ["fold","sheet"]
 Sb:bf K mg "counts" u7 ["fold","many"]
 PJ:bf K mg "count_name" lw ["fold","name","sheet"]
 Rk:bf K mg "witness" rj ["fold","name","sheet"]
 Ox:HR K mg "Rows" "Rows.__init__" iE ["self","order"]
 Ob:MethAt K "Rows" "fold_from" "Rows.fold_from" gM ["self","top"]
 M6:MethAt K "Rows" "first_character" "Rows.first_character" dh ["self","character","no","yes"]
 Oc:MethAt K "Rows" "number_of" "Rows.number_of" gL ["self","row"]
 Nk:MethAt K "Rows" "number_of_ask" "Rows.number_of_ask" d_ ["self","character","no","yes"]
 P_:MethAt K "Rows" "side" "Rows.side" nF ["self","number","character","value"]
 NO:MethAt K "Rows" "choose_anew" "Rows.choose_anew" fu ["self","character","no","yes"]
 NF:MethAt K "Rows" "choose" "Rows.choose" j3 ["self","character","no","yes"]
 M8:bf K mg "number_of_key" iD ["rows","key"]
 Sd:bf K mg "folded" u6 ["key","order"]
 Qa:bf K mg "_law_cell_at" nE ["_law_script","_law_k"]
 Rm:bf K mg "_law_mixed" rC ["_law_script","_law_k"]
 Rn:bf K mg "_law_drawn" rD ["_law_number","_law_k"]
 Ro:bf K mg "_law_words" rh ["_law_number"]
 Rp:bf K mg "_law_names" rB ["_law_number","_law_words_here"]
 QQ:bf K mg "_law_key" yT ["_law_number","_law_words_here","_law_many","_law_deep"]
 Rq:bf K mg "_law_order" rA ["_law_number","_law_many"]
 Rr:bf K mg "_law_sheet" rz ["_law_number","_law_many"]
 Qy:bf K mg "_law_things" o_ ["_law_many"]
 OQ:bf K mg "_law_answer" pf ["_law_key_here","_law_thing"]
 Se:bf K mg "_law_made" u5 ["_law_script","_law_most"]
 Qz:bf K mg "_law_agrees" ph ["_law_thing","_law_sheet_here"]
 Pb:bf K mg "_law_no_truths" jX ["_law_row"]
 W9:bf K mg "law" B3 ["_law_script"]
 Nl:mg "len"=a4
 Vb:mg "list"=a4
 MK:mg "range"=a4
 ML:mg "tuple"=a4
 MM:mg "enumerate"=a4
 W_:mg "sum"=a4
 Xa:mg "zip"=a4
 N0:mg "sorted"=a4
 Xb:mg "min"=a4
 Xc:mg "int"=a4
 N1:mg "isinstance"=a4
 Sf:mg "bool"=a4
 Xd:mg "set"=a4
 Mz:nU K "Rows" "order"
 LS:nU K "Rows" "gathered"
 Mi:nU K "Rows" "numbers"
 Mj:nU K "Rows" "choices"
section
variable {P:e8}{w:hL}{K:Ll}{mg:Lo}{base:ja}
theorem DL:aq B4=BF:=rfl
theorem QR:Lw ["row"] ["row"] BF:=by nofun
theorem gU (T:Top K mg):M7 P w K mg base 1 "asks" ["row"] fK:=
 aT T.Va DL QR (λf LU A outer s H E hr=>by
 rw[2];have nd:=QR.nd
 exact(au (aJ (o7 (fT hu) (bE gC T.Nl fG (ae (!0) aj)) ar))))
theorem qw:aq lv=kT:=rfl
theorem NG:Lw ["row"] ["row"] kT:=by nofun
theorem jq (T:Top K mg):M7 P w K mg base 2 "rows_below" ["row"] cD:=
 aT T.PD qw NG (λf LU A outer s H E hr=>by
 rw[2];have nd:=NG.nd
 exact(au (aJ (hU (gg (aD (gU T) #[6] (ae (!0) aj))) (u3 Wb (!0) ar TC) (dg aj)))))
theorem uA:aq pc=oH:=rfl
theorem Og:Lw ["row","order"] ["row","order"] oH:=by nofun
theorem ur (T:Top K mg):M7 P w K mg base 2 "place_of" ["row","order"] kO:=
 aT T.Qw uA Og (λf LU A outer s H E hr=>by
 rw[2];have nd:=Og.nd
 exact(au (aJ (hU (gg (aD (gU T) #[6] (ae (!0) aj))) (rO rfl (!1) (aU LY (!0) ar)) (bE gC T.Nl fG (ae (!1) aj))))))
theorem wP:aq rn=qM:=rfl
theorem OR:Lw ["rows","number","character","value","row"] ["rows","number","character","value"] qM:=by nofun
theorem wf (T:Top K mg):M7 P w K mg base 1 "side_of" ["rows","number","character","value"] m_:=
 aT T.Rh wP OR (λf LU A outer s H E hr=>by
 rw[2];have nd:=OR.nd
 exact(ao (aN (i:=4) nd (yS (!0) (!1)))
  (au (aJ (hU (bL (fT hu) (aU LY (!4) ar) (!2)) (aU LY (!4) (aF bd ar (!3))) (!1))))))
theorem sO:aq nB=nu:=rfl
theorem N2:Lw ["rows","number","left","below"] ["rows","number","left"] nu:=by nofun
theorem j9 (T:Top K mg):∀ n:Nat,M7 P w K mg base (n+2) "leave_row" ["rows","number","left"] (bp n)
 | 0=>lV T.Of
 |n+1=>by
  have N3:=j9 T n
  exact aT T.Of sO N2 (λf LU A outer s H E hr=>by
   rw[2];have nd:=N2.nd
   exact(ao (gm H5 rfl (cQ (aD (jq T) #[6] (ae (yS (!0) (!1)) aj))) (aK (i:=3) nd) (au (gJ (Aq hu LY Ms (!3) (!2)) (au (tm (aD N3 #[6] (ae (!0) (ae (!3) (ae (!2) aj)))))) cA)))
    (au (xh LY (!2) (!1) rf))))
theorem nW:aq i5=iT:=rfl
theorem M9:Lw ["rows","top","left"] ["rows","top"] iT:=by nofun
theorem mZ (T:Top K mg):M7 P w K mg base 13 "rows_as_left" ["rows","top"] fJ:=
 aT T.OO nW M9 (λf LU A outer s H E hr=>by
 rw[2];have nd:=M9.nd
 exact(ao (aN (i:=2) nd tJ)
  (ao (tm (aD (j9 T 10) #[6] (ae (!0) (ae (!1) (ae (!2) aj)))))
  (au (aJ (u4 LY T.Vb (!2)))))))
theorem nV:aq i4=iS:=rfl
theorem M_:Lw ["row","numbers"] ["row","numbers"] iS:=by nofun
theorem mY (T:Top K mg):M7 P w K mg base 2 "with_numbers" ["row","numbers"] fH:=
 aT T.OP nV M_ (λf LU A outer s H E hr=>by
 rw[2];have nd:=M_.nd
 exact(au (aJ (hU (gg (aD (gU T) #[6] (ae (!0) aj))) (dg (ae (aU LY (!0) ar) (ae (aU LY (!1) (aU LY (!0) ar)) (ae (aU LY (!1) (aU LY (!0) ar)) aj)))) (!0)))))
theorem oE:aq j1=Mp:=rfl
theorem Nm:Lw ["many"] ["many"] Mp:=by nofun
theorem n_ (T:Top K mg):M7 P w K mg base 1 "blank_sheet" ["many"] gG:=
 aT T.O9 oE Nm (λf LU A outer s H E hr=>by
 rw[2];have nd:=Nm.nd
 exact(au (aJ (cB jn T.ML eL (ae (bW (ts:=["character"]) (ix:=[]) rfl ⟨rfl,#[4],#[4],by exists Mp⟩ (by exists [],["many"]) (dP rfl T.MK (ae (!0) aj)) (λ_ _ _ _ _=>⟨(aK (i:=0) (show (["character"]:ak el).Nodup from #[4])),df,i0⟩)) aj)))))
theorem qu:aq lm=kS:=rfl
theorem NH:Lw ["sheet","character","value"] ["sheet","character","value"] kS:=by nofun
theorem jo (T:Top K mg):M7 P w K mg base 1 "with_value" ["sheet","character","value"] dF:=
 aT T.PF qu NH (λf LU A outer s H E hr=>by
 rw[2];have nd:=NH.nd
 exact(au (aJ (aF bd (aF bd (u3 Wb (!0) TC (!1)) (dg (ae (!2) aj))) (u3 Wb (!0) (aF bd (!1) ar) TC)))))
theorem qv:aq lu=My:=rfl
theorem NI:Lw ["sheet"] ["sheet"] My:=by nofun
theorem jp (T:Top K mg):M7 P w K mg base 1 "unknown_in" ["sheet"] dG:=
 aT T.PH qv NI (λf LU A outer s H E hr=>by
 rw[2];have nd:=NI.nd
 exact(au (aJ (bW (ts:=["character","value"]) (ix:=[]) rfl ⟨rfl,#[4],#[4],by exists My⟩ (by exists [],["sheet"]) (oj rfl T.MM (ae (!0) aj)) (λ_ _ _ _ _=>⟨(kn rfl (bu (aK (i:=0) (show (["character","value"]:ak el).Nodup from #[4])) (bu (aK (i:=1) (show (["character","value"]:ak el).Nodup from #[4])) g_))),(g9 (bL FS (!1) i0)),(!0)⟩)))))
theorem ki:aq fR=fP:=rfl
theorem MF:Lw ["sheet","things","character"] ["sheet"] fP:=by nofun
theorem jU (T:Top K mg):M7 P w K mg base 2 "things_agreeing" ["sheet"] dH:=
 aT T.NZ ki MF (λf LU A outer s H E hr=>by
 rw[2];have nd:=MF.nd
 exact(ao (aN (i:=1) nd ar)
  (ao (gm H5 rfl (cQ (aD (jp T) #[6] (ae (!0) aj))) (aK (i:=2) nd) (au (D7 (n:=1) nd ar)))
  (au (aJ (!1))))))
theorem wO:aq rm=qL:=rfl
theorem OS:Lw ["row","sheet","value"] ["row","sheet"] qL:=by nofun
theorem we (T:Top K mg):M7 P w K mg base 3 "ways_on" ["row","sheet"] m9:=
 aT T.Ri wO OS (λf LU A outer s H E hr=>by
 rw[2];have nd:=OS.nd
 exact(ao (aN (i:=2) nd (hU (gg (aD (gU T) #[6] (ae (!0) aj))) (aU LY (!1) (aU LY (!0) ar)) i0))
  (au (aJ (hU (bL FS (!2) i0) (aD (jq T) #[6] (ae (!0) aj)) (dg (ae (aU LY (!0) (aF bd ar (!2))) aj)))))))
theorem mh:aq iC=Mc:=rfl
theorem MW:Lw ["fold","sheet","coming","number","ways","below"] ["fold","sheet"] Mc:=by nofun
theorem f7 (T:Top K mg):M7 P w K mg base 4 "things_coming" ["fold","sheet"] bt:=
 aT T.Ow mh MW (λf LU A outer s H E hr=>by
 rw[2];have nd:=MW.nd
 exact(ao (uS (ts:=["row"]) (ix:=[]) (i:=2) nd rfl ⟨rfl,#[4],#[4],by exists Mc⟩ (by exists [],["fold","sheet","coming","number","ways","below"]) (cQ (!0)) (λ_ _ _ _ _=>⟨(aK (i:=0) (show (["row"]:ak el).Nodup from #[4])),df,ar⟩))
  (ao (D6 (!2) (yP sT ar) (aD (jU T) #[6] (ae (!1) aj)))
  (ao (gm H5 rfl (Au rfl T.MK (ae (aF xF (bE gC T.Nl fG (ae (!0) aj)) ar) (ae (yP sT ar) (ae (yP sT ar) aj)))) (aK (i:=3) nd) (ao (aN (i:=4) nd (aD (we T) #[6] (ae (aU LY (!0) (!3)) (ae (!1) aj))))
  (au (gm H5 rfl (cQ (!4)) (aK (i:=5) nd) (au (D8 (!2) (!5) (aF jB (tK (!2) (!3)) (bE gC T.Nl fG (ae (!4) aj)))))))))
  (au (aJ (!2)))))))
theorem oB:aq jY=Mq:=rfl
theorem Nn:Lw ["fold","name"] ["fold","name"] Mq:=by nofun
theorem iK (T:Top K mg):M7 P w K mg base 2 "leaves_with" ["fold","name"] cb:=
 aT T.O_ oB Nn (λf LU A outer s H E hr=>by
 rw[2];have nd:=Nn.nd
 exact(au (aJ (bW (ts:=["number","row"]) (ix:=[1]) rfl ⟨rfl,#[4],#[4],by exists Mq⟩ (by exists [1],["fold","name"]) (oj rfl T.MM (ae (!0) aj)) (λ_ _ _ _ _=>⟨(kn rfl (bu (aK (i:=0) (show (["number","row","name"]:ak el).Nodup from #[4])) (bu (aK (i:=1) (show (["number","row","name"]:ak el).Nodup from #[4])) g_))),(g9 (kZ (xf (w_ (gg (aD (gU T) #[6] (ae (!1) aj)))) (s_ (BL hu LY Ms (!2) (aU LY (!1) ar)))))),(!0)⟩)))))
theorem uB:aq pe=M4:=rfl
theorem Oh:Lw ["fold","leaves","sheet","coming"] ["fold","leaves","sheet"] M4:=by nofun
theorem ip (T:Top K mg):M7 P w K mg base 5 "count_at" ["fold","leaves","sheet"] cV:=
 aT T.Qx uB Oh (λf LU A outer s H E hr=>by
 rw[2];have nd:=Oh.nd
 exact(ao (aN (i:=3) nd (rc (aD (f7 T) #[6] (ae (!0) (ae (!2) aj)))))
  (au (aJ (bE (Hv rfl) T.W_ HG (ae (bW (ts:=["number"]) (ix:=[3]) rfl ⟨rfl,#[4],#[4],by exists M4⟩ (by exists [3],["fold","leaves","sheet","coming"]) (cQ (!1)) (λ_ _ _ _ _=>⟨(aK (i:=0) (show (["number","coming"]:ak el).Nodup from #[4])),df,(aU LY (!1) (!0))⟩)) aj))))))
theorem oC:aq jZ=jV:=rfl
theorem Np:Lw ["fold","leaves","sheet","thing","character","without"] ["fold","leaves","sheet"] jV:=by nofun
theorem n9 (T:Top K mg):M7 P w K mg base 6 "least_thing" ["fold","leaves","sheet"] gF:=
 aT T.Pa oC Np (λf LU A outer s H E hr=>by
 rw[2];have nd:=Np.nd
 exact(ao (gJ (bL (fT hu) (aD (ip T) #[6] (ae (!0) (ae (!1) (ae (!2) aj)))) ar) (au (aJ i0)) cA)
  (ao (aN (i:=3) nd (!2))
  (ao (gm H5 rfl (cQ (aD (jp T) #[6] (ae (!2) aj))) (aK (i:=4) nd) (ao (aN (i:=5) nd (aD (jo T) #[6] (ae (!3) (ae (!4) (ae ar aj)))))
  (au (aN (i:=3) nd (hU (bL FU (aD (ip T) #[6] (ae (!0) (ae (!1) (ae (!5) aj)))) ar) (!5) (aD (jo T) #[6] (ae (!3) (ae (!4) (ae ar aj)))))))))
  (au (aJ (!3)))))))
theorem wV:aq rE=Nu:=rfl
theorem OT:Lw ["fold","sheet"] ["fold","sheet"] Nu:=by nofun
theorem wn (T:Top K mg):M7 P w K mg base 5 "counted" ["fold","sheet"] nr:=
 aT T.Rj wV OT (λf LU A outer s H E hr=>by
 rw[2];have nd:=OT.nd
 exact(au (aJ (bW (ts:=["row","coming"]) (ix:=[]) rfl ⟨rfl,#[4],#[4],by exists Nu⟩ (by exists [],["fold","sheet"]) (Gk rfl T.Xa (ae (!0) (ae (rc (aD (f7 T) #[6] (ae (!0) (ae (!1) aj)))) aj))) (λ_ _ _ _ _=>⟨(kn rfl (bu (aK (i:=0) (show (["row","coming"]:ak el).Nodup from #[4])) (bu (aK (i:=1) (show (["row","coming"]:ak el).Nodup from #[4])) g_))),(g9 (w_ (gg (aD (gU T) #[6] (ae (!0) aj))))),(dg (ae (aU LY (!0) ar) (ae (!1) aj)))⟩)))))
theorem Al:aq u7=uG:=rfl
theorem Ph:Lw ["fold","many"] ["fold","many"] uG:=by nofun
theorem qe (T:Top K mg):M7 P w K mg base 6 "counts" ["fold","many"] mf:=
 aT T.Sb Al Ph (λf LU A outer s H E hr=>by
 rw[2];have nd:=Ph.nd
 exact(au (aJ (cB jn T.ML eL (ae (bE (Dr hu) T.N0 gW (ae (aD (wn T) #[6] (ae (!0) (ae (aD (n_ T) #[6] (ae (!1) aj)) aj))) aj)) aj)))))
theorem qx:aq lw=kU:=rfl
theorem NJ:Lw ["fold","name","sheet"] ["fold","name","sheet"] kU:=by nofun
theorem qg (T:Top K mg):M7 P w K mg base 6 "count_name" ["fold","name","sheet"] dI:=
 aT T.PJ qx NJ (λf LU A outer s H E hr=>by
 rw[2];have nd:=NJ.nd
 exact(au (aJ (aD (ip T) #[6] (ae (!0) (ae (aD (iK T) #[6] (ae (!0) (ae (!1) aj))) (ae (!2) aj)))))))
theorem wN:aq rj=qK:=rfl
theorem OU:Lw ["fold","name","sheet"] ["fold","name","sheet"] qK:=by nofun
theorem wc (T:Top K mg):M7 P w K mg base 7 "witness" ["fold","name","sheet"] g6:=
 aT T.Rk wN OU (λf LU A outer s H E hr=>by
 rw[2];have nd:=OU.nd
 exact(au (aJ (aD (n9 T) #[6] (ae (!0) (ae (aD (iK T) #[6] (ae (!0) (ae (!1) aj))) (ae (!2) aj)))))))
theorem ml:aq iE=iw:=rfl
theorem MX:Lw ["self","order"] ["self","order"] iw:=by nofun
theorem lZ (T:Top K mg):HX P w K mg base 1 "Rows" ["self","order"] b9:=
 Fr T.Ox ml MX (λf LU A outer s H E hr=>by
 rw[2];have nd:=MX.nd
 exact(ao (tj T.Mz (!0) (!1))
  (ao (tj T.LS (!0) Ec)
  (ao (tj T.Mi (!0) yR)
  (au (tj T.Mj (!0) yR))))))
theorem kR:aq gM=L8:=rfl
theorem MN:Lw ["self","top","left","numbers","place","number"] ["self","top"] L8:=by nofun
theorem kL (T:Top K mg):qt P w K mg base 14 "Rows" "fold_from" ["self","top"] dW:=
 ir T.Ob kR MN (λf LU A outer s H E hr=>by
 rw[2];have nd:=MN.nd
 exact(ao (aN (i:=2) nd (aD (mZ T) #[6] (ae (cS T.LS (!0)) (ae (!1) aj))))
  (ao (aN (i:=3) nd tJ)
  (ao (gm H5 rfl (BU rfl T.MM (ae (!2) aj)) (kn rfl (bu (aK (i:=4) nd) (bu (aK (i:=5) nd) g_))) (au (xh LY (!3) (!5) (!4))))
  (au (aJ (cB jn T.ML eL (ae (bW (ts:=["number"]) (ix:=[3,0]) rfl ⟨rfl,#[4],#[4],by exists L8⟩ (by exists [3,0],["self","top","left","numbers","place","number"]) (cQ (!2)) (λ_ _ _ _ _=>⟨(aK (i:=0) (show (["number","numbers","self"]:ak el).Nodup from #[4])),df,(aD (mY T) #[6] (ae (tK (cS T.LS (!2)) (!0)) (ae (!1) aj)))⟩)) aj))))))))
theorem gH:aq dh=LV:=rfl
theorem Me:Lw ["self","character","no","yes","places"] ["self","character","no","yes"] LV:=by nofun
theorem gD (T:Top K mg):qt P w K mg base 3 "Rows" "first_character" ["self","character","no","yes"] bZ:=
 ir T.M6 gH Me (λf LU A outer s H E hr=>by
 rw[2];have nd:=Me.nd
 exact(ao (oV (ts:=["number"]) (ix:=[0]) (i:=4) nd rfl ⟨rfl,#[4],#[4],by exists LV⟩ (by exists [0],["self","character","no","yes","places"]) (cQ (dg (ae (!2) (ae (!3) aj)))) (λ_ _ _ _ _=>⟨(aK (i:=0) (show (["number","self"]:ak el).Nodup from #[4])),df,(aD (ur T) #[6] (ae (tK (cS T.LS (!1)) (!0)) (ae (cS T.Mz (!1)) aj)))⟩))
  (au (aJ (aU LY (cS T.Mz (!0)) (bE (Fq rfl) T.Xb HJ (ae (aF bd (!4) (mI (ae (rO rfl (cS T.Mz (!0)) (!1)) aj))) aj)))))))
theorem kQ:aq gL=gI:=rfl
theorem MP:Lw ["self","row"] ["self","row"] gI:=by nofun
theorem fD (T:Top K mg):qt P w K mg base 1 "Rows" "number_of" ["self","row"] bS:=
 ir T.Oc kQ MP (λf LU A outer s H E hr=>by
 rw[2];have nd:=MP.nd
 exact(ao (gJ (qT hu (!1) (cS T.Mi (!0))) (ao (yN hu (cS T.Mi (!0)) (!1) (Ee T.Nl (cS T.LS (!0))))
  (au (tm (Gs rfl (cS T.LS (!0)) (!1))))) cA)
  (au (aJ (yQ hu (cS T.Mi (!0)) (!1))))))
theorem iN:aq d_=d8:=rfl
theorem Mm:Lw ["self","character","no","yes"] ["self","character","no","yes"] d8:=by nofun
theorem dA (T:Top K mg):qt P w K mg base 2 "Rows" "number_of_ask" ["self","character","no","yes"] bK:=
 ir T.Nk iN Mm (λf LU A outer s H E hr=>by
 rw[2];have nd:=Mm.nd
 exact(au (aJ (hU (bL (fT hu) (!2) (!3)) (!2) (bO (fD T) #[6] (!0) (ae (dg (ae (!1) (ae (!2) (ae (!3) aj)))) aj))))))
theorem sQ:aq nF=nw:=rfl
theorem N4:Lw ["self","number","character","value"] ["self","number","character","value"] nw:=by nofun
theorem b_ (T:Top K mg):qt P w K mg base 2 "Rows" "side" ["self","number","character","value"] bV:=
 ir T.P_ sQ N4 (λf LU A outer s H E hr=>by
 rw[2];have nd:=N4.nd
 exact(au (aJ (aD (wf T) #[6] (ae (cS T.LS (!0)) (ae (!1) (ae (!2) (ae (!3) aj))))))))
theorem jQ:aq fu=e_:=rfl
theorem Mw:Lw ["self","character","no","yes","first","without","having"] ["self","character","no","yes"] e_:=by nofun
theorem jr (T:Top K mg){n:Nat}{rec:Lp}(N3:qt P w K mg base (n*2+3) "Rows" "choose" ["self","character","no","yes"] rec):qt P w K mg base (n*2+4) "Rows" "choose_anew" ["self","character","no","yes"] (cX rec):=by
 rw[show n*2+4=(n*2+3)+1 from #[1]]
 exact ir T.NO jQ Mw (λf LU A outer s H E hr=>by
 rw[2];have nd:=Mw.nd
 exact(ao (aN (i:=4) nd (bO (gD T) #[6] (!0) (ae (!1) (ae (!2) (ae (!3) aj)))))
  (ao (gJ (bL (fT hu) (!4) (!1)) (au (aJ (bO (dA T) #[6] (!0) (ae (!1) (ae (bO (b_ T) #[6] (!0) (ae (!2) (ae (!1) (ae ar aj)))) (ae (bO (b_ T) #[6] (!0) (ae (!3) (ae (!1) (ae ar aj)))) aj)))))) cA)
  (ao (aN (i:=5) nd (bO N3 #[6] (!0) (ae (!1) (ae (bO (b_ T) #[6] (!0) (ae (!2) (ae (!4) (ae ar aj)))) (ae (bO (b_ T) #[6] (!0) (ae (!3) (ae (!4) (ae ar aj)))) aj)))))
  (ao (aN (i:=6) nd (bO N3 #[6] (!0) (ae (!1) (ae (bO (b_ T) #[6] (!0) (ae (!2) (ae (!4) (ae ar aj)))) (ae (bO (b_ T) #[6] (!0) (ae (!3) (ae (!4) (ae ar aj)))) aj)))))
  (au (aJ (bO (dA T) #[6] (!0) (ae (!4) (ae (!5) (ae (!6) aj)))))))))))
theorem oF:aq j3=jW:=rfl
theorem Nq:Lw ["self","character","no","yes","choice"] ["self","character","no","yes"] jW:=by nofun
theorem iL (T:Top K mg):∀ n:Nat,qt P w K mg base (n*2+3) "Rows" "choose" ["self","character","no","yes"] (d5 n)
 | 0=>Bw T.NF
 |n+1=>by
  have N3:=iL T n;rw[show (n+1)*2+3=(n*2+4)+1 from #[1]]
  exact ir T.NF oF Nq (λf LU A outer s H E hr=>by
   rw[2];have nd:=Nq.nd
   exact(ao (aN (i:=4) nd (dg (ae (!1) (ae (!2) (ae (!3) aj)))))
    (ao (gJ (qT hu (!4) (cS T.Mj (!0))) (au (yN hu (cS T.Mj (!0)) (!4) (hU (bL (fT hu) (!2) (!3)) (!2) (bO (jr T N3) #[6] (!0) (ae (!1) (ae (!2) (ae (!3) aj))))))) cA)
    (au (aJ (yQ hu (cS T.Mj (!0)) (!4)))))))
theorem mj:aq iD=iu:=rfl
theorem MY:Lw ["rows","key"] ["rows","key"] iu:=by nofun
theorem f8 (T:Top K mg):∀ n:Nat,M7 P w K mg base (n+21) "number_of_key" ["rows","key"] (cP n)
 | 0=>lV T.M8
 |n+1=>by
  have N3:=f8 T n
  exact aT T.M8 mj MY (λf LU A outer s H E hr=>by
   rw[2];have nd:=MY.nd
   exact(ao (gJ (bL (fT hu) (aU LY (!1) ar) ko) (au (aJ (bO (fD T) #[6] (!0) (ae (!1) aj)))) cA)
    (au (aJ (bO (iL T 9) #[6] (!0) (ae (aU LY (!1) ar) (ae (aD N3 #[6] (ae (!0) (ae (aU LY (!1) ar) aj))) (ae (aD N3 #[6] (ae (!0) (ae (aU LY (!1) ar) aj))) aj))))))))
theorem Ak:aq u6=uF:=rfl
theorem Pj:Lw ["key","order","rows"] ["key","order"] uF:=by nofun
theorem yn (T:Top K mg):M7 P w K mg base 37 "folded" ["key","order"] me:=
 aT T.Sd Ak Pj (λf LU A outer s H E hr=>by
 rw[2];have nd:=Pj.nd
 exact(ao (aN (i:=2) nd (Ed (lZ T) #[6] (ae (!1) aj)))
  (au (aJ (bO (kL T) #[6] (!2) (ae (aD (f8 T 15) #[6] (ae (!2) (ae (!0) aj))) aj))))))
theorem sP:aq nE=nv:=rfl
theorem N5:Lw ["_law_script","_law_k"] ["_law_script","_law_k"] nv:=by nofun
theorem qI (T:Top K mg):M7 P w K mg base 1 "_law_cell_at" ["_law_script","_law_k"] ju:=
 aT T.Qa sP N5 (λf LU A outer s H E hr=>by
 rw[2];have nd:=N5.nd
 exact(ao (gJ (bL IJ (!1) (bE gC T.Nl fG (ae (!0) aj))) (au (aJ (aU LY (!0) (!1)))) cA)
  (au (aJ ar))))
theorem wT:aq rC=qO:=rfl
theorem OV:Lw ["_law_script","_law_k","_law_drawn_here"] ["_law_script","_law_k"] qO:=by nofun
theorem cw (T:Top K mg):M7 P w K mg base 2 "_law_mixed" ["_law_script","_law_k"] aZ:=
 aT T.Rm wT OV (λf LU A outer s H E hr=>by
 rw[2];have nd:=OV.nd
 exact(ao (aN (i:=2) nd (aF cF (aF eN (aF bd (aF bd (aD (qI T) #[6] (ae (!0) (ae (!1) aj))) (aF eN ar (!1))) ar) ar) ar))
  (au (aJ (aF cF (aF bd (aF bd (aF eN (!2) (!2)) (aF eN ar (!2))) (!1)) ar)))))
theorem wU:aq rD=qP:=rfl
theorem OW:Lw ["_law_number","_law_k","_law_drawn_here"] ["_law_number","_law_k"] qP:=by nofun
theorem eD (T:Top K mg):M7 P w K mg base 1 "_law_drawn" ["_law_number","_law_k"] dU:=
 aT T.Rn wU OW (λf LU A outer s H E hr=>by
 rw[2];have nd:=OW.nd
 exact(ao (aN (i:=2) nd (aF cF (aF eN (aF bd (aF bd (!0) (aF eN ar (!1))) ar) ar) ar))
  (au (aJ (aF cF (aF bd (aF bd (aF eN (!2) (!2)) (aF eN ar (!2))) (!1)) ar)))))
theorem wM:aq rh=qJ:=rfl
theorem OX:Lw ["_law_number","_law_letters","_law_found","_law_k","_law_drawn_here","_law_word","_law_at"] ["_law_number"] qJ:=by nofun
theorem wb (T:Top K mg):M7 P w K mg base 2 "_law_words" ["_law_number"] m8:=
 aT T.Ro wM OX (λf LU A outer s H E hr=>by
 rw[2];have nd:=OX.nd
 exact(ao (aN (i:=1) nd ko)
  (ao (aN (i:=2) nd tJ)
  (ao (gm H5 rfl (dP rfl T.MK (ae ar aj)) (aK (i:=3) nd) (ao (aN (i:=4) nd (aD (eD T) #[6] (ae (!0) (ae (!3) aj))))
  (ao (aN (i:=5) nd (aU LY (!1) (aF cF (!4) ar)))
  (ao (gm H5 rfl (dP rfl T.MK (ae (aF eN (aF cF (aF jB (!4) ar) ar) (aF cF (!0) ar)) aj)) (aK (i:=6) nd) (au (aN (i:=5) nd (aF bd (!5) (aU LY (!1) (aF cF (aF jB (!4) (aF bd (aF eN ar (!6)) ar)) ar))))))
  (au (xh LY (!2) (aF bd (!5) (aF eN ko (cB Hw T.Xc HK (ae (Gq hu LY Ms (!5) (kr (.tup (.cons (.str ⟨#[4],#[4]⟩) (.cons (.str ⟨#[4],#[4]⟩) (.cons (.str ⟨#[4],#[4]⟩) .nil))) #[2]))) aj)))) rf))))))
  (au (aJ (cB jn T.ML eL (ae (Eb rfl rfl T.N0 (!2)) aj))))))))
theorem wS:aq rB=Nv:=rfl
theorem OY:Lw ["_law_number","_law_words_here"] ["_law_number","_law_words_here"] Nv:=by nofun
theorem wm (T:Top K mg):M7 P w K mg base 1 "_law_names" ["_law_number","_law_words_here"] nk:=
 aT T.Rp wS OY (λf LU A outer s H E hr=>by
 rw[2];have nd:=OY.nd
 exact(au (aJ (cB jn T.ML eL (ae (bW (ts:=["_law_k","_law_word"]) (ix:=[0]) rfl ⟨rfl,#[4],#[4],by exists Nv⟩ (by exists [0],["_law_number","_law_words_here"]) (oj rfl T.MM (ae (!1) aj)) (λ_ _ _ _ _=>⟨(kn rfl (bu (aK (i:=0) (show (["_law_k","_law_word","_law_number"]:ak el).Nodup from #[4])) (bu (aK (i:=1) (show (["_law_k","_law_word","_law_number"]:ak el).Nodup from #[4])) g_))),(g9 (bL (fT hu) (aF cF (aF jB (!2) (aF bd (aF eN ar (!0)) ar)) ar) ar)),(!1)⟩)) aj)))))
theorem BC:aq yT=yB:=rfl
theorem Qb:Lw ["_law_number","_law_words_here","_law_many","_law_deep","_law_no","_law_yes"] ["_law_number","_law_words_here","_law_many","_law_deep"] yB:=by nofun
theorem sJ (T:Top K mg):∀ n:Nat,M7 P w K mg base (n+1) "_law_key" ["_law_number","_law_words_here","_law_many","_law_deep"] (l_ n)
 | 0=>lV T.QQ
 |n+1=>by
  have N3:=sJ T n
  exact aT T.QQ BC Qb (λf LU A outer s H E hr=>by
   rw[2];have nd:=Qb.nd
   exact(ao (gJ (kZ (FI (bL (fT hu) (!3) ar) (BN (bL (fT hu) (aF cF (!0) ar) ar)))) (au (aJ (dg (ae ko (ae (aD (wm T) #[6] (ae (aF jB (!0) ar) (ae (!1) aj))) aj))))) cA)
    (ao (aN (i:=4) nd (aD N3 #[6] (ae (aD (eD T) #[6] (ae (!0) (ae ar aj))) (ae (!1) (ae (!2) (ae (aF xF (!3) ar) aj))))))
    (ao (aN (i:=5) nd (aD N3 #[6] (ae (aD (eD T) #[6] (ae (!0) (ae ar aj))) (ae (!1) (ae (!2) (ae (aF xF (!3) ar) aj))))))
    (au (aJ (dg (ae ko (ae (aF cF (aF jB (!0) ar) (!2)) (ae (!4) (ae (!5) aj)))))))))))
theorem wR:aq rA=qN:=rfl
theorem OZ:Lw ["_law_number","_law_many","_law_found","_law_k","_law_at"] ["_law_number","_law_many"] qN:=by nofun
theorem wj (T:Top K mg):M7 P w K mg base 2 "_law_order" ["_law_number","_law_many"] ni:=
 aT T.Rq wR OZ (λf LU A outer s H E hr=>by
 rw[2];have nd:=OZ.nd
 exact(ao (aN (i:=2) nd (mI aj))
  (ao (gm H5 rfl (dP rfl T.MK (ae (!1) aj)) (aK (i:=3) nd) (ao (aN (i:=4) nd (aF cF (aD (eD T) #[6] (ae (!0) (ae (!3) aj))) (aF bd (bE gC T.Nl fG (ae (!2) aj)) ar)))
  (au (aN (i:=2) nd (aF bd (aF bd (u3 Wb (!2) TC (!4)) (mI (ae (!3) aj))) (u3 Wb (!2) (!4) TC))))))
  (au (aJ (cB jn T.ML eL (ae (!2) aj)))))))
theorem wQ:aq rz=Nw:=rfl
theorem O0:Lw ["_law_number","_law_many"] ["_law_number","_law_many"] Nw:=by nofun
theorem wg (T:Top K mg):M7 P w K mg base 2 "_law_sheet" ["_law_number","_law_many"] nh:=
 aT T.Rr wQ O0 (λf LU A outer s H E hr=>by
 rw[2];have nd:=O0.nd
 exact(au (aJ (cB jn T.ML eL (ae (bW (ts:=["_law_k"]) (ix:=[0]) rfl ⟨rfl,#[4],#[4],by exists Nw⟩ (by exists [0],["_law_number","_law_many"]) (dP rfl T.MK (ae (!1) aj)) (λ_ _ _ _ _=>⟨(aK (i:=0) (show (["_law_k","_law_number"]:ak el).Nodup from #[4])),df,(aU LY (kr (.tup (.cons .LR (.cons .int (.cons .int (.cons .LR .nil)))) #[2])) (aF cF (aD (eD T) #[6] (ae (!1) (ae (!0) aj))) ar))⟩)) aj)))))
theorem uz:aq o_=Mn:=rfl
theorem Oi:Lw ["_law_many","_law_found","_law_k"] ["_law_many"] Mn:=by nofun
theorem lW (T:Top K mg):M7 P w K mg base 1 "_law_things" ["_law_many"] dS:=
 aT T.Qy uz Oi (λf LU A outer s H E hr=>by
 rw[2];have nd:=Oi.nd
 exact(ao (aN (i:=1) nd (kr (.lst (.cons (.tup .nil #[2]) .nil) #[2])))
  (ao (gm H5 rfl (dP rfl T.MK (ae (!0) aj)) (aK (i:=2) nd) (au (aN (i:=1) nd (aF bd (bW (ts:=["_law_thing"]) (ix:=[]) rfl ⟨rfl,#[4],#[4],by exists Mn⟩ (by exists [],["_law_many","_law_found","_law_k"]) (cQ (!1)) (λ_ _ _ _ _=>⟨(aK (i:=0) (show (["_law_thing"]:ak el).Nodup from #[4])),df,(aF bd (!0) (kr (.tup (.cons .int .nil) #[2])))⟩)) (bW (ts:=["_law_thing"]) (ix:=[]) rfl ⟨rfl,#[4],#[4],by exists Mn⟩ (by exists [],["_law_many","_law_found","_law_k"]) (cQ (!1)) (λ_ _ _ _ _=>⟨(aK (i:=0) (show (["_law_thing"]:ak el).Nodup from #[4])),df,(aF bd (!0) (kr (.tup (.cons .int .nil) #[2])))⟩))))))
  (au (aJ (bE (Dq hu) T.N0 gW (ae (!1) aj)))))))
theorem uC:aq pf=oI:=rfl
theorem Oj:Lw ["_law_key_here","_law_thing"] ["_law_key_here","_law_thing"] oI:=by nofun
theorem iq (T:Top K mg):∀ n:Nat,M7 P w K mg base (n+0) "_law_answer" ["_law_key_here","_law_thing"] (cW n)
 | 0=>lV T.OQ
 |n+1=>by
  have N3:=iq T n
  exact aT T.OQ uC Oj (λf LU A outer s H E hr=>by
   rw[2];have nd:=Oj.nd
   exact(ao (gJ (bL (fT hu) (aU LY (!0) ar) ko) (au (aJ (aU LY (!0) ar))) cA)
    (au (aJ (aD N3 #[6] (ae (aU LY (!0) (aF bd ar (aU LY (!1) (aU LY (!0) ar)))) (ae (!1) aj)))))))
theorem Aj:aq u5=uE:=rfl
theorem Pk:Lw ["_law_script","_law_most","_law_many","_law_words_here","_law_key_here"] ["_law_script","_law_most"] uE:=by nofun
theorem ym (T:Top K mg):M7 P w K mg base 10 "_law_made" ["_law_script","_law_most"] l9:=
 aT T.Se Aj Pk (λf LU A outer s H E hr=>by
 rw[2];have nd:=Pk.nd
 exact(ao (aN (i:=2) nd (aF bd ar (aF cF (aD (cw T) #[6] (ae (!0) (ae ar aj))) (!1))))
  (ao (aN (i:=3) nd (aD (wb T) #[6] (ae (aD (cw T) #[6] (ae (!0) (ae ar aj))) aj)))
  (ao (aN (i:=4) nd (aD (sJ T 8) #[6] (ae (aD (cw T) #[6] (ae (!0) (ae ar aj))) (ae (!3) (ae (!2) (ae (aF bd ar (aF cF (aD (cw T) #[6] (ae (!0) (ae ar aj))) ar)) aj))))))
  (au (aJ (dg (ae (!2) (ae (!3) (ae (!4) (ae (aD (wj T) #[6] (ae (aD (cw T) #[6] (ae (!0) (ae ar aj))) (ae (!2) aj))) aj)))))))))))
theorem uD:aq ph=M5:=rfl
theorem Ol:Lw ["_law_thing","_law_sheet_here"] ["_law_thing","_law_sheet_here"] M5:=by nofun
theorem uu (T:Top K mg):M7 P w K mg base 1 "_law_agrees" ["_law_thing","_law_sheet_here"] kP:=
 aT T.Qz uD Ol (λf LU A outer s H E hr=>by
 rw[2];have nd:=Ol.nd
 exact(au (aJ (o7 (fT hu) (bW (ts:=["_law_k"]) (ix:=[1,0]) rfl ⟨rfl,#[4],#[4],by exists M5⟩ (by exists [1,0],["_law_thing","_law_sheet_here"]) (dP rfl T.MK (ae (bE gC T.Nl fG (ae (!1) aj)) aj)) (λ_ _ _ _ _=>⟨(aK (i:=0) (show (["_law_k","_law_sheet_here","_law_thing"]:ak el).Nodup from #[4])),(g9 (kZ (xf (bL Cv (aU LY (!1) (!0)) i0) (s_ (bL (Cu hu) (aU LY (!1) (!0)) (aU LY (!2) (!0))))))),(!0)⟩)) (mI aj)))))
theorem oA:aq jX=Mr:=rfl
theorem Nr:Lw ["_law_row"] ["_law_row"] Mr:=by nofun
theorem iJ (T:Top K mg):M7 P w K mg base 1 "_law_no_truths" ["_law_row"] cL:=
 aT T.Pb oA Nr (λf LU A outer s H E hr=>by
 rw[2];have nd:=Nr.nd
 exact(au (aJ (o7 (fT hu) (bW (ts:=["_law_part"]) (ix:=[]) rfl ⟨rfl,#[4],#[4],by exists Mr⟩ (by exists [],["_law_row"]) (cQ (!0)) (λ_ _ _ _ _=>⟨(aK (i:=0) (show (["_law_part"]:ak el).Nodup from #[4])),(g9 (gg (B2 vM rfl T.N1 T.Sf Ab (!0)))),(!0)⟩)) (mI aj)))))
theorem F5:aq B3=ND:=rfl
theorem Si:Lw ["_law_script","_law_many","_law_words_here","_law_key_here","_law_order_here","_law_fold","_law_sheet_here","_law_name","_law_answers","_law_unlike","_law_good","_law_number","_law_least","_law_told_one"] ["_law_script"] ND:=by nofun
theorem Hl (T:Top K mg){f:bc}{fd:K1}(Fn:QX K "law" "law" B3 f fd):Sr P w K mg base 38 f fd ["_law_script"] DI:=
 pV Fn F5 Si (λ_ LU A outer s H E hr=>by
 rw[2];have nd:=Si.nd
 exact(ao (Gg (aD (ym T) #[6] (ae (!0) (ae ar aj))) (kn rfl (bu (aK (i:=1) nd) (bu (aK (i:=2) nd) (bu (aK (i:=3) nd) (bu (aK (i:=4) nd) g_))))))
  (ao (aN (i:=5) nd (aD (yn T) #[6] (ae (!3) (ae (!4) aj))))
  (ao (aN (i:=6) nd (aD (wg T) #[6] (ae (aD (cw T) #[6] (ae (!0) (ae ar aj))) (ae (!1) aj))))
  (ao (aN (i:=7) nd (aU LY (aF bd (!2) (kr (.tup (.cons (.str ⟨#[4],#[4]⟩) .nil) #[2]))) (aF cF (aD (cw T) #[6] (ae (!0) (ae ar aj))) (aF bd (bE gC T.Nl fG (ae (!2) aj)) ar))))
  (ao (aN (i:=8) nd (bW (ts:=["_law_thing"]) (ix:=[3]) rfl ⟨rfl,#[4],#[4],by exists ND⟩ (by exists [3],["_law_script","_law_many","_law_words_here","_law_key_here","_law_order_here","_law_fold","_law_sheet_here","_law_name","_law_answers","_law_unlike","_law_good","_law_number","_law_least","_law_told_one"]) (cQ (aD (lW T) #[6] (ae (!1) aj))) (λ_ _ _ _ _=>⟨(aK (i:=0) (show (["_law_thing","_law_key_here"]:ak el).Nodup from #[4])),df,(aD (iq T 15) #[6] (ae (!1) (ae (!0) aj)))⟩)))
  (ao (aN (i:=9) nd (uZ rfl rfl rfl hu T.N0 T.Xd (!8)))
  (ao (gJ (bL (Cu hu) (aD (qe T) #[6] (ae (!5) (ae (!1) aj))) (cB jn T.ML eL (ae (bW (ts:=["_law_names_here"]) (ix:=[8]) rfl ⟨rfl,#[4],#[4],by exists ND⟩ (by exists [8],["_law_script","_law_many","_law_words_here","_law_key_here","_law_order_here","_law_fold","_law_sheet_here","_law_name","_law_answers","_law_unlike","_law_good","_law_number","_law_least","_law_told_one"]) (cQ (!9)) (λ_ _ _ _ _=>⟨(aK (i:=0) (show (["_law_names_here","_law_answers"]:ak el).Nodup from #[4])),df,(dg (ae (!0) (ae (AZ hu rfl (!1) (!0)) aj)))⟩)) aj))) (au (aJ rf)) cA)
  (ao (gJ (w_ (gg (aD (iJ T) #[6] (ae (bW (ts:=["_law_names_here","_law_number"]) (ix:=[]) rfl ⟨rfl,#[4],#[4],by exists ND⟩ (by exists [],["_law_script","_law_many","_law_words_here","_law_key_here","_law_order_here","_law_fold","_law_sheet_here","_law_name","_law_answers","_law_unlike","_law_good","_law_number","_law_least","_law_told_one"]) (cQ (aD (qe T) #[6] (ae (!5) (ae (!1) aj)))) (λ_ _ _ _ _=>⟨(kn rfl (bu (aK (i:=0) (show (["_law_names_here","_law_number"]:ak el).Nodup from #[4])) (bu (aK (i:=1) (show (["_law_names_here","_law_number"]:ak el).Nodup from #[4])) g_))),df,(!1)⟩)) aj)))) (au (aJ rf)) cA)
  (ao (oV (ts:=["_law_thing"]) (ix:=[6,7,3]) (i:=10) nd rfl ⟨rfl,#[4],#[4],by exists ND⟩ (by exists [6,7,3],["_law_script","_law_many","_law_words_here","_law_key_here","_law_order_here","_law_fold","_law_sheet_here","_law_name","_law_answers","_law_unlike","_law_good","_law_number","_law_least","_law_told_one"]) (cQ (aD (lW T) #[6] (ae (!1) aj))) (λ_ _ _ _ _=>⟨(aK (i:=0) (show (["_law_thing","_law_sheet_here","_law_name","_law_key_here"]:ak el).Nodup from #[4])),(g9 (kZ (xf (gg (aD (uu T) #[6] (ae (!0) (ae (!1) aj)))) (s_ (BL hu LY Ms (!2) (aD (iq T 15) #[6] (ae (!3) (ae (!0) aj)))))))),(!0)⟩))
  (ao (aN (i:=11) nd (aD (qg T) #[6] (ae (!5) (ae (!7) (ae (!6) aj)))))
  (ao (gJ (kZ (FI (gg (B2 vM rfl T.N1 T.Sf Ab (!11))) (BN (bL (Cu hu) (!11) (bE gC T.Nl fG (ae (!10) aj)))))) (au (aJ rf)) cA)
  (ao (aN (i:=12) nd i0)
  (ao (gJ (bL FU (bE gC T.Nl fG (ae (!10) aj)) ar) (au (aN (i:=12) nd (aU LY (!10) ar))) cA)
  (ao (aN (i:=13) nd (aD (wc T) #[6] (ae (!5) (ae (!7) (ae (!6) aj)))))
  (au (aJ (Gu (o7 (fT hu) (!13) (!12)) (B1 (aD (iJ T) #[6] (ae (Gp (!13) (B1 (dg aj))) aj)))))))))))))))))))))
end
end LJ
namespace LJ
open PySem L2 PyProof.Rows
noncomputable def isLet (c:Nat):eM:=ei (97<=c)&&ei (c<=122)
noncomputable def lets (x:el):eM:=x.cps.toList.all isLet
noncomputable def kept (x:el):eM:=ei (x="names") ||(ei (x="ask") ||ei (x="end"))
noncomputable def eT (x:el):eM:=!kept x&&(ei (1<=x.length)&&(ei (x.length<=8)&&lets x))
noncomputable def KG:D->eM
 | .str x=>eT x
 |_=>a8
abbrev QA:el:="abcdefghijklmnopqrstuvwxyz"
theorem wK:QA.cps.toList.all isLet=a6:=by decide
theorem bn {α:Type}{xs:ak α}{i:Nat}{v : α}(h:xs[i]?=ag v):O3 xs (i:Int)=ag v:=by
 have a:i<xs.length:=(ba.mp h).1;have e:Ry xs.length (i:Int)=ag i:=by unfold Ry;rw[cc #[0],cc #[0]];simp
 unfold O3;rw[e];exact h
end LJ
namespace L2
open PySem PyProof.Rows
theorem xW {K:Type}[wt K]:∀ (l b:ak K),b.Nodup->(l.foldl bq b).Nodup
 |[],b,h=>h
 |a::l,b,h=>by
  rw[Pw];refine xW l _ ?_;unfold bq;split
  ·exact h
  rename_i e;refine Qf.mpr ⟨h,by simp,λx c y d=>?_⟩;rw[gA.mp d];rintro rfl;exact e c
theorem Bg {K:Type}[wt K]:∀ (l b:ak K) (k:K),k∈l.foldl bq b↔k∈b∨k∈l
 |[],b,k=>by simp
 |a::l,b,k=>by
  rw[Pw,Bg l,fx];unfold bq;split
  ·rw[5]
   ·rintro (h |h)
    ·exact .inl h
    exact .inr (.inr h)
   rintro (h |rfl |h)
   ·exact .inl h
   ·left;assumption
   exact .inr h
  simp only[k6,gA];rw[5]
  ·rintro ((h |h) |h)
   ·exact .inl h
   ·exact .inr (.inl h)
   exact .inr (.inr h)
  rintro (h |h |h)
  ·exact .inl (.inl h)
  ·exact .inl (.inr h)
  exact .inr h
theorem EU {a b:el}(h:NW a b=a6):NX a b=a6:=by have c:a.cps.toList<b.cps.toList:=mv h;exact MI.mpr (List.le_of_lt c)
theorem xL (a:el):NW a a=a8:=by unfold NW;exact dV (aea _)
theorem A4 {a b c:el}(h:NW a b=a6)(g:NW b c=a6):NW a c=a6:=by
 unfold NW at *
 exact gx (List.lt_trans (mv h) (mv g))
theorem h9 {a b:el}(h:NX a b=a6)(n:a≠b):NW a b=a6:=by
 cases q:NW a b with
 |true=>rfl
 |false=>exact ib (pL h (by unfold NX;rw[q];rfl)) n
noncomputable def VD:ak el->eM
 |a::b::r=>NW a b&&VD (b::r)
 |_=>a6
theorem lI:∀ {l:ak el},(l.Pairwise λa b=>NW a b=a6)->VD l=a6
 |[],_=>rfl
 |[a],_=>rfl
 |a::b::r,h=>by
  obtain⟨c,d⟩:=X0.mp h;rw[VD,pX];exact⟨c b (eR ..),lI d⟩
theorem EO {i j:Int}(c : -1000000000000<j)(d:j<1000000000000):gP i j=a6:=by unfold gP;have a:ei (-(2 ^ 64)<j)=a6:=gx #[0];have b:ei (j<2 ^ 64)=a6:=gx #[0];rw[a,b];simp
theorem EQ {i j:Int}(c : -1000000000000<i)(d:i<1000000000000):gP i j=a6:=by unfold gP;have a:ei (-(2 ^ 64)<i)=a6:=gx #[0];have b:ei (i<2 ^ 64)=a6:=gx #[0];rw[a,b];simp
theorem vx (i j:Int):c_ (.int i) (.int j)=if gP i j=a6 then ag (.int (i*j)) else a4:=rfl
theorem vt (x:el)(n:Int):c_ (.str x) (.int n)=if -1000<=n/\n<1 then ag (.str ⟨#[]⟩) else if 1<=n/\n<=1000/\x.length<=1000 then ag (.str ⟨(eh n.toNat x.cps.toList).flatten.toArray⟩) else a4:=rfl
theorem CI (i j:Int):ck (.int i) (.int j)=if 0<j then ag (.int (i % j)) else a4:=rfl
theorem Bo (i j:Int):dM (.int i) (.int j)=if 0<j/\j<1073741824 then ag (.int (i / j)) else a4:=rfl
theorem BA (x y:el):bz (.str x) (.str y)=if x.length+y.length<=da then ag (.str (x++y)) else a4:=rfl
theorem jO (x y:ak D):bz (.tup x) (.tup y)=if x.length+y.length<=da then ag (.tup (x++y)) else a4:=rfl
theorem m5 (x y:ak D):bz (.lst x) (.lst y)=if x.length+y.length<=da then ag (.lst (x++y)) else a4:=rfl
theorem Ay (j:Int):dL [.int j]=if -(2 ^ 62)<=j/\j<=16777216 then ag ((ew j.toNat).map λ(k:Nat)=>D.int k) else a4:=rfl
theorem CH {i j:Int}(a : -1000000000000<j)(b:j<1000000000000):c_ (.int i) (.int j)=ag (.int (i*j)):=by rw[vx,cc (EO a b)]
theorem hW {i j:Int}(a : -1000000000000<i)(b:i<1000000000000):c_ (.int i) (.int j)=ag (.int (i*j)):=by rw[vx,cc (EQ a b)]
@[simp] theorem Jp (i j:Int):bz (.int i) (.int j)=ag (.int (i+j)):=rfl
@[simp] theorem Iq (i j:Int):uR (.int i) (.int j)=ag (.int (i-j)):=rfl
theorem bw {i j:Int}(h : 0<j):ck (.int i) (.int j)=ag (.int (i % j)):=by rw[CI,cc h]
theorem jL {i j:Int}(h : 0<j)(a:j<1073741824):dM (.int i) (.int j)=ag (.int (i / j)):=by rw[Bo,cc ⟨h,a⟩]
end L2
namespace LJ
open PySem L2 PyProof.Rows
theorem yj (ns:ak Int)(k:Nat)(S:Lq):ju [.lst (ns.map .int),.int k] S=LB (.int (ns.getD k 0)) S:=by
 rw[3];unfold nM;by_cases h:k<ns.length
 ·have b:((k:Int)<ns.length):=#[1]
  have a:ns[k]?=ag ns[k]:=a7 h;have e:O3 (ns.map D.int) (k:Int)=ag (.int ns[k]):=bn (by rw[dk,a];rfl);simp[cr,Wa,h,Mu,bN,TU,e,RR,a]
 have a:ns[k]?=a4:=abo #[0];simp[cr,Wa,h,RR,a]
noncomputable def mix (ns:ak Int)(k:Nat):Int:=
 let d:=(ns.getD k 0+7919*(k:Int)+1)*48271 % 2147483647
 (d*d+7*d+(k:Int)) % 2147483629
theorem xH (ns:ak Int)(k:Nat) : 0<=mix ns k:=vu _ #[2]
theorem eA (ns:ak Int)(k:Nat)(S:Lq):aZ [.lst (ns.map .int),.int k] S=LB (.int (mix ns k)) S:=by
 rw[3];unfold sj;have a:=yj ns k;have c:∀ x:Int,c_ (.int 7919) (.int x)=ag (.int (7919*x)):=λx=>hW #[2] #[2];have g:∀ x:Int,c_ (.int x) (.int 48271)=ag (.int (x*48271)):=λx=>CH #[2] #[2];have e:∀ x:Int,ck (.int x) (.int 2147483647)=ag (.int (x % 2147483647)):=λx=>bw #[2];have d:∀ x:Int,ck (.int x) (.int 2147483629)=ag (.int (x % 2147483629)):=λx=>bw #[2];have f:∀ x:Int,c_ (.int 7) (.int x)=ag (.int (7*x)):=λx=>hW #[2] #[2];have b:∀ x:Int,c_ (.int (x % 2147483647)) (.int (x % 2147483647))=ag (.int (x % 2147483647*(x % 2147483647))):=λx=>by have h:=vu x (show (2147483647:Int)≠0 by decide);have i:=tq x (show (0:Int)<2147483647 by decide);exact hW #[0] #[0]
 simp[a,c,g,e,d,f,b,mix]
noncomputable def MT (n k:Int):Int:=
 let d:=(n+104729*k+17)*69621 % 2147483647
 (d*d+3*d+k) % 2147483629
theorem kI (n k:Int) : 0<=MT n k:=vu _ #[2]
theorem jm (n k:Int)(S:Lq):dU [.int n,.int k] S=LB (.int (MT n k)) S:=by
 rw[3];unfold sk;have b:∀ x:Int,c_ (.int 104729) (.int x)=ag (.int (104729*x)):=λx=>hW #[2] #[2];have f:∀ x:Int,c_ (.int x) (.int 69621)=ag (.int (x*69621)):=λx=>CH #[2] #[2];have d:∀ x:Int,ck (.int x) (.int 2147483647)=ag (.int (x % 2147483647)):=λx=>bw #[2];have c:∀ x:Int,ck (.int x) (.int 2147483629)=ag (.int (x % 2147483629)):=λx=>bw #[2];have e:∀ x:Int,c_ (.int 3) (.int x)=ag (.int (3*x)):=λx=>hW #[2] #[2];have a:∀ x:Int,c_ (.int (x % 2147483647)) (.int (x % 2147483647))=ag (.int (x % 2147483647*(x % 2147483647))):=λx=>by have g:=vu x (show (2147483647:Int)≠0 by decide);have h:=tq x (show (0:Int)<2147483647 by decide);exact hW #[0] #[0]
 simp[b,f,d,c,e,a,MT]
def Wd (n:Nat)(x:el):Prop:=x.length<=n/\∀ c∈x.cps.toList,c<128
theorem yr (x y:el):(x++y).cps.toList=x.cps.toList++y.cps.toList:=by show (x.cps++y.cps).toList=_;simp
theorem Ae (x y:el):(x++y).length=x.length+y.length:=by show (x.cps++y.cps).size=_;rw[acL];rfl
theorem J4 (i:Int)(h0 : 0<=i)(d:i<26)(S:Lq):∃ x:el,Mu (#[21]) (.int i) S=ag (.str x)/\Wd 1 x:=by
 obtain⟨k,rfl⟩:∃ k:Nat,i=k:=⟨i.toNat,#[1]⟩
 have a:k<QA.cps.toList.length:=by
  have:QA.cps.toList.length=26:=#[4]
  omega
 have e:O3 QA.cps.toList (k:Int)=ag QA.cps.toList[k]:=bn (a7 a);refine⟨⟨#[QA.cps.toList[k]]⟩,?_,e9 _,λc hc=>?_⟩
 ·unfold Mu;rw[cn (by simp[bN])];unfold TU;simp only[e];rfl
 have b:c=QA.cps.toList[k]:=by simpa using hc
 have q:=SV.mp wK QA.cps.toList[k] (Ui a);rw[b];simp only[isLet,pX,x6] at q;omega
theorem u9 (j:Int)(h0 : 0<=j)(a:j<=1000):dL [.int j]=ag ((ew j.toNat).map λ(k:Nat)=>D.int k):=by rw[Ay,cc #[0]]
theorem gN {n j:Nat}{d:D}(h:((ew n).map λ(k:Nat)=>D.int k)[j]?=ag d):d = .int j/\j<n:=by rw[dk] at h;obtain⟨x,c,rfl⟩:=d7.mp h;obtain⟨a,b⟩:=ba.mp c;simp at a b;exact⟨by rw[← b],a⟩
theorem Ix (b:eM):c_ (.str "q") (.int (if b then 1 else 0))=ag (.str (if b then "q" else ⟨#[]⟩)):=by
 cases b
 ·rw[vt,cc #[2]];rfl
 rw[vt,cn #[2],cc ⟨#[4],#[4],#[4]⟩];rfl
noncomputable def SK (d:D)(s:el):eM:=match d with
 | .str y=>ei (y=s)
 |_=>a8
theorem De {d:D}(h:pl d=a6)(s:el):Nb d (.str s)=ag (.bl (SK d s)):=by
 obtain⟨p,e⟩:=yJ h;have c:toPy (.str s)=ag (.str s):=rfl;unfold Nb;rw[e,c];have hd:XP p.depth (UW s).depth<=150:=fg (YJ _ _) (by simp[m4]);simp only[hd,mz];cases d with
 |str y=>rw[toPy] at e;cases e;simp[hH,SK,Fv]
 |tup a=>rw[toPy] at e;obtain⟨b,_,rfl⟩:=d7.mp e;simp[hH,SK]
 |lst a=>rw[toPy] at e;obtain⟨b,_,rfl⟩:=d7.mp e;simp[hH,SK]
 |set _=>simp[pl] at h
 |loc _=>simp[pl] at h
 |fn _ _=>simp[pl] at h
 |_=>rw[toPy] at e;cases e;simp[hH,SK]
theorem Sj (xs:ak D)(a:D)(S:Lq):Mu (.tup (a::xs)) (.int 0) S=ag a:=by unfold Mu;rw[cn (by simp[bN])];exact bn (i:=0) rfl
theorem Tw (xs:ak D)(a b:D)(S:Lq):Mu (.tup (a::b::xs)) (.int 1) S=ag b:=by unfold Mu;rw[cn (by simp[bN])];exact bn (i:=1) rfl
theorem at2 (xs:ak D)(a b c:D)(S:Lq):Mu (.tup (a::b::c::xs)) (.int 2) S=ag c:=by unfold Mu;rw[cn (by simp[bN])];exact bn (i:=2) rfl
theorem at3 (xs:ak D)(a b c d:D)(S:Lq):Mu (.tup (a::b::c::d::xs)) (.int 3) S=ag d:=by unfold Mu;rw[cn (by simp[bN])];exact bn (i:=3) rfl
theorem pI (x:Int){n:Int}(h : 0<n) : 0<=x % n/\x % n<n:=⟨vu x #[0],tq x h⟩
def Wl (n:Nat)(x:el):Prop:=1<=x.length/\x.length<=n/\lets x=a6
theorem CS (x y:el):lets (x++y)=(lets x&&lets y):=by unfold lets;rw[yr,List.all_append]
theorem Wl.app {n m:Nat}{x y:el}(h:Wl n x)(g:Wl m y):Wl (n+m) (x++y):=by obtain⟨a,b,c⟩:=h;obtain⟨f,e,d⟩:=g;refine⟨by rw[Ae];omega,by rw[Ae];omega,by rw[CS,c,d];rfl⟩
theorem zn (i:Int)(h0 : 0<=i)(b:i<26)(S:Lq):∃ x:el,Mu (#[21]) (.int i) S=ag (.str x)/\Wl 1 x:=by
 obtain⟨k,rfl⟩:∃ k:Nat,i=k:=⟨i.toNat,#[1]⟩
 have a:k<QA.cps.toList.length:=by
  have:QA.cps.toList.length=26:=#[4]
  omega
 have e:O3 QA.cps.toList (k:Int)=ag QA.cps.toList[k]:=bn (a7 a);refine⟨⟨#[QA.cps.toList[k]]⟩,?_,e9 _,e9 _,?_⟩
 ·unfold Mu;rw[cn (by simp[bN])];unfold TU;simp only[e];rfl
 have q:=SV.mp wK QA.cps.toList[k] (Ui a);show ([QA.cps.toList[k]]:ak Nat).all isLet=a6;rw[all_cons,q];rfl
theorem DD {n m:Nat}{x y:el}(h:Wl n x)(g:y.length<=m)(b:n+m<=1000):bz (.str x) (.str y)=ag (.str (x++y)):=by have a:=h.2.1;rw[BA,cc (fg (show x.length+y.length<=1000 by omega) #[2])]
theorem HC (n:Int)(l:D)(k b:Int)(a:el)(i:Nat)(S:Lq)(c:Wl (i+1) a)(o:i<=10)(h0 : 0<=b):∃ d:el,Wl (i+2) d /\
  f_ [ag (.int n),ag (#[21]),ag l,ag (.int k),ag (.int b),ag (.str a),ag (.int i)] S=LB (.next [ag (.int n),ag (#[21]),ag l,ag (.int k),ag (.int b),ag (.str d),ag (.int i)]) S:=by
 have f:c_ (.int 31) (.int i)=ag (.int (31*i)):=hW #[2] #[2];have j:dM (.int b) (.int (31*(i:Int)+29))=ag (.int (b / (31*(i:Int)+29))):=jL #[0] #[0];have h:ck (.int (b / (31*(i:Int)+29))) (.int 26)=ag (.int (b / (31*(i:Int)+29) % 26)):=bw #[2];obtain⟨x,m,e⟩:=zn (b / (31*(i:Int)+29) % 26) (vu _ #[2]) (tq _ #[2]) S;have g:=DD c e.2.1 #[0];refine⟨a++x,c.app e,?_⟩;unfold f_;simp[f,j,h,m,g]
theorem J6 (x:el)(S:Lq):RF a8 (.str x) (.tup [.str "names",.str "ask",.str "end"]) S=ag (.bl (kept x)):=by have e:=in3 x "names" "ask" "end";unfold RF;rw[cn (by simp[bN]),cn #[2]];rw[e];unfold kept;simp[eq_comm]
theorem IV {x:el}(h:kept x=a6):eT (x++("q":el))=a6:=by simp only[kept,Zi,x6] at h;rcases h with rfl |rfl |rfl<;>decide
theorem IM {x:el}(h:Wl 8 x):eT (x++(if kept x then ("q":el) else ⟨#[]⟩))=a6:=by
 cases hk:kept x with
 |true=>exact IV hk
 |false =>
  have e:x++(⟨#[]⟩:el)=x:=by show (⟨x.cps++#[]⟩:el)=x;simp
  simp only[gh,la,e];unfold eT;rw[hk,gx h.1,gx h.2.1,h.2.2];rfl
def Pl (n:Nat)(kvs:ak (D×D)):Prop:=kvs.length<=n/\∃ a:ak el,kvs.map (·.1)=a.map .str/\a.Nodup/\∀ x∈a,eT x=a6
theorem Aw (x y:el):ft (.str x) (.str y)=ei (x=y):=by simp[ft,fN]
theorem Pl.put {n:Nat}{kvs:ak (D×D)}{x:el}{v:D}(h:Pl n kvs)(d:eT x=a6):Pl (n+1) (putD kvs (.str x) v):=by
 obtain⟨l,c,e,nd,k⟩:=h;unfold putD;split
 ·refine⟨by rw[dv];omega,c,?_,nd,k⟩;rw[rT,← e];refine Ua λp _=>?_;simp only[aap];split<;>rfl
 rename_i i;refine⟨by rw[cv,T2];omega,c++[x],by simp[e],?_,λy hy=>?_⟩
 ·refine Qf.mpr ⟨nd,by simp,λa j b hb=>?_⟩;rw[gA.mp hb];rintro rfl;apply i;have f:D.str a∈kvs.map (·.1):=by rw[e];exact U7 j
  obtain⟨p,g,q⟩:=q5.mp f;rw[adj];exact⟨p,g,by rw[q,Aw];simp⟩
 rcases k6.mp hy with hy |hy
 ·exact k y hy
 rw[gA.mp hy];exact d
theorem HB (n:Int)(k:Nat)(S:Lq)(kvs:ak (D×D))(b c d:a5 D)(E:Pl k kvs)(hk:k<6):∃ U L d' t,Pl (k+1) t /\
  f9 [ag (.int n),ag (#[21]),ag (#[13]),ag (.int k),b,c,d] (S++[.dict kvs])=LB (.next [ag (.int n),ag (#[21]),ag (#[13]),ag (.int k),U,L,d']) (S++[.dict t]):=by
 have M:=jm n k;have P:=kI n k;have I:ck (.int (MT n k)) (.int 26)=ag (.int (MT n k % 26)):=bw #[2];obtain⟨x,K,Y⟩:=zn (MT n k % 26) (vu _ #[2]) (tq _ #[2]) (S++[.dict kvs]);have O:dM (.int (MT n k)) (.int 26)=ag (.int (MT n k / 26)):=jL #[2] #[2];have J:ck (.int (MT n k / 26)) (.int 8)=ag (.int (MT n k / 26 % 8)):=bw #[2];have X:ck (.int n) (.int 2)=ag (.int (n % 2)):=bw #[2];have Z:=vu (MT n k / 26) (show (8:Int)≠0 by decide);have b2:=tq (MT n k / 26) (show (0:Int)<8 by decide);have b3:=vu n (show (2:Int)≠0 by decide);have b4:=tq n (show (0:Int)<2 by decide);have v:c_ (.int (MT n k / 26 % 8)) (.int (n % 2))=ag (.int (MT n k / 26 % 8*(n % 2))):=hW #[0] #[0]
 have B : 0<=MT n k / 26 % 8*(n % 2)/\MT n k / 26 % 8*(n % 2)<=7:=by
  have:n % 2=0∨n % 2=1:=#[1]
  rcases this with h |h<;>rw[h]<;>omega
 have y:=u9 (MT n k / 26 % 8*(n % 2)) B.1 #[0];generalize MT n k / 26 % 8*(n % 2)=m at v y B
 obtain⟨R,S',V,F⟩:=b7 (u:=aE 6) (body:=f_) (λi G C=>C=S++[.dict kvs]/\i<=7/\∃ (w:el) (z:a5 D),Wl (i+1) w/\G=[ag (.int n),ag (#[21]),ag (#[13]),ag (.int k),ag (.int (MT n k)),ag (.str w),z])
  ((ew m.toNat).map λ(k:Nat)=>D.int k) 0 [ag (.int n),ag (#[21]),ag (#[13]),ag (.int k),ag (.int (MT n k)),ag (.str x),d] (S++[.dict kvs]) ⟨rfl,#[1],x,d,Y,rfl⟩ (by
   rintro j dd G C H ⟨rfl,W,w,z,a,rfl⟩;obtain⟨rfl,Nc⟩:=gN H;simp only[lk] at a W ⊢;obtain⟨N,l,eq⟩:=HC n (#[13]) k (MT n k) w j (S++[.dict kvs]) a #[0] P
   exact⟨_,rfl,_,_,eq,rfl,#[1],N,ag (.int j),l,rfl⟩)
 simp only[lk,dv,mc] at F;obtain⟨rfl,Q,w,z,a,rfl⟩:=F;have e:Wl 8 w:=⟨a.1,by have:=a.2.1;omega,a.2.2⟩;have A:=J6 w (S++[.dict kvs]);have s:=IM e;generalize kept w=bb at A s;have q:=Ix bb;have T:(if bb then ("q":el) else ⟨#[]⟩).length<=1:=by cases bb<;>decide
 have p:=DD e T #[2];have o:(S++[MO.dict kvs])[S.length]?=ag (.dict kvs):=by simp
 have g:kvs.length<da:=i3 (show kvs.length<1000 by have:=E.1;omega) #[2];have f:(S++[MO.dict kvs]).set S.length (.dict (putD kvs (.str (w++(if bb then ("q":el) else ⟨#[]⟩))) (.bl a6)))=S++[.dict (putD kvs (.str (w++(if bb then ("q":el) else ⟨#[]⟩))) (.bl a6))]:=by simp
 refine⟨ag (.int (MT n k)),ag (.str w),z,putD kvs (.str (w++(if bb then ("q":el) else ⟨#[]⟩))) (.bl a6),E.put s,?_⟩;have r:intD [.bl bb]=ag (.int (if bb then 1 else 0)):=rfl;unfold f9;simp[M,I,K,O,J,X,v,y,V,ve,o,fN,g,f,A,r,q,p]
theorem Am (n:Int)(S:Lq):∃ (ss:ak el) (kvs:ak (D×D)),m8 [.int n] S=LB (.tup (ss.map .str)) (S++[.dict kvs])/\ss.length<=6/\(∀ x∈ss,eT x=a6)/\ss.Pairwise λa b=>NW a b=a6:=by
 obtain⟨E,L,v,m⟩:=b7 (u:=aE 3) (body:=f9) (λi o g=>i<=6/\∃ kvs b c d z,g=S++[.dict kvs]/\Pl i kvs/\o=[ag (.int n),ag (#[21]),ag (#[13]),z,b,c,d])
  ((ew 6).map λ(k:Nat)=>D.int k) 0 [ag (.int n),ag (#[21]),ag (#[13]),a4,a4,a4,a4] (S++[.dict []]) ⟨#[1],[],a4,a4,a4,a4,rfl,⟨e9 _,[],rfl,VJ,λx h=>by cases h⟩,rfl⟩ (by
   rintro j K o g r ⟨M,kvs,b,c,d,z,rfl,l,rfl⟩;obtain⟨rfl,F⟩:=gN r;simp only[lk] at l ⊢;obtain⟨G,A,B,s,f,eq⟩:=HB n j S kvs b c d l F
   exact⟨_,rfl,_,_,eq,#[1],s,G,A,B,ag (.int j),rfl,f,rfl⟩)
 simp only[lk,dv,mc] at m;obtain⟨_,kvs,b,c,d,z,rfl,⟨J,ss,es,nd,t⟩,rfl⟩:=m;have N:ss.length=kvs.length:=by have:=q7 WH es;simpa using this.symm
 have y:iB (kvs.map (·.1))=ag ((lj ss).map .str):=by rw[es];unfold iB;rw[cc (by rw[dv];first |omega |exact fg (show ss.length<=1000 by omega) #[2]),mB]
 have e:(lj ss).Perm ss:=ti _ _;have H:(lj ss).Nodup:=(e.nodup_iff).mpr nd;have I:(lj ss).Pairwise λa b=>NX a b=a6:=s8 jF rS _;refine⟨lj ss,kvs,?_,by rw[e.length_eq];omega,λx p=>t x (e.mem_iff.mp p),(I.and H).imp λq=>h9 q.1 q.2⟩;have C:dL [.int 6]=ag ((ew 6).map λ(k:Nat)=>D.int k):=u9 6 #[2] #[2];have w:(S++[MO.dict kvs])[S.length]?=ag (.dict kvs):=by simp
 rw[3];unfold rZ;simp[C,v,oY,w,y,iO]
theorem sy:∀ (ds:ak D) (i:Nat),(bi i ds).map (λd=>match d with | .tup [_,x]=>x |_ => .LR)=ds
 |[],_=>rfl
 |d::ds,i=>by rw[bi,fh,sy ds]
theorem vq (n:Int){ss:ak el}(s:ss.length<=100)(S:Lq):∃ a:ak el,nk [.int n,.tup (ss.map .str)] S=LB (.tup (a.map .str)) S/\a.Sublist ss:=by
 have q:=dz (u:=iX 2 (aS (aE 0) (aS (aE 1) eS))) (gt:=iZ) (fe:=jk) (λh => ∃ y z,h=[y,z,ag (.int n)]) (λd=>match d with | .tup [.int k,_]=>ei (n / (3*k+1) % 4=0) |_=>a8)
  (λd=>match d with | .tup [_,x]=>x |_ => .LR) S (bi 0 (ss.map .str)) (bT 2 [0] [ag (.int n),ag (.tup (ss.map .str))]) ⟨a4,a4,rfl⟩ (by
   rintro d o h ⟨y,z,rfl⟩;obtain⟨j,b⟩:=m7 o;rw[c9] at b;obtain⟨x,i,rfl⟩:=d7.mp b;have t:j<ss.length:=by have:=(ba.mp i).1;rw[4]
   have c:c_ (.int 3) (.int ((0+j:Nat):Int))=ag (.int (3*((0+j:Nat):Int))):=hW #[2] #[2];have f:dM (.int n) (.int (3*((0+j:Nat):Int)+1))=ag (.int (n / (3*((0+j:Nat):Int)+1))):=jL #[0] #[0];have g:ck (.int (n / (3*((0+j:Nat):Int)+1))) (.int 4)=ag (.int (n / (3*((0+j:Nat):Int)+1) % 4)):=bw #[2];refine⟨[ag (.int ((0+j:Nat):Int)),ag x,ag (.int n)],rfl,⟨_,_,rfl⟩,?_,λ_=>?_⟩
   ·unfold iZ;simp only[lk] at c f g ⊢;simp[c,f,g]
   unfold jk;simp)
 have m:(((bi 0 (ss.map D.str)).filter (λd=>match d with | .tup [.int k,_]=>ei (n / (3*k+1) % 4=0) |_=>a8)).map (λd=>match d with | .tup [_,x]=>x |_ => .LR)).Sublist (ss.map D.str):=by have:=(List.filter_sublist (p:=(λd=>match d with | .tup [.int k,_]=>ei (n / (3*k+1) % 4=0) |_=>a8)) (l:=bi 0 (ss.map D.str))).map (λd=>match d with | .tup [_,x]=>x |_ => .LR);rw[sy] at this;exact this
 obtain⟨a,r,e⟩:=List.sublist_map_iff.mp m;refine⟨a,?_,r⟩;rw[3];unfold sf;rw[e] at q;simp[j6,q,iO]
theorem CD {x:el}(h:eT x=a6):∀ c∈x.cps.toList,c<128:=by unfold eT at h;rw[pX,pX,pX] at h;intro c hc;have:=SV.mp h.2.2.2 c hc;unfold isLet at this;simp at this;omega
end LJ
namespace L2
open PySem PyProof.Rows
section
variable (f g:Lk D) (ρ:Lr) (S:Lq)
@[simp] theorem K4 (c k:el):jt c k f ρ S=ai (f ρ S) λd a=>aL (kG c k d a) a:=rfl
@[simp] theorem Kg (c k:el):qh c k f g ρ S=ai (g ρ S) λv a=>ai (f ρ a) λd S2=>o5 c k d v ρ S2:=rfl
@[simp] theorem Kt (c k:el):Jn c k f g ρ S=ai (f ρ S) λd a=>ai (aL (kG c k d a) a) λv S2=>ai (g ρ S2) λy b=>Jo c k d v y ρ b:=rfl
@[simp] theorem Kn (c m:el)(F:Lp)(a:Lk (ak D)):dO c m F f a ρ S=ai (f ρ S) λd b=>ai (aL (vT c m d b) b) λ_ S2=>ai (a ρ S2) λds e=>j4 (F (d::ds) e):=rfl
@[simp] theorem JI (c m:el)(F:Lp)(a:Lk (ak D)):Hy c m F f a ρ S=ai (f ρ S) λd b=>ai (aL (vT c m d b) b) λ_ S2=>ai (a ρ S2) λds e=>F (d::ds) e:=rfl
@[simp] theorem Kl:Dx ρ S=LB (#[13]) (S++[.lst []]):=rfl
@[simp] theorem K9:HA f g ρ S=ai (f ρ S) λd a=>ai (aL (fz d a) a) λ_ S2=>ai (g ρ S2) λv b=>yt d v b:=rfl
@[simp] theorem Je:Fi f ρ S=ai (f ρ S) λd a=>aL ((fz d a).bind λxs=>if xs.length<=da then ag (.tup xs) else a4) a:=rfl
@[simp] theorem Kp:ww f ρ S=ai (f ρ S) λ_ a=>LB (.next ρ) a:=rfl
@[simp] theorem Jf (c:el)(q:Lr->Lq->eM):Fs c q ρ S=if q ρ S=a6 then ag (.error c,S) else a4:=rfl
@[simp] theorem La {α a:Type}(c:el)(k : α->Lq->Out a):ai (ag (.error c,S):Out α) k=ag (.error c,S):=rfl
end
theorem fQ {S:Lq}{l:Nat}{a b:MO}(h:S[l]?=ag a):(S.set l b)[l]?=ag b:=by have:l<S.length:=(ba.mp h).1;simp[this]
theorem cR {S:Lq}{l k:Nat}{b:MO}(h:l≠k):(S.set l b)[k]?=S[k]?:=by simp[Z7,h]
section
variable (f g:Lk D) (ρ:Lr) (S:Lq)
@[simp] theorem zV:uw f g ρ S=ai (f ρ S) λx a=>ai (g ρ a) λi S2=>aL (lL x i S2) S2:=rfl
@[simp] theorem KY:Bx f g ρ S=ai (f ρ S) λx a=>ai (g ρ a) λi S2=>aL (if bN x=a6 then lL x i S2 else TU x i) S2:=rfl
@[simp] theorem KS (neg:eM):Dy neg f g ρ S=ai (f ρ S) λk a=>ai (g ρ a) λx S2=>aL (pH neg k x S2) S2:=rfl
@[simp] theorem Km:z8 f g ρ S=ai (f ρ S) λx a=>ai (g ρ a) λk S2=>aL (jd x k S2) S2:=rfl
@[simp] theorem Kh (h:Lk D):wo f g h ρ S=ai (h ρ S) λv b=>ai (f ρ b) λx S2=>ai (g ρ S2) λk a=>pp x k v ρ a:=rfl
@[simp] theorem Ko:Dp f ρ S=ai (f ρ S) λd a=>aL ((fz d a).map λxs => .int xs.length) a:=rfl
@[simp] theorem Ho:mX f ρ S=ai (f ρ S) λd a=>aL (gQ d a) a:=rfl
@[simp] theorem Kk:z7 ρ S=LB (#[13]) (S++[.LL []]):=rfl
@[simp] theorem Jd (u:D->Lr->a5 Lr):uv u f ρ S=ai (f ρ S) λd a=>aL ((u d ρ).map Fl.next) a:=rfl
end
end L2
namespace LJ
open PySem L2 PyProof.Rows
inductive Row where
 |leaf (ss:ak el)
 |ask (c no yes:Nat)
 deriving DecidableEq
noncomputable def aC:Row->D
 | .leaf a => .tup [.str "names",.tup (a.map .str)]
 | .ask c no yes => .tup [.int c,.int no,.int yes]
noncomputable def pi:Row->hA
 | .leaf a => .tuple [.str "names",.tuple (a.map .str)]
 | .ask c no yes => .tuple [.int c,.int no,.int yes]
noncomputable def dE:Row->Prop
 | .leaf a => ∀ x∈a,eT x=a6
 | .ask _ _ _=>True
theorem EM {x:el}(h:eT x=a6):E1 x=a6:=by have w:=CD h;unfold E1;rw[← Array.all_toList,SV];intro c hc;have:=w c hc;simp;omega
theorem vp:E1 ("names":el)=a6:=by decide
theorem lA {r:Row}(h:dE r):fM (aC r)=ag (pi r):=by
 unfold fM;cases r with
 |leaf b =>
  have e:toPy (aC (.leaf b))=ag (pi (.leaf b)):=by simp[aC,pi,toPy,cg,g7]
  have a:(b.map UW).all (keyOk 6)=a6:=by rw[SV];intro p d;obtain⟨x,f,rfl⟩:=q5.mp d;exact EM (h x f)
  have k:keyOk 8 (pi (.leaf b))=a6:=by show ([UW "names",PyData.tuple (b.map .str)]:ak hA).all (keyOk 7)=a6;rw[all_cons,all_cons,List.all_nil,ael,pX];exact⟨vp,a⟩
  rw[e,lr,cc k]
 |ask c no yes=>simp[aC,pi,toPy,cg,keyOk]
theorem Eh (a b:Row):hH (pi a) (pi b)=ei (a=b):=by
 cases a with
 |leaf s=>cases b with
  |leaf t=>simp[pi,hH,ma,pW]
  |ask c n y=>simp[pi,hH,ma]
 |ask c n y=>cases b with
  |leaf t=>simp[pi,hH,ma]
  |ask f d e =>
   rw[Bool.eq_iff_iff];simp[pi,hH,ma];omega
theorem gK {a b:Row}(ha:dE a)(hb:dE b):fq (aC a) (aC b)=ei (a=b):=by unfold fq;rw[lA ha,lA hb];exact Eh a b
theorem dX (r:Row):fA (aC r)=a6:=by cases r<;>rfl
noncomputable def bv (k:Nat):ak Row->ak (D×D)
 |[]=>[]
 |r::G=>(aC r,.int k)::bv (k+1) G
theorem vk:∀ (G:ak Row) (k:Nat),(bv k G).length=G.length
 |[],_=>rfl
 |r::G,k=>by rw[bv,hG,hG,vk G]
theorem jK {r:Row}(hr:dE r):∀ (G:ak Row) (k:Nat),(∀ x∈G,dE x)->lM (bv k G) (aC r)=if r∈G then ag (.int ((k+G.idxOf r:Nat):Int)) else a4
 |[],k,_=>rfl
 |x::G,k,h=>by
  have b:=jK hr G (k+1) λy c=>h y (ee _ c);unfold lM at b ⊢;rw[bv,rp];simp only[gK (h x (eR ..)) hr];by_cases e:x=r
  ·subst e;simp
  rw[dV e];simp only;rw[b];have f:¬ r=x:=λq=>e q.symm;have d:(x==r)=a8:=by simpa using e
  by_cases a:r∈G
  ·rw[cc a,cc (ee _ a),XU,d];simp only[cond_false];congr 2;omega
  rw[cn a,cn (by rw[fx];exact λq=>q.elim f a)]
theorem any_nums {r:Row}(hr:dE r)(G:ak Row)(k:Nat)(h:∀ x∈G,dE x)(a:r∉G):((bv k G).any λp=>fq p.1 (aC r))=a8:=by have q:=jK hr G k h;rw[cn a] at q;unfold lM at q;rw[Option.map_eq_none_iff,aam] at q;rw[ZR];exact q
theorem rK:∀ (G:ak Row) (k:Nat) (r:Row),bv k (G++[r])=bv k G++[(aC r,.int ((k+G.length:Nat):Int))]
 |[],k,r=>rfl
 |x::G,k,r=>by
  rw[abM,bv,rK G (k+1) r,bv,abM,hG,show k+1+G.length=k+(G.length+1) by omega]
theorem AB {r:Row}(hr:dE r){G:ak Row}(h:∀ x∈G,dE x)(a:r∉G):putN (bv 0 G) (aC r) (.int G.length)=bv 0 (G++[r]):=by unfold putN;rw[any_nums hr G 0 h a,cn #[2],rK,lk]
theorem Bk {kvs:ak (D×D)}{k v:D}(h:fq k k=a6):lM (putN kvs k v) k=ag v:=by
 unfold putN;split
 ·rename_i a;unfold lM;rw[adj] at a;clear h
  induction kvs with
  |nil=>obtain⟨p,b,_⟩:=a;cases b
  |cons p r c =>
   rw[fh,rp];cases b:fq p.1 k with
   |true=>simp[b]
   |false =>
    simp only[b,gh,la];obtain⟨x,hx,q⟩:=a;rcases fx.mp hx with rfl |hx
    ·rw[b] at q;cases q
    exact c ⟨x,hx,q⟩
 rename_i a;unfold lM;rw[Bool.not_eq_true,ZR] at a;rw[List.find?_append,aam.mpr a];simp[h]
abbrev Th:=Nat->eM
inductive Ev (G:ak Row) (th:Th):Nat->ak el->Prop
 |leaf {i:Nat}{ss:ak el}:G[i]?=ag (.leaf ss)->Ev G th i ss
 |no {i c n y:Nat}{ss:ak el}:G[i]?=ag (.ask c n y)->th c=a8->Ev G th n ss->Ev G th i ss
 |yes {i c n y:Nat}{ss:ak el}:G[i]?=ag (.ask c n y)->th c=a6->Ev G th y ss->Ev G th i ss
theorem ua {G E:ak Row}{i:Nat}{r:Row}(h:G[i]?=ag r):(G++E)[i]?=ag r:=by rw[h7 (ba.mp h).1];exact h
theorem Ev.mono {G:ak Row}(E:ak Row){b:Th}{i:Nat}{ss:ak el}(h:Ev G b i ss):Ev (G++E) b i ss:=by
 induction h with
 |leaf h=>exact .leaf (ua h)
 |no h t _ a=>exact .no (ua h) t a
 |yes h t _ a=>exact .yes (ua h) t a
theorem Ev.det {G:ak Row}{f:Th}{i:Nat}{a b:ak el}(h:Ev G f i a)(g:Ev G f i b):a=b:=by
 induction h with
 |leaf h=>cases g with
  |leaf c=>rw[h] at c;cases c;rfl
  |no c=>rw[h] at c;cases c
  |yes c=>rw[h] at c;cases c
 |no h t _ e=>cases g with
  |leaf c=>rw[h] at c;cases c
  |no c d g=>rw[h] at c;cases c;exact e g
  |yes c d g=>rw[h] at c;cases c;rw[t] at d;cases d
 |yes h t _ e=>cases g with
  |leaf c=>rw[h] at c;cases c
  |no c d g=>rw[h] at c;cases c;rw[t] at d;cases d
  |yes c d g=>rw[h] at c;cases c;exact e g
noncomputable def pl (o:ak Nat)(G:ak Row)(i:Nat):Nat:=match G[i]? with
 |ag (.ask c _ _)=>o.idxOf c
 |_=>o.length
theorem cE {o:ak Nat}{G E:ak Row}{i:Nat}(h:i<G.length):pl o (G++E) i=pl o G i:=by unfold pl;rw[h7 h]
theorem IB (o:ak Nat)(G:ak Row)(i:Nat):pl o G i<=o.length:=by
 unfold pl;split
 ·exact List.idxOf_le_length
 exact e9 _
noncomputable def Om (o:ak Nat)(G:ak Row)(i:Nat):Row->Prop
 | .leaf a=>(∀ x∈a,eT x=a6)/\VD a=a6
 | .ask c n y=>c∈o/\n<i/\y<i/\#[12]<LJ.pl o G n/\#[12]<LJ.pl o G y/\n≠y
structure Wf (o:ak Nat) (G:ak Row):Prop where
 nd:G.Nodup
 row:∀ (i:Nat) (r:Row),G[i]?=ag r->Om o G i r
theorem Wf.ok {o:ak Nat}{G:ak Row}(h:Wf o G):∀ x∈G,dE x:=by
 intro x a;obtain⟨i,b⟩:=m7 a;have:=h.row i x b;cases x with
 |leaf d=>exact this.1
 |ask c n y=>trivial
theorem Wf.total {o:ak Nat}{G:ak Row}(h:Wf o G)(a:Th):∀ (i:Nat),i<G.length->∃ ss,Ev G a i ss:=by
 intro i
 induction i using abd with
 |_ i b =>
  intro g;have e:G[i]?=ag G[i]:=a7 g;have q:=h.row i _ e;cases hr:G[i] with
  |leaf ss=>rw[hr] at e;exact⟨ss,.leaf e⟩
  |ask c n y =>
   rw[hr] at e q;obtain⟨_,f,d,_,_,_⟩:=q;cases ht:a c with
   |false=>obtain⟨ss,k⟩:=b n f #[0];exact⟨ss,.no e ht k⟩
   |true=>obtain⟨ss,k⟩:=b y d #[0];exact⟨ss,.yes e ht k⟩
theorem Wf.back {o:ak Nat}{G E:ak Row}(h:Wf o G){a:Th}{i:Nat}{ss:ak el}(b:i<G.length)(e:Ev (G++E) a i ss):Ev G a i ss:=by obtain⟨c,k⟩:=h.total a i b;rw[Ev.det e (k.mono E)];exact k
theorem Om.app {o:ak Nat}{G E:ak Row}{i:Nat}{r:Row}(k:i<=G.length)(h:Om o G i r):Om o (G++E) i r:=by
 cases r with
 |leaf j=>exact h
 |ask c n y =>
  obtain⟨a,b,g,d,e,f⟩:=h;refine⟨a,b,g,?_,?_,f⟩
  ·rw[cE #[0]];exact d
  rw[cE #[0]];exact e
theorem Wf.snoc {o:ak Nat}{G:ak Row}(h:Wf o G){r:Row}(e:r∉G)(hr:Om o G G.length r):Wf o (G++[r]):=by
 refine⟨Qf.mpr ⟨h.nd,by simp,λa d b hb=>?_⟩,λi x c=>?_⟩
 ·rw[gA.mp hb];rintro rfl;exact e d
 rcases V5 i G.length with hi |hi |hi
 ·rw[h7 hi] at c;exact(h.row i x c).app (J8 hi)
 ·subst hi;have:x=r:=by simpa using c.symm
  subst this;exact hr.app (e9 _)
 rw[h6 #[0]] at c;have:([r]:ak Row)[i-G.length]?=a4:=by rw[ZF];simp;omega
 rw[this] at c;cases c
noncomputable def kK (C:ak (Row×Nat)):ak (D×D):=C.map λp=>(aC p.1,.int p.2)
noncomputable def sel (a:Th)(c n y:Nat):Nat:=if a c=a6 then y else n
def Od (o:ak Nat)(G:ak Row)(r:Row)(v:Nat):Prop:=match r with
 | .leaf _=>False
 | .ask c n y=>n<G.length/\y<G.length/\v<G.length/\XP (#[12]) (XP (LJ.pl o G n) (LJ.pl o G y))<=LJ.pl o G v/\∀ a b,Ev G a (sel a c n y) b->Ev G a v b
theorem Od.app {o:ak Nat}{G E:ak Row}(w:Wf o G){r:Row}{v:Nat}(h:Od o G r v):Od o (G++E) r v:=by
 cases r with
 |leaf _=>exact h
 |ask c n y =>
  obtain⟨a,b,j,d,e⟩:=h;refine⟨by rw[cv];omega,by rw[cv];omega,by rw[cv];omega,?_,λf i k=>?_⟩
  ·rw[cE a,cE b,cE j];exact d
  have g:sel f c n y<G.length:=by unfold sel;split<;>assumption
  exact(e f i (w.back g k)).mono E
noncomputable def nY:ak (Row×Nat)->Row->Nat->ak (Row×Nat):=λC r v=>if (C.any λp=>ei (p.1=r))=a6 then C.map (λp=>if p.1=r then (p.1,v) else p) else C++[(r,v)]
theorem z5 {C:ak (Row×Nat)}(h:∀ p∈C,dE p.1){r:Row}(hr:dE r)(v:Nat):putN (kK C) (aC r) (.int v)=kK (nY C r v):=by
 have d:((kK C).any λp=>fq p.1 (aC r))=C.any λp=>ei (p.1=r):=by
  unfold kK;rw[List.any_map]
  have:∀ l:ak (Row×Nat),(∀ p∈l,dE p.1)->(l.any ((λp=>fq p.1 (aC r)) ∘ λp=>(aC p.1,D.int p.2)))=l.any λp=>ei (p.1=r):=by
   intro l a
   induction l with
   |nil=>rfl
   |cons p l e =>
    rw[R_,R_,e λq c=>a q (ee _ c)];simp only[aap,gK (a p (eR ..)) hr]
  exact this C h
 unfold putN nY;rw[d];split
 ·unfold kK;rw[rT,rT];refine Ua λp b=>?_;simp only[aap,gK (h p b) hr,x6];split<;>rfl
 unfold kK;rw[Sv];rfl
theorem Fo {C:ak (Row×Nat)}(h:∀ p∈C,dE p.1){r:Row}(hr:dE r):lM (kK C) (aC r)=(C.find? λp=>ei (p.1=r)).map λp => .int p.2:=by
 unfold lM kK
 induction C with
 |nil=>rfl
 |cons p C b =>
  rw[fh,rp,rp];simp only[gK (h p (eR ..)) hr];cases hd:ei (p.1=r) with
  |true=>rfl
  |false=>exact b λq a=>h q (ee _ a)
theorem vg {C:ak (Row×Nat)}{P:Row->Nat->Prop}(h:∀ p∈C,P p.1 p.2){r:Row}{v:Nat}(hr:P r v):∀ p∈nY C r v,P p.1 p.2:=by
 intro p hp;unfold nY at hp;split at hp
 ·obtain⟨q,a,rfl⟩:=q5.mp hp;split
  ·rename_i e;rw[e];exact hr
  exact h q a
 rcases k6.mp hp with hp |hp
 ·exact h p hp
 rw[gA.mp hp];exact hr
theorem vf (C:ak (Row×Nat))(r:Row)(v:Nat):(nY C r v).length<=C.length+1:=by
 unfold nY;split
 ·rw[dv];omega
 rw[cv];simp
abbrev oD (o:ak Nat):D:=.tup (o.map λ(c:Nat)=>D.int c)
abbrev RO (o:ak Nat)(L:Nat):MO:=.ins "Rows" [("order",oD o),("gathered",.loc (L+1)),("numbers",.loc (L+2)),("choices",.loc (L+3))]
structure SR (B:Nat->a5 MO) (S:Lq) (L:Nat) (o:ak Nat) (G:ak Row) (C:ak (Row×Nat)):Prop where
 obj:S[L]?=ag (RO o L)
 VE:S[L+1]?=ag (.lst (G.map aC))
 num:S[L+2]?=ag (.LL (bv 0 G))
 RJ:S[L+3]?=ag (.LL (kK C))
 fr:∀ i,i<L∨L+3<i->S[i]?=B i
theorem rq1:(("gathered":el)=="order")=a8:=by decide
theorem rq2:(("numbers":el)=="order")=a8:=by decide
theorem rq3:(("numbers":el)=="gathered")=a8:=by decide
theorem rq4:(("choices":el)=="order")=a8:=by decide
theorem rq5:(("choices":el)=="gathered")=a8:=by decide
theorem rq6:(("choices":el)=="numbers")=a8:=by decide
section
variable {B:Nat->a5 MO}{S:Lq}{L:Nat}{o:ak Nat}{G:ak Row}{C:ak (Row×Nat)}
theorem SR.ins (h:SR B S L o G C):xV "Rows" (.loc L) S=ag ([("order",oD o),("gathered",.loc (L+1)),("numbers",.loc (L+2)),("choices",.loc (L+3))]:ak (el×D)):=by unfold xV;simp only[h.obj,mz]
theorem SR.QS (h:SR B S L o G C):kG "Rows" "order" (.loc L) S=ag (oD o):=by unfold kG;rw[h.ins];simp[xl]
theorem SR.Qc (h:SR B S L o G C):kG "Rows" "gathered" (.loc L) S=ag (.loc (L+1)):=by unfold kG;rw[h.ins];simp[xl,rq1]
theorem SR.Sk (h:SR B S L o G C):kG "Rows" "numbers" (.loc L) S=ag (.loc (L+2)):=by unfold kG;rw[h.ins];simp[xl,rq2,rq3]
theorem SR.Pm (h:SR B S L o G C):kG "Rows" "choices" (.loc L) S=ag (.loc (L+3)):=by unfold kG;rw[h.ins];simp[xl,rq4,rq5,rq6]
theorem SR.has (h:SR B S L o G C)(m:el)(a:((m=="order") ||(m=="gathered") ||(m=="numbers") ||(m=="choices"))=a8):vT "Rows" m (.loc L) S=ag .LR:=by rw[Yn,Yn,Yn] at a;unfold vT;rw[h.ins];simp[xl,a.1.1.1,a.1.1.2,a.1.2,a.2]
theorem SR.lst (h:SR B S L o G C):fz (.loc (L+1)) S=ag (G.map aC):=by unfold fz;simp only[h.VE]
theorem SR.row (h:SR B S L o G C){i:Nat}{r:Row}(a:G[i]?=ag r):lL (.loc (L+1)) (.int i) S=ag (aC r):=by show ((fz (.loc (L+1)) S).bind λb=>O3 b (i:Int))=_;rw[h.lst,lr];exact bn (by rw[dk,a];rfl)
theorem yd (a b:Nat):Nb (.int a) (.int b)=ag (.bl (ei (a=b))):=by
 rw[Fc];by_cases h:a=b
 ·simp[h]
 rw[dV h,dV #[0]]
theorem eq_str_int (x:el)(i:Int):Nb (.str x) (.int i)=ag (.bl a8):=by simp[Nb,toPy,hH,m4]
theorem jN (r:Row)(S:Lq):fK [aC r] S=LB (.bl (match r with | .leaf _=>a8 | .ask _ _ _=>a6)) S:=by rw[3];unfold C9;cases r<;>simp[aC,cr]
theorem idx_map (c:Nat):∀ o:ak Nat,(o.map λ(c:Nat)=>(c:Int)).idxOf (c:Int)=#[12]
 |[]=>rfl
 |a::o=>by
  rw[fh,XU,XU,idx_map c o];by_cases h:a=c
  ·simp[h]
  have b:(a==c)=a8:=by simpa using h
  have d:((a:Int)==(c:Int))=a8:=by rw[lE];omega
  rw[b,d]
theorem MC:∀ l:ak Int,bU (l.map .int)=ag l
 |[]=>rfl
 |a::l=>by rw[fh,bU,MC l];rfl
theorem C0 (o:ak Nat):bU (o.map λ(c:Nat)=>D.int c)=ag (o.map λ(c:Nat)=>(c:Int)):=by rw[show (o.map λ(c:Nat)=>D.int c)=(o.map λ(c:Nat)=>(c:Int)).map D.int by rw[rT];rfl,MC]
theorem rY {o:ak Nat}{c:Nat}(h:c∈o):jJ (oD o) (.int c)=ag (.int (#[12]:Nat)):=by unfold jJ oD;simp only[C0,lr];rw[cc (q5.mpr ⟨c,h,rfl⟩),idx_map]
theorem Ce {i:Nat}{r:Row}(b:G[i]?=ag r)(w:Om o G i r)(S:Lq):kO [aC r,oD o] S=LB (.int (LJ.pl o G i:Nat)) S:=by
 have a:=jN r S;unfold LJ.pl;rw[b];rw[3];unfold pT;cases r with
 |leaf g =>
  have:cr [oD o]=ag (.int o.length):=by simp[cr]
  simp[a,this]
 |ask c n y =>
  have f:=rY w.1;have d:Mu (aC (.ask c n y)) (.int 0) S=ag (.int c):=Sj _ _ S;have e:fA (oD o)=a6:=rfl;simp[a,d,f,e]
theorem Da (h:SR B S L o G C)(w:Wf o G)(nd:o.Nodup){c i j:Nat}(hc:c∈o)(v:i<G.length)(n:j<G.length) :
  ∃ f,f∈o/\o.idxOf f=XP (#[12]) (XP (LJ.pl o G i) (LJ.pl o G j))/\bZ [.loc L,.int c,.int i,.int j] S=LB (.int f) S:=by
 have z:#[12]<o.length:=o3.mpr hc;have g:XP (#[12]) (XP (LJ.pl o G i) (LJ.pl o G j))<o.length:=#[1]
 have one:∀ k:Nat,k<G.length->bj [ag (.int k),ag (.loc L)] S=LB (.int (LJ.pl o G k:Nat)) S:=by intro k s;have e:G[k]?=ag G[k]:=a7 s;have q:=Ce e (w.row k _ e) S;have m:=h.row e;unfold bj;simp[h.Qc,h.QS,m,q]
 have q:=dR (u:=aE 0) (fe:=bj) (λl => ∃ y,l=[y,ag (.loc L)]) (λd=>match d with | .int k => .int (LJ.pl o G k.toNat:Nat) |_ => .LR) S [.int i,.int j] (bT 1 [0] [ag (.loc L),ag (.int c),ag (.int i),ag (.int j),a4]) ⟨a4,rfl⟩ (by
  rintro d hd l ⟨y,rfl⟩;refine⟨_,rfl,⟨_,rfl⟩,?_⟩;simp only[fx,X8,abI] at hd;rcases hd with rfl |rfl
  ·have:=one i v;rw[4]
  have:=one j n;rw[4])
 have r:=rY hc;have x:fA (oD o)=a6:=rfl;refine⟨o[XP (#[12]) (XP (LJ.pl o G i) (LJ.pl o G j))],Ui g,nd.idxOf_getElem _ g,aA rfl ?_⟩;have t:vA [.lst [.int (LJ.pl o G i:Nat),.int (LJ.pl o G j:Nat),.int (#[12]:Nat)]]=ag (.int ((XP (#[12]) (XP (LJ.pl o G i) (LJ.pl o G j)):Nat):Int)):=by simp only[vA,bU,UI,lr,G3,WC];congr 2;split<;>split<;>omega
 have p:Mu (oD o) (.int ((XP (#[12]) (XP (LJ.pl o G i) (LJ.pl o G j)):Nat):Int)) S=ag (.int (o[XP (#[12]) (XP (LJ.pl o G i) (LJ.pl o G j))]:Nat)):=by unfold Mu;rw[cn (by simp[bN])];show O3 (o.map λ(c:Nat)=>D.int c) _=_;exact bn (by rw[dk,a7 g];rfl)
 have z2:NV [.int i,.int j] (.tup [.int i,.int j])=ag (.tup [.int i,.int j]):=bR #[3];have z1:NV [.int (#[12]:Nat)] (.lst [.int (#[12]:Nat)])=ag (.lst [.int (#[12]:Nat)]):=bR #[3];have ad:bz (.lst [.int (LJ.pl o G i:Nat),.int (LJ.pl o G j:Nat)]) (.lst [.int (#[12]:Nat)])=ag (.lst [.int (LJ.pl o G i:Nat),.int (LJ.pl o G j:Nat),.int (#[12]:Nat)]):=by exact(m5 _ _).trans (cc (show 3<=da by decide))
 unfold dw;simp only[fh,abY,UP] at q;generalize LJ.pl o G i=a at *
 generalize LJ.pl o G j=b at *
 generalize #[12]=k at *
 simp[z2,cm,q,h.QS,x,r,z1,ad,t,p]
noncomputable def sd (G:ak Row)(i c:Nat)(b:eM):Nat:=match G[i]? with
 |ag (.ask c' n y)=>if c'=c then (if b=a6 then y else n) else i
 |_=>i
theorem jy (h:SR B S L o G C){i:Nat}(m:i<G.length)(c:Nat)(b:eM):bV [.loc L,.int i,.int c,.int (if b=a6 then 1 else 0)] S=LB (.int (sd G i c b:Nat)) S:=by
 have e:G[i]?=ag G[i]:=a7 m;have d:=h.row e;unfold sd;rw[e]
 suffices ef:m_ [.loc (L+1),.int i,.int c,.int (if b=a6 then 1 else 0)] S=LB (.int (match ag G[i] with
  |ag (.ask a n y)=>if a=c then (if b=a6 then y else n) else i
  |_=>i:Nat)) S by
  rw[3];unfold nN;simp[h.Qc,ef]
 rw[3];unfold r8;cases hr:G[i] with
 |leaf l =>
  rw[hr] at d;have f:Mu (aC (.leaf l)) (.int 0) S=ag (.str "names"):=Sj _ _ S;simp[d,f,eq_str_int,bN]
 |ask a n y =>
  rw[hr] at d;have f:Mu (aC (.ask a n y)) (.int 0) S=ag (.int a):=Sj _ _ S;have j:Mu (aC (.ask a n y)) (.int 1) S=ag (.int n):=Tw _ _ _ S;have k:Mu (aC (.ask a n y)) (.int 2) S=ag (.int y):=at2 _ _ _ _ S;have g:=yd a c;by_cases hc:a=c
  ·subst hc;rw[gx rfl] at g;cases b<;>simp[d,f,g,j,k,bN]
  rw[dV hc] at g;cases b<;>simp[d,f,g,hc,bN]
theorem jx (w:Wf o G){i c:Nat}(g:i<G.length)(b:eM)(hc:c∈o)(f:#[12]<=LJ.pl o G i):sd G i c b<G.length/\#[12]<LJ.pl o G (sd G i c b)/\∀ d ss,d c=b->Ev G d i ss->Ev G d (sd G i c b) ss:=by
 have e:G[i]?=ag G[i]:=a7 g;have m:#[12]<o.length:=o3.mpr hc;have q:=w.row i _ e;unfold sd;rw[e];cases hr:G[i] with
 |leaf ss =>
  refine⟨g,?_,λ_ _ _ k=>k⟩;unfold LJ.pl;rw[e,hr];exact m
 |ask s n y =>
  rw[hr] at q e;obtain⟨r,x,v,u,p,_⟩:=q;by_cases j:s=c
  ·subst j;simp only[mz];cases b with
   |false =>
    refine⟨by simp;omega,by simpa using u,λd ss l k=>?_⟩;cases k with
    |leaf a=>rw[e] at a;cases a
    |no a _ k=>rw[e] at a;cases a;exact k
    |yes a t k=>rw[e] at a;cases a;cases l.symm.trans t
   |true =>
    refine⟨by simp;omega,by simpa using p,λd ss l k=>?_⟩;cases k with
    |leaf a=>rw[e] at a;cases a
    |no a t k=>rw[e] at a;cases a;cases l.symm.trans t
    |yes a _ k=>rw[e] at a;cases a;exact k
  simp only[cn j];refine⟨g,?_,λ_ _ _ k=>k⟩;unfold LJ.pl at f ⊢;rw[e] at f ⊢;simp only at f ⊢;rcases acy f with h |h
  ·exact h
  exfalso;apply j;have a1:=UK (o3.mpr r);have a2:=UK m;rw[← a1,← a2];congr 1;exact h.symm
theorem rL (h:SR B S L o G C)(w:Wf o G){r:Row}(hr:Om o G G.length r)(hz:G.length<16000000) :
  ∃ t E i,bS [.loc L,aC r] S=LB (.int (i:Nat)) t/\SR B t L o (G++E) C/\Wf o (G++E)/\(G++E)[i]?=ag r/\E.length<=1:=by
 have ok:dE r:=by cases r with
  |leaf I=>exact hr.1
  |ask c n y=>trivial
 have d:=lA ok;have f:=jK ok G 0 w.ok;have H:da=16777216:=rfl;by_cases a:r∈G
 ·rw[cc a,lk] at f;have q:G.idxOf r<G.length:=o3.mpr a;refine⟨S,[],G.idxOf r,aA rfl ?_,by rw[ia];exact h,by rw[ia];exact w,?_,by simp⟩
  ·have j:pH a6 (aC r) (.loc (L+2)) S=ag (.bl a8):=by
    unfold pH;simp only[h.num,d,dX,mz,f];rfl
   have p:jd (.loc (L+2)) (aC r) S=ag (.int (G.idxOf r:Nat)):=by unfold jd;simp only[h.num,d,dX,mz,f]
   unfold dQ;simp[h.Sk,j,p]
  rw[ia,a7 q,UK q]
 rw[cn a] at f;have j:pH a6 (aC r) (.loc (L+2)) S=ag (.bl a6):=by unfold pH;simp only[h.num,d,dX,mz,f];rfl
 have ep:∀ m,pp (.loc (L+2)) (aC r) (.int (G.length:Nat)) m S=LB (.next m) (S.set (L+2) (.LL (bv 0 (G++[r])))):=λm=>by unfold pp;simp only[h.num,d];rw[cc ⟨by rw[vk];omega,dX r⟩,AB ok w.ok a]
 generalize b:S.set (L+2) (.LL (bv 0 (G++[r])))=S1 at ep;have a1:S1[L]?=ag (RO o L):=by rw[← b,cR #[0]];exact h.obj
 have a2:S1[L+1]?=ag (.lst (G.map aC)):=by rw[← b,cR #[0]];exact h.VE
 have D:S1[L+2]?=ag (.LL (bv 0 (G++[r]))):=by rw[← b];exact fQ h.num
 have z:S1[L+3]?=ag (.LL (kK C)):=by rw[← b,cR #[0]];exact h.RJ
 have v:kG "Rows" "gathered" (.loc L) S1=ag (.loc (L+1)):=by unfold kG xV;simp only[a1,mz];simp[xl,rq1]
 have x:fz (.loc (L+1)) S1=ag (G.map aC):=by unfold fz;simp only[a2]
 have u:yt (.loc (L+1)) (aC r) S1=LB .LR (S1.set (L+1) (.lst ((G++[r]).map aC))):=by unfold yt;simp only[a2];rw[cc (by rw[dv];omega),Sv];rfl
 have g:SR B (S1.set (L+1) (.lst ((G++[r]).map aC))) L o (G++[r]) C:=by
  refine⟨?_,fQ a2,?_,?_,λk A=>by rw[cR #[0],← b,cR #[0]];exact h.fr k A⟩
  ·rw[cR #[0]];exact a1
  ·rw[cR #[0]];exact D
  rw[cR #[0]];exact z
 generalize J:S1.set (L+1) (.lst ((G++[r]).map aC))=S2 at u g;have s:=w.snoc a hr;have e:=jK ok (G++[r]) 0 s.ok;rw[cc #[3],lk,Z9,cn a] at e;have F:([r]:ak Row).idxOf r+G.length=G.length:=by simp
 have l:G.length+([r]:ak Row).idxOf r=G.length:=by simp
 refine⟨S2,[r],G.length,aA rfl ?_,g,s,by simp,by simp⟩
 have p:jd (.loc (L+2)) (aC r) S2=ag (.int (G.length:Nat)):=by
  unfold jd;simp only[g.num,d,dX,mz,e]
  first |rw[F] |rw[l]
 unfold dQ;simp[h.Sk,j,h.Qc,h.lst,ep,v,x,u,g.Sk,p]
end
section
variable {B:Nat->a5 MO}{S:Lq}{L:Nat}{o:ak Nat}{G:ak Row}{C:ak (Row×Nat)}
theorem DB (h:SR B S L o G C)(w:Wf o G){c a b:Nat}(hc:c∈o)(ha:a<G.length)(hb:b<G.length)(x:#[12]<LJ.pl o G a)(q:#[12]<LJ.pl o G b)(hz:G.length<16000000) :
  ∃ f E i,bK [.loc L,.int c,.int a,.int b] S=LB (.int (i:Nat)) f/\SR B f L o (G++E) C/\Wf o (G++E)/\i<(G++E).length/\#[12]<=LJ.pl o (G++E) i/\E.length<=1/\∀ d ss,Ev (G++E) d (sel d c a b) ss->Ev (G++E) d i ss:=by
 have l:=yd a b;by_cases e:a=b
 ·subst e;rw[gx rfl] at l;refine⟨S,[],a,aA rfl ?_,by rw[ia];exact h,by rw[ia];exact w,by rw[ia];exact ha,by rw[ia];omega,by simp,λd ss k=>?_⟩
  ·unfold cu;simp
  unfold sel at k;simpa using k
 rw[dV e] at l;obtain⟨f,E,i,j,t,p,g,v⟩:=rL h w (r:=.ask c a b) ⟨hc,ha,hb,x,q,e⟩ hz;have n:=(ba.mp g).1;have s:=h.has "number_of" #[2];have m:NV [.int c,.int a,.int b] (.tup [.int c,.int a,.int b])=ag (.tup [.int c,.int a,.int b]):=bR #[3];have j:bS [.loc L,.tup [.int c,.int a,.int b]] S=LB (.int (i:Nat)) f:=j;have u:¬ ((a:Int)=b):=#[1]
 refine⟨f,E,i,aA rfl ?_,t,p,n,?_,v,λd ss k=>?_⟩
 ·unfold cu;simp[u,s,m,j]
 ·unfold LJ.pl;rw[g];exact e9 _
 unfold sel at k;cases ht:d c with
 |false=>rw[ht] at k;exact .no g ht (by simpa using k)
 |true=>rw[ht] at k;exact .yes g ht (by simpa using k)
def yA (B:Nat->a5 MO)(L:Nat)(o:ak Nat)(G:ak Row)(C:ak (Row×Nat))(c i j N M:Nat)(out:Out D):Prop:=
 ∃ b E a r,out=LB (.int (r:Nat)) b/\SR B b L o (G++E) a/\Wf o (G++E)/\(∀ p∈a,Od o (G++E) p.1 p.2)/\Od o (G++E) (.ask c i j) r/\E.length<=N/\a.length<=C.length+M
theorem rF {r:Row}{v:Nat}(h:Od o G r v):dE r:=by
 cases r with
 |leaf _=>exact h.elim
 |ask _ _ _=>trivial
theorem SR.put (h:SR B S L o G C)(m:∀ p∈C,Od o G p.1 p.2)(c i j v:Nat)(hz:C.length<16000000)(ρ:Lr) :
  ∃ d,pp (.loc (L+3)) (aC (.ask c i j)) (.int v) ρ S=LB (.next ρ) d/\SR B d L o G (nY C (.ask c i j) v)/\jd (.loc (L+3)) (aC (.ask c i j)) d=ag (.int v):=by
 have f:=lA (r:=.ask c i j) TC;have e:∀ p∈C,dE p.1:=λp l=>rF (m p l);have q:S.set (L+3) (.LL (putN (kK C) (aC (.ask c i j)) (.int v)))=S.set (L+3) (.LL (kK (nY C (.ask c i j) v))):=by rw[z5 e (r:=.ask c i j) TC]
 refine⟨S.set (L+3) (.LL (kK (nY C (.ask c i j) v))),?_,⟨?_,?_,?_,fQ h.RJ,λk n=>by rw[cR #[0]];exact h.fr k n⟩,?_⟩
 ·unfold pp;simp only[h.RJ,f];rw[cc ⟨by unfold kK;rw[dv];exact i3 hz #[2],dX _⟩,q]
 ·rw[cR #[0]];exact h.obj
 ·rw[cR #[0]];exact h.VE
 ·rw[cR #[0]];exact h.num
 have g:=fQ (b:=.LL (kK (nY C (.ask c i j) v))) h.RJ;unfold jd;simp only[g,f,dX,mz];rw[← z5 e (r:=.ask c i j) TC];exact Bk (by rw[gK (a:=.ask c i j) (b:=.ask c i j) TC TC];simp)
theorem IP {n x f a b:Nat}(h:x<n+1+f)(c:f<x)(d:f<a)(e:f<b):x<n+XP x (XP a b):=by have:f+1<=XP x (XP a b):=Nat.le_min.mpr ⟨c,Nat.le_min.mpr ⟨d,e⟩⟩;omega
theorem half {g p q N:Nat}(h:g+q<=N)(e:q=2*p):g+p<=N:=by omega
theorem I_ {g d p q l N:Nat}(h:g+q<=N)(e:q=2*p)(k:d<=p-1)(b : 1<=p)(a:l=g+d):l+p<=N:=by omega
theorem I0 {g d p q N:Nat}(h:g+q<=N)(e:q=2*p)(k:d<=g+(p-1))(a : 1<=p):d+p<=N:=by omega
theorem fy {G E:ak Row}{i:Nat}(h:i<G.length):i<(G++E).length:=by rw[cv];omega
theorem Fy (nd:o.Nodup){F:Lp}{n:Nat}(IH:∀ {S:Lq}{G:ak Row}{C:ak (Row×Nat)}{c i j:Nat},SR B S L o G C->Wf o G->(∀ p∈C,Od o G p.1 p.2)->c∈o->i<G.length->j<G.length->#[12]<n+XP (#[12]) (XP (LJ.pl o G i) (LJ.pl o G j))->G.length+2 ^ n<=16000000->C.length+2 ^ n<=16000000->yA B L o G C c i j (2 ^ n-1) (2 ^ n-1) (F [.loc L,.int c,.int i,.int j] S))
  {c i j:Nat}(h:SR B S L o G C) (w:Wf o G) (hC:∀ p∈C,Od o G p.1 p.2) (hc:c∈o) (s:i<G.length) (r:j<G.length) (t:#[12]<n+1+XP (#[12]) (XP (LJ.pl o G i) (LJ.pl o G j))) (hz:G.length+2 ^ (n+1)<=16000000) (Vc:C.length+2 ^ (n+1)<=16000000) :
  yA B L o G C c i j (2 ^ (n+1)-1) (2 ^ (n+1)-2) (cX F [.loc L,.int c,.int i,.int j] S):=by
 have P : 2 ^ (n+1)=2*2 ^ n:=by rw[RA];omega
 have p1 : 1<=2 ^ n:=Vg;obtain⟨f,u,O,e1⟩:=Da h w nd hc s r;have gc:o.idxOf f<=#[12]:=O▸abe _ _;have gi:o.idxOf f<=LJ.pl o G i:=O▸fg (YJ _ _) (abe _ _);have gj:o.idxOf f<=LJ.pl o G j:=O▸fg (YJ _ _) (YJ _ _);rw[← O] at t;have hq:=yd f c;have Zg:=h.has "first_character" #[2];have Vw:=h.has "number_of_ask" #[2];have A:=h.has "side" #[2];have hm4:=h.has "choose" #[2];by_cases ZI:f=c
 ·subst ZI;rw[gx rfl] at hq;have y:=jy h s f a8;have H:=jy h r f a6;obtain⟨a1,a2,a3⟩:=jx w s a8 hc gi;obtain⟨T,U,b3⟩:=jx w r a6 hc gj;obtain⟨S',E,v,q1,sr,R,Y,pv,hE,Uj⟩:=DB h w hc a1 T a2 U #[0];refine⟨S',E,C,v,aA rfl ?_,sr,R,λp t=>(hC p t).app w,⟨fy s,fy r,Y,#[1],λd g k=>?_⟩,#[1],#[1]⟩
  ·unfold cT;simp only[gh,la,mz] at y H;simp[Zg,Vw,A,e1,y,H,q1]
  refine Uj d g ?_;have W:sel d f i j<G.length:=by unfold sel;split<;>assumption
  have k:=w.back W k;unfold sel at k ⊢;cases ht:d f with
  |false=>rw[ht] at k;exact(a3 d g ht (by simpa using k)).mono E
  |true=>rw[ht] at k;exact(b3 d g ht (by simpa using k)).mono E
 rw[dV ZI] at hq;have MQ:¬ ((f:Int)=c):=#[1]
 have Q:o.idxOf f<#[12]:=by
  rcases acy gc with q |q
  ·exact q
  exfalso;apply ZI;have a1:=UK (o3.mpr u);have a2:=UK (o3.mpr hc);rw[← a1,← a2];congr 1
 have y:=jy h s f a8;have H:=jy h r f a8;obtain⟨a1,a2,a3⟩:=jx w s a8 u gi;obtain⟨T,U,b3⟩:=jx w r a8 u gj;obtain⟨S1,e,C1,a,q1,I,w1,VF,ch1,l1,m1⟩:=IH h w hC hc a1 T (IP t Q a2 U) (half hz P) (half Vc P);obtain⟨_,_,va,pa,ZJ⟩:=ch1;have z:LJ.pl o (G++e) i=LJ.pl o G i:=cE s;have x:LJ.pl o (G++e) j=LJ.pl o G j:=cE r;have K:i<(G++e).length:=fy s;have M:j<(G++e).length:=fy r;have X5:(G++e).length=G.length+e.length:=cv;have t1:=jy I K f a6;have t2:=jy I M f a6;obtain⟨c1,c2,c3⟩:=jx w1 K a6 u (z▸gi);obtain⟨d1,d2,d3⟩:=jx w1 M a6 u (x▸gj);have Z:=I.has "side" #[2];have X:=I.has "choose" #[2];obtain⟨S2,l,C2,b,q2,Vd,R,ZK,ch2,l2,m2⟩:=IH I w1 VF hc c1 d1 (IP t Q c2 d2) (I_ hz P l1 p1 X5) (I0 Vc P m1 p1);obtain⟨_,_,vb,pb,ZL⟩:=ch2;have V:=Vd.has "number_of_ask" #[2];have lG2:(G++e++l).length=G.length+e.length+l.length:=by rw[cv,X5]
 rw[cE a1,cE T] at pa;rw[cE c1,cE d1] at pb;have ga:o.idxOf f<LJ.pl o (G++e++l) a:=by rw[cE va];exact i3 (lt_min.mpr ⟨Q,lt_min.mpr ⟨a2,U⟩⟩) pa
 have gb:o.idxOf f<LJ.pl o (G++e++l) b:=i3 (lt_min.mpr ⟨Q,lt_min.mpr ⟨c2,d2⟩⟩) pb;obtain⟨S3,m,v,q3,ZM,w3,Y,pv,l3,Uj⟩:=DB Vd R (c:=f) (a:=a) (b:=b) u (fy va) vb ga gb #[0];have D:G++(e++l++m)=G++e++l++m:=by simp
 have lG3:(G++e++l++m).length=G.length+e.length+l.length+m.length:=by rw[cv,lG2]
 refine⟨S3,e++l++m,C2,v,aA rfl ?_,by rw[D];exact ZM,by rw[D];exact w3,λp t=>by rw[D];exact(ZK p t).app R,?_,by rw[cv,cv];omega,#[1]⟩
 ·unfold cT;simp only[gh,la,mz] at y H t1 t2;simp[Zg,A,hm4,e1,MQ,y,H,q1,Z,X,t1,t2,q2,V,q3]
 rw[D];have px:LJ.pl o (G++e++l++m) i=LJ.pl o G i:=by rw[cE (fy K),cE K,z]
 have py:LJ.pl o (G++e++l++m) j=LJ.pl o G j:=by rw[cE (fy M),cE M,x]
 refine⟨fy (fy K),fy (fy M),Y,by rw[px,py,← O];exact pv,λd g k=>?_⟩;refine Uj d g ?_;have W:sel d c i j<G.length:=by unfold sel;split<;>assumption
 have k:Ev G d (sel d c i j) g:=w.back (E:=e++l++m) W (by rw[D];exact k);cases ht:d f with
 |false =>
  have:Ev (G++e) d (sel d c (sd G i f a8) (sd G j f a8)) g:=by
   unfold sel at k ⊢;by_cases N:d c=a6
   ·rw[cc N] at k ⊢;exact(b3 d g ht k).mono e
   rw[cn N] at k ⊢;exact(a3 d g ht k).mono e
  have:=ZJ d g this;show Ev _ d (if d f=a6 then b else a) g;rw[ht];exact(this.mono l).mono m
 |true =>
  have J:Ev (G++e) d (sel d c i j) g:=k.mono e
  have:Ev (G++e++l) d (sel d c (sd (G++e) i f a6) (sd (G++e) j f a6)) g:=by
   unfold sel at J ⊢;by_cases N:d c=a6
   ·rw[cc N] at J ⊢;exact(d3 d g ht J).mono l
   rw[cn N] at J ⊢;exact(c3 d g ht J).mono l
  have:=ZL d g this;show Ev _ d (if d f=a6 then b else a) g;rw[ht];exact this.mono m
theorem sH (nd:o.Nodup):∀ (n:Nat) {S:Lq}{G:ak Row}{C:ak (Row×Nat)}{c i j:Nat},SR B S L o G C->Wf o G->(∀ p∈C,Od o G p.1 p.2)->c∈o->i<G.length->j<G.length->#[12]<n+XP (#[12]) (XP (LJ.pl o G i) (LJ.pl o G j))->G.length+2 ^ n<=16000000->C.length+2 ^ n<=16000000->yA B L o G C c i j (2 ^ n-1) (2 ^ n-1) (d5 n [.loc L,.int c,.int i,.int j] S)
 | 0,S,G,C,c,i,j,h,w,d,hc,l,z,f,F,A=>ib f #[0]
 |n+1,S,G,C,c,i,j,h,w,d,hc,l,z,f,F,A=>by
  have u:=lA (r:=.ask c i j) TC;have Q:∀ p∈C,dE p.1:=λp f=>rF (d p f);have g:=Fo Q (r:=.ask c i j) TC;have t:NV [.int c,.int i,.int j] (.tup [.int c,.int i,.int j])=ag (.tup [.int c,.int i,.int j]):=bR #[3];have V : 1<=2 ^ n:=Vg;have U : 2 ^ (n+1)=2*2 ^ n:=by rw[RA];omega
  have s:aC (.ask c i j) = .tup [.int c,.int i,.int j]:=rfl;cases hf:C.find? (λp=>ei (p.1=Row.ask c i j)) with
  |some p =>
   rw[hf] at g;have I:=List.mem_of_find?_eq_some hf;have N:p.1 = .ask c i j:=by simpa using adD hf
   have a:=d p I;rw[N] at a;have e:pH a6 (aC (.ask c i j)) (.loc (L+3)) S=ag (.bl a8):=by unfold pH;simp only[h.RJ,u,dX,mz,g];rfl
   have b:jd (.loc (L+3)) (aC (.ask c i j)) S=ag (.int (p.2:Nat)):=by unfold jd;simp only[h.RJ,u,dX,mz,g];rfl
   rw[s] at e b;refine⟨S,[],C,p.2,aA rfl ?_,by rw[ia];exact h,by rw[ia];exact w,by rw[ia];exact d,by rw[ia];exact a,by simp,#[1]⟩;unfold dY;simp[t,h.Pm,e,b]
  |none =>
   rw[hf] at g;have e:pH a6 (aC (.ask c i j)) (.loc (L+3)) S=ag (.bl a6):=by unfold pH;simp only[h.RJ,u,dX,mz,g];rfl
   rw[s] at e;have K:=h.has "choose_anew" #[2];by_cases M:i=j
   ·subst M;have a:Od o G (.ask c i i) i:=⟨l,l,l,#[1],λX T k=>by unfold sel at k;simpa using k⟩;obtain⟨x,ep,m,b⟩:=h.put d c i i i #[0] [ag (.loc L),ag (.int c),ag (.int i),ag (.int i),ag (.tup [.int c,.int i,.int i])];rw[s] at ep b;have pl:=vf C (.ask c i i) i;refine⟨x,[],nY C (.ask c i i) i,i,aA rfl ?_,by rw[ia];exact m,by rw[ia];exact w,by rw[ia];exact vg d a,by rw[ia];exact a,by simp,#[1]⟩;unfold dY;simp[t,h.Pm,e,ep,m.Pm,b]
   have P:¬ ((i:Int)=j):=#[1]
   obtain⟨W,E,D,v,q,y,J,H,a,O,R⟩:=Fy nd (λ{S G C c i j}=>sH nd n (S:=S) (G:=G) (C:=C) (c:=c) (i:=i) (j:=j)) h w d hc l z f F A;obtain⟨x,ep,m,b⟩:=y.put H c i j v #[0] [ag (.loc L),ag (.int c),ag (.int i),ag (.int j),ag (.tup [.int c,.int i,.int j])];rw[s] at ep b;have pl:=vf D (.ask c i j) v;refine⟨x,E,nY D (.ask c i j) v,v,aA rfl ?_,m,J,vg H a,a,O,#[1]⟩;unfold dY;simp[t,h.Pm,e,P,K,q,y.Pm,ep,m.Pm,b]
end
inductive KQ (m:Nat):Nat->D->Prop
 |leaf {k:Nat}{ss:ak el}:(∀ x∈ss,eT x=a6)->VD ss=a6->ss.length<=6->KQ m k (aC (.leaf ss))
 |ask {k c:Nat}{x y:D}:c<m->KQ m k x->KQ m k y->KQ m (k+1) (.tup [.str "ask",.int c,x,y])
inductive Kv (th:Th):D->ak el->Prop
 |leaf {ss:ak el}:Kv th (aC (.leaf ss)) ss
 |no {c:Nat}{x y:D}{ss:ak el}:th c=a8->Kv th x ss->Kv th (.tup [.str "ask",.int c,x,y]) ss
 |yes {c:Nat}{x y:D}{ss:ak el}:th c=a6->Kv th y ss->Kv th (.tup [.str "ask",.int c,x,y]) ss
theorem eqs (w s:el):Nb (.str w) (.str s)=ag (.bl (ei (w=s))):=by rw[De rfl];rfl
theorem Ac:¬ ("ask":el)="names":=by decide
section
variable {B:Nat->a5 MO}{L:Nat}{o:ak Nat}
theorem EL (nd:o.Nodup)(hl:o.length<=8){m:Nat}(ho:∀ c,c<m->c∈o){k:Nat}{d:D}(hd:KQ m k d):∀ (fuel:Nat) {S:Lq}{G:ak Row}{C:ak (Row×Nat)},k<fuel->SR B S L o G C->Wf o G->(∀ p∈C,Od o G p.1 p.2)->G.length+512*2 ^ (k+1)<=16000000->C.length+512*2 ^ (k+1)<=16000000 ->
  ∃ F E P r,cP fuel [.loc L,d] S=LB (.int (r:Nat)) F/\SR B F L o (G++E) P/\Wf o (G++E)/\(∀ p∈P,Od o (G++E) p.1 p.2)/\r<(G++E).length/\E.length+512<=512*2 ^ (k+1)/\P.length+512<=C.length+512*2 ^ (k+1)/\∀ g ss,Kv g d ss->Ev (G++E) g r ss:=by
 induction hd with
 | @leaf k ss h1 h2 _ =>
  intro fuel S G C hf h w O hz Vc;obtain⟨fuel,rfl⟩:∃ f,fuel=f+1:=⟨fuel-1,#[1]⟩;have p1 : 1<=2 ^ k:=Vg;have Z : 2 ^ (k+1)=2*2 ^ k:=by rw[RA];omega
  obtain⟨F,E,i,J,sr,M,V,hE⟩:=rL h w (r:=.leaf ss) ⟨h1,h2⟩ #[0];have N:=h.has "number_of" #[2];have e0:Mu (aC (.leaf ss)) (.int 0) S=ag (.str "names"):=Sj _ _ S;have A:=eqs "names" "names";rw[gx rfl] at A;refine⟨F,E,C,i,aA rfl ?_,sr,M,λp hp=>(O p hp).app w,(ba.mp V).1,#[1],#[1],λg Y k=>?_⟩
  ·unfold eO;simp[e0,A,N,J]
  generalize H:aC (.leaf ss)=D0 at k;cases k with
  |leaf =>
   have hs:ss=Y:=by simp only[aC,D.tup.injEq,vr,and_true,true_and] at H;exact(acz (λa b h=>by cases h;rfl)).mp H
   subst hs;exact .leaf V
  |no=>simp[aC] at H
  |yes=>simp[aC] at H
 | @ask k c x y hc _ _ W iy =>
  intro fuel S G C hf h w O hz Vc;obtain⟨fuel,rfl⟩:∃ f,fuel=f+1:=⟨fuel-1,#[1]⟩;have p1 : 1<=2 ^ (k+1):=Vg;have Z : 2 ^ (k+1+1)=2*2 ^ (k+1):=by rw[RA];omega
  obtain⟨S1,l,C1,z,J,Pc,w1,VF,v1,l1,m1,ZN⟩:=W fuel #[0] h w O #[0] #[0];have X5:(G++l).length=G.length+l.length:=cv;obtain⟨S2,n,C2,I,X,Vd,M,ZK,v2,l2,m2,ZO⟩:=iy fuel #[0] Pc w1 VF #[0] #[0];have lG2:(G++l++n).length=G.length+l.length+n.length:=by rw[cv,X5]
  have t:=ho c hc;have T4:#[12]<o.length:=o3.mpr t;have N:=h.has "choose" #[2];obtain⟨S3,s,R,v,q3,ZM,w3,K,ch,U,T⟩:=sH nd 9 Vd M ZK t (i:=z) (j:=I) #[0] v2 #[0] (by show _+512<=_;omega) (by show _+512<=_;omega);obtain⟨_,_,vv,_,Uj⟩:=ch;have U:s.length<=511:=U;have T:R.length<=C2.length+511:=T;have u:G++(l++n++s)=G++l++n++s:=by simp
  have a0:Mu (.tup [.str "ask",.int c,x,y]) (.int 0) S=ag (.str "ask"):=Sj _ _ S;have A:=eqs "ask" "names";rw[dV Ac] at A;refine⟨S3,l++n++s,R,v,aA rfl ?_,by rw[u];exact ZM,by rw[u];exact w3,by rw[u];exact K,by rw[u];exact vv,by rw[cv,cv];omega,#[1],λg ss q=>?_⟩
  ·unfold eO;simp[Sj,Tw,at2,at3,A,N,J,X,q3]
  rw[u];refine Uj g ss ?_;cases q with
  |no Q q =>
   have:Ev (G++l++n) g z ss:=(ZN g ss q).mono n;have e:sel g c z I=z:=by unfold sel;rw[Q];rfl
   rw[e];exact this.mono s
  |yes Q q =>
   have e:sel g c z I=I:=by unfold sel;rw[Q];rfl
   rw[e];exact(ZO g ss q).mono s
end
inductive Tr where
 |leaf (ss:ak el)
 |node (c:Nat) (n y:Tr)
 deriving DecidableEq
noncomputable def Md:Tr->Th->ak el
 | .leaf b,_=>b
 | .node c n y,a=>if a c=a6 then Md y a else Md n a
noncomputable def tp (o:ak Nat):Tr->Nat
 | .leaf _=>o.length
 | .node c _ _=>o.idxOf c
noncomputable def Ord (o:ak Nat):Tr->Prop
 | .leaf _=>True
 | .node c n y=>c∈o/\Ord o n/\Ord o y/\#[12]<tp o n/\#[12]<tp o y/\n≠y
noncomputable def QT:Tr->Nat
 | .leaf _ => 1
 | .node _ n y=>QT n+QT y+1
noncomputable def upd (a:Th) (c:Nat) (b:eM):Th:=λx=>if x=c then b else a x
theorem LD (a:Th)(c:Nat)(b:eM):upd a c b c=b:=by simp[upd]
theorem oh {o:ak Nat}{c:Nat}:∀ {t:Tr},Ord o t->#[12]<tp o t->∀ (a:Th) (b:eM),Md t (upd a c b)=Md t a
 | .leaf _,_,_,_,_=>rfl
 | .node d n y,h,f,a,b=>by
  obtain⟨_,l,j,q,p,_⟩:=h;have f:#[12]<o.idxOf d:=f;have m:¬ d=c:=λe=>by rw[e] at f;omega
  have g:=oh l (show #[12]<tp o n by omega) a b;have i:=oh j (show #[12]<tp o y by omega) a b;have k:upd a c b d=a d:=by simp[upd,m]
  show (if upd a c b d=a6 then Md y (upd a c b) else Md n (upd a c b))=_;rw[g,i,k];rfl
theorem Gc {o:ak Nat}{c:Nat}{n y:Tr}(h:Ord o (.node c n y))(a:Th):Md (.node c n y) (upd a c a8)=Md n a:=by show (if upd a c a8 c=a6 then _ else Md n (upd a c a8))=_;rw[LD,oh h.2.1 h.2.2.2.1];rfl
theorem DX {o:ak Nat}{c:Nat}{n y:Tr}(h:Ord o (.node c n y))(a:Th):Md (.node c n y) (upd a c a6)=Md y a:=by show (if upd a c a6 c=a6 then Md y (upd a c a6) else _)=_;rw[LD,oh h.2.2.1 h.2.2.2.2.1];rfl
inductive Un (G:ak Row):Nat->Tr->Prop
 |leaf {i:Nat}{ss:ak el}:G[i]?=ag (.leaf ss)->Un G i (.leaf ss)
 |node {i c n y:Nat}{s t:Tr}:G[i]?=ag (.ask c n y)->Un G n s->Un G y t->Un G i (.node c s t)
theorem Un.det {G:ak Row}{i:Nat}{s t:Tr}(h:Un G i s)(g:Un G i t):s=t:=by
 induction h generalizing t with
 |leaf h=>cases g with
  |leaf c=>rw[h] at c;cases c;rfl
  |node c=>rw[h] at c;cases c
 |node h _ _ e d=>cases g with
  |leaf c=>rw[h] at c;cases c
  |node c a b=>rw[h] at c;cases c;rw[e a,d b]
theorem Un.ev {G:ak Row}{i:Nat}{t:Tr}(h:Un G i t)(a:Th):Ev G a i (Md t a):=by
 induction h with
 |leaf h=>exact .leaf h
 | @node i c n y s t h _ _ d b =>
  cases ht:a c with
  |false=>exact .no h ht (by rw[Md,ht];exact d)
  |true=>exact .yes h ht (by rw[Md,ht];exact b)
theorem Wf.un {o:ak Nat}{G:ak Row}(w:Wf o G):∀ (i:Nat),i<G.length->∃ t,Un G i t:=by
 intro i
 induction i using abd with
 |_ i a =>
  intro g;have e:G[i]?=ag G[i]:=a7 g;have q:=w.row i _ e;cases hr:G[i] with
  |leaf j=>rw[hr] at e;exact⟨_,.leaf e⟩
  |ask c n y =>
   rw[hr] at e q;obtain⟨_,f,d,_⟩:=q;obtain⟨s,b⟩:=a n f #[0];obtain⟨t,h⟩:=a y d #[0];exact⟨_,.node e b h⟩
theorem Un.inj {G:ak Row}(nd:G.Nodup){i:Nat}{t:Tr}(h:Un G i t):∀ {j:Nat},Un G j t->i=j:=by
 have key:∀ {a b:Nat}{r:Row},G[a]?=ag r->G[b]?=ag r->a=b:=by intro a b r f hb;have p:=(ba.mp f).1;have o:=(ba.mp hb).1;have l:=(ba.mp f).2;have n:=(ba.mp hb).2;have e:=nd.idxOf_getElem a p;have d:=nd.idxOf_getElem b o;rw[← e,← d,l,n]
 induction h with
 |leaf h=>intro j g;cases g with
  |leaf c=>exact key h c
 |node h _ _ e d=>intro j g;cases g with
  |node c a b =>
   have k:=e a;have m:=d b;subst k m;exact key h c
theorem Un.pl {o:ak Nat}{G:ak Row}{i:Nat}{t:Tr}(h:Un G i t):LJ.pl o G i=tp o t:=by
 unfold LJ.pl;cases h with
 |leaf h=>rw[h];rfl
 |node h _ _=>rw[h];rfl
noncomputable def po:Tr->ak Tr->ak Tr
 | .leaf b,a=>if Tr.leaf b∈a then a else a++[.leaf b]
 | .node c n y,a=>if Tr.node c n y∈a then a else po y (po n a)++[.node c n y]
noncomputable def Kd (P:ak Tr):Tr->Row
 | .leaf a => .leaf a
 | .node c n y => .ask c (P.idxOf n) (P.idxOf y)
noncomputable def enc (P:ak Tr):ak Row:=P.map (Kd P)
open Classical in
noncomputable def uT (G:List Row) (i:Nat):Tr:=if h:∃ t,Un G i t then Classical.choose h else .leaf []
theorem Un.uT {G:ak Row}{i:Nat}{t:Tr}(h:Un G i t):LJ.uT G i=t:=by unfold LJ.uT;have e:∃ t,Un G i t:=⟨t,h⟩;rw[YP e];exact(Classical.choose_spec e).det h
theorem Wf.uT {o:ak Nat}{G:ak Row}(w:Wf o G){i:Nat}(a:i<G.length):Un G i (LJ.uT G i):=by obtain⟨t,h⟩:=w.un i a;rw[h.uT];exact h
theorem w4 {o:ak Nat}{G:ak Row}(w:Wf o G){i j:Nat}(a:i<G.length)(b:j<G.length)(h:LJ.uT G i=LJ.uT G j):i=j:=
 Un.inj w.nd (w.uT a) (h▸w.uT b)
theorem BI {o:ak Nat}{G:ak Row}(w:Wf o G){a:ak Nat}(d:∀ i∈a,i<G.length){j:Nat}(c:j<G.length)(h:LJ.uT G j∈a.map (LJ.uT G)):j∈a:=by obtain⟨k,b,e⟩:=q5.mp h;rw[← w4 w (d k b) c e];exact b
theorem i9 {t:Tr}{a:ak Tr}(h:t∈a):po t a=a:=by cases t<;>(unfold po;rw[cc h])
theorem lG {ss:ak el}{a:ak Tr}(h:Tr.leaf ss∉a):po (.leaf ss) a=a++[.leaf ss]:=by unfold po;rw[cn h]
theorem lD {c:Nat}{n y:Tr}{a:ak Tr}(h:Tr.node c n y∉a):po (.node c n y) a=po y (po n a)++[.node c n y]:=by rw[po,cn h]
noncomputable def lf (a:ak Nat):ak (D×D):=a.map λ(k:Nat)=>(D.int k,D.bl a6)
theorem jz (a b:Nat):ft (.int a) (.int b)=ei (a=b):=by
 unfold ft;by_cases h:a=b
 ·simp[h]
 rw[dV h];have:¬ ((a:Int)=b):=#[1]
 simp[fN,this]
theorem zj (k:Nat):∀ b:ak Nat,((lf b).find? λp=>ft p.1 (.int k)).isSome=ei (k∈b)
 |[]=>by simp[lf]
 |a::b=>by
  have c:=zj k b;unfold lf at c ⊢;rw[fh,rp];simp only[jz];by_cases h:a=k
  ·simp[h]
  rw[dV h];simp only;rw[c];have:¬ k=a:=λe=>h e.symm;simp[this]
theorem G6 (k:Nat)(b:ak Nat):((lf b).any λp=>ft p.1 (.int k))=ei (k∈b):=by
 induction b with
 |nil=>simp[lf]
 |cons a b c =>
  unfold lf at c ⊢;rw[fh,R_,c,jz];by_cases h:a=k
  ·simp[h]
  have:¬ k=a:=λe=>h e.symm;simp[h,this]
theorem G5 {k:Nat}{a:ak Nat}(h:k∉a):putD (lf a) (.int k) (.bl a6)=lf (a++[k]):=by unfold putD;rw[G6,dV h,cn #[2]];unfold lf;rw[Sv];rfl
theorem IR {S:Lq}{l:Nat}{a:ak Nat}(h:S[l]?=ag (.dict (lf a)))(k:Nat):RF a6 (.int k) (.loc l) S=ag (.bl (!ei (k∈a))):=by unfold RF;rw[cc rfl];unfold Fh;simp only[h,fN];unfold getD;rw[Sa,zj];rfl
structure Cl (G:ak Row) (Ls:ak Nat):Prop where
 nd:Ls.Nodup
 lt:∀ i∈Ls,i<G.length
 dn:∀ (p i c n y:Nat),Ls[p]?=ag i->G[i]?=ag (.ask c n y)->n∈Ls.take p/\y∈Ls.take p
theorem Cl.snoc {G:ak Row}{d:ak Nat}(h:Cl G d){j:Nat}(g:j<G.length)(k:j∉d)(hc:∀ c n y,G[j]?=ag (.ask c n y)->n∈d/\y∈d):Cl G (d++[j]):=by
 refine⟨Qf.mpr ⟨h.nd,by simp,λa l b hb=>?_⟩,λi hi=>?_,λp i c n y e f=>?_⟩
 ·rw[gA.mp hb];rintro rfl;exact k l
 ·rcases k6.mp hi with hi |hi
  ·exact h.lt i hi
  rw[gA.mp hi];exact g
 rcases V5 p d.length with hl |hl |hl
 ·rw[h7 hl] at e;rw[Qu (J8 hl)];exact h.dn p i c n y e f
 ·subst hl;have:i=j:=by simpa using e.symm
  subst this;rw[Qu (e9 _),abN];exact hc c n y f
 rw[h6 #[0]] at e;have:([j]:ak Nat)[p-d.length]?=a4:=by rw[ZF];simp;omega
 rw[this] at e;cases e
section
variable {L:Nat}{o:ak Nat}{G:ak Row}
theorem wD (r:Row)(S:Lq):cD [aC r] S=LB (.tup (match r with | .leaf _=>[] | .ask _ n y=>[.int n,.int y])) S:=by
 have a:=jN r S;rw[3];unfold lN;cases r with
 |leaf d =>
  have b:NV [] (.tup [])=ag (.tup []):=bR #[3];simp[a,b]
 |ask c n y =>
  have:QJ (aC (.ask c n y)) (ag 1) a4=ag (.tup [.int n,.int y]):=rfl;simp[a,Bf,this]
def Ai (F:Lp)(w:Nat)(N:Nat)(G:ak Row)(o:ak Nat)(g:Nat):Prop:=
 ∀ (j:Nat) (a:ak Nat) (S:Lq) (l:Nat),o.length+1<=w+LJ.pl o G j->j<G.length->j∉a->S[g]?=ag (.lst (G.map aC))->S[l]?=ag (.dict (lf a))->g≠l->Cl G a->a.length+N<=10000 ->
  ∃ X,F [.loc g,.int j,.loc l] S=LB .LR (S.set l (.dict (lf (a++X++[j]))))/\Cl G (a++X++[j])/\(∀ x∈X,x<j)/\X.length+1<=N/\(a++X++[j]).map (LJ.uT G)=po (LJ.uT G j) (a.map (LJ.uT G))
theorem pK {F:Lp}{w N g:Nat}(m:Ai F w N G o g)(j k:Nat)(a:ak Nat)(S:Lq)(l:Nat)(h:o.length+1<=w+LJ.pl o G k)(n:k<G.length)(t:S[g]?=ag (.lst (G.map aC)))(d:S[l]?=ag (.dict (lf a)))(f:g≠l)(hc:Cl G a)(r:a.length+N<=10000) :
  ∃ X,ca F [ag (.loc g),ag (.int j),ag (.loc l),ag (.int k)] S=LB (.next [ag (.loc g),ag (.int j),ag (.loc l),ag (.int k)]) (S.set l (.dict (lf (a++X))))/\Cl G (a++X)/\(∀ x∈X,x<=k)/\k∈a++X/\X.length<=N/\(a++X).map (LJ.uT G)=po (LJ.uT G k) (a.map (LJ.uT G)):=by
 have c:=IR d k;by_cases b:k∈a
 ·rw[gx b] at c
  have p:S.set l (.dict (lf (a++[])))=S:=by
   rw[ia];apply W8;intro i;by_cases e:l=i
   ·subst e;rw[fQ d,d]
   rw[cR e]
  refine⟨[],?_,by rw[ia];exact hc,(λx hx=>by cases hx),by rw[ia];exact b,by simp,by rw[ia,i9 (U7 b)]⟩;rw[p];unfold ca;simp[c]
 rw[dV b] at c;obtain⟨X,q,s,v,nx,u⟩:=m k a S l h n b t d f hc r;refine⟨X++[k],?_,by rw[← j0];exact s,λx hx=>?_,by simp,by simpa using nx,by rw[← j0];exact u⟩
 ·unfold ca;simp[c,q]
 rcases k6.mp hx with hx |hx
 ·exact J8 (v x hx)
 rw[gA.mp hx];exact e9 _
theorem vJ (w:Wf o G)(g:Nat):∀ fuel:Nat,Ai (bp fuel) fuel (2 ^ fuel-1) G o g
 | 0,j,a,S,l,E,_,_,_,_,_,_,_=>ib E (by have:=IB o G j;omega)
 |n+1,j,a,S,l,E,hj,hnm,hg,hl,R4,hc,hN=>by
  have F:=vJ w g n;have p2 : 2 ^ (n+1)=2*2 ^ n:=by rw[RA];omega
  have p1 : 1<=2 ^ n:=Vg;have e:G[j]?=ag G[j]:=a7 hj;have q:=w.row j _ e;have Y:fz (.loc g) S=ag (G.map aC):=by unfold fz;simp only[hg]
  have v:lL (.loc g) (.int j) S=ag (aC G[j]):=by show ((fz (.loc g) S).bind λU=>O3 U (j:Int))=_;rw[Y,lr];exact bn (by rw[dk,e];rfl)
  have A:=wD G[j] S;have J:bN (.loc g)=a6:=rfl;have T:∀ k:Nat,fN (.int k)=ag (.inl (k:Int)):=λk=>rfl
  have finish:∀ (d:ak Nat) (t:Lq) (z:a5 D),t=S.set l (.dict (lf d))->j∉d->d.length<=20000->yp (ah 2) (ah 1) (aG (.bl a6)) [ag (.loc g),ag (.int j),ag (.loc l),z] t=LB (.next [ag (.loc g),ag (.int j),ag (.loc l),z]) (S.set l (.dict (lf (d++[j])))):=by
   intro d t z K V r;have W:t[l]?=ag (.dict (lf d)):=by rw[K];exact fQ hl
   have O:(lf d).length<da:=by unfold lf;rw[dv];exact acn r #[2]
   have:ve (.loc l) (.int j) (.bl a6) [ag (.loc g),ag (.int j),ag (.loc l),z] t=LB (.next [ag (.loc g),ag (.int j),ag (.loc l),z]) (S.set l (.dict (lf (d++[j])))):=by unfold ve;simp only[W,T];rw[cc O,G5 V,K,acZ]
   simp[this]
  cases hr:G[j] with
  |leaf H =>
   rw[hr] at A v
   have fin:=finish a S a4 (by
    apply W8;intro i;by_cases M:l=i
    ·subst M;rw[fQ hl,hl]
    rw[cR M]) hnm #[0]
   have f:LJ.uT G j = .leaf H:=(Un.leaf (by rw[e,hr])).uT;have C:Tr.leaf H∉a.map (LJ.uT G):=λh=>hnm (BI w hc.lt hj (by rw[f];exact h));refine⟨[],?_,?_,(λx hx=>by cases hx),by simp;omega,by rw[ia,f,lG C,Sv,fh,abY,f]⟩
   ·rw[ia];unfold bp a_;rw[cc (show ([.loc g,.int j,.loc l]:ak D).length=3 from rfl)]
    have:eC (bp n) ([.loc g,.int j,.loc l].map ag++eh 1 a4) S=LB (.next [ag (.loc g),ag (.int j),ag (.loc l),a4]) (S.set l (.dict (lf (a++[j])))):=by
     unfold eC;show aP _ _ [ag (.loc g),ag (.int j),ag (.loc l),a4] S=_;rw[F0];have:kM (bM (aQ cD (af (Bx (ah 0) (ah 1)) aB))) (aE 3) (ca (bp n)) [ag (.loc g),ag (.int j),ag (.loc l),a4] S=LB (.next [ag (.loc g),ag (.int j),ag (.loc l),a4]) S:=by simp[J,v,A,cm,fV]
     rw[this];exact fin
    rw[this];rfl
   rw[ia];exact hc.snoc hj hnm λc n y h=>by rw[e,hr] at h;cases h
  |ask c B m =>
   rw[hr] at A v q;obtain⟨_,Z,b2,b3,b4,_⟩:=q;have pj:LJ.pl o G j=#[12]:=by unfold LJ.pl;rw[e,hr]
   obtain⟨b,N,Q,u,m1,n1,t1⟩:=pK F j B a S l #[0] #[0] hg hl R4 hc #[0];have X:(S.set l (.dict (lf (a++b))))[g]?=ag (.lst (G.map aC)):=by rw[cR (kg R4)];exact hg
   have P:(S.set l (.dict (lf (a++b))))[l]?=ag (.dict (lf (a++b))):=fQ hl;obtain⟨p,L,R,s,m2,n2,t2⟩:=pK F j m (a++b) _ l #[0] #[0] X P R4 Q (by rw[cv];omega);rw[acZ] at L
   have I:j∉a++b++p:=by
    intro hm;rcases k6.mp hm with hm |hm
    ·rcases k6.mp hm with hm |hm
     ·exact hnm hm
     have:=u j hm;omega
    have:=s j hm;omega
   have fin:=finish (a++b++p) _ (ag (.int m)) rfl I (by rw[cv,cv];omega);have f:LJ.uT G j = .node c (LJ.uT G B) (LJ.uT G m):=(Un.node (by rw[e,hr]) (w.uT #[0]) (w.uT #[0])).uT;have C:Tr.node c (LJ.uT G B) (LJ.uT G m)∉a.map (LJ.uT G):=λh=>hnm (BI w hc.lt hj (by rw[f];exact h));refine⟨b++p,?_,?_,λx hx=>?_,by rw[cv];omega,by rw[← j0,Sv,t2,t1,f,lD C,fh,abY,f]⟩
   ·unfold bp a_;rw[cc (show ([.loc g,.int j,.loc l]:ak D).length=3 from rfl)]
    have:eC (bp n) ([.loc g,.int j,.loc l].map ag++eh 1 a4) S=LB (.next [ag (.loc g),ag (.int j),ag (.loc l),ag (.int m)]) (S.set l (.dict (lf (a++(b++p)++[j])))):=by
     unfold eC;show aP _ _ [ag (.loc g),ag (.int j),ag (.loc l),a4] S=_;rw[F0];have:kM (bM (aQ cD (af (Bx (ah 0) (ah 1)) aB))) (aE 3) (ca (bp n)) [ag (.loc g),ag (.int j),ag (.loc l),a4] S=LB (.next [ag (.loc g),ag (.int j),ag (.loc l),ag (.int m)]) (S.set l (.dict (lf (a++b++p)))):=by simp[J,v,A,cm,fV,N,L]
     rw[this];simp only[eI];rw[← j0 a b p];exact fin
    rw[this];rfl
   ·rw[← j0];refine R.snoc hj I λc' n y h=>?_;rw[e,hr] at h;cases h;exact⟨UE _ m1,m2⟩
   rcases k6.mp hx with hx |hx
   ·have:=u x hx;omega
   have:=s x hx;omega
end
noncomputable def aY (p:Nat):ak Nat->ak (D×D)
 |[]=>[]
 |k::r=>(.int k,.int p)::aY (p+1) r
theorem Cz:∀ (l:ak Nat) (p:Nat),(aY p l).length=l.length
 |[],_=>rfl
 |k::r,p=>by rw[aY,hG,hG,Cz r]
theorem CB (k:Nat):∀ (l:ak Nat) (p:Nat),((aY p l).any λq=>ft q.1 (.int k))=ei (k∈l)
 |[],_=>by simp[aY]
 |a::l,p=>by
  rw[aY,R_,CB k l,jz];by_cases h:a=k
  ·simp[h]
  have:¬ k=a:=λe=>h e.symm;simp[h,this]
theorem CA (k:Nat):∀ (l:ak Nat) (p:Nat),getD (aY p l) (.int k)=if k∈l then ag (.int ((p+l.idxOf k:Nat):Int)) else a4
 |[],_=>rfl
 |a::l,p=>by
  have c:=CA k l (p+1);unfold L2.getD at c ⊢;rw[aY,rp];simp only[jz];by_cases h:a=k
  ·subst h;simp
  rw[dV h];simp only;rw[c];have d:¬ k=a:=λe=>h e.symm;have f:(a==k)=a8:=by simpa using h
  by_cases b:k∈l
  ·rw[cc b,cc (ee _ b),XU,f];simp only[cond_false];congr 2;omega
  rw[cn b,cn (by rw[fx];exact λq=>q.elim d b)]
theorem yX:∀ (l:ak Nat) (p k:Nat),aY p (l++[k])=aY p l++[(.int k,.int ((p+l.length:Nat):Int))]
 |[],p,k=>rfl
 |a::l,p,k=>by
  rw[abM,aY,yX l (p+1) k,aY,abM,hG,show p+1+l.length=p+(l.length+1) by omega]
theorem G1 {k:Nat}{l:ak Nat}(h:k∉l):putD (aY 0 l) (.int k) (.int l.length)=aY 0 (l++[k]):=by unfold putD;rw[CB,dV h,cn #[2],yX,lk]
noncomputable def Ul (a:ak Nat):Row->Row
 | .leaf b => .leaf b
 | .ask c n y => .ask c (a.idxOf n) (a.idxOf y)
noncomputable def FR (a:ak Nat)(G:ak Row):ak Row:=a.map λk=>Ul a ((G[k]?).getD (.leaf []))
def Wr (o:ak Nat)(G:ak Row):Prop:=∀ (i:Nat) (r:Row),G[i]?=ag r->Om o G i r
section
variable {B:Nat->a5 MO}{L:Nat}{o:ak Nat}{G:ak Row}
theorem qr {a:ak Nat}(h:Cl G a){p k:Nat}(b:a[p]?=ag k):∃ r,G[k]?=ag r/\(FR a G)[p]?=ag (Ul a r):=by have c:=h.lt k (ra b);refine⟨G[k],a7 c,?_⟩;unfold FR;rw[dk,b,UI,a7 c];rfl
theorem eY {a:ak Nat}{k:Nat}(h:k∈a):a[a.idxOf k]?=ag k:=by have b:=o3.mpr h;rw[a7 b,UK b]
theorem F4 {a:ak Nat}(h:Cl G a){k:Nat}(c:k∈a):LJ.pl o (FR a G) (a.idxOf k)=LJ.pl o G k:=by obtain⟨r,b,d⟩:=qr h (eY c);unfold LJ.pl;rw[b,d];cases r<;>rfl
theorem xX {a:ak Nat}{k p:Nat}(h:k∈a.take p):a.idxOf k<p:=by
 have b:(a.take p).idxOf k<(a.take p).length:=o3.mpr h;have c:(a.take p).length<=p:=List.length_take_le ..
 have e:a.idxOf k=(a.take p).idxOf k:=by
  conv=>lhs;rw[← H8 p a]
  rw[Z9,cc h]
 omega
theorem JA {a:ak Nat}(w:Wf o G)(h:Cl G a):Wr o (FR a G):=by
 intro p r b;have g:p<a.length:=by have:=(ba.mp b).1;simpa [FR] using this
 obtain⟨s,d,l⟩:=qr h (a7 g);rw[l] at b;cases b;have q:=w.row _ _ d;cases s with
 |leaf v=>exact q
 |ask c n y =>
  obtain⟨a1,a2,x,k,t,u⟩:=q;obtain⟨i,f⟩:=h.dn p _ c n y (a7 g) d;have m1:=N_ i;have m2:=N_ f;refine⟨a1,xX i,xX f,by rw[F4 h m1];exact k,by rw[F4 h m2];exact t,λe=>u ?_⟩;have j:=eY m1;have m:=eY m2;rw[e,m] at j;exact(h8 j).symm
theorem JB {g:ak Nat}(h:Cl G g){m:Th}{i:Nat}{ss:ak el}(e:Ev G m i ss):i∈g->Ev (FR g G) m (g.idxOf i) ss:=by
 induction e with
 | @leaf i ss b =>
  intro d;obtain⟨r,a,f⟩:=qr h (eY d);rw[b] at a;cases a;exact .leaf f
 | @no i c n y ss b k _ j =>
  intro d;obtain⟨r,a,f⟩:=qr h (eY d);rw[b] at a;cases a;obtain⟨o,l⟩:=h.dn _ _ c n y (eY d) b;exact .no f k (j (N_ o))
 | @yes i c n y ss b k _ j =>
  intro d;obtain⟨r,a,f⟩:=qr h (eY d);rw[b] at a;cases a;obtain⟨o,l⟩:=h.dn _ _ c n y (eY d) b;exact .yes f k (j (N_ l))
theorem A6 (w:Wf o G)(r:o.length<=8){S:Lq}{g i:Nat}(a:S[g]?=ag (.lst (G.map aC)))(l:i<G.length):∃ X,fJ [.loc g,.int i] S=LB (.lst ((X++[i]).map λ(k:Nat)=>D.int k)) (S++[.dict (lf (X++[i]))])/\Cl G (X++[i])/\X.length<=1022/\(X++[i]).map (LJ.uT G)=po (LJ.uT G i) []:=by
 have d:g<S.length:=(ba.mp a).1;have m:(S++[MO.dict (lf [])])[g]?=ag (.lst (G.map aC)):=by rw[h7 d];exact a
 have f:(S++[MO.dict (lf [])])[S.length]?=ag (.dict (lf [])):=by simp
 obtain⟨X,q,c,_,n,b⟩:=vJ w g 10 i [] (S++[.dict (lf [])]) S.length #[0] l #[3] m f #[0] ⟨VJ,(λi h=>by cases h),(λp i c n y h=>by simp at h)⟩ #[2];rw[Zk] at q c b;have es:(S++[MO.dict (lf [])]).set S.length (.dict (lf (X++[i])))=S++[.dict (lf (X++[i]))]:=by simp
 rw[es] at q;have n:X.length<=1022:=by have:X.length+1<=1023:=n;omega
 have q:bp 10 [.loc g,.int i,#[13]] (S++[.dict []])=LB .LR (S++[.dict (lf (X++[i]))]):=q;have e:(lf (X++[i])).length<=da:=by unfold lf;rw[dv,cv];exact fg (show X.length+1<=2000 by omega) #[2]
 have j:gQ (#[13]) (S++[.dict (lf (X++[i]))])=ag (.lst ((X++[i]).map λ(k:Nat)=>D.int k)):=by unfold gQ;simp only[List.getElem?_concat_length];rw[cc e];unfold lf;rw[rT];rfl
 refine⟨X,aA rfl ?_,c,n,b⟩;unfold jj;simp[q,j,-Sv]
theorem DR {S:Lq}{l:Nat}{a:ak Nat}(h:S[l]?=ag (.dict (aY 0 a)))(r:Row)(hr:∀ c n y,r = .ask c n y->n∈a/\y∈a):fH [aC r,.loc l] S=LB (aC (Ul a r)) S:=by
 have b:=jN r S;rw[3];unfold ji;cases r with
 |leaf o=>simp[b,Ul]
 |ask c n y =>
  obtain⟨j,m⟩:=hr c n y rfl;have i:Mu (aC (.ask c n y)) (.int 0) S=ag (.int c):=Sj _ _ S;have d:Mu (aC (.ask c n y)) (.int 1) S=ag (.int n):=Tw _ _ _ S;have g:Mu (aC (.ask c n y)) (.int 2) S=ag (.int y):=at2 _ _ _ _ S;have gt:∀ k,k∈a->Mu (.loc l) (.int (k:Nat)) S=ag (.int (a.idxOf k:Nat)):=λk f=>by have:=CA k a 0;rw[cc f,lk] at this;unfold Mu;rw[cc (show bN (.loc l)=a6 from rfl)];unfold zX;simp only[h,fN];exact this
  have e:NV [.int c,.int (a.idxOf n:Nat),.int (a.idxOf y:Nat)] (.tup [.int c,.int (a.idxOf n:Nat),.int (a.idxOf y:Nat)])=ag (aC (Ul a (.ask c n y))):=bR #[3];simp[b,i,d,g,gt n j,gt y m,e];rfl
theorem fold_eq {S:Lq}{C:ak (Row×Nat)}(h:SR B S L o G C)(w:Wf o G)(Z:o.length<=8){i:Nat}(hi:i<G.length):∃ f l,dW [.loc L,.int i] S=LB (.tup ((FR (f++[i]) G).map aC)) l/\Cl G (f++[i])/\f.length<=1022/\(f++[i]).map (LJ.uT G)=po (LJ.uT G i) []/\∃ x y,l=S++[x,y]:=by
 obtain⟨X,q,c,nX,px⟩:=A6 w Z h.VE hi;generalize r:X++[i]=f at *
 have lLs:f.length<=1023:=by rw[← r,cv];simp;omega
 generalize z:S++[MO.dict (lf f)]=S1 at *
 have m:SR (λi=>S1[i]?) S1 L o G C:=by
  have Nc:L+3<S.length:=(ba.mp h.RJ).1;refine⟨?_,?_,?_,?_,λ_ _=>rfl⟩<;>rw[← z,h7 #[0]]
  ·exact h.obj
  ·exact h.VE
  ·exact h.num
  exact h.RJ
 have F:L+3<S1.length:=(ba.mp m.RJ).1;have V:∀ k:Nat,fN (.int k)=ag (.inl (k:Int)):=λk=>rfl
 obtain⟨U,l,T,H⟩:=b7 (u:=iX 2 (aS (aE 4) (aS (aE 5) eS))) (body:=cU)
  (λp g l=>p<=f.length/\l=S1++[.dict (aY 0 (f.take p))]/\∃ a b,g=[ag (.loc L),ag (.int i),ag (.lst (f.map λ(k:Nat)=>D.int k)),ag (.loc S1.length),a,b])
  (bi 0 (f.map λ(k:Nat)=>D.int k)) 0 [ag (.loc L),ag (.int i),ag (.lst (f.map λ(k:Nat)=>D.int k)),ag (.loc S1.length),a4,a4] (S1++[.dict []]) ⟨#[1],rfl,a4,a4,rfl⟩ (by
   rintro p dd g l E ⟨MA,rfl,a,b,rfl⟩;rw[c9] at E;obtain⟨x,v,rfl⟩:=d7.mp E;rw[dk] at v;obtain⟨k,j,rfl⟩:=d7.mp v;have U_:p<f.length:=(ba.mp j).1;simp only[lk] at *
   have t:k∉f.take p:=by
    intro W;have h1:=xX W;have h2:f.idxOf k=p:=by have:=(ba.mp j).2;rw[← this];exact c.nd.idxOf_getElem p U_
    omega
   have lt:(f.take p).length=p:=by rw[Qr];omega
   have tk:f.take (p+1)=f.take p++[k]:=by rw[ad_,j];rfl
   have P:(aY 0 (f.take p)).length<da:=by rw[Cz,lt];exact i3 (show p<2000 by omega) #[2]
   have hg:(S1++[MO.dict (aY 0 (f.take p))])[S1.length]?=ag (.dict (aY 0 (f.take p))):=by simp
   have I:=G1 t;rw[lt] at I;have ep:∀ g,ve (.loc S1.length) (.int k) (.int p) g (S1++[.dict (aY 0 (f.take p))])=LB (.next g) (S1++[.dict (aY 0 (f.take (p+1)))]):=λg=>by unfold ve;simp only[hg,V];rw[cc P,I,tk];simp
   refine⟨[ag (.loc L),ag (.int i),ag (.lst (f.map λ(k:Nat)=>D.int k)),ag (.loc S1.length),ag (.int p),ag (.int k)],rfl,[ag (.loc L),ag (.int i),ag (.lst (f.map λ(k:Nat)=>D.int k)),ag (.loc S1.length),ag (.int p),ag (.int k)],S1++[.dict (aY 0 (f.take (p+1)))],?_,#[1],rfl,ag (.int p),ag (.int k),rfl⟩;unfold cU
   simp[ep])
 simp only[lk,bH,dv,abN] at H;obtain⟨_,rfl,a,b,rfl⟩:=H
 have A:SR (λi=>(S1++[MO.dict (aY 0 f)])[i]?) (S1++[.dict (aY 0 f)]) L o G C:=by
  refine⟨?_,?_,?_,?_,λ_ _=>rfl⟩<;>rw[h7 #[0]]
  ·exact m.obj
  ·exact m.VE
  ·exact m.num
  exact m.RJ
 have s:(S1++[MO.dict (aY 0 f)])[S1.length]?=ag (.dict (aY 0 f)):=by simp
 have J:=dR (u:=aE 0) (fe:=bY) (λg => ∃ y,g=[y,ag (.loc S1.length),ag (.loc L)]) (λd=>match d with | .int k=>aC (Ul f ((G[k.toNat]?).getD (.leaf []))) |_ => .LR) (S1++[.dict (aY 0 f)]) (f.map λ(k:Nat)=>D.int k)
  (bT 1 [3,0] [ag (.loc L),ag (.int i),ag (.lst (f.map λ(k:Nat)=>D.int k)),ag (.loc S1.length),a,b]) ⟨a4,rfl⟩ (by
   rintro d hd g ⟨y,rfl⟩;obtain⟨k,j,rfl⟩:=q5.mp hd;refine⟨_,rfl,⟨_,rfl⟩,?_⟩;have N:=c.lt k j;have e:G[k]?=ag G[k]:=a7 N;have K:=A.row e;have M:=DR s G[k] λO n y hr=>by obtain⟨d1,R⟩:=c.dn _ k O n y (eY j) (by rw[e,hr]);exact⟨N_ d1,N_ R⟩
   have Y:(G[(k:Int).toNat]?).getD (.leaf [])=G[k]:=by rw[UP,e];rfl
   show bY [ag (.int k),ag (.loc S1.length),ag (.loc L)] (S1++[.dict (aY 0 f)])=LB (aC (Ul f ((G[(k:Int).toNat]?).getD (.leaf [])))) (S1++[.dict (aY 0 f)]);rw[Y];unfold bY
   simp[A.Qc,K,M])
 have em:(f.map λ(k:Nat)=>D.int k).map (λd=>match d with | .int k=>aC (Ul f ((G[k.toNat]?).getD (.leaf []))) |_ => .LR)=(FR f G).map aC:=by unfold FR;rw[rT,rT];refine Ua λk _=>?_;simp
 rw[em] at J;refine⟨X,S1++[.dict (aY 0 f)],?_,by rw[r];exact c,nX,by rw[r];exact px,.dict (lf f),.dict (aY 0 f),by rw[← z];simp⟩;rw[r];rw[3];have Q:ug [.lst (f.map λ(k:Nat)=>D.int k)]=ag (bi 0 (f.map λ(k:Nat)=>D.int k)):=rfl;unfold gT;simp[h.Qc,q,Q,T,cm,J,iO,-rT]
end
theorem ll (S r:Lq)(fs:ak (el×D))(f:el)(v:D)(ρ:Lr)(h:fs.length<1000):o5 "Rows" f (#[13]) v ρ (S++MO.ins "Rows" fs::r)=LB (.next ρ) (S++MO.ins "Rows" (nG f v fs)::r):=by
 have e:(S++MO.ins "Rows" fs::r)[S.length]?=ag (.ins "Rows" fs):=by simp
 unfold o5;simp only[e];rw[cc ⟨TC,h⟩];simp
theorem rn1:¬ ("order":el)="gathered":=by decide
theorem rn2:¬ ("order":el)="numbers":=by decide
theorem rn3:¬ ("gathered":el)="numbers":=by decide
theorem rn4:¬ ("order":el)="choices":=by decide
theorem rn5:¬ ("gathered":el)="choices":=by decide
theorem rn6:¬ ("numbers":el)="choices":=by decide
theorem B8 (S:Lq)(o:ak Nat):b9 [#[13],oD o] (S++[.ins "Rows" []])=LB .LR (S++[RO o S.length,.lst [],.LL [],.LL []]):=by
 have c:=λa=>ll S [] [] "order" (oD o) a #[2];have d:=λa=>ll S [.lst []] [("order",oD o)] "gathered" (.loc (S.length+1)) a #[3];have b:=λa=>ll S [.lst [],.LL []] [("order",oD o),("gathered",.loc (S.length+1))] "numbers" (.loc (S.length+2)) a #[3];have e:=λa=>ll S [.lst [],.LL [],.LL []] [("order",oD o),("gathered",.loc (S.length+1)),("numbers",.loc (S.length+2))] "choices" (.loc (S.length+3)) a #[3];simp only[nG,rn1,rn2,rn3,rn4,rn5,rn6,la] at c d b e;unfold b9 a_;rw[cc (show ([#[13],oD o]:ak D).length=2 from rfl)];have:eP ([#[13],oD o].map ag++eh 0 a4) (S++[.ins "Rows" []])=LB (.next [ag (#[13]),ag (oD o)]) (S++[RO o S.length,.lst [],.LL [],.LL []]):=by unfold eP;simp[c,d,b,e]
 rw[this];rfl
def dJ (m:Nat)(ts:ak Int):Prop:=ts.length=m/\∀ x∈ts,x=0∨x=1
noncomputable def tv (ts:ak Int):Th:=λc=>ei (ts.getD c 0=1)
abbrev NK (ts:ak Int):D:=.tup (ts.map .int)
theorem FF {m:Nat}{ts:ak Int}(h:dJ m ts){c:Nat}(hc:c<m)(S:Lq):Mu (NK ts) (.int c) S=ag (.int (if tv ts c=a6 then 1 else 0)):=by
 have a:c<ts.length:=by rw[h.1];exact hc
 have e:ts[c]?=ag ts[c]:=a7 a;unfold Mu;rw[cn (by simp[bN])];show O3 (ts.map D.int) (c:Int)=_;rw[bn (v:=.int ts[c]) (by rw[dk,e];rfl)];have b:tv ts c=ei (ts[c]=1):=by unfold tv;rw[RR,e];rfl
 rw[b];rcases h.2 ts[c] (Ui a) with q |q<;>simp[q]
theorem zu {e:Th}{ss d:ak el}(h:Kv e (aC (.leaf ss)) d):d=ss:=by
 generalize c:aC (.leaf ss)=D0 at h;cases h with
 |leaf =>
  simp only[aC,D.tup.injEq,vr,and_true,true_and] at c;exact((acz (λa b h=>by cases h;rfl)).mp c).symm
 |no=>simp[aC] at c
 |yes=>simp[aC] at c
theorem KQ.total {m k:Nat}{d:D}(h:KQ m k d)(e:Th):∃ ss,Kv e d ss:=by
 induction h with
 |leaf _ _ _=>exact⟨_,.leaf⟩
 | @ask k c x y _ _ _ f g =>
  obtain⟨a,i⟩:=f;obtain⟨b,hb⟩:=g;cases ht:e c with
  |false=>exact⟨a,.no ht i⟩
  |true=>exact⟨b,.yes ht hb⟩
section
variable {m:Nat}{ts:ak Int}
theorem wG (q:dJ m ts)(S:Lq){k:Nat}{d:D}(h:KQ m k d):∀ {ss:ak el}{fuel:Nat},Kv (tv ts) d ss->k<fuel->cW fuel [d,NK ts] S=LB (.tup (ss.map .str)) S:=by
 induction h with
 | @leaf k i _ _ _ =>
  intro ss fuel a p;rw[zu a];obtain⟨fuel,rfl⟩:∃ f,fuel=f+1:=⟨fuel-1,#[1]⟩;have o:Mu (aC (.leaf i)) (.int 0) S=ag (.str "names"):=Sj _ _ S;have l:Mu (aC (.leaf i)) (.int 1) S=ag (.tup (i.map .str)):=Tw _ _ _ S;have b:=eqs "names" "names";rw[gx rfl] at b;rw[3];unfold kE;simp[o,l,b]
 | @ask k c x y hc _ _ j n =>
  intro ss fuel a p;obtain⟨fuel,rfl⟩:∃ f,fuel=f+1:=⟨fuel-1,#[1]⟩;have b:=eqs "ask" "names";rw[dV Ac] at b;have e:=FF q hc S;rw[3];unfold kE;cases a with
  |no g a =>
   rw[g] at e;have r:=j (fuel:=fuel) a #[0];simp[Sj,Tw,at2,b,e,r]
  |yes g a =>
   rw[g] at e;have r:=n (fuel:=fuel) a #[0];simp[Sj,Tw,at3,b,e,r]
variable {o:ak Nat}{R:ak Row}
end
theorem kB {α c:Type}[wt α][wt c](f : α->c)(x : α):∀ (l:ak α),(∀ a∈l,f a=f x->a=x)->(l.map f).idxOf (f x)=l.idxOf x
 |[],_=>rfl
 |a::l,h=>by
  have i:=kB f x l λb hb=>h b (ee _ hb);rw[fh,XU,XU,i];by_cases e:a=x
  ·subst e;simp
  have g:¬ f a=f x:=λq=>e (h a (eR ..) q);have d:(a==x)=a8:=by simpa using e
  have j:(f a==f x)=a8:=by simpa using g
  rw[d,j]
theorem HW {o:ak Nat}{G:ak Row}(w:Wf o G){d:ak Nat}(c:Cl G d):FR d G=enc (d.map (LJ.uT G)):=by
 unfold FR enc;rw[rT];refine Ua λk h=>?_;have g:=c.lt k h;have e:G[k]?=ag G[k]:=a7 g;have q:=w.row k _ e;simp only[aap,e,XS];cases hr:G[k] with
 |leaf i =>
  have f:LJ.uT G k = .leaf i:=(Un.leaf (by rw[e,hr])).uT;rw[f];rfl
 |ask a n y =>
  rw[hr] at q;obtain⟨_,l,j,_⟩:=q;have f:LJ.uT G k = .node a (LJ.uT G n) (LJ.uT G y):=(Un.node (by rw[e,hr]) (w.uT #[0]) (w.uT #[0])).uT;rw[f];show Row.ask a (d.idxOf n) (d.idxOf y)=Row.ask a ((d.map (LJ.uT G)).idxOf (LJ.uT G n)) ((d.map (LJ.uT G)).idxOf (LJ.uT G y));rw[kB (LJ.uT G) n d λb hb=>w4 w (c.lt b hb) #[0],kB (LJ.uT G) y d λb hb=>w4 w (c.lt b hb) #[0]]
noncomputable def FB:Tr->Prop
 | .leaf a=>(∀ x∈a,eT x=a6)/\VD a=a6
 | .node _ n y=>FB n/\FB y
theorem Un.ord {o:ak Nat}{G:ak Row}(w:Wf o G){i:Nat}{t:Tr}(h:Un G i t):Ord o t/\FB t:=by
 induction h with
 |leaf h=>exact⟨TC,w.row _ _ h⟩
 | @node i c n y s t h b f d a =>
  obtain⟨a1,a2,l,g,j,k⟩:=w.row _ _ h;refine⟨⟨a1,d.1,a.1,by rw[← b.pl];exact g,by rw[← f.pl];exact j,λe=>k ?_⟩,d.2,a.2⟩;subst e;exact Un.inj w.nd b f
theorem Bl {o:ak Nat}(nd:o.Nodup)(s:o.length<=8){m:Nat}(G:∀ c,c<m->c∈o){k:Nat}(M:k<=12){d:D}(hd:KQ m k d)(S:Lq) :
  ∃ t w,me [d,oD o] S=LB (.tup (#[7].map aC)) w/\Ord o t/\FB t/\Wr o #[7]/\(∀ a,Ev #[7] a (#[7].length-1) (Md t a))/\(∀ a ss,Kv a d ss->Md t a=ss)/\(po t []).length<=1023/\w.take S.length=S:=by
 have F:=B8 S o
 have f:SR (λi=>(S++[RO o S.length,.lst [],.LL [],.LL []])[i]?) (S++[RO o S.length,.lst [],.LL [],.LL []]) S.length o [] []:=by
  refine⟨by simp,?_,?_,?_,λ_ _=>rfl⟩
  ·rw[h6 #[0]];simp
  ·rw[h6 #[0]];simp;rfl
  rw[h6 #[0]];simp;rfl
 have pre:∀ i,i<S.length->(S++[RO o S.length,.lst [],.LL [],.LL []])[i]?=S[i]?:=λi j=>h7 j;generalize (S++[RO o S.length,.lst [],.LL [],.LL []])=S0 at *
 have C:Wf o ([]:ak Row):=⟨VJ,λi r h=>by simp at h⟩;have K : 2 ^ (k+1)<=2 ^ 13:=Uc #[2] #[0];have L : 2 ^ 13=8192:=rfl;obtain⟨l,E,O,r,B,g,b,_,q,_,_,u⟩:=EL nd s G hd 15 #[0] f C (λp H=>by cases H) (by simp;omega) (by simp;omega);rw[Zk] at g b q u;obtain⟨X,Q,x,c,N,y,x2,z,rfl⟩:=fold_eq g b s q
 have fr:(l++[x2,z]).take S.length=S:=by
  have P:S.length+3<l.length:=(ba.mp g.RJ).1;apply W8;intro i;rw[aak];split
  ·rename_i j;rw[h7 #[0],g.fr i (.inl j),pre i j]
  rw[abo #[0]]
 have n:=f.has "fold_from" #[2];have un:=b.uT q;have eF:FR (X++[r]) E=enc (po (LJ.uT E r) []):=by rw[HW b c,y]
 have v:=JA b c;rw[eF] at x v;refine⟨LJ.uT E r,l++[x2,z],aA rfl ?_,(un.ord b).1,(un.ord b).2,v,λa=>?_,λa ss I=>?_,?_,fr⟩
 ·have J:z9 "Rows" b9 (af (ah 1) aB) [ag d,ag (oD o),a4] S=LB (#[13]) S0:=by
   unfold z9;simp only[Hq,Jh,eI];have:ah 1 [ag d,ag (oD o),a4] S=LB (oD o) S:=rfl;rw[this];simp only[eI];rw[F];rfl
  unfold vW;simp[J,n,B,x,-rT]
 ·have e:=JB c (un.ev a) #[3];have hr:r∉X:=by have:=(Qf.mp c.nd).2.2;intro n;exact this r n r #[3] rfl
  have A:(X++[r]).idxOf r=(FR (X++[r]) E).length-1:=by rw[Z9,cn hr];simp[FR]
  rw[A,eF] at e;exact e
 ·exact Ev.det (un.ev a) (u a ss I)
 rw[← y,dv,cv];simp;omega
inductive Sub:Tr->Tr->Prop
 |refl (t:Tr):Sub t t
 |no {s:Tr}{c:Nat}{n y:Tr}:Sub s n->Sub s (.node c n y)
 |yes {s:Tr}{c:Nat}{n y:Tr}:Sub s y->Sub s (.node c n y)
theorem Cd:∀ (t:Tr) (a:ak Tr),∃ X,po t a=a++X
 | .leaf b,a=>by
  by_cases h:Tr.leaf b∈a
  ·exact⟨[],by rw[i9 h,ia]⟩
  exact⟨[.leaf b],lG h⟩
 | .node c n y,a=>by
  by_cases h:Tr.node c n y∈a
  ·exact⟨[],by rw[i9 h,ia]⟩
  obtain⟨X,d⟩:=Cd n a;obtain⟨Y,e⟩:=Cd y (po n a);exact⟨X++Y++[.node c n y],by rw[lD h,e,d];simp⟩
theorem Et (t:Tr)(a:ak Tr):t∈po t a:=by
 by_cases h:t∈a
 ·rw[i9 h];exact h
 cases t with
 |leaf b=>rw[lG h];simp
 |node c n y=>rw[lD h];simp
theorem lF:∀ (t:Tr) (a:ak Tr) (s:Tr),s∈po t a->s∈a∨Sub s t
 | .leaf d,a,s,h=>by
  by_cases b:Tr.leaf d∈a
  ·rw[i9 b] at h;exact .inl h
  rw[lG b] at h;rcases k6.mp h with h |h
  ·exact .inl h
  rw[gA.mp h];exact .inr (.refl _)
 | .node c n y,a,s,h=>by
  by_cases b:Tr.node c n y∈a
  ·rw[i9 b] at h;exact .inl h
  rw[lD b] at h;rcases k6.mp h with h |h
  ·rcases lF y _ s h with h |h
   ·rcases lF n _ s h with h |h
    ·exact .inl h
    exact .inr (.no h)
   exact .inr (.yes h)
  rw[gA.mp h];exact .inr (.refl _)
theorem uQ {s t:Tr}(h:Sub s t):QT s<=QT t:=by
 induction h with
 |refl=>exact e9 _
 |no _ a=>simp only[QT];omega
 |yes _ a=>simp only[QT];omega
theorem pA:∀ (t:Tr) {d:ak Tr},d.Nodup->(po t d).Nodup
 | .leaf g,d,h=>by
  by_cases e:Tr.leaf g∈d
  ·rw[i9 e];exact h
  rw[lG e];refine Qf.mpr ⟨h,by simp,λa f b hb=>?_⟩;rw[gA.mp hb];rintro rfl;exact e f
 | .node c n y,d,h=>by
  by_cases e:Tr.node c n y∈d
  ·rw[i9 e];exact h
  rw[lD e];refine Qf.mpr ⟨pA y (pA n h),by simp,λa f b hb=>?_⟩;rw[gA.mp hb];rintro rfl;rcases lF y _ _ f with q |q
  ·rcases lF n _ _ q with q |q
   ·exact e q
   have:=uQ q;simp only[QT] at this;omega
  have:=uQ q;simp only[QT] at this;omega
theorem Dk {α:Type}(xs:ak α)(p:Nat):lS xs a4 (ag (p:Int))=xs.take p:=by
 unfold lS;rw[HT.P0,HT.QG,aaz,adZ];rcases Nat.le_total p xs.length with h |h
 ·rw[adE h]
 rw[adk h,y0 (e9 _),y0 h]
theorem Dl {α:Type}(xs:ak α)(q:Nat):lS xs (ag (q:Int)) a4=xs.drop q:=by
 unfold lS;rw[HT.QG,HT.P0];rcases Nat.le_total q xs.length with h |h
 ·rw[adE h,y0 (by rw[M3];exact e9 _)]
 rw[adk h,adl,List.drop_of_length_le h,List.take_nil]
abbrev nD (l:ak Nat):ak D:=l.map λ(k:Nat)=>D.int k
theorem CP (a b:ak D)(h:a.length+b.length<=1000):bz (.lst a) (.lst b)=ag (.lst (a++b)):=by rw[m5,cc (fg h #[2])]
theorem xD (num:Int)(m:D)(k:Nat)(n:k<=20)(l:ak Nat)(d:l.length=k)(z:a5 D)(S:Lq):∃ a:Nat,a<=k/\ge [ag (.int num),ag m,ag (.lst (nD l)),ag (.int k),z] S=LB (.next [ag (.int num),ag m,ag (.lst (nD (l.take a++[k]++l.drop a))),ag (.int k),ag (.int a)]) S:=by
 have e:=jm num k S;have h:cr [.lst (nD l)]=ag (.int (k:Nat)):=by simp[cr,d]
 have b:ck (.int (MT num k)) (.int ((k:Int)+1))=ag (.int (MT num k % ((k:Int)+1))):=bw #[0];have j:=pI (MT num k) (show (0:Int)<(k:Int)+1 by omega);obtain⟨a,i⟩:∃ a:Nat,MT num k % ((k:Int)+1)=a:=⟨(MT num k % ((k:Int)+1)).toNat,#[1]⟩;rw[i] at b j;have f:QJ (.lst (nD l)) a4 (ag (a:Int))=ag (.lst (nD (l.take a))):=by show ag (D.lst (lS (nD l) a4 (ag (a:Int))))=_;rw[Dk];unfold nD;rw[acX]
 have g:QJ (.lst (nD l)) (ag (a:Int)) a4=ag (.lst (nD (l.drop a))):=by show ag (D.lst (lS (nD l) (ag (a:Int)) a4))=_;rw[Dl];unfold nD;rw[acY]
 have t1:(nD (l.take a)).length<=20:=by rw[dv,Qr];omega
 have t2:(nD (l.drop a)).length<=20:=by rw[dv,M3];omega
 have a1:=CP (nD (l.take a)) [.int k] (by simp at t1 ⊢;omega);have a2:=CP (nD (l.take a)++[.int k]) (nD (l.drop a)) (by rw[cv];simp at t1 t2 ⊢;omega);have z1:NV [.int k] (.lst [.int k])=ag (.lst [.int k]):=bR #[3];have c:nD (l.take a++[k]++l.drop a)=nD (l.take a)++[.int k]++nD (l.drop a):=by simp
 refine⟨a,#[1],?_⟩;rw[c];unfold ge;simp[e,h,b,f,g,z1,a1,a2,Bf,-rT,-Sv,-acX,-acY,-j0]
theorem AN (num:Int){m:Nat}(y:m<=10)(S:Lq):∃ o:ak Nat,ni [.int num,.int m] S=LB (oD o) S/\o.Perm (ew m):=by
 have h:dL [.int m]=ag ((ew m).map λ(k:Nat)=>D.int k):=by have:=u9 m #[0] #[0];rw[4]
 obtain⟨t,z,s,e⟩:=b7 (u:=aE 3) (body:=ge) (λi f d=>d=S/\i<=m/\∃ (l:ak Nat) (a b:a5 D),l.Perm (ew i)/\f=[ag (.int num),ag (.int m),ag (.lst (nD l)),a,b])
  ((ew m).map λ(k:Nat)=>D.int k) 0 [ag (.int num),ag (.int m),ag (.lst []),a4,a4] S ⟨rfl,#[1],[],a4,a4,.refl _,rfl⟩ (by
   rintro j x f d g ⟨rfl,v,l,a,b,c,rfl⟩;obtain⟨rfl,A⟩:=gN g;simp only[lk] at c v ⊢;have n:l.length=j:=by rw[c.length_eq,mc]
   obtain⟨q,B,w⟩:=xD num (.int m) j #[0] l n b d;refine⟨_,rfl,_,_,w,rfl,#[1],_,_,_,?_,rfl⟩;rw[ad1];have r:(l.take q++[j]++l.drop q).Perm (j::l):=by have:=adi (a:=j) (l₁:=l.take q) (l₂:=l.drop q);rw[H8] at this;rw[j0];exact this
   exact r.trans ((abL j c).trans (U9 j (ew j)).symm))
 simp only[lk,dv,mc] at e;obtain⟨rfl,_,l,a,b,c,rfl⟩:=e;refine⟨l,aA rfl ?_,c⟩;have p:NV [] (.lst [])=ag (.lst []):=bR #[3];unfold r_;simp[p,h,s,iO]
inductive KW (W:ak el):D->Prop
 |leaf {ss:ak el}:(∀ x∈ss,x∈W)->KW W (aC (.leaf ss))
 |ask {c:Nat}{x y:D}:KW W x->KW W y->KW W (.tup [.str "ask",.int c,x,y])
theorem x_ (ss:ak el)(l:ss.length<=6)(k:∀ x∈ss,eT x=a6)(o:ss.Pairwise λa b=>NW a b=a6)(m:Nat)(s : 1<=m)(q:m<=10)(S:Lq):∀ (fuel e:Nat) (num:Int),e<fuel->0<=num->∃ d,l_ fuel [.int num,.tup (ss.map .str),.int m,.int e] S=LB d S/\KQ m e d/\KW ss d
 | 0,e,num,h,_=>ib h #[0]
 |fuel+1,e,num,h,h0=>by
  have t:ck (.int num) (.int 7)=ag (.int (num % 7)):=bw #[2];have n:dM (.int num) (.int 7)=ag (.int (num / 7)):=jL #[2] #[2];have r:ck (.int (num / 7)) (.int m)=ag (.int (num / 7 % m)):=bw #[0];have v:=pI (num / 7) (show (0:Int)<m by omega);obtain⟨z,p,g⟩:=vq (num / 7) (ss:=ss) #[0] S
  have leaf:(e=0∨num % 7=0)->∃ d,l_ (fuel+1) [.int num,.tup (ss.map .str),.int m,.int e] S=LB d S/\KQ m e d/\KW ss d:=λhc=>by
   refine⟨.tup [.str "names",.tup (z.map .str)],aA rfl ?_,.leaf (λx j=>k x (g.subset j)) (lI (o.sublist g)) (fg g.length_le l),.leaf (λx j=>g.subset j)⟩;unfold ub;by_cases f:e=0
   ·subst f;simp[n,p]
   have i:num % 7=0:=hc.resolve_left f;simp[f,t,i,n,p]
  by_cases f:e=0
  ·exact leaf (.inl f)
  by_cases i:num % 7=0
  ·exact leaf (.inr i)
  have u:=jm num 1 S;have w:=jm num 2 S;obtain⟨dp,rfl⟩:∃ dp,e=dp+1:=⟨e-1,#[1]⟩;obtain⟨x,ex,B,E⟩:=x_ ss l k o m s q S fuel dp (MT num 1) #[0] (kI _ _);obtain⟨y,A,D,wy⟩:=x_ ss l k o m s q S fuel dp (MT num 2) #[0] (kI _ _);have C:¬ ((dp:Int)+1=0):=#[1]
  obtain⟨c,hc⟩:∃ c:Nat,num / 7 % m=c:=⟨(num / 7 % m).toNat,#[1]⟩;rw[hc] at r v;refine⟨.tup [.str "ask",.int c,x,y],aA rfl ?_,.ask #[0] B D,.ask E wy⟩;unfold ub;simp[C,t,i,u,w,ex,A,n,r,uR]
abbrev MG (NP:ak (ak Int)):ak D:=NP.map NK
theorem F_ (a b:ak D)(h:a.length+b.length<=1000):bz (.tup a) (.tup b)=ag (.tup (a++b)):=by rw[jO,cc (fg h #[2])]
theorem ny (e:Lk D)(v:Int)(b:e=aI bz (ah 0) (aG (.tup [.int v])))(a:ak (ak Int))(h:∀ ts∈a,ts.length<=20)(ρ:Lr)(S:Lq):b8 (aE 0) dB e (MG a) (bT 1 [] ρ) S=ag (MG (a.map λts=>ts++[v]),S):=by
 have q:=dR (u:=aE 0) (fe:=e) (λρ => ∃ y,ρ=[y]) (λd=>match d with | .tup g => .tup (g++[.int v]) |_ => .LR) S (MG a) (bT 1 [] ρ) ⟨a4,rfl⟩ (by
  rintro d hd ρ ⟨y,rfl⟩;obtain⟨ts,f,rfl⟩:=q5.mp hd;refine⟨_,rfl,⟨_,rfl⟩,?_⟩;have c:=F_ (ts.map D.int) [.int v] (by have:=h ts f;simp;omega);subst b
  simp[c])
 rw[q];congr 2;unfold MG;rw[rT,rT];refine Ua λts _=>?_;simp[NK]
theorem nA (m:D)(k:Nat)(a:ak (ak Int))(d:a.length<=2000)(h:∀ ts∈a,ts.length<=20)(z:a5 D)(S:Lq):dD [ag m,ag (.lst (MG a)),z] S=LB (.next [ag m,ag (.lst (MG ((a.map λts=>ts++[0])++(a.map λts=>ts++[1])))),z]) S:=by
 have b:=ny lP 0 rfl a h [ag m,ag (.lst (MG a)),z] S;have c:=ny lO 1 rfl a h [ag m,ag (.lst (MG a)),z] S;have ad:bz (.lst (MG (a.map λts=>ts++[0]))) (.lst (MG (a.map λts=>ts++[1])))=ag (.lst (MG ((a.map λts=>ts++[0])++(a.map λts=>ts++[1])))):=by rw[m5,cc (by simp only[MG,dv];exact fg (show _<=4000 by omega) #[2])];unfold MG;rw[← Sv]
 unfold dD;simp[cm,b,c,ad,-rT,-Sv]
theorem qo:∀ (b:ak (ak Int)),(∀ ts∈b,ts≠[])->fO tupI (MG b)=ag b
 |[],_=>rfl
 |ts::b,h=>by
  have c:=qo b λt d=>h t (ee _ d)
  have e:tupI (NK ts)=ag ts:=by
   unfold tupI NK;simp only[MC];cases ts with
   |nil=>exact ib rfl (h [] (eR ..))
   |cons a r=>rfl
  show fO tupI (NK ts::MG b)=_;rw[fO,e,lr,c];rfl
noncomputable def NR:Nat->ak (ak Int)
 | 0=>[[]]
 |m+1=>((NR m).map λts=>ts++[0])++((NR m).map λts=>ts++[1])
theorem s9:∀ m,(NR m).length=2 ^ m
 | 0=>rfl
 |m+1=>by rw[NR,cv,dv,dv,s9 m,RA];omega
theorem km:∀ m,∀ ts∈NR m,dJ m ts
 | 0,ts,h=>by rw[gA.mp h];exact⟨rfl,λx hx=>by cases hx⟩
 |m+1,ts,h=>by
  have go:∀ {t:ak Int}{b:Int},t∈NR m->(b=0∨b=1)->dJ (m+1) (t++[b]):=λ{t b} a hb=>by
   refine⟨by rw[cv,(km m t a).1];rfl,λx hx=>?_⟩;rcases k6.mp hx with hx |hx
   ·exact(km m t a).2 x hx
   rw[gA.mp hx];exact hb
  rcases k6.mp h with h |h
  ·obtain⟨t,a,rfl⟩:=q5.mp h;exact go a (#[9])
  obtain⟨t,a,rfl⟩:=q5.mp h;exact go a (.inr rfl)
theorem yI:∀ m ts,dJ m ts->ts∈NR m
 | 0,ts,h=>by rw[So.mp h.1];exact gA.mpr rfl
 |m+1,ts,h=>by
  obtain⟨a,b⟩:=h;have c:ts≠[]:=by intro z;rw[z] at a;simp at a
  have e:=List.dropLast_concat_getLast c;have d:=yI m ts.dropLast ⟨by rw[List.length_dropLast,a];rfl,λx f=>b x (List.dropLast_subset _ f)⟩;rw[NR,k6];rcases b _ (List.getLast_mem c) with h0 |h0
  ·exact .inl (q5.mpr ⟨_,d,by rw[← h0];exact e⟩)
  exact .inr (q5.mpr ⟨_,d,by rw[← h0];exact e⟩)
noncomputable def bits (n:Nat):ak Int:=[n / 32 % 2,n / 16 % 2,n / 8 % 2,n / 4 % 2,n / 2 % 2,n % 2].map λ(k:Nat)=>(k:Int)
theorem uO {m:Nat}(a : 1<=m)(b:m<=6):Spec (eB λ(x y:Int)=>ei (x<y)) (NR m):=by
 have:m=1∨m=2∨m=3∨m=4∨m=5∨m=6:=#[1]
 rcases this with rfl |rfl |rfl |rfl |rfl |rfl
 ·exact .inl #[2]
 ·exact .inl #[2]
 ·exact .inl #[2]
 ·exact .inl #[2]
 ·exact .inl #[2]
 exact .inr ⟨#[4],⟨_,_,_,_,rfl,#[4],#[4]⟩,_,_,_,_,rfl,#[4],#[4],(ew 32).map λi=>bits (2*i),(ew 32).map λi=>bits (2*i+1),#[4],#[4],#[4],#[4],#[4],#[4],#[4],#[4]⟩
theorem HZ {m:Nat}(s : 1<=m)(l:m<=6)(S:Lq):∃ e:ak (ak Int),dS [.int m] S=LB (.lst (MG e)) S/\(∀ ts∈e,dJ m ts)/\∀ ts,dJ m ts->ts∈e:=by
 have p:dL [.int m]=ag ((ew m).map λ(k:Nat)=>D.int k):=by have:=u9 m #[0] #[0];rw[4]
 have f:∀ j,j<=6->(NR j).length<=64:=λj c=>by rw[s9];exact Uc #[2] c
 obtain⟨r,w,q,n⟩:=b7 (u:=aE 2) (body:=dD) (λi o d=>d=S/\∃ b:a5 D,o=[ag (.int m),ag (.lst (MG (NR i))),b])
  ((ew m).map λ(k:Nat)=>D.int k) 0 [ag (.int m),ag (.lst [.tup []]),a4] S ⟨rfl,a4,rfl⟩ (by
   rintro j v o d c ⟨rfl,b,rfl⟩;obtain⟨rfl,x⟩:=gN c;simp only[lk];have t:=nA (.int m) j (NR j) (by have:=f j #[0];omega) (λts a=>by have:=(km j ts a).1;omega) (ag (.int j)) d
   exact⟨_,rfl,_,_,t,rfl,_,rfl⟩)
 simp only[lk,dv,mc] at n;obtain⟨rfl,b,rfl⟩:=n;have es:oX [.lst (MG (NR m))]=ag (.lst (MG ((NR m).mergeSort cH))):=by show (fO tupI (MG (NR m))).bind _=_;rw[qo (NR m) λts a h=>by have:=(km m ts a).1;rw[h] at this;simp at this;omega,lr];exact cc ⟨by simp only[MG,dv];exact fg (f m l) #[2],uO s l⟩
 have g:((NR m).mergeSort cH).Perm (NR m):=ti _ _;refine⟨(NR m).mergeSort cH,aA rfl ?_,λts a=>km m ts (g.mem_iff.mp a),λts a=>g.mem_iff.mpr (yI m ts a)⟩;unfold kC;simp[p,q,es,-rT]
theorem KQ.mono {m k:Nat}{d:D}(h:KQ m k d):∀ j,k<=j->KQ m j d:=by
 induction h with
 |leaf a b f=>exact λj _ => .leaf a b f
 |ask g _ _ c e =>
  intro j l;obtain⟨j,rfl⟩:∃ i,j=i+1:=⟨j-1,#[1]⟩;exact .ask g (c j #[0]) (e j #[0])
theorem ER (ns:ak Int)(b:Nat)(hb : 1<=b)(v:b<=10)(S:Lq):∃ (m:Nat) (ss:ak el) (kvs:ak (D×D)) (d:D) (o:ak Nat),1<=m/\m<=b/\ss.length<=6/\(∀ x∈ss,eT x=a6)/\(ss.Pairwise λa b=>NW a b=a6)/\KQ m 5 d/\KW ss d/\o.Perm (ew m) /\
  l9 [.lst (ns.map .int),.int b] S=LB (.tup [.int m,.tup (ss.map .str),d,oD o]) (S++[.dict kvs]):=by
 have r:∀ S,aZ [.lst (ns.map .int),.int 0] S=LB (.int (mix ns 0)) S:=eA ns 0;have x1:∀ S,aZ [.lst (ns.map .int),.int 1] S=LB (.int (mix ns 1)) S:=eA ns 1;have x2:∀ S,aZ [.lst (ns.map .int),.int 2] S=LB (.int (mix ns 2)) S:=eA ns 2;have k:∀ S,aZ [.lst (ns.map .int),.int 3] S=LB (.int (mix ns 3)) S:=eA ns 3;have t:∀ S,aZ [.lst (ns.map .int),.int 4] S=LB (.int (mix ns 4)) S:=eA ns 4;have w:=pI (mix ns 0) (show (0:Int)<b by omega);have s:ck (.int (mix ns 0)) (.int b)=ag (.int (mix ns 0 % b)):=bw #[0];obtain⟨m,q⟩:∃ m:Nat,1+mix ns 0 % b=m:=⟨(1+mix ns 0 % b).toNat,#[1]⟩;obtain⟨ss,kvs,i,f,e,g⟩:=Am (mix ns 1) S;have p:ck (.int (mix ns 3)) (.int 5)=ag (.int (mix ns 3 % 5)):=bw #[2];have u:=pI (mix ns 3) (show (0:Int)<5 by decide);obtain⟨dp,c⟩:∃ dp:Nat,1+mix ns 3 % 5=dp:=⟨(1+mix ns 3 % 5).toNat,#[1]⟩;obtain⟨d,n,h,kw⟩:=x_ ss f e g m #[0] #[0] (S++[.dict kvs]) 8 dp (mix ns 2) #[0] (xH _ _);obtain⟨o,j,po⟩:=AN (mix ns 4) (m:=m) #[0] (S++[.dict kvs]);have l:NV [.int m,.tup (ss.map .str),d,oD o] (.tup [.int m,.tup (ss.map .str),d,oD o])=ag (.tup [.int m,.tup (ss.map .str),d,oD o]):=bR #[3];refine⟨m,ss,kvs,d,o,#[1],#[1],f,e,g,h.mono 5 #[0],kw,po,aA rfl ?_⟩;unfold vV;simp[r,x1,x2,k,t,s,q,i,p,c,n,j,l,-rT]
abbrev Sl (R:ak Row):D:=.tup (R.map aC)
abbrev cZ (t:Tr):D:=Sl #[7]
abbrev Sh:=ak (a5 eM)
noncomputable def Mx:a5 eM->D
 |a4 => .LR
 |ag b => .int (if b=a6 then 1 else 0)
abbrev LN (sh:Sh):D:=.tup (sh.map Mx)
theorem FJ {sh:Sh}{c:Nat}{x:a5 eM}(h:sh[c]?=ag x)(S:Lq):Mu (LN sh) (.int c) S=ag (Mx x):=by unfold Mu;rw[cn (by simp[bN])];exact bn (by rw[dk,h];rfl)
theorem vd {m k:Nat}(f:m<=8){sh:Sh}(e:sh.length=m)(d:k<m)(v:a5 eM)(S:Lq)(g:Lk Fl)
  (a:g=bg (aI bz (aI bz (Tf QJ (ah 0) a4 (ag (ah 1))) (js (af (ah 2) aB))) (Tf QJ (ah 0) (ag (aI bz (ah 1) (aG (.int 1)))) a4))) :
  a_ 3 0 g [LN sh,.int k,Mx v] S=LB (LN (sh.set k v)) S:=by
 subst a;have b:QJ (LN sh) a4 (ag (k:Int))=ag (.tup ((sh.take k).map Mx)):=by show ag (D.tup (lS (sh.map Mx) a4 (ag (k:Int))))=_;rw[Dk,acX]
 have c:QJ (LN sh) (ag ((k:Int)+1)) a4=ag (.tup ((sh.drop (k+1)).map Mx)):=by show ag (D.tup (lS (sh.map Mx) (ag (((k+1:Nat)):Int)) a4))=_;rw[Dl,acY]
 have z1:NV [Mx v] (.tup [Mx v])=ag (.tup [Mx v]):=bR #[3];have a1:bz (.tup ((sh.take k).map Mx)) (.tup [Mx v])=ag (.tup ((sh.take k).map Mx++[Mx v])):=by rw[jO,cc (fg (show _<=1000 by simp;omega) #[2])]
 have a2:bz (.tup ((sh.take k).map Mx++[Mx v])) (.tup ((sh.drop (k+1)).map Mx))=ag (LN (sh.set k v)):=by rw[jO,cc (fg (show _<=1000 by simp;omega) #[2]),List.set_eq_take_append_cons_drop,cc #[0]];simp[LN]
 rw[3];generalize LN (sh.set k v)=r at *
 generalize (sh.take k).map Mx=x1 at *
 generalize (sh.drop (k+1)).map Mx=x2 at *
 generalize LN sh=x3 at *
 generalize Mx v=x4 at *
 simp[b,c,z1,a1,a2,Bf]
theorem BV (x:Int){m:Nat}(j:m<=8)(S:Lq):∃ sh:Sh,nh [.int x,.int m] S=LB (LN sh) S/\sh.length=m:=by
 have c:dL [.int m]=ag ((ew m).map λ(k:Nat)=>D.int k):=by have:=u9 m #[0] #[0];rw[4]
 let f:Int->a5 eM:=λk=>if MT x k % 4=1 then ag a8 else if MT x k % 4=2 then ag a6 else a4
 have q:=dR (u:=aE 0) (fe:=fY) (λa => ∃ y,a=[y,ag (.int x)]) (λd=>match d with | .int k=>Mx (f k) |_ => .LR) S ((ew m).map λ(k:Nat)=>D.int k) (bT 1 [0] [ag (.int x),ag (.int m)]) ⟨a4,rfl⟩ (by
  rintro d hd a ⟨y,rfl⟩;obtain⟨k,_,rfl⟩:=q5.mp hd;refine⟨_,rfl,⟨_,rfl⟩,?_⟩;have e:=jm x k S;have i:ck (.int (MT x k)) (.int 4)=ag (.int (MT x k % 4)):=bw #[2]
  have g:Mu (D.tup [D.LR,(D.int 0),(D.int 1),D.LR]) (.int (MT x k % 4)) S=ag (Mx (f k)):=by
   have n:=vu (MT x k) (show (4:Int)≠0 by decide);have l:=tq (MT x k) (show (0:Int)<4 by decide);show Mu _ _ _=ag (Mx (if MT x k % 4=1 then ag a8 else if MT x k % 4=2 then ag a6 else a4));have:MT x k % 4=0∨MT x k % 4=1∨MT x k % 4=2∨MT x k % 4=3:=#[1]
   rcases this with h |h |h |h<;>rw[h]<;>rfl
  show fY [ag (.int k),ag (.int x)] S=LB (Mx (f k)) S;generalize f k=fk at *
  unfold fY
  simp[e,i,g])
 rw[rT] at q;refine⟨(ew m).map λ(k:Nat)=>f k,aA rfl ?_,by rw[dv,mc]⟩;have b:LN ((ew m).map λ(k:Nat)=>f k) = .tup ((ew m).map ((λd=>match d with |D.int k=>Mx (f k) |_ => .LR) ∘ λ(k:Nat)=>D.int k)):=by rw[LN,rT];rfl
 rw[b];generalize (ew m).map ((λd=>match d with |D.int k=>Mx (f k) |_ => .LR) ∘ λ(k:Nat)=>D.int k)=r at *
 unfold r9;simp[c,q,iO]
theorem vS (x:el):∀ l:ak el,((l.map UW).any λq=>hH q (.str x))=ei (x∈l)
 |[]=>by simp
 |a::l=>by
  rw[fh,R_,vS x l];by_cases h:a=x
  ·simp[hH,h]
  have b:¬ x=a:=λe=>h e.symm;simp[hH,h,b]
theorem vR (neg:eM)(x:el)(l:ak el)(S:Lq):RF neg (.str x) (.tup (l.map .str)) S=ag (.bl (neg != ei (x∈l))):=by
 have e:xZ (.str x) (.tup (l.map .str))=ag (ei (x∈l)):=by unfold xZ;simp only[toPy,xn,lr,g7];rw[cc (by simp[m4]),vS]
 unfold RF;rw[cn (by simp[bN])];cases neg<;>simp[inD,tQ,e]
theorem zT (t:Tr) : 0<#[7].length:=by unfold enc;rw[dv];exact UR (Et t [])
abbrev LM (ns:ak Nat):ak D:=ns.map λ(k:Nat)=>D.int k
noncomputable def eV (sh:Sh):Row->ak Nat
 | .leaf _=>[]
 | .ask c n y=>match sh[c]? with
  |ag (ag b)=>[if b=a6 then y else n]
  |_=>[n,y]
theorem DT {o:ak Nat}{R:ak Row}(w:Wr o R){sh:Sh}(q:∀ c∈o,c<sh.length){i:Nat}{r:Row}(hr:R[i]?=ag r)(S:Lq):m9 [aC r,LN sh] S=LB (.tup (LM (eV sh r))) S:=by
 have ri:=w _ _ hr;have e:=jN r S;have h:=wD r S;have f:Vl .LR .LR=ag (.bl a6):=rfl;rw[3];unfold r6;cases r with
 |leaf p =>
  have a:LM (eV sh (.leaf p))=[]:=rfl;rw[a];simp[e,h,f]
 |ask c n y =>
  have hc:=q c ri.1;have es:sh[c]?=ag sh[c]:=a7 hc;have d:=FJ es S;have g:Mu (aC (.ask c n y)) (.int 0) S=ag (.int c):=Sj _ _ S;have j:Mu (aC (.ask c n y)) (.int 1) S=ag (.int n):=Tw _ _ _ S;have m:Mu (aC (.ask c n y)) (.int 2) S=ag (.int y):=at2 _ _ _ _ S;have l:∀ z:Int,Vl (.int z) .LR=ag (.bl a8):=λ_=>rfl;cases hv:sh[c] with
  |none =>
   rw[hv] at d es;have a:eV sh (.ask c n y)=[n,y]:=by simp only[eV,es]
   rw[a];simp[e,h,g,d,Mx,f,LM]
  |some b =>
   rw[hv] at d es;have a:eV sh (.ask c n y)=[if b=a6 then y else n]:=by simp only[eV,es]
   rw[a];have z1:∀ k:Nat,NV [D.int k] (.tup [.int k])=ag (.tup [.int k]):=λ_=>bR #[3];cases b<;>simp[e,g,j,m,d,Mx,l,z1,LM]
noncomputable def dj (sh:Sh):Nat:=(sh.filter Option.isNone).length
noncomputable def sS:D->eM
 | .tup [_,x]=>mR x
 |_=>a8
noncomputable def DV:D->D
 | .tup [k,_]=>k
 |_ => .LR
theorem yF:∀ (sh:Sh) (k:Nat),((bi k (sh.map Mx)).filter sS).length=dj sh
 |[],k=>rfl
 |v::sh,k=>by
  have a:=yF sh (k+1);unfold dj at a ⊢;rw[fh,bi,Tt,Tt];cases v with
  |none=>rw[cc (show sS (D.tup [D.int k,Mx a4])=a6 from rfl),cc (show (a4:a5 eM).isNone=a6 from rfl),hG,hG,a]
  |some b=>rw[cn (by simp[sS,Mx,mR]),cn #[3],a]
theorem wZ (sh:Sh)(S:Lq):∃ ds:ak D,dG [LN sh] S=LB (.lst ds) S/\ds.length=dj sh:=by
 have q:=dz (u:=iX 2 (aS (aE 0) (aS (aE 1) eS))) (gt:=fj) (fe:=fC) (λf => ∃ x y,f=[x,y]) sS DV S (bi 0 (sh.map Mx)) (bT 2 [] [ag (LN sh)]) ⟨a4,a4,rfl⟩ (by
  rintro d hd f ⟨x,y,rfl⟩;obtain⟨i,c⟩:=m7 hd;rw[c9] at c;obtain⟨v,a,rfl⟩:=d7.mp c;rw[dk] at a;obtain⟨b,_,rfl⟩:=d7.mp a;refine⟨_,rfl,⟨_,_,rfl⟩,?_,λ_=>rfl⟩;cases b with
  |none=>rfl
  |some b=>rfl)
 refine⟨((bi 0 (sh.map Mx)).filter sS).map DV,aA rfl ?_,by rw[dv,yF]⟩;have e:j6 [LN sh]=ag (bi 0 (sh.map Mx)):=rfl;generalize bi 0 (sh.map Mx)=l at *
 generalize LN sh=sd at *
 unfold ie;simp[e,q]
theorem wI (sh:Sh)(S:Lq):dH [LN sh] S=LB (.int ((2 ^ dj sh:Nat):Int)) S:=by
 obtain⟨f,q,m⟩:=wZ sh S
 obtain⟨n,c,g,x,rfl,rfl⟩:=b7 (u:=aE 2) (body:=eU) (λi h c => ∃ x,h=[ag (LN sh),ag (.int ((2 ^ i:Nat):Int)),x]/\c=S) f 0 [ag (LN sh),ag (.int 1),a4] S ⟨a4,rfl,rfl⟩ (by
  rintro j d h c hd ⟨x,rfl,rfl⟩;refine⟨_,rfl,[ag (LN sh),ag (.int ((2 ^ (0+j+1):Nat):Int)),ag d],_,?_,_,rfl,rfl⟩
  have e:y7 (.int ((2 ^ (0+j):Nat):Int)) (.int 2)=ag (.int ((2 ^ (0+j+1):Nat):Int)):=by
   have k:gP ((2 ^ (0+j):Nat):Int) 2=a6:=by generalize ((2 ^ (0+j):Nat):Int)=a;unfold gP;rw[show (ei (-(2 ^ 64)<(2:Int))&&ei ((2:Int)<2 ^ 64))=a6 by decide,Bool.or_true]
   have l:((2 ^ (0+j):Nat):Int)*2=((2 ^ (0+j+1):Nat):Int):=by rw[RA];exact(adx _ _).symm
   rw[← l];generalize ((2 ^ (0+j):Nat):Int)=a at *
   show (if gP a 2=a6 then _ else _)=_;rw[cc k]
  generalize ((2 ^ (0+j):Nat):Int)=a at *
  generalize ((2 ^ (0+j+1):Nat):Int)=b at *
  show wz 1 (aG (.int 2)) [ag (LN sh),ag (.int a),ag d] c=_;unfold wz
  simp -implicitDefEqProofs [e])
 rw[lk,m] at g;have o:cm (.lst f)=ag f:=rfl;rw[3];generalize ((2 ^ dj sh:Nat):Int)=b at *
 generalize LN sh=sd at *
 unfold fW;simp -implicitDefEqProofs [q,o,g]
inductive Rc (R:ak Row) (sh:Sh):Nat->Prop
 |top:Rc R sh (R.length-1)
 |go {i b:Nat}{r:Row}:Rc R sh i->R[i]?=ag r->b∈eV sh r->Rc R sh b
section
variable {o:ak Nat}{R:ak Row}{sh:Sh}
theorem DS (w:Wr o R){i b:Nat}{r:Row}(hr:R[i]?=ag r)(hb:b∈eV sh r):b<i/\∃ c n y,r = .ask c n y/\c∈o/\LJ.pl o R i=#[12]/\#[12]<LJ.pl o R b:=by
 have ri:=w _ _ hr;cases r with
 |leaf g=>simp[eV] at hb
 |ask c n y =>
  obtain⟨a1,a2,e,d,f,_⟩:=ri;have a:LJ.pl o R i=#[12]:=by unfold LJ.pl;rw[hr]
  have:b=n∨b=y:=by
   have hb:b∈(match sh[c]? with |ag (ag b)=>[if b=a6 then y else n] |_=>[n,y]):=hb;split at hb
   ·rename_i v _;have:=gA.mp hb;cases v with
    |true=>exact .inr this
    |false=>exact .inl this
   simpa using hb
  rcases this with rfl |rfl
  ·exact⟨a2,c,_,_,rfl,a1,a,d⟩
  exact⟨e,c,_,_,rfl,a1,a,f⟩
theorem BH (r:Row):(eV sh r).length<=2:=by
 cases r with
 |leaf _=>simp[eV]
 |ask c n y =>
  show (match sh[c]? with |ag (ag b)=>[if b=a6 then y else n] |_=>[n,y]).length<=2;split<;>simp
end
theorem gS (l:ak Nat){b:Nat}(v:Nat)(hb:b<l.length)(k:Nat):(l.set b v).getD k 0=if k=b then v else l.getD k 0:=by
 rw[RR,Z7];by_cases h:k=b
 ·subst h;rw[cc rfl,cc hb,cc rfl];rfl
 rw[cn (λe=>h e.symm),cn h];rfl
theorem tP {cs:ak Nat}{S:Lq}{b:Nat}(hb:b<cs.length):lL (#[13]) (.int b) (S++[.lst (LM cs)])=ag (.int ((cs.getD b 0:Nat):Int)):=by
 show ((fz (#[13]) (S++[.lst (LM cs)])).bind λa=>O3 a (b:Int))=_;have:fz (#[13]) (S++[.lst (LM cs)])=ag (LM cs):=by unfold fz;simp
 rw[this,lr];refine bn ?_;rw[dk,a7 hb,RR,a7 hb];rfl
theorem EK (cs:ak Nat)(b v:Nat):(LM cs).set b (.int (v:Nat))=LM (cs.set b v):=(List.map_set ..).symm
theorem xv {cs:ak Nat}{S:Lq}{b:Nat}(hb:b<cs.length){i:Int}(a:Ry cs.length i=ag b)(v:Nat)(ρ:Lr):j5 (#[13]) (.int i) (.int (v:Nat)) ρ (S++[.lst (LM cs)])=LB (.next ρ) (S++[.lst (LM (cs.set b v))]):=by
 unfold j5;have g:(S++[MO.lst (LM cs)])[S.length]?=ag (.lst (LM cs)):=by simp
 simp only[g,dv,a,EK];congr 2;rw[List.set_append_right _ _ (e9 _),acW];rfl
theorem zB {n b:Nat}(h:b<n):Ry n (b:Int)=ag b:=by unfold Ry;rw[cc #[0],cc #[0]];simp
theorem IX {i:Nat}{ws cs:ak Nat}(K:i<cs.length)(A:∀ b∈ws,b<i)(I:ws.length<=2)(S:Lq)(g sd w:a5 D) :
  ∃ c x,fV (aE 5) bJ (LM ws) [g,sd,ag (#[13]),ag (.int i),ag (.tup (LM ws)),w] (S++[.lst (LM cs)])=LB (.next [g,sd,ag (#[13]),ag (.int i),ag (.tup (LM ws)),x]) (S++[.lst (LM c)]) /\
   c.length=cs.length/\(∀ b,cs.getD b 0<=c.getD b 0)/\(∀ b,0<c.getD b 0->0<cs.getD b 0∨b∈ws/\0<cs.getD i 0)/\∀ b∈ws,cs.getD i 0 / ws.length<=c.getD b 0:=by
 obtain⟨G,t,F,c,x,rfl,rfl,v,p,o,n,_⟩:=b7 (u:=aE 5) (body:=bJ)
  (λj m t => ∃ c x,m=[g,sd,ag (#[13]),ag (.int i),ag (.tup (LM ws)),x]/\t=S++[.lst (LM c)]/\c.length=cs.length/\(∀ b,cs.getD b 0<=c.getD b 0)/\(∀ b,0<c.getD b 0->0<cs.getD b 0∨b∈ws/\0<cs.getD i 0)/\(∀ b∈ws.take j,cs.getD i 0 / ws.length<=c.getD b 0)/\c.getD i 0=cs.getD i 0)
  (LM ws) 0 [g,sd,ag (#[13]),ag (.int i),ag (.tup (LM ws)),w] (S++[.lst (LM cs)]) ⟨cs,w,rfl,rfl,rfl,λ_=>e9 _,λ_ h => .inl h,λb h=>by simp at h,rfl⟩ (by
   rintro j d m t hd ⟨c,x,rfl,rfl,v,p,o,n,s⟩;rw[lk] at n ⊢;rw[dk] at hd;obtain⟨b,hb,rfl⟩:=d7.mp hd;have r:b∈ws:=ra hb;have B:=A b r;have f:b<c.length:=#[1]
   have H:=tP (S:=S) f;have li:=tP (S:=S) (show i<c.length by omega);have J : 0<ws.length:=UR r;have ld:cr [.tup (LM ws)]=ag (.int ws.length):=by unfold cr;simp
   have fd:dM (.int ((c.getD i 0:Nat):Int)) (.int ws.length)=ag (.int ((c.getD i 0 / ws.length:Nat):Int)):=by show (if 0<(ws.length:Int)/\(ws.length:Int)<1073741824 then _ else _)=_;rw[cc #[0]];rfl
   have ad:wJ (.int ((c.getD b 0:Nat):Int)) (.int ((c.getD i 0 / ws.length:Nat):Int))=ag (.int ((c.getD b 0+c.getD i 0 / ws.length:Nat):Int)):=rfl;have E:=xv (S:=S) f (zB f) (c.getD b 0+c.getD i 0 / ws.length) [g,sd,ag (#[13]),ag (.int i),ag (.tup (LM ws)),ag (.int b)];refine⟨[g,sd,ag (#[13]),ag (.int i),ag (.tup (LM ws)),ag (.int b)],rfl,_,_,?_,c.set b (c.getD b 0+c.getD i 0 / ws.length),ag (.int b),rfl,rfl,by rw[Sn];exact v,λk=>?_,λk l=>?_,λk l=>?_,?_⟩
   ·generalize S++[MO.lst (LM (c.set b (c.getD b 0+c.getD i 0 / ws.length)))]=y at *
    generalize S++[MO.lst (LM c)]=z at *
    generalize ((c.getD b 0+c.getD i 0 / ws.length:Nat):Int)=z1 at *
    generalize ((c.getD i 0 / ws.length:Nat):Int)=z2 at *
    generalize ((c.getD i 0:Nat):Int)=z3 at *
    generalize ((c.getD b 0:Nat):Int)=z4 at *
    generalize D.tup (LM ws)=wd at *
    show qk (ah 2) (ah 5) (aI dM (uw (ah 2) (ah 3)) (bx cr (af (ah 4) aB))) _ _=_;have zV:∀ (a b:Lk D) m S,uw a b m S=ai (a m S) λx z=>ai (b m z) λi y=>aL (lL x i y) y:=λ_ _ _ _=>rfl;unfold qk;simp[H,li,ld,fd,ad,E,zV]
   ·rw[gS _ _ f];split
    ·rename_i e;subst e;exact fg (p k) (aa3 _ _)
    exact p k
   ·rw[gS _ _ f] at l;split at l
    ·rename_i e;subst e;by_cases C : 0<c.getD k 0
     ·exact o k C
     refine .inr ⟨r,?_⟩;rw[← s];have : 0<c.getD i 0 / ws.length:=#[1]
     exact acs λe=>by rw[e,Nat.zero_div] at this;omega
    exact o k l
   ·rw[gS _ _ f];rw[ac0,hb] at l;split
    ·rw[s];omega
    rename_i ne;rcases k6.mp l with q |q
    ·exact n k q
    exact ib (by simpa using q) ne
   rw[gS _ _ f,cn #[0]];exact s)
 rw[lk,dv,abN] at n;exact⟨c,x,F,v,p,o,n⟩
abbrev N6 (ss:ak el):D:=.tup (ss.map .str)
theorem t9 (n:Nat):∀ cs:ak Nat,n8 n (LM cs)=a6
 |[]=>rfl
 |c::cs=>by
  show (Ov n (.int c)&&n8 n (LM cs))=a6;rw[t9 n cs];rfl
theorem forget_eq {f:Lk D}{ρ:Lr}{S:Lq}{xs:ak D}(h:f ρ S=LB (#[13]) (S++[.lst xs]))(a:n8 S.length xs=a6)(b:xs.length<=da):jM f ρ S=LB (.lst xs) S:=by
 unfold jM;rw[h];have g:(S++[MO.lst xs])[S.length]?=ag (.lst xs):=by simp
 simp only[LB,g];exact cc ⟨e9 _,by simp,a,b⟩
theorem str_inj:∀ {a b:ak el},a.map D.str=b.map D.str->a=b
 |[],[],_=>rfl
 |[],_::_,h=>by simp at h
 |_::_,[],h=>by simp at h
 |x::a,y::b,h=>by
  rw[fh,fh,vr,D.str.injEq] at h;rw[h.1,str_inj h.2]
def Nt (sh:Sh)(a:Th):Prop:=∀ c b,sh[c]?=ag (ag b)->a c=b
section
variable {o:ak Nat}{R:ak Row}{sh:Sh}
theorem Ev.congr (w:Wr o R){d b:Th}(f:∀ c∈o,d c=b c){i:Nat}{ss:ak el}(e:Ev R d i ss):Ev R b i ss:=by
 induction e with
 |leaf h=>exact .leaf h
 |no h t _ a=>exact .no h (by rw[← f _ (w _ _ h).1];exact t) a
 |yes h t _ a=>exact .yes h (by rw[← f _ (w _ _ h).1];exact t) a
end
theorem xA:∀ (t:Tr) (a:ak Tr),(po t a).length<=a.length+QT t
 | .leaf e,a=>by
  unfold po;split
  ·omega
  simp[QT]
 | .node c n y,a=>by
  rw[po];split
  ·omega
  have b:=xA n a;have d:=xA y (po n a);rw[cv];simp only[QT,hG,acj];omega
theorem pD {o:ak Nat}:∀ (t:Tr) (k:Nat),Ord o t->o.length<=tp o t+k->QT t+1<=2 ^ (k+1)
 | .leaf _,k,_,_=>by
  have : 2 ^ 1<=2 ^ (k+1):=Uc #[2] #[0];simpa [QT] using this
 | .node c n y,k,h,a=>by
  obtain⟨hc,d,b,f,e,_⟩:=h;have a:o.length<=#[12]+k:=a;have:=o3.mpr hc;obtain⟨k,rfl⟩:∃ j,k=j+1:=⟨k-1,#[1]⟩;have a1:=pD n k d #[0];have a2:=pD y k b #[0];rw[RA];simp only[QT];omega
theorem Dh {o:ak Nat}{t:Tr}(h:Ord o t)(c:o.length<=6):#[7].length<=127:=by have a:=xA t [];have b:=pD t 6 h #[0];unfold enc;rw[dv];rw[acj] at a;have : 2 ^ (6+1)=128:=rfl;omega
noncomputable def fL (k:Nat):Sh->ak Nat
 |[]=>[]
 |a4::r=>k::fL (k+1) r
 |ag _::r=>fL (k+1) r
theorem uM:∀ (sh:Sh) (k:Nat),((bi k (sh.map Mx)).filter sS).map DV=(fL k sh).map λ(c:Nat)=>D.int c
 |[],k=>rfl
 |v::sh,k=>by
  have a:=uM sh (k+1);rw[fh,bi,Tt];cases v with
  |none=>rw[cc (show sS (D.tup [D.int k,Mx a4])=a6 from rfl),fh,a];rfl
  |some b=>rw[cn (by simp[sS,Mx,mR]),a];rfl
theorem yE:∀ {sh:Sh}{k c:Nat},c∈fL k sh↔k<=c/\sh[c-k]?=ag a4
 |[],k,c=>by simp[fL]
 |a4::sh,k,c=>by
  rw[fL,fx,yE];rw[5]
  ·rintro (rfl |⟨d,a⟩)
   ·exact⟨e9 _,by simp⟩
   exact⟨#[1],by rw[show c-k=(c-(k+1))+1 by omega,qf];exact a⟩
  rintro⟨d,a⟩;by_cases e:c=k
  ·exact .inl e
  exact .inr ⟨#[1],by rw[show c-k=(c-(k+1))+1 by omega,qf] at a;exact a⟩
 |ag b::sh,k,c=>by
  rw[fL,yE];rw[5]
  ·rintro⟨d,a⟩;exact⟨#[1],by rw[show c-k=(c-(k+1))+1 by omega,qf];exact a⟩
  rintro⟨d,a⟩;have e:¬ c=k:=λe=>by subst e;simp at a
  exact⟨#[1],by rw[show c-k=(c-(k+1))+1 by omega,qf] at a;exact a⟩
theorem wY (sh:Sh)(S:Lq):dG [LN sh] S=LB (.lst ((fL 0 sh).map λ(c:Nat)=>D.int c)) S:=by
 have q:=dz (u:=iX 2 (aS (aE 0) (aS (aE 1) eS))) (gt:=fj) (fe:=fC) (λg => ∃ x y,g=[x,y]) sS DV S (bi 0 (sh.map Mx)) (bT 2 [] [ag (LN sh)]) ⟨a4,a4,rfl⟩ (by
  rintro d hd g ⟨x,y,rfl⟩;obtain⟨i,f⟩:=m7 hd;rw[c9] at f;obtain⟨v,a,rfl⟩:=d7.mp f;rw[dk] at a;obtain⟨b,_,rfl⟩:=d7.mp a;refine⟨_,rfl,⟨_,_,rfl⟩,?_,λ_=>rfl⟩;cases b with
  |none=>rfl
  |some b=>rfl)
 rw[uM] at q;rw[3];have e:j6 [LN sh]=ag (bi 0 (sh.map Mx)):=rfl;generalize (fL 0 sh).map (λ(c:Nat)=>D.int c)=out at *
 generalize bi 0 (sh.map Mx)=l at *
 generalize LN sh=sd at *
 unfold ie;simp[e,q]
noncomputable def Xh (x:el):Row->eM
 | .leaf a=>ei (x∈a)
 |_=>a8
noncomputable def Qi (x:el):Nat->ak Row->ak Nat
 |_,[]=>[]
 |k,r::R=>if Xh x r=a6 then k::Qi x (k+1) R else Qi x (k+1) R
theorem PK {x:el}:∀ {R:ak Row}{k i:Nat},i∈Qi x k R↔k<=i/\∃ r,R[i-k]?=ag r/\Xh x r=a6
 |[],k,i=>by simp[Qi]
 |r::R,k,i=>by
  have b:=PK (x:=x) (R:=R) (k:=k+1) (i:=i)
  have key:(k+1<=i/\∃ a,R[i-(k+1)]?=ag a/\Xh x a=a6)↔(k<i/\∃ a,(r::R)[i-k]?=ag a/\Xh x a=a6):=by
   rw[5]
   ·rintro⟨h,a,e,q⟩;refine⟨h,a,?_,q⟩;rw[show i-k=(i-(k+1))+1 by omega,qf];exact e
   rintro⟨h,a,e,q⟩;refine⟨h,a,?_,q⟩;rw[show i-k=(i-(k+1))+1 by omega,qf] at e;exact e
  unfold Qi;split
  ·rename_i hr;rw[fx,b,key];rw[5]
   ·rintro (rfl |⟨h,q⟩)
    ·exact⟨e9 _,r,by simp,hr⟩
    exact⟨#[1],q⟩
   rintro⟨h,q⟩;by_cases e:i=k
   ·exact .inl e
   exact .inr ⟨#[1],q⟩
  rename_i hr;rw[b,key];rw[5]
  ·rintro⟨h,q⟩;exact⟨#[1],q⟩
  rintro⟨h,a,e,q⟩;by_cases c:i=k
  ·subst c;rw[acW] at e;cases e;exact ib q hr
  exact⟨#[1],a,e,q⟩
theorem ES {x:el}:∀ {R:ak Row}{k i:Nat},i∈Qi x k R->k<=i:=λh=>(PK.mp h).1
theorem jD {x:el}:∀ {R:ak Row}{k:Nat},(Qi x k R).Nodup
 |[],k=>VJ
 |r::R,k=>by
  unfold Qi;split
  ·rw[Up];exact⟨λh=>ib (ES h) #[0],jD⟩
  exact jD
noncomputable def hsN (x:el):D->eM
 | .tup a=>a.any λd=>match d with
  | .str y=>ei (y=x)
  |_=>a8
 |_=>a8
theorem Hh (x:el)(ss:ak el):hsN x (N6 ss)=ei (x∈ss):=by
 show (ss.map D.str).any _=_;rw[List.any_map]
 induction ss with
 |nil=>rfl
 |cons a l b =>
  rw[R_,b];by_cases e:a=x
  ·subst e;simp
  have c:¬ x=a:=λz=>e z.symm;simp[e,c]
noncomputable def ZU (x:el):D->eM
 | .tup [_,.tup [_,nm]]=>hsN x nm
 |_=>a8
noncomputable def lwF:D->D
 | .tup [i,_]=>i
 |_ => .LR
theorem y_ (x:el)(i:D)(r:Row):ZU x (.tup [i,aC r])=Xh x r:=by
 cases r with
 |leaf a=>exact Hh x a
 |ask c n y=>rfl
theorem tR (x:el):∀ (R:ak Row) (k:Nat),((bi k (R.map aC)).filter (ZU x)).map lwF=LM (Qi x k R)
 |[],k=>rfl
 |r::R,k=>by
  rw[fh,bi,Tt,y_];unfold Qi;split
  ·rw[fh,tR x R (k+1)];rfl
  exact tR x R (k+1)
theorem jf (R:ak Row)(x:el)(S:Lq):cb [Sl R,.str x] S=LB (.lst (LM (Qi x 0 R))) S:=by
 have q:=dz (u:=iX 2 (aS (aE 0) (aS (aE 1) eS))) (gt:=cM) (fe:=iH) (λm => ∃ a b,m=[a,b,ag (.str x)]) (ZU x) lwF S (bi 0 (R.map aC)) (bT 2 [1] [ag (Sl R),ag (.str x)]) ⟨a4,a4,rfl⟩ (by
  rintro d hd m ⟨a,b,rfl⟩;obtain⟨i,k⟩:=m7 hd;rw[c9] at k;obtain⟨v,j,rfl⟩:=d7.mp k;rw[dk] at j;obtain⟨r,_,rfl⟩:=d7.mp j;refine⟨[ag (.int ((0+i:Nat):Int)),ag (aC r),ag (.str x)],rfl,⟨_,_,rfl⟩,?_,λ_=>rfl⟩;have g:=jN r S;rw[y_];cases r with
  |ask c n y =>
   have g:fK [aC (.ask c n y)] S=LB (.bl a6) S:=g;show _=LB a8 S;generalize aC (.ask c n y)=rd at *
   generalize D.int ((0+i:Nat):Int)=id at *
   unfold cM;simp[g]
  |leaf f =>
   have g:fK [aC (.leaf f)] S=LB (.bl a8) S:=g;have o:Mu (aC (.leaf f)) (.int 1) S=ag (N6 f):=Tw _ _ _ S;have h:=vR a8 x f S;have h:RF a8 (.str x) (N6 f) S=ag (.bl (ei (x∈f))):=by rw[h];simp
   show _=LB (ei (x∈f)) S;generalize ei (x∈f)=bb at *
   generalize aC (.leaf f)=rd at *
   generalize N6 f=nd at *
   generalize D.int ((0+i:Nat):Int)=id at *
   generalize D.str x=xd at *
   unfold cM
   simp[g,o,h])
 rw[tR] at q;rw[3];have e:j6 [Sl R]=ag (bi 0 (R.map aC)):=rfl;show gu [ag (Sl R),ag (.str x)] S=_;generalize LM (Qi x 0 R)=out at *
 generalize bi 0 (R.map aC)=l at *
 generalize Sl R=sd at *
 unfold gu;simp[e,q]
theorem uf {α:Type}[wt α]:∀ {l P:ak α},l.Nodup->(∀ x∈l,x∈P)->l.length<=P.length
 |[],P,_,_=>RC _
 |a::l,P,nd,h=>by
  obtain⟨d,e⟩:=Up.mp nd;have c:=h a (eR ..);have f:=uf (P:=P.erase a) e λx b=>(List.mem_erase_of_ne (by rintro rfl;exact d b)).mpr (h x (ee _ b));rw[aao c] at f;have:=UR c;rw[hG];omega
theorem Ge {o:ak Nat}{s t:Tr}(q:Sub s t):Ord o t->∀ a,∃ b,Md t b=Md s a:=by
 induction q with
 |refl=>exact λ_ a=>⟨a,rfl⟩
 | @no c n y _ d =>
  intro h a;have g:Ord o n:=h.2.1;obtain⟨b,e⟩:=d g a;exact⟨upd b c a8,by rw[Gc h];exact e⟩
 | @yes c n y _ d =>
  intro h a;have f:Ord o y:=h.2.2.1;obtain⟨b,e⟩:=d f a;exact⟨upd b c a6,by rw[DX h];exact e⟩
theorem pZ {P:ak Tr}{i:Nat}{ss:ak el}(h:(enc P)[i]?=ag (.leaf ss)):P[i]?=ag (.leaf ss):=by
 unfold enc at h;rw[dk] at h;obtain⟨s,a,e⟩:=d7.mp h;cases s with
 |leaf b=>cases e;exact a
 |node c n y=>cases e
theorem zo {o:ak Nat}{t:Tr}(h:Ord o t){i:Nat}{ss:ak el}(a:#[7][i]?=ag (.leaf ss)):∃ c,Md t c=ss:=by
 have b:=ra (pZ a);rcases lF t [] _ b with z |z
 ·cases z
 exact Ge z h λ_=>a8
theorem vL {t:Tr}{i j:Nat}{ss:ak el}(c:#[7][i]?=ag (.leaf ss))(d:#[7][j]?=ag (.leaf ss)):i=j:=by have a:=pZ c;have b:=pZ d;exact(aaX (ba.mp a).1 (pA t VJ)).mp (a.trans b.symm)
theorem EZ {m k:Nat}{d:D}(h:KQ m k d):∃ K:ak (ak el),K.length<=2 ^ k/\∀ b ss,Kv b d ss->ss∈K:=by
 induction h with
 | @leaf k ss _ _ _=>exact⟨[ss],Vg,λb n a=>by rw[zu a];simp⟩
 | @ask k c x y _ _ _ e f =>
  obtain⟨l,p,i⟩:=e;obtain⟨g,o,j⟩:=f;refine⟨l++g,by rw[cv,RA];omega,λb ss a=>?_⟩;cases a with
  |no _ a=>exact UE _ (i _ _ a)
  |yes _ a=>exact mm _ (j _ _ a)
noncomputable def Mt:Nat->ak (ak Int)
 | 0=>[[]]
 |m+1=>(Mt m).map (λr => 0::r)++(Mt m).map (λr => 1::r)
theorem LP:∀ {m:Nat}{ts:ak Int},ts∈Mt m↔dJ m ts
 | 0,ts=>by
  show ts∈[[]]↔_;rw[gA];exact⟨λe=>by subst e;exact⟨rfl,λx hx=>by cases hx⟩,λh=>Yo h.1⟩
 |m+1,ts=>by
  show ts∈(Mt m).map _++(Mt m).map _↔_;rw[k6,q5,q5];rw[5]
  ·rintro (⟨r,hr,rfl⟩ |⟨r,hr,rfl⟩)
   ·have h:=LP.mp hr;exact⟨by rw[hG,h.1],λx hx=>by rcases fx.mp hx with rfl |hx;exact #[9];exact h.2 x hx⟩
   have h:=LP.mp hr;exact⟨by rw[hG,h.1],λx hx=>by rcases fx.mp hx with rfl |hx;exact .inr rfl;exact h.2 x hx⟩
  rintro⟨b,c⟩;cases ts with
  |nil=>cases b
  |cons a r =>
   have hr:r∈Mt m:=LP.mpr ⟨by simpa using b,λx hx=>c x (ee _ hx)⟩;rcases c a (eR ..) with rfl |rfl
   ·exact .inl ⟨r,hr,rfl⟩
   exact .inr ⟨r,hr,rfl⟩
theorem jE (a:Int)(x y:ak Int):cH (a::x) (a::y)=cH x y:=by unfold cH;rw[eB];simp
theorem oW:∀ m,(Mt m).Pairwise λa b=>cH a b=a6
 | 0=>T5 _ _
 |m+1=>by
  show ((Mt m).map _++(Mt m).map _).Pairwise _;rw[E3,Ml,Ml];refine⟨(oW m).imp λ{a b} h=>by rw[jE];exact h,(oW m).imp λ{a b} h=>by rw[jE];exact h,λa c b hb=>?_⟩;obtain⟨x,_,rfl⟩:=q5.mp c;obtain⟨y,_,rfl⟩:=q5.mp hb;unfold cH;rw[eB];simp
theorem zm:∀ a b:ak Int,cH a b=a6->cH b a=a6->a=b
 |[],[],_,_=>rfl
 |[],b::bs,_,h=>by simp[cH,eB] at h
 |a::as,[],h,_=>by simp[cH,eB] at h
 |a::as,b::bs,h,g=>by
  have e:a=b:=by
   unfold cH at h g;rw[eB] at h g;by_cases d:a<b
   ·have c:¬ b<a:=#[1]
    simp[d,c] at g
   by_cases c:b<a
   ·simp[d,c] at h
   omega
  subst e;rw[jE] at h g;rw[zm as bs h g]
theorem zk:∀ a b:ak Int,(cH a b ||cH b a)=a6
 |[],[]=>rfl
 |[],b::bs=>rfl
 |a::as,[]=>rfl
 |a::as,b::bs=>by
  by_cases e:a=b
  ·subst e;rw[jE,jE];exact zk as bs
  unfold cH;rw[eB,eB];by_cases d:a<b
  ·have c:¬ b<a:=#[1]
   simp[d,c]
  have c:b<a:=#[1]
  simp[d,c]
theorem lex_trans:∀ a b c:ak Int,cH a b=a6->cH b c=a6->cH a c=a6
 |[],_,[],_,_=>rfl
 |[],_,_::_,_,_=>rfl
 |a::as,[],c,h,_=>by simp[cH,eB] at h
 |a::as,b::bs,[],_,g=>by simp[cH,eB] at g
 |a::as,b::bs,c::cs,h,g=>by
  have key:∀ (x y:Int) (i f:ak Int),cH (x::i) (y::f)=a6↔x<y∨x=y/\cH i f=a6:=λx y i f=>by
   by_cases e:x=y
   ·subst e;rw[jE];simp
   unfold cH;rw[eB];by_cases j:x<y
   ·have d:¬ y<x:=#[1]
    simp[j,d]
   have d:y<x:=#[1]
   simp[j,d,e]
  rw[key] at h g ⊢;rcases h with h |⟨rfl,h⟩
  ·rcases g with g |⟨rfl,g⟩
   ·exact .inl #[0]
   exact .inl h
  rcases g with g |⟨rfl,g⟩
  ·exact .inl g
  exact .inr ⟨rfl,lex_trans as bs cs h g⟩
theorem Gh {m:Nat}(d : 1<=m)(e:m<=6):(NR m).mergeSort cH=Mt m:=by
 have c:(Mt m).Perm (NR m):=by
  have:m=1∨m=2∨m=3∨m=4∨m=5∨m=6:=#[1]
  rcases this with rfl |rfl |rfl |rfl |rfl |rfl<;>exact List.isPerm_iff.mp #[2]
 exact(qs (le:=λa b=>cH a b=a6) (λa b _ _ h g=>zm a b h g) (oW m) (s8 lex_trans zk (NR m)) (c.trans (ti (NR m) cH).symm)).symm
noncomputable def fst (m:Nat)(P:ak Int->eM):a5 (ak Int):=((Mt m).filter P).head?
section
variable {o:ak Nat}{R:ak Row}{sh:Sh}{th Rt:Th}
noncomputable def PV (R:ak Row)(th:Th)(i:Nat):a5 Nat:=match R[i]? with
 |ag (.ask c n y)=>ag (if th c=a6 then y else n)
 |_=>a4
noncomputable def N8 (R:ak Row)(th:Th):Nat->a5 Nat
 | 0=>ag (R.length-1)
 |n+1=>(N8 R th n).bind (PV R th)
def Cm (R:ak Row)(th:Th)(i:Nat):Prop:=∃ n,N8 R th n=ag i
theorem jC {i c n y:Nat}(h:R[i]?=ag (.ask c n y)):PV R th i=ag (if th c=a6 then y else n):=by unfold PV;rw[h]
theorem vj {i:Nat}{ss:ak el}(h:R[i]?=ag (.leaf ss)):PV R th i=a4:=by unfold PV;rw[h]
theorem pF (w:Wr o R){i b:Nat}(h:PV R th i=ag b):b<i/\LJ.pl o R i<LJ.pl o R b/\∃ c n y,R[i]?=ag (.ask c n y)/\LJ.pl o R i=#[12]/\c∈o:=by
 unfold PV at h;split at h
 ·rename_i c n y hr;cases h;obtain⟨a1,a2,e,d,f,_⟩:=w _ _ hr;have a:LJ.pl o R i=#[12]:=by unfold LJ.pl;rw[hr]
  rw[a];split
  ·exact⟨e,f,c,n,y,hr,rfl,a1⟩
  exact⟨a2,d,c,n,y,hr,rfl,a1⟩
 cases h
theorem xw (w:Wr o R){a i j:Nat}(d:Nat)(ha:N8 R th a=ag i)(hb:N8 R th (a+d+1)=ag j):j<i:=by
 induction d generalizing j with
 |zero =>
  obtain⟨k,b,c⟩:=hD.mp (show (N8 R th a).bind (PV R th)=ag j from hb);rw[ha] at b;cases b;exact(pF w c).1
 |succ d e =>
  obtain⟨k,b,c⟩:=hD.mp (show (N8 R th (a+d+1)).bind (PV R th)=ag j from hb);exact Vn (pF w c).1 (e b)
theorem Ek (w:Wr o R){a b i:Nat}(ha:N8 R th a=ag i)(hb:N8 R th b=ag i):a=b:=by
 rcases V5 a b with h |h |h
 ·obtain⟨d,rfl⟩:∃ d,b=a+d+1:=⟨b-a-1,#[1]⟩;exact ib (xw w d ha hb) (oe _)
 ·exact h
 obtain⟨d,rfl⟩:∃ d,a=b+d+1:=⟨a-b-1,#[1]⟩;exact ib (xw w d hb ha) (oe _)
def Ent (R:ak Row)(th:Th)(j b:Nat):Prop:=∃ n,N8 R th n=ag j/\PV R th j=ag b
theorem Hm {j b:Nat}(h:Ent R th j b):Cm R th b:=by obtain⟨n,a,c⟩:=h;exact⟨n+1,by show (N8 R th n).bind (PV R th)=ag b;rw[a];exact c⟩
theorem Df (w:Wr o R){j k b:Nat}(h:Ent R th j b)(g:Ent R th k b):j=k:=by
 obtain⟨n,c,d⟩:=h;obtain⟨m,a,i⟩:=g;have e:N8 R th (n+1)=ag b:=by show (N8 R th n).bind (PV R th)=ag b;rw[c];exact d
 have f:N8 R th (m+1)=ag b:=by show (N8 R th m).bind (PV R th)=ag b;rw[a];exact i
 have:=Ek w e f;have:n=m:=#[1]
 subst this;rw[c] at a;cases a;rfl
theorem Fd (w:Wr o R){j:Nat}(h:Ent R th j (R.length-1)):False:=by
 obtain⟨n,a,b⟩:=h;have c:N8 R th (0+n+1)=ag (R.length-1):=by rw[lk];show (N8 R th n).bind (PV R th)=_;rw[a];exact b
 exact ib (xw w n (show N8 R th 0=ag (R.length-1) from rfl) c) (oe _)
theorem Ht {b:Nat}:Cm R th b↔b=R.length-1∨∃ j,Ent R th j b:=by
 rw[5]
 ·rintro⟨n,h⟩;cases n with
  |zero=>cases h;exact #[9]
  |succ n =>
   obtain⟨k,a,c⟩:=hD.mp (show (N8 R th n).bind (PV R th)=ag b from h);exact .inr ⟨k,n,a,c⟩
 rintro (rfl |⟨j,h⟩)
 ·exact⟨0,rfl⟩
 exact Hm h
theorem zS {j b:Nat}:Ent R th j b↔Cm R th j/\PV R th j=ag b:=⟨λ⟨n,a,c⟩=>⟨⟨n,a⟩,c⟩,λ⟨⟨n,a⟩,c⟩=>⟨n,a,c⟩⟩
theorem v_ (w:Wr o R){n i:Nat}(h:N8 R th n=ag i)(b:∀ c,#[12]<LJ.pl o R i->Rt c=th c):N8 R Rt n=ag i:=by
 induction n generalizing i with
 |zero=>exact h
 |succ n f =>
  obtain⟨j,d,a⟩:=hD.mp (show (N8 R th n).bind (PV R th)=ag i from h);obtain⟨_,l,c,x,y,hr,k,hc⟩:=pF w a;show (N8 R Rt n).bind (PV R Rt)=ag i;rw[f d λe g=>b e #[0],lr,jC hr,b c #[0],← jC hr];exact a
theorem Db {i:Nat}{ss:ak el}(e:Ev R th i ss):Cm R th i->∃ j,R[j]?=ag (.leaf ss)/\Cm R th j:=by
 induction e with
 |leaf h=>intro c;exact⟨_,h,c⟩
 | @no i c n y ss a b _ f =>
  rintro⟨k,d⟩;exact f ⟨k+1,by show (N8 R th k).bind _=_;rw[d,lr,jC a,b];rfl⟩
 | @yes i c n y ss a b _ f =>
  rintro⟨k,d⟩;exact f ⟨k+1,by show (N8 R th k).bind _=_;rw[d,lr,jC a,b];rfl⟩
theorem zY {i j:Nat}{a b:ak el}(p:R[i]?=ag (.leaf a))(g:R[j]?=ag (.leaf b))(q:Cm R th i)(cj:Cm R th j):i=j:=by
 obtain⟨n,e⟩:=q;obtain⟨m,c⟩:=cj
 have stop:∀ {k x:Nat}{s:ak el},R[x]?=ag (.leaf s)->N8 R th k=ag x->∀ d,N8 R th (k+d+1)=a4:=λ{k x s} f l d=>by
  induction d with
  |zero=>show (N8 R th k).bind _=a4;rw[l,lr,vj f]
  |succ d o=>show (N8 R th (k+d+1)).bind _=a4;rw[o];rfl
 rcases V5 n m with h |h |h
 ·obtain⟨d,rfl⟩:∃ d,m=n+d+1:=⟨m-n-1,#[1]⟩;rw[stop p e d] at c;cases c
 ·subst h;rw[e] at c;cases c;rfl
 obtain⟨d,rfl⟩:∃ d,n=m+d+1:=⟨n-m-1,#[1]⟩;rw[stop g c d] at e;cases e
end
open Classical in
noncomputable def cnt (m:Nat) (P:List Int->Prop):Nat:=(Mt m).countP λts=>decide (P ts)
open Classical in
theorem bD {m:Nat}{P Q:List Int->Prop}(h:∀ ts,dJ m ts->(P ts↔Q ts)):cnt m P=cnt m Q:=by unfold cnt;refine countP_congr λts a=>?_;simp[h ts (LP.mp a)]
open Classical in
theorem um {m:Nat}{P Q:List Int->Prop}(h:∀ ts,dJ m ts->P ts->Q ts->False):cnt m (λts=>P ts∨Q ts)=cnt m P+cnt m Q:=by
 unfold cnt;have f:∀ ts∈Mt m,P ts->Q ts->False:=λts e=>h ts (LP.mp e);generalize Mt m=l at f
 induction l with
 |nil=>rfl
 |cons a l d =>
  have d:=d λts e=>f ts (mem_cons_of_mem _ e);have g:=f a (mem_cons_self ..);rw[countP_cons,countP_cons,countP_cons,d];by_cases b:P a
  ·have c:¬ Q a:=λq=>g b q;simp[b,c];omega
  by_cases c:Q a
  ·simp[b,c];omega
  simp[b,c]
open Classical in
theorem cnt_none {m:Nat}{P:List Int->Prop}(h:∀ ts,dJ m ts->¬ P ts):cnt m P=0:=by unfold cnt;rw[List.countP_eq_zero];intro ts a;simp[h ts (LP.mp a)]
open Classical in
theorem Fk {m:Nat}{P:List Int->Prop} : 0<cnt m P↔∃ ts,dJ m ts/\P ts:=by
 unfold cnt;rw[List.countP_pos_iff];constructor
 ·rintro⟨ts,a,b⟩;exact⟨ts,LP.mp a,by simpa using b⟩
 rintro⟨ts,a,b⟩;exact⟨ts,LP.mpr a,by simpa using b⟩
theorem qX:∀ m,(Mt m).Nodup
 | 0=>by simp[Mt]
 |m+1=>by
  have c:=qX m;show ((Mt m).map (λr => 0::r)++(Mt m).map λr => 1::r).Nodup;refine Qf.mpr ⟨?_,?_,λa d b hb e=>?_⟩
  ·exact Ml.mpr (c.imp λh e=>h (V6 e).2)
  ·exact Ml.mpr (c.imp λh e=>h (V6 e).2)
  obtain⟨x,_,rfl⟩:=q5.mp d;obtain⟨y,_,rfl⟩:=q5.mp hb;have:=(V6 e).1;omega
noncomputable def Qd (c:Nat)(ts:ak Int):ak Int:=ts.set c (1-ts.getD c 0)
theorem C_ {m c:Nat}{ts:ak Int}(h:dJ m ts):dJ m (Qd c ts):=by
 refine⟨by unfold Qd;rw[Sn];exact h.1,λx a=>?_⟩;rcases List.mem_or_eq_of_mem_set a with q |q
 ·exact h.2 x q
 have:ts.getD c 0=0∨ts.getD c 0=1:=by
  rw[RR];cases e:ts[c]? with
  |none=>exact #[9]
  |some v=>exact h.2 v (ra e)
 rw[q];omega
theorem zL {c:Nat}{ts:ak Int}(hc:c<ts.length)(k:Nat):(Qd c ts).getD k 0=if k=c then 1-ts.getD c 0 else ts.getD k 0:=by
 unfold Qd;rw[RR,Z7];by_cases h:k=c
 ·subst h;rw[cc rfl,cc hc,cc rfl];rfl
 rw[cn (λe=>h e.symm),cn h];rfl
theorem ya {m c:Nat}{ts:ak Int}(h:dJ m ts)(hc:c<m)(k:Nat):tv (Qd c ts) k=if k=c then !tv ts c else tv ts k:=by
 have a:c<ts.length:=by rw[h.1];exact hc
 unfold tv;rw[zL a];by_cases e:k=c
 ·subst e;rw[cc rfl,cc rfl];have:ts.getD k 0=0∨ts.getD k 0=1:=by rw[RR,a7 a];exact h.2 _ (Ui a)
  rcases this with q |q<;>rw[q]<;>rfl
 rw[cn e,cn e]
theorem ue {m c:Nat}{ts:ak Int}(h:dJ m ts)(hc:c<m):Qd c (Qd c ts)=ts:=by
 have a:c<ts.length:=by rw[h.1];exact hc
 have e:(Qd c ts).getD c 0=1-ts.getD c 0:=by rw[zL a,cc rfl]
 show (Qd c ts).set c (1-(Qd c ts).getD c 0)=ts;rw[e];show (ts.set c (1-ts.getD c 0)).set c (1-(1-ts.getD c 0))=ts;rw[acZ,show 1-(1-ts.getD c 0)=ts.getD c 0 by omega,RR,a7 a];exact List.set_getElem_self a
open Classical in
theorem Dn {m c:Nat}(hc:c<m){P:List Int->Prop}:cnt m (λts=>P (Qd c ts))=cnt m P:=by
 have nd:(Mt m).Nodup:=qX m
 have d:((Mt m).map (Qd c)).Perm (Mt m):=by
  refine(List.perm_ext_iff_of_nodup ?_ nd).mpr λts=>⟨λh=>?_,λh=>?_⟩
  ·refine pairwise_map.mpr (List.Pairwise.imp_of_mem (λ{a b} g hb i e=>i ?_) nd);rw[← ue (LP.mp g) hc,e,ue (LP.mp hb) hc]
  ·obtain⟨x,f,rfl⟩:=mem_map.mp h;exact LP.mpr (C_ (LP.mp f))
  exact mem_map.mpr ⟨Qd c ts,LP.mpr (C_ (LP.mp h)),ue (LP.mp h) hc⟩
 unfold cnt;rw[← d.countP_eq (λts=>decide (P ts)),countP_map];rfl
section
variable {o:ak Nat}{R:ak Row}{sh:Sh}
noncomputable def cK (R:ak Row) (sh:Sh) (k b:Nat):Nat:=cnt sh.length λts=>Nt sh (tv ts)/\(b=R.length-1∨∃ j,R.length-k<=j/\Ent R (tv ts) j b)
noncomputable def cN (R:ak Row) (sh:Sh) (b:Nat):Nat:=cnt sh.length λts=>Nt sh (tv ts)/\Cm R (tv ts) b
theorem F3 (w:Wr o R){k i:Nat}(h:R.length<=i+k+1):cK R sh k i=cN R sh i:=bD λts _=>by rw[Ht];refine⟨λ⟨a,b⟩=>⟨a,b.imp id λ⟨j,_,e⟩=>⟨j,e⟩⟩,λ⟨a,b⟩=>⟨a,b.imp id λ⟨j,e⟩=>⟨j,?_,e⟩⟩⟩;obtain⟨n,_,c⟩:=e;have:=(pF w c).1;omega
theorem FA {c:Nat}(hc:sh[c]?=ag a4){ts:ak Int}(h:dJ sh.length ts):Nt sh (tv (Qd c ts))↔Nt sh (tv ts):=by
 have f:c<sh.length:=(ba.mp hc).1;have key:∀ k b,sh[k]?=ag (ag b)->tv (Qd c ts) k=tv ts k:=λk b d=>by rw[ya h f,cn (λe=>by subst e;rw[hc] at d;cases d)]
 exact⟨λa k b d=>by rw[← key k b d];exact a k b d,λa k b d=>by rw[key k b d];exact a k b d⟩
theorem Hu (w:Wr o R){i c n y:Nat}(hr:R[i]?=ag (.ask c n y))(hc:c<sh.length){ts:ak Int}(h:dJ sh.length ts):Cm R (tv (Qd c ts)) i↔Cm R (tv ts) i:=by
 have b:LJ.pl o R i=#[12]:=by unfold LJ.pl;rw[hr]
 have key:∀ x,o.idxOf x<LJ.pl o R i->tv (Qd c ts) x=tv ts x:=λx a=>by rw[ya h hc,cn (λe=>by subst e;rw[b] at a;exact ib a (oe _))]
 exact⟨λ⟨k,e⟩=>⟨k,v_ w e λx a=>(key x a).symm⟩,λ⟨k,e⟩=>⟨k,v_ w e key⟩⟩
theorem Ft (w:Wr o R)(G:∀ c∈o,c<sh.length){k i:Nat}{r:Row}(I:i+k+1=R.length)(hr:R[i]?=ag r)(b:Nat):cK R sh (k+1) b=cK R sh k b+(eV sh r).count b*(cN R sh i / (eV sh r).length):=by
 have H:cK R sh (k+1) b=cK R sh k b+cnt sh.length λts=>Nt sh (tv ts)/\Ent R (tv ts) i b:=by
  unfold cK;rw[← um]
  ·refine bD λts _=>?_;rw[5]
   ·rintro⟨a,e |⟨j,A,e⟩⟩
    ·exact .inl ⟨a,.inl e⟩
    by_cases q:j=i
    ·subst q;exact .inr ⟨a,e⟩
    exact .inl ⟨a,.inr ⟨j,#[1],e⟩⟩
   rintro (⟨a,e |⟨j,A,e⟩⟩ |⟨a,e⟩)
   ·exact⟨a,.inl e⟩
   ·exact⟨a,.inr ⟨j,#[1],e⟩⟩
   exact⟨a,.inr ⟨i,#[1],e⟩⟩
  rintro ts _ ⟨_,e |⟨j,A,e⟩⟩ ⟨_,s⟩
  ·subst e;exact Fd w s
  have:=Df w e s;omega
 rw[H];congr 1;cases r with
 |leaf E =>
  rw[show (eV sh (.leaf E)).count b=0 from rfl,aed];refine cnt_none λts _ C=>?_;obtain⟨_,n,_,e⟩:=C;rw[vj hr] at e;cases e
 |ask c n y =>
  have hc:=G c (w _ _ hr).1;have es:sh[c]?=ag sh[c]:=a7 hc;cases hv:sh[c] with
  |some v =>
   rw[hv] at es;have u:eV sh (.ask c n y)=[if v=a6 then y else n]:=by simp only[eV,es]
   rw[u,T2,Nat.div_one];have key:∀ ts,Nt sh (tv ts)->(Ent R (tv ts) i b↔Cm R (tv ts) i/\b=if v=a6 then y else n):=λts a=>by rw[zS,jC hr,a c v es];exact⟨λ⟨x,e⟩=>⟨x,(h8 e).symm⟩,λ⟨x,e⟩=>⟨x,by rw[e]⟩⟩
   by_cases q:b=if v=a6 then y else n
   ·rw[Yp,show ((if v=a6 then y else n)==b)=a6 by rw[← q];simp];rw[cc rfl,Nat.one_mul];exact bD λts _=>⟨λ⟨a,e⟩=>⟨a,((key ts a).mp e).1⟩,λ⟨a,e⟩=>⟨a,(key ts a).mpr ⟨e,q⟩⟩⟩
   rw[Yp,show ((if v=a6 then y else n)==b)=a8 by simpa using λe=>q e.symm];rw[cn #[2],aed];exact cnt_none λts _ ⟨a,e⟩=>q ((key ts a).mp e).2
  |none =>
   rw[hv] at es;have u:eV sh (.ask c n y)=[n,y]:=by simp only[eV,es]
   rw[u];have B:cnt sh.length (λts=>Nt sh (tv ts)/\Cm R (tv ts) i/\tv ts c=a8)=cnt sh.length (λts=>Nt sh (tv ts)/\Cm R (tv ts) i/\tv ts c=a6):=by rw[← Dn hc (P:=λts=>Nt sh (tv ts)/\Cm R (tv ts) i/\tv ts c=a6)];refine bD λts h=>?_;rw[FA es h,Hu w hr hc h,ya h hc,cc rfl];simp
   have D:cN R sh i=cnt sh.length (λts=>Nt sh (tv ts)/\Cm R (tv ts) i/\tv ts c=a8)+cnt sh.length (λts=>Nt sh (tv ts)/\Cm R (tv ts) i/\tv ts c=a6):=by
    unfold cN;rw[← um λts _ h g=>by rw[h.2.2] at g;cases g.2.2];refine bD λts _=>⟨λ⟨a,e⟩=>?_,λh=>?_⟩
    ·cases q:tv ts c with
     |false=>exact .inl ⟨a,e,rfl⟩
     |true=>exact .inr ⟨a,e,rfl⟩
    rcases h with h |h
    ·exact⟨h.1,h.2.1⟩
    exact⟨h.1,h.2.1⟩
   have s:cN R sh i / [n,y].length=cnt sh.length (λts=>Nt sh (tv ts)/\Cm R (tv ts) i/\tv ts c=a6):=by rw[D,B];show (_ + _) / 2=_;omega
   rw[s]
   have F:cnt sh.length (λts=>Nt sh (tv ts)/\Ent R (tv ts) i b)=cnt sh.length (λts=>b=n/\Nt sh (tv ts)/\Cm R (tv ts) i/\tv ts c=a8)+cnt sh.length (λts=>b=y/\Nt sh (tv ts)/\Cm R (tv ts) i/\tv ts c=a6):=by
    rw[← um λts _ h g=>by rw[h.2.2.2] at g;cases g.2.2.2];refine bD λts _=>?_;rw[zS,jC hr];cases q:tv ts c with
    |false =>
     rw[5]
     ·rintro⟨a,e,f⟩;exact .inl ⟨(h8 f).symm,a,e,rfl⟩
     rintro (⟨f,a,e,_⟩ |⟨_,_,_,z⟩)
     ·exact⟨a,e,by rw[f];rfl⟩
     cases z
    |true =>
     rw[5]
     ·rintro⟨a,e,f⟩;exact .inr ⟨(h8 f).symm,a,e,rfl⟩
     rintro (⟨_,_,_,z⟩ |⟨f,a,e,_⟩)
     ·cases z
     exact⟨a,e,by rw[f];rfl⟩
   rw[F]
   have m:∀ (p:Prop) [Decidable p] (P:ak Int->Prop),cnt sh.length (λts=>p/\P ts)=(if p then 1 else 0)*cnt sh.length P:=λp _ P=>by
    by_cases t:p
    ·rw[cc t,Nat.one_mul];exact bD λts _=>⟨λh=>h.2,λh=>⟨t,h⟩⟩
    rw[cn t,aed];exact cnt_none λts _ h=>t h.1
   rw[m,m,B,← Nat.add_mul];congr 1;rw[List.count_cons,Yp];by_cases d:b=n<;>by_cases l:b=y
   ·subst d;subst l;simp
   ·subst d;simp[l,kg l]
   ·subst l;simp[d,kg d]
   simp[d,l,kg d,kg l]
end
theorem Bh {i:Nat}{ws cs:ak Nat}(G:i<cs.length)(r:∀ b∈ws,b<i)(E:ws.length<=2)(S:Lq)(g sd p:a5 D) :
  ∃ c x,fV (aE 5) bJ (LM ws) [g,sd,ag (#[13]),ag (.int i),ag (.tup (LM ws)),p] (S++[.lst (LM cs)])=LB (.next [g,sd,ag (#[13]),ag (.int i),ag (.tup (LM ws)),x]) (S++[.lst (LM c)]) /\
   c.length=cs.length/\∀ b,c.getD b 0=cs.getD b 0+ws.count b*(cs.getD i 0 / ws.length):=by
 obtain⟨A,n,B,c,x,rfl,rfl,o,f⟩:=b7 (u:=aE 5) (body:=bJ)
  (λj l n => ∃ c x,l=[g,sd,ag (#[13]),ag (.int i),ag (.tup (LM ws)),x]/\n=S++[.lst (LM c)]/\c.length=cs.length/\∀ b,c.getD b 0=cs.getD b 0+(ws.take j).count b*(cs.getD i 0 / ws.length))
  (LM ws) 0 [g,sd,ag (#[13]),ag (.int i),ag (.tup (LM ws)),p] (S++[.lst (LM cs)]) ⟨cs,p,rfl,rfl,rfl,λb=>by simp⟩ (by
   rintro j d l n hd ⟨c,x,rfl,rfl,o,f⟩;rw[lk] at f ⊢;rw[dk] at hd;obtain⟨b,hb,rfl⟩:=d7.mp hd;have s:b∈ws:=ra hb;have v:=r b s;have m:b<c.length:=#[1]
   have z:c.getD i 0=cs.getD i 0:=by have y:(ws.take j).count i=0:=List.count_eq_zero.mpr λh=>oe _ (r i (N_ h));rw[f i,y,aed];rfl
   have C:=tP (S:=S) m;have li:=tP (S:=S) (show i<c.length by omega);have F : 0<ws.length:=UR s;have ld:cr [.tup (LM ws)]=ag (.int ws.length):=by unfold cr;simp
   have fd:dM (.int ((c.getD i 0:Nat):Int)) (.int ws.length)=ag (.int ((c.getD i 0 / ws.length:Nat):Int)):=by show (if 0<(ws.length:Int)/\(ws.length:Int)<1073741824 then _ else _)=_;rw[cc #[0]];rfl
   have ad:wJ (.int ((c.getD b 0:Nat):Int)) (.int ((c.getD i 0 / ws.length:Nat):Int))=ag (.int ((c.getD b 0+c.getD i 0 / ws.length:Nat):Int)):=rfl;have w:=xv (S:=S) m (zB m) (c.getD b 0+c.getD i 0 / ws.length) [g,sd,ag (#[13]),ag (.int i),ag (.tup (LM ws)),ag (.int b)];refine⟨[g,sd,ag (#[13]),ag (.int i),ag (.tup (LM ws)),ag (.int b)],rfl,_,_,?_,c.set b (c.getD b 0+c.getD i 0 / ws.length),ag (.int b),rfl,rfl,by rw[Sn];exact o,λk=>?_⟩
   ·generalize S++[MO.lst (LM (c.set b (c.getD b 0+c.getD i 0 / ws.length)))]=q at *
    generalize S++[MO.lst (LM c)]=t at *
    generalize ((c.getD b 0+c.getD i 0 / ws.length:Nat):Int)=z1 at *
    generalize ((c.getD i 0 / ws.length:Nat):Int)=z2 at *
    generalize ((c.getD i 0:Nat):Int)=z3 at *
    generalize ((c.getD b 0:Nat):Int)=z4 at *
    generalize D.tup (LM ws)=wd at *
    show qk (ah 2) (ah 5) (aI dM (uw (ah 2) (ah 3)) (bx cr (af (ah 4) aB))) _ _=_;have zV:∀ (a b:Lk D) l S,uw a b l S=ai (a l S) λx t=>ai (b l t) λi q=>aL (lL x i q) q:=λ_ _ _ _=>rfl;unfold qk;simp[C,li,ld,fd,ad,w,zV]
   rw[gS _ _ m,ac0,hb,List.count_append];by_cases e:k=b
   ·subst e;rw[cc rfl,f k,z];simp[Nat.add_mul];omega
   rw[cn e,f k]
   simp[kg e])
 rw[lk,dv,abN] at f;exact⟨c,x,B,o,f⟩
structure CX (R:ak Row) (sh:Sh) (k:Nat) (cs:ak Nat):Prop where
 len:cs.length=R.length
 all:∀ i,cs.getD i 0=cK R sh k i
theorem Ma {v:a5 eM}{sh:Sh}{x:Int}{ts:ak Int}:Nt (v::sh) (tv (x::ts))↔(∀ b,v=ag b->ei (x=1)=b)/\Nt sh (tv ts):=by
 rw[5]
 ·intro h;exact⟨λb e=>h 0 b (by rw[e];rfl),λc b hc=>h (c+1) b (by simpa using hc)⟩
 rintro⟨a,d⟩ c b hc;cases c with
 |zero=>exact a b (by simpa using hc)
 |succ c=>exact d c b (by simpa using hc)
open Classical in
theorem Dm (m:Nat)(P:List Int->Prop):cnt (m+1) P=cnt m (λr=>P (0::r))+cnt m (λr=>P (1::r)):=by unfold cnt;show List.countP _ ((Mt m).map _++(Mt m).map _)=_;rw[List.countP_append,countP_map,countP_map];rfl
theorem Ah:∀ sh:Sh,cnt sh.length (λts=>Nt sh (tv ts))=2 ^ dj sh
 |[]=>by
  have:Nt [] (tv []):=λc b h=>by simp at h
  simp[cnt,Mt,dj,this]
 |v::sh=>by
  rw[hG,Dm];have a:=Ah sh;cases v with
  |none =>
   have e:∀ x,cnt sh.length (λr=>Nt (a4::sh) (tv (x::r)))=2 ^ dj sh:=λx=>by rw[← a];exact bD λts _=>by rw[Ma];exact⟨λh=>h.2,λh=>⟨λb z=>(by cases z),h⟩⟩
   rw[e,e,show dj (a4::sh)=dj sh+1 from by simp[dj],RA];omega
  |some b =>
   have e:∀ x,cnt sh.length (λr=>Nt (ag b::sh) (tv (x::r)))=if ei (x=1)=b then 2 ^ dj sh else 0:=λx=>by
    split
    ·rename_i q;rw[← a];exact bD λts _=>by rw[Ma];exact⟨λh=>h.2,λh=>⟨λb z=>(by cases z;exact q),h⟩⟩
    rename_i q;exact cnt_none λts _ h=>q ((Ma.mp h).1 b rfl)
   rw[e,e,show dj (ag b::sh)=dj sh from by simp[dj]];cases b<;>simp
theorem wW (n i:Nat):(eh n 0).getD i 0=0:=by rw[RR,QH];split<;>rfl
theorem Ff (n:Nat)(ix:ak Nat)(a:Lk (ak D))(u:D->Lr->a5 Lr)(gt:Lk eM)(fe:Lk D)(ρ:Lr)(S:Lq):qj n ix a u gt fe ρ S=ai (a ρ S) λds b =>
 match b8 u gt fe ds (bT n ix ρ) b with
 |ag (out,S2)=>LB (.loc S2.length) (S2++[.lst out])
 |a4=>a4:=rfl
theorem Hn (a c b:Lk D)(ρ:Lr)(S:Lq):z_ a c b ρ S=ai (b ρ S) λv e=>ai (a ρ e) λx S2=>ai (c ρ S2) λk d=>j5 x k v ρ d:=rfl
theorem p_ {o:ak Nat}{R:ak Row}{sh:Sh}(w:Wr o R)(U:o.Perm (ew sh.length))(h1 : 0<R.length)(hR:R.length<15000000)(S:Lq) :
  ∃ cs,bt [.tup (R.map aC),LN sh] S=LB (#[13]) (S++[.lst (LM cs)])/\cs.length=R.length/\∀ i,i<R.length->cs.getD i 0=cN R sh i:=by
 have M:∀ c∈o,c<sh.length:=λc hc=>SJ.mp (U.mem_iff.mp hc)
 have A:=dR (u:=aE 0) (fe:=fX) (λm => ∃ y,m=[y]) (λ_ => .int 0) S (R.map aC) (bT 1 [] [ag (.tup (R.map aC)),ag (LN sh),a4,a4,a4,a4]) ⟨a4,rfl⟩ (by
  rintro d hd m ⟨y,rfl⟩
  exact⟨_,rfl,⟨_,rfl⟩,rfl⟩)
 have B:(R.map aC).map (λ_=>D.int 0)=LM (eh R.length 0):=by rw[rT,LM,acA];exact adF ..
 rw[B] at A;have N:cm (.tup (R.map aC))=ag (R.map aC):=rfl;have G:=λS=>wI sh S
 have C:=xv (S:=S) (cs:=eh R.length 0) (b:=R.length-1) (by rw[Pf];omega) (i:=-1) (by
  rw[Pf];unfold Ry;rw[cn #[2],cc #[0]]
  congr 1;omega) (2 ^ dj sh) [ag (.tup (R.map aC)),ag (LN sh),ag (#[13]),a4,a4,a4]
 generalize K:(eh R.length 0).set (R.length-1) (2 ^ dj sh)=l at C;have E:∀ i,l.getD i 0=if i=R.length-1 then 2 ^ dj sh else 0:=λi=>by rw[← K,gS _ _ (by rw[Pf];omega),wW]
 have g:CX R sh 0 l:=by
  refine⟨by rw[← K,Sn,Pf],λi=>?_⟩;rw[E];by_cases e:i=R.length-1
  ·rw[cc e,← Ah];exact bD λts _=>⟨λa=>⟨a,.inl e⟩,λa=>a.1⟩
  rw[cn e]
  exact(cnt_none λts _ Q=>by
   obtain⟨_,q⟩:=Q
   rcases q with q |⟨j,r,n,_,q⟩
   ·exact e q
   obtain⟨_,_,c,x,y,hr,_⟩:=pF w q;have:=(ba.mp hr).1
   omega).symm
 have ln:cr [.tup (R.map aC)]=ag (.int R.length):=by unfold cr;simp
 have H:u8 [.int ((R.length:Int)-1),.int (-1),.int (-1)]=ag ((ew R.length).map λ(k:Nat)=>D.int ((R.length:Int)-1-k)):=by unfold u8;simp only;rw[cc ⟨#[1],#[1],#[4],#[4],TC⟩,show ((R.length:Int)-1 - -1).toNat=R.length by omega]
 obtain⟨W,F,X,cs,v,s,p,rfl,rfl,f⟩:=b7 (u:=aE 3) (body:=dC)
  (λk m F => ∃ cs v s p,m=[ag (.tup (R.map aC)),ag (LN sh),ag (#[13]),v,s,p]/\F=S++[.lst (LM cs)]/\CX R sh k cs)
  ((ew R.length).map λ(k:Nat)=>D.int ((R.length:Int)-1-k)) 0 [ag (.tup (R.map aC)),ag (LN sh),ag (#[13]),a4,a4,a4] (S++[.lst (LM l)]) ⟨l,a4,a4,a4,rfl,rfl,g⟩ (by
   rintro j d m F hd ⟨cs,v,s,p,rfl,rfl,f⟩;rw[lk] at f ⊢;rw[dk] at hd;obtain⟨h,r,rfl⟩:=d7.mp hd;have Xe:j<R.length:=by have:=(ba.mp r).1;rw[4]
   have ej:h=j:=by rw[Zl Xe] at r;exact(h8 r).symm
   subst ej;obtain⟨i,O⟩:∃ i,i+h+1=R.length:=⟨R.length-h-1,#[1]⟩;have L:i<R.length:=#[1]
   have hr:R[i]?=ag R[i]:=a7 L;have Y:(R.length:Int)-1-h=i:=#[1]
   rw[Y];have Z:=DT w M hr (S++[.lst (LM cs)]);have T:Mu (.tup (R.map aC)) (.int i) (S++[.lst (LM cs)])=ag (aC R[i]):=by unfold Mu;rw[cn (by simp[bN])];exact bn (by rw[dk,hr];rfl)
   obtain⟨I,x,lp,P,J⟩:=Bh (i:=i) (ws:=eV sh R[i]) (cs:=cs) (by rw[f.len];exact L) (λb hb=>(DS w hr hb).1) (BH _) S (ag (.tup (R.map aC))) (ag (LN sh)) p;refine⟨[ag (.tup (R.map aC)),ag (LN sh),ag (#[13]),ag (.int i),s,p],rfl,_,_,?_,I,ag (.int i),ag (.tup (LM (eV sh R[i]))),x,rfl,rfl,⟨P.trans f.len,λb=>by rw[J,f.all b,f.all i,Ft w M O hr b,F3 (i:=i) (k:=h) w #[0]]⟩⟩;have sw:cm (.tup (LM (eV sh R[i])))=ag (LM (eV sh R[i])):=rfl;clear C G A B N E H ln P J;generalize S++[MO.lst (LM I)]=S2 at *
   generalize S++[MO.lst (LM cs)]=S1 at *
   generalize D.tup (LM (eV sh R[i]))=wd at *
   generalize LM (eV sh R[i])=wl at *
   generalize aC R[i]=rd at *
   generalize D.tup (R.map aC)=fo at *
   generalize LN sh=sd at *
   unfold dC
   simp[T,Z,sw,lp])
 rw[lk,dv,mc] at f;refine⟨cs,aA rfl ?_,f.len,λi O=>by rw[f.all i,F3 w #[0]]⟩;have V:AR (.int 1)=ag (.int (-1)):=rfl;have sb:uR (.int R.length) (.int 1)=ag (.int ((R.length:Int)-1)):=rfl;have t:=G (S++[.lst (LM (eh R.length 0))]);clear G f g E B;generalize ((2 ^ dj sh:Nat):Int)=z at *
 generalize (ew R.length).map (λ(k:Nat)=>D.int ((R.length:Int)-1-k))=rl at *
 generalize S++[MO.lst (LM cs)]=S3 at *
 generalize S++[MO.lst (LM l)]=S2 at *
 generalize LM (eh R.length 0)=zs at *
 generalize R.map aC=rr at *
 generalize LN sh=sd at *
 unfold iF;simp[Ff,Hn,A,N,t,V,C,ln,sb,H,X]
noncomputable def Xj (cs:ak Nat):D->D
 | .int i => .int ((cs.getD i.toNat 0:Nat):Int)
 |_ => .LR
theorem Hs (cs L:ak Nat):(LM L).map (Xj cs)=LM (L.map λi=>cs.getD i 0):=by rw[rT,LM,rT];rfl
theorem zC:∀ l:ak Nat,bU (LM l)=ag (l.map λ(n:Nat)=>(n:Int))
 |[]=>rfl
 |a::l=>by
  show (bU (D.int a::LM l))=_;rw[bU,zC l];rfl
theorem BO:∀ l:ak Nat,((l.map λ(n:Nat)=>(n:Int)).sum)=((l.sum:Nat):Int)
 |[]=>rfl
 |a::l=>by rw[fh,sum_cons,BO l,sum_cons];omega
section
variable {o:ak Nat}{R:ak Row}{sh:Sh}
theorem Bs (w:Wr o R)(n:o.Perm (ew sh.length))(t : 0<R.length)(v:R.length<2000){L:ak Nat}(g:∀ i∈L,i<R.length)(S:Lq) :
  cV [Sl R,.lst (LM L),LN sh] S=LB (.int (((L.map (cN R sh)).sum:Nat):Int)) S:=by
 obtain⟨a,h,m,hc⟩:=p_ w n t #[0] S;have l:L.map (cN R sh)=L.map λi=>a.getD i 0:=Ua λi c=>(hc i (g i c)).symm;rw[l]
 have e:=dR (u:=aE 0) (fe:=ij) (λρ => ∃ y,ρ=[y,ag (.lst (LM a))]) (Xj a) S (LM L) (bT 1 [3] [ag (Sl R),ag (.lst (LM L)),ag (LN sh),ag (.lst (LM a))]) ⟨a4,rfl⟩ (by
  rintro d hd ρ ⟨y,rfl⟩;obtain⟨i,c,rfl⟩:=q5.mp hd;refine⟨[ag (.int i),ag (.lst (LM a))],rfl,⟨_,rfl⟩,?_⟩;have b:i<a.length:=by rw[m];exact g i c
  have j:Mu (.lst (LM a)) (.int i) S=ag (Xj a (.int i)):=by unfold Mu;rw[cn (by simp[bN])];refine bn ?_;rw[dk,a7 b];simp[Xj,RR,b]
  generalize Xj a (.int i)=z at *
  generalize D.lst (LM a)=nc at *
  unfold ij
  simp[j])
 rw[Hs] at e;have p:D1 [.lst (LM (L.map λi=>a.getD i 0))]=ag (.int (((L.map λi=>a.getD i 0).sum:Nat):Int)):=by show (bU _).map _=_;rw[zC,UI,BO]
 have k:=forget_eq (f:=aQ bt (af (ah 0) (af (ah 2) aB))) (ρ:=[ag (Sl R),ag (.lst (LM L)),ag (LN sh),a4]) (S:=S) (xs:=LM a) (by
  show aQ bt (af (ah 0) (af (ah 2) aB)) [ag (.tup (R.map aC)),ag (.lst (LM L)),ag (LN sh),a4] S=_;generalize S++[MO.lst (LM a)]=S2 at *
  generalize D.tup (R.map aC)=rd at *
  generalize LN sh=sd at *
  simp[h]) (t9 _ _) (fg (show (LM a).length<=2000 by rw[dv];omega) #[2])
 have r:cm (.lst (LM L))=ag (LM L):=rfl;rw[3];clear h;show kD [ag (Sl R),ag (.lst (LM L)),ag (LN sh),a4] S=_;generalize (((L.map λi=>a.getD i 0).sum:Nat):Int)=z at *
 generalize LM (L.map λi=>a.getD i 0)=out at *
 generalize x:D.lst (LM L)=dl at *
 generalize q:LM L=nl at *
 generalize s:D.lst (LM a)=nc at *
 generalize Sl R=rd at *
 generalize LN sh=sd at *
 unfold kD;simp[k,r,e,p]
theorem BP (w:Wr o R):∀ {L:ak Nat},L.Nodup->(∀ i∈L,∃ ss,R[i]?=ag (.leaf ss))->(L.map (cN R sh)).sum=cnt sh.length λts=>Nt sh (tv ts)/\∃ i∈L,Cm R (tv ts) i
 |[],_,_=>(cnt_none λts _ b=>by obtain⟨_,i,h,_⟩:=b;cases h).symm
 |i::L,nd,h=>by
  obtain⟨n1,n2⟩:=Up.mp nd;rw[fh,sum_cons,BP w n2 λj hj=>h j (ee _ hj)];show cnt _ _ + _=_;rw[← um]
  ·refine bD λts _=>⟨λq=>?_,λ⟨a,j,hj,q⟩=>?_⟩
   ·rcases q with ⟨a,q⟩ |⟨a,j,hj,q⟩
    ·exact⟨a,i,eR ..,q⟩
    exact⟨a,j,ee _ hj,q⟩
   rcases fx.mp hj with rfl |hj
   ·exact .inl ⟨a,q⟩
   exact .inr ⟨a,j,hj,q⟩
  rintro ts _ ⟨_,q⟩ ⟨_,j,hj,e⟩;obtain⟨f,c⟩:=h i (eR ..);obtain⟨g,d⟩:=h j (ee _ hj);have:=zY c d q e;subst this;exact n1 hj
end
section
variable {o:ak Nat}{t:Tr}{sh:Sh}{Q:ak el->eM}{L:ak Nat}
theorem Do (ev:∀ a,Ev #[7] a (#[7].length-1) (Md t a)){i:Nat}{ss:ak el}(c:#[7][i]?=ag (.leaf ss))(a:Th):Cm #[7] a i↔Md t a=ss:=by
 obtain⟨j,b,cj⟩:=Db (ev a) ⟨0,rfl⟩;rw[5]
 ·intro d;have:=zY c b d cj;subst this;rw[c] at b;cases b;rfl
 intro e;subst e;rw[vL c b];exact cj
structure Sm (R:ak Row) (Q:ak el->eM) (L:ak Nat):Prop where
 mem:∀ i,i∈L↔∃ ss,R[i]?=ag (.leaf ss)/\Q ss=a6
theorem DZ (w:Wr o #[7])(ev:∀ e,Ev #[7] e (#[7].length-1) (Md t e))(lf:Sm #[7] Q L)(nd:L.Nodup):(L.map (cN #[7] sh)).sum=cnt sh.length λts=>Nt sh (tv ts)/\Q (Md t (tv ts))=a6:=by
 rw[BP w nd λi b=>let ⟨d,h,_⟩:=(lf.mem i).mp b;⟨d,h⟩];refine bD λts _=>⟨λ⟨a,i,b,c⟩=>⟨a,?_⟩,λ⟨a,q⟩=>⟨a,?_⟩⟩
 ·obtain⟨d,h,g⟩:=(lf.mem i).mp b;rw[(Do ev h _).mp c];exact g
 obtain⟨j,f,cj⟩:=Db (ev (tv ts)) ⟨0,rfl⟩;exact⟨j,(lf.mem j).mpr ⟨_,f,q⟩,cj⟩
theorem IQ (lf:Sm #[7] Q L):∀ i∈L,i<#[7].length:=λi a=>by obtain⟨b,hr,_⟩:=(lf.mem i).mp a;exact(ba.mp hr).1
theorem sE (w:Wr o #[7])(b:o.Perm (ew sh.length))(c:#[7].length<2000)(ev:∀ a,Ev #[7] a (#[7].length-1) (Md t a))(lf:Sm #[7] Q L)(nd:L.Nodup)(S:Lq) :
  cV [cZ t,.lst (LM L),LN sh] S=LB (.int ((cnt sh.length (λts=>Nt sh (tv ts)/\Q (Md t (tv ts))=a6):Nat):Int)) S:=by
 rw[← DZ w ev lf nd];exact Bs w b (zT t) c (IQ lf) S
end
noncomputable def bI (b:eM):Int:=if b=a6 then 1 else 0
noncomputable def fS:Sh->(ak Int->eM)->a5 (ak Int)
 |[],P=>if P []=a6 then ag [] else a4
 |ag b::sh,P=>(fS sh λr=>P (bI b::r)).map λr=>bI b::r
 |a4::sh,P=>if (fS sh λr=>P (0::r)).isSome=a6 then (fS sh λr=>P (0::r)).map (λr => 0::r) else (fS sh λr=>P (1::r)).map λr => 1::r
theorem zM:∀ (cur:Sh) (k:Nat) {c:Nat}{rest:ak Nat},fL k cur=c::rest->∀ P,k<=c/\c-k<cur.length/\(∀ v,fL k (cur.set (c-k) (ag v))=rest) /\
  fS cur P=if (fS (cur.set (c-k) (ag a8)) P).isSome=a6 then fS (cur.set (c-k) (ag a8)) P else fS (cur.set (c-k) (ag a6)) P
 |[],k,c,rest,h,P=>by cases h
 |a4::sh,k,c,rest,h,P=>by
  obtain⟨a,d⟩:=V6 (show k::fL (k+1) sh=c::rest from h);subst a;rw[acW];refine⟨e9 _,by simp,λv=>d,?_⟩;show fS (a4::sh) P=if (fS (ag a8::sh) P).isSome=a6 then fS (ag a8::sh) P else fS (ag a6::sh) P;rw[fS,fS,fS,Sa];rfl
 |ag b::sh,k,c,rest,h,P=>by
  obtain⟨a,d,f,g⟩:=zM sh (k+1) (show fL (k+1) sh=c::rest from h) λr=>P (bI b::r);have e:c-k=(c-(k+1))+1:=#[1]
  rw[e];refine⟨#[1],by rw[hG];omega,λv=>f v,?_⟩;show fS (ag b::sh) P=if (fS (ag b::sh.set (c-(k+1)) (ag a8)) P).isSome=a6 then fS (ag b::sh.set (c-(k+1)) (ag a8)) P else fS (ag b::sh.set (c-(k+1)) (ag a6)) P;rw[fS,fS,fS,Sa,g];split<;>rfl
theorem zO:∀ (cur:Sh) (k:Nat),fL k cur=[]->∀ P,(fS cur P).isSome=a6->∃ ts,fS cur P=ag ts/\LN cur=NK ts
 |[],k,_,P,h=>by
  rw[fS] at h ⊢;split at h
  ·rename_i q;exact⟨[],by rw[cc q],rfl⟩
  cases h
 |a4::sh,k,h,P,_=>by cases h
 |ag b::sh,k,h,P,hs=>by
  rw[fS,Sa] at hs;obtain⟨ts,c,a⟩:=zO sh (k+1) h _ hs;refine⟨bI b::ts,by rw[fS,c];rfl,?_⟩;have a:sh.map Mx=ts.map D.int:=D.tup.inj a;show D.tup (Mx (ag b)::sh.map Mx)=D.tup (D.int (bI b)::ts.map D.int);rw[a];rfl
theorem oo:∀ (sh:Sh) (P:ak Int->eM),(fS sh P).isSome=a6↔∃ ts,dJ sh.length ts/\Nt sh (tv ts)/\P ts=a6
 |[],P=>by
  rw[fS];rw[5]
  ·intro h;split at h
   ·rename_i q;exact⟨[],⟨rfl,λx hx=>by cases hx⟩,λc b hc=>by simp at hc,q⟩
   cases h
  rintro⟨ts,a,_,d⟩;have:ts=[]:=Yo a.1;subst this;rw[cc d];rfl
 |ag b::sh,P=>by
  rw[fS,Sa,oo sh];rw[5]
  ·rintro⟨ts,a,f,d⟩;refine⟨bI b::ts,⟨by rw[hG,a.1];rfl,λx hx=>?_⟩,Ma.mpr ⟨λc e=>by cases e;cases b<;>rfl,f⟩,d⟩;rcases fx.mp hx with rfl |hx
   ·cases b
    ·exact #[9]
    exact .inr rfl
   exact a.2 x hx
  rintro⟨ts,a,f,d⟩;cases ts with
  |nil=>cases a.1
  |cons x ts =>
   obtain⟨a1,a2⟩:=Ma.mp f;have ex:x=bI b:=by have q:=a1 b rfl;rcases a.2 x (eR ..) with rfl |rfl<;>cases b<;>first |rfl |(exact ib q #[2])
   subst ex;exact⟨ts,⟨by simpa using a.1,λy g=>a.2 y (ee _ g)⟩,a2,d⟩
 |a4::sh,P=>by
  have key:(fS (a4::sh) P).isSome=a6↔(fS sh λr=>P (0::r)).isSome=a6∨(fS sh λr=>P (1::r)).isSome=a6:=by
   rw[fS];split
   ·rename_i q;rw[Sa];exact⟨λh => .inl h,λ_=>q⟩
   rename_i q;rw[Sa];exact⟨λh => .inr h,λh=>h.resolve_left q⟩
  rw[key,oo sh,oo sh];rw[5]
  ·rintro (⟨ts,a,f,d⟩ |⟨ts,a,f,d⟩)
   ·exact⟨0::ts,⟨by rw[hG,a.1];rfl,λx hx=>by rcases fx.mp hx with rfl |hx;exact #[9];exact a.2 x hx⟩,Ma.mpr ⟨(λc e=>by cases e),f⟩,d⟩
   exact⟨1::ts,⟨by rw[hG,a.1];rfl,λx hx=>by rcases fx.mp hx with rfl |hx;exact .inr rfl;exact a.2 x hx⟩,Ma.mpr ⟨(λc e=>by cases e),f⟩,d⟩
  rintro⟨ts,a,f,d⟩;cases ts with
  |nil=>cases a.1
  |cons x ts =>
   have ok:dJ sh.length ts:=⟨by simpa using a.1,λy g=>a.2 y (ee _ g)⟩;rcases a.2 x (eR ..) with rfl |rfl
   ·exact .inl ⟨ts,ok,(Ma.mp f).2,d⟩
   exact .inr ⟨ts,ok,(Ma.mp f).2,d⟩
theorem zN:∀ (sh:Sh) (g:ak Int->eM) (P:ak Int->eM),(∀ ts,dJ sh.length ts->(g ts=a6↔Nt sh (tv ts)/\P ts=a6))->((Mt sh.length).filter g).head?=fS sh P
 |[],g,P,h=>by
  have:=h [] ⟨rfl,λx a=>by cases a⟩;have m:Nt [] (tv []):=λc b hc=>by simp at hc
  rw[fS];show ([[]].filter g).head?=_;by_cases q:P []=a6
  ·rw[cc q,Tt,cc (this.mpr ⟨m,q⟩)];rfl
  rw[cn q,Tt,cn (λz=>q (this.mp z).2)];rfl
 |v::sh,g,P,h=>by
  have sub:∀ (x:Int),(x=0∨x=1)->∀ r,dJ sh.length r->(g (x::r)=a6↔((∀ b,v=ag b->ei (x=1)=b)/\Nt sh (tv r))/\P (x::r)=a6):=λx a r hr=>by rw[h (x::r) ⟨by rw[hG,hr.1];rfl,λy hy=>by rcases fx.mp hy with rfl |hy;exact a;exact hr.2 y hy⟩,Ma]
  have hd:∀ (x:Int) (A B:ak (ak Int)),((A.map (λr=>x::r)++B)).head?=if A.head?.isSome=a6 then A.head?.map (λr=>x::r) else B.head?:=λx A B=>by cases A<;>rfl
  have d:∀ (x:Int) (l:ak (ak Int)),(l.map (λr=>x::r)).filter g=(l.filter λr=>g (x::r)).map λr=>x::r:=λx l=>by rw[List.filter_map];rfl
  show ((((Mt sh.length).map λr => 0::r)++(Mt sh.length).map λr => 1::r).filter g).head?=_;rw[List.filter_append,d,d,hd];have none_of:∀ (x:Int),(x=0∨x=1)->(∃ b,v=ag b/\ei (x=1)≠b)->(Mt sh.length).filter (λr=>g (x::r))=[]:=λx a f=>by obtain⟨b,i,j⟩:=f;rw[aa5];intro r hr z;exact j (((sub x a r (LP.mp hr)).mp z).1.1 b i)
  have some_of:∀ (x:Int),(x=0∨x=1)->(∀ b,v=ag b->ei (x=1)=b)->((Mt sh.length).filter λr=>g (x::r)).head?=fS sh λr=>P (x::r):=λx a k =>
   zN sh (λr=>g (x::r)) (λr=>P (x::r)) λr hr=>by rw[sub x a r hr];exact⟨λq=>⟨q.1.2,q.2⟩,λq=>⟨⟨k,q.1⟩,q.2⟩⟩
  cases v with
  |none =>
   rw[some_of 0 (#[9]) (λb e=>by cases e),aee,some_of 1 (.inr rfl) (λb e=>by cases e),fS]
  |some b =>
   rw[fS];cases b with
   |false =>
    rw[some_of 0 (#[9]) (λb e=>by cases e;rfl),none_of 1 (.inr rfl) ⟨a8,rfl,#[4]⟩];show (if (fS sh λr=>P (0::r)).isSome=a6 then (fS sh λr=>P (0::r)).map (λr => 0::r) else a4)=(fS sh λr=>P (0::r)).map λr => 0::r;cases fS sh λr=>P (0::r)<;>rfl
   |true =>
    rw[none_of 0 (#[9]) ⟨a6,rfl,#[4]⟩,aee,some_of 1 (.inr rfl) (λb e=>by cases e;rfl)];rfl
noncomputable def pE:a5 (ak Int)->D
 |a4 => .LR
 |ag ts=>NK ts
theorem E_ (n:Nat):Nb (.int n) (.int 0)=ag (.bl (ei (n=0))):=by
 unfold Nb;simp only[toPy];rw[cc (by simp[m4])];congr 2;show ((n:Int)==0)=_;by_cases h:n=0
 ·simp[h]
 have:¬ ((n:Int)=0):=#[1]
 simp[h,this]
theorem zH (n:Nat):TR (.int n) (.int 0)=ag (.bl (ei (0<n))):=by
 show ag (D.bl (ei ((n:Int) > 0)))=_;congr 2;by_cases h : 0<n
 ·have:(n:Int) > 0:=#[1]
  simp[h,this]
 have:¬ ((n:Int) > 0):=#[1]
 simp[h,this]
section
variable {o:ak Nat}{m:Nat}{t:Tr}{Q:ak el->eM}{L:ak Nat}
theorem A7 {sh:Sh}(I:sh.length=m)(hm:m<=6)(w:Wr o #[7])(W:o.Perm (ew m))(U:#[7].length<2000)(ev:∀ O,Ev #[7] O (#[7].length-1) (Md t O))(lf:Sm #[7] Q L)(nd:L.Nodup)(S:Lq) :
  gF [cZ t,.lst (LM L),LN sh] S=LB (pE (fS sh λts=>Q (Md t (tv ts)))) S:=by
 have l:∀ cur:Sh,cur.length=m->∃ n:Nat,cV [cZ t,.lst (LM L),LN cur] S=LB (.int n) S/\(0<n↔(fS cur λts=>Q (Md t (tv ts))).isSome=a6):=λcur hc =>
  ⟨_,sE w (by rw[hc];exact W) U ev lf nd S,by rw[Fk,oo]⟩
 obtain⟨E,g,C⟩:=l sh I;have f:=E_ E;generalize hP:(λts:ak Int=>Q (Md t (tv ts)))=P at *
 generalize cZ t=rd at *
 generalize D.lst (LM L)=ld at *
 by_cases M:E=0
 ·have:fS sh P=a4:=by
   cases q:fS sh P with
   |none=>rfl
   |some ts=>rw[q] at C;have:=C.mpr rfl;omega
  rw[this];rw[M] at g f;simp only[decide_true] at f;rw[3];show cJ [ag rd,ag ld,ag (LN sh),a4,a4,a4] S=LB (.ret .LR) S;generalize LN sh=sd at *
  unfold cJ;simp[g,f]
 have K:(fS sh P).isSome=a6:=C.mp #[0];have z1:Nb (.int E) (.int 0)=ag (.bl a8):=by rw[f];simp[M]
 have B:=wY sh S
 obtain⟨X,a,N,cur,F,v,hc,e,rfl,rfl,b⟩:=b7 (u:=aE 4) (body:=cO)
  (λj T a => ∃ (cur:Sh) (F v:a5 D),cur.length=m/\fL 0 cur=(fL 0 sh).drop j/\T=[ag rd,ag ld,ag (LN sh),ag (LN cur),F,v]/\a=S/\fS sh P=fS cur P)
  ((fL 0 sh).map λ(c:Nat)=>D.int c) 0 [ag rd,ag ld,ag (LN sh),ag (LN sh),a4,a4] S ⟨sh,a4,a4,I,rfl,rfl,rfl,rfl⟩ (by
  rintro j d T a hd ⟨cur,F,v,hc,e,rfl,rfl,b⟩;rw[lk] at e ⊢;rw[dk] at hd;obtain⟨c,y,rfl⟩:=d7.mp hd;have R:=(ba.mp y).1;have Z:(fL 0 sh).drop j=c::(fL 0 sh).drop (j+1):=by rw[S8 R];rw[a7 R] at y;rw[h8 y]
  rw[Z] at e;obtain⟨_,V,h,i⟩:=zM cur 0 e P;rw[adZ] at V h i;have r:=vd (m:=m) (k:=c) #[0] hc #[0] (ag a8) a h_ rfl;have A:=vd (m:=m) (k:=c) #[0] hc #[0] (ag a6) a h_ rfl;have r:dF [LN cur,.int c,.int 0] a=LB (LN (cur.set c (ag a8))) a:=r;have A:dF [LN cur,.int c,.int 1] a=LB (LN (cur.set c (ag a6))) a:=A;obtain⟨n,G,s⟩:=l (cur.set c (ag a8)) (by rw[Sn];exact hc);have x:=zH n;refine⟨[ag rd,ag ld,ag (LN sh),ag (LN cur),ag (.int c),v],rfl,?_⟩;by_cases p : 0<n
  ·refine⟨_,a,?_,cur.set c (ag a8),ag (.int c),ag (LN (cur.set c (ag a8))),by rw[Sn];exact hc,h a8,rfl,rfl,by rw[b,i,cc (s.mp p)]⟩;rw[gx p] at x;clear b i h s l g f z1 B;generalize LN (cur.set c (ag a8))=d0 at *
   generalize LN cur=dp at *
   generalize LN sh=db at *
   unfold cO;simp[r,G,x]
  refine⟨_,a,?_,cur.set c (ag a6),ag (.int c),ag (LN (cur.set c (ag a8))),by rw[Sn];exact hc,h a6,rfl,rfl,by rw[b,i,cn (λz=>p (s.mpr z))]⟩;rw[dV p] at x;clear b i h s l g f z1 B;generalize LN (cur.set c (ag a8))=d0 at *
  generalize LN (cur.set c (ag a6))=d1 at *
  generalize LN cur=dp at *
  generalize LN sh=db at *
  unfold cO
  simp[r,A,G,x])
 rw[lk,dv,adl] at e;rw[b] at K ⊢;obtain⟨ts,H,J⟩:=zO cur 0 e P K;rw[H];rw[J] at N;have Y:cm (.lst ((fL 0 sh).map λ(c:Nat)=>D.int c))=ag ((fL 0 sh).map λ(c:Nat)=>D.int c):=rfl;rw[3];clear l H J b;show cJ [ag rd,ag ld,ag (LN sh),a4,a4,a4] a=LB (.ret (NK ts)) a;generalize (fL 0 sh).map (λ(c:Nat)=>D.int c)=ul at *
 generalize LN sh=sd at *
 generalize NK ts=td at *
 unfold cJ;simp[g,z1,B,Y,N]
end
theorem IN {x:el}{R:ak Row}{i:Nat}:i∈Qi x 0 R↔∃ ss,R[i]?=ag (.leaf ss)/\x∈ss:=by
 rw[PK];rw[5]
 ·rintro⟨_,r,b,a⟩;cases r with
  |leaf ss=>exact⟨ss,b,mv a⟩
  |ask c n y=>cases a
 rintro⟨ss,b,a⟩;exact⟨RC _,_,b,gx a⟩
theorem blank_eq {m:Nat}(e:m<=8)(S:Lq):gG [.int m] S=LB (LN (eh m a4)) S:=by
 have c:dL [.int m]=ag ((ew m).map λ(k:Nat)=>D.int k):=by have:=u9 m #[0] #[0];rw[4]
 have q:=dR (u:=aE 0) (fe:=iI) (λa => ∃ y,a=[y]) (λ_ => .LR) S ((ew m).map λ(k:Nat)=>D.int k) (bT 1 [] [ag (.int m)]) ⟨a4,rfl⟩ (by
  rintro d hd a ⟨y,rfl⟩
  exact⟨_,rfl,⟨_,rfl⟩,rfl⟩)
 have b:((ew m).map λ(k:Nat)=>D.int k).map (λ_=>D.LR)=(eh m a4).map Mx:=by rw[rT];show _=(eh m a4).map Mx;rw[acA];exact(adF ..).trans (by rw[mc];rfl)
 rw[b] at q;rw[3];show gv [ag (.int m)] S=LB (.ret (.tup ((eh m a4).map Mx))) S;generalize (eh m a4).map Mx=out at *
 generalize (ew m).map (λ(k:Nat)=>D.int k)=rl at *
 have tp:iO [.lst out]=ag (.tup out):=rfl;unfold gv;simp[c,q,tp]
section
variable {o:ak Nat}{m:Nat}{t:Tr}
theorem FW (x:el)(R:ak Row):Sm R (λss=>ei (x∈ss)) (Qi x 0 R):=⟨λi=>by rw[IN];simp⟩
theorem qF {sh:Sh}(w:Wr o #[7])(b:o.Perm (ew sh.length))(d:#[7].length<2000)(ev:∀ a,Ev #[7] a (#[7].length-1) (Md t a))(x:el)(S:Lq) :
  dI [cZ t,.str x,LN sh] S=LB (.int ((cnt sh.length (λts=>Nt sh (tv ts)/\ei (x∈Md t (tv ts))=a6):Nat):Int)) S:=by
 have c:cb [cZ t,.str x] S=_:=jf #[7] x S;have e:=sE w b d ev (FW x #[7]) jD S;rw[3];show ig [ag (cZ t),ag (.str x),ag (LN sh)] S=_;generalize ((cnt sh.length (λts=>Nt sh (tv ts)/\ei (x∈Md t (tv ts))=a6):Nat):Int)=z at *
 generalize D.lst (LM (Qi x 0 #[7]))=ld at *
 generalize cZ t=fd at *
 generalize LN sh=sd at *
 unfold ig;simp[c,e]
theorem wX {sh:Sh}(d:sh.length=m)(g:m<=6)(w:Wr o #[7])(b:o.Perm (ew m))(e:#[7].length<2000)(ev:∀ a,Ev #[7] a (#[7].length-1) (Md t a))(x:el)(S:Lq) :
  g6 [cZ t,.str x,LN sh] S=LB (pE (fS sh λts=>ei (x∈Md t (tv ts)))) S:=by
 have c:cb [cZ t,.str x] S=_:=jf #[7] x S;have f:=A7 d g w b e ev (FW x #[7]) jD S;rw[3];show mT [ag (cZ t),ag (.str x),ag (LN sh)] S=_;generalize pE (fS sh λts=>ei (x∈Md t (tv ts)))=z at *
 generalize D.lst (LM (Qi x 0 #[7]))=ld at *
 generalize cZ t=fd at *
 generalize LN sh=sd at *
 unfold mT;simp[c,f]
end
noncomputable def uo:D->eM
 | .tup [.tup [_,_],_]=>a6
 |_=>a8
noncomputable def Bu:D->D
 | .tup [.tup [_,x],k] => .tup [x,k]
 |_ => .LR
noncomputable def PX:ak Row->ak (ak el)
 |[]=>[]
 | .leaf ss::R=>ss::PX R
 | .ask _ _ _::R=>PX R
theorem N7:∀ {R:ak Row}{ss:ak el},ss∈PX R↔∃ i:Nat,R[i]?=ag (.leaf ss)
 |[],ss=>by simp[PX]
 | .leaf s::R,ss=>by
  rw[PX,fx,N7];rw[5]
  ·rintro (rfl |⟨i,h⟩)
   ·exact⟨0,rfl⟩
   exact⟨i+1,by simpa using h⟩
  rintro⟨i,h⟩;cases i with
  |zero=>cases h;exact #[9]
  |succ i=>exact .inr ⟨i,by simpa using h⟩
 | .ask c n y::R,ss=>by
  rw[PX,N7];rw[5]
  ·rintro⟨i,h⟩;exact⟨i+1,by simpa using h⟩
  rintro⟨i,h⟩;cases i with
  |zero=>cases h
  |succ i=>exact⟨i,by simpa using h⟩
theorem mO:∀ {R:ak Row},(∀ (i j:Nat) (ss:ak el),R[i]?=ag (.leaf ss)->R[j]?=ag (.leaf ss)->i=j)->(PX R).Nodup
 |[],_=>VJ
 | .leaf s::R,h=>by
  refine Up.mpr ⟨λq=>?_,mO λi j ss a b=>by have:=h (i+1) (j+1) ss (by simpa using a) (by simpa using b);omega⟩;obtain⟨i,e⟩:=N7.mp q;have:=h 0 (i+1) s rfl (by simpa using e);omega
 | .ask c n y::R,h=>mO (R:=R) λi j ss a b=>by have:=h (i+1) (j+1) ss (by simpa using a) (by simpa using b);omega
theorem v9:∀ (R:ak Row) (cs:ak Nat) (f:ak el->Nat),cs.length=R.length->(∀ (i:Nat) (ss:ak el),R[i]?=ag (.leaf ss)->cs.getD i 0=f ss)->((kj (R.map aC) (LM cs)).filter uo).map Bu=(PX R).map λss=>NQ (ss,(f ss:Int))
 |[],cs,f,_,_=>rfl
 |r::R,[],f,hl,_=>by cases hl
 |r::R,c::cs,f,hl,h=>by
  have b:=v9 R cs f (by simpa using hl) λi ss e=>by have:=h (i+1) ss (by simpa using e);rw[4]
  show ((D.tup [aC r,.int c]::kj (R.map aC) (LM cs)).filter uo).map Bu=_;rw[Tt];cases r with
  |leaf ss =>
   rw[cc (show uo (.tup [aC (.leaf ss),.int c])=a6 from rfl),fh,b];have e:c=f ss:=h 0 ss rfl;rw[e];rfl
  |ask a n y =>
   rw[cn (by simp[uo,aC]),b];rfl
theorem ET {a b c:el}(h:NW a c=a6):NW a b=a6∨NW b c=a6:=by
 by_cases e:NW b c=a6
 ·exact .inr e
 refine .inl ?_;have d:NX c b=a6:=by unfold NX;simpa using e
 have f:=EU h;have g:=jF _ _ _ f d;refine h9 g λz=>e ?_;rw[← z];exact h
theorem zi:∀ a b c:ak el,MZ a c=a6->MZ a b=a6∨MZ b c=a6
 |[],[],[],h=>by cases h
 |[],[],_::_,_ => .inr rfl
 |[],_::_,[],h=>by cases h
 |[],_::_,_::_,_ => .inl rfl
 |_::_,_,[],h=>by cases h
 |_::_,[],_::_,_ => .inr rfl
 |a::as,b::bs,c::cs,h=>by
  rw[MZ] at h;rw[MZ,MZ];by_cases e:a=b
  ·subst e;rw[cc rfl];by_cases d:a=c
   ·rw[cc d] at h ⊢;exact zi as bs cs h
   rw[cn d] at h ⊢;exact .inr h
  rw[cn e];by_cases d:b=c
  ·subst d;rw[cn e] at h;exact .inl h
  rw[cn d];by_cases f:a=c
  ·subst f;cases q:EV a b with
   |true=>exact #[9]
   |false=>exact .inr (h9 (show NX b a=a6 by unfold NX;rw[show NW a b=a8 from q];rfl) d)
  rw[cn f] at h;exact ET h
theorem zb:∀ a b:ak el,MZ a b=a8->MZ b a=a8->a=b
 |[],[],_,_=>rfl
 |[],_::_,h,_=>by cases h
 |_::_,[],_,h=>by cases h
 |a::as,b::bs,h,g=>by
  rw[MZ] at h g;by_cases e:a=b
  ·subst e;rw[cc rfl] at h g;rw[zb as bs h g]
  rw[cn e] at h;rw[cn (kg e)] at g;exact ib (pL (show NX a b=a6 by unfold NX;rw[show NW b a=a8 from g];rfl) (show NX b a=a6 by unfold NX;rw[show NW a b=a8 from h];rfl)) e
theorem rQ (a b c:ak el)(h:Mo a b=a6)(g:Mo b c=a6):Mo a c=a6:=by
 unfold Mo at *
 cases q:MZ c a with
 |false=>rfl
 |true =>
  rcases zi c b a q with z |z
  ·rw[z] at g;cases g
  rw[z] at h;cases h
theorem rR (a b:ak el):(Mo a b ||Mo b a)=a6:=by
 unfold Mo;cases q:MZ b a with
 |false=>rfl
 |true =>
  cases q2:MZ a b with
  |false=>rfl
  |true =>
   exfalso
   have:∀ x y:ak el,MZ x y=a6->MZ y x=a8:=λx y=>by
    induction x generalizing y with
    |nil=>intro h;cases y with
     |nil=>cases h
     |cons _ _=>rfl
    |cons a d c=>intro h;cases y with
     |nil=>cases h
     |cons b bs =>
      rw[MZ] at h ⊢;by_cases e:a=b
      ·rw[cc e] at h;rw[cc e.symm];exact c bs h
      rw[cn e] at h;rw[cn (kg e)];cases z:EV b a with
      |false=>rfl
      |true =>
       have:=A4 (show NW a b=a6 from h) (show NW b a=a6 from z);rw[xL] at this;cases this
   rw[this _ _ q] at q2;cases q2
theorem CT {a b:ak el}(h:Mo a b=a6)(g:Mo b a=a6):a=b:=zb a b (by simpa [Mo] using g) (by simpa [Mo] using h)
theorem t7 {K:Type}[wt K]:∀ (l b:ak K) (x:K),x∈l.foldl bq b↔x∈b∨x∈l
 |[],b,x=>by simp
 |a::l,b,x=>by
  rw[Pw,t7 l];unfold bq;by_cases h:a∈b
  ·rw[cc h,fx];exact⟨λq=>q.imp id .inr,λq=>by rcases q with q |rfl |q;exact .inl q;exact .inl h;exact .inr q⟩
  rw[cn h,k6,gA,fx];exact⟨λq=>by rcases q with (q |q) |q;exact .inl q;exact .inr (.inl q);exact .inr (.inr q),λq=>by rcases q with q |q |q;exact .inl (.inl q);exact .inl (.inr q);exact .inr q⟩
theorem t6 {K:Type}[wt K]:∀ (l b:ak K),b.Nodup->(l.foldl bq b).Nodup
 |[],b,h=>h
 |a::l,b,h=>by
  rw[Pw];refine t6 l _ ?_;unfold bq;split
  ·exact h
  rename_i q;exact Qf.mpr ⟨h,by simp,λx d y c e=>by rw[gA] at c;subst c;subst e;exact q d⟩
noncomputable def L4 (m:Nat)(t:Tr):ak (ak el):=(Mt m).map λts=>Md t (tv ts)
abbrev gw (A:ak (ak el))(ss:ak el):ak el×Int:=(ss,(A.count ss:Nat))
theorem xi {A U:ak (ak el)}(nd:U.Nodup)(f:∀ ss,ss∈U↔ss∈A):(U.map (gw A)).mergeSort (λa b=>Mo a.1 b.1)=((A.foldl bq []).mergeSort Mo).map (gw A):=by
 have d:U.Perm (A.foldl bq []):=(List.perm_ext_iff_of_nodup nd (t6 A [] VJ)).mpr λss=>by rw[f,t7];simp
 refine qs (le:=λa b=>Mo a.1 b.1=a6) (λa b i hb h g=>?_) (s8 (le:=λ(a b:ak el×Int)=>Mo a.1 b.1) (λa b c=>rQ a.1 b.1 c.1) (λa b=>rR a.1 b.1) _) (Ml.mpr (s8 rQ rR _)) ?_
 ·have e:=CT h g;obtain⟨x,_,rfl⟩:=q5.mp ((ti _ _).mem_iff.mp i);obtain⟨y,_,rfl⟩:=q5.mp hb;have e:x=y:=e;rw[e]
 exact(ti _ _).trans ((d.map _).trans ((ti _ _).symm.map _))
theorem Ag:∀ x:ak el,fO Gf (x.map D.str)=ag x
 |[]=>rfl
 |a::x=>by rw[fh,fO,Ag x];rfl
theorem BJ (x:ak el):SM (Mv x)=ag x:=Ag x
theorem yu:∀ xs:ak (ak el),fO SM (xs.map Mv)=ag xs
 |[]=>rfl
 |a::x=>by rw[fh,fO,yu x,BJ];rfl
theorem DC:∀ a:ak (ak el×Int),fO VC (a.map NQ)=ag a
 |[]=>rfl
 |p::a=>by
  rw[fh,fO,DC a];have:VC (NQ p)=ag p:=by show (SM (Mv p.1)).map (λx=>(x,p.2))=ag p;rw[BJ];rfl
  rw[this];rfl
section
variable {o:ak Nat}{m:Nat}{t:Tr}{d:D}
theorem BM (w:Wr o #[7])(d:o.Perm (ew m))(ev:∀ a,Ev #[7] a (#[7].length-1) (Md t a))(a:Th):∃ ts,dJ m ts/\Md t (tv ts)=Md t a:=by
 have e:∀ c,c<m->tv ((ew m).map λc=>if a c=a6 then 1 else 0) c=a c:=λc hc=>by unfold tv;rw[RR,dk,Zl hc];cases hv:a c<;>simp[hv]
 refine⟨(ew m).map λc=>if a c=a6 then 1 else 0,⟨by simp,λx b=>?_⟩,?_⟩
 ·obtain⟨c,_,rfl⟩:=q5.mp b;split
  ·exact .inr rfl
  exact #[9]
 exact(ev _).det ((ev a).congr w λc hc=>(e c (SJ.mp (d.mem_iff.mp hc))).symm)
open Classical in
theorem xN (ev:∀ a,Ev (enc (po t [])) a ((enc (po t [])).length-1) (Md t a)){i:Nat}{ss:List Str}(e:(enc (po t []))[i]?=some (.leaf ss)):cN (enc (po t [])) (List.replicate m none) i=(L4 m t).count ss:=by
 have d:cN (enc (po t [])) (List.replicate m none) i=cnt m λts=>Md t (tv ts)=ss:=by unfold cN;rw[length_replicate];refine bD λts _=>?_;rw[Do ev e];exact⟨λh=>h.2,λh=>⟨(λc b hc=>by rw[List.getElem?_replicate] at hc;split at hc<;>cases hc),h⟩⟩
 rw[d];unfold cnt L4;rw[List.count,countP_map];refine countP_congr λts _=>?_;simp
theorem yh (M:m<=6)(w:Wr o #[7])(E:o.Perm (ew m))(L:#[7].length<2000)(ev:∀ v,Ev #[7] v (#[7].length-1) (Md t v))(S:Lq) :
  nr [cZ t,LN (eh m a4)] S=LB (.lst (((PX #[7]).map (gw (L4 m t))).map NQ)) S:=by
 obtain⟨a,s,C,hc⟩:=p_ (sh:=eh m a4) w (by rw[Pf];exact E) (zT t) #[0] S;have rows:=v9 #[7] a (λb=>(L4 m t).count b) C λi b h=>by rw[hc i (ba.mp h).1];exact xN ev h
 have rows:((kj (#[7].map aC) (LM a)).filter uo).map Bu=((PX #[7]).map (gw (L4 m t))).map NQ:=by rw[rows,rT];rfl
 generalize p:enc (po t [])=R at *
 have K:cZ t = .tup (R.map aC):=by show D.tup (#[7].map aC)=_;rw[p]
 rw[K];have G:DO [.tup (R.map aC),.lst (LM a)]=ag (kj (R.map aC) (LM a)):=rfl
 have q:=dz (u:=iX 2 (aS (aE 0) (aS (aE 1) eS))) (gt:=d9) (fe:=fZ) (λρ => ∃ x y,ρ=[x,y]) uo Bu S (kj (R.map aC) (LM a)) (bT 2 [] [ag (.tup (R.map aC)),ag (LN (eh m a4))]) ⟨a4,a4,rfl⟩ (by
  rintro d hd ρ ⟨x,y,rfl⟩;obtain⟨i,g⟩:=m7 hd;have J:=(ba.mp g).1;rw[d6,dv,dv] at J;have hr:R[i]?=ag (R[i]'#[0]):=a7 #[0];have F:i<a.length:=#[1]
  rw[oG (R.map aC) (LM a) i (by rw[dk,hr];rfl) (by rw[dk,a7 F];rfl)] at g;have g:=(h8 g).symm;subst g;show ∃ j,_/\_/\d9 j S=LB (uo (.tup [aC (R[i]'#[0]),.int (a[i]:Nat)])) S/\(uo (.tup [aC (R[i]'#[0]),.int (a[i]:Nat)])=a6->fZ j S=LB (Bu (.tup [aC (R[i]'#[0]),.int (a[i]:Nat)])) S);generalize R[i]'#[0]=r at hr ⊢;have l:=jN r S;refine⟨[ag (aC r),ag (.int (a[i]:Nat))],rfl,⟨_,_,rfl⟩,?_,λH=>?_⟩
  ·have:∀ (k:eM) (e:D),fK [e] S=LB (.bl k) S->∀ z,d9 [ag e,ag z] S=LB (!k) S:=λk e l z=>by
    unfold d9;simp[l]
   cases r with
   |leaf b=>exact this a8 _ l _
   |ask c n y=>exact this a6 _ l _
  cases r with
  |ask c n y=>exact ib H (by simp[uo,aC])
  |leaf b =>
   generalize ((a[i]:Nat):Int)=z at *
   have B:Mu (aC (.leaf b)) (.int 1) S=ag (N6 b):=Tw _ _ _ S;have I:Bu (.tup [aC (.leaf b),.int z]) = .tup [N6 b,.int z]:=rfl;have z1:NV [N6 b,.int z] (.tup [N6 b,.int z])=ag (.tup [N6 b,.int z]):=bR #[3];rw[I];generalize aC (.leaf b)=e at *
   generalize N6 b=nd at *
   unfold fZ
   simp[B,z1])
 rw[rows] at q
 have A:=forget_eq (f:=aQ bt (af (ah 0) (af (ah 1) aB))) (ρ:=[ag (.tup (R.map aC)),ag (LN (eh m a4))]) (S:=S) (xs:=LM a) (by
  generalize S++[MO.lst (LM a)]=S2 at *
  generalize D.tup (R.map aC)=e at *
  generalize LN (eh m a4)=sd at *
  simp[s]) (t9 _ _) (fg (show (LM a).length<=2000 by rw[dv];omega) #[2])
 rw[3];clear s rows hc w ev;generalize kj (R.map aC) (LM a)=zl at *
 generalize LM a=nc at *
 show mU [ag (.tup (R.map aC)),ag (LN (eh m a4))] S=_;generalize ((PX R).map (gw (L4 m t))).map NQ=out at *
 generalize D.tup (R.map aC)=e at *
 generalize LN (eh m a4)=sd at *
 unfold mU;simp[A,G,q]
theorem CQ (x:m<=6)(g:KQ m 5 d)(k:Ord o t)(s:∀ c ss,Kv c d ss->Md t c=ss)(w:Wr o #[7])(q:o.Perm (ew m))(ev:∀ c,Ev #[7] c (#[7].length-1) (Md t c)) :
  (PX #[7]).Nodup/\(PX #[7]).length<=32/\∀ ss,ss∈PX #[7]↔ss∈L4 m t:=by
 have nd:(PX #[7]).Nodup:=mO λi j ss a b=>vL a b;refine⟨nd,?_,λss=>?_⟩
 ·obtain⟨K,n,r⟩:=EZ g;refine fg (uf nd λss p=>?_) n;obtain⟨i,f⟩:=N7.mp p;obtain⟨c,e⟩:=zo k f;obtain⟨y,h⟩:=g.total c;rw[← e,s _ _ h];exact r _ _ h
 rw[N7];unfold L4;rw[q5];rw[5]
 ·rintro⟨i,f⟩;obtain⟨c,e⟩:=zo k f;obtain⟨ts,u,v⟩:=BM w q ev c;exact⟨ts,LP.mpr u,by rw[v,e]⟩
 rintro⟨ts,_,rfl⟩;obtain⟨j,l,_⟩:=Db (ev (tv ts)) ⟨0,rfl⟩;exact⟨j,l⟩
theorem Br (c:m<=6)(e:KQ m 5 d)(k:Ord o t)(h:∀ a ss,Kv a d ss->Md t a=ss)(w:Wr o #[7])(b:o.Perm (ew m))(g:#[7].length<2000)(ev:∀ a,Ev #[7] a (#[7].length-1) (Md t a))(S:Lq) :
  mf [cZ t,.int m] S=LB (.tup ((((L4 m t).foldl bq []).mergeSort Mo).map λss=>NQ (gw (L4 m t) ss))) S:=by
 obtain⟨nd,i,l⟩:=CQ c e k h w b ev;have f:=yh c w b g ev S;have j:=blank_eq (m:=m) #[0] S;have so:tD [.lst (((PX #[7]).map (gw (L4 m t))).map NQ)]=ag (.lst ((((L4 m t).foldl bq []).mergeSort Mo).map λss=>NQ (gw (L4 m t) ss))):=by show (fO VC (((PX #[7]).map (gw (L4 m t))).map NQ)).bind _=_;rw[DC,lr,cc ⟨by rw[dv];omega,by rw[rT];exact(map_id _).symm▸nd⟩,xi nd l,rT];rfl
 rw[3];show pU [ag (cZ t),ag (.int m)] S=_;generalize (((L4 m t).foldl bq []).mergeSort Mo).map (λss=>NQ (gw (L4 m t) ss))=out at *
 have tp:iO [.lst out]=ag (.tup out):=rfl;generalize ((PX #[7]).map (gw (L4 m t))).map NQ=l1 at *
 generalize cZ t=fd at *
 generalize LN (eh m a4)=sd at *
 unfold pU;simp[f,j,so,tp]
end
section
variable {sh:Sh}{ts:ak Int}
noncomputable def VH (sh:Sh)(a:Th):D->eM
 | .int k=>match sh[k.toNat]? with
  |ag (ag b)=>b != a k.toNat
  |_=>a8
 |_=>a8
theorem Bz (p:dJ sh.length ts)(s:sh.length<=8)(S:Lq):∃ b,kP [NK ts,LN sh] S=LB (.bl b) S/\(b=a6↔Nt sh (tv ts)):=by
 have j:dL [.int sh.length]=ag ((ew sh.length).map λ(k:Nat)=>D.int k):=by have:=u9 sh.length #[0] #[0];rw[4]
 have n:pP .LR .LR=ag (.bl a8):=rfl;have m:∀ z:Int,pP (.int z) .LR=ag (.bl a6):=λ_=>rfl
 have q:=dz (u:=aE 0) (gt:=eW) (fe:=lR) (λg => ∃ y,g=[y,ag (LN sh),ag (NK ts)]) (VH sh (tv ts)) id S ((ew sh.length).map λ(k:Nat)=>D.int k) (bT 1 [1,0] [ag (NK ts),ag (LN sh)]) ⟨a4,rfl⟩ (by
  rintro d hd g ⟨y,rfl⟩;obtain⟨k,a,rfl⟩:=q5.mp hd;have a:=SJ.mp a;have es:sh[k]?=ag sh[k]:=a7 a;have e:=FJ es S;have t1:=FF p a S;refine⟨[ag (.int k),ag (LN sh),ag (NK ts)],rfl,⟨_,rfl⟩,?_,λ_=>rfl⟩;have i:VH sh (tv ts) (.int k)=match sh[k] with |ag b=>b != tv ts k |_=>a8:=by show (match sh[((k:Int)).toNat]? with |ag (ag b)=>b != tv ts ((k:Int)).toNat |_=>a8)=_;rw[show ((k:Int)).toNat=k by simp,es];cases sh[k]<;>rfl
  rw[i];clear i hd;generalize LN sh=sd at *
  generalize NK ts=td at *
  cases hv:sh[k] with
  |none =>
   rw[hv] at e;unfold eW;simp[e,Mx,n]
  |some b =>
   rw[hv] at e;have n1:Q0 (.int (if b=a6 then 1 else 0)) (.int (if tv ts k=a6 then 1 else 0))=ag (.bl (b != tv ts k)):=by rw[yY];cases b<;>cases tv ts k<;>rfl
   unfold eW
   simp[e,t1,Mx,m,n1])
 rw[map_id] at q;have f:SN (((ew sh.length).map λ(k:Nat)=>D.int k).filter (VH sh (tv ts)))=a6:=by rw[yV];intro d hd;obtain⟨k,_,rfl⟩:=q5.mp (Yq.mp hd).1;rfl
 have l:=Fb f;refine⟨(((ew sh.length).map λ(k:Nat)=>D.int k).filter (VH sh (tv ts))).isEmpty,aA rfl ?_,?_⟩
 ·have ld:cr [LN sh]=ag (.int sh.length):=by unfold cr;simp
  have o:NV [] (.lst [])=ag (.lst []):=rfl;have cp:bT 1 [1,0] [ag (NK ts),ag (LN sh)]=[a4,ag (LN sh),ag (NK ts)]:=rfl;show kF [ag (NK ts),ag (LN sh)] S=_;rw[cp] at q;clear f;generalize (((ew sh.length).map λ(k:Nat)=>D.int k).filter (VH sh (tv ts))).isEmpty=r at *
  generalize ((ew sh.length).map λ(k:Nat)=>D.int k).filter (VH sh (tv ts))=fl at *
  generalize (ew sh.length).map (λ(k:Nat)=>D.int k)=rl at *
  generalize NK ts=td at *
  generalize LN sh=sd at *
  unfold kF;simp[ld,j,cp,q,o,l]
 rw[List.isEmpty_iff,aa5];rw[5]
 ·intro h c b hb;have hc:=(ba.mp hb).1;have:=h (.int c) (q5.mpr ⟨c,SJ.mpr hc,rfl⟩);have this:¬ (match sh[((c:Int)).toNat]? with |ag (ag b)=>b != tv ts ((c:Int)).toNat |_=>a8)=a6:=this;rw[show ((c:Int)).toNat=c by simp,hb] at this;revert this;cases b<;>cases tv ts c<;>decide
 intro h d hd;obtain⟨k,_,rfl⟩:=q5.mp hd;show ¬ (match sh[((k:Int)).toNat]? with |ag (ag b)=>b != tv ts ((k:Int)).toNat |_=>a8)=a6;rw[show ((k:Int)).toNat=k by simp];split
 ·rename_i b hb;rw[h k b hb];cases b<;>decide
 decide
end
theorem FN:∀ ts:ak Int,cg (ts.map D.int)=ag (ts.map PyData.int)
 |[]=>rfl
 |a::l=>by
  rw[fh];simp only[cg,toPy,FN l];rfl
theorem v5:∀ ts:ak Int,pw (ts.map .int)=0
 |[]=>rfl
 |a::l=>by
  rw[fh];simp[pw,m4,v5 l]
theorem Dc:∀ ts:ak Int,ma (ts.map .int) (ts.map .int)=a6
 |[]=>rfl
 |a::l=>by
  rw[fh];simp[ma,hH,Dc l]
theorem oO {m:Nat}(g : 1<=m)(e:m<=6)(S:Lq):dS [.int m] S=LB (.lst (MG (Mt m))) S:=by
 rw[← Gh g e];have o:dL [.int m]=ag ((ew m).map λ(k:Nat)=>D.int k):=by have:=u9 m #[0] #[0];rw[4]
 have f:∀ j,j<=6->(NR j).length<=64:=λj a=>by rw[s9];exact Uc #[2] a
 obtain⟨q,t,p,l⟩:=b7 (u:=aE 2) (body:=dD) (λi n d=>d=S/\∃ b:a5 D,n=[ag (.int m),ag (.lst (MG (NR i))),b])
  ((ew m).map λ(k:Nat)=>D.int k) 0 [ag (.int m),ag (.lst [.tup []]),a4] S ⟨rfl,a4,rfl⟩ (by
   rintro j s n d a ⟨rfl,b,rfl⟩;obtain⟨rfl,v⟩:=gN a;simp only[lk];have r:=nA (.int m) j (NR j) (by have:=f j #[0];omega) (λts c=>by have:=(km j ts c).1;omega) (ag (.int j)) d
   exact⟨_,rfl,_,_,r,rfl,_,rfl⟩)
 simp only[lk,dv,mc] at l;obtain⟨rfl,b,rfl⟩:=l;have es:oX [.lst (MG (NR m))]=ag (.lst (MG ((NR m).mergeSort cH))):=by show (fO tupI (MG (NR m))).bind _=_;rw[qo (NR m) λts c h=>by have:=(km m ts c).1;rw[h] at this;simp at this;omega,lr];exact cc ⟨by simp only[MG,dv];exact fg (f m e) #[2],uO g e⟩
 rw[3];unfold kC;simp[o,p,es,-rT]
theorem Fa (x:a5 (ak Int)):Nb (pE x) (pE x)=ag (.bl a6):=by
 cases x with
 |none=>rfl
 |some ts =>
  show Nb (.tup (ts.map .int)) (.tup (ts.map .int))=_;unfold Nb;simp only[toPy,FN,UI];rw[cc (by simp[m4,v5])];congr 2;exact Dc ts
theorem jc (d:D)(is:ak Int)(hd:cm d=ag (is.map .int))(S:Lq):cL [d] S=LB (.bl a6) S:=by
 have q:=dz (u:=aE 0) (gt:=iA) (fe:=iG) (λa => ∃ y,a=[y]) (λ_=>a8) id S (is.map .int) (bT 1 [] [ag d]) ⟨a4,rfl⟩ (by
  rintro d hd a ⟨y,rfl⟩;obtain⟨i,_,rfl⟩:=q5.mp hd
  exact⟨_,rfl,⟨_,rfl⟩,rfl,λh=>by cases h⟩)
 have b:((is.map D.int).filter λ_=>a8).map id=[]:=by simp
 rw[b] at q;have c:Nb (.lst []) (.lst [])=ag (.bl a6):=rfl;rw[3];show gr [ag d] S=_;generalize is.map D.int=l at *
 unfold gr;simp[hd,q,c]
theorem sG {α:Type}{u:D->Lr->a5 Lr}{gt:Lk eM}{fe:Lk D}(k : α->D)(I:Lr->Prop)(c : α->eM)(S:Lq) :
  ∀ (as:ak α) (ρ:Lr),I ρ->(∀ a∈as,∀ ρ,I ρ->∃ b,u (k a) ρ=ag b/\I b/\gt b S=LB (c a) S/\fe b S=LB (k a) S)->b8 u gt fe (as.map k) ρ S=ag ((as.filter c).map k,S)
 |[],ρ,_,_=>rfl
 |a::as,ρ,hI,h=>by
  obtain⟨b,f,j,i,g⟩:=h a (eR ..) ρ hI;have q:=sG (u:=u) (gt:=gt) (fe:=fe) k I c S as b j λx e=>h x (ee _ e);have d:∀ {α:Type}(v : α),TX (LB v S)=ag (v,S):=λ_=>rfl;rw[fh,b8,f,lr,i,d,lr,Tt];cases c a with
  |true =>
   simp only[mz];rw[g,d,lr];simp only[q,UI,fh]
  |false=>simp only[gh,la,q]
theorem lU {α:Type}{u:D->Lr->a5 Lr}{fe:Lk D}(k f : α->D)(I:Lr->Prop)(S:Lq) :
  ∀ (as:ak α) (ρ:Lr),I ρ->(∀ a∈as,∀ ρ,I ρ->∃ b,u (k a) ρ=ag b/\I b/\fe b S=LB (f a) S)->b8 u dB fe (as.map k) ρ S=ag (as.map f,S)
 |[],ρ,_,_=>rfl
 |a::as,ρ,hI,h=>by
  obtain⟨b,e,i,g⟩:=h a (eR ..) ρ hI;have q:=lU (u:=u) (fe:=fe) k f I S as b i λx d=>h x (ee _ d);have c:∀ {α:Type}(v : α),TX (LB v S)=ag (v,S):=λ_=>rfl;rw[fh,b8,e,lr,show dB b S=LB a6 S from rfl,c,lr];simp only[mz];rw[g,c,lr];simp only[q,UI,fh]
abbrev Xm (p:ak el×Int):hA:=.tuple [.tuple (p.1.map .str),.int p.2]
theorem B_:∀ P:ak (ak el×Int),cg (P.map NQ)=ag (P.map Xm)
 |[]=>rfl
 |p::P=>by
  rw[fh,cg,B_ P];have:toPy (NQ p)=ag (Xm p):=by simp[NQ,Mv,toPy,cg,g7]
  rw[this];rfl
theorem sC:∀ P:ak (ak el×Int),pw (P.map Xm)<=2
 |[]=>RC _
 |p::P=>by
  have:=sC P;rw[fh,pw];refine max_le.mpr ⟨?_,this⟩;simp[m4,pw,p8]
theorem zQ:∀ P:ak (ak el×Int),ma (P.map Xm) (P.map Xm)=a6
 |[]=>rfl
 |p::P=>by
  rw[fh,ma,zQ P];simp[hH,ma,pW]
theorem G2 (P:ak (ak el×Int)):Q0 (.tup (P.map NQ)) (.tup (P.map NQ))=ag (.bl a8):=by have:=sC P;unfold Q0;simp only[toPy,B_,UI];rw[cc (by simp[m4];omega)];congr 2;show (!ma _ _)=_;rw[zQ];rfl
open Classical in
noncomputable def Uo (sh:Sh) (t:Tr) (x:Str) (ts:List Int):Bool:=decide (Nt sh (tv ts))&&decide (x∈Md t (tv ts))
open Classical in
theorem Hi {m:Nat}(sh:Sh)(t:Tr)(x:Str):((Mt m).filter (Uo sh t x)).length=cnt m λts=>Nt sh (tv ts)/\decide (x∈Md t (tv ts))=true:=by unfold cnt;rw[← List.countP_eq_length_filter];refine countP_congr λts _=>?_;simp[Uo]
open Classical in
theorem Ja {sh:Sh}{t:Tr}{x:Str}{ts:List Int}{b:Bool}(hb:b=true↔Nt sh (tv ts)):Uo sh t x ts=(b&&decide (x∈Md t (tv ts))):=by
 unfold Uo;congr 1;cases b with
 |true=>exact decide_eq_true (hb.mp rfl)
 |false=>exact decide_eq_false λz=>by cases hb.mpr z
theorem HD (sc Q d N fd L un:D){m:Nat}(Y : 1<=m)(X:m<=6){sh:Sh}(J:sh.length=m){t:Tr}{x:el}
  (H:∀ S,dI [fd,.str x,LN sh] S=LB (.int ((cnt m (λts=>Nt sh (tv ts)/\ei (x∈Md t (tv ts))=a6):Nat):Int)) S)
  (w:∀ S,g6 [fd,.str x,LN sh] S=LB (pE (fS sh λts=>ei (x∈Md t (tv ts)))) S)
  (aw:∀ ts S,dJ m ts->cW 15 [d,NK ts] S=LB (N6 (Md t (tv ts))) S) (S:Lq) (K:Lk Fl)
  (T:K=(aP (bh 10 (cy 1 [6,7,3] (bM (aQ dS (af (ah 1) aB))) (aE 0) jw lQ))
  (aP (bh 11 (aQ dI (af (ah 5) (af (ah 7) (af (ah 6) aB)))))
  (aP (P5 (Dw (br (RT (Bd "bool") (ah 11))) (br (aI Q0 (ah 11) (bx cr (af (ah 10) aB))))) (bg (aG (.bl a8))) eE)
  (aP (bh 12 (aG .LR))
  (aP (P5 (br (aI TR (bx cr (af (ah 10) aB)) (aG (.int 0)))) (bh 12 (Nd (ah 10) (aG (.int 0)))) eE)
  (aP (bh 13 (aQ g6 (af (ah 5) (af (ah 7) (af (ah 6) aB)))))
  (bg (Fu (aI Nb (ah 13) (ah 12)) (aQ cL (af (Dv (ah 13) (js aB)) aB))))))))))) :
  K [ag sc,ag (.int m),ag Q,ag d,ag N,ag fd,ag (LN sh),ag (.str x),ag L,ag un,a4,a4,a4,a4] S=LB (.ret (.bl a6)) S:=by
 subst T;have M:=oO Y X S;have st:cm (.lst (MG (Mt m)))=ag (MG (Mt m)):=rfl
 have f:=sG (u:=aE 0) (gt:=jw) (fe:=lQ) NK (λc => ∃ y,c=[y,ag (LN sh),ag (.str x),ag d]) (Uo sh t x) S (Mt m) [a4,ag (LN sh),ag (.str x),ag d] ⟨a4,rfl⟩ (by
  rintro ts U c ⟨y,rfl⟩;have ok:dJ m ts:=LP.mp U;obtain⟨b,Z,hb⟩:=Bz (sh:=sh) (ts:=ts) (by rw[J];exact ok) #[0] S;have V:=aw ts S ok;have B:RF a8 (.str x) (N6 (Md t (tv ts))) S=_:=vR a8 x (Md t (tv ts)) S;refine⟨[ag (NK ts),ag (LN sh),ag (.str x),ag d],rfl,⟨_,rfl⟩,?_,rfl⟩;have eg:=Ja (t:=t) (x:=x) hb;rw[eg];have B:RF a8 (.str x) (N6 (Md t (tv ts))) S=ag (.bl (ei (x∈Md t (tv ts)))):=by rw[B];simp
  generalize ei (x∈Md t (tv ts))=k at *
  generalize NK ts=td at *
  generalize LN sh=sd at *
  generalize N6 (Md t (tv ts))=nd at *
  unfold jw
  cases b<;>simp[Z,V,B])
 have cp:bT 1 [6,7,3] [ag sc,ag (.int m),ag Q,ag d,ag N,ag fd,ag (LN sh),ag (.str x),ag L,ag un,a4,a4,a4,a4]=[a4,ag (LN sh),ag (.str x),ag d]:=rfl;have I:=Hi (m:=m) sh t x;have s:=zN sh (Uo sh t x) (λts=>ei (x∈Md t (tv ts))) λts _=>by unfold Uo;simp
 rw[J] at s;rw[← s] at w;have E:=H S;rw[← I] at E;have C:=w S;generalize F:(Mt m).filter (Uo sh t x)=G at *
 have ld:cr [.lst (MG G)]=ag (.int G.length):=by unfold cr;simp[MG]
 have o:Bd "bool" (.int (G.length:Nat))=ag (.bl a8):=rfl;have l:Q0 (.int (G.length:Nat)) (.int (G.length:Nat))=ag (.bl a8):=by rw[yY];simp
 have j:=zH G.length;have LW:∀ ts∈G,dJ m ts:=λts h=>LP.mp (Yq.mp (by rw[← F] at h;exact h)).1;have n:=Fa G.head?;cases G with
 |nil =>
  have nt:=jc (.tup []) [] rfl S;have W:NV [] (.tup [])=ag (.tup []):=rfl;have f:b8 (aE 0) jw lQ (MG (Mt m)) [a4,ag (LN sh),ag (.str x),ag d] S=ag (MG [],S):=f;have v:xc (pE ([]:ak (ak Int)).head?)=ag a8:=rfl;have n:Nb (pE ([]:ak (ak Int)).head?) .LR=ag (.bl a6):=n;have j:TR (.int (([]:ak (ak Int)).length:Nat)) (.int 0)=ag (.bl a8):=j;have Fe:∀ (p q:Lk D) c S,Dv p q c S=ai (p c S) λx A=>ai (aL (xc x) A) λk r=>if k=a6 then LB x r else q c r:=λ_ _ _ _=>rfl;clear s w H I LW F;generalize pE ([]:ak (ak Int)).head?=z at *
  generalize ((([]:ak (ak Int)).length:Nat):Int)=gn at *
  generalize MG []=gd at *
  generalize D.lst (MG (Mt m))=td at *
  generalize MG (Mt m)=tl at *
  generalize LN sh=sd at *
  simp[M,st,cp,f,E,o,ld,l,j,C,n,Fe,v,W,nt]
 |cons g G =>
  have O:=LW g (eR ..);have nt:=jc (NK g) g rfl S;have R:Mu (.lst (MG (g::G))) (.int 0) S=ag (NK g):=by unfold Mu;rw[cn (by simp[bN])];exact bn (i:=0) rfl
  have f:b8 (aE 0) jw lQ (MG (Mt m)) [a4,ag (LN sh),ag (.str x),ag d] S=ag (MG (g::G),S):=f;have P:g≠[]:=λe=>by subst e;have:=O.1;simp at this;omega
  have v:xc (pE (g::G).head?)=ag a6:=by
   show ag (!(g.map D.int).isEmpty)=ag a6;cases g with
   |nil=>exact ib rfl P
   |cons a g=>rfl
  have z:pE (g::G).head?=NK g:=rfl;rw[z] at C v n;have j:TR (.int ((g::G).length:Nat)) (.int 0)=ag (.bl a6):=by rw[j];simp
  have Fe:∀ (p q:Lk D) c S,Dv p q c S=ai (p c S) λx A=>ai (aL (xc x) A) λk r=>if k=a6 then LB x r else q c r:=λ_ _ _ _=>rfl;clear s w H I LW F O P z;generalize NK g=og at *
  generalize (((g::G).length:Nat):Int)=gn at *
  generalize MG (g::G)=gd at *
  generalize D.lst (MG (Mt m))=td at *
  generalize MG (Mt m)=tl at *
  generalize LN sh=sd at *
  simp[M,st,cp,f,E,o,ld,l,j,R,C,n,Fe,v,nt]
theorem G8 (ns:ak Int)(_:ns.length<=63):∃ S',DI [.lst (ns.map .int)] []=ag (.ok (.bl a6),S'):=by
 obtain⟨m,i,n,d,o,h1,p,ZS,hw,ZT,s,kw,l,E⟩:=ER ns 6 #[2] #[2] [];rw[Zk] at E;have E:l9 [.lst (ns.map .int),.int 6] []=LB (.tup [.int m,N6 i,d,oD o]) [.dict n]:=E;have U:∀ S,aZ [.lst (ns.map .int),.int 5] S=LB (.int (mix ns 5)) S:=eA ns 5;have G:∀ S,aZ [.lst (ns.map .int),.int 6] S=LB (.int (mix ns 6)) S:=eA ns 6;have nd:o.Nodup:=l.nodup_iff.mpr List.nodup_range;have Ss:o.length=m:=by rw[l.length_eq,mc]
 have ho:∀ c,c<m->c∈o:=λc hc=>l.mem_iff.mpr (SJ.mpr hc);obtain⟨t,f,O,Y,_,w,ev,v,ln,_⟩:=Bl nd #[0] ho #[2] s [.dict n];have O:me [d,oD o] [.dict n]=LB (cZ t) f:=O;obtain⟨sh,es,A⟩:=BV (mix ns 5) (m:=m) #[0] f;have sz:=Dh Y #[0];have ld:cr [N6 i]=ag (.int i.length):=by unfold cr;simp
 have T:bz (.int i.length) (.int 1)=ag (.int ((i.length:Int)+1)):=rfl;have m6:ck (.int (mix ns 6)) (.int ((i.length:Int)+1))=ag (.int (mix ns 6 % ((i.length:Int)+1))):=bw #[0];have i6:=pI (mix ns 6) (show (0:Int)<(i.length:Int)+1 by omega);obtain⟨c,hc⟩:∃ c:Nat,mix ns 6 % ((i.length:Int)+1)=c:=⟨(mix ns 6 % ((i.length:Int)+1)).toNat,#[1]⟩;rw[hc] at m6;have R:bz (N6 i) (.tup [.str "zzzzzzzz"])=ag (N6 (i++[("zzzzzzzz":el)])):=by show bz (.tup _) (.tup _)=_;rw[jO,cc (fg (show _<=1000 by simp;omega) #[2])];simp[N6]
 have Qq:c<(i++[("zzzzzzzz":el)]).length:=by rw[cv,T2];omega
 obtain⟨x,hx⟩:∃ x,(i++[("zzzzzzzz":el)])[c]?=ag x:=⟨_,a7 Qq⟩;have Q:Mu (N6 (i++[("zzzzzzzz":el)])) (.int c) f=ag (.str x):=by unfold Mu;rw[cn (by simp[bN])];exact bn (by rw[dk,hx];rfl)
 have W:∀ ts S,dJ m ts->cW 15 [d,NK ts] S=LB (N6 (Md t (tv ts))) S:=λts S ok=>by obtain⟨e,kv⟩:=s.total (tv ts);have:=wG ok S s (fuel:=15) kv #[2];rw[v _ _ kv];exact this
 have th:=oO h1 p f;have st:cm (.lst (MG (Mt m)))=ag (MG (Mt m)):=rfl
 have L:=lU (u:=aE 0) (fe:=ou) NK (λts=>N6 (Md t (tv ts))) (λj => ∃ y,j=[y,ag d]) f (Mt m) [a4,ag d] ⟨a4,rfl⟩ (by
  rintro ts Oy j ⟨y,rfl⟩;refine⟨[ag (NK ts),ag d],rfl,⟨_,rfl⟩,?_⟩;have ea:=W ts f (LP.mp Oy);generalize N6 (Md t (tv ts))=r at *
  generalize NK ts=td at *
  unfold ou
  simp[ea])
 have L:b8 (aE 0) dB ou (MG (Mt m)) [a4,ag d] f=ag ((L4 m t).map Mv,f):=by rw[show (L4 m t).map Mv=(Mt m).map λts=>N6 (Md t (tv ts)) from by unfold L4;rw[rT];rfl];exact L
 obtain⟨lnd,J,Xn⟩:=CQ p s Y v w l ev;have dl:((L4 m t).foldl bq []).length<=32:=by refine fg (uf (t6 (L4 m t) [] VJ) λe h=>?_) J;rw[t7] at h;exact(Xn e).mpr (h.resolve_left #[3])
 have al:(L4 m t).length<=64:=by
  unfold L4;rw[dv]
  have:∀ k,(Mt k).length=2 ^ k:=λk=>by
   induction k with
   |zero=>rfl
   |succ k ih=>show ((Mt k).map _++(Mt k).map _).length=_;rw[cv,dv,dv,ih,RA];omega
  rw[this];exact fg (Uc #[2] p) #[2]
 have so:lh (.lst ((L4 m t).map Mv))=ag (.lst ((((L4 m t).foldl bq []).mergeSort Mo).map Mv)):=by show (if ((L4 m t).map Mv).length<900 then (fO SM ((L4 m t).map Mv)).bind _ else a4)=_;rw[cc (by rw[dv];omega),yu,lr,cc #[0]]
 have ce:=Br p s Y v w l #[0] ev f
 have qc:=lU (u:=aE 0) (fe:=oq) Mv (λe=>NQ (gw (L4 m t) e)) (λj => ∃ y,j=[y,ag (.lst ((L4 m t).map Mv))]) f (((L4 m t).foldl bq []).mergeSort Mo) [a4,ag (.lst ((L4 m t).map Mv))] ⟨a4,rfl⟩ (by
  rintro e _ j ⟨y,rfl⟩;refine⟨[ag (Mv e),ag (.lst ((L4 m t).map Mv))],rfl,⟨_,rfl⟩,?_⟩;have cx:ui (.lst ((L4 m t).map Mv)) (Mv e)=ag (.int ((L4 m t).count e:Nat)):=by show (fO SM ((L4 m t).map Mv)).bind _=_;rw[yu,lr,BJ];rfl
  have il:tZ (.lst ((L4 m t).map Mv))=a6:=rfl;have zz:∀ a b:D,NV [a,b] (.tup [a,b])=ag (.tup [a,b]):=λ_ _=>bR #[3];have F1:∀ (k:D->eM) (g:D->D->a5 D) (fa fb:Lk D) j S,wv k g fa fb j S=ai (fa j S) λx f=>if k x=a6 then ai (fb j f) λy S2=>aL (g x y) S2 else a4:=λ_ _ _ _ _ _=>rfl;show oq [ag (Mv e),ag (.lst ((L4 m t).map Mv))] f=LB (.tup [Mv e,.int ((L4 m t).count e:Nat)]) f;generalize (((L4 m t).count e:Nat):Int)=z at *
  generalize D.lst ((L4 m t).map Mv)=al at *
  generalize Mv e=sd at *
  unfold oq
  simp[F1,il,cx,zz])
 have nt:=λS=>jc (.lst ((((L4 m t).foldl bq []).mergeSort Mo).map λe=>D.int ((L4 m t).count e:Nat))) ((((L4 m t).foldl bq []).mergeSort Mo).map λe=>((L4 m t).count e:Nat)) (by rw[rT];rfl) S
 have q3:=lU (u:=iX 2 (aS (aE 0) (aS (aE 1) eS))) (fe:=zU) (λe=>NQ (gw (L4 m t) e)) (λe=>D.int ((L4 m t).count e:Nat)) (λj => ∃ y z,j=[y,z]) f (((L4 m t).foldl bq []).mergeSort Mo) [a4,a4] ⟨a4,a4,rfl⟩ (by
  rintro e _ j ⟨y,z,rfl⟩
  exact⟨[ag (Mv e),ag (.int ((L4 m t).count e:Nat))],rfl,⟨_,_,rfl⟩,rfl⟩)
 have B:=G2 ((((L4 m t).foldl bq []).mergeSort Mo).map (gw (L4 m t)));rw[rT] at B;have B:Q0 (.tup ((((L4 m t).foldl bq []).mergeSort Mo).map λe=>NQ (gw (L4 m t) e))) (.tup ((((L4 m t).foldl bq []).mergeSort Mo).map λe=>NQ (gw (L4 m t) e)))=ag (.bl a8):=B
 have q:=HD (.lst (ns.map .int)) (N6 i) d (oD o) (cZ t) (.lst ((L4 m t).map Mv)) (.lst ((((L4 m t).foldl bq []).mergeSort Mo).map Mv)) h1 p A (t:=t) (x:=x)
  (λS=>by have:=qF (sh:=sh) w (by rw[A];exact l) #[0] ev x S;rw[A] at this;exact this) (λS=>wX A p w l #[0] ev x S) W f _ rfl
 have eu:iX 4 (aS (aE 1) (aS (aE 2) (aS (aE 3) (aS (aE 4) eS)))) (.tup [.int m,N6 i,d,oD o]) [ag (.lst (ns.map .int)),a4,a4,a4,a4,a4,a4,a4,a4,a4,a4,a4,a4,a4]=ag [ag (.lst (ns.map .int)),ag (.int m),ag (N6 i),ag d,ag (oD o),a4,a4,a4,a4,a4,a4,a4,a4,a4]:=rfl;have su:cm (.lst ((((L4 m t).foldl bq []).mergeSort Mo).map Mv))=ag ((((L4 m t).foldl bq []).mergeSort Mo).map Mv):=rfl;have sp:cm (.tup ((((L4 m t).foldl bq []).mergeSort Mo).map λe=>NQ (gw (L4 m t) e)))=ag ((((L4 m t).foldl bq []).mergeSort Mo).map λe=>NQ (gw (L4 m t) e)):=rfl;have tp:iO [.lst ((((L4 m t).foldl bq []).mergeSort Mo).map λe=>NQ (gw (L4 m t) e))]=ag (.tup ((((L4 m t).foldl bq []).mergeSort Mo).map λe=>NQ (gw (L4 m t) e))):=rfl;refine⟨f,aA rfl ?_⟩;unfold FY;generalize (aP (bh 10 _) _:Lk Fl)=kk at q ⊢;have X:=nt f;have c1:∀ (V a1 a2 N I K F C H ZZ M P Z:a5 D),bT 1 [3] [V,a1,a2,ag d,N,I,K,F,C,H,ZZ,M,P,Z]=[a4,ag d]:=λ_ _ _ _ _ _ _ _ _ _ _ _ _=>rfl;have c2:∀ (V a1 a2 a3 N I K F C H ZZ M P Z:a5 D),bT 1 [8] [V,a1,a2,a3,N,I,K,F,C,H,ZZ,M,P,Z]=[a4,C]:=λ_ _ _ _ _ _ _ _ _ _ _ _ _ _=>rfl;have c3:∀ j:Lr,bT 2 [] j=[a4,a4]:=λ_=>rfl;clear ev v w W nt Xn U;have U:aZ [.lst (ns.map .int),.int 5] f=LB (.int (mix ns 5)) f:=eA ns 5 f;have G:=G f;generalize (((L4 m t).foldl bq []).mergeSort Mo).map (λe=>D.int ((L4 m t).count e:Nat))=y1 at *
 generalize (((L4 m t).foldl bq []).mergeSort Mo).map (λe=>NQ (gw (L4 m t) e))=y2 at *
 generalize (((L4 m t).foldl bq []).mergeSort Mo).map Mv=y3 at *
 generalize (L4 m t).map Mv=y4 at *
 generalize cZ t=y5 at *
 generalize LN sh=y6 at *
 generalize N6 (i++[("zzzzzzzz":el)])=y8 at *
 generalize N6 i=wd at *
 generalize oD o=od at *
 generalize D.lst (MG (Mt m))=td at *
 generalize MG (Mt m)=tl at *
 generalize (D.lst (ns.map .int))=sd at *
 generalize (i.length:Int)=sl at *
 simp[E,eu,O,U,es,R,G,ld,T,m6,Q,th,st,c1,L,so,ce,su,c2,qc,tp,B,sp,c3,q3,X,q]
end LJ
namespace LJ
open PySem L2
theorem fAt {K:Ll}{c f:el}{C:bc}(n:NC K c C)(g:pz K (.ref C) f=ag a4):nU K c f:=⟨C,n.1,n.2,g⟩
theorem all_mk {l:X3}{w:hL}{K:Ll}{h:ja}{mg:Lo}{b:bc}(a:mg "law"=ag (.ref b))(T:Top K mg) :
  ∃ fd:K1,(∀ (s:bo) (v:ax),abV s fd ⟨[v],[]⟩ [("_law_script",v)])/\∀ base:ja,K.In base->base.Ns my mg->Ny l.prog w K mg base Rx 38 b fd ["_law_script"] (yO K 63):=by
 obtain⟨f,fd,c,g,hb⟩:=T.W9;have e:=a.symm.trans g;cases e;have ok:∀ base:ja,Sr l.prog w K mg base 38 b fd ["_law_script"] DI:=λbase=>Hl T c;obtain⟨o,n,kV,doc,k,m,q,ct,p,rfl,i,j⟩:=c.ex;exact⟨_,λs v => .of_eq rfl,λbase _ _=>G7 (ok base) #[2] λns d=>G8 ns d⟩
end LJ
open PySem PySem.W PyProof.Rows
namespace PySem.W.Fast
def tw17659473558661005236:=0
def tw15477745945613974003:=0
def tw691269623659631749:=0
def tw5178256187032657632:=0
def tw2253421285970219444:=0
def tw2226834417140161212:=0
def tw9216453611180742254:=0
def tw13842840368299047484:=0
def tw8606061514290164270:=0
def tw15800530719989369148:=0
def tw11362148628719959449:=0
def tw3745307174045288207:=0
def tw13379426603410377604:=0
def tw9095263576022627445:=0
def tw5000616967680447424:=0
def tw6391742832123186609:=0
def tw7759357757735182630:=0
def tw4337020185702150194:=0
def tw11046268053280437310:=0
def tw1957941410254785950:=0
def tw8433562847196097253:=0
def tw9917587242200511416:=0
def tw2966308818794671690:=0
def tw4382358406578999068:=0
def tw4124480356908927476:=0
def tw3207612775969839715:=0
def tw11827878475927827244:=0
def tw16242303044248474045:=0
def tw1030193185964075043:=0
def tw13374965092449559287:=0
def tw1318779766584014191:=0
def tw8434619746071331207:=0
def tw7100751181624516166:=0
def tw10904652855431756727:=0
def tw6447651670679931365:=0
def tw6896304582531965232:=0
def tw3725525269811108749:=0
def tw16735790162182455656:=0
def tw13845900331480987345:=0
def tw13249340740444644809:=0
def tw12040936659642302577:=0
def tw16313320760910744658:=0
def tw1891182322865671545:=0
def tw7918806277497319970:=0
def tw17504075535987450310:=0
def tw18164419869995697275:=0
def tw9011703510255993462:=0
def tw8430473435239784671:=0
def tw5642829761689251004:=0
def tw14364440876274694525:=0
def tw2155212533256523550:=0
def tw15312164708963225070:=0
def tw5066539251970507092:=0
def tw12078419439965006347:=0
def tw11228439348457887544:=0
def tw16385846343226241341:=0
def tw16973327290889709160:=0
def tw15354969333135124397:=0
def tw13806227540826162184:=0
def tw14734886052944460423:=0
def tw8271266350786454823:=0
def tw3458543323499232962:=0
def tw11865874740028232967:=0
def tw11788774982224938915:=0
def tw7474682303084113686:=0
def tw2035159648965235380:=0
def tw18244483954091748627:=0
def tw16932423666484336622:=0
def tw3182924100304671453:=0
def tw1606919601372757449:=0
def tw12781385835123436485:=0
def tw6410887142654785194:=0
def tw6717638409796265907:=0
def tw13085101315053386589:=0
def tw4702719199874995695:=0
def tw17136540087667086208:=0
def tw17297554755891714134:=0
def tw14105883073612759577:=0
def tw8158748038580115360:=0
def tw2324202040268919754:=0
def tw14012713745546843464:=0
def tw5498895877863330605:=0
def tw424588095973307676:=0
def tw12239195179023592812:=0
def tw12606193190058313786:=0
def tw3884614818066021937:=0
def tw8594367992798576912:=0
def tw7183776328117595367:=0
def tw11340801509771976569:=0
def tw704246492085992295:=0
def tw12356852285871785189:=0
def tw4849535030374246695:=0
def tw5354847992354244877:=0
def tw17442457632901031568:=0
def tw316991469796517209:=0
def tw6285014249548414775:=0
def tw12023075486016893397:=0
def tw17998624379272142277:=0
def tw5111847369410411209:=0
def tw1012498065433046404:=0
def tw6266621627813222706:=0
def tw5345036005525240412:=0
def tw4503795204533943055:=0
def tw17840714324374454053:=0
def tw9153993080879543195:=0
def tw14232004691095726621:=0
def tw5368834473709949373:=0
def tw16240940629057530958:=0
def tw9431640121507704856:=0
def tw2080607802693576973:=0
def tw16666363817659706931:=0
def tw1029037347391663065:=0
def tw11067841179918543138:=0
def tw14848322429644342077:=0
def tw16372096551531972016:=0
def tw3545915626753061081:=0
def tw7972223485530755611:=0
def tw9930715984302952804:=0
def tw7359354265938330149:=0
def tw7717259968002082282:=0
def tw15243150776289817252:=0
def tw17825860335876802578:=0
def tw12091519383894615448:=0
def tw6322248022897102490:=0
def tw16686974056431996067:=0
def tw17240841191447512756:=0
def tw575761397232469269:=0
def tw15474920957544353055:=0
def tw6601918939667187660:=0
def tw2965517728758022795:=0
def tw1247574229319198393:=0
def tw13505908787942669619:=0
def tw4626691735635996754:=0
def tw3356357157859296155:=0
def tw16896081143899612622:=0
def tw18261973702599455932:=0
def tw6565951303169676688:=0
def tw4229958125020908800:=0
def tw450428390733383994:=0
def tw16120319080286743263:=0
def tw15960407713150070897:=0
def tw7047721847892923746:=0
def tw14438980627139697677:=0
def tw8127220974979341116:=0
def tw4673245056168350100:=0
def tw12967897888549304422:=0
def tw13213326820120110809:=0
def tw10352061147348503262:=0
def tw14132489841700951793:=0
def tw9984820207815673440:=0
def tw15211430048291082437:=0
def tw7674970684159985567:=0
def tw7932079731922386346:=0
def tw302405419598775516:=0
def tw1005538177735952991:=0
def tw9472256100962466527:=0
def tw8901786598367980036:=0
def tw16842883058761958291:=0
def tw920323691365072044:=0
def tw6725052290993235188:=0
def tw15719467257124287429:=0
def tw13046071478356402839:=0
def tw16001566982730031870:=0
def tw1482894354168597973:=0
def tw15673123719701176850:=0
def tw12508390518888746276:=0
def tw10781389323712246208:=0
def tw9852586830703549238:=0
def tw6260842060663634496:=0
def tw14686405368201965366:=0
def tw11130825687652999717:=0
def tw16910401284404515428:=0
def tw13483770704015321708:=0
def tw9641155328576187617:=0
def tw3080380546972388204:=0
def tw17218877007229373950:=0
def tw6232406713409268002:=0
def tw6340944239891903878:=0
def tw57382819926566637:=0
end PySem.W.Fast
set_option maxRecDepth 100000 in
set_option maxHeartbeats 0 in
theorem PySem.Challenge.cw_keyfold_k31_whole_counts_holds : PySem.Challenge.rw_keyfold_k31_whole_counts.Holds := by
 w_on;o_law;k_head;(case hw=>w_witness2)
 k_fill
 refine L2.RZ (l:=PySem.Challenge.rw_keyfold_k31_whole_counts) (k:=38) (x:="_law_script") rfl rfl ⟨rfl,by decide,by decide,rfl⟩ (λw h Y=>PySem.W.kIn_of Y) ?F
 case F =>
  intro w mg fa h KX G V4;refine' LJ.all_mk (h:=h) V4 ?T;constructor
  all_goals first
   |exact PySem.W.mg_none_of KX G (by k_is)
   |(refine' L2.dAt KX G ?a (L2.fE ?l ?c ?k) ?b;(case a=>k_is);(case l=>k_is);(case c=>k_is);(case k=>k_is);(case b=>first |exact L2.Y6 λ_ _ _ _ _ _ _=>rfl |exact L2.Y7 λ_ _ _ _ _ _ _ _=>rfl |exact L2.Y8 λ_ _ _ _ _ _ _ _ _=>rfl |exact L2.Y9 λ_ _ _ _ _ _ _ _ _ _=>rfl))
   |(refine' L2.mAt ⟨?n,⟨?k0,?k1,?k2,?k3⟩⟩ ?a ?i (L2.fE ?l ?c ?k) ?b;(case n=>k_is);(case k0=>k_is);(case k1=>k_is);(case k2=>k_is);(case k3=>k_is);(case a=>k_is);(case i=>k_is);(case l=>k_is);(case c=>k_is);(case k=>k_is);(case b=>first |exact L2.Y6 λ_ _ _ _ _ _ _=>rfl |exact L2.Y7 λ_ _ _ _ _ _ _ _=>rfl |exact L2.Y8 λ_ _ _ _ _ _ _ _ _=>rfl |exact L2.Y9 λ_ _ _ _ _ _ _ _ _ _=>rfl))
   |(refine' L2.kAt KX G ⟨?n,⟨?k0,?k1,?k2,?k3⟩⟩ ?k4 ?k5 ?a ?i (L2.fE ?l ?c ?k) ?b;(case n=>k_is);(case k0=>k_is);(case k1=>k_is);(case k2=>k_is);(case k3=>k_is);(case k4=>k_is);(case k5=>k_is);(case a=>k_is);(case i=>k_is);(case l=>k_is);(case c=>k_is);(case k=>k_is);(case b=>first |exact L2.Y6 λ_ _ _ _ _ _ _=>rfl |exact L2.Y7 λ_ _ _ _ _ _ _ _=>rfl |exact L2.Y8 λ_ _ _ _ _ _ _ _ _=>rfl |exact L2.Y9 λ_ _ _ _ _ _ _ _ _ _=>rfl))
   |(refine' LJ.fAt ⟨?n,⟨?k0,?k1,?k2,?k3⟩⟩ ?g;(case n=>k_is);(case k0=>k_is);(case k1=>k_is);(case k2=>k_is);(case k3=>k_is);(case g=>k_is))
