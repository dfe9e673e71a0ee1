import PyProof.Rows.All
import Wide.All
import OpenK.AllK
import Wide.FinOn
import Lean
import PyProof.EqAt
import PyProof.EqKinds
import PyProof.TupleCall
import KE.KLam
import PyProof.SetRoads
import PyProof.SetNew
import PyProof.CollectIter
import PyProof.DictWalks
import PyProof.Walks
import PyProof.RulesTry
import PyProof.FactsAll.set
import PyProof.WalksMore
import PyProof.FactsAll.subtypes
import PyProof.ExcAttrAll.ValueError
import PyProof.Rows.StrJoin2
import PyProof.Rows.FStr
import PyProof.ExcBaseAll.ValueError
import PyProof.StrCalls2
import PyProof.StrBlockH
import PyProof.MeetsStr2
import PyProof.Rows.SeqMore2
import KE.KDictList
import PyProof.ZipIter
import PyProof.Draws
import PyProof.DictTruth
import PyProof.Rows.SortShellK
import PyProof.Rows.SortWalk
import PyProof.TupleKey
import PyProof.Rows.Range3
import KE.KNestM
import KE.KMinKey
import PySem.Challenge.RW_keyfold_k32_whole_sums
open List(all_cons all_eq_true any_cons any_eq_true any_map append_nil cons_append countP_cons countP_map drop_drop drop_eq_getElem_cons drop_left drop_left' drop_zero ext_getElem? extract_eq_drop_take filter_cons filter_sublist find?_cons flatten_cons foldl_cons forIn_cons forIn_nil getElem?_append_left getElem?_append_right getElem?_cons_succ getElem?_drop getElem?_inj getElem?_map getElem?_of_mem getElem?_range getElem?_replicate getElem?_set_ne getElem?_set_self getElem?_take getElem_idxOf getElem_map getElem_mem getElem_of_mem getElem_zip idxOf_cons idxOf_lt_length_iff length_cons length_drop length_eq_zero_iff length_map length_nil length_range length_replicate length_set length_singleton length_take length_zip lookup_append lookup_cons mapM_cons mapM_toArray map_append map_congr_left map_cons map_drop map_id map_map map_nil map_take mem_append mem_append_left mem_append_right mem_cons mem_cons_of_mem mem_cons_self mem_filter mem_map mem_map_of_mem mem_of_getElem? mem_of_mem_take mem_range mem_singleton mergeSort_perm nil_append nodup_append nodup_cons nodup_nil not_lt not_mem_nil of_mem_zip pairwise_append pairwise_cons pairwise_iff_getElem pairwise_map pairwise_mergeSort pairwise_singleton prefix_refl range' replicate replicate_succ set_append_right size_toArray sum_cons take_append_drop take_append_of_le_length take_left' take_length take_of_length_le zipIdx_cons zip_cons_cons)
open Nat(add_assoc add_mul add_zero le_refl le_succ lt_min lt_of_lt_of_le lt_or_ge lt_succ_of_lt lt_succ_self lt_trichotomy min_eq_left min_le_right mul_comm ne_of_gt ne_of_lt one_le_two_pow pow_add pow_succ sub_self sub_zero succ_mul zero_add zero_le zero_mul)
open Option(bind_eq_some_iff bind_some getD_none getD_some isSome_map map_eq_some_iff map_some pure_def)
open Bool(and_eq_true false_eq_true or_eq_true)
open Array(getElem?_toList getElem_mem_toList getElem_toList length_toList perm_iff_toList_perm size_append size_map toList_append toList_extract toList_inj toList_push)
local macro_rules|`(tactic|omega)=>`(tactic|first|with_reducible assumption|with_reducible exact Nat.le_refl _|with_reducible exact Nat.zero_le _|with_reducible exact Nat.succ_pos _|with_reducible exact Nat.le_of_lt (by assumption)|with_reducible exact Nat.lt_of_lt_of_le (by assumption) (by assumption)|with_reducible exact Nat.lt_of_le_of_lt (by assumption) (by assumption)|with_reducible exact Nat.le_trans (by assumption) (by assumption)|with_reducible exact Nat.lt_of_lt_of_le Nat.zero_lt_one (by assumption)|with_reducible exact Nat.le_trans (by assumption) (by decide)|with_reducible exact Nat.lt_of_le_of_lt (by assumption) (by decide)|with_reducible exact Nat.lt_of_lt_of_le (by assumption) (by decide)|with_reducible exact Nat.lt_succ_of_le (by assumption)|with_reducible exact Nat.succ_le_of_lt (by assumption)|with_reducible exact Nat.ne_of_lt (by assumption)|with_reducible exact Nat.ne_of_gt (by assumption)|with_reducible exact Nat.not_lt.mpr (by assumption)|with_reducible exact Nat.lt_of_le_of_lt (Nat.add_le_add_left (by decide) _) (by assumption)|with_reducible exact Nat.le_of_eq (by assumption)|lia|omega +splitMinMax)
local macro_rules|`(tactic|decide)=>`(tactic|decide +kernel)
set_option Elab.async false
set_option linter.all false
set_option maxRecDepth 100000
set_option compiler.extract_closed false
set_option maxHeartbeats 4000000
open Option renaming some→ag,none→ay,map_eq_some_iff→en,bind_eq_some_iff→hD,bind_some→m4,isSome_map→Sw,map_some→VM,isSome_iff_exists→aao,getD_some→ab4,bind_eq_bind→acb,isSome_some→acy
open _root_ renaming List→ak,Option→a9,if_pos→dm,if_neg→dV,decide_eq_false→eh,Bool→fg,decide_eq_true→ia,Array→ib,absurd→ku,of_decide_eq_true→ll,beq_eq_false_iff_ne→mz,if_true→n7,if_false→r3,decide_eq_true_eq→sX,congrArg→zc,DecidableEq→PR,trivial→Qv,beq_iff_eq→UR,String→W7,dif_pos→aaf,bne_self_eq_false→aaj,beq_self_eq_true→aaE,decide_eq_false_iff_not→aaH,or_false→abL,Unit→ab9,funext→acD,StateT→acH
open PySem renaming wpAny_bind→av,Value→ax,wpAny_pure→bo,Addr→cn,Shared→cv,sizeLine→d4,wpAny→ew,Str→eG,starEach→eK,model→e9,Program→fh,Expr→hL,World→il,Around→jl,Heap→kx,PyData→la,Scope→lE,Paired→lU,wpAny_call_entry→mm,mainGlobals→my,wpAny_newObj_type→oa,compareOp→qa,behindInMarks→q7,strKind→ro,Stmt→r4,eval→sY,backTo→tw,bootBuiltins→uk,cLine→vu,wpAny_callSpecial?_slot→wx,wpAny_mono→yk,wpAny_field→y0,cellsFrom→A1,wpAny_holding→A2,SetTable→E1,FuncData→L4,wpAny_rule→OL,wpAny_Call_Name_kw→OO,wpAny_seqItems→P0,binaryOp→P_,wpAny_truthy_bool→Qs,NameKind→Ra,attributeBase→RZ,assignEach→Ss,wpAny_passesOwn→TN,keywordEach→TV,sysModules→Uh,IsTupleKey→Up,mem_of_lookup→Uq,swapsWith→Uy,Pos→UK,wpAny_pyIter_tuple→UQ,wpAny_setField_rec→U0,foldedSetIterable→Vi,wpAny_setState_of→Vt,bindArgs→VH,wpAny_forIn_list→VZ,wpAny_isInstance→V0,holding→V2,IsPair→Wq,wpAny_comprehension_free→Wx,letOwnedTupleGo→WD,Keyword→WH,wpAny_tupleItemsOf→WK,assign→WM,tupleKind_room_in1→WU,sliceBounds→W3,getItem→Xd,backToKw→Xe,wpAny_typeOf→Xg,wpAny_pyIter_enum→Xi,wpAny_collect_seq→Xl,wpAny_eqBool_int→Xv,Arguments→XN,call_meets→XO,scanBound→XR,checkBuiltinCall→XW,codeAny→X2,wpAny_attempt→X5,relayAll→Yt,wpAny_updateSeq_pair→Yy,wpAny_specialOf→YZ,wpAny_execs_nil→Y0,builtinsNs→Zi,firstArgMember→ZL,wpAny_letOwnedTupleGo_enum→ZM,wpAny_binaryOp_repeat_ref→Z6,wpAny_assign_Name→Z_,callerA→aae,wpAny_standAt→aan,wpAny_newList→aar,wpAny_onRaise→aas,wpAny_pyHash_int→aaw,wpAny_pyHash_str→aax,ReadsAll→aay,eqIsQuiet→aaA,atKey→aaC,noFill_tuple_add→aaD,wpAny_pyNext_enum_itemD→aaG,wpAny_askSetting→aaI,IsZip→aaJ,pyNext→aaM,rawInt→aaN,wpAny_pyNext_range_end→aaO,wpAny_pyIter_rangeiter→aaP,codeAny_mono→aaR,wpAny_Assign_Subscript→aaV,concat_meets→aaW,IsPart→aaX,seqIndex_neg→aaY,wpAny_getItem_list_neg→aa0,typeIs_int→aa1,codeAny_builtin→abe,isSubtype_tuple_tuple→abh,wpAny_isTrue_Compare1→abi,exec_Assign_Name_used→abl,builtinLookup_eq_fast→abm,KeyKind→abq,wpAny_loadName_local→abr,IsRangeIter→abt,subscripted→abw,seqIndex_of→aby,newFunctionEnv→abB,wpAny_newTuple→abH,tupleKind→abX,standAt→abY,setItem→abZ,getMethod→ab0,BindsTo→ab1,valueAt→ab2,pushCells→ab3,wpAny_loadName_cell→ab_,swapsWithSole→acj,swappedStores→ack,seq_tuple_add→acn,pyIter→acv,wpAny_pyIter_range→acw,wpAny_getItem_heap→acz,wpAny_setItem_heap→acA,Reads→acO,Within→acP,CmpOp→acQ,Operator→acR,list_append→acW,numAt→ac5,PassesOwn→ac9,Result→ada,seqSlot_of→ade,sizeLine_eq→ads,field→adu,wpAny_of_eq→adw,wpAny_letGo→adA,GenState→adO,wpAny_Name→adP,callWith→adQ,bindL→adR,bindC→adS,call→adV,checkCount→adZ,layNew→ad1,entryFor→ad2,intItems→ad9
open Bool renaming true→ba,false→b0,false_eq_true→lg,and_eq_true→mc,not_true→RT,false_ne_true→Sa,or_eq_false_iff→YO,or_eq_true→Zw,not_eq_true'→aah,not_false→abS,and_false→ad6,false_bne→aej,false_or→ael
open List renaming getElem?_eq_getElem→bc,getElem?_eq_some_iff→b5,length_append→da,length_map→d7,mem_cons_of_mem→eJ,size_toArray→f3,mem_cons→f5,range→gx,mem_cons_self→gy,getElem?_map→hF,map_cons→hH,mem_singleton→hM,getElem?_append_right→hO,getElem?_append_left→h7,replicate→ih,append_nil→i3,length_cons→j2,append_assoc→kg,mem_append→lk,mem_append_right→mv,map_map→mx,idxOf_lt_length_iff→m3,length_range→p0,pairwise_cons→rk,pairwise_append→r0,mem_map→vl,getElem?_cons_succ→vr,take_append_drop→v3,find?_cons→wh,map_congr_left→y2,mem_of_getElem?→y3,lookup→zg,take_of_length_le→zh,replicate_succ→Dd,take_append_of_le_length→H5,pairwise_map→H8,mem_of_mem_take→Jq,length_set→J7,length_replicate→K2,pairwise_iff_getElem→K3,getElem?_set_self→L1,drop_drop→Oj,getElem_mem→Oy,getElem_of_mem→Qq,getD→QJ,getElem?_of_mem→QV,map_append→Q5,any_cons→Rm,flatten_cons→RA,nodup_append→RR,length_take→R0,length_drop→R3,cons_append→R5,getElem?_replicate→Sv,length_eq_zero_iff→SK,pairwise_mergeSort→SX,mergeSort_perm→S8,pairwise_singleton→To,getElem?_set_ne→TL,drop_eq_getElem_cons→T3,lookup_cons→T6,extract_eq_drop_take→T7,filter_cons→Ue,nodup_cons→Ui,length_singleton→UC,all_eq_true→UN,drop_append_of_le_length→UO,foldl_cons→UU,drop_eq_nil_of_le→UW,ext_getElem?→UZ,length_pos_of_mem→U1,mem_append_left→U5,getElem_idxOf→Va,getElem?_eq_none→Vg,getElem_append_right→Wm,mem_filter→WL,foldl→WX,nil_append→WY,set_eq_take_append_cons_drop→W4,forIn_cons→XP,nodup_nil→XX,idxOf_cons→XY,set_append_right→X0,getElem?_drop→X7,not_mem_nil→Yz,mem_of_mem_drop→YH,getElem_map→YN,take_length→YP,eq_nil_of_length_eq_zero→YX,count_singleton→YY,filterMap_cons→Y2,getElem?_range→Zz,getD_eq_getElem?_getD→ZK,length_eraseIdx_of_lt→ZN,mem_map_of_mem→ZR,filter_sublist→ZT,perm_ext_iff_of_nodup→ZU,map_replicate→Z4,getElem?_eq_none_iff→Z7,any_eq_false→aaa,take_sublist→aad,getElem?_set→aak,idxOf_append→aal,take_add_one→aam,lookup_append→aaq,getElem_append_left→aat,getElem?_take→aau,zip_cons_cons→aav,mem_range→aaB,forIn_nil→aaF,length_nil→aaT,map_nil→aaU,getElem?_inj→aa3,pairwise_lt_range→aa4,mapM_toArray→aa_,perm_append_comm→abn,length_filter_le→abp,length→abv,prefix_refl→abz,zip→abJ,zipIdx_cons→abK,map_take→abO,map_drop→abP,getElem_zip→abQ,map→abT,sum_cons→abU,drop_left→ab5,mapM_cons→ab7,toList_toArray→acd,length_reverse→ace,filter_eq_self→acf,flatten_append→acg,mem_filterMap→acx,drop_left'→acI,find?_eq_none→acK,map_inj_right→acL,drop_sublist→ac1,getElem_drop→ac2,getElem_tail→ac6,set_set→ac7,mem_flatten→adg,le_antisymm→adh,drop_zero→adi,range'_succ→adk,length_tail→adl,all_toArray→adn,drop_length→adp,any_eq_true→adC,range_succ→adG,zipIdx_nil→adH,map_const'→adL,of_mem_zip→adT,take_succ→aea,drop_take→aec,take_take→aed,length_zip→aee,take_left'→aef,lt_irrefl→aeg,head?_map→aei
open PySem.Heap renaming get?_push_of_some→cc,lt_size→eM,get?_push_size→e8,size_push→pd,get?_update_self→Tx,SameBut→UP,get?_update_other→UT,ExtBut→adv
open Decidable renaming decide→dv
open PyProof.Rows renaming arrOf→ee,wpS_bind→gj,wpS_pure→lb,SortSt→m7,pendingOf→n0,Keyed→oe,slot_tuple_getitem→pe,KeyOrd→xa,failedOf→H4,wpS_forRange→Pr,SortKind→T8,wpS_mono→U6,callWith_type1→Vh,seqObj→VN,gallopOf→VU,IntsAre→V9,listItems_at→Wa,wpS_get→WI,wpS_modify→WZ,pairsOf→Xk,envOfC→XI,firstOfTuple'→X_,AllBare→Z9,subscriptTail_builtinR→aaZ,pairsOf_size→aa9,entry_list_sort→abd,lt_str→abj,slot_list_sort→abC,args_list_sort→abD,sortedHeap_old→abE,wpS_lift→abM,pairsOf_toList→abR,tuples'→ab6,entry_tuple_getitem→aca,IsTup→aci,subscriptTail→acm,tupleItemsOf_→aco,sortedHeap_at→acp,listUpdate_at→acr,args_tuple_getitem→acB,plain_sorted→acX,entry_sorted→acY,args_sorted1→acZ,kind_sorted→ady,seqEpoch_at→adB,Subscript_→adU,keyKind'→adY,size_push'→ad0,setArr→ad_,lt_int→aer
open Nat renaming le_trans→hA,le_refl→hB,lt_of_lt_of_le→ke,zero_add→mi,ne_of_lt→nq,lt_irrefl→qb,le_of_lt→K5,zero_le→Tp,one_le_two_pow→UD,pow_succ→UE,lt_succ_self→US,lt_succ_of_lt→U8,pow_le_pow_right→VY,lt_trans→V3,lt_or_ge→Wy,lt_trichotomy→WA,ne_of_gt→Yg,min_le_right→Ze,lt_of_le_of_lt→Zt,lt_or_eq_of_le→ZQ,le_succ→aac,add_assoc→aaz,le_add_right→aaK,mul_comm→abA,min_eq_left→abN,pos_of_ne_zero→acG,add_sub_cancel→acJ,le_of_eq→acU,zero_mul→ac8,min_eq_right→ado,strongRecOn→adJ,min_le_left→adK,mul_le_mul→adX,add_zero→aeb,sub_self→aeh
open PySem.PyData renaming eqv→iv,eqvAll→ti,depth→wt,canLayAll0→ze,strOk→H7,depthAll→QK,canLay0→VA,str→aaL
open Option.some renaming inj→ja,injEq→Qw
open PySem.SetTable renaming below→kh,Probe→S9,grown→Tc,standIn→XS,leap→Yb,orStandIn→acE,sizeAbove→acF,layClean→ac3,relaid→adF,runEnd→adI,laid→aem,bits→aeq
open Array renaming length_toList→ky,getElem_mem_toList→J8,getElem?_toList→TR,perm_iff_toList_perm→VX,getElem?_eq_getElem→Wk,toList_extract→Xm,toList_push→Yq,toList_setIfInBounds→ZP,toList_inj→aa2,getElem?_eq_none→aa8,getElem_extract→abo,mem_toList_iff→abu,toArray_toList→abF,getElem_toList→abG,toList_append→acq,forIn_toList→acs,all_eq_true'→acC,toList_map→adm,size_append→adt,toList→aet
open Ne renaming symm→lC
open PySem.Value renaming ref→ma,type→xb,none→R6,int→Xs,str→abW,isStrOf_shape→ab8,isStrOf→ach,bool→adN
open PySem.NameKind renaming cell→nC,free→O3
open PySem.PassesOwn renaming never→ov
open PySem.Builtin.SmallTypes renaming nextOf→rp,ownedTupleIsFree→E3,ownedTupleHandOut→Wv
open PySem.W renaming findIn→sA,emptyDict→zf,fnOf→L7,keepIn→Qj,instObj→QL,nsIn→RI,plainGet→Xy,OpenLaw→Yi,plainGet_of→Zb,isFn→Zc,lookIn→Zk,callWith_K→Zr,codeIn→Zs,methodObj→Z8,hasDictIn→aab,cellsFrom_some→aaS,takerIn→abb,makesIn→abc,methodCall_KW→abk,plainOver→acS,specialIn→acT,handedIn→ac_,WalkO→adM,mg_of→aep
open PySem.AutoSeq1 renaming wpAny_loadPart'→s8,idx_int→adf
open Pure renaming pure→y8
open PySem.Builtin.Tuple renaming tupleHashOf→za,tupleExact→C3,tupleItemsOf→Sr,tupleTooMany→Zx
open PyProof.Rows.KeyOrd renaming kle_refl→I3,kle_of_klt→NF,klt_asymm→PB,kle_trans→Tn
open Int renaming emod_nonneg→Jy,emod_lt_of_pos→K1,toNat_natCast→TY,le_trans→ac0,natCast_mul→adD,le_antisymm→adE
open List.cons renaming injEq→OH,inj→WC
open List.Perm renaming eq_of_pairwise→Pf,append_left→Ve,append_right→Xn,trans→abf
open False renaming elim→QN
open ForInStep renaming yield→QW
open PySem.Obj renaming mapSeq→SJ,data_mapFields→SN,isFreed_of_fields→Xo,cls_mapFields→aag,putSet→aa5
open PySem.Manifest.ParamKind renaming posOnly→Ti,posOrKw→ad4,varPos→aek
open PySem.Builtin.Slice renaming slicePlaces→TK,sliceAdjust→Wb,sliceApplied→Zv
open PySem.Builtin.List renaming listTooLong→Um
open Classical renaming propDecidable→Ur
open PySem.Builtin.Range renaming rangeSize→Uz
open LawfulBEq renaming eq_of_beq→U7
open List.Pairwise renaming nil→Vl
open PySem.SetTable.below renaming go→Vm
open PySem.Str renaming ofString→V_,empty→Xz
open PySem.Calls renaming call_function_entry→Wj,Name_function_global→Zj
open PySem.Heap.SameBut renaming update→Wo
open PySem.F renaming args_tuple_add_2→Ww,entry_tuple_add→W2,slot_tuple_add→Xf,slot_dict_getitem→Z5
open True renaming intro→WS
open Sum renaming inr→W6,inl→abV
open PySem.Paired renaming length→X1,snoc→aez
open Prod.mk renaming injEq→X4
open Function renaming comp→Yd
open PySem.Around renaming under_plainId→Yw,under→aaQ
open Array.Perm renaming refl→Y1
open Iff renaming rfl→Zh
open Min renaming min→Zu
open PySem.SetTable.probe renaming go→aai
open Or renaming inr→aap,inl→abx
open PySem.Manifest.Receiver renaming self→aa6,none→aa7
open PySem.Challenge renaming pw_keyfold_k32_whole_sums→abg
open Std.Legacy.Range renaming forIn_eq_forIn_range'→abI,size→aex
open PySem.SeqAt.Reads renaming unique→acu
open PySem.Code renaming isFrame→acV
open PySem.pickOrder renaming go→ac4
open PySem.IsL renaming update→adb
open Std.Legacy renaming Range→adj
open ForIn renaming forIn→adq
open PySem.Shared renaming heap→adx
open Exists renaming elim→adz
open PySem.SeqAt renaming EqAt→adW
open PySem.Builtin.Frozenset renaming newClass→ad3,addrOf→aen,sizeOf→aeo,slot0→aes
open PySem.IsRange renaming new→aey
noncomputable section
set_option hygiene false in
local macro_rules|`(#[$n:num])=>do
 let some x:=(#[`((#[1])),
`(by omega),
`((#[6])),
`((by simp)),
`((e9 prog w)),
`((enc (po t []))),
`(by decide),
`((by symm)),
`((e9 X.prog X.w)),
`(.inl rfl),
`(Inv X pins σ H s),
`(.loc S.length),
`(o.idxOf c),
`(.type "list"),
`(s.heap.objs.size+1),
`(.ref s.heap.objs.size),
`(by simpa using hb),
`(At.Lu.mpr rfl),
`(s.heap.get? b),
`(X.env.cells.lookup x),
`(.str "abcdefghijklmnopqrstuvwxyz"),
`(X.env.scope.names.lookup x)]:Array (Lean.MacroM Lean.Term))[n.getNat]?|Lean.Macro.throwUnsupported
 x
set_option hygiene false in
local macro_rules|`(tactic|rw[$n:num])=>do
 let some x:=(#[`(tactic|dsimp only),
`(tactic|split at e),
`(tactic|and_intros),
`(tactic|constructor),
`(tactic|refine aA rfl ?_)]:Array (Lean.MacroM (Lean.TSyntax `tactic)))[n.getNat]?|Lean.Macro.throwUnsupported
 x
abbrev Ll:=PySem.W.Frag
abbrev Lm:=ax->cv->Prop
abbrev Ln:=ak (cn×PySem.Obj)
abbrev Lo:=eG->a9 ax
namespace L2
open PySem PySem.Spec PyProof.Rows
noncomputable instance Z1:PR la:=λa b=>Ur (a=b)
noncomputable def keyOk:Nat->la->fg
 |_,.int _=>ba
 |_,.str x=>H7 x
 |n+1,.tuple xs=>xs.all (keyOk n)
 |_,_=>b0
noncomputable def SQ (w:il):Nat->la->Int
 |_,.int i=>hashInt i
 |_,.str x=>hashStr w x
 |n+1,.tuple xs=>reduceHash (za (xs.map (SQ w n)))
 |_,_ => 0
noncomputable def AC:Nat->la->Nat
 |n+1,.tuple xs=>(xs.map (AC n)).sum+1
 |_,_ => 1
theorem cm {n:Nat}{xs:ak la}(h:keyOk (n+1) (.tuple xs)=ba):∀ x∈xs,keyOk n x=ba:=by rw[keyOk,UN] at h;exact h
theorem mK:∀ {n:Nat}{p:la},keyOk n p=ba->p.canLay0=ba:=by
 intro n
 induction n with
 |zero =>
  intro p h;cases p with
  |int i=>rfl
  |str x=>rw[VA];simpa [keyOk] using h
  |_=>simp[keyOk] at h
 |succ n d =>
  intro p h;cases p with
  |int i=>rfl
  |str x=>rw[VA];simpa [keyOk] using h
  |tuple a =>
   rw[VA];have:=cm h;clear h
   induction a with
   |nil=>rfl
   |cons x a b=>rw[ze,d (this x #[3]),b λy c=>this y (by simp[c])];rfl
  |_=>simp[keyOk] at h
theorem vF:∀ {n:Nat}{p:la},keyOk n p=ba->p.depth<=n:=by
 intro n
 induction n with
 |zero =>
  intro p h;cases p<;>first |(simp[keyOk] at h;done) |simp[wt]
 |succ n d =>
  intro p h;cases p with
  |tuple a =>
   rw[wt];have:=cm h;clear h;refine Nat.succ_le_succ ?_
   induction a with
   |nil=>rw[QK];omega
   |cons x a b=>rw[QK];exact Nat.max_le.mpr ⟨d (this x #[3]),b λy c=>this y (by simp[c])⟩
  |int i=>simp[wt]
  |str i=>simp[wt]
  |_=>simp[keyOk] at h
theorem rK:∀ {n:Nat}{p q:la},keyOk n p=ba->keyOk n q=ba->iv p q=dv (p=q):=by
 have str:∀ x y:eG,iv (.str x) (.str y)=dv (aaL x = .str y):=λx y=>by
  rw[iv];by_cases e:x=y
  ·subst e;simp
  rw[mz.mpr e,eh (λz=>e (PyData.str.inj z))]
 have int:∀ x y:Int,iv (.int x) (.int y)=dv (PyData.int x = .int y):=λx y=>by
  rw[iv];by_cases e:x=y
  ·subst e;simp
  rw[mz.mpr e,eh (λz=>e (PyData.int.inj z))]
 have c:∀ p q:la,p≠q->b0=dv (p=q):=λp q h=>(eh h).symm;intro n
 induction n with
 |zero =>
  intro p q f b;cases p<;>first |(simp[keyOk] at f;done) |skip<;>cases q<;>first |(simp[keyOk] at b;done) |exact int _ _ |exact str _ _ |exact c _ _ (λz=>nomatch z)
 |succ n r =>
  intro p q f b;cases p with
  |tuple d =>
   cases q with
   |tuple a =>
    rw[iv];have l:=cm f;have m:=cm b;clear f b
    have k:ti d a=dv (d=a):=by
     induction d generalizing a with
     |nil=>cases a<;>simp[ti]
     |cons x d o =>
      cases a with
      |nil=>simp[ti]
      |cons y a =>
       rw[ti,r (l x #[3]) (m y #[3]),o a (λz g=>l z (by simp[g])) (λz g=>m z (by simp[g]))];by_cases e:x=y
       ·subst e;simp
       simp[e]
    rw[k];by_cases e:d=a
    ·subst e;simp
    rw[eh e,eh (λz=>e (PyData.tuple.inj z))]
   |int i=>rw[iv];exact c _ _ (λz=>nomatch z)
   |str i=>rw[iv];exact c _ _ (λz=>nomatch z)
   |_=>simp[keyOk] at b
  |int i =>
   cases q with
   |int j=>exact int _ _
   |str j=>rw[iv];exact c _ _ (λz=>nomatch z)
   |tuple j=>rw[iv];exact c _ _ (λz=>nomatch z)
   |_=>simp[keyOk] at b
  |str i =>
   cases q with
   |int j=>rw[iv];exact c _ _ (λz=>nomatch z)
   |str j=>exact str _ _
   |tuple j=>rw[iv];exact c _ _ (λz=>nomatch z)
   |_=>simp[keyOk] at b
  |_=>simp[keyOk] at f
theorem uY {h h':kx}{d:cn}{o:Obj}{es ep}(u:h.get? d=ag o)(hd:o.data = .dict es ep)(C:UP d h h'):∀ {n:Nat}{p:la}{v:ax}{as:ak cn},keyOk n p=ba->acO h v p as->acO h' v p as:=by
 intro n
 induction n with
 |zero =>
  intro p v as b r;cases r with
  |int i t=>exact .int i t
  |str x t=>exact .str x t
  |_=>simp[keyOk] at b
 |succ n B =>
  intro p v as b r;cases r with
  |int i t=>exact .int i t
  |str x t=>exact .str x t
  | @tuple a D q m g as e j c f =>
   have z:a≠d:=by rintro rfl;rw[u] at e;cases e;rw[hd] at c;exact nomatch c
   refine .tuple ((C.2 a z).trans e) j c ?_;have it:=cm b;clear b e j c;generalize q.toList=l at f
   induction g generalizing l as with
   |nil=>cases f;exact .nil
   |cons x g k =>
    cases f with
    |cons w s=>exact .cons (B (it x #[3]) w) (k (λy A=>it y (by simp[A])) _ s)
  |_=>simp[keyOk] at b
section
variable {prog:fh}{w:il}{A:jl}{E:Lm}{s:cv}
theorem xV:∀ {n:Nat}{p:la}{A:jl}{s:cv}{v:ax}{as:ak cn}{Q:Int->cv->Prop},keyOk n p=ba->A.units+n<vu->acO s.heap v p as->Q (SQ w n p) { s with toks:=s.toks+AC n p } ->
  ew #[4] A (pyHash v) Q E s:=by
 intro n
 induction n with
 |zero =>
  intro p A s v as Q d z r h;cases r with
  |int i t=>exact aaw h
  |str x t=>exact aax h
  |_=>simp[keyOk] at d
 |succ n B =>
  intro p A s v as Q d z r h;cases r with
  |int i t=>exact aaw h
  |str x t=>exact aax h
  | @tuple a o items m l as j hc hd C =>
   have c:s.TypeIs (.ref a) "tuple":=⟨o,j,hc⟩;have it:=cm d;unfold pyHash
   first |unfold pyHashByItsType |skip
   first |refine av (wpAny_cRoomFor_or (.inr #[0]) ?_) |skip
   refine av (YZ c F.slot_tuple_hash.lookup ?_);show ew _ _ (if (ag (Value.builtin "tuple.__hash__")==ag R6)=ba then _ else _) Q E s;rw[dV (by rw[beq_builtin_none];exact Sa)];refine av (YZ c F.slot_tuple_hash.lookup ?_);show ew _ _ (callSpecialIfBoundUnlessNone? (.ref a) "__hash__" _ >>= _) Q E s;refine av (wpAny_callSpecialIfBoundUnlessNone?_slot c F.slot_tuple_hash (mm F.slot_tuple_hash c F.entry_tuple_hash ?_ (F.args_tuple_hash_1 _)));show ew _ _ (Sr (.ref a) >>= _) _ _ s;refine av (WK j hd ?_);refine av ?_;rw[← acs]
   refine VZ _
    (λrest (b:ib Int) f => ∃ done left bs,l=done++left/\aay s.heap rest left bs/\b.toList=done.map (SQ w n)/\f={ s with toks:=s.toks+(done.map (AC n)).sum })
    _ ?_ ?_ _ _ ⟨[],l,as,rfl,C,rfl,rfl⟩
   ·rintro x rest b f ⟨done,left,bs,rfl,e,hb,rfl⟩;cases e with
    | @cons _ _ k g y q D u =>
     refine av (B (A:=A.in1) (it k #[3]) (by show A.units+1+n<vu;omega) (s:={ s with toks:=s.toks+(done.map (AC n)).sum }) D ?_)
     first
      |exact bo ⟨done++[k],g,q,by simp,u,by simp[hb],by simp[aaz]⟩
      |exact av (bo (bo ⟨done++[k],g,q,by simp,u,by simp[hb],by simp[aaz]⟩))
   rintro b f ⟨done,left,bs,rfl,e,hb,rfl⟩;cases e;rw[i3] at h;show ew _ _ (retInt (za b.toList)) _ _ _;rw[hb];refine wpAny_ret_mkInt ?_;show ew _ _ (if (dv (-(2:Int) ^ 63<=za (done.map (SQ w n)))&&dv (za (done.map (SQ w n))<2 ^ 63))=ba then _ else _) Q E _;rw[SQ,AC] at h;unfold reduceHash at h;by_cases hr:(dv (-(2:Int) ^ 63<=za (done.map (SQ w n)))&&dv (za (done.map (SQ w n))<2 ^ 63))=ba
   ·rw[dm hr];rw[dm hr] at h;exact bo (by simpa [aaz] using h)
   rw[dV hr];rw[dV hr] at h;exact av (OL (bo (by simpa [aaz] using h)))
  |_=>simp[keyOk] at d
theorem uZ:∀ {n:Nat}{p:la}{s:cv}{v:ax}{as:ak cn}{Q:fg->cv->Prop},keyOk n p=ba->acO s.heap v p as->Q ba s->ew #[4] A (aaA n v) Q E s:=by
 intro n
 induction n with
 |zero =>
  intro p s v as Q b r h;cases r with
  |int i t=>unfold aaA;exact bo h
  |str x t=>unfold aaA;exact bo h
  |_=>simp[keyOk] at b
 |succ n z =>
  intro p s v as Q b r h;cases r with
  |int i t=>unfold aaA;exact bo h
  |str x t=>unfold aaA;exact bo h
  | @tuple a o items m l as e hc hd C =>
   have d:s.TypeIs (.ref a) "tuple":=⟨o,e,hc⟩;have it:=cm b;unfold aaA;refine av (YZ d F.slot_tuple_eq.lookup ?_);show ew _ _ (isInstance (.ref a) (.type "tuple") >>= _) _ _ s;refine av (V0 d abh ?_);simp only[RT,lg,r3];refine av (P0 e hd ?_);refine av ?_;show ew _ _ (adq items _ _) _ _ s;rw[← acs];refine VZ _ (λrest r c=>r.1=ay/\c=s/\∃ left bs,aay s.heap rest left bs/\∀ x∈left,keyOk n x=ba) _ ?_ ?_ _ _ ⟨rfl,rfl,l,as,C,it⟩
   ·rintro v rest r c ⟨hr,rfl,left,bs,j,f⟩;cases j with
    | @cons _ _ k g q B D G =>
     refine av (z (f k #[3]) D ?_);simp only[RT,lg,r3];exact bo ⟨rfl,rfl,g,B,G,λy u=>f y (by simp[u])⟩
   rintro⟨I,H⟩ c ⟨hr,rfl,_⟩;simp only at hr;subst hr;exact bo h
  |_=>simp[keyOk] at b
end
noncomputable def jn (prog:fh) (w:il):HeapKind prog w la where
 is:=λh p a=>keyOk 8 p=ba/\∃ e,acO h (.ref a) p e
 hash:=SQ w 8
 draws:=AC 8
 room:=λA=>A.units+8<vu
 inj:=λ⟨c,e,d⟩ ⟨_,bs,f⟩=>acu _ _ _ _ _ (mK c) d f
 keeps:=λ⟨c,e,d⟩ j hd k=>⟨c,e,uY j hd k c d⟩
 pyHash:=λg ⟨c,e,d⟩ h=>xV c g d h
 eqBool:=λ{A E s x y a b Q} g ⟨c,e,d⟩ ⟨i,bs,f⟩ h=>SeqAt.eqBoolOverData prog w A E s _ _ _ _ _ _ Q d f (mK c) (mK i) (by have:=vF c;omega) (by rw[rK c i];exact h)
 quiet:=λ⟨c,e,d⟩ h=>uZ c d h
abbrev Key:=Sum Int eG
noncomputable def rL:Key->ax->fg
 | .inl k,v=>Value.isInt k v
 | .inr x,v=>ach x v
noncomputable def JY (w:il):Key->Int
 | .inl k=>hashInt k
 | .inr x=>hashStr w x
theorem bn:∀ {k:Key}{v:ax},rL k v=ba->(∃ i t,k=abV i/\v=Xs i t)∨(∃ x t,k=W6 x/\v=abW x t)
 | .inl i,v,h=>by
  obtain⟨t,e⟩:=Value.isInt_shape (k:=i) (v:=v) h;exact .inl ⟨i,t,rfl,e⟩
 | .inr x,v,h=>by
  obtain⟨t,e⟩:=ab8 (x:=x) (v:=v) h;exact .inr ⟨x,t,rfl,e⟩
theorem Bc (i:Int)(t:Tok):rL (.inl i) (.int i t)=ba:=by simp[rL,Value.isInt]
theorem Bb (x:eG)(t:Tok):rL (.inr x) (.str x t)=ba:=by simp[rL,ach]
theorem G5 (a b:Int):dv ((abV a:Key)=abV b)=(a==b):=by
 by_cases e:a=b
 ·subst e;simp
 have h:¬ (abV a:Key)=abV b:=λq=>e (Sum.inl.inj q);rw[eh h];exact(mz.mpr e).symm
theorem G2 (a b:eG):dv ((W6 a:Key)=W6 b)=dv (a=b):=by
 by_cases e:a=b
 ·subst e;simp
 have h:¬ (W6 a:Key)=W6 b:=λq=>e (Sum.inr.inj q);rw[eh h,eh e]
theorem G4 (a:Int)(b:eG):dv ((abV a:Key)=W6 b)=b0:=eh (λq=>nomatch q)
theorem G3 (a:eG)(b:Int):dv ((W6 a:Key)=abV b)=b0:=eh (λq=>nomatch q)
noncomputable def bt (prog:fh)(w:il):abq prog w Key where
 is:=rL
 hash:=JY w
 inj:=λv a b g hb=>by
  rcases bn g with ⟨i,t,rfl,rfl⟩ |⟨x,t,rfl,rfl⟩
  ·rcases bn hb with ⟨j,u,rfl,e⟩ |⟨y,u,rfl,e⟩
   ·injection e with c _;rw[c]
   exact nomatch e
  rcases bn hb with ⟨j,u,rfl,e⟩ |⟨y,u,rfl,e⟩
  ·exact nomatch e
  injection e with c _;rw[c]
 byValue:=λk v h=>by
  rcases bn h with ⟨i,t,rfl,rfl⟩ |⟨x,t,rfl,rfl⟩<;>rfl
 pyHash:=λd h=>by
  rcases bn d with ⟨i,t,rfl,rfl⟩ |⟨x,t,rfl,rfl⟩
  ·exact aaw h
  exact aax h
 eqBool:=λf d h=>by
  rcases bn f with ⟨i,t,rfl,rfl⟩ |⟨x,t,rfl,rfl⟩
  ·rcases bn d with ⟨j,u,rfl,rfl⟩ |⟨y,u,rfl,rfl⟩
   ·rw[G5] at h;exact Xv h
   rw[G4] at h;exact SeqAt.EqAt.int_str i t y u _ _ _ _ h
  rcases bn d with ⟨j,u,rfl,rfl⟩ |⟨y,u,rfl,rfl⟩
  ·rw[G3] at h;exact SeqAt.EqAt.str_int x t j u _ _ _ _ h
  rw[G2] at h;exact wpAny_eqBool_str h
 «strs»:=λk x t v h=>by
  rcases bn h with ⟨i,u,rfl,e⟩ |⟨y,u,rfl,e⟩
  ·exact nomatch e
  injection e with c _
  subst c;cases v<;>rfl
theorem vp (prog:fh)(w:il)(i:Int)(t:Tok):(bt prog w).is (.inl i) (.int i t)=ba:=Bc i t
theorem vo (prog:fh)(w:il)(x:eG)(t:Tok):(bt prog w).is (.inr x) (.str x t)=ba:=Bb x t
inductive V where
 |LN |bl (b:fg) |int (i:Int) |str (x:eG) |Xp (b:ib UInt8) |Vd (b:UInt64) |ref (a:cn) |ty (n:W7)
 deriving DecidableEq
noncomputable def RelV:V->ax->Prop
 | .LN,u=>u=R6
 | .bl b,u=>u=adN b
 | .int i,u => ∃ t,u=Xs i t
 | .str x,u => ∃ t,u=abW x t
 | .Xp b,u => ∃ t,u=Value.bytes b t
 | .Vd b,u => ∃ t,u=Value.float b t
 | .ref a,u=>u=ma a
 | .ty n,u=>u=xb n
abbrev Vals:ak V->ak ax->Prop:=lU RelV
theorem Vals.length {xs:ak V}{us:ak ax}(r:Vals xs us):xs.length=us.length:=X1 r
theorem Vals.get:∀ {xs:ak V}{us:ak ax}{i:Nat}{x:V},Vals xs us->xs[i]?=ag x->∃ u,us[i]?=ag u/\RelV x u
 |_,_,_,_,.nil,e=>by simp at e
 |_,_,0,_,.cons r _,e=>by simp at e;subst e;exact⟨_,rfl,r⟩
 |_,_,i+1,x,.cons _ t,e=>by
  obtain⟨u,a,b⟩:=Vals.get (i:=i) (x:=x) t (by simpa using e);exact⟨u,by simpa using a,b⟩
theorem Vals.set {x:V}{u:ax}(r:RelV x u):∀ {xs:ak V}{us:ak ax}(i:Nat),Vals xs us->Vals (xs.set i x) (us.set i u)
 |_,_,_,.nil => .nil
 |_,_,0,.cons _ t => .cons r t
 |_,_,i+1,.cons q t => .cons q (Vals.set r i t)
theorem Vals.append:∀ {xs ys:ak V}{us ws:ak ax},Vals xs us->Vals ys ws->Vals (xs++ys) (us++ws)
 |_,_,_,_,.nil,s=>s
 |_,_,_,_,.cons r t,s => .cons r (Vals.append t s)
theorem Vals.take:∀ {xs:ak V}{us:ak ax}(n:Nat),Vals xs us->Vals (xs.take n) (us.take n)
 |_,_,0,_ => .nil
 |_,_,_+1,.nil => .nil
 |_,_,n+1,.cons r t => .cons r (Vals.take n t)
theorem Vals.drop:∀ {xs:ak V}{us:ak ax}(n:Nat),Vals xs us->Vals (xs.drop n) (us.drop n)
 |_,_,0,r=>r
 |_,_,_+1,.nil => .nil
 |_,_,n+1,.cons _ t=>Vals.drop n t
noncomputable def M9:a9 V->a9 ax->Prop
 |ag v,ag u=>RelV v u
 |ay,ay=>True
 |_,_=>False
def KV {a:Type}:ak (a×V)->ak (a×ax)->Prop:=lU λ(p : a×V) (q : a×ax)=>p.1=q.1/\RelV p.2 q.2
noncomputable def kV:Key->V
 | .inl i => .int i
 | .inr x => .str x
inductive HO where
 |lst (xs:ak V)
 |tup (xs:ak V)
 |dK (kvs:ak (Key×V)) |dT (kvs:ak (ak Key×V)) |dN (kvs:ak (la×cn×V))
 |set (S:Int->fg) (n:Nat)
 |ins (C dx:cn) (fs:ak (eG×V))
 |own (x:cn)
 |xd (fs:ak (eG×V))
 |met (f x:cn)
 |Yc (lo hi:Int)
 |QH (o:Obj) (u:HO)
 |Tz (ps:ib ax)
 |ext (φ:kx->Prop)
abbrev Hp:=cn->a9 HO
noncomputable def upd (H:Hp) (a:cn) (o:HO):Hp:=λb=>if b=a then ag o else H b
theorem LC {H:Hp}{a:cn}{o:HO}:upd H a o a=ag o:=by unfold upd;rw[dm rfl]
theorem aG {H:Hp}{a b:cn}{o:HO}(h:b≠a):upd H a o b=H b:=by unfold upd;rw[dV h]
theorem ID {H:Hp}{a b:cn}{o u:HO}(h:H a=ag o)(h':H b=ag u)(d:o≠u):a≠b:=by intro e;subst e;rw[h] at h';exact d (ja h')
theorem aM {H:Hp}{a b:cn}{o:HO}(h:H a=ag o)(h':H b=ay):a≠b:=by intro e;subst e;rw[h] at h';cases h'
def O4 (h:kx)(a:cn)(its:ib ax):Prop:=∃ n,h.get? a=ag { cls:=.type "tuple",data:=.seq its n }
theorem O4.tup {h:kx}{a:cn}{its:ib ax}(x:O4 h a its):aci h a its:=let ⟨n,e⟩:=x;⟨_,e,rfl,n,rfl⟩
theorem O4.new (h:kx)(its:ib ax):O4 (h.push { cls:=.type "tuple",data:=.seq its }) h.objs.size its:=⟨_,e8 _ rfl⟩
section
variable (P:fh) (w:il)
noncomputable def L9 (H:Hp)(h:kx)(a:cn):HO->Prop
 | .lst c=>c.length<=d4/\∃ (its:ak ax) (n:Nat),Vals c its/\h.get? a=ag { cls:=#[13],data:=.seq its.toArray n }
 | .tup c=>c.length<=d4/\∃ its:ak ax,Vals c its/\O4 h a its.toArray
 | .dK b=>b.length<=d4/\(a==Uh)=b0/\∃ i,KV b i/\h.DictOf (bt P w) a i
 | .dT b=>b.length<=d4/\(a==Uh)=b0/\∃ c:ak (ak Key×cn×ax),
   lU (λ(p:ak Key×V) (q:ak Key×cn×ax)=>p.1=q.1/\H q.2.1=ag (.tup (p.1.map kV))/\RelV p.2 q.2.2) b c /\
   ∃ o es ep,h.get? a=ag o/\o.ExactDict/\o.data = .dict es ep/\es.toList=c.map (entryOfKey (abX (bt P w)))/\(c.map (·.1)).Nodup
 | .dN b=>b.length<=d4/\(a==Uh)=b0/\∃ c:ak (la×cn×ax),lU (λp q=>p.1=q.1/\p.2.1=q.2.1/\RelV p.2.2 q.2.2) b c /\
   ∃ o es ep,h.get? a=ag o/\o.ExactDict/\o.data = .dict es ep/\es.toList=c.map (entryOfKey (jn P w))/\(c.map (·.1)).Nodup
 | .set S n=>h.SetOf (intKind P w) a S n
 | .ins C e fs=>H e=ag (.own a)/\fs.length<=1000/\e≠a/\h.get? a=ag (QL C e) /\
   ∃ d,h.Ns1 e d/\(∀ f,M9 (fs.lookup f) (d f))/\acP d (fs.map (·.1))
 | .own _ => ∃ o,h.get? a=ag o
 | .xd fs => ∃ d,h.Ns1 a d/\∀ f,M9 (fs.lookup f) (d f)
 | .Yc lo m => ∃ t u v,h.get? a=ag { cls:=.type "range",data:=.fields #[.int lo t,.int m u,.int 1 v] }
 | .QH o u=>h.get? a=ag o/\L9 H h a u
 | .Tz l=>h.get? a=ag { cls:=.none,data:=.fields l }
 | .met f x=>h.get? a=ag (Z8 (.ref f) (.ref x))
 | .ext g => g h/\(∃ o,h.get? a=ag o)/\∀ j k:kx,g j->(∀ o,j.get? a=ag o->k.get? a=ag o)->g k
def ND (H:Hp)(h:kx):Prop:=∀ a o,H a=ag o->L9 P w H h a o
end
section
variable {P:fh}{w:il}{H H':Hp}{h h':kx}{a:cn}{o:HO}
theorem L9.lt (x:L9 P w H h a o):a<h.objs.size:=by
 cases o with
 |lst c=>obtain⟨_,_,_,_,e⟩:=x;exact eM e
 |tup c=>obtain⟨_,_,_,_,e⟩:=x;exact eM e
 |dK b=>obtain⟨_,_,_,_,o,_,_,e,_⟩:=x;exact eM e
 |dT b=>obtain⟨_,_,_,_,o,_,_,e,_⟩:=x;exact eM e
 |dN b=>obtain⟨_,_,_,_,o,_,_,e,_⟩:=x;exact eM e
 |set S n=>obtain⟨o,_,_,_,e,_⟩:=x;exact eM e
 |ins C d fs=>obtain⟨_,_,_,e,_⟩:=x;exact eM e
 |own y=>obtain⟨_,e⟩:=x;exact eM e
 |xd fs=>obtain⟨_,⟨_,_,_,e,_⟩,_⟩:=x;exact eM e
 |Yc lo j=>obtain⟨_,_,_,e⟩:=x;exact eM e
 |QH i u=>obtain⟨e,_⟩:=x;exact eM e
 |Tz g=>exact eM (show h.get? a=ag _ from x)
 |met f y=>exact eM (show h.get? a=ag _ from x)
 |ext k=>obtain⟨_,⟨_,e⟩,_⟩:=x;exact eM e
theorem Paired.Pt {α c:Type}{F G : α->c->Prop}:∀ {l₁:ak α}{l₂:ak c},lU F l₁ l₂->(∀ a b,F a b->G a b)->lU G l₁ l₂
 |_,_,.nil,_ => .nil
 |_,_,.cons r t,f => .cons (f _ _ r) (Paired.Pt t f)
theorem L9.OA (x:L9 P w H h a o)(k:∀ b u,(b=a∨H b=ag (.own a))->h.get? b=ag u->h'.get? b=ag u)
  (A:∀ b,H b=ag (.own a)->H' b=ag (.own a)) (D:∀ b xs,H b=ag (.tup xs)->H' b=ag (.tup xs)):L9 P w H' h' a o:=by
 induction o with
 |lst xs=>obtain⟨z,its,n,r,e⟩:=x;exact⟨z,its,n,r,k _ _ (#[9]) e⟩
 |tup xs=>obtain⟨z,its,r,n,e⟩:=x;exact⟨z,its,r,n,k _ _ (#[9]) e⟩
 |dK i=>obtain⟨z,y,s,r,g,es,ep,e,c⟩:=x;exact⟨z,y,s,r,g,es,ep,k _ _ (#[9]) e,c⟩
 |dT i =>
  obtain⟨z,y,xs,r,g,es,ep,e,c⟩:=x;exact⟨z,y,xs,Paired.Pt r λp q z=>⟨z.1,D _ _ z.2.1,z.2.2⟩,g,es,ep,k _ _ (#[9]) e,c⟩
 |dN i=>obtain⟨z,y,xs,r,g,es,ep,e,c⟩:=x;exact⟨z,y,xs,r,g,es,ep,k _ _ (#[9]) e,c⟩
 |set S n=>obtain⟨g,es,ep,t,e,c⟩:=x;exact⟨g,es,ep,t,k _ _ (#[9]) e,c⟩
 |ins C F fs =>
  obtain⟨d,z,ne,e,l,⟨j,es,ep,B,c⟩,r⟩:=x;exact⟨A _ d,z,ne,k _ _ (#[9]) e,l,⟨j,es,ep,k _ _ (.inr d) B,c⟩,r⟩
 |own y=>obtain⟨g,e⟩:=x;exact⟨g,k _ _ (#[9]) e⟩
 |xd fs=>obtain⟨l,⟨j,es,ep,e,c⟩,r⟩:=x;exact⟨l,⟨j,es,ep,k _ _ (#[9]) e,c⟩,r⟩
 |Yc lo G=>obtain⟨t,u,v,e⟩:=x;exact⟨t,u,v,k _ _ (#[9]) e⟩
 |QH g u E=>obtain⟨e,q⟩:=x;exact⟨k _ _ (#[9]) e,E q⟩
 |Tz m =>
  have e:h.get? a=ag { cls:=.none,data:=.fields m }:=x;show h'.get? a=ag { cls:=.none,data:=.fields m };exact k a _ (#[9]) e
 |met f y =>
  have e:h.get? a=ag (Z8 (.ref f) (.ref y)):=x;show h'.get? a=ag (Z8 (.ref f) (.ref y));exact k a _ (#[9]) e
 |ext I=>obtain⟨p,⟨o,e⟩,st⟩:=x;exact⟨st _ _ p λo q=>k _ _ (#[9]) q,⟨o,k _ _ (#[9]) e⟩,st⟩
theorem ND.lt (x:ND P w H h)(e:H a=ag o):a<h.objs.size:=(x a o e).lt
theorem ND.fresh (x:ND P w H h)(e:h.objs.size<=a):H a=ay:=by
 cases q:H a with
 |none=>rfl
 |some u=>exact ku (ke (x.lt q) e) (qb _)
theorem ND.kept (x:ND P w H h)(k:∀ b u,h.get? b=ag u->h'.get? b=ag u):ND P w H h':=λa o e =>
 (x a o e).OA (λb u _ q=>k b u q) (λ_ q=>q) λ_ _ q=>q
theorem ND.laid (x:ND P w H h)(k:∀ b u,h.get? b=ag u->h'.get? b=ag u)(f:h.objs.size<=a)(new:L9 P w (upd H a o) h' a o):ND P w (upd H a o) h':=λb u e=>by
 have d:=x.fresh f;by_cases hb:b=a
 ·subst hb;rw[LC] at e;cases e;exact new
 rw[aG hb] at e;exact(x b u e).OA (λc v _ q=>k c v q) (λc q=>by rw[aG (aM q d)];exact q) λc g q=>by rw[aG (aM q d)];exact q
end
def Rd (H:Hp)(a:cn)(u:HO):Prop:=H a=ag u∨∃ o,H a=ag (.QH o u)
theorem Rd.ok {P:fh}{w:il}{H:Hp}{h:kx}{a:cn}{u:HO}(r:Rd H a u)(x:ND P w H h):L9 P w H h a u:=by
 rcases r with r |⟨o,r⟩
 ·exact x a u r
 obtain⟨_,q⟩:=x a _ r;exact q
noncomputable def VG:a9 HO->Prop
 |ag (.lst _)=>True
 |ag (.dK _)=>True
 |ag (.dT _)=>True
 |ag (.dN _)=>True
 |ag (.set _ _)=>True
 |ag (.ins _ _ _)=>True
 |ag (.ext _)=>True
 |_=>False
section
variable {P:fh}{w:il}{H:Hp}{h h':kx}{x e:cn}{o':HO}
theorem ND.write (ok:ND P w H h)(f:VG (H x))(i:e=x∨H e=ag (.own x))(k:∀ b u,b≠e->h.get? b=ag u->h'.get? b=ag u)(n:∃ u,h'.get? e=ag u)
  (new:L9 P w (upd H x o') h' x o'):ND P w (upd H x o') h':=λb u q=>by
 have g:∀ c y,H c=ag (.own y)->c≠x:=λc y r z=>by subst z;rw[r] at f;exact f
 have m:∀ c d,H c=ag (.tup d)->c≠x:=λc d r z=>by subst z;rw[r] at f;exact f
 by_cases hb:b=x
 ·subst hb;rw[LC] at q;cases q;exact new
 rw[aG hb] at q;by_cases a:b=e
 ·have j:H b=ag (.own x):=by
   rcases i with z |z
   ·exact ku (a.trans z) hb
   rw[a];exact z
  rw[q] at j;cases j;obtain⟨v,l⟩:=n;exact⟨v,by rw[a];exact l⟩
 refine(ok b u q).OA (λc v hc r=>k c v ?_ r) (λc r=>by rw[aG (g c b r)];exact r) λc d r=>by rw[aG (m c d r)];exact r
 rcases hc with rfl |hc
 ·exact a
 rintro rfl;rcases i with z |z
 ·exact g c b hc z
 rw[hc] at z;cases z;exact hb rfl
end
structure Un (fs ex:ak cn) (H H':Hp) (h h':kx):Prop where
 keep:∀ b o,h.get? b=ag o->H b=ay->b∉fs->b∉ex->h'.get? b=ag o
 slot:∀ b o,h.get? b=ag o->H b=ay->b∈fs->b∉ex->∃ sl,h'.get? b=ag { o with slots:=sl }
 free:∀ b o,h.get? b=ag o->H b=ay->b∉ex->H' b=ay
 there:∀ b o,h.get? b=ag o->b∉ex->∃ o',h'.get? b=ag o'
 Pu:∀ b xs,H b=ag (.tup xs)->H' b=ag (.tup xs)
 O5:∀ b o u,H b=ag (.QH o u)->H' b=ag (.QH o u)
 Pw:∀ b ps,H b=ag (.Tz ps)->∃ more,H' b=ag (.Tz (ps++more))
section
variable {fs Z2 ex ex':ak cn}{H H1 H2:Hp}{h h1 h2 h':kx}{a x e:cn}{o:HO}
theorem Un.any (u:Un fs ex H H1 h h1){b:cn}{a:Obj}(q:h.get? b=ag a)(n:H b=ay)(c:b∉ex):∃ sl,h1.get? b=ag { a with slots:=sl }:=by
 by_cases hb:b∈fs
 ·exact u.slot b a q n hb c
 exact⟨a.slots,u.keep b a q n hb c⟩
theorem Un.kept (k:∀ b u,h.get? b=ag u->h'.get? b=ag u):Un fs ex H H h h':=
 ⟨λb a q _ _ _=>k b a q,λb a q _ _ _=>⟨a.slots,k b a q⟩,λ_ _ _ n _=>n,λb a q _=>⟨a,k b a q⟩,λ_ _ q=>q,λ_ _ _ q=>q,λ_ c q=>⟨#[],by rw[q];simp⟩⟩
theorem Un.refl:Un fs ex H H h h:=Un.kept λ_ _ q=>q
theorem Un.laid (k:∀ b u,h.get? b=ag u->h'.get? b=ag u)(e:h.objs.size<=a)(c:H a=ay):Un fs ex H (upd H a o) h h' where
 keep:=λb u q _ _ _=>k b u q
 slot:=λb u q _ _ _=>⟨u.slots,k b u q⟩
 free:=λb u q n _=>by rw[aG (nq (ke (eM q) e))];exact n
 there:=λb u q _=>⟨u,k b u q⟩
 Pu:=λb d q=>by rw[aG (aM q c)];exact q
 O5:=λb u d q=>by rw[aG (aM q c)];exact q
 Pw:=λb f q=>⟨#[],by rw[aG (aM q c),q];simp⟩
theorem Un.write (a:VG (H x))(j:e=x∨H e=ag (.own x))(k:∀ b u,b≠e->h.get? b=ag u->h'.get? b=ag u)(l:∃ u,h'.get? e=ag u):Un fs ex H (upd H x o) h h':=by
 have f:∀ b,H b=ay->b≠x:=λb n z=>by subst z;rw[n] at a;exact a
 have hb:∀ b,H b=ay->b≠e:=λb n z=>by
  subst z;rcases j with r |r
  ·exact f b n r
  rw[n] at r;cases r
 have c:∀ b u,H b=ag u->¬ VG (ag u)->b≠x:=λb u q i z=>by subst z;rw[q] at a;exact i a
 refine⟨λb u q n _ _=>k b u (hb b n) q,λb u q n _ _=>⟨u.slots,k b u (hb b n) q⟩,λb u q n _=>by rw[aG (f b n)];exact n,λb u q _=>?_,
  λb g q=>by rw[aG (c b _ q λz=>z)];exact q,λb u g q=>by rw[aG (c b _ q λz=>z)];exact q,λb m q=>⟨#[],by rw[aG (c b _ q λz=>z),q];simp⟩⟩
 by_cases d:b=e
 ·subst d;exact l
 exact⟨u,k b u d q⟩
end
noncomputable def Xq (h:kx)(H:Hp):ak cn:=(gx h.objs.size).filter λa=>(H a).isSome
noncomputable def tX (h:kx)(H:Hp):kx:=PySem.W.hideAll h (Xq h H)
theorem Bg (h:kx)(H:Hp):(tX h H).objs.size=h.objs.size:=PySem.W.hideAll_size _ _
theorem Di {h:kx}{H:Hp}{b:cn}{o:Obj}(e:h.get? b=ag o)(n:H b=ay):(tX h H).get? b=ag o:=
 PySem.W.hideAll_get _ e λa=>by
  have q:(H b).isSome=ba:=(WL.mp a).2;rw[n] at q;simp at q
theorem EV {h:kx}{H:Hp}{b:cn}{o:Obj}(e:(tX h H).get? b=ag o):h.get? b=ag o/\H b=ay:=by
 have a:h.get? b=ag o:=PySem.W.of_hideAll (Xq h H) e;refine⟨a,?_⟩;cases q:H b with
 |none=>rfl
 |some x =>
  have c:b∈Xq h H:=WL.mpr ⟨aaB.mpr (eM a),by simp[q]⟩;have z:(tX h H).get? b=ay:=PySem.W.hideAll_none (Xq h H) c;rw[z] at e;cases e
noncomputable def FK (g h:kx)(L:cn):Ln:=(gx h.objs.size).filterMap λa=>if a=L∨(g.get? a).isSome=ba then ay else (h.get? a).map λo=>(a,o)
noncomputable def rest (g h:kx)(L d:cn):Ln:=(FK g h L).filter λp=>dv (p.1≠d)
structure Mod (K:Ll) (mg:Lo) (base:kx):Prop where
 VI:K.In base
 glob:base.Ns my mg
 blt:∃ mb,base.Ns Zi mb/\∀ x:eG,x≠"__name__"->mb x=uk x
 nolimit:base.NoLimit
structure Cx where
 prog:fh
 w:il
 K:Ll
 mg:Lo
 base:kx
 A:jl
 N:ak eG
 s₀:cv
 H₀:Hp
 env:Env
 outer:ak Env
 stack:ak Env
 ex:ak cn
 fn:eG->fg
 calm:fg
 pn:Ln
 xe:Lm
noncomputable def Q1 (l:ak Env):ak cn:=l.filterMap (·.frame)
abbrev Cx.fs (X:Cx):ak cn:=Q1 X.outer
def VJ (sc:lE)(x:eG):Prop:=sc.names.lookup x=ag .local∨sc.names.lookup x=ag .cell∨sc.names.lookup x=ag .free
def Loc (sc:lE)(x:eG):Prop:=sc.names.lookup x=ag .local∨sc.names.lookup x=ag .cell
def Look (env:Env)(h:kx)(m:Lo)(x:eG)(u:ax):Prop:=
 (env.kindOf x=ag .local/\m x=ag u)∨((env.kindOf x=ag .cell∨env.kindOf x=ag .free)/\∃ c,env.cells.lookup x=ag c/\h.IsCell c (ag u))
structure Cx.Ok (X:Cx):Prop where
 mod:Mod X.K X.mg X.base
 kind:X.env.scope.kind = .function
 glob:X.env.globals=my
 blt:X.env.builtins=Zi
 above:X.s₀.heap.objs.size<=X.env.locals
 inj:∀ x y c,X.env.cells.lookup x=ag c->X.env.cells.lookup y=ag c->x=y
 has:∀ x,(X.env.kindOf x=ag .cell∨X.env.kindOf x=ag .free)->∃ c,X.env.cells.lookup x=ag c
 VL:∀ x c,X.fn x=ba->X.env.cells.lookup x=ag c->X.s₀.heap.objs.size<=c
 hd:X.calm=ba->X.A.handled=ay
 frames:X.A.frames=ag X.stack
 Xr:X.stack=X.outer∨(X.stack=X.env::X.outer/\X.env.frame=ag X.env.locals)
 Z3:∀ b∈X.ex,b≠X.env.locals/\∀ x c,X.env.cells.lookup x=ag c->c≠b
 bs:∀ b o,X.base.get? b=ag o->X.s₀.heap.get? b=ag o/\X.H₀ b=ay
 SU:X.base.objs.size<=X.s₀.heap.objs.size
 RV:∀ b o,X.base.get? b=ag o->b∉X.ex
 SV:∀ b∈X.ex,b∉X.fs
 Oe:X.s₀.heap.FunFrames X.base X.outer
 Us:∀ b∈X.fs,X.H₀ b=ay
structure Inv (X:Cx) (pins:Ln) (σ:ak (a9 V)) (H:Hp) (s:cv):Prop where
 ok:X.Ok
 os:s.os=X.s₀.os
 bare:Z9 s.gens
 base:Un X.fs X.ex X.H₀ H X.s₀.heap s.heap
 loc:∃ m,s.heap.Ns X.env.locals m/\∀ (i:Nat) (x:eG) (v:V),X.N[i]?=ag x->σ[i]?=ag (ag v)->VJ X.env.scope x->∃ u,RelV v u/\Look X.env s.heap m x u
 cell:∀ x c,X.env.cells.lookup x=ag c->∃ v,s.heap.IsCell c v
 free:H X.env.locals=ay
 Nw:∀ x c,X.env.cells.lookup x=ag c->H c=ay
 pin:∀ p∈X.pn++pins,s.heap.get? p.1=ag p.2/\H p.1=ay/\p.1≠X.env.locals/\p.1∉X.fs/\∀ v,p.2.data≠.cell v
 LX:ND X.prog X.w H s.heap
 len : σ.length=X.N.length
section
variable {X:Cx}{pins:Ln}{σ:ak (a9 V)}{H H':Hp}{s:cv}{h':kx}
theorem Cx.Ok.Ye (ok:X.Ok){b:cn}{o:Obj}(e:X.base.get? b=ag o):b∉X.fs:=λhb=>by have:=(ok.Oe.mem hb).1;rw[e] at this;cases this
theorem Inv.bs (I:#[10]):∀ b o,X.base.get? b=ag o->#[18]=ag o/\H b=ay:=λb o e =>
 ⟨I.base.keep b o (I.ok.bs b o e).1 (I.ok.bs b o e).2 (I.ok.Ye e) (I.ok.RV b o e),I.base.free b o (I.ok.bs b o e).1 (I.ok.bs b o e).2 (I.ok.RV b o e)⟩
theorem Inv.bk (I:#[10]):∀ b o,X.base.get? b=ag o->#[18]=ag o:=λb o e=>(I.bs b o e).1
theorem Inv.mod (I:#[10]):Mod X.K X.mg X.base:=I.ok.mod
theorem Inv.Q3 (I:#[10]):X.K.In s.heap:=I.ok.mod.VI.keeps I.bk
theorem Inv.lt (I:#[10]):X.env.locals<s.heap.objs.size:=let ⟨_,a,_⟩:=I.loc;a.lt
theorem Inv.sz (I:#[10]):X.s₀.heap.objs.size<=s.heap.objs.size:=hA I.ok.above (K5 I.lt)
theorem Inv.Yf (I:#[10]){a:cn}(h:s.heap.objs.size<=a):a∉X.fs:=λhb=>by obtain⟨_,o,b,_⟩:=I.ok.Oe.mem hb;exact ku (ke (eM b) (hA I.sz h)) (qb _)
theorem Inv.Ut (I:#[10]):∀ x c,#[19]=ag c->c≠X.env.locals:=λx c e z=>by obtain⟨v,o,a,hd⟩:=I.cell x c e;obtain⟨m,⟨f,es,ep,d,b,_⟩,_⟩:=I.loc;rw[z,d] at a;cases a;rw[b] at hd;cases hd
theorem Inv.Oe (I:#[10]):s.heap.FunFrames X.base X.outer:=by
 have all:∀ (l:ak Env),(∀ b∈Q1 l,b∈X.fs)->X.s₀.heap.FunFrames X.base l->s.heap.FunFrames X.base l:=by
  intro l
  induction l with
  |nil=>intro _ _;trivial
  |cons env r i =>
   intro d f;obtain⟨h,⟨L,o,a,j,g,hd⟩,hr⟩:=f;have c:L∈X.fs:=d L (by unfold Q1;rw[Y2,a];exact gy);obtain⟨sl,e⟩:=I.base.slot L o g (I.ok.Us L c) c λz=>I.ok.SV L z c;exact⟨h,⟨L,_,a,j,e,hd⟩,i (λb hb=>d b (by unfold Q1;rw[Y2,a];exact eJ _ hb)) hr⟩
 exact all X.outer (λ_ hb=>hb) I.ok.Oe
theorem Inv.stack (I:#[10]):s.heap.FunFrames X.base X.stack:=by
 rcases I.ok.Xr with e |⟨e,b⟩
 ·rw[e];exact I.Oe
 rw[e];obtain⟨m,a,_⟩:=I.loc;refine .cons (by rw[I.ok.kind];decide) b a ?_ I.Oe;exact Heap.get?_none_of_le (hA I.ok.SU I.ok.above)
theorem Inv.Px (I:#[10]):∀ b∈Q1 X.stack,b∈X.env.locals::X.fs:=λb hb=>by
 rcases I.ok.Xr with e |⟨e,a⟩
 ·rw[e] at hb;exact eJ _ hb
 rw[e] at hb;unfold Q1 at hb;rw[Y2,a] at hb;exact hb
theorem Inv.QI (I:#[10]):∀ b∈Q1 X.stack,H b=ay:=λb hb=>by
 rcases f5.mp (I.Px b hb) with e |hb
 ·rw[e];exact I.free
 obtain⟨_,o,a,_⟩:=I.ok.Oe.mem hb;exact I.base.free b o a (I.ok.Us b hb) λz=>I.ok.SV b z hb
theorem Inv.step {g':ib adO}{t':Nat}{d':Drawn}{ch:ak cn}(I:#[10])
  (y:∀ b∈ch,(b∈X.ex∨X.s₀.heap.objs.size<=b)/\b≠X.env.locals/\(∀ x c,#[19]=ag c->c≠b)/\∀ p∈X.pn++pins,p.1≠b)
  (keep:∀ b o,b≠X.env.locals->b∉X.fs->b∉ch->#[18]=ag o->H b=ay->h'.get? b=ag o)
  (slot:∀ b o,b≠X.env.locals->b∈X.fs->b∉ch->#[18]=ag o->H b=ay->∃ sl,h'.get? b=ag { o with slots:=sl }) (free:∀ b o,b∉ch->#[18]=ag o->H b=ay->H' b=ay)
  (there:∀ b o,b∉ch->#[18]=ag o->∃ j,h'.get? b=ag j)
  (Pu:∀ b xs,H b=ag (.tup xs)->H' b=ag (.tup xs)) (O5:∀ b o u,H b=ag (.QH o u)->H' b=ag (.QH o u)) (Pw:∀ b C,H b=ag (.Tz C)->∃ more,H' b=ag (.Tz (C++more)))
  (ns:∀ m,s.heap.Ns X.env.locals m->h'.Ns X.env.locals m) (LX:ND X.prog X.w H' h') (L:Z9 g') :
  Inv X pins σ H' { s with heap:=h',gens:=g',drawn:=d',toks:=t' }:=by
 have F:∀ b o,X.s₀.heap.get? b=ag o->b≠X.env.locals:=λb o e=>nq (ke (eM e) I.ok.above)
 have B:∀ b o,X.s₀.heap.get? b=ag o->b∉X.ex->b∉ch:=λb o e a hb=>by
  rcases (y b hb).1 with z |z
  ·exact a z
  exact ku (ke (eM e) z) (qb _)
 have f:∀ x c,#[19]=ag c->∀ v,s.heap.IsCell c v->h'.IsCell c v:=λx c e v K=>by
  obtain⟨o,h,hd⟩:=K
  have A:c∉ch:=λz=>(y c z).2.2.1 x c e rfl;by_cases hc:c∈X.fs
  ·obtain⟨sl,q⟩:=slot c o (I.Ut x c e) hc A h (I.Nw x c e);exact⟨_,q,hd⟩
  exact⟨o,keep c o (I.Ut x c e) hc A h (I.Nw x c e),hd⟩
 refine⟨I.ok,I.os,L,⟨λb o e n hb a=>?_,λb o e n hb a=>?_,λb o e n a=>?_,λb o e a=>?_,λb xs e=>Pu b xs (I.base.Pu b xs e),λb o xs e=>O5 b o xs (I.base.O5 b o xs e),λb C e=>?_⟩,?_,λx c e=>?_,?_,λx c e=>?_,λp E=>?_,LX,I.len⟩
 ·exact keep b o (F b o e) hb (B b o e a) (I.base.keep b o e n hb a) (I.base.free b o e n a)
 ·obtain⟨sl,g⟩:=I.base.slot b o e n hb a;obtain⟨D,t⟩:=slot b _ (F b o e) hb (B b o e a) g (I.base.free b o e n a);exact⟨D,t⟩
 ·obtain⟨j,g⟩:=I.base.there b o e a;exact free b j (B b o e a) g (I.base.free b o e n a)
 ·obtain⟨j,g⟩:=I.base.there b o e a;exact there b j (B b o e a) g
 ·obtain⟨m1,g⟩:=I.base.Pw b C e;obtain⟨m2,t⟩:=Pw b _ g;exact⟨m1++m2,by rw[t,Array.append_assoc]⟩
 ·obtain⟨m,M,G⟩:=I.loc;refine⟨m,ns m M,λi x v g t J=>?_⟩;obtain⟨u,r,l⟩:=G i x v g t J;refine⟨u,r,?_⟩;rcases l with l |⟨k,c,e,z⟩
  ·exact .inl l
  exact .inr ⟨k,c,e,f x c e _ z⟩
 ·obtain⟨v,z⟩:=I.cell x c e;exact⟨v,f x c e v z⟩
 ·obtain⟨m,⟨o,_,_,h,_⟩,_⟩:=I.loc;exact free _ o (λz=>(y _ z).2.1 rfl) h I.free
 ·obtain⟨v,o,h,hd⟩:=I.cell x c e;exact free c o (λz=>(y c z).2.2.1 x c e rfl) h (I.Nw x c e)
 obtain⟨e,n,ne,nf,d⟩:=I.pin p E;have A:p.1∉ch:=λz=>(y p.1 z).2.2.2 p E rfl;exact⟨keep p.1 p.2 ne nf A e n,free p.1 p.2 A e n,ne,nf,d⟩
theorem Inv.un {t':Nat}(I:#[10])(u:Un X.fs [] H H' s.heap h')(LX:ND X.prog X.w H' h'):Inv X pins σ H' { s with heap:=h',toks:=t' }:=by
 obtain⟨m,⟨o,es,ep,a,r⟩,_⟩:=id I.loc;obtain⟨sl,h⟩:=u.any a I.free #[3]
 exact I.step (g':=s.gens) (d':=s.drawn) (ch:=[]) (λ_ z=>nomatch z) (λb o _ hb _ e n=>u.keep b o e n hb #[3]) (λb o _ hb _ e n=>u.slot b o e n hb #[3]) (λb o _ e n=>u.free b o e n #[3]) (λb o _ e=>u.there b o e #[3]) u.Pu u.O5 u.Pw (λk d=>by
  obtain⟨j,f,g,c,i⟩:=d;rw[a] at c;cases c
  exact⟨_,f,g,h,i⟩) LX I.bare
theorem Inv.call {g':ib adO}{t':Nat}{d':Drawn}{ch:ak cn}(I:#[10])(u:Un (Q1 X.stack) ch H H' s.heap h')(LX:ND X.prog X.w H' h')(j:Z9 g')
  (f:∀ b∈ch,(b∈X.ex∨X.s₀.heap.objs.size<=b)/\b≠X.env.locals/\(∀ x c,#[19]=ag c->c≠b)/\∀ p∈X.pn++pins,p.1≠b) :
  Inv X pins σ H' { s with heap:=h',gens:=g',drawn:=d',toks:=t' }:=by
 obtain⟨m,⟨o,es,ep,d,r⟩,_⟩:=id I.loc;obtain⟨sl,a⟩:=u.any d I.free λz=>(f _ z).2.1 rfl
 exact I.step (ch:=ch) f (λb o a hb hc e n=>u.keep b o e n (λz=>(f5.mp (I.Px b z)).elim a hb) hc) (λb o _ _ hc e n=>u.any e n hc) (λb o hc e n=>u.free b o e n hc) (λb o hc e=>u.there b o e hc) u.Pu u.O5 u.Pw (λt h=>by
  obtain⟨q,i,k,g,l⟩:=h;rw[d] at g;cases g
  exact⟨_,i,k,a,l⟩) LX j
theorem Inv.turned {t':Nat}{it:cn}(I:#[10])(k:∀ b o,b≠it->#[18]=ag o->h'.get? b=ag o)(i:H it=ay)(d:it≠X.env.locals)
  (j:it∈X.ex∨X.s₀.heap.objs.size<=it) (l:∀ x c,#[19]=ag c->c≠it) (h:∀ p∈X.pn++pins,p.1≠it):Inv X pins σ H { s with heap:=h',toks:=t' }:=by
 have a:∀ b u,H b=ag u->b≠it:=λb u e z=>by rw[z,i] at e;cases e
 refine I.step (g':=s.gens) (d':=s.drawn) (ch:=[it]) (λb hb=>?_) (λb o _ _ hc e _=>k b o (λz=>hc (by simp[z])) e) (λb o _ _ hc e _=>⟨o.slots,k b o (λz=>hc (by simp[z])) e⟩) (λ_ _ _ _ n=>n)
  (λb o hc e=>⟨o,k b o (λz=>hc (by simp[z])) e⟩) (λ_ _ e=>e) (λ_ _ _ e=>e) (λb t e=>⟨#[],by rw[e];simp⟩) (λm g=>?_) (λb u e=>?_) I.bare
 ·have e:b=it:=#[16]
  subst e;exact⟨j,d,l,h⟩
 ·obtain⟨o,es,ep,f,r⟩:=g;exact⟨o,es,ep,k _ o (lC d) f,r⟩
 refine(I.LX b u e).OA (λc v hc q=>k c v ?_ q) (λ_ q=>q) λ_ _ q=>q;rcases hc with z |z
 ·rw[z];exact a b u e
 exact a c _ z
theorem Inv.tok (I:#[10])(t:Nat):Inv X pins σ H { s with toks:=t }:=I.un (h':=s.heap) (t':=t) Un.refl I.LX
theorem Inv.kept {t':Nat}(I:#[10])(k:∀ b u,#[18]=ag u->h'.get? b=ag u):Inv X pins σ H { s with heap:=h',toks:=t' }:=I.un (Un.kept k) (I.LX.kept k)
theorem Inv.laid {a:cn}{o:HO}{t':Nat}(I:#[10])(k:∀ b u,#[18]=ag u->h'.get? b=ag u)(c:s.heap.objs.size<=a)(new:L9 X.prog X.w (upd H a o) h' a o) :
  Inv X pins σ (upd H a o) { s with heap:=h',toks:=t' }:=I.un (Un.laid k c (I.LX.fresh c)) (I.LX.laid k c new)
theorem Inv.write {x e:cn}{o:HO}{t':Nat}(I:#[10])(a:VG (H x))(c:e=x∨H e=ag (.own x))(k:∀ b u,b≠e->#[18]=ag u->h'.get? b=ag u)(d:∃ u,h'.get? e=ag u)
  (new:L9 X.prog X.w (upd H x o) h' x o):Inv X pins σ (upd H x o) { s with heap:=h',toks:=t' }:=I.un (Un.write a c k d) (I.LX.write a c k d new)
theorem Inv.NJ {a:Ln}(I:#[10])(h:∀ p∈a,s.heap.get? p.1=ag p.2/\H p.1=ay/\p.1≠X.env.locals/\p.1∉X.fs/\∀ v,p.2.data≠.cell v):Inv X a σ H s:=
 ⟨I.ok,I.os,I.bare,I.base,I.loc,I.cell,I.free,I.Nw,λp b=>(lk.mp b).elim (λz=>I.pin p (U5 _ z)) (h p),I.LX,I.len⟩
theorem ve {N:ak eG}(d:N.Nodup){i j:Nat}{x:eG}(a:N[i]?=ag x)(b:N[j]?=ag x):i=j:=by obtain⟨f,c⟩:=b5.mp a;obtain⟨g,e⟩:=b5.mp b;exact(List.getElem_inj d).mp (c.trans e.symm)
theorem mn {M:Model}{A:jl}{E:Lm}{i:Nat}{x:eG}{v:V}{u:ax}{Q:ab9->cv->Prop}(I:#[10])(Z:X.N.Nodup)(C:X.N[i]?=ag x)(l:Loc X.env.scope x)(r:RelV v u)
  (h:∀ s',Inv X pins (σ.set i (ag v)) H s'->(∃ a,UP a s.heap s'.heap/\(a=X.env.locals∨#[19]=ag a))->Q () s') (hf:X.fn x=ba∨#[21]=ag .local:=by first |exact .inl rfl |exact .inr rfl |assumption):ew M A (storeName X.env x u) Q E s:=by
 obtain⟨m,P,U⟩:=id I.loc;have Yh:(X.env.scope.kind==.class ||(X.env.scope.kind==.module&&X.env.locals != X.env.globals))=b0:=by rw[I.ok.kind];rfl
 have W:i < σ.length:=by rw[I.len];exact(b5.mp C).1
 have Ut:=I.Ut
 have tracked:∀ {a:cn}{h':kx},(∃ o,s.heap.get? a=ag o/\H a=ay)->UP a s.heap h'->ND X.prog X.w H h':=λ{a h'} ha f b ob e=>by
  obtain⟨_,_,Pg⟩:=ha;refine(I.LX b ob e).OA (λc F hc q=>(f.2 c ?_).trans q) (λ_ q=>q) λ_ _ q=>q;rintro rfl;rcases hc with rfl |hc
  ·rw[Pg] at e;cases e
  rw[Pg] at hc;cases hc
 rcases l with hk |hk
 ·refine wpAny_storeName_local hk P (λh' R f=>?_) Yh;obtain⟨oL,_,_,Q4,_⟩:=id P;refine h _ ⟨I.ok,I.os,I.bare,⟨λb o e n hb l=>?_,λb o e n hb l=>?_,I.base.free,λb o e l=>?_,I.base.Pu,I.base.O5,I.base.Pw⟩,⟨_,R,λj y O g t S=>?_⟩,λy c e=>?_,I.free,I.Nw,λp L=>?_,tracked ⟨oL,Q4,I.free⟩ f,by simpa using I.len⟩ ⟨_,f,#[9]⟩
  ·exact(f.2 b (nq (ke (eM e) I.ok.above))).trans (I.base.keep b o e n hb l)
  ·obtain⟨sl,g⟩:=I.base.slot b o e n hb l;exact⟨sl,(f.2 b (nq (ke (eM e) I.ok.above))).trans g⟩
  ·obtain⟨G,g⟩:=I.base.there b o e l;exact⟨G,(f.2 b (nq (ke (eM e) I.ok.above))).trans g⟩
  ·by_cases B:j=i
   ·subst B;rw[C] at g;cases g;rw[L1 W] at t;cases t;exact⟨u,r,.inl ⟨hk,by simp⟩⟩
   rw[TL (lC B)] at t;obtain⟨K,J,q⟩:=U j y O g t S;refine⟨K,J,?_⟩;rcases q with ⟨k,e⟩ |⟨k,c,e,z⟩
   ·refine .inl ⟨k,?_⟩;have:y≠x:=λe=>B (ve Z g (e▸C));simp[this,e]
   exact .inr ⟨k,c,e,z.sameBut f (Ut y c e)⟩
  ·obtain⟨F,z⟩:=I.cell y c e;exact⟨F,z.sameBut f (Ut y c e)⟩
  obtain⟨e,n,ne,nf,d⟩:=I.pin p L;exact⟨(f.2 p.1 ne).trans e,n,ne,nf,d⟩
 have T:X.fn x=ba:=by
  rcases hf with z |z
  ·exact z
  rw[z] at hk;cases hk
 obtain⟨c,hc⟩:=I.ok.has x (.inl hk);obtain⟨F,z⟩:=I.cell x c hc;refine wpAny_storeName_cell I.ok.kind hk hc z (λh' O6 f=>?_);obtain⟨oc,Y,Yj⟩:=id z;refine h { s with heap:=h' } ⟨I.ok,I.os,I.bare,⟨λb o e n hb l=>?_,λb o e n hb l=>?_,I.base.free,λb o e l=>?_,I.base.Pu,I.base.O5,I.base.Pw⟩,⟨m,P.sameBut f (lC (Ut x c hc)),λj y O g t S=>?_⟩,λy D e=>?_,I.free,I.Nw,λp L=>?_,tracked ⟨oc,Y,I.Nw x c hc⟩ f,by simpa using I.len⟩ ⟨c,f,.inr hc⟩
 ·exact(f.2 b (nq (ke (eM e) (I.ok.VL x c T hc)))).trans (I.base.keep b o e n hb l)
 ·obtain⟨sl,g⟩:=I.base.slot b o e n hb l;exact⟨sl,(f.2 b (nq (ke (eM e) (I.ok.VL x c T hc)))).trans g⟩
 ·obtain⟨G,g⟩:=I.base.there b o e l;exact⟨G,(f.2 b (nq (ke (eM e) (I.ok.VL x c T hc)))).trans g⟩
 ·by_cases B:j=i
  ·subst B;rw[C] at g;cases g;rw[L1 W] at t;cases t;exact⟨u,r,.inr ⟨.inl hk,c,hc,O6⟩⟩
  rw[TL (lC B)] at t;obtain⟨K,J,q⟩:=U j y O g t S;refine⟨K,J,?_⟩;rcases q with q |⟨k,D,e,z'⟩
  ·exact .inl q
  refine .inr ⟨k,D,e,z'.sameBut f ?_⟩;rintro rfl;exact B (ve Z g (I.ok.inj _ _ _ e hc▸C))
 ·by_cases Rz:D=c
  ·subst Rz;exact⟨_,O6⟩
  obtain⟨w2,z2⟩:=I.cell y D e;exact⟨w2,z2.sameBut f Rz⟩
 obtain⟨e,n,ne,nf,d⟩:=I.pin p L;refine⟨(f.2 p.1 ?_).trans e,n,ne,nf,d⟩;intro q;rw[q,Y] at e;have q':oc=p.2:=ja e;exact d F (by rw[← q'];exact Yj)
theorem oU {M:Model}{A:jl}{E:Lm}{i:Nat}{x:eG}{v:V}{u:ax}{Q:ab9->cv->Prop}(I:#[10])(c:X.N.Nodup)(a:X.N[i]?=ag x)(e:Loc X.env.scope x)(r:RelV v u)
  (h:∀ s',Inv X pins (σ.set i (ag v)) H s'->Q () s') (d:X.fn x=ba∨#[21]=ag .local:=by first |exact .inl rfl |exact .inr rfl |assumption):ew M A (storeName X.env x u) Q E s:=
 mn I c a e r (λs' b _=>h s' b) d
theorem Inv.VO {s':cv}{ch:ak cn}(I:#[10])(g:s'.os=s.os)(u:Un (Q1 X.stack) ch H H' s.heap s'.heap)(LX:ND X.prog X.w H' s'.heap)(a:Z9 s'.gens)
  (f:∀ b∈ch,(b∈X.ex∨X.s₀.heap.objs.size<=b)/\b≠X.env.locals/\(∀ x c,#[19]=ag c->c≠b)/\∀ p∈X.pn++pins,p.1≠b):Inv X pins σ H' s':=by
 obtain⟨h',g',d',t',d⟩:=s';have e:d=s.os:=g;subst e;exact I.call (g':=g') (t':=t') (d':=d') u LX a f
end
abbrev XK:=ax->a9 cn->Hp->Prop
abbrev St:=ak (a9 V)
abbrev VK:=V->Hp->Prop
abbrev TE:=St->Hp->VK->Prop
abbrev TT:=St->Hp->(fg->Hp->Prop)->Prop
abbrev TA:=St->Hp->(ak V->Hp->Prop)->Prop
structure Ends where
 nx:St->Hp->Prop
 rt:VK
 bk:St->Hp->Prop:=λ_ _=>False
 ct:St->Hp->Prop:=λ_ _=>False
abbrev TS:=Ends->St->Hp->Prop
def EP (X:Cx)(a:Ln)(c:St)(Q:VK)(u:ax)(s':cv):Prop:=∃ v b,Inv X a c b s'/\RelV v u/\Q v b
def TP (X:Cx)(a:Ln)(d:St)(Q:fg->Hp->Prop)(b:fg)(s':cv):Prop:=∃ c,Inv X a d c s'/\Q b c
def AP (X:Cx)(a:Ln)(d:St)(Q:ak V->Hp->Prop)(us:ak ax)(s':cv):Prop:=∃ c b,Inv X a d b s'/\Vals c us/\Q c b
def SP (X:Cx)(b:Ln)(D:Ends)(f:Flow)(s':cv):Prop:=
 match f with
 | .next => ∃ a c,Inv X b a c s'/\D.nx a c
 | .brk => ∃ a c,Inv X b a c s'/\D.bk a c
 | .cont => ∃ a c,Inv X b a c s'/\D.ct a c
 | .ret u => ∃ v a c,Inv X b a c s'/\RelV v u/\D.rt v c
def PE (X:Cx)(e:hL)(t:TE):Prop:=
 ∀ (a:Ln) (s:cv) (b:St) (H:Hp) (Q:VK),Inv X a b H s->t b H Q->ew #[8] X.A (sY e X.env) (EP X a b Q) X.xe s
def PT (X:Cx)(e:hL)(t:TT):Prop:=
 ∀ (a:Ln) (s:cv) (b:St) (H:Hp) (Q:fg->Hp->Prop),Inv X a b H s->t b H Q->ew #[8] X.A (isTrue e X.env (sY e X.env)) (TP X a b Q) X.xe s
def PW (X:Cx)(e:hL)(t:TT):Prop:=
 ∀ (whole:Sem ax) (a:Ln) (s:cv) (b:St) (H:Hp) (Q:fg->Hp->Prop),Inv X a b H s->t b H Q->ew #[8] X.A (isTrue e X.env whole) (TP X a b Q) X.xe s
theorem PW.pt {X:Cx}{e:hL}{t:TT}(h:PW X e t):PT X e t:=h _
def PA (X:Cx)(es:ak hL)(t:TA):Prop:=
 ∀ (pos:UK) (a:Ln) (s:cv) (b:St) (H:Hp) (Q:ak V->Hp->Prop),Inv X a b H s->t b H Q->ew #[8] X.A (spliced (tw pos (eK es X.env))) (AP X a b Q) X.xe s
def PS (X:Cx)(st:r4)(t:TS):Prop:=
 ∀ (a:Ln) (s:cv) (b:St) (H:Hp) (D:Ends),Inv X a b H s->t D b H->ew #[8] X.A (exec st X.env) (SP X a D) X.xe s
def Qi (X:Cx)(st:ak r4)(t:TS):Prop:=
 ∀ (a:Ln) (s:cv) (b:St) (H:Hp) (D:Ends),Inv X a b H s->t D b H->ew #[8] X.A (execs st X.env) (SP X a D) X.xe s
theorem LR {α:Type}{t:Sem α}{Q b : α->cv->Prop}{M:Model}{A:jl}{E:Lm}{s:cv}(h:ew M A t Q E s)(c:∀ a s,Q a s->b a s):ew M A t b E s:=yk h c λ_ _ x=>x
section
variable {X:Cx}
theorem bin {a b:hL}{n m:TE}(z:PE X a n)(hb:PE X b m){c:Ln}{s:cv}{d:St}{H:Hp}{R:V->V->Hp->Prop}(I:Inv X c d H s)(h:n d H λx l=>m d l λy e=>R x y e)
  {α:Type}{Q : α->cv->Prop}{f:ax->ax->Sem α}
  (q:∀ v u j x y e,Inv X c d e j->RelV x v->RelV y u->R x y e->ew #[8] X.A (f v u) Q X.xe j) :
  ew #[8] X.A (sY a X.env) (λv i=>ew #[8] X.A (sY b X.env) (λu g=>ew #[8] X.A (f v u) Q X.xe g) X.xe i) X.xe s:=by
 refine LR (z c s d H _ I h) λv t k=>?_;obtain⟨x,l,B,r,o⟩:=k;refine LR (hb c t d l _ B o) λu j k=>?_;obtain⟨y,e,D,C,p⟩:=k;exact q v u j x y e D r C p
noncomputable def HV (i:Nat):TE:=λa H Q => ∃ v,a[i]?=ag (ag v)/\Q v H
noncomputable def tC (v:V):TE:=λ_ H Q=>Q v H
theorem Cz {i:Nat}{x:eG}{pos:UK}(f:X.N[i]?=ag x)(d:VJ X.env.scope x)(hd:(x==("__debug__":eG))=b0:=by decide)(k:(x==("__classdict__":eG))=b0:=by decide):PE X (.Name x pos) (HV i):=by
 intro a s n H Q I h;obtain⟨v,e,h⟩:=h;obtain⟨m,o,g⟩:=I.loc;obtain⟨u,r,l⟩:=g i x v f e d;have fin:EP X a n Q u s:=⟨v,H,I,r,h⟩;rcases l with ⟨hk,j⟩ |⟨hk,c,hc,b⟩
 ·exact adP (abr I.ok.kind hk o j fin) hd
 rcases hk with hk |hk
 ·exact adP (ab_ I.ok.kind hk hc b fin) hd
 exact adP (wpAny_loadName_free I.ok.kind hk hc b fin k) hd
theorem Uu {i j pos}:PE X (.Constant (.int i) j pos) (tC (.int i)):=λ_ _ _ H _ I h=>wpAny_Constant_int ⟨.int i,H,I.tok _,⟨_,rfl⟩,h⟩
theorem VP {b j pos}:PE X (.Constant (.bool b) j pos) (tC (.bl b)):=λ_ _ _ H _ I h=>Constant_bool ⟨.bl b,H,I,rfl,h⟩
theorem Uv {j pos}:PE X (.Constant .none j pos) (tC .LN):=λ_ _ _ H _ I h=>Constant_none ⟨.LN,H,I,rfl,h⟩
theorem Uw {x j pos}:PE X (.Constant (.str x) j pos) (tC (.str x)):=λ_ _ _ H _ I h=>Calls.Constant_str ⟨.str x,H,I.tok _,⟨_,rfl⟩,h⟩
def Gl (X:Cx)(x:eG):Prop:=X.env.kindOf x=ag .globalImplicit
theorem zp {E:Lm}{a:Ln}{s:cv}{c:St}{H:Hp}{x:eG}{u:ax}{pos:UK}{Q:Lm}(I:Inv X a c H s)(d:Gl X x)(b:X.mg x=ag u)(h:Q u s)
  (hd:(x==("__debug__":eG))=b0:=by decide):ew #[8] X.A (sY (.Name x pos) X.env) Q E s:=
 Zj I.ok.kind d (Calls.loadGlobal_global (by rw[I.ok.glob];exact I.mod.glob.keeps I.bk) b h) hd
theorem kD {E:Lm}{a:Ln}{s:cv}{d:St}{H:Hp}{x:eG}{u:ax}{pos:UK}{Q:Lm}(I:Inv X a d H s)(e:Gl X x)(c:X.mg x=ay)(b:uk x=ag u)(h:Q u s)
  (f:x≠"__name__":=by decide) (hd:(x==("__debug__":eG))=b0:=by decide):ew #[8] X.A (sY (.Name x pos) X.env) Q E s:=by
 obtain⟨j,g,i⟩:=I.mod.blt;exact Zj I.ok.kind e (Calls.loadGlobal_builtin (by rw[I.ok.glob];exact I.mod.glob.keeps I.bk) c (by rw[I.ok.blt];exact g.keeps I.bk) ((i x f).trans b) h) hd
variable {a b:hL}{ta tb:TE}{pos:UK}
def PC (X:Cx)(op:acQ)(a b:hL)(t:TE):Prop:=
 ∀ (c:Ln) (s:cv) (f:St) (H:Hp) (Q:VK),Inv X c f H s->t f H Q ->
  ew #[8] X.A (sY a X.env) (λv e=>ew #[8] X.A (sY b X.env) (λu d=>ew #[8] X.A (qa op v u) (EP X c f Q) X.xe d) X.xe e) X.xe s
theorem vf (b:hL){op:acQ}(h:op≠.In)(d:op≠.NotIn):q7 op b=b0:=by
 have a:(op==CmpOp.In)=b0:=by cases op<;>first |rfl |exact ku rfl h
 have c:(op==CmpOp.NotIn)=b0:=by cases op<;>first |rfl |exact ku rfl d
 cases b<;>simp[q7,a,c]
noncomputable def tB (t:TE):TT:=λa H Q=>t a H λx b => ∃ c,x = .bl c/\Q c b
theorem GO {op:acQ}{t:TE}(h:PC X op a b t)(f:q7 op b=b0:=by first |exact vf _ (by decide) (by decide) |rfl):PE X (.Compare a [op] [b] pos) t:=λc s d H Q I e=>wpAny_Compare1 (h c s d H Q I e) f
theorem xu {op:acQ}{t:TE}(h:PC X op a b t)(f:q7 op b=b0:=by first |exact vf _ (by decide) (by decide) |rfl):PT X (.Compare a [op] [b] pos) (tB t):=by intro e s j H Q I m;refine abi (LR (h e s j H _ I m) λv r f=>LR f λu p o=>LR o λc w i=>?_) f;obtain⟨x,k,n,l,g⟩:=i;obtain⟨d,rfl,q⟩:=g;cases l;exact Qs ⟨k,n,q⟩
theorem GB {e:hL}{t:TE}(h:PE X e t)(j:∀ whole,isTrue e X.env whole=(do let v ← whole;abY e.pos;V2 [v] (truthy v)):=by intro _;rfl):PT X e (tB t):=by intro a s f H Q I k;refine isTrue_plain (LR (h a s f H _ I k) λv m c=>?_) (j _);obtain⟨x,g,l,i,b⟩:=c;obtain⟨d,rfl,q⟩:=b;cases i;exact Qs ⟨g,l,q⟩
variable {tA Xt:TT}{rest:ak hL}
noncomputable def JQ (t u:TT):TT:=λa H Q=>t a H λc b=>if c=ba then u a b Q else Q b0 b
noncomputable def tOr (t u:TT):TT:=λa H Q=>t a H λc b=>if c=ba then Q ba b else u a b Q
noncomputable def JK (t:TT):TT:=λa H Q=>t a H λc b=>Q (!c) b
theorem Eu (f:PT X a tA):PW X (.BoolOp .And [a] pos) tA:=by
 intro i b s d H Q I h;refine isTrue_and (LR (f b s d H Q I h) λc g e=>?_);cases c with
 |true=>exact isTrue_and_nil e
 |false=>exact e
theorem Gx (f:PT X a tA):PW X (.BoolOp .Or [a] pos) tA:=by
 intro i b s d H Q I h;refine isTrue_or (LR (f b s d H Q I h) λc g e=>?_);cases c with
 |false=>exact isTrue_or_nil e
 |true=>exact e
theorem Gy (m:PT X a tA)(hb:PW X (.BoolOp .And (b::rest) pos) Xt):PW X (.BoolOp .And (a::b::rest) pos) (JQ tA Xt):=by
 intro k d s f H Q I h;refine isTrue_and (LR (m d s f H _ I h) λc l j=>?_);obtain⟨g,i,e⟩:=j;cases c with
 |true=>exact hb k d l f g Q i e
 |false=>exact⟨g,i,e⟩
theorem Ip (m:PT X a tA)(hb:PW X (.BoolOp .Or (b::rest) pos) Xt):PW X (.BoolOp .Or (a::b::rest) pos) (tOr tA Xt):=by
 intro k d s f H Q I h;refine isTrue_or (LR (m d s f H _ I h) λc l j=>?_);obtain⟨g,i,e⟩:=j;cases c with
 |true=>exact⟨g,i,e⟩
 |false=>exact hb k d l f g Q i e
theorem GC (f:PT X a tA):PT X (.UnaryOp .Not a pos) (JK tA):=by intro b s e H Q I h;exact isTrue_not (f b s e H (λc d=>Q (!c) d) I h)
noncomputable def tIf (t:TT)(ta tb:TE):TE:=λa H Q=>t a H λc b=>if c=ba then ta a b Q else tb a b Q
theorem CC {c:hL}(hc:PT X c tA)(m:PE X a ta)(hb:PE X b tb):PE X (.IfExp c a b pos) (tIf tA ta tb):=by
 intro e s f H Q I h;refine wpAny_IfExp (LR (hc e s f H _ I h) λd j l=>?_);obtain⟨i,k,g⟩:=l;cases d with
 |true=>exact m e j f i Q k g
 |false=>exact hb e j f i Q k g
end
def OC (K:Ll)(H:Hp)(a:cn)(xs:ak V):Prop:=
 Rd H a (.lst xs) ∨
  ∃ (o:Obj) (its:ib ax) (n:Nat),K.lookup a=ag o/\o.cls = #[13]/\o.dict=ay/\o.data = .seq its n/\its.size<=d4/\Vals xs its.toList
def O2 (K:Ll)(H:Hp)(a:cn)(xs:ak V):Prop:=
 Rd H a (.tup xs) ∨
  ∃ (o:Obj) (its:ib ax) (n:Nat),K.lookup a=ag o/\o.cls = .type "tuple"/\o.data = .seq its n/\its.size<=d4/\Vals xs its.toList
noncomputable def Ku:ax->a9 V
 | .none=>ag .LN
 | .bool b=>ag (.bl b)
 | .int i _=>ag (.int i)
 | .str x _=>ag (.str x)
 | .bytes b _=>ag (.Xp b)
 | .float b _=>ag (.Vd b)
 | .ref a=>ag (.ref a)
 | .type n=>ag (.ty n)
 |_=>ay
theorem RelV.abs {x:V}{u:ax}(r:RelV x u):Ku u=ag x:=by
 cases x with
 |LN=>cases r;rfl
 |bl _=>cases r;rfl
 |int _=>obtain⟨t,rfl⟩:=r;rfl
 |str _=>obtain⟨t,rfl⟩:=r;rfl
 |Xp _=>obtain⟨t,rfl⟩:=r;rfl
 |Vd _=>obtain⟨t,rfl⟩:=r;rfl
 |ref _=>cases r;rfl
 |ty _=>cases r;rfl
theorem RelV.inj {x y:V}{u:ax}(r:RelV x u)(q:RelV y u):x=y:=ja (r.abs.symm.trans q.abs)
theorem Vals.inj:∀ {xs ys:ak V}{us:ak ax},Vals xs us->Vals ys us->xs=ys
 |_,_,_,.nil,.nil=>rfl
 |_,_,_,.cons r t,.cons a b=>by rw[r.inj a,Vals.inj t b]
section
variable {X:Cx}{pins:Ln}{σ:St}{H:Hp}{s:cv}{a:cn}{xs ys:ak V}
theorem Inv.list (I:#[10])(h:OC X.K H a xs):∃ its:ak ax,Vals xs its/\PlainL s.heap a its.toArray/\xs.length<=d4:=by
 rcases h with h |⟨o,its,n,c,hc,hd,b,d,r⟩
 ·obtain⟨z,its,n,r,e⟩:=h.ok I.LX;exact⟨its,r,⟨_,n,e,rfl,rfl,rfl⟩,z⟩
 refine⟨its.toList,r,⟨o,n,I.Q3 a o c,hc,hd,by simpa using b⟩,?_⟩;have e:=r.length;simp only[ky] at e;omega
theorem Inv.tuple (I:#[10])(h:O2 X.K H a xs):∃ its:ak ax,Vals xs its/\aci s.heap a its.toArray/\xs.length<=d4:=by
 rcases h with h |⟨o,its,n,c,hc,b,d,r⟩
 ·obtain⟨z,its,r,p⟩:=h.ok I.LX;exact⟨its,r,p.tup,z⟩
 refine⟨its.toList,r,⟨o,I.Q3 a o c,hc,n,by simpa using b⟩,?_⟩;have e:=r.length;simp only[ky] at e;omega
theorem Inv.OD (I:#[10])(h:OC X.K H a xs)(h':OC X.K H a ys):xs=ys:=by
 obtain⟨its,r,⟨o,n,e,_,_,d⟩,_⟩:=I.list h;obtain⟨b,g,⟨k,j,f,_,_,c⟩,_⟩:=I.list h';rw[e] at f;cases f;rw[d] at c;injection c with i _
 have:its=b:=by simpa using zc aet i
 subst this;exact r.inj g
theorem Inv.NV (I:#[10])(h:O2 X.K H a xs)(h':O2 X.K H a ys):xs=ys:=by
 obtain⟨its,r,⟨o,e,_,n,d⟩,_⟩:=I.tuple h;obtain⟨b,g,⟨k,f,_,j,c⟩,_⟩:=I.tuple h';rw[e] at f;cases f;rw[d] at c;injection c with i _
 have:its=b:=by simpa using zc aet i
 subst this;exact r.inj g
end
abbrev Cx.O7 (X:Cx)(E:Lm):Cx:={ X with xe:=E }
abbrev Cx.SY (X:Cx):Cx:=X.O7 λ_ _=>False
theorem Cx.Ok.O7 {X:Cx}(ok:X.Ok)(E:Lm):(X.O7 E).Ok:=
 ⟨ok.mod,ok.kind,ok.glob,ok.blt,ok.above,ok.inj,ok.has,ok.VL,ok.hd,ok.frames,ok.Xr,ok.Z3,ok.bs,ok.SU,ok.RV,ok.SV,ok.Oe,ok.Us⟩
theorem Cx.Ok.Nd {X:Cx}{E:Lm}(ok:(X.O7 E).Ok):X.Ok:=
 ⟨ok.mod,ok.kind,ok.glob,ok.blt,ok.above,ok.inj,ok.has,ok.VL,ok.hd,ok.frames,ok.Xr,ok.Z3,ok.bs,ok.SU,ok.RV,ok.SV,ok.Oe,ok.Us⟩
section
variable {X:Cx}{pins:Ln}{σ:St}{H:Hp}{s:cv}{E:Lm}
theorem Inv.O7 (I:#[10])(E:Lm):Inv (X.O7 E) pins σ H s:=⟨I.ok.O7 E,I.os,I.bare,I.base,I.loc,I.cell,I.free,I.Nw,I.pin,I.LX,I.len⟩
theorem Inv.Nd (I:Inv (X.O7 E) pins σ H s):#[10]:=⟨I.ok.Nd,I.os,I.bare,I.base,I.loc,I.cell,I.free,I.Nw,I.pin,I.LX,I.len⟩
theorem SP.Nd {D:Ends}{f:Flow}{s':cv}(h:SP (X.O7 E) pins D f s'):SP X pins D f s':=by
 cases f with
 |next=>obtain⟨a,b,I,q⟩:=h;exact⟨a,b,I.Nd,q⟩
 |brk=>obtain⟨a,b,I,q⟩:=h;exact⟨a,b,I.Nd,q⟩
 |cont=>obtain⟨a,b,I,q⟩:=h;exact⟨a,b,I.Nd,q⟩
 |ret u=>obtain⟨v,a,b,I,r,q⟩:=h;exact⟨v,a,b,I.Nd,r,q⟩
theorem Qi.SY {st:ak r4}{t:TS}(h:Qi X.SY st t):Qi X st t:=λpins s σ H D I a =>
 yk (h pins s σ H D (I.O7 _) a) (λ_ _ q=>q.Nd) λ_ _ z=>QN z
end
section
variable {X:Cx}{st:r4}{rest:ak r4}{t u:TS}{e:hL}{te:TE}{pos:UK}
noncomputable def HY:TS:=λD a H=>D.nx a H
noncomputable def HW (t u:TS):TS:=λD a H=>t { D with nx:=u D } a H
theorem S5:Qi X [] HY:=λ_ _ a H _ I h=>Y0 ⟨a,H,I,h⟩
theorem Cp (i:PS X st t)(j:Qi X rest u):Qi X (st::rest) (HW t u):=by
 intro a s c H D I h;refine wpAny_execs_cons (LR (i a s c H { D with nx:=u D } I h) λf e q=>?_);cases f with
 |next =>
  obtain⟨b,d,g,q⟩:=q;exact j a e b d D g q
 |ret v=>exact q
 |brk=>exact q
 |cont=>exact q
theorem Ez (c:PS X st t):Qi X [st] t:=by
 intro a s b H D I h;refine wpAny_execs_cons (LR (c a s b H D I h) λf d q=>?_);cases f with
 |next=>exact Y0 q
 |ret v=>exact q
 |brk=>exact q
 |cont=>exact q
theorem Inv.quiet {a:Ln}{b:St}{H:Hp}{s:cv}(I:Inv X a b H s):interactive X.env=b0:=by simp[interactive,I.ok.kind]
noncomputable def H_ (te:TE):TS:=λD a H=>te a H λ_ b=>D.nx a b
theorem EB (i:PE X e te)(d:Uy e ay pos.line X.env=y8 b0:=by rfl):PS X (.Expr e pos) (H_ te):=by intro a s b H D I h;exact wpAny_Expr_any (LR (i a s b H _ I h) λv j ⟨x,c,g,k,f⟩=>⟨b,c,g,f⟩) I.quiet d
noncomputable def JJ (te:TE):TS:=λD a H=>te a H D.rt
theorem GE (g:PE X e te):PS X (.Return (ag e) pos) (JJ te):=by intro a s b H D I h;exact wpAny_Return_some (LR (g a s b H _ I h) λv j ⟨x,c,f,i,d⟩=>⟨x,b,c,f,i,d⟩)
noncomputable def JM (c:TT)(t u:TS):TS:=λD a H=>c a H λb d=>if b=ba then t D a d else u D a d
theorem Iq {c:hL}{a b:ak r4}{k:TT}(hc:PT X c k)(n:Qi X a t)(hb:Qi X b u):PS X (.If c a b pos) (JM k t u):=by
 intro e s f H D I h;refine wpAny_If (LR (hc e s f H _ I h) λd j m=>?_);obtain⟨i,l,g⟩:=m;cases d with
 |true=>exact n e j f i D l g
 |false=>exact hb e j f i D l g
end
abbrev TG:=V->St->Hp->(St->Hp->Prop)->Prop
abbrev S6:=ak V->St->Hp->(St->Hp->Prop)->Prop
def PG (X:Cx)(target:hL)(t:TG):Prop:=
 ∀ (a:Ln) (s:cv) (c:St) (H:Hp) (v:V) (u:ax) (Q:St->Hp->Prop),Inv X a c H s->RelV v u->t v c H Q ->
  ew #[8] X.A (WM target X.env u) (λ_ e => ∃ b d,Inv X a b d e/\Q b d) X.xe s
def TB (X:Cx)(ts:ak hL)(t:S6):Prop:=
 ∀ (a:Ln) (s:cv) (c:St) (H:Hp) (e:ak V) (f:ak ax) (Q:St->Hp->Prop),Inv X a c H s->Vals e f->t e c H Q ->
  ew #[8] X.A (assignInOrder ((Ss ts X.env).map (·.2)) f) (λ_ g => ∃ b d,Inv X a b d g/\Q b d) X.xe s
abbrev DS:=V->V->V->Hp->(Hp->Prop)->Prop
def HF (X:Cx)(t:DS):Prop:=
 ∀ (a:Ln) (s:cv) (c:St) (H:Hp) (o i v:V) (b e u:ax) (Q:Hp->Prop),Inv X a c H s->RelV o b->RelV i e->RelV v u->t o i v H Q ->
  ew #[8] X.A (abZ b e u) (λ_ f => ∃ d,Inv X a c d f/\Q d) X.xe s
abbrev Ux:=V->V->Hp->VK->Prop
def Xu (X:Cx)(op:acR)(t:Ux):Prop:=
 ∀ (a:Ln) (s:cv) (b:St) (H:Hp) (x y:V) (v u:ax) (Q:VK),Inv X a b H s->RelV x v->RelV y u->t x y H Q ->
  ew #[8] X.A (inplaceOp op v u) (EP X a b Q) X.xe s
section
variable {X:Cx}{pos:UK}
noncomputable def F0 (i:Nat):TG:=λv a H Q=>Q (a.set i (ag v)) H
theorem EI {i:Nat}{x:eG}(b:X.N.Nodup)(e:X.N[i]?=ag x)(c:Loc X.env.scope x)(d:X.fn x=ba∨#[21]=ag .local:=by first |exact .inl rfl |exact .inr rfl |assumption):PG X (.Name x pos) (F0 i):=by intro a s j H v u Q I r h;exact Z_ (oU I b e c r (λg f=>⟨_,H,f,h⟩) d)
noncomputable def J6:S6:=λa b H Q=>a=[]/\Q b H
noncomputable def IX (t:TG)(u:S6):S6:=λd c H Q => ∃ v r,d=v::r/\t v c H λa b=>u r a b Q
theorem S7:TB X [] J6:=by intro a s b H c d Q I r h;obtain⟨e,h⟩:=h;subst e;cases r;exact assignInOrder_nil ⟨b,H,I,h⟩
theorem Cy {e:hL}{es:ak hL}{t:TG}{u:S6}(m:PG X e t)(n:TB X es u)
  (k:(Ss (e::es) X.env).map (·.2)=WM e X.env::(Ss es X.env).map (·.2):=by rfl):TB X (e::es) (IX t u):=by
 intro a s g H p q Q I r h;obtain⟨v,w,c,h⟩:=h;subst c;cases r with
 |cons r l =>
  rw[k];refine assignInOrder_cons (LR (m a s g H _ _ _ I r h) λ_ j f=>?_);obtain⟨b,i,o,d⟩:=f;exact n a j b i _ _ Q o l d
noncomputable def J4 (K:Ll)(n:Nat)(t:S6):TG:=λv c H Q => ∃ a b,v = .ref a/\O2 K H a b/\b.length=n/\t b c H Q
theorem GK {es:ak hL}{k:Nat}{t:S6}{n:Nat}(hc:X.calm=ba)(h:TB X es t)
  (w:(Ss es X.env).length=n:=by rfl) (y:(Ss es X.env).findIdx? (·.1)=ay:=by rfl):PG X (.Tuple es k pos) (J4 X.K n t):=by
 intro c s f H v u Q I r d;obtain⟨a,l,i,m,j,d⟩:=d;subst i;cases r;obtain⟨its,g,q,A⟩:=I.tuple m;refine assign_Tuple_tuple (I.ok.hd hc) q (by simp[w,← j,g.length]) y λx p=>?_;have z:Inv X c f H { s with heap:=x }:=I.kept (t':=s.toks) λb o e=>p b o (nq (eM e)) e;exact h c _ f H l _ Q z (by simpa using g) d
noncomputable def J5 (to c:TE)(t:DS):TG:=λv a H Q=>to a H λo b=>c a b λi d=>t o i v d λe=>Q a e
theorem GL {o i:hL}{to f:TE}{t:DS}(l:PE X o to)(B:PE X i f)(D:HF X t)
  (z:∀ v,WM (.Subscript o i pos) X.env v=(do
   let b ← V2 [v] (sY o X.env);let c ← V2 [v,b] (sY i X.env)
   abY pos
   V2 [v,b,c] (abZ b c v)
   release [v,b,c] []):=by intro _;rfl):PG X (.Subscript o i pos) (J5 to f t):=by
 intro a s e H v u Q I r h;rw[z];refine av (A2 (LR (l a s e H _ I h) λb q d=>?_));obtain⟨x,m,E,p,k⟩:=d;refine av (A2 (LR (B a q e m _ E k) λc g d=>?_));obtain⟨y,w,G,F,n⟩:=d;refine av (aan (av (A2 (LR (D a g e w x y v b c u _ G p F r n) λ_ J d=>?_))));obtain⟨j,A,C⟩:=d;exact wpAny_release ⟨e,j,A,C⟩
noncomputable def Ig (b:TE)(g:TG):TS:=λD a H=>b a H λx c=>g x a c D.nx
theorem Cr {b e:hL}{d:TE}{g:TG}(n:PE X e d)(j:PG X b g)(o:acj [b] e pos.line X.env=y8 b0:=by rfl)(p:ack [b] e X.env=y8 ay:=by rfl)
  (t:(Ss [b] X.env).map (·.2)=[WM b X.env]:=by rfl):PS X (.Assign [b] e pos) (Ig d g):=by
 intro a s c H D I h;refine wpAny_Assign_stores (LR (n a s c H _ I h) λv m i=>?_) o p;obtain⟨x,k,r,l,f⟩:=i;rw[t];exact LR (j a m c k x v _ r l f) λ_ u q=>q
theorem GD {i:Nat}{x:eG}{e:hL}{c:TE}{a:UK}(d:X.N.Nodup)(p:X.N[i]?=ag x)(l:Loc X.env.scope x)(o:PE X e c)(q:Uy e (ag (.Name x a)) pos.line X.env=y8 b0:=by rfl)(m:X.fn x=ba∨#[21]=ag .local:=by first |exact .inl rfl |exact .inr rfl |assumption) :
  PS X (.Assign [.Name x a] e pos) (Ig c (F0 i)):=by
 intro b s j H D I h;refine wpAny_Assign_Name (LR (o b s j H _ I h) λv w g=>?_) q;obtain⟨y,k,r,n,f⟩:=g;exact oU r d p l n (λu t=>⟨_,k,t,f⟩) m
noncomputable def JP (i:Nat)(b:TE)(e:Ux):TS:=λD a H => ∃ x,a[i]?=ag (ag x)/\b a H λy d=>e x y d λz c=>D.nx (a.set i (ag z)) c
theorem GH {i:Nat}{x:eG}{e:hL}{q:TE}{op:acR}{p:Ux}{b:UK}(C:X.N.Nodup)(t:X.N[i]?=ag x)(n:Loc X.env.scope x)(S:PE X e q)(G:Xu X op p)(O:X.fn x=ba∨#[21]=ag .local:=by first |exact .inl rfl |exact .inr rfl |assumption) :
  PS X (.AugAssign (.Name x b) op e pos) (JP i q p):=by
 intro a s o H D I h;obtain⟨v,B,h⟩:=h;obtain⟨m,U,F⟩:=I.loc;have g:VJ X.env.scope x:=by rcases n with k |k;exact .inl k;exact .inr (.inl k)
 obtain⟨u,r,l⟩:=F i x v t B g;refine wpAny_AugAssign_Name ?_;have go:ew #[8] X.A (sY e X.env) (λw d=>ew #[8] X.A (inplaceOp op u w) (λr f=>ew #[8] X.A (storeName X.env x r) (λ_=>SP X a D .next) X.xe f) X.xe d) X.xe s:=by refine LR (S a s o H _ I h) λw Q j=>?_;obtain⟨y,L,V,P,E⟩:=j;refine LR (G a Q o L v y u w _ V r P E) λz Z j=>?_;obtain⟨zv,R,Y,W,M⟩:=j;exact oU Y C t n W (λs3 T=>⟨_,R,T,M⟩) O
 rcases l with ⟨hk,K⟩ |⟨hk,c,hc,J⟩
 ·exact abr I.ok.kind hk U K go
 rcases hk with hk |hk
 ·exact ab_ I.ok.kind hk hc J go
 rcases n with k |k
 ·have:#[21]=ag .free:=hk;rw[k] at this;cases this
 have:#[21]=ag .free:=hk;rw[k] at this;cases this
noncomputable def Ie (to l m:TE)(h:V->V->Hp->VK->Prop)(c:Ux)(j:DS):TS:=λD a H=>to a H λo f=>l a f λi k=>h o i k λx b=>m a b λy e=>c x y e λz g=>j o i z g λd=>D.nx a d
def Jp (X:Cx)(t:V->V->Hp->VK->Prop):Prop:=
 ∀ (a:Ln) (s:cv) (c:St) (H:Hp) (o i:V) (b d:ax) (Q:VK),Inv X a c H s->RelV o b->RelV i d->t o i H Q ->
  ew #[8] X.A (Xd b d) (EP X a c Q) X.xe s
theorem ED {o i e:hL}{to m n:TE}{j:V->V->Hp->VK->Prop}{g:Ux}{l:DS}{op:acR}{w:UK}(y:PE X o to)(hi:PE X i m)(B:Jp X j)(T:PE X e n)(U:Xu X op g)(hs:HF X l)
  (W:∀ f c new,augStore i f c new=(do V2 [new,f,c] (abZ f c new);release [new,f,c] [];y8 .next):=by intros;rfl):PS X (.AugAssign (.Subscript o i w) op e pos) (Ie to m n j g l):=by
 intro a s d H D I h;refine wpAny_AugAssign_SubscriptAny (LR (y a s d H _ I h) λf P b=>?_) W;obtain⟨x1,G,I1,k,u⟩:=b;refine LR (hi a P d G _ I1 u) λc r b=>?_;obtain⟨x2,Q,I2,p,L⟩:=b;refine LR (B a r d Q x1 x2 f c _ I2 k p L) λold s3 b=>?_;obtain⟨R,t,Y,q,q3⟩:=b;refine LR (T a s3 d t _ Y q3) λv F b=>?_;obtain⟨M,z,N,S,A⟩:=b;refine LR (U a F d z R M old v _ N q S A) λnew C b=>?_;obtain⟨J,K,O,r5,q5⟩:=b;exact LR (hs a C d K x1 x2 J f c new _ O k p r5 q5) λ_ s6 ⟨x,Z,E⟩=>⟨d,x,Z,E⟩
noncomputable def ipI (f:Int->Int->Int):Ux:=λx y H Q => ∃ i j,x = .int i/\y = .int j/\Q (.int (f i j)) H
theorem G9:Xu X .Add (ipI λi j=>i+j):=by intro a s g H x y v u Q I d e h;obtain⟨i,j,b,c,q⟩:=h;subst b;subst c;obtain⟨t,rfl⟩:=d;obtain⟨f,rfl⟩:=e;exact iadd_int ⟨.int _,H,I.tok _,⟨_,rfl⟩,q⟩
end
section
variable {X:Cx}{pos:UK}
noncomputable def BQ (c:TT)(h:TS):TS:=λD a H => ∃ W:Nat->St->Hp->Prop,(∃ m,W m a H)/\∀ m a H,W m a H ->
 c a H λb e=>if b=ba then ∃ N:St->Hp->Prop,(∀ d g,N d g->∃ f,f<m/\W f d g)/\h { D with nx:=N,ct:=N,bk:=D.nx } a e else D.nx a e
theorem Cq {c:hL}{body:ak r4}{B:TT}{t:TS}(z:ac9 #[8] X.A X.env X.xe)(hc:PT X c B)(hb:Qi X body t):PS X (.While c body [] pos) (BQ B t):=by
 intro d s K H D I h;obtain⟨W,⟨J,M⟩,g⟩:=h;refine wpAny_While (codeAny_whileLoop (λn F => ∃ j x,Inv X d j x F/\W n j x) ?_ J ⟨K,H,I,M⟩);rintro n L ⟨e,u,O,P⟩;refine TN z (LR (hc d L e u _ O (g n e u P)) λb E G=>?_);obtain⟨y,C,k⟩:=G;cases b with
 |true =>
  obtain⟨N,r,k⟩:=k;rw[dm rfl];refine TN z (LR (hb d E e y _ C k) λf Q l=>?_);cases f with
  |next =>
   obtain⟨a,i,p,n3⟩:=l;obtain⟨q,m,o⟩:=r a i n3;exact⟨q,m,a,i,p,o⟩
  |cont =>
   obtain⟨a,i,p,n3⟩:=l;obtain⟨q,m,o⟩:=r a i n3;exact⟨q,m,a,i,p,o⟩
  |brk=>exact l
  |ret v=>exact l
 |false =>
  rw[dV Sa];exact Y0 ⟨e,y,C,k⟩
end
structure It where
 go:Nat->Hp->Prop
 Qm:Nat->Hp->V->Hp->Prop
 stop:Nat->Hp->Prop
def hG (X:Cx)(a:Ln)(H:Hp)(b:cn):Prop:=
 H b=ay/\b≠X.env.locals/\b∉X.fs/\(b∈X.ex∨X.s₀.heap.objs.size<=b)/\(∀ x c,#[19]=ag c->c≠b)/\∀ p∈X.pn++a,p.1≠b
theorem Inv.Of {X:Cx}{a:Ln}{f:St}{H H':Hp}{s:cv}{b:cn}(I:Inv X a f H s)(hb:s.heap.objs.size<=b)(d:H' b=ay):hG X a H' b:=by
 refine⟨d,Yg (ke I.lt hb),I.Yf hb,.inr (hA I.sz hb),λx c e z=>?_,λp g z=>?_⟩
 ·obtain⟨v,q⟩:=I.cell x c e;exact ku (ke q.lt (by rw[z];exact hb)) (qb _)
 exact ku (ke (eM (I.pin p g).1) (by rw[z];exact hb)) (qb _)
structure Turn (P:fh) (w:il) (K:Ll) (tg:hL) (J:It) (fp:ak cn) (it:cn) (tn:Nat->kx->Prop):Prop where
 mem:it∈fp
 obj:∀ i h,tn i h->∀ b∈fp,∃ o,h.get? b=ag o/\∀ v,o.data≠.cell v
 keep:∀ i h h',tn i h->(∀ b∈fp,∀ o,h.get? b=ag o->h'.get? b=ag o)->tn i h'
 item:∀ (X:Cx),X.prog=P->X.w=w->X.K=K->X.calm=ba->∀ (i:Nat) (pins:Ln) (s:cv) (σ:St) (H:Hp) (E:Lm),Inv X pins σ H s->(∀ b∈fp,hG X pins H b)->tn i s.heap->J.go i H ->
  ew (e9 P w) X.A (aaM (.ref it)) (λr s1 => ∃ u,r=ag u /\
   ew (e9 P w) X.A (WD tg (.ref it) u) (λ_ s2 => ∃ x H',Inv X pins σ H' s2/\RelV x u/\J.Qm i H x H'/\tn (i+1) s2.heap/\∀ b∈fp,H' b=ay) E s1) E s
 done:∀ (X:Cx),X.prog=P->X.w=w->X.K=K->X.calm=ba->∀ (i:Nat) (pins:Ln) (s:cv) (σ:St) (H:Hp) (E:Lm),Inv X pins σ H s->(∀ b∈fp,hG X pins H b)->tn i s.heap->J.stop i H ->
  ew (e9 P w) X.A (aaM (.ref it)) (λr s1=>r=ay/\Inv X pins σ H s1) E s
 self:∀ (A:jl) (i:Nat) (s:cv) (Q:Lm) (E:Lm),tn i s.heap->Q (.ref it) s->ew (e9 P w) A (acv (.ref it)) Q E s
abbrev TI:=St->Hp->(It->Hp->Prop)->Prop
def Yk (X:Cx)(a:Ln)(g:St)(f:hL)(R:It->Hp->Prop)(h:ax)(d:cv):Prop:=
 ∃ (it:cn) (fp:ak cn) (e:Nat->kx->Prop) (J:It) (c:Hp),h = .ref it/\Inv X a g c d/\Turn X.prog X.w X.K f J fp it e/\e 0 d.heap/\(∀ b∈fp,hG X a c b)/\R J c
def PI (X:Cx)(c iter:hL)(e:TI):Prop:=
 ∀ (a:Ln) (s:cv) (b:St) (H:Hp) (R:It->Hp->Prop),Inv X a b H s->e b H R ->
  ew #[8] X.A (sY iter X.env) (λv d=>ew #[8] X.A (acv v) (Yk X a b c R) X.xe d) X.xe s
theorem vM {M:Model}{A:jl}{E:Lm}{s:cv}{b:hL}{it:cn}{u:ax}{o:Obj}{n:W7}{vs:ib ax}{Q:ab9->cv->Prop}(c:s.heap.get? it=ag o)(hc:o.cls = .type n)(hd:o.data = .fields vs)
  (d:["enumerate","zip","dict_itemiterator","dict_reverseitemiterator","odict_iterator","itertools.zip_longest","itertools.pairwise"].contains n=b0) (a:Q () s):ew M A (WD b (.ref it) u) Q E s:=by
 unfold WD
 cases b<;>first
  |exact bo a
  |(cases u<;>first
    |exact bo a
    |(refine av (wpAny_load c ?_)
      rw[hc,hd];show ew M A (if (["enumerate","zip","dict_itemiterator","dict_reverseitemiterator","odict_iterator","itertools.zip_longest","itertools.pairwise"].contains n&&vs[0]?==ag (aaN _))=ba then _ else _) Q E s;rw[dV (by intro h;rw[d,Bool.false_and] at h;cases h)]
      exact bo a))
noncomputable def Yl (K:Ll)(a:cn):It:=
 ⟨λi H => ∃ b x,OC K H a b/\b[i]?=ag x,λi H x c=>c=H/\∀ b,OC K H a b->b[i]?=ag x,λi H => ∃ b,OC K H a b/\b.length<=i⟩
noncomputable def Ym (K:Ll)(a:cn):It:=
 ⟨λi H => ∃ b x,O2 K H a b/\b[i]?=ag x,λi H x c=>c=H/\∀ b,O2 K H a b->b[i]?=ag x,λi H => ∃ b,O2 K H a b/\b.length<=i⟩
noncomputable def Xw (lo:Int)(n:Nat):It:=⟨λi _=>i<n,λi H x a=>a=H/\x = .int (lo+i),λi _=>n<=i⟩
theorem An {P:fh}{w:il}{K:Ll}{R:hL}(a it:cn):Turn P w K R (Yl K a) [it] it (λi h=>h.IsListIter it a i) where
 mem:=by simp
 obj:=λi h st b hb=>by
  have e:b=it:=#[16]
  subst e;obtain⟨o,e,c,d⟩:=st;exact⟨o,e,λv z=>by rw[d] at z;cases z⟩
 keep:=λi h l st k=>st.at λo e=>k it #[3] o e
 item:=by
  intro X t A F hc i f s G H E I j st n;subst t A F;obtain⟨O,x,g,r⟩:=n;obtain⟨its,C,p,M⟩:=I.list g;obtain⟨u,S,L⟩:=C.get r;obtain⟨B,m,Q,D,y,q⟩:=j it #[3];refine wpAny_pyNext_list_item st p.isList (x:=u) (by simpa using S) λl J sb=>?_;have U:Inv X f G H { s with heap:=l }:=I.turned (t':=s.toks) (λb o hb e=>(sb.2 b hb).trans e) B m D y q;obtain⟨o,e,c,d⟩:=id J;exact⟨u,rfl,vM (s:={ s with heap:=l }) e c d #[2] ⟨x,H,U,L,⟨rfl,λW T=>by rw[I.OD T g];exact r⟩,J,λb hb=>(j b hb).1⟩⟩
 done:=by
  intro X t A F hc i f s G H E I j st n;subst t A F;obtain⟨O,g,r⟩:=n;obtain⟨its,C,p,M⟩:=I.list g;obtain⟨B,m,Q,D,y,q⟩:=j it #[3];have V:=C.length;exact wpAny_pyNext_list_end (I.ok.hd hc) st p.isList (by simp;omega) λl N=>⟨rfl,I.turned (t':=s.toks) (λb o hb e=>N b o hb e) B m D y q⟩
 self:=λ_ _ _ _ _ st h=>wpAny_pyIter_listiter st h
theorem wU {P:fh}{w:il}{K:Ll}{R:hL}(a it:cn):Turn P w K R (Ym K a) [it] it (λi h=>h.IsTupleIter it a i) where
 mem:=by simp
 obj:=λi h st b hb=>by
  have e:b=it:=#[16]
  subst e;obtain⟨o,e,c,d⟩:=st;exact⟨o,e,λv z=>by rw[d] at z;cases z⟩
 keep:=λi h l st k=>st.at λo e=>k it #[3] o e
 item:=by
  intro X t A F hc i f s G H E I j st n;subst t A F;obtain⟨O,x,g,r⟩:=n;obtain⟨its,C,p,M⟩:=I.tuple g;obtain⟨u,S,L⟩:=C.get r;obtain⟨B,m,Q,D,y,q⟩:=j it #[3];refine wpAny_pyNext_tuple_item st (show s.heap.IsTuple a its.toArray from p) (x:=u) (by simpa using S) λl J sb=>?_;have U:Inv X f G H { s with heap:=l }:=I.turned (t':=s.toks) (λb o hb e=>(sb.2 b hb).trans e) B m D y q;obtain⟨o,e,c,d⟩:=id J;exact⟨u,rfl,vM (s:={ s with heap:=l }) e c d #[2] ⟨x,H,U,L,⟨rfl,λW T=>by rw[I.NV T g];exact r⟩,J,λb hb=>(j b hb).1⟩⟩
 done:=by
  intro X t A F hc i f s G H E I j st n;subst t A F;obtain⟨O,g,r⟩:=n;obtain⟨its,C,p,M⟩:=I.tuple g;obtain⟨B,m,Q,D,y,q⟩:=j it #[3];have V:=C.length;exact wpAny_pyNext_tuple_end (I.ok.hd hc) st (show s.heap.IsTuple a its.toArray from p) (by simp;omega) λl N=>⟨rfl,I.turned (t':=s.toks) (λb o hb e=>N b o hb e) B m D y q⟩
 self:=λ_ _ _ _ _ st h=>wpAny_pyIter_tupleiter st h
theorem wV {P:fh}{w:il}{K:Ll}{F:hL}(it:cn)(lo:Int)(n:Nat):Turn P w K F (Xw lo n) [it] it (λi h=>abt h it (lo+(i:Nat)*1) ((n:Int)-(i:Nat)) 1) where
 mem:=by simp
 obj:=λi h st b hb=>by
  have e:b=it:=#[16]
  subst e
  exact⟨_,st,λv z=>by
   have C:Data.fields _=Data.cell v:=z
   cases C⟩
 keep:=λi h d st k=>k it #[3] _ st
 item:=by
  intro X l p u hc i a s x H E I c st g;subst l p u;obtain⟨q,f,D,r,m,j⟩:=c it #[3];have W:=Walks.range (prog:=X.prog) (w:=X.w) (I.ok.hd hc) it lo 1 n;refine W.item i s _ _ g st λv d tk A y G=>?_;obtain⟨t,rfl⟩:=A;have J:Inv X a x H { s with heap:=d,toks:=tk }:=I.turned (λb o hb e=>G b o (#[16]) e) q f r m j;refine⟨_,rfl,vM (s:={ s with heap:=d,toks:=tk }) (n:="range_iterator") y rfl rfl #[2] ⟨.int (lo+i),H,J,⟨t,?_⟩,⟨rfl,rfl⟩,y,λb hb=>(c b hb).1⟩⟩;rw[Int.mul_one]
 done:=by
  intro X l p u hc i a s x H E I c st g;subst l p u;obtain⟨q,f,D,r,m,j⟩:=c it #[3];exact aaO (I.ok.hd hc) st (by have:n<=i:=g;omega) λd B=>⟨rfl,I.turned (t':=s.toks) (λb o hb e=>B b o hb e) q f r m j⟩
 self:=λ_ _ _ _ _ st h=>aaP st h
section
variable {X:Cx}{tg:hL}
noncomputable def IT (K:Ll)(c:TE):TI:=λe H R=>c e H λx b => ∃ a,x = .ref a/\(∃ d,OC K b a d)/\R (Yl K a) b
noncomputable def J3 (K:Ll)(c:TE):TI:=λe H R=>c e H λx b => ∃ a,x = .ref a/\(∃ d,O2 K b a d)/\R (Ym K a) b
theorem EH {l:hL}{g:TE}(j:PE X l g):PI X tg l (IT X.K g):=by
 intro c s n H R I h;refine LR (j c s n H _ I h) λv d k=>?_;obtain⟨x,r,f,t,i⟩:=k;obtain⟨a,e,⟨w,m⟩,q⟩:=i;subst e;cases t;obtain⟨its,y,p,u⟩:=f.list m;refine wpAny_pyIter_list p.isList ?_;refine⟨d.heap.objs.size,[d.heap.objs.size],_,_,r,rfl,f.kept (t':=d.toks) λb o e=>cc _ e,An a _,⟨_,e8 _ rfl,rfl,rfl⟩,λb hb=>?_,q⟩;have e:b=d.heap.objs.size:=#[16]
 subst e;exact f.Of (hB _) (f.LX.fresh (hB _))
theorem GJ {l:hL}{g:TE}(j:PE X l g):PI X tg l (J3 X.K g):=by
 intro d s n H R I h;refine LR (j d s n H _ I h) λv c k=>?_;obtain⟨x,r,f,t,i⟩:=k;obtain⟨a,e,⟨w,m⟩,q⟩:=i;subst e;cases t;obtain⟨its,y,p,u⟩:=f.tuple m;refine UQ (show c.heap.IsTuple a its.toArray from p) ?_;refine⟨c.heap.objs.size,[c.heap.objs.size],_,_,r,rfl,f.kept (t':=c.toks) λb o e=>cc _ e,wU a _,⟨_,e8 _ rfl,rfl,rfl⟩,λb hb=>?_,q⟩;have e:b=c.heap.objs.size:=#[16]
 subst e;exact f.Of (hB _) (f.LX.fresh (hB _))
theorem Cn {c:Ln}{d:St}{H:Hp}{s:cv}{R:It->Hp->Prop}{E:Lm}{lo a:Int}{t u v:Tok}{tk:Nat}(I:Inv X c d H s)(k : -(2 ^ 62)<=lo)(l:lo<2 ^ 62)(j : -(2 ^ 62)<=a)(h:a<2 ^ 62)
  (q:R (Xw lo (a-lo).toNat) H):ew #[8] X.A (acv (#[15])) (Yk X c d tg R) E { s with heap:=s.heap.push { cls:=.type "range",data:=.fields #[.int lo t,.int a u,.int 1 v] },toks:=tk }:=by
 refine acw (aey ..) (small_one k l j h) ?_;have f:Inv X c d H { s with heap:=s.heap.push { cls:=.type "range",data:=.fields #[.int lo t,.int a u,.int 1 v] },toks:=tk }:=I.kept λb o e=>cc _ e
 refine⟨(s.heap.push { cls:=.type "range",data:=.fields #[.int lo t,.int a u,.int 1 v] }).objs.size,[(s.heap.push { cls:=.type "range",data:=.fields #[.int lo t,.int a u,.int 1 v] }).objs.size],_,_,H,rfl,
  f.kept (t':=tk) λb o e=>cc _ e,wV _ lo (a-lo).toNat,?_,λb hb=>?_,q⟩
 ·have g:lo+((0:Nat):Int)*1=lo:=by simp
  have i:(((a-lo).toNat:Nat):Int)-((0:Nat):Int)=Uz lo a 1:=by rw[rangeSize_one];split<;>omega
  show abt _ _ (lo+((0:Nat):Int)*1) ((((a-lo).toNat:Nat):Int)-((0:Nat):Int)) 1;rw[g,i];exact e8 _ rfl
 have e:b=(s.heap.push { cls:=.type "range",data:=.fields #[.int lo t,.int a u,.int 1 v] }).objs.size:=#[16]
 subst e;exact f.Of (hB _) (f.LX.fresh (hB _))
noncomputable def IS (c:TA):TI:=λa H R=>c a H λd b => ∃ j:Int,d=[.int j]/\-(2 ^ 62)<=j/\j<2 ^ 62/\R (Xw 0 j.toNat) b
theorem AL {a:hL}{d:TA}{p pos:UK}(k:Gl X "range")(g:X.mg "range"=ay)(n:PA X [a] d)(o:eK [a] X.env=[(b0,sY a X.env)]:=by rfl):PI X tg (.Call (.Name "range" p) [a] [] pos) (IS d):=by
 intro b s i H R I h;refine Call_ (kD I k g boot_range (Vh (LR (n pos b s i H _ I h) λz y f=>?_) o rfl));obtain⟨w,x,v,m,c⟩:=f;obtain⟨j,e,c,l,q⟩:=c;subst e;cases m with
 |cons r u =>
  cases u;obtain⟨t,rfl⟩:=r;exact call_range_1 (Cn v #[0] #[0] c l (by simpa using q))
noncomputable def JN (k:TI)(g:TG)(f:TS):TS:=λD a H=>k a H λJ h => ∃ W:Nat->Nat->St->Hp->Prop,(∃ m,W 0 m a h)/\∀ i m a H,W i m a H ->
 (J.stop i H/\D.nx a H)∨(J.go i H/\∃ N:St->Hp->Prop,(∀ c b,N c b->∃ e,e<m/\W (i+1) e c b)/\∀ x b,J.Qm i H x b->g x a b λd j=>f { D with nx:=N,ct:=N,bk:=D.nx } d j)
noncomputable def mE (fp:ak cn)(h:kx):Ln:=fp.filterMap λb=>(h.get? b).map λo=>(b,o)
theorem ij {fp:ak cn}{h:kx}{b:cn}{o:Obj}(hb:b∈fp)(e:h.get? b=ag o):(b,o)∈mE fp h:=acx.mpr ⟨b,hb,by rw[e];rfl⟩
theorem AW {fp:ak cn}{h:kx}{p:cn×Obj}(a:p∈mE fp h):p.1∈fp/\h.get? p.1=ag p.2:=by
 obtain⟨b,hb,e⟩:=acx.mp a;cases q:h.get? b with
 |none=>rw[q] at e;cases e
 |some o =>
  rw[q] at e;have c:(b,o)=p:=ja e;subst c;exact⟨hb,q⟩
theorem Inv.pinned {a:Ln}{f:St}{H:Hp}{s:cv}{fp:ak cn}(I:Inv X a f H s)(j:∀ b∈fp,hG X a H b)(g:∀ b∈fp,∃ o,#[18]=ag o/\∀ v,o.data≠.cell v):Inv X (a++mE fp s.heap) f H s:=
 I.NJ λp k=>(lk.mp k).elim (λz=>I.pin p (mv _ z)) λz=>by
  obtain⟨hb,e⟩:=AW z;obtain⟨l,h,i,_⟩:=j p.1 hb;obtain⟨o,c,d⟩:=g p.1 hb;rw[e] at c;cases c;exact⟨e,l,h,i,d⟩
theorem Inv.OE {a pl:Ln}{b:St}{H:Hp}{s:cv}(I:Inv X (a++pl) b H s):Inv X a b H s:=I.NJ λp c=>I.pin p (mv _ (U5 _ c))
theorem GF {iter:hL}{body:ak r4}{wi:TI}{g:TG}{R:TS}{pos:UK}(z:ac9 #[8] X.A X.env X.xe)(hc:X.calm=ba)(hi:PI X tg iter wi)(hg:PG X tg g)(hb:Qi X body R)
  (hs:∀ x,Vi iter X.env x=y8 x:=by intro _;rfl):PS X (.For tg iter body [] pos) (JN wi g R):=by
 intro c s Z H D I h;refine wpAny_For (LR (hi c s Z H _ I h) λv s1 h1=>LR h1 λVQ s2 h2=>?_) hs;obtain⟨it,fp,V,J,H2,e,I2,T,Og,U,W,⟨m0,w0⟩,C⟩:=h2;subst e;have L:∀ {q:Hp},(∀ b∈fp,q b=ay)->∀ b∈fp,hG X c q b:=λhn b hb=>⟨hn b hb,(U b hb).2⟩;refine codeAny_forLoop_any (λn M => ∃ i l q,Inv X c l q M/\V i M.heap/\(∀ b∈fp,q b=ay)/\W i n l q) ?_ m0 ⟨0,Z,H2,I2,Og,λb hb=>(U b hb).1,w0⟩;rintro n s3 ⟨i,k,E,P,Q,Y,w3⟩;rcases C i n k E w3 with ⟨stop,qn⟩ |⟨go,N,hN,step⟩
 ·refine TN z (LR (T.done X rfl rfl rfl hc i c s3 k E X.xe P (L Y) Q stop) λr s4 y=>?_);obtain⟨hr,I4⟩:=y;subst hr;exact Y0 ⟨k,E,I4,qn⟩
 refine TN z (LR (T.item X rfl rfl rfl hc i c s3 k E X.xe P (L Y) Q go) λr s4 y=>?_);obtain⟨u,hr,h4⟩:=y;subst hr;refine TN z (LR h4 λ_ O y=>?_);obtain⟨x,S,I5,r5,y5,K,Yn⟩:=y;have Yo:=I5.pinned (L Yn) (T.obj _ _ K);refine TN z (LR (hg _ O k S x u _ Yo r5 (step x S y5)) λ_ s6 y=>?_);obtain⟨F,H6,I6,q6⟩:=y;refine TN z (LR (hb _ s6 F H6 _ I6 q6) λf G t=>?_);have again:∀ {a:St}{p:Hp},Inv X (c++mE fp O.heap) a p G->N a p->∃ m,m<n/\∃ i l q,Inv X c l q G/\V i G.heap/\(∀ b∈fp,q b=ay)/\W i m l q:=λ{a p} j B=>by obtain⟨m',hm,w7⟩:=hN a p B;refine⟨m',hm,i+1,a,p,j.OE,T.keep _ _ _ K λb hb o e=>(j.pin (b,o) (mv _ (mv _ (ij hb e)))).1,λb hb=>?_,w7⟩;obtain⟨o,e,d⟩:=T.obj _ _ K b hb;exact(j.pin (b,o) (mv _ (mv _ (ij hb e)))).2.1
 cases f with
 |next=>obtain⟨a,p,j,B⟩:=t;exact again j B
 |cont=>obtain⟨a,p,j,B⟩:=t;exact again j B
 |brk=>obtain⟨a,p,j,t⟩:=t;exact⟨a,p,j.OE,t⟩
 |ret v=>obtain⟨x7,a,p,j,r7,t⟩:=t;exact⟨x7,a,p,j.OE,r7,t⟩
end
abbrev R2:=V->V->Hp->VK->Prop
def Py (X:Cx)(f:ax->ax->Sem ax)(r:R2):Prop:=
 ∀ (a:Ln) (s:cv) (b:St) (H:Hp) (x y:V) (v u:ax) (Q:VK),Inv X a b H s->RelV x v->RelV y u->r x y H Q ->
  ew #[8] X.A (f v u) (EP X a b Q) X.xe s
def Xx (X:Cx)(f:ax->Sem ax)(r:V->Hp->VK->Prop):Prop:=
 ∀ (a:Ln) (s:cv) (b:St) (H:Hp) (x:V) (v:ax) (Q:VK),Inv X a b H s->RelV x v->r x H Q ->
  ew #[8] X.A (f v) (EP X a b Q) X.xe s
def iS (X:Cx)(f:ax)(r:ak V->Hp->VK->Prop):Prop:=
 ∀ (a:Ln) (s:cv) (c:St) (H:Hp) (b:ak V) (d:ak ax) (Q:VK),Inv X a c H s->Vals b d->r b H Q ->
  ew #[8] X.A (call f d) (EP X a c Q) X.xe s
noncomputable def VR (r:R2)(d e:TE):TE:=λa H Q=>d a H λx c=>e a c λy b=>r x y b Q
noncomputable def tUn (r:V->Hp->VK->Prop)(c:TE):TE:=λa H Q=>c a H λx b=>r x b Q
noncomputable def rI (C:Int->Int->Prop)(g:Int->Int->V):R2:=λx y H Q => ∃ i j,x = .int i/\y = .int j/\C i j/\Q (g i j) H
noncomputable def Vf (g:Int->Int->V):R2:=λx y H Q => ∃ i j,x = .int i/\y = .int j/\Q (g i j) H
def rU (g:Int->V):V->Hp->VK->Prop:=λx H Q => ∃ i,x = .int i/\Q (g i) H
section
variable {X:Cx}{a b c:hL}{ta tb tc:TE}{pos:UK}
theorem Hy (r:PE X a ta)(hb:PE X b tb){c:Ln}{s:cv}{d:St}{H:Hp}{R:V->V->Hp->Prop}(I:Inv X c d H s)
  (h:ta d H λx l=>tb d l λy e=>R x y e) {Q:Lm}{f:ax->ax->Sem ax}
  (o:∀ v u j x y e,Inv X c d e j->RelV x v->RelV y u->R x y e->ew #[8] X.A (f v u) Q X.xe j) :
  ew #[8] X.A (sY a X.env) (λv i=>ew #[8] X.A (sY b X.env) (λu g=>ew #[8] X.A (f v u) Q X.xe g) X.xe i) X.xe s:=by
 refine LR (r c s d H _ I h) λv q k=>?_;obtain⟨x,l,t,p,m⟩:=k;refine LR (hb c q d l _ t m) λu j k=>?_;obtain⟨y,e,B,z,n⟩:=k;exact o v u j x y e B p z n
theorem Iw {op:acR}{r:R2}(g:Py X (P_ op) r)(k:PE X a ta)(hb:PE X b tb):PE X (.BinOp a op b pos) (VR r ta tb):=by intro c s i H Q I h;exact wpAny_BinOp (Hy k hb I h λv u e x y j l d f q=>g c e i j x y v u Q l d f q)
theorem Iv {op:UnaryOp}{r:V->Hp->VK->Prop}(j:Xx X (unaryOp op) r)(i:PE X a ta):PE X (.UnaryOp op a pos) (tUn r ta):=by intro b s c H Q I h;exact UnaryOp_ (LR (i b s c H _ I h) λv d ⟨x,e,g,k,f⟩=>j b d c e x v Q g k f)
theorem Yp {f:ax->ax->Sem ax}{C:Int->Int->Prop}{g:Int->Int->Int}
  (rule:∀ (i j:Int) (t u:Tok) (s:cv) (Q:Lm) (E:Lm),C i j->Q (.int (g i j) s.toks) { s with toks:=s.toks+1 }->ew #[8] X.A (f (.int i t) (.int j u)) Q E s) :
  Py X f (rI C λi j => .int (g i j)):=by
 intro a s e H x y v u Q I b c h;obtain⟨i,j,rfl,rfl,hc,q⟩:=h;obtain⟨t,rfl⟩:=b;obtain⟨d,rfl⟩:=c;exact rule i j t d s _ _ hc ⟨.int (g i j),H,I.tok _,⟨_,rfl⟩,q⟩
theorem Iz {f:ax->ax->Sem ax}{g:Int->Int->Int}
  (rule:∀ (i j:Int) (t u:Tok) (s:cv) (Q:Lm) (E:Lm),Q (.int (g i j) s.toks) { s with toks:=s.toks+1 }->ew #[8] X.A (f (.int i t) (.int j u)) Q E s) :
  Py X f (Vf λi j => .int (g i j)):=by
 intro a s e H x y v u Q I b c h;obtain⟨i,j,rfl,rfl,q⟩:=h;obtain⟨t,rfl⟩:=b;obtain⟨d,rfl⟩:=c;exact rule i j t d s _ _ ⟨.int (g i j),H,I.tok _,⟨_,rfl⟩,q⟩
theorem IA {f:ax->ax->Sem ax}{g:Int->Int->fg}
  (rule:∀ (i j:Int) (t u:Tok) (s:cv) (Q:Lm) (E:Lm),Q (.bool (g i j)) s->ew #[8] X.A (f (.int i t) (.int j u)) Q E s) :
  Py X f (Vf λi j => .bl (g i j)):=by
 intro a s e H x y v u Q I b c h;obtain⟨i,j,rfl,rfl,q⟩:=h;obtain⟨t,rfl⟩:=b;obtain⟨d,rfl⟩:=c;exact rule i j t d s _ _ ⟨.bl (g i j),H,I,rfl,q⟩
def Kz (i j:Int):Prop:=0<j/\j<1073741824
def Ta (i j:Int):Prop:=(-(2 ^ 64)<i/\i<2 ^ 64)∨(-(2 ^ 64)<j/\j<2 ^ 64)
theorem Ta.ok {i j:Int}(h:Ta i j):IntMulOk i j:=by
 rcases h with ⟨a,b⟩ |⟨a,b⟩
 ·exact .of_left (intBits_le_64 a b)
 exact .of_right (intBits_le_64 a b)
theorem GT:Py X (P_ .Add) (Vf λi j => .int (i+j)):=Iz λ_ _ _ _ _ _ _ q=>add_int q
theorem GP:Py X (P_ .Sub) (Vf λi j => .int (i-j)):=Iz λ_ _ _ _ _ _ _ q=>sub_int q
theorem GQ:Py X (P_ .Mult) (rI Ta λi j => .int (i*j)):=Yp λ_ _ _ _ _ _ _ hc q=>mul_int q hc.ok
theorem ER:Py X (P_ .FloorDiv) (rI Kz λi j => .int (i / j)):=Yp λi j _ _ _ _ _ hc q=>by have a:(0:Int)<j:=hc.1;have b:j<1073741824:=hc.2;exact floordiv_int #[0] (by rw[Int.fdiv_eq_ediv_of_nonneg i #[0]];exact q) (.inl (PyProof.noPylong_small #[0]))
theorem GR:Py X (P_ .Mod) (rI (λ_ j => 0<j) λi j => .int (i % j)):=Yp λi j _ _ _ _ _ hc q=>by have a:(0:Int)<j:=hc;exact mod_int' #[0] (by rw[Int.fmod_eq_emod_of_nonneg i #[0]];exact q)
theorem unI {f:ax->Sem ax}{g:Int->Int}
  (rule:∀ (i:Int) (t:Tok) (s:cv) (Q:Lm) (E:Lm),Q (.int (g i) s.toks) { s with toks:=s.toks+1 }->ew #[8] X.A (f (.int i t)) Q E s) :
  Xx X f (rU λi => .int (g i)):=by
 intro a s c H x v Q I b h;obtain⟨i,rfl,q⟩:=h;obtain⟨t,rfl⟩:=b;exact rule i t s _ _ ⟨.int (g i),H,I.tok _,⟨_,rfl⟩,q⟩
theorem F8:Xx X (unaryOp .USub) (rU λi => .int (-i)):=unI λ_ _ _ _ _ q=>neg_int q
end
section
variable {X:Cx}{a b c:hL}{ta tb tc:TE}{pos:UK}
theorem x6 {a:Ln}{b:St}{H:Hp}{s:cv}{Q:VK}{k c:fg}(I:Inv X a b H s)(q:Q (.bl k) H)(e:k=c):EP X a b Q (.bool c) s:=by subst e;exact⟨.bl k,H,I,rfl,q⟩
theorem Ix:Py X (qa .Lt) (Vf λi j => .bl (dv (i<j))):=IA λ_ _ _ _ _ _ _ q=>aer q
theorem Iy:Py X (qa .Gt) (Vf λi j => .bl (dv (j<i))):=IA λ_ _ _ _ _ _ _ q=>gt_int q
theorem AS:Py X (qa .Lt) (λx y H Q => ∃ i j,x = .str i/\y = .str j/\Q (.bl (dv (i.cps.toList<j.cps.toList))) H):=by intro a s e H x y v u Q I b c h;obtain⟨i,j,rfl,rfl,q⟩:=h;obtain⟨t,rfl⟩:=b;obtain⟨d,rfl⟩:=c;exact abj (x6 I q rfl)
theorem GS:Py X (qa .Is) (λx y H Q=>y = .LN/\Q (.bl (dv (x = .LN))) H):=by
 intro a s d H x y v u Q I b c h;obtain⟨rfl,q⟩:=h;cases c;refine is_none_gen (x6 I q ?_)
 cases x<;>first
  |(cases b;rfl)
  |(obtain⟨t,rfl⟩:=b;rfl)
theorem EQ:Py X (qa .IsNot) (λx y H Q=>y = .LN/\Q (.bl (!dv (x = .LN))) H):=by
 intro a s d H x y v u Q I b c h;obtain⟨rfl,q⟩:=h;cases c;refine isnot_none_gen (x6 I q ?_)
 cases x<;>first
  |(cases b;rfl)
  |(obtain⟨t,rfl⟩:=b;rfl)
theorem CL (b:hL){op:acQ}(h:op≠.In:=by decide)(d:op≠.NotIn:=by decide):q7 op b=b0:=by
 have a:(op==CmpOp.In)=b0:=by cases op<;>first |rfl |exact ku rfl h
 have c:(op==CmpOp.NotIn)=b0:=by cases op<;>first |rfl |exact ku rfl d
 cases b<;>simp[q7,a,c]
theorem EN {op:acQ}{r:R2}(g:Py X (qa op) r)(l:PE X a ta)(hb:PE X b tb)(i:q7 op b=b0):PE X (.Compare a [op] [b] pos) (VR r ta tb):=by intro c s j H Q I h;exact wpAny_Compare1 (Hy l hb I h λv u e x y k m d f q=>g c e j k x y v u Q m d f q) i
noncomputable def NK (t:TE):TT:=λb H Q=>t b H λx a => ∃ k,x = .bl k/\Q k a
theorem Ey {op:acQ}{r:R2}(m:Py X (qa op) r)(A:PE X a ta)(hb:PE X b tb)(n:q7 op b=b0):PT X (.Compare a [op] [b] pos) (NK (VR r ta tb)):=by
 intro d s f H Q I h
 refine abi (LR (A d s f H _ I h) λv t ⟨x,o,D,q,l⟩=>LR (hb d t f o _ D l) λu i ⟨y,w,E,F,p⟩ =>
  LR (m d i f w x y v u _ E q F p) λc G ⟨z,j,B,g,k,e,C⟩=>?_) n
 subst e;cases g;exact Qs ⟨j,B,C⟩
theorem kC:(d4:Nat)<2 ^ 63:=by rw[ads];decide
theorem xC:Py X (P_ .Add) (λx y H Q => ∃ i j,x = .str i/\y = .str j/\i.length+j.length<=d4/\Q (.str (i++j)) H):=by intro a s f H x y v u Q I b d h;obtain⟨i,j,rfl,rfl,c,q⟩:=h;obtain⟨t,rfl⟩:=b;obtain⟨e,rfl⟩:=d;exact add_str (λe tk=>⟨.str (i++j),H,I.tok _,⟨_,rfl⟩,q⟩) c
theorem vals1 {x:V}{us:ak ax}(r:Vals [x] us):∃ u,us=[u]/\RelV x u:=by
 cases r with
 |cons b a=>cases a;exact⟨_,rfl,b⟩
theorem vals2 {x y:V}{us:ak ax}(r:Vals [x,y] us):∃ u a,us=[u,a]/\RelV x u/\RelV y a:=by
 cases r with
 |cons e d =>
  cases d with
  |cons b c=>cases c;exact⟨_,_,rfl,e,b⟩
theorem sk:iS X (.type "int") (λxs H Q=>(∃ i,xs=[.int i]/\Q (.int i) H)∨∃ k,xs=[.bl k]/\Q (.int (if k then 1 else 0)) H):=by
 intro a s c H xs d Q I r h;rcases h with ⟨i,rfl,q⟩ |⟨k,rfl,q⟩
 ·obtain⟨u,rfl,t,rfl⟩:=vals1 r;exact call_int_int ⟨.int i,H,I,⟨_,rfl⟩,q⟩
 obtain⟨u,rfl,b⟩:=vals1 r;cases b;exact call_int_bool ⟨.int (if k then 1 else 0),H,I.tok _,⟨_,rfl⟩,q⟩
end
structure Qn (h:kx) (x dx C:cn) (mA:Lo):Prop where
 obj:h.get? x=ag (QL C dx)
 ns:h.Ns1 dx mA
 ne:dx≠x
theorem A6 {h:kx}{b:cn}{d:Lo}(n:h.Ns1 b d):∃ c,h.get? b=ag c/\∀ name,Zk name c=ag (d name):=by
 obtain⟨o,es,ep,f,hd,j,_,g⟩:=n;refine⟨o,f,λname=>?_⟩;have e:=g name;unfold nsFind findBy at e;rw[← Array.find?_toList] at e;unfold Zk;rw[hd];rw[0];split
 ·rename_i y q;rw[q] at e;exact zc ag e
 rename_i q;rw[q] at e;have a:es.toList.any (·.refKey)=b0:=by rw[aaa];intro y l;obtain⟨z,t,k⟩:=j y (abu.mp l);simp[DictEntry.refKey,k]
 have i:¬ es.toList.any (·.refKey)=ba:=by rw[a];exact Sa
 rw[dV i];exact zc ag e
theorem Qn.look {h:kx}{x b C:cn}{c:Lo}(I:Qn h x b C c):∃ a,PySem.W.InstAt h x (QL C b) C (ag a)/\∀ name,Zk name a=ag (c name):=
 let ⟨a,e,d⟩:=A6 I.ns
 ⟨a,⟨I.obj,rfl,rfl,e⟩,d⟩
section
variable {prog:fh}{w:il}{A:jl}{E:Lm}{s:cv}{K:Ll}{x dx C f:cn}{mA:Lo}{name:eG}{v:ax}
theorem get_map {expr:fg}{Q:Lm}(X:K.In s.heap)(I:Qn s.heap x dx C mA)(a:Xy K C name=ba)(b:aab K C=ba)
  (f:sA K (.ref C) name=ag ay) (c:mA name=ag v) (d:ac_ v=ba) (h:Q v { s with toks:=s.toks+1 }) :
  ew #[4] A (getAttr (.ref x) name expr) Q E s:=by
 obtain⟨g,J,e⟩:=I.look;exact PySem.W.get_value X J (Zb a).1 (PySem.W.findObj_own b f rfl (by rw[e,c])) d h
theorem Dj {pl:Sem fg}{Q:ax×ak ax->cv->Prop}(X:K.In s.heap)(I:Qn s.heap x dx C mA)(a:Xy K C name=ba)
  (d:sA K (.ref C) name=ag (ag (.ref f))) (e:Zc K (.ref f)=ba) (c:mA name=ay) (h:Q (.ref f,[.ref x]) s) :
  ew #[4] A (ab0 (.ref x) name pl) Q E s:=by
 obtain⟨b,J,g⟩:=I.look;exact PySem.W.method_fn X J (Zb a).1 (Zb a).2 d (UR.mp e) (by show (Zk name b).map (·.isSome)=ag b0;rw[g,c];rfl) h
theorem Ek {ns:ak eG}{Q:ab9->cv->Prop}(X:K.In s.heap)(I:Qn s.heap x dx C mA)
  (n:sA K (.ref C) "__setattr__"=ag (ag (.builtin "object.__setattr__"))) (l:acS K C=ba) (k:abb K C name=ag ay) (o:aab K C=ba)
  (p:acP mA ns) (hsz:ns.length<=d4)
  (h:∀ h',Qn h' x dx C (λy=>if y=name then ag v else mA y)->UP dx s.heap h'->Q () { s with heap:=h',toks:=s.toks+2 }) :
  ew #[4] A (setAttr (.ref x) name v) Q E s:=by
 obtain⟨t,J,u⟩:=I.look;refine PySem.W.set_plain X J n (PySem.W.osa_open (s:={ s with toks:=s.toks+1 }) (r:=ay) X J l k λb=>?_);obtain⟨cd,hc,q⟩:=PySem.W.any_some o;have i:s.heap.get? x=ag ⟨.ref C,ag dx,.plain,#[]⟩:=I.obj;refine av (bo (av (av (wpAny_loadPart i (av (PySem.W.Looks.here (s:={ s with toks:=s.toks+1 }) (PySem.W.looks_clsIn X hc) ?_))))));rw[q];refine bo (a:=ag dx) (av (bo (av ?_)));refine wpAny_nsSet1 (s:={ s with toks:=s.toks+1 }) I.ns λh' g f=>?_;obtain⟨oD,m,j,e,c,d⟩:=g.count (PySem.Within.cons name v p);refine av (wpAny_lookBehind e (by rw[c];exact pastItsLine_dict (hA d (by rw[j2];omega))) ?_);exact bo (h _ ⟨(f.2 _ (lC I.ne)).trans I.obj,g,I.ne⟩ f)
theorem C8 {R:ada->cv->Prop}{vs:ak ax}{kw:ak (eG×ax)}(X:K.In s.heap)(a:abc K C=ba)
  (c:sA K (.ref C) "__init__"=ag (ag (.ref f))) (b:PySem.W.typeIn K (.ref f)=ag (.type "function"))
  (h:X2 #[4] (A.under (.builtin "type.__call__" ⟨.ref C::vs,kw⟩)) (.call (.ref f) ⟨.ref (#[14])::vs,kw⟩) (PySem.W.InitBack (#[14]) R)
   { s with heap:=(s.heap.push zf).push (QL C s.heap.objs.size) }) :
  X2 #[4] A (.call (.ref C) ⟨vs,kw⟩) R s:=by
 obtain⟨e,g,d,t,os⟩:=s;exact PySem.W.make_core (PySem.W.makes_of X a) (PySem.W.looks_findIn X c) (λself=>PySem.W.bind_fn X self b) (#[9]) h
end
noncomputable def gH (f:eG)(v:V):ak (eG×V)->ak (eG×V)
 |[]=>[(f,v)]
 |(g,x)::r=>if g=f then (g,v)::r else (g,x)::gH f v r
theorem nH (f g:eG)(v:V):∀ fs:ak (eG×V),(gH f v fs).lookup g=if g=f then ag v else fs.lookup g
 |[]=>by
  show zg g [(f,v)]=_;by_cases h:g=f
  ·have hb:(g==f)=ba:=UR.mpr h;simp only[zg,hb,dm h]
  have hb:(g==f)=b0:=mz.mpr h;simp only[zg,hb,dV h]
 |(k,x)::r=>by
  have b:=nH f g v r;rw[show gH f v ((k,x)::r)=(if k=f then (k,v)::r else (k,x)::gH f v r) from rfl];by_cases a:k=f
  ·rw[dm a];by_cases h:g=k
   ·have hb:(g==k)=ba:=UR.mpr h;simp only[zg,hb,dm (h.trans a)]
   have hb:(g==k)=b0:=mz.mpr h;simp only[zg,hb,dV (λe:g=f=>h (e.trans a.symm))]
  rw[dV a];by_cases h:g=k
  ·have hb:(g==k)=ba:=UR.mpr h;simp only[zg,hb,dV (λe:g=f=>a (h.symm.trans e))]
  have hb:(g==k)=b0:=mz.mpr h;simp only[zg,hb];exact b
theorem mJ (f:eG)(v:V):∀ fs:ak (eG×V),f∈(gH f v fs).map (·.1)/\∀ g,g∈fs.map (·.1)->g∈(gH f v fs).map (·.1)
 |[]=>⟨by simp[gH],λg h=>by simp at h⟩
 |(k,x)::r=>by
  obtain⟨b,c⟩:=mJ f v r;rw[show gH f v ((k,x)::r)=(if k=f then (k,v)::r else (k,x)::gH f v r) from rfl];by_cases a:k=f
  ·rw[dm a];subst a;exact⟨by simp,λg h=>by simpa using h⟩
  rw[dV a];refine⟨?_,λg h=>?_⟩
  ·rw[hH];exact eJ _ b
  rw[hH] at h ⊢;rcases f5.mp h with e |e
  ·exact f5.mpr (.inl e)
  exact eJ _ (c g e)
theorem nJ (f:eG)(v:V):∀ fs:ak (eG×V),(gH f v fs).length<=fs.length+1
 |[]=>by simp[gH]
 |(k,x)::r=>by
  have b:=nJ f v r;rw[show gH f v ((k,x)::r)=(if k=f then (k,v)::r else (k,x)::gH f v r) from rfl];by_cases a:k=f
  ·rw[dm a,j2,j2];omega
  rw[dV a,j2,j2];omega
theorem M9.some_of {v:V}{o:a9 ax}(r:M9 (ag v) o):∃ u,o=ag u/\RelV v u:=by
 cases o with
 |none=>exact(show False from r).elim
 |some u=>exact⟨u,rfl,r⟩
theorem M9.none_of {o:a9 ax}(r:M9 ay o):o=ay:=by
 cases o with
 |none=>rfl
 |some u=>exact(show False from r).elim
theorem Bh {v:V}{u:ax}(r:RelV v u):ac_ u=ba:=by
 cases v with
 |LN=>cases (show u=R6 from r);rfl
 |bl b=>cases (show u=adN b from r);rfl
 |int i=>obtain⟨t,e⟩:=(show ∃ t,u=Xs i t from r);cases e;rfl
 |str x=>obtain⟨t,e⟩:=(show ∃ t,u=abW x t from r);cases e;rfl
 |Xp b=>obtain⟨t,e⟩:=(show ∃ t,u=Value.bytes b t from r);cases e;rfl
 |Vd b=>obtain⟨t,e⟩:=(show ∃ t,u=Value.float b t from r);cases e;rfl
 |ref a=>cases (show u=ma a from r);rfl
 |ty n=>cases (show u=xb n from r);rfl
section
variable {P:fh}{w:il}{H H':Hp}{h h':kx}{a C dx:cn}{fs Z2:ak (eG×V)}
theorem tV (LX:ND P w H h)(e:H a=ag (.ins C dx fs)):∃ b,Qn h a dx C b/\(∀ f,M9 (fs.lookup f) (b f))/\acP b (fs.map (·.1))/\fs.length<=1000/\H dx=ag (.own a):=by obtain⟨d,z,ne,c,b,n,r,q⟩:=(show L9 P w H h a (.ins C dx fs) from LX a _ e);exact⟨b,⟨c,n,ne⟩,r,q,z,d⟩
end
structure Qo (K:Ll) (C:cn):Prop where
 pg:Xy K C Xz=ba
 hd:aab K C=ba
 po:acS K C=ba
 sa:sA K (.ref C) "__setattr__"=ag (ag (.builtin "object.__setattr__"))
theorem Qo.get {K:Ll}{C:cn}(c:Qo K C)(f:eG):Xy K C f=ba:=c.pg
def Nf (K:Ll)(C:cn)(f:eG):Prop:=sA K (.ref C) f=ag ay
theorem Nf.VS {K:Ll}{C:cn}{f:eG}(n:Nf K C f):abb K C f=ag ay:=by unfold abb;rw[show sA K (.ref C) f=ag ay from n];rfl
structure Con (K:Ll) (C:cn) (f:eG) (v:V) (u:ax):Prop where
 at_:sA K (.ref C) f=ag (ag u)
 rel:RelV v u
 get:acT K u "__get__"=ag ay
 cp:PySem.W.copiedNames.contains f=b0
structure Meth (K:Ll) (C:cn) (m:eG) (f:cn):Prop where
 at_:sA K (.ref C) m=ag (ag (.ref f))
 fn:Zc K (.ref f)=ba
 kp:Qj K (.ref f)=ba
section
variable {X:Cx}{pins:Ln}{σ:St}{H:Hp}{s:cv}{a C dx:cn}{fs:ak (eG×V)}{f:eG}{v:V}{A:jl}{E:Lm}
theorem xX {b:fg}{Q:Lm}(I:#[10])(e:H a=ag (.ins C dx fs))(c:Qo X.K C)(n:Nf X.K C f)(l:fs.lookup f=ag v)
  (h:∀ u s',Inv X pins σ H s'->RelV v u->Q u s'):ew #[8] A (getAttr (.ref a) f b) Q E s:=by
 obtain⟨i,O,r,_,_,_⟩:=tV I.LX e;obtain⟨u,g,d⟩:=M9.some_of (v:=v) (o:=i f) (by rw[← l];exact r f);exact get_map I.Q3 O (c.get f) c.hd n g (Bh d) (h u _ (I.tok _) d)
theorem pL {m:eG}{g:cn}{pl:Sem fg}{Q:ax×ak ax->cv->Prop}(I:#[10])(e:H a=ag (.ins C dx fs))(c:Qo X.K C)(k:Meth X.K C m g)(l:fs.lookup m=ay)
  (h:Q (.ref g,[.ref a]) s):ew #[8] A (ab0 (.ref a) m pl) Q E s:=by
 obtain⟨d,O,r,_,_,_⟩:=tV I.LX e;have b:d m=ay:=M9.none_of (by rw[← l];exact r m);exact Dj I.Q3 O (c.get m) k.at_ k.fn b h
theorem xi {y:V}{u:ax}{Q:ab9->cv->Prop}(I:#[10])(e:H a=ag (.ins C dx fs))(c:Qo X.K C)(n:Nf X.K C f)(B:fs.length<1000)(m:RelV y u)
  (h:∀ s',Inv X pins σ (upd H a (.ins C dx (gH f y fs))) s'->Q () s'):ew #[8] A (setAttr (.ref a) f u) Q E s:=by
 obtain⟨i,O,r,k,_,j⟩:=tV I.LX e;have l:(fs.map (·.1)).length<=d4:=by rw[d7,ads];omega
 refine Ek I.Q3 O c.sa c.po n.VS c.hd k l λv d sb=>h _ ?_;have hd:∃ o,v.get? dx=ag o:=let ⟨o,_,_,p,_⟩:=d.ns;⟨o,p⟩;refine I.write (x:=a) (e:=dx) (by rw[e];exact WS) (.inr j) (λb q hb z=>(sb.2 b hb).trans z) hd ?_;refine⟨by rw[aG O.ne];exact j,?_,O.ne,d.obj,_,d.ns,λg=>?_,λg t=>?_⟩
 ·have:=nJ f y fs;omega
 ·show M9 ((gH f y fs).lookup g) (if g=f then ag u else i g);rw[nH];by_cases q:g=f
  ·rw[dm q,dm q];exact m
  rw[dV q,dV q];exact r g
 by_cases q:g=f
 ·rw[q];exact(mJ f y fs).1
 refine(mJ f y fs).2 g (k g λz=>t ?_);show (if g=f then ag u else i g)=ay;rw[dV q];exact z
theorem Inv.made (I:#[10]):Inv X pins σ (upd (upd H s.heap.objs.size (.own (#[14]))) (#[14]) (.ins C s.heap.objs.size []))
  { s with heap:=(s.heap.push zf).push (QL C s.heap.objs.size) }:=by
 have c:(s.heap.push zf).get? s.heap.objs.size=ag zf:=e8 s.heap rfl;have f:((s.heap.push zf).push (QL C s.heap.objs.size)).get? (#[14])=ag (QL C s.heap.objs.size):=by have:=e8 (s.heap.push zf) (o:=QL C s.heap.objs.size) rfl;rwa [pd] at this
 have d:(s.heap.push zf).Ns s.heap.objs.size (λ_=>ay):=⟨zf,#[],_,c,rfl,(λe g=>ku g #[3]),λ_=>rfl⟩;have i:=I.laid (a:=s.heap.objs.size) (o:=.own (#[14])) (h':=s.heap.push zf) (t':=s.toks) (λb u q=>cc _ q) (hB _) ⟨_,c⟩;refine i.laid (a:=#[14]) (o:=.ins C s.heap.objs.size []) (t':=s.toks) (λb u q=>cc _ q) (acU (pd _ _)) ?_;have ne:s.heap.objs.size≠#[14]:=nq (US _);refine⟨by rw[aG ne,LC],Tp _,ne,f,λ_=>ay,(Heap.Ns1.of_empty d).at λo q=>cc _ q,λ_=>WS,λy h=>ku rfl h⟩
theorem FG {prog:fh}{w:il}{env:Env}{e:hL}{f:eG}{pos:UK}{s:cv}{Q:Lm}(hb:RZ e f env (sY e env)=sY e env)
  (h:ew #[4] A (sY e env) (λo a=>ew #[4] A (getAttr o f ba) Q E a) E s):ew #[4] A (sY (.Attribute e f pos) env) Q E s:=
 Attribute_any_ h (by rw[arm_eval_Attribute,hb])
end
noncomputable def JO (K:Ll)(e:TE)(f:eG):TE:=λd H Q=>e d H λx b => ∃ a C c fs v,x = .ref a/\b a=ag (.ins C c fs)/\Qo K C/\Nf K C f/\fs.lookup f=ag v/\Q v b
noncomputable def JR (K:Ll)(g tv:TE)(f:eG):TS:=λD b H=>tv b H λy e=>g b e λx d => ∃ a C c fs,x = .ref a/\d a=ag (.ins C c fs)/\Qo K C/\Nf K C f/\fs.length<1000 /\
 D.nx b (upd d a (.ins C c (gH f y fs)))
section
variable {X:Cx}{o e value:hL}{f:eG}{pos pos' S_:UK}{ta tv:TE}
theorem GN (o:PE X e ta)(hb:RZ e f X.env (sY e X.env)=sY e X.env):PE X (.Attribute e f pos) (JO X.K ta f):=by intro b s j H Q I h;refine FG hb (LR (o b s j H _ I h) λu z i=>?_);obtain⟨x,k,p,d,a,C,t,fs,v,ex,m,c,n,l,q⟩:=i;subst ex;obtain rfl:u=ma a:=d;exact xX p m c n l λy w r g=>⟨v,k,r,g,q⟩
theorem GG (w:PE X o ta)(i:PE X value tv)(z:Uy value (ag (.Attribute o f pos')) pos.line X.env=y8 b0):PS X (.Assign [.Attribute o f pos'] value pos) (JR X.K ta tv f):=by intro b s d H D I h;refine plainObj_wpAny_Assign_Attribute (LR (i b s d H _ I h) λu t ⟨y,k,A,g,q⟩=>LR (w b t d k _ A q) λp F j=>?_) z;obtain⟨x,G,B,e,a,C,E,fs,ex,r,c,n,l,m⟩:=j;subst ex;obtain rfl:p=ma a:=e;exact xi B r c n l g λJ v=>⟨d,_,v,m⟩
theorem FY {pl:Sem fg}{m:eG}{b:UK}{args:ak hL}{d:Ln}{s:cv}{i:St}{H:Hp}{Q:Lm}{r:TE}(D:PE X e r)(I:Inv X d i H s)
  (h:r i H λx n => ∃ a C o fs g,x = .ref a/\n a=ag (.ins C o fs)/\Qo X.K C/\Meth X.K C m g/\fs.lookup m=ay /\
   ∀ j,Inv X d i n j->ew #[8] X.A (adQ pos (.ref g) [.ref a] (tw pos (eK args X.env)) (Xe pos (TV [] X.env))) Q X.xe j)
  (B:sY (.Call (.Attribute e m b) args [] pos) X.env=(do
   let p ← sY e X.env
   abY b.atName
   let (f,first) ← V2 [p] (ab0 p m pl)
   adQ pos f first (tw pos (eK args X.env)) (Xe pos (TV [] X.env)))) :
  ew #[8] X.A (sY (.Call (.Attribute e m b) args [] pos) X.env) Q X.xe s:=by
 refine abk (pl:=pl) (LR (D d s i H _ I h) λu j y=>?_) B;obtain⟨x,n,t,v,a,C,o,fs,g,ex,z,c,k,l,q⟩:=y;subst ex;obtain rfl:u=ma a:=v;exact pL t z c k l (q j t)
end
section
variable {X:Cx}{pins:Ln}{σ:St}{H:Hp}{s:cv}{A:jl}{E:Lm}{Q:Lm}{c:ax}{b:fg}
inductive OF (K:Ll) (H:Hp):V->ax->Prop where
 |LN:OF K H .LN (.type "NoneType")
 |bl (x:fg):OF K H (.bl x) (.type "bool")
 |int (i:Int):OF K H (.int i) (.type "int")
 |str (x:eG):OF K H (.str x) (.type "str")
 |Vd (x:UInt64):OF K H (.Vd x) (.type "float")
 |lst {a:cn}{xs:ak V}(e:H a=ag (.lst xs)):OF K H (.ref a) (.type "list")
 |QH {a:cn}{o:Obj}{xs:ak V}(e:H a=ag (.QH o (.lst xs))):OF K H (.ref a) (.type "list")
 |tup {a:cn}{xs:ak V}(e:H a=ag (.tup xs)):OF K H (.ref a) (.type "tuple")
 |dK {a:cn}{kvs:ak (Key×V)}(e:H a=ag (.dK kvs)):OF K H (.ref a) (.type "dict")
 |dT {a:cn}{kvs:ak (ak Key×V)}(e:H a=ag (.dT kvs)):OF K H (.ref a) (.type "dict")
 |ins {a C dx:cn}{fs:ak (eG×V)}(e:H a=ag (.ins C dx fs)) (cl:Qo K C) (ha:sA K (.ref C) "__class__"=ag (ag (.builtin "object.__class__")))
   (hn:acT K (.builtin "object.__class__") "__get__"=ag (ag (.builtin "getset_descriptor.__get__"))) (htk:PySem.W.takesIn K (.builtin "object.__class__")=ag ba)
   (hm:PySem.W.mroIn K C (.type "object")=ag ba):OF K H (.ref a) (.ref C)
end
structure L0 (k:Nat) (A:jl):Prop where
 hd:A.handled=ay
 dp:A.depth+3*k+5<recursionLimit
 un:A.units+16*k+200<vu
 gd:A.guards=ag []
theorem L0.mono {j k:Nat}{A:jl}(r:L0 k A)(h:j<=k):L0 j A:=⟨r.hd,by have:=r.dp;omega,by have:=r.un;omega,r.gd⟩
theorem L0.deeper {k:Nat}{A:jl}(r:L0 (k+1) A)(env:Env):L0 k (A.deeper env):=
 ⟨r.hd,by have:=r.dp;show A.depth+1+3*k+5 < _;omega,by have:=r.un;show A.units+3+16*k+200 < _;omega,r.gd⟩
theorem xK {A:jl}{C:cn}{us:ak ax}{kw:ak (eG×ax)}:(A.under (.builtin "type.__call__" ⟨.ref C::us,kw⟩)).depth=A.depth+1:=by
 first |rfl |simp[aaQ,Code.weight,Code.isCreation,Code.isGuard,Code.isCaller,Code.frames,acV,guardIds]
theorem xJ {A:jl}{C:cn}{us:ak ax}{kw:ak (eG×ax)}:(A.under (.builtin "type.__call__" ⟨.ref C::us,kw⟩)).units=A.units+1:=by
 first |rfl |simp[aaQ,Code.cUnits,Code.frames,acV]
theorem vz {A:jl}{C:cn}{us:ak ax}{kw:ak (eG×ax)}:(A.under (.builtin "type.__call__" ⟨.ref C::us,kw⟩)).guards=A.guards:=by
 first |rfl |simp[aaQ,Code.guards,Code.isGuard,guardIds,pushGuards]
theorem L0.make {k:Nat}{A:jl}(r:L0 (k+1) A)(C:cn)(us:ak ax)(kw:ak (eG×ax)):L0 k (A.under (.builtin "type.__call__" ⟨.ref C::us,kw⟩)):=
 ⟨r.hd,by have:=r.dp;rw[xK];omega,by have:=r.un;rw[xJ];omega,by rw[vz];exact r.gd⟩
theorem L0.depth {k:Nat}{A:jl}(r:L0 k A):A.depth<recursionLimit:=by have:=r.dp;omega
theorem L0.units {k:Nat}{A:jl}(r:L0 k A):A.units+64<vu:=by have:=r.un;omega
noncomputable def sR:TA:=λ_ H Q=>Q [] H
noncomputable def FO (e:TE)(f:TA):TA:=λa H Q=>e a H λx d=>f a d λb c=>Q (x::b) c
section
variable {X:Cx}{e:hL}{es:ak hL}{te:TE}{t:TA}{pos:UK}
theorem MN:PA X [] sR:=λ_ _ _ _ H Q I h=>Calls.spliced_nil ⟨[],H,I,.nil,h⟩
theorem fy (m:PE X e te)(hr:PA X es t)(n:eK (e::es) X.env=(b0,sY e X.env)::eK es X.env:=by rfl):PA X (e::es) (FO te t):=by intro pos a s b H Q I h;rw[n];show ew _ _ (spliced ((b0,sY e X.env)::tw pos (eK es X.env))) _ _ s;refine Calls.spliced_cons (LR (m a s b H _ I h) λu k d=>?_);obtain⟨x,g,o,j,c⟩:=d;exact LR (hr pos a k b g _ o c) λv r ⟨f,l,p,q,i⟩=>⟨x::f,l,p,.cons j q,i⟩
noncomputable def JI (t:TA):TE:=λc H Q=>t c H λa b=>a.length<=d4/\∀ p,b p=ay->Q (.ref p) (upd b p (.tup a))
noncomputable def JL (t:TA):TE:=λc H Q=>t c H λa b=>a.length<=d4/\∀ p,b p=ay->Q (.ref p) (upd b p (.lst a))
theorem GM {x1}(h:PA X es t):PE X (.Tuple es x1 pos) (JI t):=by intro a s j H Q I i;refine wpAny_Tuple_spliced (LR (h pos a s j H _ I i) λl c ⟨g,d,f,r,z,q⟩=>⟨by rw[← r.length];exact z,?_⟩);have k:d c.heap.objs.size=ay:=f.LX.fresh (hB _);refine⟨.ref c.heap.objs.size,upd d c.heap.objs.size (.tup g),f.laid (t':=c.toks) (λb u e=>cc _ e) (hB _) ?_,rfl,q _ k⟩;exact⟨z,l,r,O4.new _ _⟩
theorem CB (h:PA X es t):PE X (.List es pos) (JL t):=by intro a s j H Q I i;refine wpAny_List_spliced (LR (h pos a s j H _ I i) λl c ⟨g,d,f,r,z,q⟩=>⟨by rw[← r.length];exact z,?_⟩);have k:d c.heap.objs.size=ay:=f.LX.fresh (hB _);refine⟨.ref c.heap.objs.size,upd d c.heap.objs.size (.lst g),f.laid (t':=c.toks) (λb u e=>cc _ e) (hB _) ?_,rfl,q _ k⟩;exact⟨z,l,0,r,e8 _ rfl⟩
end
abbrev Sp:=ak V->Hp->VK->XK->Prop
abbrev RC:=ak Env->Hp->cv->XK->Lm
structure Qp (P:fh) (w:il) (K:Ll) (mg:Lo) (base:kx) (A:jl) (outer:ak Env) (s:cv) (H:Hp):Prop where
 frames:A.frames=ag outer
 mod:Mod K mg base
 bs:∀ b o,base.get? b=ag o->s.heap.get? b=ag o/\H b=ay
 SU:base.objs.size<=s.heap.objs.size
 Oe:s.heap.FunFrames base outer
 Us:∀ b∈Q1 outer,H b=ay
 LX:ND P w H s.heap
 bare:Z9 s.gens
def CE (outer:ak Env)(P:fh)(w:il)(H:Hp)(s:cv)(Q:VK)(u:ax)(s':cv):Prop:=
 ∃ v a,s'.os=s.os/\Z9 s'.gens/\Un (Q1 outer) [] H a s.heap s'.heap/\ND P w a s'.heap/\RelV v u/\Q v a
def CR (CX:RC)(outer:ak Env)(P:fh)(w:il)(H:Hp)(s:cv)(Q:VK)(E:XK)(r:ada)(s':cv):Prop:=
 match r with
 | .ok (.ret u)=>CE outer P w H s Q u s'
 | .ok _=>False
 | .error e=>CX outer H s E e s'
structure Nv (P:fh) (w:il) (K:Ll) (mg:Lo) (base:kx) (CX:RC) (k:Nat) (f:cn) (fd:L4) (ps:ak eG) (sp:Sp):Prop where
 len:∀ vs H Q E,sp vs H Q E->vs.length=ps.length
 run:∀ (A:jl) (outer:ak Env) (s:cv) (H:Hp) (args:Args) (us:ak ax) (vs:ak V) (Q:VK) (E:XK),L0 k A->Qp P w K mg base A outer s H->ab1 s fd args (ps.zip us)->Vals vs us->sp vs H Q E ->
  X2 (e9 P w) A (.call (.ref f) args) (CR CX outer P w H s Q E) s
theorem Nv.imp {P:fh}{w:il}{K:Ll}{mg:Lo}{base:kx}{CX:RC}{k:Nat}{f:cn}{fd:L4}{a:ak eG}{sp b:Sp}(F:Nv P w K mg base CX k f fd a sp)
  (h:∀ vs H Q E,b vs H Q E->sp vs H Q E):Nv P w K mg base CX k f fd a b:=
 ⟨λvs H Q E q=>F.len vs H Q E (h _ _ _ _ q),λA outer s H args e vs Q E hr d hb c g=>F.run A outer s H args e vs Q E hr d hb c (h _ _ _ _ g)⟩
theorem Qp.make {P:fh}{w:il}{K:Ll}{mg:Lo}{base:kx}{A:jl}{outer:ak Env}{s:cv}{H:Hp}(e:Qp P w K mg base A outer s H)(C:cn)(us:ak ax)(kw:ak (eG×ax)) :
  Qp P w K mg base (A.under (.builtin "type.__call__" ⟨.ref C::us,kw⟩)) outer s H:=⟨by first |exact e.frames |(simpa [aaQ,Code.envs,acV,pushEnvs] using e.frames),e.mod,e.bs,e.SU,e.Oe,e.Us,e.LX,e.bare⟩
section
variable {X:Cx}{pins:Ln}{σ:St}{H:Hp}{s s':cv}
theorem Inv.VT (I:#[10]):Qp X.prog X.w X.K X.mg X.base X.A X.stack s H:=
 ⟨I.ok.frames,I.ok.mod,I.bs,hA I.ok.SU I.sz,I.stack,I.QI,I.LX,I.bare⟩
theorem Inv.after {Q:VK}{u:ax}(I:#[10])(h:CE X.stack X.prog X.w H s Q u s'):EP X pins σ Q u s':=by obtain⟨v,a,os,bare,un,LX,r,q⟩:=h;obtain⟨e,g,d,t,c⟩:=s';obtain rfl:c=s.os:=os;exact⟨v,a,I.call (h':=e) (g':=g) (d':=d) (t':=t) (ch:=[]) un LX bare (λb z=>ku z #[3]),r,q⟩
end
noncomputable def FP (sp:Sp)(d:ak V)(E:XK)(t:TA):TE:=λa H Q=>t a H λc b=>sp (c++d) b Q E
noncomputable def HZ (C:cn)(m:eG)(sp:Sp)(h:ak V)(E:XK)(f:TE)(t:TA):TE:=λb H Q=>f b H λx c => ∃ a d fs,x = .ref a/\c a=ag (.ins C d fs)/\fs.lookup m=ay /\
 t b c λg e=>sp (x::(g++h)) e Q E
noncomputable def H9 (C:cn)(sp:Sp)(f:ak V)(E:XK)(t:TA):TE:=λd H Q=>t d H λe b => ∀ x a,b x=ay->b a=ay->a≠x ->
 sp (.ref x::(e++f)) (upd (upd b a (.own x)) x (.ins C a [])) (λv c=>v = .LN/\Q (.ref x) c) E
def Binds (K:Ll)(fd:L4)(b:ak eG)(ds:ak ax):Prop:=
 ∀ (s:cv) (a:ak ax),K.In s.heap->(a++ds).length=b.length->ab1 s fd ⟨a,[]⟩ (b.zip (a++ds))
theorem Binds.all {K:Ll}{fd:L4}{a:ak eG}(h:∀ us:ak ax,us.length=a.length->VH fd ⟨us,[]⟩=y8 (a.zip us)):Binds K fd a []:=λs us _ b=>by rw[i3] at b ⊢;exact .of_eq (h us b)
def Passes (CX:RC)(X:Cx)(E:XK):Prop:=∀ (a:Ln) (c:St) (H:Hp) (s:cv) (e:ax) (b:cv),Inv X a c H s->CX X.stack H s E e b->X.xe e b
section
variable {X:Cx}{CX:RC}{k:Nat}{f C:cn}{fd:L4}{ps:ak eG}{sp:Sp}{Pz:ak V}{ds:ak ax}{E:XK}{x m:eG}{p pos apos:UK}{e o:hL}{es:ak hL}{ta:TE}{t:TA}
theorem Ch {a:Ln}{c:St}{H:Hp}{s:cv}{Q:VK}{us:ak ax}{vs:ak V}(F:Nv X.prog X.w X.K X.mg X.base CX k f fd ps sp)(hr:L0 k X.A)(hb:Binds X.K fd ps ds)(hd:Vals Pz ds)(l:Passes CX X E)
  (I:Inv X a c H s) (r:Vals vs us) (h:sp (vs++Pz) H Q E):ew #[8] X.A (call (.ref f) us) (EP X a c Q) X.xe s:=by
 have d:Vals (vs++Pz) (us++ds):=r.append hd;have i:(us++ds).length=ps.length:=by rw[← d.length];exact F.len _ _ _ _ h
 refine wpAny_call (aaR (F.run X.A X.stack s H ⟨us,[]⟩ (us++ds) (vs++Pz) Q E hr I.VT (hb s us I.Q3 i) d h) λr j b=>?_);cases r with
 |error e=>exact l a c H s e j I b
 |ok g =>
  cases g with
  |ret u=>exact I.after b
  |next=>exact QN b
  |brk=>exact QN b
  |cont=>exact QN b
theorem EO (F:Nv X.prog X.w X.K X.mg X.base CX k f fd ps sp)(hr:L0 k X.A)(d:Gl X x)(c:X.mg x=ag (.ref f))(j:Qj X.K (.ref f)=ba)(hb:Binds X.K fd ps ds)(hd:Vals Pz ds)(i:Passes CX X E)
  (m:PA X (e::es) t) (n:(x==("__debug__":eG))=b0:=by decide) (l:eK (e::es) X.env=(b0,sY e X.env)::eK es X.env:=by rfl) (o:(tw pos (eK es X.env)).any (·.1)=b0:=by rfl) :
  PE X (.Call (.Name x p) (e::es) [] pos) (FP sp Pz E t):=by
 intro a s g H Q I h;refine OO (zp I d c ?_ n);refine Zr (h₀:=X.base) I.ok.mod.VI j (LR (m pos a s g H _ I h) λz y ⟨u,v,b,r,q⟩=>⟨b.Q3,?_⟩) l o;exact Ch F hr hb hd i b r q
theorem EK {pl:Sem fg}(L:PE X o ta)(c:Qo X.K C)(d:Meth X.K C m f)(F:Nv X.prog X.w X.K X.mg X.base CX k f fd ps sp)(hr:L0 k X.A)(hb:Binds X.K fd ps ds)(hd:Vals Pz ds)(z:Passes CX X E)(M:PA X (e::es) t)
  (O:eK (e::es) X.env=(b0,sY e X.env)::eK es X.env:=by rfl) (N:(tw pos (eK es X.env)).any (·.1)=b0:=by rfl)
  (J:sY (.Call (.Attribute o m apos) (e::es) [] pos) X.env=(do
   let i ← sY o X.env
   abY apos.atName
   let (f,first) ← V2 [i] (ab0 i m pl)
   adQ pos f first (tw pos (eK (e::es) X.env)) (Xe pos (TV [] X.env))):=by rfl) :
  PE X (.Call (.Attribute o m apos) (e::es) [] pos) (HZ C m sp Pz E ta t):=by
 intro b s g H Q I h;refine abk (pl:=pl) (LR (L b s g H _ I h) λu G v=>?_) J;obtain⟨x,y,j,p,a,P,fs,ex,D,l,q⟩:=v;subst ex;obtain rfl:u=ma a:=p;refine pL j D c d l ?_;refine Zr (first:=[.ref a]) (h₀:=X.base) I.ok.mod.VI d.kp (LR (M pos b G g y _ j q) λus R ⟨vs,S,n,r,B⟩=>⟨n.Q3,?_⟩) O N;exact Ch (us:=.ref a::us) (vs:=.ref a::vs) F hr hb hd z n (.cons rfl r) B
structure Mk (K:Ll) (C f:cn):Prop where
 makes:abc K C=ba
 init:sA K (.ref C) "__init__"=ag (ag (.ref f))
 fn:Zc K (.ref f)=ba
 kp:Qj K (.ref C)=ba
theorem Cg {a:Ln}{g:St}{H:Hp}{s:cv}{Q:VK}{us:ak ax}{vs:ak V}(M:Mk X.K C f)(F:Nv X.prog X.w X.K X.mg X.base CX k f fd ps sp)(hr:L0 (k+1) X.A)(hb:Binds X.K fd ps ds)(hd:Vals Pz ds)
  (o:Passes CX X E) (I:Inv X a g H s) (r:Vals vs us)
  (h:∀ x c,H x=ay->H c=ay->c≠x->sp (.ref x::(vs++Pz)) (upd (upd H c (.own x)) x (.ins C c [])) (λv q=>v = .LN/\Q (.ref x) q) E) :
  ew #[8] X.A (call (.ref C) us) (EP X a g Q) X.xe s:=by
 have i:=h (#[14]) s.heap.objs.size (I.LX.fresh (aac _)) (I.LX.fresh (hB _)) (nq (US _));have d:=Inv.made (C:=C) I;have j:Vals (V.ref (#[14])::(vs++Pz)) (ma (#[14])::(us++ds)):=.cons rfl (r.append hd);have m:(ma (#[14])::us++ds).length=ps.length:=by have e:=j.length;rw[F.len _ _ _ _ i] at e;exact e.symm
 refine wpAny_call (C8 (f:=f) I.Q3 M.makes M.init (UR.mp M.fn) (aaR (F.run _ X.stack _ _ ⟨ma (#[14])::us,[]⟩ (ma (#[14])::(us++ds)) _ _ E (hr.make C us [])
  (d.VT.make C us []) (hb _ (ma (#[14])::us) d.Q3 m) j i) λr n b=>?_))
 cases r with
 |error e=>exact o a g _ _ e n d b
 |ok l =>
  cases l with
  |ret u =>
   obtain⟨v,p,t,z,ev,y⟩:=d.after b;subst ev;exact⟨z,⟨V.ref (#[14]),p,t,rfl,y⟩⟩
  |next=>exact QN b
  |brk=>exact QN b
  |cont=>exact QN b
theorem EL (M:Mk X.K C f)(F:Nv X.prog X.w X.K X.mg X.base CX k f fd ps sp)(hr:L0 (k+1) X.A)(d:Gl X x)(c:X.mg x=ag (.ref C))(hb:Binds X.K fd ps ds)(hd:Vals Pz ds)(i:Passes CX X E)
  (l:PA X (e::es) t) (m:(x==("__debug__":eG))=b0:=by decide) (j:eK (e::es) X.env=(b0,sY e X.env)::eK es X.env:=by rfl) (n:(tw pos (eK es X.env)).any (·.1)=b0:=by rfl) :
  PE X (.Call (.Name x p) (e::es) [] pos) (H9 C sp Pz E t):=by
 intro a s g H Q I h;refine OO (zp I d c ?_ m);refine Zr (h₀:=X.base) I.ok.mod.VI M.kp (LR (l pos a s g H _ I h) λy v ⟨o,u,b,r,q⟩=>⟨b.Q3,?_⟩) j n;exact Cg M F hr hb hd i b r q
end
section
variable {X:Cx}{CX:RC}{k:Nat}{f C:cn}{fd:L4}{ps ks:ak eG}{sp:Sp}{E:XK}{x m:eG}{p pos apos kpos:UK}{e o:hL}{es:ak hL}{kws:ak WH}{te ta:TE}{t tk:TA}{nm:a9 eG}
structure Yr (K:Ll) (fd:L4) (ps ks:ak eG) (g:ak ax->ak ax->ak ax) (gV:ak V->ak V->ak V):Prop where
 to:∀ (s:cv) (us ws:ak ax),K.In s.heap->(g us ws).length=ps.length->ab1 s fd ⟨us,ks.zip ws⟩ (ps.zip (g us ws))
 rel:∀ {vs:ak V}{us:ak ax}{zs:ak V}{ws:ak ax},Vals vs us->Vals zs ws->Vals (gV vs zs) (g us ws)
variable {g:ak ax->ak ax->ak ax}{gV:ak V->ak V->ak V}
end
structure Lw (N P:ak eG) (sc:lE):Prop where
 kind:sc.kind = .function
 co:sc.isCoroutine=b0
 gen:sc.isGenerator=b0
 nd:N.Nodup
 pre:N.take P.length=P
 par:∀ x∈P,sc.names.lookup x=ag .local∨sc.names.lookup x=ag .cell
 UA:∀ y∈sc.names,y.2≠.free
theorem sC {kindOf:eG->a9 Ra}{x:eG}:∀ {binds:ak (eG×ax)}{m:Lo},(∀ v,(x,v)∉binds)->adR kindOf binds m x=m x
 |[],_,_=>rfl
 |(n,v)::r,m,h=>by
  unfold adR;rw[sC λw a=>h w (eJ _ a)];split
  ·have:x≠n:=by rintro rfl;exact h v gy
   simp[this]
  rfl
theorem sE {kindOf:eG->a9 Ra}{x:eG}:∀ {binds:ak (eG×ax)}{m:Lo},(∀ v,(x,v)∉binds)->adS kindOf binds m x=m x
 |[],_,_=>rfl
 |(n,v)::r,m,h=>by
  unfold adS;rw[sE λw a=>h w (eJ _ a)];split
  ·rfl
  have:x≠n:=by rintro rfl;exact h v gy
  simp[this]
theorem sD {kindOf:eG->a9 Ra}{x:eG}{v:ax}:∀ {P:ak eG}{vs:ak ax}{i:Nat}{m:Lo},P.Nodup->P[i]?=ag x->vs[i]?=ag v->kindOf x=ag .local ->
  adR kindOf (P.zip vs) m x=ag v
 |[],_,_,_,_,h,_,_=>by simp at h
 |_::_,[],_,_,_,_,h,_=>by simp at h
 |p::P,w::vs,0,m,nd,h1,h2,hk=>by
  simp at h1 h2;subst h1;subst h2;show adR kindOf ((p,w)::P.zip vs) m p=_;unfold adR;rw[sC λv a=>(Ui.mp nd).1 (adT a).1,dm hk];simp
 |p::P,w::vs,i+1,m,nd,h1,h2,hk=>by
  show adR kindOf ((p,w)::P.zip vs) m x=_;unfold adR;exact sD (i:=i) (Ui.mp nd).2 (by simpa using h1) (by simpa using h2) hk
theorem sF {kindOf:eG->a9 Ra}{x:eG}{v:ax}:∀ {P:ak eG}{vs:ak ax}{i:Nat}{m:Lo},P.Nodup->P[i]?=ag x->vs[i]?=ag v->kindOf x≠ag .local ->
  adS kindOf (P.zip vs) m x=ag v
 |[],_,_,_,_,h,_,_=>by simp at h
 |_::_,[],_,_,_,_,h,_=>by simp at h
 |p::P,w::vs,0,m,nd,h1,h2,hk=>by
  simp at h1 h2;subst h1;subst h2;show adS kindOf ((p,w)::P.zip vs) m p=_;unfold adS;rw[sE λv a=>(Ui.mp nd).1 (adT a).1,dV hk];simp
 |p::P,w::vs,i+1,m,nd,h1,h2,hk=>by
  show adS kindOf ((p,w)::P.zip vs) m x=_;unfold adS;exact sF (i:=i) (Ui.mp nd).2 (by simpa using h1) (by simpa using h2) hk
noncomputable def start (N:ak eG)(vs:ak V):St:=vs.map ag++ih (N.length-vs.length) ay
noncomputable def pW (CX:RC)(P:fh)(w:il)(K:Ll)(mg:Lo)(base:kx)(N:ak eG)(qual:eG)(scope:lE)(f:cn)(cd:ax)(A:jl)(outer:ak Env)(s:cv)(H:Hp)(E:XK):Cx where
 prog:=P
 w:=w
 K:=K
 mg:=mg
 base:=base
 A:=A.deeper (XI qual scope s.heap.objs.size f cd)
 N:=N
 s₀:=s
 H₀:=H
 env:=XI qual scope s.heap.objs.size f cd
 outer:=outer
 stack:=XI qual scope s.heap.objs.size f cd::outer
 ex:=[]
 calm:=ba
 fn:=λ_=>ba
 pn:=[]
 xe:=λe a=>ew (e9 P w) (A.deeper (XI qual scope s.heap.objs.size f cd)) (leaving (XI qual scope s.heap.objs.size f cd) e) (λ_ VV=>CX outer H s E e VV) (λb VV=>CX outer H s E b VV) a
theorem vZ {sc:lE}{n:Nat}{x:eG}(h:sc.names.lookup x=ag .cell):∃ c,(A1 n sc.names []).lookup x=ag c:=by have q:=aaS sc.names n [] (.inl h);exact aao.mp q
theorem Be {CX:RC}{P:fh}{w:il}{K:Ll}{mg:Lo}{base:kx}{N j:ak eG}{qual:eG}{scope:lE}{f:cn}{cd:ax}{A:jl}{outer:ak Env}{s B:cv}{H:Hp}{E:XK}{us:ak ax}{vs:ak V}
  (S:Lw N j scope) (hd:A.handled=ay) (g:Qp P w K mg base A outer s H) (J:vs.length=j.length) (r:Vals vs us)
  (x:InCallC s s.heap.objs.size (adR (XI qual scope s.heap.objs.size f cd).kindOf (j.zip us) λ_=>ay) (A1 (#[14]) scope.names []) (adS (XI qual scope s.heap.objs.size f cd).kindOf (j.zip us) λ_=>ay) B) :
  Inv (pW CX P w K mg base N qual scope f cd A outer s H E) [] (start N vs) H B:=by
 have M:j.length<=N.length:=by have:=zc abv S.pre;rw[R0] at this;omega
 obtain⟨o,tk,rfl,D⟩:=x.done;have t:∀ b:cn,b∉(pW CX P w K mg base N qual scope f cd A outer s H E).ex:=λb z=>ku (show b∈([]:ak cn) from z) #[3]
 refine⟨⟨g.mod,S.kind,rfl,rfl,hB _,λy z c o d=>?_,λy hy=>?_,λy c _ h=>?_,λ_=>hd,Around.frames_deeper g.frames,.inr ⟨rfl,rfl⟩,λb z=>ku z (t b),g.bs,g.SU,λb _ _=>t b,λb z=>ku z (t b),g.Oe,g.Us⟩,
  rfl,g.bare,Un.kept D,⟨_,x.toInCall.ns,λi y v o d L=>?_⟩,λy c h=>⟨_,x.cell y c h⟩,g.LX.fresh (hB _),λy c h=>?_,λp l=>ku (show p∈([]:Ln) from l) #[3],g.LX.kept D,?_⟩
 ·exact name_of_addr x.apart (Uq o) (Uq d)
 ·have hy:scope.names.lookup y=ag .cell∨scope.names.lookup y=ag .free:=hy;rcases hy with hy |hy
  ·exact vZ hy
  exact ku rfl (S.UA _ (Uq hy))
 ·exact K5 (x.above y c (Uq h))
 ·have m:i<vs.length:=by
   unfold start at d;by_cases m:i<vs.length
   ·exact m
   rw[hO (by simpa using m)] at d;rw[Sv] at d;split at d<;>cases d
  have G:vs[i]?=ag v:=by
   unfold start at d;rw[h7 (by simpa using m),hF] at d;cases e:vs[i]? with
   |none=>rw[e] at d;cases d
   |some a=>rw[e] at d;cases d;rfl
  obtain⟨u,C,I⟩:=r.get G;have l:j[i]?=ag y:=by rw[← S.pre,List.getElem?_take_of_lt #[0]];exact o
  have F:j.Nodup:=by rw[← S.pre];exact S.nd.sublist (aad _ _)
  refine⟨u,I,?_⟩;rcases S.par y (y3 l) with k |k
  ·exact .inl ⟨k,sD F l C k⟩
  obtain⟨c,e⟩:=vZ (n:=#[14]) k;refine .inr ⟨.inl k,c,e,?_⟩;have q:=x.cell y c e;rw[sF F l C (by show scope.names.lookup y≠_;rw[k];decide)] at q;exact q
 ·exact g.LX.fresh (K5 (x.above y c (Uq h)))
 unfold start;show _=N.length;rw[da,d7,K2];omega
theorem IY {CX:RC}{P:fh}{w:il}{K:Ll}{mg:Lo}{base:kx}{k:Nat}{f:cn}{name qual:eG}{params:XN}{body:ak r4}{scope:lE}{B kV doc m c ct oc:ax}{p L:a9 cn}
  {Y:ib (a9 ax)}{N h:ak eG}{sp:Sp}(O:K.lookup f=ag ⟨oc,L,.func (L7 name qual params body scope B kV doc m p c ct),Y⟩) (U:Zs K c qual=ba) (S:Lw N h scope)
  (len:∀ vs H Q E,sp vs H Q E->vs.length=h.length)
  (G:∀ (A:jl) (outer:ak Env) (s:cv) (H:Hp) (vs:ak V) (Q:VK) (E:XK),L0 k (A.deeper (XI qual scope s.heap.objs.size f c))->sp vs H Q E ->
   ∃ t,Qi (pW CX P w K mg base N qual scope f c A outer s H E) body t/\t { nx:=λ_ H'=>Q .LN H',rt:=Q } (start N vs) H) :
  Nv P w K mg base CX (k+1) f (L7 name qual params body scope B kV doc m p c ct) h sp:=by
 refine⟨len,λA outer s H args F vs Q E hr g hb r C=>?_⟩;have M:=len _ _ _ _ C;have KX:K.In s.heap:=g.mod.VI.keeps λb o e=>(g.bs b o e).1;have l:s.heap.NoLimit:=g.mod.nolimit.keeps λb o e=>(g.bs b o e).1
 have D:∀ y∈h.zip F,scope.names.lookup y.1=ag .local∨(scope.names.lookup y.1=ag .cell/\((A1 (#[14]) scope.names []).lookup y.1).isSome=ba):=λT hy=>by
  obtain⟨n,v⟩:=T
  rcases S.par n (adT hy).1 with q |q
  ·exact .inl q
  exact .inr ⟨q,aaS _ _ _ (.inl q)⟩
 refine codeAny_call_function hr.depth (KX _ _ O) rfl S.co S.gen rfl (PySem.W.codeRec_of KX U) (hb _ _ _ _ ?_);refine wpAny_newFunctionEnv_cells S.kind D λenv X z x=>?_;subst X;refine⟨l.keeps x.toInCall.keep,codeAny_func ?_⟩;obtain⟨t,ht,Z⟩:=G A outer s H vs Q E (hr.deeper _) C;have I:Inv (pW CX P w K mg base N qual scope f c A outer s H E) [] (start N vs) H z:=Be S hr.hd g M r x;refine yk (ht [] z (start N vs) H _ I Z) (λR i d=>?_) λe i d=>d
 have fin:∀ {a:St}{H':Hp}{v:V}{u:ax},Inv (pW CX P w K mg base N qual scope f c A outer s H E) [] a H' i->RelV v u->Q v H'->CE outer P w H s Q u i:=
  λ{a H' v u} J j q=>⟨v,H',J.os,J.bare,J.base,J.LX,j,q⟩
 cases R with
 |ret u =>
  obtain⟨v,a,H',J,j,q⟩:=d;exact fin J j q
 |next =>
  obtain⟨a,H',J,q⟩:=d;exact fin (v:=V.LN) (u:=R6) J rfl q
 |brk =>
  obtain⟨_,_,_,q⟩:=d;exact QN q
 |cont =>
  obtain⟨_,_,_,q⟩:=d;exact QN q
section
variable {X:Cx}{x:eG}{p pos:UK}{e:hL}{es:ak hL}{t:TA}{id T:W7}{r:ak V->Hp->VK->Prop}
noncomputable def Ys (r:ak V->Hp->VK->Prop)(t:TA):TE:=λa H Q=>t a H λc b=>r c b Q
theorem lD (hc:iS X (.builtin id) r)(j:Gl X x)(g:X.mg x=ay)(c:uk x=ag (.builtin id))(o:PA X (e::es) t)(u:x≠"__name__":=by decide)(q:(x==("__debug__":eG))=b0:=by decide)
  (m:eK (e::es) X.env=(b0,sY e X.env)::eK es X.env:=by rfl) (v:(tw pos (eK es X.env)).any (·.1)=b0:=by rfl):PE X (.Call (.Name x p) (e::es) [] pos) (Ys r t):=by
 intro a s b H Q I h;refine OO (kD I j g c ?_ u q);exact PyProof.Rows.callWith_builtin1 (LR (o pos a s b H _ I h) λn l ⟨f,i,w,k,d⟩=>hc a l b i f n Q w k d) m v
theorem mF (hc:iS X (.type T) r)(j:Gl X x)(g:X.mg x=ay)(c:uk x=ag (.type T))(o:PA X (e::es) t)(u:x≠"__name__":=by decide)(q:(x==("__debug__":eG))=b0:=by decide)
  (m:eK (e::es) X.env=(b0,sY e X.env)::eK es X.env:=by rfl) (v:(tw pos (eK es X.env)).any (·.1)=b0:=by rfl):PE X (.Call (.Name x p) (e::es) [] pos) (Ys r t):=by
 intro a s b H Q I h;refine OO (kD I j g c ?_ u q);exact Vh (LR (o pos a s b H _ I h) λn l ⟨f,i,w,k,d⟩=>hc a l b i f n Q w k d) m v
end
section
variable {κ:Type} [PR κ]
noncomputable def kZ (kvs:ak (κ×V))(k : κ):a9 V:=(kvs.find? λa=>dv (a.1=k)).map (·.2)
noncomputable def putK (kvs:ak (κ×V))(k : κ)(v:V):ak (κ×V):=
 if (kvs.any λa=>dv (a.1=k))=ba then kvs.map (λa=>if a.1=k then (a.1,v) else a) else kvs++[(k,v)]
theorem oJ {p : κ×V}{r:ak (κ×V)}{k : κ}(e:p.1=k):kZ (p::r) k=ag p.2:=by simp[kZ,wh,e]
theorem oK {p : κ×V}{r:ak (κ×V)}{k : κ}(e:¬ p.1=k):kZ (p::r) k=kZ r k:=by simp[kZ,wh,e]
theorem uI (k : κ):∀ kvs:ak (κ×V),(kvs.any λa=>dv (a.1=k))=(kZ kvs k).isSome
 |[]=>rfl
 |p::r=>by
  rw[Rm];by_cases e:p.1=k
  ·simp only[oJ e,ia e,Bool.true_or,acy]
  rw[oK e,eh e,ael];exact uI k r
theorem nI (kvs:ak (κ×V))(k : κ)(v:V):(putK kvs k v).length<=kvs.length+1:=by
 unfold putK;split
 ·rw[d7];omega
 rw[da,j2,aaT];omega
theorem M9.MB {o:a9 V}{u:a9 ax}(r:M9 o u):o.isSome=u.isSome:=by
 cases o with
 |none=>cases u with
  |none=>rfl
  |some _=>exact(show False from r).elim
 |some _=>cases u with
  |none=>exact(show False from r).elim
  |some _=>rfl
theorem KV.val {kvs:ak (κ×V)}{vs:ak (κ×ax)}(r:KV kvs vs)(k : κ):M9 (kZ kvs k) (ab2 vs k):=by
 unfold KV at r
 induction r with
 |nil=>exact WS
 | @cons p q i c h t f =>
  obtain⟨d,g⟩:=h;by_cases e:p.1=k
  ·have a:q.1=k:=d.symm.trans e;have b:ab2 (q::c) k=ag q.2:=by simp[ab2,wh,a]
   rw[oJ e,b];exact g
  have a:¬ q.1=k:=λz=>e (d.trans z);have b:ab2 (q::c) k=ab2 c k:=by simp[ab2,wh,a]
  rw[oK e,b];exact f
theorem KV.any {kvs:ak (κ×V)}{vs:ak (κ×ax)}(r:KV kvs vs)(k : κ):(kvs.any λa=>dv (a.1=k))=vs.any λa=>dv (a.1=k):=by
 unfold KV at r
 induction r with
 |nil=>rfl
 |cons h t b=>rw[Rm,Rm,b,h.1]
theorem KV.UB {kvs:ak (κ×V)}{vs:ak (κ×ax)}(r:KV kvs vs)(k : κ){y:V}{u:ax}(c:RelV y u) :
  KV (kvs.map λa=>if a.1=k then (a.1,y) else a) (vs.map λa=>if a.1=k then (a.1,u) else a):=by
 unfold KV at r ⊢
 induction r with
 |nil=>exact .nil
 | @cons p q g i h t d =>
  rw[hH,hH];refine .cons ?_ d;obtain⟨b,f⟩:=h;by_cases e:p.1=k
  ·rw[dm e,dm (b.symm.trans e)];exact⟨b,c⟩
  rw[dV e,dV (λz=>e (b.trans z))];exact⟨b,f⟩
theorem KV.put {kvs:ak (κ×V)}{vs:ak (κ×ax)}(r:KV kvs vs)(k : κ){y:V}{u:ax}(a:RelV y u):KV (putK kvs k y) (stored vs k u):=by
 unfold putK stored;rw[r.any k];by_cases e:(vs.any λb=>dv (b.1=k))=ba
 ·rw[dm e,dm e];exact r.UB k a
 rw[dV e,dV e];exact aez r ⟨rfl,a⟩
theorem KV.length {kvs:ak (κ×V)}{vs:ak (κ×ax)}(r:KV kvs vs):kvs.length=vs.length:=X1 r
end
theorem rM {P:fh}{w:il}{k:Key}{u:ax}(r:RelV (kV k) u):(bt P w).is k u=ba:=by
 cases k with
 |inl i=>obtain⟨t,e⟩:=(show ∃ t,u=Xs i t from r);subst e;exact vp P w i t
 |inr x=>obtain⟨t,e⟩:=(show ∃ t,u=abW x t from r);subst e;exact vo P w x t
theorem rN {P:fh}{w:il}:∀ {a:ak Key}{us:ak ax},Vals (a.map kV) us->ItemsAre (bt P w) a us
 |[],_,r=>by rw[aaU] at r;cases r;exact .nil
 |k::a,_,r=>by
  rw[hH] at r;cases r with
  |cons h t=>exact .cons (rM h) (rN t)
abbrev KT (H:Hp):ak (ak Key×V)->ak (ak Key×cn×ax)->Prop:=lU λp q=>p.1=q.1/\H q.2.1=ag (.tup (p.1.map kV))/\RelV p.2 q.2.2
theorem KT.val {H:Hp}{kvs:ak (ak Key×V)}{xs:ak (ak Key×cn×ax)}(r:KT H kvs xs)(k:ak Key):M9 (kZ kvs k) ((aaC xs k).map (·.2)):=by
 induction r with
 |nil=>exact WS
 | @cons p q i c h t f =>
  obtain⟨d,_,g⟩:=h;by_cases e:p.1=k
  ·have a:q.1=k:=d.symm.trans e;have b:aaC (q::c) k=ag q.2:=by simp[aaC,wh,a]
   rw[oJ e,b];exact g
  have a:¬ q.1=k:=λz=>e (d.trans z);have b:aaC (q::c) k=aaC c k:=by simp[aaC,wh,a]
  rw[oK e,b];exact f
theorem KT.UB {H:Hp}{kvs:ak (ak Key×V)}{xs:ak (ak Key×cn×ax)}(r:KT H kvs xs)(k:ak Key){y:V}{u:ax}(d:RelV y u) :
  KT H (kvs.map λb=>if b.1=k then (b.1,y) else b) (xs.map (putAt k u)):=by
 induction r with
 |nil=>exact .nil
 | @cons p q i j h t f =>
  rw[hH,hH];refine .cons ?_ f;obtain⟨a,c,g⟩:=h;unfold putAt;by_cases e:p.1=k
  ·rw[dm e,dm (a.symm.trans e)];exact⟨a,c,d⟩
  rw[dV e,dV (λz=>e (a.trans z))];exact⟨a,c,g⟩
theorem KT.put {H:Hp}{kvs:ak (ak Key×V)}{xs:ak (ak Key×cn×ax)}(r:KT H kvs xs)(k:ak Key){b:cn}{y:V}{u:ax}(hb:H b=ag (.tup (k.map kV)))(a:RelV y u) :
  KT H (putK kvs k y) (storedH xs k b u):=by
 have e:(kvs.any λc=>dv (c.1=k))=(aaC xs k).isSome:=by rw[uI,(r.val k).MB,Sw]
 unfold putK storedH;rw[e];by_cases q:(aaC xs k).isSome=ba
 ·rw[dm q,dm q];exact r.UB k a
 rw[dV q,dV q];exact aez r ⟨rfl,hb,a⟩
theorem KT.keeps {H H':Hp}{kvs:ak (ak Key×V)}{xs:ak (ak Key×cn×ax)}(r:KT H kvs xs)(a:∀ b ys,H b=ag (.tup ys)->H' b=ag (.tup ys)):KT H' kvs xs:=
 Paired.Pt r λ_ _ z=>⟨z.1,a _ _ z.2.1,z.2.2⟩
section
variable {P:fh}{w:il}{H:Hp}{h:kx}{a:cn}
theorem FT {u:HO}(ok:ND P w H h)(e:Rd H a u):L9 P w H h a u:=e.ok ok
theorem vS {kvs:ak (Key×V)}(ok:ND P w H h)(e:Rd H a (.dK kvs)):kvs.length<=d4/\(a==Uh)=b0/\∃ vs,KV kvs vs/\h.DictOf (bt P w) a vs:=
 show L9 P w H h a (.dK kvs) from FT ok e
theorem Je {kvs:ak (Key×V)}(ok:ND P w H h)(e:H a=ag (.dK kvs)):kvs.length<=d4/\(a==Uh)=b0/\∃ vs,KV kvs vs/\h.DictOf (bt P w) a vs:=vS ok (.inl e)
theorem pI {b:ak Key}(ok:ND P w H h)(e:H a=ag (.tup (b.map kV))):(abX (bt P w)).is h b a:=by obtain⟨_,its,r,p⟩:=(show L9 P w H h a (.tup (b.map kV)) from ok a _ e);obtain⟨o,c,d,n,f⟩:=p.tup;exact⟨o,its.toArray,n,c,d,f,by simpa using rN r⟩
theorem vR {kvs:ak (ak Key×V)}(ok:ND P w H h)(e:Rd H a (.dT kvs)):kvs.length<=d4/\(a==Uh)=b0 /\
  ∃ xs,KT H kvs xs/\h.DictOfH (abX (bt P w)) a xs:=by
 obtain⟨z,y,xs,r,o,es,ep,i,j,f,c,g⟩:=(show L9 P w H h a (.dT kvs) from FT ok e);refine⟨z,y,xs,r,o,es,ep,i,j,f,c,λx hx=>?_,g⟩
 have all:∀ {l:ak (ak Key×V)}{m:ak (ak Key×cn×ax)},KT H l m->∀ x∈m,(abX (bt P w)).is h x.1 x.2.1:=by
  intro l m q
  induction q with
  |nil=>intro x hx;exact nomatch hx
  | @cons p q k n b t d =>
   intro x hx;rcases f5.mp hx with e |hx
   ·subst e;exact pI ok (by rw[← b.1];exact b.2.1)
   exact d x hx
 exact all r x hx
theorem Jd {kvs:ak (ak Key×V)}(ok:ND P w H h)(e:H a=ag (.dT kvs)):kvs.length<=d4/\(a==Uh)=b0 /\
  ∃ xs,KT H kvs xs/\h.DictOfH (abX (bt P w)) a xs:=vR ok (.inl e)
end
def Oh (H:Hp)(a:cn)(y:V)(r:a9 V):Prop:=
 (∃ c k,Rd H a (.dK c)/\y=kV k/\r=kZ c k)∨∃ c k b,Rd H a (.dT c)/\y = .ref b/\H b=ag (.tup (k.map kV))/\r=kZ c k
def RW (H:Hp)(a:cn)(y v:V)(H':Hp):Prop:=
 (∃ c k,H a=ag (.dK c)/\y=kV k/\c.length<d4/\H'=upd H a (.dK (putK c k v))) ∨
 ∃ c k b,H a=ag (.dT c)/\y = .ref b/\H b=ag (.tup (k.map kV))/\c.length<d4/\H'=upd H a (.dT (putK c k v))
theorem Oh.k {H:Hp}{a:cn}{kvs:ak (Key×V)}{k:Key}(e:H a=ag (.dK kvs)):Oh H a (kV k) (kZ kvs k):=.inl ⟨kvs,k,.inl e,rfl,rfl⟩
theorem RW.k {H:Hp}{a:cn}{kvs:ak (Key×V)}{k:Key}{v:V}(e:H a=ag (.dK kvs))(b:kvs.length<d4):RW H a (kV k) v (upd H a (.dK (putK kvs k v))):=.inl ⟨kvs,k,e,rfl,b,rfl⟩
section
variable {X:Cx}{pins:Ln}{σ:St}{H:Hp}{s:cv}{a:cn}{y v:V}{u r:ax}{o:a9 V}{A:jl}{E:Lm}
theorem Inv.big (I:#[10]):Uh<s.heap.objs.size:=by have h:my<s.heap.objs.size:=(I.mod.glob.keeps I.bk).lt;exact V3 #[2] h
theorem Br {Q:Lm}(B:A.units+1<vu)(I:#[10])(g:Oh H a y (ag v))(n:RelV y u)(h:∀ c s',Inv X pins σ H s'->RelV v c->Q c s') :
  ew #[8] A (Xd (.ref a) u) Q E s:=by
 rcases g with ⟨i,k,e,m,l⟩ |⟨i,k,b,e,m,r,l⟩
 ·subst m;obtain⟨z,hd,q,rel,f⟩:=vS I.LX e;obtain⟨c,j,d⟩:=M9.some_of (v:=v) (o:=ab2 q k) (by rw[l];exact rel.val k);exact wpAny_getItem_of (rM n) f.mapOf j (h c _ (I.tok _) d)
 subst m;cases (show u=ma b from n);obtain⟨z,hd,t,rel,f⟩:=vR I.LX e;obtain⟨c,j,d⟩:=M9.some_of (v:=v) (o:=(aaC t k).map (·.2)) (by rw[l];exact rel.val k);obtain⟨p,C,x⟩:=en.mp j;refine acz (WU B) (pI I.LX r) f C ?_;rw[x];exact h c _ (I.tok _) d
theorem Kq {Q:Lm}(m:A.units+1<vu)(I:#[10])(g:Oh H a y o)(i:RelV y u)(h:∀ s',Inv X pins σ H s'->Q (.bool o.isSome) s') :
  ew #[8] A (qa .In u (.ref a)) Q E s:=by
 rcases g with ⟨d,k,e,f,l⟩ |⟨d,k,b,e,f,j,l⟩
 ·subst f;obtain⟨z,hd,n,rel,c⟩:=vS I.LX e;refine wpAny_in_of (rM i) hd c.mapOf ?_;rw[← (rel.val k).MB,← l];exact h _ (I.tok _)
 subst f;cases (show u=ma b from i);obtain⟨z,hd,p,rel,c⟩:=vR I.LX e;refine wpAny_in_heap (WU m) (pI I.LX j) hd c ?_;have q:=(rel.val k).MB;rw[Sw] at q;rw[← q,← l];exact h _ (I.tok _)
theorem Fs {Q:Lm}(m:A.units+1<vu)(I:#[10])(g:Oh H a y o)(i:RelV y u)(h:∀ s',Inv X pins σ H s'->Q (.bool (!o.isSome)) s') :
  ew #[8] A (qa .NotIn u (.ref a)) Q E s:=by
 rcases g with ⟨d,k,e,f,l⟩ |⟨d,k,b,e,f,j,l⟩
 ·subst f;obtain⟨z,hd,n,rel,c⟩:=vS I.LX e;refine wpAny_notIn_of (rM i) hd c.mapOf ?_;rw[← (rel.val k).MB,← l];exact h _ (I.tok _)
 subst f;cases (show u=ma b from i);obtain⟨z,hd,p,rel,c⟩:=vR I.LX e;refine wpAny_notIn_heap (WU m) (pI I.LX j) hd c ?_;have q:=(rel.val k).MB;rw[Sw] at q;rw[← q,← l];exact h _ (I.tok _)
theorem ua {h':kx}{t':Nat}{c:HO}(I:#[10])(f:VG (H a))(d:UP a s.heap h')(g:∃ q,h'.get? a=ag q)(new:L9 X.prog X.w (upd H a c) h' a c) :
  Inv X pins σ (upd H a c) { s with heap:=h',toks:=t' }:=
 I.write (x:=a) (e:=a) f (#[9]) (λb q hb z=>(d.2 b hb).trans z) g new
theorem Hi {P:fh}{w:il}{H':Hp}{h':kx}{kvs:ak (Key×V)}{vs:ak (Key×ax)}(z:kvs.length<=d4)(hd:(a==Uh)=b0)(rel:KV kvs vs)(b:h'.DictOf (bt P w) a vs) :
  L9 P w H' h' a (.dK kvs):=⟨z,hd,vs,rel,b⟩
theorem Bq {H':Hp}{Q:ab9->cv->Prop}(L:A.units+1<vu)(I:#[10])(g:RW H a y v H')(B:RelV y u)(F:RelV v r)(h:∀ s',Inv X pins σ H' s'->Q () s') :
  ew #[8] A (abZ (.ref a) u r) Q E s:=by
 rcases g with ⟨d,k,e,t,l,n⟩ |⟨d,k,b,e,t,C,l,n⟩
 ·subst t n;obtain⟨z,hd,G,rel,o⟩:=Je I.LX e;have j:G.length<=d4:=by rw[← rel.length];exact z
  have m:(putK d k v).length<=d4:=by have:=nI d k v;omega
  refine wpAny_setItem_pairs (hsz:=j) (rM B) o λD f p=>h _ ?_;have M:∃ q,D.get? a=ag q:=let ⟨q,_,_,i,_⟩:=f;⟨q,i⟩;exact ua I (by rw[e];exact WS) p M (Hi m hd (rel.put k F) f)
 subst t n;cases (show u=ma b from B);obtain⟨z,hd,K,rel,o⟩:=Jd I.LX e;have j:K.length<=d4:=by rw[← X1 rel];exact z
 have m:(putK d k v).length<=d4:=by have:=nI d k v;omega
 refine acA (hsz:=j) (WU L) (pI I.LX C) o λD f p=>h _ ?_;obtain⟨q,es,ep,i,P,N,J,_,O⟩:=f;refine ua I (by rw[e];exact WS) p ⟨q,i⟩ ⟨m,hd,_,(rel.put k C F).keeps λc R x=>?_,q,es,ep,i,P,N,J,O⟩;rw[aG (ID x e (λz=>nomatch z))];exact x
end
def BB (i:hL):Prop:=∀ a b,abw i b0 a b=operate [a,b] (Xd a b)
theorem yI {prog:fh}{w:il}{A:jl}{E:Lm}{s:cv}{env:Env}{value slice:hL}{pos:UK}{T id:W7}{Q:Lm}
  (j:typeLookup (.type T) "__getitem__"=y8 (ag (.builtin id))) (k:BB slice)
  (h:ew #[4] A (sY value env) (λo d=>ew #[4] A (sY slice env) (λi a=>a.TypeIs o T/\ew #[4] A (Xd o i) Q E a) E d) E s) :
  ew #[4] A (sY (.Subscript value slice pos) env) Q E s:=by
 refine adU (yk h (λo d f=>yk f (λi a b=>?_) λ_ _ x=>x) λ_ _ x=>x);obtain⟨g,b⟩:=b;unfold acm;refine av ?_;rw[getitemInPython_of_ne g.not_modules];refine av (YZ g j ?_);have fin:ew #[4] A (abw slice b0 o i) (λr c=>ew #[4] A (letTemporaryGo value o r >>= λ_=>y8 r) Q E c) E a:=by rw[k o i];exact wpAny_operating (yk b (λr c e=>av (wpAny_letTemporaryGo (bo e))) λ_ _ x=>x)
 first
  |exact bo (av fin)
  |exact av (bo (av fin))
  |exact av fin
theorem vT {X:Cx}{c:Ln}{h:St}{H:Hp}{s:cv}{a:cn}{y:V}{o:a9 V}(I:Inv X c h H s)(g:Oh H a y o):s.TypeIs (.ref a) "dict":=by
 rcases g with ⟨d,k,e,_,_⟩ |⟨d,k,b,e,_,_,_⟩
 ·obtain⟨_,_,j,_,f⟩:=vS I.LX e;exact f.typeIs
 obtain⟨_,_,i,_,f⟩:=vR I.LX e;exact f.typeIs
noncomputable def Ic (e ty:TE):TE:=λc H Q=>e c H λx d=>ty c d λy b => ∃ a v,x = .ref a/\Oh b a y (ag v)/\Q v b
noncomputable def Ib (ty e:TE):TE:=λc H Q=>ty c H λy d=>e c d λx b => ∃ a o,x = .ref a/\Oh b a y o/\Q (.bl o.isSome) b
noncomputable def yF (ty e:TE):TE:=λc H Q=>ty c H λy d=>e c d λx b => ∃ a o,x = .ref a/\Oh b a y o/\Q (.bl (!o.isSome)) b
noncomputable def Ij (g ty tv:TE):TS:=λD b H=>tv b H λv e=>g b e λx d=>ty b d λy f => ∃ a c,x = .ref a/\RW f a y v c/\D.nx b c
section
variable {X:Cx}{o i e value:hL}{pos pos' S_:UK}{td ty tv:TE}
theorem EM (t:X.A.units+1<vu)(k:PE X o td)(z:PE X i ty)(B:BB i):PE X (.Subscript o i pos) (Ic td ty):=by intro b s c H Q I h;refine yI Z5.lookup B (LR (k b s c H _ I h) λu q ⟨x,n,C,e,j⟩=>LR (z b q c n _ C j) λE D l=>?_);obtain⟨y,r,d,f,a,v,ex,g,p⟩:=l;subst ex;obtain rfl:u=ma a:=e;exact⟨vT d g,Br t d g f λG J w m=>⟨v,r,w,m,p⟩⟩
theorem CF (r:X.A.units+1<vu)(v:PE X i ty)(j:PE X o td):PC X .In i o (Ib ty td):=by intro b s c H Q I h;refine LR (v b s c H _ I h) λC p ⟨y,l,w,e,f⟩=>LR (j b p c l _ w f) λu B k=>?_;obtain⟨x,q,z,d,a,n,ex,g,m⟩:=k;subst ex;obtain rfl:u=ma a:=d;exact Kq r z g e λD t=>⟨.bl n.isSome,q,t,rfl,m⟩
theorem AO (r:X.A.units+1<vu)(v:PE X i ty)(j:PE X o td):PC X .NotIn i o (yF ty td):=by intro b s c H Q I h;refine LR (v b s c H _ I h) λC p ⟨y,l,w,e,f⟩=>LR (j b p c l _ w f) λu B k=>?_;obtain⟨x,q,z,d,a,n,ex,g,m⟩:=k;subst ex;obtain rfl:u=ma a:=d;exact Fs r z g e λD t=>⟨.bl (!n.isSome),q,t,rfl,m⟩
theorem EC (B:X.A.units+1<vu)(l:PE X o td)(E:PE X i ty)(j:PE X value tv)(G:Uy value (ag (.Subscript o i pos')) pos.line X.env=y8 b0) :
  PS X (.Assign [.Subscript o i pos'] value pos) (Ij td ty tv):=by
 intro b s c H D I h;refine aaV (LR (j b s c H _ I h) λr w ⟨v,p,J,K,k⟩=>LR (l b w c p _ J k) λu e ⟨x,z,L,d,q⟩=>LR (E b e c z _ L q) λN P n=>?_) G;obtain⟨y,M,C,f,a,m,ex,g,F⟩:=n;subst ex;obtain rfl:u=ma a:=d;exact Bq B C g f K λO t=>⟨c,m,t,F⟩
end
theorem Dy {P:fh}{w:il}{H:Hp}(h:kx)(hb:Uh<h.objs.size):L9 P w H (h.push { cls:=.type "dict",data:=.dict #[] }) h.objs.size (.dK []):=
 ⟨Tp _,mz.mpr (lC (nq hb)),[],.nil,Heap.DictOf.new h⟩
noncomputable def Ge:TE:=λ_ H Q => ∀ p,H p=ay->Q (.ref p) (upd H p (.dK []))
section
variable {X:Cx}{pos:UK}
theorem RX:PE X (.Dict [] [] pos) Ge:=λb s c H Q I h =>
 wpAny_Dict_empty ⟨#[15],_,I.laid (a:=s.heap.objs.size) (o:=.dK []) (t':=s.toks) (λ_ _ q=>cc _ q) (hB _) (Dy s.heap I.big),rfl,h _ (I.LX.fresh (hB _))⟩
end
structure M1 (X:Cx) (o:hL) (m:eG) (apos:UK) (e:hL) (L6:UK):Prop where
 base:RZ o m X.env (sY o X.env)=sY o X.env
 few:((tw L6 (eK [e] X.env)).all (λx => !x.1)&&(Xe L6 (TV [] X.env)).all (λx=>x.1.isSome)
  && dv (([e]:ak hL).length+([]:ak WH).length+(if ([]:ak WH).isEmpty then 0 else 1)<30))=ba
 line:(apos.endLine==L6.line)=ba
 trees:tw L6 (eK [e] X.env)=[(b0,sY e X.env)]
structure M2 (X:Cx) (o:hL) (m:eG) (apos:UK) (e f:hL) (L6:UK):Prop where
 base:RZ o m X.env (sY o X.env)=sY o X.env
 few:((tw L6 (eK [e,f] X.env)).all (λx => !x.1)&&(Xe L6 (TV [] X.env)).all (λx=>x.1.isSome)
  && dv (([e,f]:ak hL).length+([]:ak WH).length+(if ([]:ak WH).isEmpty then 0 else 1)<30))=ba
 line:(apos.endLine==L6.line)=ba
 trees:tw L6 (eK [e,f] X.env)=[(b0,sY e X.env),(b0,sY f X.env)]
end L2
namespace Att
open PySem PySem.W PySem.Calls PyProof.Rows
theorem n8 {P:Params}{h:kx}:∀ (ns:ak Int) (vs:ak ax),WellAll P h vs (ns.map WData.int)->V9 vs ns:=by
 intro ns
 induction ns with
 |nil =>
  intro vs w;rw[aaU] at w;cases w;exact .nil
 |cons n ns c =>
  intro vs w;rw[hH] at w;cases w with
  |cons a b =>
   cases a;exact .cons _ _ (c _ b)
theorem Ax {l:Yi}{n:Nat}(s:l.most=ag n){P:Params}{h:kx}{args:ak WData}{vals:ak ax}
  (g:l.row.toRowW.claim.pre args=ba) (j:WellAll P h vals args) :
  ∃ a vs ns,vals=[ma a]/\args=[WData.list (ns.map WData.int)]/\h.get? a=ag { cls:=#[13],data:=.seq vs.toArray }/\V9 vs ns/\ns.length<=n:=by
 have f:WShape.hasAll [] args [.list .int]=ba:=(pre_splitW g).1;have hc:l.pre.holds [] { args:=args }=ba:=(pre_splitW g).2;obtain⟨d,r,rfl,t,u⟩:=hasAllW_cons f;obtain rfl:=hasAllW_nil u;obtain⟨w,rfl,p⟩:=hasW_list t;obtain⟨ns,rfl⟩:=items_int p
 have b:ns.length<=n:=by
  unfold OpenLaw.pre at hc;have c:(WTm.not (.lt (.lit (.int (n:Int))) (.len (.arg 0)))).holds [] { args:=[.list (ns.map .int)] }=ba:=by have c:=(holds_andW hc).1;rw[s] at c;exact c
  have e:=condW_of c (w_not (w_lt w_lit (w_len_list (w_arg rfl))));rw[d7] at e;refine Nat.le_of_not_lt λq=>?_;have o:(n:Int)<((ns.length:Nat):Int):=#[1]
  first
   |(rw[ia o] at e;exact ku e #[2])
   |(simp at e;omega)
 cases j with
 |cons v m =>
  cases m;cases v with
  |list k i=>exact⟨_,_,ns,rfl,rfl,k,n8 ns _ i,b⟩
theorem AJ (l:Yi)(args:ak WData):l.row.toRowW.claim.post args (.bool ba) args=ba:=
 postW_of (r:=l.row.toRowW) (X:=(ba==ba))
  (show WShape.has [] (.bool ba) .bool=ba by first |rfl |decide |simp[WShape.has,WShape.arms,WShape.armsAll])
  (show (WTm.eq .res (.lit (.bool ba))).value [] { args:=args,res:=ag (.bool ba),after:=args }=ag (.bool (ba==ba)) from w_eq_bool (w_res rfl) w_lit) rfl
theorem P4 {l:Yi}{n:Nat}{q:fh}{loose:ak eG}{j:(Lo)->kx->Prop}{p:il->kx->Prop}{d:DefRec}
  (I:l.most=ag n) (D:d.params.defaults=[])
  (call:∀ (w:il) (s₀ b:cv) (mg h:Lo) (g:cn) (o:Obj) (i cd doc:ax) (a:cn) (vs:ak ax) (ns:ak Int),
   Ground q loose [] j w s₀ mg h b.heap->p w b.heap ->
   b.heap.get? g=ag o->o.data = .func (docDef d.name d.params d.body d.scope i cd doc)->b.heap.CodeRec cd d.name->mg d.name=ag (.ref g) ->
   b.heap.get? a=ag { cls:=#[13],data:=.seq vs.toArray }->V9 vs ns->ns.length<=n->b.gens = #[] ->
   X2 (e9 l.prog w) aae (.call (.ref g) ⟨[.ref a],[]⟩) (λr s'=>r = .ok (.ret (.bool ba))/\OldK b.heap s'.heap/\s'.os=b.os/\Z9 s'.gens) b) :
  adM q loose j p l.row.toRowW d [] (λf vs=>adV f vs):=by
 intro w s₀ b mg h G Y g o i cd doc E kV x hd z k s B args vals K u m C t L;obtain rfl:E = .none:=Dflts.none k D;obtain rfl:kV = .none:=Dflts.noKw k;obtain⟨a,vs,ns,rfl,rfl,F,c,e⟩:=Ax I u t;refine enter_call (aaR (call w s₀ b mg h g o i cd doc a vs ns G Y x (fd_plain hd) z s F c e B) λr s' A=>?_);obtain⟨rfl,J,H,v⟩:=A;exact⟨.inl ⟨.bool ba,.bool ba,[],rfl,λ_=>rfl,.bool ba,AJ l _,λ_=>⟨Vl,λ_ y=>(nomatch y)⟩⟩,J,H,v⟩
end Att
namespace L2
open PySem PySem.Spec PyProof.Rows
theorem mf:∀ {vs:ak ax}{ns:ak Int},V9 vs ns->Vals (ns.map V.int) vs
 |_,_,.nil => .nil
 |_,_,.cons n t h => .cons ⟨t,rfl⟩ (mf h)
def HG (H:Hp):Prop:=∀ b,H b=ay∨∃ o a,H b=ag (.QH o (.lst a))
theorem Dc {P:fh}{w:il}{K:Ll}{mg y:Lo}{CX:RC}{k:Nat}{l a:cn}{fd:L4}{x:eG}{sp:Sp}{c:cv}{vs:ak ax}{ns:ak Int}
  (KX:K.In c.heap) (I:c.heap.Ns my mg) (hb:c.heap.Ns Zi y) (t:∀ x:eG,x≠"__name__"->y x=uk x) (Yv:c.heap.NoLimit) (Y:c.gens = #[])
  (j:c.heap.get? a=ag { cls:=#[13],data:=.seq vs.toArray }) (E:V9 vs ns) (C:ns.length<=d4) (hr:L0 k aae)
  (F:∀ base:kx,K.In base->base.Ns my mg->Nv P w K mg base CX k l fd [x] sp) (L:∀ (s:cv) (u:ax),ab1 s fd ⟨[u],[]⟩ [(x,u)])
  (TF:∀ H:Hp,HG H->OC K H a (ns.map V.int)->sp [.ref a] H (λv _=>v = .bl ba) λ_ _ _=>False)
  (Z:∀ H e s',CX [] H c (λ_ _ _=>False) e s'->False) :
  X2 (e9 P w) aae (.call (.ref l) ⟨[.ref a],[]⟩) (λr s'=>r = .ok (.ret (.bool ba))/\OldK c.heap s'.heap/\s'.os=c.os/\Z9 s'.gens) c:=by
 have A:=mf E;have Yx:=E.length
 have core:∀ H:Hp,HG H->OC K H a (ns.map V.int)->ND P w H c.heap->(∀ b,H b≠ay->b=a)->(H a≠ay->K.lookup a=ay) ->
   X2 (e9 P w) aae (.call (.ref l) ⟨[.ref a],[]⟩) (λr s'=>r = .ok (.ret (.bool ba))/\OldK c.heap s'.heap/\s'.os=c.os/\Z9 s'.gens) c:=by
  intro H D hS LX B hK;have J:∀ {b:cn}{o:Obj},c.heap.get? b=ag o->H b=ay->(tX c.heap H).get? b=ag o:=λe n=>Di e n
  have VW:∀ {b:cn}{o:Obj}{es:ib DictEntry}{ep:Nat},c.heap.get? b=ag o->o.data = .dict es ep->H b=ay:=λ{b o es ep} e d=>by
   cases q:H b with
   |none=>rfl
   |some u =>
    have p:b=a:=B b (by rw[q];simp);subst p;rw[j] at e;cases e;have U:Data.seq vs.toArray _=Data.dict es ep:=d;cases U
  have i:∀ {b:cn}{m:Lo},c.heap.Ns b m->(tX c.heap H).Ns b m:=λ{b m} ⟨o,es,ep,e,d,r⟩=>⟨o,es,ep,J e (VW e d),d,r⟩
  have g:K.In (tX c.heap H):=λb o e=>J (KX b o e) (by
   cases q:H b with
   |none=>rfl
   |some u =>
    have p:b=a:=B b (by rw[q];simp);subst p
    rw[hK (by rw[q];simp)] at e;cases e)
  have R:Mod K mg (tX c.heap H):=⟨g,i I,⟨y,i hb,t⟩,let ⟨M,W,h2⟩:=Yv;⟨M,i W,h2⟩⟩;have T:Qp P w K mg (tX c.heap H) aae [] c H:=⟨rfl,R,λb o e=>EV e,acU (Bg _ _),Qv,λb hb=>ku (show b∈([]:ak cn) from hb) #[3],LX,.of_eq Y⟩;refine aaR ((F _ g (i I)).run aae [] c H ⟨[.ref a],[]⟩ [.ref a] [.ref a] _ _ hr T (L c (.ref a)) (.cons rfl .nil) (TF H D hS)) λr s' h=>?_;cases r with
  |error e=>exact(Z H e s' h).elim
  |ok X =>
   cases X with
   |next=>exact QN h
   |brk=>exact QN h
   |cont=>exact QN h
   |ret u =>
    obtain⟨v,H',os,bare,un,S,Q,q⟩:=h;have q':v = .bl ba:=q;subst q';obtain rfl:u=adN ba:=Q;refine⟨rfl,OldK.of_keep λb o e=>?_,os,bare⟩;cases q:H b with
    |none=>exact un.keep b o e q (by intro z;exact ku (show b∈([]:ak cn) from z) #[3]) #[3]
    |some u =>
     rcases D b with z |⟨O,xs,z⟩
     ·rw[q] at z;cases z
     have z2:=un.O5 b O _ z;obtain⟨G,_⟩:=LX b _ z;obtain⟨N,_⟩:=S b _ z2;rw[e] at G;cases G;exact N
 cases hk:K.lookup a with
 |some o =>
  have e:=KX a o hk;rw[j] at e;cases e;refine core (λ_=>ay) (λ_ => #[9]) (.inr ⟨_,vs.toArray,_,hk,rfl,rfl,rfl,by rw[f3,Yx];exact C,by simpa using A⟩) (λb u z=>by have f:(ay:a9 HO)=ag u:=z;cases f) (λb z=>ku rfl z) λz=>ku rfl z
 |none =>
  refine core (λb=>if b=a then ag (.QH { cls:=#[13],data:=.seq vs.toArray } (.lst (ns.map V.int))) else ay) (λb=>?_) (.inl (.inr ⟨{ cls:=#[13],data:=.seq vs.toArray },dm rfl⟩)) (λb u z=>?_) (λb z=>?_) λ_=>hk
  ·by_cases hb:b=a
   ·exact .inr ⟨_,_,dm hb⟩
   exact .inl (dV hb)
  ·by_cases hb:b=a
   ·have f:=(dm hb).symm.trans z;cases f;subst hb;exact⟨j,by rw[d7];exact C,vs,_,A,j⟩
   have f:=(dV hb).symm.trans z;cases f
  by_cases hb:b=a
  ·exact hb
  exact ku (dV hb) z
theorem Td {l:Yi}{n k:Nat}{q:fh}{loose:ak eG}{t:(Lo)->kx->Prop}{p:il->kx->Prop}{d:DefRec}{K:Params->Ll}{CX:il->RC}{sp:il->Sp}{x:eG}
  (L:l.most=ag n) (A:n<=d4) (D:d.params.defaults=[]) (hr:L0 k aae)
  (M:∀ (w:il) (h:kx),p w h->(K w.params).In h)
  (F:∀ (w:il) (mg:Lo) (m:cn) (h:kx),(K w.params).In h->h.Ns my mg->mg d.name=ag (.ref m) ->
   ∃ fd:L4,(∀ (s:cv) (u:ax),ab1 s fd ⟨[u],[]⟩ [(x,u)]) /\
    ∀ base:kx,(K w.params).In base->base.Ns my mg->Nv l.prog w (K w.params) mg base (CX w) k m fd [x] (sp w))
  (C:∀ (w:il) (H:Hp) (a:cn) (ns:ak Int),ns.length<=n->HG H->OC (K w.params) H a (ns.map V.int)->sp w [.ref a] H (λv _=>v = .bl ba) λ_ _ _=>False)
  (B:∀ (w:il) (H:Hp) (s:cv) (e:ax) (s':cv),CX w [] H s (λ_ _ _=>False) e s'->False) :
  adM q loose t p l.row.toRowW d [] (λf vs=>adV f vs):=by
 refine Att.P4 L D λw s₀ j mg P m o Q cd doc a vs ns G Y N hd O r I i c z=>?_;have KX:=M w _ Y;obtain⟨fd,hb,J⟩:=F w mg m _ KX G.T.g r;exact Dc KX G.T.g G.T.b G.T.builtins G.T.nolimit z I i (hA c A) hr J hb (λH E y=>C w H a ns c E y) λH e s'=>B w H j e s'
noncomputable def d5 (s:r4):XN:=match s with
 | .FunctionDef _ a _ _ _ _ _ _ _ _=>a
 |_ => { posonlyargs:=[],args:=[],vararg:=ay,kwonlyargs:=[],kw_defaults:=[],kwarg:=ay,defaults:=[] }
noncomputable def bS (s:r4):ak r4:=match s with
 | .FunctionDef _ _ b _ _ _ _ _ _ _=>b
 |_=>[]
noncomputable def ar (s:r4):lE:=match s with
 | .FunctionDef _ _ _ _ _ _ sc _ _ _=>sc
 |_ => { kind:=.function,names:=[],isGenerator:=b0,isCoroutine:=b0 }
abbrev RE:RC:=λ_ _ _ _ _ _=>False
abbrev E0:XK:=λ_ _ _=>False
theorem CG {X:Cx}:Passes RE X E0:=λ_ _ _ _ _ _ _ h=>h.elim
structure Q7 (K:Ll) (x qual:eG) (st:r4) (f:cn) (fd:L4):Prop where
 ex:∃ (oc:ax) (od:a9 cn) (kV doc pm:ax) (an:a9 cn) (LU ct:ax) (Q6:ib (a9 ax)),
  fd=L7 x qual (d5 st) (bS st) (ar st) .none kV doc pm an LU ct/\K.lookup f=ag ⟨oc,od,.func fd,Q6⟩/\Zs K LU qual=ba
 kp:Qj K (.ref f)=ba
section
variable {P:fh}{w:il}{K:Ll}{mg:Lo}{base:kx}
theorem Q7.binds {x qual:eG}{st:r4}{f:cn}{fd:L4}{c:ak eG}(F:Q7 K x qual st f fd)
  (h:∀ (kV doc d:ax) (a:a9 cn) (b ct:ax) (us:ak ax),us.length=c.length->VH (L7 x qual (d5 st) (bS st) (ar st) .none kV doc d a b ct) ⟨us,[]⟩=y8 (c.zip us)):Binds K fd c []:=by
 obtain⟨j,g,kV,doc,d,a,b,ct,k,rfl,e,i⟩:=F.ex;exact .all (h kV doc d a b ct)
theorem Ha {x qual:eG}{st:r4}{f:cn}{h:ax}{e b:a9 cn}{g:ib (a9 ax)}{kV doc d a ct:ax}(l:K.lookup f=ag ⟨h,e,.func (L7 x qual (d5 st) (bS st) (ar st) .none kV doc d b a ct),g⟩)
  (c:Zs K a qual=ba) (k:Qj K (.ref f)=ba):Q7 K x qual st f (L7 x qual (d5 st) (bS st) (ar st) .none kV doc d b a ct):=⟨⟨h,e,kV,doc,d,b,a,ct,g,rfl,l,c⟩,k⟩
end
theorem aV {A:jl}{k:Nat}(hr:L0 k A):A.units+1<vu:=Zt (Nat.add_le_add_left (#[6] : 1<=64) _) hr.units
section
variable {X:Cx}
theorem pv (i:Nat){x:eG}{pos:UK}(c:X.N[i]?=ag x:=by rfl)(b:VJ X.env.scope x:=by first |exact abx rfl |exact aap (abx rfl) |exact aap (aap rfl))(hd:(x==("__debug__":eG))=b0:=by decide)
  (a:(x==("__classdict__":eG))=b0:=by decide):PE X (.Name x pos) (HV i):=Cz c b hd a
end
def LH (H H':Hp):Prop:=∀ b o,H b=ag o->H' b=ag o
theorem LH.refl (H:Hp):LH H H:=λ_ _ h=>h
theorem LH.trans {H e d:Hp}(a:LH H e)(b:LH e d):LH H d:=λc o h=>b c o (a c o h)
end L2
namespace HT
open PySem PyProof.Rows
section
variable {prog:fh}{w:il}{A:jl}{E:Lm}{s:cv}
theorem Te {t b:cn}{vs ws:ak ax}{Q:Lm}(l:aci s.heap t vs.toArray)(hb:aci s.heap b ws.toArray)(g:vs≠[])
  (m:ws=[]->Q (.ref t) s) (o:ws≠[]->Q (#[15]) { s with heap:=s.heap.push { cls:=.type "tuple",data:=.seq (vs++ws).toArray } })
  (hsz:vs.length+ws.length<=d4):ew #[4] A (P_ .Add (.ref t) (.ref b)) Q E s:=by
 obtain⟨⟨cls,j,data,sl⟩,c,hc,n,hd⟩:=id l;obtain⟨⟨p,h,data2,i⟩,d,k,n2,a⟩:=id hb;simp only at hc hd k a;subst hc hd k a;have e:vs.toArray++ws.toArray=(vs++ws).toArray:=by simp
 by_cases f:ws=[]
 ·exact aaW ⟨_,c,rfl⟩ ⟨_,d,rfl⟩ aaD acn Xf W2 (Ww _ _)
   (tuple_addW1 t b vs.toArray ws.toArray n n2 j h sl i (by simpa using g) (by simp[f])) ⟨c,d,m f⟩
 refine aaW ⟨_,c,rfl⟩ ⟨_,d,rfl⟩ aaD acn Xf W2 (Ww _ _)
  (tuple_addW2 t b vs.toArray ws.toArray n n2 j h sl i (by simpa using g) (by simpa using f) (by rw[f3,f3];exact hsz)) ⟨c,d,?_⟩
 rw[e];exact o f
noncomputable def L_ (n d:Nat):a9 Int->Nat
 |ay=>d
 |ag v=>if v<0 then (v+(n:Int)).toNat else Zu v.toNat n
theorem P5 (n d:Nat):L_ n d ay=d:=rfl
theorem QM (n d k:Nat):L_ n d (ag (k:Int))=Zu k n:=by show (if (k:Int)<0 then ((k:Int)+(n:Int)).toNat else Zu (k:Int).toNat n)=Zu k n;rw[dV #[0],TY]
theorem Gr (n d:Nat)(hd:d<=n)(o:a9 Int):L_ n d o<=n:=by
 cases o with
 |none=>exact hd
 |some v =>
  show (if v<0 then (v+(n:Int)).toNat else Zu v.toNat n)<=n;by_cases a:v<0
  ·rw[dm a];omega
  rw[dV a];exact Ze _ _
theorem zW (v:Int)(n d:Nat):(if v<0 then max (v+(n:Int)) 0 else Zu v (n:Int))=((L_ n d (ag v):Nat):Int):=by
 show (if v<0 then max (v+(n:Int)) 0 else Zu v (n:Int))=(((if v<0 then (v+(n:Int)).toNat else Zu v.toNat n):Nat):Int);by_cases a:v<0
 ·simp only[dm a];omega
 simp only[dV a];omega
theorem yt (lo a:a9 Int)(n:Nat):Wb lo a 1 (n:Int)=(((L_ n 0 lo:Nat):Int),((L_ n n a:Nat):Int)):=by
 have b:¬ ((1:Int)<0):=#[1]
 unfold Wb;simp only[b,r3];refine Prod.ext ?_ ?_
 ·cases lo with
  |none=>rfl
  |some v=>exact zW v n 0
 cases a with
 |none=>rfl
 |some v=>exact zW v n n
theorem xz (i j:Nat):TK (i:Int) (j:Int) 1=j-i:=by
 unfold TK;have a:(1:Int) > 0:=#[1]
 simp only[a,n7,Int.ediv_one];split<;>omega
theorem oX {v:ax}{o:a9 Int}{Q:a9 Int->cv->Prop}(p:aaX v o)(h:Q o s):ew #[4] A (Builtin.Slice.slicePartIndex v) Q E s:=by
 cases p with
 |none=>exact slicePart_none h
 |int i t=>exact slicePart_int h
theorem MT {sl:cn}{b d:ax}{lo a:a9 Int}{n:Nat}{Q:Int×Int×Nat->cv->Prop}(f:s.heap.IsSliceOf sl b d .none)(pl:aaX b lo)(g:aaX d a)
  (h:Q (((L_ n 0 lo:Nat):Int),1,L_ n n a-L_ n 0 lo) s):ew #[4] A (Zv (.ref sl) (y8 (n:Int))) Q E s:=by
 obtain⟨os,e,i,c⟩:=id f;unfold Zv Builtin.Slice.sliceFields;refine av (av (y0 e c (x:=b) rfl (av (y0 e c (x:=d) rfl (av (y0 e c (x:=.none) rfl (bo ?_)))))));refine av (slicePart_none ?_);show ew _ _ (if ((1:Int)==0)=ba then _ else _) _ _ s;rw[dV #[2]];refine av (oX pl (av (oX g (av (bo ?_)))));show ew _ _ (match Wb lo a 1 (n:Int) with |(lo,a)=>y8 (lo,(1:Int),TK lo a 1)) _ _ s;rw[yt lo a n];show ew _ _ (y8 (((L_ n 0 lo:Nat):Int),(1:Int),TK ((L_ n 0 lo:Nat):Int) ((L_ n n a:Nat):Int) 1)) _ _ s;rw[xz];exact bo h
theorem Cw (xs:ib ax)(i k:Nat):((gx k).filterMap λ(m:Nat)=>xs[((i:Int)+(m:Int)*1).toNat]?).toArray=((xs.toList.drop i).take k).toArray:=by
 have e:(λ(m:Nat)=>xs[((i:Int)+(m:Int)*1).toNat]?)=λm=>xs[i+m]?:=by
  funext m;have:((i:Int)+(m:Int)*1).toNat=i+m:=#[1]
  rw[this]
 rw[e];have:=pick_run xs i k;rw[List.filterMap_map] at this;have a:((λx=>xs[x]?) ∘ λx=>i+x)=λm=>xs[i+m]?:=rfl;rw[a] at this;rw[this]
theorem NL {t sl:cn}{items:ib ax}{e f:ax}{lo a:a9 Int}{Q:Lm}(c:aci s.heap t items)(g:s.heap.IsSliceOf sl e f .none)(pl:aaX e lo)(k:aaX f a)
  (n:¬ (L_ items.size 0 lo=0/\L_ items.size items.size a=items.size))
  (h:Q (#[15]) { s with heap:=s.heap.push { cls:=.type "tuple",data:=.seq ((items.toList.drop (L_ items.size 0 lo)).take (L_ items.size items.size a-L_ items.size 0 lo)).toArray } })
  (hsz:items.size<=d4):ew #[4] A (Xd (.ref t) (.ref sl)) Q E s:=by
 have b:sizeOk (.seq ((items.toList.drop (L_ items.size 0 lo)).take (L_ items.size items.size a-L_ items.size 0 lo)).toArray):=by show ((items.toList.drop (L_ items.size 0 lo)).take (L_ items.size items.size a-L_ items.size 0 lo)).toArray.size<=d4;rw[f3,R0,R3,ky];omega
 have p:L_ items.size items.size a<=items.size:=Gr _ _ (hB _) a;obtain⟨os,l,j,r⟩:=id g;have i:s.TypeIs (.ref sl) "slice":=⟨os,l,j⟩;unfold Xd
 try with_reducible refine A2 ?_
 first |refine av (bo ?_) |skip
 refine av (wpAny_sequenceKey c.typeIs #[2] ?_)
 refine av (wx (name:=V_ "__getitem__") c.typeIs pe
  (mm pe c.typeIs aca ?_ (acB _ _)))
 show ew _ _ (Sr (.ref t) >>= _) _ _ s;refine av (aco c ?_);refine av (Xg i ?_);rw[dm #[2]];refine av (MT g pl k ?_);have d:¬ ((((L_ items.size 0 lo:Nat):Int)==0&&(1:Int)==1&&(L_ items.size items.size a-L_ items.size 0 lo)==items.size)=ba):=by intro q;rw[mc,mc] at q;have o:((L_ items.size 0 lo:Nat):Int)=0:=U7 q.1.1;have u:L_ items.size items.size a-L_ items.size 0 lo=items.size:=U7 q.2;exact n ⟨#[1],#[1]⟩
 show ew _ _ (if (((L_ items.size 0 lo:Nat):Int)==0&&(1:Int)==1&&(L_ items.size items.size a-L_ items.size 0 lo)==items.size)=ba then _ else _) _ _ s;rw[dV d,Cw]
 first
  |exact av (m:=C3 _) (oa (bo ⟨_,rfl,bo h⟩) b)
  |exact av (m:=C3 _) (oa (av (bo (bo ⟨_,rfl,bo h⟩))) b)
  |exact av (av (m:=C3 _) (oa (bo (bo ⟨_,rfl,bo h⟩)) b))
  |exact av (av (m:=C3 _) (oa (bo ⟨_,rfl,bo h⟩) b))
end
end HT
namespace L2
open PySem PySem.Spec PyProof.Rows
abbrev TO:=St->Hp->(a9 Int->Hp->Prop)->Prop
def PO (X:Cx)(e:a9 hL)(t:TO):Prop:=
 ∀ (a:Ln) (s:cv) (b:St) (H:Hp) (Q:a9 Int->Hp->Prop),Inv X a b H s->t b H Q ->
  ew #[8] X.A (evalPart e X.env) (λu d => ∃ o c,Inv X a b c d/\aaX u o/\Q o c) X.xe s
noncomputable def D_:TO:=λ_ H Q=>Q ay H
noncomputable def HX (t:TE):TO:=λa H Q=>t a H λx b => ∃ i,x = .int i/\Q (ag i) b
theorem intsAre_of {ns:ak Int}:∀ {us:ak ax},Vals (ns.map V.int) us->V9 us ns:=by
 induction ns with
 |nil=>intro us r;rw[aaU] at r;cases r;exact .nil
 |cons n ns b =>
  intro us r;rw[hH] at r;cases r with
  |cons c a =>
   obtain⟨t,e⟩:=c;subst e;exact .cons n t (b a)
section
variable {X:Cx}{e:hL}{te:TE}{lo hi:a9 hL}{tl th:TO}{pos p2:UK}
theorem EG:PO X ay D_:=by intro a s b H Q I h;rw[evalPart_none];exact bo ⟨ay,H,I,.none,h⟩
theorem EE (h:PE X e te):PO X (ag e) (HX te):=by intro a s d H Q I j;rw[evalPart_some];refine LR (h a s d H _ I j) λu l c=>?_;obtain⟨x,f,k,g,b⟩:=c;obtain⟨i,rfl,q⟩:=b;obtain⟨t,rfl⟩:=g;exact⟨ag i,f,k,.int i t,q⟩
def XA (X:Cx)(r:V->a9 Int->a9 Int->Hp->VK->Prop):Prop:=
 ∀ (a:Ln) (s:cv) (c:St) (H:Hp) (x:V) (v b d:ax) (lo hi:a9 Int) (sl:cn) (Q:VK),Inv X a c H s->RelV x v->s.heap.IsSliceOf sl b d .none->aaX b lo->aaX d hi->r x lo hi H Q ->
  ∃ T id,typeLookup (.type T) "__getitem__"=y8 (ag (.builtin id))/\s.TypeIs v T/\ew #[8] X.A (Xd v (.ref sl)) (EP X a c Q) X.xe s
noncomputable def tSl (r:V->a9 Int->a9 Int->Hp->VK->Prop)(te:TE)(tl th:TO):TE:=λa H Q=>te a H λx c=>tl a c λl b=>th a b λu d=>r x l u d Q
theorem CA {r:V->a9 Int->a9 Int->Hp->VK->Prop}(hr:XA X r)(J:PE X e te)(n:PO X lo tl)(E:PO X hi th):PE X (.Subscript e (.Slice lo hi ay p2) pos) (tSl r te tl th):=by intro a s d H Q I h;refine adU (LR (J a s d H _ I h) λv C i=>?_);obtain⟨x,p,M,z,m⟩:=i;refine wpAny_Slice (LR (n a C d p _ M m) λf k ⟨l,D,N,pl,y⟩=>LR (E a k d D _ N y) λg c i=>?_);obtain⟨u,j,K,F,L⟩:=i;rw[evalPart_none];refine bo ?_;have B:Inv X a d j { c with heap:=c.heap.push { cls:=.type "slice",data:=.fields #[f,g,.none] } }:=K.kept (t':=c.toks) λb O q=>cc _ q;obtain⟨T,id,o,G,t⟩:=hr a { c with heap:=c.heap.push { cls:=.type "slice",data:=.fields #[f,g,.none] } } d j x v f g l u c.heap.objs.size Q B z (Heap.IsSliceOf.new ..) pl F L;show ew #[8] X.A (acm e (.Slice lo hi ay p2) v (.ref c.heap.objs.size)) (EP X a d Q) X.xe { c with heap:=c.heap.push { cls:=.type "slice",data:=.fields #[f,g,.none] } };exact tail_any (ops:=[.ref c.heap.objs.size,v]) G o t (by with_unfolding_all rfl)
noncomputable def vU (xs:ak V)(lo hi:a9 Int):ak V:=(xs.drop (HT.L_ xs.length 0 lo)).take (HT.L_ xs.length xs.length hi-HT.L_ xs.length 0 lo)
theorem gu (xs:ak V)(lo hi:a9 Int):(vU xs lo hi).length<=xs.length:=by unfold vU;rw[R0,R3];omega
def JS (K:Ll):V->a9 Int->a9 Int->Hp->VK->Prop:=λx lo hi H Q => ∃ a b,x = .ref a/\O2 K H a b /\
 ¬ (HT.L_ b.length 0 lo=0/\HT.L_ b.length b.length hi=b.length)/\∀ p,H p=ay->Q (.ref p) (upd H p (.tup (vU b lo hi)))
theorem Gi:XA X (JS X.K):=by
 intro g s p H x v n u lo hi sl Q I i l pl k h;obtain⟨a,d,rfl,j,m,q⟩:=h;cases i;obtain⟨its,r,f,e⟩:=I.tuple j;have c:its.toArray.size=d.length:=by rw[f3];exact r.length.symm
 refine⟨"tuple",_,pe.lookup,f.typeIs,?_⟩;refine HT.NL f l pl k (by rw[c];exact m) ?_ (by rw[c];exact e);rw[c];refine⟨#[15],_,I.laid (t':=s.toks) (o:=.tup (vU d lo hi)) (λb t q=>cc _ q) (hB _) ?_,rfl,q _ (I.LX.fresh (hB _))⟩;exact⟨hA (gu d lo hi) e,_,(r.drop (HT.L_ d.length 0 lo)).take (HT.L_ d.length d.length hi-HT.L_ d.length 0 lo),O4.new _ _⟩
noncomputable def Im (K:Ll):R2:=λx y H Q => ∃ a b d c,x = .ref a/\y = .ref b/\O2 K H a d/\O2 K H b c/\d≠[]/\d.length+c.length<=d4 /\
 (c=[]->Q (.ref a) H)/\(c≠[]->∀ p,H p=ay->Q (.ref p) (upd H p (.tup (d++c))))
theorem Vals.Ly {xs:ak V}{us:ak ax}(r:Vals xs us):us=[]↔xs=[]:=by
 cases r with
 |nil=>simp
 |cons _ _=>simp
theorem ES:Py X (P_ .Add) (Im X.K):=by intro f s t H x y v u Q I g i h;obtain⟨a,b,l,r,rfl,rfl,p,hb,m,e,j,n⟩:=h;cases g;cases i;obtain⟨its,d,k,_⟩:=I.tuple p;obtain⟨A,c,p2,_⟩:=I.tuple hb;refine HT.Te k p2 (λz=>m (d.Ly.mp z)) (λz=>⟨.ref a,H,I,rfl,j (c.Ly.mp z)⟩) (λz=>?_) (by rw[← d.length,← c.length];exact e);refine⟨#[15],_,I.laid (t':=s.toks) (o:=.tup (l++r)) (λb B q=>cc _ q) (hB _) ?_,rfl,n (λw=>z (c.Ly.mpr w)) _ (I.LX.fresh (hB _))⟩;exact⟨by rw[da];exact e,_,d.append c,O4.new _ _⟩
end
noncomputable def QO (n:Nat)(i:Int):a9 Nat:=if 0<=i then (if i<n then ag i.toNat else ay) else if -(n:Int)<=i then ag (i+n).toNat else ay
noncomputable def Ou {α:Type}(xs:ak α)(i:Int):a9 α:=(QO xs.length i).bind λj=>xs[j]?
theorem zw {n:Nat}{i:Int}{j:Nat}(h:QO n i=ag j):seqIndex? i n=ag j/\j<n/\-(n:Int)<=i/\i<n:=by
 unfold QO at h;by_cases b : 0<=i
 ·rw[dm b] at h;by_cases a:i<n
  ·rw[dm a] at h;have e:i.toNat=j:=ja h;exact⟨by rw[aby b a,e],#[1],#[1],a⟩
  rw[dV a] at h;cases h
 rw[dV b] at h;by_cases a : -(n:Int)<=i
 ·rw[dm a] at h;have e:(i+n).toNat=j:=ja h;exact⟨by rw[aaY #[0] a,e],#[1],a,#[1]⟩
 rw[dV a] at h;cases h
theorem l4 {α:Type}{xs:ak α}{i:Int}{v : α}(h:Ou xs i=ag v):∃ j,seqIndex? i xs.length=ag j/\xs[j]?=ag v/\j<xs.length/\-(xs.length:Int)<=i/\i<xs.length:=by
 unfold Ou at h;cases e:QO xs.length i with
 |none=>rw[e] at h;cases h
 |some j =>
  rw[e] at h;obtain⟨a,b,d,c⟩:=zw e;exact⟨j,a,h,b,d,c⟩
def oB (b:hL):Prop:=∀ o i,abw b b0 o i=operate [o,i] (Xd o i)
def V4 (X:Cx)(r:R2):Prop:=
 ∀ (value slice:hL) (a:Ln) (s:cv) (b:St) (H:Hp) (x y:V) (v u:ax) (Q:VK),Inv X a b H s->RelV x v->RelV y u->r x y H Q ->
  abw slice b0 v u=operate [v,u] (Xd v u)->ew #[8] X.A (acm value slice v u) (EP X a b Q) X.xe s
def MtR (X:Cx)(id:W7)(r:V->ak V->Hp->VK->Prop):Prop:=
 ∀ (a:Ln) (s:cv) (c:St) (H:Hp) (x:V) (b:ak V) (v:ax) (d:ak ax) (Q:VK),Inv X a c H s->RelV x v->Vals b d->r x b H Q ->
  ew #[8] X.A (call (.builtin id) (v::d)) (EP X a c Q) X.xe s
section
variable {X:Cx}{a b:hL}{ta tb:TE}{pos:UK}
theorem FV {r:R2}(hr:V4 X r)(j:PE X a ta)(hb:PE X b tb)(k:oB b):PE X (.Subscript a b pos) (VR r ta tb):=by intro c s g H Q I h;exact adU (Hy j hb I h λv u e x y i l d f q=>hr a b c e g i x y v u Q l d f q (k _ _))
noncomputable def Il (K:Ll):R2:=λx y H Q => ∃ p a i v,x = .ref p/\y = .int i/\OC K H p a/\Ou a i=ag v/\Q v H
noncomputable def JU (K:Ll):R2:=λx y H Q => ∃ p a i v,x = .ref p/\y = .int i/\O2 K H p a/\Ou a i=ag v/\Q v H
noncomputable def JV:R2:=λx y H Q => ∃ z i c,x = .str z/\y = .int i/\z.length<=d4/\Ou z.cps.toList i=ag c/\Q (.str ⟨#[c]⟩) H
theorem zu:V4 X (Il X.K):=by
 intro value slice a s e H x y v u Q I k l h g;obtain⟨p,G,i,z,rfl,rfl,A,C,q⟩:=h;cases k;obtain⟨t,rfl⟩:=l;obtain⟨its,r,pl,F⟩:=I.list A;obtain⟨j,b,E,J,o,D⟩:=l4 C;obtain⟨w,f,B⟩:=r.get E;have m:=r.length;have L:=kC;have fin:EP X a e Q w s:=⟨z,H,I,B,q⟩;by_cases d : 0<=i
 ·have c:i.toNat=j:=by
   rw[aby d D] at b;exact ja b
  exact item_listR pl.isList d #[0] (by rw[c];simpa using f) fin g
 have c:(i+(its.toArray.size:Int)).toNat=j:=by rw[aaY #[0] o] at b;rw[f3,← m];exact ja b
 exact aaZ (x:=w) pl.isList.typeIs slot_list_getitem.lookup
  (aa0 (Q:=λr n=>r=w/\EP X a e Q r n) pl.isList #[0] (by rw[f3]<;>omega) #[0] (by rw[c];simpa using f) ⟨rfl,fin⟩) g
theorem G6:V4 X (JU X.K):=by
 intro value slice a s b H x y v u Q I c d h n;obtain⟨p,D,i,z,rfl,rfl,g,m,q⟩:=h;cases c;obtain⟨t,rfl⟩:=d;obtain⟨its,r,pl,B⟩:=I.tuple g;obtain⟨j,o,A,E,C,G⟩:=l4 m;obtain⟨w,l,k⟩:=r.get A;have e:=r.length;have F:=kC;have fin:EP X a b Q w s:=⟨z,H,I,k,q⟩
 exact aaZ (x:=w) pl.typeIs pe.lookup
  (getItem_tuple (j:=j) (Q:=λr f=>r=w/\EP X a b Q r f) pl #[0] #[0] (by rw[f3,← e];exact o) (by simpa using l) ⟨rfl,fin⟩) n
theorem G7:V4 X JV:=by
 intro value slice a s A H x y v u Q I e f h o;obtain⟨z,i,c,rfl,rfl,r,m,q⟩:=h;obtain⟨t,rfl⟩:=e;obtain⟨w,rfl⟩:=f;obtain⟨j,b,p,B,k,n⟩:=l4 m;have g:z.cps.toList.length=z.length:=by simp[Str.length]
 rw[g] at b k n;have C:=kC
 exact tail_any (typeIs_str s z t) slot_str_getitem.lookup (getItem_str (c:=c) (by
  have d:dv (i < -(2 ^ 63:Int))=b0:=eh #[0];have l:dv (i≥2 ^ 63)=b0:=eh #[0]
  rw[d,l,Bool.or_false]) (by rw[b];simpa using p) ⟨.str ⟨#[c]⟩,H,I.tok _,⟨_,rfl⟩,q⟩) o
theorem xI (its:ak ax)(n j:Nat)(u:ax):SJ (·.setIfInBounds j u) { cls:=#[13],data:=.seq its.toArray n }={ cls:=#[13],data:=.seq (its.set j u).toArray n }:=by simp[SJ]
theorem Inv.lst {a:Ln}{b:St}{H:Hp}{s:cv}{p:cn}{xs:ak V}(I:Inv X a b H s)(h:H p=ag (.lst xs)) :
  ∃ (its:ak ax) (n:Nat),Vals xs its/\s.heap.get? p=ag { cls:=#[13],data:=.seq its.toArray n }/\xs.length<=d4:=by
 obtain⟨z,its,n,r,e⟩:=I.LX p _ h;exact⟨its,n,r,e,z⟩
theorem Inv.UH {a:Ln}{d:St}{H:Hp}{s:cv}{p:cn}{xs ys:ak V}{its its':ak ax}{n c:Nat}{f:Obj->Obj}(I:Inv X a d H s)(h:H p=ag (.lst xs))
  (i:s.heap.get? p=ag { cls:=#[13],data:=.seq its.toArray n }) (g:f { cls:=#[13],data:=.seq its.toArray n }={ cls:=#[13],data:=.seq its'.toArray c }) (r:Vals ys its') (hz:ys.length<=d4) (t:Nat) :
  Inv X a d (upd H p (.lst ys)) { s with heap:=s.heap.update p f,toks:=t }:=by
 have e:(s.heap.update p f).get? p=ag { cls:=#[13],data:=.seq its'.toArray c }:=by rw[Tx f i (by rw[g]<;>rfl),g]
 refine I.write (x:=p) (e:=p) (by rw[h];trivial) (#[9]) (λb u hb q=>(UT _ _ (lC hb)).trans q) ⟨_,e⟩ ?_;exact⟨hz,its',c,r,e⟩
def Ik:V->V->V->Hp->(Hp->Prop)->Prop:=λo i v H Q => ∃ p a k j,o = .ref p/\i = .int k/\H p=ag (.lst a)/\QO a.length k=ag j/\Q (upd H p (.lst (a.set j v)))
theorem set_list:HF X Ik:=by
 intro a s A H o i v E D u Q I B ri C h;obtain⟨p,z,k,j,rfl,rfl,l,y,q⟩:=h;cases B;obtain⟨t,rfl⟩:=ri;obtain⟨its,n,r,d,x⟩:=I.lst l;obtain⟨b,G,m,g⟩:=zw y;have c:=r.length;have F:=kC
 have w:Inv X a A (upd H p (.lst (z.set j v))) { s with heap:=s.heap.update p (SJ (·.setIfInBounds j u)) }:=
  I.UH l d (xI its n j u) (r.set C j) (by rw[J7];exact x) s.toks
 by_cases f : 0<=k
 ·have e:k.toNat=j:=by
   rw[aby f g] at b;exact ja b
  exact PySem.W.ki_setAt d f #[0] (by rw[f3,← c];exact g) (by rw[e];exact⟨_,w,q⟩)
 have e:(k+(its.toArray.size:Int)).toNat=j:=by rw[aaY #[0] m] at b;rw[f3,← c];exact ja b
 exact PySem.W.ki_setBack d #[0] (by rw[f3,← c];exact m) #[0] (by rw[e];exact⟨_,w,q⟩)
theorem s_ (lo a:a9 Int)(n:Nat):(W3 lo a ay n).1=((HT.L_ n 0 lo:Nat):Int)/\(W3 lo a ay n).2.1=((HT.L_ n n a:Nat):Int)/\(W3 lo a ay n).2.2=1:=by
 refine⟨?_,?_,rfl⟩
 ·cases lo with
  |none=>simp[W3,HT.L_]
  |some i =>
   simp only[W3,HT.L_,getD_none,show (1:Int) > 0 by decide,n7];by_cases h:i<0
   ·simp only[h,n7]<;>omega
   simp only[h,r3]<;>omega
 cases a with
 |none=>simp[W3,HT.L_]
 |some i =>
  simp only[W3,HT.L_,getD_none,show (1:Int) > 0 by decide,n7];by_cases h:i<0
  ·simp only[h,n7]<;>omega
  simp only[h,r3]<;>omega
theorem qx (its:ak ax)(lo a:a9 Int):slicePick its.toArray lo a ay=((its.drop (HT.L_ its.length 0 lo)).take (HT.L_ its.length its.length a-HT.L_ its.length 0 lo)).toArray:=by obtain⟨b,c,d⟩:=s_ lo a its.toArray.size;unfold slicePick;rw[b,c,d];simp only[sliceRange_one,pick_run,f3]<;>rfl
def JT (K:Ll):V->a9 Int->a9 Int->Hp->VK->Prop:=λx lo c H Q => ∃ a b,x = .ref a/\OC K H a b/\∀ p,H p=ay->Q (.ref p) (upd H p (.lst (vU b lo c)))
theorem Ej:XA X (JT X.K):=by intro g s p H x v n u lo e sl Q I i m pl l h;obtain⟨a,c,rfl,k,q⟩:=h;cases i;obtain⟨its,r,f,j⟩:=I.list k;have d:=r.length;refine⟨"list",_,slot_list_getitem.lookup,f.isList.typeIs,?_⟩;refine wpAny_getItem_list_slice f.isList m pl l .none #[3] ?_ (by rw[f3]<;>omega);rw[qx,← d];refine⟨#[15],_,I.laid (t':=s.toks) (o:=.lst (vU c lo e)) (λb t q=>cc _ q) (hB _) ?_,rfl,q _ (I.LX.fresh (hB _))⟩;exact⟨hA (gu c lo e) j,_,0,(r.drop (HT.L_ c.length 0 lo)).take (HT.L_ c.length c.length e-HT.L_ c.length 0 lo),e8 _ rfl⟩
theorem iA:iS X (.builtin "len") (λxs H Q => ∃ p ys,xs=[.ref p]/\(OC X.K H p ys∨O2 X.K H p ys)/\Q (.int ys.length) H):=by
 intro c s f H xs g Q I r h;obtain⟨p,ys,rfl,hq,q⟩:=h;obtain⟨u,rfl,d⟩:=vals1 r;cases d;have i:=kC;rcases hq with hq |hq
 ·obtain⟨its,b,pl,e⟩:=I.list hq;have a:=b.length;exact Calls.call_len_list pl.isList (by simp only[f3]<;>omega) ⟨.int ys.length,H,I.tok _,⟨s.toks+1,by rw[f3,a]⟩,q⟩
 obtain⟨its,b,pl,e⟩:=I.tuple hq;have a:=b.length;exact len_tuple pl (by simp only[f3]<;>omega) ⟨.int ys.length,H,I.tok _,⟨s.toks+1,by rw[f3,a]⟩,q⟩
theorem ug:iS X (.builtin "len") (λxs H Q => ∃ z,xs=[.str z]/\z.length<=d4/\Q (.int z.length) H):=by intro a s c H xs e Q I r h;obtain⟨z,rfl,d,q⟩:=h;obtain⟨u,rfl,t,rfl⟩:=vals1 r;have b:=kC;exact len_str #[0] ⟨.int z.length,H,I.tok _,⟨_,rfl⟩,q⟩
theorem lQ:iS X (#[13]) (λxs H Q => ∃ p ys,xs=[.ref p]/\(OC X.K H p ys∨O2 X.K H p ys)/\∀ l,H l=ay->Q (.ref l) (upd H l (.lst ys))):=by
 intro i s t H xs v Q I r h;obtain⟨p,ys,rfl,hq,q⟩:=h;obtain⟨u,rfl,m⟩:=vals1 r;cases m
 have fin:∀ (its:ak ax),Vals ys its->ys.length<=d4->∀ (a:kx) (c:Nat),(∀ b k,#[18]=ag k->a.get? b=ag k) ->
   a.get? s.heap.objs.size=ag { cls:=#[13],dict:=ay,data:=.seq its.toArray c,slots:=#[] }->EP X i t Q (#[15]) { s with heap:=a }:=λits d f a c kp e =>
  ⟨#[15],_,I.laid (t':=s.toks) kp (hB _) (show L9 X.prog X.w _ a _ (.lst ys) from⟨f,its,c,d,e⟩),rfl,q _ (I.LX.fresh (hB _))⟩
 rcases hq with hq |hq
 ·obtain⟨its,d,pl,f⟩:=I.list hq;have g:=d.length;obtain⟨o,j,hc,n,hd⟩:=pl.isList;exact call_list_seq p (#[9]) j hc hd (λa c kp e=>fin its d f a c kp e) (by simp only[f3]<;>omega)
 obtain⟨its,d,pl,f⟩:=I.tuple hq;have g:=d.length;obtain⟨o,j,hc,n,hd⟩:=pl;exact call_list_seq p (.inr rfl) j hc hd (λa c kp e=>fin its d f a c kp e) (by simp only[f3]<;>omega)
theorem kj:iS X (.type "tuple") (λxs H Q => ∃ p ys,xs=[.ref p]/\((OC X.K H p ys/\∀ l,H l=ay->Q (.ref l) (upd H l (.tup ys)))∨(O2 X.K H p ys/\Q (.ref p) H))):=by
 intro a s j H xs t Q I r h;obtain⟨p,ys,rfl,h⟩:=h;obtain⟨u,rfl,m⟩:=vals1 r;cases m;rcases h with ⟨d,q⟩ |⟨d,q⟩
 ·obtain⟨its,f,pl,i⟩:=I.list d;have g:=f.length;refine call_tuple_list pl.isList (λc kp=>?_) (by simp only[f3]<;>omega);have k:Inv X a j H { s with heap:=c }:=I.kept (t':=s.toks) kp
  have n:Inv X a j (upd H c.objs.size (.tup ys)) { s with heap:=c.push { cls:=.type "tuple",data:=.seq its.toArray } }:=
   k.laid (t':=s.toks) (λb o e=>cc _ e) (hB _) (show L9 X.prog X.w _ _ _ (.tup ys) from⟨i,its,f,O4.new _ _⟩)
  exact⟨.ref c.objs.size,_,n,rfl,q _ (k.LX.fresh (hB _))⟩
 obtain⟨its,f,pl,i⟩:=I.tuple d;exact call_tuple_same pl ⟨.ref p,H,I,rfl,q⟩
def XB (K:Ll)(T:W7)(x:V)(H:Hp):Prop:=match x with
 | .str _=>T="str"
 | .int _=>T="int"
 | .ref p=>(T="list"/\∃ b,OC K H p b)∨(T="tuple"/\((∃ o,K.lookup p=ag o/\o.cls = .type "tuple"/\o.dict=ay)∨∃ b,Rd H p (.tup b))) ∨
   (T="dict"/\((∃ a,H p=ag (.dK a))∨∃ a,H p=ag (.dT a)))∨(T="set"/\∃ S n,H p=ag (.set S n))
 |_=>False
theorem F9 {f:Ln}{l:St}{H:Hp}{s:cv}{T:W7}{x:V}{v:ax}(I:Inv X f l H s)(r:RelV x v)(ty:XB X.K T x H) :
  s.TypeIs v T/\∀ a,v = .ref a->∃ h,s.heap.get? a=ag h/\h.dict=ay:=by
 cases x with
 |str z =>
  obtain⟨t,rfl⟩:=r;cases (show T="str" from ty);exact⟨typeIs_str s z t,λ_ e=>nomatch e⟩
 |int i =>
  obtain⟨t,rfl⟩:=r;cases (show T="int" from ty);exact⟨aa1 s i t,λ_ e=>nomatch e⟩
 |ref p =>
  cases r;rcases ty with ⟨rfl,j,k⟩ |⟨rfl,⟨o,b,hc,hd⟩ |⟨j,hr⟩⟩ |⟨rfl,b⟩ |⟨rfl,S,n,b⟩
  ·obtain⟨its,_,pl,_⟩:=I.list k;refine⟨pl.isList.typeIs,λa e=>?_⟩;cases e;obtain⟨o,n,e,c,hd,_⟩:=pl;exact⟨o,e,hd⟩
  ·refine⟨⟨o,I.Q3 p o b,hc⟩,λa e=>?_⟩;cases e;exact⟨o,I.Q3 _ o b,hd⟩
  ·obtain⟨_,its,_,n,e⟩:=hr.ok I.LX;refine⟨⟨_,e,rfl⟩,λa d=>?_⟩;cases d;exact⟨_,e,rfl⟩
  ·have z:∃ o,s.heap.get? p=ag o/\o.ExactDict:=by
    rcases b with ⟨g,b⟩ |⟨g,b⟩
    ·obtain⟨_,_,_,_,o,_,_,e,ex,_⟩:=I.LX p _ b;exact⟨o,e,ex⟩
    obtain⟨_,_,_,_,o,_,_,e,ex,_⟩:=I.LX p _ b;exact⟨o,e,ex⟩
   obtain⟨o,e,ex⟩:=z;refine⟨⟨o,e,ex.1⟩,λa d=>?_⟩;cases d;exact⟨o,e,ex.2.1⟩
  obtain⟨o,_,_,_,e,ex,_⟩:=I.LX p _ b;refine⟨⟨o,e,ex.1⟩,λa d=>?_⟩;cases d;exact⟨o,e,ex.2.1⟩
 |_=>exact QN ty
noncomputable def tBM (K:Ll)(T:W7)(r:V->ak V->Hp->VK->Prop)(to:TE)(t:TA):TE:=λa H Q=>to a H λx b=>XB K T x b/\t a b λc d=>r x c d Q
variable {o e:hL}{es:ak hL}{to:TE}{t:TA}{name:eG}{apos L6:UK}{T id:W7}{r:V->ak V->Hp->VK->Prop}
theorem CD (E:PlainAttrs T)(slot:Slot T name id)(b:typeOf (.builtin id)=y8 (.type "method_descriptor"))(q:MtR X id r)(n:PE X o to)(C:PA X (e::es) t)
  (L:RZ o name X.env (sY o X.env)=sY o X.env:=by rfl)
  (A:((tw L6 (eK (e::es) X.env)).all (λx => !x.1)&&(Xe L6 (TV [] X.env)).all (λx=>x.1.isSome)
   && dv ((e::es).length+([]:ak WH).length+(if ([]:ak WH).isEmpty then 0 else 1)<30))=ba:=by rfl)
  (D:(apos.endLine==L6.line)=ba:=by rfl) (F:eK (e::es) X.env=(b0,sY e X.env)::eK es X.env:=by rfl) (i:(tw L6 (eK es X.env)).any (·.1)=b0:=by rfl) :
  PE X (.Call (.Attribute o name apos) (e::es) [] L6) (tBM X.K T r to t):=by
 intro a s c H Q I h;refine wpAny_Call_method_late L A D rfl (LR (n a s c H _ I h) λv y p=>?_);obtain⟨x,u,g,f,ty,k⟩:=p;obtain⟨G,J⟩:=F9 g f ty;refine⟨T,id,E,slot,b,G,J,?_⟩;have d:=C L6 a y c u _ g k;rw[F] at d ⊢;refine Calls.callWith_builtin (by show (b0 ||(tw L6 (eK es X.env)).any (·.1))=b0;rw[i]<;>rfl) (Calls.evalArgs_plain ?_);exact LR d λB j ⟨l,z,M,m,w⟩=>q a j c z x l v B Q M f m w
end
def MtM (X:Cx)(id:W7)(r:V->ak V->Hp->VK->Prop):Prop:=
 ∀ (a:Ln) (s:cv) (c:St) (H:Hp) (x:V) (b:ak V) (v:ax) (d:ak ax) (Q:VK),Inv X a c H s->RelV x v->Vals b d->r x b H Q ->
  ew #[8] X.A (call (.builtin id) (v::d)) (EP X a c Q) X.xe s
theorem Vals.one:∀ {x:V}{us:ak ax},Vals [x] us->∃ u,us=[u]/\RelV x u
 |_,_,.cons r .nil=>⟨_,rfl,r⟩
theorem Vals.rep {xs:ak V}{us:ak ax}(h:Vals xs us):∀ k:Nat,Vals (ih k xs).flatten (ih k us).flatten
 | 0 => .nil
 |k+1=>by
  rw[Dd,Dd,RA,RA];exact Vals.append h (Vals.rep h k)
theorem foldl_rep (its:ak ax):∀ (k:Nat) (a:ak ax),
  WX (λx1 x2=>x1++x2) a.toArray (ih k its.toArray)=(a++(ih k its).flatten).toArray
 | 0,a=>by simp
 |k+1,a=>by
  have e:a.toArray++its.toArray=(a++its).toArray:=by simp
  have b:(a++its)++(ih k its).flatten=a++(ih (k+1) its).flatten:=by rw[Dd,RA,kg]
  rw[← b,← foldl_rep its k (a++its),← e,Dd,UU]
section
variable {X:Cx}{pins:Ln}{σ:St}{H:Hp}{s:cv}{l b:cn}{xs ys zs:ak V}
theorem Inv.V5 {its its':ak ax}{n:Nat}{f:ib ax->ib ax}{t':Nat}(I:#[10])(c:H l=ag (.lst xs))
  (e:s.heap.get? l=ag { cls:=#[13],data:=.seq its.toArray n }) (b:f its.toArray=its'.toArray) (a:Vals ys its') (hz:ys.length<=d4) :
  Inv X pins σ (upd H l (.lst ys)) { s with heap:=s.heap.update l (SJ f),toks:=t' }:=by
 have q:=adb e f;rw[b] at q;refine I.write (x:=l) (e:=l) (by rw[c];exact Qv) (#[9]) (λg u hb d=>(UT s.heap (SJ f) (lC hb)).trans d) ⟨_,q⟩ ?_;exact⟨hz,its',_,a,q⟩
theorem Inv.YA {its:ak ax}{t':Nat}(I:#[10])(a:Vals ys its)(hz:ys.length<=d4) :
  Inv X pins σ (upd H s.heap.objs.size (.lst ys)) { s with heap:=s.heap.push { cls:=#[13],data:=.seq its.toArray },toks:=t' }:=
 I.laid (λ_ _ q=>cc _ q) (hB _) ⟨hz,its,0,a,e8 _ rfl⟩
theorem Inv.fresh (I:#[10]):H s.heap.objs.size=ay:=I.LX.fresh (hB _)
theorem Inv.V6 (I:#[10])(a:H l=ag (.lst xs)):xs.length<=d4/\∃ (its:ak ax) (n:Nat),Vals xs its/\xs.length=its.length/\s.heap.get? l=ag { cls:=#[13],data:=.seq its.toArray n }:=by obtain⟨z,its,n,r,e⟩:=I.LX l _ a;exact⟨z,its,n,r,r.length,e⟩
theorem CJ {n:Nat}(h:n<=d4):Um n=b0:=by unfold Um;exact eh #[0]
end
section
variable {X:Cx}
def Et:V->ak V->Hp->VK->Prop:=λx b H Q => ∃ l a y,x = .ref l/\b=[y]/\H l=ag (.lst a)/\a.length<d4/\Q .LN (upd H l (.lst (a++[y])))
theorem A3:MtM X "list.append" Et:=by intro b s m H x i v o Q I c f h;obtain⟨l,k,y,rfl,rfl,a,g,q⟩:=h;cases c;obtain⟨u,rfl,d⟩:=f.one;obtain⟨z,its,n,r,j,e⟩:=I.V6 a;refine XO F.slot_list_append ⟨_,e,rfl⟩ F.entry_list_append (F.args_list_append_2 _ _) (acW l its.toArray n u (by rw[f3];omega)) ⟨e,?_⟩;refine⟨.LN,_,I.V5 (its':=its++[u]) a e #[3] (r.append (.cons d .nil)) ?_,rfl,q⟩;rw[da,UC];omega
theorem len_rep {α:Type}(xs:ak α)(k:Nat):(ih k xs).flatten.length=k*xs.length:=by
 induction k with
 |zero=>simp
 |succ k a=>rw[Dd,RA,da,a,succ_mul,Nat.add_comm]
end
inductive D where
 |LN |bl (b:fg) |int (i:Int) |str (x:eG)
 |tup (xs:ak D) |lst (xs:ak D) |set (xs:ak D) |loc (l:Nat) |fn (x:eG) (st:r4)
 deriving Inhabited
def TQ (K:Ll)(H:Hp)(J:ak cn)(a:cn)(xs:ak V):Prop:=
 (Rd H a (.tup xs)/\a∉J/\xs.length<=d4)∨∃ (o:Obj) (its:ib ax) (n:Nat),K.lookup a=ag o/\o.cls = .type "tuple"/\o.dict=ay/\o.data = .seq its n/\its.size<=d4/\Vals xs its.toList
def LQ (K:Ll)(H:Hp)(J:ak cn)(a:cn)(xs:ak V):Prop:=
 (Rd H a (.lst xs)/\a∉J/\xs.length<=d4)∨∃ (o:Obj) (its:ib ax) (n:Nat),K.lookup a=ag o/\o.cls = #[13]/\o.dict=ay/\o.data = .seq its n/\its.size<=d4/\Vals xs its.toList
theorem TQ.sq {K:Ll}{H:Hp}{J:ak cn}{a:cn}{xs:ak V}(h:TQ K H J a xs):O2 K H a xs:=h.elim (λz => .inl z.1) λ⟨o,its,n,a,b,_,c⟩ => .inr ⟨o,its,n,a,b,c⟩
theorem LQ.sq {K:Ll}{H:Hp}{J:ak cn}{a:cn}{xs:ak V}(h:LQ K H J a xs):OC K H a xs:=h.elim (λz => .inl z.1) .inr
noncomputable def HD (a:cn)(us:ak ax):HO:=HO.ext λh => ∃ o es ep t,h.get? a=ag o/\o.ExactSet/\o.data = .set es ep t/\(es.toList.map (·.2))=us/\t.fits es.size=ba/\es.size<=d4
def Tf (x:eG):Prop:=x.length<=d4/\H7 x=ba
mutual
def At (K:Ll)(H:Hp)(J:ak cn):D->V->Prop
 | .LN,v=>v = .LN
 | .bl b,v=>v = .bl b
 | .int i,v=>v = .int i
 | .str x,v=>v = .str x/\Tf x
 | .tup d,v => ∃ a c,v = .ref a/\TQ K H J a c/\Lx K H J d c
 | .lst d,v => ∃ a c,v = .ref a/\LQ K H J a c/\Lx K H J d c
 | .set d,v => ∃ a e c,v = .ref a/\H a=ag (HD a e)/\a∉J/\Vals c e/\Lx K H J d c
 | .loc l,v => ∃ a,v = .ref a/\J[l]?=ag a
 | .fn x st,v => ∃ f fd,v = .ref f/\Q7 K x x st f fd
def Lx (K:Ll)(H:Hp)(J:ak cn):ak D->ak V->Prop
 |[],vs=>vs=[]
 |d::ds,vs => ∃ v r,vs=v::r/\At K H J d v/\Lx K H J ds r
end
structure Ex (J:ak cn) (H:Hp) (J':ak cn) (H':Hp):Prop where
 pre:J <+: J'
 keep:∀ b o,H b=ag o->b∉J->H' b=ag o/\b∉J'
theorem Ex.refl {J:ak cn}{H:Hp}:Ex J H J H:=⟨abz _,λ_ _ h n=>⟨h,n⟩⟩
theorem Ex.trans {J g d:ak cn}{H f e:Hp}(a:Ex J H g f)(b:Ex g f d e):Ex J H d e:=
 ⟨a.pre.trans b.pre,λc o h n=>let ⟨i,n1⟩:=a.keep c o h n;b.keep c o i n1⟩
theorem Ex.same {J:ak cn}{H H':Hp}(s:LH H H'):Ex J H J H':=⟨abz _,λb o h n=>⟨s b o h,n⟩⟩
section
variable {K:Ll}{H H':Hp}{J J':ak cn}
theorem Rd.ex {a:cn}{u:HO}(e:Ex J H J' H')(h:Rd H a u)(n:a∉J):Rd H' a u/\a∉J':=by
 rcases h with h |⟨o,h⟩
 ·exact⟨.inl (e.keep a _ h n).1,(e.keep a _ h n).2⟩
 exact⟨.inr ⟨o,(e.keep a _ h n).1⟩,(e.keep a _ h n).2⟩
theorem TQ.ex {a:cn}{xs:ak V}(e:Ex J H J' H')(h:TQ K H J a xs):TQ K H' J' a xs:=h.elim (λz => .inl ⟨(z.1.ex e z.2.1).1,(z.1.ex e z.2.1).2,z.2.2⟩) .inr
theorem LQ.ex {a:cn}{xs:ak V}(e:Ex J H J' H')(h:LQ K H J a xs):LQ K H' J' a xs:=h.elim (λz => .inl ⟨(z.1.ex e z.2.1).1,(z.1.ex e z.2.1).2,z.2.2⟩) .inr
theorem TQ.len {a:cn}{xs:ak V}(h:TQ K H J a xs):xs.length<=d4:=by
 rcases h with ⟨_,_,z⟩ |⟨o,its,n,_,_,_,_,z,r⟩
 ·exact z
 have e:=Vals.length r;simp only[ky] at e;omega
theorem LQ.len {a:cn}{xs:ak V}(h:LQ K H J a xs):xs.length<=d4:=by
 rcases h with ⟨_,_,z⟩ |⟨o,its,n,_,_,_,_,z,r⟩
 ·exact z
 have e:=Vals.length r;simp only[ky] at e;omega
theorem oo {α:Type}{l a:ak α}(h:l <+: a){i:Nat}{x : α}(e:l[i]?=ag x):a[i]?=ag x:=by obtain⟨t,rfl⟩:=h;rw[h7 (b5.mp e).1];exact e
mutual
theorem At.ex (e:Ex J H J' H'):∀ {d:D}{v:V},At K H J d v->At K H' J' d v
 | .LN,_,h=>by unfold At at h ⊢;exact h
 | .bl _,_,h=>by unfold At at h ⊢;exact h
 | .int _,_,h=>by unfold At at h ⊢;exact h
 | .str _,_,h=>by unfold At at h ⊢;exact h
 | .tup c,_,h=>by unfold At at h ⊢;obtain⟨a,b,rfl,q,r⟩:=h;exact⟨a,b,rfl,q.ex e,Lx.ex e r⟩
 | .lst c,_,h=>by unfold At at h ⊢;obtain⟨a,b,rfl,q,r⟩:=h;exact⟨a,b,rfl,q.ex e,Lx.ex e r⟩
 | .set c,_,h=>by unfold At at h ⊢;obtain⟨a,f,b,rfl,q,n,r,z⟩:=h;exact⟨a,f,b,rfl,(e.keep a _ q n).1,(e.keep a _ q n).2,r,Lx.ex e z⟩
 | .loc l,_,h=>by unfold At at h ⊢;obtain⟨a,rfl,q⟩:=h;exact⟨a,rfl,oo e.pre q⟩
 | .fn _ _,_,h=>by unfold At at h ⊢;exact h
theorem Lx.ex (e:Ex J H J' H'):∀ {ds:ak D}{vs:ak V},Lx K H J ds vs->Lx K H' J' ds vs
 |[],_,h=>by unfold Lx at h ⊢;exact h
 |d::ds,_,h=>by unfold Lx at h ⊢;obtain⟨v,r,rfl,p,q⟩:=h;exact⟨v,r,rfl,At.ex e p,Lx.ex e q⟩
end
theorem At.Mt {v:V}:At K H J .LN v↔v = .LN:=by unfold At;exact Zh
theorem At.L5 {b:fg}{v:V}:At K H J (.bl b) v↔v = .bl b:=by unfold At;exact Zh
theorem At.Lu {i:Int}{v:V}:At K H J (.int i) v↔v = .int i:=by unfold At;exact Zh
theorem At.LL {x:eG}{v:V}:At K H J (.str x) v↔v = .str x/\Tf x:=by unfold At;exact Zh
theorem At.LF {ds:ak D}{v:V}:At K H J (.tup ds) v↔∃ a xs,v = .ref a/\TQ K H J a xs/\Lx K H J ds xs:=by unfold At;exact Zh
theorem At.LK {ds:ak D}{v:V}:At K H J (.lst ds) v↔∃ a xs,v = .ref a/\LQ K H J a xs/\Lx K H J ds xs:=by unfold At;exact Zh
theorem At.Ov {ds:ak D}{v:V}:At K H J (.set ds) v↔∃ a us xs,v = .ref a/\H a=ag (HD a us)/\a∉J/\Vals xs us/\Lx K H J ds xs:=by unfold At;exact Zh
theorem At.LG {l:Nat}{v:V}:At K H J (.loc l) v↔∃ a,v = .ref a/\J[l]?=ag a:=by unfold At;exact Zh
theorem At.RY {x:eG}{st:r4}{v:V}:At K H J (.fn x st) v↔∃ f fd,v = .ref f/\Q7 K x x st f fd:=by unfold At;exact Zh
theorem Lx.Ly {vs:ak V}:Lx K H J [] vs↔vs=[]:=by unfold Lx;exact Zh
theorem Lx.Lv {d:D}{ds:ak D}{vs:ak V}:Lx K H J (d::ds) vs↔∃ v r,vs=v::r/\At K H J d v/\Lx K H J ds r:=by
 rw[3]
 ·intro h;unfold Lx at h;exact h
 intro h;unfold Lx;exact h
theorem Lx.nil:Lx K H J [] []:=Lx.Ly.mpr rfl
theorem Lx.cons {d:D}{v:V}{ds:ak D}{vs:ak V}(h:At K H J d v)(r:Lx K H J ds vs):Lx K H J (d::ds) (v::vs):=Lx.Lv.mpr ⟨v,vs,rfl,h,r⟩
theorem Lx.Lz {d:D}{v:V}{ds:ak D}{vs:ak V}(h:Lx K H J (d::ds) (v::vs)):At K H J d v/\Lx K H J ds vs:=by obtain⟨_,_,e,p,q⟩:=Lx.Lv.mp h;cases e;exact⟨p,q⟩
theorem Lx.length:∀ {ds:ak D}{vs:ak V},Lx K H J ds vs->ds.length=vs.length
 |[],_,h=>by rw[Lx.Ly.mp h];rfl
 |d::ds,_,h=>by obtain⟨v,r,rfl,_,q⟩:=Lx.Lv.mp h;rw[j2,j2,Lx.length q]
theorem Lx.append:∀ {ds es:ak D}{vs us:ak V},Lx K H J ds vs->Lx K H J es us->Lx K H J (ds++es) (vs++us)
 |[],_,_,_,h,k=>by rw[Lx.Ly.mp h];exact k
 |d::ds,_,_,_,h,k=>by obtain⟨v,r,rfl,p,q⟩:=Lx.Lv.mp h;exact .cons p (Lx.append q k)
theorem Lx.get:∀ {ds:ak D}{vs:ak V}{i:Nat}{d:D},Lx K H J ds vs->ds[i]?=ag d->∃ v,vs[i]?=ag v/\At K H J d v
 |[],_,_,_,_,e=>by simp at e
 |d::ds,_,0,_,h,e=>by obtain⟨v,r,rfl,p,q⟩:=Lx.Lv.mp h;simp at e;subst e;exact⟨v,rfl,p⟩
 |d::ds,_,i+1,_,h,e=>by obtain⟨v,r,rfl,p,q⟩:=Lx.Lv.mp h;exact Lx.get (i:=i) q (by simpa using e)
theorem Lx.get':∀ {ds:ak D}{vs:ak V}{i:Nat}{v:V},Lx K H J ds vs->vs[i]?=ag v->∃ d,ds[i]?=ag d/\At K H J d v
 |[],_,_,_,h,e=>by rw[Lx.Ly.mp h] at e;simp at e
 |d::ds,_,0,_,h,e=>by obtain⟨v,r,rfl,p,q⟩:=Lx.Lv.mp h;simp at e;subst e;exact⟨d,rfl,p⟩
 |d::ds,_,i+1,_,h,e=>by obtain⟨v,r,rfl,p,q⟩:=Lx.Lv.mp h;exact Lx.get' (i:=i) q (by simpa using e)
theorem Lx.take:∀ {ds:ak D}{vs:ak V}(n:Nat),Lx K H J ds vs->Lx K H J (ds.take n) (vs.take n)
 |_,_,0,_=>by simpa using Lx.nil
 |[],_,_+1,h=>by rw[Lx.Ly.mp h];simpa using Lx.nil
 |d::ds,_,n+1,h=>by obtain⟨v,r,rfl,p,q⟩:=Lx.Lv.mp h;exact .cons p (Lx.take n q)
theorem Lx.drop:∀ {ds:ak D}{vs:ak V}(n:Nat),Lx K H J ds vs->Lx K H J (ds.drop n) (vs.drop n)
 |_,_,0,h=>h
 |[],_,_+1,h=>by rw[Lx.Ly.mp h];simpa using Lx.nil
 |d::ds,_,n+1,h=>by obtain⟨v,r,rfl,p,q⟩:=Lx.Lv.mp h;exact Lx.drop n q
theorem Lx.rep {ds:ak D}{vs:ak V}(h:Lx K H J ds vs):∀ k:Nat,Lx K H J (ih k ds).flatten (ih k vs).flatten
 | 0=>Lx.nil
 |k+1=>by rw[Dd,Dd,RA,RA];exact h.append (Lx.rep h k)
theorem Lx.ofInts:∀ (ns:ak Int),Lx K H J (ns.map D.int) (ns.map V.int)
 |[] => .nil
 |n::ns => .cons (#[17]) (Lx.ofInts ns)
theorem Lx.NW:∀ {ns:ak Int}{vs:ak V},Lx K H J (ns.map D.int) vs->vs=ns.map V.int
 |[],_,h=>Lx.Ly.mp h
 |n::ns,_,h=>by obtain⟨v,r,rfl,p,q⟩:=Lx.Lv.mp h;rw[At.Lu.mp p,Lx.NW q];rfl
end
mutual
def toPy:D->a9 la
 | .LN=>ag .none
 | .bl b=>ag (.bool b)
 | .int i=>ag (.int i)
 | .str x=>ag (.str x)
 | .tup a=>(cY a).map .tuple
 | .lst a=>(cY a).map .list
 | .set _=>ay
 | .loc _=>ay
 | .fn _ _=>ay
def cY:ak D->a9 (ak la)
 |[]=>ag []
 |d::ds=>(toPy d).bind λp=>(cY ds).map λr=>p::r
end
inductive MO where
 |dict (kvs:ak (D×D)) |lst (xs:ak D) |exc (c:eG) |LM (kvs:ak (D×D)) |ins (c:eG) (fs:ak (eG×D)) |tab (x q:eG) |UI (lam:hL) (q n:eG) (d:D)
 deriving Inhabited
abbrev Lq:=ak MO
noncomputable def fz:D->a9 Key
 | .int i=>ag (.inl i)
 | .str x=>ag (.inr x)
 |_=>ay
noncomputable def ExO (a C:cn):HO:=HO.ext λh => ∃ o,h.get? a=ag o/\o.cls = .ref C
noncomputable def DV (c:cn)(q:eG):HO:=HO.ext λh => ∃ o a t,h.get? c=ag o/\o.data = .fields a/\a[1]?=ag (.str q t)
noncomputable def Jr (a:cn)(o:Obj):HO:=HO.ext λh=>h.get? a=ag o
structure V7 (H:Hp) (J:ak cn) (params:XN) (body:hL) (scope:lE) (q n:eG) (a c c':cn) (pm Q8:ax) (oc:Obj) (u:ax):Prop where
 fn:H a=ag (Jr a (PySem.W.kla_obj "<lambda>" q params body scope [(n,c)] pm c' Q8))
 cj:c'∉J
 cd:H c'=ag (DV c' q)
 nj:c∉J
 cl:H c=ag (Jr c oc)
 dt:oc.data = .cell (ag u)
def Kx (H:Hp)(J:ak cn)(q:eG)(a:ib ax):Prop:=TriplesOk a.toList/\∀ pos b,codeAmong pos a.toList=ag b->∃ c,b = .ref c/\c∉J/\H c=ag (DV c q)
noncomputable def f9 (d:D):a9 la:=(toPy d).bind λp=>if keyOk 8 p=ba then ag p else ay
abbrev Q9 (K:Ll)(H:Hp)(J:ak cn):(D×D)->(la×cn×V)->Prop:=λp q=>(f9 p.1=ag q.1/\At K H J p.1 (.ref q.2.1))/\At K H J p.2 q.2.2
abbrev XC (K:Ll)(H:Hp)(J:ak cn):(eG×D)->(eG×V)->Prop:=λp q=>p.1=q.1/\At K H J p.2 q.2
noncomputable def RF (K:Ll)(H:Hp)(J:ak cn):MO->cn->Prop
 | .lst o,a => ∃ h,H a=ag (.lst h)/\Lx K H J o h
 | .dict e,a => ∃ b:ak (Key×V),H a=ag (.dK b)/\lU (λ(p:D×D) (q:Key×V)=>(fz p.1=ag q.1/\At K H J p.1 (kV q.1))/\At K H J p.2 q.2) e b
 | .exc c,a => ∃ C,RI K my c=ag (ag (.ref C))/\H a=ag (ExO a C)
 | .LM e,a => ∃ b:ak (la×cn×V),H a=ag (.dN b)/\lU (Q9 K H J) e b
 | .ins c fs,a => ∃ C i g,RI K my c=ag (ag (.ref C))/\H a=ag (.ins C i g)/\lU (XC K H J) fs g
 | .UI f q n d,a => ∃ params body scope pos c k m l j u v,f = .Lambda params body scope pos/\V7 H J params body scope q n a c k m l j u/\RelV v u/\At K H J d v
 | .tab x q,a => ∃ c b,PySem.W.tabIn K x=ag (c,a)/\H a=ag (.Tz b)/\Kx H J q b
structure LW (K:Ll) (J:ak cn) (S:Lq) (H:Hp):Prop where
 len:J.length=S.length
 nd:J.Nodup
 at_:∀ (l:Nat) (a:cn) (o:MO),J[l]?=ag a->S[l]?=ag o->RF K H J o a
section
variable {K:Ll}{H H':Hp}{J J':ak cn}{S:Lq}
theorem RF.PD {o:MO}{a:cn}(h:RF K H J o a):H a≠ay:=by
 cases o with
 |dict b=>obtain⟨_,e,_⟩:=h;rw[e];simp
 |lst g=>obtain⟨_,e,_⟩:=h;rw[e];simp
 |exc c=>obtain⟨_,_,e⟩:=h;rw[e];simp
 |LM b=>obtain⟨_,e,_⟩:=h;rw[e];simp
 |ins c fs=>obtain⟨_,_,_,_,e,_⟩:=h;rw[e];simp
 |tab x q=>obtain⟨_,_,_,e,_⟩:=h;rw[e];simp
 |UI f q n d=>obtain⟨_,_,_,_,_,_,_,_,_,_,_,_,e,_⟩:=h;rw[e.fn];simp
theorem LW.tracked (s:LW K J S H){a:cn}(h:a∈J):H a≠ay:=by
 obtain⟨l,e⟩:=QV h;have b:l<S.length:=by rw[← s.len];exact(b5.mp e).1
 exact(s.at_ l a _ e (bc b)).PD
theorem RF.ex {o:MO}{a:cn}(e:Ex J H J' H')(k:H' a=H a)(h:RF K H J o a):RF K H' J' o a:=by
 cases o with
 |dict i=>obtain⟨g,q,r⟩:=h;exact⟨g,k.trans q,Paired.Pt r λp q z=>⟨⟨z.1.1,z.1.2.ex e⟩,z.2.ex e⟩⟩
 |lst O=>obtain⟨L,q,r⟩:=h;exact⟨L,k.trans q,r.ex e⟩
 |exc c=>obtain⟨C,q,r⟩:=h;exact⟨C,q,k.trans r⟩
 |LM i=>obtain⟨g,q,r⟩:=h;exact⟨g,k.trans q,Paired.Pt r λp q z=>⟨⟨z.1.1,z.1.2.ex e⟩,z.2.ex e⟩⟩
 |ins c fs=>obtain⟨C,l,t,n,q,r⟩:=h;exact⟨C,l,t,n,k.trans q,Paired.Pt r λp q z=>⟨z.1,z.2.ex e⟩⟩
 |UI A q n d =>
  obtain⟨I,D,sc,po,c,f,G,E,B,u,v,m,b,w,M⟩:=h;exact⟨I,D,sc,po,c,f,G,E,B,u,v,m,⟨k.trans b.fn,(e.keep f _ b.cd b.cj).2,(e.keep f _ b.cd b.cj).1,(e.keep c _ b.cl b.nj).2,(e.keep c _ b.cl b.nj).1,b.dt⟩,w,M.ex e⟩
 |tab x q =>
  obtain⟨c,g,n,s,F,N⟩:=h;exact⟨c,g,n,k.trans s,F,λpos y b=>let ⟨f,z1,z2,j⟩:=N pos y b;⟨f,z1,(e.keep f _ j z2).2,(e.keep f _ j z2).1⟩⟩
theorem LW.same (s:LW K J S H)(e:LH H H'):LW K J S H':=⟨s.len,s.nd,λl a o c d=>by
 have q:=s.at_ l a o c d;refine q.ex (Ex.same e) ?_;obtain⟨u,b⟩:=Option.ne_none_iff_exists'.mp q.PD
 rw[b];exact e a u b⟩
end
theorem aO {H:Hp}{p:cn}(h:H p=ay)(o:HO):LH H (upd H p o):=λb u q=>by rw[aG (aM q h)];exact q
abbrev Lr:=ak (a9 D)
abbrev Out (α:Type):=a9 (Except eG α×Lq)
abbrev Lk(α:Type):=Lr->Lq->Out α
abbrev Lp:=ak D->Lq->Out D
abbrev WT:=eG->ak cn->Lq->Hp->Prop
noncomputable def ai {α b:Type}(m:Out α) (k : α->Lq->Out b):Out b:=
 match m with
 |ay=>ay
 |ag (.error c,S)=>ag (.error c,S)
 |ag (.ok a,S)=>k a S
noncomputable def LB {α:Type}(a : α) (S:Lq):Out α:=ag (.ok a,S)
@[simp] theorem cI {α b:Type}(a : α)(S:Lq)(k : α->Lq->Out b):ai (LB a S) k=k a S:=rfl
@[simp] theorem fY {α b:Type}(a : α)(S:Lq)(k : α->Lq->Out b):ai (ag (.ok a,S)) k=k a S:=rfl
@[simp] theorem HP {α a:Type}(c:eG)(S:Lq)(k : α->Lq->Out a):ai (ag (.error c,S)) k=ag (.error c,S):=rfl
@[simp] theorem Hx {α a:Type}(k : α->Lq->Out a):ai ay k=ay:=rfl
noncomputable def aL {α:Type}(a:a9 α) (S:Lq):Out α:=a.map λa=>(.ok a,S)
@[simp] theorem bG {α:Type}(a : α)(S:Lq):aL (ag a) S=LB a S:=rfl
@[simp] theorem HN {α:Type}(S:Lq):aL (ay:a9 α) S=ay:=rfl
structure Cf (X:Cx) (J:ak cn) (ρ:Lr) (S:Lq) (σ:St) (H:Hp):Prop where
 len : ρ.length = σ.length
 env:∀ (i:Nat) (d:D),ρ[i]?=ag (ag d)->∃ v,σ[i]?=ag (ag v)/\At X.K H J d v
 LZ:LW X.K J S H
theorem Cf.re {X:Cx}{J a:ak cn}{ρ:Lr}{S f:Lq}{b:St}{H H':Hp}(c:Cf X J ρ S b H)(e:Ex J H a H')(s:LW X.K a f H'):Cf X a ρ f b H':=
 ⟨c.len,λi d h=>let ⟨v,g,j⟩:=c.env i d h;⟨v,g,j.ex e⟩,s⟩
def Ky {α g:Type}(X:Cx)(W:WT)(R:ak cn->Hp->α->g->Prop)(J:ak cn)(H:Hp)(r:Except eG α)(f:Lq)(Q : g->Hp->Prop):Prop:=
 match r with
 | .ok a => ∀ e d b,Ex J H e d->LW X.K e f d->R e d a b->Q b d
 | .error c => ∀ e d,Ex J H e d->LW X.K e f d->W c e f d
def tG {α c:Type}(X:Cx)(W:WT)(R:ak cn->Hp->α->c->Prop)(ds:ak D)(vs:ak V)(g:Lk α):St->Hp->(c->Hp->Prop)->Prop:=λd H Q =>
 ∃ J a S r b,Cf X J a S d H/\Lx X.K H J ds vs/\g a S=ag (r,b)/\Ky X W R J H r b Q
abbrev RD (X:Cx):ak cn->Hp->D->V->Prop:=λJ H d v=>At X.K H J d v
abbrev RDs (X:Cx):ak cn->Hp->ak D->ak V->Prop:=λJ H d v=>Lx X.K H J d v
abbrev RB:ak cn->Hp->fg->fg->Prop:=λ_ _ a b=>a=b
noncomputable def tE (X:Cx)(W:WT)(g:Lk D):TE:=tG X W (RD X) [] [] g
noncomputable def tA (X:Cx)(W:WT)(g:Lk (ak D)):TA:=tG X W (RDs X) [] [] g
noncomputable def tT (X:Cx)(W:WT)(g:Lk fg):TT:=tG X W RB [] [] g
def SE (X:Cx)(W:WT)(e:hL)(g:Lk D):Prop:=PE X e (tE X W g)
def SA (X:Cx)(W:WT)(es:ak hL)(g:Lk (ak D)):Prop:=PA X es (tA X W g)
def Ow (X:Cx)(W:WT)(e:hL)(g:Lk fg):Prop:=PT X e (tT X W g)
def SW (X:Cx)(W:WT)(e:hL)(g:Lk fg):Prop:=PW X e (tT X W g)
theorem PE.imp {X:Cx}{e:hL}{t t':TE}(h:PE X e t)(i:∀ b H Q,t' b H Q->t b H Q):PE X e t':=λa s b H Q I z=>h a s b H Q I (i b H Q z)
theorem PT.imp {X:Cx}{e:hL}{t t':TT}(h:PT X e t)(i:∀ b H Q,t' b H Q->t b H Q):PT X e t':=λa s b H Q I z=>h a s b H Q I (i b H Q z)
theorem PW.imp {X:Cx}{e:hL}{t t':TT}(h:PW X e t)(i:∀ b H Q,t' b H Q->t b H Q):PW X e t':=λc a s b H Q I z=>h c a s b H Q I (i b H Q z)
theorem PA.imp {X:Cx}{e:ak hL}{t t':TA}(h:PA X e t)(i:∀ b H Q,t' b H Q->t b H Q):PA X e t':=λpos a s b H Q I z=>h pos a s b H Q I (i b H Q z)
section
variable {X:Cx}{W:WT}{α β γ:Type}{R:ak cn->Hp->γ->β->Prop}
theorem tG.LD {p:Lk D}{k:D->Lk γ}{ds:ak D}{vs:ak V}{j:St}{H:Hp}{Q : β->Hp->Prop}
  (h:tG X W R ds vs (λρ S=>ai (p ρ S) λd f=>k d ρ f) j H Q):tE X W p j H λv s => ∃ d,tG X W R (d::ds) (v::vs) (k d) j s Q:=by
 obtain⟨J,ρ,S,r,A,c,a,e,z⟩:=h;cases q:p ρ S with
 |none=>simp[q] at e
 |some o =>
  obtain⟨u,f⟩:=o;simp only[q] at e;cases u with
  |error x =>
   cases e;exact⟨J,ρ,S,.error x,_,c,.nil,q,z⟩
  |ok d =>
   refine⟨J,ρ,S,.ok d,f,c,.nil,q,λt s v x w m=>⟨d,t,ρ,f,r,A,c.re x w,.cons m (a.ex x),e,?_⟩⟩;cases r with
   |ok g=>exact λl n b x2 i y=>z l n b (x.trans x2) i y
   |error g=>exact λl n x2 i=>z l n (x.trans x2) i
theorem tG.OI {p:Lk (ak D)}{k:ak D->Lk γ}{ds:ak D}{vs:ak V}{j:St}{H:Hp}{Q : β->Hp->Prop}
  (h:tG X W R ds vs (λρ S=>ai (p ρ S) λd f=>k d ρ f) j H Q):tA X W p j H λus s => ∃ es,es.length=us.length/\tG X W R (es++ds) (us++vs) (k es) j s Q:=by
 obtain⟨J,ρ,S,r,A,c,a,e,z⟩:=h;cases q:p ρ S with
 |none=>simp[q] at e
 |some o =>
  obtain⟨u,f⟩:=o;simp only[q] at e;cases u with
  |error x =>
   cases e;exact⟨J,ρ,S,.error x,_,c,.nil,q,z⟩
  |ok d =>
   refine⟨J,ρ,S,.ok d,f,c,.nil,q,λt s v x w m=>⟨d,Lx.length m,t,ρ,f,r,A,c.re x w,Lx.append m (a.ex x),e,?_⟩⟩;cases r with
   |ok g=>exact λl n b x2 i y=>z l n b (x.trans x2) i y
   |error g=>exact λl n x2 i=>z l n (x.trans x2) i
theorem tG.Ph {p:Lk fg}{k:fg->Lk γ}{ds:ak D}{vs:ak V}{j:St}{H:Hp}{Q : β->Hp->Prop}
  (h:tG X W R ds vs (λρ S=>ai (p ρ S) λd f=>k d ρ f) j H Q):tT X W p j H λb s=>tG X W R ds vs (k b) j s Q:=by
 obtain⟨J,ρ,S,r,A,c,a,e,z⟩:=h;cases q:p ρ S with
 |none=>simp[q] at e
 |some o =>
  obtain⟨u,f⟩:=o;simp only[q] at e;cases u with
  |error x =>
   cases e;exact⟨J,ρ,S,.error x,_,c,.nil,q,z⟩
  |ok d =>
   refine⟨J,ρ,S,.ok d,f,c,.nil,q,λt s v x w m=>?_⟩;cases m;refine⟨t,ρ,f,r,A,c.re x w,a.ex x,e,?_⟩;cases r with
   |ok g=>exact λl n b x2 i y=>z l n b (x.trans x2) i y
   |error g=>exact λl n x2 i=>z l n (x.trans x2) i
end
section
variable {X:Cx}{pins:Ln}{σ:St}{H:Hp}{s:cv}{J:ak cn}
mutual
theorem At.reads (I:Inv X pins σ H s):∀ {d:D}{v:V}{u:ax}{p:la},At X.K H J d v->RelV v u->toPy d=ag p->p.canLay0=ba/\∃ as,acO s.heap u p as
 | .LN,_,_,_,h,r,e=>by
  have h:=At.Mt.mp h;subst h;simp[toPy] at e;subst e;cases r;exact⟨rfl,[],.none⟩
 | .bl b,_,_,_,h,r,e=>by
  have h:=At.L5.mp h;subst h;simp[toPy] at e;subst e;cases r;exact⟨rfl,[],.bool b⟩
 | .int i,_,_,_,h,r,e=>by
  have h:=At.Lu.mp h;subst h;simp[toPy] at e;subst e;obtain⟨t,rfl⟩:=r;exact⟨rfl,[],.int i t⟩
 | .str x,_,_,_,h,r,e=>by
  obtain⟨ev,y⟩:=At.LL.mp h;subst ev;simp[toPy] at e;subst e;obtain⟨t,rfl⟩:=r;exact⟨by rw[VA];exact y.2,[],.str x t⟩
 | .tup A,_,_,_,h,r,e=>by
  obtain⟨a,m,rfl,q,z⟩:=At.LF.mp h;rw[toPy] at e;obtain⟨w,f,j⟩:=en.mp e;subst j;cases r;obtain⟨its,l,⟨o,g,hc,n,hd⟩,_⟩:=I.tuple q.sq;obtain⟨c,as,k⟩:=Lx.readsAll I z l f;exact⟨by rw[VA];exact c,_,.tuple g hc hd (by simpa using k)⟩
 | .lst A,_,_,_,h,r,e=>by
  obtain⟨a,m,rfl,q,z⟩:=At.LK.mp h;rw[toPy] at e;obtain⟨w,f,j⟩:=en.mp e;subst j;cases r;obtain⟨its,l,⟨o,n,g,hc,_,hd⟩,_⟩:=I.list q.sq;obtain⟨c,as,k⟩:=Lx.readsAll I z l f;exact⟨by rw[VA];exact c,_,.list g hc hd (by simpa using k)⟩
 | .set _,_,_,_,_,_,e=>by simp[toPy] at e
 | .loc _,_,_,_,_,_,e=>by simp[toPy] at e
 | .fn _ _,_,_,_,_,_,e=>by simp[toPy] at e
theorem Lx.readsAll (I:Inv X pins σ H s):∀ {ds:ak D}{vs:ak V}{us:ak ax}{a:ak la},Lx X.K H J ds vs->Vals vs us->cY ds=ag a->ze a=ba/\∃ as,aay s.heap us a as
 |[],_,_,_,h,r,e=>by
  have h:=Lx.Ly.mp h;subst h;simp[cY] at e;subst e;cases r;exact⟨rfl,[],.nil⟩
 |d::ds,_,_,_,h,r,e=>by
  obtain⟨v,vs,rfl,p,q⟩:=Lx.Lv.mp h;rw[cY] at e;obtain⟨o,b,i⟩:=hD.mp e;obtain⟨t,g,m⟩:=en.mp i;subst m;cases r with
  |cons k n =>
   obtain⟨l,as,j⟩:=At.reads I p k b;obtain⟨f,bs,c⟩:=Lx.readsAll I q n g;exact⟨by rw[ze,l,f];rfl,_,.cons j c⟩
end
end
section
variable {K:Ll}
def rD1 (K:Ll)(g:D->a9 D):V->Hp->VK->Prop:=λx H Q => ∃ J c d,(∀ a∈J,H a≠ay)/\At K H J c x/\g c=ag d/\∀ b v,LH H b->At K b J d v->Q v b
noncomputable def V8 (K:Ll)(g:D->D->a9 D):R2:=λx y H Q => ∃ J c e d,(∀ a∈J,H a≠ay)/\At K H J c x/\At K H J e y/\g c e=ag d/\∀ b v,LH H b->At K b J d v->Q v b
def YB (K:Ll)(g:ak D->a9 D):ak V->Hp->VK->Prop:=λe H Q => ∃ J c d,(∀ a∈J,H a≠ay)/\Lx K H J c e/\g c=ag d/\∀ b v,LH H b->At K b J d v->Q v b
end
theorem zC {H:Hp}{J:ak cn}(h:∀ a∈J,H a≠ay){p:cn}(n:H p=ay):p∉J:=λm=>h p m n
theorem At.Ng {K:Ll}{H:Hp}{J:ak cn}{p:cn}{ds:ak D}{xs:ak V}(h:Lx K H J ds xs)(n:H p=ay)(b:∀ a∈J,H a≠ay)(hz:xs.length<=d4):At K (upd H p (.tup xs)) J (.tup ds) (.ref p):=
 At.LF.mpr ⟨p,xs,rfl,.inl ⟨.inl LC,zC b n,hz⟩,h.ex (Ex.same (aO n _))⟩
theorem At.MP {K:Ll}{H:Hp}{J:ak cn}{p:cn}{ds:ak D}{xs:ak V}(h:Lx K H J ds xs)(n:H p=ay)(b:∀ a∈J,H a≠ay)(hz:xs.length<=d4):At K (upd H p (.lst xs)) J (.lst ds) (.ref p):=
 At.LK.mpr ⟨p,xs,rfl,.inl ⟨.inl LC,zC b n,hz⟩,h.ex (Ex.same (aO n _))⟩
section
variable {X:Cx}{W:WT}
theorem tG.mono {α f:Type}{R:ak cn->Hp->α->f->Prop}{ds:ak D}{vs:ak V}{g:Lk α}{d:St}{H:Hp}{Q j : f->Hp->Prop}(h:tG X W R ds vs g d H Q)(i:∀ b H',Q b H'->j b H'):tG X W R ds vs g d H j:=by
 obtain⟨J,l,S,r,m,c,a,e,z⟩:=h;refine⟨J,l,S,r,m,c,a,e,?_⟩;cases r with
 |ok g=>exact λk H' b x s r=>i _ _ (z k H' b x s r)
 |error g=>exact z
theorem LW.all {K:Ll}{J:ak cn}{S:Lq}{H:Hp}(s:LW K J S H):∀ a∈J,H a≠ay:=λ_ m=>s.tracked m
theorem tG.op1 {g:D->a9 D}{b:D}{x:V}{i:St}{H:Hp}{Q:VK}(h:tG X W (RD X) [b] [x] (λ_ S=>aL (g b) S) i H Q):rD1 X.K g x H Q:=by
 obtain⟨J,k,S,r,l,c,a,e,z⟩:=h;obtain⟨f,_⟩:=a.Lz;cases q:g b with
 |none=>simp[q] at e
 |some d =>
  simp only[q,bG,LB] at e;cases e;exact⟨J,b,d,c.LZ.all,f,q,λj v s m=>z J j v (Ex.same s) (c.LZ.same s) m⟩
theorem tG.op2 {g:D->D->a9 D}{b f:D}{x y:V}{j:St}{H:Hp}{Q:VK}(h:tG X W (RD X) [f,b] [y,x] (λ_ S=>aL (g b f) S) j H Q):V8 X.K g x y H Q:=by
 obtain⟨J,n,S,r,o,c,a,e,z⟩:=h;obtain⟨k,a⟩:=a.Lz;obtain⟨i,_⟩:=a.Lz;cases q:g b f with
 |none=>simp[q] at e
 |some d =>
  simp only[q,bG,LB] at e;cases e;exact⟨J,b,f,d,c.LZ.all,i,k,q,λl v s m=>z J l v (Ex.same s) (c.LZ.same s) m⟩
theorem tG.opS {g:ak D->a9 D}{ds:ak D}{xs:ak V}{b:St}{H:Hp}{Q:VK}(h:tG X W (RD X) ds xs (λ_ S=>aL (g ds) S) b H Q):YB X.K g xs H Q:=by
 obtain⟨J,i,S,r,j,c,a,e,z⟩:=h;cases q:g ds with
 |none=>simp[q] at e
 |some d =>
  simp only[q,bG,LB] at e;cases e;exact⟨J,ds,d,c.LZ.all,a,q,λf v s m=>z J f v (Ex.same s) (c.LZ.same s) m⟩
abbrev PU (X:Cx)(f:ax->ax->Sem ax)(g:D->D->a9 D):Prop:=Py X f (V8 X.K g)
abbrev UnD (X:Cx)(f:ax->Sem ax)(g:D->a9 D):Prop:=Xx X f (rD1 X.K g)
abbrev jw (X:Cx)(f:ax)(g:ak D->a9 D):Prop:=iS X f (YB X.K g)
noncomputable def af (i:Nat):Lk D:=λa S=>match a[i]? with
 |ag (ag d)=>LB d S
 |_=>ay
theorem aa {i:Nat}{x:eG}{pos:UK}(b:X.N[i]?=ag x:=by rfl)(a:VJ X.env.scope x:=by first |exact abx rfl |exact aap (abx rfl) |exact aap (aap rfl))(hd:(x==("__debug__":eG))=b0:=by decide)
  (f:(x==("__classdict__":eG))=b0:=by decide):SE X W (.Name x pos) (af i):=(Cz b a hd f).imp λk H Q h=>by
 obtain⟨J,l,S,r,m,c,_,e,z⟩:=h;unfold af at e;rw[1]
 ·rename_i d q;obtain⟨v,g,j⟩:=c.env i d q;cases e;exact⟨v,g,z J H v Ex.refl c.LZ j⟩
 cases e
noncomputable def aE (d:D):Lk D:=λ_ S=>LB d S
theorem ou {d:D}{v:V}{b:St}{H:Hp}{Q:VK}(h:tE X W (aE d) b H Q)(a:∀ J,At X.K H J d v):Q v H:=by obtain⟨J,f,S,r,g,c,_,e,z⟩:=h;cases e;exact z J H v Ex.refl c.LZ (a J)
theorem aq {i j pos}:SE X W (.Constant (.int i) j pos) (aE (.int i)):=Uu.imp λa H Q h=>ou h λ_=>#[17]
theorem i7 {b j pos}:SE X W (.Constant (.bool b) j pos) (aE (.bl b)):=VP.imp λa H Q h=>ou h λ_=>At.L5.mpr rfl
theorem fK {j pos}:SE X W (.Constant .none j pos) (aE .LN):=Uv.imp λa H Q h=>ou h λ_=>At.Mt.mpr rfl
theorem mD {x j pos}(a:Tf x:=by exact⟨by decide,by decide⟩):SE X W (.Constant (.str x) j pos) (aE (.str x)):=Uw.imp λb H Q h=>ou h λ_=>At.LL.mpr ⟨rfl,a⟩
noncomputable def aH (g:D->D->a9 D)(b e:Lk D):Lk D:=λa S=>ai (b a S) λx d=>ai (e a d) λy c=>aL (g x y) c
noncomputable def Vj (g:D->a9 D)(b:Lk D):Lk D:=λa S=>ai (b a S) λx c=>aL (g x) c
variable {a b c:hL}{fa fb fc:Lk D}{pos:UK}
theorem lV {g:D->D->a9 D}{a:St}{H:Hp}{Q:VK}(h:tE X W (aH g fa fb) a H Q):VR (V8 X.K g) (tE X W fa) (tE X W fb) a H Q:=
 (tG.LD h).mono λv f ⟨d,b⟩=>(tG.LD b).mono λi e ⟨j,c⟩=>tG.op2 c
theorem aD {op:acR}{g:D->D->a9 D}(d:PU X (P_ op) g)(c:SE X W a fa)(hb:SE X W b fb):SE X W (.BinOp a op b pos) (aH g fa fb):=
 (Iw d c hb).imp λe H Q h=>lV h
theorem uQ {op:UnaryOp}{g:D->a9 D}(e:UnD X (unaryOp op) g)(c:SE X W a fa):SE X W (.UnaryOp op a pos) (Vj g fa):=
 (Iv e c).imp λf H Q h=>(tG.LD h).mono λv i ⟨d,b⟩=>tG.op1 b
theorem oZ {op:acQ}{g:D->D->a9 D}(e:PU X (qa op) g)(d:SE X W a fa)(hb:SE X W b fb)(c:q7 op b=b0:=by first |exact CL _ (by decide) (by decide) |with_unfolding_all rfl):SE X W (.Compare a [op] [b] pos) (aH g fa fb):=
 (EN e d hb c).imp λf H Q h=>lV h
noncomputable def RG:D->a9 fg
 | .bl b=>ag b
 |_=>ay
noncomputable def bq (f:Lk D):Lk fg:=λa S=>ai (f a S) λx b=>aL (RG x) b
theorem i4 {f:Lk D}{a:St}{H:Hp}{Q:fg->Hp->Prop}(h:tT X W (bq f) a H Q):NK (tE X W f) a H Q:=
 (tG.LD h).mono λv g b=>by
  obtain⟨d,i⟩:=b
  obtain⟨J,j,S,r,l,c,m,e,z⟩:=i;obtain⟨m,_⟩:=m.Lz;cases d with
  |bl k =>
   cases e;exact⟨k,At.L5.mp m,z J g k Ex.refl c.LZ rfl⟩
  |_=>simp[RG] at e
theorem NK.mono {t t':TE}(i:∀ a H Q,t' a H Q->t a H Q){a:St}{H:Hp}{Q:fg->Hp->Prop}(h:NK t' a H Q):NK t a H Q:=i _ _ _ h
theorem bf {op:acQ}{g:D->D->a9 D}(e:PU X (qa op) g)(d:SE X W a fa)(hb:SE X W b fb)(c:q7 op b=b0:=by first |exact CL _ (by decide) (by decide) |with_unfolding_all rfl) :
  Ow X W (.Compare a [op] [b] pos) (bq (aH g fa fb)):=
 (Ey e d hb c).imp λf H Q h=>NK.mono (λ_ _ _=>lV) (i4 h)
theorem kt (c:SE X W a fa)(b:∀ whole,isTrue a X.env whole=(do let v ← whole;abY a.pos;V2 [v] (truthy v)):=by intro _;rfl):Ow X W a (bq fa):=
 (GB c b).imp λd H Q h=>i4 h
noncomputable def Ht (g g':D->D->a9 D)(fa fb fc:Lk D):Lk D:=λa S=>ai (fa a S) λx d=>ai (fb a d) λy c=>ai (aL ((g x y).bind RG) c) λk b =>
 if k=ba then ai (fc a b) λz e=>aL (g' y z) e else LB (.bl b0) b
noncomputable def wg (f g:Lk fg):Lk fg:=λa S=>ai (f a S) λk b=>if k=ba then g a b else LB b0 b
noncomputable def DH (f g:Lk fg):Lk fg:=λa S=>ai (f a S) λk b=>if k=ba then LB ba b else g a b
noncomputable def z5 (f:Lk fg):Lk fg:=λa S=>ai (f a S) λk b=>LB (!k) b
variable {ga gb:Lk fg}{rest:ak hL}
theorem oq {k:fg}{a:St}{H:Hp}{Q:fg->Hp->Prop}(h:tG X W RB [] [] (λ_ S=>LB k S) a H Q):Q k H:=by obtain⟨J,b,S,r,d,c,_,e,z⟩:=h;cases e;exact z J H k Ex.refl c.LZ rfl
theorem sS (b:Ow X W a ga):SW X W (.BoolOp .And [a] pos) ga:=Eu b
theorem w4 (b:Ow X W a ga):SW X W (.BoolOp .Or [a] pos) ga:=Gx b
theorem w5 (d:Ow X W a ga)(hb:SW X W (.BoolOp .And (b::rest) pos) gb):SW X W (.BoolOp .And (a::b::rest) pos) (wg ga gb):=
 (Gy d hb).imp λe H Q h=>(tG.Ph h).mono λk f c=>by
  cases k with
  |true=>rw[dm rfl];exact c
  |false=>rw[dV #[2]];exact oq c
theorem BR (d:Ow X W a ga)(hb:SW X W (.BoolOp .Or (b::rest) pos) gb):SW X W (.BoolOp .Or (a::b::rest) pos) (DH ga gb):=
 (Ip d hb).imp λe H Q h=>(tG.Ph h).mono λk f c=>by
  cases k with
  |true=>rw[dm rfl];exact oq c
  |false=>rw[dV #[2]];exact c
theorem jy {e:hL}(h:SW X W e ga):Ow X W e ga:=PW.pt h
theorem BM (c:Ow X W a ga):Ow X W (.UnaryOp .Not a pos) (z5 ga):=(GC c).imp λd H Q h=>(tG.Ph h).mono λk e b=>oq b
noncomputable def Kt (f g:Lk D):Lk D:=λa S=>ai (f a S) λx c=>ai (aL (RG x) c) λk b=>if k=ba then g a b else LB (.bl b0) b
noncomputable def cOr (f g:Lk D):Lk D:=λa S=>ai (f a S) λx c=>ai (aL (RG x) c) λk b=>if k=ba then LB (.bl ba) b else g a b
noncomputable def Kr (f:Lk D):Lk D:=λa S=>ai (f a S) λx c=>ai (aL (RG x) c) λk b=>LB (.bl (!k)) b
noncomputable def qd (t:Lk fg)(f g:Lk D):Lk D:=λa S=>ai (t a S) λk b=>if k=ba then f a b else g a b
theorem h9 (hc:Ow X W c ga)(e:SE X W a fa)(hb:SE X W b fb):SE X W (.IfExp c a b pos) (qd ga fa fb):=
 (CC hc e hb).imp λf H Q h=>(tG.Ph h).mono λk g d=>by
  cases k with
  |true=>rw[dm rfl];exact d
  |false=>rw[dV #[2]];exact d
noncomputable def aC:Lk (ak D):=λ_ S=>LB [] S
noncomputable def ah (f:Lk D)(g:Lk (ak D)):Lk (ak D):=λa S=>ai (f a S) λd e=>ai (g a e) λb c=>LB (d::b) c
variable {es:ak hL}{gs:Lk (ak D)}
theorem aj:SA X W [] aC:=MN.imp λa H Q h=>by obtain⟨J,b,S,r,d,c,_,e,z⟩:=h;cases e;exact z J H _ Ex.refl c.LZ .nil
theorem ae {e:hL}(l:SE X W e fa)(hr:SA X W es gs)(o:eK (e::es) X.env=(b0,sY e X.env)::eK es X.env:=by rfl):SA X W (e::es) (ah fa gs):=
 (fy l hr o).imp λu H Q h=>(tG.LD h).mono λv w ⟨d,s⟩=>(tG.OI s).mono λa g j=>by
  obtain⟨f,b,t⟩:=j
  obtain⟨J,A,S,r,B,c,m,e,z⟩:=t;cases e;refine z J g _ Ex.refl c.LZ ?_
  have split:∀ {f:ak D}{a:ak V},f.length=a.length->Lx X.K g J (f++[d]) (a++[v])->Lx X.K g J f a/\At X.K g J d v:=by
   intro f
   induction f with
   |nil=>intro a b m;cases a with
    |nil=>exact⟨.nil,m.Lz.1⟩
    |cons _ _=>simp at b
   |cons x k n=>intro a b m;cases a with
    |nil=>simp at b
    |cons y p =>
     have q:=Lx.Lz (show Lx X.K g J (x::(k++[d])) (y::(p++[v])) from m);have i:=n (by simpa using b) q.2;exact⟨.cons q.1 i.1,i.2⟩
  have q:=split b m;exact .cons q.2 q.1
noncomputable def N4 (ds:ak D)(d:D):a9 D:=if ds.length<=d4 then ag d else ay
noncomputable def lS (g:Lk (ak D)):Lk D:=λb S=>ai (g b S) λa c=>aL (N4 a (.tup a)) c
noncomputable def DL (g:Lk (ak D)):Lk D:=λb S=>ai (g b S) λa c=>aL (N4 a (.lst a)) c
theorem eT {k}(h:SA X W es gs):SE X W (.Tuple es k pos) (lS gs):=(GM h).imp λg H Q h=>(tG.OI h).mono λl i f=>by
 obtain⟨n,b,d⟩:=f
 rw[i3,i3] at d;obtain⟨J,j,S,r,o,c,m,e,z⟩:=d;unfold N4 at e;rw[1]
 ·rename_i le;cases e;exact⟨by rw[← b];exact le,λp a=>z J _ _ (Ex.same (aO a _)) (c.LZ.same (aO a _)) (At.Ng m a c.LZ.all (by rw[← b];exact le))⟩
 cases e
theorem tj (h:SA X W es gs):SE X W (.List es pos) (DL gs):=(CB h).imp λg H Q h=>(tG.OI h).mono λk i f=>by
 obtain⟨l,b,d⟩:=f
 rw[i3,i3] at d;obtain⟨J,j,S,r,n,c,m,e,z⟩:=d;unfold N4 at e;rw[1]
 ·rename_i le;cases e;exact⟨by rw[← b];exact le,λp a=>z J _ _ (Ex.same (aO a _)) (c.LZ.same (aO a _)) (At.MP m a c.LZ.all (by rw[← b];exact le))⟩
 cases e
noncomputable def bA (g:ak D->a9 D)(t:Lk (ak D)):Lk D:=λa S=>ai (t a S) λb c=>aL (g b) c
theorem p8 {g:ak D->a9 D}{a:St}{H:Hp}{Q:VK}(h:tE X W (bA g gs) a H Q):Ys (YB X.K g) (tA X W gs) a H Q:=
 (tG.OI h).mono λf d c=>by
  obtain⟨i,e,b⟩:=c
  rw[i3,i3] at b;exact tG.opS b
theorem bw {g:ak D->a9 D}{id:W7}{x:eG}{p:UK}{e:hL}(hc:jw X (.builtin id) g)(a:X.mg x=ay)(f:uk x=ag (.builtin id))(j:SA X W (e::es) gs)(c:Gl X x:=by rfl)
  (b:x≠"__name__":=by decide) (k:(x==("__debug__":eG))=b0:=by decide) (i:eK (e::es) X.env=(b0,sY e X.env)::eK es X.env:=by rfl) (d:(tw pos (eK es X.env)).any (·.1)=b0:=by rfl) :
  SE X W (.Call (.Name x p) (e::es) [] pos) (bA g gs):=by
 refine PE.imp (lD hc c a f j b k i d) λl H Q h=>p8 h
theorem b6 {g:ak D->a9 D}{T:W7}{x:eG}{p:UK}{e:hL}(hc:jw X (.type T) g)(a:X.mg x=ay)(f:uk x=ag (.type T))(j:SA X W (e::es) gs)(c:Gl X x:=by rfl)
  (b:x≠"__name__":=by decide) (k:(x==("__debug__":eG))=b0:=by decide) (i:eK (e::es) X.env=(b0,sY e X.env)::eK es X.env:=by rfl) (d:(tw pos (eK es X.env)).any (·.1)=b0:=by rfl) :
  SE X W (.Call (.Name x p) (e::es) [] pos) (bA g gs):=by
 refine PE.imp (mF hc c a f j b k i d) λl H Q h=>p8 h
end
section
variable {X:Cx}
theorem sT {x y:eG}(a:H7 x=ba)(b:H7 y=ba):H7 (x++y)=ba:=by
 unfold H7 at *
 rw[show (x++y).cps=x.cps++y.cps from rfl,Array.all_append,a,b];rfl
noncomputable def bh:D->D->a9 D
 | .int i,.int j=>ag (.int (i+j))
 | .str x,.str y=>if x.length+y.length<=d4 then ag (.str (x++y)) else ay
 | .tup a,.tup b=>if a.length+b.length<=d4 then ag (.tup (a++b)) else ay
 | .lst a,.lst b=>if a.length+b.length<=d4 then ag (.lst (a++b)) else ay
 |_,_=>ay
theorem DF {prog:fh}{w:il}{A:jl}{E:Lm}{s:cv}{t b:cn}{vs ws:ak ax}{Q:Lm}(i:aci s.heap t vs.toArray)(hb:aci s.heap b ws.toArray)(f:vs=[])
  (k:Q (.ref b) s):ew #[4] A (P_ .Add (.ref t) (.ref b)) Q E s:=by
 obtain⟨⟨cls,j,data,sl⟩,c,hc,n,hd⟩:=id i;obtain⟨⟨l,g,data2,h⟩,d,e,n2,a⟩:=id hb;simp only at hc hd e a;subst hc hd e a
 exact aaW ⟨_,c,rfl⟩ ⟨_,d,rfl⟩ aaD acn Xf W2 (Ww _ _)
   (tuple_addW0 t b vs.toArray ws.toArray n n2 j g sl h (by simp[f])) ⟨c,d,k⟩
theorem yh {prog:fh}{w:il}{A:jl}{E:Lm}{s:cv}{t b:cn}{vs ws:ib ax}{Q:Lm}(i:PlainL s.heap t vs)(hb:PlainL s.heap b ws)
  (h:Q (#[15]) { s with heap:=s.heap.push { cls:=#[13],data:=.seq (vs++ws) } }) (hsz:vs.size+ws.size<=d4):ew #[4] A (P_ .Add (.ref t) (.ref b)) Q E s:=by
 obtain⟨⟨cls,j,data,sl⟩,n,c,hc,_,hd⟩:=id i;obtain⟨⟨k,f,data2,g⟩,n2,d,e,_,a⟩:=id hb;simp only at hc hd e a;subst hc hd e a
 exact aaW ⟨_,c,rfl⟩ ⟨_,d,rfl⟩ noFill_list_add seq_list_add PySem.F.slot_list_add PySem.F.entry_list_add (PySem.F.args_list_add_2 _ _)
   (list_addW t b vs ws n n2 j f sl g hsz) ⟨c,d,h⟩
theorem oS (x y:eG):(x++y).length=x.length+y.length:=by show (x.cps++y.cps).size=_;rw[adt];rfl
theorem aS:PU X (P_ .Add) bh:=by
 intro c s r H x y v u Q I g k h;obtain⟨J,S,T,d,K,f,l,e,q⟩:=h;unfold bh at e;rw[1]
 ·rename_i i j;cases e;cases At.Lu.mp f;cases At.Lu.mp l;exact GT c s r H _ _ v u Q I g k ⟨i,j,rfl,rfl,q H _ (LH.refl H) (#[17])⟩
 ·rename_i a b;rw[1]
  ·rename_i le;cases e;obtain⟨ex,O⟩:=At.LL.mp f;obtain⟨R,P⟩:=At.LL.mp l;subst ex R;exact xC c s r H _ _ v u Q I g k ⟨a,b,rfl,rfl,le,q H _ (LH.refl H) (At.LL.mpr ⟨rfl,by rw[oS];exact le,sT O.2 P.2⟩)⟩
  cases e
 ·rename_i G N;rw[1]
  ·rename_i le;cases e;obtain⟨a,n,rfl,t1,m1⟩:=At.LF.mp f;obtain⟨b,o,rfl,t2,m2⟩:=At.LF.mp l;by_cases L:n=[]
   ·subst L;cases g;cases k;obtain⟨its,t,B,_⟩:=I.tuple t1.sq;obtain⟨E,F,C,_⟩:=I.tuple t2.sq;have A:G=[]:=SK.mp m1.length;subst A;refine DF B C (t.Ly.mpr rfl) ⟨.ref b,H,I,rfl,q H _ (LH.refl H) l⟩
   refine ES c s r H _ _ v u Q I g k ⟨a,b,n,o,rfl,rfl,t1.sq,t2.sq,L,by rw[← m1.length,← m2.length];exact le,λM=>?_,λM p m=>?_⟩
   ·subst M;have D:N=[]:=SK.mp m2.length;subst D;exact q H _ (LH.refl H) (by rw[i3];exact f)
   exact q _ _ (aO m _) (At.Ng (m1.append m2) m K (by rw[da,← m1.length,← m2.length];exact le))
  cases e
 ·rename_i G N;rw[1]
  ·rename_i le;cases e;obtain⟨a,n,rfl,t1,m1⟩:=At.LK.mp f;obtain⟨b,o,rfl,t2,m2⟩:=At.LK.mp l;cases g;cases k;obtain⟨its,t,B,_⟩:=I.list t1.sq;obtain⟨E,F,C,_⟩:=I.list t2.sq;have w:n.length+o.length<=d4:=by rw[← m1.length,← m2.length];exact le
   have m:=I.fresh;refine yh B C ?_ (by rw[f3,f3,← t.length,← F.length];exact w);show EP X c r Q (#[15]) { s with heap:=s.heap.push { cls:=#[13],data:=.seq (its.toArray++E.toArray) } };refine⟨#[15],_,?_,rfl,q _ _ (aO m (.lst (n++o))) (At.MP (m1.append m2) m K (by rw[da];exact w))⟩;have z:=I.YA (its:=its++E) (t':=s.toks) (t.append F) (by rw[da];exact w);simpa using z
  cases e
 cases e
noncomputable def uN:D->D->a9 D
 | .int i,.int j=>ag (.int (i-j))
 |_,_=>ay
noncomputable def gU (i j:Int):fg:=(dv (-(2 ^ 64)<i)&&dv (i<2 ^ 64)) ||(dv (-(2 ^ 64)<j)&&dv (j<2 ^ 64))
theorem yZ {i j:Int}(h:gU i j=ba):Ta i j:=by
 unfold gU at h;rw[Zw,mc,mc] at h;rcases h with ⟨a,b⟩ |⟨a,b⟩
 ·exact .inl ⟨ll a,ll b⟩
 exact .inr ⟨ll a,ll b⟩
noncomputable def dH:D->D->a9 D
 | .int i,.int j=>if 0<j/\j<1073741824 then ag (.int (i / j)) else ay
 |_,_=>ay
noncomputable def cw:D->D->a9 D
 | .int i,.int j=>if 0<j then ag (.int (i % j)) else ay
 |_,_=>ay
noncomputable def vh:D->a9 D
 | .int i=>ag (.int (-i))
 |_=>ay
theorem xD:PU X (P_ .Sub) uN:=by
 intro a s g H x y v u Q I c f h;obtain⟨J,l,n,d,m,b,k,e,q⟩:=h;unfold uN at e;rw[1]
 ·rename_i i j;cases e;cases At.Lu.mp b;cases At.Lu.mp k;exact GP a s g H _ _ v u Q I c f ⟨i,j,rfl,rfl,q H _ (LH.refl H) (#[17])⟩
 cases e
theorem jF:PU X (P_ .FloorDiv) dH:=by
 intro a s k H x y v u Q I f g h;obtain⟨J,m,o,d,n,b,l,e,q⟩:=h;unfold dH at e;rw[1]
 ·rename_i i j;rw[1]
  ·rename_i c;cases e;cases At.Lu.mp b;cases At.Lu.mp l;exact ER a s k H _ _ v u Q I f g ⟨i,j,rfl,rfl,c,q H _ (LH.refl H) (#[17])⟩
  cases e
 cases e
theorem cQ:PU X (P_ .Mod) cw:=by
 intro a s k H x y v u Q I f g h;obtain⟨J,m,o,d,n,b,l,e,q⟩:=h;unfold cw at e;rw[1]
 ·rename_i i j;rw[1]
  ·rename_i c;cases e;cases At.Lu.mp b;cases At.Lu.mp l;exact GR a s k H _ _ v u Q I f g ⟨i,j,rfl,rfl,c,q H _ (LH.refl H) (#[17])⟩
  cases e
 cases e
theorem oM:UnD X (unaryOp .USub) vh:=by
 intro a s c H x v Q I b h;obtain⟨J,g,d,j,f,e,q⟩:=h;unfold vh at e;rw[1]
 ·rename_i i;cases e;cases At.Lu.mp f;exact F8 a s c H _ v Q I b ⟨i,rfl,q H _ (LH.refl H) (#[17])⟩
 cases e
noncomputable def N5 (x y:D):a9 D:=match toPy x,toPy y with
 |ag p,ag q=>if Zu p.depth q.depth<=150 then ag (.bl (iv p q)) else ay
 |_,_=>ay
noncomputable def PV (x y:D):a9 D:=match toPy x,toPy y with
 |ag p,ag q=>if Zu p.depth q.depth<=150 then ag (.bl (!iv p q)) else ay
 |_,_=>ay
theorem je (C:X.A.units+150<vu):PU X (qa .Eq) N5:=by
 intro a s w H x y v u Q I c i h;obtain⟨J,r,B,d,z,b,k,e,q⟩:=h;unfold N5 at e;rw[1]
 ·rename_i p g f l;rw[1]
  ·rename_i le;cases e;obtain⟨n,t,m⟩:=b.reads I c f;obtain⟨j,bs,o⟩:=k.reads I i l;exact SeqAt.compareEq_reads m o n j #[0] ⟨.bl (iv p g),H,I,rfl,q H _ (LH.refl H) (At.L5.mpr rfl)⟩
  cases e
 cases e
theorem pq (C:X.A.units+150<vu):PU X (qa .NotEq) PV:=by
 intro a s w H x y v u Q I c i h;obtain⟨J,r,B,d,z,b,k,e,q⟩:=h;unfold PV at e;rw[1]
 ·rename_i p g f l;rw[1]
  ·rename_i le;cases e;obtain⟨n,t,m⟩:=b.reads I c f;obtain⟨j,bs,o⟩:=k.reads I i l;exact SeqAt.compareNe_reads m o n j #[0] ⟨.bl (!iv p g),H,I,rfl,q H _ (LH.refl H) (At.L5.mpr rfl)⟩
  cases e
 cases e
noncomputable def NT (x y:eG):fg:=dv (x.cps.toList<y.cps.toList)
noncomputable def UJ:D->D->a9 D
 | .int i,.int j=>ag (.bl (dv (i<j)))
 | .str x,.str y=>ag (.bl (NT x y))
 |_,_=>ay
noncomputable def Vk:D->D->a9 D
 | .int i,.int j=>ag (.bl (dv (j<i)))
 | .str x,.str y=>ag (.bl (NT y x))
 |_,_=>ay
theorem FW:PU X (qa .Lt) UJ:=by
 intro c s l H x y v u Q I g k h;obtain⟨J,n,p,d,o,f,m,e,q⟩:=h;unfold UJ at e;rw[1]
 ·rename_i i j;cases e;cases At.Lu.mp f;cases At.Lu.mp m;exact Ix c s l H _ _ v u Q I g k ⟨i,j,rfl,rfl,q H _ (LH.refl H) (At.L5.mpr rfl)⟩
 ·rename_i a b;cases e;cases (At.LL.mp f).1;cases (At.LL.mp m).1;exact AS c s l H _ _ v u Q I g k ⟨a,b,rfl,rfl,q H _ (LH.refl H) (At.L5.mpr rfl)⟩
 cases e
theorem CI:PU X (qa .Gt) Vk:=by
 intro c s m H x y v u Q I g k h;obtain⟨J,n,r,d,p,f,l,e,q⟩:=h;unfold Vk at e;rw[1]
 ·rename_i i j;cases e;cases At.Lu.mp f;cases At.Lu.mp l;exact Iy c s m H _ _ v u Q I g k ⟨i,j,rfl,rfl,q H _ (LH.refl H) (At.L5.mpr rfl)⟩
 ·rename_i a b;cases e;cases (At.LL.mp f).1;cases (At.LL.mp l).1;obtain⟨t,rfl⟩:=g;obtain⟨o,rfl⟩:=k;exact PySem.P.gt_str ⟨.bl (NT b a),H,I,rfl,q H _ (LH.refl H) (At.L5.mpr rfl)⟩
 cases e
noncomputable def mL:D->fg
 | .LN=>ba
 |_=>b0
noncomputable def RH:D->D->a9 D
 |x,.LN=>ag (.bl (mL x))
 |_,_=>ay
noncomputable def ip:D->D->a9 D
 |x,.LN=>ag (.bl (!mL x))
 |_,_=>ay
theorem CK {K:Ll}{H:Hp}{J:ak cn}{d:D}{x:V}(h:At K H J d x):dv (x = .LN)=mL d:=by
 cases d with
 |LN=>cases At.Mt.mp h;rfl
 |bl b=>cases At.L5.mp h;rfl
 |int i=>cases At.Lu.mp h;rfl
 |str i=>cases (At.LL.mp h).1;rfl
 |tup c=>obtain⟨a,_,rfl,_⟩:=At.LF.mp h;rfl
 |lst c=>obtain⟨a,_,rfl,_⟩:=At.LK.mp h;rfl
 |set c=>obtain⟨a,_,_,rfl,_⟩:=At.Ov.mp h;rfl
 |loc l=>obtain⟨a,rfl,_⟩:=At.LG.mp h;rfl
 |fn _ _=>obtain⟨a,_,rfl,_⟩:=At.RY.mp h;rfl
theorem yX:PU X (qa .Is) RH:=by
 intro a s g H x y v u Q I c f h;obtain⟨J,j,l,d,k,b,i,e,q⟩:=h;unfold RH at e;rw[1]
 ·cases e;cases At.Mt.mp i;exact GS a s g H _ _ v u Q I c f ⟨rfl,by rw[CK b];exact q H _ (LH.refl H) (At.L5.mpr rfl)⟩
 cases e
theorem pz:PU X (qa .IsNot) ip:=by
 intro a s g H x y v u Q I c f h;obtain⟨J,j,l,d,k,b,i,e,q⟩:=h;unfold ip at e;rw[1]
 ·cases e;cases At.Mt.mp i;exact EQ a s g H _ _ v u Q I c f ⟨rfl,by rw[CK b];exact q H _ (LH.refl H) (At.L5.mpr rfl)⟩
 cases e
end
section
variable {X:Cx}{W:WT}
noncomputable def xj:D->a9 (ak D)
 | .tup a=>ag a
 | .lst a=>ag a
 |_=>ay
noncomputable def xW (x y:D):a9 fg:=match toPy x,(xj y).bind cY with
 |ag p,ag a=>if p.depth<=150 then ag (a.any λq=>iv q p) else ay
 |_,_=>ay
noncomputable def inD (x y:D):a9 D:=(xW x y).map .bl
noncomputable def tI (x y:D):a9 D:=(xW x y).map λb => .bl (!b)
noncomputable def qz (h:kx) (p:la) (u:ax):fg:=by
 classical exact if H:∃ q a,acO h u q a/\q.canLay0=ba then iv H.choose p else b0
theorem zK {h:kx}{p q:la}{u:ax}{as:ak cn}(r:acO h u q as)(c:q.canLay0=ba):qz h p u=iv q p:=by unfold qz;have H:∃ q as,acO h u q as/\q.canLay0=ba:=⟨q,as,r,c⟩;rw[aaf H];obtain⟨b,a,d⟩:=H.choose_spec;rw[acu _ _ _ _ _ c r a]
theorem Ac {h:kx}{p:la}:∀ {us:ak ax}{a:ak la}{as:ak cn},aay h us a as->ze a=ba->us.any (qz h p)=a.any λq=>iv q p
 |_,_,_,.nil,_=>rfl
 |_,_,_,.cons r t,c=>by
  rw[ze,mc] at c;rw[Rm,Rm,zK r c.1,Ac t c.2]
theorem rC {h:kx}:∀ {us:ak ax}{a:ak la}{as:ak cn},aay h us a as->ze a=ba->∀ u∈us,∃ q bs,acO h u q bs/\q.canLay0=ba
 |_,_,_,.nil,_,u,m=>by simp at m
 |_,_,_,.cons r t,c,u,m=>by
  rw[ze,mc] at c;rcases f5.mp m with e |m
  ·subst e;exact⟨_,_,r,c.1⟩
  exact rC t c.2 u m
theorem zA {neg:fg}{op:acQ}(hu:X.A.units+151<vu)
  (V:∀ {s:cv}{l:cn}{items:ib ax}{x:ax}{Q:Lm}(e:ax->fg),s.heap.IsList l items->(∀ y∈items,adW X.A.in1 s y x (e y))->Q (.bool (if neg then !items.any e else items.any e)) s->ew #[8] X.A (qa op x (.ref l)) Q X.xe s)
  (M:∀ {s:cv}{l:cn}{items:ib ax}{x:ax}{Q:Lm}(e:ax->fg),aci s.heap l items->(∀ y∈items,adW X.A.in1 s y x (e y))->Q (.bool (if neg then !items.any e else items.any e)) s->ew #[8] X.A (qa op x (.ref l)) Q X.xe s) :
  PU X (qa op) (λx y=>(xW x y).map λb => .bl (if neg then !b else b)):=by
 intro k s O H x y v u Q I K B h;obtain⟨J,Y,S,d,Z,L,C,e,q⟩:=h;obtain⟨b,i,P⟩:=en.mp e;subst P;unfold xW at i;split at i
 ·rename_i p o ep eq;split at i
  ·rename_i le;cases i;obtain⟨ds,es,E⟩:=hD.mp eq;obtain⟨T,g,R⟩:=L.reads I K ep;have fin:∀ {f:ak ax}{g:ak cn},aay s.heap f o g->ze o=ba->EP X k O Q (.bool (if neg then !f.toArray.any (qz s.heap p) else f.toArray.any (qz s.heap p))) s:=λ{f g} r c=>by rw[show f.toArray.any (qz s.heap p)=f.any (qz s.heap p) by simp,Ac r c];exact⟨.bl _,H,I,rfl,q H _ (LH.refl H) (At.L5.mpr rfl)⟩
   have ev:∀ {f:ak ax}{g:ak cn},aay s.heap f o g->ze o=ba->∀ y∈f.toArray,adW X.A.in1 s y v (qz s.heap p y):=λ{f g} r c y U=>by obtain⟨F,bs,G,D⟩:=rC r c y (by simpa using U);rw[zK G D];exact SeqAt.eqAt_reads F p X.A.in1 s y v bs _ G R D T (by show X.A.units+1+Zu F.depth p.depth<vu;omega)
   cases S with
   |tup W =>
    cases es;obtain⟨a,N,rfl,t,m⟩:=At.LF.mp C;cases B;obtain⟨its,z,pl,_⟩:=I.tuple t.sq;obtain⟨j,bs,n⟩:=Lx.readsAll I m z E;exact M (qz s.heap p) pl (ev n j) (fin n j)
   |lst W =>
    cases es;obtain⟨a,N,rfl,t,m⟩:=At.LK.mp C;cases B;obtain⟨its,z,pl,_⟩:=I.list t.sq;obtain⟨j,bs,n⟩:=Lx.readsAll I m z E;exact V (qz s.heap p) pl.isList (ev n j) (fin n j)
   |_=>simp[xj] at es
  cases i
 cases i
theorem FX (c:X.A.units+151<vu):PU X (qa .In) inD:=
 zA (neg:=b0) c (λe a b q=>SeqAt.in_listAt e a b q) (λe a b q=>SeqAt.in_tupleAt e a b q)
theorem CH (c:X.A.units+151<vu):PU X (qa .NotIn) tI:=
 zA (neg:=ba) c (λe a b q=>SeqAt.notIn_listAt e a b q) (λe a b q=>SeqAt.notIn_tupleAt e a b q)
theorem mj {x:eG}(h:H7 x=ba){c:Nat}(m:c∈x.cps.toList):c<0x110000:=by unfold H7 at h;rw[acC] at h;exact ll (h c (abu.mp m))
theorem oT {l:ak Nat}(h:∀ c∈l,c<0x110000):H7 ⟨l.toArray⟩=ba:=by unfold H7;rw[acC];intro c m;exact ia (h c (by simpa using m))
noncomputable def TH:D->D->a9 D
 | .tup a,.int i=>Ou a i
 | .lst a,.int i=>Ou a i
 | .str x,.int i=>(Ou x.cps.toList i).map λc => .str ⟨#[c]⟩
 |_,_=>ay
theorem ur {K:Ll}{H:Hp}{J:ak cn}{ds:ak D}{vs:ak V}{i:Int}{d:D}(m:Lx K H J ds vs)(h:Ou ds i=ag d):∃ v,Ou vs i=ag v/\At K H J d v:=by unfold Ou at h ⊢;rw[← m.length];obtain⟨j,b,c⟩:=hD.mp h;obtain⟨v,e,a⟩:=m.get c;exact⟨v,by rw[b];exact e,a⟩
def IxD (X:Cx)(g:D->D->a9 D):Prop:=V4 X (V8 X.K g)
theorem ixd:IxD X TH:=by
 intro value slice b s o H x y v u Q I k n h A;obtain⟨J,F,L,d,K,g,p,e,q⟩:=h;unfold TH at e;rw[1]
 ·rename_i C i;obtain⟨a,r,rfl,t,m⟩:=At.LF.mp g;cases At.Lu.mp p;obtain⟨w,f,a1⟩:=ur m e;exact G6 value slice b s o H _ _ v u Q I k n ⟨a,r,i,w,rfl,rfl,t.sq,f,q H _ (LH.refl H) a1⟩ A
 ·rename_i C i;obtain⟨a,r,rfl,t,m⟩:=At.LK.mp g;cases At.Lu.mp p;obtain⟨w,f,a1⟩:=ur m e;exact zu value slice b s o H _ _ v u Q I k n ⟨a,r,i,w,rfl,rfl,t.sq,f,q H _ (LH.refl H) a1⟩ A
 ·rename_i z i;obtain⟨ex,B⟩:=At.LL.mp g;subst ex;cases At.Lu.mp p;obtain⟨c,f,D⟩:=en.mp e;subst D;refine G7 value slice b s o H _ _ v u Q I k n ⟨z,i,c,rfl,rfl,B.1,f,q H _ (LH.refl H) (At.LL.mpr ⟨rfl,by show 1<=d4;decide,oT (l:=[c]) λG m=>?_⟩)⟩ A;obtain⟨j,_,E,_⟩:=l4 f;rw[hM.mp m];exact mj B.2 (y3 E)
 cases e
variable {a b c:hL}{fa fb fc:Lk D}{pos:UK}
theorem FS {g:D->D->a9 D}(hr:IxD X g)(c:SE X W a fa)(hb:SE X W b fb)(d:oB b:=by exact λ_ _=>rfl):SE X W (.Subscript a b pos) (aH g fa fb):=
 (FV hr c hb d).imp λe H Q h=>lV h
noncomputable def jX {α:Type}(xs:ak α)(lo a:a9 Int):ak α:=(xs.drop (HT.L_ xs.length 0 lo)).take (HT.L_ xs.length xs.length a-HT.L_ xs.length 0 lo)
noncomputable def Pj (d:D)(lo b:a9 Int):a9 D:=match d with
 | .tup a=>ag (.tup (jX a lo b))
 | .lst a=>ag (.lst (jX a lo b))
 |_=>ay
theorem Lx.cut {K:Ll}{H:Hp}{J:ak cn}{ds:ak D}{vs:ak V}(m:Lx K H J ds vs)(lo a:a9 Int):Lx K H J (jX ds lo a) (vU vs lo a):=by unfold jX vU;rw[← m.length];exact(m.drop _).take _
theorem yd {α:Type}{xs:ak α}{lo a:a9 Int}(h:HT.L_ xs.length 0 lo=0/\HT.L_ xs.length xs.length a=xs.length):jX xs lo a=xs:=by unfold jX;rw[h.1,h.2];simp
def rDl (K:Ll)(g:D->a9 Int->a9 Int->a9 D):V->a9 Int->a9 Int->Hp->VK->Prop:=λx lo e H Q => ∃ J c d,(∀ a∈J,H a≠ay)/\At K H J c x/\g c lo e=ag d/\∀ b v,LH H b->At K b J d v->Q v b
theorem jW {prog:fh}{w:il}{A:jl}{E:Lm}{s:cv}{t sl:cn}{items:ib ax}{c d:ax}{lo b:a9 Int}{Q:Lm}(a:aci s.heap t items)(e:s.heap.IsSliceOf sl c d .none)(pl:aaX c lo)(j:aaX d b)
  (f:HT.L_ items.size 0 lo=0/\HT.L_ items.size items.size b=items.size) (h:Q (.ref t) s):ew #[4] A (Xd (.ref t) (.ref sl)) Q E s:=by
 obtain⟨os,k,i,l⟩:=id e;have g:s.TypeIs (.ref sl) "slice":=⟨os,k,i⟩;unfold Xd
 try with_reducible refine A2 ?_
 first |refine av (bo ?_) |skip
 refine av (wpAny_sequenceKey a.typeIs #[2] ?_)
 refine av (wx (name:=V_ "__getitem__") a.typeIs pe
  (mm pe a.typeIs aca ?_ (acB _ _)))
 show ew _ _ (Sr (.ref t) >>= _) _ _ s;refine av (aco a ?_);refine av (Xg g ?_);rw[dm #[2]];refine av (HT.MT e pl j ?_);show ew _ _ (if (((HT.L_ items.size 0 lo:Nat):Int)==0&&(1:Int)==1&&(HT.L_ items.size items.size b-HT.L_ items.size 0 lo)==items.size)=ba then _ else _) _ _ s;rw[dm (by rw[f.1,f.2];simp)];unfold Builtin.Tuple.tupleIsExact;refine av (av (Xg a.typeIs (bo ?_)));rw[dm #[2]];exact av (OL (bo ⟨_,rfl,bo h⟩))
def SlD (X:Cx)(g:D->a9 Int->a9 Int->a9 D):Prop:=XA X (rDl X.K g)
theorem Tg:SlD X Pj:=by
 intro c s w H x v u A lo f sl Q I k n pl l h;obtain⟨J,D,d,y,j,e,q⟩:=h;unfold Pj at e;rw[1]
 ·rename_i C;cases e;obtain⟨a,b,rfl,t,m⟩:=At.LF.mp j;have B:=m.length;by_cases o:HT.L_ b.length 0 lo=0/\HT.L_ b.length b.length f=b.length
  ·cases k;obtain⟨its,r,z,E⟩:=I.tuple t.sq;have g:its.toArray.size=b.length:=by rw[f3];exact r.length.symm
   refine⟨"tuple",_,pe.lookup,z.typeIs,?_⟩;refine jW z n pl l (by rw[g];exact o) ⟨.ref a,H,I,rfl,q H _ (LH.refl H) ?_⟩;rw[yd (by rw[B];exact o)];exact j
  exact Gi c s w H _ v u A lo f sl Q I k n pl l ⟨a,b,rfl,t.sq,o,λp i=>q _ _ (aO i _) (At.Ng (m.cut lo f) i y (hA (gu b lo f) t.len))⟩
 ·rename_i C;cases e;obtain⟨a,b,rfl,t,m⟩:=At.LK.mp j;exact Ej c s w H _ v u A lo f sl Q I k n pl l ⟨a,b,rfl,t.sq,λp i=>q _ _ (aO i _) (At.MP (m.cut lo f) i y (hA (gu b lo f) t.len))⟩
 cases e
noncomputable def xS:D->a9 (a9 Int)
 | .int i=>ag (ag i)
 |_=>ay
noncomputable def lT (f:a9 (Lk D)):Lk (a9 Int):=match f with
 |ay=>λ_ S=>LB ay S
 |ag f=>λa S=>ai (f a S) λd b=>aL (xS d) b
def SO (X:Cx)(W:WT)(e:a9 hL)(f:a9 (Lk D)):Prop:=match e,f with
 |ay,ay=>True
 |ag e,ag f=>SE X W e f
 |_,_=>False
noncomputable def Q_ (g:D->a9 Int->a9 Int->a9 D)(f:Lk D)(lo b:a9 (Lk D)):Lk D:=λa S=>ai (f a S) λx e=>ai (lT lo a e) λl d=>ai (lT b a d) λu c=>aL (g x l u) c
noncomputable def tPt (X:Cx)(W:WT)(f:a9 (Lk D)):TO:=tG X W (λ_ _ a b=>a=b) [] [] (lT f)
theorem tG.TJ {α t:Type}{R:ak cn->Hp->α->t->Prop}{f:a9 (Lk D)}{k:a9 Int->Lk α}{ds:ak D}{vs:ak V}{l:St}{H:Hp}{Q : t->Hp->Prop}
  (h:tG X W R ds vs (λρ S=>ai (lT f ρ S) λd i=>k d ρ i) l H Q):tPt X W f l H λb s=>tG X W R ds vs (k b) l s Q:=by
 obtain⟨J,ρ,S,r,B,c,a,e,z⟩:=h;cases q:lT f ρ S with
 |none=>simp[q] at e
 |some o =>
  obtain⟨w,i⟩:=o;simp only[q] at e;cases w with
  |error x =>
   cases e;exact⟨J,ρ,S,.error x,_,c,.nil,q,z⟩
  |ok d =>
   refine⟨J,ρ,S,.ok d,i,c,.nil,q,λu s v x y m=>?_⟩;cases m;refine⟨u,ρ,i,r,B,c.re x y,a.ex x,e,?_⟩;cases r with
   |ok g=>exact λn p b x2 j A=>z n p b (x.trans x2) j A
   |error g=>exact λn p x2 j=>z n p (x.trans x2) j
theorem FU {e:a9 hL}{f:a9 (Lk D)}(h:SO X W e f):PO X e (tPt X W f):=by
 cases e with
 |none =>
  cases f with
  |none =>
   intro a s b H Q I z;refine EG a s b H Q I ?_;obtain⟨J,j,S,r,l,c,_,e,z⟩:=z;cases e;exact z J H _ Ex.refl c.LZ rfl
  |some _=>exact h.elim
 |some e =>
  cases f with
  |none=>exact h.elim
  |some f =>
   intro a s b H Q I z;refine EE h a s b H Q I ?_;refine(tG.LD z).mono λv g ⟨d,k⟩=>?_;obtain⟨J,j,S,r,l,c,m,e,z⟩:=k;obtain⟨m,_⟩:=m.Lz;cases d with
   |int i =>
    cases e;exact⟨i,At.Lu.mp m,z J g _ Ex.refl c.LZ rfl⟩
   |_=>simp[xS] at e
theorem k8 {g:D->a9 Int->a9 Int->a9 D}{lo i:a9 hL}{b f:a9 (Lk D)}{n:UK}(hr:SlD X g)(p:SE X W a fa)(j:SO X W lo b)(x:SO X W i f):SE X W (.Subscript a (.Slice lo i ay n) pos) (Q_ g fa b f):=
 (CA hr p (FU j) (FU x)).imp λE H Q h=>(tG.LD h).mono λv F ⟨d,y⟩=>(tG.TJ y).mono λl G A=>(tG.TJ A).mono λu C t=>by
  obtain⟨J,I,S,r,K,c,m,e,z⟩:=t;obtain⟨m,_⟩:=m.Lz;cases q:g d l u with
  |none=>simp[q] at e
  |some w =>
   simp only[q,bG,LB] at e;cases e;exact⟨J,d,w,c.LZ.all,m,q,λo k s B=>z J o k (Ex.same s) (c.LZ.same s) B⟩
end
end L2
namespace L2
open PySem PySem.Spec PyProof.Rows PySem.W
section
variable {X:Cx}{W:WT}
theorem gS:fillsNumberSlot (.type "tuple") "mul"=y8 b0:=
 PySem.fillsNumberSlot_seq (id:="tuple.__mul__") (r:=ag (.builtin "tuple.__rmul__")) F.slot_tuple_mul.lookup #[2] F.slot_tuple_rmul.lookup #[2]
theorem lu:seqRepeat? (.type "tuple")=y8 (ag (.builtin "tuple.__mul__")):=by unfold seqRepeat?;rw[ade (T:="tuple") (name:="__mul__") (id:="tuple.__mul__") F.slot_tuple_mul.lookup #[2],ade (T:="tuple") (name:="__rmul__") (id:="tuple.__rmul__") F.slot_tuple_rmul.lookup #[2]];rfl
theorem jh (a:Int)(t:Tok)(l:cn)(items:ib ax)(n:Nat)(b:a9 cn)(sl:ib (a9 ax)) :
  Meets (Builtin.«int.__rmul__» ⟨[.int a t,.ref l],[]⟩) (λ_ R s=>s.heap.get? l=ag { cls:=.type "tuple",dict:=b,data:=.seq items n,slots:=sl }/\R (.ok (.ret Value.notImplemented)) s):=
 .of_wp λprog w A R s h=>by obtain⟨e,g,d,tk,os⟩:=s;obtain⟨c,h⟩:=h;wp_walk;exact⟨_,rfl,h⟩
theorem wX (l:cn)(items:ib ax)(n:Nat)(v:a9 cn)(sl:ib (a9 ax))(k:Int)(t:Tok)(B : 2<=k)(C:k<2 ^ 30)(c:items.isEmpty=b0)(hsz:items.size*k.toNat<=d4) :
  Meets (Builtin.«tuple.__mul__» ⟨[.ref l,.int k t],[]⟩) (λ_ R s=>s.heap.get? l=ag { cls:=.type "tuple",dict:=v,data:=.seq items n,slots:=sl }/\R (.ok (.ret (ma s.heap.objs.size))) { s with heap:=s.heap.push { cls:=xb "tuple",data:=Data.seq (WX (λx1 x2=>x1++x2) #[] (ih k.toNat items)) },toks:=s.toks }):=
 .of_wp λprog w A R s h=>by
  obtain⟨u,g,d,tk,os⟩:=s;obtain⟨a,h⟩:=h;have y:=adf
  wp_walk using s8 a
  have z:(0:Int)<=k:=#[1]
  have r:((k.toNat:Nat):Int)=k:=#[1]
  have q:¬ ((dv (k < -2 ^ 63) ||dv (k≥2 ^ 63))=ba):=by rw[eh #[0],eh #[0]];decide
  have o:¬ ((items.isEmpty ||k==1)=ba):=by rw[c,ael,mz.mpr #[0]];decide
  have p:¬ ((dv (k<=0) ||items.isEmpty)=ba):=by rw[c,eh #[0]];decide
  have f:((items.size*k.toNat:Nat):Int)=(items.size:Int)*k:=by rw[adD,r]
  have x:(d4:Nat)=2 ^ 24:=rfl;have j:¬ ((items.size:Int)*k > (2 ^ 63-1) / 8):=by rw[← f];omega
  have i:Zx ((items.size:Int)*k)=b0:=by unfold Zx;rw[← f];exact eh #[0]
  rw[dV q];refine av (aco (⟨_,a,rfl,n,rfl⟩:aci u l items) ?_);rw[0];rw[dV o,dV p,dV j,dV (by rw[i];decide)]
  have b:sizeOk (.seq (WX (λx1 x2=>x1++x2) #[] (ih k.toNat items))):=by
   have e:WX (λx1 x2=>x1++x2) #[] (ih k.toNat items)=(ih k.toNat items.toList).flatten.toArray:=by have:=foldl_rep items.toList k.toNat [];simpa using this
   show (WX (λx1 x2=>x1++x2) #[] (ih k.toNat items)).size<=d4;rw[e,f3,len_rep,ky,abA];exact hsz
  first
   |exact av (m:=C3 _) (oa (bo ⟨_,rfl,h⟩) b)
   |exact av (m:=C3 _) (oa (av (bo (bo ⟨_,rfl,h⟩))) b)
noncomputable def cD:D->D->a9 D
 | .int i,.int j=>if gU i j then ag (.int (i*j)) else ay
 | .str x,.int n=>if -1000<=n/\n<1 then ag (.str ⟨#[]⟩) else if 1<=n/\n<=1000/\x.length<=1000 then ag (.str ⟨(ih n.toNat x.cps.toList).flatten.toArray⟩) else ay
 | .tup a,.int n=>if 2<=n/\n<=1000/\0<a.length/\a.length<=1000 then ag (.tup (ih n.toNat a).flatten) else ay
 |_,_=>ay
theorem CT (x:eG)(n:Int)(h : 1<=n):Txt.mul x n=⟨(ih n.toNat x.cps.toList).flatten.toArray⟩:=by
 have f:∀ m:Nat,(ih m x.cps).foldl (·++·) #[]=(ih m x.cps.toList).flatten.toArray:=λm=>by
  have:∀ (m:Nat) (a:ak Nat),(ih m x.cps).foldl (·++·) a.toArray=(a++(ih m x.cps.toList).flatten).toArray:=by
   intro m
   induction m with
   |zero=>intro a;simp
   |succ m b =>
    intro a;rw[Dd,UU,Dd,RA,← kg];have e:a.toArray++x.cps=(a++x.cps.toList).toArray:=by simp
    rw[e];exact b _
  have:=this m [];simpa using this
 unfold Txt.mul;rw[dV #[0]];split
 ·rename_i c;rw[Zw] at c;rcases c with c |c
  ·have:n=1:=U7 c;subst this;show x=⟨([x.cps.toList].flatten).toArray⟩;simp
  have g:x.cps.size=0:=U7 c;have:x.cps.toList=[]:=by simpa using Array.size_eq_zero_iff.mp g
  have d:∀ m:Nat,(ih m ([]:ak Nat)).flatten=[]:=λm=>by induction m with
   |zero=>rfl
   |succ m b=>rw[Dd,RA,b];rfl
  rw[this,d];cases x with
  |mk cps =>
   simp only at this;have:cps = #[]:=by simpa using this
   rw[this]
 rw[f]
theorem dh:PU X (P_ .Mult) cD:=by
 intro p s Z H x y v u Q I A B h;obtain⟨J,dx,dy,d,hJ,w,C,e,q⟩:=h;unfold cD at e;rw[1]
 ·rename_i i j;rw[1]
  ·rename_i c;cases e;cases At.Lu.mp w;cases At.Lu.mp C;exact GQ p s Z H _ _ v u Q I A B ⟨i,j,rfl,rfl,yZ c,q H _ (LH.refl H) (#[17])⟩
  cases e
 ·rename_i z n;obtain⟨ex,R⟩:=At.LL.mp w;subst ex;cases At.Lu.mp C;obtain⟨t,rfl⟩:=A;obtain⟨t',rfl⟩:=B;rw[1]
  ·rename_i c;cases e;refine SB.mul ⟨by rw[eh #[0],eh #[0]];rfl,λh=>ku c.2 h,λh=>ku c.2 h⟩ λt' k=>?_;rw[show Txt.mul z n=⟨#[]⟩ from dm c.2];exact⟨.str _,H,I.tok _,⟨t',rfl⟩,q H _ (LH.refl H) (At.LL.mpr ⟨rfl,by show 0<=d4;decide,#[6]⟩)⟩
  rename_i c;rw[1]
  ·rename_i W;cases e;have D:(d4:Nat)=2 ^ 24:=rfl
   have f:z.length*n.toNat<=1000000:=by
    have:n.toNat<=1000:=#[1]
    exact hA (adX W.2.2 this) #[2]
   have ok:MulOk z n:=by
    refine⟨by rw[eh #[0],eh #[0]];rfl,λ_ _ hh=>?_,λ_ _=>?_⟩
    ·have N:(2 ^ 63-1) / n≥(2 ^ 63-1) / 1000:=by
      apply Int.le_ediv_of_mul_le #[0];have:((2 ^ 63-1) / 1000:Int)=9223372036854775:=#[6]
      rw[this];omega
     have O:((2 ^ 63-1) / 1000:Int)=9223372036854775:=#[6]
     omega
    unfold Builtin.Str.tooLong;exact eh #[0]
   refine SB.mul ok λt' k=>?_;rw[CT z n #[0]];have S:z.cps.toList.length=z.length:=by simp[Str.length]
   refine⟨.str _,H,I.tok _,⟨t',rfl⟩,q H _ (LH.refl H) (At.LL.mpr ⟨rfl,?_,oT λc m=>?_⟩)⟩
   ·show (List.toArray _).size<=_;rw[f3,len_rep,S,abA];omega
   obtain⟨l,Su,G⟩:=adg.mp m;rw[(List.mem_replicate.mp Su).2] at G;exact mj R.2 G
  cases e
 ·rename_i xs n;rw[1]
  ·rename_i c;cases e;obtain⟨a,K,rfl,P,m⟩:=At.LF.mp w;cases At.Lu.mp C;cases A;obtain⟨t',rfl⟩:=B;obtain⟨its,r,⟨⟨cls,M,data,sl⟩,g,hc,E,hd⟩,hz⟩:=I.tuple P.sq;simp only at hc hd;subst hc hd;have l1:=m.length;have l2:=r.length;have D:(d4:Nat)=2 ^ 24:=rfl
   have f:its.toArray.size*n.toNat<=d4:=by
    rw[f3];have N:its.length<=1000:=#[1]
    have O:n.toNat<=1000:=#[1]
    exact hA (adX N O) (by rw[D];decide)
   have Y : 0<its.length:=#[1]
   have ME:its.toArray.isEmpty=b0:=by
    cases its with
    |nil=>simp at Y
    |cons _ _=>rfl
   refine Z6 (T:="tuple") (U:="int") #[2] ⟨_,g,rfl⟩ (λV=>aa1 V n t') gS F.fills_int_mul F.slot_int_rmul lu F.slot_int_index.lookup
    (XO F.slot_int_rmul (aa1 s n t') F.entry_int_rmul (F.args_int_rmul_2 _ _) (jh n t' a its.toArray E M sl)
     ⟨g,rfl,⟨_,g,rfl⟩,XO F.slot_tuple_mul ⟨_,g,rfl⟩ F.entry_tuple_mul (F.args_tuple_mul_2 _ _) (wX a its.toArray E M sl n t' c.1 #[0] ME f) ⟨g,?_⟩⟩)
   have YC:WX (λx1 x2=>x1++x2) #[] (ih n.toNat its.toArray)=(ih n.toNat its).flatten.toArray:=by have:=foldl_rep its n.toNat [];rw[WY] at this;exact this
   rw[YC];have L:(ih n.toNat K).flatten.length<=d4:=by rw[len_rep,abA,l2];rw[f3] at f;exact f
   exact⟨#[15],_,I.laid (t':=s.toks) (o:=.tup (ih n.toNat K).flatten) (λb ob q=>cc _ q) (hB _) ⟨L,_,r.rep n.toNat,O4.new _ _⟩,rfl,q _ _ (aO I.fresh _) (At.Ng (m.rep n.toNat) I.fresh hJ L)⟩
  cases e
 cases e
end
section
variable {X:Cx}{W:WT}
variable {a b c e:hL}{fa fb fc:Lk D}{pos:UK}{es:ak hL}{gs:Lk (ak D)}
noncomputable def eV:ak D->a9 D
 |[.tup xs]=>ag (.int xs.length)
 |[.lst xs]=>ag (.int xs.length)
 |[.str x]=>ag (.int x.length)
 |_=>ay
theorem kN:jw X (.builtin "len") eV:=by
 intro b s c H l f Q I r h;obtain⟨J,u,d,o,m,e,q⟩:=h;unfold eV at e;rw[1]
 ·rename_i k;cases e;obtain⟨v,w,rfl,a,n⟩:=Lx.Lv.mp m;cases Lx.Ly.mp n;obtain⟨p,g,rfl,t,i⟩:=At.LF.mp a;exact iA b s c H _ f Q I r ⟨p,g,rfl,.inr t.sq,by rw[← i.length];exact q H _ (LH.refl H) (#[17])⟩
 ·rename_i k;cases e;obtain⟨v,w,rfl,a,n⟩:=Lx.Lv.mp m;cases Lx.Ly.mp n;obtain⟨p,g,rfl,t,i⟩:=At.LK.mp a;exact iA b s c H _ f Q I r ⟨p,g,rfl,.inl t.sq,by rw[← i.length];exact q H _ (LH.refl H) (#[17])⟩
 ·rename_i y;cases e;obtain⟨v,w,rfl,a,n⟩:=Lx.Lv.mp m;cases Lx.Ly.mp n;obtain⟨ex,j⟩:=At.LL.mp a;subst ex;exact ug b s c H _ f Q I r ⟨y,rfl,j.1,q H _ (LH.refl H) (#[17])⟩
 cases e
noncomputable def intD:ak D->a9 D
 |[.int i]=>ag (.int i)
 |[.bl k]=>ag (.int (if k then 1 else 0))
 |_=>ay
theorem Ho:jw X (.type "int") intD:=by
 intro b s c H g f Q I r h;obtain⟨J,l,d,j,m,e,q⟩:=h;unfold intD at e;rw[1]
 ·rename_i i;cases e;obtain⟨v,w,rfl,a,n⟩:=Lx.Lv.mp m;cases Lx.Ly.mp n;cases At.Lu.mp a;exact sk b s c H _ f Q I r (.inl ⟨i,rfl,q H _ (LH.refl H) (#[17])⟩)
 ·rename_i k;cases e;obtain⟨v,w,rfl,a,n⟩:=Lx.Lv.mp m;cases Lx.Ly.mp n;cases At.L5.mp a;exact sk b s c H _ f Q I r (.inr ⟨k,rfl,q H _ (LH.refl H) (#[17])⟩)
 cases e
noncomputable def iU:ak D->a9 D
 |[.tup xs]=>ag (.tup xs)
 |[.lst xs]=>ag (.tup xs)
 |_=>ay
theorem jo:jw X (.type "tuple") iU:=by
 intro b s g H u i Q I r h;obtain⟨J,x,d,k,m,e,q⟩:=h;unfold iU at e;rw[1]
 ·rename_i o;cases e;obtain⟨v,w,rfl,a,n⟩:=Lx.Lv.mp m;cases Lx.Ly.mp n;obtain⟨p,c,rfl,t,j⟩:=At.LF.mp a;exact kj b s g H _ i Q I r ⟨p,c,rfl,.inr ⟨t.sq,q H _ (LH.refl H) a⟩⟩
 ·rename_i o;cases e;obtain⟨v,w,rfl,a,n⟩:=Lx.Lv.mp m;cases Lx.Ly.mp n;obtain⟨p,c,rfl,t,j⟩:=At.LK.mp a;exact kj b s g H _ i Q I r ⟨p,c,rfl,.inl ⟨t.sq,λl f=>q _ _ (aO f _) (At.Ng j f k t.len)⟩⟩
 cases e
noncomputable def Ff:ak D->a9 D
 |[.tup xs]=>ag (.lst xs)
 |[.lst xs]=>ag (.lst xs)
 |_=>ay
theorem Hn:jw X (#[13]) Ff:=by
 intro b s i H u k Q I r h;obtain⟨J,x,d,j,m,e,q⟩:=h;unfold Ff at e;rw[1]
 ·rename_i o;cases e;obtain⟨v,w,rfl,a,n⟩:=Lx.Lv.mp m;cases Lx.Ly.mp n;obtain⟨p,f,rfl,t,g⟩:=At.LF.mp a;exact lQ b s i H _ k Q I r ⟨p,f,rfl,.inr t.sq,λl c=>q _ _ (aO c _) (At.MP g c j t.len)⟩
 ·rename_i o;cases e;obtain⟨v,w,rfl,a,n⟩:=Lx.Lv.mp m;cases Lx.Ly.mp n;obtain⟨p,f,rfl,t,g⟩:=At.LK.mp a;exact lQ b s i H _ k Q I r ⟨p,f,rfl,.inl t.sq,λl c=>q _ _ (aO c _) (At.MP g c j t.len)⟩
 cases e
end
inductive Fl where
 |next (ρ:Lr) |ret (d:D) |brk (ρ:Lr) |cont (ρ:Lr)
def NX (X:Cx)(W:WT)(J:ak cn)(H:Hp)(r:Except eG Fl)(f:Lq)(E:Ends):Prop:=
 match r with
 | .ok (.next ρ') => ∀ e b a,Ex J H e a->Cf X e ρ' f b a->E.nx b a
 | .ok (.brk ρ') => ∀ e b a,Ex J H e a->Cf X e ρ' f b a->E.bk b a
 | .ok (.cont ρ') => ∀ e b a,Ex J H e a->Cf X e ρ' f b a->E.ct b a
 | .ok (.ret d) => ∀ e a v,Ex J H e a->LW X.K e f a->At X.K a e d v->E.rt v a
 | .error c => ∀ e a,Ex J H e a->LW X.K e f a->W c e f a
theorem NX.ex {X:Cx}{W:WT}{J k:ak cn}{H j:Hp}{r:Except eG Fl}{m:Lq}{E:Ends}(h:NX X W J H r m E)(x:Ex J H k j):NX X W k j r m E:=by
 cases r with
 |error c=>exact λe g i s=>h e g (x.trans i) s
 |ok f =>
  cases f with
  |next l=>exact λe b g i c=>h e b g (x.trans i) c
  |brk l=>exact λe b g i c=>h e b g (x.trans i) c
  |cont l=>exact λe b g i c=>h e b g (x.trans i) c
  |ret d=>exact λe g v i s a=>h e g v (x.trans i) s a
noncomputable def tS (X:Cx)(W:WT)(f:Lk Fl):TS:=λE c H => ∃ J a S r b,Cf X J a S c H/\f a S=ag (r,b)/\NX X W J H r b E
def SS (X:Cx)(W:WT)(st:r4)(f:Lk Fl):Prop:=PS X st (tS X W f)
def QP (X:Cx)(W:WT)(st:ak r4)(f:Lk Fl):Prop:=Qi X st (tS X W f)
theorem PS.imp {X:Cx}{st:r4}{t t':TS}(h:PS X st t)(i:∀ E b H,t' E b H->t E b H):PS X st t':=λa s b H D I z=>h a s b H D I (i _ _ _ z)
theorem Qi.imp {X:Cx}{st:ak r4}{t t':TS}(h:Qi X st t)(i:∀ E b H,t' E b H->t E b H):Qi X st t':=λa s b H D I z=>h a s b H D I (i _ _ _ z)
section
variable {X:Cx}{W:WT}{st:r4}{rest:ak r4}{f g:Lk Fl}{e c:hL}{fe:Lk D}{gt:Lk fg}{pos:UK}
noncomputable def dz:Lk Fl:=λa S=>LB (.next a) S
noncomputable def aP (f g:Lk Fl):Lk Fl:=λd S=>ai (f d S) λc b=>match c with
 | .next a=>g a b
 |o=>LB o b
noncomputable def bg (f:Lk D):Lk Fl:=λa S=>ai (f a S) λd b=>LB (.ret d) b
noncomputable def PF (t:Lk fg)(f g:Lk Fl):Lk Fl:=λa S=>ai (t a S) λk b=>if k=ba then f a b else g a b
noncomputable def bC (i:Nat)(f:Lk D):Lk Fl:=λa S=>ai (f a S) λd b=>LB (.next (a.set i (ag d))) b
noncomputable def qe (f:Lk D):Lk Fl:=λa S=>ai (f a S) λ_ b=>LB (.next a) b
theorem bH:QP X W [] dz:=S5.imp λE a H h=>by obtain⟨J,b,S,r,d,c,e,z⟩:=h;cases e;exact z J a H Ex.refl c
theorem B9 {E:Ends}{i:St}{H:Hp}(h:tS X W (aP f g) E i H):HW (tS X W f) (tS X W g) E i H:=by
 obtain⟨J,b,S,r,s,c,e,z⟩:=h;unfold aP at e;cases q:f b S with
 |none=>simp[q] at e
 |some o =>
  obtain⟨p,j⟩:=o;simp only[q] at e;cases p with
  |error x =>
   cases e;exact⟨J,b,S,.error x,_,c,q,z⟩
  |ok k =>
   cases k with
   |next a=>exact⟨J,b,S,.ok (.next a),j,c,q,λl n t x m=>⟨l,a,j,r,s,m,e,z.ex x⟩⟩
   |ret d=>cases e;exact⟨J,b,S,.ok (.ret d),_,c,q,z⟩
   |brk a=>cases e;exact⟨J,b,S,.ok (.brk a),_,c,q,z⟩
   |cont a=>cases e;exact⟨J,b,S,.ok (.cont a),_,c,q,z⟩
theorem ao (a:SS X W st f)(b:QP X W rest g):QP X W (st::rest) (aP f g):=(Cp a b).imp λE c H h=>B9 h
theorem ap (a:SS X W st f):QP X W [st] f:=Ez a
theorem tS.LD {k:D->Lk Fl}{E:Ends}{g:St}{H:Hp}(h:tS X W (λρ S=>ai (fe ρ S) λd b=>k d ρ b) E g H) :
  tE X W fe g H λv a => ∃ J ρ S d r f,Cf X J ρ S g a/\At X.K a J d v/\k d ρ S=ag (r,f)/\NX X W J a r f E:=by
 obtain⟨J,ρ,S,r,f,c,e,z⟩:=h;cases q:fe ρ S with
 |none=>simp[q] at e
 |some o =>
  obtain⟨j,b⟩:=o;simp only[q] at e;cases j with
  |error x =>
   cases e;exact⟨J,ρ,S,.error x,_,c,.nil,q,z⟩
  |ok d=>exact⟨J,ρ,S,.ok d,b,c,.nil,q,λi a v x l m=>⟨i,ρ,b,d,r,f,c.re x l,m,e,z.ex x⟩⟩
theorem tS.Ph {k:fg->Lk Fl}{E:Ends}{f:St}{H:Hp}(h:tS X W (λρ S=>ai (gt ρ S) λd a=>k d ρ a) E f H) :
  tT X W gt f H λb g=>tS X W (k b) E f g:=by
 obtain⟨J,ρ,S,r,n,c,e,z⟩:=h;cases q:gt ρ S with
 |none=>simp[q] at e
 |some o =>
  obtain⟨j,a⟩:=o;simp only[q] at e;cases j with
  |error x =>
   cases e;exact⟨J,ρ,S,.error x,_,c,.nil,q,z⟩
  |ok d =>
   refine⟨J,ρ,S,.ok d,a,c,.nil,q,λi g v x l m=>?_⟩;cases m;exact⟨i,ρ,a,r,n,c.re x l,e,z.ex x⟩
theorem aI (f:SE X W e fe):SS X W (.Return (ag e) pos) (bg fe):=(GE f).imp λE g H h=>(tS.LD h).mono λv b a=>by obtain⟨J,i,S,d,r,j,c,m,q,z⟩:=a;cases q;exact z J b v Ex.refl c.LZ m
theorem eB {a b:ak r4}(hc:Ow X W c gt)(e:QP X W a f)(hb:QP X W b g):SS X W (.If c a b pos) (PF gt f g):=(Iq hc e hb).imp λE i H h=>(tS.Ph h).mono λk j d=>by
 cases k with
 |true=>rw[dm rfl];exact d
 |false=>rw[dV #[2]];exact d
theorem om (g:SE X W e fe)(i:Uy e ay pos.line X.env=y8 b0:=by rfl):SS X W (.Expr e pos) (qe fe):=(EB g i).imp λE b H h=>(tS.LD h).mono λv f a=>by obtain⟨J,j,S,d,r,k,c,m,q,z⟩:=a;cases q;exact z J b f Ex.refl c
theorem Cf.set {J:ak cn}{ρ:Lr}{S:Lq}{b:St}{H:Hp}{i:Nat}{d:D}{v:V}(c:Cf X J ρ S b H)(m:At X.K H J d v):Cf X J (ρ.set i (ag d)) S (b.set i (ag v)) H:=by
 refine⟨by rw[J7,J7];exact c.len,λj g h=>?_,c.LZ⟩;by_cases a:j=i
 ·subst a;have e:j < ρ.length:=by have:=(b5.mp h).1;rwa [J7] at this
  rw[L1 e] at h;cases h;exact⟨v,L1 (by rw[← c.len];exact e),m⟩
 rw[TL (lC a)] at h;obtain⟨f,k,l⟩:=c.env j g h;exact⟨f,by rw[TL (lC a)];exact k,l⟩
theorem aN {i:Nat}{x:eG}{a:UK}(b:X.N.Nodup)(l:SE X W e fe)(n:X.N[i]?=ag x:=by rfl)(j:Loc X.env.scope x:=by first |exact abx rfl |exact aap rfl)(o:Uy e (ag (.Name x a)) pos.line X.env=y8 b0:=by rfl)
  (k:X.fn x=ba∨#[21]=ag .local:=by first |exact .inl rfl |exact .inr rfl |assumption) :
  SS X W (.Assign [.Name x a] e pos) (bC i fe):=(GD b n j l o k).imp λE p H h=>(tS.LD h).mono λv g f=>by
 obtain⟨J,s,S,d,r,t,c,m,q,z⟩:=f
 cases q;exact z J _ g Ex.refl (c.set m)
noncomputable def tgD (X:Cx)(u:D->Lr->a9 Lr):TG:=λv e H Q => ∃ J c S d a,Cf X J c S e H/\At X.K H J d v/\u d c=ag a/\∀ b,Cf X J a S b H->Q b H
noncomputable def JH (X:Cx)(u:ak D->Lr->a9 Lr):S6:=λf e H Q => ∃ J c S d a,Cf X J c S e H/\Lx X.K H J d f/\u d c=ag a/\∀ b,Cf X J a S b H->Q b H
def SG (X:Cx)(a:hL)(u:D->Lr->a9 Lr):Prop:=PG X a (tgD X u)
def XD (X:Cx)(a:ak hL)(u:ak D->Lr->a9 Lr):Prop:=TB X a (JH X u)
theorem PG.imp {c:hL}{t t':TG}(h:PG X c t)(i:∀ v b H Q,t' v b H Q->t v b H Q):PG X c t':=λa s b H v u Q I r z=>h a s b H v u Q I r (i _ _ _ _ z)
theorem TB.imp {c:ak hL}{t t':S6}(h:TB X c t)(i:∀ v b H Q,t' v b H Q->t v b H Q):TB X c t':=λa s b H v u Q I r z=>h a s b H v u Q I r (i _ _ _ _ z)
noncomputable def aB (i:Nat):D->Lr->a9 Lr:=λd a=>ag (a.set i (ag d))
noncomputable def ca:ak D->Lr->a9 Lr:=λa b=>match a with
 |[]=>ag b
 |_=>ay
noncomputable def aK (u:D->Lr->a9 Lr)(us:ak D->Lr->a9 Lr):ak D->Lr->a9 Lr:=λc b=>match c with
 |d::r=>(u d b).bind λa=>us r a
 |[]=>ay
noncomputable def ft (n:Nat)(us:ak D->Lr->a9 Lr):D->Lr->a9 Lr:=λd b=>match d with
 | .tup a=>if a.length=n then us a b else ay
 |_=>ay
theorem aJ {i:Nat}{x:eG}(a:X.N.Nodup)(j:X.N[i]?=ag x:=by rfl)(b:Loc X.env.scope x:=by first |exact abx rfl |exact aap rfl)(f:X.fn x=ba∨#[21]=ag .local:=by first |exact .inl rfl |exact .inr rfl |assumption) :
  SG X (.Name x pos) (aB i):=(EI a j b f).imp λv k H Q h=>by
 obtain⟨J,l,S,d,g,c,m,e,z⟩:=h;cases e;exact z _ (c.set m)
theorem dX:XD X [] ca:=S7.imp λv d H Q h=>by
 obtain⟨J,f,S,b,a,c,m,e,z⟩:=h;cases b with
 |nil=>cases e;exact⟨Lx.Ly.mp m,z _ c⟩
 |cons _ _=>cases e
theorem aT {e:hL}{es:ak hL}{u:D->Lr->a9 Lr}{us:ak D->Lr->a9 Lr}(q:SG X e u)(s:XD X es us)
  (p:(Ss (e::es) X.env).map (·.2)=WM e X.env::(Ss es X.env).map (·.2):=by rfl):XD X (e::es) (aK u us):=(Cy q s p).imp λv t H Q h=>by
 obtain⟨J,l,S,o,b,c,m,e,z⟩:=h;cases o with
 |nil=>cases e
 |cons d r =>
  obtain⟨j,n,rfl,m1,m2⟩:=Lx.Lv.mp m;obtain⟨a,f,i⟩:=hD.mp e;exact⟨j,n,rfl,J,l,S,d,a,c,m1,f,λg k=>⟨J,a,S,r,b,k,m2,i,z⟩⟩
theorem gG {es:ak hL}{k:Nat}{us:ak D->Lr->a9 Lr}{n:Nat}(hc:X.calm=ba)(h:XD X es us)
  (o:(Ss es X.env).length=n:=by rfl) (p:(Ss es X.env).findIdx? (·.1)=ay:=by rfl):SG X (.Tuple es k pos) (ft n us):=(GK hc h o p).imp λv q H Q h=>by
 obtain⟨J,j,S,d,b,c,m,e,z⟩:=h;cases d with
 |tup l =>
  obtain⟨a,i,rfl,t,f⟩:=At.LF.mp m;simp only[ft] at e;rw[1]
  ·rename_i g;exact⟨a,i,rfl,t.sq,by rw[← f.length];exact g,J,j,S,l,b,c,f,e,z⟩
  cases e
 |_=>cases e
noncomputable def uo (u:D->Lr->a9 Lr)(f:Lk D):Lk Fl:=λa S=>ai (f a S) λd b=>aL ((u d a).map Fl.next) b
theorem Gh {a e:hL}{u:D->Lr->a9 Lr}(n:SE X W e fe)(j:SG X a u)(o:acj [a] e pos.line X.env=y8 b0:=by rfl)(p:ack [a] e X.env=y8 ay:=by rfl)
  (s:(Ss [a] X.env).map (·.2)=[WM a X.env]:=by rfl):SS X W (.Assign [a] e pos) (uo u fe):=(Cr n j o p s).imp λE t H h=>(tS.LD h).mono λv k i=>by
 obtain⟨J,g,S,d,r,w,c,m,q,z⟩:=i
 cases hu:u d g with
 |none=>simp[hu] at q
 |some f =>
  simp only[hu,VM,bG,LB] at q;cases q;exact⟨J,g,_,d,f,c,m,hu,λb l=>z J b k Ex.refl l⟩
structure Walk (X:Cx) (Jt:It) (ds:ak D) (J0:ak cn) (H0:Hp):Prop where
 len:ds.length<=d4
 go:∀ J H i,Ex J0 H0 J H->i<ds.length->Jt.go i H
 Qm:∀ J H (i:Nat) x H',Ex J0 H0 J H->(∀ a∈J,H a≠ay)->i<ds.length->Jt.Qm i H x H'->∃ d,ds[i]?=ag d/\At X.K H' J d x/\LH H H'
 stop:∀ J H i,Ex J0 H0 J H->ds.length<=i->Jt.stop i H
noncomputable def iW (X:Cx)(W:WT)(h:Lk (ak D)):TI:=λg H R => ∃ J e S r d,Cf X J e S g H/\h e S=ag (r,d)/\match r with
 | .ok i => ∀ b a f,Ex J H b a->LW X.K b d a->Walk X f i b a->R f a
 | .error c => ∀ b a,Ex J H b a->LW X.K b d a->W c b d a
def SI (X:Cx)(W:WT)(a iter:hL)(b:Lk (ak D)):Prop:=PI X a iter (iW X W b)
theorem PI.imp {c iter:hL}{t t':TI}(h:PI X c iter t)(i:∀ b H R,t' b H R->t b H R):PI X c iter t':=λa s b H R I z=>h a s b H R I (i _ _ _ z)
noncomputable def fj (u:D->Lr->a9 Lr)(body:Lk Fl):ak D->Lk Fl
 |[],ρ,S=>LB (.next ρ) S
 |d::ds,ρ,S=>match u d ρ with
  |ay=>ay
  |ag c=>ai (body c S) λe b=>match e with
   | .next a=>fj u body ds a b
   | .cont a=>fj u body ds a b
   | .brk a=>LB (.next a) b
   | .ret d=>LB (.ret d) b
noncomputable def iD (b:Lk (ak D))(u:D->Lr->a9 Lr)(body:Lk Fl):Lk Fl:=λa S=>ai (b a S) λc d=>fj u body c a d
theorem df {Z iter:hL}{body:ak r4}{Y:Lk (ak D)}{u:D->Lr->a9 Lr}(hp:ac9 #[8] X.A X.env X.xe)(hc:X.calm=ba)(B:SI X W Z iter Y)(hg:SG X Z u)(hb:QP X W body f)
  (hs:∀ x,Vi iter X.env x=y8 x:=by intro _;rfl):SS X W (.For Z iter body [] pos) (iD Y u f):=(GF hp hc B hg hb hs).imp λE σ H h=>by
 obtain⟨J,O,S,r,s,c,e,z⟩:=h;unfold iD at e;cases q:Y O S with
 |none=>simp[q] at e
 |some o =>
  obtain⟨V,S1⟩:=o;simp only[q] at e;cases V with
  |error x =>
   cases e;exact⟨J,O,S,.error x,_,c,q,z⟩
  |ok p =>
   refine⟨J,O,S,.ok p,S1,c,q,λJ0 H0 Jt x0 s0 w=>?_⟩
   refine⟨λi m σ H=>m=p.length-i/\∃ a k l,Ex J0 H0 a H/\Cf X a k l σ H/\∃ r s,fj u f (p.drop i) k l=ag (r,s)/\NX X W a H r s E,
    ⟨_,rfl,J0,O,S1,Ex.refl,c.re x0 s0,r,s,by simpa using e,z.ex x0⟩,λi m U I hw=>?_⟩
   obtain⟨hm,a,k,l,ex,M,r1,F,j,ez⟩:=hw;by_cases B:i<p.length
   ·refine .inr ⟨w.go a I i ex B,λn t => ∃ R L Sy,Ex J0 H0 R t/\Cf X R L Sy n t/\∃ r s,fj u f (p.drop (i+1)) L Sy=ag (r,s)/\NX X W R t r s E,
     λn t hn=>⟨p.length-(i+1),#[1],rfl,hn⟩,λx t y=>?_⟩
    obtain⟨d,ed,ad,sm⟩:=w.Qm a I i x t ex M.LZ.all B y;have hd:p.drop i=d::p.drop (i+1):=by rw[T3 B];rw[bc B] at ed;cases ed;rfl
    rw[hd] at j;unfold fj at j;cases hu:u d k with
    |none=>simp[hu] at j
    |some b =>
     simp only[hu] at j;have N:Ex a I a t:=Ex.same sm;refine⟨a,k,l,d,b,M.re N (M.LZ.same sm),ad,hu,λσ2 C=>?_⟩;cases v:f b l with
     |none=>simp[v] at j
     |some o =>
      obtain⟨V,P⟩:=o;simp only[v] at j;have K:=ez.ex N;cases V with
      |error x =>
       cases j;exact⟨a,b,l,.error x,_,C,v,K⟩
      |ok fl =>
       cases fl with
       |next g=>exact⟨a,b,l,.ok (.next g),P,C,v,λQ n H2 G T=>⟨Q,g,P,ex.trans (N.trans G),T,r1,F,j,K.ex G⟩⟩
       |cont g=>exact⟨a,b,l,.ok (.cont g),P,C,v,λQ n H2 G T=>⟨Q,g,P,ex.trans (N.trans G),T,r1,F,j,K.ex G⟩⟩
       |brk g=>cases j;exact⟨a,b,l,.ok (.brk g),_,C,v,K⟩
       |ret dd=>cases j;exact⟨a,b,l,.ok (.ret dd),_,C,v,K⟩
   refine .inl ⟨w.stop a I i ex #[0],?_⟩;rw[UW #[0]] at j;unfold fj at j;cases j;exact ez a U I Ex.refl M
noncomputable def ym (f:Lk D):Lk (ak D):=λb S=>ai (f b S) λd c=>aL (match d with | .tup a=>ag a |_=>ay) c
noncomputable def DK (f:Lk D):Lk (ak D):=λb S=>ai (f b S) λd c=>aL (match d with | .lst a=>ag a |_=>ay) c
theorem Walk.list {a:cn}{ds:ak D}{xs:ak V}{J:ak cn}{H:Hp}(t:LQ X.K H J a xs)(m:Lx X.K H J ds xs):Walk X (Yl X.K a) ds J H where
 len:=by rw[m.length];exact t.len
 go:=λf c i x b=>by
  have m1:=m.ex x;obtain⟨v,g,_⟩:=m1.get (bc b);exact⟨xs,v,(t.ex x).sq,g⟩
 Qm:=λf c i v k x j b y=>by
  obtain⟨rfl,h⟩:=y;obtain⟨d,e,a⟩:=(m.ex x).get' (h xs (t.ex x).sq);exact⟨d,e,a,LH.refl _⟩
 stop:=λf c i x b=>⟨xs,(t.ex x).sq,by rw[← m.length];exact b⟩
theorem Walk.tup {a:cn}{ds:ak D}{xs:ak V}{J:ak cn}{H:Hp}(t:TQ X.K H J a xs)(m:Lx X.K H J ds xs):Walk X (Ym X.K a) ds J H where
 len:=by rw[m.length];exact t.len
 go:=λf c i x b=>by
  have m1:=m.ex x;obtain⟨v,g,_⟩:=m1.get (bc b);exact⟨xs,v,(t.ex x).sq,g⟩
 Qm:=λf c i v k x j b y=>by
  obtain⟨rfl,h⟩:=y;obtain⟨d,e,a⟩:=(m.ex x).get' (h xs (t.ex x).sq);exact⟨d,e,a,LH.refl _⟩
 stop:=λf c i x b=>⟨xs,(t.ex x).sq,by rw[← m.length];exact b⟩
theorem tU {k:D->a9 (ak D)}{g:St}{H:Hp}{R:It->Hp->Prop}(h:iW X W (λρ S=>ai (fe ρ S) λd f=>aL (k d) f) g H R) :
  tE X W fe g H λv a => ∃ J S d ds,LW X.K J S a/\At X.K a J d v/\k d=ag ds/\∀ H' b,LH a H'->Walk X b ds J H'->R b H':=by
 obtain⟨J,ρ,S,r,p,c,e,z⟩:=h;cases q:fe ρ S with
 |none=>simp[q] at e
 |some o =>
  obtain⟨n,f⟩:=o;simp only[q] at e;cases n with
  |error x =>
   cases e;exact⟨J,ρ,S,.error x,_,c,.nil,q,z⟩
  |ok d =>
   refine⟨J,ρ,S,.ok d,f,c,.nil,q,λi a v x j m=>?_⟩;cases hk:k d with
   |none=>simp[hk] at e
   |some ds =>
    simp only[hk,fY,bG,LB] at e;cases e;exact⟨i,_,d,ds,j,m,hk,λH' b l w=>z i H' b (x.trans (Ex.same l)) (j.same l) w⟩
theorem Gk {i:hL}(j:SE X W e fe):SI X W i e (ym fe):=(GJ j).imp λn H R h=>(tU h).mono λv g f=>by
 obtain⟨J,S,d,o,s,m,b,z⟩:=f
 cases d with
 |tup l =>
  cases b;obtain⟨a,k,rfl,t,c⟩:=At.LF.mp m;exact⟨a,rfl,⟨k,t.sq⟩,z g _ (LH.refl _) (Walk.tup t c)⟩
 |_=>cases b
theorem Gn {i:hL}(j:SE X W e fe):SI X W i e (DK fe):=(EH j).imp λn H R h=>(tU h).mono λv g f=>by
 obtain⟨J,S,d,o,s,m,b,z⟩:=f
 cases d with
 |lst l =>
  cases b;obtain⟨a,k,rfl,t,c⟩:=At.LK.mp m;exact⟨a,rfl,⟨k,t.sq⟩,z g _ (LH.refl _) (Walk.list t c)⟩
 |_=>cases b
noncomputable def eE:ak D->a9 (ak D)
 |[.int j]=>if -(2 ^ 62)<=j/\j<=16777216 then ag ((gx j.toNat).map λ(k:Nat)=>D.int k) else ay
 |_=>ay
noncomputable def f_ (k:ak D->a9 (ak D))(t:Lk (ak D)):Lk (ak D):=λa S=>ai (t a S) λb c=>aL (k b) c
theorem Walk.range {J:ak cn}{H:Hp}(lo:Int)(n:Nat)(hz:n<=d4):Walk X (Xw lo n) ((gx n).map λ(k:Nat)=>D.int (lo+k)) J H where
 len:=by rw[d7,p0];exact hz
 go:=λc b i x a=>by rw[d7,p0] at a;exact a
 Qm:=λc b i v e x d a y=>by
  obtain⟨rfl,rfl⟩:=y;rw[d7,p0] at a;exact⟨.int (lo+i),by rw[hF,Zz a];rfl,#[17],LH.refl _⟩
 stop:=λc b i x a=>by rw[d7,p0] at a;exact a
theorem jb {k:ak D->a9 (ak D)}{t:Lk (ak D)}{g:St}{H:Hp}{R:It->Hp->Prop}(h:iW X W (λρ S=>ai (t ρ S) λd f=>aL (k d) f) g H R) :
  tA X W t g H λvs a => ∃ J S es ds,LW X.K J S a/\Lx X.K a J es vs/\k es=ag ds/\∀ H' b,LH a H'->Walk X b ds J H'->R b H':=by
 obtain⟨J,ρ,S,r,p,c,e,z⟩:=h;cases q:t ρ S with
 |none=>simp[q] at e
 |some o =>
  obtain⟨n,f⟩:=o;simp only[q] at e;cases n with
  |error x =>
   cases e;exact⟨J,ρ,S,.error x,_,c,.nil,q,z⟩
  |ok es =>
   refine⟨J,ρ,S,.ok es,f,c,.nil,q,λi a v x j m=>?_⟩;cases hk:k es with
   |none=>simp[hk] at e
   |some ds =>
    simp only[hk,fY,bG,LB] at e;cases e;exact⟨i,_,es,ds,j,m,hk,λH' b l w=>z i H' b (x.trans (Ex.same l)) (j.same l) w⟩
theorem dL {k a:hL}{t:Lk (ak D)}{x:eG}{p:UK}(i:x="range")(f:X.mg x=ay)(l:SA X W [a] t)(g:Gl X x:=by rfl)(o:eK [a] X.env=[(b0,sY a X.env)]:=by rfl):SI X W k (.Call (.Name x p) [a] [] pos) (f_ eE t):=by
 subst i;refine PI.imp (AL g f l o) λu H R h=>(jb h).mono λq d e=>?_;obtain⟨J,S,es,y,s,m,b,z⟩:=e;unfold eE at b;split at b
 ·rename_i j;split at b
  ·rename_i c;cases b;obtain⟨v,r,rfl,a1,n⟩:=Lx.Lv.mp m;cases Lx.Ly.mp n;cases At.Lu.mp a1;refine⟨j,rfl,c.1,#[1],z d _ (LH.refl _) ?_⟩;have w:=Walk.range (X:=X) (J:=J) (H:=d) 0 j.toNat (by show j.toNat<=16777216;omega);simpa using w
  cases b
 cases b
end
structure MF (scope:lE) (env:Env):Prop where
 kind:scope.kind = .function
 nd:(scope.names.map (·.1)).Nodup
 names:∀ y∈scope.names,y.2 = .local->scope.names.lookup y.1=ag .local
 frees:∀ y∈scope.names,y.2 = .free->env.kindOf y.1=ag .cell∨env.kindOf y.1=ag .free
theorem eY {env:Env}:∀ (names:ak (eG×Ra)) (a:ak (eG×cn)),(∀ y∈names,y.2 = .free->∃ c,env.cells.lookup y.1=ag c)->(∀ x c,a.lookup x=ag c->env.cells.lookup x=ag c) ->
  ∃ cl:ak (eG×cn),(adq names a λ(x:eG×Ra) r=>(do
    let (name,kind):=x
    if kind==.free then y8 (QW ((name,← cellOf env name)::r)) else y8 (QW r):Sem (ForInStep (ak (eG×cn)))))=y8 cl /\
   (∀ x c,cl.lookup x=ag c->env.cells.lookup x=ag c)/\(∀ x c,a.lookup x=ag c->∃ b,cl.lookup x=ag b)/\(∀ y∈names,y.2 = .free->∃ c,cl.lookup y.1=ag c)
 |[],a,_,ha=>⟨a,by simp,ha,λx c h=>⟨c,h⟩,by simp⟩
 |(n,k)::r,a,hc,ha=>by
  by_cases i:k = .free
  ·subst i;obtain⟨c,m⟩:=hc (n,.free) (gy ..) rfl
   have p:∀ x b,((n,c)::a).lookup x=ag b->env.cells.lookup x=ag b:=λx b h=>by
    rw[T6] at h;cases d:x==n with
    |true =>
     rw[d] at h;cases h;have:x=n:=U7 d;rw[this];exact m
    |false=>rw[d] at h;exact ha x b h
   obtain⟨cl,e,l,f,j⟩:=eY r ((n,c)::a) (λy hy=>hc y (eJ _ hy)) p;have o:cellOf env n=y8 c:=by unfold cellOf;rw[m]
   refine⟨cl,?_,l,λx b h=>?_,λy hy g=>?_⟩
   ·rw[XP];simp only[aaE,n7,o,pure_bind];exact e
   ·by_cases d:(x==n)=ba
    ·exact f x c (by rw[T6,d])
    exact f x b (by rw[T6,Bool.eq_false_iff.mpr d];exact h)
   rcases f5.mp hy with rfl |hy
   ·exact f n c (by rw[T6,aaE])
   exact j y hy g
  obtain⟨cl,e,l,f,j⟩:=eY r a (λy hy=>hc y (eJ _ hy)) ha;refine⟨cl,?_,l,f,λy hy g=>?_⟩
  ·rw[XP];have:(k==O3)=b0:=by simpa using i
   simp only[this,lg,r3,pure_bind];exact e
  rcases f5.mp hy with rfl |hy
  ·exact ku g i
  exact j y hy g
noncomputable def mP (X:Cx)(scope:lE)(cl:ak (eG×cn))(a:ak eG)(C:cn)(c:cv)(b:Hp)(fp:ak cn):Cx:=
 { X with N:=a,s₀:=c,H₀:=b,env:=compEnvC scope cl C X.env,outer:=X.stack,ex:=fp,fn:=λx=>scope.names.lookup x==ag .cell,pn:=[],xe:=λ_ _=>False }
theorem fO {env:Env}{x:eG}:∀ {names:ak (eG×Ra)}{k:Ra},(names.map λ(n,k)=>if (k==O3&&env.scope.kind==.function&&env.kindOf n==ag .cell) then (n,nC) else (n,k)).lookup x=ag k ->
  (k = .cell∨k = .free)->(x,O3)∈names∨(x,nC)∈names
 |[],_,h,_=>by simp at h
 |(n,k0)::r,k,h,a=>by
  have b:∀ {k'},(r.map λ(n,k)=>if (k==O3&&env.scope.kind==.function&&env.kindOf n==ag .cell) then (n,nC) else (n,k)).lookup x=ag k'->(k' = .cell∨k' = .free)->(x,O3)∈(n,k0)::r∨(x,nC)∈(n,k0)::r:=λh a=>(fO h a).imp (eJ _) (eJ _);rw[hH] at h;by_cases hc:(k0==O3&&env.scope.kind==.function&&env.kindOf n==ag .cell)=ba
  ·simp only[hc,n7,T6] at h;cases hx:x==n with
   |true =>
    have e:x=n:=U7 hx;subst e;have:k0 = .free:=by simp at hc;exact hc.1.1
    subst this;exact .inl (gy ..)
   |false=>rw[hx] at h;exact b h a
  simp only[hc,r3,T6,lg] at h;cases hx:x==n with
  |true =>
   rw[hx] at h;have e:x=n:=U7 hx;subst e;cases h;rcases a with rfl |rfl
   ·exact .inr (gy ..)
   exact .inl (gy ..)
  |false=>rw[hx] at h;exact b h a
noncomputable def cg {α:Type}(ts:Nat)(ix:ak Nat)(a:ak (a9 α)):ak (a9 α):=ih ts ay++ix.map λi=>(a[i]?).getD ay
noncomputable def iV (ts:ak eG)(ix:ak Nat)(N:ak eG):ak eG:=ts++ix.map λi=>N.getD i Xz
theorem h_ {env:Env}{x:eG}:∀ {names:ak (eG×Ra)},names.lookup x=ag .free ->
  (names.map λ(n,k)=>if (k==O3&&env.scope.kind==.function&&env.kindOf n==ag .cell) then (n,nC) else (n,k)).lookup x=ag .cell ∨
  (names.map λ(n,k)=>if (k==O3&&env.scope.kind==.function&&env.kindOf n==ag .cell) then (n,nC) else (n,k)).lookup x=ag .free
 |[],h=>by simp at h
 |(n,k0)::r,h=>by
  rw[hH];rw[T6] at h;by_cases hc:(k0==O3&&env.scope.kind==.function&&env.kindOf n==ag .cell)=ba
  ·simp only[hc,n7,T6];cases hx:x==n with
   |true=>exact #[9]
   |false=>rw[hx] at h;exact h_ h
  simp only[hc,r3,T6,lg];cases hx:x==n with
  |true=>rw[hx] at h;exact .inr h
  |false=>rw[hx] at h;exact h_ h
theorem lookup_mem {x:eG}{k:Ra}:∀ {names:ak (eG×Ra)},names.lookup x=ag k->(x,k)∈names
 |[],h=>by simp at h
 |(n,k0)::r,h=>by
  rw[T6] at h;cases hx:x==n with
  |true=>rw[hx] at h;cases h;rw[U7 hx];exact gy ..
  |false=>rw[hx] at h;exact eJ _ (lookup_mem h)
theorem bD:∀ (names:ak (eG×Ra)) (n:Nat) (a:ak (eG×cn)),A1 n names a=A1 n names []++a
 |[],_,_=>rfl
 |(x,k)::r,n,a=>by
  unfold A1;split
  ·rw[bD r _ ((x,n)::a),bD r _ [(x,n)],kg];rfl
  exact bD r n a
theorem iz {x:eG}{c:cn}:∀ {names:ak (eG×Ra)}{n:Nat},(x,c)∈A1 n names []->(x,nC)∈names
 |[],_,h=>by cases h
 |(y,k)::r,n,h=>by
  unfold A1 at h;split at h
  ·rename_i a;rw[bD] at h;rcases lk.mp h with h |h
   ·exact eJ _ (iz h)
   have:=hM.mp h;cases this;rw[U7 a];exact gy ..
  exact eJ _ (iz h)
theorem d6 {x:eG}:∀ {names:ak (eG×Ra)}{n:Nat},(x,nC)∈names->∃ c,(A1 n names []).lookup x=ag c
 |(y,k)::r,n,h=>by
  unfold A1;rcases f5.mp h with e |h
  ·cases e;rw[dm (by rfl),bD,aaq];cases q:(A1 (n+1) r []).lookup x with
   |some c=>exact⟨c,rfl⟩
   |none=>exact⟨n,by simp⟩
  split
  ·obtain⟨c,e⟩:=d6 (n:=n+1) h;rw[bD,aaq,e];exact⟨c,rfl⟩
  exact d6 h
theorem pB {x:eG}{k a:Ra}:∀ {names:ak (eG×Ra)},(names.map (·.1)).Nodup->(x,k)∈names->(x,a)∈names->k=a
 |(y,k0)::r,nd,h,h'=>by
  obtain⟨n1,n2⟩:=Ui.mp nd;rcases f5.mp h with e |p<;>rcases f5.mp h' with b |q
  ·cases e;cases b;rfl
  ·cases e;exact ku (vl.mpr ⟨_,q,rfl⟩) n1
  ·cases b;exact ku (vl.mpr ⟨_,p,rfl⟩) n1
  exact pB n2 p q
structure Ox (X:Cx) (scope:lE) (cl:ak (eG×cn)) (s3:cv) (h4:kx):Prop where
 out:∀ x c,cl.lookup x=ag c->X.env.cells.lookup x=ag c∨(s3.heap.objs.size<c/\h4.IsCell c ay)
 inj:∀ x y c,cl.lookup x=ag c->cl.lookup y=ag c->x=y
 has:∀ x,(x,O3)∈scope.names∨(x,nC)∈scope.names->∃ c,cl.lookup x=ag c
 frees:∀ x c,scope.names.lookup x=ag .free->cl.lookup x=ag c->X.env.cells.lookup x=ag c
 own:∀ x c,scope.names.lookup x=ag .cell->cl.lookup x=ag c->s3.heap.objs.size<c
theorem Ox.of {X:Cx}{i:Ln}{m:St}{k:Hp}{scope:lE}{cl:ak (eG×cn)}{b:cv}{o:Obj}(I:Inv X i m k b)(S:MF scope X.env)(f:∀ x c,cl.lookup x=ag c->#[19]=ag c)(s:∀ y∈scope.names,y.2 = .free->∃ c,cl.lookup y.1=ag c) :
  Ox X scope (A1 (b.heap.objs.size+1) scope.names cl) b (ab3 (b.heap.push o) scope.names):=by
 have ok:=cellsFrom_ok scope.names (b.heap.push o) (b.heap.objs.size+1) [] ⟨λ_ _ l=>(nomatch l),Vl⟩ (by rw[pd];exact hB _);rw[pd] at ok
 have g:∀ x c,(A1 (b.heap.objs.size+1) scope.names cl).lookup x=ag c->((A1 (b.heap.objs.size+1) scope.names []).lookup x=ag c)∨((A1 (b.heap.objs.size+1) scope.names []).lookup x=ay/\cl.lookup x=ag c):=λx c h=>by
  rw[bD,aaq] at h;cases q:(A1 (b.heap.objs.size+1) scope.names []).lookup x with
  |some d=>rw[q] at h;exact .inl h
  |none=>rw[q] at h;exact .inr ⟨rfl,h⟩
 have old:∀ x c,#[19]=ag c->c<b.heap.objs.size:=λx c h=>let ⟨v,q⟩:=I.cell x c h;q.lt;refine⟨λx c h=>?_,λx y c hx p=>?_,λx hx=>?_,λx c j h=>?_,λx c j h=>?_⟩
 ·rcases g x c h with q |⟨_,q⟩
  ·have:=ok.empty x c (mem_of_lookup q);exact .inr ⟨this.2,this.1⟩
  exact .inl (f x c q)
 ·rcases g x c hx with q |⟨_,q⟩<;>rcases g y c p with r |⟨_,r⟩
  ·exact name_of_addr ok.apart (mem_of_lookup q) (mem_of_lookup r)
  ·have a:=(ok.empty x c (mem_of_lookup q)).2;exact ku (ke (U8 (old y c (f y c r))) a) (qb _)
  ·have a:=(ok.empty y c (mem_of_lookup r)).2;exact ku (ke (U8 (old x c (f x c q))) a) (qb _)
  exact I.ok.inj x y c (f x c q) (f y c r)
 ·rw[bD,aaq];cases q:(A1 (b.heap.objs.size+1) scope.names []).lookup x with
  |some d=>exact⟨d,rfl⟩
  |none =>
   rcases hx with hx |hx
   ·exact s _ hx rfl
   obtain⟨c,e⟩:=d6 (n:=b.heap.objs.size+1) hx;rw[q] at e;cases e
 ·rcases g x c h with q |⟨_,q⟩
  ·have:=pB S.nd (lookup_mem j) (iz (mem_of_lookup q));cases this
  exact f x c q
 rcases g x c h with q |⟨q,_⟩
 ·exact(ok.empty x c (mem_of_lookup q)).2
 obtain⟨d,e⟩:=d6 (n:=b.heap.objs.size+1) (lookup_mem j);rw[q] at e;cases e
theorem qv {M:Model}{A:jl}{E:Lm}{s:cv}{scope:lE}{globals:cn}{cl:ak (eG×cn)}{qual:eG}{env:Env}{Q:Env->cv->Prop}
  (a:Q (newEnv scope s.heap.objs.size globals (A1 (#[14]) scope.names cl) qual ay .none (ag env) Zi) { s with heap:=ab3 (s.heap.push { cls:=.type "dict",data:=.dict #[] }) scope.names }) :
  ew M A (abB scope globals cl [] qual ay .none (ag env)) Q E s:=by
 simp only[abB,acy,n7];refine av (wpAny_alloc ?_);refine av (wpAny_layCells _ (λname kind cells=>by cases hkc:kind==nC<;>simp[hkc]) _ _ _ _ ?_);rw[show ({ s with heap:=s.heap.push { cls:=.type "dict",data:=.dict #[] } }:cv).heap.objs.size=#[14] from pd ..];rw[aaF];exact av (bo (bo a))
section
variable {X:Cx}{pins:Ln}{σ:St}{H:Hp}{s:cv}
theorem Inv.enter {scope:lE}{cl:ak (eG×cn)}{ts:ak eG}{ix:ak Nat}{fp:ak cn}{j:cv}{D:kx}{C:Hp}{m:Lo}{tk:Nat}(I:Inv X pins σ C j)(S:MF scope X.env)(n:Ox X scope cl j D)
  (U:∀ t∈ix,scope.names.lookup (X.N.getD t Xz)=ag .free)
  (f:∀ b∈fp,hG X pins C b) (L:∀ b∈fp,∃ o,j.heap.get? b=ag o) (k:∀ b o,j.heap.get? b=ag o->D.get? b=ag o) (hn:D.Ns j.heap.objs.size m) :
  Inv (mP X scope cl (iV ts ix X.N) j.heap.objs.size j C fp) [] (cg ts.length ix σ) C { j with heap:=D,toks:=tk }:=by
 have own:∀ b o,j.heap.get? b=ag o->∀ c,j.heap.objs.size<c->c≠b:=λb o e c h z=>qb _ (V3 h (z▸eM e))
 refine⟨⟨I.ok.mod,S.kind,I.ok.glob,I.ok.blt,hB _,n.inj,λx Z=>?_,(λx c a e=>K5 (n.own x c (U7 a) e)),I.ok.hd,I.ok.frames,#[9],λb hb=>⟨?_,λx c e=>?_⟩,I.bs,hA I.ok.SU I.sz,λb o e hb=>?_,λb hb z=>?_,I.stack,I.QI⟩,
  rfl,I.bare,Un.kept k,⟨m,hn,λi x v P Y e3=>?_⟩,λx c e=>?_,I.fresh,λx c e=>?_,λp hp=>ku (show p∈([]:Ln) from hp) #[3],I.LX.kept k,?_⟩
 ·rcases Z with z |z
  ·exact n.has x (fO z (#[9]))
  exact n.has x (fO z (.inr rfl))
 ·obtain⟨o,y⟩:=L b hb;exact nq (eM y)
 ·rcases n.out x c e with q |q
  ·exact(f b hb).2.2.2.2.1 x c q
  obtain⟨o,y⟩:=L b hb;exact own b o y c q.1
 ·obtain⟨f0,_,_,O,_⟩:=f b hb;rcases O with z |z
  ·exact I.ok.RV b o e z
  exact ku (ke (eM e) (hA I.ok.SU z)) (qb _)
 ·obtain⟨f0,V,W,O,_⟩:=f b hb;rcases f5.mp (I.Px b z) with e |e
  ·exact V e
  exact W e
 ·-- a captured name
  have d:(cg ts.length ix σ)[i]?=ag (ag v):=Y;have s:(iV ts ix X.N)[i]?=ag x:=P;unfold cg at d;unfold iV at s;by_cases E:i<ts.length
  ·rw[h7 (by simpa using E),Sv] at d;rw[dm E] at d;cases d
  rw[hO (by simpa using E)] at d;rw[hO (by simpa using E)] at s;rw[K2] at d;rw[hF] at d s;cases et:ix[i-ts.length]? with
  |none=>rw[et] at d;cases d
  |some t =>
   rw[et] at d s;simp only[VM,Qw] at d s
   have M : σ[t]?=ag (ag v):=by
    cases q : σ[t]? with
    |none=>rw[q] at d;cases d
    |some w=>rw[q] at d;simp only[ab4] at d;rw[d]
   have K:t<X.N.length:=by rw[← I.len];exact(b5.mp M).1
   have Q:X.N[t]?=ag x:=by rw[ZK,bc K] at s;rw[bc K];simp only[ab4] at s;rw[s]
   have F:scope.names.lookup x=ag .free:=by have:=U t (y3 et);rwa [s] at this
   have H:=lookup_mem F;have g:=S.frees _ H rfl;obtain⟨m0,_,R⟩:=I.loc
   obtain⟨u,r,l⟩:=R t x v Q M (by
    rcases g with z |z
    ·exact .inr (.inl z)
    exact .inr (.inr z))
   refine⟨u,r,.inr ⟨h_ F,?_⟩⟩;obtain⟨c,G⟩:=n.has x (.inl H);have XE:=n.frees x c F G;rcases l with ⟨T,_⟩ |⟨_,c',J,cell⟩
   ·have A:X.env.kindOf x=ag .local:=T;rcases g with z |z
    ·have B:X.env.kindOf x=ag .cell:=z;rw[A] at B;cases B
    have B:X.env.kindOf x=ag .free:=z;rw[A] at B;cases B
   rw[XE] at J;cases J;exact⟨c,G,cell.keeps k⟩
 ·rcases n.out x c e with q |q
  ·obtain⟨v,o,y,hd⟩:=I.cell x c q;exact⟨v,o,k c o y,hd⟩
  exact⟨_,q.2⟩
 ·rcases n.out x c e with q |q
  ·exact I.Nw x c q
  exact I.LX.fresh (K5 q.1)
 show (cg ts.length ix σ).length=(iV ts ix X.N).length;unfold cg iV;simp
theorem Inv.leave {scope:lE}{cl:ak (eG×cn)}{r:ak eG}{l:St}{fp:ak cn}{g s':cv}{h':kx}{h H':Hp}{t:Ln}(I:Inv X pins σ h g)(f:∀ b∈fp,hG X pins h b)
  (j:Inv (mP X scope cl r g.heap.objs.size g h fp) t l H' s') (k:∀ b,b≠g.heap.objs.size->h'.get? b=s'.heap.get? b):Inv X pins σ H' { s' with heap:=h' }:=by
 have un:Un (Q1 X.stack) fp h H' g.heap s'.heap:=j.base;have p:∀ b o,g.heap.get? b=ag o->b≠g.heap.objs.size:=λb o e=>nq (eM e)
 have m:Un (Q1 X.stack) fp h H' g.heap h':=by
  refine⟨λb o e n hb i=>?_,λb o e n hb i=>?_,un.free,λb o e i=>?_,un.Pu,un.O5,un.Pw⟩
  ·rw[k b (p b o e)];exact un.keep b o e n hb i
  ·rw[k b (p b o e)];exact un.slot b o e n hb i
  rw[k b (p b o e)];exact un.there b o e i
 have LX:ND X.prog X.w H' h':=λb u e=>by
  have s:H' g.heap.objs.size=ay:=j.free;have ne:∀ c v,H' c=ag v->c≠g.heap.objs.size:=λc v q z=>by rw[z,s] at q;cases q
  refine(j.LX b u e).OA (λc v hc q=>?_) (λ_ q=>q) λ_ _ q=>q;rw[k c]
  ·exact q
  rcases hc with z |z
  ·rw[z];exact ne b u e
  exact ne c _ z
 have os:s'.os=g.os:=j.os;exact I.VO (s':={ s' with heap:=h' }) os m LX j.bare λb hb=>let ⟨_,a,_,x,c,d⟩:=f b hb;⟨x,a,c,d⟩
end
section
variable {prog:fh}{w:il}{A:jl}{R:ada->cv->Prop}{s:cv}
theorem uc {elt target iter:hL}{ifs:ak hL}{scope:lE}{pos:UK}{it l:ax}{env:Env}(I:Nat->cv->Prop)
  (o:∀ n s,I n s->ew #[4] A (aaM it) (λr b=>match r with
   |ay=>R (.ok .next) b
   |ag v=>ew #[4] A (WD target it v) (λ_ z=>ew #[4] A (WM target env v) (λ_ g =>
     ew #[4] A (adq ifs ba λc r=>if r=ba then do let ok ← isTrue c env (sY c env);y8 (QW ok) else y8 (QW r)) (λok a =>
      if ok=ba then ew #[4] A (sY elt env) (λx e =>
       ew #[4] A (call (.builtin "list.append") [l,x]) (λ_ k => ∃ m,m<n/\I m k) (λ_ _=>False) e) (λ_ _=>False) a
      else ∃ m,m<n/\I m a) (λ_ _=>False) g) (λ_ _=>False) z) (λ_ _=>False) b) (λ_ _=>False) s)
  (n:Nat) (h:I n s):X2 #[4] A (.compLoop (.ListComp elt [⟨target,iter,ifs,0⟩] scope pos) 0 it l env) R s:=by
 have no:∀ {α:Type}{t:Sem α}{Q : α->cv->Prop}{E:Lm}{s:cv},ew #[4] A t Q (λ_ _=>False) s->ew #[4] A t Q E s:=λh=>yk h (λ_ _ q=>q) λ_ _ f=>f.elim;refine codeAny_loop rfl I (λn s C=>?_) n h;show ew _ A ((compTurn (.ListComp elt [⟨target,iter,ifs,0⟩] scope pos) 0 it l env).onRaise (λx=>do noteFrame x env;theTreesLotGoes x)) _ _ s;refine wpAny_noted ?_;rw[compTurn_list];refine av (aan (av (yk (no (o n s C)) (λr b j=>?_) λ_ _ d=>d)));cases r with
 |none=>exact bo j
 |some v =>
  refine av (yk (no j) (λ_ z B=>?_) λ_ _ d=>d);refine av (yk (no B) (λ_ g p=>av (yk (no p) (λok a i=>?_) λ_ _ d=>d)) λ_ _ d=>d);cases ok with
  |false=>exact bo ⟨rfl,i⟩
  |true =>
   exact av (av (yk (no i) (λx e u=>av (yk (no u) (λ_ k y=>bo (bo ⟨rfl,y⟩)) λ_ _ d=>d)) λ_ _ d=>d))
end
section
variable {X:Cx}{pins:Ln}{σ:St}{H:Hp}{s:cv}{D₀:cn}
theorem Inv.adopt {ys:ak V}{its:ak ax}{n:Nat}(I:#[10])(f:hG X pins H D₀)(e:s.heap.get? D₀=ag { cls:=#[13],data:=.seq its.toArray n })(r:Vals ys its)(hz:ys.length<=d4):Inv X pins σ (upd H D₀ (.lst ys)) s:=by
 obtain⟨k,d,m,l,i,h⟩:=f;have ne:∀ b o,H b=ag o->b≠D₀:=λb o q=>aM q k
 have q:=I.step (h':=s.heap) (H':=upd H D₀ (.lst ys)) (g':=s.gens) (d':=s.drawn) (t':=s.toks) (ch:=[D₀]) (λb hb=>by
   have:b=D₀:=#[16]
   subst this
   exact⟨l,d,i,h⟩)
  (λb o _ _ _ e _=>e) (λb o _ _ _ e _=>⟨o.slots,e⟩) (λb o hb _ j=>by rw[aG (λz=>hb (by simp[z]))];exact j) (λb o _ e=>⟨o,e⟩)
  (λb a q=>by rw[aG (ne b _ q)];exact q) (λb o a q=>by rw[aG (ne b _ q)];exact q) (λb p q=>⟨#[],by rw[aG (ne b _ q),q];simp⟩) (λ_ g=>g) (λb u q=>?_) I.bare
 ·exact q
 by_cases hb:b=D₀
 ·subst hb;rw[LC] at q;cases q;exact⟨hz,its,n,r,e⟩
 rw[aG hb] at q;exact(I.LX b u q).OA (λc v _ z=>z) (λc z=>by rw[aG (ne c _ z)];exact z) λc a z=>by rw[aG (ne c _ z)];exact z
end
def Wc (X:Cx)(W:WT)(ifs:ak hL)(g:Lk fg):Prop:=
 ∀ (a:Ln) (s:cv) (b:St) (H:Hp) (Q:fg->Hp->Prop),Inv X a b H s->tT X W g b H Q ->
  ew #[8] X.A (adq ifs ba λc r=>if r=ba then do let ok ← isTrue c X.env (sY c X.env);y8 (QW ok) else y8 (QW r)) (TP X a b Q) X.xe s
noncomputable def eO:Lk fg:=λ_ S=>LB ba S
theorem dW {X:Cx}{W:WT}:Wc X W [] eO:=by intro a s b H Q I h;rw[aaF];exact bo ⟨H,I,oq h⟩
theorem jz {X:Cx}{W:WT}{c:hL}{g:Lk fg}(hc:Ow X W c g):Wc X W [c] g:=by intro a s d H Q I h;rw[XP];simp only[n7,aaF];refine av (av (LR (hc a s d H Q I h) λb e q=>bo ?_));exact bo q
noncomputable def UL {α:Type}(m:Out α):a9 (α×Lq):=match m with
 |ag (.ok a,S)=>ag (a,S)
 |_=>ay
noncomputable def cH (u:D->Lr->a9 Lr)(gt:Lk fg)(fe:Lk D):ak D->Lr->Lq->a9 (ak D×Lq)
 |[],_,S=>ag ([],S)
 |d::ds,ρ,S=>(u d ρ).bind λa=>(UL (gt a S)).bind λ(k,b) =>
  if k=ba then (UL (fe a b)).bind λ(y,f)=>(cH u gt fe ds a f).map λ(c,e)=>(y::c,e)
  else cH u gt fe ds a b
noncomputable def c_ (n:Nat)(ix:ak Nat)(b:Lk (ak D))(u:D->Lr->a9 Lr)(gt:Lk fg)(fe:Lk D):Lk D:=λa S=>ai (b a S) λd c =>
 match cH u gt fe d (cg n ix a) c with
 |ag (out,S2)=>LB (.lst out) S2
 |ay=>ay
abbrev W0:WT:=λ_ _ _ _=>False
section
variable {X:Cx}{W:WT}
structure CompEnd (X:Cx) (pins:Ln) (σ:St) (J0:ak cn) (H0:Hp) (S2:Lq) (out:ak D) (a C:cn) (s':cv):Prop where
 ns:∃ m,s'.heap.Ns C m
 own:X.s₀.heap.objs.size<=C/\C≠X.env.locals/\(∀ x c,X.env.cells.lookup x=ag c->c≠C)/\∀ p∈X.pn++pins,p.1≠C
 fin:∀ h',(∀ b,b≠C->h'.get? b=s'.heap.get? b)->∃ J' H1 ys,Inv X pins σ (upd H1 a (.lst ys)) { s' with heap:=h' }/\Ex J0 H0 J' H1/\LW X.K J' S2 H1/\Lx X.K H1 J' out ys/\H1 a=ay/\ys.length<=d4/\upd H1 a (.lst ys) C=ay
theorem CompEnd.We {c:Ln}{f:St}{g:ak cn}{h:Hp}{S2:Lq}{out:ak D}{a C:cn}{s':cv}(ce:CompEnd X c f g h S2 out a C s')(h':kx)(k:∀ b,b≠C->h'.get? b=s'.heap.get? b) :
  ∃ d H',Inv X c f H' { s' with heap:=h' }/\Ex g h d H'/\LW X.K d S2 H'/\At X.K H' d (.lst out) (.ref a)/\H' C=ay:=by
 obtain⟨d,n,o,l,m,st,ad,e,j,i⟩:=ce.fin h' k;exact⟨d,_,l,m.trans (Ex.same (aO e _)),st.same (aO e _),At.MP ad e st.all j,i⟩
def yv (X':Cx)(m:Nat->kx->Prop)(fp:ak cn)(a:cn)(u:D->Lr->a9 Lr)(gt:Lk fg)(fe:Lk D)(ds out:ak D)(k:ak cn)(l:Hp)(S2:Lq)(n:Nat)(s':cv):Prop:=
 ∃ (i:Nat) (d:St) (c:Hp) (f:ak cn) (e:Lr) (g:Lq) (dn rest:ak D) (j:ak V) (h:ak ax) (ep:Nat),
  n=ds.length-i+1/\i<=ds.length/\Inv X' [] d c s'/\m i s'.heap/\(∀ b∈a::fp,c b=ay)/\Ex k l f c/\Cf X' f e g d c /\
  s'.heap.get? a=ag { cls:=#[13],data:=.seq h.toArray ep }/\Vals j h/\Lx X'.K c f dn j/\dn.length<=i/\cH u gt fe (ds.drop i) e g=ag (rest,S2)/\out=dn++rest
theorem Bu {X':Cx}{tg elt:hL}{ifs:ak hL}{u:D->Lr->a9 Lr}{gt:Lk fg}{fe:Lk D}{it a:cn}{fp:ak cn}{tn:Nat->kx->Prop}{Jt:It}{ds out:ak D}{X:ak cn}{Y:Hp}{S2:Lq}{R:ada->cv->Prop}
  (hx:X'.xe=λ_ _=>False) (hc:X'.calm=ba) (sg:SG X' tg u) (st:Wc X' W0 ifs gt) (se:SE X' W0 elt fe) (T:Turn X'.prog X'.w X'.K tg Jt fp it tn) (wk:Walk X' Jt ds X Y) (na:a∉fp) (hz:ds.length<=d4)
  (fin:∀ (Nc:Ln) (H':Hp) (b:cn),b∈a::fp->H' b=ay->(∀ p∈Nc,p.1≠b)->hG X' Nc H' b)
  (YD:∀ (s':cv) (j:St) (H':Hp) (B:ak cn) (E:Lr) (ys:ak V) (us:ak ax) (ep:Nat),Inv X' [] j H' s'->Ex X Y B H'->Cf X' B E S2 j H'->H' a=ay->s'.heap.get? a=ag { cls:=#[13],data:=.seq us.toArray ep }->Vals ys us->Lx X'.K H' B out ys->ys.length<=d4->R (.ok .next) s') :
  ∀ n s,yv X' tn fp a u gt fe ds out X Y S2 n s->ew (e9 X'.prog X'.w) X'.A (aaM (.ref it)) (λr P=>match r with
   |ay=>R (.ok .next) P
   |ag v=>ew (e9 X'.prog X'.w) X'.A (WD tg (.ref it) v) (λ_ QQ=>ew (e9 X'.prog X'.w) X'.A (WM tg X'.env v) (λ_ s₂ =>
     ew (e9 X'.prog X'.w) X'.A (adq ifs ba λc r=>if r=ba then do let ok ← isTrue c X'.env (sY c X'.env);y8 (QW ok) else y8 (QW r)) (λok O =>
      if ok=ba then ew (e9 X'.prog X'.w) X'.A (sY elt X'.env) (λx s₄ =>
       ew (e9 X'.prog X'.w) X'.A (call (.builtin "list.append") [.ref a,x]) (λ_ s₅ => ∃ m,m<n/\yv X' tn fp a u gt fe ds out X Y S2 m s₅) (λ_ _=>False) s₄) (λ_ _=>False) O
      else ∃ m,m<n/\yv X' tn fp a u gt fe ds out X Y S2 m O) (λ_ _=>False) s₂) (λ_ _=>False) QQ) (λ_ _=>False) P) (λ_ _=>False) s:=by
 rintro n s ⟨i,j,H',B,E,Sx,dn,rest,ys,us,ep,hn,hi,I',tni,fr,ex,cx,ga,vs,ad,dl,l,eo⟩;have fa:=fin [] H' a (gy ..) (fr a (gy ..)) (λp G=>by simp at G)
 have I1:Inv X' [(a,{ cls:=#[13],data:=.seq us.toArray ep })] j H' s:=I'.NJ λp G=>by
  have:p=(a,{ cls:=#[13],data:=.seq us.toArray ep }):=by simpa using G
  subst this;exact⟨ga,fa.1,fa.2.1,fa.2.2.1,λv z=>by cases z⟩
 have YE:∀ H1:Hp,(∀ b∈fp,H1 b=ay)->∀ b∈fp,hG X' [(a,{ cls:=#[13],data:=.seq us.toArray ep })] H1 b:=λH1 hn b hb=>fin _ H1 b (eJ _ hb) (hn b hb) λp G=>by
  have:p=(a,{ cls:=#[13],data:=.seq us.toArray ep }):=by simpa using G
  subst this;intro z;have z':a=b:=z;exact na (z'▸hb)
 by_cases M0:i<ds.length
 ·refine LR (T.item X' rfl rfl rfl hc i _ s j H' (λ_ _=>False) I1 (YE H' λb hb=>fr b (eJ _ hb)) tni (wk.go B H' i ex M0)) λr s1 H=>?_;obtain⟨v,er,h1⟩:=H;subst er;refine LR h1 λ_ s5 H=>?_;obtain⟨x,U,I5,r5,y5,YF,Yn⟩:=H;obtain⟨d,ed,ad5,sm⟩:=wk.Qm B H' i x U ex cx.LZ.all M0 y5;have x5:Ex B H' B U:=Ex.same sm;have c5:Cf X' B E Sx j U:=cx.re x5 (cx.LZ.same sm);have hd:ds.drop i=d::ds.drop (i+1):=by rw[T3 M0];rw[bc M0] at ed;cases ed;rfl
  rw[hd,cH] at l;obtain⟨h,eu,l⟩:=hD.mp l;obtain⟨⟨k,W⟩,eg,l⟩:=hD.mp l
  have eg':gt h Sx=ag (.ok k,W):=by
   unfold UL at eg;split at eg
   ·rename_i q;cases eg;exact q
   cases eg
  have Yo:=I5.pinned (YE U Yn) (T.obj _ _ YF)
  have keep:∀ {f:St}{C:Hp}{I:cv},Inv X' ([(a,{ cls:=#[13],data:=.seq us.toArray ep })]++mE fp s5.heap) f C I->tn (i+1) I.heap/\(∀ b∈a::fp,C b=ay)/\I.heap.get? a=ag { cls:=#[13],data:=.seq us.toArray ep }:=λ{f C I} S=>by
   have pa:=S.pin (a,{ cls:=#[13],data:=.seq us.toArray ep }) (mv _ (U5 _ #[3]));refine⟨T.keep _ _ _ YF λb hb o e=>(S.pin (b,o) (mv _ (mv _ (ij hb e)))).1,λb hb=>?_,pa.1⟩;rcases f5.mp hb with rfl |hb
   ·exact pa.2.1
   obtain⟨o,e,_⟩:=T.obj _ _ YF b hb;exact(S.pin (b,o) (mv _ (mv _ (ij hb e)))).2.1
  have nop:∀ {f:St}{C:Hp}{I:cv},Inv X' ([(a,{ cls:=#[13],data:=.seq us.toArray ep })]++mE fp s5.heap) f C I->Inv X' [] f C I:=λ{f C I} S=>S.NJ λp G=>ku G #[3];have g:=sg _ s5 j U x v (λf C=>C=U/\Cf X' B h Sx f C) Yo r5 ⟨B,E,Sx,d,h,c5,ad5,eu,λf c6=>⟨rfl,c6⟩⟩;rw[hx] at g;refine LR g λ_ I H=>?_;obtain⟨f,C,S,eH,c6⟩:=H;subst eH
  have t:=st _ I f C (λb M=>b=k/\∃ J,Ex B C J M/\Cf X' J h W f M) S ⟨B,h,Sx,.ok k,W,c6,.nil,eg',λJ M b Z s7 eb=>by
   cases eb
   exact⟨rfl,J,Z,c6.re Z s7⟩⟩
  rw[hx] at t;refine LR t λb s7 H=>?_;obtain⟨M,I7,eb,J,Z,c7⟩:=H;subst eb;have ex7:Ex X Y J M:=ex.trans (x5.trans Z);have ad7:Lx X'.K M J dn ys:=(ad.ex x5).ex Z;cases b with
  |false =>
   rw[dV #[2]];simp only[lg,r3] at l;obtain⟨t8,XF,g8⟩:=keep I7;exact⟨ds.length-(i+1)+1,#[1],i+1,f,M,J,h,W,dn,rest,ys,us,ep,rfl,#[1],nop I7,t8,XF,ex7,c7,g8,vs,ad7,#[1],l,eo⟩
  |true =>
   rw[dm rfl];simp only[n7] at l;obtain⟨⟨y,Sy⟩,ey,l⟩:=hD.mp l;obtain⟨⟨ry,S3⟩,ey2,l⟩:=en.mp l
   have ey':fe h W=ag (.ok y,Sy):=by
    unfold UL at ey;split at ey
    ·rename_i q;cases ey;exact q
    cases ey
   simp only[X4] at l;obtain⟨er,es⟩:=l;subst es er;have t:=se _ s7 f M (λw L => ∃ N,Ex J M N L/\Cf X' N h Sy f L/\At X'.K L N y w) I7 ⟨J,h,W,.ok y,Sy,c7,.nil,ey',λN L w x8 Q aw=>⟨N,x8,c7.re x8 Q,aw⟩⟩;rw[hx] at t;refine LR t λw Q H=>?_;obtain⟨vw,L,I8,rw8,N,x8,c8,aw⟩:=H;obtain⟨t8,XF,g8⟩:=keep I8;have ad8:Lx X'.K L N dn ys:=ad7.ex x8;have l1:=ad8.length;have l2:=vs.length;refine XO F.slot_list_append ⟨_,g8,rfl⟩ F.entry_list_append (F.args_list_append_2 _ _) (acW a us.toArray ep w (by rw[f3];omega)) ⟨g8,?_⟩;have YG:=adb g8 (·.push w);have Wg:=fin [] L a (gy ..) (XF a (gy ..)) (λp G=>by simp at G);have I9:Inv X' [] f L { Q with heap:=Q.heap.update a (SJ (·.push w)),toks:=Q.toks }:=(nop I8).turned (it:=a) (λb o hb e=>(UT Q.heap (SJ (·.push w)) (lC hb)).trans e) Wg.1 Wg.2.1 Wg.2.2.2.1 Wg.2.2.2.2.1 Wg.2.2.2.2.2;refine⟨ds.length-(i+1)+1,#[1],i+1,f,L,N,h,Sy,dn++[y],ry,ys++[vw],us++[w],_,rfl,#[1],I9,?_,XF,ex7.trans x8,c8,by simpa using YG,vs.append (.cons rw8 .nil),ad8.append (.cons aw .nil),by rw[da,UC];omega,ey2,by rw[eo];simp⟩;exact T.keep _ _ _ t8 λb hb o e=>(UT Q.heap (SJ (·.push w)) (λz:a=b=>na (by rw[z];exact hb))).trans e
 refine LR (T.done X' rfl rfl rfl hc i _ s j H' (λ_ _=>False) I1 (YE H' λb hb=>fr b (eJ _ hb)) tni (wk.stop B H' i ex #[0])) λr s1 H=>?_;obtain⟨er,J1⟩:=H;subst er;rw[UW #[0],cH] at l;cases l;rw[i3] at eo;subst eo;have l1:=ad.length;have pa:=J1.pin (a,{ cls:=#[13],data:=.seq us.toArray ep }) (mv _ #[3]);exact YD s1 j H' B E ys us ep (J1.NJ λp G=>ku G #[3]) ex cx pa.2.1 pa.1 vs ad #[0]
theorem mQ {W iter elt:hL}{ifs:ak hL}{scope:lE}{pos:UK}{u:D->Lr->a9 Lr}{gt:Lk fg}{fe:Lk D}{ts:ak eG}{ix:ak Nat}{cl:ak (eG×cn)}
  {g:Ln}{r:St}{l:cv}{E:Lm}{it:cn}{fp:ak cn}{tn:Nat->kx->Prop}{Jt:It}{j:Hp}{s:ak cn}{ρ:Lr}{S S2:Lq}{ds out:ak D}{V:ax->cn->ada->cv->Prop}
  (hc:X.calm=ba) (Sc:MF scope X.env) (h1:∀ x c,cl.lookup x=ag c->#[19]=ag c) (h2:∀ y∈scope.names,y.2 = .free->∃ c,cl.lookup y.1=ag c) (PH:∀ t∈ix,scope.names.lookup (X.N.getD t Xz)=ag .free)
  (RJ:∀ cl C f Z fp,SG (mP X scope cl (iV ts ix X.N) C f Z fp) W u/\Wc (mP X scope cl (iV ts ix X.N) C f Z fp) W0 ifs gt/\SE (mP X scope cl (iV ts ix X.N) C f Z fp) W0 elt fe)
  (I2:Inv X g r j l) (T:Turn X.prog X.w X.K W Jt fp it tn) (t0:tn 0 l.heap) (f2:∀ b∈fp,hG X g j b) (c2:Cf X s ρ S r j) (J:Walk X Jt ds s j)
  (ec:cH u gt fe ds (cg ts.length ix ρ) S=ag (out,S2))
  (hRR:∀ a C s',CompEnd X g r s j S2 out a C s'->V (.ref a) C (.ok .next) s') :
  ew #[8] X.A (newList []) (λI P=>ew #[8] X.A (abB scope X.env.globals cl [] X.env.qual ay .none (ag X.env)) (λWh H =>
   X2 #[8] X.A (.compStart (.ListComp elt [⟨W,iter,ifs,0⟩] scope pos) 0 (.ref it) I { Wh with scope:=relabel scope X.env }) (V I Wh.locals) H) E P) E l:=by
 refine oa (qv ?_);rw[0];generalize G:l.heap.objs.size=a at *
 have Q:∀ b o,l.heap.get? b=ag o->(l.heap.push { cls:=#[13],dict:=ay,data:=.seq ([]:ak ax).toArray }).get? b=ag o:=λb o e=>cc _ e;obtain⟨f,Y⟩:∃ f:cv,f={ l with heap:=l.heap.push { cls:=#[13],dict:=ay,data:=.seq ([]:ak ax).toArray } }:=⟨_,rfl⟩;have n:Inv X g r j f:=by rw[Y];exact I2.kept (t':=l.toks) Q
 have B:f.heap=l.heap.push { cls:=#[13],dict:=ay,data:=.seq ([]:ak ax).toArray }:=by rw[Y]
 have YI:f.heap.objs.size=a+1:=by rw[B,pd,G]
 rw[← B];have ic:=Ox.of (o:={ cls:=.type "dict",data:=.dict #[] }) n Sc h1 h2;have hn4:(ab3 (f.heap.push { cls:=.type "dict",data:=.dict #[] }) scope.names).Ns f.heap.objs.size (λ_=>ay):=(Heap.Ns.new f.heap (.type "dict")).keeps (pushCells_keeps _ _);have U:∀ b o,f.heap.get? b=ag o->(ab3 (f.heap.push { cls:=.type "dict",data:=.dict #[] }) scope.names).get? b=ag o:=λb o e=>pushCells_keeps _ _ b o (cc _ e);generalize hcl':A1 (f.heap.objs.size+1) scope.names cl=cl' at *
 generalize hh4:ab3 (f.heap.push { cls:=.type "dict",data:=.dict #[] }) scope.names=O at *
 have a3:f.heap.get? a=ag { cls:=#[13],data:=.seq ([]:ak ax).toArray }:=by rw[B,← G];exact e8 _ rfl
 have fa:hG X g j a:=I2.Of (by rw[G];exact hB _) (by rw[← G];exact I2.fresh);have Wi:∀ b∈fp,∃ o,l.heap.get? b=ag o:=λb hb=>let ⟨o,e,_⟩:=T.obj 0 _ t0 b hb;⟨o,e⟩;have na:a∉fp:=λhb=>by obtain⟨o,e⟩:=Wi a hb;have:=eM e;rw[G] at this;exact ku this (qb _)
 have M:∀ b∈a::fp,hG X g j b:=λb hb=>by
  rcases f5.mp hb with rfl |hb
  ·exact fa
  exact f2 b hb
 have fo:∀ b∈a::fp,∃ o,f.heap.get? b=ag o:=λb hb=>by
  rcases f5.mp hb with rfl |hb
  ·exact⟨_,a3⟩
  obtain⟨o,e⟩:=Wi b hb;exact⟨o,by rw[B];exact Q b o e⟩
 have toks:∀ t,Inv (mP X scope cl' (iV ts ix X.N) f.heap.objs.size f j (a::fp)) [] (cg ts.length ix r) j { f with heap:=O,toks:=t }:=λt=>n.enter Sc ic PH M fo U hn4;obtain⟨sg,st,se⟩:=RJ cl' f.heap.objs.size f j (a::fp)
 have fin:∀ (Nc:Ln) (H':Hp) (b:cn),b∈a::fp->H' b=ay->(∀ p∈Nc,p.1≠b)->hG (mP X scope cl' (iV ts ix X.N) f.heap.objs.size f j (a::fp)) Nc H' b:=λNc H' b hb hn hp=>by
  refine⟨hn,?_,λz=>?_,.inl hb,λx c e=>?_,λp hq=>hp p hq⟩
  ·obtain⟨o,e⟩:=fo b hb;exact nq (eM e)
  ·obtain⟨_,f1,f2',_⟩:=M b hb;rcases f5.mp (n.Px b z) with q |q
   ·exact f1 q
   exact f2' q
  rcases ic.out x c e with q |q
  ·exact(M b hb).2.2.2.2.1 x c q
  obtain⟨o,ho⟩:=fo b hb;intro z;exact qb _ (V3 q.1 (z▸eM ho))
 have own:X.s₀.heap.objs.size<=f.heap.objs.size/\f.heap.objs.size≠X.env.locals/\(∀ x c,#[19]=ag c->c≠f.heap.objs.size)/\∀ p∈X.pn++g,p.1≠f.heap.objs.size:=by obtain⟨_,g1,g2,g3,g4,g5⟩:=n.Of (H':=λ_=>ay) (hB f.heap.objs.size) rfl;exact⟨n.sz,g1,g4,g5⟩
 have c3:Cf (mP X scope cl' (iV ts ix X.N) f.heap.objs.size f j (a::fp)) s (cg ts.length ix ρ) S (cg ts.length ix r) j:=by
  refine⟨by unfold cg;simp,λi d h=>?_,c2.LZ⟩;unfold cg at h ⊢;by_cases hi:i<ts.length
  ·rw[h7 (by simpa using hi),Sv,dm hi] at h;cases h
  rw[hO (by simpa using hi),K2,hF] at h ⊢;cases et:ix[i-ts.length]? with
  |none=>rw[et] at h;cases h
  |some t =>
   rw[et] at h;simp only[VM,Qw] at h ⊢
   have hr : ρ[t]?=ag (ag d):=by
    cases q : ρ[t]? with
    |none=>rw[q] at h;cases h
    |some w=>rw[q] at h;simp only[ab4] at h;rw[h]
   obtain⟨v,e1,e2⟩:=c2.env t d hr;exact⟨v,by rw[e1];rfl,e2⟩
 have w3:Walk (mP X scope cl' (iV ts ix X.N) f.heap.objs.size f j (a::fp)) Jt ds s j:=⟨J.len,J.go,J.Qm,J.stop⟩
 have F:∀ t,X2 #[8] X.A (.compLoop (.ListComp elt [⟨W,iter,ifs,0⟩] scope pos) 0 (.ref it) (.ref a) (compEnvC scope cl' f.heap.objs.size X.env)) (V (.ref a) f.heap.objs.size) { f with heap:=O,toks:=t }:=by
  intro t;refine uc _ (Bu (R:=V (.ref a) f.heap.objs.size) (S2:=S2) (out:=out) (X':=mP X scope cl' (iV ts ix X.N) f.heap.objs.size f j (a::fp)) rfl hc sg st se T w3 na J.len fin ?_) (ds.length+1) ?_
  ·intro s' σ' H' Jx ρx ys us ep I' ex cx ha ga vs ad lz;refine hRR a f.heap.objs.size s' ⟨let ⟨m,hm,_⟩:=I'.loc;⟨m,hm⟩,own,λh' k=>?_⟩;have I4:=n.leave M I' k;have YG:h'.get? a=ag { cls:=#[13],data:=.seq us.toArray ep }:=by rw[k a (by rw[YI];exact nq (US _))];exact ga
   have fa':hG X g H' a:=⟨ha,fa.2⟩;have I5:=I4.adopt fa' YG vs lz;have hC:H' f.heap.objs.size=ay:=I'.free;refine⟨Jx,H',ys,I5,ex,cx.LZ,ad,ha,lz,?_⟩;rw[aG (by rw[YI];exact Yg (US _))];exact hC
  refine⟨0,_,j,s,cg ts.length ix ρ,S,[],out,[],[],0,rfl,Tp _,toks t,?_,λb hb=>(M b hb).1,Ex.refl,c3,U a _ a3,.nil,.nil,hB _,by simpa using ec,rfl⟩;exact T.keep 0 _ _ t0 λb hb o e=>U b o (by rw[B];exact Q b o e)
 have L:=F l.toks;have t4:tn 0 O:=T.keep 0 _ _ t0 λb hb o e=>U b o (by rw[B];exact Q b o e);rw[show ({ f with heap:=O,toks:=l.toks }:cv)={ l with heap:=O } by rw[Y]] at L;exact codeAny_compStart_list L (T.self _ 0 _ _ _ t4 L)
def HK (X:Cx)(scope:lE)(ts:ak eG)(ix:ak Nat)(c:hL)(ifs:ak hL)(elt:hL)(u:D->Lr->a9 Lr)(gt:Lk fg)(fe:Lk D):Prop:=
 ∀ (cl:ak (eG×cn)) (C:cn) (b:cv) (a:Hp) (fp:ak cn),SG (mP X scope cl (iV ts ix X.N) C b a fp) c u/\Wc (mP X scope cl (iV ts ix X.N) C b a fp) W0 ifs gt/\SE (mP X scope cl (iV ts ix X.N) C b a fp) W0 elt fe
theorem kL {scope:lE}{a:Ln}{b:St}{H:Hp}{s:cv}(I:Inv X a b H s)(Sc:MF scope X.env):∃ cl,closureFor scope X.env=y8 cl/\(∀ x c,cl.lookup x=ag c->#[19]=ag c)/\(∀ y∈scope.names,y.2 = .free->∃ c,cl.lookup y.1=ag c):=by obtain⟨cl,e,h,_,g⟩:=eY (env:=X.env) scope.names [] (λy f d=>I.ok.has y.1 (Sc.frees y f d)) #[3];refine⟨cl,?_,h,g⟩;unfold closureFor;exact(zc (λ(m:Sem (ak (eG×cn)))=>m >>= λr=>(y8 r:Sem (ak (eG×cn)))) e).trans rfl
theorem sf {i:Lk (ak D)}{u:D->Lr->a9 Lr}{gt:Lk fg}{fe:Lk D}{n:Nat}{ix:ak Nat}{g:St}{H:Hp}{Q:VK}(h:tE X W (c_ n ix i u gt fe) g H Q) :
  iW X W i g H λk f => ∃ d ρ a S2 ds out,Cf X d ρ a g f/\Walk X k ds d f/\cH u gt fe ds (cg n ix ρ) a=ag (out,S2)/\∀ b H' v,Ex d f b H'->LW X.K b S2 H'->At X.K H' b (.lst out) v->Q v H':=by
 obtain⟨J,ρ,S,r,A,c,_,e,z⟩:=h;unfold c_ at e;cases q:i ρ S with
 |none=>simp[q] at e
 |some o =>
  obtain⟨m,a⟩:=o;simp only[q] at e;cases m with
  |error x =>
   cases e;exact⟨J,ρ,S,.error x,_,c,q,z⟩
  |ok ds =>
   simp only[fY] at e;cases qc:cH u gt fe ds (cg n ix ρ) a with
   |none=>rw[qc] at e;cases e
   |some p =>
    obtain⟨out,S2⟩:=p;rw[qc] at e;cases e;exact⟨J,ρ,S,.ok ds,a,c,q,λd f k j s w=>⟨d,ρ,a,_,ds,out,c.re j s,w,qc,λb H' v y l t=>z b H' v (j.trans y) l t⟩⟩
theorem cb {d iter elt:hL}{ifs:ak hL}{scope:lE}{pos:UK}{g:Lk (ak D)}{u:D->Lr->a9 Lr}{gt:Lk fg}{fe:Lk D}{ts:ak eG}{ix:ak Nat}
  (hc:X.calm=ba) (Sc:MF scope X.env) (o:∀ t∈ix,scope.names.lookup (X.N.getD t Xz)=ag .free) (A:SI X W d iter g) (z:HK X scope ts ix d ifs elt u gt fe)
  (G:∀ x,Vi iter X.env x=y8 x:=by intro _;rfl):SE X W (.ListComp elt [⟨d,iter,ifs,0⟩] scope pos) (c_ ts.length ix g u gt fe):=by
 intro c s r H Q I h;obtain⟨cl,J,K,L⟩:=kL I Sc;rw[eval_ListComp];refine Wx (use:=ay) rfl G J Sc.kind Sc.names ?_;refine LR (A c s r H _ I (sf h)) λv Y l=>LR l λVQ R y=>?_;obtain⟨it,fp,tn,Jt,Z,e,M,T,q,w,V,ρ,U,S,ds,out,n,B,k,fin⟩:=y;subst e;refine mQ hc Sc K L o z M T q w n B k λa C f ce=>?_;obtain⟨m,p⟩:=ce.ns;refine⟨m,p,λE sb=>?_⟩;obtain⟨j,i,F,P,f,O,_⟩:=ce.We E λb hb=>sb.2 b hb;exact⟨.ref a,i,F,rfl,fin j i _ P f O⟩
end
section
variable {X:Cx}{W:WT}
theorem w_ {j iter elt:hL}{ifs:ak hL}{scope:lE}{pos l f:UK}{n:Lk (ak D)}{u:D->Lr->a9 Lr}{gt:Lk fg}{fe:Lk D}{ts:ak eG}{ix:ak Nat}{i:Nat}{y:eG}
  (hN:X.N.Nodup) (hc:X.calm=ba) (Sc:MF scope X.env) (PH:∀ t∈ix,scope.names.lookup (X.N.getD t Xz)=ag .free) (hi:SI X W j iter n) (L:HK X scope ts ix j ifs elt u gt fe)
  (hy:X.N[i]?=ag y:=by rfl) (U:Loc X.env.scope y:=by first |exact abx rfl |exact aap rfl) (YJ:Uy (.ListComp elt [⟨j,iter,ifs,0⟩] scope pos) (ag (.Name y f)) l.line X.env=y8 ba:=by rfl)
  (Y:X.fn y=ba∨X.env.scope.names.lookup y=ag .local:=by first |exact .inl rfl |exact .inr rfl |assumption)
  (P:∀ x,Vi iter X.env x=y8 x:=by intro _;rfl):SS X W (.Assign [.Name y f] (.ListComp elt [⟨j,iter,ifs,0⟩] scope pos) l) (bC i (c_ ts.length ix n u gt fe)):=by
 intro c s k H E I h;obtain⟨cl,RK,h1,h2⟩:=kL I Sc;have h:=tS.LD h;rw[abl _ _ _ _ YJ];refine av (aan (av ?_));show ew _ X.A (do let _ ← comprehension (.ListComp elt [⟨j,iter,ifs,0⟩] scope pos) scope X.env _ (newList []) b0 (sY iter X.env) (ag (WM (.Name y f) X.env))) _ _ s;refine av (yk (Wx (use:=ag (WM (.Name y f) X.env)) (Q:=λ_ d=>SP X c E .next d) rfl P RK Sc.kind Sc.names ?_) (λ_ d hq=>bo (bo hq)) λ_ _ e=>e);refine LR (hi c s k H _ I (sf h)) λv s1 QR=>LR QR λVQ s2 K=>?_;obtain⟨it,fp,tn,Jt,H2,e,I2,T,G,f2,J0,ρ,S1,S2,ds,out,F,wk,ec,fin⟩:=K;subst e;refine mQ hc Sc h1 h2 PH L I2 T G f2 F wk ec λa C d ce=>?_;obtain⟨m,hm⟩:=ce.ns;obtain⟨o1,o2,p,J⟩:=ce.own;obtain⟨w,g,I',x',LA,m',hC⟩:=ce.We d.heap λ_ _=>rfl;have YK:Inv X c k g d:=I';have q:=fin w g _ x' LA m';show ew _ X.A (WM (.Name y f) X.env (.ref a)) _ _ d;refine Z_ (mn YK hN hy U (v:=.ref a) rfl (λr M Zq=>?_) Y);obtain⟨ad,sb,hd⟩:=Zq
 have YL:C≠ad:=by
  rcases hd with z |z
  ·rw[z];exact o2
  exact(p y ad z).symm
 refine⟨m,hm.sameBut sb YL,λO YM=>?_⟩;have Z:Inv X c (k.set i (ag (.ref a))) g { r with heap:=O }:=M.turned (t':=r.toks) (it:=C) (λb o hb e=>(YM.2 b hb).trans e) hC o2 (.inr o1) p J;obtain⟨B,R,Sq,dq,rq,Sq',cq,V,eq,S⟩:=q;cases eq;exact⟨_,g,Z,S B _ g Ex.refl (cq.set V)⟩
noncomputable def XG (K:Ll)(F:Lp):Sp:=λf H Q _ => ∃ J S c d e,Lx K H J c f/\LW K J S H/\F c S=ag (.ok d,e)/\∀ b a v,Ex J H b a->LW K b e a->At K a b d v->Q v a
def Sz (P:fh)(w:il)(K:Ll)(mg:Lo)(base:kx)(k:Nat)(f:cn)(fd:L4)(a:ak eG)(F:Lp):Prop:=
 Nv P w K mg base RE k f fd a (XG K F)
noncomputable def j8 (m:Out D):Out D:=match m with
 |ag (.ok d,S)=>ag (.ok d,S)
 |_=>ay
noncomputable def aQ (F:Lp)(t:Lk (ak D)):Lk D:=λa S=>ai (t a S) λb c=>j8 (F b c)
variable {x:eG}{p pos:UK}{e:hL}{es:ak hL}{gs:Lk (ak D)}
theorem Dz {F:Lp}{b:St}{H:Hp}{Q:VK}{a:XK}(h:tE X W (aQ F gs) b H Q):FP (XG X.K F) [] a (tA X W gs) b H Q:=
 (tG.OI h).mono λx u k=>by
  obtain⟨f,s,g⟩:=k
  rw[i3,i3] at g;obtain⟨J,w,S,r,o,c,m,e,z⟩:=g;have e:j8 (F f S)=ag (r,o):=e;unfold j8 at e;rw[1]
  ·rename_i d t q;cases e;exact⟨J,S,f,d,_,by rw[i3];exact m,c.LZ,q,λi l v p j n=>z i l v p j n⟩
  cases e
theorem Er {k:Nat}{f:cn}{fd:L4}{a:ak eG}{F:Lp}(G:Sz X.prog X.w X.K X.mg X.base k f fd a F)(hr:L0 k X.A)(b:X.mg x=ag (.ref f))(d:Qj X.K (.ref f)=ba)(hb:Binds X.K fd a [])
  (i:SA X W (e::es) gs) (c:Gl X x:=by rfl) (j:(x==("__debug__":eG))=b0:=by decide) (g:eK (e::es) X.env=(b0,sY e X.env)::eK es X.env:=by rfl) (l:(tw pos (eK es X.env)).any (·.1)=b0:=by rfl) :
  SE X W (.Call (.Name x p) (e::es) [] pos) (aQ F gs):=
 PE.imp (EO (E:=E0) G hr c b d hb .nil CG i j g l) λm H Q h=>Dz h
end
section
variable {X:Cx}{W:WT}
noncomputable def XH (x:eG):It:=⟨λi _=>i<x.cps.size,λi H v a=>a=H/\∃ c,x.cps[i]?=ag c/\v = .str ⟨#[c]⟩,λi _=>x.cps.size<=i⟩
theorem uK {P:fh}{w:il}{K:Ll}{T:hL}{it:cn}{x:eG}{St:Nat->kx->Prop}
  (M:∀ (A:jl) (i:Nat) (s:cv) (Q:Lm) (E:Lm),St i s.heap->Q (.ref it) s->ew (e9 P w) A (acv (.ref it)) Q E s) (r:∀ G:jl,G.handled=ay->Walks P w G it [it] [it] x.cps.size (SignAt x) St) (D:∀ i h,St i h->∃ o n vs,h.get? it=ag o/\o.cls = .type n/\o.data = .fields vs/\["enumerate","zip","dict_itemiterator","dict_reverseitemiterator","odict_iterator","itertools.zip_longest","itertools.pairwise"].contains n=b0) :
  Turn P w K T (XH x) [it] it (λi h=>i<=x.cps.size/\St i h) where
 mem:=by simp
 obj:=λi h st b hb=>by
  have e:b=it:=#[16]
  subst e;obtain⟨o,n,vs,e,_,d,_⟩:=D i h st.2;exact⟨o,e,λv z=>by rw[d] at z;cases z⟩
 keep:=λi h f st k=>⟨st.1,(r aae rfl).frame i h f st.2 λb hb o e=>k b hb o e⟩
 item:=by
  intro X p t C hc i a s F H E I j st g;subst p t C;obtain⟨y,l,R,B,q,m⟩:=j it #[3];refine(r X.A (I.ok.hd hc)).item i s _ _ g st.2 λv f tk S J k=>?_;obtain⟨c,u,L,ev⟩:=S;subst ev;have V:Inv X a F H { s with heap:=f,toks:=tk }:=I.turned (t':=tk) (λb o hb e=>k b o (#[16]) e) y l B q m;obtain⟨o,n,vs,e,O,d,U⟩:=D _ _ J;exact⟨_,rfl,vM (s:={ s with heap:=f,toks:=tk }) e O d U ⟨.str ⟨#[c]⟩,H,V,⟨u,rfl⟩,⟨rfl,c,L,rfl⟩,⟨g,J⟩,λb hb=>(j b hb).1⟩⟩
 done:=by
  intro X p t C hc i a s F H E I j st g;subst p t C;obtain⟨y,l,R,B,q,m⟩:=j it #[3];have N:i=x.cps.size:=Nat.le_antisymm st.1 g;subst N;exact(r X.A (I.ok.hd hc)).done s _ _ st.2 λf tk k=>⟨rfl,I.turned (t':=tk) (λb o hb e=>k b o (#[16]) e) y l B q m⟩
 self:=λA i s Q E st h=>M A i s Q E st.2 h
theorem Walk.str {x:eG}{J:ak cn}{H:Hp}(ok:Tf x):Walk X (XH x) (x.cps.toList.map λc=>D.str ⟨#[c]⟩) J H where
 len:=by rw[d7,ky];exact ok.1
 go:=λd b i _ a=>by rw[d7,ky] at a;exact a
 Qm:=λd b i v j _ h a y=>by
  obtain⟨rfl,c,f,rfl⟩:=y;rw[d7,ky] at a;have e:x.cps.toList[i]?=ag c:=by simpa using f
  refine⟨.str ⟨#[c]⟩,by rw[hF,e];rfl,At.LL.mpr ⟨rfl,by show 1<=d4;decide,oT (l:=[c]) λg m=>?_⟩,LH.refl _⟩;rw[hM.mp m];exact mj ok.2 (y3 e)
 stop:=λd b i _ a=>by rw[d7,ky] at a;exact a
noncomputable def Gj:D->a9 (ak D)
 | .str x=>ag (x.cps.toList.map λc=>D.str ⟨#[c]⟩)
 |_=>ay
noncomputable def DG (f:Lk D):Lk (ak D):=λa S=>ai (f a S) λd b=>aL (Gj d) b
variable {e:hL}{fe:Lk D}{pos:UK}
theorem Gm {w:hL}(B:SE X W e fe):SI X W w e (DG fe):=by
 intro c s p H R I h;refine LR (B c s p H _ I (tU h)) λv a n=>?_;obtain⟨y,f,g,u,J,S,d,D,so,m,l,z⟩:=n;cases d with
 |str x =>
  cases l;obtain⟨C,ok⟩:=At.LL.mp m;subst C;obtain⟨t,rfl⟩:=u
  have fp:∀ b∈[a.heap.objs.size],hG X c f b:=λb hb=>by
   have e:b=a.heap.objs.size:=#[16]
   subst e;exact g.Of (hB _) g.fresh
  cases ha:x.cps.all (·<128)
  ·refine wpAny_pyIter_wide ha ?_;refine⟨a.heap.objs.size,[a.heap.objs.size],_,XH x,f,rfl,g.kept (t':=a.toks) λb o e=>cc _ e,uK (St:=λi h=>h.IsStrIter a.heap.objs.size "str_iterator" x t i) (λA i s Q E st q=>wpAny_pyIter_striter_wide st q) (λr j=>Walks.strWide j _ x t) (λi h st=>?_),⟨Tp _,_,e8 _ rfl,rfl,rfl⟩,fp,z f _ (LH.refl _) (Walk.str ok)⟩;obtain⟨o,k,hc,hd⟩:=st;exact⟨o,_,_,k,hc,hd,#[6]⟩
  refine wpAny_pyIter_ascii ha ?_;refine⟨a.heap.objs.size,[a.heap.objs.size],_,XH x,f,rfl,g.kept (t':=a.toks) λb o e=>cc _ e,uK (St:=λi h=>h.IsStrIter a.heap.objs.size "str_ascii_iterator" x t i) (λA i s Q E st q=>wpAny_pyIter_striter_ascii st q) (λr j=>Walks.strAscii j _ x t) (λi h st=>?_),⟨Tp _,_,e8 _ rfl,rfl,rfl⟩,fp,z f _ (LH.refl _) (Walk.str ok)⟩;obtain⟨o,k,hc,hd⟩:=st;exact⟨o,_,_,k,hc,hd,#[6]⟩
 |_=>cases l
theorem lF {prog:fh}{w:il}{A:jl}{E:Lm}{s:cv}{it l:cn}{i:Nat}{items}{x:ax}{Q:Lm}(a:s.heap.IsTupleIter it l i)
  (e:s.heap.IsTuple l items) (f:items[i]?=ag x)
  (d:∀ h',h'.IsTupleIter it l (i+1)->UP it s.heap h'->Q x { s with heap:=h' }) :
  ew #[4] A (rp (.ref it)) Q E s:=by
 obtain⟨o,b,hc,hd⟩:=id a;obtain⟨j,g,_,h,c⟩:=e;unfold rp
 refine av (wx (name:=V_ "__next__") a.typeIs F.slot_tuple_iterator_next
  (mm F.slot_tuple_iterator_next a.typeIs F.entry_tuple_iterator_next ?_ (F.args_tuple_iterator_next_1 _)))
 show ew _ _ (adu (.ref it) 0 >>= _) _ _ s;refine av (y0 b hd (x:=.ref l) rfl ?_);show ew _ _ (if (ma l==R6)=ba then _ else _) _ _ s;rw[dV (show ¬ ((ma l==R6)=ba) from Sa)];show ew _ _ (adu (.ref it) 1 >>= _) _ _ s;refine av (y0 b hd (x:=.int i 0) rfl ?_);show ew _ _ (seqItems? (.ref l) >>= _) _ _ s;refine av (P0 g c ?_);simp only[TY,f];refine av (wpAny_setField b hd #[3] (bo ⟨x,rfl,bo (d _ ?_ (Wo ..))⟩))
 exact⟨_,Tx _ b (Xo (SN hd _)),(aag ..).trans hc,by
  rw[SN hd];simp[aaN]⟩
theorem gT {prog:fh}{w:il}{A:jl}{E:Lm}{s:cv}{it l:cn}{i:Nat}{items}{Q:Lm}(d:A.handled=ay)
  (b:s.heap.IsTupleIter it l i) (g:s.heap.IsTuple l items) (h:items[i]?=ay)
  (k:∀ h' e,adv it s.heap h'->(∃ o,h'.get? e=ag o/\o.cls = .type "StopIteration")->E (.ref e) { s with heap:=h' }) :
  ew #[4] A (rp (.ref it)) Q E s:=by
 obtain⟨o,c,hc,hd⟩:=id b;obtain⟨p,j,_,n,f⟩:=g;unfold rp
 refine av (wx (name:=V_ "__next__") b.typeIs F.slot_tuple_iterator_next
  (mm F.slot_tuple_iterator_next b.typeIs F.entry_tuple_iterator_next ?_ (F.args_tuple_iterator_next_1 _)))
 show ew _ _ (adu (.ref it) 0 >>= _) _ _ s;refine av (y0 c hd (x:=.ref l) rfl ?_);show ew _ _ (if (ma l==R6)=ba then _ else _) _ _ s;rw[dV (show ¬ ((ma l==R6)=ba) from Sa)];show ew _ _ (adu (.ref it) 1 >>= _) _ _ s;refine av (y0 c hd (x:=.int i 0) rfl ?_);show ew _ _ (seqItems? (.ref l) >>= _) _ _ s;refine av (P0 j f ?_);simp only[TY,h];refine av (OL (av (wpAny_setField c hd #[3] ?_)));show ew _ _ (newExc (.type "StopIteration") [] >>= _) _ _ _;refine av ?_;simp only[newExc,newTuple];refine av (oa ?_ (by size_fits));refine av (m:=ZL _ _) (adw (a:=R6) (by first |rfl |(simp only[ZL];rfl)) ?_);refine oa ?_ (by size_fits);simp only[raiseNew];refine av (wpAny_handled ?_)
 first |rw[show A.in1.handled=ay from d] |rw[d]
 refine av (bo (wpAny_throw ?_));exact k _ _ (((Wo ..).extBut.push _).push _) ⟨_,e8 _ rfl,rfl⟩
theorem Draws.tup {prog:fh}{w:il}{A:jl}(k:A.handled=ay)(it l:cn)(f:l≠it)(items:ib ax) :
  Draws prog w A it [it,l] items.size (λi v=>items[i]?=ag v) (λi h=>h.IsTupleIter it l i/\h.IsTuple l items) where
 live:=λ_ _ st=>let ⟨o,a,_⟩:=st.1;⟨o,a⟩
 frame:=λ_ _ _ st c=>⟨let ⟨o,a,r⟩:=st.1;⟨o,c it #[3] o a,r⟩,let ⟨o,a,r⟩:=st.2;⟨o,c l #[3] o a,r⟩⟩
 item:=λi s Q E d st e=>by
  refine lF st.1 st.2 (x:=items[i]) (by simp[d]) λj g b=>?_;exact e _ j s.toks (by simp[d]) ⟨g,st.2.extBut b.extBut f⟩ b
 done:=λs Q E st m=>gT k st.1 st.2 #[3] m
theorem pE (l:cn)(items:ib ax)(n:Nat)(e:a9 cn)(sl:ib (a9 ax)) :
  Meets (Builtin.«enumerate.__new__» ⟨[.type "enumerate",.ref l],[]⟩) (λ_ R s=>s.heap.get? l=ag { cls:=.type "tuple",dict:=e,data:=.seq items n,slots:=sl } /\
   R (.ok (.ret (.ref (s.heap.push { cls:=.type "tuple_iterator",data:=.fields #[.ref l,.int 0 0] }).objs.size)))
    { s with heap:=(s.heap.push { cls:=.type "tuple_iterator",data:=.fields #[.ref l,.int 0 0] }).push { cls:=.type "enumerate",data:=.fields #[.none,.bool b0,#[15],aaN 0,.none,.none] } }):=
 .of_wp λprog w A R s h=>by
  obtain⟨f,g,d,tk,os⟩:=s;obtain⟨a,h⟩:=h;have i:=sub_enumerate;have b:Heap.IsTuple (adx ⟨f,g,d,tk,os⟩) l items:=⟨_,a,rfl,n,rfl⟩
  wp_walk using s8 a
  refine wpAny_stack_any λst=>bo ?_;split
  ·rename_i c _ _ _ _ _;cases (c==xb "enumerate")
   ·wp_walk using s8 a,UQ b
    exact⟨_,rfl,h⟩
   wp_walk using s8 a,UQ b
   exact⟨_,rfl,h⟩
  wp_walk using s8 a,UQ b
  exact⟨_,rfl,h⟩
theorem qB {prog:fh}{w:il}{A:jl}{E:Lm}{s:cv}{l:cn}{items:ib ax}{Q:Lm}(g:aci s.heap l items)
  (h:∀ h',IsEnum h' (#[14]) s.heap.objs.size 0 .none->h'.IsTupleIter s.heap.objs.size l 0->h'.objs.size=s.heap.objs.size+2 ->
   (∀ b o,#[18]=ag o->h'.get? b=ag o)->Q (.ref (#[14])) { s with heap:=h' }) :
  ew #[4] A (call (.type "enumerate") [.ref l]) Q E s:=by
 obtain⟨⟨c,f,dt,sl⟩,e,hc,n,hd⟩:=g
 replace hc:c = .type "tuple":=hc
 replace hd:dt = .seq items n:=hd
 subst hc hd
 refine callType_new F.called_enumerate #[2] (F.typeCall_enumerate_1 _) (F.newCall_enumerate_1 _) (λobj=>F.args_object_init_2 obj _) F.entry_enumerate_new
  (pE l items n f sl) ⟨e,?_⟩
 have a:(s.heap.push { cls:=.type "tuple_iterator",data:=.fields #[.ref l,.int 0 0] }).objs.size=#[14]:=pd ..;show _/\_;rw[a]
 have d:IsEnum ((s.heap.push { cls:=.type "tuple_iterator",data:=.fields #[.ref l,.int 0 0] }).push
   { cls:=.type "enumerate",data:=.fields #[.none,.bool b0,#[15],aaN 0,.none,.none] }) (#[14]) s.heap.objs.size 0 .none:=by
  have:=e8 (s.heap.push { cls:=.type "tuple_iterator",data:=.fields #[.ref l,.int 0 0] })
   (o:={ cls:=.type "enumerate",data:=.fields #[.none,.bool b0,#[15],aaN 0,.none,.none] }) rfl
  rw[a] at this;exact this
 refine⟨⟨_,d,rfl⟩,h _ d ⟨_,cc _ (e8 _ rfl),rfl,rfl⟩ (by rw[pd,a]) λb o x=>cc _ (cc _ x)⟩
theorem jU {prog:fh}{w:il}{A:jl}{E:Lm}{s:cv}{e it l:cn}{i:Nat}{items:ib ax}{old:ax}{Q:a9 ax->cv->Prop}(n:A.handled=ay)
  (f:IsEnum s.heap e it i old) (c:s.heap.IsTupleIter it l i) (h:s.heap.IsTuple l items) (k:items[i]?=ay)
  (g:∀ h',adv it s.heap h'->Q ay { s with heap:=h' }):ew #[4] A (aaM (.ref e)) Q E s:=by
 have d:s.TypeIs (.ref e) "enumerate":=⟨_,f,rfl⟩;unfold aaM
 refine av (X5 (wx (name:=V_ "__next__") d F.slot_enumerate_next
  (mm F.slot_enumerate_next d F.entry_enumerate_next ?_ (F.args_enumerate_next_1 _))))
 show ew _ _ (adu (.ref e) 2 >>= _) _ _ _;refine av (y0 f rfl (x:=.ref it) rfl ?_);refine av (gT n c h k λh' x a m=>?_);obtain⟨o,j,hc⟩:=m;refine av (V0 (T:="StopIteration") (b:=ba) ⟨o,j,hc⟩ isSubtype_stop ?_);exact bo (g _ a)
noncomputable def YQ (K:Ll)(a:cn):It:=
 ⟨λi H => ∃ b x,O2 K H a b/\b[i]?=ag x,λi H x c => ∃ p y,H p=ay/\x = .ref p/\c=upd H p (.tup [.int i,y])/\∀ b,O2 K H a b->b[i]?=ag y,λi H => ∃ b,O2 K H a b/\b.length<=i⟩
theorem Ao {P:fh}{w:il}{K:Ll}{es:ak hL}{k:Nat}{pt:UK}(a e it:cn)(U:e≠it)(YR:a≠e)(YS:a≠it):Turn P w K (.Tuple es k pt) (YQ K a) [e,it] e (λi h=>(∃ old,IsEnum h e it i old)/\h.IsTupleIter it a i) where
 mem:=by simp
 obj:=λi h st b hb=>by
  obtain⟨⟨old,d⟩,o,l,hc,hd⟩:=st;rcases f5.mp hb with rfl |hb
  ·exact⟨_,d,λv z=>by cases z⟩
  have:b=it:=#[16]
  subst this;exact⟨o,l,λv z=>by rw[hd] at z;cases z⟩
 keep:=λi h h' st kp=>by
  obtain⟨⟨old,d⟩,o,l,r⟩:=st;exact⟨⟨old,kp e #[3] _ d⟩,o,kp it #[3] o l,r⟩
 item:=by
  intro X n M V hc i j s σ H E I C st T;subst n M V;obtain⟨D,x,F,O⟩:=T;obtain⟨its,N,p,hz⟩:=I.tuple F;obtain⟨u,hu,ru⟩:=N.get O;obtain⟨⟨old,d⟩,f⟩:=st;have M0:i<its.toArray.size:=by rw[f3];exact(b5.mp hu).1
  refine aaG (Draws.tup (A:=X.A.in1) (I.ok.hd hc) it a YS its.toArray) d ⟨f,p⟩ M0 U (by simp[U,lC YR]) λy h' tk n l Vn hT hsz hk=>?_
  have ey:y=u:=by
   have:its.toArray[i]?=ag u:=by simpa using hu
   rw[this] at n;exact(ja n).symm
  subst ey;refine⟨_,rfl,ZM (s:={ s with heap:=h',toks:=tk+1 }) l λG Vo L=>?_⟩;have hn:H s.heap.objs.size=ay:=I.fresh;obtain⟨R,Z,fe2,YT,YU,YV⟩:=C e #[3];obtain⟨t,B,YW,W,S,J⟩:=C it #[3];have kp:∀ b o,b≠e->b≠it->#[18]=ag o->G.get? b=ag o:=λb o Y QS g=>(L.2 b Y).trans (hk b o Y QS g);have Wn:s.heap.objs.size≠e:=Yg (eM d);have Rb:G.get? s.heap.objs.size=ag { cls:=.type "tuple",data:=.seq #[.int i tk,y] }:=(L.2 _ Wn).trans hT;have ne:∀ b o,H b=ag o->b≠s.heap.objs.size:=λb o q=>aM q hn
  have I1:Inv X j σ (upd H s.heap.objs.size (.tup [.int i,x])) { s with heap:=G,toks:=tk+1 }:=by
   refine I.step (h':=G) (g':=s.gens) (d':=s.drawn) (t':=tk+1) (ch:=[e,it]) (λb hb=>?_) (λb o _ _ hb g _=>kp b o (λz=>hb (by simp[z])) (λz=>hb (by simp[z])) g) (λb o _ _ hb g _=>⟨o.slots,kp b o (λz=>hb (by simp[z])) (λz=>hb (by simp[z])) g⟩)
    (λb o hb g n'=>by rw[aG (nq (eM g))];exact n') (λb o hb g=>⟨o,kp b o (λz=>hb (by simp[z])) (λz=>hb (by simp[z])) g⟩)
    (λb D q=>by rw[aG (ne b _ q)];exact q) (λb o D q=>by rw[aG (ne b _ q)];exact q) (λb ps q=>⟨#[],by rw[aG (ne b _ q),q];simp⟩)
    (λm hm=>?_) (λb o q=>?_) I.bare
   ·rcases f5.mp hb with rfl |hb
    ·exact⟨YT,Z,YU,YV⟩
    have:b=it:=#[16]
    subst this;exact⟨W,B,S,J⟩
   ·obtain⟨o,es,ep,l,r⟩:=hm;exact⟨o,es,ep,kp _ o (lC Z) (lC B) l,r⟩
   by_cases hb:b=s.heap.objs.size
   ·subst hb;rw[LC] at q;cases q;exact⟨by show 2<=d4;decide,[.int i tk,y],.cons ⟨tk,rfl⟩ (.cons ru .nil),_,Rb⟩
   rw[aG hb] at q;refine(I.LX b o q).OA (λc v O6 z=>kp c v ?_ ?_ z) (λc z=>by rw[aG (ne c _ z)];exact z) λc D z=>by rw[aG (ne c _ z)];exact z
   ·rcases O6 with z' |z'
    ·rw[z'];exact aM q R
    exact aM z' R
   rcases O6 with z' |z'
   ·rw[z'];exact aM q t
   exact aM z' t
  refine⟨#[15],_,I1,rfl,⟨_,x,hn,rfl,rfl,λys hy=>by rw[I.NV hy F];exact O⟩,⟨⟨y,Vo⟩,Vn.1.extBut L.extBut (lC U)⟩,λb hb=>?_⟩;rcases f5.mp hb with rfl |hb
  ·rw[aG (lC Wn)];exact R
  have:b=it:=#[16]
  subst this;obtain⟨o,Qh,_⟩:=f;rw[aG (nq (eM Qh))];exact t
 done:=by
  intro X n M V hc i j s σ H E I C st T;subst n M V;obtain⟨D,F,O⟩:=T;obtain⟨its,N,p,hz⟩:=I.tuple F;obtain⟨⟨old,d⟩,f⟩:=st;obtain⟨t,B,YW,W,S,J⟩:=C it #[3];have hl:=N.length;exact jU (I.ok.hd hc) d f p (by simp;omega) λh' eb=>⟨rfl,I.turned (t':=s.toks) (λb o hb e=>eb b o hb e) t B W S J⟩
 self:=by
  intro A i s Q E st h;obtain⟨⟨old,d⟩,_⟩:=st;exact Xi d h
noncomputable def bi (i:Nat):ak D->ak D
 |[]=>[]
 |d::ds => .tup [.int i,d]::bi (i+1) ds
theorem bJ:∀ (ds:ak D) (i:Nat),(bi i ds).length=ds.length
 |[],_=>rfl
 |d::ds,i=>by rw[bi,j2,j2,bJ ds]
theorem cZ:∀ (ds:ak D) (i j:Nat),(bi i ds)[j]?=(ds[j]?).map λd=>D.tup [.int (i+j:Nat),d]
 |[],_,_=>by simp[bi]
 |d::ds,i,0=>by simp[bi]
 |d::ds,i,j+1=>by
  rw[bi,vr,cZ ds (i+1) j,vr,show i+1+j=i+(j+1) by omega]
theorem Walk.enum {a:cn}{ds:ak D}{xs:ak V}{J:ak cn}{H:Hp}(t:TQ X.K H J a xs)(m:Lx X.K H J ds xs):Walk X (YQ X.K a) (bi 0 ds) J H where
 len:=by rw[bJ,m.length];exact t.len
 go:=λf c i x b=>by
  rw[bJ] at b;have m1:=m.ex x;obtain⟨v,h,_⟩:=m1.get (bc b);exact⟨xs,v,(t.ex x).sq,h⟩
 Qm:=λf c i v l x j b y=>by
  obtain⟨p,y,g,rfl,rfl,k⟩:=y;obtain⟨d,e,a⟩:=(m.ex x).get' (k xs (t.ex x).sq);refine⟨.tup [.int i,d],by rw[cZ,e];simp,At.Ng (.cons (#[17]) (.cons a .nil)) g j (by show 2<=d4;decide),aO g _⟩
 stop:=λf c i x b=>by
  rw[bJ] at b;exact⟨xs,(t.ex x).sq,by rw[← m.length];exact b⟩
noncomputable def ki:ak D->a9 (ak D)
 |[.tup xs]=>ag (bi 0 xs)
 |_=>ay
theorem on {es:ak hL}{k:Nat}{pt p:UK}{a:hL}{t:Lk (ak D)}{x:eG}(B:x="enumerate")(y:X.mg x=ay)(F:SA X W [a] t)(A:Gl X x:=by rfl)
  (E:eK (a::[]) X.env=(b0,sY a X.env)::eK [] X.env:=by rfl) (M:(tw pos (eK [] X.env)).any (·.1)=b0:=by rfl):SI X W (.Tuple es k pt) (.Call (.Name x p) [a] [] pos) (f_ ki t):=by
 subst B;intro c s j H R I h;refine OO (kD I A y boot_enumerate ?_ #[2] #[2]);refine callWith_type1 (LR (F pos c s j H _ I (jb h)) λV d w=>?_) E M;obtain⟨Q,g,e,C,J,S,U,Y,so,m,f,z⟩:=w;unfold ki at f;split at f
 ·rename_i T;cases f;obtain⟨v,r,rfl,a1,n⟩:=Lx.Lv.mp m;cases Lx.Ly.mp n;obtain⟨ad,P,rfl,i,L⟩:=At.LF.mp a1;obtain⟨u,rfl,q⟩:=vals1 C;cases q;obtain⟨its,Z,pl,O⟩:=e.tuple i.sq;have l:ad<d.heap.objs.size:=pl.lt;refine qB pl λG o it sz kp=>?_;have N:Inv X c j g { d with heap:=G }:=e.kept (t':=d.toks) kp;refine Xi o ?_;refine⟨d.heap.objs.size+1,[d.heap.objs.size+1,d.heap.objs.size],_,YQ X.K ad,g,rfl,N,Ao ad _ _ (Yg (US _)) (nq (U8 l)) (nq l),⟨⟨_,o⟩,it⟩,λb hb=>?_,z g _ (LH.refl _) (Walk.enum i L)⟩;rcases f5.mp hb with rfl |hb
  ·exact e.Of (aac _) (e.LX.fresh (aac _))
  have:b=d.heap.objs.size:=#[16]
  subst this;exact e.Of (hB _) e.fresh
 cases f
end
section
variable {X:Cx}{W:WT}
theorem Ei {prog:fh}{w:il}{A:jl}{E:Lm}{s:cv}{i:PyProof.Rows.KeyKind}(r : i.OneLt){x:ax}{Q:Lm}
  (h:ew #[4] A.in1 (collect x) (λvs d=>PyProof.Rows.KeysOf i (Xk vs)/\(∀ a c rest,vs=a::c::rest->adY (a::c::rest).toArray=y8 oneType')/\vs.length<64 /\
   ∀ (f:m7) h' ep,(ee f).Perm (Xk vs)->SortedToK i (ee f) (Xk vs).size->(∀ b o,d.heap.get? b=ag o->h'.get? b=ag o)->h'.get? d.heap.objs.size=ag (VN "list" ((ee f).map (·.2)) ep) ->
    Q (.ref d.heap.objs.size) { d with heap:=h' }) E s):ew #[4] A (call (.builtin "sorted") [x]) Q E s:=by
 refine Wj ady acX acY (acZ _) ?_;unfold Builtin.«sorted»;refine av (m:=adZ "sorted" 1 1 _) (bo ?_);refine av (LR h λvs d p=>?_);obtain⟨l,j,n,q⟩:=p;refine av (aar ?_);have g:(d.heap.push (VN "list" vs.toArray 0)).get? d.heap.objs.size=ag (VN "list" vs.toArray 0):=e8 _ rfl;refine av (A2 (mm abC ⟨_,g,rfl⟩ abd (list_sort_treeK r g l j n λf a1 a2=>⟨_,rfl,?_⟩) (abD _)));obtain⟨ep,k⟩:=acp (out:=(ee f).map (·.2)) g
 exact bo ⟨_,rfl,q f _ ep a1 a2 (λb o e=>by
  rw[abE (nq (eM e)) (by rw[ad0];exact U8 (eM e))]
  exact cc _ e) k⟩
end
noncomputable def Oi (a b:eG):fg:=!NT b a
theorem MG {a b:eG}:Oi a b=ba↔a.cps.toList<=b.cps.toList:=by unfold Oi NT;rw[aah,aaH,not_lt]
theorem jI (a b c:eG)(h:Oi a b=ba)(g:Oi b c=ba):Oi a c=ba:=MG.mpr (List.le_trans (MG.mp h) (MG.mp g))
theorem rF (a b:eG):(Oi a b ||Oi b a)=ba:=by rw[Zw,MG,MG];exact List.le_total _ _
theorem Ed {a b:eG}(h:a.cps.toList=b.cps.toList):a=b:=by cases a;cases b;congr;exact aa2.mp h
theorem vD {a b:eG}(h:Oi a b=ba)(g:Oi b a=ba):a=b:=Ed (adh (MG.mp h) (MG.mp g))
noncomputable def j3 (l:ak eG):ak eG:=l.mergeSort Oi
theorem k6 {l c:ak eG}(e:c.Perm l)(d:c.Pairwise λa b=>Oi a b=ba):c=j3 l:=
 Pf (le:=λa b=>Oi a b=ba) (λa b _ _ h g=>vD h g) d (SX jI rF l) (e.trans (S8 l Oi).symm)
theorem pairwise_of_rising:∀ (p:eG) (l:ak eG),risingS p l=ba->(p::l).Pairwise λa b=>Oi a b=ba
 |p,[],_=>by simp
 |p,x::r,h=>by
  have c:(!ltCps x.cps.toList p.cps.toList&&risingS x r)=ba:=h;rw[mc] at c;have d:Oi p x=ba:=by unfold Oi NT;rw[← ltCps_eq];exact c.1
  have t:=pairwise_of_rising x r c.2;refine rk.mpr ⟨λy hy=>?_,t⟩;rcases f5.mp hy with rfl |hy
  ·exact d
  exact jI _ _ _ d ((rk.mp t).1 y hy)
theorem jV {l:ak eG}(h:sortedS l=ba):l.Pairwise λa b=>Oi a b=ba:=by
 cases l with
 |nil=>exact .nil
 |cons x r=>exact pairwise_of_rising x r h
noncomputable def XJ (a b:Int):fg:=dv (a<=b)
noncomputable def sortI (l:ak Int):ak Int:=l.mergeSort XJ
theorem s9 {l d:ak Int}(f:d.Perm l)(e:d.Pairwise (·<=·)):d=sortI l:=by
 refine Pf (le:=λa b=>XJ a b=ba) (λa b _ _ h g=>?_) (e.imp λh=>ia h) (SX (λa b c h g=>?_) (λa b=>?_) l) (f.trans (S8 l XJ).symm)
 ·exact adE (ll h) (ll g)
 ·exact ia (ac0 (ll h) (ll g))
 unfold XJ;rw[Zw,sX,sX];exact Int.le_total a b
noncomputable def fJ:ak D->a9 (ak eG)
 |[]=>ag []
 | .str x::r=>(fJ r).map (x::·)
 |_=>ay
noncomputable def bP:ak D->a9 (ak Int)
 |[]=>ag []
 | .int x::r=>(bP r).map (x::·)
 |_=>ay
theorem jA:∀ ss:ak eG,fJ (ss.map .str)=ag ss
 |[]=>rfl
 |x::r=>by rw[hH,fJ,jA r];rfl
theorem Me:∀ ss:ak Int,bP (ss.map .int)=ag ss
 |[]=>rfl
 |x::r=>by rw[hH,bP,Me r];rfl
theorem oR:∀ {ds:ak D}{ss:ak eG},fJ ds=ag ss->ds=ss.map .str
 |[],ss,e=>by cases e;rfl
 | .str x::r,ss,e=>by
  obtain⟨t,a,b⟩:=en.mp (show (fJ r).map (x::·)=ag ss from e);subst b;rw[oR a];rfl
 | .LN::_,_,e=>by cases e
 | .bl _::_,_,e=>by cases e
 | .int _::_,_,e=>by cases e
 | .tup _::_,_,e=>by cases e
 | .lst _::_,_,e=>by cases e
 | .set _::_,_,e=>by cases e
 | .loc _::_,_,e=>by cases e
 | .fn _ _::_,_,e=>by cases e
theorem fR:∀ {ds:ak D}{ss:ak Int},bP ds=ag ss->ds=ss.map .int
 |[],ss,e=>by cases e;rfl
 | .int x::r,ss,e=>by
  obtain⟨t,a,b⟩:=en.mp (show (bP r).map (x::·)=ag ss from e);subst b;rw[fR a];rfl
 | .LN::_,_,e=>by cases e
 | .bl _::_,_,e=>by cases e
 | .str _::_,_,e=>by cases e
 | .tup _::_,_,e=>by cases e
 | .lst _::_,_,e=>by cases e
 | .set _::_,_,e=>by cases e
 | .loc _::_,_,e=>by cases e
 | .fn _ _::_,_,e=>by cases e
theorem w9 {a b:ak D}(p:a.Perm b):∀ {sb},fJ b=ag sb->∃ sa,fJ a=ag sa/\sa.Perm sb:=by
 induction p with
 |nil=>intro sb e;exact⟨sb,e,.refl _⟩
 |cons x p n =>
  intro sb e;cases x with
  |str z =>
   obtain⟨t,c,d⟩:=en.mp (show (fJ _).map (z::·)=ag sb from e);subst d;obtain⟨sa,g,h⟩:=n c;exact⟨z::sa,by rw[fJ,g];rfl,.cons z h⟩
  |_=>cases e
 |swap x y l =>
  intro sb e;cases x with
  |str z =>
   cases y with
   |str f =>
    obtain⟨t,c,d⟩:=en.mp (show (fJ (.str f::l)).map (z::·)=ag sb from e);obtain⟨i,g,h⟩:=en.mp (show (fJ l).map (f::·)=ag t from c);subst d h;exact⟨f::z::i,by rw[fJ,fJ,g];rfl,.swap z f i⟩
   |_=>cases e
  |_=>cases e
 |trans _ _ o j =>
  intro sb e;obtain⟨q,c,k⟩:=j e;obtain⟨sa,d,m⟩:=o c;exact⟨sa,d,m.trans k⟩
theorem xR {a b:ak D}(p:a.Perm b):∀ {sb},bP b=ag sb->∃ sa,bP a=ag sa/\sa.Perm sb:=by
 induction p with
 |nil=>intro sb e;exact⟨sb,e,.refl _⟩
 |cons x p n =>
  intro sb e;cases x with
  |int z =>
   obtain⟨t,c,d⟩:=en.mp (show (bP _).map (z::·)=ag sb from e);subst d;obtain⟨sa,g,h⟩:=n c;exact⟨z::sa,by rw[bP,g];rfl,.cons z h⟩
  |_=>cases e
 |swap x y l =>
  intro sb e;cases x with
  |int z =>
   cases y with
   |int f =>
    obtain⟨t,c,d⟩:=en.mp (show (bP (.int f::l)).map (z::·)=ag sb from e);obtain⟨i,g,h⟩:=en.mp (show (bP l).map (f::·)=ag t from c);subst d h;exact⟨f::z::i,by rw[bP,bP,g];rfl,.swap z f i⟩
   |_=>cases e
  |_=>cases e
 |trans _ _ o j =>
  intro sb e;obtain⟨q,c,k⟩:=j e;obtain⟨sa,d,m⟩:=o c;exact⟨sa,d,m.trans k⟩
section
variable {K:Ll}{H:Hp}{J:ak cn}
theorem Lx.strs:∀ {ss:ak eG}{vs:ak V}{us:ak ax},Lx K H J (ss.map .str) vs->Vals vs us->StrsAre us ss/\vs=ss.map V.str/\∀ x∈ss,Tf x
 |[],vs,us,m,r=>by
  cases Lx.Ly.mp m;cases r;exact⟨.nil,rfl,by simp⟩
 |x::ss,vs,us,m,r=>by
  obtain⟨v,h,rfl,a,e⟩:=Lx.Lv.mp m;obtain⟨ev,ok⟩:=At.LL.mp a;subst ev;cases r with
  |cons c g =>
   obtain⟨t,rfl⟩:=c;obtain⟨d,b,f⟩:=Lx.strs e g;refine⟨.cons x t d,by rw[b];rfl,λy hy=>?_⟩;rcases f5.mp hy with rfl |hy
   ·exact ok
   exact f y hy
theorem Lx.ofStrs:∀ {ss:ak eG},(∀ x∈ss,Tf x)->Lx K H J (ss.map .str) (ss.map V.str)
 |[],_ => .nil
 |x::ss,h => .cons (At.LL.mpr ⟨rfl,h x (gy ..)⟩) (Lx.ofStrs λy a=>h y (eJ _ a))
theorem qM:∀ {us:ak ax}{ss:ak eG},StrsAre us ss->Vals (ss.map V.str) us
 |_,_,.nil => .nil
 |_,_,.cons x t h => .cons ⟨t,rfl⟩ (qM h)
end
section
theorem BX {prog:fh}{w:il}{A:jl}{E:Lm}{s:cv}{x:ax}{Q:Lm}
  (h:ew #[4] A.in1 (collect x) (λvs a => ∃ ns,V9 vs ns/\vs.length<64 /\
   ∀ (out:ib ax) (c:ak Int) h' ep,V9 out.toList c->c.Perm ns->c.Pairwise (·<=·)->(∀ b o,a.heap.get? b=ag o->h'.get? b=ag o)->h'.get? a.heap.objs.size=ag (VN "list" out ep) ->
    Q (.ref a.heap.objs.size) { a with heap:=h' }) E s):ew #[4] A (call (.builtin "sorted") [x]) Q E s:=by
 refine Wj ady acX acY (acZ _) ?_;unfold Builtin.«sorted»;refine av (m:=adZ "sorted" 1 1 _) (bo ?_);refine av (LR h λvs a i=>?_);obtain⟨ns,j,g,q⟩:=i;refine av (aar ?_);have d:(a.heap.push (VN "list" vs.toArray 0)).get? a.heap.objs.size=ag (VN "list" vs.toArray 0):=e8 _ rfl;refine av (A2 (mm abC ⟨_,d,rfl⟩ abd (list_sort_tree d j g λout c a1 a2 k=>⟨_,rfl,?_⟩) (abD _)));obtain⟨ep,f⟩:=acp (out:=out) d
 exact bo ⟨_,rfl,q out c _ ep a1 a2 k (λb o e=>by
  rw[abE (nq (eM e)) (by rw[ad0];exact U8 (eM e))]
  exact cc _ e) f⟩
end
section
variable {X:Cx}{W:WT}
noncomputable def e_ (xs:ak D):a9 (ak D):=if xs.length<64 then
  match fJ xs with
  |ag a=>ag ((j3 a).map .str)
  |ay=>(bP xs).map λns=>(sortI ns).map .int
 else ay
theorem jB {c:Ln}{u:St}{H:Hp}{s:cv}{J:ak cn}{x:ax}{ds:ak D}{out:ak D}{Q:VK}(Y:∀ a∈J,H a≠ay)(e:e_ ds=ag out)(q:∀ H' v,LH H H'->At X.K H' J (.lst out) v->Q v H')
  (O:∀ (R:ak ax->cv->Prop) (E:Lm),(∀ us vs d r,Inv X c u H d->Vals vs us->r.Perm ds->Lx X.K H J r vs->R us d)->ew #[8] X.A.in1 (collect x) R E s) :
  ew #[8] X.A (call (.builtin "sorted") [x]) (EP X c u Q) X.xe s:=by
 unfold e_ at e;rw[1]
 ·rename_i n
  have fin:∀ {d:cv}{j:kx}{ep:Nat}{us':ak ax}{t:ak V}(f:Inv X c u H d) (k:∀ b o,d.heap.get? b=ag o->j.get? b=ag o) (i:j.get? d.heap.objs.size=ag (VN "list" us'.toArray ep)) (g:Vals t us') (m:Lx X.K H J out t) (y:t.length<=d4),
    EP X c u Q (.ref d.heap.objs.size) { d with heap:=j }:=λ{d j ep us' t} f k i g m y =>
   ⟨.ref d.heap.objs.size,_,f.laid (t':=d.toks) (o:=.lst t) k (hB _) ⟨y,us',ep,g,i⟩,rfl,q _ _ (aO f.fresh _) (At.MP m f.fresh Y y)⟩
  rw[1]
  ·rename_i p es;cases e;have G:=oR es;subst G;refine Ei strKind_oneLt (O _ _ λus vs d r f g F m=>?_);have C:∃ M,fJ r=ag M/\M.Perm p:=by exact w9 F (jA p)
   obtain⟨M,B,h⟩:=C;have L:=oR B;subst L;obtain⟨sa,ev,ok⟩:=Lx.strs m g;have l:us.length=p.length:=by rw[← g.length,ev,d7];exact h.length_eq
   refine⟨sa.keysOf,λP S rest e=>keyKind_strs (by rw[← e];exact sa),by rw[d7] at n;omega,λZ j ep hp hs k i=>?_⟩;obtain⟨so,h1,N,h3⟩:=sorted_out_str sa hp hs;have I:so=j3 p:=k6 (N.trans h) (jV h3);subst I;have z:∀ x∈j3 p,Tf x:=λx T=>ok x (N.mem_iff.mp T);refine fin (us':=((ee Z).map (·.2)).toList) f k (by rw[abF];exact i) (qM h1) (Lx.ofStrs z) ?_;rw[d7,(N.trans h).length_eq];rw[d7] at n;exact K5 (ke n #[2])
  obtain⟨ns,es,W⟩:=en.mp e;subst W;have G:=fR es;subst G;refine BX (O _ _ λus vs d r f g F m=>?_);obtain⟨U,B,h⟩:=xR F (Me ns);have L:=fR B;subst L;have ev:=Lx.NW m;subst ev;have hI:=intsAre_of g;have l:us.length=ns.length:=by rw[← g.length,d7];exact h.length_eq
  rw[d7] at n;refine⟨U,hI,#[1],λout no j ep a1 a2 a3 k i=>?_⟩;have I:no=sortI ns:=s9 (a2.trans h) a3;subst I;refine fin (us':=out.toList) f k (by rw[abF];exact i) (mf a1) (Lx.ofInts _) ?_;rw[d7,(a2.trans h).length_eq];exact K5 (ke n #[2])
 cases e
noncomputable def BZ:ak D->a9 D
 |[.tup xs]=>(e_ xs).map .lst
 |[.lst xs]=>(e_ xs).map .lst
 |_=>ay
theorem Fz:jw X (.builtin "sorted") BZ:=by
 intro B s K H G L Q I r h;obtain⟨J,M,d,A,m,e,q⟩:=h;unfold BZ at e;rw[1]
 ·rename_i z;obtain⟨out,c,l⟩:=en.mp e;subst l;obtain⟨v,w,rfl,a,n⟩:=Lx.Lv.mp m;cases Lx.Ly.mp n;obtain⟨p,x,rfl,t,y⟩:=At.LF.mp a;obtain⟨u,rfl,f⟩:=vals1 r;cases f;obtain⟨its,b,⟨o,j,hc,C,hd⟩,g⟩:=I.tuple t.sq;refine jB A c q λD E i=>Xl p (.inr rfl) j hc hd (λF k=>?_) (by rw[f3,← b.length];exact g);exact i _ x _ z (I.kept (t':=s.toks) k) (by simpa using b) (.refl _) y
 ·rename_i z;obtain⟨out,c,l⟩:=en.mp e;subst l;obtain⟨v,w,rfl,a,n⟩:=Lx.Lv.mp m;cases Lx.Ly.mp n;obtain⟨p,x,rfl,t,y⟩:=At.LK.mp a;obtain⟨u,rfl,f⟩:=vals1 r;cases f;obtain⟨its,b,⟨o,C,j,hc,_,hd⟩,g⟩:=I.list t.sq;refine jB A c q λD E i=>Xl p (#[9]) j hc hd (λF k=>?_) (by rw[f3,← b.length];exact g);exact i _ x _ z (I.kept (t':=s.toks) k) (by simpa using b) (.refl _) y
 cases e
end
noncomputable def fM (a b:D):fg:=dv (fz a=fz b)
noncomputable def putD (kvs:ak (D×D))(k v:D):ak (D×D):=if (kvs.any λp=>fM p.1 k)=ba then kvs.map (λp=>if fM p.1 k=ba then (p.1,v) else p) else kvs++[(k,v)]
noncomputable def getD (kvs:ak (D×D))(k:D):a9 D:=(kvs.find? λp=>fM p.1 k).map (·.2)
abbrev Tj (K:Ll)(H:Hp)(J:ak cn):(D×D)->(Key×V)->Prop:=λp q=>(fz p.1=ag q.1/\At K H J p.1 (kV q.1))/\At K H J p.2 q.2
section
variable {K:Ll}{H H':Hp}{J J':ak cn}
theorem o5 {a k:D}{x y:Key}(h:fz a=ag x)(g:fz k=ag y):fM a k=dv (x=y):=by
 unfold fM;rw[h,g];by_cases e:x=y
 ·subst e;simp
 rw[eh e,eh (λz=>e (ja z))]
theorem HB {kvs:ak (D×D)}{a:ak (Key×V)}{k:D}{y:Key}(g:fz k=ag y)(r:lU (Tj K H J) kvs a):(kvs.any λp=>fM p.1 k)=a.any λq=>dv (q.1=y):=by
 induction r with
 |nil=>rfl
 |cons h t b=>rw[Rm,Rm,b,o5 h.1.1 g]
theorem AF {kvs:ak (D×D)}{a:ak (Key×V)}{k v:D}{y:Key}{w:V}(g:fz k=ag y)(b:At K H J v w)(r:lU (Tj K H J) kvs a):lU (Tj K H J) (kvs.map λp=>if fM p.1 k=ba then (p.1,v) else p) (a.map λq=>if q.1=y then (q.1,w) else q):=by
 induction r with
 |nil=>exact .nil
 | @cons p q f d h t c =>
  refine .cons ?_ c;show Tj K H J (if fM p.1 k=ba then (p.1,v) else p) (if q.1=y then (q.1,w) else q);rw[o5 h.1.1 g];by_cases e:q.1=y
  ·rw[dm (ia e),dm e];exact⟨h.1,b⟩
  rw[dV (by rw[eh e];decide),dV e];exact h
theorem AH {k v:D}{y:Key}{w:V}(g:fz k=ag y)(d:At K H J k (kV y))(c:At K H J v w){b:ak (D×D)}{a:ak (Key×V)}(h:lU (Tj K H J) b a):lU (Tj K H J) (b++[(k,v)]) (a++[(y,w)]):=by
 induction h with
 |nil=>exact .cons ⟨⟨g,d⟩,c⟩ .nil
 |cons h t e=>exact .cons h e
theorem Gz {kvs:ak (D×D)}{a:ak (Key×V)}{k v:D}{y:Key}{w:V}(g:fz k=ag y)(c:At K H J k (kV y))(b:At K H J v w)(r:lU (Tj K H J) kvs a):lU (Tj K H J) (putD kvs k v) (putK a y w):=by
 unfold putD putK;rw[HB g r];split
 ·exact AF g b r
 exact AH g c b r
theorem Dl {kvs:ak (D×D)}{a:ak (Key×V)}{k:D}{y:Key}(g:fz k=ag y)(r:lU (Tj K H J) kvs a) :
  (getD kvs k=ay/\kZ a y=ay)∨∃ d v,getD kvs k=ag d/\kZ a y=ag v/\At K H J d v:=by
 unfold getD kZ
 induction r with
 |nil=>exact .inl ⟨rfl,rfl⟩
 | @cons p q f c h t b =>
  rw[wh,wh,o5 h.1.1 g];by_cases e:q.1=y
  ·rw[ia e];exact .inr ⟨p.2,q.2,rfl,rfl,h.2⟩
  rw[eh e];exact b
theorem kB {α b:Type}{F : α->b->Prop}{c:ak α}{a:ak b}(r:lU F c a):c.length=a.length:=X1 r
end
section
variable {X:Cx}{W:WT}{pos pos':UK}{o i e:hL}{fo fi fv:Lk D}
noncomputable def we:Lk D:=λ_ S=>LB (#[11]) (S++[.dict []])
theorem LW.push {K:Ll}{J:ak cn}{S:Lq}{H:Hp}{p:cn}{o:HO}{mo:MO}(s:LW K J S H)(e:H p=ay)(h:RF K (upd H p o) (J++[p]) mo p):LW K (J++[p]) (S++[mo]) (upd H p o)/\Ex J H (J++[p]) (upd H p o):=by
 have x:Ex J H (J++[p]) (upd H p o):=⟨⟨[p],rfl⟩,λb u hb j=>⟨by rw[aG (aM hb e)];exact hb,λz=>by
  rcases lk.mp z with z |z
  ·exact j z
  exact aM hb e (by simpa using z)⟩⟩
 refine⟨⟨by rw[da,da,s.len];rfl,?_,λl a k c d=>?_⟩,x⟩
 ·rw[RR];refine⟨s.nd,by simp,λa i b hb z=>?_⟩;have:b=p:=#[16]
  subst this;exact s.tracked i (z▸e)
 by_cases f:l<J.length
 ·rw[h7 f] at c;rw[h7 (by rw[← s.len];exact f)] at d;have q:=s.at_ l a k c d;refine q.ex x ?_;rw[aG];intro z;exact q.PD (z▸e)
 rw[hO #[0]] at c;rw[hO (by rw[← s.len];omega)] at d;have g:l-J.length=0:=by have:=(b5.mp c).1;simp at this;omega
 rw[g] at c;rw[← s.len,g] at d;simp at c d;subst c d;exact h
theorem tf:SE X W (.Dict [] [] pos) we:=RX.imp λb H Q h=>by obtain⟨J,d,S,r,f,c,_,e,z⟩:=h;cases e;intro p a;have q:=c.LZ.push (o:=.dK []) (mo:=.dict []) a ⟨[],LC,.nil⟩;refine z (J++[p]) _ _ q.2 q.1 (At.LG.mpr ⟨p,rfl,?_⟩);rw[← c.LZ.len,hO (hB _)];simp
theorem LW.update {K:Ll}{J:ak cn}{S:Lq}{H:Hp}{l:Nat}{a:cn}{o:HO}{mo:MO}(s:LW K J S H)(d:J[l]?=ag a)(i:∀ f H',Ex J H f H'->H'=upd H a o->f=J->RF K H' f mo a):LW K J (S.set l mo) (upd H a o)/\Ex J H J (upd H a o):=by
 have k:a∈J:=y3 d;have x:Ex J H J (upd H a o):=⟨abz _,λb u hb h=>⟨by rw[aG (λz:b=a=>h (by rw[z];exact k))];exact hb,h⟩⟩;refine⟨⟨by rw[J7];exact s.len,s.nd,λj b n c e=>?_⟩,x⟩;by_cases g:j=l
 ·subst g;rw[d] at c;cases c;have m:j<S.length:=by rw[← s.len];exact(b5.mp d).1
  rw[L1 m] at e;cases e;exact i J _ x rfl rfl
 rw[TL (lC g)] at e;refine(s.at_ j b n c e).ex x ?_;rw[aG];intro z;subst z;exact g ((aa3 (b5.mp c).1 s.nd).mp (c.trans d.symm))
noncomputable def u4 (x k v:D)(ρ:Lr)(S:Lq):Out Fl:=match x with
 | .loc l=>match S[l]?,fz k with
  |ag (.dict kvs),ag _=>if kvs.length<d4 then LB (.next ρ) (S.set l (.dict (putD kvs k v))) else ay
  |_,_=>ay
 |_=>ay
noncomputable def yn (fo fi fv:Lk D):Lk Fl:=λa S=>ai (fv a S) λv d=>ai (fo a d) λx c=>ai (fi a c) λk b=>u4 x k v a b
noncomputable def tH (X:Cx)(W:WT)(ds:ak D)(vs:ak V)(g:Lk Fl):TS:=λE c H => ∃ J a S r b,Cf X J a S c H/\Lx X.K H J ds vs/\g a S=ag (r,b)/\NX X W J H r b E
theorem tH.LD {g:Lk D}{k:D->Lk Fl}{ds:ak D}{vs:ak V}{E:Ends}{f:St}{H:Hp}
  (h:tH X W ds vs (λρ S=>ai (g ρ S) λd b=>k d ρ b) E f H):tE X W g f H λv i => ∃ d,tH X W (d::ds) (v::vs) (k d) E f i:=by
 obtain⟨J,ρ,S,r,p,c,a,e,z⟩:=h;cases q:g ρ S with
 |none=>simp[q] at e
 |some o =>
  obtain⟨l,b⟩:=o;simp only[q] at e;cases l with
  |error x =>
   cases e;exact⟨J,ρ,S,.error x,_,c,.nil,q,z⟩
  |ok d=>exact⟨J,ρ,S,.ok d,b,c,.nil,q,λj i v x n m=>⟨d,j,ρ,b,r,p,c.re x n,.cons m (a.ex x),e,z.ex x⟩⟩
theorem vG {k:D}{y:Key}{K:Ll}{H:Hp}{J:ak cn}{v:V}(g:fz k=ag y)(a:At K H J k v):v=kV y:=by
 cases k with
 |int i=>cases g;exact At.Lu.mp a
 |str x=>cases g;exact(At.LL.mp a).1
 |_=>cases g
theorem xc (L:X.A.units+1<vu)(D:SE X W o fo)(O:SE X W i fi)(B:SE X W e fv)(Q:Uy e (ag (.Subscript o i pos')) pos.line X.env=y8 b0:=by rfl):SS X W (.Assign [.Subscript o i pos'] e pos) (yn fo fi fv):=
 (EC L D O B Q).imp λE f H h=>by
  have h:tH X W [] [] (yn fo fi fv) E f H:=let ⟨J,j,S,r,t,c,e,z⟩:=h;⟨J,j,S,r,t,c,.nil,e,z⟩;refine(tH.LD h).mono λv H1 ⟨P,R⟩=>(tH.LD R).mono λx H2 ⟨u,T⟩=>(tH.LD T).mono λy Z ⟨I,M⟩=>?_;obtain⟨J,j,S,r,t,c,m,e,z⟩:=M;obtain⟨mk,m⟩:=m.Lz;obtain⟨V,m⟩:=m.Lz;obtain⟨w,_⟩:=m.Lz;unfold u4 at e;cases u with
  |loc l =>
   simp only at e;rw[1]
   ·rename_i d N es g;rw[1]
    ·rename_i lt;cases e;obtain⟨a,rfl,n⟩:=At.LG.mp V;obtain⟨K,C,s⟩:=c.LZ.at_ l a _ n es;have U:=vG g mk;subst U;have q:=c.LZ.update (o:=.dK (putK K N v)) (mo:=.dict (putD d I P)) n λY H' b G F=>by subst G F;refine⟨_,LC,Gz g (mk.ex b) (w.ex b) ?_⟩;exact Paired.Pt s λp q z=>⟨⟨z.1.1,z.1.2.ex b⟩,z.2.ex b⟩
     exact⟨a,_,rfl,RW.k C (by rw[← kB s];exact lt),z J f _ q.2 (c.re q.2 q.1)⟩
    cases e
   cases e
  |_=>cases e
noncomputable def Ft (neg:fg)(k x:D)(S:Lq):a9 D:=match x with
 | .loc l=>match S[l]?,fz k with
  |ag (.dict kvs),ag _=>ag (.bl (if neg then !(getD kvs k).isSome else (getD kvs k).isSome))
  |_,_=>ay
 |_=>ay
noncomputable def Bz (neg:fg)(c fd:Lk D):Lk D:=λa S=>ai (c a S) λk d=>ai (fd a d) λx b=>aL (Ft neg k x b) b
theorem pT {neg:fg}{f:St}{H:Hp}{Q:VK}(h:tE X W (Bz neg fi fo) f H Q):tE X W fi f H λy j=>tE X W fo f j λx b => ∃ a o,x = .ref a/\Oh b a y o/\Q (.bl (if neg then !o.isSome else o.isSome)) b:=
 (tG.LD h).mono λy j ⟨F,A⟩=>(tG.LD A).mono λx b t=>by
  obtain⟨p,B⟩:=t
  obtain⟨J,I,S,r,L,c,m,e,z⟩:=B;obtain⟨E,m⟩:=m.Lz;obtain⟨mk,_⟩:=m.Lz;unfold Ft at e;cases p with
  |loc l =>
   simp only at e;rw[1]
   ·rename_i w K es n;cases e;obtain⟨a,rfl,u⟩:=At.LG.mp E;obtain⟨G,s,C⟩:=c.LZ.at_ l a _ u es;have D:=vG n mk;subst D;refine⟨a,_,rfl,Oh.k s,?_⟩;have q:=z J b _ Ex.refl c.LZ (At.L5.mpr rfl);rcases Dl n C with ⟨g,i⟩ |⟨d,v,g,i,_⟩
    ·rw[g] at q;rw[i];exact q
    rw[g] at q;rw[i];exact q
   cases e
  |_=>cases e
theorem Gp (c:X.A.units+1<vu)(b:SE X W i fi)(d:SE X W o fo)(a:q7 .In o=b0:=by with_unfolding_all rfl):SE X W (.Compare i [.In] [o] pos) (Bz b0 fi fo):=
 (GO (CF c b d) a).imp λe H Q h=>pT (neg:=b0) h
theorem Gc (c:X.A.units+1<vu)(b:SE X W i fi)(d:SE X W o fo)(a:q7 .In o=b0:=by with_unfolding_all rfl):Ow X W (.Compare i [.In] [o] pos) (bq (Bz b0 fi fo)):=
 (xu (CF c b d) a).imp λe H Q h=>NK.mono (t:=Ib (tE X W fi) (tE X W fo)) (λ_ _ _=>pT (neg:=b0)) (i4 h)
theorem Aq (c:X.A.units+1<vu)(b:SE X W i fi)(d:SE X W o fo)(a:q7 .NotIn o=b0:=by with_unfolding_all rfl):Ow X W (.Compare i [.NotIn] [o] pos) (bq (Bz ba fi fo)):=
 (xu (AO c b d) a).imp λe H Q h=>NK.mono (t:=yF (tE X W fi) (tE X W fo)) (λ_ _ _=>pT (neg:=ba)) (i4 h)
noncomputable def zT (x k:D)(S:Lq):a9 D:=match x with
 | .loc l=>match S[l]?,fz k with
  |ag (.dict kvs),ag _=>getD kvs k
  |_,_=>ay
 |_=>ay
noncomputable def Jg (fd c:Lk D):Lk D:=λa S=>ai (fd a S) λx d=>ai (c a d) λk b=>aL (zT x k b) b
theorem Ep (u:X.A.units+1<vu)(q:SE X W o fo)(B:SE X W i fi)(D:BB i):SE X W (.Subscript o i pos) (Jg fo fi):=(EM u q B D).imp λL H Q h =>
 (tG.LD h).mono λx M ⟨j,E⟩=>(tG.LD E).mono λy t s=>by
  obtain⟨N,F⟩:=s
  obtain⟨J,P,S,r,T,c,m,e,z⟩:=F;obtain⟨mk,m⟩:=m.Lz;obtain⟨K,_⟩:=m.Lz;unfold zT at e;cases j with
  |loc l =>
   simp only at e;rw[1]
   ·rename_i C R es f;obtain⟨a,rfl,w⟩:=At.LG.mp K;obtain⟨O,p,G⟩:=c.LZ.at_ l a _ w es;have I:=vG f mk;subst I;rcases Dl f G with ⟨b,g⟩ |⟨d,v,b,g,n⟩
    ·rw[b] at e;cases e
    rw[b] at e;cases e;exact⟨a,v,rfl,by rw[← g];exact Oh.k p,z J t _ Ex.refl c.LZ n⟩
   cases e
  |_=>cases e
end
section
variable {X:Cx}{W:WT}
theorem SE.either {e:hL}{g g1 g2:Lk D}(i:SE X W e g1)(j:SE X W e g2)(h:∀ ρ S,g ρ S=g1 ρ S∨g ρ S=g2 ρ S):SE X W e g:=λb s d H Q I z=>by
 obtain⟨J,ρ,S,r,f,c,a,e,y⟩:=z;rcases h ρ S with q |q
 ·exact i b s d H Q I ⟨J,ρ,S,r,f,c,a,by rw[← q];exact e,y⟩
 exact j b s d H Q I ⟨J,ρ,S,r,f,c,a,by rw[← q];exact e,y⟩
theorem Ow.either {e:hL}{g g1 g2:Lk fg}(i:Ow X W e g1)(j:Ow X W e g2)(h:∀ ρ S,g ρ S=g1 ρ S∨g ρ S=g2 ρ S):Ow X W e g:=λb s d H Q I z=>by
 obtain⟨J,ρ,S,r,f,c,a,e,y⟩:=z;rcases h ρ S with q |q
 ·exact i b s d H Q I ⟨J,ρ,S,r,f,c,a,by rw[← q];exact e,y⟩
 exact j b s d H Q I ⟨J,ρ,S,r,f,c,a,by rw[← q];exact e,y⟩
theorem SI.either {b e:hL}{g g1 g2:Lk (ak D)}(i:SI X W b e g1)(j:SI X W b e g2)(h:∀ ρ S,g ρ S=g1 ρ S∨g ρ S=g2 ρ S):SI X W b e g:=λa s d H R I z=>by
 obtain⟨J,ρ,S,r,f,c,e,y⟩:=z;rcases h ρ S with q |q
 ·exact i a s d H R I ⟨J,ρ,S,r,f,c,by rw[← q];exact e,y⟩
 exact j a s d H R I ⟨J,ρ,S,r,f,c,by rw[← q];exact e,y⟩
theorem cu {α e:Type}(m:Out α){k d b : α->Lq->Out e}(h:∀ a S,k a S=d a S∨k a S=b a S):ai m k=ai m d∨ai m k=ai m b:=by
 cases m with
 |none=>exact #[9]
 |some o =>
  obtain⟨r,S⟩:=o;cases r with
  |error c=>exact #[9]
  |ok a=>exact h a S
noncomputable def bO:D->fg
 | .loc _=>ba
 |_=>b0
noncomputable def Mn (x i:D)(S:Lq):a9 D:=if bO x=ba then zT x i S else TH x i
noncomputable def Nh (d c:Lk D):Lk D:=λa S=>ai (d a S) λx e=>ai (c a e) λi b=>aL (Mn x i b) b
variable {a b:hL}{fa fb:Lk D}{pos:UK}
theorem aU (g:X.A.units+1<vu)(e:SE X W a fa)(hb:SE X W b fb)(c:BB b:=by exact λ_ _=>rfl):SE X W (.Subscript a b pos) (Nh fa fb):=
 SE.either (Ep g e hb c) (FS ixd e hb c) λd S=>cu _ λx f=>by
  by_cases h:bO x=ba
  ·refine .inl (zc (ai (fb d f)) (acD λi=>acD λj=>?_));unfold Mn;rw[dm h]
  refine .inr (zc (ai (fb d f)) (acD λi=>acD λj=>?_));unfold Mn;rw[dV h]
noncomputable def Rf (neg:fg)(k x:D)(S:Lq):a9 D:=if bO x=ba then Ft neg k x S else (if neg=ba then tI k x else inD k x)
noncomputable def Rg (neg:fg)(c fd:Lk D):Lk D:=λa S=>ai (c a S) λk d=>ai (fd a d) λx b=>aL (Rf neg k x b) b
theorem mM (neg:fg)(a fd:Lk D)(ρ:Lr)(S:Lq):Rg neg a fd ρ S=Bz neg a fd ρ S∨Rg neg a fd ρ S=aH (if neg=ba then tI else inD) a fd ρ S:=by
 unfold Rg Bz aH;refine cu _ λk c=>cu _ λx b=>?_;unfold Rf;by_cases h:bO x=ba
 ·exact .inl (by rw[dm h])
 refine .inr ?_;rw[dV h];cases neg<;>rfl
variable (hu:X.A.units+150<vu) (LY:X.A.units+1<vu)
include hu LY
theorem Cc (f:X.A.units+151<vu)(d:SE X W a fa)(hb:SE X W b fb)(c:q7 .In b=b0:=by with_unfolding_all rfl):SE X W (.Compare a [.In] [b] pos) (Rg b0 fa fb):=
 SE.either (Gp LY d hb c) (oZ (FX f) d hb c) λe S=>mM b0 fa fb e S
theorem oO {f b a:Lk D}{ρ:Lr}{S:Lq}(h:f ρ S=b ρ S∨f ρ S=a ρ S):bq f ρ S=bq b ρ S∨bq f ρ S=bq a ρ S:=by
 unfold bq;rcases h with h |h
 ·exact .inl (by rw[h])
 exact .inr (by rw[h])
theorem BN (f:X.A.units+151<vu)(d:SE X W a fa)(hb:SE X W b fb)(c:q7 .In b=b0:=by with_unfolding_all rfl):Ow X W (.Compare a [.In] [b] pos) (bq (Rg b0 fa fb)):=
 Ow.either (Gc LY d hb c) (bf (FX f) d hb c) λe S=>oO hu LY (mM b0 fa fb e S)
theorem qO (f:X.A.units+151<vu)(d:SE X W a fa)(hb:SE X W b fb)(c:q7 .NotIn b=b0:=by with_unfolding_all rfl):Ow X W (.Compare a [.NotIn] [b] pos) (bq (Rg ba fa fb)):=
 Ow.either (Aq LY d hb c) (bf (CH f) d hb c) λe S=>oO hu LY (mM ba fa fb e S)
omit hu LY
noncomputable def ck:D->a9 (ak D)
 | .tup a=>ag a
 | .lst a=>ag a
 | .str x=>ag (x.cps.toList.map λc=>D.str ⟨#[c]⟩)
 |_=>ay
noncomputable def bN (f:Lk D):Lk (ak D):=λa S=>ai (f a S) λd b=>aL (ck d) b
theorem cB {g:hL}(e:SE X W a fa):SI X W g a (bN fa):=by
 refine SI.either (g1:=ym fa) (g2:=λb S=>ai (fa b S) λd f=>aL (match d with | .lst h=>ag h | .str x=>ag (x.cps.toList.map λc=>D.str ⟨#[c]⟩) |_=>ay) f) (Gk e) (SI.either (Gn e) (Gm e) λb S=>?_) λb S=>?_
 ·unfold DK DG;refine cu _ λd f=>?_;cases d<;>first |exact #[9] |exact .inr rfl
 unfold bN ym;refine cu _ λd f=>?_;cases d<;>first |exact #[9] |exact .inr rfl
end
noncomputable def a8 (n m:Nat) (G:Lk Fl):Lp:=λa S=>if a.length=n then
  match G (a.map ag++ih m ay) S with
  |ag (.ok (.ret d),S')=>ag (.ok d,S')
  |ag (.ok (.next _),S')=>ag (.ok .LN,S')
  |_=>ay
 else ay
def bd (K:Ll)(mg:Lo)(x:eG)(st:r4)(a:ak eG):Prop:=∃ f fd,Q7 K x x st f fd/\mg x=ag (.ref f)/\Binds K fd a []
def M3 (P:fh)(w:il)(K:Ll)(mg:Lo)(base:kx)(k:Nat)(x:eG)(a:ak eG)(F:Lp):Prop:=
 ∃ f fd,Sz P w K mg base k f fd a F/\mg x=ag (.ref f)/\Qj K (.ref f)=ba/\Binds K fd a []
section
variable {P:fh}{w:il}{K:Ll}{mg:Lo}{base:kx}
theorem nO {x qual:eG}{st:r4}{sc:lE}{N b:ak eG}{k:Nat}{G:Lk Fl}{f:cn}{fd:L4}(V:Q7 K x qual st f fd)(T:ar st=sc)(S:Lw N b sc)
  (h:∀ (A:jl) (outer:ak Env) (s:cv) (H:Hp) (E:XK),L0 k (A.deeper (XI qual sc s.heap.objs.size f fd.code))->QP (pW RE P w K mg base N qual sc f fd.code A outer s H E).SY W0 (bS st) G) :
  Sz P w K mg base (k+1) f fd b (a8 b.length (N.length-b.length) G):=by
 subst T;obtain⟨oc,Y,kV,doc,pm,Z,LU,ct,Q6,rfl,u,I⟩:=V.ex
 have len:∀ a St r,a8 b.length (N.length-b.length) G a St=ag r->a.length=b.length:=λa St r e=>by
  unfold a8 at e;rw[1]
  ·assumption
  cases e
 refine IY u I S (λB H Q E h=>?_) λA outer s H B Q E hr M=>?_
 ·obtain⟨J,St,a,d,g,m,_,e,_⟩:=h;rw[← m.length];exact len a St _ e
 obtain⟨J,St,a,d,g,m,so,e,z⟩:=M;have p:=len a St _ e
 have U:∃ r,G (a.map ag++ih (N.length-b.length) ay) St=ag (.ok r,g)/\(r = .ret d∨(d = .LN/\∃ t,r = .next t)):=by
  unfold a8 at e;rw[dm p] at e;rw[1]
  ·rename_i F X q;cases e;exact⟨_,q,#[9]⟩
  ·rename_i l X q;cases e;exact⟨_,q,.inr ⟨rfl,l,rfl⟩⟩
  cases e
 obtain⟨r,W,D⟩:=U;refine⟨_,(h A outer s H E hr).SY,J,_,St,.ok r,g,⟨?_,λi d' hd=>?_,so⟩,W,?_⟩
 ·unfold start;rw[da,da,d7,d7,← m.length,p];simp
 ·by_cases n:i<a.length
  ·rw[h7 (by simpa using n),hF] at hd;cases q:a[i]? with
   |none=>rw[q] at hd;cases hd
   |some F =>
    rw[q] at hd;cases hd;obtain⟨v,ev,y⟩:=m.get q;refine⟨v,?_,y⟩;unfold start;rw[h7 (by rw[d7,← m.length];exact n),hF,ev];rfl
  rw[hO (by simpa using n),Sv] at hd;split at hd<;>cases hd
 rcases D with rfl |⟨rfl,t,rfl⟩
 ·exact λc j v o C R=>z c j v o C R
 exact λc O j o L=>z c j _ o L.LZ (At.Mt.mpr rfl)
theorem pQ {x:eG}{st:r4}{sc:lE}{N a:ak eG}{k:Nat}{G:Lk Fl}{f:cn}{fd:L4}(d:Q7 K x x st f fd)(c:ar st=sc)(Sc:Lw N a sc)
  (h:∀ (f:cn) (b:ax) (A:jl) (outer:ak Env) (s:cv) (H:Hp) (E:XK),L0 k (A.deeper (XI x sc s.heap.objs.size f b))->QP (pW RE P w K mg base N x sc f b A outer s H E).SY W0 (bS st) G) :
  Sz P w K mg base (k+1) f fd a (a8 a.length (N.length-a.length) G):=nO d c Sc λA outer s H E hr=>h f fd.code A outer s H E hr
theorem aR {x:eG}{st:r4}{sc:lE}{N a:ak eG}{k:Nat}{G:Lk Fl}(g:bd K mg x st a)(e:ar st=sc)(Sc:Lw N a sc)
  (h:∀ (f:cn) (b:ax) (A:jl) (outer:ak Env) (s:cv) (H:Hp) (E:XK),L0 k (A.deeper (XI x sc s.heap.objs.size f b))->QP (pW RE P w K mg base N x sc f b A outer s H E).SY W0 (bS st) G) :
  M3 P w K mg base (k+1) x a (a8 a.length (N.length-a.length) G):=by
 obtain⟨f,fd,c,d,hb⟩:=g;exact⟨f,fd,pQ c e Sc h,d,c.kp,hb⟩
theorem p9 {x:eG}{st:r4}{b:ak eG}{k:Nat}(i:bd K mg x st b):M3 P w K mg base k x b (λ_ _=>ay):=by
 obtain⟨f,fd,g,c,hb⟩:=i;have no:∀ a H Q E,¬ XG K (λ_ _=>ay) a H Q E:=λa H Q E h=>by obtain⟨J,S,l,d,m,_,_,e,_⟩:=h;cases e
 exact⟨f,fd,⟨λa H Q E h=>ku h (no a H Q E),λA outer s H args j a Q E _ _ _ _ h=>ku h (no a H Q E)⟩,c,g.kp,hb⟩
theorem aX {A:jl}{k:Nat}(hr:L0 k A):A.units+150<vu:=by have:=hr.un;omega
theorem aW {A:jl}{k:Nat}(hr:L0 k A):A.units+151<vu:=by have:=hr.un;omega
end
section
variable {X:Cx}{W:WT}{x:eG}{p pos:UK}{e:hL}{es:ak hL}{gs:Lk (ak D)}
theorem aF {k:Nat}{b:ak eG}{F:Lp}(C:M3 X.prog X.w X.K X.mg X.base k x b F)(hr:L0 k X.A)
  (g:SA X W (e::es) gs) (c:Gl X x:=by rfl) (j:(x==("__debug__":eG))=b0:=by decide) (i:eK (e::es) X.env=(b0,sY e X.env)::eK es X.env:=by rfl) (d:(tw pos (eK es X.env)).any (·.1)=b0:=by rfl) :
  SE X W (.Call (.Name x p) (e::es) [] pos) (aQ F gs):=by
 obtain⟨f,fd,G,a,h,hb⟩:=C;exact Er G hr a h hb g c j i d
end
noncomputable def yK (K:Ll)(n:Nat):Sp:=λc H Q _ => ∃ (a:cn) (ns:ak Int),c=[.ref a]/\OC K H a (ns.map V.int)/\ns.length<=n/\∀ b,Q (.bl ba) b
theorem GZ {P:fh}{w:il}{K:Ll}{mg:Lo}{base:kx}{k n:Nat}{f:cn}{fd:L4}{d:ak eG}{F:Lp}(h:Sz P w K mg base k f fd d F)(r:n<=1000)
  (p:∀ ns:ak Int,ns.length<=n->∃ b,F [.lst (ns.map .int)] []=ag (.ok (.bl ba),b)):Nv P w K mg base RE k f fd d (yK K n):=by
 refine Nv.imp h λt H Q E g=>?_;obtain⟨a,ns,e,i,c,q⟩:=g;subst e;obtain⟨b,eF⟩:=p ns c;refine⟨[],[],[.lst (ns.map .int)],.bl ba,b,.cons (At.LK.mpr ⟨a,ns.map V.int,rfl,?_,Lx.ofInts ns⟩) .nil,⟨rfl,.nil,λl a o h=>by simp at h⟩,eF,λs j v _ _ m=>?_⟩
 ·rcases i with z |z
  ·exact .inl ⟨z,by simp,by rw[d7];exact hA c (hA r #[2])⟩
  exact .inr z
 rw[At.L5.mp m];exact q j
theorem R4 {l:Yi}{q:fh}{loose:ak eG}{e:(Lo)->kx->Prop}{c:il->kx->Prop}{d:DefRec}{K:Params->Ll}{k:Nat}{x:eG}(m:l.most=ag 63)(j:d.params.defaults=[])(hr:L0 k aae)
  (o:∀ (w:il) (h:kx),c w h->(K w.params).In h)
  (F:∀ (w:il) (mg:Lo) (b:cn) (h:kx),(K w.params).In h->h.Ns my mg->mg d.name=ag (.ref b) ->
   ∃ fd:L4,(∀ (s:cv) (u:ax),ab1 s fd ⟨[u],[]⟩ [(x,u)])/\∀ base:kx,(K w.params).In base->base.Ns my mg->Nv l.prog w (K w.params) mg base RE k b fd [x] (yK (K w.params) 63)) :
  adM q loose e c l.row.toRowW d [] (λf vs=>adV f vs):=
 L2.Td (n:=63) (k:=k) (x:=x) (CX:=λ_=>RE) (sp:=λw=>yK (K w.params) 63) m #[2] j hr o F (λ_ _ a ns g _ i=>⟨a,ns,rfl,i,g,λ_=>rfl⟩) λ_ _ _ _ _ z=>z
theorem ju:uk "len"=ag (.builtin "len"):=by decide
theorem eQ:uk "tuple"=ag (.type "tuple"):=by decide
theorem Aa:uk "list"=ag (#[13]):=by decide
theorem HA:uk "int"=ag (.type "int"):=by decide
theorem Hz:uk "set"=ag (.type "set"):=by decide
theorem DN:uk "min"=ag (.builtin "min"):=by decide
theorem fF:uk "sorted"=ag (.builtin "sorted"):=by decide
end L2
namespace L2
open PySem
section
variable {prog:fh}{w:il}{K:Type} [PR K]
abbrev wB (knd:abq prog w K):K->Int×ax->Prop:=λk e=>knd.is k e.2=ba/\e.1=knd.hash k/\e.2.scannable=ba
def NG (xs:ib Nat):Prop:=xs.toList.Pairwise (· < ·)
theorem NG.lt {xs:ib Nat}(h:NG xs){i j:Nat}(b:i<j)(a:j<xs.size):xs[i]'(V3 b a)<xs[j]:=by have:=K3.mp h i j (by simpa using V3 b a) (by simpa using a) b;simpa using this
theorem qi (xs:ib Nat)(j:Nat):∀ (fuel lo a:Nat),a-lo<=fuel->lo<=a->a<=xs.size->NG xs->(∀ i (h:i<xs.size),i<lo->xs[i]<j)->(∀ i (h:i<xs.size),a<=i->j<=xs[i]) ->
  Vm xs j fuel lo a<=xs.size/\(∀ i (h:i<xs.size),i<Vm xs j fuel lo a->xs[i]<j)/\(∀ i (h:i<xs.size),Vm xs j fuel lo a<=i->j<=xs[i])
 | 0,lo,a,l,k,b,_,c,d=>by
  have e:lo=a:=#[1]
  subst e;unfold Vm;exact⟨b,c,d⟩
 |fuel+1,lo,a,l,k,b,hr,c,d=>by
  unfold Vm;by_cases h:lo<a
  ·rw[dm h];have f:(lo+a) / 2<xs.size:=#[1]
   have m:xs.getD ((lo+a) / 2) j=xs[(lo+a) / 2]:=by simp[Array.getD,f]
   simp only[m];by_cases hc:xs[(lo+a) / 2]<j
   ·rw[dm hc];refine qi xs j fuel _ a #[0] #[0] b hr (λi g o=>?_) d;rcases Wy i ((lo+a) / 2) with q |q
    ·exact V3 (hr.lt q f) hc
    have e:i=(lo+a) / 2:=#[1]
    subst e;exact hc
   rw[dV hc];refine qi xs j fuel lo _ #[0] #[0] #[0] hr c λi g n=>?_;rcases Wy ((lo+a) / 2) i with q |q
   ·have:=hr.lt q g;omega
   have e:i=(lo+a) / 2:=#[1]
   subst e;omega
  rw[dV h];have e:lo=a:=#[1]
  subst e;exact⟨b,c,d⟩
theorem qh {xs:ib Nat}(hr:NG xs)(j:Nat):kh xs j<=xs.size/\(∀ i (h:i<xs.size),i<kh xs j->xs[i]<j)/\(∀ i (h:i<xs.size),kh xs j<=i->j<=xs[i]):=by unfold kh;exact qi xs j xs.size 0 xs.size #[0] #[0] (hB _) hr (λi _ h=>ku h #[0]) λi h q=>ku h #[0]
theorem wm {xs:ib Nat}(hr:NG xs){j p:Nat}(f:p<=xs.size)(d:∀ i (h:i<xs.size),i<p->xs[i]<j)(e:∀ i (h:i<xs.size),p<=i->j<=xs[i]):kh xs j=p:=by
 obtain⟨a,b,c⟩:=qh hr j;rcases WA (kh xs j) p with q |q |q
 ·have x:=c _ #[0] (hB _);have y:=d (kh xs j) #[0] q;omega
 ·exact q
 have x:=b p #[0] q;have y:=e p #[0] (hB _);omega
theorem kA {t:E1}{f:Nat->Int}{h:Int}:∀ (fuel:Nat) (p:S9) {j:Nat}{a:a9 Nat},(∀ d,p.dummy=ag d->t.slot d = .dummy)->aai t f h fuel p=ag (.empty j a)->t.slot j = .empty/\∀ d,a=ag d->t.slot d = .dummy
 | 0,p,j,a,_,e=>by unfold aai at e;cases e
 |fuel+1,p,j,a,hd,e=>by
  have c:∀ q:S9,(t.advance q).dummy=q.dummy:=λq=>by unfold SetTable.advance;split<;>rfl
  unfold aai at e;rw[1]
  ·rename_i b;cases e;exact⟨b,hd⟩
  ·rename_i b;exact kA fuel _ (by rw[c];intro d q;cases q;exact b) e
  rw[1]
  ·cases e
  exact kA fuel _ (by rw[c];exact hd) e
theorem Bj {t:E1}{h:Int}{j:Nat}{f:fg}(e:t.freeSlot h=ag (j,f)):∀ i,t.slot j≠.live i:=by
 unfold SetTable.freeSlot at e;rw[1]
 ·rename_i k a q;obtain⟨b,c⟩:=kA _ _ (by intro d z;cases z) q;cases e;intro i;cases a with
  |none=>rw[show (ay:a9 Nat).getD k=k from rfl,b];intro z;cases z
  |some d=>rw[show (ag d).getD k=d from rfl,c d rfl];intro z;cases z
 cases e
theorem NG.put {t:E1}(hr:NG t.place){j:Nat}(m:∀ i,t.slot j≠.live i):NG (t.put j).1.place:=by
 obtain⟨a,b,c⟩:=qh hr j;have n:t.place[kh t.place j]?≠ag j:=λe=>m (kh t.place j) (by unfold SetTable.slot;simp[e]);unfold SetTable.put NG SetTable.insertAt;simp only[acq,Yq,Xm];have s:(t.place.toList.drop 0).take (kh t.place j-0)=t.place.toList.take (kh t.place j):=by simp
 have key:∀ i,kh t.place j<=i->∀ h:i<t.place.size,j<t.place[i]:=by
  intro i d h;have r:=c i h d;rcases Wy j t.place[i] with q |q
  ·exact q
  exfalso;have hb:kh t.place j<t.place.size:=#[1]
  have u:=c _ hb (hB _);rcases Wy (kh t.place j) i with z |z
  ·have:=hr.lt z h;omega
  have e:kh t.place j=i:=#[1]
  refine n ?_;rw[Wk hb];congr 1;have:t.place[kh t.place j]=t.place[i]:=by simp only[e]
  omega
 have f:(t.place.toList.drop (kh t.place j)).take (t.place.size-kh t.place j)=t.place.toList.drop (kh t.place j):=zh #[3];simp only[T7,adi,sub_zero] at *
 rw[f];rw[kg,r0,List.singleton_append,rk];refine⟨hr.sublist (aad ..),⟨λy hy=>?_,hr.sublist (ac1 ..)⟩,λx l y hy=>?_⟩
 ·obtain⟨i,d,e⟩:=Qq hy;rw[ac2] at e;have:=key (kh t.place j+i) #[0] (by simp at d;omega);rw[abG] at e;omega
 obtain⟨i,d,e⟩:=Qq l;rw[List.getElem_take,abG] at e;have o:i<kh t.place j:=by simp at d;omega
 have r:=b i #[0] o;rcases f5.mp hy with rfl |hy
 ·omega
 obtain⟨k,p,g⟩:=Qq hy;rw[ac2,abG] at g;have:=key (kh t.place j+k) #[0] (by simp at p;omega);omega
theorem NG.range (n:Nat):NG (Array.range n):=by unfold NG;rw[Array.toList_range];exact aa4
theorem NG.orStandIn {t:E1}(n:Nat)(h:NG t.place):NG (t.orStandIn n).place:=by
 unfold acE;split
 ·exact h
 exact NG.range n
theorem xM {t:E1}(es:ib (Int×ax))(h:Int)(x:ax)(hr:NG t.place):NG (ad1 t es h x).2.1.place:=by
 unfold ad1;split
 ·rename_i slot a e;exact NG.orStandIn _ (hr.put (Bj e))
 exact NG.range _
theorem xn {t t':E1}{e:ib Int}{n:Nat}{order:ib Nat}(h:t.relaid e n=ag (t',order)):NG t'.place:=by
 unfold adF aem at h;cases hc:ac3 (acF n-1) e with
 |none=>simp[hc] at h
 |some o =>
  simp only[hc,acb,m4,pure_def,Qw,X4] at h;obtain⟨rfl,_⟩:=h;unfold NG;simp only[acd,H8];rw[List.pairwise_filterMap];refine aa4.imp λ{a b} f c hc d hd=>?_;obtain⟨u,_,rfl⟩:=en.mp hc;obtain⟨v,_,rfl⟩:=en.mp hd;exact f
theorem tx {t:E1}(es:ib (Int×ax))(n:Nat):NG (Yt t es n).2.1.place:=by
 unfold Yt;split
 ·rename_i a order e;rw[0];split
  ·exact xn e
  exact NG.range _
 exact NG.range _
def Mr (knd:abq prog w K)(pk:K->fg)(led:fg)(h:kx)(a:cn)(b:ak K):Prop:=
 ∃ o es ep t,h.get? a=ag o/\o.ExactSet/\o.data = .set es ep t/\(∃ l:ak (Int×ax),l.Perm es.toList/\lU (wB knd) b l) /\
  es.size<XR/\t.fits es.size=ba/\t.led=led/\(t.plain=ba->∀ k∈b,pk k=ba)/\NG t.place
theorem ph {α c:Type}{F : α->c->Prop}{l:ak α}{m:ak c}(r:lU F l m):∀ b∈m,∃ a∈l,F a b:=by
 induction r with
 |nil=>intro b hb;cases hb
 |cons f t g =>
  intro b hb;rcases f5.mp hb with rfl |hb
  ·exact⟨_,gy ..,f⟩
  obtain⟨a,d,e⟩:=g b hb;exact⟨a,eJ _ d,e⟩
theorem u_ {α c:Type}{F : α->c->Prop}{l:ak α}{m:ak c}(r:lU F l m):∀ a∈l,∃ b∈m,F a b:=by
 induction r with
 |nil=>intro b hb;cases hb
 |cons f t g =>
  intro b hb;rcases f5.mp hb with rfl |hb
  ·exact⟨_,gy ..,f⟩
  obtain⟨a,d,e⟩:=g b hb;exact⟨a,eJ _ d,e⟩
theorem u9 {α c:Type}{F : α->c->Prop}{l:ak α}{m:ak c}(r:lU F l m){a : α}{b : c}(f:F a b):lU F (l++[a]) (m++[b]):=by
 induction r with
 |nil=>exact .cons f .nil
 |cons g t d=>exact .cons g d
theorem nG {α a:Type}{F : α->a->Prop}{l:ak α}{m:ak a}(r:lU F l m):l.length=m.length:=by
 induction r with
 |nil=>rfl
 |cons g t b=>simp[b]
variable {knd:abq prog w K}{pk:K->fg}{led:fg}
theorem qy (t:E1)(n:Nat):(t.orStandIn n).led=t.led/\((t.orStandIn n).plain=ba->t.plain=ba):=by
 unfold acE;split
 ·exact⟨rfl,id⟩
 exact⟨rfl,λz=>by simp[XS] at z⟩
theorem xN (t:E1)(es:ib (Int×ax))(h:Int)(x:ax):(ad1 t es h x).2.1.led=t.led/\((ad1 t es h x).2.1.plain=ba->t.plain=ba):=by
 unfold ad1;split
 ·rename_i slot a _;exact qy (t.put slot).1 _
 exact⟨rfl,λz=>by simp[XS] at z⟩
theorem xo {t t':E1}{a:ib Int}{n:Nat}{order:ib Nat}(h:t.relaid a n=ag (t',order)):t'.led=t.led/\t'.plain=t.plain:=by
 unfold adF aem at h;cases hc:ac3 (acF n-1) a with
 |none=>simp[hc] at h
 |some o =>
  simp only[hc,acb,m4,pure_def,Qw,X4] at h;obtain⟨rfl,_⟩:=h;exact⟨rfl,rfl⟩
theorem tD (t:E1)(es:ib (Int×ax))(n:Nat):(Yt t es n).2.1.led=t.led/\((Yt t es n).2.1.plain=ba->t.plain=ba):=by
 unfold Yt;split
 ·rename_i c order e;obtain⟨a,b⟩:=xo e;rw[0];split
  ·exact⟨a,λz=>by rw[← b];exact z⟩
  exact⟨rfl,λz=>by simp[XS] at z⟩
 exact⟨rfl,λz=>by simp[XS] at z⟩
theorem Mr.elems {h:kx}{a:cn}{b:ak K}{es:ib (Int×ax)}(c:∃ l:ak (Int×ax),l.Perm es.toList/\lU (wB knd) b l):ElemsOf knd es.toList:=λe d=>by obtain⟨l,p,r⟩:=c;obtain⟨k,_,f,g,i⟩:=ph r e (p.mem_iff.mpr d);exact⟨⟨k,f,g⟩,i⟩
theorem Mr.mem {c:ak K}{es:ib (Int×ax)}(h:∃ l:ak (Int×ax),l.Perm es.toList/\lU (wB knd) c l)(k:K):k∈c↔∃ e∈es.toList,knd.is k e.2=ba:=by
 obtain⟨l,p,r⟩:=h;rw[3]
 ·intro g;obtain⟨e,a,b,_⟩:=u_ r k g;exact⟨e,p.mem_iff.mp a,b⟩
 rintro⟨e,a,b⟩;obtain⟨d,f,i,_⟩:=ph r e (p.mem_iff.mpr a);rw[knd.inj e.2 k d b i];exact f
noncomputable def dM (a:ak K)(k:K):ak K:=if k∈a then a else a++[k]
variable {A:jl}{E:Lm}{s:cv}
theorem Mr.stored {h:kx}{a:cn}{o:Obj}{es:ib (Int×ax)}{ep:Nat}{t:E1}(e:h.get? a=ag o)(hex:o.ExactSet)(hd:o.data = .set es ep t){b:ib (Int×ax)}{t':E1}{c:ak K}
  (d:∃ l:ak (Int×ax),l.Perm b.toList/\lU (wB knd) c l) (hb:b.size<XR) (f:t'.fits b.size=ba) (i:t'.led=led) (j:t'.plain=ba->∀ k∈c,pk k=ba) (hr:NG t'.place) :
  (h.update a (aa5 b t')).get? a=ag { o with data:=.set b (ep+1) t' }/\Mr knd pk led (h.update a (aa5 b t')) a c:=by
 have g:(h.update a (aa5 b t')).get? a=ag { o with data:=.set b (ep+1) t' }:=by have q:=Tx (aa5 b t') e (by rw[putSet_of b t' hd];rfl);rw[putSet_of b t' hd] at q;exact q
 exact⟨g,_,b,ep+1,t',g,hex,rfl,d,hb,f,i,j,hr⟩
theorem pM (b:fg){a:cv}{d:ab9->cv->Prop}(c:d () a):ew #[4] A (match b with |ba=>rule "set.scan.the-table-gave-way" |b0=>y8 ()) d E a:=by
 cases b
 ·exact bo c
 exact OL c
theorem yN {g:fg->Sem ab9}(H:∀ (b:fg) (d:cv) (B:ab9->cv->Prop),B () d->ew #[4] A (g b) B E d)
  {a:cn}{o:Obj}{es:ib (Int×ax)}{ep:Nat}{t:E1}(q:s.heap.get? a=ag o) (hex:o.ExactSet) (hd:o.data = .set es ep t)
  {c:ib (Int×ax)}{t2:E1}{m:ak K}(n:∃ l:ak (Int×ax),l.Perm c.toList/\lU (wB knd) m l)
  (hb:c.size<XR) (I:t2.fits c.size=ba) (x:t2.led=led) (C:t2.plain=ba->∀ k∈m,pk k=ba) (hr:NG t2.place) {J:fg}{R:a9 fg->cv->Prop}
  (h:∀ h',UP a s.heap h'->Mr knd pk led h' a m->R (ag ba) { s with heap:=h' }) :
  ew #[4] A (do
    storeSet a c t2
    if (!J&&t2.tooFull)=ba then do
      g (Yt t2 c (Tc c.size)).2.2
      storeSet a (Yt t2 c (Tc c.size)).1 (Yt t2 c (Tc c.size)).2.1
      y8 (ag ba)
     else y8 (ag ba)) R E s:=by
 obtain⟨D,F⟩:=Mr.stored (knd:=knd) (pk:=pk) q hex hd n hb I x C hr;refine av (wpAny_storeSet_of q hd ?_ (fits_of_scanBound hb));have sb:=Wo s.heap a (aa5 c t2);split
 ·have e:=relayAll_perm t2 c (Tc c.size);have j:=relayAll_fits t2 c (Tc c.size);have f:=tD t2 c (Tc c.size);have i:=tx (t:=t2) c (Tc c.size);revert e j f i;generalize Yt t2 c (Tc c.size)=Y;intro e j f i;obtain⟨u,M,L⟩:=Y;simp only at e j f i ⊢;have z:u.size=c.size:=by have:=e.length_eq;simpa using this
  obtain⟨l,p,r⟩:=n;have v:u.size<XR:=by rw[z];exact hb
  obtain⟨_,G⟩:=Mr.stored (knd:=knd) (pk:=pk) (led:=led) D hex rfl ⟨l,p.trans e.symm,r⟩ v j (f.1.trans x) (λy=>C (f.2 y)) i;exact av (H _ _ _ (av (wpAny_storeSet_of D rfl (bo (h _ (sb.trans (Wo _ a _)) G)) (fits_of_scanBound v))))
 exact bo (h _ sb F)
theorem El {a:cn}{c:ak K}{k:K}{x:ax}{Q:fg->cv->Prop}(M:plainKind x=pk k)(R:knd.is k x=ba)(J:x.scannable=ba)(hS:Mr knd pk led s.heap a c)(I:c.length+1<XR)
  (h:∀ b h',UP a s.heap h'->Mr knd pk led h' a (dM c k)->Q b { s with heap:=h' }):ew #[4] A (setAddHashed a x (knd.hash k)) Q E s:=by
 obtain⟨o,es,ep,t,u,hex,hd,g,hb,F,C,D,y⟩:=hS;have v:=Mr.elems (h:=s.heap) (a:=a) g;have hn:es.size=c.length:=by obtain⟨l,p,r⟩:=g;have e1:=p.length_eq;have e2:=nG r;simp only[ky] at e1;omega
 unfold setAddHashed setAddHashedIn;refine A2 (av (Vt u hd F ?_));simp only;rw[byScan_of J hb v,dm rfl];unfold setAddByScan;refine av (av (OL (av (wpAny_setScan_of R u hd F v ?_))));cases hr:List.findIdx? (λe=>knd.is k e.2) es.toList with
 |some j =>
  obtain⟨U,H,_⟩:=List.findIdx?_eq_some_iff_getElem.mp hr;have N:k∈c:=(Mr.mem g k).mpr ⟨es.toList[j],Oy U,H⟩;refine bo (bo ?_);exact h _ s.heap (Heap.SameBut.refl a s.heap) ⟨o,es,ep,t,u,hex,hd,by unfold dM;rw[dm N];exact g,hb,F,C,by unfold dM;rw[dm N];exact D,y⟩
 |none =>
  have X:k∉c:=λZ=>by obtain⟨e,he,D⟩:=(Mr.mem g k).mp Z;have q:=List.findIdx?_eq_none_iff.mp hr e he;rw[D] at q;cases q
  have V:dM c k=c++[k]:=by unfold dM;rw[dV X]
  rw[V] at h;have i:=layNew_perm t es (knd.hash k) x;have f:=layNew_fits t es (knd.hash k) x;have d:=xN t es (knd.hash k) x;have m:=xM es (knd.hash k) x y;rw[0];revert i f d m;generalize ad1 t es (knd.hash k) x=Y;intro i f d m;obtain⟨S,t1,wd,gv⟩:=Y;simp only at i f d m ⊢;rw[Yq] at i;have O:∃ l:ak (Int×ax),l.Perm S.toList/\lU (wB knd) (c++[k]) l:=by obtain⟨l,p,r⟩:=g;exact⟨l++[(knd.hash k,x)],(p.append_right _).trans i.symm,u9 r ⟨R,rfl,J⟩⟩
  have n:S.size<XR:=by have:=i.length_eq;simp only[ky,da,UC] at this;omega
  refine av (pM gv ?_);split
  ·rename_i P;refine av ?_;rw[hashByValue_scannable 8 J];refine bo ?_;refine yN (pk:=pk) (led:=led) (λb B T L=>pM b L) u hex hd O n ?_ ?_ ?_ ?_ λh' sb G=>?_
   ·split
    ·exact f
    exact SetTable.fits_plain_off f
   ·split
    ·exact d.1.trans C
    exact d.1.trans C
   ·split
    ·rename_i hv;intro W k' SD;rcases lk.mp SD with SD |SD
     ·exact D (d.2 W) k' SD
     rw[hM.mp SD,← M];exact hv
    intro z;cases z
   ·split<;>exact m
   exact bo (h _ h' sb G)
  rename_i P;refine av (bo ?_);rw[dm rfl];refine yN (pk:=pk) (led:=led) (λb B T L=>pM b L) u hex hd O n f (d.1.trans C) (λz=>ku z P) m λh' sb G=>?_;exact bo (h _ h' sb G)
end
namespace SF
theorem P6:ad2 table "set.update.loop"=ag Builtin.«set.update.loop»:=entryFor_of_tree (by kernel_rfl)
theorem PJ:plainId "set.update.loop"=ba:=by decide
theorem Ws (a:ax):checkTypeCall "set" ⟨[a],[]⟩=y8 ():=by kernel_rfl
theorem Wt (a:ax):XW "set.__new__" ⟨[.type "set",a],[]⟩=y8 ():=by kernel_rfl
theorem R7:ad2 table "set.__iter__"=ag Builtin.«frozenset.__iter__»:=entryFor_alias (id':="frozenset.__iter__") (by kernel_rfl) rfl #[2] (by kernel_rfl)
theorem slot_next:Slot "set_iterator" "__next__" "set_iterator.__next__":=
 .of (owner:="set_iterator") (n:="__next__") (by rw[typeLookup_type,abm];kernel_rfl) #[2] #[2] #[2]
  (by first |exact .inl #[2] |exact .inr #[2]) (by rw[isSubtype_type];kernel_rfl)
theorem slot_self:Slot "set_iterator" "__iter__" "set_iterator.__iter__":=
 .of (owner:="set_iterator") (n:="__iter__") (by rw[typeLookup_type,abm];kernel_rfl) #[2] #[2] #[2]
  (by first |exact .inl #[2] |exact .inr #[2]) (by rw[isSubtype_type];kernel_rfl)
theorem P7:ad2 table "set_iterator.__next__"=ag Builtin.«set_iterator.__next__»:=entryFor_of_tree (by kernel_rfl)
theorem R8:Manifest.owners.lookup (String.ofList ['r','o','t','a','r','e','t','i','_','t','e','s'].reverse)=ag Manifest.sig_set_iterator:=by kernel_rfl
theorem args_next (a:ax):argsOk "set_iterator.__next__" ⟨[a],[]⟩:=by unfold argsOk;rw[signature?_of (id:="set_iterator.__next__") (n:=['_','_','t','x','e','n','_','_']) (o:=['r','o','t','a','r','e','t','i','_','t','e','s']) (by kernel_rfl) R8];kernel_rfl
end SF
section
variable {prog:fh}{w:il}{K:Type} [PR K] {knd:abq prog w K}{pk:K->fg}{led:fg}
noncomputable def met (val:Nat->K)(i:Nat):ak K:=((gx i).map val).foldl dM []
theorem vt (val:Nat->K)(i:Nat):met val (i+1)=dM (met val i) (val i):=by unfold met;rw[adG,Q5,List.foldl_append];rfl
theorem y6 (val:Nat->K):∀ i,(met val i).length<=i
 | 0=>hB _
 |i+1=>by
  have a:=y6 val i;rw[vt];unfold dM;split
  ·omega
  rw[da,UC];omega
section
variable {A:jl}{R:ada->cv->Prop}{I:cn}{fp wr:ak cn}{G:ib adO->ib adO->Prop}{n:Nat}{P:Nat->ax->Prop}{St:Nat->cv->Prop}
theorem Mr.keep {h h':kx}{a:cn}{b:ak K}(x:Mr knd pk led h a b)(e:∀ o,h.get? a=ag o->h'.get? a=ag o):Mr knd pk led h' a b:=by obtain⟨o,es,ep,t,c,r⟩:=x;exact⟨o,es,ep,t,e o c,r⟩
theorem B7 (W:WalksS prog w A.in1 I fp wr G n P St)(S:cn)(m:S∉fp)(val:Nat->K)(y:∀ i v,P i v->knd.is (val i) v=ba/\v.scannable=ba/\plainKind v=pk (val i))(hb:n+1<XR) :
  ∀ (k i:Nat) (s:cv),n-i=k->i<=n->St i s->Mr knd pk led s.heap S (met val i) ->
   (∀ s',Moved (S::wr) G s s'->Mr knd pk led s'.heap S (met val n)->R (.ok (.ret .none)) s') ->
   X2 #[4] A (.builtin "set.update.loop" ⟨[.ref S,.ref I],[]⟩) R s:=by
 have c:S∉wr:=λh=>m (W.sub _ h);intro k
 induction k with
 |zero =>
  intro i s x E st d f;obtain rfl:i=n:=#[1]
  refine abe SF.P6 ?_;rw[Yw SF.PJ _];show ew _ A.in1 (aaM (.ref I) >>= _) _ _ s;refine av (W.done s _ _ st λs' a=>?_);show ew _ A.in1 (ret R6) _ _ s';exact bo (f s' (a.mono λb hb=>eJ _ hb) (d.keep λo e=>a.heap S o c e))
 |succ k D =>
  intro i s x E st d f;have l:i<n:=#[1]
  refine abe SF.P6 ?_;rw[Yw SF.PJ _];show ew _ A.in1 (aaM (.ref I) >>= _) _ _ s;refine av (W.item i s _ _ l st λv s' q u a=>?_);obtain⟨j,p,t⟩:=y i v q;show ew _ A.in1 (V2 [v] (setAdd S v) >>= _) _ _ s';refine av (A2 ?_);unfold setAdd;refine A2 (av (knd.pyHash j ?_));have hr:(met val i).length+1<XR:=by have:=y6 val i;omega
  refine El (pk:=pk) (led:=led) (s:={ s' with toks:=s'.toks+1 }) t j p (d.keep λo e=>a.heap S o c e) hr λb F sb g=>?_;rw[← vt] at g;refine bo ⟨plainId_quiet SF.PJ _,D (i+1) _ #[0] l (W.frame _ s' _ _ u (aac _) λb hb o e=>?_) g λVV r B=>?_⟩
  ·rw[sb.2 b (λz=>m (z▸hb))];exact e
  refine f VV (Moved.trans W.gtrans ((a.mono λb hb=>eJ _ hb).then_heap (aac _) λb o C e=>?_) r) B;rw[sb.2 b (λz=>C (z▸gy))];exact e
end
section
variable {A:jl}{E:Lm}{s:cv}
noncomputable def P8 (w:il):fg:=w.params.followText "set-order"
abbrev nY (w:il):Obj:={ cls:=.type "set",dict:=ay,data:=.set #[] 0 (.fresh 0 0 (!P8 w)) }
theorem B6 (a:ax){Q₁:Lm}(h:Q₁ (#[15]) { s with heap:=s.heap.push (nY w) }) :
  X2 #[4] A (.call (.builtin "set.__new__") ⟨[.type "set",a],[]⟩) (wants Q₁ E) s:=by
 refine codeAny_of_tree ?_;show ew _ A.in1 (do XW "set.__new__" ⟨[.type "set",a],[]⟩;again (.builtin "set.__new__" ⟨[.type "set",a],[]⟩)) _ _ s;refine av (adw (SF.Wt a) (bo ⟨plainId_quiet F.plain_set_new _,abe F.entry_set_new ?_⟩));rw[Yw F.plain_set_new _];unfold Builtin.«set.__new__» ad3;have q:=sub_set_self;obtain⟨b,g,d,tk,os⟩:=s;rw[0]
 wp_walk
 refine aaI (bo ?_);simp only[newObj];exact av (wpAny_alloc (bo (bo h)))
theorem Aw {M:Model}{self a:ax}{Q:ab9->cv->Prop}(c:s.TypeIs self "set")(h:Q () s):ew M A (XW "set.__init__" ⟨[self,a],[]⟩) Q E s:=by
 simp only[XW,kind_set_init,split_set_init,sig_set_init];refine av (V0 c sub_set_self ?_);simp only[RT,lg,r3];unfold Bind.checkArgs;rw[0];refine av (m:=Bind.printed "set" ba _ _) (PyProof.Rows.printed_name #[2] ?_);refine av (m:=Bind.printed "*" b0 _ _) (PyProof.Rows.printed_star (self:=self) rfl c λb=>?_);have d:(aa6==aa7)=b0:=#[6]
 have g:(if (aa6==aa7)=ba then [self,a].length else [self,a].length-1)=1:=by simp[d]
 rw[g];simp only[aaU];have j:(Ti==Ti)=ba:=#[6]
 have i:(Ti==ad4)=b0:=#[6]
 have e:(Ti==aek)=b0:=#[6]
 have f:Bind.check ⟨.positional,"set","*",.self,[⟨"iterable",.posOnly,b0⟩]⟩ "set" b 1 []=y8 ():=by simp[Bind.check,Bind.checkCount,Bind.isPositional,j,i,e]
 rw[f];exact bo h
theorem Mr.start {h:kx}{a:cn}(e:h.get? a=ag (nY w)):Mr knd pk (!P8 w) h a []:=
 ⟨nY w,#[],0,.fresh 0 0 (!P8 w),e,⟨rfl,rfl,rfl⟩,rfl,⟨[],.refl _,.nil⟩,#[6],by rfl,rfl,(λ_ k b=>by cases b),Vl⟩
end
end
end L2
namespace L2
open PySem
section
variable {prog:fh}{w:il}{A:jl}{E:Lm}{s:cv}
theorem wp_choose {a:Source}{n:Nat}{Q:Nat->cv->Prop}(b:n≠0)(h:∀ i,i<n->Q i { s with drawn:=s.drawn.bump a }):ew #[4] A (choose a n) Q E s:=
 λ_ _ _=>⟨b,h _ (Nat.mod_lt _ (acG b))⟩
theorem kJ {α:Type}:∀ {xs:ak α}{i:Nat}{x : α},xs[i]?=ag x->(x::xs.eraseIdx i).Perm xs
 |[],_,_,h=>by simp at h
 |y::ys,0,x,h=>by simp at h;subst h;exact .refl _
 |y::ys,i+1,x,h=>by
  rw[vr] at h;rw[List.eraseIdx_cons_succ];exact(List.Perm.swap y x _).trans ((kJ h).cons y)
theorem kY {α:Type}:∀ (n:Nat) (xs:ak α) {s:cv}{Q:ak α->cv->Prop},xs.length=n->(∀ ys d,ys.Perm xs->Q ys { s with drawn:=d })->ew #[4] A (drawOrder n xs) Q E s
 | 0,xs,s,Q,a,h=>by
  obtain rfl:=SK.mp a;unfold drawOrder;exact bo (h [] s.drawn (.refl _))
 |n+1,[],s,Q,a,h=>by simp at a
 |n+1,x::r,s,Q,a,h=>by
  unfold drawOrder;refine av (wp_choose #[3] λi b=>?_);have e:=bc b;rw[e];rw[0];refine av (kY n _ (by rw[ZN b,a];omega) λys d p=>?_);exact bo (h _ d ((p.cons _).trans (kJ e)))
theorem rm {α:Type}(next:Nat->Nat):∀ (m k:Nat) (left:ak α) (out:ib α),left.length=m->(ac4 next m k left out).toList.Perm (out.toList++left)
 | 0,k,left,out,a=>by
  obtain rfl:=SK.mp a;unfold ac4;rw[i3]
 |m+1,k,left,out,a=>by
  have b:next k % left.length<left.length:=Nat.mod_lt _ #[0]
  have e:=bc b;unfold ac4;rw[e];rw[0];refine(rm next m (k+1) _ _ (by rw[ZN b,a];omega)).trans ?_;rw[Yq,kg];exact(kJ e).append_left _
def MC (h:kx)(it a:cn)(first:ax)(i n ep:Nat):Prop:=∃ o,h.get? it=ag o/\o.cls = .type "set_iterator"/\o.data = .fields #[first,.int i 0,.ref a,.int n 0,.int ep 0]
inductive Way (w:il) (a it:cn) (es:ib (Int×ax)) (ep:Nat) (t:E1):ib (Int×ax)->ak cn->(Nat->ax->kx->Prop)->Prop where
 |text (hb:P8 w=ba):Way w a it es ep t (pickOrder (w.params.setOrder a ep) es) [it,a] (λ_ f _ => ∃ k:Nat,f = .int k 0)
 |one (hb:P8 w=b0) (hl:t.led=ba) (h1:t.plain=ba∨es.size<=1) (hr:NG t.place):Way w a it es ep t es [it,a] (λi f _ => ∃ k:Nat,f = .int k 0/\kh t.place k=i)
 |drawn (hb:P8 w=b0) (hp:t.plain=b0) (h1 : 1<es.size) (tp:cn) (order:ak Nat) (ho:order.Perm (gx es.size)):tp≠it ->
  Way w a it es ep t (order.filterMap λi=>es[i]?).toArray [it,a,tp] (λ_ f h=>f = .ref tp/\h.IsTuple tp (order.map λ(i:Nat)=>Xs i 0).toArray)
theorem AQ {es:ib (Int×ax)}{order:ak Nat}(d:order.Perm (gx es.size)):(order.filterMap λi=>es[i]?).length=order.length/\∀ i:Nat,(order.filterMap λi=>es[i]?)[i]?=(order[i]?).bind λj=>es[j]?:=by
 have c:∀ j∈order,j<es.size:=λj a=>aaB.mp (d.mem_iff.mp a);clear d
 induction order with
 |nil=>exact⟨rfl,λi=>by simp⟩
 |cons j r h =>
  have a:=c j (gy ..);obtain⟨f,g⟩:=h λk e=>c k (eJ _ e);rw[List.filterMap_cons_some (b:=es[j]) (by simp[a])];refine⟨by simp[f],λi=>?_⟩;cases i with
  |zero=>simp[a]
  |succ i=>simpa using g i
theorem Way.perm {a it:cn}{es:ib (Int×ax)}{ep:Nat}{t:E1}{out:ib (Int×ax)}{fp:ak cn}{F:Nat->ax->kx->Prop}(y:Way w a it es ep t out fp F):out.toList.Perm es.toList:=by
 cases y with
 |text hb=>simpa [pickOrder] using rm (w.params.setOrder a ep) es.size 0 es.toList #[] #[3]
 |one=>exact .refl _
 |drawn hb d e tp order b c =>
  have q:=b.filterMap λi=>es[i]?;rw[filterMap_getElem?_range] at q;simpa using q
end
section
variable {prog:fh}{w:il}{A:jl}{E:Lm}{s:cv}
variable {a it:cn}{o:Obj}{es:ib (Int×ax)}{ep:Nat}{t:E1}
theorem jx {Q:fg->cv->Prop}(h:Q (P8 w) s):ew #[4] A setsByText Q E s:=by unfold setsByText;exact av (aaI (bo h))
theorem uF {Q:fg->cv->Prop}(c:s.heap.get? a=ag o)(hd:o.data = .set es ep t)(b:t.fits es.size=ba)(h:Q (!P8 w&&(!t.plain&&dv (es.size > 1))) s):ew #[4] A (setDrawn a) Q E s:=by unfold setDrawn;refine av (Vt c hd b ?_);rw[0];exact av (jx (bo h))
theorem xq {Q:Lm}(c:s.heap.get? a=ag o)(hex:o.ExactSet)(hd:o.data = .set es ep t)(j:t.fits es.size=ba)(hz:es.size<=d4)(p:P8 w=b0->t.led=ba)(hr:NG t.place)
  (h:∀ it out fp F first h' d,Way w a it es ep t out fp F->MC h' it a first 0 es.size ep->F 0 first h'->(∀ b o,#[18]=ag o->h'.get? b=ag o)->s.heap.objs.size<=it->(∀ b∈fp,b=a∨s.heap.objs.size<=b) ->
   Q (.ref it) { s with heap:=h',drawn:=d }):ew #[4] A (acv (.ref a)) Q E s:=by
 have m:s.TypeIs (.ref a) "set":=⟨o,c,hex.1⟩;refine wpAny_pyIter_slot m F.slot_set_iter (mm F.slot_set_iter m SF.R7 ?_ (F.args_set_iter_1 _));unfold Builtin.«frozenset.__iter__» aes slotArgs;simp only[List.isEmpty_nil,RT,lg,↓reduceIte,bind_assoc,aaT,aaj];unfold aen aeo;refine av (bo ?_)
 try rw[0]
 refine av (bo ?_);refine av (av (wpAny_setEntries_of c hd j (bo ?_)));refine av (uF c hd j ?_);have q:a<s.heap.objs.size:=eM c;cases hc:(!P8 w&&(!t.plain&&dv (es.size > 1))) with
 |true =>
  rw[mc,mc,aah,aah] at hc;obtain⟨hb,k,g⟩:=hc;have g:=ll g;rw[dm rfl];refine av (kY es.size (gx es.size) #[3] λorder d n=>?_);have f:order.length=es.size:=by rw[n.length_eq,p0]
  refine av (abH ?_ (by rw[d7,f];exact hz));refine av (wpAny_setEpoch_of (cc _ c) hd j ?_);refine av (oa (bo ⟨_,rfl,"set_iterator",_,⟨_,e8 _ rfl,rfl⟩,SF.slot_next.lookup,?_⟩))
  refine h _ _ _ _ (#[15]) _ d (Way.drawn hb k g s.heap.objs.size order n ?_) ⟨_,e8 _ rfl,rfl,rfl⟩ ⟨rfl,⟨_,cc _ (e8 _ rfl),rfl,0,?_⟩⟩
   (λb o e=>cc _ (cc _ e)) ?_ ?_
  ·rw[pd];exact nq (US _)
  ·rfl
  ·rw[pd];exact aac _
  intro b hb;rcases f5.mp hb with e |hb
  ·rw[e,pd];exact .inr (aac _)
  rcases f5.mp hb with e |hb
  ·exact .inl e
  rw[hM.mp hb];exact .inr (hB _)
 |false =>
  rw[dV #[2]];refine av (bo ?_);refine av (wpAny_setEpoch_of c hd j ?_);refine av (oa (bo ⟨_,rfl,"set_iterator",_,⟨_,e8 _ rfl,rfl⟩,SF.slot_next.lookup,?_⟩))
  have l:∀ b∈[s.heap.objs.size,a],b=a∨s.heap.objs.size<=b:=λb hb=>by
   rcases f5.mp hb with e |hb
   ·rw[e];exact .inr (hB _)
   exact .inl (hM.mp hb)
  cases hb:P8 w with
  |true=>exact h _ _ _ _ (.int 0 0) _ s.drawn (Way.text hb) ⟨_,e8 _ rfl,rfl,rfl⟩ ⟨0,rfl⟩ (λb o e=>cc _ e) (hB _) l
  |false =>
   have g:t.plain=ba∨es.size<=1:=by
    cases k:t.plain with
    |true=>exact #[9]
    |false =>
     rw[hb,k] at hc;have:=of_decide_eq_false (show dv (es.size > 1)=b0 from hc);exact .inr #[0]
   exact h _ _ _ _ (.int 0 0) _ s.drawn (Way.one hb (p hb) g hr) ⟨_,e8 _ rfl,rfl,rfl⟩ ⟨0,rfl,wm hr (Tp _) (λi _ z=>ku z #[0]) λi _ _=>Tp _⟩ (λb o e=>cc _ e) (hB _) l
theorem MC.ty {first:ax}{i n:Nat}(x:MC s.heap it a first i n ep):s.TypeIs (.ref it) "set_iterator":=let ⟨o,b,hc,_⟩:=x;⟨o,b,hc⟩
theorem iJ {k i:Nat}{Q:a9 (ax×Nat)->cv->Prop}(c:s.heap.get? a=ag o)(hd:o.data = .set es ep t)(b:t.fits es.size=ba)(hb:P8 w=ba)
  (h:Q (((pickOrder (w.params.setOrder a ep) es)[i]?).map λe=>(e.2,k)) s):ew #[4] A (setNext a k i ep) Q E s:=by
 unfold setNext;refine av (Vt c hd b ?_);rw[0];refine av (jx ?_);rw[hb,dm rfl,dV #[3]];refine av ?_;unfold setWalk;refine av (Vt c hd b ?_);rw[0];refine av (jx ?_);rw[hb,dm rfl];exact av (aaI (bo (bo h)))
theorem i0 {k i:Nat}{Q:a9 (ax×Nat)->cv->Prop}(e:s.heap.get? a=ag o)(hd:o.data = .set es ep t)(c:t.fits es.size=ba)(hb:P8 w=b0)(d:t.led=ba)(h1:t.plain=ba∨es.size<=1)
  (h:Q (match es[kh t.place k]?,t.place[kh t.place k]? with |ag (_,x),ag j=>ag (x,j+1) |_,_=>ay) s):ew #[4] A (setNext a k i ep) Q E s:=by
 unfold setNext;refine av (Vt e hd c ?_);rw[0];refine av (jx ?_);rw[hb,dV #[2]]
 have b:(!t.plain&&dv (es.size > 1))=b0:=by
  rcases h1 with h1 |h1
  ·rw[h1];rfl
  rw[eh #[0],ad6]
 show ew _ _ (if (!t.plain&&dv (es.size > 1))=ba then _ else _) _ _ _;rw[b,dV #[2]];refine av ?_;show ew _ _ (if (!t.led&&!es.isEmpty)=ba then _ else _) _ _ _;rw[d,dV #[3]];exact bo (bo h)
end
section
variable {prog:fh}{w:il}{A:jl}{E:Lm}{s:cv}
variable {a it:cn}{o:Obj}{es:ib (Int×ax)}{ep:Nat}{t:E1}
theorem qS {h:kx}{first f':ax}{i n:Nat}(x:MC h it a first i n ep) :
  MC (h.update it (Obj.mapFields (·.setIfInBounds 0 f'))) it a f' i n ep:=by
 obtain⟨o,b,hc,hd⟩:=x;exact⟨_,Tx _ b (Xo (SN hd _)),(aag ..).trans hc,by rw[SN hd];simp⟩
theorem qT {h:kx}{first:ax}{i n:Nat}(x:MC h it a first i n ep) :
  MC (h.update it (Obj.mapFields (·.setIfInBounds 1 (aaN ((i:Int)+1))))) it a first (i+1) n ep:=by
 obtain⟨o,b,hc,hd⟩:=x;exact⟨_,Tx _ b (Xo (SN hd _)),(aag ..).trans hc,by rw[SN hd];simp[aaN]⟩
set_option maxHeartbeats 1000000 in
theorem next_item {out:Array (Int×Value)}{fp:List Addr}{F:Nat->Value->Heap->Prop}{first:Value}{i:Nat}{x:Int×Value}{Q:Option Value->Shared->Prop}(y:Way w a it es ep t out fp F)(ME:a≠it)(d:s.heap.get? a=some o)(hd:o.data = .set es ep t)
  (c:t.fits es.size=true) (b:MC s.heap it a first i es.size ep) (g:F i first s.heap) (f:out[i]?=some x)
  (J:∀ f' h',MC h' it a f' (i+1) es.size ep->F (i+1) f' h'->Heap.SameBut it s.heap h'->Q (some x.2) { s with heap:=h' }):wpAny (model prog w) A (pyNext (.ref it)) Q E s:=by
 obtain⟨oi,u,TU,C⟩:=id b;unfold pyNext;refine wpAny_bind (wpAny_attempt (wpAny_callSpecial?_slot (name:=Str.ofString "__next__") b.ty SF.slot_next (wpAny_call_entry SF.slot_next b.ty SF.P7 ?_ (SF.args_next _))));unfold Builtin.«set_iterator.__next__»;refine wpAny_bind (wpAny_pure ?_);refine wpAny_bind (wpAny_fieldsOf u C ?_);dsimp only;refine wpAny_bind (wpAny_setEntries_of d hd c ?_);rw[if_neg (by simp)]
 have step:∀ (f':Value),F (i+1) f' ((s.heap.update it (Obj.mapFields (·.setIfInBounds 0 f'))).update it (Obj.mapFields (·.setIfInBounds 1 (rawInt ((i:Int)+1)))))->∀ (k:Nat),f'=rawInt k->∀ (K:Lm),
   wpAny (model prog w) A.in1 (do setField (.ref it) 0 (rawInt k);setField (.ref it) 1 (rawInt ((i:Int)+1));ret x.2) (λfin N => ∃ v,fin = .done (.ret v)/\Q (some v) N) K s:=by
  rintro f' z k rfl K;refine wpAny_bind (wpAny_setField u C (by simp) ?_);have I:=qS (f':=rawInt k) b;obtain⟨o1,QT,Wu,X⟩:=id I;refine wpAny_bind (wpAny_setField QT X (by simp) (wpAny_pure ⟨_,rfl,?_⟩));exact J _ _ (qT I) z ((Heap.SameBut.update ..).trans (Heap.SameBut.update ..))
 cases y with
 |text hb =>
  obtain⟨k,rfl⟩:=g;dsimp only;refine wpAny_bind (iJ d hd c hb ?_);simp only[Int.toNat_natCast];rw[f];exact wpAny_mono (step (rawInt k) ⟨k,rfl⟩ k rfl _) (λ_ _ h=>let ⟨v,e,q⟩:=h;⟨v,e,wpAny_pure q⟩) λ_ _ h=>h
 |one hb S H hr =>
  have hi:i<es.size:=(Array.getElem?_eq_some_iff.mp f).1;have Z:t.place.size=es.size:=by have:=c;simp only[SetTable.fits,and_eq_true,beq_iff_eq] at this;exact this.1
  obtain⟨k,rfl,V⟩:=g;have m:t.place[i]?=some t.place[i]:=Array.getElem?_eq_getElem (by omega)
  have U:SetTable.below t.place (t.place[i]+1)=i+1:=wm hr (by omega) (λn L M0=>by
   rcases lt_or_ge n i with q |q
   ·have:=hr.lt q (show i<t.place.size by omega);omega
   have e:n=i:=by omega
   subst e;omega) λn L XM=>hr.lt (show i<n by omega) L
  dsimp only;refine wpAny_bind (i0 d hd c hb S H ?_);rw[Int.toNat_natCast,V,f,m];exact wpAny_mono (step (rawInt ((t.place[i]+1:Nat):Int)) ⟨_,rfl,U⟩ (t.place[i]+1) rfl _) (λ_ _ h=>let ⟨v,e,q⟩:=h;⟨v,e,wpAny_pure q⟩) λ_ _ h=>h
 |drawn hb hp H tp order R j =>
  obtain⟨rfl,Y⟩:=g;obtain⟨B,M,T,l,D⟩:=id Y;dsimp only;refine wpAny_bind (wpAny_seqItems M D ?_);obtain⟨g1,P⟩:=AQ (es:=es) R;have G:(order.filterMap λi=>es[i]?)[i]?=some x:=by simpa using f
  rw[P i] at G;obtain⟨p,r,O⟩:=bind_eq_some_iff.mp G;have W:((order.map λ(i:Nat)=>Value.int i 0).toArray)[Int.toNat (i:Int)]?=some (.int p 0):=by rw[Int.toNat_natCast,List.getElem?_toArray,getElem?_map,r];rfl
  dsimp only;rw[W];dsimp only;refine wpAny_bind ?_;unfold setNextDrawn;refine wpAny_bind (wpAny_setState_of d hd c ?_);dsimp only;rw[Int.toNat_natCast,Int.toNat_natCast,if_neg (by simp),O];refine wpAny_pure ?_;refine wpAny_bind (wpAny_setField u C (by simp) (wpAny_pure ⟨_,rfl,wpAny_pure ?_⟩));exact J _ _ (qT b) ⟨rfl,⟨B,((Heap.SameBut.update ..).2 tp j).trans M,T,l,D⟩⟩ (Heap.SameBut.update ..)
end
section
variable {prog:fh}{w:il}{A:jl}{E:Lm}{s:cv}
variable {a it:cn}{o:Obj}{es:ib (Int×ax)}{ep:Nat}{t:E1}
theorem xp {α:Type}{Q : α->cv->Prop}(c:A.handled=ay)(h:∀ h' e,(∀ b o,#[18]=ag o->h'.get? b=ag o)->(∃ o,h'.get? e=ag o/\o.cls = .type "StopIteration")->E (.ref e) { s with heap:=h' }) :
  ew #[4] A (newExc (.type "StopIteration") [] >>= λe=>(raiseNew e:Sem α)) Q E s:=by
 refine av ?_;simp only[newExc,newTuple];refine av (oa ?_ (by size_fits));refine av (m:=ZL _ _) (adw (a:=R6) (by first |rfl |(simp only[ZL];rfl)) ?_);refine oa ?_ (by size_fits);simp only[raiseNew];refine av (wpAny_handled ?_);rw[c];refine av (bo (wpAny_throw ?_));exact h _ _ (λb o e=>cc _ (cc _ e)) ⟨_,e8 _ rfl,rfl⟩
set_option maxHeartbeats 1000000 in
theorem next_end {out:Array (Int×Value)}{fp:List Addr}{F:Nat->Value->Heap->Prop}{first:Value}{Q:Option Value->Shared->Prop}(O:A.handled=none)(y:Way w a it es ep t out fp F)(ME:a≠it)(m:s.heap.get? a=some o)(hd:o.data = .set es ep t)
  (n:t.fits es.size=true) (c:MC s.heap it a first es.size es.size ep) (l:F es.size first s.heap)
  (I:∀ h',(∀ b o,b≠it->s.heap.get? b=some o->h'.get? b=some o)->Q none { s with heap:=h' }):wpAny (model prog w) A (pyNext (.ref it)) Q E s:=by
 have V:out.size=es.size:=by have:=y.perm.length_eq;simpa using this
 obtain⟨oi,h,X,j⟩:=id c;unfold pyNext;refine wpAny_bind (wpAny_attempt (wpAny_callSpecial?_slot (name:=Str.ofString "__next__") c.ty SF.slot_next (wpAny_call_entry SF.slot_next c.ty SF.P7 ?_ (SF.args_next _))));unfold Builtin.«set_iterator.__next__»;refine wpAny_bind (wpAny_pure ?_);refine wpAny_bind (wpAny_fieldsOf h j ?_);dsimp only;refine wpAny_bind (wpAny_setEntries_of m hd n ?_);rw[if_neg (by simp)]
 have fin:∀ (g:Shared) (p:Fin->Shared->Prop),(∀ b o,b≠it->s.heap.get? b=some o->g.heap.get? b=some o)->(∀ h',({ s with heap:=h' }:Shared)={ g with heap:=h' }) ->
   wpAny (model prog w) A.in1 (newExc (.type "StopIteration") [] >>= λe=>(raiseNew e:Sem Fin)) p
    (λe u=>wpAny (model prog w) A (do let b ← isInstance e (.type "StopIteration");if b=true then pure none else throw e) Q E u) g:=λg p r L=>by
  refine xp (by simp[O]) λh' e k M=>?_;obtain⟨D,G,J⟩:=M;refine wpAny_bind (wpAny_isInstance (T:="StopIteration") (b:=true) ⟨D,G,J⟩ isSubtype_stop ?_);rw[if_pos rfl];refine wpAny_pure ?_;rw[← L];exact I h' λb o d e=>k b o (r b o d e)
 have up:∀ (f:Array Value->Array Value) b o,b≠it->s.heap.get? b=some o->(s.heap.update it (Obj.mapFields f)).get? b=some o:=λf b o d e=>((Heap.SameBut.update ..).2 b d).trans e;cases y with
 |text hb =>
  obtain⟨k,rfl⟩:=l;dsimp only;refine wpAny_bind (iJ m hd n hb ?_);simp only[Int.toNat_natCast];rw[Array.getElem?_eq_none (by omega)];refine wpAny_bind (wpAny_setField h j (by simp) ?_);exact fin _ _ (up _) λ_=>rfl
 |one hb C q hr =>
  have key:∃ k:Nat,first = .int k 0/\es[SetTable.below t.place k]?=none:=by obtain⟨k,rfl,e⟩:=l;exact⟨k,rfl,by rw[e];exact Array.getElem?_eq_none (le_refl _)⟩
  obtain⟨k,rfl,K⟩:=key;dsimp only;refine wpAny_bind (i0 m hd n hb C q ?_);rw[Int.toNat_natCast,K];refine wpAny_bind (wpAny_setField h j (by simp) ?_);exact fin _ _ (up _) λ_=>rfl
 |drawn hb hp q tp order x z =>
  obtain⟨rfl,U⟩:=l;obtain⟨R,N,Y,B,v⟩:=id U;dsimp only;refine wpAny_bind (wpAny_seqItems N v ?_);dsimp only;have P:((order.map λ(i:Nat)=>Value.int i 0).toArray)[Int.toNat (es.size:Int)]?=none:=by rw[Int.toNat_natCast,List.getElem?_toArray,List.getElem?_eq_none];rw[length_map,x.length_eq,length_range];exact le_refl _
  rw[P];dsimp only;refine wpAny_bind (wpAny_setField h j (by simp) ?_);have H:=qS (f':=rawInt 0) c;obtain⟨o1,W,Z,S⟩:=id H;refine wpAny_bind (wpAny_setField W S (by simp) ?_);exact fin _ _ (λb o d e=>((Heap.SameBut.update ..).2 b d).trans (up _ b o d e)) λ_=>rfl
theorem Dv:ad2 table "set_iterator.__iter__"=ag Builtin.«dict_keyiterator.__iter__»:=entryFor_alias (id':="dict_keyiterator.__iter__") (by kernel_rfl) rfl #[2] (by kernel_rfl)
theorem args_self (a:ax):argsOk "set_iterator.__iter__" ⟨[a],[]⟩:=by unfold argsOk;rw[signature?_of (id:="set_iterator.__iter__") (n:=['_','_','r','e','t','i','_','_']) (o:=['r','o','t','a','r','e','t','i','_','t','e','s']) (by kernel_rfl) SF.R8];kernel_rfl
theorem Ca {first:ax}{i n:Nat}{Q:Lm}(b:MC s.heap it a first i n ep)(h:Q (.ref it) s):ew #[4] A (acv (.ref it)) Q E s:=by refine wpAny_pyIter_slot b.ty SF.slot_self (mm SF.slot_self b.ty Dv ?_ (args_self _));show ew _ _ (ret (.ref it)) _ _ s;exact bo ⟨_,rfl,"set_iterator",_,b.ty,SF.slot_next.lookup,h⟩
theorem MC.keep {h h':kx}{first:ax}{i n:Nat}(x:MC h it a first i n ep)(e:∀ o,h.get? it=ag o->h'.get? it=ag o):MC h' it a first i n ep:=let ⟨o,b,r⟩:=x;⟨o,e o b,r⟩
theorem Way.fp {out:ib (Int×ax)}{fp:ak cn}{F:Nat->ax->kx->Prop}(y:Way w a it es ep t out fp F):it∈fp/\a∈fp/\∀ i f (h h':kx),(∀ b∈fp,b≠it->∀ o,h.get? b=ag o->h'.get? b=ag o)->F i f h->F i f h':=by
 cases y with
 |text=>exact⟨by simp,by simp,λ_ _ _ _ _ x=>x⟩
 |one=>exact⟨by simp,by simp,λ_ _ _ _ _ x=>x⟩
 |drawn _ _ _ tp order _ d=>exact⟨by simp,by simp,λ_ _ h h' k x=>⟨x.1,by obtain⟨o,c,r⟩:=x.2;exact⟨o,k tp #[3] d o c,r⟩⟩⟩
theorem Walks.set {out:ib (Int×ax)}{fp:ak cn}{F:Nat->ax->kx->Prop}(x:A.handled=ay)(y:Way w a it es ep t out fp F)(m:a≠it)(hex:o.ExactSet)(hd:o.data = .set es ep t)(p:t.fits es.size=ba) :
  Walks prog w A it fp [it] es.size (λi v=>(out[i]?).map (·.2)=ag v) (λi h=>h.get? a=ag o/\∃ first,MC h it a first i es.size ep/\F i first h) where
 sub:=λb hb=>by rw[hM.mp hb];exact y.fp.1
 frame:=λi h g st k=>⟨k a y.fp.2.1 o st.1,let ⟨f,c,j⟩:=st.2;⟨f,c.keep λo e=>k it y.fp.1 o e,y.fp.2.2 i f h g (λb hb _ o e=>k b hb o e) j⟩⟩
 item:=λi s Q E C st d=>by
  obtain⟨l,f,c,j⟩:=st;have u:out.size=es.size:=by have:=y.perm.length_eq;simpa using this
  have n:out[i]?=ag out[i]:=Wk #[0];refine next_item y m l hd p c j n λB g q r sb=>?_;refine d _ g s.toks (by rw[n];rfl) ⟨(sb.2 a m).trans l,B,q,r⟩ λb o hb e=>(sb.2 b (λz=>hb (by simp[z]))).trans e
 done:=λs Q E st d=>by
  obtain⟨l,f,c,j⟩:=st;exact next_end x y m l hd p c j λg k=>d g s.toks λb o hb e=>k b o (λz=>hb (by simp[z])) e
 self:=λi s Q E st d=>let ⟨f,c,_⟩:=st.2;Ca c d
end
section
variable {prog:fh}{w:il}{A:jl}{E:Lm}{s:cv}
set_option maxHeartbeats 1000000 in
theorem nQ {x:Addr}{T:String}(hTT:T="set"∨T="dict")(hT:s.TypeIs (.ref x) T){Q:List Value->Shared->Prop}(C:List Value->Prop)
  (TX:∀ (u:Heap) (Q':Lm) (E':Lm),(∀ b o,s.heap.get? b=some o->u.get? b=some o) ->
   (∀ (I:Addr) (fp i:List Addr) (n:Nat) (P:Nat->Value->Prop) (St:Nat->Shared->Prop) (g:Shared),WalksS prog w A.in1 I fp i (λa b=>b=a) n P St->St 0 g->n<=sizeLine->(∀ b∈fp,b=x∨u.objs.size<=b)->(∀ b∈i,u.objs.size<=b) ->
    (∀ b o,u.get? b=some o->g.heap.get? b=some o)->g.gens=s.gens->g.os=s.os->(∀ d,ItemsOf P d n->C d.toList)->Q' (.ref I) g)->wpAny (model prog w) A.in1 (pyIter (.ref x)) Q' E' { s with heap:=u })
  (hQ:∀ s' d,C d->(∀ b o,s.heap.get? b=some o->s'.heap.get? b=some o)->s'.gens=s.gens->s'.os=s.os->Q d s'):wpAny (model prog w) A (collect (.ref x)) Q E s:=by
 obtain⟨Y,U,Y3⟩:=id hT;have M:x<s.heap.objs.size:=Heap.lt_size U;unfold collect;refine wpAny_bind (wpAny_runValue (codeAny_builtin F.entry_proto_collect ?_));rw[Around.under_plainId F.plain_proto_collect _];show wpAny _ A.in1 (newList [] >>= λl=>again (.builtin "list.__iadd__" ⟨[l,.ref x],[]⟩)) _ _ s;refine wpAny_bind (wpAny_newObj_type ?_);refine wpAny_pure ⟨plainId_quiet F.plain_list_iadd _,codeAny_builtin F.entry_list_iadd ?_⟩;rw[Around.under_plainId F.plain_list_iadd _];have Ri:(s.heap.push { cls:=.type "list",data:=.seq ([]:List Value).toArray }).get? s.heap.objs.size=some { cls:=.type "list",data:=.seq ([]:List Value).toArray }:=Heap.get?_push_size _ rfl;have Z:Shared.TypeIs { s with heap:=s.heap.push { cls:=.type "list",data:=.seq ([]:List Value).toArray } } (.ref x) T:=⟨Y,Heap.get?_push_of_some _ U,Y3⟩;have n1:Builtin.List.listSameRef (.ref s.heap.objs.size) (.ref x)=false:=by simp[Builtin.List.listSameRef,ne_of_gt M]
 show wpAny _ A.in1 (Builtin.List.listExtendWith (.ref s.heap.objs.size) (.ref x) (.ref s.heap.objs.size)) _ _ _;unfold Builtin.List.listExtendWith;refine wpAny_bind (wpAny_typeOf Z ?_);have kp:∀ b o,s.heap.get? b=some o->(s.heap.push { cls:=.type "list",data:=.seq ([]:List Value).toArray }).get? b=some o:=λb o e=>Heap.get?_push_of_some _ e;have sz:(s.heap.push { cls:=.type "list",data:=.seq ([]:List Value).toArray }).objs.size=s.heap.objs.size+1:=Heap.size_push ..
 have main:∀ (I:Addr) (fp i:List Addr) (n:Nat) (P:Nat->Value->Prop) (St:Nat->Shared->Prop) (g:Shared),WalksS prog w A.in1 I fp i (λa b=>b=a) n P St->St 0 g->n<=sizeLine ->
   (∀ b∈fp,b=x∨(s.heap.push { cls:=.type "list",data:=.seq ([]:List Value).toArray }).objs.size<=b)->(∀ b∈i,(s.heap.push { cls:=.type "list",data:=.seq ([]:List Value).toArray }).objs.size<=b) ->
   (∀ b o,(s.heap.push { cls:=.type "list",data:=.seq ([]:List Value).toArray }).get? b=some o->g.heap.get? b=some o)->g.gens=s.gens->g.os=s.os->(∀ d,ItemsOf P d n->C d.toList) ->
   ∀ (R:Result->Shared->Prop),(∀ s' d c,C d.toList->(∀ b o,s.heap.get? b=some o->s'.heap.get? b=some o)->s'.gens=s.gens->s'.os=s.os->s'.heap.get? s.heap.objs.size=some { cls:=.type "list",dict:=none,data:=.seq d c,slots:=#[] }->R (.ok (.ret (.ref s.heap.objs.size))) s') ->
   wpAny (model prog w) A.in1 (rule "list.extend.makes-room" >>= λ_=>Builtin.List.listTouch (.ref s.heap.objs.size) >>= λ_=>again (.builtin "list.extend.loop" ⟨[.ref s.heap.objs.size,.ref I,.ref s.heap.objs.size],[]⟩))
    (λfin s'=>match fin with | .done f=>R (.ok f) s' | .again S=>S.quiet=true/\codeAny (model prog w) A S R s') (λe s'=>R (.error e) s') g:=by
  intro I fp i n P St g W st L H q j m o1 p R hR
  have UY:s.heap.objs.size∉fp:=λJ=>by
   rcases H _ J with e |e
   ·exact ne_of_gt M e
   rw[sz] at e;exact Nat.not_succ_le_self _ e
  refine wpAny_bind (wpAny_rule ?_);refine wpAny_bind ?_;have hS:g.heap.get? s.heap.objs.size=some { cls:=.type "list",data:=.seq ([]:List Value).toArray }:=j _ _ Ri;show wpAny _ A.in1 (updateSeq s.heap.objs.size (·.push .none) >>= λ_=>updateSeq s.heap.objs.size (·.pop)) _ _ _;refine wpAny_bind (wpAny_updateSeq hS rfl ?_);have TM:=Heap.get?_update_self (Obj.mapSeq (·.push Value.none)) hS rfl;refine wpAny_updateSeq (hz:=by seq_fits) TM rfl ?_;have Qx:=Heap.get?_update_self (Obj.mapSeq (·.pop)) TM rfl
  have B:∀ b o,b≠s.heap.objs.size->g.heap.get? b=some o->((g.heap.update s.heap.objs.size (Obj.mapSeq (·.push Value.none))).update s.heap.objs.size (Obj.mapSeq (·.pop))).get? b=some o:=
   λb o hb e=>(Heap.get?_update_other _ _ (Ne.symm hb)).trans ((Heap.get?_update_other _ _ (Ne.symm hb)).trans e)
  refine wpAny_pure ⟨plainId_quiet F.plain_extend_loop _,codeAny_extend_loopS W L _ UY _ n 0 _ _ _ rfl (zero_le _) (W.frame 0 g _ g.toks st (le_refl _) λb hb o e=>B b o (λh=>UY (h▸hb)) e) Qx (ItemsOf.nil P) λs' Wz S J PX Y4=>?_⟩;refine hR s' Wz S (p Wz Y4) (λb o e=>?_) (J.gens.trans m) (J.os.trans o1) PX;have hb:b<s.heap.objs.size:=Heap.lt_size e;refine J.heap b o (λz=>?_) (B b o (ne_of_lt hb) (j b o (kp b o e)));rcases mem_cons.mp z with z |z
  ·exact ne_of_lt hb z
  have:=q b z;rw[sz] at this;exact Nat.not_succ_le_self _ (Nat.le_trans this (Nat.le_of_lt hb))
 have last:∀ (s':Shared) (d:Array Value) (c:Nat),C d.toList->(∀ b o,s.heap.get? b=some o->s'.heap.get? b=some o)->s'.gens=s.gens->s'.os=s.os->s'.heap.get? s.heap.objs.size=some { cls:=.type "list",dict:=none,data:=.seq d c,slots:=#[] } ->
   wpAny (model prog w) A (load s.heap.objs.size >>= λo=>match o.data with | .seq K _=>pure K.toList |_=>unsupported "internal:collect") Q E s':=λs' d c G O D N t=>wpAny_bind (wpAny_load t (wpAny_pure (hQ s' d.toList G O D N)))
 rcases hTT with rfl |rfl
 ·rw[if_neg (by rw[n1];decide)];refine wpAny_bind (TX _ _ _ kp λI fp i n P St g W st L H q j m o1 p=>?_);have k:g.TypeIs (.ref x) "set":=⟨Y,j _ _ (kp _ _ U),Y3⟩;refine wpAny_bind (wpAny_holding ?_);unfold Builtin.List.listLengthHint;refine wpAny_bind (wpAny_specialOf k F.slot_set_len.lookup ?_)
  (generalize y:("set.__len__":String)=id0;wp_delta;rw[show splitId id0=some ("set","__len__") from by subst y;decide];subst y)
  refine wpAny_bind (wpAny_isInstance (b:=true) k (by rw[isSubtype_type];kernel_rfl) ?_);refine wpAny_bind (wpAny_typeOf k ?_);refine wpAny_pure ?_;dsimp only;split
  ·refine main I fp i n P St g W st L H q j m o1 p (λr s'=>match r with
    | .ok (.ret v)=>wpAny (model prog w) A (match v with
     | .ref a=>do
      let o ← load a
      match o.data with
       | .seq K _=>pure K.toList
       |_=>unsupported "internal:collect"
     |_=>unsupported "internal:collect") Q E s'
    | .ok _=>False
    | .error e=>E e s') ?_
   exact λX d c G O D N t=>last X d c G O D N t
  rename_i V;exact absurd (by decide) V
 rw[if_neg (by rw[n1];decide)];refine wpAny_bind (TX _ _ _ kp λI fp i n P St g W st L H q j m o1 p=>?_);have k:g.TypeIs (.ref x) "dict":=⟨Y,j _ _ (kp _ _ U),Y3⟩;refine wpAny_bind (wpAny_holding ?_);unfold Builtin.List.listLengthHint;refine wpAny_bind (wpAny_specialOf k F.slot_dict_len.lookup ?_)
 (generalize y:("dict.__len__":String)=id0;wp_delta;rw[show splitId id0=some ("dict","__len__") from by subst y;decide];subst y)
 refine wpAny_bind (wpAny_isInstance (b:=true) k (by rw[isSubtype_type];kernel_rfl) ?_);refine wpAny_bind (wpAny_typeOf k ?_);refine wpAny_pure ?_;dsimp only;split
 ·refine main I fp i n P St g W st L H q j m o1 p (λr s'=>match r with
   | .ok (.ret v)=>wpAny (model prog w) A (match v with
    | .ref a=>do
     let o ← load a
     match o.data with
      | .seq K _=>pure K.toList
      |_=>unsupported "internal:collect"
    |_=>unsupported "internal:collect") Q E s'
   | .ok _=>False
   | .error e=>E e s') ?_
  exact λX d c G O D N t=>last X d c G O D N t
 rename_i V;exact absurd (by decide) V
end
end L2
namespace L2
open PySem PySem.Spec PyProof.Rows PySem.W
noncomputable def j_:ak D->a9 (ak Key)
 |[]=>ag []
 |d::ds=>(fz d).bind λk=>(j_ ds).map (k::·)
noncomputable def oW (d:D)(S:Lq):a9 D:=match d with
 | .tup a=>(e_ a).map .lst
 | .lst a=>(e_ a).map .lst
 | .loc l=>match S[l]? with
  |ag (.dict kvs)=>(e_ (kvs.map (·.1))).map .lst
  |_=>ay
 |_=>ay
noncomputable def zZ (f:Lk D):Lk D:=λb S=>ai (f b S) λd a=>aL (oW d a) a
noncomputable def DJ (k:D->fg)(g:D->D->a9 D)(fe b:Lk D):Lk D:=λa S=>ai (fe a S) λx d=>if k x=ba then ai (b a d) λy c=>aL (g x y) c else ay
section
variable {X:Cx}{W:WT}
variable {e:hL}{fe:Lk D}{gs:Lk (ak D)}{pos Qy p p2:UK}{x y:eG}
theorem CZ {k:D->fg}{g:D->D->a9 D}{n:Lk D}{T:W7}{r:V->ak V->Hp->VK->Prop}{l:St}{H:Hp}{Q:VK}(o:∀ J b d v,k d=ba->At X.K b J d v->XB X.K T v b)
  (hr:∀ (v a:V) (f:Hp) (Q:VK),V8 X.K g v a f Q->r v [a] f Q) (h:tE X W (DJ k g fe n) l H Q):tBM X.K T r (tE X W fe) (FO (tE X W n) sR) l H Q:=
 (tG.LD h).mono λv b p=>by
  obtain⟨d,i⟩:=p
  by_cases j:k d=ba
  ·simp only[j,n7] at i;refine⟨?_,(tG.LD i).mono λa f ⟨s,q⟩=>hr v a f Q (tG.op2 q)⟩;obtain⟨J,_,_,_,_,_,m,_,_⟩:=i;exact o J b d v j m.Lz.1
  obtain⟨J,t,S,r,u,c,m,e,z⟩:=i;simp only[j,lg,r3] at e;cases e
noncomputable def Y5:Key->fg
 | .inl _=>ba
 | .inr _=>b0
noncomputable def HE (P:fh)(w:il)(p:cn)(a:ak Key):HO:=HO.ext λh=>Mr (bt P w) Y5 (!P8 w) h p a
theorem Dg {k:Key}{u:ax}(r:RelV (kV k) u):u.scannable=ba/\plainKind u=Y5 k:=by
 cases k with
 |inl i=>obtain⟨t,e⟩:=(show ∃ t,u=Xs i t from r);subst e;exact⟨rfl,rfl⟩
 |inr x=>obtain⟨t,e⟩:=(show ∃ t,u=abW x t from r);subst e;exact⟨rfl,rfl⟩
theorem C0 (a:ak Key):met (λi=>a.getD i (.inl 0)) a.length=a.foldl dM []:=by unfold met;congr 1;apply List.ext_getElem #[3];intro i b c;simp at b;simp[QJ,b]
theorem Mr.len {h:kx}{p:cn}{a:ak Key}{P:fh}{w:il}{es:ib (Int×ax)}(c:∃ l:ak (Int×ax),l.Perm es.toList/\lU (wB (bt P w)) a l):es.size=a.length:=by obtain⟨l,d,r⟩:=c;have b:=d.length_eq;have e:=nG r;simp only[ky] at b;omega
theorem zr {K:Ll}{H:Hp}{J:ak cn}:∀ {ds:ak D}{b:ak Key}{vs:ak V},j_ ds=ag b->Lx K H J ds vs->vs=b.map kV
 |[],b,vs,e,m=>by cases e;exact Lx.Ly.mp m
 |d::ds,b,vs,e,m=>by
  obtain⟨v,r,rfl,a,n⟩:=Lx.Lv.mp m;rw[j_] at e;obtain⟨k,c,f⟩:=hD.mp e;obtain⟨i,h,g⟩:=en.mp f;subst g;rw[hH,vG c a,zr h n]
theorem rJ:∀ {ds:ak D}{a:ak Key},j_ ds=ag a->a.length=ds.length
 |[],a,e=>by cases e;rfl
 |d::ds,a,e=>by
  rw[j_] at e;obtain⟨k,g,b⟩:=hD.mp e;obtain⟨h,f,c⟩:=en.mp b;subst c;rw[j2,j2,rJ f]
theorem Mr.vals {P:fh}{w:il}{a:ak Key}{l:ak (Int×ax)}(r:lU (wB (bt P w)) a l):Vals (a.map kV) (l.map (·.2)):=by
 induction r with
 |nil=>exact .nil
 |cons f t b =>
  rename_i k e a l;refine .cons ?_ b;obtain⟨c,_,_⟩:=f;rcases bn c with ⟨i,t,rfl,e⟩ |⟨x,t,rfl,e⟩
  ·exact⟨t,e⟩
  exact⟨t,e⟩
theorem Am:∀ {us us':ak ax},us'.Perm us->∀ {vs:ak V},Vals vs us->∃ c:ak V,c.Perm vs/\Vals c us':=by
 intro us us' h
 induction h with
 |nil=>intro vs r;exact⟨vs,.refl _,r⟩
 |cons x _ j =>
  intro vs r;cases r with
  |cons a b=>obtain⟨w,p,q⟩:=j b;exact⟨_::w,p.cons _,.cons a q⟩
 |swap x y l =>
  intro vs r;cases r with
  |cons a b=>cases b with
   |cons d g=>exact⟨_::_::_,.swap ..,.cons d (.cons a g)⟩
 |trans _ _ m f =>
  intro vs r;obtain⟨w,p,q⟩:=f r;obtain⟨k,e,i⟩:=m q;exact⟨k,e.trans p,i⟩
theorem DO {K:Ll}{H:Hp}{J:ak cn}{e vs:ak V}(j:e.Perm vs):∀ {ds:ak D},Lx K H J ds vs->∃ c:ak D,c.Perm ds/\Lx K H J c e:=by
 induction j with
 |nil=>intro ds m;exact⟨ds,.refl _,m⟩
 |cons x _ n =>
  intro ds m;cases ds with
  |nil=>cases Lx.Ly.mp m
  |cons d ds=>obtain⟨a,b⟩:=m.Lz;obtain⟨w,p,q⟩:=n b;exact⟨d::w,p.cons _,.cons a q⟩
 |swap x y l =>
  intro ds m;cases ds with
  |nil=>cases Lx.Ly.mp m
  |cons d ds=>cases ds with
   |nil=>cases Lx.Ly.mp m.Lz.2
   |cons g ds=>obtain⟨a,b⟩:=m.Lz;obtain⟨a2,i⟩:=b.Lz;exact⟨g::d::ds,.swap ..,.cons a2 (.cons a i)⟩
 |trans _ _ r h =>
  intro ds m;obtain⟨w,p,q⟩:=h m;obtain⟨o,f,k⟩:=r q;exact⟨o,f.trans p,k⟩
theorem vI {K:Type}[PR K]:∀ (l b:ak K) (k:K),k∈l.foldl dM b↔k∈b∨k∈l
 |[],b,k=>by simp
 |a::l,b,k=>by
  rw[UU,vI l,f5];unfold dM;split
  ·rw[3]
   ·rintro (h |h)
    ·exact .inl h
    exact .inr (.inr h)
   rintro (h |rfl |h)
   ·exact .inl h
   ·left;assumption
   exact .inr h
  simp only[lk,hM];rw[3]
  ·rintro ((h |h) |h)
   ·exact .inl h
   ·exact .inr (.inl h)
   exact .inr (.inr h)
  rintro (h |h |h)
  ·exact .inl (.inl h)
  ·exact .inl (.inr h)
  exact .inr h
theorem Inv.moved {a:Ln}{c:St}{H:Hp}{s s':cv}(I:Inv X a c H s)(k:∀ b o,#[18]=ag o->s'.heap.get? b=ag o)(g:s'.gens=s.gens)(o:s'.os=s.os):Inv X a c H s':=by obtain⟨d,g',d',t',e⟩:=s';cases g;cases o;exact I.call (d':=d') (t':=t') (g':=s.gens) (ch:=[]) (Un.kept k) (I.LX.kept k) I.bare λb z=>ku z #[3]
theorem ub (hc:X.calm=ba):iS X (.builtin "sorted") (λxs H Q => ∃ (p:cn) (n:ak Key) (J:ak cn) (ds out:ak D),xs=[.ref p]/\H p=ag (HE X.prog X.w p n)/\(∀ a∈J,H a≠ay)/\Lx X.K H J ds (n.map kV)/\e_ ds=ag out/\∀ H' v,LH H H'->At X.K H' J (.lst out) v->Q v H'):=by
 intro N s σ H xs C Q I r h;obtain⟨p,n,J,ds,out,rfl,hp,Z,m0,e,q⟩:=h;obtain⟨u,rfl,S⟩:=vals1 r;cases S;obtain⟨⟨o,es,ep,t,j,hex,hd,L,hb,M,NY,_,hr⟩,_,_⟩:=I.LX p _ hp;obtain⟨l,U,rl⟩:=id L;have ez:=Mr.len (h:=s.heap) (p:=p) L;have x:es.size<=d4:=K5 (ke hb #[2]);refine jB Z e q λQ' E hQ=>?_;have hh:X.A.in1.handled=ay:=I.ok.hd hc;refine nQ (#[9]) ⟨o,j,hex.1⟩ (λC=>C.Perm (l.map (·.2))) (λG Q2 E2 m Y6=>?_) λT c WB k g os=>?_
 ·refine xq (s:={ s with heap:=G }) (m _ _ j) hex hd M x (λhb=>by rw[NY,hb];rfl) hr λit R fp F first h' d y si V B f SH=>?_
  have ME:p≠it:=λz=>by have O:p<G.objs.size:=eM (m _ _ j);rw[z] at O;exact ku (ke O f) (qb _)
  refine Y6 it fp [it] es.size _ _ _ ((Walks.set (A:=X.A.in1.in1) hh y ME hex hd M).toS) ⟨B _ _ (m _ _ j),first,si,V⟩ x SH (λb hb=>by rw[hM.mp hb];exact f) B rfl rfl λc ha=>?_;obtain⟨a1,a2⟩:=ha;have osz:R.size=es.size:=by have:=y.perm.length_eq;simpa using this
  have e3:c.toList=R.toList.map (·.2):=by
   apply UZ;intro i;by_cases hi:i<es.size
   ·have P:c[i]?=ag c[i]:=Wk #[0];have:=a2 i _ P;rw[hF,TR,TR,P,this]
   rw[hF,TR,TR,aa8 #[0],aa8 #[0]];rfl
  rw[e3];exact(y.perm.trans U.symm).map _
 have Y:=Mr.vals rl;obtain⟨W,p1,r1⟩:=Am WB Y;obtain⟨Qt,p2,m2⟩:=DO p1 m0;exact hQ c W T Qt (I.moved k g os) r1 p2 m2
theorem Eb {K:Ll}{H:Hp}{J:ak cn}{ss:ak eG}{vs:ak V}(m:Lx K H J (ss.map .str) vs):vs=ss.map V.str/\∀ x∈ss,Tf x:=by
 induction ss generalizing vs with
 |nil=>exact⟨Lx.Ly.mp m,λx hx=>by cases hx⟩
 |cons a l f =>
  obtain⟨v,r,rfl,m1,m2⟩:=Lx.Lv.mp m;obtain⟨b,c⟩:=At.LL.mp m1;obtain⟨d,e⟩:=f m2;subst b d;refine⟨rfl,λx hx=>?_⟩;rcases f5.mp hx with rfl |hx
  ·exact c
  exact e x hx
theorem mG {α c:Type}{R : α->c->Prop}:∀ {l:ak α}{m:ak c},l.length=m.length->(∀ (i:Nat) a b,l[i]?=ag a->m[i]?=ag b->R a b)->lU R l m
 |[],[],_,_ => .nil
 |a::l,b::m,h,k => .cons (k 0 a b rfl rfl) (mG (by simpa using h) λi x y d e=>k (i+1) x y (by simpa using d) (by simpa using e))
 |[],_::_,h,_=>by simp at h
 |_::_,[],h,_=>by simp at h
theorem pi {α e:Type}{R : α->e->Prop}{l:ak α}{m:ak e}(r:lU R l m):∀ (i:Nat) a b,l[i]?=ag a->m[i]?=ag b->R a b:=by
 induction r with
 |nil=>intro i a b h;simp at h
 |cons f t g =>
  intro i a b c d;cases i with
  |zero=>simp at c d;subst c d;exact f
  |succ i=>exact g i a b (by simpa using c) (by simpa using d)
theorem zt {P:fh}{w:il}{k:Key}{u:ax}(h:(bt P w).is k u=ba):RelV (kV k) u:=by
 rcases bn h with ⟨i,t,rfl,e⟩ |⟨x,t,rfl,e⟩
 ·exact⟨t,e⟩
 exact⟨t,e⟩
theorem vV (hc:X.calm=ba):iS X (.builtin "sorted") (λxs H Q => ∃ (p:cn) (j:ak (Key×V)) (J:ak cn) (ds out:ak D),xs=[.ref p]/\H p=ag (.dK j)/\(∀ a∈J,H a≠ay)/\Lx X.K H J ds (j.map λq=>kV q.1)/\e_ ds=ag out/\∀ H' v,LH H H'->At X.K H' J (.lst out) v->Q v H'):=by
 intro G s σ H xs F Q I r h;obtain⟨p,j,J,ds,out,rfl,hp,W,m,e,q⟩:=h;obtain⟨u,rfl,L⟩:=vals1 r;cases L;obtain⟨M,Z,n,B,hd⟩:=I.LX p _ hp;obtain⟨ep,N⟩:=hd.dictAt;have d:n.length=j.length:=(KV.length B).symm;refine jB W e q λQ' E O=>?_;have hh:X.A.in1.handled=ay:=I.ok.hd hc;refine nQ (.inr rfl) hd.typeIs (λF=>Vals (j.map λq=>kV q.1) F) (λf Q2 E2 T Y=>?_) λP c l k g os=>?_
 ·have y:f.DictAt (bt X.prog X.w) p n ep:=N.keep T;refine wpAny_pyIter_dict (s:={ s with heap:=f }) Z y ?_;have Mx:p<f.objs.size:=y.lt_size
  refine Y f.objs.size [f.objs.size,p] [f.objs.size] n.length _ _ _ ((Walks.dictKeys (A:=X.A.in1.in1) hh f.objs.size p (nq Mx) n ep).toS) ⟨⟨_,e8 _ rfl,rfl,rfl⟩,y.push _⟩ (by rw[d];exact M)
   (λb hb=>by
    rcases f5.mp hb with z |hb
    ·rw[z];exact .inr (hB _)
    exact .inl (hM.mp hb))
   (λb hb=>by rw[hM.mp hb];exact hB _) (λb o e=>cc _ e) rfl rfl λc ha=>?_
  obtain⟨a1,a2⟩:=ha;refine mG (by have t:c.toList.length=c.size:=ky;rw[d7,t,a1,d]) λi v u l C=>?_;rw[TR] at C;obtain⟨k,x,t,S⟩:=a2 i u C;rw[hF] at l;obtain⟨q,R,e4⟩:=en.mp l;have U:=(pi B i q (k,x) R t).1;rw[← e4,U];exact zt S
 exact O c _ P ds (I.moved k g os) l (.refl _) m
theorem Em (C:x="sorted")(hc:X.calm=ba)(k:X.mg x=ay)(w:SE X W e fe)(n:Gl X x:=by rfl)(i:eK [e] X.env=(b0,sY e X.env)::eK [] X.env:=by rfl)(y:(tw pos (eK [] X.env)).any (·.1)=b0:=by rfl) :
  SE X W (.Call (.Name x p) [e] [] pos) (zZ fe):=by
 subst C
 refine SE.either (g1:=bA BZ (ah fe aC)) (g2:=λg S=>ai (fe g S) λd j=>aL (match d with | .loc l=>(match j[l]? with |ag (.dict b)=>(e_ (b.map (·.1))).map .lst |_=>ay) |_=>ay) j)
  (bw Fz k fF (ae w aj i) n #[2] #[2] i y) ?_ λg S=>?_
 ·refine PE.imp (lD (vV hc) n k fF (fy w MN i) #[2] #[2] i y) λN H Q h=>?_;refine(tG.LD h).mono λv O ⟨d,K⟩=>?_;obtain⟨J,g,S,r,P,c,m,eq,z⟩:=K;obtain⟨m,_⟩:=m.Lz;show sR _ _ _;cases d with
  |loc l =>
   obtain⟨a,rfl,B⟩:=At.LG.mp m;cases hS:S[l]? with
   |none=>simp[hS] at eq
   |some A =>
    cases A with
    |lst M=>simp[hS] at eq
    |exc c=>simp[hS] at eq
    |LM _=>simp[hS] at eq
    |ins _ _=>simp[hS] at eq
    |tab _ _=>simp[hS] at eq
    |UI _ _ _ _=>simp[hS] at eq
    |dict b =>
     simp only[hS] at eq;cases hq:e_ (b.map (·.1)) with
     |none=>simp[hq] at eq
     |some out =>
      simp only[hq,VM,bG,LB] at eq;cases eq;obtain⟨G,u,D⟩:=c.LZ.at_ l a _ B hS;refine⟨a,G,J,b.map (·.1),out,rfl,u,c.LZ.all,?_,hq,λE v s L=>z J E v (Ex.same s) (c.LZ.same s) L⟩;clear hq hS z u
      induction D with
      |nil=>exact .nil
      |cons f t I=>exact .cons f.1.2 I
  |_=>simp at eq
 unfold zZ bA ah aC;cases q:fe g S with
 |none=>exact #[9]
 |some o =>
  obtain⟨F,j⟩:=o;cases F with
  |error c=>exact #[9]
  |ok d=>cases d<;>first |exact #[9] |exact .inr rfl
end
mutual
inductive Lit:hL->D->Prop
 |int {i:Int}{j p}:Lit (.Constant (.int i) j p) (.int i)
 |bl {b:fg}{j p}:Lit (.Constant (.bool b) j p) (.bl b)
 |LN {j p}:Lit (.Constant .none j p) .LN
 |str {x:eG}{j p} (hx:Tf x):Lit (.Constant (.str x) j p) (.str x)
 |neg {i:Int}{j p q}:Lit (.UnaryOp .USub (.Constant (.int i) j p) q) (.int (-i))
 |tup {es:ak hL}{ds:ak D}{k p} (h:Rj es ds) (n:ds.length<=1000):Lit (.Tuple es k p) (.tup ds)
 |lst {es:ak hL}{ds:ak D}{p} (h:Rj es ds) (n:ds.length<=1000):Lit (.List es p) (.lst ds)
inductive Rj:ak hL->ak D->Prop
 |nil:Rj [] []
 |cons {e:hL}{d:D}{es:ak hL}{ds:ak D}(h:Lit e d) (r:Rj es ds):Rj (e::es) (d::ds)
end
section
variable {X:Cx}{W:WT}
theorem SE.eq {e:hL}{g g':Lk D}(h:SE X W e g)(q:g=g'):SE X W e g':=q▸h
theorem SA.eq {e:ak hL}{g g':Lk (ak D)}(h:SA X W e g)(q:g=g'):SA X W e g':=q▸h
theorem BU {e:hL}{d:D}(h:Lit e d)(es:ak hL):eK (e::es) X.env=(b0,sY e X.env)::eK es X.env:=by cases h<;>rfl
mutual
theorem h8:∀ {e:hL}{d:D},Lit e d->SE X W e (aE d)
 |_,_,.int=>aq
 |_,_,.bl=>i7
 |_,_,.LN=>fK
 |_,_,.str a=>mD a
 |_,_,.neg=>SE.eq (uQ oM aq) rfl
 |_,_,.tup (ds:=ds) h n=>SE.eq (eT (xk h)) (by
   funext ρ S;show aL (N4 ds (.tup ds)) S=LB (.tup ds) S;unfold N4
   rw[dm (hA n (by decide))];rfl)
 |_,_,.lst (ds:=ds) h n=>SE.eq (tj (xk h)) (by
   funext ρ S;show aL (N4 ds (.lst ds)) S=LB (.lst ds) S;unfold N4
   rw[dm (hA n (by decide))];rfl)
theorem xk:∀ {es:ak hL}{ds:ak D},Rj es ds->SA X W es (λ_ S=>LB ds S)
 |_,_,.nil=>aj
 |_,_,.cons h r=>SA.eq (ae (h8 h) (xk r) (BU h _)) rfl
end
end
noncomputable def Jf (F:Lp)(t:Lk (ak D)):Lk D:=λa S=>ai (t a S) λb c=>F b c
noncomputable def Hq (c:eG)(t:Lk (ak D)):Lk Fl:=λa S=>ai (t a S) λb e=>ai (aL (N4 b .LN) e) λ_ d=>ag (.error c,d)
end L2
namespace L2
open PySem PySem.Spec PySem.Calls PyProof.Rows PySem.W
structure ExcIn (K:Frag) (C:cn):Prop where
 cls:sA K (.ref C) "__class__"=ag (ag (.builtin "object.__class__"))
 ga:sA K (.ref C) "__getattribute__"=ag (ag (.builtin "BaseException.__getattribute__"))
 gn:sA K (.ref C) "__getattr__"=ag ay
 so:subIn K (.ref C) (.type "object")=ag ba
 sb:subIn K (.ref C) (.type "BaseException")=ag ba
 is:(clsIn K C).isSome=ba
end L2
namespace L2
open PySem PySem.Spec PyProof.Rows PySem.W
section
variable {X:Cx}{W:WT}{e:hL}{fe fa:Lk D}{pos p p2:UK}
noncomputable def IQ (a:eG->a9 fg)(d:D)(S:Lq):a9 D:=match d with
 | .loc l=>(match S[l]? with
  |ag (.exc c)=>(a c).map .bl
  |_=>ay)
 |_=>ay
noncomputable def Ks (a:eG->a9 fg)(fe:Lk D):Lk D:=λc S=>ai (fe c S) λd b=>aL (IQ a d b) b
end
noncomputable def eS (gt:Lk fg)(e:Lk Fl):Nat->Lk Fl
 | 0,_,_=>ay
 |n+1,ρ,S=>ai (gt ρ S) λb g=>if b=ba then ai (e ρ g) λf c=>(match f with
   | .next a=>eS gt e n a c
   | .cont a=>eS gt e n a c
   | .brk a=>LB (.next a) c
   | .ret d=>LB (.ret d) c) else LB (.next ρ) g
noncomputable def um (n:Nat)(gt:Lk fg)(a:Lk Fl):Lk Fl:=eS gt a n
section
variable {X:Cx}{W:WT}{pos:UK}
theorem wQ {gt:Lk fg}{u:Lk Fl}{n:Nat}{D:Ends}{w:St}{H:Hp}(h:tS X W (um n gt u) D w H):BQ (tT X W gt) (tS X W u) D w H:=by
 refine⟨λm w H=>tS X W (eS gt u m) D w H,⟨n,h⟩,λm w H h=>?_⟩;obtain⟨J,i,S,r,C,c,e,z⟩:=h;cases m with
 |zero=>cases e
 |succ m =>
  unfold eS at e;cases q:gt i S with
  |none=>simp[q] at e
  |some o =>
   obtain⟨I,k⟩:=o;simp only[q] at e;cases I with
   |error y =>
    cases e;exact⟨J,i,S,.error y,_,c,.nil,q,z⟩
   |ok b =>
    refine⟨J,i,S,.ok b,k,c,.nil,q,λt F N x K m1=>?_⟩;cases m1;have A:Cf X t i k w F:=c.re x K;have z1:NX X W t F r C D:=NX.ex z x;cases b with
    |false =>
     have e:(LB (.next i) k:Out Fl)=ag (r,C):=e;cases e;exact z1 t w F Ex.refl A
    |true =>
     refine⟨λg j=>tS X W (eS gt u m) D g j,λg j G=>⟨m,US m,G⟩,?_⟩
     have e:ai (u i k) (λf p=>(match f with
       | .next a=>eS gt u m a p
       | .cont a=>eS gt u m a p
       | .brk a=>LB (.next a) p
       | .ret d=>LB (.ret d) p:Out Fl))=ag (r,C):=e
     cases q2:u i k with
     |none=>simp[q2] at e
     |some o2 =>
      obtain⟨M,p⟩:=o2;rw[q2] at e;cases M with
      |error y =>
       cases e;exact⟨t,i,k,.error y,_,A,q2,λl j s E=>z1 l j s E⟩
      |ok f =>
       cases f with
       |next a=>exact⟨t,i,k,_,p,A,q2,λl g j s B=>⟨l,a,p,r,C,B,e,NX.ex z1 s⟩⟩
       |cont a=>exact⟨t,i,k,_,p,A,q2,λl g j s B=>⟨l,a,p,r,C,B,e,NX.ex z1 s⟩⟩
       |brk a =>
        cases e;exact⟨t,i,k,_,_,A,q2,λl g j s B=>z1 l g j s B⟩
       |ret d =>
        cases e;exact⟨t,i,k,_,_,A,q2,λl j v s E L=>z1 l j v s E L⟩
theorem BV {t:hL}{body:ak r4}{gt:Lk fg}{a:Lk Fl}{n:Nat}(c:ac9 #[8] X.A X.env X.xe)(b:Ow X W t gt)(hb:QP X W body a):SS X W (.While t body [] pos) (um n gt a):=
 PS.imp (Cq c b hb) λE d H h=>wQ h
end
section
variable {X:Cx}{W:WT}{fe fa:Lk D}
theorem fA:∀ {us:ak ax}{ns:ak Int},Vals (ns.map V.int) us->V9 us ns
 |_,[],r=>by cases r;exact .nil
 |_,n::ns,r=>by
  cases r with
  |cons a b =>
   obtain⟨t,rfl⟩:=a;exact .cons n t (fA b)
end
section
variable {X:Cx}{W:WT}{e:hL}{fe:Lk D}{pos p:UK}{x:eG}
noncomputable def IK (d:D)(S:Lq):a9 D:=match d with
 | .loc l=>(match S[l]? with
  |ag (.dict kvs)=>ag (.int kvs.length)
  |_=>ay)
 |_=>ay
theorem vW (hc:X.calm=ba):iS X (#[13]) (λxs H Q => ∃ (p:cn) (d:ak (Key×V)),xs=[.ref p]/\H p=ag (.dK d)/\∀ l,H l=ay->Q (.ref l) (upd H l (.lst (d.map λq=>kV q.1)))):=by
 intro t s L H xs M Q I r h;obtain⟨p,d,rfl,F,q⟩:=h;obtain⟨u,rfl,y⟩:=vals1 r;cases y;obtain⟨f,E,j,m,hd⟩:=I.LX p _ F;obtain⟨ep,z⟩:=hd.dictAt;have b:j.length=d.length:=(KV.length m).symm;refine kdl_call (kdl_dict (kvs:=j) (ep:=ep) (knd:=bt X.prog X.w) E) (I.ok.hd hc) z (by rw[b];exact f) λN tk a c k B G=>?_;obtain⟨a1,a2⟩:=G;have J:Vals (d.map λq=>kV q.1) a.toList:=by refine mG (by have e:a.toList.length=a.size:=ky;rw[d7,e,a1,b]) λi v u g n=>?_;rw[TR] at n;obtain⟨k,x,e,C⟩:=a2 i u n;rw[hF] at g;obtain⟨q,A,K⟩:=en.mp g;have D:=(pi m i q (k,x) A e).1;rw[← K,D];exact zt C
 exact⟨#[15],_,I.laid (t':=tk) (o:=.lst (d.map λq=>kV q.1)) k (hB _) ⟨by rw[d7];exact f,a.toList,c,J,by simpa using B⟩,rfl,q _ I.fresh⟩
noncomputable def gZ (d:D)(S:Lq):a9 D:=match d with
 | .loc l=>(match S[l]? with
  |ag (.dict kvs)=>if kvs.length<=d4 then ag (.lst (kvs.map (·.1))) else ay
  |_=>ay)
 |_=>ay
noncomputable def mS (fe:Lk D):Lk D:=λb S=>ai (fe b S) λd a=>aL (gZ d a) a
theorem uS (N:X.A.units+1<vu)(y:X.mg x=ay)(g:SE X W e fe)(hc:X.calm=ba:=by rfl)(D:x="list":=by rfl)(B:Gl X x:=by rfl)(o:eK [e] X.env=(b0,sY e X.env)::eK [] X.env:=by rfl)(G:(tw pos (eK [] X.env)).any (·.1)=b0:=by rfl) :
  SE X W (.Call (.Name x p) [e] [] pos) (mS fe):=by
 subst D;refine PE.imp (mF (vW hc) B y Aa (fy g MN o) #[2] #[2] o G) λL H Q h=>?_;refine(tG.LD h).mono λv C ⟨d,I⟩=>?_;obtain⟨J,O,S,r,P,c,m,eq,z⟩:=I;obtain⟨m,_⟩:=m.Lz;show sR _ _ _;unfold gZ at eq;cases d with
 |loc l =>
  obtain⟨a,rfl,w⟩:=At.LG.mp m;cases hS:S[l]? with
  |none=>simp[hS] at eq
  |some u =>
   cases u with
   |dict i =>
    simp only[hS] at eq;split at eq
    ·rename_i j;cases eq;obtain⟨n,s,k⟩:=c.LZ.at_ l a _ w hS;refine⟨a,n,rfl,s,λM b=>?_⟩
     have F:Lx X.K C J (i.map (·.1)) (n.map λq=>kV q.1):=by
      clear hS z s j
      induction k with
      |nil=>exact .nil
      |cons f t E=>exact .cons f.1.2 E
     refine z J _ _ (Ex.same (aO b _)) (c.LZ.same (aO b _)) (At.MP F b (λa g=>c.LZ.tracked g) ?_);rw[d7,← k.length];exact j
    cases eq
   |_=>simp[hS] at eq
 |_=>simp at eq
end
noncomputable def fL (a b:D):fg:=match f9 a,f9 b with
 |ag p,ag q=>iv p q
 |_,_=>b0
noncomputable def putN (kvs:ak (D×D))(k v:D):ak (D×D):=if (kvs.any λp=>fL p.1 k)=ba then kvs.map (λp=>if fL p.1 k=ba then (p.1,v) else p) else kvs++[(k,v)]
noncomputable def lL (kvs:ak (D×D))(k:D):a9 D:=(kvs.find? λp=>fL p.1 k).map (·.2)
noncomputable def lv (b:ak (la×cn×V)) (k:la) (a:cn) (v:V):ak (la×cn×V):=if (b.any λp=>dv (p.1=k))=ba then b.map (λp=>if p.1=k then (p.1,p.2.1,v) else p) else b++[(k,a,v)]
noncomputable def qN (a:ak (la×cn×V)) (k:la):a9 V:=(a.find? λp=>dv (p.1=k)).map (·.2.2)
abbrev RQ:(la×cn×V)->(la×cn×ax)->Prop:=λp q=>p.1=q.1/\p.2.1=q.2.1/\RelV p.2.2 q.2.2
theorem tR {d:D}{p:la}(h:f9 d=ag p):toPy d=ag p/\keyOk 8 p=ba:=by
 unfold f9 at h;obtain⟨q,c,a⟩:=hD.mp h;split at a
 ·rename_i b;cases a;exact⟨c,b⟩
 cases a
section
variable {K:Ll}{H H':Hp}{J J':ak cn}
theorem o0 {a k:D}{x y:la}(h:f9 a=ag x)(g:f9 k=ag y):fL a k=dv (x=y):=by unfold fL;rw[h,g];exact rK (tR h).2 (tR g).2
theorem HC {kvs:ak (D×D)}{a:ak (la×cn×V)}{k:D}{y:la}(g:f9 k=ag y)(r:lU (Q9 K H J) kvs a):(kvs.any λp=>fL p.1 k)=a.any λq=>dv (q.1=y):=by
 induction r with
 |nil=>rfl
 |cons h t b=>rw[Rm,Rm,b,o0 h.1.1 g]
theorem AG {kvs:ak (D×D)}{a:ak (la×cn×V)}{k v:D}{y:la}{w:V}(g:f9 k=ag y)(b:At K H J v w)(r:lU (Q9 K H J) kvs a) :
  lU (Q9 K H J) (kvs.map λp=>if fL p.1 k=ba then (p.1,v) else p) (a.map λq=>if q.1=y then (q.1,q.2.1,w) else q):=by
 induction r with
 |nil=>exact .nil
 | @cons p q f d h t c =>
  refine .cons ?_ c;show Q9 K H J (if fL p.1 k=ba then (p.1,v) else p) (if q.1=y then (q.1,q.2.1,w) else q);rw[o0 h.1.1 g];by_cases e:q.1=y
  ·rw[dm (ia e),dm e];exact⟨h.1,b⟩
  rw[dV (by rw[eh e];decide),dV e];exact h
theorem AI {k v:D}{y:la}{b:cn}{w:V}(g:f9 k=ag y)(e:At K H J k (.ref b))(d:At K H J v w){c:ak (D×D)}{a:ak (la×cn×V)}(h:lU (Q9 K H J) c a):lU (Q9 K H J) (c++[(k,v)]) (a++[(y,b,w)]):=by
 induction h with
 |nil=>exact .cons ⟨⟨g,e⟩,d⟩ .nil
 |cons h t f=>exact .cons h f
theorem GA {kvs:ak (D×D)}{a:ak (la×cn×V)}{k v:D}{y:la}{b:cn}{w:V}(g:f9 k=ag y)(d:At K H J k (.ref b))(c:At K H J v w)(r:lU (Q9 K H J) kvs a):lU (Q9 K H J) (putN kvs k v) (lv a y b w):=by
 unfold putN lv;rw[HC g r];split
 ·exact AG g c r
 exact AI g d c r
theorem Dm {kvs:ak (D×D)}{a:ak (la×cn×V)}{k:D}{y:la}(g:f9 k=ag y)(r:lU (Q9 K H J) kvs a) :
  (lL kvs k=ay/\qN a y=ay)∨∃ d v,lL kvs k=ag d/\qN a y=ag v/\At K H J d v:=by
 unfold lL qN
 induction r with
 |nil=>exact .inl ⟨rfl,rfl⟩
 | @cons p q f c h t b =>
  rw[wh,wh,o0 h.1.1 g];by_cases e:q.1=y
  ·rw[ia e];exact .inr ⟨p.2,q.2.2,rfl,rfl,h.2⟩
  rw[eh e];exact b
end
theorem Gw {a:ak (la×cn×V)}{xs:ak (la×cn×ax)}(r:lU RQ a xs)(k:la):(a.any λp=>dv (p.1=k))=(aaC xs k).isSome:=by
 unfold aaC;rw[Sw]
 induction r with
 |nil=>rfl
 | @cons p q d c h t b =>
  rw[Rm,wh,b,h.1];by_cases e:q.1=k
  ·rw[ia e];rfl
  rw[eh e];rfl
theorem Ci {a:ak (la×cn×V)}{xs:ak (la×cn×ax)}(r:lU RQ a xs)(k:la):M9 (qN a k) ((aaC xs k).map (·.2)):=by
 unfold qN aaC
 induction r with
 |nil=>exact WS
 | @cons p q d c h t b =>
  rw[wh,wh,h.1];by_cases e:q.1=k
  ·rw[ia e];exact h.2.2
  rw[eh e];exact b
theorem Gu {a:ak (la×cn×V)}{xs:ak (la×cn×ax)}(r:lU RQ a xs)(k:la){v:V}{u:ax}(b:RelV v u):lU RQ (a.map λp=>if p.1=k then (p.1,p.2.1,v) else p) (xs.map (putAt k u)):=by
 induction r with
 |nil=>exact .nil
 | @cons p q f d h t c =>
  refine .cons ?_ c;show RQ (if p.1=k then (p.1,p.2.1,v) else p) (putAt k u q);unfold putAt;by_cases e:p.1=k
  ·rw[dm e,dm (h.1.symm.trans e)];exact⟨h.1,h.2.1,b⟩
  rw[dV e,dV (λz=>e (h.1.trans z))];exact h
theorem Gv {a:ak (la×cn×V)}{xs:ak (la×cn×ax)}(r:lU RQ a xs)(k:la)(b:cn){v:V}{u:ax}(c:RelV v u):lU RQ (a++[(k,b,v)]) (xs++[(k,b,u)]):=by
 induction r with
 |nil=>exact .cons ⟨rfl,rfl,c⟩ .nil
 |cons h t d=>exact .cons h d
theorem Gs {a:ak (la×cn×V)}{xs:ak (la×cn×ax)}(r:lU RQ a xs)(k:la)(b:cn){v:V}{u:ax}(c:RelV v u):lU RQ (lv a k b v) (storedH xs k b u):=by
 unfold lv storedH;rw[Gw r k];split
 ·exact Gu r k c
 exact Gv r k b c
theorem AE (a:ak (la×cn×V))(k:la)(b:cn)(v:V):(lv a k b v).length<=a.length+1:=by
 unfold lv;split
 ·rw[d7];omega
 rw[da];simp
section
variable {X:Cx}{pins:Ln}{σ:St}{H:Hp}{s:cv}{J:ak cn}{a:cn}
theorem lI (I:#[10]){d:D}{y:la}{b:cn}(g:f9 d=ag y)(m:At X.K H J d (.ref b)):(jn X.prog X.w).is s.heap y b:=by obtain⟨a,c⟩:=tR g;exact⟨c,(At.reads I m (show RelV (.ref b) (.ref b) from rfl) a).2⟩
theorem zS {kvs:ak (D×D)}{b:ak (la×cn×V)}(I:#[10])(e:H a=ag (.dN b))(r:lU (Q9 X.K H J) kvs b) :
  b.length<=d4/\(a==Uh)=b0/\∃ xs,lU RQ b xs/\s.heap.DictOfH (jn X.prog X.w) a xs:=by
 obtain⟨z,y,xs,q,o,es,ep,i,j,f,c,g⟩:=I.LX a _ e;refine⟨z,y,xs,q,o,es,ep,i,j,f,c,?_,g⟩;clear i j f c g z e
 induction r generalizing xs with
 |nil=>cases q;intro x hx;exact nomatch hx
 | @cons p u n m h t l =>
  cases q with
  |cons d k =>
   intro x hx;rcases f5.mp hx with e |hx
   ·subst e;rw[← d.1,← d.2.1];exact lI I h.1.1 h.1.2
   exact l _ k x hx
end
def yu (K:Ll)(H:Hp)(a:cn)(y:V)(r:a9 V):Prop:=∃ J c d e f b,H a=ag (.dN d)/\lU (Q9 K H J) c d/\f9 e=ag f/\At K H J e (.ref b)/\y = .ref b/\r=qN d f
def Js (K:Ll)(H:Hp)(a:cn)(y v:V)(H':Hp):Prop:=∃ J d c e f b,H a=ag (.dN c)/\lU (Q9 K H J) d c/\f9 e=ag f/\At K H J e (.ref b)/\y = .ref b/\c.length<d4/\H'=upd H a (.dN (lv c f b v))
section
variable {X:Cx}{pins:Ln}{σ:St}{H:Hp}{s:cv}{a:cn}{y v:V}{u r:ax}{o:a9 V}{A:jl}{E:Lm}
theorem xF (a:A.units+150<vu):(jn X.prog X.w).room A.in1:=by show A.units+1+8<vu;omega
theorem AZ {Q:Lm}(q:A.units+150<vu)(I:#[10])(g:yu X.K H a y (ag v))(i:RelV y u)(h:∀ c s',Inv X pins σ H s'->RelV v c->Q c s') :
  ew #[8] A (Xd (.ref a) u) Q E s:=by
 obtain⟨J,x,F,D,d,b,e,m,f,mk,C,l⟩:=g;subst C;cases (show u=ma b from i);obtain⟨z,hd,j,rel,t⟩:=zS I e m;obtain⟨c,B,k⟩:=M9.some_of (v:=v) (o:=(aaC j d).map (·.2)) (by rw[l];exact Ci rel d);obtain⟨p,r,n⟩:=en.mp B;refine acz (xF q) (lI I f mk) t r ?_;rw[n];exact h c _ (I.tok _) k
theorem E5 {Q:Lm}(i:A.units+150<vu)(I:#[10])(g:yu X.K H a y o)(d:RelV y u)(h:∀ s',Inv X pins σ H s'->Q (.bool (!o.isSome)) s') :
  ew #[8] A (qa .NotIn u (.ref a)) Q E s:=by
 obtain⟨J,m,t,r,k,b,e,f,c,mk,n,l⟩:=g;subst n;cases (show u=ma b from d);obtain⟨z,hd,p,rel,j⟩:=zS I e f;refine wpAny_notIn_heap (xF i) (lI I c mk) hd j ?_;have q:=(Ci rel k).MB;rw[Sw] at q;rw[← q,← l];exact h _ (I.tok _)
theorem AY {H':Hp}{Q:ab9->cv->Prop}(B:A.units+150<vu)(I:#[10])(g:Js X.K H a y v H')(k:RelV y u)(M:RelV v r)(h:∀ s',Inv X pins σ H' s'->Q () s') :
  ew #[8] A (abZ (.ref a) u r) Q E s:=by
 obtain⟨J,F,f,P,c,b,e,x,i,mk,O,l,t⟩:=g;subst O t;cases (show u=ma b from k);obtain⟨z,hd,o,rel,C⟩:=zS I e x;have j:o.length<=d4:=by rw[← X1 rel];exact z
 have m:(lv f c b v).length<=d4:=by have:=AE f c b v;omega
 refine acA (hsz:=j) (xF B) (lI I i mk) C λR p L=>h _ ?_;obtain⟨q,es,ep,d,N,D,n,_,G⟩:=p;exact ua I (by rw[e];exact WS) L ⟨q,d⟩ ⟨m,hd,_,Gs rel c b M,q,es,ep,d,N,D,n,G⟩
theorem CS (I:#[10])(g:yu X.K H a y o):s.TypeIs (.ref a) "dict":=by obtain⟨J,c,j,k,n,b,e,d,h,mk,m,l⟩:=g;obtain⟨_,_,i,_,f⟩:=zS I e d;exact f.typeIs
end
section
variable {X:Cx}{o i e value:hL}{pos pos' S_:UK}{td ty tv:TE}
theorem EJ (t:X.A.units+150<vu)(m:PE X o td)(z:PE X i ty)(B:BB i):PE X (.Subscript o i pos) (λc H Q=>td c H λx e=>ty c e λy d => ∃ a v,x = .ref a/\yu X.K d a y (ag v)/\Q v d):=by intro b s c H Q I h;refine yI Z5.lookup B (LR (m b s c H _ I h) λu r ⟨x,e,C,j,l⟩=>LR (z b r c e _ C l) λE D n=>?_);obtain⟨y,d,f,k,a,v,ex,g,q⟩:=n;subst ex;obtain rfl:u=ma a:=j;exact⟨CS f g,AZ t f g k λG J w p=>⟨v,d,w,p,q⟩⟩
theorem AN (r:X.A.units+150<vu)(v:PE X i ty)(l:PE X o td):PC X .NotIn i o (λc H Q=>ty c H λy e=>td c e λx d => ∃ a o,x = .ref a/\yu X.K d a y o/\Q (.bl (!o.isSome)) d):=by intro b s c H Q I h;refine LR (v b s c H _ I h) λC q ⟨y,e,w,j,k⟩=>LR (l b q c e _ w k) λu B m=>?_;obtain⟨x,d,z,f,a,p,ex,g,n⟩:=m;subst ex;obtain rfl:u=ma a:=f;exact E5 r z g j λD t=>⟨.bl (!p.isSome),d,t,rfl,n⟩
theorem EA (C:X.A.units+150<vu)(q:PE X o td)(F:PE X i ty)(n:PE X value tv)(J:Uy value (ag (.Subscript o i pos')) pos.line X.env=y8 b0) :
  PS X (.Assign [.Subscript o i pos'] value pos) (λD c H=>tv c H λv e=>td c e λx f=>ty c f λy j => ∃ a d,x = .ref a/\Js X.K j a y v d/\D.nx c d):=by
 intro b s c H D I h;refine aaV (LR (n b s c H _ I h) λr B ⟨v,e,L,M,p⟩=>LR (q b B c e _ L p) λu l ⟨x,f,N,k,w⟩=>LR (F b l c f _ N w) λO Q t=>?_) J;obtain⟨y,j,E,m,a,d,ex,g,G⟩:=t;subst ex;obtain rfl:u=ma a:=k;exact AY C E g m M λP z=>⟨c,d,z,G⟩
end
noncomputable def fQ:D->fg
 | .tup _=>ba
 |_=>b0
section
variable {X:Cx}{W:WT}{pos pos':UK}{o i e:hL}{fo fi fv:Lk D}
noncomputable def z6:Lk D:=λ_ S=>LB (#[11]) (S++[.LM []])
theorem R9:PE X (.Dict [] [] pos) (λ_ H Q => ∀ p,H p=ay->Q (.ref p) (upd H p (.dN []))):=λb s c H Q I h =>
 wpAny_Dict_empty ⟨#[15],_,I.laid (a:=s.heap.objs.size) (o:=.dN []) (t':=s.toks) (λ_ _ q=>cc _ q) (hB _)
  ⟨Tp _,mz.mpr (lC (nq I.big)),[],.nil,_,#[],0,e8 _ rfl,⟨rfl,rfl,rfl⟩,rfl,rfl,XX⟩,rfl,h _ (I.LX.fresh (hB _))⟩
theorem yP:SE X W (.Dict [] [] pos) z6:=R9.imp λb H Q h=>by obtain⟨J,d,S,r,f,c,_,e,z⟩:=h;cases e;intro p a;have q:=c.LZ.push (o:=.dN []) (mo:=.LM []) a ⟨[],LC,.nil⟩;refine z (J++[p]) _ _ q.2 q.1 (At.LG.mpr ⟨p,rfl,?_⟩);rw[← c.LZ.len,hO (hB _)];simp
noncomputable def pc (x k v:D)(ρ:Lr)(S:Lq):Out Fl:=match x with
 | .loc l=>match S[l]?,f9 k with
  |ag (.LM kvs),ag _=>if kvs.length<d4/\fQ k=ba then LB (.next ρ) (S.set l (.LM (putN kvs k v))) else ay
  |_,_=>ay
 |_=>ay
noncomputable def wb (fo fi fv:Lk D):Lk Fl:=λa S=>ai (fv a S) λv d=>ai (fo a d) λx c=>ai (fi a c) λk b=>pc x k v a b
theorem sN {K:Ll}{H:Hp}{J:ak cn}{d:D}{v:V}(h:fQ d=ba)(m:At K H J d v):∃ b,v = .ref b:=by
 cases d with
 |tup a=>obtain⟨b,_,e,_⟩:=At.LF.mp m;exact⟨b,e⟩
 |_=>cases h
theorem yJ (M:X.A.units+150<vu)(I:SE X W o fo)(O:SE X W i fi)(F:SE X W e fv)(Q:Uy e (ag (.Subscript o i pos')) pos.line X.env=y8 b0:=by rfl):SS X W (.Assign [.Subscript o i pos'] e pos) (wb fo fi fv):=
 (EA M I O F Q).imp λE j H h=>by
  have h:tH X W [] [] (wb fo fi fv) E j H:=let ⟨J,t,S,r,B,c,e,z⟩:=h;⟨J,t,S,r,B,c,.nil,e,z⟩;refine(tH.LD h).mono λv Z ⟨P,R⟩=>(tH.LD R).mono λx H2 ⟨C,T⟩=>(tH.LD T).mono λy Y ⟨n,N⟩=>?_;obtain⟨J,t,S,r,B,c,m,e,z⟩:=N;obtain⟨mk,m⟩:=m.Lz;obtain⟨U,m⟩:=m.Lz;obtain⟨D,_⟩:=m.Lz;unfold pc at e;cases C with
  |loc l =>
   simp only at e;rw[1]
   ·rename_i d w es k;rw[1]
    ·rename_i lt;cases e;obtain⟨a,rfl,u⟩:=At.LG.mp U;obtain⟨s,G,g⟩:=c.LZ.at_ l a _ u es;obtain⟨b,rfl⟩:=sN lt.2 mk;have q:=c.LZ.update (o:=.dN (lv s w b v)) (mo:=.LM (putN d n P)) u λV H' f L K=>by subst L K;refine⟨_,LC,GA k (mk.ex f) (D.ex f) ?_⟩;exact Paired.Pt g λp q z=>⟨⟨z.1.1,z.1.2.ex f⟩,z.2.ex f⟩
     exact⟨a,_,rfl,⟨J,d,s,n,w,b,G,g,k,mk,rfl,by rw[← kB g];exact lt.1,rfl⟩,z J j _ q.2 (c.re q.2 q.1)⟩
    cases e
   cases e
  |_=>cases e
noncomputable def pC (neg:fg)(k x:D)(S:Lq):a9 D:=match x with
 | .loc l=>match S[l]?,f9 k with
  |ag (.LM kvs),ag _=>if fQ k=ba then ag (.bl (if neg then !(lL kvs k).isSome else (lL kvs k).isSome)) else ay
  |_,_=>ay
 |_=>ay
noncomputable def DI (neg:fg)(c fd:Lk D):Lk D:=λa S=>ai (c a S) λk d=>ai (fd a d) λx b=>aL (pC neg k x b) b
theorem CP {neg:fg}{g:St}{H:Hp}{Q:VK}(h:tE X W (DI neg fi fo) g H Q):tE X W fi g H λy n=>tE X W fo g n λx f => ∃ a o,x = .ref a/\yu X.K f a y o/\Q (.bl (if neg then !o.isSome else o.isSome)) f:=
 (tG.LD h).mono λy n ⟨A,F⟩=>(tG.LD F).mono λx f w=>by
  obtain⟨t,G⟩:=w
  obtain⟨J,L,S,r,M,c,m,e,z⟩:=G;obtain⟨I,m⟩:=m.Lz;obtain⟨mk,_⟩:=m.Lz;unfold pC at e;cases t with
  |loc l =>
   simp only at e;rw[1]
   ·rename_i k E es p;rw[1]
    ·rename_i C;cases e;obtain⟨a,rfl,D⟩:=At.LG.mp I;obtain⟨B,u,s⟩:=c.LZ.at_ l a _ D es;obtain⟨b,rfl⟩:=sN C mk;refine⟨a,_,rfl,⟨J,k,B,A,E,b,u,s,p,mk,rfl,rfl⟩,?_⟩;have q:=z J f _ Ex.refl c.LZ (At.L5.mpr rfl);rcases Dm p s with ⟨i,j⟩ |⟨d,v,i,j,_⟩
     ·rw[i] at q;rw[j];exact q
     rw[i] at q;rw[j];exact q
    cases e
   cases e
  |_=>cases e
theorem qP (g:X.A.units+150<vu)(e:SE X W i fi)(j:SE X W o fo)(d:q7 .NotIn o=b0:=by with_unfolding_all rfl):Ow X W (.Compare i [.NotIn] [o] pos) (bq (DI ba fi fo)):=
 (xu (AN g e j) d).imp λb H Q h=>NK.mono (t:=λb H Q=>tE X W fi b H λy f=>tE X W fo b f λx c => ∃ a o,x = .ref a/\yu X.K c a y o/\Q (.bl (!o.isSome)) c) (λ_ _ _=>CP (neg:=ba)) (i4 h)
noncomputable def jf (x k:D)(S:Lq):a9 D:=match x with
 | .loc l=>match S[l]?,f9 k with
  |ag (.LM kvs),ag _=>if fQ k=ba then lL kvs k else ay
  |_,_=>ay
 |_=>ay
noncomputable def z7 (fd c:Lk D):Lk D:=λa S=>ai (fd a S) λx d=>ai (c a d) λk b=>aL (jf x k b) b
theorem yO (D:X.A.units+150<vu)(t:SE X W o fo)(I:SE X W i fi)(K:BB i:=by exact λ_ _=>rfl):SE X W (.Subscript o i pos) (z7 fo fi):=(EJ D t I K).imp λO H Q h =>
 (tG.LD h).mono λx P ⟨p,L⟩=>(tG.LD L).mono λy B u=>by
  obtain⟨w,M⟩:=u
  obtain⟨J,R,S,r,T,c,m,e,z⟩:=M;obtain⟨mk,m⟩:=m.Lz;obtain⟨N,_⟩:=m.Lz;unfold jf at e;cases p with
  |loc l =>
   simp only at e;rw[1]
   ·rename_i g G es j;rw[1]
    ·rename_i E;obtain⟨a,rfl,F⟩:=At.LG.mp N;obtain⟨C,s,n⟩:=c.LZ.at_ l a _ F es;obtain⟨b,rfl⟩:=sN E mk;rcases Dm j n with ⟨f,k⟩ |⟨d,v,f,k,q⟩
     ·rw[f] at e;cases e
     rw[f] at e;cases e;exact⟨a,v,rfl,⟨J,g,C,w,G,b,s,n,j,mk,rfl,k.symm⟩,z J B _ Ex.refl c.LZ q⟩
    cases e
   cases e
  |_=>cases e
end
def nT (K:Ll)(c f:eG):Prop:=∃ C,RI K my c=ag (ag (.ref C))/\Qo K C/\Nf K C f
def MethAt (K:Ll)(c m qual:eG)(st:r4)(a:ak eG):Prop:=∃ C f fd,RI K my c=ag (ag (.ref C))/\Qo K C/\Meth K C m f/\Q7 K m qual st f fd/\Binds K fd a []
def HH (K:Ll)(mg:Lo)(c qual:eG)(st:r4)(a:ak eG):Prop:=∃ C f fd,RI K my c=ag (ag (.ref C))/\mg c=ag (.ref C)/\Mk K C f/\Q7 K "__init__" qual st f fd/\Binds K fd a []
noncomputable def nF (f:eG)(v:D):ak (eG×D)->ak (eG×D)
 |[]=>[(f,v)]
 |(k,x)::r=>if k=f then (k,v)::r else (k,x)::nF f v r
section
variable {K:Ll}{H H':Hp}{J J':ak cn}
theorem zB {fs:ak (eG×D)}{vs:ak (eG×V)}(r:lU (XC K H J) fs vs)(f:eG):(fs.lookup f=ay/\vs.lookup f=ay)∨∃ d v,fs.lookup f=ag d/\vs.lookup f=ag v/\At K H J d v:=by
 induction r with
 |nil=>exact .inl ⟨rfl,rfl⟩
 | @cons p q l k h t j =>
  obtain⟨a,g⟩:=p;obtain⟨c,i⟩:=q;have b:a=c:=h.1;subst b;by_cases e:f=a
  ·have hb:(f==a)=ba:=UR.mpr e;refine .inr ⟨g,i,?_,?_,h.2⟩<;>simp only[zg,hb]
  have hb:(f==a)=b0:=mz.mpr e;simp only[zg,hb];exact j
theorem Hb {fs:ak (eG×D)}{vs:ak (eG×V)}(r:lU (XC K H J) fs vs)(f:eG){d:D}{v:V}(a:At K H J d v):lU (XC K H J) (nF f d fs) (gH f v vs):=by
 induction r with
 |nil=>exact .cons ⟨rfl,a⟩ .nil
 | @cons p q g c h t m =>
  obtain⟨b,i⟩:=p;obtain⟨l,j⟩:=q;have k:b=l:=h.1;subst k;rw[show nF f d ((b,i)::g)=(if b=f then (b,d)::g else (b,i)::nF f d g) from rfl,show gH f v ((b,j)::c)=(if b=f then (b,v)::c else (b,j)::gH f v c) from rfl];by_cases e:b=f
  ·rw[dm e,dm e];exact .cons ⟨rfl,a⟩ t
  rw[dV e,dV e];exact .cons h m
theorem Lx.split:∀ {es ds:ak D}{us vs:ak V},es.length=us.length->Lx K H J (es++ds) (us++vs)->Lx K H J es us/\Lx K H J ds vs
 |[],_,[],_,_,h=>⟨.nil,h⟩
 |e::es,ds,u::us,vs,hl,h=>by
  obtain⟨a,b⟩:=Lx.Lz (d:=e) (v:=u) (ds:=es++ds) (vs:=us++vs) h;obtain⟨f,c⟩:=Lx.split (es:=es) (us:=us) (by simpa using hl) b;exact⟨.cons a f,c⟩
 |[],_,_::_,_,hl,_=>by simp at hl
 |_::_,_,[],_,hl,_=>by simp at hl
end
noncomputable def xT (c:eG)(d:D)(S:Lq):a9 (ak (eG×D)):=match d with
 | .loc l=>(match S[l]? with
  |ag (.ins c' fs)=>if c'=c then ag fs else ay
  |_=>ay)
 |_=>ay
theorem zz {c:eG}{d:D}{S:Lq}{fs:ak (eG×D)}(h:xT c d S=ag fs):∃ l,d = .loc l/\S[l]?=ag (.ins c fs):=by
 unfold xT at h;split at h
 ·rename_i l;split at h
  ·rename_i f b e;split at h
   ·rename_i a;cases h;subst a;exact⟨l,rfl,e⟩
   cases h
  cases h
 cases h
section
variable {X:Cx}{W:WT}{pos pos' apos p:UK}{o e value:hL}{es:ak hL}{fo fv:Lk D}{gs:Lk (ak D)}{c f m x:eG}
noncomputable def kI (c f:eG)(d:D)(S:Lq):a9 D:=(xT c d S).bind λfs=>fs.lookup f
noncomputable def jt (c f:eG)(fo:Lk D):Lk D:=λb S=>ai (fo b S) λd a=>aL (kI c f d a) a
theorem cP (T:nT X.K c f)(t:SE X W o fo)(hb:RZ o f X.env (sY o X.env)=sY o X.env:=by rfl):SE X W (.Attribute o f pos) (jt c f fo):=
 (GN t hb).imp λG H Q h=>(tG.LD h).mono λx y u=>by
  obtain⟨g,j⟩:=u
  obtain⟨J,L,S,r,N,cf,w,b,z⟩:=j
  try dsimp only at b
  obtain⟨F,_⟩:=w.Lz;cases q:kI c f g S with
  |none=>rw[q] at b;cases b
  |some d =>
   rw[q] at b;cases b;obtain⟨fs,j,e⟩:=hD.mp q;obtain⟨l,rfl,es⟩:=zz j;obtain⟨a,rfl,B⟩:=At.LG.mp F;obtain⟨C,g,p,n,s,E⟩:=cf.LZ.at_ l a _ B es;obtain⟨I,k,cl,A⟩:=T;rw[n] at k;cases k;rcases zB E f with ⟨i,_⟩ |⟨M,v,i,D,m⟩
   ·rw[i] at e;cases e
   rw[i] at e;cases e;exact⟨a,C,g,p,v,rfl,s,cl,A,D,z J y v Ex.refl cf.LZ m⟩
noncomputable def oY (c f:eG)(d v:D)(ρ:Lr)(S:Lq):Out Fl:=match d with
 | .loc l=>(match S[l]? with
  |ag (.ins c' fs)=>if c'=c/\fs.length<1000 then LB (.next ρ) (S.set l (.ins c (nF f v fs))) else ay
  |_=>ay)
 |_=>ay
theorem B8 {T:nT X.K c f}{g:St}{H:Hp}{J:ak cn}{ρ:Lr}{S j:Lq}{r:Except eG Fl}{E:Ends}{d h:D}{x y:V}(cf:Cf X J ρ S g H)(I:At X.K H J d x)(L:At X.K H J h y)
  (b:oY c f d h ρ S=ag (r,j)) (z:NX X W J H r j E):∃ a C e fs,x = .ref a/\H a=ag (.ins C e fs)/\Qo X.K C/\Nf X.K C f/\fs.length<1000/\E.nx g (upd H a (.ins C e (gH f y fs))):=by
 unfold oY at b;split at b
 ·rename_i l;split at b
  ·rename_i G fs es;split at b
   ·rename_i hc;obtain⟨u,v⟩:=hc;subst u;cases b;obtain⟨a,rfl,k⟩:=At.LG.mp I;obtain⟨C,e,i,n,w,s⟩:=cf.LZ.at_ l a _ k es;obtain⟨O,m,cl,A⟩:=T;rw[n] at m;cases m;have q:=cf.LZ.update (o:=.ins C e (gH f y i)) (mo:=.ins G (nF f h fs)) k λM N t F B=>by subst F B;refine⟨C,e,_,n,LC,Hb (Paired.Pt s λp q z=>⟨z.1,z.2.ex t⟩) f (L.ex t)⟩
    exact⟨a,C,e,i,rfl,w,cl,A,by rw[← kB s];exact v,z J g _ q.2 (cf.re q.2 q.1)⟩
   cases b
  cases b
 cases b
noncomputable def p_ (c f:eG)(fo fv:Lk D):Lk Fl:=λa S=>ai (fv a S) λv e=>ai (fo a e) λd b=>oY c f d v a b
theorem sU (T:nT X.K c f)(k:SE X W o fo)(j:SE X W value fv)(n:Uy value (ag (.Attribute o f pos')) pos.line X.env=y8 b0:=by rfl):SS X W (.Assign [.Attribute o f pos'] value pos) (p_ c f fo fv):=
 (GG k j n).imp λE l H h=>by
  have h:tH X W [] [] (p_ c f fo fv) E l H:=let ⟨J,g,S,r,i,c,e,z⟩:=h;⟨J,g,S,r,i,c,.nil,e,z⟩;refine(tH.LD h).mono λy t ⟨v,p⟩=>(tH.LD p).mono λx u ⟨d,q⟩=>?_;obtain⟨J,g,S,r,i,cf,a,b,z⟩:=q
  try dsimp only at b
  obtain⟨s,a⟩:=a.Lz;obtain⟨m,_⟩:=a.Lz;exact B8 (T:=T) cf s m b z
noncomputable def Jl (c f:eG)(d v y:D)(ρ:Lr)(S:Lq):Out Fl:=match v,y with
 | .int i,.int j=>oY c f d (.int (i+j)) ρ S
 |_,_=>ay
noncomputable def Jh (c f:eG)(fo fv:Lk D):Lk Fl:=λa S=>ai (fo a S) λd b=>ai (aL (kI c f d b) b) λv g=>ai (fv a g) λy e=>Jl c f d v y a e
def ql (P:fh)(w:il)(K:Ll)(mg:Lo)(base:kx)(k:Nat)(c m:eG)(a:ak eG)(F:Lp):Prop:=
 ∃ C f fd,RI K my c=ag (ag (.ref C))/\Qo K C/\Meth K C m f/\Sz P w K mg base k f fd a F/\Binds K fd a []
def HM (P:fh)(w:il)(K:Ll)(mg:Lo)(base:kx)(k:Nat)(c:eG)(a:ak eG)(F:Lp):Prop:=
 ∃ C f fd,RI K my c=ag (ag (.ref C))/\mg c=ag (.ref C)/\Mk K C f/\Sz P w K mg base k f fd a F/\Binds K fd a []
noncomputable def vL (c m:eG)(d:D)(S:Lq):a9 D:=(xT c d S).bind λfs=>if fs.lookup m=ay then ag .LN else ay
noncomputable def dI (c m:eG)(F:Lp)(fo:Lk D)(gs:Lk (ak D)):Lk D:=λa S=>ai (fo a S) λd b=>ai (aL (vL c m d b) b) λ_ g=>ai (gs a g) λe f=>j8 (F (d::e) f)
noncomputable def Hr (c m:eG)(F:Lp)(fo:Lk D)(gs:Lk (ak D)):Lk D:=λa S=>ai (fo a S) λd b=>ai (aL (vL c m d b) b) λ_ g=>ai (gs a g) λe f=>F (d::e) f
theorem CY {C:cn}(n:RI X.K my c=ag (ag (.ref C))){k:Lk D}{d:D}{x:V}{g:St}{H:Hp}{Q:VK}(h:tG X W (RD X) [d] [x] (λρ j=>ai (aL (vL c m d j) j) λ_ S2=>k ρ S2) g H Q) :
  ∃ a e fs,x = .ref a/\H a=ag (.ins C e fs)/\fs.lookup m=ay/\tG X W (RD X) [d] [x] k g H Q:=by
 obtain⟨J,ρ,S,r,G,cf,w,b,z⟩:=h
 try dsimp only at b
 obtain⟨s,I⟩:=w.Lz;cases q:vL c m d S with
 |none=>rw[q] at b;cases b
 |some L =>
  rw[q,bG,cI] at b;obtain⟨fs,E,p⟩:=hD.mp q;obtain⟨l,rfl,es⟩:=zz E;have f:=s;obtain⟨a,rfl,y⟩:=At.LG.mp s;obtain⟨M,e,t,o,u,F⟩:=cf.LZ.at_ l a _ y es;rw[n] at o;cases o;split at p
  ·rename_i B;rcases zB F m with ⟨_,A⟩ |⟨N,v,i,_⟩
   ·exact⟨a,e,t,rfl,u,A,J,ρ,S,r,G,cf,.cons f .nil,b,z⟩
   rw[B] at i;cases i
  cases p
theorem bQ {k:Nat}{N:ak eG}{F:Lp}{pl:Sem fg}(G:ql X.prog X.w X.K X.mg X.base k c m N F)(hr:L0 k X.A)(B:SE X W o fo)(P:SA X W (e::es) gs)
  (V:eK (e::es) X.env=(b0,sY e X.env)::eK es X.env:=by rfl) (U:(tw pos (eK es X.env)).any (·.1)=b0:=by rfl)
  (O:sY (.Call (.Attribute o m apos) (e::es) [] pos) X.env=(do
   let i ← sY o X.env
   abY apos.atName
   let (f,first) ← V2 [i] (ab0 i m pl)
   adQ pos f first (tw pos (eK (e::es) X.env)) (Xe pos (TV [] X.env))):=by rfl) :
  SE X W (.Call (.Attribute o m apos) (e::es) [] pos) (dI c m F fo gs):=by
 obtain⟨C,f,fd,n,cl,mt,fn,hb⟩:=G;refine PE.imp (EK (E:=E0) B cl mt fn hr hb .nil CG P V U O) λσ H Q h=>(tG.LD h).mono λx H1 g=>?_;obtain⟨d,Y⟩:=g;obtain⟨a,l,fs,p,L,D,Z⟩:=CY n Y;refine⟨a,l,fs,p,L,D,(tG.OI Z).mono λus H2 g=>?_⟩;obtain⟨j,u,R⟩:=g;obtain⟨J,ρ,S,r,S',cf,I,b,z⟩:=R
 try dsimp only at b
 obtain⟨m1,m2⟩:=Lx.split u I;obtain⟨T,_⟩:=m2.Lz;have b:j8 (F (d::j) S)=ag (r,S'):=b;unfold j8 at b;split at b
 ·rename_i t S2 q;cases b;exact⟨J,S,d::j,t,_,.cons T (by rw[i3];exact m1),cf.LZ,q,λs M v x' y m'=>z s M v x' y m'⟩
 cases b
noncomputable def z8 (c:eG)(F:Lp)(gs:Lk (ak D)):Lk D:=λb S=>ai (gs b S) λd a=>(match F (.loc a.length::d) (a++[.ins c []]) with
 |ag (.ok .LN,S2)=>LB (.loc a.length) S2
 |_=>ay)
theorem En {k:Nat}{O:ak eG}{F:Lp}(G:HM X.prog X.w X.K X.mg X.base k c O F)(hr:L0 (k+1) X.A)(R:SA X W (e::es) gs)(I:Gl X c:=by rfl)
  (T:(c==("__debug__":eG))=b0:=by decide) (P:eK (e::es) X.env=(b0,sY e X.env)::eK es X.env:=by rfl) (Y:(tw pos (eK es X.env)).any (·.1)=b0:=by rfl) :
  SE X W (.Call (.Name c p) (e::es) [] pos) (z8 c F gs):=by
 obtain⟨C,f,fd,n,B,mk,fn,hb⟩:=G;refine PE.imp (EL (E:=E0) mk fn hr I B hb .nil CG R T P Y) λσ H Q h=>(tG.OI h).mono λus g y=>?_;obtain⟨l,hl,m⟩:=y;rw[i3,i3] at m;obtain⟨J,ρ,S,r,S',cf,D,a,z⟩:=m
 try dsimp only at a
 intro x d L b ne;have U:(upd g d (.own x)) x=ay:=by rw[aG (lC ne)];exact L
 have N:=cf.LZ.same (aO b (.own x));have x1:Ex J g J (upd g d (.own x)):=Ex.same (aO b _);have q:=N.push (o:=.ins C d []) (mo:=.ins c []) U ⟨C,d,[],n,LC,.nil⟩;have x2:=x1.trans q.2;have j:(J++[x])[S.length]?=ag x:=by rw[← cf.LZ.len,hO (hB _)];simp
 have a:(match F (#[11]::l) (S++[.ins c []]) with
  |ag (.ok .LN,i)=>LB (#[11]) i
  |_=>ay)=ag (r,S'):=a
 split at a
 ·rename_i i V;cases a;refine⟨J++[x],_,#[11]::l,.LN,_,.cons (At.LG.mpr ⟨x,rfl,j⟩) (by rw[i3];exact D.ex x2),q.1,V,λt M v s u Z=>⟨At.Mt.mp Z,?_⟩⟩;exact z t M (.ref x) (x2.trans s) u (At.LG.mpr ⟨x,rfl,oo s.pre j⟩)
 cases a
end
section
variable {P:fh}{w:il}{K:Ll}{mg:Lo}{base:kx}
theorem nN {x qual:eG}{st:r4}{sc:lE}{N a:ak eG}{k:Nat}{G:Lk Fl}{f:cn}{fd:L4}(d:Q7 K x qual st f fd)(c:ar st=sc)(Sc:Lw N a sc)
  (h:∀ (f:cn) (b:ax) (A:jl) (outer:ak Env) (s:cv) (H:Hp) (E:XK),L0 k (A.deeper (XI qual sc s.heap.objs.size f b))->QP (pW RE P w K mg base N qual sc f b A outer s H E).SY W0 (bS st) G) :
  Sz P w K mg base (k+1) f fd a (a8 a.length (N.length-a.length) G):=nO d c Sc λA outer s H E hr=>h f fd.code A outer s H E hr
theorem iC {c m qual:eG}{st:r4}{sc:lE}{N a:ak eG}{k:Nat}{G:Lk Fl}(g:MethAt K c m qual st a)(d:ar st=sc)(Sc:Lw N a sc)
  (h:∀ (f:cn) (b:ax) (A:jl) (outer:ak Env) (s:cv) (H:Hp) (E:XK),L0 k (A.deeper (XI qual sc s.heap.objs.size f b))->QP (pW RE P w K mg base N qual sc f b A outer s H E).SY W0 (bS st) G) :
  ql P w K mg base (k+1) c m a (a8 a.length (N.length-a.length) G):=by
 obtain⟨C,f,fd,n,cl,mt,e,hb⟩:=g;exact⟨C,f,fd,n,cl,mt,nN e d Sc h,hb⟩
theorem FA {c qual:eG}{st:r4}{sc:lE}{N a:ak eG}{k:Nat}{G:Lk Fl}(i:HH K mg c qual st a)(e:ar st=sc)(Sc:Lw N a sc)
  (h:∀ (f:cn) (b:ax) (A:jl) (outer:ak Env) (s:cv) (H:Hp) (E:XK),L0 k (A.deeper (XI qual sc s.heap.objs.size f b))->QP (pW RE P w K mg base N qual sc f b A outer s H E).SY W0 (bS st) G) :
  HM P w K mg base (k+1) c a (a8 a.length (N.length-a.length) G):=by
 obtain⟨C,f,fd,n,d,mt,g,hb⟩:=i;exact⟨C,f,fd,n,d,mt,nN g e Sc h,hb⟩
theorem Bx {c m qual:eG}{st:r4}{b:ak eG}{k:Nat}(g:MethAt K c m qual st b):ql P w K mg base k c m b (λ_ _=>ay):=by
 obtain⟨C,f,fd,n,cl,mt,j,hb⟩:=g;have no:∀ a H Q E,¬ XG K (λ_ _=>ay) a H Q E:=λa H Q E h=>by obtain⟨J,S,l,d,o,_,_,e,_⟩:=h;cases e
 exact⟨C,f,fd,n,cl,mt,⟨λa H Q E h=>ku h (no a H Q E),λA outer s H args i a Q E _ _ _ _ h=>ku h (no a H Q E)⟩,hb⟩
end
noncomputable def cR (d:D)(S:Lq):a9 (ak D):=match d with
 | .loc l=>(match S[l]? with
  |ag (.lst xs)=>ag xs
  |_=>ay)
 |_=>ay
theorem Fe {d:D}{S:Lq}{xs:ak D}(h:cR d S=ag xs):∃ l,d = .loc l/\S[l]?=ag (.lst xs):=by
 unfold cR at h;split at h
 ·rename_i l;split at h
  ·rename_i a e;cases h;exact⟨l,rfl,e⟩
  cases h
 cases h
section
variable {X:Cx}{W:WT}{pos L6 apos p:UK}{o e a b:hL}{fo fe fa fb:Lk D}{x:eG}
theorem mH {J:ak cn}{S:Lq}{H:Hp}{d:D}{v:V}{xs:ak D}(so:LW X.K J S H)(m:At X.K H J d v)(h:cR d S=ag xs):∃ l q us,d = .loc l/\v = .ref q/\J[l]?=ag q/\S[l]?=ag (.lst xs)/\H q=ag (.lst us)/\Lx X.K H J xs us:=by obtain⟨l,rfl,es⟩:=Fe h;obtain⟨q,rfl,a⟩:=At.LG.mp m;obtain⟨us,b,c⟩:=so.at_ l q _ a es;exact⟨l,q,us,rfl,rfl,a,es,b,c⟩
noncomputable def wc:Lk D:=λ_ S=>LB (#[11]) (S++[.lst []])
theorem yQ:SE X W (.List [] pos) wc:=(CB MN).imp λa H Q h=>by
 obtain⟨J,d,S,r,f,c,_,e,z⟩:=h
 try dsimp only at e
 cases e;show sR a H _;refine⟨Tp _,λp b=>?_⟩;have q:=c.LZ.push (o:=.lst []) (mo:=.lst []) b ⟨[],LC,.nil⟩;refine z (J++[p]) _ _ q.2 q.1 (At.LG.mpr ⟨p,rfl,?_⟩);rw[← c.LZ.len,hO (hB _)];simp
noncomputable def yq (d v:D)(S:Lq):Out D:=match d with
 | .loc l=>(match S[l]? with
  |ag (.lst xs)=>if xs.length<d4 then LB .LN (S.set l (.lst (xs++[v]))) else ay
  |_=>ay)
 |_=>ay
noncomputable def Hu (fo fe:Lk D):Lk D:=λa S=>ai (fo a S) λd b=>ai (aL (cR d b) b) λ_ e=>ai (fe a e) λv c=>yq d v c
theorem Gq {name:eG}(hn:name="append")(C:SE X W o fo)(Y:SE X W a fe)(OG:RZ o name X.env (sY o X.env)=sY o X.env:=by rfl)
  (R:((tw L6 (eK [a] X.env)).all (λx => !x.1)&&(Xe L6 (TV [] X.env)).all (λx=>x.1.isSome)
   && dv ([a].length+([]:ak WH).length+(if ([]:ak WH).isEmpty then 0 else 1)<30))=ba:=by rfl)
  (Z:(apos.endLine==L6.line)=ba:=by rfl) (p:eK [a] X.env=(b0,sY a X.env)::eK [] X.env:=by rfl) (w:(tw L6 (eK [] X.env)).any (·.1)=b0:=by rfl) :
  SE X W (.Call (.Attribute o name apos) [a] [] L6) (Hu fo fe):=by
 subst hn;refine PE.imp (CD F.plainAttrs_list F.slot_list_append F.type_list_append A3 C (fy Y MN p) OG R Z p w) λI H Q h=>(tG.LD h).mono λx K G=>?_;obtain⟨d,h1⟩:=G;obtain⟨J,g,S,r,S',c,m,e,z⟩:=h1
 try dsimp only at e
 obtain⟨t,_⟩:=m.Lz;cases q:cR d S with
 |none=>rw[q] at e;cases e
 |some xs =>
  rw[q,bG,cI] at e;obtain⟨l,i,U,rfl,rfl,hq,es,E,mu⟩:=mH c.LZ t q;refine⟨.inl ⟨rfl,U,.inl (.inl E)⟩,?_⟩;have h2:tG X W (RD X) [.loc l] [.ref i] (λg f=>ai (fe g f) λv D=>yq (.loc l) v D) I K Q:=⟨J,g,S,r,S',c,.cons t .nil,e,z⟩;refine(tG.LD h2).mono λy H2 ⟨n,h3⟩=>?_;show sR _ _ _;obtain⟨T,V,f,B,WE,j,m2,b,z2⟩:=h3
  try dsimp only at b
  obtain⟨P,m2⟩:=m2.Lz;obtain⟨WG,_⟩:=m2.Lz;have b:yq (.loc l) n f=ag (B,WE):=b;unfold yq at b;simp only at b;split at b
  ·rename_i N O;split at b
   ·rename_i lt;cases b;obtain⟨q2,A,k⟩:=At.LG.mp WG;cases A;obtain⟨R_,WJ,s⟩:=j.LZ.at_ l i _ k O;have up:=j.LZ.update (o:=.lst (R_++[y])) (mo:=.lst (N++[n])) k λJ' H' u M L=>by subst M L;exact⟨_,LC,(s.ex u).append (.cons (P.ex u) .nil)⟩
    exact⟨i,R_,y,rfl,rfl,WJ,by rw[← s.length];exact lt,z2 T _ _ up.2 up.1 (At.Mt.mpr rfl)⟩
   cases b
  cases b
noncomputable def lJ (x i:D)(S:Lq):a9 D:=match i with
 | .int k=>(cR x S).bind λa=>Ou a k
 |_=>ay
noncomputable def uq (fa fb:Lk D):Lk D:=λa S=>ai (fa a S) λx c=>ai (fb a c) λi b=>aL (lJ x i b) b
theorem tm (u:SE X W a fa)(hb:SE X W b fb)(A:oB b:=by exact λ_ _=>rfl):SE X W (.Subscript a b pos) (uq fa fb):=
 (FV zu u hb A).imp λE H Q h=>(tG.LD h).mono λv F ⟨d,f⟩=>(tG.LD f).mono λG s o=>by
  obtain⟨j,g⟩:=o
  obtain⟨J,I,S,r,L,c,m,e,z⟩:=g
  try dsimp only at e
  obtain⟨x,m⟩:=m.Lz;obtain⟨B,_⟩:=m.Lz;cases q:lJ d j S with
  |none=>rw[q] at e;cases e
  |some K =>
   rw[q] at e;cases e;unfold lJ at q;split at q
   ·rename_i k;obtain⟨C,f,g⟩:=hD.mp q;obtain⟨l,y,t,rfl,rfl,D,es,n,p⟩:=mH c.LZ B f;cases At.Lu.mp x;obtain⟨w,i,a1⟩:=ur p g;exact⟨y,t,k,w,rfl,rfl,.inl (.inl n),i,z J s w Ex.refl c.LZ a1⟩
   cases q
noncomputable def By (fa fb:Lk D):Lk D:=λa S=>ai (fa a S) λx c=>ai (fb a c) λi b=>aL (if bO x=ba then lJ x i b else TH x i) b
theorem yR (e:SE X W a fa)(hb:SE X W b fb)(c:oB b:=by exact λ_ _=>rfl):SE X W (.Subscript a b pos) (By fa fb):=
 SE.either (tm e hb c) (FS ixd e hb c) λd S=>cu _ λx f=>by
  by_cases h:bO x=ba
  ·refine .inl (zc (ai (fb d f)) (acD λi=>acD λg=>?_));rw[dm h]
  refine .inr (zc (ai (fb d f)) (acD λi=>acD λg=>?_));rw[dV h]
noncomputable def DD (fe:Lk D):Lk D:=λc S=>ai (fe c S) λd a=>aL ((cR d a).map λb => .int b.length) a
theorem Eo (f:X.mg x=ay)(o:SE X W e fe)(j:x="len":=by rfl)(g:Gl X x:=by rfl)(a:eK [e] X.env=(b0,sY e X.env)::eK [] X.env:=by rfl)(s:(tw pos (eK [] X.env)).any (·.1)=b0:=by rfl) :
  SE X W (.Call (.Name x p) [e] [] pos) (DD fe):=by
 subst j;refine PE.imp (lD iA g f ju (fy o MN a) #[2] #[2] a s) λB H Q h=>?_;refine(tG.LD h).mono λv i ⟨d,u⟩=>?_;obtain⟨J,C,S,r,D,c,m,eq,z⟩:=u
 try dsimp only at eq
 obtain⟨w,_⟩:=m.Lz;show sR _ _ _;cases q:cR d S with
 |none=>rw[q] at eq;cases eq
 |some y =>
  rw[q] at eq;cases eq;obtain⟨l,t,n,rfl,rfl,A,es,b,k⟩:=mH c.LZ w q;refine⟨t,n,rfl,.inl (.inl (.inl b)),?_⟩;rw[← k.length];exact z J i _ Ex.refl c.LZ (#[17])
noncomputable def Fu (fe:Lk D):Lk D:=λc S=>ai (fe c S) λd b=>aL ((cR d b).bind λa=>if a.length<=d4 then ag (.tup a) else ay) b
end
theorem ints_get:∀ {vs:ak ax}{ns:ak Int}(i:Nat) {n:Int},V9 vs ns->ns[i]?=ag n->∃ t,vs[i]?=ag (.int n t)
 |_,_,_,_,.nil,e=>by simp at e
 |_,_,0,_,.cons n t r,e=>by simp at e;subst e;exact⟨t,rfl⟩
 |_,_,i+1,_,.cons n t r,e=>by
  obtain⟨a,h⟩:=ints_get i r (by simpa using e);exact⟨a,by simpa using h⟩
theorem vH:∀ {vs:ak ax}{ns:ak Int},V9 vs ns->vs.length=ns.length
 |_,_,.nil=>rfl
 |_,_,.cons n t r=>by simp[vH r]
theorem rB {k:Int}:∀ {ns:ak Int}{j:Nat},j<ns.idxOf k->∀ (a:j<ns.length),ns[j]≠k
 |n::r,0,h,_=>by
  intro e;have e:n=k:=e;subst e;simp at h
 |n::r,j+1,h,a=>by
  by_cases e:n=k
  ·subst e;simp at h
  have hb:(n==k)=b0:=by simpa using e
  rw[XY,hb] at h;exact rB (ns:=r) (j:=j) (by simpa using h) (by simpa using a)
theorem mh {prog:fh}{w:il}{A:jl}{E:Lm}{s:cv}{l:cn}{o:Obj}{n:Nat}{vs:ak ax}{ns:ak Int}{k:Int}{t:Tok}{Q:Lm}(u:s.heap.get? l=ag o)(hc:o.cls = .type "tuple")(hd:o.data = .seq vs.toArray n)(B:V9 vs ns)
  (K:k∈ns) (h:∀ t' s',s'={ s with toks:=s.toks+1 }->Q (.int (ns.idxOf k:Nat) t') s'):ew #[4] A (call (.builtin "tuple.index") [.ref l,.int k t]) Q E s:=by
 have H:s.TypeIs (.ref l) "tuple":=⟨o,u,hc⟩;refine mm F.slot_tuple_index H F.entry_tuple_index ?_ (F.args_tuple_index_2 _ _);show ew _ _ (Sr (.ref l) >>= _) _ _ s;refine av (WK u hd ?_);have q:=vH B;have y:ns.idxOf k<ns.length:=m3.mpr K;show ew _ _ (adq [0:Zu vs.toArray.size vs.toArray.size] _ _ >>= _) _ _ s;refine av ?_;rw[abI];have p:([0:Zu vs.toArray.size vs.toArray.size]:adj).size=vs.length:=by simp[aex]
 show ew _ _ (adq (range' 0 ([0:Zu vs.toArray.size vs.toArray.size]:adj).size 1) _ _) _ _ _;rw[p];refine VZ _ (λrest r s'=>r.1=ay/\s'=s/\∃ i,i<=ns.idxOf k/\rest=range' i (vs.length-i) 1) _ ?_ ?_ _ _ ⟨rfl,rfl,0,Tp _,by simp⟩
 ·rintro x rest r s' ⟨hr,rfl,i,M,b⟩;have P:i<vs.length:=#[1]
  obtain⟨m,g⟩:∃ m,vs.length-i=m+1:=⟨vs.length-i-1,#[1]⟩;rw[g,adk] at b;obtain⟨rfl,rfl⟩:=WC b;obtain⟨a,c⟩:∃ a,ns[x]?=ag a:=⟨ns[x]'#[0],bc _⟩;obtain⟨t',G⟩:=ints_get x B c;have L:vs.toArray[x]?=ag (.int a t'):=by simpa using G
  rw[L];show ew _ _ (eqBool (.int a t') (.int k t) >>= _) _ _ _;refine av (Xv ?_);by_cases e:a=k
  ·subst e
   have ex:ns.idxOf a=x:=by
    have R:ns.idxOf a<=x:=by
     have j:x<ns.length:=#[1]
     have:ns[x]=a:=by rw[bc j] at c;exact ja c
     rcases Wy x (ns.idxOf a) with h2 |h2
     ·exact ku this (rB h2 j)
     exact h2
    omega
   rw[aaE];simp only[n7];refine av (yk (show ew _ _ (retInt (x:Int)) _ _ _ from wpAny_ret_mkInt (Q:=λv d => ∃ t',v = .int (x:Int) t'/\d={ s' with toks:=s'.toks+1 }) ⟨_,rfl,rfl⟩) (λfin d I=>?_) λ_ _ z=>z);obtain⟨v,D,t',J,f⟩:=I;subst D J;refine bo (bo ⟨_,rfl,?_⟩);have C:=h t' d f;rw[ex] at C;exact C
  rw[mz.mpr e];simp only[lg,r3];refine bo ⟨rfl,rfl,x+1,?_,?_⟩
  ·have j:x<ns.length:=#[1]
   rcases Wy x (ns.idxOf k) with h2 |h2
   ·exact h2
   exfalso;have f:x=ns.idxOf k:=#[1]
   rw[f,bc y,Va y] at c;exact e (ja c).symm
  congr 1;omega
 rintro⟨O,N⟩ s' ⟨hr,rfl,i,M,b⟩;exfalso;obtain⟨m,g⟩:∃ m,vs.length-i=m+1:=⟨vs.length-i-1,#[1]⟩;rw[g,adk] at b;cases b
section
variable {X:Cx}{W:WT}{fe fa:Lk D}
theorem A0:MtR X "tuple.index" (λx xs H Q => ∃ (a:cn) (ns:ak Int) (k:Int),x = .ref a/\xs=[.int k]/\O2 X.K H a (ns.map V.int)/\k∈ns/\Q (.int (ns.idxOf k:Nat)) H):=by intro b s w H x xs v y Q I c i h;obtain⟨a,ns,k,rfl,rfl,f,g,q⟩:=h;cases c;obtain⟨u,rfl,d⟩:=vals1 i;obtain⟨t2,rfl⟩:=d;obtain⟨its,l,⟨o,m,p,n,j⟩,_⟩:=I.tuple f;refine mh (vs:=its) m p j (fA l) g λt r e=>?_;subst e;exact⟨.int _,H,I.tok _,⟨_,rfl⟩,q⟩
noncomputable def jM:D->D->a9 D
 | .tup a,.int k=>(bP a).bind λns=>if k∈ns then ag (.int (ns.idxOf k:Nat)) else ay
 |_,_=>ay
theorem Ga {J:ak cn}{b:Hp}{d:D}{v:V}(f:fQ d=ba)(m:At X.K b J d v):XB X.K "tuple" v b:=by
 cases d<;>first |(cases f;done) |skip
 rename_i j;obtain⟨a,e,rfl,c,_⟩:=At.LF.mp m;rcases c with z |⟨o,its,n,h,i,g,_⟩
 ·exact .inr (.inl ⟨rfl,.inr ⟨e,z.1⟩⟩)
 exact .inr (.inl ⟨rfl,.inl ⟨o,h,i,g⟩⟩)
theorem rD {o:hL}{name:eG}{b c:UK}{a:hL}(C:name="index")(r:SE X W o fe)(z:SE X W a fa)(D:RZ o name X.env (sY o X.env)=sY o X.env:=by rfl)
  (u:((tw c (eK [a] X.env)).all (λx => !x.1)&&(Xe c (TV [] X.env)).all (λx=>x.1.isSome)
   && dv ([a].length+([]:ak WH).length+(if ([]:ak WH).isEmpty then 0 else 1)<30))=ba:=by rfl)
  (A:(b.endLine==c.line)=ba:=by rfl) (g:eK [a] X.env=(b0,sY a X.env)::eK [] X.env:=by rfl) (j:(tw c (eK [] X.env)).any (·.1)=b0:=by rfl) :
  SE X W (.Call (.Attribute o name b) [a] [] c) (DJ fQ jM fe fa):=by
 subst C;refine PE.imp (CD F.plainAttrs_tuple F.slot_tuple_index F.type_tuple_index A0 r (fy z MN g) D u A g j) λG H Q h=>CZ (λJ I d v w m=>Ga w m) (λv K t Q q=>?_) h;obtain⟨J,E,M,O,L,i,s,eq,q⟩:=q;unfold jM at eq;split at eq
 ·rename_i N k;obtain⟨ns,l,e⟩:=hD.mp eq;rw[1]
  ·rename_i hc;cases e;cases At.Lu.mp s;obtain⟨a,p,rfl,n,B⟩:=At.LF.mp i;have y:=fR l;subst y;have f:p=ns.map V.int:=Lx.NW B;subst f;exact⟨a,ns,k,rfl,rfl,n.sq,hc,q t _ (LH.refl _) (#[17])⟩
  cases e
 cases eq
end
noncomputable def GW:ak Int->a9 Int
 |[]=>ay
 |n::r=>ag (r.foldl (λa b=>if b<a then b else a) n)
theorem t7:∀ (r:ak Int) (n:Int),(r.foldl (λa b=>if b<a then b else a) n∈n::r)/\∀ a∈n::r,r.foldl (λa b=>if b<a then b else a) n<=a
 |[],n=>by simp
 |x::r,n=>by
  rw[UU];by_cases f:x<n
  ·rw[dm f];obtain⟨d,c⟩:=t7 r x;refine⟨eJ _ d,λa ha=>?_⟩;rcases f5.mp ha with e |ha
   ·have g:=c x (gy ..);omega
   exact c a ha
  rw[dV f];obtain⟨d,c⟩:=t7 r n;have g:=c n (gy ..);refine⟨?_,λa ha=>?_⟩
  ·rcases f5.mp d with e |h
   ·rw[e];exact gy ..
   exact eJ _ (eJ _ h)
  rcases f5.mp ha with e |ha
  ·omega
  rcases f5.mp ha with e |ha
  ·omega
  exact c a (eJ _ ha)
theorem A4 {ns:ak Int}{M:Int}(c:M∈ns)(d:∀ a∈ns,M<=a):GW ns=ag M:=by
 cases ns with
 |nil=>simp at c
 |cons n r =>
  obtain⟨a,b⟩:=t7 r n;exact zc ag (adE (b M c) (d _ a))
theorem kE:∀ {vs:ak ax}{ns:ak Int},V9 vs ns->∃ xs:ak (Int×Tok),vs=xs.map (λp => .int p.1 p.2)/\ns=xs.map (·.1)
 |_,_,.nil=>⟨[],rfl,rfl⟩
 |_,_,.cons n t r=>by
  obtain⟨xs,a,b⟩:=kE r;exact⟨(n,t)::xs,by rw[a];rfl,by rw[b];rfl⟩
section
variable {X:Cx}{W:WT}
noncomputable def pD:ak D->a9 D
 |[.lst ds]=>(bP ds).bind λns=>(GW ns).map .int
 |_=>ay
theorem zY (hc:X.calm=ba):jw X (.builtin "min") pD:=by
 intro o s U H b W Q I r h;obtain⟨J,Y,d,V,m,e,q⟩:=h;unfold pD at e;rw[1]
 ·rename_i ys;obtain⟨ns,y,E⟩:=hD.mp e;obtain⟨M,g,R⟩:=en.mp E;subst R;obtain⟨v,w,rfl,a,n⟩:=Lx.Lv.mp m;cases Lx.Ly.mp n;obtain⟨p,Z,rfl,t,O⟩:=At.LK.mp a;obtain⟨u,rfl,z⟩:=vals1 r;cases z;have L:=fR y;subst L;have ev:=Lx.NW O;subst ev;obtain⟨its,P,pl,T⟩:=I.list t.sq;obtain⟨b,ex,f⟩:=kE (fA P)
  have G : 0<b.length:=by
   cases b with
   |nil=>subst f;cases g
   |cons x b=>simp
  have B:s.heap.IsList p (ad9 b.toArray):=by have:=pl.isList;rw[ex] at this;simpa [ad9] using this
  refine min_intList (I.ok.hd hc) B (by simpa using G) λv h' tk A K=>?_;obtain⟨D,rfl⟩:=intItems_at A;obtain⟨h1,S⟩:=argBest_lt (ac5 b.toArray) (b.toArray.size-1)
  have mem:ac5 b.toArray (argBest (λi j=>dv (ac5 b.toArray i<ac5 b.toArray j)) (b.toArray.size-1))∈ns:=by
   have hb:argBest (λi j=>dv (ac5 b.toArray i<ac5 b.toArray j)) (b.toArray.size-1)<b.length:=by
    have:b.toArray.size=b.length:=by simp
    omega
   rw[numAt_eq,f];simp only[ZK,hF,acd,bc hb,VM,ab4];exact vl.mpr ⟨_,Oy hb,rfl⟩
  have low:∀ a∈ns,ac5 b.toArray (argBest (λi j=>dv (ac5 b.toArray i<ac5 b.toArray j)) (b.toArray.size-1))<=a:=by
   intro a l;rw[f] at l;obtain⟨x,F,rfl⟩:=vl.mp l;obtain⟨j,C,rfl⟩:=Qq F
   have N:=S j (by
    have:b.toArray.size=b.length:=by simp
    omega)
   refine ac0 N (Int.le_of_eq ?_);simp[ac5,C]
  have k:=A4 mem low;rw[g] at k;have c:=ja k;refine⟨.int M,H,I.kept (t':=tk) K,⟨D,by rw[c]⟩,q H _ (LH.refl H) (#[17])⟩
 cases e
end
section
variable {X:Cx}{W:WT}{pos:UK}
noncomputable def HJ (K:Ll)(a:cn):It:=
 ⟨λi H => ∃ b x,OC K H a b/\b[i]?=ag x,λi H x c => ∃ p y,H p=ay/\x = .ref p/\c=upd H p (.tup [.int i,y])/\∀ b,OC K H a b->b[i]?=ag y,λi H => ∃ b,OC K H a b/\b.length<=i⟩
theorem wW {P:fh}{w:il}{K:Ll}{es:ak hL}{k:Nat}{pt:UK}(a e it:cn)(U:e≠it)(YR:a≠e)(YS:a≠it):Turn P w K (.Tuple es k pt) (HJ K a) [e,it] e (λi h=>(∃ old,IsEnum h e it i old)/\h.IsListIter it a i) where
 mem:=by simp
 obj:=λi h st b hb=>by
  obtain⟨⟨old,d⟩,o,l,hc,hd⟩:=st;rcases f5.mp hb with rfl |hb
  ·exact⟨_,d,λv z=>by cases z⟩
  have:b=it:=#[16]
  subst this;exact⟨o,l,λv z=>by rw[hd] at z;cases z⟩
 keep:=λi h h' st kp=>by
  obtain⟨⟨old,d⟩,o,l,r⟩:=st;exact⟨⟨old,kp e #[3] _ d⟩,o,kp it #[3] o l,r⟩
 item:=by
  intro X n M V hc i j s σ H E I C st T;subst n M V;obtain⟨D,x,F,O⟩:=T;obtain⟨its,N,p,hz⟩:=I.list F;obtain⟨u,hu,ru⟩:=N.get O;obtain⟨⟨old,d⟩,f⟩:=st;have M0:i<its.toArray.size:=by rw[f3];exact(b5.mp hu).1
  refine aaG (Draws.list (A:=X.A.in1) (I.ok.hd hc) it a YS its.toArray) d ⟨f,p.isList⟩ M0 U (by simp[U,lC YR]) λy h' tk n l Vn hT hsz hk=>?_
  have ey:y=u:=by
   have:its.toArray[i]?=ag u:=by simpa using hu
   rw[this] at n;exact(ja n).symm
  subst ey;refine⟨_,rfl,ZM (s:={ s with heap:=h',toks:=tk+1 }) l λG Vo L=>?_⟩;have hn:H s.heap.objs.size=ay:=I.fresh;obtain⟨R,Z,fe2,YT,YU,YV⟩:=C e #[3];obtain⟨t,B,YW,W,S,J⟩:=C it #[3];have kp:∀ b o,b≠e->b≠it->#[18]=ag o->G.get? b=ag o:=λb o Y QS g=>(L.2 b Y).trans (hk b o Y QS g);have Wn:s.heap.objs.size≠e:=Yg (eM d);have Rb:G.get? s.heap.objs.size=ag { cls:=.type "tuple",data:=.seq #[.int i tk,y] }:=(L.2 _ Wn).trans hT;have ne:∀ b o,H b=ag o->b≠s.heap.objs.size:=λb o q=>aM q hn
  have I1:Inv X j σ (upd H s.heap.objs.size (.tup [.int i,x])) { s with heap:=G,toks:=tk+1 }:=by
   refine I.step (h':=G) (g':=s.gens) (d':=s.drawn) (t':=tk+1) (ch:=[e,it]) (λb hb=>?_) (λb o _ _ hb g _=>kp b o (λz=>hb (by simp[z])) (λz=>hb (by simp[z])) g) (λb o _ _ hb g _=>⟨o.slots,kp b o (λz=>hb (by simp[z])) (λz=>hb (by simp[z])) g⟩)
    (λb o hb g n'=>by rw[aG (nq (eM g))];exact n') (λb o hb g=>⟨o,kp b o (λz=>hb (by simp[z])) (λz=>hb (by simp[z])) g⟩)
    (λb D q=>by rw[aG (ne b _ q)];exact q) (λb o D q=>by rw[aG (ne b _ q)];exact q) (λb ps q=>⟨#[],by rw[aG (ne b _ q),q];simp⟩)
    (λm hm=>?_) (λb o q=>?_) I.bare
   ·rcases f5.mp hb with rfl |hb
    ·exact⟨YT,Z,YU,YV⟩
    have:b=it:=#[16]
    subst this;exact⟨W,B,S,J⟩
   ·obtain⟨o,es,ep,l,r⟩:=hm;exact⟨o,es,ep,kp _ o (lC Z) (lC B) l,r⟩
   by_cases hb:b=s.heap.objs.size
   ·subst hb;rw[LC] at q;cases q;exact⟨by show 2<=d4;decide,[.int i tk,y],.cons ⟨tk,rfl⟩ (.cons ru .nil),_,Rb⟩
   rw[aG hb] at q;refine(I.LX b o q).OA (λc v O6 z=>kp c v ?_ ?_ z) (λc z=>by rw[aG (ne c _ z)];exact z) λc D z=>by rw[aG (ne c _ z)];exact z
   ·rcases O6 with z' |z'
    ·rw[z'];exact aM q R
    exact aM z' R
   rcases O6 with z' |z'
   ·rw[z'];exact aM q t
   exact aM z' t
  refine⟨#[15],_,I1,rfl,⟨_,x,hn,rfl,rfl,λys hy=>by rw[I.OD hy F];exact O⟩,⟨⟨y,Vo⟩,Vn.1.extBut L.extBut (lC U)⟩,λb hb=>?_⟩;rcases f5.mp hb with rfl |hb
  ·rw[aG (lC Wn)];exact R
  have:b=it:=#[16]
  subst this;obtain⟨o,Qh,_⟩:=f;rw[aG (nq (eM Qh))];exact t
 done:=by
  intro X n M V hc i j s σ H E I C st T;subst n M V;obtain⟨D,F,O⟩:=T;obtain⟨its,N,p,hz⟩:=I.list F;obtain⟨⟨old,d⟩,f⟩:=st;obtain⟨t,B,YW,W,S,J⟩:=C it #[3];have hl:=N.length;exact wpAny_pyNext_enum_end (I.ok.hd hc) d f p.isList (by simp;omega) λh' eb=>⟨rfl,I.turned (t':=s.toks) (λb o hb e=>eb b o hb e) t B W S J⟩
 self:=by
  intro A i s Q E st h;obtain⟨⟨old,d⟩,_⟩:=st;exact Xi d h
theorem Walk.Tq {a:cn}{ds:ak D}{xs:ak V}{J:ak cn}{H:Hp}(t:LQ X.K H J a xs)(m:Lx X.K H J ds xs):Walk X (HJ X.K a) (bi 0 ds) J H where
 len:=by rw[bJ,m.length];exact t.len
 go:=λf c i x b=>by
  rw[bJ] at b;have m1:=m.ex x;obtain⟨v,h,_⟩:=m1.get (bc b);exact⟨xs,v,(t.ex x).sq,h⟩
 Qm:=λf c i v l x j b y=>by
  obtain⟨p,y,g,rfl,rfl,k⟩:=y;obtain⟨d,e,a⟩:=(m.ex x).get' (k xs (t.ex x).sq);refine⟨.tup [.int i,d],by rw[cZ,e];simp,At.Ng (.cons (#[17]) (.cons a .nil)) g j (by show 2<=d4;decide),aO g _⟩
 stop:=λf c i x b=>by
  rw[bJ] at b;exact⟨xs,(t.ex x).sq,by rw[← m.length];exact b⟩
noncomputable def x_:ak D->a9 (ak D)
 |[.lst xs]=>ag (bi 0 xs)
 |_=>ay
theorem xh {es:ak hL}{k:Nat}{pt p:UK}{a:hL}{t:Lk (ak D)}{x:eG}(E:x="enumerate")(B:X.mg x=ay)(L:SA X W [a] t)(C:Gl X x:=by rfl)
  (G:eK (a::[]) X.env=(b0,sY a X.env)::eK [] X.env:=by rfl) (O:(tw pos (eK [] X.env)).any (·.1)=b0:=by rfl):SI X W (.Tuple es k pt) (.Call (.Name x p) [a] [] pos) (f_ x_ t):=by
 subst E;intro c s l H R I h;refine OO (kD I C B boot_enumerate ?_ #[2] #[2]);refine callWith_type1 (LR (L pos c s l H _ I (jb h)) λZ d A=>?_) G O;obtain⟨U,i,f,F,J,S,Y,ds,so,m,g,z⟩:=A;unfold x_ at g;split at g
 ·rename_i V;cases g;obtain⟨v,r,rfl,a1,n⟩:=Lx.Lv.mp m;cases Lx.Ly.mp n;obtain⟨ad,T,rfl,j,N⟩:=At.LK.mp a1;obtain⟨u,rfl,y⟩:=vals1 F;cases y;obtain⟨its,rv,pl,Q⟩:=f.list j.sq;have q:ad<d.heap.objs.size:=by obtain⟨o,n,e,_⟩:=pl;exact eM e
  refine call_enumerate_list pl.isList λM w it sz kp=>?_;have P:Inv X c l i { d with heap:=M }:=f.kept (t':=d.toks) kp;refine Xi w ?_;refine⟨d.heap.objs.size+1,[d.heap.objs.size+1,d.heap.objs.size],_,HJ X.K ad,i,rfl,P,wW ad _ _ (Yg (US _)) (nq (U8 q)) (nq q),⟨⟨_,w⟩,it⟩,λb hb=>?_,z i _ (LH.refl _) (Walk.Tq j N)⟩;rcases f5.mp hb with rfl |hb
  ·exact f.Of (aac _) (f.LX.fresh (aac _))
  have:b=d.heap.objs.size:=#[16]
  subst this;exact f.Of (hB _) f.fresh
 cases g
noncomputable def t_:ak D->a9 (ak D)
 |[.tup xs]=>ag (bi 0 xs)
 |[.lst xs]=>ag (bi 0 xs)
 |_=>ay
theorem B4 {es:ak hL}{k:Nat}{pt p:UK}{a:hL}{t:Lk (ak D)}{x:eG}(f:x="enumerate")(c:X.mg x=ay)(h:SA X W [a] t)(d:Gl X x:=by rfl)
  (g:eK (a::[]) X.env=(b0,sY a X.env)::eK [] X.env:=by rfl) (e:(tw pos (eK [] X.env)).any (·.1)=b0:=by rfl):SI X W (.Tuple es k pt) (.Call (.Name x p) [a] [] pos) (f_ t_ t):=by
 refine SI.either (on f c h d g e) (xh f c h d g e) λj S=>?_;unfold f_;refine cu _ λi l=>?_;unfold t_ ki x_
 match i with
 |[.tup xs]=>exact #[9]
 |[.lst xs]=>exact .inr rfl
 |[]=>exact #[9]
 |[.LN]=>exact #[9]
 |[.bl _]=>exact #[9]
 |[.int _]=>exact #[9]
 |[.str _]=>exact #[9]
 |[.set _]=>exact #[9]
 |[.loc _]=>exact #[9]
 |[.fn _ _]=>exact #[9]
 |a::b::r=>cases a<;>exact #[9]
end
section
variable {X:Cx}{W:WT}{pos p:UK}{e:hL}
noncomputable def FB (c:eG)(g:Lr->Lq->fg):Lk Fl:=λa S=>if g a S=ba then ag (.error c,S) else ay
end
section
variable {X:Cx}{W:WT}{pos pos' p:UK}{o i e:hL}{es:ak hL}{gs:Lk (ak D)}{fo fi fv fe:Lk D}{x:eG}
noncomputable def j9 (x k v:D)(ρ:Lr)(S:Lq):Out Fl:=match k with
 | .int i=>(match x with
  | .loc l=>(match S[l]? with
   |ag (.lst xs)=>(match QO xs.length i with
    |ag j=>LB (.next ρ) (S.set l (.lst (xs.set j v)))
    |ay=>ay)
   |_=>ay)
  |_=>ay)
 |_=>ay
noncomputable def z_ (fo fi fv:Lk D):Lk Fl:=λa S=>ai (fv a S) λv d=>ai (fo a d) λx c=>ai (fi a c) λk b=>j9 x k v a b
theorem Lx.set {K:Ll}{H:Hp}{J:ak cn}{d:D}{v:V}(a:At K H J d v):∀ {ds:ak D}{vs:ak V}(j:Nat),Lx K H J ds vs->Lx K H J (ds.set j d) (vs.set j v)
 |[],vs,j,m=>by cases Lx.Ly.mp m;exact m
 |e::ds,vs,j,m=>by
  obtain⟨u,r,rfl,m1,m2⟩:=Lx.Lv.mp m;cases j with
  |zero=>exact .cons a m2
  |succ j=>exact .cons m1 (Lx.set a j m2)
theorem Ef (G:SE X W o fo)(O:SE X W i fi)(D:SE X W e fv)(P:acj [.Subscript o i pos'] e pos.line X.env=y8 b0:=by rfl)(Q:ack [.Subscript o i pos'] e X.env=y8 ay:=by rfl)
  (n:(Ss [.Subscript o i pos'] X.env).map (·.2)=[WM (.Subscript o i pos') X.env]:=by rfl)
  (d:∀ v,WM (.Subscript o i pos') X.env v=(do
   let b ← V2 [v] (sY o X.env);let f ← V2 [v,b] (sY i X.env)
   abY pos'
   V2 [v,b,f] (abZ b f v)
   release [v,b,f] []):=by intro _;rfl):SS X W (.Assign [.Subscript o i pos'] e pos) (z_ fo fi fv):=
 (Cr D (GL G O set_list d) P Q n).imp λE s H h=>by
  have h:tH X W [] [] (z_ fo fi fv) E s H:=let ⟨J,g,S,r,p,c,e,z⟩:=h;⟨J,g,S,r,p,c,.nil,e,z⟩;refine(tH.LD h).mono λv Y ⟨A,n⟩=>(tH.LD n).mono λx H2 ⟨q,R⟩=>(tH.LD R).mono λy V ⟨t,N⟩=>?_;obtain⟨J,g,S,r,p,c,m,e,z⟩:=N;obtain⟨mk,m⟩:=m.Lz;obtain⟨M,m⟩:=m.Lz;obtain⟨C,_⟩:=m.Lz;have e:j9 q t A g S=ag (r,p):=e;unfold j9 at e;cases t with
  |int k =>
   cases q with
   |loc l =>
    simp only at e;rw[1]
    ·rename_i I es;rw[1]
     ·rename_i j T;cases e;obtain⟨a,rfl,d⟩:=At.LG.mp M;obtain⟨w,F,u⟩:=c.LZ.at_ l a _ d es;cases At.Lu.mp mk;have up:=c.LZ.update (o:=.lst (w.set j v)) (mo:=.lst (I.set j A)) d λU Z B L K=>by subst L K;exact⟨_,LC,Lx.set (C.ex B) j (u.ex B)⟩
      exact⟨a,w,k,j,rfl,rfl,F,by rw[← u.length];exact T,z J s _ up.2 (c.re up.2 up.1)⟩
     cases e
    cases e
   |_=>cases e
  |_=>cases e
end
def FE (K:Ll)(x qual:eG)(st:r4)(f:cn):Prop:=∃ fd,Q7 K x qual st f fd
def BD (x qual:eG)(st:r4)(b:ak eG):Prop:=∀ (kV doc d:ax) (c:a9 cn) (e ct:ax) (a:ak ax),a.length=b.length->VH (L7 x qual (d5 st) (bS st) (ar st) .none kV doc d c e ct) ⟨a,[]⟩=y8 (b.zip a)
section
variable {P:ak ax->Prop}{us:ak ax}
theorem us0 (h:us.length=0)(k:P []):P us:=by rw[SK.mp h];exact k
theorem D6 {n:Nat}(h:us.length=n+1)(k:∀ a r,r.length=n->P (a::r)):P us:=by
 cases us with
 |nil=>cases h
 |cons a r=>exact k a r (Nat.succ.inj h)
theorem us1 (h:us.length=1)(k:∀ a,P [a]):P us:=D6 h λa _ h=>us0 (P:=λr=>P (a::r)) h (k a)
theorem R_ (h:us.length=2)(k:∀ a b,P [a,b]):P us:=D6 h λa _ h=>us1 (P:=λr=>P (a::r)) h (k a)
theorem us3 (h:us.length=3)(k:∀ a b c,P [a,b,c]):P us:=D6 h λa _ h=>R_ (P:=λr=>P (a::r)) h (k a)
theorem us4 (h:us.length=4)(k:∀ a b c d,P [a,b,c,d]):P us:=D6 h λa _ h=>us3 (P:=λr=>P (a::r)) h (k a)
end
section
variable {x qual:eG}{st:r4}{p1 p2 p3 p4 p5 p6:eG}
theorem Y7 (h:∀ (kV doc d:ax) (b:a9 cn) (e ct:ax) (a:ax),VH (L7 x qual (d5 st) (bS st) (ar st) .none kV doc d b e ct) ⟨[a],[]⟩=y8 [(p1,a)]):BD x qual st [p1]:=λkV doc d b e ct c f=>us1 (P:=λc=>VH _ ⟨c,[]⟩=y8 (abJ [p1] c)) f λa=>(h kV doc d b e ct a)
theorem Y8 (h:∀ (kV doc e:ax) (c:a9 cn) (f ct:ax) (a b:ax),VH (L7 x qual (d5 st) (bS st) (ar st) .none kV doc e c f ct) ⟨[a,b],[]⟩=y8 [(p1,a),(p2,b)]):BD x qual st [p1,p2]:=λkV doc e c f ct d g=>R_ (P:=λd=>VH _ ⟨d,[]⟩=y8 (abJ [p1,p2] d)) g λa b=>(h kV doc e c f ct a b)
theorem Y9 (h:∀ (kV doc f:ax) (d:a9 cn) (g ct:ax) (a b c:ax),VH (L7 x qual (d5 st) (bS st) (ar st) .none kV doc f d g ct) ⟨[a,b,c],[]⟩=y8 [(p1,a),(p2,b),(p3,c)]):BD x qual st [p1,p2,p3]:=λkV doc f d g ct e i=>us3 (P:=λe=>VH _ ⟨e,[]⟩=y8 (abJ [p1,p2,p3] e)) i λa b c=>(h kV doc f d g ct a b c)
theorem Y_ (h:∀ (kV doc g:ax) (e:a9 cn) (i ct:ax) (a b c d:ax),VH (L7 x qual (d5 st) (bS st) (ar st) .none kV doc g e i ct) ⟨[a,b,c,d],[]⟩=y8 [(p1,a),(p2,b),(p3,c),(p4,d)]):BD x qual st [p1,p2,p3,p4]:=λkV doc g e i ct f j=>us4 (P:=λf=>VH _ ⟨f,[]⟩=y8 (abJ [p1,p2,p3,p4] f)) j λa b c d=>(h kV doc g e i ct a b c d)
end
section
variable {K:Ll}{h:kx}{mg:Lo}{x m c qual:eG}{st:r4}{ps:ak eG}{f C:cn}
theorem fE {e:ax}{b g:a9 cn}{d:ib (a9 ax)}{kV doc h a ct:ax}(l:K.lookup f=ag ⟨e,b,.func (L7 x qual (d5 st) (bS st) (ar st) .none kV doc h g a ct),d⟩)
  (c:Zs K a qual=ba) (k:Qj K (.ref f)=ba):FE K x qual st f:=⟨_,Ha l c k⟩
theorem dAt (X:K.In h)(G:h.Ns my mg)(a:RI K my x=ag (ag (.ref f)))(q:FE K x x st f)(b:BD x x st ps):bd K mg x st ps:=
 adz q λfd F=>⟨f,fd,F,aep X G a,F.binds b⟩
abbrev NC (K:Ll)(c:eG)(C:cn):Prop:=RI K my c=ag (ag (.ref C))/\Qo K C
theorem mAt (n:NC K c C)(a:sA K (.ref C) m=ag (ag (.ref f)))(i:Zc K (.ref f)=ba)(q:FE K m qual st f)(b:BD m qual st ps):MethAt K c m qual st ps:=
 adz q λfd F=>⟨C,f,fd,n.1,n.2,⟨a,i,F.kp⟩,F,F.binds b⟩
theorem kAt (X:K.In h)(G:h.Ns my mg)(n:NC K c C)(d:abc K C=ba)(e:Qj K (.ref C)=ba)(a:sA K (.ref C) "__init__"=ag (ag (.ref f)))(i:Zc K (.ref f)=ba)(q:FE K "__init__" qual st f)(b:BD "__init__" qual st ps):HH K mg c qual st ps:=
 adz q λfd F=>⟨C,f,fd,n.1,aep X G n.1,⟨d,a,i,e⟩,F,F.binds b⟩
end
end L2
namespace L2
open PySem
section
variable {prog:fh}{w:il}{K:Type} [PR K] {knd:abq prog w K}{pk:K->fg}{led:fg}{A:jl}{E:Lm}{s:cv}
set_option maxHeartbeats 3200000 in
theorem uf {l:Addr}{items:Array Value}{Q:Lm}(U:A.handled=none)(L:s.heap.IsList l items)(val:Nat->K)(Y:∀ (i:Nat) v,items[i]?=some v->knd.is (val i) v=true/\v.scannable=true/\plainKind v=pk (val i))
  (hb:items.size+1<scanBound)
  (h:∀ (h':Heap) (tk:Nat),Mr knd pk (!P8 w) h' s.heap.objs.size (met val items.size)->(∀ b o,b<s.heap.objs.size->s.heap.get? b=some o->h'.get? b=some o)->Q (.ref s.heap.objs.size) { s with heap:=h',toks:=tk }) :
  wpAny (model prog w) A (call (.type "set") [.ref l]) Q E s:=by
 obtain⟨c,tl,u⟩:=F.called_set.mro;have c1:=F.called_set.made;have c2:=F.called_set.sub;refine wpAny_call (codeAny_of_tree ?_);show wpAny _ _ (callAny (.type "set") _) _ _ _;refine wpAny_pure ⟨Code.quiet_builtin _ (by decide),codeAny_builtin F.entry_type_call ?_⟩;rw[Around.under_plain (weight_type_call_type "set" [.ref l] []) rfl];have c3:=F.called_set.notType;have c4:=F.called_set.canCreate;have c5:=SF.Ws (.ref l)
 repeat (any_goals (first |assumption |wp_step))
 refine codeAny_mono (B6 (.ref l) (E:=E) (Q₁:=λobj d=>obj = .ref s.heap.objs.size/\d={ s with heap:=s.heap.push (nY w) }) ⟨rfl,rfl⟩) λr d hr=>?_;cases r with
 |error e=>exact hr
 |ok P =>
  cases P with
  |ret obj =>
   obtain⟨rfl,rfl⟩:=hr;have z:(s.heap.push (nY w)).get? s.heap.objs.size=some (nY w):=Heap.get?_push_size _ rfl;have V:Shared.TypeIs { s with heap:=s.heap.push (nY w) } (.ref s.heap.objs.size) "set":=⟨_,z,rfl⟩;have i1:=F.called_set.init.lookup;have i2:=F.called_set.init.bind (.ref s.heap.objs.size)
   repeat (any_goals (first |assumption |wp_step))
   refine codeAny_mono (codeAny_call_builtin (R:=wants (λr a=>r = .none/\∃ h' tk,a={ s with heap:=h',toks:=tk }/\Mr knd pk (!P8 w) h' s.heap.objs.size (met val items.size) /\
     (∀ b o,b<s.heap.objs.size->s.heap.get? b=some o->h'.get? b=some o)) E) F.called_set.init.plain F.entry_set_init (Aw V ?_)) λf a k=>?_
   ·obtain⟨⟨D,n,q,Za⟩,x,y,B,t⟩:=id L;simp only at y t;subst y t;have C:=Heap.get?_push_of_some (nY w) x;have t1:=F.sub_list_set;have t2:=F.sub_list_frozenset;have t3:(Value.type "list"==Value.type "dict")=false:=by decide
    have M:(s.heap.push (nY w)).IsList l items:=⟨_,C,rfl,B,rfl⟩;unfold Builtin.«set.__init__» noKeywords Builtin.Frozenset.updateFrom;generalize j:pyIter=PI
    wp_walk
    subst j;refine wpAny_pyIter_list M ?_;refine wpAny_bind (wpAny_runValue ?_);have g:l<s.heap.objs.size:=Heap.lt_size x;have z1:(s.heap.push (nY w)).objs.size=s.heap.objs.size+1:=Heap.size_push ..;have H:l≠(s.heap.push (nY w)).objs.size:=by rw[z1];exact ne_of_lt (lt_succ_of_lt g)
    have Z:s.heap.objs.size∉[(s.heap.push (nY w)).objs.size,l]:=by
     rw[z1];intro hm;rcases mem_cons.mp hm with e |hm
     ·exact ne_of_lt (lt_succ_self _) e
     exact ne_of_gt g (mem_singleton.mp hm)
    refine B7 (pk:=pk) (led:=!P8 w) ((Walks.list (by simp[U]) _ l H items).toS) s.heap.objs.size Z val Y hb (items.size-0) 0 _ (by omega) (zero_le _)
     ⟨⟨_,Heap.get?_push_size _ rfl,rfl,rfl⟩,⟨_,Heap.get?_push_of_some _ C,rfl,B,rfl⟩⟩ (Mr.start (Heap.get?_push_of_some _ z)) λI hm m=>?_
    obtain⟨h',W,O,p,J⟩:=I;have X:W=s.gens:=hm.gens;have S:O=s.drawn:=hm.drawn;have N:J=s.os:=hm.os;subst X S N;show wpAny _ _ _ _ _ _;refine wpAny_pure ?_;show wpAny _ _ (ret Value.none) _ _ _;refine wpAny_pure ⟨rfl,h',p,rfl,m,λb o hb e=>hm.heap b o ?_ (Heap.get?_push_of_some _ (Heap.get?_push_of_some _ e))⟩;intro hm;rcases mem_cons.mp hm with e |hm
    ·exact ne_of_lt hb e
    rw[z1] at hm;exact ne_of_lt (lt_succ_of_lt hb) (mem_singleton.mp hm)
   cases f with
   |error e=>exact k
   |ok G =>
    cases G with
    |ret r =>
     obtain⟨rfl,h',tk,rfl,m,T⟩:=k
     repeat (any_goals (first |assumption |wp_step))
     exact h _ _ m T
    |_=>exact k.elim
  |_=>exact hr.elim
end
end L2
namespace L2
open PySem PySem.Spec PyProof.Rows PySem.W
noncomputable def U2:Key->D
 | .inl i => .int i
 | .inr x => .str x
section
variable {X:Cx}{W:WT}{x y:eG}{p p2 pos Qy:UK}{fe:Lk D}
theorem Bd {d:D}{k:Key}(h:fz d=ag k):d=U2 k:=by
 cases d with
 |int i=>cases h;rfl
 |str x=>cases h;rfl
 |_=>cases h
theorem vE {K:Ll}{H:Hp}{J:ak cn}:∀ {ds:ak D}{b:ak Key}{vs:ak V},j_ ds=ag b->Lx K H J ds vs->∀ k∈b,At K H J (U2 k) (kV k)
 |[],b,vs,e,m=>by cases e;intro k hk;cases hk
 |d::ds,b,vs,e,m=>by
  obtain⟨v,r,rfl,a,n⟩:=Lx.Lv.mp m;rw[j_] at e;obtain⟨k,c,g⟩:=hD.mp e;obtain⟨j,f,i⟩:=en.mp g;subst i;intro h hk;rcases f5.mp hk with rfl |hk
  ·rw[← Bd c,← vG c a];exact a
  exact vE f n h hk
theorem wo {K:Ll}{H:Hp}{J:ak cn}:∀ {a:ak Key},(∀ k∈a,At K H J (U2 k) (kV k))->Lx K H J (a.map U2) (a.map kV)
 |[],_ => .nil
 |k::a,h => .cons (h k (gy ..)) (wo λx b=>h x (eJ _ b))
theorem Fv (hc:X.calm=ba):iS X (.type "set") (λxs H Q => ∃ (a:cn) (c:ak Key),xs=[.ref a]/\OC X.K H a (c.map kV)/\c.length+1<4096/\∀ p,H p=ay->Q (.ref p) (upd H p (HE X.prog X.w p (c.foldl dM [])))):=by
 intro B s N H xs O Q I r h;obtain⟨a,c,rfl,J,hb,q⟩:=h;obtain⟨u,rfl,E⟩:=vals1 r;cases E;obtain⟨its,C,⟨o,n,g,L,_,D⟩,M⟩:=I.list J;have tp:s.heap.IsList a its.toArray:=⟨o,g,L,n,D⟩;have d:its.length=c.length:=by rw[← C.length,d7]
 refine uf (knd:=bt X.prog X.w) (pk:=Y5) (I.ok.hd hc) tp (λi=>c.getD i (.inl 0)) (λi v F=>?_) (by rw[f3,d];exact hb) λP tk j k=>?_
 ·have y:its[i]?=ag v:=by simpa using F
  have A:i<c.length:=by rw[← d];exact(b5.mp y).1
  obtain⟨u,m,l⟩:=C.get (i:=i) (x:=kV c[i]) (by rw[hF,bc A];rfl);rw[y] at m;cases m;have G:c.getD i (.inl 0)=c[i]:=by simp[QJ,A]
  simp only[G];exact⟨rM l,(Dg l).1,(Dg l).2⟩
 have f:its.toArray.size=c.length:=by rw[f3,d]
 rw[f,C0] at j;refine⟨#[15],_,I.laid (t':=tk) (o:=HE X.prog X.w s.heap.objs.size (c.foldl dM [])) (λb o e=>k b o (eM e) e) (hB _) ⟨j,?_,λR S z k=>z.keep k⟩,rfl,q _ I.fresh⟩;obtain⟨o,es,ep,t,g,_⟩:=j;exact⟨o,g⟩
end
section
variable {prog:fh}{w:il}{A:jl}{E:Lm}{s:cv}
structure ZA (z TI TO i1 i2:cn) (f1 f2:ak cn):Prop where
 m1:i1∈f1
 m2:i2∈f2
 z1:z∉f1
 z2:z∉f2
 o1:TO∉f1
 o2:TO∉f2
 x1:i2∉f1
 x2:i1∉f2
 oz:TO≠z
 tz:TI≠z
 to:TI≠TO
 t1:TI∉f1
 t2:TI∉f2
variable {z TI TO i1 i2:cn}{f1 f2:ak cn}{n1 n2:Nat}{P1 P2:Nat->ax->Prop}{S1 S2:Nat->kx->Prop}{a b:ax}
theorem ZA.ne1 (D:ZA z TI TO i1 i2 f1 f2):i1≠z/\i1≠TO/\i1≠i2/\i2≠z/\i2≠TO/\TI≠i1/\TI≠i2:=
 ⟨λe=>D.z1 (e▸D.m1),λe=>D.o1 (e▸D.m1),λe=>D.x1 (e▸D.m1),λe=>D.z2 (e▸D.m2),λe=>D.o2 (e▸D.m2),λe=>D.t1 (e▸D.m1),λe=>D.t2 (e▸D.m2)⟩
theorem di {x y:cn}{l:ak cn}(h:x∉l)(g:y∈l):y≠x:=λe=>h (e▸g)
theorem BE (D:ZA z TI TO i1 i2 f1 f2)(p:Draws prog w A i1 f1 n1 P1 S1)(C:Draws prog w A i2 f2 n2 P2 S2){j k:Nat}(hj:j<n1)(hk:k<n2){Q:Lm}
  (hz:aaJ s.heap z TI TO .none) (Z:Wq s.heap TI (.ref i1) (.ref i2)) (U:Wq s.heap TO a b) (t1:S1 j s.heap) (t2:S2 k s.heap)
  (hQ:∀ x y h' tk,P1 j x->P2 k y->aaJ h' z TI TO (aaN s.heap.objs.size)->Wq h' TO x y->S1 (j+1) h'->S2 (k+1) h'->Wq h' s.heap.objs.size x y->h'.objs.size=#[14] ->
   (∀ c o,c≠z->c≠TO->c≠i1->c≠i2->s.heap.get? c=ag o->h'.get? c=ag o)->Q (#[15]) { s with heap:=h',toks:=tk }) :
  ew #[4] A (Builtin.«zip.__next__» ⟨[.ref z],[]⟩) (λfin s' => ∃ v,fin = .done (.ret v)/\Q v s') E s:=by
 obtain⟨e1,V,e3,e4,W,e6,e7⟩:=D.ne1;show ew _ _ (adu (.ref z) 2 >>= _) _ _ _;refine av (y0 (x:=.bool b0) hz rfl rfl ?_);show ew _ _ (adu (.ref z) 3 >>= _) _ _ _;refine av (y0 (x:=.ref TI) hz rfl rfl (av (P0 Z rfl ?_)));show ew _ _ (E3 (.ref z) >>= _) _ _ _;unfold E3;refine av (av (y0 (x:=.none) hz rfl rfl (bo ?_)));simp only[n7];refine av (OL (av (y0 (x:=.ref TO) hz rfl rfl (av (U0 hz #[3] λha M h=>av ?_)))));have M:aaJ ha z TI TO .ellipsis:=M;simp only[abK,adH,XP,aaF];refine av (av (aas ?_));show ew _ _ (rp (.ref i1) >>= _) _ _ _;refine av (p.item j _ _ _ hj (p.frame _ _ _ t1 λc hc o e=>h.extBut _ _ (di D.z1 hc) e) λx hb tb px J l=>bo ?_);have P:Wq hb TO a b:=l.extBut _ _ (lC V) (h.extBut _ _ D.oz U);refine av (P0 P rfl (av (Yy P λhc N n=>av (adA (bo ?_)))));have N:Wq hc TO x b:=N;refine av (av (aas ?_));show ew _ _ (rp (.ref i2) >>= _) _ _ _;have Zf:S2 k hc:=C.frame _ _ _ t2 λc f o e=>n.extBut _ _ (di D.o2 f) (l.extBut _ _ (di D.x2 f) (h.extBut _ _ (di D.z2 f) e));refine av (C.item k _ _ _ hk Zf λy hd td py L g=>bo ?_);have R:Wq hd TO x b:=g.extBut _ _ (lC W) N;refine av (P0 R rfl (av (Yy R λd t i=>av (adA (bo (bo ?_))))));have t:Wq d TO x y:=t;refine av (P0 t rfl (av (abH ?_)));have sz:d.objs.size=s.heap.objs.size:=by rw[i.1,g.1,n.1,l.1,h.1]
 have all:∀ c o,c≠z->c≠TO->c≠i1->c≠i2->s.heap.get? c=ag o->d.get? c=ag o:=λc o u r O G e=>i.extBut _ _ r (g.extBut _ _ G (n.extBut _ _ r (l.extBut _ _ O (h.extBut _ _ u e))));have T:aaJ d z TI TO .ellipsis:=i.extBut _ _ (lC D.oz) (g.extBut _ _ (lC e4) (n.extBut _ _ (lC D.oz) (l.extBut _ _ (lC e1) M)));have K:S1 (j+1) d:=p.frame _ _ _ J λc f o e=>i.extBut _ _ (di D.o1 f) (g.extBut _ _ (di D.x1 f) (n.extBut _ _ (di D.o1 f) e));have H:S2 (k+1) d:=C.frame _ _ _ L λc f o e=>i.extBut _ _ (di D.o2 f) e;have S:z<d.objs.size:=eM T;show ew _ _ (Wv (.ref z) (.ref d.objs.size) >>= _) _ _ _;unfold Wv;have X:aaJ (d.push { cls:=.type "tuple",data:=.seq #[x,y] }) z TI TO .ellipsis:=cc _ T;refine av (av (U0 X #[3] λhg Y I=>U0 (show aaJ hg z TI TO (aaN d.objs.size) from Y) #[3] λm B F=>bo ⟨_,rfl,?_⟩));have B:aaJ m z TI TO (aaN d.objs.size):=B;have up:∀ c o,c≠z->d.get? c=ag o->m.get? c=ag o:=λc o q e=>F.extBut _ _ q (I.extBut _ _ q (cc _ e));have new:Wq m d.objs.size x y:=F.extBut _ _ (Yg S) (I.extBut _ _ (Yg S) (e8 _ rfl));have size:m.objs.size=d.objs.size+1:=by rw[F.1,I.1,pd]
 show Q (.ref d.objs.size) _;rw[sz] at B new size ⊢;exact hQ x y m _ px py B (up _ _ D.oz t) (p.frame _ _ _ K λc f o e=>up c o (di D.z1 f) e) (C.frame _ _ _ H λc f o e=>up c o (di D.z2 f) e) new size λc o u r O G e=>up c o u (all c o u r O G e)
theorem DY (D:ZA z TI TO i1 i2 f1 f2)(y:Draws prog w A i1 f1 n1 P1 S1)(M:Draws prog w A i2 f2 n2 P2 S2){j k:Nat}(U3:j=n1∨(j<n1/\k=n2)){Q:Fin->cv->Prop}
  (hz:aaJ s.heap z TI TO .none) (Zd:Wq s.heap TI (.ref i1) (.ref i2)) (P:Wq s.heap TO a b) (t1:S1 j s.heap) (t2:S2 k s.heap)
  (hE:∀ h' e tk,(∀ c o,c≠z->c≠TO->c≠i1->c≠i2->s.heap.get? c=ag o->h'.get? c=ag o)->(∃ o,h'.get? e=ag o/\o.cls = .type "StopIteration")->E (.ref e) { s with heap:=h',toks:=tk }) :
  ew #[4] A (Builtin.«zip.__next__» ⟨[.ref z],[]⟩) Q E s:=by
 obtain⟨H,X,e3,e4,e5,e6,e7⟩:=D.ne1;show ew _ _ (adu (.ref z) 2 >>= _) _ _ _;refine av (y0 (x:=.bool b0) hz rfl rfl ?_);show ew _ _ (adu (.ref z) 3 >>= _) _ _ _;refine av (y0 (x:=.ref TI) hz rfl rfl (av (P0 Zd rfl ?_)));show ew _ _ (E3 (.ref z) >>= _) _ _ _;unfold E3;refine av (av (y0 (x:=.none) hz rfl rfl (bo ?_)));simp only[n7];refine av (OL (av (y0 (x:=.ref TO) hz rfl rfl (av (U0 hz #[3] λL t l=>av ?_)))));have t:aaJ L z TI TO .ellipsis:=t
 have stop:∀ (h:kx) (I:aaJ h z TI TO .ellipsis) (e:cn) (tk:Nat) (d:kx) (G:cn),z≠G->adv G h d->(∃ o,d.get? e=ag o/\o.cls = .type "StopIteration")->(∀ c o,c≠z->c≠TO->c≠i1->c≠i2->s.heap.get? c=ag o->d.get? c=ag o) ->
   ew #[4] A (setField (.ref z) 0 .none) (λ_ S=>E (.ref e) S) E { s with heap:=d,toks:=tk }:=by
  rintro h I e tk d G Y R ⟨T,B,J⟩ kk;have z2:aaJ d z TI TO .ellipsis:=R _ _ Y I;have C:e≠z:=λq=>by subst q;rw[z2] at B;cases B;simp at J
  exact U0 z2 #[3] λZ _ N=>hE Z e tk (λc o f p m n x=>N.extBut _ _ f (kk c o f p m n x)) ⟨T,N.extBut _ _ C B,J⟩
 simp only[abK,adH,XP,aaF];refine av (av (aas ?_));show ew _ _ (rp (.ref i1) >>= _) _ _ _;have g:=y.frame _ _ _ t1 λc hc o e=>l.extBut c o (di D.z1 hc) e;rcases U3 with rfl |⟨V,rfl⟩
 ·refine av (y.done _ _ _ g λd e i F=>?_);exact stop L t e s.toks d i1 (lC H) i F λc o f p m n x=>i _ _ m (l.extBut _ _ f x)
 refine av (y.item j _ _ _ V g λx hb U px W r=>bo ?_);have K:Wq hb TO a b:=r.extBut _ _ (lC X) (l.extBut _ _ D.oz P);refine av (P0 K rfl (av (Yy K λhc oc u=>av (adA (bo ?_)))));refine av (av (aas ?_));show ew _ _ (rp (.ref i2) >>= _) _ _ _;have Zf:=M.frame _ _ _ t2 λc v o e=>u.extBut c o (di D.o2 v) (r.extBut _ _ (di D.x2 v) (l.extBut _ _ (di D.z2 v) e));have O:aaJ hc z TI TO .ellipsis:=u.extBut _ _ (lC D.oz) (r.extBut _ _ (lC H) t);refine av (M.done _ _ _ Zf λd e i F=>?_);exact stop hc O e U d i2 (lC e4) i F λc o f p m n x=>i _ _ n (u.extBut _ _ p (r.extBut _ _ m (l.extBut _ _ f x)))
end
def PY (k:fg)(h:kx)(a:cn)(items:ib ax):Prop:=match k with
 |ba=>h.IsTuple a items
 |b0=>h.IsList a items
def RL (k:fg)(h:kx)(it a:cn)(i:Nat):Prop:=match k with
 |ba=>h.IsTupleIter it a i
 |b0=>h.IsListIter it a i
noncomputable def TZ (k:fg)(a:cn):Obj:=match k with
 |ba => { cls:=.type "tuple_iterator",data:=.fields #[.ref a,.int 0 0] }
 |b0 => { cls:=.type "list_iterator",data:=.fields #[.ref a,.int 0 0] }
section
variable {prog:fh}{w:il}{A:jl}{E:Lm}{s:cv}
theorem PY.keep {k:fg}{h h':kx}{a:cn}{items:ib ax}(x:PY k h a items)(e:∀ o,h.get? a=ag o->h'.get? a=ag o):PY k h' a items:=by
 cases k with
 |true=>obtain⟨o,b,r⟩:=(x:h.IsTuple a items);exact⟨o,e o b,r⟩
 |false=>obtain⟨o,b,r⟩:=(x:h.IsList a items);exact⟨o,e o b,r⟩
theorem RL.keep {k:fg}{h h':kx}{it a:cn}{i:Nat}(x:RL k h it a i)(e:∀ o,h.get? it=ag o->h'.get? it=ag o):RL k h' it a i:=by
 cases k with
 |true=>obtain⟨o,b,r⟩:=(x:h.IsTupleIter it a i);exact⟨o,e o b,r⟩
 |false=>obtain⟨o,b,r⟩:=(x:h.IsListIter it a i);exact⟨o,e o b,r⟩
theorem RL.obj {k:fg}{h:kx}{it a:cn}{i:Nat}(x:RL k h it a i):∃ o,h.get? it=ag o/\∀ v,o.data≠.cell v:=by
 cases k with
 |true=>obtain⟨o,b,_,hd⟩:=(x:h.IsTupleIter it a i);exact⟨o,b,λv z=>by rw[hd] at z;cases z⟩
 |false=>obtain⟨o,b,_,hd⟩:=(x:h.IsListIter it a i);exact⟨o,b,λv z=>by rw[hd] at z;cases z⟩
theorem PY.lt {k:fg}{h:kx}{a:cn}{items:ib ax}(x:PY k h a items):a<h.objs.size:=by
 cases k with
 |true=>obtain⟨o,b,_⟩:=(x:h.IsTuple a items);exact eM b
 |false=>obtain⟨o,b,_⟩:=(x:h.IsList a items);exact eM b
theorem Draws.seq (k:fg)(c:A.handled=ay)(it a:cn)(b:a≠it)(items:ib ax):Draws prog w A it [it,a] items.size (λi v=>items[i]?=ag v) (λi h=>RL k h it a i/\PY k h a items):=by
 cases k with
 |true=>exact Draws.tup c it a b items
 |false=>exact Draws.list c it a b items
theorem yT {k:fg}{a:cn}{items:ib ax}{Q:Lm}(x:PY k s.heap a items)(h:Q (#[15]) { s with heap:=s.heap.push (TZ k a) }):ew #[4] A (acv (.ref a)) Q E s:=by
 cases k with
 |true=>exact UQ (show s.heap.IsTuple a items from x) h
 |false=>exact wpAny_pyIter_list (show s.heap.IsList a items from x) h
end
abbrev WN (k1:fg)(h:kx)(a:cn):kx:=h.push (TZ k1 a)
abbrev WO (k1 k2:fg)(h:kx)(a b:cn):kx:=(WN k1 h a).push (TZ k2 b)
abbrev WQ (k1 k2:fg)(h:kx)(a b:cn):kx:=(WO k1 k2 h a b).push { cls:=.type "tuple",data:=.seq #[.ref h.objs.size,.ref (WN k1 h a).objs.size] }
abbrev WR (k1 k2:fg)(h:kx)(a b:cn):kx:=(WQ k1 k2 h a b).push { cls:=.type "tuple",data:=.seq #[.none,.none] }
abbrev RM (k1 k2:fg)(h:kx)(a b:cn):kx:=(WR k1 k2 h a b).push { cls:=.type "zip",data:=.fields #[.none,.bool b0,.bool b0,.ref (WO k1 k2 h a b).objs.size,.ref (WQ k1 k2 h a b).objs.size] }
theorem DX (c f:fg)(a b:cn)(xs ys:ib ax):Meets (Builtin.«zip.__new__» ⟨[.type "zip",.ref a,.ref b],[]⟩) (λ_ R s=>PY c s.heap a xs/\PY f s.heap b ys /\
   R (.ok (.ret (.ref (WR c f s.heap a b).objs.size))) { s with heap:=RM c f s.heap a b }):=
 .of_wp λprog w A R s h=>by
  obtain⟨i,g,d,tk,os⟩:=s;obtain⟨j,hb,h⟩:=h;have l:=sub_zip;have ga:PY c (adx ⟨i,g,d,tk,os⟩) a xs:=j;have k:PY f (adx ⟨i.push (TZ c a),g,d,tk,os⟩) b ys:=PY.keep (show PY f i b ys from hb) λo e=>cc _ e
  wp_walk using yT ga,yT k
  exact⟨_,rfl,h⟩
section
variable {prog:fh}{w:il}{A:jl}{E:Lm}{s:cv}
theorem Bw {d f:fg}{a b:cn}{xs ys:ib ax}{Q:Lm}(y:PY d s.heap a xs)(hb:PY f s.heap b ys)
  (h:∀ h',aaJ h' (s.heap.objs.size+4) (s.heap.objs.size+2) (s.heap.objs.size+3) .none->Wq h' (s.heap.objs.size+2) (#[15]) (.ref (#[14])) ->
   Wq h' (s.heap.objs.size+3) .none .none->RL d h' s.heap.objs.size a 0->RL f h' (#[14]) b 0->(∀ c o,s.heap.get? c=ag o->h'.get? c=ag o)->Q (.ref (s.heap.objs.size+4)) { s with heap:=h' }) :
  ew #[4] A (call (.type "zip") [.ref a,.ref b]) Q E s:=by
 refine callType_new F.called_zip #[2] (F.typeCall_zip_2 _ _) (F.newCall_zip_2 _ _) (λobj=>F.args_object_init_3 obj _ _) F.entry_zip_new (DX d f a b xs ys) ⟨y,hb,?_⟩;have t:(WN d s.heap a).objs.size=#[14]:=pd ..;have q:(WO d f s.heap a b).objs.size=s.heap.objs.size+2:=by rw[pd,t]
 have r:(WQ d f s.heap a b).objs.size=s.heap.objs.size+3:=by rw[pd,q]
 have z:(WR d f s.heap a b).objs.size=s.heap.objs.size+4:=by rw[pd,r]
 have up1:∀ c o,(WR d f s.heap a b).get? c=ag o->(RM d f s.heap a b).get? c=ag o:=λc o e=>cc _ e;have g:∀ c o,(WQ d f s.heap a b).get? c=ag o->(RM d f s.heap a b).get? c=ag o:=λc o e=>up1 _ _ (cc _ e);have m:∀ c o,(WO d f s.heap a b).get? c=ag o->(RM d f s.heap a b).get? c=ag o:=λc o e=>g _ _ (cc _ e);have l:∀ c o,(WN d s.heap a).get? c=ag o->(RM d f s.heap a b).get? c=ag o:=λc o e=>m _ _ (cc _ e);have j:(RM d f s.heap a b).get? (WR d f s.heap a b).objs.size=ag _:=e8 _ rfl;have p:(RM d f s.heap a b).get? (WQ d f s.heap a b).objs.size=ag _:=up1 _ _ (e8 _ rfl);have n:(RM d f s.heap a b).get? (WO d f s.heap a b).objs.size=ag _:=g _ _ (e8 _ rfl);have fr:∀ k c,(TZ k c).isFreed=b0:=λk c=>by cases k<;>rfl
 have u:(RM d f s.heap a b).get? (WN d s.heap a).objs.size=ag (TZ f b):=m _ _ (e8 _ (fr f b));have v:(RM d f s.heap a b).get? s.heap.objs.size=ag (TZ d a):=l _ _ (e8 _ (fr d a))
 have it:∀ (k:fg) (c i:cn),(RM d f s.heap a b).get? i=ag (TZ k c)->RL k (RM d f s.heap a b) i c 0:=λk c i e=>by
  cases k with
  |true=>exact⟨_,e,rfl,rfl⟩
  |false=>exact⟨_,e,rfl,rfl⟩
 show _/\_;rw[z] at j ⊢;rw[r] at p j;rw[q] at n j;rw[t] at u n;exact⟨⟨_,j,rfl⟩,h _ j n p (it _ _ _ v) (it _ _ _ u) λc o x=>l _ _ (cc _ x)⟩
end
def RN (k:fg)(K:Ll)(H:Hp)(a:cn)(xs:ak V):Prop:=match k with
 |ba=>O2 K H a xs
 |b0=>OC K H a xs
section
variable {X:Cx}{pins:Ln}{σ:St}{H:Hp}{s:cv}
theorem Inv.Rk {k:fg}{a:cn}{xs:ak V}(I:#[10])(h:RN k X.K H a xs):∃ its:ak ax,Vals xs its/\PY k s.heap a its.toArray:=by
 cases k with
 |true=>obtain⟨its,r,p,_⟩:=I.tuple h;exact⟨its,r,p⟩
 |false=>obtain⟨its,r,⟨o,n,b,hc,_,hd⟩,_⟩:=I.list h;exact⟨its,r,o,b,hc,n,hd⟩
theorem Inv.P9 {k:fg}{a:cn}{xs ys:ak V}(I:#[10])(h:RN k X.K H a xs)(h':RN k X.K H a ys):xs=ys:=by
 cases k with
 |true=>exact I.NV h h'
 |false=>exact I.OD h h'
end
theorem PY.ne {k:fg}{h:kx}{a it c:cn}{items:ib ax}{i:Nat}(x:PY k h a items)(y:RL k h it c i):a≠it:=λe=>by
 subst e;cases k with
 |true =>
  obtain⟨o1,g,f,_⟩:=(x:h.IsTuple a items);obtain⟨o2,b,d,_⟩:=(y:h.IsTupleIter a c i);rw[g] at b;cases b;rw[f] at d;exact ku d #[3]
 |false =>
  obtain⟨o1,g,f,_⟩:=(x:h.IsList a items);obtain⟨o2,b,d,_⟩:=(y:h.IsListIter a c i);rw[g] at b;cases b;rw[f] at d;exact ku d #[3]
noncomputable def Zg (K:Ll)(f e:fg)(a b:cn)(n1 n2:Nat):It:=
 ⟨λi H=>i<n1/\i<n2/\∃ c d,RN f K H a c/\RN e K H b d/\c.length=n1/\d.length=n2,
  λi H v g => ∃ p x y,H p=ay/\v = .ref p/\g=upd H p (.tup [x,y])/\(∀ c,RN f K H a c->c[i]?=ag x)/\∀ d,RN e K H b d->d[i]?=ag y,
  λi H=>(n1<=i∨n2<=i)/\∃ c d,RN f K H a c/\RN e K H b d/\c.length=n1/\d.length=n2⟩
structure ZSt (k1 k2:fg) (a b z TI TO i1 i2:cn) (n1 n2 i:Nat) (h:kx):Prop where
 zip:aaJ h z TI TO .none
 its:Wq h TI (.ref i1) (.ref i2)
 out:∃ u v,Wq h TO u v
 fst:RL k1 h i1 a i
 snd:RL k2 h i2 b i
 le1:i<=n1
 le2:i<=n2
theorem BJ {P:fh}{w:il}{K:Ll}{es:ak hL}{kk:Nat}{pt:UK}(W C:fg)(a b z TI TO g f:cn)(n1 n2:Nat)(D:ZA z TI TO g f [g,a] [f,b]) :
  Turn P w K (.Tuple es kk pt) (Zg K W C a b n1 n2) [z,TI,TO,g,f] z (ZSt W C a b z TI TO g f n1 n2) where
 mem:=by simp
 obj:=λi h st c hc=>by
  simp only[f5,Yz,abL] at hc;rcases hc with rfl |rfl |rfl |rfl |rfl
  ·exact⟨_,st.zip,λv q=>by cases q⟩
  ·exact⟨_,st.its,λv q=>by cases q⟩
  ·obtain⟨u,v,e⟩:=st.out;exact⟨_,e,λv q=>by cases q⟩
  ·exact st.fst.obj
  exact st.snd.obj
 keep:=λi h h' st kp=>by
  obtain⟨u,v,e⟩:=st.out;exact⟨kp _ #[3] _ st.zip,kp _ #[3] _ st.its,⟨u,v,kp _ #[3] _ e⟩,st.fst.keep λo e=>kp _ #[3] o e,st.snd.keep λo e=>kp _ #[3] o e,st.le1,st.le2⟩
 item:=by
  intro X hP hw hK hc i B s σ H E I l st hg;subst hP hw hK;obtain⟨l1,l2,M,ys,Z,hy,lx,ly⟩:=hg;obtain⟨L,V,S⟩:=I.Rk Z;obtain⟨J,Y,pv⟩:=I.Rk hy;obtain⟨u0,v0,eo⟩:=st.out;have su:L.toArray.size=n1:=by rw[f3,← V.length,lx]
  have sv:J.toArray.size=n2:=by rw[f3,← Y.length,ly]
  have ne1:a≠g:=S.ne st.fst;have G:b≠f:=pv.ne st.snd;have R:s.TypeIs (.ref z) "zip":=⟨_,st.zip,rfl⟩;unfold aaM;refine av (X5 (wx (name:=V_ "__next__") R F.slot_zip_next (mm F.slot_zip_next R F.entry_zip_next ?_ (F.args_zip_next_1 _))))
  refine BE D (Draws.seq (A:=X.A.in1) W (I.ok.hd hc) g a ne1 L.toArray) (Draws.seq (A:=X.A.in1) C (I.ok.hd hc) f b G J.toArray) (j:=i) (k:=i) #[0] #[0] st.zip st.its eo ⟨st.fst,S⟩ ⟨st.snd,pv⟩
   λu v h' tk hu hv z' o' f' g' new size kp=>bo ⟨_,rfl,wpAny_letOwnedTupleGo_zip (s:={ s with heap:=h',toks:=tk }) z' λN z2 C=>?_⟩
  have hu:L[i]?=ag u:=by simpa using hu
  have hv:J[i]?=ag v:=by simpa using hv
  obtain⟨x,ex⟩:∃ x,M[i]?=ag x:=⟨_,bc #[0]⟩;obtain⟨y,ey⟩:∃ y,ys[i]?=ag y:=⟨_,bc #[0]⟩;obtain⟨u',e1,rx⟩:=V.get ex;rw[hu] at e1;cases e1;obtain⟨v',e2,ry⟩:=Y.get ey;rw[hv] at e2;cases e2;have hn:H s.heap.objs.size=ay:=I.fresh;have kq:∀ c o,c≠z->c≠TO->c≠g->c≠f->s.heap.get? c=ag o->N.get? c=ag o:=λc o q1 q2 q3 q4 e=>(C.2 c q1).trans (kp c o q1 q2 q3 q4 e);have nz:s.heap.objs.size≠z:=Yg (eM st.zip);have Rb:Wq N s.heap.objs.size u v:=(C.2 _ nz).trans new;have U:∀ c o,H c=ag o->c≠s.heap.objs.size:=λc o q=>aM q hn
  have O:∀ c∈[z,TO,g,f],c∈[z,TI,TO,g,f]:=λc hc=>by
   simp only[f5,Yz,abL] at hc ⊢;rcases hc with h |h |h |h
   ·exact .inl h
   ·exact .inr (.inr (.inl h))
   ·exact .inr (.inr (.inr (.inl h)))
   exact .inr (.inr (.inr (.inr h)))
  have nm:∀ {c:cn},c∉[z,TO,g,f]->c≠z/\c≠TO/\c≠g/\c≠f:=λ{c} h=>by simpa using h
  have t:∀ c o,c∉[z,TO,g,f]->s.heap.get? c=ag o->N.get? c=ag o:=λc o h e=>kq c o (nm h).1 (nm h).2.1 (nm h).2.2.1 (nm h).2.2.2 e;have out:∀ c o,H c=ag o->c∉[z,TO,g,f]:=λc o q hc=>by have:=(l c (O c hc)).1;rw[this] at q;cases q
  have I1:Inv X B σ (upd H s.heap.objs.size (.tup [x,y])) { s with heap:=N,toks:=tk }:=by
   refine I.step (h':=N) (g':=s.gens) (d':=s.drawn) (t':=tk) (ch:=[z,TO,g,f]) (λc hc=>?_) (λc o _ _ hc e _=>t c o hc e) (λc o _ _ hc e _=>⟨o.slots,t c o hc e⟩)
    (λc o _ e n'=>by rw[aG (nq (eM e))];exact n') (λc o hc e=>⟨o,t c o hc e⟩)
    (λc M q=>by rw[aG (U c _ q)];exact q) (λc o M q=>by rw[aG (U c _ q)];exact q) (λc ps q=>⟨#[],by rw[aG (U c _ q),q];simp⟩)
    (λm hm=>?_) (λc o q=>?_) I.bare
   ·obtain⟨_,g1,_,g3,g4,g5⟩:=l c (O c hc);exact⟨g3,g1,g4,g5⟩
   ·obtain⟨o,es,ep,p,r⟩:=hm;exact⟨o,es,ep,kq _ o (lC (l z #[3]).2.1) (lC (l TO #[3]).2.1) (lC (l g #[3]).2.1) (lC (l f #[3]).2.1) p,r⟩
   by_cases hb:c=s.heap.objs.size
   ·subst hb;rw[LC] at q;cases q;exact⟨by show 2<=d4;decide,[u,v],.cons rx (.cons ry .nil),_,Rb⟩
   rw[aG hb] at q;refine(I.LX c o q).OA (λd v' O6 e=>t d v' ?_ e) (λd e=>by rw[aG (U d _ e)];exact e) λd M e=>by rw[aG (U d _ e)];exact e
   rcases O6 with rfl |O6
   ·exact out _ _ q
   exact out _ _ O6
  refine⟨#[15],_,I1,rfl,⟨_,x,y,hn,rfl,rfl,λQz h'=>by rw[I.P9 h' Z];exact ex,λQU h'=>by rw[I.P9 h' hy];exact ey⟩,?_,λc hc=>?_⟩
  ·have kz:∀ c o,c≠z->h'.get? c=ag o->N.get? c=ag o:=λc o q e=>(C.2 c q).trans e;obtain⟨n1',n2',n3',n4',n5',n6',n7'⟩:=D.ne1;exact⟨z2,kq _ _ D.tz D.to n6' n7' st.its,⟨u,v,kz _ _ D.oz o'⟩,f'.1.keep λo e=>kz _ o n1' e,g'.1.keep λo e=>kz _ o n4' e,#[1],#[1]⟩
  have M0:c<s.heap.objs.size:=by
   have q:∃ o,s.heap.get? c=ag o:=by
    simp only[f5,Yz,abL] at hc;rcases hc with rfl |rfl |rfl |rfl |rfl
    ·exact⟨_,st.zip⟩
    ·exact⟨_,st.its⟩
    ·exact⟨_,eo⟩
    ·obtain⟨o,p,_⟩:=st.fst.obj;exact⟨o,p⟩
    obtain⟨o,p,_⟩:=st.snd.obj;exact⟨o,p⟩
   obtain⟨o,p⟩:=q;exact eM p
  rw[aG (nq M0)];exact(l c hc).1
 done:=by
  intro X hP hw hK hc i B s σ H E I l st hg;subst hP hw hK;obtain⟨le,M,ys,Z,hy,lx,ly⟩:=hg;obtain⟨L,V,S⟩:=I.Rk Z;obtain⟨J,Y,pv⟩:=I.Rk hy;obtain⟨u0,v0,eo⟩:=st.out;have su:L.toArray.size=n1:=by rw[f3,← V.length,lx]
  have sv:J.toArray.size=n2:=by rw[f3,← Y.length,ly]
  have ne1:a≠g:=S.ne st.fst;have G:b≠f:=pv.ne st.snd;have R:s.TypeIs (.ref z) "zip":=⟨_,st.zip,rfl⟩;have e1:=st.le1;have e2:=st.le2;unfold aaM;refine av (X5 (wx (name:=V_ "__next__") R F.slot_zip_next (mm F.slot_zip_next R F.entry_zip_next ?_ (F.args_zip_next_1 _))));refine DY D (Draws.seq (A:=X.A.in1) W (I.ok.hd hc) g a ne1 L.toArray) (Draws.seq (A:=X.A.in1) C (I.ok.hd hc) f b G J.toArray) (j:=i) (k:=i) #[0] st.zip st.its eo ⟨st.fst,S⟩ ⟨st.snd,pv⟩ λh' e tk kp he=>?_;obtain⟨o,p,Vr⟩:=he;refine av (V0 (T:="StopIteration") (b:=ba) ⟨o,p,Vr⟩ isSubtype_stop ?_);refine bo ⟨rfl,?_⟩
  have O:∀ c∈[z,TO,g,f],c∈[z,TI,TO,g,f]:=λc hc=>by
   simp only[f5,Yz,abL] at hc ⊢;rcases hc with h |h |h |h
   ·exact .inl h
   ·exact .inr (.inr (.inl h))
   ·exact .inr (.inr (.inr (.inl h)))
   exact .inr (.inr (.inr (.inr h)))
  have t:∀ c o,c∉[z,TO,g,f]->s.heap.get? c=ag o->h'.get? c=ag o:=λc o h e=>by
   have h:c≠z/\c≠TO/\c≠g/\c≠f:=by simpa using h
   exact kp c o h.1 h.2.1 h.2.2.1 h.2.2.2 e
  have out:∀ c o,H c=ag o->c∉[z,TO,g,f]:=λc o q hc=>by have:=(l c (O c hc)).1;rw[this] at q;cases q
  refine I.step (h':=h') (g':=s.gens) (d':=s.drawn) (t':=tk) (ch:=[z,TO,g,f]) (λc hc=>?_) (λc o _ _ hc e _=>t c o hc e) (λc o _ _ hc e _=>⟨o.slots,t c o hc e⟩)
   (λ_ _ _ _ n=>n) (λc o hc e=>⟨o,t c o hc e⟩) (λ_ _ e=>e) (λ_ _ _ e=>e) (λc ps e=>⟨#[],by rw[e];simp⟩) (λm hm=>?_) (λc o q=>?_) I.bare
  ·obtain⟨_,g1,_,g3,g4,g5⟩:=l c (O c hc);exact⟨g3,g1,g4,g5⟩
  ·obtain⟨o,es,ep,p,r⟩:=hm;exact⟨o,es,ep,kp _ o (lC (l z #[3]).2.1) (lC (l TO #[3]).2.1) (lC (l g #[3]).2.1) (lC (l f #[3]).2.1) p,r⟩
  refine(I.LX c o q).OA (λd v' O6 e=>t d v' ?_ e) (λd e=>e) λd M e=>e;rcases O6 with rfl |O6
  ·exact out _ _ q
  exact out _ _ O6
 self:=by
  intro A i s Q E st h;exact wpAny_pyIter_zip st.zip h
noncomputable def hV:ak D->ak D->ak D
 |d::ds,e::es => .tup [d,e]::hV ds es
 |_,_=>[]
theorem cW:∀ ds es:ak D,(hV ds es).length=Zu ds.length es.length
 |[],es=>by simp[hV]
 |d::ds,[]=>by simp[hV]
 |d::ds,e::es=>by simp only[hV,j2,cW ds es];omega
theorem kT:∀ (ds es:ak D) (i:Nat) {d e:D},ds[i]?=ag d->es[i]?=ag e->(hV ds es)[i]?=ag (.tup [d,e])
 |[],_,_,_,_,h,_=>by simp at h
 |_::_,[],_,_,_,_,h=>by simp at h
 |a::ds,b::es,0,d,e,h,g=>by
  have h:a=d:=by simpa using h
  have g:b=e:=by simpa using g
  subst h g;rfl
 |a::ds,b::es,i+1,d,e,h,g=>by
  rw[hV,vr];exact kT ds es i (by simpa using h) (by simpa using g)
noncomputable def Ak:ak D->a9 (ak D)
 |[x,y]=>(xj x).bind λa=>(xj y).map λb=>hV a b
 |_=>ay
section
variable {X:Cx}{W:WT}
theorem B_ {H:Hp}{J:ak cn}{d:D}{v:V}{xs:ak D}(m:At X.K H J d v)(h:xj d=ag xs):∃ (k:fg) (a:cn) (vs:ak V),v = .ref a/\Lx X.K H J xs vs/\vs.length<=d4/\∀ c H',Ex J H c H'->RN k X.K H' a vs:=by
 cases d with
 |tup e=>cases h;obtain⟨a,vs,rfl,b,m⟩:=At.LF.mp m;exact⟨ba,a,vs,rfl,m,b.len,λc H' x=>(b.ex x).sq⟩
 |lst e=>cases h;obtain⟨a,vs,rfl,b,m⟩:=At.LK.mp m;exact⟨b0,a,vs,rfl,m,b.len,λc H' x=>(b.ex x).sq⟩
 |_=>cases h
theorem Walk.zip {j m:fg}{a b:cn}{ds es:ak D}{xs ys:ak V}{J:ak cn}{H:Hp}(m1:Lx X.K H J ds xs)(m2:Lx X.K H J es ys)(z:xs.length<=d4)(g:∀ f H',Ex J H f H'->RN j X.K H' a xs)(h:∀ f H',Ex J H f H'->RN m X.K H' b ys) :
  Walk X (Zg X.K j m a b xs.length ys.length) (hV ds es) J H where
 len:=by rw[cW,m1.length];omega
 go:=λl k i x c=>by
  rw[cW,m1.length,m2.length] at c;exact⟨#[1],#[1],xs,ys,g _ _ x,h _ _ x,rfl,rfl⟩
 Qm:=λl k i v H' x r c y=>by
  obtain⟨p,u,w,n,rfl,rfl,s,t⟩:=y;obtain⟨d,o,a1⟩:=(m1.ex x).get' (s xs (g _ _ x));obtain⟨e,q,a2⟩:=(m2.ex x).get' (t ys (h _ _ x));exact⟨.tup [d,e],kT ds es i o q,At.Ng (.cons a1 (.cons a2 .nil)) n r (by show 2<=d4;decide),aO n _⟩
 stop:=λl k i x c=>by
  rw[cW,m1.length,m2.length] at c;exact⟨#[1],xs,ys,g _ _ x,h _ _ x,rfl,rfl⟩
theorem T1 {x a b:Nat}(c:x≠a)(d:x≠b):(x:cn)∉([a,b]:ak cn):=λh=>by
 rcases f5.mp h with e |h
 ·exact c e
 exact d (hM.mp h)
theorem HQ (N A B:Nat)(a:A<N)(b:B<N):ZA (N+4) (N+2) (N+3) N (N+1) [N,A] [N+1,B]:=
 ⟨gy ..,gy ..,T1 #[0] #[0],T1 #[0] #[0],T1 #[0] #[0],T1 #[0] #[0],T1 #[0] #[0],T1 #[0] #[0],
  (#[1]:(N+3:Nat)≠N+4),(#[1]:(N+2:Nat)≠N+4),(#[1]:(N+2:Nat)≠N+3),T1 #[0] #[0],T1 #[0] #[0]⟩
theorem JW {N b:Nat}(h:(b:cn)∈([N+4,N+2,N+3,N,N+1]:ak cn)):N<=b:=by simp only[f5,Yz,abL] at h;have h:b=N+4∨b=N+2∨b=N+3∨b=N∨b=N+1:=h;omega
theorem boot_zip:uk "zip"=ag (.type "zip"):=by decide
theorem B3 {es:ak hL}{k:Nat}{pt p pos:UK}{a b:hL}{t:Lk (ak D)}{x:eG}(Y:x="zip")(hm:X.mg x=ay)(ha:SA X W [a,b] t)(hg:Gl X x:=by rfl)
  (he:eK (a::[b]) X.env=(b0,sY a X.env)::eK [b] X.env:=by rfl) (Mx:(tw pos (eK [b] X.env)).any (·.1)=b0:=by rfl):SI X W (.Tuple es k pt) (.Call (.Name x p) [a,b] [] pos) (f_ Ak t):=by
 subst Y;intro c s L H R I h;refine OO (kD I hg hm boot_zip ?_ #[2] #[2]);refine callWith_type1 (LR (ha pos c s L H _ I (jb h)) λus i Zq=>?_) he Mx;obtain⟨vs,j,d,Z,J,S,OB,ds,so,m,e,z⟩:=Zq;unfold Ak at e;rw[1]
 ·rename_i dx dy;obtain⟨xs,h1,h2⟩:=hD.mp e;obtain⟨ys,h3,h4⟩:=en.mp h2;subst h4;obtain⟨v1,r,rfl,a1,n⟩:=Lx.Lv.mp m;obtain⟨v2,r',rfl,a2,n⟩:=Lx.Lv.mp n;cases Lx.Ly.mp n;obtain⟨v,g,A,rfl,m1,l,C⟩:=B_ a1 h1;obtain⟨E,f,O,rfl,m2,lw2,y⟩:=B_ a2 h3;obtain⟨u1,u2,rfl,q,o⟩:=vals2 Z;cases q;cases o;obtain⟨F,rv1,G⟩:=d.Rk (C _ _ Ex.refl);obtain⟨O9,rv2,M⟩:=d.Rk (y _ _ Ex.refl);have Q:=G.lt;have P:=M.lt;refine Bw G M λV w U g3 g4 T kp=>?_;have I2:Inv X c L j { i with heap:=V }:=d.kept (t':=i.toks) kp;refine wpAny_pyIter_zip w ?_;generalize B:i.heap.objs.size=N at *
  refine⟨N+4,[N+4,N+2,N+3,N,N+1],_,Zg X.K v E g f A.length O.length,j,rfl,I2,BJ v E g f (N+4) (N+2) (N+3) N (N+1) A.length O.length ?_,⟨w,U,⟨_,_,g3⟩,g4,T,Tp _,Tp _⟩,λb hb=>?_,z j _ (LH.refl _) (Walk.zip m1 m2 l C y)⟩
  ·exact HQ N g f Q P
  have u:N<=b:=JW hb;exact d.Of (by rw[B];exact u) (d.LX.fresh (by rw[B];exact u))
 cases e
end
section
variable {X:Cx}{W:WT}
theorem wY (l:cn)(items:ib ax)(n:Nat)(b:a9 cn)(sl:ib (a9 ax))(t:Tok) :
  Meets (Builtin.«tuple.__mul__» ⟨[.ref l,.int 1 t],[]⟩) (λ_ R s=>s.heap.get? l=ag { cls:=.type "tuple",dict:=b,data:=.seq items n,slots:=sl }/\R (.ok (.ret (ma l))) s):=
 .of_wp λprog w A R s h=>by
  obtain⟨e,g,d,tk,os⟩:=s;obtain⟨a,h⟩:=h;have c:=adf
  wp_walk using s8 a
  exact⟨_,rfl,h⟩
noncomputable def vk:D->D->a9 D
 | .tup c,.int n=>if n=1 then ag (.tup c) else cD (.tup c) (.int n)
 |a,b=>cD a b
theorem EW:PU X (P_ .Mult) vk:=by
 intro b s p H x y v u Q I j k h;obtain⟨J,C,G,d,w,g,l,e,q⟩:=h;unfold vk at e;rw[1]
 ·rename_i E n;rw[1]
  ·rename_i c;subst c;cases e;have o:=g;obtain⟨a,K,rfl,A,m⟩:=At.LF.mp g;cases At.Lu.mp l;cases j;obtain⟨i,rfl⟩:=k;obtain⟨its,r,⟨⟨cls,z,data,sl⟩,f,hc,t,hd⟩,D⟩:=I.tuple A.sq;simp only at hc hd;subst hc hd
   exact Z6 (T:="tuple") (U:="int") #[2] ⟨_,f,rfl⟩ (λB=>aa1 B 1 i) gS F.fills_int_mul F.slot_int_rmul lu F.slot_int_index.lookup
    (XO F.slot_int_rmul (aa1 s 1 i) F.entry_int_rmul (F.args_int_rmul_2 _ _) (jh 1 i a its.toArray t z sl)
     ⟨f,rfl,⟨_,f,rfl⟩,XO F.slot_tuple_mul ⟨_,f,rfl⟩ F.entry_tuple_mul (F.args_tuple_mul_2 _ _) (wY a its.toArray t z sl i) ⟨f,.ref _,H,I,rfl,q H _ (LH.refl H) o⟩⟩)
  exact dh b s p H x y v u Q I j k ⟨J,_,_,d,w,g,l,e,q⟩
 exact dh b s p H x y v u Q I j k ⟨J,_,_,d,w,g,l,e,q⟩
end
end L2
namespace L2
open PySem PyProof.Rows
abbrev Fm:fg->oe->ib oe->Nat->Nat->Nat->acH m7 Sem (a9 Nat):=sortPriv% PySem.Builtin.gallop
abbrev C4:ib oe->ib oe->acH m7 Sem (ib oe):=sortPriv% PySem.Builtin.mergeLo
abbrev mergeAt':Nat->acH m7 Sem fg:=sortPriv% PySem.Builtin.mergeAt
def mY (prog:fh)(w:il)(A:jl)(E:Lm)(s:cv)(a:T8)(O:xa)(kf:ax->O.α)(G:oe->Prop):Prop:=
 ∀ x y:oe,G x->G y->∀ (st:m7) (Q:a9 fg->m7->Prop),kindOf st=a->Q (ag (O.blt (kf x.1) (kf y.1))) st->wpS #[4] A E s (lt' x y) Q st
section
variable {prog:fh}{w:il}{A:jl}{E:Lm}{s:cv}{kd:T8}{O:xa}{kf:ax->O.α}{G:oe->Prop}
theorem cE {arr:ib oe}{i:Nat}(h:i<arr.size){Q:oe->m7->Prop}{st:m7}(q:Q arr[i] st):wpS #[4] A E s (elem' arr i) Q st:=by rw[elem'_eq,getElem?_pos arr i h];exact lb q
noncomputable def T2 (O:xa)(kf:ax->O.α)(left:fg)(key x:oe):fg:=if left then O.blt (kf x.1) (kf key.1) else !O.blt (kf key.1) (kf x.1)
theorem jO {e:Type}{b:Nat}{f:Nat->e->acH m7 Sem (ForInStep e)}{Q : e->m7->Prop}{c : e}{st:m7}(hb : 0<b)(h:wpS #[4] A E s (f 0 c) (λr d=>match r with | .done a=>Q a d | .yield _=>False) st):wpS #[4] A E s (adq [0:b] c f) Q st:=by
 refine Pr (I:=λx a d=>x=0/\a=c/\d=st) (λi a d _ _ z=>?_) (λa d z=>?_) ⟨rfl,rfl,rfl⟩
 ·obtain⟨rfl,rfl,rfl⟩:=z
  exact U6 h λr j q=>by
   cases r with
   |done g=>exact q
   |yield g=>exact q.elim
 have:=z.1;omega
theorem yz (L:mY prog w A E s kd O kf G){left:fg}{key:oe}{arr:ib oe}{base n a k:Nat}{st:m7}{Q:a9 Nat->m7->Prop}(m:kindOf st=kd)(l:G key)(ga:∀ x∈arr.toList,G x)
  (hb:base+n<=arr.size) (t : 2<=n) (B:Nat->fg) (p:∀ i (h:base+i<arr.size),i<n->B i=T2 O kf left key arr[base+i])
  (c:(a=0/\k=1/\B 0=ba/\B 1=b0)∨(a=n-1/\k=n-1/\B (n-1)=b0/\B (n-2)=ba))
  (h:Q (ag k) st):wpS #[4] A E s (Fm left key arr base n a) Q st:=by
 have d:∀ i,i<n->∀ {b:a9 fg->m7->Prop},b (ag (B i)) st->wpS #[4] A E s (do let x ← elem' arr (base+i);if left=ba then lt' x key else return (← lt' key x).map (!·)) b st:=by
  intro i r b q;have g:base+i<arr.size:=#[1]
  refine gj (cE g ?_);have o:G arr[base+i]:=ga _ (J8 g);have e:=p i g r;unfold T2 at e;cases left with
  |true =>
   rw[dm rfl];rw[dm rfl] at e;exact L _ _ o l st _ m (by rw[← e];exact q)
  |false =>
   rw[dV #[2]];rw[dV #[2]] at e;refine gj (L _ _ l o st _ m (lb ?_));show b (ag (!O.blt (kf key.1) (kf arr[base+i].1))) st;rw[← e];exact q
 rcases c with ⟨rfl,rfl,j,f⟩ |⟨rfl,rfl,j,f⟩
 ·refine gj (d 0 #[0] ?_);rw[j];rw[0];rw[dm rfl];refine gj (jO #[0] ?_);rw[0];rw[dV #[0]];refine gj (d (0+1) #[0] ?_);rw[show 0+1=1 from rfl,f];refine lb ?_;rw[0];refine gj (jO #[0] ?_);rw[0];rw[dm #[0]];refine lb (lb ?_);rw[show 0+Zu 1 (n-0)=1 by omega];exact h
 refine gj (d (n-1) #[0] ?_);rw[j];rw[0];rw[dV #[2]];refine gj (jO #[0] ?_);rw[0];rw[dV #[0]];refine gj (d (n-1-1) #[0] ?_);rw[show n-1-1=n-2 from #[1],f];refine lb ?_;rw[0];refine gj (jO #[0] ?_);rw[0];rw[dm #[0]];exact lb (lb h)
end
section
variable {O:xa}{kf:ax->O.α}
def NH (O:xa)(kf:ax->O.α)(x y:oe):Prop:=O.kle (kf x.1) (kf y.1)
theorem jJ {x y z:oe}(h:NH O kf x y)(g:NH O kf y z):NH O kf x z:=Tn h g
structure Mg (O:xa) (kf:ax->O.α) (T out A B:ak oe):Prop where
 perm:(out++(A++B)).Perm T
 so:out.Pairwise (NH O kf)
 sa:A.Pairwise (NH O kf)
 sb:B.Pairwise (NH O kf)
 low:∀ x∈out,∀ y∈A++B,NH O kf x y
def Res (O:xa)(kf:ax->O.α)(T r:ak oe):Prop:=r.Perm T/\r.Pairwise (NH O kf)
theorem Mg.WV {T out p A B:ak oe}(h:Mg O kf T out (p++A) B)(l:∀ x∈p,∀ y∈B,NH O kf x y):Mg O kf T (out++p) A B:=by
 have sa:=r0.mp h.sa;refine⟨by have:=h.perm;simpa [kg] using this,r0.mpr ⟨h.so,sa.1,λx hx y hy=>h.low x hx y (by simp[hy])⟩,sa.2.1,h.sb,λx hx y hy=>?_⟩;rcases lk.mp hx with hx |hx
 ·exact h.low x hx y (by
   rcases lk.mp hy with hy |hy
   ·simp[hy]
   simp[hy])
 rcases lk.mp hy with hy |hy
 ·exact sa.2.2 x hx y hy
 exact l x hx y hy
theorem Mg.WW {T out p A B:ak oe}(h:Mg O kf T out A (p++B))(l:∀ x∈p,∀ y∈A,NH O kf x y):Mg O kf T (out++p) A B:=by
 have sb:=r0.mp h.sb;refine⟨?_,r0.mpr ⟨h.so,sb.1,λx hx y hy=>h.low x hx y (by simp[hy])⟩,h.sa,sb.2.1,λx hx y hy=>?_⟩
 ·refine abf ?_ h.perm;rw[kg];refine Ve out ?_;rw[← kg,← kg];exact Xn B abn
 rcases lk.mp hx with hx |hx
 ·exact h.low x hx y (by
   rcases lk.mp hy with hy |hy
   ·simp[hy]
   simp[hy])
 rcases lk.mp hy with hy |hy
 ·exact l x hx y hy
 exact sb.2.2 x hx y hy
theorem Mg.last {T out B:ak oe}{z:oe}(h:Mg O kf T out [z] B)(l:∀ y∈B,NH O kf y z):Res O kf T (out++B++[z]):=by
 refine⟨?_,r0.mpr ⟨r0.mpr ⟨h.so,h.sb,λx hx y a=>h.low x hx y (by simp[a])⟩,To _ _,λx hx y a=>?_⟩⟩
 ·refine abf ?_ h.perm;rw[kg];exact Ve out abn
 have b:y=z:=by simpa using a
 subst b;rcases lk.mp hx with hx |hx
 ·exact h.low x hx y #[3]
 exact l x hx
theorem drop_cons {a:ib oe}{i:Nat}(h:i<a.size):a.toList.drop i=a[i]::a.toList.drop (i+1):=by rw[T3 (by simpa using h)];simp
theorem drop_take {a:ib oe}(i k:Nat):a.toList.drop i=(a.extract i (i+k)).toList++a.toList.drop (i+k):=by rw[Xm,T7,Nat.add_sub_cancel_left,← Oj,v3]
theorem nP {a:ib oe}(i:Nat):(a.extract i).toList=a.toList.drop i:=by rw[Xm,T7];exact zh #[3]
theorem zo {l:ak oe}{x y:oe}(a:(y::l).Pairwise (NH O kf))(h:NH O kf x y):∀ z∈y::l,NH O kf x z:=by
 intro z hz;rcases f5.mp hz with e |hz
 ·rw[e];exact h
 exact jJ h ((rk.mp a).1 z hz)
end
structure SameS (st LA:m7):Prop where
 kind:kindOf LA=kindOf st
 arr:ee LA=ee st
 pend:n0 LA=n0 st
 fail:H4 LA=H4 st
section
variable {prog:fh}{w:il}{A:jl}{E:Lm}{s:cv}{kd:T8}{O:xa}{kf:ax->O.α}{G:oe->Prop}
theorem uG (L:mY prog w A E s kd O kf G){a b:ib oe}{st:m7}{Q:ib oe->m7->Prop}(Z:kindOf st=kd)(ga:∀ x∈a.toList,G x)(gb:∀ x∈b.toList,G x)(hn:b.size=a.size)(u : 2<=a.size)
  (sa:a.toList.Pairwise (NH O kf)) (sb:b.toList.Pairwise (NH O kf)) (H:∀ i (h:i<a.size),O.blt (kf (b[i]'#[0]).1) (kf a[i].1)=ba) (ab:∀ i (h:i+1<a.size),O.blt (kf (b[i+1]'#[0]).1) (kf a[i].1)=b0) (hg : 2<=VU st)
  (h:∀ r,Res O kf (a.toList++b.toList) r.toList->Q r st):wpS #[4] A E s (C4 a b) Q st:=by
 have R : 0<a.size:=#[1]
 have hb : 0<b.size:=#[1]
 let T:=a.toList++b.toList;let I:ib oe->Nat->Nat->Prop:=λout d f=>Mg O kf T out.toList (a.toList.drop d) (b.toList.drop f);have gA:∀ i (m:i<a.size),G a[i]:=λi m=>ga _ (J8 m);have gB:∀ i (m:i<b.size),G b[i]:=λi m=>gb _ (J8 m)
 have K:∀ i j (m:i<a.size) (D:j<a.size),i<=j->NH O kf a[i] a[j]:=by
  intro i j m D Rh;rcases Wy i j with M0 |XM
  ·have:=K3.mp sa i j (by simpa using m) (by simpa using D) M0;simpa using this
  have e:i=j:=#[1]
  subst e;exact I3 _
 have first:NH O kf b[0] a[0]:=NF (H 0 R)
 have last:∀ y∈b.toList,NH O kf y a[a.size-1]:=λy l=>by
  obtain⟨j,D,rfl⟩:=Qq l;have S:j<a.size:=by rw[← hn];simpa using D
  have:=jJ (NF (H j S)) (K j (a.size-1) S #[0] #[0]);simpa using this
 have Y:∀ {out:ib oe}{d f:Nat},I out d f->d+1=a.size->Res O kf T (out++b.extract f++a.extract d).toList:=by
  intro out d f g e;have g:Mg O kf T out.toList (a.toList.drop d) (b.toList.drop f):=g;have M:a.toList.drop d=[a[a.size-1]]:=by rw[drop_cons #[0],UW (by simp[e])];congr 2;omega
  rw[acq,acq,nP,nP,M];rw[M] at g;exact g.last λy l=>last y (YH l)
 have P:∀ {out:ib oe}{d f:Nat}(n:d<a.size) (u:f<b.size),I out d f->NH O kf b[f] a[d]->I (out.push b[f]) d (f+1):=by
  intro out d f n u g J;have g:Mg O kf T out.toList (a.toList.drop d) (b.toList.drop f):=g;have z:=g;rw[drop_cons u] at g;show Mg O kf T (out.push b[f]).toList _ _;rw[Yq];refine Mg.WW (p:=[b[f]]) g λx v y l=>?_;have ex:x=b[f]:=by simpa using v
  subst ex;have N:=z.sa;rw[drop_cons n] at N l;exact zo N J y l
 have X:∀ {out:ib oe}{d f:Nat}(n:d<a.size) (u:f<b.size),I out d f->NH O kf a[d] b[f]->I (out.push a[d]) (d+1) f:=by
  intro out d f n u g J;have g:Mg O kf T out.toList (a.toList.drop d) (b.toList.drop f):=g;have z:=g;rw[drop_cons n] at g;show Mg O kf T (out.push a[d]).toList _ _;rw[Yq];refine Mg.WV (p:=[a[d]]) g λx v y l=>?_;have ex:x=a[d]:=by simpa using v
  subst ex;have U:=z.sb;rw[drop_cons u] at U l;exact zo U J y l
 have start:I #[b[0]] 0 1:=by
  have g:Mg O kf T [] a.toList b.toList:=⟨by simp[T],Vl,sa,sb,λx v=>by simp at v⟩;have z:I #[] 0 0:=by show Mg O kf T [] (a.toList.drop 0) (b.toList.drop 0);simpa using g
  exact P R hb z first
 refine gj (abM (OL ⟨rfl,?_⟩));refine gj (cE hb ?_);rw[0];rw[dV (by simp;omega),dV (by simp;omega)];refine gj (WI ?_);refine gj (U6 (Q:=λc k=>k=st/\∃ r rest,c=(ag r,rest)/\Res O kf T r.toList) (jO #[0] ?_) ?post)
 case post =>
  rintro c k ⟨rfl,r,rest,rfl,hr⟩;exact lb (h r hr)
 rw[0]
 refine gj (U6 (Pr (I:=λy c k=>k=st/\∃ out d f C B,c=(ay,out,d,f,C,B)/\I out d f/\d+1<a.size/\f<b.size/\d+f=y+1/\(f=d+1/\C=0∨f=d/\B=0))
  (Q:=λc k=>k=st/\∃ r rest,c=(ag r,rest)/\Res O kf T r.toList) ?step ?fin ⟨rfl,_,_,_,_,_,rfl,start,#[1],#[1],rfl,.inl ⟨rfl,rfl⟩⟩) ?post1)
 case post1 =>
  rintro c k ⟨rfl,r,rest,rfl,hr⟩;exact lb ⟨rfl,r,_,rfl,hr⟩
 case fin =>
  rintro c k ⟨rfl,out,d,f,C,B,rfl,g,n,o,W,_⟩;omega
 case step =>
  rintro y c k _ l ⟨rfl,out,d,f,C,B,rfl,g,n,o,W,h5⟩;rw[0];have q:d<a.size:=#[1]
  refine gj (cE o (gj (cE q (gj (L _ _ (gB _ o) (gA _ q) k _ Z ?_)))));rw[0];rcases h5 with ⟨rfl,rfl⟩ |⟨rfl,rfl⟩
  ·have e:=ab d #[0];rw[e,dV #[2]];refine gj (cE q ?_);have F:=X q o g (show O.kle _ _ from e)
   try rw[0]
   by_cases t:(d+1+1==a.size)=ba
   ·rw[dm t];exact lb ⟨rfl,_,_,rfl,Y F (by simpa using t)⟩
   rw[dV t];have V:d+1+1≠a.size:=by simpa using t
   rw[dV (show ¬ (0+1≥VU k) by omega)];exact lb ⟨rfl,_,_,_,_,_,rfl,F,#[1],o,#[1],.inr ⟨rfl,rfl⟩⟩
  have e:=H f q;rw[e,dm rfl];refine gj (cE o ?_);have F:=P q o g (NF e)
  try rw[0]
  have t:¬ (f+1==b.size)=ba:=by simp;omega
  rw[dV t,dV (show ¬ (0+1≥VU k) by omega)];exact lb ⟨rfl,_,_,_,_,_,rfl,F,n,#[1],#[1],.inl ⟨rfl,rfl⟩⟩
end
abbrev r9:Nat->Nat->acH m7 Sem (a9 Nat):=sortPriv% PySem.Builtin.countRun
abbrev wj:Nat->Nat->Nat->acH m7 Sem fg:=sortPriv% PySem.Builtin.binarySort
section
variable {prog:fh}{w:il}{A:jl}{E:Lm}{s:cv}{kd:T8}{O:xa}{kf:ax->O.α}{G:oe->Prop}
noncomputable def KX (kf:ax->O.α)(xs:ib oe)(i:Nat):O.α:=match xs[i]? with
 |ag p=>kf p.1
 |ay=>kf .none
theorem wC {xs ys:ib oe}{i j:Nat}(h:xs[i]?=ys[j]?):KX kf xs i=KX kf ys j:=by unfold KX;rw[h]
theorem nS {xs:ib oe}{i:Nat}(h:i<xs.size):KX kf xs i=kf xs[i].1:=by unfold KX;rw[getElem?_pos xs i h]
structure Sg (G:oe->Prop) (kd:T8) (lo hi:Nat) (st LA:m7):Prop where
 kind:kindOf LA=kd
 good:∀ x∈(ee LA).toList,G x
 perm:(ee LA).Perm (ee st)
 pend:n0 LA=n0 st
 fail:H4 LA=H4 st
 Vs:VU LA=VU st
 same:∀ k,(k<lo∨hi<=k)->(ee LA)[k]?=(ee st)[k]?
theorem Sg.size {lo b:Nat}{st a:m7}(h:Sg G kd lo b st a):(ee a).size=(ee st).size:=h.perm.size_eq
theorem Sg.set {lo b:Nat}{st a:m7}(h:Sg G kd lo b st a){ys:ib oe}(d:ys.Perm (ee a))(e:∀ k,(k<lo∨b<=k)->ys[k]?=(ee a)[k]?):Sg G kd lo b st (ad_ a ys):=
 ⟨h.kind,λx f=>h.good x ((VX.mp d).mem_iff.mp f),d.trans h.perm,h.pend,h.fail,h.Vs,λk c=>(e k c).trans (h.same k c)⟩
theorem cX (L:mY prog w A E s kd O kf G){lo b:Nat}{st0 st:m7}(a:Sg G kd lo b st0 st){i j:Nat}(b:i<(ee st0).size)(e:j<(ee st0).size){Q:a9 fg->m7->Prop}
  (q:Q (ag (O.blt (KX kf (ee st) i) (KX kf (ee st) j))) st):wpS #[4] A E s (ltAt' i j) Q st:=by
 have c:i<(ee st).size:=by rw[a.size];exact b
 have d:j<(ee st).size:=by rw[a.size];exact e
 rw[nS c,nS d] at q;rw[ltAt'_eq];refine gj (WI (gj (cE c (gj (cE d ?_)))));exact L _ _ (a.good _ (J8 c)) (a.good _ (J8 d)) st _ a.kind q
theorem D1 {i j:Nat}{st:m7}{Q:ab9->m7->Prop}(q:Q () (ad_ st (bubble (ee st) i (i-j)))):wpS #[4] A E s (moveDown' i j) Q st:=by rw[moveDown'_eq];exact WZ q
def OJ (kf:ax->O.α)(xs:ib oe)(lo a:Nat):Prop:=∀ i j,lo<=i->i<=j->j<a->O.kle (KX kf xs i) (KX kf xs j)
theorem BG (L:mY prog w A E s kd O kf G){lo b:Nat}{st:m7}{Q:a9 Nat->m7->Prop}(i:kindOf st=kd)(f:∀ x∈(ee st).toList,G x)(l:lo+b<=(ee st).size)(m : 2<=b)
  (u:O.blt (KX kf (ee st) lo) (KX kf (ee st) (lo+1))=ba) (d:b=2∨O.blt (KX kf (ee st) (lo+2)) (KX kf (ee st) (lo+1))=ba) (h:Q (ag 2) st):wpS #[4] A E s (r9 lo b) Q st:=by
 have e:Sg G kd lo lo st st:=⟨i,f,Y1 _,rfl,rfl,rfl,λ_ _=>rfl⟩;refine gj (U6 (Pr (I:=λx c a=>a=st/\c=(ay,x)/\x<=2) (Q:=λc a=>a=st/\c=(ay,2)) ?s1 ?f1 ⟨rfl,rfl,#[1]⟩) ?p1)
 case s1 =>
  rintro x c a k j ⟨rfl,rfl,g⟩
  try rw[0]
  refine gj (cX L e #[0] #[0] ?_);have:x=1∨x=2:=#[1]
  rcases this with rfl |rfl
  ·rw[show lo+1-1=lo by omega,show O.blt (KX kf (ee a) (lo+1)) (KX kf (ee a) lo)=b0 from PB u];exact lb ⟨rfl,rfl,#[1]⟩
  rw[show lo+2-1=lo+1 by omega,d.resolve_left #[0]];exact lb ⟨rfl,rfl⟩
 case f1 =>
  rintro c a ⟨rfl,rfl,g⟩;exact⟨rfl,by rw[show max 1 b=2 by omega]⟩
 case p1 =>
  rintro c a ⟨rfl,rfl⟩
  try rw[0]
  split
  ·exact lb h
  rw[dm #[2]];refine gj (cX L e #[0] #[0] ?_);rw[show lo+2-1=lo+1 by omega,u];exact lb h
theorem DT {xs:ib oe}{a d:Nat}(f:a<xs.size)(hd:d<=a)(k:Nat):KX kf (bubble xs a d) k=if k=a-d then KX kf xs a else if a-d<k/\k<=a then KX kf xs (k-1) else KX kf xs k:=by
 have e:=getElem?_bubble f d hd k;split
 ·rename_i b;rw[dm b] at e;exact wC e
 rename_i b;rw[dV b] at e;split
 ·rename_i c;rw[dm c] at e;exact wC e
 rename_i c;rw[dV c] at e;exact wC e
theorem nu (L:mY prog w A E s kd O kf G){lo n ok:Nat}{st0 st:m7}{Q:fg->m7->Prop}(y:Sg G kd lo (lo+n) st0 st)(D:lo+n<=(ee st0).size)(LX:ok<=n)(z:OJ kf (ee st) lo (lo+ok))
  (h:∀ d,Sg G kd lo (lo+n) st0 d->OJ kf (ee d) lo (lo+n)->Q ba d):wpS #[4] A E s (wj lo n ok) Q st:=by
 refine gj (U6 (Pr (I:=λk c d=>c=(ay,())/\Sg G kd lo (lo+n) st0 d/\OJ kf (ee d) lo (lo+Zu k n)) (Q:=λc d=>c=(ay,())/\Sg G kd lo (lo+n) st0 d/\OJ kf (ee d) lo (lo+n)) ?s1 ?f1 ⟨rfl,y,λi j a1 a2 C=>?i1⟩) ?p1)
 case i1 =>
  by_cases e:j<lo+ok
  ·exact z i j a1 a2 e
  have:i=j:=#[1]
  subst this;exact I3 _
 case f1 =>
  rintro c d ⟨hc,m,o⟩;refine⟨hc,m,?_⟩;rwa [show Zu (max (max ok 1) n) n=n by omega] at o
 case p1 =>
  rintro c d ⟨rfl,m,o⟩;exact lb (h d m o)
 case s1 =>
  rintro k c d B F ⟨rfl,m,o⟩;rw[show Zu k n=k by omega] at o
  try rw[0]
  refine gj (U6 (Pr (I:=λx c f=>f=d/\∃ l r,c=(ay,l,r)/\l<=r/\r<=k/\r-l<=k-x/\(∀ i,i<l->O.kle (KX kf (ee d) (lo+i)) (KX kf (ee d) (lo+k)))/\∀ i,r<=i->i<k->O.klt (KX kf (ee d) (lo+k)) (KX kf (ee d) (lo+i)))
   (Q:=λc f=>f=d/\∃ l r,c=(ay,l,r)/\l<=k/\(∀ i,i<l->O.kle (KX kf (ee d) (lo+i)) (KX kf (ee d) (lo+k)))/\∀ i,l<=i->i<k->O.klt (KX kf (ee d) (lo+k)) (KX kf (ee d) (lo+i))) ?s2 ?f2 ⟨rfl,0,k,rfl,#[1],#[1],#[1],λi N=>#[1],λi a b=>#[1]⟩) ?p2)
  case f2 =>
   rintro c f ⟨rfl,l,r,rfl,a1,a2,C,p,t⟩;exact⟨rfl,l,r,rfl,#[1],p,λi v u=>t i #[0] u⟩
  case s2 =>
   rintro x c f _ M ⟨rfl,l,r,rfl,a1,a2,C,p,t⟩
   try rw[0]
   by_cases e:l≥r
   ·rw[dm e];exact lb ⟨rfl,l,r,rfl,#[1],p,λi v u=>t i #[0] u⟩
   rw[dV e];refine gj (cX L m #[0] #[0] ?_);clear D LX B F;have m1:l<=(l+r) / 2:=#[1]
   have m2:(l+r) / 2<r:=#[1]
   generalize (l+r) / 2=md at *
   cases hb:O.blt (KX kf (ee f) (lo+k)) (KX kf (ee f) (lo+md)) with
   |true=>exact lb ⟨rfl,l,md,rfl,m1,#[1],#[1],p,λi v u=>KeyOrd.klt_of_klt_of_kle hb (o _ _ #[0] #[0] #[0])⟩
   |false=>exact lb ⟨rfl,md+1,r,rfl,m2,a2,#[1],λi v=>Tn (o _ _ #[0] #[0] #[0]) (show O.kle _ _ from hb),t⟩
  case p2 =>
   rintro c f ⟨rfl,l,r,rfl,a1,p,t⟩
   try rw[0]
   have g:lo+k<(ee f).size:=by rw[m.size];omega
   refine gj (D1 (lb ⟨rfl,m.set (bubble_perm _ _ _) (λq hq=>?_),?_⟩))
   ·rw[getElem?_bubble g _ #[0],dV (by rcases hq with hq |hq<;>omega),dV (by rcases hq with hq |hq<;>omega)]
   rw[show Zu (k+1) n=k+1 by omega];intro i j v u K;show O.kle (KX kf (bubble (ee f) (lo+k) (lo+k-(lo+l))) i) (KX kf (bubble (ee f) (lo+k) (lo+k-(lo+l))) j);rw[DT g #[0],DT g #[0],show lo+k-(lo+k-(lo+l))=lo+l by omega];have up:∀ q,lo<=q->q<lo+l->O.kle (KX kf (ee f) q) (KX kf (ee f) (lo+k)):=λq H J=>by have:=p (q-lo) #[0];rwa [show lo+(q-lo)=q by omega] at this
   have dn:∀ q,lo+l<=q->q<lo+k->O.klt (KX kf (ee f) (lo+k)) (KX kf (ee f) q):=λq H J=>by have:=t (q-lo) #[0] #[0];rwa [show lo+(q-lo)=q by omega] at this
   clear D LX B F g p t y m z h
   repeat' split
   all_goals first
    |(exfalso;omega)
    |exact I3 _
    |exact up _ #[0] #[0]
    |exact NF (dn _ #[0] #[0])
    |exact o _ _ #[0] #[0] #[0]
theorem writes:∀ (m:ak oe) (xs:ib oe) (b o:Nat),b+o+m.length<=xs.size->((m.zipIdx o).foldl (λa (c:oe×Nat)=>a.setIfInBounds (b+c.2) c.1) xs).toList=xs.toList.take (b+o)++(m++xs.toList.drop (b+o+m.length))
 |[],xs,b,o,h=>by simp
 |p::m,xs,b,o,h=>by
  rw[j2] at h;have e:=writes m (xs.setIfInBounds (b+o) p) b (o+1) (by rw[Array.size_setIfInBounds];omega);rw[abK,UU];show ((m.zipIdx (o+1)).foldl _ (xs.setIfInBounds (b+o) p)).toList=_;rw[e,ZP,← aaz,j2];have d:(xs.toList.set (b+o) p).take (b+o+1)=xs.toList.take (b+o)++[p]:=by rw[aea,List.take_set_of_le (hB _),L1 (by simpa using (#[1]:b+o<xs.size))];rfl
  have f:(xs.toList.set (b+o) p).drop (b+o+1+m.length)=xs.toList.drop (b+o+(m.length+1)):=by rw[List.drop_set_of_lt #[0]];congr 1;omega
  rw[d,f];simp
end
section
variable {prog:fh}{w:il}{A:jl}{E:Lm}{s:cv}{kd:T8}{O:xa}{kf:ax->O.α}{G:oe->Prop}
theorem DZ {st a:m7}{Q:PUnit->m7->Prop}(q:Q ⟨⟩ a):wpS #[4] A E s (set a:acH m7 Sem PUnit) Q st:=by unfold wpS;rw[StateT.run_set];exact bo ⟨rfl,q⟩
theorem xA {pre:ak (Nat×Nat×Nat)}{x y z:Nat×Nat×Nat}:(((pre++[x,y]).toArray.setIfInBounds pre.length z).eraseIdxIfInBounds (pre.length+1))=(pre++[z]).toArray:=by apply aa2.mp;rw[Array.toList_eraseIdxIfInBounds,ZP];simp[List.eraseIdx_append];intro h;omega
theorem uH (L:mY prog w A E s kd O kf G){st:m7}{pre:ak (Nat×Nat×Nat)}{b l q y:Nat}{U X Y V:ak oe}{Q:fg->m7->Prop}(D:kindOf st=kd)(m:∀ x∈(ee st).toList,G x)(hf:H4 st=ay)(RP : 2<=VU st)
  (p:n0 st=(pre++[(b,l,q),(b+l,l,y)]).toArray) (e:(ee st).toList=U++(X++(Y++V))) (h2 : 4<=l) (k:U.length=b) (d:X.length=l) (P:Y.length=l) (H:X.Pairwise (NH O kf)) (N:Y.Pairwise (NH O kf))
  (g:∀ i (h:i<l),O.blt (kf (X[i]'#[0]).1) (kf (Y[i]'#[0]).1)=ba) (I:∀ i (h:i+1<l),O.blt (kf (Y[i]'#[0]).1) (kf (X[i+1]'#[0]).1)=ba)
  (h:∀ f Z,kindOf f=kd->H4 f=ay->2<=VU f->n0 f=(pre++[(b,l+l,q)]).toArray->(ee f).toList=U++(Z++V)->Res O kf (X++Y) Z->Q ba f) :
  wpS #[4] A E s (mergeAt' pre.length) Q st:=by
 have R:(ee st).size=b+(l+(l+V.length)):=by have:=zc abv e;simpa [d,P,k] using this
 have o:∀ j (M:j<(ee st).size),(ee st)[j]=(U++(X++(Y++V)))[j]'(by rw[← e];simpa using M):=λj M=>by
  have h2:(ee st)[j]=(ee st).toList[j]'(by simpa using M):=by simp
  rw[h2];congr 1
 have F:∀ j (c:j<l),(ee st)[b+j]'#[0]=X[j]'#[0]:=λj c=>by rw[o,Wm #[0],aat #[0]];congr 1;omega
 have C:∀ j (c:j<l),(ee st)[b+l+j]'#[0]=Y[j]'#[0]:=λj c=>by rw[o,Wm #[0],Wm #[0],aat #[0]];congr 1;omega
 have gd:∀ j (c:j<(ee st).size),G (ee st)[j]:=λj c=>m _ (J8 c);refine gj (WI ?_);rw[show (sortPriv% PySem.Builtin.SortState.pending) st=n0 st from rfl,p,show ((pre++[(b,l,q),(b+l,l,y)]).toArray)[pre.length]?=ag (b,l,q) by simp,show ((pre++[(b,l,q),(b+l,l,y)]).toArray)[pre.length+1]?=ag (b+l,l,y) by simp];rw[0];refine gj (DZ ?_);refine gj (cE (show b+l<(ee st).size by omega) ?_);have W:(ee st)[b+l]'#[0]=Y[0]'#[0]:=C 0 #[0];refine gj (yz L (by exact D) (gd (b+l) #[0]) m (by show b+l<=(ee st).size;omega) #[0] (λj=>if c:b+j<(ee st).size then T2 O kf b0 ((ee st)[b+l]'#[0]) (ee st)[b+j] else b0) (λj c _=>by rw[aaf c]) (.inl ⟨rfl,rfl,?_,?_⟩) ?_)
 ·rw[aaf #[0],W];unfold T2;rw[dV #[2]];have:=PB (g 0 #[0]);rw[show (ee st)[b+0]'#[0]=X[0]'#[0] from F 0 #[0]];rw[show O.blt (kf (Y[0]'#[0]).1) (kf (X[0]'#[0]).1)=b0 from this];rfl
 ·rw[aaf #[0],W];unfold T2;rw[dV #[2]];rw[show (ee st)[b+1]'#[0]=X[1]'#[0] from F 1 #[0],show O.blt (kf (Y[0]'#[0]).1) (kf (X[1]'#[0]).1)=ba from I 0 #[0]];rfl
 try rw[0]
 rw[dV (by simp;omega)];refine gj (cE (show b+1+(l-1)-1<(ee st).size by omega) ?_);have xl:(ee st)[b+1+(l-1)-1]'#[0]=X[l-1]'#[0]:=by have:=F (l-1) #[0];rw[← this];congr 1;omega
 refine gj (yz L (by exact D) (gd _ #[0]) m (by show b+l+l<=(ee st).size;omega) #[0] (λj=>if c:b+l+j<(ee st).size then T2 O kf ba ((ee st)[b+1+(l-1)-1]'#[0]) (ee st)[b+l+j] else b0) (λj c _=>by rw[aaf c]) (.inr ⟨rfl,rfl,?_,?_⟩) ?_)
 ·rw[aaf #[0],xl];unfold T2;rw[dm rfl,C (l-1) #[0]];exact PB (g (l-1) #[0])
 ·rw[aaf #[0],xl];unfold T2;rw[dm rfl,C (l-2) #[0]];have:=I (l-2) #[0];simp only[show l-2+1=l-1 by omega] at this;exact this
 try rw[0]
 rw[dV (by simp;omega),dm #[0]];have ex:((ee st).extract (b+1) (b+l)).toList=X.drop 1:=by rw[Xm,T7,e,← k,← Oj,ab5,UO #[0],H5 (by rw[R3];omega)];exact zh (by rw[R3];omega)
 have B:((ee st).extract (b+l) (b+l+(l-1))).toList=Y.take (l-1):=by rw[Xm,T7,e,← Oj,← k,ab5,← d,ab5,d,show U.length+l+(l-1)-(U.length+l)=l-1 by omega,H5 #[0]]
 have lx:((ee st).extract (b+1) (b+l)).size=l-1:=by rw[← ky,ex,R3,d]
 have ly:((ee st).extract (b+l) (b+l+(l-1))).size=l-1:=by rw[← ky,B,R0,P];omega
 have S:∀ i (n:i<l-1),((ee st).extract (b+1) (b+l))[i]'#[0]=X[i+1]'#[0]:=λi n=>by rw[abo,← F (i+1) #[0]];congr 1;omega
 have yb:∀ i (n:i<l-1),((ee st).extract (b+l) (b+l+(l-1)))[i]'#[0]=Y[i]'#[0]:=λi n=>by rw[abo];exact C i #[0]
 refine gj (uG (a:=(ee st).extract (b+1) (b+l)) (b:=(ee st).extract (b+l) (b+l+(l-1))) L (by exact D) (λz hz=>by rw[ex] at hz;exact m z (by rw[e];simp[YH hz])) (λz hz=>by rw[B] at hz;exact m z (by rw[e];simp[Jq hz])) #[0] #[0]
  (by rw[ex];exact H.sublist (ac1 _ _)) (by rw[B];exact N.sublist (aad _ _)) (λi n=>by rw[S i #[0],yb i #[0]];exact I i #[0]) (λi n=>by rw[S i #[0],yb (i+1) #[0]];exact PB (g (i+1) #[0])) (by exact RP) λr hr=>?_)
 refine gj (WZ (gj (WI (lb ?_))));rw[ex,B] at hr;have lr:r.toList.length=(l-1)+(l-1):=by rw[hr.1.length_eq,da,R3,R0,d,P];omega
 have wr:=writes r.toList (ee st) (b+1) 0 (by rw[lr,R];omega);have e1:(ee st).toList.take (b+1)=U++X.take 1:=by rw[e,← k,List.take_length_add_append,H5 #[0]]
 have e2:(ee st).toList.drop (b+1+((l-1)+(l-1)))=Y.drop (l-1)++V:=by rw[e,show b+1+(l-1+(l-1))=b+(l+(l-1)) by omega,← Oj,← k,ab5,← Oj,← d,ab5,UO #[0]]
 rw[aeb,lr,e1,e2] at wr;show Q (H4 st).isNone _;rw[hf];refine h _ (X.take 1++(r.toList++Y.drop (l-1))) D hf RP xA ?_ ?_
 ·show (WX (λa (x:oe×Nat)=>a.setIfInBounds (b+1+x.2) x.1) (ee st) r.toList.zipIdx).toList=_;rw[wr];simp only[kg]
 have t:∀ {Z:ak oe},Z.Pairwise (NH O kf)->∀ a b (ha:a<Z.length) (hb:b<Z.length),a<=b->NH O kf Z[a] Z[b]:=by
  intro Z sZ a b ha hb Vp;rcases Wy a b with M0 |XM
  ·exact K3.mp sZ a b ha hb M0
  have e:a=b:=#[1]
  subst e;exact I3 _
 have J:∀ z∈X++Y,NH O kf (X[0]'#[0]) z/\NH O kf z (Y[l-1]'#[0]):=λz hz=>by
  rcases lk.mp hz with hz |hz
  ·obtain⟨j,c,rfl⟩:=Qq hz;exact⟨t H 0 j #[0] c (Tp _),jJ (t H j (l-1) c #[0] #[0]) (NF (g (l-1) #[0]))⟩
  obtain⟨j,c,rfl⟩:=Qq hz;exact⟨jJ (NF (g 0 #[0])) (t N 0 j #[0] c (Tp _)),t N j (l-1) c #[0] #[0]⟩
 have T:∀ z∈r.toList,z∈X++Y:=λz hz=>by
  rcases lk.mp (hr.1.mem_iff.mp hz) with hz |hz
  ·exact U5 _ (YH hz)
  exact mv _ (Jq hz)
 have x1:X.take 1=[X[0]'#[0]]:=by
  cases X with
  |nil=>simp at d;omega
  |cons a l=>rfl
 have y1:Y.drop (l-1)=[Y[l-1]'#[0]]:=by rw[T3 #[0],UW #[0]]
 refine⟨?_,?_⟩
 ·refine abf (Ve _ (Xn _ hr.1)) ?_;have q1:X.take 1++((X.drop 1++Y.take (l-1))++Y.drop (l-1))=(X.take 1++X.drop 1)++(Y.take (l-1)++Y.drop (l-1)):=by simp only[kg]
  rw[q1,v3,v3]
 rw[x1,y1];refine r0.mpr ⟨To _ _,r0.mpr ⟨hr.2,To _ _,λu K v hv=>?_⟩,λu K v hv=>?_⟩
 ·rw[hM.mp hv];exact(J u (T u K)).2
 rw[hM.mp K];rcases lk.mp hv with hv |hv
 ·exact(J v (T v hv)).1
 rw[hM.mp hv];exact(J _ (mv _ (Oy _))).1
end
abbrev mB:acH m7 Sem ab9:=sortPriv% PySem.Builtin.sortRuns
abbrev ii:Nat->Nat->Nat->Nat:=sortPriv% PySem.Builtin.minRun
abbrev Ct:Nat->Nat->Nat->Nat->Nat:=sortPriv% PySem.Builtin.power
abbrev OK:=Nat×Nat×Nat
noncomputable def al (n b l:Nat):fg:=[32,64,128,256,512].contains l&&(b % (2*l)==0&&dv (b+2*l<=n))
noncomputable def mg (n:Nat):ak OK->a9 (ak OK)
 |(s1,n1,_)::(s2,n2,p2)::r=>if s1==s2+n2&&(n1==n2&&al n s2 n2) then ag ((s2,n2+n2,p2)::r) else ay
 |_=>ay
noncomputable def T4 (n a:Nat):Nat->ak OK->a9 (ak OK)
 | 0,_=>ay
 |f+1,P=>match P with
  |x::(s2,n2,p2)::r=>if p2<=a then ag P else (mg n P).bind (T4 n a f)
  |_=>ag P
noncomputable def yU (n lo:Nat):ak OK->a9 (ak OK)
 |[]=>ag [(lo,32,0)]
 |(s1,n1,p1)::r=>(T4 n (Ct n (2*s1+n1) (2*s1+n1+n1+32) n) 20 ((s1,n1,p1)::r)).bind λQ=>match Q with
  |(a,b,_)::r=>ag ((lo,32,0)::(a,b,Ct n (2*s1+n1) (2*s1+n1+n1+32) n)::r)
  |[]=>ay
noncomputable def runs (n:Nat):Nat->a9 (ak OK)
 | 0=>ag []
 |j+1=>(runs n j).bind (yU n (32*j))
noncomputable def ud (n:Nat):Nat->ak OK->a9 (ak OK)
 | 0,_=>ay
 |f+1,P=>match P with
  |x1::x2::x3::r=>if x3.2.1<x1.2.1 then ay else (mg n P).bind (ud n f)
  |x1::x2::[]=>(mg n P).bind (ud n f)
  |_=>ag P
noncomputable def F1 (n:Nat):fg:=match (runs n (n / 32)).bind (ud n 20) with
 |ag [(0,k,_)]=>k==n
 |_=>b0
theorem ends:∀ t:_root_.Fin 5,F1 (32*2 ^ (t.val+1))=ba/\ii (32*2 ^ (t.val+1)) (32*2 ^ (t.val+1)) 0=32:=by decide
section
variable {prog:fh}{w:il}{A:jl}{E:Lm}{s:cv}{kd:T8}{O:xa}{kf:ax->O.α}{G:oe->Prop}
noncomputable def sl {α:Type}(xs:ak α)(b l:Nat):ak α:=(xs.drop b).take l
def Ae {α:Type}(lt : α->α->fg)(c:ak α)(b l:Nat):Prop:=∃ X Y:ak α,X.length=l/\Y.length=l/\(sl c b l).Perm X/\(sl c (b+l) l).Perm Y /\
 X.Pairwise (λa b=>lt b a=b0)/\Y.Pairwise (λa b=>lt b a=b0)/\(∀ p∈X.zip Y,lt p.1 p.2=ba)/\∀ p∈Y.zip X.tail,lt p.1 p.2=ba
def Jo {α:Type}(lt : α->α->fg)(d:ak α):Prop:=∃ t,t<5/\d.length=32*2 ^ (t+1)/\(∀ j,32*j<d.length->∃ a b c r,d.drop (32*j)=a::b::c::r/\lt a b=ba/\lt c b=ba)/\∀ b l,al d.length b l=ba->Ae lt d b l
def Spec {α:Type}(lt : α->α->fg)(a:ak α):Prop:=(a.length<64/\a.Nodup)∨Jo lt a
noncomputable def g6 (kf:ax->O.α)(xs:ib oe):ak O.α:=xs.toList.map λp=>kf p.1
theorem Ag {xs:ib oe}{i:Nat}{a:O.α}(h:(g6 kf xs)[i]?=ag a):KX kf xs i=a:=by unfold g6 at h;rw[hF] at h;obtain⟨p,b,rfl⟩:=en.mp h;unfold KX;rw[show xs[i]?=ag p by simpa using b]
theorem DQ {xs:ib oe}{lo n:Nat}(h:OJ kf xs lo (lo+n))(c:lo+n<=xs.size):(sl xs.toList lo n).Pairwise (NH O kf):=by unfold sl;rw[K3];intro i j a b d;rw[R0,R3,ky] at a b;have q:=h (lo+i) (lo+j) #[0] #[0] #[0];rw[nS #[0],nS #[0]] at q;show O.kle _ _;simpa using q
theorem De {a b:O.α}(c:O.kle a b)(d:O.kle b a):a=b:=O.total _ _ d c
theorem Cb {xs ys:ib oe}{lo n:Nat}(g:ys.Perm xs)(h:lo+n<=xs.size)(same:∀ k,(k<lo∨lo+n<=k)->ys[k]?=xs[k]?):ys.toList.take lo=xs.toList.take lo/\ys.toList.drop (lo+n)=xs.toList.drop (lo+n)/\(sl ys.toList lo n).Perm (sl xs.toList lo n):=by
 have d:ys.toList.take lo=xs.toList.take lo:=by
  apply UZ;intro i;rw[aau,aau];split
  ·rename_i f;simpa using same i (.inl f)
  rfl
 have e:ys.toList.drop (lo+n)=xs.toList.drop (lo+n):=by apply UZ;intro i;rw[X7,X7];simpa using same (lo+n+i) (.inr #[0])
 have c:∀ a:ib oe,a.toList=a.toList.take lo++((a.toList.drop lo).take n++a.toList.drop (lo+n)):=λa=>by rw[← Oj,v3,v3]
 have b:=VX.mp g;rw[c ys,c xs,d,e] at b;exact⟨d,e,(List.perm_append_right_iff _).mp ((List.perm_append_left_iff _).mp b)⟩
theorem FI {xs:ib oe}{lo:Nat}(u:O.blt (KX kf xs lo) (KX kf xs (lo+1))=ba):OJ kf xs lo (lo+2):=λi j a b c=>by
 have:i=j∨i=lo/\j=lo+1:=#[1]
 rcases this with rfl |⟨rfl,rfl⟩
 ·exact I3 _
 exact NF u
theorem B1 {α:Type}{xs ys:ak α}{b c k:Nat}(h:xs.take b=ys.take b)(hc:c+k<=b):sl xs c k=sl ys c k:=by
 unfold sl;have e:∀ a:ak α,(a.drop c).take k=((a.take b).drop c).take k:=λa=>by rw[aec,aed,abN #[0]]
 rw[e xs,e ys,h]
theorem yM {α:Type}{xs ys:ak α}{b c k:Nat}(h:xs.drop b=ys.drop b)(hc:b<=c):sl xs c k=sl ys c k:=by unfold sl;obtain⟨d,rfl⟩:∃ d,c=b+d:=⟨c-b,#[1]⟩;rw[← Oj,← Oj,h]
theorem B2 {α:Type}{xs:ak α}{b l:Nat}(h:b+l<=xs.length):(sl xs b l).length=l:=by unfold sl;rw[R0,R3];omega
theorem B0 {α:Type}(xs:ak α)(b k l:Nat):sl xs b (k+l)=sl xs b k++sl xs (b+k) l:=by unfold sl;rw[List.take_add,Oj]
theorem Hj {α:Type}(xs:ak α)(b k l:Nat):xs=xs.take b++(sl xs b k++(sl xs (b+k) l++xs.drop (b+k+l))):=by
 have a:sl xs (b+k) l++xs.drop (b+k+l)=xs.drop (b+k):=by have:=v3 l (xs.drop (b+k));rwa [Oj] at this
 have c:sl xs b k++xs.drop (b+k)=xs.drop b:=by have:=v3 k (xs.drop b);rwa [Oj] at this
 rw[a,c,v3]
structure Bk (G:oe->Prop) (kd:T8) (kf:ax->O.α) (a0:ib oe) (N P:ak OK) (lo:Nat) (st:m7):Prop where
 kind:kindOf st=kd
 good:∀ x∈(ee st).toList,G x
 fail:H4 st=ay
 Vs : 2<=VU st
 sz:(ee st).size=a0.size
 pend:n0 st=P.reverse.toArray
 rest:(ee st).toList.drop lo=a0.toList.drop lo
 Mh:∀ x∈N++P,x.1+x.2.1<=lo/\(sl (ee st).toList x.1 x.2.1).Perm (sl a0.toList x.1 x.2.1)/\(sl (ee st).toList x.1 x.2.1).Pairwise (NH O kf)
 ord:(N++P).Pairwise λx y=>y.1+y.2.1<=x.1
theorem Jm {n b l:Nat}(h:al n b l=ba) : 32<=l/\b+2*l<=n:=by unfold al at h;rw[mc,mc,sX] at h;have:=h.1;simp at this;omega
theorem wO (L:mY prog w A E s kd O kf G){g:ib oe}{N r:ak OK}{b l C j lo:Nat}{st:m7}{Q:fg->m7->Prop}(K:Bk G kd kf g N ((b+l,l,j)::(b,l,C)::r) lo st)(Yu:lo<=g.size)(ha:al g.size b l=ba)(z:Ae O.blt (g6 kf g) b l)
  (h:∀ f,Bk G kd kf g N ((b,l+l,C)::r) lo f->Q ba f):wpS #[4] A E s (mergeAt' r.length) Q st:=by
 obtain⟨h32,hn⟩:=Jm ha;obtain⟨m,u,lX0,lY0,pX,pY,X,Y,xy,yx⟩:=z;have hsz:(ee st).toList.length=g.size:=by rw[ky,K.sz]
 obtain⟨P,H,J⟩:=K.Mh (b+l,l,j) #[3];obtain⟨T,W,R⟩:=K.Mh (b,l,C) #[3];dsimp only at P H J T W R;have lX:=B2 (xs:=(ee st).toList) (b:=b) (l:=l) #[0];have lY:=B2 (xs:=(ee st).toList) (b:=b+l) (l:=l) #[0]
 have o:∀ {M M':ak oe}{Z:ak O.α},M.Perm M'->(M'.map λp=>kf p.1).Perm Z->M.Pairwise (NH O kf)->Z.Pairwise O.kle->M.map (λp=>kf p.1)=Z:=λ{M M' Z} V p2 s1 s2 =>
  Pf (λ_ _ _ _=>De) (H8.mpr s1) s2 ((V.map _).trans p2)
 have kl:∀ c k,sl (g6 kf g) c k=(sl g.toList c k).map λp=>kf p.1:=λc k=>by unfold sl g6;rw[abO,abP]
 rw[kl] at pX pY;have hX:=o W pX R X;have hY:=o H pY J Y;have gX:∀ i (a:i<l),kf ((sl (ee st).toList b l)[i]'#[0]).1=m[i]'#[0]:=λi a=>by simp only[← hX,YN]
 have gY:∀ i (a:i<l),kf ((sl (ee st).toList (b+l) l)[i]'#[0]).1=u[i]'#[0]:=λi a=>by simp only[← hY,YN]
 have I:∀ i (a:i<l),O.blt (m[i]'#[0]) (u[i]'#[0])=ba:=λi a=>by have:=xy _ (Oy (l:=m.zip u) (n:=i) (by rw[aee];omega));rw[abQ] at this;exact this
 have yx':∀ i (a:i+1<l),O.blt (u[i]'#[0]) (m[i+1]'#[0])=ba:=λi a=>by have:=yx _ (Oy (l:=u.zip m.tail) (n:=i) (by rw[aee,adl];omega));rw[abQ,ac6] at this;exact this
 have ep:n0 st=(r.reverse++[(b,l,C),(b+l,l,j)]).toArray:=by rw[K.pend];simp
 have v:((ee st).toList.take b).length=b:=by rw[R0];omega
 have q:=uH (Q:=Q) (pre:=r.reverse) L K.kind K.good K.fail K.Vs ep (Hj (ee st).toList b l l) #[0] v lX lY R J (λi a=>by rw[gX i a,gY i a];exact I i a) (λi a=>by rw[gX (i+1) a,gY i #[0]];exact yx' i a) (λf Z k1 f1 g1 V t B=>by
  have lZ:Z.length=l+l:=by rw[B.1.length_eq,da,lX,lY]
  have tk:(ee f).toList.take b=(ee st).toList.take b:=by rw[t];exact aef v
  have dr:(ee f).toList.drop (b+(l+l))=(ee st).toList.drop (b+(l+l)):=by rw[t,← Oj,acI v,acI lZ,aaz]
  have szl:(ee f).toList.length=(ee st).toList.length:=by rw[t];have:=zc abv (Hj (ee st).toList b l l);simp only[da] at this ⊢;omega
  have S:sl (ee f).toList b (l+l)=Z:=by unfold sl;rw[t,acI v,aef lZ]
  have pm:(ee f).toList.Perm (ee st).toList:=by
   rw[t]
   conv=>rhs;rw[Hj (ee st).toList b l l]
   refine Ve _ ?_;rw[← kg (sl _ _ _)];exact Xn _ B.1
  have ord:=K.ord;refine h f ⟨k1,λx hx=>K.good x (pm.mem_iff.mp hx),f1,g1,by rw[← K.sz,← ky,szl,ky],by rw[V];simp,?_,λx hx=>?_,?_⟩
  ·obtain⟨d,hd⟩:∃ d,lo=b+(l+l)+d:=⟨lo-(b+(l+l)),#[1]⟩;rw[← K.rest,hd];have:=zc (List.drop d) dr;rwa [Oj,Oj] at this
  ·rcases lk.mp hx with hx |hx
   ·obtain⟨F,D,U⟩:=K.Mh x (by simp[hx]);have:b+l+l<=x.1:=by have:=(r0.mp ord).2.2 x hx (b+l,l,j) #[3];exact this
    have e:=yM (k:=x.2.1) dr (show b+(l+l)<=x.1 by omega);rw[e];exact⟨F,D,U⟩
   rcases f5.mp hx with rfl |hx
   ·rw[0];rw[S];refine⟨#[1],?_,B.2⟩;rw[B0];exact B.1.trans (List.Perm.append W H)
   obtain⟨F,D,U⟩:=K.Mh x (by simp[hx]);have o2:=(r0.mp ord).2.1;have:x.1+x.2.1<=b:=(rk.mp (rk.mp o2).2).1 x hx;rw[B1 tk this];exact⟨F,D,U⟩
  obtain⟨o1,o2,o3⟩:=r0.mp ord;have o4:=(rk.mp o2).2;refine r0.mpr ⟨o1,rk.mpr ⟨(rk.mp o4).1,(rk.mp o4).2⟩,λx hx y hy=>?_⟩;rcases f5.mp hy with rfl |hy
  ·have:=o3 x hx (b+l,l,j) #[3];dsimp only at this ⊢;omega
  exact o3 x hx y (by simp[hy]))
 rwa [ace] at q
end
section
variable {prog:fh}{w:il}{A:jl}{E:Lm}{s:cv}{kd:T8}{O:xa}{kf:ax->O.α}{G:oe->Prop}
theorem AM {r:ak OK}{a b q c:Nat}{z:OK}:((((a,b,q)::r).reverse.toArray.modify (((a,b,q)::r).reverse.toArray.size-1) λx=>(x.1,x.2.1,c)).push z)=(z::(a,b,c)::r).reverse.toArray:=by
 apply aa2.mp;apply UZ;intro i;simp only[Yq,Array.toList_modify,List.reverse_cons,f3,da,ace,j2,aaT,acJ]
 have e:(r.reverse++[(a,b,q)]).modify r.length (λx=>(x.1,x.2.1,c))=r.reverse++[(a,b,c)]:=by
  apply UZ;intro k;rw[List.getElem?_modify];rcases WA k r.length with h |h |h
  ·rw[h7 (by simpa using h),h7 (by simpa using h)];have d:¬ r.length=k:=#[1]
   simp[d]
  ·subst h;simp
  rw[Vg (by simp;omega),Vg (by simp;omega)];simp
 simp[e]
theorem Ck {l:ak OK}{i k:Nat}{x:OK}(a:i<l.length)(b:l.length-1-i=k)(c:l[k]?=ag x):(l.reverse.toArray)[i]?=ag x:=by rw[List.getElem?_toArray,List.getElem?_reverse a,b];exact c
theorem tL {n:Nat}{x1:OK}{a n2 c:Nat}{r P:ak OK}(h:mg n (x1::(a,n2,c)::r)=ag P):∃ b,x1=(a+n2,n2,b)/\al n a n2=ba/\P=(a,n2+n2,c)::r:=by
 obtain⟨g,n1,b⟩:=x1;rw[mg] at h;split at h
 ·rename_i hc;rw[mc,mc,UR,UR] at hc;obtain⟨d,e,f⟩:=hc;subst d;subst e;cases h;exact⟨b,rfl,f,rfl⟩
 cases h
theorem rh {n:Nat}:∀ {j k:Nat},k<=j->(runs n j).isSome=ba->∃ P,runs n k=ag P
 | 0,k,a,h=>⟨[],by rw[show k=0 by omega];rfl⟩
 |j+1,k,a,h=>by
  rcases ZQ a with b |rfl
  ·refine rh (Nat.le_of_lt_succ b) ?_;rw[runs] at h;cases hr:runs n j with
   |none=>rw[hr] at h;cases h
   |some P=>rfl
  exact aao.mp h
set_option maxHeartbeats 1000000 in
theorem D2 (L:mY prog w A E s kd O kf G){i:Array Keyed}{N R:List OK}{lo m b:Nat}(t:lo<=i.size)(hz:∀ b l,al i.size b l=true->Ae O.blt (g6 kf i) b l){f:Nat->Option Unit×Unit->StateT SortSt Sem (ForInStep (Option Unit×Unit))}{Q:Option Unit×Unit->SortSt->Prop}
  (hb : 20<b) {P:List OK}{st:SortSt}(z:T4 i.size m 20 P=some R) (K:Bk G kd kf i N P lo st) (h:∀ n,Bk G kd kf i N R lo n->Q (none,()) n)
  (e:f=λ_ _=>bind get λst=>match (if (pendingOf st).size > 1 then (pendingOf st)[(pendingOf st).size-2]? else none) with
   |some (_,_,older)=>if older<=m then pure (.done (none,())) else bind (mergeAt' ((pendingOf st).size-2)) λok=>if (!ok)=true then pure (.done (some (),())) else pure (.yield (none,()))
   |_=>pure (.done (none,()))) :
  wpS (model prog w) A E s (forIn [0:b] (none,()) f) Q st:=by
 subst e;refine wpS_forRange (I:=λy c j => ∃ g k,c=(none,())/\g+y=20/\T4 i.size m g k=some R/\Bk G kd kf i N k lo j) ?s ?f ⟨20,P,rfl,rfl,z,K⟩
 case f =>
  rintro c j ⟨g,k,rfl,u,_⟩;have:max 0 b=b:=by omega
  omega
 case s =>
  rintro y c j _ D ⟨g,k,rfl,u,a,d⟩;cases g with
  |zero=>simp[T4] at a
  |succ g =>
   refine wpS_bind (wpS_get ?_);rw[d.pend]
   match k,a,d with
   |[],a,d =>
    simp only[T4,Option.some.injEq] at a;rw[if_neg (by simp)];exact wpS_pure (h j (by rw[← a];exact d))
   |[x],a,d =>
    simp only[T4,Option.some.injEq] at a;rw[if_neg (by simp)];exact wpS_pure (h j (by rw[← a];exact d))
   |x1::(s2,n2,p2)::r,a,d =>
    rw[if_pos (by simp),show ((x1::(s2,n2,p2)::r).reverse.toArray)[(x1::(s2,n2,p2)::r).reverse.toArray.size-2]?=some (s2,n2,p2) by simp];dsimp only;rw[T4] at a;by_cases o:p2<=m
    ·rw[if_pos o] at a ⊢;cases a;exact wpS_pure (h j d)
    rw[if_neg o] at a ⊢;obtain⟨H,q,C⟩:=bind_eq_some_iff.mp a;obtain⟨B,rfl,p,rfl⟩:=tL q;rw[show (((s2+n2,n2,B)::(s2,n2,p2)::r).reverse.toArray.size-2)=r.length by simp];refine wpS_bind (wO L d t p (hz _ _ p) λF v=>?_);rw[if_neg (by decide)];exact wpS_pure ⟨g,_,rfl,by omega,C,v⟩
theorem qr (L:mY prog w A E s kd O kf G){st:m7}{Q:ab9->m7->Prop}(hk:kindOf st=kd)(hg:∀ x∈(ee st).toList,G x)(hf:H4 st=ay)(hp:n0 st = #[])(RP : 2<=VU st)(sp:Jo O.blt (g6 kf (ee st)))
  (h:∀ b,(ee b).Perm (ee st)->H4 b=ay->OJ kf (ee b) 0 (ee st).size->Q () b):wpS #[4] A E s mB Q st:=by
 obtain⟨t,ht,d,W5,u⟩:=sp;have T5:(g6 kf (ee st)).length=(ee st).size:=by unfold g6;rw[d7,ky]
 rw[T5] at d W5 u;obtain⟨S,mr⟩:=ends ⟨t,ht⟩;dsimp only at S mr;rw[← d] at S mr;have R1 : 64<=(ee st).size:=by have:=UD (n:=t);rw[d,UE];omega
 have hdv:(ee st).size=32*((ee st).size / 32):=by rw[d];omega
 have U3:∃ PE q,runs (ee st).size ((ee st).size / 32)=ag PE/\ud (ee st).size 20 PE=ag [(0,(ee st).size,q)]:=by
  unfold F1 at S;split at S
  ·rename_i k q hq;obtain⟨PE,J,e2⟩:=hD.mp hq;exact⟨PE,q,J,by rw[e2,U7 S]⟩
  cases S
 obtain⟨PE,qE,eR,eC⟩:=U3;generalize XU:ee st=a0 at *
 have K0:Bk G kd kf a0 [] [] 0 st:=⟨hk,by rw[XU];exact hg,hf,RP,by rw[XU],by rw[hp];rfl,by rw[XU],(λx hx=>by cases hx),Vl⟩;refine gj (WI ?_);rw[0];rw[show (sortPriv% PySem.Builtin.SortState.a) st=a0 from XU]
 refine gj (U6 (Pr (I:=λx c b => ∃ j P,c=(ay,32*j)/\32*j<=a0.size/\(j=x∨32*j=a0.size)/\runs a0.size j=ag P/\Bk G kd kf a0 [] P (32*j) b)
  (Q:=λc b => ∃ P,c=(ay,a0.size)/\runs a0.size (a0.size / 32)=ag P/\Bk G kd kf a0 [] P a0.size b) ?s1 ?f1 ⟨0,[],rfl,#[1],#[9],rfl,K0⟩) ?p1)
 case f1 =>
  rintro c b ⟨j,P,rfl,h1,h2,h3,K⟩
  have F : 32*j=a0.size:=by
   rcases h2 with h2 |h2
   ·have:j=a0.size:=by rw[h2];omega
    omega
   exact h2
  have:a0.size / 32=j:=#[1]
  exact⟨P,by rw[F],by rw[this];exact h3,by rw[← F];exact K⟩
 case s1 =>
  rintro x c b _ hx ⟨j,P,rfl,h1,h2,h3,K⟩;rw[0];by_cases F : 32*j=a0.size
  ·rw[dm (show 32*j≥a0.size by omega)];have:a0.size / 32=j:=#[1]
   exact lb ⟨P,by rw[F],by rw[this];exact h3,by rw[← F];exact K⟩
  rw[dV (show ¬ 32*j≥a0.size by omega)];have hj2 : 32*j+32<=a0.size:=#[1]
  have hjx:j=x:=h2.resolve_right F;obtain⟨ka,kb,kc,kr,ek,u0,d0⟩:=W5 j #[0]
  have kk:∀ {i:Nat}{z:O.α},(ka::kb::kc::kr)[i]?=ag z->KX kf (ee b) (32*j+i)=z:=λ{i z} u=>by
   have J:(ee b).toList[32*j+i]?=a0.toList[32*j+i]?:=by rw[← X7,← X7,K.rest]
   rw[wC (ys:=a0) (j:=32*j+i) (by simpa using J)];exact Ag (by rw[← X7,ek];exact u)
  have u':O.blt (KX kf (ee b) (32*j)) (KX kf (ee b) (32*j+1))=ba:=by have:=kk (i:=0) rfl;rw[aeb] at this;rw[this,kk (i:=1) rfl];exact u0
  have sz':=K.sz;refine gj (BG L K.kind K.good #[0] #[0] u' (.inr (by rw[kk (i:=2) rfl,kk (i:=1) rfl];exact d0)) ?_);rw[0];rw[dm (show 2<ii a0.size a0.size 0 by omega)];refine gj (abM (OL ⟨rfl,?_⟩));have e32:Zu (a0.size-32*j) (ii a0.size a0.size 0)=32:=#[1]
  rw[e32];refine gj (nu (n:=32) (st0:=b) L ⟨K.kind,K.good,Y1 _,rfl,rfl,rfl,λ_ _=>rfl⟩ #[0] #[0] (FI u') λN C Zl=>?_);rw[dV #[2]];have YI:=C.size;obtain⟨q1,q2,q3⟩:=Cb C.perm #[0] C.same;have as3:=DQ Zl #[0]
  have m:Bk G kd kf a0 [(32*j,32,0)] P (32*j+32) N:=by
   refine⟨C.kind,C.good,C.fail.trans K.fail,by rw[C.Vs];exact K.Vs,#[1],by rw[C.pend];exact K.pend,?_,λy hy=>?_,?_⟩
   ·rw[q2,← Oj,K.rest,Oj]
   ·rcases lk.mp hy with hy |hy
    ·rw[hM.mp hy];rw[0];refine⟨#[1],q3.trans ?_,as3⟩;rw[yM K.rest (hB _)]
    obtain⟨c1,M,V⟩:=K.Mh y (by simpa using hy);rw[B1 q1 c1];exact⟨#[1],M,V⟩
   have o:=K.ord;rw[WY] at o;exact rk.mpr ⟨λy hy=>(K.Mh y (by simpa using hy)).1,o⟩
  have hr1:runs a0.size (j+1)=yU a0.size (32*j) P:=by rw[runs,h3];rfl
  obtain⟨W,J⟩:=rh (n:=a0.size) (j:=a0.size / 32) (k:=j+1) #[0] (by rw[eR];rfl);have D:=hr1.symm.trans J;have fin:∀ {l:m7}{R:ak OK}{y:OK},Bk G kd kf a0 [(32*j,32,0)] R (32*j+32) l->∀ {H:m7},kindOf H=kindOf l->ee H=ee l->H4 H=H4 l->VU H=VU l->n0 H=W.reverse.toArray->(∀ y∈W,∃ y'∈[(32*j,32,0)]++R,y'.1=y.1/\y'.2.1=y.2.1)->(W.Pairwise λx y=>y.1+y.2.1<=x.1)->Bk G kd kf a0 [] W (32*(j+1)) H:=by intro l R y g H a1 a2 a3 a4 a5 a6 a7;refine⟨a1.trans g.kind,by rw[a2];exact g.good,a3.trans g.fail,by rw[a4];exact g.Vs,by rw[a2];exact g.sz,a5,by rw[a2];exact g.rest,λz u=>?_,a7⟩;obtain⟨z',Zm,b1,b2⟩:=a6 z (by simpa using u);have q:=g.Mh z' Zm;rw[a2,← b1,← b2];exact q
  refine gj (WI ?_);rw[show (sortPriv% PySem.Builtin.SortState.pending) N=n0 N from rfl,m.pend]
  match P,D,m,K with
  |[],D,m,K =>
   rw[show (([]:ak OK).reverse.toArray).back?=ay from rfl];rw[0];rw[yU,Qw] at D;subst D;refine gj (WZ (lb ?_));refine⟨j+1,_,by rw[Nat.mul_add,Nat.mul_one],#[1],.inl #[0],J,fin (y:=(0,0,0)) m rfl rfl rfl rfl ?_ (λy hy=>⟨y,by simpa using hy,rfl,rfl⟩) (To _ _)⟩;show (n0 N).push _=_;rw[m.pend];rfl
  |(s1,n1,p1)::r,D,m,K =>
   rw[show (((s1,n1,p1)::r).reverse.toArray).back?=ag (s1,n1,p1) by simp];rw[0];rw[yU] at D;obtain⟨R,Z,B⟩:=hD.mp D
   match R,Z,B with
   |[],Z,B=>cases B
   |(ra,rb,rq)::rr,Z,B =>
    simp only[Qw] at B;refine gj (U6 (D2 (Q:=λc l=>c=(ay,())/\Bk G kd kf a0 [(32*j,32,0)] ((ra,rb,rq)::rr) (32*j+32) l) L #[0] u #[0] Z m (λl g=>⟨rfl,g⟩) rfl) ?_);rintro c l ⟨rfl,g⟩;rw[0];refine gj (WZ (gj (WZ (lb ?_))));refine⟨j+1,W,by rw[Nat.mul_add,Nat.mul_one],#[1],.inl #[0],J,fin (y:=(0,0,0)) g rfl rfl rfl rfl ?_ (λy hy=>?_) ?_⟩
    ·show ((n0 l).modify ((n0 l).size-1) λx=>(x.1,x.2.1,_)).push _=_;rw[g.pend,AM,← B]
    ·rw[← B] at hy;rcases f5.mp hy with rfl |hy
     ·exact⟨_,by simp,rfl,rfl⟩
     rcases f5.mp hy with rfl |hy
     ·exact⟨(ra,rb,rq),by simp,rfl,rfl⟩
     exact⟨y,by simp[hy],rfl,rfl⟩
    rw[← B];have o:=rk.mp g.ord;have o2:=rk.mp o.2;refine rk.mpr ⟨λy hy=>?_,rk.mpr ⟨o2.1,o2.2⟩⟩;rcases f5.mp hy with rfl |hy
    ·exact o.1 (ra,rb,rq) #[3]
    exact o.1 y (by simp[hy])
 case p1 =>
  rintro c b ⟨P,rfl,hP,K⟩;rw[0];rw[eR] at hP;cases hP
  refine gj (U6 (Pr (I:=λy c v => ∃ f U,c=(ay,())/\f+y=20/\ud a0.size f U=ag [(0,a0.size,qE)]/\Bk G kd kf a0 [] U a0.size v)
   (Q:=λc v=>c=(ay,())/\Bk G kd kf a0 [] [(0,a0.size,qE)] a0.size v) ?s2 ?f2 ⟨20,PE,rfl,rfl,eC,K⟩) ?p2)
  case f2 =>
   rintro c v ⟨f,U,rfl,hf2,_⟩;have:max 0 a0.size=a0.size:=#[1]
   omega
  case p2 =>
   rintro c v ⟨rfl,e⟩;obtain⟨_,M,V⟩:=e.Mh (0,a0.size,qE) #[3];dsimp only at M V;have full:∀ Y:ib oe,Y.size=a0.size->sl Y.toList 0 a0.size=Y.toList:=λY u=>by unfold sl;rw[adi];exact zh (by rw[ky];omega)
   rw[full _ e.sz] at M V;rw[full _ rfl] at M;refine lb (h v (VX.mpr M) e.fail λi j _ Rh F=>?_);have sz2:=e.sz;rw[nS #[0],nS #[0]];rcases Wy i j with M0 |XM
   ·have:=K3.mp V i j (by rw[ky];omega) (by rw[ky];omega) M0;simpa [NH] using this
   obtain rfl:i=j:=#[1]
   exact I3 _
  case s2 =>
   rintro y c v _ hy ⟨f,U,rfl,hf2,hc,e⟩;cases f with
   |zero=>simp[ud] at hc
   |succ f =>
    refine gj (WI ?_);rw[show (sortPriv% PySem.Builtin.SortState.pending) v=n0 v from rfl,e.pend]
    match U,hc,e with
    |[],hc,e =>
     have hc:(ag []:a9 (ak OK))=ag [(0,a0.size,qE)]:=hc;cases hc
    |[x],hc,e =>
     simp only[ud,Qw] at hc;rw[dm #[3]];exact lb ⟨rfl,by rw[← hc];exact e⟩
    |[x1,(s2,n2,p2)],hc,e =>
     rw[dV #[3]];simp only[ud] at hc;obtain⟨P3,e3,Zn⟩:=hD.mp hc;obtain⟨T,rfl,X,rfl⟩:=tL e3;refine gj (wO (r:=[]) L e (hB _) X (u _ _ X) λN m=>?_);rw[dV #[2]];exact lb ⟨f,_,rfl,#[1],Zn,m⟩
    |x1::(s2,n2,p2)::p::r,hc,e =>
     rw[dV #[3]];simp only[ud] at hc;by_cases Zo:p.2.1<x1.2.1
     ·rw[dm Zo] at hc;cases hc
     rw[dV Zo] at hc;obtain⟨P3,e3,Zn⟩:=hD.mp hc;obtain⟨T,rfl,X,rfl⟩:=tL e3;have ei:(((s2+n2,n2,T)::(s2,n2,p2)::p::r).reverse.toArray.size-2)=(p::r).length:=by simp
     rw[ei,dm (show (p::r).length > 0 by simp),show ((((s2+n2,n2,T)::(s2,n2,p2)::p::r).reverse.toArray)[(p::r).length-1]?)=ag p from Ck (k:=2) (by simp;omega) #[3] rfl,show ((((s2+n2,n2,T)::(s2,n2,p2)::p::r).reverse.toArray)[(p::r).length+1]?)=ag (s2+n2,n2,T) from Ck (k:=0) #[3] #[3] rfl]
     rw[dV (by
      simp only[VM,Option.any_some,Option.elim_some]
      exact λq=>Zo (ll q))]
     refine gj (wO (r:=p::r) L e (hB _) X (u _ _ X) λN m=>?_);rw[dV #[2]];exact lb ⟨f,_,rfl,#[1],Zn,m⟩
end
section
variable {prog:fh}{w:il}{A:jl}{E:Lm}{s:cv}{kd:T8}{O:xa}{kf:ax->O.α}{G:oe->Prop}
theorem wp {xs:ib oe}{n:Nat}(h:OJ kf xs 0 n)(f : 0<n)(d:O.blt (KX kf xs n) (KX kf xs (n-1))=b0):OJ kf xs 0 (n+1):=by
 intro i j a e g;by_cases b:j=n
 ·subst b;by_cases c:i=j
  ·subst c;exact I3 _
  exact Tn (h i (j-1) a #[0] #[0]) d
 exact h i j a e #[0]
theorem DM {a b:O.α}(h:O.blt b a=b0)(c:a≠b):O.blt a b=ba:=by
 cases q:O.blt a b with
 |true=>rfl
 |false=>exact ku (O.total _ _ q h) c
theorem qu (L:mY prog w A E s kd O kf G){st:m7}{Q:a9 Nat->m7->Prop}(z:kindOf st=kd)(N:∀ x∈(ee st).toList,G x)(Y : 2<=(ee st).size)
  (hd:∀ i j,i<j->j<(ee st).size->KX kf (ee st) i≠KX kf (ee st) j)
  (h:∀ n d,(∀ l,Sg G kd 0 (max l (ee st).size) st d)->2<=n->n<=(ee st).size->OJ kf (ee d) 0 n->Q (ag n) d):wpS #[4] A E s (r9 0 (ee st).size) Q st:=by
 have q:∀ l,Sg G kd 0 l st st:=λl=>⟨z,N,Y1 _,rfl,rfl,rfl,λ_ _=>rfl⟩;generalize T:(ee st).size=NM at *
 refine gj (U6 (Pr (I:=λx c d=>d=st/\c=(ay,x)/\OJ kf (ee st) 0 x)
  (Q:=λc d=>d=st/\∃ n,c=(ay,n)/\1<=n/\n<=NM/\OJ kf (ee st) 0 n/\(n<NM->O.blt (KX kf (ee st) n) (KX kf (ee st) (n-1))=ba)) ?s1 ?f1 ⟨rfl,rfl,λi j a b c=>by
   have:i=j:=#[1]
   subst this;exact I3 _⟩) ?p1)
 case s1 =>
  rintro x c d t B ⟨rfl,rfl,g⟩
  try rw[0]
  refine gj (cX L (q 0) #[0] #[0] ?_);rw[mi];cases hb:O.blt (KX kf (ee d) x) (KX kf (ee d) (x-1)) with
  |true=>exact lb ⟨rfl,x,rfl,t,#[1],g,λ_=>hb⟩
  |false=>exact lb ⟨rfl,rfl,wp g t hb⟩
 case f1 =>
  rintro c d ⟨rfl,rfl,g⟩;exact⟨rfl,_,rfl,#[1],#[1],g,λV=>#[1]⟩
 case p1 =>
  rintro c d ⟨rfl,n,rfl,H,D,g,hb⟩
  try rw[0]
  by_cases u:(n==NM)=ba
  ·rw[dm u];have:n=NM:=by simpa using u
   exact lb (h n d (λl=>q _) #[0] D g)
  rw[dV u];have Z:n≠NM:=by simpa using u
  have hb:=hb #[0];by_cases y:n > 1
  ·rw[dm y];refine gj (cX L (q 0) #[0] #[0] ?_);rw[mi,DM (g 0 (n-1) (hB _) #[0] #[0]) (hd 0 (n-1) #[0] #[0])];exact lb (h n d (λl=>q _) y D g)
  rw[dV y];have:n=1:=#[1]
  subst this;refine gj (abM (OL ⟨rfl,?_⟩))
  refine gj (U6 (Pr (I:=λx c f=>f=d/\c=(ay,x,0)/\∀ i j,i<j->j<x->O.blt (KX kf (ee d) j) (KX kf (ee d) i)=ba)
   (Q:=λc f=>f=d/\∃ m,c=(ay,m,0)/\2<=m/\m<=NM/\∀ i j,i<j->j<m->O.blt (KX kf (ee d) j) (KX kf (ee d) i)=ba) ?_ ?_ ⟨rfl,rfl,λi j a b=>?_⟩) ?_)
  ·rintro x c f t B ⟨rfl,rfl,p⟩
   try rw[0]
   refine gj (cX L (q 0) #[0] #[0] ?_);rw[mi];cases Vu:O.blt (KX kf (ee f) x) (KX kf (ee f) (x-1)) with
   |true =>
    try rw[0]
    rw[dm rfl,dV #[0]];refine lb ⟨rfl,rfl,λi j a b=>?_⟩;by_cases K:j=x
    ·subst K;by_cases l:i=j-1
     ·subst l;exact Vu
     exact O.trans _ _ _ Vu (p i (j-1) #[0] #[0])
    exact p i j a #[0]
   |false =>
    try rw[0]
    rw[dV #[2]];refine gj (cX L (q 0) #[0] #[0] ?_);rw[mi,DM Vu (hd (x-1) x #[0] #[0])];exact lb ⟨rfl,x,rfl,t,#[1],p⟩
  ·rintro c f ⟨rfl,rfl,p⟩;exact⟨rfl,_,rfl,#[1],#[1],p⟩
  ·have:i=0/\j=1:=#[1]
   obtain⟨rfl,rfl⟩:=this;exact hb
  rintro c f ⟨rfl,m,rfl,W,U,p⟩
  try rw[0]
  rw[dV #[0]];rw[show (0:Nat)+m=m by omega];refine gj (show wpS _ _ _ _ (reverseSlice' 0 m) _ _ from ?_);rw[reverseSlice'_eq];refine WZ ?_;have C:=λk=>getElem?_mirror_all (xs:=ee f) (i:=0) (j:=m) #[0] k;have v:∀ l,Sg G kd 0 (max l NM) f (ad_ f (mirror (ee f) 0 m ((m-0) / 2))):=λl=>(q _).set (mirror_perm _ _ _ _) λk X=>by rw[C k,dV #[0]]
  have r:OJ kf (ee (ad_ f (mirror (ee f) 0 m ((m-0) / 2)))) 0 m:=by
   have F:∀ k,k<m->KX kf (ee (ad_ f (mirror (ee f) 0 m ((m-0) / 2)))) k=KX kf (ee f) (m-1-k):=λk z=>by have:=C k;rw[dm ⟨Tp _,z⟩] at this;exact wC (by rw[mi] at this;exact this)
   intro i j a1 a2 R;rw[F i #[0],F j R];by_cases e:i=j
   ·subst e;exact I3 _
   exact NF (p (m-1-j) (m-1-i) #[0] #[0])
  generalize ad_ f (mirror (ee f) 0 m ((m-0) / 2))=O8 at v r ⊢
  refine gj (U6 (Pr (I:=λx c o=>o=O8/\c=(ay,x)/\OJ kf (ee O8) 0 x)
   (Q:=λc o=>o=O8/\∃ n,c=(ay,n)/\2<=n/\n<=NM/\OJ kf (ee O8) 0 n) ?_ ?_ ⟨rfl,rfl,r⟩) ?_)
  ·rintro x c o t B ⟨rfl,rfl,g⟩
   try rw[0]
   refine gj (cX L (v 0) #[0] #[0] ?_);rw[mi];cases Vu:O.blt (KX kf (ee o) x) (KX kf (ee o) (x-1)) with
   |true=>exact lb ⟨rfl,x,rfl,#[1],#[1],g⟩
   |false=>exact lb ⟨rfl,rfl,wp g #[0] Vu⟩
  ·rintro c o ⟨rfl,rfl,g⟩;exact⟨rfl,_,rfl,#[1],#[1],g⟩
  rintro c o ⟨rfl,P,rfl,J,M,S⟩;exact lb (h P o v J M S)
theorem qt (L:mY prog w A E s kd O kf G){st:m7}{Q:ab9->m7->Prop}(P:kindOf st=kd)(H:∀ x∈(ee st).toList,G x)(N:H4 st=ay)(p:n0 st = #[])(n2 : 2<=(ee st).size)(M:(ee st).size<64)
  (hd:∀ i j,i<j->j<(ee st).size->KX kf (ee st) i≠KX kf (ee st) j)
  (h:∀ a,(ee a).Perm (ee st)->H4 a=ay->OJ kf (ee a) 0 (ee st).size->Q () a):wpS #[4] A E s mB Q st:=by
 refine gj (WI ?_);rw[0]
 refine gj (U6 (Pr (I:=λx c a=>x=0/\c=(ay,0)/\a=st∨0<x/\c=(ay,(ee st).size)/\(ee a).Perm (ee st)/\H4 a=ay/\OJ kf (ee a) 0 (ee st).size/\(n0 a).size<=1)
   (Q:=λc a=>c=(ay,(ee st).size)/\(ee a).Perm (ee st)/\H4 a=ay/\OJ kf (ee a) 0 (ee st).size/\(n0 a).size<=1) ?s1 ?f1 (.inl ⟨rfl,rfl,rfl⟩)) ?p1)
 case f1 =>
  rintro c a (⟨B,_⟩ |⟨_,f⟩)
  ·have B:max 0 (ee st).size=0:=B;omega
  exact f
 case p1 =>
  rintro c a ⟨rfl,a1,a2,q,o⟩;rw[0];refine gj (jO (show 0<(ee st).size by omega) ?_);refine gj (WI ?_);rw[show (sortPriv% PySem.Builtin.SortState.pending) a=n0 a from rfl,dm o];exact lb (lb (h a a1 a2 q))
 case s1 =>
  rintro x c a _ S (⟨rfl,rfl,rfl⟩ |⟨_,rfl,a1,a2,q,o⟩)
  ·rw[0];rw[dV #[0]];rw[show (ee a).size-0=(ee a).size from rfl];refine gj (qu L P H n2 hd λn e F C J l=>?_);rw[0]
   have u:ii (ee a).size (ee a).size 0=(ee a).size:=by
    cases hsz:(ee a).size with
    |zero=>omega
    |succ k=>exact dm #[0]
   have r:Sg G kd 0 (0+(ee a).size) a e:=by have:=F 0;rw[Nat.max_eq_right (Tp _)] at this;simpa using this
   have done:∀ (b:m7) (n:Nat),n=(ee a).size->Sg G kd 0 (0+n) a b->OJ kf (ee b) 0 n->∀ d,ee d=ee b->H4 d=H4 b->n0 d=(n0 b).push (0,n,0)->0<0+1/\((ay:a9 ab9),0+n)=(ay,(ee a).size)/\(ee d).Perm (ee a)/\H4 d=ay/\OJ kf (ee d) 0 (ee a).size/\(n0 d).size<=1:=λb n y g l d t K D=>by refine⟨#[1],by rw[y,mi],by rw[t];exact g.perm,by rw[K,g.fail];exact N,by rw[t,← y];exact l,by rw[D,g.pend,p];exact hB _⟩
   by_cases f:n<ii (ee a).size (ee a).size 0
   ·rw[dm f];refine gj (abM (OL ⟨rfl,?_⟩));have m:Zu (ee a).size (ii (ee a).size (ee a).size 0)=(ee a).size:=by rw[u];omega
    refine gj (nu (n:=Zu (ee a).size (ii (ee a).size (ee a).size 0)) L (by rw[m];exact r) (by rw[m];omega) (by rw[m];exact J) (by rw[mi];exact l) λb v R=>?_);rw[dV #[2]];refine gj (WI ?_);have hb:(n0 b).back?=ay:=by rw[v.pend,p];rfl
    rw[show (sortPriv% PySem.Builtin.SortState.pending) b=n0 b from rfl,hb];rw[0];exact gj (WZ (lb (.inr (done b _ m v (by simpa using R) _ rfl rfl rfl))))
   rw[dV f];refine gj (WI ?_);have hb:(n0 e).back?=ay:=by rw[r.pend,p];rfl
   rw[show (sortPriv% PySem.Builtin.SortState.pending) e=n0 e from rfl,hb];rw[0];have z:n=(ee a).size:=by rw[u] at f;omega
   exact gj (WZ (lb (.inr (done e n z (by rw[z];exact r) l _ rfl rfl rfl))))
  rw[0];rw[dm (hB _)];exact lb ⟨rfl,a1,a2,q,o⟩
end
def uw (prog:fh)(w:il)(e:cv)(vs:ak ax)(O:xa)(kf:ax->O.α):Prop:=∃ c:T8,∀ (A:jl) (E:Lm) (a:cv),A.units+8<vu->(∀ b o,e.heap.get? b=ag o->a.heap.get? b=ag o) ->
 (2<=vs.length->∀ d:T8->cv->Prop,d c a->ew #[4] A (adY vs.toArray) d E a)/\mY prog w A E a c O kf (λp=>p.1∈vs)
theorem iX:∀ {vs:ak ax}{p:ax×ax},p∈vs.zip vs->p.1=p.2/\p.1∈vs
 |[],_,h=>by simp at h
 |v::vs,p,h=>by
  rw[aav] at h;rcases f5.mp h with e |h
  ·subst e;exact⟨rfl,by simp⟩
  obtain⟨a,b⟩:=iX h;exact⟨a,eJ _ b⟩
theorem sK:∀ (vs:ak ax),(vs.zip vs).map (·.2)=vs
 |[]=>rfl
 |v::vs=>by rw[aav,hH,sK vs]
section
variable {prog:fh}{w:il}{A:jl}{E:Lm}{s:cv}{O:xa}{kf:ax->O.α}
theorem yW {vs:ak ax}{xs:ib oe}(f:xs.Perm (Xk vs))(m:OJ kf xs 0 (Xk vs).size):(xs.map (·.2)).toList.Perm vs/\(xs.map (·.2)).toList.Pairwise λa b=>O.kle (kf a) (kf b):=by
 have c:=VX.mp f;rw[abR] at c;refine⟨?_,?_⟩
 ·have:=c.map (·.2);rw[sK] at this;rw[adm];exact this
 rw[adm,H8,K3];intro i j g h n;have e:i<xs.size:=by simpa using g
 have d:j<xs.size:=by simpa using h
 have q:=m i j (Tp _) (K5 n) (by rw[← f.size_eq];exact d);rw[nS e,nS d] at q;have k:=(iX (c.mem_iff.mp (J8 e))).1;have l:=(iX (c.mem_iff.mp (J8 d))).1;rw[k,l] at q;simpa using q
def ux (prog:fh)(w:il)(O:xa)(kf:ax->O.α)(vs:ak ax):Prop:=∀ (A:jl) (E:Lm) (s:cv) (b:T8) (G:oe->Prop),mY prog w A E s b O kf G->∀ (st:m7) (Q:ab9->m7->Prop),
 kindOf st=b->(∀ x∈(ee st).toList,G x)->H4 st=ay->n0 st = #[]->2<=VU st->ee st=Xk vs->(∀ a,(ee a).Perm (ee st)->H4 a=ay->OJ kf (ee a) 0 (ee st).size->Q () a)->wpS #[4] A E s mB Q st
theorem pH (vs:ak ax):g6 kf (Xk vs)=vs.map kf:=by unfold g6;rw[abR];exact(y2 λp a=>by rw[(iX a).1];rfl).trans ((mx (g:=kf) (f:=λp:ax×ax=>p.2)).symm.trans (by rw[sK]))
theorem nE {vs:ak ax}(c : 2<=vs.length)(m:vs.length<64)(hd:(vs.map kf).Nodup):ux prog w O kf vs:=λA E s q G L st Q a1 a2 g f r a h=>by
 have l:(ee st).size=vs.length:=by rw[a,aa9]
 refine qt L a1 a2 g f #[0] #[0] (λi j p n=>?_) h
 have e:∀ k,k<vs.length->(vs.map kf)[k]?=ag (KX kf (ee st) k):=λk o=>by
  have d:(g6 kf (ee st))[k]?=(vs.map kf)[k]?:=by rw[a,pH]
  rw[← d,bc (by unfold g6;rw[d7,ky];omega)];exact zc ag (Ag (bc _)).symm
 intro z;have b:=e i #[0];have c:=e j #[0];rw[z,← c] at b;exact ku ((aa3 (by rw[d7];omega) hd).mp b) #[0]
theorem Az {vs:ak ax}(e : 2<=vs.length)(sp:Spec O.blt (vs.map kf)):ux prog w O kf vs:=by
 rcases sp with ⟨h,nd⟩ |sp
 ·exact nE e (by rw[d7] at h;exact h) nd
 exact λA E s f G L st Q a1 a2 c b d a h=>qr L a1 a2 c b d (by rw[a,pH];exact sp) h
theorem vA {a:cn}{vs:ak ax}{n:Nat}{P:Fin->cv->Prop}{m:cv}(g:s.heap.get? a=ag (VN "list" vs.toArray n))(C:vs.length<=d4)(t:A.units+8<vu)(k : 2<=vs.length->uw prog w m vs O kf/\ux prog w O kf vs)(I:∀ b o,m.heap.get? b=ag o->b≠a/\#[18]=ag o)
  (h:∀ out:ib ax,out.toList.Perm vs->(out.toList.Pairwise λa b=>O.kle (kf a) (kf b))->P (.done (.ret .none)) { s with heap:=sortedHeap s.heap a vs out }) :
  ew #[4] A (Builtin.«list.sort» ⟨[.ref a],[]⟩) P E s:=by
 have M:a<s.heap.objs.size:=eM g;have B:vs.toArray.size<=d4:=by simpa using C
 rw[list_sort_plain];refine av (Wa g rfl ?_);refine av (acr g rfl ?_ (hsz:=B));have q:=get?_update_seq g (λ_ => #[]);refine av (adB q rfl ?_);refine av (abH ?_);refine av (aar ?_);refine A2 ?_;generalize N:(if (#[]:ib ax).size==vs.toArray.size then n else n+1)=e1 at q;have z:∀ b o,m.heap.get? b=ag o->(((s.heap.update a (SJ λ_ => #[])).push (VN "tuple" vs.toArray 0)).push (VN "list" #[] 0)).get? b=ag o:=by intro b o D;obtain⟨H,l⟩:=I b o D;refine cc _ (cc _ ?_);rw[Heap.get?_update_ne _ _ _ _ H];exact l
 have f:(((s.heap.update a (SJ λ_ => #[])).push (VN "tuple" vs.toArray 0)).push (VN "list" #[] 0)).get? a=ag (VN "list" #[] e1):=cc _ (cc _ q);show ew #[4] A _ P E { s with heap:=((s.heap.update a (SJ λ_ => #[])).push (VN "tuple" vs.toArray 0)).push (VN "list" #[] 0) };rw[0];by_cases c:vs.toArray.size<2
 ·rw[dm c,dm c];refine av (bo ?_);rw[StateT.run_pure];refine av (bo ?_);rw[0];refine av (adB f rfl ?_);refine av (acr f rfl ?_ (hsz2:=by rw[size_map];show (Xk vs).size<=_;rw[aa9];omega));simp only[aaj,lg,r3]
  obtain⟨o1,o2⟩:=yW (kf:=kf) (vs:=vs) (xs:=Xk vs) (Y1 _) (λi j a1 a2 p=>by
   have:i=j:=by rw[aa9] at p;simp at c;omega
   subst this;exact I3 _)
  exact bo (h _ o1 o2)
 rw[dV c,dV c];have r : 2<=vs.length:=by simp at c;omega
 obtain⟨⟨y,k⟩,J⟩:=k r;refine av ((k A _ _ t z).1 r _ ?_)
 refine av (yk (J A _ _ y _ (k A _ _ t z).2 (SortSt.mk' y (vs.toArray.zip vs.toArray) #[] 7 ay) (λ_ d=>(ee d).Perm (Xk vs)/\H4 d=ay/\OJ kf (ee d) 0 (Xk vs).size)
  rfl (λx F=>?_) rfl rfl (show 2<=7 by decide) rfl λd a1 a2 p=>⟨a1,a2,p⟩) ?_ λ_ _ e=>e)
 ·have v:x∈(Xk vs).toList:=F;rw[abR] at v;exact(iX v).2
 rintro⟨⟨⟩,d⟩ L ⟨rfl,u,G,K⟩;rw[0];obtain⟨o1,o2⟩:=yW u K;refine av (adB f rfl ?_);refine av (acr f rfl ?_ (hsz2:=by refine hA (acU ((size_map ..).trans (u.size_eq.trans (aa9 _)))) ?_;omega));rw[G];simp only[aaj,lg,r3];exact bo (h _ o1 o2)
theorem yL {x:ax}{Q:Lm}(k:A.units+20<vu)
  (h:ew #[4] A.in1 (collect x) (λvs c=>vs.length<=d4/\∃ (O:xa) (kf:ax->O.α),(2<=vs.length->uw prog w c vs O kf/\ux prog w O kf vs) /\
   ∀ (out:ib ax) h' ep,out.toList.Perm vs->(out.toList.Pairwise λa b=>O.kle (kf a) (kf b))->(∀ b o,c.heap.get? b=ag o->h'.get? b=ag o)->h'.get? c.heap.objs.size=ag (VN "list" out ep) ->
    Q (.ref c.heap.objs.size) { c with heap:=h' }) E s):ew #[4] A (call (.builtin "sorted") [x]) Q E s:=by
 refine Wj ady acX acY (acZ _) ?_;unfold Builtin.«sorted»;refine av (m:=adZ "sorted" 1 1 _) (bo ?_);refine av (yk h (λvs c i=>?_) λ_ _ z=>z);obtain⟨g,O,kf,j,q⟩:=i;refine av (aar ?_);have d:(c.heap.push (VN "list" vs.toArray 0)).get? c.heap.objs.size=ag (VN "list" vs.toArray 0):=e8 _ rfl;refine av (A2 (mm abC ⟨_,d,rfl⟩ abd (vA d g (by show A.units+1+1+8<vu;omega) j (λb o e=>⟨nq (eM e),cc _ e⟩) λout a1 a2=>⟨_,rfl,?_⟩) (abD _)));obtain⟨ep,f⟩:=acp (out:=out) d
 exact bo ⟨_,rfl,q out _ ep a1 a2 (λb o e=>by
  rw[abE (nq (eM e)) (by rw[ad0];exact U8 (eM e))]
  exact cc _ e) f⟩
end
structure T9 where
 O:xa
 keyOf:ax->a9 O.α
 dflt:O.α
 ty:W7
 nt:(xb ty != xb "tuple")=ba
 typ:∀ v a,keyOf v=ag a->typeOf v=y8 (.type ty)
 fst:∀ v a,keyOf v=ag a->X_ v=y8 ay
 eqB:∀ {prog:fh}{w:il}{A:jl}{E:Lm}{s:cv}{x y:ax}{a b:O.α}{Q:fg->cv->Prop},keyOf x=ag a->keyOf y=ag b->Q (!O.blt a b&&!O.blt b a) s->ew (e9 prog w) A (eqBool x y) Q E s
 lt:∀ {prog:fh}{w:il}{A:jl}{E:Lm}{s:cv}{x y:ax}{a b:O.α}{Q:fg->cv->Prop}(o:fg),keyOf x=ag a->keyOf y=ag b->Q (O.blt a b) s->ew (e9 prog w) A (oneLt' o x y) Q E s
noncomputable def Ni:xa where
 α:=Int
 blt a b:=dv (a<b)
 irrefl a:=by simp
 trans a b c h1 h2:=by simp only[sX] at *;omega
 negTrans a b c h:=by simp only[sX] at *;omega
 total a b h1 h2:=by simp only[aaH] at *;omega
theorem Fj (i j:Int):(i==j)=(!dv (i<j)&&!dv (j<i)):=by
 by_cases a:i=j
 ·subst a;simp
 have:i<j∨j<i:=#[1]
 rcases this with h1 |h1<;>simp[a,h1]
theorem Ec (i j:eG):dv (i=j)=(!dv (i.cps.toList<j.cps.toList)&&!dv (j.cps.toList<i.cps.toList)):=by
 by_cases a:i=j
 ·subst a;have:=aeg i.cps.toList;simp[this]
 have ne:i.cps.toList≠j.cps.toList:=λz=>a (by
  cases i;cases j;have:=aa2.mp z;simp only at this
  rw[this])
 rw[eh a];by_cases b:i.cps.toList<j.cps.toList
 ·simp[b]
 by_cases c:j.cps.toList<i.cps.toList
 ·simp[c]
 exact ku (adh (not_lt.mp c) (not_lt.mp b)) ne
noncomputable def IN (v:ax):a9 Int:=match v with | .int i _=>ag i |_=>ay
noncomputable def IM (v:ax):a9 (ak Nat):=match v with | .str x _=>ag x.cps.toList |_=>ay
theorem jL {v:ax}{i:Int}(h:IN v=ag i):∃ t,v = .int i t:=by
 cases v<;>first |(cases h;done) |skip
 cases h;exact⟨_,rfl⟩
theorem jK {v:ax}{i:ak Nat}(h:IM v=ag i):∃ x t,v = .str x t/\i=x.cps.toList:=by
 cases v<;>first |(cases h;done) |skip
 cases h;exact⟨_,_,rfl,rfl⟩
noncomputable def OM:T9 where
 O:=Ni
 keyOf:=IN
 dflt:=(0:Int)
 ty:="int"
 nt:=#[6]
 typ v a h:=by obtain⟨t,rfl⟩:=jL h;rfl
 fst v a h:=by obtain⟨t,rfl⟩:=jL h;rfl
 eqB {prog w A E s x y a b Q} ha hb h:=by
  obtain⟨t,rfl⟩:=jL ha;obtain⟨u,rfl⟩:=jL hb;exact Xv (Eq.mpr (zc (λz=>Q z s) (Fj a b)) h)
 lt {prog w A E s x y a b Q} o ha hb h:=by
  obtain⟨t,rfl⟩:=jL ha;obtain⟨u,rfl⟩:=jL hb;cases o with
  |true=>exact oneLt_int h
  |false =>
   rw[oneLt'_eq];simp only[lg,r3];exact av (show ew _ _ (qa .Lt (.int _ t) (.int _ u)) _ _ _ from aer (Qs h))
noncomputable def ON:T9 where
 O:=PyProof.Rows.strKind.toKeyOrd
 keyOf:=IM
 dflt:=([]:ak Nat)
 ty:="str"
 nt:=#[6]
 typ v a h:=by obtain⟨x,t,rfl,_⟩:=jK h;rfl
 fst v a h:=by obtain⟨x,t,rfl,_⟩:=jK h;rfl
 eqB {prog w A E s x y a b Q} ha hb h:=by
  obtain⟨d,t,rfl,rfl⟩:=jK ha;obtain⟨c,u,rfl,rfl⟩:=jK hb;exact wpAny_eqBool_str (by rw[Ec];exact h)
 lt {prog w A E s x y a b Q} o ha hb h:=by
  obtain⟨d,t,rfl,rfl⟩:=jK ha;obtain⟨c,u,rfl,rfl⟩:=jK hb;cases o with
  |true=>exact oneLt_str h
  |false =>
   rw[oneLt'_eq];simp only[lg,r3];exact av (show ew _ _ (qa .Lt (.str d t) (.str c u)) _ _ _ from abj (Qs h))
noncomputable def de (O:xa):ak O.α->ak O.α->fg
 |[],[]=>b0
 |[],_::_=>ba
 |_::_,[]=>b0
 |a::as,b::bs=>if (!O.blt a b&&!O.blt b a)=ba then de O as bs else O.blt a b
theorem rZ {O:xa}{a b:O.α}(h:(!O.blt a b&&!O.blt b a)=ba):a=b:=by rw[mc] at h;exact O.total _ _ (by simpa using h.1) (by simpa using h.2)
theorem vg {O:xa}(a:O.α):(!O.blt a a&&!O.blt a a)=ba:=by rw[O.irrefl];rfl
theorem cy {O:xa}(a:O.α)(as bs:ak O.α):de O (a::as) (a::bs)=de O as bs:=by rw[de,dm (vg a)]
theorem bR {O:xa}{a b:O.α}(as bs:ak O.α)(h:a≠b):de O (a::as) (b::bs)=O.blt a b:=by rw[de,dV (λz=>h (rZ z))]
theorem AX {O:xa}{a b:O.α}(h:O.blt a b=ba):a≠b:=λz=>by subst z;rw[O.irrefl] at h;cases h
noncomputable def n6 (O:xa):xa where
 α:=ak O.α
 blt:=de O
 irrefl a:=by
  induction a with
  |nil=>rfl
  |cons x a j=>rw[cy];exact j
 trans a:=by
  induction a with
  |nil =>
   intro b c f d;cases b with
   |nil=>cases f
   |cons y b=>cases c with
    |nil=>cases d
    |cons z c=>rfl
  |cons x a j =>
   intro b c f d;cases b with
   |nil=>cases f
   |cons y b=>cases c with
    |nil=>cases d
    |cons z c =>
     by_cases i:x=y
     ·subst i;rw[cy] at f;by_cases g:x=z
      ·subst g;rw[cy] at d ⊢;exact j b c f d
      rw[bR _ _ g] at d ⊢;exact d
     rw[bR _ _ i] at f;by_cases g:y=z
     ·subst g;rw[bR _ _ i];exact f
     rw[bR _ _ g] at d;have l:=O.trans _ _ _ f d;rw[bR _ _ (AX l)];exact l
 negTrans a:=by
  induction a with
  |nil =>
   intro b c h;cases c with
   |nil=>cases h
   |cons z c=>cases b with
    |nil=>exact .inr rfl
    |cons y b=>exact #[9]
  |cons x a j =>
   intro b c h;cases c with
   |nil=>cases h
   |cons z c=>cases b with
    |nil=>exact .inr rfl
    |cons y b =>
     by_cases i:x=z
     ·subst i;rw[cy] at h;by_cases g:x=y
      ·subst g;rw[cy,cy];exact j b c h
      rw[bR _ _ g,bR _ _ (lC g)];cases f:O.blt x y with
      |true=>exact #[9]
      |false=>cases d:O.blt y x with
       |true=>exact .inr rfl
       |false=>exact ku (O.total _ _ f d) g
     rw[bR _ _ i] at h;by_cases g:x=y
     ·subst g;rw[bR _ _ i];exact .inr h
     by_cases k:y=z
     ·subst k;rw[bR _ _ g];exact .inl h
     rw[bR _ _ g,bR _ _ k];exact O.negTrans _ _ _ h
 total a:=by
  induction a with
  |nil =>
   intro b f d;cases b with
   |nil=>rfl
   |cons y b=>cases f
  |cons x a j =>
   intro b f d;cases b with
   |nil=>cases d
   |cons y b =>
    by_cases e:x=y
    ·subst e;rw[cy] at f d;rw[j b f d]
    rw[bR _ _ e] at f;rw[bR _ _ (lC e)] at d;exact ku (O.total _ _ f d) e
inductive KeysAre (κ:T9):ak ax->ak κ.O.α->Prop
 |nil:KeysAre κ [] []
 |cons {v:ax}{a : κ.O.α}{vs:ak ax}{as:ak κ.O.α} : κ.keyOf v=ag a->KeysAre κ vs as->KeysAre κ (v::vs) (a::as)
def Pa (b:T9)(h:kx)(v:ax)(as:ak b.O.α):Prop:=∃ a o its n,v = .ref a/\h.get? a=ag o/\o.cls = .type "tuple"/\o.data = .seq its n/\KeysAre b its.toList as
theorem Pa.keeps {c:T9}{h h':kx}{v:ax}{as:ak c.O.α}(t:Pa c h v as)(k:∀ b o,h.get? b=ag o->h'.get? b=ag o):Pa c h' v as:=by obtain⟨a,o,its,n,e,f,hc,hd,d⟩:=t;exact⟨a,o,its,n,e,k _ _ f,hc,hd,d⟩
section
variable {prog:fh}{w:il}{A:jl}{E:Lm}{s:cv}{κ:T9}
theorem sL {f:fg}{x y:ax}{as bs:ak κ.O.α}{Q:fg->cv->Prop}(N:Pa κ s.heap x as)(U:Pa κ s.heap y bs)(q:Q (de κ.O as bs) s):ew #[4] A (keyLt' (ab6 f) x y) Q E s:=by
 obtain⟨a,o,D,n,rfl,M,hc,hd,X⟩:=N;obtain⟨b,o2,G,n2,rfl,P,Qr,F,C⟩:=U;refine av (Wa M hd ?_);refine av (Wa P F ?_);refine av ?_;refine VZ _ (λrest r z=>r.1=ay/\z=s/\∃ k g j m t,rest=(abJ g j).zipIdx k/\KeysAre κ g m/\KeysAre κ j t/\de κ.O m t=de κ.O as bs/\dv (g.length<j.length)=dv (D.size<G.size)) _ ?_ ?_ _ _ ⟨rfl,rfl,0,D.toList,G.toList,as,bs,rfl,X,C,rfl,by simp⟩
 ·rintro⟨⟨u,v⟩,i⟩ rest r z ⟨hr,rfl,k,g,j,m,t,d,H,B,h,c⟩;cases H with
  |nil=>simp at d
  | @cons u' l W R I L =>
   cases B with
   |nil=>simp at d
   | @cons Z p K T J S =>
    rw[aav,abK] at d;simp only[OH,X4] at d;obtain⟨⟨⟨rfl,rfl⟩,rfl⟩,rfl⟩:=d;refine av (κ.eqB I J ?_);by_cases e:l=p
    ·subst e;rw[vg];simp only[RT,lg,r3];rw[cy] at h;exact bo ⟨rfl,rfl,i+1,W,K,R,T,rfl,L,S,h,by rw[← c];simp⟩
    have V:(!κ.O.blt l p&&!κ.O.blt p l)=b0:=by
     cases hb:(!κ.O.blt l p&&!κ.O.blt p l) with
     |false=>rfl
     |true=>exact ku (rZ hb) e
    rw[V];simp only[abS,n7];rw[bR _ _ e] at h;refine av (κ.lt _ I J ?_);rw[h];exact bo (bo q)
 rintro⟨r1,Y⟩ z ⟨hr,rfl,k,g,j,m,t,d,H,B,h,c⟩;simp only at hr;subst hr;refine bo ?_;show Q (dv (D.size<G.size)) z;rw[← c]
 have e:dv (g.length<j.length)=de κ.O m t:=by
  cases H with
  |nil=>cases B with
   |nil=>rfl
   |cons _ _=>simp[de]
  |cons _ _=>cases B with
   |nil=>simp[de]
   |cons _ _=>simp at d
 rw[e,h];exact q
theorem C7:∀ {vs:ak ax}{as:ak κ.O.α},KeysAre κ vs as->vs.mapM X_=y8 (vs.map λ_=>ay)
 |_,_,.nil=>by simp
 |_,_,.cons h r=>by rw[ab7,κ.fst _ _ h,C7 r];simp
theorem vy:∀ {vs:ak ax}{as:ak κ.O.α},KeysAre κ vs as->vs.mapM typeOf=y8 (vs.map λ_=>xb κ.ty)
 |_,_,.nil=>by simp
 |_,_,.cons h r=>by rw[ab7,κ.typ _ _ h,vy r];simp
theorem IB {vs:ak ax}{as:ak κ.O.α}(h:KeysAre κ vs as)(b : 0<vs.length):oneTypeOnly' vs.toArray=y8 (ag (.type κ.ty)):=by
 rw[oneTypeOnly'_eq,aa_,vy h];simp only[map_pure,pure_bind];have a:((abT (λ_=>xb κ.ty) vs).toArray.all λx=>x==xb κ.ty)=ba:=by simp only[adn,List.all_map,UN];intro _ _;simp
 have c:(abT (λ_=>xb κ.ty) vs).toArray[0]?=ag (xb κ.ty):=by
  cases vs with
  |nil=>simp at b
  |cons v vs=>simp
 rw[c];simp only[a,n7]
inductive Mb (κ:T9) (h:kx):ak ax->ak (ak κ.O.α)->Prop
 |nil:Mb κ h [] []
 |cons {v:ax}{a : κ.O.α}{as:ak κ.O.α}{vs:ak ax}{Rl:ak (ak κ.O.α)}:Pa κ h v (a::as)->Mb κ h vs Rl->Mb κ h (v::vs) ((a::as)::Rl)
theorem Mb.keeps {h h':kx}{vs:ak ax}{a:ak (ak κ.O.α)}(t:Mb κ h vs a)(k:∀ b o,h.get? b=ag o->h'.get? b=ag o):Mb κ h' vs a:=by
 induction t with
 |nil=>exact .nil
 |cons q _ c=>exact .cons (q.keeps k) c
theorem Mb.mem {h:kx}{vs:ak ax}{b:ak (ak κ.O.α)}(t:Mb κ h vs b){v:ax}(hv:v∈vs):∃ as,Pa κ h v as:=by
 induction t with
 |nil=>simp at hv
 |cons q _ a =>
  rcases f5.mp hv with e |hv
  ·subst e;exact⟨_,q⟩
  exact a hv
theorem Bn {v:ax}{a : κ.O.α}{as:ak κ.O.α}{Q:a9 ax->cv->Prop}(t:Pa κ s.heap v (a::as))(q:∀ u,κ.keyOf u=ag a->Q (ag u) s):ew #[4] A (X_ v) Q E s:=by
 obtain⟨b,o,its,n,rfl,c,hc,hd,d⟩:=t;generalize f:its.toList=l at d;cases d with
 | @cons u _ g _ k r =>
  refine av (Xg ⟨o,c,hc⟩ ?_);rw[dV #[2]];refine av (Wa c hd (bo ?_));have e:its[0]?=ag u:=by rw[← TR,f];rfl
  rw[e];exact q u k
theorem A5 {vs:ak ax}{e:ak (ak κ.O.α)}(t:Mb κ s.heap vs e):∀ {Q:ak (a9 ax)->cv->Prop},(∀ us as,KeysAre κ us as->us.length=vs.length->Q (us.map ag) s)->ew #[4] A (vs.mapM X_) Q E s:=by
 induction t with
 |nil=>intro Q q;exact bo (q [] [] .nil rfl)
 |cons h _ b =>
  intro Q q;rw[ab7];refine av (Bn h λu a=>av (b λus as d c=>bo ?_));exact q (u::us) (_::as) (.cons a d) (by simp[c])
theorem filterMap_some:∀ (us:ak ax),((us.map ag).toArray.filterMap id)=us.toArray:=by
 intro us;rw[List.filterMap_toArray];congr 1
 induction us with
 |nil=>rfl
 |cons u us a=>simp[a]
theorem Ba {vs:ak ax}{c:ak (ak κ.O.α)}(t:Mb κ s.heap vs c)(f : 0<vs.length){Q:T8->cv->Prop}(q:Q (ab6 ba) s):ew #[4] A (adY vs.toArray) Q E s:=by
 rw[keyKind'_eq,aa_];refine av (av (A5 t λa d b g=>bo ?_));have e:((a.map ag).toArray.all λx=>x.isSome)=ba:=by simp
 show ew _ _ (if ((a.map ag).toArray.all λx=>x.isSome)=ba then _ else _) _ _ _;rw[dm e];refine av (OL ?_);rw[filterMap_some,IB b #[0]];refine av (bo (bo ?_));show Q (ab6 (xb κ.ty != xb "tuple")) s;rw[κ.nt];exact q
noncomputable def Vv (κ:T9)(h:kx)(v:ax):ak κ.O.α:=match v with
 | .ref a=>(match h.get? a with
  |ag o=>(match o.data with
   | .seq its _=>its.toList.map λu=>(κ.keyOf u).getD κ.dflt
   |_=>[])
  |ay=>[])
 |_=>[]
theorem KeysAre.Tt {vs:ak ax}{as:ak κ.O.α}(h:KeysAre κ vs as):vs.map (λu=>(κ.keyOf u).getD κ.dflt)=as:=by
 induction h with
 |nil=>rfl
 |cons k _ a=>rw[hH,k,a];rfl
theorem xO {h:kx}{v:ax}{as:ak κ.O.α}(t:Pa κ h v as):Vv κ h v=as:=by obtain⟨b,o,its,n,rfl,c,hc,hd,a⟩:=t;unfold Vv;rw[0];rw[c];rw[0];rw[hd];exact a.Tt
theorem uP {a:cv}{vs:ak ax}{d:ak (ak κ.O.α)}(t:Mb κ a.heap vs d):uw prog w a vs (n6 κ.O) (Vv κ a.heap):=by refine⟨ab6 ba,λA E i j k=>⟨λm l q=>Ba (t.keeps k) #[0] q,λx y f g st Q e q=>?_⟩⟩;obtain⟨h,c⟩:=t.mem f;obtain⟨bs,b⟩:=t.mem g;rw[xO c,xO b] at q;rw[lt'_eq];refine gj (WI ?_);rw[e];exact gj (abM (X5 (sL (c.keeps k) (b.keeps k) ⟨rfl,lb q⟩)))
end
noncomputable def Fd (a b:eG):fg:=dv (a.cps.toList<b.cps.toList)
noncomputable def Nb:ak eG->ak eG->fg
 |[],[]=>b0
 |[],_::_=>ba
 |_::_,[]=>b0
 |a::as,b::bs=>if a=b then Nb as bs else Fd a b
theorem str_inj {a b:eG}(h:a.cps.toList=b.cps.toList):a=b:=by cases a;cases b;have:=aa2.mp h;simp only at this;rw[this]
theorem im:∀ as bs:ak eG,de ON.O (as.map λx=>x.cps.toList) (bs.map λx=>x.cps.toList)=Nb as bs
 |[],[]=>rfl
 |[],_::_=>rfl
 |_::_,[]=>rfl
 |a::as,b::bs=>by
  rw[Nb];by_cases e:a=b
  ·subst e;rw[dm rfl];exact(cy (O:=ON.O) _ _ _).trans (im as bs)
  rw[dV e];exact bR (O:=ON.O) _ _ λz=>e (str_inj z)
theorem vx:∀ {as bs:ak eG},as.map (λx=>x.cps.toList)=bs.map (λx=>x.cps.toList)->as=bs
 |[],[],_=>rfl
 |[],_::_,h=>by cases h
 |_::_,[],h=>by cases h
 |a::as,b::bs,h=>by
  simp only[hH,OH] at h;rw[str_inj h.1,vx h.2]
noncomputable def Tu:xa where
 α:=ak eG
 blt:=Nb
 irrefl a:=by rw[← im];exact(n6 ON.O).irrefl _
 trans a b c h1 h2:=by rw[← im] at *;exact(n6 ON.O).trans _ _ _ h1 h2
 negTrans a b c h:=by rw[← im] at h;rw[← im a b,← im b c];exact(n6 ON.O).negTrans _ _ _ h
 total a b h1 h2:=by rw[← im] at h1 h2;exact vx ((n6 ON.O).total _ _ h1 h2)
section
variable {prog:fh}{w:il}{A:jl}{E:Lm}{s:cv}
theorem T_ {x:eG}{v:ax}(h:(ro prog w).is x v=ba):∃ t,v = .str x t:=ab8 h
theorem qw {x y:ak eG}{a b:cn}{P:Fin->cv->Prop}(Q:Up (ro prog w) s.heap x a)(I:Up (ro prog w) s.heap y b)(h:P (.done (.ret (.bool (Nb x y)))) s) :
  ew #[4] A (Builtin.«tuple.__lt__» ⟨[.ref a,.ref b],[]⟩) P E s:=by
 have H:=I.typeIs;obtain⟨V,z,W,t,_,L,F⟩:=Q;obtain⟨ob,G,nb,O,_,S,B⟩:=I;show ew _ _ (isInstance (.ref b) (.type "tuple") >>= _) _ _ s;refine av (V0 H abh ?_);simp only[RT,lg,r3];refine av (WK t L (av (WK O S (av ?_))))
 refine VZ _
  (λrest r j=>r.1=ay/\j=s/\∃ l k f i,rest=abJ f i/\ItemsAre (ro prog w) l f/\ItemsAre (ro prog w) k i/\Nb l k=Nb x y/\dv (f.length<i.length)=dv (z.size<G.size))
  _ ?_ ?_ _ _ ⟨rfl,rfl,x,y,z.toList,G.toList,rfl,F,B,rfl,by simp⟩
 ·rintro⟨u,v⟩ rest r j ⟨hr,rfl,l,k,f,i,g,D,n,d,c⟩;cases D with
  |nil=>simp at g
  | @cons m Y q T J N =>
   cases n with
   |nil=>simp at g
   | @cons p X C M K R =>
    simp only[aav,OH,X4] at g;obtain⟨⟨rfl,rfl⟩,rfl⟩:=g;refine av ((ro prog w).eqBool (a:=m) (b:=p) J K ?_);rw[Nb] at d;by_cases o:m=p
    ·rw[ia o];rw[dm o] at d;simp only[RT,lg,r3];exact bo ⟨rfl,rfl,q,C,T,M,rfl,N,R,d,by simpa using c⟩
    rw[eh o];rw[dV o] at d;simp only[abS,n7];obtain⟨t1,rfl⟩:=T_ J;obtain⟨t2,rfl⟩:=T_ K;refine av (OL (av (show ew _ _ (qa .Lt (.str m t1) (.str p t2)) _ _ _ from abj ?_)));refine av (bo (bo (bo ?_)));show P (.done (.ret (.bool (Fd m p)))) j;rw[d];exact h
 rintro⟨Z,U⟩ j ⟨hr,rfl,l,k,f,i,g,D,n,d,c⟩;simp only at hr;subst hr;refine bo ?_;show P (.done (.ret (.bool (dv (z.size<G.size))))) j;rw[← c]
 have e:dv (f.length<i.length)=Nb l k:=by
  cases D with
  |nil=>cases n with
   |nil=>rfl
   |cons _ _=>simp[Nb]
  |cons _ _=>cases n with
   |nil=>simp[Nb]
   |cons _ _=>simp at g
 rw[e,d];exact h
theorem km {x y:ak eG}{a b:cn}{Q:Lm}(c:Up (ro prog w) s.heap x a)(d:Up (ro prog w) s.heap y b)(h:Q (.bool (Nb x y)) s) :
  ew #[4] A (call (.builtin "tuple.__lt__") [.ref a,.ref b]) Q E s:=
 mm F.slot_tuple_lt c.typeIs F.entry_tuple_lt (qw c d ⟨_,rfl,h⟩) (F.args_tuple_lt_2 _ _)
theorem AU {x y:ak eG}{a b:cn}{Q:fg->cv->Prop}(o:fg)(f:A.units+1<vu)(c:Up (ro prog w) s.heap x a)(d:Up (ro prog w) s.heap y b)(h:Q (Nb x y) s) :
  ew #[4] A (oneLt' o (.ref a) (.ref b)) Q E s:=by
 rw[oneLt'_eq];cases o with
 |true =>
  simp only[n7];refine av (wpAny_cRoomFor #[0] ?_);refine av (wpAny_callSpecialIfBound?_slot c.typeIs F.slot_tuple_lt (km c d ?_));exact Qs h
 |false =>
  simp only[lg,r3];exact av (wpAny_richCompare_same_room (op:=.Lt) c.typeIs d.typeIs F.slot_tuple_lt (km c d ⟨(λe=>nomatch e),Qs h⟩) #[0])
inductive NZ (prog:fh) (w:il) (h:kx):ak ax->ak (ak eG)->Prop
 |nil:NZ prog w h [] []
 |cons {a:cn}{x:ak eG}{vs:ak ax}{xs:ak (ak eG)}:Up (ro prog w) h x a->NZ prog w h vs xs->NZ prog w h (.ref a::vs) (x::xs)
theorem BO {h h':kx}{x:ak eG}{a:cn}(t:Up (ro prog w) h x a)(k:∀ b o,h.get? b=ag o->h'.get? b=ag o):Up (ro prog w) h' x a:=by obtain⟨o,its,n,c,r⟩:=t;exact⟨o,its,n,k _ _ c,r⟩
theorem C5 {vs:ak ax}{xs:ak (ak eG)}(t:NZ prog w s.heap vs xs):∀ {Q:ak ax->cv->Prop},Q (vs.map λ_=>xb "tuple") s->ew #[4] A (vs.mapM typeOf) Q E s:=by
 induction t with
 |nil=>intro Q q;exact bo q
 |cons h _ a =>
  intro Q q;rw[ab7];exact av (Xg h.typeIs (av (a (bo q))))
theorem AT {vs:ak ax}{xs:ak (ak eG)}(t:NZ prog w s.heap vs xs)(b : 0<vs.length){Q:a9 ax->cv->Prop}(q:Q (ag (.type "tuple")) s):ew #[4] A (oneTypeOnly' vs.toArray) Q E s:=by
 rw[oneTypeOnly'_eq,aa_];refine av (av (C5 t (bo ?_)));have a:((abT (λ_=>xb "tuple") vs).toArray.all λx=>x==xb "tuple")=ba:=by simp only[adn,List.all_map,UN];intro _ _;simp
 have c:(abT (λ_=>xb "tuple") vs).toArray[0]?=ag (xb "tuple"):=by
  cases vs with
  |nil=>simp at b
  |cons v vs=>simp
 rw[c];simp only[a,n7];exact bo q
def MH (prog:fh)(w:il)(h:kx)(a:cn)(x:ak eG)(n:Int):Prop:=∃ o b t m,h.get? a=ag o/\o.cls = .type "tuple"/\o.data = .seq #[.ref b,.int n t] m/\Up (ro prog w) h x b
theorem MH.keeps {h h':kx}{a:cn}{x:ak eG}{n:Int}(t:MH prog w h a x n)(k:∀ b o,h.get? b=ag o->h'.get? b=ag o):MH prog w h' a x n:=by obtain⟨o,b,t,m,c,hc,hd,hb⟩:=t;exact⟨o,b,t,m,k _ _ c,hc,hd,BO hb k⟩
theorem MH.inj {h:kx}{a:cn}{x y:ak eG}{n m:Int}(t:MH prog w h a x n)(u:MH prog w h a y m):x=y/\n=m:=by obtain⟨o,b,_,_,g,hc,hd,hb⟩:=t;obtain⟨k,l,_,_,d,j,c,e⟩:=u;rw[g] at d;cases d;rw[hd] at c;simp only[Data.seq.injEq,Array.mk.injEq,OH,Value.ref.injEq,Value.int.injEq] at c;obtain⟨⟨f,⟨i,_⟩,_⟩,_⟩:=c;subst f;exact⟨hb.inj e,i⟩
theorem xQ {a b:cn}{x y:ak eG}{n m:Int}{Q:fg->cv->Prop}(l:A.units+1<vu)(i:MH prog w s.heap a x n)(p:MH prog w s.heap b y m)(d:x=y->n=m)(q:Q (Nb x y) s):ew #[4] A (keyLt' (ab6 b0) (.ref a) (.ref b)) Q E s:=by
 obtain⟨o,c,t,k,g,hc,hd,hb⟩:=i;obtain⟨z,j,h,B,r,v,u,f⟩:=p;refine av (Wa g hd ?_);refine av (Wa r u ?_);refine av ?_;show ew _ _ (adq [((ma c,ma j),0),((Xs n t,Xs m h),1)] _ _) _ _ _;rw[XP];refine av (av (wpAny_eqBool_tuple #[0] hb f ?_));by_cases e:x=y
 ·subst e;rw[ia rfl];simp only[RT,lg,r3];refine bo ?_;rw[0];rw[XP];refine av (av (Xv ?_));rw[show (n==m)=ba from by rw[d rfl];simp];simp only[RT,lg,r3];refine bo ?_;rw[0];rw[aaF];refine bo (bo ?_);rw[show Nb x x=b0 from Tu.irrefl x] at q;exact q
 rw[eh e];simp only[abS,n7];exact av (AU _ l hb f (bo (bo (bo q))))
inductive Mi (prog:fh) (w:il) (h:kx):ak ax->ak (ak eG×Int)->Prop
 |nil:Mi prog w h [] []
 |cons {a:cn}{x:ak eG}{n:Int}{vs:ak ax}{xs:ak (ak eG×Int)}:MH prog w h a x n->Mi prog w h vs xs->Mi prog w h (.ref a::vs) ((x,n)::xs)
theorem Mi.keeps {h h':kx}{vs:ak ax}{xs:ak (ak eG×Int)}(t:Mi prog w h vs xs)(k:∀ b o,h.get? b=ag o->h'.get? b=ag o):Mi prog w h' vs xs:=by
 induction t with
 |nil=>exact .nil
 |cons q _ a=>exact .cons (q.keeps k) a
theorem Mi.mem {h:kx}{vs:ak ax}{xs:ak (ak eG×Int)}(t:Mi prog w h vs xs){v:ax}(hv:v∈vs):∃ a x n,v = .ref a/\MH prog w h a x n/\(x,n)∈xs:=by
 induction t with
 |nil=>simp at hv
 |cons q _ b =>
  rcases f5.mp hv with e |hv
  ·exact⟨_,_,_,e,q,gy ..⟩
  obtain⟨a,x,n,e,p,m⟩:=b hv;exact⟨a,x,n,e,p,eJ _ m⟩
theorem C6 {vs:ak ax}{xs:ak (ak eG×Int)}(t:Mi prog w s.heap vs xs):∀ {Q:ak (a9 ax)->cv->Prop},(∀ us ys,NZ prog w s.heap us ys->us.length=vs.length->Q (us.map ag) s)->ew #[4] A (vs.mapM X_) Q E s:=by
 induction t with
 |nil=>intro Q q;exact bo (q [] [] .nil rfl)
 |cons h _ d =>
  intro Q q;rw[ab7];obtain⟨o,b,t,m,a,hc,hd,hb⟩:=h;refine av ?_;refine av (Xg ⟨o,a,hc⟩ ?_);rw[dV #[2]];refine av (Wa a hd (bo ?_));exact av (d λus ys e c=>bo (q (.ref b::us) (_::ys) (.cons hb e) (by simp[c])))
theorem Df {vs:ak ax}{xs:ak (ak eG×Int)}(t:Mi prog w s.heap vs xs)(d : 0<vs.length){Q:T8->cv->Prop}(q:Q (ab6 b0) s):ew #[4] A (adY vs.toArray) Q E s:=by
 rw[keyKind'_eq,aa_];refine av (av (C6 t λa c b f=>bo ?_));have e:((a.map ag).toArray.all λx=>x.isSome)=ba:=by simp
 show ew _ _ (if ((a.map ag).toArray.all λx=>x.isSome)=ba then _ else _) _ _ _;rw[dm e];refine av (OL ?_);rw[filterMap_some];refine av (AT b #[0] (bo ?_));exact q
noncomputable def Vw (prog:fh) (w:il) (h:kx) (v:ax):ak eG:=match v with
 | .ref a => @dite _ (∃ x n,MH prog w h a x n) (Ur _) (λe=>e.choose) λ_=>[]
 |_=>[]
theorem xP {h:kx}{x:ak eG}{n:Int}{a:cn}(t:MH prog w h a x n):Vw prog w h (.ref a)=x:=by unfold Vw;rw[0];rw[aaf ⟨x,n,t⟩];obtain⟨m,u⟩:=(Exists.choose_spec (⟨x,n,t⟩:∃ x n,MH prog w h a x n));exact(u.inj t).1
theorem Mi.keys {h:kx}{vs:ak ax}{xs:ak (ak eG×Int)}(t:Mi prog w h vs xs):vs.map (Vw prog w h)=xs.map (·.1):=by
 induction t with
 |nil=>rfl
 |cons q _ a=>rw[hH,hH,xP q,a]
theorem t6:∀ {xs:ak (ak eG×Int)},(xs.map (·.1)).Nodup->∀ {x:ak eG}{n m:Int},(x,n)∈xs->(x,m)∈xs->n=m
 |[],_,_,_,_,h,_=>by cases h
 |p::xs,hd,x,n,m,h1,h2=>by
  rw[hH,Ui] at hd;rcases f5.mp h1 with e |h1
  ·rcases f5.mp h2 with a |h2
   ·rw[← e] at a;exact(Prod.mk.inj a).2.symm
   exact ku (ZR (f:=(·.1)) h2) (by rw[← e] at hd;exact hd.1)
  rcases f5.mp h2 with a |h2
  ·exact ku (ZR (f:=(·.1)) h1) (by rw[← a] at hd;exact hd.1)
  exact t6 hd.2 h1 h2
theorem xg {c:cv}{vs:ak ax}{xs:ak (ak eG×Int)}(t:Mi prog w c.heap vs xs)(hd:(xs.map (·.1)).Nodup):uw prog w c vs Tu (Vw prog w c.heap):=by refine⟨ab6 b0,λA E p u k=>⟨λB v q=>Df (t.keeps k) #[0] q,λx y m n st Q l q=>?_⟩⟩;obtain⟨a,o,r,g,h,j⟩:=t.mem m;obtain⟨b,s,z,f,d,i⟩:=t.mem n;rw[g,f,xP h,xP d] at q;rw[lt'_eq];refine gj (WI ?_);rw[l,g,f];exact gj (abM (X5 (xQ #[0] (h.keeps k) (d.keeps k) (λe=>by subst e;exact t6 hd j i) ⟨rfl,lb q⟩)))
end
end L2
namespace L2
open PySem PySem.Spec PyProof.Rows PySem.W
section
variable {X:Cx}{W:WT}
noncomputable def tupI:D->a9 (ak Int)
 | .tup a=>match bP a with
  |ag (n::ns)=>ag (n::ns)
  |_=>ay
 |_=>ay
noncomputable def jZ {α:Type}(f:D->a9 α):ak D->a9 (ak α)
 |[]=>ag []
 |d::r=>(f d).bind λa=>(jZ f r).map (a::·)
noncomputable def bU {α:Type}(lt : α->α->fg):ak α->ak α->fg
 |[],[]=>b0
 |[],_::_=>ba
 |_::_,[]=>b0
 |a::as,b::bs=>if (!lt a b&&!lt b a)=ba then bU lt as bs else lt a b
noncomputable def f8 (a b:ak Int):fg:=!bU (λx y=>dv (x<y)) b a
noncomputable def sW:ak D->a9 D
 |[.lst xs]=>(jZ tupI xs).bind λa => @ite _ (xs.length<=d4/\Spec (bU λ(x y:Int)=>dv (x<y)) a) (Ur _) (ag (.lst ((a.mergeSort f8).map λns => .tup (ns.map .int)))) ay
 |_=>ay
theorem tP (O:xa):∀ as bs:ak O.α,de O as bs=bU O.blt as bs
 |[],[]=>rfl
 |[],_::_=>rfl
 |_::_,[]=>rfl
 |a::as,b::bs=>by rw[de,bU,tP O as bs]
theorem rn {K:Ll}{H:Hp}{J:ak cn}{out us:ak ax}(p:out.Perm us):∀ {vs:ak V}{ds:ak D},Vals vs us->Lx K H J ds vs->∃ f e,Vals f out/\Lx K H J e f/\e.Perm ds:=by
 induction p with
 |nil=>intro vs ds r m;exact⟨vs,ds,r,m,.refl _⟩
 |cons x p E =>
  intro vs ds r m;cases r with
  | @cons v _ C _ g j =>
   cases ds with
   |nil=>cases Lx.Ly.mp m
   |cons d ds =>
    obtain⟨m1,m2⟩:=m.Lz;obtain⟨f,e,a,b,c⟩:=E j m2;exact⟨v::f,d::e,.cons g a,.cons m1 b,.cons d c⟩
 |swap x y l =>
  intro vs ds r m;cases r with
  | @cons v _ C _ g j=>cases j with
   | @cons t _ i _ n B =>
    cases ds with
    |nil=>cases Lx.Ly.mp m
    |cons d ds=>cases ds with
     |nil=>obtain⟨_,m2⟩:=m.Lz;cases Lx.Ly.mp m2
     |cons k ds =>
      obtain⟨m1,m2⟩:=m.Lz;obtain⟨F,w⟩:=m2.Lz;exact⟨t::v::i,k::d::ds,.cons n (.cons g B),.cons F (.cons m1 w),.swap d k ds⟩
 |trans _ _ G q =>
  intro vs ds r m;obtain⟨o,A,a,b,c⟩:=q r m;obtain⟨h,u,a2,z,s⟩:=G a b;exact⟨h,u,a2,z,s.trans c⟩
theorem l5 {α:Type}{f:D->a9 α}{g : α->D}(b:∀ d a,f d=ag a->d=g a):∀ {ds:ak D}{as:ak α},jZ f ds=ag as->ds=as.map g
 |[],as,h=>by cases h;rfl
 |d::ds,as,h=>by
  obtain⟨a,c,e⟩:=hD.mp (show (f d).bind _=ag as from h);obtain⟨r,j,i⟩:=en.mp e;subst i;rw[hH,b d a c,l5 b j]
theorem wv {α:Type}{f:D->a9 α}:∀ {ds:ak D}{as:ak α},jZ f ds=ag as->∀ a∈as,∃ d,f d=ag a
 |[],as,h,a,ha=>by cases h;simp at ha
 |d::ds,as,h,a,ha=>by
  obtain⟨b,c,g⟩:=hD.mp (show (f d).bind _=ag as from h);obtain⟨r,j,i⟩:=en.mp g;subst i;rcases f5.mp ha with e |ha
  ·subst e;exact⟨d,c⟩
  exact wv j a ha
theorem yC {d:D}{ns:ak Int}(h:tupI d=ag ns):d = .tup (ns.map .int)/\ns≠[]:=by
 unfold tupI at h;split at h
 ·split at h
  ·rename_i e;cases h;rw[fR e];exact⟨rfl,by simp⟩
  cases h
 cases h
theorem u8 {α:Type}{g : α->D}{l:ak D}{as:ak α}(h:l.Perm (as.map g)):∃ bs:ak α,l=bs.map g/\bs.Perm as:=by
 generalize e:as.map g=l2 at h
 induction h generalizing as with
 |nil=>cases as with
  |nil=>exact⟨[],rfl,.refl _⟩
  |cons a as=>cases e
 |cons x p n=>cases as with
  |nil=>cases e
  |cons a as =>
   rw[hH] at e;obtain⟨rfl,k⟩:=WC e;obtain⟨bs,c,d⟩:=n k;exact⟨a::bs,by rw[hH,c],.cons a d⟩
 |swap x y l=>cases as with
  |nil=>cases e
  |cons a as=>cases as with
   |nil=>simp at e
   |cons b as =>
    simp only[hH,OH] at e;obtain⟨rfl,rfl,rfl⟩:=e;exact⟨b::a::as,rfl,.swap a b as⟩
 |trans _ _ o i =>
  obtain⟨bs,c,d⟩:=i e;obtain⟨f,m,j⟩:=o (as:=bs) c.symm;exact⟨f,m,j.trans d⟩
theorem rH:∀ {us:ak ax}{ns:ak Int},V9 us ns->KeysAre OM us ns
 |_,_,.nil => .nil
 |_,_,.cons n t r => .cons rfl (rH r)
section
variable {X:Cx}{pins:Ln}{σ:St}{H:Hp}{s:cv}{J:ak cn}
theorem D8 (I:#[10]){ns:ak Int}{v:V}{u:ax}(m:At X.K H J (.tup (ns.map .int)) v)(r:RelV v u):Pa OM s.heap u ns:=by obtain⟨a,d,rfl,q,z⟩:=At.LF.mp m;cases r;obtain⟨its,c,⟨o,b,hc,n,hd⟩,_⟩:=I.tuple q.sq;have e:=Lx.NW z;subst e;exact⟨a,o,its.toArray,n,rfl,b,hc,hd,by simpa using rH (intsAre_of c)⟩
theorem oN (I:#[10]):∀ {c:ak (ak Int)}{vs:ak V}{us:ak ax},(∀ ns∈c,ns≠[])->Lx X.K H J (c.map λns => .tup (ns.map .int)) vs->Vals vs us->Mb OM s.heap us c/\us.map (Vv OM s.heap)=c
 |[],vs,us,_,m,r=>by cases Lx.Ly.mp m;cases r;exact⟨.nil,rfl⟩
 |ns::c,vs,us,h0,m,r=>by
  obtain⟨v,g,rfl,m1,m2⟩:=Lx.Lv.mp m;cases r with
  |cons e f =>
   obtain⟨a,b⟩:=oN I (λx d=>h0 x (eJ _ d)) m2 f;have t:=D8 I m1 e;have ne:=h0 ns (gy ..);cases ns with
   |nil=>exact ku rfl ne
   |cons n ns=>exact⟨.cons t a,by rw[hH,xO t,b];rfl⟩
end
theorem Db {j:Type}{O:xa}{key : j->ak O.α}(inj:∀ a b,key a=key b->a=b){l d:ak j}(m:d.Perm l)(o:d.Pairwise λa b=>(n6 O).kle (key a) (key b)):d=l.mergeSort λa b => !de O (key b) (key a):=by
 refine Pf (le:=λa b=>(!de O (key b) (key a))=ba) (λa b _ _ h g=>inj _ _ ?_) (o.imp λh=>?_) (SX (λa b c h g=>?_) (λa b=>?_) l) (m.trans (S8 l _).symm)
 ·have k:de O (key a) (key b)=b0:=by simpa using g
  have e:de O (key b) (key a)=b0:=by simpa using h
  exact(n6 O).total _ _ k e
 ·have e:de O _ _=b0:=h;rw[e];rfl
 ·have f:(n6 O).kle (key a) (key b):=by show de O (key b) (key a)=b0;simpa using h
  have i:(n6 O).kle (key b) (key c):=by show de O (key c) (key b)=b0;simpa using g
  have n:de O (key c) (key a)=b0:=Tn f i;rw[n];rfl
 cases f:de O (key b) (key a) with
 |false=>rfl
 |true =>
  have i:de O (key a) (key b)=b0:=PB (O:=n6 O) f;rw[i];rfl
theorem DE (hu:X.A.units+150<vu):jw X (.builtin "sorted") sW:=by
 intro P s σ H xs us Q I r h;obtain⟨J,ds,d,hJ,m,e,q⟩:=h;unfold sW at e;rw[1]
 ·rename_i ys;obtain⟨g,es,e⟩:=hD.mp e;rw[1]
  ·rename_i B;obtain⟨B,Z⟩:=B;cases e;obtain⟨v,w,rfl,a,n⟩:=Lx.Lv.mp m;cases Lx.Ly.mp n;obtain⟨p,zs,rfl,t,D⟩:=At.LK.mp a;obtain⟨u,rfl,T⟩:=vals1 r;cases T;obtain⟨its,j,⟨o,nn,Y,hc,_,hd⟩,G⟩:=I.list t.sq;have ed:=l5 (λd a h=>(yC h).1) es;have ne:∀ ns∈g,ns≠[]:=λns hn=>let ⟨d,h⟩:=wv es ns hn;(yC h).2;subst ed;have N:its.length<=d4:=by rw[← j.length,← D.length];exact B
   refine yL #[0] (Xl p (#[9]) Y hc hd (λK k=>?_) (by rw[f3,← j.length];exact G));have i:=I.kept (t':=s.toks) k;obtain⟨tu,C⟩:=oN i ne D j;have E:de Ni=bU (λ(x y:Int)=>dv (x<y)):=by funext a b;exact tP Ni a b
   refine⟨by simpa using N,n6 OM.O,Vv OM K,λS=>⟨uP (by simpa using tu),Az S ?_⟩,λo S ep z V k2 Qk=>?_⟩
   ·have F : @Spec (ak Ni.α) (de Ni) g:=Eq.mpr (zc (λf => @Spec (ak Int) f g) E) Z;have XQ:abT (Vv OM K) its.toArray.toList=g:=by simpa using C
    exact Eq.mpr (zc (λl => @Spec (ak Ni.α) (de Ni) l) XQ) F
   have z:o.toList.Perm its:=by simpa using z
   obtain⟨L,Zy,a1,a2,a3⟩:=rn z j D;obtain⟨c,U,R⟩:=u8 a3;subst U;have hk:=(oN i (λx hx=>ne x (R.mem_iff.mp hx)) a2 a1).2;have W:c.Pairwise λa b=>(n6 Ni).kle a b:=by have:=H8.mpr V;rw[hk] at this;exact this
   have E:(λ(a b:ak Int) => !de Ni b a)=f8:=by funext a b;unfold f8;exact zc Bool.not (tP Ni b a)
   have UX:c=g.mergeSort f8:=by rw[← E];exact Db (O:=Ni) (key:=λ(a:ak Int)=>a) (λa b h=>h) R W
   subst UX;have M:L.length<=d4:=by rw[a1.length,z.length_eq];exact N
   exact⟨.ref _,_,i.laid (t':=s.toks) (o:=.lst L) k2 (hB _) ⟨M,o.toList,ep,a1,by simpa using Qk⟩,rfl,q _ _ (aO i.fresh _) (At.MP a2 i.fresh hJ M)⟩
  cases e
 cases e
end
mutual
def Ol (n:Nat):D->fg
 | .tup a=>n9 n a
 | .lst a=>n9 n a
 | .set a=>n9 n a
 | .loc l=>dv (l<n)
 |_=>ba
def n9 (n:Nat):ak D->fg
 |[]=>ba
 |d::ds=>Ol n d&&n9 n ds
end
section
variable {K:Ll}{H H2:Hp}{J J2:ak cn}
theorem TQ.back {a:cn}{xs:ak V}(h:TQ K H J2 a xs)(p:J <+: J2):TQ K H J a xs:=h.elim (λz => .inl ⟨z.1,λm=>z.2.1 (p.subset m),z.2.2⟩) .inr
theorem LQ.back {a:cn}{xs:ak V}(h:LQ K H J2 a xs)(p:J <+: J2):LQ K H J a xs:=h.elim (λz => .inl ⟨z.1,λm=>z.2.1 (p.subset m),z.2.2⟩) .inr
theorem Cs {l:Nat}{a:cn}(p:J <+: J2)(b:l<J.length)(h:J2[l]?=ag a):J[l]?=ag a:=by obtain⟨r,rfl⟩:=p;rwa [h7 b] at h
mutual
theorem At.Ol:∀ {d:D}{v:V},At K H J d v->L2.Ol J.length d=ba
 | .LN,_,_=>rfl
 | .bl _,_,_=>rfl
 | .int _,_,_=>rfl
 | .str _,_,_=>rfl
 | .fn _ _,_,_=>rfl
 | .tup c,_,h=>by obtain⟨a,b,_,_,r⟩:=At.LF.mp h;rw[L2.Ol];exact Lx.Ol r
 | .lst c,_,h=>by obtain⟨a,b,_,_,r⟩:=At.LK.mp h;rw[L2.Ol];exact Lx.Ol r
 | .set c,_,h=>by obtain⟨a,e,b,_,_,_,_,r⟩:=At.Ov.mp h;rw[L2.Ol];exact Lx.Ol r
 | .loc l,_,h=>by obtain⟨a,_,q⟩:=At.LG.mp h;exact ia (b5.mp q).1
theorem Lx.Ol:∀ {ds:ak D}{vs:ak V},Lx K H J ds vs->n9 J.length ds=ba
 |[],_,_=>rfl
 |d::ds,_,h=>by obtain⟨v,r,_,p,q⟩:=Lx.Lv.mp h;rw[n9,At.Ol p,Lx.Ol q];rfl
end
mutual
theorem At.back (p:J <+: J2):∀ {d:D}{v:V},At K H J2 d v->L2.Ol J.length d=ba->At K H J d v
 | .LN,_,h,_=>by rw[At.Mt] at h ⊢;exact h
 | .bl _,_,h,_=>by rw[At.L5] at h ⊢;exact h
 | .int _,_,h,_=>by rw[At.Lu] at h ⊢;exact h
 | .str _,_,h,_=>by rw[At.LL] at h ⊢;exact h
 | .fn _ _,_,h,_=>by rw[At.RY] at h ⊢;exact h
 | .tup c,_,h,i=>by
  obtain⟨a,b,e,q,r⟩:=At.LF.mp h;rw[L2.Ol] at i;exact At.LF.mpr ⟨a,b,e,q.back p,Lx.back p r i⟩
 | .lst c,_,h,i=>by
  obtain⟨a,b,e,q,r⟩:=At.LK.mp h;rw[L2.Ol] at i;exact At.LK.mpr ⟨a,b,e,q.back p,Lx.back p r i⟩
 | .set c,_,h,i=>by
  obtain⟨a,f,b,e,q,n,z,r⟩:=At.Ov.mp h;rw[L2.Ol] at i;exact At.Ov.mpr ⟨a,f,b,e,q,λm=>n (p.subset m),z,Lx.back p r i⟩
 | .loc l,_,h,i=>by
  obtain⟨a,e,q⟩:=At.LG.mp h;rw[L2.Ol,sX] at i;exact At.LG.mpr ⟨a,e,Cs p i q⟩
theorem Lx.back (p:J <+: J2):∀ {ds:ak D}{vs:ak V},Lx K H J2 ds vs->n9 J.length ds=ba->Lx K H J ds vs
 |[],_,h,_=>by rw[Lx.Ly] at h ⊢;exact h
 |d::ds,_,h,i=>by
  obtain⟨v,r,e,q,z⟩:=Lx.Lv.mp h;rw[n9,mc] at i;exact Lx.Lv.mpr ⟨v,r,e,At.back p q i.1,Lx.back p z i.2⟩
end
theorem jd {α d:Type}{R R2 T : α->d->Prop}{l:ak α}:∀ {m m2:ak d},lU T l m2->lU R l m->(∀ a b c,T a c->R a b->R2 a b)->lU R2 l m:=by
 intro m m2 t r h
 induction r generalizing m2 with
 |nil=>exact .nil
 |cons q _ f=>cases t with
  |cons e t2=>exact .cons (h _ _ _ e q) (f t2)
theorem RF.back (p:J <+: J2){o:MO}{a:cn}(old:RF K H J o a)(h:RF K H2 J2 o a):RF K H2 J o a:=by
 cases o with
 |lst Q =>
  obtain⟨_,_,b⟩:=old;obtain⟨N,q,r⟩:=h;exact⟨N,q,r.back p b.Ol⟩
 |exc c=>obtain⟨C,q,r⟩:=h;exact⟨C,q,r⟩
 |dict j =>
  obtain⟨_,_,b⟩:=old;obtain⟨g,q,r⟩:=h;exact⟨g,q,jd b r λx y z t u=>⟨⟨u.1.1,u.1.2.back p t.1.2.Ol⟩,u.2.back p t.2.Ol⟩⟩
 |LM j =>
  obtain⟨_,_,b⟩:=old;obtain⟨g,q,r⟩:=h;exact⟨g,q,jd b r λx y z t u=>⟨⟨u.1.1,u.1.2.back p t.1.2.Ol⟩,u.2.back p t.2.Ol⟩⟩
 |ins c fs =>
  obtain⟨_,_,_,_,_,b⟩:=old;obtain⟨C,k,s,n,q,r⟩:=h;exact⟨C,k,s,n,q,jd b r λx y z t u=>⟨u.1,u.2.back p t.2.Ol⟩⟩
 |UI D q n d =>
  obtain⟨_,_,_,_,_,_,_,_,_,_,_,_,_,_,b⟩:=old;obtain⟨M,F,sc,po,c,i,L,G,E,u,v,l,f,w,O⟩:=h;exact⟨M,F,sc,po,c,i,L,G,E,u,v,l,⟨f.fn,λz=>f.cj (p.subset z),f.cd,λz=>f.nj (p.subset z),f.cl,f.dt⟩,w,O.back p b.Ol⟩
 |tab x q =>
  obtain⟨c,g,n,m,I,P⟩:=h;exact⟨c,g,n,m,I,λpos B e=>let ⟨i,z1,z2,A⟩:=P pos B e;⟨i,z1,λz=>z2 (p.subset z),A⟩⟩
end
section
variable {X:Cx}{W:WT}{e:hL}{f:Lk D}
noncomputable def jQ (f:Lk D):Lk D:=λa S=>match f a S with
 |ag (.ok (.loc l),S2)=>(match S2[l]? with
  |ag (.lst xs) => @ite _ (S.length<=l/\S2.take S.length=S/\n9 S.length xs=ba/\xs.length<=d4) (Ur _) (LB (.lst xs) S) ay
  |_=>ay)
 |_=>ay
theorem qU (h:SE X W e f):SE X W e (jQ f):=PE.imp h λN H Q t=>by
 obtain⟨J,D,S,r,O,c,m,eq,z⟩:=t;unfold jQ at eq;split at eq
 ·rename_i l j A;split at eq
  ·rename_i M ex;split at eq
   ·rename_i hc;obtain⟨L,E,I,v⟩:=hc;cases eq;refine⟨J,D,S,_,j,c,m,A,λB C b x so at_=>?_⟩;have p:=c.LZ.len;obtain⟨a,rfl,i⟩:=At.LG.mp at_;obtain⟨F,G,n⟩:=so.at_ l a _ i ex;have y:a∉J:=λw=>by obtain⟨k,d⟩:=QV w;have q:=(b5.mp d).1;have u:B[k]?=ag a:=oo x.pre d;have:=(aa3 (b5.mp u).1 so.nd).mp (u.trans i.symm);omega
    refine z J C (.ref a) ⟨abz _,λb o hb s=>⟨(x.keep b o hb s).1,s⟩⟩ ⟨p,c.LZ.nd,λk b o d g=>?_⟩ (At.LK.mpr ⟨a,F,rfl,?_,n.back x.pre (by rw[p];exact I)⟩)
    ·have q:k<S.length:=(b5.mp g).1;have K:j[k]?=ag o:=by rw[← g,← E,aau,dm q]
     exact(c.LZ.at_ k b o d g).back x.pre (so.at_ k b o (oo x.pre d) K)
    exact .inl ⟨.inl G,y,by rw[← n.length];exact v⟩
   cases eq
  cases eq
 cases eq
end
section
variable {X:Cx}{W:WT}{pos pos':UK}{o i e:hL}{fo fi fv:Lk D}{x:eG}
noncomputable def y4:D->D->a9 D
 | .int a,.int b=>if gU a b then ag (.int (a*b)) else ay
 |_,_=>ay
noncomputable def ipM:Ux:=λx y H Q => ∃ i j,x = .int i/\y = .int j/\gU i j=ba/\Q (.int (i*j)) H
theorem G8:Xu X .Mult ipM:=by intro a s g H x y v u Q I d e h;obtain⟨i,j,b,c,k,q⟩:=h;subst b;subst c;obtain⟨t,rfl⟩:=d;obtain⟨f,rfl⟩:=e;exact PyProof.Rows.imul_int ⟨.int _,H,I.tok _,⟨_,rfl⟩,q⟩ (yZ k).ok
noncomputable def wf (n:Nat)(fv:Lk D):Lk Fl:=λa S=>match a[n]? with
 |ag (ag d)=>ai (fv a S) λy b=>aL ((y4 d y).map λz=>Fl.next (a.set n (ag z))) b
 |_=>ay
theorem Eg {n:Nat}(j:X.N.Nodup)(w:SE X W e fv)(B:X.N[n]?=ag x:=by rfl)(m:Loc X.env.scope x:=by first |exact abx rfl |exact aap rfl)
  (o:X.fn x=ba∨#[21]=ag .local:=by first |exact .inl rfl |exact .inr rfl |assumption) :
  SS X W (.AugAssign (.Name x pos') .Mult e pos) (wf n fv):=(GH j B m w G8 o).imp λE C H h=>by
 obtain⟨J,f,S,r,I,c,eq,z⟩:=h;unfold wf at eq;split at eq
 ·rename_i d hd;obtain⟨v,i,l⟩:=c.env n d hd;refine⟨v,i,?_⟩;cases q:fv f S with
  |none=>rw[q] at eq;cases eq
  |some p =>
   obtain⟨s,D⟩:=p;rw[q] at eq;cases s with
   |error G=>cases eq;exact⟨J,f,S,_,_,c,.nil,q,z⟩
   |ok y =>
    simp only[fY] at eq;cases hg:y4 d y with
    |none=>rw[hg] at eq;cases eq
    |some F =>
     rw[hg] at eq;cases eq;refine⟨J,f,S,_,_,c,.nil,q,λt u b x2 g m2=>?_⟩;unfold y4 at hg;split at hg
     ·split at hg
      ·rename_i a A k;cases hg;cases At.Lu.mp l;cases At.Lu.mp m2;exact⟨a,A,rfl,rfl,k,z t _ u x2 ((c.re x2 g).set (#[17]))⟩
      cases hg
     cases hg
 cases eq
end
section
variable {X:Cx}{W:WT}{pos pos':UK}{o i e:hL}{fo fi fv:Lk D}{x:eG}
theorem Dk:Jp X (Il X.K):=by
 intro a s n H x y v u Q I f g h;obtain⟨p,E,i,z,rfl,rfl,m,A,q⟩:=h;cases f;obtain⟨t,rfl⟩:=g;obtain⟨its,r,pl,D⟩:=I.list m;obtain⟨j,b,C,F,l,B⟩:=l4 A;obtain⟨w,e,o⟩:=r.get C;have k:=r.length;have G:=kC;have fin:EP X a n Q w s:=⟨z,H,I,o,q⟩;by_cases d : 0<=i
 ·have c:i.toNat=j:=by
   rw[aby d B] at b;exact ja b
  exact wpAny_getItem_list pl.isList d #[0] (by rw[c];simpa using e) fin
 have c:(i+(its.toArray.size:Int)).toNat=j:=by rw[aaY #[0] l] at b;rw[f3,← k];exact ja b
 exact aa0 pl.isList #[0] (by rw[f3]<;>omega) #[0] (by rw[c];simpa using e) fin
noncomputable def wz:D->D->a9 D
 | .int a,.int b=>ag (.int (a+b))
 |_,_=>ay
noncomputable def qg (fo fi fv:Lk D):Lk Fl:=λb S=>ai (fo b S) λx e=>ai (fi b e) λk c=>ai (aL (lJ x k c) c) λa d=>ai (fv b d) λy f=>match wz a y with
 |ag z=>j9 x k z b f
 |ay=>ay
theorem Eh (Q:SE X W o fo)(hi:SE X W i fi)(hv:SE X W e fv)
  (ha:∀ s p new,augStore i s p new=(do V2 [new,s,p] (abZ s p new);release [new,s,p] [];y8 .next):=by intros;rfl):SS X W (.AugAssign (.Subscript o i pos') .Add e pos) (qg fo fi fv):=
 (ED Q hi Dk hv G9 set_list ha).imp λE x H h=>by
  have h:tH X W [] [] (qg fo fi fv) E x H:=let ⟨J,f,S,r,v,c,e,z⟩:=h;⟨J,f,S,r,v,c,.nil,e,z⟩;refine(tH.LD h).mono λox H1 ⟨dx,Z⟩=>(tH.LD Z).mono λik H2 ⟨dk,h2⟩=>?_;obtain⟨J,f,S,r,v,c,m,e,z⟩:=h2;obtain⟨mk,m1⟩:=m.Lz;obtain⟨L,_⟩:=m1.Lz
  try dsimp only at e
  cases q:lJ dx dk S with
  |none=>rw[q] at e;cases e
  |some n =>
   rw[q,bG,cI] at e;have q0:=q;unfold lJ at q;split at q
   ·rename_i k;obtain⟨xs,D,K⟩:=hD.mp q;obtain⟨l,C,I,rfl,rfl,hq,es,O,U⟩:=mH c.LZ L D;cases At.Lu.mp mk;obtain⟨w,e1,a1⟩:=ur U K;refine⟨C,I,k,w,rfl,rfl,.inl (.inl O),e1,?_⟩
    have V:tH X W [n,.int k,.loc l] [w,.int k,.ref C] (λf P=>ai (fv f P) λy S4=>match wz n y with
     |ag z=>j9 (.loc l) (.int k) z f S4
     |ay=>ay) E x H2:=⟨J,f,S,r,v,c,.cons a1 m,e,z⟩
    refine(tH.LD V).mono λy H3 ⟨u,h4⟩=>?_;obtain⟨J2,A,S2,r2,WE,t,m2,d,z2⟩:=h4;obtain⟨N,m2⟩:=m2.Lz;obtain⟨mw,m2⟩:=m2.Lz;obtain⟨_,m2⟩:=m2.Lz;obtain⟨WG,_⟩:=m2.Lz
    try dsimp only at d
    cases hz:wz n u with
    |none=>rw[hz] at d;cases d
    |some zd =>
     rw[hz] at d
     obtain⟨a,b,rfl,rfl,rfl⟩:∃ a b,n = .int a/\u = .int b/\zd = .int (a+b):=by
      cases n<;>first |(cases hz;done) |(cases u<;>first |(cases hz;done) |(cases hz;exact⟨_,_,rfl,rfl,rfl⟩))
     cases At.Lu.mp mw;cases At.Lu.mp N;refine⟨a,b,rfl,rfl,?_⟩;have d:j9 (.loc l) (.int k) (.int (a+b)) A S2=ag (r2,WE):=d;unfold j9 at d;simp only at d;split at d
     ·rename_i G T;split at d
      ·rename_i j M;cases d;obtain⟨a',ea,g⟩:=At.LG.mp WG;cases ea;obtain⟨R_,Y,B⟩:=t.LZ.at_ l _ _ g T;have up:=t.LZ.update (o:=.lst (R_.set j (.int (a+b)))) (mo:=.lst (G.set j (.int (a+b)))) g λJ' H' x' F R=>by subst F R;exact⟨_,LC,Lx.set (#[17]) j (B.ex x')⟩
       exact⟨_,R_,k,j,rfl,rfl,Y,by rw[← B.length];exact M,z2 J2 x _ up.2 (t.re up.2 up.1)⟩
      cases d
     cases d
   cases q
end
noncomputable def XZ (lo:Int)(n:Nat):It:=⟨λi _=>i<n,λi H x a=>a=H/\x = .int (lo-i),λi _=>n<=i⟩
theorem Ap {P:fh}{w:il}{K:Ll}{F:hL}(it:cn)(lo:Int)(n:Nat):Turn P w K F (XZ lo n) [it] it (λi h=>abt h it (lo+(i:Nat)*(-1)) ((n:Int)-(i:Nat)) (-1)) where
 mem:=by simp
 obj:=λi h st b hb=>by
  have e:b=it:=#[16]
  subst e
  exact⟨_,st,λv z=>by
   have C:Data.fields _=Data.cell v:=z
   cases C⟩
 keep:=λi h d st k=>k it #[3] _ st
 item:=by
  intro X l p u hc i a s x H E I c st g;subst l p u;obtain⟨q,f,D,r,m,j⟩:=c it #[3];have W:=Walks.range (prog:=X.prog) (w:=X.w) (I.ok.hd hc) it lo (-1) n;refine W.item i s _ _ g st λv d tk A y G=>?_;obtain⟨t,rfl⟩:=A;have J:Inv X a x H { s with heap:=d,toks:=tk }:=I.turned (λb o hb e=>G b o (#[16]) e) q f r m j;refine⟨_,rfl,vM (s:={ s with heap:=d,toks:=tk }) (n:="range_iterator") y rfl rfl #[2] ⟨.int (lo-i),H,J,⟨t,?_⟩,⟨rfl,rfl⟩,y,λb hb=>(c b hb).1⟩⟩;rw[show lo+(i:Int) * -1=lo-i by omega]
 done:=by
  intro X l p u hc i a s x H E I c st g;subst l p u;obtain⟨q,f,D,r,m,j⟩:=c it #[3];exact aaO (I.ok.hd hc) st (by have:n<=i:=g;omega) λd B=>⟨rfl,I.turned (t':=s.toks) (λb o hb e=>B b o hb e) q f r m j⟩
 self:=λ_ _ _ _ _ st h=>aaP st h
theorem qR (a b:Int):Uz a b (-1)=if b<a then a-b else 0:=by unfold Uz;simp only[show ¬ (-1:Int) > 0 by decide,r3,Int.neg_neg,Int.ediv_one];split<;>omega
section
variable {X:Cx}{tg:hL}{W:WT}{pos:UK}
theorem AB {c:Ln}{d:St}{H:Hp}{s:cv}{R:It->Hp->Prop}{E:Lm}{lo a:Int}{t u v:Tok}{tk:Nat}(I:Inv X c d H s)(k : -(2 ^ 62)<=lo)(l:lo<2 ^ 62)(j : -(2 ^ 62)<=a)(i:a<2 ^ 62)
  (q:R (XZ lo (lo-a).toNat) H):ew #[8] X.A (acv (#[15])) (Yk X c d tg R) E { s with heap:=s.heap.push { cls:=.type "range",data:=.fields #[.int lo t,.int a u,.int (-1) v] },toks:=tk }:=by
 refine acw (aey ..) ?_ ?_
 ·unfold Builtin.Range.small;rw[qR];simp only[Builtin.Range.rangeFitsLong,mc,Zw,sX,UR,show ¬ (-1:Int) > 0 by decide,r3];split<;>omega
 have f:Inv X c d H { s with heap:=s.heap.push { cls:=.type "range",data:=.fields #[.int lo t,.int a u,.int (-1) v] },toks:=tk }:=I.kept λb o e=>cc _ e
 refine⟨(s.heap.push { cls:=.type "range",data:=.fields #[.int lo t,.int a u,.int (-1) v] }).objs.size,[(s.heap.push { cls:=.type "range",data:=.fields #[.int lo t,.int a u,.int (-1) v] }).objs.size],_,_,H,rfl,
  f.kept (t':=tk) λb o e=>cc _ e,Ap _ lo (lo-a).toNat,?_,λb hb=>?_,q⟩
 ·have g:lo+((0:Nat):Int)*(-1)=lo:=by simp
  have h:(((lo-a).toNat:Nat):Int)-((0:Nat):Int)=Uz lo a (-1):=by rw[qR];split<;>omega
  show abt _ _ (lo+((0:Nat):Int)*(-1)) ((((lo-a).toNat:Nat):Int)-((0:Nat):Int)) (-1);rw[g,h];exact e8 _ rfl
 have e:b=(s.heap.push { cls:=.type "range",data:=.fields #[.int lo t,.int a u,.int (-1) v] }).objs.size:=#[16]
 subst e;exact f.Of (hB _) (f.LX.fresh (hB _))
theorem AK {a b c:hL}{m:TA}{p pos:UK}(u:Gl X "range")(n:X.mg "range"=ay)(x:PA X [a,b,c] m)(z:eK [a,b,c] X.env=(b0,sY a X.env)::eK [b,c] X.env:=by rfl)(w:(tw pos (eK [b,c] X.env)).any (·.1)=b0:=by rfl) :
  PI X tg (.Call (.Name "range" p) [a,b,c] [] pos) (λg H R=>m g H λvs l => ∃ i j:Int,vs=[.int i,.int j,.int (-1)]/\(-1000<=i/\i<2 ^ 25/\-1000<=j/\j<2 ^ 25)/\R (XZ i (i-j).toNat) l):=by
 intro d s g H R I h;refine Call_ (kD I u n boot_range (Vh (LR (x pos d s g H _ I h) λG F o=>?_) z w));obtain⟨vs,l,A,v,k⟩:=o;obtain⟨i,j,e,⟨k,E,J,C⟩,q⟩:=k;subst e;cases v with
 |cons r f =>
  cases f with
  |cons y f =>
   cases f with
   |cons B f =>
    cases f;obtain⟨t,rfl⟩:=r;obtain⟨D,rfl⟩:=y;obtain⟨t2,rfl⟩:=B;exact call_range_3 #[2] (AB A #[0] #[0] #[0] #[0] q)
noncomputable def uX:ak D->a9 (ak D)
 |[.int i,.int j,.int k]=>if -1000<=i/\i<16000000/\-1000<=j/\j<2 ^ 25/\k = -1 then ag ((gx (i-j).toNat).map λ(k:Nat)=>D.int (i-k)) else ay
 |_=>ay
theorem Walk.down {J:ak cn}{H:Hp}(lo:Int)(n:Nat)(hz:n<=d4):Walk X (XZ lo n) ((gx n).map λ(k:Nat)=>D.int (lo-k)) J H where
 len:=by rw[d7,p0];exact hz
 go:=λc b i x a=>by rw[d7,p0] at a;exact a
 Qm:=λc b i v e x d a y=>by
  obtain⟨rfl,rfl⟩:=y;rw[d7,p0] at a;exact⟨.int (lo-i),by rw[hF,Zz a];rfl,#[17],LH.refl _⟩
 stop:=λc b i x a=>by rw[d7,p0] at a;exact a
theorem Av {tg a b c:hL}{t:Lk (ak D)}{x:eG}{p:UK}(o:x="range")(e:X.mg x=ay)(u:SA X W [a,b,c] t)(g:Gl X x:=by rfl)(y:eK [a,b,c] X.env=(b0,sY a X.env)::eK [b,c] X.env:=by rfl)(q:(tw pos (eK [b,c] X.env)).any (·.1)=b0:=by rfl) :
  SI X W tg (.Call (.Name x p) [a,b,c] [] pos) (f_ uX t):=by
 subst o;refine PI.imp (AK g e u y q) λF H R h=>(jb h).mono λB l f=>?_;obtain⟨J,S,es,L,s,m,d,z⟩:=f;unfold uX at d;split at d
 ·rename_i i j k;split at d
  ·rename_i c;obtain⟨K,C,E,M,rfl⟩:=c;cases d;obtain⟨v,r,rfl,a1,n⟩:=Lx.Lv.mp m;obtain⟨G,N,rfl,a2,n⟩:=Lx.Lv.mp n;obtain⟨I,A,rfl,w,n⟩:=Lx.Lv.mp n;cases Lx.Ly.mp n;cases At.Lu.mp a1;cases At.Lu.mp a2;cases At.Lu.mp w;exact⟨i,j,rfl,⟨#[1],#[1],#[1],#[1]⟩,z l _ (LH.refl _) (Walk.down i (i-j).toNat (by show (i-j).toNat<=16777216;omega))⟩
  cases d
 cases d
end
theorem Dr (l:cn)(items:ib ax)(n:Nat)(b:cn)(a:ib ax)(n2:Nat)(f:a9 cn)(sl:ib (a9 ax))(k:¬(!items.isEmpty&&Um (items.size+a.size))=ba)(c:items.size<=d4)(i:items.size+a.size<=d4+1) :
  Meets (Builtin.«list.extend» ⟨[.ref l,.ref b],[]⟩) (λ_ R s=>s.heap.get? l=ag { cls:=#[13],data:=.seq items n }/\#[18]=ag { cls:=.type "tuple",dict:=f,data:=.seq a n2,slots:=sl }/\R (.ok (.ret R6)) { s with heap:=s.heap.update l (SJ λx=>x++a) }):=
 .of_wp λprog w A R s h=>by
  obtain⟨q,g,d,tk,os⟩:=s;obtain⟨e,hb,h⟩:=h;have o:=AutoSeq1.sub_tuple_tuple;have r:=AutoSeq1.sub_list_list;have p:=AutoSeq1.sub_tuple_list;have m:=AutoSeq1.sub_list_tuple;have j:(items++a).size<=d4+1:=by rw[adt];exact i
  wp_walk using (wpAny_updateSeq e rfl (hz:=c) (_hz':=j)),s8 e,s8 hb;exact⟨_,rfl,h⟩
section
variable {X:Cx}{W:WT}{L6 apos:UK}{o a:hL}{fo fe:Lk D}
theorem xG:MtM X "list.extend" λx vs H Q => ∃ l b xs c,x = .ref l/\vs=[.ref b]/\H l=ag (.lst xs)/\O2 X.K H b c/\xs.length+c.length<=d4/\Q .LN (upd H l (.lst (xs++c))):=by
 intro g s G H x vs v M Q I j B h;obtain⟨l,b,xs,c,rfl,rfl,f,p,D,q⟩:=h;cases j;obtain⟨u,rfl,m⟩:=B.one;cases m;obtain⟨z,its,n,r,E,e⟩:=I.V6 f;obtain⟨a,i,⟨⟨L,o,C,y⟩,t,A,n2,k⟩,J⟩:=I.tuple p;cases A;cases k;have N:=i.length;have d:its.toArray.size+a.toArray.size<=d4:=by rw[f3,f3];omega
 have w:¬ (!its.toArray.isEmpty&&Um (its.toArray.size+a.toArray.size))=ba:=by rw[CJ d,ad6];exact Sa
 refine XO F.slot_list_extend ⟨_,e,rfl⟩ F.entry_list_extend (F.args_list_extend_2 _ _)
  (Dr l its.toArray n b a.toArray n2 o y w (by rw[f3];omega) #[0]) ⟨e,t,?_⟩
 refine⟨.LN,_,I.V5 (its':=its++a) f e #[3] (r.append i) ?_,rfl,q⟩;rw[da];omega
noncomputable def Bp (d v:D)(S:Lq):Out D:=match d,v with
 | .loc l,.tup a=>(match S[l]? with
  |ag (.lst xs)=>if xs.length+a.length<=d4 then LB .LN (S.set l (.lst (xs++a))) else ay
  |_=>ay)
 |_,_=>ay
noncomputable def Hs (fo fe:Lk D):Lk D:=λa S=>ai (fo a S) λd b=>ai (aL (cR d b) b) λ_ e=>ai (fe a e) λv c=>Bp d v c
theorem Go {name:eG}(hn:name="extend")(M:SE X W o fo)(ha:SE X W a fe)(Z:RZ o name X.env (sY o X.env)=sY o X.env:=by rfl)
  (P:((tw L6 (eK [a] X.env)).all (λx => !x.1)&&(Xe L6 (TV [] X.env)).all (λx=>x.1.isSome)
   && dv ([a].length+([]:ak WH).length+(if ([]:ak WH).isEmpty then 0 else 1)<30))=ba:=by rfl)
  (T:(apos.endLine==L6.line)=ba:=by rfl) (s:eK [a] X.env=(b0,sY a X.env)::eK [] X.env:=by rfl) (I:(tw L6 (eK [] X.env)).any (·.1)=b0:=by rfl) :
  SE X W (.Call (.Attribute o name apos) [a] [] L6) (Hs fo fe):=by
 subst hn;refine PE.imp (CD F.plainAttrs_list F.slot_list_extend F.type_list_extend xG M (fy ha MN s) Z P T s I) λσ H Q h=>(tG.LD h).mono λx H1 Zq=>?_;obtain⟨d,Y⟩:=Zq;obtain⟨J,g,S,r,S',c,m,f,z⟩:=Y
 try dsimp only at f
 obtain⟨t,_⟩:=m.Lz;cases q:cR d S with
 |none=>rw[q] at f;cases f
 |some xs =>
  rw[q,bG,cI] at f;obtain⟨l,i,E,rfl,rfl,hq,es,K,mu⟩:=mH c.LZ t q;refine⟨.inl ⟨rfl,E,.inl (.inl K)⟩,?_⟩;have h2:tG X W (RD X) [.loc l] [.ref i] (λg j=>ai (fe g j) λv L=>Bp (.loc l) v L) σ H1 Q:=⟨J,g,S,r,S',c,.cons t .nil,f,z⟩;refine(tG.LD h2).mono λy H2 ⟨n,R⟩=>?_;show sR _ _ _;obtain⟨J2,ρ2,j,r2,WE,k,m2,e,z2⟩:=R;obtain⟨G,m2⟩:=m2.Lz;obtain⟨WG,_⟩:=m2.Lz;have e:Bp (.loc l) n j=ag (r2,WE):=e;cases n with
  |tup V =>
   unfold Bp at e;simp only at e;rw[1]
   ·rename_i D O;rw[1]
    ·rename_i lt;cases e;obtain⟨q2,e3,B⟩:=At.LG.mp WG;cases e3;obtain⟨R_,U,w⟩:=k.LZ.at_ l i _ B O;obtain⟨b,p,rfl,tq,u⟩:=At.LF.mp G;have up:=k.LZ.update (o:=.lst (R_++p)) (mo:=.lst (D++V)) B λJ' H' A C N=>by subst C N;exact⟨_,LC,(w.ex A).append (u.ex A)⟩
     exact⟨i,b,R_,p,rfl,rfl,U,tq.sq,by rw[← w.length,← u.length];exact lt,z2 J2 _ _ up.2 up.1 (At.Mt.mpr rfl)⟩
    cases e
   cases e
  |_=>cases e
end
section
variable {X:Cx}{W:WT}
noncomputable def qf (n:Nat)(ix:ak Nat)(b:Lk (ak D))(u:D->Lr->a9 Lr)(gt:Lk fg)(fe:Lk D):Lk D:=λa S=>ai (b a S) λd c =>
 match cH u gt fe d (cg n ix a) c with
 |ag (out,S2)=>LB (.loc S2.length) (S2++[.lst out])
 |ay=>ay
theorem ye {i:Lk (ak D)}{u:D->Lr->a9 Lr}{gt:Lk fg}{fe:Lk D}{n:Nat}{ix:ak Nat}{g:St}{H:Hp}{Q:VK}(h:tE X W (qf n ix i u gt fe) g H Q) :
  iW X W i g H λk f => ∃ d ρ a S2 ds out,Cf X d ρ a g f/\Walk X k ds d f/\cH u gt fe ds (cg n ix ρ) a=ag (out,S2)/\∀ b H' v,Ex d f b H'->LW X.K b (S2++[.lst out]) H'->At X.K H' b (.loc S2.length) v->Q v H':=by
 obtain⟨J,ρ,S,r,A,c,_,e,z⟩:=h;unfold qf at e;cases q:i ρ S with
 |none=>simp[q] at e
 |some o =>
  obtain⟨m,a⟩:=o;simp only[q] at e;cases m with
  |error x =>
   cases e;exact⟨J,ρ,S,.error x,_,c,q,z⟩
  |ok ds =>
   simp only[fY] at e;cases qc:cH u gt fe ds (cg n ix ρ) a with
   |none=>rw[qc] at e;cases e
   |some p =>
    obtain⟨out,S2⟩:=p;rw[qc] at e;cases e;exact⟨J,ρ,S,.ok ds,a,c,q,λd f k j s w=>⟨d,ρ,a,_,ds,out,c.re j s,w,qc,λb H' v y l t=>z b H' v (j.trans y) l t⟩⟩
theorem uO {j iter elt:hL}{ifs:ak hL}{scope:lE}{pos r f:UK}{B:Lk (ak D)}{u:D->Lr->a9 Lr}{gt:Lk fg}{fe:Lk D}{ts:ak eG}{ix:ak Nat}{i:Nat}{y:eG}
  (hN:X.N.Nodup) (hc:X.calm=ba) (Sc:MF scope X.env) (PH:∀ t∈ix,scope.names.lookup (X.N.getD t Xz)=ag .free) (hi:SI X W j iter B) (R:HK X scope ts ix j ifs elt u gt fe)
  (hy:X.N[i]?=ag y:=by rfl) (hx:Loc X.env.scope y:=by first |exact abx rfl |exact aap rfl) (YJ:Uy (.ListComp elt [⟨j,iter,ifs,0⟩] scope pos) (ag (.Name y f)) r.line X.env=y8 ba:=by rfl)
  (hf:X.fn y=ba∨X.env.scope.names.lookup y=ag .local:=by first |exact .inl rfl |exact .inr rfl |assumption)
  (Y:∀ x,Vi iter X.env x=y8 x:=by intro _;rfl):SS X W (.Assign [.Name y f] (.ListComp elt [⟨j,iter,ifs,0⟩] scope pos) r) (bC i (qf ts.length ix B u gt fe)):=by
 intro c s n H E I h;obtain⟨cl,RK,h1,h2⟩:=kL I Sc;have h:=tS.LD h;rw[abl _ _ _ _ YJ];refine av (aan (av ?_));show ew _ X.A (do let _ ← comprehension (.ListComp elt [⟨j,iter,ifs,0⟩] scope pos) scope X.env _ (newList []) b0 (sY iter X.env) (ag (WM (.Name y f) X.env))) _ _ s;refine av (yk (Wx (use:=ag (WM (.Name y f) X.env)) (Q:=λ_ d=>SP X c E .next d) rfl Y RK Sc.kind Sc.names ?_) (λ_ d hq=>bo (bo hq)) λ_ _ e=>e);refine LR (hi c s n H _ I (ye h)) λv s1 QR=>LR QR λVQ s2 P=>?_;obtain⟨it,fp,tn,Jt,H2,e,I2,T,M,f2,J0,ρ,S1,S2,ds,out,L,wk,ec,fin⟩:=P;subst e;refine mQ hc Sc h1 h2 PH R I2 T M f2 L wk ec λa C d ce=>?_;obtain⟨m,hm⟩:=ce.ns;obtain⟨o1,o2,G,O⟩:=ce.own;obtain⟨l,k,g,I',x',F,ad,p,lz,hC⟩:=ce.fin d.heap λ_ _=>rfl;have YK:Inv X c n (upd k a (.lst g)) d:=I'
 have x2:Ex l k (l++[a]) (upd k a (.lst g)):=⟨⟨[a],rfl⟩,λb u hb U=>⟨by rw[aG (aM hb p)];exact hb,λz=>by
   rcases lk.mp z with z |z
   ·exact U z
   exact aM hb p (by simpa using z)⟩⟩
 have w:=F.push (o:=.lst g) (mo:=.lst out) p ⟨g,LC,ad.ex x2⟩;have q:=fin (l++[a]) _ (.ref a) (x'.trans w.2) w.1 (At.LG.mpr ⟨a,rfl,by rw[← F.len,hO (hB _)];simp⟩);show ew _ X.A (WM (.Name y f) X.env (.ref a)) _ _ d;refine Z_ (mn YK hN hy hx (v:=.ref a) rfl (λJ S Zq=>?_) hf);obtain⟨ad,sb,hd⟩:=Zq
 have YL:C≠ad:=by
  rcases hd with z |z
  ·rw[z];exact o2
  exact(G y ad z).symm
 refine⟨m,hm.sameBut sb YL,λV YM=>?_⟩;have I4:Inv X c (n.set i (ag (.ref a))) (upd k a (.lst g)) { J with heap:=V }:=S.turned (t':=J.toks) (it:=C) (λb o hb e=>(YM.2 b hb).trans e) hC o2 (.inr o1) G O;obtain⟨K,Z,Sq,dq,rq,Sq',cq,mq,eq,zq⟩:=q;cases eq;exact⟨_,_,I4,zq K _ _ Ex.refl (cq.set mq)⟩
end
noncomputable def i6 (xs:ak D):a9 D:=if xs.length<4000 then (j_ xs).bind λa=>(e_ ((a.foldl dM []).map U2)).map .lst else ay
section
variable {X:Cx}{W:WT}{x y:eG}{p p2 pos Qy:UK}{fe:Lk D}
noncomputable def mW (fe:Lk D):Lk D:=λb S=>ai (fe b S) λd a=>aL ((cR d a).bind i6) a
theorem uR {a:hL}(F:x="sorted")(N:y="set")(hc:X.calm=ba)(A:X.mg x=ay)(K:X.mg y=ay)(g:SE X W a fe)(C:Gl X x:=by rfl)(t:Gl X y:=by rfl)
  (o:eK [a] X.env=(b0,sY a X.env)::eK [] X.env:=by rfl)
  (i:eK [(.Call (.Name y p2) [a] [] Qy)] X.env=(b0,sY (.Call (.Name y p2) [a] [] Qy) X.env)::eK [] X.env:=by rfl)
  (O:(tw Qy (eK [] X.env)).any (·.1)=b0:=by rfl) (G:(tw pos (eK [] X.env)).any (·.1)=b0:=by rfl) :
  SE X W (.Call (.Name x p) [.Call (.Name y p2) [a] [] Qy] [] pos) (mW fe):=by
 subst F N;have inner:=mF (X:=X) (p:=p2) (pos:=Qy) (Fv hc) t K Hz (fy g MN o) #[2] #[2] o O;refine PE.imp (lD (ub hc) C A fF (fy inner MN i) #[2] #[2] i G) λY H Q h=>?_;refine(tG.LD h).mono λv D ⟨d,R⟩=>?_;obtain⟨J,Z,S,r,S',c,m,eq,z⟩:=R;dsimp only at eq;obtain⟨I,_⟩:=m.Lz;show sR _ _ _;cases q:cR d S with
 |none=>rw[q] at eq;cases eq
 |some B =>
  rw[q,m4] at eq;cases qs:i6 B with
  |none=>rw[qs] at eq;cases eq
  |some dr =>
   rw[qs] at eq;cases eq;obtain⟨l,P,us,rfl,rfl,V,es,u,j⟩:=mH c.LZ I q;unfold i6 at qs;split at qs
   ·rename_i hb;obtain⟨e,f,E⟩:=hD.mp qs;obtain⟨out,w,T⟩:=en.mp E;subst T;have ev:=zr f j;subst ev;refine⟨P,e,rfl,.inl (.inl u),by rw[rJ f];omega,λp s=>?_⟩;refine⟨p,e.foldl dM [],J,(e.foldl dM []).map U2,out,rfl,LC,λa g=>?_,wo λk M=>?_,w,λn v L U=>?_⟩
    ·by_cases z:a=p
     ·rw[z,LC];simp
     rw[aG z];exact c.LZ.all a g
    ·rcases (vI e [] k).mp M with h |h
     ·cases h
     exact(vE f j k h).ex (Ex.same (aO s _))
    have b:LH D n:=(aO s _).trans L;exact z J n v (Ex.same b) (c.LZ.same b) U
   cases qs
end
noncomputable def F3 (X:Cx)(q:eG)(scope:lE)(cl:ak (eG×cn))(b:ak eG)(f:cn)(cd:ax)(a:cv)(c:Hp):Cx:=
 { X with A:=X.A.in1.deeper (envX q scope a.heap.objs.size f cd cl),N:=b,s₀:=a,H₀:=c,env:=envX q scope a.heap.objs.size f cd cl,outer:=X.stack,stack:=envX q scope a.heap.objs.size f cd cl::X.stack,ex:=[],fn:=λ_=>b0,calm:=ba,pn:=[],xe:=λ_ _=>False }
section
variable {X:Cx}{pins:Ln}{σ:St}{H:Hp}{s:cv}{scope:lE}{cl:ak (eG×cn)}{ix:ak Nat}{x q:eG}
structure W8 (X:Cx) (scope:lE) (cl:ak (eG×cn)):Prop where
 sub:∀ x c,cl.lookup x=ag c->X.env.cells.lookup x=ag c
 has:∀ y∈scope.names,y.2 = .free->∃ c,cl.lookup y.1=ag c
def Ju (X:Cx)(k:Nat)(q:eG)(scope:lE)(x:eG)(ix:ak Nat)(body:hL)(c:Lk D):Prop:=
 ∀ (cl:ak (eG×cn)) (f:cn) (cd:ax) (b:cv) (a:Hp),L0 k (F3 X q scope cl (iV [x] ix X.N) f cd b a).A->SE (F3 X q scope cl (iV [x] ix X.N) f cd b a) W0 body c
structure Sb (X:Cx) (scope:lE) (x:eG) (ix:ak Nat):Prop where
 sc:MF scope X.env
 nc:∀ y∈scope.names,y.2≠.cell
 cap:∀ t∈ix,scope.names.lookup (X.N.getD t Xz)=ag .free
 par:scope.names.lookup x=ag .local
 co:scope.isCoroutine=b0
 gen:scope.isGenerator=b0
end
class BmB (base:kx) (mg:Lo):Prop where
 out:∃ bm o,mg "__builtins__"=ag (.ref bm)/\bm≠Zi/\bm≠my/\base.get? bm=ag o/\o.cls = .type "module"/\o.dict=ag Zi/\o.data = .plain
section
variable {X:Cx}{pins:Ln}{σ:St}{scope:lE}{cl:ak (eG×cn)}{ix:ak Nat}{x q:eG}{params:XN}{body:hL}{pm Q8:ax}{c' f Ia St p:cn}{k:Nat}{gk:Lk D}{ρ:Lr}{S2:Lq}{y:D}{zs:ak V}{ds:ak D}{J0:ak cn}{H0:Hp}{R:ada->cv->Prop}
structure ZC (X:Cx) (pins:Ln) (scope:lE) (cl:ak (eG×cn)) (ix:ak Nat) (x q:eG) (params:XN) (body:hL) (pm Q8:ax) (c' f Ia St p:cn) (k:Nat) (gk:Lk D):Prop where
 hr:L0 (k+2) X.A
 L:Sb X scope x ix
 lc:W8 X scope cl
 hb:∀ u,VH (kla_fn "<lambda>" q params body scope cl pm (.ref c') Q8) ⟨[u],[]⟩=y8 [(x,u)]
 ok:Ju X k q scope x ix body gk
 ff:∀ H:Hp,H f=ay->hG X pins H f
 fI:∀ H:Hp,H Ia=ay->hG X pins H Ia
 fS:∀ H:Hp,H St=ay->hG X pins H St
 n1:f≠Ia
 n2:f≠St
 n3:Ia≠St
 n4:p≠Ia
 n5:p≠St
structure MinAt (X:Cx) (pins:Ln) (σ:ak (a9 V)) (scope:lE) (cl:ak (eG×cn)) (q:eG) (params:XN) (body:hL) (pm Q8:ax) (c' f Ia St p:cn) (ρ:Lr) (zs:ak V) (ds:ak D) (J0:ak cn) (H0:Hp) (j:Nat) (s:cv) (H:Hp) (J:ak cn) (S:Lq):Prop where
 I:Inv X pins σ H s
 ex:Ex J0 H0 J H
 c:Cf X J ρ S σ H
 lq:LQ X.K H J p zs
 az:Lx X.K H J ds zs
 hc:H c'=ag (DV c' q)
 nc:c'∉J
 Hf:H f=ay
 HI:H Ia=ay
 HS:H St=ay
 gf:s.heap.get? f=ag (kla_obj "<lambda>" q params body scope cl pm c' Q8)
 it:s.heap.IsListIter Ia p j
end
mutual
def tO:D->fg
 | .LN=>ba
 | .bl _=>ba
 | .int _=>ba
 | .str _=>ba
 | .tup a=>tOs a
 |_=>b0
def tOs:ak D->fg
 |[]=>ba
 |d::ds=>tO d&&tOs ds
end
def Kw (o:HO):Prop:=∃ a,o = .tup a∨∃ b,o = .QH b (.tup a)
structure W9 (scope:lE) (x n:eG):Prop where
 kind:scope.kind = .function
 nc:∀ y∈scope.names,y.2≠.cell
 par:scope.names.lookup x=ag .local
 cap:scope.names.lookup n=ag .free
 one:∀ y∈scope.names,y.2 = .free->y.1=n
 co:scope.isCoroutine=b0
 gen:scope.isGenerator=b0
noncomputable def IC (S:Lq):fg:=S.all λo=>match o with
 | .UI _ _ _ _=>b0
 |_=>ba
section
variable {K:Ll}{H:Hp}{J:ak cn}{c:cn}{oc:Obj}
structure Alone (H:Hp) (c:cn):Prop where
 st:∀ us,H c≠ag (HD c us)
 tu:∀ o,Kw o->H c≠ag o
 li:∀ xs,H c≠ag (.lst xs)/\∀ ob,H c≠ag (.QH ob (.lst xs))
 cd:∀ q,H c≠ag (DV c q)
end
section
variable {X:Cx}{W:WT}{g n z q:eG}{p pos lp:UK}{e1 e2:hL}{f1 f2:Lk D}{params:XN}{body:hL}{scope:lE}{k i:Nat}{ps:ak eG}{F:Lp}{c0 P:cn}
structure LamM (X:Cx) (σ:St) (q n:eG) (params:XN) (body:hL) (scope:lE) (lp:UK) (i:Nat) (F:Lp) (Q:V->Hp->Prop) (v1 v2:V) (f c c':cn) (pm Q8:ax) (a b dc y:D) (J:ak cn) (ρ:Lr) (S S3:Lq) (H0 H2:Hp):Prop where
 cf:Cf X J ρ S σ H0
 a1:At X.K H0 J a v1
 a2:At X.K H0 J b v2
 ri : ρ[i]?=ag (ag dc)
 eF:F [a,b,.loc S.length] (S++[.UI (.Lambda params body scope lp) q n dc])=ag (.ok y,S3)
 nc:IC S=ba
 ty:tO y=ba
 tk:S3.take S.length=S
 ex:Ex J H0 J H2
 so:LW X.K J S H2
 nf:H2 f=ay
 cj:c'∉J
 cd:H2 c'=ag (DV c' q)
 ce:X.env.cells.lookup n=ag c
 fin:∀ J' H' v,Ex J H0 J' H'->LW X.K J' S H'->At X.K H' J' y v->Q v H'
end
noncomputable def w8:ak D->a9 D
 |[.lst ds]=>(bP ds).map λns => .int ns.sum
 |_=>ay
section
variable {X:Cx}{W:WT}{a b:hL}{rest:ak hL}{fa fb:Lk D}{pos:UK}
theorem yo:uk "sum"=ag (.builtin "sum"):=by decide
theorem yg (hc:X.calm=ba):jw X (.builtin "sum") w8:=by
 intro c s B H b D Q I r h;obtain⟨J,F,d,C,m,e,q⟩:=h;unfold w8 at e;rw[1]
 ·rename_i K;obtain⟨ns,f,k⟩:=en.mp e;subst k;obtain⟨v,w,rfl,a,n⟩:=Lx.Lv.mp m;cases Lx.Ly.mp n;obtain⟨p,E,rfl,t,x⟩:=At.LK.mp a;obtain⟨u,rfl,g⟩:=vals1 r;cases g;have o:=fR f;subst o;have ev:=Lx.NW x;subst ev;obtain⟨its,z,pl,A⟩:=I.list t.sq;obtain⟨b,ex,y⟩:=kE (fA z);have i:s.heap.IsList p (ad9 b.toArray):=by have:=pl.isList;rw[ex] at this;simpa [ad9] using this
  refine sum_intListG (I.ok.hd hc) i λG tk j l=>?_;refine⟨.int ns.sum,H,I.kept (t':=tk) l,⟨j,?_⟩,q H _ (LH.refl H) (#[17])⟩;rw[preSum_eq,zh #[3],y]
 cases e
end
end L2
namespace L2
open PySem
noncomputable def stp (mask:Nat)(p:S9):S9:=
 if p.more > 0 then { p with j:=p.j+1,more:=p.more-1 } else
 { p with j:=(Yb mask p.i p.perturb).1,more:=adI mask (Yb mask p.i p.perturb).1-(Yb mask p.i p.perturb).1,i:=(Yb mask p.i p.perturb).1,perturb:=(Yb mask p.i p.perturb).2 }
noncomputable def Ii (mask:Nat):Nat->S9->S9
 | 0,p=>p
 |n+1,p=>Ii mask n (stp mask p)
noncomputable def stn (mask i p:Nat):S9:={ j:=i,more:=adI mask i-i,i:=i,perturb:=p,dummy:=ay }
noncomputable def wy (mask:Nat)(h:Int)(n:Nat):S9:=Ii mask n (stn mask (aeq h % (mask+1)) (aeq h))
def Tkn (t:E1)(j:Nat):Prop:=∃ i:Nat,t.place[i]?=ag j
structure Tb (hs:ak Int) (t:E1):Prop where
 pow:∃ k,t.mask+1=2 ^ (k+1)
 dum:t.dummies = #[]
 siz:t.place.size=hs.length
 ris:NG t.place
 le:∀ (i j:Nat),t.place[i]?=ag j->j<=t.mask
 way:∀ (i:Nat) (h:Int) (j:Nat),hs[i]?=ag h->t.place[i]?=ag j->∃ n,(wy t.mask h n).j=j/\∀ m,m<n->Tkn t (wy t.mask h m).j
end L2
namespace L2
open PySem PySem.Spec PyProof.Rows PySem.W
noncomputable def Gg:D->a9 eG
 | .str x=>ag x
 |_=>ay
noncomputable def X3:D->a9 (ak eG)
 | .tup a=>jZ Gg a
 |_=>ay
abbrev Ua (x:ak eG):D:=.tup (x.map .str)
noncomputable def Om (a b:ak eG):fg:=!Nb b a
noncomputable def U9:D->a9 (ak eG×Int)
 | .tup [d,.int n]=>(X3 d).map λx=>(x,n)
 |_=>ay
abbrev Mo (p:ak eG×Int):D:=.tup [Ua p.1,.int p.2]
noncomputable def xf (ds:ak D):a9 D:=(jZ U9 ds).bind λc=>if c.length<64/\(c.map (·.1)).Nodup then ag (.lst ((c.mergeSort λa b=>Om a.1 b.1).map Mo)) else ay
noncomputable def mC:ak D->a9 D
 |[.lst ds]=>xf ds
 |[.tup ds]=>xf ds
 |_=>ay
theorem Ee {d:D}{x:eG}(h:Gg d=ag x):d = .str x:=by
 cases d<;>first |(cases h;done) |skip
 cases h;rfl
theorem F_ {d:D}{x:ak eG}(h:X3 d=ag x):d=Ua x:=by
 cases d<;>first |(cases h;done) |skip
 exact zc D.tup (l5 (g:=D.str) (λd a h=>Ee h) h)
theorem GI {d:D}{p:ak eG×Int}(h:U9 d=ag p):d=Mo p:=by
 unfold U9 at h;split at h
 ·obtain⟨x,a,b⟩:=en.mp h;subst b;rw[F_ a]
 cases h
noncomputable def ZD (x:ak eG):la:=.tuple (x.map .str)
theorem qQ:∀ x:ak eG,cY (x.map D.str)=ag (x.map .str)
 |[]=>rfl
 |a::x=>by rw[hH,cY,qQ x];rfl
theorem Ar (x:ak eG):toPy (Ua x)=ag (ZD x):=by show (cY _).map _=_;rw[qQ];rfl
section
variable {X:Cx}{pins:Ln}{σ:St}{H:Hp}{s:cv}{J:ak cn}
theorem pJ:∀ {x:ak eG}{us:ak ax},Vals (x.map V.str) us->ItemsAre (ro X.prog X.w) x us
 |[],_,r=>by cases r;exact .nil
 |a::x,_,r=>by
  cases r with
  |cons b c =>
   obtain⟨t,rfl⟩:=b;exact .cons (by simp[ro,ach]) (pJ c)
theorem HU (I:#[10]){x:ak eG}{v:V}{u:ax}(m:At X.K H J (Ua x) v)(r:RelV v u):∃ a,v = .ref a/\u = .ref a/\Up (ro X.prog X.w) s.heap x a/\(jn X.prog X.w).is s.heap (ZD x) a:=by
 obtain⟨a,i,rfl,q,z⟩:=At.LF.mp m;cases r;obtain⟨its,h,⟨o,b,hc,n,hd⟩,_⟩:=I.tuple q.sq;obtain⟨e,c⟩:=Eb z;subst e;have d:f9 (Ua x)=ag (ZD x):=by unfold f9;rw[Ar,m4,dm];show List.all _ (keyOk 7)=ba;rw[UN];intro p f;obtain⟨y,g,rfl⟩:=vl.mp f;exact(c y g).2
 exact⟨a,rfl,rfl,⟨o,its.toArray,n,b,hc,hd,by simpa using pJ h⟩,lI I d m⟩
theorem Ir (I:#[10]){p:ak eG×Int}{v:V}{u:ax}(m:At X.K H J (Mo p) v)(r:RelV v u):∃ a,u = .ref a/\MH X.prog X.w s.heap a p.1 p.2:=by
 obtain⟨a,g,rfl,q,z⟩:=At.LF.mp m;cases r;obtain⟨its,c,⟨o,e,hc,n,hd⟩,_⟩:=I.tuple q.sq;obtain⟨j,i,rfl,m1,z⟩:=Lx.Lv.mp z;obtain⟨h,k,rfl,m2,z⟩:=Lx.Lv.mp z;cases Lx.Ly.mp z;cases At.Lu.mp m2;cases c with
 |cons d c=>cases c with
  |cons f c =>
   cases c;obtain⟨b,rfl,rfl,t,_⟩:=HU I m1 d;obtain⟨tk,rfl⟩:=f;exact⟨a,rfl,o,b,tk,n,e,hc,hd,t⟩
theorem xw (I:#[10]):∀ {xs:ak (ak eG×Int)}{vs:ak V}{us:ak ax},Lx X.K H J (xs.map Mo) vs->Vals vs us->Mi X.prog X.w s.heap us xs
 |[],vs,us,m,r=>by cases Lx.Ly.mp m;cases r;exact .nil
 |x::xs,vs,us,m,r=>by
  obtain⟨v,d,rfl,m1,m2⟩:=Lx.Lv.mp m;cases r with
  |cons b c =>
   obtain⟨a,rfl,t⟩:=Ir I m1 b;exact .cons t (xw I m2 c)
end
section
variable {X:Cx}{W:WT}
theorem v4 (hu:X.A.units+150<vu):jw X (.builtin "sorted") mC:=by
 intro pins s σ H xs us Q I r h;obtain⟨J,W,d,hJ,m,e,q⟩:=h
 have e0:∃ E,(W=[.lst E]∨W=[.tup E])/\xf E=ag d:=by
  unfold mC at e;rw[1]
  ·exact⟨_,#[9],e⟩
  ·exact⟨_,.inr rfl,e⟩
  cases e
 obtain⟨E,UG,e⟩:=e0
 have C:∃ (p:cn) (i:ak V) (its:ak ax) (o:Obj) (y:Nat) (T:W7),us=[.ref p]/\(T="list"∨T="tuple")/\s.heap.get? p=ag o/\o.cls = .type T/\o.data = .seq its.toArray y/\Lx X.K H J E i/\Vals i its:=by
  rcases UG with rfl |rfl
  ·obtain⟨v,w,rfl,a,n⟩:=Lx.Lv.mp m;cases Lx.Ly.mp n;obtain⟨p,i,rfl,t,x⟩:=At.LK.mp a;obtain⟨u,rfl,M⟩:=vals1 r;cases M;obtain⟨its,j,⟨o,y,D,hc,_,hd⟩,_⟩:=I.list t.sq;exact⟨p,i,its,o,y,_,rfl,#[9],D,hc,hd,x,j⟩
  obtain⟨v,w,rfl,a,n⟩:=Lx.Lv.mp m;cases Lx.Ly.mp n;obtain⟨p,i,rfl,t,x⟩:=At.LF.mp a;obtain⟨u,rfl,M⟩:=vals1 r;cases M;obtain⟨its,j,⟨o,D,hc,y,hd⟩,_⟩:=I.tuple t.sq;exact⟨p,i,its,o,y,_,rfl,.inr rfl,D,hc,hd,x,j⟩
 obtain⟨p,i,its,o,y,T,rfl,hT,D,hc,hd,x,j⟩:=C;obtain⟨z,es,e⟩:=hD.mp e;rw[1]
 ·rename_i N;obtain⟨N,nd⟩:=N;cases e;have ed:=l5 (λd a h=>GI h) es;subst ed;have f:its.length=z.length:=by rw[← j.length,← x.length,d7]
  have R:its.length<=d4:=by rw[f,ads];omega
  refine yL #[0] (Xl p hT D hc hd (λY k=>?_) (by rw[f3];exact R));have F:=I.kept (t':=s.toks) k;have tu:=xw F x j;refine⟨by simpa using R,Tu,Vw X.prog X.w Y,λB=>⟨xg (by simpa using tu) nd,nE B (by simpa [f] using N) ?_⟩,λo B ep L hs k2 Qk=>?_⟩
  ·have:=tu.keys;have P:abT (Vw X.prog X.w Y) its.toArray.toList=z.map (·.1):=by simpa using this
   exact Eq.mpr (zc (λl=>List.Nodup l) P) nd
  have L:o.toList.Perm its:=by simpa using L
  obtain⟨Z,Zy,a1,a2,a3⟩:=rn L j x;obtain⟨G,P,U⟩:=u8 a3;subst P;have hk:=(xw F a2 a1).keys;have TC:(G.map (·.1)).Pairwise Tu.kle:=by have:=H8.mpr hs;rw[hk] at this;exact this
  have ZE:(G.map (·.1)).Nodup:=(U.map (·.1)).nodup_iff.mpr nd
  have UX:G=z.mergeSort λa b=>Om a.1 b.1:=by
   have tr:∀ a b c:ak eG×Int,Om a.1 b.1=ba->Om b.1 c.1=ba->Om a.1 c.1=ba:=λa b c h g=>by
    have S:Tu.kle a.1 b.1:=by show Nb b.1 a.1=b0;simpa [Om] using h
    have B:Tu.kle b.1 c.1:=by show Nb c.1 b.1=b0;simpa [Om] using g
    have h3:Nb c.1 a.1=b0:=Tn (O:=Tu) S B;unfold Om;rw[h3];rfl
   have to:∀ a b:ak eG×Int,(Om a.1 b.1 ||Om b.1 a.1)=ba:=λa b=>by
    unfold Om;cases S:Nb b.1 a.1 with
    |false=>rfl
    |true =>
     have B:Nb a.1 b.1=b0:=PB (O:=Tu) S;rw[B];rfl
   refine Pf (le:=λa b=>Om a.1 b.1=ba) (λa b ha hb h g=>?_) ?_ (SX tr to z) (U.trans (S8 z _).symm)
   ·have e:a.1=b.1:=Tu.total _ _ (show Nb _ _=b0 by simpa [Om] using g) (show Nb _ _=b0 by simpa [Om] using h);have Ts:b∈G:=U.mem_iff.mpr ((S8 z _).mem_iff.mp hb);obtain⟨a1,a2⟩:=a;obtain⟨b1,b2⟩:=b;simp only at e;subst e;rw[t6 ZE ha Ts]
   refine(H8.mp TC).imp λh=>?_;unfold Om;rw[show Nb _ _=b0 from h];rfl
  subst UX;have hl:Z.length<=d4:=by rw[a1.length,L.length_eq];exact R
  exact⟨.ref _,_,F.laid (t':=s.toks) (o:=.lst Z) k2 (hB _) ⟨hl,o.toList,ep,a1,by simpa using Qk⟩,rfl,q _ _ (aO F.fresh _) (At.MP a2 F.fresh hJ hl)⟩
 cases e
end
end L2
namespace L2
open PySem PyProof.Rows
section
variable (f g:Lk D) (ρ:Lr) (S:Lq) (i:Nat) (k:fg)
@[simp] theorem K4 (d:D):aE d ρ S=LB d S:=rfl
@[simp] theorem K7 (op:D->D->a9 D):aH op f g ρ S=ai (f ρ S) λx a=>ai (g ρ a) λy S2=>aL (op x y) S2:=rfl
@[simp] theorem La (op:D->a9 D):Vj op f ρ S=ai (f ρ S) λx a=>aL (op x) a:=rfl
@[simp] theorem KD:bq f ρ S=ai (f ρ S) λx a=>aL (RG x) a:=rfl
@[simp] theorem JG (a b:D->D->a9 D)(h:Lk D):Ht a b f g h ρ S=ai (f ρ S) λx d=>ai (g ρ d) λy S2=>ai (aL ((a x y).bind RG) S2) λk c=>if k=ba then ai (h ρ c) λz e=>aL (b y z) e else LB (.bl b0) c:=rfl
@[simp] theorem Kp (a b:Lk fg):wg a b ρ S=ai (a ρ S) λk c=>if k=ba then b ρ c else LB b0 c:=rfl
@[simp] theorem KJ (a b:Lk fg):DH a b ρ S=ai (a ρ S) λk c=>if k=ba then LB ba c else b ρ c:=rfl
@[simp] theorem Ke (a:Lk fg):z5 a ρ S=ai (a ρ S) λk b=>LB (!k) b:=rfl
@[simp] theorem K9:Kt f g ρ S=ai (f ρ S) λx a=>ai (aL (RG x) a) λk S2=>if k=ba then g ρ S2 else LB (.bl b0) S2:=rfl
@[simp] theorem Lc:cOr f g ρ S=ai (f ρ S) λx a=>ai (aL (RG x) a) λk S2=>if k=ba then LB (.bl ba) S2 else g ρ S2:=rfl
@[simp] theorem KK:Kr f ρ S=ai (f ρ S) λx a=>ai (aL (RG x) a) λk S2=>LB (.bl (!k)) S2:=rfl
@[simp] theorem KR (t:Lk fg):qd t f g ρ S=ai (t ρ S) λk a=>if k=ba then f ρ a else g ρ a:=rfl
@[simp] theorem Jc:aC ρ S=LB [] S:=rfl
@[simp] theorem Hh (t:Lk (ak D)):ah f t ρ S=ai (f ρ S) λd a=>ai (t ρ a) λds S2=>LB (d::ds) S2:=rfl
@[simp] theorem KC (t:Lk (ak D)):lS t ρ S=ai (t ρ S) λds a=>aL (N4 ds (.tup ds)) a:=rfl
@[simp] theorem KO (t:Lk (ak D)):DL t ρ S=ai (t ρ S) λds a=>aL (N4 ds (.lst ds)) a:=rfl
@[simp] theorem Kn (h:ak D->a9 D)(t:Lk (ak D)):bA h t ρ S=ai (t ρ S) λds a=>aL (h ds) a:=rfl
@[simp] theorem Kf:dz ρ S=LB (.next ρ) S:=rfl
@[simp] theorem F2 (a b:Lk Fl):aP a b ρ S=ai (a ρ S) λe d=>match e with
 | .next c=>b c d
 |o=>LB o d:=rfl
@[simp] theorem KH:bg f ρ S=ai (f ρ S) λd a=>LB (.ret d) a:=rfl
@[simp] theorem Lf (t:Lk fg)(a b:Lk Fl):PF t a b ρ S=ai (t ρ S) λk c=>if k=ba then a ρ c else b ρ c:=rfl
@[simp] theorem KF:bC i f ρ S=ai (f ρ S) λd a=>LB (.next (ρ.set i (ag d))) a:=rfl
@[simp] theorem KU (a:Lk (ak D))(u:D->Lr->a9 Lr)(b:Lk Fl):iD a u b ρ S=ai (a ρ S) λds c=>fj u b ds ρ c:=rfl
@[simp] theorem KG (h:ak D->a9 (ak D))(t:Lk (ak D)):f_ h t ρ S=ai (t ρ S) λds a=>aL (h ds) a:=rfl
@[simp] theorem JA:bN f ρ S=ai (f ρ S) λd a=>aL (ck d) a:=rfl
@[simp] theorem Ka:eO ρ S=LB ba S:=rfl
@[simp] theorem KZ (F:Lp)(t:Lk (ak D)):aQ F t ρ S=ai (t ρ S) λds a=>j8 (F ds a):=rfl
@[simp] theorem JE (d:D):j8 (LB d S)=LB d S:=rfl
@[simp] theorem Jb (d:D):j8 (ag (.ok d,S))=LB d S:=rfl
@[simp] theorem Ld:Nh f g ρ S=ai (f ρ S) λx a=>ai (g ρ a) λy S2=>aL (Mn x y S2) S2:=rfl
@[simp] theorem Le:Rg k f g ρ S=ai (f ρ S) λx a=>ai (g ρ a) λy S2=>aL (Rf k x y S2) S2:=rfl
@[simp] theorem Kb:zZ f ρ S=ai (f ρ S) λd a=>aL (oW d a) a:=rfl
@[simp] theorem KL:we ρ S=LB (#[11]) (S++[.dict []]):=rfl
@[simp] theorem KI (h:Lk D):yn f g h ρ S=ai (h ρ S) λv b=>ai (f ρ b) λx S2=>ai (g ρ S2) λk a=>u4 x k v ρ a:=rfl
@[simp] theorem Km (n:Nat)(ix:ak Nat)(a:Lk (ak D))(u:D->Lr->a9 Lr)(gt:Lk fg):c_ n ix a u gt f ρ S=ai (a ρ S) λds b =>
 match cH u gt f ds (cg n ix ρ) b with
 |ag (out,S2)=>LB (.lst out) S2
 |ay=>ay:=rfl
@[simp] theorem Lb (op:D->a9 Int->a9 Int->a9 D)(lo a:a9 (Lk D)):Q_ op f lo a ρ S=ai (f ρ S) λx c=>ai (lT lo ρ c) λl S2=>ai (lT a ρ S2) λu b=>aL (op x l u) b:=rfl
@[simp] theorem JD:lT ay ρ S=LB ay S:=rfl
@[simp] theorem JC:lT (ag f) ρ S=ai (f ρ S) λd a=>aL (xS d) a:=rfl
@[simp] theorem KN (a:D->fg)(op:D->D->a9 D):DJ a op f g ρ S=ai (f ρ S) λx b=>if a x=ba then ai (g ρ b) λy S2=>aL (op x y) S2 else ay:=rfl
@[simp] theorem KB (d:D)(h : ρ[i]?=ag (ag d)):af i ρ S=LB d S:=by unfold af;rw[h]
@[simp] theorem Fq (d:D):aB i d ρ=ag (ρ.set i (ag d)):=rfl
@[simp] theorem K6 (b:fg):RG (.bl b)=ag b:=rfl
end
@[simp] theorem bY {ds:ak D}{d:D}(h:ds.length<=1000):N4 ds d=ag d:=by
 unfold N4;rw[dm (hA h #[2])]
theorem aA {n m:Nat}{G:Lk Fl}{ds:ak D}{S a:Lq}{d:D}(b:ds.length=n)(h:G (ds.map ag++ih m ay) S=LB (.ret d) a):a8 n m G ds S=LB d a:=by unfold a8;rw[dm b,h];rfl
theorem fV {u:D->Lr->a9 Lr}{gt:Lk fg}{fe:Lk D}(I:Lr->Prop)(g:D->fg)(f:D->D)(S:Lq) :
  ∀ (ds:ak D) (ρ:Lr),I ρ->(∀ d∈ds,∀ ρ,I ρ->∃ a,u d ρ=ag a/\I a/\gt a S=LB (g d) S/\(g d=ba->fe a S=LB (f d) S))->cH u gt fe ds ρ S=ag ((ds.filter g).map f,S)
 |[],ρ,_,_=>rfl
 |d::ds,ρ,hI,h=>by
  obtain⟨a,e,l,j,i⟩:=h d (gy ..) ρ hI;have c:=fV I g f S ds a l λx k=>h x (eJ _ k);rw[cH,e,m4,j];simp only[LB,UL,m4];by_cases b:g d=ba
  ·rw[dm b,i b];simp only[LB,UL,m4,c,VM,Ue,b,n7,hH]
  rw[dV b,c,Ue,dV b]
theorem dQ {u:D->Lr->a9 Lr}{fe:Lk D}(I:Lr->Prop)(f:D->D)(S:Lq)(ds:ak D)(ρ:Lr)(e:I ρ)
  (h:∀ d∈ds,∀ ρ,I ρ->∃ a,u d ρ=ag a/\I a/\fe a S=LB (f d) S):cH u eO fe ds ρ S=ag (ds.map f,S):=by
 have q:=fV (u:=u) (gt:=eO) (fe:=fe) I (λ_=>ba) f S ds ρ e λd hd ρ hr=>by obtain⟨a,c,b,g⟩:=h d hd ρ hr;exact⟨a,c,b,rfl,λ_=>g⟩
 rw[q,acf.mpr λ_ _=>rfl]
theorem bF {u:D->Lr->a9 Lr}{body:Lk Fl}(I:Nat->Lr->Lq->Prop):∀ (ds:ak D) (i:Nat) (ρ:Lr) (S:Lq),I i ρ S ->
  (∀ (j:Nat) d ρ S,ds[j]?=ag d->I (i+j) ρ S->∃ k,u d ρ=ag k/\∃ g l,body k S=LB (.next g) l/\I (i+j+1) g l)->∃ g l,fj u body ds ρ S=LB (.next g) l/\I (i+ds.length) g l
 |[],i,ρ,S,m,_=>⟨ρ,S,rfl,m⟩
 |d::ds,i,ρ,S,m,h=>by
  obtain⟨k,o,g,l,r,s⟩:=h 0 d ρ S rfl m
  obtain⟨n,p,q,v⟩:=bF I ds (i+1) g l s λj x ρ S t w=>by
   obtain⟨a,b,c,d,e,f⟩:=h (j+1) x ρ S (by simpa using t) (by rw[show i+(j+1)=i+1+j by omega];exact w);exact⟨a,b,c,d,e,by rw[show i+1+j+1=i+(j+1)+1 by omega];exact f⟩
  refine⟨n,p,?_,by rw[j2,show i+(ds.length+1)=i+1+ds.length by omega];exact v⟩;rw[fj,o];simp only[r,cI];exact q
mutual
def pl:D->fg
 | .tup a=>W_ a
 | .lst a=>W_ a
 | .set _=>b0
 | .loc _=>b0
 | .fn _ _=>b0
 |_=>ba
def W_:ak D->fg
 |[]=>ba
 |d::ds=>pl d&&W_ ds
end
mutual
theorem yE:∀ {d:D},pl d=ba->∃ p,toPy d=ag p
 | .LN,_=>⟨_,rfl⟩
 | .bl _,_=>⟨_,rfl⟩
 | .int _,_=>⟨_,rfl⟩
 | .str _,_=>⟨_,rfl⟩
 | .tup b,h=>by
  rw[pl] at h;obtain⟨a,e⟩:=oQ h;exact⟨.tuple a,by rw[toPy,e];rfl⟩
 | .lst b,h=>by
  rw[pl] at h;obtain⟨a,e⟩:=oQ h;exact⟨.list a,by rw[toPy,e];rfl⟩
 | .set _,h=>by simp[pl] at h
 | .loc _,h=>by simp[pl] at h
 | .fn _ _,h=>by simp[pl] at h
theorem oQ:∀ {ds:ak D},W_ ds=ba->∃ a,cY ds=ag a
 |[],_=>⟨[],rfl⟩
 |d::ds,h=>by
  rw[W_,mc] at h;obtain⟨p,b⟩:=yE h.1;obtain⟨a,c⟩:=oQ h.2;exact⟨p::a,by rw[cY,b,c];rfl⟩
end
theorem FF {α:Type}[BEq α][LawfulBEq α][PR α](a b : α):(a==b)=dv (a=b):=by by_cases h:a=b<;>simp[h]
@[simp] theorem Fo (i j:Int):N5 (.int i) (.int j)=ag (.bl (dv (i=j))):=by simp[N5,toPy,iv,wt,FF]
@[simp] theorem Jz (i j:Int):PV (.int i) (.int j)=ag (.bl (!dv (i=j))):=by simp[PV,toPy,iv,wt,FF]
@[simp] theorem J9 (a b:fg):N5 (.bl a) (.bl b)=ag (.bl (a==b)):=by simp[N5,toPy,iv,wt]
theorem hZ:∀ l:ak eG,cY (l.map .str)=ag (l.map .str)
 |[]=>rfl
 |a::l=>by rw[hH,cY,hZ l];rfl
theorem pR:∀ l m:ak eG,ti (l.map .str) (m.map .str)=dv (l=m)
 |[],[]=>rfl
 |[],b::m=>by simp[ti]
 |a::l,[]=>by simp[ti]
 |a::l,b::m=>by
  rw[hH,hH,ti,pR l m];simp only[iv,OH];by_cases h:a=b<;>by_cases c:l=m<;>simp[h,c]
theorem pV:∀ l:ak eG,QK (l.map .str)=0
 |[]=>rfl
 |a::l=>by rw[hH,QK,pV l];rfl
theorem in3 (x a b c:eG):inD (.str x) (.tup [.str a,.str b,.str c])=ag (.bl (dv (a=x) ||(dv (b=x) ||dv (c=x)))):=by simp[inD,xW,toPy,cY,xj,iv,wt,FF]
section
variable (ρ:Lr) (S:Lq)
@[simp] theorem Kl (F:Lp)(t:Lk (ak D)):Jf F t ρ S=ai (t ρ S) λds a=>F ds a:=rfl
@[simp] theorem JB (c:eG)(t:Lk (ak D)):Hq c t ρ S=ai (t ρ S) λds a=>ai (aL (N4 ds .LN) a) λ_ S2=>ag (.error c,S2):=rfl
@[simp] theorem KS (a:eG->a9 fg)(f:Lk D):Ks a f ρ S=ai (f ρ S) λd b=>aL (IQ a d b) b:=rfl
end
end L2
namespace LI
open PySem L2
noncomputable def Do:Lk Fl:=
  (bg (aH N5 (bA eV (ah (af 0) aC)) (aE (.int 3))))
noncomputable def eZ:Lp:=a8 1 0 Do
noncomputable def lM:Lk Fl:=
  (bg (qd (bq (aQ eZ (ah (af 0) aC))) (Q_ Pj (af 0) (ag (aE (.int 1))) ay) (lS aC)))
noncomputable def cz:Lp:=a8 1 0 lM
noncomputable def pO:Lk Fl:=
  (bg (qd (bq (aQ eZ (ah (af 0) aC))) (DJ fQ jM (af 1) (Nh (af 0) (aE (.int 0)))) (bA eV (ah (af 1) aC))))
noncomputable def kQ:Lp:=a8 2 0 pO
noncomputable def rS:Lk Fl:=
  (aP (bC 4 (By (af 0) (af 1)))
  (bg (qd (bq (aH N5 (Nh (af 4) (aE (.int 0))) (af 2))) (Nh (af 4) (aH bh (aE (.int 1)) (af 3))) (af 1))))
noncomputable def m6:Lp:=a8 4 1 rS
noncomputable def b8 (rec:Lp):Lk Fl:=
  (PF (bq (Rg ba (af 3) (af 2))) (qe (aQ rec (ah (af 0) (ah (af 3) (ah (af 2) aC))))) dz)
noncomputable def eL (rec:Lp):Lk Fl:=
  (aP (iD (bN (aQ cz (ah (By (af 0) (af 1)) aC))) (aB 3) (b8 rec))
  (yn (af 2) (af 1) (aE (.bl ba))))
noncomputable def br:Nat->Lp
 | 0=>λ_ _=>ay
 |n+1=>a8 3 1 (eL (br n))
noncomputable def jj:Lk Fl:=
  (aP (bC 2 we)
  (aP (qe (aQ (br 12) (ah (af 0) (ah (af 1) (ah (af 2) aC)))))
  (bg (mS (af 2)))))
noncomputable def f6:Lp:=a8 2 1 jj
noncomputable def ji:Lk Fl:=
  (bg (qd (bq (aQ eZ (ah (af 0) aC))) (lS (ah (Nh (af 0) (aE (.int 0))) (ah (Nh (af 1) (Nh (af 0) (aE (.int 1)))) (ah (Nh (af 1) (Nh (af 0) (aE (.int 2)))) aC)))) (af 0)))
noncomputable def fZ:Lp:=a8 2 0 ji
noncomputable def iP:Lk D:=
  (aE .LN)
noncomputable def gJ:Lk Fl:=
  (bg (bA iU (ah (c_ 1 [] (f_ eE (ah (af 0) aC)) (aB 0) eO iP) aC)))
noncomputable def d8:Lp:=a8 1 0 gJ
noncomputable def iq:Lk Fl:=
  (bg (aH bh (aH bh (Q_ Pj (af 0) ay (ag (af 1))) (lS (ah (af 2) aC))) (Q_ Pj (af 0) (ag (aH bh (af 1) (aE (.int 1)))) ay)))
noncomputable def dC:Lp:=a8 3 0 iq
noncomputable def fH:Lk fg:=
  (bq (aH RH (af 1) (aE .LN)))
noncomputable def fU:Lk D:=
  (af 0)
noncomputable def ir:Lk Fl:=
  (bg (c_ 2 [] (f_ ki (ah (af 0) aC)) (ft 2 (aK (aB 0) (aK (aB 1) ca))) fH fU))
noncomputable def dD:Lp:=a8 1 0 ir
noncomputable def fm:Lk Fl:=
  (wf 1 (aE (.int 2)))
noncomputable def gm:Lk Fl:=
  (aP (bC 1 (aE (.int 1)))
  (aP (iD (bN (aQ dD (ah (af 0) aC))) (aB 2) fm)
  (bg (af 1))))
noncomputable def dE:Lp:=a8 1 2 gm
noncomputable def rR:Lk Fl:=
  (aP (bC 2 (qd (bq (aQ eZ (ah (af 0) aC))) (Nh (af 1) (Nh (af 0) (aE (.int 0)))) (aE .LN)))
  (bg (qd (bq (aH RH (af 2) (aE .LN))) (aQ cz (ah (af 0) aC)) (lS (ah (Nh (af 0) (aH bh (aE (.int 1)) (af 2))) aC)))))
noncomputable def m5:Lp:=a8 2 1 rR
noncomputable def gp:Lk D:=
  (aE (.int 0))
noncomputable def bK:Lk Fl:=
  (qg (af 2) (af 5) (aH dH (uq (af 2) (af 3)) (bA eV (ah (af 4) aC))))
noncomputable def dA:Lk Fl:=
  (aP (bC 4 (aQ m5 (ah (Nh (af 0) (af 3)) (ah (af 1) aC))))
  (iD (bN (af 4)) (aB 5) bK))
noncomputable def iN:Lk Fl:=
  (aP (bC 2 (qf 1 [] (bN (af 0)) (aB 0) eO gp))
  (aP (z_ (af 2) (Vj vh (aE (.int 1))) (aQ dE (ah (af 1) aC)))
  (aP (iD (f_ uX (ah (aH uN (bA eV (ah (af 0) aC)) (aE (.int 1))) (ah (Vj vh (aE (.int 1))) (ah (Vj vh (aE (.int 1))) aC)))) (aB 3) dA)
  (bg (af 2)))))
noncomputable def bv:Lp:=a8 2 4 iN
noncomputable def cJ:Lk fg:=
  (wg (z5 (bq (aQ eZ (ah (af 1) aC)))) (bq (Rg b0 (af 2) (Nh (af 1) (aE (.int 1))))))
noncomputable def iO:Lk D:=
  (af 0)
noncomputable def gI:Lk Fl:=
  (bg (c_ 2 [1] (f_ ki (ah (af 0) aC)) (ft 2 (aK (aB 0) (aK (aB 1) ca))) cJ iO))
noncomputable def b_:Lp:=a8 2 0 gI
noncomputable def iw:Lk D:=
  (Nh (af 1) (af 0))
noncomputable def kH:Lk Fl:=
  (aP (bC 3 (jQ (aQ bv (ah (af 0) (ah (af 2) aC)))))
  (bg (bA w8 (ah (c_ 1 [3] (bN (af 1)) (aB 0) eO iw) aC))))
noncomputable def cU:Lp:=a8 3 1 kH
noncomputable def cL:Lk Fl:=
  (aP (bC 5 (aQ dC (ah (af 3) (ah (af 4) (ah (aE (.int 0)) aC)))))
  (bC 3 (qd (bq (aH Vk (aQ cU (ah (af 0) (ah (af 1) (ah (af 5) aC)))) (aE (.int 0)))) (af 5) (aQ dC (ah (af 3) (ah (af 4) (ah (aE (.int 1)) aC)))))))
noncomputable def cG:Lk Fl:=
  (aP (PF (bq (aH N5 (aQ cU (ah (af 0) (ah (af 1) (ah (af 2) aC)))) (aE (.int 0)))) (bg (aE .LN)) dz)
  (aP (bC 3 (af 2))
  (aP (iD (bN (aQ dD (ah (af 2) aC))) (aB 4) cL)
  (bg (af 3)))))
noncomputable def gL:Lp:=a8 3 3 cG
noncomputable def eA:Lk fg:=
  (z5 (bq (aQ eZ (ah (af 0) aC))))
noncomputable def gr:Lk D:=
  (lS (ah (Nh (af 0) (aE (.int 1))) (ah (af 1) aC)))
noncomputable def mO:Lk Fl:=
  (bg (c_ 2 [] (f_ Ak (ah (af 0) (ah (jQ (aQ bv (ah (af 0) (ah (af 1) aC)))) aC))) (ft 2 (aK (aB 0) (aK (aB 1) ca))) eA gr))
noncomputable def jS:Lp:=a8 2 0 mO
noncomputable def dJ:Lk fg:=
  (bq (aH Vk (Nh (af 0) (aE (.int 1))) (aE (.int 0))))
noncomputable def dP:Lk D:=
  (Nh (af 0) (aE (.int 0)))
noncomputable def fT:Lk Fl:=
  (bg (c_ 1 [] (bN (aQ jS (ah (af 0) (ah (af 1) aC)))) (aB 0) dJ dP))
noncomputable def dF:Lp:=a8 2 0 fT
noncomputable def iE:Lk Fl:=
  (qe (Hs (af 2) (af 3)))
noncomputable def kG:Lk Fl:=
  (aP (bC 2 wc)
  (aP (iD (bN (aQ dF (ah (af 0) (ah (af 1) aC)))) (aB 3) iE)
  (bg (bA iU (ah (mW (af 2)) aC)))))
noncomputable def iG:Lp:=a8 2 2 kG
noncomputable def pP:Lk Fl:=
  (bg (bA iU (ah (bA mC (ah (aQ jS (ah (af 0) (ah (aQ d8 (ah (af 1) aC)) aC))) aC)) aC)))
noncomputable def qj:Lp:=a8 2 0 pP
noncomputable def iu:Lk Fl:=
  (bg (aQ cU (ah (af 0) (ah (aQ b_ (ah (af 0) (ah (af 1) aC))) (ah (af 2) aC)))))
noncomputable def bL:Lp:=a8 3 0 iu
noncomputable def mN:Lk Fl:=
  (bg (aQ gL (ah (af 0) (ah (aQ b_ (ah (af 0) (ah (af 1) aC))) (ah (af 2) aC)))))
noncomputable def hU:Lp:=a8 3 0 mN
noncomputable def dU:Lk fg:=
  (bq (aQ eZ (ah (af 2) aC)))
noncomputable def b9:Lk Fl:=
  (bC 2 (Nh (af 0) (Nh (af 2) (aH bh (aE (.int 1)) (Nh (af 1) (Nh (af 2) (aE (.int 0))))))))
noncomputable def nL:Lk Fl:=
  (aP (bC 2 (Nh (af 0) (Vj vh (aE (.int 1)))))
  (aP (um 20 dU b9)
  (bg (Nh (af 2) (aE (.int 1))))))
noncomputable def gF:Lp:=a8 2 1 nL
noncomputable def eX:Lk Fl:=
  (aP (p_ "Rows" "order" (af 0) (af 1))
  (aP (p_ "Rows" "gathered" (af 0) wc)
  (aP (p_ "Rows" "numbers" (af 0) z6)
  (p_ "Rows" "choices" (af 0) z6))))
noncomputable def bZ:Lp:=a8 2 0 eX
noncomputable def cT:Lk Fl:=
  (yn (af 3) (af 5) (af 4))
noncomputable def bW:Lk D:=
  (aQ fZ (ah (uq (jt "Rows" "gathered" (af 2)) (af 0)) (ah (af 1) aC)))
noncomputable def g9:Lk Fl:=
  (aP (bC 2 (aQ f6 (ah (jt "Rows" "gathered" (af 0)) (ah (af 1) aC))))
  (aP (bC 3 we)
  (aP (iD (f_ t_ (ah (af 2) aC)) (ft 2 (aK (aB 4) (aK (aB 5) ca))) cT)
  (bg (bA iU (ah (c_ 1 [3,0] (bN (af 2)) (aB 0) eO bW) aC))))))
noncomputable def dS:Lp:=a8 2 4 g9
noncomputable def bj:Lk D:=
  (aQ kQ (ah (uq (jt "Rows" "gathered" (af 1)) (af 0)) (ah (jt "Rows" "order" (af 1)) aC)))
noncomputable def dj:Lk Fl:=
  (aP (bC 4 (c_ 1 [0] (bN (lS (ah (af 2) (ah (af 3) aC)))) (aB 0) eO bj))
  (bg (Nh (jt "Rows" "order" (af 0)) (bA pD (ah (aH bh (af 4) (DL (ah (DJ fQ jM (jt "Rows" "order" (af 0)) (af 1)) aC))) aC)))))
noncomputable def bX:Lp:=a8 4 1 dj
noncomputable def dO:Lk Fl:=
  (aP (PF (bq (DI ba (af 1) (jt "Rows" "numbers" (af 0)))) (aP (wb (jt "Rows" "numbers" (af 0)) (af 1) (DD (jt "Rows" "gathered" (af 0))))
  (qe (Hu (jt "Rows" "gathered" (af 0)) (af 1)))) dz)
  (bg (z7 (jt "Rows" "numbers" (af 0)) (af 1))))
noncomputable def bT:Lp:=a8 2 0 dO
noncomputable def cr:Lk Fl:=
  (bg (qd (bq (aH N5 (af 2) (af 3))) (af 2) (dI "Rows" "number_of" bT (af 0) (ah (lS (ah (af 1) (ah (af 2) (ah (af 3) aC)))) aC))))
noncomputable def bM:Lp:=a8 4 0 cr
noncomputable def nM:Lk Fl:=
  (bg (aQ m6 (ah (jt "Rows" "gathered" (af 0)) (ah (af 1) (ah (af 2) (ah (af 3) aC))))))
noncomputable def bV:Lp:=a8 4 0 nM
noncomputable def cS (rec:Lp):Lk Fl:=
  (aP (bC 4 (dI "Rows" "first_character" bX (af 0) (ah (af 1) (ah (af 2) (ah (af 3) aC)))))
  (aP (PF (bq (aH N5 (af 4) (af 1))) (bg (dI "Rows" "number_of_ask" bM (af 0) (ah (af 1) (ah (dI "Rows" "side" bV (af 0) (ah (af 2) (ah (af 1) (ah (aE (.int 0)) aC)))) (ah (dI "Rows" "side" bV (af 0) (ah (af 3) (ah (af 1) (ah (aE (.int 1)) aC)))) aC))))) dz)
  (aP (bC 5 (dI "Rows" "choose" rec (af 0) (ah (af 1) (ah (dI "Rows" "side" bV (af 0) (ah (af 2) (ah (af 4) (ah (aE (.int 0)) aC)))) (ah (dI "Rows" "side" bV (af 0) (ah (af 3) (ah (af 4) (ah (aE (.int 0)) aC)))) aC)))))
  (aP (bC 6 (dI "Rows" "choose" rec (af 0) (ah (af 1) (ah (dI "Rows" "side" bV (af 0) (ah (af 2) (ah (af 4) (ah (aE (.int 1)) aC)))) (ah (dI "Rows" "side" bV (af 0) (ah (af 3) (ah (af 4) (ah (aE (.int 1)) aC)))) aC)))))
  (bg (dI "Rows" "number_of_ask" bM (af 0) (ah (af 4) (ah (af 5) (ah (af 6) aC)))))))))
noncomputable def cV (rec:Lp):Lp:=a8 4 3 (cS rec)
noncomputable def dZ (rec:Lp):Lk Fl:=
  (aP (bC 4 (lS (ah (af 1) (ah (af 2) (ah (af 3) aC)))))
  (aP (PF (bq (DI ba (af 4) (jt "Rows" "choices" (af 0)))) (wb (jt "Rows" "choices" (af 0)) (af 4) (qd (bq (aH N5 (af 2) (af 3))) (af 2) (dI "Rows" "choose_anew" (cV rec) (af 0) (ah (af 1) (ah (af 2) (ah (af 3) aC)))))) dz)
  (bg (z7 (jt "Rows" "choices" (af 0)) (af 4)))))
noncomputable def d9:Nat->Lp
 | 0=>λ_ _=>ay
 |n+1=>a8 4 1 (dZ (d9 n))
noncomputable def eW (rec:Lp):Lk Fl:=
  (aP (PF (bq (aH N5 (Nh (af 1) (aE (.int 0))) (aE (.str "names")))) (bg (dI "Rows" "number_of" bT (af 0) (ah (af 1) aC))) dz)
  (bg (dI "Rows" "choose" (d9 11) (af 0) (ah (Nh (af 1) (aE (.int 1))) (ah (aQ rec (ah (af 0) (ah (Nh (af 1) (aE (.int 2))) aC))) (ah (aQ rec (ah (af 0) (ah (Nh (af 1) (aE (.int 3))) aC))) aC))))))
noncomputable def cM:Nat->Lp
 | 0=>λ_ _=>ay
 |n+1=>a8 2 0 (eW (cM n))
noncomputable def vO:Lk Fl:=
  (aP (bC 2 (z8 "Rows" bZ (ah (af 1) aC)))
  (bg (dI "Rows" "fold_from" dS (af 2) (ah (aQ (cM 15) (ah (af 2) (ah (af 0) aC))) aC))))
noncomputable def l8:Lp:=a8 2 1 vO
noncomputable def nK:Lk Fl:=
  (aP (PF (bq (aH UJ (af 1) (bA eV (ah (af 0) aC)))) (bg (Nh (af 0) (af 1))) dz)
  (bg (aE (.int 0))))
noncomputable def jv:Lp:=a8 2 0 nK
noncomputable def rX:Lk Fl:=
  (aP (bC 2 (aH cw (aH cD (aH bh (aH bh (aQ jv (ah (af 0) (ah (af 1) aC))) (aH cD (aE (.int 7919)) (af 1))) (aE (.int 1))) (aE (.int 48271))) (aE (.int 2147483647))))
  (bg (aH cw (aH bh (aH bh (aH cD (af 2) (af 2)) (aH cD (aE (.int 7)) (af 2))) (af 1)) (aE (.int 2147483629)))))
noncomputable def bu:Lp:=a8 2 1 rX
noncomputable def rY:Lk Fl:=
  (aP (bC 2 (aH cw (aH cD (aH bh (aH bh (af 0) (aH cD (aE (.int 104729)) (af 1))) (aE (.int 17))) (aE (.int 69621))) (aE (.int 2147483647))))
  (bg (aH cw (aH bh (aH bh (aH cD (af 2) (af 2)) (aH cD (aE (.int 3)) (af 2))) (af 1)) (aE (.int 2147483629)))))
noncomputable def dR:Lp:=a8 2 1 rY
noncomputable def gD:Lk Fl:=
  (bC 5 (aH bh (af 5) (Nh (af 1) (aH cw (aH dH (af 4) (aH bh (aH cD (aE (.int 31)) (af 6)) (aE (.int 29)))) (aE (.int 26))))))
noncomputable def gC:Lk Fl:=
  (aP (bC 4 (aQ dR (ah (af 0) (ah (af 3) aC))))
  (aP (bC 5 (Nh (af 1) (aH cw (af 4) (aE (.int 26)))))
  (aP (iD (f_ eE (ah (aH cD (aH cw (aH dH (af 4) (aE (.int 26))) (aE (.int 8))) (aH cw (af 0) (aE (.int 2)))) aC)) (aB 6) gD)
  (yn (af 2) (aH bh (af 5) (aH cD (aE (.str "q")) (bA intD (ah (Rg b0 (af 5) (aE (D.tup [(D.str "names"),(D.str "ask"),(D.str "end")]))) aC)))) (aE (.bl ba))))))
noncomputable def rQ:Lk Fl:=
  (aP (bC 1 (aE (#[20])))
  (aP (bC 2 we)
  (aP (iD (f_ eE (ah (aE (.int 6)) aC)) (aB 3) gC)
  (bg (bA iU (ah (zZ (af 2)) aC))))))
noncomputable def mZ:Lp:=a8 1 6 rQ
noncomputable def i5:Lk fg:=
  (bq (aH N5 (aH cw (aH dH (af 2) (aH bh (aH cD (aE (.int 3)) (af 0)) (aE (.int 1)))) (aE (.int 4))) (aE (.int 0))))
noncomputable def jk:Lk D:=
  (af 1)
noncomputable def rW:Lk Fl:=
  (bg (bA iU (ah (c_ 2 [0] (f_ ki (ah (af 1) aC)) (ft 2 (aK (aB 0) (aK (aB 1) ca))) i5 jk) aC)))
noncomputable def m_:Lp:=a8 2 0 rW
noncomputable def t5 (rec:Lp):Lk Fl:=
  (aP (PF (DH (bq (aH N5 (af 3) (aE (.int 0)))) (bq (aH N5 (aH cw (af 0) (aE (.int 7))) (aE (.int 0))))) (bg (lS (ah (aE (.str "names")) (ah (aQ m_ (ah (aH dH (af 0) (aE (.int 7))) (ah (af 1) aC))) aC)))) dz)
  (aP (bC 4 (aQ rec (ah (aQ dR (ah (af 0) (ah (aE (.int 1)) aC))) (ah (af 1) (ah (af 2) (ah (aH uN (af 3) (aE (.int 1))) aC))))))
  (aP (bC 5 (aQ rec (ah (aQ dR (ah (af 0) (ah (aE (.int 2)) aC))) (ah (af 1) (ah (af 2) (ah (aH uN (af 3) (aE (.int 1))) aC))))))
  (bg (lS (ah (aE (.str "ask")) (ah (aH cw (aH dH (af 0) (aE (.int 7))) (af 2)) (ah (af 4) (ah (af 5) aC)))))))))
noncomputable def l7:Nat->Lp
 | 0=>λ_ _=>ay
 |n+1=>a8 4 2 (t5 (l7 n))
noncomputable def gE:Lk Fl:=
  (aP (bC 4 (aH cw (aQ dR (ah (af 0) (ah (af 3) aC))) (aH bh (bA eV (ah (af 2) aC)) (aE (.int 1)))))
  (bC 2 (aH bh (aH bh (Q_ Pj (af 2) ay (ag (af 4))) (DL (ah (af 3) aC))) (Q_ Pj (af 2) (ag (af 4)) ay))))
noncomputable def rV:Lk Fl:=
  (aP (bC 2 (DL aC))
  (aP (iD (f_ eE (ah (af 1) aC)) (aB 3) gE)
  (bg (bA iU (ah (af 2) aC)))))
noncomputable def m9:Lp:=a8 2 3 rV
noncomputable def gq:Lk D:=
  (Nh (aE (D.tup [D.LN,(D.int 0),(D.int 1),D.LN])) (aH cw (aQ dR (ah (af 1) (ah (af 0) aC))) (aE (.int 4))))
noncomputable def rT:Lk Fl:=
  (bg (bA iU (ah (c_ 1 [0] (f_ eE (ah (af 1) aC)) (aB 0) eO gq) aC)))
noncomputable def m8:Lp:=a8 2 0 rT
noncomputable def lP:Lk D:=
  (aH bh (af 0) (aE (D.tup [(D.int 0)])))
noncomputable def lO:Lk D:=
  (aH bh (af 0) (aE (D.tup [(D.int 1)])))
noncomputable def fC:Lk Fl:=
  (bC 1 (aH bh (c_ 1 [] (bN (af 1)) (aB 0) eO lP) (c_ 1 [] (bN (af 1)) (aB 0) eO lO)))
noncomputable def pN:Lk Fl:=
  (aP (bC 1 (aE (D.lst [(D.tup [])])))
  (aP (iD (f_ eE (ah (af 0) aC)) (aB 2) fC)
  (bg (bA sW (ah (af 1) aC)))))
noncomputable def kP:Lp:=a8 1 2 pN
noncomputable def vN:Lk Fl:=
  (aP (bC 2 (aH bh (aE (.int 1)) (aH cw (aQ bu (ah (af 0) (ah (aE (.int 0)) aC))) (af 1))))
  (aP (bC 3 (aQ mZ (ah (aQ bu (ah (af 0) (ah (aE (.int 1)) aC))) aC)))
  (aP (bC 4 (aQ (l7 8) (ah (aQ bu (ah (af 0) (ah (aE (.int 2)) aC))) (ah (af 3) (ah (af 2) (ah (aH bh (aE (.int 1)) (aH cw (aQ bu (ah (af 0) (ah (aE (.int 3)) aC))) (aE (.int 5)))) aC))))))
  (bg (lS (ah (af 2) (ah (af 3) (ah (af 4) (ah (aQ m9 (ah (aQ bu (ah (af 0) (ah (aE (.int 4)) aC))) (ah (af 2) aC))) aC)))))))))
noncomputable def l6:Lp:=a8 2 3 vN
noncomputable def zQ:Lk D:=
  (af 1)
noncomputable def zP:Lk D:=
  (af 1)
noncomputable def sQ:Lk fg:=
  (bq (Rg b0 (af 2) (af 0)))
noncomputable def zO:Lk D:=
  (af 1)
noncomputable def jR:Lk Fl:=
  (PF (bq (aH RH (Nh (af 7) (af 11)) (aE .LN))) (aP (bC 12 (aQ bL (ah (af 5) (ah (af 8) (ah (aH bh (aH bh (Q_ Pj (af 7) ay (ag (af 11))) (aE (D.tup [(D.int 0)]))) (Q_ Pj (af 7) (ag (aH bh (af 11) (aE (.int 1)))) ay)) aC)))))
  (PF (bq (aH PV (af 10) (aH bh (af 12) (aQ bL (ah (af 5) (ah (af 8) (ah (aH bh (aH bh (Q_ Pj (af 7) ay (ag (af 11))) (aE (D.tup [(D.int 1)]))) (Q_ Pj (af 7) (ag (aH bh (af 11) (aE (.int 1)))) ay)) aC))))))) (bg (aE (.bl b0))) dz)) dz)
noncomputable def l0:Lk Fl:=
  (PF (wg (bq (aH ip (af 14) (aE .LN))) (bq (aH PV (af 14) (af 15)))) (bg (aE (.bl b0))) dz)
noncomputable def lW:Lk Fl:=
  (aP (bC 9 (bA w8 (ah (c_ 2 [8] (bN (af 6)) (ft 2 (aK (aB 0) (aK (aB 1) ca))) sQ zO) aC)))
  (aP (PF (bq (aH PV (aQ bL (ah (af 5) (ah (af 8) (ah (aH vk (aE (D.tup [D.LN])) (af 1)) aC)))) (af 9))) (bg (aE (.bl b0))) dz)
  (aP (bC 10 (aQ bL (ah (af 5) (ah (af 8) (ah (af 7) aC)))))
  (aP (iD (f_ eE (ah (af 1) aC)) (aB 11) jR)
  (aP (bC 13 (aQ hU (ah (af 5) (ah (af 8) (ah (af 7) aC)))))
  (aP (PF (DH (bq (aH PV (aH Vk (af 10) (aE (.int 0))) (Rg b0 (af 8) (aQ iG (ah (af 5) (ah (af 7) aC)))))) (bq (aH PV (aH RH (af 13) (aE .LN)) (aH N5 (af 10) (aE (.int 0)))))) (bg (aE (.bl b0))) dz)
  (aP (PF (wg (bq (aH ip (af 13) (aE .LN))) (bq (Rg ba (af 8) (aQ gF (ah (af 5) (ah (af 13) aC)))))) (bg (aE (.bl b0))) dz)
  (PF (bq (aH ip (af 13) (aE .LN))) (iD (f_ Ak (ah (af 7) (ah (af 13) aC))) (ft 2 (aK (aB 14) (aK (aB 15) ca))) l0) dz))))))))
noncomputable def Dn:Lk Fl:=
  (aP (uo (ft 4 (aK (aB 1) (aK (aB 2) (aK (aB 3) (aK (aB 4) ca))))) (aQ l6 (ah (af 0) (ah (aE (.int 10)) aC))))
  (aP (bC 5 (aQ l8 (ah (af 3) (ah (af 4) aC))))
  (aP (bC 6 (aQ qj (ah (af 5) (ah (af 1) aC))))
  (aP (PF (bq (aH PV (bA w8 (ah (c_ 2 [] (bN (af 6)) (ft 2 (aK (aB 0) (aK (aB 1) ca))) eO zQ) aC)) (bA eV (ah (aQ kP (ah (af 1) aC)) aC)))) (bg (aE (.bl b0))) dz)
  (aP (PF (DH (bq (aH UJ (bA pD (ah (c_ 2 [] (bN (af 6)) (ft 2 (aK (aB 0) (aK (aB 1) ca))) eO zP) aC)) (aE (.int 1)))) (bq (aH PV (bA mC (ah (af 6) aC)) (bA Ff (ah (af 6) aC))))) (bg (aE (.bl b0))) dz)
  (aP (bC 7 (aQ m8 (ah (aQ bu (ah (af 0) (ah (aE (.int 5)) aC))) (ah (af 1) aC))))
  (aP (iD (bN (af 2)) (aB 8) lW)
  (bg (aE (.bl ba))))))))))
noncomputable def DU:Lp:=a8 1 15 Dn
noncomputable def top (i:Nat):r4:=abg.main.body.getD i (.Pass ⟨0,0,0,0⟩)
noncomputable def Fx:r4->ak r4
 | .ClassDef _ _ _ b _ _ _ _ _ _ _=>b
 |_=>[]
noncomputable def vq (i j:Nat):r4:=(Fx (top i)).getD j (.Pass ⟨0,0,0,0⟩)
abbrev Ce:r4:=top 1
abbrev Lg(s:eG):=(s,NameKind.local)
abbrev Lh(s:eG):=(s,NameKind.globalImplicit)
abbrev Lj(s:eG):eG×Const:=("fast",.str s)
abbrev Li(l:ak (eG×Ra))(m:ak (eG×Const)):lE:=⟨.function,l,b0,b0,m⟩
noncomputable abbrev BF:lE:=Li [Lg "row",Lh "len"] []
abbrev lh:r4:=top 2
noncomputable abbrev kW:lE:=Li [Lg "row",Lh "asks"] []
abbrev o8:r4:=top 3
noncomputable abbrev oI:lE:=Li [Lg "row",Lg "order",Lh "asks",Lh "len"] []
abbrev qY:r4:=top 4
noncomputable abbrev qI:lE:=Li [Lg "rows",Lg "number",Lg "character",Lg "value",Lg "row"] []
abbrev nw:r4:=top 6
noncomputable abbrev nh:lE:=Li [Lg "rows",Lg "number",Lg "left",Lg "below",Lh "rows_below",Lh "leave_row"] []
abbrev i9:r4:=top 5
noncomputable abbrev iZ:lE:=Li [Lg "rows",Lg "top",Lg "left",Lh "leave_row",Lh "list"] []
abbrev i8:r4:=top 7
noncomputable abbrev iY:lE:=Li [Lg "row",Lg "numbers",Lh "asks"] []
abbrev j6:r4:=top 10
noncomputable abbrev Mu:lE:=Li [Lg "many",Lh "tuple",Lh "range"] [Lj "many",Lj "character"]
abbrev k9:r4:=top 11
noncomputable abbrev kU:lE:=Li [Lg "sheet",Lg "character",Lg "value"] []
abbrev k_:r4:=top 12
noncomputable abbrev Mz:lE:=Li [Lg "sheet",Lh "enumerate"] [Lj "sheet",Lj "character",Lj "value"]
abbrev gh:r4:=top 15
noncomputable abbrev ge:lE:=Li [Lg "sheet",Lg "things",Lg "character",Lh "unknown_in"] []
abbrev qX:r4:=top 16
noncomputable abbrev qH:lE:=Li [Lg "row",Lg "sheet",Lg "value",Lh "asks",Lh "rows_below"] []
abbrev iK:r4:=top 14
noncomputable abbrev Mc:lE:=Li [Lg "fold",Lg "sheet",Lg "coming",Lg "number",Lg "ways",Lg "below",Lh "things_agreeing",Lh "range",Lh "len",Lh "ways_on"] [Lj "fold",Lj "sheet",Lj "row",Lj "coming",Lj "number",Lj "ways",Lj "below"]
abbrev j4:r4:=top 17
noncomputable abbrev Mv:lE:=Li [Lg "fold",(("name":eG),nC),Lh "enumerate"] [Lj "fold",Lj "name",Lj "number",Lj "row"]
abbrev o9:r4:=top 18
noncomputable abbrev MX:lE:=Li [Lg "fold",Lg "leaves",Lg "sheet",(("coming":eG),nC),Lh "things_coming",Lh "sum"] [Lj "fold",Lj "leaves",Lj "sheet",Lj "coming",Lj "number"]
abbrev j5:r4:=top 19
noncomputable abbrev j0:lE:=Li [Lg "fold",Lg "leaves",Lg "sheet",Lg "thing",Lg "character",Lg "without",Lh "count_at",Lh "unknown_in",Lh "with_value"] []
abbrev rf:r4:=top 21
noncomputable abbrev Nq:lE:=Li [Lg "fold",Lg "sheet",Lh "zip",Lh "things_coming"] [Lj "fold",Lj "sheet",Lj "row",Lj "coming"]
abbrev i_:r4:=top 22
noncomputable abbrev Mj:lE:=Li [Lg "fold",Lg "sheet",Lh "counted"] [Lj "fold",Lj "sheet",Lj "pair"]
abbrev o7:r4:=top 23
noncomputable abbrev oH:lE:=Li [Lg "fold",Lg "sheet",Lg "found",Lg "names",Lh "answers_left",Lh "tuple",Lh "sorted",Lh "set"] []
abbrev uW:r4:=top 24
noncomputable abbrev uE:lE:=Li [Lg "fold",Lg "many",Lh "tuple",Lh "sorted",Lh "counted",Lh "blank_sheet"] []
abbrev lj:r4:=top 25
noncomputable abbrev kX:lE:=Li [Lg "fold",Lg "name",Lg "sheet",Lh "count_at",Lh "leaves_with"] []
abbrev qW:r4:=top 26
noncomputable abbrev qG:lE:=Li [Lg "fold",Lg "name",Lg "sheet",Lh "least_thing",Lh "leaves_with"] []
abbrev nA:r4:=top 28
noncomputable abbrev nk:lE:=Li [Lg "fold",Lg "thing",Lg "row",Lh "asks"] []
abbrev iM:r4:=vq 8 0
noncomputable abbrev iI:lE:=Li [Lg "self",Lg "order"] []
abbrev gQ:r4:=vq 8 7
noncomputable abbrev L8:lE:=Li [(("self":eG),nC),Lg "top",Lg "left",(("numbers":eG),nC),Lg "place",Lg "number",Lh "rows_as_left",Lh "enumerate",Lh "tuple"] [Lj "self",Lj "top",Lj "left",Lj "numbers",Lj "place",Lj "number"]
abbrev dg:r4:=vq 8 4
noncomputable abbrev LV:lE:=Li [(("self":eG),nC),Lg "character",Lg "no",Lg "yes",Lg "places",Lh "min"] [Lj "self",Lj "character",Lj "no",Lj "yes",Lj "number",Lj "places"]
abbrev gP:r4:=vq 8 1
noncomputable abbrev gN:lE:=Li [Lg "self",Lg "row",Lh "len"] []
abbrev eD:r4:=vq 8 2
noncomputable abbrev d_:lE:=Li [Lg "self",Lg "character",Lg "no",Lg "yes"] []
abbrev nB:r4:=vq 8 3
noncomputable abbrev nr:lE:=Li [Lg "self",Lg "number",Lg "character",Lg "value",Lh "side_of"] []
abbrev fN:r4:=vq 8 6
noncomputable abbrev fG:lE:=Li [Lg "self",Lg "character",Lg "no",Lg "yes",Lg "first",Lg "without",Lg "having"] []
abbrev j7:r4:=vq 8 5
noncomputable abbrev j1:lE:=Li [Lg "self",Lg "character",Lg "no",Lg "yes",Lg "choice"] []
abbrev iL:r4:=top 31
noncomputable abbrev iH:lE:=Li [Lg "rows",Lg "key",Lh "number_of_key"] []
abbrev uV:r4:=top 30
noncomputable abbrev uD:lE:=Li [Lg "key",Lg "order",Lg "rows",Lh "Rows",Lh "number_of_key"] []
abbrev ny:r4:=top 33
noncomputable abbrev ni:lE:=Li [Lg "_law_script",Lg "_law_k",Lh "len"] []
abbrev q_:r4:=top 34
noncomputable abbrev qK:lE:=Li [Lg "_law_script",Lg "_law_k",Lg "_law_drawn_here",Lh "_law_cell_at"] []
abbrev rc:r4:=top 35
noncomputable abbrev qL:lE:=Li [Lg "_law_number",Lg "_law_k",Lg "_law_drawn_here"] []
abbrev qV:r4:=top 36
noncomputable abbrev qF:lE:=Li [Lg "_law_number",Lg "_law_letters",Lg "_law_found",Lg "_law_k",Lg "_law_drawn_here",Lg "_law_word",Lg "_law_at",Lh "range",Lh "_law_drawn",Lh "int",Lh "tuple",Lh "sorted"] []
abbrev q9:r4:=top 37
noncomputable abbrev Nr:lE:=Li [(("_law_number":eG),nC),Lg "_law_words_here",Lh "tuple",Lh "enumerate"] [Lj "_law_number",Lj "_law_words_here",Lj "_law_k",Lj "_law_word"]
abbrev yS:r4:=top 38
noncomputable abbrev yy:lE:=Li [Lg "_law_number",Lg "_law_words_here",Lg "_law_many",Lg "_law_deep",Lg "_law_no",Lg "_law_yes",Lh "_law_names",Lh "_law_key",Lh "_law_drawn"] []
abbrev q8:r4:=top 39
noncomputable abbrev qJ:lE:=Li [Lg "_law_number",Lg "_law_many",Lg "_law_found",Lg "_law_k",Lg "_law_at",Lh "range",Lh "_law_drawn",Lh "len",Lh "tuple"] []
abbrev qZ:r4:=top 40
noncomputable abbrev Nt:lE:=Li [(("_law_number":eG),nC),Lg "_law_many",Lh "tuple",Lh "range"] [Lj "_law_number",Lj "_law_many",Lj "_law_k"]
abbrev o6:r4:=top 41
noncomputable abbrev Ms:lE:=Li [Lg "_law_many",Lg "_law_found",Lg "_law_k",Lh "range",Lh "sorted"] [Lj "_law_many",Lj "_law_found",Lj "_law_k",Lj "_law_thing"]
abbrev uU:r4:=top 43
noncomputable abbrev uC:lE:=Li [Lg "_law_script",Lg "_law_most",Lg "_law_many",Lg "_law_words_here",Lg "_law_key_here",Lh "_law_mixed",Lh "_law_words",Lh "_law_key",Lh "_law_order"] []
abbrev Cd:r4:=top 44
noncomputable abbrev N6:lE:=Li [Lg "_law_script",Lg "_law_many",Lg "_law_words_here",Lg "_law_key_here",Lg "_law_order_here",Lg "_law_fold",Lg "_law_found",Lg "_law_sheet_here",(("_law_name":eG),nC),Lg "_law_all_of_it",Lg "_law_here",Lg "_law_k",Lg "_law_no",Lg "_law_thing",Lg "_law_part",Lg "_law_value",Lh "_law_made",Lh "folded",Lh "counts",Lh "sum",Lh "len",Lh "_law_things",Lh "min",Lh "sorted",Lh "list",Lh "_law_sheet",Lh "_law_mixed",Lh "count_name",Lh "range",Lh "witness",Lh "possible",Lh "answer_of",Lh "zip"] [Lj "_law_script",Lj "_law_many",Lj "_law_words_here",Lj "_law_key_here",Lj "_law_order_here",Lj "_law_fold",Lj "_law_found",Lj "_law_names_here",Lj "_law_number",Lj "_law_sheet_here",Lj "_law_name",Lj "_law_all_of_it",Lj "_law_here",Lj "_law_k",Lj "_law_no",Lj "_law_thing",Lj "_law_part",Lj "_law_value"]
set_option hygiene false in
local macro_rules|`(tactic|and_intros)=>`(tactic|(have hu:=aX hr;have LY:=aV hr;have Mq:=aW hr;have MQ:=hr.gd))
set_option hygiene false in
local macro_rules|`(tactic|nofun)=>`(tactic|exact ⟨rfl,rfl,rfl,by decide,rfl,by decide,by decide⟩)
set_option hygiene false in
local macro_rules|`(tactic|exists $z)=>`(tactic|exact(show ∀ y∈(_:List (Str×NameKind)),y.2=NameKind.free->List.lookup y.1 ($z).names=some NameKind.cell∨List.lookup y.1 ($z).names=some NameKind.free from by decide))
set_option hygiene false in
local macro_rules|`(tactic|exists $z,$n)=>`(tactic|exact(show ∀ t∈(($z):List Nat),List.lookup ((($n):List Str).getD t Str.empty) _=some NameKind.free from by decide))
set_option hygiene false in
local macro_rules|`(tactic|symm)=>`(tactic|exact hr.mono (by omega))
set_option hygiene false in
local macro_rules|`(!$n:num)=>`(aa (i:=$n))
structure Top (K:Ll) (mg:Lo):Prop where
 U_:bd K mg "asks" Ce ["row"]
 PK:bd K mg "rows_below" lh ["row"]
 QA:bd K mg "place_of" o8 ["row","order"]
 Rn:bd K mg "side_of" qY ["rows","number","character","value"]
 N7:bd K mg "leave_row" nw ["rows","number","left"]
 OP:bd K mg "rows_as_left" i9 ["rows","top"]
 OQ:bd K mg "with_numbers" i8 ["row","numbers"]
 Pb:bd K mg "blank_sheet" j6 ["many"]
 PL:bd K mg "with_value" k9 ["sheet","character","value"]
 PM:bd K mg "unknown_in" k_ ["sheet"]
 NN:bd K mg "things_agreeing" gh ["sheet"]
 Ro:bd K mg "ways_on" qX ["row","sheet"]
 Oo:bd K mg "things_coming" iK ["fold","sheet"]
 Pc:bd K mg "leaves_with" j4 ["fold","name"]
 QB:bd K mg "count_at" o9 ["fold","leaves","sheet"]
 Pd:bd K mg "least_thing" j5 ["fold","leaves","sheet"]
 Rp:bd K mg "counted" rf ["fold","sheet"]
 OR:bd K mg "answers_left" i_ ["fold","sheet"]
 QC:bd K mg "possible" o7 ["fold","sheet"]
 Sd:bd K mg "counts" uW ["fold","many"]
 PN:bd K mg "count_name" lj ["fold","name","sheet"]
 Rq:bd K mg "witness" qW ["fold","name","sheet"]
 Qa:bd K mg "answer_of" nA ["fold","thing"]
 Oq:HH K mg "Rows" "Rows.__init__" iM ["self","order"]
 N0:MethAt K "Rows" "fold_from" "Rows.fold_from" gQ ["self","top"]
 MY:MethAt K "Rows" "first_character" "Rows.first_character" dg ["self","character","no","yes"]
 N1:MethAt K "Rows" "number_of" "Rows.number_of" gP ["self","row"]
 Nj:MethAt K "Rows" "number_of_ask" "Rows.number_of_ask" eD ["self","character","no","yes"]
 Qb:MethAt K "Rows" "side" "Rows.side" nB ["self","number","character","value"]
 NI:MethAt K "Rows" "choose_anew" "Rows.choose_anew" fN ["self","character","no","yes"]
 Nx:MethAt K "Rows" "choose" "Rows.choose" j7 ["self","character","no","yes"]
 M4:bd K mg "number_of_key" iL ["rows","key"]
 Se:bd K mg "folded" uV ["key","order"]
 Qc:bd K mg "_law_cell_at" ny ["_law_script","_law_k"]
 Rr:bd K mg "_law_mixed" q_ ["_law_script","_law_k"]
 Rt:bd K mg "_law_drawn" rc ["_law_number","_law_k"]
 Ru:bd K mg "_law_words" qV ["_law_number"]
 Rv:bd K mg "_law_names" q9 ["_law_number","_law_words_here"]
 QX:bd K mg "_law_key" yS ["_law_number","_law_words_here","_law_many","_law_deep"]
 Rw:bd K mg "_law_order" q8 ["_law_number","_law_many"]
 Rx:bd K mg "_law_sheet" qZ ["_law_number","_law_many"]
 QD:bd K mg "_law_things" o6 ["_law_many"]
 Sf:bd K mg "_law_made" uU ["_law_script","_law_most"]
 Xa:bd K mg "law" Cd ["_law_script"]
 N8:mg "len"=ay
 Si:mg "list"=ay
 MI:mg "range"=ay
 MJ:mg "tuple"=ay
 MK:mg "enumerate"=ay
 Sj:mg "sum"=ay
 Ub:mg "zip"=ay
 Nk:mg "sorted"=ay
 Xb:mg "set"=ay
 Uc:mg "min"=ay
 Xc:mg "int"=ay
 MA:nT K "Rows" "order"
 LS:nT K "Rows" "gathered"
 Ml:nT K "Rows" "numbers"
 Mm:nT K "Rows" "choices"
section
variable {P:fh}{w:il}{K:Ll}{mg:Lo}{base:kx}
theorem DW:ar Ce=BF:=rfl
theorem QY:Lw ["row"] ["row"] BF:=by nofun
theorem fW (T:Top K mg):M3 P w K mg base 1 "asks" ["row"] eZ:=
 aR T.U_ DW QY (λf LU A outer s H E hr=>by
 rw[2];have nd:=QY.nd
 exact(ap (aI (oZ (je hu) (bw kN T.N8 ju (ae (!0) aj)) aq))))
theorem qp:ar lh=kW:=rfl
theorem Ny:Lw ["row"] ["row"] kW:=by nofun
theorem jr (T:Top K mg):M3 P w K mg base 2 "rows_below" ["row"] cz:=
 aR T.PK qp Ny (λf LU A outer s H E hr=>by
 rw[2];have nd:=Ny.nd
 exact(ap (aI (h9 (kt (aF (fW T) #[7] (ae (!0) aj))) (k8 Tg (!0) aq Qv) (eT aj)))))
theorem uA:ar o8=oI:=rfl
theorem N9:Lw ["row","order"] ["row","order"] oI:=by nofun
theorem uj (T:Top K mg):M3 P w K mg base 2 "place_of" ["row","order"] kQ:=
 aR T.QA uA N9 (λf LU A outer s H E hr=>by
 rw[2];have nd:=N9.nd
 exact(ap (aI (h9 (kt (aF (fW T) #[7] (ae (!0) aj))) (rD rfl (!1) (aU LY (!0) aq)) (bw kN T.N8 ju (ae (!1) aj))))))
theorem wG:ar qY=qI:=rfl
theorem OS:Lw ["rows","number","character","value","row"] ["rows","number","character","value"] qI:=by nofun
theorem v8 (T:Top K mg):M3 P w K mg base 1 "side_of" ["rows","number","character","value"] m6:=
 aR T.Rn wG OS (λf LU A outer s H E hr=>by
 rw[2];have nd:=OS.nd
 exact(ao (aN (i:=4) nd (yR (!0) (!1)))
  (ap (aI (h9 (bf (je hu) (aU LY (!4) aq) (!2)) (aU LY (!4) (aD aS aq (!3))) (!1))))))
theorem sG:ar nw=nh:=rfl
theorem NO:Lw ["rows","number","left","below"] ["rows","number","left"] nh:=by nofun
theorem kn (T:Top K mg):∀ n:Nat,M3 P w K mg base (n+2) "leave_row" ["rows","number","left"] (br n)
 | 0=>p9 T.N7
 |n+1=>by
  have Ot:=kn T n
  exact aR T.N7 sG NO (λf LU A outer s H E hr=>by
   rw[2];have nd:=NO.nd
   exact(ao (df ov rfl (cB (aF (jr T) #[7] (ae (yR (!0) (!1)) aj))) (aJ (i:=3) nd) (ap (eB (qO hu LY Mq (!3) (!2)) (ap (om (aF Ot #[7] (ae (!0) (ae (!3) (ae (!2) aj)))))) bH)))
    (ap (xc LY (!2) (!1) i7))))
theorem nV:ar i9=iZ:=rfl
theorem M5:Lw ["rows","top","left"] ["rows","top"] iZ:=by nofun
theorem mU (T:Top K mg):M3 P w K mg base 15 "rows_as_left" ["rows","top"] f6:=
 aR T.OP nV M5 (λf LU A outer s H E hr=>by
 rw[2];have nd:=M5.nd
 exact(ao (aN (i:=2) nd tf)
  (ao (om (aF (kn T 12) #[7] (ae (!0) (ae (!1) (ae (!2) aj)))))
  (ap (aI (uS LY T.Si (!2)))))))
theorem nU:ar i8=iY:=rfl
theorem M6:Lw ["row","numbers"] ["row","numbers"] iY:=by nofun
theorem mT (T:Top K mg):M3 P w K mg base 2 "with_numbers" ["row","numbers"] fZ:=
 aR T.OQ nU M6 (λf LU A outer s H E hr=>by
 rw[2];have nd:=M6.nd
 exact(ap (aI (h9 (kt (aF (fW T) #[7] (ae (!0) aj))) (eT (ae (aU LY (!0) aq) (ae (aU LY (!1) (aU LY (!0) aq)) (ae (aU LY (!1) (aU LY (!0) aq)) aj)))) (!0)))))
theorem oF:ar j6=Mu:=rfl
theorem Nl:Lw ["many"] ["many"] Mu:=by nofun
theorem og (T:Top K mg):M3 P w K mg base 1 "blank_sheet" ["many"] d8:=
 aR T.Pb oF Nl (λf LU A outer s H E hr=>by
 rw[2];have nd:=Nl.nd
 exact(ap (aI (b6 jo T.MJ eQ (ae (cb (ts:=["character"]) (ix:=[]) rfl ⟨rfl,#[6],#[6],by exists Mu⟩ (by exists [],["many"]) (dL rfl T.MI (ae (!0) aj)) (λ_ _ _ _ _=>⟨(aJ (i:=0) (show (["character"]:ak eG).Nodup from #[6])),dW,fK⟩)) aj)))))
theorem qm:ar k9=kU:=rfl
theorem Nz:Lw ["sheet","character","value"] ["sheet","character","value"] kU:=by nofun
theorem jp (T:Top K mg):M3 P w K mg base 1 "with_value" ["sheet","character","value"] dC:=
 aR T.PL qm Nz (λf LU A outer s H E hr=>by
 rw[2];have nd:=Nz.nd
 exact(ap (aI (aD aS (aD aS (k8 Tg (!0) Qv (!1)) (eT (ae (!2) aj))) (k8 Tg (!0) (aD aS (!1) aq) Qv)))))
theorem qo:ar k_=Mz:=rfl
theorem NA:Lw ["sheet"] ["sheet"] Mz:=by nofun
theorem jq (T:Top K mg):M3 P w K mg base 1 "unknown_in" ["sheet"] dD:=
 aR T.PM qo NA (λf LU A outer s H E hr=>by
 rw[2];have nd:=NA.nd
 exact(ap (aI (cb (ts:=["character","value"]) (ix:=[]) rfl ⟨rfl,#[6],#[6],by exists Mz⟩ (by exists [],["sheet"]) (on rfl T.MK (ae (!0) aj)) (λ_ _ _ _ _=>⟨(gG rfl (aT (aJ (i:=0) (show (["character","value"]:ak eG).Nodup from #[6])) (aT (aJ (i:=1) (show (["character","value"]:ak eG).Nodup from #[6])) dX))),(jz (bf yX (!1) fK)),(!0)⟩)))))
theorem ko:ar gh=ge:=rfl
theorem MD:Lw ["sheet","things","character"] ["sheet"] ge:=by nofun
theorem jY (T:Top K mg):M3 P w K mg base 2 "things_agreeing" ["sheet"] dE:=
 aR T.NN ko MD (λf LU A outer s H E hr=>by
 rw[2];have nd:=MD.nd
 exact(ao (aN (i:=1) nd aq)
  (ao (df ov rfl (cB (aF (jq T) #[7] (ae (!0) aj))) (aJ (i:=2) nd) (ap (Eg (n:=1) nd aq)))
  (ap (aI (!1))))))
theorem wF:ar qX=qH:=rfl
theorem OT:Lw ["row","sheet","value"] ["row","sheet"] qH:=by nofun
theorem v7 (T:Top K mg):M3 P w K mg base 3 "ways_on" ["row","sheet"] m5:=
 aR T.Ro wF OT (λf LU A outer s H E hr=>by
 rw[2];have nd:=OT.nd
 exact(ao (aN (i:=2) nd (h9 (kt (aF (fW T) #[7] (ae (!0) aj))) (aU LY (!1) (aU LY (!0) aq)) fK))
  (ap (aI (h9 (bf yX (!2) fK) (aF (jr T) #[7] (ae (!0) aj)) (eT (ae (aU LY (!0) (aD aS aq (!2))) aj)))))))
theorem l9:ar iK=Mc:=rfl
theorem MU:Lw ["fold","sheet","coming","number","ways","below"] ["fold","sheet"] Mc:=by nofun
theorem gw (T:Top K mg):M3 P w K mg base 4 "things_coming" ["fold","sheet"] bv:=
 aR T.Oo l9 MU (λf LU A outer s H E hr=>by
 rw[2];have nd:=MU.nd
 exact(ao (uO (ts:=["row"]) (ix:=[]) (i:=2) nd rfl ⟨rfl,#[6],#[6],by exists Mc⟩ (by exists [],["fold","sheet","coming","number","ways","below"]) (cB (!0)) (λ_ _ _ _ _=>⟨(aJ (i:=0) (show (["row"]:ak eG).Nodup from #[6])),dW,aq⟩))
  (ao (Ef (!2) (uQ oM aq) (aF (jY T) #[7] (ae (!1) aj)))
  (ao (df ov rfl (Av rfl T.MI (ae (aD xD (bw kN T.N8 ju (ae (!0) aj)) aq) (ae (uQ oM aq) (ae (uQ oM aq) aj)))) (aJ (i:=3) nd) (ao (aN (i:=4) nd (aF (v7 T) #[7] (ae (aU LY (!0) (!3)) (ae (!1) aj))))
  (ap (df ov rfl (cB (!4)) (aJ (i:=5) nd) (ap (Eh (!2) (!5) (aD jF (tm (!2) (!3)) (bw kN T.N8 ju (ae (!4) aj)))))))))
  (ap (aI (!2)))))))
theorem oC:ar j4=Mv:=rfl
theorem Nm:Lw ["fold","name"] ["fold","name"] Mv:=by nofun
theorem iQ (T:Top K mg):M3 P w K mg base 2 "leaves_with" ["fold","name"] b_:=
 aR T.Pc oC Nm (λf LU A outer s H E hr=>by
 rw[2];have nd:=Nm.nd
 exact(ap (aI (cb (ts:=["number","row"]) (ix:=[1]) rfl ⟨rfl,#[6],#[6],by exists Mv⟩ (by exists [1],["fold","name"]) (on rfl T.MK (ae (!0) aj)) (λ_ _ _ _ _=>⟨(gG rfl (aT (aJ (i:=0) (show (["number","row","name"]:ak eG).Nodup from #[6])) (aT (aJ (i:=1) (show (["number","row","name"]:ak eG).Nodup from #[6])) dX))),(jz (jy (w5 (BM (kt (aF (fW T) #[7] (ae (!1) aj)))) (sS (BN hu LY Mq (!2) (aU LY (!1) aq)))))),(!0)⟩)))))
theorem uB:ar o9=MX:=rfl
theorem N_:Lw ["fold","leaves","sheet","coming"] ["fold","leaves","sheet"] MX:=by nofun
theorem iB (T:Top K mg):M3 P w K mg base 5 "count_at" ["fold","leaves","sheet"] cU:=
 aR T.QB uB N_ (λf LU A outer s H E hr=>by
 rw[2];have nd:=N_.nd
 exact(ao (aN (i:=3) nd (qU (aF (gw T) #[7] (ae (!0) (ae (!2) aj)))))
  (ap (aI (bw (yg rfl) T.Sj yo (ae (cb (ts:=["number"]) (ix:=[3]) rfl ⟨rfl,#[6],#[6],by exists MX⟩ (by exists [3],["fold","leaves","sheet","coming"]) (cB (!1)) (λ_ _ _ _ _=>⟨(aJ (i:=0) (show (["number","coming"]:ak eG).Nodup from #[6])),dW,(aU LY (!1) (!0))⟩)) aj))))))
theorem oE:ar j5=j0:=rfl
theorem Nn:Lw ["fold","leaves","sheet","thing","character","without"] ["fold","leaves","sheet"] j0:=by nofun
theorem n_ (T:Top K mg):M3 P w K mg base 6 "least_thing" ["fold","leaves","sheet"] gL:=
 aR T.Pd oE Nn (λf LU A outer s H E hr=>by
 rw[2];have nd:=Nn.nd
 exact(ao (eB (bf (je hu) (aF (iB T) #[7] (ae (!0) (ae (!1) (ae (!2) aj)))) aq) (ap (aI fK)) bH)
  (ao (aN (i:=3) nd (!2))
  (ao (df ov rfl (cB (aF (jq T) #[7] (ae (!2) aj))) (aJ (i:=4) nd) (ao (aN (i:=5) nd (aF (jp T) #[7] (ae (!3) (ae (!4) (ae aq aj)))))
  (ap (aN (i:=3) nd (h9 (bf CI (aF (iB T) #[7] (ae (!0) (ae (!1) (ae (!5) aj)))) aq) (!5) (aF (jp T) #[7] (ae (!3) (ae (!4) (ae aq aj)))))))))
  (ap (aI (!3)))))))
theorem wM:ar rf=Nq:=rfl
theorem OU:Lw ["fold","sheet"] ["fold","sheet"] Nq:=by nofun
theorem nR (T:Top K mg):M3 P w K mg base 5 "counted" ["fold","sheet"] jS:=
 aR T.Rp wM OU (λf LU A outer s H E hr=>by
 rw[2];have nd:=OU.nd
 exact(ap (aI (cb (ts:=["row","coming"]) (ix:=[]) rfl ⟨rfl,#[6],#[6],by exists Nq⟩ (by exists [],["fold","sheet"]) (B3 rfl T.Ub (ae (!0) (ae (qU (aF (gw T) #[7] (ae (!0) (ae (!1) aj)))) aj))) (λ_ _ _ _ _=>⟨(gG rfl (aT (aJ (i:=0) (show (["row","coming"]:ak eG).Nodup from #[6])) (aT (aJ (i:=1) (show (["row","coming"]:ak eG).Nodup from #[6])) dX))),(jz (BM (kt (aF (fW T) #[7] (ae (!0) aj))))),(eT (ae (aU LY (!0) aq) (ae (!1) aj)))⟩)))))
theorem nW:ar i_=Mj:=rfl
theorem M7:Lw ["fold","sheet"] ["fold","sheet"] Mj:=by nofun
theorem mV (T:Top K mg):M3 P w K mg base 6 "answers_left" ["fold","sheet"] dF:=
 aR T.OR nW M7 (λf LU A outer s H E hr=>by
 rw[2];have nd:=M7.nd
 exact(ap (aI (cb (ts:=["pair"]) (ix:=[]) rfl ⟨rfl,#[6],#[6],by exists Mj⟩ (by exists [],["fold","sheet"]) (cB (aF (nR T) #[7] (ae (!0) (ae (!1) aj)))) (λ_ _ _ _ _=>⟨(aJ (i:=0) (show (["pair"]:ak eG).Nodup from #[6])),(jz (bf CI (aU LY (!0) aq) aq)),(aU LY (!0) aq)⟩)))))
theorem uz:ar o7=oH:=rfl
theorem Oa:Lw ["fold","sheet","found","names"] ["fold","sheet"] oH:=by nofun
theorem ui (T:Top K mg):M3 P w K mg base 7 "possible" ["fold","sheet"] iG:=
 aR T.QC uz Oa (λf LU A outer s H E hr=>by
 rw[2];have nd:=Oa.nd
 exact(ao (aN (i:=2) nd yQ)
  (ao (df ov rfl (cB (aF (mV T) #[7] (ae (!0) (ae (!1) aj)))) (aJ (i:=3) nd) (ap (om (Go rfl (!2) (!3)))))
  (ap (aI (b6 jo T.MJ eQ (ae (uR rfl rfl rfl T.Nk T.Xb (!2)) aj)))))))
theorem Aj:ar uW=uE:=rfl
theorem Pk:Lw ["fold","many"] ["fold","many"] uE:=by nofun
theorem yl (T:Top K mg):M3 P w K mg base 6 "counts" ["fold","many"] qj:=
 aR T.Sd Aj Pk (λf LU A outer s H E hr=>by
 rw[2];have nd:=Pk.nd
 exact(ap (aI (b6 jo T.MJ eQ (ae (bw (v4 hu) T.Nk fF (ae (aF (nR T) #[7] (ae (!0) (ae (aF (og T) #[7] (ae (!1) aj)) aj))) aj)) aj)))))
theorem qq:ar lj=kX:=rfl
theorem NB:Lw ["fold","name","sheet"] ["fold","name","sheet"] kX:=by nofun
theorem du (T:Top K mg):M3 P w K mg base 6 "count_name" ["fold","name","sheet"] bL:=
 aR T.PN qq NB (λf LU A outer s H E hr=>by
 rw[2];have nd:=NB.nd
 exact(ap (aI (aF (iB T) #[7] (ae (!0) (ae (aF (iQ T) #[7] (ae (!0) (ae (!1) aj))) (ae (!2) aj)))))))
theorem wE:ar qW=qG:=rfl
theorem OV:Lw ["fold","name","sheet"] ["fold","name","sheet"] qG:=by nofun
theorem v6 (T:Top K mg):M3 P w K mg base 7 "witness" ["fold","name","sheet"] hU:=
 aR T.Rq wE OV (λf LU A outer s H E hr=>by
 rw[2];have nd:=OV.nd
 exact(ap (aI (aF (n_ T) #[7] (ae (!0) (ae (aF (iQ T) #[7] (ae (!0) (ae (!1) aj))) (ae (!2) aj)))))))
theorem sI:ar nA=nk:=rfl
theorem NP:Lw ["fold","thing","row"] ["fold","thing"] nk:=by nofun
theorem qD (T:Top K mg):M3 P w K mg base 2 "answer_of" ["fold","thing"] gF:=
 aR T.Qa sI NP (λf LU A outer s H E hr=>by
 rw[2];have nd:=NP.nd
 exact(ao (aN (i:=2) nd (aU LY (!0) (uQ oM aq)))
  (ao (BV ov (kt (aF (fW T) #[7] (ae (!2) aj))) (ap (aN (i:=2) nd (aU LY (!0) (aU LY (!2) (aD aS aq (aU LY (!1) (aU LY (!2) aq))))))))
  (ap (aI (aU LY (!2) aq))))))
theorem me:ar iM=iI:=rfl
theorem MV:Lw ["self","order"] ["self","order"] iI:=by nofun
theorem lR (T:Top K mg):HM P w K mg base 1 "Rows" ["self","order"] bZ:=
 FA T.Oq me MV (λf LU A outer s H E hr=>by
 rw[2];have nd:=MV.nd
 exact(ao (sU T.MA (!0) (!1))
  (ao (sU T.LS (!0) yQ)
  (ao (sU T.Ml (!0) yP)
  (ap (sU T.Mm (!0) yP))))))
theorem kS:ar gQ=L8:=rfl
theorem ML:Lw ["self","top","left","numbers","place","number"] ["self","top"] L8:=by nofun
theorem kO (T:Top K mg):ql P w K mg base 16 "Rows" "fold_from" ["self","top"] dS:=
 iC T.N0 kS ML (λf LU A outer s H E hr=>by
 rw[2];have nd:=ML.nd
 exact(ao (aN (i:=2) nd (aF (mU T) #[7] (ae (cP T.LS (!0)) (ae (!1) aj))))
  (ao (aN (i:=3) nd tf)
  (ao (df ov rfl (B4 rfl T.MK (ae (!2) aj)) (gG rfl (aT (aJ (i:=4) nd) (aT (aJ (i:=5) nd) dX))) (ap (xc LY (!3) (!5) (!4))))
  (ap (aI (b6 jo T.MJ eQ (ae (cb (ts:=["number"]) (ix:=[3,0]) rfl ⟨rfl,#[6],#[6],by exists L8⟩ (by exists [3,0],["self","top","left","numbers","place","number"]) (cB (!2)) (λ_ _ _ _ _=>⟨(aJ (i:=0) (show (["number","numbers","self"]:ak eG).Nodup from #[6])),dW,(aF (mT T) #[7] (ae (tm (cP T.LS (!2)) (!0)) (ae (!1) aj)))⟩)) aj))))))))
theorem gM:ar dg=LV:=rfl
theorem Mf:Lw ["self","character","no","yes","places"] ["self","character","no","yes"] LV:=by nofun
theorem gK (T:Top K mg):ql P w K mg base 3 "Rows" "first_character" ["self","character","no","yes"] bX:=
 iC T.MY gM Mf (λf LU A outer s H E hr=>by
 rw[2];have nd:=Mf.nd
 exact(ao (w_ (ts:=["number"]) (ix:=[0]) (i:=4) nd rfl ⟨rfl,#[6],#[6],by exists LV⟩ (by exists [0],["self","character","no","yes","places"]) (cB (eT (ae (!2) (ae (!3) aj)))) (λ_ _ _ _ _=>⟨(aJ (i:=0) (show (["number","self"]:ak eG).Nodup from #[6])),dW,(aF (uj T) #[7] (ae (tm (cP T.LS (!1)) (!0)) (ae (cP T.MA (!1)) aj)))⟩))
  (ap (aI (aU LY (cP T.MA (!0)) (bw (zY rfl) T.Uc DN (ae (aD aS (!4) (tj (ae (rD rfl (cP T.MA (!0)) (!1)) aj))) aj)))))))
theorem kR:ar gP=gN:=rfl
theorem MM:Lw ["self","row"] ["self","row"] gN:=by nofun
theorem fX (T:Top K mg):ql P w K mg base 1 "Rows" "number_of" ["self","row"] bT:=
 iC T.N1 kR MM (λf LU A outer s H E hr=>by
 rw[2];have nd:=MM.nd
 exact(ao (eB (qP hu (!1) (cP T.Ml (!0))) (ao (yJ hu (cP T.Ml (!0)) (!1) (Eo T.N8 (cP T.LS (!0))))
  (ap (om (Gq rfl (cP T.LS (!0)) (!1))))) bH)
  (ap (aI (yO hu (cP T.Ml (!0)) (!1))))))
theorem iT:ar eD=d_:=rfl
theorem Mp:Lw ["self","character","no","yes"] ["self","character","no","yes"] d_:=by nofun
theorem dw (T:Top K mg):ql P w K mg base 2 "Rows" "number_of_ask" ["self","character","no","yes"] bM:=
 iC T.Nj iT Mp (λf LU A outer s H E hr=>by
 rw[2];have nd:=Mp.nd
 exact(ap (aI (h9 (bf (je hu) (!2) (!3)) (!2) (bQ (fX T) #[7] (!0) (ae (eT (ae (!1) (ae (!2) (ae (!3) aj)))) aj))))))
theorem sJ:ar nB=nr:=rfl
theorem NQ:Lw ["self","number","character","value"] ["self","number","character","value"] nr:=by nofun
theorem b7 (T:Top K mg):ql P w K mg base 2 "Rows" "side" ["self","number","character","value"] bV:=
 iC T.Qb sJ NQ (λf LU A outer s H E hr=>by
 rw[2];have nd:=NQ.nd
 exact(ap (aI (aF (v8 T) #[7] (ae (cP T.LS (!0)) (ae (!1) (ae (!2) (ae (!3) aj))))))))
theorem jT:ar fN=fG:=rfl
theorem My:Lw ["self","character","no","yes","first","without","having"] ["self","character","no","yes"] fG:=by nofun
theorem js (T:Top K mg){n:Nat}{rec:Lp}(Ot:ql P w K mg base (n*2+3) "Rows" "choose" ["self","character","no","yes"] rec):ql P w K mg base (n*2+4) "Rows" "choose_anew" ["self","character","no","yes"] (cV rec):=by
 rw[show n*2+4=(n*2+3)+1 from #[1]]
 exact iC T.NI jT My (λf LU A outer s H E hr=>by
 rw[2];have nd:=My.nd
 exact(ao (aN (i:=4) nd (bQ (gK T) #[7] (!0) (ae (!1) (ae (!2) (ae (!3) aj)))))
  (ao (eB (bf (je hu) (!4) (!1)) (ap (aI (bQ (dw T) #[7] (!0) (ae (!1) (ae (bQ (b7 T) #[7] (!0) (ae (!2) (ae (!1) (ae aq aj)))) (ae (bQ (b7 T) #[7] (!0) (ae (!3) (ae (!1) (ae aq aj)))) aj)))))) bH)
  (ao (aN (i:=5) nd (bQ Ot #[7] (!0) (ae (!1) (ae (bQ (b7 T) #[7] (!0) (ae (!2) (ae (!4) (ae aq aj)))) (ae (bQ (b7 T) #[7] (!0) (ae (!3) (ae (!4) (ae aq aj)))) aj)))))
  (ao (aN (i:=6) nd (bQ Ot #[7] (!0) (ae (!1) (ae (bQ (b7 T) #[7] (!0) (ae (!2) (ae (!4) (ae aq aj)))) (ae (bQ (b7 T) #[7] (!0) (ae (!3) (ae (!4) (ae aq aj)))) aj)))))
  (ap (aI (bQ (dw T) #[7] (!0) (ae (!4) (ae (!5) (ae (!6) aj)))))))))))
theorem oG:ar j7=j1:=rfl
theorem Np:Lw ["self","character","no","yes","choice"] ["self","character","no","yes"] j1:=by nofun
theorem iR (T:Top K mg):∀ n:Nat,ql P w K mg base (n*2+3) "Rows" "choose" ["self","character","no","yes"] (d9 n)
 | 0=>Bx T.Nx
 |n+1=>by
  have Ot:=iR T n;rw[show (n+1)*2+3=(n*2+4)+1 from #[1]]
  exact iC T.Nx oG Np (λf LU A outer s H E hr=>by
   rw[2];have nd:=Np.nd
   exact(ao (aN (i:=4) nd (eT (ae (!1) (ae (!2) (ae (!3) aj)))))
    (ao (eB (qP hu (!4) (cP T.Mm (!0))) (ap (yJ hu (cP T.Mm (!0)) (!4) (h9 (bf (je hu) (!2) (!3)) (!2) (bQ (js T Ot) #[7] (!0) (ae (!1) (ae (!2) (ae (!3) aj))))))) bH)
    (ap (aI (yO hu (cP T.Mm (!0)) (!4)))))))
theorem l_:ar iL=iH:=rfl
theorem MW:Lw ["rows","key"] ["rows","key"] iH:=by nofun
theorem gz (T:Top K mg):∀ n:Nat,M3 P w K mg base (n+25) "number_of_key" ["rows","key"] (cM n)
 | 0=>p9 T.M4
 |n+1=>by
  have Ot:=gz T n
  exact aR T.M4 l_ MW (λf LU A outer s H E hr=>by
   rw[2];have nd:=MW.nd
   exact(ao (eB (bf (je hu) (aU LY (!1) aq) mD) (ap (aI (bQ (fX T) #[7] (!0) (ae (!1) aj)))) bH)
    (ap (aI (bQ (iR T 11) #[7] (!0) (ae (aU LY (!1) aq) (ae (aF Ot #[7] (ae (!0) (ae (aU LY (!1) aq) aj))) (ae (aF Ot #[7] (ae (!0) (ae (aU LY (!1) aq) aj))) aj))))))))
theorem Ai:ar uV=uD:=rfl
theorem Pl:Lw ["key","order","rows"] ["key","order"] uD:=by nofun
theorem yj (T:Top K mg):M3 P w K mg base 41 "folded" ["key","order"] l8:=
 aR T.Se Ai Pl (λf LU A outer s H E hr=>by
 rw[2];have nd:=Pl.nd
 exact(ao (aN (i:=2) nd (En (lR T) #[7] (ae (!1) aj)))
  (ap (aI (bQ (kO T) #[7] (!2) (ae (aF (gz T 15) #[7] (ae (!2) (ae (!0) aj))) aj))))))
theorem sH:ar ny=ni:=rfl
theorem NR:Lw ["_law_script","_law_k"] ["_law_script","_law_k"] ni:=by nofun
theorem qC (T:Top K mg):M3 P w K mg base 1 "_law_cell_at" ["_law_script","_law_k"] jv:=
 aR T.Qc sH NR (λf LU A outer s H E hr=>by
 rw[2];have nd:=NR.nd
 exact(ao (eB (bf FW (!1) (bw kN T.N8 ju (ae (!0) aj))) (ap (aI (aU LY (!0) (!1)))) bH)
  (ap (aI aq))))
theorem wK:ar q_=qK:=rfl
theorem OW:Lw ["_law_script","_law_k","_law_drawn_here"] ["_law_script","_law_k"] qK:=by nofun
theorem c9 (T:Top K mg):M3 P w K mg base 2 "_law_mixed" ["_law_script","_law_k"] bu:=
 aR T.Rr wK OW (λf LU A outer s H E hr=>by
 rw[2];have nd:=OW.nd
 exact(ao (aN (i:=2) nd (aD cQ (aD dh (aD aS (aD aS (aF (qC T) #[7] (ae (!0) (ae (!1) aj))) (aD dh aq (!1))) aq) aq) aq))
  (ap (aI (aD cQ (aD aS (aD aS (aD dh (!2) (!2)) (aD dh aq (!2))) (!1)) aq)))))
theorem wL:ar rc=qL:=rfl
theorem OX:Lw ["_law_number","_law_k","_law_drawn_here"] ["_law_number","_law_k"] qL:=by nofun
theorem eN (T:Top K mg):M3 P w K mg base 1 "_law_drawn" ["_law_number","_law_k"] dR:=
 aR T.Rt wL OX (λf LU A outer s H E hr=>by
 rw[2];have nd:=OX.nd
 exact(ao (aN (i:=2) nd (aD cQ (aD dh (aD aS (aD aS (!0) (aD dh aq (!1))) aq) aq) aq))
  (ap (aI (aD cQ (aD aS (aD aS (aD dh (!2) (!2)) (aD dh aq (!2))) (!1)) aq)))))
theorem wD:ar qV=qF:=rfl
theorem OY:Lw ["_law_number","_law_letters","_law_found","_law_k","_law_drawn_here","_law_word","_law_at"] ["_law_number"] qF:=by nofun
theorem v5 (T:Top K mg):M3 P w K mg base 2 "_law_words" ["_law_number"] mZ:=
 aR T.Ru wD OY (λf LU A outer s H E hr=>by
 rw[2];have nd:=OY.nd
 exact(ao (aN (i:=1) nd mD)
  (ao (aN (i:=2) nd tf)
  (ao (df ov rfl (dL rfl T.MI (ae aq aj)) (aJ (i:=3) nd) (ao (aN (i:=4) nd (aF (eN T) #[7] (ae (!0) (ae (!3) aj))))
  (ao (aN (i:=5) nd (aU LY (!1) (aD cQ (!4) aq)))
  (ao (df ov rfl (dL rfl T.MI (ae (aD dh (aD cQ (aD jF (!4) aq) aq) (aD cQ (!0) aq)) aj)) (aJ (i:=6) nd) (ap (aN (i:=5) nd (aD aS (!5) (aU LY (!1) (aD cQ (aD jF (!4) (aD aS (aD dh aq (!6)) aq)) aq))))))
  (ap (xc LY (!2) (aD aS (!5) (aD dh mD (b6 Ho T.Xc HA (ae (Cc hu LY Mq (!5) (h8 (.tup (.cons (.str ⟨#[6],#[6]⟩) (.cons (.str ⟨#[6],#[6]⟩) (.cons (.str ⟨#[6],#[6]⟩) .nil))) #[2]))) aj)))) i7))))))
  (ap (aI (b6 jo T.MJ eQ (ae (Em rfl rfl T.Nk (!2)) aj))))))))
theorem wJ:ar q9=Nr:=rfl
theorem OZ:Lw ["_law_number","_law_words_here"] ["_law_number","_law_words_here"] Nr:=by nofun
theorem wa (T:Top K mg):M3 P w K mg base 1 "_law_names" ["_law_number","_law_words_here"] m_:=
 aR T.Rv wJ OZ (λf LU A outer s H E hr=>by
 rw[2];have nd:=OZ.nd
 exact(ap (aI (b6 jo T.MJ eQ (ae (cb (ts:=["_law_k","_law_word"]) (ix:=[0]) rfl ⟨rfl,#[6],#[6],by exists Nr⟩ (by exists [0],["_law_number","_law_words_here"]) (on rfl T.MK (ae (!1) aj)) (λ_ _ _ _ _=>⟨(gG rfl (aT (aJ (i:=0) (show (["_law_k","_law_word","_law_number"]:ak eG).Nodup from #[6])) (aT (aJ (i:=1) (show (["_law_k","_law_word","_law_number"]:ak eG).Nodup from #[6])) dX))),(jz (bf (je hu) (aD cQ (aD jF (!2) (aD aS (aD dh aq (!0)) aq)) aq) aq)),(!1)⟩)) aj)))))
theorem BC:ar yS=yy:=rfl
theorem Qd:Lw ["_law_number","_law_words_here","_law_many","_law_deep","_law_no","_law_yes"] ["_law_number","_law_words_here","_law_many","_law_deep"] yy:=by nofun
theorem sx (T:Top K mg):∀ n:Nat,M3 P w K mg base (n+1) "_law_key" ["_law_number","_law_words_here","_law_many","_law_deep"] (l7 n)
 | 0=>p9 T.QX
 |n+1=>by
  have Ot:=sx T n
  exact aR T.QX BC Qd (λf LU A outer s H E hr=>by
   rw[2];have nd:=Qd.nd
   exact(ao (eB (jy (BR (bf (je hu) (!3) aq) (w4 (bf (je hu) (aD cQ (!0) aq) aq)))) (ap (aI (eT (ae mD (ae (aF (wa T) #[7] (ae (aD jF (!0) aq) (ae (!1) aj))) aj))))) bH)
    (ao (aN (i:=4) nd (aF Ot #[7] (ae (aF (eN T) #[7] (ae (!0) (ae aq aj))) (ae (!1) (ae (!2) (ae (aD xD (!3) aq) aj))))))
    (ao (aN (i:=5) nd (aF Ot #[7] (ae (aF (eN T) #[7] (ae (!0) (ae aq aj))) (ae (!1) (ae (!2) (ae (aD xD (!3) aq) aj))))))
    (ap (aI (eT (ae mD (ae (aD cQ (aD jF (!0) aq) (!2)) (ae (!4) (ae (!5) aj)))))))))))
theorem wI:ar q8=qJ:=rfl
theorem O0:Lw ["_law_number","_law_many","_law_found","_law_k","_law_at"] ["_law_number","_law_many"] qJ:=by nofun
theorem v_ (T:Top K mg):M3 P w K mg base 2 "_law_order" ["_law_number","_law_many"] m9:=
 aR T.Rw wI O0 (λf LU A outer s H E hr=>by
 rw[2];have nd:=O0.nd
 exact(ao (aN (i:=2) nd (tj aj))
  (ao (df ov rfl (dL rfl T.MI (ae (!1) aj)) (aJ (i:=3) nd) (ao (aN (i:=4) nd (aD cQ (aF (eN T) #[7] (ae (!0) (ae (!3) aj))) (aD aS (bw kN T.N8 ju (ae (!2) aj)) aq)))
  (ap (aN (i:=2) nd (aD aS (aD aS (k8 Tg (!2) Qv (!4)) (tj (ae (!3) aj))) (k8 Tg (!2) (!4) Qv))))))
  (ap (aI (b6 jo T.MJ eQ (ae (!2) aj)))))))
theorem wH:ar qZ=Nt:=rfl
theorem O1:Lw ["_law_number","_law_many"] ["_law_number","_law_many"] Nt:=by nofun
theorem v9 (T:Top K mg):M3 P w K mg base 2 "_law_sheet" ["_law_number","_law_many"] m8:=
 aR T.Rx wH O1 (λf LU A outer s H E hr=>by
 rw[2];have nd:=O1.nd
 exact(ap (aI (b6 jo T.MJ eQ (ae (cb (ts:=["_law_k"]) (ix:=[0]) rfl ⟨rfl,#[6],#[6],by exists Nt⟩ (by exists [0],["_law_number","_law_many"]) (dL rfl T.MI (ae (!1) aj)) (λ_ _ _ _ _=>⟨(aJ (i:=0) (show (["_law_k","_law_number"]:ak eG).Nodup from #[6])),dW,(aU LY (h8 (.tup (.cons .LN (.cons .int (.cons .int (.cons .LN .nil)))) #[2])) (aD cQ (aF (eN T) #[7] (ae (!1) (ae (!0) aj))) aq))⟩)) aj)))))
theorem uy:ar o6=Ms:=rfl
theorem Ob:Lw ["_law_many","_law_found","_law_k"] ["_law_many"] Ms:=by nofun
theorem uh (T:Top K mg):M3 P w K mg base 1 "_law_things" ["_law_many"] kP:=
 aR T.QD uy Ob (λf LU A outer s H E hr=>by
 rw[2];have nd:=Ob.nd
 exact(ao (aN (i:=1) nd (h8 (.lst (.cons (.tup .nil #[2]) .nil) #[2])))
  (ao (df ov rfl (dL rfl T.MI (ae (!0) aj)) (aJ (i:=2) nd) (ap (aN (i:=1) nd (aD aS (cb (ts:=["_law_thing"]) (ix:=[]) rfl ⟨rfl,#[6],#[6],by exists Ms⟩ (by exists [],["_law_many","_law_found","_law_k"]) (cB (!1)) (λ_ _ _ _ _=>⟨(aJ (i:=0) (show (["_law_thing"]:ak eG).Nodup from #[6])),dW,(aD aS (!0) (h8 (.tup (.cons .int .nil) #[2])))⟩)) (cb (ts:=["_law_thing"]) (ix:=[]) rfl ⟨rfl,#[6],#[6],by exists Ms⟩ (by exists [],["_law_many","_law_found","_law_k"]) (cB (!1)) (λ_ _ _ _ _=>⟨(aJ (i:=0) (show (["_law_thing"]:ak eG).Nodup from #[6])),dW,(aD aS (!0) (h8 (.tup (.cons .int .nil) #[2])))⟩))))))
  (ap (aI (bw (DE hu) T.Nk fF (ae (!1) aj)))))))
theorem Ah:ar uU=uC:=rfl
theorem Pm:Lw ["_law_script","_law_most","_law_many","_law_words_here","_law_key_here"] ["_law_script","_law_most"] uC:=by nofun
theorem yi (T:Top K mg):M3 P w K mg base 10 "_law_made" ["_law_script","_law_most"] l6:=
 aR T.Sf Ah Pm (λf LU A outer s H E hr=>by
 rw[2];have nd:=Pm.nd
 exact(ao (aN (i:=2) nd (aD aS aq (aD cQ (aF (c9 T) #[7] (ae (!0) (ae aq aj))) (!1))))
  (ao (aN (i:=3) nd (aF (v5 T) #[7] (ae (aF (c9 T) #[7] (ae (!0) (ae aq aj))) aj)))
  (ao (aN (i:=4) nd (aF (sx T 8) #[7] (ae (aF (c9 T) #[7] (ae (!0) (ae aq aj))) (ae (!3) (ae (!2) (ae (aD aS aq (aD cQ (aF (c9 T) #[7] (ae (!0) (ae aq aj))) aq)) aj))))))
  (ap (aI (eT (ae (!2) (ae (!3) (ae (!4) (ae (aF (v_ T) #[7] (ae (aF (c9 T) #[7] (ae (!0) (ae aq aj))) (ae (!2) aj))) aj)))))))))))
theorem F6:ar Cd=N6:=rfl
theorem Sk:Lw ["_law_script","_law_many","_law_words_here","_law_key_here","_law_order_here","_law_fold","_law_found","_law_sheet_here","_law_name","_law_all_of_it","_law_here","_law_k","_law_no","_law_thing","_law_part","_law_value"] ["_law_script"] N6:=by nofun
theorem Hc (T:Top K mg){f:cn}{fd:L4}(Fn:Q7 K "law" "law" Cd f fd):Sz P w K mg base 42 f fd ["_law_script"] DU:=
 pQ Fn F6 Sk (λ_ LU A outer s H E hr=>by
 rw[2];have nd:=Sk.nd
 exact(ao (Gh (aF (yi T) #[7] (ae (!0) (ae aq aj))) (gG rfl (aT (aJ (i:=1) nd) (aT (aJ (i:=2) nd) (aT (aJ (i:=3) nd) (aT (aJ (i:=4) nd) dX))))))
  (ao (aN (i:=5) nd (aF (yj T) #[7] (ae (!3) (ae (!4) aj))))
  (ao (aN (i:=6) nd (aF (yl T) #[7] (ae (!5) (ae (!1) aj))))
  (ao (eB (bf (pq hu) (bw (yg rfl) T.Sj yo (ae (cb (ts:=["_law_names_here","_law_number"]) (ix:=[]) rfl ⟨rfl,#[6],#[6],by exists N6⟩ (by exists [],["_law_script","_law_many","_law_words_here","_law_key_here","_law_order_here","_law_fold","_law_found","_law_sheet_here","_law_name","_law_all_of_it","_law_here","_law_k","_law_no","_law_thing","_law_part","_law_value"]) (cB (!6)) (λ_ _ _ _ _=>⟨(gG rfl (aT (aJ (i:=0) (show (["_law_names_here","_law_number"]:ak eG).Nodup from #[6])) (aT (aJ (i:=1) (show (["_law_names_here","_law_number"]:ak eG).Nodup from #[6])) dX))),dW,(!1)⟩)) aj)) (bw kN T.N8 ju (ae (aF (uh T) #[7] (ae (!1) aj)) aj))) (ap (aI i7)) bH)
  (ao (eB (jy (BR (bf FW (bw (zY rfl) T.Uc DN (ae (cb (ts:=["_law_names_here","_law_number"]) (ix:=[]) rfl ⟨rfl,#[6],#[6],by exists N6⟩ (by exists [],["_law_script","_law_many","_law_words_here","_law_key_here","_law_order_here","_law_fold","_law_found","_law_sheet_here","_law_name","_law_all_of_it","_law_here","_law_k","_law_no","_law_thing","_law_part","_law_value"]) (cB (!6)) (λ_ _ _ _ _=>⟨(gG rfl (aT (aJ (i:=0) (show (["_law_names_here","_law_number"]:ak eG).Nodup from #[6])) (aT (aJ (i:=1) (show (["_law_names_here","_law_number"]:ak eG).Nodup from #[6])) dX))),dW,(!1)⟩)) aj)) aq) (w4 (bf (pq hu) (bw (v4 hu) T.Nk fF (ae (!6) aj)) (b6 Hn T.Si Aa (ae (!6) aj)))))) (ap (aI i7)) bH)
  (ao (aN (i:=7) nd (aF (v9 T) #[7] (ae (aF (c9 T) #[7] (ae (!0) (ae aq aj))) (ae (!1) aj))))
  (ao (df ov rfl (cB (!2)) (aJ (i:=8) nd) (ao (aN (i:=9) nd (bw (yg rfl) T.Sj yo (ae (cb (ts:=["_law_names_here","_law_number"]) (ix:=[8]) rfl ⟨rfl,#[6],#[6],by exists N6⟩ (by exists [8],["_law_script","_law_many","_law_words_here","_law_key_here","_law_order_here","_law_fold","_law_found","_law_sheet_here","_law_name","_law_all_of_it","_law_here","_law_k","_law_no","_law_thing","_law_part","_law_value"]) (cB (!6)) (λ_ _ _ _ _=>⟨(gG rfl (aT (aJ (i:=0) (show (["_law_names_here","_law_number","_law_name"]:ak eG).Nodup from #[6])) (aT (aJ (i:=1) (show (["_law_names_here","_law_number","_law_name"]:ak eG).Nodup from #[6])) dX))),(jz (BN hu LY Mq (!2) (!0))),(!1)⟩)) aj)))
  (ao (eB (bf (pq hu) (aF (du T) #[7] (ae (!5) (ae (!8) (ae (aD EW (h8 (.tup (.cons .LN .nil) #[2])) (!1)) aj)))) (!9)) (ap (aI i7)) bH)
  (ao (aN (i:=10) nd (aF (du T) #[7] (ae (!5) (ae (!8) (ae (!7) aj)))))
  (ao (df ov rfl (dL rfl T.MI (ae (!1) aj)) (aJ (i:=11) nd) (ap (eB (bf yX (aU LY (!7) (!11)) fK) (ao (aN (i:=12) nd (aF (du T) #[7] (ae (!5) (ae (!8) (ae (aD aS (aD aS (k8 Tg (!7) Qv (!11)) (h8 (.tup (.cons .int .nil) #[2]))) (k8 Tg (!7) (aD aS (!11) aq) Qv)) aj)))))
  (ap (eB (bf (pq hu) (!10) (aD aS (!12) (aF (du T) #[7] (ae (!5) (ae (!8) (ae (aD aS (aD aS (k8 Tg (!7) Qv (!11)) (h8 (.tup (.cons .int .nil) #[2]))) (k8 Tg (!7) (aD aS (!11) aq) Qv)) aj)))))) (ap (aI i7)) bH))) bH)))
  (ao (aN (i:=13) nd (aF (v6 T) #[7] (ae (!5) (ae (!8) (ae (!7) aj)))))
  (ao (eB (jy (BR (bf (pq hu) (oZ CI (!10) aq) (Cc hu LY Mq (!8) (aF (ui T) #[7] (ae (!5) (ae (!7) aj))))) (w4 (bf (pq hu) (oZ yX (!13) fK) (oZ (je hu) (!10) aq))))) (ap (aI i7)) bH)
  (ao (eB (jy (w5 (bf pz (!13) fK) (sS (qO hu LY Mq (!8) (aF (qD T) #[7] (ae (!5) (ae (!13) aj))))))) (ap (aI i7)) bH)
  (ap (eB (bf pz (!13) fK) (ap (df ov rfl (B3 rfl T.Ub (ae (!7) (ae (!13) aj))) (gG rfl (aT (aJ (i:=14) nd) (aT (aJ (i:=15) nd) dX))) (ap (eB (jy (w5 (bf pz (!14) fK) (sS (bf (pq hu) (!14) (!15))))) (ap (aI i7)) bH)))) bH))))))))))
  (ap (aI i7))))))))))
end
end LI
namespace LI
open PySem L2 PyProof.Rows
noncomputable def isLet (c:Nat):fg:=dv (97<=c)&&dv (c<=122)
noncomputable def lets (x:eG):fg:=x.cps.toList.all isLet
noncomputable def kept (x:eG):fg:=dv (x="names") ||(dv (x="ask") ||dv (x="end"))
noncomputable def eI (x:eG):fg:=!kept x&&(dv (1<=x.length)&&(dv (x.length<=8)&&lets x))
noncomputable def KA:D->fg
 | .str x=>eI x
 |_=>b0
abbrev QE:eG:="abcdefghijklmnopqrstuvwxyz"
theorem wA:QE.cps.toList.all isLet=ba:=by decide
theorem bB {α:Type}{xs:ak α}{i:Nat}{v : α}(h:xs[i]?=ag v):Ou xs (i:Int)=ag v:=by
 have a:i<xs.length:=(b5.mp h).1;have e:QO xs.length (i:Int)=ag i:=by unfold QO;rw[dm #[0],dm #[0]];simp
 unfold Ou;rw[e];exact h
end LI
namespace L2
open PySem PyProof.Rows
theorem pK {K:Type}[PR K]:∀ (l b:ak K),b.Nodup->(l.foldl dM b).Nodup
 |[],b,h=>h
 |a::l,b,h=>by
  rw[UU];refine pK l _ ?_;unfold dM;split
  ·exact h
  rename_i c;refine RR.mpr ⟨h,by simp,λx d y e=>?_⟩;rw[hM.mp e];rintro rfl;exact c d
theorem rO {K:Type}[PR K]:∀ (l b:ak K) (k:K),k∈l.foldl dM b↔k∈b∨k∈l
 |[],b,k=>by simp
 |a::l,b,k=>by
  rw[UU,rO l,f5];unfold dM;split
  ·rw[3]
   ·rintro (h |h)
    ·exact .inl h
    exact .inr (.inr h)
   rintro (h |rfl |h)
   ·exact .inl h
   ·left;assumption
   exact .inr h
  simp only[lk,hM];rw[3]
  ·rintro ((h |h) |h)
   ·exact .inl h
   ·exact .inr (.inl h)
   exact .inr (.inr h)
  rintro (h |h |h)
  ·exact .inl (.inl h)
  ·exact .inl (.inr h)
  exact .inr h
theorem zb {a b:eG}(h:NT a b=ba):Oi a b=ba:=by have c:a.cps.toList<b.cps.toList:=ll h;exact MG.mpr (List.le_of_lt c)
theorem pF (a:eG):NT a a=b0:=by unfold NT;exact eh (aeg _)
theorem rE {a b c:eG}(h:NT a b=ba)(g:NT b c=ba):NT a c=ba:=by
 unfold NT at *
 exact ia (List.lt_trans (ll h) (ll g))
theorem io {a b:eG}(h:Oi a b=ba)(n:a≠b):NT a b=ba:=by
 cases q:NT a b with
 |true=>rfl
 |false=>exact ku (vD h (by unfold Oi;rw[q];rfl)) n
noncomputable def Tv:ak eG->fg
 |a::b::r=>NT a b&&Tv (b::r)
 |_=>ba
theorem fD:∀ {l:ak eG},Tv l=ba->l.Pairwise λa b=>NT a b=ba
 |[],_ => .nil
 |[a],_=>by simp
 |a::b::r,h=>by
  rw[Tv,mc] at h;have d:=fD h.2;refine .cons (λc hc=>?_) d;rcases f5.mp hc with rfl |hc
  ·exact h.1
  exact rE h.1 ((rk.mp d).1 c hc)
theorem fw:∀ {l:ak eG},(l.Pairwise λa b=>NT a b=ba)->Tv l=ba
 |[],_=>rfl
 |[a],_=>rfl
 |a::b::r,h=>by
  obtain⟨c,d⟩:=rk.mp h;rw[Tv,mc];exact⟨c b (gy ..),fw d⟩
theorem E7 {i j:Int}(c : -1000000000000<j)(d:j<1000000000000):gU i j=ba:=by unfold gU;have a:dv (-(2 ^ 64)<j)=ba:=ia #[0];have b:dv (j<2 ^ 64)=ba:=ia #[0];rw[a,b];simp
theorem E8 {i j:Int}(c : -1000000000000<i)(d:i<1000000000000):gU i j=ba:=by unfold gU;have a:dv (-(2 ^ 64)<i)=ba:=ia #[0];have b:dv (i<2 ^ 64)=ba:=ia #[0];rw[a,b];simp
theorem vn (i j:Int):cD (.int i) (.int j)=if gU i j=ba then ag (.int (i*j)) else ay:=rfl
theorem vm (x:eG)(n:Int):cD (.str x) (.int n)=if -1000<=n/\n<1 then ag (.str ⟨#[]⟩) else if 1<=n/\n<=1000/\x.length<=1000 then ag (.str ⟨(ih n.toNat x.cps.toList).flatten.toArray⟩) else ay:=rfl
theorem CU (xs:ak D)(n:Int):cD (.tup xs) (.int n)=if 2<=n/\n<=1000/\0<xs.length/\xs.length<=1000 then ag (.tup (ih n.toNat xs).flatten) else ay:=rfl
theorem CW (i j:Int):cw (.int i) (.int j)=if 0<j then ag (.int (i % j)) else ay:=rfl
theorem Bo (i j:Int):dH (.int i) (.int j)=if 0<j/\j<1073741824 then ag (.int (i / j)) else ay:=rfl
theorem BA (x y:eG):bh (.str x) (.str y)=if x.length+y.length<=d4 then ag (.str (x++y)) else ay:=rfl
theorem g_ (x y:ak D):bh (.tup x) (.tup y)=if x.length+y.length<=d4 then ag (.tup (x++y)) else ay:=rfl
theorem mX (x y:ak D):bh (.lst x) (.lst y)=if x.length+y.length<=d4 then ag (.lst (x++y)) else ay:=rfl
theorem AA (j:Int):eE [.int j]=if -(2 ^ 62)<=j/\j<=16777216 then ag ((gx j.toNat).map λ(k:Nat)=>D.int k) else ay:=rfl
theorem CV {i j:Int}(a : -1000000000000<j)(b:j<1000000000000):cD (.int i) (.int j)=ag (.int (i*j)):=by rw[vn,dm (E7 a b)]
theorem ig {i j:Int}(a : -1000000000000<i)(b:i<1000000000000):cD (.int i) (.int j)=ag (.int (i*j)):=by rw[vn,dm (E8 a b)]
@[simp] theorem Jn (i j:Int):bh (.int i) (.int j)=ag (.int (i+j)):=rfl
@[simp] theorem Ih (i j:Int):uN (.int i) (.int j)=ag (.int (i-j)):=rfl
theorem bE {i j:Int}(h : 0<j):cw (.int i) (.int j)=ag (.int (i % j)):=by rw[CW,dm h]
theorem jP {i j:Int}(h : 0<j)(a:j<1073741824):dH (.int i) (.int j)=ag (.int (i / j)):=by rw[Bo,dm ⟨h,a⟩]
end L2
namespace LI
open PySem L2 PyProof.Rows
theorem yf (ns:ak Int)(k:Nat)(S:Lq):jv [.lst (ns.map .int),.int k] S=LB (.int (ns.getD k 0)) S:=by
 rw[4];unfold nK;by_cases h:k<ns.length
 ·have b:((k:Int)<ns.length):=#[1]
  have a:ns[k]?=ag ns[k]:=bc h;have e:Ou (ns.map D.int) (k:Int)=ag (.int ns[k]):=bB (by rw[hF,a];rfl);simp[eV,UJ,h,Mn,bO,TH,e,QJ,a]
 have a:ns[k]?=ay:=Vg #[0];simp[eV,UJ,h,QJ,a]
noncomputable def mix (ns:ak Int)(k:Nat):Int:=
 let d:=(ns.getD k 0+7919*(k:Int)+1)*48271 % 2147483647
 (d*d+7*d+(k:Int)) % 2147483629
theorem xH (ns:ak Int)(k:Nat) : 0<=mix ns k:=Jy _ #[2]
theorem gW (ns:ak Int)(k:Nat)(S:Lq):bu [.lst (ns.map .int),.int k] S=LB (.int (mix ns k)) S:=by
 rw[4];unfold rX;have b:=yf ns k;have a:∀ x:Int,cD (.int 7919) (.int x)=ag (.int (7919*x)):=λx=>ig #[2] #[2];have d:∀ x:Int,cD (.int x) (.int 48271)=ag (.int (x*48271)):=λx=>CV #[2] #[2];have g:∀ x:Int,cw (.int x) (.int 2147483647)=ag (.int (x % 2147483647)):=λx=>bE #[2];have e:∀ x:Int,cw (.int x) (.int 2147483629)=ag (.int (x % 2147483629)):=λx=>bE #[2];have f:∀ x:Int,cD (.int 7) (.int x)=ag (.int (7*x)):=λx=>ig #[2] #[2];have c:∀ x:Int,cD (.int (x % 2147483647)) (.int (x % 2147483647))=ag (.int (x % 2147483647*(x % 2147483647))):=λx=>by have h:=Jy x (show (2147483647:Int)≠0 by decide);have i:=K1 x (show (0:Int)<2147483647 by decide);exact ig #[0] #[0]
 simp[b,a,d,g,e,f,c,mix]
noncomputable def MR (n k:Int):Int:=
 let d:=(n+104729*k+17)*69621 % 2147483647
 (d*d+3*d+k) % 2147483629
theorem kK (n k:Int) : 0<=MR n k:=Jy _ #[2]
theorem jm (n k:Int)(S:Lq):dR [.int n,.int k] S=LB (.int (MR n k)) S:=by
 rw[4];unfold rY;have a:∀ x:Int,cD (.int 104729) (.int x)=ag (.int (104729*x)):=λx=>ig #[2] #[2];have c:∀ x:Int,cD (.int x) (.int 69621)=ag (.int (x*69621)):=λx=>CV #[2] #[2];have f:∀ x:Int,cw (.int x) (.int 2147483647)=ag (.int (x % 2147483647)):=λx=>bE #[2];have d:∀ x:Int,cw (.int x) (.int 2147483629)=ag (.int (x % 2147483629)):=λx=>bE #[2];have e:∀ x:Int,cD (.int 3) (.int x)=ag (.int (3*x)):=λx=>ig #[2] #[2];have b:∀ x:Int,cD (.int (x % 2147483647)) (.int (x % 2147483647))=ag (.int (x % 2147483647*(x % 2147483647))):=λx=>by have g:=Jy x (show (2147483647:Int)≠0 by decide);have h:=K1 x (show (0:Int)<2147483647 by decide);exact ig #[0] #[0]
 simp[a,c,f,d,e,b,MR]
def Wd (n:Nat)(x:eG):Prop:=x.length<=n/\∀ c∈x.cps.toList,c<128
theorem yp (x y:eG):(x++y).cps.toList=x.cps.toList++y.cps.toList:=by show (x.cps++y.cps).toList=_;simp
theorem Ab (x y:eG):(x++y).length=x.length+y.length:=by show (x.cps++y.cps).size=_;rw[adt];rfl
theorem JX (i:Int)(d : 0<=i)(f:i<26)(S:Lq):∃ x:eG,Mn (#[20]) (.int i) S=ag (.str x)/\Wd 1 x:=by
 obtain⟨k,rfl⟩:∃ k:Nat,i=k:=⟨i.toNat,#[1]⟩
 have a:k<QE.cps.toList.length:=by
  have:QE.cps.toList.length=26:=#[6]
  omega
 have e:Ou QE.cps.toList (k:Int)=ag QE.cps.toList[k]:=bB (bc a);refine⟨⟨#[QE.cps.toList[k]]⟩,?_,hB _,λc hc=>?_⟩
 ·unfold Mn;rw[dV (by simp[bO])];unfold TH;simp only[e];rfl
 have b:c=QE.cps.toList[k]:=by simpa using hc
 have q:=UN.mp wA QE.cps.toList[k] (Oy a);rw[b];simp only[isLet,mc,sX] at q;omega
theorem xm (j:Int)(a : 0<=j)(b:j<=1000):eE [.int j]=ag ((gx j.toNat).map λ(k:Nat)=>D.int k):=by rw[AA,dm #[0]]
theorem gR {n j:Nat}{d:D}(h:((gx n).map λ(k:Nat)=>D.int k)[j]?=ag d):d = .int j/\j<n:=by rw[hF] at h;obtain⟨x,c,rfl⟩:=en.mp h;obtain⟨a,b⟩:=b5.mp c;simp at a b;exact⟨by rw[← b],a⟩
theorem Io (b:fg):cD (.str "q") (.int (if b then 1 else 0))=ag (.str (if b then "q" else ⟨#[]⟩)):=by
 cases b
 ·rw[vm,dm #[2]];rfl
 rw[vm,dV #[2],dm ⟨#[6],#[6],#[6]⟩];rfl
noncomputable def T_ (d:D)(s:eG):fg:=match d with
 | .str y=>dv (y=s)
 |_=>b0
theorem Dt {d:D}(h:pl d=ba)(s:eG):N5 d (.str s)=ag (.bl (T_ d s)):=by
 obtain⟨p,e⟩:=yE h;have c:toPy (.str s)=ag (.str s):=rfl;unfold N5;rw[e,c];have hd:Zu p.depth (aaL s).depth<=150:=hA (Ze _ _) (by simp[wt]);simp only[hd,n7];cases d with
 |str y=>rw[toPy] at e;cases e;simp[iv,T_,FF]
 |tup a=>rw[toPy] at e;obtain⟨b,_,rfl⟩:=en.mp e;simp[iv,T_]
 |lst a=>rw[toPy] at e;obtain⟨b,_,rfl⟩:=en.mp e;simp[iv,T_]
 |set _=>simp[pl] at h
 |loc _=>simp[pl] at h
 |fn _ _=>simp[pl] at h
 |_=>rw[toPy] at e;cases e;simp[iv,T_]
theorem Sl (xs:ak D)(a:D)(S:Lq):Mn (.tup (a::xs)) (.int 0) S=ag a:=by unfold Mn;rw[dV (by simp[bO])];exact bB (i:=0) rfl
theorem Tw (xs:ak D)(a b:D)(S:Lq):Mn (.tup (a::b::xs)) (.int 1) S=ag b:=by unfold Mn;rw[dV (by simp[bO])];exact bB (i:=1) rfl
theorem at2 (xs:ak D)(a b c:D)(S:Lq):Mn (.tup (a::b::c::xs)) (.int 2) S=ag c:=by unfold Mn;rw[dV (by simp[bO])];exact bB (i:=2) rfl
theorem at3 (xs:ak D)(a b c d:D)(S:Lq):Mn (.tup (a::b::c::d::xs)) (.int 3) S=ag d:=by unfold Mn;rw[dV (by simp[bO])];exact bB (i:=3) rfl
theorem tK (x:Int){n:Int}(h : 0<n) : 0<=x % n/\x % n<n:=⟨Jy x #[0],K1 x h⟩
def Wl (n:Nat)(x:eG):Prop:=1<=x.length/\x.length<=n/\lets x=ba
theorem Da (x y:eG):lets (x++y)=(lets x&&lets y):=by unfold lets;rw[yp,List.all_append]
theorem Wl.app {n m:Nat}{x y:eG}(h:Wl n x)(g:Wl m y):Wl (n+m) (x++y):=by obtain⟨a,b,c⟩:=h;obtain⟨e,f,d⟩:=g;refine⟨by rw[Ab];omega,by rw[Ab];omega,by rw[Da,c,d];rfl⟩
theorem zm (i:Int)(b : 0<=i)(c:i<26)(S:Lq):∃ x:eG,Mn (#[20]) (.int i) S=ag (.str x)/\Wl 1 x:=by
 obtain⟨k,rfl⟩:∃ k:Nat,i=k:=⟨i.toNat,#[1]⟩
 have a:k<QE.cps.toList.length:=by
  have:QE.cps.toList.length=26:=#[6]
  omega
 have e:Ou QE.cps.toList (k:Int)=ag QE.cps.toList[k]:=bB (bc a);refine⟨⟨#[QE.cps.toList[k]]⟩,?_,hB _,hB _,?_⟩
 ·unfold Mn;rw[dV (by simp[bO])];unfold TH;simp only[e];rfl
 have q:=UN.mp wA QE.cps.toList[k] (Oy a);show ([QE.cps.toList[k]]:ak Nat).all isLet=ba;rw[all_cons,q];rfl
theorem DR {n m:Nat}{x y:eG}(h:Wl n x)(g:y.length<=m)(a:n+m<=1000):bh (.str x) (.str y)=ag (.str (x++y)):=by have b:=h.2.1;rw[BA,dm (hA (show x.length+y.length<=1000 by omega) #[2])]
theorem Hw (n:Int)(l:D)(k b:Int)(a:eG)(i:Nat)(S:Lq)(c:Wl (i+1) a)(o:i<=10)(p : 0<=b):∃ d:eG,Wl (i+2) d /\
  gD [ag (.int n),ag (#[20]),ag l,ag (.int k),ag (.int b),ag (.str a),ag (.int i)] S=LB (.next [ag (.int n),ag (#[20]),ag l,ag (.int k),ag (.int b),ag (.str d),ag (.int i)]) S:=by
 have f:cD (.int 31) (.int i)=ag (.int (31*i)):=ig #[2] #[2];have g:dH (.int b) (.int (31*(i:Int)+29))=ag (.int (b / (31*(i:Int)+29))):=jP #[0] #[0];have m:cw (.int (b / (31*(i:Int)+29))) (.int 26)=ag (.int (b / (31*(i:Int)+29) % 26)):=bE #[2];obtain⟨x,h,e⟩:=zm (b / (31*(i:Int)+29) % 26) (Jy _ #[2]) (K1 _ #[2]) S;have j:=DR c e.2.1 #[0];refine⟨a++x,c.app e,?_⟩;unfold gD;simp[f,g,m,h,j]
theorem JZ (x:eG)(S:Lq):Rf b0 (.str x) (.tup [.str "names",.str "ask",.str "end"]) S=ag (.bl (kept x)):=by have e:=in3 x "names" "ask" "end";unfold Rf;rw[dV (by simp[bO]),dV #[2]];rw[e];unfold kept;simp[eq_comm]
theorem IP {x:eG}(h:kept x=ba):eI (x++("q":eG))=ba:=by simp only[kept,Zw,sX] at h;rcases h with rfl |rfl |rfl<;>decide
theorem IE {x:eG}(h:Wl 8 x):eI (x++(if kept x then ("q":eG) else ⟨#[]⟩))=ba:=by
 cases hk:kept x with
 |true=>exact IP hk
 |false =>
  have e:x++(⟨#[]⟩:eG)=x:=by show (⟨x.cps++#[]⟩:eG)=x;simp
  simp only[lg,r3,e];unfold eI;rw[hk,ia h.1,ia h.2.1,h.2.2];rfl
def Pn (n:Nat)(kvs:ak (D×D)):Prop:=kvs.length<=n/\∃ a:ak eG,kvs.map (·.1)=a.map .str/\a.Nodup/\∀ x∈a,eI x=ba
theorem Ay (x y:eG):fM (.str x) (.str y)=dv (x=y):=by simp[fM,fz]
theorem Pn.put {n:Nat}{kvs:ak (D×D)}{x:eG}{v:D}(h:Pn n kvs)(f:eI x=ba):Pn (n+1) (putD kvs (.str x) v):=by
 obtain⟨l,c,e,nd,k⟩:=h;unfold putD;split
 ·refine⟨by rw[d7];omega,c,?_,nd,k⟩;rw[mx,← e];refine y2 λp _=>?_;simp only[Yd];split<;>rfl
 rename_i j;refine⟨by rw[da,UC];omega,c++[x],by simp[e],?_,λy hy=>?_⟩
 ·refine RR.mpr ⟨nd,by simp,λa i b hb=>?_⟩;rw[hM.mp hb];rintro rfl;apply j;have d:D.str a∈kvs.map (·.1):=by rw[e];exact ZR i
  obtain⟨p,g,q⟩:=vl.mp d;rw[adC];exact⟨p,g,by rw[q,Ay];simp⟩
 rcases lk.mp hy with hy |hy
 ·exact k y hy
 rw[hM.mp hy];exact f
theorem Hv (n:Int)(k:Nat)(S:Lq)(kvs:ak (D×D))(b c d:a9 D)(y:Pn k kvs)(hk:k<6):∃ R M d' C,Pn (k+1) C /\
  gC [ag (.int n),ag (#[20]),ag (#[11]),ag (.int k),b,c,d] (S++[.dict kvs])=LB (.next [ag (.int n),ag (#[20]),ag (#[11]),ag (.int k),R,M,d']) (S++[.dict C]):=by
 have V:=jm n k;have T:=kK n k;have H:cw (.int (MR n k)) (.int 26)=ag (.int (MR n k % 26)):=bE #[2];obtain⟨x,K,N⟩:=zm (MR n k % 26) (Jy _ #[2]) (K1 _ #[2]) (S++[.dict kvs]);have I:dH (.int (MR n k)) (.int 26)=ag (.int (MR n k / 26)):=jP #[2] #[2];have X:cw (.int (MR n k / 26)) (.int 8)=ag (.int (MR n k / 26 % 8)):=bE #[2];have O:cw (.int n) (.int 2)=ag (.int (n % 2)):=bE #[2];have b1:=Jy (MR n k / 26) (show (8:Int)≠0 by decide);have b2:=K1 (MR n k / 26) (show (0:Int)<8 by decide);have b3:=Jy n (show (2:Int)≠0 by decide);have Z:=K1 n (show (0:Int)<2 by decide);have s:cD (.int (MR n k / 26 % 8)) (.int (n % 2))=ag (.int (MR n k / 26 % 8*(n % 2))):=ig #[0] #[0]
 have E : 0<=MR n k / 26 % 8*(n % 2)/\MR n k / 26 % 8*(n % 2)<=7:=by
  have:n % 2=0∨n % 2=1:=#[1]
  rcases this with h |h<;>rw[h]<;>omega
 have t:=xm (MR n k / 26 % 8*(n % 2)) E.1 #[0];generalize MR n k / 26 % 8*(n % 2)=m at s t E
 obtain⟨Q,S',Y,B⟩:=bF (u:=aB 6) (body:=gD) (λi A v=>v=S++[.dict kvs]/\i<=7/\∃ (w:eG) (z:a9 D),Wl (i+1) w/\A=[ag (.int n),ag (#[20]),ag (#[11]),ag (.int k),ag (.int (MR n k)),ag (.str w),z])
  ((gx m.toNat).map λ(k:Nat)=>D.int k) 0 [ag (.int n),ag (#[20]),ag (#[11]),ag (.int k),ag (.int (MR n k)),ag (.str x),d] (S++[.dict kvs]) ⟨rfl,#[1],x,d,N,rfl⟩ (by
   rintro j dd A v J ⟨rfl,U,w,z,a,rfl⟩;obtain⟨rfl,M0⟩:=gR J;simp only[mi] at a U ⊢;obtain⟨P,q,eq⟩:=Hw n (#[11]) k (MR n k) w j (S++[.dict kvs]) a #[0] T
   exact⟨_,rfl,_,_,eq,rfl,#[1],P,ag (.int j),q,rfl⟩)
 simp only[mi,d7,p0] at B;obtain⟨rfl,L,w,z,a,rfl⟩:=B;have e:Wl 8 w:=⟨a.1,by have:=a.2.1;omega,a.2.2⟩;have G:=JZ w (S++[.dict kvs]);have F:=IE e;generalize kept w=bb at G F;have f:=Io bb;have W:(if bb then ("q":eG) else ⟨#[]⟩).length<=1:=by cases bb<;>decide
 have g:=DR e W #[2];have r:(S++[MO.dict kvs])[S.length]?=ag (.dict kvs):=by simp
 have l:kvs.length<d4:=ke (show kvs.length<1000 by have:=y.1;omega) #[2];have p:(S++[MO.dict kvs]).set S.length (.dict (putD kvs (.str (w++(if bb then ("q":eG) else ⟨#[]⟩))) (.bl ba)))=S++[.dict (putD kvs (.str (w++(if bb then ("q":eG) else ⟨#[]⟩))) (.bl ba))]:=by simp
 refine⟨ag (.int (MR n k)),ag (.str w),z,putD kvs (.str (w++(if bb then ("q":eG) else ⟨#[]⟩))) (.bl ba),y.put F,?_⟩;have o:intD [.bl bb]=ag (.int (if bb then 1 else 0)):=rfl;unfold gC;simp[V,H,K,I,X,O,s,t,Y,u4,r,fz,l,p,G,o,f,g]
theorem Al (n:Int)(S:Lq):∃ (ss:ak eG) (kvs:ak (D×D)),mZ [.int n] S=LB (.tup (ss.map .str)) (S++[.dict kvs])/\ss.length<=6/\(∀ x∈ss,eI x=ba)/\ss.Pairwise λa b=>NT a b=ba:=by
 obtain⟨B,N,p,o⟩:=bF (u:=aB 3) (body:=gC) (λi m g=>i<=6/\∃ kvs b c d z,g=S++[.dict kvs]/\Pn i kvs/\m=[ag (.int n),ag (#[20]),ag (#[11]),z,b,c,d])
  ((gx 6).map λ(k:Nat)=>D.int k) 0 [ag (.int n),ag (#[20]),ag (#[11]),ay,ay,ay,ay] (S++[.dict []]) ⟨#[1],[],ay,ay,ay,ay,rfl,⟨hB _,[],rfl,XX,λx h=>by cases h⟩,rfl⟩ (by
   rintro j L m g s ⟨M,kvs,b,c,d,z,rfl,l,rfl⟩;obtain⟨rfl,y⟩:=gR s;simp only[mi] at l ⊢;obtain⟨E,w,G,C,e,eq⟩:=Hv n j S kvs b c d l y
   exact⟨_,rfl,_,_,eq,#[1],C,E,w,G,ag (.int j),rfl,e,rfl⟩)
 simp only[mi,d7,p0] at o;obtain⟨_,kvs,b,c,d,z,rfl,⟨J,ss,es,nd,H⟩,rfl⟩:=o;have K:ss.length=kvs.length:=by have:=zc abv es;simpa using this.symm
 have t:e_ (kvs.map (·.1))=ag ((j3 ss).map .str):=by rw[es];unfold e_;rw[dm (by rw[d7];first |omega |exact hA (show ss.length<=1000 by omega) #[2]),jA]
 have f:(j3 ss).Perm ss:=S8 _ _;have A:(j3 ss).Nodup:=(f.nodup_iff).mpr nd;have F:(j3 ss).Pairwise λa b=>Oi a b=ba:=SX jI rF _;refine⟨j3 ss,kvs,?_,by rw[f.length_eq];omega,λx v=>H x (f.mem_iff.mp v),(F.and A).imp λq=>io q.1 q.2⟩;have r:eE [.int 6]=ag ((gx 6).map λ(k:Nat)=>D.int k):=xm 6 #[2] #[2];have I:(S++[MO.dict kvs])[S.length]?=ag (.dict kvs):=by simp
 rw[4];unfold rQ;simp[r,p,oW,I,t,iU]
theorem r6:∀ (ds:ak D) (i:Nat),(bi i ds).map (λd=>match d with | .tup [_,x]=>x |_ => .LN)=ds
 |[],_=>rfl
 |d::ds,i=>by rw[bi,hH,r6 ds]
theorem vj (n:Int){ss:ak eG}(s:ss.length<=100)(S:Lq):∃ a:ak eG,m_ [.int n,.tup (ss.map .str)] S=LB (.tup (a.map .str)) S/\a.Sublist ss:=by
 have q:=fV (u:=ft 2 (aK (aB 0) (aK (aB 1) ca))) (gt:=i5) (fe:=jk) (λh => ∃ y z,h=[y,z,ag (.int n)]) (λd=>match d with | .tup [.int k,_]=>dv (n / (3*k+1) % 4=0) |_=>b0)
  (λd=>match d with | .tup [_,x]=>x |_ => .LN) S (bi 0 (ss.map .str)) (cg 2 [0] [ag (.int n),ag (.tup (ss.map .str))]) ⟨ay,ay,rfl⟩ (by
   rintro d i h ⟨y,z,rfl⟩;obtain⟨j,f⟩:=QV i;rw[cZ] at f;obtain⟨x,m,rfl⟩:=en.mp f;have t:j<ss.length:=by have:=(b5.mp m).1;simpa using this
   have b:cD (.int 3) (.int ((0+j:Nat):Int))=ag (.int (3*((0+j:Nat):Int))):=ig #[2] #[2];have g:dH (.int n) (.int (3*((0+j:Nat):Int)+1))=ag (.int (n / (3*((0+j:Nat):Int)+1))):=jP #[0] #[0];have c:cw (.int (n / (3*((0+j:Nat):Int)+1))) (.int 4)=ag (.int (n / (3*((0+j:Nat):Int)+1) % 4)):=bE #[2];refine⟨[ag (.int ((0+j:Nat):Int)),ag x,ag (.int n)],rfl,⟨_,_,rfl⟩,?_,λ_=>?_⟩
   ·unfold i5;simp only[mi] at b g c ⊢;simp[b,g,c]
   unfold jk;simp)
 have o:(((bi 0 (ss.map D.str)).filter (λd=>match d with | .tup [.int k,_]=>dv (n / (3*k+1) % 4=0) |_=>b0)).map (λd=>match d with | .tup [_,x]=>x |_ => .LN)).Sublist (ss.map D.str):=by have:=(ZT (p:=(λd=>match d with | .tup [.int k,_]=>dv (n / (3*k+1) % 4=0) |_=>b0)) (l:=bi 0 (ss.map D.str))).map (λd=>match d with | .tup [_,x]=>x |_ => .LN);rw[r6] at this;exact this
 obtain⟨a,r,e⟩:=List.sublist_map_iff.mp o;refine⟨a,?_,r⟩;rw[4];unfold rW;rw[e] at q;simp[ki,q,iU]
theorem CQ {x:eG}(h:eI x=ba):∀ c∈x.cps.toList,c<128:=by unfold eI at h;rw[mc,mc,mc] at h;intro c hc;have:=UN.mp h.2.2.2 c hc;unfold isLet at this;simp at this;omega
end LI
namespace L2
open PySem PyProof.Rows
section
variable (f g:Lk D) (ρ:Lr) (S:Lq)
@[simp] theorem KY (c k:eG):jt c k f ρ S=ai (f ρ S) λd a=>aL (kI c k d a) a:=rfl
@[simp] theorem Kc (c k:eG):p_ c k f g ρ S=ai (g ρ S) λv a=>ai (f ρ a) λd S2=>oY c k d v ρ S2:=rfl
@[simp] theorem Ko (c k:eG):Jh c k f g ρ S=ai (f ρ S) λd a=>ai (aL (kI c k d a) a) λv S2=>ai (g ρ S2) λy b=>Jl c k d v y ρ b:=rfl
@[simp] theorem Kj (c m:eG)(F:Lp)(a:Lk (ak D)):dI c m F f a ρ S=ai (f ρ S) λd b=>ai (aL (vL c m d b) b) λ_ S2=>ai (a ρ S2) λds e=>j8 (F (d::ds) e):=rfl
@[simp] theorem JF (c m:eG)(F:Lp)(a:Lk (ak D)):Hr c m F f a ρ S=ai (f ρ S) λd b=>ai (aL (vL c m d b) b) λ_ S2=>ai (a ρ S2) λds e=>F (d::ds) e:=rfl
@[simp] theorem Kh:wc ρ S=LB (#[11]) (S++[.lst []]):=rfl
@[simp] theorem K8:Hu f g ρ S=ai (f ρ S) λd a=>ai (aL (cR d a) a) λ_ S2=>ai (g ρ S2) λv b=>yq d v b:=rfl
@[simp] theorem I_:Fu f ρ S=ai (f ρ S) λd a=>aL ((cR d a).bind λxs=>if xs.length<=d4 then ag (.tup xs) else ay) a:=rfl
@[simp] theorem Dx:qe f ρ S=ai (f ρ S) λ_ a=>LB (.next ρ) a:=rfl
@[simp] theorem Ja (c:eG)(q:Lr->Lq->fg):FB c q ρ S=if q ρ S=ba then ag (.error c,S) else ay:=rfl
@[simp] theorem K_ {α a:Type}(c:eG)(k : α->Lq->Out a):ai (ag (.error c,S):Out α) k=ag (.error c,S):=rfl
end
theorem gg {S:Lq}{l:Nat}{a b:MO}(h:S[l]?=ag a):(S.set l b)[l]?=ag b:=by have:l<S.length:=(b5.mp h).1;simp[this]
theorem cO {S:Lq}{l k:Nat}{b:MO}(h:l≠k):(S.set l b)[k]?=S[k]?:=by simp[aak,h]
section
variable (f g:Lk D) (ρ:Lr) (S:Lq)
@[simp] theorem zR:uq f g ρ S=ai (f ρ S) λx a=>ai (g ρ a) λi S2=>aL (lJ x i S2) S2:=rfl
@[simp] theorem KP:By f g ρ S=ai (f ρ S) λx a=>ai (g ρ a) λi S2=>aL (if bO x=ba then lJ x i S2 else TH x i) S2:=rfl
@[simp] theorem KM (neg:fg):DI neg f g ρ S=ai (f ρ S) λk a=>ai (g ρ a) λx S2=>aL (pC neg k x S2) S2:=rfl
@[simp] theorem Ki:z7 f g ρ S=ai (f ρ S) λx a=>ai (g ρ a) λk S2=>aL (jf x k S2) S2:=rfl
@[simp] theorem Kd (h:Lk D):wb f g h ρ S=ai (h ρ S) λv b=>ai (f ρ b) λx S2=>ai (g ρ S2) λk a=>pc x k v ρ a:=rfl
@[simp] theorem Kk:DD f ρ S=ai (f ρ S) λd a=>aL ((cR d a).map λxs => .int xs.length) a:=rfl
@[simp] theorem Hg:mS f ρ S=ai (f ρ S) λd a=>aL (gZ d a) a:=rfl
@[simp] theorem Kg:z6 ρ S=LB (#[11]) (S++[.LM []]):=rfl
@[simp] theorem I0 (u:D->Lr->a9 Lr):uo u f ρ S=ai (f ρ S) λd a=>aL ((u d ρ).map Fl.next) a:=rfl
end
end L2
namespace LI
open PySem L2 PyProof.Rows
inductive Row where
 |leaf (ss:ak eG)
 |ask (c no yes:Nat)
 deriving DecidableEq
noncomputable def au:Row->D
 | .leaf a => .tup [.str "names",.tup (a.map .str)]
 | .ask c no yes => .tup [.int c,.int no,.int yes]
noncomputable def o_:Row->la
 | .leaf a => .tuple [.str "names",.tuple (a.map .str)]
 | .ask c no yes => .tuple [.int c,.int no,.int yes]
noncomputable def dB:Row->Prop
 | .leaf a => ∀ x∈a,eI x=ba
 | .ask _ _ _=>True
theorem E4 {x:eG}(h:eI x=ba):H7 x=ba:=by have w:=CQ h;unfold H7;rw[← Array.all_toList,UN];intro c hc;have:=w c hc;simp;omega
theorem vi:H7 ("names":eG)=ba:=by decide
theorem lm {r:Row}(h:dB r):f9 (au r)=ag (o_ r):=by
 unfold f9;cases r with
 |leaf b =>
  have e:toPy (au (.leaf b))=ag (o_ (.leaf b)):=by simp[au,o_,toPy,cY,hZ]
  have a:(b.map aaL).all (keyOk 6)=ba:=by rw[UN];intro p f;obtain⟨x,d,rfl⟩:=vl.mp f;exact E4 (h x d)
  have k:keyOk 8 (o_ (.leaf b))=ba:=by show ([aaL "names",PyData.tuple (b.map .str)]:ak la).all (keyOk 7)=ba;rw[all_cons,all_cons,List.all_nil,Bool.and_true,mc];exact⟨vi,a⟩
  rw[e,m4,dm k]
 |ask c no yes=>simp[au,o_,toPy,cY,keyOk]
theorem Es (a b:Row):iv (o_ a) (o_ b)=dv (a=b):=by
 cases a with
 |leaf s=>cases b with
  |leaf t=>simp[o_,iv,ti,pR]
  |ask c n y=>simp[o_,iv,ti]
 |ask c n y=>cases b with
  |leaf t=>simp[o_,iv,ti]
  |ask e d f =>
   rw[Bool.eq_iff_iff];simp[o_,iv,ti];omega
theorem gO {a b:Row}(c:dB a)(hb:dB b):fL (au a) (au b)=dv (a=b):=by unfold fL;rw[lm c,lm hb];exact Es a b
theorem dY (r:Row):fQ (au r)=ba:=by cases r<;>rfl
noncomputable def bx (k:Nat):ak Row->ak (D×D)
 |[]=>[]
 |r::G=>(au r,.int k)::bx (k+1) G
theorem vd:∀ (G:ak Row) (k:Nat),(bx k G).length=G.length
 |[],_=>rfl
 |r::G,k=>by rw[bx,j2,j2,vd G]
theorem jN {r:Row}(hr:dB r):∀ (G:ak Row) (k:Nat),(∀ x∈G,dB x)->lL (bx k G) (au r)=if r∈G then ag (.int ((k+G.idxOf r:Nat):Int)) else ay
 |[],k,_=>rfl
 |x::G,k,h=>by
  have b:=jN hr G (k+1) λy d=>h y (eJ _ d);unfold lL at b ⊢;rw[bx,wh];simp only[gO (h x (gy ..)) hr];by_cases e:x=r
  ·subst e;simp
  rw[eh e];simp only;rw[b];have f:¬ r=x:=λq=>e q.symm;have c:(x==r)=b0:=by simpa using e
  by_cases a:r∈G
  ·rw[dm a,dm (eJ _ a),XY,c];simp only[cond_false];congr 2;omega
  rw[dV a,dV (by rw[f5];exact λq=>q.elim f a)]
theorem any_nums {r:Row}(hr:dB r)(G:ak Row)(k:Nat)(h:∀ x∈G,dB x)(a:r∉G):((bx k G).any λp=>fL p.1 (au r))=b0:=by have q:=jN hr G k h;rw[dV a] at q;unfold lL at q;rw[Option.map_eq_none_iff,acK] at q;rw[aaa];exact q
theorem rz:∀ (G:ak Row) (k:Nat) (r:Row),bx k (G++[r])=bx k G++[(au r,.int ((k+G.length:Nat):Int))]
 |[],k,r=>rfl
 |x::G,k,r=>by
  rw[R5,bx,rz G (k+1) r,bx,R5,j2,show k+1+G.length=k+(G.length+1) by omega]
theorem AD {r:Row}(hr:dB r){G:ak Row}(h:∀ x∈G,dB x)(a:r∉G):putN (bx 0 G) (au r) (.int G.length)=bx 0 (G++[r]):=by unfold putN;rw[any_nums hr G 0 h a,dV #[2],rz,mi]
theorem Bi {kvs:ak (D×D)}{k v:D}(h:fL k k=ba):lL (putN kvs k v) k=ag v:=by
 unfold putN;split
 ·rename_i a;unfold lL;rw[adC] at a;clear h
  induction kvs with
  |nil=>obtain⟨p,b,_⟩:=a;cases b
  |cons p r c =>
   rw[hH,wh];cases b:fL p.1 k with
   |true=>simp[b]
   |false =>
    simp only[b,lg,r3];obtain⟨x,hx,q⟩:=a;rcases f5.mp hx with rfl |hx
    ·rw[b] at q;cases q
    exact c ⟨x,hx,q⟩
 rename_i a;unfold lL;rw[Bool.not_eq_true,aaa] at a;rw[List.find?_append,acK.mpr a];simp[h]
abbrev Th:=Nat->fg
inductive Ev (G:ak Row) (th:Th):Nat->ak eG->Prop
 |leaf {i:Nat}{ss:ak eG}:G[i]?=ag (.leaf ss)->Ev G th i ss
 |no {i c n y:Nat}{ss:ak eG}:G[i]?=ag (.ask c n y)->th c=b0->Ev G th n ss->Ev G th i ss
 |yes {i c n y:Nat}{ss:ak eG}:G[i]?=ag (.ask c n y)->th c=ba->Ev G th y ss->Ev G th i ss
theorem tZ {G E:ak Row}{i:Nat}{r:Row}(h:G[i]?=ag r):(G++E)[i]?=ag r:=by rw[h7 (b5.mp h).1];exact h
theorem Ev.mono {G:ak Row}(E:ak Row){b:Th}{i:Nat}{ss:ak eG}(h:Ev G b i ss):Ev (G++E) b i ss:=by
 induction h with
 |leaf h=>exact .leaf (tZ h)
 |no h t _ a=>exact .no (tZ h) t a
 |yes h t _ a=>exact .yes (tZ h) t a
theorem Ev.det {G:ak Row}{f:Th}{i:Nat}{a b:ak eG}(h:Ev G f i a)(g:Ev G f i b):a=b:=by
 induction h with
 |leaf h=>cases g with
  |leaf c=>rw[h] at c;cases c;rfl
  |no c=>rw[h] at c;cases c
  |yes c=>rw[h] at c;cases c
 |no h t _ e=>cases g with
  |leaf c=>rw[h] at c;cases c
  |no c d g=>rw[h] at c;cases c;exact e g
  |yes c d g=>rw[h] at c;cases c;rw[t] at d;cases d
 |yes h t _ e=>cases g with
  |leaf c=>rw[h] at c;cases c
  |no c d g=>rw[h] at c;cases c;rw[t] at d;cases d
  |yes c d g=>rw[h] at c;cases c;exact e g
noncomputable def pl (o:ak Nat)(G:ak Row)(i:Nat):Nat:=match G[i]? with
 |ag (.ask c _ _)=>o.idxOf c
 |_=>o.length
theorem cC {o:ak Nat}{G E:ak Row}{i:Nat}(h:i<G.length):pl o (G++E) i=pl o G i:=by unfold pl;rw[h7 h]
theorem Iu (o:ak Nat)(G:ak Row)(i:Nat):pl o G i<=o.length:=by
 unfold pl;split
 ·exact List.idxOf_le_length
 exact hB _
noncomputable def Oc (o:ak Nat)(G:ak Row)(i:Nat):Row->Prop
 | .leaf a=>(∀ x∈a,eI x=ba)/\Tv a=ba
 | .ask c n y=>c∈o/\n<i/\y<i/\#[12]<LI.pl o G n/\#[12]<LI.pl o G y/\n≠y
structure Wf (o:ak Nat) (G:ak Row):Prop where
 nd:G.Nodup
 row:∀ (i:Nat) (r:Row),G[i]?=ag r->Oc o G i r
theorem Wf.ok {o:ak Nat}{G:ak Row}(h:Wf o G):∀ x∈G,dB x:=by
 intro x b;obtain⟨i,a⟩:=QV b;have:=h.row i x a;cases x with
 |leaf d=>exact this.1
 |ask c n y=>trivial
theorem Wf.total {o:ak Nat}{G:ak Row}(h:Wf o G)(a:Th):∀ (i:Nat),i<G.length->∃ ss,Ev G a i ss:=by
 intro i
 induction i using adJ with
 |_ i b =>
  intro f;have e:G[i]?=ag G[i]:=bc f;have q:=h.row i _ e;cases hr:G[i] with
  |leaf ss=>rw[hr] at e;exact⟨ss,.leaf e⟩
  |ask c n y =>
   rw[hr] at e q;obtain⟨_,g,d,_,_,_⟩:=q;cases ht:a c with
   |false=>obtain⟨ss,k⟩:=b n g #[0];exact⟨ss,.no e ht k⟩
   |true=>obtain⟨ss,k⟩:=b y d #[0];exact⟨ss,.yes e ht k⟩
theorem Wf.back {o:ak Nat}{G E:ak Row}(h:Wf o G){a:Th}{i:Nat}{ss:ak eG}(b:i<G.length)(e:Ev (G++E) a i ss):Ev G a i ss:=by obtain⟨c,k⟩:=h.total a i b;rw[Ev.det e (k.mono E)];exact k
theorem Oc.app {o:ak Nat}{G E:ak Row}{i:Nat}{r:Row}(k:i<=G.length)(h:Oc o G i r):Oc o (G++E) i r:=by
 cases r with
 |leaf j=>exact h
 |ask c n y =>
  obtain⟨a,b,g,d,e,f⟩:=h;refine⟨a,b,g,?_,?_,f⟩
  ·rw[cC #[0]];exact d
  rw[cC #[0]];exact e
theorem Wf.snoc {o:ak Nat}{G:ak Row}(h:Wf o G){r:Row}(d:r∉G)(hr:Oc o G G.length r):Wf o (G++[r]):=by
 refine⟨RR.mpr ⟨h.nd,by simp,λa e b hb=>?_⟩,λi x c=>?_⟩
 ·rw[hM.mp hb];rintro rfl;exact d e
 rcases WA i G.length with hi |hi |hi
 ·rw[h7 hi] at c;exact(h.row i x c).app (K5 hi)
 ·subst hi;have:x=r:=by simpa using c.symm
  subst this;exact hr.app (hB _)
 rw[hO #[0]] at c;have:([r]:ak Row)[i-G.length]?=ay:=by rw[Z7];simp;omega
 rw[this] at c;cases c
noncomputable def kM (C:ak (Row×Nat)):ak (D×D):=C.map λp=>(au p.1,.int p.2)
noncomputable def sel (a:Th)(c n y:Nat):Nat:=if a c=ba then y else n
def N2 (o:ak Nat)(G:ak Row)(r:Row)(v:Nat):Prop:=match r with
 | .leaf _=>False
 | .ask c n y=>n<G.length/\y<G.length/\v<G.length/\Zu (#[12]) (Zu (LI.pl o G n) (LI.pl o G y))<=LI.pl o G v/\∀ a b,Ev G a (sel a c n y) b->Ev G a v b
theorem N2.app {o:ak Nat}{G E:ak Row}(w:Wf o G){r:Row}{v:Nat}(h:N2 o G r v):N2 o (G++E) r v:=by
 cases r with
 |leaf _=>exact h
 |ask c n y =>
  obtain⟨a,b,i,d,e⟩:=h;refine⟨by rw[da];omega,by rw[da];omega,by rw[da];omega,?_,λf g k=>?_⟩
  ·rw[cC a,cC b,cC i];exact d
  have j:sel f c n y<G.length:=by unfold sel;split<;>assumption
  exact(e f g (w.back j k)).mono E
noncomputable def nZ:ak (Row×Nat)->Row->Nat->ak (Row×Nat):=λC r v=>if (C.any λp=>dv (p.1=r))=ba then C.map (λp=>if p.1=r then (p.1,v) else p) else C++[(r,v)]
theorem zX {C:ak (Row×Nat)}(h:∀ p∈C,dB p.1){r:Row}(hr:dB r)(v:Nat):putN (kM C) (au r) (.int v)=kM (nZ C r v):=by
 have b:((kM C).any λp=>fL p.1 (au r))=C.any λp=>dv (p.1=r):=by
  unfold kM;rw[any_map]
  have:∀ l:ak (Row×Nat),(∀ p∈l,dB p.1)->(l.any ((λp=>fL p.1 (au r)) ∘ λp=>(au p.1,D.int p.2)))=l.any λp=>dv (p.1=r):=by
   intro l a
   induction l with
   |nil=>rfl
   |cons p l e =>
    rw[Rm,Rm,e λq c=>a q (eJ _ c)];simp only[Yd,gO (a p (gy ..)) hr]
  exact this C h
 unfold putN nZ;rw[b];split
 ·unfold kM;rw[mx,mx];refine y2 λp d=>?_;simp only[Yd,gO (h p d) hr,sX];split<;>rfl
 unfold kM;rw[Q5];rfl
theorem Fy {C:ak (Row×Nat)}(h:∀ p∈C,dB p.1){r:Row}(hr:dB r):lL (kM C) (au r)=(C.find? λp=>dv (p.1=r)).map λp => .int p.2:=by
 unfold lL kM
 induction C with
 |nil=>rfl
 |cons p C b =>
  rw[hH,wh,wh];simp only[gO (h p (gy ..)) hr];cases hd:dv (p.1=r) with
  |true=>rfl
  |false=>exact b λq a=>h q (eJ _ a)
theorem u6 {C:ak (Row×Nat)}{P:Row->Nat->Prop}(h:∀ p∈C,P p.1 p.2){r:Row}{v:Nat}(hr:P r v):∀ p∈nZ C r v,P p.1 p.2:=by
 intro p hp;unfold nZ at hp;split at hp
 ·obtain⟨q,a,rfl⟩:=vl.mp hp;split
  ·rename_i e;rw[e];exact hr
  exact h q a
 rcases lk.mp hp with hp |hp
 ·exact h p hp
 rw[hM.mp hp];exact hr
theorem u5 (C:ak (Row×Nat))(r:Row)(v:Nat):(nZ C r v).length<=C.length+1:=by
 unfold nZ;split
 ·rw[d7];omega
 rw[da];simp
abbrev oD (o:ak Nat):D:=.tup (o.map λ(c:Nat)=>D.int c)
abbrev RO (o:ak Nat)(L:Nat):MO:=.ins "Rows" [("order",oD o),("gathered",.loc (L+1)),("numbers",.loc (L+2)),("choices",.loc (L+3))]
structure SR (B:Nat->a9 MO) (S:Lq) (L:Nat) (o:ak Nat) (G:ak Row) (C:ak (Row×Nat)):Prop where
 obj:S[L]?=ag (RO o L)
 Vx:S[L+1]?=ag (.lst (G.map au))
 num:S[L+2]?=ag (.LM (bx 0 G))
 RS:S[L+3]?=ag (.LM (kM C))
 fr:∀ i,i<L∨L+3<i->S[i]?=B i
theorem rq1:(("gathered":eG)=="order")=b0:=by decide
theorem rq2:(("numbers":eG)=="order")=b0:=by decide
theorem rq3:(("numbers":eG)=="gathered")=b0:=by decide
theorem rq4:(("choices":eG)=="order")=b0:=by decide
theorem rq5:(("choices":eG)=="gathered")=b0:=by decide
theorem rq6:(("choices":eG)=="numbers")=b0:=by decide
section
variable {B:Nat->a9 MO}{S:Lq}{L:Nat}{o:ak Nat}{G:ak Row}{C:ak (Row×Nat)}
theorem SR.ins (h:SR B S L o G C):xT "Rows" (.loc L) S=ag ([("order",oD o),("gathered",.loc (L+1)),("numbers",.loc (L+2)),("choices",.loc (L+3))]:ak (eG×D)):=by unfold xT;simp only[h.obj,n7]
theorem SR.QZ (h:SR B S L o G C):kI "Rows" "order" (.loc L) S=ag (oD o):=by unfold kI;rw[h.ins];simp[zg]
theorem SR.Qe (h:SR B S L o G C):kI "Rows" "gathered" (.loc L) S=ag (.loc (L+1)):=by unfold kI;rw[h.ins];simp[zg,rq1]
theorem SR.Sm (h:SR B S L o G C):kI "Rows" "numbers" (.loc L) S=ag (.loc (L+2)):=by unfold kI;rw[h.ins];simp[zg,rq2,rq3]
theorem SR.Po (h:SR B S L o G C):kI "Rows" "choices" (.loc L) S=ag (.loc (L+3)):=by unfold kI;rw[h.ins];simp[zg,rq4,rq5,rq6]
theorem SR.has (h:SR B S L o G C)(m:eG)(a:((m=="order") ||(m=="gathered") ||(m=="numbers") ||(m=="choices"))=b0):vL "Rows" m (.loc L) S=ag .LN:=by rw[YO,YO,YO] at a;unfold vL;rw[h.ins];simp[zg,a.1.1.1,a.1.1.2,a.1.2,a.2]
theorem SR.lst (h:SR B S L o G C):cR (.loc (L+1)) S=ag (G.map au):=by unfold cR;simp only[h.Vx]
theorem SR.row (h:SR B S L o G C){i:Nat}{r:Row}(a:G[i]?=ag r):lJ (.loc (L+1)) (.int i) S=ag (au r):=by show ((cR (.loc (L+1)) S).bind λb=>Ou b (i:Int))=_;rw[h.lst,m4];exact bB (by rw[hF,a];rfl)
theorem x9 (a b:Nat):N5 (.int a) (.int b)=ag (.bl (dv (a=b))):=by
 rw[Fo];by_cases h:a=b
 ·simp[h]
 rw[eh h,eh #[0]]
theorem eq_str_int (x:eG)(i:Int):N5 (.str x) (.int i)=ag (.bl b0):=by simp[N5,toPy,iv,wt]
theorem iF (r:Row)(S:Lq):eZ [au r] S=LB (.bl (match r with | .leaf _=>b0 | .ask _ _ _=>ba)) S:=by rw[4];unfold Do;cases r<;>simp[au,eV]
theorem idx_map (c:Nat):∀ o:ak Nat,(o.map λ(c:Nat)=>(c:Int)).idxOf (c:Int)=#[12]
 |[]=>rfl
 |a::o=>by
  rw[hH,XY,XY,idx_map c o];by_cases h:a=c
  ·simp[h]
  have b:(a==c)=b0:=by simpa using h
  have d:((a:Int)==(c:Int))=b0:=by rw[mz];omega
  rw[b,d]
theorem Me:∀ l:ak Int,bP (l.map .int)=ag l
 |[]=>rfl
 |a::l=>by rw[hH,bP,Me l];rfl
theorem Dh (o:ak Nat):bP (o.map λ(c:Nat)=>D.int c)=ag (o.map λ(c:Nat)=>(c:Int)):=by rw[show (o.map λ(c:Nat)=>D.int c)=(o.map λ(c:Nat)=>(c:Int)).map D.int by rw[mx];rfl,Me]
theorem rP {o:ak Nat}{c:Nat}(h:c∈o):jM (oD o) (.int c)=ag (.int (#[12]:Nat)):=by unfold jM oD;simp only[Dh,m4];rw[dm (vl.mpr ⟨c,h,rfl⟩),idx_map]
theorem Cv {i:Nat}{r:Row}(b:G[i]?=ag r)(w:Oc o G i r)(S:Lq):kQ [au r,oD o] S=LB (.int (LI.pl o G i:Nat)) S:=by
 have a:=iF r S;unfold LI.pl;rw[b];rw[4];unfold pO;cases r with
 |leaf g =>
  have:eV [oD o]=ag (.int o.length):=by simp[eV]
  simp[a,this]
 |ask c n y =>
  have d:=rP w.1;have e:Mn (au (.ask c n y)) (.int 0) S=ag (.int c):=Sl _ _ S;have f:fQ (oD o)=ba:=rfl;simp[a,e,d,f]
theorem Dq (h:SR B S L o G C)(w:Wf o G)(nd:o.Nodup){c i j:Nat}(hc:c∈o)(v:i<G.length)(p:j<G.length) :
  ∃ f,f∈o/\o.idxOf f=Zu (#[12]) (Zu (LI.pl o G i) (LI.pl o G j))/\bX [.loc L,.int c,.int i,.int j] S=LB (.int f) S:=by
 have z:#[12]<o.length:=m3.mpr hc;have g:Zu (#[12]) (Zu (LI.pl o G i) (LI.pl o G j))<o.length:=#[1]
 have one:∀ k:Nat,k<G.length->bj [ag (.int k),ag (.loc L)] S=LB (.int (LI.pl o G k:Nat)) S:=by intro k t;have e:G[k]?=ag G[k]:=bc t;have q:=Cv e (w.row k _ e) S;have n:=h.row e;unfold bj;simp[h.Qe,h.QZ,n,q]
 have q:=dQ (u:=aB 0) (fe:=bj) (λl => ∃ y,l=[y,ag (.loc L)]) (λd=>match d with | .int k => .int (LI.pl o G k.toNat:Nat) |_ => .LN) S [.int i,.int j] (cg 1 [0] [ag (.loc L),ag (.int c),ag (.int i),ag (.int j),ay]) ⟨ay,rfl⟩ (by
  rintro d hd l ⟨y,rfl⟩;refine⟨_,rfl,⟨_,rfl⟩,?_⟩;simp only[f5,Yz,abL] at hd;rcases hd with rfl |rfl
  ·have:=one i v;simpa using this
  have:=one j p;simpa using this)
 have m:=rP hc;have s:fQ (oD o)=ba:=rfl;refine⟨o[Zu (#[12]) (Zu (LI.pl o G i) (LI.pl o G j))],Oy g,nd.idxOf_getElem _ g,aA rfl ?_⟩;have x:pD [.lst [.int (LI.pl o G i:Nat),.int (LI.pl o G j:Nat),.int (#[12]:Nat)]]=ag (.int ((Zu (#[12]) (Zu (LI.pl o G i) (LI.pl o G j)):Nat):Int)):=by simp only[pD,bP,VM,m4,GW,WX];congr 2;split<;>split<;>omega
 have r:Mn (oD o) (.int ((Zu (#[12]) (Zu (LI.pl o G i) (LI.pl o G j)):Nat):Int)) S=ag (.int (o[Zu (#[12]) (Zu (LI.pl o G i) (LI.pl o G j))]:Nat)):=by unfold Mn;rw[dV (by simp[bO])];show Ou (o.map λ(c:Nat)=>D.int c) _=_;exact bB (by rw[hF,bc g];rfl)
 have z2:N4 [.int i,.int j] (.tup [.int i,.int j])=ag (.tup [.int i,.int j]):=bY #[3];have z1:N4 [.int (#[12]:Nat)] (.lst [.int (#[12]:Nat)])=ag (.lst [.int (#[12]:Nat)]):=bY #[3];have ad:bh (.lst [.int (LI.pl o G i:Nat),.int (LI.pl o G j:Nat)]) (.lst [.int (#[12]:Nat)])=ag (.lst [.int (LI.pl o G i:Nat),.int (LI.pl o G j:Nat),.int (#[12]:Nat)]):=by exact(mX _ _).trans (dm (show 3<=d4 by decide))
 unfold dj;simp only[hH,aaU,TY] at q;generalize LI.pl o G i=a at *
 generalize LI.pl o G j=b at *
 generalize #[12]=k at *
 simp[z2,ck,q,h.QZ,s,m,z1,ad,x,r]
noncomputable def sd (G:ak Row)(i c:Nat)(b:fg):Nat:=match G[i]? with
 |ag (.ask c' n y)=>if c'=c then (if b=ba then y else n) else i
 |_=>i
theorem jD (h:SR B S L o G C){i:Nat}(m:i<G.length)(c:Nat)(b:fg):bV [.loc L,.int i,.int c,.int (if b=ba then 1 else 0)] S=LB (.int (sd G i c b:Nat)) S:=by
 have e:G[i]?=ag G[i]:=bc m;have d:=h.row e;unfold sd;rw[e]
 suffices ef:m6 [.loc (L+1),.int i,.int c,.int (if b=ba then 1 else 0)] S=LB (.int (match ag G[i] with
  |ag (.ask a n y)=>if a=c then (if b=ba then y else n) else i
  |_=>i:Nat)) S by
  rw[4];unfold nM;simp[h.Qe,ef]
 rw[4];unfold rS;cases hr:G[i] with
 |leaf k =>
  rw[hr] at d;have g:Mn (au (.leaf k)) (.int 0) S=ag (.str "names"):=Sl _ _ S;simp[d,g,eq_str_int,bO]
 |ask a n y =>
  rw[hr] at d;have g:Mn (au (.ask a n y)) (.int 0) S=ag (.int a):=Sl _ _ S;have j:Mn (au (.ask a n y)) (.int 1) S=ag (.int n):=Tw _ _ _ S;have l:Mn (au (.ask a n y)) (.int 2) S=ag (.int y):=at2 _ _ _ _ S;have f:=x9 a c;by_cases hc:a=c
  ·subst hc;rw[ia rfl] at f;cases b<;>simp[d,g,f,j,l,bO]
  rw[eh hc] at f;cases b<;>simp[d,g,f,hc,bO]
theorem jC (w:Wf o G){i c:Nat}(j:i<G.length)(b:fg)(hc:c∈o)(f:#[12]<=LI.pl o G i):sd G i c b<G.length/\#[12]<LI.pl o G (sd G i c b)/\∀ d ss,d c=b->Ev G d i ss->Ev G d (sd G i c b) ss:=by
 have e:G[i]?=ag G[i]:=bc j;have m:#[12]<o.length:=m3.mpr hc;have q:=w.row i _ e;unfold sd;rw[e];cases hr:G[i] with
 |leaf ss =>
  refine⟨j,?_,λ_ _ _ k=>k⟩;unfold LI.pl;rw[e,hr];exact m
 |ask s n y =>
  rw[hr] at q e;obtain⟨p,v,x,r,u,_⟩:=q;by_cases l:s=c
  ·subst l;simp only[n7];cases b with
   |false =>
    refine⟨by simp;omega,by simpa using r,λd ss g k=>?_⟩;cases k with
    |leaf a=>rw[e] at a;cases a
    |no a _ k=>rw[e] at a;cases a;exact k
    |yes a t k=>rw[e] at a;cases a;cases g.symm.trans t
   |true =>
    refine⟨by simp;omega,by simpa using u,λd ss g k=>?_⟩;cases k with
    |leaf a=>rw[e] at a;cases a
    |no a t k=>rw[e] at a;cases a;cases g.symm.trans t
    |yes a _ k=>rw[e] at a;cases a;exact k
  simp only[dV l];refine⟨j,?_,λ_ _ _ k=>k⟩;unfold LI.pl at f ⊢;rw[e] at f ⊢;simp only at f ⊢;rcases ZQ f with h |h
  ·exact h
  exfalso;apply l;have a1:=Va (m3.mpr p);have a2:=Va m;rw[← a1,← a2];congr 1;exact h.symm
theorem rA (h:SR B S L o G C)(w:Wf o G){r:Row}(hr:Oc o G G.length r)(hz:G.length<16000000) :
  ∃ u E i,bT [.loc L,au r] S=LB (.int (i:Nat)) u/\SR B u L o (G++E) C/\Wf o (G++E)/\(G++E)[i]?=ag r/\E.length<=1:=by
 have ok:dB r:=by cases r with
  |leaf J=>exact hr.1
  |ask c n y=>trivial
 have f:=lm ok;have e:=jN ok G 0 w.ok;have A:d4=16777216:=rfl;by_cases a:r∈G
 ·rw[dm a,mi] at e;have q:G.idxOf r<G.length:=m3.mpr a;refine⟨S,[],G.idxOf r,aA rfl ?_,by rw[i3];exact h,by rw[i3];exact w,?_,by simp⟩
  ·have m:pC ba (au r) (.loc (L+2)) S=ag (.bl b0):=by
    unfold pC;simp only[h.num,f,dY,n7,e];rfl
   have j:jf (.loc (L+2)) (au r) S=ag (.int (G.idxOf r:Nat)):=by unfold jf;simp only[h.num,f,dY,n7,e]
   unfold dO;simp[h.Sm,m,j]
  rw[i3,bc q,Va q]
 rw[dV a] at e;have m:pC ba (au r) (.loc (L+2)) S=ag (.bl ba):=by unfold pC;simp only[h.num,f,dY,n7,e];rfl
 have ep:∀ l,pc (.loc (L+2)) (au r) (.int (G.length:Nat)) l S=LB (.next l) (S.set (L+2) (.LM (bx 0 (G++[r])))):=λl=>by unfold pc;simp only[h.num,f];rw[dm ⟨by rw[vd];omega,dY r⟩,AD ok w.ok a]
 generalize d:S.set (L+2) (.LM (bx 0 (G++[r])))=S1 at ep;have a1:S1[L]?=ag (RO o L):=by rw[← d,cO #[0]];exact h.obj
 have a2:S1[L+1]?=ag (.lst (G.map au)):=by rw[← d,cO #[0]];exact h.Vx
 have H:S1[L+2]?=ag (.LM (bx 0 (G++[r]))):=by rw[← d];exact gg h.num
 have z:S1[L+3]?=ag (.LM (kM C)):=by rw[← d,cO #[0]];exact h.RS
 have v:kI "Rows" "gathered" (.loc L) S1=ag (.loc (L+1)):=by unfold kI xT;simp only[a1,n7];simp[zg,rq1]
 have D:cR (.loc (L+1)) S1=ag (G.map au):=by unfold cR;simp only[a2]
 have s:yq (.loc (L+1)) (au r) S1=LB .LN (S1.set (L+1) (.lst ((G++[r]).map au))):=by unfold yq;simp only[a2];rw[dm (by rw[d7];omega),Q5];rfl
 have g:SR B (S1.set (L+1) (.lst ((G++[r]).map au))) L o (G++[r]) C:=by
  refine⟨?_,gg a2,?_,?_,λk F=>by rw[cO #[0],← d,cO #[0]];exact h.fr k F⟩
  ·rw[cO #[0]];exact a1
  ·rw[cO #[0]];exact H
  rw[cO #[0]];exact z
 generalize I:S1.set (L+1) (.lst ((G++[r]).map au))=S2 at s g;have t:=w.snoc a hr;have b:=jN ok (G++[r]) 0 t.ok;rw[dm #[3],mi,aal,dV a] at b;have x:([r]:ak Row).idxOf r+G.length=G.length:=by simp
 have p:G.length+([r]:ak Row).idxOf r=G.length:=by simp
 refine⟨S2,[r],G.length,aA rfl ?_,g,t,by simp,by simp⟩
 have j:jf (.loc (L+2)) (au r) S2=ag (.int (G.length:Nat)):=by
  unfold jf;simp only[g.num,f,dY,n7,b]
  first |rw[x] |rw[p]
 unfold dO;simp[h.Sm,m,h.Qe,h.lst,ep,v,D,s,g.Sm,j]
end
section
variable {B:Nat->a9 MO}{S:Lq}{L:Nat}{o:ak Nat}{G:ak Row}{C:ak (Row×Nat)}
theorem DP (h:SR B S L o G C)(w:Wf o G){c a b:Nat}(hc:c∈o)(m:a<G.length)(hb:b<G.length)(x:#[12]<LI.pl o G a)(u:#[12]<LI.pl o G b)(hz:G.length<16000000) :
  ∃ f E i,bM [.loc L,.int c,.int a,.int b] S=LB (.int (i:Nat)) f/\SR B f L o (G++E) C/\Wf o (G++E)/\i<(G++E).length/\#[12]<=LI.pl o (G++E) i/\E.length<=1/\∀ d ss,Ev (G++E) d (sel d c a b) ss->Ev (G++E) d i ss:=by
 have l:=x9 a b;by_cases e:a=b
 ·subst e;rw[ia rfl] at l;refine⟨S,[],a,aA rfl ?_,by rw[i3];exact h,by rw[i3];exact w,by rw[i3];exact m,by rw[i3];omega,by simp,λd ss k=>?_⟩
  ·unfold cr;simp
  unfold sel at k;simpa using k
 rw[eh e] at l;obtain⟨f,E,i,j,q,v,g,s⟩:=rA h w (r:=.ask c a b) ⟨hc,m,hb,x,u,e⟩ hz;have y:=(b5.mp g).1;have n:=h.has "number_of" #[2];have p:N4 [.int c,.int a,.int b] (.tup [.int c,.int a,.int b])=ag (.tup [.int c,.int a,.int b]):=bY #[3];have j:bT [.loc L,.tup [.int c,.int a,.int b]] S=LB (.int (i:Nat)) f:=j;have t:¬ ((a:Int)=b):=#[1]
 refine⟨f,E,i,aA rfl ?_,q,v,y,?_,s,λd ss k=>?_⟩
 ·unfold cr;simp[t,n,p,j]
 ·unfold LI.pl;rw[g];exact hB _
 unfold sel at k;cases ht:d c with
 |false=>rw[ht] at k;exact .no g ht (by simpa using k)
 |true=>rw[ht] at k;exact .yes g ht (by simpa using k)
def yw (B:Nat->a9 MO)(L:Nat)(o:ak Nat)(G:ak Row)(C:ak (Row×Nat))(c i j N M:Nat)(out:Out D):Prop:=
 ∃ b E a r,out=LB (.int (r:Nat)) b/\SR B b L o (G++E) a/\Wf o (G++E)/\(∀ p∈a,N2 o (G++E) p.1 p.2)/\N2 o (G++E) (.ask c i j) r/\E.length<=N/\a.length<=C.length+M
theorem rj {r:Row}{v:Nat}(h:N2 o G r v):dB r:=by
 cases r with
 |leaf _=>exact h.elim
 |ask _ _ _=>trivial
theorem SR.put (h:SR B S L o G C)(q:∀ p∈C,N2 o G p.1 p.2)(c i j v:Nat)(hz:C.length<16000000)(ρ:Lr) :
  ∃ d,pc (.loc (L+3)) (au (.ask c i j)) (.int v) ρ S=LB (.next ρ) d/\SR B d L o G (nZ C (.ask c i j) v)/\jf (.loc (L+3)) (au (.ask c i j)) d=ag (.int v):=by
 have f:=lm (r:=.ask c i j) Qv;have e:∀ p∈C,dB p.1:=λp n=>rj (q p n);have l:S.set (L+3) (.LM (putN (kM C) (au (.ask c i j)) (.int v)))=S.set (L+3) (.LM (kM (nZ C (.ask c i j) v))):=by rw[zX e (r:=.ask c i j) Qv]
 refine⟨S.set (L+3) (.LM (kM (nZ C (.ask c i j) v))),?_,⟨?_,?_,?_,gg h.RS,λk m=>by rw[cO #[0]];exact h.fr k m⟩,?_⟩
 ·unfold pc;simp only[h.RS,f];rw[dm ⟨by unfold kM;rw[d7];exact ke hz #[2],dY _⟩,l]
 ·rw[cO #[0]];exact h.obj
 ·rw[cO #[0]];exact h.Vx
 ·rw[cO #[0]];exact h.num
 have g:=gg (b:=.LM (kM (nZ C (.ask c i j) v))) h.RS;unfold jf;simp only[g,f,dY,n7];rw[← zX e (r:=.ask c i j) Qv];exact Bi (by rw[gO (a:=.ask c i j) (b:=.ask c i j) Qv Qv];simp)
theorem IG {n x f a b:Nat}(h:x<n+1+f)(c:f<x)(d:f<a)(e:f<b):x<n+Zu x (Zu a b):=by have:f+1<=Zu x (Zu a b):=Nat.le_min.mpr ⟨c,Nat.le_min.mpr ⟨d,e⟩⟩;omega
theorem half {g p q N:Nat}(h:g+q<=N)(e:q=2*p):g+p<=N:=by omega
theorem IW {g d p q l N:Nat}(h:g+q<=N)(e:q=2*p)(k:d<=p-1)(a : 1<=p)(b:l=g+d):l+p<=N:=by omega
theorem IV {g d p q N:Nat}(h:g+q<=N)(e:q=2*p)(k:d<=g+(p-1))(a : 1<=p):d+p<=N:=by omega
theorem fP {G E:ak Row}{i:Nat}(h:i<G.length):i<(G++E).length:=by rw[da];omega
theorem FJ (nd:o.Nodup){F:Lp}{n:Nat}(IH:∀ {S:Lq}{G:ak Row}{C:ak (Row×Nat)}{c i j:Nat},SR B S L o G C->Wf o G->(∀ p∈C,N2 o G p.1 p.2)->c∈o->i<G.length->j<G.length->#[12]<n+Zu (#[12]) (Zu (LI.pl o G i) (LI.pl o G j))->G.length+2 ^ n<=16000000->C.length+2 ^ n<=16000000->yw B L o G C c i j (2 ^ n-1) (2 ^ n-1) (F [.loc L,.int c,.int i,.int j] S))
  {c i j:Nat}(h:SR B S L o G C) (w:Wf o G) (hC:∀ p∈C,N2 o G p.1 p.2) (hc:c∈o) (s:i<G.length) (r:j<G.length) (t:#[12]<n+1+Zu (#[12]) (Zu (LI.pl o G i) (LI.pl o G j))) (hz:G.length+2 ^ (n+1)<=16000000) (Vb:C.length+2 ^ (n+1)<=16000000) :
  yw B L o G C c i j (2 ^ (n+1)-1) (2 ^ (n+1)-2) (cV F [.loc L,.int c,.int i,.int j] S):=by
 have R : 2 ^ (n+1)=2*2 ^ n:=by rw[UE];omega
 have p1 : 1<=2 ^ n:=UD;obtain⟨f,u,H,e1⟩:=Dq h w nd hc s r;have gc:o.idxOf f<=#[12]:=H▸adK _ _;have gi:o.idxOf f<=LI.pl o G i:=H▸hA (Ze _ _) (adK _ _);have U:o.idxOf f<=LI.pl o G j:=H▸hA (Ze _ _) (Ze _ _);rw[← H] at t;have hq:=x9 f c;have Zp:=h.has "first_character" #[2];have Vq:=h.has "number_of_ask" #[2];have XT:=h.has "side" #[2];have hm4:=h.has "choose" #[2];by_cases ZF:f=c
 ·subst ZF;rw[ia rfl] at hq;have I:=jD h s f b0;have z:=jD h r f ba;obtain⟨a1,a2,a3⟩:=jC w s b0 hc gi;obtain⟨O,P,Y⟩:=jC w r ba hc U;obtain⟨S',E,v,q1,sr,T,hv,pv,hE,Ud⟩:=DP h w hc a1 O a2 P #[0];refine⟨S',E,C,v,aA rfl ?_,sr,T,λp t=>(hC p t).app w,⟨fP s,fP r,hv,#[1],λd g k=>?_⟩,#[1],#[1]⟩
  ·unfold cS;simp only[lg,r3,n7] at I z;simp[Zp,Vq,XT,e1,I,z,q1]
  refine Ud d g ?_;have V:sel d f i j<G.length:=by unfold sel;split<;>assumption
  have k:=w.back V k;unfold sel at k ⊢;cases ht:d f with
  |false=>rw[ht] at k;exact(a3 d g ht (by simpa using k)).mono E
  |true=>rw[ht] at k;exact(Y d g ht (by simpa using k)).mono E
 rw[eh ZF] at hq;have ME:¬ ((f:Int)=c):=#[1]
 have Q:o.idxOf f<#[12]:=by
  rcases ZQ gc with q |q
  ·exact q
  exfalso;apply ZF;have a1:=Va (m3.mpr u);have a2:=Va (m3.mpr hc);rw[← a1,← a2];congr 1
 have I:=jD h s f b0;have z:=jD h r f b0;obtain⟨a1,a2,a3⟩:=jC w s b0 u gi;obtain⟨O,P,Y⟩:=jC w r b0 u U;obtain⟨S1,e,C1,a,q1,D,w1,Vy,ch1,l1,m1⟩:=IH h w hC hc a1 O (IG t Q a2 P) (half hz R) (half Vb R);obtain⟨_,_,va,pa,ZG⟩:=ch1;have A:LI.pl o (G++e) i=LI.pl o G i:=cC s;have x:LI.pl o (G++e) j=LI.pl o G j:=cC r;have J:i<(G++e).length:=fP s;have M:j<(G++e).length:=fP r;have X6:(G++e).length=G.length+e.length:=da;have t1:=jD D J f ba;have t2:=jD D M f ba;obtain⟨c1,c2,c3⟩:=jC w1 J ba u (A▸gi);obtain⟨d1,d2,d3⟩:=jC w1 M ba u (x▸U);have Z:=D.has "side" #[2];have nm4:=D.has "choose" #[2];obtain⟨S2,l,C2,b,q2,Vc,T,ZH,X,l2,m2⟩:=IH D w1 Vy hc c1 d1 (IG t Q c2 d2) (IW hz R l1 p1 X6) (IV Vb R m1 p1);obtain⟨_,_,vb,pb,ZI⟩:=X;have W:=Vc.has "number_of_ask" #[2];have lG2:(G++e++l).length=G.length+e.length+l.length:=by rw[da,X6]
 rw[cC a1,cC O] at pa;rw[cC c1,cC d1] at pb;have ga:o.idxOf f<LI.pl o (G++e++l) a:=by rw[cC va];exact ke (lt_min.mpr ⟨Q,lt_min.mpr ⟨a2,P⟩⟩) pa
 have gb:o.idxOf f<LI.pl o (G++e++l) b:=ke (lt_min.mpr ⟨Q,lt_min.mpr ⟨c2,d2⟩⟩) pb;obtain⟨S3,m,v,q3,ZJ,w3,hv,pv,l3,Ud⟩:=DP Vc T (c:=f) (a:=a) (b:=b) u (fP va) vb ga gb #[0];have N:G++(e++l++m)=G++e++l++m:=by simp
 have lG3:(G++e++l++m).length=G.length+e.length+l.length+m.length:=by rw[da,lG2]
 refine⟨S3,e++l++m,C2,v,aA rfl ?_,by rw[N];exact ZJ,by rw[N];exact w3,λp t=>by rw[N];exact(ZH p t).app T,?_,by rw[da,da];omega,#[1]⟩
 ·unfold cS;simp only[lg,r3,n7] at I z t1 t2;simp[Zp,XT,hm4,e1,ME,I,z,q1,Z,nm4,t1,t2,q2,W,q3]
 rw[N];have px:LI.pl o (G++e++l++m) i=LI.pl o G i:=by rw[cC (fP J),cC J,A]
 have py:LI.pl o (G++e++l++m) j=LI.pl o G j:=by rw[cC (fP M),cC M,x]
 refine⟨fP (fP J),fP (fP M),hv,by rw[px,py,← H];exact pv,λd g k=>?_⟩;refine Ud d g ?_;have V:sel d c i j<G.length:=by unfold sel;split<;>assumption
 have k:Ev G d (sel d c i j) g:=w.back (E:=e++l++m) V (by rw[N];exact k);cases ht:d f with
 |false =>
  have:Ev (G++e) d (sel d c (sd G i f b0) (sd G j f b0)) g:=by
   unfold sel at k ⊢;by_cases K:d c=ba
   ·rw[dm K] at k ⊢;exact(Y d g ht k).mono e
   rw[dV K] at k ⊢;exact(a3 d g ht k).mono e
  have:=ZG d g this;show Ev _ d (if d f=ba then b else a) g;rw[ht];exact(this.mono l).mono m
 |true =>
  have y:Ev (G++e) d (sel d c i j) g:=k.mono e
  have:Ev (G++e++l) d (sel d c (sd (G++e) i f ba) (sd (G++e) j f ba)) g:=by
   unfold sel at y ⊢;by_cases K:d c=ba
   ·rw[dm K] at y ⊢;exact(d3 d g ht y).mono l
   rw[dV K] at y ⊢;exact(c3 d g ht y).mono l
  have:=ZI d g this;show Ev _ d (if d f=ba then b else a) g;rw[ht];exact this.mono m
theorem sj (nd:o.Nodup):∀ (n:Nat) {S:Lq}{G:ak Row}{C:ak (Row×Nat)}{c i j:Nat},SR B S L o G C->Wf o G->(∀ p∈C,N2 o G p.1 p.2)->c∈o->i<G.length->j<G.length->#[12]<n+Zu (#[12]) (Zu (LI.pl o G i) (LI.pl o G j))->G.length+2 ^ n<=16000000->C.length+2 ^ n<=16000000->yw B L o G C c i j (2 ^ n-1) (2 ^ n-1) (d9 n [.loc L,.int c,.int i,.int j] S)
 | 0,S,G,C,c,i,j,h,w,d,hc,m,F,g,A,z=>ku g #[0]
 |n+1,S,G,C,c,i,j,h,w,d,hc,m,F,g,A,z=>by
  have x:=lm (r:=.ask c i j) Qv;have O:∀ p∈C,dB p.1:=λp g=>rj (d p g);have l:=Fy O (r:=.ask c i j) Qv;have u:N4 [.int c,.int i,.int j] (.tup [.int c,.int i,.int j])=ag (.tup [.int c,.int i,.int j]):=bY #[3];have U : 1<=2 ^ n:=UD;have V : 2 ^ (n+1)=2*2 ^ n:=by rw[UE];omega
  have s:au (.ask c i j) = .tup [.int c,.int i,.int j]:=rfl;cases hf:C.find? (λp=>dv (p.1=Row.ask c i j)) with
  |some p =>
   rw[hf] at l;have P:=List.mem_of_find?_eq_some hf;have t:p.1 = .ask c i j:=by simpa using List.find?_some hf
   have b:=d p P;rw[t] at b;have e:pC ba (au (.ask c i j)) (.loc (L+3)) S=ag (.bl b0):=by unfold pC;simp only[h.RS,x,dY,n7,l];rfl
   have a:jf (.loc (L+3)) (au (.ask c i j)) S=ag (.int (p.2:Nat)):=by unfold jf;simp only[h.RS,x,dY,n7,l];rfl
   rw[s] at e a;refine⟨S,[],C,p.2,aA rfl ?_,by rw[i3];exact h,by rw[i3];exact w,by rw[i3];exact d,by rw[i3];exact b,by simp,#[1]⟩;unfold dZ;simp[u,h.Po,e,a]
  |none =>
   rw[hf] at l;have e:pC ba (au (.ask c i j)) (.loc (L+3)) S=ag (.bl ba):=by unfold pC;simp only[h.RS,x,dY,n7,l];rfl
   rw[s] at e;have K:=h.has "choose_anew" #[2];by_cases N:i=j
   ·subst N;have b:N2 o G (.ask c i i) i:=⟨m,m,m,#[1],λR T k=>by unfold sel at k;simpa using k⟩;obtain⟨y,ep,f,a⟩:=h.put d c i i i #[0] [ag (.loc L),ag (.int c),ag (.int i),ag (.int i),ag (.tup [.int c,.int i,.int i])];rw[s] at ep a;have pl:=u5 C (.ask c i i) i;refine⟨y,[],nZ C (.ask c i i) i,i,aA rfl ?_,by rw[i3];exact f,by rw[i3];exact w,by rw[i3];exact u6 d b,by rw[i3];exact b,by simp,#[1]⟩;unfold dZ;simp[u,h.Po,e,ep,f.Po,a]
   have M:¬ ((i:Int)=j):=#[1]
   obtain⟨W,E,D,v,q,H,Q,I,b,J,X⟩:=FJ nd (λ{S G C c i j}=>sj nd n (S:=S) (G:=G) (C:=C) (c:=c) (i:=i) (j:=j)) h w d hc m F g A z;obtain⟨y,ep,f,a⟩:=H.put I c i j v #[0] [ag (.loc L),ag (.int c),ag (.int i),ag (.int j),ag (.tup [.int c,.int i,.int j])];rw[s] at ep a;have pl:=u5 D (.ask c i j) v;refine⟨y,E,nZ D (.ask c i j) v,v,aA rfl ?_,f,Q,u6 I b,b,J,#[1]⟩;unfold dZ;simp[u,h.Po,e,M,K,q,H.Po,ep,f.Po,a]
end
inductive KQ (m:Nat):Nat->D->Prop
 |leaf {k:Nat}{ss:ak eG}:(∀ x∈ss,eI x=ba)->Tv ss=ba->ss.length<=6->KQ m k (au (.leaf ss))
 |ask {k c:Nat}{x y:D}:c<m->KQ m k x->KQ m k y->KQ m (k+1) (.tup [.str "ask",.int c,x,y])
inductive Kv (th:Th):D->ak eG->Prop
 |leaf {ss:ak eG}:Kv th (au (.leaf ss)) ss
 |no {c:Nat}{x y:D}{ss:ak eG}:th c=b0->Kv th x ss->Kv th (.tup [.str "ask",.int c,x,y]) ss
 |yes {c:Nat}{x y:D}{ss:ak eG}:th c=ba->Kv th y ss->Kv th (.tup [.str "ask",.int c,x,y]) ss
theorem eqs (w s:eG):N5 (.str w) (.str s)=ag (.bl (dv (w=s))):=by rw[Dt rfl];rfl
theorem FH:¬ ("ask":eG)="names":=by decide
section
variable {B:Nat->a9 MO}{L:Nat}{o:ak Nat}
theorem EY (nd:o.Nodup)(hl:o.length<=10){m:Nat}(ho:∀ c,c<m->c∈o){k:Nat}{d:D}(hd:KQ m k d):∀ (fuel:Nat) {S:Lq}{G:ak Row}{C:ak (Row×Nat)},k<fuel->SR B S L o G C->Wf o G->(∀ p∈C,N2 o G p.1 p.2)->G.length+2048*2 ^ (k+1)<=16000000->C.length+2048*2 ^ (k+1)<=16000000 ->
  ∃ H E M r,cM fuel [.loc L,d] S=LB (.int (r:Nat)) H/\SR B H L o (G++E) M/\Wf o (G++E)/\(∀ p∈M,N2 o (G++E) p.1 p.2)/\r<(G++E).length/\E.length+2048<=2048*2 ^ (k+1)/\M.length+2048<=C.length+2048*2 ^ (k+1)/\∀ g ss,Kv g d ss->Ev (G++E) g r ss:=by
 induction hd with
 | @leaf k ss h1 h2 _ =>
  intro fuel S G C hf h w O W Vb;obtain⟨fuel,rfl⟩:∃ f,fuel=f+1:=⟨fuel-1,#[1]⟩;have p1 : 1<=2 ^ k:=UD;have p2 : 2 ^ (k+1)=2*2 ^ k:=by rw[UE];omega
  obtain⟨H,E,i,N,sr,P,U,hE⟩:=rA h w (r:=.leaf ss) ⟨h1,h2⟩ #[0];have K:=h.has "number_of" #[2];have e0:Mn (au (.leaf ss)) (.int 0) S=ag (.str "names"):=Sl _ _ S;have z:=eqs "names" "names";rw[ia rfl] at z;refine⟨H,E,C,i,aA rfl ?_,sr,P,λp hp=>(O p hp).app w,(b5.mp U).1,#[1],#[1],λg Qu k=>?_⟩
  ·unfold eW;simp[e0,z,K,N]
  generalize F:au (.leaf ss)=D0 at k;cases k with
  |leaf =>
   have hs:ss=Qu:=by simp only[au,D.tup.injEq,OH,and_true,true_and] at F;exact(acL (λa b h=>by cases h;rfl)).mp F
   subst hs;exact .leaf U
  |no=>simp[au] at F
  |yes=>simp[au] at F
 | @ask k c x y hc _ _ ix iy =>
  intro fuel S G C hf h w O W Vb;obtain⟨fuel,rfl⟩:∃ f,fuel=f+1:=⟨fuel-1,#[1]⟩;have p1 : 1<=2 ^ (k+1):=UD;have p2 : 2 ^ (k+1+1)=2*2 ^ (k+1):=by rw[UE];omega
  obtain⟨S1,l,C1,u,N,Pe,w1,Vy,v1,l1,m1,Z⟩:=ix fuel #[0] h w O #[0] #[0];have X6:(G++l).length=G.length+l.length:=da;obtain⟨S2,n,C2,I,Y,Vc,P,ZH,v2,l2,m2,X⟩:=iy fuel #[0] Pe w1 Vy #[0] #[0];have lG2:(G++l++n).length=G.length+l.length+n.length:=by rw[da,X6]
  have t:=ho c hc;have TU:#[12]<o.length:=m3.mpr t;have K:=h.has "choose" #[2];obtain⟨S3,s,T,v,q3,ZJ,w3,J,ch,R,V⟩:=sj nd 11 Vc P ZH t (i:=u) (j:=I) #[0] v2 #[0] (by show _+2048<=_;omega) (by show _+2048<=_;omega);obtain⟨_,_,vv,_,Ud⟩:=ch;have R:s.length<=2047:=R;have V:T.length<=C2.length+2047:=V;have A:G++(l++n++s)=G++l++n++s:=by simp
  have a0:Mn (.tup [.str "ask",.int c,x,y]) (.int 0) S=ag (.str "ask"):=Sl _ _ S;have z:=eqs "ask" "names";rw[eh FH] at z;refine⟨S3,l++n++s,T,v,aA rfl ?_,by rw[A];exact ZJ,by rw[A];exact w3,by rw[A];exact J,by rw[A];exact vv,by rw[da,da];omega,#[1],λg ss q=>?_⟩
  ·unfold eW;simp[Sl,Tw,at2,at3,z,K,N,Y,q3]
  rw[A];refine Ud g ss ?_;cases q with
  |no Q q =>
   have:Ev (G++l++n) g u ss:=(Z g ss q).mono n;have e:sel g c u I=u:=by unfold sel;rw[Q];rfl
   rw[e];exact this.mono s
  |yes Q q =>
   have e:sel g c u I=I:=by unfold sel;rw[Q];rfl
   rw[e];exact(X g ss q).mono s
end
inductive Tr where
 |leaf (ss:ak eG)
 |node (c:Nat) (n y:Tr)
 deriving DecidableEq
noncomputable def Md:Tr->Th->ak eG
 | .leaf b,_=>b
 | .node c n y,a=>if a c=ba then Md y a else Md n a
noncomputable def tp (o:ak Nat):Tr->Nat
 | .leaf _=>o.length
 | .node c _ _=>o.idxOf c
noncomputable def Ord (o:ak Nat):Tr->Prop
 | .leaf _=>True
 | .node c n y=>c∈o/\Ord o n/\Ord o y/\#[12]<tp o n/\#[12]<tp o y/\n≠y
noncomputable def Q0:Tr->Nat
 | .leaf _ => 1
 | .node _ n y=>Q0 n+Q0 y+1
noncomputable def upd (a:Th) (c:Nat) (b:fg):Th:=λx=>if x=c then b else a x
theorem LC (a:Th)(c:Nat)(b:fg):upd a c b c=b:=by simp[upd]
theorem oj {o:ak Nat}{c:Nat}:∀ {t:Tr},Ord o t->#[12]<tp o t->∀ (a:Th) (b:fg),Md t (upd a c b)=Md t a
 | .leaf _,_,_,_,_=>rfl
 | .node d n y,h,f,a,b=>by
  obtain⟨_,m,l,p,q,_⟩:=h;have f:#[12]<o.idxOf d:=f;have k:¬ d=c:=λe=>by rw[e] at f;omega
  have g:=oj m (show #[12]<tp o n by omega) a b;have j:=oj l (show #[12]<tp o y by omega) a b;have i:upd a c b d=a d:=by simp[upd,k]
  show (if upd a c b d=ba then Md y (upd a c b) else Md n (upd a c b))=_;rw[g,j,i];rfl
theorem Gd {o:ak Nat}{c:Nat}{n y:Tr}(h:Ord o (.node c n y))(a:Th):Md (.node c n y) (upd a c b0)=Md n a:=by show (if upd a c b0 c=ba then _ else Md n (upd a c b0))=_;rw[LC,oj h.2.1 h.2.2.2.1];rfl
theorem D9 {o:ak Nat}{c:Nat}{n y:Tr}(h:Ord o (.node c n y))(a:Th):Md (.node c n y) (upd a c ba)=Md y a:=by show (if upd a c ba c=ba then Md y (upd a c ba) else _)=_;rw[LC,oj h.2.2.1 h.2.2.2.2.1];rfl
inductive Un (G:ak Row):Nat->Tr->Prop
 |leaf {i:Nat}{ss:ak eG}:G[i]?=ag (.leaf ss)->Un G i (.leaf ss)
 |node {i c n y:Nat}{s t:Tr}:G[i]?=ag (.ask c n y)->Un G n s->Un G y t->Un G i (.node c s t)
theorem Un.det {G:ak Row}{i:Nat}{s t:Tr}(h:Un G i s)(g:Un G i t):s=t:=by
 induction h generalizing t with
 |leaf h=>cases g with
  |leaf c=>rw[h] at c;cases c;rfl
  |node c=>rw[h] at c;cases c
 |node h _ _ d e=>cases g with
  |leaf c=>rw[h] at c;cases c
  |node c a b=>rw[h] at c;cases c;rw[d a,e b]
theorem Un.ev {G:ak Row}{i:Nat}{t:Tr}(h:Un G i t)(a:Th):Ev G a i (Md t a):=by
 induction h with
 |leaf h=>exact .leaf h
 | @node i c n y s t h _ _ b d =>
  cases ht:a c with
  |false=>exact .no h ht (by rw[Md,ht];exact b)
  |true=>exact .yes h ht (by rw[Md,ht];exact d)
theorem Wf.un {o:ak Nat}{G:ak Row}(w:Wf o G):∀ (i:Nat),i<G.length->∃ t,Un G i t:=by
 intro i
 induction i using adJ with
 |_ i a =>
  intro f;have e:G[i]?=ag G[i]:=bc f;have q:=w.row i _ e;cases hr:G[i] with
  |leaf j=>rw[hr] at e;exact⟨_,.leaf e⟩
  |ask c n y =>
   rw[hr] at e q;obtain⟨_,g,d,_⟩:=q;obtain⟨s,h⟩:=a n g #[0];obtain⟨t,b⟩:=a y d #[0];exact⟨_,.node e h b⟩
theorem Un.inj {G:ak Row}(nd:G.Nodup){i:Nat}{t:Tr}(h:Un G i t):∀ {j:Nat},Un G j t->i=j:=by
 have key:∀ {a b:Nat}{r:Row},G[a]?=ag r->G[b]?=ag r->a=b:=by intro a b r f hb;have p:=(b5.mp f).1;have o:=(b5.mp hb).1;have n:=(b5.mp f).2;have l:=(b5.mp hb).2;have d:=nd.idxOf_getElem a p;have c:=nd.idxOf_getElem b o;rw[← d,← c,n,l]
 induction h with
 |leaf h=>intro j g;cases g with
  |leaf e=>exact key h e
 |node h _ _ d c=>intro j g;cases g with
  |node e a b =>
   have k:=d a;have m:=c b;subst k m;exact key h e
theorem Un.pl {o:ak Nat}{G:ak Row}{i:Nat}{t:Tr}(h:Un G i t):LI.pl o G i=tp o t:=by
 unfold LI.pl;cases h with
 |leaf h=>rw[h];rfl
 |node h _ _=>rw[h];rfl
noncomputable def po:Tr->ak Tr->ak Tr
 | .leaf b,a=>if Tr.leaf b∈a then a else a++[.leaf b]
 | .node c n y,a=>if Tr.node c n y∈a then a else po y (po n a)++[.node c n y]
noncomputable def J_ (P:ak Tr):Tr->Row
 | .leaf a => .leaf a
 | .node c n y => .ask c (P.idxOf n) (P.idxOf y)
noncomputable def enc (P:ak Tr):ak Row:=P.map (J_ P)
open Classical in
noncomputable def uT (G:List Row) (i:Nat):Tr:=if h:∃ t,Un G i t then Classical.choose h else .leaf []
theorem Un.uT {G:ak Row}{i:Nat}{t:Tr}(h:Un G i t):LI.uT G i=t:=by unfold LI.uT;have e:∃ t,Un G i t:=⟨t,h⟩;rw[aaf e];exact(Classical.choose_spec e).det h
theorem Wf.uT {o:ak Nat}{G:ak Row}(w:Wf o G){i:Nat}(a:i<G.length):Un G i (LI.uT G i):=by obtain⟨t,h⟩:=w.un i a;rw[h.uT];exact h
theorem wT {o:ak Nat}{G:ak Row}(w:Wf o G){i j:Nat}(a:i<G.length)(b:j<G.length)(h:LI.uT G i=LI.uT G j):i=j:=
 Un.inj w.nd (w.uT a) (h▸w.uT b)
theorem BI {o:ak Nat}{G:ak Row}(w:Wf o G){a:ak Nat}(d:∀ i∈a,i<G.length){j:Nat}(c:j<G.length)(h:LI.uT G j∈a.map (LI.uT G)):j∈a:=by obtain⟨k,b,e⟩:=vl.mp h;rw[← wT w (d k b) c e];exact b
theorem jc {t:Tr}{a:ak Tr}(h:t∈a):po t a=a:=by cases t<;>(unfold po;rw[dm h])
theorem lB {ss:ak eG}{a:ak Tr}(h:Tr.leaf ss∉a):po (.leaf ss) a=a++[.leaf ss]:=by unfold po;rw[dV h]
theorem lw {c:Nat}{n y:Tr}{a:ak Tr}(h:Tr.node c n y∉a):po (.node c n y) a=po y (po n a)++[.node c n y]:=by rw[po,dV h]
noncomputable def lf (a:ak Nat):ak (D×D):=a.map λ(k:Nat)=>(D.int k,D.bl ba)
theorem jE (a b:Nat):fM (.int a) (.int b)=dv (a=b):=by
 unfold fM;by_cases h:a=b
 ·simp[h]
 rw[eh h];have:¬ ((a:Int)=b):=#[1]
 simp[fz,this]
theorem zi (k:Nat):∀ b:ak Nat,((lf b).find? λp=>fM p.1 (.int k)).isSome=dv (k∈b)
 |[]=>by simp[lf]
 |a::b=>by
  have c:=zi k b;unfold lf at c ⊢;rw[hH,wh];simp only[jE];by_cases h:a=k
  ·simp[h]
  rw[eh h];simp only;rw[c];have:¬ k=a:=λe=>h e.symm;simp[this]
theorem GY (k:Nat)(b:ak Nat):((lf b).any λp=>fM p.1 (.int k))=dv (k∈b):=by
 induction b with
 |nil=>simp[lf]
 |cons a b c =>
  unfold lf at c ⊢;rw[hH,Rm,c,jE];by_cases h:a=k
  ·simp[h]
  have:¬ k=a:=λe=>h e.symm;simp[h,this]
theorem GX {k:Nat}{a:ak Nat}(h:k∉a):putD (lf a) (.int k) (.bl ba)=lf (a++[k]):=by unfold putD;rw[GY,eh h,dV #[2]];unfold lf;rw[Q5];rfl
theorem IJ {S:Lq}{l:Nat}{a:ak Nat}(h:S[l]?=ag (.dict (lf a)))(k:Nat):Rf ba (.int k) (.loc l) S=ag (.bl (!dv (k∈a))):=by unfold Rf;rw[dm rfl];unfold Ft;simp only[h,fz];unfold getD;rw[Sw,zi];rfl
structure Cl (G:ak Row) (Ls:ak Nat):Prop where
 nd:Ls.Nodup
 lt:∀ i∈Ls,i<G.length
 dn:∀ (p i c n y:Nat),Ls[p]?=ag i->G[i]?=ag (.ask c n y)->n∈Ls.take p/\y∈Ls.take p
theorem Cl.snoc {G:ak Row}{d:ak Nat}(h:Cl G d){j:Nat}(g:j<G.length)(l:j∉d)(hc:∀ c n y,G[j]?=ag (.ask c n y)->n∈d/\y∈d):Cl G (d++[j]):=by
 refine⟨RR.mpr ⟨h.nd,by simp,λa k b hb=>?_⟩,λi hi=>?_,λp i c n y e f=>?_⟩
 ·rw[hM.mp hb];rintro rfl;exact l k
 ·rcases lk.mp hi with hi |hi
  ·exact h.lt i hi
  rw[hM.mp hi];exact g
 rcases WA p d.length with hl |hl |hl
 ·rw[h7 hl] at e;rw[H5 (K5 hl)];exact h.dn p i c n y e f
 ·subst hl;have:i=j:=by simpa using e.symm
  subst this;rw[H5 (hB _),YP];exact hc c n y f
 rw[hO #[0]] at e;have:([j]:ak Nat)[p-d.length]?=ay:=by rw[Z7];simp;omega
 rw[this] at e;cases e
section
variable {L:Nat}{o:ak Nat}{G:ak Row}
theorem wn (r:Row)(S:Lq):cz [au r] S=LB (.tup (match r with | .leaf _=>[] | .ask _ n y=>[.int n,.int y])) S:=by
 have a:=iF r S;rw[4];unfold lM;cases r with
 |leaf d =>
  have b:N4 [] (.tup [])=ag (.tup []):=bY #[3];simp[a,b]
 |ask c n y =>
  have:Pj (au (.ask c n y)) (ag 1) ay=ag (.tup [.int n,.int y]):=rfl;simp[a,xS,this]
def Af (F:Lp)(w:Nat)(N:Nat)(G:ak Row)(o:ak Nat)(g:Nat):Prop:=
 ∀ (j:Nat) (a:ak Nat) (S:Lq) (l:Nat),o.length+1<=w+LI.pl o G j->j<G.length->j∉a->S[g]?=ag (.lst (G.map au))->S[l]?=ag (.dict (lf a))->g≠l->Cl G a->a.length+N<=10000 ->
  ∃ X,F [.loc g,.int j,.loc l] S=LB .LN (S.set l (.dict (lf (a++X++[j]))))/\Cl G (a++X++[j])/\(∀ x∈X,x<j)/\X.length+1<=N/\(a++X++[j]).map (LI.uT G)=po (LI.uT G j) (a.map (LI.uT G))
theorem pG {F:Lp}{w N g:Nat}(p:Af F w N G o g)(j k:Nat)(a:ak Nat)(S:Lq)(l:Nat)(u:o.length+1<=w+LI.pl o G k)(r:k<G.length)(m:S[g]?=ag (.lst (G.map au)))(d:S[l]?=ag (.dict (lf a)))(v:g≠l)(hc:Cl G a)(f:a.length+N<=10000) :
  ∃ X,b8 F [ag (.loc g),ag (.int j),ag (.loc l),ag (.int k)] S=LB (.next [ag (.loc g),ag (.int j),ag (.loc l),ag (.int k)]) (S.set l (.dict (lf (a++X))))/\Cl G (a++X)/\(∀ x∈X,x<=k)/\k∈a++X/\X.length<=N/\(a++X).map (LI.uT G)=po (LI.uT G k) (a.map (LI.uT G)):=by
 have c:=IJ d k;by_cases b:k∈a
 ·rw[ia b] at c
  have t:S.set l (.dict (lf (a++[])))=S:=by
   rw[i3];apply UZ;intro i;by_cases e:l=i
   ·subst e;rw[gg d,d]
   rw[cO e]
  refine⟨[],?_,by rw[i3];exact hc,(λx hx=>by cases hx),by rw[i3];exact b,by simp,by rw[i3,jc (ZR b)]⟩;rw[t];unfold b8;simp[c]
 rw[eh b] at c;obtain⟨X,q,h,s,nx,n⟩:=p k a S l u r b m d v hc f;refine⟨X++[k],?_,by rw[← kg];exact h,λx hx=>?_,by simp,by simpa using nx,by rw[← kg];exact n⟩
 ·unfold b8;simp[c,q]
 rcases lk.mp hx with hx |hx
 ·exact K5 (s x hx)
 rw[hM.mp hx];exact hB _
theorem vB (w:Wf o G)(g:Nat):∀ fuel:Nat,Af (br fuel) fuel (2 ^ fuel-1) G o g
 | 0,j,a,S,l,M,_,_,_,_,_,_,_=>ku M (by have:=Iu o G j;omega)
 |n+1,j,a,S,l,M,hj,hnm,hg,hl,RP,hc,hN=>by
  have J:=vB w g n;have p2 : 2 ^ (n+1)=2*2 ^ n:=by rw[UE];omega
  have Z : 1<=2 ^ n:=UD;have e:G[j]?=ag G[j]:=bc hj;have q:=w.row j _ e;have T:cR (.loc g) S=ag (G.map au):=by unfold cR;simp only[hg]
  have v:lJ (.loc g) (.int j) S=ag (au G[j]):=by show ((cR (.loc g) S).bind λR=>Ou R (j:Int))=_;rw[T,m4];exact bB (by rw[hF,e];rfl)
  have A:=wn G[j] S;have K:bO (.loc g)=ba:=rfl;have W:∀ k:Nat,fz (.int k)=ag (.inl (k:Int)):=λk=>rfl
  have finish:∀ (d:ak Nat) (u:Lq) (z:a9 D),u=S.set l (.dict (lf d))->j∉d->d.length<=20000->yn (af 2) (af 1) (aE (.bl ba)) [ag (.loc g),ag (.int j),ag (.loc l),z] u=LB (.next [ag (.loc g),ag (.int j),ag (.loc l),z]) (S.set l (.dict (lf (d++[j])))):=by
   intro d u z F X s;have Y:u[l]?=ag (.dict (lf d)):=by rw[F];exact gg hl
   have N:(lf d).length<d4:=by unfold lf;rw[d7];exact Zt s #[2]
   have:u4 (.loc l) (.int j) (.bl ba) [ag (.loc g),ag (.int j),ag (.loc l),z] u=LB (.next [ag (.loc g),ag (.int j),ag (.loc l),z]) (S.set l (.dict (lf (d++[j])))):=by unfold u4;simp only[Y,W];rw[dm N,GX X,F,ac7]
   simp[this]
  cases hr:G[j] with
  |leaf E =>
   rw[hr] at A v
   have fin:=finish a S ay (by
    apply UZ;intro i;by_cases L:l=i
    ·subst L;rw[gg hl,hl]
    rw[cO L]) hnm #[0]
   have f:LI.uT G j = .leaf E:=(Un.leaf (by rw[e,hr])).uT;have C:Tr.leaf E∉a.map (LI.uT G):=λh=>hnm (BI w hc.lt hj (by rw[f];exact h));refine⟨[],?_,?_,(λx hx=>by cases hx),by simp;omega,by rw[i3,f,lB C,Q5,hH,aaU,f]⟩
   ·rw[i3];unfold br a8;rw[dm (show ([.loc g,.int j,.loc l]:ak D).length=3 from rfl)]
    have:eL (br n) ([.loc g,.int j,.loc l].map ag++ih 1 ay) S=LB (.next [ag (.loc g),ag (.int j),ag (.loc l),ay]) (S.set l (.dict (lf (a++[j])))):=by
     unfold eL;show aP _ _ [ag (.loc g),ag (.int j),ag (.loc l),ay] S=_;rw[F2];have:iD (bN (aQ cz (ah (By (af 0) (af 1)) aC))) (aB 3) (b8 (br n)) [ag (.loc g),ag (.int j),ag (.loc l),ay] S=LB (.next [ag (.loc g),ag (.int j),ag (.loc l),ay]) S:=by simp[K,v,A,ck,fj]
     rw[this];exact fin
    rw[this];rfl
   rw[i3];exact hc.snoc hj hnm λc n y h=>by rw[e,hr] at h;cases h
  |ask c B m =>
   rw[hr] at A v q;obtain⟨_,b1,b2,b3,b4,_⟩:=q;have pj:LI.pl o G j=#[12]:=by unfold LI.pl;rw[e,hr]
   obtain⟨b,O,U,t,m1,n1,t1⟩:=pG J j B a S l #[0] #[0] hg hl RP hc #[0];have V:(S.set l (.dict (lf (a++b))))[g]?=ag (.lst (G.map au)):=by rw[cO (lC RP)];exact hg
   have P:(S.set l (.dict (lf (a++b))))[l]?=ag (.dict (lf (a++b))):=gg hl;obtain⟨p,I,Q,r,m2,n2,t2⟩:=pG J j m (a++b) _ l #[0] #[0] V P RP U (by rw[da];omega);rw[ac7] at I
   have H:j∉a++b++p:=by
    intro hm;rcases lk.mp hm with hm |hm
    ·rcases lk.mp hm with hm |hm
     ·exact hnm hm
     have:=t j hm;omega
    have:=r j hm;omega
   have fin:=finish (a++b++p) _ (ag (.int m)) rfl H (by rw[da,da];omega);have f:LI.uT G j = .node c (LI.uT G B) (LI.uT G m):=(Un.node (by rw[e,hr]) (w.uT #[0]) (w.uT #[0])).uT;have C:Tr.node c (LI.uT G B) (LI.uT G m)∉a.map (LI.uT G):=λh=>hnm (BI w hc.lt hj (by rw[f];exact h));refine⟨b++p,?_,?_,λx hx=>?_,by rw[da];omega,by rw[← kg,Q5,t2,t1,f,lw C,hH,aaU,f]⟩
   ·unfold br a8;rw[dm (show ([.loc g,.int j,.loc l]:ak D).length=3 from rfl)]
    have:eL (br n) ([.loc g,.int j,.loc l].map ag++ih 1 ay) S=LB (.next [ag (.loc g),ag (.int j),ag (.loc l),ag (.int m)]) (S.set l (.dict (lf (a++(b++p)++[j])))):=by
     unfold eL;show aP _ _ [ag (.loc g),ag (.int j),ag (.loc l),ay] S=_;rw[F2];have:iD (bN (aQ cz (ah (By (af 0) (af 1)) aC))) (aB 3) (b8 (br n)) [ag (.loc g),ag (.int j),ag (.loc l),ay] S=LB (.next [ag (.loc g),ag (.int j),ag (.loc l),ag (.int m)]) (S.set l (.dict (lf (a++b++p)))):=by simp[K,v,A,ck,fj,O,I]
     rw[this];simp only[cI];rw[← kg a b p];exact fin
    rw[this];rfl
   ·rw[← kg];refine Q.snoc hj H λc' n y h=>?_;rw[e,hr] at h;cases h;exact⟨U5 _ m1,m2⟩
   rcases lk.mp hx with hx |hx
   ·have:=t x hx;omega
   have:=r x hx;omega
end
noncomputable def aY (p:Nat):ak Nat->ak (D×D)
 |[]=>[]
 |k::r=>(.int k,.int p)::aY (p+1) r
theorem CM:∀ (l:ak Nat) (p:Nat),(aY p l).length=l.length
 |[],_=>rfl
 |k::r,p=>by rw[aY,j2,j2,CM r]
theorem CO (k:Nat):∀ (l:ak Nat) (p:Nat),((aY p l).any λq=>fM q.1 (.int k))=dv (k∈l)
 |[],_=>by simp[aY]
 |a::l,p=>by
  rw[aY,Rm,CO k l,jE];by_cases h:a=k
  ·simp[h]
  have:¬ k=a:=λe=>h e.symm;simp[h,this]
theorem CN (k:Nat):∀ (l:ak Nat) (p:Nat),getD (aY p l) (.int k)=if k∈l then ag (.int ((p+l.idxOf k:Nat):Int)) else ay
 |[],_=>rfl
 |a::l,p=>by
  have c:=CN k l (p+1);unfold L2.getD at c ⊢;rw[aY,wh];simp only[jE];by_cases h:a=k
  ·subst h;simp
  rw[eh h];simp only;rw[c];have f:¬ k=a:=λe=>h e.symm;have d:(a==k)=b0:=by simpa using h
  by_cases b:k∈l
  ·rw[dm b,dm (eJ _ b),XY,d];simp only[cond_false];congr 2;omega
  rw[dV b,dV (by rw[f5];exact λq=>q.elim f b)]
theorem yY:∀ (l:ak Nat) (p k:Nat),aY p (l++[k])=aY p l++[(.int k,.int ((p+l.length:Nat):Int))]
 |[],p,k=>rfl
 |a::l,p,k=>by
  rw[R5,aY,yY l (p+1) k,aY,R5,j2,show p+1+l.length=p+(l.length+1) by omega]
theorem GV {k:Nat}{l:ak Nat}(h:k∉l):putD (aY 0 l) (.int k) (.int l.length)=aY 0 (l++[k]):=by unfold putD;rw[CO,eh h,dV #[2],yY,mi]
noncomputable def Ug (a:ak Nat):Row->Row
 | .leaf b => .leaf b
 | .ask c n y => .ask c (a.idxOf n) (a.idxOf y)
noncomputable def FR (a:ak Nat)(G:ak Row):ak Row:=a.map λk=>Ug a ((G[k]?).getD (.leaf []))
def Wr (o:ak Nat)(G:ak Row):Prop:=∀ (i:Nat) (r:Row),G[i]?=ag r->Oc o G i r
section
variable {B:Nat->a9 MO}{L:Nat}{o:ak Nat}{G:ak Row}
theorem qk {a:ak Nat}(h:Cl G a){p k:Nat}(c:a[p]?=ag k):∃ r,G[k]?=ag r/\(FR a G)[p]?=ag (Ug a r):=by have b:=h.lt k (y3 c);refine⟨G[k],bc b,?_⟩;unfold FR;rw[hF,c,VM,bc b];rfl
theorem fB {a:ak Nat}{k:Nat}(h:k∈a):a[a.idxOf k]?=ag k:=by have b:=m3.mpr h;rw[bc b,Va b]
theorem F5 {a:ak Nat}(h:Cl G a){k:Nat}(c:k∈a):LI.pl o (FR a G) (a.idxOf k)=LI.pl o G k:=by obtain⟨r,b,d⟩:=qk h (fB c);unfold LI.pl;rw[b,d];cases r<;>rfl
theorem xU {a:ak Nat}{k p:Nat}(h:k∈a.take p):a.idxOf k<p:=by
 have b:(a.take p).idxOf k<(a.take p).length:=m3.mpr h;have c:(a.take p).length<=p:=List.length_take_le ..
 have e:a.idxOf k=(a.take p).idxOf k:=by
  conv=>lhs;rw[← v3 p a]
  rw[aal,dm h]
 omega
theorem Jv {a:ak Nat}(w:Wf o G)(h:Cl G a):Wr o (FR a G):=by
 intro p r b;have j:p<a.length:=by have:=(b5.mp b).1;simpa [FR] using this
 obtain⟨s,d,m⟩:=qk h (bc j);rw[m] at b;cases b;have q:=w.row _ _ d;cases s with
 |leaf v=>exact q
 |ask c n y =>
  obtain⟨a1,a2,x,l,u,k⟩:=q;obtain⟨f,g⟩:=h.dn p _ c n y (bc j) d;have m1:=Jq f;have m2:=Jq g;refine⟨a1,xU f,xU g,by rw[F5 h m1];exact l,by rw[F5 h m2];exact u,λe=>k ?_⟩;have i:=fB m1;have t:=fB m2;rw[e,t] at i;exact(ja i).symm
theorem Jw {g:ak Nat}(h:Cl G g){m:Th}{i:Nat}{ss:ak eG}(e:Ev G m i ss):i∈g->Ev (FR g G) m (g.idxOf i) ss:=by
 induction e with
 | @leaf i ss b =>
  intro d;obtain⟨r,a,f⟩:=qk h (fB d);rw[b] at a;cases a;exact .leaf f
 | @no i c n y ss b j _ k =>
  intro d;obtain⟨r,a,f⟩:=qk h (fB d);rw[b] at a;cases a;obtain⟨l,o⟩:=h.dn _ _ c n y (fB d) b;exact .no f j (k (Jq l))
 | @yes i c n y ss b j _ k =>
  intro d;obtain⟨r,a,f⟩:=qk h (fB d);rw[b] at a;cases a;obtain⟨l,o⟩:=h.dn _ _ c n y (fB d) b;exact .yes f j (k (Jq o))
theorem A7 (w:Wf o G)(r:o.length<=10){S:Lq}{g i:Nat}(a:S[g]?=ag (.lst (G.map au)))(j:i<G.length):∃ X,f6 [.loc g,.int i] S=LB (.lst ((X++[i]).map λ(k:Nat)=>D.int k)) (S++[.dict (lf (X++[i]))])/\Cl G (X++[i])/\X.length<=4094/\(X++[i]).map (LI.uT G)=po (LI.uT G i) []:=by
 have l:g<S.length:=(b5.mp a).1;have f:(S++[MO.dict (lf [])])[g]?=ag (.lst (G.map au)):=by rw[h7 l];exact a
 have e:(S++[MO.dict (lf [])])[S.length]?=ag (.dict (lf [])):=by simp
 obtain⟨X,q,c,_,n,b⟩:=vB w g 12 i [] (S++[.dict (lf [])]) S.length #[0] j #[3] f e #[0] ⟨XX,(λi h=>by cases h),(λp i c n y h=>by simp at h)⟩ #[2];rw[WY] at q c b;have es:(S++[MO.dict (lf [])]).set S.length (.dict (lf (X++[i])))=S++[.dict (lf (X++[i]))]:=by simp
 rw[es] at q;have n:X.length<=4094:=by have:X.length+1<=4095:=n;omega
 have q:br 12 [.loc g,.int i,#[11]] (S++[.dict []])=LB .LN (S++[.dict (lf (X++[i]))]):=q;have d:(lf (X++[i])).length<=d4:=by unfold lf;rw[d7,da];exact hA (show X.length+1<=9000 by omega) #[2]
 have m:gZ (#[11]) (S++[.dict (lf (X++[i]))])=ag (.lst ((X++[i]).map λ(k:Nat)=>D.int k)):=by unfold gZ;simp only[List.getElem?_concat_length];rw[dm d];unfold lf;rw[mx];rfl
 refine⟨X,aA rfl ?_,c,n,b⟩;unfold jj;simp[q,m,-Q5]
theorem D3 {S:Lq}{l:Nat}{a:ak Nat}(e:S[l]?=ag (.dict (aY 0 a)))(r:Row)(hr:∀ c n y,r = .ask c n y->n∈a/\y∈a):fZ [au r,.loc l] S=LB (au (Ug a r)) S:=by
 have b:=iF r S;rw[4];unfold ji;cases r with
 |leaf o=>simp[b,Ug]
 |ask c n y =>
  obtain⟨j,m⟩:=hr c n y rfl;have i:Mn (au (.ask c n y)) (.int 0) S=ag (.int c):=Sl _ _ S;have d:Mn (au (.ask c n y)) (.int 1) S=ag (.int n):=Tw _ _ _ S;have g:Mn (au (.ask c n y)) (.int 2) S=ag (.int y):=at2 _ _ _ _ S;have gt:∀ k,k∈a->Mn (.loc l) (.int (k:Nat)) S=ag (.int (a.idxOf k:Nat)):=λk h=>by have:=CN k a 0;rw[dm h,mi] at this;unfold Mn;rw[dm (show bO (.loc l)=ba from rfl)];unfold zT;simp only[e,fz];exact this
  have f:N4 [.int c,.int (a.idxOf n:Nat),.int (a.idxOf y:Nat)] (.tup [.int c,.int (a.idxOf n:Nat),.int (a.idxOf y:Nat)])=ag (au (Ug a (.ask c n y))):=bY #[3];simp[b,i,d,g,gt n j,gt y m,f];rfl
theorem fold_eq {S:Lq}{C:ak (Row×Nat)}(h:SR B S L o G C)(w:Wf o G)(P:o.length<=10){i:Nat}(hi:i<G.length):∃ f j,dS [.loc L,.int i] S=LB (.tup ((FR (f++[i]) G).map au)) j/\Cl G (f++[i])/\f.length<=4094/\(f++[i]).map (LI.uT G)=po (LI.uT G i) []/\∃ x y,j=S++[x,y]:=by
 obtain⟨X,q,c,nX,T⟩:=A7 w P h.Vx hi;generalize r:X++[i]=f at *
 have lLs:f.length<=4095:=by rw[← r,da];simp;omega
 generalize z:S++[MO.dict (lf f)]=S1 at *
 have m:SR (λi=>S1[i]?) S1 L o G C:=by
  have M0:L+3<S.length:=(b5.mp h.RS).1;refine⟨?_,?_,?_,?_,λ_ _=>rfl⟩<;>rw[← z,h7 #[0]]
  ·exact h.obj
  ·exact h.Vx
  ·exact h.num
  exact h.RS
 have v:L+3<S1.length:=(b5.mp m.RS).1;have kd:∀ k:Nat,fz (.int k)=ag (.inl (k:Int)):=λk=>rfl
 obtain⟨ρ',j,el,F⟩:=bF (u:=ft 2 (aK (aB 4) (aK (aB 5) ca))) (body:=cT)
  (λp g j=>p<=f.length/\j=S1++[.dict (aY 0 (f.take p))]/\∃ a b,g=[ag (.loc L),ag (.int i),ag (.lst (f.map λ(k:Nat)=>D.int k)),ag (.loc S1.length),a,b])
  (bi 0 (f.map λ(k:Nat)=>D.int k)) 0 [ag (.loc L),ag (.int i),ag (.lst (f.map λ(k:Nat)=>D.int k)),ag (.loc S1.length),ay,ay] (S1++[.dict []]) ⟨#[1],rfl,ay,ay,rfl⟩ (by
   rintro p dd g j H ⟨Mx,rfl,a,b,rfl⟩;rw[cZ] at H;obtain⟨x,E,rfl⟩:=en.mp H;rw[hF] at E;obtain⟨k,l,rfl⟩:=en.mp E;have W:p<f.length:=(b5.mp l).1;simp only[mi] at *
   have s:k∉f.take p:=by
    intro Q;have h1:=xU Q;have h2:f.idxOf k=p:=by have:=(b5.mp l).2;rw[← this];exact c.nd.idxOf_getElem p W
    omega
   have lt:(f.take p).length=p:=by rw[R0];omega
   have tk:f.take (p+1)=f.take p++[k]:=by rw[aea,l];rfl
   have M:(aY 0 (f.take p)).length<d4:=by rw[CM,lt];exact ke (show p<9000 by omega) #[2]
   have R:(S1++[MO.dict (aY 0 (f.take p))])[S1.length]?=ag (.dict (aY 0 (f.take p))):=by simp
   have A:=GV s;rw[lt] at A;have ep:∀ g,u4 (.loc S1.length) (.int k) (.int p) g (S1++[.dict (aY 0 (f.take p))])=LB (.next g) (S1++[.dict (aY 0 (f.take (p+1)))]):=λg=>by unfold u4;simp only[R,kd];rw[dm M,A,tk];simp
   refine⟨[ag (.loc L),ag (.int i),ag (.lst (f.map λ(k:Nat)=>D.int k)),ag (.loc S1.length),ag (.int p),ag (.int k)],rfl,[ag (.loc L),ag (.int i),ag (.lst (f.map λ(k:Nat)=>D.int k)),ag (.loc S1.length),ag (.int p),ag (.int k)],S1++[.dict (aY 0 (f.take (p+1)))],?_,#[1],rfl,ag (.int p),ag (.int k),rfl⟩;unfold cT
   simp[ep])
 simp only[mi,bJ,d7,YP] at F;obtain⟨_,rfl,a,b,rfl⟩:=F
 have J:SR (λi=>(S1++[MO.dict (aY 0 f)])[i]?) (S1++[.dict (aY 0 f)]) L o G C:=by
  refine⟨?_,?_,?_,?_,λ_ _=>rfl⟩<;>rw[h7 #[0]]
  ·exact m.obj
  ·exact m.Vx
  ·exact m.num
  exact m.RS
 have t:(S1++[MO.dict (aY 0 f)])[S1.length]?=ag (.dict (aY 0 f)):=by simp
 have I:=dQ (u:=aB 0) (fe:=bW) (λg => ∃ y,g=[y,ag (.loc S1.length),ag (.loc L)]) (λd=>match d with | .int k=>au (Ug f ((G[k.toNat]?).getD (.leaf []))) |_ => .LN) (S1++[.dict (aY 0 f)]) (f.map λ(k:Nat)=>D.int k)
  (cg 1 [3,0] [ag (.loc L),ag (.int i),ag (.lst (f.map λ(k:Nat)=>D.int k)),ag (.loc S1.length),a,b]) ⟨ay,rfl⟩ (by
   rintro d hd g ⟨y,rfl⟩;obtain⟨k,l,rfl⟩:=vl.mp hd;refine⟨_,rfl,⟨_,rfl⟩,?_⟩;have Z:=c.lt k l;have e:G[k]?=ag G[k]:=bc Z;have O:=J.row e;have Y:=D3 t G[k] λU n y hr=>by obtain⟨K,N⟩:=c.dn _ k U n y (fB l) (by rw[e,hr]);exact⟨Jq K,Jq N⟩
   have eR:(G[(k:Int).toNat]?).getD (.leaf [])=G[k]:=by rw[TY,e];rfl
   show bW [ag (.int k),ag (.loc S1.length),ag (.loc L)] (S1++[.dict (aY 0 f)])=LB (au (Ug f ((G[(k:Int).toNat]?).getD (.leaf [])))) (S1++[.dict (aY 0 f)]);rw[eR];unfold bW
   simp[J.Qe,O,Y])
 have em:(f.map λ(k:Nat)=>D.int k).map (λd=>match d with | .int k=>au (Ug f ((G[k.toNat]?).getD (.leaf []))) |_ => .LN)=(FR f G).map au:=by unfold FR;rw[mx,mx];refine y2 λk _=>?_;simp
 rw[em] at I;refine⟨X,S1++[.dict (aY 0 f)],?_,by rw[r];exact c,nX,by rw[r];exact T,.dict (lf f),.dict (aY 0 f),by rw[← z];simp⟩;rw[r];rw[4];have V:t_ [.lst (f.map λ(k:Nat)=>D.int k)]=ag (bi 0 (f.map λ(k:Nat)=>D.int k)):=rfl;unfold g9;simp[h.Qe,q,V,el,ck,I,iU,-mx]
end
theorem k7 (S r:Lq)(fs:ak (eG×D))(f:eG)(v:D)(ρ:Lr)(h:fs.length<1000):oY "Rows" f (#[11]) v ρ (S++MO.ins "Rows" fs::r)=LB (.next ρ) (S++MO.ins "Rows" (nF f v fs)::r):=by
 have e:(S++MO.ins "Rows" fs::r)[S.length]?=ag (.ins "Rows" fs):=by simp
 unfold oY;simp only[e];rw[dm ⟨Qv,h⟩];simp
theorem rn1:¬ ("order":eG)="gathered":=by decide
theorem rn2:¬ ("order":eG)="numbers":=by decide
theorem rn3:¬ ("gathered":eG)="numbers":=by decide
theorem rn4:¬ ("order":eG)="choices":=by decide
theorem rn5:¬ ("gathered":eG)="choices":=by decide
theorem rn6:¬ ("numbers":eG)="choices":=by decide
theorem Cj (S:Lq)(o:ak Nat):bZ [#[11],oD o] (S++[.ins "Rows" []])=LB .LN (S++[RO o S.length,.lst [],.LM [],.LM []]):=by
 have b:=λa=>k7 S [] [] "order" (oD o) a #[2];have c:=λa=>k7 S [.lst []] [("order",oD o)] "gathered" (.loc (S.length+1)) a #[3];have e:=λa=>k7 S [.lst [],.LM []] [("order",oD o),("gathered",.loc (S.length+1))] "numbers" (.loc (S.length+2)) a #[3];have d:=λa=>k7 S [.lst [],.LM [],.LM []] [("order",oD o),("gathered",.loc (S.length+1)),("numbers",.loc (S.length+2))] "choices" (.loc (S.length+3)) a #[3];simp only[nF,rn1,rn2,rn3,rn4,rn5,rn6,r3] at b c e d;unfold bZ a8;rw[dm (show ([#[11],oD o]:ak D).length=2 from rfl)];have:eX ([#[11],oD o].map ag++ih 0 ay) (S++[.ins "Rows" []])=LB (.next [ag (#[11]),ag (oD o)]) (S++[RO o S.length,.lst [],.LM [],.LM []]):=by unfold eX;simp[b,c,e,d]
 rw[this];rfl
def dG (m:Nat)(ts:ak Int):Prop:=ts.length=m/\∀ x∈ts,x=0∨x=1
noncomputable def tv (ts:ak Int):Th:=λc=>dv (ts.getD c 0=1)
abbrev Od (ts:ak Int):D:=.tup (ts.map .int)
theorem FN {m:Nat}{ts:ak Int}(h:dG m ts){c:Nat}(hc:c<m)(S:Lq):Mn (Od ts) (.int c) S=ag (.int (if tv ts c=ba then 1 else 0)):=by
 have a:c<ts.length:=by rw[h.1];exact hc
 have e:ts[c]?=ag ts[c]:=bc a;unfold Mn;rw[dV (by simp[bO])];show Ou (ts.map D.int) (c:Int)=_;rw[bB (v:=.int ts[c]) (by rw[hF,e];rfl)];have b:tv ts c=dv (ts[c]=1):=by unfold tv;rw[QJ,e];rfl
 rw[b];rcases h.2 ts[c] (Oy a) with q |q<;>simp[q]
theorem tQ {e:Th}{ss d:ak eG}(h:Kv e (au (.leaf ss)) d):d=ss:=by
 generalize c:au (.leaf ss)=D0 at h;cases h with
 |leaf =>
  simp only[au,D.tup.injEq,OH,and_true,true_and] at c;exact((acL (λa b h=>by cases h;rfl)).mp c).symm
 |no=>simp[au] at c
 |yes=>simp[au] at c
theorem KQ.total {m k:Nat}{d:D}(h:KQ m k d)(e:Th):∃ ss,Kv e d ss:=by
 induction h with
 |leaf _ _ _=>exact⟨_,.leaf⟩
 | @ask k c x y _ _ _ i f =>
  obtain⟨a,g⟩:=i;obtain⟨b,hb⟩:=f;cases ht:e c with
  |false=>exact⟨a,.no ht g⟩
  |true=>exact⟨b,.yes ht hb⟩
section
variable {m:Nat}{ts:ak Int}
variable {o:ak Nat}{R:ak Row}
theorem zD (S:Lq){i:Nat}{r:Row}(h:R[i]?=ag r):Mn (.tup (R.map au)) (.int i) S=ag (au r):=by unfold Mn;rw[dV (by simp[bO])];exact bB (by rw[hF,h];rfl)
theorem Bm (S:Lq){r:Row}(h:R[R.length-1]?=ag r):Mn (.tup (R.map au)) (.int (-1)) S=ag (au r):=by
 have a:R.length-1<R.length:=(b5.mp h).1;unfold Mn;rw[dV (by simp[bO])];show Ou (R.map au) (-1)=_;have e:QO (R.map au).length (-1)=ag (R.length-1):=by unfold QO;rw[d7,dV #[2],dm #[0]];congr 1;omega
 unfold Ou;rw[e,m4,hF,h];rfl
end
theorem kF {α c:Type}[PR α][PR c](f : α->c)(x : α):∀ (l:ak α),(∀ a∈l,f a=f x->a=x)->(l.map f).idxOf (f x)=l.idxOf x
 |[],_=>rfl
 |a::l,h=>by
  have j:=kF f x l λb hb=>h b (eJ _ hb);rw[hH,XY,XY,j];by_cases e:a=x
  ·subst e;simp
  have g:¬ f a=f x:=λq=>e (h a (gy ..) q);have d:(a==x)=b0:=by simpa using e
  have i:(f a==f x)=b0:=by simpa using g
  rw[d,i]
theorem HL {o:ak Nat}{G:ak Row}(w:Wf o G){d:ak Nat}(c:Cl G d):FR d G=enc (d.map (LI.uT G)):=by
 unfold FR enc;rw[mx];refine y2 λk h=>?_;have i:=c.lt k h;have e:G[k]?=ag G[k]:=bc i;have q:=w.row k _ e;simp only[Yd,e,ab4];cases hr:G[k] with
 |leaf g =>
  have f:LI.uT G k = .leaf g:=(Un.leaf (by rw[e,hr])).uT;rw[f];rfl
 |ask a n y =>
  rw[hr] at q;obtain⟨_,l,j,_⟩:=q;have f:LI.uT G k = .node a (LI.uT G n) (LI.uT G y):=(Un.node (by rw[e,hr]) (w.uT #[0]) (w.uT #[0])).uT;rw[f];show Row.ask a (d.idxOf n) (d.idxOf y)=Row.ask a ((d.map (LI.uT G)).idxOf (LI.uT G n)) ((d.map (LI.uT G)).idxOf (LI.uT G y));rw[kF (LI.uT G) n d λb hb=>wT w (c.lt b hb) #[0],kF (LI.uT G) y d λb hb=>wT w (c.lt b hb) #[0]]
noncomputable def FM:Tr->Prop
 | .leaf a=>(∀ x∈a,eI x=ba)/\Tv a=ba
 | .node _ n y=>FM n/\FM y
theorem Un.ord {o:ak Nat}{G:ak Row}(w:Wf o G){i:Nat}{t:Tr}(h:Un G i t):Ord o t/\FM t:=by
 induction h with
 |leaf h=>exact⟨Qv,w.row _ _ h⟩
 | @node i c n y s t h f b d a =>
  obtain⟨a1,a2,l,j,k,g⟩:=w.row _ _ h;refine⟨⟨a1,d.1,a.1,by rw[← f.pl];exact j,by rw[← b.pl];exact k,λe=>g ?_⟩,d.2,a.2⟩;subst e;exact Un.inj w.nd f b
theorem Bl {o:ak Nat}(nd:o.Nodup)(s:o.length<=10){m:Nat}(F:∀ c,c<m->c∈o){k:Nat}(Q:k<=10){d:D}(hd:KQ m k d)(S:Lq) :
  ∃ t z,l8 [d,oD o] S=LB (.tup (#[5].map au)) z/\Ord o t/\FM t/\Wr o #[5]/\(∀ a,Ev #[5] a (#[5].length-1) (Md t a))/\(∀ a ss,Kv a d ss->Md t a=ss)/\(po t []).length<=4095/\z.take S.length=S:=by
 have C:=Cj S o
 have f:SR (λi=>(S++[RO o S.length,.lst [],.LM [],.LM []])[i]?) (S++[RO o S.length,.lst [],.LM [],.LM []]) S.length o [] []:=by
  refine⟨by simp,?_,?_,?_,λ_ _=>rfl⟩
  ·rw[hO #[0]];simp
  ·rw[hO #[0]];simp;rfl
  rw[hO #[0]];simp;rfl
 have pre:∀ i,i<S.length->(S++[RO o S.length,.lst [],.LM [],.LM []])[i]?=S[i]?:=λi j=>h7 j;generalize (S++[RO o S.length,.lst [],.LM [],.LM []])=S0 at *
 have K:Wf o ([]:ak Row):=⟨XX,λi r h=>by simp at h⟩;have J : 2 ^ (k+1)<=2 ^ 11:=VY #[2] #[0];have I : 2 ^ 11=2048:=rfl;obtain⟨n,E,M,r,B,g,b,_,q,_,_,y⟩:=EY nd s F hd 15 #[0] f K (λp G=>by cases G) (by simp;omega) (by simp;omega);rw[WY] at g b q y;obtain⟨X,N,w,c,P,v,x2,x,rfl⟩:=fold_eq g b s q
 have fr:(n++[x2,x]).take S.length=S:=by
  have O:S.length+3<n.length:=(b5.mp g.RS).1;apply UZ;intro i;rw[aau];split
  ·rename_i j;rw[h7 #[0],g.fr i (.inl j),pre i j]
  rw[Vg #[0]]
 have l:=f.has "fold_from" #[2];have un:=b.uT q;have eF:FR (X++[r]) E=enc (po (LI.uT E r) []):=by rw[HL b c,v]
 have u:=Jv b c;rw[eF] at w u;refine⟨LI.uT E r,n++[x2,x],aA rfl ?_,(un.ord b).1,(un.ord b).2,u,λa=>?_,λa ss A=>?_,?_,fr⟩
 ·have L:z8 "Rows" bZ (ah (af 1) aC) [ag d,ag (oD o),ay] S=LB (#[11]) S0:=by
   unfold z8;simp only[Hh,Jc,cI];have:af 1 [ag d,ag (oD o),ay] S=LB (oD o) S:=rfl;rw[this];simp only[cI];rw[C];rfl
  unfold vO;simp[L,l,B,w,-mx]
 ·have e:=Jw c (un.ev a) #[3];have hr:r∉X:=by have:=(RR.mp c.nd).2.2;intro l;exact this r l r #[3] rfl
  have H:(X++[r]).idxOf r=(FR (X++[r]) E).length-1:=by rw[aal,dV hr];simp[FR]
  rw[H,eF] at e;exact e
 ·exact Ev.det (un.ev a) (y a ss A)
 rw[← v,d7,da];simp;omega
inductive Sub:Tr->Tr->Prop
 |refl (t:Tr):Sub t t
 |no {s:Tr}{c:Nat}{n y:Tr}:Sub s n->Sub s (.node c n y)
 |yes {s:Tr}{c:Nat}{n y:Tr}:Sub s y->Sub s (.node c n y)
theorem Cu:∀ (t:Tr) (a:ak Tr),∃ X,po t a=a++X
 | .leaf b,a=>by
  by_cases h:Tr.leaf b∈a
  ·exact⟨[],by rw[jc h,i3]⟩
  exact⟨[.leaf b],lB h⟩
 | .node c n y,a=>by
  by_cases h:Tr.node c n y∈a
  ·exact⟨[],by rw[jc h,i3]⟩
  obtain⟨X,d⟩:=Cu n a;obtain⟨Y,e⟩:=Cu y (po n a);exact⟨X++Y++[.node c n y],by rw[lw h,e,d];simp⟩
theorem EF (t:Tr)(a:ak Tr):t∈po t a:=by
 by_cases h:t∈a
 ·rw[jc h];exact h
 cases t with
 |leaf b=>rw[lB h];simp
 |node c n y=>rw[lw h];simp
theorem lA:∀ (t:Tr) (a:ak Tr) (s:Tr),s∈po t a->s∈a∨Sub s t
 | .leaf d,a,s,h=>by
  by_cases b:Tr.leaf d∈a
  ·rw[jc b] at h;exact .inl h
  rw[lB b] at h;rcases lk.mp h with h |h
  ·exact .inl h
  rw[hM.mp h];exact .inr (.refl _)
 | .node c n y,a,s,h=>by
  by_cases b:Tr.node c n y∈a
  ·rw[jc b] at h;exact .inl h
  rw[lw b] at h;rcases lk.mp h with h |h
  ·rcases lA y _ s h with h |h
   ·rcases lA n _ s h with h |h
    ·exact .inl h
    exact .inr (.no h)
   exact .inr (.yes h)
  rw[hM.mp h];exact .inr (.refl _)
theorem uM {s t:Tr}(h:Sub s t):Q0 s<=Q0 t:=by
 induction h with
 |refl=>exact hB _
 |no _ a=>simp only[Q0];omega
 |yes _ a=>simp only[Q0];omega
theorem pf:∀ (t:Tr) {d:ak Tr},d.Nodup->(po t d).Nodup
 | .leaf g,d,h=>by
  by_cases e:Tr.leaf g∈d
  ·rw[jc e];exact h
  rw[lB e];refine RR.mpr ⟨h,by simp,λa f b hb=>?_⟩;rw[hM.mp hb];rintro rfl;exact e f
 | .node c n y,d,h=>by
  by_cases e:Tr.node c n y∈d
  ·rw[jc e];exact h
  rw[lw e];refine RR.mpr ⟨pf y (pf n h),by simp,λa f b hb=>?_⟩;rw[hM.mp hb];rintro rfl;rcases lA y _ _ f with q |q
  ·rcases lA n _ _ q with q |q
   ·exact e q
   have:=uM q;simp only[Q0] at this;omega
  have:=uM q;simp only[Q0] at this;omega
theorem ya {α:Type}(xs:ak α)(p:Nat):jX xs ay (ag (p:Int))=xs.take p:=by
 unfold jX;rw[HT.P5,HT.QM,adi,sub_zero];rcases Nat.le_total p xs.length with h |h
 ·rw[abN h]
 rw[ado h,zh (hB _),zh h]
theorem yc {α:Type}(xs:ak α)(q:Nat):jX xs (ag (q:Int)) ay=xs.drop q:=by
 unfold jX;rw[HT.QM,HT.P5];rcases Nat.le_total q xs.length with h |h
 ·rw[abN h,zh (by rw[R3];exact hB _)]
 rw[ado h,adp,List.drop_of_length_le h,List.take_nil]
abbrev nD (l:ak Nat):ak D:=l.map λ(k:Nat)=>D.int k
theorem C_ (a b:ak D)(h:a.length+b.length<=1000):bh (.lst a) (.lst b)=ag (.lst (a++b)):=by rw[mX,dm (hA h #[2])]
theorem xB (num:Int)(m:D)(k:Nat)(n:k<=20)(l:ak Nat)(c:l.length=k)(z:a9 D)(S:Lq):∃ a:Nat,a<=k/\gE [ag (.int num),ag m,ag (.lst (nD l)),ag (.int k),z] S=LB (.next [ag (.int num),ag m,ag (.lst (nD (l.take a++[k]++l.drop a))),ag (.int k),ag (.int a)]) S:=by
 have i:=jm num k S;have j:eV [.lst (nD l)]=ag (.int (k:Nat)):=by simp[eV,c]
 have b:cw (.int (MR num k)) (.int ((k:Int)+1))=ag (.int (MR num k % ((k:Int)+1))):=bE #[0];have f:=tK (MR num k) (show (0:Int)<(k:Int)+1 by omega);obtain⟨a,h⟩:∃ a:Nat,MR num k % ((k:Int)+1)=a:=⟨(MR num k % ((k:Int)+1)).toNat,#[1]⟩;rw[h] at b f;have g:Pj (.lst (nD l)) ay (ag (a:Int))=ag (.lst (nD (l.take a))):=by show ag (D.lst (jX (nD l) ay (ag (a:Int))))=_;rw[ya];unfold nD;rw[abO]
 have e:Pj (.lst (nD l)) (ag (a:Int)) ay=ag (.lst (nD (l.drop a))):=by show ag (D.lst (jX (nD l) (ag (a:Int)) ay))=_;rw[yc];unfold nD;rw[abP]
 have t1:(nD (l.take a)).length<=20:=by rw[d7,R0];omega
 have t2:(nD (l.drop a)).length<=20:=by rw[d7,R3];omega
 have a1:=C_ (nD (l.take a)) [.int k] (by simp at t1 ⊢;omega);have a2:=C_ (nD (l.take a)++[.int k]) (nD (l.drop a)) (by rw[da];simp at t1 t2 ⊢;omega);have z1:N4 [.int k] (.lst [.int k])=ag (.lst [.int k]):=bY #[3];have d:nD (l.take a++[k]++l.drop a)=nD (l.take a)++[.int k]++nD (l.drop a):=by simp
 refine⟨a,#[1],?_⟩;rw[d];unfold gE;simp[i,j,b,g,e,z1,a1,a2,xS,-mx,-Q5,-abO,-abP,-kg]
theorem AR (num:Int){m:Nat}(x:m<=10)(S:Lq):∃ o:ak Nat,m9 [.int num,.int m] S=LB (oD o) S/\o.Perm (gx m):=by
 have g:eE [.int m]=ag ((gx m).map λ(k:Nat)=>D.int k):=by have:=xm m #[0] #[0];simpa using this
 obtain⟨t,B,w,f⟩:=bF (u:=aB 3) (body:=gE) (λi e d=>d=S/\i<=m/\∃ (l:ak Nat) (a b:a9 D),l.Perm (gx i)/\e=[ag (.int num),ag (.int m),ag (.lst (nD l)),a,b])
  ((gx m).map λ(k:Nat)=>D.int k) 0 [ag (.int num),ag (.int m),ag (.lst []),ay,ay] S ⟨rfl,#[1],[],ay,ay,.refl _,rfl⟩ (by
   rintro j A e d n ⟨rfl,v,l,a,b,c,rfl⟩;obtain⟨rfl,z⟩:=gR n;simp only[mi] at c v ⊢;have h:l.length=j:=by rw[c.length_eq,p0]
   obtain⟨q,y,r⟩:=xB num (.int m) j #[0] l h b d;refine⟨_,rfl,_,_,r,rfl,#[1],_,_,_,?_,rfl⟩;rw[adG];have p:(l.take q++[j]++l.drop q).Perm (j::l):=by have:=List.perm_middle (a:=j) (l₁:=l.take q) (l₂:=l.drop q);rw[v3] at this;rw[kg];exact this
   exact p.trans ((List.Perm.cons j c).trans (List.perm_append_singleton j (gx j)).symm))
 simp only[mi,d7,p0] at f;obtain⟨rfl,_,l,a,b,c,rfl⟩:=f;refine⟨l,aA rfl ?_,c⟩;have s:N4 [] (.lst [])=ag (.lst []):=bY #[3];unfold rV;simp[s,g,w,iU]
inductive KW (W:ak eG):D->Prop
 |leaf {ss:ak eG}:(∀ x∈ss,x∈W)->KW W (au (.leaf ss))
 |ask {c:Nat}{x y:D}:KW W x->KW W y->KW W (.tup [.str "ask",.int c,x,y])
theorem IL {W:ak eG}{d:D}(h:KW W d):∀ {b:Th}{ss:ak eG},Kv b d ss->∀ x∈ss,x∈W:=by
 induction h with
 | @leaf e h=>intro b ss a;rw[tQ a];exact h
 | @ask c x y _ _ g f =>
  intro b ss a;cases a with
  |no _ a=>exact g a
  |yes _ a=>exact f a
theorem xY (ss:ak eG)(j:ss.length<=6)(o:∀ x∈ss,eI x=ba)(l:ss.Pairwise λa b=>NT a b=ba)(m:Nat)(s : 1<=m)(p:m<=10)(S:Lq):∀ (fuel e:Nat) (num:Int),e<fuel->0<=num->∃ d,l7 fuel [.int num,.tup (ss.map .str),.int m,.int e] S=LB d S/\KQ m e d/\KW ss d
 | 0,e,num,h,_=>ku h #[0]
 |fuel+1,e,num,h,h0=>by
  have t:cw (.int num) (.int 7)=ag (.int (num % 7)):=bE #[2];have n:dH (.int num) (.int 7)=ag (.int (num / 7)):=jP #[2] #[2];have q:cw (.int (num / 7)) (.int m)=ag (.int (num / 7 % m)):=bE #[0];have z:=tK (num / 7) (show (0:Int)<m by omega);obtain⟨D,r,g⟩:=vj (num / 7) (ss:=ss) #[0] S
  have leaf:(e=0∨num % 7=0)->∃ d,l7 (fuel+1) [.int num,.tup (ss.map .str),.int m,.int e] S=LB d S/\KQ m e d/\KW ss d:=λhc=>by
   refine⟨.tup [.str "names",.tup (D.map .str)],aA rfl ?_,.leaf (λx k=>o x (g.subset k)) (fw (l.sublist g)) (hA g.length_le j),.leaf (λx k=>g.subset k)⟩;unfold t5;by_cases f:e=0
   ·subst f;simp[n,r]
   have i:num % 7=0:=hc.resolve_left f;simp[f,t,i,n,r]
  by_cases f:e=0
  ·exact leaf (.inl f)
  by_cases i:num % 7=0
  ·exact leaf (.inr i)
  have u:=jm num 1 S;have w:=jm num 2 S;obtain⟨dp,rfl⟩:∃ dp,e=dp+1:=⟨e-1,#[1]⟩;obtain⟨x,ex,v,A⟩:=xY ss j o l m s p S fuel dp (MR num 1) #[0] (kK _ _);obtain⟨y,E,C,wy⟩:=xY ss j o l m s p S fuel dp (MR num 2) #[0] (kK _ _);have B:¬ ((dp:Int)+1=0):=#[1]
  obtain⟨c,hc⟩:∃ c:Nat,num / 7 % m=c:=⟨(num / 7 % m).toNat,#[1]⟩;rw[hc] at q z;refine⟨.tup [.str "ask",.int c,x,y],aA rfl ?_,.ask #[0] v C,.ask A wy⟩;unfold t5;simp[B,t,i,u,w,ex,E,n,q,uN]
abbrev Oz (Nu:ak (ak Int)):ak D:=Nu.map Od
theorem Gb (a b:ak D)(h:a.length+b.length<=1000):bh (.tup a) (.tup b)=ag (.tup (a++b)):=by rw[g_,dm (hA h #[2])]
theorem nv (e:Lk D)(v:Int)(g:e=aH bh (af 0) (aE (.tup [.int v])))(a:ak (ak Int))(h:∀ ts∈a,ts.length<=20)(ρ:Lr)(S:Lq):cH (aB 0) eO e (Oz a) (cg 1 [] ρ) S=ag (Oz (a.map λts=>ts++[v]),S):=by
 have q:=dQ (u:=aB 0) (fe:=e) (λρ => ∃ y,ρ=[y]) (λd=>match d with | .tup b => .tup (b++[.int v]) |_ => .LN) S (Oz a) (cg 1 [] ρ) ⟨ay,rfl⟩ (by
  rintro d hd ρ ⟨y,rfl⟩;obtain⟨ts,c,rfl⟩:=vl.mp hd;refine⟨_,rfl,⟨_,rfl⟩,?_⟩;have f:=Gb (ts.map D.int) [.int v] (by have:=h ts c;simp;omega);subst g
  simp[f])
 rw[q];congr 2;unfold Oz;rw[mx,mx];refine y2 λts _=>?_;simp[Od]
theorem uL (m:D)(k:Nat)(a:ak (ak Int))(d:a.length<=2000)(h:∀ ts∈a,ts.length<=20)(z:a9 D)(S:Lq):fC [ag m,ag (.lst (Oz a)),z] S=LB (.next [ag m,ag (.lst (Oz ((a.map λts=>ts++[0])++(a.map λts=>ts++[1])))),z]) S:=by
 have b:=nv lP 0 rfl a h [ag m,ag (.lst (Oz a)),z] S;have c:=nv lO 1 rfl a h [ag m,ag (.lst (Oz a)),z] S;have ad:bh (.lst (Oz (a.map λts=>ts++[0]))) (.lst (Oz (a.map λts=>ts++[1])))=ag (.lst (Oz ((a.map λts=>ts++[0])++(a.map λts=>ts++[1])))):=by rw[mX,dm (by simp only[Oz,d7];exact hA (show _<=4000 by omega) #[2])];unfold Oz;rw[← Q5]
 unfold fC;simp[ck,b,c,ad,-mx,-Q5]
theorem wu:∀ (b:ak (ak Int)),(∀ ts∈b,ts≠[])->jZ tupI (Oz b)=ag b
 |[],_=>rfl
 |ts::b,h=>by
  have d:=wu b λt c=>h t (eJ _ c)
  have e:tupI (Od ts)=ag ts:=by
   unfold tupI Od;simp only[Me];cases ts with
   |nil=>exact ku rfl (h [] (gy ..))
   |cons a r=>rfl
  show jZ tupI (Od ts::Oz b)=_;rw[jZ,e,m4,d];rfl
noncomputable def Mw:Nat->ak (ak Int)
 | 0=>[[]]
 |m+1=>((Mw m).map λa=>a++[0])++((Mw m).map λa=>a++[1])
theorem fu:∀ m,(Mw m).length=2 ^ m
 | 0=>rfl
 |m+1=>by rw[Mw,da,d7,d7,fu m,UE];omega
theorem oP:∀ m,∀ ts∈Mw m,dG m ts
 | 0,ts,h=>by rw[hM.mp h];exact⟨rfl,λx hx=>by cases hx⟩
 |m+1,ts,h=>by
  have go:∀ {t:ak Int}{b:Int},t∈Mw m->(b=0∨b=1)->dG (m+1) (t++[b]):=λ{t b} a hb=>by
   refine⟨by rw[da,(oP m t a).1];rfl,λx hx=>?_⟩;rcases lk.mp hx with hx |hx
   ·exact(oP m t a).2 x hx
   rw[hM.mp hx];exact hb
  rcases lk.mp h with h |h
  ·obtain⟨t,a,rfl⟩:=vl.mp h;exact go a (#[9])
  obtain⟨t,a,rfl⟩:=vl.mp h;exact go a (.inr rfl)
theorem yD:∀ m ts,dG m ts->ts∈Mw m
 | 0,ts,h=>by rw[SK.mp h.1];exact hM.mpr rfl
 |m+1,ts,h=>by
  obtain⟨a,d⟩:=h;have b:ts≠[]:=by intro z;rw[z] at a;simp at a
  have e:=List.dropLast_concat_getLast b;have c:=yD m ts.dropLast ⟨by rw[List.length_dropLast,a];rfl,λx f=>d x (List.dropLast_subset _ f)⟩;rw[Mw,lk];rcases d _ (List.getLast_mem b) with h0 |h0
  ·exact .inl (vl.mpr ⟨_,c,by rw[← h0];exact e⟩)
  exact .inr (vl.mpr ⟨_,c,by rw[← h0];exact e⟩)
noncomputable def M_:Nat->ak (ak Int)
 | 0=>[[]]
 |m+1=>(M_ m).map (λr => 0::r)++(M_ m).map (λr => 1::r)
theorem LP:∀ {m:Nat}{ts:ak Int},ts∈M_ m↔dG m ts
 | 0,ts=>by
  show ts∈[[]]↔_;rw[hM];exact⟨λe=>by subst e;exact⟨rfl,λx hx=>by cases hx⟩,λh=>YX h.1⟩
 |m+1,ts=>by
  show ts∈(M_ m).map _++(M_ m).map _↔_;rw[lk,vl,vl];rw[3]
  ·rintro (⟨r,hr,rfl⟩ |⟨r,hr,rfl⟩)
   ·have h:=LP.mp hr;exact⟨by rw[j2,h.1],λx hx=>by rcases f5.mp hx with rfl |hx;exact #[9];exact h.2 x hx⟩
   have h:=LP.mp hr;exact⟨by rw[j2,h.1],λx hx=>by rcases f5.mp hx with rfl |hx;exact .inr rfl;exact h.2 x hx⟩
  rintro⟨b,c⟩;cases ts with
  |nil=>cases b
  |cons a r =>
   have hr:r∈M_ m:=LP.mpr ⟨by simpa using b,λx hx=>c x (eJ _ hx)⟩;rcases c a (gy ..) with rfl |rfl
   ·exact .inl ⟨r,hr,rfl⟩
   exact .inr ⟨r,hr,rfl⟩
theorem lH (a:Int)(x y:ak Int):f8 (a::x) (a::y)=f8 x y:=by unfold f8;rw[bU];simp
theorem oV:∀ m,(M_ m).Pairwise λa b=>f8 a b=ba
 | 0=>To _ _
 |m+1=>by
  show ((M_ m).map _++(M_ m).map _).Pairwise _;rw[r0,H8,H8];refine⟨(oV m).imp λ{a b} h=>by rw[lH];exact h,(oV m).imp λ{a b} h=>by rw[lH];exact h,λa c b hb=>?_⟩;obtain⟨x,_,rfl⟩:=vl.mp c;obtain⟨y,_,rfl⟩:=vl.mp hb;unfold f8;rw[bU];simp
theorem zk:∀ a b:ak Int,f8 a b=ba->f8 b a=ba->a=b
 |[],[],_,_=>rfl
 |[],b::bs,_,h=>by simp[f8,bU] at h
 |a::as,[],h,_=>by simp[f8,bU] at h
 |a::as,b::bs,h,g=>by
  have e:a=b:=by
   unfold f8 at h g;rw[bU] at h g;by_cases d:a<b
   ·have c:¬ b<a:=#[1]
    simp[d,c] at g
   by_cases c:b<a
   ·simp[d,c] at h
   omega
  subst e;rw[lH] at h g;rw[zk as bs h g]
theorem zj:∀ a b:ak Int,(f8 a b ||f8 b a)=ba
 |[],[]=>rfl
 |[],b::bs=>rfl
 |a::as,[]=>rfl
 |a::as,b::bs=>by
  by_cases e:a=b
  ·subst e;rw[lH,lH];exact zj as bs
  unfold f8;rw[bU,bU];by_cases d:a<b
  ·have c:¬ b<a:=#[1]
   simp[d,c]
  have c:b<a:=#[1]
  simp[d,c]
theorem sV:∀ m,(M_ m).Nodup
 | 0=>by simp[M_]
 |m+1=>by
  have c:=sV m;show ((M_ m).map (λr => 0::r)++(M_ m).map λr => 1::r).Nodup;refine RR.mpr ⟨?_,?_,λa d b hb e=>?_⟩
  ·exact H8.mpr (c.imp λh e=>h (WC e).2)
  ·exact H8.mpr (c.imp λh e=>h (WC e).2)
  obtain⟨x,_,rfl⟩:=vl.mp d;obtain⟨y,_,rfl⟩:=vl.mp hb;have:=(WC e).1;omega
noncomputable def fst (m:Nat)(P:ak Int->fg):a9 (ak Int):=((M_ m).filter P).head?
abbrev ltI:ak Int->ak Int->fg:=bU λ(x y:Int)=>dv (x<y)
theorem tN (a:Int)(x y:ak Int):ltI (a::x) (a::y)=ltI x y:=by show bU _ _ _=_;rw[bU];simp
theorem lG:∀ {a b:ak Int}(s s':ak Int),a.length=b.length->ltI a b=ba->ltI (a++s) (b++s')=ba
 |[],[],s,s',_,h=>by simp[ltI,bU] at h
 |[],b::bs,_,_,hl,_=>by simp at hl
 |a::as,[],_,_,hl,_=>by simp at hl
 |a::as,b::bs,s,s',hl,h=>by
  by_cases e:a=b
  ·subst e;rw[tN] at h;rw[R5,R5,tN];exact lG s s' (by simpa using hl) h
  have c:¬ (!dv (a<b)&&!dv (b<a))=ba:=by
   have:a<b∨b<a:=#[1]
   rcases this with q |q<;>simp[q]
  have d:ltI (a::as) (b::bs)=dv (a<b):=by show bU _ _ _=_;rw[bU,dV c]
  rw[d] at h;show bU _ _ _=_;rw[R5,R5,bU,dV c];exact h
theorem C9:∀ (a s:ak Int),ltI (a++0::s) (a++1::s)=ba
 |[],s=>by show bU _ _ _=_;rw[WY,WY,bU];simp
 |a::as,s=>by rw[R5,R5,tN];exact C9 as s
theorem Fb {a b:ak Int}(h:ltI a b=ba):ltI b a=b0:=by
 cases q:ltI b a with
 |false=>rfl
 |true =>
  have e:=zj a b;unfold f8 at e;rw[show bU _ b a=ba from q,show bU _ a b=ba from h] at e;cases e
theorem BW (k:Nat):(M_ k).Pairwise λa b=>ltI a b=ba:=by
 refine((oV k).and (sV k)).imp λ{a b} h=>?_;cases q:ltI a b with
 |true=>rfl
 |false=>exact ku (zk a b h.1 (by unfold f8;rw[show bU _ a b=b0 from q];rfl)) h.2
theorem sP:∀ m,(Mw m).Nodup
 | 0=>To _ _
 |m+1=>by
  rw[Mw,RR];have inj:∀ {x:Int}{a b:ak Int},a++[x]=b++[x]->a=b:=λh=>List.append_cancel_right h;refine⟨H8.mpr ((sP m).imp λh e=>h (inj e)),H8.mpr ((sP m).imp λh e=>h (inj e)),λa c b hb e=>?_⟩;obtain⟨x,_,rfl⟩:=vl.mp c;obtain⟨y,_,rfl⟩:=vl.mp hb;have:=zc List.getLast? e;simp at this
theorem sO (k:Nat):(Mw k).Perm (M_ k):=by rw[ZU (sP k) (sV k)];exact λa=>⟨λh=>LP.mpr (oP k a h),λh=>yD k a (LP.mp h)⟩
theorem oh (k:Nat):∀ (d i:Nat),i<2 ^ d->∃ s:ak Int,sl (Mw (k+d)) (i*2 ^ k) (2 ^ k)=(Mw k).map λts=>ts++s
 | 0,i,h=>by
  obtain rfl:i=0:=by simpa using h
  refine⟨[],?_⟩;unfold sl;rw[ac8,adi,aeb,zh (by rw[fu];exact hB _)];simp
 |d+1,i,h=>by
  have g : 2 ^ (k+d)=2 ^ d*2 ^ k:=by rw[pow_add,abA]
  have e:∀ v:Int,((Mw (k+d)).map λts=>ts++[v]).length=2 ^ d*2 ^ k:=λv=>by rw[d7,fu,g]
  have f:Mw (k+(d+1))=((Mw (k+d)).map λts=>ts++[0])++((Mw (k+d)).map λts=>ts++[1]):=rfl;have c:∀ (v:Int) (b l:Nat),sl ((Mw (k+d)).map λts=>ts++[v]) b l=(sl (Mw (k+d)) b l).map λts=>ts++[v]:=λv b l=>by unfold sl;rw[abO,abP]
  rcases Wy i (2 ^ d) with hi |hi
  ·obtain⟨s,q⟩:=oh k d i hi;have a:i*2 ^ k+2 ^ k<=2 ^ d*2 ^ k:=by rw[← succ_mul];exact Nat.mul_le_mul_right _ hi
   refine⟨s++[0],?_⟩;have:sl (Mw (k+(d+1))) (i*2 ^ k) (2 ^ k)=sl ((Mw (k+d)).map λts=>ts++[0]) (i*2 ^ k) (2 ^ k):=by unfold sl;rw[f,UO (by rw[e];exact hA (aaK _ _) a),H5 (by rw[R3,e];exact Nat.le_sub_of_add_le (by rw[Nat.add_comm];exact a))]
   rw[this,c,q,mx];refine y2 λts _=>?_;simp
  obtain⟨j,rfl⟩:∃ j,i=2 ^ d+j:=⟨i-2 ^ d,#[1]⟩;obtain⟨s,q⟩:=oh k d j (by rw[UE] at h;omega);refine⟨s++[1],?_⟩;have:sl (Mw (k+(d+1))) ((2 ^ d+j)*2 ^ k) (2 ^ k)=sl ((Mw (k+d)).map λts=>ts++[1]) (j*2 ^ k) (2 ^ k):=by unfold sl;rw[f,add_mul,← e 0,List.drop_length_add_append]
  rw[this,c,q,mx];refine y2 λts _=>?_;simp
theorem F7 {m k i:Nat}(h:i*2 ^ (k+1)+2 ^ (k+1)<=2 ^ m)(A:k+1<=m):Ae ltI (Mw m) (i*2 ^ (k+1)) (2 ^ k):=by
 obtain⟨d,rfl⟩:∃ d,m=k+1+d:=⟨m-(k+1),#[1]⟩;have y:i<2 ^ d:=by rw[← succ_mul,pow_add 2 (k+1) d,abA (2 ^ (k+1)) (2 ^ d)] at h;exact Nat.le_of_mul_le_mul_right h (Nat.two_pow_pos _)
 obtain⟨s,q⟩:=oh (k+1) d i y;have r : 2 ^ (k+1)=2 ^ k+2 ^ k:=by rw[UE];omega
 have z : 2 ^ k<=2 ^ (k+1):=by rw[r];exact aaK _ _
 have u : 2 ^ (k+1)-2 ^ k=2 ^ k:=by rw[r];exact acJ ..
 have ln:∀ v:Int,((Mw k).map λc=>c++(v::s)).length=2 ^ k:=λv=>by rw[d7,fu]
 have e:(Mw (k+1)).map (λc=>c++s)=((Mw k).map λc=>c++(0::s))++((Mw k).map λc=>c++(1::s)):=by
  rw[Mw,Q5,mx,mx];congr 1
  ·exact y2 λc _=>by simp
  exact y2 λc _=>by simp
 rw[e] at q
 have w:sl (Mw (k+1+d)) (i*2 ^ (k+1)) (2 ^ k)=(Mw k).map λc=>c++(0::s):=by
  have:sl (Mw (k+1+d)) (i*2 ^ (k+1)) (2 ^ k)=(sl (Mw (k+1+d)) (i*2 ^ (k+1)) (2 ^ (k+1))).take (2 ^ k):=by unfold sl;rw[aed,abN z]
  rw[this,q];exact aef (ln 0)
 have x:sl (Mw (k+1+d)) (i*2 ^ (k+1)+2 ^ k) (2 ^ k)=(Mw k).map λc=>c++(1::s):=by
  have:sl (Mw (k+1+d)) (i*2 ^ (k+1)+2 ^ k) (2 ^ k)=(sl (Mw (k+1+d)) (i*2 ^ (k+1)) (2 ^ (k+1))).drop (2 ^ k):=by unfold sl;rw[aec,Oj,u]
  rw[this,q];exact acI (ln 0)
 have n:(M_ k).length=2 ^ k:=by rw[← (sO k).length_eq,fu]
 have f:∀ {a b:ak Int},a∈M_ k->b∈M_ k->a.length=b.length:=λl hb=>by rw[(LP.mp l).1,(LP.mp hb).1]
 have t:∀ v:Int,((M_ k).map λc=>c++(v::s)).Pairwise λa b=>ltI b a=b0:=λv=>by rw[H8];exact List.Pairwise.imp_of_mem (λ{a b} l hb h=>Fb (lG _ _ (f l hb) h)) (BW k)
 refine⟨(M_ k).map λc=>c++(0::s),(M_ k).map λc=>c++(1::s),by rw[d7,n],by rw[d7,n],?_,?_,t 0,t 1,?_,?_⟩
 ·rw[w];exact(sO k).map _
 ·rw[x];exact(sO k).map _
 ·intro p g;obtain⟨j,o,rfl⟩:=Qq g;rw[abQ,YN,YN];exact C9 _ _
 intro p g;obtain⟨j,o,rfl⟩:=Qq g;rw[aee,adl,d7,d7] at o;rw[abQ,ac6,YN,YN];exact lG _ _ (f (Oy _) (Oy _)) (K3.mp (BW k) j (j+1) #[0] #[0] #[0])
theorem BL {m:Nat}(w:m<=10):Spec ltI (Mw m):=by
 rcases Wy m 6 with h6 |h6
 ·refine .inl ⟨?_,sP m⟩;rw[fu];exact Zt (VY #[2] (show m<=5 by omega)) #[2]
 obtain⟨t,rfl⟩:∃ t,m=5+(t+1):=⟨m-6,#[1]⟩;have d:(Mw (5+(t+1))).length=32*2 ^ (t+1):=by rw[fu,pow_add]
 refine .inr ⟨t,#[1],d,λj h=>?_,λb l c=>?_⟩
 ·rw[d] at h;obtain⟨s,q⟩:=oh 5 (t+1) j #[0];have e:∃ r,Mw 5=[0,0,0,0,0]::[1,0,0,0,0]::[0,1,0,0,0]::r:=⟨_,rfl⟩;obtain⟨r,e⟩:=e;have f:=(v3 (2 ^ 5) ((Mw (5+(t+1))).drop (j*2 ^ 5)));have v:((Mw (5+(t+1))).drop (j*2 ^ 5)).take (2 ^ 5)=(Mw 5).map λo=>o++s:=q;rw[v,e] at f;rw[show j*2 ^ 5=32*j by omega] at f;refine⟨_,_,_,_,f.symm,lG _ _ rfl #[2],lG _ _ rfl #[2]⟩
 rw[d] at c;have u : 32*2 ^ (t+1)=2 ^ (5+(t+1)):=(pow_add 2 5 (t+1)).symm;rw[u] at c;unfold al at c;rw[mc,mc,sX,UR] at c;obtain⟨hc,g,a⟩:=c
 obtain⟨k,rfl⟩:∃ k,l=2 ^ k:=by
  have:l=32∨l=64∨l=128∨l=256∨l=512:=by simpa using hc
  rcases this with rfl |rfl |rfl |rfl |rfl
  ·exact⟨5,rfl⟩
  ·exact⟨6,rfl⟩
  ·exact⟨7,rfl⟩
  ·exact⟨8,rfl⟩
  exact⟨9,rfl⟩
 have n : 2*2 ^ k=2 ^ (k+1):=by rw[UE];omega
 rw[n] at g a;have hb:b=b / 2 ^ (k+1)*2 ^ (k+1):=by have:=Nat.div_add_mod b (2 ^ (k+1));rw[g,aeb,abA] at this;exact this.symm
 have p:k+1<=5+(t+1):=by
  have : 2 ^ (k+1)<=2 ^ (5+(t+1)):=#[1]
  exact(Nat.pow_le_pow_iff_right #[2]).mp this
 have z:=F7 (m:=5+(t+1)) (k:=k) (i:=b / 2 ^ (k+1)) (by rw[← hb];exact a) p;rwa [← hb] at z
theorem wZ {m:Nat}(x : 1<=m)(f:m<=10)(S:Lq):∃ l:ak (ak Int),kP [.int m] S=LB (.lst (Oz l)) S/\l.length=2 ^ m:=by
 have p:eE [.int m]=ag ((gx m).map λ(k:Nat)=>D.int k):=by have:=xm m #[0] #[0];simpa using this
 have o:∀ j,j<=10->(Mw j).length<=1024:=λj a=>by rw[fu];exact VY #[2] a
 obtain⟨s,y,t,n⟩:=bF (u:=aB 2) (body:=fC) (λi g c=>c=S/\∃ b:a9 D,g=[ag (.int m),ag (.lst (Oz (Mw i))),b])
  ((gx m).map λ(k:Nat)=>D.int k) 0 [ag (.int m),ag (.lst [.tup []]),ay] S ⟨rfl,ay,rfl⟩ (by
   rintro j w g c a ⟨rfl,b,rfl⟩;obtain⟨rfl,v⟩:=gR a;simp only[mi];have q:=uL (.int m) j (Mw j) (by have:=o j #[0];omega) (λe d=>by have:=(oP j e d).1;omega) (ag (.int j)) c
   exact⟨_,rfl,_,_,q,rfl,_,rfl⟩)
 simp only[mi,d7,p0] at n;obtain⟨rfl,b,rfl⟩:=n;have es:sW [.lst (Oz (Mw m))]=ag (.lst (Oz ((Mw m).mergeSort f8))):=by show (jZ tupI (Oz (Mw m))).bind _=_;rw[wu (Mw m) λe d h=>by have:=(oP m e d).1;rw[h] at this;simp at this;omega,m4];exact dm ⟨by simp only[Oz,d7];exact hA (o m f) #[2],BL f⟩
 have r:((Mw m).mergeSort f8).Perm (Mw m):=S8 _ _;refine⟨(Mw m).mergeSort f8,aA rfl ?_,by rw[r.length_eq,fu]⟩;unfold pN;simp[p,t,es,-mx]
theorem KQ.mono {m k:Nat}{d:D}(h:KQ m k d):∀ j,k<=j->KQ m j d:=by
 induction h with
 |leaf c e g=>exact λj _ => .leaf c e g
 |ask f _ _ a b =>
  intro j l;obtain⟨j,rfl⟩:∃ i,j=i+1:=⟨j-1,#[1]⟩;exact .ask f (a j #[0]) (b j #[0])
theorem E_ (ns:ak Int)(b:Nat)(hb : 1<=b)(v:b<=10)(S:Lq):∃ (m:Nat) (ss:ak eG) (kvs:ak (D×D)) (d:D) (o:ak Nat),1<=m/\m<=b/\ss.length<=6/\(∀ x∈ss,eI x=ba)/\(ss.Pairwise λa b=>NT a b=ba)/\KQ m 5 d/\KW ss d/\o.Perm (gx m) /\
  l6 [.lst (ns.map .int),.int b] S=LB (.tup [.int m,.tup (ss.map .str),d,oD o]) (S++[.dict kvs]):=by
 have h:∀ S,bu [.lst (ns.map .int),.int 0] S=LB (.int (mix ns 0)) S:=gW ns 0;have x1:∀ S,bu [.lst (ns.map .int),.int 1] S=LB (.int (mix ns 1)) S:=gW ns 1;have x2:∀ S,bu [.lst (ns.map .int),.int 2] S=LB (.int (mix ns 2)) S:=gW ns 2;have p:∀ S,bu [.lst (ns.map .int),.int 3] S=LB (.int (mix ns 3)) S:=gW ns 3;have j:∀ S,bu [.lst (ns.map .int),.int 4] S=LB (.int (mix ns 4)) S:=gW ns 4;have u:=tK (mix ns 0) (show (0:Int)<b by omega);have k:cw (.int (mix ns 0)) (.int b)=ag (.int (mix ns 0 % b)):=bE #[0];obtain⟨m,i⟩:∃ m:Nat,1+mix ns 0 % b=m:=⟨(1+mix ns 0 % b).toNat,#[1]⟩;obtain⟨ss,kvs,q,e,g,f⟩:=Al (mix ns 1) S;have s:cw (.int (mix ns 3)) (.int 5)=ag (.int (mix ns 3 % 5)):=bE #[2];have w:=tK (mix ns 3) (show (0:Int)<5 by decide);obtain⟨dp,c⟩:∃ dp:Nat,1+mix ns 3 % 5=dp:=⟨(1+mix ns 3 % 5).toNat,#[1]⟩;obtain⟨d,r,t,kw⟩:=xY ss e g f m #[0] #[0] (S++[.dict kvs]) 8 dp (mix ns 2) #[0] (xH _ _);obtain⟨o,l,po⟩:=AR (mix ns 4) (m:=m) #[0] (S++[.dict kvs]);have n:N4 [.int m,.tup (ss.map .str),d,oD o] (.tup [.int m,.tup (ss.map .str),d,oD o])=ag (.tup [.int m,.tup (ss.map .str),d,oD o]):=bY #[3];refine⟨m,ss,kvs,d,o,#[1],#[1],e,g,f,t.mono 5 #[0],kw,po,aA rfl ?_⟩;unfold vN;simp[h,x1,x2,p,j,k,i,q,s,c,r,l,n,-mx]
abbrev Pp (R:ak Row):D:=.tup (R.map au)
abbrev a_ (t:Tr):D:=Pp #[5]
abbrev Sh:=ak (a9 fg)
noncomputable def L3:a9 fg->D
 |ay => .LN
 |ag b => .int (if b=ba then 1 else 0)
abbrev LJ (sh:Sh):D:=.tup (sh.map L3)
theorem FQ {sh:Sh}{c:Nat}{x:a9 fg}(h:sh[c]?=ag x)(S:Lq):Mn (LJ sh) (.int c) S=ag (L3 x):=by unfold Mn;rw[dV (by simp[bO])];exact bB (by rw[hF,h];rfl)
theorem u3 {m k:Nat}(d:m<=10){sh:Sh}(e:sh.length=m)(f:k<m)(v:a9 fg)(S:Lq)(g:Lk Fl)
  (a:g=bg (aH bh (aH bh (Q_ Pj (af 0) ay (ag (af 1))) (lS (ah (af 2) aC))) (Q_ Pj (af 0) (ag (aH bh (af 1) (aE (.int 1)))) ay))) :
  a8 3 0 g [LJ sh,.int k,L3 v] S=LB (LJ (sh.set k v)) S:=by
 subst a;have b:Pj (LJ sh) ay (ag (k:Int))=ag (.tup ((sh.take k).map L3)):=by show ag (D.tup (jX (sh.map L3) ay (ag (k:Int))))=_;rw[ya,abO]
 have c:Pj (LJ sh) (ag ((k:Int)+1)) ay=ag (.tup ((sh.drop (k+1)).map L3)):=by show ag (D.tup (jX (sh.map L3) (ag (((k+1:Nat)):Int)) ay))=_;rw[yc,abP]
 have z1:N4 [L3 v] (.tup [L3 v])=ag (.tup [L3 v]):=bY #[3];have a1:bh (.tup ((sh.take k).map L3)) (.tup [L3 v])=ag (.tup ((sh.take k).map L3++[L3 v])):=by rw[g_,dm (hA (show _<=1000 by simp;omega) #[2])]
 have a2:bh (.tup ((sh.take k).map L3++[L3 v])) (.tup ((sh.drop (k+1)).map L3))=ag (LJ (sh.set k v)):=by rw[g_,dm (hA (show _<=1000 by simp;omega) #[2]),W4,dm #[0]];simp[LJ]
 rw[4];generalize LJ (sh.set k v)=r at *
 generalize (sh.take k).map L3=x1 at *
 generalize (sh.drop (k+1)).map L3=x2 at *
 generalize LJ sh=x3 at *
 generalize L3 v=x4 at *
 simp[b,c,z1,a1,a2,xS]
theorem B5 (x:Int){m:Nat}(n:m<=10)(S:Lq):∃ sh:Sh,m8 [.int x,.int m] S=LB (LJ sh) S/\sh.length=m:=by
 have b:eE [.int m]=ag ((gx m).map λ(k:Nat)=>D.int k):=by have:=xm m #[0] #[0];simpa using this
 let f:Int->a9 fg:=λk=>if MR x k % 4=1 then ag b0 else if MR x k % 4=2 then ag ba else ay
 have q:=dQ (u:=aB 0) (fe:=gq) (λa => ∃ y,a=[y,ag (.int x)]) (λd=>match d with | .int k=>L3 (f k) |_ => .LN) S ((gx m).map λ(k:Nat)=>D.int k) (cg 1 [0] [ag (.int x),ag (.int m)]) ⟨ay,rfl⟩ (by
  rintro d hd a ⟨y,rfl⟩;obtain⟨k,_,rfl⟩:=vl.mp hd;refine⟨_,rfl,⟨_,rfl⟩,?_⟩;have g:=jm x k S;have i:cw (.int (MR x k)) (.int 4)=ag (.int (MR x k % 4)):=bE #[2]
  have c:Mn (D.tup [D.LN,(D.int 0),(D.int 1),D.LN]) (.int (MR x k % 4)) S=ag (L3 (f k)):=by
   have j:=Jy (MR x k) (show (4:Int)≠0 by decide);have l:=K1 (MR x k) (show (0:Int)<4 by decide);show Mn _ _ _=ag (L3 (if MR x k % 4=1 then ag b0 else if MR x k % 4=2 then ag ba else ay));have:MR x k % 4=0∨MR x k % 4=1∨MR x k % 4=2∨MR x k % 4=3:=#[1]
   rcases this with h |h |h |h<;>rw[h]<;>rfl
  show gq [ag (.int k),ag (.int x)] S=LB (L3 (f k)) S;generalize f k=fk at *
  unfold gq
  simp[g,i,c])
 rw[mx] at q;refine⟨(gx m).map λ(k:Nat)=>f k,aA rfl ?_,by rw[d7,p0]⟩;have e:LJ ((gx m).map λ(k:Nat)=>f k) = .tup ((gx m).map ((λd=>match d with |D.int k=>L3 (f k) |_ => .LN) ∘ λ(k:Nat)=>D.int k)):=by rw[LJ,mx];rfl
 rw[e];generalize (gx m).map ((λd=>match d with |D.int k=>L3 (f k) |_ => .LN) ∘ λ(k:Nat)=>D.int k)=r at *
 unfold rT;simp[b,q,iU]
def Vz (ss:ak eG):Prop:=(∀ x∈ss,eI x=ba)/\Tv ss=ba
theorem vK (x:eG):∀ l:ak eG,((l.map aaL).any λq=>iv q (.str x))=dv (x∈l)
 |[]=>by simp
 |a::l=>by
  rw[hH,Rm,vK x l];by_cases h:a=x
  ·simp[iv,h]
  have b:¬ x=a:=λe=>h e.symm;simp[iv,h,b]
theorem lK (neg:fg)(x:eG)(l:ak eG)(S:Lq):Rf neg (.str x) (.tup (l.map .str)) S=ag (.bl (neg != dv (x∈l))):=by
 have e:xW (.str x) (.tup (l.map .str))=ag (dv (x∈l)):=by unfold xW;simp only[toPy,xj,m4,hZ];rw[dm (by simp[wt]),vK]
 unfold Rf;rw[dV (by simp[bO])];cases neg<;>simp[inD,tI,e]
theorem BK (xs:ak D):iU [.lst xs]=ag (.tup xs):=rfl
theorem ET {a b:ak eG}(h:Vz a)(s:b.Sublist a):Vz b:=⟨λx c=>h.1 x (s.subset c),fw ((fD h.2).sublist s)⟩
theorem AV {a:ak eG}(h:Vz a):a.Nodup:=(fD h.2).imp λ{x y} q e=>by subst e;rw[pF] at q;cases q
theorem Au (ss:ak eG)(h:ss.length<=60):e_ (ss.map D.str)=ag ((j3 ss).map D.str):=by unfold e_;rw[dm (by rw[d7];first |exact hA h #[2] |omega),jA]
theorem rG:∀ cs:ak eG,j_ (cs.map D.str)=ag (cs.map λc=>(W6 c:Key))
 |[]=>rfl
 |c::cs=>by rw[hH,j_,rG cs];rfl
theorem vJ:∀ (l b:ak eG),(l.map λc=>(W6 c:Key)).foldl dM (b.map W6)=(l.foldl dM b).map W6
 |[],b=>rfl
 |a::l,b=>by
  rw[hH,UU,UU,← vJ l (dM b a)];congr 1;unfold dM;by_cases h:a∈b
  ·rw[dm h,dm (vl.mpr ⟨a,h,rfl⟩)]
  rw[dV h,dV (λq=>by obtain⟨x,d,e⟩:=vl.mp q;cases e;exact h d),Q5];rfl
theorem G1 {m k:Nat}{d:D}(h:KQ m k d):∀ {b:Th}{ss:ak eG},Kv b d ss->ss.length<=6:=by
 induction h with
 | @leaf k f _ _ i=>intro b ss a;rw[tQ a];exact i
 | @ask k c x y _ _ _ g e =>
  intro b ss a;cases a with
  |no _ a=>exact g a
  |yes _ a=>exact e a
theorem zN (t:Tr) : 0<#[5].length:=by unfold enc;rw[d7];exact U1 (EF t [])
abbrev LO (ns:ak Nat):ak D:=ns.map λ(k:Nat)=>D.int k
noncomputable def fq (sh:Sh):Row->ak Nat
 | .leaf _=>[]
 | .ask c n y=>match sh[c]? with
  |ag (ag b)=>[if b=ba then y else n]
  |_=>[n,y]
theorem D5 {o:ak Nat}{R:ak Row}(w:Wr o R){sh:Sh}(m:∀ c∈o,c<sh.length){i:Nat}{r:Row}(hr:R[i]?=ag r)(S:Lq):m5 [au r,LJ sh] S=LB (.tup (LO (fq sh r))) S:=by
 have ri:=w _ _ hr;have e:=iF r S;have f:=wn r S;have g:RH .LN .LN=ag (.bl ba):=rfl;rw[4];unfold rR;cases r with
 |leaf l =>
  have a:LO (fq sh (.leaf l))=[]:=rfl;rw[a];simp[e,f,g]
 |ask c n y =>
  have hc:=m c ri.1;have es:sh[c]?=ag sh[c]:=bc hc;have d:=FQ es S;have h:Mn (au (.ask c n y)) (.int 0) S=ag (.int c):=Sl _ _ S;have j:Mn (au (.ask c n y)) (.int 1) S=ag (.int n):=Tw _ _ _ S;have p:Mn (au (.ask c n y)) (.int 2) S=ag (.int y):=at2 _ _ _ _ S;have q:∀ z:Int,RH (.int z) .LN=ag (.bl b0):=λ_=>rfl;cases hv:sh[c] with
  |none =>
   rw[hv] at d es;have a:fq sh (.ask c n y)=[n,y]:=by simp only[fq,es]
   rw[a];simp[e,f,h,d,L3,g,LO]
  |some b =>
   rw[hv] at d es;have a:fq sh (.ask c n y)=[if b=ba then y else n]:=by simp only[fq,es]
   rw[a];have z1:∀ k:Nat,N4 [D.int k] (.tup [.int k])=ag (.tup [.int k]):=λ_=>bY #[3];cases b<;>simp[e,h,j,p,d,L3,q,z1,LO]
noncomputable def cF (sh:Sh):Nat:=(sh.filter Option.isNone).length
noncomputable def sM:D->fg
 | .tup [_,x]=>mL x
 |_=>b0
noncomputable def D7:D->D
 | .tup [k,_]=>k
 |_ => .LN
theorem yB:∀ (sh:Sh) (k:Nat),((bi k (sh.map L3)).filter sM).length=cF sh
 |[],k=>rfl
 |v::sh,k=>by
  have a:=yB sh (k+1);unfold cF at a ⊢;rw[hH,bi,Ue,Ue];cases v with
  |none=>rw[dm (show sM (D.tup [D.int k,L3 ay])=ba from rfl),dm (show (ay:a9 fg).isNone=ba from rfl),j2,j2,a]
  |some b=>rw[dV (by simp[sM,L3,mL]),dV #[3],a]
theorem wS (sh:Sh)(S:Lq):∃ ds:ak D,dD [LJ sh] S=LB (.lst ds) S/\ds.length=cF sh:=by
 have q:=fV (u:=ft 2 (aK (aB 0) (aK (aB 1) ca))) (gt:=fH) (fe:=fU) (λc => ∃ x y,c=[x,y]) sM D7 S (bi 0 (sh.map L3)) (cg 2 [] [ag (LJ sh)]) ⟨ay,ay,rfl⟩ (by
  rintro d hd c ⟨x,y,rfl⟩;obtain⟨i,f⟩:=QV hd;rw[cZ] at f;obtain⟨v,a,rfl⟩:=en.mp f;rw[hF] at a;obtain⟨b,_,rfl⟩:=en.mp a;refine⟨_,rfl,⟨_,_,rfl⟩,?_,λ_=>rfl⟩;cases b with
  |none=>rfl
  |some b=>rfl)
 refine⟨((bi 0 (sh.map L3)).filter sM).map D7,aA rfl ?_,by rw[d7,yB]⟩;have e:ki [LJ sh]=ag (bi 0 (sh.map L3)):=rfl;generalize bi 0 (sh.map L3)=l at *
 generalize LJ sh=sd at *
 unfold ir;simp[e,q]
theorem ww (sh:Sh)(S:Lq):dE [LJ sh] S=LB (.int ((2 ^ cF sh:Nat):Int)) S:=by
 obtain⟨f,q,l⟩:=wS sh S
 obtain⟨o,c,h,x,rfl,rfl⟩:=bF (u:=aB 2) (body:=fm) (λi g c => ∃ x,g=[ag (LJ sh),ag (.int ((2 ^ i:Nat):Int)),x]/\c=S) f 0 [ag (LJ sh),ag (.int 1),ay] S ⟨ay,rfl,rfl⟩ (by
  rintro j d g c hd ⟨x,rfl,rfl⟩;refine⟨_,rfl,[ag (LJ sh),ag (.int ((2 ^ (0+j+1):Nat):Int)),ag d],_,?_,_,rfl,rfl⟩
  have e:y4 (.int ((2 ^ (0+j):Nat):Int)) (.int 2)=ag (.int ((2 ^ (0+j+1):Nat):Int)):=by
   have k:gU ((2 ^ (0+j):Nat):Int) 2=ba:=by generalize ((2 ^ (0+j):Nat):Int)=a;unfold gU;rw[show (dv (-(2 ^ 64)<(2:Int))&&dv ((2:Int)<2 ^ 64))=ba by decide,Bool.or_true]
   have n:((2 ^ (0+j):Nat):Int)*2=((2 ^ (0+j+1):Nat):Int):=by rw[UE];exact(adD _ _).symm
   rw[← n];generalize ((2 ^ (0+j):Nat):Int)=a at *
   show (if gU a 2=ba then _ else _)=_;rw[dm k]
  generalize ((2 ^ (0+j):Nat):Int)=a at *
  generalize ((2 ^ (0+j+1):Nat):Int)=b at *
  show wf 1 (aE (.int 2)) [ag (LJ sh),ag (.int a),ag d] c=_;unfold wf
  simp -implicitDefEqProofs [e])
 rw[mi,l] at h;have m:ck (.lst f)=ag f:=rfl;rw[4];generalize ((2 ^ cF sh:Nat):Int)=b at *
 generalize LJ sh=sd at *
 unfold gm;simp -implicitDefEqProofs [q,m,h]
inductive Rc (R:ak Row) (sh:Sh):Nat->Prop
 |top:Rc R sh (R.length-1)
 |go {i b:Nat}{r:Row}:Rc R sh i->R[i]?=ag r->b∈fq sh r->Rc R sh b
section
variable {o:ak Nat}{R:ak Row}{sh:Sh}
theorem D4 (w:Wr o R){i b:Nat}{r:Row}(hr:R[i]?=ag r)(hb:b∈fq sh r):b<i/\∃ c n y,r = .ask c n y/\c∈o/\LI.pl o R i=#[12]/\#[12]<LI.pl o R b:=by
 have ri:=w _ _ hr;cases r with
 |leaf g=>simp[fq] at hb
 |ask c n y =>
  obtain⟨a1,a2,e,d,f,_⟩:=ri;have a:LI.pl o R i=#[12]:=by unfold LI.pl;rw[hr]
  have:b=n∨b=y:=by
   have hb:b∈(match sh[c]? with |ag (ag b)=>[if b=ba then y else n] |_=>[n,y]):=hb;split at hb
   ·rename_i v _;have:=hM.mp hb;cases v with
    |true=>exact .inr this
    |false=>exact .inl this
   simpa using hb
  rcases this with rfl |rfl
  ·exact⟨a2,c,_,_,rfl,a1,a,d⟩
  exact⟨e,c,_,_,rfl,a1,a,f⟩
theorem BH (r:Row):(fq sh r).length<=2:=by
 cases r with
 |leaf _=>simp[fq]
 |ask c n y =>
  show (match sh[c]? with |ag (ag b)=>[if b=ba then y else n] |_=>[n,y]).length<=2;split<;>simp
end
theorem g7 (l:ak Nat){b:Nat}(v:Nat)(hb:b<l.length)(k:Nat):(l.set b v).getD k 0=if k=b then v else l.getD k 0:=by
 rw[QJ,aak];by_cases h:k=b
 ·subst h;rw[dm rfl,dm hb,dm rfl];rfl
 rw[dV (λe=>h e.symm),dV h];rfl
theorem tF {cs:ak Nat}{S:Lq}{b:Nat}(hb:b<cs.length):lJ (#[11]) (.int b) (S++[.lst (LO cs)])=ag (.int ((cs.getD b 0:Nat):Int)):=by
 show ((cR (#[11]) (S++[.lst (LO cs)])).bind λa=>Ou a (b:Int))=_;have:cR (#[11]) (S++[.lst (LO cs)])=ag (LO cs):=by unfold cR;simp
 rw[this,m4];refine bB ?_;rw[hF,bc hb,QJ,bc hb];rfl
theorem EX (cs:ak Nat)(b v:Nat):(LO cs).set b (.int (v:Nat))=LO (cs.set b v):=(List.map_set ..).symm
theorem xr {cs:ak Nat}{S:Lq}{b:Nat}(hb:b<cs.length){i:Int}(a:QO cs.length i=ag b)(v:Nat)(ρ:Lr):j9 (#[11]) (.int i) (.int (v:Nat)) ρ (S++[.lst (LO cs)])=LB (.next ρ) (S++[.lst (LO (cs.set b v))]):=by
 unfold j9;have g:(S++[MO.lst (LO cs)])[S.length]?=ag (.lst (LO cs)):=by simp
 simp only[g,d7,a,EX];congr 2;rw[X0 _ _ (hB _),aeh];rfl
theorem zx {n b:Nat}(h:b<n):QO n (b:Int)=ag b:=by unfold QO;rw[dm #[0],dm #[0]];simp
theorem IR {i:Nat}{ws cs:ak Nat}(J:i<cs.length)(G:∀ b∈ws,b<i)(I:ws.length<=2)(S:Lq)(m sd t:a9 D) :
  ∃ c x,fj (aB 5) bK (LO ws) [m,sd,ag (#[11]),ag (.int i),ag (.tup (LO ws)),t] (S++[.lst (LO cs)])=LB (.next [m,sd,ag (#[11]),ag (.int i),ag (.tup (LO ws)),x]) (S++[.lst (LO c)]) /\
   c.length=cs.length/\(∀ b,cs.getD b 0<=c.getD b 0)/\(∀ b,0<c.getD b 0->0<cs.getD b 0∨b∈ws/\0<cs.getD i 0)/\∀ b∈ws,cs.getD i 0 / ws.length<=c.getD b 0:=by
 obtain⟨C,y,F,c,x,rfl,rfl,w,p,o,n,_⟩:=bF (u:=aB 5) (body:=bK)
  (λj g y => ∃ c x,g=[m,sd,ag (#[11]),ag (.int i),ag (.tup (LO ws)),x]/\y=S++[.lst (LO c)]/\c.length=cs.length/\(∀ b,cs.getD b 0<=c.getD b 0)/\(∀ b,0<c.getD b 0->0<cs.getD b 0∨b∈ws/\0<cs.getD i 0)/\(∀ b∈ws.take j,cs.getD i 0 / ws.length<=c.getD b 0)/\c.getD i 0=cs.getD i 0)
  (LO ws) 0 [m,sd,ag (#[11]),ag (.int i),ag (.tup (LO ws)),t] (S++[.lst (LO cs)]) ⟨cs,t,rfl,rfl,rfl,λ_=>hB _,λ_ h => .inl h,λb h=>by simp at h,rfl⟩ (by
   rintro j d g y hd ⟨c,x,rfl,rfl,w,p,o,n,v⟩;rw[mi] at n ⊢;rw[hF] at hd;obtain⟨b,hb,rfl⟩:=en.mp hd;have r:b∈ws:=y3 hb;have H:=G b r;have f:b<c.length:=#[1]
   have E:=tF (S:=S) f;have li:=tF (S:=S) (show i<c.length by omega);have K : 0<ws.length:=U1 r;have ld:eV [.tup (LO ws)]=ag (.int ws.length):=by unfold eV;simp
   have fd:dH (.int ((c.getD i 0:Nat):Int)) (.int ws.length)=ag (.int ((c.getD i 0 / ws.length:Nat):Int)):=by show (if 0<(ws.length:Int)/\(ws.length:Int)<1073741824 then _ else _)=_;rw[dm #[0]];rfl
   have ad:wz (.int ((c.getD b 0:Nat):Int)) (.int ((c.getD i 0 / ws.length:Nat):Int))=ag (.int ((c.getD b 0+c.getD i 0 / ws.length:Nat):Int)):=rfl;have B:=xr (S:=S) f (zx f) (c.getD b 0+c.getD i 0 / ws.length) [m,sd,ag (#[11]),ag (.int i),ag (.tup (LO ws)),ag (.int b)];refine⟨[m,sd,ag (#[11]),ag (.int i),ag (.tup (LO ws)),ag (.int b)],rfl,_,_,?_,c.set b (c.getD b 0+c.getD i 0 / ws.length),ag (.int b),rfl,rfl,by rw[J7];exact w,λk=>?_,λk l=>?_,λk l=>?_,?_⟩
   ·generalize S++[MO.lst (LO (c.set b (c.getD b 0+c.getD i 0 / ws.length)))]=s at *
    generalize S++[MO.lst (LO c)]=z at *
    generalize ((c.getD b 0+c.getD i 0 / ws.length:Nat):Int)=z1 at *
    generalize ((c.getD i 0 / ws.length:Nat):Int)=z2 at *
    generalize ((c.getD i 0:Nat):Int)=z3 at *
    generalize ((c.getD b 0:Nat):Int)=z4 at *
    generalize D.tup (LO ws)=wd at *
    show qg (af 2) (af 5) (aH dH (uq (af 2) (af 3)) (bA eV (ah (af 4) aC))) _ _=_;have zR:∀ (a b:Lk D) g S,uq a b g S=ai (a g S) λx z=>ai (b g z) λi s=>aL (lJ x i s) s:=λ_ _ _ _=>rfl;unfold qg;simp[E,li,ld,fd,ad,B,zR]
   ·rw[g7 _ _ f];split
    ·rename_i e;subst e;exact hA (p k) (aaK _ _)
    exact p k
   ·rw[g7 _ _ f] at l;split at l
    ·rename_i e;subst e;by_cases A : 0<c.getD k 0
     ·exact o k A
     refine .inr ⟨r,?_⟩;rw[← v];have : 0<c.getD i 0 / ws.length:=#[1]
     exact acG λe=>by rw[e,Nat.zero_div] at this;omega
    exact o k l
   ·rw[g7 _ _ f];rw[aam,hb] at l;split
    ·rw[v];omega
    rename_i ne;rcases lk.mp l with q |q
    ·exact n k q
    exact ku (by simpa using q) ne
   rw[g7 _ _ f,dV #[0]];exact v)
 rw[mi,d7,YP] at n;exact⟨c,x,F,w,p,o,n⟩
abbrev M8 (ss:ak eG):D:=.tup (ss.map .str)
theorem tW (n:Nat):∀ cs:ak Nat,n9 n (LO cs)=ba
 |[]=>rfl
 |c::cs=>by
  show (Ol n (.int c)&&n9 n (LO cs))=ba;rw[tW n cs];rfl
theorem forget_eq {f:Lk D}{ρ:Lr}{S:Lq}{xs:ak D}(h:f ρ S=LB (#[11]) (S++[.lst xs]))(a:n9 S.length xs=ba)(b:xs.length<=d4):jQ f ρ S=LB (.lst xs) S:=by
 unfold jQ;rw[h];have g:(S++[MO.lst xs])[S.length]?=ag (.lst xs):=by simp
 simp only[LB,g];exact dm ⟨hB _,by simp,a,b⟩
theorem str_inj:∀ {a b:ak eG},a.map D.str=b.map D.str->a=b
 |[],[],_=>rfl
 |[],_::_,h=>by simp at h
 |_::_,[],h=>by simp at h
 |x::a,y::b,h=>by
  rw[hH,hH,OH,D.str.injEq] at h;rw[h.1,str_inj h.2]
def MS (sh:Sh)(a:Th):Prop:=∀ c b,sh[c]?=ag (ag b)->a c=b
section
variable {o:ak Nat}{R:ak Row}{sh:Sh}
theorem Ev.congr (w:Wr o R){d b:Th}(f:∀ c∈o,d c=b c){i:Nat}{ss:ak eG}(e:Ev R d i ss):Ev R b i ss:=by
 induction e with
 |leaf h=>exact .leaf h
 |no h t _ a=>exact .no h (by rw[← f _ (w _ _ h).1];exact t) a
 |yes h t _ a=>exact .yes h (by rw[← f _ (w _ _ h).1];exact t) a
end
theorem xx:∀ (t:Tr) (a:ak Tr),(po t a).length<=a.length+Q0 t
 | .leaf e,a=>by
  unfold po;split
  ·omega
  simp[Q0]
 | .node c n y,a=>by
  rw[po];split
  ·omega
  have b:=xx n a;have d:=xx y (po n a);rw[da];simp only[Q0,j2,aaT];omega
theorem pp {o:ak Nat}:∀ (t:Tr) (k:Nat),Ord o t->o.length<=tp o t+k->Q0 t+1<=2 ^ (k+1)
 | .leaf _,k,_,_=>by
  have : 2 ^ 1<=2 ^ (k+1):=VY #[2] #[0];simpa [Q0] using this
 | .node c n y,k,h,a=>by
  obtain⟨hc,d,b,e,f,_⟩:=h;have a:o.length<=#[12]+k:=a;have:=m3.mpr hc;obtain⟨k,rfl⟩:∃ j,k=j+1:=⟨k-1,#[1]⟩;have a1:=pp n k d #[0];have a2:=pp y k b #[0];rw[UE];simp only[Q0];omega
theorem Dw {o:ak Nat}{t:Tr}(h:Ord o t)(b:o.length<=10):#[5].length<=2047:=by have a:=xx t [];have c:=pp t 10 h #[0];unfold enc;rw[d7];rw[aaT] at a;have : 2 ^ (10+1)=2048:=rfl;omega
noncomputable def f7 (k:Nat):Sh->ak Nat
 |[]=>[]
 |ay::r=>k::f7 (k+1) r
 |ag _::r=>f7 (k+1) r
theorem uJ:∀ (sh:Sh) (k:Nat),((bi k (sh.map L3)).filter sM).map D7=(f7 k sh).map λ(c:Nat)=>D.int c
 |[],k=>rfl
 |v::sh,k=>by
  have a:=uJ sh (k+1);rw[hH,bi,Ue];cases v with
  |none=>rw[dm (show sM (D.tup [D.int k,L3 ay])=ba from rfl),hH,a];rfl
  |some b=>rw[dV (by simp[sM,L3,mL]),a];rfl
theorem yA:∀ {sh:Sh}{k c:Nat},c∈f7 k sh↔k<=c/\sh[c-k]?=ag ay
 |[],k,c=>by simp[f7]
 |ay::sh,k,c=>by
  rw[f7,f5,yA];rw[3]
  ·rintro (rfl |⟨d,a⟩)
   ·exact⟨hB _,by simp⟩
   exact⟨#[1],by rw[show c-k=(c-(k+1))+1 by omega,vr];exact a⟩
  rintro⟨d,a⟩;by_cases e:c=k
  ·exact .inl e
  exact .inr ⟨#[1],by rw[show c-k=(c-(k+1))+1 by omega,vr] at a;exact a⟩
 |ag b::sh,k,c=>by
  rw[f7,yA];rw[3]
  ·rintro⟨d,a⟩;exact⟨#[1],by rw[show c-k=(c-(k+1))+1 by omega,vr];exact a⟩
  rintro⟨d,a⟩;have e:¬ c=k:=λe=>by subst e;simp at a
  exact⟨#[1],by rw[show c-k=(c-(k+1))+1 by omega,vr] at a;exact a⟩
theorem wR (sh:Sh)(S:Lq):dD [LJ sh] S=LB (.lst ((f7 0 sh).map λ(c:Nat)=>D.int c)) S:=by
 have q:=fV (u:=ft 2 (aK (aB 0) (aK (aB 1) ca))) (gt:=fH) (fe:=fU) (λf => ∃ x y,f=[x,y]) sM D7 S (bi 0 (sh.map L3)) (cg 2 [] [ag (LJ sh)]) ⟨ay,ay,rfl⟩ (by
  rintro d hd f ⟨x,y,rfl⟩;obtain⟨i,g⟩:=QV hd;rw[cZ] at g;obtain⟨v,a,rfl⟩:=en.mp g;rw[hF] at a;obtain⟨b,_,rfl⟩:=en.mp a;refine⟨_,rfl,⟨_,_,rfl⟩,?_,λ_=>rfl⟩;cases b with
  |none=>rfl
  |some b=>rfl)
 rw[uJ] at q;rw[4];have e:ki [LJ sh]=ag (bi 0 (sh.map L3)):=rfl;generalize (f7 0 sh).map (λ(c:Nat)=>D.int c)=out at *
 generalize bi 0 (sh.map L3)=l at *
 generalize LJ sh=sd at *
 unfold ir;simp[e,q]
noncomputable def Xh (x:eG):Row->fg
 | .leaf a=>dv (x∈a)
 |_=>b0
noncomputable def Ql (x:eG):Nat->ak Row->ak Nat
 |_,[]=>[]
 |k,r::R=>if Xh x r=ba then k::Ql x (k+1) R else Ql x (k+1) R
theorem PQ {x:eG}:∀ {R:ak Row}{k i:Nat},i∈Ql x k R↔k<=i/\∃ r,R[i-k]?=ag r/\Xh x r=ba
 |[],k,i=>by simp[Ql]
 |r::R,k,i=>by
  have b:=PQ (x:=x) (R:=R) (k:=k+1) (i:=i)
  have key:(k+1<=i/\∃ a,R[i-(k+1)]?=ag a/\Xh x a=ba)↔(k<i/\∃ a,(r::R)[i-k]?=ag a/\Xh x a=ba):=by
   rw[3]
   ·rintro⟨h,a,e,q⟩;refine⟨h,a,?_,q⟩;rw[show i-k=(i-(k+1))+1 by omega,vr];exact e
   rintro⟨h,a,e,q⟩;refine⟨h,a,?_,q⟩;rw[show i-k=(i-(k+1))+1 by omega,vr] at e;exact e
  unfold Ql;split
  ·rename_i hr;rw[f5,b,key];rw[3]
   ·rintro (rfl |⟨h,q⟩)
    ·exact⟨hB _,r,by simp,hr⟩
    exact⟨#[1],q⟩
   rintro⟨h,q⟩;by_cases e:i=k
   ·exact .inl e
   exact .inr ⟨#[1],q⟩
  rename_i hr;rw[b,key];rw[3]
  ·rintro⟨h,q⟩;exact⟨#[1],q⟩
  rintro⟨h,a,e,q⟩;by_cases c:i=k
  ·subst c;rw[aeh] at e;cases e;exact ku q hr
  exact⟨#[1],a,e,q⟩
theorem Fa {x:eG}:∀ {R:ak Row}{k i:Nat},i∈Ql x k R->k<=i:=λh=>(PQ.mp h).1
theorem jH {x:eG}:∀ {R:ak Row}{k:Nat},(Ql x k R).Nodup
 |[],k=>XX
 |r::R,k=>by
  unfold Ql;split
  ·rw[Ui];exact⟨λh=>ku (Fa h) #[0],jH⟩
  exact jH
noncomputable def hsN (x:eG):D->fg
 | .tup a=>a.any λd=>match d with
  | .str y=>dv (y=x)
  |_=>b0
 |_=>b0
theorem G_ (x:eG)(ss:ak eG):hsN x (M8 ss)=dv (x∈ss):=by
 show (ss.map D.str).any _=_;rw[any_map]
 induction ss with
 |nil=>rfl
 |cons a l c =>
  rw[Rm,c];by_cases e:a=x
  ·subst e;simp
  have b:¬ x=a:=λz=>e z.symm;simp[e,b]
noncomputable def ZO (x:eG):D->fg
 | .tup [_,.tup [_,nm]]=>hsN x nm
 |_=>b0
noncomputable def lwF:D->D
 | .tup [i,_]=>i
 |_ => .LN
theorem y7 (x:eG)(i:D)(r:Row):ZO x (.tup [i,au r])=Xh x r:=by
 cases r with
 |leaf a=>exact G_ x a
 |ask c n y=>rfl
theorem tM (x:eG):∀ (R:ak Row) (k:Nat),((bi k (R.map au)).filter (ZO x)).map lwF=LO (Ql x k R)
 |[],k=>rfl
 |r::R,k=>by
  rw[hH,bi,Ue,y7];unfold Ql;split
  ·rw[hH,tM x R (k+1)];rfl
  exact tM x R (k+1)
theorem jg (R:ak Row)(x:eG)(S:Lq):b_ [Pp R,.str x] S=LB (.lst (LO (Ql x 0 R))) S:=by
 have q:=fV (u:=ft 2 (aK (aB 0) (aK (aB 1) ca))) (gt:=cJ) (fe:=iO) (λk => ∃ a b,k=[a,b,ag (.str x)]) (ZO x) lwF S (bi 0 (R.map au)) (cg 2 [1] [ag (Pp R),ag (.str x)]) ⟨ay,ay,rfl⟩ (by
  rintro d hd k ⟨a,b,rfl⟩;obtain⟨i,m⟩:=QV hd;rw[cZ] at m;obtain⟨v,j,rfl⟩:=en.mp m;rw[hF] at j;obtain⟨r,_,rfl⟩:=en.mp j;refine⟨[ag (.int ((0+i:Nat):Int)),ag (au r),ag (.str x)],rfl,⟨_,_,rfl⟩,?_,λ_=>rfl⟩;have g:=iF r S;rw[y7];cases r with
  |ask c n y =>
   have g:eZ [au (.ask c n y)] S=LB (.bl ba) S:=g;show _=LB b0 S;generalize au (.ask c n y)=rd at *
   generalize D.int ((0+i:Nat):Int)=id at *
   unfold cJ;simp[g]
  |leaf f =>
   have g:eZ [au (.leaf f)] S=LB (.bl b0) S:=g;have o:Mn (au (.leaf f)) (.int 1) S=ag (M8 f):=Tw _ _ _ S;have h:=lK b0 x f S;have h:Rf b0 (.str x) (M8 f) S=ag (.bl (dv (x∈f))):=by rw[h];simp
   show _=LB (dv (x∈f)) S;generalize dv (x∈f)=bb at *
   generalize au (.leaf f)=rd at *
   generalize M8 f=nd at *
   generalize D.int ((0+i:Nat):Int)=id at *
   generalize D.str x=xd at *
   unfold cJ
   simp[g,o,h])
 rw[tM] at q;rw[4];have e:ki [Pp R]=ag (bi 0 (R.map au)):=rfl;show gI [ag (Pp R),ag (.str x)] S=_;generalize LO (Ql x 0 R)=out at *
 generalize bi 0 (R.map au)=l at *
 generalize Pp R=sd at *
 unfold gI;simp[e,q]
theorem zF {α:Type}[PR α]:∀ {l P:ak α},l.Nodup->(∀ x∈l,x∈P)->l.length<=P.length
 |[],P,_,_=>Tp _
 |a::l,P,nd,h=>by
  obtain⟨d,e⟩:=Ui.mp nd;have c:=h a (gy ..);have f:=zF (P:=P.erase a) e λx b=>(List.mem_erase_of_ne (by rintro rfl;exact d b)).mpr (h x (eJ _ b));rw[List.length_erase_of_mem c] at f;have:=U1 c;rw[j2];omega
theorem Gf {o:ak Nat}{s t:Tr}(q:Sub s t):Ord o t->∀ a,∃ b,Md t b=Md s a:=by
 induction q with
 |refl=>exact λ_ a=>⟨a,rfl⟩
 | @no c n y _ d =>
  intro h a;have g:Ord o n:=h.2.1;obtain⟨b,e⟩:=d g a;exact⟨upd b c b0,by rw[Gd h];exact e⟩
 | @yes c n y _ d =>
  intro h a;have f:Ord o y:=h.2.2.1;obtain⟨b,e⟩:=d f a;exact⟨upd b c ba,by rw[D9 h];exact e⟩
theorem pS {P:ak Tr}{i:Nat}{ss:ak eG}(h:(enc P)[i]?=ag (.leaf ss)):P[i]?=ag (.leaf ss):=by
 unfold enc at h;rw[hF] at h;obtain⟨s,a,e⟩:=en.mp h;cases s with
 |leaf b=>cases e;exact a
 |node c n y=>cases e
theorem zn {o:ak Nat}{t:Tr}(h:Ord o t){i:Nat}{ss:ak eG}(a:#[5][i]?=ag (.leaf ss)):∃ c,Md t c=ss:=by
 have b:=y3 (pS a);rcases lA t [] _ b with z |z
 ·cases z
 exact Gf z h λ_=>b0
theorem vC {t:Tr}{i j:Nat}{ss:ak eG}(c:#[5][i]?=ag (.leaf ss))(d:#[5][j]?=ag (.leaf ss)):i=j:=by have a:=pS c;have b:=pS d;exact(aa3 (b5.mp a).1 (pf t XX)).mp (a.trans b.symm)
theorem Fi {m k:Nat}{d:D}(h:KQ m k d):∃ K:ak (ak eG),K.length<=2 ^ k/\∀ b ss,Kv b d ss->ss∈K:=by
 induction h with
 | @leaf k ss _ _ _=>exact⟨[ss],UD,λb p a=>by rw[tQ a];simp⟩
 | @ask k c x y _ _ _ g e =>
  obtain⟨f,o,i⟩:=g;obtain⟨l,n,j⟩:=e;refine⟨f++l,by rw[da,UE];omega,λb ss a=>?_⟩;cases a with
  |no _ a=>exact U5 _ (i _ _ a)
  |yes _ a=>exact mv _ (j _ _ a)
section
variable {o:ak Nat}{R:ak Row}{sh:Sh}{th Ry:Th}
noncomputable def PZ (R:ak Row)(th:Th)(i:Nat):a9 Nat:=match R[i]? with
 |ag (.ask c n y)=>ag (if th c=ba then y else n)
 |_=>ay
noncomputable def NU (R:ak Row)(th:Th):Nat->a9 Nat
 | 0=>ag (R.length-1)
 |n+1=>(NU R th n).bind (PZ R th)
def Cm (R:ak Row)(th:Th)(i:Nat):Prop:=∃ n,NU R th n=ag i
theorem jG {i c n y:Nat}(h:R[i]?=ag (.ask c n y)):PZ R th i=ag (if th c=ba then y else n):=by unfold PZ;rw[h]
theorem vc {i:Nat}{ss:ak eG}(h:R[i]?=ag (.leaf ss)):PZ R th i=ay:=by unfold PZ;rw[h]
theorem pA (w:Wr o R){i b:Nat}(h:PZ R th i=ag b):b<i/\LI.pl o R i<LI.pl o R b/\∃ c n y,R[i]?=ag (.ask c n y)/\LI.pl o R i=#[12]/\c∈o:=by
 unfold PZ at h;split at h
 ·rename_i c n y hr;cases h;obtain⟨a1,a2,a,e,d,_⟩:=w _ _ hr;have f:LI.pl o R i=#[12]:=by unfold LI.pl;rw[hr]
  rw[f];split
  ·exact⟨a,d,c,n,y,hr,rfl,a1⟩
  exact⟨a2,e,c,n,y,hr,rfl,a1⟩
 cases h
theorem xt (w:Wr o R){a i j:Nat}(d:Nat)(e:NU R th a=ag i)(hb:NU R th (a+d+1)=ag j):j<i:=by
 induction d generalizing j with
 |zero =>
  obtain⟨k,b,c⟩:=hD.mp (show (NU R th a).bind (PZ R th)=ag j from hb);rw[e] at b;cases b;exact(pA w c).1
 |succ d f =>
  obtain⟨k,b,c⟩:=hD.mp (show (NU R th (a+d+1)).bind (PZ R th)=ag j from hb);exact V3 (pA w c).1 (f b)
theorem Ew (w:Wr o R){a b i:Nat}(c:NU R th a=ag i)(hb:NU R th b=ag i):a=b:=by
 rcases WA a b with h |h |h
 ·obtain⟨d,rfl⟩:∃ d,b=a+d+1:=⟨b-a-1,#[1]⟩;exact ku (xt w d c hb) (qb _)
 ·exact h
 obtain⟨d,rfl⟩:∃ d,a=b+d+1:=⟨a-b-1,#[1]⟩;exact ku (xt w d hb c) (qb _)
def Ent (R:ak Row)(th:Th)(j b:Nat):Prop:=∃ n,NU R th n=ag j/\PZ R th j=ag b
theorem Hd {j b:Nat}(h:Ent R th j b):Cm R th b:=by obtain⟨n,a,c⟩:=h;exact⟨n+1,by show (NU R th n).bind (PZ R th)=ag b;rw[a];exact c⟩
theorem Du (w:Wr o R){j k b:Nat}(h:Ent R th j b)(g:Ent R th k b):j=k:=by
 obtain⟨n,c,i⟩:=h;obtain⟨m,a,d⟩:=g;have e:NU R th (n+1)=ag b:=by show (NU R th n).bind (PZ R th)=ag b;rw[c];exact i
 have f:NU R th (m+1)=ag b:=by show (NU R th m).bind (PZ R th)=ag b;rw[a];exact d
 have:=Ew w e f;have:n=m:=#[1]
 subst this;rw[c] at a;cases a;rfl
theorem Fp (w:Wr o R){j:Nat}(h:Ent R th j (R.length-1)):False:=by
 obtain⟨n,b,c⟩:=h;have a:NU R th (0+n+1)=ag (R.length-1):=by rw[mi];show (NU R th n).bind (PZ R th)=_;rw[b];exact c
 exact ku (xt w n (show NU R th 0=ag (R.length-1) from rfl) a) (qb _)
theorem Hl {b:Nat}:Cm R th b↔b=R.length-1∨∃ j,Ent R th j b:=by
 rw[3]
 ·rintro⟨n,h⟩;cases n with
  |zero=>cases h;exact #[9]
  |succ n =>
   obtain⟨k,a,c⟩:=hD.mp (show (NU R th n).bind (PZ R th)=ag b from h);exact .inr ⟨k,n,a,c⟩
 rintro (rfl |⟨j,h⟩)
 ·exact⟨0,rfl⟩
 exact Hd h
theorem zM {j b:Nat}:Ent R th j b↔Cm R th j/\PZ R th j=ag b:=⟨λ⟨n,a,c⟩=>⟨⟨n,a⟩,c⟩,λ⟨⟨n,a⟩,c⟩=>⟨n,a,c⟩⟩
theorem vY (w:Wr o R){n i:Nat}(h:NU R th n=ag i)(b:∀ c,#[12]<LI.pl o R i->Ry c=th c):NU R Ry n=ag i:=by
 induction n generalizing i with
 |zero=>exact h
 |succ n f =>
  obtain⟨j,d,a⟩:=hD.mp (show (NU R th n).bind (PZ R th)=ag i from h);obtain⟨_,k,c,x,y,hr,l,hc⟩:=pA w a;show (NU R Ry n).bind (PZ R Ry)=ag i;rw[f d λe g=>b e #[0],m4,jG hr,b c #[0],← jG hr];exact a
theorem Ds {i:Nat}{ss:ak eG}(e:Ev R th i ss):Cm R th i->∃ j,R[j]?=ag (.leaf ss)/\Cm R th j:=by
 induction e with
 |leaf h=>intro c;exact⟨_,h,c⟩
 | @no i c n y ss b d _ f =>
  rintro⟨k,a⟩;exact f ⟨k+1,by show (NU R th k).bind _=_;rw[a,m4,jG b,d];rfl⟩
 | @yes i c n y ss b d _ f =>
  rintro⟨k,a⟩;exact f ⟨k+1,by show (NU R th k).bind _=_;rw[a,m4,jG b,d];rfl⟩
theorem zV {i j:Nat}{a b:ak eG}(q:R[i]?=ag (.leaf a))(f:R[j]?=ag (.leaf b))(l:Cm R th i)(cj:Cm R th j):i=j:=by
 obtain⟨n,e⟩:=l;obtain⟨m,c⟩:=cj
 have stop:∀ {k x:Nat}{s:ak eG},R[x]?=ag (.leaf s)->NU R th k=ag x->∀ d,NU R th (k+d+1)=ay:=λ{k x s} g o d=>by
  induction d with
  |zero=>show (NU R th k).bind _=ay;rw[o,m4,vc g]
  |succ d p=>show (NU R th (k+d+1)).bind _=ay;rw[p];rfl
 rcases WA n m with h |h |h
 ·obtain⟨d,rfl⟩:∃ d,m=n+d+1:=⟨m-n-1,#[1]⟩;rw[stop q e d] at c;cases c
 ·subst h;rw[e] at c;cases c;rfl
 obtain⟨d,rfl⟩:∃ d,n=m+d+1:=⟨n-m-1,#[1]⟩;rw[stop f c d] at e;cases e
end
open Classical in
noncomputable def cnt (m:Nat) (P:List Int->Prop):Nat:=(M_ m).countP λa=>decide (P a)
open Classical in
theorem aZ {m:Nat}{P Q:List Int->Prop}(h:∀ ts,dG m ts->(P ts↔Q ts)):cnt m P=cnt m Q:=by unfold cnt;refine List.countP_congr λts a=>?_;simp[h ts (LP.mp a)]
open Classical in
theorem mR {m:Nat}{P Q:List Int->Prop}(h:∀ ts,dG m ts->P ts->Q ts->False):cnt m (λts=>P ts∨Q ts)=cnt m P+cnt m Q:=by
 unfold cnt;have d:∀ ts∈M_ m,P ts->Q ts->False:=λts f=>h ts (LP.mp f);generalize M_ m=l at d
 induction l with
 |nil=>rfl
 |cons a l e =>
  have e:=e λts f=>d ts (mem_cons_of_mem _ f);have g:=d a (mem_cons_self ..);rw[countP_cons,countP_cons,countP_cons,e];by_cases c:P a
  ·have b:¬ Q a:=λq=>g c q;simp[c,b];omega
  by_cases b:Q a
  ·simp[c,b];omega
  simp[c,b]
open Classical in
theorem cnt_none {m:Nat}{P:List Int->Prop}(h:∀ ts,dG m ts->¬ P ts):cnt m P=0:=by unfold cnt;rw[List.countP_eq_zero];intro ts a;simp[h ts (LP.mp a)]
open Classical in
theorem MZ {m:Nat}{P:List Int->Prop} : 0<cnt m P↔∃ ts,dG m ts/\P ts:=by
 unfold cnt;rw[List.countP_pos_iff];constructor
 ·rintro⟨ts,a,b⟩;exact⟨ts,LP.mp a,by simpa using b⟩
 rintro⟨ts,a,b⟩;exact⟨ts,LP.mpr a,by simpa using b⟩
theorem As (m:Nat):(M_ m).Nodup:=sV m
noncomputable def Qf (c:Nat)(ts:ak Int):ak Int:=ts.set c (1-ts.getD c 0)
theorem Dp {m c:Nat}{ts:ak Int}(h:dG m ts):dG m (Qf c ts):=by
 refine⟨by unfold Qf;rw[J7];exact h.1,λx a=>?_⟩;rcases List.mem_or_eq_of_mem_set a with q |q
 ·exact h.2 x q
 have:ts.getD c 0=0∨ts.getD c 0=1:=by
  rw[QJ];cases e:ts[c]? with
  |none=>exact #[9]
  |some v=>exact h.2 v (y3 e)
 rw[q];omega
theorem zE {c:Nat}{ts:ak Int}(hc:c<ts.length)(k:Nat):(Qf c ts).getD k 0=if k=c then 1-ts.getD c 0 else ts.getD k 0:=by
 unfold Qf;rw[QJ,aak];by_cases h:k=c
 ·subst h;rw[dm rfl,dm hc,dm rfl];rfl
 rw[dV (λe=>h e.symm),dV h];rfl
theorem xZ {m c:Nat}{ts:ak Int}(h:dG m ts)(hc:c<m)(k:Nat):tv (Qf c ts) k=if k=c then !tv ts c else tv ts k:=by
 have a:c<ts.length:=by rw[h.1];exact hc
 unfold tv;rw[zE a];by_cases e:k=c
 ·subst e;rw[dm rfl,dm rfl];have:ts.getD k 0=0∨ts.getD k 0=1:=by rw[QJ,bc a];exact h.2 _ (Oy a)
  rcases this with q |q<;>rw[q]<;>rfl
 rw[dV e,dV e]
theorem t9 {m c:Nat}{ts:ak Int}(h:dG m ts)(hc:c<m):Qf c (Qf c ts)=ts:=by
 have a:c<ts.length:=by rw[h.1];exact hc
 have e:(Qf c ts).getD c 0=1-ts.getD c 0:=by rw[zE a,dm rfl]
 show (Qf c ts).set c (1-(Qf c ts).getD c 0)=ts;rw[e];show (ts.set c (1-ts.getD c 0)).set c (1-(1-ts.getD c 0))=ts;rw[ac7,show 1-(1-ts.getD c 0)=ts.getD c 0 by omega,QJ,bc a];exact List.set_getElem_self a
open Classical in
theorem DB {m c:Nat}(hc:c<m){P:List Int->Prop}:cnt m (λts=>P (Qf c ts))=cnt m P:=by
 have nd:(M_ m).Nodup:=As m
 have i:((M_ m).map (Qf c)).Perm (M_ m):=by
  refine(List.perm_ext_iff_of_nodup ?_ nd).mpr λts=>⟨λh=>?_,λh=>?_⟩
  ·refine pairwise_map.mpr (List.Pairwise.imp_of_mem (λ{a b} d hb g e=>g ?_) nd);rw[← t9 (LP.mp d) hc,e,t9 (LP.mp hb) hc]
  ·obtain⟨x,f,rfl⟩:=mem_map.mp h;exact LP.mpr (Dp (LP.mp f))
  exact mem_map.mpr ⟨Qf c ts,LP.mpr (Dp (LP.mp h)),t9 (LP.mp h) hc⟩
 unfold cnt;rw[← i.countP_eq (λts=>decide (P ts)),countP_map];rfl
section
variable {o:ak Nat}{R:ak Row}{sh:Sh}
noncomputable def cK (R:ak Row) (sh:Sh) (k b:Nat):Nat:=cnt sh.length λa=>MS sh (tv a)/\(b=R.length-1∨∃ j,R.length-k<=j/\Ent R (tv a) j b)
noncomputable def cN (R:ak Row) (sh:Sh) (b:Nat):Nat:=cnt sh.length λa=>MS sh (tv a)/\Cm R (tv a) b
theorem F4 (w:Wr o R){k i:Nat}(h:R.length<=i+k+1):cK R sh k i=cN R sh i:=aZ λd _=>by rw[Hl];refine⟨λ⟨a,b⟩=>⟨a,b.imp id λ⟨j,_,e⟩=>⟨j,e⟩⟩,λ⟨a,b⟩=>⟨a,b.imp id λ⟨j,e⟩=>⟨j,?_,e⟩⟩⟩;obtain⟨n,_,c⟩:=e;have:=(pA w c).1;omega
theorem FL {c:Nat}(hc:sh[c]?=ag ay){ts:ak Int}(h:dG sh.length ts):MS sh (tv (Qf c ts))↔MS sh (tv ts):=by
 have f:c<sh.length:=(b5.mp hc).1;have key:∀ k b,sh[k]?=ag (ag b)->tv (Qf c ts) k=tv ts k:=λk b d=>by rw[xZ h f,dV (λe=>by subst e;rw[hc] at d;cases d)]
 exact⟨λa k b d=>by rw[← key k b d];exact a k b d,λa k b d=>by rw[key k b d];exact a k b d⟩
theorem Hm (w:Wr o R){i c n y:Nat}(hr:R[i]?=ag (.ask c n y))(hc:c<sh.length){ts:ak Int}(h:dG sh.length ts):Cm R (tv (Qf c ts)) i↔Cm R (tv ts) i:=by
 have b:LI.pl o R i=#[12]:=by unfold LI.pl;rw[hr]
 have key:∀ x,o.idxOf x<LI.pl o R i->tv (Qf c ts) x=tv ts x:=λx a=>by rw[xZ h hc,dV (λe=>by subst e;rw[b] at a;exact ku a (qb _))]
 exact⟨λ⟨k,e⟩=>⟨k,vY w e λx a=>(key x a).symm⟩,λ⟨k,e⟩=>⟨k,vY w e key⟩⟩
theorem FC (w:Wr o R)(H:∀ c∈o,c<sh.length){k i:Nat}{r:Row}(J:i+k+1=R.length)(hr:R[i]?=ag r)(b:Nat):cK R sh (k+1) b=cK R sh k b+(fq sh r).count b*(cN R sh i / (fq sh r).length):=by
 have I:cK R sh (k+1) b=cK R sh k b+cnt sh.length λd=>MS sh (tv d)/\Ent R (tv d) i b:=by
  unfold cK;rw[← mR]
  ·refine aZ λd _=>?_;rw[3]
   ·rintro⟨a,e |⟨j,B,e⟩⟩
    ·exact .inl ⟨a,.inl e⟩
    by_cases q:j=i
    ·subst q;exact .inr ⟨a,e⟩
    exact .inl ⟨a,.inr ⟨j,#[1],e⟩⟩
   rintro (⟨a,e |⟨j,B,e⟩⟩ |⟨a,e⟩)
   ·exact⟨a,.inl e⟩
   ·exact⟨a,.inr ⟨j,#[1],e⟩⟩
   exact⟨a,.inr ⟨i,#[1],e⟩⟩
  rintro d _ ⟨_,e |⟨j,B,e⟩⟩ ⟨_,t⟩
  ·subst e;exact Fp w t
  have:=Du w e t;omega
 rw[I];congr 1;cases r with
 |leaf E =>
  rw[show (fq sh (.leaf E)).count b=0 from rfl,ac8];refine cnt_none λd _ G=>?_;obtain⟨_,n,_,e⟩:=G;rw[vc hr] at e;cases e
 |ask c n y =>
  have hc:=H c (w _ _ hr).1;have es:sh[c]?=ag sh[c]:=bc hc;cases hv:sh[c] with
  |some v =>
   rw[hv] at es;have A:fq sh (.ask c n y)=[if v=ba then y else n]:=by simp only[fq,es]
   rw[A,UC,Nat.div_one];have key:∀ d,MS sh (tv d)->(Ent R (tv d) i b↔Cm R (tv d) i/\b=if v=ba then y else n):=λd a=>by rw[zM,jG hr,a c v es];exact⟨λ⟨x,e⟩=>⟨x,(ja e).symm⟩,λ⟨x,e⟩=>⟨x,by rw[e]⟩⟩
   by_cases q:b=if v=ba then y else n
   ·rw[YY,show ((if v=ba then y else n)==b)=ba by rw[← q];simp];rw[dm rfl,Nat.one_mul];exact aZ λd _=>⟨λ⟨a,e⟩=>⟨a,((key d a).mp e).1⟩,λ⟨a,e⟩=>⟨a,(key d a).mpr ⟨e,q⟩⟩⟩
   rw[YY,show ((if v=ba then y else n)==b)=b0 by simpa using λe=>q e.symm];rw[dV #[2],ac8];exact cnt_none λd _ ⟨a,e⟩=>q ((key d a).mp e).2
  |none =>
   rw[hv] at es;have A:fq sh (.ask c n y)=[n,y]:=by simp only[fq,es]
   rw[A];have C:cnt sh.length (λd=>MS sh (tv d)/\Cm R (tv d) i/\tv d c=b0)=cnt sh.length (λd=>MS sh (tv d)/\Cm R (tv d) i/\tv d c=ba):=by rw[← DB hc (P:=λd=>MS sh (tv d)/\Cm R (tv d) i/\tv d c=ba)];refine aZ λd h=>?_;rw[FL es h,Hm w hr hc h,xZ h hc,dm rfl];simp
   have D:cN R sh i=cnt sh.length (λd=>MS sh (tv d)/\Cm R (tv d) i/\tv d c=b0)+cnt sh.length (λd=>MS sh (tv d)/\Cm R (tv d) i/\tv d c=ba):=by
    unfold cN;rw[← mR λd _ h g=>by rw[h.2.2] at g;cases g.2.2];refine aZ λd _=>⟨λ⟨a,e⟩=>?_,λh=>?_⟩
    ·cases q:tv d c with
     |false=>exact .inl ⟨a,e,rfl⟩
     |true=>exact .inr ⟨a,e,rfl⟩
    rcases h with h |h
    ·exact⟨h.1,h.2.1⟩
    exact⟨h.1,h.2.1⟩
   have t:cN R sh i / [n,y].length=cnt sh.length (λd=>MS sh (tv d)/\Cm R (tv d) i/\tv d c=ba):=by rw[D,C];show (_ + _) / 2=_;omega
   rw[t]
   have F:cnt sh.length (λd=>MS sh (tv d)/\Ent R (tv d) i b)=cnt sh.length (λd=>b=n/\MS sh (tv d)/\Cm R (tv d) i/\tv d c=b0)+cnt sh.length (λd=>b=y/\MS sh (tv d)/\Cm R (tv d) i/\tv d c=ba):=by
    rw[← mR λd _ h g=>by rw[h.2.2.2] at g;cases g.2.2.2];refine aZ λd _=>?_;rw[zM,jG hr];cases q:tv d c with
    |false =>
     rw[3]
     ·rintro⟨a,e,f⟩;exact .inl ⟨(ja f).symm,a,e,rfl⟩
     rintro (⟨f,a,e,_⟩ |⟨_,_,_,z⟩)
     ·exact⟨a,e,by rw[f];rfl⟩
     cases z
    |true =>
     rw[3]
     ·rintro⟨a,e,f⟩;exact .inr ⟨(ja f).symm,a,e,rfl⟩
     rintro (⟨_,_,_,z⟩ |⟨f,a,e,_⟩)
     ·cases z
     exact⟨a,e,by rw[f];rfl⟩
   rw[F]
   have s:∀ (p:Prop) [Decidable p] (P:ak Int->Prop),cnt sh.length (λd=>p/\P d)=(if p then 1 else 0)*cnt sh.length P:=λp _ P=>by
    by_cases u:p
    ·rw[dm u,Nat.one_mul];exact aZ λd _=>⟨λh=>h.2,λh=>⟨u,h⟩⟩
    rw[dV u,ac8];exact cnt_none λd _ h=>u h.1
   rw[s,s,C,← add_mul];congr 1;rw[List.count_cons,YY];by_cases l:b=n<;>by_cases m:b=y
   ·subst l;subst m;simp
   ·subst l;simp[m,lC m]
   ·subst m;simp[l,lC l]
   simp[l,m,lC l,lC m]
end
theorem Bf {i:Nat}{ws cs:ak Nat}(F:i<cs.length)(t:∀ b∈ws,b<i)(E:ws.length<=2)(S:Lq)(l sd o:a9 D) :
  ∃ c x,fj (aB 5) bK (LO ws) [l,sd,ag (#[11]),ag (.int i),ag (.tup (LO ws)),o] (S++[.lst (LO cs)])=LB (.next [l,sd,ag (#[11]),ag (.int i),ag (.tup (LO ws)),x]) (S++[.lst (LO c)]) /\
   c.length=cs.length/\∀ b,c.getD b 0=cs.getD b 0+ws.count b*(cs.getD i 0 / ws.length):=by
 obtain⟨y,q,B,c,x,rfl,rfl,p,f⟩:=bF (u:=aB 5) (body:=bK)
  (λj g q => ∃ c x,g=[l,sd,ag (#[11]),ag (.int i),ag (.tup (LO ws)),x]/\q=S++[.lst (LO c)]/\c.length=cs.length/\∀ b,c.getD b 0=cs.getD b 0+(ws.take j).count b*(cs.getD i 0 / ws.length))
  (LO ws) 0 [l,sd,ag (#[11]),ag (.int i),ag (.tup (LO ws)),o] (S++[.lst (LO cs)]) ⟨cs,o,rfl,rfl,rfl,λb=>by simp⟩ (by
   rintro j d g q hd ⟨c,x,rfl,rfl,p,f⟩;rw[mi] at f ⊢;rw[hF] at hd;obtain⟨b,hb,rfl⟩:=en.mp hd;have r:b∈ws:=y3 hb;have C:=t b r;have m:b<c.length:=#[1]
   have z:c.getD i 0=cs.getD i 0:=by have v:(ws.take j).count i=0:=List.count_eq_zero.mpr λh=>qb _ (t i (Jq h));rw[f i,v,ac8];rfl
   have A:=tF (S:=S) m;have li:=tF (S:=S) (show i<c.length by omega);have G : 0<ws.length:=U1 r;have ld:eV [.tup (LO ws)]=ag (.int ws.length):=by unfold eV;simp
   have fd:dH (.int ((c.getD i 0:Nat):Int)) (.int ws.length)=ag (.int ((c.getD i 0 / ws.length:Nat):Int)):=by show (if 0<(ws.length:Int)/\(ws.length:Int)<1073741824 then _ else _)=_;rw[dm #[0]];rfl
   have ad:wz (.int ((c.getD b 0:Nat):Int)) (.int ((c.getD i 0 / ws.length:Nat):Int))=ag (.int ((c.getD b 0+c.getD i 0 / ws.length:Nat):Int)):=rfl;have w:=xr (S:=S) m (zx m) (c.getD b 0+c.getD i 0 / ws.length) [l,sd,ag (#[11]),ag (.int i),ag (.tup (LO ws)),ag (.int b)];refine⟨[l,sd,ag (#[11]),ag (.int i),ag (.tup (LO ws)),ag (.int b)],rfl,_,_,?_,c.set b (c.getD b 0+c.getD i 0 / ws.length),ag (.int b),rfl,rfl,by rw[J7];exact p,λk=>?_⟩
   ·generalize S++[MO.lst (LO (c.set b (c.getD b 0+c.getD i 0 / ws.length)))]=n at *
    generalize S++[MO.lst (LO c)]=s at *
    generalize ((c.getD b 0+c.getD i 0 / ws.length:Nat):Int)=z1 at *
    generalize ((c.getD i 0 / ws.length:Nat):Int)=z2 at *
    generalize ((c.getD i 0:Nat):Int)=z3 at *
    generalize ((c.getD b 0:Nat):Int)=z4 at *
    generalize D.tup (LO ws)=wd at *
    show qg (af 2) (af 5) (aH dH (uq (af 2) (af 3)) (bA eV (ah (af 4) aC))) _ _=_;have zR:∀ (a b:Lk D) g S,uq a b g S=ai (a g S) λx s=>ai (b g s) λi n=>aL (lJ x i n) n:=λ_ _ _ _=>rfl;unfold qg;simp[A,li,ld,fd,ad,w,zR]
   rw[g7 _ _ m,aam,hb,List.count_append];by_cases e:k=b
   ·subst e;rw[dm rfl,f k,z];simp[add_mul];omega
   rw[dV e,f k]
   simp[lC e])
 rw[mi,d7,YP] at f;exact⟨c,x,B,p,f⟩
structure CX (R:ak Row) (sh:Sh) (k:Nat) (cs:ak Nat):Prop where
 len:cs.length=R.length
 all:∀ i,cs.getD i 0=cK R sh k i
theorem Ma {v:a9 fg}{sh:Sh}{x:Int}{ts:ak Int}:MS (v::sh) (tv (x::ts))↔(∀ b,v=ag b->dv (x=1)=b)/\MS sh (tv ts):=by
 rw[3]
 ·intro h;exact⟨λb e=>h 0 b (by rw[e];rfl),λc b hc=>h (c+1) b (by simpa using hc)⟩
 rintro⟨a,d⟩ c b hc;cases c with
 |zero=>exact a b (by simpa using hc)
 |succ c=>exact d c b (by simpa using hc)
open Classical in
theorem DA (m:Nat)(P:List Int->Prop):cnt (m+1) P=cnt m (λr=>P (0::r))+cnt m (λr=>P (1::r)):=by unfold cnt;show List.countP _ ((M_ m).map _++(M_ m).map _)=_;rw[List.countP_append,countP_map,countP_map];rfl
theorem uv:∀ sh:Sh,cnt sh.length (λts=>MS sh (tv ts))=2 ^ cF sh
 |[]=>by
  have:MS [] (tv []):=λc b h=>by simp at h
  simp[cnt,M_,cF,this]
 |v::sh=>by
  rw[j2,DA];have a:=uv sh;cases v with
  |none =>
   have e:∀ x,cnt sh.length (λr=>MS (ay::sh) (tv (x::r)))=2 ^ cF sh:=λx=>by rw[← a];exact aZ λts _=>by rw[Ma];exact⟨λh=>h.2,λh=>⟨λb z=>(by cases z),h⟩⟩
   rw[e,e,show cF (ay::sh)=cF sh+1 from by simp[cF],UE];omega
  |some b =>
   have e:∀ x,cnt sh.length (λr=>MS (ag b::sh) (tv (x::r)))=if dv (x=1)=b then 2 ^ cF sh else 0:=λx=>by
    split
    ·rename_i q;rw[← a];exact aZ λts _=>by rw[Ma];exact⟨λh=>h.2,λh=>⟨λb z=>(by cases z;exact q),h⟩⟩
    rename_i q;exact cnt_none λts _ h=>q ((Ma.mp h).1 b rfl)
   rw[e,e,show cF (ag b::sh)=cF sh from by simp[cF]];cases b<;>simp
theorem wN (n i:Nat):(ih n 0).getD i 0=0:=by rw[QJ,Sv];split<;>rfl
theorem Fr (n:Nat)(ix:ak Nat)(a:Lk (ak D))(u:D->Lr->a9 Lr)(gt:Lk fg)(fe:Lk D)(ρ:Lr)(S:Lq):qf n ix a u gt fe ρ S=ai (a ρ S) λds b =>
 match cH u gt fe ds (cg n ix ρ) b with
 |ag (out,S2)=>LB (.loc S2.length) (S2++[.lst out])
 |ay=>ay:=rfl
theorem He (c a b:Lk D)(ρ:Lr)(S:Lq):z_ c a b ρ S=ai (b ρ S) λv e=>ai (c ρ e) λx S2=>ai (a ρ S2) λk d=>j9 x k v ρ d:=rfl
theorem p7 {o:ak Nat}{R:ak Row}{sh:Sh}(w:Wr o R)(W:o.Perm (gx sh.length))(h1 : 0<R.length)(hR:R.length<15000000)(S:Lq) :
  ∃ cs,bv [.tup (R.map au),LJ sh] S=LB (#[11]) (S++[.lst (LO cs)])/\cs.length=R.length/\∀ i,i<R.length->cs.getD i 0=cN R sh i:=by
 have J:∀ c∈o,c<sh.length:=λc hc=>aaB.mp (W.mem_iff.mp hc)
 have v:=dQ (u:=aB 0) (fe:=gp) (λl => ∃ y,l=[y]) (λ_ => .int 0) S (R.map au) (cg 1 [] [ag (.tup (R.map au)),ag (LJ sh),ay,ay,ay,ay]) ⟨ay,rfl⟩ (by
  rintro d hd l ⟨y,rfl⟩
  exact⟨_,rfl,⟨_,rfl⟩,rfl⟩)
 have F:(R.map au).map (λ_=>D.int 0)=LO (ih R.length 0):=by rw[mx,LO,Z4];exact adL ..
 rw[F] at v;have I:ck (.tup (R.map au))=ag (R.map au):=rfl;have B:=λS=>ww sh S
 have E:=xr (S:=S) (cs:=ih R.length 0) (b:=R.length-1) (by rw[K2];omega) (i:=-1) (by
  rw[K2];unfold QO;rw[dV #[2],dm #[0]]
  congr 1;omega) (2 ^ cF sh) [ag (.tup (R.map au)),ag (LJ sh),ag (#[11]),ay,ay,ay]
 generalize L:(ih R.length 0).set (R.length-1) (2 ^ cF sh)=h at E;have A:∀ i,h.getD i 0=if i=R.length-1 then 2 ^ cF sh else 0:=λi=>by rw[← L,g7 _ _ (by rw[K2];omega),wN]
 have m:CX R sh 0 h:=by
  refine⟨by rw[← L,J7,K2],λi=>?_⟩;rw[A];by_cases e:i=R.length-1
  ·rw[dm e,← uv];exact aZ λV _=>⟨λa=>⟨a,.inl e⟩,λa=>a.1⟩
  rw[dV e]
  exact(cnt_none λV _ U=>by
   obtain⟨_,q⟩:=U
   rcases q with q |⟨j,r,n,_,q⟩
   ·exact e q
   obtain⟨_,_,c,x,y,hr,_⟩:=pA w q;have:=(b5.mp hr).1
   omega).symm
 have ln:eV [.tup (R.map au)]=ag (.int R.length):=by unfold eV;simp
 have O:uX [.int ((R.length:Int)-1),.int (-1),.int (-1)]=ag ((gx R.length).map λ(k:Nat)=>D.int ((R.length:Int)-1-k)):=by unfold uX;simp only;rw[dm ⟨#[1],#[1],#[6],#[6],Qv⟩,show ((R.length:Int)-1 - -1).toNat=R.length by omega]
 obtain⟨X,G,Y,cs,C,s,g,rfl,rfl,f⟩:=bF (u:=aB 3) (body:=dA)
  (λk l G => ∃ cs C s g,l=[ag (.tup (R.map au)),ag (LJ sh),ag (#[11]),C,s,g]/\G=S++[.lst (LO cs)]/\CX R sh k cs)
  ((gx R.length).map λ(k:Nat)=>D.int ((R.length:Int)-1-k)) 0 [ag (.tup (R.map au)),ag (LJ sh),ag (#[11]),ay,ay,ay] (S++[.lst (LO h)]) ⟨h,ay,ay,ay,rfl,rfl,m⟩ (by
   rintro j d l G hd ⟨cs,C,s,g,rfl,rfl,f⟩;rw[mi] at f ⊢;rw[hF] at hd;obtain⟨p,r,rfl⟩:=en.mp hd;have Z:j<R.length:=by have:=(b5.mp r).1;simpa using this
   have ej:p=j:=by rw[Zz Z] at r;exact(ja r).symm
   subst ej;obtain⟨i,M⟩:∃ i,i+p+1=R.length:=⟨R.length-p-1,#[1]⟩;have P:i<R.length:=#[1]
   have hr:R[i]?=ag R[i]:=bc P;have T:(R.length:Int)-1-p=i:=#[1]
   rw[T];have wq:=D5 w J hr (S++[.lst (LO cs)]);have fx:Mn (.tup (R.map au)) (.int i) (S++[.lst (LO cs)])=ag (au R[i]):=by unfold Mn;rw[dV (by simp[bO])];exact bB (by rw[hF,hr];rfl)
   obtain⟨H,x,Q,K,N⟩:=Bf (i:=i) (ws:=fq sh R[i]) (cs:=cs) (by rw[f.len];exact P) (λb hb=>(D4 w hr hb).1) (BH _) S (ag (.tup (R.map au))) (ag (LJ sh)) g;refine⟨[ag (.tup (R.map au)),ag (LJ sh),ag (#[11]),ag (.int i),s,g],rfl,_,_,?_,H,ag (.int i),ag (.tup (LO (fq sh R[i]))),x,rfl,rfl,⟨K.trans f.len,λb=>by rw[N,f.all b,f.all i,FC w J M hr b,F4 (i:=i) (k:=p) w #[0]]⟩⟩;have sw:ck (.tup (LO (fq sh R[i])))=ag (LO (fq sh R[i])):=rfl;clear E B v F I A O ln K N;generalize S++[MO.lst (LO H)]=S2 at *
   generalize S++[MO.lst (LO cs)]=S1 at *
   generalize D.tup (LO (fq sh R[i]))=wd at *
   generalize LO (fq sh R[i])=wl at *
   generalize au R[i]=rd at *
   generalize D.tup (R.map au)=fo at *
   generalize LJ sh=sd at *
   unfold dA
   simp[fx,wq,sw,Q])
 rw[mi,d7,p0] at f;refine⟨cs,aA rfl ?_,f.len,λi M=>by rw[f.all i,F4 w #[0]]⟩;have ng:vh (.int 1)=ag (.int (-1)):=rfl;have sb:uN (.int R.length) (.int 1)=ag (.int ((R.length:Int)-1)):=rfl;have t:=B (S++[.lst (LO (ih R.length 0))]);clear B f m A F;generalize ((2 ^ cF sh:Nat):Int)=z at *
 generalize (gx R.length).map (λ(k:Nat)=>D.int ((R.length:Int)-1-k))=rl at *
 generalize S++[MO.lst (LO cs)]=S3 at *
 generalize S++[MO.lst (LO h)]=S2 at *
 generalize LO (ih R.length 0)=zs at *
 generalize R.map au=rr at *
 generalize LJ sh=sd at *
 unfold iN;simp[Fr,He,v,I,t,ng,E,ln,sb,O,Y]
noncomputable def Xj (cs:ak Nat):D->D
 | .int i => .int ((cs.getD i.toNat 0:Nat):Int)
 |_ => .LN
theorem Hk (cs L:ak Nat):(LO L).map (Xj cs)=LO (L.map λi=>cs.getD i 0):=by rw[mx,LO,mx];rfl
theorem zy:∀ l:ak Nat,bP (LO l)=ag (l.map λ(n:Nat)=>(n:Int))
 |[]=>rfl
 |a::l=>by
  show (bP (D.int a::LO l))=_;rw[bP,zy l];rfl
theorem BS:∀ l:ak Nat,((l.map λ(n:Nat)=>(n:Int)).sum)=((l.sum:Nat):Int)
 |[]=>rfl
 |a::l=>by rw[hH,abU,BS l,abU];omega
section
variable {o:ak Nat}{R:ak Row}{sh:Sh}
theorem Bt (w:Wr o R)(p:o.Perm (gx sh.length))(s : 0<R.length)(x:R.length<3000){L:ak Nat}(h:∀ i∈L,i<R.length)(S:Lq) :
  cU [Pp R,.lst (LO L),LJ sh] S=LB (.int (((L.map (cN R sh)).sum:Nat):Int)) S:=by
 obtain⟨a,e,k,hc⟩:=p7 w p s #[0] S;have r:L.map (cN R sh)=L.map λi=>a.getD i 0:=y2 λi c=>(hc i (h i c)).symm;rw[r]
 have g:=dQ (u:=aB 0) (fe:=iw) (λρ => ∃ y,ρ=[y,ag (.lst (LO a))]) (Xj a) S (LO L) (cg 1 [3] [ag (Pp R),ag (.lst (LO L)),ag (LJ sh),ag (.lst (LO a))]) ⟨ay,rfl⟩ (by
  rintro d hd ρ ⟨y,rfl⟩;obtain⟨i,c,rfl⟩:=vl.mp hd;refine⟨[ag (.int i),ag (.lst (LO a))],rfl,⟨_,rfl⟩,?_⟩;have b:i<a.length:=by rw[k];exact h i c
  have q:Mn (.lst (LO a)) (.int i) S=ag (Xj a (.int i)):=by unfold Mn;rw[dV (by simp[bO])];refine bB ?_;rw[hF,bc b];simp[Xj,QJ,b]
  generalize Xj a (.int i)=z at *
  generalize D.lst (LO a)=nc at *
  unfold iw
  simp[q])
 rw[Hk] at g;have n:w8 [.lst (LO (L.map λi=>a.getD i 0))]=ag (.int (((L.map λi=>a.getD i 0).sum:Nat):Int)):=by show (bP _).map _=_;rw[zy,VM,BS]
 have j:=forget_eq (f:=aQ bv (ah (af 0) (ah (af 2) aC))) (ρ:=[ag (Pp R),ag (.lst (LO L)),ag (LJ sh),ay]) (S:=S) (xs:=LO a) (by
  show aQ bv (ah (af 0) (ah (af 2) aC)) [ag (.tup (R.map au)),ag (.lst (LO L)),ag (LJ sh),ay] S=_;generalize S++[MO.lst (LO a)]=S2 at *
  generalize D.tup (R.map au)=rd at *
  generalize LJ sh=sd at *
  simp[e]) (tW _ _) (hA (show (LO a).length<=3000 by rw[d7];omega) #[2])
 have l:ck (.lst (LO L))=ag (LO L):=rfl;rw[4];clear e;show kH [ag (Pp R),ag (.lst (LO L)),ag (LJ sh),ay] S=_;generalize (((L.map λi=>a.getD i 0).sum:Nat):Int)=z at *
 generalize LO (L.map λi=>a.getD i 0)=out at *
 generalize v:D.lst (LO L)=dl at *
 generalize m:LO L=nl at *
 generalize t:D.lst (LO a)=nc at *
 generalize Pp R=rd at *
 generalize LJ sh=sd at *
 unfold kH;simp[j,l,g,n]
theorem BT (w:Wr o R):∀ {L:ak Nat},L.Nodup->(∀ i∈L,∃ ss,R[i]?=ag (.leaf ss))->(L.map (cN R sh)).sum=cnt sh.length λts=>MS sh (tv ts)/\∃ i∈L,Cm R (tv ts) i
 |[],_,_=>(cnt_none λts _ c=>by obtain⟨_,i,h,_⟩:=c;cases h).symm
 |i::L,nd,h=>by
  obtain⟨n1,n2⟩:=Ui.mp nd;rw[hH,abU,BT w n2 λj hj=>h j (eJ _ hj)];show cnt _ _ + _=_;rw[← mR]
  ·refine aZ λts _=>⟨λq=>?_,λ⟨a,j,hj,q⟩=>?_⟩
   ·rcases q with ⟨a,q⟩ |⟨a,j,hj,q⟩
    ·exact⟨a,i,gy ..,q⟩
    exact⟨a,j,eJ _ hj,q⟩
   rcases f5.mp hj with rfl |hj
   ·exact .inl ⟨a,q⟩
   exact .inr ⟨a,j,hj,q⟩
  rintro ts _ ⟨_,q⟩ ⟨_,j,hj,e⟩;obtain⟨g,b⟩:=h i (gy ..);obtain⟨f,d⟩:=h j (eJ _ hj);have:=zV b d q e;subst this;exact n1 hj
end
section
variable {o:ak Nat}{t:Tr}{sh:Sh}{Q:ak eG->fg}{L:ak Nat}
theorem DC (ev:∀ a,Ev #[5] a (#[5].length-1) (Md t a)){i:Nat}{ss:ak eG}(c:#[5][i]?=ag (.leaf ss))(a:Th):Cm #[5] a i↔Md t a=ss:=by
 obtain⟨j,b,cj⟩:=Ds (ev a) ⟨0,rfl⟩;rw[3]
 ·intro d;have:=zV c b d cj;subst this;rw[c] at b;cases b;rfl
 intro e;subst e;rw[vC c b];exact cj
structure Sn (R:ak Row) (Q:ak eG->fg) (L:ak Nat):Prop where
 mem:∀ i,i∈L↔∃ ss,R[i]?=ag (.leaf ss)/\Q ss=ba
theorem Ea (w:Wr o #[5])(ev:∀ d,Ev #[5] d (#[5].length-1) (Md t d))(lf:Sn #[5] Q L)(nd:L.Nodup):(L.map (cN #[5] sh)).sum=cnt sh.length λts=>MS sh (tv ts)/\Q (Md t (tv ts))=ba:=by
 rw[BT w nd λi b=>let ⟨e,h,_⟩:=(lf.mem i).mp b;⟨e,h⟩];refine aZ λts _=>⟨λ⟨a,i,b,c⟩=>⟨a,?_⟩,λ⟨a,q⟩=>⟨a,?_⟩⟩
 ·obtain⟨e,h,g⟩:=(lf.mem i).mp b;rw[(DC ev h _).mp c];exact g
 obtain⟨j,f,cj⟩:=Ds (ev (tv ts)) ⟨0,rfl⟩;exact⟨j,(lf.mem j).mpr ⟨_,f,q⟩,cj⟩
theorem II (lf:Sn #[5] Q L):∀ i∈L,i<#[5].length:=λi a=>by obtain⟨b,hr,_⟩:=(lf.mem i).mp a;exact(b5.mp hr).1
theorem r_ (w:Wr o #[5])(c:o.Perm (gx sh.length))(b:#[5].length<3000)(ev:∀ a,Ev #[5] a (#[5].length-1) (Md t a))(lf:Sn #[5] Q L)(nd:L.Nodup)(S:Lq) :
  cU [a_ t,.lst (LO L),LJ sh] S=LB (.int ((cnt sh.length (λts=>MS sh (tv ts)/\Q (Md t (tv ts))=ba):Nat):Int)) S:=by
 rw[← Ea w ev lf nd];exact Bt w c (zN t) b (II lf) S
end
noncomputable def bI (b:fg):Int:=if b=ba then 1 else 0
noncomputable def fS:Sh->(ak Int->fg)->a9 (ak Int)
 |[],P=>if P []=ba then ag [] else ay
 |ag b::sh,P=>(fS sh λr=>P (bI b::r)).map λr=>bI b::r
 |ay::sh,P=>if (fS sh λr=>P (0::r)).isSome=ba then (fS sh λr=>P (0::r)).map (λr => 0::r) else (fS sh λr=>P (1::r)).map λr => 1::r
theorem zG:∀ (cur:Sh) (k:Nat) {c:Nat}{rest:ak Nat},f7 k cur=c::rest->∀ P,k<=c/\c-k<cur.length/\(∀ v,f7 k (cur.set (c-k) (ag v))=rest) /\
  fS cur P=if (fS (cur.set (c-k) (ag b0)) P).isSome=ba then fS (cur.set (c-k) (ag b0)) P else fS (cur.set (c-k) (ag ba)) P
 |[],k,c,rest,h,P=>by cases h
 |ay::sh,k,c,rest,h,P=>by
  obtain⟨a,d⟩:=WC (show k::f7 (k+1) sh=c::rest from h);subst a;rw[aeh];refine⟨hB _,by simp,λv=>d,?_⟩;show fS (ay::sh) P=if (fS (ag b0::sh) P).isSome=ba then fS (ag b0::sh) P else fS (ag ba::sh) P;rw[fS,fS,fS,Sw];rfl
 |ag b::sh,k,c,rest,h,P=>by
  obtain⟨a,d,g,f⟩:=zG sh (k+1) (show f7 (k+1) sh=c::rest from h) λr=>P (bI b::r);have e:c-k=(c-(k+1))+1:=#[1]
  rw[e];refine⟨#[1],by rw[j2];omega,λv=>g v,?_⟩;show fS (ag b::sh) P=if (fS (ag b::sh.set (c-(k+1)) (ag b0)) P).isSome=ba then fS (ag b::sh.set (c-(k+1)) (ag b0)) P else fS (ag b::sh.set (c-(k+1)) (ag ba)) P;rw[fS,fS,fS,Sw,f];split<;>rfl
theorem zI:∀ (cur:Sh) (k:Nat),f7 k cur=[]->∀ P,(fS cur P).isSome=ba->∃ ts,fS cur P=ag ts/\LJ cur=Od ts
 |[],k,_,P,h=>by
  rw[fS] at h ⊢;split at h
  ·rename_i q;exact⟨[],by rw[dm q],rfl⟩
  cases h
 |ay::sh,k,h,P,_=>by cases h
 |ag b::sh,k,h,P,hs=>by
  rw[fS,Sw] at hs;obtain⟨ts,c,a⟩:=zI sh (k+1) h _ hs;refine⟨bI b::ts,by rw[fS,c];rfl,?_⟩;have a:sh.map L3=ts.map D.int:=D.tup.inj a;show D.tup (L3 (ag b)::sh.map L3)=D.tup (D.int (bI b)::ts.map D.int);rw[a];rfl
theorem lN:∀ (sh:Sh) (P:ak Int->fg),(fS sh P).isSome=ba↔∃ ts,dG sh.length ts/\MS sh (tv ts)/\P ts=ba
 |[],P=>by
  rw[fS];rw[3]
  ·intro h;split at h
   ·rename_i q;exact⟨[],⟨rfl,λx hx=>by cases hx⟩,λc b hc=>by simp at hc,q⟩
   cases h
  rintro⟨ts,a,_,d⟩;have:ts=[]:=YX a.1;subst this;rw[dm d];rfl
 |ag b::sh,P=>by
  rw[fS,Sw,lN sh];rw[3]
  ·rintro⟨ts,a,f,d⟩;refine⟨bI b::ts,⟨by rw[j2,a.1];rfl,λx hx=>?_⟩,Ma.mpr ⟨λc e=>by cases e;cases b<;>rfl,f⟩,d⟩;rcases f5.mp hx with rfl |hx
   ·cases b
    ·exact #[9]
    exact .inr rfl
   exact a.2 x hx
  rintro⟨ts,a,f,d⟩;cases ts with
  |nil=>cases a.1
  |cons x ts =>
   obtain⟨a1,a2⟩:=Ma.mp f;have ex:x=bI b:=by have q:=a1 b rfl;rcases a.2 x (gy ..) with rfl |rfl<;>cases b<;>first |rfl |(exact ku q #[2])
   subst ex;exact⟨ts,⟨by simpa using a.1,λy g=>a.2 y (eJ _ g)⟩,a2,d⟩
 |ay::sh,P=>by
  have key:(fS (ay::sh) P).isSome=ba↔(fS sh λr=>P (0::r)).isSome=ba∨(fS sh λr=>P (1::r)).isSome=ba:=by
   rw[fS];split
   ·rename_i q;rw[Sw];exact⟨λh => .inl h,λ_=>q⟩
   rename_i q;rw[Sw];exact⟨λh => .inr h,λh=>h.resolve_left q⟩
  rw[key,lN sh,lN sh];rw[3]
  ·rintro (⟨ts,a,f,d⟩ |⟨ts,a,f,d⟩)
   ·exact⟨0::ts,⟨by rw[j2,a.1];rfl,λx hx=>by rcases f5.mp hx with rfl |hx;exact #[9];exact a.2 x hx⟩,Ma.mpr ⟨(λc e=>by cases e),f⟩,d⟩
   exact⟨1::ts,⟨by rw[j2,a.1];rfl,λx hx=>by rcases f5.mp hx with rfl |hx;exact .inr rfl;exact a.2 x hx⟩,Ma.mpr ⟨(λc e=>by cases e),f⟩,d⟩
  rintro⟨ts,a,f,d⟩;cases ts with
  |nil=>cases a.1
  |cons x ts =>
   have ok:dG sh.length ts:=⟨by simpa using a.1,λy g=>a.2 y (eJ _ g)⟩;rcases a.2 x (gy ..) with rfl |rfl
   ·exact .inl ⟨ts,ok,(Ma.mp f).2,d⟩
   exact .inr ⟨ts,ok,(Ma.mp f).2,d⟩
theorem zH:∀ (sh:Sh) (g:ak Int->fg) (P:ak Int->fg),(∀ ts,dG sh.length ts->(g ts=ba↔MS sh (tv ts)/\P ts=ba))->((M_ sh.length).filter g).head?=fS sh P
 |[],g,P,h=>by
  have:=h [] ⟨rfl,λx a=>by cases a⟩;have m:MS [] (tv []):=λc b hc=>by simp at hc
  rw[fS];show ([[]].filter g).head?=_;by_cases q:P []=ba
  ·rw[dm q,Ue,dm (this.mpr ⟨m,q⟩)];rfl
  rw[dV q,Ue,dV (λz=>q (this.mp z).2)];rfl
 |v::sh,g,P,h=>by
  have sub:∀ (x:Int),(x=0∨x=1)->∀ r,dG sh.length r->(g (x::r)=ba↔((∀ b,v=ag b->dv (x=1)=b)/\MS sh (tv r))/\P (x::r)=ba):=λx a r hr=>by rw[h (x::r) ⟨by rw[j2,hr.1];rfl,λy hy=>by rcases f5.mp hy with rfl |hy;exact a;exact hr.2 y hy⟩,Ma]
  have hd:∀ (x:Int) (A B:ak (ak Int)),((A.map (λr=>x::r)++B)).head?=if A.head?.isSome=ba then A.head?.map (λr=>x::r) else B.head?:=λx A B=>by cases A<;>rfl
  have d:∀ (x:Int) (l:ak (ak Int)),(l.map (λr=>x::r)).filter g=(l.filter λr=>g (x::r)).map λr=>x::r:=λx l=>by rw[List.filter_map];rfl
  show ((((M_ sh.length).map λr => 0::r)++(M_ sh.length).map λr => 1::r).filter g).head?=_;rw[List.filter_append,d,d,hd];have none_of:∀ (x:Int),(x=0∨x=1)->(∃ b,v=ag b/\dv (x=1)≠b)->(M_ sh.length).filter (λr=>g (x::r))=[]:=λx a j=>by obtain⟨b,f,k⟩:=j;rw[List.filter_eq_nil_iff];intro r hr z;exact k (((sub x a r (LP.mp hr)).mp z).1.1 b f)
  have some_of:∀ (x:Int),(x=0∨x=1)->(∀ b,v=ag b->dv (x=1)=b)->((M_ sh.length).filter λr=>g (x::r)).head?=fS sh λr=>P (x::r):=λx a i =>
   zH sh (λr=>g (x::r)) (λr=>P (x::r)) λr hr=>by rw[sub x a r hr];exact⟨λq=>⟨q.1.2,q.2⟩,λq=>⟨⟨i,q.1⟩,q.2⟩⟩
  cases v with
  |none =>
   rw[some_of 0 (#[9]) (λb e=>by cases e),aei,some_of 1 (.inr rfl) (λb e=>by cases e),fS]
  |some b =>
   rw[fS];cases b with
   |false =>
    rw[some_of 0 (#[9]) (λb e=>by cases e;rfl),none_of 1 (.inr rfl) ⟨b0,rfl,#[6]⟩];show (if (fS sh λr=>P (0::r)).isSome=ba then (fS sh λr=>P (0::r)).map (λr => 0::r) else ay)=(fS sh λr=>P (0::r)).map λr => 0::r;cases fS sh λr=>P (0::r)<;>rfl
   |true =>
    rw[none_of 0 (#[9]) ⟨ba,rfl,#[6]⟩,aei,some_of 1 (.inr rfl) (λb e=>by cases e;rfl)];rfl
noncomputable def GU:a9 (ak Int)->D
 |ay => .LN
 |ag a=>Od a
theorem zL (n:Nat):N5 (.int n) (.int 0)=ag (.bl (dv (n=0))):=by
 unfold N5;simp only[toPy];rw[dm (by simp[wt])];congr 2;show ((n:Int)==0)=_;by_cases h:n=0
 ·simp[h]
 have:¬ ((n:Int)=0):=#[1]
 simp[h,this]
theorem tY (n:Nat):Vk (.int n) (.int 0)=ag (.bl (dv (0<n))):=by
 show ag (D.bl (dv ((n:Int) > 0)))=_;congr 2;by_cases h : 0<n
 ·have:(n:Int) > 0:=#[1]
  simp[h,this]
 have:¬ ((n:Int) > 0):=#[1]
 simp[h,this]
section
variable {o:ak Nat}{m:Nat}{t:Tr}{Q:ak eG->fg}{L:ak Nat}
theorem A8 {sh:Sh}(O:sh.length=m)(hm:m<=10)(w:Wr o #[5])(X:o.Perm (gx m))(Z:#[5].length<3000)(ev:∀ I,Ev #[5] I (#[5].length-1) (Md t I))(lf:Sn #[5] Q L)(nd:L.Nodup)(S:Lq) :
  gL [a_ t,.lst (LO L),LJ sh] S=LB (GU (fS sh λts=>Q (Md t (tv ts)))) S:=by
 have g:∀ cur:Sh,cur.length=m->∃ n:Nat,cU [a_ t,.lst (LO L),LJ cur] S=LB (.int n) S/\(0<n↔(fS cur λts=>Q (Md t (tv ts))).isSome=ba):=λcur hc =>
  ⟨_,r_ w (by rw[hc];exact X) Z ev lf nd S,by rw[MZ,lN]⟩
 obtain⟨E,i,y⟩:=g sh O;have e:=zL E;generalize hP:(λts:ak Int=>Q (Md t (tv ts)))=P at *
 generalize a_ t=rd at *
 generalize D.lst (LO L)=ld at *
 by_cases H:E=0
 ·have:fS sh P=ay:=by
   cases q:fS sh P with
   |none=>rfl
   |some ts=>rw[q] at y;have:=y.mpr rfl;omega
  rw[this];rw[H] at i e;simp only[decide_true] at e;rw[4];show cG [ag rd,ag ld,ag (LJ sh),ay,ay,ay] S=LB (.ret .LN) S;generalize LJ sh=sd at *
  unfold cG;simp[i,e]
 have M:(fS sh P).isSome=ba:=y.mp #[0];have z1:N5 (.int E) (.int 0)=ag (.bl b0):=by rw[e];simp[H]
 have C:=wR sh S
 obtain⟨Y,a,T,cur,B,s,hc,f,rfl,rfl,b⟩:=bF (u:=aB 4) (body:=cL)
  (λj K a => ∃ (cur:Sh) (B s:a9 D),cur.length=m/\f7 0 cur=(f7 0 sh).drop j/\K=[ag rd,ag ld,ag (LJ sh),ag (LJ cur),B,s]/\a=S/\fS sh P=fS cur P)
  ((f7 0 sh).map λ(c:Nat)=>D.int c) 0 [ag rd,ag ld,ag (LJ sh),ag (LJ sh),ay,ay] S ⟨sh,ay,ay,O,rfl,rfl,rfl,rfl⟩ (by
  rintro j d K a hd ⟨cur,B,s,hc,f,rfl,rfl,b⟩;rw[mi] at f ⊢;rw[hF] at hd;obtain⟨c,A,rfl⟩:=en.mp hd;have R:=(b5.mp A).1;have W:(f7 0 sh).drop j=c::(f7 0 sh).drop (j+1):=by rw[T3 R];rw[bc R] at A;rw[ja A]
  rw[W] at f;obtain⟨_,V,l,h⟩:=zG cur 0 f P;rw[sub_zero] at V l h;have v:=u3 (m:=m) (k:=c) #[0] hc #[0] (ag b0) a iq rfl;have F:=u3 (m:=m) (k:=c) #[0] hc #[0] (ag ba) a iq rfl;have v:dC [LJ cur,.int c,.int 0] a=LB (LJ (cur.set c (ag b0))) a:=v;have F:dC [LJ cur,.int c,.int 1] a=LB (LJ (cur.set c (ag ba))) a:=F;obtain⟨n,N,x⟩:=g (cur.set c (ag b0)) (by rw[J7];exact hc);have p:=tY n;refine⟨[ag rd,ag ld,ag (LJ sh),ag (LJ cur),ag (.int c),s],rfl,?_⟩;by_cases r : 0<n
  ·refine⟨_,a,?_,cur.set c (ag b0),ag (.int c),ag (LJ (cur.set c (ag b0))),by rw[J7];exact hc,l b0,rfl,rfl,by rw[b,h,dm (x.mp r)]⟩;rw[ia r] at p;clear b h l x g i e z1 C;generalize LJ (cur.set c (ag b0))=d0 at *
   generalize LJ cur=dp at *
   generalize LJ sh=db at *
   unfold cL;simp[v,N,p]
  refine⟨_,a,?_,cur.set c (ag ba),ag (.int c),ag (LJ (cur.set c (ag b0))),by rw[J7];exact hc,l ba,rfl,rfl,by rw[b,h,dV (λz=>r (x.mpr z))]⟩;rw[eh r] at p;clear b h l x g i e z1 C;generalize LJ (cur.set c (ag b0))=d0 at *
  generalize LJ (cur.set c (ag ba))=d1 at *
  generalize LJ cur=dp at *
  generalize LJ sh=db at *
  unfold cL
  simp[v,F,N,p])
 rw[mi,d7,adp] at f;rw[b] at M ⊢;obtain⟨ts,G,J⟩:=zI cur 0 f P M;rw[G];rw[J] at T;have U:ck (.lst ((f7 0 sh).map λ(c:Nat)=>D.int c))=ag ((f7 0 sh).map λ(c:Nat)=>D.int c):=rfl;rw[4];clear g G J b;show cG [ag rd,ag ld,ag (LJ sh),ay,ay,ay] a=LB (.ret (Od ts)) a;generalize (f7 0 sh).map (λ(c:Nat)=>D.int c)=ul at *
 generalize LJ sh=sd at *
 generalize Od ts=td at *
 unfold cG;simp[i,z1,C,U,T]
end
theorem IF {x:eG}{R:ak Row}{i:Nat}:i∈Ql x 0 R↔∃ ss,R[i]?=ag (.leaf ss)/\x∈ss:=by
 rw[PQ];rw[3]
 ·rintro⟨_,r,b,a⟩;cases r with
  |leaf ss=>exact⟨ss,b,ll a⟩
  |ask c n y=>cases a
 rintro⟨ss,b,a⟩;exact⟨Tp _,_,b,ia a⟩
theorem blank_eq {m:Nat}(e:m<=10)(S:Lq):d8 [.int m] S=LB (LJ (ih m ay)) S:=by
 have b:eE [.int m]=ag ((gx m).map λ(k:Nat)=>D.int k):=by have:=xm m #[0] #[0];simpa using this
 have q:=dQ (u:=aB 0) (fe:=iP) (λa => ∃ y,a=[y]) (λ_ => .LN) S ((gx m).map λ(k:Nat)=>D.int k) (cg 1 [] [ag (.int m)]) ⟨ay,rfl⟩ (by
  rintro d hd a ⟨y,rfl⟩
  exact⟨_,rfl,⟨_,rfl⟩,rfl⟩)
 have c:((gx m).map λ(k:Nat)=>D.int k).map (λ_=>D.LN)=(ih m ay).map L3:=by rw[mx];show _=(ih m ay).map L3;rw[Z4];exact(adL ..).trans (by rw[p0];rfl)
 rw[c] at q;rw[4];show gJ [ag (.int m)] S=LB (.ret (.tup ((ih m ay).map L3))) S;generalize (ih m ay).map L3=out at *
 generalize (gx m).map (λ(k:Nat)=>D.int k)=rl at *
 have tp:iU [.lst out]=ag (.tup out):=rfl;unfold gJ;simp[b,q,tp]
section
variable {o:ak Nat}{m:Nat}{t:Tr}
theorem FZ (x:eG)(R:ak Row):Sn R (λss=>dv (x∈ss)) (Ql x 0 R):=⟨λi=>by rw[IF];simp⟩
theorem qA {sh:Sh}(w:Wr o #[5])(d:o.Perm (gx sh.length))(b:#[5].length<3000)(ev:∀ a,Ev #[5] a (#[5].length-1) (Md t a))(x:eG)(S:Lq) :
  bL [a_ t,.str x,LJ sh] S=LB (.int ((cnt sh.length (λts=>MS sh (tv ts)/\dv (x∈Md t (tv ts))=ba):Nat):Int)) S:=by
 have c:b_ [a_ t,.str x] S=_:=jg #[5] x S;have e:=r_ w d b ev (FZ x #[5]) jH S;rw[4];show iu [ag (a_ t),ag (.str x),ag (LJ sh)] S=_;generalize ((cnt sh.length (λts=>MS sh (tv ts)/\dv (x∈Md t (tv ts))=ba):Nat):Int)=z at *
 generalize D.lst (LO (Ql x 0 #[5]))=ld at *
 generalize a_ t=fd at *
 generalize LJ sh=sd at *
 unfold iu;simp[c,e]
theorem wP {sh:Sh}(d:sh.length=m)(b:m<=10)(w:Wr o #[5])(f:o.Perm (gx m))(c:#[5].length<3000)(ev:∀ a,Ev #[5] a (#[5].length-1) (Md t a))(x:eG)(S:Lq) :
  hU [a_ t,.str x,LJ sh] S=LB (GU (fS sh λts=>dv (x∈Md t (tv ts)))) S:=by
 have e:b_ [a_ t,.str x] S=_:=jg #[5] x S;have g:=A8 d b w f c ev (FZ x #[5]) jH S;rw[4];show mN [ag (a_ t),ag (.str x),ag (LJ sh)] S=_;generalize GU (fS sh λts=>dv (x∈Md t (tv ts)))=z at *
 generalize D.lst (LO (Ql x 0 #[5]))=ld at *
 generalize a_ t=fd at *
 generalize LJ sh=sd at *
 unfold mN;simp[e,g]
end
noncomputable def ue:D->fg
 | .tup [.tup [_,_],_]=>ba
 |_=>b0
noncomputable def Bv:D->D
 | .tup [.tup [_,x],k] => .tup [x,k]
 |_ => .LN
noncomputable def N3:ak Row->ak (ak eG)
 |[]=>[]
 | .leaf ss::R=>ss::N3 R
 | .ask _ _ _::R=>N3 R
theorem NS:∀ {R:ak Row}{ss:ak eG},ss∈N3 R↔∃ i:Nat,R[i]?=ag (.leaf ss)
 |[],ss=>by simp[N3]
 | .leaf s::R,ss=>by
  rw[N3,f5,NS];rw[3]
  ·rintro (rfl |⟨i,h⟩)
   ·exact⟨0,rfl⟩
   exact⟨i+1,by simpa using h⟩
  rintro⟨i,h⟩;cases i with
  |zero=>cases h;exact #[9]
  |succ i=>exact .inr ⟨i,by simpa using h⟩
 | .ask c n y::R,ss=>by
  rw[N3,NS];rw[3]
  ·rintro⟨i,h⟩;exact⟨i+1,by simpa using h⟩
  rintro⟨i,h⟩;cases i with
  |zero=>cases h
  |succ i=>exact⟨i,by simpa using h⟩
theorem mI:∀ {R:ak Row},(∀ (i j:Nat) (ss:ak eG),R[i]?=ag (.leaf ss)->R[j]?=ag (.leaf ss)->i=j)->(N3 R).Nodup
 |[],_=>XX
 | .leaf s::R,h=>by
  refine Ui.mpr ⟨λq=>?_,mI λi j ss a b=>by have:=h (i+1) (j+1) ss (by simpa using a) (by simpa using b);omega⟩;obtain⟨i,e⟩:=NS.mp q;have:=h 0 (i+1) s rfl (by simpa using e);omega
 | .ask c n y::R,h=>mI (R:=R) λi j ss a b=>by have:=h (i+1) (j+1) ss (by simpa using a) (by simpa using b);omega
theorem vX:∀ (R:ak Row) (cs:ak Nat) (f:ak eG->Nat),cs.length=R.length->(∀ (i:Nat) (ss:ak eG),R[i]?=ag (.leaf ss)->cs.getD i 0=f ss)->((hV (R.map au) (LO cs)).filter ue).map Bv=(N3 R).map λss=>Mo (ss,(f ss:Int))
 |[],cs,f,_,_=>rfl
 |r::R,[],f,hl,_=>by cases hl
 |r::R,c::cs,f,hl,h=>by
  have b:=vX R cs f (by simpa using hl) λi ss e=>by have:=h (i+1) ss (by simpa using e);simpa using this
  show ((D.tup [au r,.int c]::hV (R.map au) (LO cs)).filter ue).map Bv=_;rw[Ue];cases r with
  |leaf ss =>
   rw[dm (show ue (.tup [au (.leaf ss),.int c])=ba from rfl),hH,b];have e:c=f ss:=h 0 ss rfl;rw[e];rfl
  |ask a n y =>
   rw[dV (by simp[ue,au]),b];rfl
noncomputable def IU (x:eG):D->fg
 | .tup a=>a.any λd=>match d with | .str y=>dv (y=x) |_=>b0
 |_=>b0
theorem Fk (x:eG)(ss:ak eG):IU x (M8 ss)=dv (x∈ss):=by
 show ((ss.map D.str).any _)=_;rw[any_map]
 induction ss with
 |nil=>simp
 |cons a ss c =>
  rw[Rm,c];by_cases h:a=x
  ·simp[h]
  have b:¬ x=a:=λe=>h e.symm;simp[h,b]
noncomputable def ie (W:ak eG)(a:ak (ak eG)):ak eG:=W.filter λx=>(a.map M8).any (IU x)
theorem yV {W:ak eG}{a:ak (ak eG)}{x:eG}:x∈ie W a↔x∈W/\∃ ss∈a,x∈ss:=by unfold ie;rw[WL,any_map,adC];simp only[Yd,Fk,sX]
theorem vP:∀ (b:ak (ak eG)) (n:Nat),(∀ ss∈b,ss.length<=n)->b.flatten.length<=n*b.length
 |[],n,_=>by simp
 |a::b,n,h=>by
  have:=vP b n λs c=>h s (eJ _ c);have:=h a (gy ..);rw[RA,da,j2,Nat.mul_succ];omega
theorem u7 {R:ak Row}{sh:Sh}{S:Lq}{a:ak (ak eG)}(q:dF [Pp R,LJ sh] (S++[.lst []])=LB (.lst (a.map M8)) (S++[.lst []]))(G:a.length<=600){W:ak eG}(k:Vz W)(C:W.length<=6)(l:∀ ss∈a,ss.length<=6/\∀ x∈ss,x∈W):iG [Pp R,LJ sh] S=LB (M8 (ie W a)) (S++[.lst (a.flatten.map .str)]):=by
 have lf:∀ j,(a.take j).flatten.length<=3600:=λj=>by have:=vP (a.take j) 6 λss c=>(l ss (Jq c)).1;rw[R0] at this;omega
 obtain⟨E,i,r,x,rfl,rfl⟩:=bF (u:=aB 3) (body:=iE) (λj b i => ∃ x,b=[ag (Pp R),ag (LJ sh),ag (#[11]),x]/\i=S++[.lst ((a.take j).flatten.map .str)])
  (a.map M8) 0 [ag (Pp R),ag (LJ sh),ag (#[11]),ay] (S++[.lst []]) ⟨ay,rfl,rfl⟩ (by
   rintro j d b i hd ⟨x,rfl,rfl⟩;rw[mi];rw[hF] at hd;obtain⟨ss,c,rfl⟩:=en.mp hd;have s:a.take (j+1)=a.take j++[ss]:=by rw[aam,c];rfl
   have o:=lf (j+1);rw[s,acg,da,show [ss].flatten=ss by simp] at o;refine⟨[ag (Pp R),ag (LJ sh),ag (#[11]),ag (M8 ss)],rfl,[ag (Pp R),ag (LJ sh),ag (#[11]),ag (M8 ss)],_,?_,_,rfl,rfl⟩;rw[s,acg,show [ss].flatten=ss by simp];have lo:cR (#[11]) (S++[.lst ((a.take j).flatten.map .str)])=ag ((a.take j).flatten.map .str):=by unfold cR;simp
   have ex:Bp (#[11]) (M8 ss) (S++[.lst ((a.take j).flatten.map .str)])=LB .LN (S++[.lst (((a.take j).flatten++ss).map .str)]):=by
    unfold Bp;have g:(S++[MO.lst ((a.take j).flatten.map .str)])[S.length]?=ag (.lst ((a.take j).flatten.map .str)):=by simp
    simp only[g];rw[dm (hA (show _<=3600 by rw[d7,d7];exact o) #[2]),X0 _ _ (hB _),aeh,Q5];rfl
   generalize S++[MO.lst (((a.take j).flatten++ss).map .str)]=S2 at *
   generalize S++[MO.lst ((a.take j).flatten.map .str)]=n at *
   generalize M8 ss=sd at *
   generalize Pp R=rd at *
   generalize LJ sh=hd at *
   have Dx:∀ (f:Lk D) b S,qe f b S=ai (f b S) λ_ n=>LB (.next b) n:=λ_ _ _=>rfl;unfold iE Hs
   simp -implicitDefEqProofs [Dx,lo,ex])
 rw[mi,d7,YP] at r;have w:=lf a.length;rw[YP] at w;have nd:(ie W a).Nodup:=(AV k).sublist ZT;have F:(ie W a).length<=6:=hA (abp ..) C;have n1:=pK a.flatten [] XX
 have p:(a.flatten.foldl dM []).Perm (ie W a):=(ZU n1 nd).mpr λx=>by
  rw[rO,yV,adg];refine⟨λh=>?_,λh => .inr h.2⟩;rcases h with h |⟨ss,c,m⟩
  ·cases h
  exact⟨(l ss c).2 x m,ss,c,m⟩
 have B:i6 (a.flatten.map .str)=ag (.lst ((ie W a).map .str)):=by unfold i6;rw[dm (by rw[d7];omega),rG,m4];have e:=vJ a.flatten [];rw[aaU] at e;rw[e,mx];have z:(a.flatten.foldl dM []).map (U2 ∘ W6)=(a.flatten.foldl dM []).map D.str:=rfl;rw[z,Au _ (by rw[p.length_eq];omega)];have t:=(fD (ET k (show (ie W a).Sublist W from ZT)).2).imp λ{x y} q=>zb q;rw[← k6 p.symm t];rfl
 have lo:cR (#[11]) (S++[.lst (a.flatten.map .str)])=ag (a.flatten.map .str):=by unfold cR;simp
 have A:=BK ((ie W a).map .str);have sl:ck (.lst (a.map M8))=ag (a.map M8):=rfl;rw[4];show kG [ag (Pp R),ag (LJ sh),ay,ay] S=_;show _=LB (Fl.ret (.tup ((ie W a).map .str))) _;generalize D.lst (a.map M8)=ld at *
 generalize a.map M8=l3 at *
 generalize (ie W a).map D.str=out at *
 generalize S++[MO.lst (a.flatten.map .str)]=S2 at *
 generalize a.flatten.map D.str=fl at *
 have v:∀ b,wc b S=LB (#[11]) (S++[.lst []]):=λ_=>rfl;generalize Pp R=rd at *
 generalize LJ sh=sd at *
 unfold kG mW;simp -implicitDefEqProofs [v,q,sl,r,lo,B,A]
section
variable {m:Nat}{ts:ak Int}{o:ak Nat}{R:ak Row}
theorem EU (t:dG m ts)(w:Wr o R)(B:∀ c∈o,c<m)(S:Lq){p:Nat}{ss:ak eG}(e:Ev R (tv ts) p ss):∀ {r:Row}{fuel:Nat},R[p]?=ag r->o.length+1<=fuel+LI.pl o R p->eS dU b9 fuel [ag (.tup (R.map au)),ag (Od ts),ag (au r)] S=LB (.next [ag (.tup (R.map au)),ag (Od ts),ag (au (.leaf ss))]) S:=by
 have step:∀ {p c n y:Nat}{fuel:Nat},R[p]?=ag (.ask c n y)->o.length+1<=fuel+LI.pl o R p->∃ f,fuel=f+1/\o.length+1<=f+LI.pl o R n/\o.length+1<=f+LI.pl o R y/\c<m/\n<R.length/\y<R.length:=by
  intro p c n y fuel a b;have C:LI.pl o R p=#[12]:=by unfold LI.pl;rw[a]
  have F:p<R.length:=(b5.mp a).1;obtain⟨a1,a2,E,D,G⟩:=w p _ a;have:#[12]<o.length:=m3.mpr a1;exact⟨fuel-1,#[1],#[1],#[1],B c a1,#[1],#[1]⟩
 have k:∀ r:Row,dU [ag (.tup (R.map au)),ag (Od ts),ag (au r)] S=LB (match r with | .leaf _=>b0 | .ask _ _ _=>ba) S:=λr=>by have:=iF r S;unfold dU;cases r<;>simp[this]
 induction e with
 | @leaf p ss a =>
  intro r fuel hr b;rw[a] at hr;cases hr;have C:LI.pl o R p=o.length:=by unfold LI.pl;rw[a]
  obtain⟨fuel,rfl⟩:∃ f,fuel=f+1:=⟨fuel-1,#[1]⟩;rw[eS,k];rfl
 | @no p c n y ss a h _ l =>
  intro r fuel hr b;obtain⟨fuel,rfl,s,v,hc,x,u⟩:=step a b;rw[a] at hr;cases hr;have d:=FN t hc S;rw[h] at d;have q:Mn (au (.ask c n y)) (.int 0) S=ag (.int c):=Sl _ _ S;have z:Mn (au (.ask c n y)) (.int 1) S=ag (.int n):=Tw _ _ _ S;have g:R[n]?=ag R[n]:=bc x;have j:=zD S g;have i:b9 [ag (.tup (R.map au)),ag (Od ts),ag (au (.ask c n y))] S=LB (.next [ag (.tup (R.map au)),ag (Od ts),ag (au R[n])]) S:=by unfold b9;simp[q,d,z,j,-mx]
  rw[eS,k];simp only[cI,n7,i];exact l g s
 | @yes p c n y ss a h _ l =>
  intro r fuel hr b;obtain⟨fuel,rfl,s,v,hc,x,u⟩:=step a b;rw[a] at hr;cases hr;have d:=FN t hc S;rw[h] at d;have q:Mn (au (.ask c n y)) (.int 0) S=ag (.int c):=Sl _ _ S;have A:Mn (au (.ask c n y)) (.int 2) S=ag (.int y):=at2 _ _ _ _ S;have g:R[y]?=ag R[y]:=bc u;have j:=zD S g;have i:b9 [ag (.tup (R.map au)),ag (Od ts),ag (au (.ask c n y))] S=LB (.next [ag (.tup (R.map au)),ag (Od ts),ag (au R[y])]) S:=by unfold b9;simp[q,d,A,j,-mx]
  rw[eS,k];simp only[cI,n7,i];exact l g v
theorem uu (d:dG m ts)(w:Wr o R)(b:∀ c∈o,c<m)(g:o.length<=18){ss:ak eG}(e:Ev R (tv ts) (R.length-1) ss)(S:Lq):gF [.tup (R.map au),Od ts] S=LB (.tup (ss.map .str)) S:=by
 obtain⟨r,hr⟩:∃ r,R[R.length-1]?=ag r:=by cases e with
  |leaf h=>exact⟨_,h⟩
  |no h=>exact⟨_,h⟩
  |yes h=>exact⟨_,h⟩
 have q:=EU d w b S e (fuel:=20) hr #[0];have a:Mn (au (.leaf ss)) (.int 1) S=ag (.tup (ss.map .str)):=Tw _ _ _ S;have f:=Bm S hr;rw[4];unfold nL;simp[vh,f,um,q,a,-mx]
end
theorem Fc {a b c:eG}(h:NT a c=ba):NT a b=ba∨NT b c=ba:=by
 by_cases e:NT b c=ba
 ·exact .inr e
 refine .inl ?_;have d:Oi c b=ba:=by unfold Oi;simpa using e
 have f:=zb h;have g:=jI _ _ _ f d;refine io g λz=>e ?_;rw[← z];exact h
theorem y_:∀ a b c:ak eG,Nb a c=ba->Nb a b=ba∨Nb b c=ba
 |[],[],[],h=>by cases h
 |[],[],_::_,_ => .inr rfl
 |[],_::_,[],h=>by cases h
 |[],_::_,_::_,_ => .inl rfl
 |_::_,_,[],h=>by cases h
 |_::_,[],_::_,_ => .inr rfl
 |a::as,b::bs,c::cs,h=>by
  rw[Nb] at h;rw[Nb,Nb];by_cases e:a=b
  ·subst e;rw[dm rfl];by_cases d:a=c
   ·rw[dm d] at h ⊢;exact y_ as bs cs h
   rw[dV d] at h ⊢;exact .inr h
  rw[dV e];by_cases d:b=c
  ·subst d;rw[dV e] at h;exact .inl h
  rw[dV d];by_cases f:a=c
  ·subst f;cases q:Fd a b with
   |true=>exact #[9]
   |false=>exact .inr (io (show Oi b a=ba by unfold Oi;rw[show NT a b=b0 from q];rfl) d)
  rw[dV f] at h;exact Fc h
theorem A9 (a b c:ak eG)(h:Om a b=ba)(g:Om b c=ba):Om a c=ba:=by
 unfold Om at *
 cases q:Nb c a with
 |false=>rfl
 |true =>
  rcases y_ c b a q with z |z
  ·rw[z] at g;cases g
  rw[z] at h;cases h
theorem A_ (a b:ak eG):(Om a b ||Om b a)=ba:=by
 unfold Om;cases q:Nb b a with
 |false=>rfl
 |true =>
  cases q2:Nb a b with
  |false=>rfl
  |true =>
   exfalso
   have:∀ x y:ak eG,Nb x y=ba->Nb y x=b0:=λx y=>by
    induction x generalizing y with
    |nil=>intro h;cases y with
     |nil=>cases h
     |cons _ _=>rfl
    |cons a d c=>intro h;cases y with
     |nil=>cases h
     |cons b bs =>
      rw[Nb] at h ⊢;by_cases e:a=b
      ·rw[dm e] at h;rw[dm e.symm];exact c bs h
      rw[dV e] at h;rw[dV (lC e)];cases z:Fd b a with
      |false=>rfl
      |true =>
       have:=rE (show NT a b=ba from h) (show NT b a=ba from z);rw[pF] at this;cases this
   rw[this _ _ q] at q2;cases q2
theorem Ad:∀ x:ak eG,jZ Gg (x.map D.str)=ag x
 |[]=>rfl
 |a::x=>by rw[hH,jZ,Ad x];rfl
theorem HR (x:ak eG):X3 (Ua x)=ag x:=Ad x
theorem yr:∀ a:ak (ak eG×Int),jZ U9 (a.map Mo)=ag a
 |[]=>rfl
 |p::a=>by
  rw[hH,jZ,yr a];have:U9 (Mo p)=ag p:=by show (X3 (Ua p.1)).map (λx=>(x,p.2))=ag p;rw[HR];rfl
  rw[this];rfl
section
variable {o:ak Nat}{m:Nat}{t:Tr}{d:D}
theorem BP (w:Wr o #[5])(d:o.Perm (gx m))(ev:∀ a,Ev #[5] a (#[5].length-1) (Md t a))(a:Th):∃ ts,dG m ts/\Md t (tv ts)=Md t a:=by
 have e:∀ c,c<m->tv ((gx m).map λc=>if a c=ba then 1 else 0) c=a c:=λc hc=>by unfold tv;rw[QJ,hF,Zz hc];cases hv:a c<;>simp[hv]
 refine⟨(gx m).map λc=>if a c=ba then 1 else 0,⟨by simp,λx b=>?_⟩,?_⟩
 ·obtain⟨c,_,rfl⟩:=vl.mp b;split
  ·exact .inr rfl
  exact #[9]
 exact(ev _).det ((ev a).congr w λc hc=>(e c (aaB.mp (d.mem_iff.mp hc))).symm)
noncomputable def cA (sh:Sh) (t:Tr) (ss:ak eG):Nat:=cnt sh.length λa=>MS sh (tv a)/\Md t (tv a)=ss
theorem Fh {sh:Sh}(ev:∀ a,Ev #[5] a (#[5].length-1) (Md t a)){i:Nat}{ss:ak eG}(b:#[5][i]?=ag (.leaf ss)):cN #[5] sh i=cA sh t ss:=by unfold cN cA;refine aZ λc _=>?_;rw[DC ev b]
noncomputable abbrev Pq (sh:Sh) (t:Tr) (ss:ak eG):ak eG×Int:=(ss,(cA sh t ss:Int))
theorem pZ {sh:Sh}(w:Wr o #[5])(J:o.Perm (gx sh.length))(K:#[5].length<3000)(ev:∀ q,Ev #[5] q (#[5].length-1) (Md t q))(S:Lq) :
  jS [a_ t,LJ sh] S=LB (.lst (((N3 #[5]).map (Pq sh t)).map Mo)) S:=by
 obtain⟨a,p,B,hc⟩:=p7 w J (zN t) #[0] S;have rows:=vX #[5] a (λb=>cA sh t b) B λi b h=>by rw[hc i (b5.mp h).1];exact Fh ev h
 have rows:((hV (#[5].map au) (LO a)).filter ue).map Bv=((N3 #[5]).map (Pq sh t)).map Mo:=by rw[rows,mx];rfl
 generalize m:enc (po t [])=R at *
 have H:a_ t = .tup (R.map au):=by show D.tup (#[5].map au)=_;rw[m]
 rw[H];have I:Ak [.tup (R.map au),.lst (LO a)]=ag (hV (R.map au) (LO a)):=rfl
 have s:=fV (u:=ft 2 (aK (aB 0) (aK (aB 1) ca))) (gt:=eA) (fe:=gr) (λρ => ∃ x y,ρ=[x,y]) ue Bv S (hV (R.map au) (LO a)) (cg 2 [] [ag (.tup (R.map au)),ag (LJ sh)]) ⟨ay,ay,rfl⟩ (by
  rintro d hd ρ ⟨x,y,rfl⟩;obtain⟨i,j⟩:=QV hd;have F:=(b5.mp j).1;rw[cW,d7,d7] at F;have hr:R[i]?=ag (R[i]'#[0]):=bc #[0];have C:i<a.length:=#[1]
  rw[kT (R.map au) (LO a) i (by rw[hF,hr];rfl) (by rw[hF,bc C];rfl)] at j;have j:=(ja j).symm;subst j;show ∃ g,_/\_/\eA g S=LB (ue (.tup [au (R[i]'#[0]),.int (a[i]:Nat)])) S/\(ue (.tup [au (R[i]'#[0]),.int (a[i]:Nat)])=ba->gr g S=LB (Bv (.tup [au (R[i]'#[0]),.int (a[i]:Nat)])) S);generalize R[i]'#[0]=r at hr ⊢;have l:=iF r S;refine⟨[ag (au r),ag (.int (a[i]:Nat))],rfl,⟨_,_,rfl⟩,?_,λE=>?_⟩
  ·have:∀ (k:fg) (e:D),eZ [e] S=LB (.bl k) S->∀ z,eA [ag e,ag z] S=LB (!k) S:=λk e l z=>by
    unfold eA;simp[l]
   cases r with
   |leaf b=>exact this b0 _ l _
   |ask c n y=>exact this ba _ l _
  cases r with
  |ask c n y=>exact ku E (by simp[ue,au])
  |leaf b =>
   generalize ((a[i]:Nat):Int)=z at *
   have v:Mn (au (.leaf b)) (.int 1) S=ag (M8 b):=Tw _ _ _ S;have G:Bv (.tup [au (.leaf b),.int z]) = .tup [M8 b,.int z]:=rfl;have z1:N4 [M8 b,.int z] (.tup [M8 b,.int z])=ag (.tup [M8 b,.int z]):=bY #[3];rw[G];generalize au (.leaf b)=e at *
   generalize M8 b=nd at *
   unfold gr
   simp[v,z1])
 rw[rows] at s
 have A:=forget_eq (f:=aQ bv (ah (af 0) (ah (af 1) aC))) (ρ:=[ag (.tup (R.map au)),ag (LJ sh)]) (S:=S) (xs:=LO a) (by
  generalize S++[MO.lst (LO a)]=S2 at *
  generalize D.tup (R.map au)=e at *
  generalize LJ sh=sd at *
  simp[p]) (tW _ _) (hA (show (LO a).length<=3000 by rw[d7];omega) #[2])
 rw[4];clear p rows hc w ev;generalize hV (R.map au) (LO a)=zl at *
 generalize LO a=nc at *
 show mO [ag (.tup (R.map au)),ag (LJ sh)] S=_;generalize ((N3 R).map (Pq sh t)).map Mo=out at *
 generalize D.tup (R.map au)=e at *
 generalize LJ sh=sd at *
 unfold mO;simp[A,I,s]
theorem xL (k:KQ m 5 d)(h:Ord o t)(n:∀ c ss,Kv c d ss->Md t c=ss)(w:Wr o #[5])(q:o.Perm (gx m))(ev:∀ c,Ev #[5] c (#[5].length-1) (Md t c)) :
  (N3 #[5]).Nodup/\(N3 #[5]).length<=32/\∀ ss,ss∈N3 #[5]↔∃ ts,dG m ts/\Md t (tv ts)=ss:=by
 have nd:(N3 #[5]).Nodup:=mI λi j ss a b=>vC a b;refine⟨nd,?_,λss=>?_⟩
 ·obtain⟨K,p,v⟩:=Fi k;refine hA (zF nd λss r=>?_) p;obtain⟨i,f⟩:=NS.mp r;obtain⟨c,e⟩:=zn h f;obtain⟨x,g⟩:=k.total c;rw[← e,n _ _ g];exact v _ _ g
 rw[NS];rw[3]
 ·rintro⟨i,f⟩;obtain⟨c,e⟩:=zn h f;obtain⟨ts,s,u⟩:=BP w q ev c;exact⟨ts,s,by rw[u,e]⟩
 rintro⟨ts,_,rfl⟩;obtain⟨j,l,_⟩:=Ds (ev (tv ts)) ⟨0,rfl⟩;exact⟨j,l⟩
noncomputable def Mh (m:Nat):Sh:=ih m ay
noncomputable def Na (m:Nat) (t:Tr):ak (ak eG×Int):=((N3 #[5]).map (Pq (Mh m) t)).mergeSort λa b=>Om a.1 b.1
theorem Bs (f:m<=10)(j:KQ m 5 d)(e:Ord o t)(h:∀ a ss,Kv a d ss->Md t a=ss)(w:Wr o #[5])(b:o.Perm (gx m))(i:#[5].length<3000)(ev:∀ a,Ev #[5] a (#[5].length-1) (Md t a))(S:Lq) :
  qj [a_ t,.int m] S=LB (.tup ((Na m t).map Mo)) S:=by
 obtain⟨nd,k,_⟩:=xL j e h w b ev;have c:=pZ (sh:=Mh m) w (by unfold Mh;rw[K2];exact b) i ev S;have g:d8 [.int m] S=LB (LJ (Mh m)) S:=blank_eq (m:=m) f S;have so:mC [.lst (((N3 #[5]).map (Pq (Mh m) t)).map Mo)]=ag (.lst ((Na m t).map Mo)):=by show (jZ U9 (((N3 #[5]).map (Pq (Mh m) t)).map Mo)).bind _=_;rw[yr,m4,dm ⟨by rw[d7];omega,by rw[mx];exact(map_id _).symm▸nd⟩];rfl
 rw[4];show pP [ag (a_ t),ag (.int m)] S=_;generalize (Na m t).map Mo=out at *
 have tp:iU [.lst out]=ag (.tup out):=rfl;generalize ((N3 #[5]).map (Pq (Mh m) t)).map Mo=l1 at *
 generalize a_ t=fd at *
 generalize LJ (Mh m)=sd at *
 unfold pP;simp[c,g,so,tp]
end
theorem ow {α:Type}{u:D->Lr->a9 Lr}{gt:Lk fg}{fe:Lk D}(k f : α->D)(I:Lr->Prop)(c : α->fg)(S:Lq) :
  ∀ (as:ak α) (ρ:Lr),I ρ->(∀ a∈as,∀ ρ,I ρ->∃ b,u (k a) ρ=ag b/\I b/\gt b S=LB (c a) S/\fe b S=LB (f a) S)->cH u gt fe (as.map k) ρ S=ag ((as.filter c).map f,S)
 |[],ρ,_,_=>rfl
 |a::as,ρ,hI,h=>by
  obtain⟨b,e,j,g,l⟩:=h a (gy ..) ρ hI;have q:=ow (u:=u) (gt:=gt) (fe:=fe) k f I c S as b j λx i=>h x (eJ _ i);have d:∀ {α:Type}(v : α),UL (LB v S)=ag (v,S):=λ_=>rfl;rw[hH,cH,e,m4,g,d,m4,Ue];cases c a with
  |true =>
   simp only[n7];rw[l,d,m4];simp only[q,VM,hH]
  |false=>simp only[lg,r3,q]
theorem vQ {α:Type}(l:ak α):l.filter (λ_=>ba)=l:=acf.mpr λ_ _=>rfl
section
variable {o:ak Nat}{m:Nat}{t:Tr}{d:D}
noncomputable def RU (sh:Sh) (t:Tr):ak (ak eG):=(N3 #[5]).filter λa=>dv (0<cA sh t a)
theorem Fg {sh:Sh}(w:Wr o #[5])(h:o.Perm (gx sh.length))(i:#[5].length<3000)(ev:∀ d,Ev #[5] d (#[5].length-1) (Md t d))(S:Lq) :
  dF [a_ t,LJ sh] S=LB (.lst ((RU sh t).map M8)) S:=by
 have c:=pZ w h i ev S;rw[mx] at c
 have q:=ow (u:=aB 0) (gt:=dJ) (fe:=dP) (Mo ∘ Pq sh t) M8 (λe => ∃ x,e=[x]) (λa=>dv (0<cA sh t a)) S (N3 #[5]) (cg 1 [] [ag (a_ t),ag (LJ sh)]) ⟨ay,rfl⟩ (by
  rintro a _ e ⟨x,rfl⟩;have f:Mn ((Mo ∘ Pq sh t) a) (.int 1) S=ag (.int (cA sh t a:Nat)):=Tw _ _ _ S;have j:Mn ((Mo ∘ Pq sh t) a) (.int 0) S=ag (M8 a):=Sl _ _ S;have g:=tY (cA sh t a);generalize dv (0<cA sh t a)=k at *
  generalize ((cA sh t a:Nat):Int)=z at *
  generalize (Mo ∘ Pq sh t) a=p at *
  generalize M8 a=nd at *
  refine⟨[ag p],rfl,⟨_,rfl⟩,?_,?_⟩
  ·unfold dJ;simp[f,g]
  unfold dP
  simp[j])
 rw[4];show fT [ag (a_ t),ag (LJ sh)] S=_;have sl:∀ b:ak D,ck (.lst b)=ag b:=λ_=>rfl;unfold RU;generalize (N3 #[5]).map (Mo ∘ Pq sh t)=b at *
 generalize ((N3 #[5]).filter λa=>dv (0<cA sh t a)).map M8=out at *
 generalize a_ t=fd at *
 generalize LJ sh=sd at *
 unfold fT;simp[c,sl,q]
theorem w6 (sh:Sh)(t:Tr):∀ U:ak (ak eG),U.Nodup->(U.map (cA sh t)).sum=cnt sh.length λts=>MS sh (tv ts)/\Md t (tv ts)∈U
 |[],_=>(cnt_none λts _ h=>by cases h.2).symm
 |a::U,nd=>by
  obtain⟨b,c⟩:=Ui.mp nd;rw[hH,abU,w6 sh t U c];unfold cA;rw[← mR λts _ p q=>b (by rw[← p.2];exact q.2)];refine aZ λts _=>?_;rw[f5];rw[3]
  ·rintro (⟨p,q⟩ |⟨p,q⟩)
   ·exact⟨p,.inl q⟩
   exact⟨p,.inr q⟩
  rintro⟨p,q |q⟩
  ·exact .inl ⟨p,q⟩
  exact .inr ⟨p,q⟩
theorem oy (m:Nat):(Mh m).length=m:=by unfold Mh;rw[K2]
theorem FD (m:Nat)(a:Th):MS (Mh m) a:=λc b hc=>by unfold Mh at hc;rw[Sv] at hc;split at hc<;>cases hc
theorem sy (m:Nat):cF (Mh m)=m:=by unfold cF Mh;rw[List.filter_replicate];simp
theorem xv (m:Nat)(t:Tr):∃ U:ak (ak eG),Na m t=U.map (Pq (Mh m) t)/\U.Perm (N3 #[5]):=by
 have a:(Na m t).Perm ((N3 #[5]).map (Pq (Mh m) t)):=S8 _ _;refine⟨(Na m t).map (·.1),?_,?_⟩
 ·rw[mx]
  conv=>lhs;rw[← map_id (Na m t)]
  refine y2 λp b=>?_;obtain⟨c,_,rfl⟩:=vl.mp (a.mem_iff.mp b);rfl
 have:=a.map (·.1);rw[mx] at this;exact this.trans (by rw[show ((λx:ak eG×Int=>x.1) ∘ Pq (Mh m) t)=id from rfl,map_id])
theorem yG {α:Type}(f : α->Nat):∀ l:ak α,(l.map λa=>(f a:Int)).sum=((l.map f).sum:Nat)
 |[]=>rfl
 |a::l=>by rw[hH,abU,yG f l,hH,abU];omega
theorem yH {α:Type}(f : α->Nat)(l:ak α):w8 [.lst (l.map λa=>D.int (f a))]=ag (.int ((l.map f).sum:Nat)):=by
 have e:(l.map λa=>D.int (f a))=(l.map λa=>(f a:Int)).map D.int:=by rw[mx];rfl
 show (bP _).map _=_;rw[e,Me,VM,yG]
theorem min_mem:∀ (r:ak Int) (n:Int),r.foldl (λa b=>if b<a then b else a) n∈n::r
 |[],n=>by simp
 |a::r,n=>by
  rw[UU];have:=min_mem r (if a<n then a else n);rcases f5.mp this with h |h
  ·rw[h];split
   ·simp
   simp
  simp[h]
theorem E9 {α:Type}(f : α->Nat){l:ak α}(d:l≠[])(h:∀ a∈l,0<f a):∃ k:Int,pD [.lst (l.map λa=>D.int (f a))]=ag (.int k)/\1<=k:=by
 have e:(l.map λa=>D.int (f a))=(l.map λa=>(f a:Int)).map D.int:=by rw[mx];rfl
 cases l with
 |nil=>exact ku rfl d
 |cons a l =>
  refine⟨_,show (bP _).bind _=_ by rw[e,Me,m4];rfl,?_⟩;have q:=min_mem (l.map λa=>(f a:Int)) (f a);rw[← hH (f:=λa=>(f a:Int))] at q;obtain⟨b,hb,c⟩:=vl.mp q;have:=h b hb;exact ac0 (show (1:Int)<=f b by omega) (Int.le_of_eq c)
abbrev SM (p:ak eG×Int):la:=.tuple [.tuple (p.1.map .str),.int p.2]
theorem Co:∀ P:ak (ak eG×Int),cY (P.map Mo)=ag (P.map SM)
 |[]=>rfl
 |p::P=>by
  rw[hH,cY,Co P];have:toPy (Mo p)=ag (SM p):=by simp[Mo,Ua,SM,toPy,cY,hZ]
  rw[this];rfl
theorem r8:∀ P:ak (ak eG×Int),QK (P.map SM)<=2
 |[]=>by simp[QK]
 |p::P=>by
  have b:=r8 P;have a:(SM p).depth<=2:=by simp[SM,wt,QK,pV]
  rw[hH,QK];omega
theorem zJ:∀ P:ak (ak eG×Int),ti (P.map SM) (P.map SM)=ba
 |[]=>rfl
 |p::P=>by
  rw[hH,ti,zJ P];simp[SM,iv,ti,pR]
theorem EZ (P:ak (ak eG×Int)):PV (.lst (P.map Mo)) (.lst (P.map Mo))=ag (.bl b0):=by
 have hd:=r8 P;have a:toPy (.lst (P.map Mo))=ag (.list (P.map SM)):=by rw[toPy,Co];rfl
 unfold PV;rw[a];simp only[iv,zJ];rw[dm (by simp only[wt];omega)];rfl
theorem BY {m:Nat}{t:Tr}(nd:(N3 #[5]).Nodup)(i:(N3 #[5]).length<=32):mC [.tup ((Na m t).map Mo)]=ag (.lst ((Na m t).map Mo)):=by
 obtain⟨U,g,f⟩:=xv m t;have h:(Na m t).mergeSort (λa b=>Om a.1 b.1)=Na m t:=List.mergeSort_of_pairwise (SX (le:=λ(a b:ak eG×Int)=>Om a.1 b.1) (λa b c=>A9 a.1 b.1 c.1) (λa b=>A_ a.1 b.1) _);have e:(Na m t).length<=32:=by rw[g,d7,f.length_eq];exact i
 have d:((Na m t).map (·.1)).Nodup:=by rw[g,mx,show ((λx:ak eG×Int=>x.1) ∘ Pq (Mh m) t)=id from rfl,map_id];exact f.nodup_iff.mpr nd
 show (jZ U9 ((Na m t).map Mo)).bind _=_;rw[yr,m4,dm ⟨#[1],d⟩,h]
theorem oA {sh:Sh}{k:Nat}(d:sh[k]?=ag ay)(b:fg)(a:Th):MS (sh.set k (ag b)) a↔MS sh a/\a k=b:=by
 have f:=(b5.mp d).1;rw[3]
 ·intro h;refine⟨λc v hc=>?_,h k b (by rw[L1 f])⟩;by_cases e:k=c
  ·subst e;rw[d] at hc;cases hc
  exact h c v (by rw[TL e];exact hc)
 rintro⟨g,i⟩ c v hc;by_cases e:k=c
 ·subst e;rw[L1 f] at hc;cases hc;exact i
 rw[TL e] at hc;exact g c v hc
theorem Fw {sh:Sh}{k:Nat}(c:sh[k]?=ag ay)(P:ak Int->Prop):cnt sh.length (λts=>MS sh (tv ts)/\P ts)=cnt sh.length (λts=>MS (sh.set k (ag b0)) (tv ts)/\P ts)+cnt sh.length (λts=>MS (sh.set k (ag ba)) (tv ts)/\P ts):=by
 rw[← mR λts _ p q=>by
  have a:=((oA c b0 _).mp p.1).2;have b:=((oA c ba _).mp q.1).2
  rw[a] at b;cases b]
 refine aZ λts _=>?_;rw[oA c,oA c];rw[3]
 ·rintro⟨p,q⟩;cases h:tv ts k with
  |false=>exact .inl ⟨⟨p,rfl⟩,q⟩
  |true=>exact .inr ⟨⟨p,rfl⟩,q⟩
 rintro (⟨⟨p,_⟩,q⟩ |⟨⟨p,_⟩,q⟩)
 ·exact⟨p,q⟩
 exact⟨p,q⟩
theorem IZ {sh:Sh}{P:ak Int->fg}{ts:ak Int}(h:fS sh P=ag ts):dG sh.length ts/\MS sh (tv ts)/\P ts=ba:=by
 classical
 have q:=zH sh (λts=>dv (MS sh (tv ts)/\P ts=ba)) P λts _=>by rw[decide_eq_true_iff]
 rw[h] at q;have a:=List.mem_of_mem_head? (Option.mem_def.mpr q);obtain⟨b,c⟩:=WL.mp a;exact⟨LP.mp b,ll c⟩
end
theorem xE (a b:fg)(h:a=b):PV (.bl a) (.bl b)=ag (.bl b0):=by subst h;cases a<;>simp[PV,toPy,iv,wt]
theorem tJ (a b:Nat)(h:a=b):PV (.int a) (.int b)=ag (.bl b0):=by subst h;simp
theorem zU {m k:Nat}(b:m<=10){sh:Sh}(c:sh.length=m)(d:k<m)(v:fg) :
  ∃ x1 x2 a:D,Pj (LJ sh) ay (ag (k:Int))=ag x1/\Pj (LJ sh) (ag ((k:Int)+1)) ay=ag x2/\bh x1 (.tup [.int (if v=ba then 1 else 0)])=ag a/\bh a x2=ag (LJ (sh.set k (ag v))):=by
 refine⟨.tup ((sh.take k).map L3),.tup ((sh.drop (k+1)).map L3),.tup ((sh.take k).map L3++[L3 (ag v)]),?_,?_,?_,?_⟩
 ·show ag (D.tup (jX (sh.map L3) ay (ag (k:Int))))=_;rw[ya,abO]
 ·show ag (D.tup (jX (sh.map L3) (ag (((k+1:Nat)):Int)) ay))=_;rw[yc,abP]
 ·rw[g_,dm (hA (show _<=1000 by simp;omega) #[2])];rfl
 rw[g_,dm (hA (show _<=1000 by simp;omega) #[2]),W4,dm #[0]];simp[LJ]
theorem E6 {m:Nat}(b : 1<=m)(a:m<=10):vk (.tup [.LN]) (.int m)=ag (LJ (Mh m)):=by
 have e:LJ (Mh m) = .tup (ih m D.LN):=by unfold LJ Mh;rw[Z4];rfl
 rw[e];unfold vk;simp only;by_cases h:m=1
 ·subst h;rfl
 rw[dV #[0],CU,dm ⟨#[1],#[1],by simp,by simp⟩];congr 2;rw[TY];clear e h b a
 induction m with
 |zero=>rfl
 |succ m c=>rw[Dd,RA,c];rfl
theorem Jk {m:Nat}(r:m<=10){sh:Sh}(c:sh.length=m){fd:D}{x:eG}{f:Sh->Nat}(j:∀ (sh:Sh) (S:Lq),sh.length=m->bL [fd,.str x,LJ sh] S=LB (.int (f sh:Nat)) S)
  (d:∀ k,sh[k]?=ag ay->f sh=f (sh.set k (ag b0))+f (sh.set k (ag ba))) (s a1 a2 z t n l b:a9 D) (u:Lr) (S:Lq) {k:Nat}(y:k<m) :
  ∃ E,jR (s::a1::a2::z::t::ag fd::n::ag (LJ sh)::ag (.str x)::l::ag (.int (f sh:Nat))::ag (.int k)::b::u) S=LB (.next (s::a1::a2::z::t::ag fd::n::ag (LJ sh)::ag (.str x)::l::ag (.int (f sh:Nat))::ag (.int k)::E::u)) S:=by
 have i:sh[k]?=ag (sh[k]'#[0]):=bc #[0];have a:=FQ i S;cases hv:sh[k]'#[0] with
 |some v =>
  rw[hv] at a;have h:RH (L3 (ag v)) .LN=ag (.bl b0):=rfl;refine⟨b,?_⟩;generalize L3 (ag v)=sv at *
  generalize LJ sh=sd at *
  unfold jR;simp[a,h]
 |none =>
  rw[hv] at a i;have h:RH (L3 ay) .LN=ag (.bl ba):=rfl;obtain⟨x1,x2,B,w,q,e,G⟩:=zU r c y b0;obtain⟨A,I,H,o,p,g,C⟩:=zU r c y ba;have e:bh x1 (.tup [.int 0])=ag B:=e;have g:bh A (.tup [.int 1])=ag H:=g;have n1:=j (sh.set k (ag b0)) S (by rw[J7];exact c);have n2:=j (sh.set k (ag ba)) S (by rw[J7];exact c);have F:=d k i;have ne:PV (.int (f sh:Nat)) (.int ((f (sh.set k (ag b0)):Int)+(f (sh.set k (ag ba)):Int)))=ag (.bl b0):=by have:=tJ _ _ F;rwa [Int.natCast_add] at this
  refine⟨ag (.int (f (sh.set k (ag b0)):Nat)),?_⟩;rw[w] at o;rw[q] at p;cases o;cases p;generalize (f (sh.set k (ag b0)):Int)=z1 at *
  generalize (f (sh.set k (ag ba)):Int)=z2 at *
  generalize (f sh:Int)=z0 at *
  generalize LJ (sh.set k (ag b0))=s1 at *
  generalize LJ (sh.set k (ag ba))=s2 at *
  generalize L3 ay=sv at *
  generalize LJ sh=sd at *
  unfold jR;simp[a,h,w,q,e,G,g,C,xS,n1,n2,ne]
theorem Jj {sh:Sh}{ts:ak Int}(E:ts.length=sh.length)(ok:dG sh.length ts)(A:MS sh (tv ts))(hd:ak (a9 D))(i:hd.length=14)(a b:a9 D)(S:Lq) :
  ∃ o q,fj (ft 2 (aK (aB 14) (aK (aB 15) ca))) l0 (hV (sh.map L3) (ts.map .int)) (hd++[a,b]) S=LB (.next (hd++[o,q])) S:=by
 obtain⟨e,k,B,o,q,rfl,rfl⟩:=bF (u:=ft 2 (aK (aB 14) (aK (aB 15) ca))) (body:=l0) (λ_ g k => ∃ a b,g=hd++[a,b]/\k=S) (hV (sh.map L3) (ts.map .int)) 0 (hd++[a,b]) S ⟨a,b,rfl,rfl⟩ (by
  rintro j d g k n ⟨a,b,rfl,rfl⟩;have C:=(b5.mp n).1;rw[cW,d7,d7] at C;have l:sh[j]?=ag (sh[j]'#[0]):=bc #[0];have w:ts[j]?=ag (ts[j]'#[0]):=bc #[0];rw[kT (sh.map L3) (ts.map .int) j (by rw[hF,l];rfl) (by rw[hF,w];rfl)] at n;cases n;have t:∀ (x y:a9 D) (v:D),(hd++[x,y]).set 14 (ag v)=hd++[ag v,y]:=λx y v=>by rw[X0 _ _ #[0],i];rfl
  have m:∀ (x y:a9 D) (v:D),(hd++[x,y]).set 15 (ag v)=hd++[x,ag v]:=λx y v=>by rw[X0 _ _ #[0],i];rfl
  refine⟨hd++[ag (L3 (sh[j]'#[0])),ag (.int (ts[j]'#[0]))],?_,hd++[ag (L3 (sh[j]'#[0])),ag (.int (ts[j]'#[0]))],k,?_,_,_,rfl,rfl⟩
  ·show ((aB 14 _ _).bind λe=>(aB 15 _ e).bind λz=>ca [] z)=_;simp only[Fq,m4,t,m];rfl
  have f:(hd++[ag (L3 (sh[j]'#[0])),ag (.int (ts[j]'#[0]))])[14]?=ag (ag (L3 (sh[j]'#[0]))):=by rw[hO #[0],i];rfl
  have s:(hd++[ag (L3 (sh[j]'#[0])),ag (.int (ts[j]'#[0]))])[15]?=ag (ag (.int (ts[j]'#[0]))):=by rw[hO #[0],i];rfl
  cases hv:sh[j]'#[0] with
  |none =>
   rw[hv] at f;have r:ip (L3 ay) .LN=ag (.bl b0):=rfl;rw[hv] at s;generalize hd++[ag (L3 ay),ag (.int (ts[j]'#[0]))] = g at *
   generalize L3 ay=sv at *
   unfold l0;simp[f,r]
  |some v =>
   rw[hv] at f l;rw[hv] at s;have r:ip (L3 (ag v)) .LN=ag (.bl ba):=rfl;have c:=A j v l;unfold tv at c;rw[QJ,w] at c;have c:dv (ts[j]'#[0]=1)=v:=c
   have ne:PV (L3 (ag v)) (.int (ts[j]'#[0]))=ag (.bl b0):=by
    have p:=ok.2 (ts[j]'#[0]) (Oy _);rcases p with h |h
    ·rw[h] at c ⊢;rw[← c];simp[L3]
    rw[h] at c ⊢;rw[← c];simp[L3]
   generalize hd++[ag (L3 (ag v)),ag (.int (ts[j]'#[0]))] = g at *
   generalize L3 (ag v)=sv at *
   generalize (.int (ts[j]'#[0]):D)=tvv at *
   unfold l0
   simp[f,s,r,ne])
 exact⟨o,q,B⟩
theorem Ji (sc p n r:D){o:ak Nat}{m:Nat}(h1 : 1<=m)(hm:m<=10){sh:Sh}(A:sh.length=m){t:Tr}{d:D}(kq:KQ m 5 d)(ot:Ord o t)(sm:∀ E ss,Kv E d ss->Md t E=ss)(w:Wr o #[5])(G:o.Perm (gx m))(X:#[5].length<3000)
  (ev:∀ E,Ev #[5] E (#[5].length-1) (Md t E)) {W:ak eG}(hW:Vz W) (h6:W.length<=6) (O_:∀ E,∀ x∈Md t E,x∈W) {x:eG}(hx:x∈W) (z9 z10 Ya ZV J C B:a9 D) (S:Lq) :
  ∃ y9 VC VD VE VF Ul Y H,lW [ag sc,ag (.int m),ag p,ag n,ag r,ag (a_ t),ag (.tup ((Na m t).map Mo)),ag (LJ sh),ag (.str x),z9,z10,Ya,ZV,J,C,B] S
   = LB (.next [ag sc,ag (.int m),ag p,ag n,ag r,ag (a_ t),ag (.tup ((Na m t).map Mo)),ag (LJ sh),ag (.str x),y9,VC,VD,VE,VF,Ul,Y]) H:=by
 obtain⟨nd,ZS,QG⟩:=xL kq ot sm w G ev;obtain⟨U,eU,pU⟩:=xv m t;have ZW:U.Nodup:=pU.nodup_iff.mpr nd;have So:∀ ts,dG m ts->Md t (tv ts)∈U:=λts ok=>pU.mem_iff.mpr ((QG _).mpr ⟨ts,ok,rfl⟩);have ZX:∃ f:Sh->Nat,∀ sh,f sh=cnt sh.length (λts=>MS sh (tv ts)/\dv (x∈Md t (tv ts))=ba):=⟨_,λ_=>rfl⟩;obtain⟨f,l⟩:=ZX;have I:∀ (sh:Sh) (S:Lq),sh.length=m->bL [a_ t,.str x,LJ sh] S=LB (.int (f sh:Nat)) S:=λsh S h=>by rw[l];exact qA w (by rw[h];exact G) X ev x S
 have F:∀ k,sh[k]?=ag ay->f sh=f (sh.set k (ag b0))+f (sh.set k (ag ba)):=λk hk=>by rw[l,l,l,J7,J7];exact Fw hk _
 have L:=ow (u:=ft 2 (aK (aB 0) (aK (aB 1) ca))) (gt:=sQ) (fe:=zO) (Mo ∘ Pq (Mh m) t) (λss=>D.int (cA (Mh m) t ss:Nat)) (λN => ∃ a b,N=[a,b,ag (.str x)]) (λss=>dv (x∈ss)) S U [ay,ay,ag (.str x)] ⟨ay,ay,rfl⟩ (by
  rintro ss _ N ⟨a,b,rfl⟩;have e:=lK b0 x ss S;rw[aej] at e;have e:Rf b0 (.str x) (M8 ss) S=ag (.bl (dv (x∈ss))):=e;refine⟨[ag (M8 ss),ag (.int (cA (Mh m) t ss:Nat)),ag (.str x)],rfl,⟨_,_,rfl⟩,?_,rfl⟩;generalize dv (x∈ss)=k at *
  unfold sQ;generalize M8 ss=nd at *
  simp[e])
 have eP:(Na m t).map Mo=U.map (Mo ∘ Pq (Mh m) t):=by rw[eU,mx]
 have s1:=yH (cA (Mh m) t) (U.filter λss=>dv (x∈ss));have n1:f (Mh m)=((U.filter λss=>dv (x∈ss)).map (cA (Mh m) t)).sum:=by rw[w6 _ _ _ (ZW.sublist ZT),l,oy];refine aZ λts ok=>?_;rw[WL];exact⟨λh=>⟨h.1,So ts ok,h.2⟩,λh=>⟨h.1,h.2.2⟩⟩
 have c0:=I (Mh m) S (oy m);have ml:=E6 h1 hm;have P:=tJ _ _ n1;have c1:=I sh S A;have rg:eE [.int m]=ag ((gx m).map λ(k:Nat)=>D.int k):=by have:=xm m #[0] #[0];simpa using this
 have v:=wP A hm w G X ev x S;have V:=Fg (sh:=sh) w (by rw[A];exact G) X ev (S++[.lst []]);have ZY:∀ ss∈RU sh t,ss.length<=6/\∀ x∈ss,x∈W:=λss h=>by obtain⟨ts,ok,e⟩:=(QG ss).mp (WL.mp h).1;obtain⟨s2,kv⟩:=kq.total (tv ts);refine⟨?_,λy hy=>O_ (tv ts) y (by rw[e];exact hy)⟩;have:=G1 kq kv;rw[← sm _ _ kv,e] at this;exact this
 have K:=u7 V (hA (abp ..) #[0]) hW h6 ZY;have K:iG [a_ t,LJ sh] S=_:=K;generalize Ri:S++[MO.lst ((RU sh t).flatten.map .str)]=S1 at K;have pin:=lK b0 x (ie W (RU sh t)) S1;rw[aej] at pin;have pin:Rf b0 (.str x) (M8 (ie W (RU sh t))) S1=ag (.bl (dv (x∈ie W (RU sh t)))):=pin;have g0:=tY (f sh)
 have Qg:dv (0<f sh)=dv (x∈ie W (RU sh t)):=by
  rw[decide_eq_decide,l,MZ,yV];rw[3]
  ·rintro⟨ts,ok,s,U4⟩;rw[A] at ok;refine⟨hx,Md t (tv ts),WL.mpr ⟨(QG _).mpr ⟨ts,ok,rfl⟩,ia ?_⟩,ll U4⟩;unfold cA;rw[MZ];exact⟨ts,by rw[A];exact ok,s,rfl⟩
  rintro⟨_,ss,ZZ,U4⟩;have q:=ll (WL.mp ZZ).2;unfold cA at q;obtain⟨ts,ok,s,e⟩:=MZ.mp q;exact⟨ts,ok,s,ia (by rw[e];exact U4)⟩
 have O:=xE _ _ Qg;have z0:=zL (f sh);have Uo:∀ z a10 a11 Q a13 a14 Z:a9 D,cg 2 [8] [ag sc,ag (.int m),ag p,ag n,ag r,ag (a_ t),ag (.tup ((Na m t).map Mo)),ag (LJ sh),ag (.str x),z,a10,a11,Q,a13,a14,Z]=[ay,ay,ag (.str x)]:=λ_ _ _ _ _ _ _=>rfl;have sq:ck (.tup ((Na m t).map Mo))=ag ((Na m t).map Mo):=rfl
 have R:∀ z Q:a9 D,∃ i g,fj (aB 11) jR ((gx m).map λ(k:Nat)=>D.int k) [ag sc,ag (.int m),ag p,ag n,ag r,ag (a_ t),ag (.tup ((Na m t).map Mo)),ag (LJ sh),ag (.str x),z,ag (.int (f sh:Nat)),Ya,Q,J,C,B] S
   = LB (.next [ag sc,ag (.int m),ag p,ag n,ag r,ag (a_ t),ag (.tup ((Na m t).map Mo)),ag (LJ sh),ag (.str x),z,ag (.int (f sh:Nat)),i,g,J,C,B]) S:=λz Q=>by
  obtain⟨ρ',H,el,i,g,rfl,rfl⟩:=bF (u:=aB 11) (body:=jR) (λ_ N H => ∃ i g,N=[ag sc,ag (.int m),ag p,ag n,ag r,ag (a_ t),ag (.tup ((Na m t).map Mo)),ag (LJ sh),ag (.str x),z,ag (.int (f sh:Nat)),i,g,J,C,B]/\H=S)
   ((gx m).map λ(k:Nat)=>D.int k) 0 _ S ⟨Ya,Q,rfl,rfl⟩ (by
    rintro j d N H hj ⟨i,g,rfl,rfl⟩;obtain⟨rfl,M0⟩:=gR hj;obtain⟨b',eb⟩:=Jk hm A I F (ag sc) (ag (.int m)) (ag p) (ag n) (ag r) (ag (.tup ((Na m t).map Mo))) z g [J,C,B] H M0
    exact⟨_,rfl,_,_,eb,_,_,rfl,rfl⟩)
  exact⟨i,g,el⟩
 obtain⟨i,g,R⟩:=R (ag (.int (((U.filter λss=>dv (x∈ss)).map (cA (Mh m) t)).sum:Nat))) ZV
 have M:∀ ts,dG m ts->∀ S,gF [a_ t,Od ts] S=LB (M8 (Md t (tv ts))) S:=λts ok S =>
  uu ok w (λc hc=>aaB.mp (G.mem_iff.mp hc)) (by rw[G.length_eq,p0];omega) (ev (tv ts)) S
 rw[← eP] at L;have L:=L;cases hw:fS sh (λts=>dv (x∈Md t (tv ts))) with
 |none =>
  have hz:f sh=0:=by
   rcases Nat.eq_zero_or_pos (f sh) with h |h
   ·exact h
   have h : 0<f sh:=h;rw[l,MZ] at h;obtain⟨ts,ok,s,q⟩:=h;have:=(lN sh λts=>dv (x∈Md t (tv ts))).mpr ⟨ts,ok,s,q⟩;rw[hw] at this;cases this
  rw[hw] at v;have v:hU [a_ t,.str x,LJ sh] S=LB .LN S:=v;have i1:RH .LN .LN=ag (.bl ba):=rfl;have i2:ip .LN .LN=ag (.bl b0):=rfl;have Z0:=xE ba (dv (f sh=0)) (by rw[hz];rfl);refine⟨ag (.int (((U.filter λss=>dv (x∈ss)).map (cA (Mh m) t)).sum:Nat)),ag (.int (f sh:Nat)),i,g,ag .LN,C,B,S1,?_⟩;unfold lW;clear Qg V ZY eU eP n1 l I F;generalize (f (Mh m):Int)=k0 at *
  generalize dv (0<f sh)=bb at *
  generalize dv (f sh=0)=bz at *
  generalize (f sh:Int)=k1 at *
  generalize dv (x∈ie W (RU sh t))=bp at *
  generalize M8 (ie W (RU sh t))=np at *
  generalize (((U.filter λss=>dv (x∈ss)).map (cA (Mh m) t)).sum:Int)=ks at *
  generalize ((U.filter λss=>dv (x∈ss)).map λss=>D.int (cA (Mh m) t ss:Nat))=kl at *
  generalize (Na m t).map Mo=pl at *
  generalize LJ (Mh m)=sb at *
  generalize (gx m).map (λ(k:Nat)=>D.int k)=rl at *
  generalize a_ t=fd at *
  generalize LJ sh=sd at *
  simp[Uo,sq,L,s1,ml,c0,P,c1,rg,R,v,g0,K,pin,O,i1,z0,Z0,i2]
 |some ts =>
  obtain⟨ok,s,hq⟩:=IZ hw;have hpf : 0<f sh:=by rw[l,MZ];exact⟨ts,ok,s,hq⟩
  rw[hw] at v;have v:hU [a_ t,.str x,LJ sh] S=LB (Od ts) S:=v;have i1:RH (Od ts) .LN=ag (.bl b0):=rfl;have i2:ip (Od ts) .LN=ag (.bl ba):=rfl;have Z0:=xE b0 (dv (f sh=0)) (by rw[eh #[0]]);have an:=M ts (by rw[← A];exact ok) S1;have T:=lK ba x (Md t (tv ts)) S1;rw[show dv (x∈Md t (tv ts))=ba from hq,Bool.bne_true] at T;have T:Rf ba (.str x) (M8 (Md t (tv ts))) S1=ag (.bl b0):=T;have zd:Ak [LJ sh,Od ts]=ag (hV (sh.map L3) (ts.map .int)):=rfl;obtain⟨Ul,Y,lz⟩:=Jj (sh:=sh) (ts:=ts) ok.1 ok s [ag sc,ag (.int m),ag p,ag n,ag r,ag (a_ t),ag (.tup ((Na m t).map Mo)),ag (LJ sh),ag (.str x),ag (.int (((U.filter λss=>dv (x∈ss)).map (cA (Mh m) t)).sum:Nat)),ag (.int (f sh:Nat)),i,g,ag (Od ts)] rfl C B S1;simp only[R5,WY] at lz;refine⟨ag (.int (((U.filter λss=>dv (x∈ss)).map (cA (Mh m) t)).sum:Nat)),ag (.int (f sh:Nat)),i,g,ag (Od ts),Ul,Y,S1,?_⟩;unfold lW;clear Qg V ZY eU eP n1 l I F M;generalize (f (Mh m):Int)=k0 at *
  generalize dv (0<f sh)=bb at *
  generalize dv (f sh=0)=bz at *
  generalize (f sh:Int)=k1 at *
  generalize dv (x∈ie W (RU sh t))=bp at *
  generalize M8 (ie W (RU sh t))=np at *
  generalize M8 (Md t (tv ts))=na at *
  generalize hV (sh.map L3) (ts.map .int)=zl at *
  generalize (((U.filter λss=>dv (x∈ss)).map (cA (Mh m) t)).sum:Int)=ks at *
  generalize ((U.filter λss=>dv (x∈ss)).map λss=>D.int (cA (Mh m) t ss:Nat))=kl at *
  generalize (Na m t).map Mo=pl at *
  generalize LJ (Mh m)=sb at *
  generalize (gx m).map (λ(k:Nat)=>D.int k)=rl at *
  generalize a_ t=fd at *
  generalize LJ sh=sd at *
  generalize Od ts=td at *
  simp[Uo,sq,L,s1,ml,c0,P,c1,rg,R,v,g0,K,pin,O,i1,z0,Z0,i2,an,T,zd,lz]
theorem G0 (ns:ak Int)(_:ns.length<=63):∃ P,DU [.lst (ns.map .int)] []=ag (.ok (.bl ba),P):=by
 obtain⟨m,W,n,d,o,h1,F,X8,hw,X9,v,kw,p,A⟩:=E_ ns 10 #[2] #[2] [];rw[WY] at A;have A:l6 [.lst (ns.map .int),.int 10] []=LB (.tup [.int m,.tup (W.map .str),d,oD o]) [.dict n]:=A;have nd:o.Nodup:=p.nodup_iff.mpr List.nodup_range;have UM:o.length=m:=by rw[p.length_eq,p0]
 have ho:∀ c,c<m->c∈o:=λc hc=>p.mem_iff.mpr (aaB.mpr hc);obtain⟨t,i,R,I,_,w,ev,K,_,_⟩:=Bl nd #[0] ho (show 5<=10 by decide) v [.dict n];have R:l8 [d,oD o] [.dict n]=LB (a_ t) i:=R;have hR:#[5].length<3000:=by have:=Dw I (show o.length<=10 by omega);omega
 have ct:=Bs F v I K w p hR ev i;obtain⟨y,ZS,Z⟩:=xL v I K w p ev;obtain⟨U,eU,Q⟩:=xv m t;have ZW:U.Nodup:=Q.nodup_iff.mpr y;have N:∀ k,dG m k->Md t (tv k)∈U:=λk ok=>Q.mem_iff.mpr ((Z _).mpr ⟨k,ok,rfl⟩);obtain⟨V,et,QF⟩:=wZ h1 F i;have lt:eV [.lst (Oz V)]=ag (.int (2 ^ m:Nat)):=by show ag (D.int ((Oz V).length:Int))=_;rw[d7,QF]
 have eP:(Na m t).map Mo=U.map (Mo ∘ Pq (Mh m) t):=by rw[eU,mx]
 have g:∀ fe:Lk D,fe=af 1->cH (ft 2 (aK (aB 0) (aK (aB 1) ca))) eO fe ((Na m t).map Mo) [ay,ay] i=ag (U.map λf=>D.int (cA (Mh m) t f:Nat),i):=by
  intro fe O;subst O
  have q:=ow (u:=ft 2 (aK (aB 0) (aK (aB 1) ca))) (gt:=eO) (fe:=af 1) (Mo ∘ Pq (Mh m) t) (λf=>D.int (cA (Mh m) t f:Nat)) (λl => ∃ a b,l=[a,b]) (λ_=>ba) i U [ay,ay] ⟨ay,ay,rfl⟩ (by
   rintro f _ l ⟨a,b,rfl⟩
   exact⟨[ag (M8 f),ag (.int (cA (Mh m) t f:Nat))],rfl,⟨_,_,rfl⟩,rfl,rfl⟩)
  rw[vQ,← eP] at q;exact q
 have p1:=g zQ rfl;have p2:=g zP rfl;have s1:=yH (cA (Mh m) t) U;have s:(U.map (cA (Mh m) t)).sum=2 ^ m:=by rw[w6 _ _ _ ZW,← sy m,← uv,sy];refine aZ λk ok=>?_;rw[oy] at ok;exact⟨λh=>h.1,λh=>⟨h,N k ok⟩⟩
 have ne1:=tJ _ _ s;have ME:U≠[]:=λe=>by have:=N (ih m 0) ⟨by simp,λx r => .inl (List.eq_of_mem_replicate r)⟩;rw[e] at this;cases this
 obtain⟨mk,e3,hmk⟩:=E9 (cA (Mh m) t) ME λf ZZ=>by
  obtain⟨k,ok,e⟩:=(Z f).mp (Q.mem_iff.mp ZZ);unfold cA;rw[MZ,oy];exact⟨k,ok,FD m _,e⟩
 have T:UJ (.int mk) (.int 1)=ag (.bl b0):=by show ag (D.bl (dv (mk<1)))=_;rw[eh #[0]]
 have so:=BY (m:=m) (t:=t) y ZS;have ls:Ff [.tup ((Na m t).map Mo)]=ag (.lst ((Na m t).map Mo)):=rfl;have Y:=EZ (Na m t);have x5:∀ S,bu [.lst (ns.map .int),.int 5] S=LB (.int (mix ns 5)) S:=gW ns 5;obtain⟨X,es,hs⟩:=B5 (mix ns 5) F i;have hW:Vz W:=⟨hw,fw X9⟩;have O_:∀ H,∀ x∈Md t H,x∈W:=λH x r=>by obtain⟨f,kv⟩:=v.total H;rw[K H f kv] at r;exact IL kw kv x r
 have eu:ft 4 (aK (aB 1) (aK (aB 2) (aK (aB 3) (aK (aB 4) ca)))) (.tup [.int m,.tup (W.map .str),d,oD o]) [ag (.lst (ns.map .int)),ay,ay,ay,ay,ay,ay,ay,ay,ay,ay,ay,ay,ay,ay,ay]=ag [ag (.lst (ns.map .int)),ag (.int m),ag (.tup (W.map .str)),ag d,ag (oD o),ay,ay,ay,ay,ay,ay,ay,ay,ay,ay,ay]:=rfl;have sq:ck (.tup ((Na m t).map Mo))=ag ((Na m t).map Mo):=rfl;have sw:ck (.tup (W.map .str))=ag (W.map .str):=rfl;have cp:∀ l:Lr,cg 2 [] l=[ay,ay]:=λ_=>rfl
 obtain⟨ρ',P,el,M,J,G,E,B,z,L,C,rfl⟩:=bF (u:=aB 8) (body:=lW) (λ_ l _ => ∃ M J G E B z L C:a9 D,l=[ag (.lst (ns.map .int)),ag (.int m),ag (.tup (W.map .str)),ag d,ag (oD o),ag (a_ t),ag (.tup ((Na m t).map Mo)),ag (LJ X),M,J,G,E,B,z,L,C])
  (W.map .str) 0 [ag (.lst (ns.map .int)),ag (.int m),ag (.tup (W.map .str)),ag d,ag (oD o),ag (a_ t),ag (.tup ((Na m t).map Mo)),ag (LJ X),ay,ay,ay,ay,ay,ay,ay,ay] i ⟨ay,ay,ay,ay,ay,ay,ay,ay,rfl⟩ (by
   rintro j dd l S hj ⟨M,J,G,E,B,z,L,C,rfl⟩;obtain⟨x,r,rfl⟩:=vl.mp (y3 hj);obtain⟨z9,z10,Ya,ZV,VB,Uj,Uk,S2,eb⟩:=Ji (.lst (ns.map .int)) (.tup (W.map .str)) d (oD o) h1 F hs v I K w p hR ev hW X8 O_ r J G E B z L C S
   exact⟨_,rfl,_,S2,eb,_,_,_,_,_,_,_,_,rfl⟩)
 refine⟨P,aA rfl ?_⟩;show Dn [ag (.lst (ns.map .int)),ay,ay,ay,ay,ay,ay,ay,ay,ay,ay,ay,ay,ay,ay,ay] []=_;clear N Z eU eP s kw O_;unfold Dn;generalize ((U.map (cA (Mh m) t)).sum:Int)=ks at *
 generalize (U.map λf=>D.int (cA (Mh m) t f:Nat))=kl at *
 generalize (Na m t).map Mo=pl at *
 generalize ((2 ^ m:Nat):Int)=pw at *
 generalize D.lst (Oz V)=td at *
 generalize a_ t=fd at *
 generalize LJ X=sd at *
 generalize hwd:(.tup (W.map .str):D)=wd at *
 generalize W.map D.str=wl at *
 generalize oD o=od at *
 simp[A,eu,R,ct,cp,sq,p1,s1,et,lt,ne1,p2,e3,T,so,ls,Y,x5,es,sw,el,-mx]
end LI
namespace LI
open PySem L2
theorem fAt {K:Ll}{c f:eG}{C:cn}(n:NC K c C)(g:sA K (.ref C) f=ag ay):nT K c f:=⟨C,n.1,n.2,g⟩
theorem all_mk {l:Yi}{w:il}{K:Ll}{h:kx}{mg:Lo}{a:cn}(b:mg "law"=ag (.ref a))(T:Top K mg) :
  ∃ fd:L4,(∀ (s:cv) (v:ax),ab1 s fd ⟨[v],[]⟩ [("_law_script",v)])/\∀ base:kx,K.In base->base.Ns my mg->Nv l.prog w K mg base RE 42 a fd ["_law_script"] (yK K 63):=by
 obtain⟨f,fd,c,g,hb⟩:=T.Xa;have e:=b.symm.trans g;cases e;have ok:∀ base:kx,Sz l.prog w K mg base 42 a fd ["_law_script"] DU:=λbase=>Hc T c;obtain⟨n,j,kV,doc,p,k,o,ct,q,rfl,i,m⟩:=c.ex;exact⟨_,λs v => .of_eq rfl,λbase _ _=>GZ (ok base) #[2] λns d=>G0 ns d⟩
end LI
open PySem PySem.W PyProof.Rows
namespace PySem.W.Fast
def tw10692163730419707678:=0
def tw903417099082727087:=0
def tw4431202129585475771:=0
def tw9179877225782664431:=0
def tw9575050579153012053:=0
def tw18436411254416396135:=0
def tw15412133939625601690:=0
def tw2455422266457858944:=0
def tw1467683999638039344:=0
def tw16387723776214493111:=0
def tw15695935437001927523:=0
def tw11135761698249438949:=0
def tw13402576450398280459:=0
def tw14119215849363455815:=0
def tw17062879235463470720:=0
def tw16573760174297685836:=0
def tw6944126699802779685:=0
def tw4849299705958855801:=0
def tw4607794004912944462:=0
def tw3518606819671083395:=0
def tw13009340676076546894:=0
def tw11853717119958712214:=0
def tw1471608387488001648:=0
def tw2179322881160459557:=0
def tw15606412611017988313:=0
def tw3666682137689903459:=0
def tw10867109004445779763:=0
def tw2148390102016130655:=0
def tw5953260410209399633:=0
def tw12828556825830235452:=0
def tw542854589521317450:=0
def tw12425919286249993041:=0
def tw8978986201823649583:=0
def tw17511530146751261378:=0
def tw17419595465562536063:=0
def tw13939965372807928517:=0
def tw13416665193029810498:=0
def tw6241742904256414594:=0
def tw8086238190742251649:=0
def tw8471721726918875752:=0
def tw4337045291146048158:=0
def tw11642918755563589511:=0
def tw1660705501936698124:=0
def tw334545836906130695:=0
def tw12877402080336021714:=0
def tw3797877375754867316:=0
def tw4670475954999926556:=0
def tw6569890757969212999:=0
def tw15613392899209364996:=0
def tw6103908228330259061:=0
def tw16565839454855293239:=0
def tw14961706858364829950:=0
def tw1661365893853301911:=0
def tw332115033019750710:=0
def tw7674222264824034827:=0
def tw15741907238084730245:=0
def tw9335640573240793487:=0
def tw12255919046357214626:=0
def tw1557408107198138244:=0
def tw636992805990259694:=0
def tw2404208536521184289:=0
def tw1406876613149069429:=0
def tw15271945751083571043:=0
def tw11035739727255791791:=0
def tw695482376227214508:=0
def tw3994204097415504140:=0
def tw10092086618172240566:=0
def tw7121526317376930560:=0
def tw11384751379649923053:=0
def tw5280338612863591467:=0
def tw15340956632332804633:=0
def tw12967637597310954225:=0
def tw8033452039922482391:=0
def tw9162197006924008132:=0
def tw13011660020105626847:=0
def tw9301023667234893526:=0
def tw18328184412029511724:=0
def tw10272976933022034242:=0
def tw5288575952157365214:=0
def tw5609342948707435274:=0
def tw3859576421692334771:=0
def tw14789220670822827447:=0
def tw13393571336088377406:=0
def tw9914903527242378557:=0
def tw11523565868733993936:=0
def tw1378445056719128150:=0
def tw493691836037667998:=0
def tw16155468976424810019:=0
def tw978556897873624202:=0
def tw3172173398031868284:=0
def tw17600388927321264323:=0
def tw10910154804506000811:=0
def tw1050221125953702076:=0
def tw13416440327622548254:=0
def tw9020477118069428573:=0
def tw4178818644705368521:=0
def tw2154372269055014794:=0
def tw13635089499680025069:=0
def tw16916568387415495959:=0
def tw2638163882476703046:=0
def tw7887868746783893006:=0
def tw13732130825132382918:=0
def tw11941683642984847267:=0
def tw4238699797598161411:=0
def tw5950171551222665882:=0
def tw2136468149209316449:=0
def tw5086447089829816123:=0
def tw2942566282145266855:=0
def tw4914148560087737657:=0
def tw5602806037057558654:=0
def tw6886631108623101331:=0
def tw5913274798611966192:=0
def tw1901358248374813066:=0
def tw15257973512812173196:=0
def tw8658962446137848502:=0
def tw3469039219420909191:=0
def tw14302336829152109082:=0
def tw282183748695410519:=0
def tw1038885372469904490:=0
def tw7164837224369175351:=0
def tw9977893720234912138:=0
def tw7918256143492845979:=0
def tw7028123348340036177:=0
def tw1916102721977432309:=0
def tw178063103016962806:=0
def tw12506062732031605054:=0
def tw6557687974291431678:=0
def tw4077090218916654351:=0
def tw5599599152011393358:=0
def tw13436695692422739509:=0
def tw4634953448984005768:=0
def tw1392652995705972248:=0
def tw2205415769721481446:=0
def tw7275062720618675978:=0
def tw11973735856063795392:=0
def tw3104014501279269382:=0
def tw8322145037251290132:=0
def tw6969386092479000503:=0
def tw14653548503474158069:=0
def tw9889271465879744585:=0
def tw14377094419087725956:=0
def tw17013112632535598865:=0
def tw189673172440451998:=0
def tw8279614616971303871:=0
def tw3967245387194997787:=0
def tw8935189888096523910:=0
def tw85587227095134964:=0
def tw1839662378681000681:=0
def tw13392287054633214892:=0
def tw7287091902021681328:=0
def tw6772450220619797350:=0
def tw12296736476559209292:=0
def tw7699036663447732126:=0
def tw11862537129367113244:=0
def tw1506900242587981816:=0
def tw14894750855350340563:=0
def tw5561803586406954520:=0
def tw16577775926574457677:=0
def tw15690791739603655827:=0
def tw16160825049543209623:=0
def tw14492355176163710677:=0
def tw11985183399983862429:=0
def tw14582907365610591642:=0
def tw16864806779712379420:=0
def tw17268844394412703294:=0
def tw10862429500128061757:=0
def tw790503107805342948:=0
def tw17427064733364440137:=0
def tw1801763092328475338:=0
def tw7424836724158458707:=0
def tw2376779793936500963:=0
def tw11526264460075265339:=0
def tw5983834322363144680:=0
def tw15111873519497609318:=0
def tw16029917398805418017:=0
def tw10832877830580327855:=0
def tw8041443713511951274:=0
def tw11960455496633750635:=0
def tw3038579261081078613:=0
def tw4631227437062988343:=0
def tw1557645685787166916:=0
def tw17502941305574042145:=0
def tw2969430129068106463:=0
def tw17850174388813773895:=0
end PySem.W.Fast
set_option maxRecDepth 100000 in
set_option maxHeartbeats 0 in
theorem PySem.Challenge.cw_keyfold_k32_whole_sums_holds : PySem.Challenge.rw_keyfold_k32_whole_sums.Holds := by
 w_on;o_law;k_head;(case hw=>w_witness2)
 k_fill
 refine L2.R4 (l:=PySem.Challenge.rw_keyfold_k32_whole_sums) (k:=42) (x:="_law_script") rfl rfl ⟨rfl,by decide,by decide,rfl⟩ (λw h Y=>PySem.W.kIn_of Y) ?F
 case F =>
  intro w mg fa h KX G V1;refine' LI.all_mk (h:=h) V1 ?T;constructor
  all_goals first
   |exact PySem.W.mg_none_of KX G (by k_is)
   |(refine' L2.dAt KX G ?a (L2.fE ?l ?c ?k) ?b;(case a=>k_is);(case l=>k_is);(case c=>k_is);(case k=>k_is);(case b=>first |exact L2.Y7 λ_ _ _ _ _ _ _=>rfl |exact L2.Y8 λ_ _ _ _ _ _ _ _=>rfl |exact L2.Y9 λ_ _ _ _ _ _ _ _ _=>rfl |exact L2.Y_ λ_ _ _ _ _ _ _ _ _ _=>rfl))
   |(refine' L2.mAt ⟨?n,⟨?k0,?k1,?k2,?k3⟩⟩ ?a ?i (L2.fE ?l ?c ?k) ?b;(case n=>k_is);(case k0=>k_is);(case k1=>k_is);(case k2=>k_is);(case k3=>k_is);(case a=>k_is);(case i=>k_is);(case l=>k_is);(case c=>k_is);(case k=>k_is);(case b=>first |exact L2.Y7 λ_ _ _ _ _ _ _=>rfl |exact L2.Y8 λ_ _ _ _ _ _ _ _=>rfl |exact L2.Y9 λ_ _ _ _ _ _ _ _ _=>rfl |exact L2.Y_ λ_ _ _ _ _ _ _ _ _ _=>rfl))
   |(refine' L2.kAt KX G ⟨?n,⟨?k0,?k1,?k2,?k3⟩⟩ ?k4 ?k5 ?a ?i (L2.fE ?l ?c ?k) ?b;(case n=>k_is);(case k0=>k_is);(case k1=>k_is);(case k2=>k_is);(case k3=>k_is);(case k4=>k_is);(case k5=>k_is);(case a=>k_is);(case i=>k_is);(case l=>k_is);(case c=>k_is);(case k=>k_is);(case b=>first |exact L2.Y7 λ_ _ _ _ _ _ _=>rfl |exact L2.Y8 λ_ _ _ _ _ _ _ _=>rfl |exact L2.Y9 λ_ _ _ _ _ _ _ _ _=>rfl |exact L2.Y_ λ_ _ _ _ _ _ _ _ _ _=>rfl))
   |(refine' LI.fAt ⟨?n,⟨?k0,?k1,?k2,?k3⟩⟩ ?g;(case n=>k_is);(case k0=>k_is);(case k1=>k_is);(case k2=>k_is);(case k3=>k_is);(case g=>k_is))
