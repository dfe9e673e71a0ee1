import PyProof.Rows.All
import Wide.All
import OpenK.AllK
import Wide.FinOn
import Lean
import PyProof.EqAt
import PyProof.EqKinds
import PyProof.TupleCall
import KE.KLam
import PyProof.SetRoads
import PyProof.SetNew
import PyProof.CollectIter
import PyProof.DictWalks
import PyProof.Walks
import PyProof.RulesTry
import PyProof.FactsAll.set
import PyProof.WalksMore
import PyProof.FactsAll.subtypes
import PyProof.ExcAttrAll.ValueError
import PyProof.Rows.StrJoin2
import PyProof.Rows.FStr
import PyProof.ExcBaseAll.ValueError
import PyProof.StrCalls2
import PyProof.StrBlockH
import PyProof.MeetsStr2
import PyProof.Rows.SeqMore2
import KE.KDictList
import PyProof.ZipIter
import PyProof.Draws
import PyProof.DictTruth
import PyProof.Rows.SortShellK
import PyProof.Rows.SortWalk
import PyProof.TupleKey
import PyProof.Rows.Range3
import KE.KNestM
import KE.KMinKey
import PySem.Challenge.RW_keyfold_k03_folds
open List(all_eq_true all_map any_cons any_map append_nil cons_append drop_zero ext_getElem ext_getElem? filterMap_cons filter_cons find?_cons find?_eq_none flatten_cons foldl_cons forIn_cons forIn_nil getD_eq_getElem?_getD getElem?_append_left getElem?_append_right getElem?_cons_succ getElem?_set_ne getElem?_set_self getElem?_toArray getElem_idxOf getElem_mem getElem_of_mem idxOf_cons idxOf_lt_length_iff length_cons length_drop length_eq_zero_iff length_map length_nil length_range length_reverse length_set length_singleton length_take lookup_append lookup_cons map_append map_congr_left map_cons map_drop map_id map_map map_nil map_take mem_append mem_append_left mem_append_right mem_cons mem_cons_of_mem mem_cons_self mem_filterMap mem_map mem_map_of_mem mem_of_getElem? mem_of_mem_take mem_range mem_reverse mem_singleton mergeSort_perm nil_append nodup_append nodup_cons nodup_nil not_mem_nil of_mem_zip pairwise_cons pairwise_map prefix_refl range' range'_succ range_succ replicate_succ reverse_cons size_toArray take_length take_of_length_le)
open Nat(add_assoc add_mod le_of_lt_succ le_refl le_succ lt_min lt_of_lt_of_le lt_or_ge lt_succ_of_lt lt_succ_self lt_trichotomy min_le_right mod_eq_of_lt mod_lt mul_comm ne_of_gt ne_of_lt one_le_two_pow pow_add pow_succ sub_zero succ_add succ_pos zero_add zero_le)
open Option(bind_eq_bind bind_eq_some_iff bind_some getD_none getD_some isSome_map map_eq_some_iff map_some pure_def)
open Bool(and_eq_true false_eq_true not_eq_true not_eq_true' or_eq_false_iff or_eq_true)
open Array(forIn_toList getD_eq_getD_getElem? getElem?_toList getElem_toList length_toList mem_toList_iff size_map toList_extract toList_push)
local macro_rules|`(tactic|omega)=>`(tactic|first|with_reducible assumption|with_reducible exact Nat.le_refl _|with_reducible exact Nat.zero_le _|with_reducible exact Nat.succ_pos _|with_reducible exact Nat.le_of_lt (by assumption)|with_reducible exact Nat.lt_of_lt_of_le (by assumption) (by assumption)|with_reducible exact Nat.lt_of_le_of_lt (by assumption) (by assumption)|with_reducible exact Nat.le_trans (by assumption) (by assumption)|with_reducible exact Nat.lt_of_lt_of_le Nat.zero_lt_one (by assumption)|with_reducible exact Nat.le_trans (by assumption) (by decide)|with_reducible exact Nat.lt_of_le_of_lt (by assumption) (by decide)|with_reducible exact Nat.lt_of_lt_of_le (by assumption) (by decide)|with_reducible exact Nat.lt_succ_of_le (by assumption)|with_reducible exact Nat.succ_le_of_lt (by assumption)|with_reducible exact Nat.ne_of_lt (by assumption)|with_reducible exact Nat.ne_of_gt (by assumption)|with_reducible exact Nat.not_lt.mpr (by assumption)|with_reducible exact Nat.lt_of_le_of_lt (Nat.add_le_add_left (by decide) _) (by assumption)|with_reducible exact Nat.le_of_eq (by assumption)|lia|omega +splitMinMax)
local macro_rules|`(tactic|decide)=>`(tactic|decide +kernel)
set_option Elab.async false
set_option linter.all false
set_option maxRecDepth 100000
set_option compiler.extract_closed false
set_option maxHeartbeats 4000000
open Option renaming some→aa,none→av,map_eq_some_iff→dv,bind_eq_some_iff→kl,bind_some→p0,bind_eq_bind→P8,getD_some→QU,isSome_map→Sl,map_some→Vq,pure_def→XM,isSome_some→YC
open _root_ renaming List→ae,Option→ax,decide_eq_false→cX,if_pos→dw,if_neg→ee,decide_eq_true→e4,Bool→e8,absurd→hK,of_decide_eq_true→hM,Array→h8,decide_eq_true_eq→j2,beq_eq_false_iff_ne→kv,if_false→mz,trivial→m7,if_true→ox,DecidableEq→s8,congrArg→E3,String→NA,decide_eq_false_iff_not→PB,beq_self_eq_true→QS,beq_iff_eq→Sb,decide_eq_decide→VE,funext→Xv,of_decide_eq_false→YN,or_false→Y8
open PySem renaming wpAny_bind→ak,Value→ay,wpAny_pure→a5,Addr→b0,Shared→cc,sizeLine→dk,starEach→dm,wpAny→d6,Str→ej,Program→ew,model→eJ,PyData→e9,Expr→gj,World→hB,Around→hG,wpAny_newObj_type→iv,Scope→i0,Paired→i4,Heap→j0,SetTable→lb,compareOp→lg,mainGlobals→ly,bootBuiltins→lC,eval→lX,behindInMarks→mc,backTo→mf,Stmt→mq,wpAny_call_entry→my,cLine→n0,wpAny_truthy_bool→pd,wpAny_setState_of→pw,cellsFrom→rb,attributeBase→ro,wpAny_holding→rp,wpAny_callSpecial?_slot→u2,wpAny_mono→v3,FuncData→wa,binaryOp→H4,NameKind→H5,keywordEach→Jf,wpAny_field→Jw,wpAny_Call_Name_kw→J4,ofAClassStatement→Mu,sysModules→MV,mem_of_lookup→Nm,wpAny_forIn_list→Nz,Pos→N5,swapsWith→N_,Keyword→Ow,assignEach→OH,bindArgs→OI,sliceBounds→OJ,getItem→OT,backToKw→O0,wpAny_specialOf→O8,letOwnedTupleGo→Pg,wpAny_passesOwn→Pj,codeAny_builtin→Pq,wpAny_pyIter_tuple→Pw,tupleKind_room_in1→Px,wpAny_seqItems→PF,foldedSetIterable→PL,codeAny→PM,wpAny_pyIter_enum→P4,wpAny_storeSet_of→P9,Arguments→QK,scanBound→QV,checkBuiltinCall→Q3,ReadsAll→Rf,relayAll→Rk,hashByValue→Rm,wpAny_typeOf→RK,builtinsNs→R6,firstArgMember→SU,wpAny_letOwnedTupleGo_enum→SV,subscripted→Ua,callerA→Ub,wpAny_sequenceKey→Uj,slot_list_getitem→Uk,slicePicked→Um,IsPart→UC,wpAny_getItem_list_slice→UL,wpAny_comprehension_free→UX,filterMap_getElem?_range→U2,Reads→U9,wpAny_pyHash_int→U_,wpAny_pyHash_str→Va,eqIsQuiet→Vb,wpAny_isInstance→Vk,CmpOp→Vm,atKey→Vn,noFill_tuple_add→Vo,wpAny_getItem_str_slice→Vp,wpAny_pyNext_enum_itemD→Vs,putSet_of→Vz,wpAny_askSetting→VB,Obj→VJ,wpAny_rule→VM,pyNext→VP,codeAny_mono→VW,wpAny_Assign_Subscript→VZ,concat_meets→V0,setAddHashed→Wq,wpAny_execs_nil→Wz,wpAny_isTrue_Compare1→WZ,builtinLookup_eq_fast→W7,GenState→Xc,sizeLine_eq→Xe,sliceRange_one→Xm,newFunctionEnv→XD,tupleKind→X2,holding→X4,getMethod→X6,BindsTo→X_,valueAt→Yd,pushCells→Ye,seq_tuple_add→Yo,evalPart_none→Yp,plainId_quiet→Yr,strKind→Ys,wpAny_tupleItemsOf→Yw,Env→Yy,wpAny_Constant_int→Yz,assign→YA,Result→YB,wpAny_getItem_heap→YD,wpAny_setItem_heap→YE,typeIs_str→YI,call_meets→YJ,KeyKind→YS,Within→YT,list_append→YZ,numAt→Y6,rawInt→Za,lastMarks→Zb,sliceMade→Zf,seqSlot_of→Zg,wpAny_of_eq→Zq,standAt→ZF,Sem→ZI,wpAny_Name→ZJ,pyIter→ZK,callWith→ZL,bindL→ZM,bindC→ZN,call→ZP,pick_run→ZQ,typeIs_int→ZR,sliceRange→ZT,layNew→ZY,entryFor→ZZ
open List renaming getElem?_eq_getElem→a4,getElem?_eq_some_iff→b7,length_append→cq,length_map→dV,mem_cons_of_mem→d7,getElem?_map→eh,range→ei,replicate→el,append_nil→eM,mem_singleton→eR,size_toArray→eX,mem_cons_self→e7,getElem?_append_right→f5,getElem?_append_left→gh,mem_cons→gi,append_assoc→gv,map_cons→hA,length_cons→hD,mem_append→il,getElem?_of_mem→la,length_range→lr,map_map→lE,idxOf_lt_length_iff→mv,mem_of_getElem?→mx,mem_append_right→m3,mem_range→nC,mem_append_left→n6,find?_cons→o3,lookup→q7,length_reverse→rx,length_eq_zero_iff→r3,map_append→r4,all_eq_true→tr,mem_map→vl,replicate_succ→wh,foldl_cons→wi,mem_of_mem_take→wq,nodup_append→I0,length_take→Jj,any_cons→J7,getD_eq_getElem?_getD→LG,lookup_cons→Mf,filterMap_cons_some→Nk,getElem?_replicate→ND,pairwise_mergeSort→NF,length_drop→NM,getElem_mem→NX,take_append_of_le_length→NY,flatten_cons→NZ,nil_append→N0,getElem?_cons_succ→N1,mem_filter→N7,getElem_idxOf→Ob,getElem?_eq_none→Ou,getElem?_set_self→Ov,take_of_length_le→OC,idxOf_lt_length_of_mem→OD,perm_append_singleton→OM,length_singleton→OV,getD→OW,getElem?_set_ne→Pf,filterMap_cons→PJ,getElem_of_mem→P5,pairwise_lt_range→P7,mem_map_of_mem→P_,ext_getElem?→Qf,filterMap_replicate_of_none→Qh,length_pos_of_mem→Qo,length_replicate→Qw,take_append_drop→QF,mem_iff_getElem?→QG,length_nil→QM,foldl→QO,nodup_nil→Q4,idxOf_cons→Q5,pairwise_cons→Q8,all_cons→Rb,mem_of_mem_drop→Ri,toList_toArray→Rz,map_nil→RE,toArray→RR,getElem?_concat_length→RU,nodup_cons→Sh,mergeSort_perm→SX,length_eraseIdx_of_lt→Ta,getElem?_drop→Tj,map_congr_left→Tv,getElem?_take→Tw,drop_eq_getElem_cons→TC,pairwise_iff_getElem→TJ,extract_eq_drop_take→TK,getElem?_eq_none_iff→TL,any_eq_false→T1,length→T_,getElem?_inj→Us,filter_cons→Ut,all_eq_false→Uv,cons_append→Uw,not_mem_nil→Ux,idxOf_append→Uy,mem_filterMap→Uz,getElem?_take_of_lt→UA,lookup_append→UO,find?_eq_none→U3,length_erase_of_mem→U7,pairwise_filterMap→Vy,reverse_cons→V5,drop_eq_nil_of_le→Wk,pairwise_map→Wn,set_set→Wy,cons_lt_cons_iff→Xa,map_drop→XY,getElem?_range→Yj,filter_eq_self→Ym,filterMap_map→YG,length_set→YL,map_inj_right→YQ,filter_append→YR,take_sublist→YX,getElem_drop→Y3,filter_congr→Y9,perm_middle→Zj,any_eq_true→Zk,nodup_range→Zn,prefix_refl→Zo,mem_reverse→Zp,range'_succ→Zr,ext_getElem→Zs,take_length→Zv,find?_some→Zz,filter_map→ZE,of_mem_zip→ZO,forIn_cons→ZX,range_succ→Z0,zip→Z4,map_take→Z8
open Bool renaming true→a6,false→bo,and_eq_true→eL,false_eq_true→h5,not_true→MH,eq_iff_iff→Pp,or_eq_false_iff→Pt,false_ne_true→Pu,or_eq_true→SK,not_eq_true'→Wm,and_false→XN,not_false→XS,and_true→Yt,eq_false_iff→Y2,not_eq_true→Zu,false_or→aab,true_and→aag
open PySem.Heap renaming get?_push_of_some→cv,lt_size→ek,get?_push_size→en,size_push→rl,get?_update_self→wx,SameBut→Me,get?_update_other→P0
open Decidable renaming decide→dr
open Nat renaming le_refl→eG,le_trans→fk,lt_of_lt_of_le→hv,ne_of_lt→md,zero_add→n7,lt_irrefl→qb,le_of_lt→qs,lt_or_ge→Mi,pow_succ→NH,one_le_two_pow→NL,mod_eq_of_lt→N4,le_of_lt_succ→Om,lt_succ_self→OO,lt_succ_of_lt→O6,zero_le→Pl,lt_or_eq_of_le→Py,lt_trans→PN,lt_trichotomy→Q9,min_le_right→RF,lt_of_le_of_lt→Sm,mod_eq_sub_mod→Ti,le_succ→T9,mod_lt→U1,succ_pos→VC,le_add_right→VD,strongRecOn→WY,ne_of_gt→Xd,pow_le_pow_right→XT,eq_zero_or_pos→YP,add_assoc→Y_,min_eq_right→Zl,two_pow_pos→Zx,not_lt_zero→Zy,min_le_left→ZC,min_eq_left→ZD,mul_comm→ZU,mul_le_mul→ZV
open PySem.PyData renaming eqv→fh,depth→hO,depthAll→kq,eqvAll→ky,canLayAll0→m6,strOk→nX,canLay0→Nt,layable0→WL,weight→Yu,str→Yv,weightAll→Zm
open PySem.SetTable renaming below→f3,runEnd→h7,bits→i3,leap→lx,Probe→ot,grown→ov,insertAt→ra,turns→y2,layClean→Mm,laid→O7,standIn→QW,sizeAbove→S4,relaid→WK,slot→Yq,orStandIn→YM,probe→Z7,fill→aaf,has→aao
open Array renaming length_toList→hH,getElem?_eq_getElem→hY,getElem?_toList→ih,getElem?_eq_some_iff→m4,getD_eq_getD_getElem?→rk,all_eq_true_iff_forall_mem→Mt,getElem?_setIfInBounds_self_of_lt→OG,toList_filterMap→Qr,getElem?_setIfInBounds_ne→Qt,size_setIfInBounds→U4,forIn_toList→VL,getElem?_eq_none→Wx,replicate→WX,mem_toList_iff→Xf,toArray_toList→XE,toList_push→XF,toList_extract→XH,getElem_toList→XI,toList_append→Yl,all_eq_true'→YK,foldl_toList→YO,size_append→Y0,toList→aal
open PyProof.Rows renaming slot_tuple_getitem→hP,IntsAre→Pm,envOfC→QJ,arrOf→Rj,entry_tuple_getitem→Ro,callWith_type1→RA,slicePart_none→Sr,args_tuple_getitem→Sw,AllBare→TU,subscriptTail→UB,tupleItemsOf_→UK,subscriptTail_builtinR→V1,IsTup→Xb,pendingOf→Yh,Subscript_→YF,tail_any→YY,failedOf→Y7,seqObj→Zh,KeyOrd→Z5,SortKind→Z6
open PySem.Value renaming ref→h6,none→Jy,bool→QH,type→R0,int→Vl,str→X1,isStrOf_shape→Yi,isStrOf→Z_
open Option.some renaming inj→kx,injEq→Ox
open PySem.Builtin.Tuple renaming tupleExact→k6,tupleHashOf→q4,tupleItemsOf→vr,tupleTooMany→SQ
open PySem.Builtin.Slice renaming slicePlaces→mi,sliceApplied→J8,sliceAdjust→LH,sliceFields→Tz
open PySem.W renaming findIn→ml,emptyDict→q5,fnOf→wb,keepIn→yk,instObj→z0,nsIn→H8,plainGet→QI,OpenLaw→Rh,plainGet_of→Rn,isFn→RC,lookIn→R8,callWith_K→Se,codeIn→Si,methodObj→TN,hasDictIn→T2,cellsFrom_some→VX,takerIn→WA,makesIn→WD,methodCall_KW→W2,plainOver→YU,specialIn→YV,kia_one→Y1,handedIn→Zc,WalkO→ZG,kitOne→ZW,mg_of→aae
open PySem.SetTable.layClean renaming free→mm
open Int renaming toNat_natCast→nq,emod_nonneg→rT,emod_lt_of_pos→sy,le_antisymm→Zw
open Pure renaming pure→u1
open Ne renaming symm→vu
open PySem.AutoSeq1 renaming wpAny_loadPart'→x3
open PySem.NameKind renaming free→x4,cell→x6
open PySem.SetTable.probe renaming go→zq
open False renaming elim→C3
open ForInStep renaming yield→Dd
open PySem.PassesOwn renaming never→E1
open PySem.Heap.SameBut renaming update→H7,refl→Y4
open PySem.Builtin.Str renaming strSliceIndices→IJ,tooLong→Ry
open True renaming intro→JK
open PySem.Obj renaming data_mapFields→Kf,putSet→MW,isFreed_of_fields→Qx,cls_mapFields→Ur,mapSeq→Wh
open PySem.Manifest.ParamKind renaming posOnly→KR,posOrKw→Z2,varPos→Z9
open PySem.Builtin.SmallTypes renaming nextOf→LL
open LawfulBEq renaming eq_of_beq→LV
open PySem.Around renaming under_plainId→Ms,under→VQ
open List.cons renaming injEq→N8
open Function renaming comp→Oo
open PySem.SetTable.below renaming go→OB
open PySem.F renaming args_tuple_add_2→O1,entry_tuple_add→Pz,slot_tuple_add→PR,slot_dict_getitem→Tx
open Sum renaming inr→Pd,inl→XZ
open List.Pairwise renaming nil→PQ
open PySem.Str renaming ofString→PY,length→QN,empty→RZ
open PySem.Paired renaming length→Q7,snoc→aaq
open PySem.Calls renaming Name_function_global→R7,call_function_entry→TH,callWith_builtin→V3
open PySem.Txt renaming find→Tc
open Prod.mk renaming injEq→UW
open List.Perm renaming eq_of_pairwise→U0,cons→XQ,swap→Z3
open Iff renaming rfl→Wj
open PySem.Manifest.Receiver renaming self→Ws,none→Wv
open Min renaming min→WG
open PySem.SetTable.sizeAbove renaming go→W9
open Or renaming inr→Xg,inl→Zd
open Std.Legacy.Range renaming forIn_eq_forIn_range'→XP,size→aap
open PySem.Challenge renaming pw_keyfold_k03_folds→Yn
open PySem.SeqAt.Reads renaming unique→Yx
open PySem.Heap.IsSliceOf renaming new→YH
open PySem.Code renaming isFrame→YW
open PySem.pickOrder renaming go→Y5
open PySem.IsL renaming update→Ze
open Std.Legacy renaming Range→Zi
open Exists renaming elim→Zt
open ForIn renaming forIn→ZH
open PySem.SeqAt renaming EqAt→ZS
open PySem.Builtin.Frozenset renaming newClass→Z1,addrOf→aac,sizeOf→aad,slot0→aai
noncomputable section
set_option hygiene false in
local macro_rules|`(#[$n:num])=>do
 let some x:=(#[`((#[2])),
`((#[4])),
`(by omega),
`((by simp)),
`(by decide),
`((by symm)),
`(aq rfl ?_),
`(o.idxOf c),
`((eJ prog w)),
`((eJ X.prog X.w)),
`(Inv X pins σ H s),
`(.ref s.heap.objs.size),
`(.loc S.length),
`(s.heap.objs.size+1),
`(At.Hw.mpr rfl),
`(s.heap.get? b),
`(X.env.cells.lookup x),
`(.str "abcdefghijklmnopqrstuvwxyz")]:Array (Lean.MacroM Lean.Term))[n.getNat]?|Lean.Macro.throwUnsupported
 x
set_option hygiene false in
local macro_rules|`(tactic|rw[$n:num])=>do
 let some x:=(#[`(tactic|split at e),
`(tactic|and_intros)]:Array (Lean.MacroM (Lean.TSyntax `tactic)))[n.getNat]?|Lean.Macro.throwUnsupported
 x
abbrev Ho:=PySem.W.Frag
abbrev Hq:=ay->cc->Prop
abbrev Hr:=ae (b0×VJ)
abbrev Hs:=ej->ax ay
namespace L2
open PySem PySem.Spec PyProof.Rows
noncomputable instance Uo:s8 e9:=λa b=>Classical.propDecidable (a=b)
noncomputable def keyOk:Nat->e9->e8
 |_,.int _=>a6
 |_,.str x=>nX x
 |n+1,.tuple xs=>xs.all (keyOk n)
 |_,_=>bo
noncomputable def IY (w:hB):Nat->e9->Int
 |_,.int i=>hashInt i
 |_,.str x=>hashStr w x
 |n+1,.tuple xs=>reduceHash (q4 (xs.map (IY w n)))
 |_,_ => 0
noncomputable def yl:Nat->e9->Nat
 |n+1,.tuple xs=>(xs.map (yl n)).sum+1
 |_,_ => 1
theorem bJ {n:Nat}{xs:ae e9}(h:keyOk (n+1) (.tuple xs)=a6):∀ x∈xs,keyOk n x=a6:=by rw[keyOk,tr] at h;exact h
theorem lJ:∀ {n:Nat}{p:e9},keyOk n p=a6->p.canLay0=a6:=by
 intro n
 induction n with
 |zero =>
  intro p h;cases p with
  |int i=>rfl
  |str x=>rw[Nt];simpa [keyOk] using h
  |_=>simp[keyOk] at h
 |succ n b =>
  intro p h;cases p with
  |int i=>rfl
  |str x=>rw[Nt];simpa [keyOk] using h
  |tuple a =>
   rw[Nt];have:=bJ h;clear h
   induction a with
   |nil=>rfl
   |cons x a c=>rw[m6,b (this x #[3]),c λy d=>this y (by simp[d])];rfl
  |_=>simp[keyOk] at h
theorem uw:∀ {n:Nat}{p:e9},keyOk n p=a6->p.depth<=n:=by
 intro n
 induction n with
 |zero =>
  intro p h;cases p<;>first |(simp[keyOk] at h;done) |simp[hO]
 |succ n b =>
  intro p h;cases p with
  |tuple a =>
   rw[hO];have:=bJ h;clear h;refine Nat.succ_le_succ ?_
   induction a with
   |nil=>rw[kq];omega
   |cons x a c=>rw[kq];exact Nat.max_le.mpr ⟨b (this x #[3]),c λy d=>this y (by simp[d])⟩
  |int i=>simp[hO]
  |str i=>simp[hO]
  |_=>simp[keyOk] at h
theorem qL:∀ {n:Nat}{p q:e9},keyOk n p=a6->keyOk n q=a6->fh p q=dr (p=q):=by
 have str:∀ x y:ej,fh (.str x) (.str y)=dr (Yv x = .str y):=λx y=>by
  rw[fh];by_cases e:x=y
  ·subst e;simp
  rw[kv.mpr e,cX (λz=>e (PyData.str.inj z))]
 have int:∀ x y:Int,fh (.int x) (.int y)=dr (PyData.int x = .int y):=λx y=>by
  rw[fh];by_cases e:x=y
  ·subst e;simp
  rw[kv.mpr e,cX (λz=>e (PyData.int.inj z))]
 have c:∀ p q:e9,p≠q->bo=dr (p=q):=λp q h=>(cX h).symm;intro n
 induction n with
 |zero =>
  intro p q d b;cases p<;>first |(simp[keyOk] at d;done) |skip<;>cases q<;>first |(simp[keyOk] at b;done) |exact int _ _ |exact str _ _ |exact c _ _ (λz=>nomatch z)
 |succ n o =>
  intro p q d b;cases p with
  |tuple f =>
   cases q with
   |tuple a =>
    rw[fh];have l:=bJ d;have m:=bJ b;clear d b
    have g:ky f a=dr (f=a):=by
     induction f generalizing a with
     |nil=>cases a<;>simp[ky]
     |cons x f r =>
      cases a with
      |nil=>simp[ky]
      |cons y a =>
       rw[ky,o (l x #[3]) (m y #[3]),r a (λz k=>l z (by simp[k])) (λz k=>m z (by simp[k]))];by_cases e:x=y
       ·subst e;simp
       simp[e]
    rw[g];by_cases e:f=a
    ·subst e;simp
    rw[cX e,cX (λz=>e (PyData.tuple.inj z))]
   |int i=>rw[fh];exact c _ _ (λz=>nomatch z)
   |str i=>rw[fh];exact c _ _ (λz=>nomatch z)
   |_=>simp[keyOk] at b
  |int i =>
   cases q with
   |int j=>exact int _ _
   |str j=>rw[fh];exact c _ _ (λz=>nomatch z)
   |tuple j=>rw[fh];exact c _ _ (λz=>nomatch z)
   |_=>simp[keyOk] at b
  |str i =>
   cases q with
   |int j=>rw[fh];exact c _ _ (λz=>nomatch z)
   |str j=>exact str _ _
   |tuple j=>rw[fh];exact c _ _ (λz=>nomatch z)
   |_=>simp[keyOk] at b
  |_=>simp[keyOk] at d
theorem tZ {h h':j0}{d:b0}{o:VJ}{es ep}(w:h.get? d=aa o)(hd:o.data = .dict es ep)(z:Me d h h'):∀ {n:Nat}{p:e9}{v:ay}{b:ae b0},keyOk n p=a6->U9 h v p b->U9 h' v p b:=by
 intro n
 induction n with
 |zero =>
  intro p v b c r;cases r with
  |int i t=>exact .int i t
  |str x t=>exact .str x t
  |_=>simp[keyOk] at c
 |succ n q =>
  intro p v b c r;cases r with
  |int i t=>exact .int i t
  |str x t=>exact .str x t
  | @tuple a E A m j b e k f g =>
   have u:a≠d:=by rintro rfl;rw[w] at e;cases e;rw[hd] at f;exact nomatch f
   refine .tuple ((z.2 a u).trans e) k f ?_;have it:=bJ c;clear c e k f;generalize A.toList=l at g
   induction j generalizing l b with
   |nil=>cases g;exact .nil
   |cons x j B =>
    cases g with
    |cons s D=>exact .cons (q (it x #[3]) s) (B (λy C=>it y (by simp[C])) _ D)
  |_=>simp[keyOk] at c
section
variable {prog:ew}{w:hB}{A:hG}{E:Hq}{s:cc}
theorem wA:∀ {n:Nat}{p:e9}{A:hG}{s:cc}{v:ay}{c:ae b0}{Q:Int->cc->Prop},keyOk n p=a6->A.units+n<n0->U9 s.heap v p c->Q (IY w n p) { s with toks:=s.toks+yl n p } ->
  d6 #[8] A (pyHash v) Q E s:=by
 intro n
 induction n with
 |zero =>
  intro p A s v c Q d D r h;cases r with
  |int i t=>exact U_ h
  |str x t=>exact Va h
  |_=>simp[keyOk] at d
 |succ n z =>
  intro p A s v c Q d D r h;cases r with
  |int i t=>exact U_ h
  |str x t=>exact Va h
  | @tuple a o items m j c u hc hd C =>
   have e:s.TypeIs (.ref a) "tuple":=⟨o,u,hc⟩;have it:=bJ d;unfold pyHash
   first |unfold pyHashByItsType |skip
   first |refine ak (wpAny_cRoomFor_or (.inr #[0]) ?_) |skip
   refine ak (O8 e F.slot_tuple_hash.lookup ?_);show d6 _ _ (if (aa (Value.builtin "tuple.__hash__")==aa Jy)=a6 then _ else _) Q E s;rw[ee (by rw[beq_builtin_none];exact Pu)];refine ak (O8 e F.slot_tuple_hash.lookup ?_);show d6 _ _ (callSpecialIfBoundUnlessNone? (.ref a) "__hash__" _ >>= _) Q E s;refine ak (wpAny_callSpecialIfBoundUnlessNone?_slot e F.slot_tuple_hash (my F.slot_tuple_hash e F.entry_tuple_hash ?_ (F.args_tuple_hash_1 _)));show d6 _ _ (vr (.ref a) >>= _) _ _ s;refine ak (Yw u hd ?_);refine ak ?_;rw[← VL]
   refine Nz _
    (λrest (b:h8 Int) f => ∃ done left bs,j=done++left/\Rf s.heap rest left bs/\b.toList=done.map (IY w n)/\f={ s with toks:=s.toks+(done.map (yl n)).sum })
    _ ?_ ?_ _ _ ⟨[],j,c,rfl,C,rfl,rfl⟩
   ·rintro x rest b f ⟨done,left,bs,rfl,g,hb,rfl⟩;cases g with
    | @cons _ _ k y G l B q =>
     refine ak (z (A:=A.in1) (it k #[3]) (by show A.units+1+n<n0;omega) (s:={ s with toks:=s.toks+(done.map (yl n)).sum }) B ?_)
     first
      |exact a5 ⟨done++[k],y,l,by simp,q,by simp[hb],by simp[Y_]⟩
      |exact ak (a5 (a5 ⟨done++[k],y,l,by simp,q,by simp[hb],by simp[Y_]⟩))
   rintro b f ⟨done,left,bs,rfl,g,hb,rfl⟩;cases g;rw[eM] at h;show d6 _ _ (retInt (q4 b.toList)) _ _ _;rw[hb];refine wpAny_ret_mkInt ?_;show d6 _ _ (if (dr (-(2:Int) ^ 63<=q4 (done.map (IY w n)))&&dr (q4 (done.map (IY w n))<2 ^ 63))=a6 then _ else _) Q E _;rw[IY,yl] at h;unfold reduceHash at h;by_cases hr:(dr (-(2:Int) ^ 63<=q4 (done.map (IY w n)))&&dr (q4 (done.map (IY w n))<2 ^ 63))=a6
   ·rw[dw hr];rw[dw hr] at h;exact a5 (by simpa [Y_] using h)
   rw[ee hr];rw[ee hr] at h;exact ak (VM (a5 (by simpa [Y_] using h)))
  |_=>simp[keyOk] at d
theorem t5:∀ {n:Nat}{p:e9}{s:cc}{v:ay}{b:ae b0}{Q:e8->cc->Prop},keyOk n p=a6->U9 s.heap v p b->Q a6 s->d6 #[8] A (Vb n v) Q E s:=by
 intro n
 induction n with
 |zero =>
  intro p s v b Q c r h;cases r with
  |int i t=>unfold Vb;exact a5 h
  |str x t=>unfold Vb;exact a5 h
  |_=>simp[keyOk] at c
 |succ n j =>
  intro p s v b Q c r h;cases r with
  |int i t=>unfold Vb;exact a5 h
  |str x t=>unfold Vb;exact a5 h
  | @tuple a o items m l b e hc hd B =>
   have g:s.TypeIs (.ref a) "tuple":=⟨o,e,hc⟩;have it:=bJ c;unfold Vb;refine ak (O8 g F.slot_tuple_eq.lookup ?_);show d6 _ _ (isInstance (.ref a) (.type "tuple") >>= _) _ _ s;refine ak (Vk g isSubtype_tuple_tuple ?_);simp only[MH,h5,mz];refine ak (PF e hd ?_);refine ak ?_;show d6 _ _ (ZH items _ _) _ _ s;rw[← VL];refine Nz _ (λrest r d=>r.1=av/\d=s/\∃ left bs,Rf s.heap rest left bs/\∀ x∈left,keyOk n x=a6) _ ?_ ?_ _ _ ⟨rfl,rfl,l,b,B,it⟩
   ·rintro v rest r d ⟨hr,rfl,left,bs,D,f⟩;cases D with
    | @cons _ _ k G I q u z =>
     refine ak (j (f k #[3]) u ?_);simp only[MH,h5,mz];exact a5 ⟨rfl,rfl,G,q,z,λy C=>f y (by simp[C])⟩
   rintro⟨H,J⟩ d ⟨hr,rfl,_⟩;simp only at hr;subst hr;exact a5 h
  |_=>simp[keyOk] at c
end
noncomputable def ba (prog:ew) (w:hB):HeapKind prog w e9 where
 is:=λh p a=>keyOk 8 p=a6/\∃ e,U9 h (.ref a) p e
 hash:=IY w 8
 draws:=yl 8
 room:=λA=>A.units+8<n0
 inj:=λ⟨c,e,d⟩ ⟨_,bs,f⟩=>Yx _ _ _ _ _ (lJ c) d f
 keeps:=λ⟨c,e,d⟩ j hd k=>⟨c,e,tZ j hd k c d⟩
 pyHash:=λg ⟨c,e,d⟩ h=>wA c g d h
 eqBool:=λ{A E s x y a b Q} g ⟨c,e,d⟩ ⟨i,bs,f⟩ h=>SeqAt.eqBoolOverData prog w A E s _ _ _ _ _ _ Q d f (lJ c) (lJ i) (by have:=uw c;omega) (by rw[qL c i];exact h)
 quiet:=λ⟨c,e,d⟩ h=>t5 c d h
abbrev Key:=Sum Int ej
noncomputable def qM:Key->ay->e8
 | .inl k,v=>Value.isInt k v
 | .inr x,v=>Z_ x v
noncomputable def Gi (w:hB):Key->Int
 | .inl k=>hashInt k
 | .inr x=>hashStr w x
theorem bD:∀ {k:Key}{v:ay},qM k v=a6->(∃ i t,k=XZ i/\v=Vl i t)∨(∃ x t,k=Pd x/\v=X1 x t)
 | .inl i,v,h=>by
  obtain⟨t,e⟩:=Value.isInt_shape (k:=i) (v:=v) h;exact .inl ⟨i,t,rfl,e⟩
 | .inr x,v,h=>by
  obtain⟨t,e⟩:=Yi (x:=x) (v:=v) h;exact .inr ⟨x,t,rfl,e⟩
theorem yP (i:Int)(t:Tok):qM (.inl i) (.int i t)=a6:=by simp[qM,Value.isInt]
theorem yO (x:ej)(t:Tok):qM (.inr x) (.str x t)=a6:=by simp[qM,Z_]
theorem D5 (a b:Int):dr ((XZ a:Key)=XZ b)=(a==b):=by
 by_cases e:a=b
 ·subst e;simp
 have h:¬ (XZ a:Key)=XZ b:=λq=>e (Sum.inl.inj q);rw[cX h];exact(kv.mpr e).symm
theorem D2 (a b:ej):dr ((Pd a:Key)=Pd b)=dr (a=b):=by
 by_cases e:a=b
 ·subst e;simp
 have h:¬ (Pd a:Key)=Pd b:=λq=>e (Sum.inr.inj q);rw[cX h,cX e]
theorem D4 (a:Int)(b:ej):dr ((XZ a:Key)=Pd b)=bo:=cX (λq=>nomatch q)
theorem D3 (a:ej)(b:Int):dr ((Pd a:Key)=XZ b)=bo:=cX (λq=>nomatch q)
noncomputable def bF (prog:ew)(w:hB):YS prog w Key where
 is:=qM
 hash:=Gi w
 inj:=λv a b f hb=>by
  rcases bD f with ⟨i,t,rfl,rfl⟩ |⟨x,t,rfl,rfl⟩
  ·rcases bD hb with ⟨j,u,rfl,e⟩ |⟨y,u,rfl,e⟩
   ·injection e with c _;rw[c]
   exact nomatch e
  rcases bD hb with ⟨j,u,rfl,e⟩ |⟨y,u,rfl,e⟩
  ·exact nomatch e
  injection e with c _;rw[c]
 byValue:=λk v h=>by
  rcases bD h with ⟨i,t,rfl,rfl⟩ |⟨x,t,rfl,rfl⟩<;>rfl
 pyHash:=λd h=>by
  rcases bD d with ⟨i,t,rfl,rfl⟩ |⟨x,t,rfl,rfl⟩
  ·exact U_ h
  exact Va h
 eqBool:=λg d h=>by
  rcases bD g with ⟨i,t,rfl,rfl⟩ |⟨x,t,rfl,rfl⟩
  ·rcases bD d with ⟨j,u,rfl,rfl⟩ |⟨y,u,rfl,rfl⟩
   ·rw[D5] at h;exact wpAny_eqBool_int h
   rw[D4] at h;exact SeqAt.EqAt.int_str i t y u _ _ _ _ h
  rcases bD d with ⟨j,u,rfl,rfl⟩ |⟨y,u,rfl,rfl⟩
  ·rw[D3] at h;exact SeqAt.EqAt.str_int x t j u _ _ _ _ h
  rw[D2] at h;exact wpAny_eqBool_str h
 «strs»:=λk x t v h=>by
  rcases bD h with ⟨i,u,rfl,e⟩ |⟨y,u,rfl,e⟩
  ·exact nomatch e
  injection e with c _
  subst c;cases v<;>rfl
theorem uk (prog:ew)(w:hB)(i:Int)(t:Tok):(bF prog w).is (.inl i) (.int i t)=a6:=yP i t
theorem uj (prog:ew)(w:hB)(x:ej)(t:Tok):(bF prog w).is (.inr x) (.str x t)=a6:=yO x t
inductive V where
 |Ic |bl (b:e8) |int (i:Int) |str (x:ej) |RG (b:h8 UInt8) |P6 (b:UInt64) |ref (a:b0) |ty (n:NA)
 deriving DecidableEq
noncomputable def RelV:V->ay->Prop
 | .Ic,u=>u=Jy
 | .bl b,u=>u=QH b
 | .int i,u => ∃ t,u=Vl i t
 | .str x,u => ∃ t,u=X1 x t
 | .RG b,u => ∃ t,u=Value.bytes b t
 | .P6 b,u => ∃ t,u=Value.float b t
 | .ref a,u=>u=h6 a
 | .ty n,u=>u=R0 n
abbrev Vals:ae V->ae ay->Prop:=i4 RelV
theorem Vals.length {xs:ae V}{us:ae ay}(r:Vals xs us):xs.length=us.length:=Q7 r
theorem Vals.get:∀ {xs:ae V}{us:ae ay}{i:Nat}{x:V},Vals xs us->xs[i]?=aa x->∃ u,us[i]?=aa u/\RelV x u
 |_,_,_,_,.nil,e=>by simp at e
 |_,_,0,_,.cons r _,e=>by simp at e;subst e;exact⟨_,rfl,r⟩
 |_,_,i+1,x,.cons _ t,e=>by
  obtain⟨u,b,a⟩:=Vals.get (i:=i) (x:=x) t (by simpa using e);exact⟨u,by simpa using b,a⟩
theorem Vals.append:∀ {xs b:ae V}{us a:ae ay},Vals xs us->Vals b a->Vals (xs++b) (us++a)
 |_,_,_,_,.nil,s=>s
 |_,_,_,_,.cons r t,s => .cons r (Vals.append t s)
theorem Vals.take:∀ {xs:ae V}{us:ae ay}(n:Nat),Vals xs us->Vals (xs.take n) (us.take n)
 |_,_,0,_ => .nil
 |_,_,_+1,.nil => .nil
 |_,_,n+1,.cons r t => .cons r (Vals.take n t)
theorem Vals.drop:∀ {xs:ae V}{us:ae ay}(n:Nat),Vals xs us->Vals (xs.drop n) (us.drop n)
 |_,_,0,r=>r
 |_,_,_+1,.nil => .nil
 |_,_,n+1,.cons _ t=>Vals.drop n t
noncomputable def Js:ax V->ax ay->Prop
 |aa v,aa u=>RelV v u
 |av,av=>True
 |_,_=>False
def KV {a:Type}:ae (a×V)->ae (a×ay)->Prop:=i4 λ(p : a×V) (q : a×ay)=>p.1=q.1/\RelV p.2 q.2
noncomputable def kV:Key->V
 | .inl i => .int i
 | .inr x => .str x
inductive HO where
 |lst (xs:ae V)
 |tup (xs:ae V)
 |dK (kvs:ae (Key×V)) |dT (kvs:ae (ae Key×V)) |dN (kvs:ae (e9×b0×V))
 |set (S:Int->e8) (n:Nat)
 |ins (C dx:b0) (fs:ae (ej×V))
 |own (x:b0)
 |xd (fs:ae (ej×V))
 |met (f x:b0)
 |OK (lo hi:Int)
 |ME (o:VJ) (u:HO)
 |OL (ps:h8 ay)
 |ext (φ:j0->Prop)
abbrev Hp:=b0->ax HO
noncomputable def upd (H:Hp) (a:b0) (o:HO):Hp:=λb=>if b=a then aa o else H b
theorem HG {H:Hp}{a:b0}{o:HO}:upd H a o a=aa o:=by unfold upd;rw[dw rfl]
theorem aG {H:Hp}{a b:b0}{o:HO}(h:b≠a):upd H a o b=H b:=by unfold upd;rw[ee h]
theorem Fd {H:Hp}{a b:b0}{o u:HO}(h:H a=aa o)(h':H b=aa u)(d:o≠u):a≠b:=by intro e;subst e;rw[h] at h';exact d (kx h')
theorem aU {H:Hp}{a b:b0}{o:HO}(h:H a=aa o)(h':H b=av):a≠b:=by intro e;subst e;rw[h] at h';cases h'
def KH (h:j0)(a:b0)(its:h8 ay):Prop:=∃ n,h.get? a=aa { cls:=.type "tuple",data:=.seq its n }
theorem KH.tup {h:j0}{a:b0}{its:h8 ay}(x:KH h a its):Xb h a its:=let ⟨n,e⟩:=x;⟨_,e,rfl,n,rfl⟩
theorem KH.new (h:j0)(its:h8 ay):KH (h.push { cls:=.type "tuple",data:=.seq its }) h.objs.size its:=⟨_,en _ rfl⟩
section
variable (P:ew) (w:hB)
noncomputable def Ig (H:Hp)(h:j0)(a:b0):HO->Prop
 | .lst c=>c.length<=dk/\∃ (its:ae ay) (n:Nat),Vals c its/\h.get? a=aa { cls:=.type "list",data:=.seq its.toArray n }
 | .tup c=>c.length<=dk/\∃ its:ae ay,Vals c its/\KH h a its.toArray
 | .dK b=>b.length<=dk/\(a==MV)=bo/\∃ j,KV b j/\h.DictOf (bF P w) a j
 | .dT b=>b.length<=dk/\(a==MV)=bo/\∃ c:ae (ae Key×b0×ay),
   i4 (λ(p:ae Key×V) (q:ae Key×b0×ay)=>p.1=q.1/\H q.2.1=aa (.tup (p.1.map kV))/\RelV p.2 q.2.2) b c /\
   ∃ o es ep,h.get? a=aa o/\o.ExactDict/\o.data = .dict es ep/\es.toList=c.map (entryOfKey (X2 (bF P w)))/\(c.map (·.1)).Nodup
 | .dN b=>b.length<=dk/\(a==MV)=bo/\∃ c:ae (e9×b0×ay),i4 (λp q=>p.1=q.1/\p.2.1=q.2.1/\RelV p.2.2 q.2.2) b c /\
   ∃ o es ep,h.get? a=aa o/\o.ExactDict/\o.data = .dict es ep/\es.toList=c.map (entryOfKey (ba P w))/\(c.map (·.1)).Nodup
 | .set S n=>h.SetOf (intKind P w) a S n
 | .ins C e fs=>H e=aa (.own a)/\fs.length<=1000/\e≠a/\h.get? a=aa (z0 C e) /\
   ∃ d,h.Ns1 e d/\(∀ f,Js (fs.lookup f) (d f))/\YT d (fs.map (·.1))
 | .own _ => ∃ o,h.get? a=aa o
 | .xd fs => ∃ d,h.Ns1 a d/\∀ f,Js (fs.lookup f) (d f)
 | .OK lo m => ∃ t u v,h.get? a=aa { cls:=.type "range",data:=.fields #[.int lo t,.int m u,.int 1 v] }
 | .ME o u=>h.get? a=aa o/\Ig H h a u
 | .OL l=>h.get? a=aa { cls:=.none,data:=.fields l }
 | .met f x=>h.get? a=aa (TN (.ref f) (.ref x))
 | .ext g => g h/\(∃ o,h.get? a=aa o)/\∀ i k:j0,g i->(∀ o,i.get? a=aa o->k.get? a=aa o)->g k
def JX (H:Hp)(h:j0):Prop:=∀ a o,H a=aa o->Ig P w H h a o
end
section
variable {P:ew}{w:hB}{H H':Hp}{h h':j0}{a:b0}{o:HO}
theorem Ig.lt (x:Ig P w H h a o):a<h.objs.size:=by
 cases o with
 |lst c=>obtain⟨_,_,_,_,e⟩:=x;exact ek e
 |tup c=>obtain⟨_,_,_,_,e⟩:=x;exact ek e
 |dK b=>obtain⟨_,_,_,_,o,_,_,e,_⟩:=x;exact ek e
 |dT b=>obtain⟨_,_,_,_,o,_,_,e,_⟩:=x;exact ek e
 |dN b=>obtain⟨_,_,_,_,o,_,_,e,_⟩:=x;exact ek e
 |set S n=>obtain⟨o,_,_,_,e,_⟩:=x;exact ek e
 |ins C j fs=>obtain⟨_,_,_,e,_⟩:=x;exact ek e
 |own y=>obtain⟨_,e⟩:=x;exact ek e
 |xd fs=>obtain⟨_,⟨_,_,_,e,_⟩,_⟩:=x;exact ek e
 |OK lo i=>obtain⟨_,_,_,e⟩:=x;exact ek e
 |ME k u=>obtain⟨e,_⟩:=x;exact ek e
 |OL g=>exact ek (show h.get? a=aa _ from x)
 |met f y=>exact ek (show h.get? a=aa _ from x)
 |ext d=>obtain⟨_,⟨_,e⟩,_⟩:=x;exact ek e
theorem Paired.Lx {α c:Type}{F G : α->c->Prop}:∀ {l₁:ae α}{l₂:ae c},i4 F l₁ l₂->(∀ a b,F a b->G a b)->i4 G l₁ l₂
 |_,_,.nil,_ => .nil
 |_,_,.cons r t,f => .cons (f _ _ r) (Paired.Lx t f)
theorem Ig.Ly (x:Ig P w H h a o)(k:∀ b u,(b=a∨H b=aa (.own a))->h.get? b=aa u->h'.get? b=aa u)
  (B:∀ b,H b=aa (.own a)->H' b=aa (.own a)) (A:∀ b xs,H b=aa (.tup xs)->H' b=aa (.tup xs)):Ig P w H' h' a o:=by
 induction o with
 |lst xs=>obtain⟨z,its,n,r,e⟩:=x;exact⟨z,its,n,r,k _ _ (.inl rfl) e⟩
 |tup xs=>obtain⟨z,its,r,n,e⟩:=x;exact⟨z,its,r,n,k _ _ (.inl rfl) e⟩
 |dK i=>obtain⟨z,y,D,r,g,es,ep,e,c⟩:=x;exact⟨z,y,D,r,g,es,ep,k _ _ (.inl rfl) e,c⟩
 |dT i =>
  obtain⟨z,y,xs,r,g,es,ep,e,c⟩:=x;exact⟨z,y,xs,Paired.Lx r λp q z=>⟨z.1,A _ _ z.2.1,z.2.2⟩,g,es,ep,k _ _ (.inl rfl) e,c⟩
 |dN i=>obtain⟨z,y,xs,r,g,es,ep,e,c⟩:=x;exact⟨z,y,xs,r,g,es,ep,k _ _ (.inl rfl) e,c⟩
 |set S n=>obtain⟨g,es,ep,t,e,c⟩:=x;exact⟨g,es,ep,t,k _ _ (.inl rfl) e,c⟩
 |ins C I fs =>
  obtain⟨d,z,ne,e,j,⟨l,es,ep,E,c⟩,r⟩:=x;exact⟨B _ d,z,ne,k _ _ (.inl rfl) e,j,⟨l,es,ep,k _ _ (.inr d) E,c⟩,r⟩
 |own y=>obtain⟨g,e⟩:=x;exact⟨g,k _ _ (.inl rfl) e⟩
 |xd fs=>obtain⟨j,⟨l,es,ep,e,c⟩,r⟩:=x;exact⟨j,⟨l,es,ep,k _ _ (.inl rfl) e,c⟩,r⟩
 |OK lo G=>obtain⟨t,u,v,e⟩:=x;exact⟨t,u,v,k _ _ (.inl rfl) e⟩
 |ME g u s=>obtain⟨e,q⟩:=x;exact⟨k _ _ (.inl rfl) e,s q⟩
 |OL m =>
  have e:h.get? a=aa { cls:=.none,data:=.fields m }:=x;show h'.get? a=aa { cls:=.none,data:=.fields m };exact k a _ (.inl rfl) e
 |met f y =>
  have e:h.get? a=aa (TN (.ref f) (.ref y)):=x;show h'.get? a=aa (TN (.ref f) (.ref y));exact k a _ (.inl rfl) e
 |ext F=>obtain⟨p,⟨o,e⟩,st⟩:=x;exact⟨st _ _ p λo q=>k _ _ (.inl rfl) q,⟨o,k _ _ (.inl rfl) e⟩,st⟩
theorem JX.lt (x:JX P w H h)(e:H a=aa o):a<h.objs.size:=(x a o e).lt
theorem JX.fresh (x:JX P w H h)(e:h.objs.size<=a):H a=av:=by
 cases q:H a with
 |none=>rfl
 |some u=>exact hK (hv (x.lt q) e) (qb _)
theorem JX.kept (x:JX P w H h)(k:∀ b u,h.get? b=aa u->h'.get? b=aa u):JX P w H h':=λa o e =>
 (x a o e).Ly (λb u _ q=>k b u q) (λ_ q=>q) λ_ _ q=>q
theorem JX.laid (x:JX P w H h)(k:∀ b u,h.get? b=aa u->h'.get? b=aa u)(f:h.objs.size<=a)(new:Ig P w (upd H a o) h' a o):JX P w (upd H a o) h':=λb u e=>by
 have d:=x.fresh f;by_cases hb:b=a
 ·subst hb;rw[HG] at e;cases e;exact new
 rw[aG hb] at e;exact(x b u e).Ly (λc v _ q=>k c v q) (λc q=>by rw[aG (aU q d)];exact q) λc g q=>by rw[aG (aU q d)];exact q
end
def Rd (H:Hp)(a:b0)(u:HO):Prop:=H a=aa u∨∃ o,H a=aa (.ME o u)
theorem Rd.ok {P:ew}{w:hB}{H:Hp}{h:j0}{a:b0}{u:HO}(r:Rd H a u)(x:JX P w H h):Ig P w H h a u:=by
 rcases r with r |⟨o,r⟩
 ·exact x a u r
 obtain⟨_,q⟩:=x a _ r;exact q
noncomputable def Qs:ax HO->Prop
 |aa (.lst _)=>True
 |aa (.dK _)=>True
 |aa (.dT _)=>True
 |aa (.dN _)=>True
 |aa (.set _ _)=>True
 |aa (.ins _ _ _)=>True
 |aa (.ext _)=>True
 |_=>False
section
variable {P:ew}{w:hB}{H:Hp}{h h':j0}{x e:b0}{o':HO}
theorem JX.write (ok:JX P w H h)(a:Qs (H x))(i:e=x∨H e=aa (.own x))(k:∀ b u,b≠e->h.get? b=aa u->h'.get? b=aa u)(m:∃ u,h'.get? e=aa u)
  (new:Ig P w (upd H x o') h' x o'):JX P w (upd H x o') h':=λb u q=>by
 have g:∀ c y,H c=aa (.own y)->c≠x:=λc y r z=>by subst z;rw[r] at a;exact a
 have n:∀ c d,H c=aa (.tup d)->c≠x:=λc d r z=>by subst z;rw[r] at a;exact a
 by_cases hb:b=x
 ·subst hb;rw[HG] at q;cases q;exact new
 rw[aG hb] at q;by_cases f:b=e
 ·have j:H b=aa (.own x):=by
   rcases i with z |z
   ·exact hK (f.trans z) hb
   rw[f];exact z
  rw[q] at j;cases j;obtain⟨v,l⟩:=m;exact⟨v,by rw[f];exact l⟩
 refine(ok b u q).Ly (λc v hc r=>k c v ?_ r) (λc r=>by rw[aG (g c b r)];exact r) λc d r=>by rw[aG (n c d r)];exact r
 rcases hc with rfl |hc
 ·exact f
 rintro rfl;rcases i with z |z
 ·exact g c b hc z
 rw[hc] at z;cases z;exact hb rfl
end
structure Un (fs ex:ae b0) (H H':Hp) (h h':j0):Prop where
 keep:∀ b o,h.get? b=aa o->H b=av->b∉fs->b∉ex->h'.get? b=aa o
 slot:∀ b o,h.get? b=aa o->H b=av->b∈fs->b∉ex->∃ sl,h'.get? b=aa { o with slots:=sl }
 free:∀ b o,h.get? b=aa o->H b=av->b∉ex->H' b=av
 there:∀ b o,h.get? b=aa o->b∉ex->∃ o',h'.get? b=aa o'
 Lz:∀ b xs,H b=aa (.tup xs)->H' b=aa (.tup xs)
 Lb:∀ b o u,H b=aa (.ME o u)->H' b=aa (.ME o u)
 LA:∀ b ps,H b=aa (.OL ps)->∃ more,H' b=aa (.OL (ps++more))
section
variable {fs Up ex XR:ae b0}{H H1 H2:Hp}{h h1 h2 h':j0}{a x e:b0}{o:HO}
theorem Un.any (u:Un fs ex H H1 h h1){b:b0}{a:VJ}(q:h.get? b=aa a)(n:H b=av)(c:b∉ex):∃ d,h1.get? b=aa { a with slots:=d }:=by
 by_cases hb:b∈fs
 ·exact u.slot b a q n hb c
 exact⟨a.slots,u.keep b a q n hb c⟩
theorem Un.kept (k:∀ b u,h.get? b=aa u->h'.get? b=aa u):Un fs ex H H h h':=
 ⟨λb a q _ _ _=>k b a q,λb a q _ _ _=>⟨a.slots,k b a q⟩,λ_ _ _ n _=>n,λb a q _=>⟨a,k b a q⟩,λ_ _ q=>q,λ_ _ _ q=>q,λ_ c q=>⟨#[],by rw[q];simp⟩⟩
theorem Un.refl:Un fs ex H H h h:=Un.kept λ_ _ q=>q
theorem Un.laid (k:∀ b u,h.get? b=aa u->h'.get? b=aa u)(d:h.objs.size<=a)(c:H a=av):Un fs ex H (upd H a o) h h' where
 keep:=λb u q _ _ _=>k b u q
 slot:=λb u q _ _ _=>⟨u.slots,k b u q⟩
 free:=λb u q n _=>by rw[aG (md (hv (ek q) d))];exact n
 there:=λb u q _=>⟨u,k b u q⟩
 Lz:=λb e q=>by rw[aG (aU q c)];exact q
 Lb:=λb u e q=>by rw[aG (aU q c)];exact q
 LA:=λb f q=>⟨#[],by rw[aG (aU q c),q];simp⟩
theorem Un.write (a:Qs (H x))(i:e=x∨H e=aa (.own x))(k:∀ b u,b≠e->h.get? b=aa u->h'.get? b=aa u)(g:∃ u,h'.get? e=aa u):Un fs ex H (upd H x o) h h':=by
 have d:∀ b,H b=av->b≠x:=λb n z=>by subst z;rw[n] at a;exact a
 have hb:∀ b,H b=av->b≠e:=λb n z=>by
  subst z;rcases i with r |r
  ·exact d b n r
  rw[n] at r;cases r
 have c:∀ b u,H b=aa u->¬ Qs (aa u)->b≠x:=λb u q j z=>by subst z;rw[q] at a;exact j a
 refine⟨λb u q n _ _=>k b u (hb b n) q,λb u q n _ _=>⟨u.slots,k b u (hb b n) q⟩,λb u q n _=>by rw[aG (d b n)];exact n,λb u q _=>?_,
  λb l q=>by rw[aG (c b _ q λz=>z)];exact q,λb u l q=>by rw[aG (c b _ q λz=>z)];exact q,λb m q=>⟨#[],by rw[aG (c b _ q λz=>z),q];simp⟩⟩
 by_cases f:b=e
 ·subst f;exact g
 exact⟨u,k b u f q⟩
end
noncomputable def RH (h:j0)(H:Hp):ae b0:=(ei h.objs.size).filter λa=>(H a).isSome
noncomputable def sB (h:j0)(H:Hp):j0:=PySem.W.hideAll h (RH h H)
theorem yU (h:j0)(H:Hp):(sB h H).objs.size=h.objs.size:=PySem.W.hideAll_size _ _
theorem AA {h:j0}{H:Hp}{b:b0}{o:VJ}(e:h.get? b=aa o)(n:H b=av):(sB h H).get? b=aa o:=
 PySem.W.hideAll_get _ e λa=>by
  have q:(H b).isSome=a6:=(N7.mp a).2;rw[n] at q;simp at q
theorem BU {h:j0}{H:Hp}{b:b0}{o:VJ}(e:(sB h H).get? b=aa o):h.get? b=aa o/\H b=av:=by
 have a:h.get? b=aa o:=PySem.W.of_hideAll (RH h H) e;refine⟨a,?_⟩;cases q:H b with
 |none=>rfl
 |some x =>
  have c:b∈RH h H:=N7.mpr ⟨nC.mpr (ek a),by simp[q]⟩;have z:(sB h H).get? b=av:=PySem.W.hideAll_none (RH h H) c;rw[z] at e;cases e
noncomputable def CG (g h:j0)(L:b0):Hr:=(ei h.objs.size).filterMap λa=>if a=L∨(g.get? a).isSome=a6 then av else (h.get? a).map λo=>(a,o)
noncomputable def rest (g h:j0)(L d:b0):Hr:=(CG g h L).filter λp=>dr (p.1≠d)
structure Mod (K:Ho) (mg:Hs) (base:j0):Prop where
 Qu:K.In base
 glob:base.Ns ly mg
 blt:∃ mb,base.Ns R6 mb/\∀ x:ej,x≠"__name__"->mb x=lC x
 nolimit:base.NoLimit
structure Cx where
 prog:ew
 w:hB
 K:Ho
 mg:Hs
 base:j0
 A:hG
 N:ae ej
 s₀:cc
 H₀:Hp
 env:Yy
 outer:ae Yy
 stack:ae Yy
 ex:ae b0
 fn:ej->e8
 calm:e8
 pn:Hr
 xe:Hq
noncomputable def MT (l:ae Yy):ae b0:=l.filterMap (·.frame)
abbrev Cx.fs (X:Cx):ae b0:=MT X.outer
def RI (sc:i0)(x:ej):Prop:=sc.names.lookup x=aa .local∨sc.names.lookup x=aa .cell∨sc.names.lookup x=aa .free
def Loc (sc:i0)(x:ej):Prop:=sc.names.lookup x=aa .local∨sc.names.lookup x=aa .cell
def Look (env:Yy)(h:j0)(m:Hs)(x:ej)(u:ay):Prop:=
 (env.kindOf x=aa .local/\m x=aa u)∨((env.kindOf x=aa .cell∨env.kindOf x=aa .free)/\∃ c,env.cells.lookup x=aa c/\h.IsCell c (aa u))
structure Cx.Ok (X:Cx):Prop where
 mod:Mod X.K X.mg X.base
 kind:X.env.scope.kind = .function
 glob:X.env.globals=ly
 blt:X.env.builtins=R6
 above:X.s₀.heap.objs.size<=X.env.locals
 inj:∀ x y c,X.env.cells.lookup x=aa c->X.env.cells.lookup y=aa c->x=y
 has:∀ x,(X.env.kindOf x=aa .cell∨X.env.kindOf x=aa .free)->∃ c,X.env.cells.lookup x=aa c
 Qv:∀ x c,X.fn x=a6->X.env.cells.lookup x=aa c->X.s₀.heap.objs.size<=c
 hd:X.calm=a6->X.A.handled=av
 frames:X.A.frames=aa X.stack
 RJ:X.stack=X.outer∨(X.stack=X.env::X.outer/\X.env.frame=aa X.env.locals)
 Uq:∀ b∈X.ex,b≠X.env.locals/\∀ x c,X.env.cells.lookup x=aa c->c≠b
 bs:∀ b o,X.base.get? b=aa o->X.s₀.heap.get? b=aa o/\X.H₀ b=av
 Oc:X.base.objs.size<=X.s₀.heap.objs.size
 Nu:∀ b o,X.base.get? b=aa o->b∉X.ex
 Od:∀ b∈X.ex,b∉X.fs
 Kw:X.s₀.heap.FunFrames X.base X.outer
 O9:∀ b∈X.fs,X.H₀ b=av
structure Inv (X:Cx) (pins:Hr) (σ:ae (ax V)) (H:Hp) (s:cc):Prop where
 ok:X.Ok
 os:s.os=X.s₀.os
 bare:TU s.gens
 base:Un X.fs X.ex X.H₀ H X.s₀.heap s.heap
 loc:∃ m,s.heap.Ns X.env.locals m/\∀ (i:Nat) (x:ej) (v:V),X.N[i]?=aa x->σ[i]?=aa (aa v)->RI X.env.scope x->∃ u,RelV v u/\Look X.env s.heap m x u
 cell:∀ x c,X.env.cells.lookup x=aa c->∃ v,s.heap.IsCell c v
 free:H X.env.locals=av
 JT:∀ x c,X.env.cells.lookup x=aa c->H c=av
 pin:∀ p∈X.pn++pins,s.heap.get? p.1=aa p.2/\H p.1=av/\p.1≠X.env.locals/\p.1∉X.fs/\∀ v,p.2.data≠.cell v
 HZ:JX X.prog X.w H s.heap
 len : σ.length=X.N.length
section
variable {X:Cx}{pins:Hr}{σ:ae (ax V)}{H H':Hp}{s:cc}{h':j0}
theorem Cx.Ok.Sj (ok:X.Ok){b:b0}{o:VJ}(e:X.base.get? b=aa o):b∉X.fs:=λhb=>by have:=(ok.Kw.mem hb).1;rw[e] at this;cases this
theorem Inv.bs (I:#[10]):∀ b o,X.base.get? b=aa o->#[15]=aa o/\H b=av:=λb o e =>
 ⟨I.base.keep b o (I.ok.bs b o e).1 (I.ok.bs b o e).2 (I.ok.Sj e) (I.ok.Nu b o e),I.base.free b o (I.ok.bs b o e).1 (I.ok.bs b o e).2 (I.ok.Nu b o e)⟩
theorem Inv.bk (I:#[10]):∀ b o,X.base.get? b=aa o->#[15]=aa o:=λb o e=>(I.bs b o e).1
theorem Inv.mod (I:#[10]):Mod X.K X.mg X.base:=I.ok.mod
theorem Inv.LB (I:#[10]):X.K.In s.heap:=I.ok.mod.Qu.keeps I.bk
theorem Inv.lt (I:#[10]):X.env.locals<s.heap.objs.size:=let ⟨_,a,_⟩:=I.loc;a.lt
theorem Inv.sz (I:#[10]):X.s₀.heap.objs.size<=s.heap.objs.size:=fk I.ok.above (qs I.lt)
theorem Inv.Sk (I:#[10]){a:b0}(h:s.heap.objs.size<=a):a∉X.fs:=λhb=>by obtain⟨_,o,b,_⟩:=I.ok.Kw.mem hb;exact hK (hv (ek b) (fk I.sz h)) (qb _)
theorem Inv.O_ (I:#[10]):∀ x c,#[16]=aa c->c≠X.env.locals:=λx c e z=>by obtain⟨v,o,a,hd⟩:=I.cell x c e;obtain⟨m,⟨f,es,ep,d,b,_⟩,_⟩:=I.loc;rw[z,d] at a;cases a;rw[b] at hd;cases hd
theorem Inv.Kw (I:#[10]):s.heap.FunFrames X.base X.outer:=by
 have all:∀ (l:ae Yy),(∀ b∈MT l,b∈X.fs)->X.s₀.heap.FunFrames X.base l->s.heap.FunFrames X.base l:=by
  intro l
  induction l with
  |nil=>intro _ _;trivial
  |cons env r f =>
   intro d i;obtain⟨h,⟨L,o,c,j,g,hd⟩,hr⟩:=i;have a:L∈X.fs:=d L (by unfold MT;rw[PJ,c];exact e7);obtain⟨k,e⟩:=I.base.slot L o g (I.ok.O9 L a) a λz=>I.ok.Od L z a;exact⟨h,⟨L,_,c,j,e,hd⟩,f (λb hb=>d b (by unfold MT;rw[PJ,c];exact d7 _ hb)) hr⟩
 exact all X.outer (λ_ hb=>hb) I.ok.Kw
theorem Inv.stack (I:#[10]):s.heap.FunFrames X.base X.stack:=by
 rcases I.ok.RJ with e |⟨e,a⟩
 ·rw[e];exact I.Kw
 rw[e];obtain⟨m,b,_⟩:=I.loc;refine .cons (by rw[I.ok.kind];decide) a b ?_ I.Kw;exact Heap.get?_none_of_le (fk I.ok.Oc I.ok.above)
theorem Inv.LD (I:#[10]):∀ b∈MT X.stack,b∈X.env.locals::X.fs:=λb hb=>by
 rcases I.ok.RJ with e |⟨e,a⟩
 ·rw[e] at hb;exact d7 _ hb
 rw[e] at hb;unfold MT at hb;rw[PJ,a] at hb;exact hb
theorem Inv.MF (I:#[10]):∀ b∈MT X.stack,H b=av:=λb hb=>by
 rcases gi.mp (I.LD b hb) with e |hb
 ·rw[e];exact I.free
 obtain⟨_,o,a,_⟩:=I.ok.Kw.mem hb;exact I.base.free b o a (I.ok.O9 b hb) λz=>I.ok.Od b z hb
theorem Inv.step {g':h8 Xc}{t':Nat}{d':Drawn}{ch:ae b0}(I:#[10])
  (t:∀ b∈ch,(b∈X.ex∨X.s₀.heap.objs.size<=b)/\b≠X.env.locals/\(∀ x c,#[16]=aa c->c≠b)/\∀ p∈X.pn++pins,p.1≠b)
  (keep:∀ b o,b≠X.env.locals->b∉X.fs->b∉ch->#[15]=aa o->H b=av->h'.get? b=aa o)
  (slot:∀ b o,b≠X.env.locals->b∈X.fs->b∉ch->#[15]=aa o->H b=av->∃ D,h'.get? b=aa { o with slots:=D }) (free:∀ b o,b∉ch->#[15]=aa o->H b=av->H' b=av)
  (there:∀ b o,b∉ch->#[15]=aa o->∃ A,h'.get? b=aa A)
  (Lz:∀ b xs,H b=aa (.tup xs)->H' b=aa (.tup xs)) (Lb:∀ b o u,H b=aa (.ME o u)->H' b=aa (.ME o u)) (LA:∀ b C,H b=aa (.OL C)->∃ more,H' b=aa (.OL (C++more)))
  (ns:∀ m,s.heap.Ns X.env.locals m->h'.Ns X.env.locals m) (HZ:JX X.prog X.w H' h') (K:TU g') :
  Inv X pins σ H' { s with heap:=h',gens:=g',drawn:=d',toks:=t' }:=by
 have F:∀ b o,X.s₀.heap.get? b=aa o->b≠X.env.locals:=λb o e=>md (hv (ek e) I.ok.above)
 have B:∀ b o,X.s₀.heap.get? b=aa o->b∉X.ex->b∉ch:=λb o e a hb=>by
  rcases (t b hb).1 with z |z
  ·exact a z
  exact hK (hv (ek e) z) (qb _)
 have f:∀ x c,#[16]=aa c->∀ v,s.heap.IsCell c v->h'.IsCell c v:=λx c e v G=>by
  obtain⟨o,h,hd⟩:=G
  have j:c∉ch:=λz=>(t c z).2.2.1 x c e rfl;by_cases hc:c∈X.fs
  ·obtain⟨D,q⟩:=slot c o (I.O_ x c e) hc j h (I.JT x c e);exact⟨_,q,hd⟩
  exact⟨o,keep c o (I.O_ x c e) hc j h (I.JT x c e),hd⟩
 refine⟨I.ok,I.os,K,⟨λb o e n hb a=>?_,λb o e n hb a=>?_,λb o e n a=>?_,λb o e a=>?_,λb xs e=>Lz b xs (I.base.Lz b xs e),λb o xs e=>Lb b o xs (I.base.Lb b o xs e),λb C e=>?_⟩,?_,λx c e=>?_,?_,λx c e=>?_,λp E=>?_,HZ,I.len⟩
 ·exact keep b o (F b o e) hb (B b o e a) (I.base.keep b o e n hb a) (I.base.free b o e n a)
 ·obtain⟨D,g⟩:=I.base.slot b o e n hb a;obtain⟨L,y⟩:=slot b _ (F b o e) hb (B b o e a) g (I.base.free b o e n a);exact⟨L,y⟩
 ·obtain⟨A,g⟩:=I.base.there b o e a;exact free b A (B b o e a) g (I.base.free b o e n a)
 ·obtain⟨A,g⟩:=I.base.there b o e a;exact there b A (B b o e a) g
 ·obtain⟨m1,g⟩:=I.base.LA b C e;obtain⟨m2,y⟩:=LA b _ g;exact⟨m1++m2,by rw[y,Array.append_assoc]⟩
 ·obtain⟨m,N,M⟩:=I.loc;refine⟨m,ns m N,λi x v g y J=>?_⟩;obtain⟨u,r,l⟩:=M i x v g y J;refine⟨u,r,?_⟩;rcases l with l |⟨k,c,e,z⟩
  ·exact .inl l
  exact .inr ⟨k,c,e,f x c e _ z⟩
 ·obtain⟨v,z⟩:=I.cell x c e;exact⟨v,f x c e v z⟩
 ·obtain⟨m,⟨o,_,_,h,_⟩,_⟩:=I.loc;exact free _ o (λz=>(t _ z).2.1 rfl) h I.free
 ·obtain⟨v,o,h,hd⟩:=I.cell x c e;exact free c o (λz=>(t c z).2.2.1 x c e rfl) h (I.JT x c e)
 obtain⟨e,n,ne,nf,d⟩:=I.pin p E;have j:p.1∉ch:=λz=>(t p.1 z).2.2.2 p E rfl;exact⟨keep p.1 p.2 ne nf j e n,free p.1 p.2 j e n,ne,nf,d⟩
theorem Inv.un {t':Nat}(I:#[10])(u:Un X.fs [] H H' s.heap h')(HZ:JX X.prog X.w H' h'):Inv X pins σ H' { s with heap:=h',toks:=t' }:=by
 obtain⟨m,⟨o,es,ep,a,r⟩,_⟩:=id I.loc;obtain⟨l,f⟩:=u.any a I.free #[3]
 exact I.step (g':=s.gens) (d':=s.drawn) (ch:=[]) (λ_ z=>nomatch z) (λb o _ hb _ e n=>u.keep b o e n hb #[3]) (λb o _ hb _ e n=>u.slot b o e n hb #[3]) (λb o _ e n=>u.free b o e n #[3]) (λb o _ e=>u.there b o e #[3]) u.Lz u.Lb u.LA (λk d=>by
  obtain⟨j,h,i,c,g⟩:=d;rw[a] at c;cases c
  exact⟨_,h,i,f,g⟩) HZ I.bare
theorem Inv.call {g':h8 Xc}{t':Nat}{d':Drawn}{ch:ae b0}(I:#[10])(u:Un (MT X.stack) ch H H' s.heap h')(HZ:JX X.prog X.w H' h')(l:TU g')
  (d:∀ b∈ch,(b∈X.ex∨X.s₀.heap.objs.size<=b)/\b≠X.env.locals/\(∀ x c,#[16]=aa c->c≠b)/\∀ p∈X.pn++pins,p.1≠b) :
  Inv X pins σ H' { s with heap:=h',gens:=g',drawn:=d',toks:=t' }:=by
 obtain⟨m,⟨o,es,ep,f,r⟩,_⟩:=id I.loc;obtain⟨v,a⟩:=u.any f I.free λz=>(d _ z).2.1 rfl
 exact I.step (ch:=ch) d (λb o a hb hc e n=>u.keep b o e n (λz=>(gi.mp (I.LD b z)).elim a hb) hc) (λb o _ _ hc e n=>u.any e n hc) (λb o hc e n=>u.free b o e n hc) (λb o hc e=>u.there b o e hc) u.Lz u.Lb u.LA (λt h=>by
  obtain⟨q,j,k,g,i⟩:=h;rw[f] at g;cases g
  exact⟨_,j,k,a,i⟩) HZ l
theorem Inv.turned {t':Nat}{it:b0}(I:#[10])(k:∀ b o,b≠it->#[15]=aa o->h'.get? b=aa o)(l:H it=av)(a:it≠X.env.locals)
  (g:it∈X.ex∨X.s₀.heap.objs.size<=it) (j:∀ x c,#[16]=aa c->c≠it) (i:∀ p∈X.pn++pins,p.1≠it):Inv X pins σ H { s with heap:=h',toks:=t' }:=by
 have d:∀ b u,H b=aa u->b≠it:=λb u e z=>by rw[z,l] at e;cases e
 refine I.step (g':=s.gens) (d':=s.drawn) (ch:=[it]) (λb hb=>?_) (λb o _ _ hc e _=>k b o (λz=>hc (by simp[z])) e) (λb o _ _ hc e _=>⟨o.slots,k b o (λz=>hc (by simp[z])) e⟩) (λ_ _ _ _ n=>n)
  (λb o hc e=>⟨o,k b o (λz=>hc (by simp[z])) e⟩) (λ_ _ e=>e) (λ_ _ _ e=>e) (λb t e=>⟨#[],by rw[e];simp⟩) (λm f=>?_) (λb u e=>?_) I.bare
 ·have e:b=it:=by simpa using hb
  subst e;exact⟨g,a,j,i⟩
 ·obtain⟨o,es,ep,h,r⟩:=f;exact⟨o,es,ep,k _ o (vu a) h,r⟩
 refine(I.HZ b u e).Ly (λc v hc q=>k c v ?_ q) (λ_ q=>q) λ_ _ q=>q;rcases hc with z |z
 ·rw[z];exact d b u e
 exact d c _ z
theorem Inv.tok (I:#[10])(t:Nat):Inv X pins σ H { s with toks:=t }:=I.un (h':=s.heap) (t':=t) Un.refl I.HZ
theorem Inv.kept {t':Nat}(I:#[10])(k:∀ b u,#[15]=aa u->h'.get? b=aa u):Inv X pins σ H { s with heap:=h',toks:=t' }:=I.un (Un.kept k) (I.HZ.kept k)
theorem Inv.laid {a:b0}{o:HO}{t':Nat}(I:#[10])(k:∀ b u,#[15]=aa u->h'.get? b=aa u)(c:s.heap.objs.size<=a)(new:Ig X.prog X.w (upd H a o) h' a o) :
  Inv X pins σ (upd H a o) { s with heap:=h',toks:=t' }:=I.un (Un.laid k c (I.HZ.fresh c)) (I.HZ.laid k c new)
theorem Inv.write {x e:b0}{o:HO}{t':Nat}(I:#[10])(a:Qs (H x))(d:e=x∨H e=aa (.own x))(k:∀ b u,b≠e->#[15]=aa u->h'.get? b=aa u)(c:∃ u,h'.get? e=aa u)
  (new:Ig X.prog X.w (upd H x o) h' x o):Inv X pins σ (upd H x o) { s with heap:=h',toks:=t' }:=I.un (Un.write a d k c) (I.HZ.write a d k c new)
theorem Inv.JZ {a:Hr}(I:#[10])(h:∀ p∈a,s.heap.get? p.1=aa p.2/\H p.1=av/\p.1≠X.env.locals/\p.1∉X.fs/\∀ v,p.2.data≠.cell v):Inv X a σ H s:=
 ⟨I.ok,I.os,I.bare,I.base,I.loc,I.cell,I.free,I.JT,λp b=>(il.mp b).elim (λz=>I.pin p (n6 _ z)) (h p),I.HZ,I.len⟩
theorem uc {N:ae ej}(c:N.Nodup){i j:Nat}{x:ej}(a:N[i]?=aa x)(b:N[j]?=aa x):i=j:=by obtain⟨g,e⟩:=b7.mp a;obtain⟨f,d⟩:=b7.mp b;exact(List.getElem_inj c).mp (e.trans d.symm)
theorem qi {M:Model}{A:hG}{E:Hq}{i:Nat}{x:ej}{v:V}{u:ay}{Q:Unit->cc->Prop}(I:#[10])(U:X.N.Nodup)(hi:X.N[i]?=aa x)(l:Loc X.env.scope x)(r:RelV v u)
  (h:∀ s',Inv X pins (σ.set i (aa v)) H s'->(∃ a,Me a s.heap s'.heap/\(a=X.env.locals∨#[16]=aa a))->Q () s') (hf:X.fn x=a6∨X.env.scope.names.lookup x=aa .local:=by first |exact .inl rfl |exact .inr rfl |assumption):d6 M A (storeName X.env x u) Q E s:=by
 obtain⟨m,K,W⟩:=id I.loc;have Sn:(X.env.scope.kind==.class ||(X.env.scope.kind==.module&&X.env.locals != X.env.globals))=bo:=by rw[I.ok.kind];rfl
 have T:i < σ.length:=by rw[I.len];exact(b7.mp hi).1
 have O_:=I.O_
 have tracked:∀ {a:b0}{h':j0},(∃ o,s.heap.get? a=aa o/\H a=av)->Me a s.heap h'->JX X.prog X.w H h':=λ{a h'} ha f b ob e=>by
  obtain⟨_,_,Lj⟩:=ha;refine(I.HZ b ob e).Ly (λc D hc q=>(f.2 c ?_).trans q) (λ_ q=>q) λ_ _ q=>q;rintro rfl;rcases hc with rfl |hc
  ·rw[Lj] at e;cases e
  rw[Lj] at hc;cases hc
 rcases l with hk |hk
 ·refine wpAny_storeName_local hk K (λh' So f=>?_) Sn;obtain⟨oL,_,_,Oe,_⟩:=id K;refine h _ ⟨I.ok,I.os,I.bare,⟨λb o e n hb l=>?_,λb o e n hb l=>?_,I.base.free,λb o e l=>?_,I.base.Lz,I.base.Lb,I.base.LA⟩,⟨_,So,λj y S g t O=>?_⟩,λy c e=>?_,I.free,I.JT,λp F=>?_,tracked ⟨oL,Oe,I.free⟩ f,by simpa using I.len⟩ ⟨_,f,.inl rfl⟩
  ·exact(f.2 b (md (hv (ek e) I.ok.above))).trans (I.base.keep b o e n hb l)
  ·obtain⟨L,g⟩:=I.base.slot b o e n hb l;exact⟨L,(f.2 b (md (hv (ek e) I.ok.above))).trans g⟩
  ·obtain⟨J,g⟩:=I.base.there b o e l;exact⟨J,(f.2 b (md (hv (ek e) I.ok.above))).trans g⟩
  ·by_cases B:j=i
   ·subst B;rw[hi] at g;cases g;rw[Ov T] at t;cases t;exact⟨u,r,.inl ⟨hk,by simp⟩⟩
   rw[Pf (vu B)] at t;obtain⟨P,R,q⟩:=W j y S g t O;refine⟨P,R,?_⟩;rcases q with ⟨k,e⟩ |⟨k,c,e,z⟩
   ·refine .inl ⟨k,?_⟩;have:y≠x:=λe=>B (uc U g (e▸hi));simp[this,e]
   exact .inr ⟨k,c,e,z.sameBut f (O_ y c e)⟩
  ·obtain⟨D,z⟩:=I.cell y c e;exact⟨D,z.sameBut f (O_ y c e)⟩
  obtain⟨e,n,ne,nf,d⟩:=I.pin p F;exact⟨(f.2 p.1 ne).trans e,n,ne,nf,d⟩
 have G:X.fn x=a6:=by
  rcases hf with z |z
  ·exact z
  rw[z] at hk;cases hk
 obtain⟨c,hc⟩:=I.ok.has x (.inl hk);obtain⟨D,z⟩:=I.cell x c hc;refine wpAny_storeName_cell I.ok.kind hk hc z (λh' Mj f=>?_);obtain⟨Z,Y,Ss⟩:=id z;refine h { s with heap:=h' } ⟨I.ok,I.os,I.bare,⟨λb o e n hb l=>?_,λb o e n hb l=>?_,I.base.free,λb o e l=>?_,I.base.Lz,I.base.Lb,I.base.LA⟩,⟨m,K.sameBut f (vu (O_ x c hc)),λj y S g t O=>?_⟩,λy C e=>?_,I.free,I.JT,λp F=>?_,tracked ⟨Z,Y,I.JT x c hc⟩ f,by simpa using I.len⟩ ⟨c,f,.inr hc⟩
 ·exact(f.2 b (md (hv (ek e) (I.ok.Qv x c G hc)))).trans (I.base.keep b o e n hb l)
 ·obtain⟨L,g⟩:=I.base.slot b o e n hb l;exact⟨L,(f.2 b (md (hv (ek e) (I.ok.Qv x c G hc)))).trans g⟩
 ·obtain⟨J,g⟩:=I.base.there b o e l;exact⟨J,(f.2 b (md (hv (ek e) (I.ok.Qv x c G hc)))).trans g⟩
 ·by_cases B:j=i
  ·subst B;rw[hi] at g;cases g;rw[Ov T] at t;cases t;exact⟨u,r,.inr ⟨.inl hk,c,hc,Mj⟩⟩
  rw[Pf (vu B)] at t;obtain⟨P,R,q⟩:=W j y S g t O;refine⟨P,R,?_⟩;rcases q with q |⟨k,C,e,z'⟩
  ·exact .inl q
  refine .inr ⟨k,C,e,z'.sameBut f ?_⟩;rintro rfl;exact B (uc U g (I.ok.inj _ _ _ e hc▸hi))
 ·by_cases Ng:C=c
  ·subst Ng;exact⟨_,Mj⟩
  obtain⟨w2,z2⟩:=I.cell y C e;exact⟨w2,z2.sameBut f Ng⟩
 obtain⟨e,n,ne,nf,d⟩:=I.pin p F;refine⟨(f.2 p.1 ?_).trans e,n,ne,nf,d⟩;intro q;rw[q,Y] at e;have q':Z=p.2:=kx e;exact d D (by rw[← q'];exact Ss)
theorem tI {M:Model}{A:hG}{E:Hq}{i:Nat}{x:ej}{v:V}{u:ay}{Q:Unit->cc->Prop}(I:#[10])(c:X.N.Nodup)(hi:X.N[i]?=aa x)(b:Loc X.env.scope x)(r:RelV v u)
  (h:∀ s',Inv X pins (σ.set i (aa v)) H s'->Q () s') (a:X.fn x=a6∨X.env.scope.names.lookup x=aa .local:=by first |exact .inl rfl |exact .inr rfl |assumption):d6 M A (storeName X.env x u) Q E s:=
 qi I c hi b r (λs' d _=>h s' d) a
theorem Inv.Qy {s':cc}{ch:ae b0}(I:#[10])(g:s'.os=s.os)(u:Un (MT X.stack) ch H H' s.heap s'.heap)(HZ:JX X.prog X.w H' s'.heap)(a:TU s'.gens)
  (d:∀ b∈ch,(b∈X.ex∨X.s₀.heap.objs.size<=b)/\b≠X.env.locals/\(∀ x c,#[16]=aa c->c≠b)/\∀ p∈X.pn++pins,p.1≠b):Inv X pins σ H' s':=by
 obtain⟨h',g',d',t',f⟩:=s';have e:f=s.os:=g;subst e;exact I.call (g':=g') (t':=t') (d':=d') u HZ a d
end
abbrev XK:=ay->ax b0->Hp->Prop
abbrev St:=ae (ax V)
abbrev VK:=V->Hp->Prop
abbrev TE:=St->Hp->VK->Prop
abbrev TT:=St->Hp->(e8->Hp->Prop)->Prop
abbrev TA:=St->Hp->(ae V->Hp->Prop)->Prop
structure Ends where
 nx:St->Hp->Prop
 rt:VK
 bk:St->Hp->Prop:=λ_ _=>False
 ct:St->Hp->Prop:=λ_ _=>False
abbrev TS:=Ends->St->Hp->Prop
def EP (X:Cx)(a:Hr)(c:St)(Q:VK)(u:ay)(s':cc):Prop:=∃ v b,Inv X a c b s'/\RelV v u/\Q v b
def TP (X:Cx)(a:Hr)(d:St)(Q:e8->Hp->Prop)(b:e8)(s':cc):Prop:=∃ c,Inv X a d c s'/\Q b c
def AP (X:Cx)(a:Hr)(d:St)(Q:ae V->Hp->Prop)(us:ae ay)(s':cc):Prop:=∃ b c,Inv X a d c s'/\Vals b us/\Q b c
def SP (X:Cx)(b:Hr)(D:Ends)(f:Flow)(s':cc):Prop:=
 match f with
 | .next => ∃ a c,Inv X b a c s'/\D.nx a c
 | .brk => ∃ a c,Inv X b a c s'/\D.bk a c
 | .cont => ∃ a c,Inv X b a c s'/\D.ct a c
 | .ret u => ∃ v a c,Inv X b a c s'/\RelV v u/\D.rt v c
def PE (X:Cx)(e:gj)(t:TE):Prop:=
 ∀ (a:Hr) (s:cc) (b:St) (H:Hp) (Q:VK),Inv X a b H s->t b H Q->d6 #[9] X.A (lX e X.env) (EP X a b Q) X.xe s
def PT (X:Cx)(e:gj)(t:TT):Prop:=
 ∀ (a:Hr) (s:cc) (b:St) (H:Hp) (Q:e8->Hp->Prop),Inv X a b H s->t b H Q->d6 #[9] X.A (isTrue e X.env (lX e X.env)) (TP X a b Q) X.xe s
def PW (X:Cx)(e:gj)(t:TT):Prop:=
 ∀ (whole:ZI ay) (a:Hr) (s:cc) (b:St) (H:Hp) (Q:e8->Hp->Prop),Inv X a b H s->t b H Q->d6 #[9] X.A (isTrue e X.env whole) (TP X a b Q) X.xe s
theorem PW.pt {X:Cx}{e:gj}{t:TT}(h:PW X e t):PT X e t:=h _
def PA (X:Cx)(es:ae gj)(t:TA):Prop:=
 ∀ (pos:N5) (a:Hr) (s:cc) (b:St) (H:Hp) (Q:ae V->Hp->Prop),Inv X a b H s->t b H Q->d6 #[9] X.A (spliced (mf pos (dm es X.env))) (AP X a b Q) X.xe s
def PS (X:Cx)(st:mq)(t:TS):Prop:=
 ∀ (a:Hr) (s:cc) (b:St) (H:Hp) (D:Ends),Inv X a b H s->t D b H->d6 #[9] X.A (exec st X.env) (SP X a D) X.xe s
def Ml (X:Cx)(st:ae mq)(t:TS):Prop:=
 ∀ (a:Hr) (s:cc) (b:St) (H:Hp) (D:Ends),Inv X a b H s->t D b H->d6 #[9] X.A (execs st X.env) (SP X a D) X.xe s
theorem HU {α:Type}{t:ZI α}{Q b : α->cc->Prop}{M:Model}{A:hG}{E:Hq}{s:cc}(h:d6 M A t Q E s)(c:∀ a s,Q a s->b a s):d6 M A t b E s:=v3 h c λ_ _ x=>x
section
variable {X:Cx}
theorem bin {a b:gj}{n m:TE}(ha:PE X a n)(hb:PE X b m){c:Hr}{s:cc}{e:St}{H:Hp}{R:V->V->Hp->Prop}(I:Inv X c e H s)(h:n e H λx l=>m e l λy d=>R x y d)
  {α:Type}{Q : α->cc->Prop}{f:ay->ay->ZI α}
  (z:∀ v u j x y d,Inv X c e d j->RelV x v->RelV y u->R x y d->d6 #[9] X.A (f v u) Q X.xe j) :
  d6 #[9] X.A (lX a X.env) (λv g=>d6 #[9] X.A (lX b X.env) (λu i=>d6 #[9] X.A (f v u) Q X.xe i) X.xe g) X.xe s:=by
 refine HU (ha c s e H _ I h) λv r k=>?_;obtain⟨x,l,p,o,q⟩:=k;refine HU (hb c r e l _ p q) λu j k=>?_;obtain⟨y,d,t,B,C⟩:=k;exact z v u j x y d t o B C
noncomputable def EI (i:Nat):TE:=λa H Q => ∃ v,a[i]?=aa (aa v)/\Q v H
noncomputable def tC (v:V):TE:=λ_ H Q=>Q v H
theorem zU {i:Nat}{x:ej}{pos:N5}(j:X.N[i]?=aa x)(d:RI X.env.scope x)(hd:(x==("__debug__":ej))=bo:=by decide)(o:(x==("__classdict__":ej))=bo:=by decide):PE X (.Name x pos) (EI i):=by
 intro a s g H Q I h;obtain⟨v,e,h⟩:=h;obtain⟨m,n,k⟩:=I.loc;obtain⟨u,r,l⟩:=k i x v j e d;have fin:EP X a g Q u s:=⟨v,H,I,r,h⟩;rcases l with ⟨hk,f⟩ |⟨hk,c,hc,b⟩
 ·exact ZJ (wpAny_loadName_local I.ok.kind hk n f fin) hd
 rcases hk with hk |hk
 ·exact ZJ (wpAny_loadName_cell I.ok.kind hk hc b fin) hd
 exact ZJ (wpAny_loadName_free I.ok.kind hk hc b fin o) hd
theorem Pa {i j pos}:PE X (.Constant (.int i) j pos) (tC (.int i)):=λ_ _ _ H _ I h=>Yz ⟨.int i,H,I.tok _,⟨_,rfl⟩,h⟩
theorem Qz {b j pos}:PE X (.Constant (.bool b) j pos) (tC (.bl b)):=λ_ _ _ H _ I h=>Constant_bool ⟨.bl b,H,I,rfl,h⟩
theorem Pb {j pos}:PE X (.Constant .none j pos) (tC .Ic):=λ_ _ _ H _ I h=>Constant_none ⟨.Ic,H,I,rfl,h⟩
theorem Pc {x j pos}:PE X (.Constant (.str x) j pos) (tC (.str x)):=λ_ _ _ H _ I h=>Calls.Constant_str ⟨.str x,H,I.tok _,⟨_,rfl⟩,h⟩
def Gl (X:Cx)(x:ej):Prop:=X.env.kindOf x=aa .globalImplicit
theorem sh {E:Hq}{a:Hr}{s:cc}{c:St}{H:Hp}{x:ej}{u:ay}{pos:N5}{Q:Hq}(I:Inv X a c H s)(b:Gl X x)(d:X.mg x=aa u)(h:Q u s)
  (hd:(x==("__debug__":ej))=bo:=by decide):d6 #[9] X.A (lX (.Name x pos) X.env) Q E s:=
 R7 I.ok.kind b (Calls.loadGlobal_global (by rw[I.ok.glob];exact I.mod.glob.keeps I.bk) d h) hd
theorem lH {E:Hq}{a:Hr}{s:cc}{e:St}{H:Hp}{x:ej}{u:ay}{pos:N5}{Q:Hq}(I:Inv X a e H s)(f:Gl X x)(c:X.mg x=av)(b:lC x=aa u)(h:Q u s)
  (i:x≠"__name__":=by decide) (hd:(x==("__debug__":ej))=bo:=by decide):d6 #[9] X.A (lX (.Name x pos) X.env) Q E s:=by
 obtain⟨j,d,g⟩:=I.mod.blt;exact R7 I.ok.kind f (Calls.loadGlobal_builtin (by rw[I.ok.glob];exact I.mod.glob.keeps I.bk) c (by rw[I.ok.blt];exact d.keeps I.bk) ((g x i).trans b) h) hd
theorem BM {x:ej}{v:V}{u:ay}{pos:N5}(a:Gl X x)(b:X.mg x=aa u)(r:RelV v u)(hd:(x==("__debug__":ej))=bo:=by decide):PE X (.Name x pos) (tC v):=
 λ_ _ _ H _ I h=>sh I a b ⟨v,H,I,r,h⟩ hd
theorem BR {x:ej}{v:V}{u:ay}{pos:N5}(a:Gl X x)(c:X.mg x=av)(b:lC x=aa u)(r:RelV v u)(d:x≠"__name__":=by decide)(hd:(x==("__debug__":ej))=bo:=by decide):PE X (.Name x pos) (tC v):=
 λ_ _ _ H _ I h=>lH I a c b ⟨v,H,I,r,h⟩ d hd
variable {a b:gj}{ta tb:TE}{pos:N5}
def PC (X:Cx)(g:Vm)(a b:gj)(t:TE):Prop:=
 ∀ (c:Hr) (s:cc) (f:St) (H:Hp) (Q:VK),Inv X c f H s->t f H Q ->
  d6 #[9] X.A (lX a X.env) (λv e=>d6 #[9] X.A (lX b X.env) (λu d=>d6 #[9] X.A (lg g v u) (EP X c f Q) X.xe d) X.xe e) X.xe s
theorem ud (b:gj){a:Vm}(h:a≠.In)(c:a≠.NotIn):mc a b=bo:=by
 have e:(a==CmpOp.In)=bo:=by cases a<;>first |rfl |exact hK rfl h
 have d:(a==CmpOp.NotIn)=bo:=by cases a<;>first |rfl |exact hK rfl c
 cases b<;>simp[mc,e,d]
noncomputable def tB (t:TE):TT:=λa H Q=>t a H λx b => ∃ c,x = .bl c/\Q c b
theorem DJ {d:Vm}{t:TE}(h:PC X d a b t)(g:mc d b=bo:=by first |exact ud _ (by decide) (by decide) |rfl):PE X (.Compare a [d] [b] pos) t:=λc s e H Q I f=>wpAny_Compare1 (h c s e H Q I f) g
theorem vV {f:Vm}{t:TE}(h:PC X f a b t)(g:mc f b=bo:=by first |exact ud _ (by decide) (by decide) |rfl):PT X (.Compare a [f] [b] pos) (tB t):=by intro e s l H Q I o;refine WZ (HU (h e s l H _ I o) λv w g=>HU g λu y p=>HU p λc r i=>?_) g;obtain⟨x,n,k,j,m⟩:=i;obtain⟨d,rfl,q⟩:=m;cases j;exact pd ⟨n,k,q⟩
theorem Dx {e:gj}{t:TE}(h:PE X e t)(g:∀ whole,isTrue e X.env whole=(do let v ← whole;ZF e.pos;X4 [v] (truthy v)):=by intro _;rfl):PT X e (tB t):=by intro a s i H Q I l;refine isTrue_plain (HU (h a s i H _ I l) λv m b=>?_) (g _);obtain⟨x,k,f,c,j⟩:=b;obtain⟨d,rfl,q⟩:=j;cases c;exact pd ⟨k,f,q⟩
variable {tA RL:TT}{rest:ae gj}
noncomputable def Ga (t u:TT):TT:=λa H Q=>t a H λc b=>if c=a6 then u a b Q else Q bo b
noncomputable def VF (t u:TT):TT:=λa H Q=>t a H λc b=>if c=a6 then Q a6 b else u a b Q
noncomputable def F4 (t:TT):TT:=λa H Q=>t a H λc b=>Q (!c) b
theorem By (ha:PT X a tA):PW X (.BoolOp .And [a] pos) tA:=by
 intro f b s d H Q I h;refine isTrue_and (HU (ha b s d H Q I h) λc g e=>?_);cases c with
 |true=>exact isTrue_and_nil e
 |false=>exact e
theorem Dt (ha:PT X a tA):PW X (.BoolOp .Or [a] pos) tA:=by
 intro f b s d H Q I h;refine isTrue_or (HU (ha b s d H Q I h) λc g e=>?_);cases c with
 |false=>exact isTrue_or_nil e
 |true=>exact e
theorem Du (ha:PT X a tA)(hb:PW X (.BoolOp .And (b::rest) pos) RL):PW X (.BoolOp .And (a::b::rest) pos) (Ga tA RL):=by
 intro l d s f H Q I h;refine isTrue_and (HU (ha d s f H _ I h) λc k j=>?_);obtain⟨i,e,g⟩:=j;cases c with
 |true=>exact hb l d k f i Q e g
 |false=>exact⟨i,e,g⟩
theorem EZ (ha:PT X a tA)(hb:PW X (.BoolOp .Or (b::rest) pos) RL):PW X (.BoolOp .Or (a::b::rest) pos) (VF tA RL):=by
 intro l d s f H Q I h;refine isTrue_or (HU (ha d s f H _ I h) λc k j=>?_);obtain⟨i,e,g⟩:=j;cases c with
 |true=>exact⟨i,e,g⟩
 |false=>exact hb l d k f i Q e g
theorem Dy (ha:PT X a tA):PT X (.UnaryOp .Not a pos) (F4 tA):=by intro b s d H Q I h;exact isTrue_not (ha b s d H (λc e=>Q (!c) e) I h)
noncomputable def ET (ta tb:TE):TE:=λa H Q=>ta a H λx b => ∃ c,x = .bl c/\if c=a6 then tb a b Q else Q (.bl bo) b
noncomputable def F3 (ta tb:TE):TE:=λa H Q=>ta a H λx b => ∃ c,x = .bl c/\if c=a6 then Q (.bl a6) b else tb a b Q
noncomputable def EL (ta:TE):TE:=λa H Q=>ta a H λx b => ∃ c,x = .bl c/\Q (.bl (!c)) b
theorem DG {op}{t:TE}(h:PE X a t):PE X (.BoolOp op [a] pos) t:=λb s c H Q I d=>BoolOp_one (h b s c H Q I d)
theorem DL (ha:PE X a ta)(hb:PE X (.BoolOp .And (b::rest) pos) tb):PE X (.BoolOp .And (a::b::rest) pos) (ET ta tb):=by
 intro d s g H Q I h;refine BoolOp_and (HU (ha d s g H _ I h) λv l j=>?_);obtain⟨x,i,f,k,e⟩:=j;obtain⟨c,rfl,e⟩:=e;cases k;refine pd ?_;cases c with
 |true=>exact hb d l g i Q f e
 |false=>exact⟨.bl bo,i,f,rfl,e⟩
theorem E7 (ha:PE X a ta)(hb:PE X (.BoolOp .Or (b::rest) pos) tb):PE X (.BoolOp .Or (a::b::rest) pos) (F3 ta tb):=by
 intro d s g H Q I h;refine BoolOp_or (HU (ha d s g H _ I h) λv l j=>?_);obtain⟨x,i,f,k,e⟩:=j;obtain⟨c,rfl,e⟩:=e;cases k;refine pd ?_;cases c with
 |false=>exact hb d l g i Q f e
 |true=>exact⟨.bl a6,i,f,rfl,e⟩
theorem DH (ha:PE X a ta):PE X (.UnaryOp .Not a pos) (EL ta):=by intro b s f H Q I h;refine UnaryOp_ (HU (ha b s f H _ I h) λv k e=>?_);obtain⟨x,g,i,j,d⟩:=e;obtain⟨c,rfl,d⟩:=d;cases j;exact not_of (pd ⟨.bl (!c),g,i,rfl,d⟩)
noncomputable def VG (t:TT)(ta tb:TE):TE:=λa H Q=>t a H λc b=>if c=a6 then ta a b Q else tb a b Q
theorem zX {c:gj}(hc:PT X c tA)(ha:PE X a ta)(hb:PE X b tb):PE X (.IfExp c a b pos) (VG tA ta tb):=by
 intro e s f H Q I h;refine wpAny_IfExp (HU (hc e s f H _ I h) λd j l=>?_);obtain⟨k,g,i⟩:=l;cases d with
 |true=>exact ha e j f k Q g i
 |false=>exact hb e j f k Q g i
end
def K9 (K:Ho)(H:Hp)(a:b0)(xs:ae V):Prop:=
 Rd H a (.lst xs) ∨
  ∃ (o:VJ) (its:h8 ay) (n:Nat),K.lookup a=aa o/\o.cls = .type "list"/\o.dict=av/\o.data = .seq its n/\its.size<=dk/\Vals xs its.toList
def KI (K:Ho)(H:Hp)(a:b0)(xs:ae V):Prop:=
 Rd H a (.tup xs) ∨
  ∃ (o:VJ) (its:h8 ay) (n:Nat),K.lookup a=aa o/\o.cls = .type "tuple"/\o.data = .seq its n/\its.size<=dk/\Vals xs its.toList
noncomputable def GK:ay->ax V
 | .none=>aa .Ic
 | .bool b=>aa (.bl b)
 | .int i _=>aa (.int i)
 | .str x _=>aa (.str x)
 | .bytes b _=>aa (.RG b)
 | .float b _=>aa (.P6 b)
 | .ref a=>aa (.ref a)
 | .type n=>aa (.ty n)
 |_=>av
theorem RelV.abs {x:V}{u:ay}(r:RelV x u):GK u=aa x:=by
 cases x with
 |Ic=>cases r;rfl
 |bl _=>cases r;rfl
 |int _=>obtain⟨t,rfl⟩:=r;rfl
 |str _=>obtain⟨t,rfl⟩:=r;rfl
 |RG _=>obtain⟨t,rfl⟩:=r;rfl
 |P6 _=>obtain⟨t,rfl⟩:=r;rfl
 |ref _=>cases r;rfl
 |ty _=>cases r;rfl
theorem RelV.inj {x y:V}{u:ay}(r:RelV x u)(q:RelV y u):x=y:=kx (r.abs.symm.trans q.abs)
theorem Vals.inj:∀ {xs a:ae V}{us:ae ay},Vals xs us->Vals a us->xs=a
 |_,_,_,.nil,.nil=>rfl
 |_,_,_,.cons r t,.cons b c=>by rw[r.inj b,Vals.inj t c]
section
variable {X:Cx}{pins:Hr}{σ:St}{H:Hp}{s:cc}{a:b0}{xs ys:ae V}
theorem Inv.list (I:#[10])(h:K9 X.K H a xs):∃ its:ae ay,Vals xs its/\PlainL s.heap a its.toArray/\xs.length<=dk:=by
 rcases h with h |⟨o,its,n,c,hc,hd,b,d,r⟩
 ·obtain⟨z,its,n,r,e⟩:=h.ok I.HZ;exact⟨its,r,⟨_,n,e,rfl,rfl,rfl⟩,z⟩
 refine⟨its.toList,r,⟨o,n,I.LB a o c,hc,hd,by simpa using b⟩,?_⟩;have e:=r.length;simp only[hH] at e;omega
theorem Inv.tuple (I:#[10])(h:KI X.K H a xs):∃ its:ae ay,Vals xs its/\Xb s.heap a its.toArray/\xs.length<=dk:=by
 rcases h with h |⟨o,its,n,c,hc,b,d,r⟩
 ·obtain⟨z,its,r,p⟩:=h.ok I.HZ;exact⟨its,r,p.tup,z⟩
 refine⟨its.toList,r,⟨o,I.LB a o c,hc,n,by simpa using b⟩,?_⟩;have e:=r.length;simp only[hH] at e;omega
theorem Inv.LW (I:#[10])(h:K9 X.K H a xs)(h':K9 X.K H a ys):xs=ys:=by
 obtain⟨its,r,⟨o,n,e,_,_,d⟩,_⟩:=I.list h;obtain⟨b,g,⟨j,k,f,_,_,c⟩,_⟩:=I.list h';rw[e] at f;cases f;rw[d] at c;injection c with i _
 have:its=b:=by simpa using E3 aal i
 subst this;exact r.inj g
theorem Inv.Lk (I:#[10])(h:KI X.K H a xs)(h':KI X.K H a ys):xs=ys:=by
 obtain⟨its,r,⟨o,e,_,n,d⟩,_⟩:=I.tuple h;obtain⟨b,g,⟨j,f,_,k,c⟩,_⟩:=I.tuple h';rw[e] at f;cases f;rw[d] at c;injection c with i _
 have:its=b:=by simpa using E3 aal i
 subst this;exact r.inj g
end
abbrev Cx.Lc (X:Cx)(E:Hq):Cx:={ X with xe:=E }
abbrev Cx.Of (X:Cx):Cx:=X.Lc λ_ _=>False
theorem Cx.Ok.Lc {X:Cx}(ok:X.Ok)(E:Hq):(X.Lc E).Ok:=
 ⟨ok.mod,ok.kind,ok.glob,ok.blt,ok.above,ok.inj,ok.has,ok.Qv,ok.hd,ok.frames,ok.RJ,ok.Uq,ok.bs,ok.Oc,ok.Nu,ok.Od,ok.Kw,ok.O9⟩
theorem Cx.Ok.JA {X:Cx}{E:Hq}(ok:(X.Lc E).Ok):X.Ok:=
 ⟨ok.mod,ok.kind,ok.glob,ok.blt,ok.above,ok.inj,ok.has,ok.Qv,ok.hd,ok.frames,ok.RJ,ok.Uq,ok.bs,ok.Oc,ok.Nu,ok.Od,ok.Kw,ok.O9⟩
section
variable {X:Cx}{pins:Hr}{σ:St}{H:Hp}{s:cc}{E:Hq}
theorem Inv.Lc (I:#[10])(E:Hq):Inv (X.Lc E) pins σ H s:=⟨I.ok.Lc E,I.os,I.bare,I.base,I.loc,I.cell,I.free,I.JT,I.pin,I.HZ,I.len⟩
theorem Inv.JA (I:Inv (X.Lc E) pins σ H s):#[10]:=⟨I.ok.JA,I.os,I.bare,I.base,I.loc,I.cell,I.free,I.JT,I.pin,I.HZ,I.len⟩
theorem SP.JA {D:Ends}{f:Flow}{s':cc}(h:SP (X.Lc E) pins D f s'):SP X pins D f s':=by
 cases f with
 |next=>obtain⟨a,b,I,q⟩:=h;exact⟨a,b,I.JA,q⟩
 |brk=>obtain⟨a,b,I,q⟩:=h;exact⟨a,b,I.JA,q⟩
 |cont=>obtain⟨a,b,I,q⟩:=h;exact⟨a,b,I.JA,q⟩
 |ret u=>obtain⟨v,a,b,I,r,q⟩:=h;exact⟨v,a,b,I.JA,r,q⟩
theorem Ml.Of {st:ae mq}{t:TS}(h:Ml X.Of st t):Ml X st t:=λpins s σ H D I a =>
 v3 (h pins s σ H D (I.Lc _) a) (λ_ _ q=>q.JA) λ_ _ z=>C3 z
end
section
variable {X:Cx}{st:mq}{rest:ae mq}{t u:TS}{e:gj}{te:TE}{pos:N5}
noncomputable def EM:TS:=λD a H=>D.nx a H
noncomputable def EJ (t u:TS):TS:=λD a H=>t { D with nx:=u D } a H
theorem Og:Ml X [] EM:=λ_ _ a H _ I h=>Wz ⟨a,H,I,h⟩
theorem zO (c:PS X st t)(i:Ml X rest u):Ml X (st::rest) (EJ t u):=by
 intro a s d H D I h;refine wpAny_execs_cons (HU (c a s d H { D with nx:=u D } I h) λf g q=>?_);cases f with
 |next =>
  obtain⟨b,e,j,q⟩:=q;exact i a g b e D j q
 |ret v=>exact q
 |brk=>exact q
 |cont=>exact q
theorem BA (c:PS X st t):Ml X [st] t:=by
 intro a s b H D I h;refine wpAny_execs_cons (HU (c a s b H D I h) λf d q=>?_);cases f with
 |next=>exact Wz q
 |ret v=>exact q
 |brk=>exact q
 |cont=>exact q
theorem Inv.quiet {a:Hr}{b:St}{H:Hp}{s:cc}(I:Inv X a b H s):interactive X.env=bo:=by simp[interactive,I.ok.kind]
noncomputable def EQ (te:TE):TS:=λD a H=>te a H λ_ b=>D.nx a b
theorem BC (c:PE X e te)(g:N_ e av pos.line X.env=u1 bo:=by rfl):PS X (.Expr e pos) (EQ te):=by intro a s b H D I h;exact wpAny_Expr_any (HU (c a s b H _ I h) λv k ⟨x,i,d,j,f⟩=>⟨b,i,d,f⟩) I.quiet g
noncomputable def F2 (te:TE):TS:=λD a H=>te a H D.rt
theorem DA (c:PE X e te):PS X (.Return (aa e) pos) (F2 te):=by intro a s b H D I h;exact wpAny_Return_some (HU (c a s b H _ I h) λv j ⟨x,g,i,f,d⟩=>⟨x,b,g,i,f,d⟩)
noncomputable def F6 (c:TT)(t u:TS):TS:=λD a H=>c a H λb d=>if b=a6 then t D a d else u D a d
theorem E4 {c:gj}{a b:ae mq}{l:TT}(hc:PT X c l)(ha:Ml X a t)(hb:Ml X b u):PS X (.If c a b pos) (F6 l t u):=by
 intro e s f H D I h;refine wpAny_If (HU (hc e s f H _ I h) λd j m=>?_);obtain⟨k,g,i⟩:=m;cases d with
 |true=>exact ha e j f k D g i
 |false=>exact hb e j f k D g i
end
abbrev TG:=V->St->Hp->(St->Hp->Prop)->Prop
abbrev Oh:=ae V->St->Hp->(St->Hp->Prop)->Prop
def PG (X:Cx)(target:gj)(t:TG):Prop:=
 ∀ (a:Hr) (s:cc) (c:St) (H:Hp) (v:V) (u:ay) (Q:St->Hp->Prop),Inv X a c H s->RelV v u->t v c H Q ->
  d6 #[9] X.A (YA target X.env u) (λ_ e => ∃ b d,Inv X a b d e/\Q b d) X.xe s
def ON (X:Cx)(ts:ae gj)(t:Oh):Prop:=
 ∀ (a:Hr) (s:cc) (c:St) (H:Hp) (e:ae V) (d:ae ay) (Q:St->Hp->Prop),Inv X a c H s->Vals e d->t e c H Q ->
  d6 #[9] X.A (assignInOrder ((OH ts X.env).map (·.2)) d) (λ_ g => ∃ b f,Inv X a b f g/\Q b f) X.xe s
section
variable {X:Cx}{pos:N5}
noncomputable def CZ (i:Nat):TG:=λv a H Q=>Q (a.set i (aa v)) H
theorem BI {i:Nat}{x:ej}(d:X.N.Nodup)(hi:X.N[i]?=aa x)(b:Loc X.env.scope x)(e:X.fn x=a6∨X.env.scope.names.lookup x=aa .local:=by first |exact .inl rfl |exact .inr rfl |assumption):PG X (.Name x pos) (CZ i):=by intro a s g H v u Q I r h;exact wpAny_assign_Name (tI I d hi b r (λf c=>⟨_,H,c,h⟩) e)
noncomputable def Gn:Oh:=λa b H Q=>a=[]/\Q b H
noncomputable def Fq (t:TG)(u:Oh):Oh:=λc b H Q => ∃ v r,c=v::r/\t v b H λa d=>u r a d Q
theorem Oi:ON X [] Gn:=by intro a s b H d c Q I r h;obtain⟨e,h⟩:=h;subst e;cases r;exact assignInOrder_nil ⟨b,H,I,h⟩
theorem zT {e:gj}{es:ae gj}{t:TG}{u:Oh}(d:PG X e t)(o:ON X es u)
  (k:(OH (e::es) X.env).map (·.2)=YA e X.env::(OH es X.env).map (·.2):=by rfl):ON X (e::es) (Fq t u):=by
 intro a s g H w q Q I r h;obtain⟨v,p,n,h⟩:=h;subst n;cases r with
 |cons r m =>
  rw[k];refine assignInOrder_cons (HU (d a s g H _ _ _ I r h) λ_ j c=>?_);obtain⟨b,l,f,i⟩:=c;exact o a j b l _ _ Q f m i
noncomputable def Gm (K:Ho)(n:Nat)(t:Oh):TG:=λv c H Q => ∃ a b,v = .ref a/\KI K H a b/\b.length=n/\t b c H Q
theorem DE {es:ae gj}{k:Nat}{t:Oh}{n:Nat}(hc:X.calm=a6)(h:ON X es t)
  (z:(OH es X.env).length=n:=by rfl) (p:(OH es X.env).findIdx? (·.1)=av:=by rfl):PG X (.Tuple es k pos) (Gm X.K n t):=by
 intro c s g H v u Q I r d;obtain⟨a,m,x,i,y,d⟩:=d;subst x;cases r;obtain⟨its,f,q,A⟩:=I.tuple i;refine assign_Tuple_tuple (I.ok.hd hc) q (by simp[z,← y,f.length]) p λj w=>?_;have l:Inv X c g H { s with heap:=j }:=I.kept (t':=s.toks) λb o e=>w b o (md (ek e)) e;exact h c _ g H m _ Q l (by simpa using f) d
noncomputable def F_ (b:TE)(g:TG):TS:=λD a H=>b a H λx c=>g x a c D.nx
theorem Dz {i:Nat}{x:ej}{e:gj}{c:TE}{a:N5}(q:X.N.Nodup)(hi:X.N[i]?=aa x)(o:Loc X.env.scope x)(j:PE X e c)(m:N_ e (aa (.Name x a)) pos.line X.env=u1 bo:=by rfl)(r:X.fn x=a6∨X.env.scope.names.lookup x=aa .local:=by first |exact .inl rfl |exact .inr rfl |assumption) :
  PS X (.Assign [.Name x a] e pos) (F_ c (CZ i)):=by
 intro b s k H D I h;refine wpAny_Assign_Name (HU (j b s k H _ I h) λv t d=>?_) m;obtain⟨y,n,g,f,l⟩:=d;exact tI g q hi o f (λu p=>⟨_,n,p,l⟩) r
end
structure It where
 go:Nat->Hp->Prop
 MU:Nat->Hp->V->Hp->Prop
 stop:Nat->Hp->Prop
def g9 (X:Cx)(a:Hr)(H:Hp)(b:b0):Prop:=
 H b=av/\b≠X.env.locals/\b∉X.fs/\(b∈X.ex∨X.s₀.heap.objs.size<=b)/\(∀ x c,#[16]=aa c->c≠b)/\∀ p∈X.pn++a,p.1≠b
theorem Inv.Ld {X:Cx}{a:Hr}{f:St}{H H':Hp}{s:cc}{b:b0}(I:Inv X a f H s)(hb:s.heap.objs.size<=b)(g:H' b=av):g9 X a H' b:=by
 refine⟨g,Xd (hv I.lt hb),I.Sk hb,.inr (fk I.sz hb),λx c e z=>?_,λp d z=>?_⟩
 ·obtain⟨v,q⟩:=I.cell x c e;exact hK (hv q.lt (by rw[z];exact hb)) (qb _)
 exact hK (hv (ek (I.pin p d).1) (by rw[z];exact hb)) (qb _)
structure Turn (P:ew) (w:hB) (K:Ho) (tg:gj) (J:It) (fp:ae b0) (it:b0) (tn:Nat->j0->Prop):Prop where
 mem:it∈fp
 obj:∀ i h,tn i h->∀ b∈fp,∃ o,h.get? b=aa o/\∀ v,o.data≠.cell v
 keep:∀ i h h',tn i h->(∀ b∈fp,∀ o,h.get? b=aa o->h'.get? b=aa o)->tn i h'
 item:∀ (X:Cx),X.prog=P->X.w=w->X.K=K->X.calm=a6->∀ (i:Nat) (pins:Hr) (s:cc) (σ:St) (H:Hp) (E:Hq),Inv X pins σ H s->(∀ b∈fp,g9 X pins H b)->tn i s.heap->J.go i H ->
  d6 (eJ P w) X.A (VP (.ref it)) (λr s1 => ∃ u,r=aa u /\
   d6 (eJ P w) X.A (Pg tg (.ref it) u) (λ_ s2 => ∃ x H',Inv X pins σ H' s2/\RelV x u/\J.MU i H x H'/\tn (i+1) s2.heap/\∀ b∈fp,H' b=av) E s1) E s
 done:∀ (X:Cx),X.prog=P->X.w=w->X.K=K->X.calm=a6->∀ (i:Nat) (pins:Hr) (s:cc) (σ:St) (H:Hp) (E:Hq),Inv X pins σ H s->(∀ b∈fp,g9 X pins H b)->tn i s.heap->J.stop i H ->
  d6 (eJ P w) X.A (VP (.ref it)) (λr s1=>r=av/\Inv X pins σ H s1) E s
 self:∀ (A:hG) (i:Nat) (s:cc) (Q:Hq) (E:Hq),tn i s.heap->Q (.ref it) s->d6 (eJ P w) A (ZK (.ref it)) Q E s
abbrev TI:=St->Hp->(It->Hp->Prop)->Prop
def Uu (X:Cx)(a:Hr)(g:St)(f:gj)(R:It->Hp->Prop)(h:ay)(d:cc):Prop:=
 ∃ (it:b0) (fp:ae b0) (e:Nat->j0->Prop) (J:It) (c:Hp),h = .ref it/\Inv X a g c d/\Turn X.prog X.w X.K f J fp it e/\e 0 d.heap/\(∀ b∈fp,g9 X a c b)/\R J c
def PI (X:Cx)(c iter:gj)(d:TI):Prop:=
 ∀ (a:Hr) (s:cc) (b:St) (H:Hp) (R:It->Hp->Prop),Inv X a b H s->d b H R ->
  d6 #[9] X.A (lX iter X.env) (λv e=>d6 #[9] X.A (ZK v) (Uu X a b c R) X.xe e) X.xe s
theorem xw {M:Model}{A:hG}{E:Hq}{s:cc}{b:gj}{it:b0}{u:ay}{o:VJ}{n:NA}{vs:h8 ay}{Q:Unit->cc->Prop}(c:s.heap.get? it=aa o)(hc:o.cls = .type n)(hd:o.data = .fields vs)
  (d:["enumerate","zip","dict_itemiterator","dict_reverseitemiterator","odict_iterator","itertools.zip_longest","itertools.pairwise"].contains n=bo) (a:Q () s):d6 M A (Pg b (.ref it) u) Q E s:=by
 unfold Pg
 cases b<;>first
  |exact a5 a
  |(cases u<;>first
    |exact a5 a
    |(refine ak (wpAny_load c ?_)
      rw[hc,hd];show d6 M A (if (["enumerate","zip","dict_itemiterator","dict_reverseitemiterator","odict_iterator","itertools.zip_longest","itertools.pairwise"].contains n&&vs[0]?==aa (Za _))=a6 then _ else _) Q E s;rw[ee (by intro h;rw[d,Bool.false_and] at h;cases h)]
      exact a5 a))
noncomputable def Su (K:Ho)(a:b0):It:=
 ⟨λi H => ∃ b x,K9 K H a b/\b[i]?=aa x,λi H x c=>c=H/\∀ b,K9 K H a b->b[i]?=aa x,λi H => ∃ b,K9 K H a b/\b.length<=i⟩
noncomputable def Sv (K:Ho)(a:b0):It:=
 ⟨λi H => ∃ b x,KI K H a b/\b[i]?=aa x,λi H x c=>c=H/\∀ b,KI K H a b->b[i]?=aa x,λi H => ∃ b,KI K H a b/\b.length<=i⟩
noncomputable def RP (lo:Int)(n:Nat):It:=⟨λi _=>i<n,λi H x a=>a=H/\x = .int (lo+i),λi _=>n<=i⟩
theorem x_ {P:ew}{w:hB}{K:Ho}{Q:gj}(a it:b0):Turn P w K Q (Su K a) [it] it (λi h=>h.IsListIter it a i) where
 mem:=by simp
 obj:=λi h st b hb=>by
  have e:b=it:=by simpa using hb
  subst e;obtain⟨o,e,c,d⟩:=st;exact⟨o,e,λv z=>by rw[d] at z;cases z⟩
 keep:=λi h j st k=>st.at λo e=>k it #[3] o e
 item:=by
  intro X F C q hc i f s G H E I l st D;subst F C q;obtain⟨N,x,g,B⟩:=D;obtain⟨its,m,p,O⟩:=I.list g;obtain⟨u,T,R⟩:=m.get B;obtain⟨r,n,U,t,A,y⟩:=l it #[3];refine wpAny_pyNext_list_item st p.isList (x:=u) (by simpa using T) λj J sb=>?_;have M:Inv X f G H { s with heap:=j }:=I.turned (t':=s.toks) (λb o hb e=>(sb.2 b hb).trans e) r n t A y;obtain⟨o,e,c,d⟩:=id J;exact⟨u,rfl,xw (s:={ s with heap:=j }) e c d #[1] ⟨x,H,M,R,⟨rfl,λV S=>by rw[I.LW S g];exact B⟩,J,λb hb=>(l b hb).1⟩⟩
 done:=by
  intro X F C q hc i f s G H E I l st D;subst F C q;obtain⟨N,g,B⟩:=D;obtain⟨its,m,p,O⟩:=I.list g;obtain⟨r,n,U,t,A,y⟩:=l it #[3];have W:=m.length;exact wpAny_pyNext_list_end (I.ok.hd hc) st p.isList (by simp;omega) λj L=>⟨rfl,I.turned (t':=s.toks) (λb o hb e=>L b o hb e) r n t A y⟩
 self:=λ_ _ _ _ _ st h=>wpAny_pyIter_listiter st h
theorem vp {P:ew}{w:hB}{K:Ho}{Q:gj}(a it:b0):Turn P w K Q (Sv K a) [it] it (λi h=>h.IsTupleIter it a i) where
 mem:=by simp
 obj:=λi h st b hb=>by
  have e:b=it:=by simpa using hb
  subst e;obtain⟨o,e,c,d⟩:=st;exact⟨o,e,λv z=>by rw[d] at z;cases z⟩
 keep:=λi h j st k=>st.at λo e=>k it #[3] o e
 item:=by
  intro X F C q hc i f s G H E I l st D;subst F C q;obtain⟨N,x,g,B⟩:=D;obtain⟨its,m,p,O⟩:=I.tuple g;obtain⟨u,T,R⟩:=m.get B;obtain⟨r,n,U,t,A,y⟩:=l it #[3];refine wpAny_pyNext_tuple_item st (show s.heap.IsTuple a its.toArray from p) (x:=u) (by simpa using T) λj J sb=>?_;have M:Inv X f G H { s with heap:=j }:=I.turned (t':=s.toks) (λb o hb e=>(sb.2 b hb).trans e) r n t A y;obtain⟨o,e,c,d⟩:=id J;exact⟨u,rfl,xw (s:={ s with heap:=j }) e c d #[1] ⟨x,H,M,R,⟨rfl,λV S=>by rw[I.Lk S g];exact B⟩,J,λb hb=>(l b hb).1⟩⟩
 done:=by
  intro X F C q hc i f s G H E I l st D;subst F C q;obtain⟨N,g,B⟩:=D;obtain⟨its,m,p,O⟩:=I.tuple g;obtain⟨r,n,U,t,A,y⟩:=l it #[3];have W:=m.length;exact wpAny_pyNext_tuple_end (I.ok.hd hc) st (show s.heap.IsTuple a its.toArray from p) (by simp;omega) λj L=>⟨rfl,I.turned (t':=s.toks) (λb o hb e=>L b o hb e) r n t A y⟩
 self:=λ_ _ _ _ _ st h=>wpAny_pyIter_tupleiter st h
theorem vq {P:ew}{w:hB}{K:Ho}{F:gj}(it:b0)(lo:Int)(n:Nat):Turn P w K F (RP lo n) [it] it (λi h=>IsRangeIter h it (lo+(i:Nat)*1) ((n:Int)-(i:Nat)) 1) where
 mem:=by simp
 obj:=λi h st b hb=>by
  have e:b=it:=by simpa using hb
  subst e
  exact⟨_,st,λv z=>by
   have G:Data.fields _=Data.cell v:=z
   cases G⟩
 keep:=λi h c st k=>k it #[3] _ st
 item:=by
  intro X u q g hc i a s x H E I d st r;subst u q g;obtain⟨j,f,J,l,p,m⟩:=d it #[3];have W:=Walks.range (prog:=X.prog) (w:=X.w) (I.ok.hd hc) it lo 1 n;refine W.item i s _ _ r st λv c tk A y B=>?_;obtain⟨t,rfl⟩:=A;have D:Inv X a x H { s with heap:=c,toks:=tk }:=I.turned (λb o hb e=>B b o (by simpa using hb) e) j f l p m;refine⟨_,rfl,xw (s:={ s with heap:=c,toks:=tk }) (n:="range_iterator") y rfl rfl #[1] ⟨.int (lo+i),H,D,⟨t,?_⟩,⟨rfl,rfl⟩,y,λb hb=>(d b hb).1⟩⟩;rw[Int.mul_one]
 done:=by
  intro X u q g hc i a s x H E I d st r;subst u q g;obtain⟨j,f,J,l,p,m⟩:=d it #[3];exact wpAny_pyNext_range_end (I.ok.hd hc) st (by have:n<=i:=r;omega) λc C=>⟨rfl,I.turned (t':=s.toks) (λb o hb e=>C b o hb e) j f l p m⟩
 self:=λ_ _ _ _ _ st h=>wpAny_pyIter_rangeiter st h
section
variable {X:Cx}{tg:gj}
noncomputable def Fm (K:Ho)(tl:TE):TI:=λd H R=>tl d H λx b => ∃ a,x = .ref a/\(∃ c,K9 K b a c)/\R (Su K a) b
noncomputable def Gk (K:Ho)(tl:TE):TI:=λd H R=>tl d H λx b => ∃ a,x = .ref a/\(∃ c,KI K b a c)/\R (Sv K a) b
theorem BH {l:gj}{tl:TE}(r:PE X l tl):PI X tg l (Fm X.K tl):=by
 intro c s k H R I h;refine HU (r c s k H _ I h) λv f g=>?_;obtain⟨x,n,d,j,m⟩:=g;obtain⟨a,e,⟨u,i⟩,q⟩:=m;subst e;cases j;obtain⟨its,t,p,w⟩:=d.list i;refine wpAny_pyIter_list p.isList ?_;refine⟨f.heap.objs.size,[f.heap.objs.size],_,_,n,rfl,d.kept (t':=f.toks) λb o e=>cv _ e,x_ a _,⟨_,en _ rfl,rfl,rfl⟩,λb hb=>?_,q⟩;have e:b=f.heap.objs.size:=by simpa using hb
 subst e;exact d.Ld (eG _) (d.HZ.fresh (eG _))
theorem DD {l:gj}{tl:TE}(r:PE X l tl):PI X tg l (Gk X.K tl):=by
 intro d s k H R I h;refine HU (r d s k H _ I h) λv c g=>?_;obtain⟨x,n,f,j,m⟩:=g;obtain⟨a,e,⟨u,i⟩,q⟩:=m;subst e;cases j;obtain⟨its,t,p,w⟩:=f.tuple i;refine Pw (show c.heap.IsTuple a its.toArray from p) ?_;refine⟨c.heap.objs.size,[c.heap.objs.size],_,_,n,rfl,f.kept (t':=c.toks) λb o e=>cv _ e,vp a _,⟨_,en _ rfl,rfl,rfl⟩,λb hb=>?_,q⟩;have e:b=c.heap.objs.size:=by simpa using hb
 subst e;exact f.Ld (eG _) (f.HZ.fresh (eG _))
theorem zM {a:Hr}{d:St}{H:Hp}{s:cc}{R:It->Hp->Prop}{E:Hq}{lo hi:Int}{t u v:Tok}{tk:Nat}(I:Inv X a d H s)(g : -(2 ^ 62)<=lo)(k:lo<2 ^ 62)(h : -(2 ^ 62)<=hi)(f:hi<2 ^ 62)
  (q:R (RP lo (hi-lo).toNat) H):d6 #[9] X.A (ZK (#[11])) (Uu X a d tg R) E { s with heap:=s.heap.push { cls:=.type "range",data:=.fields #[.int lo t,.int hi u,.int 1 v] },toks:=tk }:=by
 refine wpAny_pyIter_range (IsRange.new ..) (small_one g k h f) ?_;have c:Inv X a d H { s with heap:=s.heap.push { cls:=.type "range",data:=.fields #[.int lo t,.int hi u,.int 1 v] },toks:=tk }:=I.kept λb o e=>cv _ e
 refine⟨(s.heap.push { cls:=.type "range",data:=.fields #[.int lo t,.int hi u,.int 1 v] }).objs.size,[(s.heap.push { cls:=.type "range",data:=.fields #[.int lo t,.int hi u,.int 1 v] }).objs.size],_,_,H,rfl,
  c.kept (t':=tk) λb o e=>cv _ e,vq _ lo (hi-lo).toNat,?_,λb hb=>?_,q⟩
 ·have j:lo+((0:Nat):Int)*1=lo:=by simp
  have i:(((hi-lo).toNat:Nat):Int)-((0:Nat):Int)=Builtin.Range.rangeSize lo hi 1:=by rw[rangeSize_one];split<;>omega
  show IsRangeIter _ _ (lo+((0:Nat):Int)*1) ((((hi-lo).toNat:Nat):Int)-((0:Nat):Int)) 1;rw[j,i];exact en _ rfl
 have e:b=(s.heap.push { cls:=.type "range",data:=.fields #[.int lo t,.int hi u,.int 1 v] }).objs.size:=by simpa using hb
 subst e;exact c.Ld (eG _) (c.HZ.fresh (eG _))
noncomputable def Fk (c:TA):TI:=λa H R=>c a H λb d => ∃ j:Int,b=[.int j]/\-(2 ^ 62)<=j/\j<2 ^ 62/\R (RP 0 j.toNat) d
theorem yu {a:gj}{d:TA}{p pos:N5}(o:Gl X "range")(g:X.mg "range"=av)(ha:PA X [a] d)(m:dm [a] X.env=[(bo,lX a X.env)]:=by rfl):PI X tg (.Call (.Name "range" p) [a] [] pos) (Fk d):=by
 intro b s l H R I h;refine Call_ (lH I o g boot_range (RA (HU (ha pos b s l H _ I h) λv w f=>?_) m rfl));obtain⟨y,x,k,i,c⟩:=f;obtain⟨j,e,c,u,q⟩:=c;subst e;cases i with
 |cons r n =>
  cases n;obtain⟨t,rfl⟩:=r;exact call_range_1 (zM k #[0] #[0] c u (by simpa using q))
noncomputable def F7 (j:TI)(g:TG)(h:TS):TS:=λD a H=>j a H λJ k => ∃ W:Nat->Nat->St->Hp->Prop,(∃ m,W 0 m a k)/\∀ i m a H,W i m a H ->
 (J.stop i H/\D.nx a H)∨(J.go i H/\∃ N:St->Hp->Prop,(∀ b c,N b c->∃ e,e<m/\W (i+1) e b c)/\∀ x c,J.MU i H x c->g x a c λd f=>h { D with nx:=N,ct:=N,bk:=D.nx } d f)
noncomputable def lB (fp:ae b0)(h:j0):Hr:=fp.filterMap λb=>(h.get? b).map λo=>(b,o)
theorem ie {fp:ae b0}{h:j0}{b:b0}{o:VJ}(hb:b∈fp)(e:h.get? b=aa o):(b,o)∈lB fp h:=Uz.mpr ⟨b,hb,by rw[e];rfl⟩
theorem yA {fp:ae b0}{h:j0}{p:b0×VJ}(a:p∈lB fp h):p.1∈fp/\h.get? p.1=aa p.2:=by
 obtain⟨b,hb,e⟩:=Uz.mp a;cases q:h.get? b with
 |none=>rw[q] at e;cases e
 |some o =>
  rw[q] at e;have c:(b,o)=p:=kx e;subst c;exact⟨hb,q⟩
theorem Inv.pinned {a:Hr}{c:St}{H:Hp}{s:cc}{fp:ae b0}(I:Inv X a c H s)(k:∀ b∈fp,g9 X a H b)(j:∀ b∈fp,∃ o,#[15]=aa o/\∀ v,o.data≠.cell v):Inv X (a++lB fp s.heap) c H s:=
 I.JZ λp g=>(il.mp g).elim (λz=>I.pin p (m3 _ z)) λz=>by
  obtain⟨hb,e⟩:=yA z;obtain⟨i,h,l,_⟩:=k p.1 hb;obtain⟨o,f,d⟩:=j p.1 hb;rw[e] at f;cases f;exact⟨e,i,h,l,d⟩
theorem Inv.KJ {a pl:Hr}{b:St}{H:Hp}{s:cc}(I:Inv X (a++pl) b H s):Inv X a b H s:=I.JZ λp c=>I.pin p (m3 _ (n6 _ c))
theorem DB {iter:gj}{body:ae mq}{Z:TI}{g:TG}{P:TS}{pos:N5}(z:PassesOwn #[9] X.A X.env X.xe)(hc:X.calm=a6)(hi:PI X tg iter Z)(hg:PG X tg g)(hb:Ml X body P)
  (hs:∀ x,PL iter X.env x=u1 x:=by intro _;rfl):PS X (.For tg iter body [] pos) (F7 Z g P):=by
 intro c s σ H D I h;refine wpAny_For (HU (hi c s σ H _ I h) λv s1 h1=>HU h1 λRM s2 h2=>?_) hs;obtain⟨it,fp,O,J,H2,e,I2,T,M,f2,W,⟨m0,w0⟩,C⟩:=h2;subst e;have K:∀ {q:Hp},(∀ b∈fp,q b=av)->∀ b∈fp,g9 X c q b:=λhn b hb=>⟨hn b hb,(f2 b hb).2⟩;refine codeAny_forLoop_any (λn Y => ∃ i l q,Inv X c l q Y/\O i Y.heap/\(∀ b∈fp,q b=av)/\W i n l q) ?_ m0 ⟨0,σ,H2,I2,M,λb hb=>(f2 b hb).1,w0⟩;rintro n U ⟨i,p,E,I3,S,Q,w3⟩;rcases C i n p E w3 with ⟨stop,qn⟩ |⟨go,N,hN,step⟩
 ·refine Pj z (HU (T.done X rfl rfl rfl hc i c U p E X.xe I3 (K Q) S stop) λr s4 y=>?_);obtain⟨hr,I4⟩:=y;subst hr;exact Wz ⟨p,E,I4,qn⟩
 refine Pj z (HU (T.item X rfl rfl rfl hc i c U p E X.xe I3 (K Q) S go) λr s4 y=>?_);obtain⟨u,hr,h4⟩:=y;subst hr;refine Pj z (HU h4 λ_ R y=>?_);obtain⟨x,V,I5,r5,y5,G,Sz⟩:=y;have SD:=I5.pinned (K Sz) (T.obj _ _ G);refine Pj z (HU (hg _ R p V x u _ SD r5 (step x V y5)) λ_ s6 y=>?_);obtain⟨F,H6,I6,q6⟩:=y;refine Pj z (HU (hb _ s6 F H6 _ I6 q6) λf L t=>?_);have again:∀ {a:St}{k:Hp},Inv X (c++lB fp R.heap) a k L->N a k->∃ m,m<n/\∃ i l q,Inv X c l q L/\O i L.heap/\(∀ b∈fp,q b=av)/\W i m l q:=λ{a k} j B=>by obtain⟨m',hm,w7⟩:=hN a k B;refine⟨m',hm,i+1,a,k,j.KJ,T.keep _ _ _ G λb hb o e=>(j.pin (b,o) (m3 _ (m3 _ (ie hb e)))).1,λb hb=>?_,w7⟩;obtain⟨o,e,d⟩:=T.obj _ _ G b hb;exact(j.pin (b,o) (m3 _ (m3 _ (ie hb e)))).2.1
 cases f with
 |next=>obtain⟨a,k,j,B⟩:=t;exact again j B
 |cont=>obtain⟨a,k,j,B⟩:=t;exact again j B
 |brk=>obtain⟨a,k,j,t⟩:=t;exact⟨a,k,j.KJ,t⟩
 |ret v=>obtain⟨x7,a,k,j,r7,t⟩:=t;exact⟨x7,a,k,j.KJ,r7,t⟩
end
abbrev R2:=V->V->Hp->VK->Prop
def K_ (X:Cx)(f:ay->ay->ZI ay)(r:R2):Prop:=
 ∀ (a:Hr) (s:cc) (b:St) (H:Hp) (x y:V) (v u:ay) (Q:VK),Inv X a b H s->RelV x v->RelV y u->r x y H Q ->
  d6 #[9] X.A (f v u) (EP X a b Q) X.xe s
def RS (X:Cx)(f:ay->ZI ay)(r:V->Hp->VK->Prop):Prop:=
 ∀ (a:Hr) (s:cc) (b:St) (H:Hp) (x:V) (v:ay) (Q:VK),Inv X a b H s->RelV x v->r x H Q ->
  d6 #[9] X.A (f v) (EP X a b Q) X.xe s
def dS (X:Cx)(f:ay)(r:ae V->Hp->VK->Prop):Prop:=
 ∀ (a:Hr) (s:cc) (b:St) (H:Hp) (d:ae V) (c:ae ay) (Q:VK),Inv X a b H s->Vals d c->r d H Q ->
  d6 #[9] X.A (call f c) (EP X a b Q) X.xe s
noncomputable def QA (r:R2)(e d:TE):TE:=λa H Q=>e a H λx c=>d a c λy b=>r x y b Q
noncomputable def VH (r:V->Hp->VK->Prop)(c:TE):TE:=λa H Q=>c a H λx b=>r x b Q
noncomputable def rI (C:Int->Int->Prop)(g:Int->Int->V):R2:=λx y H Q => ∃ i j,x = .int i/\y = .int j/\C i j/\Q (g i j) H
noncomputable def Pe (g:Int->Int->V):R2:=λx y H Q => ∃ i j,x = .int i/\y = .int j/\Q (g i j) H
def rU (g:Int->V):V->Hp->VK->Prop:=λx H Q => ∃ i,x = .int i/\Q (g i) H
section
variable {X:Cx}{a b c:gj}{ta tb tc:TE}{pos:N5}
theorem Er (ha:PE X a ta)(hb:PE X b tb){c:Hr}{s:cc}{e:St}{H:Hp}{R:V->V->Hp->Prop}(I:Inv X c e H s)
  (h:ta e H λx l=>tb e l λy d=>R x y d) {Q:Hq}{f:ay->ay->ZI ay}
  (r:∀ v u j x y d,Inv X c e d j->RelV x v->RelV y u->R x y d->d6 #[9] X.A (f v u) Q X.xe j) :
  d6 #[9] X.A (lX a X.env) (λv g=>d6 #[9] X.A (lX b X.env) (λu i=>d6 #[9] X.A (f v u) Q X.xe i) X.xe g) X.xe s:=by
 refine HU (ha c s e H _ I h) λv p k=>?_;obtain⟨x,l,n,m,o⟩:=k;refine HU (hb c p e l _ n o) λu j k=>?_;obtain⟨y,d,q,t,z⟩:=k;exact r v u j x y d q m t z
theorem E8 {d:Operator}{r:R2}(g:K_ X (H4 d) r)(ha:PE X a ta)(hb:PE X b tb):PE X (.BinOp a d b pos) (QA r ta tb):=by intro c s f H Q I h;exact wpAny_BinOp (Er ha hb I h λv u k x y e i l j q=>g c k f e x y v u Q i l j q)
theorem E6 {d:UnaryOp}{r:V->Hp->VK->Prop}(i:RS X (unaryOp d) r)(ha:PE X a ta):PE X (.UnaryOp d a pos) (VH r ta):=by intro b s c H Q I h;exact UnaryOp_ (HU (ha b s c H _ I h) λv j ⟨x,k,e,g,f⟩=>i b j c k x v Q e g f)
theorem SH {f:ay->ay->ZI ay}{C:Int->Int->Prop}{g:Int->Int->Int}
  (rule:∀ (i j:Int) (t u:Tok) (s:cc) (Q:Hq) (E:Hq),C i j->Q (.int (g i j) s.toks) { s with toks:=s.toks+1 }->d6 #[9] X.A (f (.int i t) (.int j u)) Q E s) :
  K_ X f (rI C λi j => .int (g i j)):=by
 intro a s e H x y v u Q I d c h;obtain⟨i,j,rfl,rfl,hc,q⟩:=h;obtain⟨t,rfl⟩:=d;obtain⟨b,rfl⟩:=c;exact rule i j t b s _ _ hc ⟨.int (g i j),H,I.tok _,⟨_,rfl⟩,q⟩
theorem Fb {f:ay->ay->ZI ay}{g:Int->Int->Int}
  (rule:∀ (i j:Int) (t u:Tok) (s:cc) (Q:Hq) (E:Hq),Q (.int (g i j) s.toks) { s with toks:=s.toks+1 }->d6 #[9] X.A (f (.int i t) (.int j u)) Q E s) :
  K_ X f (Pe λi j => .int (g i j)):=by
 intro a s e H x y v u Q I d c h;obtain⟨i,j,rfl,rfl,q⟩:=h;obtain⟨t,rfl⟩:=d;obtain⟨b,rfl⟩:=c;exact rule i j t b s _ _ ⟨.int (g i j),H,I.tok _,⟨_,rfl⟩,q⟩
theorem DQ {f:ay->ay->ZI ay}{g:Int->Int->e8}
  (rule:∀ (i j:Int) (t u:Tok) (s:cc) (Q:Hq) (E:Hq),Q (.bool (g i j)) s->d6 #[9] X.A (f (.int i t) (.int j u)) Q E s) :
  K_ X f (Pe λi j => .bl (g i j)):=by
 intro a s e H x y v u Q I d c h;obtain⟨i,j,rfl,rfl,q⟩:=h;obtain⟨t,rfl⟩:=d;obtain⟨b,rfl⟩:=c;exact rule i j t b s _ _ ⟨.bl (g i j),H,I,rfl,q⟩
def GP (i j:Int):Prop:=0<j/\j<1073741824
def Ol (i j:Int):Prop:=(-(2 ^ 64)<i/\i<2 ^ 64)∨(-(2 ^ 64)<j/\j<2 ^ 64)
theorem Ol.ok {i j:Int}(h:Ol i j):IntMulOk i j:=by
 rcases h with ⟨b,a⟩ |⟨b,a⟩
 ·exact .of_left (intBits_le_64 b a)
 exact .of_right (intBits_le_64 b a)
theorem DP:K_ X (H4 .Add) (Pe λi j => .int (i+j)):=Fb λ_ _ _ _ _ _ _ q=>add_int q
theorem DM:K_ X (H4 .Sub) (Pe λi j => .int (i-j)):=Fb λ_ _ _ _ _ _ _ q=>sub_int q
theorem DN:K_ X (H4 .Mult) (rI Ol λi j => .int (i*j)):=SH λ_ _ _ _ _ _ _ hc q=>mul_int q hc.ok
theorem BS:K_ X (H4 .FloorDiv) (rI GP λi j => .int (i / j)):=SH λi j _ _ _ _ _ hc q=>by have b:(0:Int)<j:=hc.1;have a:j<1073741824:=hc.2;exact floordiv_int #[0] (by rw[Int.fdiv_eq_ediv_of_nonneg i #[0]];exact q) (.inl (PyProof.noPylong_small #[0]))
theorem DO:K_ X (H4 .Mod) (rI (λ_ j => 0<j) λi j => .int (i % j)):=SH λi j _ _ _ _ _ hc q=>by have a:(0:Int)<j:=hc;exact mod_int' #[0] (by rw[Int.fmod_eq_emod_of_nonneg i #[0]];exact q)
theorem VI {f:ay->ZI ay}{g:Int->Int}
  (rule:∀ (i:Int) (t:Tok) (s:cc) (Q:Hq) (E:Hq),Q (.int (g i) s.toks) { s with toks:=s.toks+1 }->d6 #[9] X.A (f (.int i t)) Q E s) :
  RS X f (rU λi => .int (g i)):=by
 intro a s c H x v Q I b h;obtain⟨i,rfl,q⟩:=h;obtain⟨t,rfl⟩:=b;exact rule i t s _ _ ⟨.int (g i),H,I.tok _,⟨_,rfl⟩,q⟩
theorem C8:RS X (unaryOp .USub) (rU λi => .int (-i)):=VI λ_ _ _ _ _ q=>neg_int q
end
section
variable {X:Cx}{a b c:gj}{ta tb tc:TE}{pos:N5}
theorem Ea {a:Hr}{c:St}{H:Hp}{s:cc}{Q:VK}{k b:e8}(I:Inv X a c H s)(q:Q (.bl k) H)(e:k=b):EP X a c Q (.bool b) s:=by subst e;exact⟨.bl k,H,I,rfl,q⟩
theorem E9:K_ X (lg .Lt) (Pe λi j => .bl (dr (i<j))):=DQ λ_ _ _ _ _ _ _ q=>lt_int q
theorem E_:K_ X (lg .LtE) (Pe λi j => .bl (dr (i<=j))):=DQ λ_ _ _ _ _ _ _ q=>le_int q
theorem Fa:K_ X (lg .Gt) (Pe λi j => .bl (dr (j<i))):=DQ λ_ _ _ _ _ _ _ q=>gt_int q
theorem yz:K_ X (lg .Lt) (λx y H Q => ∃ i j,x = .str i/\y = .str j/\Q (.bl (dr (i.cps.toList<j.cps.toList))) H):=by intro a s d H x y v u Q I c b h;obtain⟨i,j,rfl,rfl,q⟩:=h;obtain⟨t,rfl⟩:=c;obtain⟨e,rfl⟩:=b;exact lt_str (Ea I q rfl)
theorem z7 (b:gj){a:Vm}(h:a≠.In:=by decide)(c:a≠.NotIn:=by decide):mc a b=bo:=by
 have e:(a==CmpOp.In)=bo:=by cases a<;>first |rfl |exact hK rfl h
 have d:(a==CmpOp.NotIn)=bo:=by cases a<;>first |rfl |exact hK rfl c
 cases b<;>simp[mc,e,d]
theorem BP {d:Vm}{r:R2}(i:K_ X (lg d) r)(ha:PE X a ta)(hb:PE X b tb)(f:mc d b=bo):PE X (.Compare a [d] [b] pos) (QA r ta tb):=by intro c s g H Q I h;exact wpAny_Compare1 (Er ha hb I h λv u l x y e j m k q=>i c l g e x y v u Q j m k q) f
noncomputable def JB (t:TE):TT:=λa H Q=>t a H λx b => ∃ k,x = .bl k/\Q k b
theorem Bz {f:Vm}{r:R2}(o:K_ X (lg f) r)(ha:PE X a ta)(hb:PE X b tb)(j:mc f b=bo):PT X (.Compare a [f] [b] pos) (JB (QA r ta tb)):=by
 intro d s g H Q I h
 refine WZ (HU (ha d s g H _ I h) λv p ⟨x,q,m,l,n⟩=>HU (hb d p g q _ m n) λu E ⟨y,i,B,D,F⟩ =>
  HU (o d E g i x y v u _ B l D F) λc G ⟨z,C,w,A,k,e,t⟩=>?_) j
 subst e;cases A;exact pd ⟨C,w,t⟩
noncomputable def vB (r c:R2)(ta tb tc:TE):TE:=λa H Q=>ta a H λx f=>tb a f λy d=>r x y d λz b => ∃ k,z = .bl k /\
 (if k=a6 then tc a b λg e=>c y g e Q else Q (.bl bo) b)
theorem zY {i j:Vm}{r m:R2}(E:K_ X (lg i) r)(P:K_ X (lg j) m)(ha:PE X a ta)(hb:PE X b tb)(hc:PE X c tc)
  (w:Zb [i,j] [b,c]=bo:=by with_unfolding_all rfl):PE X (.Compare a [i,j] [b,c] pos) (vB r m ta tb tc):=by
 intro f s g H Q I h
 refine Compare_chain (HU (ha f s g H _ I h) λv F ⟨x,G,B,A,C⟩=>chain_link (HU (hb f F g G _ B C) λu T ⟨y,t,M,p,U⟩ =>
  HU (E f T g t x y v u _ M A p U) λd q ⟨z,o,n,L,k,e,l⟩=>?_)) w
 subst e;cases L;refine pd ?_;cases k with
 |false=>exact ite_ff ⟨.bl bo,o,n,rfl,l⟩
 |true=>exact ite_tt (chain_last (HU (hc f q g o _ n l) λD N ⟨K,R,S,O,J⟩=>P f N g R y K u D Q S p O J))
theorem zN {i j:Vm}{r m:R2}(G:K_ X (lg i) r)(Y:K_ X (lg j) m)(ha:PE X a ta)(hb:PE X b tb)(hc:PE X c tc)
  (B:Zb [i,j] [b,c]=bo:=by with_unfolding_all rfl):PT X (.Compare a [i,j] [b,c] pos) (JB (vB r m ta tb tc)):=by
 intro f s g H Q I h
 refine isTrue_chain (HU (ha f s g H _ I h) λv J ⟨x,K,D,C,E⟩=>test_link (HU (hb f J g K _ D E) λu s2 ⟨y,w,T,p,q2⟩ =>
  HU (G f s2 g w x y v u _ T C p q2) λd q ⟨z,o,n,R,k,e,l⟩=>?_)) B
 subst e;cases R;refine pd ?_;cases k with
 |false =>
  obtain⟨k',P,q'⟩:=l;cases P;exact ite_ff ⟨o,n,q'⟩
 |true =>
  refine ite_tt (test_last (HU (hc f q g o _ n l) λF V ⟨O,Z,I4,W,N⟩=>HU (Y f V g Z y O u F _ I4 p W N) λd' s5 A=>?_));obtain⟨z2,t,M,L,k2,U,S⟩:=A;subst U;cases L;exact pd ⟨t,M,S⟩
theorem oI:(dk:Nat)<2 ^ 63:=by rw[Xe];decide
theorem v0:K_ X (H4 .Add) (λx y H Q => ∃ i j,x = .str i/\y = .str j/\i.length+j.length<=dk/\Q (.str (i++j)) H):=by intro a s f H x y v u Q I e d h;obtain⟨i,j,rfl,rfl,b,q⟩:=h;obtain⟨t,rfl⟩:=e;obtain⟨c,rfl⟩:=d;exact add_str (λc tk=>⟨.str (i++j),H,I.tok _,⟨_,rfl⟩,q⟩) b
theorem vals1 {x:V}{us:ae ay}(r:Vals [x] us):∃ u,us=[u]/\RelV x u:=by
 cases r with
 |cons b a=>cases a;exact⟨_,rfl,b⟩
theorem vals2 {x y:V}{us:ae ay}(r:Vals [x,y] us):∃ u a,us=[u,a]/\RelV x u/\RelV y a:=by
 cases r with
 |cons e c =>
  cases c with
  |cons b d=>cases d;exact⟨_,_,rfl,e,b⟩
theorem rc:dS X (.type "int") (λxs H Q=>(∃ i,xs=[.int i]/\Q (.int i) H)∨∃ k,xs=[.bl k]/\Q (.int (if k then 1 else 0)) H):=by
 intro a s c H xs d Q I r h;rcases h with ⟨i,rfl,q⟩ |⟨k,rfl,q⟩
 ·obtain⟨u,rfl,t,rfl⟩:=vals1 r;exact call_int_int ⟨.int i,H,I,⟨_,rfl⟩,q⟩
 obtain⟨u,rfl,b⟩:=vals1 r;cases b;exact call_int_bool ⟨.int (if k then 1 else 0),H,I.tok _,⟨_,rfl⟩,q⟩
theorem sL:dS X (.type "str") (λxs H Q => ∃ i,xs=[.int i]/\i.natAbs.log2<1920/\Q (.str (toString i)) H):=by intro a s c H xs d Q I r h;obtain⟨i,rfl,b,q⟩:=h;obtain⟨u,rfl,t,rfl⟩:=vals1 r;exact PySem.P.str_of_int b ⟨.str _,H,I.tok _,⟨_,rfl⟩,q⟩
end
structure Mn (h:j0) (x dx C:b0) (mA:Hs):Prop where
 obj:h.get? x=aa (z0 C dx)
 ns:h.Ns1 dx mA
 ne:dx≠x
theorem yJ {h:j0}{d:b0}{b:Hs}(n:h.Ns1 d b):∃ c,h.get? d=aa c/\∀ name,R8 name c=aa (b name):=by
 obtain⟨o,es,ep,j,hd,k,_,g⟩:=n;refine⟨o,j,λname=>?_⟩;have e:=g name;unfold nsFind findBy at e;rw[← Array.find?_toList] at e;unfold R8;rw[hd];dsimp only;split
 ·rename_i y q;rw[q] at e;exact E3 aa e
 rename_i q;rw[q] at e;have a:es.toList.any (·.refKey)=bo:=by rw[T1];intro y l;obtain⟨z,t,f⟩:=k y (Xf.mp l);simp[DictEntry.refKey,f]
 have i:¬ es.toList.any (·.refKey)=a6:=by rw[a];exact Pu
 rw[ee i];exact E3 aa e
theorem Mn.look {h:j0}{x b C:b0}{c:Hs}(I:Mn h x b C c):∃ a,PySem.W.InstAt h x (z0 C b) C (aa a)/\∀ name,R8 name a=aa (c name):=
 let ⟨a,e,d⟩:=yJ I.ns
 ⟨a,⟨I.obj,rfl,rfl,e⟩,d⟩
section
variable {prog:ew}{w:hB}{A:hG}{E:Hq}{s:cc}{K:Ho}{x dx C f:b0}{mA:Hs}{name:ej}{v:ay}
theorem get_map {expr:e8}{Q:Hq}(X:K.In s.heap)(I:Mn s.heap x dx C mA)(a:QI K C name=a6)(d:T2 K C=a6)
  (ha:ml K (.ref C) name=aa av) (c:mA name=aa v) (b:Zc v=a6) (h:Q v { s with toks:=s.toks+1 }) :
  d6 #[8] A (getAttr (.ref x) name expr) Q E s:=by
 obtain⟨f,J,e⟩:=I.look;exact PySem.W.get_value X J (Rn a).1 (PySem.W.findObj_own d ha rfl (by rw[e,c])) b h
theorem AC {pl:ZI e8}{Q:ay×ae ay->cc->Prop}(X:K.In s.heap)(I:Mn s.heap x dx C mA)(a:QI K C name=a6)
  (b:ml K (.ref C) name=aa (aa (.ref f))) (d:RC K (.ref f)=a6) (c:mA name=av) (h:Q (.ref f,[.ref x]) s) :
  d6 #[8] A (X6 (.ref x) name pl) Q E s:=by
 obtain⟨e,J,g⟩:=I.look;exact PySem.W.method_fn X J (Rn a).1 (Rn a).2 b (Sb.mp d) (by show (R8 name e).map (·.isSome)=aa bo;rw[g,c];rfl) h
theorem Bm {ns:ae ej}{Q:Unit->cc->Prop}(X:K.In s.heap)(I:Mn s.heap x dx C mA)
  (k:ml K (.ref C) "__setattr__"=aa (aa (.builtin "object.__setattr__"))) (e:YU K C=a6) (j:WA K C name=aa av) (i:T2 K C=a6)
  (m:YT mA ns) (hsz:ns.length<=dk)
  (h:∀ h',Mn h' x dx C (λy=>if y=name then aa v else mA y)->Me dx s.heap h'->Q () { s with heap:=h',toks:=s.toks+2 }) :
  d6 #[8] A (setAttr (.ref x) name v) Q E s:=by
 obtain⟨u,J,t⟩:=I.look;refine PySem.W.set_plain X J k (PySem.W.osa_open (s:={ s with toks:=s.toks+1 }) (r:=av) X J e j λb=>?_);obtain⟨cd,hc,n⟩:=PySem.W.any_some i;have l:s.heap.get? x=aa ⟨.ref C,aa dx,.plain,#[]⟩:=I.obj;refine ak (a5 (ak (ak (wpAny_loadPart l (ak (PySem.W.Looks.here (s:={ s with toks:=s.toks+1 }) (PySem.W.looks_clsIn X hc) ?_))))));rw[n];refine a5 (a:=aa dx) (ak (a5 (ak ?_)));refine wpAny_nsSet1 (s:={ s with toks:=s.toks+1 }) I.ns λh' c d=>?_;obtain⟨oD,p,q,g,o,f⟩:=c.count (PySem.Within.cons name v m);refine ak (wpAny_lookBehind g (by rw[o];exact pastItsLine_dict (fk f (by rw[hD];omega))) ?_);exact a5 (h _ ⟨(d.2 _ (vu I.ne)).trans I.obj,c,I.ne⟩ d)
theorem Am {R:YB->cc->Prop}{vs:ae ay}{kw:ae (ej×ay)}(X:K.In s.heap)(a:WD K C=a6)
  (hi:ml K (.ref C) "__init__"=aa (aa (.ref f))) (b:PySem.W.typeIn K (.ref f)=aa (.type "function"))
  (h:PM #[8] (A.under (.builtin "type.__call__" ⟨.ref C::vs,kw⟩)) (.call (.ref f) ⟨.ref (#[13])::vs,kw⟩) (PySem.W.InitBack (#[13]) R)
   { s with heap:=(s.heap.push q5).push (z0 C s.heap.objs.size) }) :
  PM #[8] A (.call (.ref C) ⟨vs,kw⟩) R s:=by
 obtain⟨c,g,d,t,os⟩:=s;exact PySem.W.make_core (PySem.W.makes_of X a) (PySem.W.looks_findIn X hi) (λself=>PySem.W.bind_fn X self b) (.inl rfl) h
end
noncomputable def gH (f:ej)(v:V):ae (ej×V)->ae (ej×V)
 |[]=>[(f,v)]
 |(g,x)::r=>if g=f then (g,v)::r else (g,x)::gH f v r
theorem mE (f g:ej)(v:V):∀ fs:ae (ej×V),(gH f v fs).lookup g=if g=f then aa v else fs.lookup g
 |[]=>by
  show q7 g [(f,v)]=_;by_cases h:g=f
  ·have hb:(g==f)=a6:=Sb.mpr h;simp only[q7,hb,dw h]
  have hb:(g==f)=bo:=kv.mpr h;simp only[q7,hb,ee h]
 |(k,x)::r=>by
  have b:=mE f g v r;rw[show gH f v ((k,x)::r)=(if k=f then (k,v)::r else (k,x)::gH f v r) from rfl];by_cases a:k=f
  ·rw[dw a];by_cases h:g=k
   ·have hb:(g==k)=a6:=Sb.mpr h;simp only[q7,hb,dw (h.trans a)]
   have hb:(g==k)=bo:=kv.mpr h;simp only[q7,hb,ee (λe:g=f=>h (e.trans a.symm))]
  rw[ee a];by_cases h:g=k
  ·have hb:(g==k)=a6:=Sb.mpr h;simp only[q7,hb,ee (λe:g=f=>a (h.symm.trans e))]
  have hb:(g==k)=bo:=kv.mpr h;simp only[q7,hb];exact b
theorem lI (f:ej)(v:V):∀ fs:ae (ej×V),f∈(gH f v fs).map (·.1)/\∀ g,g∈fs.map (·.1)->g∈(gH f v fs).map (·.1)
 |[]=>⟨by simp[gH],λg h=>by simp at h⟩
 |(k,x)::r=>by
  obtain⟨c,b⟩:=lI f v r;rw[show gH f v ((k,x)::r)=(if k=f then (k,v)::r else (k,x)::gH f v r) from rfl];by_cases a:k=f
  ·rw[dw a];subst a;exact⟨by simp,λg h=>by simpa using h⟩
  rw[ee a];refine⟨?_,λg h=>?_⟩
  ·rw[hA];exact d7 _ c
  rw[hA] at h ⊢;rcases gi.mp h with e |e
  ·exact gi.mpr (.inl e)
  exact d7 _ (b g e)
theorem mG (f:ej)(v:V):∀ fs:ae (ej×V),(gH f v fs).length<=fs.length+1
 |[]=>by simp[gH]
 |(k,x)::r=>by
  have b:=mG f v r;rw[show gH f v ((k,x)::r)=(if k=f then (k,v)::r else (k,x)::gH f v r) from rfl];by_cases a:k=f
  ·rw[dw a,hD,hD];omega
  rw[ee a,hD,hD];omega
theorem Js.some_of {v:V}{o:ax ay}(r:Js (aa v) o):∃ u,o=aa u/\RelV v u:=by
 cases o with
 |none=>exact(show False from r).elim
 |some u=>exact⟨u,rfl,r⟩
theorem Js.none_of {o:ax ay}(r:Js av o):o=av:=by
 cases o with
 |none=>rfl
 |some u=>exact(show False from r).elim
theorem yV {v:V}{u:ay}(r:RelV v u):Zc u=a6:=by
 cases v with
 |Ic=>cases (show u=Jy from r);rfl
 |bl b=>cases (show u=QH b from r);rfl
 |int i=>obtain⟨t,e⟩:=(show ∃ t,u=Vl i t from r);cases e;rfl
 |str x=>obtain⟨t,e⟩:=(show ∃ t,u=X1 x t from r);cases e;rfl
 |RG b=>obtain⟨t,e⟩:=(show ∃ t,u=Value.bytes b t from r);cases e;rfl
 |P6 b=>obtain⟨t,e⟩:=(show ∃ t,u=Value.float b t from r);cases e;rfl
 |ref a=>cases (show u=h6 a from r);rfl
 |ty n=>cases (show u=R0 n from r);rfl
section
variable {P:ew}{w:hB}{H H':Hp}{h h':j0}{a C dx:b0}{fs Up:ae (ej×V)}
theorem sA (HZ:JX P w H h)(e:H a=aa (.ins C dx fs)):∃ b,Mn h a dx C b/\(∀ f,Js (fs.lookup f) (b f))/\YT b (fs.map (·.1))/\fs.length<=1000/\H dx=aa (.own a):=by obtain⟨d,z,ne,c,b,n,r,q⟩:=(show Ig P w H h a (.ins C dx fs) from HZ a _ e);exact⟨b,⟨c,n,ne⟩,r,q,z,d⟩
end
structure Mo (K:Ho) (C:b0):Prop where
 pg:QI K C RZ=a6
 hd:T2 K C=a6
 po:YU K C=a6
 sa:ml K (.ref C) "__setattr__"=aa (aa (.builtin "object.__setattr__"))
theorem Mo.get {K:Ho}{C:b0}(c:Mo K C)(f:ej):QI K C f=a6:=c.pg
def JC (K:Ho)(C:b0)(f:ej):Prop:=ml K (.ref C) f=aa av
theorem JC.QB {K:Ho}{C:b0}{f:ej}(n:JC K C f):WA K C f=aa av:=by unfold WA;rw[show ml K (.ref C) f=aa av from n];rfl
structure XU (K:Ho) (C:b0) (f:ej) (v:V) (u:ay):Prop where
 at_:ml K (.ref C) f=aa (aa u)
 rel:RelV v u
 get:YV K u "__get__"=aa av
 cp:PySem.W.copiedNames.contains f=bo
structure Meth (K:Ho) (C:b0) (m:ej) (f:b0):Prop where
 at_:ml K (.ref C) m=aa (aa (.ref f))
 fn:RC K (.ref f)=a6
 kp:yk K (.ref f)=a6
section
variable {X:Cx}{pins:Hr}{σ:St}{H:Hp}{s:cc}{a C dx:b0}{fs:ae (ej×V)}{f:ej}{v:V}{A:hG}{E:Hq}
theorem wB {b:e8}{Q:Hq}(I:#[10])(e:H a=aa (.ins C dx fs))(c:Mo X.K C)(n:JC X.K C f)(l:fs.lookup f=aa v)
  (h:∀ u s',Inv X pins σ H s'->RelV v u->Q u s'):d6 #[9] A (getAttr (.ref a) f b) Q E s:=by
 obtain⟨i,O,r,_,_,_⟩:=sA I.HZ e;obtain⟨u,g,d⟩:=Js.some_of (v:=v) (o:=i f) (by rw[← l];exact r f);exact get_map I.LB O (c.get f) c.hd n g (yV d) (h u _ (I.tok _) d)
theorem oT {m:ej}{g:b0}{pl:ZI e8}{Q:ay×ae ay->cc->Prop}(I:#[10])(e:H a=aa (.ins C dx fs))(c:Mo X.K C)(k:Meth X.K C m g)(l:fs.lookup m=av)
  (h:Q (.ref g,[.ref a]) s):d6 #[9] A (X6 (.ref a) m pl) Q E s:=by
 obtain⟨b,O,r,_,_,_⟩:=sA I.HZ e;have d:b m=av:=Js.none_of (by rw[← l];exact r m);exact AC I.LB O (c.get m) k.at_ k.fn d h
theorem vJ {y:V}{u:ay}{Q:Unit->cc->Prop}(I:#[10])(e:H a=aa (.ins C dx fs))(c:Mo X.K C)(n:JC X.K C f)(B:fs.length<1000)(v:RelV y u)
  (h:∀ s',Inv X pins σ (upd H a (.ins C dx (gH f y fs))) s'->Q () s'):d6 #[9] A (setAttr (.ref a) f u) Q E s:=by
 obtain⟨i,O,r,j,_,k⟩:=sA I.HZ e;have m:(fs.map (·.1)).length<=dk:=by rw[dV,Xe];omega
 refine Bm I.LB O c.sa c.po n.QB c.hd j m λl d sb=>h _ ?_;have hd:∃ o,l.get? dx=aa o:=let ⟨o,_,_,p,_⟩:=d.ns;⟨o,p⟩;refine I.write (x:=a) (e:=dx) (by rw[e];exact JK) (.inr k) (λb q hb z=>(sb.2 b hb).trans z) hd ?_;refine⟨by rw[aG O.ne];exact k,?_,O.ne,d.obj,_,d.ns,λg=>?_,λg t=>?_⟩
 ·have:=mG f y fs;omega
 ·show Js ((gH f y fs).lookup g) (if g=f then aa u else i g);rw[mE];by_cases q:g=f
  ·rw[dw q,dw q];exact v
  rw[ee q,ee q];exact r g
 by_cases q:g=f
 ·rw[q];exact(lI f y fs).1
 refine(lI f y fs).2 g (j g λz=>t ?_);show (if g=f then aa u else i g)=av;rw[ee q];exact z
theorem Inv.made (I:#[10]):Inv X pins σ (upd (upd H s.heap.objs.size (.own (#[13]))) (#[13]) (.ins C s.heap.objs.size []))
  { s with heap:=(s.heap.push q5).push (z0 C s.heap.objs.size) }:=by
 have c:(s.heap.push q5).get? s.heap.objs.size=aa q5:=en s.heap rfl;have h:((s.heap.push q5).push (z0 C s.heap.objs.size)).get? (#[13])=aa (z0 C s.heap.objs.size):=by have:=en (s.heap.push q5) (o:=z0 C s.heap.objs.size) rfl;rwa [rl] at this
 have g:(s.heap.push q5).Ns s.heap.objs.size (λ_=>av):=⟨q5,#[],_,c,rfl,(λe f=>hK f #[3]),λ_=>rfl⟩;have d:=I.laid (a:=s.heap.objs.size) (o:=.own (#[13])) (h':=s.heap.push q5) (t':=s.toks) (λb u q=>cv _ q) (eG _) ⟨_,c⟩;refine d.laid (a:=#[13]) (o:=.ins C s.heap.objs.size []) (t':=s.toks) (λb u q=>cv _ q) (Nat.le_of_eq (rl _ _)) ?_;have ne:s.heap.objs.size≠#[13]:=md (OO _);refine⟨by rw[aG ne,HG],Pl _,ne,h,λ_=>av,(Heap.Ns1.of_empty g).at λo q=>cv _ q,λ_=>JK,λy i=>hK rfl i⟩
theorem CC {prog:ew}{w:hB}{env:Yy}{e:gj}{f:ej}{pos:N5}{s:cc}{Q:Hq}(hb:ro e f env (lX e env)=lX e env)
  (h:d6 #[8] A (lX e env) (λo a=>d6 #[8] A (getAttr o f a6) Q E a) E s):d6 #[8] A (lX (.Attribute e f pos) env) Q E s:=
 Attribute_any_ h (by rw[arm_eval_Attribute,hb])
end
noncomputable def F8 (K:Ho)(e:TE)(f:ej):TE:=λd H Q=>e d H λx b => ∃ a C c fs v,x = .ref a/\b a=aa (.ins C c fs)/\Mo K C/\JC K C f/\fs.lookup f=aa v/\Q v b
noncomputable def Gb (K:Ho)(e tv:TE)(f:ej):TS:=λD b H=>tv b H λy g=>e b g λx c => ∃ a C d fs,x = .ref a/\c a=aa (.ins C d fs)/\Mo K C/\JC K C f/\fs.length<1000 /\
 D.nx b (upd c a (.ins C d (gH f y fs)))
section
variable {X:Cx}{o e value:gj}{f:ej}{pos pos' QC:N5}{ta tv:TE}
theorem DI (i:PE X e ta)(hb:ro e f X.env (lX e X.env)=lX e X.env):PE X (.Attribute e f pos) (F8 X.K ta f):=by intro b s k H Q I h;refine CC hb (HU (i b s k H _ I h) λu t d=>?_);obtain⟨x,o,g,r,a,C,y,fs,v,ex,m,c,n,l,q⟩:=d;subst ex;obtain rfl:u=h6 a:=r;exact wB g m c n l λw z p j=>⟨v,o,p,j,q⟩
theorem DC (ha:PE X o ta)(g:PE X value tv)(m:N_ value (aa (.Attribute o f pos')) pos.line X.env=u1 bo):PS X (.Assign [.Attribute o f pos'] value pos) (Gb X.K ta tv f):=by intro b s d H D I h;refine plainObj_wpAny_Assign_Attribute (HU (g b s d H _ I h) λu k ⟨y,p,i,w,q⟩=>HU (ha b k d p _ i q) λr G e=>?_) m;obtain⟨x,E,v,z,a,C,F,fs,ex,j,c,n,l,A⟩:=e;subst ex;obtain rfl:r=h6 a:=z;exact vJ v j c n l w λB t=>⟨d,_,t,A⟩
theorem CU {pl:ZI e8}{m:ej}{b:N5}{args:ae gj}{d:Hr}{s:cc}{i:St}{H:Hp}{Q:Hq}{t:TE}(y:PE X e t)(I:Inv X d i H s)
  (h:t i H λx n => ∃ a C r fs g,x = .ref a/\n a=aa (.ins C r fs)/\Mo X.K C/\Meth X.K C m g/\fs.lookup m=av /\
   ∀ j,Inv X d i n j->d6 #[9] X.A (ZL pos (.ref g) [.ref a] (mf pos (dm args X.env)) (O0 pos (Jf [] X.env))) Q X.xe j)
  (z:lX (.Call (.Attribute e m b) args [] pos) X.env=(do
   let p ← lX e X.env
   ZF b.atName
   let (f,first) ← X4 [p] (X6 p m pl)
   ZL pos f first (mf pos (dm args X.env)) (O0 pos (Jf [] X.env)))) :
  d6 #[9] X.A (lX (.Call (.Attribute e m b) args [] pos) X.env) Q X.xe s:=by
 refine W2 (pl:=pl) (HU (y d s i H _ I h) λu j v=>?_) z;obtain⟨x,n,o,D,a,C,r,fs,g,ex,B,c,k,l,q⟩:=v;subst ex;obtain rfl:u=h6 a:=D;exact oT o B c k l (q j o)
end
section
variable {X:Cx}{pins:Hr}{σ:St}{H:Hp}{s:cc}{A:hG}{E:Hq}{Q:Hq}{c:ay}{b:e8}
inductive KL (K:Ho) (H:Hp):V->ay->Prop where
 |Ic:KL K H .Ic (.type "NoneType")
 |bl (x:e8):KL K H (.bl x) (.type "bool")
 |int (i:Int):KL K H (.int i) (.type "int")
 |str (x:ej):KL K H (.str x) (.type "str")
 |P6 (x:UInt64):KL K H (.P6 x) (.type "float")
 |lst {a:b0}{xs:ae V}(e:H a=aa (.lst xs)):KL K H (.ref a) (.type "list")
 |ME {a:b0}{o:VJ}{xs:ae V}(e:H a=aa (.ME o (.lst xs))):KL K H (.ref a) (.type "list")
 |tup {a:b0}{xs:ae V}(e:H a=aa (.tup xs)):KL K H (.ref a) (.type "tuple")
 |dK {a:b0}{kvs:ae (Key×V)}(e:H a=aa (.dK kvs)):KL K H (.ref a) (.type "dict")
 |dT {a:b0}{kvs:ae (ae Key×V)}(e:H a=aa (.dT kvs)):KL K H (.ref a) (.type "dict")
 |ins {a C dx:b0}{fs:ae (ej×V)}(e:H a=aa (.ins C dx fs)) (cl:Mo K C) (ha:ml K (.ref C) "__class__"=aa (aa (.builtin "object.__class__")))
   (hn:YV K (.builtin "object.__class__") "__get__"=aa (aa (.builtin "getset_descriptor.__get__"))) (XW:PySem.W.takesIn K (.builtin "object.__class__")=aa a6)
   (hm:PySem.W.mroIn K C (.type "object")=aa a6):KL K H (.ref a) (.ref C)
end
structure Ib (k:Nat) (A:hG):Prop where
 hd:A.handled=av
 dp:A.depth+3*k+5<recursionLimit
 un:A.units+16*k+200<n0
 gd:A.guards=aa []
theorem Ib.mono {j k:Nat}{A:hG}(r:Ib k A)(h:j<=k):Ib j A:=⟨r.hd,by have:=r.dp;omega,by have:=r.un;omega,r.gd⟩
theorem Ib.deeper {k:Nat}{A:hG}(r:Ib (k+1) A)(env:Yy):Ib k (A.deeper env):=
 ⟨r.hd,by have:=r.dp;show A.depth+1+3*k+5 < _;omega,by have:=r.un;show A.units+3+16*k+200 < _;omega,r.gd⟩
theorem v8 {A:hG}{C:b0}{us:ae ay}{kw:ae (ej×ay)}:(A.under (.builtin "type.__call__" ⟨.ref C::us,kw⟩)).depth=A.depth+1:=by
 first |rfl |simp[VQ,Code.weight,Code.isCreation,Code.isGuard,Code.isCaller,Code.frames,YW,guardIds]
theorem v7 {A:hG}{C:b0}{us:ae ay}{kw:ae (ej×ay)}:(A.under (.builtin "type.__call__" ⟨.ref C::us,kw⟩)).units=A.units+1:=by
 first |rfl |simp[VQ,Code.cUnits,Code.frames,YW]
theorem uo {A:hG}{C:b0}{us:ae ay}{kw:ae (ej×ay)}:(A.under (.builtin "type.__call__" ⟨.ref C::us,kw⟩)).guards=A.guards:=by
 first |rfl |simp[VQ,Code.guards,Code.isGuard,guardIds,pushGuards]
theorem Ib.make {k:Nat}{A:hG}(r:Ib (k+1) A)(C:b0)(us:ae ay)(kw:ae (ej×ay)):Ib k (A.under (.builtin "type.__call__" ⟨.ref C::us,kw⟩)):=
 ⟨r.hd,by have:=r.dp;rw[v8];omega,by have:=r.un;rw[v7];omega,by rw[uo];exact r.gd⟩
theorem Ib.depth {k:Nat}{A:hG}(r:Ib k A):A.depth<recursionLimit:=by have:=r.dp;omega
theorem Ib.units {k:Nat}{A:hG}(r:Ib k A):A.units+64<n0:=by have:=r.un;omega
noncomputable def ll:TA:=λ_ H Q=>Q [] H
noncomputable def zj (d:TE)(c:TA):TA:=λa H Q=>d a H λx f=>c a f λe b=>Q (x::e) b
section
variable {X:Cx}{e:gj}{es:ae gj}{te:TE}{t:TA}{pos:N5}
theorem Ik:PA X [] ll:=λ_ _ _ _ H Q I h=>Calls.spliced_nil ⟨[],H,I,.nil,h⟩
theorem cn (ha:PE X e te)(hr:PA X es t)(l:dm (e::es) X.env=(bo,lX e X.env)::dm es X.env:=by rfl):PA X (e::es) (zj te t):=by intro pos a s b H Q I h;rw[l];show d6 _ _ (spliced ((bo,lX e X.env)::mf pos (dm es X.env))) _ _ s;refine Calls.spliced_cons (HU (ha a s b H _ I h) λu k d=>?_);obtain⟨x,m,i,f,j⟩:=d;exact HU (hr pos a k b m _ i j) λq r ⟨g,c,n,o,p⟩=>⟨x::g,c,n,.cons f o,p⟩
noncomputable def F1 (t:TA):TE:=λc H Q=>t c H λa b=>a.length<=dk/\∀ p,b p=av->Q (.ref p) (upd b p (.tup a))
noncomputable def F5 (t:TA):TE:=λc H Q=>t c H λa b=>a.length<=dk/\∀ p,b p=av->Q (.ref p) (upd b p (.lst a))
theorem DF {x1}(h:PA X es t):PE X (.Tuple es x1 pos) (F1 t):=by intro a s k H Q I i;refine wpAny_Tuple_spliced (HU (h pos a s k H _ I i) λg c ⟨j,f,d,r,z,q⟩=>⟨by rw[← r.length];exact z,?_⟩);have l:f c.heap.objs.size=av:=d.HZ.fresh (eG _);refine⟨.ref c.heap.objs.size,upd f c.heap.objs.size (.tup j),d.laid (t':=c.toks) (λb u e=>cv _ e) (eG _) ?_,rfl,q _ l⟩;exact⟨z,g,r,KH.new _ _⟩
theorem zW (h:PA X es t):PE X (.List es pos) (F5 t):=by intro a s k H Q I i;refine wpAny_List_spliced (HU (h pos a s k H _ I i) λg c ⟨j,f,d,r,z,q⟩=>⟨by rw[← r.length];exact z,?_⟩);have l:f c.heap.objs.size=av:=d.HZ.fresh (eG _);refine⟨.ref c.heap.objs.size,upd f c.heap.objs.size (.lst j),d.laid (t':=c.toks) (λb u e=>cv _ e) (eG _) ?_,rfl,q _ l⟩;exact⟨z,g,0,r,en _ rfl⟩
end
abbrev Sp:=ae V->Hp->VK->XK->Prop
abbrev Nh:=ae Yy->Hp->cc->XK->Hq
structure Mp (P:ew) (w:hB) (K:Ho) (mg:Hs) (base:j0) (A:hG) (outer:ae Yy) (s:cc) (H:Hp):Prop where
 frames:A.frames=aa outer
 mod:Mod K mg base
 bs:∀ b o,base.get? b=aa o->s.heap.get? b=aa o/\H b=av
 Oc:base.objs.size<=s.heap.objs.size
 Kw:s.heap.FunFrames base outer
 O9:∀ b∈MT outer,H b=av
 HZ:JX P w H s.heap
 bare:TU s.gens
def CE (outer:ae Yy)(P:ew)(w:hB)(H:Hp)(s:cc)(Q:VK)(u:ay)(s':cc):Prop:=
 ∃ v a,s'.os=s.os/\TU s'.gens/\Un (MT outer) [] H a s.heap s'.heap/\JX P w a s'.heap/\RelV v u/\Q v a
def CR (CX:Nh)(outer:ae Yy)(P:ew)(w:hB)(H:Hp)(s:cc)(Q:VK)(E:XK)(r:YB)(s':cc):Prop:=
 match r with
 | .ok (.ret u)=>CE outer P w H s Q u s'
 | .ok _=>False
 | .error e=>CX outer H s E e s'
structure JP (P:ew) (w:hB) (K:Ho) (mg:Hs) (base:j0) (CX:Nh) (k:Nat) (f:b0) (fd:wa) (ps:ae ej) (sp:Sp):Prop where
 len:∀ vs H Q E,sp vs H Q E->vs.length=ps.length
 run:∀ (A:hG) (outer:ae Yy) (s:cc) (H:Hp) (args:Args) (us:ae ay) (vs:ae V) (Q:VK) (E:XK),Ib k A->Mp P w K mg base A outer s H->X_ s fd args (ps.zip us)->Vals vs us->sp vs H Q E ->
  PM (eJ P w) A (.call (.ref f) args) (CR CX outer P w H s Q E) s
theorem JP.imp {P:ew}{w:hB}{K:Ho}{mg:Hs}{base:j0}{CX:Nh}{k:Nat}{f:b0}{fd:wa}{b:ae ej}{sp a:Sp}(F:JP P w K mg base CX k f fd b sp)
  (h:∀ vs H Q E,a vs H Q E->sp vs H Q E):JP P w K mg base CX k f fd b a:=
 ⟨λvs H Q E q=>F.len vs H Q E (h _ _ _ _ q),λA outer s H args c vs Q E hr e hb d g=>F.run A outer s H args c vs Q E hr e hb d (h _ _ _ _ g)⟩
theorem Mp.make {P:ew}{w:hB}{K:Ho}{mg:Hs}{base:j0}{A:hG}{outer:ae Yy}{s:cc}{H:Hp}(e:Mp P w K mg base A outer s H)(C:b0)(us:ae ay)(kw:ae (ej×ay)) :
  Mp P w K mg base (A.under (.builtin "type.__call__" ⟨.ref C::us,kw⟩)) outer s H:=⟨by first |exact e.frames |(simpa [VQ,Code.envs,YW,pushEnvs] using e.frames),e.mod,e.bs,e.Oc,e.Kw,e.O9,e.HZ,e.bare⟩
section
variable {X:Cx}{pins:Hr}{σ:St}{H:Hp}{s s':cc}
theorem Inv.QD (I:#[10]):Mp X.prog X.w X.K X.mg X.base X.A X.stack s H:=
 ⟨I.ok.frames,I.ok.mod,I.bs,fk I.ok.Oc I.sz,I.stack,I.MF,I.HZ,I.bare⟩
theorem Inv.after {Q:VK}{u:ay}(I:#[10])(h:CE X.stack X.prog X.w H s Q u s'):EP X pins σ Q u s':=by obtain⟨v,c,os,bare,un,HZ,r,q⟩:=h;obtain⟨a,g,d,t,QE⟩:=s';obtain rfl:QE=s.os:=os;exact⟨v,c,I.call (h':=a) (g':=g) (d':=d) (t':=t) (ch:=[]) un HZ bare (λb z=>hK z #[3]),r,q⟩
end
noncomputable def CM (sp:Sp)(a:ae V)(E:XK)(t:TA):TE:=λb H Q=>t b H λc d=>sp (c++a) d Q E
noncomputable def EN (C:b0)(m:ej)(sp:Sp)(e:ae V)(E:XK)(h:TE)(t:TA):TE:=λb H Q=>h b H λx c => ∃ a f fs,x = .ref a/\c a=aa (.ins C f fs)/\fs.lookup m=av /\
 t b c λg d=>sp (x::(g++e)) d Q E
noncomputable def EO (C:b0)(sp:Sp)(d:ae V)(E:XK)(t:TA):TE:=λe H Q=>t e H λf b => ∀ x a,b x=av->b a=av->a≠x ->
 sp (.ref x::(f++d)) (upd (upd b a (.own x)) x (.ins C a [])) (λv c=>v = .Ic/\Q (.ref x) c) E
def Binds (K:Ho)(fd:wa)(b:ae ej)(ds:ae ay):Prop:=
 ∀ (s:cc) (a:ae ay),K.In s.heap->(a++ds).length=b.length->X_ s fd ⟨a,[]⟩ (b.zip (a++ds))
theorem Binds.all {K:Ho}{fd:wa}{a:ae ej}(h:∀ us:ae ay,us.length=a.length->OI fd ⟨us,[]⟩=u1 (a.zip us)):Binds K fd a []:=λs us _ b=>by rw[eM] at b ⊢;exact .of_eq (h us b)
def Passes (CX:Nh)(X:Cx)(E:XK):Prop:=∀ (a:Hr) (c:St) (H:Hp) (s:cc) (e:ay) (b:cc),Inv X a c H s->CX X.stack H s E e b->X.xe e b
section
variable {X:Cx}{CX:Nh}{k:Nat}{f C:b0}{fd:wa}{ps:ae ej}{sp:Sp}{LF:ae V}{ds:ae ay}{E:XK}{x m:ej}{p pos apos:N5}{e o:gj}{es:ae gj}{ta:TE}{t:TA}
theorem zE {a:Hr}{c:St}{H:Hp}{s:cc}{Q:VK}{us:ae ay}{vs:ae V}(F:JP X.prog X.w X.K X.mg X.base CX k f fd ps sp)(hr:Ib k X.A)(hb:Binds X.K fd ps ds)(hd:Vals LF ds)(j:Passes CX X E)
  (I:Inv X a c H s) (r:Vals vs us) (h:sp (vs++LF) H Q E):d6 #[9] X.A (call (.ref f) us) (EP X a c Q) X.xe s:=by
 have d:Vals (vs++LF) (us++ds):=r.append hd;have l:(us++ds).length=ps.length:=by rw[← d.length];exact F.len _ _ _ _ h
 refine wpAny_call (VW (F.run X.A X.stack s H ⟨us,[]⟩ (us++ds) (vs++LF) Q E hr I.QD (hb s us I.LB l) d h) λr g b=>?_);cases r with
 |error e=>exact j a c H s e g I b
 |ok i =>
  cases i with
  |ret u=>exact I.after b
  |next=>exact C3 b
  |brk=>exact C3 b
  |cont=>exact C3 b
theorem BQ (F:JP X.prog X.w X.K X.mg X.base CX k f fd ps sp)(hr:Ib k X.A)(m:Gl X x)(c:X.mg x=aa (.ref f))(i:yk X.K (.ref f)=a6)(hb:Binds X.K fd ps ds)(hd:Vals LF ds)(j:Passes CX X E)
  (ha:PA X (e::es) t) (l:(x==("__debug__":ej))=bo:=by decide) (d:dm (e::es) X.env=(bo,lX e X.env)::dm es X.env:=by rfl) (n:(mf pos (dm es X.env)).any (·.1)=bo:=by rfl) :
  PE X (.Call (.Name x p) (e::es) [] pos) (CM sp LF E t):=by
 intro a s g H Q I h;refine J4 (sh I m c ?_ l);refine Se (h₀:=X.base) I.ok.mod.Qu i (HU (ha pos a s g H _ I h) λo u ⟨y,v,b,r,q⟩=>⟨b.LB,?_⟩) d n;exact zE F hr hb hd j b r q
theorem BK {pl:ZI e8}(v:PE X o ta)(c:Mo X.K C)(d:Meth X.K C m f)(F:JP X.prog X.w X.K X.mg X.base CX k f fd ps sp)(hr:Ib k X.A)(hb:Binds X.K fd ps ds)(hd:Vals LF ds)(J:Passes CX X E)(ha:PA X (e::es) t)
  (y:dm (e::es) X.env=(bo,lX e X.env)::dm es X.env:=by rfl) (M:(mf pos (dm es X.env)).any (·.1)=bo:=by rfl)
  (z:lX (.Call (.Attribute o m apos) (e::es) [] pos) X.env=(do
   let j ← lX o X.env
   ZF apos.atName
   let (f,first) ← X4 [j] (X6 j m pl)
   ZL pos f first (mf pos (dm (e::es) X.env)) (O0 pos (Jf [] X.env))):=by rfl) :
  PE X (.Call (.Attribute o m apos) (e::es) [] pos) (EN C m sp LF E ta t):=by
 intro b s i H Q I h;refine W2 (pl:=pl) (HU (v b s i H _ I h) λu D p=>?_) z;obtain⟨x,G,g,L,a,P,fs,ex,B,l,q⟩:=p;subst ex;obtain rfl:u=h6 a:=L;refine oT g B c d l ?_;refine Se (first:=[.ref a]) (h₀:=X.base) I.ok.mod.Qu d.kp (HU (ha pos b D i G _ g q) λus R ⟨vs,O,n,r,N⟩=>⟨n.LB,?_⟩) y M;exact zE (us:=.ref a::us) (vs:=.ref a::vs) F hr hb hd J n (.cons rfl r) N
structure Mk (K:Ho) (C f:b0):Prop where
 makes:WD K C=a6
 init:ml K (.ref C) "__init__"=aa (aa (.ref f))
 fn:RC K (.ref f)=a6
 kp:yk K (.ref C)=a6
theorem zD {a:Hr}{g:St}{H:Hp}{s:cc}{Q:VK}{us:ae ay}{vs:ae V}(M:Mk X.K C f)(F:JP X.prog X.w X.K X.mg X.base CX k f fd ps sp)(hr:Ib (k+1) X.A)(hb:Binds X.K fd ps ds)(hd:Vals LF ds)
  (y:Passes CX X E) (I:Inv X a g H s) (r:Vals vs us)
  (h:∀ x c,H x=av->H c=av->c≠x->sp (.ref x::(vs++LF)) (upd (upd H c (.own x)) x (.ins C c [])) (λv l=>v = .Ic/\Q (.ref x) l) E) :
  d6 #[9] X.A (call (.ref C) us) (EP X a g Q) X.xe s:=by
 have i:=h (#[13]) s.heap.objs.size (I.HZ.fresh (T9 _)) (I.HZ.fresh (eG _)) (md (OO _));have d:=Inv.made (C:=C) I;have j:Vals (V.ref (#[13])::(vs++LF)) (h6 (#[13])::(us++ds)):=.cons rfl (r.append hd);have z:(h6 (#[13])::us++ds).length=ps.length:=by have e:=j.length;rw[F.len _ _ _ _ i] at e;exact e.symm
 refine wpAny_call (Am (f:=f) I.LB M.makes M.init (Sb.mp M.fn) (VW (F.run _ X.stack _ _ ⟨h6 (#[13])::us,[]⟩ (h6 (#[13])::(us++ds)) _ _ E (hr.make C us [])
  (d.QD.make C us []) (hb _ (h6 (#[13])::us) d.LB z) j i) λr n b=>?_))
 cases r with
 |error e=>exact y a g _ _ e n d b
 |ok o =>
  cases o with
  |ret u =>
   obtain⟨v,p,t,m,ev,q⟩:=d.after b;subst ev;exact⟨m,⟨V.ref (#[13]),p,t,rfl,q⟩⟩
  |next=>exact C3 b
  |brk=>exact C3 b
  |cont=>exact C3 b
theorem BL (M:Mk X.K C f)(F:JP X.prog X.w X.K X.mg X.base CX k f fd ps sp)(hr:Ib (k+1) X.A)(l:Gl X x)(c:X.mg x=aa (.ref C))(hb:Binds X.K fd ps ds)(hd:Vals LF ds)(i:Passes CX X E)
  (ha:PA X (e::es) t) (j:(x==("__debug__":ej))=bo:=by decide) (d:dm (e::es) X.env=(bo,lX e X.env)::dm es X.env:=by rfl) (m:(mf pos (dm es X.env)).any (·.1)=bo:=by rfl) :
  PE X (.Call (.Name x p) (e::es) [] pos) (EO C sp LF E t):=by
 intro a s g H Q I h;refine J4 (sh I l c ?_ j);refine Se (h₀:=X.base) I.ok.mod.Qu M.kp (HU (ha pos a s g H _ I h) λn o ⟨v,u,b,r,q⟩=>⟨b.LB,?_⟩) d m;exact zD M F hr hb hd i b r q
end
section
variable {X:Cx}{CX:Nh}{k:Nat}{f C:b0}{fd:wa}{ps ks:ae ej}{sp:Sp}{E:XK}{x m:ej}{p pos apos VN:N5}{e o:gj}{es:ae gj}{XX:ae Ow}{te ta:TE}{t tk:TA}{nm:ax ej}
structure SJ (K:Ho) (fd:wa) (ps ks:ae ej) (g:ae ay->ae ay->ae ay) (gV:ae V->ae V->ae V):Prop where
 to:∀ (s:cc) (us ws:ae ay),K.In s.heap->(g us ws).length=ps.length->X_ s fd ⟨us,ks.zip ws⟩ (ps.zip (g us ws))
 rel:∀ {vs:ae V}{us:ae ay}{zs:ae V}{ws:ae ay},Vals vs us->Vals zs ws->Vals (gV vs zs) (g us ws)
variable {g:ae ay->ae ay->ae ay}{gV:ae V->ae V->ae V}
end
structure Hx (N P:ae ej) (sc:i0):Prop where
 kind:sc.kind = .function
 co:sc.isCoroutine=bo
 gen:sc.isGenerator=bo
 nd:N.Nodup
 pre:N.take P.length=P
 par:∀ x∈P,sc.names.lookup x=aa .local∨sc.names.lookup x=aa .cell
 Ph:∀ y∈sc.names,y.2≠.free
theorem rh {kindOf:ej->ax H5}{x:ej}:∀ {binds:ae (ej×ay)}{m:Hs},(∀ v,(x,v)∉binds)->ZM kindOf binds m x=m x
 |[],_,_=>rfl
 |(n,v)::r,m,h=>by
  unfold ZM;rw[rh λw a=>h w (d7 _ a)];split
  ·have:x≠n:=by rintro rfl;exact h v e7
   simp[this]
  rfl
theorem rm {kindOf:ej->ax H5}{x:ej}:∀ {binds:ae (ej×ay)}{m:Hs},(∀ v,(x,v)∉binds)->ZN kindOf binds m x=m x
 |[],_,_=>rfl
 |(n,v)::r,m,h=>by
  unfold ZN;rw[rm λw a=>h w (d7 _ a)];split
  ·rfl
  have:x≠n:=by rintro rfl;exact h v e7
  simp[this]
theorem rj {kindOf:ej->ax H5}{x:ej}{v:ay}:∀ {P:ae ej}{vs:ae ay}{i:Nat}{m:Hs},P.Nodup->P[i]?=aa x->vs[i]?=aa v->kindOf x=aa .local ->
  ZM kindOf (P.zip vs) m x=aa v
 |[],_,_,_,_,h,_,_=>by simp at h
 |_::_,[],_,_,_,_,h,_=>by simp at h
 |p::P,w::vs,0,m,nd,h1,h2,hk=>by
  simp at h1 h2;subst h1;subst h2;show ZM kindOf ((p,w)::P.zip vs) m p=_;unfold ZM;rw[rh λv a=>(Sh.mp nd).1 (ZO a).1,dw hk];simp
 |p::P,w::vs,i+1,m,nd,h1,h2,hk=>by
  show ZM kindOf ((p,w)::P.zip vs) m x=_;unfold ZM;exact rj (i:=i) (Sh.mp nd).2 (by simpa using h1) (by simpa using h2) hk
theorem rz {kindOf:ej->ax H5}{x:ej}{v:ay}:∀ {P:ae ej}{vs:ae ay}{i:Nat}{m:Hs},P.Nodup->P[i]?=aa x->vs[i]?=aa v->kindOf x≠aa .local ->
  ZN kindOf (P.zip vs) m x=aa v
 |[],_,_,_,_,h,_,_=>by simp at h
 |_::_,[],_,_,_,_,h,_=>by simp at h
 |p::P,w::vs,0,m,nd,h1,h2,hk=>by
  simp at h1 h2;subst h1;subst h2;show ZN kindOf ((p,w)::P.zip vs) m p=_;unfold ZN;rw[rm λv a=>(Sh.mp nd).1 (ZO a).1,ee hk];simp
 |p::P,w::vs,i+1,m,nd,h1,h2,hk=>by
  show ZN kindOf ((p,w)::P.zip vs) m x=_;unfold ZN;exact rz (i:=i) (Sh.mp nd).2 (by simpa using h1) (by simpa using h2) hk
noncomputable def start (N:ae ej)(vs:ae V):St:=vs.map aa++el (N.length-vs.length) av
noncomputable def o6 (CX:Nh)(P:ew)(w:hB)(K:Ho)(mg:Hs)(base:j0)(N:ae ej)(qual:ej)(scope:i0)(f:b0)(cd:ay)(A:hG)(outer:ae Yy)(s:cc)(H:Hp)(E:XK):Cx where
 prog:=P
 w:=w
 K:=K
 mg:=mg
 base:=base
 A:=A.deeper (QJ qual scope s.heap.objs.size f cd)
 N:=N
 s₀:=s
 H₀:=H
 env:=QJ qual scope s.heap.objs.size f cd
 outer:=outer
 stack:=QJ qual scope s.heap.objs.size f cd::outer
 ex:=[]
 calm:=a6
 fn:=λ_=>a6
 pn:=[]
 xe:=λe b=>d6 (eJ P w) (A.deeper (QJ qual scope s.heap.objs.size f cd)) (leaving (QJ qual scope s.heap.objs.size f cd) e) (λ_ a=>CX outer H s E e a) (λc a=>CX outer H s E c a) b
theorem uR {sc:i0}{n:Nat}{x:ej}(h:sc.names.lookup x=aa .cell):∃ c,(rb n sc.names []).lookup x=aa c:=by have q:=VX sc.names n [] (.inl h);exact Option.isSome_iff_exists.mp q
theorem yS {CX:Nh}{P:ew}{w:hB}{K:Ho}{mg:Hs}{base:j0}{N j:ae ej}{qual:ej}{scope:i0}{f:b0}{cd:ay}{A:hG}{outer:ae Yy}{s B:cc}{H:Hp}{E:XK}{us:ae ay}{vs:ae V}
  (S:Hx N j scope) (hd:A.handled=av) (g:Mp P w K mg base A outer s H) (L:vs.length=j.length) (r:Vals vs us)
  (x:InCallC s s.heap.objs.size (ZM (QJ qual scope s.heap.objs.size f cd).kindOf (j.zip us) λ_=>av) (rb (#[13]) scope.names []) (ZN (QJ qual scope s.heap.objs.size f cd).kindOf (j.zip us) λ_=>av) B) :
  Inv (o6 CX P w K mg base N qual scope f cd A outer s H E) [] (start N vs) H B:=by
 have M:j.length<=N.length:=by have:=E3 T_ S.pre;rw[Jj] at this;omega
 obtain⟨m,tk,rfl,C⟩:=x.done;have t:∀ b:b0,b∉(o6 CX P w K mg base N qual scope f cd A outer s H E).ex:=λb z=>hK (show b∈([]:ae b0) from z) #[3]
 refine⟨⟨g.mod,S.kind,rfl,rfl,eG _,λy z c m d=>?_,λy hy=>?_,λy c _ h=>?_,λ_=>hd,Around.frames_deeper g.frames,.inr ⟨rfl,rfl⟩,λb z=>hK z (t b),g.bs,g.Oc,λb _ _=>t b,λb z=>hK z (t b),g.Kw,g.O9⟩,
  rfl,g.bare,Un.kept C,⟨_,x.toInCall.ns,λi y v m d J=>?_⟩,λy c h=>⟨_,x.cell y c h⟩,g.HZ.fresh (eG _),λy c h=>?_,λp l=>hK (show p∈([]:Hr) from l) #[3],g.HZ.kept C,?_⟩
 ·exact name_of_addr x.apart (Nm m) (Nm d)
 ·have hy:scope.names.lookup y=aa .cell∨scope.names.lookup y=aa .free:=hy;rcases hy with hy |hy
  ·exact uR hy
  exact hK rfl (S.Ph _ (Nm hy))
 ·exact qs (x.above y c (Nm h))
 ·have o:i<vs.length:=by
   unfold start at d;by_cases o:i<vs.length
   ·exact o
   rw[f5 (by simpa using o)] at d;rw[ND] at d;split at d<;>cases d
  have I:vs[i]?=aa v:=by
   unfold start at d;rw[gh (by simpa using o),eh] at d;cases e:vs[i]? with
   |none=>rw[e] at d;cases d
   |some a=>rw[e] at d;cases d;rfl
  obtain⟨u,F,G⟩:=r.get I;have l:j[i]?=aa y:=by rw[← S.pre,UA #[0]];exact m
  have D:j.Nodup:=by rw[← S.pre];exact S.nd.sublist (YX _ _)
  refine⟨u,G,?_⟩;rcases S.par y (mx l) with k |k
  ·exact .inl ⟨k,rj D l F k⟩
  obtain⟨c,e⟩:=uR (n:=#[13]) k;refine .inr ⟨.inl k,c,e,?_⟩;have q:=x.cell y c e;rw[rz D l F (by show scope.names.lookup y≠_;rw[k];decide)] at q;exact q
 ·exact g.HZ.fresh (qs (x.above y c (Nm h)))
 unfold start;show _=N.length;rw[cq,dV,Qw];omega
theorem Fr {CX:Nh}{P:ew}{w:hB}{K:Ho}{mg:Hs}{base:j0}{k:Nat}{f:b0}{name qual:ej}{params:QK}{body:ae mq}{scope:i0}{B kV doc C c ct Z:ay}{m O:ax b0}
  {G:h8 (ax ay)}{N h:ae ej}{sp:Sp}(lk:K.lookup f=aa ⟨Z,O,.func (wb name qual params body scope B kV doc C m c ct),G⟩) (MG:Si K c qual=a6) (S:Hx N h scope)
  (len:∀ vs H Q E,sp vs H Q E->vs.length=h.length)
  (X:∀ (A:hG) (outer:ae Yy) (s:cc) (H:Hp) (vs:ae V) (Q:VK) (E:XK),Ib k (A.deeper (QJ qual scope s.heap.objs.size f c))->sp vs H Q E ->
   ∃ t,Ml (o6 CX P w K mg base N qual scope f c A outer s H E) body t/\t { nx:=λ_ H'=>Q .Ic H',rt:=Q } (start N vs) H) :
  JP P w K mg base CX (k+1) f (wb name qual params body scope B kV doc C m c ct) h sp:=by
 refine⟨len,λA outer s H args U vs Q E hr g hb r p=>?_⟩;have M:=len _ _ _ _ p;have KX:K.In s.heap:=g.mod.Qu.keeps λb o e=>(g.bs b o e).1;have j:s.heap.NoLimit:=g.mod.nolimit.keeps λb o e=>(g.bs b o e).1
 have R:∀ y∈h.zip U,scope.names.lookup y.1=aa .local∨(scope.names.lookup y.1=aa .cell/\((rb (#[13]) scope.names []).lookup y.1).isSome=a6):=λT L=>by
  obtain⟨n,v⟩:=T
  rcases S.par n (ZO L).1 with q |q
  ·exact .inl q
  exact .inr ⟨q,VX _ _ _ (.inl q)⟩
 refine codeAny_call_function hr.depth (KX _ _ lk) rfl S.co S.gen rfl (PySem.W.codeRec_of KX MG) (hb _ _ _ _ ?_);refine wpAny_newFunctionEnv_cells S.kind R λenv D z x=>?_;subst D;refine⟨j.keeps x.toInCall.keep,codeAny_func ?_⟩;obtain⟨t,F,hq⟩:=X A outer s H vs Q E (hr.deeper _) p;have I:Inv (o6 CX P w K mg base N qual scope f c A outer s H E) [] (start N vs) H z:=yS S hr.hd g M r x;refine v3 (F [] z (start N vs) H _ I hq) (λY l d=>?_) λe l d=>d
 have fin:∀ {a:St}{H':Hp}{v:V}{u:ay},Inv (o6 CX P w K mg base N qual scope f c A outer s H E) [] a H' l->RelV v u->Q v H'->CE outer P w H s Q u l:=
  λ{a H' v u} J i q=>⟨v,H',J.os,J.bare,J.base,J.HZ,i,q⟩
 cases Y with
 |ret u =>
  obtain⟨v,a,H',J,i,q⟩:=d;exact fin J i q
 |next =>
  obtain⟨a,H',J,q⟩:=d;exact fin (v:=V.Ic) (u:=Jy) J rfl q
 |brk =>
  obtain⟨_,_,_,q⟩:=d;exact C3 q
 |cont =>
  obtain⟨_,_,_,q⟩:=d;exact C3 q
section
variable {X:Cx}{x:ej}{p pos:N5}{e:gj}{es:ae gj}{t:TA}{id T:NA}{r:ae V->Hp->VK->Prop}
noncomputable def RT (r:ae V->Hp->VK->Prop)(t:TA):TE:=λa H Q=>t a H λb c=>r b c Q
theorem gW (hc:dS X (.builtin id) r)(q:Gl X x)(d:X.mg x=av)(c:lC x=aa (.builtin id))(ha:PA X (e::es) t)(v:x≠"__name__":=by decide)(n:(x==("__debug__":ej))=bo:=by decide)
  (j:dm (e::es) X.env=(bo,lX e X.env)::dm es X.env:=by rfl) (u:(mf pos (dm es X.env)).any (·.1)=bo:=by rfl):PE X (.Call (.Name x p) (e::es) [] pos) (RT r t):=by
 intro a s b H Q I h;refine J4 (lH I q d c ?_ v n);exact PyProof.Rows.callWith_builtin1 (HU (ha pos a s b H _ I h) λf l ⟨o,m,i,g,k⟩=>hc a l b m o f Q i g k) j u
theorem fB (hc:dS X (.type T) r)(q:Gl X x)(d:X.mg x=av)(c:lC x=aa (.type T))(ha:PA X (e::es) t)(v:x≠"__name__":=by decide)(n:(x==("__debug__":ej))=bo:=by decide)
  (j:dm (e::es) X.env=(bo,lX e X.env)::dm es X.env:=by rfl) (u:(mf pos (dm es X.env)).any (·.1)=bo:=by rfl):PE X (.Call (.Name x p) (e::es) [] pos) (RT r t):=by
 intro a s b H Q I h;refine J4 (lH I q d c ?_ v n);exact RA (HU (ha pos a s b H _ I h) λf l ⟨o,m,i,g,k⟩=>hc a l b m o f Q i g k) j u
end
section
variable {κ:Type} [s8 κ]
noncomputable def kn (kvs:ae (κ×V))(k : κ):ax V:=(kvs.find? λa=>dr (a.1=k)).map (·.2)
noncomputable def putK (kvs:ae (κ×V))(k : κ)(v:V):ae (κ×V):=
 if (kvs.any λa=>dr (a.1=k))=a6 then kvs.map (λa=>if a.1=k then (a.1,v) else a) else kvs++[(k,v)]
theorem nH {p : κ×V}{r:ae (κ×V)}{k : κ}(e:p.1=k):kn (p::r) k=aa p.2:=by simp[kn,o3,e]
theorem nI {p : κ×V}{r:ae (κ×V)}{k : κ}(e:¬ p.1=k):kn (p::r) k=kn r k:=by simp[kn,o3,e]
theorem tm (k : κ):∀ kvs:ae (κ×V),(kvs.any λa=>dr (a.1=k))=(kn kvs k).isSome
 |[]=>rfl
 |p::r=>by
  rw[J7];by_cases e:p.1=k
  ·simp only[nH e,e4 e,Bool.true_or,YC]
  rw[nI e,cX e,aab];exact tm k r
theorem mF (kvs:ae (κ×V))(k : κ)(v:V):(putK kvs k v).length<=kvs.length+1:=by
 unfold putK;split
 ·rw[dV];omega
 rw[cq,hD,QM];omega
theorem Js.IG {o:ax V}{u:ax ay}(r:Js o u):o.isSome=u.isSome:=by
 cases o with
 |none=>cases u with
  |none=>rfl
  |some _=>exact(show False from r).elim
 |some _=>cases u with
  |none=>exact(show False from r).elim
  |some _=>rfl
theorem KV.val {kvs:ae (κ×V)}{vs:ae (κ×ay)}(r:KV kvs vs)(k : κ):Js (kn kvs k) (Yd vs k):=by
 unfold KV at r
 induction r with
 |nil=>exact JK
 | @cons p q i c h t f =>
  obtain⟨d,g⟩:=h;by_cases e:p.1=k
  ·have a:q.1=k:=d.symm.trans e;have b:Yd (q::c) k=aa q.2:=by simp[Yd,o3,a]
   rw[nH e,b];exact g
  have a:¬ q.1=k:=λz=>e (d.trans z);have b:Yd (q::c) k=Yd c k:=by simp[Yd,o3,a]
  rw[nI e,b];exact f
theorem KV.any {kvs:ae (κ×V)}{vs:ae (κ×ay)}(r:KV kvs vs)(k : κ):(kvs.any λa=>dr (a.1=k))=vs.any λa=>dr (a.1=k):=by
 unfold KV at r
 induction r with
 |nil=>rfl
 |cons h t b=>rw[J7,J7,b,h.1]
theorem KV.Pk {kvs:ae (κ×V)}{vs:ae (κ×ay)}(r:KV kvs vs)(k : κ){y:V}{u:ay}(d:RelV y u) :
  KV (kvs.map λa=>if a.1=k then (a.1,y) else a) (vs.map λa=>if a.1=k then (a.1,u) else a):=by
 unfold KV at r ⊢
 induction r with
 |nil=>exact .nil
 | @cons p q g i h t c =>
  rw[hA,hA];refine .cons ?_ c;obtain⟨b,f⟩:=h;by_cases e:p.1=k
  ·rw[dw e,dw (b.symm.trans e)];exact⟨b,d⟩
  rw[ee e,ee (λz=>e (b.trans z))];exact⟨b,f⟩
theorem KV.put {kvs:ae (κ×V)}{vs:ae (κ×ay)}(r:KV kvs vs)(k : κ){y:V}{u:ay}(a:RelV y u):KV (putK kvs k y) (stored vs k u):=by
 unfold putK stored;rw[r.any k];by_cases e:(vs.any λb=>dr (b.1=k))=a6
 ·rw[dw e,dw e];exact r.Pk k a
 rw[ee e,ee e];exact aaq r ⟨rfl,a⟩
theorem KV.length {kvs:ae (κ×V)}{vs:ae (κ×ay)}(r:KV kvs vs):kvs.length=vs.length:=Q7 r
end
theorem qN {P:ew}{w:hB}{k:Key}{u:ay}(r:RelV (kV k) u):(bF P w).is k u=a6:=by
 cases k with
 |inl i=>obtain⟨t,e⟩:=(show ∃ t,u=Vl i t from r);subst e;exact uk P w i t
 |inr x=>obtain⟨t,e⟩:=(show ∃ t,u=X1 x t from r);subst e;exact uj P w x t
theorem qO {P:ew}{w:hB}:∀ {a:ae Key}{us:ae ay},Vals (a.map kV) us->ItemsAre (bF P w) a us
 |[],_,r=>by rw[RE] at r;cases r;exact .nil
 |k::a,_,r=>by
  rw[hA] at r;cases r with
  |cons h t=>exact .cons (qN h) (qO t)
abbrev KT (H:Hp):ae (ae Key×V)->ae (ae Key×b0×ay)->Prop:=i4 λp q=>p.1=q.1/\H q.2.1=aa (.tup (p.1.map kV))/\RelV p.2 q.2.2
theorem KT.val {H:Hp}{kvs:ae (ae Key×V)}{xs:ae (ae Key×b0×ay)}(r:KT H kvs xs)(k:ae Key):Js (kn kvs k) ((Vn xs k).map (·.2)):=by
 induction r with
 |nil=>exact JK
 | @cons p q i c h t f =>
  obtain⟨d,_,g⟩:=h;by_cases e:p.1=k
  ·have a:q.1=k:=d.symm.trans e;have b:Vn (q::c) k=aa q.2:=by simp[Vn,o3,a]
   rw[nH e,b];exact g
  have a:¬ q.1=k:=λz=>e (d.trans z);have b:Vn (q::c) k=Vn c k:=by simp[Vn,o3,a]
  rw[nI e,b];exact f
theorem KT.Pk {H:Hp}{kvs:ae (ae Key×V)}{xs:ae (ae Key×b0×ay)}(r:KT H kvs xs)(k:ae Key){y:V}{u:ay}(g:RelV y u) :
  KT H (kvs.map λb=>if b.1=k then (b.1,y) else b) (xs.map (putAt k u)):=by
 induction r with
 |nil=>exact .nil
 | @cons p q i j h t d =>
  rw[hA,hA];refine .cons ?_ d;obtain⟨a,c,f⟩:=h;unfold putAt;by_cases e:p.1=k
  ·rw[dw e,dw (a.symm.trans e)];exact⟨a,c,g⟩
  rw[ee e,ee (λz=>e (a.trans z))];exact⟨a,c,f⟩
theorem KT.put {H:Hp}{kvs:ae (ae Key×V)}{xs:ae (ae Key×b0×ay)}(r:KT H kvs xs)(k:ae Key){b:b0}{y:V}{u:ay}(hb:H b=aa (.tup (k.map kV)))(a:RelV y u) :
  KT H (putK kvs k y) (storedH xs k b u):=by
 have e:(kvs.any λc=>dr (c.1=k))=(Vn xs k).isSome:=by rw[tm,(r.val k).IG,Sl]
 unfold putK storedH;rw[e];by_cases q:(Vn xs k).isSome=a6
 ·rw[dw q,dw q];exact r.Pk k a
 rw[ee q,ee q];exact aaq r ⟨rfl,hb,a⟩
theorem KT.keeps {H H':Hp}{kvs:ae (ae Key×V)}{xs:ae (ae Key×b0×ay)}(r:KT H kvs xs)(c:∀ b a,H b=aa (.tup a)->H' b=aa (.tup a)):KT H' kvs xs:=
 Paired.Lx r λ_ _ z=>⟨z.1,c _ _ z.2.1,z.2.2⟩
section
variable {P:ew}{w:hB}{H:Hp}{h:j0}{a:b0}
theorem CO {u:HO}(ok:JX P w H h)(e:Rd H a u):Ig P w H h a u:=e.ok ok
theorem uM {kvs:ae (Key×V)}(ok:JX P w H h)(e:Rd H a (.dK kvs)):kvs.length<=dk/\(a==MV)=bo/\∃ vs,KV kvs vs/\h.DictOf (bF P w) a vs:=
 show Ig P w H h a (.dK kvs) from CO ok e
theorem FA {kvs:ae (Key×V)}(ok:JX P w H h)(e:H a=aa (.dK kvs)):kvs.length<=dk/\(a==MV)=bo/\∃ vs,KV kvs vs/\h.DictOf (bF P w) a vs:=uM ok (.inl e)
theorem oN {b:ae Key}(ok:JX P w H h)(e:H a=aa (.tup (b.map kV))):(X2 (bF P w)).is h b a:=by obtain⟨_,its,r,p⟩:=(show Ig P w H h a (.tup (b.map kV)) from ok a _ e);obtain⟨o,f,d,n,c⟩:=p.tup;exact⟨o,its.toArray,n,f,d,c,by simpa using qO r⟩
theorem uL {kvs:ae (ae Key×V)}(ok:JX P w H h)(e:Rd H a (.dT kvs)):kvs.length<=dk/\(a==MV)=bo /\
  ∃ xs,KT H kvs xs/\h.DictOfH (X2 (bF P w)) a xs:=by
 obtain⟨z,y,xs,r,o,es,ep,f,j,i,d,g⟩:=(show Ig P w H h a (.dT kvs) from CO ok e);refine⟨z,y,xs,r,o,es,ep,f,j,i,d,λx hx=>?_,g⟩
 have all:∀ {l:ae (ae Key×V)}{m:ae (ae Key×b0×ay)},KT H l m->∀ x∈m,(X2 (bF P w)).is h x.1 x.2.1:=by
  intro l m q
  induction q with
  |nil=>intro x hx;exact nomatch hx
  | @cons p q k n b t c =>
   intro x hx;rcases gi.mp hx with e |hx
   ·subst e;exact oN ok (by rw[← b.1];exact b.2.1)
   exact c x hx
 exact all r x hx
theorem Fz {kvs:ae (ae Key×V)}(ok:JX P w H h)(e:H a=aa (.dT kvs)):kvs.length<=dk/\(a==MV)=bo /\
  ∃ xs,KT H kvs xs/\h.DictOfH (X2 (bF P w)) a xs:=uL ok (.inl e)
end
def Kx (H:Hp)(a:b0)(y:V)(r:ax V):Prop:=
 (∃ c k,Rd H a (.dK c)/\y=kV k/\r=kn c k)∨∃ c k b,Rd H a (.dT c)/\y = .ref b/\H b=aa (.tup (k.map kV))/\r=kn c k
def Nw (H:Hp)(a:b0)(y v:V)(H':Hp):Prop:=
 (∃ c k,H a=aa (.dK c)/\y=kV k/\c.length<dk/\H'=upd H a (.dK (putK c k v))) ∨
 ∃ c k b,H a=aa (.dT c)/\y = .ref b/\H b=aa (.tup (k.map kV))/\c.length<dk/\H'=upd H a (.dT (putK c k v))
theorem Kx.k {H:Hp}{a:b0}{kvs:ae (Key×V)}{k:Key}(e:H a=aa (.dK kvs)):Kx H a (kV k) (kn kvs k):=.inl ⟨kvs,k,.inl e,rfl,rfl⟩
theorem Nw.k {H:Hp}{a:b0}{kvs:ae (Key×V)}{k:Key}{v:V}(e:H a=aa (.dK kvs))(b:kvs.length<dk):Nw H a (kV k) v (upd H a (.dK (putK kvs k v))):=.inl ⟨kvs,k,e,rfl,b,rfl⟩
section
variable {X:Cx}{pins:Hr}{σ:St}{H:Hp}{s:cc}{a:b0}{y v:V}{u r:ay}{o:ax V}{A:hG}{E:Hq}
theorem Inv.big (I:#[10]):MV<s.heap.objs.size:=by have h:ly<s.heap.objs.size:=(I.mod.glob.keeps I.bk).lt;exact PN #[1] h
theorem y3 {Q:Hq}(B:A.units+1<n0)(I:#[10])(g:Kx H a y (aa v))(n:RelV y u)(h:∀ c s',Inv X pins σ H s'->RelV v c->Q c s') :
  d6 #[9] A (OT (.ref a) u) Q E s:=by
 rcases g with ⟨m,k,e,i,l⟩ |⟨m,k,b,e,i,r,l⟩
 ·subst i;obtain⟨z,hd,x,rel,f⟩:=uM I.HZ e;obtain⟨c,j,d⟩:=Js.some_of (v:=v) (o:=Yd x k) (by rw[l];exact rel.val k);exact wpAny_getItem_of (qN n) f.mapOf j (h c _ (I.tok _) d)
 subst i;cases (show u=h6 b from n);obtain⟨z,hd,t,rel,f⟩:=uL I.HZ e;obtain⟨c,j,d⟩:=Js.some_of (v:=v) (o:=(Vn t k).map (·.2)) (by rw[l];exact rel.val k);obtain⟨p,q,C⟩:=dv.mp j;refine YD (Px B) (oN I.HZ r) f q ?_;rw[C];exact h c _ (I.tok _) d
theorem GI {Q:Hq}(m:A.units+1<n0)(I:#[10])(g:Kx H a y o)(i:RelV y u)(h:∀ s',Inv X pins σ H s'->Q (.bool o.isSome) s') :
  d6 #[9] A (lg .In u (.ref a)) Q E s:=by
 rcases g with ⟨f,k,e,d,l⟩ |⟨f,k,b,e,d,j,l⟩
 ·subst d;obtain⟨z,hd,p,rel,c⟩:=uM I.HZ e;refine wpAny_in_of (qN i) hd c.mapOf ?_;rw[← (rel.val k).IG,← l];exact h _ (I.tok _)
 subst d;cases (show u=h6 b from i);obtain⟨z,hd,n,rel,c⟩:=uL I.HZ e;refine wpAny_in_heap (Px m) (oN I.HZ j) hd c ?_;have q:=(rel.val k).IG;rw[Sl] at q;rw[← q,← l];exact h _ (I.tok _)
theorem Cn {Q:Hq}(m:A.units+1<n0)(I:#[10])(g:Kx H a y o)(i:RelV y u)(h:∀ s',Inv X pins σ H s'->Q (.bool (!o.isSome)) s') :
  d6 #[9] A (lg .NotIn u (.ref a)) Q E s:=by
 rcases g with ⟨f,k,e,d,l⟩ |⟨f,k,b,e,d,j,l⟩
 ·subst d;obtain⟨z,hd,p,rel,c⟩:=uM I.HZ e;refine wpAny_notIn_of (qN i) hd c.mapOf ?_;rw[← (rel.val k).IG,← l];exact h _ (I.tok _)
 subst d;cases (show u=h6 b from i);obtain⟨z,hd,n,rel,c⟩:=uL I.HZ e;refine wpAny_notIn_heap (Px m) (oN I.HZ j) hd c ?_;have q:=(rel.val k).IG;rw[Sl] at q;rw[← q,← l];exact h _ (I.tok _)
theorem sH {h':j0}{t':Nat}{c:HO}(I:#[10])(f:Qs (H a))(g:Me a s.heap h')(d:∃ q,h'.get? a=aa q)(new:Ig X.prog X.w (upd H a c) h' a c) :
  Inv X pins σ (upd H a c) { s with heap:=h',toks:=t' }:=
 I.write (x:=a) (e:=a) f (.inl rfl) (λb q hb z=>(g.2 b hb).trans z) d new
theorem Ef {P:ew}{w:hB}{H':Hp}{h':j0}{kvs:ae (Key×V)}{vs:ae (Key×ay)}(z:kvs.length<=dk)(hd:(a==MV)=bo)(rel:KV kvs vs)(b:h'.DictOf (bF P w) a vs) :
  Ig P w H' h' a (.dK kvs):=⟨z,hd,vs,rel,b⟩
theorem y1 {H':Hp}{Q:Unit->cc->Prop}(O:A.units+1<n0)(I:#[10])(g:Nw H a y v H')(D:RelV y u)(x:RelV v r)(h:∀ s',Inv X pins σ H' s'->Q () s') :
  d6 #[9] A (setItem (.ref a) u r) Q E s:=by
 rcases g with ⟨d,k,e,p,l,o⟩ |⟨d,k,b,e,p,C,l,o⟩
 ·subst p o;obtain⟨z,hd,N,rel,n⟩:=FA I.HZ e;have j:N.length<=dk:=by rw[← rel.length];exact z
  have t:(putK d k v).length<=dk:=by have:=mF d k v;omega
  refine wpAny_setItem_pairs (hsz:=j) (qN D) n λB i m=>h _ ?_;have K:∃ q,B.get? a=aa q:=let ⟨q,_,_,f,_⟩:=i;⟨q,f⟩;exact sH I (by rw[e];exact JK) m K (Ef t hd (rel.put k x) i)
 subst p o;cases (show u=h6 b from D);obtain⟨z,hd,G,rel,n⟩:=Fz I.HZ e;have j:G.length<=dk:=by rw[← Q7 rel];exact z
 have t:(putK d k v).length<=dk:=by have:=mF d k v;omega
 refine YE (hsz:=j) (Px O) (oN I.HZ C) n λB i m=>h _ ?_;obtain⟨q,es,ep,f,P,M,J,_,L⟩:=i;refine sH I (by rw[e];exact JK) m ⟨q,f⟩ ⟨t,hd,_,(rel.put k C x).keeps λc R F=>?_,q,es,ep,f,P,M,J,L⟩;rw[aG (Fd F e (λz=>nomatch z))];exact F
end
def zc (i:gj):Prop:=∀ a b,Ua i bo a b=operate [a,b] (OT a b)
theorem w5 {prog:ew}{w:hB}{A:hG}{E:Hq}{s:cc}{env:Yy}{value slice:gj}{pos:N5}{T id:NA}{Q:Hq}
  (k:typeLookup (.type T) "__getitem__"=u1 (aa (.builtin id))) (j:zc slice)
  (h:d6 #[8] A (lX value env) (λo c=>d6 #[8] A (lX slice env) (λi a=>a.TypeIs o T/\d6 #[8] A (OT o i) Q E a) E c) E s) :
  d6 #[8] A (lX (.Subscript value slice pos) env) Q E s:=by
 refine YF (v3 h (λo c e=>v3 e (λi a b=>?_) λ_ _ x=>x) λ_ _ x=>x);obtain⟨g,b⟩:=b;unfold UB;refine ak ?_;rw[getitemInPython_of_ne g.not_modules];refine ak (O8 g k ?_);have fin:d6 #[8] A (Ua slice bo o i) (λr d=>d6 #[8] A (letTemporaryGo value o r >>= λ_=>u1 r) Q E d) E a:=by rw[j o i];exact wpAny_operating (v3 b (λr d f=>ak (wpAny_letTemporaryGo (a5 f))) λ_ _ x=>x)
 first
  |exact a5 (ak fin)
  |exact ak (a5 (ak fin))
  |exact ak fin
theorem uN {X:Cx}{c:Hr}{h:St}{H:Hp}{s:cc}{a:b0}{y:V}{o:ax V}(I:Inv X c h H s)(g:Kx H a y o):s.TypeIs (.ref a) "dict":=by
 rcases g with ⟨d,k,e,_,_⟩ |⟨d,k,b,e,_,_,_⟩
 ·obtain⟨_,_,j,_,f⟩:=uM I.HZ e;exact f.typeIs
 obtain⟨_,_,i,_,f⟩:=uL I.HZ e;exact f.typeIs
noncomputable def ES (d ty:TE):TE:=λc H Q=>d c H λx e=>ty c e λy b => ∃ a v,x = .ref a/\Kx b a y (aa v)/\Q v b
noncomputable def ER (ty d:TE):TE:=λc H Q=>ty c H λy e=>d c e λx b => ∃ a o,x = .ref a/\Kx b a y o/\Q (.bl o.isSome) b
noncomputable def w4 (ty d:TE):TE:=λc H Q=>ty c H λy e=>d c e λx b => ∃ a o,x = .ref a/\Kx b a y o/\Q (.bl (!o.isSome)) b
noncomputable def EW (d ty tv:TE):TS:=λD b H=>tv b H λv g=>d b g λx e=>ty b e λy f => ∃ a c,x = .ref a/\Nw f a y v c/\D.nx b c
section
variable {X:Cx}{o i e value:gj}{pos pos' QC:N5}{td ty tv:TE}
theorem BO (t:X.A.units+1<n0)(m:PE X o td)(hi:PE X i ty)(p:zc i):PE X (.Subscript o i pos) (ES td ty):=by intro b s c H Q I h;refine w5 Tx.lookup p (HU (m b s c H _ I h) λu n ⟨x,q,j,z,l⟩=>HU (hi b n c q _ j l) λE G f=>?_);obtain⟨y,e,d,w,a,v,ex,g,B⟩:=f;subst ex;obtain rfl:u=h6 a:=z;exact⟨uN d g,y3 t d g w λD C r k=>⟨v,e,r,k,B⟩⟩
theorem zZ (r:X.A.units+1<n0)(hi:PE X i ty)(k:PE X o td):PC X .In i o (ER ty td):=by intro b s c H Q I h;refine HU (hi b s c H _ I h) λB l ⟨y,m,f,t,j⟩=>HU (k b l c m _ f j) λu C e=>?_;obtain⟨x,d,q,v,a,p,ex,g,w⟩:=e;subst ex;obtain rfl:u=h6 a:=v;exact GI r q g t λz n=>⟨.bl p.isSome,d,n,rfl,w⟩
theorem yw (r:X.A.units+1<n0)(hi:PE X i ty)(k:PE X o td):PC X .NotIn i o (w4 ty td):=by intro b s c H Q I h;refine HU (hi b s c H _ I h) λB l ⟨y,m,f,t,j⟩=>HU (k b l c m _ f j) λu C e=>?_;obtain⟨x,d,q,v,a,p,ex,g,w⟩:=e;subst ex;obtain rfl:u=h6 a:=v;exact Cn r q g t λz n=>⟨.bl (!p.isSome),d,n,rfl,w⟩
theorem BE (C:X.A.units+1<n0)(m:PE X o td)(hi:PE X i ty)(f:PE X value tv)(p:N_ value (aa (.Subscript o i pos')) pos.line X.env=u1 bo) :
  PS X (.Assign [.Subscript o i pos'] value pos) (EW td ty tv):=by
 intro b s c H D I h;refine VZ (HU (f b s c H _ I h) λr n ⟨v,q,k,j,l⟩=>HU (m b n c q _ k l) λu G ⟨x,d,z,J,K⟩=>HU (hi b G c d _ z K) λM L e=>?_) p;obtain⟨y,N,w,E,a,B,ex,g,t⟩:=e;subst ex;obtain rfl:u=h6 a:=J;exact y1 C w g E j λO F=>⟨c,B,F,t⟩
end
theorem AN {P:ew}{w:hB}{H:Hp}(h:j0)(hb:MV<h.objs.size):Ig P w H (h.push { cls:=.type "dict",data:=.dict #[] }) h.objs.size (.dK []):=
 ⟨Pl _,kv.mpr (vu (md hb)),[],.nil,Heap.DictOf.new h⟩
noncomputable def Db:TE:=λ_ H Q => ∀ p,H p=av->Q (.ref p) (upd H p (.dK []))
section
variable {X:Cx}{pos:N5}
theorem Nx:PE X (.Dict [] [] pos) Db:=λb s c H Q I h =>
 wpAny_Dict_empty ⟨#[11],_,I.laid (a:=s.heap.objs.size) (o:=.dK []) (t':=s.toks) (λ_ _ q=>cv _ q) (eG _) (AN s.heap I.big),rfl,h _ (I.HZ.fresh (eG _))⟩
end
structure M1 (X:Cx) (o:gj) (m:ej) (apos:N5) (e:gj) (HY:N5):Prop where
 base:ro o m X.env (lX o X.env)=lX o X.env
 VO:((mf HY (dm [e] X.env)).all (λx => !x.1)&&(O0 HY (Jf [] X.env)).all (λx=>x.1.isSome)
  && dr (([e]:ae gj).length+([]:ae Ow).length+(if ([]:ae Ow).isEmpty then 0 else 1)<30))=a6
 line:(apos.endLine==HY.line)=a6
 trees:mf HY (dm [e] X.env)=[(bo,lX e X.env)]
structure M2 (X:Cx) (o:gj) (m:ej) (apos:N5) (e f:gj) (HY:N5):Prop where
 base:ro o m X.env (lX o X.env)=lX o X.env
 VO:((mf HY (dm [e,f] X.env)).all (λx => !x.1)&&(O0 HY (Jf [] X.env)).all (λx=>x.1.isSome)
  && dr (([e,f]:ae gj).length+([]:ae Ow).length+(if ([]:ae Ow).isEmpty then 0 else 1)<30))=a6
 line:(apos.endLine==HY.line)=a6
 trees:mf HY (dm [e,f] X.env)=[(bo,lX e X.env),(bo,lX f X.env)]
end L2
namespace Att
open PySem PySem.W PySem.Calls PyProof.Rows
theorem mV {P:Params}{h:j0}:∀ (ns:ae Int) (vs:ae ay),WellAll P h vs (ns.map WData.int)->Pm vs ns:=by
 intro ns
 induction ns with
 |nil =>
  intro vs w;rw[RE] at w;cases w;exact .nil
 |cons n ns c =>
  intro vs w;rw[hA] at w;cases w with
  |cons a b =>
   cases a;exact .cons _ _ (c _ b)
theorem yg {l:Rh}{n:Nat}(v:l.most=aa n){P:Params}{h:j0}{args:ae WData}{vals:ae ay}
  (f:l.row.toRowW.claim.pre args=a6) (g:WellAll P h vals args) :
  ∃ a vs ns,vals=[h6 a]/\args=[WData.list (ns.map WData.int)]/\h.get? a=aa { cls:=.type "list",data:=.seq vs.toArray }/\Pm vs ns/\ns.length<=n:=by
 have m:WShape.hasAll [] args [.list .int]=a6:=(pre_splitW f).1;have hc:l.pre.holds [] { args:=args }=a6:=(pre_splitW f).2;obtain⟨d,r,rfl,j,t⟩:=hasAllW_cons m;obtain rfl:=hasAllW_nil t;obtain⟨w,rfl,p⟩:=hasW_list j;obtain⟨ns,rfl⟩:=items_int p
 have b:ns.length<=n:=by
  unfold OpenLaw.pre at hc;have c:(WTm.not (.lt (.lit (.int (n:Int))) (.len (.arg 0)))).holds [] { args:=[.list (ns.map .int)] }=a6:=by have c:=(holds_andW hc).1;rw[v] at c;exact c
  have e:=condW_of c (w_not (w_lt w_lit (w_len_list (w_arg rfl))));rw[dV] at e;refine Nat.le_of_not_lt λq=>?_;have u:(n:Int)<((ns.length:Nat):Int):=#[2]
  first
   |(rw[e4 u] at e;exact hK e #[1])
   |(simp at e;omega)
 cases g with
 |cons s k =>
  cases k;cases s with
  |list o i=>exact⟨_,_,ns,rfl,rfl,o,mV ns _ i,b⟩
theorem yt (l:Rh)(args:ae WData):l.row.toRowW.claim.post args (.bool a6) args=a6:=
 postW_of (r:=l.row.toRowW) (X:=(a6==a6))
  (show WShape.has [] (.bool a6) .bool=a6 by first |rfl |decide |simp[WShape.has,WShape.arms,WShape.armsAll])
  (show (WTm.eq .res (.lit (.bool a6))).value [] { args:=args,res:=aa (.bool a6),after:=args }=aa (.bool (a6==a6)) from w_eq_bool (w_res rfl) w_lit) rfl
theorem LX {l:Rh}{n:Nat}{q:ew}{loose:ae ej}{k:(Hs)->j0->Prop}{j:hB->j0->Prop}{d:DefRec}
  (H:l.most=aa n) (C:d.params.defaults=[])
  (call:∀ (w:hB) (s₀ b:cc) (mg i:Hs) (g:b0) (o:VJ) (h cd doc:ay) (a:b0) (vs:ae ay) (ns:ae Int),
   Ground q loose [] k w s₀ mg i b.heap->j w b.heap ->
   b.heap.get? g=aa o->o.data = .func (docDef d.name d.params d.body d.scope h cd doc)->b.heap.CodeRec cd d.name->mg d.name=aa (.ref g) ->
   b.heap.get? a=aa { cls:=.type "list",data:=.seq vs.toArray }->Pm vs ns->ns.length<=n->b.gens = #[] ->
   PM (eJ l.prog w) Ub (.call (.ref g) ⟨[.ref a],[]⟩) (λr s'=>r = .ok (.ret (.bool a6))/\OldK b.heap s'.heap/\s'.os=b.os/\TU s'.gens) b) :
  ZG q loose k j l.row.toRowW d [] (λf vs=>ZP f vs):=by
 intro w s₀ b mg i G Y g o h cd doc u kV A hd v m E D args vals I t K L p J;obtain rfl:u = .none:=Dflts.none m C;obtain rfl:kV = .none:=Dflts.noKw m;obtain⟨a,vs,ns,rfl,rfl,s,c,e⟩:=yg H t p;refine enter_call (VW (call w s₀ b mg i g o h cd doc a vs ns G Y A (fd_plain hd) v E s c e D) λr s' x=>?_);obtain⟨rfl,F,B,z⟩:=x;exact⟨.inl ⟨.bool a6,.bool a6,[],rfl,λ_=>rfl,.bool a6,yt l _,λ_=>⟨PQ,λ_ y=>(nomatch y)⟩⟩,F,B,z⟩
end Att
namespace L2
open PySem PySem.Spec PyProof.Rows
theorem k_:∀ {vs:ae ay}{ns:ae Int},Pm vs ns->Vals (ns.map V.int) vs
 |_,_,.nil => .nil
 |_,_,.cons n t h => .cons ⟨t,rfl⟩ (k_ h)
def EA (H:Hp):Prop:=∀ b,H b=av∨∃ o a,H b=aa (.ME o (.lst a))
theorem As {P:ew}{w:hB}{K:Ho}{mg i:Hs}{CX:Nh}{k:Nat}{l a:b0}{fd:wa}{x:ej}{sp:Sp}{c:cc}{vs:ae ay}{ns:ae Int}
  (KX:K.In c.heap) (E:c.heap.Ns ly mg) (hb:c.heap.Ns R6 i) (VR:∀ x:ej,x≠"__name__"->i x=lC x) (SM:c.heap.NoLimit) (S:c.gens = #[])
  (ha:c.heap.get? a=aa { cls:=.type "list",data:=.seq vs.toArray }) (hi:Pm vs ns) (p:ns.length<=dk) (hr:Ib k Ub)
  (F:∀ base:j0,K.In base->base.Ns ly mg->JP P w K mg base CX k l fd [x] sp) (R:∀ (s:cc) (u:ay),X_ s fd ⟨[u],[]⟩ [(x,u)])
  (O:∀ H:Hp,EA H->K9 K H a (ns.map V.int)->sp [.ref a] H (λv _=>v = .bl a6) λ_ _ _=>False)
  (J:∀ H e s',CX [] H c (λ_ _ _=>False) e s'->False) :
  PM (eJ P w) Ub (.call (.ref l) ⟨[.ref a],[]⟩) (λr s'=>r = .ok (.ret (.bool a6))/\OldK c.heap s'.heap/\s'.os=c.os/\TU s'.gens) c:=by
 have A:=k_ hi;have I:=hi.length
 have core:∀ H:Hp,EA H->K9 K H a (ns.map V.int)->JX P w H c.heap->(∀ b,H b≠av->b=a)->(H a≠av->K.lookup a=av) ->
   PM (eJ P w) Ub (.call (.ref l) ⟨[.ref a],[]⟩) (λr s'=>r = .ok (.ret (.bool a6))/\OldK c.heap s'.heap/\s'.os=c.os/\TU s'.gens) c:=by
  intro H y T HZ B G;have C:∀ {b:b0}{o:VJ},c.heap.get? b=aa o->H b=av->(sB c.heap H).get? b=aa o:=λe n=>AA e n
  have M:∀ {b:b0}{o:VJ}{es:h8 DictEntry}{ep:Nat},c.heap.get? b=aa o->o.data = .dict es ep->H b=av:=λ{b o es ep} e d=>by
   cases q:H b with
   |none=>rfl
   |some u =>
    have j:b=a:=B b (by rw[q];simp);subst j;rw[ha] at e;cases e;have d':Data.seq vs.toArray _=Data.dict es ep:=d;cases d'
  have g:∀ {b:b0}{m:Hs},c.heap.Ns b m->(sB c.heap H).Ns b m:=λ{b m} ⟨o,es,ep,e,d,r⟩=>⟨o,es,ep,C e (M e d),d,r⟩
  have D:K.In (sB c.heap H):=λb o e=>C (KX b o e) (by
   cases q:H b with
   |none=>rfl
   |some u =>
    have j:b=a:=B b (by rw[q];simp);subst j
    rw[G (by rw[q];simp)] at e;cases e)
  have Z:Mod K mg (sB c.heap H):=⟨D,g E,⟨i,g hb,VR⟩,let ⟨L,h1,U⟩:=SM;⟨L,g h1,U⟩⟩;have W:Mp P w K mg (sB c.heap H) Ub [] c H:=⟨rfl,Z,λb o e=>BU e,Nat.le_of_eq (yU _ _),m7,λb hb=>hK (show b∈([]:ae b0) from hb) #[3],HZ,.of_eq S⟩;refine VW ((F _ D (g E)).run Ub [] c H ⟨[.ref a],[]⟩ [.ref a] [.ref a] _ _ hr W (R c (.ref a)) (.cons rfl .nil) (O H y T)) λr s' h=>?_;cases r with
  |error e=>exact(J H e s' h).elim
  |ok N =>
   cases N with
   |next=>exact C3 h
   |brk=>exact C3 h
   |cont=>exact C3 h
   |ret u =>
    obtain⟨v,H',os,bare,un,Q,r',q⟩:=h;have Y:v = .bl a6:=q;subst Y;obtain rfl:u=QH a6:=r';refine⟨rfl,OldK.of_keep λb o e=>?_,os,bare⟩;cases q:H b with
    |none=>exact un.keep b o e q (by intro z;exact hK (show b∈([]:ae b0) from z) #[3]) #[3]
    |some u =>
     rcases y b with z |⟨X,xs,z⟩
     ·rw[q] at z;cases z
     have z2:=un.Lb b X _ z;obtain⟨t,_⟩:=HZ b _ z;obtain⟨e2,_⟩:=Q b _ z2;rw[e] at t;cases t;exact e2
 cases hk:K.lookup a with
 |some o =>
  have e:=KX a o hk;rw[ha] at e;cases e;refine core (λ_=>av) (λ_ => .inl rfl) (.inr ⟨_,vs.toArray,_,hk,rfl,rfl,rfl,by rw[eX,I];exact p,by simpa using A⟩) (λb u z=>by have f:(av:ax HO)=aa u:=z;cases f) (λb z=>hK rfl z) λz=>hK rfl z
 |none =>
  refine core (λb=>if b=a then aa (.ME { cls:=.type "list",data:=.seq vs.toArray } (.lst (ns.map V.int))) else av) (λb=>?_) (.inl (.inr ⟨{ cls:=.type "list",data:=.seq vs.toArray },dw rfl⟩)) (λb u z=>?_) (λb z=>?_) λ_=>hk
  ·by_cases hb:b=a
   ·exact .inr ⟨_,_,dw hb⟩
   exact .inl (ee hb)
  ·by_cases hb:b=a
   ·have f:=(dw hb).symm.trans z;cases f;subst hb;exact⟨ha,by rw[dV];exact p,vs,_,A,ha⟩
   have f:=(ee hb).symm.trans z;cases f
  by_cases hb:b=a
  ·exact hb
  exact hK (ee hb) z
theorem Oq {l:Rh}{n k:Nat}{q:ew}{loose:ae ej}{C:(Hs)->j0->Prop}{p:hB->j0->Prop}{d:DefRec}{K:Params->Ho}{CX:hB->Nh}{sp:hB->Sp}{x:ej}
  (M:l.most=aa n) (z:n<=dk) (E:d.params.defaults=[]) (hr:Ib k Ub)
  (D:∀ (w:hB) (h:j0),p w h->(K w.params).In h)
  (F:∀ (w:hB) (mg:Hs) (m:b0) (h:j0),(K w.params).In h->h.Ns ly mg->mg d.name=aa (.ref m) ->
   ∃ fd:wa,(∀ (s:cc) (u:ay),X_ s fd ⟨[u],[]⟩ [(x,u)]) /\
    ∀ base:j0,(K w.params).In base->base.Ns ly mg->JP l.prog w (K w.params) mg base (CX w) k m fd [x] (sp w))
  (B:∀ (w:hB) (H:Hp) (a:b0) (ns:ae Int),ns.length<=n->EA H->K9 (K w.params) H a (ns.map V.int)->sp w [.ref a] H (λv _=>v = .bl a6) λ_ _ _=>False)
  (r:∀ (w:hB) (H:Hp) (s:cc) (e:ay) (s':cc),CX w [] H s (λ_ _ _=>False) e s'->False) :
  ZG q loose C p l.row.toRowW d [] (λf vs=>ZP f vs):=by
 refine Att.LX M E λw s₀ j mg Q m o P cd doc a vs ns G Y O hd N L t i c I=>?_;have KX:=D w _ Y;obtain⟨fd,hb,A⟩:=F w mg m _ KX G.T.g L;exact As KX G.T.g G.T.b G.T.builtins G.T.nolimit I t i (fk c z) hr A hb (λH y J=>B w H a ns c y J) λH e s'=>r w H j e s'
noncomputable def eE (s:mq):QK:=match s with
 | .FunctionDef _ a _ _ _ _ _ _ _ _=>a
 |_ => { posonlyargs:=[],args:=[],vararg:=av,kwonlyargs:=[],kw_defaults:=[],kwarg:=av,defaults:=[] }
noncomputable def bZ (s:mq):ae mq:=match s with
 | .FunctionDef _ _ b _ _ _ _ _ _ _=>b
 |_=>[]
noncomputable def aB (s:mq):i0:=match s with
 | .FunctionDef _ _ _ _ _ _ sc _ _ _=>sc
 |_ => { kind:=.function,names:=[],isGenerator:=bo,isCoroutine:=bo }
abbrev Ni:Nh:=λ_ _ _ _ _ _=>False
abbrev E0:XK:=λ_ _ _=>False
theorem z4 {X:Cx}:Passes Ni X E0:=λ_ _ _ _ _ _ _ h=>h.elim
structure Nj (K:Ho) (x qual:ej) (st:mq) (f:b0) (fd:wa):Prop where
 ex:∃ (oc:ay) (od:ax b0) (kV doc pm:ay) (an:ax b0) (HR ct:ay) (Nv:h8 (ax ay)),
  fd=wb x qual (eE st) (bZ st) (aB st) .none kV doc pm an HR ct/\K.lookup f=aa ⟨oc,od,.func fd,Nv⟩/\Si K HR qual=a6
 kp:yk K (.ref f)=a6
section
variable {P:ew}{w:hB}{K:Ho}{mg:Hs}{base:j0}
theorem Nj.binds {x qual:ej}{st:mq}{f:b0}{fd:wa}{b:ae ej}(F:Nj K x qual st f fd)
  (h:∀ (kV doc c:ay) (a:ax b0) (d ct:ay) (us:ae ay),us.length=b.length->OI (wb x qual (eE st) (bZ st) (aB st) .none kV doc c a d ct) ⟨us,[]⟩=u1 (b.zip us)):Binds K fd b []:=by
 obtain⟨j,k,kV,doc,c,a,d,ct,i,rfl,g,e⟩:=F.ex;exact .all (h kV doc c a d ct)
theorem D8 {x qual:ej}{st:mq}{f:b0}{g:ay}{h b:ax b0}{e:h8 (ax ay)}{kV doc d a ct:ay}(l:K.lookup f=aa ⟨g,h,.func (wb x qual (eE st) (bZ st) (aB st) .none kV doc d b a ct),e⟩)
  (c:Si K a qual=a6) (k:yk K (.ref f)=a6):Nj K x qual st f (wb x qual (eE st) (bZ st) (aB st) .none kV doc d b a ct):=⟨⟨g,h,kV,doc,d,b,a,ct,e,rfl,l,c⟩,k⟩
end
theorem bc {A:hG}{k:Nat}(hr:Ib k A):A.units+1<n0:=Sm (Nat.add_le_add_left (#[4] : 1<=64) _) hr.units
section
variable {X:Cx}
theorem pv (i:Nat){x:ej}{pos:N5}(b:X.N[i]?=aa x:=by rfl)(a:RI X.env.scope x:=by first |exact Zd rfl |exact Xg (Zd rfl) |exact Xg (Xg rfl))(hd:(x==("__debug__":ej))=bo:=by decide)
  (c:(x==("__classdict__":ej))=bo:=by decide):PE X (.Name x pos) (EI i):=zU b a hd c
end
def HJ (H H':Hp):Prop:=∀ b o,H b=aa o->H' b=aa o
theorem HJ.refl (H:Hp):HJ H H:=λ_ _ h=>h
theorem HJ.trans {H e d:Hp}(a:HJ H e)(b:HJ e d):HJ H d:=λc o h=>b c o (a c o h)
end L2
namespace HT
open PySem PyProof.Rows
section
variable {prog:ew}{w:hB}{A:hG}{E:Hq}{s:cc}
theorem Ot {t b:b0}{vs a:ae ay}{Q:Hq}(p:Xb s.heap t vs.toArray)(hb:Xb s.heap b a.toArray)(i:vs≠[])
  (o:a=[]->Q (.ref t) s) (q:a≠[]->Q (#[11]) { s with heap:=s.heap.push { cls:=.type "tuple",data:=.seq (vs++a).toArray } })
  (hsz:vs.length+a.length<=dk):d6 #[8] A (H4 .Add (.ref t) (.ref b)) Q E s:=by
 obtain⟨⟨cls,j,data,m⟩,g,hc,n,hd⟩:=id p;obtain⟨⟨r,l,data2,k⟩,f,c,n2,d⟩:=id hb;simp only at hc hd c d;subst hc hd c d;have e:vs.toArray++a.toArray=(vs++a).toArray:=by simp
 by_cases h:a=[]
 ·exact V0 ⟨_,g,rfl⟩ ⟨_,f,rfl⟩ Vo Yo PR Pz (O1 _ _)
   (tuple_addW1 t b vs.toArray a.toArray n n2 j l m k (by simpa using i) (by simp[h])) ⟨g,f,o h⟩
 refine V0 ⟨_,g,rfl⟩ ⟨_,f,rfl⟩ Vo Yo PR Pz (O1 _ _)
  (tuple_addW2 t b vs.toArray a.toArray n n2 j l m k (by simpa using i) (by simpa using h) (by rw[eX,eX];exact hsz)) ⟨g,f,?_⟩
 rw[e];exact q h
noncomputable def Ij (n d:Nat):ax Int->Nat
 |av=>d
 |aa v=>if v<0 then (v+(n:Int)).toNat else WG v.toNat n
theorem LY (n d:Nat):Ij n d av=d:=rfl
theorem MI (n d k:Nat):Ij n d (aa (k:Int))=WG k n:=by show (if (k:Int)<0 then ((k:Int)+(n:Int)).toNat else WG (k:Int).toNat n)=WG k n;rw[ee #[0],nq]
theorem Mq (n d:Nat)(hd:d<=n)(o:ax Int):Ij n d o<=n:=by
 cases o with
 |none=>exact hd
 |some v =>
  show (if v<0 then (v+(n:Int)).toNat else WG v.toNat n)<=n;by_cases a:v<0
  ·rw[dw a];omega
  rw[ee a];exact RF _ _
theorem xI (v:Int)(n d:Nat):(if v<0 then max (v+(n:Int)) 0 else WG v (n:Int))=((Ij n d (aa v):Nat):Int):=by
 show (if v<0 then max (v+(n:Int)) 0 else WG v (n:Int))=(((if v<0 then (v+(n:Int)).toNat else WG v.toNat n):Nat):Int);by_cases a:v<0
 ·simp only[dw a];omega
 simp only[ee a];omega
theorem wR (lo hi:ax Int)(n:Nat):LH lo hi 1 (n:Int)=(((Ij n 0 lo:Nat):Int),((Ij n n hi:Nat):Int)):=by
 have a:¬ ((1:Int)<0):=#[2]
 unfold LH;simp only[a,mz];refine Prod.ext ?_ ?_
 ·cases lo with
  |none=>rfl
  |some v=>exact xI v n 0
 cases hi with
 |none=>rfl
 |some v=>exact xI v n n
theorem vY (i j:Nat):mi (i:Int) (j:Int) 1=j-i:=by
 unfold mi;have a:(1:Int) > 0:=#[2]
 simp only[a,ox,Int.ediv_one];split<;>omega
theorem nV {v:ay}{o:ax Int}{Q:ax Int->cc->Prop}(p:UC v o)(h:Q o s):d6 #[8] A (Builtin.Slice.slicePartIndex v) Q E s:=by
 cases p with
 |none=>exact Sr h
 |int i t=>exact slicePart_int h
theorem IZ {e:b0}{c a:ay}{lo hi:ax Int}{n:Nat}{Q:Int×Int×Nat->cc->Prop}(f:s.heap.IsSliceOf e c a .none)(pl:UC c lo)(g:UC a hi)
  (h:Q (((Ij n 0 lo:Nat):Int),1,Ij n n hi-Ij n 0 lo) s):d6 #[8] A (J8 (.ref e) (u1 (n:Int))) Q E s:=by
 obtain⟨os,b,i,d⟩:=id f;unfold J8 Tz;refine ak (ak (Jw b d (x:=c) rfl (ak (Jw b d (x:=a) rfl (ak (Jw b d (x:=.none) rfl (a5 ?_)))))));refine ak (Sr ?_);show d6 _ _ (if ((1:Int)==0)=a6 then _ else _) _ _ s;rw[ee #[1]];refine ak (nV pl (ak (nV g (ak (a5 ?_)))));show d6 _ _ (match LH lo hi 1 (n:Int) with |(lo,hi)=>u1 (lo,(1:Int),mi lo hi 1)) _ _ s;rw[wR lo hi n];show d6 _ _ (u1 (((Ij n 0 lo:Nat):Int),(1:Int),mi ((Ij n 0 lo:Nat):Int) ((Ij n n hi:Nat):Int) 1)) _ _ s;rw[vY];exact a5 h
theorem zS (xs:h8 ay)(i k:Nat):((ei k).filterMap λ(m:Nat)=>xs[((i:Int)+(m:Int)*1).toNat]?).toArray=((xs.toList.drop i).take k).toArray:=by
 have e:(λ(m:Nat)=>xs[((i:Int)+(m:Int)*1).toNat]?)=λm=>xs[i+m]?:=by
  funext m;have:((i:Int)+(m:Int)*1).toNat=i+m:=#[2]
  rw[this]
 rw[e];have:=ZQ xs i k;rw[YG] at this;have a:((λx=>xs[x]?) ∘ λx=>i+x)=λm=>xs[i+m]?:=rfl;rw[a] at this;rw[this]
theorem J3 {t c:b0}{items:h8 ay}{f e:ay}{lo hi:ax Int}{Q:Hq}(a:Xb s.heap t items)(d:s.heap.IsSliceOf c f e .none)(pl:UC f lo)(k:UC e hi)
  (n:¬ (Ij items.size 0 lo=0/\Ij items.size items.size hi=items.size))
  (h:Q (#[11]) { s with heap:=s.heap.push { cls:=.type "tuple",data:=.seq ((items.toList.drop (Ij items.size 0 lo)).take (Ij items.size items.size hi-Ij items.size 0 lo)).toArray } })
  (hsz:items.size<=dk):d6 #[8] A (OT (.ref t) (.ref c)) Q E s:=by
 have b:sizeOk (.seq ((items.toList.drop (Ij items.size 0 lo)).take (Ij items.size items.size hi-Ij items.size 0 lo)).toArray):=by show ((items.toList.drop (Ij items.size 0 lo)).take (Ij items.size items.size hi-Ij items.size 0 lo)).toArray.size<=dk;rw[eX,Jj,NM,hH];omega
 have p:Ij items.size items.size hi<=items.size:=Mq _ _ (eG _) hi;obtain⟨os,g,j,o⟩:=id d;have i:s.TypeIs (.ref c) "slice":=⟨os,g,j⟩;unfold OT
 try with_reducible refine rp ?_
 first |refine ak (a5 ?_) |skip
 refine ak (Uj a.typeIs #[1] ?_)
 refine ak (u2 (name:=PY "__getitem__") a.typeIs hP
  (my hP a.typeIs Ro ?_ (Sw _ _)))
 show d6 _ _ (vr (.ref t) >>= _) _ _ s;refine ak (UK a ?_);refine ak (RK i ?_);rw[dw #[1]];refine ak (IZ d pl k ?_);have l:¬ ((((Ij items.size 0 lo:Nat):Int)==0&&(1:Int)==1&&(Ij items.size items.size hi-Ij items.size 0 lo)==items.size)=a6):=by intro q;rw[eL,eL] at q;have r:((Ij items.size 0 lo:Nat):Int)=0:=LV q.1.1;have u:Ij items.size items.size hi-Ij items.size 0 lo=items.size:=LV q.2;exact n ⟨#[2],#[2]⟩
 show d6 _ _ (if (((Ij items.size 0 lo:Nat):Int)==0&&(1:Int)==1&&(Ij items.size items.size hi-Ij items.size 0 lo)==items.size)=a6 then _ else _) _ _ s;rw[ee l,zS]
 first
  |exact ak (m:=k6 _) (iv (a5 ⟨_,rfl,a5 h⟩) b)
  |exact ak (m:=k6 _) (iv (ak (a5 (a5 ⟨_,rfl,a5 h⟩))) b)
  |exact ak (ak (m:=k6 _) (iv (a5 (a5 ⟨_,rfl,a5 h⟩)) b))
  |exact ak (ak (m:=k6 _) (iv (a5 ⟨_,rfl,a5 h⟩) b))
end
end HT
namespace L2
open PySem PySem.Spec PyProof.Rows
abbrev TO:=St->Hp->(ax Int->Hp->Prop)->Prop
def PO (X:Cx)(e:ax gj)(t:TO):Prop:=
 ∀ (a:Hr) (s:cc) (b:St) (H:Hp) (Q:ax Int->Hp->Prop),Inv X a b H s->t b H Q ->
  d6 #[9] X.A (evalPart e X.env) (λu d => ∃ o c,Inv X a b c d/\UC u o/\Q o c) X.xe s
noncomputable def Bh:TO:=λ_ H Q=>Q av H
noncomputable def EK (t:TE):TO:=λa H Q=>t a H λx b => ∃ i,x = .int i/\Q (aa i) b
theorem intsAre_of {ns:ae Int}:∀ {us:ae ay},Vals (ns.map V.int) us->Pm us ns:=by
 induction ns with
 |nil=>intro us r;rw[RE] at r;cases r;exact .nil
 |cons n ns a =>
  intro us r;rw[hA] at r;cases r with
  |cons c b =>
   obtain⟨t,e⟩:=c;subst e;exact .cons n t (a b)
section
variable {X:Cx}{e:gj}{te:TE}{lo hi:ax gj}{tl th:TO}{pos p2:N5}
theorem BG:PO X av Bh:=by intro a s b H Q I h;rw[Yp];exact a5 ⟨av,H,I,.none,h⟩
theorem BF (h:PE X e te):PO X (aa e) (EK te):=by intro a s f H Q I k;rw[evalPart_some];refine HU (h a s f H _ I k) λu l b=>?_;obtain⟨x,j,d,c,g⟩:=b;obtain⟨i,rfl,q⟩:=g;obtain⟨t,rfl⟩:=c;exact⟨aa i,j,d,.int i t,q⟩
def RW (X:Cx)(r:V->ax Int->ax Int->Hp->VK->Prop):Prop:=
 ∀ (a:Hr) (s:cc) (d:St) (H:Hp) (x:V) (v c b:ay) (lo hi:ax Int) (e:b0) (Q:VK),Inv X a d H s->RelV x v->s.heap.IsSliceOf e c b .none->UC c lo->UC b hi->r x lo hi H Q ->
  ∃ T id,typeLookup (.type T) "__getitem__"=u1 (aa (.builtin id))/\s.TypeIs v T/\d6 #[9] X.A (OT v (.ref e)) (EP X a d Q) X.xe s
noncomputable def VS (r:V->ax Int->ax Int->Hp->VK->Prop)(te:TE)(tl th:TO):TE:=λa H Q=>te a H λx d=>tl a d λl b=>th a b λu c=>r x l u c Q
theorem zV {r:V->ax Int->ax Int->Hp->VK->Prop}(hr:RW X r)(o:PE X e te)(M:PO X lo tl)(G:PO X hi th):PE X (.Subscript e (.Slice lo hi av p2) pos) (VS r te tl th):=by intro a s d H Q I h;refine YF (HU (o a s d H _ I h) λv y i=>?_);obtain⟨x,z,n,m,t⟩:=i;refine wpAny_Slice (HU (M a y d z _ n t) λg L ⟨l,k,E,pl,N⟩=>HU (G a L d k _ E N) λf c i=>?_);obtain⟨u,j,C,D,B⟩:=i;rw[Yp];refine a5 ?_;have K:Inv X a d j { c with heap:=c.heap.push { cls:=.type "slice",data:=.fields #[g,f,.none] } }:=C.kept (t':=c.toks) λb O q=>cv _ q;obtain⟨T,id,F,p,J⟩:=hr a { c with heap:=c.heap.push { cls:=.type "slice",data:=.fields #[g,f,.none] } } d j x v g f l u c.heap.objs.size Q K m (YH ..) pl D B;show d6 #[9] X.A (UB e (.Slice lo hi av p2) v (.ref c.heap.objs.size)) (EP X a d Q) X.xe { c with heap:=c.heap.push { cls:=.type "slice",data:=.fields #[g,f,.none] } };exact YY (ops:=[.ref c.heap.objs.size,v]) p F J (by with_unfolding_all rfl)
noncomputable def uO (xs:ae V)(lo hi:ax Int):ae V:=(xs.drop (HT.Ij xs.length 0 lo)).take (HT.Ij xs.length xs.length hi-HT.Ij xs.length 0 lo)
theorem gy (xs:ae V)(lo hi:ax Int):(uO xs lo hi).length<=xs.length:=by unfold uO;rw[Jj,NM];omega
def Gc (K:Ho):V->ax Int->ax Int->Hp->VK->Prop:=λx lo hi H Q => ∃ a b,x = .ref a/\KI K H a b /\
 ¬ (HT.Ij b.length 0 lo=0/\HT.Ij b.length b.length hi=b.length)/\∀ p,H p=av->Q (.ref p) (upd H p (.tup (uO b lo hi)))
theorem De:RW X (Gc X.K):=by
 intro g s n H x v u t lo hi w Q I m i pl j h;obtain⟨a,d,rfl,k,l,q⟩:=h;cases m;obtain⟨its,r,f,e⟩:=I.tuple k;have c:its.toArray.size=d.length:=by rw[eX];exact r.length.symm
 refine⟨"tuple",_,hP.lookup,f.typeIs,?_⟩;refine HT.J3 f i pl j (by rw[c];exact l) ?_ (by rw[c];exact e);rw[c];refine⟨#[11],_,I.laid (t':=s.toks) (o:=.tup (uO d lo hi)) (λb p q=>cv _ q) (eG _) ?_,rfl,q _ (I.HZ.fresh (eG _))⟩;exact⟨fk (gy d lo hi) e,_,(r.drop (HT.Ij d.length 0 lo)).take (HT.Ij d.length d.length hi-HT.Ij d.length 0 lo),KH.new _ _⟩
noncomputable def EX (K:Ho):R2:=λx y H Q => ∃ a b d c,x = .ref a/\y = .ref b/\KI K H a d/\KI K H b c/\d≠[]/\d.length+c.length<=dk /\
 (c=[]->Q (.ref a) H)/\(c≠[]->∀ p,H p=av->Q (.ref p) (upd H p (.tup (d++c))))
theorem Vals.HA {xs:ae V}{us:ae ay}(r:Vals xs us):us=[]↔xs=[]:=by
 cases r with
 |nil=>simp
 |cons _ _=>simp
theorem BT:K_ X (H4 .Add) (EX X.K):=by intro f s t H x y v u Q I p n h;obtain⟨a,b,g,m,rfl,rfl,l,hb,k,e,i,r⟩:=h;cases p;cases n;obtain⟨its,d,j,_⟩:=I.tuple l;obtain⟨B,c,p2,_⟩:=I.tuple hb;refine HT.Ot j p2 (λz=>k (d.HA.mp z)) (λz=>⟨.ref a,H,I,rfl,i (c.HA.mp z)⟩) (λz=>?_) (by rw[← d.length,← c.length];exact e);refine⟨#[11],_,I.laid (t':=s.toks) (o:=.tup (g++m)) (λb A q=>cv _ q) (eG _) ?_,rfl,r (λw=>z (c.HA.mpr w)) _ (I.HZ.fresh (eG _))⟩;exact⟨by rw[cq];exact e,_,d.append c,KH.new _ _⟩
end
noncomputable def OP (n:Nat)(i:Int):ax Nat:=if 0<=i then (if i<n then aa i.toNat else av) else if -(n:Int)<=i then aa (i+n).toNat else av
noncomputable def KN {α:Type}(xs:ae α)(i:Int):ax α:=(OP xs.length i).bind λj=>xs[j]?
theorem Cb {n:Nat}{i:Int}{j:Nat}(h:OP n i=aa j):seqIndex? i n=aa j/\j<n/\-(n:Int)<=i/\i<n:=by
 unfold OP at h;by_cases b : 0<=i
 ·rw[dw b] at h;by_cases a:i<n
  ·rw[dw a] at h;have e:i.toNat=j:=kx h;exact⟨by rw[seqIndex_of b a,e],#[2],#[2],a⟩
  rw[ee a] at h;cases h
 rw[ee b] at h;by_cases a : -(n:Int)<=i
 ·rw[dw a] at h;have e:(i+n).toNat=j:=kx h;exact⟨by rw[seqIndex_neg #[0] a,e],#[2],a,#[2]⟩
 rw[ee a] at h;cases h
theorem nr {α:Type}{xs:ae α}{i:Int}{v : α}(h:KN xs i=aa v):∃ j,seqIndex? i xs.length=aa j/\xs[j]?=aa v/\j<xs.length/\-(xs.length:Int)<=i/\i<xs.length:=by
 unfold KN at h;cases e:OP xs.length i with
 |none=>rw[e] at h;cases h
 |some j =>
  rw[e] at h;obtain⟨d,b,a,c⟩:=Cb e;exact⟨j,d,h,b,a,c⟩
def nv (b:gj):Prop:=∀ o i,Ua b bo o i=operate [o,i] (OT o i)
def QP (X:Cx)(r:R2):Prop:=
 ∀ (value slice:gj) (a:Hr) (s:cc) (b:St) (H:Hp) (x y:V) (v u:ay) (Q:VK),Inv X a b H s->RelV x v->RelV y u->r x y H Q ->
  Ua slice bo v u=operate [v,u] (OT v u)->d6 #[9] X.A (UB value slice v u) (EP X a b Q) X.xe s
def Qb (X:Cx)(id:NA)(r:V->ae V->Hp->VK->Prop):Prop:=
 ∀ (a:Hr) (s:cc) (b:St) (H:Hp) (x:V) (d:ae V) (v:ay) (c:ae ay) (Q:VK),Inv X a b H s->RelV x v->Vals d c->r x d H Q ->
  d6 #[9] X.A (call (.builtin id) (v::c)) (EP X a b Q) X.xe s
section
variable {X:Cx}{a b:gj}{ta tb:TE}{pos:N5}
theorem CQ {r:R2}(hr:QP X r)(ha:PE X a ta)(hb:PE X b tb)(f:nv b):PE X (.Subscript a b pos) (QA r ta tb):=by intro c s e H Q I h;exact YF (Er ha hb I h λv u j x y d g k i q=>hr a b c j e d x y v u Q g k i q (f _ _))
noncomputable def Gg (K:Ho):R2:=λx y H Q => ∃ p a i v,x = .ref p/\y = .int i/\K9 K H p a/\KN a i=aa v/\Q v H
noncomputable def Ge (K:Ho):R2:=λx y H Q => ∃ p a i v,x = .ref p/\y = .int i/\KI K H p a/\KN a i=aa v/\Q v H
noncomputable def Gf:R2:=λx y H Q => ∃ z i c,x = .str z/\y = .int i/\z.length<=dk/\KN z.cps.toList i=aa c/\Q (.str ⟨#[c]⟩) H
theorem xr:QP X (Gg X.K):=by
 intro value slice a s f H x y v u Q I D B h g;obtain⟨p,F,i,z,rfl,rfl,k,n,q⟩:=h;cases D;obtain⟨t,rfl⟩:=B;obtain⟨its,r,pl,G⟩:=I.list k;obtain⟨j,b,C,J,m,o⟩:=nr n;obtain⟨w,e,A⟩:=r.get C;have E:=r.length;have L:=oI;have fin:EP X a f Q w s:=⟨z,H,I,A,q⟩;by_cases d : 0<=i
 ·have c:i.toNat=j:=by
   rw[seqIndex_of d o] at b;exact kx b
  exact item_listR pl.isList d #[0] (by rw[c];simpa using e) fin g
 have c:(i+(its.toArray.size:Int)).toNat=j:=by rw[seqIndex_neg #[0] m] at b;rw[eX,← E];exact kx b
 exact V1 (x:=w) pl.isList.typeIs Uk.lookup
  (wpAny_getItem_list_neg (Q:=λr l=>r=w/\EP X a f Q r l) pl.isList #[0] (by rw[eX]<;>omega) #[0] (by rw[c];simpa using e) ⟨rfl,fin⟩) g
theorem D6:QP X (Ge X.K):=by
 intro value slice a s b H x y v u Q I o m h l;obtain⟨p,B,i,z,rfl,rfl,c,g,q⟩:=h;cases o;obtain⟨t,rfl⟩:=m;obtain⟨its,r,pl,E⟩:=I.tuple c;obtain⟨j,f,n,F,C,D⟩:=nr g;obtain⟨w,e,k⟩:=r.get n;have A:=r.length;have G:=oI;have fin:EP X a b Q w s:=⟨z,H,I,k,q⟩
 exact V1 (x:=w) pl.typeIs hP.lookup
  (getItem_tuple (j:=j) (Q:=λr d=>r=w/\EP X a b Q r d) pl #[0] #[0] (by rw[eX,← A];exact f) (by simpa using e) ⟨rfl,fin⟩) l
theorem D7:QP X Gf:=by
 intro value slice b s w H x y v u Q I o m h g;obtain⟨z,i,c,rfl,rfl,r,e,q⟩:=h;obtain⟨t,rfl⟩:=o;obtain⟨B,rfl⟩:=m;obtain⟨j,a,n,A,d,f⟩:=nr e;have p:z.cps.toList.length=z.length:=by simp[QN]
 rw[p] at a d f;have C:=oI
 exact YY (YI s z t) slot_str_getitem.lookup (getItem_str (c:=c) (by
  have l:dr (i < -(2 ^ 63:Int))=bo:=cX #[0];have k:dr (i≥2 ^ 63)=bo:=cX #[0]
  rw[l,k,Bool.or_false]) (by rw[a];simpa using n) ⟨.str ⟨#[c]⟩,H,I.tok _,⟨_,rfl⟩,q⟩) g
theorem kz (lo hi:ax Int)(n:Nat):(OJ lo hi av n).1=((HT.Ij n 0 lo:Nat):Int)/\(OJ lo hi av n).2.1=((HT.Ij n n hi:Nat):Int)/\(OJ lo hi av n).2.2=1:=by
 refine⟨?_,?_,rfl⟩
 ·cases lo with
  |none=>simp[OJ,HT.Ij]
  |some i =>
   simp only[OJ,HT.Ij,getD_none,show (1:Int) > 0 by decide,ox];by_cases h:i<0
   ·simp only[h,ox]<;>omega
   simp only[h,mz]<;>omega
 cases hi with
 |none=>simp[OJ,HT.Ij]
 |some i =>
  simp only[OJ,HT.Ij,getD_none,show (1:Int) > 0 by decide,ox];by_cases h:i<0
  ·simp only[h,ox]<;>omega
  simp only[h,mz]<;>omega
theorem pP (its:ae ay)(lo hi:ax Int):slicePick its.toArray lo hi av=((its.drop (HT.Ij its.length 0 lo)).take (HT.Ij its.length its.length hi-HT.Ij its.length 0 lo)).toArray:=by obtain⟨c,b,a⟩:=kz lo hi its.toArray.size;unfold slicePick;rw[c,b,a];simp only[Xm,ZQ,eX]<;>rfl
def Gd (K:Ho):V->ax Int->ax Int->Hp->VK->Prop:=λx lo c H Q => ∃ a b,x = .ref a/\K9 K H a b/\∀ p,H p=av->Q (.ref p) (upd H p (.lst (uO b lo c)))
theorem Bl:RW X (Gd X.K):=by intro g s n H x v u t lo e w Q I m j pl k h;obtain⟨a,c,rfl,l,q⟩:=h;cases m;obtain⟨its,r,f,i⟩:=I.list l;have d:=r.length;refine⟨"list",_,Uk.lookup,f.isList.typeIs,?_⟩;refine UL f.isList j pl k .none #[3] ?_ (by rw[eX]<;>omega);rw[pP,← d];refine⟨#[11],_,I.laid (t':=s.toks) (o:=.lst (uO c lo e)) (λb p q=>cv _ q) (eG _) ?_,rfl,q _ (I.HZ.fresh (eG _))⟩;exact⟨fk (gy c lo e) i,_,0,(r.drop (HT.Ij c.length 0 lo)).take (HT.Ij c.length c.length e-HT.Ij c.length 0 lo),en _ rfl⟩
theorem im:dS X (.builtin "len") (λxs H Q => ∃ p b,xs=[.ref p]/\(K9 X.K H p b∨KI X.K H p b)/\Q (.int b.length) H):=by
 intro d s i H xs g Q I r h;obtain⟨p,b,rfl,hq,q⟩:=h;obtain⟨u,rfl,f⟩:=vals1 r;cases f;have j:=oI;rcases hq with hq |hq
 ·obtain⟨its,c,pl,e⟩:=I.list hq;have a:=c.length;exact Calls.call_len_list pl.isList (by simp only[eX]<;>omega) ⟨.int b.length,H,I.tok _,⟨s.toks+1,by rw[eX,a]⟩,q⟩
 obtain⟨its,c,pl,e⟩:=I.tuple hq;have a:=c.length;exact len_tuple pl (by simp only[eX]<;>omega) ⟨.int b.length,H,I.tok _,⟨s.toks+1,by rw[eX,a]⟩,q⟩
theorem sN:dS X (.builtin "len") (λxs H Q => ∃ z,xs=[.str z]/\z.length<=dk/\Q (.int z.length) H):=by intro a s c H xs d Q I r h;obtain⟨z,rfl,b,q⟩:=h;obtain⟨u,rfl,t,rfl⟩:=vals1 r;have e:=oI;exact len_str #[0] ⟨.int z.length,H,I.tok _,⟨_,rfl⟩,q⟩
theorem kO:dS X (.type "list") (λxs H Q => ∃ p d,xs=[.ref p]/\(K9 X.K H p d∨KI X.K H p d)/\∀ l,H l=av->Q (.ref l) (upd H l (.lst d))):=by
 intro j s t H xs x Q I r h;obtain⟨p,d,rfl,hq,q⟩:=h;obtain⟨u,rfl,v⟩:=vals1 r;cases v
 have fin:∀ (its:ae ay),Vals d its->d.length<=dk->∀ (a:j0) (f:Nat),(∀ b m,#[15]=aa m->a.get? b=aa m) ->
   a.get? s.heap.objs.size=aa { cls:=.type "list",dict:=av,data:=.seq its.toArray f,slots:=#[] }->EP X j t Q (#[11]) { s with heap:=a }:=λits c i a f kp e =>
  ⟨#[11],_,I.laid (t':=s.toks) kp (eG _) (show Ig X.prog X.w _ a _ (.lst d) from⟨i,its,f,c,e⟩),rfl,q _ (I.HZ.fresh (eG _))⟩
 rcases hq with hq |hq
 ·obtain⟨its,c,pl,i⟩:=I.list hq;have g:=c.length;obtain⟨o,k,hc,n,hd⟩:=pl.isList;exact call_list_seq p (.inl rfl) k hc hd (λa f kp e=>fin its c i a f kp e) (by simp only[eX]<;>omega)
 obtain⟨its,c,pl,i⟩:=I.tuple hq;have g:=c.length;obtain⟨o,k,hc,n,hd⟩:=pl;exact call_list_seq p (.inr rfl) k hc hd (λa f kp e=>fin its c i a f kp e) (by simp only[eX]<;>omega)
theorem jS:dS X (.type "tuple") (λxs H Q => ∃ p c,xs=[.ref p]/\((K9 X.K H p c/\∀ l,H l=av->Q (.ref l) (upd H l (.tup c)))∨(KI X.K H p c/\Q (.ref p) H))):=by
 intro a s m H xs v Q I r h;obtain⟨p,c,rfl,h⟩:=h;obtain⟨u,rfl,t⟩:=vals1 r;cases t;rcases h with ⟨f,q⟩ |⟨f,q⟩
 ·obtain⟨its,g,pl,k⟩:=I.list f;have j:=g.length;refine call_tuple_list pl.isList (λd kp=>?_) (by simp only[eX]<;>omega);have i:Inv X a m H { s with heap:=d }:=I.kept (t':=s.toks) kp
  have n:Inv X a m (upd H d.objs.size (.tup c)) { s with heap:=d.push { cls:=.type "tuple",data:=.seq its.toArray } }:=
   i.laid (t':=s.toks) (λb o e=>cv _ e) (eG _) (show Ig X.prog X.w _ _ _ (.tup c) from⟨k,its,g,KH.new _ _⟩)
  exact⟨.ref d.objs.size,_,n,rfl,q _ (i.HZ.fresh (eG _))⟩
 obtain⟨its,g,pl,k⟩:=I.tuple f;exact call_tuple_same pl ⟨.ref p,H,I,rfl,q⟩
def Pn (K:Ho)(T:NA)(x:V)(H:Hp):Prop:=match x with
 | .str _=>T="str"
 | .int _=>T="int"
 | .ref p=>(T="list"/\∃ b,K9 K H p b)∨(T="tuple"/\((∃ o,K.lookup p=aa o/\o.cls = .type "tuple"/\o.dict=av)∨∃ b,Rd H p (.tup b))) ∨
   (T="dict"/\((∃ a,H p=aa (.dK a))∨∃ a,H p=aa (.dT a)))∨(T="set"/\∃ S n,H p=aa (.set S n))
 |_=>False
theorem zh {d:Hr}{l:St}{H:Hp}{s:cc}{T:NA}{x:V}{v:ay}(I:Inv X d l H s)(r:RelV x v)(ty:Pn X.K T x H) :
  s.TypeIs v T/\∀ a,v = .ref a->∃ h,s.heap.get? a=aa h/\h.dict=av:=by
 cases x with
 |str z =>
  obtain⟨t,rfl⟩:=r;cases (show T="str" from ty);exact⟨YI s z t,λ_ e=>nomatch e⟩
 |int i =>
  obtain⟨t,rfl⟩:=r;cases (show T="int" from ty);exact⟨ZR s i t,λ_ e=>nomatch e⟩
 |ref p =>
  cases r;rcases ty with ⟨rfl,k,j⟩ |⟨rfl,⟨o,b,hc,hd⟩ |⟨k,hr⟩⟩ |⟨rfl,b⟩ |⟨rfl,S,n,b⟩
  ·obtain⟨its,_,pl,_⟩:=I.list j;refine⟨pl.isList.typeIs,λa e=>?_⟩;cases e;obtain⟨o,n,e,c,hd,_⟩:=pl;exact⟨o,e,hd⟩
  ·refine⟨⟨o,I.LB p o b,hc⟩,λa e=>?_⟩;cases e;exact⟨o,I.LB _ o b,hd⟩
  ·obtain⟨_,its,_,n,e⟩:=hr.ok I.HZ;refine⟨⟨_,e,rfl⟩,λa f=>?_⟩;cases f;exact⟨_,e,rfl⟩
  ·have z:∃ o,s.heap.get? p=aa o/\o.ExactDict:=by
    rcases b with ⟨g,b⟩ |⟨g,b⟩
    ·obtain⟨_,_,_,_,o,_,_,e,ex,_⟩:=I.HZ p _ b;exact⟨o,e,ex⟩
    obtain⟨_,_,_,_,o,_,_,e,ex,_⟩:=I.HZ p _ b;exact⟨o,e,ex⟩
   obtain⟨o,e,ex⟩:=z;refine⟨⟨o,e,ex.1⟩,λa f=>?_⟩;cases f;exact⟨o,e,ex.2.1⟩
  obtain⟨o,_,_,_,e,ex,_⟩:=I.HZ p _ b;refine⟨⟨o,e,ex.1⟩,λa f=>?_⟩;cases f;exact⟨o,e,ex.2.1⟩
 |_=>exact C3 ty
noncomputable def F9 (K:Ho)(T:NA)(r:V->ae V->Hp->VK->Prop)(to:TE):TE:=λb H Q=>to b H λx a=>Pn K T x a/\r x [] a Q
noncomputable def UD (K:Ho)(T:NA)(r:V->ae V->Hp->VK->Prop)(to:TE)(t:TA):TE:=λa H Q=>to a H λx b=>Pn K T x b/\t a b λd c=>r x d c Q
variable {o e:gj}{es:ae gj}{to:TE}{t:TA}{name:ej}{apos HY:N5}{T id:NA}{r:V->ae V->Hp->VK->Prop}
theorem DK (e:PlainAttrs T)(slot:Slot T name id)(p:typeOf (.builtin id)=u1 (.type "method_descriptor"))(g:Qb X id r)(l:PE X o to)
  (j:ro o name X.env (lX o X.env)=lX o X.env:=by rfl) (q:(apos.endLine==HY.line)=a6:=by rfl):PE X (.Call (.Attribute o name apos) [] [] HY) (F9 X.K T r to):=by
 intro a s d H Q I h;refine wpAny_Call_method0_late j q (HU (l a s d H _ I h) λv m f=>?_);obtain⟨x,n,c,b,ty,k⟩:=f;obtain⟨i,t⟩:=zh c b ty;exact⟨T,id,e,slot,p,i,t,V3 rfl (PySem.evalArgs_none (g a m d n x [] v [] Q c b .nil k))⟩
theorem xk (i:PlainAttrs T)(slot:Slot T name id)(D:typeOf (.builtin id)=u1 (.type "method_descriptor"))(l:Qb X id r)(u:PE X o to)(ha:PA X (e::es) t)
  (n:ro o name X.env (lX o X.env)=lX o X.env:=by rfl)
  (C:((mf HY (dm (e::es) X.env)).all (λx => !x.1)&&(O0 HY (Jf [] X.env)).all (λx=>x.1.isSome)
   && dr ((e::es).length+([]:ae Ow).length+(if ([]:ae Ow).isEmpty then 0 else 1)<30))=a6:=by rfl)
  (E:(apos.endLine==HY.line)=a6:=by rfl) (y:dm (e::es) X.env=(bo,lX e X.env)::dm es X.env:=by rfl) (p:(mf HY (dm es X.env)).any (·.1)=bo:=by rfl) :
  PE X (.Call (.Attribute o name apos) (e::es) [] HY) (UD X.K T r to t):=by
 intro a s b H Q I h;refine wpAny_Call_method_late n C E rfl (HU (u a s b H _ I h) λv w j=>?_);obtain⟨x,z,d,c,ty,q⟩:=j;obtain⟨m,F⟩:=zh d c ty;refine⟨T,id,i,slot,D,m,F,?_⟩;have f:=ha HY a w b z _ d q;rw[y] at f ⊢;refine V3 (by show (bo ||(mf HY (dm es X.env)).any (·.1))=bo;rw[p]<;>rfl) (Calls.evalArgs_plain ?_);exact HU f λk J ⟨A,g,B,G,L⟩=>l a J b g x A v k Q B c G L
end
def VT (X:Cx)(id:NA)(r:V->ae V->Hp->VK->Prop):Prop:=
 ∀ (a:Hr) (s:cc) (b:St) (H:Hp) (x:V) (d:ae V) (v:ay) (c:ae ay) (Q:VK),Inv X a b H s->RelV x v->Vals d c->r x d H Q ->
  d6 #[9] X.A (call (.builtin id) (v::c)) (EP X a b Q) X.xe s
theorem Vals.one:∀ {x:V}{us:ae ay},Vals [x] us->∃ u,us=[u]/\RelV x u
 |_,_,.cons r .nil=>⟨_,rfl,r⟩
theorem Vals.reverse {xs:ae V}{us:ae ay}(h:Vals xs us):Vals xs.reverse us.reverse:=by
 induction h with
 |nil=>exact .nil
 |cons r t a=>rw[V5,V5];exact Vals.append a (.cons r .nil)
theorem Vals.rep {xs:ae V}{us:ae ay}(h:Vals xs us):∀ k:Nat,Vals (el k xs).flatten (el k us).flatten
 | 0 => .nil
 |k+1=>by
  rw[wh,wh,NZ,NZ];exact Vals.append h (Vals.rep h k)
theorem foldl_rep (its:ae ay):∀ (k:Nat) (a:ae ay),
  QO (λx1 x2=>x1++x2) a.toArray (el k its.toArray)=(a++(el k its).flatten).toArray
 | 0,a=>by simp
 |k+1,a=>by
  have e:a.toArray++its.toArray=(a++its).toArray:=by simp
  have b:(a++its)++(el k its).flatten=a++(el (k+1) its).flatten:=by rw[wh,NZ,gv]
  rw[← b,← foldl_rep its k (a++its),← e,wh,wi]
section
variable {X:Cx}{pins:Hr}{σ:St}{H:Hp}{s:cc}{l b:b0}{xs ys zs:ae V}
theorem Inv.SY {its its':ae ay}{n:Nat}{f:h8 ay->h8 ay}{t':Nat}(I:#[10])(b:H l=aa (.lst xs))
  (e:s.heap.get? l=aa { cls:=.type "list",data:=.seq its.toArray n }) (c:f its.toArray=its'.toArray) (a:Vals ys its') (hz:ys.length<=dk) :
  Inv X pins σ (upd H l (.lst ys)) { s with heap:=s.heap.update l (Wh f),toks:=t' }:=by
 have q:=Ze e f;rw[c] at q;refine I.write (x:=l) (e:=l) (by rw[b];exact m7) (.inl rfl) (λg u hb d=>(P0 s.heap (Wh f) (vu hb)).trans d) ⟨_,q⟩ ?_;exact⟨hz,its',_,a,q⟩
theorem Inv.QQ {its:ae ay}{t':Nat}(I:#[10])(a:Vals ys its)(hz:ys.length<=dk) :
  Inv X pins σ (upd H s.heap.objs.size (.lst ys)) { s with heap:=s.heap.push { cls:=.type "list",data:=.seq its.toArray },toks:=t' }:=
 I.laid (λ_ _ q=>cv _ q) (eG _) ⟨hz,its,0,a,en _ rfl⟩
theorem Inv.fresh (I:#[10]):H s.heap.objs.size=av:=I.HZ.fresh (eG _)
theorem Inv.S5 (I:#[10])(a:H l=aa (.lst xs)):xs.length<=dk/\∃ (its:ae ay) (n:Nat),Vals xs its/\xs.length=its.length/\s.heap.get? l=aa { cls:=.type "list",data:=.seq its.toArray n }:=by obtain⟨z,its,n,r,e⟩:=I.HZ l _ a;exact⟨z,its,n,r,r.length,e⟩
end
section
variable {X:Cx}
def Bx:V->ae V->Hp->VK->Prop:=λx b H Q => ∃ l a y,x = .ref l/\b=[y]/\H l=aa (.lst a)/\a.length<dk/\Q .Ic (upd H l (.lst (a++[y])))
theorem yG:VT X "list.append" Bx:=by intro b s k H x m v g Q I f c h;obtain⟨l,i,y,rfl,rfl,a,j,q⟩:=h;cases f;obtain⟨u,rfl,d⟩:=c.one;obtain⟨z,its,n,r,o,e⟩:=I.S5 a;refine YJ F.slot_list_append ⟨_,e,rfl⟩ F.entry_list_append (F.args_list_append_2 _ _) (YZ l its.toArray n u (by rw[eX];omega)) ⟨e,?_⟩;refine⟨.Ic,_,I.SY (its':=its++[u]) a e #[3] (r.append (.cons d .nil)) ?_,rfl,q⟩;rw[cq,OV];omega
theorem len_rep {α:Type}(xs:ae α)(k:Nat):(el k xs).flatten.length=k*xs.length:=by
 induction k with
 |zero=>simp
 |succ k a=>rw[wh,NZ,cq,a,Nat.succ_mul,Nat.add_comm]
end
inductive D where
 |Ic |bl (b:e8) |int (i:Int) |str (x:ej)
 |tup (xs:ae D) |lst (xs:ae D) |set (xs:ae D) |loc (l:Nat) |fn (x:ej) (st:mq)
 deriving Inhabited
def TQ (K:Ho)(H:Hp)(J:ae b0)(a:b0)(xs:ae V):Prop:=
 (Rd H a (.tup xs)/\a∉J/\xs.length<=dk)∨∃ (o:VJ) (its:h8 ay) (n:Nat),K.lookup a=aa o/\o.cls = .type "tuple"/\o.dict=av/\o.data = .seq its n/\its.size<=dk/\Vals xs its.toList
def LQ (K:Ho)(H:Hp)(J:ae b0)(a:b0)(xs:ae V):Prop:=
 (Rd H a (.lst xs)/\a∉J/\xs.length<=dk)∨∃ (o:VJ) (its:h8 ay) (n:Nat),K.lookup a=aa o/\o.cls = .type "list"/\o.dict=av/\o.data = .seq its n/\its.size<=dk/\Vals xs its.toList
theorem TQ.sq {K:Ho}{H:Hp}{J:ae b0}{a:b0}{xs:ae V}(h:TQ K H J a xs):KI K H a xs:=h.elim (λz => .inl z.1) λ⟨o,its,n,a,b,_,c⟩ => .inr ⟨o,its,n,a,b,c⟩
theorem LQ.sq {K:Ho}{H:Hp}{J:ae b0}{a:b0}{xs:ae V}(h:LQ K H J a xs):K9 K H a xs:=h.elim (λz => .inl z.1) .inr
noncomputable def FH (a:b0)(us:ae ay):HO:=HO.ext λh => ∃ o es ep t,h.get? a=aa o/\o.ExactSet/\o.data = .set es ep t/\(es.toList.map (·.2))=us/\t.fits es.size=a6/\es.size<=dk
def N2 (x:ej):Prop:=x.length<=dk/\nX x=a6
mutual
def At (K:Ho)(H:Hp)(J:ae b0):D->V->Prop
 | .Ic,v=>v = .Ic
 | .bl b,v=>v = .bl b
 | .int i,v=>v = .int i
 | .str x,v=>v = .str x/\N2 x
 | .tup d,v => ∃ a c,v = .ref a/\TQ K H J a c/\Hz K H J d c
 | .lst d,v => ∃ a c,v = .ref a/\LQ K H J a c/\Hz K H J d c
 | .set d,v => ∃ a e c,v = .ref a/\H a=aa (FH a e)/\a∉J/\Vals c e/\Hz K H J d c
 | .loc l,v => ∃ a,v = .ref a/\J[l]?=aa a
 | .fn x st,v => ∃ f fd,v = .ref f/\Nj K x x st f fd
def Hz (K:Ho)(H:Hp)(J:ae b0):ae D->ae V->Prop
 |[],vs=>vs=[]
 |d::ds,vs => ∃ v r,vs=v::r/\At K H J d v/\Hz K H J ds r
end
structure Ex (J:ae b0) (H:Hp) (J':ae b0) (H':Hp):Prop where
 pre:J <+: J'
 keep:∀ b o,H b=aa o->b∉J->H' b=aa o/\b∉J'
theorem Ex.refl {J:ae b0}{H:Hp}:Ex J H J H:=⟨Zo _,λ_ _ h n=>⟨h,n⟩⟩
theorem Ex.trans {J d f:ae b0}{H g e:Hp}(a:Ex J H d g)(b:Ex d g f e):Ex J H f e:=
 ⟨a.pre.trans b.pre,λc o h n=>let ⟨i,n1⟩:=a.keep c o h n;b.keep c o i n1⟩
theorem Ex.same {J:ae b0}{H H':Hp}(s:HJ H H'):Ex J H J H':=⟨Zo _,λb o h n=>⟨s b o h,n⟩⟩
section
variable {K:Ho}{H H':Hp}{J J':ae b0}
theorem Rd.ex {a:b0}{u:HO}(e:Ex J H J' H')(h:Rd H a u)(n:a∉J):Rd H' a u/\a∉J':=by
 rcases h with h |⟨o,h⟩
 ·exact⟨.inl (e.keep a _ h n).1,(e.keep a _ h n).2⟩
 exact⟨.inr ⟨o,(e.keep a _ h n).1⟩,(e.keep a _ h n).2⟩
theorem TQ.ex {a:b0}{xs:ae V}(e:Ex J H J' H')(h:TQ K H J a xs):TQ K H' J' a xs:=h.elim (λz => .inl ⟨(z.1.ex e z.2.1).1,(z.1.ex e z.2.1).2,z.2.2⟩) .inr
theorem LQ.ex {a:b0}{xs:ae V}(e:Ex J H J' H')(h:LQ K H J a xs):LQ K H' J' a xs:=h.elim (λz => .inl ⟨(z.1.ex e z.2.1).1,(z.1.ex e z.2.1).2,z.2.2⟩) .inr
theorem TQ.len {a:b0}{xs:ae V}(h:TQ K H J a xs):xs.length<=dk:=by
 rcases h with ⟨_,_,z⟩ |⟨o,its,n,_,_,_,_,z,r⟩
 ·exact z
 have e:=Vals.length r;simp only[hH] at e;omega
theorem LQ.len {a:b0}{xs:ae V}(h:LQ K H J a xs):xs.length<=dk:=by
 rcases h with ⟨_,_,z⟩ |⟨o,its,n,_,_,_,_,z,r⟩
 ·exact z
 have e:=Vals.length r;simp only[hH] at e;omega
theorem xj {α:Type}{l a:ae α}(h:l <+: a){i:Nat}{x : α}(e:l[i]?=aa x):a[i]?=aa x:=by obtain⟨t,rfl⟩:=h;rw[gh (b7.mp e).1];exact e
mutual
theorem At.ex (e:Ex J H J' H'):∀ {d:D}{v:V},At K H J d v->At K H' J' d v
 | .Ic,_,h=>by unfold At at h ⊢;exact h
 | .bl _,_,h=>by unfold At at h ⊢;exact h
 | .int _,_,h=>by unfold At at h ⊢;exact h
 | .str _,_,h=>by unfold At at h ⊢;exact h
 | .tup c,_,h=>by unfold At at h ⊢;obtain⟨a,b,rfl,q,r⟩:=h;exact⟨a,b,rfl,q.ex e,Hz.ex e r⟩
 | .lst c,_,h=>by unfold At at h ⊢;obtain⟨a,b,rfl,q,r⟩:=h;exact⟨a,b,rfl,q.ex e,Hz.ex e r⟩
 | .set c,_,h=>by unfold At at h ⊢;obtain⟨a,f,b,rfl,q,n,r,z⟩:=h;exact⟨a,f,b,rfl,(e.keep a _ q n).1,(e.keep a _ q n).2,r,Hz.ex e z⟩
 | .loc l,_,h=>by unfold At at h ⊢;obtain⟨a,rfl,q⟩:=h;exact⟨a,rfl,xj e.pre q⟩
 | .fn _ _,_,h=>by unfold At at h ⊢;exact h
theorem Hz.ex (e:Ex J H J' H'):∀ {ds:ae D}{vs:ae V},Hz K H J ds vs->Hz K H' J' ds vs
 |[],_,h=>by unfold Hz at h ⊢;exact h
 |d::ds,_,h=>by unfold Hz at h ⊢;obtain⟨v,r,rfl,p,q⟩:=h;exact⟨v,r,rfl,At.ex e p,Hz.ex e q⟩
end
theorem At.Jg {v:V}:At K H J .Ic v↔v = .Ic:=by unfold At;exact Wj
theorem At.HP {b:e8}{v:V}:At K H J (.bl b) v↔v = .bl b:=by unfold At;exact Wj
theorem At.Hw {i:Int}{v:V}:At K H J (.int i) v↔v = .int i:=by unfold At;exact Wj
theorem At.HE {x:ej}{v:V}:At K H J (.str x) v↔v = .str x/\N2 x:=by unfold At;exact Wj
theorem At.HK {ds:ae D}{v:V}:At K H J (.tup ds) v↔∃ a xs,v = .ref a/\TQ K H J a xs/\Hz K H J ds xs:=by unfold At;exact Wj
theorem At.HN {ds:ae D}{v:V}:At K H J (.lst ds) v↔∃ a xs,v = .ref a/\LQ K H J a xs/\Hz K H J ds xs:=by unfold At;exact Wj
theorem At.HX {l:Nat}{v:V}:At K H J (.loc l) v↔∃ a,v = .ref a/\J[l]?=aa a:=by unfold At;exact Wj
theorem Hz.HA {vs:ae V}:Hz K H J [] vs↔vs=[]:=by unfold Hz;exact Wj
theorem Hz.Hy {d:D}{ds:ae D}{vs:ae V}:Hz K H J (d::ds) vs↔∃ v r,vs=v::r/\At K H J d v/\Hz K H J ds r:=by
 constructor
 ·intro h;unfold Hz at h;exact h
 intro h;unfold Hz;exact h
theorem Hz.nil:Hz K H J [] []:=Hz.HA.mpr rfl
theorem Hz.cons {d:D}{v:V}{ds:ae D}{vs:ae V}(h:At K H J d v)(r:Hz K H J ds vs):Hz K H J (d::ds) (v::vs):=Hz.Hy.mpr ⟨v,vs,rfl,h,r⟩
theorem Hz.HF {d:D}{v:V}{ds:ae D}{vs:ae V}(h:Hz K H J (d::ds) (v::vs)):At K H J d v/\Hz K H J ds vs:=by obtain⟨_,_,e,p,q⟩:=Hz.Hy.mp h;cases e;exact⟨p,q⟩
theorem Hz.length:∀ {ds:ae D}{vs:ae V},Hz K H J ds vs->ds.length=vs.length
 |[],_,h=>by rw[Hz.HA.mp h];rfl
 |d::ds,_,h=>by obtain⟨v,r,rfl,_,q⟩:=Hz.Hy.mp h;rw[hD,hD,Hz.length q]
theorem Hz.append:∀ {ds es:ae D}{vs us:ae V},Hz K H J ds vs->Hz K H J es us->Hz K H J (ds++es) (vs++us)
 |[],_,_,_,h,k=>by rw[Hz.HA.mp h];exact k
 |d::ds,_,_,_,h,k=>by obtain⟨v,r,rfl,p,q⟩:=Hz.Hy.mp h;exact .cons p (Hz.append q k)
theorem Hz.get:∀ {ds:ae D}{vs:ae V}{i:Nat}{d:D},Hz K H J ds vs->ds[i]?=aa d->∃ v,vs[i]?=aa v/\At K H J d v
 |[],_,_,_,_,e=>by simp at e
 |d::ds,_,0,_,h,e=>by obtain⟨v,r,rfl,p,q⟩:=Hz.Hy.mp h;simp at e;subst e;exact⟨v,rfl,p⟩
 |d::ds,_,i+1,_,h,e=>by obtain⟨v,r,rfl,p,q⟩:=Hz.Hy.mp h;exact Hz.get (i:=i) q (by simpa using e)
theorem Hz.get':∀ {ds:ae D}{vs:ae V}{i:Nat}{v:V},Hz K H J ds vs->vs[i]?=aa v->∃ d,ds[i]?=aa d/\At K H J d v
 |[],_,_,_,h,e=>by rw[Hz.HA.mp h] at e;simp at e
 |d::ds,_,0,_,h,e=>by obtain⟨v,r,rfl,p,q⟩:=Hz.Hy.mp h;simp at e;subst e;exact⟨d,rfl,p⟩
 |d::ds,_,i+1,_,h,e=>by obtain⟨v,r,rfl,p,q⟩:=Hz.Hy.mp h;exact Hz.get' (i:=i) q (by simpa using e)
theorem Hz.take:∀ {ds:ae D}{vs:ae V}(n:Nat),Hz K H J ds vs->Hz K H J (ds.take n) (vs.take n)
 |_,_,0,_=>by simpa using Hz.nil
 |[],_,_+1,h=>by rw[Hz.HA.mp h];simpa using Hz.nil
 |d::ds,_,n+1,h=>by obtain⟨v,r,rfl,p,q⟩:=Hz.Hy.mp h;exact .cons p (Hz.take n q)
theorem Hz.drop:∀ {ds:ae D}{vs:ae V}(n:Nat),Hz K H J ds vs->Hz K H J (ds.drop n) (vs.drop n)
 |_,_,0,h=>h
 |[],_,_+1,h=>by rw[Hz.HA.mp h];simpa using Hz.nil
 |d::ds,_,n+1,h=>by obtain⟨v,r,rfl,p,q⟩:=Hz.Hy.mp h;exact Hz.drop n q
theorem Hz.reverse:∀ {ds:ae D}{vs:ae V},Hz K H J ds vs->Hz K H J ds.reverse vs.reverse
 |[],_,h=>by rw[Hz.HA.mp h];exact Hz.nil
 |d::ds,_,h=>by obtain⟨v,r,rfl,p,q⟩:=Hz.Hy.mp h;rw[V5,V5];exact(Hz.reverse q).append (.cons p .nil)
theorem Hz.rep {ds:ae D}{vs:ae V}(h:Hz K H J ds vs):∀ k:Nat,Hz K H J (el k ds).flatten (el k vs).flatten
 | 0=>Hz.nil
 |k+1=>by rw[wh,wh,NZ,NZ];exact h.append (Hz.rep h k)
theorem Hz.ofInts:∀ (ns:ae Int),Hz K H J (ns.map D.int) (ns.map V.int)
 |[] => .nil
 |n::ns => .cons (#[14]) (Hz.ofInts ns)
theorem Hz.KO:∀ {ns:ae Int}{vs:ae V},Hz K H J (ns.map D.int) vs->vs=ns.map V.int
 |[],_,h=>Hz.HA.mp h
 |n::ns,_,h=>by obtain⟨v,r,rfl,p,q⟩:=Hz.Hy.mp h;rw[At.Hw.mp p,Hz.KO q];rfl
end
mutual
def toPy:D->ax e9
 | .Ic=>aa .none
 | .bl b=>aa (.bool b)
 | .int i=>aa (.int i)
 | .str x=>aa (.str x)
 | .tup a=>(cb a).map .tuple
 | .lst a=>(cb a).map .list
 | .set _=>av
 | .loc _=>av
 | .fn _ _=>av
def cb:ae D->ax (ae e9)
 |[]=>aa []
 |d::ds=>(toPy d).bind λp=>(cb ds).map λr=>p::r
end
inductive MO where
 |dict (kvs:ae (D×D)) |lst (xs:ae D) |exc (c:ej) |HL (kvs:ae (D×D)) |ins (c:ej) (fs:ae (ej×D)) |tab (x q:ej) |Qc (lam:gj) (q n:ej) (d:D)
 deriving Inhabited
abbrev Hu:=ae MO
noncomputable def fu:D->ax Key
 | .int i=>aa (.inl i)
 | .str x=>aa (.inr x)
 |_=>av
noncomputable def VU (a C:b0):HO:=HO.ext λh => ∃ o,h.get? a=aa o/\o.cls = .ref C
noncomputable def Bb (c:b0)(q:ej):HO:=HO.ext λh => ∃ o a t,h.get? c=aa o/\o.data = .fields a/\a[1]?=aa (.str q t)
noncomputable def FJ (a:b0)(o:VJ):HO:=HO.ext λh=>h.get? a=aa o
structure QR (H:Hp) (J:ae b0) (params:QK) (body:gj) (scope:i0) (q n:ej) (a c c':b0) (pm Ny:ay) (oc:VJ) (u:ay):Prop where
 fn:H a=aa (FJ a (PySem.W.kla_obj "<lambda>" q params body scope [(n,c)] pm c' Ny))
 cj:c'∉J
 cd:H c'=aa (Bb c' q)
 nj:c∉J
 cl:H c=aa (FJ c oc)
 dt:oc.data = .cell (aa u)
def GN (H:Hp)(J:ae b0)(q:ej)(b:h8 ay):Prop:=TriplesOk b.toList/\∀ pos a,codeAmong pos b.toList=aa a->∃ c,a = .ref c/\c∉J/\H c=aa (Bb c q)
noncomputable def f_ (d:D):ax e9:=(toPy d).bind λp=>if keyOk 8 p=a6 then aa p else av
abbrev MX (K:Ho)(H:Hp)(J:ae b0):(D×D)->(e9×b0×V)->Prop:=λp q=>(f_ p.1=aa q.1/\At K H J p.1 (.ref q.2.1))/\At K H J p.2 q.2.2
abbrev RX (K:Ho)(H:Hp)(J:ae b0):(ej×D)->(ej×V)->Prop:=λp q=>p.1=q.1/\At K H J p.2 q.2
noncomputable def OQ (K:Ho)(H:Hp)(J:ae b0):MO->b0->Prop
 | .lst i,a => ∃ g,H a=aa (.lst g)/\Hz K H J i g
 | .dict e,a => ∃ b:ae (Key×V),H a=aa (.dK b)/\i4 (λ(p:D×D) (q:Key×V)=>(fu p.1=aa q.1/\At K H J p.1 (kV q.1))/\At K H J p.2 q.2) e b
 | .exc c,a => ∃ C,H8 K ly c=aa (aa (.ref C))/\H a=aa (VU a C)
 | .HL e,a => ∃ b:ae (e9×b0×V),H a=aa (.dN b)/\i4 (MX K H J) e b
 | .ins c fs,a => ∃ C k h,H8 K ly c=aa (aa (.ref C))/\H a=aa (.ins C k h)/\i4 (RX K H J) fs h
 | .Qc f q n d,a => ∃ params body scope pos c o l j m u v,f = .Lambda params body scope pos/\QR H J params body scope q n a c o l j m u/\RelV v u/\At K H J d v
 | .tab x q,a => ∃ c b,PySem.W.tabIn K x=aa (c,a)/\H a=aa (.OL b)/\GN H J q b
structure HW (K:Ho) (J:ae b0) (S:Hu) (H:Hp):Prop where
 len:J.length=S.length
 nd:J.Nodup
 at_:∀ (l:Nat) (a:b0) (o:MO),J[l]?=aa a->S[l]?=aa o->OQ K H J o a
section
variable {K:Ho}{H H':Hp}{J J':ae b0}{S:Hu}
theorem OQ.LI {o:MO}{a:b0}(h:OQ K H J o a):H a≠av:=by
 cases o with
 |dict b=>obtain⟨_,e,_⟩:=h;rw[e];simp
 |lst g=>obtain⟨_,e,_⟩:=h;rw[e];simp
 |exc c=>obtain⟨_,_,e⟩:=h;rw[e];simp
 |HL b=>obtain⟨_,e,_⟩:=h;rw[e];simp
 |ins c fs=>obtain⟨_,_,_,_,e,_⟩:=h;rw[e];simp
 |tab x q=>obtain⟨_,_,_,e,_⟩:=h;rw[e];simp
 |Qc f q n d=>obtain⟨_,_,_,_,_,_,_,_,_,_,_,_,e,_⟩:=h;rw[e.fn];simp
theorem HW.tracked (s:HW K J S H){a:b0}(h:a∈J):H a≠av:=by
 obtain⟨l,e⟩:=la h;have b:l<S.length:=by rw[← s.len];exact(b7.mp e).1
 exact(s.at_ l a _ e (a4 b)).LI
theorem OQ.ex {o:MO}{a:b0}(e:Ex J H J' H')(k:H' a=H a)(h:OQ K H J o a):OQ K H' J' o a:=by
 cases o with
 |dict i=>obtain⟨g,q,r⟩:=h;exact⟨g,k.trans q,Paired.Lx r λp q z=>⟨⟨z.1.1,z.1.2.ex e⟩,z.2.ex e⟩⟩
 |lst O=>obtain⟨I,q,r⟩:=h;exact⟨I,k.trans q,r.ex e⟩
 |exc c=>obtain⟨C,q,r⟩:=h;exact⟨C,q,k.trans r⟩
 |HL i=>obtain⟨g,q,r⟩:=h;exact⟨g,k.trans q,Paired.Lx r λp q z=>⟨⟨z.1.1,z.1.2.ex e⟩,z.2.ex e⟩⟩
 |ins c fs=>obtain⟨C,D,E,n,q,r⟩:=h;exact⟨C,D,E,n,k.trans q,Paired.Lx r λp q z=>⟨z.1,z.2.ex e⟩⟩
 |Qc N q n d =>
  obtain⟨m,l,sc,po,c,f,G,w,L,u,v,F,b,A,s⟩:=h;exact⟨m,l,sc,po,c,f,G,w,L,u,v,F,⟨k.trans b.fn,(e.keep f _ b.cd b.cj).2,(e.keep f _ b.cd b.cj).1,(e.keep c _ b.cl b.nj).2,(e.keep c _ b.cl b.nj).1,b.dt⟩,A,s.ex e⟩
 |tab x q =>
  obtain⟨c,g,n,y,t,M⟩:=h;exact⟨c,g,n,k.trans y,t,λpos B b=>let ⟨f,z1,z2,j⟩:=M pos B b;⟨f,z1,(e.keep f _ j z2).2,(e.keep f _ j z2).1⟩⟩
theorem HW.same (s:HW K J S H)(e:HJ H H'):HW K J S H':=⟨s.len,s.nd,λl a o d c=>by
 have q:=s.at_ l a o d c;refine q.ex (Ex.same e) ?_;obtain⟨u,b⟩:=Option.ne_none_iff_exists'.mp q.LI
 rw[b];exact e a u b⟩
end
theorem aO {H:Hp}{p:b0}(h:H p=av)(o:HO):HJ H (upd H p o):=λb u q=>by rw[aG (aU q h)];exact q
abbrev Hv:=ae (ax D)
abbrev Out (α:Type):=ax (Except ej α×Hu)
abbrev Hn(α:Type):=Hv->Hu->Out α
abbrev Ht:=ae D->Hu->Out D
abbrev WT:=ej->ae b0->Hu->Hp->Prop
noncomputable def aj {α b:Type}(m:Out α) (k : α->Hu->Out b):Out b:=
 match m with
 |av=>av
 |aa (.error c,S)=>aa (.error c,S)
 |aa (.ok a,S)=>k a S
noncomputable def HC {α:Type}(a : α) (S:Hu):Out α:=aa (.ok a,S)
@[simp] theorem cZ {α b:Type}(a : α)(S:Hu)(k : α->Hu->Out b):aj (HC a S) k=k a S:=rfl
@[simp] theorem kc {α b:Type}(a : α)(S:Hu)(k : α->Hu->Out b):aj (aa (.ok a,S)) k=k a S:=rfl
@[simp] theorem EH {α a:Type}(c:ej)(S:Hu)(k : α->Hu->Out a):aj (aa (.error c,S)) k=aa (.error c,S):=rfl
@[simp] theorem Ep {α a:Type}(k : α->Hu->Out a):aj av k=av:=rfl
noncomputable def aQ {α:Type}(a:ax α) (S:Hu):Out α:=a.map λa=>(.ok a,S)
@[simp] theorem cA {α:Type}(a : α)(S:Hu):aQ (aa a) S=HC a S:=rfl
@[simp] theorem EG {α:Type}(S:Hu):aQ (av:ax α) S=av:=rfl
structure Cf (X:Cx) (J:ae b0) (ρ:Hv) (S:Hu) (σ:St) (H:Hp):Prop where
 len : ρ.length = σ.length
 env:∀ (i:Nat) (d:D),ρ[i]?=aa (aa d)->∃ v,σ[i]?=aa (aa v)/\At X.K H J d v
 Ie:HW X.K J S H
theorem Cf.re {X:Cx}{J a:ae b0}{f:Hv}{S g:Hu}{b:St}{H H':Hp}(c:Cf X J f S b H)(e:Ex J H a H')(s:HW X.K a g H'):Cf X a f g b H':=
 ⟨c.len,λi d h=>let ⟨v,k,j⟩:=c.env i d h;⟨v,k,j.ex e⟩,s⟩
def FP {α g:Type}(X:Cx)(W:WT)(R:ae b0->Hp->α->g->Prop)(J:ae b0)(H:Hp)(r:Except ej α)(f:Hu)(Q : g->Hp->Prop):Prop:=
 match r with
 | .ok a => ∀ e d b,Ex J H e d->HW X.K e f d->R e d a b->Q b d
 | .error c => ∀ e d,Ex J H e d->HW X.K e f d->W c e f d
def tG {α a:Type}(X:Cx)(W:WT)(R:ae b0->Hp->α->a->Prop)(ds:ae D)(vs:ae V)(g:Hn α):St->Hp->(a->Hp->Prop)->Prop:=λd H Q =>
 ∃ J b S r c,Cf X J b S d H/\Hz X.K H J ds vs/\g b S=aa (r,c)/\FP X W R J H r c Q
abbrev RD (X:Cx):ae b0->Hp->D->V->Prop:=λJ H d v=>At X.K H J d v
abbrev VV (X:Cx):ae b0->Hp->ae D->ae V->Prop:=λJ H d v=>Hz X.K H J d v
abbrev RB:ae b0->Hp->e8->e8->Prop:=λ_ _ a b=>a=b
noncomputable def tE (X:Cx)(W:WT)(g:Hn D):TE:=tG X W (RD X) [] [] g
noncomputable def tA (X:Cx)(W:WT)(g:Hn (ae D)):TA:=tG X W (VV X) [] [] g
noncomputable def tT (X:Cx)(W:WT)(g:Hn e8):TT:=tG X W RB [] [] g
def SE (X:Cx)(W:WT)(e:gj)(g:Hn D):Prop:=PE X e (tE X W g)
def SA (X:Cx)(W:WT)(es:ae gj)(g:Hn (ae D)):Prop:=PA X es (tA X W g)
def KD (X:Cx)(W:WT)(e:gj)(g:Hn e8):Prop:=PT X e (tT X W g)
def SW (X:Cx)(W:WT)(e:gj)(g:Hn e8):Prop:=PW X e (tT X W g)
theorem PE.imp {X:Cx}{e:gj}{t t':TE}(h:PE X e t)(i:∀ a H Q,t' a H Q->t a H Q):PE X e t':=λb s a H Q I z=>h b s a H Q I (i a H Q z)
theorem PT.imp {X:Cx}{e:gj}{t t':TT}(h:PT X e t)(i:∀ a H Q,t' a H Q->t a H Q):PT X e t':=λb s a H Q I z=>h b s a H Q I (i a H Q z)
theorem PW.imp {X:Cx}{e:gj}{t t':TT}(h:PW X e t)(i:∀ a H Q,t' a H Q->t a H Q):PW X e t':=λc b s a H Q I z=>h c b s a H Q I (i a H Q z)
theorem PA.imp {X:Cx}{e:ae gj}{t t':TA}(h:PA X e t)(i:∀ a H Q,t' a H Q->t a H Q):PA X e t':=λpos b s a H Q I z=>h pos b s a H Q I (i a H Q z)
section
variable {X:Cx}{W:WT}{α β γ:Type}{R:ae b0->Hp->γ->β->Prop}
theorem tG.HH {n:Hn D}{k:D->Hn γ}{ds:ae D}{vs:ae V}{l:St}{H:Hp}{Q : β->Hp->Prop}
  (h:tG X W R ds vs (λf S=>aj (n f S) λd i=>k d f i) l H Q):tE X W n l H λv t => ∃ d,tG X W R (d::ds) (v::vs) (k d) l t Q:=by
 obtain⟨J,f,S,r,u,c,a,e,z⟩:=h;cases q:n f S with
 |none=>simp[q] at e
 |some o =>
  obtain⟨A,i⟩:=o;simp only[q] at e;cases A with
  |error x =>
   cases e;exact⟨J,f,S,.error x,_,c,.nil,q,z⟩
  |ok d =>
   refine⟨J,f,S,.ok d,i,c,.nil,q,λy t v x w m=>⟨d,y,f,i,r,u,c.re x w,.cons m (a.ex x),e,?_⟩⟩;cases r with
   |ok g=>exact λs j b x2 p B=>z s j b (x.trans x2) p B
   |error g=>exact λs j x2 p=>z s j (x.trans x2) p
theorem tG.Km {n:Hn (ae D)}{k:ae D->Hn γ}{ds:ae D}{vs:ae V}{l:St}{H:Hp}{Q : β->Hp->Prop}
  (h:tG X W R ds vs (λf S=>aj (n f S) λd i=>k d f i) l H Q):tA X W n l H λus t => ∃ es,es.length=us.length/\tG X W R (es++ds) (us++vs) (k es) l t Q:=by
 obtain⟨J,f,S,r,u,c,a,e,z⟩:=h;cases q:n f S with
 |none=>simp[q] at e
 |some o =>
  obtain⟨A,i⟩:=o;simp only[q] at e;cases A with
  |error x =>
   cases e;exact⟨J,f,S,.error x,_,c,.nil,q,z⟩
  |ok d =>
   refine⟨J,f,S,.ok d,i,c,.nil,q,λy t v x w m=>⟨d,Hz.length m,y,f,i,r,u,c.re x w,Hz.append m (a.ex x),e,?_⟩⟩;cases r with
   |ok g=>exact λs j b x2 p B=>z s j b (x.trans x2) p B
   |error g=>exact λs j x2 p=>z s j (x.trans x2) p
theorem tG.Ll {n:Hn e8}{k:e8->Hn γ}{ds:ae D}{vs:ae V}{l:St}{H:Hp}{Q : β->Hp->Prop}
  (h:tG X W R ds vs (λf S=>aj (n f S) λd i=>k d f i) l H Q):tT X W n l H λb t=>tG X W R ds vs (k b) l t Q:=by
 obtain⟨J,f,S,r,u,c,a,e,z⟩:=h;cases q:n f S with
 |none=>simp[q] at e
 |some o =>
  obtain⟨A,i⟩:=o;simp only[q] at e;cases A with
  |error x =>
   cases e;exact⟨J,f,S,.error x,_,c,.nil,q,z⟩
  |ok d =>
   refine⟨J,f,S,.ok d,i,c,.nil,q,λy t v x w m=>?_⟩;cases m;refine⟨y,f,i,r,u,c.re x w,a.ex x,e,?_⟩;cases r with
   |ok g=>exact λs j b x2 p B=>z s j b (x.trans x2) p B
   |error g=>exact λs j x2 p=>z s j (x.trans x2) p
end
section
variable {X:Cx}{pins:Hr}{σ:St}{H:Hp}{s:cc}{J:ae b0}
mutual
theorem At.reads (I:Inv X pins σ H s):∀ {d:D}{v:V}{u:ay}{p:e9},At X.K H J d v->RelV v u->toPy d=aa p->p.canLay0=a6/\∃ g,U9 s.heap u p g
 | .Ic,_,_,_,h,r,e=>by
  have h:=At.Jg.mp h;subst h;simp[toPy] at e;subst e;cases r;exact⟨rfl,[],.none⟩
 | .bl b,_,_,_,h,r,e=>by
  have h:=At.HP.mp h;subst h;simp[toPy] at e;subst e;cases r;exact⟨rfl,[],.bool b⟩
 | .int i,_,_,_,h,r,e=>by
  have h:=At.Hw.mp h;subst h;simp[toPy] at e;subst e;obtain⟨t,rfl⟩:=r;exact⟨rfl,[],.int i t⟩
 | .str x,_,_,_,h,r,e=>by
  obtain⟨ev,B⟩:=At.HE.mp h;subst ev;simp[toPy] at e;subst e;obtain⟨t,rfl⟩:=r;exact⟨by rw[Nt];exact B.2,[],.str x t⟩
 | .tup y,_,_,_,h,r,e=>by
  obtain⟨a,w,rfl,q,z⟩:=At.HK.mp h;rw[toPy] at e;obtain⟨A,l,k⟩:=dv.mp e;subst k;cases r;obtain⟨its,f,⟨o,j,hc,n,hd⟩,_⟩:=I.tuple q.sq;obtain⟨c,g,m⟩:=Hz.readsAll I z f l;exact⟨by rw[Nt];exact c,_,.tuple j hc hd (by simpa using m)⟩
 | .lst y,_,_,_,h,r,e=>by
  obtain⟨a,w,rfl,q,z⟩:=At.HN.mp h;rw[toPy] at e;obtain⟨A,l,k⟩:=dv.mp e;subst k;cases r;obtain⟨its,f,⟨o,n,j,hc,_,hd⟩,_⟩:=I.list q.sq;obtain⟨c,g,m⟩:=Hz.readsAll I z f l;exact⟨by rw[Nt];exact c,_,.list j hc hd (by simpa using m)⟩
 | .set _,_,_,_,_,_,e=>by simp[toPy] at e
 | .loc _,_,_,_,_,_,e=>by simp[toPy] at e
 | .fn _ _,_,_,_,_,_,e=>by simp[toPy] at e
theorem Hz.readsAll (I:Inv X pins σ H s):∀ {ds:ae D}{vs:ae V}{us:ae ay}{a:ae e9},Hz X.K H J ds vs->Vals vs us->cb ds=aa a->m6 a=a6/\∃ b,Rf s.heap us a b
 |[],_,_,_,h,r,e=>by
  have h:=Hz.HA.mp h;subst h;simp[cb] at e;subst e;cases r;exact⟨rfl,[],.nil⟩
 |d::ds,_,_,_,h,r,e=>by
  obtain⟨v,vs,rfl,p,q⟩:=Hz.Hy.mp h;rw[cb] at e;obtain⟨u,l,j⟩:=kl.mp e;obtain⟨t,g,c⟩:=dv.mp j;subst c;cases r with
  |cons f o =>
   obtain⟨k,b,m⟩:=At.reads I p f l;obtain⟨i,bs,n⟩:=Hz.readsAll I q o g;exact⟨by rw[m6,k,i];rfl,_,.cons m n⟩
end
end
section
variable {K:Ho}
def S6 (K:Ho)(g:D->ax D):V->Hp->VK->Prop:=λx H Q => ∃ J c d,(∀ a∈J,H a≠av)/\At K H J c x/\g c=aa d/\∀ b v,HJ H b->At K b J d v->Q v b
noncomputable def Po (K:Ho)(g:D->D->ax D):R2:=λx y H Q => ∃ J e c d,(∀ a∈J,H a≠av)/\At K H J e x/\At K H J c y/\g e c=aa d/\∀ b v,HJ H b->At K b J d v->Q v b
def S7 (K:Ho)(g:ae D->ax D):ae V->Hp->VK->Prop:=λe H Q => ∃ J c d,(∀ a∈J,H a≠av)/\Hz K H J c e/\g c=aa d/\∀ b v,HJ H b->At K b J d v->Q v b
end
theorem xA {H:Hp}{J:ae b0}(h:∀ a∈J,H a≠av){p:b0}(n:H p=av):p∉J:=λm=>h p m n
theorem At.JD {K:Ho}{H:Hp}{J:ae b0}{p:b0}{ds:ae D}{xs:ae V}(h:Hz K H J ds xs)(n:H p=av)(b:∀ a∈J,H a≠av)(hz:xs.length<=dk):At K (upd H p (.tup xs)) J (.tup ds) (.ref p):=
 At.HK.mpr ⟨p,xs,rfl,.inl ⟨.inl HG,xA b n,hz⟩,h.ex (Ex.same (aO n _))⟩
theorem At.IW {K:Ho}{H:Hp}{J:ae b0}{p:b0}{ds:ae D}{xs:ae V}(h:Hz K H J ds xs)(n:H p=av)(b:∀ a∈J,H a≠av)(hz:xs.length<=dk):At K (upd H p (.lst xs)) J (.lst ds) (.ref p):=
 At.HN.mpr ⟨p,xs,rfl,.inl ⟨.inl HG,xA b n,hz⟩,h.ex (Ex.same (aO n _))⟩
section
variable {X:Cx}{W:WT}
theorem tG.mono {α j:Type}{R:ae b0->Hp->α->j->Prop}{ds:ae D}{vs:ae V}{g:Hn α}{f:St}{H:Hp}{Q d : j->Hp->Prop}(h:tG X W R ds vs g f H Q)(i:∀ b H',Q b H'->d b H'):tG X W R ds vs g f H d:=by
 obtain⟨J,m,S,r,k,c,a,e,z⟩:=h;refine⟨J,m,S,r,k,c,a,e,?_⟩;cases r with
 |ok g=>exact λl H' b x s r=>i _ _ (z l H' b x s r)
 |error g=>exact z
theorem HW.all {K:Ho}{J:ae b0}{S:Hu}{H:Hp}(s:HW K J S H):∀ a∈J,H a≠av:=λ_ m=>s.tracked m
theorem tG.Qd {g:D->ax D}{b:D}{x:V}{i:St}{H:Hp}{Q:VK}(h:tG X W (RD X) [b] [x] (λ_ S=>aQ (g b) S) i H Q):S6 X.K g x H Q:=by
 obtain⟨J,l,S,r,k,c,a,e,z⟩:=h;obtain⟨f,_⟩:=a.HF;cases q:g b with
 |none=>simp[q] at e
 |some d =>
  simp only[q,cA,HC] at e;cases e;exact⟨J,b,d,c.Ie.all,f,q,λj v s m=>z J j v (Ex.same s) (c.Ie.same s) m⟩
theorem tG.S8 {g:D->D->ax D}{f b:D}{x y:V}{j:St}{H:Hp}{Q:VK}(h:tG X W (RD X) [b,f] [y,x] (λ_ S=>aQ (g f b) S) j H Q):Po X.K g x y H Q:=by
 obtain⟨J,o,S,r,n,c,a,e,z⟩:=h;obtain⟨l,a⟩:=a.HF;obtain⟨i,_⟩:=a.HF;cases q:g f b with
 |none=>simp[q] at e
 |some d =>
  simp only[q,cA,HC] at e;cases e;exact⟨J,f,b,d,c.Ie.all,i,l,q,λk v s m=>z J k v (Ex.same s) (c.Ie.same s) m⟩
theorem tG.UE {g:ae D->ax D}{ds:ae D}{xs:ae V}{b:St}{H:Hp}{Q:VK}(h:tG X W (RD X) ds xs (λ_ S=>aQ (g ds) S) b H Q):S7 X.K g xs H Q:=by
 obtain⟨J,j,S,r,i,c,a,e,z⟩:=h;cases q:g ds with
 |none=>simp[q] at e
 |some d =>
  simp only[q,cA,HC] at e;cases e;exact⟨J,ds,d,c.Ie.all,a,q,λf v s m=>z J f v (Ex.same s) (c.Ie.same s) m⟩
abbrev Lm (X:Cx)(f:ay->ay->ZI ay)(g:D->D->ax D):Prop:=K_ X f (Po X.K g)
abbrev UG (X:Cx)(f:ay->ZI ay)(g:D->ax D):Prop:=RS X f (S6 X.K g)
abbrev jU (X:Cx)(f:ay)(g:ae D->ax D):Prop:=dS X f (S7 X.K g)
noncomputable def af (i:Nat):Hn D:=λa S=>match a[i]? with
 |aa (aa d)=>HC d S
 |_=>av
theorem ab {i:Nat}{x:ej}{pos:N5}(f:X.N[i]?=aa x:=by rfl)(a:RI X.env.scope x:=by first |exact Zd rfl |exact Xg (Zd rfl) |exact Xg (Xg rfl))(hd:(x==("__debug__":ej))=bo:=by decide)
  (j:(x==("__classdict__":ej))=bo:=by decide):SE X W (.Name x pos) (af i):=(zU f a hd j).imp λl H Q h=>by
 obtain⟨J,m,S,r,k,c,_,e,z⟩:=h;unfold af at e;rw[0]
 ·rename_i d q;obtain⟨v,b,g⟩:=c.env i d q;cases e;exact⟨v,b,z J H v Ex.refl c.Ie g⟩
 cases e
noncomputable def ar (d:D):Hn D:=λ_ S=>HC d S
theorem jx {d:D}{v:V}{b:St}{H:Hp}{Q:VK}(h:tE X W (ar d) b H Q)(a:∀ J,At X.K H J d v):Q v H:=by obtain⟨J,f,S,r,g,c,_,e,z⟩:=h;cases e;exact z J H v Ex.refl c.Ie (a J)
theorem ah {i j pos}:SE X W (.Constant (.int i) j pos) (ar (.int i)):=Pa.imp λa H Q h=>jx h λ_=>#[14]
theorem dH {b j pos}:SE X W (.Constant (.bool b) j pos) (ar (.bl b)):=Qz.imp λa H Q h=>jx h λ_=>At.HP.mpr rfl
theorem Dj {j pos}:SE X W (.Constant .none j pos) (ar .Ic):=Pb.imp λa H Q h=>jx h λ_=>At.Jg.mpr rfl
theorem dg {x j pos}(a:N2 x:=by exact⟨by decide,by decide⟩):SE X W (.Constant (.str x) j pos) (ar (.str x)):=Pc.imp λb H Q h=>jx h λ_=>At.HE.mpr ⟨rfl,a⟩
def ve (K:Ho)(u:ay)(d:D):Prop:=∃ v,RelV v u/\∀ H J,At K H J d v
theorem Bt {x:ej}{d:D}{u:ay}{pos:N5}(c:X.mg x=aa u)(ha:ve X.K u d)(b:Gl X x:=by rfl)(hd:(x==("__debug__":ej))=bo:=by decide):SE X W (.Name x pos) (ar d):=by obtain⟨v,r,a⟩:=ha;exact(BM b c r hd).imp λe H Q h=>jx h λJ=>a H J
noncomputable def aA (g:D->D->ax D)(c e:Hn D):Hn D:=λa S=>aj (c a S) λx b=>aj (e a b) λy d=>aQ (g x y) d
noncomputable def Ju (g:D->ax D)(b:Hn D):Hn D:=λc S=>aj (b c S) λx a=>aQ (g x) a
variable {a b c:gj}{fa fb fc:Hn D}{pos:N5}
theorem kU {g:D->D->ax D}{a:St}{H:Hp}{Q:VK}(h:tE X W (aA g fa fb) a H Q):QA (Po X.K g) (tE X W fa) (tE X W fb) a H Q:=
 (tG.HH h).mono λv j ⟨d,c⟩=>(tG.HH c).mono λf e ⟨i,b⟩=>tG.S8 b
theorem ap {c:Operator}{g:D->D->ax D}(d:Lm X (H4 c) g)(ha:SE X W a fa)(hb:SE X W b fb):SE X W (.BinOp a c b pos) (aA g fa fb):=
 (E8 d ha hb).imp λe H Q h=>kU h
theorem tM {b:UnaryOp}{g:D->ax D}(e:UG X (unaryOp b) g)(ha:SE X W a fa):SE X W (.UnaryOp b a pos) (Ju g fa):=
 (E6 e ha).imp λf H Q h=>(tG.HH h).mono λv i ⟨d,c⟩=>tG.Qd c
theorem dG {c:Vm}{g:D->D->ax D}(e:Lm X (lg c) g)(ha:SE X W a fa)(hb:SE X W b fb)(d:mc c b=bo:=by first |exact z7 _ (by decide) (by decide) |with_unfolding_all rfl):SE X W (.Compare a [c] [b] pos) (aA g fa fb):=
 (BP e ha hb d).imp λf H Q h=>kU h
noncomputable def Mh:D->ax e8
 | .bl b=>aa b
 |_=>av
noncomputable def aR (f:Hn D):Hn e8:=λb S=>aj (f b S) λx a=>aQ (Mh x) a
theorem gN {f:Hn D}{a:St}{H:Hp}{Q:e8->Hp->Prop}(h:tT X W (aR f) a H Q):JB (tE X W f) a H Q:=
 (tG.HH h).mono λv i b=>by
  obtain⟨d,g⟩:=b
  obtain⟨J,l,S,r,j,c,m,e,z⟩:=g;obtain⟨m,_⟩:=m.HF;cases d with
  |bl k =>
   cases e;exact⟨k,At.HP.mp m,z J i k Ex.refl c.Ie rfl⟩
  |_=>simp[Mh] at e
theorem JB.mono {t t':TE}(i:∀ a H Q,t' a H Q->t a H Q){a:St}{H:Hp}{Q:e8->Hp->Prop}(h:JB t' a H Q):JB t a H Q:=i _ _ _ h
theorem aX {c:Vm}{g:D->D->ax D}(e:Lm X (lg c) g)(ha:SE X W a fa)(hb:SE X W b fb)(d:mc c b=bo:=by first |exact z7 _ (by decide) (by decide) |with_unfolding_all rfl) :
  KD X W (.Compare a [c] [b] pos) (aR (aA g fa fb)):=
 (Bz e ha hb d).imp λf H Q h=>JB.mono (λ_ _ _=>kU) (gN h)
theorem bI (ha:SE X W a fa)(b:∀ whole,isTrue a X.env whole=(do let v ← whole;ZF a.pos;X4 [v] (truthy v)):=by intro _;rfl):KD X W a (aR fa):=
 (Dx ha b).imp λc H Q h=>gN h
noncomputable def ir (g g':D->D->ax D)(fa fb fc:Hn D):Hn D:=λa S=>aj (fa a S) λx c=>aj (fb a c) λy e=>aj (aQ ((g x y).bind Mh) e) λk b =>
 if k=a6 then aj (fc a b) λz d=>aQ (g' y z) d else HC (.bl bo) b
theorem pe {g g':D->D->ax D}{l:St}{H:Hp}{Q:VK}(h:tE X W (ir g g' fa fb fc) l H Q):vB (Po X.K g) (Po X.K g') (tE X W fa) (tE X W fb) (tE X W fc) l H Q:=
 (tG.HH h).mono λx U ⟨A,L⟩=>(tG.HH L).mono λy C E=>by
  obtain⟨a,P⟩:=E
  obtain⟨J,p,S,r,u,c,m,e,z⟩:=P;obtain⟨B,R⟩:=m.HF;obtain⟨F,_⟩:=R.HF;cases q:g A a with
  |none=>simp[q] at e
  |some d =>
   cases d with
   |bl k =>
    simp only[q,p0,Mh,cA,cZ] at e;refine⟨J,A,a,_,c.Ie.all,F,B,q,λi v j G=>?_⟩;cases At.HP.mp G;refine⟨k,rfl,?_⟩;have f:Ex J C J i:=Ex.same j
    have t:FP X W (RD X) J i r u Q:=by
     cases r with
     |ok w=>exact λo n b x s r=>z o n b (f.trans x) s r
     |error w=>exact λo n x s=>z o n (f.trans x) s
    cases k with
    |true =>
     rw[dw rfl];rw[dw rfl] at e;have N:tG X W (RD X) [a] [y] (λp O=>aj (fc p O) λz M=>aQ (g' a z) M) l i Q:=⟨J,p,S,r,u,c.re f (c.Ie.same j),.cons (B.ex f) .nil,e,t⟩;exact(tG.HH N).mono λw V ⟨T,I⟩=>tG.S8 I
    |false =>
     rw[ee #[1]];rw[ee #[1]] at e;cases e;exact t J i _ Ex.refl (c.Ie.same j) (At.HP.mpr rfl)
   |_=>simp[q,Mh] at e
theorem kB {e d:Vm}{g g':D->D->ax D}(i:Lm X (lg e) g)(j:Lm X (lg d) g')(ha:SE X W a fa)(hb:SE X W b fb)(hc:SE X W c fc)
  (f:Zb [e,d] [b,c]=bo:=by with_unfolding_all rfl):SE X W (.Compare a [e,d] [b,c] pos) (ir g g' fa fb fc):=
 (zY i j ha hb hc f).imp λk H Q h=>pe h
theorem zi {e d:Vm}{g g':D->D->ax D}(i:Lm X (lg e) g)(j:Lm X (lg d) g')(ha:SE X W a fa)(hb:SE X W b fb)(hc:SE X W c fc)
  (f:Zb [e,d] [b,c]=bo:=by with_unfolding_all rfl):KD X W (.Compare a [e,d] [b,c] pos) (aR (ir g g' fa fb fc)):=
 (zN i j ha hb hc f).imp λk H Q h=>JB.mono (λ_ _ _=>pe) (gN h)
noncomputable def je (f g:Hn e8):Hn e8:=λb S=>aj (f b S) λk a=>if k=a6 then g b a else HC bo a
noncomputable def jE (f g:Hn e8):Hn e8:=λb S=>aj (f b S) λk a=>if k=a6 then HC a6 a else g b a
noncomputable def dE (f:Hn e8):Hn e8:=λb S=>aj (f b S) λk a=>HC (!k) a
variable {ga gb:Hn e8}{rest:ae gj}
theorem ng {k:e8}{a:St}{H:Hp}{Q:e8->Hp->Prop}(h:tG X W RB [] [] (λ_ S=>HC k S) a H Q):Q k H:=by obtain⟨J,b,S,r,d,c,_,e,z⟩:=h;cases e;exact z J H k Ex.refl c.Ie rfl
theorem jk (ha:KD X W a ga):SW X W (.BoolOp .And [a] pos) ga:=By ha
theorem fJ (ha:KD X W a ga):SW X W (.BoolOp .Or [a] pos) ga:=Dt ha
theorem hU (ha:KD X W a ga)(hb:SW X W (.BoolOp .And (b::rest) pos) gb):SW X W (.BoolOp .And (a::b::rest) pos) (je ga gb):=
 (Du ha hb).imp λd H Q h=>(tG.Ll h).mono λk e c=>by
  cases k with
  |true=>rw[dw rfl];exact c
  |false=>rw[ee #[1]];exact ng c
theorem gg (ha:KD X W a ga)(hb:SW X W (.BoolOp .Or (b::rest) pos) gb):SW X W (.BoolOp .Or (a::b::rest) pos) (jE ga gb):=
 (EZ ha hb).imp λd H Q h=>(tG.Ll h).mono λk e c=>by
  cases k with
  |true=>rw[dw rfl];exact ng c
  |false=>rw[ee #[1]];exact c
theorem bP {e:gj}(h:SW X W e ga):KD X W e ga:=PW.pt h
theorem cC (ha:KD X W a ga):KD X W (.UnaryOp .Not a pos) (dE ga):=(Dy ha).imp λc H Q h=>(tG.Ll h).mono λk d b=>ng b
noncomputable def kb (f g:Hn D):Hn D:=λb S=>aj (f b S) λx c=>aj (aQ (Mh x) c) λk a=>if k=a6 then g b a else HC (.bl bo) a
noncomputable def S9 (f g:Hn D):Hn D:=λb S=>aj (f b S) λx c=>aj (aQ (Mh x) c) λk a=>if k=a6 then HC (.bl a6) a else g b a
noncomputable def Cz (f:Hn D):Hn D:=λc S=>aj (f c S) λx a=>aj (aQ (Mh x) a) λk b=>HC (.bl (!k)) b
theorem S_ {f:Hn D}{k:e8->Hn D}{g:St}{H:Hp}{Q:VK}(h:tE X W (λa S=>aj (f a S) λx o=>aj (aQ (Mh x) o) λb S2=>k b a S2) g H Q) :
  tE X W f g H λx i => ∃ c,x = .bl c/\tE X W (k c) g i Q:=(tG.HH h).mono λv i j=>by
 obtain⟨d,n⟩:=j
 obtain⟨J,a,S,r,l,c,m,e,z⟩:=n;obtain⟨m,_⟩:=m.HF;cases d with
 |bl b=>exact⟨b,At.HP.mp m,J,a,S,r,l,c,.nil,e,z⟩
 |_=>simp[Mh] at e
theorem v4 {k:e8}{a:St}{H:Hp}{Q:VK}(h:tE X W (λ_ S=>HC (.bl k) S) a H Q):Q (.bl k) H:=jx (d:=.bl k) h λ_=>At.HP.mpr rfl
theorem hX {op}(ha:SE X W a fa):SE X W (.BoolOp op [a] pos) fa:=DG ha
theorem dU (ha:SE X W a fa)(hb:SE X W (.BoolOp .And (b::rest) pos) fb):SE X W (.BoolOp .And (a::b::rest) pos) (kb fa fb):=
 (DL ha hb).imp λf H Q h=>(S_ (k:=λk d S=>if k=a6 then fb d S else HC (.bl bo) S) h).mono λv g ⟨k,e,c⟩=>⟨k,e,by
  cases k with
  |true=>rw[dw rfl];exact c
  |false=>rw[ee #[1]];exact v4 c⟩
theorem EV (ha:SE X W a fa)(hb:SE X W (.BoolOp .Or (b::rest) pos) fb):SE X W (.BoolOp .Or (a::b::rest) pos) (S9 fa fb):=
 (E7 ha hb).imp λf H Q h=>(S_ (k:=λk d S=>if k=a6 then HC (.bl a6) S else fb d S) h).mono λv g ⟨k,e,c⟩=>⟨k,e,by
  cases k with
  |true=>rw[dw rfl];exact v4 c
  |false=>rw[ee #[1]];exact c⟩
theorem zA (ha:SE X W a fa):SE X W (.UnaryOp .Not a pos) (Cz fa):=
 (DH ha).imp λc H Q h=>(S_ (k:=λk _ S=>HC (.bl (!k)) S) h).mono λv d ⟨k,e,b⟩=>⟨k,e,v4 b⟩
noncomputable def u6 (t:Hn e8)(f g:Hn D):Hn D:=λa S=>aj (t a S) λk b=>if k=a6 then f a b else g a b
theorem lA (hc:KD X W c ga)(ha:SE X W a fa)(hb:SE X W b fb):SE X W (.IfExp c a b pos) (u6 ga fa fb):=
 (zX hc ha hb).imp λe H Q h=>(tG.Ll h).mono λk f d=>by
  cases k with
  |true=>rw[dw rfl];exact d
  |false=>rw[ee #[1]];exact d
noncomputable def aD:Hn (ae D):=λ_ S=>HC [] S
noncomputable def ag (f:Hn D)(g:Hn (ae D)):Hn (ae D):=λa S=>aj (f a S) λd c=>aj (g a c) λb e=>HC (d::b) e
variable {es:ae gj}{gs:Hn (ae D)}
theorem ai:SA X W [] aD:=Ik.imp λa H Q h=>by obtain⟨J,b,S,r,d,c,_,e,z⟩:=h;cases e;exact z J H _ Ex.refl c.Ie .nil
theorem ac {e:gj}(ha:SE X W e fa)(hr:SA X W es gs)(o:dm (e::es) X.env=(bo,lX e X.env)::dm es X.env:=by rfl):SA X W (e::es) (ag fa gs):=
 (cn ha hr o).imp λu H Q h=>(tG.HH h).mono λv w ⟨d,l⟩=>(tG.Km l).mono λa g j=>by
  obtain⟨b,f,s⟩:=j
  obtain⟨J,A,S,r,t,c,m,e,z⟩:=s;cases e;refine z J g _ Ex.refl c.Ie ?_
  have split:∀ {b:ae D}{a:ae V},b.length=a.length->Hz X.K g J (b++[d]) (a++[v])->Hz X.K g J b a/\At X.K g J d v:=by
   intro b
   induction b with
   |nil=>intro a f m;cases a with
    |nil=>exact⟨.nil,m.HF.1⟩
    |cons _ _=>simp at f
   |cons x n k=>intro a f m;cases a with
    |nil=>simp at f
    |cons y p =>
     have q:=Hz.HF (show Hz X.K g J (x::(n++[d])) (y::(p++[v])) from m);have i:=k (by simpa using f) q.2;exact⟨.cons q.1 i.1,i.2⟩
  have q:=split f m;exact .cons q.2 q.1
noncomputable def Ky (ds:ae D)(d:D):ax D:=if ds.length<=dk then aa d else av
noncomputable def lQ (g:Hn (ae D)):Hn D:=λc S=>aj (g c S) λa b=>aQ (Ky a (.tup a)) b
noncomputable def mY (g:Hn (ae D)):Hn D:=λc S=>aj (g c S) λa b=>aQ (Ky a (.lst a)) b
theorem eU {k}(h:SA X W es gs):SE X W (.Tuple es k pos) (lQ gs):=(DF h).imp λl H Q h=>(tG.Km h).mono λg n f=>by
 obtain⟨j,d,b⟩:=f
 rw[eM,eM] at b;obtain⟨J,o,S,r,i,c,m,e,z⟩:=b;unfold Ky at e;rw[0]
 ·rename_i le;cases e;exact⟨by rw[← d];exact le,λp a=>z J _ _ (Ex.same (aO a _)) (c.Ie.same (aO a _)) (At.JD m a c.Ie.all (by rw[← d];exact le))⟩
 cases e
theorem fN (h:SA X W es gs):SE X W (.List es pos) (mY gs):=(zW h).imp λk H Q h=>(tG.Km h).mono λg l f=>by
 obtain⟨j,d,b⟩:=f
 rw[eM,eM] at b;obtain⟨J,n,S,r,i,c,m,e,z⟩:=b;unfold Ky at e;rw[0]
 ·rename_i le;cases e;exact⟨by rw[← d];exact le,λp a=>z J _ _ (Ex.same (aO a _)) (c.Ie.same (aO a _)) (At.IW m a c.Ie.all (by rw[← d];exact le))⟩
 cases e
noncomputable def a7 (g:ae D->ax D)(t:Hn (ae D)):Hn D:=λc S=>aj (t c S) λa b=>aQ (g a) b
theorem pi {g:ae D->ax D}{a:St}{H:Hp}{Q:VK}(h:tE X W (a7 g gs) a H Q):RT (S7 X.K g) (tA X W gs) a H Q:=
 (tG.Km h).mono λe i c=>by
  obtain⟨d,f,b⟩:=c
  rw[eM,eM] at b;exact tG.UE b
theorem aH {g:ae D->ax D}{id:NA}{x:ej}{p:N5}{e:gj}(hc:jU X (.builtin id) g)(d:X.mg x=av)(c:lC x=aa (.builtin id))(ha:SA X W (e::es) gs)(b:Gl X x:=by rfl)
  (j:x≠"__name__":=by decide) (f:(x==("__debug__":ej))=bo:=by decide) (a:dm (e::es) X.env=(bo,lX e X.env)::dm es X.env:=by rfl) (i:(mf pos (dm es X.env)).any (·.1)=bo:=by rfl) :
  SE X W (.Call (.Name x p) (e::es) [] pos) (a7 g gs):=by
 refine PE.imp (gW hc b d c ha j f a i) λk H Q h=>pi h
theorem cQ {g:ae D->ax D}{T:NA}{x:ej}{p:N5}{e:gj}(hc:jU X (.type T) g)(c:X.mg x=av)(d:lC x=aa (.type T))(ha:SA X W (e::es) gs)(b:Gl X x:=by rfl)
  (j:x≠"__name__":=by decide) (f:(x==("__debug__":ej))=bo:=by decide) (a:dm (e::es) X.env=(bo,lX e X.env)::dm es X.env:=by rfl) (i:(mf pos (dm es X.env)).any (·.1)=bo:=by rfl) :
  SE X W (.Call (.Name x p) (e::es) [] pos) (a7 g gs):=by
 refine PE.imp (fB hc b c d ha j f a i) λk H Q h=>pi h
end
section
variable {X:Cx}
theorem rL {x y:ej}(b:nX x=a6)(a:nX y=a6):nX (x++y)=a6:=by
 unfold nX at *
 rw[show (x++y).cps=x.cps++y.cps from rfl,Array.all_append,b,a];rfl
noncomputable def bg:D->D->ax D
 | .int i,.int j=>aa (.int (i+j))
 | .str x,.str y=>if x.length+y.length<=dk then aa (.str (x++y)) else av
 | .tup b,.tup a=>if b.length+a.length<=dk then aa (.tup (b++a)) else av
 | .lst b,.lst a=>if b.length+a.length<=dk then aa (.lst (b++a)) else av
 |_,_=>av
theorem AV {prog:ew}{w:hB}{A:hG}{E:Hq}{s:cc}{t b:b0}{vs e:ae ay}{Q:Hq}(i:Xb s.heap t vs.toArray)(hb:Xb s.heap b e.toArray)(g:vs=[])
  (h:Q (.ref b) s):d6 #[8] A (H4 .Add (.ref t) (.ref b)) Q E s:=by
 obtain⟨⟨cls,j,data,m⟩,f,hc,n,hd⟩:=id i;obtain⟨⟨o,l,data2,k⟩,d,a,n2,c⟩:=id hb;simp only at hc hd a c;subst hc hd a c
 exact V0 ⟨_,f,rfl⟩ ⟨_,d,rfl⟩ Vo Yo PR Pz (O1 _ _)
   (tuple_addW0 t b vs.toArray e.toArray n n2 j l m k (by simp[g])) ⟨f,d,h⟩
theorem wJ {prog:ew}{w:hB}{A:hG}{E:Hq}{s:cc}{t b:b0}{vs d:h8 ay}{Q:Hq}(g:PlainL s.heap t vs)(hb:PlainL s.heap b d)
  (h:Q (#[11]) { s with heap:=s.heap.push { cls:=.type "list",data:=.seq (vs++d) } }) (hsz:vs.size+d.size<=dk):d6 #[8] A (H4 .Add (.ref t) (.ref b)) Q E s:=by
 obtain⟨⟨cls,i,data,l⟩,n,f,hc,_,hd⟩:=id g;obtain⟨⟨m,k,data2,j⟩,n2,e,a,_,c⟩:=id hb;simp only at hc hd a c;subst hc hd a c
 exact V0 ⟨_,f,rfl⟩ ⟨_,e,rfl⟩ noFill_list_add seq_list_add PySem.F.slot_list_add PySem.F.entry_list_add (PySem.F.args_list_add_2 _ _)
   (list_addW t b vs d n n2 i k l j hsz) ⟨f,e,h⟩
theorem nQ (x y:ej):(x++y).length=x.length+y.length:=by show (x.cps++y.cps).size=_;rw[Y0];rfl
theorem aK:Lm X (H4 .Add) bg:=by
 intro c s t H x y v u Q I n m h;obtain⟨J,T,S,d,L,f,l,e,q⟩:=h;unfold bg at e;rw[0]
 ·rename_i i j;cases e;cases At.Hw.mp f;cases At.Hw.mp l;exact DP c s t H _ _ v u Q I n m ⟨i,j,rfl,rfl,q H _ (HJ.refl H) (#[14])⟩
 ·rename_i a b;rw[0]
  ·rename_i le;cases e;obtain⟨ex,N⟩:=At.HE.mp f;obtain⟨O,R⟩:=At.HE.mp l;subst ex O;exact v0 c s t H _ _ v u Q I n m ⟨a,b,rfl,rfl,le,q H _ (HJ.refl H) (At.HE.mpr ⟨rfl,by rw[nQ];exact le,rL N.2 R.2⟩)⟩
  cases e
 ·rename_i E G;rw[0]
  ·rename_i le;cases e;obtain⟨a,k,rfl,t1,m1⟩:=At.HK.mp f;obtain⟨b,o,rfl,t2,m2⟩:=At.HK.mp l;by_cases K:k=[]
   ·subst K;cases n;cases m;obtain⟨its,r,A,_⟩:=I.tuple t1.sq;obtain⟨B,C,D,_⟩:=I.tuple t2.sq;have M:E=[]:=r3.mp m1.length;subst M;refine AV A D (r.HA.mpr rfl) ⟨.ref b,H,I,rfl,q H _ (HJ.refl H) l⟩
   refine BT c s t H _ _ v u Q I n m ⟨a,b,k,o,rfl,rfl,t1.sq,t2.sq,K,by rw[← m1.length,← m2.length];exact le,λF=>?_,λF p g=>?_⟩
   ·subst F;have P:G=[]:=r3.mp m2.length;subst P;exact q H _ (HJ.refl H) (by rw[eM];exact f)
   exact q _ _ (aO g _) (At.JD (m1.append m2) g L (by rw[cq,← m1.length,← m2.length];exact le))
  cases e
 ·rename_i E G;rw[0]
  ·rename_i le;cases e;obtain⟨a,k,rfl,t1,m1⟩:=At.HN.mp f;obtain⟨b,o,rfl,t2,m2⟩:=At.HN.mp l;cases n;cases m;obtain⟨its,r,A,_⟩:=I.list t1.sq;obtain⟨B,C,D,_⟩:=I.list t2.sq;have w:k.length+o.length<=dk:=by rw[← m1.length,← m2.length];exact le
   have g:=I.fresh;refine wJ A D ?_ (by rw[eX,eX,← r.length,← C.length];exact w);show EP X c t Q (#[11]) { s with heap:=s.heap.push { cls:=.type "list",data:=.seq (its.toArray++B.toArray) } };refine⟨#[11],_,?_,rfl,q _ _ (aO g (.lst (k++o))) (At.IW (m1.append m2) g L (by rw[cq];exact w))⟩;have z:=I.QQ (its:=its++B) (t':=s.toks) (r.append C) (by rw[cq];exact w);simpa using z
  cases e
 cases e
noncomputable def ft:D->D->ax D
 | .int i,.int j=>aa (.int (i-j))
 |_,_=>av
noncomputable def mD (i j:Int):e8:=(dr (-(2 ^ 64)<i)&&dr (i<2 ^ 64)) ||(dr (-(2 ^ 64)<j)&&dr (j<2 ^ 64))
theorem B2 {i j:Int}(h:mD i j=a6):Ol i j:=by
 unfold mD at h;rw[SK,eL,eL] at h;rcases h with ⟨a,b⟩ |⟨a,b⟩
 ·exact .inl ⟨hM a,hM b⟩
 exact .inr ⟨hM a,hM b⟩
noncomputable def bw:D->D->ax D
 | .int i,.int j=>if 0<j/\j<1073741824 then aa (.int (i / j)) else av
 |_,_=>av
noncomputable def bp:D->D->ax D
 | .int i,.int j=>if 0<j then aa (.int (i % j)) else av
 |_,_=>av
noncomputable def mU:D->ax D
 | .int i=>aa (.int (-i))
 |_=>av
theorem h_:Lm X (H4 .Sub) ft:=by
 intro a s c H x y v u Q I k g h;obtain⟨J,m,l,d,n,b,f,e,q⟩:=h;unfold ft at e;rw[0]
 ·rename_i i j;cases e;cases At.Hw.mp b;cases At.Hw.mp f;exact DM a s c H _ _ v u Q I k g ⟨i,j,rfl,rfl,q H _ (HJ.refl H) (#[14])⟩
 cases e
theorem bE:Lm X (H4 .FloorDiv) bw:=by
 intro a s f H x y v u Q I l k h;obtain⟨J,n,m,d,o,b,g,e,q⟩:=h;unfold bw at e;rw[0]
 ·rename_i i j;rw[0]
  ·rename_i c;cases e;cases At.Hw.mp b;cases At.Hw.mp g;exact BS a s f H _ _ v u Q I l k ⟨i,j,rfl,rfl,c,q H _ (HJ.refl H) (#[14])⟩
  cases e
 cases e
theorem bu:Lm X (H4 .Mod) bp:=by
 intro a s f H x y v u Q I l k h;obtain⟨J,n,m,d,o,b,g,e,q⟩:=h;unfold bp at e;rw[0]
 ·rename_i i j;rw[0]
  ·rename_i c;cases e;cases At.Hw.mp b;cases At.Hw.mp g;exact DO a s f H _ _ v u Q I l k ⟨i,j,rfl,rfl,c,q H _ (HJ.refl H) (#[14])⟩
  cases e
 cases e
theorem nK:UG X (unaryOp .USub) mU:=by
 intro a s c H x v Q I f h;obtain⟨J,g,d,j,b,e,q⟩:=h;unfold mU at e;rw[0]
 ·rename_i i;cases e;cases At.Hw.mp b;exact C8 a s c H _ v Q I f ⟨i,rfl,q H _ (HJ.refl H) (#[14])⟩
 cases e
noncomputable def Iv (x y:D):ax D:=match toPy x,toPy y with
 |aa p,aa q=>if WG p.depth q.depth<=150 then aa (.bl (fh p q)) else av
 |_,_=>av
noncomputable def MY (x y:D):ax D:=match toPy x,toPy y with
 |aa p,aa q=>if WG p.depth q.depth<=150 then aa (.bl (!fh p q)) else av
 |_,_=>av
theorem bL (B:X.A.units+150<n0):Lm X (lg .Eq) Iv:=by
 intro a s t H x y v u Q I o l h;obtain⟨J,z,r,d,C,b,f,e,q⟩:=h;unfold Iv at e;rw[0]
 ·rename_i p m k i;rw[0]
  ·rename_i le;cases e;obtain⟨j,w,c⟩:=b.reads I o k;obtain⟨g,bs,n⟩:=f.reads I l i;exact SeqAt.compareEq_reads c n j g #[0] ⟨.bl (fh p m),H,I,rfl,q H _ (HJ.refl H) (At.HP.mpr rfl)⟩
  cases e
 cases e
theorem ua (B:X.A.units+150<n0):Lm X (lg .NotEq) MY:=by
 intro a s t H x y v u Q I o l h;obtain⟨J,z,r,d,C,b,f,e,q⟩:=h;unfold MY at e;rw[0]
 ·rename_i p m k i;rw[0]
  ·rename_i le;cases e;obtain⟨j,w,c⟩:=b.reads I o k;obtain⟨g,bs,n⟩:=f.reads I l i;exact SeqAt.compareNe_reads c n j g #[0] ⟨.bl (!fh p m),H,I,rfl,q H _ (HJ.refl H) (At.HP.mpr rfl)⟩
  cases e
 cases e
noncomputable def Kg (x y:ej):e8:=dr (x.cps.toList<y.cps.toList)
noncomputable def Jv:D->D->ax D
 | .int i,.int j=>aa (.bl (dr (i<j)))
 | .str x,.str y=>aa (.bl (Kg x y))
 |_,_=>av
noncomputable def LJ:D->D->ax D
 | .int i,.int j=>aa (.bl (dr (i<=j)))
 | .str x,.str y=>aa (.bl (!Kg y x))
 |_,_=>av
noncomputable def JU:D->D->ax D
 | .int i,.int j=>aa (.bl (dr (j<i)))
 | .str x,.str y=>aa (.bl (Kg y x))
 |_,_=>av
theorem kF:Lm X (lg .Lt) Jv:=by
 intro c s g H x y v u Q I m l h;obtain⟨J,o,n,d,p,f,k,e,q⟩:=h;unfold Jv at e;rw[0]
 ·rename_i i j;cases e;cases At.Hw.mp f;cases At.Hw.mp k;exact E9 c s g H _ _ v u Q I m l ⟨i,j,rfl,rfl,q H _ (HJ.refl H) (At.HP.mpr rfl)⟩
 ·rename_i a b;cases e;cases (At.HE.mp f).1;cases (At.HE.mp k).1;exact yz c s g H _ _ v u Q I m l ⟨a,b,rfl,rfl,q H _ (HJ.refl H) (At.HP.mpr rfl)⟩
 cases e
theorem ow:Lm X (lg .LtE) LJ:=by
 intro c s m H x y v u Q I l k h;obtain⟨J,o,n,d,r,f,g,e,q⟩:=h;unfold LJ at e;rw[0]
 ·rename_i i j;cases e;cases At.Hw.mp f;cases At.Hw.mp g;exact E_ c s m H _ _ v u Q I l k ⟨i,j,rfl,rfl,q H _ (HJ.refl H) (At.HP.mpr rfl)⟩
 ·rename_i a b;cases e;cases (At.HE.mp f).1;cases (At.HE.mp g).1;obtain⟨t,rfl⟩:=l;obtain⟨p,rfl⟩:=k;exact PySem.P.le_str ⟨.bl (!Kg b a),H,I,rfl,q H _ (HJ.refl H) (At.HP.mpr rfl)⟩
 cases e
theorem qB:Lm X (lg .Gt) JU:=by
 intro c s m H x y v u Q I l k h;obtain⟨J,o,n,d,r,f,g,e,q⟩:=h;unfold JU at e;rw[0]
 ·rename_i i j;cases e;cases At.Hw.mp f;cases At.Hw.mp g;exact Fa c s m H _ _ v u Q I l k ⟨i,j,rfl,rfl,q H _ (HJ.refl H) (At.HP.mpr rfl)⟩
 ·rename_i a b;cases e;cases (At.HE.mp f).1;cases (At.HE.mp g).1;obtain⟨t,rfl⟩:=l;obtain⟨p,rfl⟩:=k;exact PySem.P.gt_str ⟨.bl (Kg b a),H,I,rfl,q H _ (HJ.refl H) (At.HP.mpr rfl)⟩
 cases e
end
section
variable {X:Cx}{W:WT}
noncomputable def yf:D->ax (ae D)
 | .tup a=>aa a
 | .lst a=>aa a
 |_=>av
noncomputable def pS (x y:D):ax e8:=match toPy x,(yf y).bind cb with
 |aa p,aa a=>if p.depth<=150 then aa (a.any λq=>fh q p) else av
 |_,_=>av
noncomputable def inD (x y:D):ax D:=(pS x y).map .bl
noncomputable def oy (x y:D):ax D:=(pS x y).map λb => .bl (!b)
noncomputable def pT (h:j0) (p:e9) (u:ay):e8:=by
 classical exact if H:∃ q a,U9 h u q a/\q.canLay0=a6 then fh H.choose p else bo
theorem xD {h:j0}{p q:e9}{u:ay}{a:ae b0}(r:U9 h u q a)(c:q.canLay0=a6):pT h p u=fh q p:=by unfold pT;have H:∃ q a,U9 h u q a/\q.canLay0=a6:=⟨q,a,r,c⟩;rw[dif_pos H];obtain⟨d,b,e⟩:=H.choose_spec;rw[Yx _ _ _ _ _ c r b]
theorem xS {h:j0}{p:e9}:∀ {us:ae ay}{a:ae e9}{b:ae b0},Rf h us a b->m6 a=a6->us.any (pT h p)=a.any λq=>fh q p
 |_,_,_,.nil,_=>rfl
 |_,_,_,.cons r t,c=>by
  rw[m6,eL] at c;rw[J7,J7,xD r c.1,xS t c.2]
theorem qG {h:j0}:∀ {us:ae ay}{a:ae e9}{b:ae b0},Rf h us a b->m6 a=a6->∀ u∈us,∃ q bs,U9 h u q bs/\q.canLay0=a6
 |_,_,_,.nil,_,u,m=>by simp at m
 |_,_,_,.cons r t,c,u,m=>by
  rw[m6,eL] at c;rcases gi.mp m with e |m
  ·subst e;exact⟨_,_,r,c.1⟩
  exact qG t c.2 u m
theorem xu {neg:e8}{z:Vm}(hu:X.A.units+151<n0)
  (P:∀ {s:cc}{l:b0}{items:h8 ay}{x:ay}{Q:Hq}(e:ay->e8),s.heap.IsList l items->(∀ y∈items,ZS X.A.in1 s y x (e y))->Q (.bool (if neg then !items.any e else items.any e)) s->d6 #[9] X.A (lg z x (.ref l)) Q X.xe s)
  (S:∀ {s:cc}{l:b0}{items:h8 ay}{x:ay}{Q:Hq}(e:ay->e8),Xb s.heap l items->(∀ y∈items,ZS X.A.in1 s y x (e y))->Q (.bool (if neg then !items.any e else items.any e)) s->d6 #[9] X.A (lg z x (.ref l)) Q X.xe s) :
  Lm X (lg z) (λx y=>(pS x y).map λb => .bl (if neg then !b else b)):=by
 intro n s R H x y v u Q I Y E h;obtain⟨J,dx,M,d,hJ,L,C,e,q⟩:=h;obtain⟨b,i,T⟩:=dv.mp e;subst T;unfold pS at i;split at i
 ·rename_i p o ep eq;split at i
  ·rename_i le;cases i;obtain⟨Z,es,G⟩:=kl.mp eq;obtain⟨U,g,N⟩:=L.reads I Y ep;have fin:∀ {f:ae ay}{g:ae b0},Rf s.heap f o g->m6 o=a6->EP X n R Q (.bool (if neg then !f.toArray.any (pT s.heap p) else f.toArray.any (pT s.heap p))) s:=λ{f g} B c=>by rw[show f.toArray.any (pT s.heap p)=f.any (pT s.heap p) by simp,xS B c];exact⟨.bl _,H,I,rfl,q H _ (HJ.refl H) (At.HP.mpr rfl)⟩
   have ev:∀ {f:ae ay}{g:ae b0},Rf s.heap f o g->m6 o=a6->∀ y∈f.toArray,ZS X.A.in1 s y v (pT s.heap p y):=λ{f g} B c y W=>by obtain⟨K,bs,D,F⟩:=qG B c y (by simpa using W);rw[xD D F];exact SeqAt.eqAt_reads K p X.A.in1 s y v bs _ D N F U (by show X.A.units+1+WG K.depth p.depth<n0;omega)
   cases M with
   |tup V =>
    cases es;obtain⟨a,O,rfl,t,m⟩:=At.HK.mp C;cases E;obtain⟨its,r,pl,_⟩:=I.tuple t.sq;obtain⟨j,bs,k⟩:=Hz.readsAll I m r G;exact S (pT s.heap p) pl (ev k j) (fin k j)
   |lst V =>
    cases es;obtain⟨a,O,rfl,t,m⟩:=At.HN.mp C;cases E;obtain⟨its,r,pl,_⟩:=I.list t.sq;obtain⟨j,bs,k⟩:=Hz.readsAll I m r G;exact P (pT s.heap p) pl.isList (ev k j) (fin k j)
   |_=>simp[yf] at es
  cases i
 cases i
theorem CT (c:X.A.units+151<n0):Lm X (lg .In) inD:=
 xu (neg:=bo) c (λe b a q=>SeqAt.in_listAt e b a q) (λe b a q=>SeqAt.in_tupleAt e b a q)
theorem z5 (c:X.A.units+151<n0):Lm X (lg .NotIn) oy:=
 xu (neg:=a6) c (λe b a q=>SeqAt.notIn_listAt e b a q) (λe b a q=>SeqAt.notIn_tupleAt e b a q)
theorem gP {x:ej}(h:nX x=a6){c:Nat}(m:c∈x.cps.toList):c<0x110000:=by unfold nX at h;rw[YK] at h;exact hM (h c (Xf.mp m))
theorem gO {l:ae Nat}(h:∀ c∈l,c<0x110000):nX ⟨l.toArray⟩=a6:=by unfold nX;rw[YK];intro c m;exact e4 (h c (by simpa using m))
noncomputable def MZ:D->D->ax D
 | .tup a,.int i=>KN a i
 | .lst a,.int i=>KN a i
 | .str x,.int i=>(KN x.cps.toList i).map λc => .str ⟨#[c]⟩
 |_,_=>av
theorem wO {K:Ho}{H:Hp}{J:ae b0}{ds:ae D}{vs:ae V}{i:Int}{d:D}(m:Hz K H J ds vs)(h:KN ds i=aa d):∃ v,KN vs i=aa v/\At K H J d v:=by unfold KN at h ⊢;rw[← m.length];obtain⟨j,c,b⟩:=kl.mp h;obtain⟨v,e,a⟩:=m.get b;exact⟨v,by rw[c];exact e,a⟩
def UH (X:Cx)(g:D->D->ax D):Prop:=QP X (Po X.K g)
theorem UI:UH X MZ:=by
 intro value slice b s n H x y v u Q I A r h p;obtain⟨J,G,F,d,K,g,o,e,q⟩:=h;unfold MZ at e;rw[0]
 ·rename_i D i;obtain⟨a,k,rfl,t,m⟩:=At.HK.mp g;cases At.Hw.mp o;obtain⟨w,f,a1⟩:=wO m e;exact D6 value slice b s n H _ _ v u Q I A r ⟨a,k,i,w,rfl,rfl,t.sq,f,q H _ (HJ.refl H) a1⟩ p
 ·rename_i D i;obtain⟨a,k,rfl,t,m⟩:=At.HN.mp g;cases At.Hw.mp o;obtain⟨w,f,a1⟩:=wO m e;exact xr value slice b s n H _ _ v u Q I A r ⟨a,k,i,w,rfl,rfl,t.sq,f,q H _ (HJ.refl H) a1⟩ p
 ·rename_i z i;obtain⟨ex,B⟩:=At.HE.mp g;subst ex;cases At.Hw.mp o;obtain⟨c,f,E⟩:=dv.mp e;subst E;refine D7 value slice b s n H _ _ v u Q I A r ⟨z,i,c,rfl,rfl,B.1,f,q H _ (HJ.refl H) (At.HE.mpr ⟨rfl,by show 1<=dk;decide,gO (l:=[c]) λL m=>?_⟩)⟩ p;obtain⟨j,_,C,_⟩:=nr f;rw[eR.mp m];exact gP B.2 (mx C)
 cases e
variable {a b c:gj}{fa fb fc:Hn D}{pos:N5}
theorem CN {g:D->D->ax D}(hr:UH X g)(ha:SE X W a fa)(hb:SE X W b fb)(c:nv b:=by exact λ_ _=>rfl):SE X W (.Subscript a b pos) (aA g fa fb):=
 (CQ hr ha hb c).imp λd H Q h=>kU h
noncomputable def aL {α:Type}(xs:ae α)(lo hi:ax Int):ae α:=(xs.drop (HT.Ij xs.length 0 lo)).take (HT.Ij xs.length xs.length hi-HT.Ij xs.length 0 lo)
noncomputable def o7 (x:ej)(lo hi:ax Int):ej:=⟨(aL x.cps.toList lo hi).toArray⟩
noncomputable def IX (d:D)(lo hi:ax Int):ax D:=match d with
 | .tup a=>aa (.tup (aL a lo hi))
 | .lst a=>aa (.lst (aL a lo hi))
 | .str x=>aa (.str (o7 x lo hi))
 |_=>av
theorem Hz.cut {K:Ho}{H:Hp}{J:ae b0}{ds:ae D}{vs:ae V}(m:Hz K H J ds vs)(lo hi:ax Int):Hz K H J (aL ds lo hi) (uO vs lo hi):=by unfold aL uO;rw[← m.length];exact(m.drop _).take _
theorem o8 {α:Type}{xs:ae α}{lo hi:ax Int}(h:HT.Ij xs.length 0 lo=0/\HT.Ij xs.length xs.length hi=xs.length):aL xs lo hi=xs:=by unfold aL;rw[h.1,h.2];simp
theorem ma (n:Nat)(lo hi:ax Int):IJ lo hi 1 n=ZT ((HT.Ij n 0 lo:Nat):Int) ((HT.Ij n n hi:Nat):Int) 1:=by unfold IJ;have h:=kz lo hi n;unfold OJ at h;simp only[getD_none] at h;have b:=h.1;have a:=h.2.1;show ZT _ _ 1=_;rw[← b,← a];cases lo<;>cases hi<;>rfl
theorem vD (x:ej)(lo hi:ax Int):(IJ lo hi 1 x.length).filterMap (x.cps[·]?)=aL x.cps.toList lo hi:=by
 have a:x.cps.toList.length=x.length:=by simp[QN]
 rw[ma,Xm,ZQ];unfold aL;rw[a]
theorem vH (x:ej)(t:Tok)(lo hi:ax (Int×Tok)){Q:Hq}{s:cc}(hsz:x.length<=dk)(h:∀ t' k,Q (.str (o7 x (lo.map (·.1)) (hi.map (·.1))) t') { s with toks:=k }):(Zf x t lo hi av).post Q s:=by
 unfold Zf;have ep:Um x lo hi av=IJ (lo.map (·.1)) (hi.map (·.1)) 1 x.length:=rfl;have eq:((Um x lo hi av).filterMap (x.cps[·]?))=aL x.cps.toList (lo.map (·.1)) (hi.map (·.1)):=by rw[ep];exact vD x _ _
 have a:x.cps.toList.length=x.length:=by simp[QN]
 have len:(o7 x (lo.map (·.1)) (hi.map (·.1))).length<=dk:=by unfold o7 aL;show (RR _).size<=_;rw[eX,Jj,NM,a];omega
 have same:(((av:ax (Int×Tok)).map (·.1)).getD 1==1&&(Um x lo hi av).length==x.length)=a6->x=o7 x (lo.map (·.1)) (hi.map (·.1)):=λc=>by
  have b:(Um x lo hi av).length=x.length:=by rw[eL] at c;exact LV c.2
  rw[ep,ma,Xm,dV,lr] at b;have d:=HT.Mq x.length x.length (eG _) (hi.map (·.1));have e:=HT.Mq x.length 0 (Pl _) (lo.map (·.1));have w:=o8 (xs:=x.cps.toList) (lo:=lo.map (·.1)) (hi:=hi.map (·.1)) (by rw[a];omega);unfold o7;rw[w]
 refine post_val_or_str ⟨?_,λt' k=>?_⟩
 ·split
  ·rename_i c;exact hsz
  rw[eq];exact len
 split
 ·rename_i c;have z:=h t' k;rw[← same c] at z;exact z
 rw[eq];exact h t' k
theorem part_of {v:ay}{o:ax Int}(p:UC v o):∃ q:ax (Int×Tok),v=partValue q/\o=q.map (·.1):=by
 cases p with
 |none=>exact⟨av,rfl,rfl⟩
 |int i t=>exact⟨aa (i,t),rfl,rfl⟩
def VY (K:Ho)(g:D->ax Int->ax Int->ax D):V->ax Int->ax Int->Hp->VK->Prop:=λx lo e H Q => ∃ J c d,(∀ a∈J,H a≠av)/\At K H J c x/\g c lo e=aa d/\∀ b v,HJ H b->At K b J d v->Q v b
theorem jD {prog:ew}{w:hB}{A:hG}{E:Hq}{s:cc}{t b:b0}{items:h8 ay}{f e:ay}{lo hi:ax Int}{Q:Hq}(a:Xb s.heap t items)(c:s.heap.IsSliceOf b f e .none)(pl:UC f lo)(k:UC e hi)
  (d:HT.Ij items.size 0 lo=0/\HT.Ij items.size items.size hi=items.size) (h:Q (.ref t) s):d6 #[8] A (OT (.ref t) (.ref b)) Q E s:=by
 obtain⟨os,g,j,l⟩:=id c;have i:s.TypeIs (.ref b) "slice":=⟨os,g,j⟩;unfold OT
 try with_reducible refine rp ?_
 first |refine ak (a5 ?_) |skip
 refine ak (Uj a.typeIs #[1] ?_)
 refine ak (u2 (name:=PY "__getitem__") a.typeIs hP
  (my hP a.typeIs Ro ?_ (Sw _ _)))
 show d6 _ _ (vr (.ref t) >>= _) _ _ s;refine ak (UK a ?_);refine ak (RK i ?_);rw[dw #[1]];refine ak (HT.IZ c pl k ?_);show d6 _ _ (if (((HT.Ij items.size 0 lo:Nat):Int)==0&&(1:Int)==1&&(HT.Ij items.size items.size hi-HT.Ij items.size 0 lo)==items.size)=a6 then _ else _) _ _ s;rw[dw (by rw[d.1,d.2];simp)];unfold Builtin.Tuple.tupleIsExact;refine ak (ak (RK a.typeIs (a5 ?_)));rw[dw #[1]];exact ak (VM (a5 ⟨_,rfl,a5 h⟩))
def UJ (X:Cx)(g:D->ax Int->ax Int->ax D):Prop:=RW X (VY X.K g)
theorem yc {x:ej}(h:nX x=a6)(lo hi:ax Int):nX (o7 x lo hi)=a6:=gO λc m=>gP h (by
 unfold aL at m
 exact Ri (wq m))
theorem B7 (x:ej)(lo hi:ax Int):(o7 x lo hi).length<=x.length:=by
 unfold o7 aL;show (RR _).size<=_;rw[eX,Jj,NM];have a:x.cps.toList.length=x.length:=by simp[QN]
 omega
theorem Kz:UJ X IX:=by
 intro c s C H x v K G lo f M Q I w n pl o h;obtain⟨J,W,d,L,j,e,q⟩:=h;unfold IX at e;rw[0]
 ·rename_i O;cases e;obtain⟨a,b,rfl,t,m⟩:=At.HK.mp j;have U:=m.length;by_cases A:HT.Ij b.length 0 lo=0/\HT.Ij b.length b.length f=b.length
  ·cases w;obtain⟨its,r,D,V⟩:=I.tuple t.sq;have i:its.toArray.size=b.length:=by rw[eX];exact r.length.symm
   refine⟨"tuple",_,hP.lookup,D.typeIs,?_⟩;refine jD D n pl o (by rw[i];exact A) ⟨.ref a,H,I,rfl,q H _ (HJ.refl H) ?_⟩;rw[o8 (by rw[U];exact A)];exact j
  exact De c s C H _ v K G lo f M Q I w n pl o ⟨a,b,rfl,t.sq,A,λp g=>q _ _ (aO g _) (At.JD (m.cut lo f) g L (fk (gy b lo f) t.len))⟩
 ·rename_i O;cases e;obtain⟨a,b,rfl,t,m⟩:=At.HN.mp j;exact Bl c s C H _ v K G lo f M Q I w n pl o ⟨a,b,rfl,t.sq,λp g=>q _ _ (aO g _) (At.IW (m.cut lo f) g L (fk (gy b lo f) t.len))⟩
 ·rename_i z;cases e;obtain⟨ex,y⟩:=At.HE.mp j;subst ex;obtain⟨tk,rfl⟩:=w;obtain⟨B,T,S⟩:=part_of pl;obtain⟨E,P,N⟩:=part_of o;subst T S P N;refine⟨"str",_,F.slot_str_getitem.lookup,YI _ _ _,Vp (l:=B) (u:=E) (st:=av) n rfl (vH z tk B E y.1 λR k=>?_)⟩;exact⟨.str _,H,I.tok _,⟨R,rfl⟩,q H _ (HJ.refl H) (At.HE.mpr ⟨rfl,fk (B7 z _ _) y.1,yc y.2 _ _⟩)⟩
 cases e
noncomputable def dF:D->ax (ax Int)
 | .int i=>aa (aa i)
 |_=>av
noncomputable def kT (f:ax (Hn D)):Hn (ax Int):=match f with
 |av=>λ_ S=>HC av S
 |aa f=>λb S=>aj (f b S) λd a=>aQ (dF d) a
def SO (X:Cx)(W:WT)(e:ax gj)(f:ax (Hn D)):Prop:=match e,f with
 |av,av=>True
 |aa e,aa f=>SE X W e f
 |_,_=>False
noncomputable def Kh (g:D->ax Int->ax Int->ax D)(f:Hn D)(lo hi:ax (Hn D)):Hn D:=λa S=>aj (f a S) λx c=>aj (kT lo a c) λl d=>aj (kT hi a d) λu b=>aQ (g x l u) b
noncomputable def UM (X:Cx)(W:WT)(f:ax (Hn D)):TO:=tG X W (λ_ _ a b=>a=b) [] [] (kT f)
theorem tG.OR {α t:Type}{R:ae b0->Hp->α->t->Prop}{f:ax (Hn D)}{k:ax Int->Hn α}{ds:ae D}{vs:ae V}{n:St}{H:Hp}{Q : t->Hp->Prop}
  (h:tG X W R ds vs (λi S=>aj (kT f i S) λd j=>k d i j) n H Q):UM X W f n H λb u=>tG X W R ds vs (k b) n u Q:=by
 obtain⟨J,i,S,r,w,c,a,e,z⟩:=h;cases q:kT f i S with
 |none=>simp[q] at e
 |some o =>
  obtain⟨B,j⟩:=o;simp only[q] at e;cases B with
  |error x =>
   cases e;exact⟨J,i,S,.error x,_,c,.nil,q,z⟩
  |ok d =>
   refine⟨J,i,S,.ok d,j,c,.nil,q,λA u v x y m=>?_⟩;cases m;refine⟨A,i,j,r,w,c.re x y,a.ex x,e,?_⟩;cases r with
   |ok g=>exact λs l b x2 p C=>z s l b (x.trans x2) p C
   |error g=>exact λs l x2 p=>z s l (x.trans x2) p
theorem CP {e:ax gj}{f:ax (Hn D)}(h:SO X W e f):PO X e (UM X W f):=by
 cases e with
 |none =>
  cases f with
  |none =>
   intro a s b H Q I z;refine BG a s b H Q I ?_;obtain⟨J,l,S,r,g,c,_,e,z⟩:=z;cases e;exact z J H _ Ex.refl c.Ie rfl
  |some _=>exact h.elim
 |some e =>
  cases f with
  |none=>exact h.elim
  |some f =>
   intro a s b H Q I z;refine BF h a s b H Q I ?_;refine(tG.HH z).mono λv k ⟨d,j⟩=>?_;obtain⟨J,l,S,r,g,c,m,e,z⟩:=j;obtain⟨m,_⟩:=m.HF;cases d with
   |int i =>
    cases e;exact⟨i,At.Hw.mp m,z J k _ Ex.refl c.Ie rfl⟩
   |_=>simp[dF] at e
theorem cw {g:D->ax Int->ax Int->ax D}{lo hi:ax gj}{f b:ax (Hn D)}{w:N5}(hr:UJ X g)(ha:SE X W a fa)(x:SO X W lo f)(j:SO X W hi b):SE X W (.Subscript a (.Slice lo hi av w) pos) (Kh g fa f b):=
 (zV hr ha (CP x) (CP j)).imp λC H Q h=>(tG.HH h).mono λv E ⟨d,i⟩=>(tG.OR i).mono λl A t=>(tG.OR t).mono λu F n=>by
  obtain⟨J,G,S,r,B,c,m,e,z⟩:=n;obtain⟨m,_⟩:=m.HF;cases q:g d l u with
  |none=>simp[q] at e
  |some o =>
   simp only[q,cA,HC] at e;cases e;exact⟨J,d,o,c.Ie.all,m,q,λk p s y=>z J k p (Ex.same s) (c.Ie.same s) y⟩
noncomputable def kD:D->ax D
 | .tup a=>aa (.tup a.reverse)
 | .lst a=>aa (.lst a.reverse)
 | .str x=>aa (.str ⟨x.cps.toList.reverse.toArray⟩)
 |_=>av
end
end L2
namespace L2
open PySem PySem.Spec PyProof.Rows PySem.W
section
variable {X:Cx}{W:WT}
theorem vP (n:Nat):mi ((n:Int)-1) (-1) (-1)=n:=by
 unfold mi;rw[ee #[1]];by_cases h:(n:Int)-1 > -1
 ·rw[dw h];have:((n:Int)-1 - -1-1) / (- -1)+1=n:=by rw[show (- (-1:Int))=1 by decide,Int.ediv_one];omega
  rw[this];simp
 rw[ee h];have:n=0:=#[2]
 subst this;rfl
theorem lv {prog:ew}{w:hB}{A:hG}{E:Hq}{s:cc}{c:b0}{tk:Tok}{n:Nat}{Q:Int×Int×Nat->cc->Prop}(d:s.heap.IsSliceOf c .none .none (.int (-1) tk))
  (h:Q ((n:Int)-1,-1,n) s):d6 #[8] A (J8 (.ref c) (u1 (n:Int))) Q E s:=by
 obtain⟨os,a,f,b⟩:=id d;unfold J8 Tz;refine ak (ak (Jw a b (x:=.none) rfl (ak (Jw a b (x:=.none) rfl (ak (Jw a b (x:=.int (-1) tk) rfl (a5 ?_)))))));refine ak (slicePart_int ?_);show d6 _ _ (if ((-1:Int)==0)=a6 then _ else _) _ _ s;rw[ee #[1]];refine ak (Sr (ak (Sr (ak (a5 ?_)))));show d6 _ _ (match LH av av (-1) (n:Int) with |(lo,e)=>u1 (lo,(-1:Int),mi lo e (-1))) _ _ s;show d6 _ _ (u1 ((n:Int)-1,(-1:Int),mi ((n:Int)-1) (-1) (-1))) _ _ s;rw[vP];exact a5 h
theorem t9 {α:Type}(xs:ae α):(ei xs.length).filterMap (λ(k:Nat)=>xs[k]?)=xs:=by
 have h:=ZQ xs.toArray 0 xs.length;have e:(ei xs.length).map (0 + ·)=ei xs.length:=by have:(λx:Nat => 0+x)=id:=Xv λx=>n7 x;rw[this];simp
 rw[e] at h;simpa using h
theorem zL {α:Type}(xs:ae α):(ei xs.length).filterMap (λ(k:Nat)=>xs[(((xs.length:Int)-1)+(k:Int)*(-1)).toNat]?)=xs.reverse:=by
 have h:=t9 xs.reverse;rw[rx] at h;refine Eq.trans ?_ h
 have d:∀ (l:ae Nat) (f g:Nat->ax α),(∀ k∈l,f k=g k)->l.filterMap f=l.filterMap g:=by
  intro l f g
  induction l with
  |nil=>intro _;rfl
  |cons x r c =>
   intro b;rw[PJ,PJ,b x (e7 ..),c λk m=>b k (d7 _ m)]
 refine d _ _ _ λk a=>?_;have a:=nC.mp a;rw[List.getElem?_reverse a];have:(((xs.length:Int)-1)+(k:Int)*(-1)).toNat=xs.length-1-k:=#[2]
 rw[this]
theorem kL {prog:ew}{w:hB}{A:hG}{E:Hq}{s:cc}{t c:b0}{items:ae ay}{tk:Tok}{Q:Hq}(a:Xb s.heap t items.toArray)(d:s.heap.IsSliceOf c .none .none (.int (-1) tk))
  (hsz:items.length<=dk)
  (h:Q (#[11]) { s with heap:=s.heap.push { cls:=.type "tuple",data:=.seq items.reverse.toArray } }):d6 #[8] A (OT (.ref t) (.ref c)) Q E s:=by
 obtain⟨os,f,i,l⟩:=id d;have g:s.TypeIs (.ref c) "slice":=⟨os,f,i⟩;unfold OT
 try with_reducible refine rp ?_
 first |refine ak (a5 ?_) |skip
 refine ak (Uj a.typeIs #[1] ?_)
 refine ak (u2 (name:=PY "__getitem__") a.typeIs hP
  (my hP a.typeIs Ro ?_ (Sw _ _)))
 show d6 _ _ (vr (.ref t) >>= _) _ _ s;refine ak (UK a ?_);refine ak (RK g ?_);rw[dw #[1]];refine ak (lv d ?_);have j:¬ (((((items.toArray.size:Nat):Int)-1)==0&&(-1:Int)==1&&items.toArray.size==items.toArray.size)=a6):=by intro q;rw[eL,eL] at q;exact hK q.1.2 #[1]
 show d6 _ _ (if ((((items.toArray.size:Nat):Int)-1)==0&&(-1:Int)==1&&items.toArray.size==items.toArray.size)=a6 then _ else _) _ _ s;rw[ee j];have e:(List.filterMap (λ(k:Nat)=>items.toArray[(((items.toArray.size:Nat):Int)-1+(k:Int)*(-1)).toNat]?) (ei items.toArray.size))=items.reverse:=by have:=zL items;simpa using this
 rw[e];have b:sizeOk (.seq items.reverse.toArray):=by show items.reverse.toArray.size<=dk;rw[eX,rx];exact hsz
 first
  |exact ak (m:=k6 _) (iv (a5 ⟨_,rfl,a5 h⟩) b)
  |exact ak (m:=k6 _) (iv (ak (a5 (a5 ⟨_,rfl,a5 h⟩))) b)
  |exact ak (ak (m:=k6 _) (iv (a5 (a5 ⟨_,rfl,a5 h⟩)) b))
  |exact ak (ak (m:=k6 _) (iv (a5 ⟨_,rfl,a5 h⟩) b))
theorem zK (x:ej)(t tk:Tok){Q:Hq}{s:cc}(hsz:x.length<=dk)(h:∀ t' k,Q (.str ⟨x.cps.toList.reverse.toArray⟩ t') { s with toks:=k }):(Zf x t av av (aa (-1,tk))).post Q s:=by
 unfold Zf;rw[ee (by rw[show ((((aa ((-1:Int),tk)).map (·.1)).getD 1:Int)==1)=bo from rfl];simp)];have a:x.cps.toList.length=x.length:=by simp[QN]
 have e:(Um x av av (aa (-1,tk))).filterMap (x.cps[·]?)=x.cps.toList.reverse:=by show (ZT ((x.length:Int)-1) (-1) (-1)).filterMap (x.cps[·]?)=_;rw[krv_sliceRange,krv_range,List.filterMap_reverse];congr 1;have:=t9 x.cps.toList;rw[a] at this;simpa using this
 rw[e];refine⟨?_,h s.toks (s.toks+1)⟩;show (RR _).size<=_;rw[eX,rx,a];exact hsz
variable {a b c:gj}{fa fb fc:Hn D}{pos:N5}
theorem rR {st:gj}{P:N5}(ha:SE X W a fa)(Oj:∀ (E:Hq) (s:cc) (Q:Hq),(∀ t k,Q (.int (-1) t) { s with toks:=k })->d6 #[9] X.A (lX st X.env) Q E s)
  (D:∀ o i,Ua (.Slice av av (aa st) P) bo o i=operate [o,i] (OT o i):=by exact λ_ _=>rfl):SE X W (.Subscript a (.Slice av av (aa st) P) pos) (Ju kD fa):=by
 intro f s N H Q I h;have h:=(tG.HH (k:=λd _ S=>aQ (kD d) S) h).mono λv B ⟨d,h1⟩=>tG.Qd h1;refine YF (HU (ha f s N H _ I h) λv g Z=>?_);obtain⟨x,B,V,M,q1⟩:=Z;refine wpAny_Slice ?_;rw[Yp];refine a5 (a5 ?_);rw[evalPart_some];refine Oj _ _ _ λt k=>?_;have j:Inv X f N B { g with heap:=g.heap.push { cls:=.type "slice",data:=.fields #[.none,.none,.int (-1) t] },toks:=k }:=V.kept λb ob q=>cv _ q;have y:({ g with heap:=g.heap.push { cls:=.type "slice",data:=.fields #[.none,.none,.int (-1) t] },toks:=k }:cc).heap.IsSliceOf g.heap.objs.size .none .none (.int (-1) t):=YH ..;show d6 #[9] X.A (UB a (.Slice av av (aa st) P) v (.ref g.heap.objs.size)) (EP X f N Q) X.xe { g with heap:=g.heap.push { cls:=.type "slice",data:=.fields #[.none,.none,.int (-1) t] },toks:=k };generalize ({ g with heap:=g.heap.push { cls:=.type "slice",data:=.fields #[.none,.none,.int (-1) t] },toks:=k }:cc)=C at j y;generalize g.heap.objs.size=sl at y;obtain⟨J,dx,d,U,L,e,q⟩:=q1;unfold kD at e;rw[0]
 ·rename_i xs;cases e;obtain⟨G,R,rfl,K,m⟩:=At.HK.mp L;cases M;obtain⟨its,r,p,n⟩:=j.tuple K.sq;refine YY (ops:=[.ref G,.ref sl]) p.typeIs hP.lookup (kL p y (by rw[← r.length];exact n) ?_) (D _ _);exact⟨.ref C.heap.objs.size,_,j.laid (t':=C.toks) (o:=.tup R.reverse) (λb ob q=>cv _ q) (eG _) ⟨by rw[rx];exact n,_,Vals.reverse r,KH.new _ _⟩,rfl,q _ _ (aO j.fresh _) (At.JD m.reverse j.fresh U (by rw[rx];exact n))⟩
 ·rename_i xs;cases e;obtain⟨G,R,rfl,K,m⟩:=At.HN.mp L;cases M;obtain⟨its,r,p,n⟩:=j.list K.sq;refine YY (ops:=[.ref G,.ref sl]) p.isList.typeIs Uk.lookup (UL p.isList y .none .none (.int (-1) t) #[1] ?_ (by rw[eX,← r.length];exact n)) (D _ _);rw[krv_pick];exact⟨.ref C.heap.objs.size,_,j.QQ (t':=C.toks) (by simpa using Vals.reverse r) (by rw[rx];exact n),rfl,q _ _ (aO j.fresh _) (At.IW m.reverse j.fresh U (by rw[rx];exact n))⟩
 ·rename_i z;cases e;obtain⟨ex,O⟩:=At.HE.mp L;subst ex;obtain⟨T,rfl⟩:=M;refine YY (ops:=[.str z T,.ref sl]) (YI _ _ _) F.slot_str_getitem.lookup (Vp (l:=av) (u:=av) (st:=aa (-1,t)) y rfl (zK z T t O.1 λt' k=>?_)) (D _ _);refine⟨.str _,B,j.tok _,⟨t',rfl⟩,q B _ (HJ.refl B) (At.HE.mpr ⟨rfl,?_,gO λc m=>gP O.2 (Zp.mp m)⟩)⟩;show (RR _).size<=_;rw[eX,rx];have Y:z.cps.toList.length=z.length:=by simp[QN]
  rw[Y];exact O.1
 cases e
theorem jt {env:Yy}{j:Nat}{p q:N5}{E:Hq}{s:cc}{Q:Hq}{M:ew}{w:hB}{A:hG}(h:∀ t k,Q (.int (-1) t) { s with toks:=k }):d6 (eJ M w) A (lX (.UnaryOp .USub (.Constant (.int 1) j p) q) env) Q E s:=
 UnaryOp_ (Yz (neg_int (h _ _)))
end
section
variable {X:Cx}{W:WT}
theorem lF:fillsNumberSlot (.type "tuple") "mul"=u1 bo:=
 PySem.fillsNumberSlot_seq (id:="tuple.__mul__") (r:=aa (.builtin "tuple.__rmul__")) F.slot_tuple_mul.lookup #[1] F.slot_tuple_rmul.lookup #[1]
theorem rY:seqRepeat? (.type "tuple")=u1 (aa (.builtin "tuple.__mul__")):=by unfold seqRepeat?;rw[Zg (T:="tuple") (name:="__mul__") (id:="tuple.__mul__") F.slot_tuple_mul.lookup #[1],Zg (T:="tuple") (name:="__rmul__") (id:="tuple.__rmul__") F.slot_tuple_rmul.lookup #[1]];rfl
theorem oQ (a:Int)(t:Tok)(l:b0)(items:h8 ay)(n:Nat)(c:ax b0)(b:h8 (ax ay)) :
  Meets (Builtin.«int.__rmul__» ⟨[.int a t,.ref l],[]⟩) (λ_ R s=>s.heap.get? l=aa { cls:=.type "tuple",dict:=c,data:=.seq items n,slots:=b }/\R (.ok (.ret Value.notImplemented)) s):=
 .of_wp λprog w A R s h=>by obtain⟨e,g,d,tk,os⟩:=s;obtain⟨f,h⟩:=h;wp_walk;exact⟨_,rfl,h⟩
theorem vx (l:b0)(items:h8 ay)(n:Nat)(p:ax b0)(j:h8 (ax ay))(k:Int)(t:Tok)(z : 2<=k)(D:k<2 ^ 30)(b:items.isEmpty=bo)(hsz:items.size*k.toNat<=dk) :
  Meets (Builtin.«tuple.__mul__» ⟨[.ref l,.int k t],[]⟩) (λ_ R s=>s.heap.get? l=aa { cls:=.type "tuple",dict:=p,data:=.seq items n,slots:=j }/\R (.ok (.ret (h6 s.heap.objs.size))) { s with heap:=s.heap.push { cls:=R0 "tuple",data:=Data.seq (QO (λx1 x2=>x1++x2) #[] (el k.toNat items)) },toks:=s.toks }):=
 .of_wp λprog w A R s h=>by
  obtain⟨i,g,d,tk,os⟩:=s;obtain⟨f,h⟩:=h;have y:=AutoSeq1.idx_int
  wp_walk using x3 f
  have C:(0:Int)<=k:=#[2]
  have u:((k.toNat:Nat):Int)=k:=#[2]
  have v:¬ ((dr (k < -2 ^ 63) ||dr (k≥2 ^ 63))=a6):=by rw[cX #[0],cX #[0]];decide
  have r:¬ ((items.isEmpty ||k==1)=a6):=by rw[b,aab,kv.mpr #[0]];decide
  have q:¬ ((dr (k<=0) ||items.isEmpty)=a6):=by rw[b,cX #[0]];decide
  have a:((items.size*k.toNat:Nat):Int)=(items.size:Int)*k:=by rw[Int.natCast_mul,u]
  have B:(dk:Nat)=2 ^ 24:=rfl;have x:¬ ((items.size:Int)*k > (2 ^ 63-1) / 8):=by rw[← a];omega
  have o:SQ ((items.size:Int)*k)=bo:=by unfold SQ;rw[← a];exact cX #[0]
  rw[ee v];refine ak (UK (⟨_,f,rfl,n,rfl⟩:Xb i l items) ?_);dsimp only;rw[ee r,ee q,ee x,ee (by rw[o];decide)]
  have c:sizeOk (.seq (QO (λx1 x2=>x1++x2) #[] (el k.toNat items))):=by
   have e:QO (λx1 x2=>x1++x2) #[] (el k.toNat items)=(el k.toNat items.toList).flatten.toArray:=by have:=foldl_rep items.toList k.toNat [];simpa using this
   show (QO (λx1 x2=>x1++x2) #[] (el k.toNat items)).size<=dk;rw[e,eX,len_rep,hH,ZU];exact hsz
  first
   |exact ak (m:=k6 _) (iv (a5 ⟨_,rfl,h⟩) c)
   |exact ak (m:=k6 _) (iv (ak (a5 (a5 ⟨_,rfl,h⟩))) c)
noncomputable def cE:D->D->ax D
 | .int i,.int j=>if mD i j then aa (.int (i*j)) else av
 | .str x,.int n=>if -1000<=n/\n<1 then aa (.str ⟨#[]⟩) else if 1<=n/\n<=1000/\x.length<=1000 then aa (.str ⟨(el n.toNat x.cps.toList).flatten.toArray⟩) else av
 | .tup a,.int n=>if 2<=n/\n<=1000/\0<a.length/\a.length<=1000 then aa (.tup (el n.toNat a).flatten) else av
 |_,_=>av
theorem Ac (x:ej)(n:Int)(h : 1<=n):Txt.mul x n=⟨(el n.toNat x.cps.toList).flatten.toArray⟩:=by
 have f:∀ m:Nat,(el m x.cps).foldl (·++·) #[]=(el m x.cps.toList).flatten.toArray:=λm=>by
  have:∀ (m:Nat) (a:ae Nat),(el m x.cps).foldl (·++·) a.toArray=(a++(el m x.cps.toList).flatten).toArray:=by
   intro m
   induction m with
   |zero=>intro a;simp
   |succ m b =>
    intro a;rw[wh,wi,wh,NZ,← gv];have e:a.toArray++x.cps=(a++x.cps.toList).toArray:=by simp
    rw[e];exact b _
  have:=this m [];simpa using this
 unfold Txt.mul;rw[ee #[0]];split
 ·rename_i c;rw[SK] at c;rcases c with c |c
  ·have:n=1:=LV c;subst this;show x=⟨([x.cps.toList].flatten).toArray⟩;simp
  have g:x.cps.size=0:=LV c;have:x.cps.toList=[]:=by simpa using Array.size_eq_zero_iff.mp g
  have d:∀ m:Nat,(el m ([]:ae Nat)).flatten=[]:=λm=>by induction m with
   |zero=>rfl
   |succ m b=>rw[wh,NZ,b];rfl
  rw[this,d];cases x with
  |mk cps =>
   simp only at this;have:cps = #[]:=by simpa using this
   rw[this]
 rw[f]
theorem dj:Lm X (H4 .Mult) cE:=by
 intro p s Y H x y v u Q I C B h;obtain⟨J,dx,dy,d,hJ,w,A,e,q⟩:=h;unfold cE at e;rw[0]
 ·rename_i i j;rw[0]
  ·rename_i c;cases e;cases At.Hw.mp w;cases At.Hw.mp A;exact DN p s Y H _ _ v u Q I C B ⟨i,j,rfl,rfl,B2 c,q H _ (HJ.refl H) (#[14])⟩
  cases e
 ·rename_i z n;obtain⟨ex,Z⟩:=At.HE.mp w;subst ex;cases At.Hw.mp A;obtain⟨t,rfl⟩:=C;obtain⟨t',rfl⟩:=B;rw[0]
  ·rename_i c;cases e;refine SB.mul ⟨by rw[cX #[0],cX #[0]];rfl,λh=>hK c.2 h,λh=>hK c.2 h⟩ λt' k=>?_;rw[show Txt.mul z n=⟨#[]⟩ from dw c.2];exact⟨.str _,H,I.tok _,⟨t',rfl⟩,q H _ (HJ.refl H) (At.HE.mpr ⟨rfl,by show 0<=dk;decide,#[4]⟩)⟩
  rename_i c;rw[0]
  ·rename_i c2;cases e;have K:(dk:Nat)=2 ^ 24:=rfl
   have f:z.length*n.toNat<=1000000:=by
    have:n.toNat<=1000:=#[2]
    exact fk (ZV c2.2.2 this) #[1]
   have ok:MulOk z n:=by
    refine⟨by rw[cX #[0],cX #[0]];rfl,λ_ _ hh=>?_,λ_ _=>?_⟩
    ·have E:(2 ^ 63-1) / n≥(2 ^ 63-1) / 1000:=by
      apply Int.le_ediv_of_mul_le #[0];have:((2 ^ 63-1) / 1000:Int)=9223372036854775:=#[4]
      rw[this];omega
     have N:((2 ^ 63-1) / 1000:Int)=9223372036854775:=#[4]
     omega
    unfold Ry;exact cX #[0]
   refine SB.mul ok λt' k=>?_;rw[Ac z n #[0]];have hl:z.cps.toList.length=z.length:=by simp[QN]
   refine⟨.str _,H,I.tok _,⟨t',rfl⟩,q H _ (HJ.refl H) (At.HE.mpr ⟨rfl,?_,gO λc m=>?_⟩)⟩
   ·show (RR _).size<=_;rw[eX,len_rep,hl,ZU];omega
   obtain⟨l,Ln,M⟩:=List.mem_flatten.mp m;rw[(List.mem_replicate.mp Ln).2] at M;exact gP Z.2 M
  cases e
 ·rename_i xs n;rw[0]
  ·rename_i c;cases e;obtain⟨a,D,rfl,tq,m⟩:=At.HK.mp w;cases At.Hw.mp A;cases C;obtain⟨t',rfl⟩:=B;obtain⟨its,r,⟨⟨cls,L,data,P⟩,g,hc,G,hd⟩,hz⟩:=I.tuple tq.sq;simp only at hc hd;subst hc hd;have l1:=m.length;have l2:=r.length;have K:(dk:Nat)=2 ^ 24:=rfl
   have f:its.toArray.size*n.toNat<=dk:=by
    rw[eX];have E:its.length<=1000:=#[2]
    have N:n.toNat<=1000:=#[2]
    exact fk (ZV E N) (by rw[K];decide)
   have R : 0<its.length:=#[2]
   have W:its.toArray.isEmpty=bo:=by
    cases its with
    |nil=>simp at R
    |cons _ _=>rfl
   refine wpAny_binaryOp_repeat_ref (T:="tuple") (U:="int") #[1] ⟨_,g,rfl⟩ (λV=>ZR V n t') lF F.fills_int_mul F.slot_int_rmul rY F.slot_int_index.lookup
    (YJ F.slot_int_rmul (ZR s n t') F.entry_int_rmul (F.args_int_rmul_2 _ _) (oQ n t' a its.toArray G L P)
     ⟨g,rfl,⟨_,g,rfl⟩,YJ F.slot_tuple_mul ⟨_,g,rfl⟩ F.entry_tuple_mul (F.args_tuple_mul_2 _ _) (vx a its.toArray G L P n t' c.1 #[0] W f) ⟨g,?_⟩⟩)
   have S:QO (λx1 x2=>x1++x2) #[] (el n.toNat its.toArray)=(el n.toNat its).flatten.toArray:=by have:=foldl_rep its n.toNat [];rw[N0] at this;exact this
   rw[S];have O:(el n.toNat D).flatten.length<=dk:=by rw[len_rep,ZU,l2];rw[eX] at f;exact f
   exact⟨#[11],_,I.laid (t':=s.toks) (o:=.tup (el n.toNat D).flatten) (λb ob q=>cv _ q) (eG _) ⟨O,_,r.rep n.toNat,KH.new _ _⟩,rfl,q _ _ (aO I.fresh _) (At.JD (m.rep n.toNat) I.fresh hJ O)⟩
  cases e
 cases e
end
section
variable {X:Cx}{W:WT}
noncomputable def aV:D->ax NA
 | .Ic=>aa "NoneType"
 | .bl _=>aa "bool"
 | .int _=>aa "int"
 | .str _=>aa "str"
 | .tup _=>aa "tuple"
 | .lst _=>aa "list"
 |_=>av
noncomputable def bz (T k:NA):e8:=k==T ||(k=="bool"&&T=="int")
noncomputable def aW (T:NA)(d:D):ax D:=(aV d).map λk => .bl (bz T k)
def rB (T:NA):Prop:=∀ (K:Frag),ZW K (.type "NoneType") (.type T)=aa (bz T "NoneType")/\ZW K (.type "bool") (.type T)=aa (bz T "bool")/\ZW K (.type "int") (.type T)=aa (bz T "int") /\
 ZW K (.type "str") (.type T)=aa (bz T "str")/\ZW K (.type "tuple") (.type T)=aa (bz T "tuple")/\ZW K (.type "list") (.type T)=aa (bz T "list")
theorem sj:rB "int":=λK=>⟨rfl,rfl,rfl,rfl,rfl,rfl⟩
theorem nh:rB "str":=λK=>⟨rfl,rfl,rfl,rfl,rfl,rfl⟩
theorem oM:rB "bool":=λK=>⟨rfl,rfl,rfl,rfl,rfl,rfl⟩
theorem kit_tuple:rB "tuple":=λK=>⟨rfl,rfl,rfl,rfl,rfl,rfl⟩
theorem AW {T:NA}(F:rB T):dS X (.builtin "isinstance") (λxs H Q => ∃ x,xs=[x,.ty T]/\S6 X.K (aW T) x H Q):=by
 intro j s D H xs R Q I r h;obtain⟨x,rfl,J,E,d,U,f,e,q⟩:=h;obtain⟨u,S,rfl,g,N⟩:=vals2 r;cases N;obtain⟨k,c,L⟩:=dv.mp e;subst L;obtain⟨v,A,M,G,O,P⟩:=F X.K;have fin:∀ tk,EP X j D Q (.bool (bz T k)) { s with toks:=tk }:=λtk=>⟨.bl _,H,I.tok _,rfl,q H _ (HJ.refl H) (At.HP.mpr rfl)⟩;cases E with
 |Ic=>cases c;cases At.Jg.mp f;cases g;exact Y1 kitx_none I.LB JK v (λz=>nomatch z) fin
 |bl b=>cases c;cases At.HP.mp f;cases g;exact Y1 kitx_bool I.LB JK A (λz=>nomatch z) fin
 |int i=>cases c;cases At.Hw.mp f;obtain⟨t,rfl⟩:=g;exact Y1 kitx_int I.LB JK M (λz=>nomatch z) fin
 |str y=>cases c;cases (At.HE.mp f).1;obtain⟨t,rfl⟩:=g;exact Y1 kitx_str I.LB JK G (λz=>nomatch z) fin
 |tup B =>
  cases c;obtain⟨a,C,rfl,m,_⟩:=At.HK.mp f;cases g;obtain⟨its,w,⟨o,l,p,_⟩,_⟩:=I.tuple m.sq;exact Y1 kitx_tuple I.LB ⟨o,l,p⟩ O (λz=>nomatch z) fin
 |lst B =>
  cases c;obtain⟨a,C,rfl,m,_⟩:=At.HN.mp f;cases g;obtain⟨its,w,⟨o,n,l,p,_⟩,_⟩:=I.list m.sq;exact Y1 kitx_list I.LB ⟨o,l,p⟩ P (λz=>nomatch z) fin
 |set _=>simp[aV] at c
 |loc _=>simp[aV] at c
 |fn _ _=>simp[aV] at c
variable {a b c e:gj}{fa fb fc:Hn D}{pos:N5}{es:ae gj}{gs:Hn (ae D)}
theorem cD {T:NA}{x t:ej}{p a:N5}(j:rB T)(k:x="isinstance")(f:X.mg x=av)(c:X.mg t=av)(i:lC t=aa (.type T))(ha:SE X W e fa)
  (m:Gl X x:=by rfl) (n:Gl X t:=by rfl) (q:t≠"__name__":=by decide) (l:(t==("__debug__":ej))=bo:=by decide)
  (b:dm (e::[.Name t a]) X.env=(bo,lX e X.env)::dm [.Name t a] X.env:=by rfl) (o:(mf pos (dm [.Name t a] X.env)).any (·.1)=bo:=by rfl) :
  SE X W (.Call (.Name x p) [e,.Name t a] [] pos) (Ju (aW T) fa):=by
 subst k;refine PE.imp (gW (AW j) m f #[1] (cn ha (cn (BR (v:=.ty T) n c i (show RelV (.ty T) (.type T) from rfl) q l) Ik (by rfl)) b) #[1] #[1] b o) λr H Q h=>?_;exact(tG.HH h).mono λv s ⟨d,g⟩=>⟨v,rfl,tG.Qd g⟩
noncomputable def a_:ae D->ax D
 |[.tup xs]=>aa (.int xs.length)
 |[.lst xs]=>aa (.int xs.length)
 |[.str x]=>aa (.int x.length)
 |_=>av
theorem bG:jU X (.builtin "len") a_:=by
 intro b s g H l f Q I r h;obtain⟨J,o,d,u,m,e,q⟩:=h;unfold a_ at e;rw[0]
 ·rename_i k;cases e;obtain⟨v,w,rfl,a,n⟩:=Hz.Hy.mp m;cases Hz.HA.mp n;obtain⟨p,c,rfl,t,i⟩:=At.HK.mp a;exact im b s g H _ f Q I r ⟨p,c,rfl,.inr t.sq,by rw[← i.length];exact q H _ (HJ.refl H) (#[14])⟩
 ·rename_i k;cases e;obtain⟨v,w,rfl,a,n⟩:=Hz.Hy.mp m;cases Hz.HA.mp n;obtain⟨p,c,rfl,t,i⟩:=At.HN.mp a;exact im b s g H _ f Q I r ⟨p,c,rfl,.inl t.sq,by rw[← i.length];exact q H _ (HJ.refl H) (#[14])⟩
 ·rename_i y;cases e;obtain⟨v,w,rfl,a,n⟩:=Hz.Hy.mp m;cases Hz.HA.mp n;obtain⟨ex,j⟩:=At.HE.mp a;subst ex;exact sN b s g H _ f Q I r ⟨y,rfl,j.1,q H _ (HJ.refl H) (#[14])⟩
 cases e
noncomputable def intD:ae D->ax D
 |[.int i]=>aa (.int i)
 |[.bl k]=>aa (.int (if k then 1 else 0))
 |_=>av
theorem Ei:jU X (.type "int") intD:=by
 intro b s f H g c Q I r h;obtain⟨J,j,d,l,m,e,q⟩:=h;unfold intD at e;rw[0]
 ·rename_i i;cases e;obtain⟨v,w,rfl,a,n⟩:=Hz.Hy.mp m;cases Hz.HA.mp n;cases At.Hw.mp a;exact rc b s f H _ c Q I r (.inl ⟨i,rfl,q H _ (HJ.refl H) (#[14])⟩)
 ·rename_i k;cases e;obtain⟨v,w,rfl,a,n⟩:=Hz.Hy.mp m;cases Hz.HA.mp n;cases At.HP.mp a;exact rc b s f H _ c Q I r (.inr ⟨k,rfl,q H _ (HJ.refl H) (#[14])⟩)
 cases e
noncomputable def z6 (i:Int):ej:=toString i
noncomputable def QT (x:ej):e8:=dr (x.length<=dk)&&nX x
theorem CS {x:ej}(h:QT x=a6):N2 x:=by unfold QT at h;rw[eL] at h;exact⟨hM h.1,h.2⟩
noncomputable def tF:ae D->ax D
 |[.int i]=>if i.natAbs.log2<1920/\QT (z6 i)=a6 then aa (.str (z6 i)) else av
 |_=>av
theorem Eh:jU X (.type "str") tF:=by
 intro b s g H j f Q I r h;obtain⟨J,k,d,l,m,e,q⟩:=h;unfold tF at e;rw[0]
 ·rename_i i;rw[0]
  ·rename_i c;cases e;obtain⟨v,w,rfl,a,n⟩:=Hz.Hy.mp m;cases Hz.HA.mp n;cases At.Hw.mp a;exact sL b s g H _ f Q I r ⟨i,rfl,c.1,q H _ (HJ.refl H) (At.HE.mpr ⟨rfl,CS c.2⟩)⟩
  cases e
 cases e
noncomputable def mS:ae D->ax D
 |[.tup xs]=>aa (.tup xs)
 |[.lst xs]=>aa (.tup xs)
 |_=>av
theorem pf:jU X (.type "tuple") mS:=by
 intro b s g H u f Q I r h;obtain⟨J,x,d,o,m,e,q⟩:=h;unfold mS at e;rw[0]
 ·rename_i k;cases e;obtain⟨v,w,rfl,a,n⟩:=Hz.Hy.mp m;cases Hz.HA.mp n;obtain⟨p,c,rfl,t,i⟩:=At.HK.mp a;exact jS b s g H _ f Q I r ⟨p,c,rfl,.inr ⟨t.sq,q H _ (HJ.refl H) a⟩⟩
 ·rename_i k;cases e;obtain⟨v,w,rfl,a,n⟩:=Hz.Hy.mp m;cases Hz.HA.mp n;obtain⟨p,c,rfl,t,i⟩:=At.HN.mp a;exact jS b s g H _ f Q I r ⟨p,c,rfl,.inl ⟨t.sq,λl j=>q _ _ (aO j _) (At.JD i j o t.len)⟩⟩
 cases e
noncomputable def we:ae D->ax D
 |[.tup xs]=>aa (.lst xs)
 |[.lst xs]=>aa (.lst xs)
 |_=>av
theorem AU:jU X (.type "list") we:=by
 intro b s j H u i Q I r h;obtain⟨J,x,d,k,m,e,q⟩:=h;unfold we at e;rw[0]
 ·rename_i o;cases e;obtain⟨v,w,rfl,a,n⟩:=Hz.Hy.mp m;cases Hz.HA.mp n;obtain⟨p,f,rfl,t,g⟩:=At.HK.mp a;exact kO b s j H _ i Q I r ⟨p,f,rfl,.inr t.sq,λl c=>q _ _ (aO c _) (At.IW g c k t.len)⟩
 ·rename_i o;cases e;obtain⟨v,w,rfl,a,n⟩:=Hz.Hy.mp m;cases Hz.HA.mp n;obtain⟨p,f,rfl,t,g⟩:=At.HN.mp a;exact kO b s j H _ i Q I r ⟨p,f,rfl,.inl t.sq,λl c=>q _ _ (aO c _) (At.IW g c k t.len)⟩
 cases e
end
inductive Fl where
 |next (ρ:Hv) |ret (d:D) |brk (ρ:Hv) |cont (ρ:Hv)
def LK (X:Cx)(W:WT)(J:ae b0)(H:Hp)(r:Except ej Fl)(f:Hu)(E:Ends):Prop:=
 match r with
 | .ok (.next ρ') => ∀ e b a,Ex J H e a->Cf X e ρ' f b a->E.nx b a
 | .ok (.brk ρ') => ∀ e b a,Ex J H e a->Cf X e ρ' f b a->E.bk b a
 | .ok (.cont ρ') => ∀ e b a,Ex J H e a->Cf X e ρ' f b a->E.ct b a
 | .ok (.ret d) => ∀ e a v,Ex J H e a->HW X.K e f a->At X.K a e d v->E.rt v a
 | .error c => ∀ e a,Ex J H e a->HW X.K e f a->W c e f a
theorem LK.ex {X:Cx}{W:WT}{J l:ae b0}{H k:Hp}{r:Except ej Fl}{j:Hu}{E:Ends}(h:LK X W J H r j E)(x:Ex J H l k):LK X W l k r j E:=by
 cases r with
 |error c=>exact λi e g s=>h i e (x.trans g) s
 |ok f =>
  cases f with
  |next m=>exact λi b e g c=>h i b e (x.trans g) c
  |brk m=>exact λi b e g c=>h i b e (x.trans g) c
  |cont m=>exact λi b e g c=>h i b e (x.trans g) c
  |ret d=>exact λi e v g s a=>h i e v (x.trans g) s a
noncomputable def tS (X:Cx)(W:WT)(f:Hn Fl):TS:=λE c H => ∃ J a S r b,Cf X J a S c H/\f a S=aa (r,b)/\LK X W J H r b E
def SS (X:Cx)(W:WT)(st:mq)(f:Hn Fl):Prop:=PS X st (tS X W f)
def M0 (X:Cx)(W:WT)(st:ae mq)(f:Hn Fl):Prop:=Ml X st (tS X W f)
theorem PS.imp {X:Cx}{st:mq}{t t':TS}(h:PS X st t)(i:∀ E b H,t' E b H->t E b H):PS X st t':=λa s b H D I z=>h a s b H D I (i _ _ _ z)
theorem Ml.imp {X:Cx}{st:ae mq}{t t':TS}(h:Ml X st t)(i:∀ E b H,t' E b H->t E b H):Ml X st t':=λa s b H D I z=>h a s b H D I (i _ _ _ z)
section
variable {X:Cx}{W:WT}{st:mq}{rest:ae mq}{f g:Hn Fl}{e c:gj}{fe:Hn D}{gt:Hn e8}{pos:N5}
noncomputable def bx:Hn Fl:=λa S=>HC (.next a) S
noncomputable def aM (f g:Hn Fl):Hn Fl:=λd S=>aj (f d S) λc b=>match c with
 | .next a=>g a b
 |o=>HC o b
noncomputable def aZ (f:Hn D):Hn Fl:=λb S=>aj (f b S) λd a=>HC (.ret d) a
noncomputable def Je (t:Hn e8)(f g:Hn Fl):Hn Fl:=λa S=>aj (t a S) λk b=>if k=a6 then f a b else g a b
noncomputable def bO (i:Nat)(f:Hn D):Hn Fl:=λa S=>aj (f a S) λd b=>HC (.next (a.set i (aa d))) b
noncomputable def u7 (f:Hn D):Hn Fl:=λa S=>aj (f a S) λ_ b=>HC (.next a) b
theorem aN:M0 X W [] bx:=Og.imp λE a H h=>by obtain⟨J,b,S,r,d,c,e,z⟩:=h;cases e;exact z J a H Ex.refl c
theorem zx {E:Ends}{j:St}{H:Hp}(h:tS X W (aM f g) E j H):EJ (tS X W f) (tS X W g) E j H:=by
 obtain⟨J,b,S,r,l,c,e,z⟩:=h;unfold aM at e;cases q:f b S with
 |none=>simp[q] at e
 |some o =>
  obtain⟨p,i⟩:=o;simp only[q] at e;cases p with
  |error x =>
   cases e;exact⟨J,b,S,.error x,_,c,q,z⟩
  |ok m =>
   cases m with
   |next a=>exact⟨J,b,S,.ok (.next a),i,c,q,λn k t x s=>⟨n,a,i,r,l,s,e,z.ex x⟩⟩
   |ret d=>cases e;exact⟨J,b,S,.ok (.ret d),_,c,q,z⟩
   |brk a=>cases e;exact⟨J,b,S,.ok (.brk a),_,c,q,z⟩
   |cont a=>cases e;exact⟨J,b,S,.ok (.cont a),_,c,q,z⟩
theorem ao (b:SS X W st f)(a:M0 X W rest g):M0 X W (st::rest) (aM f g):=(zO b a).imp λE c H h=>zx h
theorem au (a:SS X W st f):M0 X W [st] f:=BA a
theorem tS.HH {k:D->Hn Fl}{E:Ends}{i:St}{H:Hp}(h:tS X W (λa S=>aj (fe a S) λd f=>k d a f) E i H) :
  tE X W fe i H λv g => ∃ J a S d r b,Cf X J a S i g/\At X.K g J d v/\k d a S=aa (r,b)/\LK X W J g r b E:=by
 obtain⟨J,a,S,r,b,c,e,z⟩:=h;cases q:fe a S with
 |none=>simp[q] at e
 |some o =>
  obtain⟨n,f⟩:=o;simp only[q] at e;cases n with
  |error x =>
   cases e;exact⟨J,a,S,.error x,_,c,.nil,q,z⟩
  |ok d=>exact⟨J,a,S,.ok d,f,c,.nil,q,λl g v x j m=>⟨l,a,f,d,r,b,c.re x j,m,e,z.ex x⟩⟩
theorem tS.Ll {k:e8->Hn Fl}{E:Ends}{g:St}{H:Hp}(h:tS X W (λa S=>aj (gt a S) λd f=>k d a f) E g H) :
  tT X W gt g H λb i=>tS X W (k b) E g i:=by
 obtain⟨J,a,S,r,j,c,e,z⟩:=h;cases q:gt a S with
 |none=>simp[q] at e
 |some o =>
  obtain⟨p,f⟩:=o;simp only[q] at e;cases p with
  |error x =>
   cases e;exact⟨J,a,S,.error x,_,c,.nil,q,z⟩
  |ok d =>
   refine⟨J,a,S,.ok d,f,c,.nil,q,λn i v x l m=>?_⟩;cases m;exact⟨n,a,f,r,j,c.re x l,e,z.ex x⟩
theorem aE (a:SE X W e fe):SS X W (.Return (aa e) pos) (aZ fe):=(DA a).imp λE g H h=>(tS.HH h).mono λv f b=>by obtain⟨J,i,S,d,r,j,c,m,q,z⟩:=b;cases q;exact z J f v Ex.refl c.Ie m
theorem bC {a b:ae mq}(hc:KD X W c gt)(ha:M0 X W a f)(hb:M0 X W b g):SS X W (.If c a b pos) (Je gt f g):=(E4 hc ha hb).imp λE e H h=>(tS.Ll h).mono λk i d=>by
 cases k with
 |true=>rw[dw rfl];exact d
 |false=>rw[ee #[1]];exact d
theorem rN (b:SE X W e fe)(g:N_ e av pos.line X.env=u1 bo:=by rfl):SS X W (.Expr e pos) (u7 fe):=(BC b g).imp λE f H h=>(tS.HH h).mono λv i a=>by obtain⟨J,k,S,d,r,j,c,m,q,z⟩:=a;cases q;exact z J f i Ex.refl c
theorem Cf.set {J:ae b0}{b:Hv}{S:Hu}{e:St}{H:Hp}{i:Nat}{d:D}{v:V}(c:Cf X J b S e H)(m:At X.K H J d v):Cf X J (b.set i (aa d)) S (e.set i (aa v)) H:=by
 refine⟨by rw[YL,YL];exact c.len,λj g h=>?_,c.Ie⟩;by_cases a:j=i
 ·subst a;have f:j < b.length:=by have:=(b7.mp h).1;rwa [YL] at this
  rw[Ov f] at h;cases h;exact⟨v,Ov (by rw[← c.len];exact f),m⟩
 rw[Pf (vu a)] at h;obtain⟨k,n,l⟩:=c.env j g h;exact⟨k,by rw[Pf (vu a)];exact n,l⟩
theorem aS {i:Nat}{x:ej}{a:N5}(l:X.N.Nodup)(f:SE X W e fe)(hi:X.N[i]?=aa x:=by rfl)(k:Loc X.env.scope x:=by first |exact Zd rfl |exact Xg rfl)(j:N_ e (aa (.Name x a)) pos.line X.env=u1 bo:=by rfl)
  (n:X.fn x=a6∨X.env.scope.names.lookup x=aa .local:=by first |exact .inl rfl |exact .inr rfl |assumption) :
  SS X W (.Assign [.Name x a] e pos) (bO i fe):=(Dz l hi k f j n).imp λE p H h=>(tS.HH h).mono λv g b=>by
 obtain⟨J,s,S,d,r,o,c,m,q,z⟩:=b
 cases q;exact z J _ g Ex.refl (c.set m)
noncomputable def V2 (X:Cx)(u:D->Hv->ax Hv):TG:=λv e H Q => ∃ J c S d a,Cf X J c S e H/\At X.K H J d v/\u d c=aa a/\∀ b,Cf X J a S b H->Q b H
noncomputable def F0 (X:Cx)(u:ae D->Hv->ax Hv):Oh:=λf e H Q => ∃ J d S c a,Cf X J d S e H/\Hz X.K H J c f/\u c d=aa a/\∀ b,Cf X J a S b H->Q b H
def SG (X:Cx)(a:gj)(u:D->Hv->ax Hv):Prop:=PG X a (V2 X u)
def RY (X:Cx)(a:ae gj)(u:ae D->Hv->ax Hv):Prop:=ON X a (F0 X u)
theorem PG.imp {c:gj}{t t':TG}(h:PG X c t)(i:∀ v b H Q,t' v b H Q->t v b H Q):PG X c t':=λa s b H v u Q I r z=>h a s b H v u Q I r (i _ _ _ _ z)
theorem ON.imp {c:ae gj}{t t':Oh}(h:ON X c t)(i:∀ v b H Q,t' v b H Q->t v b H Q):ON X c t':=λa s b H v u Q I r z=>h a s b H v u Q I r (i _ _ _ _ z)
noncomputable def aJ (i:Nat):D->Hv->ax Hv:=λd a=>aa (a.set i (aa d))
noncomputable def jH:ae D->Hv->ax Hv:=λa b=>match a with
 |[]=>aa b
 |_=>av
noncomputable def cm (u:D->Hv->ax Hv)(us:ae D->Hv->ax Hv):ae D->Hv->ax Hv:=λb c=>match b with
 |d::r=>(u d c).bind λa=>us r a
 |[]=>av
noncomputable def nM (n:Nat)(us:ae D->Hv->ax Hv):D->Hv->ax Hv:=λd b=>match d with
 | .tup a=>if a.length=n then us a b else av
 |_=>av
theorem bt {i:Nat}{x:ej}(f:X.N.Nodup)(hi:X.N[i]?=aa x:=by rfl)(b:Loc X.env.scope x:=by first |exact Zd rfl |exact Xg rfl)(g:X.fn x=a6∨X.env.scope.names.lookup x=aa .local:=by first |exact .inl rfl |exact .inr rfl |assumption) :
  SG X (.Name x pos) (aJ i):=(BI f hi b g).imp λv j H Q h=>by
 obtain⟨J,k,S,d,a,c,m,e,z⟩:=h;cases e;exact z _ (c.set m)
theorem m9:RY X [] jH:=Oi.imp λv d H Q h=>by
 obtain⟨J,f,S,a,b,c,m,e,z⟩:=h;cases a with
 |nil=>cases e;exact⟨Hz.HA.mp m,z _ c⟩
 |cons _ _=>cases e
theorem eQ {e:gj}{es:ae gj}{u:D->Hv->ax Hv}{us:ae D->Hv->ax Hv}(g:SG X e u)(o:RY X es us)
  (j:(OH (e::es) X.env).map (·.2)=YA e X.env::(OH es X.env).map (·.2):=by rfl):RY X (e::es) (cm u us):=(zT g o j).imp λv t H Q h=>by
 obtain⟨J,q,S,i,b,c,m,e,z⟩:=h;cases i with
 |nil=>cases e
 |cons d r =>
  obtain⟨s,f,rfl,m1,m2⟩:=Hz.Hy.mp m;obtain⟨a,n,k⟩:=kl.mp e;exact⟨s,f,rfl,J,q,S,d,a,c,m1,n,λp l=>⟨J,a,S,r,b,l,m2,k,z⟩⟩
theorem rP {es:ae gj}{k:Nat}{us:ae D->Hv->ax Hv}{n:Nat}(hc:X.calm=a6)(h:RY X es us)
  (p:(OH es X.env).length=n:=by rfl) (j:(OH es X.env).findIdx? (·.1)=av:=by rfl):SG X (.Tuple es k pos) (nM n us):=(DE hc h p j).imp λv q H Q h=>by
 obtain⟨J,l,S,d,b,c,m,e,z⟩:=h;cases d with
 |tup i =>
  obtain⟨a,g,rfl,t,f⟩:=At.HK.mp m;simp only[nM] at e;rw[0]
  ·rename_i o;exact⟨a,g,rfl,t.sq,by rw[← f.length];exact o,J,l,S,i,b,c,f,e,z⟩
  cases e
 |_=>cases e
noncomputable def Cw (u:D->Hv->ax Hv)(f:Hn D):Hn Fl:=λa S=>aj (f a S) λd b=>aQ ((u d a).map Fl.next) b
structure Walk (X:Cx) (Jt:It) (ds:ae D) (J0:ae b0) (H0:Hp):Prop where
 len:ds.length<=dk
 go:∀ J H i,Ex J0 H0 J H->i<ds.length->Jt.go i H
 MU:∀ J H (i:Nat) x H',Ex J0 H0 J H->(∀ a∈J,H a≠av)->i<ds.length->Jt.MU i H x H'->∃ d,ds[i]?=aa d/\At X.K H' J d x/\HJ H H'
 stop:∀ J H i,Ex J0 H0 J H->ds.length<=i->Jt.stop i H
noncomputable def iW (X:Cx)(W:WT)(i:Hn (ae D)):TI:=λh H R => ∃ J f S r d,Cf X J f S h H/\i f S=aa (r,d)/\match r with
 | .ok g => ∀ b a e,Ex J H b a->HW X.K b d a->Walk X e g b a->R e a
 | .error c => ∀ b a,Ex J H b a->HW X.K b d a->W c b d a
def SI (X:Cx)(W:WT)(a iter:gj)(b:Hn (ae D)):Prop:=PI X a iter (iW X W b)
theorem PI.imp {c iter:gj}{t t':TI}(h:PI X c iter t)(i:∀ b H R,t' b H R->t b H R):PI X c iter t':=λa s b H R I z=>h a s b H R I (i _ _ _ z)
noncomputable def dC (u:D->Hv->ax Hv)(body:Hn Fl):ae D->Hn Fl
 |[],ρ,S=>HC (.next ρ) S
 |d::ds,ρ,S=>match u d ρ with
  |av=>av
  |aa c=>aj (body c S) λe b=>match e with
   | .next a=>dC u body ds a b
   | .cont a=>dC u body ds a b
   | .brk a=>HC (.next a) b
   | .ret d=>HC (.ret d) b
noncomputable def ka (d:Hn (ae D))(u:D->Hv->ax Hv)(body:Hn Fl):Hn Fl:=λa S=>aj (d a S) λb c=>dC u body b a c
theorem iX {O iter:gj}{body:ae mq}{Y:Hn (ae D)}{u:D->Hv->ax Hv}(hp:PassesOwn #[9] X.A X.env X.xe)(hc:X.calm=a6)(hi:SI X W O iter Y)(hg:SG X O u)(hb:M0 X W body f)
  (hs:∀ x,PL iter X.env x=u1 x:=by intro _;rfl):SS X W (.For O iter body [] pos) (ka Y u f):=(DB hp hc hi hg hb hs).imp λE σ H h=>by
 obtain⟨J,L,S,r,s,c,e,z⟩:=h;unfold ka at e;cases q:Y L S with
 |none=>simp[q] at e
 |some o =>
  obtain⟨R,Z⟩:=o;simp only[q] at e;cases R with
  |error x =>
   cases e;exact⟨J,L,S,.error x,_,c,q,z⟩
  |ok p =>
   refine⟨J,L,S,.ok p,Z,c,q,λU H0 Jt x0 s0 w=>?_⟩
   refine⟨λi m σ H=>m=p.length-i/\∃ a k l,Ex U H0 a H/\Cf X a k l σ H/\∃ r s,dC u f (p.drop i) k l=aa (r,s)/\LK X W a H r s E,
    ⟨_,rfl,U,L,Z,Ex.refl,c.re x0 s0,r,s,by simpa using e,z.ex x0⟩,λi m Q I hw=>?_⟩
   obtain⟨hm,a,k,l,ex,K,r1,UN,j,ez⟩:=hw;by_cases hi:i<p.length
   ·refine .inr ⟨w.go a I i ex hi,λn v => ∃ V B Sy,Ex U H0 V v/\Cf X V B Sy n v/\∃ r s,dC u f (p.drop (i+1)) B Sy=aa (r,s)/\LK X W V v r s E,
     λn v hn=>⟨p.length-(i+1),#[2],rfl,hn⟩,λx v y=>?_⟩
    obtain⟨d,ed,ad,sm⟩:=w.MU a I i x v ex K.Ie.all hi y;have hd:p.drop i=d::p.drop (i+1):=by rw[TC hi];rw[a4 hi] at ed;cases ed;rfl
    rw[hd] at j;unfold dC at j;cases hu:u d k with
    |none=>simp[hu] at j
    |some b =>
     simp only[hu] at j;have N:Ex a I a v:=Ex.same sm;refine⟨a,k,l,d,b,K.re N (K.Ie.same sm),ad,hu,λσ2 F=>?_⟩;cases t:f b l with
     |none=>simp[t] at j
     |some o =>
      obtain⟨R,M⟩:=o;simp only[t] at j;have G:=ez.ex N;cases R with
      |error x =>
       cases j;exact⟨a,b,l,.error x,_,F,t,G⟩
      |ok fl =>
       cases fl with
       |next g=>exact⟨a,b,l,.ok (.next g),M,F,t,λP n H2 C T=>⟨P,g,M,ex.trans (N.trans C),T,r1,UN,j,G.ex C⟩⟩
       |cont g=>exact⟨a,b,l,.ok (.cont g),M,F,t,λP n H2 C T=>⟨P,g,M,ex.trans (N.trans C),T,r1,UN,j,G.ex C⟩⟩
       |brk g=>cases j;exact⟨a,b,l,.ok (.brk g),_,F,t,G⟩
       |ret dd=>cases j;exact⟨a,b,l,.ok (.ret dd),_,F,t,G⟩
   refine .inl ⟨w.stop a I i ex #[0],?_⟩;rw[Wk #[0]] at j;unfold dC at j;cases j;exact ez a Q I Ex.refl K
noncomputable def wN (f:Hn D):Hn (ae D):=λb S=>aj (f b S) λd a=>aQ (match d with | .tup c=>aa c |_=>av) a
noncomputable def A0 (f:Hn D):Hn (ae D):=λb S=>aj (f b S) λd a=>aQ (match d with | .lst c=>aa c |_=>av) a
theorem Walk.list {a:b0}{ds:ae D}{xs:ae V}{J:ae b0}{H:Hp}(t:LQ X.K H J a xs)(m:Hz X.K H J ds xs):Walk X (Su X.K a) ds J H where
 len:=by rw[m.length];exact t.len
 go:=λf c i x b=>by
  have m1:=m.ex x;obtain⟨v,g,_⟩:=m1.get (a4 b);exact⟨xs,v,(t.ex x).sq,g⟩
 MU:=λf c i v j x k b y=>by
  obtain⟨rfl,h⟩:=y;obtain⟨d,e,a⟩:=(m.ex x).get' (h xs (t.ex x).sq);exact⟨d,e,a,HJ.refl _⟩
 stop:=λf c i x b=>⟨xs,(t.ex x).sq,by rw[← m.length];exact b⟩
theorem Walk.tup {a:b0}{ds:ae D}{xs:ae V}{J:ae b0}{H:Hp}(t:TQ X.K H J a xs)(m:Hz X.K H J ds xs):Walk X (Sv X.K a) ds J H where
 len:=by rw[m.length];exact t.len
 go:=λf c i x b=>by
  have m1:=m.ex x;obtain⟨v,g,_⟩:=m1.get (a4 b);exact⟨xs,v,(t.ex x).sq,g⟩
 MU:=λf c i v j x k b y=>by
  obtain⟨rfl,h⟩:=y;obtain⟨d,e,a⟩:=(m.ex x).get' (h xs (t.ex x).sq);exact⟨d,e,a,HJ.refl _⟩
 stop:=λf c i x b=>⟨xs,(t.ex x).sq,by rw[← m.length];exact b⟩
theorem su {k:D->ax (ae D)}{i:St}{H:Hp}{R:It->Hp->Prop}(h:iW X W (λa S=>aj (fe a S) λd g=>aQ (k d) g) i H R) :
  tE X W fe i H λv f => ∃ J S d ds,HW X.K J S f/\At X.K f J d v/\k d=aa ds/\∀ H' b,HJ f H'->Walk X b ds J H'->R b H':=by
 obtain⟨J,a,S,r,s,c,e,z⟩:=h;cases q:fe a S with
 |none=>simp[q] at e
 |some o =>
  obtain⟨p,g⟩:=o;simp only[q] at e;cases p with
  |error x =>
   cases e;exact⟨J,a,S,.error x,_,c,.nil,q,z⟩
  |ok d =>
   refine⟨J,a,S,.ok d,g,c,.nil,q,λl f v x j m=>?_⟩;cases hk:k d with
   |none=>simp[hk] at e
   |some ds =>
    simp only[hk,kc,cA,HC] at e;cases e;exact⟨l,_,d,ds,j,m,hk,λH' b n w=>z l H' b (x.trans (Ex.same n)) (j.same n) w⟩
theorem Dg {i:gj}(g:SE X W e fe):SI X W i e (wN fe):=(DD g).imp λo H R h=>(su h).mono λv j c=>by
 obtain⟨J,S,d,n,s,m,b,z⟩:=c
 cases d with
 |tup l =>
  cases b;obtain⟨a,f,rfl,t,k⟩:=At.HK.mp m;exact⟨a,rfl,⟨f,t.sq⟩,z j _ (HJ.refl _) (Walk.tup t k)⟩
 |_=>cases b
theorem Di {i:gj}(g:SE X W e fe):SI X W i e (A0 fe):=(BH g).imp λo H R h=>(su h).mono λv j c=>by
 obtain⟨J,S,d,n,s,m,b,z⟩:=c
 cases d with
 |lst l =>
  cases b;obtain⟨a,f,rfl,t,k⟩:=At.HN.mp m;exact⟨a,rfl,⟨f,t.sq⟩,z j _ (HJ.refl _) (Walk.list t k)⟩
 |_=>cases b
noncomputable def iG:ae D->ax (ae D)
 |[.int j]=>if -(2 ^ 62)<=j/\j<=16777216 then aa ((ei j.toNat).map λ(k:Nat)=>D.int k) else av
 |_=>av
noncomputable def kS (k:ae D->ax (ae D))(t:Hn (ae D)):Hn (ae D):=λc S=>aj (t c S) λa b=>aQ (k a) b
theorem Walk.range {J:ae b0}{H:Hp}(lo:Int)(n:Nat)(hz:n<=dk):Walk X (RP lo n) ((ei n).map λ(k:Nat)=>D.int (lo+k)) J H where
 len:=by rw[dV,lr];exact hz
 go:=λb c i x a=>by rw[dV,lr] at a;exact a
 MU:=λb c i v e x d a y=>by
  obtain⟨rfl,rfl⟩:=y;rw[dV,lr] at a;exact⟨.int (lo+i),by rw[eh,Yj a];rfl,#[14],HJ.refl _⟩
 stop:=λb c i x a=>by rw[dV,lr] at a;exact a
theorem oj {k:ae D->ax (ae D)}{t:Hn (ae D)}{i:St}{H:Hp}{R:It->Hp->Prop}(h:iW X W (λa S=>aj (t a S) λd g=>aQ (k d) g) i H R) :
  tA X W t i H λvs f => ∃ J S es ds,HW X.K J S f/\Hz X.K f J es vs/\k es=aa ds/\∀ H' b,HJ f H'->Walk X b ds J H'->R b H':=by
 obtain⟨J,a,S,r,s,c,e,z⟩:=h;cases q:t a S with
 |none=>simp[q] at e
 |some o =>
  obtain⟨p,g⟩:=o;simp only[q] at e;cases p with
  |error x =>
   cases e;exact⟨J,a,S,.error x,_,c,.nil,q,z⟩
  |ok es =>
   refine⟨J,a,S,.ok es,g,c,.nil,q,λl f v x j m=>?_⟩;cases hk:k es with
   |none=>simp[hk] at e
   |some ds =>
    simp only[hk,kc,cA,HC] at e;cases e;exact⟨l,_,es,ds,j,m,hk,λH' b n w=>z l H' b (x.trans (Ex.same n)) (j.same n) w⟩
theorem jo {g a:gj}{t:Hn (ae D)}{x:ej}{p:N5}(k:x="range")(f:X.mg x=av)(ha:SA X W [a] t)(l:Gl X x:=by rfl)(i:dm [a] X.env=[(bo,lX a X.env)]:=by rfl):SI X W g (.Call (.Name x p) [a] [] pos) (kS iG t):=by
 subst k;refine PI.imp (yu l f ha i) λq H R h=>(oj h).mono λu d e=>?_;obtain⟨J,S,es,o,s,m,b,z⟩:=e;unfold iG at b;split at b
 ·rename_i j;split at b
  ·rename_i c;cases b;obtain⟨v,r,rfl,a1,n⟩:=Hz.Hy.mp m;cases Hz.HA.mp n;cases At.Hw.mp a1;refine⟨j,rfl,c.1,#[2],z d _ (HJ.refl _) ?_⟩;have w:=Walk.range (X:=X) (J:=J) (H:=d) 0 j.toNat (by show j.toNat<=16777216;omega);simpa using w
  cases b
 cases b
end
structure Jh (scope:i0) (env:Yy):Prop where
 kind:scope.kind = .function
 nd:(scope.names.map (·.1)).Nodup
 names:∀ y∈scope.names,y.2 = .local->scope.names.lookup y.1=aa .local
 frees:∀ y∈scope.names,y.2 = .free->env.kindOf y.1=aa .cell∨env.kindOf y.1=aa .free
theorem eZ {env:Yy}:∀ (names:ae (ej×H5)) (a:ae (ej×b0)),(∀ y∈names,y.2 = .free->∃ c,env.cells.lookup y.1=aa c)->(∀ x c,a.lookup x=aa c->env.cells.lookup x=aa c) ->
  ∃ cl:ae (ej×b0),(ZH names a λ(x:ej×H5) r=>(do
    let (name,kind):=x
    if kind==.free then u1 (Dd ((name,← cellOf env name)::r)) else u1 (Dd r):ZI (ForInStep (ae (ej×b0)))))=u1 cl /\
   (∀ x c,cl.lookup x=aa c->env.cells.lookup x=aa c)/\(∀ x c,a.lookup x=aa c->∃ b,cl.lookup x=aa b)/\(∀ y∈names,y.2 = .free->∃ c,cl.lookup y.1=aa c)
 |[],a,_,ha=>⟨a,by simp,ha,λx c h=>⟨c,h⟩,by simp⟩
 |(n,k)::r,a,hc,ha=>by
  by_cases l:k = .free
  ·subst l;obtain⟨c,m⟩:=hc (n,.free) (e7 ..) rfl
   have o:∀ x b,((n,c)::a).lookup x=aa b->env.cells.lookup x=aa b:=λx b h=>by
    rw[Mf] at h;cases d:x==n with
    |true =>
     rw[d] at h;cases h;have:x=n:=LV d;rw[this];exact m
    |false=>rw[d] at h;exact ha x b h
   obtain⟨cl,e,i,f,j⟩:=eZ r ((n,c)::a) (λy hy=>hc y (d7 _ hy)) o;have p:cellOf env n=u1 c:=by unfold cellOf;rw[m]
   refine⟨cl,?_,i,λx b h=>?_,λy hy g=>?_⟩
   ·rw[ZX];simp only[QS,ox,p,pure_bind];exact e
   ·by_cases d:(x==n)=a6
    ·exact f x c (by rw[Mf,d])
    exact f x b (by rw[Mf,Y2.mpr d];exact h)
   rcases gi.mp hy with rfl |hy
   ·exact f n c (by rw[Mf,QS])
   exact j y hy g
  obtain⟨cl,e,i,f,j⟩:=eZ r a (λy hy=>hc y (d7 _ hy)) ha;refine⟨cl,?_,i,f,λy hy g=>?_⟩
  ·rw[ZX];have:(k==x4)=bo:=by simpa using l
   simp only[this,h5,mz,pure_bind];exact e
  rcases gi.mp hy with rfl |hy
  ·exact hK g l
  exact j y hy g
noncomputable def lN (X:Cx)(scope:i0)(cl:ae (ej×b0))(a:ae ej)(C:b0)(b:cc)(c:Hp)(fp:ae b0):Cx:=
 { X with N:=a,s₀:=b,H₀:=c,env:=compEnvC scope cl C X.env,outer:=X.stack,ex:=fp,fn:=λx=>scope.names.lookup x==aa .cell,pn:=[],xe:=λ_ _=>False }
theorem fR {env:Yy}{x:ej}:∀ {names:ae (ej×H5)}{k:H5},(names.map λ(n,k)=>if (k==x4&&env.scope.kind==.function&&env.kindOf n==aa .cell) then (n,x6) else (n,k)).lookup x=aa k ->
  (k = .cell∨k = .free)->(x,x4)∈names∨(x,x6)∈names
 |[],_,h,_=>by simp at h
 |(n,k0)::r,k,h,a=>by
  have b:∀ {k'},(r.map λ(n,k)=>if (k==x4&&env.scope.kind==.function&&env.kindOf n==aa .cell) then (n,x6) else (n,k)).lookup x=aa k'->(k' = .cell∨k' = .free)->(x,x4)∈(n,k0)::r∨(x,x6)∈(n,k0)::r:=λh a=>(fR h a).imp (d7 _) (d7 _);rw[hA] at h;by_cases hc:(k0==x4&&env.scope.kind==.function&&env.kindOf n==aa .cell)=a6
  ·simp only[hc,ox,Mf] at h;cases hx:x==n with
   |true =>
    have e:x=n:=LV hx;subst e;have:k0 = .free:=by simp at hc;exact hc.1.1
    subst this;exact .inl (e7 ..)
   |false=>rw[hx] at h;exact b h a
  simp only[hc,mz,Mf,h5] at h;cases hx:x==n with
  |true =>
   rw[hx] at h;have e:x=n:=LV hx;subst e;cases h;rcases a with rfl |rfl
   ·exact .inr (e7 ..)
   exact .inl (e7 ..)
  |false=>rw[hx] at h;exact b h a
noncomputable def cL {α:Type}(ts:Nat)(ix:ae Nat)(a:ae (ax α)):ae (ax α):=el ts av++ix.map λi=>(a[i]?).getD av
noncomputable def iN (ts:ae ej)(ix:ae Nat)(N:ae ej):ae ej:=ts++ix.map λi=>N.getD i RZ
theorem hZ {env:Yy}{x:ej}:∀ {names:ae (ej×H5)},names.lookup x=aa .free ->
  (names.map λ(n,k)=>if (k==x4&&env.scope.kind==.function&&env.kindOf n==aa .cell) then (n,x6) else (n,k)).lookup x=aa .cell ∨
  (names.map λ(n,k)=>if (k==x4&&env.scope.kind==.function&&env.kindOf n==aa .cell) then (n,x6) else (n,k)).lookup x=aa .free
 |[],h=>by simp at h
 |(n,k0)::r,h=>by
  rw[hA];rw[Mf] at h;by_cases hc:(k0==x4&&env.scope.kind==.function&&env.kindOf n==aa .cell)=a6
  ·simp only[hc,ox,Mf];cases hx:x==n with
   |true=>exact .inl rfl
   |false=>rw[hx] at h;exact hZ h
  simp only[hc,mz,Mf,h5];cases hx:x==n with
  |true=>rw[hx] at h;exact .inr h
  |false=>rw[hx] at h;exact hZ h
theorem lookup_mem {x:ej}{k:H5}:∀ {names:ae (ej×H5)},names.lookup x=aa k->(x,k)∈names
 |[],h=>by simp at h
 |(n,k0)::r,h=>by
  rw[Mf] at h;cases hx:x==n with
  |true=>rw[hx] at h;cases h;rw[LV hx];exact e7 ..
  |false=>rw[hx] at h;exact d7 _ (lookup_mem h)
theorem bK:∀ (names:ae (ej×H5)) (n:Nat) (a:ae (ej×b0)),rb n names a=rb n names []++a
 |[],_,_=>rfl
 |(x,k)::r,n,a=>by
  unfold rb;split
  ·rw[bK r _ ((x,n)::a),bK r _ [(x,n)],gv];rfl
  exact bK r n a
theorem ik {x:ej}{c:b0}:∀ {names:ae (ej×H5)}{n:Nat},(x,c)∈rb n names []->(x,x6)∈names
 |[],_,h=>by cases h
 |(y,k)::r,n,h=>by
  unfold rb at h;split at h
  ·rename_i a;rw[bK] at h;rcases il.mp h with h |h
   ·exact d7 _ (ik h)
   have:=eR.mp h;cases this;rw[LV a];exact e7 ..
  exact d7 _ (ik h)
theorem eI {x:ej}:∀ {names:ae (ej×H5)}{n:Nat},(x,x6)∈names->∃ c,(rb n names []).lookup x=aa c
 |(y,k)::r,n,h=>by
  unfold rb;rcases gi.mp h with e |h
  ·cases e;rw[dw (by rfl),bK,UO];cases q:(rb (n+1) r []).lookup x with
   |some c=>exact⟨c,rfl⟩
   |none=>exact⟨n,by simp⟩
  split
  ·obtain⟨c,e⟩:=eI (n:=n+1) h;rw[bK,UO,e];exact⟨c,rfl⟩
  exact eI h
theorem oA {x:ej}{k a:H5}:∀ {names:ae (ej×H5)},(names.map (·.1)).Nodup->(x,k)∈names->(x,a)∈names->k=a
 |(y,k0)::r,nd,h,h'=>by
  obtain⟨n1,n2⟩:=Sh.mp nd;rcases gi.mp h with e |p<;>rcases gi.mp h' with b |q
  ·cases e;cases b;rfl
  ·cases e;exact hK (vl.mpr ⟨_,q,rfl⟩) n1
  ·cases b;exact hK (vl.mpr ⟨_,p,rfl⟩) n1
  exact oA n2 p q
structure KG (X:Cx) (scope:i0) (cl:ae (ej×b0)) (s3:cc) (h4:j0):Prop where
 out:∀ x c,cl.lookup x=aa c->X.env.cells.lookup x=aa c∨(s3.heap.objs.size<c/\h4.IsCell c av)
 inj:∀ x y c,cl.lookup x=aa c->cl.lookup y=aa c->x=y
 has:∀ x,(x,x4)∈scope.names∨(x,x6)∈scope.names->∃ c,cl.lookup x=aa c
 frees:∀ x c,scope.names.lookup x=aa .free->cl.lookup x=aa c->X.env.cells.lookup x=aa c
 own:∀ x c,scope.names.lookup x=aa .cell->cl.lookup x=aa c->s3.heap.objs.size<c
theorem KG.of {X:Cx}{i:Hr}{l:St}{m:Hp}{scope:i0}{cl:ae (ej×b0)}{b:cc}{o:VJ}(I:Inv X i l m b)(S:Jh scope X.env)(f:∀ x c,cl.lookup x=aa c->#[16]=aa c)(s:∀ y∈scope.names,y.2 = .free->∃ c,cl.lookup y.1=aa c) :
  KG X scope (rb (b.heap.objs.size+1) scope.names cl) b (Ye (b.heap.push o) scope.names):=by
 have ok:=cellsFrom_ok scope.names (b.heap.push o) (b.heap.objs.size+1) [] ⟨λ_ _ k=>(nomatch k),PQ⟩ (by rw[rl];exact eG _);rw[rl] at ok
 have g:∀ x c,(rb (b.heap.objs.size+1) scope.names cl).lookup x=aa c->((rb (b.heap.objs.size+1) scope.names []).lookup x=aa c)∨((rb (b.heap.objs.size+1) scope.names []).lookup x=av/\cl.lookup x=aa c):=λx c h=>by
  rw[bK,UO] at h;cases q:(rb (b.heap.objs.size+1) scope.names []).lookup x with
  |some d=>rw[q] at h;exact .inl h
  |none=>rw[q] at h;exact .inr ⟨rfl,h⟩
 have old:∀ x c,#[16]=aa c->c<b.heap.objs.size:=λx c h=>let ⟨v,q⟩:=I.cell x c h;q.lt;refine⟨λx c h=>?_,λx y c hx p=>?_,λx hx=>?_,λx c j h=>?_,λx c j h=>?_⟩
 ·rcases g x c h with q |⟨_,q⟩
  ·have:=ok.empty x c (mem_of_lookup q);exact .inr ⟨this.2,this.1⟩
  exact .inl (f x c q)
 ·rcases g x c hx with q |⟨_,q⟩<;>rcases g y c p with r |⟨_,r⟩
  ·exact name_of_addr ok.apart (mem_of_lookup q) (mem_of_lookup r)
  ·have a:=(ok.empty x c (mem_of_lookup q)).2;exact hK (hv (O6 (old y c (f y c r))) a) (qb _)
  ·have a:=(ok.empty y c (mem_of_lookup r)).2;exact hK (hv (O6 (old x c (f x c q))) a) (qb _)
  exact I.ok.inj x y c (f x c q) (f y c r)
 ·rw[bK,UO];cases q:(rb (b.heap.objs.size+1) scope.names []).lookup x with
  |some d=>exact⟨d,rfl⟩
  |none =>
   rcases hx with hx |hx
   ·exact s _ hx rfl
   obtain⟨c,e⟩:=eI (n:=b.heap.objs.size+1) hx;rw[q] at e;cases e
 ·rcases g x c h with q |⟨_,q⟩
  ·have:=oA S.nd (lookup_mem j) (ik (mem_of_lookup q));cases this
  exact f x c q
 rcases g x c h with q |⟨q,_⟩
 ·exact(ok.empty x c (mem_of_lookup q)).2
 obtain⟨d,e⟩:=eI (n:=b.heap.objs.size+1) (lookup_mem j);rw[q] at e;cases e
theorem pO {M:Model}{A:hG}{E:Hq}{s:cc}{scope:i0}{globals:b0}{cl:ae (ej×b0)}{qual:ej}{env:Yy}{Q:Yy->cc->Prop}
  (a:Q (newEnv scope s.heap.objs.size globals (rb (#[13]) scope.names cl) qual av .none (aa env) R6) { s with heap:=Ye (s.heap.push { cls:=.type "dict",data:=.dict #[] }) scope.names }) :
  d6 M A (XD scope globals cl [] qual av .none (aa env)) Q E s:=by
 simp only[XD,YC,ox];refine ak (wpAny_alloc ?_);refine ak (wpAny_layCells _ (λname kind cells=>by cases V4:kind==x6<;>simp[V4]) _ _ _ _ ?_);rw[show ({ s with heap:=s.heap.push { cls:=.type "dict",data:=.dict #[] } }:cc).heap.objs.size=#[13] from rl ..];rw[forIn_nil];exact ak (a5 (a5 a))
section
variable {X:Cx}{pins:Hr}{σ:St}{H:Hp}{s:cc}
theorem Inv.enter {scope:i0}{cl:ae (ej×b0)}{ts:ae ej}{ix:ae Nat}{fp:ae b0}{j:cc}{B:j0}{D:Hp}{m:Hs}{tk:Nat}(I:Inv X pins σ D j)(S:Jh scope X.env)(s:KG X scope cl j B)
  (Q:∀ t∈ix,scope.names.lookup (X.N.getD t RZ)=aa .free)
  (f:∀ b∈fp,g9 X pins D b) (J:∀ b∈fp,∃ o,j.heap.get? b=aa o) (k:∀ b o,j.heap.get? b=aa o->B.get? b=aa o) (hn:B.Ns j.heap.objs.size m) :
  Inv (lN X scope cl (iN ts ix X.N) j.heap.objs.size j D fp) [] (cL ts.length ix σ) D { j with heap:=B,toks:=tk }:=by
 have own:∀ b o,j.heap.get? b=aa o->∀ c,j.heap.objs.size<c->c≠b:=λb o e c h z=>qb _ (PN h (z▸ek e))
 refine⟨⟨I.ok.mod,S.kind,I.ok.glob,I.ok.blt,eG _,s.inj,λx W=>?_,(λx c a e=>qs (s.own x c (LV a) e)),I.ok.hd,I.ok.frames,.inl rfl,λb hb=>⟨?_,λx c e=>?_⟩,I.bs,fk I.ok.Oc I.sz,λb o e hb=>?_,λb hb z=>?_,I.stack,I.MF⟩,
  rfl,I.bare,Un.kept k,⟨m,hn,λi x v e1 Y e3=>?_⟩,λx c e=>?_,I.fresh,λx c e=>?_,λp P=>hK (show p∈([]:Hr) from P) #[3],I.HZ.kept k,?_⟩
 ·rcases W with z |z
  ·exact s.has x (fR z (.inl rfl))
  exact s.has x (fR z (.inr rfl))
 ·obtain⟨o,y⟩:=J b hb;exact md (ek y)
 ·rcases s.out x c e with q |q
  ·exact(f b hb).2.2.2.2.1 x c q
  obtain⟨o,y⟩:=J b hb;exact own b o y c q.1
 ·obtain⟨V,_,_,H,_⟩:=f b hb;rcases H with z |z
  ·exact I.ok.Nu b o e z
  exact hK (hv (ek e) (fk I.ok.Oc z)) (qb _)
 ·obtain⟨V,T,f2,H,_⟩:=f b hb;rcases gi.mp (I.LD b z) with e |e
  ·exact T e
  exact f2 e
 ·-- a captured name
  have d:(cL ts.length ix σ)[i]?=aa (aa v):=Y;have n:(iN ts ix X.N)[i]?=aa x:=e1;unfold cL at d;unfold iN at n;by_cases C:i<ts.length
  ·rw[gh (by simpa using C),ND] at d;rw[dw C] at d;cases d
  rw[f5 (by simpa using C)] at d;rw[f5 (by simpa using C)] at n;rw[Qw] at d;rw[eh] at d n;cases et:ix[i-ts.length]? with
  |none=>rw[et] at d;cases d
  |some t =>
   rw[et] at d n;simp only[Vq,Ox] at d n
   have L : σ[t]?=aa (aa v):=by
    cases q : σ[t]? with
    |none=>rw[q] at d;cases d
    |some w=>rw[q] at d;simp only[QU] at d;rw[d]
   have K:t<X.N.length:=by rw[← I.len];exact(b7.mp L).1
   have Z:X.N[t]?=aa x:=by rw[LG,a4 K] at n;rw[a4 K];simp only[QU] at n;rw[n]
   have E:scope.names.lookup x=aa .free:=by have:=Q t (mx et);rwa [n] at this
   have G:=lookup_mem E;have g:=S.frees _ G rfl;obtain⟨m0,_,hl⟩:=I.loc
   obtain⟨u,r,l⟩:=hl t x v Z L (by
    rcases g with z |z
    ·exact .inr (.inl z)
    exact .inr (.inr z))
   refine⟨u,r,.inr ⟨hZ E,?_⟩⟩;obtain⟨c,F⟩:=s.has x (.inl G);have R:=s.frees x c E F;rcases l with ⟨U,_⟩ |⟨_,c',M,cell⟩
   ·have O:X.env.kindOf x=aa .local:=U;rcases g with z |z
    ·have A:X.env.kindOf x=aa .cell:=z;rw[O] at A;cases A
    have A:X.env.kindOf x=aa .free:=z;rw[O] at A;cases A
   rw[R] at M;cases M;exact⟨c,F,cell.keeps k⟩
 ·rcases s.out x c e with q |q
  ·obtain⟨v,o,y,hd⟩:=I.cell x c q;exact⟨v,o,k c o y,hd⟩
  exact⟨_,q.2⟩
 ·rcases s.out x c e with q |q
  ·exact I.JT x c q
  exact I.HZ.fresh (qs q.1)
 show (cL ts.length ix σ).length=(iN ts ix X.N).length;unfold cL iN;simp
theorem Inv.leave {scope:i0}{cl:ae (ej×b0)}{p:ae ej}{l:St}{fp:ae b0}{g s':cc}{h':j0}{i H':Hp}{x:Hr}(I:Inv X pins σ i g)(f:∀ b∈fp,g9 X pins i b)
  (j:Inv (lN X scope cl p g.heap.objs.size g i fp) x l H' s') (k:∀ b,b≠g.heap.objs.size->h'.get? b=s'.heap.get? b):Inv X pins σ H' { s' with heap:=h' }:=by
 have un:Un (MT X.stack) fp i H' g.heap s'.heap:=j.base;have m:∀ b o,g.heap.get? b=aa o->b≠g.heap.objs.size:=λb o e=>md (ek e)
 have r:Un (MT X.stack) fp i H' g.heap h':=by
  refine⟨λb o e n hb h=>?_,λb o e n hb h=>?_,un.free,λb o e h=>?_,un.Lz,un.Lb,un.LA⟩
  ·rw[k b (m b o e)];exact un.keep b o e n hb h
  ·rw[k b (m b o e)];exact un.slot b o e n hb h
  rw[k b (m b o e)];exact un.there b o e h
 have HZ:JX X.prog X.w H' h':=λb u e=>by
  have s:H' g.heap.objs.size=av:=j.free;have ne:∀ c v,H' c=aa v->c≠g.heap.objs.size:=λc v q z=>by rw[z,s] at q;cases q
  refine(j.HZ b u e).Ly (λc v hc q=>?_) (λ_ q=>q) λ_ _ q=>q;rw[k c]
  ·exact q
  rcases hc with z |z
  ·rw[z];exact ne b u e
  exact ne c _ z
 have os:s'.os=g.os:=j.os;exact I.Qy (s':={ s' with heap:=h' }) os r HZ j.bare λb hb=>let ⟨_,a,_,t,c,d⟩:=f b hb;⟨t,a,c,d⟩
end
section
variable {prog:ew}{w:hB}{A:hG}{R:YB->cc->Prop}{s:cc}
theorem sK {elt target iter:gj}{ifs:ae gj}{scope:i0}{pos:N5}{it l:ay}{env:Yy}(I:Nat->cc->Prop)
  (y:∀ n s,I n s->d6 #[8] A (VP it) (λr b=>match r with
   |av=>R (.ok .next) b
   |aa v=>d6 #[8] A (Pg target it v) (λ_ z=>d6 #[8] A (YA target env v) (λ_ j =>
     d6 #[8] A (ZH ifs a6 λc r=>if r=a6 then do let ok ← isTrue c env (lX c env);u1 (Dd ok) else u1 (Dd r)) (λok d =>
      if ok=a6 then d6 #[8] A (lX elt env) (λx g =>
       d6 #[8] A (call (.builtin "list.append") [l,x]) (λ_ i => ∃ m,m<n/\I m i) (λ_ _=>False) g) (λ_ _=>False) d
      else ∃ m,m<n/\I m d) (λ_ _=>False) j) (λ_ _=>False) z) (λ_ _=>False) b) (λ_ _=>False) s)
  (n:Nat) (h:I n s):PM #[8] A (.compLoop (.ListComp elt [⟨target,iter,ifs,0⟩] scope pos) 0 it l env) R s:=by
 have no:∀ {α:Type}{t:ZI α}{Q : α->cc->Prop}{E:Hq}{s:cc},d6 #[8] A t Q (λ_ _=>False) s->d6 #[8] A t Q E s:=λh=>v3 h (λ_ _ q=>q) λ_ _ f=>f.elim;refine codeAny_loop rfl I (λn s B=>?_) n h;show d6 _ A ((compTurn (.ListComp elt [⟨target,iter,ifs,0⟩] scope pos) 0 it l env).onRaise (λx=>do noteFrame x env;theTreesLotGoes x)) _ _ s;refine wpAny_noted ?_;rw[compTurn_list];refine ak (wpAny_standAt (ak (v3 (no (y n s B)) (λr b e=>?_) λ_ _ a=>a)));cases r with
 |none=>exact a5 e
 |some v =>
  refine ak (v3 (no e) (λ_ z C=>?_) λ_ _ a=>a);refine ak (v3 (no C) (λ_ j o=>ak (v3 (no o) (λok d k=>?_) λ_ _ a=>a)) λ_ _ a=>a);cases ok with
  |false=>exact a5 ⟨rfl,k⟩
  |true =>
   exact ak (ak (v3 (no k) (λx g u=>ak (v3 (no u) (λ_ i p=>a5 (a5 ⟨rfl,p⟩)) λ_ _ a=>a)) λ_ _ a=>a))
end
section
variable {X:Cx}{pins:Hr}{σ:St}{H:Hp}{s:cc}{D₀:b0}
theorem Inv.adopt {a:ae V}{its:ae ay}{n:Nat}(I:#[10])(f:g9 X pins H D₀)(e:s.heap.get? D₀=aa { cls:=.type "list",data:=.seq its.toArray n })(r:Vals a its)(hz:a.length<=dk):Inv X pins σ (upd H D₀ (.lst a)) s:=by
 obtain⟨m,h,t,i,l,k⟩:=f;have ne:∀ b o,H b=aa o->b≠D₀:=λb o q=>aU q m
 have q:=I.step (h':=s.heap) (H':=upd H D₀ (.lst a)) (g':=s.gens) (d':=s.drawn) (t':=s.toks) (ch:=[D₀]) (λb hb=>by
   have:b=D₀:=by simpa using hb
   subst this
   exact⟨i,h,l,k⟩)
  (λb o _ _ _ e _=>e) (λb o _ _ _ e _=>⟨o.slots,e⟩) (λb o hb _ j=>by rw[aG (λz=>hb (by simp[z]))];exact j) (λb o _ e=>⟨o,e⟩)
  (λb d q=>by rw[aG (ne b _ q)];exact q) (λb o d q=>by rw[aG (ne b _ q)];exact q) (λb p q=>⟨#[],by rw[aG (ne b _ q),q];simp⟩) (λ_ g=>g) (λb u q=>?_) I.bare
 ·exact q
 by_cases hb:b=D₀
 ·subst hb;rw[HG] at q;cases q;exact⟨hz,its,n,r,e⟩
 rw[aG hb] at q;exact(I.HZ b u q).Ly (λc v _ z=>z) (λc z=>by rw[aG (ne c _ z)];exact z) λc d z=>by rw[aG (ne c _ z)];exact z
end
def QX (X:Cx)(W:WT)(ifs:ae gj)(g:Hn e8):Prop:=
 ∀ (a:Hr) (s:cc) (b:St) (H:Hp) (Q:e8->Hp->Prop),Inv X a b H s->tT X W g b H Q ->
  d6 #[9] X.A (ZH ifs a6 λc r=>if r=a6 then do let ok ← isTrue c X.env (lX c X.env);u1 (Dd ok) else u1 (Dd r)) (TP X a b Q) X.xe s
noncomputable def gC:Hn e8:=λ_ S=>HC a6 S
theorem hV {X:Cx}{W:WT}:QX X W [] gC:=by intro a s b H Q I h;rw[forIn_nil];exact a5 ⟨H,I,ng h⟩
theorem m5 {X:Cx}{W:WT}{c:gj}{g:Hn e8}(hc:KD X W c g):QX X W [c] g:=by intro a s d H Q I h;rw[ZX];simp only[ox,forIn_nil];refine ak (ak (HU (hc a s d H Q I h) λb e q=>a5 ?_));exact a5 q
noncomputable def Qe {α:Type}(m:Out α):ax (α×Hu):=match m with
 |aa (.ok a,S)=>aa (a,S)
 |_=>av
noncomputable def cS (u:D->Hv->ax Hv)(gt:Hn e8)(fe:Hn D):ae D->Hv->Hu->ax (ae D×Hu)
 |[],_,S=>aa ([],S)
 |d::ds,ρ,S=>(u d ρ).bind λa=>(Qe (gt a S)).bind λ(k,b) =>
  if k=a6 then (Qe (fe a b)).bind λ(y,e)=>(cS u gt fe ds a e).map λ(f,c)=>(y::f,c)
  else cS u gt fe ds a b
noncomputable def fq (n:Nat)(ix:ae Nat)(d:Hn (ae D))(u:D->Hv->ax Hv)(gt:Hn e8)(fe:Hn D):Hn D:=λa S=>aj (d a S) λb c =>
 match cS u gt fe b (cL n ix a) c with
 |aa (out,S2)=>HC (.lst out) S2
 |av=>av
abbrev W0:WT:=λ_ _ _ _=>False
section
variable {X:Cx}{W:WT}
structure CompEnd (X:Cx) (pins:Hr) (σ:St) (J0:ae b0) (H0:Hp) (S2:Hu) (out:ae D) (a C:b0) (s':cc):Prop where
 ns:∃ m,s'.heap.Ns C m
 own:X.s₀.heap.objs.size<=C/\C≠X.env.locals/\(∀ x c,X.env.cells.lookup x=aa c->c≠C)/\∀ p∈X.pn++pins,p.1≠C
 fin:∀ h',(∀ b,b≠C->h'.get? b=s'.heap.get? b)->∃ J' H1 ys,Inv X pins σ (upd H1 a (.lst ys)) { s' with heap:=h' }/\Ex J0 H0 J' H1/\HW X.K J' S2 H1/\Hz X.K H1 J' out ys/\H1 a=av/\ys.length<=dk/\upd H1 a (.lst ys) C=av
theorem CompEnd.QY {c:Hr}{f:St}{g:ae b0}{h:Hp}{S2:Hu}{out:ae D}{a C:b0}{s':cc}(ce:CompEnd X c f g h S2 out a C s')(h':j0)(k:∀ b,b≠C->h'.get? b=s'.heap.get? b) :
  ∃ d H',Inv X c f H' { s' with heap:=h' }/\Ex g h d H'/\HW X.K d S2 H'/\At X.K H' d (.lst out) (.ref a)/\H' C=av:=by
 obtain⟨d,n,o,m,j,st,ad,e,l,i⟩:=ce.fin h' k;exact⟨d,_,m,j.trans (Ex.same (aO e _)),st.same (aO e _),At.IW ad e st.all l,i⟩
def wU (X':Cx)(l:Nat->j0->Prop)(fp:ae b0)(a:b0)(u:D->Hv->ax Hv)(gt:Hn e8)(fe:Hn D)(ds out:ae D)(m:ae b0)(k:Hp)(S2:Hu)(n:Nat)(s':cc):Prop:=
 ∃ (i:Nat) (c:St) (d:Hp) (f:ae b0) (e:Hv) (j:Hu) (dn rest:ae D) (h:ae V) (g:ae ay) (ep:Nat),
  n=ds.length-i+1/\i<=ds.length/\Inv X' [] c d s'/\l i s'.heap/\(∀ b∈a::fp,d b=av)/\Ex m k f d/\Cf X' f e j c d /\
  s'.heap.get? a=aa { cls:=.type "list",data:=.seq g.toArray ep }/\Vals h g/\Hz X'.K d f dn h/\dn.length<=i/\cS u gt fe (ds.drop i) e j=aa (rest,S2)/\out=dn++rest
theorem y6 {X':Cx}{tg elt:gj}{ifs:ae gj}{u:D->Hv->ax Hv}{gt:Hn e8}{fe:Hn D}{it a:b0}{fp:ae b0}{tn:Nat->j0->Prop}{Jt:It}{ds out:ae D}{Y:ae b0}{W:Hp}{S2:Hu}{R:YB->cc->Prop}
  (hx:X'.xe=λ_ _=>False) (hc:X'.calm=a6) (sg:SG X' tg u) (st:QX X' W0 ifs gt) (se:SE X' W0 elt fe) (T:Turn X'.prog X'.w X'.K tg Jt fp it tn) (wk:Walk X' Jt ds Y W) (na:a∉fp) (hz:ds.length<=dk)
  (fin:∀ (Jz:Hr) (H':Hp) (b:b0),b∈a::fp->H' b=av->(∀ p∈Jz,p.1≠b)->g9 X' Jz H' b)
  (Td:∀ (s':cc) (j:St) (H':Hp) (B:ae b0) (H:Hv) (N:ae V) (us:ae ay) (ep:Nat),Inv X' [] j H' s'->Ex Y W B H'->Cf X' B H S2 j H'->H' a=av->s'.heap.get? a=aa { cls:=.type "list",data:=.seq us.toArray ep }->Vals N us->Hz X'.K H' B out N->N.length<=dk->R (.ok .next) s') :
  ∀ n s,wU X' tn fp a u gt fe ds out Y W S2 n s->d6 (eJ X'.prog X'.w) X'.A (VP (.ref it)) (λr Q=>match r with
   |av=>R (.ok .next) Q
   |aa v=>d6 (eJ X'.prog X'.w) X'.A (Pg tg (.ref it) v) (λ_ MJ=>d6 (eJ X'.prog X'.w) X'.A (YA tg X'.env v) (λ_ s₂ =>
     d6 (eJ X'.prog X'.w) X'.A (ZH ifs a6 λc r=>if r=a6 then do let ok ← isTrue c X'.env (lX c X'.env);u1 (Dd ok) else u1 (Dd r)) (λok O =>
      if ok=a6 then d6 (eJ X'.prog X'.w) X'.A (lX elt X'.env) (λx s₄ =>
       d6 (eJ X'.prog X'.w) X'.A (call (.builtin "list.append") [.ref a,x]) (λ_ s₅ => ∃ m,m<n/\wU X' tn fp a u gt fe ds out Y W S2 m s₅) (λ_ _=>False) s₄) (λ_ _=>False) O
      else ∃ m,m<n/\wU X' tn fp a u gt fe ds out Y W S2 m O) (λ_ _=>False) s₂) (λ_ _=>False) MJ) (λ_ _=>False) Q) (λ_ _=>False) s:=by
 rintro n s ⟨i,j,H',B,H,Sx,dn,rest,N,us,ep,hn,hi,I',UP,fr,ex,cx,ga,vs,ad,dl,l,eo⟩;have fa:=fin [] H' a (e7 ..) (fr a (e7 ..)) (λp E=>by simp at E)
 have I1:Inv X' [(a,{ cls:=.type "list",data:=.seq us.toArray ep })] j H' s:=I'.JZ λp E=>by
  have:p=(a,{ cls:=.type "list",data:=.seq us.toArray ep }):=by simpa using E
  subst this;exact⟨ga,fa.1,fa.2.1,fa.2.2.1,λv z=>by cases z⟩
 have Te:∀ H1:Hp,(∀ b∈fp,H1 b=av)->∀ b∈fp,g9 X' [(a,{ cls:=.type "list",data:=.seq us.toArray ep })] H1 b:=λH1 hn b hb=>fin _ H1 b (d7 _ hb) (hn b hb) λp E=>by
  have:p=(a,{ cls:=.type "list",data:=.seq us.toArray ep }):=by simpa using E
  subst this;intro z;have z':a=b:=z;exact na (z'▸hb)
 by_cases IM:i<ds.length
 ·refine HU (T.item X' rfl rfl rfl hc i _ s j H' (λ_ _=>False) I1 (Te H' λb hb=>fr b (d7 _ hb)) UP (wk.go B H' i ex IM)) λr s1 G=>?_;obtain⟨v,er,h1⟩:=G;subst er;refine HU h1 λ_ s5 G=>?_;obtain⟨x,Z,I5,r5,y5,Tf,Sz⟩:=G;obtain⟨d,ed,V6,sm⟩:=wk.MU B H' i x Z ex cx.Ie.all IM y5;have x5:Ex B H' B Z:=Ex.same sm;have c5:Cf X' B H Sx j Z:=cx.re x5 (cx.Ie.same sm);have hd:ds.drop i=d::ds.drop (i+1):=by rw[TC IM];rw[a4 IM] at ed;cases ed;rfl
  rw[hd,cS] at l;obtain⟨h,eu,l⟩:=kl.mp l;obtain⟨⟨k,X⟩,eg,l⟩:=kl.mp l
  have V7:gt h Sx=aa (.ok k,X):=by
   unfold Qe at eg;split at eg
   ·rename_i q;cases eg;exact q
   cases eg
  have SD:=I5.pinned (Te Z Sz) (T.obj _ _ Tf)
  have keep:∀ {f:St}{C:Hp}{I:cc},Inv X' ([(a,{ cls:=.type "list",data:=.seq us.toArray ep })]++lB fp s5.heap) f C I->tn (i+1) I.heap/\(∀ b∈a::fp,C b=av)/\I.heap.get? a=aa { cls:=.type "list",data:=.seq us.toArray ep }:=λ{f C I} U=>by
   have pa:=U.pin (a,{ cls:=.type "list",data:=.seq us.toArray ep }) (m3 _ (n6 _ #[3]));refine⟨T.keep _ _ _ Tf λb hb o e=>(U.pin (b,o) (m3 _ (m3 _ (ie hb e)))).1,λb hb=>?_,pa.1⟩;rcases gi.mp hb with rfl |hb
   ·exact pa.2.1
   obtain⟨o,e,_⟩:=T.obj _ _ Tf b hb;exact(U.pin (b,o) (m3 _ (m3 _ (ie hb e)))).2.1
  have UQ:∀ {f:St}{C:Hp}{I:cc},Inv X' ([(a,{ cls:=.type "list",data:=.seq us.toArray ep })]++lB fp s5.heap) f C I->Inv X' [] f C I:=λ{f C I} U=>U.JZ λp E=>hK E #[3];have g:=sg _ s5 j Z x v (λf C=>C=Z/\Cf X' B h Sx f C) SD r5 ⟨B,H,Sx,d,h,c5,V6,eu,λf c6=>⟨rfl,c6⟩⟩;rw[hx] at g;refine HU g λ_ I G=>?_;obtain⟨f,C,U,eH,c6⟩:=G;subst eH
  have t:=st _ I f C (λb L=>b=k/\∃ J,Ex B C J L/\Cf X' J h X f L) U ⟨B,h,Sx,.ok k,X,c6,.nil,V7,λJ L b x7 s7 eb=>by
   cases eb
   exact⟨rfl,J,x7,c6.re x7 s7⟩⟩
  rw[hx] at t;refine HU t λb s7 G=>?_;obtain⟨L,I7,eb,J,x7,c7⟩:=G;subst eb;have UR:Ex Y W J L:=ex.trans (x5.trans x7);have US:Hz X'.K L J dn N:=(ad.ex x5).ex x7;cases b with
  |false =>
   rw[ee #[1]];simp only[h5,mz] at l;obtain⟨t8,R1,g8⟩:=keep I7;exact⟨ds.length-(i+1)+1,#[2],i+1,f,L,J,h,X,dn,rest,N,us,ep,rfl,#[2],UQ I7,t8,R1,UR,c7,g8,vs,US,#[2],l,eo⟩
  |true =>
   rw[dw rfl];simp only[ox] at l;obtain⟨⟨y,Sy⟩,ey,l⟩:=kl.mp l;obtain⟨⟨ry,S3⟩,ey2,l⟩:=dv.mp l
   have V8:fe h X=aa (.ok y,Sy):=by
    unfold Qe at ey;split at ey
    ·rename_i q;cases ey;exact q
    cases ey
   simp only[UW] at l;obtain⟨er,es⟩:=l;subst es er;have t:=se _ s7 f L (λw M => ∃ P,Ex J L P M/\Cf X' P h Sy f M/\At X'.K M P y w) I7 ⟨J,h,X,.ok y,Sy,c7,.nil,V8,λP M w x8 S aw=>⟨P,x8,c7.re x8 S,aw⟩⟩;rw[hx] at t;refine HU t λw S G=>?_;obtain⟨vw,M,I8,V9,P,x8,c8,aw⟩:=G;obtain⟨t8,R1,g8⟩:=keep I8;have UT:Hz X'.K M P dn N:=US.ex x8;have l1:=UT.length;have l2:=vs.length;refine YJ F.slot_list_append ⟨_,g8,rfl⟩ F.entry_list_append (F.args_list_append_2 _ _) (YZ a us.toArray ep w (by rw[eX];omega)) ⟨g8,?_⟩;have Tg:=Ze g8 (·.push w);have QZ:=fin [] M a (e7 ..) (R1 a (e7 ..)) (λp E=>by simp at E);have I9:Inv X' [] f M { S with heap:=S.heap.update a (Wh (·.push w)),toks:=S.toks }:=(UQ I8).turned (it:=a) (λb o hb e=>(P0 S.heap (Wh (·.push w)) (vu hb)).trans e) QZ.1 QZ.2.1 QZ.2.2.2.1 QZ.2.2.2.2.1 QZ.2.2.2.2.2;refine⟨ds.length-(i+1)+1,#[2],i+1,f,M,P,h,Sy,dn++[y],ry,N++[vw],us++[w],_,rfl,#[2],I9,?_,R1,UR.trans x8,c8,by simpa using Tg,vs.append (.cons V9 .nil),UT.append (.cons aw .nil),by rw[cq,OV];omega,ey2,by rw[eo];simp⟩;exact T.keep _ _ _ t8 λb hb o e=>(P0 S.heap (Wh (·.push w)) (λz:a=b=>na (by rw[z];exact hb))).trans e
 refine HU (T.done X' rfl rfl rfl hc i _ s j H' (λ_ _=>False) I1 (Te H' λb hb=>fr b (d7 _ hb)) UP (wk.stop B H' i ex #[0])) λr s1 G=>?_;obtain⟨er,J1⟩:=G;subst er;rw[Wk #[0],cS] at l;cases l;rw[eM] at eo;subst eo;have l1:=ad.length;have pa:=J1.pin (a,{ cls:=.type "list",data:=.seq us.toArray ep }) (m3 _ #[3]);exact Td s1 j H' B H N us ep (J1.JZ λp E=>hK E #[3]) ex cx pa.2.1 pa.1 vs ad #[0]
theorem q9 {U iter elt:gj}{ifs:ae gj}{scope:i0}{pos:N5}{u:D->Hv->ax Hv}{gt:Hn e8}{fe:Hn D}{ts:ae ej}{ix:ae Nat}{cl:ae (ej×b0)}
  {g:Hr}{s:St}{l:cc}{E:Hq}{it:b0}{fp:ae b0}{tn:Nat->j0->Prop}{Z:It}{j:Hp}{n:ae b0}{r:Hv}{S S2:Hu}{ds out:ae D}{Y:ay->b0->YB->cc->Prop}
  (hc:X.calm=a6) (Sc:Jh scope X.env) (h1:∀ x c,cl.lookup x=aa c->#[16]=aa c) (h2:∀ y∈scope.names,y.2 = .free->∃ c,cl.lookup y.1=aa c) (Mr:∀ t∈ix,scope.names.lookup (X.N.getD t RZ)=aa .free)
  (LZ:∀ cl C f H3 fp,SG (lN X scope cl (iN ts ix X.N) C f H3 fp) U u/\QX (lN X scope cl (iN ts ix X.N) C f H3 fp) W0 ifs gt/\SE (lN X scope cl (iN ts ix X.N) C f H3 fp) W0 elt fe)
  (I2:Inv X g s j l) (T:Turn X.prog X.w X.K U Z fp it tn) (t0:tn 0 l.heap) (f2:∀ b∈fp,g9 X g j b) (c2:Cf X n r S s j) (O:Walk X Z ds n j)
  (ec:cS u gt fe ds (cL ts.length ix r) S=aa (out,S2))
  (V_:∀ a C s',CompEnd X g s n j S2 out a C s'->Y (.ref a) C (.ok .next) s') :
  d6 #[9] X.A (newList []) (λP H=>d6 #[9] X.A (XD scope X.env.globals cl [] X.env.qual av .none (aa X.env)) (λQ0 J =>
   PM #[9] X.A (.compStart (.ListComp elt [⟨U,iter,ifs,0⟩] scope pos) 0 (.ref it) P { Q0 with scope:=relabel scope X.env }) (Y P Q0.locals) J) E H) E l:=by
 refine iv (pO ?_);dsimp only;generalize M:l.heap.objs.size=a at *
 have W:∀ b o,l.heap.get? b=aa o->(l.heap.push { cls:=.type "list",dict:=av,data:=.seq ([]:ae ay).toArray }).get? b=aa o:=λb o e=>cv _ e;obtain⟨f,OS⟩:∃ f:cc,f={ l with heap:=l.heap.push { cls:=.type "list",dict:=av,data:=.seq ([]:ae ay).toArray } }:=⟨_,rfl⟩;have B:Inv X g s j f:=by rw[OS];exact I2.kept (t':=l.toks) W
 have F:f.heap=l.heap.push { cls:=.type "list",dict:=av,data:=.seq ([]:ae ay).toArray }:=by rw[OS]
 have UU:f.heap.objs.size=a+1:=by rw[F,rl,M]
 rw[← F];have ic:=KG.of (o:={ cls:=.type "dict",data:=.dict #[] }) B Sc h1 h2;have Wa:(Ye (f.heap.push { cls:=.type "dict",data:=.dict #[] }) scope.names).Ns f.heap.objs.size (λ_=>av):=(Heap.Ns.new f.heap (.type "dict")).keeps (pushCells_keeps _ _);have V:∀ b o,f.heap.get? b=aa o->(Ye (f.heap.push { cls:=.type "dict",data:=.dict #[] }) scope.names).get? b=aa o:=λb o e=>pushCells_keeps _ _ b o (cv _ e);generalize Wb:rb (f.heap.objs.size+1) scope.names cl=cl' at *
 generalize X0:Ye (f.heap.push { cls:=.type "dict",data:=.dict #[] }) scope.names=G at *
 have a3:f.heap.get? a=aa { cls:=.type "list",data:=.seq ([]:ae ay).toArray }:=by rw[F,← M];exact en _ rfl
 have fa:g9 X g j a:=I2.Ld (by rw[M];exact eG _) (by rw[← M];exact I2.fresh);have Q1:∀ b∈fp,∃ o,l.heap.get? b=aa o:=λb hb=>let ⟨o,e,_⟩:=T.obj 0 _ t0 b hb;⟨o,e⟩;have na:a∉fp:=λhb=>by obtain⟨o,e⟩:=Q1 a hb;have:=ek e;rw[M] at this;exact hK this (qb _)
 have I:∀ b∈a::fp,g9 X g j b:=λb hb=>by
  rcases gi.mp hb with rfl |hb
  ·exact fa
  exact f2 b hb
 have fo:∀ b∈a::fp,∃ o,f.heap.get? b=aa o:=λb hb=>by
  rcases gi.mp hb with rfl |hb
  ·exact⟨_,a3⟩
  obtain⟨o,e⟩:=Q1 b hb;exact⟨o,by rw[F];exact W b o e⟩
 have toks:∀ t,Inv (lN X scope cl' (iN ts ix X.N) f.heap.objs.size f j (a::fp)) [] (cL ts.length ix s) j { f with heap:=G,toks:=t }:=λt=>B.enter Sc ic Mr I fo V Wa;obtain⟨sg,st,se⟩:=LZ cl' f.heap.objs.size f j (a::fp)
 have fin:∀ (Jz:Hr) (H':Hp) (b:b0),b∈a::fp->H' b=av->(∀ p∈Jz,p.1≠b)->g9 (lN X scope cl' (iN ts ix X.N) f.heap.objs.size f j (a::fp)) Jz H' b:=λJz H' b hb hn hp=>by
  refine⟨hn,?_,λz=>?_,.inl hb,λx c e=>?_,λp hq=>hp p hq⟩
  ·obtain⟨o,e⟩:=fo b hb;exact md (ek e)
  ·obtain⟨_,f1,Wc,_⟩:=I b hb;rcases gi.mp (B.LD b z) with q |q
   ·exact f1 q
   exact Wc q
  rcases ic.out x c e with q |q
  ·exact(I b hb).2.2.2.2.1 x c q
  obtain⟨o,ho⟩:=fo b hb;intro z;exact qb _ (PN q.1 (z▸ek ho))
 have own:X.s₀.heap.objs.size<=f.heap.objs.size/\f.heap.objs.size≠X.env.locals/\(∀ x c,#[16]=aa c->c≠f.heap.objs.size)/\∀ p∈X.pn++g,p.1≠f.heap.objs.size:=by obtain⟨_,g1,g2,g3,g4,g5⟩:=B.Ld (H':=λ_=>av) (eG f.heap.objs.size) rfl;exact⟨B.sz,g1,g4,g5⟩
 have c3:Cf (lN X scope cl' (iN ts ix X.N) f.heap.objs.size f j (a::fp)) n (cL ts.length ix r) S (cL ts.length ix s) j:=by
  refine⟨by unfold cL;simp,λi d h=>?_,c2.Ie⟩;unfold cL at h ⊢;by_cases hi:i<ts.length
  ·rw[gh (by simpa using hi),ND,dw hi] at h;cases h
  rw[f5 (by simpa using hi),Qw,eh] at h ⊢;cases et:ix[i-ts.length]? with
  |none=>rw[et] at h;cases h
  |some t =>
   rw[et] at h;simp only[Vq,Ox] at h ⊢
   have hr : r[t]?=aa (aa d):=by
    cases q : r[t]? with
    |none=>rw[q] at h;cases h
    |some w=>rw[q] at h;simp only[QU] at h;rw[h]
   obtain⟨v,e1,e2⟩:=c2.env t d hr;exact⟨v,by rw[e1];rfl,e2⟩
 have w3:Walk (lN X scope cl' (iN ts ix X.N) f.heap.objs.size f j (a::fp)) Z ds n j:=⟨O.len,O.go,O.MU,O.stop⟩
 have Q:∀ t,PM #[9] X.A (.compLoop (.ListComp elt [⟨U,iter,ifs,0⟩] scope pos) 0 (.ref it) (.ref a) (compEnvC scope cl' f.heap.objs.size X.env)) (Y (.ref a) f.heap.objs.size) { f with heap:=G,toks:=t }:=by
  intro t;refine sK _ (y6 (R:=Y (.ref a) f.heap.objs.size) (S2:=S2) (out:=out) (X':=lN X scope cl' (iN ts ix X.N) f.heap.objs.size f j (a::fp)) rfl hc sg st se T w3 na O.len fin ?_) (ds.length+1) ?_
  ·intro s' σ' H' Jx ρx ys us ep I' ex cx ha ga vs ad lz;refine V_ a f.heap.objs.size s' ⟨let ⟨m,hm,_⟩:=I'.loc;⟨m,hm⟩,own,λh' k=>?_⟩;have I4:=B.leave I I' k;have Tg:h'.get? a=aa { cls:=.type "list",data:=.seq us.toArray ep }:=by rw[k a (by rw[UU];exact md (OO _))];exact ga
   have We:g9 X g H' a:=⟨ha,fa.2⟩;have I5:=I4.adopt We Tg vs lz;have hC:H' f.heap.objs.size=av:=I'.free;refine⟨Jx,H',ys,I5,ex,cx.Ie,ad,ha,lz,?_⟩;rw[aG (by rw[UU];exact Xd (OO _))];exact hC
  refine⟨0,_,j,n,cL ts.length ix r,S,[],out,[],[],0,rfl,Pl _,toks t,?_,λb hb=>(I b hb).1,Ex.refl,c3,V a _ a3,.nil,.nil,eG _,by simpa using ec,rfl⟩;exact T.keep 0 _ _ t0 λb hb o e=>V b o (by rw[F];exact W b o e)
 have L:=Q l.toks;have t4:tn 0 G:=T.keep 0 _ _ t0 λb hb o e=>V b o (by rw[F];exact W b o e);rw[show ({ f with heap:=G,toks:=l.toks }:cc)={ l with heap:=G } by rw[OS]] at L;exact codeAny_compStart_list L (T.self _ 0 _ _ _ t4 L)
def FM (X:Cx)(scope:i0)(ts:ae ej)(ix:ae Nat)(c:gj)(ifs:ae gj)(elt:gj)(u:D->Hv->ax Hv)(gt:Hn e8)(fe:Hn D):Prop:=
 ∀ (cl:ae (ej×b0)) (C:b0) (a:cc) (b:Hp) (fp:ae b0),SG (lN X scope cl (iN ts ix X.N) C a b fp) c u/\QX (lN X scope cl (iN ts ix X.N) C a b fp) W0 ifs gt/\SE (lN X scope cl (iN ts ix X.N) C a b fp) W0 elt fe
theorem o_ {scope:i0}{a:Hr}{d:St}{H:Hp}{s:cc}(I:Inv X a d H s)(Sc:Jh scope X.env):∃ cl,closureFor scope X.env=u1 cl/\(∀ x c,cl.lookup x=aa c->#[16]=aa c)/\(∀ y∈scope.names,y.2 = .free->∃ c,cl.lookup y.1=aa c):=by obtain⟨cl,e,b,_,f⟩:=eZ (env:=X.env) scope.names [] (λy h g=>I.ok.has y.1 (Sc.frees y h g)) #[3];refine⟨cl,?_,b,f⟩;unfold closureFor;exact(E3 (λ(m:ZI (ae (ej×b0)))=>m >>= λr=>(u1 r:ZI (ae (ej×b0)))) e).trans rfl
theorem q0 {j:Hn (ae D)}{u:D->Hv->ax Hv}{gt:Hn e8}{fe:Hn D}{n:Nat}{ix:ae Nat}{i:St}{H:Hp}{Q:VK}(h:tE X W (fq n ix j u gt fe) i H Q) :
  iW X W j i H λk g => ∃ f a b S2 ds out,Cf X f a b i g/\Walk X k ds f g/\cS u gt fe ds (cL n ix a) b=aa (out,S2)/\∀ d H' v,Ex f g d H'->HW X.K d S2 H'->At X.K H' d (.lst out) v->Q v H':=by
 obtain⟨J,a,S,r,B,c,_,e,z⟩:=h;unfold fq at e;cases q:j a S with
 |none=>simp[q] at e
 |some o =>
  obtain⟨y,b⟩:=o;simp only[q] at e;cases y with
  |error x =>
   cases e;exact⟨J,a,S,.error x,_,c,q,z⟩
  |ok ds =>
   simp only[kc] at e;cases qc:cS u gt fe ds (cL n ix a) b with
   |none=>rw[qc] at e;cases e
   |some p =>
    obtain⟨out,S2⟩:=p;rw[qc] at e;cases e;exact⟨J,a,S,.ok ds,b,c,q,λf g k l t w=>⟨f,a,b,_,ds,out,c.re l t,w,qc,λd H' v s m A=>z d H' v (l.trans s) m A⟩⟩
theorem eB {d iter elt:gj}{ifs:ae gj}{scope:i0}{pos:N5}{i:Hn (ae D)}{u:D->Hv->ax Hv}{gt:Hn e8}{fe:Hn D}{ts:ae ej}{ix:ae Nat}
  (hc:X.calm=a6) (Sc:Jh scope X.env) (k:∀ t∈ix,scope.names.lookup (X.N.getD t RZ)=aa .free) (hi:SI X W d iter i) (l:FM X scope ts ix d ifs elt u gt fe)
  (A:∀ x,PL iter X.env x=u1 x:=by intro _;rfl):SE X W (.ListComp elt [⟨d,iter,ifs,0⟩] scope pos) (fq ts.length ix i u gt fe):=by
 intro c s w H Q I h;obtain⟨cl,j,q,J⟩:=o_ I Sc;rw[eval_ListComp];refine UX (use:=av) rfl A j Sc.kind Sc.names ?_;refine HU (hi c s w H _ I (q0 h)) λv V r=>HU r λRM s2 p=>?_;obtain⟨it,fp,Y,O,P,e,E,T,t0,K,Z,ρ,U,R,S,out,B,G,M,fin⟩:=p;subst e;refine q9 hc Sc q J k l E T t0 K B G M λa C f ce=>?_;obtain⟨m,n⟩:=ce.ns;refine⟨m,n,λo sb=>?_⟩;obtain⟨z,g,F,y,f,L,_⟩:=ce.QY o λb hb=>sb.2 b hb;exact⟨.ref a,g,F,rfl,fin z g _ y f L⟩
end
section
variable {X:Cx}{W:WT}
theorem vE {f iter elt:gj}{ifs:ae gj}{scope:i0}{pos k py:N5}{l:Hn (ae D)}{u:D->Hv->ax Hv}{gt:Hn e8}{fe:Hn D}{ts:ae ej}{ix:ae Nat}{i:Nat}{y:ej}
  (L:X.N.Nodup) (hc:X.calm=a6) (Sc:Jh scope X.env) (r:∀ t∈ix,scope.names.lookup (X.N.getD t RZ)=aa .free) (hi:SI X W f iter l) (V:FM X scope ts ix f ifs elt u gt fe)
  (M:X.N[i]?=aa y:=by rfl) (hx:Loc X.env.scope y:=by first |exact Zd rfl |exact Xg rfl) (Wg:N_ (.ListComp elt [⟨f,iter,ifs,0⟩] scope pos) (aa (.Name y py)) k.line X.env=u1 a6:=by rfl)
  (hf:X.fn y=a6∨X.env.scope.names.lookup y=aa .local:=by first |exact .inl rfl |exact .inr rfl |assumption)
  (Y:∀ x,PL iter X.env x=u1 x:=by intro _;rfl):SS X W (.Assign [.Name y py] (.ListComp elt [⟨f,iter,ifs,0⟩] scope pos) k) (bO i (fq ts.length ix l u gt fe)):=by
 intro c s j H E I h;obtain⟨cl,S,h1,h2⟩:=o_ I Sc;have h:=tS.HH h;rw[exec_Assign_Name_used _ _ _ _ Wg];refine ak (wpAny_standAt (ak ?_));show d6 _ X.A (do let _ ← comprehension (.ListComp elt [⟨f,iter,ifs,0⟩] scope pos) scope X.env _ (newList []) bo (lX iter X.env) (aa (YA (.Name y py) X.env))) _ _ s;refine ak (v3 (UX (use:=aa (YA (.Name y py) X.env)) (Q:=λ_ d=>SP X c E .next d) rfl Y S Sc.kind Sc.names ?_) (λ_ d hq=>a5 (a5 hq)) λ_ _ e=>e);refine HU (hi c s j H _ I (q0 h)) λv s1 J=>HU J λRM s2 Pr=>?_;obtain⟨it,fp,tn,Jt,H2,e,I2,T,t0,f2,J0,ρ,S1,S2,ds,out,c2,wk,ec,fin⟩:=Pr;subst e;refine q9 hc Sc h1 h2 r V I2 T t0 f2 c2 wk ec λa C d ce=>?_;obtain⟨m,F⟩:=ce.ns;obtain⟨o1,o2,p,o4⟩:=ce.own;obtain⟨K,g,R,x',IF,m',G⟩:=ce.QY d.heap λ_ _=>rfl;have B:Inv X c j g d:=R;have q:=fin K g _ x' IF m';show d6 _ X.A (YA (.Name y py) X.env (.ref a)) _ _ d;refine wpAny_assign_Name (qi B L M hx (v:=.ref a) rfl (λn I3 U=>?_) hf);obtain⟨ad,sb,hd⟩:=U
 have Wi:C≠ad:=by
  rcases hd with z |z
  ·rw[z];exact o2
  exact(p y ad z).symm
 refine⟨m,F.sameBut sb Wi,λh' P=>?_⟩;have I4:Inv X c (j.set i (aa (.ref a))) g { n with heap:=h' }:=I3.turned (t':=n.toks) (it:=C) (λb o hb e=>(P.2 b hb).trans e) G o2 (.inr o1) p o4;obtain⟨Jq,ρq,Sq,dq,rq,X3,w,O,eq,Z⟩:=q;cases eq;exact⟨_,g,I4,Z Jq _ g Ex.refl (w.set O)⟩
noncomputable def R3 (K:Ho)(F:Ht):Sp:=λf H Q _ => ∃ J S c d e,Hz K H J c f/\HW K J S H/\F c S=aa (.ok d,e)/\∀ b a v,Ex J H b a->HW K b e a->At K a b d v->Q v a
def N3 (P:ew)(w:hB)(K:Ho)(mg:Hs)(base:j0)(k:Nat)(f:b0)(fd:wa)(a:ae ej)(F:Ht):Prop:=
 JP P w K mg base Ni k f fd a (R3 K F)
noncomputable def jN (m:Out D):Out D:=match m with
 |aa (.ok d,S)=>aa (.ok d,S)
 |_=>av
noncomputable def aY (F:Ht)(t:Hn (ae D)):Hn D:=λc S=>aj (t c S) λa b=>jN (F a b)
variable {x:ej}{p pos:N5}{e:gj}{es:ae gj}{gs:Hn (ae D)}
theorem AO {F:Ht}{f:St}{H:Hp}{Q:VK}{o:XK}(h:tE X W (aY F gs) f H Q):CM (R3 X.K F) [] o (tA X W gs) f H Q:=
 (tG.Km h).mono λs u g=>by
  obtain⟨b,x,a⟩:=g
  rw[eM,eM] at a;obtain⟨J,w,S,r,j,c,m,e,z⟩:=a;have e:jN (F b S)=aa (r,j):=e;unfold jN at e;rw[0]
  ·rename_i d t q;cases e;exact⟨J,S,b,d,_,by rw[eM];exact m,c.Ie,q,λn k v l i p=>z n k v l i p⟩
  cases e
theorem Bv {k:Nat}{f:b0}{fd:wa}{a:ae ej}{F:Ht}(G:N3 X.prog X.w X.K X.mg X.base k f fd a F)(hr:Ib k X.A)(b:X.mg x=aa (.ref f))(d:yk X.K (.ref f)=a6)(hb:Binds X.K fd a [])
  (ha:SA X W (e::es) gs) (i:Gl X x:=by rfl) (g:(x==("__debug__":ej))=bo:=by decide) (c:dm (e::es) X.env=(bo,lX e X.env)::dm es X.env:=by rfl) (j:(mf pos (dm es X.env)).any (·.1)=bo:=by rfl) :
  SE X W (.Call (.Name x p) (e::es) [] pos) (aY F gs):=
 PE.imp (BQ (E:=E0) G hr i b d hb .nil z4 ha g c j) λl H Q h=>AO h
end
section
variable {X:Cx}{W:WT}
noncomputable def R4 (x:ej):It:=⟨λi _=>i<x.cps.size,λi H v a=>a=H/\∃ c,x.cps[i]?=aa c/\v = .str ⟨#[c]⟩,λi _=>x.cps.size<=i⟩
theorem tw {P:ew}{w:hB}{K:Ho}{O:gj}{it:b0}{x:ej}{St:Nat->j0->Prop}
  (R:∀ (A:hG) (i:Nat) (s:cc) (Q:Hq) (E:Hq),St i s.heap->Q (.ref it) s->d6 (eJ P w) A (ZK (.ref it)) Q E s) (t:∀ F:hG,F.handled=av->Walks P w F it [it] [it] x.cps.size (SignAt x) St) (J:∀ i h,St i h->∃ o n vs,h.get? it=aa o/\o.cls = .type n/\o.data = .fields vs/\["enumerate","zip","dict_itemiterator","dict_reverseitemiterator","odict_iterator","itertools.zip_longest","itertools.pairwise"].contains n=bo) :
  Turn P w K O (R4 x) [it] it (λi h=>i<=x.cps.size/\St i h) where
 mem:=by simp
 obj:=λi h st b hb=>by
  have e:b=it:=by simpa using hb
  subst e;obtain⟨o,n,vs,e,_,d,_⟩:=J i h st.2;exact⟨o,e,λv z=>by rw[d] at z;cases z⟩
 keep:=λi h f st k=>⟨st.1,(t Ub rfl).frame i h f st.2 λb hb o e=>k b hb o e⟩
 item:=by
  intro X C B m hc i a s D H E I g st j;subst C B m;obtain⟨p,l,U,q,y,r⟩:=g it #[3];refine(t X.A (I.ok.hd hc)).item i s _ _ j st.2 λv f tk T G k=>?_;obtain⟨c,u,V,ev⟩:=T;subst ev;have N:Inv X a D H { s with heap:=f,toks:=tk }:=I.turned (t':=tk) (λb o hb e=>k b o (by simpa using hb) e) p l q y r;obtain⟨o,n,vs,e,S,d,L⟩:=J _ _ G;exact⟨_,rfl,xw (s:={ s with heap:=f,toks:=tk }) e S d L ⟨.str ⟨#[c]⟩,H,N,⟨u,rfl⟩,⟨rfl,c,V,rfl⟩,⟨j,G⟩,λb hb=>(g b hb).1⟩⟩
 done:=by
  intro X C B m hc i a s D H E I g st j;subst C B m;obtain⟨p,l,U,q,y,r⟩:=g it #[3];have M:i=x.cps.size:=Nat.le_antisymm st.1 j;subst M;exact(t X.A (I.ok.hd hc)).done s _ _ st.2 λf tk k=>⟨rfl,I.turned (t':=tk) (λb o hb e=>k b o (by simpa using hb) e) p l q y r⟩
 self:=λA i s Q E st h=>R A i s Q E st.2 h
theorem Walk.str {x:ej}{J:ae b0}{H:Hp}(ok:N2 x):Walk X (R4 x) (x.cps.toList.map λc=>D.str ⟨#[c]⟩) J H where
 len:=by rw[dV,hH];exact ok.1
 go:=λe d i _ a=>by rw[dV,hH] at a;exact a
 MU:=λe d i v g _ h a y=>by
  obtain⟨rfl,c,f,rfl⟩:=y;rw[dV,hH] at a;have b:x.cps.toList[i]?=aa c:=by simpa using f
  refine⟨.str ⟨#[c]⟩,by rw[eh,b];rfl,At.HE.mpr ⟨rfl,by show 1<=dk;decide,gO (l:=[c]) λj m=>?_⟩,HJ.refl _⟩;rw[eR.mp m];exact gP ok.2 (mx b)
 stop:=λe d i _ a=>by rw[dV,hH] at a;exact a
noncomputable def Df:D->ax (ae D)
 | .str x=>aa (x.cps.toList.map λc=>D.str ⟨#[c]⟩)
 |_=>av
noncomputable def AX (f:Hn D):Hn (ae D):=λb S=>aj (f b S) λd a=>aQ (Df d) a
variable {e:gj}{fe:Hn D}{pos:N5}
theorem Dh {u:gj}(r:SE X W e fe):SI X W u e (AX fe):=by
 intro c s w H R I h;refine HU (r c s w H _ I (su h)) λv a n=>?_;obtain⟨y,f,g,p,J,S,d,D,so,m,l,z⟩:=n;cases d with
 |str x =>
  cases l;obtain⟨B,ok⟩:=At.HE.mp m;subst B;obtain⟨t,rfl⟩:=p
  have fp:∀ b∈[a.heap.objs.size],g9 X c f b:=λb hb=>by
   have e:b=a.heap.objs.size:=by simpa using hb
   subst e;exact g.Ld (eG _) g.fresh
  cases ha:x.cps.all (·<128)
  ·refine wpAny_pyIter_wide ha ?_;refine⟨a.heap.objs.size,[a.heap.objs.size],_,R4 x,f,rfl,g.kept (t':=a.toks) λb o e=>cv _ e,tw (St:=λi h=>h.IsStrIter a.heap.objs.size "str_iterator" x t i) (λA i s Q E st q=>wpAny_pyIter_striter_wide st q) (λC k=>Walks.strWide k _ x t) (λi h st=>?_),⟨Pl _,_,en _ rfl,rfl,rfl⟩,fp,z f _ (HJ.refl _) (Walk.str ok)⟩;obtain⟨o,j,hc,hd⟩:=st;exact⟨o,_,_,j,hc,hd,#[4]⟩
  refine wpAny_pyIter_ascii ha ?_;refine⟨a.heap.objs.size,[a.heap.objs.size],_,R4 x,f,rfl,g.kept (t':=a.toks) λb o e=>cv _ e,tw (St:=λi h=>h.IsStrIter a.heap.objs.size "str_ascii_iterator" x t i) (λA i s Q E st q=>wpAny_pyIter_striter_ascii st q) (λC k=>Walks.strAscii k _ x t) (λi h st=>?_),⟨Pl _,_,en _ rfl,rfl,rfl⟩,fp,z f _ (HJ.refl _) (Walk.str ok)⟩;obtain⟨o,j,hc,hd⟩:=st;exact⟨o,_,_,j,hc,hd,#[4]⟩
 |_=>cases l
theorem kG {prog:ew}{w:hB}{A:hG}{E:Hq}{s:cc}{it l:b0}{i:Nat}{items}{x:ay}{Q:Hq}(a:s.heap.IsTupleIter it l i)
  (g:s.heap.IsTuple l items) (e:items[i]?=aa x)
  (d:∀ h',h'.IsTupleIter it l (i+1)->Me it s.heap h'->Q x { s with heap:=h' }) :
  d6 #[8] A (LL (.ref it)) Q E s:=by
 obtain⟨o,b,hc,hd⟩:=id a;obtain⟨j,f,_,h,c⟩:=g;unfold LL
 refine ak (u2 (name:=PY "__next__") a.typeIs F.slot_tuple_iterator_next
  (my F.slot_tuple_iterator_next a.typeIs F.entry_tuple_iterator_next ?_ (F.args_tuple_iterator_next_1 _)))
 show d6 _ _ (field (.ref it) 0 >>= _) _ _ s;refine ak (Jw b hd (x:=.ref l) rfl ?_);show d6 _ _ (if (h6 l==Jy)=a6 then _ else _) _ _ s;rw[ee (show ¬ ((h6 l==Jy)=a6) from Pu)];show d6 _ _ (field (.ref it) 1 >>= _) _ _ s;refine ak (Jw b hd (x:=.int i 0) rfl ?_);show d6 _ _ (seqItems? (.ref l) >>= _) _ _ s;refine ak (PF f c ?_);simp only[nq,e];refine ak (wpAny_setField b hd #[3] (a5 ⟨x,rfl,a5 (d _ ?_ (H7 ..))⟩))
 exact⟨_,wx _ b (Qx (Kf hd _)),(Ur ..).trans hc,by
  rw[Kf hd];simp[Za]⟩
theorem gX {prog:ew}{w:hB}{A:hG}{E:Hq}{s:cc}{it l:b0}{i:Nat}{items}{Q:Hq}(d:A.handled=av)
  (b:s.heap.IsTupleIter it l i) (k:s.heap.IsTuple l items) (h:items[i]?=av)
  (f:∀ h' e,Heap.ExtBut it s.heap h'->(∃ o,h'.get? e=aa o/\o.cls = .type "StopIteration")->E (.ref e) { s with heap:=h' }) :
  d6 #[8] A (LL (.ref it)) Q E s:=by
 obtain⟨o,c,hc,hd⟩:=id b;obtain⟨p,j,_,n,g⟩:=k;unfold LL
 refine ak (u2 (name:=PY "__next__") b.typeIs F.slot_tuple_iterator_next
  (my F.slot_tuple_iterator_next b.typeIs F.entry_tuple_iterator_next ?_ (F.args_tuple_iterator_next_1 _)))
 show d6 _ _ (field (.ref it) 0 >>= _) _ _ s;refine ak (Jw c hd (x:=.ref l) rfl ?_);show d6 _ _ (if (h6 l==Jy)=a6 then _ else _) _ _ s;rw[ee (show ¬ ((h6 l==Jy)=a6) from Pu)];show d6 _ _ (field (.ref it) 1 >>= _) _ _ s;refine ak (Jw c hd (x:=.int i 0) rfl ?_);show d6 _ _ (seqItems? (.ref l) >>= _) _ _ s;refine ak (PF j g ?_);simp only[nq,h];refine ak (VM (ak (wpAny_setField c hd #[3] ?_)));show d6 _ _ (newExc (.type "StopIteration") [] >>= _) _ _ _;refine ak ?_;simp only[newExc,newTuple];refine ak (iv ?_ (by size_fits));refine ak (m:=SU _ _) (Zq (a:=Jy) (by first |rfl |(simp only[SU];rfl)) ?_);refine iv ?_ (by size_fits);simp only[raiseNew];refine ak (wpAny_handled ?_)
 first |rw[show A.in1.handled=av from d] |rw[d]
 refine ak (a5 (wpAny_throw ?_));exact f _ _ (((H7 ..).extBut.push _).push _) ⟨_,en _ rfl,rfl⟩
theorem Draws.tup {prog:ew}{w:hB}{A:hG}(j:A.handled=av)(it l:b0)(f:l≠it)(items:h8 ay) :
  Draws prog w A it [it,l] items.size (λi v=>items[i]?=aa v) (λi h=>h.IsTupleIter it l i/\h.IsTuple l items) where
 live:=λ_ _ st=>let ⟨o,a,_⟩:=st.1;⟨o,a⟩
 frame:=λ_ _ _ st d=>⟨let ⟨o,a,r⟩:=st.1;⟨o,d it #[3] o a,r⟩,let ⟨o,a,r⟩:=st.2;⟨o,d l #[3] o a,r⟩⟩
 item:=λi s Q E b st k=>by
  refine kG st.1 st.2 (x:=items[i]) (by simp[b]) λe m c=>?_;exact k _ e s.toks (by simp[b]) ⟨m,st.2.extBut c.extBut f⟩ c
 done:=λs Q E st g=>gX j st.1 st.2 #[3] g
theorem oH (l:b0)(items:h8 ay)(n:Nat)(f:ax b0)(i:h8 (ax ay)) :
  Meets (Builtin.«enumerate.__new__» ⟨[.type "enumerate",.ref l],[]⟩) (λ_ R s=>s.heap.get? l=aa { cls:=.type "tuple",dict:=f,data:=.seq items n,slots:=i } /\
   R (.ok (.ret (.ref (s.heap.push { cls:=.type "tuple_iterator",data:=.fields #[.ref l,.int 0 0] }).objs.size)))
    { s with heap:=(s.heap.push { cls:=.type "tuple_iterator",data:=.fields #[.ref l,.int 0 0] }).push { cls:=.type "enumerate",data:=.fields #[.none,.bool bo,#[11],Za 0,.none,.none] } }):=
 .of_wp λprog w A R s h=>by
  obtain⟨e,g,d,tk,os⟩:=s;obtain⟨a,h⟩:=h;have j:=sub_enumerate;have b:Heap.IsTuple (Shared.heap ⟨e,g,d,tk,os⟩) l items:=⟨_,a,rfl,n,rfl⟩
  wp_walk using x3 a
  refine wpAny_stack_any λst=>a5 ?_;split
  ·rename_i c _ _ _ _ _;cases (c==R0 "enumerate")
   ·wp_walk using x3 a,Pw b
    exact⟨_,rfl,h⟩
   wp_walk using x3 a,Pw b
   exact⟨_,rfl,h⟩
  wp_walk using x3 a,Pw b
  exact⟨_,rfl,h⟩
theorem pV {prog:ew}{w:hB}{A:hG}{E:Hq}{s:cc}{l:b0}{items:h8 ay}{Q:Hq}(f:Xb s.heap l items)
  (h:∀ h',IsEnum h' (#[13]) s.heap.objs.size 0 .none->h'.IsTupleIter s.heap.objs.size l 0->h'.objs.size=s.heap.objs.size+2 ->
   (∀ b o,#[15]=aa o->h'.get? b=aa o)->Q (.ref (#[13])) { s with heap:=h' }) :
  d6 #[8] A (call (.type "enumerate") [.ref l]) Q E s:=by
 obtain⟨⟨c,e,dt,i⟩,g,hc,n,hd⟩:=f
 replace hc:c = .type "tuple":=hc
 replace hd:dt = .seq items n:=hd
 subst hc hd
 refine callType_new F.called_enumerate #[1] (F.typeCall_enumerate_1 _) (F.newCall_enumerate_1 _) (λobj=>F.args_object_init_2 obj _) F.entry_enumerate_new
  (oH l items n e i) ⟨g,?_⟩
 have a:(s.heap.push { cls:=.type "tuple_iterator",data:=.fields #[.ref l,.int 0 0] }).objs.size=#[13]:=rl ..;show _/\_;rw[a]
 have d:IsEnum ((s.heap.push { cls:=.type "tuple_iterator",data:=.fields #[.ref l,.int 0 0] }).push
   { cls:=.type "enumerate",data:=.fields #[.none,.bool bo,#[11],Za 0,.none,.none] }) (#[13]) s.heap.objs.size 0 .none:=by
  have:=en (s.heap.push { cls:=.type "tuple_iterator",data:=.fields #[.ref l,.int 0 0] })
   (o:={ cls:=.type "enumerate",data:=.fields #[.none,.bool bo,#[11],Za 0,.none,.none] }) rfl
  rw[a] at this;exact this
 refine⟨⟨_,d,rfl⟩,h _ d ⟨_,cv _ (en _ rfl),rfl,rfl⟩ (by rw[rl,a]) λb o x=>cv _ (cv _ x)⟩
theorem jB {prog:ew}{w:hB}{A:hG}{E:Hq}{s:cc}{e it l:b0}{i:Nat}{items:h8 ay}{old:ay}{Q:ax ay->cc->Prop}(f:A.handled=av)
  (c:IsEnum s.heap e it i old) (a:s.heap.IsTupleIter it l i) (m:s.heap.IsTuple l items) (k:items[i]?=av)
  (j:∀ h',Heap.ExtBut it s.heap h'->Q av { s with heap:=h' }):d6 #[8] A (VP (.ref e)) Q E s:=by
 have d:s.TypeIs (.ref e) "enumerate":=⟨_,c,rfl⟩;unfold VP
 refine ak (wpAny_attempt (u2 (name:=PY "__next__") d F.slot_enumerate_next
  (my F.slot_enumerate_next d F.entry_enumerate_next ?_ (F.args_enumerate_next_1 _))))
 show d6 _ _ (field (.ref e) 2 >>= _) _ _ _;refine ak (Jw c rfl (x:=.ref it) rfl ?_);refine ak (gX f a m k λh' x n g=>?_);obtain⟨o,h,hc⟩:=g;refine ak (Vk (T:="StopIteration") (b:=a6) ⟨o,h,hc⟩ isSubtype_stop ?_);exact a5 (j _ n)
noncomputable def Tn (K:Ho)(a:b0):It:=
 ⟨λi H => ∃ b x,KI K H a b/\b[i]?=aa x,λi H x c => ∃ p y,H p=av/\x = .ref p/\c=upd H p (.tup [.int i,y])/\∀ b,KI K H a b->b[i]?=aa y,λi H => ∃ b,KI K H a b/\b.length<=i⟩
theorem ya {P:ew}{w:hB}{K:Ho}{es:ae gj}{k:Nat}{pt:N5}(a e it:b0)(T:e≠it)(To:a≠e)(Tp:a≠it):Turn P w K (.Tuple es k pt) (Tn K a) [e,it] e (λi h=>(∃ old,IsEnum h e it i old)/\h.IsTupleIter it a i) where
 mem:=by simp
 obj:=λi h st b hb=>by
  obtain⟨⟨old,d⟩,o,l,hc,hd⟩:=st;rcases gi.mp hb with rfl |hb
  ·exact⟨_,d,λv z=>by cases z⟩
  have:b=it:=by simpa using hb
  subst this;exact⟨o,l,λv z=>by rw[hd] at z;cases z⟩
 keep:=λi h h' st kp=>by
  obtain⟨⟨old,d⟩,o,l,r⟩:=st;exact⟨⟨old,kp e #[3] _ d⟩,o,kp it #[3] o l,r⟩
 item:=by
  intro X n L J hc i j s σ H E I F st N;subst n L J;obtain⟨G,x,D,U⟩:=N;obtain⟨its,S,p,hz⟩:=I.tuple D;obtain⟨u,hu,ru⟩:=S.get U;obtain⟨⟨old,d⟩,f⟩:=st;have IM:i<its.toArray.size:=by rw[eX];exact(b7.mp hu).1
  refine Vs (Draws.tup (A:=X.A.in1) (I.ok.hd hc) it a Tp its.toArray) d ⟨f,p⟩ IM T (by simp[T,vu To]) λy h' tk n l Qg hT hsz hk=>?_
  have ey:y=u:=by
   have:its.toArray[i]?=aa u:=by simpa using hu
   rw[this] at n;exact(kx n).symm
  subst ey;refine⟨_,rfl,SV (s:={ s with heap:=h',toks:=tk+1 }) l λC Nl V=>?_⟩;have Y:H s.heap.objs.size=av:=I.fresh;obtain⟨R,Q6,Wo,Tq,Ts,Tt⟩:=F e #[3];obtain⟨t,B,Tu,O,M,W⟩:=F it #[3];have kp:∀ b o,b≠e->b≠it->#[15]=aa o->C.get? b=aa o:=λb o h1 Pr g=>(V.2 b h1).trans (hk b o h1 Pr g);have Z:s.heap.objs.size≠e:=Xd (ek d);have NB:C.get? s.heap.objs.size=aa { cls:=.type "tuple",data:=.seq #[.int i tk,y] }:=(V.2 _ Z).trans hT;have ne:∀ b o,H b=aa o->b≠s.heap.objs.size:=λb o q=>aU q Y
  have I1:Inv X j σ (upd H s.heap.objs.size (.tup [.int i,x])) { s with heap:=C,toks:=tk+1 }:=by
   refine I.step (h':=C) (g':=s.gens) (d':=s.drawn) (t':=tk+1) (ch:=[e,it]) (λb hb=>?_) (λb o _ _ hb g _=>kp b o (λz=>hb (by simp[z])) (λz=>hb (by simp[z])) g) (λb o _ _ hb g _=>⟨o.slots,kp b o (λz=>hb (by simp[z])) (λz=>hb (by simp[z])) g⟩)
    (λb o hb g n'=>by rw[aG (md (ek g))];exact n') (λb o hb g=>⟨o,kp b o (λz=>hb (by simp[z])) (λz=>hb (by simp[z])) g⟩)
    (λb G q=>by rw[aG (ne b _ q)];exact q) (λb o G q=>by rw[aG (ne b _ q)];exact q) (λb ps q=>⟨#[],by rw[aG (ne b _ q),q];simp⟩)
    (λm hm=>?_) (λb o q=>?_) I.bare
   ·rcases gi.mp hb with rfl |hb
    ·exact⟨Tq,Q6,Ts,Tt⟩
    have:b=it:=by simpa using hb
    subst this;exact⟨O,B,M,W⟩
   ·obtain⟨o,es,ep,l,r⟩:=hm;exact⟨o,es,ep,kp _ o (vu Q6) (vu B) l,r⟩
   by_cases hb:b=s.heap.objs.size
   ·subst hb;rw[HG] at q;cases q;exact⟨by show 2<=dk;decide,[.int i tk,y],.cons ⟨tk,rfl⟩ (.cons ru .nil),_,NB⟩
   rw[aG hb] at q;refine(I.HZ b o q).Ly (λc v Mj z=>kp c v ?_ ?_ z) (λc z=>by rw[aG (ne c _ z)];exact z) λc G z=>by rw[aG (ne c _ z)];exact z
   ·rcases Mj with z' |z'
    ·rw[z'];exact aU q R
    exact aU z' R
   rcases Mj with z' |z'
   ·rw[z'];exact aU q t
   exact aU z' t
  refine⟨#[11],_,I1,rfl,⟨_,x,Y,rfl,rfl,λys hy=>by rw[I.Lk hy D];exact U⟩,⟨⟨y,Nl⟩,Qg.1.extBut V.extBut (vu T)⟩,λb hb=>?_⟩;rcases gi.mp hb with rfl |hb
  ·rw[aG (vu Z)];exact R
  have:b=it:=by simpa using hb
  subst this;obtain⟨o,LC,_⟩:=f;rw[aG (md (ek LC))];exact t
 done:=by
  intro X n L J hc i j s σ H E I F st N;subst n L J;obtain⟨G,D,U⟩:=N;obtain⟨its,S,p,hz⟩:=I.tuple D;obtain⟨⟨old,d⟩,f⟩:=st;obtain⟨t,B,Tu,O,M,W⟩:=F it #[3];have hl:=S.length;exact jB (I.ok.hd hc) d f p (by simp;omega) λh' eb=>⟨rfl,I.turned (t':=s.toks) (λb o hb e=>eb b o hb e) t B O M W⟩
 self:=by
  intro A i s Q E st h;obtain⟨⟨old,d⟩,_⟩:=st;exact P4 d h
noncomputable def bX (i:Nat):ae D->ae D
 |[]=>[]
 |d::ds => .tup [.int i,d]::bX (i+1) ds
theorem bR:∀ (ds:ae D) (i:Nat),(bX i ds).length=ds.length
 |[],_=>rfl
 |d::ds,i=>by rw[bX,hD,hD,bR ds]
theorem b9:∀ (ds:ae D) (i j:Nat),(bX i ds)[j]?=(ds[j]?).map λd=>D.tup [.int (i+j:Nat),d]
 |[],_,_=>by simp[bX]
 |d::ds,i,0=>by simp[bX]
 |d::ds,i,j+1=>by
  rw[bX,N1,b9 ds (i+1) j,N1,show i+1+j=i+(j+1) by omega]
theorem Walk.enum {a:b0}{ds:ae D}{xs:ae V}{J:ae b0}{H:Hp}(t:TQ X.K H J a xs)(m:Hz X.K H J ds xs):Walk X (Tn X.K a) (bX 0 ds) J H where
 len:=by rw[bR,m.length];exact t.len
 go:=λf c i x b=>by
  rw[bR] at b;have m1:=m.ex x;obtain⟨v,h,_⟩:=m1.get (a4 b);exact⟨xs,v,(t.ex x).sq,h⟩
 MU:=λf c i v l x k b y=>by
  obtain⟨p,y,g,rfl,rfl,j⟩:=y;obtain⟨d,e,a⟩:=(m.ex x).get' (j xs (t.ex x).sq);refine⟨.tup [.int i,d],by rw[b9,e];simp,At.JD (.cons (#[14]) (.cons a .nil)) g k (by show 2<=dk;decide),aO g _⟩
 stop:=λf c i x b=>by
  rw[bR] at b;exact⟨xs,(t.ex x).sq,by rw[← m.length];exact b⟩
noncomputable def jR:ae D->ax (ae D)
 |[.tup xs]=>aa (bX 0 xs)
 |_=>av
theorem m8 {es:ae gj}{k:Nat}{pt p:N5}{a:gj}{t:Hn (ae D)}{x:ej}(E:x="enumerate")(w:X.mg x=av)(ha:SA X W [a] t)(G:Gl X x:=by rfl)
  (B:dm (a::[]) X.env=(bo,lX a X.env)::dm [] X.env:=by rfl) (M:(mf pos (dm [] X.env)).any (·.1)=bo:=by rfl):SI X W (.Tuple es k pt) (.Call (.Name x p) [a] [] pos) (kS jR t):=by
 subst E;intro c s i H R I h;refine J4 (lH I G w boot_enumerate ?_ #[1] #[1]);refine callWith_type1 (HU (ha pos c s i H _ I (oj h)) λN d q=>?_) B M;obtain⟨Y,g,e,A,J,S,V,T,so,m,f,z⟩:=q;unfold jR at f;split at f
 ·rename_i Q;cases f;obtain⟨v,r,rfl,a1,n⟩:=Hz.Hy.mp m;cases Hz.HA.mp n;obtain⟨ad,P,rfl,o,L⟩:=At.HK.mp a1;obtain⟨u,rfl,C⟩:=vals1 A;cases C;obtain⟨its,O,pl,U⟩:=e.tuple o.sq;have l:ad<d.heap.objs.size:=pl.lt;refine pV pl λy j it sz kp=>?_;have F:Inv X c i g { d with heap:=y }:=e.kept (t':=d.toks) kp;refine P4 j ?_;refine⟨d.heap.objs.size+1,[d.heap.objs.size+1,d.heap.objs.size],_,Tn X.K ad,g,rfl,F,ya ad _ _ (Xd (OO _)) (md (O6 l)) (md l),⟨⟨_,j⟩,it⟩,λb hb=>?_,z g _ (HJ.refl _) (Walk.enum o L)⟩;rcases gi.mp hb with rfl |hb
  ·exact e.Ld (T9 _) (e.HZ.fresh (T9 _))
  have:b=d.heap.objs.size:=by simpa using hb
  subst this;exact e.Ld (eG _) e.fresh
 cases f
end
section
variable {X:Cx}{W:WT}
noncomputable def u_:ae D->ax (ae e8)
 |[]=>aa []
 | .bl b::r=>(u_ r).map (b::·)
 |_=>av
noncomputable def pG:ae D->ax D
 |[.lst xs]=>(u_ xs).map λbs => .bl (bs.all id)
 |_=>av
theorem u9 {K:Ho}{H:Hp}{J:ae b0}:∀ {ds:ae D}{bs:ae e8}{vs:ae V}{us:ae ay},u_ ds=aa bs->Hz K H J ds vs->Vals vs us->us=bs.map QH
 |[],bs,vs,us,e,m,r=>by
  cases e;cases Hz.HA.mp m;cases r;rfl
 | .bl b::ds,bs,vs,us,e,m,r=>by
  obtain⟨j,f,d⟩:=dv.mp (show (u_ ds).map (b::·)=aa bs from e);subst d;obtain⟨v,i,rfl,a,h⟩:=Hz.Hy.mp m;cases At.HP.mp a;cases r with
  |cons c g =>
   cases c;rw[u9 f h g];rfl
 | .Ic::_,_,_,_,e,_,_=>by cases e
 | .int _::_,_,_,_,e,_,_=>by cases e
 | .str _::_,_,_,_,e,_,_=>by cases e
 | .tup _::_,_,_,_,e,_,_=>by cases e
 | .lst _::_,_,_,_,e,_,_=>by cases e
 | .set _::_,_,_,_,e,_,_=>by cases e
 | .loc _::_,_,_,_,e,_,_=>by cases e
 | .fn _ _::_,_,_,_,e,_,_=>by cases e
theorem tx {prog:ew}{w:hB}{A:hG}(bs:ae e8):TruthOf prog w A (λi v=>(bs.map QH).toArray[i]?=aa v) (λi=>bs.getD i bo):=by
 intro i v s Q E e a;have c:(bs.map QH)[i]?=aa v:=by simpa using e
 rw[eh] at c;obtain⟨b,f,d⟩:=dv.mp c;subst d;have:bs.getD i bo=b:=by rw[LG,f];rfl
 have a:Q (bs.getD i bo) s:=a;rw[this] at a;exact pd a
theorem range_all (bs:ae e8):(ei bs.length).all (λi=>bs.getD i bo)=bs.all id:=by
 rw[Pp,tr,tr];constructor
 ·intro h x b;obtain⟨i,a,e⟩:=List.mem_iff_getElem.mp b;have:=h i (nC.mpr a);rw[LG,a4 a,e] at this;exact this
 intro h i a;have a:=nC.mp a;rw[LG,a4 a];exact h _ (NX a)
theorem ph (hc:X.calm=a6):jU X (.builtin "all") pG:=by
 intro c s L H F D Q I r h;obtain⟨J,G,d,N,m,e,q⟩:=h;unfold pG at e;rw[0]
 ·rename_i M;obtain⟨bs,y,x⟩:=dv.mp e;subst x;obtain⟨v,w,rfl,a,n⟩:=Hz.Hy.mp m;cases Hz.HA.mp n;obtain⟨p,C,rfl,t,B⟩:=At.HN.mp a;obtain⟨u,rfl,l⟩:=vals1 r;cases l;obtain⟨its,g,pl,K⟩:=I.list t.sq;have j:=u9 y B g;subst j;have f:p<s.heap.objs.size:=by obtain⟨o,n,e,_⟩:=pl;exact ek e
  refine call_all_walk (wpAny_pyIter_list pl.isList ?_);refine⟨s.heap.objs.size,_,_,_,_,_,λi=>bs.getD i bo,rfl,Walks.list (A:=X.A.in1) (I.ok.hd hc) s.heap.objs.size p (md f) (bs.map QH).toArray,⟨⟨_,en _ rfl,rfl,rfl⟩,pl.isList.push _⟩,tx bs,λE tk k=>?_⟩;rw[eX,dV,range_all];refine⟨.bl _,H,I.kept λb o e=>k b o (λz=>?_) (cv _ e),rfl,q H _ (HJ.refl H) (At.HP.mpr rfl)⟩;have:b=s.heap.objs.size:=by simpa using z
  exact hK (ek e) (by rw[this];exact qb _)
 cases e
theorem Bk {prog:ew}{w:hB}{A:hG}{E:Hq}{s:cc}{g:PyProof.Rows.KeyKind}(l : g.OneLt){x:ay}{Q:Hq}
  (h:d6 #[8] A.in1 (collect x) (λvs d=>PyProof.Rows.KeysOf g (pairsOf vs)/\(∀ c a rest,vs=c::a::rest->keyKind' (c::a::rest).toArray=u1 oneType')/\vs.length<64 /\
   ∀ (f:SortSt) h' ep,(Rj f).Perm (pairsOf vs)->SortedToK g (Rj f) (pairsOf vs).size->(∀ b o,d.heap.get? b=aa o->h'.get? b=aa o)->h'.get? d.heap.objs.size=aa (Zh "list" ((Rj f).map (·.2)) ep) ->
    Q (.ref d.heap.objs.size) { d with heap:=h' }) E s):d6 #[8] A (call (.builtin "sorted") [x]) Q E s:=by
 refine TH kind_sorted plain_sorted entry_sorted (args_sorted1 _) ?_;unfold Builtin.«sorted»;refine ak (m:=checkCount "sorted" 1 1 _) (a5 ?_);refine ak (HU h λvs d k=>?_);obtain⟨n,j,p,q⟩:=k;refine ak (wpAny_newList ?_);have i:(d.heap.push (Zh "list" vs.toArray 0)).get? d.heap.objs.size=aa (Zh "list" vs.toArray 0):=en _ rfl;refine ak (rp (my slot_list_sort ⟨_,i,rfl⟩ entry_list_sort (list_sort_treeK l i n j p λf a1 a2=>⟨_,rfl,?_⟩) (args_list_sort _)));obtain⟨ep,r⟩:=sortedHeap_at (out:=(Rj f).map (·.2)) i
 exact a5 ⟨_,rfl,q f _ ep a1 a2 (λb o e=>by
  rw[sortedHeap_old (md (ek e)) (by rw[size_push'];exact O6 (ek e))]
  exact cv _ e) r⟩
end
noncomputable def La (a b:ej):e8:=!Kg b a
theorem IP {a b:ej}:La a b=a6↔a.cps.toList<=b.cps.toList:=by unfold La Kg;rw[Wm,PB,List.not_lt]
theorem ju (a b c:ej)(h:La a b=a6)(g:La b c=a6):La a c=a6:=IP.mpr (List.le_trans (IP.mp h) (IP.mp g))
theorem lG (a b:ej):(La a b ||La b a)=a6:=by rw[SK,IP,IP];exact List.le_total _ _
theorem Bj {a b:ej}(h:a.cps.toList=b.cps.toList):a=b:=by cases a;cases b;congr;exact Array.toList_inj.mp h
theorem uu {a b:ej}(h:La a b=a6)(g:La b a=a6):a=b:=Bj (List.le_antisymm (IP.mp h) (IP.mp g))
noncomputable def fK (l:ae ej):ae ej:=l.mergeSort La
theorem ku {l c:ae ej}(d:c.Perm l)(e:c.Pairwise λa b=>La a b=a6):c=fK l:=
 U0 (le:=λa b=>La a b=a6) (λa b _ _ h g=>uu h g) e (NF ju lG l) (d.trans (SX l La).symm)
theorem pairwise_of_rising:∀ (p:ej) (l:ae ej),risingS p l=a6->(p::l).Pairwise λa b=>La a b=a6
 |p,[],_=>by simp
 |p,x::r,h=>by
  have c:(!ltCps x.cps.toList p.cps.toList&&risingS x r)=a6:=h;rw[eL] at c;have d:La p x=a6:=by unfold La Kg;rw[← ltCps_eq];exact c.1
  have t:=pairwise_of_rising x r c.2;refine Q8.mpr ⟨λy hy=>?_,t⟩;rcases gi.mp hy with rfl |hy
  ·exact d
  exact ju _ _ _ d ((Q8.mp t).1 y hy)
theorem jC {l:ae ej}(h:sortedS l=a6):l.Pairwise λa b=>La a b=a6:=by
 cases l with
 |nil=>exact .nil
 |cons x r=>exact pairwise_of_rising x r h
noncomputable def R5 (a b:Int):e8:=dr (a<=b)
noncomputable def sortI (l:ae Int):ae Int:=l.mergeSort R5
theorem rO {l d:ae Int}(e:d.Perm l)(f:d.Pairwise (·<=·)):d=sortI l:=by
 refine U0 (le:=λa b=>R5 a b=a6) (λa b _ _ h g=>?_) (f.imp λh=>e4 h) (NF (λa b c h g=>?_) (λa b=>?_) l) (e.trans (SX l R5).symm)
 ·exact Zw (hM h) (hM g)
 ·exact e4 (Int.le_trans (hM h) (hM g))
 unfold R5;rw[SK,j2,j2];exact Int.le_total a b
noncomputable def eP:ae D->ax (ae ej)
 |[]=>aa []
 | .str x::r=>(eP r).map (x::·)
 |_=>av
noncomputable def cI:ae D->ax (ae Int)
 |[]=>aa []
 | .int x::r=>(cI r).map (x::·)
 |_=>av
theorem fz:∀ ss:ae ej,eP (ss.map .str)=aa ss
 |[]=>rfl
 |x::r=>by rw[hA,eP,fz r];rfl
theorem Ja:∀ ss:ae Int,cI (ss.map .int)=aa ss
 |[]=>rfl
 |x::r=>by rw[hA,cI,Ja r];rfl
theorem ko:∀ {ds:ae D}{ss:ae ej},eP ds=aa ss->ds=ss.map .str
 |[],ss,e=>by cases e;rfl
 | .str x::r,ss,e=>by
  obtain⟨t,b,a⟩:=dv.mp (show (eP r).map (x::·)=aa ss from e);subst a;rw[ko b];rfl
 | .Ic::_,_,e=>by cases e
 | .bl _::_,_,e=>by cases e
 | .int _::_,_,e=>by cases e
 | .tup _::_,_,e=>by cases e
 | .lst _::_,_,e=>by cases e
 | .set _::_,_,e=>by cases e
 | .loc _::_,_,e=>by cases e
 | .fn _ _::_,_,e=>by cases e
theorem gZ:∀ {ds:ae D}{ss:ae Int},cI ds=aa ss->ds=ss.map .int
 |[],ss,e=>by cases e;rfl
 | .int x::r,ss,e=>by
  obtain⟨t,b,a⟩:=dv.mp (show (cI r).map (x::·)=aa ss from e);subst a;rw[gZ b];rfl
 | .Ic::_,_,e=>by cases e
 | .bl _::_,_,e=>by cases e
 | .str _::_,_,e=>by cases e
 | .tup _::_,_,e=>by cases e
 | .lst _::_,_,e=>by cases e
 | .set _::_,_,e=>by cases e
 | .loc _::_,_,e=>by cases e
 | .fn _ _::_,_,e=>by cases e
theorem vC {a b:ae D}(p:a.Perm b):∀ {sb},eP b=aa sb->∃ sa,eP a=aa sa/\sa.Perm sb:=by
 induction p with
 |nil=>intro sb e;exact⟨sb,e,.refl _⟩
 |cons x p j =>
  intro sb e;cases x with
  |str z =>
   obtain⟨t,d,c⟩:=dv.mp (show (eP _).map (z::·)=aa sb from e);subst c;obtain⟨sa,h,g⟩:=j d;exact⟨z::sa,by rw[eP,h];rfl,.cons z g⟩
  |_=>cases e
 |swap x y l =>
  intro sb e;cases x with
  |str z =>
   cases y with
   |str f =>
    obtain⟨t,d,c⟩:=dv.mp (show (eP (.str f::l)).map (z::·)=aa sb from e);obtain⟨i,h,g⟩:=dv.mp (show (eP l).map (f::·)=aa t from d);subst c g;exact⟨f::z::i,by rw[eP,eP,h];rfl,.swap z f i⟩
   |_=>cases e
  |_=>cases e
 |trans _ _ k n =>
  intro sb e;obtain⟨q,d,m⟩:=n e;obtain⟨sa,c,o⟩:=k d;exact⟨sa,c,o.trans m⟩
theorem wv {a b:ae D}(p:a.Perm b):∀ {sb},cI b=aa sb->∃ sa,cI a=aa sa/\sa.Perm sb:=by
 induction p with
 |nil=>intro sb e;exact⟨sb,e,.refl _⟩
 |cons x p j =>
  intro sb e;cases x with
  |int z =>
   obtain⟨t,d,c⟩:=dv.mp (show (cI _).map (z::·)=aa sb from e);subst c;obtain⟨sa,h,g⟩:=j d;exact⟨z::sa,by rw[cI,h];rfl,.cons z g⟩
  |_=>cases e
 |swap x y l =>
  intro sb e;cases x with
  |int z =>
   cases y with
   |int f =>
    obtain⟨t,d,c⟩:=dv.mp (show (cI (.int f::l)).map (z::·)=aa sb from e);obtain⟨i,h,g⟩:=dv.mp (show (cI l).map (f::·)=aa t from d);subst c g;exact⟨f::z::i,by rw[cI,cI,h];rfl,.swap z f i⟩
   |_=>cases e
  |_=>cases e
 |trans _ _ k n =>
  intro sb e;obtain⟨q,d,m⟩:=n e;obtain⟨sa,c,o⟩:=k d;exact⟨sa,c,o.trans m⟩
section
variable {K:Ho}{H:Hp}{J:ae b0}
theorem Hz.strs:∀ {ss:ae ej}{vs:ae V}{us:ae ay},Hz K H J (ss.map .str) vs->Vals vs us->StrsAre us ss/\vs=ss.map V.str/\∀ x∈ss,N2 x
 |[],vs,us,m,r=>by
  cases Hz.HA.mp m;cases r;exact⟨.nil,rfl,by simp⟩
 |x::ss,vs,us,m,r=>by
  obtain⟨v,h,rfl,a,g⟩:=Hz.Hy.mp m;obtain⟨ev,ok⟩:=At.HE.mp a;subst ev;cases r with
  |cons c e =>
   obtain⟨t,rfl⟩:=c;obtain⟨d,f,b⟩:=Hz.strs g e;refine⟨.cons x t d,by rw[f];rfl,λy hy=>?_⟩;rcases gi.mp hy with rfl |hy
   ·exact ok
   exact b y hy
theorem Hz.ofStrs:∀ {ss:ae ej},(∀ x∈ss,N2 x)->Hz K H J (ss.map .str) (ss.map V.str)
 |[],_ => .nil
 |x::ss,h => .cons (At.HE.mpr ⟨rfl,h x (e7 ..)⟩) (Hz.ofStrs λy a=>h y (d7 _ a))
theorem qf:∀ {us:ae ay}{ss:ae ej},StrsAre us ss->Vals (ss.map V.str) us
 |_,_,.nil => .nil
 |_,_,.cons x t h => .cons ⟨t,rfl⟩ (qf h)
end
section
theorem zn {prog:ew}{w:hB}{A:hG}{E:Hq}{s:cc}{x:ay}{Q:Hq}
  (h:d6 #[8] A.in1 (collect x) (λvs a => ∃ ns,Pm vs ns/\vs.length<64 /\
   ∀ (out:h8 ay) (c:ae Int) h' ep,Pm out.toList c->c.Perm ns->c.Pairwise (·<=·)->(∀ b o,a.heap.get? b=aa o->h'.get? b=aa o)->h'.get? a.heap.objs.size=aa (Zh "list" out ep) ->
    Q (.ref a.heap.objs.size) { a with heap:=h' }) E s):d6 #[8] A (call (.builtin "sorted") [x]) Q E s:=by
 refine TH kind_sorted plain_sorted entry_sorted (args_sorted1 _) ?_;unfold Builtin.«sorted»;refine ak (m:=checkCount "sorted" 1 1 _) (a5 ?_);refine ak (HU h λvs a f=>?_);obtain⟨ns,k,g,q⟩:=f;refine ak (wpAny_newList ?_);have d:(a.heap.push (Zh "list" vs.toArray 0)).get? a.heap.objs.size=aa (Zh "list" vs.toArray 0):=en _ rfl;refine ak (rp (my slot_list_sort ⟨_,d,rfl⟩ entry_list_sort (list_sort_tree d k g λout c a1 a2 i=>⟨_,rfl,?_⟩) (args_list_sort _)));obtain⟨ep,j⟩:=sortedHeap_at (out:=out) d
 exact a5 ⟨_,rfl,q out c _ ep a1 a2 i (λb o e=>by
  rw[sortedHeap_old (md (ek e)) (by rw[size_push'];exact O6 (ek e))]
  exact cv _ e) j⟩
end
section
variable {X:Cx}{W:WT}
noncomputable def gm (xs:ae D):ax (ae D):=if xs.length<64 then
  match eP xs with
  |aa a=>aa ((fK a).map .str)
  |av=>(cI xs).map λns=>(sortI ns).map .int
 else av
theorem jl {c:Hr}{u:St}{H:Hp}{s:cc}{J:ae b0}{x:ay}{ds:ae D}{out:ae D}{Q:VK}(hJ:∀ a∈J,H a≠av)(e:gm ds=aa out)(q:∀ H' v,HJ H H'->At X.K H' J (.lst out) v->Q v H')
  (M:∀ (N:ae ay->cc->Prop) (E:Hq),(∀ us vs d r,Inv X c u H d->Vals vs us->r.Perm ds->Hz X.K H J r vs->N us d)->d6 #[9] X.A.in1 (collect x) N E s) :
  d6 #[9] X.A (call (.builtin "sorted") [x]) (EP X c u Q) X.xe s:=by
 unfold gm at e;rw[0]
 ·rename_i l
  have fin:∀ {d:cc}{i:j0}{ep:Nat}{us':ae ay}{t:ae V}(g:Inv X c u H d) (k:∀ b o,d.heap.get? b=aa o->i.get? b=aa o) (j:i.get? d.heap.objs.size=aa (Zh "list" us'.toArray ep)) (f:Vals t us') (m:Hz X.K H J out t) (L:t.length<=dk),
    EP X c u Q (.ref d.heap.objs.size) { d with heap:=i }:=λ{d i ep us' t} g k j f m L =>
   ⟨.ref d.heap.objs.size,_,g.laid (t':=d.toks) (o:=.lst t) k (eG _) ⟨L,us',ep,f,j⟩,rfl,q _ _ (aO g.fresh _) (At.IW m g.fresh hJ L)⟩
  rw[0]
  ·rename_i n es;cases e;have G:=ko es;subst G;refine Bk strKind_oneLt (M _ _ λus vs d r g f F m=>?_);have UY:∃ y,eP r=aa y/\y.Perm n:=by exact vC F (fz n)
   obtain⟨y,B,h⟩:=UY;have z:=ko B;subst z;obtain⟨sa,ev,ok⟩:=Hz.strs m f;have p:us.length=n.length:=by rw[← f.length,ev,dV];exact h.length_eq
   refine⟨sa.keysOf,λP O rest e=>keyKind_strs (by rw[← e];exact sa),by rw[dV] at l;omega,λIF i ep R T k j=>?_⟩;obtain⟨so,S,I,Y⟩:=sorted_out_str sa R T;have C:so=fK n:=ku (I.trans h) (jC Y);subst C;have W:∀ x∈fK n,N2 x:=λx Z=>ok x (I.mem_iff.mp Z);refine fin (us':=((Rj IF).map (·.2)).toList) g k (by rw[XE];exact j) (qf S) (Hz.ofStrs W) ?_;rw[dV,(I.trans h).length_eq];rw[dV] at l;exact qs (hv l #[1])
  obtain⟨ns,es,eo⟩:=dv.mp e;subst eo;have G:=gZ es;subst G;refine zn (M _ _ λus vs d r g f F m=>?_);obtain⟨PD,B,h⟩:=wv F (Ja ns);have z:=gZ B;subst z;have ev:=Hz.KO m;subst ev;have hI:=intsAre_of f;have p:us.length=ns.length:=by rw[← f.length,dV];exact h.length_eq
  rw[dV] at l;refine⟨PD,hI,#[2],λout no i ep a1 a2 U k j=>?_⟩;have C:no=sortI ns:=rO (a2.trans h) U;subst C;refine fin (us':=out.toList) g k (by rw[XE];exact j) (k_ a1) (Hz.ofInts _) ?_;rw[dV,(a2.trans h).length_eq];exact qs (hv l #[1])
 cases e
noncomputable def zo:ae D->ax D
 |[.tup xs]=>(gm xs).map .lst
 |[.lst xs]=>(gm xs).map .lst
 |_=>av
theorem Ct:jU X (.builtin "sorted") zo:=by
 intro A s M H K G Q I r h;obtain⟨J,L,d,B,m,e,q⟩:=h;unfold zo at e;rw[0]
 ·rename_i y;obtain⟨out,x,l⟩:=dv.mp e;subst l;obtain⟨v,w,rfl,a,n⟩:=Hz.Hy.mp m;cases Hz.HA.mp n;obtain⟨p,c,rfl,t,z⟩:=At.HK.mp a;obtain⟨u,rfl,g⟩:=vals1 r;cases g;obtain⟨its,b,⟨o,i,hc,F,hd⟩,f⟩:=I.tuple t.sq;refine jl B x q λD E j=>wpAny_collect_seq p (.inr rfl) i hc hd (λC k=>?_) (by rw[eX,← b.length];exact f);exact j _ c _ y (I.kept (t':=s.toks) k) (by simpa using b) (.refl _) z
 ·rename_i y;obtain⟨out,x,l⟩:=dv.mp e;subst l;obtain⟨v,w,rfl,a,n⟩:=Hz.Hy.mp m;cases Hz.HA.mp n;obtain⟨p,c,rfl,t,z⟩:=At.HN.mp a;obtain⟨u,rfl,g⟩:=vals1 r;cases g;obtain⟨its,b,⟨o,F,i,hc,_,hd⟩,f⟩:=I.list t.sq;refine jl B x q λD E j=>wpAny_collect_seq p (.inl rfl) i hc hd (λC k=>?_) (by rw[eX,← b.length];exact f);exact j _ c _ y (I.kept (t':=s.toks) k) (by simpa using b) (.refl _) z
 cases e
end
noncomputable def fP (a b:D):e8:=dr (fu a=fu b)
noncomputable def putD (kvs:ae (D×D))(k v:D):ae (D×D):=if (kvs.any λp=>fP p.1 k)=a6 then kvs.map (λp=>if fP p.1 k=a6 then (p.1,v) else p) else kvs++[(k,v)]
noncomputable def getD (kvs:ae (D×D))(k:D):ax D:=(kvs.find? λp=>fP p.1 k).map (·.2)
abbrev Oy (K:Ho)(H:Hp)(J:ae b0):(D×D)->(Key×V)->Prop:=λp q=>(fu p.1=aa q.1/\At K H J p.1 (kV q.1))/\At K H J p.2 q.2
section
variable {K:Ho}{H H':Hp}{J J':ae b0}
theorem n8 {a k:D}{x y:Key}(h:fu a=aa x)(g:fu k=aa y):fP a k=dr (x=y):=by
 unfold fP;rw[h,g];by_cases e:x=y
 ·subst e;simp
 rw[cX e,cX (λz=>e (kx z))]
theorem Eu {kvs:ae (D×D)}{a:ae (Key×V)}{k:D}{y:Key}(g:fu k=aa y)(r:i4 (Oy K H J) kvs a):(kvs.any λp=>fP p.1 k)=a.any λq=>dr (q.1=y):=by
 induction r with
 |nil=>rfl
 |cons h t b=>rw[J7,J7,b,n8 h.1.1 g]
theorem yo {kvs:ae (D×D)}{a:ae (Key×V)}{k v:D}{y:Key}{w:V}(g:fu k=aa y)(b:At K H J v w)(r:i4 (Oy K H J) kvs a):i4 (Oy K H J) (kvs.map λp=>if fP p.1 k=a6 then (p.1,v) else p) (a.map λq=>if q.1=y then (q.1,w) else q):=by
 induction r with
 |nil=>exact .nil
 | @cons p q d f h t c =>
  refine .cons ?_ c;show Oy K H J (if fP p.1 k=a6 then (p.1,v) else p) (if q.1=y then (q.1,w) else q);rw[n8 h.1.1 g];by_cases e:q.1=y
  ·rw[dw (e4 e),dw e];exact⟨h.1,b⟩
  rw[ee (by rw[cX e];decide),ee e];exact h
theorem yq {k v:D}{y:Key}{w:V}(g:fu k=aa y)(d:At K H J k (kV y))(c:At K H J v w){a:ae (D×D)}{b:ae (Key×V)}(h:i4 (Oy K H J) a b):i4 (Oy K H J) (a++[(k,v)]) (b++[(y,w)]):=by
 induction h with
 |nil=>exact .cons ⟨⟨g,d⟩,c⟩ .nil
 |cons h t e=>exact .cons h e
theorem Dv {kvs:ae (D×D)}{b:ae (Key×V)}{k v:D}{y:Key}{w:V}(g:fu k=aa y)(c:At K H J k (kV y))(a:At K H J v w)(r:i4 (Oy K H J) kvs b):i4 (Oy K H J) (putD kvs k v) (putK b y w):=by
 unfold putD putK;rw[Eu g r];split
 ·exact yo g a r
 exact yq g c a r
theorem AD {kvs:ae (D×D)}{a:ae (Key×V)}{k:D}{y:Key}(g:fu k=aa y)(r:i4 (Oy K H J) kvs a) :
  (getD kvs k=av/\kn a y=av)∨∃ d v,getD kvs k=aa d/\kn a y=aa v/\At K H J d v:=by
 unfold getD kn
 induction r with
 |nil=>exact .inl ⟨rfl,rfl⟩
 | @cons p q c f h t b =>
  rw[o3,o3,n8 h.1.1 g];by_cases e:q.1=y
  ·rw[e4 e];exact .inr ⟨p.2,q.2,rfl,rfl,h.2⟩
  rw[cX e];exact b
theorem jY {α b:Type}{F : α->b->Prop}{a:ae α}{c:ae b}(r:i4 F a c):a.length=c.length:=Q7 r
end
section
variable {X:Cx}{W:WT}{pos pos':N5}{o i e:gj}{fo fi fv:Hn D}
noncomputable def u4:Hn D:=λ_ S=>HC (#[12]) (S++[.dict []])
theorem HW.push {K:Ho}{J:ae b0}{S:Hu}{H:Hp}{p:b0}{o:HO}{mo:MO}(s:HW K J S H)(e:H p=av)(h:OQ K (upd H p o) (J++[p]) mo p):HW K (J++[p]) (S++[mo]) (upd H p o)/\Ex J H (J++[p]) (upd H p o):=by
 have x:Ex J H (J++[p]) (upd H p o):=⟨⟨[p],rfl⟩,λb u hb i=>⟨by rw[aG (aU hb e)];exact hb,λz=>by
  rcases il.mp z with z |z
  ·exact i z
  exact aU hb e (by simpa using z)⟩⟩
 refine⟨⟨by rw[cq,cq,s.len];rfl,?_,λl a j c d=>?_⟩,x⟩
 ·rw[I0];refine⟨s.nd,by simp,λa k b hb z=>?_⟩;have:b=p:=by simpa using hb
  subst this;exact s.tracked k (z▸e)
 by_cases g:l<J.length
 ·rw[gh g] at c;rw[gh (by rw[← s.len];exact g)] at d;have q:=s.at_ l a j c d;refine q.ex x ?_;rw[aG];intro z;exact q.LI (z▸e)
 rw[f5 #[0]] at c;rw[f5 (by rw[← s.len];omega)] at d;have f:l-J.length=0:=by have:=(b7.mp c).1;simp at this;omega
 rw[f] at c;rw[← s.len,f] at d;simp at c d;subst c d;exact h
theorem rS:SE X W (.Dict [] [] pos) u4:=Nx.imp λd H Q h=>by obtain⟨J,f,S,r,b,c,_,e,z⟩:=h;cases e;intro p a;have q:=c.Ie.push (o:=.dK []) (mo:=.dict []) a ⟨[],HG,.nil⟩;refine z (J++[p]) _ _ q.2 q.1 (At.HX.mpr ⟨p,rfl,?_⟩);rw[← c.Ie.len,f5 (eG _)];simp
theorem HW.update {K:Ho}{J:ae b0}{S:Hu}{H:Hp}{l:Nat}{a:b0}{o:HO}{mo:MO}(s:HW K J S H)(e:J[l]?=aa a)(k:∀ g H',Ex J H g H'->H'=upd H a o->g=J->OQ K H' g mo a):HW K J (S.set l mo) (upd H a o)/\Ex J H J (upd H a o):=by
 have i:a∈J:=mx e;have x:Ex J H J (upd H a o):=⟨Zo _,λb u hb h=>⟨by rw[aG (λz:b=a=>h (by rw[z];exact i))];exact hb,h⟩⟩;refine⟨⟨by rw[YL];exact s.len,s.nd,λj b n c d=>?_⟩,x⟩;by_cases f:j=l
 ·subst f;rw[e] at c;cases c;have m:j<S.length:=by rw[← s.len];exact(b7.mp e).1
  rw[Ov m] at d;cases d;exact k J _ x rfl rfl
 rw[Pf (vu f)] at d;refine(s.at_ j b n c d).ex x ?_;rw[aG];intro z;subst z;exact f ((Us (b7.mp c).1 s.nd).mp (c.trans e.symm))
noncomputable def pQ (x k v:D)(a:Hv)(S:Hu):Out Fl:=match x with
 | .loc l=>match S[l]?,fu k with
  |aa (.dict kvs),aa _=>if kvs.length<dk then HC (.next a) (S.set l (.dict (putD kvs k v))) else av
  |_,_=>av
 |_=>av
noncomputable def u3 (fo fi fv:Hn D):Hn Fl:=λa S=>aj (fv a S) λv c=>aj (fo a c) λx d=>aj (fi a d) λk b=>pQ x k v a b
noncomputable def tH (X:Cx)(W:WT)(ds:ae D)(vs:ae V)(g:Hn Fl):TS:=λE c H => ∃ J a S r b,Cf X J a S c H/\Hz X.K H J ds vs/\g a S=aa (r,b)/\LK X W J H r b E
theorem tH.HH {i:Hn D}{k:D->Hn Fl}{ds:ae D}{vs:ae V}{E:Ends}{g:St}{H:Hp}
  (h:tH X W ds vs (λb S=>aj (i b S) λd f=>k d b f) E g H):tE X W i g H λv j => ∃ d,tH X W (d::ds) (v::vs) (k d) E g j:=by
 obtain⟨J,b,S,r,l,c,a,e,z⟩:=h;cases q:i b S with
 |none=>simp[q] at e
 |some o =>
  obtain⟨s,f⟩:=o;simp only[q] at e;cases s with
  |error x =>
   cases e;exact⟨J,b,S,.error x,_,c,.nil,q,z⟩
  |ok d=>exact⟨J,b,S,.ok d,f,c,.nil,q,λp j v x n m=>⟨d,p,b,f,r,l,c.re x n,.cons m (a.ex x),e,z.ex x⟩⟩
theorem Ay {k:D}{y:Key}{K:Ho}{H:Hp}{J:ae b0}{v:V}(g:fu k=aa y)(a:At K H J k v):v=kV y:=by
 cases k with
 |int i=>cases g;exact At.Hw.mp a
 |str x=>cases g;exact(At.HE.mp a).1
 |_=>cases g
theorem vF (T:X.A.units+1<n0)(K:SE X W o fo)(hi:SE X W i fi)(w:SE X W e fv)(L:N_ e (aa (.Subscript o i pos')) pos.line X.env=u1 bo:=by rfl):SS X W (.Assign [.Subscript o i pos'] e pos) (u3 fo fi fv):=
 (BE T K hi w L).imp λE j H h=>by
  have h:tH X W [] [] (u3 fo fi fv) E j H:=let ⟨J,t,S,r,g,c,e,z⟩:=h;⟨J,t,S,r,g,c,.nil,e,z⟩;refine(tH.HH h).mono λv H1 ⟨R,B⟩=>(tH.HH B).mono λx V ⟨N,U⟩=>(tH.HH U).mono λy H3 ⟨F,M⟩=>?_;obtain⟨J,t,S,r,g,c,m,e,z⟩:=M;obtain⟨mk,m⟩:=m.HF;obtain⟨u,m⟩:=m.HF;obtain⟨C,_⟩:=m.HF;unfold pQ at e;cases N with
  |loc l =>
   simp only at e;rw[0]
   ·rename_i d G es n;rw[0]
    ·rename_i lt;cases e;obtain⟨a,rfl,s⟩:=At.HX.mp u;obtain⟨I,Q,f⟩:=c.Ie.at_ l a _ s es;have P:=Ay n mk;subst P;have q:=c.Ie.update (o:=.dK (putK I G v)) (mo:=.dict (putD d F R)) s λZ Y b O D=>by subst O D;refine⟨_,HG,Dv n (mk.ex b) (C.ex b) ?_⟩;exact Paired.Lx f λp q z=>⟨⟨z.1.1,z.1.2.ex b⟩,z.2.ex b⟩
     exact⟨a,_,rfl,Nw.k Q (by rw[← jY f];exact lt),z J j _ q.2 (c.re q.2 q.1)⟩
    cases e
   cases e
  |_=>cases e
noncomputable def Co (neg:e8)(k x:D)(S:Hu):ax D:=match x with
 | .loc l=>match S[l]?,fu k with
  |aa (.dict kvs),aa _=>aa (.bl (if neg then !(getD kvs k).isSome else (getD kvs k).isSome))
  |_,_=>av
 |_=>av
noncomputable def y9 (neg:e8)(d fd:Hn D):Hn D:=λb S=>aj (d b S) λk c=>aj (fd b c) λx a=>aQ (Co neg k x a) a
theorem o0 {neg:e8}{i:St}{H:Hp}{Q:VK}(h:tE X W (y9 neg fi fo) i H Q):tE X W fi i H λy n=>tE X W fo i n λx b => ∃ a o,x = .ref a/\Kx b a y o/\Q (.bl (if neg then !o.isSome else o.isSome)) b:=
 (tG.HH h).mono λy n ⟨G,u⟩=>(tG.HH u).mono λx b p=>by
  obtain⟨w,E⟩:=p
  obtain⟨J,L,S,r,F,c,m,e,z⟩:=E;obtain⟨s,m⟩:=m.HF;obtain⟨mk,_⟩:=m.HF;unfold Co at e;cases w with
  |loc l =>
   simp only at e;rw[0]
   ·rename_i D I es j;cases e;obtain⟨a,rfl,C⟩:=At.HX.mp s;obtain⟨K,B,t⟩:=c.Ie.at_ l a _ C es;have A:=Ay j mk;subst A;refine⟨a,_,rfl,Kx.k B,?_⟩;have q:=z J b _ Ex.refl c.Ie (At.HP.mpr rfl);rcases AD j t with ⟨g,f⟩ |⟨d,v,g,f,_⟩
    ·rw[g] at q;rw[f];exact q
    rw[g] at q;rw[f];exact q
   cases e
  |_=>cases e
theorem Dl (a:X.A.units+1<n0)(hi:SE X W i fi)(c:SE X W o fo)(b:mc .In o=bo:=by with_unfolding_all rfl):SE X W (.Compare i [.In] [o] pos) (y9 bo fi fo):=
 (DJ (zZ a hi c) b).imp λd H Q h=>o0 (neg:=bo) h
theorem C_ (a:X.A.units+1<n0)(hi:SE X W i fi)(c:SE X W o fo)(b:mc .In o=bo:=by with_unfolding_all rfl):KD X W (.Compare i [.In] [o] pos) (aR (y9 bo fi fo)):=
 (vV (zZ a hi c) b).imp λd H Q h=>JB.mono (t:=ER (tE X W fi) (tE X W fo)) (λ_ _ _=>o0 (neg:=bo)) (gN h)
theorem yb (a:X.A.units+1<n0)(hi:SE X W i fi)(c:SE X W o fo)(b:mc .NotIn o=bo:=by with_unfolding_all rfl):KD X W (.Compare i [.NotIn] [o] pos) (aR (y9 a6 fi fo)):=
 (vV (yw a hi c) b).imp λd H Q h=>JB.mono (t:=w4 (tE X W fi) (tE X W fo)) (λ_ _ _=>o0 (neg:=a6)) (gN h)
noncomputable def xG (x k:D)(S:Hu):ax D:=match x with
 | .loc l=>match S[l]?,fu k with
  |aa (.dict kvs),aa _=>getD kvs k
  |_,_=>av
 |_=>av
noncomputable def FC (fd d:Hn D):Hn D:=λb S=>aj (fd b S) λx c=>aj (d b c) λk a=>aQ (xG x k a) a
theorem Bu (G:X.A.units+1<n0)(u:SE X W o fo)(hi:SE X W i fi)(w:zc i):SE X W (.Subscript o i pos) (FC fo fi):=(BO G u hi w).imp λL H Q h =>
 (tG.HH h).mono λx P ⟨B,t⟩=>(tG.HH t).mono λy n p=>by
  obtain⟨M,I⟩:=p
  obtain⟨J,R,S,r,K,c,m,e,z⟩:=I;obtain⟨mk,m⟩:=m.HF;obtain⟨q,_⟩:=m.HF;unfold xG at e;cases B with
  |loc l =>
   simp only at e;rw[0]
   ·rename_i F N es g;obtain⟨a,rfl,E⟩:=At.HX.mp q;obtain⟨O,D,s⟩:=c.Ie.at_ l a _ E es;have C:=Ay g mk;subst C;rcases AD g s with ⟨b,f⟩ |⟨d,v,b,f,j⟩
    ·rw[b] at e;cases e
    rw[b] at e;cases e;exact⟨a,v,rfl,by rw[← f];exact Kx.k D,z J n _ Ex.refl c.Ie j⟩
   cases e
  |_=>cases e
end
section
variable {X:Cx}{W:WT}
theorem SE.either {e:gj}{g g1 g2:Hn D}(j:SE X W e g1)(k:SE X W e g2)(h:∀ b S,g b S=g1 b S∨g b S=g2 b S):SE X W e g:=λd s i H Q I z=>by
 obtain⟨J,b,S,r,f,c,a,e,y⟩:=z;rcases h b S with q |q
 ·exact j d s i H Q I ⟨J,b,S,r,f,c,a,by rw[← q];exact e,y⟩
 exact k d s i H Q I ⟨J,b,S,r,f,c,a,by rw[← q];exact e,y⟩
theorem KD.either {e:gj}{g g1 g2:Hn e8}(j:KD X W e g1)(k:KD X W e g2)(h:∀ b S,g b S=g1 b S∨g b S=g2 b S):KD X W e g:=λd s i H Q I z=>by
 obtain⟨J,b,S,r,f,c,a,e,y⟩:=z;rcases h b S with q |q
 ·exact j d s i H Q I ⟨J,b,S,r,f,c,a,by rw[← q];exact e,y⟩
 exact k d s i H Q I ⟨J,b,S,r,f,c,a,by rw[← q];exact e,y⟩
theorem SI.either {d e:gj}{g g1 g2:Hn (ae D)}(j:SI X W d e g1)(k:SI X W d e g2)(h:∀ a S,g a S=g1 a S∨g a S=g2 a S):SI X W d e g:=λb s i H R I z=>by
 obtain⟨J,a,S,r,f,c,e,y⟩:=z;rcases h a S with q |q
 ·exact j b s i H R I ⟨J,a,S,r,f,c,by rw[← q];exact e,y⟩
 exact k b s i H R I ⟨J,a,S,r,f,c,by rw[← q];exact e,y⟩
theorem cM {α e:Type}(m:Out α){k b d : α->Hu->Out e}(h:∀ a S,k a S=b a S∨k a S=d a S):aj m k=aj m b∨aj m k=aj m d:=by
 cases m with
 |none=>exact .inl rfl
 |some o =>
  obtain⟨r,S⟩:=o;cases r with
  |error c=>exact .inl rfl
  |ok a=>exact h a S
noncomputable def bi:D->e8
 | .loc _=>a6
 |_=>bo
noncomputable def Iy (x i:D)(S:Hu):ax D:=if bi x=a6 then xG x i S else MZ x i
noncomputable def IC (d e:Hn D):Hn D:=λb S=>aj (d b S) λx c=>aj (e b c) λi a=>aQ (Iy x i a) a
variable {a b:gj}{fa fb:Hn D}{pos:N5}
theorem aI (f:X.A.units+1<n0)(ha:SE X W a fa)(hb:SE X W b fb)(c:zc b:=by exact λ_ _=>rfl):SE X W (.Subscript a b pos) (IC fa fb):=
 SE.either (Bu f ha hb c) (CN UI ha hb c) λe S=>cM _ λx d=>by
  by_cases h:bi x=a6
  ·refine .inl (E3 (aj (fb e d)) (Xv λi=>Xv λg=>?_));unfold Iy;rw[dw h]
  refine .inr (E3 (aj (fb e d)) (Xv λi=>Xv λg=>?_));unfold Iy;rw[ee h]
noncomputable def Kn (neg:e8)(k x:D)(S:Hu):ax D:=if bi x=a6 then Co neg k x S else (if neg=a6 then oy k x else inD k x)
noncomputable def ML (neg:e8)(d fd:Hn D):Hn D:=λb S=>aj (d b S) λk c=>aj (fd b c) λx a=>aQ (Kn neg k x a) a
theorem lM (neg:e8)(a fd:Hn D)(b:Hv)(S:Hu):ML neg a fd b S=y9 neg a fd b S∨ML neg a fd b S=aA (if neg=a6 then oy else inD) a fd b S:=by
 unfold ML y9 aA;refine cM _ λk c=>cM _ λx d=>?_;unfold Kn;by_cases h:bi x=a6
 ·exact .inl (by rw[dw h])
 refine .inr ?_;rw[ee h];cases neg<;>rfl
variable (hu:X.A.units+150<n0) (HM:X.A.units+1<n0)
include hu HM
theorem Dk (e:X.A.units+151<n0)(ha:SE X W a fa)(hb:SE X W b fb)(c:mc .In b=bo:=by with_unfolding_all rfl):SE X W (.Compare a [.In] [b] pos) (ML bo fa fb):=
 SE.either (Dl HM ha hb c) (dG (CT e) ha hb c) λd S=>lM bo fa fb d S
theorem nO {f b c:Hn D}{a:Hv}{S:Hu}(h:f a S=b a S∨f a S=c a S):aR f a S=aR b a S∨aR f a S=aR c a S:=by
 unfold aR;rcases h with h |h
 ·exact .inl (by rw[h])
 exact .inr (by rw[h])
theorem vz (e:X.A.units+151<n0)(ha:SE X W a fa)(hb:SE X W b fb)(c:mc .In b=bo:=by with_unfolding_all rfl):KD X W (.Compare a [.In] [b] pos) (aR (ML bo fa fb)):=
 KD.either (C_ HM ha hb c) (aX (CT e) ha hb c) λd S=>nO hu HM (lM bo fa fb d S)
theorem lh (e:X.A.units+151<n0)(ha:SE X W a fa)(hb:SE X W b fb)(c:mc .NotIn b=bo:=by with_unfolding_all rfl):KD X W (.Compare a [.NotIn] [b] pos) (aR (ML a6 fa fb)):=
 KD.either (yb HM ha hb c) (aX (z5 e) ha hb c) λd S=>nO hu HM (lM a6 fa fb d S)
omit hu HM
noncomputable def bN:D->ax (ae D)
 | .tup a=>aa a
 | .lst a=>aa a
 | .str x=>aa (x.cps.toList.map λc=>D.str ⟨#[c]⟩)
 |_=>av
noncomputable def cF (f:Hn D):Hn (ae D):=λb S=>aj (f b S) λd a=>aQ (bN d) a
theorem fL {f:gj}(ha:SE X W a fa):SI X W f a (cF fa):=by
 refine SI.either (g1:=wN fa) (g2:=λe S=>aj (fa e S) λd b=>aQ (match d with | .lst g=>aa g | .str x=>aa (x.cps.toList.map λc=>D.str ⟨#[c]⟩) |_=>av) b) (Dg ha) (SI.either (Di ha) (Dh ha) λe S=>?_) λe S=>?_
 ·unfold A0 AX;refine cM _ λd b=>?_;cases d<;>first |exact .inl rfl |exact .inr rfl
 unfold cF wN;refine cM _ λd b=>?_;cases d<;>first |exact .inl rfl |exact .inr rfl
end
noncomputable def bq (n m:Nat) (G:Hn Fl):Ht:=λa S=>if a.length=n then
  match G (a.map aa++el m av) S with
  |aa (.ok (.ret d),S')=>aa (.ok d,S')
  |aa (.ok (.next _),S')=>aa (.ok .Ic,S')
  |_=>av
 else av
def bv (K:Ho)(mg:Hs)(x:ej)(st:mq)(a:ae ej):Prop:=∃ f fd,Nj K x x st f fd/\mg x=aa (.ref f)/\Binds K fd a []
def Jn (P:ew)(w:hB)(K:Ho)(mg:Hs)(base:j0)(k:Nat)(x:ej)(a:ae ej)(F:Ht):Prop:=
 ∃ f fd,N3 P w K mg base k f fd a F/\mg x=aa (.ref f)/\yk K (.ref f)=a6/\Binds K fd a []
section
variable {P:ew}{w:hB}{K:Ho}{mg:Hs}{base:j0}
theorem mM {x qual:ej}{st:mq}{sc:i0}{N b:ae ej}{k:Nat}{G:Hn Fl}{f:b0}{fd:wa}(B:Nj K x qual st f fd)(O:aB st=sc)(S:Hx N b sc)
  (h:∀ (A:hG) (outer:ae Yy) (s:cc) (H:Hp) (E:XK),Ib k (A.deeper (QJ qual sc s.heap.objs.size f fd.code))->M0 (o6 Ni P w K mg base N qual sc f fd.code A outer s H E).Of W0 (bZ st) G) :
  N3 P w K mg base (k+1) f fd b (bq b.length (N.length-b.length) G):=by
 subst O;obtain⟨oc,od,kV,doc,Z,Y,HR,ct,Nv,rfl,L,C⟩:=B.ex
 have len:∀ a St r,bq b.length (N.length-b.length) G a St=aa r->a.length=b.length:=λa St r e=>by
  unfold bq at e;rw[0]
  ·assumption
  cases e
 refine Fr L C S (λR H Q E h=>?_) λA outer s H R Q E hr I=>?_
 ·obtain⟨J,St,a,d,c,m,_,e,_⟩:=h;rw[← m.length];exact len a St _ e
 obtain⟨J,St,a,d,c,m,so,e,z⟩:=I;have t:=len a St _ e
 have M:∃ r,G (a.map aa++el (N.length-b.length) av) St=aa (.ok r,c)/\(r = .ret d∨(d = .Ic/\∃ p,r = .next p)):=by
  unfold bq at e;rw[dw t] at e;rw[0]
  ·rename_i T U q;cases e;exact⟨_,q,.inl rfl⟩
  ·rename_i g U q;cases e;exact⟨_,q,.inr ⟨rfl,g,rfl⟩⟩
  cases e
 obtain⟨r,V,W⟩:=M;refine⟨_,(h A outer s H E hr).Of,J,_,St,.ok r,c,⟨?_,λi d' hd=>?_,so⟩,V,?_⟩
 ·unfold start;rw[cq,cq,dV,dV,← m.length,t];simp
 ·by_cases o:i<a.length
  ·rw[gh (by simpa using o),eh] at hd;cases q:a[i]? with
   |none=>rw[q] at hd;cases hd
   |some T =>
    rw[q] at hd;cases hd;obtain⟨v,ev,u⟩:=m.get q;refine⟨v,?_,u⟩;unfold start;rw[gh (by rw[dV,← m.length];exact o),eh,ev];rfl
  rw[f5 (by simpa using o),ND] at hd;split at hd<;>cases hd
 rcases W with rfl |⟨rfl,p,rfl⟩
 ·exact λn j v l D F=>z n j v l D F
 exact λn y j l X=>z n j _ l X.Ie (At.Jg.mpr rfl)
theorem oY {x:ej}{st:mq}{sc:i0}{N a:ae ej}{k:Nat}{G:Hn Fl}{f:b0}{fd:wa}(c:Nj K x x st f fd)(d:aB st=sc)(Sc:Hx N a sc)
  (h:∀ (f:b0) (b:ay) (A:hG) (outer:ae Yy) (s:cc) (H:Hp) (E:XK),Ib k (A.deeper (QJ x sc s.heap.objs.size f b))->M0 (o6 Ni P w K mg base N x sc f b A outer s H E).Of W0 (bZ st) G) :
  N3 P w K mg base (k+1) f fd a (bq a.length (N.length-a.length) G):=mM c d Sc λA outer s H E hr=>h f fd.code A outer s H E hr
theorem a8 {x:ej}{st:mq}{sc:i0}{N a:ae ej}{k:Nat}{G:Hn Fl}(e:bv K mg x st a)(g:aB st=sc)(Sc:Hx N a sc)
  (h:∀ (f:b0) (c:ay) (A:hG) (outer:ae Yy) (s:cc) (H:Hp) (E:XK),Ib k (A.deeper (QJ x sc s.heap.objs.size f c))->M0 (o6 Ni P w K mg base N x sc f c A outer s H E).Of W0 (bZ st) G) :
  Jn P w K mg base (k+1) x a (bq a.length (N.length-a.length) G):=by
 obtain⟨f,fd,b,d,hb⟩:=e;exact⟨f,fd,oY b g Sc h,d,b.kp,hb⟩
theorem ja {x:ej}{st:mq}{b:ae ej}{k:Nat}(i:bv K mg x st b):Jn P w K mg base k x b (λ_ _=>av):=by
 obtain⟨f,fd,c,g,hb⟩:=i;have no:∀ a H Q E,¬ R3 K (λ_ _=>av) a H Q E:=λa H Q E h=>by obtain⟨J,S,m,d,l,_,_,e,_⟩:=h;cases e
 exact⟨f,fd,⟨λa H Q E h=>hK h (no a H Q E),λA outer s H args j a Q E _ _ _ _ h=>hK h (no a H Q E)⟩,g,c.kp,hb⟩
theorem bf {A:hG}{k:Nat}(hr:Ib k A):A.units+150<n0:=by have:=hr.un;omega
theorem bd {A:hG}{k:Nat}(hr:Ib k A):A.units+151<n0:=by have:=hr.un;omega
end
section
variable {X:Cx}{W:WT}{x:ej}{p pos:N5}{e:gj}{es:ae gj}{gs:Hn (ae D)}
theorem aF {k:Nat}{d:ae ej}{F:Ht}(C:Jn X.prog X.w X.K X.mg X.base k x d F)(hr:Ib k X.A)
  (ha:SA X W (e::es) gs) (b:Gl X x:=by rfl) (h:(x==("__debug__":ej))=bo:=by decide) (a:dm (e::es) X.env=(bo,lX e X.env)::dm es X.env:=by rfl) (i:(mf pos (dm es X.env)).any (·.1)=bo:=by rfl) :
  SE X W (.Call (.Name x p) (e::es) [] pos) (aY F gs):=by
 obtain⟨f,fd,G,g,c,hb⟩:=C;exact Bv G hr g c hb ha b h a i
end
noncomputable def w_ (K:Ho)(n:Nat):Sp:=λb H Q _ => ∃ (a:b0) (ns:ae Int),b=[.ref a]/\K9 K H a (ns.map V.int)/\ns.length<=n/\∀ c,Q (.bl a6) c
theorem DX {P:ew}{w:hB}{K:Ho}{mg:Hs}{base:j0}{k n:Nat}{f:b0}{fd:wa}{c:ae ej}{F:Ht}(h:N3 P w K mg base k f fd c F)(r:n<=1000)
  (i:∀ ns:ae Int,ns.length<=n->∃ b,F [.lst (ns.map .int)] []=aa (.ok (.bl a6),b)):JP P w K mg base Ni k f fd c (w_ K n):=by
 refine JP.imp h λt H Q E g=>?_;obtain⟨a,ns,e,p,d,q⟩:=g;subst e;obtain⟨b,eF⟩:=i ns d;refine⟨[],[],[.lst (ns.map .int)],.bl a6,b,.cons (At.HN.mpr ⟨a,ns.map V.int,rfl,?_,Hz.ofInts ns⟩) .nil,⟨rfl,.nil,λl a o h=>by simp at h⟩,eF,λs j v _ _ m=>?_⟩
 ·rcases p with z |z
  ·exact .inl ⟨z,by simp,by rw[dV];exact fk d (fk r #[1])⟩
  exact .inr z
 rw[At.HP.mp m];exact q j
theorem NG {l:Rh}{q:ew}{loose:ae ej}{e:(Hs)->j0->Prop}{b:hB->j0->Prop}{d:DefRec}{K:Params->Ho}{k:Nat}{x:ej}(o:l.most=aa 63)(i:d.params.defaults=[])(hr:Ib k Ub)
  (g:∀ (w:hB) (h:j0),b w h->(K w.params).In h)
  (F:∀ (w:hB) (mg:Hs) (c:b0) (h:j0),(K w.params).In h->h.Ns ly mg->mg d.name=aa (.ref c) ->
   ∃ fd:wa,(∀ (s:cc) (u:ay),X_ s fd ⟨[u],[]⟩ [(x,u)])/\∀ base:j0,(K w.params).In base->base.Ns ly mg->JP l.prog w (K w.params) mg base Ni k c fd [x] (w_ (K w.params) 63)) :
  ZG q loose e b l.row.toRowW d [] (λf vs=>ZP f vs):=
 L2.Oq (n:=63) (k:=k) (x:=x) (CX:=λ_=>Ni) (sp:=λw=>w_ (K w.params) 63) o #[1] i hr g F (λ_ _ a ns m _ j=>⟨a,ns,rfl,j,m,λ_=>rfl⟩) λ_ _ _ _ _ z=>z
def A8 (K:Ho)(mg:Hs)(x:ej)(d:D):Prop:=∃ u,mg x=aa u/\ve K u d
theorem zz {X:Cx}{W:WT}{x:ej}{d:D}{pos:N5}(h:A8 X.K X.mg x d)(a:Gl X x:=by rfl)(hd:(x==("__debug__":ej))=bo:=by decide):SE X W (.Name x pos) (ar d):=by obtain⟨u,b,c⟩:=h;exact Bt b c a hd
noncomputable def sJ (u:ay)(d:D):e8:=match u,d with
 | .int i _,.int j=>dr (i=j)
 | .str x _,.str y=>dr (x=y)&&QT y
 | .none,.Ic=>a6
 | .bool b,.bl c=>b==c
 |_,_=>bo
noncomputable def ni:ae ay->ae D->e8
 |[],[]=>a6
 |u::us,d::ds=>sJ u d&&ni us ds
 |_,_=>bo
noncomputable def AS (o:VJ)(d:D):e8:=match d with
 | .tup a=>dr (o.cls = .type "tuple")&&o.dict.isNone&&(match o.data with
  | .seq its _=>dr (its.size<=dk)&&ni its.toList a
  |_=>bo)
 |_=>bo
theorem qZ {K:Ho}{u:ay}{d:D}(h:sJ u d=a6):ve K u d:=by
 unfold sJ at h;split at h
 ·rename_i i t j;exact⟨.int i,⟨t,rfl⟩,λ_ _=>At.Hw.mpr (by rw[hM h])⟩
 ·rename_i x t y;rw[eL] at h;exact⟨.str x,⟨t,rfl⟩,λ_ _=>At.HE.mpr ⟨by rw[hM h.1],CS h.2⟩⟩
 ·exact⟨.Ic,rfl,λ_ _=>At.Jg.mpr rfl⟩
 ·rename_i b c;exact⟨.bl b,rfl,λ_ _=>At.HP.mpr (by rw[LV h])⟩
 cases h
theorem o9 {K:Ho}:∀ {us:ae ay}{ds:ae D},ni us ds=a6->∃ vs,Vals vs us/\∀ H J,Hz K H J ds vs
 |[],[],_=>⟨[],.nil,λ_ _ => .nil⟩
 |u::us,d::ds,h=>by
  rw[ni,eL] at h;obtain⟨v,r,a⟩:=qZ (K:=K) h.1;obtain⟨vs,b,c⟩:=o9 (K:=K) h.2;exact⟨v::vs,.cons r b,λH J => .cons (a H J) (c H J)⟩
 |[],_::_,h=>by cases h
 |_::_,[],h=>by cases h
theorem Oz {K:Ho}{u:ay}{d:D}(h:sJ u d=a6):ve K u d:=qZ h
theorem OA {K:Ho}{a:b0}{o:VJ}{d:D}(l:K.lookup a=aa o)(h:AS o d=a6):ve K (.ref a) d:=by
 unfold AS at h;split at h
 ·rename_i j;rw[eL,eL] at h;obtain⟨⟨i,e⟩,b⟩:=h;split at b
  ·rename_i its n hd;rw[eL] at b;obtain⟨f,c,g⟩:=o9 (K:=K) b.2;exact⟨.ref a,rfl,λH J=>At.HK.mpr ⟨a,f,rfl,.inr ⟨o,its,n,l,hM i,Option.isNone_iff_eq_none.mp e,hd,hM b.1,c⟩,g H J⟩⟩
  cases b
 cases h
theorem bA:lC "len"=aa (.builtin "len"):=by decide
theorem b_:lC "tuple"=aa (.type "tuple"):=by decide
theorem nk:lC "list"=aa (.type "list"):=by decide
theorem sR:lC "int"=aa (.type "int"):=by decide
theorem pD:lC "str"=aa (.type "str"):=by decide
theorem sS:lC "bool"=aa (.type "bool"):=by decide
theorem A1:lC "set"=aa (.type "set"):=by decide
theorem Es:lC "min"=aa (.builtin "min"):=by decide
theorem pE:lC "all"=aa (.builtin "all"):=by decide
theorem lR:lC "sorted"=aa (.builtin "sorted"):=by decide
theorem A2:lC "range"=aa (.type "range"):=by decide
end L2
namespace L2
open PySem
section
variable {prog:ew}{w:hB}{K:Type} [s8 K]
abbrev vd (knd:YS prog w K):K->Int×ay->Prop:=λk e=>knd.is k e.2=a6/\e.1=knd.hash k/\e.2.scannable=a6
def JL (xs:h8 Nat):Prop:=xs.toList.Pairwise (· < ·)
theorem JL.lt {xs:h8 Nat}(h:JL xs){i j:Nat}(a:i<j)(b:j<xs.size):xs[i]'(PN a b)<xs[j]:=by have:=TJ.mp h i j (by simpa using PN a b) (by simpa using b) a;simpa using this
theorem pB (xs:h8 Nat)(j:Nat):∀ (fuel lo hi:Nat),hi-lo<=fuel->lo<=hi->hi<=xs.size->JL xs->(∀ i (h:i<xs.size),i<lo->xs[i]<j)->(∀ i (h:i<xs.size),hi<=i->j<=xs[i]) ->
  OB xs j fuel lo hi<=xs.size/\(∀ i (h:i<xs.size),i<OB xs j fuel lo hi->xs[i]<j)/\(∀ i (h:i<xs.size),OB xs j fuel lo hi<=i->j<=xs[i])
 | 0,lo,hi,k,l,b,_,a,c=>by
  have e:lo=hi:=#[2]
  subst e;unfold OB;exact⟨b,a,c⟩
 |fuel+1,lo,hi,k,l,b,hr,a,c=>by
  unfold OB;by_cases h:lo<hi
  ·rw[dw h];have d:(lo+hi) / 2<xs.size:=#[2]
   have g:xs.getD ((lo+hi) / 2) j=xs[(lo+hi) / 2]:=by simp[Array.getD,d]
   simp only[g];by_cases hc:xs[(lo+hi) / 2]<j
   ·rw[dw hc];refine pB xs j fuel _ hi #[0] #[0] b hr (λi f m=>?_) c;rcases Mi i ((lo+hi) / 2) with q |q
    ·exact PN (hr.lt q d) hc
    have e:i=(lo+hi) / 2:=#[2]
    subst e;exact hc
   rw[ee hc];refine pB xs j fuel lo _ #[0] #[0] #[0] hr a λi f n=>?_;rcases Mi ((lo+hi) / 2) i with q |q
   ·have:=hr.lt q f;omega
   have e:i=(lo+hi) / 2:=#[2]
   subst e;omega
  rw[ee h];have e:lo=hi:=#[2]
  subst e;exact⟨b,a,c⟩
theorem ke {xs:h8 Nat}(hr:JL xs)(j:Nat):f3 xs j<=xs.size/\(∀ i (h:i<xs.size),i<f3 xs j->xs[i]<j)/\(∀ i (h:i<xs.size),f3 xs j<=i->j<=xs[i]):=by unfold f3;exact pB xs j xs.size 0 xs.size #[0] #[0] (eG _) hr (λi _ h=>hK h #[0]) λi h q=>hK h #[0]
theorem pA {xs:h8 Nat}(hr:JL xs){j p:Nat}(f:p<=xs.size)(e:∀ i (h:i<xs.size),i<p->xs[i]<j)(d:∀ i (h:i<xs.size),p<=i->j<=xs[i]):f3 xs j=p:=by
 obtain⟨a,b,c⟩:=ke hr j;rcases Q9 (f3 xs j) p with q |q |q
 ·have x:=c _ #[0] (eG _);have y:=e (f3 xs j) #[0] q;omega
 ·exact q
 have x:=b p #[0] q;have y:=d p #[0] (eG _);omega
theorem jW {t:lb}{ha:Nat->Int}{h:Int}:∀ (fuel:Nat) (p:ot) {j:Nat}{a:ax Nat},(∀ d,p.dummy=aa d->t.slot d = .dummy)->zq t ha h fuel p=aa (.empty j a)->t.slot j = .empty/\∀ d,a=aa d->t.slot d = .dummy
 | 0,p,j,a,_,e=>by unfold zq at e;cases e
 |fuel+1,p,j,a,hd,e=>by
  have c:∀ q:ot,(t.advance q).dummy=q.dummy:=λq=>by unfold SetTable.advance;split<;>rfl
  unfold zq at e;rw[0]
  ·rename_i b;cases e;exact⟨b,hd⟩
  ·rename_i b;exact jW fuel _ (by rw[c];intro d q;cases q;exact b) e
  rw[0]
  ·cases e
  exact jW fuel _ (by rw[c];exact hd) e
theorem yX {t:lb}{h:Int}{j:Nat}{c:e8}(e:t.freeSlot h=aa (j,c)):∀ i,t.slot j≠.live i:=by
 unfold SetTable.freeSlot at e;rw[0]
 ·rename_i k b q;obtain⟨f,a⟩:=jW _ _ (by intro d z;cases z) q;cases e;intro i;cases b with
  |none=>rw[show (av:ax Nat).getD k=k from rfl,f];intro z;cases z
  |some d=>rw[show (aa d).getD k=d from rfl,a d rfl];intro z;cases z
 cases e
theorem JL.put {t:lb}(hr:JL t.place){j:Nat}(r:∀ i,t.slot j≠.live i):JL (t.put j).1.place:=by
 obtain⟨a,b,c⟩:=ke hr j;have l:t.place[f3 t.place j]?≠aa j:=λe=>r (f3 t.place j) (by unfold Yq;simp[e]);unfold SetTable.put JL ra;simp only[Yl,XF,XH];have u:(t.place.toList.drop 0).take (f3 t.place j-0)=t.place.toList.take (f3 t.place j):=by simp
 have key:∀ i,f3 t.place j<=i->∀ h:i<t.place.size,j<t.place[i]:=by
  intro i d h;have f:=c i h d;rcases Mi j t.place[i] with q |q
  ·exact q
  exfalso;have hb:f3 t.place j<t.place.size:=#[2]
  have s:=c _ hb (eG _);rcases Mi (f3 t.place j) i with z |z
  ·have:=hr.lt z h;omega
  have e:f3 t.place j=i:=#[2]
  refine l ?_;rw[hY hb];congr 1;have:t.place[f3 t.place j]=t.place[i]:=by simp only[e]
  omega
 have o:(t.place.toList.drop (f3 t.place j)).take (t.place.size-f3 t.place j)=t.place.toList.drop (f3 t.place j):=OC #[3];simp only[TK,drop_zero,sub_zero] at *
 rw[o];rw[gv,List.pairwise_append,List.singleton_append,Q8];refine⟨hr.sublist (YX ..),⟨λy hy=>?_,hr.sublist (List.drop_sublist ..)⟩,λx n y hy=>?_⟩
 ·obtain⟨i,d,e⟩:=P5 hy;rw[Y3] at e;have:=key (f3 t.place j+i) #[0] (by simp at d;omega);rw[XI] at e;omega
 obtain⟨i,d,e⟩:=P5 n;rw[List.getElem_take,XI] at e;have g:i<f3 t.place j:=by simp at d;omega
 have f:=b i #[0] g;rcases gi.mp hy with rfl |hy
 ·omega
 obtain⟨k,m,p⟩:=P5 hy;rw[Y3,XI] at p;have:=key (f3 t.place j+k) #[0] (by simp at m;omega);omega
theorem JL.range (n:Nat):JL (Array.range n):=by unfold JL;rw[Array.toList_range];exact P7
theorem JL.orStandIn {t:lb}(n:Nat)(h:JL t.place):JL (t.orStandIn n).place:=by
 unfold YM;split
 ·exact h
 exact JL.range n
theorem wm {t:lb}(es:h8 (Int×ay))(h:Int)(x:ay)(hr:JL t.place):JL (ZY t es h x).2.1.place:=by
 unfold ZY;split
 ·rename_i slot a e;exact JL.orStandIn _ (hr.put (yX e))
 exact JL.range _
theorem vQ {t t':lb}{e:h8 Int}{n:Nat}{order:h8 Nat}(h:t.relaid e n=aa (t',order)):JL t'.place:=by
 unfold WK O7 at h;cases hc:Mm (S4 n-1) e with
 |none=>simp[hc] at h
 |some o =>
  simp only[hc,P8,p0,XM,Ox,UW] at h;obtain⟨rfl,_⟩:=h;unfold JL;simp only[Rz,Wn];rw[Vy];refine P7.imp λ{a b} f c hc d hd=>?_;obtain⟨u,_,rfl⟩:=dv.mp hc;obtain⟨v,_,rfl⟩:=dv.mp hd;exact f
theorem rZ {t:lb}(es:h8 (Int×ay))(n:Nat):JL (Rk t es n).2.1.place:=by
 unfold Rk;split
 ·rename_i a order e;dsimp only;split
  ·exact vQ e
  exact JL.range _
 exact JL.range _
def Iw (knd:YS prog w K)(pk:K->e8)(led:e8)(h:j0)(a:b0)(b:ae K):Prop:=
 ∃ o es ep t,h.get? a=aa o/\o.ExactSet/\o.data = .set es ep t/\(∃ l:ae (Int×ay),l.Perm es.toList/\i4 (vd knd) b l) /\
  es.size<QV/\t.fits es.size=a6/\t.led=led/\(t.plain=a6->∀ k∈b,pk k=a6)/\JL t.place
theorem jX {α c:Type}{F : α->c->Prop}{l:ae α}{m:ae c}(r:i4 F l m):∀ b∈m,∃ a∈l,F a b:=by
 induction r with
 |nil=>intro b hb;cases hb
 |cons f t e =>
  intro b hb;rcases gi.mp hb with rfl |hb
  ·exact⟨_,e7 ..,f⟩
  obtain⟨a,g,d⟩:=e b hb;exact⟨a,d7 _ g,d⟩
theorem mC {α c:Type}{F : α->c->Prop}{l:ae α}{m:ae c}(r:i4 F l m):∀ a∈l,∃ b∈m,F a b:=by
 induction r with
 |nil=>intro b hb;cases hb
 |cons f t e =>
  intro b hb;rcases gi.mp hb with rfl |hb
  ·exact⟨_,e7 ..,f⟩
  obtain⟨a,g,d⟩:=e b hb;exact⟨a,d7 _ g,d⟩
theorem mB {α c:Type}{F : α->c->Prop}{l:ae α}{m:ae c}(r:i4 F l m){a : α}{b : c}(f:F a b):i4 F (l++[a]) (m++[b]):=by
 induction r with
 |nil=>exact .cons f .nil
 |cons g t d=>exact .cons g d
theorem gq {α a:Type}{F : α->a->Prop}{l:ae α}{m:ae a}(r:i4 F l m):l.length=m.length:=by
 induction r with
 |nil=>rfl
 |cons g t b=>simp[b]
variable {knd:YS prog w K}{pk:K->e8}{led:e8}
theorem pR (t:lb)(n:Nat):(t.orStandIn n).led=t.led/\((t.orStandIn n).plain=a6->t.plain=a6):=by
 unfold YM;split
 ·exact⟨rfl,id⟩
 exact⟨rfl,λz=>by simp[QW] at z⟩
theorem wn (t:lb)(es:h8 (Int×ay))(h:Int)(x:ay):(ZY t es h x).2.1.led=t.led/\((ZY t es h x).2.1.plain=a6->t.plain=a6):=by
 unfold ZY;split
 ·rename_i slot a _;exact pR (t.put slot).1 _
 exact⟨rfl,λz=>by simp[QW] at z⟩
theorem vR {t t':lb}{a:h8 Int}{n:Nat}{order:h8 Nat}(h:t.relaid a n=aa (t',order)):t'.led=t.led/\t'.plain=t.plain:=by
 unfold WK O7 at h;cases hc:Mm (S4 n-1) a with
 |none=>simp[hc] at h
 |some o =>
  simp only[hc,P8,p0,XM,Ox,UW] at h;obtain⟨rfl,_⟩:=h;exact⟨rfl,rfl⟩
theorem r6 (t:lb)(es:h8 (Int×ay))(n:Nat):(Rk t es n).2.1.led=t.led/\((Rk t es n).2.1.plain=a6->t.plain=a6):=by
 unfold Rk;split
 ·rename_i c order e;obtain⟨b,a⟩:=vR e;dsimp only;split
  ·exact⟨b,λz=>by rw[← a];exact z⟩
  exact⟨rfl,λz=>by simp[QW] at z⟩
 exact⟨rfl,λz=>by simp[QW] at z⟩
theorem Iw.elems {h:j0}{a:b0}{b:ae K}{es:h8 (Int×ay)}(g:∃ l:ae (Int×ay),l.Perm es.toList/\i4 (vd knd) b l):ElemsOf knd es.toList:=λe c=>by obtain⟨l,p,r⟩:=g;obtain⟨k,_,i,f,d⟩:=jX r e (p.mem_iff.mpr c);exact⟨⟨k,i,f⟩,d⟩
theorem Iw.mem {c:ae K}{es:h8 (Int×ay)}(h:∃ l:ae (Int×ay),l.Perm es.toList/\i4 (vd knd) c l)(k:K):k∈c↔∃ e∈es.toList,knd.is k e.2=a6:=by
 obtain⟨l,p,r⟩:=h;constructor
 ·intro f;obtain⟨e,a,b,_⟩:=mC r k f;exact⟨e,p.mem_iff.mp a,b⟩
 rintro⟨e,a,b⟩;obtain⟨d,i,g,_⟩:=jX r e (p.mem_iff.mpr a);rw[knd.inj e.2 k d b g];exact i
noncomputable def br (a:ae K)(k:K):ae K:=if k∈a then a else a++[k]
variable {A:hG}{E:Hq}{s:cc}
theorem Iw.stored {h:j0}{a:b0}{o:VJ}{es:h8 (Int×ay)}{ep:Nat}{t:lb}(e:h.get? a=aa o)(hex:o.ExactSet)(hd:o.data = .set es ep t){b:h8 (Int×ay)}{t':lb}{c:ae K}
  (j:∃ l:ae (Int×ay),l.Perm b.toList/\i4 (vd knd) c l) (hb:b.size<QV) (i:t'.fits b.size=a6) (f:t'.led=led) (d:t'.plain=a6->∀ k∈c,pk k=a6) (hr:JL t'.place) :
  (h.update a (MW b t')).get? a=aa { o with data:=.set b (ep+1) t' }/\Iw knd pk led (h.update a (MW b t')) a c:=by
 have g:(h.update a (MW b t')).get? a=aa { o with data:=.set b (ep+1) t' }:=by have q:=wx (MW b t') e (by rw[Vz b t' hd];rfl);rw[Vz b t' hd] at q;exact q
 exact⟨g,_,b,ep+1,t',g,hex,rfl,j,hb,i,f,d,hr⟩
theorem oU (b:e8){a:cc}{c:Unit->cc->Prop}(d:c () a):d6 #[8] A (match b with |a6=>rule "set.scan.the-table-gave-way" |bo=>u1 ()) c E a:=by
 cases b
 ·exact a5 d
 exact VM d
theorem xa {g:e8->ZI Unit}(I:∀ (b:e8) (d:cc) (u:Unit->cc->Prop),u () d->d6 #[8] A (g b) u E d)
  {a:b0}{o:VJ}{es:h8 (Int×ay)}{ep:Nat}{t:lb}(v:s.heap.get? a=aa o) (hex:o.ExactSet) (hd:o.data = .set es ep t)
  {c:h8 (Int×ay)}{t2:lb}{m:ae K}(D:∃ l:ae (Int×ay),l.Perm c.toList/\i4 (vd knd) m l)
  (hb:c.size<QV) (J:t2.fits c.size=a6) (C:t2.led=led) (n:t2.plain=a6->∀ k∈m,pk k=a6) (hr:JL t2.place) {H:e8}{R:ax e8->cc->Prop}
  (h:∀ h',Me a s.heap h'->Iw knd pk led h' a m->R (aa a6) { s with heap:=h' }) :
  d6 #[8] A (do
    storeSet a c t2
    if (!H&&t2.tooFull)=a6 then do
      g (Rk t2 c (ov c.size)).2.2
      storeSet a (Rk t2 c (ov c.size)).1 (Rk t2 c (ov c.size)).2.1
      u1 (aa a6)
     else u1 (aa a6)) R E s:=by
 obtain⟨x,G⟩:=Iw.stored (knd:=knd) (pk:=pk) v hex hd D hb J C n hr;refine ak (P9 v hd ?_ (fits_of_scanBound hb));have sb:=H7 s.heap a (MW c t2);split
 ·have e:=relayAll_perm t2 c (ov c.size);have j:=relayAll_fits t2 c (ov c.size);have f:=r6 t2 c (ov c.size);have i:=rZ (t:=t2) c (ov c.size);revert e j f i;generalize Rk t2 c (ov c.size)=Y;intro e j f i;obtain⟨q,t3,L⟩:=Y;simp only at e j f i ⊢;have z:q.size=c.size:=by have:=e.length_eq;simpa using this
  obtain⟨l,p,r⟩:=D;have B:q.size<QV:=by rw[z];exact hb
  obtain⟨_,F⟩:=Iw.stored (knd:=knd) (pk:=pk) (led:=led) x hex rfl ⟨l,p.trans e.symm,r⟩ B j (f.1.trans C) (λy=>n (f.2 y)) i;exact ak (I _ _ _ (ak (P9 x rfl (a5 (h _ (sb.trans (H7 _ a _)) F)) (fits_of_scanBound B))))
 exact a5 (h _ sb G)
theorem Bo {a:b0}{c:ae K}{k:K}{x:ay}{Q:e8->cc->Prop}(Wt:plainKind x=pk k)(I:knd.is k x=a6)(C:x.scannable=a6)(hS:Iw knd pk led s.heap a c)(Q_:c.length+1<QV)
  (h:∀ b h',Me a s.heap h'->Iw knd pk led h' a (br c k)->Q b { s with heap:=h' }):d6 #[8] A (Wq a x (knd.hash k)) Q E s:=by
 obtain⟨o,es,ep,t,n,hex,hd,f,hb,D,y,v,G⟩:=hS;have N:=Iw.elems (h:=s.heap) (a:=a) f;have hn:es.size=c.length:=by obtain⟨l,p,r⟩:=f;have Z:=p.length_eq;have e2:=gq r;simp only[hH] at Z;omega
 unfold Wq setAddHashedIn;refine rp (ak (pw n hd D ?_));simp only;rw[byScan_of C hb N,dw rfl];unfold setAddByScan;refine ak (ak (VM (ak (wpAny_setScan_of I n hd D N ?_))));cases hr:List.findIdx? (λe=>knd.is k e.2) es.toList with
 |some j =>
  obtain⟨hj,Wu,_⟩:=List.findIdx?_eq_some_iff_getElem.mp hr;have H:k∈c:=(Iw.mem f k).mpr ⟨es.toList[j],NX hj,Wu⟩;refine a5 (a5 ?_);exact h _ s.heap (Y4 a s.heap) ⟨o,es,ep,t,n,hex,hd,by unfold br;rw[dw H];exact f,hb,D,y,by unfold br;rw[dw H];exact v,G⟩
 |none =>
  have TB:k∉c:=λT=>by obtain⟨e,R,v⟩:=(Iw.mem f k).mp T;have q:=List.findIdx?_eq_none_iff.mp hr e R;rw[v] at q;cases q
  have X:br c k=c++[k]:=by unfold br;rw[ee TB]
  rw[X] at h;have g:=layNew_perm t es (knd.hash k) x;have i:=layNew_fits t es (knd.hash k) x;have d:=wn t es (knd.hash k) x;have u:=wm es (knd.hash k) x G;dsimp only;revert g i d u;generalize ZY t es (knd.hash k) x=Y;intro g i d u;obtain⟨L,t1,wd,V⟩:=Y;simp only at g i d u ⊢;rw[XF] at g;have M:∃ l:ae (Int×ay),l.Perm L.toList/\i4 (vd knd) (c++[k]) l:=by obtain⟨l,p,r⟩:=f;exact⟨l++[(knd.hash k,x)],(p.append_right _).trans g.symm,mB r ⟨I,rfl,C⟩⟩
  have O:L.size<QV:=by have:=g.length_eq;simp only[hH,cq,OV] at this;omega
  refine ak (oU V ?_);split
  ·rename_i J;refine ak ?_;rw[hashByValue_scannable 8 C];refine a5 ?_;refine xa (pk:=pk) (led:=led) (λb m P B=>oU b B) n hex hd M O ?_ ?_ ?_ ?_ λh' sb F=>?_
   ·split
    ·exact i
    exact SetTable.fits_plain_off i
   ·split
    ·exact d.1.trans y
    exact d.1.trans y
   ·split
    ·rename_i W;intro U S Lo;rcases il.mp Lo with Lo |Lo
     ·exact v (d.2 U) S Lo
     rw[eR.mp Lo,← Wt];exact W
    intro z;cases z
   ·split<;>exact u
   exact a5 (h _ h' sb F)
  rename_i J;refine ak (a5 ?_);rw[dw rfl];refine xa (pk:=pk) (led:=led) (λb m P B=>oU b B) n hex hd M O i (d.1.trans y) (λz=>hK z J) u λh' sb F=>?_;exact a5 (h _ h' sb F)
end
namespace SF
theorem J5:ZZ table "set.update.loop"=aa Builtin.«set.update.loop»:=entryFor_of_tree (by kernel_rfl)
theorem JM:plainId "set.update.loop"=a6:=by decide
theorem OU (a:ay):checkTypeCall "set" ⟨[a],[]⟩=u1 ():=by kernel_rfl
theorem Ra (a:ay):Q3 "set.__new__" ⟨[.type "set",a],[]⟩=u1 ():=by kernel_rfl
theorem NJ:ZZ table "set.__iter__"=aa Builtin.«frozenset.__iter__»:=entryFor_alias (id':="frozenset.__iter__") (by kernel_rfl) rfl #[1] (by kernel_rfl)
theorem slot_next:Slot "set_iterator" "__next__" "set_iterator.__next__":=
 .of (owner:="set_iterator") (n:="__next__") (by rw[typeLookup_type,W7];kernel_rfl) #[1] #[1] #[1]
  (by first |exact .inl #[1] |exact .inr #[1]) (by rw[isSubtype_type];kernel_rfl)
theorem slot_self:Slot "set_iterator" "__iter__" "set_iterator.__iter__":=
 .of (owner:="set_iterator") (n:="__iter__") (by rw[typeLookup_type,W7];kernel_rfl) #[1] #[1] #[1]
  (by first |exact .inl #[1] |exact .inr #[1]) (by rw[isSubtype_type];kernel_rfl)
theorem L1:ZZ table "set_iterator.__next__"=aa Builtin.«set_iterator.__next__»:=entryFor_of_tree (by kernel_rfl)
theorem NK:Manifest.owners.lookup (String.ofList ['r','o','t','a','r','e','t','i','_','t','e','s'].reverse)=aa Manifest.sig_set_iterator:=by kernel_rfl
theorem args_next (a:ay):argsOk "set_iterator.__next__" ⟨[a],[]⟩:=by unfold argsOk;rw[signature?_of (id:="set_iterator.__next__") (n:=['_','_','t','x','e','n','_','_']) (o:=['r','o','t','a','r','e','t','i','_','t','e','s']) (by kernel_rfl) NK];kernel_rfl
end SF
section
variable {prog:ew}{w:hB}{K:Type} [s8 K] {knd:YS prog w K}{pk:K->e8}{led:e8}
noncomputable def met (val:Nat->K)(i:Nat):ae K:=((ei i).map val).foldl br []
theorem oF (val:Nat->K)(i:Nat):met val (i+1)=br (met val i) (val i):=by unfold met;rw[Z0,r4,List.foldl_append];rfl
theorem sf (val:Nat->K):∀ i,(met val i).length<=i
 | 0=>eG _
 |i+1=>by
  have a:=sf val i;rw[oF];unfold br;split
  ·omega
  rw[cq,OV];omega
section
variable {A:hG}{R:YB->cc->Prop}{I:b0}{fp wr:ae b0}{G:h8 Xc->h8 Xc->Prop}{n:Nat}{P:Nat->ay->Prop}{St:Nat->cc->Prop}
theorem Iw.keep {h h':j0}{a:b0}{b:ae K}(x:Iw knd pk led h a b)(e:∀ o,h.get? a=aa o->h'.get? a=aa o):Iw knd pk led h' a b:=by obtain⟨o,es,ep,t,c,r⟩:=x;exact⟨o,es,ep,t,e o c,r⟩
theorem zu (W:WalksS prog w A.in1 I fp wr G n P St)(S:b0)(l:S∉fp)(val:Nat->K)(B:∀ i v,P i v->knd.is (val i) v=a6/\v.scannable=a6/\plainKind v=pk (val i))(hb:n+1<QV) :
  ∀ (k i:Nat) (s:cc),n-i=k->i<=n->St i s->Iw knd pk led s.heap S (met val i) ->
   (∀ s',Moved (S::wr) G s s'->Iw knd pk led s'.heap S (met val n)->R (.ok (.ret .none)) s') ->
   PM #[8] A (.builtin "set.update.loop" ⟨[.ref S,.ref I],[]⟩) R s:=by
 have g:S∉wr:=λh=>l (W.sub _ h);intro k
 induction k with
 |zero =>
  intro i s y t st d c;obtain rfl:i=n:=#[2]
  refine Pq SF.J5 ?_;rw[Ms SF.JM _];show d6 _ A.in1 (VP (.ref I) >>= _) _ _ s;refine ak (W.done s _ _ st λs' a=>?_);show d6 _ A.in1 (ret Jy) _ _ s';exact a5 (c s' (a.mono λb hb=>d7 _ hb) (d.keep λo e=>a.heap S o g e))
 |succ k q =>
  intro i s y t st d c;have j:i<n:=#[2]
  refine Pq SF.J5 ?_;rw[Ms SF.JM _];show d6 _ A.in1 (VP (.ref I) >>= _) _ _ s;refine ak (W.item i s _ _ j st λv s' D E a=>?_);obtain⟨m,x,C⟩:=B i v D;show d6 _ A.in1 (X4 [v] (setAdd S v) >>= _) _ _ s';refine ak (rp ?_);unfold setAdd;refine rp (ak (knd.pyHash m ?_));have hr:(met val i).length+1<QV:=by have:=sf val i;omega
  refine Bo (pk:=pk) (led:=led) (s:={ s' with toks:=s'.toks+1 }) C m x (d.keep λo e=>a.heap S o g e) hr λb H sb f=>?_;rw[← oF] at f;refine a5 ⟨Yr SF.JM _,q (i+1) _ #[0] j (W.frame _ s' _ _ E (T9 _) λb hb o e=>?_) f λr F p=>?_⟩
  ·rw[sb.2 b (λz=>l (z▸hb))];exact e
  refine c r (Moved.trans W.gtrans ((a.mono λb hb=>d7 _ hb).then_heap (T9 _) λb o u e=>?_) F) p;rw[sb.2 b (λz=>u (z▸e7))];exact e
end
section
variable {A:hG}{E:Hq}{s:cc}
noncomputable def KP (w:hB):e8:=w.params.followText "set-order"
abbrev fM (w:hB):VJ:={ cls:=.type "set",dict:=av,data:=.set #[] 0 (.fresh 0 0 (!KP w)) }
theorem tK (a:ay){Q₁:Hq}(h:Q₁ (#[11]) { s with heap:=s.heap.push (fM w) }) :
  PM #[8] A (.call (.builtin "set.__new__") ⟨[.type "set",a],[]⟩) (wants Q₁ E) s:=by
 refine codeAny_of_tree ?_;show d6 _ A.in1 (do Q3 "set.__new__" ⟨[.type "set",a],[]⟩;again (.builtin "set.__new__" ⟨[.type "set",a],[]⟩)) _ _ s;refine ak (Zq (SF.Ra a) (a5 ⟨Yr F.plain_set_new _,Pq F.entry_set_new ?_⟩));rw[Ms F.plain_set_new _];unfold Builtin.«set.__new__» Z1;have q:=sub_set_self;obtain⟨b,g,d,tk,os⟩:=s;dsimp only
 wp_walk
 refine VB (a5 ?_);simp only[newObj];exact ak (wpAny_alloc (a5 (a5 h)))
theorem qk {M:Model}{self a:ay}{Q:Unit->cc->Prop}(b:s.TypeIs self "set")(e:Q () s):d6 M A (Q3 "set.__init__" ⟨[self,a],[]⟩) Q E s:=by
 simp only[Q3,kind_set_init,split_set_init,sig_set_init];refine ak (Vk b sub_set_self ?_);simp only[MH,h5,mz];unfold Bind.checkArgs;dsimp only;refine ak (m:=Bind.printed "set" a6 _ _) (PyProof.Rows.printed_name #[1] ?_);refine ak (m:=Bind.printed "*" bo _ _) (PyProof.Rows.printed_star (self:=self) rfl b λshort=>?_);have h:(Ws==Wv)=bo:=#[4]
 have f:(if (Ws==Wv)=a6 then [self,a].length else [self,a].length-1)=1:=by simp[h]
 rw[f];simp only[RE];have c:(KR==KR)=a6:=#[4]
 have i:(KR==Z2)=bo:=#[4]
 have g:(KR==Z9)=bo:=#[4]
 have d:Bind.check ⟨.positional,"set","*",.self,[⟨"iterable",.posOnly,bo⟩]⟩ "set" short 1 []=u1 ():=by simp[Bind.check,Bind.checkCount,Bind.isPositional,c,i,g]
 rw[d];exact a5 e
theorem Iw.start {h:j0}{a:b0}(e:h.get? a=aa (fM w)):Iw knd pk (!KP w) h a []:=
 ⟨fM w,#[],0,.fresh 0 0 (!KP w),e,⟨rfl,rfl,rfl⟩,rfl,⟨[],.refl _,.nil⟩,#[4],by rfl,rfl,(λ_ k b=>by cases b),PQ⟩
set_option maxHeartbeats 3200000 in
theorem sM {l:Addr}{items:Array Value}{Q:Hq}(P:A.handled=none)(z:s.heap.IsTuple l items)(val:Nat->K)(J:∀ (i:Nat) v,items[i]?=some v->knd.is (val i) v=true/\v.scannable=true/\plainKind v=pk (val i))
  (hb:items.size+1<scanBound)
  (h:∀ (h':Heap) (tk:Nat),Iw knd pk (!KP w) h' s.heap.objs.size (met val items.size)->(∀ b o,b<s.heap.objs.size->s.heap.get? b=some o->h'.get? b=some o)->Q (.ref s.heap.objs.size) { s with heap:=h',toks:=tk }) :
  wpAny (model prog w) A (call (.type "set") [.ref l]) Q E s:=by
 obtain⟨c,Z,X⟩:=F.called_set.mro;have c1:=F.called_set.made;have c2:=F.called_set.sub;refine wpAny_call (codeAny_of_tree ?_);show wpAny _ _ (callAny (.type "set") _) _ _ _;refine wpAny_pure ⟨Code.quiet_builtin _ (by decide),codeAny_builtin F.entry_type_call ?_⟩;rw[Around.under_plain (weight_type_call_type "set" [.ref l] []) rfl];have W:=F.called_set.notType;have c4:=F.called_set.canCreate;have c5:=SF.OU (.ref l)
 repeat (any_goals (first |assumption |wp_step))
 refine codeAny_mono (tK (.ref l) (E:=E) (Q₁:=λobj d=>obj = .ref s.heap.objs.size/\d={ s with heap:=s.heap.push (fM w) }) ⟨rfl,rfl⟩) λr d hr=>?_;cases r with
 |error e=>exact hr
 |ok C =>
  cases C with
  |ret obj =>
   obtain⟨rfl,rfl⟩:=hr;have p:(s.heap.push (fM w)).get? s.heap.objs.size=some (fM w):=Heap.get?_push_size _ rfl;have T:Shared.TypeIs { s with heap:=s.heap.push (fM w) } (.ref s.heap.objs.size) "set":=⟨_,p,rfl⟩;have Y:=F.called_set.init.lookup;have i2:=F.called_set.init.bind (.ref s.heap.objs.size)
   repeat (any_goals (first |assumption |wp_step))
   refine codeAny_mono (codeAny_call_builtin (R:=wants (λr a=>r = .none/\∃ h' tk,a={ s with heap:=h',toks:=tk }/\Iw knd pk (!KP w) h' s.heap.objs.size (met val items.size) /\
     (∀ b o,b<s.heap.objs.size->s.heap.get? b=some o->h'.get? b=some o)) E) F.called_set.init.plain F.entry_set_init (qk T ?_)) λf a g=>?_
   ·obtain⟨⟨TF,V,Rg,PH⟩,n,k,q,t⟩:=id z;simp only at k t;subst k t;have m:=Heap.get?_push_of_some (fM w) n;have t1:=F.sub_tuple_set;have t2:=F.sub_tuple_frozenset;have t3:(Value.type "tuple"==Value.type "dict")=false:=by decide
    have S:(s.heap.push (fM w)).IsTuple l items:=⟨_,m,rfl,q,rfl⟩;unfold Builtin.«set.__init__» noKeywords Builtin.Frozenset.updateFrom;generalize D:pyIter=PI
    wp_walk
    subst D;refine wpAny_pyIter_tuple S ?_;refine wpAny_bind (wpAny_runValue ?_);have u:l<s.heap.objs.size:=Heap.lt_size n;have z1:(s.heap.push (fM w)).objs.size=s.heap.objs.size+1:=Heap.size_push ..;have H:l≠(s.heap.push (fM w)).objs.size:=by rw[z1];exact ne_of_lt (lt_succ_of_lt u)
    have G:s.heap.objs.size∉[(s.heap.push (fM w)).objs.size,l]:=by
     rw[z1];intro hm;rcases mem_cons.mp hm with e |hm
     ·exact ne_of_lt (lt_succ_self _) e
     exact ne_of_gt u (mem_singleton.mp hm)
    refine zu (pk:=pk) (led:=!KP w) ((Walks.tuple (by simp[P]) _ l H items).toS) s.heap.objs.size G val J hb (items.size-0) 0 _ (by omega) (zero_le _)
     ⟨⟨_,Heap.get?_push_size _ rfl,rfl,rfl⟩,⟨_,Heap.get?_push_of_some _ m,rfl,q,rfl⟩⟩ (Iw.start (Heap.get?_push_of_some _ p)) λM hm j=>?_
    obtain⟨h',I,U,B,QE⟩:=M;have O:I=s.gens:=hm.gens;have y:U=s.drawn:=hm.drawn;have x:QE=s.os:=hm.os;subst O y x;show wpAny _ _ _ _ _ _;refine wpAny_pure ?_;show wpAny _ _ (ret Value.none) _ _ _;refine wpAny_pure ⟨rfl,h',B,rfl,j,λb o hb e=>hm.heap b o ?_ (Heap.get?_push_of_some _ (Heap.get?_push_of_some _ e))⟩;intro hm;rcases mem_cons.mp hm with e |hm
    ·exact ne_of_lt hb e
    rw[z1] at hm;exact ne_of_lt (lt_succ_of_lt hb) (mem_singleton.mp hm)
   cases f with
   |error e=>exact g
   |ok L =>
    cases L with
    |ret r =>
     obtain⟨rfl,h',tk,rfl,j,N⟩:=g
     repeat (any_goals (first |assumption |wp_step))
     exact h _ _ j N
    |_=>exact g.elim
  |_=>exact hr.elim
end
end
end L2
namespace L2
open PySem
section
variable {prog:ew}{w:hB}{A:hG}{E:Hq}{s:cc}
theorem wp_choose {a:Source}{n:Nat}{Q:Nat->cc->Prop}(b:n≠0)(h:∀ i,i<n->Q i { s with drawn:=s.drawn.bump a }):d6 #[8] A (choose a n) Q E s:=
 λ_ _ _=>⟨b,h _ (U1 _ (Nat.pos_of_ne_zero b))⟩
theorem j6 {α:Type}:∀ {xs:ae α}{i:Nat}{x : α},xs[i]?=aa x->(x::xs.eraseIdx i).Perm xs
 |[],_,_,h=>by simp at h
 |y::ys,0,x,h=>by simp at h;subst h;exact .refl _
 |y::ys,i+1,x,h=>by
  rw[N1] at h;rw[List.eraseIdx_cons_succ];exact(Z3 y x _).trans ((j6 h).cons y)
theorem km {α:Type}:∀ (n:Nat) (xs:ae α) {s:cc}{Q:ae α->cc->Prop},xs.length=n->(∀ b d,b.Perm xs->Q b { s with drawn:=d })->d6 #[8] A (drawOrder n xs) Q E s
 | 0,xs,s,Q,a,h=>by
  obtain rfl:=r3.mp a;unfold drawOrder;exact a5 (h [] s.drawn (.refl _))
 |n+1,[],s,Q,a,h=>by simp at a
 |n+1,x::r,s,Q,a,h=>by
  unfold drawOrder;refine ak (wp_choose #[3] λi c=>?_);have e:=a4 c;rw[e];dsimp only;refine ak (km n _ (by rw[Ta c,a];omega) λb d p=>?_);exact a5 (h _ d ((p.cons _).trans (j6 e)))
theorem qA {α:Type}(next:Nat->Nat):∀ (m k:Nat) (left:ae α) (out:h8 α),left.length=m->(Y5 next m k left out).toList.Perm (out.toList++left)
 | 0,k,left,out,a=>by
  obtain rfl:=r3.mp a;unfold Y5;rw[eM]
 |m+1,k,left,out,a=>by
  have b:next k % left.length<left.length:=U1 _ #[0]
  have e:=a4 b;unfold Y5;rw[e];dsimp only;refine(qA next m (k+1) _ _ (by rw[Ta b,a];omega)).trans ?_;rw[XF,gv];exact(j6 e).append_left _
def IK (h:j0)(it a:b0)(first:ay)(i n ep:Nat):Prop:=∃ o,h.get? it=aa o/\o.cls = .type "set_iterator"/\o.data = .fields #[first,.int i 0,.ref a,.int n 0,.int ep 0]
inductive Way (w:hB) (a it:b0) (es:h8 (Int×ay)) (ep:Nat) (t:lb):h8 (Int×ay)->ae b0->(Nat->ay->j0->Prop)->Prop where
 |text (hb:KP w=a6):Way w a it es ep t (pickOrder (w.params.setOrder a ep) es) [it,a] (λ_ f _ => ∃ k:Nat,f = .int k 0)
 |one (hb:KP w=bo) (hl:t.led=a6) (h1:t.plain=a6∨es.size<=1) (hr:JL t.place):Way w a it es ep t es [it,a] (λi f _ => ∃ k:Nat,f = .int k 0/\f3 t.place k=i)
 |drawn (hb:KP w=bo) (hp:t.plain=bo) (h1 : 1<es.size) (tp:b0) (order:ae Nat) (ho:order.Perm (ei es.size)):tp≠it ->
  Way w a it es ep t (order.filterMap λi=>es[i]?).toArray [it,a,tp] (λ_ f h=>f = .ref tp/\h.IsTuple tp (order.map λ(i:Nat)=>Vl i 0).toArray)
theorem yx {es:h8 (Int×ay)}{order:ae Nat}(d:order.Perm (ei es.size)):(order.filterMap λi=>es[i]?).length=order.length/\∀ i:Nat,(order.filterMap λi=>es[i]?)[i]?=(order[i]?).bind λj=>es[j]?:=by
 have c:∀ j∈order,j<es.size:=λj a=>nC.mp (d.mem_iff.mp a);clear d
 induction order with
 |nil=>exact⟨rfl,λi=>by simp⟩
 |cons j r e =>
  have a:=c j (e7 ..);obtain⟨h,g⟩:=e λk f=>c k (d7 _ f);rw[Nk (b:=es[j]) (by simp[a])];refine⟨by simp[h],λi=>?_⟩;cases i with
  |zero=>simp[a]
  |succ i=>simpa using g i
theorem Way.perm {a it:b0}{es:h8 (Int×ay)}{ep:Nat}{t:lb}{out:h8 (Int×ay)}{fp:ae b0}{F:Nat->ay->j0->Prop}(y:Way w a it es ep t out fp F):out.toList.Perm es.toList:=by
 cases y with
 |text hb=>simpa [pickOrder] using qA (w.params.setOrder a ep) es.size 0 es.toList #[] #[3]
 |one=>exact .refl _
 |drawn hb c d tp order b e =>
  have q:=b.filterMap λi=>es[i]?;rw[U2] at q;simpa using q
end
section
variable {prog:ew}{w:hB}{A:hG}{E:Hq}{s:cc}
variable {a it:b0}{o:VJ}{es:h8 (Int×ay)}{ep:Nat}{t:lb}
theorem jj {Q:e8->cc->Prop}(h:Q (KP w) s):d6 #[8] A setsByText Q E s:=by unfold setsByText;exact ak (VB (a5 h))
theorem tj {Q:e8->cc->Prop}(c:s.heap.get? a=aa o)(hd:o.data = .set es ep t)(b:t.fits es.size=a6)(h:Q (!KP w&&(!t.plain&&dr (es.size > 1))) s):d6 #[8] A (setDrawn a) Q E s:=by unfold setDrawn;refine ak (pw c hd b ?_);dsimp only;exact ak (jj (a5 h))
theorem vU {Q:Hq}(c:s.heap.get? a=aa o)(hex:o.ExactSet)(hd:o.data = .set es ep t)(j:t.fits es.size=a6)(hz:es.size<=dk)(p:KP w=bo->t.led=a6)(hr:JL t.place)
  (h:∀ it out fp F first h' d,Way w a it es ep t out fp F->IK h' it a first 0 es.size ep->F 0 first h'->(∀ b o,#[15]=aa o->h'.get? b=aa o)->s.heap.objs.size<=it->(∀ b∈fp,b=a∨s.heap.objs.size<=b) ->
   Q (.ref it) { s with heap:=h',drawn:=d }):d6 #[8] A (ZK (.ref a)) Q E s:=by
 have l:s.TypeIs (.ref a) "set":=⟨o,c,hex.1⟩;refine wpAny_pyIter_slot l F.slot_set_iter (my F.slot_set_iter l SF.NJ ?_ (F.args_set_iter_1 _));unfold Builtin.«frozenset.__iter__» aai slotArgs;simp only[List.isEmpty_nil,MH,h5,↓reduceIte,bind_assoc,QM,bne_self_eq_false];unfold aac aad;refine ak (a5 ?_)
 try dsimp only
 refine ak (a5 ?_);refine ak (ak (wpAny_setEntries_of c hd j (a5 ?_)));refine ak (tj c hd j ?_);have q:a<s.heap.objs.size:=ek c;cases hc:(!KP w&&(!t.plain&&dr (es.size > 1))) with
 |true =>
  rw[eL,eL,Wm,Wm] at hc;obtain⟨hb,k,f⟩:=hc;have f:=hM f;rw[dw rfl];refine ak (km es.size (ei es.size) #[3] λorder d m=>?_);have g:order.length=es.size:=by rw[m.length_eq,lr]
  refine ak (wpAny_newTuple ?_ (by rw[dV,g];exact hz));refine ak (wpAny_setEpoch_of (cv _ c) hd j ?_);refine ak (iv (a5 ⟨_,rfl,"set_iterator",_,⟨_,en _ rfl,rfl⟩,SF.slot_next.lookup,?_⟩))
  refine h _ _ _ _ (#[11]) _ d (Way.drawn hb k f s.heap.objs.size order m ?_) ⟨_,en _ rfl,rfl,rfl⟩ ⟨rfl,⟨_,cv _ (en _ rfl),rfl,0,?_⟩⟩
   (λb o e=>cv _ (cv _ e)) ?_ ?_
  ·rw[rl];exact md (OO _)
  ·rfl
  ·rw[rl];exact T9 _
  intro b hb;rcases gi.mp hb with e |hb
  ·rw[e,rl];exact .inr (T9 _)
  rcases gi.mp hb with e |hb
  ·exact .inl e
  rw[eR.mp hb];exact .inr (eG _)
 |false =>
  rw[ee #[1]];refine ak (a5 ?_);refine ak (wpAny_setEpoch_of c hd j ?_);refine ak (iv (a5 ⟨_,rfl,"set_iterator",_,⟨_,en _ rfl,rfl⟩,SF.slot_next.lookup,?_⟩))
  have n:∀ b∈[s.heap.objs.size,a],b=a∨s.heap.objs.size<=b:=λb hb=>by
   rcases gi.mp hb with e |hb
   ·rw[e];exact .inr (eG _)
   exact .inl (eR.mp hb)
  cases hb:KP w with
  |true=>exact h _ _ _ _ (.int 0 0) _ s.drawn (Way.text hb) ⟨_,en _ rfl,rfl,rfl⟩ ⟨0,rfl⟩ (λb o e=>cv _ e) (eG _) n
  |false =>
   have f:t.plain=a6∨es.size<=1:=by
    cases k:t.plain with
    |true=>exact .inl rfl
    |false =>
     rw[hb,k] at hc;have:=YN (show dr (es.size > 1)=bo from hc);exact .inr #[0]
   exact h _ _ _ _ (.int 0 0) _ s.drawn (Way.one hb (p hb) f hr) ⟨_,en _ rfl,rfl,rfl⟩ ⟨0,rfl,pA hr (Pl _) (λi _ z=>hK z #[0]) λi _ _=>Pl _⟩ (λb o e=>cv _ e) (eG _) n
theorem IK.ty {first:ay}{i n:Nat}(x:IK s.heap it a first i n ep):s.TypeIs (.ref it) "set_iterator":=let ⟨o,b,hc,_⟩:=x;⟨o,b,hc⟩
theorem iC {k i:Nat}{Q:ax (ay×Nat)->cc->Prop}(c:s.heap.get? a=aa o)(hd:o.data = .set es ep t)(b:t.fits es.size=a6)(hb:KP w=a6)
  (h:Q (((pickOrder (w.params.setOrder a ep) es)[i]?).map λe=>(e.2,k)) s):d6 #[8] A (setNext a k i ep) Q E s:=by
 unfold setNext;refine ak (pw c hd b ?_);dsimp only;refine ak (jj ?_);rw[hb,dw rfl,ee #[3]];refine ak ?_;unfold setWalk;refine ak (pw c hd b ?_);dsimp only;refine ak (jj ?_);rw[hb,dw rfl];exact ak (VB (a5 (a5 h)))
theorem iS {k i:Nat}{Q:ax (ay×Nat)->cc->Prop}(e:s.heap.get? a=aa o)(hd:o.data = .set es ep t)(b:t.fits es.size=a6)(hb:KP w=bo)(c:t.led=a6)(h1:t.plain=a6∨es.size<=1)
  (h:Q (match es[f3 t.place k]?,t.place[f3 t.place k]? with |aa (_,x),aa j=>aa (x,j+1) |_,_=>av) s):d6 #[8] A (setNext a k i ep) Q E s:=by
 unfold setNext;refine ak (pw e hd b ?_);dsimp only;refine ak (jj ?_);rw[hb,ee #[1]]
 have d:(!t.plain&&dr (es.size > 1))=bo:=by
  rcases h1 with h1 |h1
  ·rw[h1];rfl
  rw[cX #[0],XN]
 show d6 _ _ (if (!t.plain&&dr (es.size > 1))=a6 then _ else _) _ _ _;rw[d,ee #[1]];refine ak ?_;show d6 _ _ (if (!t.led&&!es.isEmpty)=a6 then _ else _) _ _ _;rw[c,ee #[3]];exact a5 (a5 h)
end
section
variable {prog:ew}{w:hB}{A:hG}{E:Hq}{s:cc}
variable {a it:b0}{o:VJ}{es:h8 (Int×ay)}{ep:Nat}{t:lb}
theorem ql {h:j0}{first f':ay}{i n:Nat}(x:IK h it a first i n ep) :
  IK (h.update it (Obj.mapFields (·.setIfInBounds 0 f'))) it a f' i n ep:=by
 obtain⟨o,b,hc,hd⟩:=x;exact⟨_,wx _ b (Qx (Kf hd _)),(Ur ..).trans hc,by rw[Kf hd];simp⟩
theorem qm {h:j0}{first:ay}{i n:Nat}(x:IK h it a first i n ep) :
  IK (h.update it (Obj.mapFields (·.setIfInBounds 1 (Za ((i:Int)+1))))) it a first (i+1) n ep:=by
 obtain⟨o,b,hc,hd⟩:=x;exact⟨_,wx _ b (Qx (Kf hd _)),(Ur ..).trans hc,by rw[Kf hd];simp[Za]⟩
set_option maxHeartbeats 1000000 in
theorem next_item {out:Array (Int×Value)}{fp:List Addr}{F:Nat->Value->Heap->Prop}{first:Value}{i:Nat}{x:Int×Value}{Q:Option Value->Shared->Prop}(y:Way w a it es ep t out fp F)(JS:a≠it)(d:s.heap.get? a=some o)(hd:o.data = .set es ep t)
  (c:t.fits es.size=true) (b:IK s.heap it a first i es.size ep) (j:F i first s.heap) (f:out[i]?=some x)
  (G:∀ f' h',IK h' it a f' (i+1) es.size ep->F (i+1) f' h'->Heap.SameBut it s.heap h'->Q (some x.2) { s with heap:=h' }):wpAny (model prog w) A (pyNext (.ref it)) Q E s:=by
 obtain⟨oi,l,Qi,g⟩:=id b;unfold pyNext;refine wpAny_bind (wpAny_attempt (wpAny_callSpecial?_slot (name:=Str.ofString "__next__") b.ty SF.slot_next (wpAny_call_entry SF.slot_next b.ty SF.L1 ?_ (SF.args_next _))));unfold Builtin.«set_iterator.__next__»;refine wpAny_bind (wpAny_pure ?_);refine wpAny_bind (wpAny_fieldsOf l g ?_);dsimp only;refine wpAny_bind (wpAny_setEntries_of d hd c ?_);rw[if_neg (by simp)]
 have step:∀ (f':Value),F (i+1) f' ((s.heap.update it (Obj.mapFields (·.setIfInBounds 0 f'))).update it (Obj.mapFields (·.setIfInBounds 1 (rawInt ((i:Int)+1)))))->∀ (k:Nat),f'=rawInt k->∀ (m:Hq),
   wpAny (model prog w) A.in1 (do setField (.ref it) 0 (rawInt k);setField (.ref it) 1 (rawInt ((i:Int)+1));ret x.2) (λfin Y => ∃ v,fin = .done (.ret v)/\Q (some v) Y) m s:=by
  rintro f' V k rfl m;refine wpAny_bind (wpAny_setField l g (by simp) ?_);have r:=ql (f':=rawInt k) b;obtain⟨o1,W,Ww,Qj⟩:=id r;refine wpAny_bind (wpAny_setField W Qj (by simp) (wpAny_pure ⟨_,rfl,?_⟩));exact G _ _ (qm r) V ((Heap.SameBut.update ..).trans (Heap.SameBut.update ..))
 cases y with
 |text hb =>
  obtain⟨k,rfl⟩:=j;dsimp only;refine wpAny_bind (iC d hd c hb ?_);simp only[Int.toNat_natCast];rw[f];exact wpAny_mono (step (rawInt k) ⟨k,rfl⟩ k rfl _) (λ_ _ h=>let ⟨v,e,q⟩:=h;⟨v,e,wpAny_pure q⟩) λ_ _ h=>h
 |one hb L D hr =>
  have hi:i<es.size:=(Array.getElem?_eq_some_iff.mp f).1;have Z:t.place.size=es.size:=by have:=c;simp only[SetTable.fits,and_eq_true,beq_iff_eq] at this;exact this.1
  obtain⟨k,rfl,J⟩:=j;have H:t.place[i]?=some t.place[i]:=Array.getElem?_eq_getElem (by omega)
  have O:SetTable.below t.place (t.place[i]+1)=i+1:=pA hr (by omega) (λn u IM=>by
   rcases lt_or_ge n i with q |q
   ·have:=hr.lt q (show i<t.place.size by omega);omega
   have e:n=i:=by omega
   subst e;omega) λn u UZ=>hr.lt (show i<n by omega) u
  dsimp only;refine wpAny_bind (iS d hd c hb L D ?_);rw[Int.toNat_natCast,J,f,H];exact wpAny_mono (step (rawInt ((t.place[i]+1:Nat):Int)) ⟨_,rfl,O⟩ (t.place[i]+1) rfl _) (λ_ _ h=>let ⟨v,e,q⟩:=h;⟨v,e,wpAny_pure q⟩) λ_ _ h=>h
 |drawn hb hp D tp order K R =>
  obtain⟨rfl,N⟩:=j;obtain⟨P,C,U,X,z⟩:=id N;dsimp only;refine wpAny_bind (wpAny_seqItems C z ?_);obtain⟨g1,I⟩:=yx (es:=es) K;have B:(order.filterMap λi=>es[i]?)[i]?=some x:=by simpa using f
  rw[I i] at B;obtain⟨p,T,M⟩:=bind_eq_some_iff.mp B;have S:((order.map λ(i:Nat)=>Value.int i 0).toArray)[Int.toNat (i:Int)]?=some (.int p 0):=by rw[Int.toNat_natCast,getElem?_toArray,List.getElem?_map,T];rfl
  dsimp only;rw[S];dsimp only;refine wpAny_bind ?_;unfold setNextDrawn;refine wpAny_bind (wpAny_setState_of d hd c ?_);dsimp only;rw[Int.toNat_natCast,Int.toNat_natCast,if_neg (by simp),M];refine wpAny_pure ?_;refine wpAny_bind (wpAny_setField l g (by simp) (wpAny_pure ⟨_,rfl,wpAny_pure ?_⟩));exact G _ _ (qm b) ⟨rfl,⟨P,((Heap.SameBut.update ..).2 tp R).trans C,U,X,z⟩⟩ (Heap.SameBut.update ..)
end
section
variable {prog:ew}{w:hB}{A:hG}{E:Hq}{s:cc}
variable {a it:b0}{o:VJ}{es:h8 (Int×ay)}{ep:Nat}{t:lb}
theorem vT {α:Type}{Q : α->cc->Prop}(c:A.handled=av)(h:∀ h' e,(∀ b o,#[15]=aa o->h'.get? b=aa o)->(∃ o,h'.get? e=aa o/\o.cls = .type "StopIteration")->E (.ref e) { s with heap:=h' }) :
  d6 #[8] A (newExc (.type "StopIteration") [] >>= λe=>(raiseNew e:ZI α)) Q E s:=by
 refine ak ?_;simp only[newExc,newTuple];refine ak (iv ?_ (by size_fits));refine ak (m:=SU _ _) (Zq (a:=Jy) (by first |rfl |(simp only[SU];rfl)) ?_);refine iv ?_ (by size_fits);simp only[raiseNew];refine ak (wpAny_handled ?_);rw[c];refine ak (a5 (wpAny_throw ?_));exact h _ _ (λb o e=>cv _ (cv _ e)) ⟨_,en _ rfl,rfl⟩
set_option maxHeartbeats 1000000 in
theorem next_end {out:Array (Int×Value)}{fp:List Addr}{F:Nat->Value->Heap->Prop}{first:Value}{Q:Option Value->Shared->Prop}(P:A.handled=none)(y:Way w a it es ep t out fp F)(Z:a≠it)(l:s.heap.get? a=some o)(hd:o.data = .set es ep t)
  (m:t.fits es.size=true) (c:IK s.heap it a first es.size es.size ep) (n:F es.size first s.heap)
  (S:∀ h',(∀ b o,b≠it->s.heap.get? b=some o->h'.get? b=some o)->Q none { s with heap:=h' }):wpAny (model prog w) A (pyNext (.ref it)) Q E s:=by
 have O:out.size=es.size:=by have:=y.perm.length_eq;simpa using this
 obtain⟨oi,j,Qi,g⟩:=id c;unfold pyNext;refine wpAny_bind (wpAny_attempt (wpAny_callSpecial?_slot (name:=Str.ofString "__next__") c.ty SF.slot_next (wpAny_call_entry SF.slot_next c.ty SF.L1 ?_ (SF.args_next _))));unfold Builtin.«set_iterator.__next__»;refine wpAny_bind (wpAny_pure ?_);refine wpAny_bind (wpAny_fieldsOf j g ?_);dsimp only;refine wpAny_bind (wpAny_setEntries_of l hd m ?_);rw[if_neg (by simp)]
 have fin:∀ (h:Shared) (p:Fin->Shared->Prop),(∀ b o,b≠it->s.heap.get? b=some o->h.heap.get? b=some o)->(∀ h',({ s with heap:=h' }:Shared)={ h with heap:=h' }) ->
   wpAny (model prog w) A.in1 (newExc (.type "StopIteration") [] >>= λe=>(raiseNew e:Sem Fin)) p
    (λe N=>wpAny (model prog w) A (do let b ← isInstance e (.type "StopIteration");if b=true then pure none else throw e) Q E N) h:=λh p C G=>by
  refine vT (by simp[P]) λh' e k r=>?_;obtain⟨L,u,J⟩:=r;refine wpAny_bind (wpAny_isInstance (T:="StopIteration") (b:=true) ⟨L,u,J⟩ isSubtype_stop ?_);rw[if_pos rfl];refine wpAny_pure ?_;rw[← G];exact S h' λb o d e=>k b o (C b o d e)
 have up:∀ (f:Array Value->Array Value) b o,b≠it->s.heap.get? b=some o->(s.heap.update it (Obj.mapFields f)).get? b=some o:=λf b o d e=>((Heap.SameBut.update ..).2 b d).trans e;cases y with
 |text hb =>
  obtain⟨k,rfl⟩:=n;dsimp only;refine wpAny_bind (iC l hd m hb ?_);simp only[Int.toNat_natCast];rw[Array.getElem?_eq_none (by omega)];refine wpAny_bind (wpAny_setField j g (by simp) ?_);exact fin _ _ (up _) λ_=>rfl
 |one hb B q hr =>
  have key:∃ k:Nat,first = .int k 0/\es[SetTable.below t.place k]?=none:=by obtain⟨k,rfl,e⟩:=n;exact⟨k,rfl,by rw[e];exact Array.getElem?_eq_none (le_refl _)⟩
  obtain⟨k,rfl,x⟩:=key;dsimp only;refine wpAny_bind (iS l hd m hb B q ?_);rw[Int.toNat_natCast,x];refine wpAny_bind (wpAny_setField j g (by simp) ?_);exact fin _ _ (up _) λ_=>rfl
 |drawn hb U q tp order z X =>
  obtain⟨rfl,H⟩:=n;obtain⟨V,M,Y,U5,D⟩:=id H;dsimp only;refine wpAny_bind (wpAny_seqItems M D ?_);dsimp only;have I:((order.map λ(i:Nat)=>Value.int i 0).toArray)[Int.toNat (es.size:Int)]?=none:=by rw[Int.toNat_natCast,getElem?_toArray,List.getElem?_eq_none];rw[length_map,z.length_eq,length_range];exact le_refl _
  rw[I];dsimp only;refine wpAny_bind (wpAny_setField j g (by simp) ?_);have v:=ql (f':=rawInt 0) c;obtain⟨o1,K,W,R⟩:=id v;refine wpAny_bind (wpAny_setField K R (by simp) ?_);exact fin _ _ (λb o d e=>((Heap.SameBut.update ..).2 b d).trans (up _ b o d e)) λ_=>rfl
theorem AM:ZZ table "set_iterator.__iter__"=aa Builtin.«dict_keyiterator.__iter__»:=entryFor_alias (id':="dict_keyiterator.__iter__") (by kernel_rfl) rfl #[1] (by kernel_rfl)
theorem args_self (a:ay):argsOk "set_iterator.__iter__" ⟨[a],[]⟩:=by unfold argsOk;rw[signature?_of (id:="set_iterator.__iter__") (n:=['_','_','r','e','t','i','_','_']) (o:=['r','o','t','a','r','e','t','i','_','t','e','s']) (by kernel_rfl) SF.NK];kernel_rfl
theorem zy {first:ay}{i n:Nat}{Q:Hq}(b:IK s.heap it a first i n ep)(h:Q (.ref it) s):d6 #[8] A (ZK (.ref it)) Q E s:=by refine wpAny_pyIter_slot b.ty SF.slot_self (my SF.slot_self b.ty AM ?_ (args_self _));show d6 _ _ (ret (.ref it)) _ _ s;exact a5 ⟨_,rfl,"set_iterator",_,b.ty,SF.slot_next.lookup,h⟩
theorem IK.keep {h h':j0}{first:ay}{i n:Nat}(x:IK h it a first i n ep)(e:∀ o,h.get? it=aa o->h'.get? it=aa o):IK h' it a first i n ep:=let ⟨o,b,r⟩:=x;⟨o,e o b,r⟩
theorem Way.fp {out:h8 (Int×ay)}{fp:ae b0}{F:Nat->ay->j0->Prop}(y:Way w a it es ep t out fp F):it∈fp/\a∈fp/\∀ i f (h h':j0),(∀ b∈fp,b≠it->∀ o,h.get? b=aa o->h'.get? b=aa o)->F i f h->F i f h':=by
 cases y with
 |text=>exact⟨by simp,by simp,λ_ _ _ _ _ x=>x⟩
 |one=>exact⟨by simp,by simp,λ_ _ _ _ _ x=>x⟩
 |drawn _ _ _ tp order _ c=>exact⟨by simp,by simp,λ_ _ h h' k x=>⟨x.1,by obtain⟨o,d,r⟩:=x.2;exact⟨o,k tp #[3] c o d,r⟩⟩⟩
theorem Walks.set {out:h8 (Int×ay)}{fp:ae b0}{F:Nat->ay->j0->Prop}(x:A.handled=av)(y:Way w a it es ep t out fp F)(m:a≠it)(hex:o.ExactSet)(hd:o.data = .set es ep t)(p:t.fits es.size=a6) :
  Walks prog w A it fp [it] es.size (λi v=>(out[i]?).map (·.2)=aa v) (λi h=>h.get? a=aa o/\∃ first,IK h it a first i es.size ep/\F i first h) where
 sub:=λb hb=>by rw[eR.mp hb];exact y.fp.1
 frame:=λi h d st k=>⟨k a y.fp.2.1 o st.1,let ⟨f,c,j⟩:=st.2;⟨f,c.keep λo e=>k it y.fp.1 o e,y.fp.2.2 i f h d (λb hb _ o e=>k b hb o e) j⟩⟩
 item:=λi s Q E C st g=>by
  obtain⟨l,f,c,j⟩:=st;have u:out.size=es.size:=by have:=y.perm.length_eq;simpa using this
  have n:out[i]?=aa out[i]:=hY #[0];refine next_item y m l hd p c j n λB d q r sb=>?_;refine g _ d s.toks (by rw[n];rfl) ⟨(sb.2 a m).trans l,B,q,r⟩ λb o hb e=>(sb.2 b (λz=>hb (by simp[z]))).trans e
 done:=λs Q E st g=>by
  obtain⟨l,f,c,j⟩:=st;exact next_end x y m l hd p c j λd k=>g d s.toks λb o hb e=>k b o (λz=>hb (by simp[z])) e
 self:=λi s Q E st g=>let ⟨f,c,_⟩:=st.2;zy c g
end
section
variable {prog:ew}{w:hB}{A:hG}{E:Hq}{s:cc}
set_option maxHeartbeats 1000000 in
theorem mN {x:Addr}{T:String}(WB:T="set"∨T="dict")(hT:s.TypeIs (.ref x) T){Q:List Value->Shared->Prop}(u:List Value->Prop)
  (OX:∀ (h0:Heap) (X:Hq) (E':Hq),(∀ b o,s.heap.get? b=some o->h0.get? b=some o) ->
   (∀ (I:Addr) (fp i:List Addr) (n:Nat) (P:Nat->Value->Prop) (St:Nat->Shared->Prop) (g:Shared),WalksS prog w A.in1 I fp i (λa b=>b=a) n P St->St 0 g->n<=sizeLine->(∀ b∈fp,b=x∨h0.objs.size<=b)->(∀ b∈i,h0.objs.size<=b) ->
    (∀ b o,h0.get? b=some o->g.heap.get? b=some o)->g.gens=s.gens->g.os=s.os->(∀ d,ItemsOf P d n->u d.toList)->X (.ref I) g)->wpAny (model prog w) A.in1 (pyIter (.ref x)) X E' { s with heap:=h0 })
  (hQ:∀ s' d,u d->(∀ b o,s.heap.get? b=some o->s'.heap.get? b=some o)->s'.gens=s.gens->s'.os=s.os->Q d s'):wpAny (model prog w) A (collect (.ref x)) Q E s:=by
 obtain⟨O,N,U⟩:=id hT;have U6:x<s.heap.objs.size:=Heap.lt_size N;unfold collect;refine wpAny_bind (wpAny_runValue (codeAny_builtin F.entry_proto_collect ?_));rw[Around.under_plainId F.plain_proto_collect _];show wpAny _ A.in1 (newList [] >>= λl=>again (.builtin "list.__iadd__" ⟨[l,.ref x],[]⟩)) _ _ s;refine wpAny_bind (wpAny_newObj_type ?_);refine wpAny_pure ⟨plainId_quiet F.plain_list_iadd _,codeAny_builtin F.entry_list_iadd ?_⟩;rw[Around.under_plainId F.plain_list_iadd _];have Nn:(s.heap.push { cls:=.type "list",data:=.seq ([]:List Value).toArray }).get? s.heap.objs.size=some { cls:=.type "list",data:=.seq ([]:List Value).toArray }:=Heap.get?_push_size _ rfl;have WC:Shared.TypeIs { s with heap:=s.heap.push { cls:=.type "list",data:=.seq ([]:List Value).toArray } } (.ref x) T:=⟨O,Heap.get?_push_of_some _ N,U⟩;have n1:Builtin.List.listSameRef (.ref s.heap.objs.size) (.ref x)=false:=by simp[Builtin.List.listSameRef,ne_of_gt U6]
 show wpAny _ A.in1 (Builtin.List.listExtendWith (.ref s.heap.objs.size) (.ref x) (.ref s.heap.objs.size)) _ _ _;unfold Builtin.List.listExtendWith;refine wpAny_bind (wpAny_typeOf WC ?_);have kp:∀ b o,s.heap.get? b=some o->(s.heap.push { cls:=.type "list",data:=.seq ([]:List Value).toArray }).get? b=some o:=λb o e=>Heap.get?_push_of_some _ e;have sz:(s.heap.push { cls:=.type "list",data:=.seq ([]:List Value).toArray }).objs.size=s.heap.objs.size+1:=Heap.size_push ..
 have main:∀ (I:Addr) (fp i:List Addr) (n:Nat) (P:Nat->Value->Prop) (St:Nat->Shared->Prop) (g:Shared),WalksS prog w A.in1 I fp i (λa b=>b=a) n P St->St 0 g->n<=sizeLine ->
   (∀ b∈fp,b=x∨(s.heap.push { cls:=.type "list",data:=.seq ([]:List Value).toArray }).objs.size<=b)->(∀ b∈i,(s.heap.push { cls:=.type "list",data:=.seq ([]:List Value).toArray }).objs.size<=b) ->
   (∀ b o,(s.heap.push { cls:=.type "list",data:=.seq ([]:List Value).toArray }).get? b=some o->g.heap.get? b=some o)->g.gens=s.gens->g.os=s.os->(∀ d,ItemsOf P d n->u d.toList) ->
   ∀ (R:Result->Shared->Prop),(∀ s' d c,u d.toList->(∀ b o,s.heap.get? b=some o->s'.heap.get? b=some o)->s'.gens=s.gens->s'.os=s.os->s'.heap.get? s.heap.objs.size=some { cls:=.type "list",dict:=none,data:=.seq d c,slots:=#[] }->R (.ok (.ret (.ref s.heap.objs.size))) s') ->
   wpAny (model prog w) A.in1 (rule "list.extend.makes-room" >>= λ_=>Builtin.List.listTouch (.ref s.heap.objs.size) >>= λ_=>again (.builtin "list.extend.loop" ⟨[.ref s.heap.objs.size,.ref I,.ref s.heap.objs.size],[]⟩))
    (λfin s'=>match fin with | .done f=>R (.ok f) s' | .again M=>M.quiet=true/\codeAny (model prog w) A M R s') (λe s'=>R (.error e) s') g:=by
  intro I fp i n P St g W st t B H j q o1 L R hR
  have Np:s.heap.objs.size∉fp:=λm=>by
   rcases B _ m with e |e
   ·exact ne_of_gt U6 e
   rw[sz] at e;exact Nat.not_succ_le_self _ e
  refine wpAny_bind (wpAny_rule ?_);refine wpAny_bind ?_;have hS:g.heap.get? s.heap.objs.size=some { cls:=.type "list",data:=.seq ([]:List Value).toArray }:=j _ _ Nn;show wpAny _ A.in1 (updateSeq s.heap.objs.size (·.push .none) >>= λ_=>updateSeq s.heap.objs.size (·.pop)) _ _ _;refine wpAny_bind (wpAny_updateSeq hS rfl ?_);have NI:=Heap.get?_update_self (Obj.mapSeq (·.push Value.none)) hS rfl;refine wpAny_updateSeq (hz:=by seq_fits) NI rfl ?_;have Rc:=Heap.get?_update_self (Obj.mapSeq (·.pop)) NI rfl
  have Z:∀ b o,b≠s.heap.objs.size->g.heap.get? b=some o->((g.heap.update s.heap.objs.size (Obj.mapSeq (·.push Value.none))).update s.heap.objs.size (Obj.mapSeq (·.pop))).get? b=some o:=
   λb o hb e=>(Heap.get?_update_other _ _ (Ne.symm hb)).trans ((Heap.get?_update_other _ _ (Ne.symm hb)).trans e)
  refine wpAny_pure ⟨plainId_quiet F.plain_extend_loop _,codeAny_extend_loopS W t _ Np _ n 0 _ _ _ rfl (zero_le _) (W.frame 0 g _ g.toks st (le_refl _) λb hb o e=>Z b o (λh=>Np (h▸hb)) e) Rc (ItemsOf.nil P) λs' Y M m M4 PK=>?_⟩;refine hR s' Y M (L Y PK) (λb o e=>?_) (m.gens.trans q) (m.os.trans o1) M4;have hb:b<s.heap.objs.size:=Heap.lt_size e;refine m.heap b o (λz=>?_) (Z b o (ne_of_lt hb) (j b o (kp b o e)));rcases mem_cons.mp z with z |z
  ·exact ne_of_lt hb z
  have:=H b z;rw[sz] at this;exact Nat.not_succ_le_self _ (Nat.le_trans this (Nat.le_of_lt hb))
 have last:∀ (s':Shared) (d:Array Value) (c:Nat),u d.toList->(∀ b o,s.heap.get? b=some o->s'.heap.get? b=some o)->s'.gens=s.gens->s'.os=s.os->s'.heap.get? s.heap.objs.size=some { cls:=.type "list",dict:=none,data:=.seq d c,slots:=#[] } ->
   wpAny (model prog w) A (load s.heap.objs.size >>= λo=>match o.data with | .seq J _=>pure J.toList |_=>unsupported "internal:collect") Q E s':=λs' d c K C y p G=>wpAny_bind (wpAny_load G (wpAny_pure (hQ s' d.toList K C y p)))
 rcases WB with rfl |rfl
 ·rw[if_neg (by rw[n1];decide)];refine wpAny_bind (OX _ _ _ kp λI fp i n P St g W st t B H j q o1 L=>?_);have k:g.TypeIs (.ref x) "set":=⟨O,j _ _ (kp _ _ N),U⟩;refine wpAny_bind (wpAny_holding ?_);unfold Builtin.List.listLengthHint;refine wpAny_bind (wpAny_specialOf k F.slot_set_len.lookup ?_)
  (generalize D:("set.__len__":String)=id0;wp_delta;rw[show splitId id0=some ("set","__len__") from by subst D;decide];subst D)
  refine wpAny_bind (wpAny_isInstance (b:=true) k (by rw[isSubtype_type];kernel_rfl) ?_);refine wpAny_bind (wpAny_typeOf k ?_);refine wpAny_pure ?_;dsimp only;split
  ·refine main I fp i n P St g W st t B H j q o1 L (λr s'=>match r with
    | .ok (.ret v)=>wpAny (model prog w) A (match v with
     | .ref a=>do
      let o ← load a
      match o.data with
       | .seq J _=>pure J.toList
       |_=>unsupported "internal:collect"
     |_=>unsupported "internal:collect") Q E s'
    | .ok _=>False
    | .error e=>E e s') ?_
   exact λV d c K C y p G=>last V d c K C y p G
  rename_i S;exact absurd (by decide) S
 rw[if_neg (by rw[n1];decide)];refine wpAny_bind (OX _ _ _ kp λI fp i n P St g W st t B H j q o1 L=>?_);have k:g.TypeIs (.ref x) "dict":=⟨O,j _ _ (kp _ _ N),U⟩;refine wpAny_bind (wpAny_holding ?_);unfold Builtin.List.listLengthHint;refine wpAny_bind (wpAny_specialOf k F.slot_dict_len.lookup ?_)
 (generalize D:("dict.__len__":String)=id0;wp_delta;rw[show splitId id0=some ("dict","__len__") from by subst D;decide];subst D)
 refine wpAny_bind (wpAny_isInstance (b:=true) k (by rw[isSubtype_type];kernel_rfl) ?_);refine wpAny_bind (wpAny_typeOf k ?_);refine wpAny_pure ?_;dsimp only;split
 ·refine main I fp i n P St g W st t B H j q o1 L (λr s'=>match r with
   | .ok (.ret v)=>wpAny (model prog w) A (match v with
    | .ref a=>do
     let o ← load a
     match o.data with
      | .seq J _=>pure J.toList
      |_=>unsupported "internal:collect"
    |_=>unsupported "internal:collect") Q E s'
   | .ok _=>False
   | .error e=>E e s') ?_
  exact λV d c K C y p G=>last V d c K C y p G
 rename_i S;exact absurd (by decide) S
end
end L2
namespace L2
open PySem PySem.Spec PyProof.Rows PySem.W
noncomputable def CW:ae D->ax (ae Key)
 |[]=>aa []
 |d::ds=>(fu d).bind λk=>(CW ds).map (k::·)
noncomputable def FQ:D->ax D
 | .tup a=>if a.length+1<4096 then (CW a).map λb => .int ((b.foldl br []).length) else av
 |_=>av
noncomputable def hW:D->ax D
 | .tup a=>if a.length<64 then (eP a).map λb => .lst ((fK (b.foldl br [])).map .str) else av
 |_=>av
noncomputable def nT (d:D)(S:Hu):ax D:=match d with
 | .tup a=>(gm a).map .lst
 | .lst a=>(gm a).map .lst
 | .loc l=>match S[l]? with
  |aa (.dict kvs)=>(gm (kvs.map (·.1))).map .lst
  |_=>av
 |_=>av
noncomputable def xL (f:Hn D):Hn D:=λb S=>aj (f b S) λd a=>aQ (nT d a) a
noncomputable def fC:ae D->ax D
 |[.int j]=>if -(2 ^ 62)<=j/\j<=16777216 then aa (.lst ((ei j.toNat).map λ(k:Nat)=>D.int k)) else av
 |_=>av
noncomputable def nJ:D->ax D
 | .str x=>if x.cps.all (·<128)=a6 then aa (.str ⟨x.cps.map up1⟩) else av
 |_=>av
noncomputable def sw:D->e8
 | .str _=>a6
 |_=>bo
noncomputable def sQ (k:D->e8)(g:D->D->ax D)(fe c:Hn D):Hn D:=λa S=>aj (fe a S) λx b=>if k x=a6 then aj (c a b) λy d=>aQ (g x y) d else av
noncomputable def findD:D->D->ax D
 | .str x,.str y=>aa (.int (Tc x y))
 |_,_=>av
section
variable {X:Cx}{W:WT}
theorem y4:dS X (.type "range") (λxs H Q => ∃ j:Int,xs=[.int j]/\∀ p,H p=av->Q (.ref p) (upd H p (.OK 0 j))):=by intro a s f H xs d Q I r h;obtain⟨j,rfl,q⟩:=h;obtain⟨u,rfl,c⟩:=vals1 r;obtain⟨t,rfl⟩:=c;refine call_range_1 ?_;exact⟨#[11],_,I.laid (t':=s.toks+1+1) (λb o e=>cv _ e) (eG _) (show Ig X.prog X.w _ _ _ (.OK 0 j) from⟨_,_,_,en _ rfl⟩),rfl,q _ I.fresh⟩
theorem wp {a:h8 ay}{n:Nat}(h:ItemsOf (λi v => ∃ t,v = .int (0+(i:Int)*1) t) a n):Vals ((ei n).map λ(k:Nat)=>V.int k) a.toList:=by
 obtain⟨f,g⟩:=h
 have key:∀ (l:ae ay) (i:Nat),(∀ (j:Nat) v,l[j]?=aa v->∃ t,v = .int (((i+j:Nat):Int)) t)->Vals ((range' i l.length).map λ(k:Nat)=>V.int k) l:=by
  intro l
  induction l with
  |nil=>intro i _;exact .nil
  |cons v r d =>
   intro i c;rw[hD,Zr,hA];refine .cons (by obtain⟨t,e⟩:=c 0 v rfl;exact⟨t,by simpa using e⟩) (d (i+1) λj v b=>?_);obtain⟨t,e⟩:=c (j+1) v (by simpa using b);exact⟨t,by rw[e];congr 2;omega⟩
 have q:=key a.toList 0 λj v b=>by obtain⟨t,e⟩:=g j v (by rw[← ih];exact b);exact⟨t,by rw[e];congr 1;simp⟩
 rw[hH,f,← List.range_eq_range'] at q;exact q
theorem wF (hc:X.calm=a6):dS X (.type "list") (λxs H Q => ∃ (p:b0) (j:Int),xs=[.ref p]/\H p=aa (.OK 0 j)/\-(2 ^ 62)<=j/\j<=16777216/\∀ l,H l=av->Q (.ref l) (upd H l (.lst ((ei j.toNat).map λ(k:Nat)=>V.int k)))):=by intro e s z H xs x Q I r h;obtain⟨p,j,rfl,f,i,A,q⟩:=h;obtain⟨u,rfl,m⟩:=vals1 r;cases m;obtain⟨t,u,v,hr⟩:∃ t u v,s.heap.get? p=aa { cls:=.type "range",data:=.fields #[.int 0 t,.int j u,.int 1 v] }:=I.HZ p _ f;refine call_list_range (a:=0) (b:=j) (c:=1) (t:=t) (u:=u) (v:=v) (n:=j.toNat) (I.ok.hd hc) hr (small_one #[0] #[0] i #[0]) (by rw[rangeSize_one];split<;>omega) #[0] λy tk d c k w PK=>?_;have g:=wp PK;refine⟨#[11],_,I.laid (t':=tk) (o:=.lst ((ei j.toNat).map λ(k:Nat)=>V.int k)) k (eG _) ⟨?_,d.toList,c,g,by simpa using w⟩,rfl,q _ I.fresh⟩;rw[dV,lr];show j.toNat<=16777216;omega
variable {e:gj}{fe:Hn D}{gs:Hn (ae D)}{pos Ji p p2:N5}{x y:ej}
theorem jI {a:gj}(w:x="list")(C:y="range")(hc:X.calm=a6)(s:X.mg x=av)(A:X.mg y=av)(ha:SA X W [a] gs)(B:Gl X x:=by rfl)(L:Gl X y:=by rfl)
  (t:dm [a] X.env=(bo,lX a X.env)::dm [] X.env:=by rfl)
  (f:dm [(.Call (.Name y p2) [a] [] Ji)] X.env=(bo,lX (.Call (.Name y p2) [a] [] Ji) X.env)::dm [] X.env:=by rfl)
  (I:(mf Ji (dm [] X.env)).any (·.1)=bo:=by rfl) (F:(mf pos (dm [] X.env)).any (·.1)=bo:=by rfl) :
  SE X W (.Call (.Name x p) [.Call (.Name y p2) [a] [] Ji] [] pos) (a7 fC gs):=by
 subst w C;have inner:=fB (X:=X) (p:=p2) (pos:=Ji) y4 L A A2 ha #[1] #[1] t I;refine PE.imp (fB (wF hc) B s nk (cn inner Ik f) #[1] #[1] f F) λO H Q h=>?_;refine(tG.Km h).mono λM e ⟨ds,b,g⟩=>?_;rw[eM,eM] at g;obtain⟨J,P,d,E,m,eq,q⟩:=tG.UE g;unfold fC at eq;split at eq
 ·rename_i j;split at eq
  ·rename_i c;cases eq;obtain⟨v,r,rfl,a1,n⟩:=Hz.Hy.mp m;cases Hz.HA.mp n;cases At.Hw.mp a1;refine⟨j,rfl,λp o=>?_⟩;show ll _ _ _;refine⟨p,j,rfl,HG,c.1,c.2,λl b=>?_⟩;have n1:p≠l:=λz=>by rw[z,HG] at b;cases b
   have N:e l=av:=by rw[aG n1.symm] at b;exact b
   have u:HJ e (upd e p (.OK 0 j)):=aO o _;have G:=u.trans (aO b (.lst ((ei j.toNat).map λ(k:Nat)=>V.int k)));refine q _ _ G ?_;have i:=Hz.ofInts (K:=X.K) (H:=upd e p (.OK 0 j)) (J:=J) ((ei j.toNat).map λ(k:Nat)=>(k:Int));rw[lE,lE] at i
   exact At.IW (ds:=(ei j.toNat).map λ(k:Nat)=>D.int k) i b (λa ha=>by
    by_cases z:a=p
    ·rw[z,HG];simp
    rw[aG z];exact E a ha) (by rw[dV,lr];show j.toNat<=16777216;omega)
  cases eq
 cases eq
theorem vA {n:Nat}(h:n<=dk):Ry n=bo:=by unfold Ry;exact cX #[0]
theorem Ae:Qb X "str.upper" (λx xs H Q => ∃ z,x = .str z/\xs=[]/\z.cps.all (·<128)=a6/\z.length<=dk/\Q (.str ⟨z.cps.map up1⟩) H):=by
 intro a s j H x xs v i Q I g b h;obtain⟨z,rfl,rfl,f,d,q⟩:=h;obtain⟨t,rfl⟩:=g;cases b;have e:Txt.upper z=⟨z.cps.map up1⟩:=upper_ascii λc hc=>by have:=Mt.mp f c (by simpa using hc);simpa using this
 have l:(Txt.upper z).length=z.length:=by rw[e];show (z.cps.map up1).size=z.cps.size;simp
 refine SC.upper (vA (by rw[l];exact d)) ?_;rw[e];exact⟨.str ⟨z.cps.map up1⟩,H,I.tok _,⟨_,rfl⟩,q⟩
theorem B3:Qb X "str.find" (λx xs H Q => ∃ z y,x = .str z/\xs=[.str y]/\Q (.int (Tc z y)) H):=by intro a s f H x xs v e Q I d b h;obtain⟨z,y,rfl,rfl,q⟩:=h;obtain⟨t,rfl⟩:=d;obtain⟨u,rfl,c⟩:=vals1 b;obtain⟨t2,rfl⟩:=c;exact SC.find ⟨.int (Tc z y),H,I.tok _,⟨_,rfl⟩,q⟩
theorem C7 {c:Nat}(h:c<128):up1 c<128:=by revert c;decide
theorem Ak {o:gj}{name:ej}{a f:N5}(s:name="upper")(m:SE X W o fe)(l:ro o name X.env (lX o X.env)=lX o X.env:=by rfl)(r:(a.endLine==f.line)=a6:=by rfl) :
  SE X W (.Call (.Attribute o name a) [] [] f) (Ju nJ fe):=by
 subst s;refine PE.imp (DK F.plainAttrs_str F.slot_str_upper F.type_str_upper Ae m l r) λt H Q h=>(tG.HH h).mono λv n j=>?_;obtain⟨d,k⟩:=j;obtain⟨J,u,w,x,i,eq,q⟩:=tG.Qd k;unfold nJ at eq;split at eq
 ·rename_i z;split at eq
  ·rename_i g;cases eq;obtain⟨ev,ok⟩:=At.HE.mp i;subst ev;refine⟨rfl,z,rfl,rfl,g,ok.1,q n _ (HJ.refl _) (At.HE.mpr ⟨rfl,?_,?_⟩)⟩
   ·show (z.cps.map up1).size<=dk;rw[size_map];exact ok.1
   have e:(⟨z.cps.map up1⟩:ej)=⟨(z.cps.toList.map up1).toArray⟩:=by rw[← Array.toList_map]
   rw[e];refine gO λc hc=>?_;obtain⟨b,hb,rfl⟩:=vl.mp hc;have p:=Mt.mp g b (by simpa using hb);have:=C7 (c:=b) (by simpa using p);omega
  cases eq
 cases eq
theorem oG {k:D->e8}{g:D->D->ax D}{n:Hn D}{T:NA}{r:V->ae V->Hp->VK->Prop}{l:St}{H:Hp}{Q:VK}(p:∀ J f d v,k d=a6->At X.K f J d v->Pn X.K T v f)
  (hr:∀ (v i:V) (a:Hp) (Q:VK),Po X.K g v i a Q->r v [i] a Q) (h:tE X W (sQ k g fe n) l H Q):UD X.K T r (tE X W fe) (zj (tE X W n) ll) l H Q:=
 (tG.HH h).mono λv f o=>by
  obtain⟨d,b⟩:=o
  by_cases j:k d=a6
  ·simp only[j,ox] at b;refine⟨?_,(tG.HH b).mono λi a ⟨u,q⟩=>hr v i a Q (tG.S8 q)⟩;obtain⟨J,_,_,_,_,_,m,_,_⟩:=b;exact p J f d v j m.HF.1
  obtain⟨J,t,S,r,s,c,m,e,z⟩:=b;simp only[j,h5,mz] at e;cases e
theorem Dc {J:ae b0}{a:Hp}{d:D}{v:V}(b:sw d=a6)(m:At X.K a J d v):Pn X.K "str" v a:=by
 cases d<;>first |(cases b;done) |skip
 rename_i z;cases (At.HE.mp m).1;rfl
theorem B4 {o:gj}{name:ej}{b c:N5}{a:gj}{f:Hn D}(t:name="find")(l:SE X W o fe)(ha:SE X W a f)(j:ro o name X.env (lX o X.env)=lX o X.env:=by rfl)
  (r:((mf c (dm [a] X.env)).all (λx => !x.1)&&(O0 c (Jf [] X.env)).all (λx=>x.1.isSome)
   && dr ([a].length+([]:ae Ow).length+(if ([]:ae Ow).isEmpty then 0 else 1)<30))=a6:=by rfl)
  (s:(b.endLine==c.line)=a6:=by rfl) (e:dm [a] X.env=(bo,lX a X.env)::dm [] X.env:=by rfl) (k:(mf c (dm [] X.env)).any (·.1)=bo:=by rfl) :
  SE X W (.Call (.Attribute o name b) [a] [] c) (sQ sw findD fe f):=by
 subst t;refine PE.imp (xk F.plainAttrs_str F.slot_str_find F.type_str_find B3 l (cn ha Ik e) j r s e k) λw H Q h=>oG (λJ A d v p m=>Dc p m) (λv B i Q q=>?_) h;obtain⟨J,C,u,E,G,g,n,eq,q⟩:=q;unfold findD at eq;split at eq
 ·rename_i z y;cases eq;cases (At.HE.mp g).1;cases (At.HE.mp n).1;exact⟨z,y,rfl,rfl,q i _ (HJ.refl _) (#[14])⟩
 cases eq
noncomputable def TM:Key->e8
 | .inl _=>a6
 | .inr _=>bo
noncomputable def CI (P:ew)(w:hB)(p:b0)(a:ae Key):HO:=HO.ext λh=>Iw (bF P w) TM (!KP w) h p a
theorem Av {k:Key}{u:ay}(r:RelV (kV k) u):u.scannable=a6/\plainKind u=TM k:=by
 cases k with
 |inl i=>obtain⟨t,e⟩:=(show ∃ t,u=Vl i t from r);subst e;exact⟨rfl,rfl⟩
 |inr x=>obtain⟨t,e⟩:=(show ∃ t,u=X1 x t from r);subst e;exact⟨rfl,rfl⟩
theorem Ai (a:ae Key):met (λi=>a.getD i (.inl 0)) a.length=a.foldl br []:=by unfold met;congr 1;apply Zs #[3];intro i b c;simp at b;simp[OW,b]
theorem Eg (hc:X.calm=a6):dS X (.type "set") (λxs H Q => ∃ (a:b0) (c:ae Key),xs=[.ref a]/\KI X.K H a (c.map kV)/\c.length+1<4096/\∀ p,H p=av->Q (.ref p) (upd H p (CI X.prog X.w p (c.foldl br [])))):=by
 intro y s N H xs G Q I r h;obtain⟨a,c,rfl,B,hb,q⟩:=h;obtain⟨u,rfl,D⟩:=vals1 r;cases D;obtain⟨its,j,tp,M⟩:=I.tuple B;have g:its.length=c.length:=by rw[← j.length,dV]
 refine sM (knd:=bF X.prog X.w) (pk:=TM) (I.ok.hd hc) (show s.heap.IsTuple a its.toArray from tp) (λi=>c.getD i (.inl 0)) (λi v A=>?_) (by rw[eX,g];exact hb) λJ tk f k=>?_
 ·have l:its[i]?=aa v:=by simpa using A
  have m:i<c.length:=by rw[← g];exact(b7.mp l).1
  obtain⟨u,n,d⟩:=j.get (i:=i) (x:=kV c[i]) (by rw[eh,a4 m];rfl);rw[l] at n;cases n;have E:c.getD i (.inl 0)=c[i]:=by simp[OW,m]
  simp only[E];exact⟨qN d,(Av d).1,(Av d).2⟩
 have C:its.toArray.size=c.length:=by rw[eX,g]
 rw[C,Ai] at f;refine⟨#[11],_,I.laid (t':=tk) (o:=CI X.prog X.w s.heap.objs.size (c.foldl br [])) (λb o e=>k b o (ek e) e) (eG _) ⟨f,?_,λL O z k=>z.keep k⟩,rfl,q _ I.fresh⟩;obtain⟨o,es,ep,t,F,_⟩:=f;exact⟨o,F⟩
theorem Iw.len {h:j0}{p:b0}{a:ae Key}{P:ew}{w:hB}{es:h8 (Int×ay)}(b:∃ l:ae (Int×ay),l.Perm es.toList/\i4 (vd (bF P w)) a l):es.size=a.length:=by obtain⟨l,d,r⟩:=b;have c:=d.length_eq;have e:=gq r;simp only[hH] at c;omega
theorem ye {a:gj}(hc:X.calm=a6)(d:y="set")(g:X.mg y=av)(ha:SE X W a fe)(e:Gl X y)(c:dm [a] X.env=(bo,lX a X.env)::dm [] X.env)(f:(mf Ji (dm [] X.env)).any (·.1)=bo) :
  PE X (.Call (.Name y p2) [a] [] Ji) (RT (λxs H Q => ∃ (a:b0) (b:ae Key),xs=[.ref a]/\KI X.K H a (b.map kV)/\b.length+1<4096/\∀ p,H p=av->Q (.ref p) (upd H p (CI X.prog X.w p (b.foldl br [])))) (zj (tE X W fe) ll)):=by
 subst d;exact fB (X:=X) (p:=p2) (pos:=Ji) (Eg hc) e g A1 (cn ha Ik c) #[1] #[1] c f
theorem Iw.vals {P:ew}{w:hB}{a:ae Key}{l:ae (Int×ay)}(r:i4 (vd (bF P w)) a l):Vals (a.map kV) (l.map (·.2)):=by
 induction r with
 |nil=>exact .nil
 |cons f t b =>
  rename_i k e a l;refine .cons ?_ b;obtain⟨c,_,_⟩:=f;rcases bD c with ⟨i,t,rfl,e⟩ |⟨x,t,rfl,e⟩
  ·exact⟨t,e⟩
  exact⟨t,e⟩
theorem x9:∀ {us us':ae ay},us'.Perm us->∀ {vs:ae V},Vals vs us->∃ c:ae V,c.Perm vs/\Vals c us':=by
 intro us us' j
 induction j with
 |nil=>intro vs r;exact⟨vs,.refl _,r⟩
 |cons x _ d =>
  intro vs r;cases r with
  |cons a b=>obtain⟨w,p,q⟩:=d b;exact⟨_::w,p.cons _,.cons a q⟩
 |swap x y l =>
  intro vs r;cases r with
  |cons a b=>cases b with
   |cons h i=>exact⟨_::_::_,.swap ..,.cons h (.cons a i)⟩
 |trans _ _ e k =>
  intro vs r;obtain⟨w,p,q⟩:=k r;obtain⟨g,m,f⟩:=e q;exact⟨g,m.trans p,f⟩
theorem A4 {K:Ho}{H:Hp}{J:ae b0}{e vs:ae V}(k:e.Perm vs):∀ {ds:ae D},Hz K H J ds vs->∃ c:ae D,c.Perm ds/\Hz K H J c e:=by
 induction k with
 |nil=>intro ds m;exact⟨ds,.refl _,m⟩
 |cons x _ f =>
  intro ds m;cases ds with
  |nil=>cases Hz.HA.mp m
  |cons d ds=>obtain⟨a,b⟩:=m.HF;obtain⟨w,p,q⟩:=f b;exact⟨d::w,p.cons _,.cons a q⟩
 |swap x y l =>
  intro ds m;cases ds with
  |nil=>cases Hz.HA.mp m
  |cons d ds=>cases ds with
   |nil=>cases Hz.HA.mp m.HF.2
   |cons r ds=>obtain⟨a,b⟩:=m.HF;obtain⟨a2,j⟩:=b.HF;exact⟨r::d::ds,.swap ..,.cons a2 (.cons a j)⟩
 |trans _ _ g n =>
  intro ds m;obtain⟨w,p,q⟩:=n m;obtain⟨i,o,h⟩:=g q;exact⟨i,o.trans p,h⟩
theorem uA {K:Type}[s8 K]:∀ (l b:ae K) (k:K),k∈l.foldl br b↔k∈b∨k∈l
 |[],b,k=>by simp
 |a::l,b,k=>by
  rw[wi,uA l,gi];unfold br;split
  ·constructor
   ·rintro (h |h)
    ·exact .inl h
    exact .inr (.inr h)
   rintro (h |rfl |h)
   ·exact .inl h
   ·left;assumption
   exact .inr h
  simp only[il,eR];constructor
  ·rintro ((h |h) |h)
   ·exact .inl h
   ·exact .inr (.inl h)
   exact .inr (.inr h)
  rintro (h |h |h)
  ·exact .inl (.inl h)
  ·exact .inl (.inr h)
  exact .inr h
theorem uC {K:Type}[s8 K]:∀ (l b:ae K),(l.foldl br b).length<=b.length+l.length
 |[],b=>eG _
 |a::l,b=>by
  rw[wi];have:=uC l (br b a);have c:(br b a).length<=b.length+1:=by unfold br;split<;>simp
  rw[hD];omega
theorem uB (f:ej->Key)(d:∀ a b,f a=f b->a=b):∀ (l c:ae ej),(l.map f).foldl br (c.map f)=(l.foldl br c).map f
 |[],c=>rfl
 |a::l,c=>by
  rw[hA,wi,wi,← uB f d];congr 1;unfold br;by_cases h:a∈c
  ·rw[dw h,dw (P_ h)]
  rw[ee h,ee,r4]
  ·rfl
  intro g;obtain⟨b,hb,e⟩:=vl.mp g;exact h (d b a e▸hb)
theorem Inv.moved {a:Hr}{c:St}{H:Hp}{s s':cc}(I:Inv X a c H s)(k:∀ b o,#[15]=aa o->s'.heap.get? b=aa o)(g:s'.gens=s.gens)(o:s'.os=s.os):Inv X a c H s':=by obtain⟨d,g',d',t',e⟩:=s';cases g;cases o;exact I.call (d':=d') (t':=t') (g':=s.gens) (ch:=[]) (Un.kept k) (I.HZ.kept k) I.bare λb z=>hK z #[3]
theorem sI (hc:X.calm=a6):dS X (.builtin "sorted") (λxs H Q => ∃ (p:b0) (n:ae Key) (J:ae b0) (ds out:ae D),xs=[.ref p]/\H p=aa (CI X.prog X.w p n)/\(∀ a∈J,H a≠av)/\Hz X.K H J ds (n.map kV)/\gm ds=aa out/\∀ H' v,HJ H H'->At X.K H' J (.lst out) v->Q v H'):=by
 intro N s σ H xs L Q I r h;obtain⟨p,n,J,ds,out,rfl,S,hJ,m0,e,q⟩:=h;obtain⟨u,rfl,Y⟩:=vals1 r;cases Y;obtain⟨⟨o,es,ep,t,j,hex,hd,C,hb,O,Ki,_,hr⟩,_,_⟩:=I.HZ p _ S;obtain⟨l,pm,T⟩:=id C;have ez:=Iw.len (h:=s.heap) (p:=p) C;have B:es.size<=dk:=qs (hv hb #[1]);refine jl hJ e q λQ' E hQ=>?_;have hh:X.A.in1.handled=av:=I.ok.hd hc;refine mN (.inl rfl) ⟨o,j,hex.1⟩ (λL=>L.Perm (l.map (·.2))) (λP Q2 E2 m OY=>?_) λs' c W k g os=>?_
 ·refine vU (s:={ s with heap:=P }) (m _ _ j) hex hd O B (λhb=>by rw[Ki,hb];rfl) hr λit x fp F first h' d y si hF G f N6=>?_
  have JS:p≠it:=λz=>by have R:p<P.objs.size:=ek (m _ _ j);rw[z] at R;exact hK (hv R f) (qb _)
  refine OY it fp [it] es.size _ _ _ ((Walks.set (A:=X.A.in1.in1) hh y JS hex hd O).toS) ⟨G _ _ (m _ _ j),first,si,hF⟩ B N6 (λb hb=>by rw[eR.mp hb];exact f) G rfl rfl λc ha=>?_;obtain⟨a1,a2⟩:=ha;have X5:x.size=es.size:=by have:=y.perm.length_eq;simpa using this
  have Z:c.toList=x.toList.map (·.2):=by
   apply Qf;intro i;by_cases hi:i<es.size
   ·have M:c[i]?=aa c[i]:=hY #[0];have:=a2 i _ M;rw[eh,ih,ih,M,this]
   rw[eh,ih,ih,Wx #[0],Wx #[0]];rfl
  rw[Z];exact(y.perm.trans pm.symm).map _
 have rv:=Iw.vals T;obtain⟨M3,U,r1⟩:=x9 W rv;obtain⟨V,p2,m2⟩:=A4 U m0;exact hQ c M3 s' V (I.moved k g os) r1 p2 m2
theorem Bi {K:Ho}{H:Hp}{J:ae b0}{ss:ae ej}{vs:ae V}(m:Hz K H J (ss.map .str) vs):vs=ss.map V.str/\∀ x∈ss,N2 x:=by
 induction ss generalizing vs with
 |nil=>exact⟨Hz.HA.mp m,λx hx=>by cases hx⟩
 |cons a l c =>
  obtain⟨v,r,rfl,m1,m2⟩:=Hz.Hy.mp m;obtain⟨f,b⟩:=At.HE.mp m1;obtain⟨e,d⟩:=c m2;subst f e;refine⟨rfl,λx hx=>?_⟩;rcases gi.mp hx with rfl |hx
  ·exact b
  exact d x hx
theorem rQ {a:gj}(e:x="sorted")(A:y="set")(hc:X.calm=a6)(j:X.mg x=av)(u:X.mg y=av)(ha:SE X W a fe)(w:Gl X x:=by rfl)(L:Gl X y:=by rfl)
  (n:dm [a] X.env=(bo,lX a X.env)::dm [] X.env:=by rfl)
  (f:dm [(.Call (.Name y p2) [a] [] Ji)] X.env=(bo,lX (.Call (.Name y p2) [a] [] Ji) X.env)::dm [] X.env:=by rfl)
  (I:(mf Ji (dm [] X.env)).any (·.1)=bo:=by rfl) (C:(mf pos (dm [] X.env)).any (·.1)=bo:=by rfl) :
  SE X W (.Call (.Name x p) [.Call (.Name y p2) [a] [] Ji] [] pos) (Ju hW fe):=by
 subst e;refine PE.imp (gW (sI hc) w j lR (cn (ye hc A u ha L n I) Ik f) #[1] #[1] f C) λN H Q h=>?_;refine(tG.HH h).mono λv P ⟨d,l⟩=>?_;obtain⟨J,R,S,D,g,eq,q⟩:=tG.Qd l;unfold hW at eq;split at eq
 ·rename_i M;split at eq
  ·rename_i hb;obtain⟨c,t,s⟩:=dv.mp eq;subst s;have B:=ko t;subst B;rw[dV] at hb;obtain⟨b,r,rfl,G,m⟩:=At.HK.mp g;obtain⟨ev,ok⟩:=Bi m;have WE:r=(c.map Pd).map kV:=by rw[ev,lE];rfl
   subst WE;show ll _ _ _;refine⟨b,c.map Pd,rfl,G.sq,by rw[dV];omega,λp i=>?_⟩;show ll _ _ _;have k:(c.map (Pd:ej->Key)).foldl br []=(c.foldl br []).map Pd:=uB Pd (λa b h=>by cases h;rfl) c [];rw[k];refine⟨p,(c.foldl br []).map Pd,J,(c.foldl br []).map .str,_,rfl,HG,λa ha=>?_,?_,?_,λo v E K=>q o v ((aO i _).trans E) K⟩
   ·by_cases z:a=p
    ·rw[z,HG];simp
    rw[aG z];exact D a ha
   ·rw[lE];refine Hz.ofStrs λx e=>ok x ?_;rcases (uA c [] x).mp e with h |h
    ·cases h
    exact h
   unfold gm;have F:=uC c ([]:ae ej);have O : 4000<=dk:=#[4]
   rw[dw (by rw[dV];simp only[QM] at F;omega),fz]
  cases eq
 cases eq
theorem lD {α c:Type}{R : α->c->Prop}:∀ {l:ae α}{m:ae c},l.length=m.length->(∀ (i:Nat) a b,l[i]?=aa a->m[i]?=aa b->R a b)->i4 R l m
 |[],[],_,_ => .nil
 |a::l,b::m,h,k => .cons (k 0 a b rfl rfl) (lD (by simpa using h) λi x y e d=>k (i+1) x y (by simpa using e) (by simpa using d))
 |[],_::_,h,_=>by simp at h
 |_::_,[],h,_=>by simp at h
theorem oo {α e:Type}{R : α->e->Prop}{l:ae α}{m:ae e}(r:i4 R l m):∀ (i:Nat) a b,l[i]?=aa a->m[i]?=aa b->R a b:=by
 induction r with
 |nil=>intro i a b h;simp at h
 |cons f t g =>
  intro i a b c d;cases i with
  |zero=>simp at c d;subst c d;exact f
  |succ i=>exact g i a b (by simpa using c) (by simpa using d)
theorem xq {P:ew}{w:hB}{k:Key}{u:ay}(h:(bF P w).is k u=a6):RelV (kV k) u:=by
 rcases bD h with ⟨i,t,rfl,e⟩ |⟨x,t,rfl,e⟩
 ·exact⟨t,e⟩
 exact⟨t,e⟩
theorem uP (hc:X.calm=a6):dS X (.builtin "sorted") (λxs H Q => ∃ (p:b0) (j:ae (Key×V)) (J:ae b0) (ds out:ae D),xs=[.ref p]/\H p=aa (.dK j)/\(∀ a∈J,H a≠av)/\Hz X.K H J ds (j.map λq=>kV q.1)/\gm ds=aa out/\∀ H' v,HJ H H'->At X.K H' J (.lst out) v->Q v H'):=by
 intro G s σ H xs B Q I r h;obtain⟨p,j,J,ds,out,rfl,L,hJ,m,e,q⟩:=h;obtain⟨u,rfl,S⟩:=vals1 r;cases S;obtain⟨P,M,n,C,hd⟩:=I.HZ p _ L;obtain⟨ep,TR⟩:=hd.dictAt;have d:n.length=j.length:=(KV.length C).symm;refine jl hJ e q λQ' E W=>?_;have R:X.A.in1.handled=av:=I.ok.hd hc;refine mN (.inr rfl) hd.typeIs (λB=>Vals (j.map λq=>kV q.1) B) (λf Q2 E2 k0 T=>?_) λN c l k g os=>?_
 ·have t:f.DictAt (bF X.prog X.w) p n ep:=TR.keep k0;refine wpAny_pyIter_dict (s:={ s with heap:=f }) M t ?_;have Io:p<f.objs.size:=t.lt_size
  refine T f.objs.size [f.objs.size,p] [f.objs.size] n.length _ _ _ ((Walks.dictKeys (A:=X.A.in1.in1) R f.objs.size p (md Io) n ep).toS) ⟨⟨_,en _ rfl,rfl,rfl⟩,t.push _⟩ (by rw[d];exact P)
   (λb hb=>by
    rcases gi.mp hb with z |hb
    ·rw[z];exact .inr (eG _)
    exact .inl (eR.mp hb))
   (λb hb=>by rw[eR.mp hb];exact eG _) (λb o e=>cv _ e) rfl rfl λc Z=>?_
  obtain⟨a1,a2⟩:=Z;refine lD (by have y:c.toList.length=c.size:=hH;rw[dV,y,a1,d]) λi v u l F=>?_;rw[ih] at F;obtain⟨k,x,y,Y⟩:=a2 i u F;rw[eh] at l;obtain⟨q,U,O⟩:=dv.mp l;have e5:=(oo C i q (k,x) U y).1;rw[← O,e5];exact xq Y
 exact W c _ N ds (I.moved k g os) l (.refl _) m
theorem Bp (F:x="sorted")(hc:X.calm=a6)(n:X.mg x=av)(ha:SE X W e fe)(s:Gl X x:=by rfl)(g:dm [e] X.env=(bo,lX e X.env)::dm [] X.env:=by rfl)(w:(mf pos (dm [] X.env)).any (·.1)=bo:=by rfl) :
  SE X W (.Call (.Name x p) [e] [] pos) (xL fe):=by
 subst F
 refine SE.either (g1:=a7 zo (ag fe aD)) (g2:=λi S=>aj (fe i S) λd j=>aQ (match d with | .loc l=>(match j[l]? with |aa (.dict b)=>(gm (b.map (·.1))).map .lst |_=>av) |_=>av) j)
  (aH Ct n lR (ac ha ai g) s #[1] #[1] g w) ?_ λi S=>?_
 ·refine PE.imp (gW (uP hc) s n lR (cn ha Ik g) #[1] #[1] g w) λN H Q h=>?_;refine(tG.HH h).mono λv O ⟨d,B⟩=>?_;obtain⟨J,i,S,r,L,c,m,eq,z⟩:=B;obtain⟨m,_⟩:=m.HF;show ll _ _ _;cases d with
  |loc l =>
   obtain⟨a,rfl,G⟩:=At.HX.mp m;cases hS:S[l]? with
   |none=>simp[hS] at eq
   |some A =>
    cases A with
    |lst M=>simp[hS] at eq
    |exc c=>simp[hS] at eq
    |HL _=>simp[hS] at eq
    |ins _ _=>simp[hS] at eq
    |tab _ _=>simp[hS] at eq
    |Qc _ _ _ _=>simp[hS] at eq
    |dict b =>
     simp only[hS] at eq;cases hq:gm (b.map (·.1)) with
     |none=>simp[hq] at eq
     |some out =>
      simp only[hq,Vq,cA,HC] at eq;cases eq;obtain⟨C,k,E⟩:=c.Ie.at_ l a _ G hS;refine⟨a,C,J,b.map (·.1),out,rfl,k,c.Ie.all,?_,hq,λD v u K=>z J D v (Ex.same u) (c.Ie.same u) K⟩;clear hq hS z k
      induction E with
      |nil=>exact .nil
      |cons f t y=>exact .cons f.1.2 y
  |_=>simp at eq
 unfold xL a7 ag aD;cases q:fe i S with
 |none=>exact .inl rfl
 |some o =>
  obtain⟨I,j⟩:=o;cases I with
  |error c=>exact .inl rfl
  |ok d=>cases d<;>first |exact .inl rfl |exact .inr rfl
end
mutual
inductive Lit:gj->D->Prop
 |int {i:Int}{j p}:Lit (.Constant (.int i) j p) (.int i)
 |bl {b:e8}{j p}:Lit (.Constant (.bool b) j p) (.bl b)
 |Ic {j p}:Lit (.Constant .none j p) .Ic
 |str {x:ej}{j p} (hx:N2 x):Lit (.Constant (.str x) j p) (.str x)
 |neg {i:Int}{j p q}:Lit (.UnaryOp .USub (.Constant (.int i) j p) q) (.int (-i))
 |tup {es:ae gj}{ds:ae D}{k p} (h:M6 es ds) (n:ds.length<=1000):Lit (.Tuple es k p) (.tup ds)
 |lst {es:ae gj}{ds:ae D}{p} (h:M6 es ds) (n:ds.length<=1000):Lit (.List es p) (.lst ds)
inductive M6:ae gj->ae D->Prop
 |nil:M6 [] []
 |cons {e:gj}{d:D}{es:ae gj}{ds:ae D}(h:Lit e d) (r:M6 es ds):M6 (e::es) (d::ds)
end
section
variable {X:Cx}{W:WT}
theorem SE.eq {e:gj}{g g':Hn D}(h:SE X W e g)(q:g=g'):SE X W e g':=q▸h
theorem SA.eq {e:ae gj}{g g':Hn (ae D)}(h:SA X W e g)(q:g=g'):SA X W e g':=q▸h
theorem zm {e:gj}{d:D}(h:Lit e d)(es:ae gj):dm (e::es) X.env=(bo,lX e X.env)::dm es X.env:=by cases h<;>rfl
mutual
theorem lw:∀ {e:gj}{d:D},Lit e d->SE X W e (ar d)
 |_,_,.int=>ah
 |_,_,.bl=>dH
 |_,_,.Ic=>Dj
 |_,_,.str a=>dg a
 |_,_,.neg=>SE.eq (tM nK ah) rfl
 |_,_,.tup (ds:=ds) h n=>SE.eq (eU (vN h)) (by
   funext ρ S;show aQ (Ky ds (.tup ds)) S=HC (.tup ds) S;unfold Ky
   rw[dw (fk n (by decide))];rfl)
 |_,_,.lst (ds:=ds) h n=>SE.eq (fN (vN h)) (by
   funext ρ S;show aQ (Ky ds (.lst ds)) S=HC (.lst ds) S;unfold Ky
   rw[dw (fk n (by decide))];rfl)
theorem vN:∀ {es:ae gj}{ds:ae D},M6 es ds->SA X W es (λ_ S=>HC ds S)
 |_,_,.nil=>ai
 |_,_,.cons h r=>SA.eq (ac (lw h) (vN r) (zm h _)) rfl
end
end
noncomputable def FB (F:Ht)(t:Hn (ae D)):Hn D:=λc S=>aj (t c S) λa b=>F a b
noncomputable def Ej (c:ej)(t:Hn (ae D)):Hn Fl:=λe S=>aj (t e S) λa b=>aj (aQ (Ky a .Ic) b) λ_ d=>aa (.error c,d)
end L2
namespace L2
open PySem PySem.Spec PySem.Calls PyProof.Rows PySem.W
structure U8 (K:Frag) (C:b0):Prop where
 cls:ml K (.ref C) "__class__"=aa (aa (.builtin "object.__class__"))
 ga:ml K (.ref C) "__getattribute__"=aa (aa (.builtin "BaseException.__getattribute__"))
 gn:ml K (.ref C) "__getattr__"=aa av
 so:subIn K (.ref C) (.type "object")=aa a6
 sb:subIn K (.ref C) (.type "BaseException")=aa a6
 is:(clsIn K C).isSome=a6
end L2
namespace L2
open PySem PySem.Spec PyProof.Rows PySem.W
section
variable {X:Cx}{W:WT}{e:gj}{fe fa:Hn D}{pos p p2:N5}
noncomputable def Fi (a:ej->ax e8)(d:D)(S:Hu):ax D:=match d with
 | .loc l=>(match S[l]? with
  |aa (.exc c)=>(a c).map .bl
  |_=>av)
 |_=>av
noncomputable def GJ (a:ej->ax e8)(fe:Hn D):Hn D:=λc S=>aj (fe c S) λd b=>aQ (Fi a d b) b
end
section
variable {X:Cx}{W:WT}{fe fa:Hn D}
theorem fw:∀ {us:ae ay}{ns:ae Int},Vals (ns.map V.int) us->Pm us ns
 |_,[],r=>by cases r;exact .nil
 |_,n::ns,r=>by
  cases r with
  |cons a b =>
   obtain⟨t,rfl⟩:=a;exact .cons n t (fw b)
theorem Af:Qb X "list.index" (λx xs H Q => ∃ (a:b0) (ns:ae Int) (k:Int),x = .ref a/\xs=[.int k]/\K9 X.K H a (ns.map V.int)/\WL (.list (ns.map .int))=a6/\k∈ns/\Q (.int (ns.idxOf k:Nat)) H):=by intro b s t H x xs v r Q I m e h;obtain⟨a,ns,k,rfl,rfl,p,j,i,q⟩:=h;cases m;obtain⟨u,rfl,f⟩:=vals1 e;obtain⟨t2,rfl⟩:=f;obtain⟨its,c,⟨o,n,d,l,_,g⟩,_⟩:=I.list p;exact index_list_ints (vs:=its) ⟨o,d,l,n,g⟩ (fw c) j i ⟨.int _,H,I.tok _,⟨_,rfl⟩,q⟩
noncomputable def sx:D->e8
 | .lst _=>a6
 |_=>bo
noncomputable def oS:D->D->ax D
 | .lst a,.int k=>(cI a).bind λns=>if k∈ns/\WL (.list (ns.map .int))=a6 then aa (.int (ns.idxOf k:Nat)) else av
 |_,_=>av
theorem DU {J:ae b0}{b:Hp}{d:D}{v:V}(c:sx d=a6)(m:At X.K b J d v):Pn X.K "list" v b:=by
 cases d<;>first |(cases c;done) |skip
 rename_i f;obtain⟨a,e,rfl,lq,_⟩:=At.HN.mp m;exact .inl ⟨rfl,e,lq.sq⟩
theorem Al {o:gj}{name:ej}{b c:N5}{a:gj}(B:name="index")(n:SE X W o fe)(ha:SE X W a fa)(j:ro o name X.env (lX o X.env)=lX o X.env:=by rfl)
  (u:((mf c (dm [a] X.env)).all (λx => !x.1)&&(O0 c (Jf [] X.env)).all (λx=>x.1.isSome)
   && dr ([a].length+([]:ae Ow).length+(if ([]:ae Ow).isEmpty then 0 else 1)<30))=a6:=by rfl)
  (A:(b.endLine==c.line)=a6:=by rfl) (f:dm [a] X.env=(bo,lX a X.env)::dm [] X.env:=by rfl) (l:(mf c (dm [] X.env)).any (·.1)=bo:=by rfl) :
  SE X W (.Call (.Attribute o name b) [a] [] c) (sQ sx oS fe fa):=by
 subst B;refine PE.imp (xk F.plainAttrs_list F.slot_list_index F.type_list_index Af n (cn ha Ik f) j u A f l) λE H Q h=>oG (λJ G d v r m=>DU r m) (λv I i Q q=>?_) h;obtain⟨J,K,C,L,M,g,p,eq,q⟩:=q;unfold oS at eq;split at eq
 ·rename_i D k;obtain⟨ns,y,e⟩:=kl.mp eq;rw[0]
  ·rename_i hc;cases e;cases At.Hw.mp p;obtain⟨a,s,rfl,lq,w⟩:=At.HN.mp g;have z:=gZ y;subst z;have t:s=ns.map V.int:=Hz.KO w;subst t;exact⟨a,ns,k,rfl,rfl,lq.sq,hc.2,hc.1,q i _ (HJ.refl _) (#[14])⟩
  cases e
 cases eq
end
section
variable {X:Cx}{W:WT}{e:gj}{fe:Hn D}{pos p:N5}{x:ej}
noncomputable def Fg (d:D)(S:Hu):ax D:=match d with
 | .loc l=>(match S[l]? with
  |aa (.dict kvs)=>aa (.int kvs.length)
  |_=>av)
 |_=>av
theorem uQ (hc:X.calm=a6):dS X (.type "list") (λxs H Q => ∃ (p:b0) (d:ae (Key×V)),xs=[.ref p]/\H p=aa (.dK d)/\∀ l,H l=av->Q (.ref l) (upd H l (.lst (d.map λq=>kV q.1)))):=by
 intro t s N H xs L Q I r h;obtain⟨p,d,rfl,y,q⟩:=h;obtain⟨u,rfl,C⟩:=vals1 r;cases C;obtain⟨g,z,m,j,hd⟩:=I.HZ p _ y;obtain⟨ep,K⟩:=hd.dictAt;have b:m.length=d.length:=(KV.length j).symm;refine kdl_call (kdl_dict (kvs:=m) (ep:=ep) (knd:=bF X.prog X.w) z) (I.ok.hd hc) K (by rw[b];exact g) λM tk a c k G F=>?_;obtain⟨a1,a2⟩:=F;have A:Vals (d.map λq=>kV q.1) a.toList:=by refine lD (by have e:a.toList.length=a.size:=hH;rw[dV,e,a1,b]) λi v u f n=>?_;rw[ih] at n;obtain⟨k,x,e,E⟩:=a2 i u n;rw[eh] at f;obtain⟨q,D,B⟩:=dv.mp f;have J:=(oo j i q (k,x) D e).1;rw[← B,J];exact xq E
 exact⟨#[11],_,I.laid (t':=tk) (o:=.lst (d.map λq=>kV q.1)) k (eG _) ⟨by rw[dV];exact g,a.toList,c,A,by simpa using G⟩,rfl,q _ I.fresh⟩
noncomputable def d4 (d:D)(S:Hu):ax D:=match d with
 | .loc l=>(match S[l]? with
  |aa (.dict kvs)=>if kvs.length<=dk then aa (.lst (kvs.map (·.1))) else av
  |_=>av)
 |_=>av
noncomputable def lO (fe:Hn D):Hn D:=λb S=>aj (fe b S) λd a=>aQ (d4 d a) a
theorem tN (M:X.A.units+1<n0)(u:X.mg x=av)(ha:SE X W e fe)(hc:X.calm=a6:=by rfl)(C:x="list":=by rfl)(E:Gl X x:=by rfl)(j:dm [e] X.env=(bo,lX e X.env)::dm [] X.env:=by rfl)(G:(mf pos (dm [] X.env)).any (·.1)=bo:=by rfl) :
  SE X W (.Call (.Name x p) [e] [] pos) (lO fe):=by
 subst C;refine PE.imp (fB (uQ hc) E u nk (cn ha Ik j) #[1] #[1] j G) λL H Q h=>?_;refine(tG.HH h).mono λv B ⟨d,y⟩=>?_;obtain⟨J,O,S,r,I,c,m,eq,z⟩:=y;obtain⟨m,_⟩:=m.HF;show ll _ _ _;unfold d4 at eq;cases d with
 |loc l =>
  obtain⟨a,rfl,F⟩:=At.HX.mp m;cases hS:S[l]? with
  |none=>simp[hS] at eq
  |some w =>
   cases w with
   |dict g =>
    simp only[hS] at eq;split at eq
    ·rename_i k;cases eq;obtain⟨n,i,o⟩:=c.Ie.at_ l a _ F hS;refine⟨a,n,rfl,i,λN b=>?_⟩
     have D:Hz X.K B J (g.map (·.1)) (n.map λq=>kV q.1):=by
      clear hS z i k
      induction o with
      |nil=>exact .nil
      |cons f t s=>exact .cons f.1.2 s
     refine z J _ _ (Ex.same (aO b _)) (c.Ie.same (aO b _)) (At.IW D b (λa ha=>c.Ie.tracked ha) ?_);rw[dV,← o.length];exact k
    cases eq
   |_=>simp[hS] at eq
 |_=>simp at eq
end
noncomputable def fO (a b:D):e8:=match f_ a,f_ b with
 |aa p,aa q=>fh p q
 |_,_=>bo
noncomputable def putN (kvs:ae (D×D))(k v:D):ae (D×D):=if (kvs.any λp=>fO p.1 k)=a6 then kvs.map (λp=>if fO p.1 k=a6 then (p.1,v) else p) else kvs++[(k,v)]
noncomputable def kK (kvs:ae (D×D))(k:D):ax D:=(kvs.find? λp=>fO p.1 k).map (·.2)
noncomputable def kE (b:ae (e9×b0×V)) (k:e9) (a:b0) (v:V):ae (e9×b0×V):=if (b.any λp=>dr (p.1=k))=a6 then b.map (λp=>if p.1=k then (p.1,p.2.1,v) else p) else b++[(k,a,v)]
noncomputable def qg (a:ae (e9×b0×V)) (k:e9):ax V:=(a.find? λp=>dr (p.1=k)).map (·.2.2)
abbrev RQ:(e9×b0×V)->(e9×b0×ay)->Prop:=λp q=>p.1=q.1/\p.2.1=q.2.1/\RelV p.2.2 q.2.2
theorem sk {d:D}{p:e9}(h:f_ d=aa p):toPy d=aa p/\keyOk 8 p=a6:=by
 unfold f_ at h;obtain⟨q,c,a⟩:=kl.mp h;split at a
 ·rename_i b;cases a;exact⟨c,b⟩
 cases a
section
variable {K:Ho}{H H':Hp}{J J':ae b0}
theorem nZ {a k:D}{x y:e9}(h:f_ a=aa x)(g:f_ k=aa y):fO a k=dr (x=y):=by unfold fO;rw[h,g];exact qL (sk h).2 (sk g).2
theorem Ew {kvs:ae (D×D)}{a:ae (e9×b0×V)}{k:D}{y:e9}(g:f_ k=aa y)(r:i4 (MX K H J) kvs a):(kvs.any λp=>fO p.1 k)=a.any λq=>dr (q.1=y):=by
 induction r with
 |nil=>rfl
 |cons h t b=>rw[J7,J7,b,nZ h.1.1 g]
theorem yp {kvs:ae (D×D)}{a:ae (e9×b0×V)}{k v:D}{y:e9}{w:V}(g:f_ k=aa y)(b:At K H J v w)(r:i4 (MX K H J) kvs a) :
  i4 (MX K H J) (kvs.map λp=>if fO p.1 k=a6 then (p.1,v) else p) (a.map λq=>if q.1=y then (q.1,q.2.1,w) else q):=by
 induction r with
 |nil=>exact .nil
 | @cons p q d f h t c =>
  refine .cons ?_ c;show MX K H J (if fO p.1 k=a6 then (p.1,v) else p) (if q.1=y then (q.1,q.2.1,w) else q);rw[nZ h.1.1 g];by_cases e:q.1=y
  ·rw[dw (e4 e),dw e];exact⟨h.1,b⟩
  rw[ee (by rw[cX e];decide),ee e];exact h
theorem yr {k v:D}{y:e9}{b:b0}{w:V}(g:f_ k=aa y)(e:At K H J k (.ref b))(d:At K H J v w){a:ae (D×D)}{c:ae (e9×b0×V)}(h:i4 (MX K H J) a c):i4 (MX K H J) (a++[(k,v)]) (c++[(y,b,w)]):=by
 induction h with
 |nil=>exact .cons ⟨⟨g,e⟩,d⟩ .nil
 |cons h t f=>exact .cons h f
theorem Dw {kvs:ae (D×D)}{c:ae (e9×b0×V)}{k v:D}{y:e9}{b:b0}{w:V}(g:f_ k=aa y)(d:At K H J k (.ref b))(a:At K H J v w)(r:i4 (MX K H J) kvs c):i4 (MX K H J) (putN kvs k v) (kE c y b w):=by
 unfold putN kE;rw[Ew g r];split
 ·exact yp g a r
 exact yr g d a r
theorem AE {kvs:ae (D×D)}{a:ae (e9×b0×V)}{k:D}{y:e9}(g:f_ k=aa y)(r:i4 (MX K H J) kvs a) :
  (kK kvs k=av/\qg a y=av)∨∃ d v,kK kvs k=aa d/\qg a y=aa v/\At K H J d v:=by
 unfold kK qg
 induction r with
 |nil=>exact .inl ⟨rfl,rfl⟩
 | @cons p q c f h t b =>
  rw[o3,o3,nZ h.1.1 g];by_cases e:q.1=y
  ·rw[e4 e];exact .inr ⟨p.2,q.2.2,rfl,rfl,h.2⟩
  rw[cX e];exact b
end
theorem Dq {a:ae (e9×b0×V)}{xs:ae (e9×b0×ay)}(r:i4 RQ a xs)(k:e9):(a.any λp=>dr (p.1=k))=(Vn xs k).isSome:=by
 unfold Vn;rw[Sl]
 induction r with
 |nil=>rfl
 | @cons p q c d h t b =>
  rw[J7,o3,b,h.1];by_cases e:q.1=k
  ·rw[e4 e];rfl
  rw[cX e];rfl
theorem zF {a:ae (e9×b0×V)}{xs:ae (e9×b0×ay)}(r:i4 RQ a xs)(k:e9):Js (qg a k) ((Vn xs k).map (·.2)):=by
 unfold qg Vn
 induction r with
 |nil=>exact JK
 | @cons p q c d h t b =>
  rw[o3,o3,h.1];by_cases e:q.1=k
  ·rw[e4 e];exact h.2.2
  rw[cX e];exact b
theorem Do {a:ae (e9×b0×V)}{xs:ae (e9×b0×ay)}(r:i4 RQ a xs)(k:e9){v:V}{u:ay}(c:RelV v u):i4 RQ (a.map λp=>if p.1=k then (p.1,p.2.1,v) else p) (xs.map (putAt k u)):=by
 induction r with
 |nil=>exact .nil
 | @cons p q d f h t b =>
  refine .cons ?_ b;show RQ (if p.1=k then (p.1,p.2.1,v) else p) (putAt k u q);unfold putAt;by_cases e:p.1=k
  ·rw[dw e,dw (h.1.symm.trans e)];exact⟨h.1,h.2.1,c⟩
  rw[ee e,ee (λz=>e (h.1.trans z))];exact h
theorem Dp {a:ae (e9×b0×V)}{xs:ae (e9×b0×ay)}(r:i4 RQ a xs)(k:e9)(b:b0){v:V}{u:ay}(d:RelV v u):i4 RQ (a++[(k,b,v)]) (xs++[(k,b,u)]):=by
 induction r with
 |nil=>exact .cons ⟨rfl,rfl,d⟩ .nil
 |cons h t c=>exact .cons h c
theorem Dn {a:ae (e9×b0×V)}{xs:ae (e9×b0×ay)}(r:i4 RQ a xs)(k:e9)(b:b0){v:V}{u:ay}(c:RelV v u):i4 RQ (kE a k b v) (storedH xs k b u):=by
 unfold kE storedH;rw[Dq r k];split
 ·exact Do r k c
 exact Dp r k b c
theorem yn (a:ae (e9×b0×V))(k:e9)(b:b0)(v:V):(kE a k b v).length<=a.length+1:=by
 unfold kE;split
 ·rw[dV];omega
 rw[cq];simp
section
variable {X:Cx}{pins:Hr}{σ:St}{H:Hp}{s:cc}{J:ae b0}{a:b0}
theorem kJ (I:#[10]){d:D}{y:e9}{b:b0}(g:f_ d=aa y)(m:At X.K H J d (.ref b)):(ba X.prog X.w).is s.heap y b:=by obtain⟨c,a⟩:=sk g;exact⟨a,(At.reads I m (show RelV (.ref b) (.ref b) from rfl) c).2⟩
theorem xF {kvs:ae (D×D)}{b:ae (e9×b0×V)}(I:#[10])(e:H a=aa (.dN b))(r:i4 (MX X.K H J) kvs b) :
  b.length<=dk/\(a==MV)=bo/\∃ xs,i4 RQ b xs/\s.heap.DictOfH (ba X.prog X.w) a xs:=by
 obtain⟨z,y,xs,q,o,es,ep,f,j,i,d,g⟩:=I.HZ a _ e;refine⟨z,y,xs,q,o,es,ep,f,j,i,d,?_,g⟩;clear f j i d g z e
 induction r generalizing xs with
 |nil=>cases q;intro x hx;exact nomatch hx
 | @cons p u m n h t k =>
  cases q with
  |cons c l =>
   intro x hx;rcases gi.mp hx with e |hx
   ·subst e;rw[← c.1,← c.2.1];exact kJ I h.1.1 h.1.2
   exact k _ l x hx
end
def wS (K:Ho)(H:Hp)(a:b0)(y:V)(r:ax V):Prop:=∃ J c d e f b,H a=aa (.dN d)/\i4 (MX K H J) c d/\f_ e=aa f/\At K H J e (.ref b)/\y = .ref b/\r=qg d f
def FK (K:Ho)(H:Hp)(a:b0)(y v:V)(H':Hp):Prop:=∃ J d c e f b,H a=aa (.dN c)/\i4 (MX K H J) d c/\f_ e=aa f/\At K H J e (.ref b)/\y = .ref b/\c.length<dk/\H'=upd H a (.dN (kE c f b v))
section
variable {X:Cx}{pins:Hr}{σ:St}{H:Hp}{s:cc}{a:b0}{y v:V}{u r:ay}{o:ax V}{A:hG}{E:Hq}
theorem v5 (a:A.units+150<n0):(ba X.prog X.w).room A.in1:=by show A.units+1+8<n0;omega
theorem yE {Q:Hq}(r:A.units+150<n0)(I:#[10])(g:wS X.K H a y (aa v))(t:RelV y u)(h:∀ c s',Inv X pins σ H s'->RelV v c->Q c s') :
  d6 #[9] A (OT (.ref a) u) Q E s:=by
 obtain⟨J,q,D,F,d,b,e,C,x,mk,m,l⟩:=g;subst m;cases (show u=h6 b from t);obtain⟨z,hd,i,rel,k⟩:=xF I e C;obtain⟨c,n,j⟩:=Js.some_of (v:=v) (o:=(Vn i d).map (·.2)) (by rw[l];exact zF rel d);obtain⟨p,f,B⟩:=dv.mp n;refine YD (v5 r) (kJ I x mk) k f ?_;rw[B];exact h c _ (I.tok _) j
theorem BZ {Q:Hq}(j:A.units+150<n0)(I:#[10])(g:wS X.K H a y o)(k:RelV y u)(h:∀ s',Inv X pins σ H s'->Q (.bool (!o.isSome)) s') :
  d6 #[9] A (lg .NotIn u (.ref a)) Q E s:=by
 obtain⟨J,i,r,t,c,b,e,n,m,mk,f,l⟩:=g;subst f;cases (show u=h6 b from k);obtain⟨z,hd,p,rel,d⟩:=xF I e n;refine wpAny_notIn_heap (v5 j) (kJ I m mk) hd d ?_;have q:=(zF rel c).IG;rw[Sl] at q;rw[← q,← l];exact h _ (I.tok _)
theorem yD {H':Hp}{Q:Unit->cc->Prop}(D:A.units+150<n0)(I:#[10])(g:FK X.K H a y v H')(F:RelV y u)(i:RelV v r)(h:∀ s',Inv X pins σ H' s'->Q () s') :
  d6 #[9] A (setItem (.ref a) u r) Q E s:=by
 obtain⟨J,C,f,R,c,b,e,O,M,mk,B,l,x⟩:=g;subst B x;cases (show u=h6 b from F);obtain⟨z,hd,j,rel,p⟩:=xF I e O;have n:j.length<=dk:=by rw[← Q7 rel];exact z
 have N:(kE f c b v).length<=dk:=by have:=yn f c b v;omega
 refine YE (hsz:=n) (v5 D) (kJ I M mk) p λP G o=>h _ ?_;obtain⟨q,es,ep,d,L,t,k,_,m⟩:=G;exact sH I (by rw[e];exact JK) o ⟨q,d⟩ ⟨N,hd,_,Dn rel c b i,q,es,ep,d,L,t,k,m⟩
theorem Ab (I:#[10])(g:wS X.K H a y o):s.TypeIs (.ref a) "dict":=by obtain⟨J,c,j,k,m,b,e,f,n,mk,i,l⟩:=g;obtain⟨_,_,h,_,d⟩:=xF I e f;exact d.typeIs
end
section
variable {X:Cx}{o i e value:gj}{pos pos' QC:N5}{td ty tv:TE}
theorem BJ (t:X.A.units+150<n0)(n:PE X o td)(hi:PE X i ty)(q:zc i):PE X (.Subscript o i pos) (λc H Q=>td c H λx e=>ty c e λy d => ∃ a v,x = .ref a/\wS X.K d a y (aa v)/\Q v d):=by intro b s c H Q I h;refine w5 Tx.lookup q (HU (n b s c H _ I h) λu p ⟨x,e,k,z,m⟩=>HU (hi b p c e _ k m) λE G j=>?_);obtain⟨y,d,f,w,a,v,ex,g,B⟩:=j;subst ex;obtain rfl:u=h6 a:=z;exact⟨Ab f g,yE t f g w λD C r l=>⟨v,d,r,l,B⟩⟩
theorem yv (r:X.A.units+150<n0)(hi:PE X i ty)(l:PE X o td):PC X .NotIn i o (λc H Q=>ty c H λy e=>td c e λx d => ∃ a o,x = .ref a/\wS X.K d a y o/\Q (.bl (!o.isSome)) d):=by intro b s c H Q I h;refine HU (hi b s c H _ I h) λB m ⟨y,e,j,t,k⟩=>HU (l b m c e _ j k) λu C f=>?_;obtain⟨x,d,q,v,a,p,ex,g,w⟩:=f;subst ex;obtain rfl:u=h6 a:=v;exact BZ r q g t λz n=>⟨.bl (!p.isSome),d,n,rfl,w⟩
theorem BB (E:X.A.units+150<n0)(q:PE X o td)(hi:PE X i ty)(l:PE X value tv)(w:N_ value (aa (.Subscript o i pos')) pos.line X.env=u1 bo) :
  PS X (.Assign [.Subscript o i pos'] value pos) (λD c H=>tv c H λv f=>td c f λx e=>ty c e λy j => ∃ a d,x = .ref a/\FK X.K j a y v d/\D.nx c d):=by
 intro b s c H D I h;refine VZ (HU (l b s c H _ I h) λr t ⟨v,f,n,m,p⟩=>HU (q b t c f _ n p) λu J ⟨x,e,C,L,M⟩=>HU (hi b J c e _ C M) λO N k=>?_) w;obtain⟨y,j,B,F,a,d,ex,g,z⟩:=k;subst ex;obtain rfl:u=h6 a:=L;exact yD E B g F m λP G=>⟨c,d,G,z⟩
end
noncomputable def eV:D->e8
 | .tup _=>a6
 |_=>bo
section
variable {X:Cx}{W:WT}{pos pos':N5}{o i e:gj}{fo fi fv:Hn D}
noncomputable def xM:Hn D:=λ_ S=>HC (#[12]) (S++[.HL []])
theorem NO:PE X (.Dict [] [] pos) (λ_ H Q => ∀ p,H p=av->Q (.ref p) (upd H p (.dN []))):=λb s c H Q I h =>
 wpAny_Dict_empty ⟨#[11],_,I.laid (a:=s.heap.objs.size) (o:=.dN []) (t':=s.toks) (λ_ _ q=>cv _ q) (eG _)
  ⟨Pl _,kv.mpr (vu (md I.big)),[],.nil,_,#[],0,en _ rfl,⟨rfl,rfl,rfl⟩,rfl,rfl,Q4⟩,rfl,h _ (I.HZ.fresh (eG _))⟩
theorem xc:SE X W (.Dict [] [] pos) xM:=NO.imp λd H Q h=>by obtain⟨J,f,S,r,b,c,_,e,z⟩:=h;cases e;intro p a;have q:=c.Ie.push (o:=.dN []) (mo:=.HL []) a ⟨[],HG,.nil⟩;refine z (J++[p]) _ _ q.2 q.1 (At.HX.mpr ⟨p,rfl,?_⟩);rw[← c.Ie.len,f5 (eG _)];simp
noncomputable def om (x k v:D)(a:Hv)(S:Hu):Out Fl:=match x with
 | .loc l=>match S[l]?,f_ k with
  |aa (.HL kvs),aa _=>if kvs.length<dk/\eV k=a6 then HC (.next a) (S.set l (.HL (putN kvs k v))) else av
  |_,_=>av
 |_=>av
noncomputable def u0 (fo fi fv:Hn D):Hn Fl:=λa S=>aj (fv a S) λv c=>aj (fo a c) λx d=>aj (fi a d) λk b=>om x k v a b
theorem rK {K:Ho}{H:Hp}{J:ae b0}{d:D}{v:V}(h:eV d=a6)(m:At K H J d v):∃ b,v = .ref b:=by
 cases d with
 |tup a=>obtain⟨b,_,e,_⟩:=At.HK.mp m;exact⟨b,e⟩
 |_=>cases h
theorem w9 (R:X.A.units+150<n0)(K:SE X W o fo)(hi:SE X W i fi)(D:SE X W e fv)(L:N_ e (aa (.Subscript o i pos')) pos.line X.env=u1 bo:=by rfl):SS X W (.Assign [.Subscript o i pos'] e pos) (u0 fo fi fv):=
 (BB R K hi D L).imp λE k H h=>by
  have h:tH X W [] [] (u0 fo fi fv) E k H:=let ⟨J,B,S,r,j,c,e,z⟩:=h;⟨J,B,S,r,j,c,.nil,e,z⟩;refine(tH.HH h).mono λv Z ⟨Q,F⟩=>(tH.HH F).mono λx U ⟨N,T⟩=>(tH.HH T).mono λy H3 ⟨n,M⟩=>?_;obtain⟨J,B,S,r,j,c,m,e,z⟩:=M;obtain⟨mk,m⟩:=m.HF;obtain⟨C,m⟩:=m.HF;obtain⟨G,_⟩:=m.HF;unfold om at e;cases N with
  |loc l =>
   simp only at e;rw[0]
   ·rename_i d s es u;rw[0]
    ·rename_i lt;cases e;obtain⟨a,rfl,w⟩:=At.HX.mp C;obtain⟨t,P,g⟩:=c.Ie.at_ l a _ w es;obtain⟨b,rfl⟩:=rK lt.2 mk;have q:=c.Ie.update (o:=.dN (kE t s b v)) (mo:=.HL (putN d n Q)) w λY V f O I=>by subst O I;refine⟨_,HG,Dw u (mk.ex f) (G.ex f) ?_⟩;exact Paired.Lx g λp q z=>⟨⟨z.1.1,z.1.2.ex f⟩,z.2.ex f⟩
     exact⟨a,_,rfl,⟨J,d,t,n,s,b,P,g,u,mk,rfl,by rw[← jY g];exact lt.1,rfl⟩,z J k _ q.2 (c.re q.2 q.1)⟩
    cases e
   cases e
  |_=>cases e
noncomputable def oB (neg:e8)(k x:D)(S:Hu):ax D:=match x with
 | .loc l=>match S[l]?,f_ k with
  |aa (.HL kvs),aa _=>if eV k=a6 then aa (.bl (if neg then !(kK kvs k).isSome else (kK kvs k).isSome)) else av
  |_,_=>av
 |_=>av
noncomputable def AZ (neg:e8)(d fd:Hn D):Hn D:=λb S=>aj (d b S) λk c=>aj (fd b c) λx a=>aQ (oB neg k x a) a
theorem Aa {neg:e8}{j:St}{H:Hp}{Q:VK}(h:tE X W (AZ neg fi fo) j H Q):tE X W fi j H λy s=>tE X W fo j s λx f => ∃ a o,x = .ref a/\wS X.K f a y o/\Q (.bl (if neg then !o.isSome else o.isSome)) f:=
 (tG.HH h).mono λy s ⟨A,w⟩=>(tG.HH w).mono λx f t=>by
  obtain⟨E,I⟩:=t
  obtain⟨J,M,S,r,L,c,m,e,z⟩:=I;obtain⟨u,m⟩:=m.HF;obtain⟨mk,_⟩:=m.HF;unfold oB at e;cases E with
  |loc l =>
   simp only at e;rw[0]
   ·rename_i k B es p;rw[0]
    ·rename_i D;cases e;obtain⟨a,rfl,G⟩:=At.HX.mp u;obtain⟨C,F,n⟩:=c.Ie.at_ l a _ G es;obtain⟨b,rfl⟩:=rK D mk;refine⟨a,_,rfl,⟨J,k,C,A,B,b,F,n,p,mk,rfl,rfl⟩,?_⟩;have q:=z J f _ Ex.refl c.Ie (At.HP.mpr rfl);rcases AE p n with ⟨i,g⟩ |⟨d,v,i,g,_⟩
     ·rw[i] at q;rw[g];exact q
     rw[i] at q;rw[g];exact q
    cases e
   cases e
  |_=>cases e
theorem qh (d:X.A.units+150<n0)(hi:SE X W i fi)(f:SE X W o fo)(e:mc .NotIn o=bo:=by with_unfolding_all rfl):KD X W (.Compare i [.NotIn] [o] pos) (aR (AZ a6 fi fo)):=
 (vV (yv d hi f) e).imp λb H Q h=>JB.mono (t:=λb H Q=>tE X W fi b H λy g=>tE X W fo b g λx c => ∃ a o,x = .ref a/\wS X.K c a y o/\Q (.bl (!o.isSome)) c) (λ_ _ _=>Aa (neg:=a6)) (gN h)
noncomputable def i5 (x k:D)(S:Hu):ax D:=match x with
 | .loc l=>match S[l]?,f_ k with
  |aa (.HL kvs),aa _=>if eV k=a6 then kK kvs k else av
  |_,_=>av
 |_=>av
noncomputable def xN (fd d:Hn D):Hn D:=λb S=>aj (fd b S) λx c=>aj (d b c) λk a=>aQ (i5 x k a) a
theorem xb (L:X.A.units+150<n0)(E:SE X W o fo)(hi:SE X W i fi)(F:zc i:=by exact λ_ _=>rfl):SE X W (.Subscript o i pos) (xN fo fi):=(BJ L E hi F).imp λO H Q h =>
 (tG.HH h).mono λx P ⟨G,u⟩=>(tG.HH u).mono λy q s=>by
  obtain⟨w,M⟩:=s
  obtain⟨J,R,S,r,N,c,m,e,z⟩:=M;obtain⟨mk,m⟩:=m.HF;obtain⟨t,_⟩:=m.HF;unfold i5 at e;cases G with
  |loc l =>
   simp only at e;rw[0]
   ·rename_i g B es n;rw[0]
    ·rename_i D;obtain⟨a,rfl,K⟩:=At.HX.mp t;obtain⟨C,I,j⟩:=c.Ie.at_ l a _ K es;obtain⟨b,rfl⟩:=rK D mk;rcases AE n j with ⟨f,k⟩ |⟨d,v,f,k,p⟩
     ·rw[f] at e;cases e
     rw[f] at e;cases e;exact⟨a,v,rfl,⟨J,g,C,w,B,b,I,j,n,mk,rfl,k.symm⟩,z J q _ Ex.refl c.Ie p⟩
    cases e
   cases e
  |_=>cases e
end
def mP (K:Ho)(c f:ej):Prop:=∃ C,H8 K ly c=aa (aa (.ref C))/\Mo K C/\JC K C f
def MethAt (K:Ho)(c m qual:ej)(st:mq)(a:ae ej):Prop:=∃ C f fd,H8 K ly c=aa (aa (.ref C))/\Mo K C/\Meth K C m f/\Nj K m qual st f fd/\Binds K fd a []
def EB (K:Ho)(mg:Hs)(c qual:ej)(st:mq)(a:ae ej):Prop:=∃ C f fd,H8 K ly c=aa (aa (.ref C))/\mg c=aa (.ref C)/\Mk K C f/\Nj K "__init__" qual st f fd/\Binds K fd a []
noncomputable def mw (f:ej)(v:D):ae (ej×D)->ae (ej×D)
 |[]=>[(f,v)]
 |(k,x)::r=>if k=f then (k,v)::r else (k,x)::mw f v r
section
variable {K:Ho}{H H':Hp}{J J':ae b0}
theorem xz {fs:ae (ej×D)}{vs:ae (ej×V)}(r:i4 (RX K H J) fs vs)(f:ej):(fs.lookup f=av/\vs.lookup f=av)∨∃ d v,fs.lookup f=aa d/\vs.lookup f=aa v/\At K H J d v:=by
 induction r with
 |nil=>exact .inl ⟨rfl,rfl⟩
 | @cons p q k l h t b =>
  obtain⟨a,i⟩:=p;obtain⟨c,j⟩:=q;have g:a=c:=h.1;subst g;by_cases e:f=a
  ·have hb:(f==a)=a6:=Sb.mpr e;refine .inr ⟨i,j,?_,?_,h.2⟩<;>simp only[q7,hb]
  have hb:(f==a)=bo:=kv.mpr e;simp only[q7,hb];exact b
theorem D9 {fs:ae (ej×D)}{vs:ae (ej×V)}(r:i4 (RX K H J) fs vs)(f:ej){d:D}{v:V}(a:At K H J d v):i4 (RX K H J) (mw f d fs) (gH f v vs):=by
 induction r with
 |nil=>exact .cons ⟨rfl,a⟩ .nil
 | @cons p q c g h t k =>
  obtain⟨b,i⟩:=p;obtain⟨l,j⟩:=q;have m:b=l:=h.1;subst m;rw[show mw f d ((b,i)::c)=(if b=f then (b,d)::c else (b,i)::mw f d c) from rfl,show gH f v ((b,j)::g)=(if b=f then (b,v)::g else (b,j)::gH f v g) from rfl];by_cases e:b=f
  ·rw[dw e,dw e];exact .cons ⟨rfl,a⟩ t
  rw[ee e,ee e];exact .cons h k
theorem Hz.split:∀ {es ds:ae D}{us vs:ae V},es.length=us.length->Hz K H J (es++ds) (us++vs)->Hz K H J es us/\Hz K H J ds vs
 |[],_,[],_,_,h=>⟨.nil,h⟩
 |e::es,ds,u::us,vs,hl,h=>by
  obtain⟨f,b⟩:=Hz.HF (d:=e) (v:=u) (ds:=es++ds) (vs:=us++vs) h;obtain⟨a,c⟩:=Hz.split (es:=es) (us:=us) (by simpa using hl) b;exact⟨.cons f a,c⟩
 |[],_,_::_,_,hl,_=>by simp at hl
 |_::_,_,[],_,hl,_=>by simp at hl
end
noncomputable def ww (c:ej)(d:D)(S:Hu):ax (ae (ej×D)):=match d with
 | .loc l=>(match S[l]? with
  |aa (.ins c' fs)=>if c'=c then aa fs else av
  |_=>av)
 |_=>av
theorem xt {c:ej}{d:D}{S:Hu}{fs:ae (ej×D)}(h:ww c d S=aa fs):∃ l,d = .loc l/\S[l]?=aa (.ins c fs):=by
 unfold ww at h;split at h
 ·rename_i l;split at h
  ·rename_i f b e;split at h
   ·rename_i a;cases h;subst a;exact⟨l,rfl,e⟩
   cases h
  cases h
 cases h
section
variable {X:Cx}{W:WT}{pos pos' apos p:N5}{o e value:gj}{es:ae gj}{fo fv:Hn D}{gs:Hn (ae D)}{c f m x:ej}
noncomputable def j5 (c f:ej)(d:D)(S:Hu):ax D:=(ww c d S).bind λfs=>fs.lookup f
noncomputable def jd (c f:ej)(fo:Hn D):Hn D:=λb S=>aj (fo b S) λd a=>aQ (j5 c f d a) a
theorem dh (T:mP X.K c f)(w:SE X W o fo)(hb:ro o f X.env (lX o X.env)=lX o X.env:=by rfl):SE X W (.Attribute o f pos) (jd c f fo):=
 (DI w hb).imp λI H Q h=>(tG.HH h).mono λx y p=>by
  obtain⟨j,i⟩:=p
  obtain⟨J,N,S,r,G,cf,F,b,z⟩:=i
  try dsimp only at b
  obtain⟨s,_⟩:=F.HF;cases q:j5 c f j S with
  |none=>rw[q] at b;cases b
  |some d =>
   rw[q] at b;cases b;obtain⟨fs,i,e⟩:=kl.mp q;obtain⟨l,rfl,es⟩:=xt i;obtain⟨a,rfl,E⟩:=At.HX.mp s;obtain⟨C,j,B,n,D,t⟩:=cf.Ie.at_ l a _ E es;obtain⟨L,k,cl,A⟩:=T;rw[n] at k;cases k;rcases xz t f with ⟨g,_⟩ |⟨M,v,g,u,m⟩
   ·rw[g] at e;cases e
   rw[g] at e;cases e;exact⟨a,C,j,B,v,rfl,D,cl,A,u,z J y v Ex.refl cf.Ie m⟩
noncomputable def nW (c f:ej)(d v:D)(a:Hv)(S:Hu):Out Fl:=match d with
 | .loc l=>(match S[l]? with
  |aa (.ins c' fs)=>if c'=c/\fs.length<1000 then HC (.next a) (S.set l (.ins c (mw f v fs))) else av
  |_=>av)
 |_=>av
theorem zw {T:mP X.K c f}{g:St}{H:Hp}{J:ae b0}{u:Hv}{S j:Hu}{r:Except ej Fl}{E:Ends}{d h:D}{x y:V}(cf:Cf X J u S g H)(v:At X.K H J d x)(G:At X.K H J h y)
  (b:nW c f d h u S=aa (r,j)) (z:LK X W J H r j E):∃ a C e fs,x = .ref a/\H a=aa (.ins C e fs)/\Mo X.K C/\JC X.K C f/\fs.length<1000/\E.nx g (upd H a (.ins C e (gH f y fs))):=by
 unfold nW at b;split at b
 ·rename_i l;split at b
  ·rename_i L fs es;split at b
   ·rename_i hc;obtain⟨M,I⟩:=hc;subst M;cases b;obtain⟨a,rfl,t⟩:=At.HX.mp v;obtain⟨C,e,s,n,F,i⟩:=cf.Ie.at_ l a _ t es;obtain⟨P,m,cl,A⟩:=T;rw[n] at m;cases m;have q:=cf.Ie.update (o:=.ins C e (gH f y s)) (mo:=.ins L (mw f h fs)) t λO N k B w=>by subst B w;refine⟨C,e,_,n,HG,D9 (Paired.Lx i λp q z=>⟨z.1,z.2.ex k⟩) f (G.ex k)⟩
    exact⟨a,C,e,s,rfl,F,cl,A,by rw[← jY i];exact I,z J g _ q.2 (cf.re q.2 q.1)⟩
   cases b
  cases b
 cases b
noncomputable def pz (c f:ej)(fo fv:Hn D):Hn Fl:=λa S=>aj (fv a S) λv b=>aj (fo a b) λd e=>nW c f d v a e
theorem rM (T:mP X.K c f)(n:SE X W o fo)(k:SE X W value fv)(p:N_ value (aa (.Attribute o f pos')) pos.line X.env=u1 bo:=by rfl):SS X W (.Assign [.Attribute o f pos'] value pos) (pz c f fo fv):=
 (DC n k p).imp λE m H h=>by
  have h:tH X W [] [] (pz c f fo fv) E m H:=let ⟨J,i,S,r,g,c,e,z⟩:=h;⟨J,i,S,r,g,c,.nil,e,z⟩;refine(tH.HH h).mono λy u ⟨v,l⟩=>(tH.HH l).mono λx t ⟨d,s⟩=>?_;obtain⟨J,i,S,r,g,cf,a,b,z⟩:=s
  try dsimp only at b
  obtain⟨j,a⟩:=a.HF;obtain⟨q,_⟩:=a.HF;exact zw (T:=T) cf j q b z
noncomputable def FF (c f:ej)(d v y:D)(a:Hv)(S:Hu):Out Fl:=match v,y with
 | .int i,.int j=>nW c f d (.int (i+j)) a S
 |_,_=>av
noncomputable def FD (c f:ej)(fo fv:Hn D):Hn Fl:=λa S=>aj (fo a S) λd b=>aj (aQ (j5 c f d b) b) λv g=>aj (fv a g) λy e=>FF c f d v y a e
def pM (P:ew)(w:hB)(K:Ho)(mg:Hs)(base:j0)(k:Nat)(c m:ej)(a:ae ej)(F:Ht):Prop:=
 ∃ C f fd,H8 K ly c=aa (aa (.ref C))/\Mo K C/\Meth K C m f/\N3 P w K mg base k f fd a F/\Binds K fd a []
def EF (P:ew)(w:hB)(K:Ho)(mg:Hs)(base:j0)(k:Nat)(c:ej)(a:ae ej)(F:Ht):Prop:=
 ∃ C f fd,H8 K ly c=aa (aa (.ref C))/\mg c=aa (.ref C)/\Mk K C f/\N3 P w K mg base k f fd a F/\Binds K fd a []
noncomputable def uD (c m:ej)(d:D)(S:Hu):ax D:=(ww c d S).bind λfs=>if fs.lookup m=av then aa .Ic else av
noncomputable def dR (c m:ej)(F:Ht)(fo:Hn D)(gs:Hn (ae D)):Hn D:=λb S=>aj (fo b S) λd a=>aj (aQ (uD c m d a) a) λ_ g=>aj (gs b g) λe f=>jN (F (d::e) f)
noncomputable def Ek (c m:ej)(F:Ht)(fo:Hn D)(gs:Hn (ae D)):Hn D:=λb S=>aj (fo b S) λd a=>aj (aQ (uD c m d a) a) λ_ g=>aj (gs b g) λe f=>F (d::e) f
theorem Ah {C:b0}(n:H8 X.K ly c=aa (aa (.ref C))){k:Hn D}{d:D}{x:V}{o:St}{H:Hp}{Q:VK}(h:tG X W (RD X) [d] [x] (λf j=>aj (aQ (uD c m d j) j) λ_ S2=>k f S2) o H Q) :
  ∃ a e fs,x = .ref a/\H a=aa (.ins C e fs)/\fs.lookup m=av/\tG X W (RD X) [d] [x] k o H Q:=by
 obtain⟨J,f,S,r,w,cf,G,b,z⟩:=h
 try dsimp only at b
 obtain⟨g,L⟩:=G.HF;cases q:uD c m d S with
 |none=>rw[q] at b;cases b
 |some O =>
  rw[q,cA,cZ] at b;obtain⟨fs,y,s⟩:=kl.mp q;obtain⟨l,rfl,es⟩:=xt y;have A:=g;obtain⟨a,rfl,F⟩:=At.HX.mp g;obtain⟨M,e,B,p,E,t⟩:=cf.Ie.at_ l a _ F es;rw[n] at p;cases p;split at s
  ·rename_i I;rcases xz t m with ⟨_,u⟩ |⟨N,v,i,_⟩
   ·exact⟨a,e,B,rfl,E,u,J,f,S,r,w,cf,.cons A .nil,b,z⟩
   rw[I] at i;cases i
  cases s
theorem bY {k:Nat}{y:ae ej}{F:Ht}{pl:ZI e8}(G:pM X.prog X.w X.K X.mg X.base k c m y F)(hr:Ib k X.A)(M:SE X W o fo)(ha:SA X W (e::es) gs)
  (u:dm (e::es) X.env=(bo,lX e X.env)::dm es X.env:=by rfl) (Z:(mf pos (dm es X.env)).any (·.1)=bo:=by rfl)
  (D:lX (.Call (.Attribute o m apos) (e::es) [] pos) X.env=(do
   let j ← lX o X.env
   ZF apos.atName
   let (f,first) ← X4 [j] (X6 j m pl)
   ZL pos f first (mf pos (dm (e::es) X.env)) (O0 pos (Jf [] X.env))):=by rfl) :
  SE X W (.Call (.Attribute o m apos) (e::es) [] pos) (dR c m F fo gs):=by
 obtain⟨C,f,fd,n,cl,mt,fn,hb⟩:=G;refine PE.imp (BK (E:=E0) M cl mt fn hr hb .nil z4 ha u Z D) λσ H Q h=>(tG.HH h).mono λx H1 g=>?_;obtain⟨d,t⟩:=g;obtain⟨a,P,fs,T,R,N,V⟩:=Ah n t;refine⟨a,P,fs,T,R,N,(tG.Km V).mono λus H2 g=>?_⟩;obtain⟨i,Y,O⟩:=g;obtain⟨J,ρ,S,r,p,cf,U,b,z⟩:=O
 try dsimp only at b
 obtain⟨m1,m2⟩:=Hz.split Y U;obtain⟨s,_⟩:=m2.HF;have b:jN (F (d::i) S)=aa (r,p):=b;unfold jN at b;split at b
 ·rename_i d2 S2 q;cases b;exact⟨J,S,d::i,d2,_,.cons s (by rw[eM];exact m1),cf.Ie,q,λL B v I l m'=>z L B v I l m'⟩
 cases b
noncomputable def xO (c:ej)(F:Ht)(gs:Hn (ae D)):Hn D:=λd S=>aj (gs d S) λb a=>(match F (.loc a.length::b) (a++[.ins c []]) with
 |aa (.ok .Ic,S2)=>HC (.loc a.length) S2
 |_=>av)
theorem Br {k:Nat}{L:ae ej}{F:Ht}(G:EF X.prog X.w X.K X.mg X.base k c L F)(hr:Ib (k+1) X.A)(ha:SA X W (e::es) gs)(V:Gl X c:=by rfl)
  (T:(c==("__debug__":ej))=bo:=by decide) (D:dm (e::es) X.env=(bo,lX e X.env)::dm es X.env:=by rfl) (Y:(mf pos (dm es X.env)).any (·.1)=bo:=by rfl) :
  SE X W (.Call (.Name c p) (e::es) [] pos) (xO c F gs):=by
 obtain⟨C,f,fd,n,u,mk,fn,hb⟩:=G;refine PE.imp (BL (E:=E0) mk fn hr V u hb .nil z4 ha T D Y) λσ H Q h=>(tG.Km h).mono λus d t=>?_;obtain⟨j,hl,i⟩:=t;rw[eM,eM] at i;obtain⟨J,ρ,S,r,B,cf,U,a,z⟩:=i
 try dsimp only at a
 intro x b R s ne;have M:(upd d b (.own x)) x=av:=by rw[aG (vu ne)];exact R
 have P:=cf.Ie.same (aO s (.own x));have x1:Ex J d J (upd d b (.own x)):=Ex.same (aO s _);have q:=P.push (o:=.ins C b []) (mo:=.ins c []) M ⟨C,b,[],n,HG,.nil⟩;have x2:=x1.trans q.2;have l:(J++[x])[S.length]?=aa x:=by rw[← cf.Ie.len,f5 (eG _)];simp
 have a:(match F (#[12]::j) (S++[.ins c []]) with
  |aa (.ok .Ic,g)=>HC (#[12]) g
  |_=>av)=aa (r,B):=a
 split at a
 ·rename_i g I;cases a;refine⟨J++[x],_,#[12]::j,.Ic,_,.cons (At.HX.mpr ⟨x,rfl,l⟩) (by rw[eM];exact U.ex x2),q.1,I,λO N v m y Z=>⟨At.Jg.mp Z,?_⟩⟩;exact z O N (.ref x) (x2.trans m) y (At.HX.mpr ⟨x,rfl,xj m.pre l⟩)
 cases a
end
section
variable {P:ew}{w:hB}{K:Ho}{mg:Hs}{base:j0}
theorem mK {x qual:ej}{st:mq}{sc:i0}{N a:ae ej}{k:Nat}{G:Hn Fl}{f:b0}{fd:wa}(c:Nj K x qual st f fd)(d:aB st=sc)(Sc:Hx N a sc)
  (h:∀ (f:b0) (b:ay) (A:hG) (outer:ae Yy) (s:cc) (H:Hp) (E:XK),Ib k (A.deeper (QJ qual sc s.heap.objs.size f b))->M0 (o6 Ni P w K mg base N qual sc f b A outer s H E).Of W0 (bZ st) G) :
  N3 P w K mg base (k+1) f fd a (bq a.length (N.length-a.length) G):=mM c d Sc λA outer s H E hr=>h f fd.code A outer s H E hr
theorem iq {c m qual:ej}{st:mq}{sc:i0}{N a:ae ej}{k:Nat}{G:Hn Fl}(e:MethAt K c m qual st a)(g:aB st=sc)(Sc:Hx N a sc)
  (h:∀ (f:b0) (b:ay) (A:hG) (outer:ae Yy) (s:cc) (H:Hp) (E:XK),Ib k (A.deeper (QJ qual sc s.heap.objs.size f b))->M0 (o6 Ni P w K mg base N qual sc f b A outer s H E).Of W0 (bZ st) G) :
  pM P w K mg base (k+1) c m a (bq a.length (N.length-a.length) G):=by
 obtain⟨C,f,fd,n,cl,mt,d,hb⟩:=e;exact⟨C,f,fd,n,cl,mt,mK d g Sc h,hb⟩
theorem Cv {c qual:ej}{st:mq}{sc:i0}{N a:ae ej}{k:Nat}{G:Hn Fl}(g:EB K mg c qual st a)(i:aB st=sc)(Sc:Hx N a sc)
  (h:∀ (f:b0) (b:ay) (A:hG) (outer:ae Yy) (s:cc) (H:Hp) (E:XK),Ib k (A.deeper (QJ qual sc s.heap.objs.size f b))->M0 (o6 Ni P w K mg base N qual sc f b A outer s H E).Of W0 (bZ st) G) :
  EF P w K mg base (k+1) c a (bq a.length (N.length-a.length) G):=by
 obtain⟨C,f,fd,n,e,mt,d,hb⟩:=g;exact⟨C,f,fd,n,e,mt,mK d i Sc h,hb⟩
theorem y8 {c m qual:ej}{st:mq}{b:ae ej}{k:Nat}(g:MethAt K c m qual st b):pM P w K mg base k c m b (λ_ _=>av):=by
 obtain⟨C,f,fd,n,cl,mt,i,hb⟩:=g;have no:∀ a H Q E,¬ R3 K (λ_ _=>av) a H Q E:=λa H Q E h=>by obtain⟨J,S,o,d,l,_,_,e,_⟩:=h;cases e
 exact⟨C,f,fd,n,cl,mt,⟨λa H Q E h=>hK h (no a H Q E),λA outer s H args j a Q E _ _ _ _ h=>hK h (no a H Q E)⟩,hb⟩
end
noncomputable def gY (d:D)(S:Hu):ax (ae D):=match d with
 | .loc l=>(match S[l]? with
  |aa (.lst xs)=>aa xs
  |_=>av)
 |_=>av
theorem B6 {d:D}{S:Hu}{xs:ae D}(h:gY d S=aa xs):∃ l,d = .loc l/\S[l]?=aa (.lst xs):=by
 unfold gY at h;split at h
 ·rename_i l;split at h
  ·rename_i a e;cases h;exact⟨l,rfl,e⟩
  cases h
 cases h
section
variable {X:Cx}{W:WT}{pos HY apos p:N5}{o e a b:gj}{fo fe fa fb:Hn D}{x:ej}
theorem wc {J:ae b0}{S:Hu}{H:Hp}{d:D}{v:V}{xs:ae D}(so:HW X.K J S H)(m:At X.K H J d v)(h:gY d S=aa xs):∃ l q us,d = .loc l/\v = .ref q/\J[l]?=aa q/\S[l]?=aa (.lst xs)/\H q=aa (.lst us)/\Hz X.K H J xs us:=by obtain⟨l,rfl,es⟩:=B6 h;obtain⟨q,rfl,a⟩:=At.HX.mp m;obtain⟨us,b,c⟩:=so.at_ l q _ a es;exact⟨l,q,us,rfl,rfl,a,es,b,c⟩
noncomputable def AY:Hn D:=λ_ S=>HC (#[12]) (S++[.lst []])
theorem Bq:SE X W (.List [] pos) AY:=(zW Ik).imp λb H Q h=>by
 obtain⟨J,f,S,r,d,c,_,e,z⟩:=h
 try dsimp only at e
 cases e;show ll b H _;refine⟨Pl _,λp a=>?_⟩;have q:=c.Ie.push (o:=.lst []) (mo:=.lst []) a ⟨[],HG,.nil⟩;refine z (J++[p]) _ _ q.2 q.1 (At.HX.mpr ⟨p,rfl,?_⟩);rw[← c.Ie.len,f5 (eG _)];simp
noncomputable def wQ (d v:D)(S:Hu):Out D:=match d with
 | .loc l=>(match S[l]? with
  |aa (.lst xs)=>if xs.length<dk then HC .Ic (S.set l (.lst (xs++[v]))) else av
  |_=>av)
 |_=>av
noncomputable def El (fo fe:Hn D):Hn D:=λb S=>aj (fo b S) λd a=>aj (aQ (gY d a) a) λ_ e=>aj (fe b e) λv c=>wQ d v c
theorem Dm {name:ej}(hn:name="append")(N:SE X W o fo)(ha:SE X W a fe)(I:ro o name X.env (lX o X.env)=lX o X.env:=by rfl)
  (V:((mf HY (dm [a] X.env)).all (λx => !x.1)&&(O0 HY (Jf [] X.env)).all (λx=>x.1.isSome)
   && dr ([a].length+([]:ae Ow).length+(if ([]:ae Ow).isEmpty then 0 else 1)<30))=a6:=by rfl)
  (I_:(apos.endLine==HY.line)=a6:=by rfl) (s:dm [a] X.env=(bo,lX a X.env)::dm [] X.env:=by rfl) (L:(mf HY (dm [] X.env)).any (·.1)=bo:=by rfl) :
  SE X W (.Call (.Attribute o name apos) [a] [] HY) (El fo fe):=by
 subst hn;refine PE.imp (xk F.plainAttrs_list F.slot_list_append F.type_list_append yG N (cn ha Ik s) I V I_ s L) λK H Q h=>(tG.HH h).mono λx O w=>?_;obtain⟨d,E⟩:=w;obtain⟨J,i,S,r,D,c,m,e,z⟩:=E
 try dsimp only at e
 obtain⟨k,_⟩:=m.HF;cases q:gY d S with
 |none=>rw[q] at e;cases e
 |some xs =>
  rw[q,cA,cZ] at e;obtain⟨l,f,B,rfl,rfl,hq,es,U,mu⟩:=wc c.Ie k q;refine⟨.inl ⟨rfl,B,.inl (.inl U)⟩,?_⟩;have h2:tG X W (RD X) [.loc l] [.ref f] (λi g=>aj (fe i g) λv Z=>wQ (.loc l) v Z) K O Q:=⟨J,i,S,r,D,c,.cons k .nil,e,z⟩;refine(tG.HH h2).mono λy H2 ⟨j,R⟩=>?_;show ll _ _ _;obtain⟨J2,M,g,r2,WH,t,m2,b,z2⟩:=R
  try dsimp only at b
  obtain⟨Y,m2⟩:=m2.HF;obtain⟨WI,_⟩:=m2.HF;have b:wQ (.loc l) j g=aa (r2,WH):=b;unfold wQ at b;simp only at b;split at b
  ·rename_i WJ A;split at b
   ·rename_i lt;cases b;obtain⟨q2,P,u⟩:=At.HX.mp WI;cases P;obtain⟨Rp,C,p⟩:=t.Ie.at_ l f _ u A;have up:=t.Ie.update (o:=.lst (Rp++[y])) (mo:=.lst (WJ++[j])) u λJ' H' n T G=>by subst T G;exact⟨_,HG,(p.ex n).append (.cons (Y.ex n) .nil)⟩
    exact⟨f,Rp,y,rfl,rfl,C,by rw[← p.length];exact lt,z2 J2 _ _ up.2 up.1 (At.Jg.mpr rfl)⟩
   cases b
  cases b
noncomputable def ux (x i:D)(S:Hu):ax D:=match i with
 | .int k=>(gY x S).bind λa=>KN a k
 |_=>av
noncomputable def CA (fa fb:Hn D):Hn D:=λb S=>aj (fa b S) λx c=>aj (fb b c) λi a=>aQ (ux x i a) a
theorem vM (ha:SE X W a fa)(hb:SE X W b fb)(t:nv b:=by exact λ_ _=>rfl):SE X W (.Subscript a b pos) (CA fa fb):=
 (CQ xr ha hb t).imp λE H Q h=>(tG.HH h).mono λv F ⟨d,f⟩=>(tG.HH f).mono λG i j=>by
  obtain⟨A,g⟩:=j
  obtain⟨J,K,S,r,C,c,m,e,z⟩:=g
  try dsimp only at e
  obtain⟨u,m⟩:=m.HF;obtain⟨o,_⟩:=m.HF;cases q:ux d A S with
  |none=>rw[q] at e;cases e
  |some I =>
   rw[q] at e;cases e;unfold ux at q;split at q
   ·rename_i k;obtain⟨D,f,g⟩:=kl.mp q;obtain⟨l,n,p,rfl,rfl,B,es,x,s⟩:=wc c.Ie o f;cases At.Hw.mp u;obtain⟨w,y,a1⟩:=wO s g;exact⟨n,p,k,w,rfl,rfl,.inl (.inl x),y,z J i w Ex.refl c.Ie a1⟩
   cases q
noncomputable def u5 (fa fb:Hn D):Hn D:=λb S=>aj (fa b S) λx c=>aj (fb b c) λi a=>aQ (if bi x=a6 then ux x i a else MZ x i) a
theorem xf (ha:SE X W a fa)(hb:SE X W b fb)(c:nv b:=by exact λ_ _=>rfl):SE X W (.Subscript a b pos) (u5 fa fb):=
 SE.either (vM ha hb c) (CN UI ha hb c) λe S=>cM _ λx d=>by
  by_cases h:bi x=a6
  ·refine .inl (E3 (aj (fb e d)) (Xv λi=>Xv λf=>?_));rw[dw h]
  refine .inr (E3 (aj (fb e d)) (Xv λi=>Xv λf=>?_));rw[ee h]
noncomputable def AT (fe:Hn D):Hn D:=λb S=>aj (fe b S) λd a=>aQ ((gY d a).map λc => .int c.length) a
theorem Bs (i:X.mg x=av)(ha:SE X W e fe)(o:x="len":=by rfl)(t:Gl X x:=by rfl)(a:dm [e] X.env=(bo,lX e X.env)::dm [] X.env:=by rfl)(u:(mf pos (dm [] X.env)).any (·.1)=bo:=by rfl) :
  SE X W (.Call (.Name x p) [e] [] pos) (AT fe):=by
 subst o;refine PE.imp (gW im t i bA (cn ha Ik a) #[1] #[1] a u) λB H Q h=>?_;refine(tG.HH h).mono λv n ⟨d,k⟩=>?_;obtain⟨J,C,S,r,y,c,m,eq,z⟩:=k
 try dsimp only at eq
 obtain⟨f,_⟩:=m.HF;show ll _ _ _;cases q:gY d S with
 |none=>rw[q] at eq;cases eq
 |some A =>
  rw[q] at eq;cases eq;obtain⟨l,b,g,rfl,rfl,w,es,s,j⟩:=wc c.Ie f q;refine⟨b,g,rfl,.inl (.inl (.inl s)),?_⟩;rw[← j.length];exact z J n _ Ex.refl c.Ie (#[14])
noncomputable def Cp (fe:Hn D):Hn D:=λc S=>aj (fe c S) λd a=>aQ ((gY d a).bind λb=>if b.length<=dk then aa (.tup b) else av) a
end
theorem ints_get:∀ {vs:ae ay}{ns:ae Int}(i:Nat) {n:Int},Pm vs ns->ns[i]?=aa n->∃ t,vs[i]?=aa (.int n t)
 |_,_,_,_,.nil,e=>by simp at e
 |_,_,0,_,.cons n t r,e=>by simp at e;subst e;exact⟨t,rfl⟩
 |_,_,i+1,_,.cons n t r,e=>by
  obtain⟨a,h⟩:=ints_get i r (by simpa using e);exact⟨a,by simpa using h⟩
theorem uz:∀ {vs:ae ay}{ns:ae Int},Pm vs ns->vs.length=ns.length
 |_,_,.nil=>rfl
 |_,_,.cons n t r=>by simp[uz r]
theorem qF {k:Int}:∀ {ns:ae Int}{j:Nat},j<ns.idxOf k->∀ (a:j<ns.length),ns[j]≠k
 |n::r,0,h,_=>by
  intro e;have e:n=k:=e;subst e;simp at h
 |n::r,j+1,h,a=>by
  by_cases e:n=k
  ·subst e;simp at h
  have hb:(n==k)=bo:=by simpa using e
  rw[Q5,hb] at h;exact qF (ns:=r) (j:=j) (by simpa using h) (by simpa using a)
theorem ld {prog:ew}{w:hB}{A:hG}{E:Hq}{s:cc}{l:b0}{o:VJ}{n:Nat}{vs:ae ay}{ns:ae Int}{k:Int}{t:Tok}{Q:Hq}(B:s.heap.get? l=aa o)(hc:o.cls = .type "tuple")(hd:o.data = .seq vs.toArray n)(hi:Pm vs ns)
  (H:k∈ns) (h:∀ t' s',s'={ s with toks:=s.toks+1 }->Q (.int (ns.idxOf k:Nat) t') s'):d6 #[8] A (call (.builtin "tuple.index") [.ref l,.int k t]) Q E s:=by
 have I:s.TypeIs (.ref l) "tuple":=⟨o,B,hc⟩;refine my F.slot_tuple_index I F.entry_tuple_index ?_ (F.args_tuple_index_2 _ _);show d6 _ _ (vr (.ref l) >>= _) _ _ s;refine ak (Yw B hd ?_);have y:=uz hi;have q:ns.idxOf k<ns.length:=mv.mpr H;show d6 _ _ (ZH [0:WG vs.toArray.size vs.toArray.size] _ _ >>= _) _ _ s;refine ak ?_;rw[XP];have f:([0:WG vs.toArray.size vs.toArray.size]:Zi).size=vs.length:=by simp[aap]
 show d6 _ _ (ZH (range' 0 ([0:WG vs.toArray.size vs.toArray.size]:Zi).size 1) _ _) _ _ _;rw[f];refine Nz _ (λrest r s'=>r.1=av/\s'=s/\∃ i,i<=ns.idxOf k/\rest=range' i (vs.length-i) 1) _ ?_ ?_ _ _ ⟨rfl,rfl,0,Pl _,by simp⟩
 ·rintro x rest r s' ⟨hr,rfl,i,C,b⟩;have M:i<vs.length:=#[2]
  obtain⟨m,d⟩:∃ m,vs.length-i=m+1:=⟨vs.length-i-1,#[2]⟩;rw[d,Zr] at b;obtain⟨rfl,rfl⟩:=List.cons.inj b;obtain⟨a,c⟩:∃ a,ns[x]?=aa a:=⟨ns[x]'#[0],a4 _⟩;obtain⟨t',G⟩:=ints_get x hi c;have L:vs.toArray[x]?=aa (.int a t'):=by simpa using G
  rw[L];show d6 _ _ (eqBool (.int a t') (.int k t) >>= _) _ _ _;refine ak (wpAny_eqBool_int ?_);by_cases e:a=k
  ·subst e
   have ex:ns.idxOf a=x:=by
    have O:ns.idxOf a<=x:=by
     have j:x<ns.length:=#[2]
     have:ns[x]=a:=by rw[a4 j] at c;exact kx c
     rcases Mi x (ns.idxOf a) with h2 |h2
     ·exact hK this (qF h2 j)
     exact h2
    omega
   rw[QS];simp only[ox];refine ak (v3 (show d6 _ _ (retInt (x:Int)) _ _ _ from wpAny_ret_mkInt (Q:=λv p => ∃ t',v = .int (x:Int) t'/\p={ s' with toks:=s'.toks+1 }) ⟨_,rfl,rfl⟩) (λfin p D=>?_) λ_ _ z=>z);obtain⟨v,K,t',J,g⟩:=D;subst K J;refine a5 (a5 ⟨_,rfl,?_⟩);have u:=h t' p g;rw[ex] at u;exact u
  rw[kv.mpr e];simp only[h5,mz];refine a5 ⟨rfl,rfl,x+1,?_,?_⟩
  ·have j:x<ns.length:=#[2]
   rcases Mi x (ns.idxOf k) with h2 |h2
   ·exact h2
   exfalso;have g:x=ns.idxOf k:=#[2]
   rw[g,a4 q,Ob q] at c;exact e (kx c).symm
  congr 1;omega
 rintro⟨N,P⟩ s' ⟨hr,rfl,i,C,b⟩;exfalso;obtain⟨m,d⟩:∃ m,vs.length-i=m+1:=⟨vs.length-i-1,#[2]⟩;rw[d,Zr] at b;cases b
section
variable {X:Cx}{W:WT}{fe fa:Hn D}
theorem yF:Qb X "tuple.index" (λx xs H Q => ∃ (a:b0) (ns:ae Int) (k:Int),x = .ref a/\xs=[.int k]/\KI X.K H a (ns.map V.int)/\k∈ns/\Q (.int (ns.idxOf k:Nat)) H):=by intro b s w H x xs v r Q I m d h;obtain⟨a,ns,k,rfl,rfl,p,j,q⟩:=h;cases m;obtain⟨u,rfl,g⟩:=vals1 d;obtain⟨t2,rfl⟩:=g;obtain⟨its,c,⟨o,f,l,n,i⟩,_⟩:=I.tuple p;refine ld (vs:=its) f l i (fw c) j λy t e=>?_;subst e;exact⟨.int _,H,I.tok _,⟨_,rfl⟩,q⟩
noncomputable def jv:D->D->ax D
 | .tup a,.int k=>(cI a).bind λns=>if k∈ns then aa (.int (ns.idxOf k:Nat)) else av
 |_,_=>av
theorem C9 {J:ae b0}{b:Hp}{d:D}{v:V}(f:eV d=a6)(m:At X.K b J d v):Pn X.K "tuple" v b:=by
 cases d<;>first |(cases f;done) |skip
 rename_i j;obtain⟨a,g,rfl,i,_⟩:=At.HK.mp m;rcases i with z |⟨o,its,n,c,h,e,_⟩
 ·exact .inr (.inl ⟨rfl,.inr ⟨g,z.1⟩⟩)
 exact .inr (.inl ⟨rfl,.inl ⟨o,c,h,e⟩⟩)
theorem qH {o:gj}{name:ej}{b c:N5}{a:gj}(C:name="index")(n:SE X W o fe)(ha:SE X W a fa)(j:ro o name X.env (lX o X.env)=lX o X.env:=by rfl)
  (u:((mf c (dm [a] X.env)).all (λx => !x.1)&&(O0 c (Jf [] X.env)).all (λx=>x.1.isSome)
   && dr ([a].length+([]:ae Ow).length+(if ([]:ae Ow).isEmpty then 0 else 1)<30))=a6:=by rfl)
  (A:(b.endLine==c.line)=a6:=by rfl) (f:dm [a] X.env=(bo,lX a X.env)::dm [] X.env:=by rfl) (l:(mf c (dm [] X.env)).any (·.1)=bo:=by rfl) :
  SE X W (.Call (.Attribute o name b) [a] [] c) (sQ eV jv fe fa):=by
 subst C;refine PE.imp (xk F.plainAttrs_tuple F.slot_tuple_index F.type_tuple_index yF n (cn ha Ik f) j u A f l) λG H Q h=>oG (λJ I d v r m=>C9 r m) (λv K i Q q=>?_) h;obtain⟨J,L,D,M,N,g,p,eq,q⟩:=q;unfold jv at eq;split at eq
 ·rename_i E k;obtain⟨ns,y,e⟩:=kl.mp eq;rw[0]
  ·rename_i hc;cases e;cases At.Hw.mp p;obtain⟨a,s,rfl,B,w⟩:=At.HK.mp g;have z:=gZ y;subst z;have t:s=ns.map V.int:=Hz.KO w;subst t;exact⟨a,ns,k,rfl,rfl,B.sq,hc,q i _ (HJ.refl _) (#[14])⟩
  cases e
 cases eq
end
noncomputable def DT:ae Int->ax Int
 |[]=>av
 |n::r=>aa (r.foldl (λa b=>if b<a then b else a) n)
theorem sF:∀ (r:ae Int) (n:Int),(r.foldl (λa b=>if b<a then b else a) n∈n::r)/\∀ a∈n::r,r.foldl (λa b=>if b<a then b else a) n<=a
 |[],n=>by simp
 |x::r,n=>by
  rw[wi];by_cases f:x<n
  ·rw[dw f];obtain⟨d,c⟩:=sF r x;refine⟨d7 _ d,λa ha=>?_⟩;rcases gi.mp ha with e |ha
   ·have g:=c x (e7 ..);omega
   exact c a ha
  rw[ee f];obtain⟨d,c⟩:=sF r n;have g:=c n (e7 ..);refine⟨?_,λa ha=>?_⟩
  ·rcases gi.mp d with e |h
   ·rw[e];exact e7 ..
   exact d7 _ (d7 _ h)
  rcases gi.mp ha with e |ha
  ·omega
  rcases gi.mp ha with e |ha
  ·omega
  exact c a (d7 _ ha)
theorem yH {ns:ae Int}{M:Int}(c:M∈ns)(d:∀ a∈ns,M<=a):DT ns=aa M:=by
 cases ns with
 |nil=>simp at c
 |cons n r =>
  obtain⟨a,b⟩:=sF r n;exact E3 aa (Zw (b M c) (d _ a))
theorem oP:∀ {vs:ae ay}{ns:ae Int},Pm vs ns->∃ xs:ae (Int×Tok),vs=xs.map (λp => .int p.1 p.2)/\ns=xs.map (·.1)
 |_,_,.nil=>⟨[],rfl,rfl⟩
 |_,_,.cons n t r=>by
  obtain⟨xs,a,b⟩:=oP r;exact⟨(n,t)::xs,by rw[a];rfl,by rw[b];rfl⟩
section
variable {X:Cx}{W:WT}
noncomputable def ul:ae D->ax D
 |[.lst ds]=>(cI ds).bind λns=>(DT ns).map .int
 |_=>av
theorem Cu (hc:X.calm=a6):jU X (.builtin "min") ul:=by
 intro k s σ H b U Q I r h;obtain⟨J,W,d,hJ,m,e,q⟩:=h;unfold ul at e;rw[0]
 ·rename_i ys;obtain⟨ns,N,L⟩:=kl.mp e;obtain⟨M,g,A⟩:=dv.mp L;subst A;obtain⟨v,w,rfl,a,n⟩:=Hz.Hy.mp m;cases Hz.HA.mp n;obtain⟨p,T,rfl,t,O⟩:=At.HN.mp a;obtain⟨u,rfl,D⟩:=vals1 r;cases D;have P:=gZ N;subst P;have ev:=Hz.KO O;subst ev;obtain⟨its,z,pl,Z⟩:=I.list t.sq;obtain⟨b,ex,c⟩:=oP (fw z)
  have C : 0<b.length:=by
   cases b with
   |nil=>subst c;cases g
   |cons x b=>simp
  have S:s.heap.IsList p (intItems b.toArray):=by have:=pl.isList;rw[ex] at this;simpa [intItems] using this
  refine min_intList (I.ok.hd hc) S (by simpa using C) λv V tk o G=>?_;obtain⟨E,rfl⟩:=intItems_at o;obtain⟨Y,R⟩:=argBest_lt (Y6 b.toArray) (b.toArray.size-1)
  have mem:Y6 b.toArray (argBest (λi j=>dr (Y6 b.toArray i<Y6 b.toArray j)) (b.toArray.size-1))∈ns:=by
   have hb:argBest (λi j=>dr (Y6 b.toArray i<Y6 b.toArray j)) (b.toArray.size-1)<b.length:=by
    have:b.toArray.size=b.length:=by simp
    omega
   rw[numAt_eq,c];simp only[LG,eh,Rz,a4 hb,Vq,QU];exact vl.mpr ⟨_,NX hb,rfl⟩
  have low:∀ a∈ns,Y6 b.toArray (argBest (λi j=>dr (Y6 b.toArray i<Y6 b.toArray j)) (b.toArray.size-1))<=a:=by
   intro a l;rw[c] at l;obtain⟨x,K,rfl⟩:=vl.mp l;obtain⟨j,y,rfl⟩:=P5 K
   have F:=R j (by
    have:b.toArray.size=b.length:=by simp
    omega)
   refine Int.le_trans F (Int.le_of_eq ?_);simp[Y6,y]
  have f:=yH mem low;rw[g] at f;have B:=kx f;refine⟨.int M,H,I.kept (t':=tk) G,⟨E,by rw[B]⟩,q H _ (HJ.refl H) (#[14])⟩
 cases e
end
section
variable {X:Cx}{W:WT}{pos:N5}
noncomputable def ED (K:Ho)(a:b0):It:=
 ⟨λi H => ∃ b x,K9 K H a b/\b[i]?=aa x,λi H x c => ∃ p y,H p=av/\x = .ref p/\c=upd H p (.tup [.int i,y])/\∀ b,K9 K H a b->b[i]?=aa y,λi H => ∃ b,K9 K H a b/\b.length<=i⟩
theorem vt {P:ew}{w:hB}{K:Ho}{es:ae gj}{k:Nat}{pt:N5}(a e it:b0)(T:e≠it)(To:a≠e)(Tp:a≠it):Turn P w K (.Tuple es k pt) (ED K a) [e,it] e (λi h=>(∃ old,IsEnum h e it i old)/\h.IsListIter it a i) where
 mem:=by simp
 obj:=λi h st b hb=>by
  obtain⟨⟨old,d⟩,o,l,hc,hd⟩:=st;rcases gi.mp hb with rfl |hb
  ·exact⟨_,d,λv z=>by cases z⟩
  have:b=it:=by simpa using hb
  subst this;exact⟨o,l,λv z=>by rw[hd] at z;cases z⟩
 keep:=λi h h' st kp=>by
  obtain⟨⟨old,d⟩,o,l,r⟩:=st;exact⟨⟨old,kp e #[3] _ d⟩,o,kp it #[3] o l,r⟩
 item:=by
  intro X n L J hc i j s σ H E I F st N;subst n L J;obtain⟨G,x,D,U⟩:=N;obtain⟨its,S,p,hz⟩:=I.list D;obtain⟨u,hu,ru⟩:=S.get U;obtain⟨⟨old,d⟩,f⟩:=st;have IM:i<its.toArray.size:=by rw[eX];exact(b7.mp hu).1
  refine Vs (Draws.list (A:=X.A.in1) (I.ok.hd hc) it a Tp its.toArray) d ⟨f,p.isList⟩ IM T (by simp[T,vu To]) λy h' tk n l Qg hT hsz hk=>?_
  have ey:y=u:=by
   have:its.toArray[i]?=aa u:=by simpa using hu
   rw[this] at n;exact(kx n).symm
  subst ey;refine⟨_,rfl,SV (s:={ s with heap:=h',toks:=tk+1 }) l λC Nl V=>?_⟩;have Y:H s.heap.objs.size=av:=I.fresh;obtain⟨R,Q6,Wo,Tq,Ts,Tt⟩:=F e #[3];obtain⟨t,B,Tu,O,M,W⟩:=F it #[3];have kp:∀ b o,b≠e->b≠it->#[15]=aa o->C.get? b=aa o:=λb o h1 Pr g=>(V.2 b h1).trans (hk b o h1 Pr g);have Z:s.heap.objs.size≠e:=Xd (ek d);have NB:C.get? s.heap.objs.size=aa { cls:=.type "tuple",data:=.seq #[.int i tk,y] }:=(V.2 _ Z).trans hT;have ne:∀ b o,H b=aa o->b≠s.heap.objs.size:=λb o q=>aU q Y
  have I1:Inv X j σ (upd H s.heap.objs.size (.tup [.int i,x])) { s with heap:=C,toks:=tk+1 }:=by
   refine I.step (h':=C) (g':=s.gens) (d':=s.drawn) (t':=tk+1) (ch:=[e,it]) (λb hb=>?_) (λb o _ _ hb g _=>kp b o (λz=>hb (by simp[z])) (λz=>hb (by simp[z])) g) (λb o _ _ hb g _=>⟨o.slots,kp b o (λz=>hb (by simp[z])) (λz=>hb (by simp[z])) g⟩)
    (λb o hb g n'=>by rw[aG (md (ek g))];exact n') (λb o hb g=>⟨o,kp b o (λz=>hb (by simp[z])) (λz=>hb (by simp[z])) g⟩)
    (λb G q=>by rw[aG (ne b _ q)];exact q) (λb o G q=>by rw[aG (ne b _ q)];exact q) (λb ps q=>⟨#[],by rw[aG (ne b _ q),q];simp⟩)
    (λm hm=>?_) (λb o q=>?_) I.bare
   ·rcases gi.mp hb with rfl |hb
    ·exact⟨Tq,Q6,Ts,Tt⟩
    have:b=it:=by simpa using hb
    subst this;exact⟨O,B,M,W⟩
   ·obtain⟨o,es,ep,l,r⟩:=hm;exact⟨o,es,ep,kp _ o (vu Q6) (vu B) l,r⟩
   by_cases hb:b=s.heap.objs.size
   ·subst hb;rw[HG] at q;cases q;exact⟨by show 2<=dk;decide,[.int i tk,y],.cons ⟨tk,rfl⟩ (.cons ru .nil),_,NB⟩
   rw[aG hb] at q;refine(I.HZ b o q).Ly (λc v Mj z=>kp c v ?_ ?_ z) (λc z=>by rw[aG (ne c _ z)];exact z) λc G z=>by rw[aG (ne c _ z)];exact z
   ·rcases Mj with z' |z'
    ·rw[z'];exact aU q R
    exact aU z' R
   rcases Mj with z' |z'
   ·rw[z'];exact aU q t
   exact aU z' t
  refine⟨#[11],_,I1,rfl,⟨_,x,Y,rfl,rfl,λys hy=>by rw[I.LW hy D];exact U⟩,⟨⟨y,Nl⟩,Qg.1.extBut V.extBut (vu T)⟩,λb hb=>?_⟩;rcases gi.mp hb with rfl |hb
  ·rw[aG (vu Z)];exact R
  have:b=it:=by simpa using hb
  subst this;obtain⟨o,LC,_⟩:=f;rw[aG (md (ek LC))];exact t
 done:=by
  intro X n L J hc i j s σ H E I F st N;subst n L J;obtain⟨G,D,U⟩:=N;obtain⟨its,S,p,hz⟩:=I.list D;obtain⟨⟨old,d⟩,f⟩:=st;obtain⟨t,B,Tu,O,M,W⟩:=F it #[3];have hl:=S.length;exact wpAny_pyNext_enum_end (I.ok.hd hc) d f p.isList (by simp;omega) λh' eb=>⟨rfl,I.turned (t':=s.toks) (λb o hb e=>eb b o hb e) t B O M W⟩
 self:=by
  intro A i s Q E st h;obtain⟨⟨old,d⟩,_⟩:=st;exact P4 d h
theorem Walk.OE {a:b0}{ds:ae D}{xs:ae V}{J:ae b0}{H:Hp}(t:LQ X.K H J a xs)(m:Hz X.K H J ds xs):Walk X (ED X.K a) (bX 0 ds) J H where
 len:=by rw[bR,m.length];exact t.len
 go:=λf c i x b=>by
  rw[bR] at b;have m1:=m.ex x;obtain⟨v,h,_⟩:=m1.get (a4 b);exact⟨xs,v,(t.ex x).sq,h⟩
 MU:=λf c i v l x k b y=>by
  obtain⟨p,y,g,rfl,rfl,j⟩:=y;obtain⟨d,e,a⟩:=(m.ex x).get' (j xs (t.ex x).sq);refine⟨.tup [.int i,d],by rw[b9,e];simp,At.JD (.cons (#[14]) (.cons a .nil)) g k (by show 2<=dk;decide),aO g _⟩
 stop:=λf c i x b=>by
  rw[bR] at b;exact⟨xs,(t.ex x).sq,by rw[← m.length];exact b⟩
noncomputable def wE:ae D->ax (ae D)
 |[.lst xs]=>aa (bX 0 xs)
 |_=>av
theorem vI {es:ae gj}{k:Nat}{pt p:N5}{a:gj}{t:Hn (ae D)}{x:ej}(G:x="enumerate")(A:X.mg x=av)(ha:SA X W [a] t)(M:Gl X x:=by rfl)
  (E:dm (a::[]) X.env=(bo,lX a X.env)::dm [] X.env:=by rfl) (O:(mf pos (dm [] X.env)).any (·.1)=bo:=by rfl):SI X W (.Tuple es k pt) (.Call (.Name x p) [a] [] pos) (kS wE t):=by
 subst G;intro c s j H R I h;refine J4 (lH I M A boot_enumerate ?_ #[1] #[1]);refine callWith_type1 (HU (ha pos c s j H _ I (oj h)) λP d y=>?_) E O;obtain⟨vs,i,f,C,J,S,Z,V,so,m,g,z⟩:=y;unfold wE at g;split at g
 ·rename_i U;cases g;obtain⟨v,r,rfl,a1,n⟩:=Hz.Hy.mp m;cases Hz.HA.mp n;obtain⟨ad,T,rfl,w,N⟩:=At.HN.mp a1;obtain⟨u,rfl,F⟩:=vals1 C;cases F;obtain⟨its,Q,pl,Y⟩:=f.list w.sq;have q:ad<d.heap.objs.size:=by obtain⟨o,n,e,_⟩:=pl;exact ek e
  refine call_enumerate_list pl.isList λB l it sz kp=>?_;have L:Inv X c j i { d with heap:=B }:=f.kept (t':=d.toks) kp;refine P4 l ?_;refine⟨d.heap.objs.size+1,[d.heap.objs.size+1,d.heap.objs.size],_,ED X.K ad,i,rfl,L,vt ad _ _ (Xd (OO _)) (md (O6 q)) (md q),⟨⟨_,l⟩,it⟩,λb hb=>?_,z i _ (HJ.refl _) (Walk.OE w N)⟩;rcases gi.mp hb with rfl |hb
  ·exact f.Ld (T9 _) (f.HZ.fresh (T9 _))
  have:b=d.heap.objs.size:=by simpa using hb
  subst this;exact f.Ld (eG _) f.fresh
 cases g
noncomputable def sG:ae D->ax (ae D)
 |[.tup xs]=>aa (bX 0 xs)
 |[.lst xs]=>aa (bX 0 xs)
 |_=>av
theorem zt {es:ae gj}{k:Nat}{pt p:N5}{a:gj}{t:Hn (ae D)}{x:ej}(e:x="enumerate")(f:X.mg x=av)(ha:SA X W [a] t)(d:Gl X x:=by rfl)
  (c:dm (a::[]) X.env=(bo,lX a X.env)::dm [] X.env:=by rfl) (g:(mf pos (dm [] X.env)).any (·.1)=bo:=by rfl):SI X W (.Tuple es k pt) (.Call (.Name x p) [a] [] pos) (kS sG t):=by
 refine SI.either (m8 e f ha d c g) (vI e f ha d c g) λj S=>?_;unfold kS;refine cM _ λh i=>?_;unfold sG jR wE
 match h with
 |[.tup xs]=>exact .inl rfl
 |[.lst xs]=>exact .inr rfl
 |[]=>exact .inl rfl
 |[.Ic]=>exact .inl rfl
 |[.bl _]=>exact .inl rfl
 |[.int _]=>exact .inl rfl
 |[.str _]=>exact .inl rfl
 |[.set _]=>exact .inl rfl
 |[.loc _]=>exact .inl rfl
 |[.fn _ _]=>exact .inl rfl
 |a::b::r=>cases a<;>exact .inl rfl
end
section
variable {X:Cx}{W:WT}{pos p:N5}{e:gj}
noncomputable def Cy (c:ej)(g:Hv->Hu->e8):Hn Fl:=λa S=>if g a S=a6 then aa (.error c,S) else av
end
def FE (K:Ho)(x qual:ej)(st:mq)(f:b0):Prop:=∃ fd,Nj K x qual st f fd
def BD (x qual:ej)(st:mq)(b:ae ej):Prop:=∀ (kV doc e:ay) (d:ax b0) (c ct:ay) (a:ae ay),a.length=b.length->OI (wb x qual (eE st) (bZ st) (aB st) .none kV doc e d c ct) ⟨a,[]⟩=u1 (b.zip a)
section
variable {P:ae ay->Prop}{us:ae ay}
theorem WM (h:us.length=0)(k:P []):P us:=by rw[r3.mp h];exact k
theorem Bf {n:Nat}(h:us.length=n+1)(k:∀ a r,r.length=n->P (a::r)):P us:=by
 cases us with
 |nil=>cases h
 |cons a r=>exact k a r (Nat.succ.inj h)
theorem Vc (h:us.length=1)(k:∀ a,P [a]):P us:=Bf h λa _ h=>WM (P:=λr=>P (a::r)) h (k a)
theorem Rp (h:us.length=2)(k:∀ a b,P [a,b]):P us:=Bf h λa _ h=>Vc (P:=λr=>P (a::r)) h (k a)
theorem Vd (h:us.length=3)(k:∀ a b c,P [a,b,c]):P us:=Bf h λa _ h=>Rp (P:=λr=>P (a::r)) h (k a)
theorem WN (h:us.length=4)(k:∀ a b c d,P [a,b,c,d]):P us:=Bf h λa _ h=>Vd (P:=λr=>P (a::r)) h (k a)
end
section
variable {x qual:ej}{st:mq}{p1 p2 p3 p4 p5 p6:ej}
theorem TV (h:∀ (kV doc e:ay) (d:ax b0) (b ct:ay) (a:ay),OI (wb x qual (eE st) (bZ st) (aB st) .none kV doc e d b ct) ⟨[a],[]⟩=u1 [(p1,a)]):BD x qual st [p1]:=λkV doc e d b ct c f=>Vc (P:=λc=>OI _ ⟨c,[]⟩=u1 (Z4 [p1] c)) f λa=>(h kV doc e d b ct a)
theorem TX (h:∀ (kV doc f:ay) (e:ax b0) (c ct:ay) (a b:ay),OI (wb x qual (eE st) (bZ st) (aB st) .none kV doc f e c ct) ⟨[a,b],[]⟩=u1 [(p1,a),(p2,b)]):BD x qual st [p1,p2]:=λkV doc f e c ct d g=>Rp (P:=λd=>OI _ ⟨d,[]⟩=u1 (Z4 [p1,p2] d)) g λa b=>(h kV doc f e c ct a b)
theorem TY (h:∀ (kV doc g:ay) (f:ax b0) (d ct:ay) (a b c:ay),OI (wb x qual (eE st) (bZ st) (aB st) .none kV doc g f d ct) ⟨[a,b,c],[]⟩=u1 [(p1,a),(p2,b),(p3,c)]):BD x qual st [p1,p2,p3]:=λkV doc g f d ct e i=>Vd (P:=λe=>OI _ ⟨e,[]⟩=u1 (Z4 [p1,p2,p3] e)) i λa b c=>(h kV doc g f d ct a b c)
theorem TZ (h:∀ (kV doc i:ay) (g:ax b0) (e ct:ay) (a b c d:ay),OI (wb x qual (eE st) (bZ st) (aB st) .none kV doc i g e ct) ⟨[a,b,c,d],[]⟩=u1 [(p1,a),(p2,b),(p3,c),(p4,d)]):BD x qual st [p1,p2,p3,p4]:=λkV doc i g e ct f j=>WN (P:=λf=>OI _ ⟨f,[]⟩=u1 (Z4 [p1,p2,p3,p4] f)) j λa b c d=>(h kV doc i g e ct a b c d)
end
section
variable {K:Ho}{h:j0}{mg:Hs}{x m c qual:ej}{st:mq}{ps:ae ej}{f C:b0}
theorem fE {d:ay}{h e:ax b0}{b:h8 (ax ay)}{kV doc g a ct:ay}(l:K.lookup f=aa ⟨d,h,.func (wb x qual (eE st) (bZ st) (aB st) .none kV doc g e a ct),b⟩)
  (c:Si K a qual=a6) (k:yk K (.ref f)=a6):FE K x qual st f:=⟨_,D8 l c k⟩
theorem WO (X:K.In h)(G:h.Ns ly mg)(a:H8 K ly x=aa (aa (.ref f)))(q:FE K x x st f)(b:BD x x st ps):bv K mg x st ps:=
 Zt q λfd F=>⟨f,fd,F,aae X G a,F.binds b⟩
abbrev NC (K:Ho)(c:ej)(C:b0):Prop:=H8 K ly c=aa (aa (.ref C))/\Mo K C
theorem WQ (n:NC K c C)(a:ml K (.ref C) m=aa (aa (.ref f)))(i:RC K (.ref f)=a6)(q:FE K m qual st f)(b:BD m qual st ps):MethAt K c m qual st ps:=
 Zt q λfd F=>⟨C,f,fd,n.1,n.2,⟨a,i,F.kp⟩,F,F.binds b⟩
theorem WR (X:K.In h)(G:h.Ns ly mg)(n:NC K c C)(d:WD K C=a6)(e:yk K (.ref C)=a6)(a:ml K (.ref C) "__init__"=aa (aa (.ref f)))(i:RC K (.ref f)=a6)(q:FE K "__init__" qual st f)(b:BD "__init__" qual st ps):EB K mg c qual st ps:=
 Zt q λfd F=>⟨C,f,fd,n.1,aae X G n.1,⟨d,a,i,e⟩,F,F.binds b⟩
end
section
variable {prog:ew}{w:hB}{A:hG}{E:Hq}{s:cc}
structure ZA (z TI TO i1 i2:b0) (f1 f2:ae b0):Prop where
 m1:i1∈f1
 m2:i2∈f2
 z1:z∉f1
 z2:z∉f2
 o1:TO∉f1
 o2:TO∉f2
 x1:i2∉f1
 x2:i1∉f2
 oz:TO≠z
 tz:TI≠z
 to:TI≠TO
 t1:TI∉f1
 t2:TI∉f2
variable {z TI TO i1 i2:b0}{f1 f2:ae b0}{n1 n2:Nat}{P1 P2:Nat->ay->Prop}{S1 S2:Nat->j0->Prop}{a b:ay}
end
def Ve (k:e8)(h:j0)(it a:b0)(i:Nat):Prop:=match k with
 |a6=>h.IsTupleIter it a i
 |bo=>h.IsListIter it a i
structure X7 (k1 k2:e8) (a b z TI TO i1 i2:b0) (n1 n2 i:Nat) (h:j0):Prop where
 zip:IsZip h z TI TO .none
 its:IsPair h TI (.ref i1) (.ref i2)
 out:∃ u v,IsPair h TO u v
 fst:Ve k1 h i1 a i
 snd:Ve k2 h i2 b i
 X8:i<=n1
 X9:i<=n2
end L2
namespace L2
open PySem PyProof.Rows
section
variable {O:Z5}{kf:ay->O.α}
def Rq (O:Z5)(kf:ay->O.α)(x y:Keyed):Prop:=O.kle (kf x.1) (kf y.1)
structure Mg (O:Z5) (kf:ay->O.α) (T out A B:ae Keyed):Prop where
 perm:(out++(A++B)).Perm T
 so:out.Pairwise (Rq O kf)
 sa:A.Pairwise (Rq O kf)
 sb:B.Pairwise (Rq O kf)
 low:∀ x∈out,∀ y∈A++B,Rq O kf x y
end
structure Vf (st IF:SortSt):Prop where
 kind:kindOf IF=kindOf st
 arr:Rj IF=Rj st
 pend:Yh IF=Yh st
 fail:Y7 IF=Y7 st
section
variable {prog:ew}{w:hB}{A:hG}{E:Hq}{s:cc}{kd:Z6}{O:Z5}{kf:ay->O.α}{G:Keyed->Prop}
noncomputable def KX (kf:ay->O.α)(xs:h8 Keyed)(i:Nat):O.α:=match xs[i]? with
 |aa p=>kf p.1
 |av=>kf .none
structure Sg (G:Keyed->Prop) (kd:Z6) (lo hi:Nat) (st IF:SortSt):Prop where
 kind:kindOf IF=kd
 good:∀ x∈(Rj IF).toList,G x
 perm:(Rj IF).Perm (Rj st)
 pend:Yh IF=Yh st
 fail:Y7 IF=Y7 st
 WS:gallopOf IF=gallopOf st
 same:∀ k,(k<lo∨hi<=k)->(Rj IF)[k]?=(Rj st)[k]?
end
section
variable {prog:ew}{w:hB}{A:hG}{E:Hq}{s:cc}{kd:Z6}{O:Z5}{kf:ay->O.α}{G:Keyed->Prop}
def GO {α:Type}(lt : α->α->e8)(d:ae α):Prop:=d.length=64/\(∃ a b c r,d=a::b::c::r/\lt a b=a6/\lt c b=a6)/\∃ a b c r,d.drop 32=a::b::c::r/\lt a b=a6/\lt c b=a6/\∃ X Y:ae α,X.length=32/\Y.length=32 /\
 (d.take 32).Perm X/\(d.drop 32).Perm Y/\X.Pairwise (λa b=>lt b a=bo)/\Y.Pairwise (λa b=>lt b a=bo)/\(∀ p∈X.zip Y,lt p.1 p.2=a6)/\∀ p∈Y.zip X.tail,lt p.1 p.2=a6
def Spec {α:Type}(lt : α->α->e8)(a:ae α):Prop:=(a.length<64/\a.Nodup)∨GO lt a
structure WU (G:Keyed->Prop) (kd:Z6) (kf:ay->O.α) (st IF:SortSt) (p:h8 (Nat×Nat×Nat)):Prop where
 kind:kindOf IF=kd
 good:∀ x∈(Rj IF).toList,G x
 fail:Y7 IF=av
 WS : 2<=gallopOf IF
 perm:(Rj IF).Perm (Rj st)
 pend:Yh IF=p
 tk:((Rj IF).toList.take 32).Perm ((Rj st).toList.take 32)
 ts:((Rj IF).toList.take 32).Pairwise (Rq O kf)
end
structure R9 where
 O:Z5
 keyOf:ay->ax O.α
 dflt:O.α
 ty:NA
 nt:(R0 ty != R0 "tuple")=a6
 typ:∀ v a,keyOf v=aa a->typeOf v=u1 (.type ty)
 fst:∀ v a,keyOf v=aa a->firstOfTuple' v=u1 av
 eqB:∀ {prog:ew}{w:hB}{A:hG}{E:Hq}{s:cc}{x y:ay}{a b:O.α}{Q:e8->cc->Prop},keyOf x=aa a->keyOf y=aa b->Q (!O.blt a b&&!O.blt b a) s->d6 (eJ prog w) A (eqBool x y) Q E s
 lt:∀ {prog:ew}{w:hB}{A:hG}{E:Hq}{s:cc}{x y:ay}{a b:O.α}{Q:e8->cc->Prop}(o:e8),keyOf x=aa a->keyOf y=aa b->Q (O.blt a b) s->d6 (eJ prog w) A (oneLt' o x y) Q E s
inductive KeysAre (κ:R9):ae ay->ae κ.O.α->Prop
 |nil:KeysAre κ [] []
 |cons {v:ay}{a : κ.O.α}{vs:ae ay}{as:ae κ.O.α} : κ.keyOf v=aa a->KeysAre κ vs as->KeysAre κ (v::vs) (a::as)
def GM (b:R9)(h:j0)(v:ay)(c:ae b.O.α):Prop:=∃ a o its n,v = .ref a/\h.get? a=aa o/\o.cls = .type "tuple"/\o.data = .seq its n/\KeysAre b its.toList c
section
variable {prog:ew}{w:hB}{A:hG}{E:Hq}{s:cc}{κ:R9}
inductive LM (κ:R9) (h:j0):ae ay->ae (ae κ.O.α)->Prop
 |nil:LM κ h [] []
 |cons {v:ay}{a : κ.O.α}{as:ae κ.O.α}{vs:ae ay}{Vg:ae (ae κ.O.α)}:GM κ h v (a::as)->LM κ h vs Vg->LM κ h (v::vs) ((a::as)::Vg)
end
section
variable {prog:ew}{w:hB}{A:hG}{E:Hq}{s:cc}
theorem Mv {x:ej}{v:ay}(h:(Ys prog w).is x v=a6):∃ t,v = .str x t:=Yi h
inductive Mw (prog:ew) (w:hB) (h:j0):ae ay->ae (ae ej)->Prop
 |nil:Mw prog w h [] []
 |cons {a:b0}{x:ae ej}{vs:ae ay}{xs:ae (ae ej)}:IsTupleKey (Ys prog w) h x a->Mw prog w h vs xs->Mw prog w h (.ref a::vs) (x::xs)
def FI (prog:ew)(w:hB)(h:j0)(a:b0)(x:ae ej)(n:Int):Prop:=∃ o b t m,h.get? a=aa o/\o.cls = .type "tuple"/\o.data = .seq #[.ref b,.int n t] m/\IsTupleKey (Ys prog w) h x b
inductive Mx (prog:ew) (w:hB) (h:j0):ae ay->ae (ae ej×Int)->Prop
 |nil:Mx prog w h [] []
 |cons {a:b0}{x:ae ej}{n:Int}{vs:ae ay}{xs:ae (ae ej×Int)}:FI prog w h a x n->Mx prog w h vs xs->Mx prog w h (.ref a::vs) ((x,n)::xs)
end
end L2
namespace L2
open PySem PySem.Spec PyProof.Rows PySem.W
section
variable {X:Cx}{W:WT}
noncomputable def zb {α:Type}(f:D->ax α):ae D->ax (ae α)
 |[]=>aa []
 |d::r=>(f d).bind λa=>(zb f r).map (a::·)
end
noncomputable def C0 (X:Cx)(q:ej)(scope:i0)(cl:ae (ej×b0))(b:ae ej)(f:b0)(cd:ay)(a:cc)(c:Hp):Cx:=
 { X with A:=X.A.in1.deeper (envX q scope a.heap.objs.size f cd cl),N:=b,s₀:=a,H₀:=c,env:=envX q scope a.heap.objs.size f cd cl,outer:=X.stack,stack:=envX q scope a.heap.objs.size f cd cl::X.stack,ex:=[],fn:=λ_=>bo,calm:=a6,pn:=[],xe:=λ_ _=>False }
section
variable {X:Cx}{pins:Hr}{σ:St}{H:Hp}{s:cc}{scope:i0}{cl:ae (ej×b0)}{ix:ae Nat}{x q:ej}
structure Rr (X:Cx) (scope:i0) (cl:ae (ej×b0)):Prop where
 sub:∀ x c,cl.lookup x=aa c->X.env.cells.lookup x=aa c
 has:∀ y∈scope.names,y.2 = .free->∃ c,cl.lookup y.1=aa c
def FL (X:Cx)(k:Nat)(q:ej)(scope:i0)(x:ej)(ix:ae Nat)(body:gj)(c:Hn D):Prop:=
 ∀ (cl:ae (ej×b0)) (f:b0) (cd:ay) (a:cc) (b:Hp),Ib k (C0 X q scope cl (iN [x] ix X.N) f cd a b).A->SE (C0 X q scope cl (iN [x] ix X.N) f cd a b) W0 body c
structure NP (X:Cx) (scope:i0) (x:ej) (ix:ae Nat):Prop where
 sc:Jh scope X.env
 nc:∀ y∈scope.names,y.2≠.cell
 WV:∀ t∈ix,scope.names.lookup (X.N.getD t RZ)=aa .free
 par:scope.names.lookup x=aa .local
 co:scope.isCoroutine=bo
 gen:scope.isGenerator=bo
end
class BmB (base:j0) (mg:Hs):Prop where
 out:∃ bm o,mg "__builtins__"=aa (.ref bm)/\bm≠R6/\bm≠ly/\base.get? bm=aa o/\o.cls = .type "module"/\o.dict=aa R6/\o.data = .plain
section
variable {X:Cx}{pins:Hr}{σ:St}{scope:i0}{cl:ae (ej×b0)}{ix:ae Nat}{x q:ej}{params:QK}{body:gj}{pm Ny:ay}{c' f Ia St p:b0}{k:Nat}{gk:Hn D}{ρ:Hv}{S2:Hu}{y:D}{zs:ae V}{ds:ae D}{J0:ae b0}{H0:Hp}{R:YB->cc->Prop}
structure T3 (X:Cx) (pins:Hr) (scope:i0) (cl:ae (ej×b0)) (ix:ae Nat) (x q:ej) (params:QK) (body:gj) (pm Ny:ay) (c' f Ia St p:b0) (k:Nat) (gk:Hn D):Prop where
 hr:Ib (k+2) X.A
 L:NP X scope x ix
 lc:Rr X scope cl
 hb:∀ u,OI (kla_fn "<lambda>" q params body scope cl pm (.ref c') Ny) ⟨[u],[]⟩=u1 [(x,u)]
 ok:FL X k q scope x ix body gk
 ff:∀ H:Hp,H f=av->g9 X pins H f
 fI:∀ H:Hp,H Ia=av->g9 X pins H Ia
 fS:∀ H:Hp,H St=av->g9 X pins H St
 n1:f≠Ia
 n2:f≠St
 n3:Ia≠St
 n4:p≠Ia
 n5:p≠St
structure Vh (X:Cx) (pins:Hr) (σ:ae (ax V)) (scope:i0) (cl:ae (ej×b0)) (q:ej) (params:QK) (body:gj) (pm Ny:ay) (c' f Ia St p:b0) (ρ:Hv) (zs:ae V) (ds:ae D) (J0:ae b0) (H0:Hp) (j:Nat) (s:cc) (H:Hp) (J:ae b0) (S:Hu):Prop where
 I:Inv X pins σ H s
 ex:Ex J0 H0 J H
 c:Cf X J ρ S σ H
 lq:LQ X.K H J p zs
 az:Hz X.K H J ds zs
 hc:H c'=aa (Bb c' q)
 nc:c'∉J
 Hf:H f=av
 HI:H Ia=av
 HS:H St=av
 gf:s.heap.get? f=aa (kla_obj "<lambda>" q params body scope cl pm c' Ny)
 it:s.heap.IsListIter Ia p j
end
mutual
def tO:D->e8
 | .Ic=>a6
 | .bl _=>a6
 | .int _=>a6
 | .str _=>a6
 | .tup a=>Vi a
 |_=>bo
def Vi:ae D->e8
 |[]=>a6
 |d::ds=>tO d&&Vi ds
end
def GL (o:HO):Prop:=∃ a,o = .tup a∨∃ b,o = .ME b (.tup a)
structure Rt (scope:i0) (x n:ej):Prop where
 kind:scope.kind = .function
 nc:∀ y∈scope.names,y.2≠.cell
 par:scope.names.lookup x=aa .local
 WV:scope.names.lookup n=aa .free
 one:∀ y∈scope.names,y.2 = .free->y.1=n
 co:scope.isCoroutine=bo
 gen:scope.isGenerator=bo
noncomputable def Fc (S:Hu):e8:=S.all λo=>match o with
 | .Qc _ _ _ _=>bo
 |_=>a6
section
variable {K:Ho}{H:Hp}{J:ae b0}{c:b0}{oc:VJ}
structure Vj (H:Hp) (c:b0):Prop where
 st:∀ us,H c≠aa (FH c us)
 tu:∀ o,GL o->H c≠aa o
 li:∀ xs,H c≠aa (.lst xs)/\∀ ob,H c≠aa (.ME ob (.lst xs))
 cd:∀ q,H c≠aa (Bb c q)
end
section
variable {X:Cx}{W:WT}{g n z q:ej}{p pos lp:N5}{e1 e2:gj}{f1 f2:Hn D}{params:QK}{body:gj}{scope:i0}{k i:Nat}{ps:ae ej}{F:Ht}{c0 P:b0}
structure WW (X:Cx) (σ:St) (q n:ej) (params:QK) (body:gj) (scope:i0) (lp:N5) (i:Nat) (F:Ht) (Q:V->Hp->Prop) (v1 v2:V) (f c c':b0) (pm Ny:ay) (a b dc y:D) (J:ae b0) (ρ:Hv) (S S3:Hu) (H0 H2:Hp):Prop where
 cf:Cf X J ρ S σ H0
 a1:At X.K H0 J a v1
 a2:At X.K H0 J b v2
 ri : ρ[i]?=aa (aa dc)
 eF:F [a,b,.loc S.length] (S++[.Qc (.Lambda params body scope lp) q n dc])=aa (.ok y,S3)
 nc:Fc S=a6
 ty:tO y=a6
 tk:S3.take S.length=S
 ex:Ex J H0 J H2
 so:HW X.K J S H2
 nf:H2 f=av
 cj:c'∉J
 cd:H2 c'=aa (Bb c' q)
 ce:X.env.cells.lookup n=aa c
 fin:∀ J' H' v,Ex J H0 J' H'->HW X.K J' S H'->At X.K H' J' y v->Q v H'
end
end L2
namespace L2
open PySem
noncomputable def LP:Nat->Nat->Nat
 | 0,i=>i
 |n+1,i=>LP n (5*i+1)
theorem xv (a b i:Nat):LP (a+b) i=LP b (LP a i):=by
 induction a generalizing i with
 |zero=>simp[LP]
 |succ a c=>rw[succ_add];exact c _
theorem Cg (k:Nat):∃ a b,∀ x,LP (2 ^ k) x=(1+2 ^ (k+2)*a)*x+2 ^ k*(2*b+1):=by
 induction k with
 |zero=>exact⟨1,0,λx=>by simp[LP]⟩
 |succ k c =>
  obtain⟨a,b,h⟩:=c;refine⟨a+2*2 ^ k*a*a,b+2 ^ k*a*(2*b+1),λx=>?_⟩;have e : 2 ^ (k+1)=2 ^ k+2 ^ k:=by rw[NH];omega
  have d : 2 ^ (k+2)=4*2 ^ k:=by rw[pow_add];omega
  have f : 2 ^ (k+1+2)=8*2 ^ k:=by rw[pow_add,pow_add];omega
  rw[e,xv,h,h,f,d];generalize 2 ^ k=p
  grind
theorem Ch (n m x y:Nat)(h:x % m=y % m):LP n x % m=LP n y % m:=by
 induction n generalizing x y with
 |zero=>exact h
 |succ n a=>exact a _ _ (by rw[add_mod,Nat.mul_mod,h,← Nat.mul_mod,← add_mod])
theorem Ci (k:Nat):∀ i t,t<2 ^ k->∃ n,n<2 ^ k/\LP n i % 2 ^ k=t:=by
 induction k with
 |zero=>intro i t h;exact⟨0,#[2],by simp at h;simp[h,Nat.mod_one]⟩
 |succ k f =>
  intro i t h;have e : 2 ^ (k+1)=2*2 ^ k:=by rw[NH];omega
  have d : 0<2 ^ k:=Zx k;obtain⟨n,x,c⟩:=f i (t % 2 ^ k) (U1 _ d);obtain⟨a,b,g⟩:=Cg k
  have u:LP (n+2 ^ k) i % (2*2 ^ k)=(LP n i+2 ^ k) % (2*2 ^ k):=by
   rw[xv,g]
   have:(1+2 ^ (k+2)*a)*LP n i+2 ^ k*(2*b+1)=LP n i+2 ^ k+(2*2 ^ k)*(2*a*LP n i+b):=by
    have r : 2 ^ (k+2)=4*2 ^ k:=by rw[pow_add];omega
    rw[r];generalize 2 ^ k=p
    grind
   rw[this,Nat.add_mul_mod_self_left]
  rw[e] at h ⊢;generalize l:LP n i=z at *
  by_cases q:z % (2*2 ^ k)=t
  ·exact⟨n,#[2],by rw[l];exact q⟩
  refine⟨n+2 ^ k,#[2],?_⟩;rw[u];generalize 2 ^ k=p at *
  have j:z % (2*p) % p=z % p:=Nat.mod_mod_of_dvd _ ⟨2,#[2]⟩;have w:z % (2*p)<2*p:=U1 _ #[0];rw[add_mod];have v:p % (2*p)=p:=N4 #[0];rw[v];rw[← j] at c;generalize z % (2*p)=y at *
  have s:y % p=if y<p then y else y-p:=by
   split
   ·exact N4 #[0]
   rw[Ti #[0],N4 #[0]]
  have o:t % p=if t<p then t else t-p:=by
   split
   ·exact N4 #[0]
   rw[Ti #[0],N4 #[0]]
  have m:(y+p) % (2*p)=if y<p then y+p else y-p:=by
   split
   ·exact N4 #[0]
   rw[Ti #[0],show y+p-2*p=y-p by omega,N4 #[0]]
  rw[s,o] at c;rw[m];split at c<;>split at c<;>split<;>omega
noncomputable def dM (mask:Nat):Nat->Nat->Nat->Nat×Nat
 | 0,i,p=>(i,p)
 |n+1,i,p=>dM mask n (lx mask i p).1 (lx mask i p).2
theorem yN (mask a b i p:Nat):dM mask (a+b) i p=dM mask b (dM mask a i p).1 (dM mask a i p).2:=by
 induction a generalizing i p with
 |zero=>simp[dM]
 |succ a c=>rw[succ_add];exact c _ _
theorem yM (mask n i p:Nat):(dM mask n i p).2=p / 32 ^ n:=by
 induction n generalizing i p with
 |zero=>simp[dM]
 |succ n a =>
  show (dM mask n _ _).2=_;rw[a];show p / 32 / 32 ^ n=_;rw[Nat.div_div_eq_div_mul,NH,ZU 32]
theorem wj (mask n i:Nat):(dM mask n i 0).1 % (mask+1)=LP n i % (mask+1):=by
 induction n generalizing i with
 |zero=>rfl
 |succ n a =>
  show (dM mask n _ _).1 % _=LP n _ % _;have:(lx mask i 0).2=0:=rfl;rw[this,a];refine Ch _ _ _ _ ?_;show (i*5+1+0 / 32) % (mask+1) % (mask+1)=_;rw[Nat.mod_mod];congr 1;omega
theorem ur (mask n i p:Nat)(hi:i<=mask):(dM mask n i p).1<=mask:=by
 induction n generalizing i p with
 |zero=>exact hi
 |succ n a=>exact a _ _ (Om (U1 _ (VC _)))
theorem qJ {mask k:Nat}(a:mask+1=2 ^ k){i p j:Nat}(hi:i<=mask)(c:p<2 ^ 64)(e:j<=mask):∃ n,n<mask+14/\(dM mask n i p).1=j:=by
 have b:(dM mask 13 i p).2=0:=by rw[yM];exact Nat.div_eq_of_lt (hv c #[1])
 obtain⟨n,f,d⟩:=Ci k (dM mask 13 i p).1 j #[0];refine⟨13+n,#[2],?_⟩;rw[yN,b];have:=wj mask n (dM mask 13 i p).1;rw[a,d] at this;rw[← a,N4 (Nat.lt_succ_of_le (ur _ _ _ _ (ur _ _ _ _ hi)))] at this;exact this
theorem xQ (h:Int):i3 h<2 ^ 64:=by unfold i3;have:=rT h (show (2 ^ 64:Int)≠0 by decide);have:=sy h (show (0:Int)<2 ^ 64 by decide);omega
theorem xB {owner:h8 (ax Nat)}{mask:Nat}:∀ (n a i p:Nat),n<a->owner[(dM mask n i p).1]?=aa av->∃ j,mm mask owner a i p=aa j/\owner[j]?=aa av
 |n,0,_,_,h,_=>hK h (Zy _)
 |n,a+1,i,p,h,e=>by
  unfold mm;split
  ·rename_i k b;have:=Zz b;refine⟨i+k,rfl,?_⟩;rw[rk] at this;cases q:owner[i+k]? with
   |none=>rw[q] at this;cases this
   |some o=>rw[q] at this;cases o with
    |none=>rfl
    |some v=>cases this
  rename_i b;cases n with
  |zero =>
   have : 0∈ei (h7 mask i+1-i):=by rw[nC];unfold h7;split<;>omega
   have:=U3.mp b 0 this;rw[rk] at this;have e:owner[i]?=aa av:=e;rw[Nat.add_zero,e] at this;exact hK rfl this
  |succ n=>exact xB n a _ _ (Nat.lt_of_succ_lt_succ h) e
theorem tJ {k:Nat}:∀ {l:ae (ax Nat)}{j:Nat},l[j]?=aa av->((l.set j (aa k)).filterMap id).Perm (k::l.filterMap id)
 |[],j,h=>by simp at h
 |a::l,0,h=>by
  simp at h;subst h;simp
 |a::l,j+1,h=>by
  have b:=tJ (l:=l) (j:=j) (k:=k) (by simpa using h);cases a with
  |none=>simpa using b
  |some v =>
   simp only[List.set_cons_succ,Nk (f:=id) rfl];exact(XQ v b).trans (Z3 _ _ _)
theorem xC:∀ {l:ae (ax Nat)},(l.filterMap id).length<l.length->∃ j:Nat,l[j]?=aa av
 |[],h=>by simp at h
 |av::l,h=>⟨0,rfl⟩
 |aa v::l,h=>by
  simp only[Nk (f:=id) rfl,hD] at h;obtain⟨j,e⟩:=xC (l:=l) #[0];exact⟨j+1,by simpa using e⟩
theorem wl {mask k:Nat}(q:mask+1=2 ^ k):∀ (a:ae Int) (owner:h8 (ax Nat)) (n:Nat),owner.size=mask+1->(owner.toList.filterMap id).Perm (ei n)->n+a.length<=mask+1 ->
  ∃ e,a.foldl (init:=aa (owner,n)) (λf h=>do
   let (owner,k) ← f;let j ← mm mask owner (y2 mask) (i3 h % (mask+1)) (i3 h)
   u1 (owner.setIfInBounds j (aa k),k+1))=aa (e,n+a.length)/\e.size=mask+1/\(e.toList.filterMap id).Perm (ei (n+a.length))
 |[],owner,n,d,b,_=>⟨owner,rfl,d,b⟩
 |h::a,owner,n,d,b,h3=>by
  rw[hD] at h3;have v:(owner.toList.filterMap id).length=n:=by rw[b.length_eq,lr]
  obtain⟨g,c⟩:=xC (l:=owner.toList) (by rw[v,hH];omega);rw[ih] at c;have A:g<owner.size:=(m4.mp c).1;obtain⟨m,z,u⟩:=qJ q (i:=i3 h % (mask+1)) (p:=i3 h) (j:=g) (Om (U1 _ (VC _))) (xQ h) #[0];obtain⟨j,t,o⟩:=xB (owner:=owner) (mask:=mask) m (y2 mask) _ _ (by unfold y2;omega) (by rw[u];exact c);have y:j<owner.size:=(m4.mp o).1
  obtain⟨w,r,x,s⟩:=wl q a (owner.setIfInBounds j (aa n)) (n+1) (by rw[U4,d]) (by
   rw[Array.toList_setIfInBounds,Z0]
   exact(tJ (by rw[ih];exact o)).trans ((XQ n b).trans (OM n (ei n)).symm)) #[0]
  refine⟨w,?_,x,?_⟩
  ·rw[wi,hD,show n+(a.length+1)=n+1+a.length by omega,← r];simp only[P8,p0,t,XM]
  rw[hD,show n+(a.length+1)=n+1+a.length by omega];exact s
theorem B_ {mask k:Nat}(n:mask+1=2 ^ k)(finger moves:Nat)(led plain:e8)(e:h8 Int)(q:e.size<=mask+1) :
  ∃ t order,O7 mask finger moves led plain e=aa (t,order)/\order.toList.Perm (ei e.size)/\t.mask=mask/\t.place.size=e.size/\t.dummies = #[]/\t.led=led/\t.plain=plain/\JL t.place:=by
 obtain⟨o,h,l,f⟩:=wl n e.toList (WX (mask+1) av) 0 #[3] (by simp[Qh]) (by simpa using q);rw[n7,hH,YO] at h;rw[n7,hH] at f;have r:Mm mask e=aa o:=by unfold Mm;rw[h];rfl
 have m:(ei (mask+1)).map (λj=>o.getD j av)=o.toList:=by
  apply Zs
  ·simp[l]
  intro i a b;simp at a b;simp[a,b,l,rk]
 have g:((ei (mask+1)).filterMap λj=>(o.getD j av).map (j,·)).map (·.2)=o.toList.filterMap id:=by rw[List.map_filterMap,← m,YG];congr 1;funext j;show _=o.getD j av;cases o.getD j av<;>rfl
 refine⟨_,_,by unfold O7;simp only[r,P8,p0,XM];rfl,?_,rfl,?_,rfl,rfl,rfl,?_⟩
 ·show List.Perm (List.map _ _) _;rw[g];exact f
 ·have:=E3 T_ g;rw[f.length_eq,lr,dV] at this;simpa using this
 unfold JL;simp only[Rz,Wn];rw[Vy];refine P7.imp λ{a b} p c hc d hd=>?_;obtain⟨u,_,rfl⟩:=dv.mp hc;obtain⟨v,_,rfl⟩:=dv.mp hd;exact p
noncomputable def Qk (mask:Nat)(p:ot):ot:=
 if p.more > 0 then { p with j:=p.j+1,more:=p.more-1 } else
 { p with j:=(lx mask p.i p.perturb).1,more:=h7 mask (lx mask p.i p.perturb).1-(lx mask p.i p.perturb).1,i:=(lx mask p.i p.perturb).1,perturb:=(lx mask p.i p.perturb).2 }
noncomputable def iM (mask:Nat):Nat->ot->ot
 | 0,p=>p
 |n+1,p=>iM mask n (Qk mask p)
theorem kt (mask a b:Nat)(p:ot):iM mask (a+b) p=iM mask b (iM mask a p):=by
 induction a generalizing p with
 |zero=>simp[iM]
 |succ a c=>rw[succ_add];exact c _
theorem lm (mask n:Nat)(p:ot):iM mask (n+1) p=Qk mask (iM mask n p):=kt mask n 1 p
noncomputable def MM (mask i p:Nat):ot:={ j:=i,more:=h7 mask i-i,i:=i,perturb:=p,dummy:=av }
noncomputable def wy (mask:Nat)(h:Int)(n:Nat):ot:=iM mask n (MM mask (i3 h % (mask+1)) (i3 h))
theorem wY (t:lb)(h:Int)(n:Nat):wy t.mask h (n+1)=t.advance (wy t.mask h n):=lm _ _ _
theorem rV (mask i:Nat):i<=h7 mask i/\h7 mask i<=i+9:=by unfold h7;split<;>omega
theorem vO (mask i:Nat)(h:i<=mask):h7 mask i<=mask:=by unfold h7;split<;>omega
theorem kr (mask i p:Nat):∀ r,r<=h7 mask i-i->iM mask r (MM mask i p)={ MM mask i p with j:=i+r,more:=h7 mask i-i-r }
 | 0,_=>rfl
 |r+1,h=>by
  rw[lm,kr mask i p r #[0]];unfold Qk MM;rw[dw (by show h7 mask i-i-r > 0;omega)];rfl
theorem lu (mask i p:Nat):iM mask (h7 mask i-i+1) (MM mask i p)=MM mask (lx mask i p).1 (lx mask i p).2:=by rw[lm,kr mask i p _ (eG _)];unfold Qk MM;rw[ee #[3]]
theorem nR (mask:Nat):∀ (n i p:Nat),∃ m,m<=10*n/\iM mask m (MM mask i p)=MM mask (dM mask n i p).1 (dM mask n i p).2
 | 0,i,p=>⟨0,#[2],rfl⟩
 |n+1,i,p=>by
  obtain⟨m,b,a⟩:=nR mask n (lx mask i p).1 (lx mask i p).2;refine⟨h7 mask i-i+1+m,by have:=rV mask i;omega,?_⟩;rw[kt,lu,a];rfl
theorem C6 {mask k:Nat}(a:mask+1=2 ^ k)(h:Int){j:Nat}(b:j<=mask):∃ n,n<10*(mask+14)/\(wy mask h n).j=j:=by obtain⟨n,d,e⟩:=qJ a (i:=i3 h % (mask+1)) (p:=i3 h) (j:=j) (Om (U1 _ (VC _))) (xQ h) b;obtain⟨m,f,c⟩:=nR mask n (i3 h % (mask+1)) (i3 h);refine⟨m,#[2],?_⟩;unfold wy;rw[c];exact e
theorem w8 (mask:Nat):∀ (n:Nat) (p:ot),p.j+p.more<=mask->(iM mask n p).j+(iM mask n p).more<=mask
 | 0,p,h=>h
 |n+1,p,h=>by
  refine w8 mask n _ ?_;unfold Qk;split
  ·show p.j+1+(p.more-1)<=mask;omega
  have a:(lx mask p.i p.perturb).1<=mask:=Om (U1 _ (VC _));have c:=vO mask _ a;have b:=rV mask (lx mask p.i p.perturb).1;show (lx mask p.i p.perturb).1+(h7 mask (lx mask p.i p.perturb).1-(lx mask p.i p.perturb).1)<=mask;omega
theorem CL (mask:Nat)(h:Int)(n:Nat):(wy mask h n).j<=mask:=by have a:i3 h % (mask+1)<=mask:=Om (U1 _ (VC _));have c:=vO mask _ a;have b:=rV mask (i3 h % (mask+1));have:=w8 mask n (MM mask (i3 h % (mask+1)) (i3 h)) (by show _+(_ - _)<=_;unfold MM;simp only;omega);exact fk (VD _ _) this
theorem nS (mask:Nat):∀ (n:Nat) (p:ot),(iM mask n p).dummy=p.dummy
 | 0,p=>rfl
 |n+1,p=>by
  rw[iM,nS mask n];unfold Qk;split<;>rfl
theorem zg (mask:Nat)(h:Int)(n:Nat):(wy mask h n).dummy=av:=nS _ _ _
theorem fA {t:lb}(hr:JL t.place){i j:Nat}(h:t.place[i]?=aa j):t.slot j = .live i:=by
 obtain⟨a,e⟩:=m4.mp h
 have hb:f3 t.place j=i:=pA hr (qs a) (λn b q=>by have:=hr.lt q a;omega) λn b q=>by
  rcases Mi i n with z |z
  ·have:=hr.lt z b;omega
  have:n=i:=#[2]
  subst this;omega
 unfold Yq;simp[hb,h]
theorem nU {t:lb}(hd:t.dummies = #[]){j:Nat}(h:∀ i:Nat,t.place[i]?≠aa j):t.slot j = .empty:=by
 unfold Yq;have e:(t.place[f3 t.place j]?==aa j)=bo:=by rw[kv];exact h _
 simp[e,hd,aao]
def MN (t:lb)(j:Nat):Prop:=∃ i:Nat,t.place[i]?=aa j
structure Tb (hs:ae Int) (t:lb):Prop where
 pow:∃ k,t.mask+1=2 ^ (k+1)
 Ql:t.dummies = #[]
 OZ:t.place.size=hs.length
 N9:JL t.place
 le:∀ (i j:Nat),t.place[i]?=aa j->j<=t.mask
 way:∀ (i:Nat) (h:Int) (j:Nat),hs[i]?=aa h->t.place[i]?=aa j->∃ n,(wy t.mask h n).j=j/\∀ m,m<n->MN t (wy t.mask h m).j
theorem Tb.T4 {a:ae Int}{t:lb}(T:Tb a t):t.gaveWay=bo:=by
 obtain⟨k,e⟩:=T.pow;unfold SetTable.gaveWay;rw[NH] at e;have:t.mask % 2=1:=#[2]
 rw[this];rfl
theorem zR:∀ (n:Nat) (l:ae Nat),l.Nodup->l.length<n->∃ j,j<n/\j∉l
 | 0,l,_,h=>hK h (Zy _)
 |n+1,l,hn,h=>by
  by_cases q:n∈l
  ·have a:(l.erase n).length<n:=by have:=Qo q;rw[U7 q];omega
   obtain⟨j,b,e⟩:=zR n (l.erase n) (hn.erase n) a;refine⟨j,#[2],λz=>e ?_⟩;rw[List.Nodup.mem_erase_iff hn];exact⟨#[2],z⟩
  exact⟨n,#[2],q⟩
theorem Tb.room {a:ae Int}{t:lb}(T:Tb a t)(c:a.length<=t.mask):∃ j,j<=t.mask/\¬ MN t j:=by obtain⟨j,d,b⟩:=zR (t.mask+1) t.place.toList (T.N9.imp λh=>md h) (by rw[hH,T.OZ];omega);refine⟨j,#[2],λ⟨i,e⟩=>b ?_⟩;rw[← ih] at e;exact mx e
theorem least {P:Nat->Prop}(n:Nat)(h:P n):∃ m,m<=n/\P m/\∀ k,k<m->¬ P k:=by
 induction n using WY with
 |ind n f =>
  by_cases q:∃ k,k<n/\P k
  ·obtain⟨k,d,e⟩:=q;obtain⟨m,a,b,c⟩:=f k d e;exact⟨m,#[2],b,c⟩
  exact⟨n,eG _,h,λk d e=>q ⟨k,d,e⟩⟩
theorem Tb.free {a:ae Int}{t:lb}(T:Tb a t)(i:a.length<=t.mask)(h:Int):∃ N,N<10*(t.mask+14)/\¬ MN t (wy t.mask h N).j/\∀ m,m<N->MN t (wy t.mask h m).j:=by obtain⟨j,d,l⟩:=T.room i;obtain⟨k,e⟩:=T.pow;obtain⟨n,p,c⟩:=C6 e h d;obtain⟨N,o,g,f⟩:=least (P:=λn => ¬ MN t (wy t.mask h n).j) n (by rw[c];exact l);exact⟨N,#[2],g,λm b=>Classical.byContradiction (f m b)⟩
theorem qz {f:ae Int}{t:lb}(T:Tb f t){ha:Nat->Int}(p:∀ (i:Nat) (x:Int),f[i]?=aa x->ha i=x){h:Int}{N:Nat}(r:¬ MN t (wy t.mask h N).j)(u:∀ m,m<N->MN t (wy t.mask h m).j) :
  ∀ (fuel n:Nat),n<=N->N<n+fuel->(∃ m i,n<=m/\m<N/\t.place[i]?=aa (wy t.mask h m).j/\f[i]?=aa h/\(∀ d,n<=d->d<m->∀ i:Nat,t.place[i]?=aa (wy t.mask h d).j->f[i]?≠aa h)/\zq t ha h fuel (wy t.mask h n)=aa (.candidate (wy t.mask h m).j i (wy t.mask h (m+1)))) ∨
   ((∀ m,n<=m->m<N->∀ i:Nat,t.place[i]?=aa (wy t.mask h m).j->f[i]?≠aa h)/\zq t ha h fuel (wy t.mask h n)=aa (.empty (wy t.mask h N).j av))
 | 0,n,w,s=>hK s #[0]
 |fuel+1,n,w,s=>by
  unfold zq;rcases Mi n N with q |q
  ·obtain⟨i,e⟩:=u n q;rw[fA T.N9 e];dsimp only;have A:i<f.length:=by rw[← T.OZ];exact(m4.mp e).1
   have o:=a4 A;rw[p i _ o];by_cases c:f[i]=h
   ·rw[c,dw (QS h)];refine .inl ⟨n,i,eG _,q,e,by rw[o,c],λd a b=>hK a #[0],?_⟩;rw[wY]
   rw[ee (by simpa using c),← wY];have g:∀ k:Nat,t.place[k]?=aa (wy t.mask h n).j->f[k]?≠aa h:=λk C z=>by have z1:=fA T.N9 e;rw[fA T.N9 C] at z1;cases z1;rw[o] at z;exact c (kx z)
   rcases qz T p r u fuel (n+1) q (by omega) with ⟨m,k,a1,a2,D,E,y,v⟩ |⟨a1,a2⟩
   ·refine .inl ⟨m,k,#[2],a2,D,E,λd B l=>?_,v⟩;rcases Mi n d with z |z
    ·exact y d z l
    have:d=n:=#[2]
    subst this;exact g
   refine .inr ⟨λd B l=>?_,a2⟩;rcases Mi n d with z |z
   ·exact a1 d z l
   have:d=n:=#[2]
   subst this;exact g
  have:n=N:=#[2]
  subst this;rw[nU T.Ql λi e=>r ⟨i,e⟩];dsimp only;rw[zg];exact .inr ⟨λm a b=>hK a #[0],rfl⟩
theorem CY {α:Type}(l:ae α)(p:Nat)(x : α)(d:p<=l.length)(i:Nat):(l.take p++x::l.drop p)[i]?=if i<p then l[i]? else if i=p then aa x else l[i-1]?:=by
 have c:(l.take p).length=p:=by rw[Jj];omega
 by_cases a:i<p
 ·rw[dw a,gh #[0],UA a]
 rw[ee a,f5 #[0],c];by_cases b:i=p
 ·rw[dw b,b,Nat.sub_self];rfl
 rw[ee b];obtain⟨q,e⟩:∃ q,i=p+q+1:=⟨i-p-1,#[2]⟩;subst e;rw[show p+q+1-p=q+1 by omega,N1,Tj];rfl
theorem cW {α:Type}(xs:h8 α)(p:Nat)(x : α):(ra xs p x).toList=xs.toList.take p++x::xs.toList.drop p:=by unfold ra;simp only[Yl,XF,XH,TK,drop_zero,sub_zero];rw[OC (l:=xs.toList.drop p) #[3],gv];rfl
theorem Tb.put {d:ae Int}{t:lb}(T:Tb d t){h:Int}{N:Nat}(v:¬ MN t (wy t.mask h N).j)(C:∀ m,m<N->MN t (wy t.mask h m).j) :
  Tb (d.take (t.put (wy t.mask h N).j).2++h::d.drop (t.put (wy t.mask h N).j).2) (t.put (wy t.mask h N).j).1:=by
 have g:=CL t.mask h N;generalize y:(wy t.mask h N).j=j at v g ⊢;have A:∀ i,t.slot j≠.live i:=λi e=>by rw[nU T.Ql λi e=>v ⟨i,e⟩] at e;cases e
 have l:f3 t.place j<=t.place.size:=(ke T.N9 j).1;have B:(t.put j).2=f3 t.place j:=rfl;have o:(t.put j).1.place=ra t.place (f3 t.place j) j:=rfl;have u:(t.put j).1.mask=t.mask:=rfl;rw[B];generalize f3 t.place j=p at l o;have k:∀ i:Nat,(t.put j).1.place[i]?=if i<p then t.place[i]? else if i=p then aa j else t.place[i-1]?:=λi=>by rw[o,← ih,cW,CY _ _ _ (by simpa using l)];simp only[ih]
 have z:∀ i:Nat,(d.take p++h::d.drop p)[i]?=if i<p then d[i]? else if i=p then aa h else d[i-1]?:=λi=>CY _ _ _ (by rw[← T.OZ];exact l) i
 have tk:∀ x,MN t x->MN (t.put j).1 x:=λx w=>by
  obtain⟨i,e⟩:=w
  by_cases q:i<p
  ·exact⟨i,by rw[k,dw q];exact e⟩
  exact⟨i+1,by rw[k,ee #[0],ee #[0]];exact e⟩
 refine⟨T.pow,?_,?_,T.N9.put A,?_,?_⟩
 ·show (if aao t.dummies j then _ else t.dummies) = #[];rw[T.Ql];rfl
 ·have:=E3 T_ (cW t.place p j);rw[← o] at this;simp only[hH,cq,Jj,hD,NM] at this ⊢;rw[this,T.OZ]
 ·intro i x e;rw[k] at e;rw[u];rw[0]
  ·exact T.le i x e
  rw[0]
  ·cases e;exact g
  exact T.le _ x e
 intro i s x c ex;rw[k] at ex;rw[z] at c;rw[u];split at ex
 ·rename_i q;rw[dw q] at c;obtain⟨n,a,b⟩:=T.way i s x c ex;exact⟨n,a,λm f=>tk _ (b m f)⟩
 rename_i q;rw[ee q] at c;split at ex
 ·rename_i r;rw[dw r] at c;cases ex;cases c;exact⟨N,y,λm f=>tk _ (C m f)⟩
 rename_i r;rw[ee r] at c;obtain⟨n,a,b⟩:=T.way _ s x c ex;exact⟨n,a,λm f=>tk _ (b m f)⟩
theorem uH {owner:h8 (ax Nat)}{mask:Nat}(hz:owner.size=mask+1):∀ (fuel i p:Nat),i<=mask->∀ {j:Nat},mm mask owner fuel i p=aa j ->
  owner[j]?=aa av/\∃ m,(iM mask m (MM mask i p)).j=j/\∀ d,d<m->∃ k,owner[(iM mask d (MM mask i p)).j]?=aa (aa k)
 | 0,i,p,s,j,e=>by unfold mm at e;cases e
 |fuel+1,i,p,s,j,e=>by
  have hr:=rV mask i;have y:=vO mask i s
  have t:∀ r,r<=h7 mask i-i->(owner.getD (i+r) (aa 0)).isNone=bo->∃ k,owner[(iM mask r (MM mask i p)).j]?=aa (aa k):=λr w n=>by
   rw[kr mask i p r w];show ∃ k,owner[i+r]?=aa (aa k);have f:i+r<owner.size:=#[2]
   rw[hY f];rw[rk,hY f,QU] at n;cases q:owner[i+r] with
   |none=>rw[q] at n;cases n
   |some k=>exact⟨k,rfl⟩
  unfold mm at e;rw[0]
  ·rename_i r g;cases e;rw[List.find?_range_eq_some] at g;obtain⟨l,u,x⟩:=g;have u:=nC.mp u;refine⟨?_,r,?_,λd o=>t d #[0] ?_⟩
   ·have f:i+r<owner.size:=#[2]
    rw[rk,hY f,QU] at l;rw[hY f];cases q:owner[i+r] with
    |none=>rfl
    |some k=>rw[q] at l;cases l
   ·rw[kr mask i p r #[0]]
   have:=x d o;simpa using this
  rename_i g;have v:∀ r,r<=h7 mask i-i->(owner.getD (i+r) (aa 0)).isNone=bo:=λr h=>by have:=U3.mp g r (nC.mpr #[0]);exact Y2.mpr this
  obtain⟨a,m,b,c⟩:=uH hz fuel (lx mask i p).1 (lx mask i p).2 (Om (U1 _ (VC _))) e;refine⟨a,h7 mask i-i+1+m,?_,λd o=>?_⟩
  ·rw[kt,lu];exact b
  rcases Mi d (h7 mask i-i+1) with q |q
  ·exact t d #[0] (v d #[0])
  obtain⟨m2,rfl⟩:∃ m2,d=h7 mask i-i+1+m2:=⟨d-(h7 mask i-i+1),#[2]⟩;rw[kt,lu];exact c m2 #[0]
def Lay (mask:Nat)(all:ae Int)(owner:h8 (ax Nat)):Prop:=∀ (j k:Nat),owner[j]?=aa (aa k)->∃ h,all[k]?=aa h/\∃ m,(wy mask h m).j=j/\∀ a,a<m->∃ b,owner[(wy mask h a).j]?=aa (aa b)
theorem xp {mask:Nat}(all:ae Int):∀ (g pre:ae Int),all=pre++g->∀ (owner f:h8 (ax Nat)) (n:Nat),owner.size=mask+1->Lay mask all owner ->
  g.foldl (init:=aa (owner,pre.length)) (λd h=>do
   let (owner,k) ← d;let j ← mm mask owner (y2 mask) (i3 h % (mask+1)) (i3 h)
   u1 (owner.setIfInBounds j (aa k),k+1))=aa (f,n)->Lay mask all f
 |[],pre,_,owner,f,n,_,h,e=>by cases e;exact h
 |h::g,pre,ea,owner,f,n,hz,L,e=>by
  rw[wi] at e;simp only[P8,p0,XM] at e;cases ef:mm mask owner (y2 mask) (i3 h % (mask+1)) (i3 h) with
  |none =>
   rw[ef] at e;exfalso
   have:∀ l:ae Int,l.foldl (init:=(av:ax (h8 (ax Nat)×Nat))) (λd h=>d.bind λx=>(mm mask x.1 (y2 mask) (i3 h % (mask+1)) (i3 h)).bind λj=>aa (x.1.setIfInBounds j (aa x.2),x.2+1))=av:=λl=>by
    induction l with
    |nil=>rfl
    |cons a l s=>rw[wi];exact s
   have:=this g;simp only[Option.bind_none] at e;rw[this] at e;cases e
  |some j =>
   rw[ef,p0] at e;obtain⟨a,m,b,c⟩:=uH hz _ _ _ (Om (U1 _ (VC _))) ef;have r:j<owner.size:=(m4.mp a).1
   have keep:∀ x k,owner[x]?=aa (aa k)->∃ o,(owner.setIfInBounds j (aa pre.length))[x]?=aa (aa o):=λx k q=>by
    by_cases z:j=x
    ·subst z;exact⟨pre.length,by rw[OG r]⟩
    exact⟨k,by rw[Qt z];exact q⟩
   refine xp all g (pre++[h]) (by rw[ea];simp) (owner.setIfInBounds j (aa pre.length)) f n (by rw[U4,hz]) ?_ (by rw[cq];exact e);intro x k q;by_cases z:j=x
   ·subst z;rw[OG r] at q;cases q;refine⟨h,by rw[ea];simp,m,b,λp i=>?_⟩;obtain⟨o,q⟩:=c p i;exact keep _ _ q
   rw[Qt z] at q;obtain⟨t,u,m2,w,v⟩:=L x k q;refine⟨t,u,m2,w,λp i=>?_⟩;obtain⟨o,q⟩:=v p i;exact keep _ _ q
theorem ou {es:h8 (Int×ay)}{order:ae Nat}(d:order.Perm (ei es.size)):(order.filterMap λi=>es[i]?).length=order.length/\∀ i:Nat,(order.filterMap λi=>es[i]?)[i]?=(order[i]?).bind λj=>es[j]?:=by
 have c:∀ j∈order,j<es.size:=λj a=>nC.mp (d.mem_iff.mp a);clear d
 induction order with
 |nil=>exact⟨rfl,λi=>by simp⟩
 |cons j r e =>
  have a:=c j (e7 ..);obtain⟨h,g⟩:=e λk f=>c k (d7 _ f);rw[Nk (b:=es[j]) (by simp[a])];refine⟨by simp[h],λi=>?_⟩;cases i with
  |zero=>simp[a]
  |succ i=>simpa using g i
theorem B9 {mask k:Nat}(l:mask+1=2 ^ (k+1))(finger moves:Nat)(led plain:e8)(es:h8 (Int×ay))(B:es.size<=mask+1) :
  ∃ t order,O7 mask finger moves led plain (es.map (·.1))=aa (t,order)/\order.toList.Perm (ei es.size)/\t.mask=mask/\t.led=led/\t.plain=plain/\Tb ((order.filterMap (es[·]?)).toList.map (·.1)) t:=by
 have d:(es.map (·.1)).size=es.size:=size_map ..;obtain⟨t,order,c,f,g,q,K,Q,F,S⟩:=B_ l finger moves led plain (es.map (·.1)) (by rw[d];exact B);rw[d] at f q;have J:t.place.size=((order.filterMap (es[·]?)).toList.map (·.1)).length:=by obtain⟨G,_⟩:=ou f;rw[dV,Qr,G,f.length_eq,lr,q]
 have L:=c;unfold O7 at c;cases hc:Mm mask (es.map (·.1)) with
 |none=>rw[hc] at c;cases c
 |some o =>
  have y:=hc;simp only[hc,P8,p0,XM,Ox,UW] at c;obtain⟨A,P⟩:=c;unfold Mm at y;obtain⟨⟨a,n⟩,b,rfl⟩:=dv.mp y;rw[← YO] at b;have I:Lay mask (es.map (·.1)).toList a:=xp (es.map (·.1)).toList (es.map (·.1)).toList [] rfl (WX (mask+1) av) a n #[3] (λj k e=>by simp[Array.getElem?_replicate] at e) b;have UY:a.size=mask+1:=by obtain⟨o2,a1,a2,_⟩:=wl l (es.map (·.1)).toList (WX (mask+1) av) 0 #[3] (by simp[Qh]) (by simpa using B);rw[b] at a1;cases a1;exact a2
  have live:∀ i j:Nat,t.place[i]?=aa j->∃ k,order[i]?=aa k/\a[j]?=aa (aa k)/\j<=mask:=λi j e=>by
   rw[← A] at e;rw[← P];simp only[getElem?_toArray,eh,dv] at e ⊢;obtain⟨⟨r,v⟩,u,rfl⟩:=e;refine⟨v,⟨_,u,rfl⟩,?_⟩;have:=mx u;obtain⟨W,m1,m2⟩:=Uz.mp this;have m1:=nC.mp m1;obtain⟨Z,p,C⟩:=dv.mp m2;cases C;have w:r<a.size:=#[2]
   rw[rk,hY w,QU] at p;rw[hY w,p];exact⟨rfl,by show r<=mask;omega⟩
  have R:∀ j k:Nat,a[j]?=aa (aa k)->MN t j:=λj k e=>by
   have X:j<a.size:=(m4.mp e).1;have:(j,k)∈(ei (mask+1)).filterMap λj=>(a.getD j av).map (j,·):=by refine Uz.mpr ⟨j,nC.mpr #[0],?_⟩;rw[rk,e];rfl
   obtain⟨i,N⟩:=la this;refine⟨i,?_⟩;rw[← A];simp only[getElem?_toArray,eh];rw[N];rfl
  refine⟨t,order,L,f,g,Q,F,⟨k,by rw[g,l]⟩,K,J,S,λi j e=>by rw[g];exact(live i j e).choose_spec.2.2,λi h j x M=>?_⟩;obtain⟨k,H,T,l3⟩:=live i j M;obtain⟨Y,s,m,U,O⟩:=I j k T;obtain⟨_,E⟩:=ou f;rw[eh,Qr,E i,ih,H,p0] at x;rw[ih,Array.getElem?_map,x] at s;cases s;rw[g];exact⟨m,U,λV D=>let ⟨v,z⟩:=O V D;R _ _ z⟩
section
variable {prog:ew}{w:hB}{A:hG}{E:Hq}{s:cc}
theorem vS {h h':j0}(u:∀ (b:b0) (o:VJ) (vs:h8 ay) (m:Nat),h.get? b=aa o->o.data = .seq vs m->h'.get? b=aa o):∀ {n:Nat}{p:e9}{v:ay}{c:ae b0},keyOk n p=a6->U9 h v p c->U9 h' v p c:=by
 intro n
 induction n with
 |zero =>
  intro p v c d r;cases r with
  |int i t=>exact .int i t
  |str x t=>exact .str x t
  |_=>simp[keyOk] at d
 |succ n q =>
  intro p v c d r;cases r with
  |int i t=>exact .int i t
  |str x t=>exact .str x t
  | @tuple a B vs m g c j k f e =>
   refine .tuple (u a B vs m j f) k f ?_;have it:=bJ d;clear d j k f;generalize vs.toList=l at e
   induction g generalizing l c with
   |nil=>cases e;exact .nil
   |cons x g w =>
    cases e with
    |cons s A=>exact .cons (q (it x #[3]) s) (w (λy z=>it y (by simp[z])) _ A)
  |_=>simp[keyOk] at d
theorem mO:∀ {n:Nat}{p:e9}{s:cc}{v:ay}{b:ae b0}{Q:e8->cc->Prop},keyOk n p=a6->U9 s.heap v p b->Q bo s->d6 #[8] A (Mu n v) Q E s:=by
 intro n
 induction n with
 |zero =>
  intro p s v b Q c r h;cases r with
  |int i t=>unfold Mu;exact a5 h
  |str x t=>unfold Mu;exact a5 h
  |_=>simp[keyOk] at c
 |succ n g =>
  intro p s v b Q c r h;cases r with
  |int i t=>unfold Mu;exact a5 h
  |str x t=>unfold Mu;exact a5 h
  | @tuple a o items m j b e hc hd z =>
   have B:s.TypeIs (.ref a) "tuple":=⟨o,e,hc⟩;have it:=bJ c;unfold Mu;refine ak (RK B ?_);dsimp only;rw[dw (by rfl)];refine ak (a5 ?_);simp only[MH,h5,mz];refine ak (PF e hd ?_);dsimp only;refine ak ?_;rw[← VL];refine Nz _ (λrest r d=>r.1=av/\d=s/\∃ left bs,Rf s.heap rest left bs/\∀ x∈left,keyOk n x=a6) _ ?_ ?_ _ _ ⟨rfl,rfl,j,b,z,it⟩
   ·rintro v rest r d ⟨hr,rfl,left,bs,D,f⟩;cases D with
    | @cons _ _ k F H l q u =>
     refine ak (g (f k #[3]) q ?_);simp only[h5,mz];exact a5 ⟨rfl,rfl,F,l,u,λy C=>f y (by simp[C])⟩
   rintro⟨G,I⟩ d ⟨hr,rfl,_⟩;simp only at hr;subst hr;exact a5 h
  |_=>simp[keyOk] at c
theorem u8:∀ {n:Nat}{p:e9}{s:cc}{v:ay}{c:ae b0}{Q:e8->cc->Prop},keyOk n p=a6->U9 s.heap v p c->(∀ b,Q b s)->d6 #[8] A (Rm n v) Q E s:=by
 intro n
 induction n with
 |zero =>
  intro p s v c Q d r h;cases r with
  |int i t=>unfold Rm;exact a5 (h _)
  |str x t=>unfold Rm;exact a5 (h _)
  |_=>simp[keyOk] at d
 |succ n j =>
  intro p s v c Q d r h;cases r with
  |int i t=>unfold Rm;exact a5 (h _)
  |str x t=>unfold Rm;exact a5 (h _)
  | @tuple a o items m q c f hc hd C =>
   have D:s.TypeIs (.ref a) "tuple":=⟨o,f,hc⟩;have it:=bJ d;unfold Rm;refine ak (O8 D F.slot_tuple_hash.lookup ?_);dsimp only;refine ak (PF f hd ?_);refine ak ?_;show d6 _ _ (ZH items _ _) _ _ s;rw[← VL];refine Nz _ (λrest r e=>e=s/\∃ left bs,Rf s.heap rest left bs/\∀ x∈left,keyOk n x=a6) _ ?_ ?_ _ _ ⟨rfl,q,c,C,it⟩
   ·rintro v rest r e ⟨rfl,left,bs,H,g⟩;cases H with
    | @cons _ _ k I J u z B =>
     refine ak (j (g k #[3]) z λb=>?_);cases b with
     |true =>
      simp only[MH,h5,mz];exact a5 ⟨rfl,I,u,B,λy G=>g y (by simp[G])⟩
     |false =>
      simp only[XS,ox];exact a5 (a5 (h _))
   rintro⟨l,K⟩ e ⟨rfl,_⟩;cases l with
   |none=>exact a5 (h _)
   |some b=>exact a5 (h _)
  |_=>simp[keyOk] at d
abbrev wT (prog:ew)(w:hB)(h:j0):e9->Int×ay->Prop:=λk e=>e.1=IY w 8 k/\∃ b,e.2 = .ref b/\(ba prog w).is h k b
abbrev EC (w:hB)(R:e9->b0->Prop):e9->Int×ay->Prop:=λk e=>e.1=IY w 8 k/\∃ b,e.2 = .ref b/\R k b
def JE (w:hB)(led:e8)(R:e9->b0->Prop)(h:j0)(a:b0)(b:ae e9):Prop:=
 ∃ o es ep t,h.get? a=aa o/\o.ExactSet/\o.data = .set es ep t/\(∃ l:ae (Int×ay),l.Perm es.toList/\i4 (EC w R) b l)/\Tb (es.toList.map (·.1)) t/\es.size*5<t.mask*3/\t.mask<=8*es.size+7/\t.led=led
theorem vK {k:e9}{b:b0}(j:(ba prog w).is s.heap k b):∀ {l:ae ay}{Q:e8->cc->Prop},(∀ y∈l,∃ c a,y = .ref a/\(ba prog w).is s.heap c a)->Q bo s->d6 #[8] A (searchCouldBeSeen (.ref b) l) Q E s:=by
 intro l Q e h;unfold searchCouldBeSeen;refine ak ?_;refine Nz _ (λrest r d=>r.1=av/\d=s/\∀ y∈rest,∃ c a,y = .ref a/\(ba prog w).is s.heap c a) _ ?_ ?_ _ _ ⟨rfl,rfl,e⟩
 ·rintro y rest r d ⟨hr,rfl,e⟩;obtain⟨c,a,rfl,f⟩:=e y (e7 ..);have i:∀ y∈rest,∃ c a,y = .ref a/\(ba prog w).is d.heap c a:=λy n=>e y (d7 _ n);dsimp only;split
  ·exact a5 ⟨rfl,rfl,i⟩
  refine ak ((ba prog w).quiet j ?_);simp only[MH,h5,mz];refine ak ((ba prog w).quiet f ?_);simp only[MH,h5,mz];obtain⟨o1,p,g⟩:=j;obtain⟨o2,o,m⟩:=f;refine ak (mO o1 g ?_);simp only[h5,mz];refine ak (mO o2 m ?_);simp only[h5,mz];exact a5 ⟨rfl,rfl,i⟩
 rintro⟨g,m⟩ d ⟨hr,rfl,_⟩;simp only at hr;subst hr;exact a5 h
theorem Cc {α:Type}{M:Model}{c:Prop}[Decidable c]{a k:ZI α}{Q : α->cc->Prop}(ha:c->d6 M A k Q E s->d6 M A a Q E s)(b:d6 M A k Q E s):d6 M A (if c then a else k) Q E s:=by
 split
 ·rename_i h;exact ha h b
 exact b
theorem nY {a:b0}{o:VJ}{es:h8 (Int×ay)}{ep:Nat}{t:lb}{B:ae e9}{k:e9}{b:b0}(Z:A.units+8<n0)
  (J:s.heap.get? a=aa o) (hd:o.data = .set es ep t) (L:t.fits es.size=a6) (T:Tb (es.toList.map (·.1)) t) (C:∀ (i:Nat) e,es[i]?=aa e->∃ k∈B,wT prog w s.heap k e) (P:∀ k∈B,∃ (i:Nat) (e:_),es[i]?=aa e/\wT prog w s.heap k e)
  (H:(ba prog w).is s.heap k b) {N:Nat}(v:¬ MN t (wy t.mask (IY w 8 k) N).j) (O:∀ m,m<N->MN t (wy t.mask (IY w 8 k) m).j) (W3:N<10*(t.mask+15)) {Q:SetFound->cc->Prop}
  (X:k∈B->Q (.there av) s) (S:k∉B->Q (.free (wy t.mask (IY w 8 k) N).j bo) s):∀ (fuel n:Nat) (st:ax ot),n<=N->N<n+fuel->st.getD (t.probeStart (IY w 8 k))=wy t.mask (IY w 8 k) n ->
   (∀ m,m<n->∀ (i:Nat) e,t.place[i]?=aa (wy t.mask (IY w 8 k) m).j->es[i]?=aa e->¬ wT prog w s.heap k e) ->
   d6 #[8] A (setSearchFrom a (.ref b) (IY w 8 k) a6 fuel st) Q E s
 | 0,n,st,a1,a2,_,_=>hK a2 #[0]
 |fuel+1,n,st,a1,a2,est,Qa=>by
  unfold setSearchFrom;refine ak (pw J hd L ?_);dsimp only;rw[T.T4];simp only[h5,mz];rw[est];have R_:∀ (i:Nat) (x:Int),(es.toList.map (·.1))[i]?=aa x->(es[i]?.map (·.1)).getD 0=x:=λi x e=>by rw[eh,ih] at e;rw[e];rfl
  have r:∀ {p:e9}{e:Int×ay},wT prog w s.heap k e->wT prog w s.heap p e->k=p:=λ{p e} m1 m2=>by obtain⟨_,G,h,i1⟩:=m1;obtain⟨_,f,l,K⟩:=m2;rw[h] at l;cases l;exact(ba prog w).inj i1 K
  have hp:=qz T (ha:=λi=>(es[i]?.map (·.1)).getD 0) R_ v O (10*y2 t.mask) n a1 (by unfold y2;omega);have T5:Z7 t (λi=>(es[i]?.map (·.1)).getD 0) (IY w 8 k) (wy t.mask (IY w 8 k) n)=zq t (λi=>(es[i]?.map (·.1)).getD 0) (IY w 8 k) (10*y2 t.mask) (wy t.mask (IY w 8 k) n):=rfl;show d6 _ _ (match Z7 t (λi=>(es[i]?.map (·.1)).getD 0) (IY w 8 k) (wy t.mask (IY w 8 k) n) with |aa met=>_ |_=>_) _ _ _;rw[T5];rcases hp with ⟨m,i,G,f,V,M,b5,b6⟩ |⟨G,f⟩
  ·rw[b6];dsimp only;rw[eh,ih] at M;obtain⟨⟨hh,y⟩,h,l⟩:=dv.mp M;obtain⟨p,T6,m1,b',m2,W⟩:=C i _ h;simp only at m1 m2 l;subst m2;refine Cc (λ_ go=>?_) ?_
   ·refine ak (vK H (λy hy=>?_) ?_)
    ·obtain⟨e,D,rfl⟩:=vl.mp hy;have D:=Xf.mp D;obtain⟨j,hj⟩:=Array.getElem?_of_mem (Array.mem_filter.mp D).1;obtain⟨k2,_,_,f,l,K⟩:=C j e hj;exact⟨k2,f,l,K⟩
    simp only[h5,mz];exact go
   rw[h];dsimp only;refine ak (rp ((ba prog w).eqBool Z W H ?_));refine ak (pw J hd L ?_);dsimp only;by_cases q:p=k
   ·subst q;simp only[decide_true,Bool.and_self,ox];exact a5 (X T6)
   rw[cX q];simp only[XN,h5,mz];have sm:t.sameMemory t.moves t.mask=aa a6:=by unfold SetTable.sameMemory;simp
   rw[sm];dsimp only;rw[dw rfl,fA T.N9 V];dsimp only;rw[h];dsimp only;refine ak (wpAny_isSame_ref_self ?_);rw[dw rfl];refine ak (a5 ?_);dsimp only;refine nY Z J hd L T C P H v O W3 X S fuel (m+1) _ f #[0] rfl λu Ya R e' d c I=>?_;rcases Mi u n with z |z
   ·exact Qa u z R e' d c I
   rcases Mi u m with z2 |z2
   ·refine b5 u z z2 R d ?_;rw[eh,ih,c];exact E3 aa I.1
   have:u=m:=#[2]
   subst this;have z1:=fA T.N9 V;rw[fA T.N9 d] at z1;cases z1;rw[h] at c;cases c;exact q (r I ⟨m1,b',rfl,W⟩).symm
  rw[f];dsimp only;refine a5 (S λLZ=>?_);obtain⟨i,e,d,c⟩:=P k LZ;have F:i<t.place.size:=by rw[T.OZ,dV,hH];exact(m4.mp d).1
  have U:(es.toList.map (·.1))[i]?=aa (IY w 8 k):=by rw[eh,ih,d];exact E3 aa c.1
  obtain⟨g,Y,w2⟩:=T.way i (IY w 8 k) _ U (hY F)
  have So:g<N:=by
   rcases Q9 g N with z |z |z
   ·exact z
   ·subst z;exact hK ⟨i,by rw[Y];exact hY F⟩ v
   exact hK (w2 N z) v
  have pl:t.place[i]?=aa (wy t.mask (IY w 8 k) g).j:=by rw[Y];exact hY F
  rcases Mi g n with z |z
  ·exact Qa g z i e pl d c
  exact G g z So i pl U
end
theorem zp {n:Nat}(h:n<2 ^ 60):∃ m,S4 n=2 ^ (m+1)/\n<2 ^ (m+1)/\(2 ^ (m+1)<=2*n∨2 ^ (m+1)=8):=by
 have step:∀ (a k:Nat),∃ m,W9 n a (2 ^ k)=2 ^ m/\(m<k+a->n<2 ^ m)/\(2 ^ m<=2*n∨m=k)/\k<=m:=by
  intro a
  induction a with
  |zero=>intro k;exact⟨k,rfl,λh=>hK h #[0],.inr rfl,eG _⟩
  |succ a d =>
   intro k;unfold W9;split
   ·rename_i f;obtain⟨m,b,c,h3,e⟩:=d (k+1);refine⟨m,by rw[← b,NH],λh=>c #[0],?_,#[2]⟩;rcases h3 with h3 |rfl
    ·exact .inl h3
    exact .inl (by rw[NH];omega)
   exact⟨k,rfl,λ_=>#[2],.inr rfl,eG _⟩
 obtain⟨m,b,c,h3,e⟩:=step 64 3;obtain⟨m,rfl⟩:∃ g,m=g+1:=⟨m-1,#[2]⟩;refine⟨m,b,?_,?_⟩
 ·by_cases q:m+1<67
  ·exact c q
  exact hv h (XT #[1] #[0])
 rcases h3 with h3 |h3
 ·exact .inl h3
 rw[h3];exact .inr rfl
theorem Tb.with {a:ae Int}{t:lb}(T:Tb a t)(b:e8):Tb a { t with plain:=b }:=⟨T.pow,T.Ql,T.OZ,T.N9,T.le,T.way⟩
theorem Tb.fits {a:ae Int}{t:lb}(T:Tb a t){n:Nat}(b:a.length=n)(h:n<=t.mask):t.fits n=a6:=by unfold SetTable.fits aaf;rw[T.Ql,T.OZ,b];simpa using h
section
variable {prog:ew}{w:hB}{A:hG}{E:Hq}{s:cc}{led:e8}
theorem JE.stored {R:e9->b0->Prop}{h:j0}{a:b0}{o:VJ}{es:h8 (Int×ay)}{ep:Nat}{t:lb}(e:h.get? a=aa o)(hex:o.ExactSet)(hd:o.data = .set es ep t){b:h8 (Int×ay)}{t':lb}{c:ae e9}
  (j:∃ l:ae (Int×ay),l.Perm b.toList/\i4 (EC w R) c l) (T:Tb (b.toList.map (·.1)) t') (d:b.size*5<t'.mask*3) (i:t'.mask<=8*b.size+7) (f:t'.led=led) :
  JE w led R (h.update a (MW b t')) a c:=by
 have g:(h.update a (MW b t')).get? a=aa { o with data:=.set b (ep+1) t' }:=by have q:=wx (MW b t') e (by rw[Vz b t' hd];rfl);rw[Vz b t' hd] at q;exact q
 exact⟨_,b,ep+1,t',g,hex,rfl,j,T,d,i,f⟩
theorem zv {a:b0}{u:ae e9}{k:e9}{b:b0}{Q:e8->cc->Prop}(hu:A.units+8<n0){R:e9->b0->Prop}(L:∀ k b,R k b->(ba prog w).is s.heap k b)(U:JE w led R s.heap a u)(B:R k b)(Q_:u.length<1000)
  (h:∀ r h',Me a s.heap h'->JE w led R h' a (br u k)->Q r { s with heap:=h' }):d6 #[8] A (Wq a (.ref b) (IY w 8 k)) Q E s:=by
 have T7:=U;obtain⟨o,es,ep,t,x,hex,hd,hl,T,q1,q2,q3⟩:=U;obtain⟨l,pl,z⟩:=id hl;have hn:es.size=u.length:=by have I:=pl.length_eq;have e2:=gq z;simp only[hH] at I;omega
 have d:(es.toList.map (·.1)).length=es.size:=by simp
 have K:t.fits es.size=a6:=T.fits d #[0];have v:∀ (i:Nat) e,es[i]?=aa e->∃ k∈u,wT prog w s.heap k e:=λi e g=>by rw[← ih] at g;obtain⟨k,B,m⟩:=jX z e (pl.mem_iff.mpr (mx g));exact⟨k,B,m.1,m.2.choose,m.2.choose_spec.1,L _ _ m.2.choose_spec.2⟩
 have Sa:∀ k∈u,∃ (i:Nat) (e:_),es[i]?=aa e/\wT prog w s.heap k e:=λk g=>by obtain⟨e,Z,m⟩:=mC z k g;obtain⟨i,Y⟩:=la (pl.mem_iff.mp Z);exact⟨i,e,by rw[← ih];exact Y,m.1,m.2.choose,m.2.choose_spec.1,L _ _ m.2.choose_spec.2⟩
 have W:(ba prog w).is s.heap k b:=L k b B;obtain⟨N,n1,n2,n3⟩:=T.free (by rw[d];omega) (IY w 8 k);have hj:=CL t.mask (IY w 8 k) N;unfold Wq setAddHashedIn;refine rp (ak (pw x hd K ?_));simp only;rw[show byScan (.ref b) es=bo from rfl,ee #[1]];unfold setSearch;refine ak (nY hu x hd K T v Sa W n2 n3 #[0] (λLZ=>?_) (λT8=>?_) 100000 0 av #[0] #[0] rfl λm v=>hK v #[0])
 ·refine a5 ?_;have:=h bo s.heap (Y4 ..) (by unfold br;rw[dw LZ];exact T7);exact this
 dsimp only;refine ak (pw x hd K ?_);dsimp only;have y:=T.put n2 n3;generalize F:t.put (wy t.mask (IY w 8 k) N).j=tp at y ⊢;obtain⟨t1,p⟩:=tp;have H:t1.mask=t.mask:=by rw[show t1=(t.put (wy t.mask (IY w 8 k) N).j).1 by rw[F]];rfl
 have G:t1.led=led:=by rw[show t1=(t.put (wy t.mask (IY w 8 k) N).j).1 by rw[F]];exact q3
 have I:((ra es p (IY w 8 k,h6 b)).toList.map (·.1))=(es.toList.map (·.1)).take p++IY w 8 k::(es.toList.map (·.1)).drop p:=by rw[cW,r4,hA,Z8,XY]
 have f:(ra es p (IY w 8 k,h6 b)).size=es.size+1:=by have:=E3 T_ (cW es p (IY w 8 k,h6 b));simp only[hH,cq,Jj,hD,NM] at this;omega
 have NN:(ra es p (IY w 8 k,h6 b)).toList.Perm (es.toList++[(IY w 8 k,h6 b)]):=by rw[cW];refine(Zj).trans ?_;rw[QF];exact(OM _ _).symm
 have M:∃ l:ae (Int×ay),l.Perm (ra es p (IY w 8 k,h6 b)).toList/\i4 (EC w R) (br u k) l:=by refine⟨l++[(IY w 8 k,h6 b)],(pl.append_right _).trans NN.symm,?_⟩;unfold br;rw[ee T8];exact mB z ⟨rfl,b,rfl,B⟩
 rw[← I] at y;generalize ra es p (IY w 8 k,h6 b)=c at y f M ⊢;clear F
 have fin:∀ t2:lb,Tb (c.toList.map (·.1)) t2->t2.mask=t.mask->t2.led=led ->
   d6 #[8] A (do
    storeSet a c t2
    if !bo&&t2.tooFull then setRelay a (ov (es.size+1))
    return a6) Q E s:=λt2 C Yb X=>by
  have V:(c.toList.map (·.1)).length=c.size:=by simp
  have Rv:t2.fill=es.size+1:=by unfold aaf;rw[C.Ql,C.OZ,V,f];rfl
  have O:c.size<=dk:=by rw[f,Xe];omega
  refine ak (P9 x hd ?_ O);have sb:=H7 s.heap a (MW c t2);cases NQ:t2.tooFull with
  |false =>
   simp only[XS,XN,h5,mz];refine a5 (h a6 _ sb (JE.stored x hex hd M C ?_ #[0] X));unfold SetTable.tooFull at NQ;rw[Rv] at NQ;have:=YN NQ;omega
  |true =>
   simp only[XS,Yt,ox];have J:(s.heap.update a (MW c t2)).get? a=aa { o with data:=.set c (ep+1) t2 }:=by have q:=wx (MW c t2) x (by rw[Vz c t2 hd];rfl);rw[Vz c t2 hd] at q;exact q
   have W4:t2.fits c.size=a6:=C.fits V (by rw[f];omega);unfold setRelay;refine ak (ak (pw J rfl W4 ?_));dsimp only;have eg:ov (es.size+1)=(es.size+1)*4:=by unfold ov;rw[ee #[0]]
   obtain⟨m,z1,z2,z3⟩:=zp (n:=ov (es.size+1)) (by rw[eg];omega);rw[ee (by rw[z1,Xe];omega)];have v : 2 ^ (m+1)-1+1=2 ^ (m+1):=by have:=Zx (m+1);omega
   obtain⟨t3,order,l1,l2,P,l4,l5,l6⟩:=B9 v t2.finger (t2.movedTo (2 ^ (m+1)-1)) t2.led t2.plain c (by rw[v,f];omega);have W5:t2.relaid (c.map (·.1)) (ov (es.size+1))=aa (t3,order):=by unfold WK;rw[z1];exact l1
   rw[W5];have S:(order.filterMap (c[·]?)).toList.Perm c.toList:=by rw[Qr];have:=l2.filterMap (λi=>c[i]?);rw[U2] at this;exact this
   have D:(order.filterMap (c[·]?)).size=c.size:=by have:=S.length_eq;rw[hH,hH] at this;exact this
   refine ak ?_;show d6 _ _ (if ((order.filterMap (c[·]?)).size != c.size)=a6 then _ else _) _ _ _;rw[ee (by rw[D];simp)]
   first
    |refine a5 ?_
    |refine ak (a5 (a5 ?_))
   refine P9 J rfl (a5 (h a6 _ (sb.trans (H7 _ a _)) ?_)) (by rw[D];exact O);obtain⟨l',p',r'⟩:=M;refine JE.stored J hex rfl ⟨l',p'.trans S.symm,r'⟩ l6 ?_ ?_ (l4.trans X)
   ·rw[D,P,f];omega
   rw[D,P,f];omega
 obtain⟨T6,as,W6⟩:=W;split
 ·refine ak (u8 T6 W6 λbb=>?_);cases bb with
  |true=>exact fin t1 y H G
  |false=>exact fin { t1 with plain:=bo } (y.with bo) H G
 refine ak (a5 ?_);exact fin t1 y H G
end
section
variable {prog:ew}{w:hB}{led:e8}
section
variable {A:hG}{R:YB->cc->Prop}{I:b0}{fp wr:ae b0}{G:h8 Xc->h8 Xc->Prop}{n:Nat}{P:Nat->ay->Prop}{St:Nat->cc->Prop}
theorem JE.keep {R:e9->b0->Prop}{h h':j0}{a:b0}{b:ae e9}(x:JE w led R h a b)(e:∀ o,h.get? a=aa o->h'.get? a=aa o):JE w led R h' a b:=by obtain⟨o,es,ep,t,c,r⟩:=x;exact⟨o,es,ep,t,e o c,r⟩
theorem JE.start {R:e9->b0->Prop}{h:j0}{a:b0}(e:h.get? a=aa (fM w)):JE w (!KP w) R h a []:=
 ⟨fM w,#[],0,.fresh 0 0 (!KP w),e,⟨rfl,rfl,rfl⟩,rfl,⟨[],.refl _,.nil⟩,⟨⟨2,rfl⟩,rfl,rfl,PQ,λi j e=>by simp[SetTable.fresh] at e,λi h j e=>by simp at e⟩,(by show 0*5<7*3;decide),(by show 7<=8*0+7;decide),rfl⟩
theorem yd (W:WalksS prog w A.in1 I fp wr G n P St)(S:b0)(B:S∉fp){h0:j0}(F:∀ b o,h0.get? b=aa o->b≠S)(J:∀ b o,h0.get? b=aa o->b∉wr){Rl:e9->b0->Prop}(O:∀ k b,Rl k b->(ba prog w).is h0 k b)(val:Nat->e9)(Q:∀ i v,P i v->∃ b,v = .ref b/\Rl (val i) b)(Z:A.units+9<n0)(hb:n<1000) :
  ∀ (k i:Nat) (s:cc),n-i=k->i<=n->St i s->JE w led Rl s.heap S (met val i)->(∀ b o,h0.get? b=aa o->#[15]=aa o) ->
   (∀ s',Moved (S::wr) G s s'->JE w led Rl s'.heap S (met val n)->R (.ok (.ret .none)) s') ->
   PM #[8] A (.builtin "set.update.loop" ⟨[.ref S,.ref I],[]⟩) R s:=by
 have t:S∉wr:=λh=>B (W.sub _ h);intro k
 induction k with
 |zero =>
  intro i s N L st f m d;obtain rfl:i=n:=#[2]
  refine Pq SF.J5 ?_;rw[Ms SF.JM _];show d6 _ A.in1 (VP (.ref I) >>= _) _ _ s;refine ak (W.done s _ _ st λs' a=>?_);show d6 _ A.in1 (ret Jy) _ _ s';exact a5 (d s' (a.mono λb hb=>d7 _ hb) (f.keep λo e=>a.heap S o t e))
 |succ k D =>
  intro i s N L st f m d;have u:i<n:=#[2]
  refine Pq SF.J5 ?_;rw[Ms SF.JM _];show d6 _ A.in1 (VP (.ref I) >>= _) _ _ s;refine ak (W.item i s _ _ u st λv s' T U a=>?_);obtain⟨b,rfl,j⟩:=Q i v T;show d6 _ A.in1 (X4 [.ref b] (setAdd S (.ref b)) >>= _) _ _ s';refine ak (rp ?_);unfold setAdd;have x:∀ b o,h0.get? b=aa o->s'.heap.get? b=aa o:=λb o e=>a.heap b o (J b o e) (m b o e);have p:∀ k b,Rl k b->(ba prog w).is s'.heap k b:=λk b q=>let ⟨a1,K,a2⟩:=O k b q;⟨a1,K,vS (λc o' Y n H X=>x _ _ H) a1 a2⟩;have y:A.in1.units+8<n0:=by show A.units+1+8<n0;omega
  refine rp (ak ((ba prog w).pyHash y (p _ _ j) ?_));have hr:(met val i).length<1000:=by have:=sf val i;omega
  refine zv (s:={ s' with toks:=s'.toks+(ba prog w).draws (val i) }) y p (f.keep λo e=>a.heap S o t e) j hr λr l sb g=>?_;rw[← oF] at g;refine a5 ⟨Yr SF.JM _,D (i+1) _ #[0] u (W.frame _ s' _ _ U (VD _ _) λb hb o e=>?_) g (λb o e=>?_) λE V C=>?_⟩
  ·rw[sb.2 b (λz=>B (z▸hb))];exact e
  ·rw[show (({ s' with toks:=s'.toks+(ba prog w).draws (val i),heap:=l }:cc)).heap=l from rfl,sb.2 b (F b o e)];exact x b o e
  refine d E (Moved.trans W.gtrans ((a.mono λb hb=>d7 _ hb).then_heap (VD _ _) λb o M e=>?_) V) C;rw[sb.2 b (λz=>M (z▸e7))];exact e
end
section
variable {A:hG}{E:Hq}{s:cc}
set_option maxHeartbeats 3200000 in
theorem pU {l:Addr}{items:Array Value}{Q:Hq}(S:A.handled=none)(B:s.heap.IsTuple l items)(W:A.units+20<cLine){Rl:PyData->Addr->Prop}(H:∀ k b,Rl k b->(ba prog w).is s.heap k b)(val:Nat->PyData)(L:∀ (i:Nat) v,items[i]?=some v->∃ b,v = .ref b/\Rl (val i) b)
  (hb:items.size<1000)
  (h:∀ (h':Heap) (tk:Nat),JE w (!KP w) Rl h' s.heap.objs.size (met val items.size)->(∀ b o,b<s.heap.objs.size->s.heap.get? b=some o->h'.get? b=some o)->Q (.ref s.heap.objs.size) { s with heap:=h',toks:=tk }) :
  wpAny (model prog w) A (call (.type "set") [.ref l]) Q E s:=by
 obtain⟨c,tl,Z⟩:=F.called_set.mro;have c1:=F.called_set.made;have c2:=F.called_set.sub;refine wpAny_call (codeAny_of_tree ?_);show wpAny _ _ (callAny (.type "set") _) _ _ _;refine wpAny_pure ⟨Code.quiet_builtin _ (by decide),codeAny_builtin F.entry_type_call ?_⟩;rw[Around.under_plain (weight_type_call_type "set" [.ref l] []) rfl];have Y:=F.called_set.notType;have c4:=F.called_set.canCreate;have c5:=SF.OU (.ref l)
 repeat (any_goals (first |assumption |wp_step))
 refine codeAny_mono (tK (.ref l) (E:=E) (Q₁:=λobj d=>obj = .ref s.heap.objs.size/\d={ s with heap:=s.heap.push (fM w) }) ⟨rfl,rfl⟩) λr d hr=>?_;cases r with
 |error e=>exact hr
 |ok D =>
  cases D with
  |ret obj =>
   obtain⟨rfl,rfl⟩:=hr;have q:(s.heap.push (fM w)).get? s.heap.objs.size=some (fM w):=Heap.get?_push_size _ rfl;have U:Shared.TypeIs { s with heap:=s.heap.push (fM w) } (.ref s.heap.objs.size) "set":=⟨_,q,rfl⟩;have i1:=F.called_set.init.lookup;have i2:=F.called_set.init.bind (.ref s.heap.objs.size)
   repeat (any_goals (first |assumption |wp_step))
   refine codeAny_mono (codeAny_call_builtin (R:=wants (λr a=>r = .none/\∃ h' tk,a={ s with heap:=h',toks:=tk }/\JE w (!KP w) Rl h' s.heap.objs.size (met val items.size) /\
     (∀ b o,b<s.heap.objs.size->s.heap.get? b=some o->h'.get? b=some o)) E) F.called_set.init.plain F.entry_set_init (qk U ?_)) λf a g=>?_
   ·obtain⟨⟨TF,X,Rg,PH⟩,p,m,t,u⟩:=id B;simp only at m u;subst m u;have n:=Heap.get?_push_of_some (fM w) p;have t1:=F.sub_tuple_set;have t2:=F.sub_tuple_frozenset;have t3:(Value.type "tuple"==Value.type "dict")=false:=by decide
    have T:(s.heap.push (fM w)).IsTuple l items:=⟨_,n,rfl,t,rfl⟩;unfold Builtin.«set.__init__» noKeywords Builtin.Frozenset.updateFrom;generalize G:pyIter=PI
    wp_walk
    subst G;refine wpAny_pyIter_tuple T ?_;refine wpAny_bind (wpAny_runValue ?_);have x:l<s.heap.objs.size:=Heap.lt_size p;have z1:(s.heap.push (fM w)).objs.size=s.heap.objs.size+1:=Heap.size_push ..;have J:l≠(s.heap.push (fM w)).objs.size:=by rw[z1];exact ne_of_lt (lt_succ_of_lt x)
    have I:s.heap.objs.size∉[(s.heap.push (fM w)).objs.size,l]:=by
     rw[z1];intro hm;rcases mem_cons.mp hm with e |hm
     ·exact ne_of_lt (lt_succ_self _) e
     exact ne_of_gt x (mem_singleton.mp hm)
    refine yd (led:=!KP w) (h0:=s.heap) ((Walks.tuple (by simp[S]) _ l J items).toS) s.heap.objs.size I (λb o e=>ne_of_lt (Heap.lt_size e)) (λb o e hm=>by rw[mem_singleton.mp hm,z1] at e;exact absurd (Heap.lt_size e) (Nat.not_lt.mpr (le_succ _))) H val L (by first |exact W |(simp;omega)) hb (items.size-0) 0 _ (by omega) (zero_le _)
     ⟨⟨_,Heap.get?_push_size _ rfl,rfl,rfl⟩,⟨_,Heap.get?_push_of_some _ n,rfl,t,rfl⟩⟩ (JE.start (Heap.get?_push_of_some _ q)) (λb o e=>Heap.get?_push_of_some _ (Heap.get?_push_of_some _ e)) λN hm j=>?_
    obtain⟨h',K,V,C,QE⟩:=N;have P:K=s.gens:=hm.gens;have z:V=s.drawn:=hm.drawn;have y:QE=s.os:=hm.os;subst P z y;show wpAny _ _ _ _ _ _;refine wpAny_pure ?_;show wpAny _ _ (ret Value.none) _ _ _;refine wpAny_pure ⟨rfl,h',C,rfl,j,λb o hb e=>hm.heap b o ?_ (Heap.get?_push_of_some _ (Heap.get?_push_of_some _ e))⟩;intro hm;rcases mem_cons.mp hm with e |hm
    ·exact ne_of_lt hb e
    rw[z1] at hm;exact ne_of_lt (lt_succ_of_lt hb) (mem_singleton.mp hm)
   cases f with
   |error e=>exact g
   |ok M =>
    cases M with
    |ret r =>
     obtain⟨rfl,h',tk,rfl,j,O⟩:=g
     repeat (any_goals (first |assumption |wp_step))
     exact h _ _ j O
    |_=>exact g.elim
  |_=>exact hr.elim
end
end
end L2
namespace L2
open PySem PySem.Spec PyProof.Rows PySem.W
section
variable {X:Cx}{W:WT}{x y:ej}{p p2 pos Ji:N5}{fe fa:Hn D}
theorem sT {K:Ho}{H:Hp}{J:ae b0}:∀ {ds:ae D}{vs:ae V}{i:Nat}{d:D},Hz K H J ds vs->ds[i]?=aa d->∃ v,vs[i]?=aa v/\At K H J d v
 |[],_,_,_,_,e=>by simp at e
 |d0::ds,vs,i,d,m,e=>by
  obtain⟨v,r,rfl,a,n⟩:=Hz.Hy.mp m;cases i with
  |zero=>cases e;exact⟨v,rfl,a⟩
  |succ i =>
   obtain⟨b,c,f⟩:=sT n (by simpa using e);exact⟨b,by simpa using c,f⟩
end
noncomputable def Aw (d:D):ax e9:=match d with
 | .tup _=>f_ d
 |_=>av
noncomputable def kI:D->ax D
 | .tup a=>if a.length<900 then (zb Aw a).map λb => .int ((b.foldl br []).length:Nat) else av
 |_=>av
def RN (vs:ae V)(a:ae e9)(k:e9)(b:b0):Prop:=∃ i:Nat,vs[i]?=aa (V.ref b)/\a[i]?=aa k
noncomputable def A9 (w:hB) (vs:ae V) (a:ae e9) (p:b0):HO:=HO.ext λh=>JE w (!KP w) (RN vs a) h p (a.foldl br [])
section
variable {X:Cx}{W:WT}{x y:ej}{p p2 pos Ji:N5}{fe fa:Hn D}
theorem pF {α:Type}{f:D->ax α}:∀ {ds:ae D}{c:ae α},zb f ds=aa c->ds.length=c.length/\∀ {i:Nat}{a : α},c[i]?=aa a->∃ d,ds[i]?=aa d/\f d=aa a
 |[],c,h=>by cases h;exact⟨rfl,λ{i a} e=>by simp at e⟩
 |d::ds,c,h=>by
  obtain⟨b,n,m⟩:=kl.mp (show (f d).bind _=aa c from h);obtain⟨r,l,g⟩:=dv.mp m;subst g;obtain⟨j,p⟩:=pF l;refine⟨by rw[hD,hD,j],λ{i a} e=>?_⟩;cases i with
  |zero=>cases e;exact⟨d,rfl,n⟩
  |succ i =>
   obtain⟨o,k,q⟩:=p (i:=i) (a:=a) (by simpa using e);exact⟨o,by simpa using k,q⟩
theorem uv {K:Ho}{H:Hp}{J:ae b0}{d:D}{k:e9}{v:V}(h:Aw d=aa k)(m:At K H J d v):f_ d=aa k/\∃ b,v = .ref b:=by
 cases d<;>first |(cases h;done) |skip
 obtain⟨b,_,e,_⟩:=At.HK.mp m;exact⟨h,b,e⟩
theorem Cq (hc:X.calm=a6)(hu:X.A.units+150<n0):dS X (.type "set") (λxs H Q => ∃ (a:b0) (J:ae b0) (ds:ae D) (c:ae e9) (vs:ae V),xs=[.ref a]/\KI X.K H a vs/\Hz X.K H J ds vs/\zb Aw ds=aa c/\ds.length<900/\∀ p,H p=av->Q (.ref p) (upd H p (A9 X.w vs c p))):=by
 intro N s σ H xs us Q I r h;obtain⟨a,J,ds,c,vs,rfl,R,m,Y,hb,q⟩:=h;obtain⟨u,rfl,T⟩:=vals1 r;cases T;obtain⟨its,F,⟨o,x,O,n,W8⟩,hz⟩:=I.tuple R;have tp:s.heap.IsTuple a its.toArray:=⟨o,x,O,n,W8⟩;obtain⟨G,L⟩:=pF Y;have C:its.length=c.length:=by rw[← F.length,← m.length,G]
 refine pU (Rl:=RN vs c) (I.ok.hd hc) tp #[0] (λk b hr=>?_) (λi=>c.getD i .none) (λi v P=>?_) (by rw[eX,C,← G];omega) λh' tk B k=>?_
 ·obtain⟨i,j,g⟩:=hr;obtain⟨d,y,l⟩:=L g;obtain⟨v,f,E⟩:=sT m y;rw[j] at f;cases f;exact kJ I (uv l E).1 E
 ·have M:its[i]?=aa v:=by simpa using P
  have W:i<c.length:=by rw[← C];exact(b7.mp M).1
  have g:=a4 W;obtain⟨d,y,l⟩:=L g;obtain⟨w,j,U⟩:=sT m y;obtain⟨u,f,e6⟩:=F.get (i:=i) j;rw[M] at f;cases f;obtain⟨_,b,rfl⟩:=uv l U;cases e6;exact⟨b,rfl,i,j,by simp only[OW,g];rfl⟩
 have S:its.toArray.size=c.length:=by rw[eX,C]
 have Z:met (λi=>c.getD i .none) c.length=c.foldl br []:=by
  unfold met
  have:(ei c.length).map (λi=>c.getD i .none)=c:=by
   apply Zs
   ·simp
   intro i a b;simp at a;simp[OW,a]
  rw[this]
 rw[S,Z] at B;refine⟨#[11],_,I.laid (t':=tk) (o:=A9 X.w vs c s.heap.objs.size) (λb o e=>k b o (ek e) e) (eG _) ⟨B,?_,λh1 h2 z k=>z.keep k⟩,rfl,q _ I.fresh⟩;obtain⟨o,es,ep,t,x,_⟩:=B;exact⟨o,x⟩
theorem wG:dS X (.builtin "len") (λxs H Q => ∃ p vs c,xs=[.ref p]/\H p=aa (A9 X.w vs c p)/\c.length<900/\Q (.int ((c.foldl br []).length:Nat)) H):=by
 intro d s y H xs x Q I r h;obtain⟨p,vs,c,rfl,g,hb,q⟩:=h;obtain⟨u,rfl,j⟩:=vals1 r;cases j;obtain⟨⟨o,es,ep,t,m,hex,hd,⟨l,v,k⟩,T,z,A,_⟩,_,_⟩:=I.HZ p _ g;have e:es.size=(c.foldl br []).length:=by have f:=v.length_eq;rw[hH] at f;exact f.symm.trans (gq k).symm
 have n:(c.foldl br []).length<=c.length:=by
  have:∀ (l b:ae e9),(l.foldl br b).length<=b.length+l.length:=λl=>by
   induction l with
   |nil=>intro b;simp
   |cons a l i =>
    intro b;rw[wi];refine fk (i _) ?_;have:(br b a).length<=b.length+1:=by unfold br;split<;>simp
    rw[hD];omega
  have:=this c [];simpa using this
 refine call_len_set m hex hd (T.fits #[3] #[0]) #[0] ?_;rw[e];exact⟨.int _,H,I.tok _,⟨_,rfl⟩,q⟩
theorem vL {a:gj}(s:x="len")(B:y="set")(hc:X.calm=a6)(w:X.A.units+150<n0)(l:X.mg x=av)(u:X.mg y=av)(ha:SE X W a fe)(z:Gl X x:=by rfl)(F:Gl X y:=by rfl)
  (e:dm [a] X.env=(bo,lX a X.env)::dm [] X.env:=by rfl)
  (c:dm [(.Call (.Name y p2) [a] [] Ji)] X.env=(bo,lX (.Call (.Name y p2) [a] [] Ji) X.env)::dm [] X.env:=by rfl)
  (E:(mf Ji (dm [] X.env)).any (·.1)=bo:=by rfl) (C:(mf pos (dm [] X.env)).any (·.1)=bo:=by rfl) :
  SE X W (.Call (.Name x p) [.Call (.Name y p2) [a] [] Ji] [] pos) (Ju kI fe):=by
 subst s B;have inner:=fB (X:=X) (p:=p2) (pos:=Ji) (Cq hc w) F u A1 (cn ha Ik e) #[1] #[1] e E;refine PE.imp (gW wG z l bA (cn inner Ik c) #[1] #[1] c C) λG H Q h=>?_;refine(tG.HH h).mono λv I ⟨d,n⟩=>?_;obtain⟨J,r,K,L,j,eq,q⟩:=tG.Qd n;cases r with
 |tup o =>
  unfold kI at eq;simp only at eq;split at eq
  ·rename_i hb;obtain⟨f,i,t⟩:=dv.mp eq;subst t;obtain⟨b,g,rfl,D,m⟩:=At.HK.mp j;show ll _ _ _;refine⟨b,J,o,f,g,rfl,D.sq,m,i,hb,λp k=>?_⟩;show ll _ _ _;exact⟨p,g,f,rfl,HG,by rw[← (pF i).1];exact hb,q _ _ (aO k _) (#[14])⟩
  cases eq
 |_=>cases eq
end
end L2
namespace L2
open PySem PyProof.Rows
section
variable (f g:Hn D) (ρ:Hv) (S:Hu) (i:Nat) (k:e8)
@[simp] theorem G8 (d:D):ar d ρ S=HC d S:=rfl
@[simp] theorem G_ (a:D->D->ax D):aA a f g ρ S=aj (f ρ S) λx b=>aj (g ρ b) λy S2=>aQ (a x y) S2:=rfl
@[simp] theorem Hd (a:D->ax D):Ju a f ρ S=aj (f ρ S) λx b=>aQ (a x) b:=rfl
@[simp] theorem Fv:aR f ρ S=aj (f ρ S) λx a=>aQ (Mh x) a:=rfl
@[simp] theorem FZ (a b:D->D->ax D)(h:Hn D):ir a b f g h ρ S=aj (f ρ S) λx d=>aj (g ρ d) λy S2=>aj (aQ ((a x y).bind Mh) S2) λk c=>if k=a6 then aj (h ρ c) λz e=>aQ (b y z) e else HC (.bl bo) c:=rfl
@[simp] theorem GH (a b:Hn e8):je a b ρ S=aj (a ρ S) λk c=>if k=a6 then b ρ c else HC bo c:=rfl
@[simp] theorem GV (a b:Hn e8):jE a b ρ S=aj (a ρ S) λk c=>if k=a6 then HC a6 c else b ρ c:=rfl
@[simp] theorem Gu (a:Hn e8):dE a ρ S=aj (a ρ S) λk b=>HC (!k) b:=rfl
@[simp] theorem Hb:kb f g ρ S=aj (f ρ S) λx a=>aj (aQ (Mh x) a) λk S2=>if k=a6 then g ρ S2 else HC (.bl bo) S2:=rfl
@[simp] theorem Hg:S9 f g ρ S=aj (f ρ S) λx a=>aj (aQ (Mh x) a) λk S2=>if k=a6 then HC (.bl a6) S2 else g ρ S2:=rfl
@[simp] theorem GW:Cz f ρ S=aj (f ρ S) λx a=>aj (aQ (Mh x) a) λk S2=>HC (.bl (!k)) S2:=rfl
@[simp] theorem G3 (t:Hn e8):u6 t f g ρ S=aj (t ρ S) λk a=>if k=a6 then f ρ a else g ρ a:=rfl
@[simp] theorem Fy:aD ρ S=HC [] S:=rfl
@[simp] theorem Ee (t:Hn (ae D)):ag f t ρ S=aj (f ρ S) λd a=>aj (t ρ a) λds S2=>HC (d::ds) S2:=rfl
@[simp] theorem GQ (t:Hn (ae D)):lQ t ρ S=aj (t ρ S) λds a=>aQ (Ky ds (.tup ds)) a:=rfl
@[simp] theorem G0 (t:Hn (ae D)):mY t ρ S=aj (t ρ S) λds a=>aQ (Ky ds (.lst ds)) a:=rfl
@[simp] theorem GF (h:ae D->ax D)(t:Hn (ae D)):a7 h t ρ S=aj (t ρ S) λds a=>aQ (h ds) a:=rfl
@[simp] theorem Gv:bx ρ S=HC (.next ρ) S:=rfl
@[simp] theorem xE (a b:Hn Fl):aM a b ρ S=aj (a ρ S) λe d=>match e with
 | .next c=>b c d
 |o=>HC o d:=rfl
@[simp] theorem GT:aZ f ρ S=aj (f ρ S) λd a=>HC (.ret d) a:=rfl
@[simp] theorem Hi (t:Hn e8)(a b:Hn Fl):Je t a b ρ S=aj (t ρ S) λk c=>if k=a6 then a ρ c else b ρ c:=rfl
@[simp] theorem GR:bO i f ρ S=aj (f ρ S) λd a=>HC (.next (ρ.set i (aa d))) a:=rfl
@[simp] theorem G5 (a:Hn (ae D))(u:D->Hv->ax Hv)(b:Hn Fl):ka a u b ρ S=aj (a ρ S) λds c=>dC u b ds ρ c:=rfl
@[simp] theorem GS (h:ae D->ax (ae D))(t:Hn (ae D)):kS h t ρ S=aj (t ρ S) λds a=>aQ (h ds) a:=rfl
@[simp] theorem FT:cF f ρ S=aj (f ρ S) λd a=>aQ (bN d) a:=rfl
@[simp] theorem Gp:gC ρ S=HC a6 S:=rfl
@[simp] theorem G7 (F:Ht)(t:Hn (ae D)):aY F t ρ S=aj (t ρ S) λds a=>jN (F ds a):=rfl
@[simp] theorem FX (d:D):jN (HC d S)=HC d S:=rfl
@[simp] theorem Fx (d:D):jN (aa (.ok d,S))=HC d S:=rfl
@[simp] theorem Hh:IC f g ρ S=aj (f ρ S) λx a=>aj (g ρ a) λy S2=>aQ (Iy x y S2) S2:=rfl
@[simp] theorem GB:ML k f g ρ S=aj (f ρ S) λx a=>aj (g ρ a) λy S2=>aQ (Kn k x y S2) S2:=rfl
@[simp] theorem Gq:xL f ρ S=aj (f ρ S) λd a=>aQ (nT d a) a:=rfl
@[simp] theorem GX:u4 ρ S=HC (#[12]) (S++[.dict []]):=rfl
@[simp] theorem GU (h:Hn D):u3 f g h ρ S=aj (h ρ S) λv b=>aj (f ρ b) λx S2=>aj (g ρ S2) λk a=>pQ x k v ρ a:=rfl
@[simp] theorem GE (n:Nat)(ix:ae Nat)(a:Hn (ae D))(u:D->Hv->ax Hv)(gt:Hn e8):fq n ix a u gt f ρ S=aj (a ρ S) λds b =>
 match cS u gt f ds (cL n ix ρ) b with
 |aa (out,S2)=>HC (.lst out) S2
 |av=>av:=rfl
@[simp] theorem He (a:D->ax Int->ax Int->ax D)(lo hi:ax (Hn D)):Kh a f lo hi ρ S=aj (f ρ S) λx c=>aj (kT lo ρ c) λl S2=>aj (kT hi ρ S2) λu b=>aQ (a x l u) b:=rfl
@[simp] theorem FW:kT av ρ S=HC av S:=rfl
@[simp] theorem FV:kT (aa f) ρ S=aj (f ρ S) λd a=>aQ (dF d) a:=rfl
@[simp] theorem GZ (a:D->e8)(b:D->D->ax D):sQ a b f g ρ S=aj (f ρ S) λx c=>if a x=a6 then aj (g ρ c) λy S2=>aQ (b x y) S2 else av:=rfl
@[simp] theorem Fs (d:D)(h : ρ[i]?=aa (aa d)):af i ρ S=HC d S:=by unfold af;rw[h]
@[simp] theorem FS (d:D):aJ i d ρ=aa (ρ.set i (aa d)):=rfl
@[simp] theorem G9 (b:e8):Mh (.bl b)=aa b:=rfl
end
@[simp] theorem cG {ds:ae D}{d:D}(h:ds.length<=1000):Ky ds d=aa d:=by
 unfold Ky;rw[dw (fk h #[1])]
theorem aq {n m:Nat}{G:Hn Fl}{ds:ae D}{S a:Hu}{d:D}(b:ds.length=n)(h:G (ds.map aa++el m av) S=HC (.ret d) a):bq n m G ds S=HC d a:=by unfold bq;rw[dw b,h];rfl
theorem g6 {u:D->Hv->ax Hv}{gt:Hn e8}{fe:Hn D}(I:Hv->Prop)(g:D->e8)(f:D->D)(S:Hu) :
  ∀ (ds:ae D) (b:Hv),I b->(∀ d∈ds,∀ b,I b->∃ a,u d b=aa a/\I a/\gt a S=HC (g d) S/\(g d=a6->fe a S=HC (f d) S))->cS u gt fe ds b S=aa ((ds.filter g).map f,S)
 |[],b,_,_=>rfl
 |d::ds,b,hI,h=>by
  obtain⟨a,l,m,k,i⟩:=h d (e7 ..) b hI;have e:=g6 I g f S ds a m λx j=>h x (d7 _ j);rw[cS,l,p0,k];simp only[HC,Qe,p0];by_cases c:g d=a6
  ·rw[dw c,i c];simp only[HC,Qe,p0,e,Vq,Ut,c,ox,hA]
  rw[ee c,e,Ut,ee c]
theorem d8 {u:D->Hv->ax Hv}{fe:Hn D}(I:Hv->Prop)(f:D->D)(S:Hu)(ds:ae D)(b:Hv)(c:I b)
  (h:∀ d∈ds,∀ b,I b->∃ a,u d b=aa a/\I a/\fe a S=HC (f d) S):cS u gC fe ds b S=aa (ds.map f,S):=by
 have q:=g6 (u:=u) (gt:=gC) (fe:=fe) I (λ_=>a6) f S ds b c λd hd b hr=>by obtain⟨a,i,e,g⟩:=h d hd b hr;exact⟨a,i,e,rfl,λ_=>g⟩
 rw[q,Ym.mpr λ_ _=>rfl]
theorem i6 {u:D->Hv->ax Hv}{body:Hn Fl}(I:Nat->Hv->Hu->Prop):∀ (ds:ae D) (i:Nat) (k:Hv) (S:Hu),I i k S ->
  (∀ (j:Nat) d k S,ds[j]?=aa d->I (i+j) k S->∃ m,u d k=aa m/\∃ g l,body m S=HC (.next g) l/\I (i+j+1) g l)->∃ g l,dC u body ds k S=HC (.next g) l/\I (i+ds.length) g l
 |[],i,k,S,o,_=>⟨k,S,rfl,o⟩
 |d::ds,i,k,S,o,h=>by
  obtain⟨m,w,g,l,v,y⟩:=h 0 d k S rfl o
  obtain⟨n,q,s,p⟩:=i6 I ds (i+1) g l y λj x k S t r=>by
   obtain⟨a,b,c,d,e,f⟩:=h (j+1) x k S (by simpa using t) (by rw[show i+(j+1)=i+1+j by omega];exact r);exact⟨a,b,c,d,e,by rw[show i+1+j+1=i+(j+1)+1 by omega];exact f⟩
  refine⟨n,q,?_,by rw[hD,show i+(ds.length+1)=i+1+ds.length by omega];exact p⟩;rw[dC,w];simp only[v,cZ];exact s
theorem j1 {u:D->Hv->ax Hv}{body:Hn Fl}(I:Nat->Hv->Prop)(good:Nat->D->e8)(r:D)(S:Hu):∀ (ds:ae D) (i:Nat) (f:Hv),I i f ->
  (∀ (j:Nat) d f,ds[j]?=aa d->I (i+j) f->∃ g,u d f=aa g/\(good (i+j) d=a6->∃ e,body g S=HC (.next e) S/\I (i+j+1) e)/\(good (i+j) d=bo->body g S=HC (.ret r) S)) ->
  ((∀ (j:Nat) d,ds[j]?=aa d->good (i+j) d=a6)/\∃ e,dC u body ds f S=HC (.next e) S/\I (i+ds.length) e)∨((∃ (j:Nat) (d:D),ds[j]?=aa d/\good (i+j) d=bo)/\dC u body ds f S=HC (.ret r) S)
 |[],i,f,hI,_ => .inl ⟨λj d h=>by simp at h,f,rfl,hI⟩
 |d::ds,i,f,hI,h=>by
  obtain⟨g,s,q,p⟩:=h 0 d f rfl hI;rw[dC,s];cases l:good (i+0) d with
  |false=>exact .inr ⟨⟨0,d,rfl,l⟩,by simp only[p l,cZ]⟩
  |true =>
   obtain⟨e,n,t⟩:=q l;simp only[n,cZ]
   rcases j1 I good r S ds (i+1) e t λj x f k o=>by
    obtain⟨a,b,c,d⟩:=h (j+1) x f (by simpa using k) (by rw[show i+(j+1)=i+1+j by omega];exact o);rw[show i+(j+1)=i+1+j by omega] at c d;exact⟨a,b,c,d⟩ with ⟨a,m,b,c⟩ |⟨⟨j,x,a,b⟩,c⟩
   ·refine .inl ⟨λj x k=>?_,m,b,by rw[hD,show i+(ds.length+1)=i+1+ds.length by omega];exact c⟩;cases j with
    |zero=>simp at k;subst k;exact l
    |succ j=>rw[show i+(j+1)=i+1+j by omega];exact a j x (by simpa using k)
   exact .inr ⟨⟨j+1,x,by simpa using a,by rw[show i+(j+1)=i+1+j by omega];exact b⟩,c⟩
mutual
def pl:D->e8
 | .tup a=>NR a
 | .lst a=>NR a
 | .set _=>bo
 | .loc _=>bo
 | .fn _ _=>bo
 |_=>a6
def NR:ae D->e8
 |[]=>a6
 |d::ds=>pl d&&NR ds
end
theorem IQ:∀ {ds:ae D},NR ds=a6↔∀ d∈ds,pl d=a6
 |[]=>by simp[NR]
 |d::ds=>by rw[NR,eL,IQ (ds:=ds)];simp
mutual
theorem wZ:∀ {d:D},pl d=a6->∃ p,toPy d=aa p
 | .Ic,_=>⟨_,rfl⟩
 | .bl _,_=>⟨_,rfl⟩
 | .int _,_=>⟨_,rfl⟩
 | .str _,_=>⟨_,rfl⟩
 | .tup b,h=>by
  rw[pl] at h;obtain⟨a,e⟩:=iU h;exact⟨.tuple a,by rw[toPy,e];rfl⟩
 | .lst b,h=>by
  rw[pl] at h;obtain⟨a,e⟩:=iU h;exact⟨.list a,by rw[toPy,e];rfl⟩
 | .set _,h=>by simp[pl] at h
 | .loc _,h=>by simp[pl] at h
 | .fn _ _,h=>by simp[pl] at h
theorem iU:∀ {ds:ae D},NR ds=a6->∃ a,cb ds=aa a
 |[],_=>⟨[],rfl⟩
 |d::ds,h=>by
  rw[NR,eL] at h;obtain⟨p,c⟩:=wZ h.1;obtain⟨a,b⟩:=iU h.2;exact⟨p::a,by rw[cb,c,b];rfl⟩
end
theorem lj:∀ {ds:ae D}{a:ae e9},cb ds=aa a->a.length=ds.length
 |[],a,e=>by cases e;rfl
 |d::ds,a,e=>by
  rw[cb] at e;obtain⟨p,_,b⟩:=kl.mp e;obtain⟨r,f,c⟩:=dv.mp b;subst c;rw[hD,hD,lj f]
theorem CB {α:Type}[BEq α][LawfulBEq α][s8 α](a b : α):(a==b)=dr (a=b):=by by_cases h:a=b<;>simp[h]
@[simp] theorem Cm (i j:Int):Iv (.int i) (.int j)=aa (.bl (dr (i=j))):=by simp[Iv,toPy,fh,hO,CB]
@[simp] theorem xm (i j:Int):MY (.int i) (.int j)=aa (.bl (!dr (i=j))):=by simp[MY,toPy,fh,hO,CB]
@[simp] theorem Go (a b:e8):Iv (.bl a) (.bl b)=aa (.bl (a==b)):=by simp[Iv,toPy,fh,hO]
theorem g_:∀ l:ae ej,cb (l.map .str)=aa (l.map .str)
 |[]=>rfl
 |a::l=>by rw[hA,cb,g_ l];rfl
theorem nP:∀ l:ae Int,cb (l.map .int)=aa (l.map .int)
 |[]=>rfl
 |a::l=>by rw[hA,cb,nP l];rfl
theorem oZ:∀ l m:ae ej,ky (l.map .str) (m.map .str)=dr (l=m)
 |[],[]=>rfl
 |[],b::m=>by simp[ky]
 |a::l,[]=>by simp[ky]
 |a::l,b::m=>by
  rw[hA,hA,ky,oZ l m];simp only[fh,N8];by_cases h:a=b<;>by_cases c:l=m<;>simp[h,c]
theorem uI:∀ l m:ae Int,ky (l.map .int) (m.map .int)=dr (l=m)
 |[],[]=>rfl
 |[],b::m=>by simp[ky]
 |a::l,[]=>by simp[ky]
 |a::l,b::m=>by
  rw[hA,hA,ky,uI l m];simp only[fh,N8];by_cases h:a=b<;>by_cases c:l=m<;>simp[h,c]
theorem j8:∀ l:ae ej,kq (l.map .str)=0
 |[]=>rfl
 |a::l=>by rw[hA,kq,j8 l];rfl
theorem o5:∀ l:ae Int,kq (l.map .int)=0
 |[]=>rfl
 |a::l=>by rw[hA,kq,o5 l];rfl
theorem AL (l m:ae ej):Iv (.tup (l.map .str)) (.tup (m.map .str))=aa (.bl (dr (l=m))):=by simp[Iv,toPy,g_,fh,hO,j8,oZ]
theorem uK (l m:ae Int):Iv (.lst (l.map .int)) (.lst (m.map .int))=aa (.bl (dr (l=m))):=by simp[Iv,toPy,nP,fh,hO,o5,uI]
theorem Ck {ds:ae D}(h:NR ds=a6):Iv (.lst ds) (.lst [])=aa (.bl (ds.isEmpty)):=by
 obtain⟨a,e⟩:=iU h;have c:toPy (.lst ds)=aa (.list a):=by rw[toPy,e];rfl
 have l:=lj e;have b:toPy (.lst [])=aa (.list []):=rfl;unfold Iv;rw[c,b];cases a with
 |nil=>cases ds with
  |nil=>simp[hO,kq,fh,ky]
  |cons _ _=>simp at l
 |cons p a=>cases ds with
  |nil=>simp at l
  |cons _ _=>simp[hO,kq,fh,ky]
theorem BX {ds:ae D}(h:NR ds=a6):MY (.lst ds) (.lst [])=aa (.bl (!ds.isEmpty)):=by
 obtain⟨a,e⟩:=iU h;have c:toPy (.lst ds)=aa (.list a):=by rw[toPy,e];rfl
 have l:=lj e;have b:toPy (.lst [])=aa (.list []):=rfl;unfold MY;rw[c,b];cases a with
 |nil=>cases ds with
  |nil=>simp[hO,kq,fh,ky]
  |cons _ _=>simp at l
 |cons p a=>cases ds with
  |nil=>simp at l
  |cons _ _=>simp[hO,kq,fh,ky]
theorem Nq (x a b c:ej):inD (.str x) (.tup [.str a,.str b,.str c])=aa (.bl (dr (a=x) ||(dr (b=x) ||dr (c=x)))):=by simp[inD,pS,toPy,cb,yf,fh,hO,CB]
theorem xP (f:D->e8):∀ ds:ae D,u_ (ds.map λd => .bl (f d))=aa (ds.map f)
 |[]=>rfl
 |d::ds=>by rw[hA,u_,xP f ds];rfl
theorem jg (f:D->e8)(ds:ae D):pG [.lst (ds.map λd => .bl (f d))]=aa (.bl (ds.all f)):=by rw[pG,xP];simp[all_map]
section
variable (ρ:Hv) (S:Hu)
@[simp] theorem GD (F:Ht)(t:Hn (ae D)):FB F t ρ S=aj (t ρ S) λds a=>F ds a:=rfl
@[simp] theorem FU (c:ej)(t:Hn (ae D)):Ej c t ρ S=aj (t ρ S) λds a=>aj (aQ (Ky ds .Ic) a) λ_ S2=>aa (.error c,S2):=rfl
@[simp] theorem G4 (a:ej->ax e8)(f:Hn D):GJ a f ρ S=aj (f ρ S) λd b=>aQ (Fi a d b) b:=rfl
end
end L2
namespace HD
open PySem L2
noncomputable def AH:Hn Fl:=
  (aZ (aA Iv (a7 a_ (ag (af 0) aD)) (ar (.int 3))))
noncomputable def pK:Ht:=bq 1 0 AH
noncomputable def kM:Hn Fl:=
  (aZ (u6 (aR (aY pK (ag (af 0) aD))) (Kh IX (af 0) (aa (ar (.int 1))) av) (lQ aD)))
noncomputable def bS:Ht:=bq 1 0 kM
noncomputable def j4:Hn Fl:=
  (aZ (u6 (aR (aY pK (ag (af 0) aD))) (sQ eV jv (af 1) (IC (af 0) (ar (.int 0)))) (a7 a_ (ag (af 1) aD))))
noncomputable def d9:Ht:=bq 2 0 j4
noncomputable def qQ:Hn Fl:=
  (aM (bO 4 (u5 (af 0) (af 1)))
  (aZ (u6 (aR (aA Iv (IC (af 4) (ar (.int 0))) (af 2))) (IC (af 4) (aA bg (ar (.int 1)) (af 3))) (af 1))))
noncomputable def lU:Ht:=bq 4 1 qQ
noncomputable def bj (rec:Ht):Hn Fl:=
  (Je (aR (ML a6 (af 3) (af 2))) (u7 (aY rec (ag (af 0) (ag (af 3) (ag (af 2) aD))))) bx)
noncomputable def bQ (rec:Ht):Hn Fl:=
  (aM (ka (cF (aY bS (ag (u5 (af 0) (af 1)) aD))) (aJ 3) (bj rec))
  (u3 (af 2) (af 1) (ar (.bl a6))))
noncomputable def aP:Nat->Ht
 | 0=>λ_ _=>av
 |n+1=>bq 3 1 (bQ (aP n))
noncomputable def fX:Hn Fl:=
  (aM (bO 2 u4)
  (aM (u7 (aY (aP 10) (ag (af 0) (ag (af 1) (ag (af 2) aD)))))
  (aZ (lO (af 2)))))
noncomputable def cN:Ht:=bq 2 1 fX
noncomputable def i9:Hn Fl:=
  (aZ (u6 (aR (aY pK (ag (af 0) aD))) (lQ (ag (IC (af 0) (ar (.int 0))) (ag (IC (af 1) (IC (af 0) (ar (.int 1)))) (ag (IC (af 1) (IC (af 0) (ar (.int 2)))) aD)))) (af 0)))
noncomputable def f8:Ht:=bq 2 0 i9
noncomputable def gu:Hn Fl:=
  (aZ (kb (Ju (aW "int") (af 0)) (kb (Cz (Ju (aW "bool") (af 0))) (ir LJ Jv (ar (.int 0)) (af 0) (af 1)))))
noncomputable def bT:Ht:=bq 2 0 gu
noncomputable def jP:Hn Fl:=
  (aZ (kb (Ju (aW "tuple") (af 0)) (aA Iv (a7 a_ (ag (af 0) aD)) (af 1))))
noncomputable def eK:Ht:=bq 2 0 jP
noncomputable def bh:Hn D:=
  (ir LJ LJ (ar (.str "a")) (af 0) (ar (.str "z")))
noncomputable def fm:Hn Fl:=
  (aZ (a7 pG (ag (fq 1 [] (cF (af 0)) (aJ 0) gC bh) aD)))
noncomputable def cV:Ht:=bq 1 0 fm
noncomputable def qU:Hn Fl:=
  (aM (Je (jE (dE (aR (Ju (aW "str") (af 0)))) (aR (ML bo (af 0) (ar (D.tup [(D.str "names"),(D.str "ask"),(D.str "end")]))))) (aZ (ar (.bl bo))) bx)
  (aZ (kb (ir LJ LJ (ar (.int 1)) (a7 a_ (ag (af 0) aD)) (ar (D.int 8))) (aY cV (ag (af 0) aD)))))
noncomputable def lY:Ht:=bq 1 0 qU
noncomputable def ij:Hn D:=
  (aY lY (ag (af 0) aD))
noncomputable def oX:Hn Fl:=
  (aM (Je (jE (dE (aR (Ju (aW "tuple") (af 0)))) (dE (aR (a7 pG (ag (fq 1 [] (cF (af 0)) (aJ 0) gC ij) aD))))) (aZ (ar (.bl bo))) bx)
  (aZ (aA Iv (af 0) (a7 mS (ag (Ju hW (af 0)) aD)))))
noncomputable def kg:Ht:=bq 1 0 oX
noncomputable def qV:Hn Fl:=
  (aZ (kb (aY eK (ag (af 0) (ag (ar (.int 2)) aD))) (kb (aA Iv (IC (af 0) (ar (.int 0))) (ar (.str "names"))) (aY kg (ag (IC (af 0) (ar (.int 1))) aD)))))
noncomputable def lZ:Ht:=bq 1 0 qV
noncomputable def iH:Hn Fl:=
  (aM (Je (jE (dE (aR (aY eK (ag (af 0) (ag (ar (.int 3)) aD))))) (dE (aR (aY bT (ag (IC (af 0) (ar (.int 0))) (ag (af 2) aD)))))) (aZ (ar (.bl bo))) bx)
  (aZ (kb (aY bT (ag (IC (af 0) (ar (.int 1))) (ag (af 1) aD))) (kb (aY bT (ag (IC (af 0) (ar (.int 2))) (ag (af 1) aD))) (aA MY (IC (af 0) (ar (.int 1))) (IC (af 0) (ar (.int 2))))))))
noncomputable def fg:Ht:=bq 3 0 iH
noncomputable def uF:Hn Fl:=
  (aZ (S9 (aY lZ (ag (af 0) aD)) (aY fg (ag (af 0) (ag (af 1) (ag (af 2) aD))))))
noncomputable def pI:Ht:=bq 3 0 uF
noncomputable def db:Hn D:=
  (aA Jv (aY d9 (ag (af 1) (ag (af 2) aD))) (aY d9 (ag (IC (af 3) (af 0)) (ag (af 2) aD))))
noncomputable def jO:Hn Fl:=
  (aZ (a7 pG (ag (fq 1 [1,2,0] (cF (aY bS (ag (af 1) aD))) (aJ 0) gC db) aD)))
noncomputable def gJ:Ht:=bq 3 0 jO
noncomputable def gx:Hn D:=
  (aY pI (ag (af 1) (ag (af 0) (ag (a7 a_ (ag (af 2) aD)) aD))))
noncomputable def gw:Hn D:=
  (aY gJ (ag (af 1) (ag (af 0) (ag (af 2) aD))))
noncomputable def fD:Hn Fl:=
  (aM (Je (jE (dE (aR (Ju (aW "tuple") (af 0)))) (aR (aA Iv (a7 a_ (ag (af 0) aD)) (ar (.int 0))))) (aZ (ar (.bl bo))) bx)
  (aM (Je (dE (aR (a7 pG (ag (fq 2 [1] (kS jR (ag (af 0) aD)) (nM 2 (cm (aJ 0) (cm (aJ 1) jH))) gC gx) aD)))) (aZ (ar (.bl bo))) bx)
  (aM (Je (jE (aR (aA Jv (Ju kI (af 0)) (a7 a_ (ag (af 0) aD)))) (dE (aR (a7 pG (ag (fq 1 [0,1] (cF (af 0)) (aJ 0) gC gw) aD))))) (aZ (ar (.bl bo))) bx)
  (aZ (aA Iv (aY cN (ag (af 0) (ag (aA ft (a7 a_ (ag (af 0) aD)) (ar (.int 1))) aD))) (a7 fC (ag (a7 a_ (ag (af 0) aD)) aD)))))))
noncomputable def jz:Ht:=bq 2 0 fD
noncomputable def eY:Hn Fl:=
  (aM (pz "Rows" "order" (af 0) (af 1))
  (aM (pz "Rows" "gathered" (af 0) AY)
  (aM (pz "Rows" "numbers" (af 0) xM)
  (pz "Rows" "choices" (af 0) xM))))
noncomputable def cz:Ht:=bq 2 0 eY
noncomputable def dA:Hn Fl:=
  (u3 (af 3) (af 5) (af 4))
noncomputable def cs:Hn D:=
  (aY f8 (ag (CA (jd "Rows" "gathered" (af 2)) (af 0)) (ag (af 1) aD)))
noncomputable def g0:Hn Fl:=
  (aM (bO 2 (aY cN (ag (jd "Rows" "gathered" (af 0)) (ag (af 1) aD))))
  (aM (bO 3 u4)
  (aM (ka (kS sG (ag (af 2) aD)) (nM 2 (cm (aJ 4) (cm (aJ 5) jH))) dA)
  (aZ (a7 mS (ag (fq 1 [3,0] (cF (af 2)) (aJ 0) gC cs) aD))))))
noncomputable def eA:Ht:=bq 2 4 g0
noncomputable def bB:Hn D:=
  (aY d9 (ag (CA (jd "Rows" "gathered" (af 1)) (af 0)) (ag (jd "Rows" "order" (af 1)) aD)))
noncomputable def dO:Hn Fl:=
  (aM (bO 4 (fq 1 [0] (cF (lQ (ag (af 2) (ag (af 3) aD)))) (aJ 0) gC bB))
  (aZ (IC (jd "Rows" "order" (af 0)) (a7 ul (ag (aA bg (af 4) (mY (ag (sQ eV jv (jd "Rows" "order" (af 0)) (af 1)) aD))) aD)))))
noncomputable def cu:Ht:=bq 4 1 dO
noncomputable def d5:Hn Fl:=
  (aM (Je (aR (AZ a6 (af 1) (jd "Rows" "numbers" (af 0)))) (aM (u0 (jd "Rows" "numbers" (af 0)) (af 1) (AT (jd "Rows" "gathered" (af 0))))
  (u7 (El (jd "Rows" "gathered" (af 0)) (af 1)))) bx)
  (aZ (xN (jd "Rows" "numbers" (af 0)) (af 1))))
noncomputable def ca:Ht:=bq 2 0 d5
noncomputable def cK:Hn Fl:=
  (aZ (u6 (aR (aA Iv (af 2) (af 3))) (af 2) (dR "Rows" "number_of" ca (af 0) (ag (lQ (ag (af 1) (ag (af 2) (ag (af 3) aD)))) aD))))
noncomputable def bU:Ht:=bq 4 0 cK
noncomputable def mJ:Hn Fl:=
  (aZ (aY lU (ag (jd "Rows" "gathered" (af 0)) (ag (af 1) (ag (af 2) (ag (af 3) aD))))))
noncomputable def ck:Ht:=bq 4 0 mJ
noncomputable def dz (rec:Ht):Hn Fl:=
  (aM (bO 4 (dR "Rows" "first_character" cu (af 0) (ag (af 1) (ag (af 2) (ag (af 3) aD)))))
  (aM (Je (aR (aA Iv (af 4) (af 1))) (aZ (dR "Rows" "number_of_ask" bU (af 0) (ag (af 1) (ag (dR "Rows" "side" ck (af 0) (ag (af 2) (ag (af 1) (ag (ar (.int 0)) aD)))) (ag (dR "Rows" "side" ck (af 0) (ag (af 3) (ag (af 1) (ag (ar (.int 1)) aD)))) aD))))) bx)
  (aM (bO 5 (dR "Rows" "choose" rec (af 0) (ag (af 1) (ag (dR "Rows" "side" ck (af 0) (ag (af 2) (ag (af 4) (ag (ar (.int 0)) aD)))) (ag (dR "Rows" "side" ck (af 0) (ag (af 3) (ag (af 4) (ag (ar (.int 0)) aD)))) aD)))))
  (aM (bO 6 (dR "Rows" "choose" rec (af 0) (ag (af 1) (ag (dR "Rows" "side" ck (af 0) (ag (af 2) (ag (af 4) (ag (ar (.int 1)) aD)))) (ag (dR "Rows" "side" ck (af 0) (ag (af 3) (ag (af 4) (ag (ar (.int 1)) aD)))) aD)))))
  (aZ (dR "Rows" "number_of_ask" bU (af 0) (ag (af 4) (ag (af 5) (ag (af 6) aD)))))))))
noncomputable def dB (rec:Ht):Ht:=bq 4 3 (dz rec)
noncomputable def eD (rec:Ht):Hn Fl:=
  (aM (bO 4 (lQ (ag (af 1) (ag (af 2) (ag (af 3) aD)))))
  (aM (Je (aR (AZ a6 (af 4) (jd "Rows" "choices" (af 0)))) (u0 (jd "Rows" "choices" (af 0)) (af 4) (u6 (aR (aA Iv (af 2) (af 3))) (af 2) (dR "Rows" "choose_anew" (dB rec) (af 0) (ag (af 1) (ag (af 2) (ag (af 3) aD)))))) bx)
  (aZ (xN (jd "Rows" "choices" (af 0)) (af 4)))))
noncomputable def eN:Nat->Ht
 | 0=>λ_ _=>av
 |n+1=>bq 4 1 (eD (eN n))
noncomputable def eW (rec:Ht):Hn Fl:=
  (aM (Je (aR (aA Iv (IC (af 1) (ar (.int 0))) (ar (.str "names")))) (aZ (dR "Rows" "number_of" ca (af 0) (ag (af 1) aD))) bx)
  (aZ (dR "Rows" "choose" (eN 9) (af 0) (ag (IC (af 1) (ar (.int 1))) (ag (aY rec (ag (af 0) (ag (IC (af 1) (ar (.int 2))) aD))) (ag (aY rec (ag (af 0) (ag (IC (af 1) (ar (.int 3))) aD))) aD))))))
noncomputable def df:Nat->Ht
 | 0=>λ_ _=>av
 |n+1=>bq 2 0 (eW (df n))
noncomputable def uG:Hn Fl:=
  (aM (bO 2 (xO "Rows" cz (ag (af 1) aD)))
  (aZ (dR "Rows" "fold_from" eA (af 2) (ag (aY (df 15) (ag (af 2) (ag (af 0) aD))) aD))))
noncomputable def pJ:Ht:=bq 2 1 uG
noncomputable def mI:Hn Fl:=
  (aM (Je (aR (aA Jv (af 1) (a7 a_ (ag (af 0) aD)))) (aZ (IC (af 0) (af 1))) bx)
  (aZ (ar (.int 0))))
noncomputable def ji:Ht:=bq 2 0 mI
noncomputable def qT:Hn Fl:=
  (aM (bO 2 (aA bp (aA cE (aA bg (aA bg (aY ji (ag (af 0) (ag (af 1) aD))) (aA cE (ar (.int 7919)) (af 1))) (ar (.int 1))) (ar (.int 48271))) (ar (.int 2147483647))))
  (aZ (aA bp (aA bg (aA bg (aA cE (af 2) (af 2)) (aA cE (ar (.int 7)) (af 2))) (af 1)) (ar (.int 2147483629)))))
noncomputable def a9:Ht:=bq 2 1 qT
noncomputable def qW:Hn Fl:=
  (aM (bO 2 (aA bp (aA cE (aA bg (aA bg (af 0) (aA cE (ar (.int 104729)) (af 1))) (ar (.int 17))) (ar (.int 69621))) (ar (.int 2147483647))))
  (aZ (aA bp (aA bg (aA bg (aA cE (af 2) (af 2)) (aA cE (ar (.int 3)) (af 2))) (af 1)) (ar (.int 2147483629)))))
noncomputable def fF:Ht:=bq 2 1 qW
noncomputable def gE:Hn Fl:=
  (bO 5 (aA bg (af 5) (IC (af 1) (aA bp (aA bw (af 4) (aA bg (aA cE (ar (.int 31)) (af 6)) (ar (.int 29)))) (ar (.int 26))))))
noncomputable def gD:Hn Fl:=
  (aM (bO 4 (aY fF (ag (af 0) (ag (af 3) aD))))
  (aM (bO 5 (IC (af 1) (aA bp (af 4) (ar (.int 26)))))
  (aM (ka (kS iG (ag (aA cE (aA bp (aA bw (af 4) (ar (.int 26))) (ar (.int 8))) (aA bp (af 0) (ar (.int 2)))) aD)) (aJ 6) gE)
  (u3 (af 2) (aA bg (af 5) (aA cE (ar (.str "q")) (a7 intD (ag (ML bo (af 5) (ar (D.tup [(D.str "names"),(D.str "ask"),(D.str "end")]))) aD)))) (ar (.bl a6))))))
noncomputable def qP:Hn Fl:=
  (aM (bO 1 (ar (#[17])))
  (aM (bO 2 u4)
  (aM (ka (kS iG (ag (ar (.int 6)) aD)) (aJ 3) gD)
  (aZ (a7 mS (ag (xL (af 2)) aD))))))
noncomputable def lT:Ht:=bq 1 6 qP
noncomputable def iV:Hn e8:=
  (aR (aA Iv (aA bp (aA bw (af 2) (aA bg (aA cE (ar (.int 3)) (af 0)) (ar (.int 1)))) (ar (.int 4))) (ar (.int 0))))
noncomputable def i_:Hn D:=
  (af 1)
noncomputable def qS:Hn Fl:=
  (aZ (a7 mS (ag (fq 2 [0] (kS jR (ag (af 1) aD)) (nM 2 (cm (aJ 0) (cm (aJ 1) jH))) iV i_) aD)))
noncomputable def lW:Ht:=bq 2 0 qS
noncomputable def sD (rec:Ht):Hn Fl:=
  (aM (Je (jE (aR (aA Iv (af 3) (ar (.int 0)))) (aR (aA Iv (aA bp (af 0) (ar (.int 7))) (ar (.int 0))))) (aZ (lQ (ag (ar (.str "names")) (ag (aY lW (ag (aA bw (af 0) (ar (.int 7))) (ag (af 1) aD))) aD)))) bx)
  (aM (bO 4 (aY rec (ag (aY fF (ag (af 0) (ag (ar (.int 1)) aD))) (ag (af 1) (ag (af 2) (ag (aA ft (af 3) (ar (.int 1))) aD))))))
  (aM (bO 5 (aY rec (ag (aY fF (ag (af 0) (ag (ar (.int 2)) aD))) (ag (af 1) (ag (af 2) (ag (aA ft (af 3) (ar (.int 1))) aD))))))
  (aZ (lQ (ag (ar (.str "ask")) (ag (aA bp (aA bw (af 0) (ar (.int 7))) (af 2)) (ag (af 4) (ag (af 5) aD)))))))))
noncomputable def kZ:Nat->Ht
 | 0=>λ_ _=>av
 |n+1=>bq 4 2 (sD (kZ n))
noncomputable def gF:Hn Fl:=
  (aM (bO 4 (aA bp (aY fF (ag (af 0) (ag (af 3) aD))) (aA bg (a7 a_ (ag (af 2) aD)) (ar (.int 1)))))
  (bO 2 (aA bg (aA bg (Kh IX (af 2) av (aa (af 4))) (mY (ag (af 3) aD))) (Kh IX (af 2) (aa (af 4)) av))))
noncomputable def qR:Hn Fl:=
  (aM (bO 2 (mY aD))
  (aM (ka (kS iG (ag (af 1) aD)) (aJ 3) gF)
  (aZ (a7 mS (ag (af 2) aD)))))
noncomputable def lV:Ht:=bq 2 3 qR
noncomputable def oV:Hn Fl:=
  (aZ (kb (Ju (aW "int") (af 0)) (kb (Cz (Ju (aW "bool") (af 0))) (ir LJ LJ (ar (.int 0)) (af 0) (af 1)))))
noncomputable def f9:Ht:=bq 2 0 oV
noncomputable def c_:Hn e8:=
  (aR (aA Jv (sQ sw findD (ar (#[17])) (af 0)) (ar (.int 0))))
noncomputable def de:Hn D:=
  (af 0)
noncomputable def cy:Hn Fl:=
  (aM (Je (jE (dE (aR (Ju (aW "str") (af 2)))) (jE (dE (aR (ir Jv Jv (ar (.int 0)) (a7 a_ (ag (af 2) aD)) (ar (.int 9))))) (je (aR (aA JU (af 1) (ar (.int 0)))) (dE (aR (aA Jv (IC (af 0) (aA ft (af 1) (ar (.int 1)))) (af 2))))))) (aZ (ar (.bl bo))) bx)
  (aM (Je (aR (ML bo (af 2) (ar (D.tup [(D.str "names"),(D.str "ask"),(D.str "end")])))) (aZ (ar (.bl bo))) bx)
  (Je (aR (aA MY (fq 1 [] (cF (af 2)) (aJ 0) c_ de) (mY aD))) (aZ (ar (.bl bo))) bx)))
noncomputable def jQ:Hn Fl:=
  (aM (Je (dE (aR (Ju (aW "tuple") (af 0)))) (aZ (ar (.bl bo))) bx)
  (aM (ka (kS jR (ag (af 0) aD)) (nM 2 (cm (aJ 1) (cm (aJ 2) jH))) cy)
  (aZ (ar (.bl a6)))))
noncomputable def gK:Ht:=bq 1 2 jQ
noncomputable def uE:Hn Fl:=
  (aZ (kb (Ju (aW "bool") (af 0)) (aA Iv (af 0) (af 1))))
noncomputable def kY:Ht:=bq 2 0 uE
noncomputable def xy:Hn Fl:=
  (aM (bO 1 (ar (D.lst [(D.int (-1)),(D.int 0),(D.int 1),(D.int 9),(D.int 10),(D.bl a6),(D.bl bo),D.Ic,(D.str ""),(D.str "a"),(D.str "A"),(D.str "end"),(D.str "abcdefghi"),(D.str "a b"),(D.tup []),(D.lst []),(D.tup [(D.str "a")]),(D.tup [(D.str "b"),(D.str "a")])])))
  (aM (bO 1 (aA bg (af 1) (ar (D.lst [(D.tup [(D.str "names"),(D.tup [])]),(D.tup [(D.str "names"),(D.tup [(D.str "a"),(D.str "a")])]),(D.tup [(D.str "ask"),(D.int 0)]),(D.tup [(D.int 0),(D.int 0),(D.int 1)]),(D.tup [D.Ic])]))))
  (aZ (IC (aA bg (af 1) (ar (D.lst [(D.tup [(D.str "a"),(D.int 1)])]))) (aA bp (af 0) (ar (.int 24)))))))
noncomputable def sV:Ht:=bq 1 1 xy
noncomputable def cr (rec:Ht):Hn Fl:=
  (aM (Je (je (aR (aA JU (af 2) (ar (.int 0)))) (je (aR (Ju (aW "tuple") (af 0))) (je (aR (aA JU (a7 a_ (ag (af 0) aD)) (ar (.int 0)))) (aR (aA JU (aA bp (af 1) (ar (.int 6))) (ar (.int 0))))))) (aM (bO 3 (aA bp (aA bw (af 1) (ar (.int 6))) (a7 a_ (ag (af 0) aD))))
  (aM (bO 4 (aY rec (ag (IC (af 0) (af 3)) (ag (aA bw (aA bw (af 1) (ar (.int 6))) (a7 a_ (ag (af 0) aD))) (ag (aA ft (af 2) (ar (.int 1))) aD)))))
  (aZ (aA bg (aA bg (Kh IX (af 0) av (aa (af 3))) (lQ (ag (af 4) aD))) (Kh IX (af 0) (aa (aA bg (af 3) (ar (.int 1)))) av))))) bx)
  (aM (Je (je (aR (Ju (aW "tuple") (af 0))) (je (aR (aA JU (a7 a_ (ag (af 0) aD)) (ar (.int 0)))) (aR (aA Iv (aA bp (aA bw (af 1) (ar (.int 6))) (ar (.int 2))) (ar (.int 0)))))) (aZ (IC (mY (ag (a7 we (ag (af 0) aD)) (ag (Kh IX (af 0) av (aa (Ju mU (ar (.int 1))))) (ag (aA bg (af 0) (Kh IX (af 0) (aa (Ju mU (ar (.int 1)))) av)) (ag (Kh IX (af 0) (aa (ar (.int 1))) av) (ag (Ju kD (af 0)) (ag (aA cE (af 0) (ar (.int 2))) aD))))))) (aA bp (aA bw (af 1) (ar (.int 12))) (ar (.int 6))))) bx)
  (aM (Je (je (aR (Ju (aW "int") (af 0))) (aR (aA Iv (aA bp (aA bw (af 1) (ar (.int 6))) (ar (.int 2))) (ar (.int 0))))) (aZ (IC (mY (ag (a7 tF (ag (af 0) aD)) (ag (Ju mU (af 0)) (ag (aA cE (af 0) (ar (.int 1001))) (ag (aA Iv (af 0) (ar (.int 1))) (ag (aA bg (af 0) (ar (.int 1))) aD)))))) (aA bp (aA bw (af 1) (ar (.int 12))) (ar (.int 5))))) bx)
  (aM (Je (je (aR (Ju (aW "str") (af 0))) (aR (aA Iv (aA bp (aA bw (af 1) (ar (.int 6))) (ar (.int 2))) (ar (.int 0))))) (aZ (IC (mY (ag (aA bg (af 0) (ar (.str "a"))) (ag (Kh IX (af 0) av (aa (Ju mU (ar (.int 1))))) (ag (Ju nJ (af 0)) (ag (aA bg (af 0) (ar (.str " "))) (ag (aA cE (af 0) (ar (.int 9))) (ag (Ju kD (af 0)) aD))))))) (aA bp (aA bw (af 1) (ar (.int 12))) (ar (.int 6))))) bx)
  (aZ (aY sV (ag (aA bw (af 1) (ar (.int 6))) aD)))))))
noncomputable def iw:Nat->Ht
 | 0=>λ_ _=>av
 |n+1=>bq 3 2 (cr (iw n))
noncomputable def cP:Hn e8:=
  (je (aR (aA MY (IC (IC (af 2) (af 0)) (ar (.int 0))) (ar (.str "names")))) (aR (ML a6 (IC (IC (af 2) (af 0)) (ar (.int 0))) (af 1))))
noncomputable def fy:Hn D:=
  (af 0)
noncomputable def fY:Hn Fl:=
  (aM (bO 3 (IC (af 0) (af 1)))
  (aM (Je (jE (dE (aR (Ju (aW "tuple") (af 3)))) (jE (aR (aA Iv (a7 a_ (ag (af 3) aD)) (ar (.int 0)))) (aR (ML bo (af 3) (Kh IX (af 0) av (aa (af 1))))))) (aZ (ar (.bl bo))) bx)
  (aM (Je (aR (Ju (aW "str") (IC (af 3) (ar (.int 0))))) (aZ (kb (aA Iv (IC (af 3) (ar (.int 0))) (ar (.str "names"))) (kb (aA Iv (a7 a_ (ag (af 3) aD)) (ar (.int 2))) (aY gK (ag (IC (af 3) (ar (.int 1))) aD))))) bx)
  (aM (Je (jE (aR (aA MY (a7 a_ (ag (af 3) aD)) (ar (.int 3)))) (dE (aR (aY f9 (ag (IC (af 3) (ar (.int 0))) (ag (aA ft (a7 a_ (ag (af 2) aD)) (ar (.int 1))) aD)))))) (aZ (ar (.bl bo))) bx)
  (aM (Je (jE (dE (aR (aY f9 (ag (IC (af 3) (ar (.int 1))) (ag (aA ft (af 1) (ar (.int 1))) aD))))) (jE (dE (aR (aY f9 (ag (IC (af 3) (ar (.int 2))) (ag (aA ft (af 1) (ar (.int 1))) aD))))) (aR (aA Iv (IC (af 3) (ar (.int 1))) (IC (af 3) (ar (.int 2))))))) (aZ (ar (.bl bo))) bx)
  (aM (bO 4 (Kh IX (af 2) (aa (aA bg (sQ sx oS (a7 we (ag (af 2) aD)) (IC (af 3) (ar (.int 0)))) (ar (.int 1)))) av))
  (aZ (aA Iv (fq 1 [4,0] (cF (Kh IX (af 3) (aa (ar (.int 1))) av)) (aJ 0) cP fy) (mY aD)))))))))
noncomputable def d_:Ht:=bq 3 2 fY
noncomputable def fH (rec:Ht):Hn e8:=
  (aR (ML a6 (af 0) (af 1)))
noncomputable def ii (rec:Ht):Hn D:=
  (af 0)
noncomputable def f7 (rec:Ht):Hn Fl:=
  (bO 3 (aA bg (af 3) (fq 1 [3] (cF (aY rec (ag (af 0) (ag (af 4) aD)))) (aJ 0) (fH rec) (ii rec))))
noncomputable def oW (rec:Ht):Hn Fl:=
  (aM (bO 2 (IC (af 0) (af 1)))
  (aM (bO 3 (mY aD))
  (aM (Je (aR (aA MY (IC (af 2) (ar (.int 0))) (ar (.str "names")))) (ka (cF (Kh IX (af 2) (aa (ar (.int 1))) av)) (aJ 4) (f7 rec)) bx)
  (aZ (aA bg (af 3) (mY (ag (af 1) aD)))))))
noncomputable def cO:Nat->Ht
 | 0=>λ_ _=>av
 |n+1=>bq 2 3 (oW (cO n))
noncomputable def bV:Hn Fl:=
  (Je (dE (aR (aY d_ (ag (af 0) (ag (af 2) (ag (af 1) aD)))))) (aZ (ar (.bl bo))) bx)
noncomputable def dD:Hn Fl:=
  (aM (Je (jE (dE (aR (Ju (aW "tuple") (af 0)))) (aR (aA Iv (a7 a_ (ag (af 0) aD)) (ar (.int 0))))) (aZ (ar (.bl bo))) bx)
  (aM (ka (kS iG (ag (a7 a_ (ag (af 0) aD)) aD)) (aJ 2) bV)
  (aZ (aA Iv (aY (cO 11) (ag (af 0) (ag (aA ft (a7 a_ (ag (af 0) aD)) (ar (.int 1))) aD))) (a7 fC (ag (a7 a_ (ag (af 0) aD)) aD))))))
noncomputable def gG:Ht:=bq 2 1 dD
noncomputable def cJ:Hn Fl:=
  (aM (bO 2 (aA bp (aA bw (af 1) (ar (.int 5))) (a7 a_ (ag (af 0) aD))))
  (aM (bO 3 (aA bp (af 1) (ar (.int 7))))
  (aM (Je (aR (aA Iv (af 3) (ar (.int 6)))) (aM (bO 4 (IC (af 0) (af 2)))
  (aZ (aA bg (aA bg (Kh IX (af 0) av (aa (af 2))) (lQ (ag (aA bg (Kh IX (af 4) av (aa (ar (.int 1)))) (Ju kD (Kh IX (af 4) (aa (ar (.int 1))) av))) aD))) (Kh IX (af 0) (aa (aA bg (af 2) (ar (.int 1)))) av)))) bx)
  (aM (Je (aR (aA Iv (af 3) (ar (.int 5)))) (aZ (lQ (ag (IC (af 0) (ar (.int 0))) (ag (lQ (ag (aA bp (aA bw (af 1) (ar (.int 6))) (ar (.int 3))) (ag (ar (.int 0)) (ag (ar (.int 0)) aD)))) aD)))) bx)
  (aM (Je (aR (aA Jv (af 3) (ar (.int 2)))) (aZ (aY (iw 8) (ag (af 0) (ag (aA bw (af 1) (ar (.int 5))) (ag (aA bg (ar (.int 1)) (aA bp (aA bw (af 1) (ar (.int 10))) (ar (.int 3)))) aD))))) bx)
  (aM (Je (aR (aA Iv (af 3) (ar (.int 2)))) (aM (bO 5 (aA bg (Kh IX (af 0) (aa (aA bg (af 2) (ar (.int 1)))) (aa (aA bg (af 2) (ar (.int 2))))) (Kh IX (af 0) (aa (af 2)) (aa (aA bg (af 2) (ar (.int 1)))))))
  (aZ (aA bg (aA bg (Kh IX (af 0) av (aa (af 2))) (af 5)) (Kh IX (af 0) (aa (aA bg (af 2) (ar (.int 2)))) av)))) bx)
  (aM (Je (aR (aA Iv (af 3) (ar (.int 3)))) (aZ (aA bg (aA bg (Kh IX (af 0) av (aa (af 2))) (Kh IX (af 0) (aa (af 2)) (aa (aA bg (af 2) (ar (.int 1)))))) (Kh IX (af 0) (aa (af 2)) av))) bx)
  (aZ (Kh IX (af 0) av (aa (aA bg (af 2) (ar (.int 1)))))))))))))
noncomputable def jh:Ht:=bq 2 4 cJ
noncomputable def AG:Hn Fl:=
  (aM (bO 1 (aA bg (ar (.int 1)) (aA bp (aY a9 (ag (af 0) (ag (ar (.int 0)) aD))) (ar (.int 6)))))
  (aM (bO 2 (aY lV (ag (aY a9 (ag (af 0) (ag (ar (.int 1)) aD))) (ag (af 1) aD))))
  (aM (bO 3 (aY lT (ag (aY a9 (ag (af 0) (ag (ar (.int 2)) aD))) aD)))
  (aM (bO 4 (aY pJ (ag (aY (kZ 8) (ag (aY a9 (ag (af 0) (ag (ar (.int 3)) aD))) (ag (af 3) (ag (af 1) (ag (aA bp (aY a9 (ag (af 0) (ag (ar (.int 4)) aD))) (ar (.int 6))) aD))))) (ag (af 2) aD))))
  (aM (Je (aR (aA JU (aA bp (aY a9 (ag (af 0) (ag (ar (.int 5)) aD))) (ar (.int 3))) (ar (.int 0)))) (bO 4 (aY jh (ag (af 4) (ag (aY a9 (ag (af 0) (ag (ar (.int 6)) aD))) aD)))) bx)
  (aM (Je (aR (aA Iv (aA bp (aA bw (aY a9 (ag (af 0) (ag (ar (.int 5)) aD))) (ar (.int 3))) (ar (.int 4))) (ar (.int 1)))) (bO 2 (Ju kD (af 2))) bx)
  (aZ (aY kY (ag (aY jz (ag (af 4) (ag (af 2) aD))) (ag (aY gG (ag (af 4) (ag (af 2) aD))) aD))))))))))
noncomputable def Ba:Ht:=bq 1 4 AG
noncomputable def top (i:Nat):mq:=Yn.main.body.getD i (.Pass ⟨0,0,0,0⟩)
noncomputable def Cr:mq->ae mq
 | .ClassDef _ _ _ b _ _ _ _ _ _ _=>b
 |_=>[]
noncomputable def um (i j:Nat):mq:=(Cr (top i)).getD j (.Pass ⟨0,0,0,0⟩)
abbrev zC:mq:=top 1
abbrev Hj(s:ej):=(s,NameKind.local)
abbrev Hk(s:ej):=(s,NameKind.globalImplicit)
abbrev Hm(s:ej):ej×Const:=("fast",.str s)
abbrev Hl(l:ae (ej×H5))(m:ae (ej×Const)):i0:=⟨.function,l,bo,bo,m⟩
noncomputable abbrev zf:i0:=Hl [Hj "row",Hk "len"] []
abbrev kC:mq:=top 2
noncomputable abbrev kj:i0:=Hl [Hj "row",Hk "asks"] []
abbrev n_:mq:=top 3
noncomputable abbrev nF:i0:=Hl [Hj "row",Hj "order",Hk "asks",Hk "len"] []
abbrev qp:mq:=top 4
noncomputable abbrev p8:i0:=Hl [Hj "rows",Hj "number",Hj "character",Hj "value",Hj "row"] []
abbrev me:mq:=top 6
noncomputable abbrev l0:i0:=Hl [Hj "rows",Hj "number",Hj "left",Hj "below",Hk "rows_below",Hk "leave_row"] []
abbrev iZ:mq:=top 5
noncomputable abbrev iR:i0:=Hl [Hj "rows",Hj "top",Hj "left",Hk "leave_row",Hk "list"] []
abbrev iY:mq:=top 7
noncomputable abbrev iQ:i0:=Hl [Hj "row",Hj "numbers",Hk "asks"] []
abbrev gp:mq:=top 12
noncomputable abbrev ge:i0:=Hl [Hj "thing",Hj "bound",Hk "isinstance",Hk "int",Hk "bool"] []
abbrev jK:mq:=top 13
noncomputable abbrev jF:i0:=Hl [Hj "thing",Hj "length",Hk "isinstance",Hk "tuple",Hk "len"] []
abbrev fj:mq:=top 14
noncomputable abbrev H9:i0:=Hl [Hj "text",Hk "all"] [Hm "text",Hm "sign"]
abbrev qu:mq:=top 15
noncomputable abbrev qa:i0:=Hl [Hj "thing",Hk "isinstance",Hk "str",Hk "KEPT_WORDS",Hk "len",Hk "MOST_LETTERS",Hk "has_plain_letters"] []
abbrev oh:mq:=top 16
noncomputable abbrev Jk:i0:=Hl [Hj "thing",Hk "isinstance",Hk "tuple",Hk "all",Hk "sorted",Hk "set"] [Hm "thing",Hm "part"]
abbrev qv:mq:=top 17
noncomputable abbrev qd:i0:=Hl [Hj "thing",Hk "is_tuple_of",Hk "is_names"] []
abbrev iE:mq:=top 20
noncomputable abbrev iA:i0:=Hl [Hj "thing",Hj "number",Hj "many",Hk "is_tuple_of",Hk "is_number_below"] []
abbrev tR:mq:=top 19
noncomputable abbrev tf:i0:=Hl [Hj "thing",Hj "number",Hj "many",Hk "is_leaf",Hk "is_asking_row"] []
abbrev jJ:mq:=top 21
noncomputable abbrev Iz:i0:=Hl [("fold",.cell),("row",.cell),("order",.cell),Hk "all",Hk "rows_below"] [Hm "fold",Hm "row",Hm "order",Hm "number"]
abbrev qw:mq:=top 18
noncomputable abbrev II:i0:=Hl [("thing",.cell),("order",.cell),Hk "isinstance",Hk "tuple",Hk "len",Hk "all",Hk "enumerate",Hk "set",Hk "rows_as_left",Hk "list",Hk "range"] [Hm "thing",Hm "order",Hm "number",Hm "row"]
abbrev iF:mq:=um 8 0
noncomputable abbrev iB:i0:=Hl [Hj "self",Hj "order"] []
abbrev gS:mq:=um 8 7
noncomputable abbrev Ih:i0:=Hl [("self",.cell),Hj "top",Hj "left",("numbers",.cell),Hj "place",Hj "number",Hk "rows_as_left",Hk "enumerate",Hk "tuple"] [Hm "self",Hm "top",Hm "left",Hm "numbers",Hm "place",Hm "number"]
abbrev dI:mq:=um 8 4
noncomputable abbrev HV:i0:=Hl [("self",.cell),Hj "character",Hj "no",Hj "yes",Hj "places",Hk "min"] [Hm "self",Hm "character",Hm "no",Hm "yes",Hm "number",Hm "places"]
abbrev gR:mq:=um 8 1
noncomputable abbrev gM:i0:=Hl [Hj "self",Hj "row",Hk "len"] []
abbrev eS:mq:=um 8 2
noncomputable abbrev eO:i0:=Hl [Hj "self",Hj "character",Hj "no",Hj "yes"] []
abbrev mr:mq:=um 8 3
noncomputable abbrev l_:i0:=Hl [Hj "self",Hj "number",Hj "character",Hj "value",Hk "side_of"] []
abbrev fQ:mq:=um 8 6
noncomputable abbrev fG:i0:=Hl [Hj "self",Hj "character",Hj "no",Hj "yes",Hj "first",Hj "without",Hj "having"] []
abbrev jM:mq:=um 8 5
noncomputable abbrev jG:i0:=Hl [Hj "self",Hj "character",Hj "no",Hj "yes",Hj "choice"] []
abbrev iD:mq:=top 24
noncomputable abbrev iz:i0:=Hl [Hj "rows",Hj "key",Hk "number_of_key"] []
abbrev tU:mq:=top 23
noncomputable abbrev ti:i0:=Hl [Hj "key",Hj "order",Hj "rows",Hk "Rows",Hk "number_of_key"] []
abbrev mn:mq:=top 26
noncomputable abbrev l9:i0:=Hl [Hj "_law_script",Hj "_law_k",Hk "len"] []
abbrev qt:mq:=top 27
noncomputable abbrev p_:i0:=Hl [Hj "_law_script",Hj "_law_k",Hj "_law_drawn_here",Hk "_law_cell_at"] []
abbrev qx:mq:=top 28
noncomputable abbrev qe:i0:=Hl [Hj "_law_number_here",Hj "_law_k",Hj "_law_drawn_here"] []
abbrev qo:mq:=top 29
noncomputable abbrev p7:i0:=Hl [Hj "_law_number_here",Hj "_law_letters",Hj "_law_found",Hj "_law_k",Hj "_law_drawn_here",Hj "_law_word",Hj "_law_at",Hk "range",Hk "_law_drawn",Hk "int",Hk "tuple",Hk "sorted"] []
abbrev qr:mq:=top 30
noncomputable abbrev JN:i0:=Hl [("_law_number_here",.cell),Hj "_law_words_here",Hk "tuple",Hk "enumerate"] [Hm "_law_number_here",Hm "_law_words_here",Hm "_law_k",Hm "_law_word"]
abbrev xi:mq:=top 31
noncomputable abbrev wX:i0:=Hl [Hj "_law_number_here",Hj "_law_words_here",Hj "_law_many",Hj "_law_deep",Hj "_law_no",Hj "_law_yes",Hk "_law_names",Hk "_law_key",Hk "_law_drawn"] []
abbrev qq:mq:=top 32
noncomputable abbrev p9:i0:=Hl [Hj "_law_number_here",Hj "_law_many",Hj "_law_found",Hj "_law_k",Hj "_law_at",Hk "range",Hk "_law_drawn",Hk "len",Hk "tuple"] []
abbrev oa:mq:=top 36
noncomputable abbrev nG:i0:=Hl [Hj "_law_thing",Hj "_law_high",Hk "isinstance",Hk "int",Hk "bool"] []
abbrev jL:mq:=top 37
noncomputable abbrev IA:i0:=Hl [Hj "_law_thing",Hj "_law_k",Hj "_law_part",Hk "isinstance",Hk "tuple",Hk "enumerate",Hk "str",Hk "len"] [Hm "_law_thing",Hm "_law_k",Hm "_law_part",Hm "_law_sign"]
abbrev tP:mq:=top 39
noncomputable abbrev s_:i0:=Hl [Hj "_law_found",Hj "_law_due",Hk "isinstance",Hk "bool"] []
abbrev xh:mq:=top 40
noncomputable abbrev wW:i0:=Hl [Hj "_law_number_here",Hj "_law_some"] []
abbrev n9:mq:=top 41
noncomputable abbrev nE:i0:=Hl [Hj "_law_thing",Hj "_law_number_here",Hj "_law_deep",Hj "_law_at",Hj "_law_part",Hk "isinstance",Hk "tuple",Hk "len",Hk "_law_spoilt",Hk "list",Hk "int",Hk "str",Hk "_law_odd"] []
abbrev og:mq:=top 42
noncomputable abbrev Jl:i0:=Hl [("_law_fold",.cell),Hj "_law_at",Hj "_law_order_here",Hj "_law_row",("_law_behind",.cell),Hk "isinstance",Hk "tuple",Hk "len",Hk "str",Hk "_law_are_names",Hk "_law_number",Hk "list"] [Hm "_law_fold",Hm "_law_at",Hm "_law_order_here",Hm "_law_row",Hm "_law_behind",Hm "_law_goal"]
abbrev tQ:mq:=top 43
noncomputable abbrev J6:i0:=Hl [Hj "_law_fold",Hj "_law_at",Hj "_law_row",("_law_found",.cell),Hj "_law_goal",Hk "_law_left"] [Hm "_law_fold",Hm "_law_at",Hm "_law_row",Hm "_law_found",Hm "_law_goal",Hm "_law_one"]
abbrev mh:mq:=top 44
noncomputable abbrev l7:i0:=Hl [Hj "_law_fold",Hj "_law_order_here",Hj "_law_at",Hk "isinstance",Hk "tuple",Hk "len",Hk "range",Hk "_law_is_row",Hk "_law_left",Hk "list"] []
abbrev mj:mq:=top 45
noncomputable abbrev l8:i0:=Hl [Hj "_law_fold",Hj "_law_number_here",Hj "_law_at",Hj "_law_kind",Hj "_law_row",Hj "_law_turned_two",Hk "len",Hk "_law_spoilt"] []
abbrev zB:mq:=top 46
noncomputable abbrev CK:i0:=Hl [Hj "_law_script",Hj "_law_many",Hj "_law_order_here",Hj "_law_words_here",Hj "_law_fold",Hk "_law_mixed",Hk "_law_order",Hk "_law_words",Hk "folded",Hk "_law_key",Hk "_law_changed",Hk "_law_same",Hk "is_fold",Hk "_law_is_fold"] []
set_option hygiene false in
local macro_rules|`(tactic|and_intros)=>`(tactic|(have hu:=bf hr;have HM:=bc hr;have Ir:=bd hr;have IT:=hr.gd))
set_option hygiene false in
local macro_rules|`(tactic|nofun)=>`(tactic|exact ⟨rfl,rfl,rfl,by decide,rfl,by decide,by decide⟩)
set_option hygiene false in
local macro_rules|`(tactic|exists $z)=>`(tactic|exact(show ∀ y∈(_:List (Str×NameKind)),y.2=NameKind.free->List.lookup y.1 ($z).names=some NameKind.cell∨List.lookup y.1 ($z).names=some NameKind.free from by decide))
set_option hygiene false in
local macro_rules|`(tactic|exists $z,$n)=>`(tactic|exact(show ∀ t∈(($z):List Nat),List.lookup ((($n):List Str).getD t Str.empty) _=some NameKind.free from by decide))
set_option hygiene false in
local macro_rules|`(tactic|symm)=>`(tactic|exact hr.mono (by omega))
set_option hygiene false in
local macro_rules|`(!$n:num)=>`(ab (i:=$n))
structure Top (K:Ho) (mg:Hs):Prop where
 PU:bv K mg "asks" zC ["row"]
 LN:bv K mg "rows_below" kC ["row"]
 My:bv K mg "place_of" n_ ["row","order"]
 M7:bv K mg "side_of" qp ["rows","number","character","value"]
 Ko:bv K mg "leave_row" me ["rows","number","left"]
 KS:bv K mg "rows_as_left" iZ ["rows","top"]
 KU:bv K mg "with_numbers" iY ["row","numbers"]
 J9:bv K mg "is_number_below" gp ["thing","bound"]
 Le:bv K mg "is_tuple_of" jK ["thing","length"]
 JQ:bv K mg "has_plain_letters" fj ["text"]
 M8:bv K mg "is_name" qu ["thing"]
 Mz:bv K mg "is_names" oh ["thing"]
 M9:bv K mg "is_leaf" qv ["thing"]
 KA:bv K mg "is_asking_row" iE ["thing","number","many"]
 NS:bv K mg "is_row" tR ["thing","number","many"]
 Lf:bv K mg "keeps_order" jJ ["fold","row","order"]
 M_:bv K mg "is_fold" qw ["thing","order"]
 KC:EB K mg "Rows" "Rows.__init__" iF ["self","order"]
 Kj:MethAt K "Rows" "fold_from" "Rows.fold_from" gS ["self","top"]
 Jm:MethAt K "Rows" "first_character" "Rows.first_character" dI ["self","character","no","yes"]
 Kk:MethAt K "Rows" "number_of" "Rows.number_of" gR ["self","row"]
 JF:MethAt K "Rows" "number_of_ask" "Rows.number_of_ask" eS ["self","character","no","yes"]
 L3:MethAt K "Rows" "side" "Rows.side" mr ["self","number","character","value"]
 JY:MethAt K "Rows" "choose_anew" "Rows.choose_anew" fQ ["self","character","no","yes"]
 JV:MethAt K "Rows" "choose" "Rows.choose" jM ["self","character","no","yes"]
 Jo:bv K mg "number_of_key" iD ["rows","key"]
 NT:bv K mg "folded" tU ["key","order"]
 L4:bv K mg "_law_cell_at" mn ["_law_script","_law_k"]
 Na:bv K mg "_law_mixed" qt ["_law_script","_law_k"]
 Nb:bv K mg "_law_drawn" qx ["_law_number_here","_law_k"]
 Nc:bv K mg "_law_words" qo ["_law_number_here"]
 Nd:bv K mg "_law_names" qr ["_law_number_here","_law_words_here"]
 MP:bv K mg "_law_key" xi ["_law_number_here","_law_words_here","_law_many","_law_deep"]
 Nf:bv K mg "_law_order" qq ["_law_number_here","_law_many"]
 MA:bv K mg "_law_number" oa ["_law_thing","_law_high"]
 Lg:bv K mg "_law_are_names" jL ["_law_thing"]
 NU:bv K mg "_law_same" tP ["_law_found","_law_due"]
 OF:bv K mg "_law_odd" xh ["_law_number_here"]
 KW:bv K mg "_law_spoilt" n9 ["_law_thing","_law_number_here","_law_deep"]
 MB:bv K mg "_law_is_row" og ["_law_fold","_law_at","_law_order_here"]
 L5:bv K mg "_law_left" tQ ["_law_fold","_law_at"]
 L6:bv K mg "_law_is_fold" mh ["_law_fold","_law_order_here"]
 L7:bv K mg "_law_changed" mj ["_law_fold","_law_number_here"]
 Rw:bv K mg "law" zB ["_law_script"]
 H_:mg "len"=av
 KY:mg "list"=av
 HB:mg "isinstance"=av
 MQ:mg "int"=av
 MC:mg "bool"=av
 Ii:mg "tuple"=av
 L8:mg "all"=av
 L9:mg "str"=av
 L_:mg "sorted"=av
 O2:mg "set"=av
 IS:mg "enumerate"=av
 JO:mg "range"=av
 Rx:mg "min"=av
 LO:A8 K mg "KEPT_WORDS" (D.tup [(D.str "names"),(D.str "ask"),(D.str "end")])
 KZ:A8 K mg "MOST_LETTERS" (D.int 8)
 IE:mP K "Rows" "order"
 HQ:mP K "Rows" "gathered"
 Ip:mP K "Rows" "numbers"
 Iq:mP K "Rows" "choices"
section
variable {P:ew}{w:hB}{K:Ho}{mg:Hs}{base:j0}
theorem Bc:aB zC=zf:=rfl
theorem MR:Hx ["row"] ["row"] zf:=by nofun
theorem pq (T:Top K mg):Jn P w K mg base 1 "asks" ["row"] pK:=
 a8 T.PU Bc MR (λf HR A outer s H E hr=>by
 rw[1];have nd:=MR.nd
 exact(au (aE (dG (bL hu) (aH bG T.H_ bA (ac (!0) ai)) ah))))
theorem pN:aB kC=kj:=rfl
theorem JW:Hx ["row"] ["row"] kj:=by nofun
theorem jb (T:Top K mg):Jn P w K mg base 2 "rows_below" ["row"] bS:=
 a8 T.LN pN JW (λf HR A outer s H E hr=>by
 rw[1];have nd:=JW.nd
 exact(au (aE (lA (bI (aF (pq T) #[5] (ac (!0) ai))) (cw Kz (!0) ah m7) (eU ai)))))
theorem sX:aB n_=nF:=rfl
theorem Kp:Hx ["row","order"] ["row","order"] nF:=by nofun
theorem io (T:Top K mg):Jn P w K mg base 2 "place_of" ["row","order"] d9:=
 a8 T.My sX Kp (λf HR A outer s H E hr=>by
 rw[1];have nd:=Kp.nd
 exact(au (aE (lA (bI (aF (pq T) #[5] (ac (!0) ai))) (qH rfl (!1) (aI HM (!0) ah)) (aH bG T.H_ bA (ac (!1) ai))))))
theorem vg:aB qp=p8:=rfl
theorem K0:Hx ["rows","number","character","value","row"] ["rows","number","character","value"] p8:=by nofun
theorem uU (T:Top K mg):Jn P w K mg base 1 "side_of" ["rows","number","character","value"] lU:=
 a8 T.M7 vg K0 (λf HR A outer s H E hr=>by
 rw[1];have nd:=K0.nd
 exact(ao (aS (i:=4) nd (xf (!0) (!1)))
  (au (aE (lA (aX (bL hu) (aI HM (!4) ah) (!2)) (aI HM (!4) (ap aK ah (!3))) (!1))))))
theorem rC:aB me=l0:=rfl
theorem J_:Hx ["rows","number","left","below"] ["rows","number","left"] l0:=by nofun
theorem jT (T:Top K mg):∀ n:Nat,Jn P w K mg base (n+2) "leave_row" ["rows","number","left"] (aP n)
 | 0=>ja T.Ko
 |n+1=>by
  have JR:=jT T n
  exact a8 T.Ko rC J_ (λf HR A outer s H E hr=>by
   rw[1];have nd:=J_.nd
   exact(ao (iX E1 rfl (fL (aF (jb T) #[5] (ac (xf (!0) (!1)) ai))) (bt (i:=3) nd) (au (bC (lh hu HM Ir (!3) (!2)) (au (rN (aF JR #[5] (ac (!0) (ac (!3) (ac (!2) ai)))))) aN)))
    (au (vF HM (!2) (!1) dH))))
theorem mR:aB iZ=iR:=rfl
theorem Jp:Hx ["rows","top","left"] ["rows","top"] iR:=by nofun
theorem g7 (T:Top K mg):Jn P w K mg base 13 "rows_as_left" ["rows","top"] cN:=
 a8 T.KS mR Jp (λf HR A outer s H E hr=>by
 rw[1];have nd:=Jp.nd
 exact(ao (aS (i:=2) nd rS)
  (ao (rN (aF (jT T 10) #[5] (ac (!0) (ac (!1) (ac (!2) ai)))))
  (au (aE (tN HM T.KY (!2)))))))
theorem mQ:aB iY=iQ:=rfl
theorem Jr:Hx ["row","numbers"] ["row","numbers"] iQ:=by nofun
theorem lP (T:Top K mg):Jn P w K mg base 2 "with_numbers" ["row","numbers"] f8:=
 a8 T.KU mQ Jr (λf HR A outer s H E hr=>by
 rw[1];have nd:=Jr.nd
 exact(au (aE (lA (bI (aF (pq T) #[5] (ac (!0) ai))) (eU (ac (aI HM (!0) ah) (ac (aI HM (!1) (aI HM (!0) ah)) (ac (aI HM (!1) (aI HM (!0) ah)) ai)))) (!0)))))
theorem jV:aB gp=ge:=rfl
theorem IL:Hx ["thing","bound"] ["thing","bound"] ge:=by nofun
theorem cU (T:Top K mg):Jn P w K mg base 1 "is_number_below" ["thing","bound"] bT:=
 a8 T.J9 jV IL (λf HR A outer s H E hr=>by
 rw[1];have nd:=IL.nd
 exact(au (aE (dU (cD sj rfl T.HB T.MQ sR (!0)) (dU (zA (cD oM rfl T.HB T.MC sS (!0))) (hX (kB ow kF ah (!0) (!1))))))))
theorem nz:aB jK=jF:=rfl
theorem JG:Hx ["thing","length"] ["thing","length"] jF:=by nofun
theorem iI (T:Top K mg):Jn P w K mg base 1 "is_tuple_of" ["thing","length"] eK:=
 a8 T.Le nz JG (λf HR A outer s H E hr=>by
 rw[1];have nd:=JG.nd
 exact(au (aE (dU (cD kit_tuple rfl T.HB T.Ii b_ (!0)) (hX (dG (bL hu) (aH bG T.H_ bA (ac (!0) ai)) (!1)))))))
theorem iP:aB fj=H9:=rfl
theorem IB:Hx ["text"] ["text"] H9:=by nofun
theorem iO (T:Top K mg):Jn P w K mg base 1 "has_plain_letters" ["text"] cV:=
 a8 T.JQ iP IB (λf HR A outer s H E hr=>by
 rw[1];have nd:=IB.nd
 exact(au (aE (aH (ph rfl) T.L8 pE (ac (eB (ts:=["sign"]) (ix:=[]) rfl ⟨rfl,#[4],#[4],by exists H9⟩ (by exists [],["text"]) (fL (!0)) (λ_ _ _ _ _=>⟨(bt (i:=0) (show (["sign"]:ae ej).Nodup from #[4])),hV,(kB ow ow dg (!0) dg)⟩)) ai)))))
theorem vk:aB qu=qa:=rfl
theorem K1:Hx ["thing"] ["thing"] qa:=by nofun
theorem uX (T:Top K mg):Jn P w K mg base 2 "is_name" ["thing"] lY:=
 a8 T.M8 vk K1 (λf HR A outer s H E hr=>by
 rw[1];have nd:=K1.nd
 exact(ao (bC (bP (gg (cC (bI (cD nh rfl T.HB T.L9 pD (!0)))) (fJ (vz hu HM Ir (!0) (zz T.LO))))) (au (aE dH)) aN)
  (au (aE (dU (kB ow ow ah (aH bG T.H_ bA (ac (!0) ai)) (zz T.KZ)) (hX (aF (iO T) #[5] (ac (!0) ai))))))))
theorem s9:aB oh=Jk:=rfl
theorem Kq:Hx ["thing"] ["thing"] Jk:=by nofun
theorem sP (T:Top K mg):Jn P w K mg base 3 "is_names" ["thing"] kg:=
 a8 T.Mz s9 Kq (λf HR A outer s H E hr=>by
 rw[1];have nd:=Kq.nd
 exact(ao (bC (bP (gg (cC (bI (cD kit_tuple rfl T.HB T.Ii b_ (!0)))) (fJ (cC (bI (aH (ph rfl) T.L8 pE (ac (eB (ts:=["part"]) (ix:=[]) rfl ⟨rfl,#[4],#[4],by exists Jk⟩ (by exists [],["thing"]) (fL (!0)) (λ_ _ _ _ _=>⟨(bt (i:=0) (show (["part"]:ae ej).Nodup from #[4])),hV,(aF (uX T) #[5] (ac (!0) ai))⟩)) ai))))))) (au (aE dH)) aN)
  (au (aE (dG (bL hu) (!0) (cQ pf T.Ii b_ (ac (rQ rfl rfl rfl T.L_ T.O2 (!0)) ai)))))))
theorem vm:aB qv=qd:=rfl
theorem K2:Hx ["thing"] ["thing"] qd:=by nofun
theorem uY (T:Top K mg):Jn P w K mg base 4 "is_leaf" ["thing"] lZ:=
 a8 T.M9 vm K2 (λf HR A outer s H E hr=>by
 rw[1];have nd:=K2.nd
 exact(au (aE (dU (aF (iI T) #[5] (ac (!0) (ac ah ai))) (dU (dG (bL hu) (aI HM (!0) ah) dg) (hX (aF (sP T) #[5] (ac (aI HM (!0) ah) ai))))))))
theorem k8:aB iE=iA:=rfl
theorem Jb:Hx ["thing","number","many"] ["thing","number","many"] iA:=by nofun
theorem kQ (T:Top K mg):Jn P w K mg base 2 "is_asking_row" ["thing","number","many"] fg:=
 a8 T.KA k8 Jb (λf HR A outer s H E hr=>by
 rw[1];have nd:=Jb.nd
 exact(ao (bC (bP (gg (cC (bI (aF (iI T) #[5] (ac (!0) (ac ah ai))))) (fJ (cC (bI (aF (cU T) #[5] (ac (aI HM (!0) ah) (ac (!2) ai)))))))) (au (aE dH)) aN)
  (au (aE (dU (aF (cU T) #[5] (ac (aI HM (!0) ah) (ac (!1) ai))) (dU (aF (cU T) #[5] (ac (aI HM (!0) ah) (ac (!1) ai))) (hX (dG (ua hu) (aI HM (!0) ah) (aI HM (!0) ah)))))))))
theorem xX:aB tR=tf:=rfl
theorem Lp:Hx ["thing","number","many"] ["thing","number","many"] tf:=by nofun
theorem wL (T:Top K mg):Jn P w K mg base 5 "is_row" ["thing","number","many"] pI:=
 a8 T.NS xX Lp (λf HR A outer s H E hr=>by
 rw[1];have nd:=Lp.nd
 exact(au (aE (EV (aF (uY T) #[5] (ac (!0) ai)) (hX (aF (kQ T) #[5] (ac (!0) (ac (!1) (ac (!2) ai)))))))))
theorem ny:aB jJ=Iz:=rfl
theorem JH:Hx ["fold","row","order"] ["fold","row","order"] Iz:=by nofun
theorem mW (T:Top K mg):Jn P w K mg base 3 "keeps_order" ["fold","row","order"] gJ:=
 a8 T.Lf ny JH (λf HR A outer s H E hr=>by
 rw[1];have nd:=JH.nd
 exact(au (aE (aH (ph rfl) T.L8 pE (ac (eB (ts:=["number"]) (ix:=[1,2,0]) rfl ⟨rfl,#[4],#[4],by exists Iz⟩ (by exists [1,2,0],["fold","row","order"]) (fL (aF (jb T) #[5] (ac (!1) ai))) (λ_ _ _ _ _=>⟨(bt (i:=0) (show (["number","row","order","fold"]:ae ej).Nodup from #[4])),hV,(dG kF (aF (io T) #[5] (ac (!1) (ac (!2) ai))) (aF (io T) #[5] (ac (aI HM (!3) (!0)) (ac (!2) ai))))⟩)) ai)))))
theorem vn:aB qw=II:=rfl
theorem K3:Hx ["thing","order"] ["thing","order"] II:=by nofun
theorem uZ (T:Top K mg):Jn P w K mg base 14 "is_fold" ["thing","order"] jz:=
 a8 T.M_ vn K3 (λf HR A outer s H E hr=>by
 rw[1];have nd:=K3.nd
 exact(ao (bC (bP (gg (cC (bI (cD kit_tuple rfl T.HB T.Ii b_ (!0)))) (fJ (aX (bL hu) (aH bG T.H_ bA (ac (!0) ai)) ah)))) (au (aE dH)) aN)
  (ao (bC (cC (bI (aH (ph rfl) T.L8 pE (ac (eB (ts:=["number","row"]) (ix:=[1]) rfl ⟨rfl,#[4],#[4],by exists II⟩ (by exists [1],["thing","order"]) (m8 rfl T.IS (ac (!0) ai)) (λ_ _ _ _ _=>⟨(rP rfl (eQ (bt (i:=0) (show (["number","row","order"]:ae ej).Nodup from #[4])) (eQ (bt (i:=1) (show (["number","row","order"]:ae ej).Nodup from #[4])) m9))),hV,(aF (wL T) #[5] (ac (!1) (ac (!0) (ac (aH bG T.H_ bA (ac (!2) ai)) ai))))⟩)) ai)))) (au (aE dH)) aN)
  (ao (bC (bP (gg (aX kF (vL rfl rfl rfl hu T.H_ T.O2 (!0)) (aH bG T.H_ bA (ac (!0) ai))) (fJ (cC (bI (aH (ph rfl) T.L8 pE (ac (eB (ts:=["row"]) (ix:=[0,1]) rfl ⟨rfl,#[4],#[4],by exists II⟩ (by exists [0,1],["thing","order"]) (fL (!0)) (λ_ _ _ _ _=>⟨(bt (i:=0) (show (["row","thing","order"]:ae ej).Nodup from #[4])),hV,(aF (mW T) #[5] (ac (!1) (ac (!0) (ac (!2) ai))))⟩)) ai))))))) (au (aE dH)) aN)
  (au (aE (dG (bL hu) (aF (g7 T) #[5] (ac (!0) (ac (ap h_ (aH bG T.H_ bA (ac (!0) ai)) ah) ai))) (jI rfl rfl rfl T.KY T.JO (ac (aH bG T.H_ bA (ac (!0) ai)) ai)))))))))
theorem k9:aB iF=iB:=rfl
theorem Jc:Hx ["self","order"] ["self","order"] iB:=by nofun
theorem kR (T:Top K mg):EF P w K mg base 1 "Rows" ["self","order"] cz:=
 Cv T.KC k9 Jc (λf HR A outer s H E hr=>by
 rw[1];have nd:=Jc.nd
 exact(ao (rM T.IE (!0) (!1))
  (ao (rM T.HQ (!0) Bq)
  (ao (rM T.Ip (!0) xc)
  (au (rM T.Iq (!0) xc))))))
theorem ki:aB gS=Ih:=rfl
theorem IU:Hx ["self","top","left","numbers","place","number"] ["self","top"] Ih:=by nofun
theorem j_ (T:Top K mg):pM P w K mg base 14 "Rows" "fold_from" ["self","top"] eA:=
 iq T.Kj ki IU (λf HR A outer s H E hr=>by
 rw[1];have nd:=IU.nd
 exact(ao (aS (i:=2) nd (aF (g7 T) #[5] (ac (dh T.HQ (!0)) (ac (!1) ai))))
  (ao (aS (i:=3) nd rS)
  (ao (iX E1 rfl (zt rfl T.IS (ac (!2) ai)) (rP rfl (eQ (bt (i:=4) nd) (eQ (bt (i:=5) nd) m9))) (au (vF HM (!3) (!5) (!4))))
  (au (aE (cQ pf T.Ii b_ (ac (eB (ts:=["number"]) (ix:=[3,0]) rfl ⟨rfl,#[4],#[4],by exists Ih⟩ (by exists [3,0],["self","top","left","numbers","place","number"]) (fL (!2)) (λ_ _ _ _ _=>⟨(bt (i:=0) (show (["number","numbers","self"]:ae ej).Nodup from #[4])),hV,(aF (lP T) #[5] (ac (vM (dh T.HQ (!2)) (!0)) (ac (!1) ai)))⟩)) ai))))))))
theorem gL:aB dI=HV:=rfl
theorem Il:Hx ["self","character","no","yes","places"] ["self","character","no","yes"] HV:=by nofun
theorem gI (T:Top K mg):pM P w K mg base 3 "Rows" "first_character" ["self","character","no","yes"] cu:=
 iq T.Jm gL Il (λf HR A outer s H E hr=>by
 rw[1];have nd:=Il.nd
 exact(ao (vE (ts:=["number"]) (ix:=[0]) (i:=4) nd rfl ⟨rfl,#[4],#[4],by exists HV⟩ (by exists [0],["self","character","no","yes","places"]) (fL (eU (ac (!2) (ac (!3) ai)))) (λ_ _ _ _ _=>⟨(bt (i:=0) (show (["number","self"]:ae ej).Nodup from #[4])),hV,(aF (io T) #[5] (ac (vM (dh T.HQ (!1)) (!0)) (ac (dh T.IE (!1)) ai)))⟩))
  (au (aE (aI HM (dh T.IE (!0)) (aH (Cu rfl) T.Rx Es (ac (ap aK (!4) (fN (ac (qH rfl (dh T.IE (!0)) (!1)) ai))) ai)))))))
theorem kh:aB gR=gM:=rfl
theorem IV:Hx ["self","row"] ["self","row"] gM:=by nofun
theorem fZ (T:Top K mg):pM P w K mg base 1 "Rows" "number_of" ["self","row"] ca:=
 iq T.Kk kh IV (λf HR A outer s H E hr=>by
 rw[1];have nd:=IV.nd
 exact(ao (bC (qh hu (!1) (dh T.Ip (!0))) (ao (w9 hu (dh T.Ip (!0)) (!1) (Bs T.H_ (dh T.HQ (!0))))
  (au (rN (Dm rfl (dh T.HQ (!0)) (!1))))) aN)
  (au (aE (xb hu (dh T.Ip (!0)) (!1))))))
theorem iK:aB eS=eO:=rfl
theorem Iu:Hx ["self","character","no","yes"] ["self","character","no","yes"] eO:=by nofun
theorem dQ (T:Top K mg):pM P w K mg base 2 "Rows" "number_of_ask" ["self","character","no","yes"] bU:=
 iq T.JF iK Iu (λf HR A outer s H E hr=>by
 rw[1];have nd:=Iu.nd
 exact(au (aE (lA (aX (bL hu) (!2) (!3)) (!2) (bY (fZ T) #[5] (!0) (ac (eU (ac (!1) (ac (!2) (ac (!3) ai)))) ai))))))
theorem rH:aB mr=l_:=rfl
theorem Ka:Hx ["self","number","character","value"] ["self","number","character","value"] l_:=by nofun
theorem cB (T:Top K mg):pM P w K mg base 2 "Rows" "side" ["self","number","character","value"] ck:=
 iq T.L3 rH Ka (λf HR A outer s H E hr=>by
 rw[1];have nd:=Ka.nd
 exact(au (aE (aF (uU T) #[5] (ac (dh T.HQ (!0)) (ac (!1) (ac (!2) (ac (!3) ai))))))))
theorem jA:aB fQ=fG:=rfl
theorem ID:Hx ["self","character","no","yes","first","without","having"] ["self","character","no","yes"] fG:=by nofun
theorem jc (T:Top K mg){n:Nat}{rec:Ht}(JR:pM P w K mg base (n*2+3) "Rows" "choose" ["self","character","no","yes"] rec):pM P w K mg base (n*2+4) "Rows" "choose_anew" ["self","character","no","yes"] (dB rec):=by
 rw[show n*2+4=(n*2+3)+1 from #[2]]
 exact iq T.JY jA ID (λf HR A outer s H E hr=>by
 rw[1];have nd:=ID.nd
 exact(ao (aS (i:=4) nd (bY (gI T) #[5] (!0) (ac (!1) (ac (!2) (ac (!3) ai)))))
  (ao (bC (aX (bL hu) (!4) (!1)) (au (aE (bY (dQ T) #[5] (!0) (ac (!1) (ac (bY (cB T) #[5] (!0) (ac (!2) (ac (!1) (ac ah ai)))) (ac (bY (cB T) #[5] (!0) (ac (!3) (ac (!1) (ac ah ai)))) ai)))))) aN)
  (ao (aS (i:=5) nd (bY JR #[5] (!0) (ac (!1) (ac (bY (cB T) #[5] (!0) (ac (!2) (ac (!4) (ac ah ai)))) (ac (bY (cB T) #[5] (!0) (ac (!3) (ac (!4) (ac ah ai)))) ai)))))
  (ao (aS (i:=6) nd (bY JR #[5] (!0) (ac (!1) (ac (bY (cB T) #[5] (!0) (ac (!2) (ac (!4) (ac ah ai)))) (ac (bY (cB T) #[5] (!0) (ac (!3) (ac (!4) (ac ah ai)))) ai)))))
  (au (aE (bY (dQ T) #[5] (!0) (ac (!4) (ac (!5) (ac (!6) ai)))))))))))
theorem nB:aB jM=jG:=rfl
theorem JI:Hx ["self","character","no","yes","choice"] ["self","character","no","yes"] jG:=by nofun
theorem iJ (T:Top K mg):∀ n:Nat,pM P w K mg base (n*2+3) "Rows" "choose" ["self","character","no","yes"] (eN n)
 | 0=>y8 T.JV
 |n+1=>by
  have JR:=iJ T n;rw[show (n+1)*2+3=(n*2+4)+1 from #[2]]
  exact iq T.JV nB JI (λf HR A outer s H E hr=>by
   rw[1];have nd:=JI.nd
   exact(ao (aS (i:=4) nd (eU (ac (!1) (ac (!2) (ac (!3) ai)))))
    (ao (bC (qh hu (!4) (dh T.Iq (!0))) (au (w9 hu (dh T.Iq (!0)) (!4) (lA (aX (bL hu) (!2) (!3)) (!2) (bY (jc T JR) #[5] (!0) (ac (!1) (ac (!2) (ac (!3) ai))))))) aN)
    (au (aE (xb hu (dh T.Iq (!0)) (!4)))))))
theorem k7:aB iD=iz:=rfl
theorem Jd:Hx ["rows","key"] ["rows","key"] iz:=by nofun
theorem gA (T:Top K mg):∀ n:Nat,Jn P w K mg base (n+21) "number_of_key" ["rows","key"] (df n)
 | 0=>ja T.Jo
 |n+1=>by
  have JR:=gA T n
  exact a8 T.Jo k7 Jd (λf HR A outer s H E hr=>by
   rw[1];have nd:=Jd.nd
   exact(ao (bC (aX (bL hu) (aI HM (!1) ah) dg) (au (aE (bY (fZ T) #[5] (!0) (ac (!1) ai)))) aN)
    (au (aE (bY (iJ T 9) #[5] (!0) (ac (aI HM (!1) ah) (ac (aF JR #[5] (ac (!0) (ac (aI HM (!1) ah) ai))) (ac (aF JR #[5] (ac (!0) (ac (aI HM (!1) ah) ai))) ai))))))))
theorem xY:aB tU=ti:=rfl
theorem Lq:Hx ["key","order","rows"] ["key","order"] ti:=by nofun
theorem wM (T:Top K mg):Jn P w K mg base 37 "folded" ["key","order"] pJ:=
 a8 T.NT xY Lq (λf HR A outer s H E hr=>by
 rw[1];have nd:=Lq.nd
 exact(ao (aS (i:=2) nd (Br (kR T) #[5] (ac (!1) ai)))
  (au (aE (bY (j_ T) #[5] (!2) (ac (aF (gA T 15) #[5] (ac (!2) (ac (!0) ai))) ai))))))
theorem rG:aB mn=l9:=rfl
theorem Kb:Hx ["_law_script","_law_k"] ["_law_script","_law_k"] l9:=by nofun
theorem pY (T:Top K mg):Jn P w K mg base 1 "_law_cell_at" ["_law_script","_law_k"] ji:=
 a8 T.L4 rG Kb (λf HR A outer s H E hr=>by
 rw[1];have nd:=Kb.nd
 exact(ao (bC (aX kF (!1) (aH bG T.H_ bA (ac (!0) ai))) (au (aE (aI HM (!0) (!1)))) aN)
  (au (aE ah))))
theorem vj:aB qt=p_:=rfl
theorem K4:Hx ["_law_script","_law_k","_law_drawn_here"] ["_law_script","_law_k"] p_:=by nofun
theorem cg (T:Top K mg):Jn P w K mg base 2 "_law_mixed" ["_law_script","_law_k"] a9:=
 a8 T.Na vj K4 (λf HR A outer s H E hr=>by
 rw[1];have nd:=K4.nd
 exact(ao (aS (i:=2) nd (ap bu (ap dj (ap aK (ap aK (aF (pY T) #[5] (ac (!0) (ac (!1) ai))) (ap dj ah (!1))) ah) ah) ah))
  (au (aE (ap bu (ap aK (ap aK (ap dj (!2) (!2)) (ap dj ah (!2))) (!1)) ah)))))
theorem vo:aB qx=qe:=rfl
theorem K5:Hx ["_law_number_here","_law_k","_law_drawn_here"] ["_law_number_here","_law_k"] qe:=by nofun
theorem gB (T:Top K mg):Jn P w K mg base 1 "_law_drawn" ["_law_number_here","_law_k"] fF:=
 a8 T.Nb vo K5 (λf HR A outer s H E hr=>by
 rw[1];have nd:=K5.nd
 exact(ao (aS (i:=2) nd (ap bu (ap dj (ap aK (ap aK (!0) (ap dj ah (!1))) ah) ah) ah))
  (au (aE (ap bu (ap aK (ap aK (ap dj (!2) (!2)) (ap dj ah (!2))) (!1)) ah)))))
theorem vf:aB qo=p7:=rfl
theorem K6:Hx ["_law_number_here","_law_letters","_law_found","_law_k","_law_drawn_here","_law_word","_law_at"] ["_law_number_here"] p7:=by nofun
theorem uS (T:Top K mg):Jn P w K mg base 2 "_law_words" ["_law_number_here"] lT:=
 a8 T.Nc vf K6 (λf HR A outer s H E hr=>by
 rw[1];have nd:=K6.nd
 exact(ao (aS (i:=1) nd dg)
  (ao (aS (i:=2) nd rS)
  (ao (iX E1 rfl (jo rfl T.JO (ac ah ai)) (bt (i:=3) nd) (ao (aS (i:=4) nd (aF (gB T) #[5] (ac (!0) (ac (!3) ai))))
  (ao (aS (i:=5) nd (aI HM (!1) (ap bu (!4) ah)))
  (ao (iX E1 rfl (jo rfl T.JO (ac (ap dj (ap bu (ap bE (!4) ah) ah) (ap bu (!0) ah)) ai)) (bt (i:=6) nd) (au (aS (i:=5) nd (ap aK (!5) (aI HM (!1) (ap bu (ap bE (!4) (ap aK (ap dj ah (!6)) ah)) ah))))))
  (au (vF HM (!2) (ap aK (!5) (ap dj dg (cQ Ei T.MQ sR (ac (Dk hu HM Ir (!5) (lw (.tup (.cons (.str ⟨#[4],#[4]⟩) (.cons (.str ⟨#[4],#[4]⟩) (.cons (.str ⟨#[4],#[4]⟩) .nil))) #[1]))) ai)))) dH))))))
  (au (aE (cQ pf T.Ii b_ (ac (Bp rfl rfl T.L_ (!2)) ai))))))))
theorem vi:aB qr=JN:=rfl
theorem K7:Hx ["_law_number_here","_law_words_here"] ["_law_number_here","_law_words_here"] JN:=by nofun
theorem uW (T:Top K mg):Jn P w K mg base 1 "_law_names" ["_law_number_here","_law_words_here"] lW:=
 a8 T.Nd vi K7 (λf HR A outer s H E hr=>by
 rw[1];have nd:=K7.nd
 exact(au (aE (cQ pf T.Ii b_ (ac (eB (ts:=["_law_k","_law_word"]) (ix:=[0]) rfl ⟨rfl,#[4],#[4],by exists JN⟩ (by exists [0],["_law_number_here","_law_words_here"]) (m8 rfl T.IS (ac (!1) ai)) (λ_ _ _ _ _=>⟨(rP rfl (eQ (bt (i:=0) (show (["_law_k","_law_word","_law_number_here"]:ae ej).Nodup from #[4])) (eQ (bt (i:=1) (show (["_law_k","_law_word","_law_number_here"]:ae ej).Nodup from #[4])) m9))),(m5 (aX (bL hu) (ap bu (ap bE (!2) (ap aK (ap dj ah (!0)) ah)) ah) ah)),(!1)⟩)) ai)))))
theorem ze:aB xi=wX:=rfl
theorem Ma:Hx ["_law_number_here","_law_words_here","_law_many","_law_deep","_law_no","_law_yes"] ["_law_number_here","_law_words_here","_law_many","_law_deep"] wX:=by nofun
theorem rf (T:Top K mg):∀ n:Nat,Jn P w K mg base (n+1) "_law_key" ["_law_number_here","_law_words_here","_law_many","_law_deep"] (kZ n)
 | 0=>ja T.MP
 |n+1=>by
  have JR:=rf T n
  exact a8 T.MP ze Ma (λf HR A outer s H E hr=>by
   rw[1];have nd:=Ma.nd
   exact(ao (bC (bP (gg (aX (bL hu) (!3) ah) (fJ (aX (bL hu) (ap bu (!0) ah) ah)))) (au (aE (eU (ac dg (ac (aF (uW T) #[5] (ac (ap bE (!0) ah) (ac (!1) ai))) ai))))) aN)
    (ao (aS (i:=4) nd (aF JR #[5] (ac (aF (gB T) #[5] (ac (!0) (ac ah ai))) (ac (!1) (ac (!2) (ac (ap h_ (!3) ah) ai))))))
    (ao (aS (i:=5) nd (aF JR #[5] (ac (aF (gB T) #[5] (ac (!0) (ac ah ai))) (ac (!1) (ac (!2) (ac (ap h_ (!3) ah) ai))))))
    (au (aE (eU (ac dg (ac (ap bu (ap bE (!0) ah) (!2)) (ac (!4) (ac (!5) ai)))))))))))
theorem vh:aB qq=p9:=rfl
theorem K8:Hx ["_law_number_here","_law_many","_law_found","_law_k","_law_at"] ["_law_number_here","_law_many"] p9:=by nofun
theorem uV (T:Top K mg):Jn P w K mg base 2 "_law_order" ["_law_number_here","_law_many"] lV:=
 a8 T.Nf vh K8 (λf HR A outer s H E hr=>by
 rw[1];have nd:=K8.nd
 exact(ao (aS (i:=2) nd (fN ai))
  (ao (iX E1 rfl (jo rfl T.JO (ac (!1) ai)) (bt (i:=3) nd) (ao (aS (i:=4) nd (ap bu (aF (gB T) #[5] (ac (!0) (ac (!3) ai))) (ap aK (aH bG T.H_ bA (ac (!2) ai)) ah)))
  (au (aS (i:=2) nd (ap aK (ap aK (cw Kz (!2) m7 (!4)) (fN (ac (!3) ai))) (cw Kz (!2) (!4) m7))))))
  (au (aE (cQ pf T.Ii b_ (ac (!2) ai)))))))
theorem sY:aB oa=nG:=rfl
theorem Kr:Hx ["_law_thing","_law_high"] ["_law_thing","_law_high"] nG:=by nofun
theorem ip (T:Top K mg):Jn P w K mg base 1 "_law_number" ["_law_thing","_law_high"] f9:=
 a8 T.MA sY Kr (λf HR A outer s H E hr=>by
 rw[1];have nd:=Kr.nd
 exact(au (aE (dU (cD sj rfl T.HB T.MQ sR (!0)) (dU (zA (cD oM rfl T.HB T.MC sS (!0))) (hX (kB ow ow ah (!0) (!1))))))))
theorem nA:aB jL=IA:=rfl
theorem JJ:Hx ["_law_thing","_law_k","_law_part"] ["_law_thing"] IA:=by nofun
theorem mX (T:Top K mg):Jn P w K mg base 1 "_law_are_names" ["_law_thing"] gK:=
 a8 T.Lg nA JJ (λf HR A outer s H E hr=>by
 rw[1];have nd:=JJ.nd
 exact(ao (bC (cC (bI (cD kit_tuple rfl T.HB T.Ii b_ (!0)))) (au (aE dH)) aN)
  (ao (iX E1 rfl (m8 rfl T.IS (ac (!0) ai)) (rP rfl (eQ (bt (i:=1) nd) (eQ (bt (i:=2) nd) m9))) (ao (bC (bP (gg (cC (bI (cD nh rfl T.HB T.L9 pD (!2)))) (gg (cC (zi kF kF ah (aH bG T.H_ bA (ac (!2) ai)) ah)) (fJ (bP (hU (aX qB (!1) ah) (jk (cC (aX kF (aI HM (!0) (ap h_ (!1) ah)) (!2)))))))))) (au (aE dH)) aN)
  (ao (bC (vz hu HM Ir (!2) (lw (.tup (.cons (.str ⟨#[4],#[4]⟩) (.cons (.str ⟨#[4],#[4]⟩) (.cons (.str ⟨#[4],#[4]⟩) .nil))) #[1]))) (au (aE dH)) aN)
  (au (bC (aX (ua hu) (eB (ts:=["_law_sign"]) (ix:=[]) rfl ⟨rfl,#[4],#[4],by exists IA⟩ (by exists [],["_law_thing","_law_k","_law_part"]) (fL (!2)) (λ_ _ _ _ _=>⟨(bt (i:=0) (show (["_law_sign"]:ae ej).Nodup from #[4])),(m5 (aX kF (B4 rfl dg (!0)) ah)),(!0)⟩)) (fN ai)) (au (aE dH)) aN)))))
  (au (aE dH)))))
theorem xV:aB tP=s_:=rfl
theorem Lr:Hx ["_law_found","_law_due"] ["_law_found","_law_due"] s_:=by nofun
theorem wK (T:Top K mg):Jn P w K mg base 1 "_law_same" ["_law_found","_law_due"] kY:=
 a8 T.NU xV Lr (λf HR A outer s H E hr=>by
 rw[1];have nd:=Lr.nd
 exact(au (aE (dU (cD oM rfl T.HB T.MC sS (!0)) (hX (dG (bL hu) (!0) (!1)))))))
theorem zd:aB xh=wW:=rfl
theorem Mb:Hx ["_law_number_here","_law_some"] ["_law_number_here"] wW:=by nofun
theorem y7 (T:Top K mg):Jn P w K mg base 1 "_law_odd" ["_law_number_here"] sV:=
 a8 T.OF zd Mb (λf HR A outer s H E hr=>by
 rw[1];have nd:=Mb.nd
 exact(ao (aS (i:=1) nd (lw (.lst (.cons .neg (.cons .int (.cons .int (.cons .int (.cons .int (.cons .bl (.cons .bl (.cons .Ic (.cons (.str ⟨#[4],#[4]⟩) (.cons (.str ⟨#[4],#[4]⟩) (.cons (.str ⟨#[4],#[4]⟩) (.cons (.str ⟨#[4],#[4]⟩) (.cons (.str ⟨#[4],#[4]⟩) (.cons (.str ⟨#[4],#[4]⟩) (.cons (.tup .nil #[1]) (.cons (.lst .nil #[1]) (.cons (.tup (.cons (.str ⟨#[4],#[4]⟩) .nil) #[1]) (.cons (.tup (.cons (.str ⟨#[4],#[4]⟩) (.cons (.str ⟨#[4],#[4]⟩) .nil)) #[1]) .nil)))))))))))))))))) #[1])))
  (ao (aS (i:=1) nd (ap aK (!1) (lw (.lst (.cons (.tup (.cons (.str ⟨#[4],#[4]⟩) (.cons (.tup .nil #[1]) .nil)) #[1]) (.cons (.tup (.cons (.str ⟨#[4],#[4]⟩) (.cons (.tup (.cons (.str ⟨#[4],#[4]⟩) (.cons (.str ⟨#[4],#[4]⟩) .nil)) #[1]) .nil)) #[1]) (.cons (.tup (.cons (.str ⟨#[4],#[4]⟩) (.cons .int .nil)) #[1]) (.cons (.tup (.cons .int (.cons .int (.cons .int .nil))) #[1]) (.cons (.tup (.cons .Ic .nil) #[1]) .nil))))) #[1]))))
  (au (aE (aI HM (ap aK (!1) (lw (.lst (.cons (.tup (.cons (.str ⟨#[4],#[4]⟩) (.cons .int .nil)) #[1]) .nil) #[1]))) (ap bu (!0) ah)))))))
theorem sW:aB n9=nE:=rfl
theorem Ks:Hx ["_law_thing","_law_number_here","_law_deep","_law_at","_law_part"] ["_law_thing","_law_number_here","_law_deep"] nE:=by nofun
theorem kP (T:Top K mg):∀ n:Nat,Jn P w K mg base (n+1) "_law_spoilt" ["_law_thing","_law_number_here","_law_deep"] (iw n)
 | 0=>ja T.KW
 |n+1=>by
  have JR:=kP T n
  exact a8 T.KW sW Ks (λf HR A outer s H E hr=>by
   rw[1];have nd:=Ks.nd
   exact(ao (bC (bP (hU (aX qB (!2) ah) (hU (bI (cD kit_tuple rfl T.HB T.Ii b_ (!0))) (hU (aX qB (aH bG T.H_ bA (ac (!0) ai)) ah) (jk (aX qB (ap bu (!1) ah) ah)))))) (ao (aS (i:=3) nd (ap bu (ap bE (!1) ah) (aH bG T.H_ bA (ac (!0) ai))))
    (ao (aS (i:=4) nd (aF JR #[5] (ac (aI HM (!0) (!3)) (ac (ap bE (ap bE (!1) ah) (aH bG T.H_ bA (ac (!0) ai))) (ac (ap h_ (!2) ah) ai)))))
    (au (aE (ap aK (ap aK (cw Kz (!0) m7 (!3)) (eU (ac (!4) ai))) (cw Kz (!0) (ap aK (!3) ah) m7)))))) aN)
    (ao (bC (bP (hU (bI (cD kit_tuple rfl T.HB T.Ii b_ (!0))) (hU (aX qB (aH bG T.H_ bA (ac (!0) ai)) ah) (jk (aX (bL hu) (ap bu (ap bE (!1) ah) ah) ah))))) (au (aE (aI HM (fN (ac (cQ AU T.KY nk (ac (!0) ai)) (ac (cw Kz (!0) m7 (tM nK ah)) (ac (ap aK (!0) (cw Kz (!0) (tM nK ah) m7)) (ac (cw Kz (!0) ah m7) (ac (rR (!0) λ_ _ _ h=>jt h) (ac (ap dj (!0) ah) ai))))))) (ap bu (ap bE (!1) ah) ah)))) aN)
    (ao (bC (bP (hU (bI (cD sj rfl T.HB T.MQ sR (!0))) (jk (aX (bL hu) (ap bu (ap bE (!1) ah) ah) ah)))) (au (aE (aI HM (fN (ac (cQ Eh T.L9 pD (ac (!0) ai)) (ac (tM nK (!0)) (ac (ap dj (!0) ah) (ac (dG (bL hu) (!0) ah) (ac (ap aK (!0) ah) ai)))))) (ap bu (ap bE (!1) ah) ah)))) aN)
    (ao (bC (bP (hU (bI (cD nh rfl T.HB T.L9 pD (!0))) (jk (aX (bL hu) (ap bu (ap bE (!1) ah) ah) ah)))) (au (aE (aI HM (fN (ac (ap aK (!0) dg) (ac (cw Kz (!0) m7 (tM nK ah)) (ac (Ak rfl (!0)) (ac (ap aK (!0) dg) (ac (ap dj (!0) ah) (ac (rR (!0) λ_ _ _ h=>jt h) ai))))))) (ap bu (ap bE (!1) ah) ah)))) aN)
    (au (aE (aF (y7 T) #[5] (ac (ap bE (!1) ah) ai)))))))))
theorem sZ:aB og=Jl:=rfl
theorem Kt:Hx ["_law_fold","_law_at","_law_order_here","_law_row","_law_behind"] ["_law_fold","_law_at","_law_order_here"] Jl:=by nofun
theorem sO (T:Top K mg):Jn P w K mg base 2 "_law_is_row" ["_law_fold","_law_at","_law_order_here"] d_:=
 a8 T.MB sZ Kt (λf HR A outer s H E hr=>by
 rw[1];have nd:=Kt.nd
 exact(ao (aS (i:=3) nd (aI HM (!0) (!1)))
  (ao (bC (bP (gg (cC (bI (cD kit_tuple rfl T.HB T.Ii b_ (!3)))) (gg (aX (bL hu) (aH bG T.H_ bA (ac (!3) ai)) ah) (fJ (vz hu HM Ir (!3) (cw Kz (!0) m7 (!1))))))) (au (aE dH)) aN)
  (ao (bC (bI (cD nh rfl T.HB T.L9 pD (aI HM (!3) ah))) (au (aE (dU (dG (bL hu) (aI HM (!3) ah) dg) (dU (dG (bL hu) (aH bG T.H_ bA (ac (!3) ai)) ah) (hX (aF (mX T) #[5] (ac (aI HM (!3) ah) ai))))))) aN)
  (ao (bC (bP (gg (aX (ua hu) (aH bG T.H_ bA (ac (!3) ai)) ah) (fJ (cC (bI (aF (ip T) #[5] (ac (aI HM (!3) ah) (ac (ap h_ (aH bG T.H_ bA (ac (!2) ai)) ah) ai)))))))) (au (aE dH)) aN)
  (ao (bC (bP (gg (cC (bI (aF (ip T) #[5] (ac (aI HM (!3) ah) (ac (ap h_ (!1) ah) ai))))) (gg (cC (bI (aF (ip T) #[5] (ac (aI HM (!3) ah) (ac (ap h_ (!1) ah) ai))))) (fJ (aX (bL hu) (aI HM (!3) ah) (aI HM (!3) ah)))))) (au (aE dH)) aN)
  (ao (aS (i:=4) nd (cw Kz (!2) (ap aK (Al rfl (cQ AU T.KY nk (ac (!2) ai)) (aI HM (!3) ah)) ah) m7))
  (au (aE (dG (bL hu) (eB (ts:=["_law_goal"]) (ix:=[4,0]) rfl ⟨rfl,#[4],#[4],by exists Jl⟩ (by exists [4,0],["_law_fold","_law_at","_law_order_here","_law_row","_law_behind"]) (fL (cw Kz (!3) ah m7)) (λ_ _ _ _ _=>⟨(bt (i:=0) (show (["_law_goal","_law_behind","_law_fold"]:ae ej).Nodup from #[4])),(m5 (bP (hU (aX (ua hu) (aI HM (aI HM (!2) (!0)) ah) dg) (jk (lh hu HM Ir (aI HM (aI HM (!2) (!0)) ah) (!1)))))),(!0)⟩)) (fN ai)))))))))))
theorem xW:aB tQ=J6:=rfl
theorem Lu:Hx ["_law_fold","_law_at","_law_row","_law_found","_law_goal"] ["_law_fold","_law_at"] J6:=by nofun
theorem pp (T:Top K mg):∀ n:Nat,Jn P w K mg base (n+0) "_law_left" ["_law_fold","_law_at"] (cO n)
 | 0=>ja T.L5
 |n+1=>by
  have JR:=pp T n
  exact a8 T.L5 xW Lu (λf HR A outer s H E hr=>by
   rw[1];have nd:=Lu.nd
   exact(ao (aS (i:=2) nd (aI HM (!0) (!1)))
    (ao (aS (i:=3) nd (fN ai))
    (ao (bC (aX (ua hu) (aI HM (!2) ah) dg) (au (iX E1 rfl (fL (cw Kz (!2) ah m7)) (bt (i:=4) nd) (au (aS (i:=3) nd (ap aK (!3) (eB (ts:=["_law_one"]) (ix:=[3]) rfl ⟨rfl,#[4],#[4],by exists J6⟩ (by exists [3],["_law_fold","_law_at","_law_row","_law_found","_law_goal"]) (fL (aF JR #[5] (ac (!0) (ac (!4) ai)))) (λ_ _ _ _ _=>⟨(bt (i:=0) (show (["_law_one","_law_found"]:ae ej).Nodup from #[4])),(m5 (lh hu HM Ir (!0) (!1))),(!0)⟩))))))) aN)
    (au (aE (ap aK (!3) (fN (ac (!1) ai)))))))))
theorem rE:aB mh=l7:=rfl
theorem Kc:Hx ["_law_fold","_law_order_here","_law_at"] ["_law_fold","_law_order_here"] l7:=by nofun
theorem pW (T:Top K mg):Jn P w K mg base 12 "_law_is_fold" ["_law_fold","_law_order_here"] gG:=
 a8 T.L6 rE Kc (λf HR A outer s H E hr=>by
 rw[1];have nd:=Kc.nd
 exact(ao (bC (bP (gg (cC (bI (cD kit_tuple rfl T.HB T.Ii b_ (!0)))) (fJ (aX (bL hu) (aH bG T.H_ bA (ac (!0) ai)) ah)))) (au (aE dH)) aN)
  (ao (iX E1 rfl (jo rfl T.JO (ac (aH bG T.H_ bA (ac (!0) ai)) ai)) (bt (i:=2) nd) (au (bC (cC (bI (aF (sO T) #[5] (ac (!0) (ac (!2) (ac (!1) ai)))))) (au (aE dH)) aN)))
  (au (aE (dG (bL hu) (aF (pp T 11) #[5] (ac (!0) (ac (ap h_ (aH bG T.H_ bA (ac (!0) ai)) ah) ai))) (jI rfl rfl rfl T.KY T.JO (ac (aH bG T.H_ bA (ac (!0) ai)) ai))))))))
theorem rF:aB mj=l8:=rfl
theorem Kd:Hx ["_law_fold","_law_number_here","_law_at","_law_kind","_law_row","_law_turned_two"] ["_law_fold","_law_number_here"] l8:=by nofun
theorem pX (T:Top K mg):Jn P w K mg base 10 "_law_changed" ["_law_fold","_law_number_here"] jh:=
 a8 T.L7 rF Kd (λf HR A outer s H E hr=>by
 rw[1];have nd:=Kd.nd
 exact(ao (aS (i:=2) nd (ap bu (ap bE (!1) ah) (aH bG T.H_ bA (ac (!0) ai))))
  (ao (aS (i:=3) nd (ap bu (!1) ah))
  (ao (bC (aX (bL hu) (!3) ah) (ao (aS (i:=4) nd (aI HM (!0) (!2)))
  (au (aE (ap aK (ap aK (cw Kz (!0) m7 (!2)) (eU (ac (ap aK (cw Kz (!4) m7 ah) (rR (cw Kz (!4) ah m7) λ_ _ _ h=>jt h)) ai))) (cw Kz (!0) (ap aK (!2) ah) m7))))) aN)
  (ao (bC (aX (bL hu) (!3) ah) (au (aE (eU (ac (aI HM (!0) ah) (ac (eU (ac (ap bu (ap bE (!1) ah) ah) (ac ah (ac ah ai)))) ai))))) aN)
  (ao (bC (aX kF (!3) ah) (au (aE (aF (kP T 8) #[5] (ac (!0) (ac (ap bE (!1) ah) (ac (ap aK ah (ap bu (ap bE (!1) ah) ah)) ai)))))) aN)
  (ao (bC (aX (bL hu) (!3) ah) (ao (aS (i:=5) nd (ap aK (cw Kz (!0) (ap aK (!2) ah) (ap aK (!2) ah)) (cw Kz (!0) (!2) (ap aK (!2) ah))))
  (au (aE (ap aK (ap aK (cw Kz (!0) m7 (!2)) (!5)) (cw Kz (!0) (ap aK (!2) ah) m7))))) aN)
  (ao (bC (aX (bL hu) (!3) ah) (au (aE (ap aK (ap aK (cw Kz (!0) m7 (!2)) (cw Kz (!0) (!2) (ap aK (!2) ah))) (cw Kz (!0) (!2) m7)))) aN)
  (au (aE (cw Kz (!0) m7 (ap aK (!2) ah))))))))))))
theorem C5:aB zB=CK:=rfl
theorem NV:Hx ["_law_script","_law_many","_law_order_here","_law_words_here","_law_fold"] ["_law_script"] CK:=by nofun
theorem D_ (T:Top K mg){f:b0}{fd:wa}(Fn:Nj K "law" "law" zB f fd):N3 P w K mg base 38 f fd ["_law_script"] Ba:=
 oY Fn C5 NV (λ_ HR A outer s H E hr=>by
 rw[1];have nd:=NV.nd
 exact(ao (aS (i:=1) nd (ap aK ah (ap bu (aF (cg T) #[5] (ac (!0) (ac ah ai))) ah)))
  (ao (aS (i:=2) nd (aF (uV T) #[5] (ac (aF (cg T) #[5] (ac (!0) (ac ah ai))) (ac (!1) ai))))
  (ao (aS (i:=3) nd (aF (uS T) #[5] (ac (aF (cg T) #[5] (ac (!0) (ac ah ai))) ai)))
  (ao (aS (i:=4) nd (aF (wM T) #[5] (ac (aF (rf T 8) #[5] (ac (aF (cg T) #[5] (ac (!0) (ac ah ai))) (ac (!3) (ac (!1) (ac (ap bu (aF (cg T) #[5] (ac (!0) (ac ah ai))) ah) ai))))) (ac (!2) ai))))
  (ao (bC (aX qB (ap bu (aF (cg T) #[5] (ac (!0) (ac ah ai))) ah) ah) (au (aS (i:=4) nd (aF (pX T) #[5] (ac (!4) (ac (aF (cg T) #[5] (ac (!0) (ac ah ai))) ai))))) aN)
  (ao (bC (aX (bL hu) (ap bu (ap bE (aF (cg T) #[5] (ac (!0) (ac ah ai))) ah) ah) ah) (au (aS (i:=2) nd (rR (!2) λ_ _ _ h=>jt h))) aN)
  (au (aE (aF (wK T) #[5] (ac (aF (uZ T) #[5] (ac (!4) (ac (!2) ai))) (ac (aF (pW T) #[5] (ac (!4) (ac (!2) ai))) ai))))))))))))
end
end HD
namespace HD
open PySem L2 PyProof.Rows
noncomputable def isLet (c:Nat):e8:=dr (97<=c)&&dr (c<=122)
noncomputable def lets (x:ej):e8:=x.cps.toList.all isLet
theorem w6:("a":ej)=⟨#[97]⟩:=by decide
theorem zk:("z":ej)=⟨#[122]⟩:=by decide
theorem v9 (a b:Nat):Kg ⟨#[a]⟩ ⟨#[b]⟩=dr (a<b):=by
 unfold Kg;by_cases h:a<b
 ·rw[e4 h];simp[Xa,h]
 rw[cX h];simp[Xa,h]
theorem zr (x:ej)(S:Hu):cS (aJ 0) gC bh (x.cps.toList.map λc=>D.str ⟨#[c]⟩) (cL 1 [] [aa (.str x)]) S=aa ((x.cps.toList.map λc=>D.bl (isLet c)),S):=by
 have q:=d8 (u:=aJ 0) (fe:=bh) (λf => ∃ y,f=[y]) (λd=>match d with | .str z => .bl (z.cps.toList.all isLet) |_ => .Ic) S (x.cps.toList.map λc=>D.str ⟨#[c]⟩) (cL 1 [] [aa (.str x)]) ⟨av,rfl⟩ (by
  rintro d hd f ⟨y,rfl⟩;obtain⟨c,_,rfl⟩:=vl.mp hd;refine⟨_,rfl,⟨_,rfl⟩,?_⟩;by_cases h : 97<=c
  ·have a:¬ c<97:=#[2]
   by_cases e:c<=122
   ·have b:¬ 122<c:=#[2]
    simp[bh,LJ,w6,zk,v9,isLet,h,a,e,b]
   have b : 122<c:=#[2]
   simp[bh,LJ,w6,zk,v9,isLet,h,a,e,b]
  have a:c<97:=#[2]
  simp[bh,LJ,w6,zk,v9,isLet,h,a])
 rw[q,lE];simp
theorem i8 (x:ej)(S:Hu):cV [.str x] S=HC (.bl (lets x)) S:=by
 refine #[6];unfold fm;have e:=zr x S;simp[bN,e]
 have b:u_ (x.cps.toList.map λc=>D.bl (isLet c))=aa (x.cps.toList.map isLet):=by
  induction x.cps.toList with
  |nil=>rfl
  |cons a l d=>rw[hA,u_,d];rfl
 simp[pG,b,lets,all_map]
noncomputable def kept (x:ej):e8:=dr (x="names") ||(dr (x="ask") ||dr (x="end"))
noncomputable def bW (x:ej):e8:=!kept x&&(dr (1<=x.length)&&(dr (x.length<=8)&&lets x))
noncomputable def gr:D->e8
 | .str x=>bW x
 |_=>bo
theorem wt {d:D}(hd:pl d=a6)(S:Hu):lY [d] S=HC (.bl (gr d)) S:=by
 refine #[6];unfold qU;cases d with
 |str x =>
  have b:(dr (("names":ej)=x) ||(dr (("ask":ej)=x) ||dr (("end":ej)=x)))=kept x:=by unfold kept;simp[eq_comm]
  cases hk:kept x with
  |true=>simp[aW,aV,bz,Kn,bi,Nq,b,hk,gr,bW]
  |false =>
   by_cases e : 1<=x.length
   ·by_cases f:x.length<=8
    ·have c:(x.length:Int)<=8:=#[2]
     have a:(1:Int)<=x.length:=#[2]
     simp[aW,aV,bz,Kn,bi,Nq,b,hk,gr,bW,a_,LJ,e,f,c,a,i8]
    have c:¬ (x.length:Int)<=8:=#[2]
    have a:(1:Int)<=x.length:=#[2]
    simp[aW,aV,bz,Kn,bi,Nq,b,hk,gr,bW,a_,LJ,e,f,c,a]
   have a:¬ (1:Int)<=x.length:=#[2]
   simp[aW,aV,bz,Kn,bi,Nq,b,hk,gr,bW,a_,LJ,e,a]
 |set _=>simp[pl] at hd
 |loc _=>simp[pl] at hd
 |fn _ _=>simp[pl] at hd
 |_=>simp[aW,aV,bz,gr]
theorem ia:∀ {ds:ae D},ds.all gr=a6->∃ ss:ae ej,ds=ss.map .str/\∀ x∈ss,bW x=a6
 |[],_=>⟨[],rfl,λx h=>by cases h⟩
 |d::ds,h=>by
  rw[Rb,eL] at h;obtain⟨ss,e,k⟩:=ia h.2;cases d with
  |str x=>exact⟨x::ss,by rw[hA,e],λy hy=>by
    rcases gi.mp hy with rfl |hy
    ·exact h.1
    exact k y hy⟩
  |_=>simp[gr] at h
noncomputable def dZ:D->e8
 | .tup a=>a.all gr&&(match eP a with
  |aa b=>dr (b=fK (b.foldl br []))
  |av=>bo)
 |_=>bo
theorem uy {d:D}(hd:pl d=a6)(g:∀ ds,d = .tup ds->ds.length<64)(S:Hu):kg [d] S=HC (.bl (dZ d)) S:=by
 refine #[6];unfold oX;cases d with
 |tup ds =>
  rw[pl] at hd;have hd:=IQ.mp hd
  have q:=d8 (u:=aJ 0) (fe:=ij) (λb => ∃ y,b=[y]) (λd => .bl (gr d)) S ds (cL 1 [] [aa (.tup ds)]) ⟨av,rfl⟩ (by
   rintro d e b ⟨y,rfl⟩
   exact⟨_,rfl,⟨_,rfl⟩,by simp[ij,wt (hd d e)]⟩)
  cases ha:ds.all gr with
  |false=>simp[aW,aV,bz,bN,q,jg,ha,dZ]
  |true =>
   obtain⟨f,rfl,ok⟩:=ia ha;have a:=g _ rfl;rw[dV] at a;have c:f.length<4000:=#[2]
   simp[aW,aV,bz,bN,q,jg,ha,dZ,hW,fz,mS,AL,a,c,-lE]
 |set _=>simp[pl] at hd
 |loc _=>simp[pl] at hd
 |fn _ _=>simp[pl] at hd
 |_=>simp[aW,aV,bz,dZ]
abbrev Lh:ej:="abcdefghijklmnopqrstuvwxyz"
theorem AJ:∀ k:Nat,k<26->0<=Tc Lh ⟨#[97+k]⟩:=by
 intro k a;have h:∀ k:_root_.Fin 26,0<=Tc Lh ⟨#[97+k.val]⟩:=#[4]
 exact h ⟨k,a⟩
theorem pH:Lh.cps.toList.all isLet=a6:=by decide
theorem AK (c:Nat):dr (Tc Lh ⟨#[c]⟩<0) = !isLet c:=by
 by_cases h : 97<=c/\c<=122
 ·have q:=AJ (c-97) #[0];rw[show 97+(c-97)=c by omega] at q;have e:isLet c=a6:=by simp[isLet,h]
  rw[e,cX #[0]];rfl
 have e:isLet c=bo:=by simp only[isLet,Bool.and_eq_false_iff,PB];omega
 rw[e];rcases StrLaws.occ_head Lh ⟨#[c]⟩ 1 (eG _) with ⟨f,_⟩ |⟨i,r,f,j,_⟩
 ·have:Tc Lh ⟨#[c]⟩ = -1:=by unfold Tc;rw[f]
  rw[this];rfl
 exfalso;obtain⟨k,d⟩:=j;unfold Builtin.Str.subAt at d;have g:=LV d;have b:c∈(Lh.cps.extract i (i+(⟨#[c]⟩:ej).length)).toList:=by rw[g];simp
 rw[XH] at b;have a:=tr.mp pH c (Ri (wq b));rw[e] at a;cases a
noncomputable def before (ds:ae D)(i:Nat)(x:ej):e8:=dr (i=0) ||(match ds[i-1]? with
 |aa (.str y)=>Kg y x
 |_=>bo)
noncomputable def cY (ds:ae D)(i:Nat)(d:D):e8:=match d with
 | .str x=>dr (1<=x.length)&&(dr (x.length<=8)&&(before ds i x&&(!kept x&&lets x)))
 |_=>bo
theorem bM {α:Type}{xs:ae α}{i:Nat}{v : α}(h:xs[i]?=aa v):KN xs (i:Int)=aa v:=by
 have a:i<xs.length:=(b7.mp h).1;have e:OP xs.length (i:Int)=aa i:=by unfold OP;rw[dw #[0],dw #[0]];simp
 unfold KN;rw[e];exact h
noncomputable def A3 (x:ej):ae D:=(x.cps.toList.map λc=>D.str ⟨#[c]⟩).filter λd=>match d with | .str y => !(y.cps.toList.all isLet) |_=>bo
theorem y_ (x:ej)(S:Hu)(a:Hv):cS (aJ 0) c_ de (x.cps.toList.map λc=>D.str ⟨#[c]⟩) (cL 1 [] a) S=aa (A3 x,S):=by
 have q:=g6 (u:=aJ 0) (gt:=c_) (fe:=de) (λa => ∃ y,a=[y]) (λd=>match d with | .str y => !(y.cps.toList.all isLet) |_=>bo) id S (x.cps.toList.map λc=>D.str ⟨#[c]⟩) (cL 1 [] a) ⟨av,rfl⟩ (by
  rintro d hd a ⟨y,rfl⟩;obtain⟨c,_,rfl⟩:=vl.mp hd;refine⟨_,rfl,⟨_,rfl⟩,?_,λ_=>by simp[de]⟩;have e:=AK c
  simp[c_,sw,findD,Jv,e])
 rw[q,map_id];rfl
theorem za (x:ej):(A3 x).isEmpty=lets x:=by
 unfold lets A3
 induction x.cps.toList with
 |nil=>rfl
 |cons c l a =>
  rw[hA,Ut,Rb];cases h:isLet c
  ·rw[dw (by simp[h])];rfl
  rw[ee (by simp[h]),a];rfl
theorem Et (x:ej):NR (A3 x)=a6:=by unfold A3;refine IQ.mpr λd hd=>?_;obtain⟨c,_,rfl⟩:=vl.mp (N7.mp hd).1;rfl
theorem jf {ds:ae D}(hd:∀ d∈ds,pl d=a6)(S:Hu)(j:Nat)(d:D)(q:ds[j]?=aa d)(p:∀ i,i<j->∃ x,ds[i]?=aa (.str x)) :
  (cY ds j d=a6->cy [aa (.tup ds),aa (.int j),aa d] S=HC (.next [aa (.tup ds),aa (.int j),aa d]) S) /\
  (cY ds j d=bo->cy [aa (.tup ds),aa (.int j),aa d] S=HC (.ret (.bl bo)) S):=by
 have o:=hd d (mx q);unfold cy;cases d with
 |str x =>
  have f:(dr (("names":ej)=x) ||(dr (("ask":ej)=x) ||dr (("end":ej)=x)))=kept x:=by unfold kept;simp[eq_comm]
  have n:=y_ x S;have g:=BX (Et x);rw[za x] at g;have c:((x.length:Int)<9)↔x.length<=8:=#[2]
  by_cases a : 0<x.length
  ·have b : 1<=x.length:=a;by_cases e:x.length<=8
   ·rcases YP j with rfl |Ru
    ·cases hk:kept x with
     |true=>simp[aW,aV,bz,Jv,a_,JU,a,e,c,b,cY,before,Kn,bi,Nq,f,hk]
     |false =>
      cases hL:lets x with
      |true=>simp[aW,aV,bz,Jv,a_,JU,a,e,c,b,cY,before,Kn,bi,Nq,f,hk,bN,n,g,hL]
      |false=>simp[aW,aV,bz,Jv,a_,JU,a,e,c,b,cY,before,Kn,bi,Nq,f,hk,bN,n,g,hL]
    obtain⟨y,h⟩:=p (j-1) #[0];have m:KN ds ((j:Int)-1)=aa (.str y):=by have:=bM h;rw[show ((j-1:Nat):Int)=(j:Int)-1 by omega] at this;exact this
    have l:(0:Int)<j:=#[2]
    have k:¬ j=0:=#[2]
    cases IM:Kg y x with
    |false=>simp[aW,aV,bz,Jv,a_,JU,ft,Iy,MZ,a,e,c,b,cY,before,Kn,bi,Nq,f,Ru,l,k,m,h,IM]
    |true =>
     cases hk:kept x with
     |true=>simp[aW,aV,bz,Jv,a_,JU,ft,Iy,MZ,a,e,c,b,cY,before,Kn,bi,Nq,f,hk,Ru,l,k,m,h,IM]
     |false =>
      cases hL:lets x with
      |true=>simp[aW,aV,bz,Jv,a_,JU,ft,Iy,MZ,a,e,c,b,cY,before,Kn,bi,Nq,f,hk,bN,n,g,hL,Ru,l,k,m,h,IM]
      |false=>simp[aW,aV,bz,Jv,a_,JU,ft,Iy,MZ,a,e,c,b,cY,before,Kn,bi,Nq,f,hk,bN,n,g,hL,Ru,l,k,m,h,IM]
   simp[aW,aV,bz,Jv,a_,a,e,c,b,cY]
  have b:¬ 1<=x.length:=a;simp[aW,aV,bz,Jv,a_,a,c,b,cY]
 |set _=>simp[pl] at o
 |loc _=>simp[pl] at o
 |fn _ _=>simp[pl] at o
 |_=>simp[aW,aV,bz,cY]
noncomputable def pZ (d:D):e8:=match d with
 | .tup a=>(ei a.length).all λi=>cY a i (a.getD i .Ic)
 |_=>bo
theorem kW {d:D}(hd:pl d=a6)(S:Hu):gK [d] S=HC (.bl (pZ d)) S:=by
 refine #[6];unfold jQ;cases d with
 |tup c =>
  rw[pl] at hd;have hd:=IQ.mp hd
  have L:=j1 (u:=nM 2 (cm (aJ 1) (cm (aJ 2) jH))) (body:=cy) (λi s=>(∃ a b,s=[aa (.tup c),a,b])/\∀ k,k<i->∃ x,c[k]?=aa (.str x)) (λi d=>match d with | .tup [_,x]=>cY c i x |_=>bo)
   (.bl bo) S (bX 0 c) 0 [aa (.tup c),av,av] ⟨⟨av,av,rfl⟩,λk r=>hK r #[0]⟩ (by
    rintro j d s m ⟨⟨a,b,rfl⟩,l⟩;rw[b9] at m;obtain⟨x,f,rfl⟩:=dv.mp m;simp only[n7] at l ⊢;refine⟨[aa (.tup c),aa (.int j),aa x],rfl,λn=>⟨_,(jf hd S j x f l).1 n,⟨_,_,rfl⟩,λk r=>?_⟩,λn=>(jf hd S j x f l).2 n⟩;rcases Mi k j with h |h
    ·exact l k h
    obtain rfl:k=j:=#[2]
    cases x with
    |str y=>exact⟨y,f⟩
    |_=>simp[cY] at n)
  simp only[n7] at L
  have g:(∀ (j:Nat) d,(bX 0 c)[j]?=aa d->(match d with | .tup [_,x]=>cY c j x |_=>bo)=a6)↔pZ (.tup c)=a6:=by
   unfold pZ;rw[tr];constructor
   ·intro h i p;have p:=nC.mp p;have f:c[i]?=aa c[i]:=a4 p;have:=h i (.tup [.int (0+i:Nat),c[i]]) (by rw[b9,f];rfl);simpa [OW,f] using this
   intro h j d hd;rw[b9] at hd;obtain⟨x,f,rfl⟩:=dv.mp hd;have m:j<c.length:=(b7.mp f).1;have:=h j (nC.mpr m);simpa [OW,f] using this
  rcases L with ⟨o,t,q,_⟩ |⟨⟨j,x,o,q⟩,v⟩
  ·have e:=g.mp o;simp[aW,aV,bz,jR,q,e]
  have e:pZ (.tup c)=bo:=by rw[← Zu,← g];intro h;have:=h j x o;rw[q] at this;cases this
  simp[aW,aV,bz,jR,v,e]
 |set _=>simp[pl] at hd
 |loc _=>simp[pl] at hd
 |fn _ _=>simp[pl] at hd
 |_=>simp[aW,aV,bz,pZ]
end HD
namespace L2
open PySem PyProof.Rows
theorem oR {K:Type}[s8 K]:∀ (l b:ae K),b.Nodup->(l.foldl br b).Nodup
 |[],b,h=>h
 |a::l,b,h=>by
  rw[wi];refine oR l _ ?_;unfold br;split
  ·exact h
  rename_i e;refine I0.mpr ⟨h,by simp,λx d y c=>?_⟩;rw[eR.mp c];rintro rfl;exact e d
theorem lK {K:Type}[s8 K]:∀ (l b:ae K),(b++l).Nodup->l.foldl br b=b++l
 |[],b,_=>by simp
 |a::l,b,h=>by
  have d:a∉b:=λc=>by have:=(I0.mp h).2.2 a c a (e7 ..);exact this rfl
  rw[wi,show br b a=b++[a] by unfold br;rw[ee d],lK l (b++[a]) (by simpa using h)];simp
theorem yT {K:Type}[s8 K]:∀ (l b:ae K) (k:K),k∈l.foldl br b↔k∈b∨k∈l
 |[],b,k=>by simp
 |a::l,b,k=>by
  rw[wi,yT l,gi];unfold br;split
  ·constructor
   ·rintro (h |h)
    ·exact .inl h
    exact .inr (.inr h)
   rintro (h |rfl |h)
   ·exact .inl h
   ·left;assumption
   exact .inr h
  simp only[il,eR];constructor
  ·rintro ((h |h) |h)
   ·exact .inl h
   ·exact .inr (.inl h)
   exact .inr (.inr h)
  rintro (h |h |h)
  ·exact .inl (.inl h)
  ·exact .inl (.inr h)
  exact .inr h
theorem B5 {a b:ej}(h:Kg a b=a6):La a b=a6:=by have c:a.cps.toList<b.cps.toList:=hM h;exact IP.mpr (List.le_of_lt c)
theorem v_ (a:ej):Kg a a=bo:=by unfold Kg;exact cX (List.lt_irrefl _)
theorem yI {a b c:ej}(h:Kg a b=a6)(g:Kg b c=a6):Kg a c=a6:=by
 unfold Kg at *
 exact e4 (List.lt_trans (hM h) (hM g))
theorem kH {a b:ej}(h:La a b=a6)(n:a≠b):Kg a b=a6:=by
 cases q:Kg a b with
 |true=>rfl
 |false=>exact hK (uu h (by unfold La;rw[q];rfl)) n
noncomputable def Mc:ae ej->e8
 |a::b::r=>Kg a b&&Mc (b::r)
 |_=>a6
theorem kX:∀ {l:ae ej},Mc l=a6->l.Pairwise λa b=>Kg a b=a6
 |[],_ => .nil
 |[a],_=>by simp
 |a::b::r,h=>by
  rw[Mc,eL] at h;have d:=kX h.2;refine .cons (λc hc=>?_) d;rcases gi.mp hc with rfl |hc
  ·exact h.1
  exact yI h.1 ((Q8.mp d).1 c hc)
theorem h9:∀ {l:ae ej},(l.Pairwise λa b=>Kg a b=a6)->Mc l=a6
 |[],_=>rfl
 |[a],_=>rfl
 |a::b::r,h=>by
  obtain⟨d,c⟩:=Q8.mp h;rw[Mc,eL];exact⟨d b (e7 ..),h9 c⟩
theorem vG (l:ae ej):l=fK (l.foldl br [])↔Mc l=a6:=by
 constructor
 ·intro h;have e:(fK (l.foldl br [])).Perm (l.foldl br []):=SX _ _;have nd:(fK (l.foldl br [])).Nodup:=(e.nodup_iff).mpr (oR l [] Q4);have c:(fK (l.foldl br [])).Pairwise λa b=>La a b=a6:=NF ju lG _;rw[← h] at nd c;refine h9 ?_;have d:=c.and nd;exact d.imp λq=>kH q.1 q.2
 intro h;have c:=kX h;have nd:l.Nodup:=c.imp λ{a b} q=>by rintro rfl;rw[v_] at q;cases q
 rw[lK l [] (by simpa using nd),N0];exact ku (.refl _) (c.imp λq=>B5 q)
theorem xT:∀ (l:ae ej),Mc l=a6↔∀ (i:Nat) a b,l[i]?=aa a->l[i+1]?=aa b->Kg a b=a6
 |[]=>by simp[Mc]
 |[a]=>by simp[Mc]
 |a::b::r=>by
  rw[Mc,eL,xT (b::r)];constructor
  ·rintro⟨f,e⟩ i x y d c;cases i with
   |zero=>simp at d c;subst d c;exact f
   |succ i=>exact e i x y (by simpa using d) (by simpa using c)
  intro h;exact⟨h 0 a b rfl rfl,λi x y d c=>h (i+1) x y (by simpa using d) (by simpa using c)⟩
end L2
namespace HD
open PySem L2 PyProof.Rows
theorem iu (ss:ae ej)(ok:∀ x∈ss,bW x=a6):pZ (.tup (ss.map .str))=Mc ss:=by
 unfold pZ;rw[Pp,tr,xT];have get:∀ {i:Nat}{x:ej},ss[i]?=aa x->(ss.map D.str).getD i .Ic = .str x:=λ{i x} h=>by rw[OW,eh,h];rfl
 constructor
 ·intro h i a b f hb;have c:i+1<ss.length:=(b7.mp hb).1;have:=h (i+1) (nC.mpr (by rw[dV];exact c));rw[get hb] at this;simp only[cY,eL] at this;have q:=this.2.2.1;unfold before at q;rw[Nat.add_sub_cancel,eh,f] at q;simpa using q
 intro h i c;rw[nC,dV] at c;have e:ss[i]?=aa ss[i]:=a4 c;rw[get e];have nx:=ok ss[i] (NX c);simp only[bW,eL] at nx;simp only[cY,eL];refine⟨nx.2.1,nx.2.2.1,?_,nx.1,nx.2.2.2⟩;unfold before;rcases YP i with rfl |h0
 ·simp
 have d:ss[i-1]?=aa ss[i-1]:=a4 #[0];have q:=h (i-1) ss[i-1] ss[i] d (by rw[show i-1+1=i by omega];exact e);rw[eh,d];simp[q]
theorem jZ (d:D):dZ d=pZ d:=by
 cases d with
 |tup b =>
  cases ha:b.all gr with
  |true =>
   obtain⟨c,rfl,ok⟩:=ia ha;rw[iu c ok];unfold dZ;dsimp only;rw[ha,fz,aag];rw[Pp,j2];exact vG c
  |false =>
   have g:dZ (.tup b)=bo:=by unfold dZ;dsimp only;rw[ha];rfl
   rw[g];unfold pZ
   symm
   rw[Uv];rw[Uv] at ha;obtain⟨d,hd,h⟩:=ha;obtain⟨i,e⟩:=la hd;have f:i<b.length:=(b7.mp e).1;refine⟨i,nC.mpr f,?_⟩;rw[OW,e];show ¬ cY b i d=a6;intro a;apply h;cases d with
   |str x =>
    simp only[cY,eL] at a;simp only[gr,bW,eL];exact⟨a.2.2.2.1,a.1,a.2.1,a.2.2.2.2⟩
   |_=>simp[cY] at a
 |_=>rfl
end HD
namespace L2
open PySem PyProof.Rows
theorem B0 {i j:Int}(d : -1000000000000<j)(c:j<1000000000000):mD i j=a6:=by unfold mD;have b:dr (-(2 ^ 64)<j)=a6:=e4 #[0];have a:dr (j<2 ^ 64)=a6:=e4 #[0];rw[b,a];simp
theorem B1 {i j:Int}(d : -1000000000000<i)(c:i<1000000000000):mD i j=a6:=by unfold mD;have b:dr (-(2 ^ 64)<i)=a6:=e4 #[0];have a:dr (i<2 ^ 64)=a6:=e4 #[0];rw[b,a];simp
theorem ui (i j:Int):cE (.int i) (.int j)=if mD i j=a6 then aa (.int (i*j)) else av:=rfl
theorem oC (x:ej)(n:Int):cE (.str x) (.int n)=if -1000<=n/\n<1 then aa (.str ⟨#[]⟩) else if 1<=n/\n<=1000/\x.length<=1000 then aa (.str ⟨(el n.toNat x.cps.toList).flatten.toArray⟩) else av:=rfl
theorem Ad (xs:ae D)(n:Int):cE (.tup xs) (.int n)=if 2<=n/\n<=1000/\0<xs.length/\xs.length<=1000 then aa (.tup (el n.toNat xs).flatten) else av:=rfl
theorem Ag (i j:Int):bp (.int i) (.int j)=if 0<j then aa (.int (i % j)) else av:=rfl
theorem y0 (i j:Int):bw (.int i) (.int j)=if 0<j/\j<1073741824 then aa (.int (i / j)) else av:=rfl
theorem rA (x y:ej):bg (.str x) (.str y)=if x.length+y.length<=dk then aa (.str (x++y)) else av:=rfl
theorem jy (x y:ae D):bg (.tup x) (.tup y)=if x.length+y.length<=dk then aa (.tup (x++y)) else av:=rfl
theorem lS (x y:ae D):bg (.lst x) (.lst y)=if x.length+y.length<=dk then aa (.lst (x++y)) else av:=rfl
theorem yj (j:Int):iG [.int j]=if -(2 ^ 62)<=j/\j<=16777216 then aa ((ei j.toNat).map λ(k:Nat)=>D.int k) else av:=rfl
theorem v6 {i j:Int}(b : -1000000000000<j)(a:j<1000000000000):cE (.int i) (.int j)=aa (.int (i*j)):=by rw[ui,dw (B0 b a)]
theorem ib {i j:Int}(b : -1000000000000<i)(a:i<1000000000000):cE (.int i) (.int j)=aa (.int (i*j)):=by rw[ui,dw (B1 b a)]
@[simp] theorem FG (i j:Int):bg (.int i) (.int j)=aa (.int (i+j)):=rfl
@[simp] theorem EU (i j:Int):ft (.int i) (.int j)=aa (.int (i-j)):=rfl
theorem aT {i j:Int}(h : 0<j):bp (.int i) (.int j)=aa (.int (i % j)):=by rw[Ag,dw h]
theorem b8 {i j:Int}(h : 0<j)(a:j<1073741824):bw (.int i) (.int j)=aa (.int (i / j)):=by rw[y0,dw ⟨h,a⟩]
end L2
namespace HD
open PySem L2 PyProof.Rows
theorem wI (ns:ae Int)(k:Nat)(S:Hu):ji [.lst (ns.map .int),.int k] S=HC (.int (ns.getD k 0)) S:=by
 refine #[6];unfold mI;by_cases h:k<ns.length
 ·have b:((k:Int)<ns.length):=#[2]
  have a:ns[k]?=aa ns[k]:=a4 h;have e:KN (ns.map D.int) (k:Int)=aa (.int ns[k]):=bM (by rw[eh,a];rfl);simp[a_,Jv,h,Iy,bi,MZ,e,OW,a]
 have a:ns[k]?=av:=Ou #[0];simp[a_,Jv,h,OW,a]
noncomputable def mix (ns:ae Int)(k:Nat):Int:=
 let d:=(ns.getD k 0+7919*(k:Int)+1)*48271 % 2147483647
 (d*d+7*d+(k:Int)) % 2147483629
theorem oE (ns:ae Int)(k:Nat) : 0<=mix ns k:=rT _ #[1]
theorem eT (ns:ae Int)(k:Nat)(S:Hu):a9 [.lst (ns.map .int),.int k] S=HC (.int (mix ns k)) S:=by
 refine #[6];unfold qT;have a:=wI ns k;have f:∀ x:Int,cE (.int 7919) (.int x)=aa (.int (7919*x)):=λx=>ib #[1] #[1];have c:∀ x:Int,cE (.int x) (.int 48271)=aa (.int (x*48271)):=λx=>v6 #[1] #[1];have g:∀ x:Int,bp (.int x) (.int 2147483647)=aa (.int (x % 2147483647)):=λx=>aT #[1];have e:∀ x:Int,bp (.int x) (.int 2147483629)=aa (.int (x % 2147483629)):=λx=>aT #[1];have b:∀ x:Int,cE (.int 7) (.int x)=aa (.int (7*x)):=λx=>ib #[1] #[1];have d:∀ x:Int,cE (.int (x % 2147483647)) (.int (x % 2147483647))=aa (.int (x % 2147483647*(x % 2147483647))):=λx=>by have i:=rT x (show (2147483647:Int)≠0 by decide);have h:=sy x (show (0:Int)<2147483647 by decide);exact ib #[0] #[0]
 simp[a,f,c,g,e,b,d,mix]
noncomputable def Ke (n k:Int):Int:=
 let d:=(n+104729*k+17)*69621 % 2147483647
 (d*d+3*d+k) % 2147483629
theorem j7 (n k:Int) : 0<=Ke n k:=rT _ #[1]
theorem kN (n k:Int)(S:Hu):fF [.int n,.int k] S=HC (.int (Ke n k)) S:=by
 refine #[6];unfold qW;have e:∀ x:Int,cE (.int 104729) (.int x)=aa (.int (104729*x)):=λx=>ib #[1] #[1];have b:∀ x:Int,cE (.int x) (.int 69621)=aa (.int (x*69621)):=λx=>v6 #[1] #[1];have f:∀ x:Int,bp (.int x) (.int 2147483647)=aa (.int (x % 2147483647)):=λx=>aT #[1];have d:∀ x:Int,bp (.int x) (.int 2147483629)=aa (.int (x % 2147483629)):=λx=>aT #[1];have a:∀ x:Int,cE (.int 3) (.int x)=aa (.int (3*x)):=λx=>ib #[1] #[1];have c:∀ x:Int,cE (.int (x % 2147483647)) (.int (x % 2147483647))=aa (.int (x % 2147483647*(x % 2147483647))):=λx=>by have h:=rT x (show (2147483647:Int)≠0 by decide);have g:=sy x (show (0:Int)<2147483647 by decide);exact ib #[0] #[0]
 simp[e,b,f,d,a,c,Ke]
def Wd (n:Nat)(x:ej):Prop:=x.length<=n/\∀ c∈x.cps.toList,c<128
theorem wP (x y:ej):(x++y).cps.toList=x.cps.toList++y.cps.toList:=by show (x.cps++y.cps).toList=_;simp
theorem xR (x y:ej):(x++y).length=x.length+y.length:=by show (x.cps++y.cps).size=_;rw[Y0];rfl
theorem vc {n m:Nat}{x y:ej}(h:Wd n x)(g:Wd m y)(b:n+m<=1000):bg (.str x) (.str y)=aa (.str (x++y)):=by have c:=h.1;have a:=g.1;rw[rA,dw (fk (show x.length+y.length<=1000 by omega) #[1])]
theorem Gh (i:Int)(h0 : 0<=i)(d:i<26)(S:Hu):∃ x:ej,Iy (#[17]) (.int i) S=aa (.str x)/\Wd 1 x:=by
 obtain⟨k,rfl⟩:∃ k:Nat,i=k:=⟨i.toNat,#[2]⟩
 have a:k<Lh.cps.toList.length:=by
  have:Lh.cps.toList.length=26:=#[4]
  omega
 have e:KN Lh.cps.toList (k:Int)=aa Lh.cps.toList[k]:=bM (a4 a);refine⟨⟨#[Lh.cps.toList[k]]⟩,?_,eG _,λc hc=>?_⟩
 ·unfold Iy;rw[ee (by simp[bi])];unfold MZ;simp only[e];rfl
 have b:c=Lh.cps.toList[k]:=by simpa using hc
 have q:=tr.mp pH Lh.cps.toList[k] (NX a);rw[b];simp only[isLet,eL,j2] at q;omega
theorem Ds (j:Int)(h0 : 0<=j)(a:j<=1000):iG [.int j]=aa ((ei j.toNat).map λ(k:Nat)=>D.int k):=by rw[yj,dw #[0]]
theorem gT {n j:Nat}{d:D}(h:((ei n).map λ(k:Nat)=>D.int k)[j]?=aa d):d = .int j/\j<n:=by rw[eh] at h;obtain⟨x,c,rfl⟩:=dv.mp h;obtain⟨b,a⟩:=b7.mp c;simp at b a;exact⟨by rw[← a],b⟩
theorem EY (b:e8):cE (.str "q") (.int (if b then 1 else 0))=aa (.str (if b then "q" else ⟨#[]⟩)):=by
 cases b
 ·rw[oC,dw #[1]];rfl
 rw[oC,ee #[1],dw ⟨#[4],#[4],#[4]⟩];rfl
noncomputable def Mv (d:D)(s:ej):e8:=match d with
 | .str y=>dr (y=s)
 |_=>bo
theorem uJ {d:D}(h:pl d=a6)(s:ej):Iv d (.str s)=aa (.bl (Mv d s)):=by
 obtain⟨p,e⟩:=wZ h;have c:toPy (.str s)=aa (.str s):=rfl;unfold Iv;rw[e,c];have hd:WG p.depth (Yv s).depth<=150:=fk (RF _ _) (by simp[hO]);simp only[hd,ox];cases d with
 |str y=>rw[toPy] at e;cases e;simp[fh,Mv,CB]
 |tup a=>rw[toPy] at e;obtain⟨b,_,rfl⟩:=dv.mp e;simp[fh,Mv]
 |lst a=>rw[toPy] at e;obtain⟨b,_,rfl⟩:=dv.mp e;simp[fh,Mv]
 |set _=>simp[pl] at h
 |loc _=>simp[pl] at h
 |fn _ _=>simp[pl] at h
 |_=>rw[toPy] at e;cases e;simp[fh,Mv]
theorem MD (xs:ae D)(a:D)(S:Hu):Iy (.tup (a::xs)) (.int 0) S=aa a:=by unfold Iy;rw[ee (by simp[bi])];exact bM (i:=0) rfl
theorem Oa (xs:ae D)(a b:D)(S:Hu):Iy (.tup (a::b::xs)) (.int 1) S=aa b:=by unfold Iy;rw[ee (by simp[bi])];exact bM (i:=1) rfl
theorem at2 (xs:ae D)(a b c:D)(S:Hu):Iy (.tup (a::b::c::xs)) (.int 2) S=aa c:=by unfold Iy;rw[ee (by simp[bi])];exact bM (i:=2) rfl
theorem W_ (xs:ae D)(a b c d:D)(S:Hu):Iy (.tup (a::b::c::d::xs)) (.int 3) S=aa d:=by unfold Iy;rw[ee (by simp[bi])];exact bM (i:=3) rfl
theorem fV (x:Int){n:Int}(h : 0<n) : 0<=x % n/\x % n<n:=⟨rT x #[0],sy x h⟩
def Wl (n:Nat)(x:ej):Prop:=1<=x.length/\x.length<=n/\lets x=a6
theorem Aq (x y:ej):lets (x++y)=(lets x&&lets y):=by unfold lets;rw[wP,List.all_append]
theorem Wl.app {n m:Nat}{x y:ej}(h:Wl n x)(g:Wl m y):Wl (n+m) (x++y):=by obtain⟨a,b,c⟩:=h;obtain⟨f,e,d⟩:=g;refine⟨by rw[xR];omega,by rw[xR];omega,by rw[Aq,c,d];rfl⟩
theorem xo (i:Int)(h0 : 0<=i)(b:i<26)(S:Hu):∃ x:ej,Iy (#[17]) (.int i) S=aa (.str x)/\Wl 1 x:=by
 obtain⟨k,rfl⟩:∃ k:Nat,i=k:=⟨i.toNat,#[2]⟩
 have a:k<Lh.cps.toList.length:=by
  have:Lh.cps.toList.length=26:=#[4]
  omega
 have e:KN Lh.cps.toList (k:Int)=aa Lh.cps.toList[k]:=bM (a4 a);refine⟨⟨#[Lh.cps.toList[k]]⟩,?_,eG _,eG _,?_⟩
 ·unfold Iy;rw[ee (by simp[bi])];unfold MZ;simp only[e];rfl
 have q:=tr.mp pH Lh.cps.toList[k] (NX a);show ([Lh.cps.toList[k]]:ae Nat).all isLet=a6;rw[Rb,q];rfl
theorem A7 {n m:Nat}{x y:ej}(h:Wl n x)(g:y.length<=m)(a:n+m<=1000):bg (.str x) (.str y)=aa (.str (x++y)):=by have b:=h.2.1;rw[rA,dw (fk (show x.length+y.length<=1000 by omega) #[1])]
theorem En (n:Int)(l:D)(k b:Int)(a:ej)(i:Nat)(S:Hu)(e:Wl (i+1) a)(hi:i<=10)(h0 : 0<=b):∃ c:ej,Wl (i+2) c /\
  gE [aa (.int n),aa (#[17]),aa l,aa (.int k),aa (.int b),aa (.str a),aa (.int i)] S=HC (.next [aa (.int n),aa (#[17]),aa l,aa (.int k),aa (.int b),aa (.str c),aa (.int i)]) S:=by
 have j:cE (.int 31) (.int i)=aa (.int (31*i)):=ib #[1] #[1];have h:bw (.int b) (.int (31*(i:Int)+29))=aa (.int (b / (31*(i:Int)+29))):=b8 #[0] #[0];have m:bp (.int (b / (31*(i:Int)+29))) (.int 26)=aa (.int (b / (31*(i:Int)+29) % 26)):=aT #[1];obtain⟨x,f,d⟩:=xo (b / (31*(i:Int)+29) % 26) (rT _ #[1]) (sy _ #[1]) S;have g:=A7 e d.2.1 #[0];refine⟨a++x,e.app d,?_⟩;unfold gE;simp[j,h,m,f,g]
theorem Gj (x:ej)(S:Hu):Kn bo (.str x) (.tup [.str "names",.str "ask",.str "end"]) S=aa (.bl (kept x)):=by have e:=Nq x "names" "ask" "end";unfold Kn;rw[ee (by simp[bi]),ee #[1]];rw[e];unfold kept;simp[eq_comm]
theorem Fh {x:ej}(h:kept x=a6):bW (x++("q":ej))=a6:=by simp only[kept,SK,j2] at h;rcases h with rfl |rfl |rfl<;>decide
theorem Fe {x:ej}(h:Wl 8 x):bW (x++(if kept x then ("q":ej) else ⟨#[]⟩))=a6:=by
 cases hk:kept x with
 |true=>exact Fh hk
 |false =>
  have e:x++(⟨#[]⟩:ej)=x:=by show (⟨x.cps++#[]⟩:ej)=x;simp
  simp only[h5,mz,e];unfold bW;rw[hk,e4 h.1,e4 h.2.1,h.2.2];rfl
def Lv (n:Nat)(kvs:ae (D×D)):Prop:=kvs.length<=n/\∃ a:ae ej,kvs.map (·.1)=a.map .str/\a.Nodup/\∀ x∈a,bW x=a6
theorem yh (x y:ej):fP (.str x) (.str y)=dr (x=y):=by simp[fP,fu]
theorem Lv.put {n:Nat}{kvs:ae (D×D)}{x:ej}{v:D}(h:Lv n kvs)(g:bW x=a6):Lv (n+1) (putD kvs (.str x) v):=by
 obtain⟨l,c,e,nd,k⟩:=h;unfold putD;split
 ·refine⟨by rw[dV];omega,c,?_,nd,k⟩;rw[lE,← e];refine Tv λp _=>?_;simp only[Oo];split<;>rfl
 rename_i j;refine⟨by rw[cq,OV];omega,c++[x],by simp[e],?_,λy hy=>?_⟩
 ·refine I0.mpr ⟨nd,by simp,λa i b hb=>?_⟩;rw[eR.mp hb];rintro rfl;apply j;have f:D.str a∈kvs.map (·.1):=by rw[e];exact P_ i
  obtain⟨p,d,q⟩:=vl.mp f;rw[Zk];exact⟨p,d,by rw[q,yh];simp⟩
 rcases il.mp hy with hy |hy
 ·exact k y hy
 rw[eR.mp hy];exact g
theorem Em (n:Int)(k:Nat)(S:Hu)(kvs:ae (D×D))(b c d:ax D)(p:Lv k kvs)(hk:k<6):∃ F X d' q,Lv (k+1) q /\
  gD [aa (.int n),aa (#[17]),aa (#[12]),aa (.int k),b,c,d] (S++[.dict kvs])=HC (.next [aa (.int n),aa (#[17]),aa (#[12]),aa (.int k),F,X,d']) (S++[.dict q]):=by
 have A:=kN n k;have y:=j7 n k;have O:bp (.int (Ke n k)) (.int 26)=aa (.int (Ke n k % 26)):=aT #[1];obtain⟨x,M,V⟩:=xo (Ke n k % 26) (rT _ #[1]) (sy _ #[1]) (S++[.dict kvs]);have H:bw (.int (Ke n k)) (.int 26)=aa (.int (Ke n k / 26)):=b8 #[1] #[1];have E:bp (.int (Ke n k / 26)) (.int 8)=aa (.int (Ke n k / 26 % 8)):=aT #[1];have U:bp (.int n) (.int 2)=aa (.int (n % 2)):=aT #[1];have b1:=rT (Ke n k / 26) (show (8:Int)≠0 by decide);have b2:=sy (Ke n k / 26) (show (0:Int)<8 by decide);have Y:=rT n (show (2:Int)≠0 by decide);have b4:=sy n (show (0:Int)<2 by decide);have r:cE (.int (Ke n k / 26 % 8)) (.int (n % 2))=aa (.int (Ke n k / 26 % 8*(n % 2))):=ib #[0] #[0]
 have l : 0<=Ke n k / 26 % 8*(n % 2)/\Ke n k / 26 % 8*(n % 2)<=7:=by
  have:n % 2=0∨n % 2=1:=#[2]
  rcases this with h |h<;>rw[h]<;>omega
 have o:=Ds (Ke n k / 26 % 8*(n % 2)) l.1 #[0];generalize Ke n k / 26 % 8*(n % 2)=m at r o l
 obtain⟨J,Z,N,t⟩:=i6 (u:=aJ 6) (body:=gE) (λi v g=>g=S++[.dict kvs]/\i<=7/\∃ (w:ej) (z:ax D),Wl (i+1) w/\v=[aa (.int n),aa (#[17]),aa (#[12]),aa (.int k),aa (.int (Ke n k)),aa (.str w),z])
  ((ei m.toNat).map λ(k:Nat)=>D.int k) 0 [aa (.int n),aa (#[17]),aa (#[12]),aa (.int k),aa (.int (Ke n k)),aa (.str x),d] (S++[.dict kvs]) ⟨rfl,#[2],x,d,V,rfl⟩ (by
   rintro j dd v g C ⟨rfl,I,w,z,a,rfl⟩;obtain⟨rfl,IM⟩:=gT C;simp only[n7] at a I ⊢;obtain⟨G,P,eq⟩:=En n (#[12]) k (Ke n k) w j (S++[.dict kvs]) a #[0] y
   exact⟨_,rfl,_,_,eq,rfl,#[2],G,aa (.int j),P,rfl⟩)
 simp only[n7,dV,lr] at t;obtain⟨rfl,Yc,w,z,a,rfl⟩:=t;have f:Wl 8 w:=⟨a.1,by have:=a.2.1;omega,a.2.2⟩;have s:=Gj w (S++[.dict kvs]);have e:=Fe f;generalize kept w=bb at s e;have Q:=EY bb;have R:(if bb then ("q":ej) else ⟨#[]⟩).length<=1:=by cases bb<;>decide
 have L:=A7 f R #[1];have T:(S++[MO.dict kvs])[S.length]?=aa (.dict kvs):=by simp
 have B:kvs.length<dk:=hv (show kvs.length<1000 by have:=p.1;omega) #[1];have K:(S++[MO.dict kvs]).set S.length (.dict (putD kvs (.str (w++(if bb then ("q":ej) else ⟨#[]⟩))) (.bl a6)))=S++[.dict (putD kvs (.str (w++(if bb then ("q":ej) else ⟨#[]⟩))) (.bl a6))]:=by simp
 refine⟨aa (.int (Ke n k)),aa (.str w),z,putD kvs (.str (w++(if bb then ("q":ej) else ⟨#[]⟩))) (.bl a6),p.put e,?_⟩;have W:intD [.bl bb]=aa (.int (if bb then 1 else 0)):=rfl;unfold gD;simp[A,O,M,H,E,U,r,o,N,pQ,T,fu,B,K,s,W,Q,L]
theorem xZ (n:Int)(S:Hu):∃ (ss:ae ej) (kvs:ae (D×D)),lT [.int n] S=HC (.tup (ss.map .str)) (S++[.dict kvs])/\ss.length<=6/\(∀ x∈ss,bW x=a6)/\ss.Pairwise λa b=>Kg a b=a6:=by
 obtain⟨y,J,E,l⟩:=i6 (u:=aJ 3) (body:=gD) (λi m f=>i<=6/\∃ kvs b c d z,f=S++[.dict kvs]/\Lv i kvs/\m=[aa (.int n),aa (#[17]),aa (#[12]),z,b,c,d])
  ((ei 6).map λ(k:Nat)=>D.int k) 0 [aa (.int n),aa (#[17]),aa (#[12]),av,av,av,av] (S++[.dict []]) ⟨#[2],[],av,av,av,av,rfl,⟨eG _,[],rfl,Q4,λx h=>by cases h⟩,rfl⟩ (by
   rintro j L m f p ⟨K,kvs,b,c,d,z,rfl,g,rfl⟩;obtain⟨rfl,w⟩:=gT p;simp only[n7] at g ⊢;obtain⟨s,I,H,A,t,eq⟩:=Em n j S kvs b c d g w
   exact⟨_,rfl,_,_,eq,#[2],A,s,I,H,aa (.int j),rfl,t,rfl⟩)
 simp only[n7,dV,lr] at l;obtain⟨_,kvs,b,c,d,z,rfl,⟨N,ss,es,nd,F⟩,rfl⟩:=l;have M:ss.length=kvs.length:=by have:=E3 T_ es;simpa using this.symm
 have C:gm (kvs.map (·.1))=aa ((fK ss).map .str):=by rw[es];unfold gm;rw[dw (by rw[dV];first |omega |exact fk (show ss.length<=1000 by omega) #[1]),fz]
 have e:(fK ss).Perm ss:=SX _ _;have o:(fK ss).Nodup:=(e.nodup_iff).mpr nd;have G:(fK ss).Pairwise λa b=>La a b=a6:=NF ju lG _;refine⟨fK ss,kvs,?_,by rw[e.length_eq];omega,λx B=>F x (e.mem_iff.mp B),(G.and o).imp λq=>kH q.1 q.2⟩;have v:iG [.int 6]=aa ((ei 6).map λ(k:Nat)=>D.int k):=Ds 6 #[1] #[1];have r:(S++[MO.dict kvs])[S.length]?=aa (.dict kvs):=by simp
 refine #[6];unfold qP;simp[v,E,nT,r,C,mS]
theorem qY:∀ (ds:ae D) (i:Nat),(bX i ds).map (λd=>match d with | .tup [_,x]=>x |_ => .Ic)=ds
 |[],_=>rfl
 |d::ds,i=>by rw[bX,hA,qY ds]
theorem ug (n:Int){ss:ae ej}(t:ss.length<=100)(S:Hu):∃ a:ae ej,lW [.int n,.tup (ss.map .str)] S=HC (.tup (a.map .str)) S/\a.Sublist ss:=by
 have q:=g6 (u:=nM 2 (cm (aJ 0) (cm (aJ 1) jH))) (gt:=iV) (fe:=i_) (λh => ∃ y z,h=[y,z,aa (.int n)]) (λd=>match d with | .tup [.int k,_]=>dr (n / (3*k+1) % 4=0) |_=>bo)
  (λd=>match d with | .tup [_,x]=>x |_ => .Ic) S (bX 0 (ss.map .str)) (cL 2 [0] [aa (.int n),aa (.tup (ss.map .str))]) ⟨av,av,rfl⟩ (by
   rintro d i h ⟨y,z,rfl⟩;obtain⟨j,b⟩:=la i;rw[b9] at b;obtain⟨x,r,rfl⟩:=dv.mp b;have s:j<ss.length:=by have:=(b7.mp r).1;simpa using this
   have g:cE (.int 3) (.int ((0+j:Nat):Int))=aa (.int (3*((0+j:Nat):Int))):=ib #[1] #[1];have f:bw (.int n) (.int (3*((0+j:Nat):Int)+1))=aa (.int (n / (3*((0+j:Nat):Int)+1))):=b8 #[0] #[0];have c:bp (.int (n / (3*((0+j:Nat):Int)+1))) (.int 4)=aa (.int (n / (3*((0+j:Nat):Int)+1) % 4)):=aT #[1];refine⟨[aa (.int ((0+j:Nat):Int)),aa x,aa (.int n)],rfl,⟨_,_,rfl⟩,?_,λ_=>?_⟩
   ·unfold iV;simp only[n7] at g f c ⊢;simp[g,f,c]
   unfold i_;simp)
 have o:(((bX 0 (ss.map D.str)).filter (λd=>match d with | .tup [.int k,_]=>dr (n / (3*k+1) % 4=0) |_=>bo)).map (λd=>match d with | .tup [_,x]=>x |_ => .Ic)).Sublist (ss.map D.str):=by have:=(List.filter_sublist (p:=(λd=>match d with | .tup [.int k,_]=>dr (n / (3*k+1) % 4=0) |_=>bo)) (l:=bX 0 (ss.map D.str))).map (λd=>match d with | .tup [_,x]=>x |_ => .Ic);rw[qY] at this;exact this
 obtain⟨a,m,e⟩:=List.sublist_map_iff.mp o;refine⟨a,?_,m⟩;refine #[6];unfold qS;rw[e] at q;simp[jR,q,mS]
theorem uh {x:ej}(h:bW x=a6):∀ c∈x.cps.toList,c<128:=by unfold bW at h;rw[eL,eL,eL] at h;intro c hc;have:=tr.mp h.2.2.2 c hc;unfold isLet at this;simp at this;omega
end HD
namespace L2
open PySem PyProof.Rows
section
variable (f g:Hn D) (ρ:Hv) (S:Hu)
@[simp] theorem G6 (c k:ej):jd c k f ρ S=aj (f ρ S) λd a=>aQ (j5 c k d a) a:=rfl
@[simp] theorem Gr (c k:ej):pz c k f g ρ S=aj (g ρ S) λv a=>aj (f ρ a) λd S2=>nW c k d v ρ S2:=rfl
@[simp] theorem GG (c k:ej):FD c k f g ρ S=aj (f ρ S) λd a=>aj (aQ (j5 c k d a) a) λv S2=>aj (g ρ S2) λy b=>FF c k d v y ρ b:=rfl
@[simp] theorem Gz (c m:ej)(F:Ht)(gs:Hn (ae D)):dR c m F f gs ρ S=aj (f ρ S) λd a=>aj (aQ (uD c m d a) a) λ_ S2=>aj (gs ρ S2) λds b=>jN (F (d::ds) b):=rfl
@[simp] theorem FY (c m:ej)(F:Ht)(gs:Hn (ae D)):Ek c m F f gs ρ S=aj (f ρ S) λd a=>aj (aQ (uD c m d a) a) λ_ S2=>aj (gs ρ S2) λds b=>F (d::ds) b:=rfl
@[simp] theorem Gx:AY ρ S=HC (#[12]) (S++[.lst []]):=rfl
@[simp] theorem Ha:El f g ρ S=aj (f ρ S) λd a=>aj (aQ (gY d a) a) λ_ S2=>aj (g ρ S2) λv b=>wQ d v b:=rfl
@[simp] theorem Fu:Cp f ρ S=aj (f ρ S) λd a=>aQ ((gY d a).bind λxs=>if xs.length<=dk then aa (.tup xs) else av) a:=rfl
@[simp] theorem GC:u7 f ρ S=aj (f ρ S) λ_ a=>HC (.next ρ) a:=rfl
@[simp] theorem Fw (c:ej)(q:Hv->Hu->e8):Cy c q ρ S=if q ρ S=a6 then aa (.error c,S) else av:=rfl
@[simp] theorem Hc {α a:Type}(c:ej)(k : α->Hu->Out a):aj (aa (.error c,S):Out α) k=aa (.error c,S):=rfl
end
theorem da {S:Hu}{l:Nat}{a b:MO}(h:S[l]?=aa a):(S.set l b)[l]?=aa b:=by have:l<S.length:=(b7.mp h).1;simp[this]
theorem cH {S:Hu}{l k:Nat}{b:MO}(h:l≠k):(S.set l b)[k]?=S[k]?:=by simp[List.getElem?_set,h]
section
variable (f g:Hn D) (ρ:Hv) (S:Hu)
@[simp] theorem G1:CA f g ρ S=aj (f ρ S) λx a=>aj (g ρ a) λi S2=>aQ (ux x i S2) S2:=rfl
@[simp] theorem G2:u5 f g ρ S=aj (f ρ S) λx a=>aj (g ρ a) λi S2=>aQ (if bi x=a6 then ux x i S2 else MZ x i) S2:=rfl
@[simp] theorem GY (neg:e8):AZ neg f g ρ S=aj (f ρ S) λk a=>aj (g ρ a) λx S2=>aQ (oB neg k x S2) S2:=rfl
@[simp] theorem Gy:xN f g ρ S=aj (f ρ S) λx a=>aj (g ρ a) λk S2=>aQ (i5 x k S2) S2:=rfl
@[simp] theorem Gs (h:Hn D):u0 f g h ρ S=aj (h ρ S) λv b=>aj (f ρ b) λx S2=>aj (g ρ S2) λk a=>om x k v ρ a:=rfl
@[simp] theorem GA:AT f ρ S=aj (f ρ S) λd a=>aQ ((gY d a).map λxs => .int xs.length) a:=rfl
@[simp] theorem Ed:lO f ρ S=aj (f ρ S) λd a=>aQ (d4 d a) a:=rfl
@[simp] theorem Gw:xM ρ S=HC (#[12]) (S++[.HL []]):=rfl
@[simp] theorem Ft (u:D->Hv->ax Hv):Cw u f ρ S=aj (f ρ S) λd a=>aQ ((u d ρ).map Fl.next) a:=rfl
end
end L2
namespace HD
open PySem L2 PyProof.Rows
inductive Row where
 |leaf (ss:ae ej)
 |ask (c no yes:Nat)
 deriving DecidableEq
noncomputable def aC:Row->D
 | .leaf a => .tup [.str "names",.tup (a.map .str)]
 | .ask c no yes => .tup [.int c,.int no,.int yes]
noncomputable def dW:Row->e9
 | .leaf a => .tuple [.str "names",.tuple (a.map .str)]
 | .ask c no yes => .tuple [.int c,.int no,.int yes]
noncomputable def c9:Row->Prop
 | .leaf a => ∀ x∈a,bW x=a6
 | .ask _ _ _=>True
theorem BY {x:ej}(h:bW x=a6):nX x=a6:=by have w:=uh h;unfold nX;rw[← Array.all_toList,tr];intro c hc;have:=w c hc;simp;omega
theorem uf:nX ("names":ej)=a6:=by decide
theorem jq {r:Row}(h:c9 r):f_ (aC r)=aa (dW r):=by
 unfold f_;cases r with
 |leaf b =>
  have e:toPy (aC (.leaf b))=aa (dW (.leaf b)):=by simp[aC,dW,toPy,cb,g_]
  have a:(b.map Yv).all (keyOk 6)=a6:=by rw[tr];intro p d;obtain⟨x,f,rfl⟩:=vl.mp d;exact BY (h x f)
  have k:keyOk 8 (dW (.leaf b))=a6:=by show ([Yv "names",PyData.tuple (b.map .str)]:ae e9).all (keyOk 7)=a6;rw[Rb,Rb,List.all_nil,Yt,eL];exact⟨uf,a⟩
  rw[e,p0,dw k]
 |ask c no yes=>simp[aC,dW,toPy,cb,keyOk]
theorem m_ (a b:Row):fh (dW a) (dW b)=dr (a=b):=by
 cases a with
 |leaf s=>cases b with
  |leaf t=>simp[dW,fh,ky,oZ]
  |ask c n y=>simp[dW,fh,ky]
 |ask c n y=>cases b with
  |leaf t=>simp[dW,fh,ky]
  |ask d f e =>
   rw[Pp];simp[dW,fh,ky];omega
theorem gQ {a b:Row}(ha:c9 a)(hb:c9 b):fO (aC a) (aC b)=dr (a=b):=by unfold fO;rw[jq ha,jq hb];exact m_ a b
theorem eC (r:Row):eV (aC r)=a6:=by cases r<;>rfl
noncomputable def bH (k:Nat):ae Row->ae (D×D)
 |[]=>[]
 |r::G=>(aC r,.int k)::bH (k+1) G
theorem ub:∀ (G:ae Row) (k:Nat),(bH k G).length=G.length
 |[],_=>rfl
 |r::G,k=>by rw[bH,hD,hD,ub G]
theorem jw {r:Row}(hr:c9 r):∀ (G:ae Row) (k:Nat),(∀ x∈G,c9 x)->kK (bH k G) (aC r)=if r∈G then aa (.int ((k+G.idxOf r:Nat):Int)) else av
 |[],k,_=>rfl
 |x::G,k,h=>by
  have b:=jw hr G (k+1) λy d=>h y (d7 _ d);unfold kK at b ⊢;rw[bH,o3];simp only[gQ (h x (e7 ..)) hr];by_cases e:x=r
  ·subst e;simp
  rw[cX e];simp only;rw[b];have c:¬ r=x:=λq=>e q.symm;have f:(x==r)=bo:=by simpa using e
  by_cases a:r∈G
  ·rw[dw a,dw (d7 _ a),Q5,f];simp only[cond_false];congr 2;omega
  rw[ee a,ee (by rw[gi];exact λq=>q.elim c a)]
theorem any_nums {r:Row}(hr:c9 r)(G:ae Row)(k:Nat)(h:∀ x∈G,c9 x)(a:r∉G):((bH k G).any λp=>fO p.1 (aC r))=bo:=by have q:=jw hr G k h;rw[ee a] at q;unfold kK at q;rw[Option.map_eq_none_iff,U3] at q;rw[T1];exact q
theorem qC:∀ (G:ae Row) (k:Nat) (r:Row),bH k (G++[r])=bH k G++[(aC r,.int ((k+G.length:Nat):Int))]
 |[],k,r=>rfl
 |x::G,k,r=>by
  rw[Uw,bH,qC G (k+1) r,bH,Uw,hD,show k+1+G.length=k+(G.length+1) by omega]
theorem ym {r:Row}(hr:c9 r){G:ae Row}(h:∀ x∈G,c9 x)(a:r∉G):putN (bH 0 G) (aC r) (.int G.length)=bH 0 (G++[r]):=by unfold putN;rw[any_nums hr G 0 h a,ee #[1],qC,n7]
theorem yW {kvs:ae (D×D)}{k v:D}(h:fO k k=a6):kK (putN kvs k v) k=aa v:=by
 unfold putN;split
 ·rename_i a;unfold kK;rw[Zk] at a;clear h
  induction kvs with
  |nil=>obtain⟨p,b,_⟩:=a;cases b
  |cons p r c =>
   rw[hA,o3];cases b:fO p.1 k with
   |true=>simp[b]
   |false =>
    simp only[b,h5,mz];obtain⟨x,hx,q⟩:=a;rcases gi.mp hx with rfl |hx
    ·rw[b] at q;cases q
    exact c ⟨x,hx,q⟩
 rename_i a;unfold kK;rw[Zu,T1] at a;rw[List.find?_append,U3.mpr a];simp[h]
abbrev Th:=Nat->e8
inductive Ev (G:ae Row) (th:Th):Nat->ae ej->Prop
 |leaf {i:Nat}{ss:ae ej}:G[i]?=aa (.leaf ss)->Ev G th i ss
 |no {i c n y:Nat}{ss:ae ej}:G[i]?=aa (.ask c n y)->th c=bo->Ev G th n ss->Ev G th i ss
 |yes {i c n y:Nat}{ss:ae ej}:G[i]?=aa (.ask c n y)->th c=a6->Ev G th y ss->Ev G th i ss
theorem sC {G E:ae Row}{i:Nat}{r:Row}(h:G[i]?=aa r):(G++E)[i]?=aa r:=by rw[gh (b7.mp h).1];exact h
theorem Ev.mono {G:ae Row}(E:ae Row){b:Th}{i:Nat}{ss:ae ej}(h:Ev G b i ss):Ev (G++E) b i ss:=by
 induction h with
 |leaf h=>exact .leaf (sC h)
 |no h t _ a=>exact .no (sC h) t a
 |yes h t _ a=>exact .yes (sC h) t a
theorem Ev.det {G:ae Row}{f:Th}{i:Nat}{a b:ae ej}(h:Ev G f i a)(g:Ev G f i b):a=b:=by
 induction h with
 |leaf h=>cases g with
  |leaf c=>rw[h] at c;cases c;rfl
  |no c=>rw[h] at c;cases c
  |yes c=>rw[h] at c;cases c
 |no h t _ e=>cases g with
  |leaf c=>rw[h] at c;cases c
  |no c d g=>rw[h] at c;cases c;exact e g
  |yes c d g=>rw[h] at c;cases c;rw[t] at d;cases d
 |yes h t _ e=>cases g with
  |leaf c=>rw[h] at c;cases c
  |no c d g=>rw[h] at c;cases c;rw[t] at d;cases d
  |yes c d g=>rw[h] at c;cases c;exact e g
noncomputable def pl (o:ae Nat)(G:ae Row)(i:Nat):Nat:=match G[i]? with
 |aa (.ask c _ _)=>o.idxOf c
 |_=>o.length
theorem cT {o:ae Nat}{G E:ae Row}{i:Nat}(h:i<G.length):pl o (G++E) i=pl o G i:=by unfold pl;rw[gh h]
theorem zQ (o:ae Nat)(G:ae Row)(i:Nat):pl o G i<=o.length:=by
 unfold pl;split
 ·exact List.idxOf_le_length
 exact eG _
noncomputable def Ku (o:ae Nat)(G:ae Row)(i:Nat):Row->Prop
 | .leaf a=>(∀ x∈a,bW x=a6)/\Mc a=a6
 | .ask c n y=>c∈o/\n<i/\y<i/\#[7]<HD.pl o G n/\#[7]<HD.pl o G y/\n≠y
structure Wf (o:ae Nat) (G:ae Row):Prop where
 nd:G.Nodup
 row:∀ (i:Nat) (r:Row),G[i]?=aa r->Ku o G i r
theorem Wf.ok {o:ae Nat}{G:ae Row}(h:Wf o G):∀ x∈G,c9 x:=by
 intro x a;obtain⟨i,b⟩:=la a;have:=h.row i x b;cases x with
 |leaf d=>exact this.1
 |ask c n y=>trivial
theorem Wf.total {o:ae Nat}{G:ae Row}(h:Wf o G)(b:Th):∀ (i:Nat),i<G.length->∃ ss,Ev G b i ss:=by
 intro i
 induction i using WY with
 |_ i a =>
  intro f;have e:G[i]?=aa G[i]:=a4 f;have q:=h.row i _ e;cases hr:G[i] with
  |leaf ss=>rw[hr] at e;exact⟨ss,.leaf e⟩
  |ask c n y =>
   rw[hr] at e q;obtain⟨_,d,g,_,_,_⟩:=q;cases ht:b c with
   |false=>obtain⟨ss,k⟩:=a n d #[0];exact⟨ss,.no e ht k⟩
   |true=>obtain⟨ss,k⟩:=a y g #[0];exact⟨ss,.yes e ht k⟩
theorem Wf.back {o:ae Nat}{G E:ae Row}(h:Wf o G){a:Th}{i:Nat}{ss:ae ej}(hi:i<G.length)(e:Ev (G++E) a i ss):Ev G a i ss:=by obtain⟨b,k⟩:=h.total a i hi;rw[Ev.det e (k.mono E)];exact k
theorem Ku.app {o:ae Nat}{G E:ae Row}{i:Nat}{r:Row}(hi:i<=G.length)(h:Ku o G i r):Ku o (G++E) i r:=by
 cases r with
 |leaf j=>exact h
 |ask c n y =>
  obtain⟨a,b,g,d,e,f⟩:=h;refine⟨a,b,g,?_,?_,f⟩
  ·rw[cT #[0]];exact d
  rw[cT #[0]];exact e
theorem Wf.snoc {o:ae Nat}{G:ae Row}(h:Wf o G){r:Row}(d:r∉G)(hr:Ku o G G.length r):Wf o (G++[r]):=by
 refine⟨I0.mpr ⟨h.nd,by simp,λa e b hb=>?_⟩,λi x c=>?_⟩
 ·rw[eR.mp hb];rintro rfl;exact d e
 rcases Q9 i G.length with hi |hi |hi
 ·rw[gh hi] at c;exact(h.row i x c).app (qs hi)
 ·subst hi;have:x=r:=by simpa using c.symm
  subst this;exact hr.app (eG _)
 rw[f5 #[0]] at c;have:([r]:ae Row)[i-G.length]?=av:=by rw[TL];simp;omega
 rw[this] at c;cases c
noncomputable def j9 (C:ae (Row×Nat)):ae (D×D):=C.map λp=>(aC p.1,.int p.2)
noncomputable def sel (a:Th)(c n y:Nat):Nat:=if a c=a6 then y else n
def Kl (o:ae Nat)(G:ae Row)(r:Row)(v:Nat):Prop:=match r with
 | .leaf _=>False
 | .ask c n y=>n<G.length/\y<G.length/\v<G.length/\WG (#[7]) (WG (HD.pl o G n) (HD.pl o G y))<=HD.pl o G v/\∀ a b,Ev G a (sel a c n y) b->Ev G a v b
theorem Kl.app {o:ae Nat}{G E:ae Row}(w:Wf o G){r:Row}{v:Nat}(h:Kl o G r v):Kl o (G++E) r v:=by
 cases r with
 |leaf _=>exact h
 |ask c n y =>
  obtain⟨a,b,j,d,e⟩:=h;refine⟨by rw[cq];omega,by rw[cq];omega,by rw[cq];omega,?_,λf g k=>?_⟩
  ·rw[cT a,cT b,cT j];exact d
  have i:sel f c n y<G.length:=by unfold sel;split<;>assumption
  exact(e f g (w.back i k)).mono E
noncomputable def mT:ae (Row×Nat)->Row->Nat->ae (Row×Nat):=λC r v=>if (C.any λp=>dr (p.1=r))=a6 then C.map (λp=>if p.1=r then (p.1,v) else p) else C++[(r,v)]
theorem xK {C:ae (Row×Nat)}(h:∀ p∈C,c9 p.1){r:Row}(hr:c9 r)(v:Nat):putN (j9 C) (aC r) (.int v)=j9 (mT C r v):=by
 have e:((j9 C).any λp=>fO p.1 (aC r))=C.any λp=>dr (p.1=r):=by
  unfold j9;rw[any_map]
  have:∀ l:ae (Row×Nat),(∀ p∈l,c9 p.1)->(l.any ((λp=>fO p.1 (aC r)) ∘ λp=>(aC p.1,D.int p.2)))=l.any λp=>dr (p.1=r):=by
   intro l a
   induction l with
   |nil=>rfl
   |cons p l c =>
    rw[J7,J7,c λq d=>a q (d7 _ d)];simp only[Oo,gQ (a p (e7 ..)) hr]
  exact this C h
 unfold putN mT;rw[e];split
 ·unfold j9;rw[lE,lE];refine Tv λp b=>?_;simp only[Oo,gQ (h p b) hr,j2];split<;>rfl
 unfold j9;rw[r4];rfl
theorem Cs {C:ae (Row×Nat)}(h:∀ p∈C,c9 p.1){r:Row}(hr:c9 r):kK (j9 C) (aC r)=(C.find? λp=>dr (p.1=r)).map λp => .int p.2:=by
 unfold kK j9
 induction C with
 |nil=>rfl
 |cons p C a =>
  rw[hA,o3,o3];simp only[gQ (h p (e7 ..)) hr];cases hd:dr (p.1=r) with
  |true=>rfl
  |false=>exact a λq b=>h q (d7 _ b)
theorem t7 {C:ae (Row×Nat)}{P:Row->Nat->Prop}(h:∀ p∈C,P p.1 p.2){r:Row}{v:Nat}(hr:P r v):∀ p∈mT C r v,P p.1 p.2:=by
 intro p hp;unfold mT at hp;split at hp
 ·obtain⟨q,a,rfl⟩:=vl.mp hp;split
  ·rename_i e;rw[e];exact hr
  exact h q a
 rcases il.mp hp with hp |hp
 ·exact h p hp
 rw[eR.mp hp];exact hr
theorem t6 (C:ae (Row×Nat))(r:Row)(v:Nat):(mT C r v).length<=C.length+1:=by
 unfold mT;split
 ·rw[dV];omega
 rw[cq];simp
abbrev oD (o:ae Nat):D:=.tup (o.map λ(c:Nat)=>D.int c)
abbrev RO (o:ae Nat)(L:Nat):MO:=.ins "Rows" [("order",oD o),("gathered",.loc (L+1)),("numbers",.loc (L+2)),("choices",.loc (L+3))]
structure SR (B:Nat->ax MO) (S:Hu) (L:Nat) (o:ae Nat) (G:ae Row) (C:ae (Row×Nat)):Prop where
 obj:S[L]?=aa (RO o L)
 Qm:S[L+1]?=aa (.lst (G.map aC))
 num:S[L+2]?=aa (.HL (bH 0 G))
 Nr:S[L+3]?=aa (.HL (j9 C))
 fr:∀ i,i<L∨L+3<i->S[i]?=B i
theorem Vr:(("gathered":ej)=="order")=bo:=by decide
theorem Xh:(("numbers":ej)=="order")=bo:=by decide
theorem Xi:(("numbers":ej)=="gathered")=bo:=by decide
theorem Xj:(("choices":ej)=="order")=bo:=by decide
theorem Xk:(("choices":ej)=="gathered")=bo:=by decide
theorem Xl:(("choices":ej)=="numbers")=bo:=by decide
section
variable {B:Nat->ax MO}{S:Hu}{L:Nat}{o:ae Nat}{G:ae Row}{C:ae (Row×Nat)}
theorem SR.ins (h:SR B S L o G C):ww "Rows" (.loc L) S=aa ([("order",oD o),("gathered",.loc (L+1)),("numbers",.loc (L+2)),("choices",.loc (L+3))]:ae (ej×D)):=by unfold ww;simp only[h.obj,ox]
theorem SR.MS (h:SR B S L o G C):j5 "Rows" "order" (.loc L) S=aa (oD o):=by unfold j5;rw[h.ins];simp[q7]
theorem SR.Md (h:SR B S L o G C):j5 "Rows" "gathered" (.loc L) S=aa (.loc (L+1)):=by unfold j5;rw[h.ins];simp[q7,Vr]
theorem SR.NW (h:SR B S L o G C):j5 "Rows" "numbers" (.loc L) S=aa (.loc (L+2)):=by unfold j5;rw[h.ins];simp[q7,Xh,Xi]
theorem SR.Lw (h:SR B S L o G C):j5 "Rows" "choices" (.loc L) S=aa (.loc (L+3)):=by unfold j5;rw[h.ins];simp[q7,Xj,Xk,Xl]
theorem SR.has (h:SR B S L o G C)(m:ej)(a:((m=="order") ||(m=="gathered") ||(m=="numbers") ||(m=="choices"))=bo):uD "Rows" m (.loc L) S=aa .Ic:=by rw[Pt,Pt,Pt] at a;unfold uD;rw[h.ins];simp[q7,a.1.1.1,a.1.1.2,a.1.2,a.2]
theorem SR.lst (h:SR B S L o G C):gY (.loc (L+1)) S=aa (G.map aC):=by unfold gY;simp only[h.Qm]
theorem SR.row (h:SR B S L o G C){i:Nat}{r:Row}(hi:G[i]?=aa r):ux (.loc (L+1)) (.int i) S=aa (aC r):=by show ((gY (.loc (L+1)) S).bind λa=>KN a (i:Int))=_;rw[h.lst,p0];exact bM (by rw[eh,hi];rfl)
theorem wD (a b:Nat):Iv (.int a) (.int b)=aa (.bl (dr (a=b))):=by
 rw[Cm];by_cases h:a=b
 ·simp[h]
 rw[cX h,cX #[0]]
theorem eq_str_int (x:ej)(i:Int):Iv (.str x) (.int i)=aa (.bl bo):=by simp[Iv,toPy,fh,hO]
theorem nu (r:Row)(S:Hu):pK [aC r] S=HC (.bl (match r with | .leaf _=>bo | .ask _ _ _=>a6)) S:=by refine #[6];unfold AH;cases r<;>simp[aC,a_]
theorem idx_map (c:Nat):∀ o:ae Nat,(o.map λ(c:Nat)=>(c:Int)).idxOf (c:Int)=#[7]
 |[]=>rfl
 |a::o=>by
  rw[hA,Q5,Q5,idx_map c o];by_cases h:a=c
  ·simp[h]
  have d:(a==c)=bo:=by simpa using h
  have b:((a:Int)==(c:Int))=bo:=by rw[kv];omega
  rw[d,b]
theorem Ja:∀ l:ae Int,cI (l.map .int)=aa l
 |[]=>rfl
 |a::l=>by rw[hA,cI,Ja l];rfl
theorem Az (o:ae Nat):cI (o.map λ(c:Nat)=>D.int c)=aa (o.map λ(c:Nat)=>(c:Int)):=by rw[show (o.map λ(c:Nat)=>D.int c)=(o.map λ(c:Nat)=>(c:Int)).map D.int by rw[lE];rfl,Ja]
theorem lL {o:ae Nat}{c:Nat}(h:c∈o):jv (oD o) (.int c)=aa (.int (#[7]:Nat)):=by unfold jv oD;simp only[Az,p0];rw[dw (vl.mpr ⟨c,h,rfl⟩),idx_map]
theorem zP {i:Nat}{r:Row}(hi:G[i]?=aa r)(w:Ku o G i r)(S:Hu):d9 [aC r,oD o] S=HC (.int (HD.pl o G i:Nat)) S:=by
 have a:=nu r S;unfold HD.pl;rw[hi];refine #[6];unfold j4;cases r with
 |leaf f =>
  have:a_ [oD o]=aa (.int o.length):=by simp[a_]
  simp[a,this]
 |ask c n y =>
  have d:=lL w.1;have e:Iy (aC (.ask c n y)) (.int 0) S=aa (.int c):=MD _ _ S;have b:eV (oD o)=a6:=rfl;simp[a,e,d,b]
theorem AI (h:SR B S L o G C)(w:Wf o G)(nd:o.Nodup){c i j:Nat}(hc:c∈o)(hi:i<G.length)(m:j<G.length) :
  ∃ f,f∈o/\o.idxOf f=WG (#[7]) (WG (HD.pl o G i) (HD.pl o G j))/\cu [.loc L,.int c,.int i,.int j] S=HC (.int f) S:=by
 have x:#[7]<o.length:=mv.mpr hc;have g:WG (#[7]) (WG (HD.pl o G i) (HD.pl o G j))<o.length:=#[2]
 have one:∀ k:Nat,k<G.length->bB [aa (.int k),aa (.loc L)] S=HC (.int (HD.pl o G k:Nat)) S:=by intro k r;have e:G[k]?=aa G[k]:=a4 r;have q:=zP e (w.row k _ e) S;have v:=h.row e;unfold bB;simp[h.Md,h.MS,v,q]
 have q:=d8 (u:=aJ 0) (fe:=bB) (λl => ∃ y,l=[y,aa (.loc L)]) (λd=>match d with | .int k => .int (HD.pl o G k.toNat:Nat) |_ => .Ic) S [.int i,.int j] (cL 1 [0] [aa (.loc L),aa (.int c),aa (.int i),aa (.int j),av]) ⟨av,rfl⟩ (by
  rintro d hd l ⟨y,rfl⟩;refine⟨_,rfl,⟨_,rfl⟩,?_⟩;simp only[gi,Ux,Y8] at hd;rcases hd with rfl |rfl
  ·have:=one i hi;simpa using this
  have:=one j m;simpa using this)
 have t:=lL hc;have n:eV (oD o)=a6:=rfl;refine⟨o[WG (#[7]) (WG (HD.pl o G i) (HD.pl o G j))],NX g,nd.idxOf_getElem _ g,#[6]⟩;have p:ul [.lst [.int (HD.pl o G i:Nat),.int (HD.pl o G j:Nat),.int (#[7]:Nat)]]=aa (.int ((WG (#[7]) (WG (HD.pl o G i) (HD.pl o G j)):Nat):Int)):=by simp only[ul,cI,Vq,p0,DT,QO];congr 2;split<;>split<;>omega
 have s:Iy (oD o) (.int ((WG (#[7]) (WG (HD.pl o G i) (HD.pl o G j)):Nat):Int)) S=aa (.int (o[WG (#[7]) (WG (HD.pl o G i) (HD.pl o G j))]:Nat)):=by unfold Iy;rw[ee (by simp[bi])];show KN (o.map λ(c:Nat)=>D.int c) _=_;exact bM (by rw[eh,a4 g];rfl)
 have z2:Ky [.int i,.int j] (.tup [.int i,.int j])=aa (.tup [.int i,.int j]):=cG #[3];have z1:Ky [.int (#[7]:Nat)] (.lst [.int (#[7]:Nat)])=aa (.lst [.int (#[7]:Nat)]):=cG #[3];have ad:bg (.lst [.int (HD.pl o G i:Nat),.int (HD.pl o G j:Nat)]) (.lst [.int (#[7]:Nat)])=aa (.lst [.int (HD.pl o G i:Nat),.int (HD.pl o G j:Nat),.int (#[7]:Nat)]):=by exact(lS _ _).trans (dw (show 3<=dk by decide))
 unfold dO;simp only[hA,RE,nq] at q;generalize HD.pl o G i=a at *
 generalize HD.pl o G j=b at *
 generalize #[7]=k at *
 simp[z2,bN,q,h.MS,n,t,z1,ad,p,s]
noncomputable def sd (G:ae Row)(i c:Nat)(b:e8):Nat:=match G[i]? with
 |aa (.ask c' n y)=>if c'=c then (if b=a6 then y else n) else i
 |_=>i
theorem jn (h:SR B S L o G C){i:Nat}(hi:i<G.length)(c:Nat)(b:e8):ck [.loc L,.int i,.int c,.int (if b=a6 then 1 else 0)] S=HC (.int (sd G i c b:Nat)) S:=by
 have e:G[i]?=aa G[i]:=a4 hi;have d:=h.row e;unfold sd;rw[e]
 suffices ef:lU [.loc (L+1),.int i,.int c,.int (if b=a6 then 1 else 0)] S=HC (.int (match aa G[i] with
  |aa (.ask a n y)=>if a=c then (if b=a6 then y else n) else i
  |_=>i:Nat)) S by
  refine #[6];unfold mJ;simp[h.Md,ef]
 refine #[6];unfold qQ;cases hr:G[i] with
 |leaf j =>
  rw[hr] at d;have f:Iy (aC (.leaf j)) (.int 0) S=aa (.str "names"):=MD _ _ S;simp[d,f,eq_str_int,bi]
 |ask a n y =>
  rw[hr] at d;have f:Iy (aC (.ask a n y)) (.int 0) S=aa (.int a):=MD _ _ S;have l:Iy (aC (.ask a n y)) (.int 1) S=aa (.int n):=Oa _ _ _ S;have k:Iy (aC (.ask a n y)) (.int 2) S=aa (.int y):=at2 _ _ _ _ S;have g:=wD a c;by_cases hc:a=c
  ·subst hc;rw[e4 rfl] at g;cases b<;>simp[d,f,g,l,k,bi]
  rw[cX hc] at g;cases b<;>simp[d,f,g,hc,bi]
theorem jm (w:Wf o G){i c:Nat}(hi:i<G.length)(b:e8)(hc:c∈o)(f:#[7]<=HD.pl o G i):sd G i c b<G.length/\#[7]<HD.pl o G (sd G i c b)/\∀ d ss,d c=b->Ev G d i ss->Ev G d (sd G i c b) ss:=by
 have e:G[i]?=aa G[i]:=a4 hi;have l:#[7]<o.length:=mv.mpr hc;have q:=w.row i _ e;unfold sd;rw[e];cases hr:G[i] with
 |leaf ss =>
  refine⟨hi,?_,λ_ _ _ k=>k⟩;unfold HD.pl;rw[e,hr];exact l
 |ask s n y =>
  rw[hr] at q e;obtain⟨m,v,u,p,r,_⟩:=q;by_cases j:s=c
  ·subst j;simp only[ox];cases b with
   |false =>
    refine⟨by simp;omega,by simpa using p,λd ss g k=>?_⟩;cases k with
    |leaf a=>rw[e] at a;cases a
    |no a _ k=>rw[e] at a;cases a;exact k
    |yes a t k=>rw[e] at a;cases a;cases g.symm.trans t
   |true =>
    refine⟨by simp;omega,by simpa using r,λd ss g k=>?_⟩;cases k with
    |leaf a=>rw[e] at a;cases a
    |no a t k=>rw[e] at a;cases a;cases g.symm.trans t
    |yes a _ k=>rw[e] at a;cases a;exact k
  simp only[ee j];refine⟨hi,?_,λ_ _ _ k=>k⟩;unfold HD.pl at f ⊢;rw[e] at f ⊢;simp only at f ⊢;rcases Py f with h |h
  ·exact h
  exfalso;apply j;have a1:=Ob (mv.mpr m);have a2:=Ob l;rw[← a1,← a2];congr 1;exact h.symm
theorem qD (h:SR B S L o G C)(w:Wf o G){r:Row}(hr:Ku o G G.length r)(hz:G.length<16000000) :
  ∃ m E i,ca [.loc L,aC r] S=HC (.int (i:Nat)) m/\SR B m L o (G++E) C/\Wf o (G++E)/\(G++E)[i]?=aa r/\E.length<=1:=by
 have ok:c9 r:=by cases r with
  |leaf I=>exact hr.1
  |ask c n y=>trivial
 have b:=jq ok;have e:=jw ok G 0 w.ok;have J:dk=16777216:=rfl;by_cases a:r∈G
 ·rw[dw a,n7] at e;have t:G.idxOf r<G.length:=mv.mpr a;refine⟨S,[],G.idxOf r,#[6],by rw[eM];exact h,by rw[eM];exact w,?_,by simp⟩
  ·have j:oB a6 (aC r) (.loc (L+2)) S=aa (.bl bo):=by
    unfold oB;simp only[h.num,b,eC,ox,e];rfl
   have g:i5 (.loc (L+2)) (aC r) S=aa (.int (G.idxOf r:Nat)):=by unfold i5;simp only[h.num,b,eC,ox,e]
   unfold d5;simp[h.NW,j,g]
  rw[eM,a4 t,Ob t]
 rw[ee a] at e;have j:oB a6 (aC r) (.loc (L+2)) S=aa (.bl a6):=by unfold oB;simp only[h.num,b,eC,ox,e];rfl
 have ep:∀ l,om (.loc (L+2)) (aC r) (.int (G.length:Nat)) l S=HC (.next l) (S.set (L+2) (.HL (bH 0 (G++[r])))):=λl=>by unfold om;simp only[h.num,b];rw[dw ⟨by rw[ub];omega,eC r⟩,ym ok w.ok a]
 generalize d:S.set (L+2) (.HL (bH 0 (G++[r])))=S1 at ep;have a1:S1[L]?=aa (RO o L):=by rw[← d,cH #[0]];exact h.obj
 have a2:S1[L+1]?=aa (.lst (G.map aC)):=by rw[← d,cH #[0]];exact h.Qm
 have z:S1[L+2]?=aa (.HL (bH 0 (G++[r]))):=by rw[← d];exact da h.num
 have F:S1[L+3]?=aa (.HL (j9 C)):=by rw[← d,cH #[0]];exact h.Nr
 have D:j5 "Rows" "gathered" (.loc L) S1=aa (.loc (L+1)):=by unfold j5 ww;simp only[a1,ox];simp[q7,Vr]
 have v:gY (.loc (L+1)) S1=aa (G.map aC):=by unfold gY;simp only[a2]
 have q:wQ (.loc (L+1)) (aC r) S1=HC .Ic (S1.set (L+1) (.lst ((G++[r]).map aC))):=by unfold wQ;simp only[a2];rw[dw (by rw[dV];omega),r4];rfl
 have f:SR B (S1.set (L+1) (.lst ((G++[r]).map aC))) L o (G++[r]) C:=by
  refine⟨?_,da a2,?_,?_,λk A=>by rw[cH #[0],← d,cH #[0]];exact h.fr k A⟩
  ·rw[cH #[0]];exact a1
  ·rw[cH #[0]];exact z
  rw[cH #[0]];exact F
 generalize H:S1.set (L+1) (.lst ((G++[r]).map aC))=S2 at q f;have p:=w.snoc a hr;have s:=jw ok (G++[r]) 0 p.ok;rw[dw #[3],n7,Uy,ee a] at s;have u:([r]:ae Row).idxOf r+G.length=G.length:=by simp
 have x:G.length+([r]:ae Row).idxOf r=G.length:=by simp
 refine⟨S2,[r],G.length,#[6],f,p,by simp,by simp⟩
 have g:i5 (.loc (L+2)) (aC r) S2=aa (.int (G.length:Nat)):=by
  unfold i5;simp only[f.num,b,eC,ox,s]
  first |rw[u] |rw[x]
 unfold d5;simp[h.NW,j,h.Md,h.lst,ep,D,v,q,f.NW,g]
end
section
variable {B:Nat->ax MO}{S:Hu}{L:Nat}{o:ae Nat}{G:ae Row}{C:ae (Row×Nat)}
theorem A6 (h:SR B S L o G C)(w:Wf o G){c a b:Nat}(hc:c∈o)(ha:a<G.length)(hb:b<G.length)(m:#[7]<HD.pl o G a)(q:#[7]<HD.pl o G b)(hz:G.length<16000000) :
  ∃ f E i,bU [.loc L,.int c,.int a,.int b] S=HC (.int (i:Nat)) f/\SR B f L o (G++E) C/\Wf o (G++E)/\i<(G++E).length/\#[7]<=HD.pl o (G++E) i/\E.length<=1/\∀ d ss,Ev (G++E) d (sel d c a b) ss->Ev (G++E) d i ss:=by
 have l:=wD a b;by_cases e:a=b
 ·subst e;rw[e4 rfl] at l;refine⟨S,[],a,#[6],by rw[eM];exact h,by rw[eM];exact w,by rw[eM];exact ha,by rw[eM];omega,by simp,λd ss k=>?_⟩
  ·unfold cK;simp
  unfold sel at k;simpa using k
 rw[cX e] at l;obtain⟨f,E,i,j,x,t,g,v⟩:=qD h w (r:=.ask c a b) ⟨hc,ha,hb,m,q,e⟩ hz;have p:=(b7.mp g).1;have n:=h.has "number_of" #[1];have s:Ky [.int c,.int a,.int b] (.tup [.int c,.int a,.int b])=aa (.tup [.int c,.int a,.int b]):=cG #[3];have j:ca [.loc L,.tup [.int c,.int a,.int b]] S=HC (.int (i:Nat)) f:=j;have u:¬ ((a:Int)=b):=#[2]
 refine⟨f,E,i,#[6],x,t,p,?_,v,λd ss k=>?_⟩
 ·unfold cK;simp[u,n,s,j]
 ·unfold HD.pl;rw[g];exact eG _
 unfold sel at k;cases ht:d c with
 |false=>rw[ht] at k;exact .no g ht (by simpa using k)
 |true=>rw[ht] at k;exact .yes g ht (by simpa using k)
def wV (B:Nat->ax MO)(L:Nat)(o:ae Nat)(G:ae Row)(C:ae (Row×Nat))(c i j N M:Nat)(out:Out D):Prop:=
 ∃ b E a r,out=HC (.int (r:Nat)) b/\SR B b L o (G++E) a/\Wf o (G++E)/\(∀ p∈a,Kl o (G++E) p.1 p.2)/\Kl o (G++E) (.ask c i j) r/\E.length<=N/\a.length<=C.length+M
theorem qy {r:Row}{v:Nat}(h:Kl o G r v):c9 r:=by
 cases r with
 |leaf _=>exact h.elim
 |ask _ _ _=>trivial
theorem SR.put (h:SR B S L o G C)(q:∀ p∈C,Kl o G p.1 p.2)(c i j v:Nat)(hz:C.length<16000000)(f:Hv) :
  ∃ d,om (.loc (L+3)) (aC (.ask c i j)) (.int v) f S=HC (.next f) d/\SR B d L o G (mT C (.ask c i j) v)/\i5 (.loc (L+3)) (aC (.ask c i j)) d=aa (.int v):=by
 have l:=jq (r:=.ask c i j) m7;have e:∀ p∈C,c9 p.1:=λp m=>qy (q p m);have s:S.set (L+3) (.HL (putN (j9 C) (aC (.ask c i j)) (.int v)))=S.set (L+3) (.HL (j9 (mT C (.ask c i j) v))):=by rw[xK e (r:=.ask c i j) m7]
 refine⟨S.set (L+3) (.HL (j9 (mT C (.ask c i j) v))),?_,⟨?_,?_,?_,da h.Nr,λk n=>by rw[cH #[0]];exact h.fr k n⟩,?_⟩
 ·unfold om;simp only[h.Nr,l];rw[dw ⟨by unfold j9;rw[dV];exact hv hz #[1],eC _⟩,s]
 ·rw[cH #[0]];exact h.obj
 ·rw[cH #[0]];exact h.Qm
 ·rw[cH #[0]];exact h.num
 have g:=da (b:=.HL (j9 (mT C (.ask c i j) v))) h.Nr;unfold i5;simp only[g,l,eC,ox];rw[← xK e (r:=.ask c i j) m7];exact yW (by rw[gQ (a:=.ask c i j) (b:=.ask c i j) m7 m7];simp)
theorem Ff {n x f a b:Nat}(h:x<n+1+f)(e:f<x)(d:f<a)(c:f<b):x<n+WG x (WG a b):=by have:f+1<=WG x (WG a b):=Nat.le_min.mpr ⟨e,Nat.le_min.mpr ⟨d,c⟩⟩;omega
theorem half {g p q N:Nat}(h:g+q<=N)(e:q=2*p):g+p<=N:=by omega
theorem Fp {g d p q l N:Nat}(h:g+q<=N)(e:q=2*p)(k:d<=p-1)(a : 1<=p)(b:l=g+d):l+p<=N:=by omega
theorem Fo {g d p q N:Nat}(h:g+q<=N)(e:q=2*p)(k:d<=g+(p-1))(a : 1<=p):d+p<=N:=by omega
theorem fW {G E:ae Row}{i:Nat}(h:i<G.length):i<(G++E).length:=by rw[cq];omega
theorem CF (nd:o.Nodup){F:Ht}{n:Nat}(IH:∀ {S:Hu}{G:ae Row}{C:ae (Row×Nat)}{c i j:Nat},SR B S L o G C->Wf o G->(∀ p∈C,Kl o G p.1 p.2)->c∈o->i<G.length->j<G.length->#[7]<n+WG (#[7]) (WG (HD.pl o G i) (HD.pl o G j))->G.length+2 ^ n<=16000000->C.length+2 ^ n<=16000000->wV B L o G C c i j (2 ^ n-1) (2 ^ n-1) (F [.loc L,.int c,.int i,.int j] S))
  {c i j:Nat}(h:SR B S L o G C) (w:Wf o G) (hC:∀ p∈C,Kl o G p.1 p.2) (hc:c∈o) (hi:i<G.length) (r:j<G.length) (s:#[7]<n+1+WG (#[7]) (WG (HD.pl o G i) (HD.pl o G j))) (hz:G.length+2 ^ (n+1)<=16000000) (PV:C.length+2 ^ (n+1)<=16000000) :
  wV B L o G C c i j (2 ^ (n+1)-1) (2 ^ (n+1)-2) (dB F [.loc L,.int c,.int i,.int j] S):=by
 have P : 2 ^ (n+1)=2*2 ^ n:=by rw[NH];omega
 have p1 : 1<=2 ^ n:=NL;obtain⟨f,t,I,e1⟩:=AI h w nd hc hi r;have gc:o.idxOf f<=#[7]:=I▸ZC _ _;have Q:o.idxOf f<=HD.pl o G i:=I▸fk (RF _ _) (ZC _ _);have Z:o.idxOf f<=HD.pl o G j:=I▸fk (RF _ _) (RF _ _);rw[← I] at s;have hq:=wD f c;have Vt:=h.has "first_character" #[1];have M5:=h.has "number_of_ask" #[1];have Vu:=h.has "side" #[1];have Xn:=h.has "choose" #[1];by_cases X:f=c
 ·subst X;rw[e4 rfl] at hq;have A:=jn h hi f bo;have J:=jn h r f a6;obtain⟨a1,a2,W⟩:=jm w hi bo hc Q;obtain⟨K,M,Y⟩:=jm w r a6 hc Z;obtain⟨S',E,v,U,sr,O,R,pv,hE,T⟩:=A6 h w hc a1 K a2 M #[0];refine⟨S',E,C,v,#[6],sr,O,λp s=>(hC p s).app w,⟨fW hi,fW r,R,#[2],λd g k=>?_⟩,#[2],#[2]⟩
  ·unfold dz;simp only[h5,mz,ox] at A J;simp[Vt,M5,Vu,e1,A,J,U]
  refine T d g ?_;have V:sel d f i j<G.length:=by unfold sel;split<;>assumption
  have k:=w.back V k;unfold sel at k ⊢;cases ht:d f with
  |false=>rw[ht] at k;exact(W d g ht (by simpa using k)).mono E
  |true=>rw[ht] at k;exact(Y d g ht (by simpa using k)).mono E
 rw[cX X] at hq;have JS:¬ ((f:Int)=c):=#[2]
 have N:o.idxOf f<#[7]:=by
  rcases Py gc with q |q
  ·exact q
  exfalso;apply X;have a1:=Ob (mv.mpr t);have a2:=Ob (mv.mpr hc);rw[← a1,← a2];congr 1
 have A:=jn h hi f bo;have J:=jn h r f bo;obtain⟨a1,a2,W⟩:=jm w hi bo t Q;obtain⟨K,M,Y⟩:=jm w r bo t Z;obtain⟨S1,e,C1,a,U,H,w1,Qn,Xo,l1,m1⟩:=IH h w hC hc a1 K (Ff s N a2 M) (half hz P) (half PV P);obtain⟨_,_,va,pa,Uc⟩:=Xo;have Vv:HD.pl o (G++e) i=HD.pl o G i:=cT hi;have Vw:HD.pl o (G++e) j=HD.pl o G j:=cT r;have z:i<(G++e).length:=fW hi;have u:j<(G++e).length:=fW r;have Sd:(G++e).length=G.length+e.length:=cq;have t1:=jn H z f a6;have t2:=jn H u f a6;obtain⟨c1,c2,c3⟩:=jm w1 z a6 t (Vv▸Q);obtain⟨d1,d2,d3⟩:=jm w1 u a6 t (Vw▸Z);have Xp:=H.has "side" #[1];have Xq:=H.has "choose" #[1];obtain⟨S2,l,C2,b,q2,PX,O,Ud,Xr,l2,m2⟩:=IH H w1 Qn hc c1 d1 (Ff s N c2 d2) (Fp hz P l1 p1 Sd) (Fo PV P m1 p1);obtain⟨_,_,vb,pb,Ue⟩:=Xr;have Xs:=PX.has "number_of_ask" #[1];have Vx:(G++e++l).length=G.length+e.length+l.length:=by rw[cq,Sd]
 rw[cT a1,cT K] at pa;rw[cT c1,cT d1] at pb;have ga:o.idxOf f<HD.pl o (G++e++l) a:=by rw[cT va];exact hv (lt_min.mpr ⟨N,lt_min.mpr ⟨a2,M⟩⟩) pa
 have gb:o.idxOf f<HD.pl o (G++e++l) b:=hv (lt_min.mpr ⟨N,lt_min.mpr ⟨c2,d2⟩⟩) pb;obtain⟨S3,m,v,q3,Ug,w3,R,pv,l3,T⟩:=A6 PX O (c:=f) (a:=a) (b:=b) t (fW va) vb ga gb #[0];have y:G++(e++l++m)=G++e++l++m:=by simp
 have Yf:(G++e++l++m).length=G.length+e.length+l.length+m.length:=by rw[cq,Vx]
 refine⟨S3,e++l++m,C2,v,#[6],by rw[y];exact Ug,by rw[y];exact w3,λp s=>by rw[y];exact(Ud p s).app O,?_,by rw[cq,cq];omega,#[2]⟩
 ·unfold dz;simp only[h5,mz,ox] at A J t1 t2;simp[Vt,Vu,Xn,e1,JS,A,J,U,Xp,Xq,t1,t2,q2,Xs,q3]
 rw[y];have px:HD.pl o (G++e++l++m) i=HD.pl o G i:=by rw[cT (fW z),cT z,Vv]
 have py:HD.pl o (G++e++l++m) j=HD.pl o G j:=by rw[cT (fW u),cT u,Vw]
 refine⟨fW (fW z),fW (fW u),R,by rw[px,py,← I];exact pv,λd g k=>?_⟩;refine T d g ?_;have V:sel d c i j<G.length:=by unfold sel;split<;>assumption
 have k:Ev G d (sel d c i j) g:=w.back (E:=e++l++m) V (by rw[y];exact k);cases ht:d f with
 |false =>
  have:Ev (G++e) d (sel d c (sd G i f bo) (sd G j f bo)) g:=by
   unfold sel at k ⊢;by_cases D:d c=a6
   ·rw[dw D] at k ⊢;exact(Y d g ht k).mono e
   rw[ee D] at k ⊢;exact(W d g ht k).mono e
  have:=Uc d g this;show Ev _ d (if d f=a6 then b else a) g;rw[ht];exact(this.mono l).mono m
 |true =>
  have x:Ev (G++e) d (sel d c i j) g:=k.mono e
  have:Ev (G++e++l) d (sel d c (sd (G++e) i f a6) (sd (G++e) j f a6)) g:=by
   unfold sel at x ⊢;by_cases D:d c=a6
   ·rw[dw D] at x ⊢;exact(d3 d g ht x).mono l
   rw[ee D] at x ⊢;exact(c3 d g ht x).mono l
  have:=Ue d g this;show Ev _ d (if d f=a6 then b else a) g;rw[ht];exact this.mono m
theorem q_ (nd:o.Nodup):∀ (n:Nat) {S:Hu}{G:ae Row}{C:ae (Row×Nat)}{c i j:Nat},SR B S L o G C->Wf o G->(∀ p∈C,Kl o G p.1 p.2)->c∈o->i<G.length->j<G.length->#[7]<n+WG (#[7]) (WG (HD.pl o G i) (HD.pl o G j))->G.length+2 ^ n<=16000000->C.length+2 ^ n<=16000000->wV B L o G C c i j (2 ^ n-1) (2 ^ n-1) (eN n [.loc L,.int c,.int i,.int j] S)
 | 0,S,G,C,c,i,j,h,w,d,hc,g,y,f,z,A=>hK f #[0]
 |n+1,S,G,C,c,i,j,h,w,d,hc,g,y,f,z,A=>by
  have t:=jq (r:=.ask c i j) m7;have I:∀ p∈C,c9 p.1:=λp f=>qy (d p f);have l:=Cs I (r:=.ask c i j) m7;have x:Ky [.int c,.int i,.int j] (.tup [.int c,.int i,.int j])=aa (.tup [.int c,.int i,.int j]):=cG #[3];have V : 1<=2 ^ n:=NL;have X : 2 ^ (n+1)=2*2 ^ n:=by rw[NH];omega
  have s:aC (.ask c i j) = .tup [.int c,.int i,.int j]:=rfl;cases hf:C.find? (λp=>dr (p.1=Row.ask c i j)) with
  |some p =>
   rw[hf] at l;have P:=List.mem_of_find?_eq_some hf;have O:p.1 = .ask c i j:=by simpa using Zz hf
   have b:=d p P;rw[O] at b;have e:oB a6 (aC (.ask c i j)) (.loc (L+3)) S=aa (.bl bo):=by unfold oB;simp only[h.Nr,t,eC,ox,l];rfl
   have a:i5 (.loc (L+3)) (aC (.ask c i j)) S=aa (.int (p.2:Nat)):=by unfold i5;simp only[h.Nr,t,eC,ox,l];rfl
   rw[s] at e a;refine⟨S,[],C,p.2,#[6],by rw[eM];exact h,by rw[eM];exact w,by rw[eM];exact d,by rw[eM];exact b,by simp,#[2]⟩;unfold eD;simp[x,h.Lw,e,a]
  |none =>
   rw[hf] at l;have e:oB a6 (aC (.ask c i j)) (.loc (L+3)) S=aa (.bl a6):=by unfold oB;simp only[h.Nr,t,eC,ox,l];rfl
   rw[s] at e;have K:=h.has "choose_anew" #[1];by_cases J:i=j
   ·subst J;have b:Kl o G (.ask c i i) i:=⟨g,g,g,#[2],λR T k=>by unfold sel at k;simpa using k⟩;obtain⟨u,ep,m,a⟩:=h.put d c i i i #[0] [aa (.loc L),aa (.int c),aa (.int i),aa (.int i),aa (.tup [.int c,.int i,.int i])];rw[s] at ep a;have pl:=t6 C (.ask c i i) i;refine⟨u,[],mT C (.ask c i i) i,i,#[6],by rw[eM];exact m,by rw[eM];exact w,by rw[eM];exact t7 d b,by rw[eM];exact b,by simp,#[2]⟩;unfold eD;simp[x,h.Lw,e,ep,m.Lw,a]
   have M:¬ ((i:Int)=j):=#[2]
   obtain⟨U,E,D,v,q,F,Q,H,b,N,W⟩:=CF nd (λ{S G C c i j}=>q_ nd n (S:=S) (G:=G) (C:=C) (c:=c) (i:=i) (j:=j)) h w d hc g y f z A;obtain⟨u,ep,m,a⟩:=F.put H c i j v #[0] [aa (.loc L),aa (.int c),aa (.int i),aa (.int j),aa (.tup [.int c,.int i,.int j])];rw[s] at ep a;have pl:=t6 D (.ask c i j) v;refine⟨u,E,mT D (.ask c i j) v,v,#[6],m,Q,t7 H b,b,N,#[2]⟩;unfold eD;simp[x,h.Lw,e,M,K,q,F.Lw,ep,m.Lw,a]
end
inductive KQ (m:Nat):Nat->D->Prop
 |leaf {k:Nat}{ss:ae ej}:(∀ x∈ss,bW x=a6)->Mc ss=a6->ss.length<=6->KQ m k (aC (.leaf ss))
 |ask {k c:Nat}{x y:D}:c<m->KQ m k x->KQ m k y->KQ m (k+1) (.tup [.str "ask",.int c,x,y])
inductive Kv (th:Th):D->ae ej->Prop
 |leaf {ss:ae ej}:Kv th (aC (.leaf ss)) ss
 |no {c:Nat}{x y:D}{ss:ae ej}:th c=bo->Kv th x ss->Kv th (.tup [.str "ask",.int c,x,y]) ss
 |yes {c:Nat}{x y:D}{ss:ae ej}:th c=a6->Kv th y ss->Kv th (.tup [.str "ask",.int c,x,y]) ss
theorem eqs (w s:ej):Iv (.str w) (.str s)=aa (.bl (dr (w=s))):=by rw[uJ rfl];rfl
theorem CD:¬ ("ask":ej)="names":=by decide
section
variable {B:Nat->ax MO}{L:Nat}{o:ae Nat}
theorem BW (nd:o.Nodup)(hl:o.length<=8){m:Nat}(ho:∀ c,c<m->c∈o){k:Nat}{d:D}(hd:KQ m k d):∀ (g:Nat) {S:Hu}{G:ae Row}{C:ae (Row×Nat)},k<g->SR B S L o G C->Wf o G->(∀ p∈C,Kl o G p.1 p.2)->G.length+512*2 ^ (k+1)<=16000000->C.length+512*2 ^ (k+1)<=16000000 ->
  ∃ F E P r,df g [.loc L,d] S=HC (.int (r:Nat)) F/\SR B F L o (G++E) P/\Wf o (G++E)/\(∀ p∈P,Kl o (G++E) p.1 p.2)/\r<(G++E).length/\E.length+512<=512*2 ^ (k+1)/\P.length+512<=C.length+512*2 ^ (k+1)/\∀ l ss,Kv l d ss->Ev (G++E) l r ss:=by
 induction hd with
 | @leaf k ss h1 h2 _ =>
  intro g S G C hf h w K Y PV;obtain⟨g,rfl⟩:∃ f,g=f+1:=⟨g-1,#[2]⟩;have Z : 1<=2 ^ k:=NL;have p2 : 2 ^ (k+1)=2*2 ^ k:=by rw[NH];omega
  obtain⟨F,E,i,N,sr,O,V,hE⟩:=qD h w (r:=.leaf ss) ⟨h1,h2⟩ #[0];have J:=h.has "number_of" #[1];have e0:Iy (aC (.leaf ss)) (.int 0) S=aa (.str "names"):=MD _ _ S;have z:=eqs "names" "names";rw[e4 rfl] at z;refine⟨F,E,C,i,#[6],sr,O,λp W=>(K p W).app w,(b7.mp V).1,#[2],#[2],λl MK k=>?_⟩
  ·unfold eW;simp[e0,z,J,N]
  generalize I:aC (.leaf ss)=D0 at k;cases k with
  |leaf =>
   have hs:ss=MK:=by simp only[aC,D.tup.injEq,N8,and_true,true_and] at I;exact(YQ (λa b h=>by cases h;rfl)).mp I
   subst hs;exact .leaf V
  |no=>simp[aC] at I
  |yes=>simp[aC] at I
 | @ask k c x y hc _ _ ix iy =>
  intro g S G C hf h w K Y PV;obtain⟨g,rfl⟩:∃ f,g=f+1:=⟨g-1,#[2]⟩;have Z : 1<=2 ^ (k+1):=NL;have p2 : 2 ^ (k+1+1)=2*2 ^ (k+1):=by rw[NH];omega
  obtain⟨S1,n,C1,A,N,Li,w1,Qn,v1,l1,m1,Uh⟩:=ix g #[0] h w K #[0] #[0];have X:(G++n).length=G.length+n.length:=cq;obtain⟨S2,s,C2,H,e2,PX,O,Ud,v2,l2,m2,Ui⟩:=iy g #[0] Li w1 Qn #[0] #[0];have Vx:(G++n++s).length=G.length+n.length+s.length:=by rw[cq,X]
  have R:=ho c hc;have Qi:#[7]<o.length:=mv.mpr R;have J:=h.has "choose" #[1];obtain⟨S3,t,Q,v,q3,Ug,w3,Xt,ch,T,U⟩:=q_ nd 9 PX O Ud R (i:=A) (j:=H) #[0] v2 #[0] (by show _+512<=_;omega) (by show _+512<=_;omega);obtain⟨_,_,vv,_,O3⟩:=ch;have T:t.length<=511:=T;have U:Q.length<=C2.length+511:=U;have u:G++(n++s++t)=G++n++s++t:=by simp
  have a0:Iy (.tup [.str "ask",.int c,x,y]) (.int 0) S=aa (.str "ask"):=MD _ _ S;have z:=eqs "ask" "names";rw[cX CD] at z;refine⟨S3,n++s++t,Q,v,#[6],by rw[u];exact Ug,by rw[u];exact w3,by rw[u];exact Xt,by rw[u];exact vv,by rw[cq,cq];omega,#[2],λl ss q=>?_⟩
  ·unfold eW;simp[MD,Oa,at2,W_,z,J,N,e2,q3]
  rw[u];refine O3 l ss ?_;cases q with
  |no M q =>
   have:Ev (G++n++s) l A ss:=(Uh l ss q).mono s;have e:sel l c A H=A:=by unfold sel;rw[M];rfl
   rw[e];exact this.mono t
  |yes M q =>
   have e:sel l c A H=H:=by unfold sel;rw[M];rfl
   rw[e];exact(Ui l ss q).mono t
end
inductive Tr where
 |leaf (ss:ae ej)
 |node (c:Nat) (n y:Tr)
 deriving DecidableEq
noncomputable def LR:Tr->Th->ae ej
 | .leaf b,_=>b
 | .node c n y,a=>if a c=a6 then LR y a else LR n a
noncomputable def tp (o:ae Nat):Tr->Nat
 | .leaf _=>o.length
 | .node c _ _=>o.idxOf c
noncomputable def Ord (o:ae Nat):Tr->Prop
 | .leaf _=>True
 | .node c n y=>c∈o/\Ord o n/\Ord o y/\#[7]<tp o n/\#[7]<tp o y/\n≠y
noncomputable def LU:Tr->Nat
 | .leaf _ => 1
 | .node _ n y=>LU n+LU y+1
noncomputable def upd (a:Th) (c:Nat) (b:e8):Th:=λx=>if x=c then b else a x
theorem HG (a:Th)(c:Nat)(b:e8):upd a c b c=b:=by simp[upd]
theorem mZ {o:ae Nat}{c:Nat}:∀ {t:Tr},Ord o t->#[7]<tp o t->∀ (a:Th) (b:e8),LR t (upd a c b)=LR t a
 | .leaf _,_,_,_,_=>rfl
 | .node d n y,h,f,a,b=>by
  obtain⟨_,m,l,p,q,_⟩:=h;have f:#[7]<o.idxOf d:=f;have g:¬ d=c:=λe=>by rw[e] at f;omega
  have k:=mZ m (show #[7]<tp o n by omega) a b;have j:=mZ l (show #[7]<tp o y by omega) a b;have i:upd a c b d=a d:=by simp[upd,g]
  show (if upd a c b d=a6 then LR y (upd a c b) else LR n (upd a c b))=_;rw[k,j,i];rfl
theorem Da {o:ae Nat}{c:Nat}{n y:Tr}(h:Ord o (.node c n y))(a:Th):LR (.node c n y) (upd a c bo)=LR n a:=by show (if upd a c bo c=a6 then _ else LR n (upd a c bo))=_;rw[HG,mZ h.2.1 h.2.2.2.1];rfl
theorem Bg {o:ae Nat}{c:Nat}{n y:Tr}(h:Ord o (.node c n y))(a:Th):LR (.node c n y) (upd a c a6)=LR y a:=by show (if upd a c a6 c=a6 then LR y (upd a c a6) else _)=_;rw[HG,mZ h.2.2.1 h.2.2.2.2.1];rfl
inductive Un (G:ae Row):Nat->Tr->Prop
 |leaf {i:Nat}{ss:ae ej}:G[i]?=aa (.leaf ss)->Un G i (.leaf ss)
 |node {i c n y:Nat}{s t:Tr}:G[i]?=aa (.ask c n y)->Un G n s->Un G y t->Un G i (.node c s t)
theorem Un.det {G:ae Row}{i:Nat}{s t:Tr}(h:Un G i s)(g:Un G i t):s=t:=by
 induction h generalizing t with
 |leaf h=>cases g with
  |leaf c=>rw[h] at c;cases c;rfl
  |node c=>rw[h] at c;cases c
 |node h _ _ e d=>cases g with
  |leaf c=>rw[h] at c;cases c
  |node c a b=>rw[h] at c;cases c;rw[e a,d b]
theorem Un.ev {G:ae Row}{i:Nat}{t:Tr}(h:Un G i t)(a:Th):Ev G a i (LR t a):=by
 induction h with
 |leaf h=>exact .leaf h
 | @node i c n y s t h _ _ d b =>
  cases ht:a c with
  |false=>exact .no h ht (by rw[LR,ht];exact d)
  |true=>exact .yes h ht (by rw[LR,ht];exact b)
theorem Wf.un {o:ae Nat}{G:ae Row}(w:Wf o G):∀ (i:Nat),i<G.length->∃ t,Un G i t:=by
 intro i
 induction i using WY with
 |_ i a =>
  intro f;have e:G[i]?=aa G[i]:=a4 f;have q:=w.row i _ e;cases hr:G[i] with
  |leaf j=>rw[hr] at e;exact⟨_,.leaf e⟩
  |ask c n y =>
   rw[hr] at e q;obtain⟨_,b,h,_⟩:=q;obtain⟨s,g⟩:=a n b #[0];obtain⟨t,d⟩:=a y h #[0];exact⟨_,.node e g d⟩
theorem Un.inj {G:ae Row}(nd:G.Nodup){i:Nat}{t:Tr}(h:Un G i t):∀ {j:Nat},Un G j t->i=j:=by
 have key:∀ {a b:Nat}{r:Row},G[a]?=aa r->G[b]?=aa r->a=b:=by intro a b r f hb;have p:=(b7.mp f).1;have o:=(b7.mp hb).1;have l:=(b7.mp f).2;have k:=(b7.mp hb).2;have e:=nd.idxOf_getElem a p;have d:=nd.idxOf_getElem b o;rw[← e,← d,l,k]
 induction h with
 |leaf h=>intro j g;cases g with
  |leaf c=>exact key h c
 |node h _ _ e d=>intro j g;cases g with
  |node c a b =>
   have n:=e a;have m:=d b;subst n m;exact key h c
theorem Un.pl {o:ae Nat}{G:ae Row}{i:Nat}{t:Tr}(h:Un G i t):HD.pl o G i=tp o t:=by
 unfold HD.pl;cases h with
 |leaf h=>rw[h];rfl
 |node h _ _=>rw[h];rfl
noncomputable def po:Tr->ae Tr->ae Tr
 | .leaf b,a=>if Tr.leaf b∈a then a else a++[.leaf b]
 | .node c n y,a=>if Tr.node c n y∈a then a else po y (po n a)++[.node c n y]
noncomputable def Ec (P:ae Tr):Tr->Row
 | .leaf a => .leaf a
 | .node c n y => .ask c (P.idxOf n) (P.idxOf y)
noncomputable def enc (P:ae Tr):ae Row:=P.map (Ec P)
open Classical in
noncomputable def uT (G:List Row) (i:Nat):Tr:=if h:∃ t,Un G i t then Classical.choose h else .leaf []
theorem Un.uT {G:ae Row}{i:Nat}{t:Tr}(h:Un G i t):HD.uT G i=t:=by unfold HD.uT;have e:∃ t,Un G i t:=⟨t,h⟩;rw[dif_pos e];exact(Classical.choose_spec e).det h
theorem Wf.uT {o:ae Nat}{G:ae Row}(w:Wf o G){i:Nat}(hi:i<G.length):Un G i (HD.uT G i):=by obtain⟨t,h⟩:=w.un i hi;rw[h.uT];exact h
theorem rJ {o:ae Nat}{G:ae Row}(w:Wf o G){i j:Nat}(hi:i<G.length)(a:j<G.length)(h:HD.uT G i=HD.uT G j):i=j:=
 Un.inj w.nd (w.uT hi) (h▸w.uT a)
theorem nN {o:ae Nat}{G:ae Row}(w:Wf o G){a:ae Nat}(d:∀ i∈a,i<G.length){j:Nat}(c:j<G.length)(h:HD.uT G j∈a.map (HD.uT G)):j∈a:=by obtain⟨k,b,e⟩:=vl.mp h;rw[← rJ w (d k b) c e];exact b
theorem di {t:Tr}{a:ae Tr}(h:t∈a):po t a=a:=by cases t<;>(unfold po;rw[dw h])
theorem dL {ss:ae ej}{a:ae Tr}(h:Tr.leaf ss∉a):po (.leaf ss) a=a++[.leaf ss]:=by unfold po;rw[ee h]
theorem dJ {c:Nat}{n y:Tr}{a:ae Tr}(h:Tr.node c n y∉a):po (.node c n y) a=po y (po n a)++[.node c n y]:=by rw[po,ee h]
noncomputable def lf (a:ae Nat):ae (D×D):=a.map λ(k:Nat)=>(D.int k,D.bl a6)
theorem jp (a b:Nat):fP (.int a) (.int b)=dr (a=b):=by
 unfold fP;by_cases h:a=b
 ·simp[h]
 rw[cX h];have:¬ ((a:Int)=b):=#[2]
 simp[fu,this]
theorem xn (k:Nat):∀ b:ae Nat,((lf b).find? λp=>fP p.1 (.int k)).isSome=dr (k∈b)
 |[]=>by simp[lf]
 |a::b=>by
  have c:=xn k b;unfold lf at c ⊢;rw[hA,o3];simp only[jp];by_cases h:a=k
  ·simp[h]
  rw[cX h];simp only;rw[c];have:¬ k=a:=λe=>h e.symm;simp[this]
theorem DW (k:Nat)(b:ae Nat):((lf b).any λp=>fP p.1 (.int k))=dr (k∈b):=by
 induction b with
 |nil=>simp[lf]
 |cons a b c =>
  unfold lf at c ⊢;rw[hA,J7,c,jp];by_cases h:a=k
  ·simp[h]
  have:¬ k=a:=λe=>h e.symm;simp[h,this]
theorem Ap {k:Nat}{a:ae Nat}(h:k∉a):putD (lf a) (.int k) (.bl a6)=lf (a++[k]):=by unfold putD;rw[DW,cX h,ee #[1]];unfold lf;rw[r4];rfl
theorem CV {S:Hu}{l:Nat}{a:ae Nat}(h:S[l]?=aa (.dict (lf a)))(k:Nat):Kn a6 (.int k) (.loc l) S=aa (.bl (!dr (k∈a))):=by unfold Kn;rw[dw rfl];unfold Co;simp only[h,fu];unfold getD;rw[Sl,xn];rfl
structure Cl (G:ae Row) (Ls:ae Nat):Prop where
 nd:Ls.Nodup
 lt:∀ i∈Ls,i<G.length
 dn:∀ (p i c n y:Nat),Ls[p]?=aa i->G[i]?=aa (.ask c n y)->n∈Ls.take p/\y∈Ls.take p
theorem Cl.snoc {G:ae Row}{d:ae Nat}(h:Cl G d){j:Nat}(g:j<G.length)(l:j∉d)(hc:∀ c n y,G[j]?=aa (.ask c n y)->n∈d/\y∈d):Cl G (d++[j]):=by
 refine⟨I0.mpr ⟨h.nd,by simp,λa k b hb=>?_⟩,λi hi=>?_,λp i c n y e f=>?_⟩
 ·rw[eR.mp hb];rintro rfl;exact l k
 ·rcases il.mp hi with hi |hi
  ·exact h.lt i hi
  rw[eR.mp hi];exact g
 rcases Q9 p d.length with hl |hl |hl
 ·rw[gh hl] at e;rw[NY (qs hl)];exact h.dn p i c n y e f
 ·subst hl;have:i=j:=by simpa using e.symm
  subst this;rw[NY (eG _),Zv];exact hc c n y f
 rw[f5 #[0]] at e;have:([j]:ae Nat)[p-d.length]?=av:=by rw[TL];simp;omega
 rw[this] at e;cases e
section
variable {L:Nat}{o:ae Nat}{G:ae Row}
theorem pC (r:Row)(S:Hu):bS [aC r] S=HC (.tup (match r with | .leaf _=>[] | .ask _ n y=>[.int n,.int y])) S:=by
 have a:=nu r S;refine #[6];unfold kM;cases r with
 |leaf d =>
  have b:Ky [] (.tup [])=aa (.tup []):=cG #[3];simp[a,b]
 |ask c n y =>
  have:IX (aC (.ask c n y)) (aa 1) av=aa (.tup [.int n,.int y]):=rfl;simp[a,dF,this]
def xU (F:Ht)(w:Nat)(N:Nat)(G:ae Row)(o:ae Nat)(g:Nat):Prop:=
 ∀ (j:Nat) (a:ae Nat) (S:Hu) (l:Nat),o.length+1<=w+HD.pl o G j->j<G.length->j∉a->S[g]?=aa (.lst (G.map aC))->S[l]?=aa (.dict (lf a))->g≠l->Cl G a->a.length+N<=10000 ->
  ∃ X,F [.loc g,.int j,.loc l] S=HC .Ic (S.set l (.dict (lf (a++X++[j]))))/\Cl G (a++X++[j])/\(∀ x∈X,x<j)/\X.length+1<=N/\(a++X++[j]).map (HD.uT G)=po (HD.uT G j) (a.map (HD.uT G))
theorem oK {F:Ht}{w N g:Nat}(u:xU F w N G o g)(j k:Nat)(a:ae Nat)(S:Hu)(l:Nat)(r:o.length+1<=w+HD.pl o G k)(p:k<G.length)(t:S[g]?=aa (.lst (G.map aC)))(d:S[l]?=aa (.dict (lf a)))(f:g≠l)(hc:Cl G a)(s:a.length+N<=10000) :
  ∃ X,bj F [aa (.loc g),aa (.int j),aa (.loc l),aa (.int k)] S=HC (.next [aa (.loc g),aa (.int j),aa (.loc l),aa (.int k)]) (S.set l (.dict (lf (a++X))))/\Cl G (a++X)/\(∀ x∈X,x<=k)/\k∈a++X/\X.length<=N/\(a++X).map (HD.uT G)=po (HD.uT G k) (a.map (HD.uT G)):=by
 have c:=CV d k;by_cases b:k∈a
 ·rw[e4 b] at c
  have m:S.set l (.dict (lf (a++[])))=S:=by
   rw[eM];apply Qf;intro i;by_cases e:l=i
   ·subst e;rw[da d,d]
   rw[cH e]
  refine⟨[],?_,by rw[eM];exact hc,(λx hx=>by cases hx),by rw[eM];exact b,by simp,by rw[eM,di (P_ b)]⟩;rw[m];unfold bj;simp[c]
 rw[cX b] at c;obtain⟨X,q,n,h,nx,v⟩:=u k a S l r p b t d f hc s;refine⟨X++[k],?_,by rw[← gv];exact n,λx hx=>?_,by simp,by simpa using nx,by rw[← gv];exact v⟩
 ·unfold bj;simp[c,q]
 rcases il.mp hx with hx |hx
 ·exact qs (h x hx)
 rw[eR.mp hx];exact eG _
theorem uq (w:Wf o G)(g:Nat):∀ b:Nat,xU (aP b) b (2 ^ b-1) G o g
 | 0,j,a,S,l,I,_,_,_,_,_,_,_=>hK I (by have:=zQ o G j;omega)
 |n+1,j,a,S,l,I,hj,hnm,hg,hl,O4,hc,hN=>by
  have M:=uq w g n;have p2 : 2 ^ (n+1)=2*2 ^ n:=by rw[NH];omega
  have p1 : 1<=2 ^ n:=NL;have e:G[j]?=aa G[j]:=a4 hj;have q:=w.row j _ e;have Q:gY (.loc g) S=aa (G.map aC):=by unfold gY;simp only[hg]
  have v:ux (.loc g) (.int j) S=aa (aC G[j]):=by show ((gY (.loc g) S).bind λO=>KN O (j:Int))=_;rw[Q,p0];exact bM (by rw[eh,e];rfl)
  have u:=pC G[j] S;have J:bi (.loc g)=a6:=rfl;have U:∀ k:Nat,fu (.int k)=aa (.inl (k:Int)):=λk=>rfl
  have finish:∀ (f:ae Nat) (s:Hu) (z:ax D),s=S.set l (.dict (lf f))->j∉f->f.length<=20000->u3 (af 2) (af 1) (ar (.bl a6)) [aa (.loc g),aa (.int j),aa (.loc l),z] s=HC (.next [aa (.loc g),aa (.int j),aa (.loc l),z]) (S.set l (.dict (lf (f++[j])))):=by
   intro f s z K Z t;have P:s[l]?=aa (.dict (lf f)):=by rw[K];exact da hl
   have R:(lf f).length<dk:=by unfold lf;rw[dV];exact Sm t #[1]
   have:pQ (.loc l) (.int j) (.bl a6) [aa (.loc g),aa (.int j),aa (.loc l),z] s=HC (.next [aa (.loc g),aa (.int j),aa (.loc l),z]) (S.set l (.dict (lf (f++[j])))):=by unfold pQ;simp only[P,U];rw[dw R,Ap Z,K,Wy]
   simp[this]
  cases hr:G[j] with
  |leaf C =>
   rw[hr] at u v
   have fin:=finish a S av (by
    apply Qf;intro i;by_cases F:l=i
    ·subst F;rw[da hl,hl]
    rw[cH F]) hnm #[0]
   have m:HD.uT G j = .leaf C:=(Un.leaf (by rw[e,hr])).uT;have B:Tr.leaf C∉a.map (HD.uT G):=λh=>hnm (nN w hc.lt hj (by rw[m];exact h));refine⟨[],?_,?_,(λx hx=>by cases hx),by simp;omega,by rw[eM,m,dL B,r4,hA,RE,m]⟩
   ·rw[eM];unfold aP bq;rw[dw (show ([.loc g,.int j,.loc l]:ae D).length=3 from rfl)]
    have:bQ (aP n) ([.loc g,.int j,.loc l].map aa++el 1 av) S=HC (.next [aa (.loc g),aa (.int j),aa (.loc l),av]) (S.set l (.dict (lf (a++[j])))):=by
     unfold bQ;show aM _ _ [aa (.loc g),aa (.int j),aa (.loc l),av] S=_;rw[xE];have:ka (cF (aY bS (ag (u5 (af 0) (af 1)) aD))) (aJ 3) (bj (aP n)) [aa (.loc g),aa (.int j),aa (.loc l),av] S=HC (.next [aa (.loc g),aa (.int j),aa (.loc l),av]) S:=by simp[J,v,u,bN,dC]
     rw[this];exact fin
    rw[this];rfl
   rw[eM];exact hc.snoc hj hnm λc n y h=>by rw[e,hr] at h;cases h
  |ask c A p =>
   rw[hr] at u v q;obtain⟨_,b1,b2,b3,b4,_⟩:=q;have pj:HD.pl o G j=#[7]:=by unfold HD.pl;rw[e,hr]
   obtain⟨d,V,Y,N,m1,n1,t1⟩:=oK M j A a S l #[0] #[0] hg hl O4 hc #[0];have T:(S.set l (.dict (lf (a++d))))[g]?=aa (.lst (G.map aC)):=by rw[cH (vu O4)];exact hg
   have W:(S.set l (.dict (lf (a++d))))[l]?=aa (.dict (lf (a++d))):=da hl;obtain⟨r,L,X,H,m2,n2,t2⟩:=oK M j p (a++d) _ l #[0] #[0] T W O4 Y (by rw[cq];omega);rw[Wy] at L
   have E:j∉a++d++r:=by
    intro hm;rcases il.mp hm with hm |hm
    ·rcases il.mp hm with hm |hm
     ·exact hnm hm
     have:=N j hm;omega
    have:=H j hm;omega
   have fin:=finish (a++d++r) _ (aa (.int p)) rfl E (by rw[cq,cq];omega);have m:HD.uT G j = .node c (HD.uT G A) (HD.uT G p):=(Un.node (by rw[e,hr]) (w.uT #[0]) (w.uT #[0])).uT;have B:Tr.node c (HD.uT G A) (HD.uT G p)∉a.map (HD.uT G):=λh=>hnm (nN w hc.lt hj (by rw[m];exact h));refine⟨d++r,?_,?_,λx hx=>?_,by rw[cq];omega,by rw[← gv,r4,t2,t1,m,dJ B,hA,RE,m]⟩
   ·unfold aP bq;rw[dw (show ([.loc g,.int j,.loc l]:ae D).length=3 from rfl)]
    have:bQ (aP n) ([.loc g,.int j,.loc l].map aa++el 1 av) S=HC (.next [aa (.loc g),aa (.int j),aa (.loc l),aa (.int p)]) (S.set l (.dict (lf (a++(d++r)++[j])))):=by
     unfold bQ;show aM _ _ [aa (.loc g),aa (.int j),aa (.loc l),av] S=_;rw[xE];have:ka (cF (aY bS (ag (u5 (af 0) (af 1)) aD))) (aJ 3) (bj (aP n)) [aa (.loc g),aa (.int j),aa (.loc l),av] S=HC (.next [aa (.loc g),aa (.int j),aa (.loc l),aa (.int p)]) (S.set l (.dict (lf (a++d++r)))):=by simp[J,v,u,bN,dC,V,L]
     rw[this];simp only[cZ];rw[← gv a d r];exact fin
    rw[this];rfl
   ·rw[← gv];refine X.snoc hj E λc' n y h=>?_;rw[e,hr] at h;cases h;exact⟨n6 _ m1,m2⟩
   rcases il.mp hx with hx |hx
   ·have:=N x hx;omega
   have:=H x hx;omega
end
noncomputable def bn (p:Nat):ae Nat->ae (D×D)
 |[]=>[]
 |k::r=>(.int k,.int p)::bn (p+1) r
theorem z8:∀ (l:ae Nat) (p:Nat),(bn p l).length=l.length
 |[],_=>rfl
 |k::r,p=>by rw[bn,hD,hD,z8 r]
theorem z_ (k:Nat):∀ (l:ae Nat) (p:Nat),((bn p l).any λq=>fP q.1 (.int k))=dr (k∈l)
 |[],_=>by simp[bn]
 |a::l,p=>by
  rw[bn,J7,z_ k l,jp];by_cases h:a=k
  ·simp[h]
  have:¬ k=a:=λe=>h e.symm;simp[h,this]
theorem z9 (k:Nat):∀ (l:ae Nat) (p:Nat),getD (bn p l) (.int k)=if k∈l then aa (.int ((p+l.idxOf k:Nat):Int)) else av
 |[],_=>rfl
 |a::l,p=>by
  have c:=z9 k l (p+1);unfold L2.getD at c ⊢;rw[bn,o3];simp only[jp];by_cases h:a=k
  ·subst h;simp
  rw[cX h];simp only;rw[c];have d:¬ k=a:=λe=>h e.symm;have f:(a==k)=bo:=by simpa using h
  by_cases b:k∈l
  ·rw[dw b,dw (d7 _ b),Q5,f];simp only[cond_false];congr 2;omega
  rw[ee b,ee (by rw[gi];exact λq=>q.elim d b)]
theorem xl:∀ (l:ae Nat) (p k:Nat),bn p (l++[k])=bn p l++[(.int k,.int ((p+l.length:Nat):Int))]
 |[],p,k=>rfl
 |a::l,p,k=>by
  rw[Uw,bn,xl l (p+1) k,bn,Uw,hD,show p+1+l.length=p+(l.length+1) by omega]
theorem DS {k:Nat}{l:ae Nat}(h:k∉l):putD (bn 0 l) (.int k) (.int l.length)=bn 0 (l++[k]):=by unfold putD;rw[z_,cX h,ee #[1],xl,n7]
noncomputable def O5 (a:ae Nat):Row->Row
 | .leaf b => .leaf b
 | .ask c n y => .ask c (a.idxOf n) (a.idxOf y)
noncomputable def FR (a:ae Nat)(G:ae Row):ae Row:=a.map λk=>O5 a ((G[k]?).getD (.leaf []))
def Wr (o:ae Nat)(G:ae Row):Prop:=∀ (i:Nat) (r:Row),G[i]?=aa r->Ku o G i r
section
variable {B:Nat->ax MO}{L:Nat}{o:ae Nat}{G:ae Row}
theorem pL {a:ae Nat}(h:Cl G a){p k:Nat}(b:a[p]?=aa k):∃ r,G[k]?=aa r/\(FR a G)[p]?=aa (O5 a r):=by have c:=h.lt k (mx b);refine⟨G[k],a4 c,?_⟩;unfold FR;rw[eh,b,Vq,a4 c];rfl
theorem fx {a:ae Nat}{k:Nat}(h:k∈a):a[a.idxOf k]?=aa k:=by have b:=mv.mpr h;rw[a4 b,Ob b]
theorem C4 {a:ae Nat}(h:Cl G a){k:Nat}(c:k∈a):HD.pl o (FR a G) (a.idxOf k)=HD.pl o G k:=by obtain⟨r,b,d⟩:=pL h (fx c);unfold HD.pl;rw[b,d];cases r<;>rfl
theorem wz {a:ae Nat}{k p:Nat}(h:k∈a.take p):a.idxOf k<p:=by
 have c:(a.take p).idxOf k<(a.take p).length:=mv.mpr h;have b:(a.take p).length<=p:=List.length_take_le ..
 have e:a.idxOf k=(a.take p).idxOf k:=by
  conv=>lhs;rw[← QF p a]
  rw[Uy,dw h]
 omega
theorem FN {b:ae Nat}(w:Wf o G)(h:Cl G b):Wr o (FR b G):=by
 intro p r a;have i:p<b.length:=by have:=(b7.mp a).1;simpa [FR] using this
 obtain⟨r0,g,s⟩:=pL h (a4 i);rw[s] at a;cases a;have q:=w.row _ _ g;cases r0 with
 |leaf u=>exact q
 |ask c n y =>
  obtain⟨a1,a2,v,t,m,l⟩:=q;obtain⟨f,j⟩:=h.dn p _ c n y (a4 i) g;have m1:=wq f;have m2:=wq j;refine⟨a1,wz f,wz j,by rw[C4 h m1];exact t,by rw[C4 h m2];exact m,λe=>l ?_⟩;have d:=fx m1;have k:=fx m2;rw[e,k] at d;exact(kx d).symm
theorem FO {g:ae Nat}(h:Cl G g){l:Th}{i:Nat}{ss:ae ej}(e:Ev G l i ss):i∈g->Ev (FR g G) l (g.idxOf i) ss:=by
 induction e with
 | @leaf i ss d =>
  intro b;obtain⟨r,a,f⟩:=pL h (fx b);rw[d] at a;cases a;exact .leaf f
 | @no i c n y ss d k _ j =>
  intro b;obtain⟨r,a,f⟩:=pL h (fx b);rw[d] at a;cases a;obtain⟨m,o⟩:=h.dn _ _ c n y (fx b) d;exact .no f k (j (wq m))
 | @yes i c n y ss d k _ j =>
  intro b;obtain⟨r,a,f⟩:=pL h (fx b);rw[d] at a;cases a;obtain⟨m,o⟩:=h.dn _ _ c n y (fx b) d;exact .yes f k (j (wq o))
theorem yL (w:Wf o G)(m:o.length<=8){S:Hu}{g i:Nat}(a:S[g]?=aa (.lst (G.map aC)))(hi:i<G.length):∃ X,cN [.loc g,.int i] S=HC (.lst ((X++[i]).map λ(k:Nat)=>D.int k)) (S++[.dict (lf (X++[i]))])/\Cl G (X++[i])/\X.length<=1022/\(X++[i]).map (HD.uT G)=po (HD.uT G i) []:=by
 have d:g<S.length:=(b7.mp a).1;have j:(S++[MO.dict (lf [])])[g]?=aa (.lst (G.map aC)):=by rw[gh d];exact a
 have l:(S++[MO.dict (lf [])])[S.length]?=aa (.dict (lf [])):=by simp
 obtain⟨X,q,c,_,n,b⟩:=uq w g 10 i [] (S++[.dict (lf [])]) S.length #[0] hi #[3] j l #[0] ⟨Q4,(λi h=>by cases h),(λp i c n y h=>by simp at h)⟩ #[1];rw[N0] at q c b;have es:(S++[MO.dict (lf [])]).set S.length (.dict (lf (X++[i])))=S++[.dict (lf (X++[i]))]:=by simp
 rw[es] at q;have n:X.length<=1022:=by have:X.length+1<=1023:=n;omega
 have q:aP 10 [.loc g,.int i,#[12]] (S++[.dict []])=HC .Ic (S++[.dict (lf (X++[i]))]):=q;have f:(lf (X++[i])).length<=dk:=by unfold lf;rw[dV,cq];exact fk (show X.length+1<=2000 by omega) #[1]
 have e:d4 (#[12]) (S++[.dict (lf (X++[i]))])=aa (.lst ((X++[i]).map λ(k:Nat)=>D.int k)):=by unfold d4;simp only[RU];rw[dw f];unfold lf;rw[lE];rfl
 refine⟨X,#[6],c,n,b⟩;unfold fX;simp[q,e,-r4]
theorem Bd {S:Hu}{l:Nat}{a:ae Nat}(m:S[l]?=aa (.dict (bn 0 a)))(r:Row)(hr:∀ c n y,r = .ask c n y->n∈a/\y∈a):f8 [aC r,.loc l] S=HC (aC (O5 a r)) S:=by
 have b:=nu r S;refine #[6];unfold i9;cases r with
 |leaf o=>simp[b,O5]
 |ask c n y =>
  obtain⟨f,j⟩:=hr c n y rfl;have d:Iy (aC (.ask c n y)) (.int 0) S=aa (.int c):=MD _ _ S;have i:Iy (aC (.ask c n y)) (.int 1) S=aa (.int n):=Oa _ _ _ S;have h:Iy (aC (.ask c n y)) (.int 2) S=aa (.int y):=at2 _ _ _ _ S;have gt:∀ k,k∈a->Iy (.loc l) (.int (k:Nat)) S=aa (.int (a.idxOf k:Nat)):=λk g=>by have:=z9 k a 0;rw[dw g,n7] at this;unfold Iy;rw[dw (show bi (.loc l)=a6 from rfl)];unfold xG;simp only[m,fu];exact this
  have e:Ky [.int c,.int (a.idxOf n:Nat),.int (a.idxOf y:Nat)] (.tup [.int c,.int (a.idxOf n:Nat),.int (a.idxOf y:Nat)])=aa (aC (O5 a (.ask c n y))):=cG #[3];simp[b,d,i,h,gt n f,gt y j,e];rfl
theorem fold_eq {S:Hu}{C:ae (Row×Nat)}(h:SR B S L o G C)(w:Wf o G)(Q:o.length<=8){i:Nat}(hi:i<G.length):∃ f j,eA [.loc L,.int i] S=HC (.tup ((FR (f++[i]) G).map aC)) j/\Cl G (f++[i])/\f.length<=1022/\(f++[i]).map (HD.uT G)=po (HD.uT G i) []/\∃ x y,j=S++[x,y]:=by
 obtain⟨X,q,c,O,px⟩:=yL w Q h.Qm hi;generalize r:X++[i]=f at *
 have Yg:f.length<=1023:=by rw[← r,cq];simp;omega
 generalize z:S++[MO.dict (lf f)]=S1 at *
 have m:SR (λi=>S1[i]?) S1 L o G C:=by
  have IM:L+3<S.length:=(b7.mp h.Nr).1;refine⟨?_,?_,?_,?_,λ_ _=>rfl⟩<;>rw[← z,gh #[0]]
  ·exact h.obj
  ·exact h.Qm
  ·exact h.num
  exact h.Nr
 have Xu:L+3<S1.length:=(b7.mp m.Nr).1;have P:∀ k:Nat,fu (.int k)=aa (.inl (k:Int)):=λk=>rfl
 obtain⟨U,j,H,F⟩:=i6 (u:=nM 2 (cm (aJ 4) (cm (aJ 5) jH))) (body:=dA)
  (λp g j=>p<=f.length/\j=S1++[.dict (bn 0 (f.take p))]/\∃ a b,g=[aa (.loc L),aa (.int i),aa (.lst (f.map λ(k:Nat)=>D.int k)),aa (.loc S1.length),a,b])
  (bX 0 (f.map λ(k:Nat)=>D.int k)) 0 [aa (.loc L),aa (.int i),aa (.lst (f.map λ(k:Nat)=>D.int k)),aa (.loc S1.length),av,av] (S1++[.dict []]) ⟨#[2],rfl,av,av,rfl⟩ (by
   rintro p dd g j s ⟨Io,rfl,a,b,rfl⟩;rw[b9] at s;obtain⟨x,E,rfl⟩:=dv.mp s;rw[eh] at E;obtain⟨k,l,rfl⟩:=dv.mp E;have Z:p<f.length:=(b7.mp l).1;simp only[n7] at *
   have M:k∉f.take p:=by
    intro I;have h1:=wz I;have h2:f.idxOf k=p:=by have:=(b7.mp l).2;rw[← this];exact c.nd.idxOf_getElem p Z
    omega
   have lt:(f.take p).length=p:=by rw[Jj];omega
   have tk:f.take (p+1)=f.take p++[k]:=by rw[List.take_succ,l];rfl
   have N:(bn 0 (f.take p)).length<dk:=by rw[z8,lt];exact hv (show p<2000 by omega) #[1]
   have Y:(S1++[MO.dict (bn 0 (f.take p))])[S1.length]?=aa (.dict (bn 0 (f.take p))):=by simp
   have v:=DS M;rw[lt] at v;have ep:∀ g,pQ (.loc S1.length) (.int k) (.int p) g (S1++[.dict (bn 0 (f.take p))])=HC (.next g) (S1++[.dict (bn 0 (f.take (p+1)))]):=λg=>by unfold pQ;simp only[Y,P];rw[dw N,v,tk];simp
   refine⟨[aa (.loc L),aa (.int i),aa (.lst (f.map λ(k:Nat)=>D.int k)),aa (.loc S1.length),aa (.int p),aa (.int k)],rfl,[aa (.loc L),aa (.int i),aa (.lst (f.map λ(k:Nat)=>D.int k)),aa (.loc S1.length),aa (.int p),aa (.int k)],S1++[.dict (bn 0 (f.take (p+1)))],?_,#[2],rfl,aa (.int p),aa (.int k),rfl⟩;unfold dA
   simp[ep])
 simp only[n7,bR,dV,Zv] at F;obtain⟨_,rfl,a,b,rfl⟩:=F
 have A:SR (λi=>(S1++[MO.dict (bn 0 f)])[i]?) (S1++[.dict (bn 0 f)]) L o G C:=by
  refine⟨?_,?_,?_,?_,λ_ _=>rfl⟩<;>rw[gh #[0]]
  ·exact m.obj
  ·exact m.Qm
  ·exact m.num
  exact m.Nr
 have Xw:(S1++[MO.dict (bn 0 f)])[S1.length]?=aa (.dict (bn 0 f)):=by simp
 have t:=d8 (u:=aJ 0) (fe:=cs) (λg => ∃ y,g=[y,aa (.loc S1.length),aa (.loc L)]) (λd=>match d with | .int k=>aC (O5 f ((G[k.toNat]?).getD (.leaf []))) |_ => .Ic) (S1++[.dict (bn 0 f)]) (f.map λ(k:Nat)=>D.int k)
  (cL 1 [3,0] [aa (.loc L),aa (.int i),aa (.lst (f.map λ(k:Nat)=>D.int k)),aa (.loc S1.length),a,b]) ⟨av,rfl⟩ (by
   rintro d hd g ⟨y,rfl⟩;obtain⟨k,l,rfl⟩:=vl.mp hd;refine⟨_,rfl,⟨_,rfl⟩,?_⟩;have W:=c.lt k l;have e:G[k]?=aa G[k]:=a4 W;have er:=A.row e;have J:=Bd Xw G[k] λc' n y hr=>by obtain⟨R,d2⟩:=c.dn _ k c' n y (fx l) (by rw[e,hr]);exact⟨wq R,wq d2⟩
   have V:(G[(k:Int).toNat]?).getD (.leaf [])=G[k]:=by rw[nq,e];rfl
   show cs [aa (.int k),aa (.loc S1.length),aa (.loc L)] (S1++[.dict (bn 0 f)])=HC (aC (O5 f ((G[(k:Int).toNat]?).getD (.leaf [])))) (S1++[.dict (bn 0 f)]);rw[V];unfold cs
   simp[A.Md,er,J])
 have T:(f.map λ(k:Nat)=>D.int k).map (λd=>match d with | .int k=>aC (O5 f ((G[k.toNat]?).getD (.leaf []))) |_ => .Ic)=(FR f G).map aC:=by unfold FR;rw[lE,lE];refine Tv λk _=>?_;simp
 rw[T] at t;refine⟨X,S1++[.dict (bn 0 f)],?_,by rw[r];exact c,O,by rw[r];exact px,.dict (lf f),.dict (bn 0 f),by rw[← z];simp⟩;rw[r];refine #[6];have K:sG [.lst (f.map λ(k:Nat)=>D.int k)]=aa (bX 0 (f.map λ(k:Nat)=>D.int k)):=rfl;unfold g0;simp[h.Md,q,K,H,bN,t,mS,-lE]
end
theorem kA (S r:Hu)(fs:ae (ej×D))(f:ej)(v:D)(a:Hv)(h:fs.length<1000):nW "Rows" f (#[12]) v a (S++MO.ins "Rows" fs::r)=HC (.next a) (S++MO.ins "Rows" (mw f v fs)::r):=by
 have e:(S++MO.ins "Rows" fs::r)[S.length]?=aa (.ins "Rows" fs):=by simp
 unfold nW;simp only[e];rw[dw ⟨m7,h⟩];simp
theorem Xx:¬ ("order":ej)="gathered":=by decide
theorem Xy:¬ ("order":ej)="numbers":=by decide
theorem Xz:¬ ("gathered":ej)="numbers":=by decide
theorem XA:¬ ("order":ej)="choices":=by decide
theorem XB:¬ ("gathered":ej)="choices":=by decide
theorem XC:¬ ("numbers":ej)="choices":=by decide
theorem zJ (S:Hu)(o:ae Nat):cz [#[12],oD o] (S++[.ins "Rows" []])=HC .Ic (S++[RO o S.length,.lst [],.HL [],.HL []]):=by
 have e:=λa=>kA S [] [] "order" (oD o) a #[1];have c:=λa=>kA S [.lst []] [("order",oD o)] "gathered" (.loc (S.length+1)) a #[3];have b:=λa=>kA S [.lst [],.HL []] [("order",oD o),("gathered",.loc (S.length+1))] "numbers" (.loc (S.length+2)) a #[3];have d:=λa=>kA S [.lst [],.HL [],.HL []] [("order",oD o),("gathered",.loc (S.length+1)),("numbers",.loc (S.length+2))] "choices" (.loc (S.length+3)) a #[3];simp only[mw,Xx,Xy,Xz,XA,XB,XC,mz] at e c b d;unfold cz bq;rw[dw (show ([#[12],oD o]:ae D).length=2 from rfl)];have:eY ([#[12],oD o].map aa++el 0 av) (S++[.ins "Rows" []])=HC (.next [aa (#[12]),aa (oD o)]) (S++[RO o S.length,.lst [],.HL [],.HL []]):=by unfold eY;simp[e,c,b,d]
 rw[this];rfl
noncomputable def tv (ts:ae Int):Th:=λc=>dr (ts.getD c 0=1)
theorem Ca {e:Th}{ss d:ae ej}(h:Kv e (aC (.leaf ss)) d):d=ss:=by
 generalize c:aC (.leaf ss)=D0 at h;cases h with
 |leaf =>
  simp only[aC,D.tup.injEq,N8,and_true,true_and] at c;exact((YQ (λa b h=>by cases h;rfl)).mp c).symm
 |no=>simp[aC] at c
 |yes=>simp[aC] at c
theorem KQ.total {m k:Nat}{d:D}(h:KQ m k d)(e:Th):∃ ss,Kv e d ss:=by
 induction h with
 |leaf _ _ _=>exact⟨_,.leaf⟩
 | @ask k c x y _ _ _ g i =>
  obtain⟨a,f⟩:=g;obtain⟨b,hb⟩:=i;cases ht:e c with
  |false=>exact⟨a,.no ht f⟩
  |true=>exact⟨b,.yes ht hb⟩
section
variable {m:Nat}{ts:ae Int}
variable {o:ae Nat}{R:ae Row}
theorem sE (S:Hu){i:Nat}{r:Row}(h:R[i]?=aa r):Iy (.tup (R.map aC)) (.int i) S=aa (aC r):=by unfold Iy;rw[ee (by simp[bi])];exact bM (by rw[eh,h];rfl)
end
theorem ig {α c:Type}[s8 α][s8 c](f : α->c)(x : α):∀ (l:ae α),(∀ a∈l,f a=f x->a=x)->(l.map f).idxOf (f x)=l.idxOf x
 |[],_=>rfl
 |a::l,h=>by
  have d:=ig f x l λb hb=>h b (d7 _ hb);rw[hA,Q5,Q5,d];by_cases e:a=x
  ·subst e;simp
  have i:¬ f a=f x:=λq=>e (h a (e7 ..) q);have j:(a==x)=bo:=by simpa using e
  have g:(f a==f x)=bo:=by simpa using i
  rw[j,g]
theorem EE {o:ae Nat}{G:ae Row}(w:Wf o G){d:ae Nat}(c:Cl G d):FR d G=enc (d.map (HD.uT G)):=by
 unfold FR enc;rw[lE];refine Tv λk h=>?_;have i:=c.lt k h;have e:G[k]?=aa G[k]:=a4 i;have q:=w.row k _ e;simp only[Oo,e,QU];cases hr:G[k] with
 |leaf g =>
  have f:HD.uT G k = .leaf g:=(Un.leaf (by rw[e,hr])).uT;rw[f];rfl
 |ask a n y =>
  rw[hr] at q;obtain⟨_,j,l,_⟩:=q;have f:HD.uT G k = .node a (HD.uT G n) (HD.uT G y):=(Un.node (by rw[e,hr]) (w.uT #[0]) (w.uT #[0])).uT;rw[f];show Row.ask a (d.idxOf n) (d.idxOf y)=Row.ask a ((d.map (HD.uT G)).idxOf (HD.uT G n)) ((d.map (HD.uT G)).idxOf (HD.uT G y));rw[ig (HD.uT G) n d λb hb=>rJ w (c.lt b hb) #[0],ig (HD.uT G) y d λb hb=>rJ w (c.lt b hb) #[0]]
noncomputable def CH:Tr->Prop
 | .leaf a=>(∀ x∈a,bW x=a6)/\Mc a=a6
 | .node _ n y=>CH n/\CH y
theorem Un.ord {o:ae Nat}{G:ae Row}(w:Wf o G){i:Nat}{t:Tr}(h:Un G i t):Ord o t/\CH t:=by
 induction h with
 |leaf h=>exact⟨m7,w.row _ _ h⟩
 | @node i c n y s t h b a f d =>
  obtain⟨a1,a2,l,k,j,g⟩:=w.row _ _ h;refine⟨⟨a1,f.1,d.1,by rw[← b.pl];exact k,by rw[← a.pl];exact j,λe=>g ?_⟩,f.2,d.2⟩;subst e;exact Un.inj w.nd b a
theorem yY {o:ae Nat}(nd:o.Nodup)(y:o.length<=8){m:Nat}(F:∀ c,c<m->c∈o){k:Nat}(P:k<=12){d:D}(hd:KQ m k d)(S:Hu) :
  ∃ t u,pJ [d,oD o] S=HC (.tup ((enc (po t [])).map aC)) u/\Ord o t/\CH t/\Wr o (enc (po t []))/\(∀ a,Ev (enc (po t [])) a ((enc (po t [])).length-1) (LR t a))/\(∀ a ss,Kv a d ss->LR t a=ss)/\(po t []).length<=1023/\u.take S.length=S:=by
 have B:=zJ S o
 have s:SR (λi=>(S++[RO o S.length,.lst [],.HL [],.HL []])[i]?) (S++[RO o S.length,.lst [],.HL [],.HL []]) S.length o [] []:=by
  refine⟨by simp,?_,?_,?_,λ_ _=>rfl⟩
  ·rw[f5 #[0]];simp
  ·rw[f5 #[0]];simp;rfl
  rw[f5 #[0]];simp;rfl
 have pre:∀ i,i<S.length->(S++[RO o S.length,.lst [],.HL [],.HL []])[i]?=S[i]?:=λi f=>gh f;generalize (S++[RO o S.length,.lst [],.HL [],.HL []])=S0 at *
 have I:Wf o ([]:ae Row):=⟨Q4,λi r h=>by simp at h⟩;have Q : 2 ^ (k+1)<=2 ^ 13:=XT #[1] #[0];have K : 2 ^ 13=8192:=rfl;obtain⟨n,E,O,r,C,g,b,_,l,_,_,v⟩:=BW nd y F hd 15 #[0] s I (λp A=>by cases A) (by simp;omega) (by simp;omega);rw[N0] at g b l v;obtain⟨X,L,z,c,N,q,x2,w,rfl⟩:=fold_eq g b y l
 have fr:(n++[x2,w]).take S.length=S:=by
  have M:S.length+3<n.length:=(b7.mp g.Nr).1;apply Qf;intro i;rw[Tw];split
  ·rename_i f;rw[gh #[0],g.fr i (.inl f),pre i f]
  rw[Ou #[0]]
 have j:=s.has "fold_from" #[1];have un:=b.uT l;have eF:FR (X++[r]) E=enc (po (HD.uT E r) []):=by rw[EE b c,q]
 have x:=FN b c;rw[eF] at z x;refine⟨HD.uT E r,n++[x2,w],#[6],(un.ord b).1,(un.ord b).2,x,λa=>?_,λa ss H=>?_,?_,fr⟩
 ·have G:xO "Rows" cz (ag (af 1) aD) [aa d,aa (oD o),av] S=HC (#[12]) S0:=by
   unfold xO;simp only[Ee,Fy,cZ];have:af 1 [aa d,aa (oD o),av] S=HC (oD o) S:=rfl;rw[this];simp only[cZ];rw[B];rfl
  unfold uG;simp[G,j,C,z,-lE]
 ·have e:=FO c (un.ev a) #[3];have hr:r∉X:=by have:=(I0.mp c.nd).2.2;intro j;exact this r j r #[3] rfl
  have J:(X++[r]).idxOf r=(FR (X++[r]) E).length-1:=by rw[Uy,ee hr];simp[FR]
  rw[J,eF] at e;exact e
 ·exact Ev.det (un.ev a) (v a ss H)
 rw[← q,dV,cq];simp;omega
inductive Sub:Tr->Tr->Prop
 |refl (t:Tr):Sub t t
 |no {s:Tr}{c:Nat}{n y:Tr}:Sub s n->Sub s (.node c n y)
 |yes {s:Tr}{c:Nat}{n y:Tr}:Sub s y->Sub s (.node c n y)
def PZ (a:ae Tr):Prop:=∀ c n y,Tr.node c n y∈a->n∈a/\y∈a
theorem PZ.sub {a:ae Tr}(h:PZ a){s t:Tr}(q:Sub s t):t∈a->s∈a:=by
 induction q with
 |refl=>exact id
 |no _ b=>exact λm=>b (h _ _ _ m).1
 |yes _ b=>exact λm=>b (h _ _ _ m).2
theorem vX:∀ (t:Tr) (a:ae Tr),∃ X,po t a=a++X
 | .leaf b,a=>by
  by_cases h:Tr.leaf b∈a
  ·exact⟨[],by rw[di h,eM]⟩
  exact⟨[.leaf b],dL h⟩
 | .node c n y,a=>by
  by_cases h:Tr.node c n y∈a
  ·exact⟨[],by rw[di h,eM]⟩
  obtain⟨X,e⟩:=vX n a;obtain⟨Y,d⟩:=vX y (po n a);exact⟨X++Y++[.node c n y],by rw[dJ h,d,e];simp⟩
theorem r9 (t:Tr)(a:ae Tr):t∈po t a:=by
 by_cases h:t∈a
 ·rw[di h];exact h
 cases t with
 |leaf b=>rw[dL h];simp
 |node c n y=>rw[dJ h];simp
theorem E5 {t s:Tr}{a:ae Tr}(h:s∈a):s∈po t a:=by obtain⟨X,e⟩:=vX t a;rw[e];exact n6 _ h
theorem jr:∀ (t:Tr) (a:ae Tr) (s:Tr),s∈po t a->s∈a∨Sub s t
 | .leaf d,a,s,h=>by
  by_cases b:Tr.leaf d∈a
  ·rw[di b] at h;exact .inl h
  rw[dL b] at h;rcases il.mp h with h |h
  ·exact .inl h
  rw[eR.mp h];exact .inr (.refl _)
 | .node c n y,a,s,h=>by
  by_cases b:Tr.node c n y∈a
  ·rw[di b] at h;exact .inl h
  rw[dJ b] at h;rcases il.mp h with h |h
  ·rcases jr y _ s h with h |h
   ·rcases jr n _ s h with h |h
    ·exact .inl h
    exact .inr (.no h)
   exact .inr (.yes h)
  rw[eR.mp h];exact .inr (.refl _)
theorem gU:∀ (t:Tr) {a:ae Tr},PZ a->PZ (po t a)
 | .leaf i,a,h=>by
  by_cases b:Tr.leaf i∈a
  ·rw[di b];exact h
  rw[dL b];intro c n y q;rcases il.mp q with q |q
  ·exact⟨n6 _ (h c n y q).1,n6 _ (h c n y q).2⟩
  cases eR.mp q
 | .node c n y,a,h=>by
  by_cases b:Tr.node c n y∈a
  ·rw[di b];exact h
  rw[dJ b];have d:=gU y (gU n h);intro f g e q;rcases il.mp q with q |q
  ·exact⟨n6 _ (d f g e q).1,n6 _ (d f g e q).2⟩
  cases eR.mp q;exact⟨n6 _ (E5 (r9 n a)),n6 _ (r9 y _)⟩
theorem tD {s t:Tr}(h:Sub s t):LU s<=LU t:=by
 induction h with
 |refl=>exact eG _
 |no _ a=>simp only[LU];omega
 |yes _ a=>simp only[LU];omega
theorem on:∀ (t:Tr) {d:ae Tr},d.Nodup->(po t d).Nodup
 | .leaf g,d,h=>by
  by_cases e:Tr.leaf g∈d
  ·rw[di e];exact h
  rw[dL e];refine I0.mpr ⟨h,by simp,λa f b hb=>?_⟩;rw[eR.mp hb];rintro rfl;exact e f
 | .node c n y,d,h=>by
  by_cases e:Tr.node c n y∈d
  ·rw[di e];exact h
  rw[dJ e];refine I0.mpr ⟨on y (on n h),by simp,λa f b hb=>?_⟩;rw[eR.mp hb];rintro rfl;rcases jr y _ _ f with q |q
  ·rcases jr n _ _ q with q |q
   ·exact e q
   have:=tD q;simp only[LU] at this;omega
  have:=tD q;simp only[LU] at this;omega
theorem xJ:PZ []:=λc n y h=>by cases h
theorem js:∀ (t:Tr) {d:ae Tr},PZ d->po t d=d++(po t []).filter λs=>dr (s∉d)
 | .leaf i,d,h=>by
  have g:po (.leaf i) []=[.leaf i]:=dL #[3];rw[g];by_cases e:Tr.leaf i∈d
  ·rw[di e];simp[e]
  rw[dL e];simp[e]
 | .node c n y,d,h=>by
  have g:po (.node c n y) []=po y (po n [])++[.node c n y]:=dJ #[3];by_cases e:Tr.node c n y∈d
  ·rw[di e]
   have:(po (.node c n y) []).filter (λs=>dr (s∉d))=[]:=by
    rw[List.filter_eq_nil_iff];intro s f;rcases jr _ _ _ f with q |q
    ·cases q
    simp[PZ.sub h q e]
   rw[this,eM]
  rw[dJ e,g,js y (gU n h),js y (gU n xJ),js n h,YR,YR,List.filter_filter];have j:([Tr.node c n y].filter λs=>dr (s∉d))=[.node c n y]:=by simp[e]
  rw[j,gv,gv,gv];congr 2;congr 1;apply Y9;intro s _;rw[Pp];simp only[j2,eL,il,N7];constructor
  ·intro q;refine⟨λa=>q (.inl a),λa=>?_⟩;by_cases f:s∈d
   ·exact q (.inl f)
   exact q (.inr ⟨a,f⟩)
  rintro⟨a,b⟩ (q |⟨q,_⟩)
  ·exact a q
  exact b q
theorem AQ {α:Type}(xs:ae α)(p:Nat):aL xs av (aa (p:Int))=xs.take p:=by
 unfold aL;rw[HT.LY,HT.MI,drop_zero,sub_zero];rcases Nat.le_total p xs.length with h |h
 ·rw[ZD h]
 rw[Zl h,OC (eG _),OC h]
theorem AR {α:Type}(xs:ae α)(q:Nat):aL xs (aa (q:Int)) av=xs.drop q:=by
 unfold aL;rw[HT.MI,HT.LY];rcases Nat.le_total q xs.length with h |h
 ·rw[ZD h,OC (by rw[NM];exact eG _)]
 rw[Zl h,List.drop_length,List.drop_of_length_le h,List.take_nil]
abbrev nD (l:ae Nat):ae D:=l.map λ(k:Nat)=>D.int k
theorem An (a b:ae D)(h:a.length+b.length<=1000):bg (.lst a) (.lst b)=aa (.lst (a++b)):=by rw[lS,dw (fk h #[1])]
theorem vZ (num:Int)(m:D)(k:Nat)(n:k<=20)(l:ae Nat)(i:l.length=k)(z:ax D)(S:Hu):∃ a:Nat,a<=k/\gF [aa (.int num),aa m,aa (.lst (nD l)),aa (.int k),z] S=HC (.next [aa (.int num),aa m,aa (.lst (nD (l.take a++[k]++l.drop a))),aa (.int k),aa (.int a)]) S:=by
 have d:=kN num k S;have c:a_ [.lst (nD l)]=aa (.int (k:Nat)):=by simp[a_,i]
 have b:bp (.int (Ke num k)) (.int ((k:Int)+1))=aa (.int (Ke num k % ((k:Int)+1))):=aT #[0];have h:=fV (Ke num k) (show (0:Int)<(k:Int)+1 by omega);obtain⟨a,g⟩:∃ a:Nat,Ke num k % ((k:Int)+1)=a:=⟨(Ke num k % ((k:Int)+1)).toNat,#[2]⟩;rw[g] at b h;have f:IX (.lst (nD l)) av (aa (a:Int))=aa (.lst (nD (l.take a))):=by show aa (D.lst (aL (nD l) av (aa (a:Int))))=_;rw[AQ];unfold nD;rw[Z8]
 have e:IX (.lst (nD l)) (aa (a:Int)) av=aa (.lst (nD (l.drop a))):=by show aa (D.lst (aL (nD l) (aa (a:Int)) av))=_;rw[AR];unfold nD;rw[XY]
 have t1:(nD (l.take a)).length<=20:=by rw[dV,Jj];omega
 have t2:(nD (l.drop a)).length<=20:=by rw[dV,NM];omega
 have a1:=An (nD (l.take a)) [.int k] (by simp at t1 ⊢;omega);have a2:=An (nD (l.take a)++[.int k]) (nD (l.drop a)) (by rw[cq];simp at t1 t2 ⊢;omega);have z1:Ky [.int k] (.lst [.int k])=aa (.lst [.int k]):=cG #[3];have j:nD (l.take a++[k]++l.drop a)=nD (l.take a)++[.int k]++nD (l.drop a):=by simp
 refine⟨a,#[2],?_⟩;rw[j];unfold gF;simp[d,c,b,f,e,z1,a1,a2,dF,-lE,-r4,-Z8,-XY,-gv]
theorem yy (num:Int){m:Nat}(y:m<=10)(S:Hu):∃ o:ae Nat,lV [.int num,.int m] S=HC (oD o) S/\o.Perm (ei m):=by
 have v:iG [.int m]=aa ((ei m).map λ(k:Nat)=>D.int k):=by have:=Ds m #[0] #[0];simpa using this
 obtain⟨t,z,g,e⟩:=i6 (u:=aJ 3) (body:=gF) (λi f d=>d=S/\i<=m/\∃ (l:ae Nat) (a b:ax D),l.Perm (ei i)/\f=[aa (.int num),aa (.int m),aa (.lst (nD l)),a,b])
  ((ei m).map λ(k:Nat)=>D.int k) 0 [aa (.int num),aa (.int m),aa (.lst []),av,av] S ⟨rfl,#[2],[],av,av,.refl _,rfl⟩ (by
   rintro j B f d h ⟨rfl,s,l,a,b,c,rfl⟩;obtain⟨rfl,A⟩:=gT h;simp only[n7] at c s ⊢;have w:l.length=j:=by rw[c.length_eq,lr]
   obtain⟨q,x,n⟩:=vZ num (.int m) j #[0] l w b d;refine⟨_,rfl,_,_,n,rfl,#[2],_,_,_,?_,rfl⟩;rw[Z0];have p:(l.take q++[j]++l.drop q).Perm (j::l):=by have:=Zj (a:=j) (l₁:=l.take q) (l₂:=l.drop q);rw[QF] at this;rw[gv];exact this
   exact p.trans ((XQ j c).trans (OM j (ei j)).symm))
 simp only[n7,dV,lr] at e;obtain⟨rfl,_,l,a,b,c,rfl⟩:=e;refine⟨l,#[6],c⟩;have r:Ky [] (.lst [])=aa (.lst []):=cG #[3];unfold qR;simp[r,v,g,mS]
end HD
namespace L2
open PySem PyProof.Rows
inductive SN:Nat->D->Prop
 |Ic {k:Nat}:SN k .Ic
 |bl {k:Nat}{b:e8}:SN k (.bl b)
 |int {k:Nat}{i:Int}:SN k (.int i)
 |str {k:Nat}{x:ej}:SN k (.str x)
 |tup {k:Nat}{ds:ae D}:ds.length<(if 4<=k then 600 else 64)->(∀ d∈ds,SN k d)->SN (k+1) (.tup ds)
 |lst {k:Nat}{ds:ae D}:(∀ d∈ds,SN k d)->SN (k+1) (.lst ds)
inductive BN:Nat->D->Prop
 |int {k:Nat}{i:Int} : 0<=i->i<=200->BN k (.int i)
 |str {k:Nat}{x:ej}:x.length<=20->(∀ c∈x.cps.toList,c<128)->BN k (.str x)
 |tup {k:Nat}{ds:ae D}:ds.length<=(if 2<=k then 200 else 20)->(∀ d∈ds,BN k d)->BN (k+1) (.tup ds)
theorem SN.mono {k:Nat}{d:D}(h:SN k d):∀ j,k<=j->SN j d:=by
 induction h with
 |Ic=>exact λ_ _ => .Ic
 |bl=>exact λ_ _ => .bl
 |int=>exact λ_ _ => .int
 |str=>exact λ_ _ => .str
 |tup c _ a =>
  intro j b;obtain⟨j,rfl⟩:∃ i,j=i+1:=⟨j-1,#[2]⟩;exact .tup (by split<;>split at c<;>omega) λd hd=>a d hd j #[0]
 |lst _ a =>
  intro j b;obtain⟨j,rfl⟩:∃ i,j=i+1:=⟨j-1,#[2]⟩;exact .lst λd hd=>a d hd j #[0]
theorem BN.sn {k:Nat}{d:D}(h:BN k d):SN (k+2) d:=by
 induction h with
 |int=>exact .int
 |str=>exact .str
 |tup b _ a=>exact .tup (by split<;>split at b<;>omega) a
theorem SN.len {k:Nat}{n:Nat}(h:n<64):n<(if 4<=k then 600 else 64):=by split<;>omega
theorem r8 {k:Nat}:∀ {ds:ae D},(∀ d∈ds,∃ p,toPy d=aa p/\p.depth<=k)->∃ a,cb ds=aa a/\kq a<=k
 |[],_=>⟨[],rfl,by simp[kq]⟩
 |d::ds,h=>by
  obtain⟨p,e,g⟩:=h d (e7 ..);obtain⟨a,c,f⟩:=r8 (ds:=ds) λx b=>h x (d7 _ b);exact⟨p::a,by rw[cb,e,c];rfl,by rw[kq];omega⟩
theorem SN.py {k:Nat}{d:D}(h:SN k d):∃ p,toPy d=aa p/\p.depth<=k:=by
 induction h with
 |Ic=>exact⟨_,rfl,by simp[hO]⟩
 |bl=>exact⟨_,rfl,by simp[hO]⟩
 |int=>exact⟨_,rfl,by simp[hO]⟩
 |str=>exact⟨_,rfl,by simp[hO]⟩
 |tup _ _ a =>
  obtain⟨b,e,hd⟩:=r8 a;exact⟨.tuple b,by rw[toPy,e];rfl,by rw[hO];omega⟩
 |lst _ a =>
  obtain⟨b,e,hd⟩:=r8 a;exact⟨.list b,by rw[toPy,e];rfl,by rw[hO];omega⟩
theorem SN.pl {k:Nat}{d:D}(h:SN k d):L2.pl d=a6:=by
 induction h with
 |tup _ _ a=>rw[L2.pl];exact IQ.mpr a
 |lst _ a=>rw[L2.pl];exact IQ.mpr a
 |_=>rfl
theorem SN.t0 {k:Nat}:SN (k+1) (.tup []):=.tup (SN.len #[3]) λd hd=>by cases hd
theorem SN.t1 {k:Nat}{a:D}(ha:SN k a):SN (k+1) (.tup [a]):=.tup (SN.len #[3]) λd hd=>by rw[eR.mp hd];exact ha
theorem SN.t2 {k:Nat}{a b:D}(ha:SN k a)(hb:SN k b):SN (k+1) (.tup [a,b]):=.tup (SN.len #[3]) λd hd=>by
 rcases gi.mp hd with rfl |hd
 ·exact ha
 rw[eR.mp hd];exact hb
theorem SN.t3 {k:Nat}{a b c:D}(ha:SN k a)(hb:SN k b)(hc:SN k c):SN (k+1) (.tup [a,b,c]):=.tup (SN.len #[3]) λd hd=>by
 rcases gi.mp hd with rfl |hd
 ·exact ha
 rcases gi.mp hd with rfl |hd
 ·exact hb
 rw[eR.mp hd];exact hc
theorem all_cons {P:D->Prop}{a:D}{l:ae D}(h:P a)(g:∀ d∈l,P d):∀ d∈a::l,P d:=λd hd=>by
 rcases gi.mp hd with rfl |hd
 ·exact h
 exact g d hd
theorem all_nil {P:D->Prop}:∀ d∈([]:ae D),P d:=λd hd=>by cases hd
theorem oO {xs:ae D}{i:Int}(h0 : 0<=i)(c:i<xs.length)(S:Hu):∃ d∈xs,Iy (.lst xs) (.int i) S=aa d:=by
 obtain⟨k,rfl⟩:∃ k:Nat,i=k:=⟨i.toNat,#[2]⟩;have a:k<xs.length:=#[2]
 refine⟨xs[k],NX a,?_⟩;unfold Iy;rw[ee (by simp[bi])];have b:xs[k]?=aa xs[k]:=a4 a;have e:OP xs.length (k:Int)=aa k:=by unfold OP;rw[dw #[0],dw #[0]];simp
 show KN xs (k:Int)=_;unfold KN;rw[e];exact b
theorem wo {xs:ae D}{i:Int}(h0 : 0<=i)(a:i<xs.length)(S:Hu):∃ d∈xs,Iy (.tup xs) (.int i) S=aa d:=by obtain⟨d,hd,e⟩:=oO h0 a S;refine⟨d,hd,?_⟩;unfold Iy at e ⊢;rw[ee (by simp[bi])] at e ⊢;exact e
theorem gz {α:Type}{xs:ae α}{lo hi:ax Int}:∀ x∈aL xs lo hi,x∈xs:=λx a=>Ri (wq a)
theorem dP {α:Type}(xs:ae α)(lo hi:ax Int):(aL xs lo hi).length<=xs.length:=by unfold aL;rw[Jj,NM];omega
end L2
namespace HD
open PySem L2 PyProof.Rows
theorem DR (n:Int)(S:Hu):∃ d,sV [.int n] S=HC d S/\SN 2 d:=by
 have b:=fV n (show (0:Int)<24 by decide)
 obtain⟨d,hd,e⟩:=oO (xs:=[(D.int (-1)),(D.int 0),(D.int 1),(D.int 9),(D.int 10),(D.bl a6),(D.bl bo),D.Ic,(D.str ""),(D.str "a"),(D.str "A"),(D.str "end"),(D.str "abcdefghi"),(D.str "a b"),(D.tup []),(D.lst []),(D.tup [(D.str "a")]),(D.tup [(D.str "b"),(D.str "a")]),
  (D.tup [(D.str "names"),(D.tup [])]),(D.tup [(D.str "names"),(D.tup [(D.str "a"),(D.str "a")])]),(D.tup [(D.str "ask"),(D.int 0)]),(D.tup [(D.int 0),(D.int 0),(D.int 1)]),(D.tup [D.Ic]),(D.tup [(D.str "a"),(D.int 1)])]) b.1 b.2 S
 refine⟨d,?_,?_⟩
 ·have c:bp (.int n) (.int 24)=aa (.int (n % 24)):=aT #[1];refine #[6];unfold xy;have a:∀ k:Nat,k<=1000->k<=dk:=λk h=>fk h #[1];simp[lS,a,c,e]
 exact all_cons (P:=SN 2) .int (all_cons .int (all_cons .int (all_cons .int (all_cons .int (all_cons .bl (all_cons .bl (all_cons .Ic (all_cons .str (all_cons .str (all_cons .str (all_cons .str (all_cons .str (all_cons .str
  (all_cons .t0 (all_cons (.lst all_nil) (all_cons (.t1 .str) (all_cons (.t2 .str .str) (all_cons (.t2 .str .t0) (all_cons (.t2 .str (.t2 .str .str)) (all_cons (.t2 .str .int) (all_cons (.t3 .int .int .int) (all_cons (.t1 .Ic) (all_cons (.t2 .str .int) all_nil))))))))))))))))))))))) d hd
theorem BV (i:Int)(h0 : 0<=i)(a:i<=200):tF [.int i]=aa (.str (z6 i)):=by
 have h:∀ k:_root_.Fin 201,((k.val:Int).natAbs.log2<1920/\QT (z6 (k.val:Int))=a6):=#[4]
 obtain⟨k,rfl⟩:∃ k:Nat,i=k:=⟨i.toNat,#[2]⟩;have q:=h ⟨k,#[2]⟩;unfold tF;simp only;rw[dw q]
noncomputable def Ul (x:ej):ej:=⟨x.cps.map up1⟩
noncomputable def nine (x:ej):ej:=⟨(el (Int.toNat 9) x.cps.toList).flatten.toArray⟩
noncomputable def VA (x:ej):ej:=⟨x.cps.toList.reverse.toArray⟩
theorem qj (S:Hu):∀ (fuel b:Nat) (d:D) (num:Int) (k:Nat),b<fuel->BN k d->∃ d',iw fuel [d,.int num,.int b] S=HC d' S/\SN (k+2) d'
 | 0,b,d,num,k,h,_=>hK h #[0]
 |fuel+1,b,d,num,k,h,hb=>by
  have E:bp (.int num) (.int 6)=aa (.int (num % 6)):=aT #[1];have f:bw (.int num) (.int 6)=aa (.int (num / 6)):=b8 #[1] #[1];have s:bw (.int num) (.int 12)=aa (.int (num / 12)):=b8 #[1] #[1];have m2:bp (.int (num / 6)) (.int 2)=aa (.int (num / 6 % 2)):=aT #[1];have C:bp (.int (num / 12)) (.int 6)=aa (.int (num / 12 % 6)):=aT #[1];have n5:bp (.int (num / 12)) (.int 5)=aa (.int (num / 12 % 5)):=aT #[1];have A:=fV (num / 12) (show (0:Int)<6 by decide);have H:=fV (num / 12) (show (0:Int)<5 by decide);obtain⟨o,l,so⟩:=DR (num / 6) S;have so:=so.mono (k+2) #[0];cases hb with
  | @tup k a G I =>
   have N:a.length<=200:=by split at G<;>omega
   have t:∀ n,n<=2*a.length+1->n<(if 4<=k+2 then 600 else 64):=λn h=>by split<;>split at G<;>omega
   have j:∀ d∈a,SN (k+2) d:=λd hd=>(I d hd).sn;by_cases U:a.length=0
   ·obtain rfl:=r3.mp U;refine⟨o,#[6],so⟩;unfold cr;by_cases e : 0<b
    ·simp[JU,e,aW,aV,bz,a_,f,l]
    simp[JU,e,aW,aV,bz,a_,f,l]
   have u : 0<a.length:=#[2]
   by_cases F : 0<b/\0<num % 6
   ·obtain⟨e,w⟩:=F;have q:bp (.int (num / 6)) (.int a.length)=aa (.int (num / 6 % a.length)):=aT #[0];have p:bw (.int (num / 6)) (.int a.length)=aa (.int (num / 6 / a.length)):=b8 #[0] #[0];have bl:=fV (num / 6) (show (0:Int)<a.length by omega);obtain⟨x,Q,B⟩:=wo (xs:=a) bl.1 bl.2 S;obtain⟨y,v,R⟩:=qj S fuel (b-1) x (num / 6 / a.length) k #[0] (I x Q);rw[show ((b-1:Nat):Int)=(b:Int)-1 by omega] at v;have a1:bg (.tup (aL a av (aa (num / 6 % a.length)))) (.tup [y])=aa (.tup (aL a av (aa (num / 6 % a.length))++[y])):=by rw[jy,dw (fk (show _<=1000 by have:=dP a av (aa (num / 6 % a.length));simp;omega) #[1])]
    have a2:bg (.tup (aL a av (aa (num / 6 % a.length))++[y])) (.tup (aL a (aa (num / 6 % a.length+1)) av))=aa (.tup (aL a av (aa (num / 6 % a.length))++[y]++aL a (aa (num / 6 % a.length+1)) av)):=by rw[jy,dw (fk (show _<=1000 by have:=dP a av (aa (num / 6 % a.length));have:=dP a (aa (num / 6 % a.length+1)) av;simp;omega) #[1])]
    refine⟨.tup (aL a av (aa (num / 6 % a.length))++[y]++aL a (aa (num / 6 % a.length+1)) av),#[6],.tup ?_ λd hd=>?_⟩
    ·unfold cr;simp only[gv,Uw,N0] at a2;simp[JU,e,aW,aV,bz,a_,u,E,w,f,q,p,B,v,IX,dF,a1,a2]
    ·refine t _ ?_;have:=dP a av (aa (num / 6 % a.length));have:=dP a (aa (num / 6 % a.length+1)) av;simp;omega
    simp only[il,eR] at hd;rcases hd with (hd |rfl) |hd
    ·exact j d (gz d hd)
    ·exact R
    exact j d (gz d hd)
   by_cases g:num / 6 % 2=0
   ·have a1:bg (.tup a) (.tup (aL a (aa (-1)) av))=aa (.tup (a++aL a (aa (-1)) av)):=by
     rw[jy,dw (fk (show _<=1000 by have:=dP a (aa (-1)) av;omega) #[1])]
    have a2:cE (.tup a) (.int 2)=aa (.tup (a++a)):=by rw[Ad,dw ⟨#[4],#[4],u,#[2]⟩];show aa (D.tup (el 2 a).flatten)=_;simp[el]
    obtain⟨r,hr,m⟩:=oO (xs:=[.lst a,.tup (aL a av (aa (-1))),.tup (a++aL a (aa (-1)) av),.tup (aL a (aa 1) av),.tup a.reverse,.tup (a++a)]) A.1 A.2 S;refine⟨r,#[6],?_⟩
    ·unfold cr;by_cases e : 0<b
     ·have w:¬ 0<num % 6:=λz=>F ⟨e,z⟩;simp[JU,e,aW,aV,bz,a_,u,E,w,f,m2,g,we,IX,dF,mU,a1,kD,a2,s,C,m]
     simp[JU,e,aW,aV,bz,a_,u,f,m2,g,we,IX,dF,mU,a1,kD,a2,s,C,m]
    simp only[gi,Ux,Y8] at hr;rcases hr with rfl |rfl |rfl |rfl |rfl |rfl
    ·exact .lst j
    ·exact .tup (t _ (by have:=dP a av (aa (-1));omega)) λd hd=>j d (gz d hd)
    ·refine .tup (t _ (by have:=dP a (aa (-1)) av;simp;omega)) λd hd=>?_;rcases il.mp hd with hd |hd
     ·exact j d hd
     exact j d (gz d hd)
    ·exact .tup (t _ (by have:=dP a (aa 1) av;omega)) λd hd=>j d (gz d hd)
    ·exact .tup (t _ (by rw[rx];omega)) λd hd=>j d (Zp.mp hd)
    refine .tup (t _ (by simp;omega)) λd hd=>?_;rcases il.mp hd with hd |hd
    ·exact j d hd
    exact j d hd
   refine⟨o,#[6],so⟩;unfold cr;by_cases e : 0<b
   ·have w:¬ 0<num % 6:=λz=>F ⟨e,z⟩;simp[JU,e,aW,aV,bz,a_,u,E,w,f,m2,g,l]
   simp[JU,e,aW,aV,bz,a_,u,f,m2,g,l]
  | @int _ i O T =>
   by_cases g:num / 6 % 2=0
   ·have q:=BV i O T;have p:cE (.int i) (.int 1001)=aa (.int (i*1001)):=v6 #[1] #[1];obtain⟨r,hr,m⟩:=oO (xs:=[.str (z6 i),.int (-i),.int (i*1001),.bl (dr (i=1)),.int (i+1)]) H.1 H.2 S;refine⟨r,#[6],?_⟩
    ·unfold cr;by_cases e : 0<b
     ·simp[JU,e,aW,aV,bz,f,m2,g,q,mU,p,s,n5,m]
     simp[JU,e,aW,aV,bz,f,m2,g,q,mU,p,s,n5,m]
    simp only[gi,Ux,Y8] at hr;rcases hr with rfl |rfl |rfl |rfl |rfl<;>constructor
   refine⟨o,#[6],so⟩;unfold cr;by_cases e : 0<b
   ·simp[JU,e,aW,aV,bz,f,m2,g,l]
   simp[JU,e,aW,aV,bz,f,m2,g,l]
  | @str _ x N K =>
   by_cases g:num / 6 % 2=0
   ·have M:Wd 20 x:=⟨N,K⟩;have P:Wd 1 ("a":ej):=⟨#[4],λc hc=>by rw[w6] at hc;simp at hc;omega⟩
    have V:Wd 1 (" ":ej):=⟨#[4],λc hc=>by
     have:(" ":ej)=⟨#[32]⟩:=#[4]
     rw[this] at hc;simp at hc;omega⟩
    have q:=vc M P #[1];have p:=vc M V #[1];have B:nJ (.str x)=aa (.str (Ul x)):=by unfold nJ Ul;simp only;rw[dw (by rw[Mt];exact λc hc=>e4 (K c (by simpa using hc)))]
    have v:cE (.str x) (.int 9)=aa (.str (nine x)):=by rw[oC,ee #[1],dw ⟨#[4],#[4],#[2]⟩];rfl
    obtain⟨r,hr,m⟩:=oO (xs:=[.str (x++"a"),.str (o7 x av (aa (-1))),.str (Ul x),.str (x++" "),.str (nine x),.str (VA x)]) A.1 A.2 S;refine⟨r,#[6],?_⟩
    ·unfold cr;have L:kD (.str x)=aa (.str (VA x)):=rfl;have J:IX (.str x) av (aa (-1))=aa (.str (o7 x av (aa (-1)))):=rfl;by_cases e : 0<b
     ·simp[JU,e,aW,aV,bz,f,m2,g,q,p,B,v,L,J,mU,dF,s,C,m]
     simp[JU,e,aW,aV,bz,f,m2,g,q,p,B,v,L,J,mU,dF,s,C,m]
    simp only[gi,Ux,Y8] at hr;rcases hr with rfl |rfl |rfl |rfl |rfl |rfl<;>constructor
   refine⟨o,#[6],so⟩;unfold cr;by_cases e : 0<b
   ·simp[JU,e,aW,aV,bz,f,m2,g,l]
   simp[JU,e,aW,aV,bz,f,m2,g,l]
noncomputable def dY (d:D)(b:Int):e8:=match d with
 | .int i=>dr (0<=i)&&dr (i<b)
 |_=>bo
theorem du {d:D}(hd:L2.pl d=a6)(b:Int)(S:Hu):bT [d,.int b] S=HC (.bl (dY d b)) S:=by
 refine #[6];unfold gu;cases d with
 |int i =>
  by_cases h:(0:Int)<=i
  ·simp[aW,aV,bz,LJ,Jv,dY,h]
  simp[aW,aV,bz,LJ,Jv,dY,h]
 |set _=>simp[L2.pl] at hd
 |loc _=>simp[L2.pl] at hd
 |fn _ _=>simp[L2.pl] at hd
 |_=>simp[aW,aV,bz,dY]
theorem dX {d:D}(hd:L2.pl d=a6)(b:Int)(S:Hu):f9 [d,.int (b-1)] S=HC (.bl (dY d b)) S:=by
 refine #[6];unfold oV;cases d with
 |int i =>
  have e:dr (i<b)=dr (i<=b-1):=by by_cases h:i<=b-1<;>simp[h]<;>omega
  by_cases h:(0:Int)<=i
  ·simp[aW,aV,bz,LJ,Jv,dY,h,e]
  simp[aW,aV,bz,LJ,Jv,dY,h]
 |set _=>simp[L2.pl] at hd
 |loc _=>simp[L2.pl] at hd
 |fn _ _=>simp[L2.pl] at hd
 |_=>simp[aW,aV,bz,dY]
noncomputable def iL (d:D)(n:Int):e8:=match d with
 | .tup a=>dr ((a.length:Int)=n)
 |_=>bo
theorem i7 {d:D}(hd:L2.pl d=a6)(n:Int)(S:Hu):eK [d,.int n] S=HC (.bl (iL d n)) S:=by
 refine #[6];unfold jP;cases d with
 |tup a=>simp[aW,aV,bz,iL,a_]
 |set _=>simp[L2.pl] at hd
 |loc _=>simp[L2.pl] at hd
 |fn _ _=>simp[L2.pl] at hd
 |_=>simp[aW,aV,bz,iL]
noncomputable def cR (d:D):e8:=match d with
 | .tup [a,b]=>Mv a "names"&&dZ b
 |_=>bo
noncomputable def e_ (d:D)(i m:Int):e8:=match d with
 | .tup [a,b,c]=>dY a m&&(dY b i&&(dY c i&&(match b,c with | .int x,.int y => !dr (x=y) |_,_=>bo)))
 |_=>bo
theorem SN.parts {k:Nat}{ds:ae D}(h:SN k (.tup ds)):ds.length<600/\∀ d∈ds,SN k d:=by
 cases h with
 |tup a h=>exact⟨by split at a<;>omega,λd hd=>(h d hd).mono _ #[0]⟩
theorem SN.short {k:Nat}{ds:ae D}(h:SN k (.tup ds))(b:k<=4):ds.length<64:=by
 cases h with
 |tup a h=>rw[ee #[0]] at a;exact a
theorem wu {k:Nat}(j:k<=4){d:D}(h:SN k d)(S:Hu):lZ [d] S=HC (.bl (cR d)) S:=by
 refine #[6];unfold qV;have e:=λS=>i7 h.pl 2 S;cases d with
 |tup f =>
  have g:=(SN.parts h).2
  match f with
  |[a,b] =>
   have n:=g a #[3];have hb:=g b #[3];have i:=uJ n.pl "names";have l:=λS=>uy hb.pl (λf q=>by subst q;exact SN.short hb j) S;cases hq:Mv a "names" with
   |true=>simp[e,iL,MD,Oa,i,hq,l,cR]
   |false=>simp[e,iL,MD,Oa,i,hq,cR]
  |[]=>simp[e,iL,cR]
  |[a]=>simp[e,iL,cR]
  |a::b::c::r =>
   have m:¬ ((r.length:Int)+1+1+1=2):=#[2]
   simp[e,iL,cR,m]
 |_=>simp[e,iL,cR]
theorem fU {d:D}{b:Int}(h:dY d b=a6):∃ n:Nat,d = .int n/\(n:Int)<b:=by
 cases d with
 |int i =>
  simp only[dY,eL,j2] at h;exact⟨i.toNat,by rw[Int.toNat_of_nonneg h.1],#[2]⟩
 |_=>simp[dY] at h
theorem sv {k:Nat}{d:D}(h:SN k d)(i m:Int)(S:Hu):fg [d,.int i,.int m] S=HC (.bl (e_ d i m)) S:=by
 refine #[6];unfold iH;have e:=λS=>i7 h.pl 3 S;cases d with
 |tup n =>
  have g:=(SN.parts h).2
  match n with
  |[a,b,c] =>
   have f:=λS=>du (g a #[3]).pl m S;have j:=λS=>du (g b #[3]).pl i S;have l:=λS=>du (g c #[3]).pl i S;cases ha:dY a m with
   |false=>simp[e,iL,MD,f,ha,e_]
   |true =>
    cases hb:dY b i with
    |false=>simp[e,iL,MD,Oa,f,ha,j,hb,e_]
    |true =>
     cases hc:dY c i with
     |false=>simp[e,iL,MD,Oa,at2,f,ha,j,hb,l,hc,e_]
     |true =>
      obtain⟨x,rfl,_⟩:=fU hb;obtain⟨y,rfl,_⟩:=fU hc;simp[e,iL,MD,Oa,at2,f,ha,j,hb,l,hc,e_]
  |[]=>simp[e,iL,e_]
  |[a]=>simp[e,iL,e_]
  |[a,b]=>simp[e,iL,e_]
  |a::b::c::d::r =>
   have o:¬ ((r.length:Int)+1+1+1+1=3):=#[2]
   simp[e,iL,e_,o]
 |_=>simp[e,iL,e_]
theorem yR {k:Nat}(a:k<=4){d:D}(h:SN k d)(i m:Int)(S:Hu):pI [d,.int i,.int m] S=HC (.bl (cR d ||e_ d i m)) S:=by refine #[6];unfold uF;have c:=wu a h S;have b:=sv h i m S;cases hb:cR d<;>simp[c,b,hb]
noncomputable def CJ (m i:Nat):Row->Prop
 | .leaf a=>(∀ x∈a,bW x=a6)/\Mc a=a6
 | .ask c n y=>c<m/\n<i/\y<i/\n≠y
theorem yB {b:D}(h:dZ b=a6):∃ ss:ae ej,b = .tup (ss.map .str)/\(∀ x∈ss,bW x=a6)/\Mc ss=a6:=by
 cases b with
 |tup c =>
  have a:=h;rw[jZ] at a;have d:c.all gr=a6:=by unfold dZ at h;simp only[eL] at h;exact h.1
  obtain⟨ss,rfl,ok⟩:=ia d;rw[iu ss ok] at a;exact⟨ss,rfl,ok,a⟩
 |_=>cases h
theorem yC {ss:ae ej}(a:∀ x∈ss,bW x=a6)(b:Mc ss=a6):dZ (.tup (ss.map .str))=a6:=by rw[jZ,iu ss a,b]
theorem Cd {a:D}{s:ej}(h:Mv a s=a6):a = .str s:=by
 cases a with
 |str y=>simp only[Mv,j2] at h;rw[h]
 |_=>simp[Mv] at h
theorem tW (d:D)(i m:Nat):(cR d ||e_ d i m)=a6↔∃ r,d=aC r/\CJ m i r:=by
 constructor
 ·intro h;rw[SK] at h;rcases h with h |h
  ·unfold cR at h;split at h
   ·rename_i a b;rw[eL] at h;obtain⟨f,rfl,g,j⟩:=yB h.2;exact⟨.leaf f,by rw[Cd h.1];rfl,g,j⟩
   cases h
  unfold e_ at h;split at h
  ·rename_i a b c;simp only[eL] at h;obtain⟨k,hb,hc,l⟩:=h;obtain⟨x,rfl,s⟩:=fU k;obtain⟨y,rfl,t⟩:=fU hb;obtain⟨z,rfl,p⟩:=fU hc;refine⟨.ask x y z,rfl,#[2],#[2],#[2],?_⟩;simp at l;omega
  cases h
 rintro⟨r,rfl,h⟩;cases r with
 |leaf f =>
  have e:Mv (.str "names") "names"=a6:=by simp[Mv]
  have:cR (aC (.leaf f))=a6:=by show (Mv (.str "names") "names"&&dZ (.tup (f.map .str)))=a6;rw[e,yC h.1 h.2];rfl
  rw[this];rfl
 |ask c n y =>
  obtain⟨g,j,q,o⟩:=h;have:e_ (aC (.ask c n y)) i m=a6:=by simp only[e_,aC,dY,eL,j2];refine⟨⟨#[2],#[2]⟩,⟨#[2],#[2]⟩,⟨#[2],#[2]⟩,?_⟩;simp;omega
  rw[this,Bool.or_true]
theorem tV (m:Nat):∀ (ds:ae D) (a:ae Row),(∀ i r,a[i]?=aa r->CJ m i r)->∃ (R:ae Row) (tl:ae D),a.map aC++ds=R.map aC++tl/\(∀ i r,R[i]?=aa r->CJ m i r)/\(tl=[]∨∃ d rest,tl=d::rest/\(cR d ||e_ d R.length m)=bo)
 |[],a,h=>⟨a,[],rfl,h,.inl rfl⟩
 |d::ds,a,h=>by
  cases c:(cR d ||e_ d a.length m) with
  |false=>exact⟨a,d::ds,rfl,h,.inr ⟨d,ds,rfl,c⟩⟩
  |true =>
   obtain⟨r,rfl,hr⟩:=(tW d a.length m).mp c
   obtain⟨R,tl,e,f,g⟩:=tV m ds (a++[r]) λi x b=>by
    rcases Q9 i a.length with hi |hi |hi
    ·rw[gh hi] at b;exact h i x b
    ·subst hi;have:x=r:=by simpa using b.symm
     subst this;exact hr
    rw[Ou (by simp;omega)] at b;cases b
   exact⟨R,tl,by rw[← e];simp,f,g⟩
abbrev Im (R:ae Row):D:=.tup (R.map aC)
theorem rX (r:Row):toPy (aC r)=aa (dW r):=by
 cases r with
 |leaf a=>simp[aC,dW,toPy,cb,g_]
 |ask c n y=>simp[aC,dW,toPy,cb]
theorem yi (r:Row):(dW r).depth<=2:=by
 cases r with
 |leaf a=>simp[dW,hO,kq,j8]
 |ask c n y=>simp[dW,hO,kq]
theorem rW:∀ R:ae Row,cb (R.map aC)=aa (R.map dW)
 |[]=>rfl
 |r::R=>by rw[hA,cb,rX,rW R];rfl
theorem Dr (neg:e8)(r:Row)(R:ae Row)(S:Hu):Kn neg (aC r) (Im R) S=aa (.bl (neg != dr (r∈R))):=by
 have hd:=yi r
 have e:pS (aC r) (Im R)=aa (dr (r∈R)):=by
  unfold pS;rw[rX];simp only[yf,p0,rW];rw[dw #[0]];congr 1;rw[any_map]
  induction R with
  |nil=>rfl
  |cons q R a =>
   rw[J7,a,Oo,m_];by_cases h:q=r
   ·subst h;simp
   have b:¬ r=q:=λz=>h z.symm;simp[h,b]
 unfold Kn;rw[ee (by rw[show bi (Im R)=bo from rfl];decide)];cases neg<;>simp[inD,oy,e]
theorem oq:∀ o:ae Nat,cI (o.map λ(c:Nat)=>D.int c)=aa (o.map λ(c:Nat)=>(c:Int))
 |[]=>rfl
 |c::o=>by rw[hA,cI,oq o];rfl
theorem lay_ints:∀ (l:ae Int),m6 (l.map .int)=a6/\kq (l.map .int)=0/\((∀ i∈l,i.natAbs<=16)->Zm (l.map .int)<=6*l.length)
 |[]=>⟨rfl,rfl,λ_=>eG _⟩
 |i::l=>by
  obtain⟨j,f,d⟩:=lay_ints l;refine⟨by rw[hA,m6,j];rfl,by rw[hA,kq,f];rfl,λh=>?_⟩;have a:=d λx g=>h x (d7 _ g);have b:=h i (e7 ..)
  have c:Yu (.int i)<=5:=by
   unfold Yu;split
   ·omega
   have:i.natAbs.log2<5:=by refine(Nat.log2_lt ?_).mpr #[0];rename_i e;simp at e;omega
   omega
  rw[hA,Zm,hD];omega
theorem Ce {o:ae Nat}(l:o.length<=10)(g:∀ c∈o,c<=16){c:Nat}(hc:c∈o):oS (.lst (o.map λ(c:Nat)=>D.int c)) (.int c)=aa (.int (#[7]:Nat)):=by
 simp only[oS];rw[oq,p0];obtain⟨k,f,b⟩:=lay_ints (o.map λ(c:Nat)=>(c:Int))
 have b:=b (by
  intro i d;obtain⟨x,j,rfl⟩:=vl.mp d
  have:=g x j;omega)
 rw[dV] at b;have e:(o.map λ(c:Nat)=>(c:Int)).idxOf (c:Int)=#[7]:=ig (λ(c:Nat)=>(c:Int)) c o λa _ h=>#[2]
 rw[dw ⟨vl.mpr ⟨c,hc,rfl⟩,by
  unfold WL;rw[eL,eL]
  refine⟨⟨by rw[Nt];exact k,e4 (by rw[hO,f];decide)⟩,e4 (by rw[Yu];omega)⟩⟩,e]
theorem t_ (neg:e8)(c:Nat)(o:ae Nat)(S:Hu):Kn neg (.int c) (.tup (o.map λ(c:Nat)=>D.int c)) S=aa (.bl (neg != dr (c∈o))):=by
 have e:pS (.int c) (.tup (o.map λ(c:Nat)=>D.int c))=aa (dr (c∈o)):=by
  have ep:cb (o.map λ(c:Nat)=>D.int c)=aa (o.map λ(c:Nat)=>PyData.int c):=by
   induction o with
   |nil=>rfl
   |cons x o a=>rw[hA,cb,a];rfl
  unfold pS;simp only[toPy,yf,p0,ep];rw[dw (by simp[hO])];congr 1;rw[any_map];clear ep
  induction o with
  |nil=>rfl
  |cons q R a =>
   rw[J7,a,Oo];by_cases h:q=c
   ·subst h;simp[fh]
   have d:¬ c=q:=λz=>h z.symm;have b:¬ (q:Int)=c:=#[2]
   simp[fh,b,d]
 unfold Kn;rw[ee (by rw[show bi (.tup _)=bo from rfl];decide)];cases neg<;>simp[inD,oy,e]
theorem r0 (r:Row)(S:Hu):Iy (aC r) (.int 0) S=aa (match r with | .leaf _ => .str "names" | .ask c _ _ => .int c):=by cases r<;>rfl
theorem ue (r:Row):MY (match r with | .leaf _=>D.str "names" | .ask c _ _=>D.int c) (.str "names")=aa (.bl (match r with | .leaf _=>bo | .ask _ _ _=>a6)):=by cases r<;>simp[MY,toPy,fh,hO]
theorem A5 {R:ae Row}{tl:ae D}(S:Hu){i:Nat}{r:Row}(h:R[i]?=aa r):Iy (.tup (R.map aC++tl)) (.int i) S=aa (aC r):=by have a:=(b7.mp h).1;unfold Iy;rw[ee (by simp[bi])];exact bM (by rw[gh (by rw[dV];exact a),eh,h];rfl)
theorem xH {R:ae Row}{tl:ae D}{j:Nat}(h:j<=R.length):IX (.tup (R.map aC++tl)) av (aa (j:Int))=aa (Im (R.take j)):=by simp only[IX];rw[AQ,NY (by rw[dV];exact h),← Z8]
theorem Ey {k:Nat}(c:k<=150){d:D}(hd:SN k d)(R:ae Row)(S:Hu):∃ b,Kn bo d (Im R) S=aa (.bl b):=by obtain⟨p,e,a⟩:=hd.py;unfold Kn;rw[ee (by rw[show bi (Im R)=bo from rfl];decide)];refine⟨(R.map dW).any λq=>fh q p,?_⟩;show inD d (Im R)=_;unfold inD pS;rw[e];simp only[yf,p0,rW];rw[dw #[0]];rfl
theorem zl {k:Nat}{a:D}(h:SN k a):(∃ x,a = .str x)∨aW "str" a=aa (.bl bo):=by
 cases h with
 |str=>exact .inl ⟨_,rfl⟩
 |_=>exact .inr rfl
theorem Bw {k:Nat}(w:k<=150){o:ae Nat}{R:ae Row}{d:D}{rest:ae D}(hd:SN k d)(p:(cR d ||e_ d R.length o.length)=bo)(S:Hu):d_ [.tup (R.map aC++d::rest),.int R.length,oD o] S=HC (.bl bo) S:=by
 have f:Iy (.tup (R.map aC++d::rest)) (.int R.length) S=aa d:=by unfold Iy;rw[ee (by simp[bi])];exact bM (by rw[f5 (by rw[dV];exact eG _)];simp)
 have st:IX (.tup (R.map aC++d::rest)) av (aa (R.length:Int))=aa (Im R):=by rw[xH (eG _),Zv]
 obtain⟨b,g⟩:=Ey w hd R S;have lo:a_ [oD o]=aa (.int o.length):=by simp[a_]
 generalize oD o=od at *
 generalize (.tup (R.map aC++d::rest):D)=xd at *
 generalize Im R=rd at *
 generalize R.length=j at *
 generalize o.length=m at *
 refine #[6];unfold fY;cases d with
 |tup s =>
  have n:=(SN.parts hd).2;have it:aW "tuple" (.tup s)=aa (.bl a6):=rfl;have ln:a_ [.tup s]=aa (.int s.length):=rfl
  match s with
  |[]=>simp[f,it,ln]
  |a::r =>
   have l:¬ ((r.length:Int)+1=0):=#[2]
   cases b with
   |true=>simp[f,it,ln,l,st,dF,g]
   |false =>
    have i:=MD r a S;rcases zl (n a (by simp)) with ⟨x,rfl⟩ |hs
    ·have is:aW "str" (.str x)=aa (.bl a6):=rfl;have q:=eqs x "names";by_cases t:x="names"
     ·rw[e4 t] at q
      match r with
      |[b] =>
       have v:=kW (n b #[3]).pl S;have B:pZ b=bo:=by rw[Pt] at p;have h:=p.1;unfold cR at h;simp only[Mv,e4 t,aag] at h;rw[← jZ];exact h
       rw[B] at v;have x1:=Oa [] (.str x) b S;simp[f,it,ln,st,dF,g,i,is,q,x1,v]
      |[]=>simp[f,it,ln,st,dF,g,i,is,q]
      |b::c::r =>
       have u:¬ ((r.length:Int)+1+1+1=2):=#[2]
       have l:¬ ((r.length:Int)+1+1+1=0):=#[2]
       simp[f,it,ln,st,dF,g,i,is,q,u,l]
     rw[cX t] at q;simp[f,it,ln,l,st,dF,g,i,is,q]
    match r with
    |[b,c] =>
     have x1:=Oa [c] a b S;have x2:=at2 [] a b c S;have n1:=dX (n a #[3]).pl (m:Int) S;have n2:=dX (n b #[3]).pl (j:Int) S;have n3:=dX (n c #[3]).pl (j:Int) S;rw[Pt] at p;have h:=p.2;unfold e_ at h;simp only at h;cases ha:dY a m with
     |false =>
      rw[ha] at n1;simp[f,it,ln,st,dF,g,i,hs,lo,ft,n1]
     |true =>
      rw[ha] at n1 h;cases hb:dY b j with
      |false =>
       rw[hb] at n2;simp[f,it,ln,st,dF,g,i,hs,lo,ft,n1,x1,n2]
      |true =>
       rw[hb] at n2 h;cases hc:dY c j with
       |false =>
        rw[hc] at n3;simp[f,it,ln,st,dF,g,i,hs,lo,ft,n1,x1,n2,x2,n3]
       |true =>
        rw[hc] at n3 h;obtain⟨y,rfl,_⟩:=fU hb;obtain⟨z,rfl,_⟩:=fU hc;have A:y=z:=by simp at h;omega
        subst A;simp[f,it,ln,st,dF,g,i,hs,lo,ft,n1,x1,n2,x2,n3]
    |[]=>simp[f,it,ln,st,dF,g,i,hs,xm]
    |[b]=>simp[f,it,ln,st,dF,g,i,hs,xm]
    |b::c::e::r =>
     have u:¬ ((r.length:Int)+1+1+1+1=3):=#[2]
     have l:¬ ((r.length:Int)+1+1+1+1=0):=#[2]
     simp[f,it,ln,st,dF,g,i,hs,u,l]
 |set _=>cases hd
 |loc _=>cases hd
 |fn _ _=>cases hd
 |_=>simp[f,aW,aV,bz]
def RV (m:Nat)(R:ae Row):Prop:=∀ i r,R[i]?=aa r->CJ m i r
noncomputable def fT (o:ae Nat)(R:ae Row):Row->e8
 | .leaf _=>a6
 | .ask c n y=>dr (#[7]<HD.pl o R n)&&dr (#[7]<HD.pl o R y)
theorem Aj {o:ae Nat}(nd:o.Nodup){a k:Nat}(hc:a∈o):a∈o.drop k↔k<=o.idxOf a:=by
 have c:=OD hc;constructor
 ·intro h;rw[QG] at h;obtain⟨i,b⟩:=h;rw[Tj] at b;have d:=(b7.mp b).1;have e:o[o.idxOf a]?=aa a:=by rw[a4 c];simp
  have:=(Us d nd).mp (b.trans e.symm);omega
 intro h;rw[QG];refine⟨o.idxOf a-k,?_⟩;rw[Tj,show k+(o.idxOf a-k)=o.idxOf a by omega,a4 c];simp
noncomputable def f6 (o:ae Nat)(R:ae Row)(c:Nat)(d:D):e8:=match d with
 | .int g => !dr (#[7]<HD.pl o R g.toNat)
 |_=>bo
theorem AB {o:ae Nat}{m:Nat}(po:o.Perm (ei m)){R:ae Row}(v:RV m R){tl:ae D}{c:Nat}(hc:c<m){gs:ae Nat}(x:∀ g∈gs,g<R.length)(a:Hv)(hb : a[4]?=aa (aa (.tup ((o.drop (#[7]+1)).map λ(c:Nat)=>D.int c))))(h0 : a[0]?=aa (aa (.tup (R.map aC++tl))))(S:Hu) :
  cS (aJ 0) cP fy (gs.map λ(g:Nat)=>D.int g) (cL 1 [4,0] a) S=aa ((gs.map λ(g:Nat)=>D.int g).filter (f6 o R c),S):=by
 have nd:o.Nodup:=po.nodup_iff.mpr Zn;have l:∀ c,c<m->c∈o:=λc hc=>po.mem_iff.mpr (nC.mpr hc);have A:cL 1 [4,0] a=[av,aa (.tup ((o.drop (#[7]+1)).map λ(c:Nat)=>D.int c)),aa (.tup (R.map aC++tl))]:=by simp[cL,hb,h0]
 rw[A]
 have q:=g6 (u:=aJ 0) (gt:=cP) (fe:=fy) (λa => ∃ y,a=[y,aa (.tup ((o.drop (#[7]+1)).map λ(c:Nat)=>D.int c)),aa (.tup (R.map aC++tl))]) (f6 o R c) id S (gs.map λ(g:Nat)=>D.int g) [av,aa (.tup ((o.drop (#[7]+1)).map λ(c:Nat)=>D.int c)),aa (.tup (R.map aC++tl))] ⟨av,rfl⟩ (by
  rintro d hd a ⟨y,rfl⟩;obtain⟨g,s,rfl⟩:=vl.mp hd;have z:=x g s;have b:R[g]?=aa R[g]:=a4 z;have j:=A5 (tl:=tl) S b;have i:=ue R[g];have f:=HD.r0 R[g] S;refine⟨[aa (.int g),aa (.tup ((o.drop (#[7]+1)).map λ(c:Nat)=>D.int c)),aa (.tup (R.map aC++tl))],rfl,⟨_,rfl⟩,?_,λh=>rfl⟩;have r:=v g _ b;have t:=OD (l c hc);generalize C:(.tup (R.map aC++tl):D)=xd at *
  cases hr:R[g] with
  |leaf B =>
   rw[hr] at j i f b;have k:HD.pl o R g=o.length:=by unfold HD.pl;rw[b]
   have hb:f6 o R c (.int g)=bo:=by simp only[f6,nq,k,e4 t];rfl
   rw[hb];unfold cP;simp[j,f,i,-lE]
  |ask e n E =>
   rw[hr] at j i f r b;have w:e∈o:=l e r.1;have k:HD.pl o R g=o.idxOf e:=by unfold HD.pl;rw[b]
   have hb:f6 o R c (.int g) = !dr (e∈o.drop (#[7]+1)):=by simp only[f6,nq,k];congr 1;rw[VE,Aj nd w];omega
   rw[hb];have p:=t_ a6 e (o.drop (#[7]+1)) S;simp only[XY] at p ⊢;unfold cP
   simp[j,f,i,p,-lE,-XY])
 rw[q,map_id]
theorem zH {o:ae Nat}{m:Nat}(po:o.Perm (ei m))(N:m<=10){R:ae Row}(v:RV m R){tl:ae D}{j:Nat}{r:Row}(l:R[j]?=aa r)(S:Hu) :
  d_ [.tup (R.map aC++tl),.int j,oD o] S=HC (.bl (!dr (r∈R.take j)&&fT o R r)) S:=by
 have Q:o.length=m:=by rw[po.length_eq,lr]
 have G:∀ c,c<m->c∈o:=λc hc=>po.mem_iff.mpr (nC.mpr hc);have K:∀ c∈o,c<m:=λc hc=>nC.mp (po.mem_iff.mp hc);have k:Iy (.tup (R.map aC++tl)) (.int j) S=aa (aC r):=A5 S l;have u:=(b7.mp l).1;have st:=xH (tl:=tl) (qs u);have b:=Dr bo r (R.take j) S;have i:=v j r l;cases LZ:dr (r∈R.take j) with
 |true =>
  rw[LZ] at b;refine #[6];unfold fY;generalize Im (R.take j)=tk at *
  generalize (.tup (R.map aC++tl):D)=xd at *
  have it:aW "tuple" (aC r)=aa (.bl a6):=by cases r<;>rfl
  have ln:∃ n:Int,a_ [aC r]=aa (.int n)/\¬ n=0:=by cases r<;>exact⟨_,rfl,by simp⟩
  obtain⟨n,ln,w⟩:=ln;generalize aC r=rd at *
  simp[k,it,ln,w,st,dF,b]
 |false =>
  rw[LZ] at b;cases r with
  |leaf a =>
   refine #[6];unfold fY;have e:=kW (d:=.tup (a.map .str)) (by rw[L2.pl];exact IQ.mpr λd hd=>by obtain⟨x,_,rfl⟩:=vl.mp hd;rfl) S;rw[iu a i.1,i.2] at e;have f:=HD.r0 (.leaf a) S;have x1:Iy (aC (.leaf a)) (.int 1) S=aa (.tup (a.map .str)):=rfl;have t:a_ [aC (.leaf a)]=aa (.int 2):=rfl;have it:aW "tuple" (aC (.leaf a))=aa (.bl a6):=rfl;have E:Iv (.str "names") (.str "names")=aa (.bl a6):=by simp[Iv,toPy,fh,hO]
   have is:aW "str" (.str "names")=aa (.bl a6):=rfl;generalize Im (R.take j)=tk at *
   generalize (.tup (R.map aC++tl):D)=xd at *
   generalize aC (.leaf a)=rd at *
   generalize (.tup (a.map .str):D)=nd at *
   simp[k,it,t,st,dF,b,f,is,E,x1,e,fT]
  |ask c n y =>
   obtain⟨a1,a2,X,O⟩:=i;refine #[6];unfold fY;have f:=HD.r0 (.ask c n y) S;have x1:Iy (aC (.ask c n y)) (.int 1) S=aa (.int n):=rfl;have x2:Iy (aC (.ask c n y)) (.int 2) S=aa (.int y):=rfl;have p:a_ [aC (.ask c n y)]=aa (.int 3):=rfl;have lo:a_ [oD o]=aa (.int o.length):=by simp[a_]
   have it:aW "tuple" (aC (.ask c n y))=aa (.bl a6):=rfl;have is:aW "str" (.int c)=aa (.bl bo):=rfl;have n1:=dX (d:=.int c) rfl (o.length:Int) S;have n2:=dX (d:=.int n) rfl (j:Int) S;have n3:=dX (d:=.int y) rfl (j:Int) S;have q:dY (.int c) (o.length:Int)=a6:=by simp only[dY,eL,j2];omega
   have s:dY (.int n) (j:Int)=a6:=by simp only[dY,eL,j2];omega
   have I:dY (.int y) (j:Int)=a6:=by simp only[dY,eL,j2];omega
   rw[q] at n1;rw[s] at n2;rw[I] at n3;have B:¬ (n:Int)=y:=#[2]
   have F:we [oD o]=aa (.lst (o.map λ(c:Nat)=>D.int c)):=rfl;have C:=Ce #[0] (λc hc=>by have:=K c hc;omega) (G c a1);have H:sx (.lst (o.map λ(c:Nat)=>D.int c))=a6:=rfl;have z:IX (oD o) (aa ((#[7]:Int)+1)) av=aa (.tup ((o.drop (#[7]+1)).map λ(c:Nat)=>D.int c)):=by rw[show (#[7]:Int)+1=((#[7]+1:Nat):Int) from rfl];simp only[IX];rw[AR,XY]
   have L:IX (aC (.ask c n y)) (aa 1) av=aa (.tup [.int n,.int y]):=rfl
   have gs:cS (aJ 0) cP fy [.int n,.int y] _ S=aa ([D.int n,.int y].filter (f6 o R c),S):=AB po v (tl:=tl) a1 (gs:=[n,y]) (by
    intro g hg;rcases gi.mp hg with rfl |hg
    ·omega
    rw[eR.mp hg];omega) [aa (.tup (R.map aC++tl)),aa (.int j),aa (oD o),aa (aC (.ask c n y)),aa (.tup ((o.drop (#[7]+1)).map λ(c:Nat)=>D.int c))] rfl rfl S
   have e:=Ck (ds:=[D.int n,.int y].filter (f6 o R c)) (IQ.mpr λd hd=>by
    have:=(N7.mp hd).1;rcases gi.mp this with rfl |h
    ·rfl
    rw[eR.mp h];rfl)
   have J:([D.int n,.int y].filter (f6 o R c)).isEmpty=fT o R (.ask c n y):=by
    have A:f6 o R c (.int n) = !dr (#[7]<HD.pl o R n):=by simp only[f6,nq]
    have M:f6 o R c (.int y) = !dr (#[7]<HD.pl o R y):=by simp only[f6,nq]
    rw[Ut,Ut,A,M];show _=(dr (#[7]<HD.pl o R n)&&dr (#[7]<HD.pl o R y));cases dr (#[7]<HD.pl o R n)<;>cases dr (#[7]<HD.pl o R y)<;>rfl
   rw[J] at e;generalize [D.int n,.int y].filter (f6 o R c)=fl at *
   generalize fT o R (.ask c n y)=ob at *
   generalize T:aC (.ask c n y)=rd at *
   generalize U:(.tup ((o.drop (#[7]+1)).map λ(c:Nat)=>D.int c):D)=be at *
   generalize W:oD o=od at *
   generalize Y:(.lst (o.map λ(c:Nat)=>D.int c):D)=ol at *
   generalize P:Im (R.take j)=tk at *
   generalize V:(.tup (R.map aC++tl):D)=rD at *
   simp[k,it,p,st,dF,b,f,is,n1,lo,ft,x1,x2,n2,n3,B,F,H,C,z,L,bN];simp[gs,e]
abbrev nL (l:ae Nat):D:=.lst (l.map λ(c:Nat)=>D.int c)
theorem Fj (neg:e8)(c:Nat)(o:ae Nat)(S:Hu):Kn neg (.int c) (nL o) S=aa (.bl (neg != dr (c∈o))):=by have q:=t_ neg c o S;unfold Kn at q ⊢;rw[ee (by rw[show bi (.tup _)=bo from rfl];decide)] at q;rw[ee (by rw[show bi (.lst _)=bo from rfl];decide)];exact q
theorem q8 (rec:Ht)(fs gs:ae Nat)(a b c e:ax D)(S:Hu):cS (aJ 0) (fH rec) (ii rec) (gs.map λ(g:Nat)=>D.int g) (cL 1 [3] [a,b,c,aa (nL fs),e]) S=aa ((gs.filter λg=>dr (g∉fs)).map λ(g:Nat)=>D.int g,S):=by
 have j:cL 1 [3] [a,b,c,aa (nL fs),e]=[av,aa (nL fs)]:=rfl;rw[j]
 have q:=g6 (u:=aJ 0) (gt:=fH rec) (fe:=ii rec) (λf => ∃ y,f=[y,aa (nL fs)]) (λd=>match d with | .int i=>dr (i.toNat∉fs) |_=>bo) id S (gs.map λ(g:Nat)=>D.int g) [av,aa (nL fs)] ⟨av,rfl⟩ (by
  rintro d hd f ⟨y,rfl⟩;obtain⟨g,k,rfl⟩:=vl.mp hd;refine⟨[aa (.int g),aa (nL fs)],rfl,⟨_,rfl⟩,?_,λh=>rfl⟩;have h:=Fj a6 g fs S;unfold fH;simp only[Fv,GB,Fs,List.getElem?_cons_zero,N1]
  simp[h,-lE])
 rw[q,map_id,ZE];rfl
theorem sU (a b:ae Nat)(h:a.length+b.length<=4000):bg (nL a) (nL b)=aa (nL (a++b)):=by simp only[bg,dV,r4];rw[dw (by simp only[dk];omega)];simp
theorem qE {α:Type}[s8 α]:∀ {l P:ae α},l.Nodup->(∀ x∈l,x∈P)->l.length<=P.length
 |[],P,_,_=>Pl _
 |a::l,P,nd,h=>by
  obtain⟨f,e⟩:=Sh.mp nd;have c:=h a (e7 ..);have d:=qE (P:=P.erase a) e λx b=>(List.mem_erase_of_ne (by rintro rfl;exact f b)).mpr (h x (d7 _ b));rw[U7 c] at d;have:=Qo c;rw[hD];omega
section
variable {o:ae Nat}{G:ae Row}
def A_ (F:Ht)(w:Nat)(N:Nat)(G:ae Row)(o:ae Nat):Prop:=
 ∀ (j:Nat) (a:ae Nat) (S:Hu) (l:Nat),o.length+1<=w+HD.pl o G j->j<G.length->j∉a->S[l]?=aa (.dict (lf a))->Cl G a->a.length+N<=10000 ->
  ∃ X,F [Im G,.int j,.loc l] S=HC .Ic (S.set l (.dict (lf (a++X++[j]))))/\Cl G (a++X++[j])/\(∀ x∈X,x<j)/\X.length+1<=N/\(a++X++[j]).map (HD.uT G)=po (HD.uT G j) (a.map (HD.uT G))
theorem mH {F:Ht}{w N:Nat}(r:A_ F w N G o)(j k:Nat)(a:ae Nat)(S:Hu)(l:Nat)(n:o.length+1<=w+HD.pl o G k)(m:k<G.length)(d:S[l]?=aa (.dict (lf a)))(hc:Cl G a)(p:a.length+N<=10000) :
  ∃ X,bj F [aa (Im G),aa (.int j),aa (.loc l),aa (.int k)] S=HC (.next [aa (Im G),aa (.int j),aa (.loc l),aa (.int k)]) (S.set l (.dict (lf (a++X))))/\Cl G (a++X)/\(∀ x∈X,x<=k)/\k∈a++X/\X.length<=N/\(a++X).map (HD.uT G)=po (HD.uT G k) (a.map (HD.uT G)):=by
 have c:=CV d k;by_cases b:k∈a
 ·rw[e4 b] at c
  have g:S.set l (.dict (lf (a++[])))=S:=by
   rw[eM];apply Qf;intro i;by_cases e:l=i
   ·subst e;rw[da d,d]
   rw[cH e]
  refine⟨[],?_,by rw[eM];exact hc,(λx hx=>by cases hx),by rw[eM];exact b,by simp,by rw[eM,di (P_ b)]⟩;rw[g];unfold bj;simp[c]
 rw[cX b] at c;obtain⟨X,q,h,f,nx,s⟩:=r k a S l n m b d hc p;refine⟨X++[k],?_,by rw[← gv];exact h,λx hx=>?_,by simp,by simpa using nx,by rw[← gv];exact s⟩
 ·unfold bj;simp[c,q]
 rcases il.mp hx with hx |hx
 ·exact qs (f x hx)
 rw[eR.mp hx];exact eG _
theorem qI (w:Wf o G):∀ b:Nat,A_ (aP b) b (2 ^ b-1) G o
 | 0,j,a,S,l,H,_,_,_,_,_=>hK H (by have:=zQ o G j;omega)
 |n+1,j,a,S,l,H,hj,hnm,hl,hc,hN=>by
  have L:=qI w n;have p2 : 2 ^ (n+1)=2*2 ^ n:=by rw[NH];omega
  have X : 1<=2 ^ n:=NL;have e:G[j]?=aa G[j]:=a4 hj;have q:=w.row j _ e;have u:MZ (Im G) (.int j)=aa (aC G[j]):=bM (by rw[eh,e];rfl);have t:=pC G[j] S;have I:bi (Im G)=bo:=rfl;have P:∀ k:Nat,fu (.int k)=aa (.inl (k:Int)):=λk=>rfl
  have finish:∀ (f:ae Nat) (r:Hu) (z:ax D),r=S.set l (.dict (lf f))->j∉f->f.length<=20000->u3 (af 2) (af 1) (ar (.bl a6)) [aa (Im G),aa (.int j),aa (.loc l),z] r=HC (.next [aa (Im G),aa (.int j),aa (.loc l),z]) (S.set l (.dict (lf (f++[j])))):=by
   intro f r z J V s;have N:r[l]?=aa (.dict (lf f)):=by rw[J];exact da hl
   have O:(lf f).length<dk:=by unfold lf;rw[dV];exact Sm s #[1]
   have:pQ (.loc l) (.int j) (.bl a6) [aa (Im G),aa (.int j),aa (.loc l),z] r=HC (.next [aa (Im G),aa (.int j),aa (.loc l),z]) (S.set l (.dict (lf (f++[j])))):=by unfold pQ;simp only[N,P];rw[dw O,Ap V,J,Wy]
   simp[this]
  cases hr:G[j] with
  |leaf B =>
   rw[hr] at t u
   have fin:=finish a S av (by
    apply Qf;intro i;by_cases E:l=i
    ·subst E;rw[da hl,hl]
    rw[cH E]) hnm #[0]
   have g:HD.uT G j = .leaf B:=(Un.leaf (by rw[e,hr])).uT;have A:Tr.leaf B∉a.map (HD.uT G):=λh=>hnm (nN w hc.lt hj (by rw[g];exact h));refine⟨[],?_,?_,(λx hx=>by cases hx),by simp;omega,by rw[eM,g,dL A,r4,hA,RE,g]⟩
   ·rw[eM];unfold aP bq;rw[dw (show ([Im G,.int j,.loc l]:ae D).length=3 from rfl)]
    have:bQ (aP n) ([Im G,.int j,.loc l].map aa++el 1 av) S=HC (.next [aa (Im G),aa (.int j),aa (.loc l),av]) (S.set l (.dict (lf (a++[j])))):=by
     unfold bQ;show aM _ _ [aa (Im G),aa (.int j),aa (.loc l),av] S=_;rw[xE];have:ka (cF (aY bS (ag (u5 (af 0) (af 1)) aD))) (aJ 3) (bj (aP n)) [aa (Im G),aa (.int j),aa (.loc l),av] S=HC (.next [aa (Im G),aa (.int j),aa (.loc l),av]) S:=by simp[I,u,t,-lE,bN,dC]
     rw[this];exact fin
    rw[this];rfl
   rw[eM];exact hc.snoc hj hnm λc n y h=>by rw[e,hr] at h;cases h
  |ask c v m =>
   rw[hr] at t u q;obtain⟨_,Y,Z,W,b4,_⟩:=q;have pj:HD.pl o G j=#[7]:=by unfold HD.pl;rw[e,hr]
   obtain⟨d,Q,U,M,m1,n1,t1⟩:=mH L j v a S l #[0] #[0] hl hc #[0];have R:(S.set l (.dict (lf (a++d))))[l]?=aa (.dict (lf (a++d))):=da hl;obtain⟨p,K,T,F,m2,n2,t2⟩:=mH L j m (a++d) _ l #[0] #[0] R U (by rw[cq];omega);rw[Wy] at K
   have C:j∉a++d++p:=by
    intro hm;rcases il.mp hm with hm |hm
    ·rcases il.mp hm with hm |hm
     ·exact hnm hm
     have:=M j hm;omega
    have:=F j hm;omega
   have fin:=finish (a++d++p) _ (aa (.int m)) rfl C (by rw[cq,cq];omega);have g:HD.uT G j = .node c (HD.uT G v) (HD.uT G m):=(Un.node (by rw[e,hr]) (w.uT #[0]) (w.uT #[0])).uT;have A:Tr.node c (HD.uT G v) (HD.uT G m)∉a.map (HD.uT G):=λh=>hnm (nN w hc.lt hj (by rw[g];exact h));refine⟨d++p,?_,?_,λx hx=>?_,by rw[cq];omega,by rw[← gv,r4,t2,t1,g,dJ A,hA,RE,g]⟩
   ·unfold aP bq;rw[dw (show ([Im G,.int j,.loc l]:ae D).length=3 from rfl)]
    have:bQ (aP n) ([Im G,.int j,.loc l].map aa++el 1 av) S=HC (.next [aa (Im G),aa (.int j),aa (.loc l),aa (.int m)]) (S.set l (.dict (lf (a++(d++p)++[j])))):=by
     unfold bQ;show aM _ _ [aa (Im G),aa (.int j),aa (.loc l),av] S=_;rw[xE];have:ka (cF (aY bS (ag (u5 (af 0) (af 1)) aD))) (aJ 3) (bj (aP n)) [aa (Im G),aa (.int j),aa (.loc l),av] S=HC (.next [aa (Im G),aa (.int j),aa (.loc l),aa (.int m)]) (S.set l (.dict (lf (a++d++p)))):=by simp[I,u,t,-lE,bN,dC,Q,K]
     rw[this];simp only[cZ];rw[← gv a d p];exact fin
    rw[this];rfl
   ·rw[← gv];refine T.snoc hj C λc' n y h=>?_;rw[e,hr] at h;cases h;exact⟨n6 _ m1,m2⟩
   rcases il.mp hx with hx |hx
   ·have:=M x hx;omega
   have:=F x hx;omega
theorem wg (w:Wf o G)(f:o.length<=8)(S:Hu){i:Nat}(hi:i<G.length):∃ X,cN [Im G,.int i] S=HC (nL X) (S++[.dict (lf X)])/\Cl G X/\X.map (HD.uT G)=po (HD.uT G i) []:=by
 have e:(S++[MO.dict (lf [])])[S.length]?=aa (.dict (lf [])):=by simp
 obtain⟨X,q,c,_,n,a⟩:=qI w 10 i [] (S++[.dict (lf [])]) S.length #[0] hi #[3] e ⟨Q4,(λi h=>by cases h),(λp i c n y h=>by simp at h)⟩ #[1];rw[N0] at q c a;have es:(S++[MO.dict (lf [])]).set S.length (.dict (lf (X++[i])))=S++[.dict (lf (X++[i]))]:=by simp
 rw[es] at q;have n:X.length<=1022:=by have:X.length+1<=1023:=n;omega
 have q:aP 10 [Im G,.int i,#[12]] (S++[.dict []])=HC .Ic (S++[.dict (lf (X++[i]))]):=q;have d:(lf (X++[i])).length<=dk:=by unfold lf;rw[dV,cq];exact fk (show X.length+1<=2000 by omega) #[1]
 have b:d4 (#[12]) (S++[.dict (lf (X++[i]))])=aa (nL (X++[i])):=by unfold d4;simp only[RU];rw[dw d];unfold lf;rw[lE];rfl
 refine⟨X++[i],#[6],c,a⟩;unfold fX;generalize nL (X++[i])=rr at *
 generalize Im G=rd at *
 simp[q,b,-r4]
end
section
variable {o:ae Nat}{G:ae Row}
theorem yZ (w:Wf o G){a b:ae Nat}(ha:∀ x∈a,x<G.length)(hb:∀ x∈b,x<G.length):((b.filter λg=>dr (g∉a)).map (HD.uT G))=(b.map (HD.uT G)).filter λs=>dr (s∉a.map (HD.uT G)):=by rw[ZE];congr 1;refine Y9 λx d=>?_;simp only[Oo,VE];exact⟨λh c=>h (nN w ha (hb x d) c),λh c=>h (P_ c)⟩
theorem Ar (w:Wf o G){a:ae Nat}{t:Tr}(ha:∀ x∈a,x<G.length)(e:a.map (HD.uT G)=po t []):a.length<=G.length:=by have nd:=on t Q4;rw[← e] at nd;have b:a.Nodup:=List.Pairwise.imp (λh e=>h (by rw[e])) (Wn.mp nd);have:=qE b (P:=ei G.length) λx c=>nC.mpr (ha x c);rwa [lr] at this
theorem oJ (w:Wf o G)(u:G.length<=1000)(S:Hu):∀ (fuel i:Nat),i<G.length->o.length+1<=fuel+HD.pl o G i->∃ L,cO fuel [Im G,.int i] S=HC (nL L) S/\(∀ x∈L,x<G.length)/\L.map (HD.uT G)=po (HD.uT G i) []
 | 0,i,l,A=>hK A (by have:=zQ o G i;omega)
 |fuel+1,i,l,A=>by
  have e:G[i]?=aa G[i]:=a4 l;have q:=w.row i _ e;have p:Iy (Im G) (.int i) S=aa (aC G[i]):=sE S e;have j:=HD.r0 G[i] S;have k:=ue G[i];cases hr:G[i] with
  |leaf s =>
   rw[hr] at p j k e;have h:HD.uT G i = .leaf s:=(Un.leaf e).uT;have ad:bg (.lst []) (.lst [.int i])=aa (nL [i]):=sU [] [i] #[3];refine⟨[i],#[6],λx hx=>by rw[eR.mp hx];exact l,by rw[h,dL #[3],hA,h];rfl⟩;unfold oW;generalize Im G=rd at *
   generalize aC (.leaf s)=rw at *
   generalize nL [i]=rr at *
   simp[p,j,k,ad]
  |ask c n y =>
   rw[hr] at p j k e q;obtain⟨_,t,v,O,Q,_⟩:=q;have T:HD.pl o G i=#[7]:=by unfold HD.pl;rw[e]
   obtain⟨ln,K,m1,t1⟩:=oJ w u S fuel n #[0] #[0];obtain⟨f,I,m2,t2⟩:=oJ w u S fuel y #[0] #[0];have P:=Ar w m1 t1;have R:=Ar w m2 t2;have h:HD.uT G i = .node c (HD.uT G n) (HD.uT G y):=(Un.node e (w.uT #[0]) (w.uT #[0])).uT;have N:IX (aC (.ask c n y)) (aa 1) av=aa (.tup [.int n,.int y]):=rfl;have lf:=List.length_filter_le (λg=>dr (g∉ln)) f;have J:=yZ w m1 m2;have F:∀ x∈f.filter (λg=>dr (g∉ln)),x<G.length:=λx hx=>m2 x (N7.mp hx).1;have m:=q8 (cO fuel) [] ln;have r:=q8 (cO fuel) ln f;rw[Ym.mpr #[3]] at m;generalize f.filter (λg=>dr (g∉ln))=lz at *
   refine⟨ln++lz++[i],?_,λx hx=>?_,?_⟩
   ·have a1:bg (.lst []) (nL ln)=aa (nL ln):=sU [] ln (by simp;omega);have a2:bg (nL ln) (nL lz)=aa (nL (ln++lz)):=sU _ _ #[0];have H:bg (nL (ln++lz)) (.lst [.int i])=aa (nL (ln++lz++[i])):=sU _ [i] (by simp;omega);have C:bN (nL ln)=aa (ln.map λ(g:Nat)=>D.int g):=rfl;have M:bN (nL f)=aa (f.map λ(g:Nat)=>D.int g):=rfl;refine #[6];unfold oW;generalize Im G=rd at *
    generalize aC (.ask c n y)=rw at *
    generalize nL (ln++lz++[i])=rr at *
    have t:f7 (cO fuel) [aa rd,aa (.int i),aa rw,aa (.lst []),aa (.int n)] S=HC (.next [aa rd,aa (.int i),aa rw,aa (nL ln),aa (.int n)]) S:=by unfold f7;have m:cS (aJ 0) (fH (cO fuel)) (ii (cO fuel)) (ln.map λ(g:Nat)=>D.int g) (cL 1 [3] [aa rd,aa (.int i),aa rw,aa (.lst []),aa (.int n)]) S=_:=m (aa rd) (aa (.int i)) (aa rw) (aa (.int n)) S;simp[K,C,m,a1]
    have v:f7 (cO fuel) [aa rd,aa (.int i),aa rw,aa (nL ln),aa (.int y)] S=HC (.next [aa rd,aa (.int i),aa rw,aa (nL (ln++lz)),aa (.int y)]) S:=by unfold f7;have r:=r (aa rd) (aa (.int i)) (aa rw) (aa (.int y)) S;simp[I,M,r,a2]
    have E:∀ (d z:D) (a b c:ax D),aJ 4 d [a,b,c,aa z,av]=aa [a,b,c,aa z,aa d]:=λ_ _ _ _ _=>rfl;have B:∀ (d z w:D) (a b c:ax D),aJ 4 d [a,b,c,aa z,aa w]=aa [a,b,c,aa z,aa d]:=λ_ _ _ _ _ _=>rfl;have q:bN (.tup [.int n,.int y])=aa [.int n,.int y]:=rfl;generalize nL (ln++lz)=l3 at *
    generalize nL ln=l4 at *
    simp[p,j,k,N,dF,q,dC,E,B,t,v,H]
   ·rcases il.mp hx with hx |hx
    ·rcases il.mp hx with hx |hx
     ·exact m1 x hx
     exact F x hx
    rw[eR.mp hx];exact l
   rw[r4,r4,J,t1,t2,h,dJ #[3],js (HD.uT G y) (gU (HD.uT G n) xJ),hA,h];rfl
theorem yK (w:Wf o G){a b:ae Nat}(ha:∀ x∈a,x<G.length)(hb:∀ x∈b,x<G.length)(h:a.map (HD.uT G)=b.map (HD.uT G)):a=b:=by
 induction a generalizing b with
 |nil=>cases b with
  |nil=>rfl
  |cons _ _=>simp at h
 |cons x a d=>cases b with
  |nil=>simp at h
  |cons y b =>
   rw[hA,hA,N8] at h;rw[rJ w (ha x #[3]) (hb y #[3]) h.1,d (λz c=>ha z (d7 _ c)) (λz c=>hb z (d7 _ c)) h.2]
end
theorem r_ {o:ae Nat}{m:Nat}(d:∀ c,c<m->c∈o){R:ae Row}(v:RV m R){i:Nat}{r:Row}(hi:R[i]?=aa r)(S:Hu):d9 [aC r,oD o] S=HC (.int (HD.pl o R i:Nat)) S:=by
 have a:=nu r S;unfold HD.pl;rw[hi];refine #[6];unfold j4;cases r with
 |leaf g =>
  have:a_ [oD o]=aa (.int o.length):=by simp[a_]
  simp[a,this]
 |ask c n y =>
  have f:=lL (d c (v i _ hi).1);have b:Iy (aC (.ask c n y)) (.int 0) S=aa (.int c):=MD _ _ S;have e:eV (oD o)=a6:=rfl;simp[a,b,f,e]
theorem Ax {o:ae Nat}{m:Nat}(e:∀ c,c<m->c∈o){R:ae Row}(v:RV m R){i:Nat}{r:Row}(hi:R[i]?=aa r)(S:Hu):gJ [Im R,aC r,oD o] S=HC (.bl (fT o R r)) S:=by
 have g:=pC r S;have ep:=r_ e v hi S;have A:=(b7.mp hi).1;refine #[6];unfold jO;have t:cL 1 [1,2,0] [aa (Im R),aa (aC r),aa (oD o)]=[av,aa (aC r),aa (oD o),aa (Im R)]:=rfl;cases r with
 |leaf j =>
  have f:bN (.tup [])=aa []:=rfl;have a:pG [.lst []]=aa (.bl a6):=rfl;generalize Im R=rd at *
  generalize aC (.leaf j)=rw at *
  generalize oD o=od at *
  simp[g,f,cS,a,fT]
 |ask c n y =>
  obtain⟨_,x,w,_⟩:=v i _ hi;have l:HD.pl o R i=#[7]:=by unfold HD.pl;rw[hi]
  rw[l] at ep;have p:Iy (Im R) (.int n) S=aa (aC R[n]):=sE S (a4 #[0]);have s:Iy (Im R) (.int y) S=aa (aC R[y]):=sE S (a4 #[0]);have pn:=r_ e v (a4 (show n<R.length by omega)) S;have py:=r_ e v (a4 (show y<R.length by omega)) S;have f:bN (.tup [.int n,.int y])=aa [.int n,.int y]:=rfl
  have q:=d8 (u:=aJ 0) (fe:=db) (λh => ∃ z,h=[z,aa (aC (.ask c n y)),aa (oD o),aa (Im R)]) (λd => .bl (!f6 o R c d)) S [.int n,.int y] [av,aa (aC (.ask c n y)),aa (oD o),aa (Im R)] ⟨av,rfl⟩ (by
   rintro d hd h ⟨z,rfl⟩;rcases gi.mp hd with rfl |hd
   ·refine⟨_,rfl,⟨_,rfl⟩,?_⟩;have b:f6 o R c (.int n) = !dr (#[7]<HD.pl o R n):=by simp only[f6,nq]
    rw[b,Bool.not_not];unfold db;generalize Im R=rd at *
    generalize aC (.ask c n y)=rw at *
    generalize aC R[n]=rn at *
    generalize oD o=od at *
    simp[ep,p,pn,Jv]
   rw[eR.mp hd];refine⟨_,rfl,⟨_,rfl⟩,?_⟩;have b:f6 o R c (.int y) = !dr (#[7]<HD.pl o R y):=by simp only[f6,nq]
   rw[b,Bool.not_not];unfold db;generalize Im R=rd at *
   generalize aC (.ask c n y)=rw at *
   generalize aC R[y]=ry at *
   generalize oD o=od at *
   simp[ep,s,py,Jv])
  have a:=jg (λd => !f6 o R c d) [.int n,.int y];have k:([D.int n,.int y].all λd => !f6 o R c d)=fT o R (.ask c n y):=by simp[f6,fT]
  rw[k] at a;rw[← t] at q;generalize fT o R (.ask c n y)=ob at *
  generalize ([D.int n,.int y].map λd=>D.bl (!f6 o R c d))=fl at *
  generalize Im R=rd at *
  generalize aC (.ask c n y)=rw at *
  generalize oD o=od at *
  simp[g,f];simp[q,a]
theorem j3 {K:Type}[s8 K]:∀ (l b:ae K),b.Nodup->(l.foldl br b).length<=b.length+l.length/\((l.foldl br b).length=b.length+l.length->(b++l).Nodup)
 |[],b,h=>⟨by simp,λ_=>by rw[eM];exact h⟩
 |a::l,b,h=>by
  rw[wi,hD];by_cases d:a∈b
  ·have e:br b a=b:=by unfold br;rw[dw d]
   rw[e];obtain⟨f,_⟩:=j3 l b h;exact⟨#[2],λq=>hK q #[0]⟩
  have e:br b a=b++[a]:=by unfold br;rw[ee d]
  rw[e];obtain⟨f,c⟩:=j3 l (b++[a]) (I0.mpr ⟨h,by simp,λx i y g=>by rw[eR.mp g];rintro rfl;exact d i⟩);rw[cq] at f c;simp only[hD,QM] at f c;refine⟨#[2],λq=>?_⟩;have:=c #[0];rwa [gv] at this
theorem tY {a b:Row}(h:dW a=dW b):a=b:=by have q:=m_ a b;rw[h,m_ b b,e4 rfl] at q;exact hM q.symm
theorem qK:∀ {R:ae Row},(∀ r∈R,c9 r)->zb Aw (R.map aC)=aa (R.map dW)
 |[],_=>rfl
 |r::R,h=>by
  have e:Aw (aC r)=aa (dW r):=by have q:=jq (h r (e7 ..));cases r<;>exact q
  rw[hA,zb,e,qK (R:=R) λx a=>h x (d7 _ a)];rfl
theorem RV.ok {m:Nat}{R:ae Row}(v:RV m R):∀ r∈R,c9 r:=by
 intro r hr;obtain⟨i,a⟩:=la hr;have:=v i r a;cases r with
 |leaf b=>exact this.1
 |ask c n y=>trivial
theorem Bn {m:Nat}{R:ae Row}(v:RV m R)(f:R.length<900):∃ n:Nat,kI (Im R)=aa (.int n)/\(n<R.length↔¬ R.Nodup):=by
 refine⟨((R.map dW).foldl br []).length,?_,?_⟩
 ·unfold kI;simp only;rw[dw (by rw[dV];exact f),qK v.ok];rfl
 obtain⟨d,b⟩:=j3 (R.map dW) [] Q4;simp only[QM,dV,n7,N0] at d b;have a:(R.map dW).Nodup↔R.Nodup:=by unfold List.Nodup;rw[Wn];exact⟨λh=>h.imp λq e=>q (by rw[e]),λh=>h.imp λq e=>q (tY e)⟩
 constructor
 ·intro c nd;have:=lK (R.map dW) [] (by rw[N0];exact a.mpr nd);rw[this] at c;simp at c
 intro g;rcases Py d with h |h
 ·exact h
 exact hK (a.mp (b h)) g
noncomputable def gd (o:ae Nat)(R:ae Row)(i:Nat):e8:=match R[i]? with
 |aa r => !dr (r∈R.take i)&&fT o R r
 |av=>bo
theorem AF (o:ae Nat)(R:ae Row):(∀ i,i<R.length->gd o R i=a6)↔R.Nodup/\∀ r∈R,fT o R r=a6:=by
 have get:∀ i (a:i<R.length),gd o R i=(!dr (R[i]∈R.take i)&&fT o R R[i]):=λi a=>by unfold gd;rw[a4 a]
 constructor
 ·intro h;refine⟨?_,λr hr=>?_⟩
  ·unfold List.Nodup;rw[TJ];intro i j a c d e;have q:=h j c;rw[get j c,eL] at q;have q:=q.1;have:R[j]∈R.take j:=by rw[← e,QG];exact⟨i,by rw[Tw,dw d,a4 a]⟩
   simp[this] at q
  obtain⟨i,a,rfl⟩:=P5 hr;have q:=h i a;rw[get i a,eL] at q;exact q.2
 rintro⟨nd,h⟩ i a;rw[get i a,h _ (NX a),Yt,Wm,PB];intro f;obtain⟨k,b⟩:=la f;rw[Tw] at b;split at b
 ·rename_i g;have:=(Us #[0] nd).mp (b.trans (a4 a).symm);omega
 cases b
theorem RV.wf {o:ae Nat}{m:Nat}(f:∀ c,c<m->c∈o){R:ae Row}(v:RV m R)(nd:R.Nodup)(h:∀ r∈R,fT o R r=a6):Wf o R:=by
 refine⟨nd,λi r e=>?_⟩;have w:=v i r e;have q:=h r (mx e);cases r with
 |leaf j=>exact w
 |ask c n y =>
  obtain⟨a,b,g,d⟩:=w;simp only[fT,eL,j2] at q;exact⟨f c a,b,g,q.1,q.2,d⟩
theorem Be {k:Nat}(F:k<=150){o:ae Nat}{m:Nat}(po:o.Perm (ei m))(B:m<=10){R:ae Row}(v:RV m R){tl:ae D}(C:tl=[]∨∃ d rest,tl=d::rest/\SN k d/\(cR d ||e_ d R.length m)=bo)(S:Hu) :
  ((tl=[]/\R.Nodup/\∀ r∈R,fT o R r=a6)/\∃ a,dC (aJ 2) bV ((ei (R.map aC++tl).length).map λ(k:Nat)=>D.int k) [aa (.tup (R.map aC++tl)),aa (oD o),av] S=HC (.next [aa (.tup (R.map aC++tl)),aa (oD o),a]) S) ∨
  ((tl=[]->¬ (R.Nodup/\∀ r∈R,fT o R r=a6))/\dC (aJ 2) bV ((ei (R.map aC++tl).length).map λ(k:Nat)=>D.int k) [aa (.tup (R.map aC++tl)),aa (oD o),av] S=HC (.ret (.bl bo)) S):=by
 have G:o.length=m:=by rw[po.length_eq,lr]
 have yes:=λ(j:Nat) (r:Row) (b:R[j]?=aa r)=>zH po B v (tl:=tl) b S
 have no:∀ d rest,tl=d::rest->d_ [.tup (R.map aC++tl),.int R.length,oD o] S=HC (.bl bo) S:=by
  intro d rest e;rcases C with h |⟨J,I,x,sd,A⟩
  ·rw[h] at e;cases e
  rw[e] at x;cases x;rw[e];exact Bw F sd (by rw[G];exact A) S
 have c:(R.map aC++tl).length=R.length+tl.length:=by simp
 have p:∃ xd,(.tup (R.map aC++tl):D)=xd:=⟨_,rfl⟩;obtain⟨xd,p⟩:=p;rw[c];rw[p] at no ⊢;have yes:∀ (j:Nat) (r:Row),R[j]?=aa r->d_ [xd,.int j,oD o] S=HC (.bl (gd o R j)) S:=λj r b=>by have q:=yes j r b;rw[p] at q;rw[q];unfold gd;rw[b]
 rcases j1 (u:=aJ 2) (body:=bV) (λi y=>(∃ a,y=[aa xd,aa (oD o),a])/\i<=R.length) (λi _=>gd o R i) (.bl bo) S ((ei (R.length+tl.length)).map λ(k:Nat)=>D.int k) 0 [aa xd,aa (oD o),av] ⟨⟨av,rfl⟩,Pl _⟩ (by
  rintro j d y b ⟨⟨a,rfl⟩,g⟩;obtain⟨rfl,f⟩:=gT b;simp only[n7] at g ⊢;refine⟨[aa xd,aa (oD o),aa (.int j)],rfl,?_⟩;rcases Py g with h |h
  ·have e:R[j]?=aa R[j]:=a4 h;have q:=yes j _ e;generalize oD o=od at *
   refine⟨λl=>⟨[aa xd,aa od,aa (.int j)],?_,⟨_,rfl⟩,by omega⟩,λl=>?_⟩
   ·rw[l] at q;unfold bV;simp[q]
   rw[l] at q;unfold bV;simp[q]
  have l:gd o R j=bo:=by unfold gd;rw[Ou (by omega)]
  refine⟨λq=>hK (l.symm.trans q) (by decide),λ_=>?_⟩;cases Qp:tl with
  |nil=>rw[Qp] at f;simp at f;omega
  |cons d rest =>
   have q:=no d rest Qp;rw[← h] at q;generalize oD o=od at *
   unfold bV
   simp[q]) with ⟨t,E,n,⟨a,rfl⟩,w⟩ |⟨⟨j,d,t,n⟩,w⟩
 ·simp only[dV,lr,n7] at w;have s:tl=[]:=r3.mp #[0];refine .inl ⟨⟨s,(AF o R).mp λi H=>?_⟩,a,n⟩;have:=t i (.int i) (by rw[eh,Yj #[0]];rfl);simpa using this
 refine .inr ⟨λs z=>?_,w⟩;obtain⟨rfl,f⟩:=gT t;rw[s] at f;have:=(AF o R).mpr z j (by simpa using f);simp only[n7] at n;rw[this] at n;cases n
noncomputable def Sf (m:Nat)(d:D):e8:=match d with
 | .tup [.int i,z]=>cR z ||e_ z i m
 |_=>bo
theorem zG {ds:ae D}(g:∀ d∈ds,SN 4 d){o:ae Nat}(x:D)(S:Hu):cS (nM 2 (cm (aJ 0) (cm (aJ 1) jH))) gC gx (bX 0 ds) (cL 2 [1] [aa x,aa (oD o)]) S=aa ((bX 0 ds).map λd => .bl (Sf o.length d),S):=by
 have h:cL 2 [1] [aa x,aa (oD o)]=[av,av,aa (oD o)]:=rfl;rw[h];have lo:a_ [oD o]=aa (.int o.length):=by simp[a_]
 generalize oD o=od at *
 refine d8 (u:=nM 2 (cm (aJ 0) (cm (aJ 1) jH))) (fe:=gx) (λe => ∃ a b,e=[a,b,aa od]) (λd => .bl (Sf o.length d)) S (bX 0 ds) [av,av,aa od] ⟨av,av,rfl⟩ (by
  rintro d hd e ⟨a,b,rfl⟩;obtain⟨j,c⟩:=la hd;rw[b9] at c;obtain⟨z,f,rfl⟩:=dv.mp c;rw[n7];have q:=yR (eG _) (g z (mx f)) (j:Int) (o.length:Int) S;refine⟨[aa (.int j),aa z,aa od],rfl,⟨_,_,rfl⟩,?_⟩;unfold gx;show _=HC (D.bl (cR z ||e_ z j o.length)) S
  simp[lo,q])
theorem Ez {m:Nat}{R:ae Row}{tl:ae D}(v:RV m R)(e:tl=[]∨∃ d rest,tl=d::rest/\(cR d ||e_ d R.length m)=bo):(bX 0 (R.map aC++tl)).all (Sf m)=dr (tl=[]):=by
 rcases e with rfl |⟨d,rest,rfl,c⟩
 ·rw[e4 rfl,tr];intro d hd;obtain⟨j,a⟩:=la hd;rw[b9,eM,eh] at a;obtain⟨z,b,rfl⟩:=dv.mp a;obtain⟨r,hr,rfl⟩:=dv.mp b;rw[n7];exact(tW (aC r) j m).mpr ⟨r,rfl,v j r hr⟩
 rw[cX #[3],Uv];refine⟨.tup [.int R.length,d],?_,?_⟩
 ·refine mx (i:=R.length) ?_;rw[b9,f5 (by rw[dV];exact eG _)];simp
 show ¬ (cR d ||e_ d R.length m)=a6;rw[c];decide
theorem zI {a b:Row}(h:aC a=aC b):a=b:=by have q:=rX a;rw[h,rX b] at q;exact tY (kx q.symm)
open Classical in
noncomputable def Qq (o:List Nat) (R:List Row) (d:D):Bool:=decide (∀ r,d=aC r->fT o R r=true)
open Classical in
theorem Au (o:List Nat)(R:List Row)(r:Row):Qq o R (aC r)=fT o R r:=by
 unfold Qq;cases h:fT o R r with
 |true=>exact decide_eq_true λa e=>by rw[← zI e];exact h
 |false=>exact decide_eq_false λq=>by have:=q r rfl;rw[h] at this;cases this
theorem yQ {o:ae Nat}{m:Nat}(e:∀ c,c<m->c∈o){R:ae Row}(v:RV m R)(S:Hu):cS (aJ 0) gC gw (R.map aC) (cL 1 [0,1] [aa (Im R),aa (oD o)]) S=aa ((R.map aC).map λd => .bl (Qq o R d),S):=by
 have g:cL 1 [0,1] [aa (Im R),aa (oD o)]=[av,aa (Im R),aa (oD o)]:=rfl;rw[g]
 refine d8 (u:=aJ 0) (fe:=gw) (λb => ∃ a,b=[a,aa (Im R),aa (oD o)]) (λd => .bl (Qq o R d)) S (R.map aC) _ ⟨av,rfl⟩ (by
  rintro d hd b ⟨a,rfl⟩;obtain⟨r,hr,rfl⟩:=vl.mp hd;obtain⟨i,f⟩:=la hr;have q:=Ax e v f S;rw[Au];refine⟨[aa (aC r),aa (Im R),aa (oD o)],rfl,⟨_,rfl⟩,?_⟩;unfold gw;generalize Im R=rd at *
  generalize aC r=rw at *
  generalize oD o=od at *
  simp[q])
theorem D1 (o:ae Nat)(R:ae Row):(R.map aC).all (Qq o R)=R.all (fT o R):=by rw[all_map];congr 1;funext r;exact Au o R r
theorem Eb (a b:ae Nat):Iv (nL a) (nL b)=aa (.bl (dr (a=b))):=by
 have q:=uK (a.map λ(c:Nat)=>(c:Int)) (b.map λ(c:Nat)=>(c:Int));rw[lE,lE] at q
 have e:dr ((a.map λ(c:Nat)=>(c:Int))=b.map λ(c:Nat)=>(c:Int))=dr (a=b):=by
  rw[VE];constructor
  ·intro h
   induction a generalizing b with
   |nil=>cases b with
    |nil=>rfl
    |cons _ _=>simp at h
   |cons x a d=>cases b with
    |nil=>simp at h
    |cons y b =>
     rw[hA,hA,N8] at h
     rw[d b (by
      have:=uK (a.map λ(c:Nat)=>(c:Int)) (b.map λ(c:Nat)=>(c:Int))
      rw[lE,lE] at this;exact this) h.2,show x=y by omega]
  rintro rfl;rfl
 rw[e] at q;exact q
theorem qX {x:D}(t:SN 5 x){o:ae Nat}{m:Nat}(po:o.Perm (ei m))(hm:m<=8)(S:Hu):∃ b V,jz [x,oD o] S=HC (.bl b) V/\∀ S,gG [x,oD o] S=HC (.bl b) S:=by
 have L0:o.length=m:=by rw[po.length_eq,lr]
 have O:∀ c,c<m->c∈o:=λc hc=>po.mem_iff.mpr (nC.mpr hc);cases x with
 |tup f =>
  have hl:=(SN.parts t).1;have N:∀ d∈f,SN 4 d:=by cases t with |tup _ h=>exact h
  have it:aW "tuple" (.tup f)=aa (.bl a6):=rfl;have ln:a_ [.tup f]=aa (.int f.length):=rfl;by_cases T:f=[]
  ·subst T;refine⟨bo,S,#[6],λS=>#[6]⟩
   ·unfold fD;generalize oD o=od;simp[it,ln]
   unfold dD;generalize oD o=od;simp[it,ln]
  have l:¬ f.length=0:=λh=>T (r3.mp h);obtain⟨R,G,e,(v:RV m R),ht⟩:=tV m f [] (λi r h=>by simp at h);rw[RE,N0] at e
  have XG:G=[]∨∃ d rest,G=d::rest/\SN 4 d/\(cR d ||e_ d R.length m)=bo:=by
   rcases ht with h |⟨d,rest,h,Z⟩
   ·exact .inl h
   exact .inr ⟨d,rest,h,N d (by rw[e,h];simp),Z⟩
  have g:=Be #[1] po #[0] v XG;have u:=zG N (o:=o) (.tup f);have j:=jg (Sf o.length) (bX 0 f);rw[L0] at j u;have P:=Ez v ht;rw[← e] at g P;rw[P] at j;have y:jR [.tup f]=aa (bX 0 f):=rfl;have I:iG [.int f.length]=aa ((ei f.length).map λ(k:Nat)=>D.int k):=by simp only[iG];rw[dw #[0]];simp
  have M:fC [.int f.length]=aa (nL (ei f.length)):=by simp only[fC];rw[dw #[0]];simp
  by_cases F:G=[]
  ·subst F;rw[eM] at e;rw[e4 rfl] at j;have K:f.length=R.length:=by rw[e,dV]
   obtain⟨n,es,E⟩:=Bn v #[0];have z:=yQ O v;have p:=jg (Qq o R) (R.map aC);rw[D1] at p;have Q:Im R = .tup f:=by rw[e]
   rw[Q] at es z;rw[← e] at z p;have sq:bN (.tup f)=aa f:=rfl;by_cases A:R.Nodup/\∀ r∈R,fT o R r=a6
   ·obtain⟨nd,B⟩:=A;have w:=RV.wf O v nd B;have Yk : 0<R.length:=#[2]
    obtain⟨X,J,Y,tX⟩:=wg w #[0] S (i:=R.length-1) #[0];have q:∀ S,cO 11 [Im R,.int (R.length-1:Nat)] S=HC (nL X) S:=λS=>by obtain⟨L,W,mL,tL⟩:=oJ w #[0] S 11 (R.length-1) #[0] #[0];rw[W,yK w mL Y.lt (tL.trans tX.symm)]
    rw[Q] at J q;have U:((R.length-1:Nat):Int)=(f.length:Int)-1:=#[2]
    rw[U] at J q;have eq:=Eb X (ei f.length);have C:¬ n<f.length:=by rw[K];exact λh=>E.mp h nd
    have H:R.all (fT o R)=a6:=tr.mpr B;rw[H] at p;refine⟨dr (X=ei f.length),S++[.dict (lf X)],#[6],λS=>?_⟩
    ·unfold fD;generalize dr (X=ei f.length)=bb at *
     generalize nL (ei f.length)=rr at *
     generalize nL X=xx at *
     generalize oD o=od at *
     generalize (.tup f:D)=xd at *
     generalize f.length=nn at *
     simp[it,ln,l,y,u,j,es,Jv,C,sq,z,p,ft,J,M,eq,-lE]
    rcases g S with ⟨_,a,s⟩ |⟨h,_⟩
    ·refine #[6];have q:=q S;unfold dD;generalize dr (X=ei f.length)=bb at *
     generalize nL (ei f.length)=rr at *
     generalize nL X=xx at *
     generalize oD o=od at *
     generalize ((ei f.length).map λ(k:Nat)=>D.int k)=rg at *
     generalize (.tup f:D)=xd at *
     generalize f.length=nn at *
     simp[it,ln,l,I,s,ft,q,M,eq,-lE]
    exact hK ⟨nd,B⟩ (h rfl)
   refine⟨bo,S,#[6],λS=>?_⟩
   ·unfold fD;by_cases nd:R.Nodup
    ·have C:¬ n<f.length:=by rw[K];exact λh=>E.mp h nd
     have H:R.all (fT o R)=bo:=by rw[← Zu,tr];exact λh=>A ⟨nd,h⟩
     rw[H] at p;generalize oD o=od at *
     generalize (.tup f:D)=xd at *
     generalize f.length=nn at *
     simp[it,ln,l,y,u,j,es,Jv,C,sq,z,p,-lE]
    have IM:n<f.length:=by rw[K];exact E.mpr nd
    generalize oD o=od at *
    generalize (.tup f:D)=xd at *
    generalize f.length=nn at *
    simp[it,ln,l,y,u,j,es,Jv,IM,-lE]
   rcases g S with ⟨⟨_,h1,h2⟩,_⟩ |⟨_,s⟩
   ·exact hK ⟨h1,h2⟩ A
   refine #[6];unfold dD;generalize oD o=od at *
   generalize ((ei f.length).map λ(k:Nat)=>D.int k)=rg at *
   generalize (.tup f:D)=xd at *
   generalize f.length=nn at *
   simp[it,ln,l,I,s,-lE]
  rw[cX F] at j;refine⟨bo,S,#[6],λS=>?_⟩
  ·unfold fD;generalize oD o=od at *
   generalize (.tup f:D)=xd at *
   generalize f.length=nn at *
   simp[it,ln,l,y,u,j,-lE]
  rcases g S with ⟨⟨h,_⟩,_⟩ |⟨_,s⟩
  ·exact hK h F
  refine #[6];unfold dD;generalize oD o=od at *
  generalize ((ei f.length).map λ(k:Nat)=>D.int k)=rg at *
  generalize (.tup f:D)=xd at *
  generalize f.length=nn at *
  simp[it,ln,l,I,s,-lE]
 |set _=>cases t
 |loc _=>cases t
 |fn _ _=>cases t
 |_ =>
  refine⟨bo,S,#[6],λS=>#[6]⟩
  ·unfold fD;generalize oD o=od;simp[aW,aV,bz]
  unfold dD;generalize oD o=od;simp[aW,aV,bz]
theorem wC (ss:ae ej)(n:ss.length<=6)(l:∀ x∈ss,bW x=a6)(i:ss.Pairwise λa b=>Kg a b=a6)(m:Nat)(p : 1<=m)(o:m<=10)(S:Hu):∀ (fuel e:Nat) (num:Int),e<fuel->0<=num->∃ d,kZ fuel [.int num,.tup (ss.map .str),.int m,.int e] S=HC d S/\KQ m e d
 | 0,e,num,h,_=>hK h #[0]
 |fuel+1,e,num,h,h0=>by
  have s:bp (.int num) (.int 7)=aa (.int (num % 7)):=aT #[1];have j:bw (.int num) (.int 7)=aa (.int (num / 7)):=b8 #[1] #[1];have r:bp (.int (num / 7)) (.int m)=aa (.int (num / 7 % m)):=aT #[0];have B:=fV (num / 7) (show (0:Int)<m by omega);obtain⟨sn,q,k⟩:=ug (num / 7) (ss:=ss) #[0] S
  have leaf:(e=0∨num % 7=0)->∃ d,kZ (fuel+1) [.int num,.tup (ss.map .str),.int m,.int e] S=HC d S/\KQ m e d:=λhc=>by
   refine⟨.tup [.str "names",.tup (sn.map .str)],#[6],.leaf (λx w=>l x (k.subset w)) (h9 (i.sublist k)) (fk k.length_le n)⟩;unfold sD;by_cases f:e=0
   ·subst f;simp[j,q]
   have g:num % 7=0:=hc.resolve_left f;simp[f,s,g,j,q]
  by_cases f:e=0
  ·exact leaf (.inl f)
  by_cases g:num % 7=0
  ·exact leaf (.inr g)
  have A:=kN num 1 S;have z:=kN num 2 S;obtain⟨dp,rfl⟩:∃ dp,e=dp+1:=⟨e-1,#[2]⟩;obtain⟨x,ex,u⟩:=wC ss n l i m p o S fuel dp (Ke num 1) #[0] (j7 _ _);obtain⟨y,v,C⟩:=wC ss n l i m p o S fuel dp (Ke num 2) #[0] (j7 _ _);have t:¬ ((dp:Int)+1=0):=#[2]
  obtain⟨c,hc⟩:∃ c:Nat,num / 7 % m=c:=⟨(num / 7 % m).toNat,#[2]⟩;rw[hc] at r B;refine⟨.tup [.str "ask",.int c,x,y],#[6],.ask #[0] u C⟩;unfold sD;simp[t,s,g,A,z,ex,v,j,r,ft]
theorem iT (a b:ae D)(h:a.length+b.length<=1000):bg (.tup a) (.tup b)=aa (.tup (a++b)):=by rw[jy,dw (fk h #[1])]
theorem DZ {m k:Nat}{d:D}(h:KQ m k d):∀ {b:Th}{ss:ae ej},Kv b d ss->ss.length<=6:=by
 induction h with
 | @leaf k g _ _ h=>intro b ss a;rw[Ca a];exact h
 | @ask k c x y _ _ _ e f =>
  intro b ss a;cases a with
  |no _ a=>exact e a
  |yes _ a=>exact f a
noncomputable def LS:Tr->Prop
 | .leaf a=>a.length<=6
 | .node _ n y=>LS n/\LS y
theorem Ao {o:ae Nat}:∀ {t:Tr},Ord o t->(∀ b,(LR t b).length<=6)->LS t
 | .leaf d,_,h=>h (λ_=>bo)
 | .node c n y,a,h=>⟨Ao a.2.1 λb=>by rw[← Da a];exact h _,Ao a.2.2.1 λb=>by rw[← Bg a];exact h _⟩
theorem DV {s t:Tr}(h:Sub s t):LS t->LS s:=by
 induction h with
 |refl=>exact id
 |no _ a=>exact λq=>a q.1
 |yes _ a=>exact λq=>a q.2
theorem vW:∀ (t:Tr) (d:ae Tr),(po t d).length<=d.length+LU t
 | .leaf f,d=>by
  by_cases h:Tr.leaf f∈d
  ·rw[di h];omega
  rw[dL h,cq];exact eG _
 | .node c n y,d=>by
  by_cases h:Tr.node c n y∈d
  ·rw[di h];omega
  have a:=vW n d;have b:=vW y (po n d);rw[dJ h,cq];have e:LU (.node c n y)=LU n+LU y+1:=rfl;simp only[hD,QM];omega
theorem vy {o:ae Nat}:∀ (t:Tr) (k:Nat),Ord o t->o.length<=k+tp o t->LU t+1<=2 ^ (k+1)
 | .leaf d,k,_,_=>by
  have:=NL (n:=k);have e:LU (.leaf d)=1:=rfl;rw[NH];omega
 | .node c n y,k,g,h=>by
  obtain⟨f,l,i,m,p,_⟩:=g;have e:tp o (.node c n y)=#[7]:=rfl;have hc:=OD f;obtain⟨k,rfl⟩:∃ j,k=j+1:=⟨k-1,#[2]⟩;have a:=vy n k l #[0];have b:=vy y k i #[0];have q:LU (.node c n y)=LU n+LU y+1:=rfl;rw[NH];omega
theorem Eo {k:Nat}{x:ej}(h:bW x=a6):BN k (.str x):=by refine .str ?_ (uh h);unfold bW at h;simp only[eL,j2] at h;omega
theorem Cj {o:ae Nat}{m:Nat}(C:m<=6)(G:o.length=m)(A:∀ c∈o,c<m){t:Tr}(j:Ord o t)(v:Wr o (enc (po t [])))(l:LS t):(enc (po t [])).length<=127/\∀ d∈(enc (po t [])).map aC,∃ f,d = .tup f/\f.length<=3/\∀ x∈f,BN 1 x:=by
 have a:=vW t [];have b:=vy t 6 j #[0];have B:(enc (po t [])).length=(po t []).length:=by unfold enc;rw[dV]
 simp only[QM,n7] at a;have b:LU t+1<=128:=b;refine⟨#[2],λd hd=>?_⟩;obtain⟨r,hr,rfl⟩:=vl.mp hd;obtain⟨i,g⟩:=la hr;have w:=v i r g;have I:=(b7.mp g).1;cases r with
 |leaf k =>
  refine⟨_,rfl,by simp,λx hx=>?_⟩;rcases gi.mp hx with rfl |hx
  ·exact .str #[1] #[1]
  rw[eR.mp hx];obtain⟨s,u,e⟩:=vl.mp hr
  have F:k.length<=6:=by
   cases s with
   |leaf D =>
    simp only[Ec,Row.leaf.injEq] at e;subst e;rcases jr t [] _ u with h |h
    ·cases h
    exact DV h l
   |node c n y=>simp[Ec] at e
  refine .tup (by rw[dV];simp;omega) λx hx=>?_;obtain⟨z,q,rfl⟩:=vl.mp hx;exact Eo (w.1 z q)
 |ask c n y =>
  obtain⟨p,H,E,_⟩:=w;have hc:=A c p;refine⟨_,rfl,by simp,λx hx=>?_⟩;simp only[gi,Ux,Y8] at hx;rcases hx with rfl |rfl |rfl
  ·exact .int #[0] #[0]
  ·exact .int #[0] #[0]
  exact .int #[0] #[0]
theorem wH {ds:ae D}(h0 : 0<ds.length)(hl:ds.length<=127)(hd:∀ d∈ds,∃ e,d = .tup e/\e.length<=3/\∀ x∈e,BN 1 x)(num:Int)(hn : 0<=num)(S:Hu):∃ x,jh [.tup ds,.int num] S=HC x S/\SN 5 x:=by
 have hb:BN 3 (.tup ds):=.tup (by simp;omega) λd h=>by obtain⟨e,rfl,K,p⟩:=hd d h;exact .tup (by simp;omega) p
 have w:∀ d∈ds,SN 4 d:=λd h=>by obtain⟨e,rfl,K,p⟩:=hd d h;exact .tup (SN.len #[0]) λx hx=>(p x hx).sn.mono _ #[0]
 have ln:a_ [.tup ds]=aa (.int ds.length):=rfl;have g:bw (.int num) (.int 5)=aa (.int (num / 5)):=b8 #[1] #[1];have H:bw (.int num) (.int 10)=aa (.int (num / 10)):=b8 #[1] #[1];have O:bw (.int num) (.int 6)=aa (.int (num / 6)):=b8 #[1] #[1];have k:bp (.int num) (.int 7)=aa (.int (num % 7)):=aT #[1];have j:bp (.int (num / 5)) (.int ds.length)=aa (.int (num / 5 % ds.length)):=aT #[0];have I:bp (.int (num / 6)) (.int 3)=aa (.int (num / 6 % 3)):=aT #[1];have n3:bp (.int (num / 10)) (.int 3)=aa (.int (num / 10 % 3)):=aT #[1];have Z:=fV num (show (0:Int)<7 by decide);have bl:=fV (num / 5) (show (0:Int)<ds.length by omega);have V:=fV (num / 10) (show (0:Int)<3 by decide);have n:∀ lo f,IX (.tup ds) lo f=aa (.tup (aL ds lo f)):=λ_ _=>rfl;have l:∀ lo f,∀ d∈aL ds lo f,SN 4 d:=λlo f d h=>w d (gz d h);have cl:=dP ds;obtain⟨C,T,Q⟩:=wo (xs:=ds) bl.1 bl.2 S;generalize Y:num / 5 % (ds.length:Int)=at_ at *
 generalize W:num % 7=kd at *
 by_cases r:kd=6
 ·obtain⟨e,rfl,v,s⟩:=hd C T;have m:=dP e;have M:∀ lo f,IX (.tup e) lo f=aa (.tup (aL e lo f)):=λ_ _=>rfl;have G:kD (.tup (aL e (aa 1) av))=aa (.tup (aL e (aa 1) av).reverse):=rfl
  have U:=iT (aL e av (aa 1)) (aL e (aa 1) av).reverse (by
   rw[rx];have:=m av (aa 1);have:=m (aa 1) av;omega)
  have E:SN 4 (.tup (aL e av (aa 1)++(aL e (aa 1) av).reverse)):=by
   refine .tup (SN.len (by rw[cq,rx];have:=m av (aa 1);have:=m (aa 1) av;omega)) λx hx=>?_;rcases il.mp hx with hx |hx
   ·exact(s x (gz x hx)).sn.mono _ #[0]
   exact(s x (gz x (Zp.mp hx))).sn.mono _ #[0]
  generalize XJ:(.tup (aL e av (aa 1)++(aL e (aa 1) av).reverse):D)=nw at *
  generalize X:(.tup (aL e (aa 1) av).reverse:D)=r2 at *
  have o:=cl av (aa at_);have B:=cl (aa (at_+1)) av;have z1:Ky [nw] (.tup [nw])=aa (.tup [nw]):=cG #[3];have a1:=iT (aL ds av (aa at_)) [nw] (by simp;omega);have a2:=iT (aL ds av (aa at_)++[nw]) (aL ds (aa (at_+1)) av) (by simp;omega);refine⟨.tup (aL ds av (aa at_)++[nw]++aL ds (aa (at_+1)) av),#[6],.tup (by simp;omega) λx hx=>?_⟩
  ·unfold cJ;generalize (.tup (aL ds av (aa at_)++[nw]++aL ds (aa (at_+1)) av):D)=fin at *
   generalize y:(.tup (aL ds av (aa at_)++[nw]):D)=d1 at *
   simp[g,ln,j,k,r,Q,n,M,dF,G,U,z1,a1,a2]
  simp only[il,eR] at hx;rcases hx with (hx |rfl) |hx
  ·exact l _ _ x hx
  ·exact E
  exact l _ _ x hx
 by_cases q:kd=5
 ·obtain⟨A,L,F⟩:=wo (xs:=ds) (i:=0) #[0] #[0] S;have J:∀ a b c:D,Ky [a,b,c] (.tup [a,b,c])=aa (.tup [a,b,c]):=λ_ _ _=>cG #[3];have z2:∀ a b:D,Ky [a,b] (.tup [a,b])=aa (.tup [a,b]):=λ_ _=>cG #[3];refine⟨.tup [A,.tup [.int (num / 6 % 3),.int 0,.int 0]],#[6],.t2 (w A L) (.t3 .int .int .int)⟩;unfold cJ;simp[g,ln,j,k,q,F,O,I,J,z2]
 by_cases u:kd<2
 ·obtain⟨dp,R⟩:∃ dp:Nat,1+num / 10 % 3=dp:=⟨(1+num / 10 % 3).toNat,#[2]⟩;obtain⟨x,ex,hx⟩:=qj S 8 dp (.tup ds) (num / 5) 3 #[0] hb;refine⟨x,#[6],hx⟩;unfold cJ;simp[g,ln,j,k,r,q,Jv,u,H,n3,R,ex]
 by_cases t:kd=2
 ·have o:=cl av (aa at_);have B:=cl (aa (at_+1)) (aa (at_+2));have v:=cl (aa at_) (aa (at_+1));have l4:=cl (aa (at_+2)) av;have a1:=iT (aL ds (aa (at_+1)) (aa (at_+2))) (aL ds (aa at_) (aa (at_+1))) #[0];have a2:=iT (aL ds av (aa at_)) (aL ds (aa (at_+1)) (aa (at_+2))++aL ds (aa at_) (aa (at_+1))) (by simp;omega);have N:=iT (aL ds av (aa at_)++(aL ds (aa (at_+1)) (aa (at_+2))++aL ds (aa at_) (aa (at_+1)))) (aL ds (aa (at_+2)) av) (by simp;omega);refine⟨.tup (aL ds av (aa at_)++(aL ds (aa (at_+1)) (aa (at_+2))++aL ds (aa at_) (aa (at_+1)))++aL ds (aa (at_+2)) av),#[6],.tup (by simp;omega) λx hx=>?_⟩
  ·unfold cJ;generalize (.tup (aL ds av (aa at_)++(aL ds (aa (at_+1)) (aa (at_+2))++aL ds (aa at_) (aa (at_+1)))++aL ds (aa (at_+2)) av):D)=fin at *
   generalize y:(.tup (aL ds av (aa at_)++(aL ds (aa (at_+1)) (aa (at_+2))++aL ds (aa at_) (aa (at_+1)))):D)=d1 at *
   generalize P:(.tup (aL ds (aa (at_+1)) (aa (at_+2))++aL ds (aa at_) (aa (at_+1))):D)=d2 at *
   simp[g,ln,j,k,t,Jv,n,dF,a1,a2,N]
  simp only[il] at hx;rcases hx with (hx |hx |hx) |hx<;>exact l _ _ x hx
 by_cases z:kd=3
 ·have o:=cl av (aa at_);have B:=cl (aa at_) (aa (at_+1));have v:=cl (aa at_) av;have a1:=iT (aL ds av (aa at_)) (aL ds (aa at_) (aa (at_+1))) #[0];have a2:=iT (aL ds av (aa at_)++aL ds (aa at_) (aa (at_+1))) (aL ds (aa at_) av) (by simp;omega);refine⟨.tup (aL ds av (aa at_)++aL ds (aa at_) (aa (at_+1))++aL ds (aa at_) av),#[6],.tup (by simp;omega) λx hx=>?_⟩
  ·unfold cJ;generalize (.tup (aL ds av (aa at_)++aL ds (aa at_) (aa (at_+1))++aL ds (aa at_) av):D)=fin at *
   generalize y:(.tup (aL ds av (aa at_)++aL ds (aa at_) (aa (at_+1))):D)=d1 at *
   simp[g,ln,j,k,z,Jv,n,dF,a1,a2]
  simp only[il] at hx;rcases hx with (hx |hx) |hx<;>exact l _ _ x hx
 have o:=cl av (aa (at_+1));refine⟨.tup (aL ds av (aa (at_+1))),#[6],.tup (by simp;omega) λx hx=>l _ _ x hx⟩;unfold cJ;simp[g,ln,j,k,r,q,Jv,u,t,z,n,dF]
theorem xg (b:e8)(S:Hu):kY [.bl b,.bl b] S=HC (.bl a6) S:=by refine #[6];unfold uE;simp[aW,aV,bz]
theorem B8 (ns:ae Int){x:D}(j:SN 5 x){o:ae Nat}{m:Nat}(po:o.Perm (ei m))(f:m<=8)(p l:ax D)(S:Hu) :
  ∃ a,aM (Je (aR (aA Iv (aA bp (aA bw (aY a9 (ag (af 0) (ag (ar (.int 5)) aD))) (ar (.int 3))) (ar (.int 4))) (ar (.int 1)))) (bO 2 (Ju kD (af 2))) bx)
  (aZ (aY kY (ag (aY jz (ag (af 4) (ag (af 2) aD))) (ag (aY gG (ag (af 4) (ag (af 2) aD))) aD)))) [aa (.lst (ns.map .int)),p,aa (oD o),l,aa x] S=HC (.ret (.bl a6)) a:=by
 have k:∀ S,a9 [.lst (ns.map .int),.int 5] S=HC (.int (mix ns 5)) S:=eT ns 5;have h:bw (.int (mix ns 5)) (.int 3)=aa (.int (mix ns 5 / 3)):=b8 #[1] #[1];have i:bp (.int (mix ns 5 / 3)) (.int 4)=aa (.int (mix ns 5 / 3 % 4)):=aT #[1];have n:o.reverse.Perm (ei m):=(List.reverse_perm o).trans po;have q:kD (oD o)=aa (oD o.reverse):=by simp[kD,oD]
 by_cases g:mix ns 5 / 3 % 4=1
 ·obtain⟨b,a,e,c⟩:=qX j n f S;have c:=c a;have d:=xg b a;refine⟨a,?_⟩;generalize oD o.reverse=od at *
  generalize oD o=oe at *
  simp[k,h,i,g,q,e,c,d,-lE]
 obtain⟨b,a,e,c⟩:=qX j po f S;have c:=c a;have d:=xg b a;refine⟨a,?_⟩;generalize oD o=od at *
 simp[k,h,i,g,e,c,d,-lE]
theorem DY (ns:ae Int)(_:ns.length<=63):∃ a,Ba [.lst (ns.map .int)] []=aa (.ok (.bl a6),a):=by
 have v:∀ S,a9 [.lst (ns.map .int),.int 0] S=HC (.int (mix ns 0)) S:=eT ns 0;have x1:∀ S,a9 [.lst (ns.map .int),.int 1] S=HC (.int (mix ns 1)) S:=eT ns 1;have x2:∀ S,a9 [.lst (ns.map .int),.int 2] S=HC (.int (mix ns 2)) S:=eT ns 2;have y:∀ S,a9 [.lst (ns.map .int),.int 3] S=HC (.int (mix ns 3)) S:=eT ns 3;have A:∀ S,a9 [.lst (ns.map .int),.int 4] S=HC (.int (mix ns 4)) S:=eT ns 4;have E:∀ S,a9 [.lst (ns.map .int),.int 5] S=HC (.int (mix ns 5)) S:=eT ns 5;have T:∀ S,a9 [.lst (ns.map .int),.int 6] S=HC (.int (mix ns 6)) S:=eT ns 6;have bm:=fV (mix ns 0) (show (0:Int)<6 by decide);have F:bp (.int (mix ns 0)) (.int 6)=aa (.int (mix ns 0 % 6)):=aT #[1];obtain⟨m,n⟩:∃ m:Nat,1+mix ns 0 % 6=m:=⟨(1+mix ns 0 % 6).toNat,#[2]⟩;obtain⟨o,z,po⟩:=yy (mix ns 1) (m:=m) #[0] [];obtain⟨g,f,i,M,O,N⟩:=xZ (mix ns 2) [];rw[N0] at i;have p:bp (.int (mix ns 4)) (.int 6)=aa (.int (mix ns 4 % 6)):=aT #[1];have b6:=fV (mix ns 4) (show (0:Int)<6 by decide);obtain⟨dp,B⟩:∃ dp:Nat,mix ns 4 % 6=dp:=⟨(mix ns 4 % 6).toNat,#[2]⟩;obtain⟨d,H,j⟩:=wC g M O N m #[0] #[0] [.dict f] 8 dp (mix ns 3) #[0] (oE _ _);have nd:o.Nodup:=po.nodup_iff.mpr Zn;have R:o.length=m:=by rw[po.length_eq,lr]
 have K:∀ c,c<m->c∈o:=λc hc=>po.mem_iff.mpr (nC.mpr hc);have Q:∀ c∈o,c<m:=λc hc=>nC.mp (po.mem_iff.mp hc);obtain⟨t,u,G,k,tok,P,ev,tk,X,_⟩:=yY nd #[0] K (show dp<=12 by omega) j [.dict f];have I:LS t:=Ao k λl=>by obtain⟨g,w⟩:=j.total l;rw[tk l g w];exact DZ j w
 obtain⟨V,C⟩:=Cj #[0] R Q k P I;have J : 0<((enc (HD.po t [])).map aC).length:=by have:=Qo (r9 t []);unfold enc;rw[dV,dV];exact this
 have b:((enc (HD.po t [])).map aC).length<=127:=by rw[dV];exact V
 generalize (enc (HD.po t [])).map aC=ds at *
 have r:bp (.int (mix ns 5)) (.int 3)=aa (.int (mix ns 5 % 3)):=aT #[1];obtain⟨x,W,e⟩:=wH J b C (mix ns 6) (oE _ _) u;have L:SN 5 (.tup ds):=.tup (by simp;omega) λd h=>by obtain⟨Z,rfl,Y,U⟩:=C d h;exact .tup (SN.len #[0]) λx e=>(U x e).sn.mono _ #[0]
 have fin:=λ(x:D) (e:SN 5 x)=>B8 ns e po #[0] (aa (.int m)) (aa (.tup (g.map .str))) u;by_cases s : 0<mix ns 5 % 3
 ·obtain⟨a,q⟩:=fin x e;refine⟨a,#[6]⟩;unfold AG;generalize (aM (Je (aR (aA Iv (aA bp (aA bw _ _) _) _)) _ _) _:Hn Fl)=kk at q ⊢;generalize oD o=od at *
  generalize (.tup ds:D)=xd at *
  simp[v,F,n,x1,z,x2,i,y,A,p,B,H,G,E,r,JU,s,T,W,q,-lE]
 obtain⟨a,q⟩:=fin (.tup ds) L;refine⟨a,#[6]⟩;unfold AG;generalize (aM (Je (aR (aA Iv (aA bp (aA bw _ _) _) _)) _ _) _:Hn Fl)=kk at q ⊢;generalize oD o=od at *
 generalize (.tup ds:D)=xd at *
 simp[v,F,n,x1,z,x2,i,y,A,p,B,H,G,E,r,JU,s,q,-lE]
end HD
namespace HD
open PySem L2
theorem XO {K:Ho}{c f:ej}{C:b0}(n:NC K c C)(g:ml K (.ref C) f=aa av):mP K c f:=⟨C,n.1,n.2,g⟩
theorem all_mk {l:Rh}{w:hB}{K:Ho}{h:j0}{mg:Hs}{a:b0}(d:mg "law"=aa (.ref a))(T:Top K mg) :
  ∃ fd:wa,(∀ (s:cc) (v:ay),X_ s fd ⟨[v],[]⟩ [("_law_script",v)])/\∀ base:j0,K.In base->base.Ns ly mg->JP l.prog w K mg base Ni 38 a fd ["_law_script"] (w_ K 63):=by
 obtain⟨f,fd,b,c,hb⟩:=T.Rw;have e:=d.symm.trans c;cases e;have ok:∀ base:j0,N3 l.prog w K mg base 38 a fd ["_law_script"] Ba:=λbase=>D_ T b;obtain⟨p,j,kV,doc,n,k,q,ct,o,rfl,m,i⟩:=b.ex;exact⟨_,λs v => .of_eq rfl,λbase _ _=>DX (ok base) #[1] λns g=>DY ns g⟩
end HD
open PySem PySem.W PyProof.Rows
namespace PySem.W.Fast
def tw9797641741174922716:=0
def tw10956728582887856749:=0
def tw1542435964007195116:=0
def tw9368360208537549758:=0
def tw15025267810591488006:=0
def tw14847582655592506115:=0
def tw10072210493084990890:=0
def tw10805033644391387459:=0
def tw5498154247734378845:=0
def tw12572186858286351410:=0
def tw16658826975889439918:=0
def tw14281278356590264325:=0
def tw12724278026952816380:=0
def tw11646309434612734257:=0
def tw15589762202758481404:=0
def tw16442825631947009309:=0
def tw5107944159899042449:=0
def tw393836770742699747:=0
def tw2896436010387543268:=0
def tw17484872267390434130:=0
def tw2606135702770504752:=0
def tw583966289052817436:=0
def tw13122819623956881864:=0
def tw7186773235354078384:=0
def tw5096689711485536359:=0
def tw8664089125769408409:=0
def tw2648784370350926893:=0
def tw10452507312549964384:=0
def tw2974075758428574044:=0
def tw3980919361532931025:=0
def tw8534795555476917825:=0
def tw5193118413205480406:=0
def tw5305306000281464811:=0
def tw10495829029529873042:=0
def tw17864352028652068900:=0
def tw11585902937759262814:=0
def tw3630184515256893769:=0
def tw7714682336779287180:=0
def tw5792435594961374262:=0
def tw2841885132520900343:=0
def tw4695994981836196913:=0
def tw126726909067072965:=0
def tw7195403031452313472:=0
def tw4348500492617901445:=0
def tw12190555490124973963:=0
def tw9151416948478975481:=0
def tw13331960770581963409:=0
def tw2353483462184814033:=0
def tw16354225326975688696:=0
def tw5013209918445067488:=0
def tw8044907836108236338:=0
def tw4738187873925225797:=0
def tw12745494654535296291:=0
def tw14949944859591082723:=0
def tw9809552890655112417:=0
def tw3361884333929998408:=0
def tw2278179176473006652:=0
def tw8961208025140739763:=0
def tw11405159548764278211:=0
def tw16979263853723487016:=0
def tw7341165732594680282:=0
def tw11637939796150392697:=0
def tw5971556481383351426:=0
def tw6550247484667279176:=0
def tw13402736875182870964:=0
def tw14912491982033830957:=0
def tw8212240134926827031:=0
def tw13300592159640096104:=0
def tw154070933357527965:=0
def tw10999445055986327266:=0
def tw12447122934406760591:=0
def tw8640490363302440555:=0
def tw3524933568785781765:=0
def tw11249802536568206968:=0
def tw9459673098651756060:=0
def tw7012270120136611008:=0
def tw336605165426313907:=0
def tw9936399489751261409:=0
def tw1448109212179506647:=0
def tw6172726520284717784:=0
def tw7480037726259689222:=0
def tw983376348802918728:=0
def tw438403491703038237:=0
def tw15381408970992238838:=0
def tw3183503343691941460:=0
def tw9163706490915828058:=0
def tw1247093355392358701:=0
def tw3669387320083691026:=0
def tw16568886502820922507:=0
def tw8523528921255292952:=0
def tw11240887013598976716:=0
def tw900771232290614473:=0
def tw10087668852406822097:=0
def tw16132830784237700784:=0
def tw17263171850330745505:=0
def tw12263081639827490167:=0
def tw6176947708980197767:=0
def tw17863705001476790963:=0
def tw15980985046133510790:=0
def tw5118035149892749211:=0
def tw18146920479785934329:=0
def tw10309811944547758402:=0
def tw11051240922623368908:=0
def tw9194073749924005339:=0
def tw3319658244101916468:=0
def tw9061984179899263517:=0
def tw8708581911678182432:=0
def tw12410599303097440653:=0
def tw13093203921116327712:=0
def tw12630074799088454354:=0
def tw11694145417460371952:=0
def tw11660090375707661848:=0
def tw6024584200151673492:=0
def tw16359485066395675050:=0
def tw15188398999474548354:=0
def tw16971914591000890384:=0
def tw14835921068539343531:=0
def tw17037107914638488047:=0
def tw6384338658433083624:=0
def tw8206172382207327824:=0
def tw8856396619931465166:=0
def tw1754291726331478771:=0
def tw4863968334229388713:=0
def tw1422721490831547070:=0
def tw7669726686418240487:=0
def tw9605532806523358540:=0
def tw2747741258049708903:=0
def tw18173333909362206591:=0
def tw266490116933020361:=0
def tw6673434432170796468:=0
def tw826346785379295418:=0
def tw13022812705069191532:=0
def tw13191637173822205859:=0
def tw11069218135762795680:=0
def tw160335508693826698:=0
def tw3309537659456721062:=0
def tw9202383036524749807:=0
def tw11158555114657314290:=0
def tw10763928160455517838:=0
def tw14088643734339168407:=0
def tw1572403234676989400:=0
def tw15656756488895304726:=0
def tw5754309331897331209:=0
def tw15040226229056447768:=0
def tw13890372313299195673:=0
def tw6168821868491086628:=0
def tw3641962607091367389:=0
def tw11930188927076591609:=0
def tw1910315904314143494:=0
def tw7615723888094332243:=0
def tw15509055784620801905:=0
def tw13683245385979371793:=0
def tw3556314017515106835:=0
def tw6540895202157222590:=0
def tw2636992384688130560:=0
def tw11326149430717366013:=0
def tw15539320706312099680:=0
def tw17803057312779016656:=0
def tw10663440851863490394:=0
def tw7835758346154959874:=0
def tw9598253525663483357:=0
def tw5308751212854225660:=0
def tw1400940331490594097:=0
def tw10578608908604160462:=0
def tw5360324567819406770:=0
def tw15479986492772809812:=0
def tw9616846669650364272:=0
def tw16082042573578759294:=0
def tw9611708325870681507:=0
def tw18004422492794619165:=0
def tw13998807965863801498:=0
def tw3692697881566627133:=0
def tw13036335093030771965:=0
def tw6459574398401983458:=0
def tw8122234395721419185:=0
def tw9633285857663503776:=0
def tw10282474433842119318:=0
def tw18437712111104023758:=0
def tw17081628374810268619:=0
def tw12847758983442977492:=0
def tw15888019585979703392:=0
def tw18156505449569572044:=0
def tw12019662731793108961:=0
def tw2039440732913523473:=0
def tw11762846747704008577:=0
def tw11952059816163385756:=0
def tw6021048410975355268:=0
def tw361846154085400340:=0
def tw4020430201782834476:=0
def tw15563617820998786168:=0
def tw17190138175544273881:=0
def tw13666138103010680241:=0
def tw2477591176023055958:=0
end PySem.W.Fast
set_option maxRecDepth 100000 in
set_option maxHeartbeats 0 in
theorem PySem.Challenge.cw_keyfold_k03_folds_holds : PySem.Challenge.rw_keyfold_k03_folds.Holds := by
 w_on;o_law;k_head;(case hw=>w_witness2)
 k_fill
 refine L2.NG (l:=PySem.Challenge.rw_keyfold_k03_folds) (k:=38) (x:="_law_script") rfl rfl ⟨rfl,by decide,by decide,rfl⟩ (λw h Y=>PySem.W.kIn_of Y) ?F
 case F =>
  intro w mg fa h KX G QL;refine' HD.all_mk (h:=h) QL ?T;constructor
  all_goals first
   |exact PySem.W.mg_none_of KX G (by k_is)
   |(refine' L2.WO KX G ?a (L2.fE ?l ?c ?k) ?b;(case a=>k_is);(case l=>k_is);(case c=>k_is);(case k=>k_is);(case b=>first |exact L2.TV λ_ _ _ _ _ _ _=>rfl |exact L2.TX λ_ _ _ _ _ _ _ _=>rfl |exact L2.TY λ_ _ _ _ _ _ _ _ _=>rfl |exact L2.TZ λ_ _ _ _ _ _ _ _ _ _=>rfl))
   |(refine' L2.WQ ⟨?n,⟨?k0,?k1,?k2,?k3⟩⟩ ?a ?i (L2.fE ?l ?c ?k) ?b;(case n=>k_is);(case k0=>k_is);(case k1=>k_is);(case k2=>k_is);(case k3=>k_is);(case a=>k_is);(case i=>k_is);(case l=>k_is);(case c=>k_is);(case k=>k_is);(case b=>first |exact L2.TV λ_ _ _ _ _ _ _=>rfl |exact L2.TX λ_ _ _ _ _ _ _ _=>rfl |exact L2.TY λ_ _ _ _ _ _ _ _ _=>rfl |exact L2.TZ λ_ _ _ _ _ _ _ _ _ _=>rfl))
   |(refine' L2.WR KX G ⟨?n,⟨?k0,?k1,?k2,?k3⟩⟩ ?k4 ?k5 ?a ?i (L2.fE ?l ?c ?k) ?b;(case n=>k_is);(case k0=>k_is);(case k1=>k_is);(case k2=>k_is);(case k3=>k_is);(case k4=>k_is);(case k5=>k_is);(case a=>k_is);(case i=>k_is);(case l=>k_is);(case c=>k_is);(case k=>k_is);(case b=>first |exact L2.TV λ_ _ _ _ _ _ _=>rfl |exact L2.TX λ_ _ _ _ _ _ _ _=>rfl |exact L2.TY λ_ _ _ _ _ _ _ _ _=>rfl |exact L2.TZ λ_ _ _ _ _ _ _ _ _ _=>rfl))
   |(refine' HD.XO ⟨?n,⟨?k0,?k1,?k2,?k3⟩⟩ ?g;(case n=>k_is);(case k0=>k_is);(case k1=>k_is);(case k2=>k_is);(case k3=>k_is);(case g=>k_is))
   |(refine' ⟨_,PySem.W.mg_of KX G ?e,L2.Oz ?t⟩;(case e=>k_is);(case t=>rfl))
   |(refine' ⟨_,PySem.W.mg_of KX G ?e,L2.OA ?y ?t⟩;(case e=>k_is);(case y=>k_is);(case t=>first |rfl |decide))
