import PyProof.Rows.All
import Wide.All
import OpenK.AllK
import Wide.FinOn
import Lean
import PyProof.EqAt
import PyProof.EqKinds
import PyProof.TupleCall
import PyProof.SetRoads
import PyProof.SetNew
import PyProof.CollectIter
import PyProof.DictWalks
import PyProof.Walks
import PyProof.RulesTry
import PyProof.FactsAll.set
import PyProof.WalksMore
import PyProof.FactsAll.subtypes
import PyProof.ExcAttrAll.ValueError
import PyProof.Rows.StrJoin2
import PyProof.Rows.FStr
import PyProof.ExcBaseAll.ValueError
import PyProof.StrCalls2
import PyProof.StrBlockH
import PyProof.MeetsStr2
import PyProof.Rows.SeqMore2
import KE.KDictList
import PyProof.ZipIter
import PyProof.Draws
import PyProof.DictTruth
import PyProof.Rows.SortShellK
import PyProof.Rows.SortWalk
import PyProof.Rows.Range3
import PySem.Challenge.RW_keyfold_k30_whole_possible_and_sure
open List(all_cons all_eq_true all_map any_cons any_eq_true any_map append_nil cons_append drop_eq_getElem_cons drop_eq_nil_of_le drop_zero ext_getElem? filter_cons filter_sublist find?_cons flatten_cons foldl_cons forIn_cons forIn_nil getD_eq_getElem?_getD getElem?_append_left getElem?_append_right getElem?_drop getElem?_map getElem?_of_mem getElem?_range getElem?_replicate getElem?_set_ne getElem?_set_self getElem?_take getElem_idxOf getElem_mem getElem_of_mem idxOf_cons idxOf_lt_length_iff length_cons length_drop length_eq_zero_iff length_map length_nil length_range length_replicate length_set length_singleton length_take lookup_append lookup_cons mapM_cons map_append map_congr_left map_cons map_drop map_id map_map map_nil map_take mem_append mem_append_left mem_append_right mem_cons mem_cons_of_mem mem_cons_self mem_filter mem_map mem_of_getElem? mem_of_mem_drop mem_of_mem_take mem_range mem_singleton mergeSort_perm nil_append nodup_append nodup_cons nodup_nil not_mem_nil of_mem_zip pairwise_append pairwise_cons pairwise_iff_getElem pairwise_map prefix_refl range' replicate replicate_succ size_toArray take_append_drop take_length take_of_length_le zipIdx_cons)
open Nat(add_assoc le_refl le_succ lt_min lt_of_lt_of_le lt_or_ge lt_succ_of_lt lt_succ_self min_le_right mul_comm ne_of_gt ne_of_lt one_le_two_pow pow_le_pow_right pow_succ sub_self zero_add zero_le)
open Option(bind_eq_some_iff bind_some getD_none getD_some isSome_map map_eq_some_iff map_some pure_def)
open Bool(and_eq_true false_eq_true or_eq_true)
open Array(getElem?_toList getElem_mem_toList getElem_toList length_toList perm_iff_toList_perm size_append toList_append toList_extract toList_push)
local macro_rules|`(tactic|decide)=>`(tactic|decide +kernel)
set_option Elab.async false
set_option linter.all false
set_option maxRecDepth 100000
set_option maxHeartbeats 4000000
noncomputable section
abbrev GV:=PySem.W.Frag
abbrev GW:=PySem.Value->PySem.Shared->Prop
abbrev GX:=List (PySem.Addr×PySem.Obj)
abbrev GY:=PySem.Str->Option PySem.Value
namespace L2
open PySem PySem.Spec PyProof.Rows
noncomputable instance Ue:DecidableEq PyData:=λa b=>Classical.propDecidable (a=b)
def keyOk:Nat->PyData->Bool
 |_,.int _=>true
 |_,.str x=>PyData.strOk x
 |n+1,.tuple xs=>xs.all (keyOk n)
 |_,_=>false
def Nr (w:World):Nat->PyData->Int
 |_,.int i=>hashInt i
 |_,.str x=>hashStr w x
 |n+1,.tuple xs=>reduceHash (Builtin.Tuple.tupleHashOf (xs.map (Nr w n)))
 |_,_ => 0
def xk:Nat->PyData->Nat
 |n+1,.tuple xs=>(xs.map (xk n)).sum+1
 |_,_ => 1
theorem b6 {n:Nat}{xs:List PyData}(h:keyOk (n+1) (.tuple xs)=true):∀ x∈xs,keyOk n x=true:=by rw[keyOk,all_eq_true] at h;exact h
theorem kE:∀ {n:Nat}{p:PyData},keyOk n p=true->p.canLay0=true:=by
 intro n
 induction n with
 |zero =>
  intro p h;cases p with
  |int i=>rfl
  |str x=>rw[PyData.canLay0];simpa [keyOk] using h
  |_=>simp[keyOk] at h
 |succ n b =>
  intro p h;cases p with
  |int i=>rfl
  |str x=>rw[PyData.canLay0];simpa [keyOk] using h
  |tuple a =>
   rw[PyData.canLay0];have:=b6 h;clear h
   induction a with
   |nil=>rfl
   |cons x a d=>rw[PyData.canLayAll0,b (this x (by simp)),d λy c=>this y (by simp[c])];rfl
  |_=>simp[keyOk] at h
theorem sL:∀ {n:Nat}{p:PyData},keyOk n p=true->p.depth<=n:=by
 intro n
 induction n with
 |zero =>
  intro p h;cases p<;>first |(simp[keyOk] at h;done) |simp[PyData.depth]
 |succ n b =>
  intro p h;cases p with
  |tuple a =>
   rw[PyData.depth];have:=b6 h;clear h;refine Nat.succ_le_succ ?_
   induction a with
   |nil=>rw[PyData.depthAll];omega
   |cons x a d=>rw[PyData.depthAll];exact Nat.max_le.mpr ⟨b (this x (by simp)),d λy c=>this y (by simp[c])⟩
  |int i=>simp[PyData.depth]
  |str i=>simp[PyData.depth]
  |_=>simp[keyOk] at h
theorem o0:∀ {n:Nat}{p q:PyData},keyOk n p=true->keyOk n q=true->PyData.eqv p q=decide (p=q):=by
 have str:∀ x y:Str,PyData.eqv (.str x) (.str y)=decide (PyData.str x = .str y):=λx y=>by
  rw[PyData.eqv];by_cases e:x=y
  ·subst e;simp
  rw[beq_eq_false_iff_ne.mpr e,decide_eq_false (λz=>e (PyData.str.inj z))]
 have int:∀ x y:Int,PyData.eqv (.int x) (.int y)=decide (PyData.int x = .int y):=λx y=>by
  rw[PyData.eqv];by_cases e:x=y
  ·subst e;simp
  rw[beq_eq_false_iff_ne.mpr e,decide_eq_false (λz=>e (PyData.int.inj z))]
 have c:∀ p q:PyData,p≠q->false=decide (p=q):=λp q h=>(decide_eq_false h).symm;intro n
 induction n with
 |zero =>
  intro p q d b;cases p<;>first |(simp[keyOk] at d;done) |skip<;>cases q<;>first |(simp[keyOk] at b;done) |exact int _ _ |exact str _ _ |exact c _ _ (λz=>nomatch z)
 |succ n o =>
  intro p q d b;cases p with
  |tuple f =>
   cases q with
   |tuple a =>
    rw[PyData.eqv];have m:=b6 d;have l:=b6 b;clear d b
    have k:PyData.eqvAll f a=decide (f=a):=by
     induction f generalizing a with
     |nil=>cases a<;>simp[PyData.eqvAll]
     |cons x f r =>
      cases a with
      |nil=>simp[PyData.eqvAll]
      |cons y a =>
       rw[PyData.eqvAll,o (m x (by simp)) (l y (by simp)),r a (λz g=>m z (by simp[g])) (λz g=>l z (by simp[g]))];by_cases e:x=y
       ·subst e;simp
       simp[e]
    rw[k];by_cases e:f=a
    ·subst e;simp
    rw[decide_eq_false e,decide_eq_false (λz=>e (PyData.tuple.inj z))]
   |int i=>rw[PyData.eqv];exact c _ _ (λz=>nomatch z)
   |str i=>rw[PyData.eqv];exact c _ _ (λz=>nomatch z)
   |_=>simp[keyOk] at b
  |int i =>
   cases q with
   |int j=>exact int _ _
   |str j=>rw[PyData.eqv];exact c _ _ (λz=>nomatch z)
   |tuple j=>rw[PyData.eqv];exact c _ _ (λz=>nomatch z)
   |_=>simp[keyOk] at b
  |str i =>
   cases q with
   |int j=>rw[PyData.eqv];exact c _ _ (λz=>nomatch z)
   |str j=>exact str _ _
   |tuple j=>rw[PyData.eqv];exact c _ _ (λz=>nomatch z)
   |_=>simp[keyOk] at b
  |_=>simp[keyOk] at d
theorem rO {h h':Heap}{d:Addr}{o:Obj}{es ep}(k:h.get? d=some o)(hd:o.data = .dict es ep)(u:Heap.SameBut d h h'):∀ {n:Nat}{p:PyData}{v:Value}{as:List Addr},keyOk n p=true->Reads h v p as->Reads h' v p as:=by
 intro n
 induction n with
 |zero =>
  intro p v as b r;cases r with
  |int i t=>exact .int i t
  |str x t=>exact .str x t
  |_=>simp[keyOk] at b
 |succ n q =>
  intro p v as b r;cases r with
  |int i t=>exact .int i t
  |str x t=>exact .str x t
  | @tuple a D A m j as e g c f =>
   have z:a≠d:=by rintro rfl;rw[k] at e;cases e;rw[hd] at c;exact nomatch c
   refine .tuple ((u.2 a z).trans e) g c ?_;have it:=b6 b;clear b e g c;generalize A.toList=l at f
   induction j generalizing l as with
   |nil=>cases f;exact .nil
   |cons x j C =>
    cases f with
    |cons s B=>exact .cons (q (it x (by simp)) s) (C (λy w=>it y (by simp[w])) _ B)
  |_=>simp[keyOk] at b
section
variable {prog:Program}{w:World}{A:Around}{E:GW}{s:Shared}
theorem vf:∀ {n:Nat}{p:PyData}{A:Around}{s:Shared}{v:Value}{as:List Addr}{Q:Int->Shared->Prop},keyOk n p=true->A.units+n<cLine->Reads s.heap v p as->Q (Nr w n p) { s with toks:=s.toks+xk n p } ->
  wpAny (model prog w) A (pyHash v) Q E s:=by
 intro n
 induction n with
 |zero =>
  intro p A s v as Q c G r h;cases r with
  |int i t=>exact wpAny_pyHash_int h
  |str x t=>exact wpAny_pyHash_str h
  |_=>simp[keyOk] at c
 |succ n C =>
  intro p A s v as Q c G r h;cases r with
  |int i t=>exact wpAny_pyHash_int h
  |str x t=>exact wpAny_pyHash_str h
  | @tuple a o items m u as q B hd D =>
   have e:s.TypeIs (.ref a) "tuple":=⟨o,q,B⟩;have it:=b6 c;unfold pyHash
   first |unfold pyHashByItsType |skip
   first |refine wpAny_bind (wpAny_cRoomFor_or (.inr (by omega)) ?_) |skip
   refine wpAny_bind (wpAny_specialOf e F.slot_tuple_hash.lookup ?_);show wpAny _ _ (if (some (Value.builtin "tuple.__hash__")==some Value.none)=true then _ else _) Q E s;rw[if_neg (by rw[beq_builtin_none];exact Bool.false_ne_true)];refine wpAny_bind (wpAny_specialOf e F.slot_tuple_hash.lookup ?_);show wpAny _ _ (callSpecialIfBoundUnlessNone? (.ref a) "__hash__" _ >>= _) Q E s;refine wpAny_bind (wpAny_callSpecialIfBoundUnlessNone?_slot e F.slot_tuple_hash (wpAny_call_entry F.slot_tuple_hash e F.entry_tuple_hash ?_ (F.args_tuple_hash_1 _)));show wpAny _ _ (Builtin.Tuple.tupleItemsOf (.ref a) >>= _) _ _ s;refine wpAny_bind (wpAny_tupleItemsOf q hd ?_);refine wpAny_bind ?_;rw[← Array.forIn_toList]
   refine wpAny_forIn_list _
    (λrest (b:Array Int) j => ∃ done left bs,u=done++left/\ReadsAll s.heap rest left bs/\b.toList=done.map (Nr w n)/\j={ s with toks:=s.toks+(done.map (xk n)).sum })
    _ ?_ ?_ _ _ ⟨[],u,as,rfl,D,rfl,rfl⟩
   ·rintro x rest b j ⟨done,left,bs,rfl,g,f,rfl⟩;cases g with
    | @cons _ _ k z I l H y =>
     refine wpAny_bind (C (A:=A.in1) (it k (by simp)) (by show A.units+1+n<cLine;omega) (s:={ s with toks:=s.toks+(done.map (xk n)).sum }) H ?_)
     first
      |exact wpAny_pure ⟨done++[k],z,l,by simp,y,by simp[f],by simp[add_assoc]⟩
      |exact wpAny_bind (wpAny_pure (wpAny_pure ⟨done++[k],z,l,by simp,y,by simp[f],by simp[add_assoc]⟩))
   rintro b j ⟨done,left,bs,rfl,g,f,rfl⟩;cases g;rw[append_nil] at h;show wpAny _ _ (retInt (Builtin.Tuple.tupleHashOf b.toList)) _ _ _;rw[f];refine wpAny_ret_mkInt ?_;show wpAny _ _ (if (decide (-(2:Int) ^ 63<=Builtin.Tuple.tupleHashOf (done.map (Nr w n)))&&decide (Builtin.Tuple.tupleHashOf (done.map (Nr w n))<2 ^ 63))=true then _ else _) Q E _;rw[Nr,xk] at h;unfold reduceHash at h;by_cases d:(decide (-(2:Int) ^ 63<=Builtin.Tuple.tupleHashOf (done.map (Nr w n)))&&decide (Builtin.Tuple.tupleHashOf (done.map (Nr w n))<2 ^ 63))=true
   ·rw[if_pos d];rw[if_pos d] at h;exact wpAny_pure (by simpa [add_assoc] using h)
   rw[if_neg d];rw[if_neg d] at h;exact wpAny_bind (wpAny_rule (wpAny_pure (by simpa [add_assoc] using h)))
  |_=>simp[keyOk] at c
theorem rP:∀ {n:Nat}{p:PyData}{s:Shared}{v:Value}{as:List Addr}{Q:Bool->Shared->Prop},keyOk n p=true->Reads s.heap v p as->Q true s->wpAny (model prog w) A (eqIsQuiet n v) Q E s:=by
 intro n
 induction n with
 |zero =>
  intro p s v as Q b r h;cases r with
  |int i t=>unfold eqIsQuiet;exact wpAny_pure h
  |str x t=>unfold eqIsQuiet;exact wpAny_pure h
  |_=>simp[keyOk] at b
 |succ n q =>
  intro p s v as Q b r h;cases r with
  |int i t=>unfold eqIsQuiet;exact wpAny_pure h
  |str x t=>unfold eqIsQuiet;exact wpAny_pure h
  | @tuple a o items m C as e l hd B =>
   have f:s.TypeIs (.ref a) "tuple":=⟨o,e,l⟩;have it:=b6 b;unfold eqIsQuiet;refine wpAny_bind (wpAny_specialOf f F.slot_tuple_eq.lookup ?_);show wpAny _ _ (isInstance (.ref a) (.type "tuple") >>= _) _ _ s;refine wpAny_bind (wpAny_isInstance f isSubtype_tuple_tuple ?_);simp only[Bool.not_true,false_eq_true,if_false];refine wpAny_bind (wpAny_seqItems e hd ?_);refine wpAny_bind ?_;show wpAny _ _ (forIn items _ _) _ _ s;rw[← Array.forIn_toList];refine wpAny_forIn_list _ (λrest r d=>r.1=none/\d=s/\∃ left bs,ReadsAll s.heap rest left bs/\∀ x∈left,keyOk n x=true) _ ?_ ?_ _ _ ⟨rfl,rfl,C,as,B,it⟩
   ·rintro v rest r d ⟨c,rfl,left,bs,u,g⟩;cases u with
    | @cons _ _ k G K j H D =>
     refine wpAny_bind (q (g k (by simp)) H ?_);simp only[Bool.not_true,false_eq_true,if_false];exact wpAny_pure ⟨rfl,rfl,G,j,D,λy z=>g y (by simp[z])⟩
   rintro⟨I,J⟩ d ⟨c,rfl,_⟩;simp only at c;subst c;exact wpAny_pure h
  |_=>simp[keyOk] at b
end
noncomputable def jM (prog:Program) (w:World):HeapKind prog w PyData where
 is:=λh p a=>keyOk 8 p=true/\∃ e,Reads h (.ref a) p e
 hash:=Nr w 8
 draws:=xk 8
 room:=λA=>A.units+8<cLine
 inj:=λ⟨c,e,d⟩ ⟨_,bs,f⟩=>SeqAt.Reads.unique _ _ _ _ _ (kE c) d f
 keeps:=λ⟨c,e,d⟩ j hd k=>⟨c,e,rO j hd k c d⟩
 pyHash:=λi ⟨c,e,d⟩ h=>vf c i d h
 eqBool:=λ{A E s x y a b Q} i ⟨c,e,d⟩ ⟨g,bs,f⟩ h=>SeqAt.eqBoolOverData prog w A E s _ _ _ _ _ _ Q d f (kE c) (kE g) (by have:=sL c;omega) (by rw[o0 c g];exact h)
 quiet:=λ⟨c,e,d⟩ h=>rP c d h
abbrev Key:=Sum Int Str
def o5:Key->Value->Bool
 | .inl k,v=>Value.isInt k v
 | .inr x,v=>Value.isStrOf x v
def FM (w:World):Key->Int
 | .inl k=>hashInt k
 | .inr x=>hashStr w x
theorem a8:∀ {k:Key}{v:Value},o5 k v=true->(∃ i t,k=Sum.inl i/\v=Value.int i t)∨(∃ x t,k=Sum.inr x/\v=Value.str x t)
 | .inl i,v,h=>by
  obtain⟨t,e⟩:=Value.isInt_shape (k:=i) (v:=v) h;exact .inl ⟨i,t,rfl,e⟩
 | .inr x,v,h=>by
  obtain⟨t,e⟩:=Value.isStrOf_shape (x:=x) (v:=v) h;exact .inr ⟨x,t,rfl,e⟩
theorem xR (i:Int)(t:Tok):o5 (.inl i) (.int i t)=true:=by simp[o5,Value.isInt]
theorem xQ (x:Str)(t:Tok):o5 (.inr x) (.str x t)=true:=by simp[o5,Value.isStrOf]
theorem Dt (a b:Int):decide ((Sum.inl a:Key)=Sum.inl b)=(a==b):=by
 by_cases e:a=b
 ·subst e;simp
 have h:¬ (Sum.inl a:Key)=Sum.inl b:=λq=>e (Sum.inl.inj q);rw[decide_eq_false h];exact(beq_eq_false_iff_ne.mpr e).symm
theorem Dq (a b:Str):decide ((Sum.inr a:Key)=Sum.inr b)=decide (a=b):=by
 by_cases e:a=b
 ·subst e;simp
 have h:¬ (Sum.inr a:Key)=Sum.inr b:=λq=>e (Sum.inr.inj q);rw[decide_eq_false h,decide_eq_false e]
theorem Ds (a:Int)(b:Str):decide ((Sum.inl a:Key)=Sum.inr b)=false:=decide_eq_false (λq=>nomatch q)
theorem Dr (a:Str)(b:Int):decide ((Sum.inr a:Key)=Sum.inl b)=false:=decide_eq_false (λq=>nomatch q)
def bd (prog:Program)(w:World):PySem.KeyKind prog w Key where
 is:=o5
 hash:=FM w
 inj:=λv a b g f=>by
  rcases a8 g with ⟨i,t,rfl,rfl⟩ |⟨x,t,rfl,rfl⟩
  ·rcases a8 f with ⟨j,u,rfl,e⟩ |⟨y,u,rfl,e⟩
   ·injection e with c _;rw[c]
   exact nomatch e
  rcases a8 f with ⟨j,u,rfl,e⟩ |⟨y,u,rfl,e⟩
  ·exact nomatch e
  injection e with c _;rw[c]
 byValue:=λk v h=>by
  rcases a8 h with ⟨i,t,rfl,rfl⟩ |⟨x,t,rfl,rfl⟩<;>rfl
 pyHash:=λd h=>by
  rcases a8 d with ⟨i,t,rfl,rfl⟩ |⟨x,t,rfl,rfl⟩
  ·exact wpAny_pyHash_int h
  exact wpAny_pyHash_str h
 eqBool:=λl d h=>by
  rcases a8 l with ⟨i,t,rfl,rfl⟩ |⟨x,t,rfl,rfl⟩
  ·rcases a8 d with ⟨j,u,rfl,rfl⟩ |⟨y,u,rfl,rfl⟩
   ·rw[Dt] at h;exact wpAny_eqBool_int h
   rw[Ds] at h;exact SeqAt.EqAt.int_str i t y u _ _ _ _ h
  rcases a8 d with ⟨j,u,rfl,rfl⟩ |⟨y,u,rfl,rfl⟩
  ·rw[Dr] at h;exact SeqAt.EqAt.str_int x t j u _ _ _ _ h
  rw[Dq] at h;exact wpAny_eqBool_str h
 «strs»:=λk x t v h=>by
  rcases a8 h with ⟨i,u,rfl,e⟩ |⟨y,u,rfl,e⟩
  ·exact nomatch e
  injection e with c _
  subst c;cases v<;>rfl
theorem sk (prog:Program)(w:World)(i:Int)(t:Tok):(bd prog w).is (.inl i) (.int i t)=true:=xR i t
theorem sj (prog:Program)(w:World)(x:Str)(t:Tok):(bd prog w).is (.inr x) (.str x t)=true:=xQ x t
inductive V where
 |Ho |bl (b:Bool) |int (i:Int) |str (x:Str) |Rq (b:Array UInt8) |Ph (b:UInt64) |ref (a:Addr) |ty (n:String)
 deriving DecidableEq
def RelV:V->Value->Prop
 | .Ho,u=>u=Value.none
 | .bl b,u=>u=Value.bool b
 | .int i,u => ∃ t,u=Value.int i t
 | .str x,u => ∃ t,u=Value.str x t
 | .Rq b,u => ∃ t,u=Value.bytes b t
 | .Ph b,u => ∃ t,u=Value.float b t
 | .ref a,u=>u=Value.ref a
 | .ty n,u=>u=Value.type n
abbrev Vals:List V->List Value->Prop:=Paired RelV
theorem Vals.length {xs:List V}{us:List Value}(r:Vals xs us):xs.length=us.length:=Paired.length r
theorem Vals.get:∀ {xs:List V}{us:List Value}{i:Nat}{x:V},Vals xs us->xs[i]?=some x->∃ u,us[i]?=some u/\RelV x u
 |_,_,_,_,.nil,e=>by simp at e
 |_,_,0,_,.cons r _,e=>by simp at e;subst e;exact⟨_,rfl,r⟩
 |_,_,i+1,x,.cons _ t,e=>by
  obtain⟨u,a,b⟩:=Vals.get (i:=i) (x:=x) t (by simpa using e);exact⟨u,by simpa using a,b⟩
theorem Vals.set {x:V}{u:Value}(r:RelV x u):∀ {xs:List V}{us:List Value}(i:Nat),Vals xs us->Vals (xs.set i x) (us.set i u)
 |_,_,_,.nil => .nil
 |_,_,0,.cons _ t => .cons r t
 |_,_,i+1,.cons q t => .cons q (Vals.set r i t)
theorem Vals.append:∀ {xs ys:List V}{us ws:List Value},Vals xs us->Vals ys ws->Vals (xs++ys) (us++ws)
 |_,_,_,_,.nil,s=>s
 |_,_,_,_,.cons r t,s => .cons r (Vals.append t s)
theorem Vals.take:∀ {xs:List V}{us:List Value}(n:Nat),Vals xs us->Vals (xs.take n) (us.take n)
 |_,_,0,_ => .nil
 |_,_,_+1,.nil => .nil
 |_,_,n+1,.cons r t => .cons r (Vals.take n t)
theorem Vals.drop:∀ {xs:List V}{us:List Value}(n:Nat),Vals xs us->Vals (xs.drop n) (us.drop n)
 |_,_,0,r=>r
 |_,_,_+1,.nil => .nil
 |_,_,n+1,.cons _ t=>Vals.drop n t
def Iz:Option V->Option Value->Prop
 |some v,some u=>RelV v u
 |none,none=>True
 |_,_=>False
def KV {a:Type}:List (a×V)->List (a×Value)->Prop:=Paired λ(p : a×V) (q : a×Value)=>p.1=q.1/\RelV p.2 q.2
def kV:Key->V
 | .inl i => .int i
 | .inr x => .str x
inductive HO where
 |lst (xs:List V)
 |tup (xs:List V)
 |dK (kvs:List (Key×V)) |dT (kvs:List (List Key×V)) |dN (kvs:List (PyData×Addr×V))
 |set (S:Int->Bool) (n:Nat)
 |ins (C dx:Addr) (fs:List (Str×V))
 |own (x:Addr)
 |xd (fs:List (Str×V))
 |met (f x:Addr)
 |R9 (lo hi:Int)
 |MA (o:Obj) (u:HO)
 |Ow (ps:Array Value)
 |ext (φ:Heap->Prop)
abbrev Hp:=Addr->Option HO
noncomputable def upd (H:Hp) (a:Addr) (o:HO):Hp:=λb=>if b=a then some o else H b
theorem G_ {H:Hp}{a:Addr}{o:HO}:upd H a o a=some o:=by unfold upd;rw[if_pos rfl]
theorem aF {H:Hp}{a b:Addr}{o:HO}(h:b≠a):upd H a o b=H b:=by unfold upd;rw[if_neg h]
theorem EI {H:Hp}{a b:Addr}{o u:HO}(h:H a=some o)(h':H b=some u)(d:o≠u):a≠b:=by intro e;subst e;rw[h] at h';exact d (Option.some.inj h')
theorem aJ {H:Hp}{a b:Addr}{o:HO}(h:H a=some o)(h':H b=none):a≠b:=by intro e;subst e;rw[h] at h';cases h'
def Kl (h:Heap)(a:Addr)(its:Array Value):Prop:=∃ n,h.get? a=some { cls:=.type "tuple",data:=.seq its n }
theorem Kl.tup {h:Heap}{a:Addr}{its:Array Value}(x:Kl h a its):IsTup h a its:=let ⟨n,e⟩:=x;⟨_,e,rfl,n,rfl⟩
theorem Kl.new (h:Heap)(its:Array Value):Kl (h.push { cls:=.type "tuple",data:=.seq its }) h.objs.size its:=⟨_,Heap.get?_push_size _ rfl⟩
section
variable (P:Program) (w:World)
def Hz (H:Hp)(h:Heap)(a:Addr):HO->Prop
 | .lst c=>c.length<=sizeLine/\∃ (its:List Value) (n:Nat),Vals c its/\h.get? a=some { cls:=.type "list",data:=.seq its.toArray n }
 | .tup c=>c.length<=sizeLine/\∃ its:List Value,Vals c its/\Kl h a its.toArray
 | .dK b=>b.length<=sizeLine/\(a==sysModules)=false/\∃ j,KV b j/\h.DictOf (bd P w) a j
 | .dT b=>b.length<=sizeLine/\(a==sysModules)=false/\∃ c:List (List Key×Addr×Value),
   Paired (λ(p:List Key×V) (q:List Key×Addr×Value)=>p.1=q.1/\H q.2.1=some (.tup (p.1.map kV))/\RelV p.2 q.2.2) b c /\
   ∃ o es ep,h.get? a=some o/\o.ExactDict/\o.data = .dict es ep/\es.toList=c.map (entryOfKey (tupleKind (bd P w)))/\(c.map (·.1)).Nodup
 | .dN b=>b.length<=sizeLine/\(a==sysModules)=false/\∃ c:List (PyData×Addr×Value),Paired (λp q=>p.1=q.1/\p.2.1=q.2.1/\RelV p.2.2 q.2.2) b c /\
   ∃ o es ep,h.get? a=some o/\o.ExactDict/\o.data = .dict es ep/\es.toList=c.map (entryOfKey (jM P w))/\(c.map (·.1)).Nodup
 | .set S n=>h.SetOf (intKind P w) a S n
 | .ins C e fs=>H e=some (.own a)/\fs.length<=1000/\e≠a/\h.get? a=some (PySem.W.instObj C e) /\
   ∃ d,h.Ns1 e d/\(∀ f,Iz (fs.lookup f) (d f))/\PySem.Within d (fs.map (·.1))
 | .own _ => ∃ o,h.get? a=some o
 | .xd fs => ∃ d,h.Ns1 a d/\∀ f,Iz (fs.lookup f) (d f)
 | .R9 lo m => ∃ t u v,h.get? a=some { cls:=.type "range",data:=.fields #[.int lo t,.int m u,.int 1 v] }
 | .MA o u=>h.get? a=some o/\Hz H h a u
 | .Ow l=>h.get? a=some { cls:=.none,data:=.fields l }
 | .met f x=>h.get? a=some (PySem.W.methodObj (.ref f) (.ref x))
 | .ext g => g h/\(∃ o,h.get? a=some o)/\∀ k i:Heap,g k->(∀ o,k.get? a=some o->i.get? a=some o)->g i
def IY (H:Hp)(h:Heap):Prop:=∀ a o,H a=some o->Hz P w H h a o
end
section
variable {P:Program}{w:World}{H H':Hp}{h h':Heap}{a:Addr}{o:HO}
theorem Hz.lt (x:Hz P w H h a o):a<h.objs.size:=by
 cases o with
 |lst c=>obtain⟨_,_,_,_,e⟩:=x;exact Heap.lt_size e
 |tup c=>obtain⟨_,_,_,_,e⟩:=x;exact Heap.lt_size e
 |dK b=>obtain⟨_,_,_,_,o,_,_,e,_⟩:=x;exact Heap.lt_size e
 |dT b=>obtain⟨_,_,_,_,o,_,_,e,_⟩:=x;exact Heap.lt_size e
 |dN b=>obtain⟨_,_,_,_,o,_,_,e,_⟩:=x;exact Heap.lt_size e
 |set S n=>obtain⟨o,_,_,_,e,_⟩:=x;exact Heap.lt_size e
 |ins C k fs=>obtain⟨_,_,_,e,_⟩:=x;exact Heap.lt_size e
 |own y=>obtain⟨_,e⟩:=x;exact Heap.lt_size e
 |xd fs=>obtain⟨_,⟨_,_,_,e,_⟩,_⟩:=x;exact Heap.lt_size e
 |R9 lo i=>obtain⟨_,_,_,e⟩:=x;exact Heap.lt_size e
 |MA d u=>obtain⟨e,_⟩:=x;exact Heap.lt_size e
 |Ow g=>exact Heap.lt_size (show h.get? a=some _ from x)
 |met f y=>exact Heap.lt_size (show h.get? a=some _ from x)
 |ext j=>obtain⟨_,⟨_,e⟩,_⟩:=x;exact Heap.lt_size e
theorem Paired.KL {α c:Type}{F G : α->c->Prop}:∀ {l₁:List α}{l₂:List c},Paired F l₁ l₂->(∀ a b,F a b->G a b)->Paired G l₁ l₂
 |_,_,.nil,_ => .nil
 |_,_,.cons r t,f => .cons (f _ _ r) (Paired.KL t f)
theorem Hz.JP (x:Hz P w H h a o)(k:∀ b u,(b=a∨H b=some (.own a))->h.get? b=some u->h'.get? b=some u)
  (s:∀ b,H b=some (.own a)->H' b=some (.own a)) (E:∀ b xs,H b=some (.tup xs)->H' b=some (.tup xs)):Hz P w H' h' a o:=by
 induction o with
 |lst xs=>obtain⟨z,its,n,r,e⟩:=x;exact⟨z,its,n,r,k _ _ (.inl rfl) e⟩
 |tup xs=>obtain⟨z,its,r,n,e⟩:=x;exact⟨z,its,r,n,k _ _ (.inl rfl) e⟩
 |dK i=>obtain⟨z,y,B,r,g,es,ep,e,c⟩:=x;exact⟨z,y,B,r,g,es,ep,k _ _ (.inl rfl) e,c⟩
 |dT i =>
  obtain⟨z,y,xs,r,g,es,ep,e,c⟩:=x;exact⟨z,y,xs,Paired.KL r λp q z=>⟨z.1,E _ _ z.2.1,z.2.2⟩,g,es,ep,k _ _ (.inl rfl) e,c⟩
 |dN i=>obtain⟨z,y,xs,r,g,es,ep,e,c⟩:=x;exact⟨z,y,xs,r,g,es,ep,k _ _ (.inl rfl) e,c⟩
 |set S n=>obtain⟨g,es,ep,t,e,c⟩:=x;exact⟨g,es,ep,t,k _ _ (.inl rfl) e,c⟩
 |ins C I fs =>
  obtain⟨d,z,ne,e,j,⟨l,es,ep,D,c⟩,r⟩:=x;exact⟨s _ d,z,ne,k _ _ (.inl rfl) e,j,⟨l,es,ep,k _ _ (.inr d) D,c⟩,r⟩
 |own y=>obtain⟨g,e⟩:=x;exact⟨g,k _ _ (.inl rfl) e⟩
 |xd fs=>obtain⟨j,⟨l,es,ep,e,c⟩,r⟩:=x;exact⟨j,⟨l,es,ep,k _ _ (.inl rfl) e,c⟩,r⟩
 |R9 lo F=>obtain⟨t,u,v,e⟩:=x;exact⟨t,u,v,k _ _ (.inl rfl) e⟩
 |MA g u A=>obtain⟨e,q⟩:=x;exact⟨k _ _ (.inl rfl) e,A q⟩
 |Ow m =>
  have e:h.get? a=some { cls:=.none,data:=.fields m }:=x;show h'.get? a=some { cls:=.none,data:=.fields m };exact k a _ (.inl rfl) e
 |met f y =>
  have e:h.get? a=some (PySem.W.methodObj (.ref f) (.ref y)):=x;show h'.get? a=some (PySem.W.methodObj (.ref f) (.ref y));exact k a _ (.inl rfl) e
 |ext G=>obtain⟨p,⟨o,e⟩,st⟩:=x;exact⟨st _ _ p λo q=>k _ _ (.inl rfl) q,⟨o,k _ _ (.inl rfl) e⟩,st⟩
theorem IY.lt (x:IY P w H h)(e:H a=some o):a<h.objs.size:=(x a o e).lt
theorem IY.fresh (x:IY P w H h)(e:h.objs.size<=a):H a=none:=by
 cases q:H a with
 |none=>rfl
 |some u=>exact absurd (lt_of_lt_of_le (x.lt q) e) (Nat.lt_irrefl _)
theorem IY.kept (x:IY P w H h)(k:∀ b u,h.get? b=some u->h'.get? b=some u):IY P w H h':=λa o e =>
 (x a o e).JP (λb u _ q=>k b u q) (λ_ q=>q) λ_ _ q=>q
theorem IY.laid (x:IY P w H h)(k:∀ b u,h.get? b=some u->h'.get? b=some u)(g:h.objs.size<=a)(new:Hz P w (upd H a o) h' a o):IY P w (upd H a o) h':=λb u e=>by
 have d:=x.fresh g;by_cases f:b=a
 ·subst f;rw[G_] at e;cases e;exact new
 rw[aF f] at e;exact(x b u e).JP (λc v _ q=>k c v q) (λc q=>by rw[aF (aJ q d)];exact q) λc i q=>by rw[aF (aJ q d)];exact q
end
def Rd (H:Hp)(a:Addr)(u:HO):Prop:=H a=some u∨∃ o,H a=some (.MA o u)
theorem Rd.ok {P:Program}{w:World}{H:Hp}{h:Heap}{a:Addr}{u:HO}(r:Rd H a u)(x:IY P w H h):Hz P w H h a u:=by
 rcases r with r |⟨o,r⟩
 ·exact x a u r
 obtain⟨_,q⟩:=x a _ r;exact q
def PL:Option HO->Prop
 |some (.lst _)=>True
 |some (.dK _)=>True
 |some (.dT _)=>True
 |some (.dN _)=>True
 |some (.set _ _)=>True
 |some (.ins _ _ _)=>True
 |some (.ext _)=>True
 |_=>False
section
variable {P:Program}{w:World}{H:Hp}{h h':Heap}{x e:Addr}{o':HO}
theorem IY.write (ok:IY P w H h)(a:PL (H x))(l:e=x∨H e=some (.own x))(k:∀ b u,b≠e->h.get? b=some u->h'.get? b=some u)(o:∃ u,h'.get? e=some u)
  (new:Hz P w (upd H x o') h' x o'):IY P w (upd H x o') h':=λb u q=>by
 have i:∀ c y,H c=some (.own y)->c≠x:=λc y r z=>by subst z;rw[r] at a;exact a
 have m:∀ c f,H c=some (.tup f)->c≠x:=λc f r z=>by subst z;rw[r] at a;exact a
 by_cases g:b=x
 ·subst g;rw[G_] at q;cases q;exact new
 rw[aF g] at q;by_cases d:b=e
 ·have j:H b=some (.own x):=by
   rcases l with z |z
   ·exact absurd (d.trans z) g
   rw[d];exact z
  rw[q] at j;cases j;obtain⟨v,n⟩:=o;exact⟨v,by rw[d];exact n⟩
 refine(ok b u q).JP (λc v hc r=>k c v ?_ r) (λc r=>by rw[aF (i c b r)];exact r) λc f r=>by rw[aF (m c f r)];exact r
 rcases hc with rfl |hc
 ·exact d
 rintro rfl;rcases l with z |z
 ·exact i c b hc z
 rw[hc] at z;cases z;exact g rfl
end
structure Un (fs ex:List Addr) (H H':Hp) (h h':Heap):Prop where
 keep:∀ b o,h.get? b=some o->H b=none->b∉fs->b∉ex->h'.get? b=some o
 slot:∀ b o,h.get? b=some o->H b=none->b∈fs->b∉ex->∃ sl,h'.get? b=some { o with slots:=sl }
 free:∀ b o,h.get? b=some o->H b=none->b∉ex->H' b=none
 there:∀ b o,h.get? b=some o->b∉ex->∃ o',h'.get? b=some o'
 KN:∀ b xs,H b=some (.tup xs)->H' b=some (.tup xs)
 Km:∀ b o u,H b=some (.MA o u)->H' b=some (.MA o u)
 KO:∀ b ps,H b=some (.Ow ps)->∃ more,H' b=some (.Ow (ps++more))
section
variable {fs Ug ex Yc:List Addr}{H H1 H2:Hp}{h h1 h2 h':Heap}{a x e:Addr}{o:HO}
theorem Un.any (u:Un fs ex H H1 h h1){b:Addr}{a:Obj}(q:h.get? b=some a)(n:H b=none)(c:b∉ex):∃ e,h1.get? b=some { a with slots:=e }:=by
 by_cases d:b∈fs
 ·exact u.slot b a q n d c
 exact⟨a.slots,u.keep b a q n d c⟩
theorem Un.kept (k:∀ b u,h.get? b=some u->h'.get? b=some u):Un fs ex H H h h':=
 ⟨λb a q _ _ _=>k b a q,λb a q _ _ _=>⟨a.slots,k b a q⟩,λ_ _ _ n _=>n,λb a q _=>⟨a,k b a q⟩,λ_ _ q=>q,λ_ _ _ q=>q,λ_ c q=>⟨#[],by rw[q];simp⟩⟩
theorem Un.refl:Un fs ex H H h h:=Un.kept λ_ _ q=>q
theorem Un.laid (k:∀ b u,h.get? b=some u->h'.get? b=some u)(d:h.objs.size<=a)(c:H a=none):Un fs ex H (upd H a o) h h' where
 keep:=λb u q _ _ _=>k b u q
 slot:=λb u q _ _ _=>⟨u.slots,k b u q⟩
 free:=λb u q n _=>by rw[aF (ne_of_lt (lt_of_lt_of_le (Heap.lt_size q) d))];exact n
 there:=λb u q _=>⟨u,k b u q⟩
 KN:=λb e q=>by rw[aF (aJ q c)];exact q
 Km:=λb u e q=>by rw[aF (aJ q c)];exact q
 KO:=λb f q=>⟨#[],by rw[aF (aJ q c),q];simp⟩
theorem Un.write (a:PL (H x))(l:e=x∨H e=some (.own x))(k:∀ b u,b≠e->h.get? b=some u->h'.get? b=some u)(j:∃ u,h'.get? e=some u):Un fs ex H (upd H x o) h h':=by
 have d:∀ b,H b=none->b≠x:=λb n z=>by subst z;rw[n] at a;exact a
 have f:∀ b,H b=none->b≠e:=λb n z=>by
  subst z;rcases l with r |r
  ·exact d b n r
  rw[n] at r;cases r
 have c:∀ b u,H b=some u->¬ PL (some u)->b≠x:=λb u q i z=>by subst z;rw[q] at a;exact i a
 refine⟨λb u q n _ _=>k b u (f b n) q,λb u q n _ _=>⟨u.slots,k b u (f b n) q⟩,λb u q n _=>by rw[aF (d b n)];exact n,λb u q _=>?_,
  λb m q=>by rw[aF (c b _ q λz=>z)];exact q,λb u m q=>by rw[aF (c b _ q λz=>z)];exact q,λb p q=>⟨#[],by rw[aF (c b _ q λz=>z),q];simp⟩⟩
 by_cases g:b=e
 ·subst g;exact j
 exact⟨u,k b u g q⟩
end
def Rr (h:Heap)(H:Hp):List Addr:=(List.range h.objs.size).filter λa=>(H a).isSome
def qA (h:Heap)(H:Hp):Heap:=PySem.W.hideAll h (Rr h H)
theorem xV (h:Heap)(H:Hp):(qA h H).objs.size=h.objs.size:=PySem.W.hideAll_size _ _
theorem zZ {h:Heap}{H:Hp}{b:Addr}{o:Obj}(e:h.get? b=some o)(n:H b=none):(qA h H).get? b=some o:=
 PySem.W.hideAll_get _ e λa=>by
  have q:(H b).isSome=true:=(mem_filter.mp a).2;rw[n] at q;simp at q
theorem BB {h:Heap}{H:Hp}{b:Addr}{o:Obj}(e:(qA h H).get? b=some o):h.get? b=some o/\H b=none:=by
 have a:h.get? b=some o:=PySem.W.of_hideAll (Rr h H) e;refine⟨a,?_⟩;cases q:H b with
 |none=>rfl
 |some x =>
  have c:b∈Rr h H:=mem_filter.mpr ⟨mem_range.mpr (Heap.lt_size a),by simp[q]⟩;have z:(qA h H).get? b=none:=PySem.W.hideAll_none (Rr h H) c;rw[z] at e;cases e
def B_ (g h:Heap)(L:Addr):GX:=(List.range h.objs.size).filterMap λa=>if a=L∨(g.get? a).isSome=true then none else (h.get? a).map λo=>(a,o)
def rest (g h:Heap)(L d:Addr):GX:=(B_ g h L).filter λp=>decide (p.1≠d)
structure Mod (K:GV) (mg:GY) (base:Heap):Prop where
 PN:K.In base
 glob:base.Ns mainGlobals mg
 blt:∃ mb,base.Ns builtinsNs mb/\∀ x:Str,x≠"__name__"->mb x=bootBuiltins x
 nolimit:base.NoLimit
structure Cx where
 prog:Program
 w:World
 K:GV
 mg:GY
 base:Heap
 A:Around
 N:List Str
 s₀:Shared
 H₀:Hp
 env:Env
 outer:List Env
 stack:List Env
 ex:List Addr
 fn:Str->Bool
 calm:Bool
 pn:GX
 xe:GW
def L9 (l:List Env):List Addr:=l.filterMap (·.frame)
abbrev Cx.fs (X:Cx):List Addr:=L9 X.outer
def PQ (sc:Scope)(x:Str):Prop:=sc.names.lookup x=some .local∨sc.names.lookup x=some .cell∨sc.names.lookup x=some .free
def Loc (sc:Scope)(x:Str):Prop:=sc.names.lookup x=some .local∨sc.names.lookup x=some .cell
def Look (env:Env)(h:Heap)(m:GY)(x:Str)(u:Value):Prop:=
 (env.kindOf x=some .local/\m x=some u)∨((env.kindOf x=some .cell∨env.kindOf x=some .free)/\∃ c,env.cells.lookup x=some c/\h.IsCell c (some u))
structure Cx.Ok (X:Cx):Prop where
 mod:Mod X.K X.mg X.base
 kind:X.env.scope.kind = .function
 glob:X.env.globals=mainGlobals
 blt:X.env.builtins=builtinsNs
 above:X.s₀.heap.objs.size<=X.env.locals
 inj:∀ x y c,X.env.cells.lookup x=some c->X.env.cells.lookup y=some c->x=y
 has:∀ x,(X.env.kindOf x=some .cell∨X.env.kindOf x=some .free)->∃ c,X.env.cells.lookup x=some c
 PR:∀ x c,X.fn x=true->X.env.cells.lookup x=some c->X.s₀.heap.objs.size<=c
 hd:X.calm=true->X.A.handled=none
 frames:X.A.frames=some X.stack
 Rt:X.stack=X.outer∨(X.stack=X.env::X.outer/\X.env.frame=some X.env.locals)
 Uh:∀ b∈X.ex,b≠X.env.locals/\∀ x c,X.env.cells.lookup x=some c->c≠b
 bs:∀ b o,X.base.get? b=some o->X.s₀.heap.get? b=some o/\X.H₀ b=none
 Nt:X.base.objs.size<=X.s₀.heap.objs.size
 MR:∀ b o,X.base.get? b=some o->b∉X.ex
 Nu:∀ b∈X.ex,b∉X.fs
 JG:X.s₀.heap.FunFrames X.base X.outer
 Oy:∀ b∈X.fs,X.H₀ b=none
structure Inv (X:Cx) (pins:GX) (σ:List (Option V)) (H:Hp) (s:Shared):Prop where
 ok:X.Ok
 os:s.os=X.s₀.os
 bare:AllBare s.gens
 base:Un X.fs X.ex X.H₀ H X.s₀.heap s.heap
 loc:∃ m,s.heap.Ns X.env.locals m/\∀ (i:Nat) (x:Str) (v:V),X.N[i]?=some x->σ[i]?=some (some v)->PQ X.env.scope x->∃ u,RelV v u/\Look X.env s.heap m x u
 cell:∀ x c,X.env.cells.lookup x=some c->∃ v,s.heap.IsCell c v
 free:H X.env.locals=none
 IU:∀ x c,X.env.cells.lookup x=some c->H c=none
 pin:∀ p∈X.pn++pins,s.heap.get? p.1=some p.2/\H p.1=none/\p.1≠X.env.locals/\p.1∉X.fs/\∀ v,p.2.data≠.cell v
 Hq:IY X.prog X.w H s.heap
 len : σ.length=X.N.length
section
variable {X:Cx}{pins:GX}{σ:List (Option V)}{H H':Hp}{s:Shared}{h':Heap}
theorem Cx.Ok.Sa (ok:X.Ok){b:Addr}{o:Obj}(e:X.base.get? b=some o):b∉X.fs:=λa=>by have:=(ok.JG.mem a).1;rw[e] at this;cases this
theorem Inv.bs (I:Inv X pins σ H s):∀ b o,X.base.get? b=some o->s.heap.get? b=some o/\H b=none:=λb o e =>
 ⟨I.base.keep b o (I.ok.bs b o e).1 (I.ok.bs b o e).2 (I.ok.Sa e) (I.ok.MR b o e),I.base.free b o (I.ok.bs b o e).1 (I.ok.bs b o e).2 (I.ok.MR b o e)⟩
theorem Inv.bk (I:Inv X pins σ H s):∀ b o,X.base.get? b=some o->s.heap.get? b=some o:=λb o e=>(I.bs b o e).1
theorem Inv.mod (I:Inv X pins σ H s):Mod X.K X.mg X.base:=I.ok.mod
theorem Inv.L_ (I:Inv X pins σ H s):X.K.In s.heap:=I.ok.mod.PN.keeps I.bk
theorem Inv.lt (I:Inv X pins σ H s):X.env.locals<s.heap.objs.size:=let ⟨_,a,_⟩:=I.loc;a.lt
theorem Inv.sz (I:Inv X pins σ H s):X.s₀.heap.objs.size<=s.heap.objs.size:=Nat.le_trans I.ok.above (Nat.le_of_lt I.lt)
theorem Inv.Sb (I:Inv X pins σ H s){a:Addr}(h:s.heap.objs.size<=a):a∉X.fs:=λc=>by obtain⟨_,o,b,_⟩:=I.ok.JG.mem c;exact absurd (lt_of_lt_of_le (Heap.lt_size b) (Nat.le_trans I.sz h)) (Nat.lt_irrefl _)
theorem Inv.Oz (I:Inv X pins σ H s):∀ x c,X.env.cells.lookup x=some c->c≠X.env.locals:=λx c e z=>by obtain⟨v,o,a,hd⟩:=I.cell x c e;obtain⟨m,⟨f,es,ep,b,d,_⟩,_⟩:=I.loc;rw[z,b] at a;cases a;rw[d] at hd;cases hd
theorem Inv.JG (I:Inv X pins σ H s):s.heap.FunFrames X.base X.outer:=by
 have all:∀ (l:List Env),(∀ b∈L9 l,b∈X.fs)->X.s₀.heap.FunFrames X.base l->s.heap.FunFrames X.base l:=by
  intro l
  induction l with
  |nil=>intro _ _;trivial
  |cons env r i =>
   intro f j;obtain⟨k,⟨L,o,c,m,g,hd⟩,h⟩:=j;have a:L∈X.fs:=f L (by unfold L9;rw[List.filterMap_cons,c];exact mem_cons_self);obtain⟨n,e⟩:=I.base.slot L o g (I.ok.Oy L a) a λz=>I.ok.Nu L z a;exact⟨k,⟨L,_,c,m,e,hd⟩,i (λb d=>f b (by unfold L9;rw[List.filterMap_cons,c];exact mem_cons_of_mem _ d)) h⟩
 exact all X.outer (λ_ d=>d) I.ok.JG
theorem Inv.stack (I:Inv X pins σ H s):s.heap.FunFrames X.base X.stack:=by
 rcases I.ok.Rt with e |⟨e,b⟩
 ·rw[e];exact I.JG
 rw[e];obtain⟨m,a,_⟩:=I.loc;refine .cons (by rw[I.ok.kind];decide) b a ?_ I.JG;exact Heap.get?_none_of_le (Nat.le_trans I.ok.Nt I.ok.above)
theorem Inv.KP (I:Inv X pins σ H s):∀ b∈L9 X.stack,b∈X.env.locals::X.fs:=λb a=>by
 rcases I.ok.Rt with e |⟨e,c⟩
 ·rw[e] at a;exact mem_cons_of_mem _ a
 rw[e] at a;unfold L9 at a;rw[List.filterMap_cons,c] at a;exact a
theorem Inv.LM (I:Inv X pins σ H s):∀ b∈L9 X.stack,H b=none:=λb hb=>by
 rcases mem_cons.mp (I.KP b hb) with e |hb
 ·rw[e];exact I.free
 obtain⟨_,o,a,_⟩:=I.ok.JG.mem hb;exact I.base.free b o a (I.ok.Oy b hb) λz=>I.ok.Nu b z hb
theorem Inv.step {g':Array GenState}{t':Nat}{d':Drawn}{ch:List Addr}(I:Inv X pins σ H s)
  (B:∀ b∈ch,(b∈X.ex∨X.s₀.heap.objs.size<=b)/\b≠X.env.locals/\(∀ x c,X.env.cells.lookup x=some c->c≠b)/\∀ p∈X.pn++pins,p.1≠b)
  (keep:∀ b o,b≠X.env.locals->b∉X.fs->b∉ch->s.heap.get? b=some o->H b=none->h'.get? b=some o)
  (slot:∀ b o,b≠X.env.locals->b∈X.fs->b∉ch->s.heap.get? b=some o->H b=none->∃ E,h'.get? b=some { o with slots:=E }) (free:∀ b o,b∉ch->s.heap.get? b=some o->H b=none->H' b=none)
  (there:∀ b o,b∉ch->s.heap.get? b=some o->∃ y,h'.get? b=some y)
  (KN:∀ b xs,H b=some (.tup xs)->H' b=some (.tup xs)) (Km:∀ b o u,H b=some (.MA o u)->H' b=some (.MA o u)) (KO:∀ b C,H b=some (.Ow C)->∃ more,H' b=some (.Ow (C++more)))
  (ns:∀ m,s.heap.Ns X.env.locals m->h'.Ns X.env.locals m) (Hq:IY X.prog X.w H' h') (P:AllBare g') :
  Inv X pins σ H' { s with heap:=h',gens:=g',drawn:=d',toks:=t' }:=by
 have J:∀ b o,X.s₀.heap.get? b=some o->b≠X.env.locals:=λb o e=>ne_of_lt (lt_of_lt_of_le (Heap.lt_size e) I.ok.above)
 have D:∀ b o,X.s₀.heap.get? b=some o->b∉X.ex->b∉ch:=λb o e a h=>by
  rcases (B b h).1 with z |z
  ·exact a z
  exact absurd (lt_of_lt_of_le (Heap.lt_size e) z) (Nat.lt_irrefl _)
 have f:∀ x c,X.env.cells.lookup x=some c->∀ v,s.heap.IsCell c v->h'.IsCell c v:=λx c e v N=>by
  obtain⟨o,j,hd⟩:=N
  have t:c∉ch:=λz=>(B c z).2.2.1 x c e rfl;by_cases G:c∈X.fs
  ·obtain⟨E,q⟩:=slot c o (I.Oz x c e) G t j (I.IU x c e);exact⟨_,q,hd⟩
  exact⟨o,keep c o (I.Oz x c e) G t j (I.IU x c e),hd⟩
 refine⟨I.ok,I.os,P,⟨λb o e n h a=>?_,λb o e n h a=>?_,λb o e n a=>?_,λb o e a=>?_,λb xs e=>KN b xs (I.base.KN b xs e),λb o xs e=>Km b o xs (I.base.Km b o xs e),λb C e=>?_⟩,?_,λx c e=>?_,?_,λx c e=>?_,λp F=>?_,Hq,I.len⟩
 ·exact keep b o (J b o e) h (D b o e a) (I.base.keep b o e n h a) (I.base.free b o e n a)
 ·obtain⟨E,g⟩:=I.base.slot b o e n h a;obtain⟨O,A⟩:=slot b _ (J b o e) h (D b o e a) g (I.base.free b o e n a);exact⟨O,A⟩
 ·obtain⟨y,g⟩:=I.base.there b o e a;exact free b y (D b o e a) g (I.base.free b o e n a)
 ·obtain⟨y,g⟩:=I.base.there b o e a;exact there b y (D b o e a) g
 ·obtain⟨m1,g⟩:=I.base.KO b C e;obtain⟨m2,A⟩:=KO b _ g;exact⟨m1++m2,by rw[A,Array.append_assoc]⟩
 ·obtain⟨m,Q,M⟩:=I.loc;refine⟨m,ns m Q,λi x v g A L=>?_⟩;obtain⟨u,r,l⟩:=M i x v g A L;refine⟨u,r,?_⟩;rcases l with l |⟨k,c,e,z⟩
  ·exact .inl l
  exact .inr ⟨k,c,e,f x c e _ z⟩
 ·obtain⟨v,z⟩:=I.cell x c e;exact⟨v,f x c e v z⟩
 ·obtain⟨m,⟨o,_,_,j,_⟩,_⟩:=I.loc;exact free _ o (λz=>(B _ z).2.1 rfl) j I.free
 ·obtain⟨v,o,j,hd⟩:=I.cell x c e;exact free c o (λz=>(B c z).2.2.1 x c e rfl) j (I.IU x c e)
 obtain⟨e,n,ne,K,d⟩:=I.pin p F;have t:p.1∉ch:=λz=>(B p.1 z).2.2.2 p F rfl;exact⟨keep p.1 p.2 ne K t e n,free p.1 p.2 t e n,ne,K,d⟩
theorem Inv.un {t':Nat}(I:Inv X pins σ H s)(u:Un X.fs [] H H' s.heap h')(Hq:IY X.prog X.w H' h'):Inv X pins σ H' { s with heap:=h',toks:=t' }:=by
 obtain⟨m,⟨o,es,ep,c,r⟩,_⟩:=id I.loc;obtain⟨k,f⟩:=u.any c I.free (by simp)
 exact I.step (g':=s.gens) (d':=s.drawn) (ch:=[]) (λ_ z=>nomatch z) (λb o _ a _ e n=>u.keep b o e n a (by simp)) (λb o _ a _ e n=>u.slot b o e n a (by simp)) (λb o _ e n=>u.free b o e n (by simp)) (λb o _ e=>u.there b o e (by simp)) u.KN u.Km u.KO (λj i=>by
  obtain⟨l,JQ,g,d,h⟩:=i;rw[c] at d;cases d
  exact⟨_,JQ,g,f,h⟩) Hq I.bare
theorem Inv.call {g':Array GenState}{t':Nat}{d':Drawn}{ch:List Addr}(I:Inv X pins σ H s)(u:Un (L9 X.stack) ch H H' s.heap h')(Hq:IY X.prog X.w H' h')(l:AllBare g')
  (h:∀ b∈ch,(b∈X.ex∨X.s₀.heap.objs.size<=b)/\b≠X.env.locals/\(∀ x c,X.env.cells.lookup x=some c->c≠b)/\∀ p∈X.pn++pins,p.1≠b) :
  Inv X pins σ H' { s with heap:=h',gens:=g',drawn:=d',toks:=t' }:=by
 obtain⟨m,⟨o,es,ep,f,r⟩,_⟩:=id I.loc;obtain⟨v,d⟩:=u.any f I.free λz=>(h _ z).2.1 rfl
 exact I.step (ch:=ch) h (λb o d q a e n=>u.keep b o e n (λz=>(mem_cons.mp (I.KP b z)).elim d q) a) (λb o _ _ a e n=>u.any e n a) (λb o a e n=>u.free b o e n a) (λb o a e=>u.there b o e a) u.KN u.Km u.KO (λt k=>by
  obtain⟨y,JQ,i,g,j⟩:=k;rw[f] at g;cases g
  exact⟨_,JQ,i,d,j⟩) Hq l
theorem Inv.turned {t':Nat}{it:Addr}(I:Inv X pins σ H s)(k:∀ b o,b≠it->s.heap.get? b=some o->h'.get? b=some o)(t:H it=none)(d:it≠X.env.locals)
  (l:it∈X.ex∨X.s₀.heap.objs.size<=it) (h:∀ x c,X.env.cells.lookup x=some c->c≠it) (i:∀ p∈X.pn++pins,p.1≠it):Inv X pins σ H { s with heap:=h',toks:=t' }:=by
 have f:∀ b u,H b=some u->b≠it:=λb u e z=>by rw[z,t] at e;cases e
 refine I.step (g':=s.gens) (d':=s.drawn) (ch:=[it]) (λb w=>?_) (λb o _ _ a e _=>k b o (λz=>a (by simp[z])) e) (λb o _ _ a e _=>⟨o.slots,k b o (λz=>a (by simp[z])) e⟩) (λ_ _ _ _ n=>n)
  (λb o a e=>⟨o,k b o (λz=>a (by simp[z])) e⟩) (λ_ _ e=>e) (λ_ _ _ e=>e) (λb y e=>⟨#[],by rw[e];simp⟩) (λm j=>?_) (λb u e=>?_) I.bare
 ·have e:b=it:=by simpa using w
  subst e;exact⟨l,d,h,i⟩
 ·obtain⟨o,es,ep,g,r⟩:=j;exact⟨o,es,ep,k _ o (Ne.symm d) g,r⟩
 refine(I.Hq b u e).JP (λc v a q=>k c v ?_ q) (λ_ q=>q) λ_ _ q=>q;rcases a with z |z
 ·rw[z];exact f b u e
 exact f c _ z
theorem Inv.tok (I:Inv X pins σ H s)(t:Nat):Inv X pins σ H { s with toks:=t }:=I.un (h':=s.heap) (t':=t) Un.refl I.Hq
theorem Inv.kept {t':Nat}(I:Inv X pins σ H s)(k:∀ b u,s.heap.get? b=some u->h'.get? b=some u):Inv X pins σ H { s with heap:=h',toks:=t' }:=I.un (Un.kept k) (I.Hq.kept k)
theorem Inv.laid {a:Addr}{o:HO}{t':Nat}(I:Inv X pins σ H s)(k:∀ b u,s.heap.get? b=some u->h'.get? b=some u)(c:s.heap.objs.size<=a)(new:Hz X.prog X.w (upd H a o) h' a o) :
  Inv X pins σ (upd H a o) { s with heap:=h',toks:=t' }:=I.un (Un.laid k c (I.Hq.fresh c)) (I.Hq.laid k c new)
theorem Inv.write {x e:Addr}{o:HO}{t':Nat}(I:Inv X pins σ H s)(a:PL (H x))(c:e=x∨H e=some (.own x))(k:∀ b u,b≠e->s.heap.get? b=some u->h'.get? b=some u)(d:∃ u,h'.get? e=some u)
  (new:Hz X.prog X.w (upd H x o) h' x o):Inv X pins σ (upd H x o) { s with heap:=h',toks:=t' }:=I.un (Un.write a c k d) (I.Hq.write a c k d new)
theorem Inv.Jf {a:GX}(I:Inv X pins σ H s)(h:∀ p∈a,s.heap.get? p.1=some p.2/\H p.1=none/\p.1≠X.env.locals/\p.1∉X.fs/\∀ v,p.2.data≠.cell v):Inv X a σ H s:=
 ⟨I.ok,I.os,I.bare,I.base,I.loc,I.cell,I.free,I.IU,λp b=>(mem_append.mp b).elim (λz=>I.pin p (mem_append_left _ z)) (h p),I.Hq,I.len⟩
theorem rY {N:List Str}(c:N.Nodup){i j:Nat}{x:Str}(a:N[i]?=some x)(b:N[j]?=some x):i=j:=by obtain⟨f,d⟩:=List.getElem?_eq_some_iff.mp a;obtain⟨g,e⟩:=List.getElem?_eq_some_iff.mp b;exact(List.getElem_inj c).mp (d.trans e.symm)
theorem ki {M:Model}{A:Around}{E:GW}{i:Nat}{x:Str}{v:V}{u:Value}{Q:Unit->Shared->Prop}(I:Inv X pins σ H s)(hN:X.N.Nodup)(hi:X.N[i]?=some x)(l:Loc X.env.scope x)(r:RelV v u)
  (h:∀ s',Inv X pins (σ.set i (some v)) H s'->(∃ a,Heap.SameBut a s.heap s'.heap/\(a=X.env.locals∨X.env.cells.lookup x=some a))->Q () s') (hf:X.fn x=true∨X.env.scope.names.lookup x=some .local:=by first |exact .inl rfl |exact .inr rfl |assumption):wpAny M A (storeName X.env x u) Q E s:=by
 obtain⟨m,K,Y⟩:=id I.loc;have Sf:(X.env.scope.kind==.class ||(X.env.scope.kind==.module&&X.env.locals != X.env.globals))=false:=by rw[I.ok.kind];rfl
 have PV:i < σ.length:=by rw[I.len];exact(List.getElem?_eq_some_iff.mp hi).1
 have Oz:=I.Oz
 have tracked:∀ {a:Addr}{h':Heap},(∃ o,s.heap.get? a=some o/\H a=none)->Heap.SameBut a s.heap h'->IY X.prog X.w H h':=λ{a h'} ha f b ob e=>by
  obtain⟨_,_,Z⟩:=ha;refine(I.Hq b ob e).JP (λc F hc q=>(f.2 c ?_).trans q) (λ_ q=>q) λ_ _ q=>q;rintro rfl;rcases hc with rfl |hc
  ·rw[Z] at e;cases e
  rw[Z] at hc;cases hc
 rcases l with hk |hk
 ·refine wpAny_storeName_local hk K (λh' VJ f=>?_) Sf;obtain⟨oL,_,_,Ma,_⟩:=id K;refine h _ ⟨I.ok,I.os,I.bare,⟨λb o e n B l=>?_,λb o e n B l=>?_,I.base.free,λb o e l=>?_,I.base.KN,I.base.Km,I.base.KO⟩,⟨_,VJ,λj y O g t S=>?_⟩,λy c e=>?_,I.free,I.IU,λp L=>?_,tracked ⟨oL,Ma,I.free⟩ f,by simpa using I.len⟩ ⟨_,f,.inl rfl⟩
  ·exact(f.2 b (ne_of_lt (lt_of_lt_of_le (Heap.lt_size e) I.ok.above))).trans (I.base.keep b o e n B l)
  ·obtain⟨T,g⟩:=I.base.slot b o e n B l;exact⟨T,(f.2 b (ne_of_lt (lt_of_lt_of_le (Heap.lt_size e) I.ok.above))).trans g⟩
  ·obtain⟨U,g⟩:=I.base.there b o e l;exact⟨U,(f.2 b (ne_of_lt (lt_of_lt_of_le (Heap.lt_size e) I.ok.above))).trans g⟩
  ·by_cases C:j=i
   ·subst C;rw[hi] at g;cases g;rw[getElem?_set_self PV] at t;cases t;exact⟨u,r,.inl ⟨hk,by simp⟩⟩
   rw[getElem?_set_ne (Ne.symm C)] at t;obtain⟨G,P,q⟩:=Y j y O g t S;refine⟨G,P,?_⟩;rcases q with ⟨k,e⟩ |⟨k,c,e,z⟩
   ·refine .inl ⟨k,?_⟩;have:y≠x:=λe=>C (rY hN g (e▸hi));simp[this,e]
   exact .inr ⟨k,c,e,z.sameBut f (Oz y c e)⟩
  ·obtain⟨F,z⟩:=I.cell y c e;exact⟨F,z.sameBut f (Oz y c e)⟩
  obtain⟨e,n,ne,J,d⟩:=I.pin p L;exact⟨(f.2 p.1 ne).trans e,n,ne,J,d⟩
 have R:X.fn x=true:=by
  rcases hf with z |z
  ·exact z
  rw[z] at hk;cases hk
 obtain⟨c,hc⟩:=I.ok.has x (.inl hk);obtain⟨F,z⟩:=I.cell x c hc;refine wpAny_storeName_cell I.ok.kind hk hc z (λh' K7 f=>?_);obtain⟨W,Ul,Sj⟩:=id z;refine h { s with heap:=h' } ⟨I.ok,I.os,I.bare,⟨λb o e n B l=>?_,λb o e n B l=>?_,I.base.free,λb o e l=>?_,I.base.KN,I.base.Km,I.base.KO⟩,⟨m,K.sameBut f (Ne.symm (Oz x c hc)),λj y O g t S=>?_⟩,λy D e=>?_,I.free,I.IU,λp L=>?_,tracked ⟨W,Ul,I.IU x c hc⟩ f,by simpa using I.len⟩ ⟨c,f,.inr hc⟩
 ·exact(f.2 b (ne_of_lt (lt_of_lt_of_le (Heap.lt_size e) (I.ok.PR x c R hc)))).trans (I.base.keep b o e n B l)
 ·obtain⟨T,g⟩:=I.base.slot b o e n B l;exact⟨T,(f.2 b (ne_of_lt (lt_of_lt_of_le (Heap.lt_size e) (I.ok.PR x c R hc)))).trans g⟩
 ·obtain⟨U,g⟩:=I.base.there b o e l;exact⟨U,(f.2 b (ne_of_lt (lt_of_lt_of_le (Heap.lt_size e) (I.ok.PR x c R hc)))).trans g⟩
 ·by_cases C:j=i
  ·subst C;rw[hi] at g;cases g;rw[getElem?_set_self PV] at t;cases t;exact⟨u,r,.inr ⟨.inl hk,c,hc,K7⟩⟩
  rw[getElem?_set_ne (Ne.symm C)] at t;obtain⟨G,P,q⟩:=Y j y O g t S;refine⟨G,P,?_⟩;rcases q with q |⟨k,D,e,z'⟩
  ·exact .inl q
  refine .inr ⟨k,D,e,z'.sameBut f ?_⟩;rintro rfl;exact C (rY hN g (I.ok.inj _ _ _ e hc▸hi))
 ·by_cases MB:D=c
  ·subst MB;exact⟨_,K7⟩
  obtain⟨w2,z2⟩:=I.cell y D e;exact⟨w2,z2.sameBut f MB⟩
 obtain⟨e,n,ne,J,d⟩:=I.pin p L;refine⟨(f.2 p.1 ?_).trans e,n,ne,J,d⟩;intro q;rw[q,Ul] at e;have q':W=p.2:=Option.some.inj e;exact d F (by rw[← q'];exact Sj)
theorem mI {M:Model}{A:Around}{E:GW}{i:Nat}{x:Str}{v:V}{u:Value}{Q:Unit->Shared->Prop}(I:Inv X pins σ H s)(b:X.N.Nodup)(hi:X.N[i]?=some x)(a:Loc X.env.scope x)(r:RelV v u)
  (h:∀ s',Inv X pins (σ.set i (some v)) H s'->Q () s') (d:X.fn x=true∨X.env.scope.names.lookup x=some .local:=by first |exact .inl rfl |exact .inr rfl |assumption):wpAny M A (storeName X.env x u) Q E s:=
 ki I b hi a r (λs' c _=>h s' c) d
theorem Inv.PX {s':Shared}{ch:List Addr}(I:Inv X pins σ H s)(d:s'.os=s.os)(u:Un (L9 X.stack) ch H H' s.heap s'.heap)(Hq:IY X.prog X.w H' s'.heap)(f:AllBare s'.gens)
  (g:∀ b∈ch,(b∈X.ex∨X.s₀.heap.objs.size<=b)/\b≠X.env.locals/\(∀ x c,X.env.cells.lookup x=some c->c≠b)/\∀ p∈X.pn++pins,p.1≠b):Inv X pins σ H' s':=by
 obtain⟨h',g',d',t',a⟩:=s';have e:a=s.os:=d;subst e;exact I.call (g':=g') (t':=t') (d':=d') u Hq f g
end
abbrev XK:=Value->Option Addr->Hp->Prop
abbrev St:=List (Option V)
abbrev VK:=V->Hp->Prop
abbrev TE:=St->Hp->VK->Prop
abbrev TT:=St->Hp->(Bool->Hp->Prop)->Prop
abbrev TA:=St->Hp->(List V->Hp->Prop)->Prop
structure Ends where
 nx:St->Hp->Prop
 rt:VK
 bk:St->Hp->Prop:=λ_ _=>False
 ct:St->Hp->Prop:=λ_ _=>False
abbrev TS:=Ends->St->Hp->Prop
def EP (X:Cx)(a:GX)(c:St)(Q:VK)(u:Value)(s':Shared):Prop:=∃ v b,Inv X a c b s'/\RelV v u/\Q v b
def TP (X:Cx)(a:GX)(d:St)(Q:Bool->Hp->Prop)(b:Bool)(s':Shared):Prop:=∃ c,Inv X a d c s'/\Q b c
def AP (X:Cx)(a:GX)(d:St)(Q:List V->Hp->Prop)(us:List Value)(s':Shared):Prop:=∃ c b,Inv X a d b s'/\Vals c us/\Q c b
def SP (X:Cx)(b:GX)(D:Ends)(f:Flow)(s':Shared):Prop:=
 match f with
 | .next => ∃ a c,Inv X b a c s'/\D.nx a c
 | .brk => ∃ a c,Inv X b a c s'/\D.bk a c
 | .cont => ∃ a c,Inv X b a c s'/\D.ct a c
 | .ret u => ∃ v a c,Inv X b a c s'/\RelV v u/\D.rt v c
def PE (X:Cx)(e:Expr)(t:TE):Prop:=
 ∀ (a:GX) (s:Shared) (b:St) (H:Hp) (Q:VK),Inv X a b H s->t b H Q->wpAny (model X.prog X.w) X.A (eval e X.env) (EP X a b Q) X.xe s
def PT (X:Cx)(e:Expr)(t:TT):Prop:=
 ∀ (a:GX) (s:Shared) (b:St) (H:Hp) (Q:Bool->Hp->Prop),Inv X a b H s->t b H Q->wpAny (model X.prog X.w) X.A (isTrue e X.env (eval e X.env)) (TP X a b Q) X.xe s
def PW (X:Cx)(e:Expr)(t:TT):Prop:=
 ∀ (whole:Sem Value) (a:GX) (s:Shared) (b:St) (H:Hp) (Q:Bool->Hp->Prop),Inv X a b H s->t b H Q->wpAny (model X.prog X.w) X.A (isTrue e X.env whole) (TP X a b Q) X.xe s
theorem PW.pt {X:Cx}{e:Expr}{t:TT}(h:PW X e t):PT X e t:=h _
def PA (X:Cx)(es:List Expr)(t:TA):Prop:=
 ∀ (pos:Pos) (a:GX) (s:Shared) (b:St) (H:Hp) (Q:List V->Hp->Prop),Inv X a b H s->t b H Q->wpAny (model X.prog X.w) X.A (spliced (backTo pos (starEach es X.env))) (AP X a b Q) X.xe s
def PS (X:Cx)(st:Stmt)(t:TS):Prop:=
 ∀ (a:GX) (s:Shared) (b:St) (H:Hp) (D:Ends),Inv X a b H s->t D b H->wpAny (model X.prog X.w) X.A (exec st X.env) (SP X a D) X.xe s
def Lp (X:Cx)(st:List Stmt)(t:TS):Prop:=
 ∀ (a:GX) (s:Shared) (b:St) (H:Hp) (D:Ends),Inv X a b H s->t D b H->wpAny (model X.prog X.w) X.A (execs st X.env) (SP X a D) X.xe s
theorem Hk {α:Type}{t:Sem α}{Q b : α->Shared->Prop}{M:Model}{A:Around}{E:GW}{s:Shared}(h:wpAny M A t Q E s)(c:∀ a s,Q a s->b a s):wpAny M A t b E s:=wpAny_mono h c λ_ _ x=>x
section
variable {X:Cx}
theorem bin {a b:Expr}{n m:TE}(o:PE X a n)(D:PE X b m){c:GX}{s:Shared}{d:St}{H:Hp}{R:V->V->Hp->Prop}(I:Inv X c d H s)(h:n d H λx l=>m d l λy e=>R x y e)
  {α:Type}{Q : α->Shared->Prop}{f:Value->Value->Sem α}
  (t:∀ v u j x y e,Inv X c d e j->RelV x v->RelV y u->R x y e->wpAny (model X.prog X.w) X.A (f v u) Q X.xe j) :
  wpAny (model X.prog X.w) X.A (eval a X.env) (λv i=>wpAny (model X.prog X.w) X.A (eval b X.env) (λu g=>wpAny (model X.prog X.w) X.A (f v u) Q X.xe g) X.xe i) X.xe s:=by
 refine Hk (o c s d H _ I h) λv p k=>?_;obtain⟨x,l,z,q,B⟩:=k;refine Hk (D c p d l _ z B) λu j k=>?_;obtain⟨y,e,r,C,E⟩:=k;exact t v u j x y e r q C E
def Eb (i:Nat):TE:=λa H Q => ∃ v,a[i]?=some (some v)/\Q v H
def tC (v:V):TE:=λ_ H Q=>Q v H
theorem zj {i:Nat}{x:Str}{pos:Pos}(j:X.N[i]?=some x)(k:PQ X.env.scope x)(hd:(x==("__debug__":Str))=false:=by decide)(n:(x==("__classdict__":Str))=false:=by decide):PE X (.Name x pos) (Eb i):=by
 intro a s f H Q I h;obtain⟨v,e,h⟩:=h;obtain⟨m,o,g⟩:=I.loc;obtain⟨u,r,l⟩:=g i x v j e k;have fin:EP X a f Q u s:=⟨v,H,I,r,h⟩;rcases l with ⟨hk,p⟩ |⟨hk,c,b,d⟩
 ·exact wpAny_Name (wpAny_loadName_local I.ok.kind hk o p fin) hd
 rcases hk with hk |hk
 ·exact wpAny_Name (wpAny_loadName_cell I.ok.kind hk b d fin) hd
 exact wpAny_Name (wpAny_loadName_free I.ok.kind hk b d fin n) hd
theorem OA {i j pos}:PE X (.Constant (.int i) j pos) (tC (.int i)):=λ_ _ _ H _ I h=>wpAny_Constant_int ⟨.int i,H,I.tok _,⟨_,rfl⟩,h⟩
theorem PY {b j pos}:PE X (.Constant (.bool b) j pos) (tC (.bl b)):=λ_ _ _ H _ I h=>Constant_bool ⟨.bl b,H,I,rfl,h⟩
theorem OB {j pos}:PE X (.Constant .none j pos) (tC .Ho):=λ_ _ _ H _ I h=>Constant_none ⟨.Ho,H,I,rfl,h⟩
theorem OC {x j pos}:PE X (.Constant (.str x) j pos) (tC (.str x)):=λ_ _ _ H _ I h=>Calls.Constant_str ⟨.str x,H,I.tok _,⟨_,rfl⟩,h⟩
def Gl (X:Cx)(x:Str):Prop:=X.env.kindOf x=some .globalImplicit
theorem wn {E:GW}{a:GX}{s:Shared}{b:St}{H:Hp}{x:Str}{u:Value}{pos:Pos}{Q:GW}(I:Inv X a b H s)(d:Gl X x)(c:X.mg x=some u)(h:Q u s)
  (hd:(x==("__debug__":Str))=false:=by decide):wpAny (model X.prog X.w) X.A (eval (.Name x pos) X.env) Q E s:=
 Calls.Name_function_global I.ok.kind d (Calls.loadGlobal_global (by rw[I.ok.glob];exact I.mod.glob.keeps I.bk) c h) hd
theorem i4 {E:GW}{a:GX}{s:Shared}{b:St}{H:Hp}{x:Str}{u:Value}{pos:Pos}{Q:GW}(I:Inv X a b H s)(e:Gl X x)(i:X.mg x=none)(d:bootBuiltins x=some u)(h:Q u s)
  (g:x≠"__name__":=by decide) (hd:(x==("__debug__":Str))=false:=by decide):wpAny (model X.prog X.w) X.A (eval (.Name x pos) X.env) Q E s:=by
 obtain⟨j,f,c⟩:=I.mod.blt;exact Calls.Name_function_global I.ok.kind e (Calls.loadGlobal_builtin (by rw[I.ok.glob];exact I.mod.glob.keeps I.bk) i (by rw[I.ok.blt];exact f.keeps I.bk) ((c x g).trans d) h) hd
variable {a b:Expr}{ta tb:TE}{pos:Pos}
def PC (X:Cx)(op:CmpOp)(a b:Expr)(t:TE):Prop:=
 ∀ (c:GX) (s:Shared) (f:St) (H:Hp) (Q:VK),Inv X c f H s->t f H Q ->
  wpAny (model X.prog X.w) X.A (eval a X.env) (λv d=>wpAny (model X.prog X.w) X.A (eval b X.env) (λu e=>wpAny (model X.prog X.w) X.A (compareOp op v u) (EP X c f Q) X.xe e) X.xe d) X.xe s
theorem rZ (b:Expr){op:CmpOp}(h:op≠.In)(c:op≠.NotIn):behindInMarks op b=false:=by
 have a:(op==CmpOp.In)=false:=by cases op<;>first |rfl |exact absurd rfl h
 have d:(op==CmpOp.NotIn)=false:=by cases op<;>first |rfl |exact absurd rfl c
 cases b<;>simp[behindInMarks,a,d]
def tB (t:TE):TT:=λa H Q=>t a H λx b => ∃ c,x = .bl c/\Q c b
theorem Da {op:CmpOp}{t:TE}(h:PC X op a b t)(e:behindInMarks op b=false:=by first |exact rZ _ (by decide) (by decide) |rfl):PE X (.Compare a [op] [b] pos) t:=λc s f H Q I d=>wpAny_Compare1 (h c s f H Q I d) e
theorem yY {op:CmpOp}{t:TE}(h:PC X op a b t)(f:behindInMarks op b=false:=by first |exact rZ _ (by decide) (by decide) |rfl):PT X (.Compare a [op] [b] pos) (tB t):=by intro e s g H Q I k;refine wpAny_isTrue_Compare1 (Hk (h e s g H _ I k) λv p f=>Hk f λu w i=>Hk i λc r l=>?_) f;obtain⟨x,o,m,j,n⟩:=l;obtain⟨d,rfl,q⟩:=n;cases j;exact wpAny_truthy_bool ⟨o,m,q⟩
theorem CV {e:Expr}{t:TE}(h:PE X e t)(i:∀ whole,isTrue e X.env whole=(do let v ← whole;standAt e.pos;holding [v] (truthy v)):=by intro _;rfl):PT X e (tB t):=by intro a s b H Q I f;refine isTrue_plain (Hk (h a s b H _ I f) λv m g=>?_) (i _);obtain⟨x,l,j,c,k⟩:=g;obtain⟨d,rfl,q⟩:=k;cases c;exact wpAny_truthy_bool ⟨l,j,q⟩
variable {tA Rv:TT}{rest:List Expr}
def FD (t u:TT):TT:=λa H Q=>t a H λc b=>if c=true then u a b Q else Q false b
def VL (t u:TT):TT:=λa H Q=>t a H λc b=>if c=true then Q true b else u a b Q
def Fw (t:TT):TT:=λa H Q=>t a H λc b=>Q (!c) b
theorem Bd (d:PT X a tA):PW X (.BoolOp .And [a] pos) tA:=by
 intro i b s f H Q I h;refine isTrue_and (Hk (d b s f H Q I h) λc g e=>?_);cases c with
 |true=>exact isTrue_and_nil e
 |false=>exact e
theorem CQ (d:PT X a tA):PW X (.BoolOp .Or [a] pos) tA:=by
 intro i b s f H Q I h;refine isTrue_or (Hk (d b s f H Q I h) λc g e=>?_);cases c with
 |false=>exact isTrue_or_nil e
 |true=>exact e
theorem CS (j:PT X a tA)(n:PW X (.BoolOp .And (b::rest) pos) Rv):PW X (.BoolOp .And (a::b::rest) pos) (FD tA Rv):=by
 intro l d s e H Q I h;refine isTrue_and (Hk (j d s e H _ I h) λc k m=>?_);obtain⟨i,f,g⟩:=m;cases c with
 |true=>exact n l d k e i Q f g
 |false=>exact⟨i,f,g⟩
theorem Et (j:PT X a tA)(n:PW X (.BoolOp .Or (b::rest) pos) Rv):PW X (.BoolOp .Or (a::b::rest) pos) (VL tA Rv):=by
 intro l d s e H Q I h;refine isTrue_or (Hk (j d s e H _ I h) λc k m=>?_);obtain⟨i,f,g⟩:=m;cases c with
 |true=>exact⟨i,f,g⟩
 |false=>exact n l d k e i Q f g
theorem CW (d:PT X a tA):PT X (.UnaryOp .Not a pos) (Fw tA):=by intro b s e H Q I h;exact isTrue_not (d b s e H (λc f=>Q (!c) f) I h)
def VM (t:TT)(ta tb:TE):TE:=λa H Q=>t a H λc b=>if c=true then ta a b Q else tb a b Q
theorem zn {c:Expr}(m:PT X c tA)(l:PE X a ta)(o:PE X b tb):PE X (.IfExp c a b pos) (VM tA ta tb):=by
 intro e s f H Q I h;refine wpAny_IfExp (Hk (m e s f H _ I h) λd g n=>?_);obtain⟨k,i,j⟩:=n;cases d with
 |true=>exact l e g f k Q i j
 |false=>exact o e g f k Q i j
end
def Ki (K:GV)(H:Hp)(a:Addr)(xs:List V):Prop:=
 Rd H a (.lst xs) ∨
  ∃ (o:Obj) (its:Array Value) (n:Nat),K.lookup a=some o/\o.cls = .type "list"/\o.dict=none/\o.data = .seq its n/\its.size<=sizeLine/\Vals xs its.toList
def Kn (K:GV)(H:Hp)(a:Addr)(xs:List V):Prop:=
 Rd H a (.tup xs) ∨
  ∃ (o:Obj) (its:Array Value) (n:Nat),K.lookup a=some o/\o.cls = .type "tuple"/\o.data = .seq its n/\its.size<=sizeLine/\Vals xs its.toList
def Ge:Value->Option V
 | .none=>some .Ho
 | .bool b=>some (.bl b)
 | .int i _=>some (.int i)
 | .str x _=>some (.str x)
 | .bytes b _=>some (.Rq b)
 | .float b _=>some (.Ph b)
 | .ref a=>some (.ref a)
 | .type n=>some (.ty n)
 |_=>none
theorem RelV.abs {x:V}{u:Value}(r:RelV x u):Ge u=some x:=by
 cases x with
 |Ho=>cases r;rfl
 |bl _=>cases r;rfl
 |int _=>obtain⟨t,rfl⟩:=r;rfl
 |str _=>obtain⟨t,rfl⟩:=r;rfl
 |Rq _=>obtain⟨t,rfl⟩:=r;rfl
 |Ph _=>obtain⟨t,rfl⟩:=r;rfl
 |ref _=>cases r;rfl
 |ty _=>cases r;rfl
theorem RelV.inj {x y:V}{u:Value}(r:RelV x u)(q:RelV y u):x=y:=Option.some.inj (r.abs.symm.trans q.abs)
theorem Vals.inj:∀ {xs ys:List V}{us:List Value},Vals xs us->Vals ys us->xs=ys
 |_,_,_,.nil,.nil=>rfl
 |_,_,_,.cons r t,.cons b a=>by rw[r.inj b,Vals.inj t a]
section
variable {X:Cx}{pins:GX}{σ:St}{H:Hp}{s:Shared}{a:Addr}{xs ys:List V}
theorem Inv.list (I:Inv X pins σ H s)(h:Ki X.K H a xs):∃ its:List Value,Vals xs its/\PlainL s.heap a its.toArray/\xs.length<=sizeLine:=by
 rcases h with h |⟨o,its,n,b,c,hd,d,f,r⟩
 ·obtain⟨z,its,n,r,e⟩:=h.ok I.Hq;exact⟨its,r,⟨_,n,e,rfl,rfl,rfl⟩,z⟩
 refine⟨its.toList,r,⟨o,n,I.L_ a o b,c,hd,by simpa using d⟩,?_⟩;have e:=r.length;simp only[length_toList] at e;omega
theorem Inv.tuple (I:Inv X pins σ H s)(h:Kn X.K H a xs):∃ its:List Value,Vals xs its/\IsTup s.heap a its.toArray/\xs.length<=sizeLine:=by
 rcases h with h |⟨o,its,n,b,c,d,f,r⟩
 ·obtain⟨z,its,r,p⟩:=h.ok I.Hq;exact⟨its,r,p.tup,z⟩
 refine⟨its.toList,r,⟨o,I.L_ a o b,c,n,by simpa using d⟩,?_⟩;have e:=r.length;simp only[length_toList] at e;omega
theorem Inv.JR (I:Inv X pins σ H s)(h:Ki X.K H a xs)(h':Ki X.K H a ys):xs=ys:=by
 obtain⟨its,r,⟨o,n,e,_,_,d⟩,_⟩:=I.list h;obtain⟨b,i,⟨j,k,c,_,_,f⟩,_⟩:=I.list h';rw[e] at c;cases c;rw[d] at f;injection f with g _
 have:its=b:=by simpa using congrArg Array.toList g
 subst this;exact r.inj i
theorem Inv.Jo (I:Inv X pins σ H s)(h:Kn X.K H a xs)(h':Kn X.K H a ys):xs=ys:=by
 obtain⟨its,r,⟨o,e,_,n,d⟩,_⟩:=I.tuple h;obtain⟨b,i,⟨j,c,_,k,f⟩,_⟩:=I.tuple h';rw[e] at c;cases c;rw[d] at f;injection f with g _
 have:its=b:=by simpa using congrArg Array.toList g
 subst this;exact r.inj i
end
abbrev Cx.Ko (X:Cx)(E:GW):Cx:={ X with xe:=E }
abbrev Cx.Nh (X:Cx):Cx:=X.Ko λ_ _=>False
theorem Cx.Ok.Ko {X:Cx}(ok:X.Ok)(E:GW):(X.Ko E).Ok:=
 ⟨ok.mod,ok.kind,ok.glob,ok.blt,ok.above,ok.inj,ok.has,ok.PR,ok.hd,ok.frames,ok.Rt,ok.Uh,ok.bs,ok.Nt,ok.MR,ok.Nu,ok.JG,ok.Oy⟩
theorem Cx.Ok.IC {X:Cx}{E:GW}(ok:(X.Ko E).Ok):X.Ok:=
 ⟨ok.mod,ok.kind,ok.glob,ok.blt,ok.above,ok.inj,ok.has,ok.PR,ok.hd,ok.frames,ok.Rt,ok.Uh,ok.bs,ok.Nt,ok.MR,ok.Nu,ok.JG,ok.Oy⟩
section
variable {X:Cx}{pins:GX}{σ:St}{H:Hp}{s:Shared}{E:GW}
theorem Inv.Ko (I:Inv X pins σ H s)(E:GW):Inv (X.Ko E) pins σ H s:=⟨I.ok.Ko E,I.os,I.bare,I.base,I.loc,I.cell,I.free,I.IU,I.pin,I.Hq,I.len⟩
theorem Inv.IC (I:Inv (X.Ko E) pins σ H s):Inv X pins σ H s:=⟨I.ok.IC,I.os,I.bare,I.base,I.loc,I.cell,I.free,I.IU,I.pin,I.Hq,I.len⟩
theorem SP.IC {D:Ends}{f:Flow}{s':Shared}(h:SP (X.Ko E) pins D f s'):SP X pins D f s':=by
 cases f with
 |next=>obtain⟨a,b,I,q⟩:=h;exact⟨a,b,I.IC,q⟩
 |brk=>obtain⟨a,b,I,q⟩:=h;exact⟨a,b,I.IC,q⟩
 |cont=>obtain⟨a,b,I,q⟩:=h;exact⟨a,b,I.IC,q⟩
 |ret u=>obtain⟨v,a,b,I,r,q⟩:=h;exact⟨v,a,b,I.IC,r,q⟩
theorem Lp.Nh {st:List Stmt}{t:TS}(h:Lp X.Nh st t):Lp X st t:=λpins s σ H D I a =>
 wpAny_mono (h pins s σ H D (I.Ko _) a) (λ_ _ q=>q.IC) λ_ _ z=>False.elim z
end
section
variable {X:Cx}{st:Stmt}{rest:List Stmt}{t u:TS}{e:Expr}{te:TE}{pos:Pos}
def Ee:TS:=λD a H=>D.nx a H
def Ec (t u:TS):TS:=λD a H=>t { D with nx:=u D } a H
theorem Nv:Lp X [] Ee:=λ_ _ a H _ I h=>wpAny_execs_nil ⟨a,H,I,h⟩
theorem yZ (j:PS X st t)(g:Lp X rest u):Lp X (st::rest) (Ec t u):=by
 intro a s d H D I h;refine wpAny_execs_cons (Hk (j a s d H { D with nx:=u D } I h) λf e q=>?_);cases f with
 |next =>
  obtain⟨b,i,c,q⟩:=q;exact g a e b i D c q
 |ret v=>exact q
 |brk=>exact q
 |cont=>exact q
theorem Bf (b:PS X st t):Lp X [st] t:=by
 intro a s c H D I h;refine wpAny_execs_cons (Hk (b a s c H D I h) λf d q=>?_);cases f with
 |next=>exact wpAny_execs_nil q
 |ret v=>exact q
 |brk=>exact q
 |cont=>exact q
theorem Inv.quiet {a:GX}{b:St}{H:Hp}{s:Shared}(I:Inv X a b H s):interactive X.env=false:=by simp[interactive,I.ok.kind]
def Eh (te:TE):TS:=λD a H=>te a H λ_ b=>D.nx a b
theorem Bh (f:PE X e te)(i:swapsWith e none pos.line X.env=pure false:=by rfl):PS X (.Expr e pos) (Eh te):=by intro a s b H D I h;exact wpAny_Expr_any (Hk (f a s b H _ I h) λv j ⟨x,c,d,k,g⟩=>⟨b,c,d,g⟩) I.quiet i
def Fv (te:TE):TS:=λD a H=>te a H D.rt
theorem CZ (d:PE X e te):PS X (.Return (some e) pos) (Fv te):=by intro a s b H D I h;exact wpAny_Return_some (Hk (d a s b H _ I h) λv j ⟨x,i,c,g,f⟩=>⟨x,b,i,c,g,f⟩)
def Fy (c:TT)(t u:TS):TS:=λD a H=>c a H λb d=>if b=true then t D a d else u D a d
theorem Eu {c:Expr}{a b:List Stmt}{l:TT}(n:PT X c l)(m:Lp X a t)(p:Lp X b u):PS X (.If c a b pos) (Fy l t u):=by
 intro e s f H D I h;refine wpAny_If (Hk (n e s f H _ I h) λd g o=>?_);obtain⟨k,i,j⟩:=o;cases d with
 |true=>exact m e g f k D i j
 |false=>exact p e g f k D i j
end
abbrev TG:=V->St->Hp->(St->Hp->Prop)->Prop
abbrev Nw:=List V->St->Hp->(St->Hp->Prop)->Prop
def PG (X:Cx)(target:Expr)(t:TG):Prop:=
 ∀ (a:GX) (s:Shared) (d:St) (H:Hp) (v:V) (u:Value) (Q:St->Hp->Prop),Inv X a d H s->RelV v u->t v d H Q ->
  wpAny (model X.prog X.w) X.A (assign target X.env u) (λ_ e => ∃ b c,Inv X a b c e/\Q b c) X.xe s
def NZ (X:Cx)(ts:List Expr)(t:Nw):Prop:=
 ∀ (a:GX) (s:Shared) (f:St) (H:Hp) (e:List V) (d:List Value) (Q:St->Hp->Prop),Inv X a f H s->Vals e d->t e f H Q ->
  wpAny (model X.prog X.w) X.A (assignInOrder ((assignEach ts X.env).map (·.2)) d) (λ_ g => ∃ b c,Inv X a b c g/\Q b c) X.xe s
abbrev AD:=V->V->V->Hp->(Hp->Prop)->Prop
def D1 (X:Cx)(t:AD):Prop:=
 ∀ (a:GX) (s:Shared) (d:St) (H:Hp) (o i v:V) (e c u:Value) (Q:Hp->Prop),Inv X a d H s->RelV o e->RelV i c->RelV v u->t o i v H Q ->
  wpAny (model X.prog X.w) X.A (setItem e c u) (λ_ f => ∃ b,Inv X a d b f/\Q b) X.xe s
abbrev OD:=V->V->Hp->VK->Prop
def Rw (X:Cx)(op:Operator)(t:OD):Prop:=
 ∀ (a:GX) (s:Shared) (b:St) (H:Hp) (x y:V) (v u:Value) (Q:VK),Inv X a b H s->RelV x v->RelV y u->t x y H Q ->
  wpAny (model X.prog X.w) X.A (inplaceOp op v u) (EP X a b Q) X.xe s
section
variable {X:Cx}{pos:Pos}
def Cm (i:Nat):TG:=λv a H Q=>Q (a.set i (some v)) H
theorem Bp {i:Nat}{x:Str}(c:X.N.Nodup)(hi:X.N[i]?=some x)(d:Loc X.env.scope x)(e:X.fn x=true∨X.env.scope.names.lookup x=some .local:=by first |exact .inl rfl |exact .inr rfl |assumption):PG X (.Name x pos) (Cm i):=by intro a s f H v u Q I r h;exact wpAny_assign_Name (mI I c hi d r (λg b=>⟨_,H,b,h⟩) e)
def FS:Nw:=λb a H Q=>b=[]/\Q a H
def EW (t:TG)(u:Nw):Nw:=λc d H Q => ∃ v r,c=v::r/\t v d H λa b=>u r a b Q
theorem Nx:NZ X [] FS:=by intro a s b H d c Q I r h;obtain⟨e,h⟩:=h;subst e;cases r;exact assignInOrder_nil ⟨b,H,I,h⟩
theorem zb {e:Expr}{es:List Expr}{t:TG}{u:Nw}(o:PG X e t)(f:NZ X es u)
  (g:(assignEach (e::es) X.env).map (·.2)=assign e X.env::(assignEach es X.env).map (·.2):=by rfl):NZ X (e::es) (EW t u):=by
 intro a s c H w p Q I r h;obtain⟨v,q,k,h⟩:=h;subst k;cases r with
 |cons r j =>
  rw[g];refine assignInOrder_cons (Hk (o a s c H _ _ _ I r h) λ_ d i=>?_);obtain⟨b,n,l,m⟩:=i;exact f a d b n _ _ Q l j m
def FP (K:GV)(n:Nat)(t:Nw):TG:=λv c H Q => ∃ a b,v = .ref a/\Kn K H a b/\b.length=n/\t b c H Q
theorem C7 {es:List Expr}{k:Nat}{t:Nw}{n:Nat}(i:X.calm=true)(h:NZ X es t)
  (A:(assignEach es X.env).length=n:=by rfl) (p:(assignEach es X.env).findIdx? (·.1)=none:=by rfl):PG X (.Tuple es k pos) (FP X.K n t):=by
 intro c s f H v u Q I r d;obtain⟨a,y,w,m,l,d⟩:=d;subst w;cases r;obtain⟨its,g,z,B⟩:=I.tuple m;refine assign_Tuple_tuple (I.ok.hd i) z (by simp[A,← l,g.length]) p λj q=>?_;have x:Inv X c f H { s with heap:=j }:=I.kept (t':=s.toks) λb o e=>q b o (ne_of_lt (Heap.lt_size e)) e;exact h c _ f H y _ Q x (by simpa using g) d
def FQ (to d:TE)(t:AD):TG:=λv a H Q=>to a H λo e=>d a e λi b=>t o i v b λc=>Q a c
theorem C8 {o i:Expr}{to f:TE}{t:AD}(k:PE X o to)(hi:PE X i f)(n:D1 X t)
  (j:∀ v,assign (.Subscript o i pos) X.env v=(do
   let b ← holding [v] (eval o X.env);let c ← holding [v,b] (eval i X.env)
   standAt pos
   holding [v,b,c] (setItem b c v)
   release [v,b,c] []):=by intro _;rfl):PG X (.Subscript o i pos) (FQ to f t):=by
 intro a s e H v u Q I r h;rw[j];refine wpAny_bind (wpAny_holding (Hk (k a s e H _ I h) λb l d=>?_));obtain⟨x,C,z,m,A⟩:=d;refine wpAny_bind (wpAny_holding (Hk (hi a l e C _ z A) λc D d=>?_));obtain⟨y,w,p,B,E⟩:=d;refine wpAny_bind (wpAny_standAt (wpAny_bind (wpAny_holding (Hk (n a D e w x y v b c u _ p m B r E) λ_ G d=>?_))));obtain⟨q,g,F⟩:=d;exact wpAny_release ⟨e,q,g,F⟩
def Ek (b:TE)(g:TG):TS:=λD a H=>b a H λx c=>g x a c D.nx
theorem y6 {b e:Expr}{d:TE}{g:TG}(m:PE X e d)(p:PG X b g)(j:swapsWithSole [b] e pos.line X.env=pure false:=by rfl)(k:swappedStores [b] e X.env=pure none:=by rfl)
  (t:(assignEach [b] X.env).map (·.2)=[assign b X.env]:=by rfl):PS X (.Assign [b] e pos) (Ek d g):=by
 intro a s c H D I h;refine wpAny_Assign_stores (Hk (m a s c H _ I h) λv f l=>?_) j k;obtain⟨x,r,n,i,o⟩:=l;rw[t];exact Hk (p a f c r x v _ n i o) λ_ u q=>q
theorem CY {i:Nat}{x:Str}{e:Expr}{c:TE}{a:Pos}(j:X.N.Nodup)(hi:X.N[i]?=some x)(m:Loc X.env.scope x)(n:PE X e c)(g:swapsWith e (some (.Name x a)) pos.line X.env=pure false:=by rfl)(o:X.fn x=true∨X.env.scope.names.lookup x=some .local:=by first |exact .inl rfl |exact .inr rfl |assumption) :
  PS X (.Assign [.Name x a] e pos) (Ek c (Cm i)):=by
 intro b s d H D I h;refine wpAny_Assign_Name (Hk (n b s d H _ I h) λv t l=>?_) g;obtain⟨y,r,p,f,q⟩:=l;exact mI p j hi m f (λu k=>⟨_,r,k,q⟩) o
def FC (i:Nat)(c:TE)(d:OD):TS:=λD a H => ∃ x,a[i]?=some (some x)/\c a H λy e=>d x y e λz b=>D.nx (a.set i (some z)) b
theorem C5 {i:Nat}{x:Str}{e:Expr}{o:TE}{op:Operator}{p:OD}{f:Pos}(J:X.N.Nodup)(hi:X.N[i]?=some x)(j:Loc X.env.scope x)(P:PE X e o)(B:Rw X op p)(Q:X.fn x=true∨X.env.scope.names.lookup x=some .local:=by first |exact .inl rfl |exact .inr rfl |assumption) :
  PS X (.AugAssign (.Name x f) op e pos) (FC i o p):=by
 intro a s n H D I h;obtain⟨v,O,h⟩:=h;obtain⟨m,W,G⟩:=I.loc;have L:PQ X.env.scope x:=by rcases j with k |k;exact .inl k;exact .inr (.inl k)
 obtain⟨u,r,l⟩:=G i x v hi O L;refine wpAny_AugAssign_Name ?_;have go:wpAny (model X.prog X.w) X.A (eval e X.env) (λw b=>wpAny (model X.prog X.w) X.A (inplaceOp op u w) (λr d=>wpAny (model X.prog X.w) X.A (storeName X.env x r) (λ_=>SP X a D .next) X.xe d) X.xe b) X.xe s:=by refine Hk (P a s n H _ I h) λw C g=>?_;obtain⟨y,V,R,F,S⟩:=g;refine Hk (B a C n V v y u w _ R r F S) λz s2 g=>?_;obtain⟨Z,M,K,T,Y⟩:=g;exact mI K J hi j T (λs3 q=>⟨_,M,q,Y⟩) Q
 rcases l with ⟨hk,U⟩ |⟨hk,c,t,E⟩
 ·exact wpAny_loadName_local I.ok.kind hk W U go
 rcases hk with hk |hk
 ·exact wpAny_loadName_cell I.ok.kind hk t E go
 rcases j with k |k
 ·have:X.env.scope.names.lookup x=some .free:=hk;rw[k] at this;cases this
 have:X.env.scope.names.lookup x=some .free:=hk;rw[k] at this;cases this
def Ej (to f b:TE)(m:V->V->Hp->VK->Prop)(e:OD)(l:AD):TS:=λD a H=>to a H λo j=>f a j λi h=>m o i h λx c=>b a c λy k=>e x y k λz g=>l o i z g λd=>D.nx a d
def Ff (X:Cx)(t:V->V->Hp->VK->Prop):Prop:=
 ∀ (a:GX) (s:Shared) (c:St) (H:Hp) (o i:V) (d b:Value) (Q:VK),Inv X a c H s->RelV o d->RelV i b->t o i H Q ->
  wpAny (model X.prog X.w) X.A (getItem d b) (EP X a c Q) X.xe s
theorem Bj {o i e:Expr}{to k j:TE}{p:V->V->Hp->VK->Prop}{l:OD}{n:AD}{op:Operator}{O:Pos}(w:PE X o to)(hi:PE X i k)(Y:Ff X p)(S:PE X e j)(r:Rw X op l)(A:D1 X n)
  (t:∀ f d new,augStore i f d new=(do holding [new,f,d] (setItem f d new);release [new,f,d] [];pure .next):=by intros;rfl):PS X (.AugAssign (.Subscript o i O) op e pos) (Ej to k j p l n):=by
 intro a s c H D I h;refine wpAny_AugAssign_SubscriptAny (Hk (w a s c H _ I h) λf x b=>?_) t;obtain⟨x1,Z,T,g,U⟩:=b;refine Hk (hi a x c Z _ T U) λd s2 b=>?_;obtain⟨x2,P,C,m,q2⟩:=b;refine Hk (Y a s2 c P x1 x2 f d _ C g m q2) λold E b=>?_;obtain⟨L,G,q,W,q3⟩:=b;refine Hk (S a E c G _ q q3) λv F b=>?_;obtain⟨R,H4,B,r4,y⟩:=b;refine Hk (r a F c H4 L R old v _ B W r4 y) λnew K b=>?_;obtain⟨x5,N,Q,M,q5⟩:=b;exact Hk (A a K c N x1 x2 x5 f d new _ Q g m M q5) λ_ s6 ⟨J,z,u⟩=>⟨c,J,z,u⟩
def VO (f:Int->Int->Int):OD:=λx y H Q => ∃ i j,x = .int i/\y = .int j/\Q (.int (f i j)) H
theorem Dx:Rw X .Add (VO λi j=>i+j):=by intro a s f H x y v u Q I b e h;obtain⟨i,j,d,c,q⟩:=h;subst d;subst c;obtain⟨t,rfl⟩:=b;obtain⟨g,rfl⟩:=e;exact iadd_int ⟨.int _,H,I.tok _,⟨_,rfl⟩,q⟩
end
structure It where
 go:Nat->Hp->Prop
 Lu:Nat->Hp->V->Hp->Prop
 stop:Nat->Hp->Prop
def hZ (X:Cx)(a:GX)(H:Hp)(b:Addr):Prop:=
 H b=none/\b≠X.env.locals/\b∉X.fs/\(b∈X.ex∨X.s₀.heap.objs.size<=b)/\(∀ x c,X.env.cells.lookup x=some c->c≠b)/\∀ p∈X.pn++a,p.1≠b
theorem Inv.JH {X:Cx}{a:GX}{h:St}{H H':Hp}{s:Shared}{b:Addr}(I:Inv X a h H s)(d:s.heap.objs.size<=b)(g:H' b=none):hZ X a H' b:=by
 refine⟨g,ne_of_gt (lt_of_lt_of_le I.lt d),I.Sb d,.inr (Nat.le_trans I.sz d),λx c e z=>?_,λp f z=>?_⟩
 ·obtain⟨v,q⟩:=I.cell x c e;exact absurd (lt_of_lt_of_le q.lt (by rw[z];exact d)) (Nat.lt_irrefl _)
 exact absurd (lt_of_lt_of_le (Heap.lt_size (I.pin p f).1) (by rw[z];exact d)) (Nat.lt_irrefl _)
structure Turn (P:Program) (w:World) (K:GV) (tg:Expr) (J:It) (fp:List Addr) (it:Addr) (tn:Nat->Heap->Prop):Prop where
 mem:it∈fp
 obj:∀ i h,tn i h->∀ b∈fp,∃ o,h.get? b=some o/\∀ v,o.data≠.cell v
 keep:∀ i h h',tn i h->(∀ b∈fp,∀ o,h.get? b=some o->h'.get? b=some o)->tn i h'
 item:∀ (X:Cx),X.prog=P->X.w=w->X.K=K->X.calm=true->∀ (i:Nat) (pins:GX) (s:Shared) (σ:St) (H:Hp) (E:GW),Inv X pins σ H s->(∀ b∈fp,hZ X pins H b)->tn i s.heap->J.go i H ->
  wpAny (model P w) X.A (pyNext (.ref it)) (λr s1 => ∃ u,r=some u /\
   wpAny (model P w) X.A (letOwnedTupleGo tg (.ref it) u) (λ_ s2 => ∃ x H',Inv X pins σ H' s2/\RelV x u/\J.Lu i H x H'/\tn (i+1) s2.heap/\∀ b∈fp,H' b=none) E s1) E s
 done:∀ (X:Cx),X.prog=P->X.w=w->X.K=K->X.calm=true->∀ (i:Nat) (pins:GX) (s:Shared) (σ:St) (H:Hp) (E:GW),Inv X pins σ H s->(∀ b∈fp,hZ X pins H b)->tn i s.heap->J.stop i H ->
  wpAny (model P w) X.A (pyNext (.ref it)) (λr s1=>r=none/\Inv X pins σ H s1) E s
 self:∀ (A:Around) (i:Nat) (s:Shared) (Q:GW) (E:GW),tn i s.heap->Q (.ref it) s->wpAny (model P w) A (pyIter (.ref it)) Q E s
abbrev TI:=St->Hp->(It->Hp->Prop)->Prop
def Sk (X:Cx)(a:GX)(g:St)(f:Expr)(R:It->Hp->Prop)(h:Value)(d:Shared):Prop:=
 ∃ (it:Addr) (fp:List Addr) (e:Nat->Heap->Prop) (J:It) (c:Hp),h = .ref it/\Inv X a g c d/\Turn X.prog X.w X.K f J fp it e/\e 0 d.heap/\(∀ b∈fp,hZ X a c b)/\R J c
def PI (X:Cx)(c iter:Expr)(e:TI):Prop:=
 ∀ (a:GX) (s:Shared) (b:St) (H:Hp) (R:It->Hp->Prop),Inv X a b H s->e b H R ->
  wpAny (model X.prog X.w) X.A (eval iter X.env) (λv d=>wpAny (model X.prog X.w) X.A (pyIter v) (Sk X a b c R) X.xe d) X.xe s
theorem sS {M:Model}{A:Around}{E:GW}{s:Shared}{b:Expr}{it:Addr}{u:Value}{o:Obj}{n:String}{vs:Array Value}{Q:Unit->Shared->Prop}(d:s.heap.get? it=some o)(c:o.cls = .type n)(hd:o.data = .fields vs)
  (e:["enumerate","zip","dict_itemiterator","dict_reverseitemiterator","odict_iterator","itertools.zip_longest","itertools.pairwise"].contains n=false) (a:Q () s):wpAny M A (letOwnedTupleGo b (.ref it) u) Q E s:=by
 unfold letOwnedTupleGo
 cases b<;>first
  |exact wpAny_pure a
  |(cases u<;>first
    |exact wpAny_pure a
    |(refine wpAny_bind (wpAny_load d ?_)
      rw[c,hd];show wpAny M A (if (["enumerate","zip","dict_itemiterator","dict_reverseitemiterator","odict_iterator","itertools.zip_longest","itertools.pairwise"].contains n&&vs[0]?==some (rawInt _))=true then _ else _) Q E s;rw[if_neg (by intro h;rw[e,Bool.false_and] at h;cases h)]
      exact wpAny_pure a))
def Sl (K:GV)(a:Addr):It:=
 ⟨λi H => ∃ b x,Ki K H a b/\b[i]?=some x,λi H x c=>c=H/\∀ b,Ki K H a b->b[i]?=some x,λi H => ∃ b,Ki K H a b/\b.length<=i⟩
def Sm (K:GV)(a:Addr):It:=
 ⟨λi H => ∃ b x,Kn K H a b/\b[i]?=some x,λi H x c=>c=H/\∀ b,Kn K H a b->b[i]?=some x,λi H => ∃ b,Kn K H a b/\b.length<=i⟩
def Ry (lo:Int)(n:Nat):It:=⟨λi _=>i<n,λi H x a=>a=H/\x = .int (lo+i),λi _=>n<=i⟩
theorem wX {P:Program}{w:World}{K:GV}{S:Expr}(a it:Addr):Turn P w K S (Sl K a) [it] it (λi h=>h.IsListIter it a i) where
 mem:=by simp
 obj:=λi h st b g=>by
  have e:b=it:=by simpa using g
  subst e;obtain⟨o,e,c,d⟩:=st;exact⟨o,e,λv z=>by rw[d] at z;cases z⟩
 keep:=λi h j st k=>st.at λo e=>k it (by simp) o e
 item:=by
  intro X q r n J i f s L H E I m st D;subst q r n;obtain⟨V,x,l,y⟩:=D;obtain⟨its,t,p,O⟩:=I.list l;obtain⟨u,W,T⟩:=t.get y;obtain⟨F,B,N,A,C,G⟩:=m it (by simp);refine wpAny_pyNext_list_item st p.isList (x:=u) (by simpa using W) λj M sb=>?_;have U:Inv X f L H { s with heap:=j }:=I.turned (t':=s.toks) (λb o g e=>(sb.2 b g).trans e) F B A C G;obtain⟨o,e,c,d⟩:=id M;exact⟨u,rfl,sS (s:={ s with heap:=j }) e c d (by decide) ⟨x,H,U,T,⟨rfl,λZ R=>by rw[I.JR R l];exact y⟩,M,λb g=>(m b g).1⟩⟩
 done:=by
  intro X q r n J i f s L H E I m st D;subst q r n;obtain⟨V,l,y⟩:=D;obtain⟨its,t,p,O⟩:=I.list l;obtain⟨F,B,N,A,C,G⟩:=m it (by simp);have Y:=t.length;exact wpAny_pyNext_list_end (I.ok.hd J) st p.isList (by simp;omega) λj Q=>⟨rfl,I.turned (t':=s.toks) (λb o g e=>Q b o g e) F B A C G⟩
 self:=λ_ _ _ _ _ st h=>wpAny_pyIter_listiter st h
theorem uy {P:Program}{w:World}{K:GV}{S:Expr}(a it:Addr):Turn P w K S (Sm K a) [it] it (λi h=>h.IsTupleIter it a i) where
 mem:=by simp
 obj:=λi h st b g=>by
  have e:b=it:=by simpa using g
  subst e;obtain⟨o,e,c,d⟩:=st;exact⟨o,e,λv z=>by rw[d] at z;cases z⟩
 keep:=λi h j st k=>st.at λo e=>k it (by simp) o e
 item:=by
  intro X q r n J i f s L H E I m st D;subst q r n;obtain⟨V,x,l,y⟩:=D;obtain⟨its,t,p,O⟩:=I.tuple l;obtain⟨u,W,T⟩:=t.get y;obtain⟨F,B,N,A,C,G⟩:=m it (by simp);refine wpAny_pyNext_tuple_item st (show s.heap.IsTuple a its.toArray from p) (x:=u) (by simpa using W) λj M sb=>?_;have U:Inv X f L H { s with heap:=j }:=I.turned (t':=s.toks) (λb o g e=>(sb.2 b g).trans e) F B A C G;obtain⟨o,e,c,d⟩:=id M;exact⟨u,rfl,sS (s:={ s with heap:=j }) e c d (by decide) ⟨x,H,U,T,⟨rfl,λZ R=>by rw[I.Jo R l];exact y⟩,M,λb g=>(m b g).1⟩⟩
 done:=by
  intro X q r n J i f s L H E I m st D;subst q r n;obtain⟨V,l,y⟩:=D;obtain⟨its,t,p,O⟩:=I.tuple l;obtain⟨F,B,N,A,C,G⟩:=m it (by simp);have Y:=t.length;exact wpAny_pyNext_tuple_end (I.ok.hd J) st (show s.heap.IsTuple a its.toArray from p) (by simp;omega) λj Q=>⟨rfl,I.turned (t':=s.toks) (λb o g e=>Q b o g e) F B A C G⟩
 self:=λ_ _ _ _ _ st h=>wpAny_pyIter_tupleiter st h
theorem uz {P:Program}{w:World}{K:GV}{F:Expr}(it:Addr)(lo:Int)(n:Nat):Turn P w K F (Ry lo n) [it] it (λi h=>IsRangeIter h it (lo+(i:Nat)*1) ((n:Int)-(i:Nat)) 1) where
 mem:=by simp
 obj:=λi h st b c=>by
  have e:b=it:=by simpa using c
  subst e
  exact⟨_,st,λv z=>by
   have G:Data.fields _=Data.cell v:=z
   cases G⟩
 keep:=λi h d st k=>k it (by simp) _ st
 item:=by
  intro X l m g j i a s A H E I f st u;subst l m g;obtain⟨x,q,D,p,r,y⟩:=f it (by simp);have W:=Walks.range (prog:=X.prog) (w:=X.w) (I.ok.hd j) it lo 1 n;refine W.item i s _ _ u st λv d tk J B L=>?_;obtain⟨t,rfl⟩:=J;have M:Inv X a A H { s with heap:=d,toks:=tk }:=I.turned (λb o c e=>L b o (by simpa using c) e) x q p r y;refine⟨_,rfl,sS (s:={ s with heap:=d,toks:=tk }) (n:="range_iterator") B rfl rfl (by decide) ⟨.int (lo+i),H,M,⟨t,?_⟩,⟨rfl,rfl⟩,B,λb c=>(f b c).1⟩⟩;rw[Int.mul_one]
 done:=by
  intro X l m g j i a s A H E I f st u;subst l m g;obtain⟨x,q,D,p,r,y⟩:=f it (by simp);exact wpAny_pyNext_range_end (I.ok.hd j) st (by have:n<=i:=u;omega) λd C=>⟨rfl,I.turned (t':=s.toks) (λb o c e=>C b o c e) x q p r y⟩
 self:=λ_ _ _ _ _ st h=>wpAny_pyIter_rangeiter st h
section
variable {X:Cx}{tg:Expr}
def ET (K:GV)(d:TE):TI:=λc H R=>d c H λx b => ∃ a,x = .ref a/\(∃ e,Ki K b a e)/\R (Sl K a) b
def FO (K:GV)(d:TE):TI:=λc H R=>d c H λx b => ∃ a,x = .ref a/\(∃ e,Kn K b a e)/\R (Sm K a) b
theorem Bo {l:Expr}{g:TE}(k:PE X l g):PI X tg l (ET X.K g):=by
 intro c s i H R I h;refine Hk (k c s i H _ I h) λv d m=>?_;obtain⟨x,t,f,j,r⟩:=m;obtain⟨a,e,⟨z,n⟩,q⟩:=r;subst e;cases j;obtain⟨its,y,p,w⟩:=f.list n;refine wpAny_pyIter_list p.isList ?_;refine⟨d.heap.objs.size,[d.heap.objs.size],_,_,t,rfl,f.kept (t':=d.toks) λb o e=>Heap.get?_push_of_some _ e,wX a _,⟨_,Heap.get?_push_size _ rfl,rfl,rfl⟩,λb u=>?_,q⟩;have e:b=d.heap.objs.size:=by simpa using u
 subst e;exact f.JH (le_refl _) (f.Hq.fresh (le_refl _))
theorem C6 {l:Expr}{g:TE}(k:PE X l g):PI X tg l (FO X.K g):=by
 intro d s i H R I h;refine Hk (k d s i H _ I h) λv c m=>?_;obtain⟨x,t,f,j,r⟩:=m;obtain⟨a,e,⟨z,n⟩,q⟩:=r;subst e;cases j;obtain⟨its,y,p,w⟩:=f.tuple n;refine wpAny_pyIter_tuple (show c.heap.IsTuple a its.toArray from p) ?_;refine⟨c.heap.objs.size,[c.heap.objs.size],_,_,t,rfl,f.kept (t':=c.toks) λb o e=>Heap.get?_push_of_some _ e,uy a _,⟨_,Heap.get?_push_size _ rfl,rfl,rfl⟩,λb u=>?_,q⟩;have e:b=c.heap.objs.size:=by simpa using u
 subst e;exact f.JH (le_refl _) (f.Hq.fresh (le_refl _))
theorem yW {a:GX}{c:St}{H:Hp}{s:Shared}{R:It->Hp->Prop}{E:GW}{lo hi:Int}{t u v:Tok}{tk:Nat}(I:Inv X a c H s)(k : -(2 ^ 62)<=lo)(f:lo<2 ^ 62)(h : -(2 ^ 62)<=hi)(i:hi<2 ^ 62)
  (q:R (Ry lo (hi-lo).toNat) H):wpAny (model X.prog X.w) X.A (pyIter (.ref s.heap.objs.size)) (Sk X a c tg R) E { s with heap:=s.heap.push { cls:=.type "range",data:=.fields #[.int lo t,.int hi u,.int 1 v] },toks:=tk }:=by
 refine wpAny_pyIter_range (IsRange.new ..) (small_one k f h i) ?_;have d:Inv X a c H { s with heap:=s.heap.push { cls:=.type "range",data:=.fields #[.int lo t,.int hi u,.int 1 v] },toks:=tk }:=I.kept λb o e=>Heap.get?_push_of_some _ e
 refine⟨(s.heap.push { cls:=.type "range",data:=.fields #[.int lo t,.int hi u,.int 1 v] }).objs.size,[(s.heap.push { cls:=.type "range",data:=.fields #[.int lo t,.int hi u,.int 1 v] }).objs.size],_,_,H,rfl,
  d.kept (t':=tk) λb o e=>Heap.get?_push_of_some _ e,uz _ lo (hi-lo).toNat,?_,λb l=>?_,q⟩
 ·have j:lo+((0:Nat):Int)*1=lo:=by simp
  have g:(((hi-lo).toNat:Nat):Int)-((0:Nat):Int)=Builtin.Range.rangeSize lo hi 1:=by rw[rangeSize_one];split<;>omega
  show IsRangeIter _ _ (lo+((0:Nat):Int)*1) ((((hi-lo).toNat:Nat):Int)-((0:Nat):Int)) 1;rw[j,g];exact Heap.get?_push_size _ rfl
 have e:b=(s.heap.push { cls:=.type "range",data:=.fields #[.int lo t,.int hi u,.int 1 v] }).objs.size:=by simpa using l
 subst e;exact d.JH (le_refl _) (d.Hq.fresh (le_refl _))
def ES (c:TA):TI:=λb H R=>c b H λa d => ∃ j:Int,a=[.int j]/\-(2 ^ 62)<=j/\j<2 ^ 62/\R (Ry 0 j.toNat) d
theorem xv {a:Expr}{d:TA}{p pos:Pos}(o:Gl X "range")(u:X.mg "range"=none)(f:PA X [a] d)(k:starEach [a] X.env=[(false,eval a X.env)]:=by rfl):PI X tg (.Call (.Name "range" p) [a] [] pos) (ES d):=by
 intro b s g H R I h;refine Call_ (i4 I o u boot_range (PyProof.Rows.callWith_type1 (Hk (f pos b s g H _ I h) λw x l=>?_) k rfl));obtain⟨y,z,n,i,c⟩:=l;obtain⟨j,e,c,v,q⟩:=c;subst e;cases i with
 |cons r m =>
  cases m;obtain⟨t,rfl⟩:=r;exact call_range_1 (yW n (by omega) (by omega) c v (by simpa using q))
def Fz (f:TI)(g:TG)(j:TS):TS:=λD a H=>f a H λJ k => ∃ W:Nat->Nat->St->Hp->Prop,(∃ m,W 0 m a k)/\∀ i m a H,W i m a H ->
 (J.stop i H/\D.nx a H)∨(J.go i H/\∃ N:St->Hp->Prop,(∀ b c,N b c->∃ e,e<m/\W (i+1) e b c)/\∀ x c,J.Lu i H x c->g x a c λd h=>j { D with nx:=N,ct:=N,bk:=D.nx } d h)
def kn (fp:List Addr)(h:Heap):GX:=fp.filterMap λb=>(h.get? b).map λo=>(b,o)
theorem fO {fp:List Addr}{h:Heap}{b:Addr}{o:Obj}(a:b∈fp)(e:h.get? b=some o):(b,o)∈kn fp h:=List.mem_filterMap.mpr ⟨b,a,by rw[e];rfl⟩
theorem xD {fp:List Addr}{h:Heap}{p:Addr×Obj}(a:p∈kn fp h):p.1∈fp/\h.get? p.1=some p.2:=by
 obtain⟨b,d,e⟩:=List.mem_filterMap.mp a;cases q:h.get? b with
 |none=>rw[q] at e;cases e
 |some o =>
  rw[q] at e;have c:(b,o)=p:=Option.some.inj e;subst c;exact⟨d,q⟩
theorem Inv.pinned {a:GX}{c:St}{H:Hp}{s:Shared}{fp:List Addr}(I:Inv X a c H s)(k:∀ b∈fp,hZ X a H b)(i:∀ b∈fp,∃ o,s.heap.get? b=some o/\∀ v,o.data≠.cell v):Inv X (a++kn fp s.heap) c H s:=
 I.Jf λp h=>(mem_append.mp h).elim (λz=>I.pin p (mem_append_right _ z)) λz=>by
  obtain⟨g,e⟩:=xD z;obtain⟨m,l,j,_⟩:=k p.1 g;obtain⟨o,f,d⟩:=i p.1 g;rw[e] at f;cases f;exact⟨e,m,l,j,d⟩
theorem Inv.JS {a pl:GX}{b:St}{H:Hp}{s:Shared}(I:Inv X (a++pl) b H s):Inv X a b H s:=I.Jf λp c=>I.pin p (mem_append_right _ (mem_append_left _ c))
theorem C0 {iter:Expr}{body:List Stmt}{R:TI}{g:TG}{tb:TS}{pos:Pos}(E:PassesOwn (model X.prog X.w) X.A X.env X.xe)(Q:X.calm=true)(hi:PI X tg iter R)(hg:PG X tg g)(j:Lp X body tb)
  (hs:∀ x,foldedSetIterable iter X.env x=pure x:=by intro _;rfl):PS X (.For tg iter body [] pos) (Fz R g tb):=by
 intro c s Y H D I h;refine wpAny_For (Hk (hi c s Y H _ I h) λv s1 h1=>Hk h1 λPZ s2 h2=>?_) hs;obtain⟨it,fp,tn,J,H2,e,I2,T,Kx,f2,W,⟨m0,w0⟩,C⟩:=h2;subst e;have K:∀ {t:Hp},(∀ b∈fp,t b=none)->∀ b∈fp,hZ X c t b:=λhn b j=>⟨hn b j,(f2 b j).2⟩;refine codeAny_forLoop_any (λn s' => ∃ i q t,Inv X c q t s'/\tn i s'.heap/\(∀ b∈fp,t b=none)/\W i n q t) ?_ m0 ⟨0,Y,H2,I2,Kx,λb j=>(f2 b j).1,w0⟩;rintro n Z ⟨i,p,F,P,S,V,w3⟩;rcases C i n p F w3 with ⟨stop,qn⟩ |⟨go,N,hN,step⟩
 ·refine wpAny_passesOwn E (Hk (T.done X rfl rfl rfl Q i c Z p F X.xe P (K V) S stop) λr s4 z=>?_);obtain⟨L,I4⟩:=z;subst L;exact wpAny_execs_nil ⟨p,F,I4,qn⟩
 refine wpAny_passesOwn E (Hk (T.item X rfl rfl rfl Q i c Z p F X.xe P (K V) S go) λr s4 z=>?_);obtain⟨u,L,h4⟩:=z;subst L;refine wpAny_passesOwn E (Hk h4 λ_ U z=>?_);obtain⟨x,H5,I5,r5,y5,G,So⟩:=z;have Sr:=I5.pinned (K So) (T.obj _ _ G);refine wpAny_passesOwn E (Hk (hg _ U p H5 x u _ Sr r5 (step x H5 y5)) λ_ s6 z=>?_);obtain⟨M,H6,I6,q6⟩:=z;refine wpAny_passesOwn E (Hk (j _ s6 M H6 _ I6 q6) λf O y=>?_);have again:∀ {a:St}{l:Hp},Inv X (c++kn fp U.heap) a l O->N a l->∃ m,m<n/\∃ i q t,Inv X c q t O/\tn i O.heap/\(∀ b∈fp,t b=none)/\W i m q t:=λ{a l} k B=>by obtain⟨m',hm,w7⟩:=hN a l B;refine⟨m',hm,i+1,a,l,k.JS,T.keep _ _ _ G λb j o e=>(k.pin (b,o) (mem_append_right _ (mem_append_right _ (fO j e)))).1,λb j=>?_,w7⟩;obtain⟨o,e,d⟩:=T.obj _ _ G b j;exact(k.pin (b,o) (mem_append_right _ (mem_append_right _ (fO j e)))).2.1
 cases f with
 |next=>obtain⟨a,l,k,B⟩:=y;exact again k B
 |cont=>obtain⟨a,l,k,B⟩:=y;exact again k B
 |brk=>obtain⟨a,l,k,y⟩:=y;exact⟨a,l,k.JS,y⟩
 |ret v=>obtain⟨x7,a,l,k,r7,y⟩:=y;exact⟨x7,a,l,k.JS,r7,y⟩
end
abbrev R2:=V->V->Hp->VK->Prop
def KR (X:Cx)(f:Value->Value->Sem Value)(r:R2):Prop:=
 ∀ (a:GX) (s:Shared) (b:St) (H:Hp) (x y:V) (v u:Value) (Q:VK),Inv X a b H s->RelV x v->RelV y u->r x y H Q ->
  wpAny (model X.prog X.w) X.A (f v u) (EP X a b Q) X.xe s
def Rz (X:Cx)(f:Value->Sem Value)(r:V->Hp->VK->Prop):Prop:=
 ∀ (a:GX) (s:Shared) (b:St) (H:Hp) (x:V) (v:Value) (Q:VK),Inv X a b H s->RelV x v->r x H Q ->
  wpAny (model X.prog X.w) X.A (f v) (EP X a b Q) X.xe s
def h_ (X:Cx)(f:Value)(r:List V->Hp->VK->Prop):Prop:=
 ∀ (a:GX) (s:Shared) (c:St) (H:Hp) (d:List V) (b:List Value) (Q:VK),Inv X a c H s->Vals d b->r d H Q ->
  wpAny (model X.prog X.w) X.A (call f b) (EP X a c Q) X.xe s
def P0 (r:R2)(d c:TE):TE:=λa H Q=>d a H λx e=>c a e λy b=>r x y b Q
def VP (r:V->Hp->VK->Prop)(b:TE):TE:=λa H Q=>b a H λx c=>r x c Q
def rI (C:Int->Int->Prop)(g:Int->Int->V):R2:=λx y H Q => ∃ i j,x = .int i/\y = .int j/\C i j/\Q (g i j) H
def Pk (g:Int->Int->V):R2:=λx y H Q => ∃ i j,x = .int i/\y = .int j/\Q (g i j) H
def rU (g:Int->V):V->Hp->VK->Prop:=λx H Q => ∃ i,x = .int i/\Q (g i) H
section
variable {X:Cx}{a b c:Expr}{ta tb tc:TE}{pos:Pos}
theorem DR (m:PE X a ta)(B:PE X b tb){c:GX}{s:Shared}{d:St}{H:Hp}{R:V->V->Hp->Prop}(I:Inv X c d H s)
  (h:ta d H λx l=>tb d l λy e=>R x y e) {Q:GW}{f:Value->Value->Sem Value}
  (q:∀ v u j x y e,Inv X c d e j->RelV x v->RelV y u->R x y e->wpAny (model X.prog X.w) X.A (f v u) Q X.xe j) :
  wpAny (model X.prog X.w) X.A (eval a X.env) (λv i=>wpAny (model X.prog X.w) X.A (eval b X.env) (λu g=>wpAny (model X.prog X.w) X.A (f v u) Q X.xe g) X.xe i) X.xe s:=by
 refine Hk (m c s d H _ I h) λv n k=>?_;obtain⟨x,l,r,o,t⟩:=k;refine Hk (B c n d l _ r t) λu j k=>?_;obtain⟨y,e,p,z,C⟩:=k;exact q v u j x y e p o z C
theorem Ez {op:Operator}{r:R2}(e:KR X (binaryOp op) r)(d:PE X a ta)(l:PE X b tb):PE X (.BinOp a op b pos) (P0 r ta tb):=by intro c s f H Q I h;exact wpAny_BinOp (DR d l I h λv u k x y i g j m q=>e c k f i x y v u Q g j m q)
theorem Ey {op:UnaryOp}{r:V->Hp->VK->Prop}(e:Rz X (unaryOp op) r)(d:PE X a ta):PE X (.UnaryOp op a pos) (VP r ta):=by intro b s c H Q I h;exact UnaryOp_ (Hk (d b s c H _ I h) λv g ⟨x,k,f,j,i⟩=>e b g c k x v Q f j i)
theorem Ss {f:Value->Value->Sem Value}{C:Int->Int->Prop}{g:Int->Int->Int}
  (rule:∀ (i j:Int) (t u:Tok) (s:Shared) (Q:GW) (E:GW),C i j->Q (.int (g i j) s.toks) { s with toks:=s.toks+1 }->wpAny (model X.prog X.w) X.A (f (.int i t) (.int j u)) Q E s) :
  KR X f (rI C λi j => .int (g i j)):=by
 intro a s k H x y v u Q I d e h;obtain⟨i,j,rfl,rfl,b,q⟩:=h;obtain⟨t,rfl⟩:=d;obtain⟨c,rfl⟩:=e;exact rule i j t c s _ _ b ⟨.int (g i j),H,I.tok _,⟨_,rfl⟩,q⟩
theorem EC {f:Value->Value->Sem Value}{g:Int->Int->Int}
  (rule:∀ (i j:Int) (t u:Tok) (s:Shared) (Q:GW) (E:GW),Q (.int (g i j) s.toks) { s with toks:=s.toks+1 }->wpAny (model X.prog X.w) X.A (f (.int i t) (.int j u)) Q E s) :
  KR X f (Pk λi j => .int (g i j)):=by
 intro a s e H x y v u Q I c d h;obtain⟨i,j,rfl,rfl,q⟩:=h;obtain⟨t,rfl⟩:=c;obtain⟨b,rfl⟩:=d;exact rule i j t b s _ _ ⟨.int (g i j),H,I.tok _,⟨_,rfl⟩,q⟩
theorem ED {f:Value->Value->Sem Value}{g:Int->Int->Bool}
  (rule:∀ (i j:Int) (t u:Tok) (s:Shared) (Q:GW) (E:GW),Q (.bool (g i j)) s->wpAny (model X.prog X.w) X.A (f (.int i t) (.int j u)) Q E s) :
  KR X f (Pk λi j => .bl (g i j)):=by
 intro a s e H x y v u Q I c d h;obtain⟨i,j,rfl,rfl,q⟩:=h;obtain⟨t,rfl⟩:=c;obtain⟨b,rfl⟩:=d;exact rule i j t b s _ _ ⟨.bl (g i j),H,I,rfl,q⟩
def Gg (i j:Int):Prop:=0<j/\j<1073741824
def NB (i j:Int):Prop:=(-(2 ^ 64)<i/\i<2 ^ 64)∨(-(2 ^ 64)<j/\j<2 ^ 64)
theorem NB.ok {i j:Int}(h:NB i j):IntMulOk i j:=by
 rcases h with ⟨a,b⟩ |⟨a,b⟩
 ·exact .of_left (intBits_le_64 a b)
 exact .of_right (intBits_le_64 a b)
theorem Dh:KR X (binaryOp .Add) (Pk λi j => .int (i+j)):=EC λ_ _ _ _ _ _ _ q=>add_int q
theorem Dc:KR X (binaryOp .Sub) (Pk λi j => .int (i-j)):=EC λ_ _ _ _ _ _ _ q=>sub_int q
theorem De:KR X (binaryOp .Mult) (rI NB λi j => .int (i*j)):=Ss λ_ _ _ _ _ _ _ a q=>mul_int q a.ok
theorem By:KR X (binaryOp .FloorDiv) (rI Gg λi j => .int (i / j)):=Ss λi j _ _ _ _ _ a q=>by have b:(0:Int)<j:=a.1;have c:j<1073741824:=a.2;exact floordiv_int (by omega) (by rw[Int.fdiv_eq_ediv_of_nonneg i (by omega)];exact q) (.inl (PyProof.noPylong_small (by omega)))
theorem Df:KR X (binaryOp .Mod) (rI (λ_ j => 0<j) λi j => .int (i % j)):=Ss λi j _ _ _ _ _ a q=>by have b:(0:Int)<j:=a;exact mod_int' (by omega) (by rw[Int.fmod_eq_emod_of_nonneg i (by omega)];exact q)
theorem VQ {f:Value->Sem Value}{g:Int->Int}
  (rule:∀ (i:Int) (t:Tok) (s:Shared) (Q:GW) (E:GW),Q (.int (g i) s.toks) { s with toks:=s.toks+1 }->wpAny (model X.prog X.w) X.A (f (.int i t)) Q E s) :
  Rz X f (rU λi => .int (g i)):=by
 intro a s c H x v Q I b h;obtain⟨i,rfl,q⟩:=h;obtain⟨t,rfl⟩:=b;exact rule i t s _ _ ⟨.int (g i),H,I.tok _,⟨_,rfl⟩,q⟩
theorem Cr:Rz X (unaryOp .USub) (rU λi => .int (-i)):=VQ λ_ _ _ _ _ q=>neg_int q
end
section
variable {X:Cx}{a b c:Expr}{ta tb tc:TE}{pos:Pos}
theorem vk {a:GX}{c:St}{H:Hp}{s:Shared}{Q:VK}{k b:Bool}(I:Inv X a c H s)(q:Q (.bl k) H)(e:k=b):EP X a c Q (.bool b) s:=by subst e;exact⟨.bl k,H,I,rfl,q⟩
theorem EA:KR X (compareOp .Lt) (Pk λi j => .bl (decide (i<j))):=ED λ_ _ _ _ _ _ _ q=>lt_int q
theorem EB:KR X (compareOp .Gt) (Pk λi j => .bl (decide (j<i))):=ED λ_ _ _ _ _ _ _ q=>gt_int q
theorem xC:KR X (compareOp .Lt) (λx y H Q => ∃ i j,x = .str i/\y = .str j/\Q (.bl (decide (i.cps.toList<j.cps.toList))) H):=by intro a s d H x y v u Q I b c h;obtain⟨i,j,rfl,rfl,q⟩:=h;obtain⟨t,rfl⟩:=b;obtain⟨e,rfl⟩:=c;exact lt_str (vk I q rfl)
theorem Dg:KR X (compareOp .Is) (λx y H Q=>y = .Ho/\Q (.bl (decide (x = .Ho))) H):=by
 intro b s d H x y v u Q I a c h;obtain⟨rfl,q⟩:=h;cases c;refine is_none_gen (vk I q ?_)
 cases x<;>first
  |(cases a;rfl)
  |(obtain⟨t,rfl⟩:=a;rfl)
theorem Bx:KR X (compareOp .IsNot) (λx y H Q=>y = .Ho/\Q (.bl (!decide (x = .Ho))) H):=by
 intro b s d H x y v u Q I a c h;obtain⟨rfl,q⟩:=h;cases c;refine isnot_none_gen (vk I q ?_)
 cases x<;>first
  |(cases a;rfl)
  |(obtain⟨t,rfl⟩:=a;rfl)
theorem zz (b:Expr){op:CmpOp}(h:op≠.In:=by decide)(c:op≠.NotIn:=by decide):behindInMarks op b=false:=by
 have a:(op==CmpOp.In)=false:=by cases op<;>first |rfl |exact absurd rfl h
 have d:(op==CmpOp.NotIn)=false:=by cases op<;>first |rfl |exact absurd rfl c
 cases b<;>simp[behindInMarks,a,d]
theorem Bu {op:CmpOp}{r:R2}(e:KR X (compareOp op) r)(d:PE X a ta)(l:PE X b tb)(n:behindInMarks op b=false):PE X (.Compare a [op] [b] pos) (P0 r ta tb):=by intro c s f H Q I h;exact wpAny_Compare1 (DR d l I h λv u k x y i g j m q=>e c k f i x y v u Q g j m q) n
def Jv (t:TE):TT:=λb H Q=>t b H λx a => ∃ k,x = .bl k/\Q k a
theorem Be {op:CmpOp}{r:R2}(j:KR X (compareOp op) r)(i:PE X a ta)(D:PE X b tb)(E:behindInMarks op b=false):PT X (.Compare a [op] [b] pos) (Jv (P0 r ta tb)):=by
 intro d s f H Q I h
 refine wpAny_isTrue_Compare1 (Hk (i d s f H _ I h) λv l ⟨x,B,q,m,t⟩=>Hk (D d l f B _ q t) λu C ⟨y,p,n,w,F⟩ =>
  Hk (j d C f p x y v u _ n m w F) λc J ⟨z,o,g,A,k,e,G⟩=>?_) E
 subst e;cases A;exact wpAny_truthy_bool ⟨o,g,G⟩
theorem i0:(sizeLine:Nat)<2 ^ 63:=by rw[sizeLine_eq];decide
theorem uU:KR X (binaryOp .Add) (λx y H Q => ∃ i j,x = .str i/\y = .str j/\i.length+j.length<=sizeLine/\Q (.str (i++j)) H):=by intro a s f H x y v u Q I d e h;obtain⟨i,j,rfl,rfl,b,q⟩:=h;obtain⟨t,rfl⟩:=d;obtain⟨c,rfl⟩:=e;exact add_str (λc tk=>⟨.str (i++j),H,I.tok _,⟨_,rfl⟩,q⟩) b
theorem vals1 {x:V}{us:List Value}(r:Vals [x] us):∃ u,us=[u]/\RelV x u:=by
 cases r with
 |cons b a=>cases a;exact⟨_,rfl,b⟩
theorem vals2 {x y:V}{us:List Value}(r:Vals [x,y] us):∃ u a,us=[u,a]/\RelV x u/\RelV y a:=by
 cases r with
 |cons e c =>
  cases c with
  |cons d b=>cases b;exact⟨_,_,rfl,e,d⟩
theorem pH:h_ X (.type "int") (λxs H Q=>(∃ i,xs=[.int i]/\Q (.int i) H)∨∃ k,xs=[.bl k]/\Q (.int (if k then 1 else 0)) H):=by
 intro a s d H xs c Q I r h;rcases h with ⟨i,rfl,q⟩ |⟨k,rfl,q⟩
 ·obtain⟨u,rfl,t,rfl⟩:=vals1 r;exact call_int_int ⟨.int i,H,I,⟨_,rfl⟩,q⟩
 obtain⟨u,rfl,b⟩:=vals1 r;cases b;exact call_int_bool ⟨.int (if k then 1 else 0),H,I.tok _,⟨_,rfl⟩,q⟩
end
structure Lv (h:Heap) (x dx C:Addr) (mA:GY):Prop where
 obj:h.get? x=some (PySem.W.instObj C dx)
 ns:h.Ns1 dx mA
 ne:dx≠x
theorem xN {h:Heap}{c:Addr}{b:GY}(n:h.Ns1 c b):∃ d,h.get? c=some d/\∀ name,PySem.W.lookIn name d=some (b name):=by
 obtain⟨o,es,ep,f,hd,l,_,j⟩:=n;refine⟨o,f,λname=>?_⟩;have e:=j name;unfold nsFind findBy at e;rw[← Array.find?_toList] at e;unfold PySem.W.lookIn;rw[hd];dsimp only;split
 ·rename_i y q;rw[q] at e;exact congrArg some e
 rename_i q;rw[q] at e;have a:es.toList.any (·.refKey)=false:=by rw[List.any_eq_false];intro y g;obtain⟨z,t,k⟩:=l y (Array.mem_toList_iff.mp g);simp[DictEntry.refKey,k]
 have i:¬ es.toList.any (·.refKey)=true:=by rw[a];exact Bool.false_ne_true
 rw[if_neg i];exact congrArg some e
theorem Lv.look {h:Heap}{x c C:Addr}{b:GY}(I:Lv h x c C b):∃ a,PySem.W.InstAt h x (PySem.W.instObj C c) C (some a)/\∀ name,PySem.W.lookIn name a=some (b name):=
 let ⟨a,e,d⟩:=xN I.ns
 ⟨a,⟨I.obj,rfl,rfl,e⟩,d⟩
section
variable {prog:Program}{w:World}{A:Around}{E:GW}{s:Shared}{K:GV}{x dx C f:Addr}{mA:GY}{name:Str}{v:Value}
theorem get_map {expr:Bool}{Q:GW}(X:K.In s.heap)(I:Lv s.heap x dx C mA)(e:PySem.W.plainGet K C name=true)(f:PySem.W.hasDictIn K C=true)
  (c:PySem.W.findIn K (.ref C) name=some none) (b:mA name=some v) (d:PySem.W.handedIn v=true) (h:Q v { s with toks:=s.toks+1 }) :
  wpAny (model prog w) A (getAttr (.ref x) name expr) Q E s:=by
 obtain⟨g,J,a⟩:=I.look;exact PySem.W.get_value X J (PySem.W.plainGet_of e).1 (PySem.W.findObj_own f c rfl (by rw[a,b])) d h
theorem z5 {pl:Sem Bool}{Q:Value×List Value->Shared->Prop}(X:K.In s.heap)(I:Lv s.heap x dx C mA)(a:PySem.W.plainGet K C name=true)
  (d:PySem.W.findIn K (.ref C) name=some (some (.ref f))) (e:PySem.W.isFn K (.ref f)=true) (c:mA name=none) (h:Q (.ref f,[.ref x]) s) :
  wpAny (model prog w) A (getMethod (.ref x) name pl) Q E s:=by
 obtain⟨g,J,b⟩:=I.look;exact PySem.W.method_fn X J (PySem.W.plainGet_of a).1 (PySem.W.plainGet_of a).2 d (beq_iff_eq.mp e) (by show (PySem.W.lookIn name g).map (·.isSome)=some false;rw[b,c];rfl) h
theorem A5 {ns:List Str}{Q:Unit->Shared->Prop}(X:K.In s.heap)(I:Lv s.heap x dx C mA)
  (i:PySem.W.findIn K (.ref C) "__setattr__"=some (some (.builtin "object.__setattr__"))) (e:PySem.W.plainOver K C=true) (o:PySem.W.takerIn K C name=some none) (p:PySem.W.hasDictIn K C=true)
  (j:PySem.Within mA ns) (hsz:ns.length<=sizeLine)
  (h:∀ h',Lv h' x dx C (λy=>if y=name then some v else mA y)->Heap.SameBut dx s.heap h'->Q () { s with heap:=h',toks:=s.toks+2 }) :
  wpAny (model prog w) A (setAttr (.ref x) name v) Q E s:=by
 obtain⟨B,J,q⟩:=I.look;refine PySem.W.set_plain X J i (PySem.W.osa_open (s:={ s with toks:=s.toks+1 }) (r:=none) X J e o λb=>?_);obtain⟨u,f,m⟩:=PySem.W.any_some p;have l:s.heap.get? x=some ⟨.ref C,some dx,.plain,#[]⟩:=I.obj;refine wpAny_bind (wpAny_pure (wpAny_bind (wpAny_bind (wpAny_loadPart l (wpAny_bind (PySem.W.Looks.here (s:={ s with toks:=s.toks+1 }) (PySem.W.looks_clsIn X f) ?_))))));rw[m];refine wpAny_pure (a:=some dx) (wpAny_bind (wpAny_pure (wpAny_bind ?_)));refine wpAny_nsSet1 (s:={ s with toks:=s.toks+1 }) I.ns λh' d c=>?_;obtain⟨oD,t,z,g,k,n⟩:=d.count (PySem.Within.cons name v j);refine wpAny_bind (wpAny_lookBehind g (by rw[k];exact pastItsLine_dict (Nat.le_trans n (by rw[length_cons];omega))) ?_);exact wpAny_pure (h _ ⟨(c.2 _ (Ne.symm I.ne)).trans I.obj,d,I.ne⟩ c)
theorem zO {R:Result->Shared->Prop}{vs:List Value}{kw:List (Str×Value)}(X:K.In s.heap)(b:PySem.W.makesIn K C=true)
  (hi:PySem.W.findIn K (.ref C) "__init__"=some (some (.ref f))) (a:PySem.W.typeIn K (.ref f)=some (.type "function"))
  (h:codeAny (model prog w) (A.under (.builtin "type.__call__" ⟨.ref C::vs,kw⟩)) (.call (.ref f) ⟨.ref (s.heap.objs.size+1)::vs,kw⟩) (PySem.W.InitBack (s.heap.objs.size+1) R)
   { s with heap:=(s.heap.push PySem.W.emptyDict).push (PySem.W.instObj C s.heap.objs.size) }) :
  codeAny (model prog w) A (.call (.ref C) ⟨vs,kw⟩) R s:=by
 obtain⟨c,g,d,t,os⟩:=s;exact PySem.W.make_core (PySem.W.makes_of X b) (PySem.W.looks_findIn X hi) (λself=>PySem.W.bind_fn X self a) (.inl rfl) h
end
def eZ (f:Str)(v:V):List (Str×V)->List (Str×V)
 |[]=>[(f,v)]
 |(g,x)::r=>if g=f then (g,v)::r else (g,x)::eZ f v r
theorem lu (f g:Str)(v:V):∀ fs:List (Str×V),(eZ f v fs).lookup g=if g=f then some v else fs.lookup g
 |[]=>by
  show List.lookup g [(f,v)]=_;by_cases h:g=f
  ·have a:(g==f)=true:=beq_iff_eq.mpr h;simp only[List.lookup,a,if_pos h]
  have a:(g==f)=false:=beq_eq_false_iff_ne.mpr h;simp only[List.lookup,a,if_neg h]
 |(k,x)::r=>by
  have c:=lu f g v r;rw[show eZ f v ((k,x)::r)=(if k=f then (k,v)::r else (k,x)::eZ f v r) from rfl];by_cases b:k=f
  ·rw[if_pos b];by_cases h:g=k
   ·have a:(g==k)=true:=beq_iff_eq.mpr h;simp only[List.lookup,a,if_pos (h.trans b)]
   have a:(g==k)=false:=beq_eq_false_iff_ne.mpr h;simp only[List.lookup,a,if_neg (λe:g=f=>h (e.trans b.symm))]
  rw[if_neg b];by_cases h:g=k
  ·have a:(g==k)=true:=beq_iff_eq.mpr h;simp only[List.lookup,a,if_neg (λe:g=f=>b (h.symm.trans e))]
  have a:(g==k)=false:=beq_eq_false_iff_ne.mpr h;simp only[List.lookup,a];exact c
theorem kD (f:Str)(v:V):∀ fs:List (Str×V),f∈(eZ f v fs).map (·.1)/\∀ g,g∈fs.map (·.1)->g∈(eZ f v fs).map (·.1)
 |[]=>⟨by simp[eZ],λg h=>by simp at h⟩
 |(k,x)::r=>by
  obtain⟨c,b⟩:=kD f v r;rw[show eZ f v ((k,x)::r)=(if k=f then (k,v)::r else (k,x)::eZ f v r) from rfl];by_cases a:k=f
  ·rw[if_pos a];subst a;exact⟨by simp,λg h=>by simpa using h⟩
  rw[if_neg a];refine⟨?_,λg h=>?_⟩
  ·rw[map_cons];exact mem_cons_of_mem _ c
  rw[map_cons] at h ⊢;rcases mem_cons.mp h with e |e
  ·exact mem_cons.mpr (.inl e)
  exact mem_cons_of_mem _ (b g e)
theorem lw (f:Str)(v:V):∀ fs:List (Str×V),(eZ f v fs).length<=fs.length+1
 |[]=>by simp[eZ]
 |(k,x)::r=>by
  have b:=lw f v r;rw[show eZ f v ((k,x)::r)=(if k=f then (k,v)::r else (k,x)::eZ f v r) from rfl];by_cases a:k=f
  ·rw[if_pos a,length_cons,length_cons];omega
  rw[if_neg a,length_cons,length_cons];omega
theorem Iz.some_of {v:V}{o:Option Value}(r:Iz (some v) o):∃ u,o=some u/\RelV v u:=by
 cases o with
 |none=>exact(show False from r).elim
 |some u=>exact⟨u,rfl,r⟩
theorem Iz.none_of {o:Option Value}(r:Iz none o):o=none:=by
 cases o with
 |none=>rfl
 |some u=>exact(show False from r).elim
theorem xW {v:V}{u:Value}(r:RelV v u):PySem.W.handedIn u=true:=by
 cases v with
 |Ho=>cases (show u=Value.none from r);rfl
 |bl b=>cases (show u=Value.bool b from r);rfl
 |int i=>obtain⟨t,e⟩:=(show ∃ t,u=Value.int i t from r);cases e;rfl
 |str x=>obtain⟨t,e⟩:=(show ∃ t,u=Value.str x t from r);cases e;rfl
 |Rq b=>obtain⟨t,e⟩:=(show ∃ t,u=Value.bytes b t from r);cases e;rfl
 |Ph b=>obtain⟨t,e⟩:=(show ∃ t,u=Value.float b t from r);cases e;rfl
 |ref a=>cases (show u=Value.ref a from r);rfl
 |ty n=>cases (show u=Value.type n from r);rfl
section
variable {P:Program}{w:World}{H H':Hp}{h h':Heap}{a C dx:Addr}{fs Ug:List (Str×V)}
theorem qz (Hq:IY P w H h)(e:H a=some (.ins C dx fs)):∃ b,Lv h a dx C b/\(∀ f,Iz (fs.lookup f) (b f))/\PySem.Within b (fs.map (·.1))/\fs.length<=1000/\H dx=some (.own a):=by obtain⟨d,z,ne,c,b,n,r,q⟩:=(show Hz P w H h a (.ins C dx fs) from Hq a _ e);exact⟨b,⟨c,n,ne⟩,r,q,z,d⟩
end
structure Lw (K:GV) (C:Addr):Prop where
 pg:PySem.W.plainGet K C Str.empty=true
 hd:PySem.W.hasDictIn K C=true
 po:PySem.W.plainOver K C=true
 sa:PySem.W.findIn K (.ref C) "__setattr__"=some (some (.builtin "object.__setattr__"))
theorem Lw.get {K:GV}{C:Addr}(c:Lw K C)(f:Str):PySem.W.plainGet K C f=true:=c.pg
def ID (K:GV)(C:Addr)(f:Str):Prop:=PySem.W.findIn K (.ref C) f=some none
theorem ID.P4 {K:GV}{C:Addr}{f:Str}(n:ID K C f):PySem.W.takerIn K C f=some none:=by unfold PySem.W.takerIn;rw[show PySem.W.findIn K (.ref C) f=some none from n];rfl
structure Yf (K:GV) (C:Addr) (f:Str) (v:V) (u:Value):Prop where
 at_:PySem.W.findIn K (.ref C) f=some (some u)
 rel:RelV v u
 get:PySem.W.specialIn K u "__get__"=some none
 cp:PySem.W.copiedNames.contains f=false
structure Meth (K:GV) (C:Addr) (m:Str) (f:Addr):Prop where
 at_:PySem.W.findIn K (.ref C) m=some (some (.ref f))
 fn:PySem.W.isFn K (.ref f)=true
 kp:PySem.W.keepIn K (.ref f)=true
section
variable {X:Cx}{pins:GX}{σ:St}{H:Hp}{s:Shared}{a C dx:Addr}{fs:List (Str×V)}{f:Str}{v:V}{A:Around}{E:GW}
theorem vh {b:Bool}{Q:GW}(I:Inv X pins σ H s)(e:H a=some (.ins C dx fs))(c:Lw X.K C)(n:ID X.K C f)(l:fs.lookup f=some v)
  (h:∀ u s',Inv X pins σ H s'->RelV v u->Q u s'):wpAny (model X.prog X.w) A (getAttr (.ref a) f b) Q E s:=by
 obtain⟨i,O,r,_,_,_⟩:=qz I.Hq e;obtain⟨u,g,d⟩:=Iz.some_of (v:=v) (o:=i f) (by rw[← l];exact r f);exact get_map I.L_ O (c.get f) c.hd n g (xW d) (h u _ (I.tok _) d)
theorem nA {m:Str}{g:Addr}{pl:Sem Bool}{Q:Value×List Value->Shared->Prop}(I:Inv X pins σ H s)(e:H a=some (.ins C dx fs))(c:Lw X.K C)(k:Meth X.K C m g)(l:fs.lookup m=none)
  (h:Q (.ref g,[.ref a]) s):wpAny (model X.prog X.w) A (getMethod (.ref a) m pl) Q E s:=by
 obtain⟨d,O,r,_,_,_⟩:=qz I.Hq e;have b:d m=none:=Iz.none_of (by rw[← l];exact r m);exact z5 I.L_ O (c.get m) k.at_ k.fn b h
theorem uJ {y:V}{u:Value}{Q:Unit->Shared->Prop}(I:Inv X pins σ H s)(e:H a=some (.ins C dx fs))(c:Lw X.K C)(n:ID X.K C f)(D:fs.length<1000)(B:RelV y u)
  (h:∀ s',Inv X pins σ (upd H a (.ins C dx (eZ f y fs))) s'->Q () s'):wpAny (model X.prog X.w) A (setAttr (.ref a) f u) Q E s:=by
 obtain⟨k,O,r,j,_,i⟩:=qz I.Hq e;have m:(fs.map (·.1)).length<=sizeLine:=by rw[length_map,sizeLine_eq];omega
 refine A5 I.L_ O c.sa c.po n.P4 c.hd j m λl d sb=>h _ ?_;have hd:∃ o,l.get? dx=some o:=let ⟨o,_,_,p,_⟩:=d.ns;⟨o,p⟩;refine I.write (x:=a) (e:=dx) (by rw[e];exact True.intro) (.inr i) (λb q v z=>(sb.2 b v).trans z) hd ?_;refine⟨by rw[aF O.ne];exact i,?_,O.ne,d.obj,_,d.ns,λg=>?_,λg t=>?_⟩
 ·have:=lw f y fs;omega
 ·show Iz ((eZ f y fs).lookup g) (if g=f then some u else k g);rw[lu];by_cases q:g=f
  ·rw[if_pos q,if_pos q];exact B
  rw[if_neg q,if_neg q];exact r g
 by_cases q:g=f
 ·rw[q];exact(kD f y fs).1
 refine(kD f y fs).2 g (j g λz=>t ?_);show (if g=f then some u else k g)=none;rw[if_neg q];exact z
theorem Inv.made (I:Inv X pins σ H s):Inv X pins σ (upd (upd H s.heap.objs.size (.own (s.heap.objs.size+1))) (s.heap.objs.size+1) (.ins C s.heap.objs.size []))
  { s with heap:=(s.heap.push PySem.W.emptyDict).push (PySem.W.instObj C s.heap.objs.size) }:=by
 have c:(s.heap.push PySem.W.emptyDict).get? s.heap.objs.size=some PySem.W.emptyDict:=Heap.get?_push_size s.heap rfl;have g:((s.heap.push PySem.W.emptyDict).push (PySem.W.instObj C s.heap.objs.size)).get? (s.heap.objs.size+1)=some (PySem.W.instObj C s.heap.objs.size):=by have:=Heap.get?_push_size (s.heap.push PySem.W.emptyDict) (o:=PySem.W.instObj C s.heap.objs.size) rfl;rwa [Heap.size_push] at this
 have d:(s.heap.push PySem.W.emptyDict).Ns s.heap.objs.size (λ_=>none):=⟨PySem.W.emptyDict,#[],_,c,rfl,(λe i=>absurd i (by simp)),λ_=>rfl⟩;have h:=I.laid (a:=s.heap.objs.size) (o:=.own (s.heap.objs.size+1)) (h':=s.heap.push PySem.W.emptyDict) (t':=s.toks) (λb u q=>Heap.get?_push_of_some _ q) (le_refl _) ⟨_,c⟩;refine h.laid (a:=s.heap.objs.size+1) (o:=.ins C s.heap.objs.size []) (t':=s.toks) (λb u q=>Heap.get?_push_of_some _ q) (Nat.le_of_eq (Heap.size_push _ _)) ?_;have ne:s.heap.objs.size≠s.heap.objs.size+1:=ne_of_lt (lt_succ_self _);refine⟨by rw[aF ne,G_],zero_le _,ne,g,λ_=>none,(Heap.Ns1.of_empty d).at λo q=>Heap.get?_push_of_some _ q,λ_=>True.intro,λy f=>absurd rfl f⟩
theorem B8 {prog:Program}{w:World}{env:Env}{e:Expr}{f:Str}{pos:Pos}{s:Shared}{Q:GW}(b:attributeBase e f env (eval e env)=eval e env)
  (h:wpAny (model prog w) A (eval e env) (λo a=>wpAny (model prog w) A (getAttr o f true) Q E a) E s):wpAny (model prog w) A (eval (.Attribute e f pos) env) Q E s:=
 Attribute_any_ h (by rw[arm_eval_Attribute,b])
end
def FA (K:GV)(e:TE)(f:Str):TE:=λc H Q=>e c H λx b => ∃ a C d fs v,x = .ref a/\b a=some (.ins C d fs)/\Lw K C/\ID K C f/\fs.lookup f=some v/\Q v b
def FF (K:GV)(e tv:TE)(f:Str):TS:=λD b H=>tv b H λy g=>e b g λx c => ∃ a C d fs,x = .ref a/\c a=some (.ins C d fs)/\Lw K C/\ID K C f/\fs.length<1000 /\
 D.nx b (upd c a (.ins C d (eZ f y fs)))
section
variable {X:Cx}{o e value:Expr}{f:Str}{pos pos' NA:Pos}{ta tv:TE}
theorem C_ (k:PE X e ta)(t:attributeBase e f X.env (eval e X.env)=eval e X.env):PE X (.Attribute e f pos) (FA X.K ta f):=by intro b s d H Q I h;refine B8 t (Hk (k b s d H _ I h) λu w i=>?_);obtain⟨x,o,m,r,a,C,A,fs,v,ex,p,c,n,l,q⟩:=i;subst ex;obtain rfl:u=Value.ref a:=r;exact vh m p c n l λy z g j=>⟨v,o,g,j,q⟩
theorem C4 (g:PE X o ta)(p:PE X value tv)(j:swapsWith value (some (.Attribute o f pos')) pos.line X.env=pure false):PS X (.Assign [.Attribute o f pos'] value pos) (FF X.K ta tv f):=by intro b s d H D I h;refine plainObj_wpAny_Assign_Attribute (Hk (p b s d H _ I h) λu i ⟨y,v,r,A,q⟩=>Hk (g b i d v _ r q) λt G m=>?_) j;obtain⟨x,F,k,z,a,C,J,fs,ex,w,c,n,l,B⟩:=m;subst ex;obtain rfl:t=Value.ref a:=z;exact uJ k w c n l A λE e=>⟨d,_,e,B⟩
theorem Ck {pl:Sem Bool}{m:Str}{b:Pos}{args:List Expr}{d:GX}{s:Shared}{i:St}{H:Hp}{Q:GW}{o:TE}(y:PE X e o)(I:Inv X d i H s)
  (h:o i H λx n => ∃ a C t fs g,x = .ref a/\n a=some (.ins C t fs)/\Lw X.K C/\Meth X.K C m g/\fs.lookup m=none /\
   ∀ j,Inv X d i n j->wpAny (model X.prog X.w) X.A (callWith pos (.ref g) [.ref a] (backTo pos (starEach args X.env)) (backToKw pos (keywordEach [] X.env))) Q X.xe j)
  (z:eval (.Call (.Attribute e m b) args [] pos) X.env=(do
   let r ← eval e X.env
   standAt b.atName
   let (f,first) ← holding [r] (getMethod r m pl)
   callWith pos f first (backTo pos (starEach args X.env)) (backToKw pos (keywordEach [] X.env)))) :
  wpAny (model X.prog X.w) X.A (eval (.Call (.Attribute e m b) args [] pos) X.env) Q X.xe s:=by
 refine PySem.W.methodCall_KW (pl:=pl) (Hk (y d s i H _ I h) λu j v=>?_) z;obtain⟨x,n,p,D,a,C,t,fs,g,ex,B,c,k,l,q⟩:=v;subst ex;obtain rfl:u=Value.ref a:=D;exact nA p B c k l (q j p)
end
section
variable {X:Cx}{pins:GX}{σ:St}{H:Hp}{s:Shared}{A:Around}{E:GW}{Q:GW}{c:Value}{b:Bool}
inductive JT (K:GV) (H:Hp):V->Value->Prop where
 |Ho:JT K H .Ho (.type "NoneType")
 |bl (x:Bool):JT K H (.bl x) (.type "bool")
 |int (i:Int):JT K H (.int i) (.type "int")
 |str (x:Str):JT K H (.str x) (.type "str")
 |Ph (x:UInt64):JT K H (.Ph x) (.type "float")
 |lst {a:Addr}{xs:List V}(e:H a=some (.lst xs)):JT K H (.ref a) (.type "list")
 |MA {a:Addr}{o:Obj}{xs:List V}(e:H a=some (.MA o (.lst xs))):JT K H (.ref a) (.type "list")
 |tup {a:Addr}{xs:List V}(e:H a=some (.tup xs)):JT K H (.ref a) (.type "tuple")
 |dK {a:Addr}{kvs:List (Key×V)}(e:H a=some (.dK kvs)):JT K H (.ref a) (.type "dict")
 |dT {a:Addr}{kvs:List (List Key×V)}(e:H a=some (.dT kvs)):JT K H (.ref a) (.type "dict")
 |ins {a C dx:Addr}{fs:List (Str×V)}(e:H a=some (.ins C dx fs)) (cl:Lw K C) (ha:PySem.W.findIn K (.ref C) "__class__"=some (some (.builtin "object.__class__")))
   (hn:PySem.W.specialIn K (.builtin "object.__class__") "__get__"=some (some (.builtin "getset_descriptor.__get__"))) (Yg:PySem.W.takesIn K (.builtin "object.__class__")=some true)
   (hm:PySem.W.mroIn K C (.type "object")=some true):JT K H (.ref a) (.ref C)
end
structure Hv (k:Nat) (A:Around):Prop where
 hd:A.handled=none
 dp:A.depth+3*k+5<recursionLimit
 un:A.units+16*k+200<cLine
 gd:A.guards=some []
theorem Hv.mono {j k:Nat}{A:Around}(r:Hv k A)(h:j<=k):Hv j A:=⟨r.hd,by have:=r.dp;omega,by have:=r.un;omega,r.gd⟩
theorem Hv.deeper {k:Nat}{A:Around}(r:Hv (k+1) A)(env:Env):Hv k (A.deeper env):=
 ⟨r.hd,by have:=r.dp;show A.depth+1+3*k+5 < _;omega,by have:=r.un;show A.units+3+16*k+200 < _;omega,r.gd⟩
theorem u4 {A:Around}{C:Addr}{us:List Value}{kw:List (Str×Value)}:(A.under (.builtin "type.__call__" ⟨.ref C::us,kw⟩)).depth=A.depth+1:=by
 first |rfl |simp[Around.under,Code.weight,Code.isCreation,Code.isGuard,Code.isCaller,Code.frames,Code.isFrame,guardIds]
theorem u3 {A:Around}{C:Addr}{us:List Value}{kw:List (Str×Value)}:(A.under (.builtin "type.__call__" ⟨.ref C::us,kw⟩)).units=A.units+1:=by
 first |rfl |simp[Around.under,Code.cUnits,Code.frames,Code.isFrame]
theorem sE {A:Around}{C:Addr}{us:List Value}{kw:List (Str×Value)}:(A.under (.builtin "type.__call__" ⟨.ref C::us,kw⟩)).guards=A.guards:=by
 first |rfl |simp[Around.under,Code.guards,Code.isGuard,guardIds,pushGuards]
theorem Hv.make {k:Nat}{A:Around}(r:Hv (k+1) A)(C:Addr)(us:List Value)(kw:List (Str×Value)):Hv k (A.under (.builtin "type.__call__" ⟨.ref C::us,kw⟩)):=
 ⟨r.hd,by have:=r.dp;rw[u4];omega,by have:=r.un;rw[u3];omega,by rw[sE];exact r.gd⟩
theorem Hv.depth {k:Nat}{A:Around}(r:Hv k A):A.depth<recursionLimit:=by have:=r.dp;omega
theorem Hv.units {k:Nat}{A:Around}(r:Hv k A):A.units+64<cLine:=by have:=r.un;omega
def pW:TA:=λ_ H Q=>Q [] H
def Cd (e:TE)(c:TA):TA:=λa H Q=>e a H λx f=>c a f λd b=>Q (x::d) b
section
variable {X:Cx}{e:Expr}{es:List Expr}{te:TE}{t:TA}{pos:Pos}
theorem Ib:PA X [] pW:=λ_ _ _ _ H Q I h=>Calls.spliced_nil ⟨[],H,I,.nil,h⟩
theorem dM (c:PE X e te)(d:PA X es t)(i:starEach (e::es) X.env=(false,eval e X.env)::starEach es X.env:=by rfl):PA X (e::es) (Cd te t):=by intro pos a s b H Q I h;rw[i];show wpAny _ _ (spliced ((false,eval e X.env)::backTo pos (starEach es X.env))) _ _ s;refine Calls.spliced_cons (Hk (c a s b H _ I h) λu f k=>?_);obtain⟨x,q,o,g,p⟩:=k;exact Hk (d pos a f b q _ o p) λv w ⟨m,l,j,n,r⟩=>⟨x::m,l,j,.cons g n,r⟩
def Fu (t:TA):TE:=λc H Q=>t c H λa b=>a.length<=sizeLine/\∀ p,b p=none->Q (.ref p) (upd b p (.tup a))
def Fx (t:TA):TE:=λc H Q=>t c H λa b=>a.length<=sizeLine/\∀ p,b p=none->Q (.ref p) (upd b p (.lst a))
theorem C9 {x1}(h:PA X es t):PE X (.Tuple es x1 pos) (Fu t):=by intro a s i H Q I j;refine wpAny_Tuple_spliced (Hk (h pos a s i H _ I j) λg c ⟨k,f,d,r,z,q⟩=>⟨by rw[← r.length];exact z,?_⟩);have l:f c.heap.objs.size=none:=d.Hq.fresh (le_refl _);refine⟨.ref c.heap.objs.size,upd f c.heap.objs.size (.tup k),d.laid (t':=c.toks) (λb u e=>Heap.get?_push_of_some _ e) (le_refl _) ?_,rfl,q _ l⟩;exact⟨z,g,r,Kl.new _ _⟩
theorem zm (h:PA X es t):PE X (.List es pos) (Fx t):=by intro a s i H Q I j;refine wpAny_List_spliced (Hk (h pos a s i H _ I j) λg c ⟨k,f,d,r,z,q⟩=>⟨by rw[← r.length];exact z,?_⟩);have l:f c.heap.objs.size=none:=d.Hq.fresh (le_refl _);refine⟨.ref c.heap.objs.size,upd f c.heap.objs.size (.lst k),d.laid (t':=c.toks) (λb u e=>Heap.get?_push_of_some _ e) (le_refl _) ?_,rfl,q _ l⟩;exact⟨z,g,0,r,Heap.get?_push_size _ rfl⟩
end
abbrev Sp:=List V->Hp->VK->XK->Prop
abbrev MC:=List Env->Hp->Shared->XK->GW
structure Lx (P:Program) (w:World) (K:GV) (mg:GY) (base:Heap) (A:Around) (outer:List Env) (s:Shared) (H:Hp):Prop where
 frames:A.frames=some outer
 mod:Mod K mg base
 bs:∀ b o,base.get? b=some o->s.heap.get? b=some o/\H b=none
 Nt:base.objs.size<=s.heap.objs.size
 JG:s.heap.FunFrames base outer
 Oy:∀ b∈L9 outer,H b=none
 Hq:IY P w H s.heap
 bare:AllBare s.gens
def CE (outer:List Env)(P:Program)(w:World)(H:Hp)(s:Shared)(Q:VK)(u:Value)(s':Shared):Prop:=
 ∃ v a,s'.os=s.os/\AllBare s'.gens/\Un (L9 outer) [] H a s.heap s'.heap/\IY P w a s'.heap/\RelV v u/\Q v a
def CR (CX:MC)(outer:List Env)(P:Program)(w:World)(H:Hp)(s:Shared)(Q:VK)(E:XK)(r:Result)(s':Shared):Prop:=
 match r with
 | .ok (.ret u)=>CE outer P w H s Q u s'
 | .ok _=>False
 | .error e=>CX outer H s E e s'
structure IE (P:Program) (w:World) (K:GV) (mg:GY) (base:Heap) (CX:MC) (k:Nat) (f:Addr) (fd:FuncData) (ps:List Str) (sp:Sp):Prop where
 len:∀ vs H Q E,sp vs H Q E->vs.length=ps.length
 run:∀ (A:Around) (outer:List Env) (s:Shared) (H:Hp) (args:Args) (us:List Value) (vs:List V) (Q:VK) (E:XK),Hv k A->Lx P w K mg base A outer s H->BindsTo s fd args (ps.zip us)->Vals vs us->sp vs H Q E ->
  codeAny (model P w) A (.call (.ref f) args) (CR CX outer P w H s Q E) s
theorem IE.imp {P:Program}{w:World}{K:GV}{mg:GY}{base:Heap}{CX:MC}{k:Nat}{f:Addr}{fd:FuncData}{a:List Str}{sp b:Sp}(F:IE P w K mg base CX k f fd a sp)
  (h:∀ vs H Q E,b vs H Q E->sp vs H Q E):IE P w K mg base CX k f fd a b:=
 ⟨λvs H Q E q=>F.len vs H Q E (h _ _ _ _ q),λA outer s H args c vs Q E d i j g e=>F.run A outer s H args c vs Q E d i j g (h _ _ _ _ e)⟩
theorem Lx.make {P:Program}{w:World}{K:GV}{mg:GY}{base:Heap}{A:Around}{outer:List Env}{s:Shared}{H:Hp}(e:Lx P w K mg base A outer s H)(C:Addr)(us:List Value)(kw:List (Str×Value)) :
  Lx P w K mg base (A.under (.builtin "type.__call__" ⟨.ref C::us,kw⟩)) outer s H:=⟨by first |exact e.frames |(simpa [Around.under,Code.envs,Code.isFrame,pushEnvs] using e.frames),e.mod,e.bs,e.Nt,e.JG,e.Oy,e.Hq,e.bare⟩
section
variable {X:Cx}{pins:GX}{σ:St}{H:Hp}{s s':Shared}
theorem Inv.P5 (I:Inv X pins σ H s):Lx X.prog X.w X.K X.mg X.base X.A X.stack s H:=
 ⟨I.ok.frames,I.ok.mod,I.bs,Nat.le_trans I.ok.Nt I.sz,I.stack,I.LM,I.Hq,I.bare⟩
theorem Inv.after {Q:VK}{u:Value}(I:Inv X pins σ H s)(h:CE X.stack X.prog X.w H s Q u s'):EP X pins σ Q u s':=by obtain⟨v,c,os,bare,un,Hq,r,q⟩:=h;obtain⟨a,g,d,t,e⟩:=s';obtain rfl:e=s.os:=os;exact⟨v,c,I.call (h':=a) (g':=g) (d':=d) (t':=t) (ch:=[]) un Hq bare (λb z=>absurd z (by simp)),r,q⟩
end
def Ce (sp:Sp)(a:List V)(E:XK)(t:TA):TE:=λc H Q=>t c H λb d=>sp (b++a) d Q E
def Ef (C:Addr)(m:Str)(sp:Sp)(e:List V)(E:XK)(h:TE)(t:TA):TE:=λb H Q=>h b H λx c => ∃ a g fs,x = .ref a/\c a=some (.ins C g fs)/\fs.lookup m=none /\
 t b c λf d=>sp (x::(f++e)) d Q E
def Eg (C:Addr)(sp:Sp)(d:List V)(E:XK)(t:TA):TE:=λf H Q=>t f H λe b => ∀ x a,b x=none->b a=none->a≠x ->
 sp (.ref x::(e++d)) (upd (upd b a (.own x)) x (.ins C a [])) (λv c=>v = .Ho/\Q (.ref x) c) E
def Binds (K:GV)(fd:FuncData)(b:List Str)(ds:List Value):Prop:=
 ∀ (s:Shared) (a:List Value),K.In s.heap->(a++ds).length=b.length->BindsTo s fd ⟨a,[]⟩ (b.zip (a++ds))
theorem Binds.all {K:GV}{fd:FuncData}{a:List Str}(h:∀ us:List Value,us.length=a.length->bindArgs fd ⟨us,[]⟩=pure (a.zip us)):Binds K fd a []:=λs us _ b=>by rw[append_nil] at b ⊢;exact .of_eq (h us b)
def Passes (CX:MC)(X:Cx)(E:XK):Prop:=∀ (a:GX) (c:St) (H:Hp) (s:Shared) (e:Value) (b:Shared),Inv X a c H s->CX X.stack H s E e b->X.xe e b
section
variable {X:Cx}{CX:MC}{k:Nat}{f C:Addr}{fd:FuncData}{ps:List Str}{sp:Sp}{KS:List V}{ds:List Value}{E:XK}{x m:Str}{p pos apos:Pos}{e o:Expr}{es:List Expr}{ta:TE}{t:TA}
theorem yT {a:GX}{c:St}{H:Hp}{s:Shared}{Q:VK}{us:List Value}{vs:List V}(F:IE X.prog X.w X.K X.mg X.base CX k f fd ps sp)(g:Hv k X.A)(n:Binds X.K fd ps ds)(hd:Vals KS ds)(m:Passes CX X E)
  (I:Inv X a c H s) (r:Vals vs us) (h:sp (vs++KS) H Q E):wpAny (model X.prog X.w) X.A (call (.ref f) us) (EP X a c Q) X.xe s:=by
 have d:Vals (vs++KS) (us++ds):=r.append hd;have i:(us++ds).length=ps.length:=by rw[← d.length];exact F.len _ _ _ _ h
 refine wpAny_call (codeAny_mono (F.run X.A X.stack s H ⟨us,[]⟩ (us++ds) (vs++KS) Q E g I.P5 (n s us I.L_ i) d h) λr l b=>?_);cases r with
 |error e=>exact m a c H s e l I b
 |ok j =>
  cases j with
  |ret u=>exact I.after b
  |next=>exact False.elim b
  |brk=>exact False.elim b
  |cont=>exact False.elim b
theorem Bv (F:IE X.prog X.w X.K X.mg X.base CX k f fd ps sp)(d:Hv k X.A)(n:Gl X x)(v:X.mg x=some (.ref f))(o:PySem.W.keepIn X.K (.ref f)=true)(u:Binds X.K fd ps ds)(hd:Vals KS ds)(j:Passes CX X E)
  (c:PA X (e::es) t) (i:(x==("__debug__":Str))=false:=by decide) (m:starEach (e::es) X.env=(false,eval e X.env)::starEach es X.env:=by rfl) (l:(backTo pos (starEach es X.env)).any (·.1)=false:=by rfl) :
  PE X (.Call (.Name x p) (e::es) [] pos) (Ce sp KS E t):=by
 intro a s g H Q I h;refine wpAny_Call_Name_kw (wn I n v ?_ i);refine PySem.W.callWith_K (h₀:=X.base) I.ok.mod.PN o (Hk (c pos a s g H _ I h) λy z ⟨B,C,b,r,q⟩=>⟨b.L_,?_⟩) m l;exact yT F d u hd j b r q
theorem Br {pl:Sem Bool}(J:PE X o ta)(c:Lw X.K C)(n:Meth X.K C m f)(F:IE X.prog X.w X.K X.mg X.base CX k f fd ps sp)(v:Hv k X.A)(P:Binds X.K fd ps ds)(hd:Vals KS ds)(D:Passes CX X E)(p:PA X (e::es) t)
  (B:starEach (e::es) X.env=(false,eval e X.env)::starEach es X.env:=by rfl) (G:(backTo pos (starEach es X.env)).any (·.1)=false:=by rfl)
  (L:eval (.Call (.Attribute o m apos) (e::es) [] pos) X.env=(do
   let j ← eval o X.env
   standAt apos.atName
   let (f,first) ← holding [j] (getMethod j m pl)
   callWith pos f first (backTo pos (starEach (e::es) X.env)) (backToKw pos (keywordEach [] X.env))):=by rfl) :
  PE X (.Call (.Attribute o m apos) (e::es) [] pos) (Ef C m sp KS E ta t):=by
 intro b s d H Q I h;refine PySem.W.methodCall_KW (pl:=pl) (Hk (J b s d H _ I h) λu y z=>?_) L;obtain⟨x,M,i,O,a,U,fs,ex,N,l,q⟩:=z;subst ex;obtain rfl:u=Value.ref a:=O;refine nA i N c n l ?_;refine PySem.W.callWith_K (first:=[.ref a]) (h₀:=X.base) I.ok.mod.PN n.kp (Hk (p pos b y d M _ i q) λus T ⟨vs,S,g,r,R⟩=>⟨g.L_,?_⟩) B G;exact yT (us:=.ref a::us) (vs:=.ref a::vs) F v P hd D g (.cons rfl r) R
structure Mk (K:GV) (C f:Addr):Prop where
 makes:PySem.W.makesIn K C=true
 init:PySem.W.findIn K (.ref C) "__init__"=some (some (.ref f))
 fn:PySem.W.isFn K (.ref f)=true
 kp:PySem.W.keepIn K (.ref C)=true
theorem yS {a:GX}{g:St}{H:Hp}{s:Shared}{Q:VK}{us:List Value}{vs:List V}(M:Mk X.K C f)(F:IE X.prog X.w X.K X.mg X.base CX k f fd ps sp)(m:Hv (k+1) X.A)(B:Binds X.K fd ps ds)(hd:Vals KS ds)
  (t:Passes CX X E) (I:Inv X a g H s) (r:Vals vs us)
  (h:∀ x d,H x=none->H d=none->d≠x->sp (.ref x::(vs++KS)) (upd (upd H d (.own x)) x (.ins C d [])) (λv y=>v = .Ho/\Q (.ref x) y) E) :
  wpAny (model X.prog X.w) X.A (call (.ref C) us) (EP X a g Q) X.xe s:=by
 have i:=h (s.heap.objs.size+1) s.heap.objs.size (I.Hq.fresh (le_succ _)) (I.Hq.fresh (le_refl _)) (ne_of_lt (lt_succ_self _));have c:=Inv.made (C:=C) I;have j:Vals (V.ref (s.heap.objs.size+1)::(vs++KS)) (Value.ref (s.heap.objs.size+1)::(us++ds)):=.cons rfl (r.append hd);have n:(Value.ref (s.heap.objs.size+1)::us++ds).length=ps.length:=by have e:=j.length;rw[F.len _ _ _ _ i] at e;exact e.symm
 refine wpAny_call (zO (f:=f) I.L_ M.makes M.init (beq_iff_eq.mp M.fn) (codeAny_mono (F.run _ X.stack _ _ ⟨Value.ref (s.heap.objs.size+1)::us,[]⟩ (Value.ref (s.heap.objs.size+1)::(us++ds)) _ _ E (m.make C us [])
  (c.P5.make C us []) (B _ (Value.ref (s.heap.objs.size+1)::us) c.L_ n) j i) λr p b=>?_))
 cases r with
 |error e=>exact t a g _ _ e p c b
 |ok o =>
  cases o with
  |ret u =>
   obtain⟨v,z,l,q,ev,D⟩:=c.after b;subst ev;exact⟨q,⟨V.ref (s.heap.objs.size+1),z,l,rfl,D⟩⟩
  |next=>exact False.elim b
  |brk=>exact False.elim b
  |cont=>exact False.elim b
theorem Bs (M:Mk X.K C f)(F:IE X.prog X.w X.K X.mg X.base CX k f fd ps sp)(d:Hv (k+1) X.A)(n:Gl X x)(u:X.mg x=some (.ref C))(o:Binds X.K fd ps ds)(hd:Vals KS ds)(j:Passes CX X E)
  (c:PA X (e::es) t) (i:(x==("__debug__":Str))=false:=by decide) (m:starEach (e::es) X.env=(false,eval e X.env)::starEach es X.env:=by rfl) (l:(backTo pos (starEach es X.env)).any (·.1)=false:=by rfl) :
  PE X (.Call (.Name x p) (e::es) [] pos) (Eg C sp KS E t):=by
 intro a s g H Q I h;refine wpAny_Call_Name_kw (wn I n u ?_ i);refine PySem.W.callWith_K (h₀:=X.base) I.ok.mod.PN M.kp (Hk (c pos a s g H _ I h) λv y ⟨z,B,b,r,q⟩=>⟨b.L_,?_⟩) m l;exact yS M F d o hd j b r q
end
section
variable {X:Cx}{CX:MC}{k:Nat}{f C:Addr}{fd:FuncData}{ps ks:List Str}{sp:Sp}{E:XK}{x m:Str}{p pos apos VU:Pos}{e o:Expr}{es:List Expr}{Yh:List Keyword}{te ta:TE}{t tk:TA}{nm:Option Str}
structure Sv (K:GV) (fd:FuncData) (ps ks:List Str) (g:List Value->List Value->List Value) (gV:List V->List V->List V):Prop where
 to:∀ (s:Shared) (us ws:List Value),K.In s.heap->(g us ws).length=ps.length->BindsTo s fd ⟨us,ks.zip ws⟩ (ps.zip (g us ws))
 rel:∀ {vs:List V}{us:List Value}{zs:List V}{ws:List Value},Vals vs us->Vals zs ws->Vals (gV vs zs) (g us ws)
variable {g:List Value->List Value->List Value}{gV:List V->List V->List V}
end
structure G4 (N P:List Str) (sc:Scope):Prop where
 kind:sc.kind = .function
 co:sc.isCoroutine=false
 gen:sc.isGenerator=false
 nd:N.Nodup
 pre:N.take P.length=P
 par:∀ x∈P,sc.names.lookup x=some .local∨sc.names.lookup x=some .cell
 OH:∀ y∈sc.names,y.2≠.free
theorem pK {kindOf:Str->Option NameKind}{x:Str}:∀ {binds:List (Str×Value)}{m:GY},(∀ v,(x,v)∉binds)->bindL kindOf binds m x=m x
 |[],_,_=>rfl
 |(n,v)::r,m,h=>by
  unfold bindL;rw[pK λw a=>h w (mem_cons_of_mem _ a)];split
  ·have:x≠n:=by rintro rfl;exact h v mem_cons_self
   simp[this]
  rfl
theorem pM {kindOf:Str->Option NameKind}{x:Str}:∀ {binds:List (Str×Value)}{m:GY},(∀ v,(x,v)∉binds)->bindC kindOf binds m x=m x
 |[],_,_=>rfl
 |(n,v)::r,m,h=>by
  unfold bindC;rw[pM λw a=>h w (mem_cons_of_mem _ a)];split
  ·rfl
  have:x≠n:=by rintro rfl;exact h v mem_cons_self
  simp[this]
theorem pL {kindOf:Str->Option NameKind}{x:Str}{v:Value}:∀ {P:List Str}{vs:List Value}{i:Nat}{m:GY},P.Nodup->P[i]?=some x->vs[i]?=some v->kindOf x=some .local ->
  bindL kindOf (P.zip vs) m x=some v
 |[],_,_,_,_,h,_,_=>by simp at h
 |_::_,[],_,_,_,_,h,_=>by simp at h
 |p::P,w::vs,0,m,nd,h1,h2,hk=>by
  simp at h1 h2;subst h1;subst h2;show bindL kindOf ((p,w)::P.zip vs) m p=_;unfold bindL;rw[pK λv a=>(nodup_cons.mp nd).1 (of_mem_zip a).1,if_pos hk];simp
 |p::P,w::vs,i+1,m,nd,h1,h2,hk=>by
  show bindL kindOf ((p,w)::P.zip vs) m x=_;unfold bindL;exact pL (i:=i) (nodup_cons.mp nd).2 (by simpa using h1) (by simpa using h2) hk
theorem pN {kindOf:Str->Option NameKind}{x:Str}{v:Value}:∀ {P:List Str}{vs:List Value}{i:Nat}{m:GY},P.Nodup->P[i]?=some x->vs[i]?=some v->kindOf x≠some .local ->
  bindC kindOf (P.zip vs) m x=some v
 |[],_,_,_,_,h,_,_=>by simp at h
 |_::_,[],_,_,_,_,h,_=>by simp at h
 |p::P,w::vs,0,m,nd,h1,h2,hk=>by
  simp at h1 h2;subst h1;subst h2;show bindC kindOf ((p,w)::P.zip vs) m p=_;unfold bindC;rw[pM λv a=>(nodup_cons.mp nd).1 (of_mem_zip a).1,if_neg hk];simp
 |p::P,w::vs,i+1,m,nd,h1,h2,hk=>by
  show bindC kindOf ((p,w)::P.zip vs) m x=_;unfold bindC;exact pN (i:=i) (nodup_cons.mp nd).2 (by simpa using h1) (by simpa using h2) hk
def start (N:List Str)(vs:List V):St:=vs.map some++replicate (N.length-vs.length) none
def lR (CX:MC)(P:Program)(w:World)(K:GV)(mg:GY)(base:Heap)(N:List Str)(qual:Str)(scope:Scope)(f:Addr)(a:Value)(A:Around)(outer:List Env)(s:Shared)(H:Hp)(E:XK):Cx where
 prog:=P
 w:=w
 K:=K
 mg:=mg
 base:=base
 A:=A.deeper (envOfC qual scope s.heap.objs.size f a)
 N:=N
 s₀:=s
 H₀:=H
 env:=envOfC qual scope s.heap.objs.size f a
 outer:=outer
 stack:=envOfC qual scope s.heap.objs.size f a::outer
 ex:=[]
 calm:=true
 fn:=λ_=>true
 pn:=[]
 xe:=λe d=>wpAny (model P w) (A.deeper (envOfC qual scope s.heap.objs.size f a)) (leaving (envOfC qual scope s.heap.objs.size f a) e) (λ_ b=>CX outer H s E e b) (λc b=>CX outer H s E c b) d
theorem tI {sc:Scope}{n:Nat}{x:Str}(h:sc.names.lookup x=some .cell):∃ c,(cellsFrom n sc.names []).lookup x=some c:=by have q:=PySem.W.cellsFrom_some sc.names n [] (.inl h);exact Option.isSome_iff_exists.mp q
theorem xT {CX:MC}{P:Program}{w:World}{K:GV}{mg:GY}{base:Heap}{N j:List Str}{qual:Str}{scope:Scope}{f:Addr}{m:Value}{A:Around}{outer:List Env}{s C:Shared}{H:Hp}{E:XK}{us:List Value}{vs:List V}
  (S:G4 N j scope) (hd:A.handled=none) (g:Lx P w K mg base A outer s H) (L:vs.length=j.length) (r:Vals vs us)
  (x:InCallC s s.heap.objs.size (bindL (envOfC qual scope s.heap.objs.size f m).kindOf (j.zip us) λ_=>none) (cellsFrom (s.heap.objs.size+1) scope.names []) (bindC (envOfC qual scope s.heap.objs.size f m).kindOf (j.zip us) λ_=>none) C) :
  Inv (lR CX P w K mg base N qual scope f m A outer s H E) [] (start N vs) H C:=by
 have O:j.length<=N.length:=by have:=congrArg List.length S.pre;rw[length_take] at this;omega
 obtain⟨t,tk,rfl,G⟩:=x.done;have B:∀ b:Addr,b∉(lR CX P w K mg base N qual scope f m A outer s H E).ex:=λb z=>absurd (show b∈([]:List Addr) from z) (by simp)
 refine⟨⟨g.mod,S.kind,rfl,rfl,le_refl _,λy z c t d=>?_,λy hy=>?_,λy c _ h=>?_,λ_=>hd,Around.frames_deeper g.frames,.inr ⟨rfl,rfl⟩,λb z=>absurd z (B b),g.bs,g.Nt,λb _ _=>B b,λb z=>absurd z (B b),g.JG,g.Oy⟩,
  rfl,g.bare,Un.kept G,⟨_,x.toInCall.ns,λi y v t d M=>?_⟩,λy c h=>⟨_,x.cell y c h⟩,g.Hq.fresh (le_refl _),λy c h=>?_,λp l=>absurd (show p∈([]:GX) from l) (by simp),g.Hq.kept G,?_⟩
 ·exact name_of_addr x.apart (PySem.mem_of_lookup t) (PySem.mem_of_lookup d)
 ·have hy:scope.names.lookup y=some .cell∨scope.names.lookup y=some .free:=hy;rcases hy with hy |hy
  ·exact tI hy
  exact absurd rfl (S.OH _ (PySem.mem_of_lookup hy))
 ·exact Nat.le_of_lt (x.above y c (PySem.mem_of_lookup h))
 ·have o:i<vs.length:=by
   unfold start at d;by_cases o:i<vs.length
   ·exact o
   rw[getElem?_append_right (by simpa using o)] at d;rw[getElem?_replicate] at d;split at d<;>cases d
  have I:vs[i]?=some v:=by
   unfold start at d;rw[getElem?_append_left (by simpa using o),getElem?_map] at d;cases e:vs[i]? with
   |none=>rw[e] at d;cases d
   |some a=>rw[e] at d;cases d;rfl
  obtain⟨u,F,J⟩:=r.get I;have l:j[i]?=some y:=by rw[← S.pre,List.getElem?_take_of_lt (by omega)];exact t
  have D:j.Nodup:=by rw[← S.pre];exact S.nd.sublist (List.take_sublist _ _)
  refine⟨u,J,?_⟩;rcases S.par y (mem_of_getElem? l) with k |k
  ·exact .inl ⟨k,pL D l F k⟩
  obtain⟨c,e⟩:=tI (n:=s.heap.objs.size+1) k;refine .inr ⟨.inl k,c,e,?_⟩;have q:=x.cell y c e;rw[pN D l F (by show scope.names.lookup y≠_;rw[k];decide)] at q;exact q
 ·exact g.Hq.fresh (Nat.le_of_lt (x.above y c (PySem.mem_of_lookup h)))
 unfold start;show _=N.length;rw[List.length_append,length_map,length_replicate];omega
theorem EX {CX:MC}{P:Program}{w:World}{K:GV}{mg:GY}{base:Heap}{k:Nat}{f:Addr}{name qual:Str}{params:Arguments}{body:List Stmt}{scope:Scope}{B kV doc p c ct R:Value}{D Z:Option Addr}
  {Mb:Array (Option Value)}{N h:List Str}{sp:Sp}(lk:K.lookup f=some ⟨R,Z,.func (PySem.W.fnOf name qual params body scope B kV doc p D c ct),Mb⟩) (LN:PySem.W.codeIn K c qual=true) (S:G4 N h scope)
  (len:∀ vs H Q E,sp vs H Q E->vs.length=h.length)
  (Y:∀ (A:Around) (outer:List Env) (s:Shared) (H:Hp) (vs:List V) (Q:VK) (E:XK),Hv k (A.deeper (envOfC qual scope s.heap.objs.size f c))->sp vs H Q E ->
   ∃ t,Lp (lR CX P w K mg base N qual scope f c A outer s H E) body t/\t { nx:=λ_ H'=>Q .Ho H',rt:=Q } (start N vs) H) :
  IE P w K mg base CX (k+1) f (PySem.W.fnOf name qual params body scope B kV doc p D c ct) h sp:=by
 refine⟨len,λA outer s H args O vs Q E j g M r C=>?_⟩;have T:=len _ _ _ _ C;have KX:K.In s.heap:=g.mod.PN.keeps λb o e=>(g.bs b o e).1;have m:s.heap.NoLimit:=g.mod.nolimit.keeps λb o e=>(g.bs b o e).1
 have G:∀ y∈h.zip O,scope.names.lookup y.1=some .local∨(scope.names.lookup y.1=some .cell/\((cellsFrom (s.heap.objs.size+1) scope.names []).lookup y.1).isSome=true):=λL F=>by
  obtain⟨n,v⟩:=L
  rcases S.par n (of_mem_zip F).1 with q |q
  ·exact .inl q
  exact .inr ⟨q,PySem.W.cellsFrom_some _ _ _ (.inl q)⟩
 refine codeAny_call_function j.depth (KX _ _ lk) rfl S.co S.gen rfl (PySem.W.codeRec_of KX LN) (M _ _ _ _ ?_);refine wpAny_newFunctionEnv_cells S.kind G λenv he z x=>?_;subst he;refine⟨m.keeps x.toInCall.keep,codeAny_func ?_⟩;obtain⟨t,ht,X⟩:=Y A outer s H vs Q E (j.deeper _) C;have I:Inv (lR CX P w K mg base N qual scope f c A outer s H E) [] (start N vs) H z:=xT S j.hd g T r x;refine wpAny_mono (ht [] z (start N vs) H _ I X) (λU i d=>?_) λe i d=>d
 have fin:∀ {a:St}{H':Hp}{v:V}{u:Value},Inv (lR CX P w K mg base N qual scope f c A outer s H E) [] a H' i->RelV v u->Q v H'->CE outer P w H s Q u i:=
  λ{a H' v u} J l q=>⟨v,H',J.os,J.bare,J.base,J.Hq,l,q⟩
 cases U with
 |ret u =>
  obtain⟨v,a,H',J,l,q⟩:=d;exact fin J l q
 |next =>
  obtain⟨a,H',J,q⟩:=d;exact fin (v:=V.Ho) (u:=Value.none) J rfl q
 |brk =>
  obtain⟨_,_,_,q⟩:=d;exact False.elim q
 |cont =>
  obtain⟨_,_,_,q⟩:=d;exact False.elim q
section
variable {X:Cx}{x:Str}{p pos:Pos}{e:Expr}{es:List Expr}{t:TA}{id T:String}{r:List V->Hp->VK->Prop}
def Sw (r:List V->Hp->VK->Prop)(t:TA):TE:=λb H Q=>t b H λa c=>r a c Q
theorem jD (f:h_ X (.builtin id) r)(u:Gl X x)(y:X.mg x=none)(l:bootBuiltins x=some (.builtin id))(d:PA X (e::es) t)(w:x≠"__name__":=by decide)(k:(x==("__debug__":Str))=false:=by decide)
  (o:starEach (e::es) X.env=(false,eval e X.env)::starEach es X.env:=by rfl) (m:(backTo pos (starEach es X.env)).any (·.1)=false:=by rfl):PE X (.Call (.Name x p) (e::es) [] pos) (Sw r t):=by
 intro a s b H Q I h;refine wpAny_Call_Name_kw (i4 I u y l ?_ w k);exact PyProof.Rows.callWith_builtin1 (Hk (d pos a s b H _ I h) λc g ⟨j,v,n,i,q⟩=>f a g b v j c Q n i q) o m
theorem ko (f:h_ X (.type T) r)(u:Gl X x)(y:X.mg x=none)(l:bootBuiltins x=some (.type T))(d:PA X (e::es) t)(w:x≠"__name__":=by decide)(k:(x==("__debug__":Str))=false:=by decide)
  (o:starEach (e::es) X.env=(false,eval e X.env)::starEach es X.env:=by rfl) (m:(backTo pos (starEach es X.env)).any (·.1)=false:=by rfl):PE X (.Call (.Name x p) (e::es) [] pos) (Sw r t):=by
 intro a s b H Q I h;refine wpAny_Call_Name_kw (i4 I u y l ?_ w k);exact PyProof.Rows.callWith_type1 (Hk (d pos a s b H _ I h) λc g ⟨j,v,n,i,q⟩=>f a g b v j c Q n i q) o m
end
section
variable {κ:Type} [DecidableEq κ]
def jr (kvs:List (κ×V))(k : κ):Option V:=(kvs.find? λa=>decide (a.1=k)).map (·.2)
def putK (kvs:List (κ×V))(k : κ)(v:V):List (κ×V):=
 if (kvs.any λa=>decide (a.1=k))=true then kvs.map (λa=>if a.1=k then (a.1,v) else a) else kvs++[(k,v)]
theorem mC {p : κ×V}{r:List (κ×V)}{k : κ}(e:p.1=k):jr (p::r) k=some p.2:=by simp[jr,find?_cons,e]
theorem mD {p : κ×V}{r:List (κ×V)}{k : κ}(e:¬ p.1=k):jr (p::r) k=jr r k:=by simp[jr,find?_cons,e]
theorem rz (k : κ):∀ kvs:List (κ×V),(kvs.any λa=>decide (a.1=k))=(jr kvs k).isSome
 |[]=>rfl
 |p::r=>by
  rw[any_cons];by_cases e:p.1=k
  ·simp only[mC e,decide_eq_true e,Bool.true_or,Option.isSome_some]
  rw[mD e,decide_eq_false e,Bool.false_or];exact rz k r
theorem lv (kvs:List (κ×V))(k : κ)(v:V):(putK kvs k v).length<=kvs.length+1:=by
 unfold putK;split
 ·rw[length_map];omega
 rw[List.length_append,length_cons,length_nil];omega
theorem Iz.HU {o:Option V}{u:Option Value}(r:Iz o u):o.isSome=u.isSome:=by
 cases o with
 |none=>cases u with
  |none=>rfl
  |some _=>exact(show False from r).elim
 |some _=>cases u with
  |none=>exact(show False from r).elim
  |some _=>rfl
theorem KV.val {kvs:List (κ×V)}{vs:List (κ×Value)}(r:KV kvs vs)(k : κ):Iz (jr kvs k) (valueAt vs k):=by
 unfold KV at r
 induction r with
 |nil=>exact True.intro
 | @cons p q i c h t f =>
  obtain⟨d,g⟩:=h;by_cases e:p.1=k
  ·have a:q.1=k:=d.symm.trans e;have b:valueAt (q::c) k=some q.2:=by simp[valueAt,find?_cons,a]
   rw[mC e,b];exact g
  have a:¬ q.1=k:=λz=>e (d.trans z);have b:valueAt (q::c) k=valueAt c k:=by simp[valueAt,find?_cons,a]
  rw[mD e,b];exact f
theorem KV.any {kvs:List (κ×V)}{vs:List (κ×Value)}(r:KV kvs vs)(k : κ):(kvs.any λa=>decide (a.1=k))=vs.any λa=>decide (a.1=k):=by
 unfold KV at r
 induction r with
 |nil=>rfl
 |cons h t b=>rw[any_cons,any_cons,b,h.1]
theorem KV.OI {kvs:List (κ×V)}{vs:List (κ×Value)}(r:KV kvs vs)(k : κ){y:V}{u:Value}(f:RelV y u) :
  KV (kvs.map λa=>if a.1=k then (a.1,y) else a) (vs.map λa=>if a.1=k then (a.1,u) else a):=by
 unfold KV at r ⊢
 induction r with
 |nil=>exact .nil
 | @cons p q g i h t c =>
  rw[map_cons,map_cons];refine .cons ?_ c;obtain⟨b,d⟩:=h;by_cases e:p.1=k
  ·rw[if_pos e,if_pos (b.symm.trans e)];exact⟨b,f⟩
  rw[if_neg e,if_neg (λz=>e (b.trans z))];exact⟨b,d⟩
theorem KV.put {kvs:List (κ×V)}{vs:List (κ×Value)}(r:KV kvs vs)(k : κ){y:V}{u:Value}(a:RelV y u):KV (putK kvs k y) (stored vs k u):=by
 unfold putK stored;rw[r.any k];by_cases e:(vs.any λb=>decide (b.1=k))=true
 ·rw[if_pos e,if_pos e];exact r.OI k a
 rw[if_neg e,if_neg e];exact Paired.snoc r ⟨rfl,a⟩
theorem KV.length {kvs:List (κ×V)}{vs:List (κ×Value)}(r:KV kvs vs):kvs.length=vs.length:=Paired.length r
end
theorem o6 {P:Program}{w:World}{k:Key}{u:Value}(r:RelV (kV k) u):(bd P w).is k u=true:=by
 cases k with
 |inl i=>obtain⟨t,e⟩:=(show ∃ t,u=Value.int i t from r);subst e;exact sk P w i t
 |inr x=>obtain⟨t,e⟩:=(show ∃ t,u=Value.str x t from r);subst e;exact sj P w x t
theorem o7 {P:Program}{w:World}:∀ {a:List Key}{us:List Value},Vals (a.map kV) us->ItemsAre (bd P w) a us
 |[],_,r=>by rw[map_nil] at r;cases r;exact .nil
 |k::a,_,r=>by
  rw[map_cons] at r;cases r with
  |cons h t=>exact .cons (o6 h) (o7 t)
abbrev KT (H:Hp):List (List Key×V)->List (List Key×Addr×Value)->Prop:=Paired λp q=>p.1=q.1/\H q.2.1=some (.tup (p.1.map kV))/\RelV p.2 q.2.2
theorem KT.val {H:Hp}{kvs:List (List Key×V)}{xs:List (List Key×Addr×Value)}(r:KT H kvs xs)(k:List Key):Iz (jr kvs k) ((atKey xs k).map (·.2)):=by
 induction r with
 |nil=>exact True.intro
 | @cons p q i c h t f =>
  obtain⟨d,_,g⟩:=h;by_cases e:p.1=k
  ·have a:q.1=k:=d.symm.trans e;have b:atKey (q::c) k=some q.2:=by simp[atKey,find?_cons,a]
   rw[mC e,b];exact g
  have a:¬ q.1=k:=λz=>e (d.trans z);have b:atKey (q::c) k=atKey c k:=by simp[atKey,find?_cons,a]
  rw[mD e,b];exact f
theorem KT.OI {H:Hp}{kvs:List (List Key×V)}{xs:List (List Key×Addr×Value)}(r:KT H kvs xs)(k:List Key){y:V}{u:Value}(g:RelV y u) :
  KT H (kvs.map λb=>if b.1=k then (b.1,y) else b) (xs.map (putAt k u)):=by
 induction r with
 |nil=>exact .nil
 | @cons p q i j h t d =>
  rw[map_cons,map_cons];refine .cons ?_ d;obtain⟨a,c,f⟩:=h;unfold putAt;by_cases e:p.1=k
  ·rw[if_pos e,if_pos (a.symm.trans e)];exact⟨a,c,g⟩
  rw[if_neg e,if_neg (λz=>e (a.trans z))];exact⟨a,c,f⟩
theorem KT.put {H:Hp}{kvs:List (List Key×V)}{xs:List (List Key×Addr×Value)}(r:KT H kvs xs)(k:List Key){b:Addr}{y:V}{u:Value}(c:H b=some (.tup (k.map kV)))(a:RelV y u) :
  KT H (putK kvs k y) (storedH xs k b u):=by
 have e:(kvs.any λd=>decide (d.1=k))=(atKey xs k).isSome:=by rw[rz,(r.val k).HU,isSome_map]
 unfold putK storedH;rw[e];by_cases q:(atKey xs k).isSome=true
 ·rw[if_pos q,if_pos q];exact r.OI k a
 rw[if_neg q,if_neg q];exact Paired.snoc r ⟨rfl,c,a⟩
theorem KT.keeps {H H':Hp}{kvs:List (List Key×V)}{xs:List (List Key×Addr×Value)}(r:KT H kvs xs)(a:∀ b ys,H b=some (.tup ys)->H' b=some (.tup ys)):KT H' kvs xs:=
 Paired.KL r λ_ _ z=>⟨z.1,a _ _ z.2.1,z.2.2⟩
section
variable {P:Program}{w:World}{H:Hp}{h:Heap}{a:Addr}
theorem Ch {u:HO}(ok:IY P w H h)(e:Rd H a u):Hz P w H h a u:=e.ok ok
theorem tf {kvs:List (Key×V)}(ok:IY P w H h)(e:Rd H a (.dK kvs)):kvs.length<=sizeLine/\(a==sysModules)=false/\∃ vs,KV kvs vs/\h.DictOf (bd P w) a vs:=
 show Hz P w H h a (.dK kvs) from Ch ok e
theorem E8 {kvs:List (Key×V)}(ok:IY P w H h)(e:H a=some (.dK kvs)):kvs.length<=sizeLine/\(a==sysModules)=false/\∃ vs,KV kvs vs/\h.DictOf (bd P w) a vs:=tf ok (.inl e)
theorem nj {b:List Key}(ok:IY P w H h)(e:H a=some (.tup (b.map kV))):(tupleKind (bd P w)).is h b a:=by obtain⟨_,its,r,p⟩:=(show Hz P w H h a (.tup (b.map kV)) from ok a _ e);obtain⟨o,d,f,n,c⟩:=p.tup;exact⟨o,its.toArray,n,d,f,c,by simpa using o7 r⟩
theorem s_ {kvs:List (List Key×V)}(ok:IY P w H h)(e:Rd H a (.dT kvs)):kvs.length<=sizeLine/\(a==sysModules)=false /\
  ∃ xs,KT H kvs xs/\h.DictOfH (tupleKind (bd P w)) a xs:=by
 obtain⟨z,y,xs,r,o,es,ep,j,f,g,i,c⟩:=(show Hz P w H h a (.dT kvs) from Ch ok e);refine⟨z,y,xs,r,o,es,ep,j,f,g,i,λx hx=>?_,c⟩
 have all:∀ {l:List (List Key×V)}{m:List (List Key×Addr×Value)},KT H l m->∀ x∈m,(tupleKind (bd P w)).is h x.1 x.2.1:=by
  intro l m q
  induction q with
  |nil=>intro x hx;exact nomatch hx
  | @cons p q k n b t d =>
   intro x hx;rcases mem_cons.mp hx with e |hx
   ·subst e;exact nj ok (by rw[← b.1];exact b.2.1)
   exact d x hx
 exact all r x hx
theorem E7 {kvs:List (List Key×V)}(ok:IY P w H h)(e:H a=some (.dT kvs)):kvs.length<=sizeLine/\(a==sysModules)=false /\
  ∃ xs,KT H kvs xs/\h.DictOfH (tupleKind (bd P w)) a xs:=s_ ok (.inl e)
end
def JI (H:Hp)(a:Addr)(y:V)(r:Option V):Prop:=
 (∃ c k,Rd H a (.dK c)/\y=kV k/\r=jr c k)∨∃ c k b,Rd H a (.dT c)/\y = .ref b/\H b=some (.tup (k.map kV))/\r=jr c k
def MT (H:Hp)(a:Addr)(y v:V)(H':Hp):Prop:=
 (∃ c k,H a=some (.dK c)/\y=kV k/\c.length<sizeLine/\H'=upd H a (.dK (putK c k v))) ∨
 ∃ c k b,H a=some (.dT c)/\y = .ref b/\H b=some (.tup (k.map kV))/\c.length<sizeLine/\H'=upd H a (.dT (putK c k v))
theorem JI.k {H:Hp}{a:Addr}{kvs:List (Key×V)}{k:Key}(e:H a=some (.dK kvs)):JI H a (kV k) (jr kvs k):=.inl ⟨kvs,k,.inl e,rfl,rfl⟩
theorem MT.k {H:Hp}{a:Addr}{kvs:List (Key×V)}{k:Key}{v:V}(e:H a=some (.dK kvs))(b:kvs.length<sizeLine):MT H a (kV k) v (upd H a (.dK (putK kvs k v))):=.inl ⟨kvs,k,e,rfl,b,rfl⟩
section
variable {X:Cx}{pins:GX}{σ:St}{H:Hp}{s:Shared}{a:Addr}{y v:V}{u r:Value}{o:Option V}{A:Around}{E:GW}
theorem Inv.big (I:Inv X pins σ H s):sysModules<s.heap.objs.size:=by have h:mainGlobals<s.heap.objs.size:=(I.mod.glob.keeps I.bk).lt;exact Nat.lt_trans (by decide) h
theorem ye {Q:GW}(C:A.units+1<cLine)(I:Inv X pins σ H s)(g:JI H a y (some v))(n:RelV y u)(h:∀ c s',Inv X pins σ H s'->RelV v c->Q c s') :
  wpAny (model X.prog X.w) A (getItem (.ref a) u) Q E s:=by
 rcases g with ⟨j,k,e,m,l⟩ |⟨j,k,b,e,m,r,l⟩
 ·subst m;obtain⟨z,hd,t,rel,i⟩:=tf I.Hq e;obtain⟨c,f,d⟩:=Iz.some_of (v:=v) (o:=valueAt t k) (by rw[l];exact rel.val k);exact wpAny_getItem_of (o6 n) i.mapOf f (h c _ (I.tok _) d)
 subst m;cases (show u=Value.ref b from n);obtain⟨z,hd,x,rel,i⟩:=s_ I.Hq e;obtain⟨c,f,d⟩:=Iz.some_of (v:=v) (o:=(atKey x k).map (·.2)) (by rw[l];exact rel.val k);obtain⟨p,q,B⟩:=map_eq_some_iff.mp f;refine wpAny_getItem_heap (tupleKind_room_in1 C) (nj I.Hq r) i q ?_;rw[B];exact h c _ (I.tok _) d
theorem Ga {Q:GW}(m:A.units+1<cLine)(I:Inv X pins σ H s)(g:JI H a y o)(i:RelV y u)(h:∀ s',Inv X pins σ H s'->Q (.bool o.isSome) s') :
  wpAny (model X.prog X.w) A (compareOp .In u (.ref a)) Q E s:=by
 rcases g with ⟨d,k,e,f,l⟩ |⟨d,k,b,e,f,j,l⟩
 ·subst f;obtain⟨z,hd,n,rel,c⟩:=tf I.Hq e;refine wpAny_in_of (o6 i) hd c.mapOf ?_;rw[← (rel.val k).HU,← l];exact h _ (I.tok _)
 subst f;cases (show u=Value.ref b from i);obtain⟨z,hd,p,rel,c⟩:=s_ I.Hq e;refine wpAny_in_heap (tupleKind_room_in1 m) (nj I.Hq j) hd c ?_;have q:=(rel.val k).HU;rw[isSome_map] at q;rw[← q,← l];exact h _ (I.tok _)
theorem BW {Q:GW}(m:A.units+1<cLine)(I:Inv X pins σ H s)(g:JI H a y o)(i:RelV y u)(h:∀ s',Inv X pins σ H s'->Q (.bool (!o.isSome)) s') :
  wpAny (model X.prog X.w) A (compareOp .NotIn u (.ref a)) Q E s:=by
 rcases g with ⟨d,k,e,f,l⟩ |⟨d,k,b,e,f,j,l⟩
 ·subst f;obtain⟨z,hd,n,rel,c⟩:=tf I.Hq e;refine wpAny_notIn_of (o6 i) hd c.mapOf ?_;rw[← (rel.val k).HU,← l];exact h _ (I.tok _)
 subst f;cases (show u=Value.ref b from i);obtain⟨z,hd,p,rel,c⟩:=s_ I.Hq e;refine wpAny_notIn_heap (tupleKind_room_in1 m) (nj I.Hq j) hd c ?_;have q:=(rel.val k).HU;rw[isSome_map] at q;rw[← q,← l];exact h _ (I.tok _)
theorem qJ {h':Heap}{t':Nat}{c:HO}(I:Inv X pins σ H s)(d:PL (H a))(h:Heap.SameBut a s.heap h')(f:∃ q,h'.get? a=some q)(new:Hz X.prog X.w (upd H a c) h' a c) :
  Inv X pins σ (upd H a c) { s with heap:=h',toks:=t' }:=
 I.write (x:=a) (e:=a) d (.inl rfl) (λb q g z=>(h.2 b g).trans z) f new
theorem DF {P:Program}{w:World}{H':Hp}{h':Heap}{kvs:List (Key×V)}{vs:List (Key×Value)}(z:kvs.length<=sizeLine)(hd:(a==sysModules)=false)(rel:KV kvs vs)(b:h'.DictOf (bd P w) a vs) :
  Hz P w H' h' a (.dK kvs):=⟨z,hd,vs,rel,b⟩
theorem yd {H':Hp}{Q:Unit->Shared->Prop}(P:A.units+1<cLine)(I:Inv X pins σ H s)(g:MT H a y v H')(F:RelV y u)(D:RelV v r)(h:∀ s',Inv X pins σ H' s'->Q () s') :
  wpAny (model X.prog X.w) A (setItem (.ref a) u r) Q E s:=by
 rcases g with ⟨d,k,e,t,l,p⟩ |⟨d,k,b,e,t,C,l,p⟩
 ·subst t p;obtain⟨z,hd,K,rel,o⟩:=E8 I.Hq e;have j:K.length<=sizeLine:=by rw[← rel.length];exact z
  have m:(putK d k v).length<=sizeLine:=by have:=lv d k v;omega
  refine wpAny_setItem_pairs (hsz:=j) (o6 F) o λx f n=>h _ ?_;have N:∃ q,x.get? a=some q:=let ⟨q,_,_,i,_⟩:=f;⟨q,i⟩;exact qJ I (by rw[e];exact True.intro) n N (DF m hd (rel.put k D) f)
 subst t p;cases (show u=Value.ref b from F);obtain⟨z,hd,O,rel,o⟩:=E7 I.Hq e;have j:O.length<=sizeLine:=by rw[← Paired.length rel];exact z
 have m:(putK d k v).length<=sizeLine:=by have:=lv d k v;omega
 refine wpAny_setItem_heap (hsz:=j) (tupleKind_room_in1 P) (nj I.Hq C) o λx f n=>h _ ?_;obtain⟨q,es,ep,i,J,L,M,_,G⟩:=f;refine qJ I (by rw[e];exact True.intro) n ⟨q,i⟩ ⟨m,hd,_,(rel.put k C D).keeps λc R B=>?_,q,es,ep,i,J,L,M,G⟩;rw[aF (EI B e (λz=>nomatch z))];exact B
end
def yq (i:Expr):Prop:=∀ a b,subscripted i false a b=operate [a,b] (getItem a b)
theorem vT {prog:Program}{w:World}{A:Around}{E:GW}{s:Shared}{env:Env}{value slice:Expr}{pos:Pos}{T id:String}{Q:GW}
  (j:typeLookup (.type T) "__getitem__"=pure (some (.builtin id))) (k:yq slice)
  (h:wpAny (model prog w) A (eval value env) (λo d=>wpAny (model prog w) A (eval slice env) (λi a=>a.TypeIs o T/\wpAny (model prog w) A (getItem o i) Q E a) E d) E s) :
  wpAny (model prog w) A (eval (.Subscript value slice pos) env) Q E s:=by
 refine Subscript_ (wpAny_mono h (λo d e=>wpAny_mono e (λi a b=>?_) λ_ _ x=>x) λ_ _ x=>x);obtain⟨g,b⟩:=b;unfold subscriptTail;refine wpAny_bind ?_;rw[getitemInPython_of_ne g.not_modules];refine wpAny_bind (wpAny_specialOf g j ?_);have fin:wpAny (model prog w) A (subscripted slice false o i) (λr c=>wpAny (model prog w) A (letTemporaryGo value o r >>= λ_=>pure r) Q E c) E a:=by rw[k o i];exact wpAny_operating (wpAny_mono b (λr c f=>wpAny_bind (wpAny_letTemporaryGo (wpAny_pure f))) λ_ _ x=>x)
 first
  |exact wpAny_pure (wpAny_bind fin)
  |exact wpAny_bind (wpAny_pure (wpAny_bind fin))
  |exact wpAny_bind fin
theorem tm {X:Cx}{c:GX}{h:St}{H:Hp}{s:Shared}{a:Addr}{y:V}{o:Option V}(I:Inv X c h H s)(g:JI H a y o):s.TypeIs (.ref a) "dict":=by
 rcases g with ⟨d,k,e,_,_⟩ |⟨d,k,b,e,_,_,_⟩
 ·obtain⟨_,_,i,_,f⟩:=tf I.Hq e;exact f.typeIs
 obtain⟨_,_,j,_,f⟩:=s_ I.Hq e;exact f.typeIs
def Ei (d ty:TE):TE:=λc H Q=>d c H λx e=>ty c e λy b => ∃ a v,x = .ref a/\JI b a y (some v)/\Q v b
def FB (ty d:TE):TE:=λc H Q=>ty c H λy e=>d c e λx b => ∃ a o,x = .ref a/\JI b a y o/\Q (.bl o.isSome) b
def vS (ty d:TE):TE:=λc H Q=>ty c H λy e=>d c e λx b => ∃ a o,x = .ref a/\JI b a y o/\Q (.bl (!o.isSome)) b
def En (d ty tv:TE):TS:=λD b H=>tv b H λv g=>d b g λx e=>ty b e λy f => ∃ a c,x = .ref a/\MT f a y v c/\D.nx b c
section
variable {X:Cx}{o i e value:Expr}{pos pos' NA:Pos}{td ty tv:TE}
theorem Bt (t:X.A.units+1<cLine)(j:PE X o td)(hi:PE X i ty)(l:yq i):PE X (.Subscript o i pos) (Ei td ty):=by intro b s c H Q I h;refine vT PySem.F.slot_dict_getitem.lookup l (Hk (j b s c H _ I h) λu k ⟨x,r,p,w,q⟩=>Hk (hi b k c r _ p q) λD G m=>?_);obtain⟨y,n,d,z,a,v,ex,g,B⟩:=m;subst ex;obtain rfl:u=Value.ref a:=w;exact⟨tm d g,ye t d g z λC E e f=>⟨v,n,e,f,B⟩⟩
theorem Db (r:X.A.units+1<cLine)(hi:PE X i ty)(e:PE X o td):PC X .In i o (FB ty td):=by intro b s c H Q I h;refine Hk (hi b s c H _ I h) λz f ⟨y,q,m,v,n⟩=>Hk (e b f c q _ m n) λu C k=>?_;obtain⟨x,l,j,t,a,p,ex,g,w⟩:=k;subst ex;obtain rfl:u=Value.ref a:=t;exact Ga r j g v λB d=>⟨.bl p.isSome,l,d,rfl,w⟩
theorem xz (r:X.A.units+1<cLine)(hi:PE X i ty)(e:PE X o td):PC X .NotIn i o (vS ty td):=by intro b s c H Q I h;refine Hk (hi b s c H _ I h) λz f ⟨y,q,m,v,n⟩=>Hk (e b f c q _ m n) λu C k=>?_;obtain⟨x,l,j,t,a,p,ex,g,w⟩:=k;subst ex;obtain rfl:u=Value.ref a:=t;exact BW r j g v λB d=>⟨.bl (!p.isSome),l,d,rfl,w⟩
theorem Bi (B:X.A.units+1<cLine)(e:PE X o td)(hi:PE X i ty)(q:PE X value tv)(j:swapsWith value (some (.Subscript o i pos')) pos.line X.env=pure false) :
  PS X (.Assign [.Subscript o i pos'] value pos) (En td ty tv):=by
 intro b s c H D I h;refine wpAny_Assign_Subscript (Hk (q b s c H _ I h) λr f ⟨v,z,t,n,w⟩=>Hk (e b f c z _ t w) λu F ⟨x,p,l,C,J⟩=>Hk (hi b F c p _ l J) λL M m=>?_) j;obtain⟨y,O,d,G,a,E,ex,g,K⟩:=m;subst ex;obtain rfl:u=Value.ref a:=C;exact yd B d g G n λN k=>⟨c,E,k,K⟩
end
theorem Ah {P:Program}{w:World}{H:Hp}(h:Heap)(a:sysModules<h.objs.size):Hz P w H (h.push { cls:=.type "dict",data:=.dict #[] }) h.objs.size (.dK []):=
 ⟨zero_le _,beq_eq_false_iff_ne.mpr (Ne.symm (ne_of_lt a)),[],.nil,Heap.DictOf.new h⟩
def Cw:TE:=λ_ H Q => ∀ p,H p=none->Q (.ref p) (upd H p (.dK []))
section
variable {X:Cx}{pos:Pos}
theorem MU:PE X (.Dict [] [] pos) Cw:=λb s c H Q I h =>
 wpAny_Dict_empty ⟨.ref s.heap.objs.size,_,I.laid (a:=s.heap.objs.size) (o:=.dK []) (t':=s.toks) (λ_ _ q=>Heap.get?_push_of_some _ q) (le_refl _) (Ah s.heap I.big),rfl,h _ (I.Hq.fresh (le_refl _))⟩
end
structure M1 (X:Cx) (o:Expr) (m:Str) (apos:Pos) (e:Expr) (Hw:Pos):Prop where
 base:attributeBase o m X.env (eval o X.env)=eval o X.env
 VV:((backTo Hw (starEach [e] X.env)).all (λx => !x.1)&&(backToKw Hw (keywordEach [] X.env)).all (λx=>x.1.isSome)
  && decide (([e]:List Expr).length+([]:List Keyword).length+(if ([]:List Keyword).isEmpty then 0 else 1)<30))=true
 line:(apos.endLine==Hw.line)=true
 trees:backTo Hw (starEach [e] X.env)=[(false,eval e X.env)]
structure M2 (X:Cx) (o:Expr) (m:Str) (apos:Pos) (e f:Expr) (Hw:Pos):Prop where
 base:attributeBase o m X.env (eval o X.env)=eval o X.env
 VV:((backTo Hw (starEach [e,f] X.env)).all (λx => !x.1)&&(backToKw Hw (keywordEach [] X.env)).all (λx=>x.1.isSome)
  && decide (([e,f]:List Expr).length+([]:List Keyword).length+(if ([]:List Keyword).isEmpty then 0 else 1)<30))=true
 line:(apos.endLine==Hw.line)=true
 trees:backTo Hw (starEach [e,f] X.env)=[(false,eval e X.env),(false,eval f X.env)]
end L2
namespace Att
open PySem PySem.W PySem.Calls PyProof.Rows
theorem lP {P:Params}{h:Heap}:∀ (ns:List Int) (vs:List Value),WellAll P h vs (ns.map WData.int)->IntsAre vs ns:=by
 intro ns
 induction ns with
 |nil =>
  intro vs w;rw[map_nil] at w;cases w;exact .nil
 |cons n ns c =>
  intro vs w;rw[map_cons] at w;cases w with
  |cons a b =>
   cases a;exact .cons _ _ (c _ b)
theorem xf {l:OpenLaw}{n:Nat}(v:l.most=some n){P:Params}{h:Heap}{args:List WData}{vals:List Value}
  (g:l.row.toRowW.claim.pre args=true) (w:WellAll P h vals args) :
  ∃ a vs ns,vals=[Value.ref a]/\args=[WData.list (ns.map WData.int)]/\h.get? a=some { cls:=.type "list",data:=.seq vs.toArray }/\IntsAre vs ns/\ns.length<=n:=by
 have m:WShape.hasAll [] args [.list .int]=true:=(pre_splitW g).1;have f:l.pre.holds [] { args:=args }=true:=(pre_splitW g).2;obtain⟨d,r,rfl,u,j⟩:=hasAllW_cons m;obtain rfl:=hasAllW_nil j;obtain⟨x,rfl,o⟩:=hasW_list u;obtain⟨ns,rfl⟩:=items_int o
 have b:ns.length<=n:=by
  unfold OpenLaw.pre at f;have e:(WTm.not (.lt (.lit (.int (n:Int))) (.len (.arg 0)))).holds [] { args:=[.list (ns.map .int)] }=true:=by have e:=(holds_andW f).1;rw[v] at e;exact e
  have c:=condW_of e (w_not (w_lt w_lit (w_len_list (w_arg rfl))));rw[length_map] at c;refine Nat.le_of_not_lt λq=>?_;have s:(n:Int)<((ns.length:Nat):Int):=by omega
  first
   |(rw[decide_eq_true s] at c;exact absurd c (by decide))
   |(simp at c;omega)
 cases w with
 |cons t k =>
  cases k;cases t with
  |list i p=>exact⟨_,_,ns,rfl,rfl,i,lP ns _ p,b⟩
theorem xt (l:OpenLaw)(args:List WData):l.row.toRowW.claim.post args (.bool true) args=true:=
 postW_of (r:=l.row.toRowW) (X:=(true==true))
  (show WShape.has [] (.bool true) .bool=true by first |rfl |decide |simp[WShape.has,WShape.arms,WShape.armsAll])
  (show (WTm.eq .res (.lit (.bool true))).value [] { args:=args,res:=some (.bool true),after:=args }=some (.bool (true==true)) from w_eq_bool (w_res rfl) w_lit) rfl
theorem Ld {l:OpenLaw}{n:Nat}{q:Program}{loose:List Str}{k:(GY)->Heap->Prop}{m:World->Heap->Prop}{d:DefRec}
  (H:l.most=some n) (t:d.params.defaults=[])
  (call:∀ (w:World) (s₀ b:Shared) (mg j:GY) (g:Addr) (o:Obj) (i h doc:Value) (a:Addr) (vs:List Value) (ns:List Int),
   Ground q loose [] k w s₀ mg j b.heap->m w b.heap ->
   b.heap.get? g=some o->o.data = .func (docDef d.name d.params d.body d.scope i h doc)->b.heap.CodeRec h d.name->mg d.name=some (.ref g) ->
   b.heap.get? a=some { cls:=.type "list",data:=.seq vs.toArray }->IntsAre vs ns->ns.length<=n->b.gens = #[] ->
   codeAny (model l.prog w) callerA (.call (.ref g) ⟨[.ref a],[]⟩) (λr s'=>r = .ok (.ret (.bool true))/\OldK b.heap s'.heap/\s'.os=b.os/\AllBare s'.gens) b) :
  WalkO q loose k m l.row.toRowW d [] (λf vs=>PySem.call f vs):=by
 intro w s₀ b mg j G Y g o i h doc B kV u hd C p s E args vals J F L M I K;obtain rfl:B = .none:=Dflts.none p t;obtain rfl:kV = .none:=Dflts.noKw p;obtain⟨a,vs,ns,rfl,rfl,x,c,e⟩:=xf H F I;refine enter_call (codeAny_mono (call w s₀ b mg j g o i h doc a vs ns G Y u (fd_plain hd) C s x c e E) λr s' y=>?_);obtain⟨rfl,v,z,A⟩:=y;exact⟨.inl ⟨.bool true,.bool true,[],rfl,λ_=>rfl,.bool true,xt l _,λ_=>⟨List.Pairwise.nil,λ_ D=>(nomatch D)⟩⟩,v,z,A⟩
end Att
namespace L2
open PySem PySem.Spec PyProof.Rows
theorem j6:∀ {vs:List Value}{ns:List Int},IntsAre vs ns->Vals (ns.map V.int) vs
 |_,_,.nil => .nil
 |_,_,.cons n t h => .cons ⟨t,rfl⟩ (j6 h)
def D2 (H:Hp):Prop:=∀ b,H b=none∨∃ o a,H b=some (.MA o (.lst a))
theorem zT {P:Program}{w:World}{K:GV}{mg t:GY}{CX:MC}{k:Nat}{l a:Addr}{fd:FuncData}{x:Str}{sp:Sp}{c:Shared}{vs:List Value}{ns:List Int}
  (KX:K.In c.heap) (E:c.heap.Ns mainGlobals mg) (f:c.heap.Ns builtinsNs t) (VY:∀ x:Str,x≠"__name__"->t x=bootBuiltins x) (SD:c.heap.NoLimit) (hg:c.gens = #[])
  (i:c.heap.get? a=some { cls:=.type "list",data:=.seq vs.toArray }) (hi:IntsAre vs ns) (D:ns.length<=sizeLine) (hr:Hv k callerA)
  (F:∀ base:Heap,K.In base->base.Ns mainGlobals mg->IE P w K mg base CX k l fd [x] sp) (M:∀ (s:Shared) (u:Value),BindsTo s fd ⟨[u],[]⟩ [(x,u)])
  (W:∀ H:Hp,D2 H->Ki K H a (ns.map V.int)->sp [.ref a] H (λv _=>v = .bl true) λ_ _ _=>False)
  (Y:∀ H e s',CX [] H c (λ_ _ _=>False) e s'->False) :
  codeAny (model P w) callerA (.call (.ref l) ⟨[.ref a],[]⟩) (λr s'=>r = .ok (.ret (.bool true))/\OldK c.heap s'.heap/\s'.os=c.os/\AllBare s'.gens) c:=by
 have G:=j6 hi;have SJ:=hi.length
 have core:∀ H:Hp,D2 H->Ki K H a (ns.map V.int)->IY P w H c.heap->(∀ b,H b≠none->b=a)->(H a≠none->K.lookup a=none) ->
   codeAny (model P w) callerA (.call (.ref l) ⟨[.ref a],[]⟩) (λr s'=>r = .ok (.ret (.bool true))/\OldK c.heap s'.heap/\s'.os=c.os/\AllBare s'.gens) c:=by
  intro H C U Hq B hK;have y:∀ {b:Addr}{o:Obj},c.heap.get? b=some o->H b=none->(qA c.heap H).get? b=some o:=λe n=>zZ e n
  have S:∀ {b:Addr}{o:Obj}{es:Array DictEntry}{ep:Nat},c.heap.get? b=some o->o.data = .dict es ep->H b=none:=λ{b o es ep} e d=>by
   cases q:H b with
   |none=>rfl
   |some u =>
    have p:b=a:=B b (by rw[q];simp);subst p;rw[i] at e;cases e;have J:Data.seq vs.toArray _=Data.dict es ep:=d;cases J
  have j:∀ {b:Addr}{m:GY},c.heap.Ns b m->(qA c.heap H).Ns b m:=λ{b m} ⟨o,es,ep,e,d,r⟩=>⟨o,es,ep,y e (S e d),d,r⟩
  have I:K.In (qA c.heap H):=λb o e=>y (KX b o e) (by
   cases q:H b with
   |none=>rfl
   |some u =>
    have p:b=a:=B b (by rw[q];simp);subst p
    rw[hK (by rw[q];simp)] at e;cases e)
  have hM:Mod K mg (qA c.heap H):=⟨I,j E,⟨t,j f,VY⟩,let ⟨T,X,O⟩:=SD;⟨T,j X,O⟩⟩;have Z:Lx P w K mg (qA c.heap H) callerA [] c H:=⟨rfl,hM,λb o e=>BB e,Nat.le_of_eq (xV _ _),trivial,λb f=>absurd (show b∈([]:List Addr) from f) (by simp),Hq,.of_eq hg⟩;refine codeAny_mono ((F _ I (j E)).run callerA [] c H ⟨[.ref a],[]⟩ [.ref a] [.ref a] _ _ hr Z (M c (.ref a)) (.cons rfl .nil) (W H C U)) λr s' h=>?_;cases r with
  |error e=>exact(Y H e s' h).elim
  |ok Q =>
   cases Q with
   |next=>exact False.elim h
   |brk=>exact False.elim h
   |cont=>exact False.elim h
   |ret u =>
    obtain⟨v,H',os,bare,un,N,r',q⟩:=h;have L:v = .bl true:=q;subst L;obtain rfl:u=Value.bool true:=r';refine⟨rfl,OldK.of_keep λb o e=>?_,os,bare⟩;cases q:H b with
    |none=>exact un.keep b o e q (by intro z;exact absurd (show b∈([]:List Addr) from z) (by simp)) (by simp)
    |some u =>
     rcases C b with z |⟨ob,xs,z⟩
     ·rw[q] at z;cases z
     have z2:=un.Km b ob _ z;obtain⟨A,_⟩:=Hq b _ z;obtain⟨R,_⟩:=N b _ z2;rw[e] at A;cases A;exact R
 cases hk:K.lookup a with
 |some o =>
  have e:=KX a o hk;rw[i] at e;cases e;refine core (λ_=>none) (λ_ => .inl rfl) (.inr ⟨_,vs.toArray,_,hk,rfl,rfl,rfl,by rw[size_toArray,SJ];exact D,by simpa using G⟩) (λb u z=>by have g:(none:Option HO)=some u:=z;cases g) (λb z=>absurd rfl z) λz=>absurd rfl z
 |none =>
  refine core (λb=>if b=a then some (.MA { cls:=.type "list",data:=.seq vs.toArray } (.lst (ns.map V.int))) else none) (λb=>?_) (.inl (.inr ⟨{ cls:=.type "list",data:=.seq vs.toArray },if_pos rfl⟩)) (λb u z=>?_) (λb z=>?_) λ_=>hk
  ·by_cases f:b=a
   ·exact .inr ⟨_,_,if_pos f⟩
   exact .inl (if_neg f)
  ·by_cases f:b=a
   ·have g:=(if_pos f).symm.trans z;cases g;subst f;exact⟨i,by rw[length_map];exact D,vs,_,G,i⟩
   have g:=(if_neg f).symm.trans z;cases g
  by_cases f:b=a
  ·exact f
  exact absurd (if_neg f) z
theorem NG {l:PySem.W.OpenLaw}{n k:Nat}{q:Program}{loose:List Str}{B:(GY)->Heap->Prop}{p:World->Heap->Prop}{d:DefRec}{K:Params->GV}{CX:World->MC}{sp:World->Sp}{x:Str}
  (J:l.most=some n) (z:n<=sizeLine) (t:d.params.defaults=[]) (y:Hv k callerA)
  (M:∀ (w:World) (h:Heap),p w h->(K w.params).In h)
  (F:∀ (w:World) (mg:GY) (m:Addr) (h:Heap),(K w.params).In h->h.Ns mainGlobals mg->mg d.name=some (.ref m) ->
   ∃ fd:FuncData,(∀ (s:Shared) (u:Value),BindsTo s fd ⟨[u],[]⟩ [(x,u)]) /\
    ∀ base:Heap,(K w.params).In base->base.Ns mainGlobals mg->IE l.prog w (K w.params) mg base (CX w) k m fd [x] (sp w))
  (I:∀ (w:World) (H:Hp) (a:Addr) (ns:List Int),ns.length<=n->D2 H->Ki (K w.params) H a (ns.map V.int)->sp w [.ref a] H (λv _=>v = .bl true) λ_ _ _=>False)
  (N:∀ (w:World) (H:Hp) (s:Shared) (e:Value) (s':Shared),CX w [] H s (λ_ _ _=>False) e s'->False) :
  PySem.W.WalkO q loose B p l.row.toRowW d [] (λf vs=>PySem.call f vs):=by
 refine Att.Ld J t λw s₀ j mg S m o R Q doc a vs ns G Y P hd U r C i c D=>?_;have KX:=M w _ Y;obtain⟨fd,L,O⟩:=F w mg m _ KX G.T.g r;exact zT KX G.T.g G.T.b G.T.builtins G.T.nolimit D C i (Nat.le_trans c z) y O L (λH A E=>I w H a ns c A E) λH e s'=>N w H j e s'
def c_ (s:Stmt):Arguments:=match s with
 | .FunctionDef _ a _ _ _ _ _ _ _ _=>a
 |_ => { posonlyargs:=[],args:=[],vararg:=none,kwonlyargs:=[],kw_defaults:=[],kwarg:=none,defaults:=[] }
def bx (s:Stmt):List Stmt:=match s with
 | .FunctionDef _ _ b _ _ _ _ _ _ _=>b
 |_=>[]
def ao (s:Stmt):Scope:=match s with
 | .FunctionDef _ _ _ _ _ _ sc _ _ _=>sc
 |_ => { kind:=.function,names:=[],isGenerator:=false,isCoroutine:=false }
abbrev LR:MC:=λ_ _ _ _ _ _=>False
abbrev E0:XK:=λ_ _ _=>False
theorem zp {X:Cx}:Passes LR X E0:=λ_ _ _ _ _ _ _ h=>h.elim
structure Lz (K:GV) (x qual:Str) (st:Stmt) (f:Addr) (fd:FuncData):Prop where
 ex:∃ (oc:Value) (od:Option Addr) (kV doc pm:Value) (an:Option Addr) (Hj ct:Value) (Mb:Array (Option Value)),
  fd=PySem.W.fnOf x qual (c_ st) (bx st) (ao st) .none kV doc pm an Hj ct/\K.lookup f=some ⟨oc,od,.func fd,Mb⟩/\PySem.W.codeIn K Hj qual=true
 kp:PySem.W.keepIn K (.ref f)=true
section
variable {P:Program}{w:World}{K:GV}{mg:GY}{base:Heap}
theorem Lz.ok {x qual:Str}{st:Stmt}{f:Addr}{fd:FuncData}{N b:List Str}{k:Nat}{sp:Sp}(F:Lz K x qual st f fd)(S:G4 N b (ao st))(len:∀ vs H Q E,sp vs H Q E->vs.length=b.length)
  (d:∀ (a:Value) (A:Around) (outer:List Env) (s:Shared) (H:Hp) (vs:List V) (Q:VK) (E:XK),Hv k (A.deeper (envOfC qual (ao st) s.heap.objs.size f a))->sp vs H Q E ->
   ∃ t,Lp (lR LR P w K mg base N qual (ao st) f a A outer s H E).Nh (bx st) t/\t { nx:=λ_ H'=>Q .Ho H',rt:=Q } (start N vs) H):IE P w K mg base LR (k+1) f fd b sp:=by
 obtain⟨j,o,kV,doc,m,l,a,ct,n,rfl,e,g⟩:=F.ex;refine EX e g S len λA outer s H vs Q E c i=>?_;obtain⟨t,h,q⟩:=d a A outer s H vs Q E c i;exact⟨t,h.Nh,q⟩
theorem Lz.binds {x qual:Str}{st:Stmt}{f:Addr}{fd:FuncData}{b:List Str}(F:Lz K x qual st f fd)
  (h:∀ (kV doc c:Value) (a:Option Addr) (d ct:Value) (us:List Value),us.length=b.length->bindArgs (PySem.W.fnOf x qual (c_ st) (bx st) (ao st) .none kV doc c a d ct) ⟨us,[]⟩=pure (b.zip us)):Binds K fd b []:=by
 obtain⟨e,k,kV,doc,c,a,d,ct,j,rfl,g,i⟩:=F.ex;exact .all (h kV doc c a d ct)
theorem Dy {x qual:Str}{st:Stmt}{f:Addr}{g:Value}{h d:Option Addr}{e:Array (Option Value)}{kV doc b a ct:Value}(l:K.lookup f=some ⟨g,h,.func (PySem.W.fnOf x qual (c_ st) (bx st) (ao st) .none kV doc b d a ct),e⟩)
  (c:PySem.W.codeIn K a qual=true) (k:PySem.W.keepIn K (.ref f)=true):Lz K x qual st f (PySem.W.fnOf x qual (c_ st) (bx st) (ao st) .none kV doc b d a ct):=⟨⟨g,h,kV,doc,b,d,a,ct,e,rfl,l,c⟩,k⟩
end
theorem aT {A:Around}{k:Nat}(a:Hv k A):A.units+1<cLine:=Nat.lt_of_le_of_lt (Nat.add_le_add_left (by decide : 1<=64) _) a.units
section
variable {X:Cx}
theorem pv (i:Nat){x:Str}{pos:Pos}(a:X.N[i]?=some x:=by rfl)(b:PQ X.env.scope x:=by first |exact Or.inl rfl |exact Or.inr (Or.inl rfl) |exact Or.inr (Or.inr rfl))(hd:(x==("__debug__":Str))=false:=by decide)
  (c:(x==("__classdict__":Str))=false:=by decide):PE X (.Name x pos) (Eb i):=zj a b hd c
end
def Hb (H H':Hp):Prop:=∀ b o,H b=some o->H' b=some o
theorem Hb.refl (H:Hp):Hb H H:=λ_ _ h=>h
theorem Hb.trans {H e d:Hp}(a:Hb H e)(b:Hb e d):Hb H d:=λc o h=>b c o (a c o h)
end L2
namespace HT
open PySem PyProof.Rows
section
variable {prog:Program}{w:World}{A:Around}{E:GW}{s:Shared}
theorem NH {t b:Addr}{vs ws:List Value}{Q:GW}(q:IsTup s.heap t vs.toArray)(u:IsTup s.heap b ws.toArray)(m:vs≠[])
  (r:ws=[]->Q (.ref t) s) (p:ws≠[]->Q (.ref s.heap.objs.size) { s with heap:=s.heap.push { cls:=.type "tuple",data:=.seq (vs++ws).toArray } })
  (hsz:vs.length+ws.length<=sizeLine):wpAny (model prog w) A (binaryOp .Add (.ref t) (.ref b)) Q E s:=by
 obtain⟨⟨cls,k,data,j⟩,c,h,n,hd⟩:=id q;obtain⟨⟨v,l,data2,g⟩,f,i,o,a⟩:=id u;simp only at h hd i a;subst h hd i a;have e:vs.toArray++ws.toArray=(vs++ws).toArray:=by simp
 by_cases d:ws=[]
 ·exact concat_meets ⟨_,c,rfl⟩ ⟨_,f,rfl⟩ noFill_tuple_add seq_tuple_add PySem.F.slot_tuple_add PySem.F.entry_tuple_add (PySem.F.args_tuple_add_2 _ _)
   (tuple_addW1 t b vs.toArray ws.toArray n o k l j g (by simpa using m) (by simp[d])) ⟨c,f,r d⟩
 refine concat_meets ⟨_,c,rfl⟩ ⟨_,f,rfl⟩ noFill_tuple_add seq_tuple_add PySem.F.slot_tuple_add PySem.F.entry_tuple_add (PySem.F.args_tuple_add_2 _ _)
  (tuple_addW2 t b vs.toArray ws.toArray n o k l j g (by simpa using m) (by simpa using d) (by rw[size_toArray,size_toArray];exact hsz)) ⟨c,f,?_⟩
 rw[e];exact p d
def Hy (n d:Nat):Option Int->Nat
 |none=>d
 |some v=>if v<0 then (v+(n:Int)).toNat else min v.toNat n
theorem Le (n d:Nat):Hy n d none=d:=rfl
theorem LS (n d k:Nat):Hy n d (some (k:Int))=min k n:=by show (if (k:Int)<0 then ((k:Int)+(n:Int)).toNat else min (k:Int).toNat n)=min k n;rw[if_neg (by omega),Int.toNat_natCast]
theorem LB (n d:Nat)(hd:d<=n)(o:Option Int):Hy n d o<=n:=by
 cases o with
 |none=>exact hd
 |some v =>
  show (if v<0 then (v+(n:Int)).toNat else min v.toNat n)<=n;by_cases a:v<0
  ·rw[if_pos a];omega
  rw[if_neg a];exact min_le_right _ _
theorem wG (v:Int)(n d:Nat):(if v<0 then max (v+(n:Int)) 0 else min v (n:Int))=((Hy n d (some v):Nat):Int):=by
 show (if v<0 then max (v+(n:Int)) 0 else min v (n:Int))=(((if v<0 then (v+(n:Int)).toNat else min v.toNat n):Nat):Int);by_cases a:v<0
 ·simp only[if_pos a];omega
 simp only[if_neg a];omega
theorem vF (lo hi:Option Int)(n:Nat):Builtin.Slice.sliceAdjust lo hi 1 (n:Int)=(((Hy n 0 lo:Nat):Int),((Hy n n hi:Nat):Int)):=by
 have a:¬ ((1:Int)<0):=by omega
 unfold Builtin.Slice.sliceAdjust;simp only[a,if_false];refine Prod.ext ?_ ?_
 ·cases lo with
  |none=>rfl
  |some v=>exact wG v n 0
 cases hi with
 |none=>rfl
 |some v=>exact wG v n n
theorem uR (i j:Nat):Builtin.Slice.slicePlaces (i:Int) (j:Int) 1=j-i:=by
 unfold Builtin.Slice.slicePlaces;have a:(1:Int) > 0:=by omega
 simp only[a,if_true,Int.ediv_one];split<;>omega
theorem mK {v:Value}{o:Option Int}{Q:Option Int->Shared->Prop}(p:IsPart v o)(h:Q o s):wpAny (model prog w) A (Builtin.Slice.slicePartIndex v) Q E s:=by
 cases p with
 |none=>exact slicePart_none h
 |int i t=>exact slicePart_int h
theorem Ie {e:Addr}{a b:Value}{lo hi:Option Int}{n:Nat}{Q:Int×Int×Nat->Shared->Prop}(f:s.heap.IsSliceOf e a b .none)(pl:IsPart a lo)(g:IsPart b hi)
  (h:Q (((Hy n 0 lo:Nat):Int),1,Hy n n hi-Hy n 0 lo) s):wpAny (model prog w) A (Builtin.Slice.sliceApplied (.ref e) (pure (n:Int))) Q E s:=by
 obtain⟨os,c,i,d⟩:=id f;unfold Builtin.Slice.sliceApplied Builtin.Slice.sliceFields;refine wpAny_bind (wpAny_bind (wpAny_field c d (x:=a) rfl (wpAny_bind (wpAny_field c d (x:=b) rfl (wpAny_bind (wpAny_field c d (x:=.none) rfl (wpAny_pure ?_)))))));refine wpAny_bind (slicePart_none ?_);show wpAny _ _ (if ((1:Int)==0)=true then _ else _) _ _ s;rw[if_neg (by decide)];refine wpAny_bind (mK pl (wpAny_bind (mK g (wpAny_bind (wpAny_pure ?_)))));show wpAny _ _ (match Builtin.Slice.sliceAdjust lo hi 1 (n:Int) with |(lo,hi)=>pure (lo,(1:Int),Builtin.Slice.slicePlaces lo hi 1)) _ _ s;rw[vF lo hi n];show wpAny _ _ (pure (((Hy n 0 lo:Nat):Int),(1:Int),Builtin.Slice.slicePlaces ((Hy n 0 lo:Nat):Int) ((Hy n n hi:Nat):Int) 1)) _ _ s;rw[uR];exact wpAny_pure h
theorem y_ (xs:Array Value)(i k:Nat):((List.range k).filterMap λ(m:Nat)=>xs[((i:Int)+(m:Int)*1).toNat]?).toArray=((xs.toList.drop i).take k).toArray:=by
 have e:(λ(m:Nat)=>xs[((i:Int)+(m:Int)*1).toNat]?)=λm=>xs[i+m]?:=by
  funext m;have:((i:Int)+(m:Int)*1).toNat=i+m:=by omega
  rw[this]
 rw[e];have:=pick_run xs i k;rw[List.filterMap_map] at this;have a:((λx=>xs[x]?) ∘ λx=>i+x)=λm=>xs[i+m]?:=rfl;rw[a] at this;rw[this]
theorem Jg {t c:Addr}{items:Array Value}{d f:Value}{lo hi:Option Int}{Q:GW}(a:IsTup s.heap t items)(e:s.heap.IsSliceOf c d f .none)(pl:IsPart d lo)(k:IsPart f hi)
  (g:¬ (Hy items.size 0 lo=0/\Hy items.size items.size hi=items.size))
  (h:Q (.ref s.heap.objs.size) { s with heap:=s.heap.push { cls:=.type "tuple",data:=.seq ((items.toList.drop (Hy items.size 0 lo)).take (Hy items.size items.size hi-Hy items.size 0 lo)).toArray } })
  (hsz:items.size<=sizeLine):wpAny (model prog w) A (getItem (.ref t) (.ref c)) Q E s:=by
 have b:sizeOk (.seq ((items.toList.drop (Hy items.size 0 lo)).take (Hy items.size items.size hi-Hy items.size 0 lo)).toArray):=by show ((items.toList.drop (Hy items.size 0 lo)).take (Hy items.size items.size hi-Hy items.size 0 lo)).toArray.size<=sizeLine;rw[size_toArray,length_take,length_drop,length_toList];omega
 have p:Hy items.size items.size hi<=items.size:=LB _ _ (le_refl _) hi;obtain⟨os,n,l,o⟩:=id e;have j:s.TypeIs (.ref c) "slice":=⟨os,n,l⟩;unfold getItem
 try with_reducible refine wpAny_holding ?_
 first |refine wpAny_bind (wpAny_pure ?_) |skip
 refine wpAny_bind (wpAny_sequenceKey a.typeIs (by decide) ?_)
 refine wpAny_bind (wpAny_callSpecial?_slot (name:=Str.ofString "__getitem__") a.typeIs PyProof.Rows.slot_tuple_getitem
  (wpAny_call_entry PyProof.Rows.slot_tuple_getitem a.typeIs entry_tuple_getitem ?_ (args_tuple_getitem _ _)))
 show wpAny _ _ (Builtin.Tuple.tupleItemsOf (.ref t) >>= _) _ _ s;refine wpAny_bind (tupleItemsOf_ a ?_);refine wpAny_bind (wpAny_typeOf j ?_);rw[if_pos (by decide)];refine wpAny_bind (Ie e pl k ?_);have i:¬ ((((Hy items.size 0 lo:Nat):Int)==0&&(1:Int)==1&&(Hy items.size items.size hi-Hy items.size 0 lo)==items.size)=true):=by intro q;rw[and_eq_true,and_eq_true] at q;have r:((Hy items.size 0 lo:Nat):Int)=0:=eq_of_beq q.1.1;have u:Hy items.size items.size hi-Hy items.size 0 lo=items.size:=eq_of_beq q.2;exact g ⟨by omega,by omega⟩
 show wpAny _ _ (if (((Hy items.size 0 lo:Nat):Int)==0&&(1:Int)==1&&(Hy items.size items.size hi-Hy items.size 0 lo)==items.size)=true then _ else _) _ _ s;rw[if_neg i,y_]
 first
  |exact wpAny_bind (m:=Builtin.Tuple.tupleExact _) (wpAny_newObj_type (wpAny_pure ⟨_,rfl,wpAny_pure h⟩) b)
  |exact wpAny_bind (m:=Builtin.Tuple.tupleExact _) (wpAny_newObj_type (wpAny_bind (wpAny_pure (wpAny_pure ⟨_,rfl,wpAny_pure h⟩))) b)
  |exact wpAny_bind (wpAny_bind (m:=Builtin.Tuple.tupleExact _) (wpAny_newObj_type (wpAny_pure (wpAny_pure ⟨_,rfl,wpAny_pure h⟩)) b))
  |exact wpAny_bind (wpAny_bind (m:=Builtin.Tuple.tupleExact _) (wpAny_newObj_type (wpAny_pure ⟨_,rfl,wpAny_pure h⟩) b))
end
end HT
namespace L2
open PySem PySem.Spec PyProof.Rows
abbrev TO:=St->Hp->(Option Int->Hp->Prop)->Prop
def PO (X:Cx)(e:Option Expr)(t:TO):Prop:=
 ∀ (a:GX) (s:Shared) (b:St) (H:Hp) (Q:Option Int->Hp->Prop),Inv X a b H s->t b H Q ->
  wpAny (model X.prog X.w) X.A (evalPart e X.env) (λu d => ∃ o c,Inv X a b c d/\IsPart u o/\Q o c) X.xe s
def AS:TO:=λ_ H Q=>Q none H
def Ed (t:TE):TO:=λa H Q=>t a H λx b => ∃ i,x = .int i/\Q (some i) b
theorem intsAre_of {ns:List Int}:∀ {us:List Value},Vals (ns.map V.int) us->IntsAre us ns:=by
 induction ns with
 |nil=>intro us r;rw[map_nil] at r;cases r;exact .nil
 |cons n ns a =>
  intro us r;rw[map_cons] at r;cases r with
  |cons c b =>
   obtain⟨t,e⟩:=c;subst e;exact .cons n t (a b)
section
variable {X:Cx}{e:Expr}{te:TE}{lo hi:Option Expr}{tl th:TO}{pos p2:Pos}
theorem Bn:PO X none AS:=by intro a s b H Q I h;rw[evalPart_none];exact wpAny_pure ⟨none,H,I,.none,h⟩
theorem Bl (h:PE X e te):PO X (some e) (Ed te):=by intro a s b H Q I d;rw[evalPart_some];refine Hk (h a s b H _ I d) λu l f=>?_;obtain⟨x,k,g,c,j⟩:=f;obtain⟨i,rfl,q⟩:=j;obtain⟨t,rfl⟩:=c;exact⟨some i,k,g,.int i t,q⟩
def RE (X:Cx)(r:V->Option Int->Option Int->Hp->VK->Prop):Prop:=
 ∀ (a:GX) (s:Shared) (c:St) (H:Hp) (x:V) (v b d:Value) (lo hi:Option Int) (e:Addr) (Q:VK),Inv X a c H s->RelV x v->s.heap.IsSliceOf e b d .none->IsPart b lo->IsPart d hi->r x lo hi H Q ->
  ∃ T id,typeLookup (.type T) "__getitem__"=pure (some (.builtin id))/\s.TypeIs v T/\wpAny (model X.prog X.w) X.A (getItem v (.ref e)) (EP X a c Q) X.xe s
def V0 (r:V->Option Int->Option Int->Hp->VK->Prop)(te:TE)(tl th:TO):TE:=λa H Q=>te a H λx d=>tl a d λl b=>th a b λu c=>r x l u c Q
theorem zk {r:V->Option Int->Option Int->Hp->VK->Prop}(m:RE X r)(C:PE X e te)(p:PO X lo tl)(L:PO X hi th):PE X (.Subscript e (.Slice lo hi none p2) pos) (V0 r te tl th):=by intro a s d H Q I h;refine Subscript_ (Hk (C a s d H _ I h) λv n i=>?_);obtain⟨x,K,D,o,E⟩:=i;refine wpAny_Slice (Hk (p a n d K _ D E) λf M ⟨l,z,y,pl,N⟩=>Hk (L a M d z _ y N) λg c i=>?_);obtain⟨u,j,k,F,O⟩:=i;rw[evalPart_none];refine wpAny_pure ?_;have t:Inv X a d j { c with heap:=c.heap.push { cls:=.type "slice",data:=.fields #[f,g,.none] } }:=k.kept (t':=c.toks) λb P q=>Heap.get?_push_of_some _ q;obtain⟨T,id,B,G,J⟩:=m a { c with heap:=c.heap.push { cls:=.type "slice",data:=.fields #[f,g,.none] } } d j x v f g l u c.heap.objs.size Q t o (Heap.IsSliceOf.new ..) pl F O;show wpAny (model X.prog X.w) X.A (subscriptTail e (.Slice lo hi none p2) v (.ref c.heap.objs.size)) (EP X a d Q) X.xe { c with heap:=c.heap.push { cls:=.type "slice",data:=.fields #[f,g,.none] } };exact tail_any (ops:=[.ref c.heap.objs.size,v]) G B J (by with_unfolding_all rfl)
def tw (xs:List V)(lo hi:Option Int):List V:=(xs.drop (HT.Hy xs.length 0 lo)).take (HT.Hy xs.length xs.length hi-HT.Hy xs.length 0 lo)
theorem eT (xs:List V)(lo hi:Option Int):(tw xs lo hi).length<=xs.length:=by unfold tw;rw[length_take,length_drop];omega
def FG (K:GV):V->Option Int->Option Int->Hp->VK->Prop:=λx lo hi H Q => ∃ a b,x = .ref a/\Kn K H a b /\
 ¬ (HT.Hy b.length 0 lo=0/\HT.Hy b.length b.length hi=b.length)/\∀ p,H p=none->Q (.ref p) (upd H p (.tup (tw b lo hi)))
theorem CB:RE X (FG X.K):=by
 intro g s t H x v p w lo hi u Q I m i pl l h;obtain⟨a,d,rfl,k,j,q⟩:=h;cases m;obtain⟨its,r,f,e⟩:=I.tuple k;have c:its.toArray.size=d.length:=by rw[size_toArray];exact r.length.symm
 refine⟨"tuple",_,PyProof.Rows.slot_tuple_getitem.lookup,f.typeIs,?_⟩;refine HT.Jg f i pl l (by rw[c];exact j) ?_ (by rw[c];exact e);rw[c];refine⟨.ref s.heap.objs.size,_,I.laid (t':=s.toks) (o:=.tup (tw d lo hi)) (λb n q=>Heap.get?_push_of_some _ q) (le_refl _) ?_,rfl,q _ (I.Hq.fresh (le_refl _))⟩;exact⟨Nat.le_trans (eT d lo hi) e,_,(r.drop (HT.Hy d.length 0 lo)).take (HT.Hy d.length d.length hi-HT.Hy d.length 0 lo),Kl.new _ _⟩
def Er (K:GV):R2:=λx y H Q => ∃ a b d c,x = .ref a/\y = .ref b/\Kn K H a d/\Kn K H b c/\d≠[]/\d.length+c.length<=sizeLine /\
 (c=[]->Q (.ref a) H)/\(c≠[]->∀ p,H p=none->Q (.ref p) (upd H p (.tup (d++c))))
theorem Vals.G7 {xs:List V}{us:List Value}(r:Vals xs us):us=[]↔xs=[]:=by
 cases r with
 |nil=>simp
 |cons _ _=>simp
theorem Bz:KR X (binaryOp .Add) (Er X.K):=by intro f s B H x y v u Q I n r h;obtain⟨a,b,l,k,rfl,rfl,g,p,j,e,m,t⟩:=h;cases n;cases r;obtain⟨its,d,i,_⟩:=I.tuple g;obtain⟨C,c,p2,_⟩:=I.tuple p;refine HT.NH i p2 (λz=>j (d.G7.mp z)) (λz=>⟨.ref a,H,I,rfl,m (c.G7.mp z)⟩) (λz=>?_) (by rw[← d.length,← c.length];exact e);refine⟨.ref s.heap.objs.size,_,I.laid (t':=s.toks) (o:=.tup (l++k)) (λb A q=>Heap.get?_push_of_some _ q) (le_refl _) ?_,rfl,t (λw=>z (c.G7.mpr w)) _ (I.Hq.fresh (le_refl _))⟩;exact⟨by rw[List.length_append];exact e,_,d.append c,Kl.new _ _⟩
end
def MD (n:Nat)(i:Int):Option Nat:=if 0<=i then (if i<n then some i.toNat else none) else if -(n:Int)<=i then some (i+n).toNat else none
def Kj {α:Type}(xs:List α)(i:Int):Option α:=(MD xs.length i).bind λj=>xs[j]?
theorem wu {n:Nat}{i:Int}{j:Nat}(h:MD n i=some j):seqIndex? i n=some j/\j<n/\-(n:Int)<=i/\i<n:=by
 unfold MD at h;by_cases b : 0<=i
 ·rw[if_pos b] at h;by_cases a:i<n
  ·rw[if_pos a] at h;have e:i.toNat=j:=Option.some.inj h;exact⟨by rw[seqIndex_of b a,e],by omega,by omega,a⟩
  rw[if_neg a] at h;cases h
 rw[if_neg b] at h;by_cases a : -(n:Int)<=i
 ·rw[if_pos a] at h;have e:(i+n).toNat=j:=Option.some.inj h;exact⟨by rw[seqIndex_neg (by omega) a,e],by omega,a,by omega⟩
 rw[if_neg a] at h;cases h
theorem jV {α:Type}{xs:List α}{i:Int}{v : α}(h:Kj xs i=some v):∃ j,seqIndex? i xs.length=some j/\xs[j]?=some v/\j<xs.length/\-(xs.length:Int)<=i/\i<xs.length:=by
 unfold Kj at h;cases e:MD xs.length i with
 |none=>rw[e] at h;cases h
 |some j =>
  rw[e] at h;obtain⟨c,d,a,b⟩:=wu e;exact⟨j,c,h,d,a,b⟩
def mf (b:Expr):Prop:=∀ o i,subscripted b false o i=operate [o,i] (getItem o i)
def Qe (X:Cx)(r:R2):Prop:=
 ∀ (value slice:Expr) (a:GX) (s:Shared) (b:St) (H:Hp) (x y:V) (v u:Value) (Q:VK),Inv X a b H s->RelV x v->RelV y u->r x y H Q ->
  subscripted slice false v u=operate [v,u] (getItem v u)->wpAny (model X.prog X.w) X.A (subscriptTail value slice v u) (EP X a b Q) X.xe s
def Us (X:Cx)(id:String)(r:V->List V->Hp->VK->Prop):Prop:=
 ∀ (a:GX) (s:Shared) (c:St) (H:Hp) (x:V) (d:List V) (v:Value) (b:List Value) (Q:VK),Inv X a c H s->RelV x v->Vals d b->r x d H Q ->
  wpAny (model X.prog X.w) X.A (call (.builtin id) (v::b)) (EP X a c Q) X.xe s
section
variable {X:Cx}{a b:Expr}{ta tb:TE}{pos:Pos}
theorem Cj {r:R2}(e:Qe X r)(d:PE X a ta)(m:PE X b tb)(g:mf b):PE X (.Subscript a b pos) (P0 r ta tb):=by intro c s f H Q I h;exact Subscript_ (DR d m I h λv u l x y j i k n q=>e a b c l f j x y v u Q i k n q (g _ _))
def Ep (K:GV):R2:=λx y H Q => ∃ p a i v,x = .ref p/\y = .int i/\Ki K H p a/\Kj a i=some v/\Q v H
def FI (K:GV):R2:=λx y H Q => ∃ p a i v,x = .ref p/\y = .int i/\Kn K H p a/\Kj a i=some v/\Q v H
def FJ:R2:=λx y H Q => ∃ z i c,x = .str z/\y = .int i/\z.length<=sizeLine/\Kj z.cps.toList i=some c/\Q (.str ⟨#[c]⟩) H
theorem wt:Qe X (Ep X.K):=by
 intro value slice a s e H x y v u Q I D E h f;obtain⟨p,J,i,z,rfl,rfl,o,C,q⟩:=h;cases D;obtain⟨t,rfl⟩:=E;obtain⟨its,r,pl,F⟩:=I.list o;obtain⟨j,b,m,G,B,l⟩:=jV C;obtain⟨w,g,k⟩:=r.get m;have n:=r.length;have L:=i0;have fin:EP X a e Q w s:=⟨z,H,I,k,q⟩;by_cases d : 0<=i
 ·have c:i.toNat=j:=by
   rw[seqIndex_of d l] at b;exact Option.some.inj b
  exact item_listR pl.isList d (by omega) (by rw[c];simpa using g) fin f
 have c:(i+(its.toArray.size:Int)).toNat=j:=by rw[seqIndex_neg (by omega) B] at b;rw[size_toArray,← n];exact Option.some.inj b
 exact subscriptTail_builtinR (x:=w) pl.isList.typeIs slot_list_getitem.lookup
  (wpAny_getItem_list_neg (Q:=λr A=>r=w/\EP X a e Q r A) pl.isList (by omega) (by rw[size_toArray]<;>omega) (by omega) (by rw[c];simpa using g) ⟨rfl,fin⟩) f
theorem Du:Qe X (FI X.K):=by
 intro value slice a s b H x y v u Q I n A h f;obtain⟨p,F,i,z,rfl,rfl,g,m,q⟩:=h;cases n;obtain⟨t,rfl⟩:=A;obtain⟨its,r,pl,C⟩:=I.tuple g;obtain⟨j,o,d,D,E,B⟩:=jV m;obtain⟨w,l,c⟩:=r.get d;have e:=r.length;have G:=i0;have fin:EP X a b Q w s:=⟨z,H,I,c,q⟩
 exact subscriptTail_builtinR (x:=w) pl.typeIs slot_tuple_getitem.lookup
  (getItem_tuple (j:=j) (Q:=λr k=>r=w/\EP X a b Q r k) pl (by omega) (by omega) (by rw[size_toArray,← e];exact o) (by simpa using l) ⟨rfl,fin⟩) f
theorem Dv:Qe X FJ:=by
 intro value slice b s r H x y v u Q I o p h g;obtain⟨z,i,c,rfl,rfl,w,n,q⟩:=h;obtain⟨t,rfl⟩:=o;obtain⟨B,rfl⟩:=p;obtain⟨j,a,e,A,l,d⟩:=jV n;have f:z.cps.toList.length=z.length:=by simp[Str.length]
 rw[f] at a l d;have C:=i0
 exact tail_any (typeIs_str s z t) slot_str_getitem.lookup (getItem_str (c:=c) (by
  have m:decide (i < -(2 ^ 63:Int))=false:=decide_eq_false (by omega);have k:decide (i≥2 ^ 63)=false:=decide_eq_false (by omega)
  rw[m,k,Bool.or_false]) (by rw[a];simpa using e) ⟨.str ⟨#[c]⟩,H,I.tok _,⟨_,rfl⟩,q⟩) g
theorem uZ (its:List Value)(n j:Nat)(u:Value):Obj.mapSeq (·.setIfInBounds j u) { cls:=.type "list",data:=.seq its.toArray n }={ cls:=.type "list",data:=.seq (its.set j u).toArray n }:=by simp[Obj.mapSeq]
theorem Inv.lst {a:GX}{b:St}{H:Hp}{s:Shared}{p:Addr}{xs:List V}(I:Inv X a b H s)(h:H p=some (.lst xs)) :
  ∃ (its:List Value) (n:Nat),Vals xs its/\s.heap.get? p=some { cls:=.type "list",data:=.seq its.toArray n }/\xs.length<=sizeLine:=by
 obtain⟨z,its,n,r,e⟩:=I.Hq p _ h;exact⟨its,n,r,e,z⟩
theorem Inv.OM {a:GX}{d:St}{H:Hp}{s:Shared}{p:Addr}{xs ys:List V}{its its':List Value}{n c:Nat}{f:Obj->Obj}(I:Inv X a d H s)(h:H p=some (.lst xs))
  (i:s.heap.get? p=some { cls:=.type "list",data:=.seq its.toArray n }) (g:f { cls:=.type "list",data:=.seq its.toArray n }={ cls:=.type "list",data:=.seq its'.toArray c }) (r:Vals ys its') (hz:ys.length<=sizeLine) (t:Nat) :
  Inv X a d (upd H p (.lst ys)) { s with heap:=s.heap.update p f,toks:=t }:=by
 have e:(s.heap.update p f).get? p=some { cls:=.type "list",data:=.seq its'.toArray c }:=by rw[Heap.get?_update_self f i (by rw[g]<;>rfl),g]
 refine I.write (x:=p) (e:=p) (by rw[h];trivial) (.inl rfl) (λb u j q=>(Heap.get?_update_other _ _ (Ne.symm j)).trans q) ⟨_,e⟩ ?_;exact⟨hz,its',c,r,e⟩
def Eo:V->V->V->Hp->(Hp->Prop)->Prop:=λo i v H Q => ∃ p a k j,o = .ref p/\i = .int k/\H p=some (.lst a)/\MD a.length k=some j/\Q (upd H p (.lst (a.set j v)))
theorem set_list:D1 X Eo:=by
 intro a s x H o i v G F u Q I D B A h;obtain⟨p,C,k,j,rfl,rfl,f,z,q⟩:=h;cases D;obtain⟨t,rfl⟩:=B;obtain⟨its,n,r,c,y⟩:=I.lst f;obtain⟨b,E,m,w⟩:=wu z;have d:=r.length;have J:=i0
 have l:Inv X a x (upd H p (.lst (C.set j v))) { s with heap:=s.heap.update p (Obj.mapSeq (·.setIfInBounds j u)) }:=
  I.OM f c (uZ its n j u) (r.set A j) (by rw[length_set];exact y) s.toks
 by_cases g : 0<=k
 ·have e:k.toNat=j:=by
   rw[seqIndex_of g w] at b;exact Option.some.inj b
  exact PySem.W.ki_setAt c g (by omega) (by rw[size_toArray,← d];exact w) (by rw[e];exact⟨_,l,q⟩)
 have e:(k+(its.toArray.size:Int)).toNat=j:=by rw[seqIndex_neg (by omega) m] at b;rw[size_toArray,← d];exact Option.some.inj b
 exact PySem.W.ki_setBack c (by omega) (by rw[size_toArray,← d];exact m) (by omega) (by rw[e];exact⟨_,l,q⟩)
theorem jw (lo hi:Option Int)(n:Nat):(sliceBounds lo hi none n).1=((HT.Hy n 0 lo:Nat):Int)/\(sliceBounds lo hi none n).2.1=((HT.Hy n n hi:Nat):Int)/\(sliceBounds lo hi none n).2.2=1:=by
 refine⟨?_,?_,rfl⟩
 ·cases lo with
  |none=>simp[sliceBounds,HT.Hy]
  |some i =>
   simp only[sliceBounds,HT.Hy,getD_none,show (1:Int) > 0 by decide,if_true];by_cases h:i<0
   ·simp only[h,if_true]<;>omega
   simp only[h,if_false]<;>omega
 cases hi with
 |none=>simp[sliceBounds,HT.Hy]
 |some i =>
  simp only[sliceBounds,HT.Hy,getD_none,show (1:Int) > 0 by decide,if_true];by_cases h:i<0
  ·simp only[h,if_true]<;>omega
  simp only[h,if_false]<;>omega
theorem n4 (its:List Value)(lo hi:Option Int):slicePick its.toArray lo hi none=((its.drop (HT.Hy its.length 0 lo)).take (HT.Hy its.length its.length hi-HT.Hy its.length 0 lo)).toArray:=by obtain⟨b,c,a⟩:=jw lo hi its.toArray.size;unfold slicePick;rw[b,c,a];simp only[sliceRange_one,pick_run,size_toArray]<;>rfl
def FH (K:GV):V->Option Int->Option Int->Hp->VK->Prop:=λx lo c H Q => ∃ a b,x = .ref a/\Ki K H a b/\∀ p,H p=none->Q (.ref p) (upd H p (.lst (tw b lo c)))
theorem A4:RE X (FH X.K):=by intro g s t H x v p w lo e u Q I m j pl l h;obtain⟨a,c,rfl,k,q⟩:=h;cases m;obtain⟨its,r,f,i⟩:=I.list k;have d:=r.length;refine⟨"list",_,slot_list_getitem.lookup,f.isList.typeIs,?_⟩;refine wpAny_getItem_list_slice f.isList j pl l .none (by simp) ?_ (by rw[size_toArray]<;>omega);rw[n4,← d];refine⟨.ref s.heap.objs.size,_,I.laid (t':=s.toks) (o:=.lst (tw c lo e)) (λb n q=>Heap.get?_push_of_some _ q) (le_refl _) ?_,rfl,q _ (I.Hq.fresh (le_refl _))⟩;exact⟨Nat.le_trans (eT c lo e) i,_,0,(r.drop (HT.Hy c.length 0 lo)).take (HT.Hy c.length c.length e-HT.Hy c.length 0 lo),Heap.get?_push_size _ rfl⟩
theorem fT:h_ X (.builtin "len") (λxs H Q => ∃ p ys,xs=[.ref p]/\(Ki X.K H p ys∨Kn X.K H p ys)/\Q (.int ys.length) H):=by
 intro c s g H xs f Q I r h;obtain⟨p,ys,rfl,hq,q⟩:=h;obtain⟨u,rfl,e⟩:=vals1 r;cases e;have i:=i0;rcases hq with hq |hq
 ·obtain⟨its,b,pl,d⟩:=I.list hq;have a:=b.length;exact Calls.call_len_list pl.isList (by simp only[size_toArray]<;>omega) ⟨.int ys.length,H,I.tok _,⟨s.toks+1,by rw[size_toArray,a]⟩,q⟩
 obtain⟨its,b,pl,d⟩:=I.tuple hq;have a:=b.length;exact len_tuple pl (by simp only[size_toArray]<;>omega) ⟨.int ys.length,H,I.tok _,⟨s.toks+1,by rw[size_toArray,a]⟩,q⟩
theorem qO:h_ X (.builtin "len") (λxs H Q => ∃ z,xs=[.str z]/\z.length<=sizeLine/\Q (.int z.length) H):=by intro a s d H xs b Q I r h;obtain⟨z,rfl,e,q⟩:=h;obtain⟨u,rfl,t,rfl⟩:=vals1 r;have c:=i0;exact len_str (by omega) ⟨.int z.length,H,I.tok _,⟨_,rfl⟩,q⟩
theorem iR:h_ X (.type "tuple") (λxs H Q => ∃ p ys,xs=[.ref p]/\((Ki X.K H p ys/\∀ l,H l=none->Q (.ref l) (upd H l (.tup ys)))∨(Kn X.K H p ys/\Q (.ref p) H))):=by
 intro a s g H xs t Q I r h;obtain⟨p,ys,rfl,h⟩:=h;obtain⟨u,rfl,n⟩:=vals1 r;cases n;rcases h with ⟨d,q⟩ |⟨d,q⟩
 ·obtain⟨its,f,pl,i⟩:=I.list d;have k:=f.length;refine call_tuple_list pl.isList (λc kp=>?_) (by simp only[size_toArray]<;>omega);have j:Inv X a g H { s with heap:=c }:=I.kept (t':=s.toks) kp
  have m:Inv X a g (upd H c.objs.size (.tup ys)) { s with heap:=c.push { cls:=.type "tuple",data:=.seq its.toArray } }:=
   j.laid (t':=s.toks) (λb o e=>Heap.get?_push_of_some _ e) (le_refl _) (show Hz X.prog X.w _ _ _ (.tup ys) from⟨i,its,f,Kl.new _ _⟩)
  exact⟨.ref c.objs.size,_,m,rfl,q _ (j.Hq.fresh (le_refl _))⟩
 obtain⟨its,f,pl,i⟩:=I.tuple d;exact call_tuple_same pl ⟨.ref p,H,I,rfl,q⟩
def RF (K:GV)(T:String)(x:V)(H:Hp):Prop:=match x with
 | .str _=>T="str"
 | .int _=>T="int"
 | .ref p=>(T="list"/\∃ b,Ki K H p b)∨(T="tuple"/\((∃ o,K.lookup p=some o/\o.cls = .type "tuple"/\o.dict=none)∨∃ b,Rd H p (.tup b))) ∨
   (T="dict"/\((∃ a,H p=some (.dK a))∨∃ a,H p=some (.dT a)))∨(T="set"/\∃ S n,H p=some (.set S n))
 |_=>False
theorem Cs {f:GX}{l:St}{H:Hp}{s:Shared}{T:String}{x:V}{v:Value}(I:Inv X f l H s)(r:RelV x v)(ty:RF X.K T x H) :
  s.TypeIs v T/\∀ a,v = .ref a->∃ h,s.heap.get? a=some h/\h.dict=none:=by
 cases x with
 |str z =>
  obtain⟨t,rfl⟩:=r;cases (show T="str" from ty);exact⟨typeIs_str s z t,λ_ e=>nomatch e⟩
 |int i =>
  obtain⟨t,rfl⟩:=r;cases (show T="int" from ty);exact⟨typeIs_int s i t,λ_ e=>nomatch e⟩
 |ref p =>
  cases r;rcases ty with ⟨rfl,q,m⟩ |⟨rfl,⟨o,b,j,hd⟩ |⟨q,k⟩⟩ |⟨rfl,b⟩ |⟨rfl,S,n,b⟩
  ·obtain⟨its,_,pl,_⟩:=I.list m;refine⟨pl.isList.typeIs,λa e=>?_⟩;cases e;obtain⟨o,n,e,c,hd,_⟩:=pl;exact⟨o,e,hd⟩
  ·refine⟨⟨o,I.L_ p o b,j⟩,λa e=>?_⟩;cases e;exact⟨o,I.L_ _ o b,hd⟩
  ·obtain⟨_,its,_,n,e⟩:=k.ok I.Hq;refine⟨⟨_,e,rfl⟩,λa d=>?_⟩;cases d;exact⟨_,e,rfl⟩
  ·have z:∃ o,s.heap.get? p=some o/\o.ExactDict:=by
    rcases b with ⟨g,b⟩ |⟨g,b⟩
    ·obtain⟨_,_,_,_,o,_,_,e,ex,_⟩:=I.Hq p _ b;exact⟨o,e,ex⟩
    obtain⟨_,_,_,_,o,_,_,e,ex,_⟩:=I.Hq p _ b;exact⟨o,e,ex⟩
   obtain⟨o,e,ex⟩:=z;refine⟨⟨o,e,ex.1⟩,λa d=>?_⟩;cases d;exact⟨o,e,ex.2.1⟩
  obtain⟨o,_,_,_,e,ex,_⟩:=I.Hq p _ b;refine⟨⟨o,e,ex.1⟩,λa d=>?_⟩;cases d;exact⟨o,e,ex.2.1⟩
 |_=>exact False.elim ty
def Ut (K:GV)(T:String)(r:V->List V->Hp->VK->Prop)(to:TE)(t:TA):TE:=λa H Q=>to a H λx b=>RF K T x b/\t a b λd c=>r x d c Q
variable {o e:Expr}{es:List Expr}{to:TE}{t:TA}{name:Str}{apos Hw:Pos}{T id:String}{r:V->List V->Hp->VK->Prop}
theorem zo (L:PlainAttrs T)(slot:Slot T name id)(u:typeOf (.builtin id)=pure (.type "method_descriptor"))(E:Us X id r)(k:PE X o to)(i:PA X (e::es) t)
  (C:attributeBase o name X.env (eval o X.env)=eval o X.env:=by rfl)
  (q:((backTo Hw (starEach (e::es) X.env)).all (λx => !x.1)&&(backToKw Hw (keywordEach [] X.env)).all (λx=>x.1.isSome)
   && decide ((e::es).length+([]:List Keyword).length+(if ([]:List Keyword).isEmpty then 0 else 1)<30))=true:=by rfl)
  (z:(apos.endLine==Hw.line)=true:=by rfl) (n:starEach (e::es) X.env=(false,eval e X.env)::starEach es X.env:=by rfl) (j:(backTo Hw (starEach es X.env)).any (·.1)=false:=by rfl) :
  PE X (.Call (.Attribute o name apos) (e::es) [] Hw) (Ut X.K T r to t):=by
 intro a s b H Q I h;refine wpAny_Call_method_late C q z rfl (Hk (k a s b H _ I h) λv l w=>?_);obtain⟨x,F,f,d,ty,D⟩:=w;obtain⟨G,m⟩:=Cs f d ty;refine⟨T,id,L,slot,u,G,m,?_⟩;have c:=i Hw a l b F _ f D;rw[n] at c ⊢;refine Calls.callWith_builtin (by show (false ||(backTo Hw (starEach es X.env)).any (·.1))=false;rw[j]<;>rfl) (Calls.evalArgs_plain ?_);exact Hk c λg J ⟨y,A,p,B,M⟩=>E a J b A x y v g Q p d B M
end
def Uu (X:Cx)(id:String)(r:V->List V->Hp->VK->Prop):Prop:=
 ∀ (a:GX) (s:Shared) (c:St) (H:Hp) (x:V) (d:List V) (v:Value) (b:List Value) (Q:VK),Inv X a c H s->RelV x v->Vals d b->r x d H Q ->
  wpAny (model X.prog X.w) X.A (call (.builtin id) (v::b)) (EP X a c Q) X.xe s
theorem Vals.one:∀ {x:V}{us:List Value},Vals [x] us->∃ u,us=[u]/\RelV x u
 |_,_,.cons r .nil=>⟨_,rfl,r⟩
theorem Vals.rep {xs:List V}{us:List Value}(h:Vals xs us):∀ k:Nat,Vals (replicate k xs).flatten (replicate k us).flatten
 | 0 => .nil
 |k+1=>by
  rw[replicate_succ,replicate_succ,flatten_cons,flatten_cons];exact Vals.append h (Vals.rep h k)
theorem foldl_rep (its:List Value):∀ (k:Nat) (a:List Value),
  List.foldl (λx1 x2=>x1++x2) a.toArray (replicate k its.toArray)=(a++(replicate k its).flatten).toArray
 | 0,a=>by simp
 |k+1,a=>by
  have e:a.toArray++its.toArray=(a++its).toArray:=by simp
  have b:(a++its)++(replicate k its).flatten=a++(replicate (k+1) its).flatten:=by rw[replicate_succ,flatten_cons,List.append_assoc]
  rw[← b,← foldl_rep its k (a++its),← e,replicate_succ,foldl_cons]
section
variable {X:Cx}{pins:GX}{σ:St}{H:Hp}{s:Shared}{l b:Addr}{xs ys zs:List V}
theorem Inv.Qf {its its':List Value}{n:Nat}{f:Array Value->Array Value}{t':Nat}(I:Inv X pins σ H s)(b:H l=some (.lst xs))
  (e:s.heap.get? l=some { cls:=.type "list",data:=.seq its.toArray n }) (c:f its.toArray=its'.toArray) (a:Vals ys its') (hz:ys.length<=sizeLine) :
  Inv X pins σ (upd H l (.lst ys)) { s with heap:=s.heap.update l (Obj.mapSeq f),toks:=t' }:=by
 have q:=PySem.IsL.update e f;rw[c] at q;refine I.write (x:=l) (e:=l) (by rw[b];exact trivial) (.inl rfl) (λh u g d=>(Heap.get?_update_other s.heap (Obj.mapSeq f) (Ne.symm g)).trans d) ⟨_,q⟩ ?_;exact⟨hz,its',_,a,q⟩
theorem Inv.SN {its:List Value}{t':Nat}(I:Inv X pins σ H s)(a:Vals ys its)(hz:ys.length<=sizeLine) :
  Inv X pins σ (upd H s.heap.objs.size (.lst ys)) { s with heap:=s.heap.push { cls:=.type "list",data:=.seq its.toArray },toks:=t' }:=
 I.laid (λ_ _ q=>Heap.get?_push_of_some _ q) (le_refl _) ⟨hz,its,0,a,Heap.get?_push_size _ rfl⟩
theorem Inv.fresh (I:Inv X pins σ H s):H s.heap.objs.size=none:=I.Hq.fresh (le_refl _)
theorem Inv.Qg (I:Inv X pins σ H s)(a:H l=some (.lst xs)):xs.length<=sizeLine/\∃ (its:List Value) (n:Nat),Vals xs its/\xs.length=its.length/\s.heap.get? l=some { cls:=.type "list",data:=.seq its.toArray n }:=by obtain⟨z,its,n,r,e⟩:=I.Hq l _ a;exact⟨z,its,n,r,r.length,e⟩
theorem zx {n:Nat}(h:n<=sizeLine):Builtin.List.listTooLong n=false:=by unfold Builtin.List.listTooLong;exact decide_eq_false (by omega)
end
section
variable {X:Cx}
def Bc:V->List V->Hp->VK->Prop:=λx b H Q => ∃ l a y,x = .ref l/\b=[y]/\H l=some (.lst a)/\a.length<sizeLine/\Q .Ho (upd H l (.lst (a++[y])))
theorem xJ:Uu X "list.append" Bc:=by intro b s i H x m v g Q I f d h;obtain⟨l,o,y,rfl,rfl,a,j,q⟩:=h;cases f;obtain⟨u,rfl,c⟩:=d.one;obtain⟨z,its,n,r,k,e⟩:=I.Qg a;refine call_meets F.slot_list_append ⟨_,e,rfl⟩ F.entry_list_append (F.args_list_append_2 _ _) (PySem.list_append l its.toArray n u (by rw[size_toArray];omega)) ⟨e,?_⟩;refine⟨.Ho,_,I.Qf (its':=its++[u]) a e (by simp) (r.append (.cons c .nil)) ?_,rfl,q⟩;rw[List.length_append,length_singleton];omega
theorem len_rep {α:Type}(xs:List α)(k:Nat):(replicate k xs).flatten.length=k*xs.length:=by
 induction k with
 |zero=>simp
 |succ k a=>rw[replicate_succ,flatten_cons,List.length_append,a,Nat.succ_mul,Nat.add_comm]
end
inductive D where
 |Ho |bl (b:Bool) |int (i:Int) |str (x:Str)
 |tup (xs:List D) |lst (xs:List D) |set (xs:List D) |loc (l:Nat) |fn (x:Str) (st:Stmt)
 deriving Inhabited
def TQ (K:GV)(H:Hp)(J:List Addr)(a:Addr)(xs:List V):Prop:=
 (Rd H a (.tup xs)/\a∉J/\xs.length<=sizeLine)∨∃ (o:Obj) (its:Array Value) (n:Nat),K.lookup a=some o/\o.cls = .type "tuple"/\o.dict=none/\o.data = .seq its n/\its.size<=sizeLine/\Vals xs its.toList
def LQ (K:GV)(H:Hp)(J:List Addr)(a:Addr)(xs:List V):Prop:=
 (Rd H a (.lst xs)/\a∉J/\xs.length<=sizeLine)∨∃ (o:Obj) (its:Array Value) (n:Nat),K.lookup a=some o/\o.cls = .type "list"/\o.dict=none/\o.data = .seq its n/\its.size<=sizeLine/\Vals xs its.toList
theorem TQ.sq {K:GV}{H:Hp}{J:List Addr}{a:Addr}{xs:List V}(h:TQ K H J a xs):Kn K H a xs:=h.elim (λz => .inl z.1) λ⟨o,its,n,a,b,_,c⟩ => .inr ⟨o,its,n,a,b,c⟩
theorem LQ.sq {K:GV}{H:Hp}{J:List Addr}{a:Addr}{xs:List V}(h:LQ K H J a xs):Ki K H a xs:=h.elim (λz => .inl z.1) .inr
def Fe (a:Addr)(us:List Value):HO:=HO.ext λh => ∃ o es ep t,h.get? a=some o/\o.ExactSet/\o.data = .set es ep t/\(es.toList.map (·.2))=us/\t.fits es.size=true/\es.size<=sizeLine
def N2 (x:Str):Prop:=x.length<=sizeLine/\PyData.strOk x=true
mutual
def At (K:GV)(H:Hp)(J:List Addr):D->V->Prop
 | .Ho,v=>v = .Ho
 | .bl b,v=>v = .bl b
 | .int i,v=>v = .int i
 | .str x,v=>v = .str x/\N2 x
 | .tup d,v => ∃ a c,v = .ref a/\TQ K H J a c/\G5 K H J d c
 | .lst d,v => ∃ a c,v = .ref a/\LQ K H J a c/\G5 K H J d c
 | .set d,v => ∃ a e c,v = .ref a/\H a=some (Fe a e)/\a∉J/\Vals c e/\G5 K H J d c
 | .loc l,v => ∃ a,v = .ref a/\J[l]?=some a
 | .fn x st,v => ∃ f fd,v = .ref f/\Lz K x x st f fd
def G5 (K:GV)(H:Hp)(J:List Addr):List D->List V->Prop
 |[],vs=>vs=[]
 |d::ds,vs => ∃ v r,vs=v::r/\At K H J d v/\G5 K H J ds r
end
structure Ex (J:List Addr) (H:Hp) (J':List Addr) (H':Hp):Prop where
 pre:J <+: J'
 keep:∀ b o,H b=some o->b∉J->H' b=some o/\b∉J'
theorem Ex.refl {J:List Addr}{H:Hp}:Ex J H J H:=⟨prefix_refl _,λ_ _ h n=>⟨h,n⟩⟩
theorem Ex.trans {J e f:List Addr}{H g d:Hp}(a:Ex J H e g)(b:Ex e g f d):Ex J H f d:=
 ⟨a.pre.trans b.pre,λc o h n=>let ⟨j,i⟩:=a.keep c o h n;b.keep c o j i⟩
theorem Ex.same {J:List Addr}{H H':Hp}(s:Hb H H'):Ex J H J H':=⟨prefix_refl _,λb o h n=>⟨s b o h,n⟩⟩
section
variable {K:GV}{H H':Hp}{J J':List Addr}
theorem Rd.ex {a:Addr}{u:HO}(e:Ex J H J' H')(h:Rd H a u)(n:a∉J):Rd H' a u/\a∉J':=by
 rcases h with h |⟨o,h⟩
 ·exact⟨.inl (e.keep a _ h n).1,(e.keep a _ h n).2⟩
 exact⟨.inr ⟨o,(e.keep a _ h n).1⟩,(e.keep a _ h n).2⟩
theorem TQ.ex {a:Addr}{xs:List V}(e:Ex J H J' H')(h:TQ K H J a xs):TQ K H' J' a xs:=h.elim (λz => .inl ⟨(z.1.ex e z.2.1).1,(z.1.ex e z.2.1).2,z.2.2⟩) .inr
theorem LQ.ex {a:Addr}{xs:List V}(e:Ex J H J' H')(h:LQ K H J a xs):LQ K H' J' a xs:=h.elim (λz => .inl ⟨(z.1.ex e z.2.1).1,(z.1.ex e z.2.1).2,z.2.2⟩) .inr
theorem TQ.len {a:Addr}{xs:List V}(h:TQ K H J a xs):xs.length<=sizeLine:=by
 rcases h with ⟨_,_,z⟩ |⟨o,its,n,_,_,_,_,z,r⟩
 ·exact z
 have e:=Vals.length r;simp only[length_toList] at e;omega
theorem LQ.len {a:Addr}{xs:List V}(h:LQ K H J a xs):xs.length<=sizeLine:=by
 rcases h with ⟨_,_,z⟩ |⟨o,its,n,_,_,_,_,z,r⟩
 ·exact z
 have e:=Vals.length r;simp only[length_toList] at e;omega
theorem lW {α:Type}{l a:List α}(h:l <+: a){i:Nat}{x : α}(e:l[i]?=some x):a[i]?=some x:=by obtain⟨t,rfl⟩:=h;rw[getElem?_append_left (List.getElem?_eq_some_iff.mp e).1];exact e
mutual
theorem At.ex (e:Ex J H J' H'):∀ {d:D}{v:V},At K H J d v->At K H' J' d v
 | .Ho,_,h=>by unfold At at h ⊢;exact h
 | .bl _,_,h=>by unfold At at h ⊢;exact h
 | .int _,_,h=>by unfold At at h ⊢;exact h
 | .str _,_,h=>by unfold At at h ⊢;exact h
 | .tup c,_,h=>by unfold At at h ⊢;obtain⟨a,b,rfl,q,r⟩:=h;exact⟨a,b,rfl,q.ex e,G5.ex e r⟩
 | .lst c,_,h=>by unfold At at h ⊢;obtain⟨a,b,rfl,q,r⟩:=h;exact⟨a,b,rfl,q.ex e,G5.ex e r⟩
 | .set c,_,h=>by unfold At at h ⊢;obtain⟨a,f,b,rfl,q,n,r,z⟩:=h;exact⟨a,f,b,rfl,(e.keep a _ q n).1,(e.keep a _ q n).2,r,G5.ex e z⟩
 | .loc l,_,h=>by unfold At at h ⊢;obtain⟨a,rfl,q⟩:=h;exact⟨a,rfl,lW e.pre q⟩
 | .fn _ _,_,h=>by unfold At at h ⊢;exact h
theorem G5.ex (e:Ex J H J' H'):∀ {ds:List D}{vs:List V},G5 K H J ds vs->G5 K H' J' ds vs
 |[],_,h=>by unfold G5 at h ⊢;exact h
 |d::ds,_,h=>by unfold G5 at h ⊢;obtain⟨v,r,rfl,p,q⟩:=h;exact⟨v,r,rfl,At.ex e p,G5.ex e q⟩
end
theorem At.HK {v:V}:At K H J .Ho v↔v = .Ho:=by unfold At;exact Iff.rfl
theorem At.Ht {b:Bool}{v:V}:At K H J (.bl b) v↔v = .bl b:=by unfold At;exact Iff.rfl
theorem At.G2 {i:Int}{v:V}:At K H J (.int i) v↔v = .int i:=by unfold At;exact Iff.rfl
theorem At.Hd {x:Str}{v:V}:At K H J (.str x) v↔v = .str x/\N2 x:=by unfold At;exact Iff.rfl
theorem At.He {ds:List D}{v:V}:At K H J (.tup ds) v↔∃ a xs,v = .ref a/\TQ K H J a xs/\G5 K H J ds xs:=by unfold At;exact Iff.rfl
theorem At.Hh {ds:List D}{v:V}:At K H J (.lst ds) v↔∃ a xs,v = .ref a/\LQ K H J a xs/\G5 K H J ds xs:=by unfold At;exact Iff.rfl
theorem At.JM {ds:List D}{v:V}:At K H J (.set ds) v↔∃ a us xs,v = .ref a/\H a=some (Fe a us)/\a∉J/\Vals xs us/\G5 K H J ds xs:=by unfold At;exact Iff.rfl
theorem At.Hc {l:Nat}{v:V}:At K H J (.loc l) v↔∃ a,v = .ref a/\J[l]?=some a:=by unfold At;exact Iff.rfl
theorem At.MV {x:Str}{st:Stmt}{v:V}:At K H J (.fn x st) v↔∃ f fd,v = .ref f/\Lz K x x st f fd:=by unfold At;exact Iff.rfl
theorem G5.G7 {vs:List V}:G5 K H J [] vs↔vs=[]:=by unfold G5;exact Iff.rfl
theorem G5.G3 {d:D}{ds:List D}{vs:List V}:G5 K H J (d::ds) vs↔∃ v r,vs=v::r/\At K H J d v/\G5 K H J ds r:=by
 constructor
 ·intro h;unfold G5 at h;exact h
 intro h;unfold G5;exact h
theorem G5.nil:G5 K H J [] []:=G5.G7.mpr rfl
theorem G5.cons {d:D}{v:V}{ds:List D}{vs:List V}(h:At K H J d v)(r:G5 K H J ds vs):G5 K H J (d::ds) (v::vs):=G5.G3.mpr ⟨v,vs,rfl,h,r⟩
theorem G5.G6 {d:D}{v:V}{ds:List D}{vs:List V}(h:G5 K H J (d::ds) (v::vs)):At K H J d v/\G5 K H J ds vs:=by obtain⟨_,_,e,p,q⟩:=G5.G3.mp h;cases e;exact⟨p,q⟩
theorem G5.length:∀ {ds:List D}{vs:List V},G5 K H J ds vs->ds.length=vs.length
 |[],_,h=>by rw[G5.G7.mp h];rfl
 |d::ds,_,h=>by obtain⟨v,r,rfl,_,q⟩:=G5.G3.mp h;rw[length_cons,length_cons,G5.length q]
theorem G5.append:∀ {ds es:List D}{vs us:List V},G5 K H J ds vs->G5 K H J es us->G5 K H J (ds++es) (vs++us)
 |[],_,_,_,h,k=>by rw[G5.G7.mp h];exact k
 |d::ds,_,_,_,h,k=>by obtain⟨v,r,rfl,p,q⟩:=G5.G3.mp h;exact .cons p (G5.append q k)
theorem G5.get:∀ {ds:List D}{vs:List V}{i:Nat}{d:D},G5 K H J ds vs->ds[i]?=some d->∃ v,vs[i]?=some v/\At K H J d v
 |[],_,_,_,_,e=>by simp at e
 |d::ds,_,0,_,h,e=>by obtain⟨v,r,rfl,p,q⟩:=G5.G3.mp h;simp at e;subst e;exact⟨v,rfl,p⟩
 |d::ds,_,i+1,_,h,e=>by obtain⟨v,r,rfl,p,q⟩:=G5.G3.mp h;exact G5.get (i:=i) q (by simpa using e)
theorem G5.get':∀ {ds:List D}{vs:List V}{i:Nat}{v:V},G5 K H J ds vs->vs[i]?=some v->∃ d,ds[i]?=some d/\At K H J d v
 |[],_,_,_,h,e=>by rw[G5.G7.mp h] at e;simp at e
 |d::ds,_,0,_,h,e=>by obtain⟨v,r,rfl,p,q⟩:=G5.G3.mp h;simp at e;subst e;exact⟨d,rfl,p⟩
 |d::ds,_,i+1,_,h,e=>by obtain⟨v,r,rfl,p,q⟩:=G5.G3.mp h;exact G5.get' (i:=i) q (by simpa using e)
theorem G5.take:∀ {ds:List D}{vs:List V}(n:Nat),G5 K H J ds vs->G5 K H J (ds.take n) (vs.take n)
 |_,_,0,_=>by simpa using G5.nil
 |[],_,_+1,h=>by rw[G5.G7.mp h];simpa using G5.nil
 |d::ds,_,n+1,h=>by obtain⟨v,r,rfl,p,q⟩:=G5.G3.mp h;exact .cons p (G5.take n q)
theorem G5.drop:∀ {ds:List D}{vs:List V}(n:Nat),G5 K H J ds vs->G5 K H J (ds.drop n) (vs.drop n)
 |_,_,0,h=>h
 |[],_,_+1,h=>by rw[G5.G7.mp h];simpa using G5.nil
 |d::ds,_,n+1,h=>by obtain⟨v,r,rfl,p,q⟩:=G5.G3.mp h;exact G5.drop n q
theorem G5.rep {ds:List D}{vs:List V}(h:G5 K H J ds vs):∀ k:Nat,G5 K H J (replicate k ds).flatten (replicate k vs).flatten
 | 0=>G5.nil
 |k+1=>by rw[replicate_succ,replicate_succ,flatten_cons,flatten_cons];exact h.append (G5.rep h k)
theorem G5.ofInts:∀ (ns:List Int),G5 K H J (ns.map D.int) (ns.map V.int)
 |[] => .nil
 |n::ns => .cons (At.G2.mpr rfl) (G5.ofInts ns)
theorem G5.JW:∀ {ns:List Int}{vs:List V},G5 K H J (ns.map D.int) vs->vs=ns.map V.int
 |[],_,h=>G5.G7.mp h
 |n::ns,_,h=>by obtain⟨v,r,rfl,p,q⟩:=G5.G3.mp h;rw[At.G2.mp p,G5.JW q];rfl
end
mutual
def toPy:D->Option PyData
 | .Ho=>some .none
 | .bl b=>some (.bool b)
 | .int i=>some (.int i)
 | .str x=>some (.str x)
 | .tup a=>(cG a).map .tuple
 | .lst a=>(cG a).map .list
 | .set _=>none
 | .loc _=>none
 | .fn _ _=>none
def cG:List D->Option (List PyData)
 |[]=>some []
 |d::ds=>(toPy d).bind λp=>(cG ds).map λr=>p::r
end
inductive MO where
 |dict (kvs:List (D×D)) |lst (xs:List D) |exc (c:Str) |Hi (kvs:List (D×D)) |ins (c:Str) (fs:List (Str×D))
 deriving Inhabited
abbrev G0:=List MO
def dO:D->Option Key
 | .int i=>some (.inl i)
 | .str x=>some (.inr x)
 |_=>none
def V2 (a C:Addr):HO:=HO.ext λh => ∃ o,h.get? a=some o/\o.cls = .ref C
def fD (d:D):Option PyData:=(toPy d).bind λp=>if keyOk 8 p=true then some p else none
abbrev Md (K:GV)(H:Hp)(J:List Addr):(D×D)->(PyData×Addr×V)->Prop:=λp q=>(fD p.1=some q.1/\At K H J p.1 (.ref q.2.1))/\At K H J p.2 q.2.2
abbrev RG (K:GV)(H:Hp)(J:List Addr):(Str×D)->(Str×V)->Prop:=λp q=>p.1=q.1/\At K H J p.2 q.2
def ME (K:GV)(H:Hp)(J:List Addr):MO->Addr->Prop
 | .lst h,a => ∃ f,H a=some (.lst f)/\G5 K H J h f
 | .dict b,a => ∃ d:List (Key×V),H a=some (.dK d)/\Paired (λ(p:D×D) (q:Key×V)=>(dO p.1=some q.1/\At K H J p.1 (kV q.1))/\At K H J p.2 q.2) b d
 | .exc c,a => ∃ C,PySem.W.nsIn K mainGlobals c=some (some (.ref C))/\H a=some (V2 a C)
 | .Hi b,a => ∃ d:List (PyData×Addr×V),H a=some (.dN d)/\Paired (Md K H J) b d
 | .ins c fs,a => ∃ C g e,PySem.W.nsIn K mainGlobals c=some (some (.ref C))/\H a=some (.ins C g e)/\Paired (RG K H J) fs e
structure Hr (K:GV) (J:List Addr) (S:G0) (H:Hp):Prop where
 len:J.length=S.length
 nd:J.Nodup
 at_:∀ (l:Nat) (a:Addr) (o:MO),J[l]?=some a->S[l]?=some o->ME K H J o a
section
variable {K:GV}{H H':Hp}{J J':List Addr}{S:G0}
theorem ME.KU {o:MO}{a:Addr}(h:ME K H J o a):H a≠none:=by
 cases o with
 |dict b=>obtain⟨_,e,_⟩:=h;rw[e];simp
 |lst d=>obtain⟨_,e,_⟩:=h;rw[e];simp
 |exc c=>obtain⟨_,_,e⟩:=h;rw[e];simp
 |Hi b=>obtain⟨_,e,_⟩:=h;rw[e];simp
 |ins c fs=>obtain⟨_,_,_,_,e,_⟩:=h;rw[e];simp
theorem Hr.tracked (s:Hr K J S H){a:Addr}(h:a∈J):H a≠none:=by
 obtain⟨l,e⟩:=getElem?_of_mem h;have b:l<S.length:=by rw[← s.len];exact(List.getElem?_eq_some_iff.mp e).1
 exact(s.at_ l a _ e (List.getElem?_eq_getElem b)).KU
theorem ME.ex {o:MO}{a:Addr}(e:Ex J H J' H')(k:H' a=H a)(h:ME K H J o a):ME K H' J' o a:=by
 cases o with
 |dict d=>obtain⟨b,q,r⟩:=h;exact⟨b,k.trans q,Paired.KL r λp q z=>⟨⟨z.1.1,z.1.2.ex e⟩,z.2.ex e⟩⟩
 |lst j=>obtain⟨g,q,r⟩:=h;exact⟨g,k.trans q,r.ex e⟩
 |exc c=>obtain⟨C,q,r⟩:=h;exact⟨C,q,k.trans r⟩
 |Hi d=>obtain⟨b,q,r⟩:=h;exact⟨b,k.trans q,Paired.KL r λp q z=>⟨⟨z.1.1,z.1.2.ex e⟩,z.2.ex e⟩⟩
 |ins c fs=>obtain⟨C,i,f,n,q,r⟩:=h;exact⟨C,i,f,n,k.trans q,Paired.KL r λp q z=>⟨z.1,z.2.ex e⟩⟩
theorem Hr.same (s:Hr K J S H)(e:Hb H H'):Hr K J S H':=⟨s.len,s.nd,λl a o c d=>by
 have q:=s.at_ l a o c d;refine q.ex (Ex.same e) ?_;obtain⟨u,b⟩:=Option.ne_none_iff_exists'.mp q.KU
 rw[b];exact e a u b⟩
end
theorem aM {H:Hp}{p:Addr}(h:H p=none)(o:HO):Hb H (upd H p o):=λb u q=>by rw[aF (aJ q h)];exact q
abbrev G1:=List (Option D)
abbrev Out (α:Type):=Option (Except Str α×G0)
abbrev GU(α:Type):=G1->G0->Out α
abbrev GZ:=List D->G0->Out D
abbrev WT:=Str->List Addr->G0->Hp->Prop
noncomputable def ai {α b:Type}(m:Out α) (k : α->G0->Out b):Out b:=
 match m with
 |none=>none
 |some (.error c,S)=>some (.error c,S)
 |some (.ok a,S)=>k a S
noncomputable def G9 {α:Type}(a : α) (S:G0):Out α:=some (.ok a,S)
@[simp] theorem dz {α b:Type}(a : α)(S:G0)(k : α->G0->Out b):ai (G9 a S) k=k a S:=rfl
@[simp] theorem eD {α b:Type}(a : α)(S:G0)(k : α->G0->Out b):ai (some (.ok a,S)) k=k a S:=rfl
@[simp] theorem D9 {α a:Type}(c:Str)(S:G0)(k : α->G0->Out a):ai (some (.error c,S)) k=some (.error c,S):=rfl
@[simp] theorem DQ {α a:Type}(k : α->G0->Out a):ai none k=none:=rfl
noncomputable def aK {α:Type}(a:Option α) (S:G0):Out α:=a.map λa=>(.ok a,S)
@[simp] theorem bt {α:Type}(a : α)(S:G0):aK (some a) S=G9 a S:=rfl
@[simp] theorem D8 {α:Type}(S:G0):aK (none:Option α) S=none:=rfl
structure Cf (X:Cx) (J:List Addr) (ρ:G1) (S:G0) (σ:St) (H:Hp):Prop where
 len : ρ.length = σ.length
 env:∀ (i:Nat) (d:D),ρ[i]?=some (some d)->∃ v,σ[i]?=some (some v)/\At X.K H J d v
 Hu:Hr X.K J S H
theorem Cf.re {X:Cx}{J a:List Addr}{ρ:G1}{S f:G0}{b:St}{H H':Hp}(c:Cf X J ρ S b H)(e:Ex J H a H')(s:Hr X.K a f H'):Cf X a ρ f b H':=
 ⟨c.len,λi d h=>let ⟨v,g,j⟩:=c.env i d h;⟨v,g,j.ex e⟩,s⟩
def Gf {α g:Type}(X:Cx)(W:WT)(R:List Addr->Hp->α->g->Prop)(J:List Addr)(H:Hp)(r:Except Str α)(f:G0)(Q : g->Hp->Prop):Prop:=
 match r with
 | .ok a => ∀ e d b,Ex J H e d->Hr X.K e f d->R e d a b->Q b d
 | .error c => ∀ e d,Ex J H e d->Hr X.K e f d->W c e f d
def tG {α a:Type}(X:Cx)(W:WT)(R:List Addr->Hp->α->a->Prop)(ds:List D)(vs:List V)(g:GU α):St->Hp->(a->Hp->Prop)->Prop:=λd H Q =>
 ∃ J b S r c,Cf X J b S d H/\G5 X.K H J ds vs/\g b S=some (r,c)/\Gf X W R J H r c Q
abbrev RD (X:Cx):List Addr->Hp->D->V->Prop:=λJ H d v=>At X.K H J d v
abbrev V3 (X:Cx):List Addr->Hp->List D->List V->Prop:=λJ H d v=>G5 X.K H J d v
abbrev RB:List Addr->Hp->Bool->Bool->Prop:=λ_ _ a b=>a=b
def tE (X:Cx)(W:WT)(g:GU D):TE:=tG X W (RD X) [] [] g
def tA (X:Cx)(W:WT)(g:GU (List D)):TA:=tG X W (V3 X) [] [] g
def tT (X:Cx)(W:WT)(g:GU Bool):TT:=tG X W RB [] [] g
def SE (X:Cx)(W:WT)(e:Expr)(g:GU D):Prop:=PE X e (tE X W g)
def SA (X:Cx)(W:WT)(es:List Expr)(g:GU (List D)):Prop:=PA X es (tA X W g)
def Ky (X:Cx)(W:WT)(e:Expr)(g:GU Bool):Prop:=PT X e (tT X W g)
def SW (X:Cx)(W:WT)(e:Expr)(g:GU Bool):Prop:=PW X e (tT X W g)
theorem PE.imp {X:Cx}{e:Expr}{t t':TE}(h:PE X e t)(i:∀ a H Q,t' a H Q->t a H Q):PE X e t':=λb s a H Q I z=>h b s a H Q I (i a H Q z)
theorem PT.imp {X:Cx}{e:Expr}{t t':TT}(h:PT X e t)(i:∀ a H Q,t' a H Q->t a H Q):PT X e t':=λb s a H Q I z=>h b s a H Q I (i a H Q z)
theorem PW.imp {X:Cx}{e:Expr}{t t':TT}(h:PW X e t)(i:∀ a H Q,t' a H Q->t a H Q):PW X e t':=λc b s a H Q I z=>h c b s a H Q I (i a H Q z)
theorem PA.imp {X:Cx}{e:List Expr}{t t':TA}(h:PA X e t)(i:∀ a H Q,t' a H Q->t a H Q):PA X e t':=λpos b s a H Q I z=>h pos b s a H Q I (i a H Q z)
section
variable {X:Cx}{W:WT}{α β γ:Type}{R:List Addr->Hp->γ->β->Prop}
theorem tG.Ha {i:GU D}{k:D->GU γ}{ds:List D}{vs:List V}{j:St}{H:Hp}{Q : β->Hp->Prop}
  (h:tG X W R ds vs (λρ S=>ai (i ρ S) λd f=>k d ρ f) j H Q):tE X W i j H λv s => ∃ d,tG X W R (d::ds) (v::vs) (k d) j s Q:=by
 obtain⟨J,ρ,S,r,A,c,a,e,z⟩:=h;cases q:i ρ S with
 |none=>simp[q] at e
 |some o =>
  obtain⟨y,f⟩:=o;simp only[q] at e;cases y with
  |error x =>
   cases e;exact⟨J,ρ,S,.error x,_,c,.nil,q,z⟩
  |ok d =>
   refine⟨J,ρ,S,.ok d,f,c,.nil,q,λu s v x t m=>⟨d,u,ρ,f,r,A,c.re x t,.cons m (a.ex x),e,?_⟩⟩;cases r with
   |ok g=>exact λl n b x2 p w=>z l n b (x.trans x2) p w
   |error g=>exact λl n x2 p=>z l n (x.trans x2) p
theorem tG.JX {i:GU (List D)}{k:List D->GU γ}{ds:List D}{vs:List V}{j:St}{H:Hp}{Q : β->Hp->Prop}
  (h:tG X W R ds vs (λρ S=>ai (i ρ S) λd f=>k d ρ f) j H Q):tA X W i j H λus s => ∃ es,es.length=us.length/\tG X W R (es++ds) (us++vs) (k es) j s Q:=by
 obtain⟨J,ρ,S,r,A,c,a,e,z⟩:=h;cases q:i ρ S with
 |none=>simp[q] at e
 |some o =>
  obtain⟨y,f⟩:=o;simp only[q] at e;cases y with
  |error x =>
   cases e;exact⟨J,ρ,S,.error x,_,c,.nil,q,z⟩
  |ok d =>
   refine⟨J,ρ,S,.ok d,f,c,.nil,q,λu s v x t m=>⟨d,G5.length m,u,ρ,f,r,A,c.re x t,G5.append m (a.ex x),e,?_⟩⟩;cases r with
   |ok g=>exact λl n b x2 p w=>z l n b (x.trans x2) p w
   |error g=>exact λl n x2 p=>z l n (x.trans x2) p
theorem tG.Kz {i:GU Bool}{k:Bool->GU γ}{ds:List D}{vs:List V}{j:St}{H:Hp}{Q : β->Hp->Prop}
  (h:tG X W R ds vs (λρ S=>ai (i ρ S) λd f=>k d ρ f) j H Q):tT X W i j H λb s=>tG X W R ds vs (k b) j s Q:=by
 obtain⟨J,ρ,S,r,A,c,a,e,z⟩:=h;cases q:i ρ S with
 |none=>simp[q] at e
 |some o =>
  obtain⟨y,f⟩:=o;simp only[q] at e;cases y with
  |error x =>
   cases e;exact⟨J,ρ,S,.error x,_,c,.nil,q,z⟩
  |ok d =>
   refine⟨J,ρ,S,.ok d,f,c,.nil,q,λu s v x t m=>?_⟩;cases m;refine⟨u,ρ,f,r,A,c.re x t,a.ex x,e,?_⟩;cases r with
   |ok g=>exact λl n b x2 p w=>z l n b (x.trans x2) p w
   |error g=>exact λl n x2 p=>z l n (x.trans x2) p
end
section
variable {X:Cx}{pins:GX}{σ:St}{H:Hp}{s:Shared}{J:List Addr}
mutual
theorem At.reads (I:Inv X pins σ H s):∀ {d:D}{v:V}{u:Value}{p:PyData},At X.K H J d v->RelV v u->toPy d=some p->p.canLay0=true/\∃ as,Reads s.heap u p as
 | .Ho,_,_,_,h,r,e=>by
  have h:=At.HK.mp h;subst h;simp[toPy] at e;subst e;cases r;exact⟨rfl,[],.none⟩
 | .bl b,_,_,_,h,r,e=>by
  have h:=At.Ht.mp h;subst h;simp[toPy] at e;subst e;cases r;exact⟨rfl,[],.bool b⟩
 | .int i,_,_,_,h,r,e=>by
  have h:=At.G2.mp h;subst h;simp[toPy] at e;subst e;obtain⟨t,rfl⟩:=r;exact⟨rfl,[],.int i t⟩
 | .str x,_,_,_,h,r,e=>by
  obtain⟨ev,A⟩:=At.Hd.mp h;subst ev;simp[toPy] at e;subst e;obtain⟨t,rfl⟩:=r;exact⟨by rw[PyData.canLay0];exact A.2,[],.str x t⟩
 | .tup B,_,_,_,h,r,e=>by
  obtain⟨a,y,rfl,q,z⟩:=At.He.mp h;rw[toPy] at e;obtain⟨w,l,j⟩:=map_eq_some_iff.mp e;subst j;cases r;obtain⟨its,k,⟨o,g,f,n,hd⟩,_⟩:=I.tuple q.sq;obtain⟨c,as,m⟩:=G5.readsAll I z k l;exact⟨by rw[PyData.canLay0];exact c,_,.tuple g f hd (by simpa using m)⟩
 | .lst B,_,_,_,h,r,e=>by
  obtain⟨a,y,rfl,q,z⟩:=At.Hh.mp h;rw[toPy] at e;obtain⟨w,l,j⟩:=map_eq_some_iff.mp e;subst j;cases r;obtain⟨its,k,⟨o,n,g,f,_,hd⟩,_⟩:=I.list q.sq;obtain⟨c,as,m⟩:=G5.readsAll I z k l;exact⟨by rw[PyData.canLay0];exact c,_,.list g f hd (by simpa using m)⟩
 | .set _,_,_,_,_,_,e=>by simp[toPy] at e
 | .loc _,_,_,_,_,_,e=>by simp[toPy] at e
 | .fn _ _,_,_,_,_,_,e=>by simp[toPy] at e
theorem G5.readsAll (I:Inv X pins σ H s):∀ {ds:List D}{vs:List V}{us:List Value}{a:List PyData},G5 X.K H J ds vs->Vals vs us->cG ds=some a->PyData.canLayAll0 a=true/\∃ as,ReadsAll s.heap us a as
 |[],_,_,_,h,r,e=>by
  have h:=G5.G7.mp h;subst h;simp[cG] at e;subst e;cases r;exact⟨rfl,[],.nil⟩
 |d::ds,_,_,_,h,r,e=>by
  obtain⟨v,vs,rfl,p,q⟩:=G5.G3.mp h;rw[cG] at e;obtain⟨o,j,i⟩:=bind_eq_some_iff.mp e;obtain⟨t,c,g⟩:=map_eq_some_iff.mp i;subst g;cases r with
  |cons f k =>
   obtain⟨l,as,m⟩:=At.reads I p f j;obtain⟨n,bs,b⟩:=G5.readsAll I q k c;exact⟨by rw[PyData.canLayAll0,l,n];rfl,_,.cons m b⟩
end
end
section
variable {K:GV}
def Uv (K:GV)(g:D->Option D):V->Hp->VK->Prop:=λx H Q => ∃ J c d,(∀ a∈J,H a≠none)/\At K H J c x/\g c=some d/\∀ b v,Hb H b->At K b J d v->Q v b
def Qh (K:GV)(g:D->D->Option D):R2:=λx y H Q => ∃ J e c d,(∀ a∈J,H a≠none)/\At K H J e x/\At K H J c y/\g e c=some d/\∀ b v,Hb H b->At K b J d v->Q v b
def SQ (K:GV)(g:List D->Option D):List V->Hp->VK->Prop:=λe H Q => ∃ J c d,(∀ a∈J,H a≠none)/\G5 K H J c e/\g c=some d/\∀ b v,Hb H b->At K b J d v->Q v b
end
theorem wB {H:Hp}{J:List Addr}(h:∀ a∈J,H a≠none){p:Addr}(n:H p=none):p∉J:=λm=>h p m n
theorem At.IF {K:GV}{H:Hp}{J:List Addr}{p:Addr}{ds:List D}{xs:List V}(h:G5 K H J ds xs)(n:H p=none)(b:∀ a∈J,H a≠none)(hz:xs.length<=sizeLine):At K (upd H p (.tup xs)) J (.tup ds) (.ref p):=
 At.He.mpr ⟨p,xs,rfl,.inl ⟨.inl G_,wB b n,hz⟩,h.ex (Ex.same (aM n _))⟩
theorem At.I0 {K:GV}{H:Hp}{J:List Addr}{p:Addr}{ds:List D}{xs:List V}(h:G5 K H J ds xs)(n:H p=none)(b:∀ a∈J,H a≠none)(hz:xs.length<=sizeLine):At K (upd H p (.lst xs)) J (.lst ds) (.ref p):=
 At.Hh.mpr ⟨p,xs,rfl,.inl ⟨.inl G_,wB b n,hz⟩,h.ex (Ex.same (aM n _))⟩
section
variable {X:Cx}{W:WT}
theorem tG.mono {α d:Type}{R:List Addr->Hp->α->d->Prop}{ds:List D}{vs:List V}{g:GU α}{j:St}{H:Hp}{Q f : d->Hp->Prop}(h:tG X W R ds vs g j H Q)(i:∀ b H',Q b H'->f b H'):tG X W R ds vs g j H f:=by
 obtain⟨J,k,S,r,m,c,a,e,z⟩:=h;refine⟨J,k,S,r,m,c,a,e,?_⟩;cases r with
 |ok g=>exact λl H' b x s r=>i _ _ (z l H' b x s r)
 |error g=>exact z
theorem Hr.all {K:GV}{J:List Addr}{S:G0}{H:Hp}(s:Hr K J S H):∀ a∈J,H a≠none:=λ_ m=>s.tracked m
theorem tG.V4 {g:D->Option D}{b:D}{x:V}{f:St}{H:Hp}{Q:VK}(h:tG X W (RD X) [b] [x] (λ_ S=>aK (g b) S) f H Q):Uv X.K g x H Q:=by
 obtain⟨J,k,S,r,l,c,a,e,z⟩:=h;obtain⟨i,_⟩:=a.G6;cases q:g b with
 |none=>simp[q] at e
 |some d =>
  simp only[q,bt,G9] at e;cases e;exact⟨J,b,d,c.Hu.all,i,q,λj v s m=>z J j v (Ex.same s) (c.Hu.same s) m⟩
theorem tG.Uw {g:D->D->Option D}{f b:D}{x y:V}{i:St}{H:Hp}{Q:VK}(h:tG X W (RD X) [b,f] [y,x] (λ_ S=>aK (g f b) S) i H Q):Qh X.K g x y H Q:=by
 obtain⟨J,n,S,r,o,c,a,e,z⟩:=h;obtain⟨k,a⟩:=a.G6;obtain⟨j,_⟩:=a.G6;cases q:g f b with
 |none=>simp[q] at e
 |some d =>
  simp only[q,bt,G9] at e;cases e;exact⟨J,f,b,d,c.Hu.all,j,k,q,λl v s m=>z J l v (Ex.same s) (c.Hu.same s) m⟩
theorem tG.V5 {g:List D->Option D}{ds:List D}{xs:List V}{b:St}{H:Hp}{Q:VK}(h:tG X W (RD X) ds xs (λ_ S=>aK (g ds) S) b H Q):SQ X.K g xs H Q:=by
 obtain⟨J,i,S,r,j,c,a,e,z⟩:=h;cases q:g ds with
 |none=>simp[q] at e
 |some d =>
  simp only[q,bt,G9] at e;cases e;exact⟨J,ds,d,c.Hu.all,a,q,λf v s m=>z J f v (Ex.same s) (c.Hu.same s) m⟩
abbrev Lf (X:Cx)(f:Value->Value->Sem Value)(g:D->D->Option D):Prop:=KR X f (Qh X.K g)
abbrev Ux (X:Cx)(f:Value->Sem Value)(g:D->Option D):Prop:=Rz X f (Uv X.K g)
abbrev iT (X:Cx)(f:Value)(g:List D->Option D):Prop:=h_ X f (SQ X.K g)
noncomputable def ah (i:Nat):GU D:=λa S=>match a[i]? with
 |some (some d)=>G9 d S
 |_=>none
theorem aa {i:Nat}{x:Str}{pos:Pos}(b:X.N[i]?=some x:=by rfl)(f:PQ X.env.scope x:=by first |exact Or.inl rfl |exact Or.inr (Or.inl rfl) |exact Or.inr (Or.inr rfl))(hd:(x==("__debug__":Str))=false:=by decide)
  (g:(x==("__classdict__":Str))=false:=by decide):SE X W (.Name x pos) (ah i):=(zj b f hd g).imp λl H Q h=>by
 obtain⟨J,k,S,r,m,c,_,e,z⟩:=h;unfold ah at e;split at e
 ·rename_i d q;obtain⟨v,j,a⟩:=c.env i d q;cases e;exact⟨v,j,z J H v Ex.refl c.Hu a⟩
 cases e
def aE (d:D):GU D:=λ_ S=>G9 d S
theorem ma {d:D}{v:V}{b:St}{H:Hp}{Q:VK}(h:tE X W (aE d) b H Q)(a:∀ J,At X.K H J d v):Q v H:=by obtain⟨J,f,S,r,g,c,_,e,z⟩:=h;cases e;exact z J H v Ex.refl c.Hu (a J)
theorem aq {i j pos}:SE X W (.Constant (.int i) j pos) (aE (.int i)):=OA.imp λa H Q h=>ma h λ_=>At.G2.mpr rfl
theorem oE {b j pos}:SE X W (.Constant (.bool b) j pos) (aE (.bl b)):=PY.imp λa H Q h=>ma h λ_=>At.Ht.mpr rfl
theorem kj {j pos}:SE X W (.Constant .none j pos) (aE .Ho):=OB.imp λa H Q h=>ma h λ_=>At.HK.mpr rfl
theorem iV {x j pos}(a:N2 x:=by exact⟨by decide,by decide⟩):SE X W (.Constant (.str x) j pos) (aE (.str x)):=OC.imp λb H Q h=>ma h λ_=>At.Hd.mpr ⟨rfl,a⟩
def aG (g:D->D->Option D)(c e:GU D):GU D:=λa S=>ai (c a S) λx d=>ai (e a d) λy b=>aK (g x y) b
def Qi (g:D->Option D)(b:GU D):GU D:=λa S=>ai (b a S) λx c=>aK (g x) c
variable {a b c:Expr}{fa fb fc:GU D}{pos:Pos}
theorem jU {g:D->D->Option D}{a:St}{H:Hp}{Q:VK}(h:tE X W (aG g fa fb) a H Q):P0 (Qh X.K g) (tE X W fa) (tE X W fb) a H Q:=
 (tG.Ha h).mono λv j ⟨d,b⟩=>(tG.Ha b).mono λe f ⟨i,c⟩=>tG.Uw c
theorem aA {op:Operator}{g:D->D->Option D}(d:Lf X (binaryOp op) g)(c:SE X W a fa)(e:SE X W b fb):SE X W (.BinOp a op b pos) (aG g fa fb):=
 (Ez d c e).imp λf H Q h=>jU h
theorem vX {op:UnaryOp}{g:D->Option D}(c:Ux X (unaryOp op) g)(b:SE X W a fa):SE X W (.UnaryOp op a pos) (Qi g fa):=
 (Ey c b).imp λf H Q h=>(tG.Ha h).mono λv i ⟨d,e⟩=>tG.V4 e
theorem qg {op:CmpOp}{g:D->D->Option D}(d:Lf X (compareOp op) g)(c:SE X W a fa)(e:SE X W b fb)(f:behindInMarks op b=false:=by first |exact zz _ (by decide) (by decide) |with_unfolding_all rfl):SE X W (.Compare a [op] [b] pos) (aG g fa fb):=
 (Bu d c e f).imp λi H Q h=>jU h
def Me:D->Option Bool
 | .bl b=>some b
 |_=>none
def a9 (f:GU D):GU Bool:=λa S=>ai (f a S) λx b=>aK (Me x) b
theorem jt {f:GU D}{a:St}{H:Hp}{Q:Bool->Hp->Prop}(h:tT X W (a9 f) a H Q):Jv (tE X W f) a H Q:=
 (tG.Ha h).mono λv g b=>by
  obtain⟨d,i⟩:=b
  obtain⟨J,j,S,r,l,c,m,e,z⟩:=i;obtain⟨m,_⟩:=m.G6;cases d with
  |bl k =>
   cases e;exact⟨k,At.Ht.mp m,z J g k Ex.refl c.Hu rfl⟩
  |_=>simp[Me] at e
theorem Jv.mono {t t':TE}(i:∀ a H Q,t' a H Q->t a H Q){a:St}{H:Hp}{Q:Bool->Hp->Prop}(h:Jv t' a H Q):Jv t a H Q:=i _ _ _ h
theorem bG {op:CmpOp}{g:D->D->Option D}(d:Lf X (compareOp op) g)(c:SE X W a fa)(e:SE X W b fb)(f:behindInMarks op b=false:=by first |exact zz _ (by decide) (by decide) |with_unfolding_all rfl) :
  Ky X W (.Compare a [op] [b] pos) (a9 (aG g fa fb)):=
 (Be d c e f).imp λi H Q h=>Jv.mono (λ_ _ _=>jU) (jt h)
theorem fJ (b:SE X W a fa)(c:∀ whole,isTrue a X.env whole=(do let v ← whole;standAt a.pos;holding [v] (truthy v)):=by intro _;rfl):Ky X W a (a9 fa):=
 (CV b c).imp λd H Q h=>jt h
def DM (g g':D->D->Option D)(fa fb fc:GU D):GU D:=λa S=>ai (fa a S) λx d=>ai (fb a d) λy c=>ai (aK ((g x y).bind Me) c) λk b =>
 if k=true then ai (fc a b) λz e=>aK (g' y z) e else G9 (.bl false) b
def Aw (f g:GU Bool):GU Bool:=λa S=>ai (f a S) λk b=>if k=true then g a b else G9 false b
def DJ (f g:GU Bool):GU Bool:=λa S=>ai (f a S) λk b=>if k=true then G9 true b else g a b
def Aq (f:GU Bool):GU Bool:=λa S=>ai (f a S) λk b=>G9 (!k) b
variable {ga gb:GU Bool}{rest:List Expr}
theorem lZ {k:Bool}{a:St}{H:Hp}{Q:Bool->Hp->Prop}(h:tG X W RB [] [] (λ_ S=>G9 k S) a H Q):Q k H:=by obtain⟨J,b,S,r,d,c,_,e,z⟩:=h;cases e;exact z J H k Ex.refl c.Hu rfl
theorem AT (b:Ky X W a ga):SW X W (.BoolOp .And [a] pos) ga:=Bd b
theorem Cy (b:Ky X W a ga):SW X W (.BoolOp .Or [a] pos) ga:=CQ b
theorem Cz (d:Ky X W a ga)(e:SW X W (.BoolOp .And (b::rest) pos) gb):SW X W (.BoolOp .And (a::b::rest) pos) (Aw ga gb):=
 (CS d e).imp λf H Q h=>(tG.Kz h).mono λk g c=>by
  cases k with
  |true=>rw[if_pos rfl];exact c
  |false=>rw[if_neg (by decide)];exact lZ c
theorem El (d:Ky X W a ga)(e:SW X W (.BoolOp .Or (b::rest) pos) gb):SW X W (.BoolOp .Or (a::b::rest) pos) (DJ ga gb):=
 (Et d e).imp λf H Q h=>(tG.Kz h).mono λk g c=>by
  cases k with
  |true=>rw[if_pos rfl];exact lZ c
  |false=>rw[if_neg (by decide)];exact c
theorem vQ {e:Expr}(h:SW X W e ga):Ky X W e ga:=PW.pt h
theorem Cv (b:Ky X W a ga):Ky X W (.UnaryOp .Not a pos) (Aq ga):=(CW b).imp λd H Q h=>(tG.Kz h).mono λk e c=>lZ c
def Gd (f g:GU D):GU D:=λa S=>ai (f a S) λx c=>ai (aK (Me x) c) λk b=>if k=true then g a b else G9 (.bl false) b
def V6 (f g:GU D):GU D:=λa S=>ai (f a S) λx c=>ai (aK (Me x) c) λk b=>if k=true then G9 (.bl true) b else g a b
def Gb (f:GU D):GU D:=λa S=>ai (f a S) λx c=>ai (aK (Me x) c) λk b=>G9 (.bl (!k)) b
def oa (t:GU Bool)(f g:GU D):GU D:=λa S=>ai (t a S) λk b=>if k=true then f a b else g a b
theorem gK (f:Ky X W c ga)(e:SE X W a fa)(g:SE X W b fb):SE X W (.IfExp c a b pos) (oa ga fa fb):=
 (zn f e g).imp λi H Q h=>(tG.Kz h).mono λk j d=>by
  cases k with
  |true=>rw[if_pos rfl];exact d
  |false=>rw[if_neg (by decide)];exact d
def ar:GU (List D):=λ_ S=>G9 [] S
def af (f:GU D)(g:GU (List D)):GU (List D):=λa S=>ai (f a S) λd c=>ai (g a c) λe b=>G9 (d::e) b
variable {es:List Expr}{gs:GU (List D)}
theorem aj:SA X W [] ar:=Ib.imp λb H Q h=>by obtain⟨J,a,S,r,d,c,_,e,z⟩:=h;cases e;exact z J H _ Ex.refl c.Hu .nil
theorem ae {e:Expr}(j:SE X W e fa)(k:SA X W es gs)(o:starEach (e::es) X.env=(false,eval e X.env)::starEach es X.env:=by rfl):SA X W (e::es) (af fa gs):=
 (dM j k o).imp λA H Q h=>(tG.Ha h).mono λv B ⟨d,u⟩=>(tG.JX u).mono λa g p=>by
  obtain⟨f,b,n⟩:=p
  obtain⟨J,w,S,r,C,c,m,e,z⟩:=n;cases e;refine z J g _ Ex.refl c.Hu ?_
  have split:∀ {f:List D}{a:List V},f.length=a.length->G5 X.K g J (f++[d]) (a++[v])->G5 X.K g J f a/\At X.K g J d v:=by
   intro f
   induction f with
   |nil=>intro a b m;cases a with
    |nil=>exact⟨.nil,m.G6.1⟩
    |cons _ _=>simp at b
   |cons x t l=>intro a b m;cases a with
    |nil=>simp at b
    |cons y s =>
     have q:=G5.G6 (show G5 X.K g J (x::(t++[d])) (y::(s++[v])) from m);have i:=l (by simpa using b) q.2;exact⟨.cons q.1 i.1,i.2⟩
  have q:=split b m;exact .cons q.2 q.1
def Jc (ds:List D)(d:D):Option D:=if ds.length<=sizeLine then some d else none
def gu (g:GU (List D)):GU D:=λb S=>ai (g b S) λa c=>aK (Jc a (.tup a)) c
def n_ (g:GU (List D)):GU D:=λb S=>ai (g b S) λa c=>aK (Jc a (.lst a)) c
theorem cw {k}(h:SA X W es gs):SE X W (.Tuple es k pos) (gu gs):=(C9 h).imp λj H Q h=>(tG.JX h).mono λi l f=>by
 obtain⟨o,b,d⟩:=f
 rw[append_nil,append_nil] at d;obtain⟨J,g,S,r,n,c,m,e,z⟩:=d;unfold Jc at e;split at e
 ·rename_i le;cases e;exact⟨by rw[← b];exact le,λp a=>z J _ _ (Ex.same (aM a _)) (c.Hu.same (aM a _)) (At.IF m a c.Hu.all (by rw[← b];exact le))⟩
 cases e
theorem iX (h:SA X W es gs):SE X W (.List es pos) (n_ gs):=(zm h).imp λj H Q h=>(tG.JX h).mono λi k f=>by
 obtain⟨n,b,d⟩:=f
 rw[append_nil,append_nil] at d;obtain⟨J,g,S,r,l,c,m,e,z⟩:=d;unfold Jc at e;split at e
 ·rename_i le;cases e;exact⟨by rw[← b];exact le,λp a=>z J _ _ (Ex.same (aM a _)) (c.Hu.same (aM a _)) (At.I0 m a c.Hu.all (by rw[← b];exact le))⟩
 cases e
def bn (g:List D->Option D)(t:GU (List D)):GU D:=λa S=>ai (t a S) λc b=>aK (g c) b
theorem nM {g:List D->Option D}{b:St}{H:Hp}{Q:VK}(h:tE X W (bn g gs) b H Q):Sw (SQ X.K g) (tA X W gs) b H Q:=
 (tG.JX h).mono λd i c=>by
  obtain⟨e,f,a⟩:=c
  rw[append_nil,append_nil] at a;exact tG.V5 a
theorem bv {g:List D->Option D}{id:String}{x:Str}{p:Pos}{e:Expr}(b:iT X (.builtin id) g)(k:X.mg x=none)(a:bootBuiltins x=some (.builtin id))(c:SA X W (e::es) gs)(l:Gl X x:=by rfl)
  (d:x≠"__name__":=by decide) (i:(x==("__debug__":Str))=false:=by decide) (j:starEach (e::es) X.env=(false,eval e X.env)::starEach es X.env:=by rfl) (f:(backTo pos (starEach es X.env)).any (·.1)=false:=by rfl) :
  SE X W (.Call (.Name x p) (e::es) [] pos) (bn g gs):=by
 refine PE.imp (jD b l k a c d i j f) λm H Q h=>nM h
theorem bU {g:List D->Option D}{T:String}{x:Str}{p:Pos}{e:Expr}(b:iT X (.type T) g)(k:X.mg x=none)(a:bootBuiltins x=some (.type T))(c:SA X W (e::es) gs)(l:Gl X x:=by rfl)
  (d:x≠"__name__":=by decide) (i:(x==("__debug__":Str))=false:=by decide) (j:starEach (e::es) X.env=(false,eval e X.env)::starEach es X.env:=by rfl) (f:(backTo pos (starEach es X.env)).any (·.1)=false:=by rfl) :
  SE X W (.Call (.Name x p) (e::es) [] pos) (bn g gs):=by
 refine PE.imp (ko b l k a c d i j f) λm H Q h=>nM h
end
section
variable {X:Cx}
theorem p7 {x y:Str}(a:PyData.strOk x=true)(b:PyData.strOk y=true):PyData.strOk (x++y)=true:=by
 unfold PyData.strOk at *
 rw[show (x++y).cps=x.cps++y.cps from rfl,Array.all_append,a,b];rfl
def bE:D->D->Option D
 | .int i,.int j=>some (.int (i+j))
 | .str x,.str y=>if x.length+y.length<=sizeLine then some (.str (x++y)) else none
 | .tup b,.tup a=>if b.length+a.length<=sizeLine then some (.tup (b++a)) else none
 | .lst b,.lst a=>if b.length+a.length<=sizeLine then some (.lst (b++a)) else none
 |_,_=>none
theorem Ao {prog:Program}{w:World}{A:Around}{E:GW}{s:Shared}{t b:Addr}{vs ws:List Value}{Q:GW}(m:IsTup s.heap t vs.toArray)(p:IsTup s.heap b ws.toArray)(k:vs=[])
  (o:Q (.ref b) s):wpAny (model prog w) A (binaryOp .Add (.ref t) (.ref b)) Q E s:=by
 obtain⟨⟨cls,i,data,h⟩,d,c,n,hd⟩:=id m;obtain⟨⟨q,j,data2,g⟩,f,e,l,a⟩:=id p;simp only at c hd e a;subst c hd e a
 exact concat_meets ⟨_,d,rfl⟩ ⟨_,f,rfl⟩ noFill_tuple_add seq_tuple_add PySem.F.slot_tuple_add PySem.F.entry_tuple_add (PySem.F.args_tuple_add_2 _ _)
   (tuple_addW0 t b vs.toArray ws.toArray n l i j h g (by simp[k])) ⟨d,f,o⟩
theorem vt {prog:Program}{w:World}{A:Around}{E:GW}{s:Shared}{t b:Addr}{vs ws:Array Value}{Q:GW}(m:PlainL s.heap t vs)(o:PlainL s.heap b ws)
  (h:Q (.ref s.heap.objs.size) { s with heap:=s.heap.push { cls:=.type "list",data:=.seq (vs++ws) } }) (hsz:vs.size+ws.size<=sizeLine):wpAny (model prog w) A (binaryOp .Add (.ref t) (.ref b)) Q E s:=by
 obtain⟨⟨cls,j,data,i⟩,n,d,c,_,hd⟩:=id m;obtain⟨⟨p,k,data2,g⟩,l,f,e,_,a⟩:=id o;simp only at c hd e a;subst c hd e a
 exact concat_meets ⟨_,d,rfl⟩ ⟨_,f,rfl⟩ noFill_list_add seq_list_add PySem.F.slot_list_add PySem.F.entry_list_add (PySem.F.args_list_add_2 _ _)
   (list_addW t b vs ws n l j k i g hsz) ⟨d,f,h⟩
theorem mH (x y:Str):(x++y).length=x.length+y.length:=by show (x.cps++y.cps).size=_;rw[size_append];rfl
theorem aX:Lf X (binaryOp .Add) bE:=by
 intro c s o H x y v u Q I m n h;obtain⟨J,T,S,d,F,k,l,e,q⟩:=h;unfold bE at e;split at e
 ·rename_i i j;cases e;cases At.G2.mp k;cases At.G2.mp l;exact Dh c s o H _ _ v u Q I m n ⟨i,j,rfl,rfl,q H _ (Hb.refl H) (At.G2.mpr rfl)⟩
 ·rename_i a b;split at e
  ·rename_i le;cases e;obtain⟨ex,M⟩:=At.Hd.mp k;obtain⟨R,N⟩:=At.Hd.mp l;subst ex R;exact uU c s o H _ _ v u Q I m n ⟨a,b,rfl,rfl,le,q H _ (Hb.refl H) (At.Hd.mpr ⟨rfl,by rw[mH];exact le,p7 M.2 N.2⟩)⟩
  cases e
 ·rename_i K G;split at e
  ·rename_i le;cases e;obtain⟨a,g,rfl,t1,m1⟩:=At.He.mp k;obtain⟨b,t,rfl,t2,m2⟩:=At.He.mp l;by_cases L:g=[]
   ·subst L;cases m;cases n;obtain⟨its,r,B,_⟩:=I.tuple t1.sq;obtain⟨w,D,C,_⟩:=I.tuple t2.sq;have P:K=[]:=length_eq_zero_iff.mp m1.length;subst P;refine Ao B C (r.G7.mpr rfl) ⟨.ref b,H,I,rfl,q H _ (Hb.refl H) l⟩
   refine Bz c s o H _ _ v u Q I m n ⟨a,b,g,t,rfl,rfl,t1.sq,t2.sq,L,by rw[← m1.length,← m2.length];exact le,λE=>?_,λE p f=>?_⟩
   ·subst E;have O:G=[]:=length_eq_zero_iff.mp m2.length;subst O;exact q H _ (Hb.refl H) (by rw[append_nil];exact k)
   exact q _ _ (aM f _) (At.IF (m1.append m2) f F (by rw[List.length_append,← m1.length,← m2.length];exact le))
  cases e
 ·rename_i K G;split at e
  ·rename_i le;cases e;obtain⟨a,g,rfl,t1,m1⟩:=At.Hh.mp k;obtain⟨b,t,rfl,t2,m2⟩:=At.Hh.mp l;cases m;cases n;obtain⟨its,r,B,_⟩:=I.list t1.sq;obtain⟨w,D,C,_⟩:=I.list t2.sq;have A:g.length+t.length<=sizeLine:=by rw[← m1.length,← m2.length];exact le
   have f:=I.fresh;refine vt B C ?_ (by rw[size_toArray,size_toArray,← r.length,← D.length];exact A);show EP X c o Q (.ref s.heap.objs.size) { s with heap:=s.heap.push { cls:=.type "list",data:=.seq (its.toArray++w.toArray) } };refine⟨.ref s.heap.objs.size,_,?_,rfl,q _ _ (aM f (.lst (g++t))) (At.I0 (m1.append m2) f F (by rw[List.length_append];exact A))⟩;have z:=I.SN (its:=its++w) (t':=s.toks) (r.append D) (by rw[List.length_append];exact A);simpa using z
  cases e
 cases e
def rD:D->D->Option D
 | .int i,.int j=>some (.int (i-j))
 |_,_=>none
def fA (i j:Int):Bool:=(decide (-(2 ^ 64)<i)&&decide (i<2 ^ 64)) ||(decide (-(2 ^ 64)<j)&&decide (j<2 ^ 64))
theorem wc {i j:Int}(h:fA i j=true):NB i j:=by
 unfold fA at h;rw[or_eq_true,and_eq_true,and_eq_true] at h;rcases h with ⟨a,b⟩ |⟨a,b⟩
 ·exact .inl ⟨of_decide_eq_true a,of_decide_eq_true b⟩
 exact .inr ⟨of_decide_eq_true a,of_decide_eq_true b⟩
def cT:D->D->Option D
 | .int i,.int j=>if 0<j/\j<1073741824 then some (.int (i / j)) else none
 |_,_=>none
def bS:D->D->Option D
 | .int i,.int j=>if 0<j then some (.int (i % j)) else none
 |_,_=>none
def xE:D->Option D
 | .int i=>some (.int (-i))
 |_=>none
theorem uV:Lf X (binaryOp .Sub) rD:=by
 intro a s b H x y v u Q I g k h;obtain⟨J,n,m,d,l,c,f,e,q⟩:=h;unfold rD at e;split at e
 ·rename_i i j;cases e;cases At.G2.mp c;cases At.G2.mp f;exact Dc a s b H _ _ v u Q I g k ⟨i,j,rfl,rfl,q H _ (Hb.refl H) (At.G2.mpr rfl)⟩
 cases e
theorem fM:Lf X (binaryOp .FloorDiv) cT:=by
 intro a s b H x y v u Q I k l h;obtain⟨J,o,n,d,m,f,g,e,q⟩:=h;unfold cT at e;split at e
 ·rename_i i j;split at e
  ·rename_i c;cases e;cases At.G2.mp f;cases At.G2.mp g;exact By a s b H _ _ v u Q I k l ⟨i,j,rfl,rfl,c,q H _ (Hb.refl H) (At.G2.mpr rfl)⟩
  cases e
 cases e
theorem bZ:Lf X (binaryOp .Mod) bS:=by
 intro a s b H x y v u Q I k l h;obtain⟨J,o,n,d,m,f,g,e,q⟩:=h;unfold bS at e;split at e
 ·rename_i i j;split at e
  ·rename_i c;cases e;cases At.G2.mp f;cases At.G2.mp g;exact Df a s b H _ _ v u Q I k l ⟨i,j,rfl,rfl,c,q H _ (Hb.refl H) (At.G2.mpr rfl)⟩
  cases e
 cases e
theorem pU:Ux X (unaryOp .USub) xE:=by
 intro a s f H x v Q I b h;obtain⟨J,j,d,g,c,e,q⟩:=h;unfold xE at e;split at e
 ·rename_i i;cases e;cases At.G2.mp c;exact Cr a s f H _ v Q I b ⟨i,rfl,q H _ (Hb.refl H) (At.G2.mpr rfl)⟩
 cases e
def Jh (x y:D):Option D:=match toPy x,toPy y with
 |some p,some q=>if min p.depth q.depth<=150 then some (.bl (PyData.eqv p q)) else none
 |_,_=>none
def K9 (x y:D):Option D:=match toPy x,toPy y with
 |some p,some q=>if min p.depth q.depth<=150 then some (.bl (!PyData.eqv p q)) else none
 |_,_=>none
theorem gh (z:X.A.units+150<cLine):Lf X (compareOp .Eq) Jh:=by
 intro a s r H x y v u Q I l o h;obtain⟨J,C,B,d,w,c,j,e,q⟩:=h;unfold Jh at e;split at e
 ·rename_i p m g f;split at e
  ·rename_i le;cases e;obtain⟨k,t,b⟩:=c.reads I l g;obtain⟨n,bs,i⟩:=j.reads I o f;exact SeqAt.compareEq_reads b i k n (by omega) ⟨.bl (PyData.eqv p m),H,I,rfl,q H _ (Hb.refl H) (At.Ht.mpr rfl)⟩
  cases e
 cases e
theorem wa (z:X.A.units+150<cLine):Lf X (compareOp .NotEq) K9:=by
 intro a s r H x y v u Q I l o h;obtain⟨J,C,B,d,w,c,j,e,q⟩:=h;unfold K9 at e;split at e
 ·rename_i p m g f;split at e
  ·rename_i le;cases e;obtain⟨k,t,b⟩:=c.reads I l g;obtain⟨n,bs,i⟩:=j.reads I o f;exact SeqAt.compareNe_reads b i k n (by omega) ⟨.bl (!PyData.eqv p m),H,I,rfl,q H _ (Hb.refl H) (At.Ht.mpr rfl)⟩
  cases e
 cases e
def Kq (x y:Str):Bool:=decide (x.cps.toList<y.cps.toList)
def Qj:D->D->Option D
 | .int i,.int j=>some (.bl (decide (i<j)))
 | .str x,.str y=>some (.bl (Kq x y))
 |_,_=>none
def RH:D->D->Option D
 | .int i,.int j=>some (.bl (decide (j<i)))
 | .str x,.str y=>some (.bl (Kq y x))
 |_,_=>none
theorem EF:Lf X (compareOp .Lt) Qj:=by
 intro c s f H x y v u Q I l m h;obtain⟨J,p,o,d,n,g,k,e,q⟩:=h;unfold Qj at e;split at e
 ·rename_i i j;cases e;cases At.G2.mp g;cases At.G2.mp k;exact EA c s f H _ _ v u Q I l m ⟨i,j,rfl,rfl,q H _ (Hb.refl H) (At.Ht.mpr rfl)⟩
 ·rename_i a b;cases e;cases (At.Hd.mp g).1;cases (At.Hd.mp k).1;exact xC c s f H _ _ v u Q I l m ⟨a,b,rfl,rfl,q H _ (Hb.refl H) (At.Ht.mpr rfl)⟩
 cases e
theorem EH:Lf X (compareOp .Gt) RH:=by
 intro c s m H x y v u Q I k l h;obtain⟨J,r,p,d,n,f,g,e,q⟩:=h;unfold RH at e;split at e
 ·rename_i i j;cases e;cases At.G2.mp f;cases At.G2.mp g;exact EB c s m H _ _ v u Q I k l ⟨i,j,rfl,rfl,q H _ (Hb.refl H) (At.Ht.mpr rfl)⟩
 ·rename_i a b;cases e;cases (At.Hd.mp f).1;cases (At.Hd.mp g).1;obtain⟨t,rfl⟩:=k;obtain⟨o,rfl⟩:=l;exact PySem.P.gt_str ⟨.bl (Kq b a),H,I,rfl,q H _ (Hb.refl H) (At.Ht.mpr rfl)⟩
 cases e
def nr:D->Bool
 | .Ho=>true
 |_=>false
def NI:D->D->Option D
 |x,.Ho=>some (.bl (nr x))
 |_,_=>none
def nk:D->D->Option D
 |x,.Ho=>some (.bl (!nr x))
 |_,_=>none
theorem zy {K:GV}{H:Hp}{J:List Addr}{d:D}{x:V}(h:At K H J d x):decide (x = .Ho)=nr d:=by
 cases d with
 |Ho=>cases At.HK.mp h;rfl
 |bl b=>cases At.Ht.mp h;rfl
 |int i=>cases At.G2.mp h;rfl
 |str i=>cases (At.Hd.mp h).1;rfl
 |tup c=>obtain⟨a,_,rfl,_⟩:=At.He.mp h;rfl
 |lst c=>obtain⟨a,_,rfl,_⟩:=At.Hh.mp h;rfl
 |set c=>obtain⟨a,_,_,rfl,_⟩:=At.JM.mp h;rfl
 |loc l=>obtain⟨a,rfl,_⟩:=At.Hc.mp h;rfl
 |fn _ _=>obtain⟨a,_,rfl,_⟩:=At.MV.mp h;rfl
theorem zu:Lf X (compareOp .Is) NI:=by
 intro a s b H x y v u Q I g i h;obtain⟨J,l,k,d,j,c,f,e,q⟩:=h;unfold NI at e;split at e
 ·cases e;cases At.HK.mp f;exact Dg a s b H _ _ v u Q I g i ⟨rfl,by rw[zy c];exact q H _ (Hb.refl H) (At.Ht.mpr rfl)⟩
 cases e
theorem zt:Lf X (compareOp .IsNot) nk:=by
 intro a s b H x y v u Q I g i h;obtain⟨J,l,k,d,j,c,f,e,q⟩:=h;unfold nk at e;split at e
 ·cases e;cases At.HK.mp f;exact Bx a s b H _ _ v u Q I g i ⟨rfl,by rw[zy c];exact q H _ (Hb.refl H) (At.Ht.mpr rfl)⟩
 cases e
end
section
variable {X:Cx}{W:WT}
def uK:D->Option (List D)
 | .tup a=>some a
 | .lst a=>some a
 |_=>none
def vg (x y:D):Option Bool:=match toPy x,(uK y).bind cG with
 |some p,some a=>if p.depth<=150 then some (a.any λq=>PyData.eqv q p) else none
 |_,_=>none
def inD (x y:D):Option D:=(vg x y).map .bl
def qq (x y:D):Option D:=(vg x y).map λb => .bl (!b)
noncomputable def n6 (h:Heap) (p:PyData) (u:Value):Bool:=by
 classical exact if H:∃ q a,Reads h u q a/\q.canLay0=true then PyData.eqv H.choose p else false
theorem wD {h:Heap}{p q:PyData}{u:Value}{as:List Addr}(r:Reads h u q as)(c:q.canLay0=true):n6 h p u=PyData.eqv q p:=by unfold n6;have H:∃ q as,Reads h u q as/\q.canLay0=true:=⟨q,as,r,c⟩;rw[dif_pos H];obtain⟨b,a,d⟩:=H.choose_spec;rw[SeqAt.Reads.unique _ _ _ _ _ c r a]
theorem wP {h:Heap}{p:PyData}:∀ {us:List Value}{a:List PyData}{as:List Addr},ReadsAll h us a as->PyData.canLayAll0 a=true->us.any (n6 h p)=a.any λq=>PyData.eqv q p
 |_,_,_,.nil,_=>rfl
 |_,_,_,.cons r t,c=>by
  rw[PyData.canLayAll0,and_eq_true] at c;rw[any_cons,any_cons,wD r c.1,wP t c.2]
theorem oU {h:Heap}:∀ {us:List Value}{a:List PyData}{as:List Addr},ReadsAll h us a as->PyData.canLayAll0 a=true->∀ u∈us,∃ q bs,Reads h u q bs/\q.canLay0=true
 |_,_,_,.nil,_,u,m=>by simp at m
 |_,_,_,.cons r t,c,u,m=>by
  rw[PyData.canLayAll0,and_eq_true] at c;rcases mem_cons.mp m with e |m
  ·subst e;exact⟨_,_,r,c.1⟩
  exact oU t c.2 u m
theorem ww {neg:Bool}{op:CmpOp}(Z:X.A.units+151<cLine)
  (K:∀ {s:Shared}{l:Addr}{items:Array Value}{x:Value}{Q:GW}(e:Value->Bool),s.heap.IsList l items->(∀ y∈items,SeqAt.EqAt X.A.in1 s y x (e y))->Q (.bool (if neg then !items.any e else items.any e)) s->wpAny (model X.prog X.w) X.A (compareOp op x (.ref l)) Q X.xe s)
  (R:∀ {s:Shared}{l:Addr}{items:Array Value}{x:Value}{Q:GW}(e:Value->Bool),IsTup s.heap l items->(∀ y∈items,SeqAt.EqAt X.A.in1 s y x (e y))->Q (.bool (if neg then !items.any e else items.any e)) s->wpAny (model X.prog X.w) X.A (compareOp op x (.ref l)) Q X.xe s) :
  Lf X (compareOp op) (λx y=>(vg x y).map λb => .bl (if neg then !b else b)):=by
 intro n s L H x y v u Q I V G h;obtain⟨J,dx,W,d,Y,O,E,e,q⟩:=h;obtain⟨b,i,P⟩:=map_eq_some_iff.mp e;subst P;unfold vg at i;split at i
 ·rename_i p o ep eq;split at i
  ·rename_i le;cases i;obtain⟨ds,es,B⟩:=bind_eq_some_iff.mp eq;obtain⟨U,g,M⟩:=O.reads I V ep;have fin:∀ {f:List Value}{g:List Addr},ReadsAll s.heap f o g->PyData.canLayAll0 o=true->EP X n L Q (.bool (if neg then !f.toArray.any (n6 s.heap p) else f.toArray.any (n6 s.heap p))) s:=λ{f g} z c=>by rw[show f.toArray.any (n6 s.heap p)=f.any (n6 s.heap p) by simp,wP z c];exact⟨.bl _,H,I,rfl,q H _ (Hb.refl H) (At.Ht.mpr rfl)⟩
   have ev:∀ {f:List Value}{g:List Addr},ReadsAll s.heap f o g->PyData.canLayAll0 o=true->∀ y∈f.toArray,SeqAt.EqAt X.A.in1 s y v (n6 s.heap p y):=λ{f g} z c y N=>by obtain⟨D,bs,C,F⟩:=oU z c y (by simpa using N);rw[wD C F];exact SeqAt.eqAt_reads D p X.A.in1 s y v bs _ C M F U (by show X.A.units+1+min D.depth p.depth<cLine;omega)
   cases W with
   |tup S =>
    cases es;obtain⟨a,T,rfl,t,m⟩:=At.He.mp E;cases G;obtain⟨its,r,pl,_⟩:=I.tuple t.sq;obtain⟨k,bs,j⟩:=G5.readsAll I m r B;exact R (n6 s.heap p) pl (ev j k) (fin j k)
   |lst S =>
    cases es;obtain⟨a,T,rfl,t,m⟩:=At.Hh.mp E;cases G;obtain⟨its,r,pl,_⟩:=I.list t.sq;obtain⟨k,bs,j⟩:=G5.readsAll I m r B;exact K (n6 s.heap p) pl.isList (ev j k) (fin j k)
   |_=>simp[uK] at es
  cases i
 cases i
theorem EG (c:X.A.units+151<cLine):Lf X (compareOp .In) inD:=
 ww (neg:=false) c (λe b a q=>SeqAt.in_listAt e b a q) (λe b a q=>SeqAt.in_tupleAt e b a q)
theorem zr (c:X.A.units+151<cLine):Lf X (compareOp .NotIn) qq:=
 ww (neg:=true) c (λe b a q=>SeqAt.notIn_listAt e b a q) (λe b a q=>SeqAt.notIn_tupleAt e b a q)
theorem ij {x:Str}(h:PyData.strOk x=true){c:Nat}(m:c∈x.cps.toList):c<0x110000:=by unfold PyData.strOk at h;rw[Array.all_eq_true'] at h;exact of_decide_eq_true (h c (Array.mem_toList_iff.mp m))
theorem jv {l:List Nat}(h:∀ c∈l,c<0x110000):PyData.strOk ⟨l.toArray⟩=true:=by unfold PyData.strOk;rw[Array.all_eq_true'];intro c m;exact decide_eq_true (h c (by simpa using m))
def N3:D->D->Option D
 | .tup a,.int i=>Kj a i
 | .lst a,.int i=>Kj a i
 | .str x,.int i=>(Kj x.cps.toList i).map λc => .str ⟨#[c]⟩
 |_,_=>none
theorem qU {K:GV}{H:Hp}{J:List Addr}{ds:List D}{vs:List V}{i:Int}{d:D}(m:G5 K H J ds vs)(h:Kj ds i=some d):∃ v,Kj vs i=some v/\At K H J d v:=by unfold Kj at h ⊢;rw[← m.length];obtain⟨j,b,e⟩:=bind_eq_some_iff.mp h;obtain⟨v,c,a⟩:=m.get e;exact⟨v,by rw[b];exact c,a⟩
def Uy (X:Cx)(g:D->D->Option D):Prop:=Qe X (Qh X.K g)
theorem Uz:Uy X N3:=by
 intro value slice b s k H x y v u Q I r A h n;obtain⟨J,M,L,d,G,o,p,e,q⟩:=h;unfold N3 at e;split at e
 ·rename_i F i;obtain⟨a,g,rfl,t,m⟩:=At.He.mp o;cases At.G2.mp p;obtain⟨w,f,B⟩:=qU m e;exact Du value slice b s k H _ _ v u Q I r A ⟨a,g,i,w,rfl,rfl,t.sq,f,q H _ (Hb.refl H) B⟩ n
 ·rename_i F i;obtain⟨a,g,rfl,t,m⟩:=At.Hh.mp o;cases At.G2.mp p;obtain⟨w,f,B⟩:=qU m e;exact wt value slice b s k H _ _ v u Q I r A ⟨a,g,i,w,rfl,rfl,t.sq,f,q H _ (Hb.refl H) B⟩ n
 ·rename_i z i;obtain⟨ex,C⟩:=At.Hd.mp o;subst ex;cases At.G2.mp p;obtain⟨c,f,E⟩:=map_eq_some_iff.mp e;subst E;refine Dv value slice b s k H _ _ v u Q I r A ⟨z,i,c,rfl,rfl,C.1,f,q H _ (Hb.refl H) (At.Hd.mpr ⟨rfl,by show 1<=sizeLine;decide,jv (l:=[c]) λK m=>?_⟩)⟩ n;obtain⟨j,_,D,_⟩:=jV f;rw[mem_singleton.mp m];exact ij C.2 (mem_of_getElem? D)
 cases e
variable {a b c:Expr}{fa fb fc:GU D}{pos:Pos}
theorem Cg {g:D->D->Option D}(d:Uy X g)(c:SE X W a fa)(e:SE X W b fb)(f:mf b:=by exact λ_ _=>rfl):SE X W (.Subscript a b pos) (aG g fa fb):=
 (Cj d c e f).imp λi H Q h=>jU h
def ff {α:Type}(xs:List α)(lo hi:Option Int):List α:=(xs.drop (HT.Hy xs.length 0 lo)).take (HT.Hy xs.length xs.length hi-HT.Hy xs.length 0 lo)
def qK (x:Str)(lo hi:Option Int):Str:=⟨(ff x.cps.toList lo hi).toArray⟩
def MF (d:D)(lo hi:Option Int):Option D:=match d with
 | .tup a=>some (.tup (ff a lo hi))
 | .lst a=>some (.lst (ff a lo hi))
 | .str x=>some (.str (qK x lo hi))
 |_=>none
theorem G5.cut {K:GV}{H:Hp}{J:List Addr}{ds:List D}{vs:List V}(m:G5 K H J ds vs)(lo hi:Option Int):G5 K H J (ff ds lo hi) (tw vs lo hi):=by unfold ff tw;rw[← m.length];exact(m.drop _).take _
theorem nL {α:Type}{xs:List α}{lo hi:Option Int}(h:HT.Hy xs.length 0 lo=0/\HT.Hy xs.length xs.length hi=xs.length):ff xs lo hi=xs:=by unfold ff;rw[h.1,h.2];simp
theorem k_ (n:Nat)(lo hi:Option Int):Builtin.Str.strSliceIndices lo hi 1 n=sliceRange ((HT.Hy n 0 lo:Nat):Int) ((HT.Hy n n hi:Nat):Int) 1:=by unfold Builtin.Str.strSliceIndices;have h:=jw lo hi n;unfold sliceBounds at h;simp only[getD_none] at h;have a:=h.1;have b:=h.2.1;show sliceRange _ _ 1=_;rw[← a,← b];cases lo<;>cases hi<;>rfl
theorem uE (x:Str)(lo hi:Option Int):(Builtin.Str.strSliceIndices lo hi 1 x.length).filterMap (x.cps[·]?)=ff x.cps.toList lo hi:=by
 have a:x.cps.toList.length=x.length:=by simp[Str.length]
 rw[k_,sliceRange_one,pick_run];unfold ff;rw[a]
theorem uH (x:Str)(t:Tok)(lo hi:Option (Int×Tok)){Q:GW}{s:Shared}(hsz:x.length<=sizeLine)(h:∀ t' k,Q (.str (qK x (lo.map (·.1)) (hi.map (·.1))) t') { s with toks:=k }):(sliceMade x t lo hi none).post Q s:=by
 unfold sliceMade;have ep:slicePicked x lo hi none=Builtin.Str.strSliceIndices (lo.map (·.1)) (hi.map (·.1)) 1 x.length:=rfl;have eq:((slicePicked x lo hi none).filterMap (x.cps[·]?))=ff x.cps.toList (lo.map (·.1)) (hi.map (·.1)):=by rw[ep];exact uE x _ _
 have a:x.cps.toList.length=x.length:=by simp[Str.length]
 have len:(qK x (lo.map (·.1)) (hi.map (·.1))).length<=sizeLine:=by unfold qK ff;show (List.toArray _).size<=_;rw[size_toArray,length_take,length_drop,a];omega
 have same:(((none:Option (Int×Tok)).map (·.1)).getD 1==1&&(slicePicked x lo hi none).length==x.length)=true->x=qK x (lo.map (·.1)) (hi.map (·.1)):=λc=>by
  have b:(slicePicked x lo hi none).length=x.length:=by rw[and_eq_true] at c;exact eq_of_beq c.2
  rw[ep,k_,sliceRange_one,length_map,length_range] at b;have d:=HT.LB x.length x.length (le_refl _) (hi.map (·.1));have e:=HT.LB x.length 0 (zero_le _) (lo.map (·.1));have w:=nL (xs:=x.cps.toList) (lo:=lo.map (·.1)) (hi:=hi.map (·.1)) (by rw[a];omega);unfold qK;rw[w]
 refine post_val_or_str ⟨?_,λt' k=>?_⟩
 ·split
  ·rename_i c;exact hsz
  rw[eq];exact len
 split
 ·rename_i c;have z:=h t' k;rw[← same c] at z;exact z
 rw[eq];exact h t' k
theorem part_of {v:Value}{o:Option Int}(p:IsPart v o):∃ q:Option (Int×Tok),v=partValue q/\o=q.map (·.1):=by
 cases p with
 |none=>exact⟨none,rfl,rfl⟩
 |int i t=>exact⟨some (i,t),rfl,rfl⟩
def V9 (K:GV)(g:D->Option Int->Option Int->Option D):V->Option Int->Option Int->Hp->VK->Prop:=λx lo e H Q => ∃ J c d,(∀ a∈J,H a≠none)/\At K H J c x/\g c lo e=some d/\∀ b v,Hb H b->At K b J d v->Q v b
theorem iH {prog:Program}{w:World}{A:Around}{E:GW}{s:Shared}{t b:Addr}{items:Array Value}{c f:Value}{lo hi:Option Int}{Q:GW}(a:IsTup s.heap t items)(d:s.heap.IsSliceOf b c f .none)(pl:IsPart c lo)(i:IsPart f hi)
  (e:HT.Hy items.size 0 lo=0/\HT.Hy items.size items.size hi=items.size) (h:Q (.ref t) s):wpAny (model prog w) A (getItem (.ref t) (.ref b)) Q E s:=by
 obtain⟨os,k,j,l⟩:=id d;have g:s.TypeIs (.ref b) "slice":=⟨os,k,j⟩;unfold getItem
 try with_reducible refine wpAny_holding ?_
 first |refine wpAny_bind (wpAny_pure ?_) |skip
 refine wpAny_bind (wpAny_sequenceKey a.typeIs (by decide) ?_)
 refine wpAny_bind (wpAny_callSpecial?_slot (name:=Str.ofString "__getitem__") a.typeIs PyProof.Rows.slot_tuple_getitem
  (wpAny_call_entry PyProof.Rows.slot_tuple_getitem a.typeIs entry_tuple_getitem ?_ (args_tuple_getitem _ _)))
 show wpAny _ _ (Builtin.Tuple.tupleItemsOf (.ref t) >>= _) _ _ s;refine wpAny_bind (tupleItemsOf_ a ?_);refine wpAny_bind (wpAny_typeOf g ?_);rw[if_pos (by decide)];refine wpAny_bind (HT.Ie d pl i ?_);show wpAny _ _ (if (((HT.Hy items.size 0 lo:Nat):Int)==0&&(1:Int)==1&&(HT.Hy items.size items.size hi-HT.Hy items.size 0 lo)==items.size)=true then _ else _) _ _ s;rw[if_pos (by rw[e.1,e.2];simp)];unfold Builtin.Tuple.tupleIsExact;refine wpAny_bind (wpAny_bind (wpAny_typeOf a.typeIs (wpAny_pure ?_)));rw[if_pos (by decide)];exact wpAny_bind (wpAny_rule (wpAny_pure ⟨_,rfl,wpAny_pure h⟩))
def UA (X:Cx)(g:D->Option Int->Option Int->Option D):Prop:=RE X (V9 X.K g)
theorem w6 {x:Str}(h:PyData.strOk x=true)(lo hi:Option Int):PyData.strOk (qK x lo hi)=true:=jv λc m=>ij h (by
 unfold ff at m
 exact mem_of_mem_drop (mem_of_mem_take m))
theorem BM (x:Str)(lo hi:Option Int):(qK x lo hi).length<=x.length:=by
 unfold qK ff;show (List.toArray _).size<=_;rw[size_toArray,length_take,length_drop];have a:x.cps.toList.length=x.length:=by simp[Str.length]
 omega
theorem Qk:UA X MF:=by
 intro c s D H x v B L lo f E Q I w j pl o h;obtain⟨J,W,d,G,n,e,q⟩:=h;unfold MF at e;split at e
 ·rename_i T;cases e;obtain⟨a,b,rfl,t,m⟩:=At.He.mp n;have O:=m.length;by_cases A:HT.Hy b.length 0 lo=0/\HT.Hy b.length b.length f=b.length
  ·cases w;obtain⟨its,r,M,V⟩:=I.tuple t.sq;have i:its.toArray.size=b.length:=by rw[size_toArray];exact r.length.symm
   refine⟨"tuple",_,PyProof.Rows.slot_tuple_getitem.lookup,M.typeIs,?_⟩;refine iH M j pl o (by rw[i];exact A) ⟨.ref a,H,I,rfl,q H _ (Hb.refl H) ?_⟩;rw[nL (by rw[O];exact A)];exact n
  exact CB c s D H _ v B L lo f E Q I w j pl o ⟨a,b,rfl,t.sq,A,λp g=>q _ _ (aM g _) (At.IF (m.cut lo f) g G (Nat.le_trans (eT b lo f) t.len))⟩
 ·rename_i T;cases e;obtain⟨a,b,rfl,t,m⟩:=At.Hh.mp n;exact A4 c s D H _ v B L lo f E Q I w j pl o ⟨a,b,rfl,t.sq,λp g=>q _ _ (aM g _) (At.I0 (m.cut lo f) g G (Nat.le_trans (eT b lo f) t.len))⟩
 ·rename_i z;cases e;obtain⟨ex,y⟩:=At.Hd.mp n;subst ex;obtain⟨tk,rfl⟩:=w;obtain⟨K,S,R⟩:=part_of pl;obtain⟨C,N,P⟩:=part_of o;subst S R N P;refine⟨"str",_,F.slot_str_getitem.lookup,typeIs_str _ _ _,wpAny_getItem_str_slice (l:=K) (u:=C) (st:=none) j rfl (uH z tk K C y.1 λU k=>?_)⟩;exact⟨.str _,H,I.tok _,⟨U,rfl⟩,q H _ (Hb.refl H) (At.Hd.mpr ⟨rfl,Nat.le_trans (BM z _ _) y.1,w6 y.2 _ _⟩)⟩
 cases e
def xU:D->Option (Option Int)
 | .int i=>some (some i)
 |_=>none
def jS (f:Option (GU D)):GU (Option Int):=match f with
 |none=>λ_ S=>G9 none S
 |some f=>λa S=>ai (f a S) λd b=>aK (xU d) b
def SO (X:Cx)(W:WT)(e:Option Expr)(f:Option (GU D)):Prop:=match e,f with
 |none,none=>True
 |some e,some f=>SE X W e f
 |_,_=>False
def ON (g:D->Option Int->Option Int->Option D)(f:GU D)(lo hi:Option (GU D)):GU D:=λa S=>ai (f a S) λx c=>ai (jS lo a c) λl b=>ai (jS hi a b) λu d=>aK (g x l u) d
def UD (X:Cx)(W:WT)(f:Option (GU D)):TO:=tG X W (λ_ _ a b=>a=b) [] [] (jS f)
theorem tG.N4 {α s:Type}{R:List Addr->Hp->α->s->Prop}{f:Option (GU D)}{k:Option Int->GU α}{ds:List D}{vs:List V}{j:St}{H:Hp}{Q : s->Hp->Prop}
  (h:tG X W R ds vs (λρ S=>ai (jS f ρ S) λd i=>k d ρ i) j H Q):UD X W f j H λb t=>tG X W R ds vs (k b) j t Q:=by
 obtain⟨J,ρ,S,r,B,c,a,e,z⟩:=h;cases q:jS f ρ S with
 |none=>simp[q] at e
 |some o =>
  obtain⟨A,i⟩:=o;simp only[q] at e;cases A with
  |error x =>
   cases e;exact⟨J,ρ,S,.error x,_,c,.nil,q,z⟩
  |ok d =>
   refine⟨J,ρ,S,.ok d,i,c,.nil,q,λw t v x u m=>?_⟩;cases m;refine⟨w,ρ,i,r,B,c.re x u,a.ex x,e,?_⟩;cases r with
   |ok g=>exact λl n b x2 p y=>z l n b (x.trans x2) p y
   |error g=>exact λl n x2 p=>z l n (x.trans x2) p
theorem Ci {e:Option Expr}{f:Option (GU D)}(h:SO X W e f):PO X e (UD X W f):=by
 cases e with
 |none =>
  cases f with
  |none =>
   intro a s b H Q I z;refine Bn a s b H Q I ?_;obtain⟨J,g,S,r,l,c,_,e,z⟩:=z;cases e;exact z J H _ Ex.refl c.Hu rfl
  |some _=>exact h.elim
 |some e =>
  cases f with
  |none=>exact h.elim
  |some f =>
   intro a s b H Q I z;refine Bl h a s b H Q I ?_;refine(tG.Ha z).mono λv j ⟨d,k⟩=>?_;obtain⟨J,g,S,r,l,c,m,e,z⟩:=k;obtain⟨m,_⟩:=m.G6;cases d with
   |int i =>
    cases e;exact⟨i,At.G2.mp m,z J j _ Ex.refl c.Hu rfl⟩
   |_=>simp[xU] at e
theorem rJ {g:D->Option Int->Option Int->Option D}{lo hi:Option Expr}{f b:Option (GU D)}{w:Pos}(j:UA X g)(i:SE X W a fa)(p:SO X W lo f)(x:SO X W hi b):SE X W (.Subscript a (.Slice lo hi none w) pos) (ON g fa f b):=
 (zk j i (Ci p) (Ci x)).imp λE H Q h=>(tG.Ha h).mono λv I ⟨d,A⟩=>(tG.N4 A).mono λl G k=>(tG.N4 k).mono λu F t=>by
  obtain⟨J,C,S,r,K,c,m,e,z⟩:=t;obtain⟨m,_⟩:=m.G6;cases q:g d l u with
  |none=>simp[q] at e
  |some n =>
   simp only[q,bt,G9] at e;cases e;exact⟨J,d,n,c.Hu.all,m,q,λy B s o=>z J y B (Ex.same s) (c.Hu.same s) o⟩
end
end L2
namespace L2
open PySem PySem.Spec PyProof.Rows PySem.W
section
variable {X:Cx}{W:WT}
theorem kA:fillsNumberSlot (.type "tuple") "mul"=pure false:=
 PySem.fillsNumberSlot_seq (id:="tuple.__mul__") (r:=some (.builtin "tuple.__rmul__")) F.slot_tuple_mul.lookup (by decide) F.slot_tuple_rmul.lookup (by decide)
theorem qh:seqRepeat? (.type "tuple")=pure (some (.builtin "tuple.__mul__")):=by unfold seqRepeat?;rw[PySem.seqSlot_of (T:="tuple") (name:="__mul__") (id:="tuple.__mul__") F.slot_tuple_mul.lookup (by decide),PySem.seqSlot_of (T:="tuple") (name:="__rmul__") (id:="tuple.__rmul__") F.slot_tuple_rmul.lookup (by decide)];rfl
theorem nv (a:Int)(t:Tok)(l:Addr)(items:Array Value)(n:Nat)(c:Option Addr)(b:Array (Option Value)) :
  Meets (Builtin.«int.__rmul__» ⟨[.int a t,.ref l],[]⟩) (λ_ R s=>s.heap.get? l=some { cls:=.type "tuple",dict:=c,data:=.seq items n,slots:=b }/\R (.ok (.ret Value.notImplemented)) s):=
 .of_wp λprog w A R s h=>by obtain⟨e,g,d,tk,os⟩:=s;obtain⟨f,h⟩:=h;wp_walk;exact⟨_,rfl,h⟩
theorem uB (l:Addr)(items:Array Value)(n:Nat)(p:Option Addr)(o:Array (Option Value))(k:Int)(t:Tok)(D : 2<=k)(z:k<2 ^ 30)(c:items.isEmpty=false)(hsz:items.size*k.toNat<=sizeLine) :
  Meets (Builtin.«tuple.__mul__» ⟨[.ref l,.int k t],[]⟩) (λ_ R s=>s.heap.get? l=some { cls:=.type "tuple",dict:=p,data:=.seq items n,slots:=o }/\R (.ok (.ret (Value.ref s.heap.objs.size))) { s with heap:=s.heap.push { cls:=Value.type "tuple",data:=Data.seq (List.foldl (λx1 x2=>x1++x2) #[] (replicate k.toNat items)) },toks:=s.toks }):=
 .of_wp λprog w A R s h=>by
  obtain⟨j,g,d,tk,os⟩:=s;obtain⟨a,h⟩:=h;have C:=AutoSeq1.idx_int
  wp_walk using AutoSeq1.wpAny_loadPart' a
  have B:(0:Int)<=k:=by omega
  have v:((k.toNat:Nat):Int)=k:=by omega
  have r:¬ ((decide (k < -2 ^ 63) ||decide (k≥2 ^ 63))=true):=by rw[decide_eq_false (by omega),decide_eq_false (by omega)];decide
  have x:¬ ((items.isEmpty ||k==1)=true):=by rw[c,Bool.false_or,beq_eq_false_iff_ne.mpr (by omega)];decide
  have u:¬ ((decide (k<=0) ||items.isEmpty)=true):=by rw[c,decide_eq_false (by omega)];decide
  have b:((items.size*k.toNat:Nat):Int)=(items.size:Int)*k:=by rw[Int.natCast_mul,v]
  have y:(sizeLine:Nat)=2 ^ 24:=rfl;have i:¬ ((items.size:Int)*k > (2 ^ 63-1) / 8):=by rw[← b];omega
  have q:Builtin.Tuple.tupleTooMany ((items.size:Int)*k)=false:=by unfold Builtin.Tuple.tupleTooMany;rw[← b];exact decide_eq_false (by omega)
  rw[if_neg r];refine wpAny_bind (tupleItemsOf_ (⟨_,a,rfl,n,rfl⟩:IsTup j l items) ?_);dsimp only;rw[if_neg x,if_neg u,if_neg i,if_neg (by rw[q];decide)]
  have f:sizeOk (.seq (List.foldl (λx1 x2=>x1++x2) #[] (replicate k.toNat items))):=by
   have e:List.foldl (λx1 x2=>x1++x2) #[] (replicate k.toNat items)=(replicate k.toNat items.toList).flatten.toArray:=by have:=foldl_rep items.toList k.toNat [];simpa using this
   show (List.foldl (λx1 x2=>x1++x2) #[] (replicate k.toNat items)).size<=sizeLine;rw[e,size_toArray,len_rep,length_toList,mul_comm];exact hsz
  first
   |exact wpAny_bind (m:=Builtin.Tuple.tupleExact _) (wpAny_newObj_type (wpAny_pure ⟨_,rfl,h⟩) f)
   |exact wpAny_bind (m:=Builtin.Tuple.tupleExact _) (wpAny_newObj_type (wpAny_bind (wpAny_pure (wpAny_pure ⟨_,rfl,h⟩))) f)
def cF:D->D->Option D
 | .int i,.int j=>if fA i j then some (.int (i*j)) else none
 | .str x,.int n=>if -1000<=n/\n<1 then some (.str ⟨#[]⟩) else if 1<=n/\n<=1000/\x.length<=1000 then some (.str ⟨(replicate n.toNat x.cps.toList).flatten.toArray⟩) else none
 | .tup a,.int n=>if 2<=n/\n<=1000/\0<a.length/\a.length<=1000 then some (.tup (replicate n.toNat a).flatten) else none
 |_,_=>none
theorem zG (x:Str)(n:Int)(h : 1<=n):Txt.mul x n=⟨(replicate n.toNat x.cps.toList).flatten.toArray⟩:=by
 have f:∀ m:Nat,(replicate m x.cps).foldl (·++·) #[]=(replicate m x.cps.toList).flatten.toArray:=λm=>by
  have:∀ (m:Nat) (a:List Nat),(replicate m x.cps).foldl (·++·) a.toArray=(a++(replicate m x.cps.toList).flatten).toArray:=by
   intro m
   induction m with
   |zero=>intro a;simp
   |succ m b =>
    intro a;rw[replicate_succ,foldl_cons,replicate_succ,flatten_cons,← List.append_assoc];have e:a.toArray++x.cps=(a++x.cps.toList).toArray:=by simp
    rw[e];exact b _
  have:=this m [];simpa using this
 unfold Txt.mul;rw[if_neg (by omega)];split
 ·rename_i c;rw[or_eq_true] at c;rcases c with c |c
  ·have:n=1:=eq_of_beq c;subst this;show x=⟨([x.cps.toList].flatten).toArray⟩;simp
  have d:x.cps.size=0:=eq_of_beq c;have:x.cps.toList=[]:=by simpa using Array.size_eq_zero_iff.mp d
  have g:∀ m:Nat,(replicate m ([]:List Nat)).flatten=[]:=λm=>by induction m with
   |zero=>rfl
   |succ m b=>rw[replicate_succ,flatten_cons,b];rfl
  rw[this,g];cases x with
  |mk cps =>
   simp only at this;have:cps = #[]:=by simpa using this
   rw[this]
 rw[f]
theorem dA:Lf X (binaryOp .Mult) cF:=by
 intro p s Y H x y v u Q I B C h;obtain⟨J,dx,dy,d,hJ,w,A,e,q⟩:=h;unfold cF at e;split at e
 ·rename_i i j;split at e
  ·rename_i c;cases e;cases At.G2.mp w;cases At.G2.mp A;exact De p s Y H _ _ v u Q I B C ⟨i,j,rfl,rfl,wc c,q H _ (Hb.refl H) (At.G2.mpr rfl)⟩
  cases e
 ·rename_i z n;obtain⟨ex,Z⟩:=At.Hd.mp w;subst ex;cases At.G2.mp A;obtain⟨t,rfl⟩:=B;obtain⟨t',rfl⟩:=C;split at e
  ·rename_i c;cases e;refine SB.mul ⟨by rw[decide_eq_false (by omega),decide_eq_false (by omega)];rfl,λh=>absurd c.2 h,λh=>absurd c.2 h⟩ λt' k=>?_;rw[show Txt.mul z n=⟨#[]⟩ from if_pos c.2];exact⟨.str _,H,I.tok _,⟨t',rfl⟩,q H _ (Hb.refl H) (At.Hd.mpr ⟨rfl,by show 0<=sizeLine;decide,by decide⟩)⟩
  rename_i c;split at e
  ·rename_i c2;cases e;have E:(sizeLine:Nat)=2 ^ 24:=rfl
   have f:z.length*n.toNat<=1000000:=by
    have:n.toNat<=1000:=by omega
    exact Nat.le_trans (Nat.mul_le_mul c2.2.2 this) (by decide)
   have ok:MulOk z n:=by
    refine⟨by rw[decide_eq_false (by omega),decide_eq_false (by omega)];rfl,λ_ _ hh=>?_,λ_ _=>?_⟩
    ·have R:(2 ^ 63-1) / n≥(2 ^ 63-1) / 1000:=by
      apply Int.le_ediv_of_mul_le (by omega);have:((2 ^ 63-1) / 1000:Int)=9223372036854775:=by decide
      rw[this];omega
     have K:((2 ^ 63-1) / 1000:Int)=9223372036854775:=by decide
     omega
    unfold Builtin.Str.tooLong;exact decide_eq_false (by omega)
   refine SB.mul ok λt' k=>?_;rw[zG z n (by omega)];have hl:z.cps.toList.length=z.length:=by simp[Str.length]
   refine⟨.str _,H,I.tok _,⟨t',rfl⟩,q H _ (Hb.refl H) (At.Hd.mpr ⟨rfl,?_,jv λc m=>?_⟩)⟩
   ·show (List.toArray _).size<=_;rw[size_toArray,len_rep,hl,mul_comm];omega
   obtain⟨l,Ni,L⟩:=List.mem_flatten.mp m;rw[(List.mem_replicate.mp Ni).2] at L;exact ij Z.2 L
  cases e
 ·rename_i xs n;split at e
  ·rename_i c;cases e;obtain⟨a,D,rfl,S,m⟩:=At.He.mp w;cases At.G2.mp A;cases B;obtain⟨t',rfl⟩:=C;obtain⟨its,r,⟨⟨cls,N,data,M⟩,g,G,O,hd⟩,hz⟩:=I.tuple S.sq;simp only at G hd;subst G hd;have l1:=m.length;have l2:=r.length;have E:(sizeLine:Nat)=2 ^ 24:=rfl
   have f:its.toArray.size*n.toNat<=sizeLine:=by
    rw[size_toArray];have R:its.length<=1000:=by omega
    have K:n.toNat<=1000:=by omega
    exact Nat.le_trans (Nat.mul_le_mul R K) (by rw[E];decide)
   have V : 0<its.length:=by omega
   have Ij:its.toArray.isEmpty=false:=by
    cases its with
    |nil=>simp at V
    |cons _ _=>rfl
   refine wpAny_binaryOp_repeat_ref (T:="tuple") (U:="int") (by decide) ⟨_,g,rfl⟩ (λs'=>typeIs_int s' n t') kA F.fills_int_mul F.slot_int_rmul qh F.slot_int_index.lookup
    (call_meets F.slot_int_rmul (typeIs_int s n t') F.entry_int_rmul (F.args_int_rmul_2 _ _) (nv n t' a its.toArray O N M)
     ⟨g,rfl,⟨_,g,rfl⟩,call_meets F.slot_tuple_mul ⟨_,g,rfl⟩ F.entry_tuple_mul (F.args_tuple_mul_2 _ _) (uB a its.toArray O N M n t' c.1 (by omega) Ij f) ⟨g,?_⟩⟩)
   have W:List.foldl (λx1 x2=>x1++x2) #[] (replicate n.toNat its.toArray)=(replicate n.toNat its).flatten.toArray:=by have:=foldl_rep its n.toNat [];rw[nil_append] at this;exact this
   rw[W];have P:(replicate n.toNat D).flatten.length<=sizeLine:=by rw[len_rep,mul_comm,l2];rw[size_toArray] at f;exact f
   exact⟨.ref s.heap.objs.size,_,I.laid (t':=s.toks) (o:=.tup (replicate n.toNat D).flatten) (λb ob q=>Heap.get?_push_of_some _ q) (le_refl _) ⟨P,_,r.rep n.toNat,Kl.new _ _⟩,rfl,q _ _ (aM I.fresh _) (At.IF (m.rep n.toNat) I.fresh hJ P)⟩
  cases e
 cases e
end
section
variable {X:Cx}{W:WT}
variable {a b c e:Expr}{fa fb fc:GU D}{pos:Pos}{es:List Expr}{gs:GU (List D)}
def dh:List D->Option D
 |[.tup xs]=>some (.int xs.length)
 |[.lst xs]=>some (.int xs.length)
 |[.str x]=>some (.int x.length)
 |_=>none
theorem g7:iT X (.builtin "len") dh:=by
 intro b s f H o c Q I r h;obtain⟨J,u,d,l,m,e,q⟩:=h;unfold dh at e;split at e
 ·rename_i k;cases e;obtain⟨v,w,rfl,a,n⟩:=G5.G3.mp m;cases G5.G7.mp n;obtain⟨p,g,rfl,t,i⟩:=At.He.mp a;exact fT b s f H _ c Q I r ⟨p,g,rfl,.inr t.sq,by rw[← i.length];exact q H _ (Hb.refl H) (At.G2.mpr rfl)⟩
 ·rename_i k;cases e;obtain⟨v,w,rfl,a,n⟩:=G5.G3.mp m;cases G5.G7.mp n;obtain⟨p,g,rfl,t,i⟩:=At.Hh.mp a;exact fT b s f H _ c Q I r ⟨p,g,rfl,.inl t.sq,by rw[← i.length];exact q H _ (Hb.refl H) (At.G2.mpr rfl)⟩
 ·rename_i y;cases e;obtain⟨v,w,rfl,a,n⟩:=G5.G3.mp m;cases G5.G7.mp n;obtain⟨ex,j⟩:=At.Hd.mp a;subst ex;exact qO b s f H _ c Q I r ⟨y,rfl,j.1,q H _ (Hb.refl H) (At.G2.mpr rfl)⟩
 cases e
def intD:List D->Option D
 |[.int i]=>some (.int i)
 |[.bl k]=>some (.int (if k then 1 else 0))
 |_=>none
theorem DG:iT X (.type "int") intD:=by
 intro b s f H j c Q I r h;obtain⟨J,l,d,g,m,e,q⟩:=h;unfold intD at e;split at e
 ·rename_i i;cases e;obtain⟨v,w,rfl,a,n⟩:=G5.G3.mp m;cases G5.G7.mp n;cases At.G2.mp a;exact pH b s f H _ c Q I r (.inl ⟨i,rfl,q H _ (Hb.refl H) (At.G2.mpr rfl)⟩)
 ·rename_i k;cases e;obtain⟨v,w,rfl,a,n⟩:=G5.G3.mp m;cases G5.G7.mp n;cases At.Ht.mp a;exact pH b s f H _ c Q I r (.inr ⟨k,rfl,q H _ (Hb.refl H) (At.G2.mpr rfl)⟩)
 cases e
def gG:List D->Option D
 |[.tup xs]=>some (.tup xs)
 |[.lst xs]=>some (.tup xs)
 |_=>none
theorem fS:iT X (.type "tuple") gG:=by
 intro b s g H u f Q I r h;obtain⟨J,x,d,k,m,e,q⟩:=h;unfold gG at e;split at e
 ·rename_i o;cases e;obtain⟨v,w,rfl,a,n⟩:=G5.G3.mp m;cases G5.G7.mp n;obtain⟨p,c,rfl,t,j⟩:=At.He.mp a;exact iR b s g H _ f Q I r ⟨p,c,rfl,.inr ⟨t.sq,q H _ (Hb.refl H) a⟩⟩
 ·rename_i o;cases e;obtain⟨v,w,rfl,a,n⟩:=G5.G3.mp m;cases G5.G7.mp n;obtain⟨p,c,rfl,t,j⟩:=At.Hh.mp a;exact iR b s g H _ f Q I r ⟨p,c,rfl,.inl ⟨t.sq,λl i=>q _ _ (aM i _) (At.IF j i k t.len)⟩⟩
 cases e
end
inductive Fl where
 |next (ρ:G1) |ret (d:D) |brk (ρ:G1) |cont (ρ:G1)
def KY (X:Cx)(W:WT)(J:List Addr)(H:Hp)(r:Except Str Fl)(f:G0)(E:Ends):Prop:=
 match r with
 | .ok (.next ρ') => ∀ e b a,Ex J H e a->Cf X e ρ' f b a->E.nx b a
 | .ok (.brk ρ') => ∀ e b a,Ex J H e a->Cf X e ρ' f b a->E.bk b a
 | .ok (.cont ρ') => ∀ e b a,Ex J H e a->Cf X e ρ' f b a->E.ct b a
 | .ok (.ret d) => ∀ e a v,Ex J H e a->Hr X.K e f a->At X.K a e d v->E.rt v a
 | .error c => ∀ e a,Ex J H e a->Hr X.K e f a->W c e f a
theorem KY.ex {X:Cx}{W:WT}{J k:List Addr}{H l:Hp}{r:Except Str Fl}{m:G0}{E:Ends}(h:KY X W J H r m E)(x:Ex J H k l):KY X W k l r m E:=by
 cases r with
 |error c=>exact λe i g s=>h e i (x.trans g) s
 |ok f =>
  cases f with
  |next j=>exact λe b i g c=>h e b i (x.trans g) c
  |brk j=>exact λe b i g c=>h e b i (x.trans g) c
  |cont j=>exact λe b i g c=>h e b i (x.trans g) c
  |ret d=>exact λe i v g s a=>h e i v (x.trans g) s a
def tS (X:Cx)(W:WT)(f:GU Fl):TS:=λE c H => ∃ J a S r b,Cf X J a S c H/\f a S=some (r,b)/\KY X W J H r b E
def SS (X:Cx)(W:WT)(st:Stmt)(f:GU Fl):Prop:=PS X st (tS X W f)
def Mf (X:Cx)(W:WT)(st:List Stmt)(f:GU Fl):Prop:=Lp X st (tS X W f)
theorem PS.imp {X:Cx}{st:Stmt}{t t':TS}(h:PS X st t)(i:∀ E b H,t' E b H->t E b H):PS X st t':=λa s b H D I z=>h a s b H D I (i _ _ _ z)
theorem Lp.imp {X:Cx}{st:List Stmt}{t t':TS}(h:Lp X st t)(i:∀ E b H,t' E b H->t E b H):Lp X st t':=λa s b H D I z=>h a s b H D I (i _ _ _ z)
section
variable {X:Cx}{W:WT}{st:Stmt}{rest:List Stmt}{f g:GU Fl}{e c:Expr}{fe:GU D}{gt:GU Bool}{pos:Pos}
def dw:GU Fl:=λa S=>G9 (.next a) S
def aO (f g:GU Fl):GU Fl:=λc S=>ai (f c S) λd b=>match d with
 | .next a=>g a b
 |o=>G9 o b
def bh (f:GU D):GU Fl:=λa S=>ai (f a S) λd b=>G9 (.ret d) b
def KZ (t:GU Bool)(f g:GU Fl):GU Fl:=λa S=>ai (t a S) λk b=>if k=true then f a b else g a b
def bz (i:Nat)(f:GU D):GU Fl:=λa S=>ai (f a S) λd b=>G9 (.next (a.set i (some d))) b
def nP (f:GU D):GU Fl:=λa S=>ai (f a S) λ_ b=>G9 (.next a) b
theorem cn:Mf X W [] dw:=Nv.imp λE a H h=>by obtain⟨J,b,S,r,d,c,e,z⟩:=h;cases e;exact z J a H Ex.refl c
theorem yM {E:Ends}{i:St}{H:Hp}(h:tS X W (aO f g) E i H):Ec (tS X W f) (tS X W g) E i H:=by
 obtain⟨J,b,S,r,s,c,e,z⟩:=h;unfold aO at e;cases q:f b S with
 |none=>simp[q] at e
 |some o =>
  obtain⟨n,j⟩:=o;simp only[q] at e;cases n with
  |error x =>
   cases e;exact⟨J,b,S,.error x,_,c,q,z⟩
  |ok l =>
   cases l with
   |next a=>exact⟨J,b,S,.ok (.next a),j,c,q,λk m t x p=>⟨k,a,j,r,s,p,e,z.ex x⟩⟩
   |ret d=>cases e;exact⟨J,b,S,.ok (.ret d),_,c,q,z⟩
   |brk a=>cases e;exact⟨J,b,S,.ok (.brk a),_,c,q,z⟩
   |cont a=>cases e;exact⟨J,b,S,.ok (.cont a),_,c,q,z⟩
theorem al (a:SS X W st f)(b:Mf X W rest g):Mf X W (st::rest) (aO f g):=(yZ a b).imp λE c H h=>yM h
theorem au (a:SS X W st f):Mf X W [st] f:=Bf a
theorem tS.Ha {k:D->GU Fl}{E:Ends}{g:St}{H:Hp}(h:tS X W (λρ S=>ai (fe ρ S) λd b=>k d ρ b) E g H) :
  tE X W fe g H λv a => ∃ J ρ S d r f,Cf X J ρ S g a/\At X.K a J d v/\k d ρ S=some (r,f)/\KY X W J a r f E:=by
 obtain⟨J,ρ,S,r,f,c,e,z⟩:=h;cases q:fe ρ S with
 |none=>simp[q] at e
 |some o =>
  obtain⟨l,b⟩:=o;simp only[q] at e;cases l with
  |error x =>
   cases e;exact⟨J,ρ,S,.error x,_,c,.nil,q,z⟩
  |ok d=>exact⟨J,ρ,S,.ok d,b,c,.nil,q,λj a v x i m=>⟨j,ρ,b,d,r,f,c.re x i,m,e,z.ex x⟩⟩
theorem tS.Kz {k:Bool->GU Fl}{E:Ends}{f:St}{H:Hp}(h:tS X W (λρ S=>ai (gt ρ S) λd a=>k d ρ a) E f H) :
  tT X W gt f H λb g=>tS X W (k b) E f g:=by
 obtain⟨J,ρ,S,r,n,c,e,z⟩:=h;cases q:gt ρ S with
 |none=>simp[q] at e
 |some o =>
  obtain⟨l,a⟩:=o;simp only[q] at e;cases l with
  |error x =>
   cases e;exact⟨J,ρ,S,.error x,_,c,.nil,q,z⟩
  |ok d =>
   refine⟨J,ρ,S,.ok d,a,c,.nil,q,λj g v x i m=>?_⟩;cases m;exact⟨j,ρ,a,r,n,c.re x i,e,z.ex x⟩
theorem aI (b:SE X W e fe):SS X W (.Return (some e) pos) (bh fe):=(CZ b).imp λE i H h=>(tS.Ha h).mono λv f a=>by obtain⟨J,g,S,d,r,j,c,m,q,z⟩:=a;cases q;exact z J f v Ex.refl c.Hu m
theorem f_ {a b:List Stmt}(i:Ky X W c gt)(e:Mf X W a f)(j:Mf X W b g):SS X W (.If c a b pos) (KZ gt f g):=(Eu i e j).imp λE l H h=>(tS.Kz h).mono λk m d=>by
 cases k with
 |true=>rw[if_pos rfl];exact d
 |false=>rw[if_neg (by decide)];exact d
theorem lV (g:SE X W e fe)(b:swapsWith e none pos.line X.env=pure false:=by rfl):SS X W (.Expr e pos) (nP fe):=(Bh g b).imp λE a H h=>(tS.Ha h).mono λv i f=>by obtain⟨J,j,S,d,r,k,c,m,q,z⟩:=f;cases q;exact z J a i Ex.refl c
theorem Cf.set {J:List Addr}{ρ:G1}{S:G0}{b:St}{H:Hp}{i:Nat}{d:D}{v:V}(c:Cf X J ρ S b H)(m:At X.K H J d v):Cf X J (ρ.set i (some d)) S (b.set i (some v)) H:=by
 refine⟨by rw[length_set,length_set];exact c.len,λj g h=>?_,c.Hu⟩;by_cases a:j=i
 ·subst a;have e:j < ρ.length:=by have:=(List.getElem?_eq_some_iff.mp h).1;rwa [length_set] at this
  rw[getElem?_set_self e] at h;cases h;exact⟨v,getElem?_set_self (by rw[← c.len];exact e),m⟩
 rw[getElem?_set_ne (Ne.symm a)] at h;obtain⟨l,f,k⟩:=c.env j g h;exact⟨l,by rw[getElem?_set_ne (Ne.symm a)];exact f,k⟩
theorem aL {i:Nat}{x:Str}{a:Pos}(f:X.N.Nodup)(k:SE X W e fe)(hi:X.N[i]?=some x:=by rfl)(j:Loc X.env.scope x:=by first |exact Or.inl rfl |exact Or.inr rfl)(b:swapsWith e (some (.Name x a)) pos.line X.env=pure false:=by rfl)
  (l:X.fn x=true∨X.env.scope.names.lookup x=some .local:=by first |exact .inl rfl |exact .inr rfl |assumption) :
  SS X W (.Assign [.Name x a] e pos) (bz i fe):=(CY f hi j k b l).imp λE p H h=>(tS.Ha h).mono λv n g=>by
 obtain⟨J,o,S,d,r,s,c,m,q,z⟩:=g
 cases q;exact z J _ n Ex.refl (c.set m)
def V_ (X:Cx)(u:D->G1->Option G1):TG:=λv e H Q => ∃ J c S d a,Cf X J c S e H/\At X.K H J d v/\u d c=some a/\∀ b,Cf X J a S b H->Q b H
def Ft (X:Cx)(u:List D->G1->Option G1):Nw:=λe f H Q => ∃ J c S d a,Cf X J c S f H/\G5 X.K H J d e/\u d c=some a/\∀ b,Cf X J a S b H->Q b H
def SG (X:Cx)(a:Expr)(u:D->G1->Option G1):Prop:=PG X a (V_ X u)
def RI (X:Cx)(a:List Expr)(u:List D->G1->Option G1):Prop:=NZ X a (Ft X u)
theorem PG.imp {c:Expr}{t t':TG}(h:PG X c t)(i:∀ v b H Q,t' v b H Q->t v b H Q):PG X c t':=λa s b H v u Q I r z=>h a s b H v u Q I r (i _ _ _ _ z)
theorem NZ.imp {c:List Expr}{t t':Nw}(h:NZ X c t)(i:∀ v b H Q,t' v b H Q->t v b H Q):NZ X c t':=λa s b H v u Q I r z=>h a s b H v u Q I r (i _ _ _ _ z)
noncomputable def aC (i:Nat):D->G1->Option G1:=λd a=>some (a.set i (some d))
def gF:List D->G1->Option G1:=λa b=>match a with
 |[]=>some b
 |_=>none
def bg (u:D->G1->Option G1)(us:List D->G1->Option G1):List D->G1->Option G1:=λc b=>match c with
 |d::r=>(u d b).bind λa=>us r a
 |[]=>none
def lM (n:Nat)(us:List D->G1->Option G1):D->G1->Option G1:=λd b=>match d with
 | .tup a=>if a.length=n then us a b else none
 |_=>none
theorem aH {i:Nat}{x:Str}(a:X.N.Nodup)(hi:X.N[i]?=some x:=by rfl)(b:Loc X.env.scope x:=by first |exact Or.inl rfl |exact Or.inr rfl)(f:X.fn x=true∨X.env.scope.names.lookup x=some .local:=by first |exact .inl rfl |exact .inr rfl |assumption) :
  SG X (.Name x pos) (aC i):=(Bp a hi b f).imp λv k H Q h=>by
 obtain⟨J,j,S,d,g,c,m,e,z⟩:=h;cases e;exact z _ (c.set m)
theorem jx:RI X [] gF:=Nx.imp λv f H Q h=>by
 obtain⟨J,d,S,b,a,c,m,e,z⟩:=h;cases b with
 |nil=>cases e;exact⟨G5.G7.mp m,z _ c⟩
 |cons _ _=>cases e
theorem bR {e:Expr}{es:List Expr}{u:D->G1->Option G1}{us:List D->G1->Option G1}(q:SG X e u)(i:RI X es us)
  (j:(assignEach (e::es) X.env).map (·.2)=assign e X.env::(assignEach es X.env).map (·.2):=by rfl):RI X (e::es) (bg u us):=(zb q i j).imp λv t H Q h=>by
 obtain⟨J,f,S,s,b,c,m,e,z⟩:=h;cases s with
 |nil=>cases e
 |cons d r =>
  obtain⟨k,g,rfl,m1,m2⟩:=G5.G3.mp m;obtain⟨a,n,l⟩:=bind_eq_some_iff.mp e;exact⟨k,g,rfl,J,f,S,d,a,c,m1,n,λp o=>⟨J,a,S,r,b,o,m2,l,z⟩⟩
theorem mL {es:List Expr}{k:Nat}{us:List D->G1->Option G1}{n:Nat}(i:X.calm=true)(h:RI X es us)
  (p:(assignEach es X.env).length=n:=by rfl) (l:(assignEach es X.env).findIdx? (·.1)=none:=by rfl):SG X (.Tuple es k pos) (lM n us):=(C7 i h p l).imp λv r H Q h=>by
 obtain⟨J,g,S,d,b,c,m,e,z⟩:=h;cases d with
 |tup q =>
  obtain⟨a,o,rfl,t,f⟩:=At.He.mp m;simp only[lM] at e;split at e
  ·rename_i j;exact⟨a,o,rfl,t.sq,by rw[← f.length];exact j,J,g,S,q,b,c,f,e,z⟩
  cases e
 |_=>cases e
def qS (u:D->G1->Option G1)(f:GU D):GU Fl:=λa S=>ai (f a S) λd b=>aK ((u d a).map Fl.next) b
theorem CA {a e:Expr}{u:D->G1->Option G1}(l:SE X W e fe)(o:SG X a u)(i:swapsWithSole [a] e pos.line X.env=pure false:=by rfl)(j:swappedStores [a] e X.env=pure none:=by rfl)
  (s:(assignEach [a] X.env).map (·.2)=[assign a X.env]:=by rfl):SS X W (.Assign [a] e pos) (qS u fe):=(y6 l o i j s).imp λE t H h=>(tS.Ha h).mono λv n k=>by
 obtain⟨J,g,S,d,r,w,c,m,q,z⟩:=k
 cases hu:u d g with
 |none=>simp[hu] at q
 |some f =>
  simp only[hu,map_some,bt,G9] at q;cases q;exact⟨J,g,_,d,f,c,m,hu,λb p=>z J b n Ex.refl p⟩
structure Walk (X:Cx) (Jt:It) (ds:List D) (J0:List Addr) (H0:Hp):Prop where
 len:ds.length<=sizeLine
 go:∀ J H i,Ex J0 H0 J H->i<ds.length->Jt.go i H
 Lu:∀ J H (i:Nat) x H',Ex J0 H0 J H->(∀ a∈J,H a≠none)->i<ds.length->Jt.Lu i H x H'->∃ d,ds[i]?=some d/\At X.K H' J d x/\Hb H H'
 stop:∀ J H i,Ex J0 H0 J H->ds.length<=i->Jt.stop i H
def iW (X:Cx)(W:WT)(fi:GU (List D)):TI:=λg H R => ∃ J e S r d,Cf X J e S g H/\fi e S=some (r,d)/\match r with
 | .ok h => ∀ b a f,Ex J H b a->Hr X.K b d a->Walk X f h b a->R f a
 | .error c => ∀ b a,Ex J H b a->Hr X.K b d a->W c b d a
def SI (X:Cx)(W:WT)(a iter:Expr)(fi:GU (List D)):Prop:=PI X a iter (iW X W fi)
theorem PI.imp {c iter:Expr}{t t':TI}(h:PI X c iter t)(i:∀ b H R,t' b H R->t b H R):PI X c iter t':=λa s b H R I z=>h a s b H R I (i _ _ _ z)
def fB (u:D->G1->Option G1)(body:GU Fl):List D->GU Fl
 |[],ρ,S=>G9 (.next ρ) S
 |d::ds,ρ,S=>match u d ρ with
  |none=>none
  |some c=>ai (body c S) λe b=>match e with
   | .next a=>fB u body ds a b
   | .cont a=>fB u body ds a b
   | .brk a=>G9 (.next a) b
   | .ret d=>G9 (.ret d) b
def jh (fi:GU (List D))(u:D->G1->Option G1)(body:GU Fl):GU Fl:=λa S=>ai (fi a S) λc b=>fB u body c a b
theorem eY {R iter:Expr}{body:List Stmt}{fi:GU (List D)}{u:D->G1->Option G1}(hp:PassesOwn (model X.prog X.w) X.A X.env X.xe)(hc:X.calm=true)(hi:SI X W R iter fi)(hg:SG X R u)(hb:Mf X W body f)
  (hs:∀ x,foldedSetIterable iter X.env x=pure x:=by intro _;rfl):SS X W (.For R iter body [] pos) (jh fi u f):=(C0 hp hc hi hg hb hs).imp λE σ H h=>by
 obtain⟨J,N,S,r,v,c,e,z⟩:=h;unfold jh at e;cases q:fi N S with
 |none=>simp[q] at e
 |some o =>
  obtain⟨O,Y⟩:=o;simp only[q] at e;cases O with
  |error x =>
   cases e;exact⟨J,N,S,.error x,_,c,q,z⟩
  |ok p =>
   refine⟨J,N,S,.ok p,Y,c,q,λV Z Jt x0 s0 w=>?_⟩
   refine⟨λi m σ H=>m=p.length-i/\∃ a k l,Ex V Z a H/\Cf X a k l σ H/\∃ r v,fB u f (p.drop i) k l=some (r,v)/\KY X W a H r v E,
    ⟨_,rfl,V,N,Y,Ex.refl,c.re x0 s0,r,v,by simpa using e,z.ex x0⟩,λi m U B hw=>?_⟩
   obtain⟨hm,a,k,l,ex,K,r1,UE,j,ez⟩:=hw;by_cases hi:i<p.length
   ·refine .inr ⟨w.go a B i ex hi,λn s => ∃ T I Sy,Ex V Z T s/\Cf X T I Sy n s/\∃ r v,fB u f (p.drop (i+1)) I Sy=some (r,v)/\KY X W T s r v E,
     λn s hn=>⟨p.length-(i+1),by omega,rfl,hn⟩,λx s y=>?_⟩
    obtain⟨d,ed,ad,sm⟩:=w.Lu a B i x s ex K.Hu.all hi y;have hd:p.drop i=d::p.drop (i+1):=by rw[drop_eq_getElem_cons hi];rw[List.getElem?_eq_getElem hi] at ed;cases ed;rfl
    rw[hd] at j;unfold fB at j;cases hu:u d k with
    |none=>simp[hu] at j
    |some b =>
     simp only[hu] at j;have M:Ex a B a s:=Ex.same sm;refine⟨a,k,l,d,b,K.re M (K.Hu.same sm),ad,hu,λσ2 C=>?_⟩;cases t:f b l with
     |none=>simp[t] at j
     |some o =>
      obtain⟨O,L⟩:=o;simp only[t] at j;have F:=ez.ex M;cases O with
      |error x =>
       cases j;exact⟨a,b,l,.error x,_,C,t,F⟩
      |ok fl =>
       cases fl with
       |next g=>exact⟨a,b,l,.ok (.next g),L,C,t,λQ n H2 G P=>⟨Q,g,L,ex.trans (M.trans G),P,r1,UE,j,F.ex G⟩⟩
       |cont g=>exact⟨a,b,l,.ok (.cont g),L,C,t,λQ n H2 G P=>⟨Q,g,L,ex.trans (M.trans G),P,r1,UE,j,F.ex G⟩⟩
       |brk g=>cases j;exact⟨a,b,l,.ok (.brk g),_,C,t,F⟩
       |ret dd=>cases j;exact⟨a,b,l,.ok (.ret dd),_,C,t,F⟩
   refine .inl ⟨w.stop a B i ex (by omega),?_⟩;rw[drop_eq_nil_of_le (by omega)] at j;unfold fB at j;cases j;exact ez a U B Ex.refl K
def vz (f:GU D):GU (List D):=λa S=>ai (f a S) λd b=>aK (match d with | .tup c=>some c |_=>none) b
def Au (f:GU D):GU (List D):=λa S=>ai (f a S) λd b=>aK (match d with | .lst c=>some c |_=>none) b
theorem Walk.list {a:Addr}{ds:List D}{xs:List V}{J:List Addr}{H:Hp}(t:LQ X.K H J a xs)(m:G5 X.K H J ds xs):Walk X (Sl X.K a) ds J H where
 len:=by rw[m.length];exact t.len
 go:=λc f i x b=>by
  have m1:=m.ex x;obtain⟨v,h,_⟩:=m1.get (List.getElem?_eq_getElem b);exact⟨xs,v,(t.ex x).sq,h⟩
 Lu:=λc f i v k x j b y=>by
  obtain⟨rfl,g⟩:=y;obtain⟨d,e,a⟩:=(m.ex x).get' (g xs (t.ex x).sq);exact⟨d,e,a,Hb.refl _⟩
 stop:=λc f i x b=>⟨xs,(t.ex x).sq,by rw[← m.length];exact b⟩
theorem Walk.tup {a:Addr}{ds:List D}{xs:List V}{J:List Addr}{H:Hp}(t:TQ X.K H J a xs)(m:G5 X.K H J ds xs):Walk X (Sm X.K a) ds J H where
 len:=by rw[m.length];exact t.len
 go:=λc f i x b=>by
  have m1:=m.ex x;obtain⟨v,h,_⟩:=m1.get (List.getElem?_eq_getElem b);exact⟨xs,v,(t.ex x).sq,h⟩
 Lu:=λc f i v k x j b y=>by
  obtain⟨rfl,g⟩:=y;obtain⟨d,e,a⟩:=(m.ex x).get' (g xs (t.ex x).sq);exact⟨d,e,a,Hb.refl _⟩
 stop:=λc f i x b=>⟨xs,(t.ex x).sq,by rw[← m.length];exact b⟩
theorem qy {k:D->Option (List D)}{g:St}{H:Hp}{R:It->Hp->Prop}(h:iW X W (λρ S=>ai (fe ρ S) λd f=>aK (k d) f) g H R) :
  tE X W fe g H λv b => ∃ J S d ds,Hr X.K J S b/\At X.K b J d v/\k d=some ds/\∀ H' a,Hb b H'->Walk X a ds J H'->R a H':=by
 obtain⟨J,ρ,S,r,p,c,e,z⟩:=h;cases q:fe ρ S with
 |none=>simp[q] at e
 |some o =>
  obtain⟨n,f⟩:=o;simp only[q] at e;cases n with
  |error x =>
   cases e;exact⟨J,ρ,S,.error x,_,c,.nil,q,z⟩
  |ok d =>
   refine⟨J,ρ,S,.ok d,f,c,.nil,q,λj b v x i m=>?_⟩;cases hk:k d with
   |none=>simp[hk] at e
   |some ds =>
    simp only[hk,eD,bt,G9] at e;cases e;exact⟨j,_,d,ds,i,m,hk,λH' a l w=>z j H' a (x.trans (Ex.same l)) (i.same l) w⟩
theorem CF {f:Expr}(j:SE X W e fe):SI X W f e (vz fe):=(C6 j).imp λl H R h=>(qy h).mono λv k g=>by
 obtain⟨J,S,d,o,s,m,b,z⟩:=g
 cases d with
 |tup n =>
  cases b;obtain⟨a,c,rfl,t,i⟩:=At.He.mp m;exact⟨a,rfl,⟨c,t.sq⟩,z k _ (Hb.refl _) (Walk.tup t i)⟩
 |_=>cases b
theorem CH {f:Expr}(j:SE X W e fe):SI X W f e (Au fe):=(Bo j).imp λl H R h=>(qy h).mono λv k g=>by
 obtain⟨J,S,d,o,s,m,b,z⟩:=g
 cases d with
 |lst n =>
  cases b;obtain⟨a,c,rfl,t,i⟩:=At.Hh.mp m;exact⟨a,rfl,⟨c,t.sq⟩,z k _ (Hb.refl _) (Walk.list t i)⟩
 |_=>cases b
def d6:List D->Option (List D)
 |[.int j]=>if -(2 ^ 62)<=j/\j<=16777216 then some ((List.range j.toNat).map λ(k:Nat)=>D.int k) else none
 |_=>none
def fV (k:List D->Option (List D))(t:GU (List D)):GU (List D):=λa S=>ai (t a S) λc b=>aK (k c) b
theorem Walk.range {J:List Addr}{H:Hp}(lo:Int)(n:Nat)(hz:n<=sizeLine):Walk X (Ry lo n) ((List.range n).map λ(k:Nat)=>D.int (lo+k)) J H where
 len:=by rw[length_map,length_range];exact hz
 go:=λb c i x a=>by rw[length_map,length_range] at a;exact a
 Lu:=λb c i v d x e a y=>by
  obtain⟨rfl,rfl⟩:=y;rw[length_map,length_range] at a;exact⟨.int (lo+i),by rw[getElem?_map,getElem?_range a];rfl,At.G2.mpr rfl,Hb.refl _⟩
 stop:=λb c i x a=>by rw[length_map,length_range] at a;exact a
theorem gO {k:List D->Option (List D)}{t:GU (List D)}{g:St}{H:Hp}{R:It->Hp->Prop}(h:iW X W (λρ S=>ai (t ρ S) λd f=>aK (k d) f) g H R) :
  tA X W t g H λvs b => ∃ J S es ds,Hr X.K J S b/\G5 X.K b J es vs/\k es=some ds/\∀ H' a,Hb b H'->Walk X a ds J H'->R a H':=by
 obtain⟨J,ρ,S,r,p,c,e,z⟩:=h;cases q:t ρ S with
 |none=>simp[q] at e
 |some o =>
  obtain⟨n,f⟩:=o;simp only[q] at e;cases n with
  |error x =>
   cases e;exact⟨J,ρ,S,.error x,_,c,.nil,q,z⟩
  |ok es =>
   refine⟨J,ρ,S,.ok es,f,c,.nil,q,λj b v x i m=>?_⟩;cases hk:k es with
   |none=>simp[hk] at e
   |some ds =>
    simp only[hk,eD,bt,G9] at e;cases e;exact⟨j,_,es,ds,i,m,hk,λH' a l w=>z j H' a (x.trans (Ex.same l)) (i.same l) w⟩
theorem dS {g a:Expr}{t:GU (List D)}{x:Str}{p:Pos}(k:x="range")(q:X.mg x=none)(e:SA X W [a] t)(l:Gl X x:=by rfl)(f:starEach [a] X.env=[(false,eval a X.env)]:=by rfl):SI X W g (.Call (.Name x p) [a] [] pos) (fV d6 t):=by
 subst k;refine PI.imp (xv l q e f) λu H R h=>(gO h).mono λy d i=>?_;obtain⟨J,S,es,A,s,m,b,z⟩:=i;unfold d6 at b;split at b
 ·rename_i j;split at b
  ·rename_i c;cases b;obtain⟨v,r,rfl,o,n⟩:=G5.G3.mp m;cases G5.G7.mp n;cases At.G2.mp o;refine⟨j,rfl,c.1,by omega,z d _ (Hb.refl _) ?_⟩;have w:=Walk.range (X:=X) (J:=J) (H:=d) 0 j.toNat (by show j.toNat<=16777216;omega);simpa using w
  cases b
 cases b
end
structure Ik (scope:Scope) (env:Env):Prop where
 kind:scope.kind = .function
 nd:(scope.names.map (·.1)).Nodup
 names:∀ y∈scope.names,y.2 = .local->scope.names.lookup y.1=some .local
 frees:∀ y∈scope.names,y.2 = .free->env.kindOf y.1=some .cell∨env.kindOf y.1=some .free
theorem dD {env:Env}:∀ (names:List (Str×NameKind)) (a:List (Str×Addr)),(∀ y∈names,y.2 = .free->∃ c,env.cells.lookup y.1=some c)->(∀ x c,a.lookup x=some c->env.cells.lookup x=some c) ->
  ∃ b:List (Str×Addr),(forIn names a λ(x:Str×NameKind) r=>(do
    let (name,kind):=x
    if kind==.free then pure (ForInStep.yield ((name,← cellOf env name)::r)) else pure (ForInStep.yield r):Sem (ForInStep (List (Str×Addr)))))=pure b /\
   (∀ x c,b.lookup x=some c->env.cells.lookup x=some c)/\(∀ x c,a.lookup x=some c->∃ d,b.lookup x=some d)/\(∀ y∈names,y.2 = .free->∃ c,b.lookup y.1=some c)
 |[],a,_,ha=>⟨a,by simp,ha,λx c h=>⟨c,h⟩,by simp⟩
 |(n,k)::r,a,hc,ha=>by
  by_cases l:k = .free
  ·subst l;obtain⟨c,o⟩:=hc (n,.free) (mem_cons_self ..) rfl
   have p:∀ x d,((n,c)::a).lookup x=some d->env.cells.lookup x=some d:=λx d h=>by
    rw[lookup_cons] at h;cases f:x==n with
    |true =>
     rw[f] at h;cases h;have:x=n:=eq_of_beq f;rw[this];exact o
    |false=>rw[f] at h;exact ha x d h
   obtain⟨b,e,m,g,j⟩:=dD r ((n,c)::a) (λy hy=>hc y (mem_cons_of_mem _ hy)) p;have q:cellOf env n=pure c:=by unfold cellOf;rw[o]
   refine⟨b,?_,m,λx d h=>?_,λy hy i=>?_⟩
   ·rw[forIn_cons];simp only[beq_self_eq_true,if_true,q,pure_bind];exact e
   ·by_cases f:(x==n)=true
    ·exact g x c (by rw[lookup_cons,f])
    exact g x d (by rw[lookup_cons,Bool.eq_false_iff.mpr f];exact h)
   rcases mem_cons.mp hy with rfl |hy
   ·exact g n c (by rw[lookup_cons,beq_self_eq_true])
   exact j y hy i
  obtain⟨b,e,m,g,j⟩:=dD r a (λy hy=>hc y (mem_cons_of_mem _ hy)) ha;refine⟨b,?_,m,g,λy hy i=>?_⟩
  ·rw[forIn_cons];have:(k==NameKind.free)=false:=by simpa using l
   simp only[this,false_eq_true,if_false,pure_bind];exact e
  rcases mem_cons.mp hy with rfl |hy
  ·exact absurd i l
  exact j y hy i
def kJ (X:Cx)(scope:Scope)(a:List (Str×Addr))(d:List Str)(C:Addr)(b:Shared)(c:Hp)(fp:List Addr):Cx:=
 { X with N:=d,s₀:=b,H₀:=c,env:=compEnvC scope a C X.env,outer:=X.stack,ex:=fp,fn:=λx=>scope.names.lookup x==some .cell,pn:=[],xe:=λ_ _=>False }
theorem d8 {env:Env}{x:Str}:∀ {names:List (Str×NameKind)}{k:NameKind},(names.map λ(n,k)=>if (k==NameKind.free&&env.scope.kind==.function&&env.kindOf n==some .cell) then (n,NameKind.cell) else (n,k)).lookup x=some k ->
  (k = .cell∨k = .free)->(x,NameKind.free)∈names∨(x,NameKind.cell)∈names
 |[],_,h,_=>by simp at h
 |(n,k0)::r,k,h,a=>by
  have c:∀ {k'},(r.map λ(n,k)=>if (k==NameKind.free&&env.scope.kind==.function&&env.kindOf n==some .cell) then (n,NameKind.cell) else (n,k)).lookup x=some k'->(k' = .cell∨k' = .free)->(x,NameKind.free)∈(n,k0)::r∨(x,NameKind.cell)∈(n,k0)::r:=λh a=>(d8 h a).imp (mem_cons_of_mem _) (mem_cons_of_mem _);rw[map_cons] at h;by_cases b:(k0==NameKind.free&&env.scope.kind==.function&&env.kindOf n==some .cell)=true
  ·simp only[b,if_true,lookup_cons] at h;cases hx:x==n with
   |true =>
    have e:x=n:=eq_of_beq hx;subst e;have:k0 = .free:=by simp at b;exact b.1.1
    subst this;exact .inl (mem_cons_self ..)
   |false=>rw[hx] at h;exact c h a
  simp only[b,if_false,lookup_cons,false_eq_true] at h;cases hx:x==n with
  |true =>
   rw[hx] at h;have e:x=n:=eq_of_beq hx;subst e;cases h;rcases a with rfl |rfl
   ·exact .inr (mem_cons_self ..)
   exact .inl (mem_cons_self ..)
  |false=>rw[hx] at h;exact c h a
def bP {α:Type}(ts:Nat)(ix:List Nat)(a:List (Option α)):List (Option α):=replicate ts none++ix.map λi=>(a[i]?).getD none
def iI (ts:List Str)(ix:List Nat)(N:List Str):List Str:=ts++ix.map λi=>N.getD i Str.empty
theorem dJ {env:Env}{x:Str}:∀ {names:List (Str×NameKind)},names.lookup x=some .free ->
  (names.map λ(n,k)=>if (k==NameKind.free&&env.scope.kind==.function&&env.kindOf n==some .cell) then (n,NameKind.cell) else (n,k)).lookup x=some .cell ∨
  (names.map λ(n,k)=>if (k==NameKind.free&&env.scope.kind==.function&&env.kindOf n==some .cell) then (n,NameKind.cell) else (n,k)).lookup x=some .free
 |[],h=>by simp at h
 |(n,k0)::r,h=>by
  rw[map_cons];rw[lookup_cons] at h;by_cases a:(k0==NameKind.free&&env.scope.kind==.function&&env.kindOf n==some .cell)=true
  ·simp only[a,if_true,lookup_cons];cases hx:x==n with
   |true=>exact .inl rfl
   |false=>rw[hx] at h;exact dJ h
  simp only[a,if_false,lookup_cons,false_eq_true];cases hx:x==n with
  |true=>rw[hx] at h;exact .inr h
  |false=>rw[hx] at h;exact dJ h
theorem lookup_mem {x:Str}{k:NameKind}:∀ {names:List (Str×NameKind)},names.lookup x=some k->(x,k)∈names
 |[],h=>by simp at h
 |(n,k0)::r,h=>by
  rw[lookup_cons] at h;cases hx:x==n with
  |true=>rw[hx] at h;cases h;rw[eq_of_beq hx];exact mem_cons_self ..
  |false=>rw[hx] at h;exact mem_cons_of_mem _ (lookup_mem h)
theorem bo:∀ (names:List (Str×NameKind)) (n:Nat) (a:List (Str×Addr)),cellsFrom n names a=cellsFrom n names []++a
 |[],_,_=>rfl
 |(x,k)::r,n,a=>by
  unfold cellsFrom;split
  ·rw[bo r _ ((x,n)::a),bo r _ [(x,n)],List.append_assoc];rfl
  exact bo r n a
theorem fR {x:Str}{c:Addr}:∀ {names:List (Str×NameKind)}{n:Nat},(x,c)∈cellsFrom n names []->(x,NameKind.cell)∈names
 |[],_,h=>by cases h
 |(y,k)::r,n,h=>by
  unfold cellsFrom at h;split at h
  ·rename_i a;rw[bo] at h;rcases mem_append.mp h with h |h
   ·exact mem_cons_of_mem _ (fR h)
   have:=mem_singleton.mp h;cases this;rw[eq_of_beq a];exact mem_cons_self ..
  exact mem_cons_of_mem _ (fR h)
theorem db {x:Str}:∀ {names:List (Str×NameKind)}{n:Nat},(x,NameKind.cell)∈names->∃ c,(cellsFrom n names []).lookup x=some c
 |(y,k)::r,n,h=>by
  unfold cellsFrom;rcases mem_cons.mp h with e |h
  ·cases e;rw[if_pos (by rfl),bo,lookup_append];cases q:(cellsFrom (n+1) r []).lookup x with
   |some c=>exact⟨c,rfl⟩
   |none=>exact⟨n,by simp⟩
  split
  ·obtain⟨c,e⟩:=db (n:=n+1) h;rw[bo,lookup_append,e];exact⟨c,rfl⟩
  exact db h
theorem m5 {x:Str}{k b:NameKind}:∀ {names:List (Str×NameKind)},(names.map (·.1)).Nodup->(x,k)∈names->(x,b)∈names->k=b
 |(y,k0)::r,nd,h,h'=>by
  obtain⟨a,d⟩:=nodup_cons.mp nd;rcases mem_cons.mp h with e |p<;>rcases mem_cons.mp h' with c |q
  ·cases e;cases c;rfl
  ·cases e;exact absurd (mem_map.mpr ⟨_,q,rfl⟩) a
  ·cases c;exact absurd (mem_map.mpr ⟨_,p,rfl⟩) a
  exact m5 d p q
structure JN (X:Cx) (scope:Scope) (cl:List (Str×Addr)) (s3:Shared) (h4:Heap):Prop where
 out:∀ x c,cl.lookup x=some c->X.env.cells.lookup x=some c∨(s3.heap.objs.size<c/\h4.IsCell c none)
 inj:∀ x y c,cl.lookup x=some c->cl.lookup y=some c->x=y
 has:∀ x,(x,NameKind.free)∈scope.names∨(x,NameKind.cell)∈scope.names->∃ c,cl.lookup x=some c
 frees:∀ x c,scope.names.lookup x=some .free->cl.lookup x=some c->X.env.cells.lookup x=some c
 own:∀ x c,scope.names.lookup x=some .cell->cl.lookup x=some c->s3.heap.objs.size<c
theorem JN.of {X:Cx}{j:GX}{l:St}{s:Hp}{scope:Scope}{g:List (Str×Addr)}{b:Shared}{o:Obj}(I:Inv X j l s b)(S:Ik scope X.env)(f:∀ x c,g.lookup x=some c->X.env.cells.lookup x=some c)(m:∀ y∈scope.names,y.2 = .free->∃ c,g.lookup y.1=some c) :
  JN X scope (cellsFrom (b.heap.objs.size+1) scope.names g) b (pushCells (b.heap.push o) scope.names):=by
 have ok:=cellsFrom_ok scope.names (b.heap.push o) (b.heap.objs.size+1) [] ⟨λ_ _ t=>(nomatch t),List.Pairwise.nil⟩ (by rw[Heap.size_push];exact le_refl _);rw[Heap.size_push] at ok
 have i:∀ x c,(cellsFrom (b.heap.objs.size+1) scope.names g).lookup x=some c->((cellsFrom (b.heap.objs.size+1) scope.names []).lookup x=some c)∨((cellsFrom (b.heap.objs.size+1) scope.names []).lookup x=none/\g.lookup x=some c):=λx c h=>by
  rw[bo,lookup_append] at h;cases q:(cellsFrom (b.heap.objs.size+1) scope.names []).lookup x with
  |some d=>rw[q] at h;exact .inl h
  |none=>rw[q] at h;exact .inr ⟨rfl,h⟩
 have old:∀ x c,X.env.cells.lookup x=some c->c<b.heap.objs.size:=λx c h=>let ⟨v,q⟩:=I.cell x c h;q.lt;refine⟨λx c h=>?_,λx y c hx p=>?_,λx hx=>?_,λx c k h=>?_,λx c k h=>?_⟩
 ·rcases i x c h with q |⟨_,q⟩
  ·have:=ok.empty x c (mem_of_lookup q);exact .inr ⟨this.2,this.1⟩
  exact .inl (f x c q)
 ·rcases i x c hx with q |⟨_,q⟩<;>rcases i y c p with r |⟨_,r⟩
  ·exact name_of_addr ok.apart (mem_of_lookup q) (mem_of_lookup r)
  ·have a:=(ok.empty x c (mem_of_lookup q)).2;exact absurd (lt_of_lt_of_le (lt_succ_of_lt (old y c (f y c r))) a) (Nat.lt_irrefl _)
  ·have a:=(ok.empty y c (mem_of_lookup r)).2;exact absurd (lt_of_lt_of_le (lt_succ_of_lt (old x c (f x c q))) a) (Nat.lt_irrefl _)
  exact I.ok.inj x y c (f x c q) (f y c r)
 ·rw[bo,lookup_append];cases q:(cellsFrom (b.heap.objs.size+1) scope.names []).lookup x with
  |some d=>exact⟨d,rfl⟩
  |none =>
   rcases hx with hx |hx
   ·exact m _ hx rfl
   obtain⟨c,e⟩:=db (n:=b.heap.objs.size+1) hx;rw[q] at e;cases e
 ·rcases i x c h with q |⟨_,q⟩
  ·have:=m5 S.nd (lookup_mem k) (fR (mem_of_lookup q));cases this
  exact f x c q
 rcases i x c h with q |⟨q,_⟩
 ·exact(ok.empty x c (mem_of_lookup q)).2
 obtain⟨d,e⟩:=db (n:=b.heap.objs.size+1) (lookup_mem k);rw[q] at e;cases e
theorem n3 {M:Model}{A:Around}{E:GW}{s:Shared}{scope:Scope}{globals:Addr}{a:List (Str×Addr)}{qual:Str}{env:Env}{Q:Env->Shared->Prop}
  (b:Q (newEnv scope s.heap.objs.size globals (cellsFrom (s.heap.objs.size+1) scope.names a) qual none .none (some env) builtinsNs) { s with heap:=pushCells (s.heap.push { cls:=.type "dict",data:=.dict #[] }) scope.names }) :
  wpAny M A (newFunctionEnv scope globals a [] qual none .none (some env)) Q E s:=by
 simp only[newFunctionEnv,Option.isSome_some,if_true];refine wpAny_bind (wpAny_alloc ?_);refine wpAny_bind (wpAny_layCells _ (λname kind cells=>by cases Wa:kind==NameKind.cell<;>simp[Wa]) _ _ _ _ ?_);rw[show ({ s with heap:=s.heap.push { cls:=.type "dict",data:=.dict #[] } }:Shared).heap.objs.size=s.heap.objs.size+1 from Heap.size_push ..];rw[forIn_nil];exact wpAny_bind (wpAny_pure (wpAny_pure b))
section
variable {X:Cx}{pins:GX}{σ:St}{H:Hp}{s:Shared}
theorem Inv.enter {scope:Scope}{K:List (Str×Addr)}{ts:List Str}{ix:List Nat}{fp:List Addr}{j:Shared}{E:Heap}{D:Hp}{m:GY}{tk:Nat}(I:Inv X pins σ D j)(S:Ik scope X.env)(s:JN X scope K j E)
  (K0:∀ t∈ix,scope.names.lookup (X.N.getD t Str.empty)=some .free)
  (f:∀ b∈fp,hZ X pins D b) (H:∀ b∈fp,∃ o,j.heap.get? b=some o) (k:∀ b o,j.heap.get? b=some o->E.get? b=some o) (hn:E.Ns j.heap.objs.size m) :
  Inv (kJ X scope K (iI ts ix X.N) j.heap.objs.size j D fp) [] (bP ts.length ix σ) D { j with heap:=E,toks:=tk }:=by
 have own:∀ b o,j.heap.get? b=some o->∀ c,j.heap.objs.size<c->c≠b:=λb o e c h z=>Nat.lt_irrefl _ (Nat.lt_trans h (z▸Heap.lt_size e))
 refine⟨⟨I.ok.mod,S.kind,I.ok.glob,I.ok.blt,le_refl _,s.inj,λx hx=>?_,(λx c a e=>Nat.le_of_lt (s.own x c (eq_of_beq a) e)),I.ok.hd,I.ok.frames,.inl rfl,λb y=>⟨?_,λx c e=>?_⟩,I.bs,Nat.le_trans I.ok.Nt I.sz,λb o e y=>?_,λb y z=>?_,I.stack,I.LM⟩,
  rfl,I.bare,Un.kept k,⟨m,hn,λi x v e1 Z e3=>?_⟩,λx c e=>?_,I.fresh,λx c e=>?_,λp R=>absurd (show p∈([]:GX) from R) (by simp),I.Hq.kept k,?_⟩
 ·rcases hx with z |z
  ·exact s.has x (d8 z (.inl rfl))
  exact s.has x (d8 z (.inr rfl))
 ·obtain⟨o,A⟩:=H b y;exact ne_of_lt (Heap.lt_size A)
 ·rcases s.out x c e with q |q
  ·exact(f b y).2.2.2.2.1 x c q
  obtain⟨o,A⟩:=H b y;exact own b o A c q.1
 ·obtain⟨f0,_,_,O,_⟩:=f b y;rcases O with z |z
  ·exact I.ok.MR b o e z
  exact absurd (lt_of_lt_of_le (Heap.lt_size e) (Nat.le_trans I.ok.Nt z)) (Nat.lt_irrefl _)
 ·obtain⟨f0,f1,U,O,_⟩:=f b y;rcases mem_cons.mp (I.KP b z) with e |e
  ·exact f1 e
  exact U e
 ·-- a captured name
  have d:(bP ts.length ix σ)[i]?=some (some v):=Z;have n:(iI ts ix X.N)[i]?=some x:=e1;unfold bP at d;unfold iI at n;by_cases C:i<ts.length
  ·rw[getElem?_append_left (by simpa using C),getElem?_replicate] at d;rw[if_pos C] at d;cases d
  rw[getElem?_append_right (by simpa using C)] at d;rw[getElem?_append_right (by simpa using C)] at n;rw[length_replicate] at d;rw[getElem?_map] at d n;cases et:ix[i-ts.length]? with
  |none=>rw[et] at d;cases d
  |some t =>
   rw[et] at d n;simp only[map_some,Option.some.injEq] at d n
   have L : σ[t]?=some (some v):=by
    cases q : σ[t]? with
    |none=>rw[q] at d;cases d
    |some w=>rw[q] at d;simp only[getD_some] at d;rw[d]
   have P:t<X.N.length:=by rw[← I.len];exact(List.getElem?_eq_some_iff.mp L).1
   have Y:X.N[t]?=some x:=by rw[getD_eq_getElem?_getD,List.getElem?_eq_getElem P] at n;rw[List.getElem?_eq_getElem P];simp only[getD_some] at n;rw[n]
   have F:scope.names.lookup x=some .free:=by have:=K0 t (mem_of_getElem? et);rwa [n] at this
   have Q:=lookup_mem F;have g:=S.frees _ Q rfl;obtain⟨m0,_,V⟩:=I.loc
   obtain⟨u,r,l⟩:=V t x v Y L (by
    rcases g with z |z
    ·exact .inr (.inl z)
    exact .inr (.inr z))
   refine⟨u,r,.inr ⟨dJ F,?_⟩⟩;obtain⟨c,J⟩:=s.has x (.inl Q);have W:=s.frees x c F J;rcases l with ⟨T,_⟩ |⟨_,c',M,cell⟩
   ·have G:X.env.kindOf x=some .local:=T;rcases g with z |z
    ·have B:X.env.kindOf x=some .cell:=z;rw[G] at B;cases B
    have B:X.env.kindOf x=some .free:=z;rw[G] at B;cases B
   rw[W] at M;cases M;exact⟨c,J,cell.keeps k⟩
 ·rcases s.out x c e with q |q
  ·obtain⟨v,o,A,hd⟩:=I.cell x c q;exact⟨v,o,k c o A,hd⟩
  exact⟨_,q.2⟩
 ·rcases s.out x c e with q |q
  ·exact I.IU x c q
  exact I.Hq.fresh (Nat.le_of_lt q.1)
 show (bP ts.length ix σ).length=(iI ts ix X.N).length;unfold bP iI;simp
theorem Inv.leave {scope:Scope}{t:List (Str×Addr)}{A:List Str}{p:St}{fp:List Addr}{g s':Shared}{h':Heap}{i H':Hp}{B:GX}(I:Inv X pins σ i g)(f:∀ b∈fp,hZ X pins i b)
  (h:Inv (kJ X scope t A g.heap.objs.size g i fp) B p H' s') (k:∀ b,b≠g.heap.objs.size->h'.get? b=s'.heap.get? b):Inv X pins σ H' { s' with heap:=h' }:=by
 have un:Un (L9 X.stack) fp i H' g.heap s'.heap:=h.base;have m:∀ b o,g.heap.get? b=some o->b≠g.heap.objs.size:=λb o e=>ne_of_lt (Heap.lt_size e)
 have s:Un (L9 X.stack) fp i H' g.heap h':=by
  refine⟨λb o e n l j=>?_,λb o e n l j=>?_,un.free,λb o e j=>?_,un.KN,un.Km,un.KO⟩
  ·rw[k b (m b o e)];exact un.keep b o e n l j
  ·rw[k b (m b o e)];exact un.slot b o e n l j
  rw[k b (m b o e)];exact un.there b o e j
 have Hq:IY X.prog X.w H' h':=λb u e=>by
  have y:H' g.heap.objs.size=none:=h.free;have ne:∀ c v,H' c=some v->c≠g.heap.objs.size:=λc v q z=>by rw[z,y] at q;cases q
  refine(h.Hq b u e).JP (λc v r q=>?_) (λ_ q=>q) λ_ _ q=>q;rw[k c]
  ·exact q
  rcases r with z |z
  ·rw[z];exact ne b u e
  exact ne c _ z
 have os:s'.os=g.os:=h.os;exact I.PX (s':={ s' with heap:=h' }) os s Hq h.bare λb l=>let ⟨_,a,_,x,c,d⟩:=f b l;⟨x,a,c,d⟩
end
section
variable {prog:Program}{w:World}{A:Around}{R:Result->Shared->Prop}{s:Shared}
theorem qM {elt target iter:Expr}{ifs:List Expr}{scope:Scope}{pos:Pos}{it l:Value}{env:Env}(I:Nat->Shared->Prop)
  (u:∀ n s,I n s->wpAny (model prog w) A (pyNext it) (λr d=>match r with
   |none=>R (.ok .next) d
   |some v=>wpAny (model prog w) A (letOwnedTupleGo target it v) (λ_ z=>wpAny (model prog w) A (assign target env v) (λ_ e =>
     wpAny (model prog w) A (forIn ifs true λc r=>if r=true then do let ok ← isTrue c env (eval c env);pure (ForInStep.yield ok) else pure (ForInStep.yield r)) (λok b =>
      if ok=true then wpAny (model prog w) A (eval elt env) (λx g =>
       wpAny (model prog w) A (call (.builtin "list.append") [l,x]) (λ_ j => ∃ m,m<n/\I m j) (λ_ _=>False) g) (λ_ _=>False) b
      else ∃ m,m<n/\I m b) (λ_ _=>False) e) (λ_ _=>False) z) (λ_ _=>False) d) (λ_ _=>False) s)
  (n:Nat) (h:I n s):codeAny (model prog w) A (.compLoop (.ListComp elt [⟨target,iter,ifs,0⟩] scope pos) 0 it l env) R s:=by
 have no:∀ {α:Type}{t:Sem α}{Q : α->Shared->Prop}{E:GW}{s:Shared},wpAny (model prog w) A t Q (λ_ _=>False) s->wpAny (model prog w) A t Q E s:=λh=>wpAny_mono h (λ_ _ q=>q) λ_ _ f=>f.elim;refine codeAny_loop rfl I (λn s B=>?_) n h;show wpAny _ A ((compTurn (.ListComp elt [⟨target,iter,ifs,0⟩] scope pos) 0 it l env).onRaise (λx=>do noteFrame x env;theTreesLotGoes x)) _ _ s;refine wpAny_noted ?_;rw[compTurn_list];refine wpAny_bind (wpAny_standAt (wpAny_bind (wpAny_mono (no (u n s B)) (λr d i=>?_) λ_ _ a=>a)));cases r with
 |none=>exact wpAny_pure i
 |some v =>
  refine wpAny_bind (wpAny_mono (no i) (λ_ z C=>?_) λ_ _ a=>a);refine wpAny_bind (wpAny_mono (no C) (λ_ e y=>wpAny_bind (wpAny_mono (no y) (λok b k=>?_) λ_ _ a=>a)) λ_ _ a=>a);cases ok with
  |false=>exact wpAny_pure ⟨rfl,k⟩
  |true =>
   exact wpAny_bind (wpAny_bind (wpAny_mono (no k) (λx g p=>wpAny_bind (wpAny_mono (no p) (λ_ j o=>wpAny_pure (wpAny_pure ⟨rfl,o⟩)) λ_ _ a=>a)) λ_ _ a=>a))
end
section
variable {X:Cx}{pins:GX}{σ:St}{H:Hp}{s:Shared}{D₀:Addr}
theorem Inv.adopt {ys:List V}{its:List Value}{n:Nat}(I:Inv X pins σ H s)(f:hZ X pins H D₀)(e:s.heap.get? D₀=some { cls:=.type "list",data:=.seq its.toArray n })(r:Vals ys its)(hz:ys.length<=sizeLine):Inv X pins σ (upd H D₀ (.lst ys)) s:=by
 obtain⟨m,i,p,h,j,l⟩:=f;have ne:∀ b o,H b=some o->b≠D₀:=λb o q=>aJ q m
 have q:=I.step (h':=s.heap) (H':=upd H D₀ (.lst ys)) (g':=s.gens) (d':=s.drawn) (t':=s.toks) (ch:=[D₀]) (λb a=>by
   have:b=D₀:=by simpa using a
   subst this
   exact⟨h,i,j,l⟩)
  (λb o _ _ _ e _=>e) (λb o _ _ _ e _=>⟨o.slots,e⟩) (λb o a _ g=>by rw[aF (λz=>a (by simp[z]))];exact g) (λb o _ e=>⟨o,e⟩)
  (λb d q=>by rw[aF (ne b _ q)];exact q) (λb o d q=>by rw[aF (ne b _ q)];exact q) (λb t q=>⟨#[],by rw[aF (ne b _ q),q];simp⟩) (λ_ k=>k) (λb u q=>?_) I.bare
 ·exact q
 by_cases a:b=D₀
 ·subst a;rw[G_] at q;cases q;exact⟨hz,its,n,r,e⟩
 rw[aF a] at q;exact(I.Hq b u q).JP (λc v _ z=>z) (λc z=>by rw[aF (ne c _ z)];exact z) λc d z=>by rw[aF (ne c _ z)];exact z
end
def Qp (X:Cx)(W:WT)(ifs:List Expr)(g:GU Bool):Prop:=
 ∀ (a:GX) (s:Shared) (b:St) (H:Hp) (Q:Bool->Hp->Prop),Inv X a b H s->tT X W g b H Q ->
  wpAny (model X.prog X.w) X.A (forIn ifs true λc r=>if r=true then do let ok ← isTrue c X.env (eval c X.env);pure (ForInStep.yield ok) else pure (ForInStep.yield r)) (TP X a b Q) X.xe s
def cU:GU Bool:=λ_ S=>G9 true S
theorem dH {X:Cx}{W:WT}:Qp X W [] cU:=by intro a s b H Q I h;rw[forIn_nil];exact wpAny_pure ⟨H,I,lZ h⟩
theorem cH {X:Cx}{W:WT}{c:Expr}{g:GU Bool}(d:Ky X W c g):Qp X W [c] g:=by intro a s e H Q I h;rw[forIn_cons];simp only[if_true,forIn_nil];refine wpAny_bind (wpAny_bind (Hk (d a s e H Q I h) λb f q=>wpAny_pure ?_));exact wpAny_pure q
noncomputable def OP {α:Type}(m:Out α):Option (α×G0):=match m with
 |some (.ok a,S)=>some (a,S)
 |_=>none
def bD (u:D->G1->Option G1)(gt:GU Bool)(fe:GU D):List D->G1->G0->Option (List D×G0)
 |[],_,S=>some ([],S)
 |d::ds,ρ,S=>(u d ρ).bind λa=>(OP (gt a S)).bind λ(k,b) =>
  if k=true then (OP (fe a b)).bind λ(y,c)=>(bD u gt fe ds a c).map λ(e,f)=>(y::e,f)
  else bD u gt fe ds a b
def bA (n:Nat)(ix:List Nat)(fi:GU (List D))(u:D->G1->Option G1)(gt:GU Bool)(fe:GU D):GU D:=λa S=>ai (fi a S) λc b =>
 match bD u gt fe c (bP n ix a) b with
 |some (out,S2)=>G9 (.lst out) S2
 |none=>none
abbrev W0:WT:=λ_ _ _ _=>False
section
variable {X:Cx}{W:WT}
structure CompEnd (X:Cx) (pins:GX) (σ:St) (J0:List Addr) (H0:Hp) (S2:G0) (out:List D) (a C:Addr) (s':Shared):Prop where
 ns:∃ m,s'.heap.Ns C m
 own:X.s₀.heap.objs.size<=C/\C≠X.env.locals/\(∀ x c,X.env.cells.lookup x=some c->c≠C)/\∀ p∈X.pn++pins,p.1≠C
 fin:∀ h',(∀ b,b≠C->h'.get? b=s'.heap.get? b)->∃ J' H1 ys,Inv X pins σ (upd H1 a (.lst ys)) { s' with heap:=h' }/\Ex J0 H0 J' H1/\Hr X.K J' S2 H1/\G5 X.K H1 J' out ys/\H1 a=none/\ys.length<=sizeLine/\upd H1 a (.lst ys) C=none
theorem CompEnd.Qq {c:GX}{f:St}{h:List Addr}{g:Hp}{S2:G0}{out:List D}{a C:Addr}{s':Shared}(l:CompEnd X c f h g S2 out a C s')(h':Heap)(k:∀ b,b≠C->h'.get? b=s'.heap.get? b) :
  ∃ d H',Inv X c f H' { s' with heap:=h' }/\Ex h g d H'/\Hr X.K d S2 H'/\At X.K H' d (.lst out) (.ref a)/\H' C=none:=by
 obtain⟨d,p,o,i,j,st,ad,e,n,m⟩:=l.fin h' k;exact⟨d,_,i,j.trans (Ex.same (aM e _)),st.same (aM e _),At.I0 ad e st.all n,m⟩
def vI (X':Cx)(m:Nat->Heap->Prop)(fp:List Addr)(a:Addr)(u:D->G1->Option G1)(gt:GU Bool)(fe:GU D)(ds out:List D)(k:List Addr)(l:Hp)(S2:G0)(n:Nat)(s':Shared):Prop:=
 ∃ (i:Nat) (d:St) (e:Hp) (f:List Addr) (c:G1) (j:G0) (dn rest:List D) (h:List V) (g:List Value) (ep:Nat),
  n=ds.length-i+1/\i<=ds.length/\Inv X' [] d e s'/\m i s'.heap/\(∀ b∈a::fp,e b=none)/\Ex k l f e/\Cf X' f c j d e /\
  s'.heap.get? a=some { cls:=.type "list",data:=.seq g.toArray ep }/\Vals h g/\G5 X'.K e f dn h/\dn.length<=i/\bD u gt fe (ds.drop i) c j=some (rest,S2)/\out=dn++rest
theorem yg {X':Cx}{tg elt:Expr}{ifs:List Expr}{u:D->G1->Option G1}{gt:GU Bool}{fe:GU D}{it a:Addr}{fp:List Addr}{tn:Nat->Heap->Prop}{Jt:It}{ds out:List D}{W:List Addr}{Y:Hp}{S2:G0}{R:Result->Shared->Prop}
  (hx:X'.xe=λ_ _=>False) (hc:X'.calm=true) (sg:SG X' tg u) (st:Qp X' W0 ifs gt) (se:SE X' W0 elt fe) (T:Turn X'.prog X'.w X'.K tg Jt fp it tn) (wk:Walk X' Jt ds W Y) (na:a∉fp) (hz:ds.length<=sizeLine)
  (fin:∀ (IB:GX) (H':Hp) (b:Addr),b∈a::fp->H' b=none->(∀ p∈IB,p.1≠b)->hZ X' IB H' b)
  (SV:∀ (s':Shared) (j:St) (H':Hp) (B:List Addr) (H:G1) (ys:List V) (us:List Value) (ep:Nat),Inv X' [] j H' s'->Ex W Y B H'->Cf X' B H S2 j H'->H' a=none->s'.heap.get? a=some { cls:=.type "list",data:=.seq us.toArray ep }->Vals ys us->G5 X'.K H' B out ys->ys.length<=sizeLine->R (.ok .next) s') :
  ∀ n s,vI X' tn fp a u gt fe ds out W Y S2 n s->wpAny (model X'.prog X'.w) X'.A (pyNext (.ref it)) (λr O=>match r with
   |none=>R (.ok .next) O
   |some v=>wpAny (model X'.prog X'.w) X'.A (letOwnedTupleGo tg (.ref it) v) (λ_ LV=>wpAny (model X'.prog X'.w) X'.A (assign tg X'.env v) (λ_ s₂ =>
     wpAny (model X'.prog X'.w) X'.A (forIn ifs true λc r=>if r=true then do let ok ← isTrue c X'.env (eval c X'.env);pure (ForInStep.yield ok) else pure (ForInStep.yield r)) (λok P =>
      if ok=true then wpAny (model X'.prog X'.w) X'.A (eval elt X'.env) (λx s₄ =>
       wpAny (model X'.prog X'.w) X'.A (call (.builtin "list.append") [.ref a,x]) (λ_ s₅ => ∃ m,m<n/\vI X' tn fp a u gt fe ds out W Y S2 m s₅) (λ_ _=>False) s₄) (λ_ _=>False) P
      else ∃ m,m<n/\vI X' tn fp a u gt fe ds out W Y S2 m P) (λ_ _=>False) s₂) (λ_ _=>False) LV) (λ_ _=>False) O) (λ_ _=>False) s:=by
 rintro n s ⟨i,j,H',B,H,Sx,dn,rest,ys,us,ep,hn,hi,I',UH,fr,ex,cx,ga,vs,ad,dl,l,eo⟩;have fa:=fin [] H' a (mem_cons_self ..) (fr a (mem_cons_self ..)) (λp G=>by simp at G)
 have I1:Inv X' [(a,{ cls:=.type "list",data:=.seq us.toArray ep })] j H' s:=I'.Jf λp G=>by
  have:p=(a,{ cls:=.type "list",data:=.seq us.toArray ep }):=by simpa using G
  subst this;exact⟨ga,fa.1,fa.2.1,fa.2.2.1,λv z=>by cases z⟩
 have SX:∀ H1:Hp,(∀ b∈fp,H1 b=none)->∀ b∈fp,hZ X' [(a,{ cls:=.type "list",data:=.seq us.toArray ep })] H1 b:=λH1 hn b hb=>fin _ H1 b (mem_cons_of_mem _ hb) (hn b hb) λp G=>by
  have:p=(a,{ cls:=.type "list",data:=.seq us.toArray ep }):=by simpa using G
  subst this;intro z;have z':a=b:=z;exact na (z'▸hb)
 by_cases Il:i<ds.length
 ·refine Hk (T.item X' rfl rfl rfl hc i _ s j H' (λ_ _=>False) I1 (SX H' λb hb=>fr b (mem_cons_of_mem _ hb)) UH (wk.go B H' i ex Il)) λr s1 E=>?_;obtain⟨v,er,h1⟩:=E;subst er;refine Hk h1 λ_ s5 E=>?_;obtain⟨x,X,I5,r5,y5,SY,So⟩:=E;obtain⟨d,ed,Wc,sm⟩:=wk.Lu B H' i x X ex cx.Hu.all Il y5;have x5:Ex B H' B X:=Ex.same sm;have c5:Cf X' B H Sx j X:=cx.re x5 (cx.Hu.same sm);have hd:ds.drop i=d::ds.drop (i+1):=by rw[drop_eq_getElem_cons Il];rw[List.getElem?_eq_getElem Il] at ed;cases ed;rfl
  rw[hd,bD] at l;obtain⟨h,eu,l⟩:=bind_eq_some_iff.mp l;obtain⟨⟨k,U⟩,eg,l⟩:=bind_eq_some_iff.mp l
  have We:gt h Sx=some (.ok k,U):=by
   unfold OP at eg;split at eg
   ·rename_i q;cases eg;exact q
   cases eg
  have Sr:=I5.pinned (SX X So) (T.obj _ _ SY)
  have keep:∀ {f:St}{C:Hp}{I:Shared},Inv X' ([(a,{ cls:=.type "list",data:=.seq us.toArray ep })]++kn fp s5.heap) f C I->tn (i+1) I.heap/\(∀ b∈a::fp,C b=none)/\I.heap.get? a=some { cls:=.type "list",data:=.seq us.toArray ep }:=λ{f C I} Q=>by
   have pa:=Q.pin (a,{ cls:=.type "list",data:=.seq us.toArray ep }) (mem_append_right _ (mem_append_left _ (by simp)));refine⟨T.keep _ _ _ SY λb hb o e=>(Q.pin (b,o) (mem_append_right _ (mem_append_right _ (fO hb e)))).1,λb hb=>?_,pa.1⟩;rcases mem_cons.mp hb with rfl |hb
   ·exact pa.2.1
   obtain⟨o,e,_⟩:=T.obj _ _ SY b hb;exact(Q.pin (b,o) (mem_append_right _ (mem_append_right _ (fO hb e)))).2.1
  have UI:∀ {f:St}{C:Hp}{I:Shared},Inv X' ([(a,{ cls:=.type "list",data:=.seq us.toArray ep })]++kn fp s5.heap) f C I->Inv X' [] f C I:=λ{f C I} Q=>Q.Jf λp G=>absurd G (by simp);have g:=sg _ s5 j X x v (λf C=>C=X/\Cf X' B h Sx f C) Sr r5 ⟨B,H,Sx,d,h,c5,Wc,eu,λf c6=>⟨rfl,c6⟩⟩;rw[hx] at g;refine Hk g λ_ I E=>?_;obtain⟨f,C,Q,eH,c6⟩:=E;subst eH
  have t:=st _ I f C (λb L=>b=k/\∃ J,Ex B C J L/\Cf X' J h U f L) Q ⟨B,h,Sx,.ok k,U,c6,.nil,We,λJ L b Z s7 eb=>by
   cases eb
   exact⟨rfl,J,Z,c6.re Z s7⟩⟩
  rw[hx] at t;refine Hk t λb s7 E=>?_;obtain⟨L,I7,eb,J,Z,c7⟩:=E;subst eb;have UJ:Ex W Y J L:=ex.trans (x5.trans Z);have UK:G5 X'.K L J dn ys:=(ad.ex x5).ex Z;cases b with
  |false =>
   rw[if_neg (by decide)];simp only[false_eq_true,if_false] at l;obtain⟨t8,RK,g8⟩:=keep I7;exact⟨ds.length-(i+1)+1,by omega,i+1,f,L,J,h,U,dn,rest,ys,us,ep,rfl,by omega,UI I7,t8,RK,UJ,c7,g8,vs,UK,by omega,l,eo⟩
  |true =>
   rw[if_pos rfl];simp only[if_true] at l;obtain⟨⟨y,Sy⟩,ey,l⟩:=bind_eq_some_iff.mp l;obtain⟨⟨ry,S3⟩,ey2,l⟩:=map_eq_some_iff.mp l
   have Wg:fe h U=some (.ok y,Sy):=by
    unfold OP at ey;split at ey
    ·rename_i q;cases ey;exact q
    cases ey
   simp only[Prod.mk.injEq] at l;obtain⟨er,es⟩:=l;subst es er;have t:=se _ s7 f L (λw M => ∃ N,Ex J L N M/\Cf X' N h Sy f M/\At X'.K M N y w) I7 ⟨J,h,U,.ok y,Sy,c7,.nil,Wg,λN M w x8 S aw=>⟨N,x8,c7.re x8 S,aw⟩⟩;rw[hx] at t;refine Hk t λw S E=>?_;obtain⟨vw,M,I8,Wh,N,x8,c8,aw⟩:=E;obtain⟨t8,RK,g8⟩:=keep I8;have UL:G5 X'.K M N dn ys:=UK.ex x8;have l1:=UL.length;have l2:=vs.length;refine call_meets F.slot_list_append ⟨_,g8,rfl⟩ F.entry_list_append (F.args_list_append_2 _ _) (PySem.list_append a us.toArray ep w (by rw[size_toArray];omega)) ⟨g8,?_⟩;have S6:=PySem.IsL.update g8 (·.push w);have Qr:=fin [] M a (mem_cons_self ..) (RK a (mem_cons_self ..)) (λp G=>by simp at G);have I9:Inv X' [] f M { S with heap:=S.heap.update a (Obj.mapSeq (·.push w)),toks:=S.toks }:=(UI I8).turned (it:=a) (λb o hb e=>(Heap.get?_update_other S.heap (Obj.mapSeq (·.push w)) (Ne.symm hb)).trans e) Qr.1 Qr.2.1 Qr.2.2.2.1 Qr.2.2.2.2.1 Qr.2.2.2.2.2;refine⟨ds.length-(i+1)+1,by omega,i+1,f,M,N,h,Sy,dn++[y],ry,ys++[vw],us++[w],_,rfl,by omega,I9,?_,RK,UJ.trans x8,c8,by simpa using S6,vs.append (.cons Wh .nil),UL.append (.cons aw .nil),by rw[List.length_append,length_singleton];omega,ey2,by rw[eo];simp⟩;exact T.keep _ _ _ t8 λb hb o e=>(Heap.get?_update_other S.heap (Obj.mapSeq (·.push w)) (λz:a=b=>na (by rw[z];exact hb))).trans e
 refine Hk (T.done X' rfl rfl rfl hc i _ s j H' (λ_ _=>False) I1 (SX H' λb hb=>fr b (mem_cons_of_mem _ hb)) UH (wk.stop B H' i ex (by omega))) λr s1 E=>?_;obtain⟨er,J1⟩:=E;subst er;rw[drop_eq_nil_of_le (by omega),bD] at l;cases l;rw[append_nil] at eo;subst eo;have l1:=ad.length;have pa:=J1.pin (a,{ cls:=.type "list",data:=.seq us.toArray ep }) (mem_append_right _ (by simp));exact SV s1 j H' B H ys us ep (J1.Jf λp G=>absurd G (by simp)) ex cx pa.2.1 pa.1 vs ad (by omega)
theorem kK {U iter elt:Expr}{ifs:List Expr}{scope:Scope}{pos:Pos}{u:D->G1->Option G1}{gt:GU Bool}{fe:GU D}{ts:List Str}{ix:List Nat}{n:List (Str×Addr)}
  {g:GX}{s:St}{l:Shared}{E:GW}{it:Addr}{fp:List Addr}{tn:Nat->Heap->Prop}{Jt:It}{j:Hp}{F:List Addr}{ρ:G1}{S S2:G0}{ds out:List D}{Y:Value->Addr->Result->Shared->Prop}
  (hc:X.calm=true) (Sc:Ik scope X.env) (h1:∀ x c,n.lookup x=some c->X.env.cells.lookup x=some c) (h2:∀ y∈scope.names,y.2 = .free->∃ c,n.lookup y.1=some c) (K0:∀ t∈ix,scope.names.lookup (X.N.getD t Str.empty)=some .free)
  (MG:∀ n C f H3 fp,SG (kJ X scope n (iI ts ix X.N) C f H3 fp) U u/\Qp (kJ X scope n (iI ts ix X.N) C f H3 fp) W0 ifs gt/\SE (kJ X scope n (iI ts ix X.N) C f H3 fp) W0 elt fe)
  (I2:Inv X g s j l) (T:Turn X.prog X.w X.K U Jt fp it tn) (t0:tn 0 l.heap) (f2:∀ b∈fp,hZ X g j b) (c2:Cf X F ρ S s j) (Q:Walk X Jt ds F j)
  (ec:bD u gt fe ds (bP ts.length ix ρ) S=some (out,S2))
  (Wi:∀ a C s',CompEnd X g s F j S2 out a C s'->Y (.ref a) C (.ok .next) s') :
  wpAny (model X.prog X.w) X.A (newList []) (λG P=>wpAny (model X.prog X.w) X.A (newFunctionEnv scope X.env.globals n [] X.env.qual none .none (some X.env)) (λQs J =>
   codeAny (model X.prog X.w) X.A (.compStart (.ListComp elt [⟨U,iter,ifs,0⟩] scope pos) 0 (.ref it) G { Qs with scope:=relabel scope X.env }) (Y G Qs.locals) J) E P) E l:=by
 refine wpAny_newObj_type (n3 ?_);dsimp only;generalize I:l.heap.objs.size=a at *
 have W:∀ b o,l.heap.get? b=some o->(l.heap.push { cls:=.type "list",dict:=none,data:=.seq ([]:List Value).toArray }).get? b=some o:=λb o e=>Heap.get?_push_of_some _ e;obtain⟨f,S7⟩:∃ f:Shared,f={ l with heap:=l.heap.push { cls:=.type "list",dict:=none,data:=.seq ([]:List Value).toArray } }:=⟨_,rfl⟩;have r:Inv X g s j f:=by rw[S7];exact I2.kept (t':=l.toks) W
 have B:f.heap=l.heap.push { cls:=.type "list",dict:=none,data:=.seq ([]:List Value).toArray }:=by rw[S7]
 have RL:f.heap.objs.size=a+1:=by rw[B,Heap.size_push,I]
 rw[← B];have ic:=JN.of (o:={ cls:=.type "dict",data:=.dict #[] }) r Sc h1 h2;have Wj:(pushCells (f.heap.push { cls:=.type "dict",data:=.dict #[] }) scope.names).Ns f.heap.objs.size (λ_=>none):=(Heap.Ns.new f.heap (.type "dict")).keeps (pushCells_keeps _ _);have V:∀ b o,f.heap.get? b=some o->(pushCells (f.heap.push { cls:=.type "dict",data:=.dict #[] }) scope.names).get? b=some o:=λb o e=>pushCells_keeps _ _ b o (Heap.get?_push_of_some _ e);generalize Wm:cellsFrom (f.heap.objs.size+1) scope.names n=cl' at *
 generalize Yk:pushCells (f.heap.push { cls:=.type "dict",data:=.dict #[] }) scope.names=O at *
 have a3:f.heap.get? a=some { cls:=.type "list",data:=.seq ([]:List Value).toArray }:=by rw[B,← I];exact Heap.get?_push_size _ rfl
 have fa:hZ X g j a:=I2.JH (by rw[I];exact le_refl _) (by rw[← I];exact I2.fresh);have Qt:∀ b∈fp,∃ o,l.heap.get? b=some o:=λb hb=>let ⟨o,e,_⟩:=T.obj 0 _ t0 b hb;⟨o,e⟩;have na:a∉fp:=λhb=>by obtain⟨o,e⟩:=Qt a hb;have:=Heap.lt_size e;rw[I] at this;exact absurd this (Nat.lt_irrefl _)
 have M:∀ b∈a::fp,hZ X g j b:=λb hb=>by
  rcases mem_cons.mp hb with rfl |hb
  ·exact fa
  exact f2 b hb
 have fo:∀ b∈a::fp,∃ o,f.heap.get? b=some o:=λb hb=>by
  rcases mem_cons.mp hb with rfl |hb
  ·exact⟨_,a3⟩
  obtain⟨o,e⟩:=Qt b hb;exact⟨o,by rw[B];exact W b o e⟩
 have toks:∀ t,Inv (kJ X scope cl' (iI ts ix X.N) f.heap.objs.size f j (a::fp)) [] (bP ts.length ix s) j { f with heap:=O,toks:=t }:=λt=>r.enter Sc ic K0 M fo V Wj;obtain⟨sg,st,se⟩:=MG cl' f.heap.objs.size f j (a::fp)
 have fin:∀ (Z:GX) (H':Hp) (b:Addr),b∈a::fp->H' b=none->(∀ p∈Z,p.1≠b)->hZ (kJ X scope cl' (iI ts ix X.N) f.heap.objs.size f j (a::fp)) Z H' b:=λZ H' b hb hn hp=>by
  refine⟨hn,?_,λz=>?_,.inl hb,λx c e=>?_,λp hq=>hp p hq⟩
  ·obtain⟨o,e⟩:=fo b hb;exact ne_of_lt (Heap.lt_size e)
  ·obtain⟨_,f1,Wn,_⟩:=M b hb;rcases mem_cons.mp (r.KP b z) with q |q
   ·exact f1 q
   exact Wn q
  rcases ic.out x c e with q |q
  ·exact(M b hb).2.2.2.2.1 x c q
  obtain⟨o,ho⟩:=fo b hb;intro z;exact Nat.lt_irrefl _ (Nat.lt_trans q.1 (z▸Heap.lt_size ho))
 have own:X.s₀.heap.objs.size<=f.heap.objs.size/\f.heap.objs.size≠X.env.locals/\(∀ x c,X.env.cells.lookup x=some c->c≠f.heap.objs.size)/\∀ p∈X.pn++g,p.1≠f.heap.objs.size:=by obtain⟨_,g1,g2,g3,g4,g5⟩:=r.JH (H':=λ_=>none) (le_refl f.heap.objs.size) rfl;exact⟨r.sz,g1,g4,g5⟩
 have c3:Cf (kJ X scope cl' (iI ts ix X.N) f.heap.objs.size f j (a::fp)) F (bP ts.length ix ρ) S (bP ts.length ix s) j:=by
  refine⟨by unfold bP;simp,λi d h=>?_,c2.Hu⟩;unfold bP at h ⊢;by_cases hi:i<ts.length
  ·rw[getElem?_append_left (by simpa using hi),getElem?_replicate,if_pos hi] at h;cases h
  rw[getElem?_append_right (by simpa using hi),length_replicate,getElem?_map] at h ⊢;cases et:ix[i-ts.length]? with
  |none=>rw[et] at h;cases h
  |some t =>
   rw[et] at h;simp only[map_some,Option.some.injEq] at h ⊢
   have hr : ρ[t]?=some (some d):=by
    cases q : ρ[t]? with
    |none=>rw[q] at h;cases h
    |some w=>rw[q] at h;simp only[getD_some] at h;rw[h]
   obtain⟨v,e1,e2⟩:=c2.env t d hr;exact⟨v,by rw[e1];rfl,e2⟩
 have w3:Walk (kJ X scope cl' (iI ts ix X.N) f.heap.objs.size f j (a::fp)) Jt ds F j:=⟨Q.len,Q.go,Q.Lu,Q.stop⟩
 have H:∀ t,codeAny (model X.prog X.w) X.A (.compLoop (.ListComp elt [⟨U,iter,ifs,0⟩] scope pos) 0 (.ref it) (.ref a) (compEnvC scope cl' f.heap.objs.size X.env)) (Y (.ref a) f.heap.objs.size) { f with heap:=O,toks:=t }:=by
  intro t;refine qM _ (yg (R:=Y (.ref a) f.heap.objs.size) (S2:=S2) (out:=out) (X':=kJ X scope cl' (iI ts ix X.N) f.heap.objs.size f j (a::fp)) rfl hc sg st se T w3 na Q.len fin ?_) (ds.length+1) ?_
  ·intro s' σ' H' Jx ρx ys us ep I' ex cx ha ga vs ad lz;refine Wi a f.heap.objs.size s' ⟨let ⟨m,hm,_⟩:=I'.loc;⟨m,hm⟩,own,λh' k=>?_⟩;have I4:=r.leave M I' k;have S6:h'.get? a=some { cls:=.type "list",data:=.seq us.toArray ep }:=by rw[k a (by rw[RL];exact ne_of_lt (lt_succ_self _))];exact ga
   have Wo:hZ X g H' a:=⟨ha,fa.2⟩;have I5:=I4.adopt Wo S6 vs lz;have hC:H' f.heap.objs.size=none:=I'.free;refine⟨Jx,H',ys,I5,ex,cx.Hu,ad,ha,lz,?_⟩;rw[aF (by rw[RL];exact ne_of_gt (lt_succ_self _))];exact hC
  refine⟨0,_,j,F,bP ts.length ix ρ,S,[],out,[],[],0,rfl,zero_le _,toks t,?_,λb hb=>(M b hb).1,Ex.refl,c3,V a _ a3,.nil,.nil,le_refl _,by simpa using ec,rfl⟩;exact T.keep 0 _ _ t0 λb hb o e=>V b o (by rw[B];exact W b o e)
 have L:=H l.toks;have t4:tn 0 O:=T.keep 0 _ _ t0 λb hb o e=>V b o (by rw[B];exact W b o e);rw[show ({ f with heap:=O,toks:=l.toks }:Shared)={ l with heap:=O } by rw[S7]] at L;exact codeAny_compStart_list L (T.self _ 0 _ _ _ t4 L)
def D5 (X:Cx)(scope:Scope)(ts:List Str)(ix:List Nat)(d:Expr)(ifs:List Expr)(elt:Expr)(u:D->G1->Option G1)(gt:GU Bool)(fe:GU D):Prop:=
 ∀ (c:List (Str×Addr)) (C:Addr) (a:Shared) (b:Hp) (fp:List Addr),SG (kJ X scope c (iI ts ix X.N) C a b fp) d u/\Qp (kJ X scope c (iI ts ix X.N) C a b fp) W0 ifs gt/\SE (kJ X scope c (iI ts ix X.N) C a b fp) W0 elt fe
theorem je {scope:Scope}{b:GX}{d:St}{H:Hp}{s:Shared}(I:Inv X b d H s)(Sc:Ik scope X.env):∃ a,closureFor scope X.env=pure a/\(∀ x c,a.lookup x=some c->X.env.cells.lookup x=some c)/\(∀ y∈scope.names,y.2 = .free->∃ c,a.lookup y.1=some c):=by obtain⟨a,e,i,_,g⟩:=dD (env:=X.env) scope.names [] (λy f h=>I.ok.has y.1 (Sc.frees y f h)) (by simp);refine⟨a,?_,i,g⟩;unfold closureFor;exact(congrArg (λ(m:Sem (List (Str×Addr)))=>m >>= λr=>(pure r:Sem (List (Str×Addr)))) e).trans rfl
theorem pF {fi:GU (List D)}{u:D->G1->Option G1}{gt:GU Bool}{fe:GU D}{n:Nat}{ix:List Nat}{g:St}{H:Hp}{Q:VK}(h:tE X W (bA n ix fi u gt fe) g H Q) :
  iW X W fi g H λj f => ∃ d ρ a S2 ds out,Cf X d ρ a g f/\Walk X j ds d f/\bD u gt fe ds (bP n ix ρ) a=some (out,S2)/\∀ b H' v,Ex d f b H'->Hr X.K b S2 H'->At X.K H' b (.lst out) v->Q v H':=by
 obtain⟨J,ρ,S,r,y,c,_,e,z⟩:=h;unfold bA at e;cases q:fi ρ S with
 |none=>simp[q] at e
 |some o =>
  obtain⟨t,a⟩:=o;simp only[q] at e;cases t with
  |error x =>
   cases e;exact⟨J,ρ,S,.error x,_,c,q,z⟩
  |ok ds =>
   simp only[eD] at e;cases qc:bD u gt fe ds (bP n ix ρ) a with
   |none=>rw[qc] at e;cases e
   |some p =>
    obtain⟨out,S2⟩:=p;rw[qc] at e;cases e;exact⟨J,ρ,S,.ok ds,a,c,q,λd f j i s w=>⟨d,ρ,a,_,ds,out,c.re i s,w,qc,λb H' v l m k=>z b H' v (i.trans l) m k⟩⟩
theorem br {d iter elt:Expr}{ifs:List Expr}{scope:Scope}{pos:Pos}{fi:GU (List D)}{u:D->G1->Option G1}{gt:GU Bool}{fe:GU D}{ts:List Str}{ix:List Nat}
  (k:X.calm=true) (Sc:Ik scope X.env) (J:∀ t∈ix,scope.names.lookup (X.N.getD t Str.empty)=some .free) (hi:SI X W d iter fi) (y:D5 X scope ts ix d ifs elt u gt fe)
  (z:∀ x,foldedSetIterable iter X.env x=pure x:=by intro _;rfl):SE X W (.ListComp elt [⟨d,iter,ifs,0⟩] scope pos) (bA ts.length ix fi u gt fe):=by
 intro c s n H Q I h;obtain⟨V,K,O,p⟩:=je I Sc;rw[eval_ListComp];refine wpAny_comprehension_free (use:=none) rfl z K Sc.kind Sc.names ?_;refine Hk (hi c s n H _ I (pF h)) λv U F=>Hk F λPZ s2 M=>?_;obtain⟨it,fp,tn,Jt,H2,e,E,T,j,A,Y,S,S1,S2,Z,out,P,G,o,fin⟩:=M;subst e;refine kK k Sc O p J y E T j A P G o λa C g f=>?_;obtain⟨m,L⟩:=f.ns;refine⟨m,L,λl sb=>?_⟩;obtain⟨w,i,q,B,g,r,_⟩:=f.Qq l λb R=>sb.2 b R;exact⟨.ref a,i,q,rfl,fin w i _ B g r⟩
end
section
variable {X:Cx}{W:WT}
theorem uF {g iter elt:Expr}{ifs:List Expr}{scope:Scope}{pos r j:Pos}{fi:GU (List D)}{u:D->G1->Option G1}{gt:GU Bool}{fe:GU D}{ts:List Str}{ix:List Nat}{i:Nat}{y:Str}
  (hN:X.N.Nodup) (B:X.calm=true) (Sc:Ik scope X.env) (K0:∀ t∈ix,scope.names.lookup (X.N.getD t Str.empty)=some .free) (hi:SI X W g iter fi) (U:D5 X scope ts ix g ifs elt u gt fe)
  (G:X.N[i]?=some y:=by rfl) (K:Loc X.env.scope y:=by first |exact Or.inl rfl |exact Or.inr rfl) (S8:swapsWith (.ListComp elt [⟨g,iter,ifs,0⟩] scope pos) (some (.Name y j)) r.line X.env=pure true:=by rfl)
  (hf:X.fn y=true∨X.env.scope.names.lookup y=some .local:=by first |exact .inl rfl |exact .inr rfl |assumption)
  (V:∀ x,foldedSetIterable iter X.env x=pure x:=by intro _;rfl):SS X W (.Assign [.Name y j] (.ListComp elt [⟨g,iter,ifs,0⟩] scope pos) r) (bz i (bA ts.length ix fi u gt fe)):=by
 intro c s k H E I h;obtain⟨cl,MH,h1,R⟩:=je I Sc;have h:=tS.Ha h;rw[exec_Assign_Name_used _ _ _ _ S8];refine wpAny_bind (wpAny_standAt (wpAny_bind ?_));show wpAny _ X.A (do let _ ← comprehension (.ListComp elt [⟨g,iter,ifs,0⟩] scope pos) scope X.env _ (newList []) false (eval iter X.env) (some (assign (.Name y j) X.env))) _ _ s;refine wpAny_bind (wpAny_mono (wpAny_comprehension_free (use:=some (assign (.Name y j) X.env)) (Q:=λ_ d=>SP X c E .next d) rfl V MH Sc.kind Sc.names ?_) (λ_ d hq=>wpAny_pure (wpAny_pure hq)) λ_ _ e=>e);refine Hk (hi c s k H _ I (pF h)) λv s1 LW=>Hk LW λPZ s2 Mh=>?_;obtain⟨it,fp,tn,Jt,H2,e,Z,T,t0,f2,J0,ρ,S1,S2,ds,out,L,wk,ec,fin⟩:=Mh;subst e;refine kK B Sc h1 R K0 U Z T t0 f2 L wk ec λa C d l=>?_;obtain⟨m,O⟩:=l.ns;obtain⟨o1,o2,n,F⟩:=l.own;obtain⟨S,f,I',Y,G8,m',hC⟩:=l.Qq d.heap λ_ _=>rfl;have S9:Inv X c k f d:=I';have q:=fin S f _ Y G8 m';show wpAny _ X.A (assign (.Name y j) X.env (.ref a)) _ _ d;refine wpAny_assign_Name (ki S9 hN G K (v:=.ref a) rfl (λp w J=>?_) hf);obtain⟨ad,sb,hd⟩:=J
 have S_:C≠ad:=by
  rcases hd with z |z
  ·rw[z];exact o2
  exact(n y ad z).symm
 refine⟨m,O.sameBut sb S_,λP Ta=>?_⟩;have I4:Inv X c (k.set i (some (.ref a))) f { p with heap:=P }:=w.turned (t':=p.toks) (it:=C) (λb o M e=>(Ta.2 b M).trans e) hC o2 (.inr o1) n F;obtain⟨Jq,ρq,Sq,dq,rq,Wq,cq,mq,eq,zq⟩:=q;cases eq;exact⟨_,f,I4,zq Jq _ f Ex.refl (cq.set mq)⟩
def RM (K:GV)(F:GZ):Sp:=λf H Q _ => ∃ J S e d c,G5 K H J e f/\Hr K J S H/\F e S=some (.ok d,c)/\∀ b a v,Ex J H b a->Hr K b c a->At K a b d v->Q v a
def Nl (P:Program)(w:World)(K:GV)(mg:GY)(base:Heap)(k:Nat)(f:Addr)(fd:FuncData)(a:List Str)(F:GZ):Prop:=
 IE P w K mg base LR k f fd a (RM K F)
def iN (m:Out D):Out D:=match m with
 |some (.ok d,S)=>some (.ok d,S)
 |_=>none
def aN (F:GZ)(t:GU (List D)):GU D:=λa S=>ai (t a S) λc b=>iN (F c b)
variable {x:Str}{p pos:Pos}{e:Expr}{es:List Expr}{gs:GU (List D)}
theorem Ai {F:GZ}{a:St}{H:Hp}{Q:VK}{n:XK}(h:tE X W (aN F gs) a H Q):Ce (RM X.K F) [] n (tA X W gs) a H Q:=
 (tG.JX h).mono λt w k=>by
  obtain⟨f,u,b⟩:=k
  rw[append_nil,append_nil] at b;obtain⟨J,s,S,r,p,c,m,e,z⟩:=b;have e:iN (F f S)=some (r,p):=e;unfold iN at e;split at e
  ·rename_i d x q;cases e;exact⟨J,S,f,d,_,by rw[append_nil];exact m,c.Hu,q,λi o v j l g=>z i o v j l g⟩
  cases e
theorem Ba {k:Nat}{f:Addr}{fd:FuncData}{a:List Str}{F:GZ}(G:Nl X.prog X.w X.K X.mg X.base k f fd a F)(c:Hv k X.A)(n:X.mg x=some (.ref f))(l:PySem.W.keepIn X.K (.ref f)=true)(m:Binds X.K fd a [])
  (b:SA X W (e::es) gs) (j:Gl X x:=by rfl) (d:(x==("__debug__":Str))=false:=by decide) (i:starEach (e::es) X.env=(false,eval e X.env)::starEach es X.env:=by rfl) (g:(backTo pos (starEach es X.env)).any (·.1)=false:=by rfl) :
  SE X W (.Call (.Name x p) (e::es) [] pos) (aN F gs):=
 PE.imp (Bv (E:=E0) G c j n l m .nil zp b d i g) λo H Q h=>Ai h
theorem wC {P:Program}{w:World}{K:GV}{mg:GY}{base:Heap}{x qual:Str}{st:Stmt}{f:Addr}{fd:FuncData}{N j:List Str}{k:Nat}{F:GZ}(R:Lz K x qual st f fd)(S:G4 N j (ao st))
  (len:∀ ds S r,F ds S=some r->ds.length=j.length)
  (C:∀ (b:Value) (A:Around) (outer:List Env) (s:Shared) (H:Hp) (E:XK),Hv k (A.deeper (envOfC qual (ao st) s.heap.objs.size f b)) ->
   ∃ G:GU Fl,Mf (lR LR P w K mg base N qual (ao st) f b A outer s H E).Nh W0 (bx st) G /\
    ∀ ds S d a,F ds S=some (.ok d,a)->∃ r,G (ds.map some++replicate (N.length-ds.length) none) S=some (.ok r,a)/\(r = .ret d∨(d = .Ho/\∃ ρ,r = .next ρ))) :
  Nl P w K mg base (k+1) f fd j F:=by
 refine R.ok S (λu H Q E h=>?_) (λb A outer s H u Q E o h=>?_)
 ·obtain⟨J,St,ds,d,a,m,_,e,_⟩:=h;rw[← m.length];exact len ds St _ e
 obtain⟨J,St,ds,d,a,m,so,e,z⟩:=h;obtain⟨G,I,D⟩:=C b A outer s H E o;obtain⟨r,M,p⟩:=D ds St d a e;refine⟨_,I,J,_,St,.ok r,a,⟨?_,λi U hd=>?_,so⟩,M,?_⟩
 ·unfold start;rw[List.length_append,List.length_append,length_map,length_map,m.length];simp
 ·by_cases l:i<ds.length
  ·rw[getElem?_append_left (by simpa using l),getElem?_map] at hd;cases q:ds[i]? with
   |none=>rw[q] at hd;cases hd
   |some T =>
    rw[q] at hd;cases hd;obtain⟨v,ev,y⟩:=m.get q;refine⟨v,?_,y⟩;unfold start;rw[getElem?_append_left (by rw[length_map,← m.length];exact l),getElem?_map,ev];rfl
  rw[getElem?_append_right (by simpa using l),getElem?_replicate] at hd;split at hd<;>cases hd
 rcases p with rfl |⟨rfl,ρ,rfl⟩
 ·exact λc n v g B t=>z c n v g B t
 exact λc L n g O=>z c n _ g O.Hu (At.HK.mpr rfl)
end
section
variable {X:Cx}{W:WT}
def RN (x:Str):It:=⟨λi _=>i<x.cps.size,λi H v a=>a=H/\∃ c,x.cps[i]?=some c/\v = .str ⟨#[c]⟩,λi _=>x.cps.size<=i⟩
theorem rA {P:Program}{w:World}{K:GV}{R:Expr}{it:Addr}{x:Str}{St:Nat->Heap->Prop}
  (V:∀ (A:Around) (i:Nat) (s:Shared) (Q:GW) (E:GW),St i s.heap->Q (.ref it) s->wpAny (model P w) A (pyIter (.ref it)) Q E s) (D:∀ J:Around,J.handled=none->Walks P w J it [it] [it] x.cps.size (SignAt x) St) (M:∀ i h,St i h->∃ o n vs,h.get? it=some o/\o.cls = .type n/\o.data = .fields vs/\["enumerate","zip","dict_itemiterator","dict_reverseitemiterator","odict_iterator","itertools.zip_longest","itertools.pairwise"].contains n=false) :
  Turn P w K R (RN x) [it] it (λi h=>i<=x.cps.size/\St i h) where
 mem:=by simp
 obj:=λi h st b a=>by
  have e:b=it:=by simpa using a
  subst e;obtain⟨o,n,vs,e,_,d,_⟩:=M i h st.2;exact⟨o,e,λv z=>by rw[d] at z;cases z⟩
 keep:=λi h g st k=>⟨st.1,(D callerA rfl).frame i h g st.2 λb a o e=>k b a o e⟩
 item:=by
  intro X q r m p i f s G H E I j st l;subst q r m;obtain⟨C,y,O,t,B,F⟩:=j it (by simp);refine(D X.A (I.ok.hd p)).item i s _ _ l st.2 λv g tk S L k=>?_;obtain⟨c,u,N,ev⟩:=S;subst ev;have T:Inv X f G H { s with heap:=g,toks:=tk }:=I.turned (t':=tk) (λb o a e=>k b o (by simpa using a) e) C y t B F;obtain⟨o,n,vs,e,U,d,W⟩:=M _ _ L;exact⟨_,rfl,sS (s:={ s with heap:=g,toks:=tk }) e U d W ⟨.str ⟨#[c]⟩,H,T,⟨u,rfl⟩,⟨rfl,c,N,rfl⟩,⟨l,L⟩,λb a=>(j b a).1⟩⟩
 done:=by
  intro X q r m p i f s G H E I j st l;subst q r m;obtain⟨C,y,O,t,B,F⟩:=j it (by simp);have Y:i=x.cps.size:=Nat.le_antisymm st.1 l;subst Y;exact(D X.A (I.ok.hd p)).done s _ _ st.2 λg tk k=>⟨rfl,I.turned (t':=tk) (λb o a e=>k b o (by simpa using a) e) C y t B F⟩
 self:=λA i s Q E st h=>V A i s Q E st.2 h
theorem Walk.str {x:Str}{J:List Addr}{H:Hp}(ok:N2 x):Walk X (RN x) (x.cps.toList.map λc=>D.str ⟨#[c]⟩) J H where
 len:=by rw[length_map,length_toList];exact ok.1
 go:=λb e i _ a=>by rw[length_map,length_toList] at a;exact a
 Lu:=λb e i v h _ g a y=>by
  obtain⟨rfl,c,f,rfl⟩:=y;rw[length_map,length_toList] at a;have d:x.cps.toList[i]?=some c:=by simpa using f
  refine⟨.str ⟨#[c]⟩,by rw[getElem?_map,d];rfl,At.Hd.mpr ⟨rfl,by show 1<=sizeLine;decide,jv (l:=[c]) λj m=>?_⟩,Hb.refl _⟩;rw[mem_singleton.mp m];exact ij ok.2 (mem_of_getElem? d)
 stop:=λb e i _ a=>by rw[length_map,length_toList] at a;exact a
def CC:D->Option (List D)
 | .str x=>some (x.cps.toList.map λc=>D.str ⟨#[c]⟩)
 |_=>none
def Ap (f:GU D):GU (List D):=λa S=>ai (f a S) λd b=>aK (CC d) b
variable {e:Expr}{fe:GU D}{pos:Pos}
theorem CG {w:Expr}(C:SE X W e fe):SI X W w e (Ap fe):=by
 intro c s p H R I h;refine Hk (C c s p H _ I (qy h)) λv a B=>?_;obtain⟨y,f,g,u,J,S,d,G,so,m,n,z⟩:=B;cases d with
 |str x =>
  cases n;obtain⟨D,ok⟩:=At.Hd.mp m;subst D;obtain⟨t,rfl⟩:=u
  have fp:∀ b∈[a.heap.objs.size],hZ X c f b:=λb F=>by
   have e:b=a.heap.objs.size:=by simpa using F
   subst e;exact g.JH (le_refl _) g.fresh
  cases ha:x.cps.all (·<128)
  ·refine wpAny_pyIter_wide ha ?_;refine⟨a.heap.objs.size,[a.heap.objs.size],_,RN x,f,rfl,g.kept (t':=a.toks) λb o e=>Heap.get?_push_of_some _ e,rA (St:=λi h=>h.IsStrIter a.heap.objs.size "str_iterator" x t i) (λA i s Q E st q=>wpAny_pyIter_striter_wide st q) (λr l=>Walks.strWide l _ x t) (λi h st=>?_),⟨zero_le _,_,Heap.get?_push_size _ rfl,rfl,rfl⟩,fp,z f _ (Hb.refl _) (Walk.str ok)⟩;obtain⟨o,k,j,hd⟩:=st;exact⟨o,_,_,k,j,hd,by decide⟩
  refine wpAny_pyIter_ascii ha ?_;refine⟨a.heap.objs.size,[a.heap.objs.size],_,RN x,f,rfl,g.kept (t':=a.toks) λb o e=>Heap.get?_push_of_some _ e,rA (St:=λi h=>h.IsStrIter a.heap.objs.size "str_ascii_iterator" x t i) (λA i s Q E st q=>wpAny_pyIter_striter_ascii st q) (λr l=>Walks.strAscii l _ x t) (λi h st=>?_),⟨zero_le _,_,Heap.get?_push_size _ rfl,rfl,rfl⟩,fp,z f _ (Hb.refl _) (Walk.str ok)⟩;obtain⟨o,k,j,hd⟩:=st;exact⟨o,_,_,k,j,hd,by decide⟩
 |_=>cases n
theorem jE {prog:Program}{w:World}{A:Around}{E:GW}{s:Shared}{it l:Addr}{i:Nat}{items}{x:Value}{Q:GW}(a:s.heap.IsTupleIter it l i)
  (e:s.heap.IsTuple l items) (g:items[i]?=some x)
  (d:∀ h',h'.IsTupleIter it l (i+1)->Heap.SameBut it s.heap h'->Q x { s with heap:=h' }) :
  wpAny (model prog w) A (Builtin.SmallTypes.nextOf (.ref it)) Q E s:=by
 obtain⟨o,b,c,hd⟩:=id a;obtain⟨j,h,_,k,f⟩:=e;unfold Builtin.SmallTypes.nextOf
 refine wpAny_bind (wpAny_callSpecial?_slot (name:=Str.ofString "__next__") a.typeIs F.slot_tuple_iterator_next
  (wpAny_call_entry F.slot_tuple_iterator_next a.typeIs F.entry_tuple_iterator_next ?_ (F.args_tuple_iterator_next_1 _)))
 show wpAny _ _ (field (.ref it) 0 >>= _) _ _ s;refine wpAny_bind (wpAny_field b hd (x:=.ref l) rfl ?_);show wpAny _ _ (if (Value.ref l==Value.none)=true then _ else _) _ _ s;rw[if_neg (show ¬ ((Value.ref l==Value.none)=true) from Bool.false_ne_true)];show wpAny _ _ (field (.ref it) 1 >>= _) _ _ s;refine wpAny_bind (wpAny_field b hd (x:=.int i 0) rfl ?_);show wpAny _ _ (seqItems? (.ref l) >>= _) _ _ s;refine wpAny_bind (wpAny_seqItems h f ?_);simp only[Int.toNat_natCast,g];refine wpAny_bind (wpAny_setField b hd (by simp) (wpAny_pure ⟨x,rfl,wpAny_pure (d _ ?_ (Heap.SameBut.update ..))⟩))
 exact⟨_,Heap.get?_update_self _ b (Obj.isFreed_of_fields (Obj.data_mapFields hd _)),(Obj.cls_mapFields ..).trans c,by
  rw[Obj.data_mapFields hd];simp[rawInt]⟩
theorem fz {prog:Program}{w:World}{A:Around}{E:GW}{s:Shared}{it l:Addr}{i:Nat}{items}{Q:GW}(d:A.handled=none)
  (b:s.heap.IsTupleIter it l i) (g:s.heap.IsTuple l items) (j:items[i]?=none)
  (f:∀ h' e,Heap.ExtBut it s.heap h'->(∃ o,h'.get? e=some o/\o.cls = .type "StopIteration")->E (.ref e) { s with heap:=h' }) :
  wpAny (model prog w) A (Builtin.SmallTypes.nextOf (.ref it)) Q E s:=by
 obtain⟨o,c,n,hd⟩:=id b;obtain⟨p,k,_,q,h⟩:=g;unfold Builtin.SmallTypes.nextOf
 refine wpAny_bind (wpAny_callSpecial?_slot (name:=Str.ofString "__next__") b.typeIs F.slot_tuple_iterator_next
  (wpAny_call_entry F.slot_tuple_iterator_next b.typeIs F.entry_tuple_iterator_next ?_ (F.args_tuple_iterator_next_1 _)))
 show wpAny _ _ (field (.ref it) 0 >>= _) _ _ s;refine wpAny_bind (wpAny_field c hd (x:=.ref l) rfl ?_);show wpAny _ _ (if (Value.ref l==Value.none)=true then _ else _) _ _ s;rw[if_neg (show ¬ ((Value.ref l==Value.none)=true) from Bool.false_ne_true)];show wpAny _ _ (field (.ref it) 1 >>= _) _ _ s;refine wpAny_bind (wpAny_field c hd (x:=.int i 0) rfl ?_);show wpAny _ _ (seqItems? (.ref l) >>= _) _ _ s;refine wpAny_bind (wpAny_seqItems k h ?_);simp only[Int.toNat_natCast,j];refine wpAny_bind (wpAny_rule (wpAny_bind (wpAny_setField c hd (by simp) ?_)));show wpAny _ _ (newExc (.type "StopIteration") [] >>= _) _ _ _;refine wpAny_bind ?_;simp only[newExc,newTuple];refine wpAny_bind (wpAny_newObj_type ?_ (by size_fits));refine wpAny_bind (m:=firstArgMember _ _) (wpAny_of_eq (a:=Value.none) (by first |rfl |(simp only[firstArgMember];rfl)) ?_);refine wpAny_newObj_type ?_ (by size_fits);simp only[raiseNew];refine wpAny_bind (wpAny_handled ?_)
 first |rw[show A.in1.handled=none from d] |rw[d]
 refine wpAny_bind (wpAny_pure (wpAny_throw ?_));exact f _ _ (((Heap.SameBut.update ..).extBut.push _).push _) ⟨_,Heap.get?_push_size _ rfl,rfl⟩
theorem Draws.tup {prog:Program}{w:World}{A:Around}(m:A.handled=none)(it l:Addr)(k:l≠it)(items:Array Value) :
  Draws prog w A it [it,l] items.size (λi v=>items[i]?=some v) (λi h=>h.IsTupleIter it l i/\h.IsTuple l items) where
 live:=λ_ _ st=>let ⟨o,a,_⟩:=st.1;⟨o,a⟩
 frame:=λ_ _ _ st d=>⟨let ⟨o,a,r⟩:=st.1;⟨o,d it (by simp) o a,r⟩,let ⟨o,a,r⟩:=st.2;⟨o,d l (by simp) o a,r⟩⟩
 item:=λi s Q E c st f=>by
  refine jE st.1 st.2 (x:=items[i]) (by simp[c]) λe j b=>?_;exact f _ e s.toks (by simp[c]) ⟨j,st.2.extBut b.extBut k⟩ b
 done:=λs Q E st g=>fz m st.1 st.2 (by simp) g
theorem m_ (l:Addr)(items:Array Value)(n:Nat)(i:Option Addr)(f:Array (Option Value)) :
  Meets (Builtin.«enumerate.__new__» ⟨[.type "enumerate",.ref l],[]⟩) (λ_ R s=>s.heap.get? l=some { cls:=.type "tuple",dict:=i,data:=.seq items n,slots:=f } /\
   R (.ok (.ret (.ref (s.heap.push { cls:=.type "tuple_iterator",data:=.fields #[.ref l,.int 0 0] }).objs.size)))
    { s with heap:=(s.heap.push { cls:=.type "tuple_iterator",data:=.fields #[.ref l,.int 0 0] }).push { cls:=.type "enumerate",data:=.fields #[.none,.bool false,.ref s.heap.objs.size,rawInt 0,.none,.none] } }):=
 .of_wp λprog w A R s h=>by
  obtain⟨e,g,d,tk,os⟩:=s;obtain⟨a,h⟩:=h;have j:=sub_enumerate;have b:Heap.IsTuple (Shared.heap ⟨e,g,d,tk,os⟩) l items:=⟨_,a,rfl,n,rfl⟩
  wp_walk using AutoSeq1.wpAny_loadPart' a
  refine wpAny_stack_any λst=>wpAny_pure ?_;split
  ·rename_i c _ _ _ _ _;cases (c==Value.type "enumerate")
   ·wp_walk using AutoSeq1.wpAny_loadPart' a,wpAny_pyIter_tuple b
    exact⟨_,rfl,h⟩
   wp_walk using AutoSeq1.wpAny_loadPart' a,wpAny_pyIter_tuple b
   exact⟨_,rfl,h⟩
  wp_walk using AutoSeq1.wpAny_loadPart' a,wpAny_pyIter_tuple b
  exact⟨_,rfl,h⟩
theorem n8 {prog:Program}{w:World}{A:Around}{E:GW}{s:Shared}{l:Addr}{items:Array Value}{Q:GW}(f:IsTup s.heap l items)
  (h:∀ h',IsEnum h' (s.heap.objs.size+1) s.heap.objs.size 0 .none->h'.IsTupleIter s.heap.objs.size l 0->h'.objs.size=s.heap.objs.size+2 ->
   (∀ b o,s.heap.get? b=some o->h'.get? b=some o)->Q (.ref (s.heap.objs.size+1)) { s with heap:=h' }) :
  wpAny (model prog w) A (call (.type "enumerate") [.ref l]) Q E s:=by
 obtain⟨⟨c,k,j,i⟩,g,a,n,hd⟩:=f
 replace a:c = .type "tuple":=a
 replace hd:j = .seq items n:=hd
 subst a hd
 refine callType_new F.called_enumerate (by decide) (F.typeCall_enumerate_1 _) (F.newCall_enumerate_1 _) (λobj=>F.args_object_init_2 obj _) F.entry_enumerate_new
  (m_ l items n k i) ⟨g,?_⟩
 have d:(s.heap.push { cls:=.type "tuple_iterator",data:=.fields #[.ref l,.int 0 0] }).objs.size=s.heap.objs.size+1:=Heap.size_push ..;show _/\_;rw[d]
 have e:IsEnum ((s.heap.push { cls:=.type "tuple_iterator",data:=.fields #[.ref l,.int 0 0] }).push
   { cls:=.type "enumerate",data:=.fields #[.none,.bool false,.ref s.heap.objs.size,rawInt 0,.none,.none] }) (s.heap.objs.size+1) s.heap.objs.size 0 .none:=by
  have:=Heap.get?_push_size (s.heap.push { cls:=.type "tuple_iterator",data:=.fields #[.ref l,.int 0 0] })
   (o:={ cls:=.type "enumerate",data:=.fields #[.none,.bool false,.ref s.heap.objs.size,rawInt 0,.none,.none] }) rfl
  rw[d] at this;exact this
 refine⟨⟨_,e,rfl⟩,h _ e ⟨_,Heap.get?_push_of_some _ (Heap.get?_push_size _ rfl),rfl,rfl⟩ (by rw[Heap.size_push,d]) λb o x=>Heap.get?_push_of_some _ (Heap.get?_push_of_some _ x)⟩
theorem iF {prog:Program}{w:World}{A:Around}{E:GW}{s:Shared}{e it l:Addr}{i:Nat}{items:Array Value}{old:Value}{Q:Option Value->Shared->Prop}(p:A.handled=none)
  (d:IsEnum s.heap e it i old) (a:s.heap.IsTupleIter it l i) (j:s.heap.IsTuple l items) (m:items[i]?=none)
  (h:∀ h',Heap.ExtBut it s.heap h'->Q none { s with heap:=h' }):wpAny (model prog w) A (pyNext (.ref e)) Q E s:=by
 have c:s.TypeIs (.ref e) "enumerate":=⟨_,d,rfl⟩;unfold pyNext
 refine wpAny_bind (wpAny_attempt (wpAny_callSpecial?_slot (name:=Str.ofString "__next__") c F.slot_enumerate_next
  (wpAny_call_entry F.slot_enumerate_next c F.entry_enumerate_next ?_ (F.args_enumerate_next_1 _))))
 show wpAny _ _ (field (.ref e) 2 >>= _) _ _ _;refine wpAny_bind (wpAny_field d rfl (x:=.ref it) rfl ?_);refine wpAny_bind (fz p a j m λh' x n k=>?_);obtain⟨o,g,f⟩:=k;refine wpAny_bind (wpAny_isInstance (T:="StopIteration") (b:=true) ⟨o,g,f⟩ isSubtype_stop ?_);exact wpAny_pure (h _ n)
def Td (K:GV)(a:Addr):It:=
 ⟨λi H => ∃ b x,Kn K H a b/\b[i]?=some x,λi H x c => ∃ p y,H p=none/\x = .ref p/\c=upd H p (.tup [.int i,y])/\∀ b,Kn K H a b->b[i]?=some y,λi H => ∃ b,Kn K H a b/\b.length<=i⟩
theorem wY {P:Program}{w:World}{K:GV}{es:List Expr}{k:Nat}{pt:Pos}(a e it:Addr)(R:e≠it)(Te:a≠e)(Tf:a≠it):Turn P w K (.Tuple es k pt) (Td K a) [e,it] e (λi h=>(∃ old,IsEnum h e it i old)/\h.IsTupleIter it a i) where
 mem:=by simp
 obj:=λi h st b hb=>by
  obtain⟨⟨old,d⟩,o,l,B,hd⟩:=st;rcases mem_cons.mp hb with rfl |hb
  ·exact⟨_,d,λv z=>by cases z⟩
  have:b=it:=by simpa using hb
  subst this;exact⟨o,l,λv z=>by rw[hd] at z;cases z⟩
 keep:=λi h h' st kp=>by
  obtain⟨⟨old,d⟩,o,l,r⟩:=st;exact⟨⟨old,kp e (by simp) _ d⟩,o,kp it (by simp) o l,r⟩
 item:=by
  intro X n W S B i j s σ H E I J st U;subst n W S;obtain⟨G,x,D,N⟩:=U;obtain⟨its,Y,p,hz⟩:=I.tuple D;obtain⟨u,Z,ru⟩:=Y.get N;obtain⟨⟨old,d⟩,g⟩:=st;have Il:i<its.toArray.size:=by rw[size_toArray];exact(List.getElem?_eq_some_iff.mp Z).1
  refine wpAny_pyNext_enum_itemD (Draws.tup (A:=X.A.in1) (I.ok.hd B) it a Tf its.toArray) d ⟨g,p⟩ Il R (by simp[R,Ne.symm Te]) λy h' tk n l Pt hT hsz hk=>?_
  have ey:y=u:=by
   have:its.toArray[i]?=some u:=by simpa using Z
   rw[this] at n;exact(Option.some.inj n).symm
  subst ey;refine⟨_,rfl,wpAny_letOwnedTupleGo_enum (s:={ s with heap:=h',toks:=tk+1 }) l λC Pu V=>?_⟩;have hn:H s.heap.objs.size=none:=I.fresh;obtain⟨T,Qv,Wu,Tg,Ti,Tj⟩:=J e (by simp);obtain⟨t,F,Tn,O,L,M⟩:=J it (by simp);have kp:∀ b o,b≠e->b≠it->s.heap.get? b=some o->C.get? b=some o:=λb o h1 Mh f=>(V.2 b h1).trans (hk b o h1 Mh f);have Qw:s.heap.objs.size≠e:=ne_of_gt (Heap.lt_size d);have Mi:C.get? s.heap.objs.size=some { cls:=.type "tuple",data:=.seq #[.int i tk,y] }:=(V.2 _ Qw).trans hT;have ne:∀ b o,H b=some o->b≠s.heap.objs.size:=λb o q=>aJ q hn
  have I1:Inv X j σ (upd H s.heap.objs.size (.tup [.int i,x])) { s with heap:=C,toks:=tk+1 }:=by
   refine I.step (h':=C) (g':=s.gens) (d':=s.drawn) (t':=tk+1) (ch:=[e,it]) (λb hb=>?_) (λb o _ _ hb f _=>kp b o (λz=>hb (by simp[z])) (λz=>hb (by simp[z])) f) (λb o _ _ hb f _=>⟨o.slots,kp b o (λz=>hb (by simp[z])) (λz=>hb (by simp[z])) f⟩)
    (λb o hb f n'=>by rw[aF (ne_of_lt (Heap.lt_size f))];exact n') (λb o hb f=>⟨o,kp b o (λz=>hb (by simp[z])) (λz=>hb (by simp[z])) f⟩)
    (λb G q=>by rw[aF (ne b _ q)];exact q) (λb o G q=>by rw[aF (ne b _ q)];exact q) (λb ps q=>⟨#[],by rw[aF (ne b _ q),q];simp⟩)
    (λm hm=>?_) (λb o q=>?_) I.bare
   ·rcases mem_cons.mp hb with rfl |hb
    ·exact⟨Tg,Qv,Ti,Tj⟩
    have:b=it:=by simpa using hb
    subst this;exact⟨O,F,L,M⟩
   ·obtain⟨o,es,ep,l,r⟩:=hm;exact⟨o,es,ep,kp _ o (Ne.symm Qv) (Ne.symm F) l,r⟩
   by_cases hb:b=s.heap.objs.size
   ·subst hb;rw[G_] at q;cases q;exact⟨by show 2<=sizeLine;decide,[.int i tk,y],.cons ⟨tk,rfl⟩ (.cons ru .nil),_,Mi⟩
   rw[aF hb] at q;refine(I.Hq b o q).JP (λc v K7 z=>kp c v ?_ ?_ z) (λc z=>by rw[aF (ne c _ z)];exact z) λc G z=>by rw[aF (ne c _ z)];exact z
   ·rcases K7 with z' |z'
    ·rw[z'];exact aJ q T
    exact aJ z' T
   rcases K7 with z' |z'
   ·rw[z'];exact aJ q t
   exact aJ z' t
  refine⟨.ref s.heap.objs.size,_,I1,rfl,⟨_,x,hn,rfl,rfl,λys hy=>by rw[I.Jo hy D];exact N⟩,⟨⟨y,Pu⟩,Pt.1.extBut V.extBut (Ne.symm R)⟩,λb hb=>?_⟩;rcases mem_cons.mp hb with rfl |hb
  ·rw[aF (Ne.symm Qw)];exact T
  have:b=it:=by simpa using hb
  subst this;obtain⟨o,MS,_⟩:=g;rw[aF (ne_of_lt (Heap.lt_size MS))];exact t
 done:=by
  intro X n W S B i j s σ H E I J st U;subst n W S;obtain⟨G,D,N⟩:=U;obtain⟨its,Y,p,hz⟩:=I.tuple D;obtain⟨⟨old,d⟩,g⟩:=st;obtain⟨t,F,Tn,O,L,M⟩:=J it (by simp);have hl:=Y.length;exact iF (I.ok.hd B) d g p (by simp;omega) λh' eb=>⟨rfl,I.turned (t':=s.toks) (λb o hb e=>eb b o hb e) t F O L M⟩
 self:=by
  intro A i s Q E st h;obtain⟨⟨old,d⟩,_⟩:=st;exact wpAny_pyIter_enum d h
def bJ (i:Nat):List D->List D
 |[]=>[]
 |d::ds => .tup [.int i,d]::bJ (i+1) ds
theorem bw:∀ (ds:List D) (i:Nat),(bJ i ds).length=ds.length
 |[],_=>rfl
 |d::ds,i=>by rw[bJ,length_cons,length_cons,bw ds]
theorem dU:∀ (ds:List D) (i j:Nat),(bJ i ds)[j]?=(ds[j]?).map λd=>D.tup [.int (i+j:Nat),d]
 |[],_,_=>by simp[bJ]
 |d::ds,i,0=>by simp[bJ]
 |d::ds,i,j+1=>by
  rw[bJ,List.getElem?_cons_succ,dU ds (i+1) j,List.getElem?_cons_succ,show i+1+j=i+(j+1) by omega]
theorem Walk.enum {a:Addr}{ds:List D}{xs:List V}{J:List Addr}{H:Hp}(t:TQ X.K H J a xs)(m:G5 X.K H J ds xs):Walk X (Td X.K a) (bJ 0 ds) J H where
 len:=by rw[bw,m.length];exact t.len
 go:=λc f i x b=>by
  rw[bw] at b;have m1:=m.ex x;obtain⟨v,k,_⟩:=m1.get (List.getElem?_eq_getElem b);exact⟨xs,v,(t.ex x).sq,k⟩
 Lu:=λc f i v l x j b y=>by
  obtain⟨p,y,g,rfl,rfl,h⟩:=y;obtain⟨d,e,a⟩:=(m.ex x).get' (h xs (t.ex x).sq);refine⟨.tup [.int i,d],by rw[dU,e];simp,At.IF (.cons (At.G2.mpr rfl) (.cons a .nil)) g j (by show 2<=sizeLine;decide),aM g _⟩
 stop:=λc f i x b=>by
  rw[bw] at b;exact⟨xs,(t.ex x).sq,by rw[← m.length];exact b⟩
def nJ:List D->Option (List D)
 |[.tup xs]=>some (bJ 0 xs)
 |_=>none
theorem qa {es:List Expr}{k:Nat}{pt p:Pos}{a:Expr}{t:GU (List D)}{x:Str}(E:x="enumerate")(O:X.mg x=none)(q:SA X W [a] t)(M:Gl X x:=by rfl)
  (G:starEach (a::[]) X.env=(false,eval a X.env)::starEach [] X.env:=by rfl) (F:(backTo pos (starEach [] X.env)).any (·.1)=false:=by rfl):SI X W (.Tuple es k pt) (.Call (.Name x p) [a] [] pos) (fV nJ t):=by
 subst E;intro c s l H R I h;refine wpAny_Call_Name_kw (i4 I M O boot_enumerate ?_ (by decide) (by decide));refine callWith_type1 (Hk (q pos c s l H _ I (gO h)) λP d B=>?_) G F;obtain⟨T,g,e,y,J,S,JQ,Z,so,m,f,z⟩:=B;unfold nJ at f;split at f
 ·rename_i Y;cases f;obtain⟨v,r,rfl,N,n⟩:=G5.G3.mp m;cases G5.G7.mp n;obtain⟨ad,V,rfl,j,L⟩:=At.He.mp N;obtain⟨u,rfl,C⟩:=vals1 y;cases C;obtain⟨its,U,pl,Q⟩:=e.tuple j.sq;have o:ad<d.heap.objs.size:=pl.lt;refine n8 pl λw i it sz kp=>?_;have A:Inv X c l g { d with heap:=w }:=e.kept (t':=d.toks) kp;refine wpAny_pyIter_enum i ?_;refine⟨d.heap.objs.size+1,[d.heap.objs.size+1,d.heap.objs.size],_,Td X.K ad,g,rfl,A,wY ad _ _ (ne_of_gt (lt_succ_self _)) (ne_of_lt (lt_succ_of_lt o)) (ne_of_lt o),⟨⟨_,i⟩,it⟩,λb hb=>?_,z g _ (Hb.refl _) (Walk.enum j L)⟩;rcases mem_cons.mp hb with rfl |hb
  ·exact e.JH (le_succ _) (e.Hq.fresh (le_succ _))
  have:b=d.heap.objs.size:=by simpa using hb
  subst this;exact e.JH (le_refl _) e.fresh
 cases f
end
section
variable {X:Cx}{W:WT}
def vC:List D->Option (List Bool)
 |[]=>some []
 | .bl b::r=>(vC r).map (b::·)
 |_=>none
def ud:List D->Option D
 |[.lst xs]=>(vC xs).map λbs => .bl (bs.all id)
 |_=>none
def yn:List D->Option D
 |[.lst xs]=>(vC xs).map λbs => .bl (bs.any id)
 |_=>none
theorem nR {K:GV}{H:Hp}{J:List Addr}:∀ {ds:List D}{bs:List Bool}{vs:List V}{us:List Value},vC ds=some bs->G5 K H J ds vs->Vals vs us->us=bs.map Value.bool
 |[],bs,vs,us,e,m,r=>by
  cases e;cases G5.G7.mp m;cases r;rfl
 | .bl b::ds,bs,vs,us,e,m,r=>by
  obtain⟨j,g,f⟩:=map_eq_some_iff.mp (show (vC ds).map (b::·)=some bs from e);subst f;obtain⟨v,i,rfl,a,c⟩:=G5.G3.mp m;cases At.Ht.mp a;cases r with
  |cons d h =>
   cases d;rw[nR g c h];rfl
 | .Ho::_,_,_,_,e,_,_=>by cases e
 | .int _::_,_,_,_,e,_,_=>by cases e
 | .str _::_,_,_,_,e,_,_=>by cases e
 | .tup _::_,_,_,_,e,_,_=>by cases e
 | .lst _::_,_,_,_,e,_,_=>by cases e
 | .set _::_,_,_,_,e,_,_=>by cases e
 | .loc _::_,_,_,_,e,_,_=>by cases e
 | .fn _ _::_,_,_,_,e,_,_=>by cases e
theorem k8 {prog:Program}{w:World}{A:Around}(bs:List Bool):TruthOf prog w A (λi v=>(bs.map Value.bool).toArray[i]?=some v) (λi=>bs.getD i false):=by
 intro i v s Q E f a;have c:(bs.map Value.bool)[i]?=some v:=by simpa using f
 rw[getElem?_map] at c;obtain⟨b,d,e⟩:=map_eq_some_iff.mp c;subst e;have:bs.getD i false=b:=by rw[getD_eq_getElem?_getD,d];rfl
 have a:Q (bs.getD i false) s:=a;rw[this] at a;exact wpAny_truthy_bool a
theorem range_all (bs:List Bool):(List.range bs.length).all (λi=>bs.getD i false)=bs.all id:=by
 rw[Bool.eq_iff_iff,all_eq_true,all_eq_true];constructor
 ·intro h x b;obtain⟨i,a,e⟩:=List.mem_iff_getElem.mp b;have:=h i (mem_range.mpr a);rw[getD_eq_getElem?_getD,List.getElem?_eq_getElem a,e] at this;exact this
 intro h i a;have a:=mem_range.mp a;rw[getD_eq_getElem?_getD,List.getElem?_eq_getElem a];exact h _ (getElem_mem a)
theorem range_any (bs:List Bool):(List.range bs.length).any (λi=>bs.getD i false)=bs.any id:=by
 rw[Bool.eq_iff_iff,any_eq_true,any_eq_true];constructor
 ·rintro⟨i,a,h⟩;have a:=mem_range.mp a;rw[getD_eq_getElem?_getD,List.getElem?_eq_getElem a] at h;exact⟨_,getElem_mem a,h⟩
 rintro⟨x,b,h⟩;obtain⟨i,a,e⟩:=List.mem_iff_getElem.mp b;refine⟨i,mem_range.mpr a,?_⟩;rw[getD_eq_getElem?_getD,List.getElem?_eq_getElem a,e];exact h
theorem An (g:X.calm=true):iT X (.builtin "all") ud:=by
 intro c s F H N D Q I r h;obtain⟨J,O,d,K,m,e,q⟩:=h;unfold ud at e;split at e
 ·rename_i M;obtain⟨bs,B,x⟩:=map_eq_some_iff.mp e;subst x;obtain⟨v,w,rfl,a,n⟩:=G5.G3.mp m;cases G5.G7.mp n;obtain⟨p,L,rfl,t,C⟩:=At.Hh.mp a;obtain⟨u,rfl,l⟩:=vals1 r;cases l;obtain⟨its,y,pl,G⟩:=I.list t.sq;have j:=nR B C y;subst j;have f:p<s.heap.objs.size:=by obtain⟨o,n,e,_⟩:=pl;exact Heap.lt_size e
  refine call_all_walk (wpAny_pyIter_list pl.isList ?_);refine⟨s.heap.objs.size,_,_,_,_,_,λi=>bs.getD i false,rfl,Walks.list (A:=X.A.in1) (I.ok.hd g) s.heap.objs.size p (ne_of_lt f) (bs.map Value.bool).toArray,⟨⟨_,Heap.get?_push_size _ rfl,rfl,rfl⟩,pl.isList.push _⟩,k8 bs,λE tk k=>?_⟩;rw[size_toArray,length_map,range_all];refine⟨.bl _,H,I.kept λb o e=>k b o (λz=>?_) (Heap.get?_push_of_some _ e),rfl,q H _ (Hb.refl H) (At.Ht.mpr rfl)⟩;have:b=s.heap.objs.size:=by simpa using z
  exact absurd (Heap.lt_size e) (by rw[this];exact Nat.lt_irrefl _)
 cases e
theorem DH (g:X.calm=true):iT X (.builtin "any") yn:=by
 intro c s F H N D Q I r h;obtain⟨J,O,d,K,m,e,q⟩:=h;unfold yn at e;split at e
 ·rename_i M;obtain⟨bs,B,x⟩:=map_eq_some_iff.mp e;subst x;obtain⟨v,w,rfl,a,n⟩:=G5.G3.mp m;cases G5.G7.mp n;obtain⟨p,L,rfl,t,C⟩:=At.Hh.mp a;obtain⟨u,rfl,l⟩:=vals1 r;cases l;obtain⟨its,y,pl,G⟩:=I.list t.sq;have j:=nR B C y;subst j;have f:p<s.heap.objs.size:=by obtain⟨o,n,e,_⟩:=pl;exact Heap.lt_size e
  refine call_any_walk (wpAny_pyIter_list pl.isList ?_);refine⟨s.heap.objs.size,_,_,_,_,_,λi=>bs.getD i false,rfl,Walks.list (A:=X.A.in1) (I.ok.hd g) s.heap.objs.size p (ne_of_lt f) (bs.map Value.bool).toArray,⟨⟨_,Heap.get?_push_size _ rfl,rfl,rfl⟩,pl.isList.push _⟩,k8 bs,λE tk k=>?_⟩;rw[size_toArray,length_map,range_any];refine⟨.bl _,H,I.kept λb o e=>k b o (λz=>?_) (Heap.get?_push_of_some _ e),rfl,q H _ (Hb.refl H) (At.Ht.mpr rfl)⟩;have:b=s.heap.objs.size:=by simpa using z
  exact absurd (Heap.lt_size e) (by rw[this];exact Nat.lt_irrefl _)
 cases e
theorem A3 {prog:Program}{w:World}{A:Around}{E:GW}{s:Shared}{g:PyProof.Rows.KeyKind}(k : g.OneLt){x:Value}{Q:GW}
  (h:wpAny (model prog w) A.in1 (collect x) (λvs d=>PyProof.Rows.KeysOf g (pairsOf vs)/\(∀ a c rest,vs=a::c::rest->keyKind' (a::c::rest).toArray=pure oneType')/\vs.length<64 /\
   ∀ (f:SortSt) h' ep,(arrOf f).Perm (pairsOf vs)->SortedToK g (arrOf f) (pairsOf vs).size->(∀ b o,d.heap.get? b=some o->h'.get? b=some o)->h'.get? d.heap.objs.size=some (seqObj "list" ((arrOf f).map (·.2)) ep) ->
    Q (.ref d.heap.objs.size) { d with heap:=h' }) E s):wpAny (model prog w) A (call (.builtin "sorted") [x]) Q E s:=by
 refine Calls.call_function_entry kind_sorted plain_sorted entry_sorted (args_sorted1 _) ?_;unfold Builtin.«sorted»;refine wpAny_bind (m:=checkCount "sorted" 1 1 _) (wpAny_pure ?_);refine wpAny_bind (Hk h λvs d n=>?_);obtain⟨j,t,p,q⟩:=n;refine wpAny_bind (wpAny_newList ?_);have i:(d.heap.push (seqObj "list" vs.toArray 0)).get? d.heap.objs.size=some (seqObj "list" vs.toArray 0):=Heap.get?_push_size _ rfl;refine wpAny_bind (wpAny_holding (wpAny_call_entry slot_list_sort ⟨_,i,rfl⟩ entry_list_sort (list_sort_treeK k i j t p λf u r=>⟨_,rfl,?_⟩) (args_list_sort _)));obtain⟨ep,l⟩:=sortedHeap_at (out:=(arrOf f).map (·.2)) i
 exact wpAny_pure ⟨_,rfl,q f _ ep u r (λb o e=>by
  rw[sortedHeap_old (ne_of_lt (Heap.lt_size e)) (by rw[size_push'];exact lt_succ_of_lt (Heap.lt_size e))]
  exact Heap.get?_push_of_some _ e) l⟩
end
def Kr (a b:Str):Bool:=!Kq b a
theorem HZ {a b:Str}:Kr a b=true↔a.cps.toList<=b.cps.toList:=by unfold Kr Kq;rw[Bool.not_eq_true',decide_eq_false_iff_not,List.not_lt]
theorem kC (a b c:Str)(h:Kr a b=true)(g:Kr b c=true):Kr a c=true:=HZ.mpr (List.le_trans (HZ.mp h) (HZ.mp g))
theorem oW (a b:Str):(Kr a b ||Kr b a)=true:=by rw[or_eq_true,HZ,HZ];exact List.le_total _ _
theorem AW {a b:Str}(h:a.cps.toList=b.cps.toList):a=b:=by cases a;cases b;congr;exact Array.toList_inj.mp h
theorem sI {a b:Str}(h:Kr a b=true)(g:Kr b a=true):a=b:=AW (List.le_antisymm (HZ.mp h) (HZ.mp g))
def iL (l:List Str):List Str:=l.mergeSort Kr
theorem dI {l c:List Str}(d:c.Perm l)(e:c.Pairwise λa b=>Kr a b=true):c=iL l:=
 List.Perm.eq_of_pairwise (le:=λa b=>Kr a b=true) (λa b _ _ h g=>sI h g) e (List.pairwise_mergeSort kC oW l) (d.trans (mergeSort_perm l Kr).symm)
theorem pairwise_of_rising:∀ (p:Str) (l:List Str),risingS p l=true->(p::l).Pairwise λa b=>Kr a b=true
 |p,[],_=>by simp
 |p,x::r,h=>by
  have c:(!ltCps x.cps.toList p.cps.toList&&risingS x r)=true:=h;rw[and_eq_true] at c;have d:Kr p x=true:=by unfold Kr Kq;rw[← ltCps_eq];exact c.1
  have t:=pairwise_of_rising x r c.2;refine pairwise_cons.mpr ⟨λy hy=>?_,t⟩;rcases mem_cons.mp hy with rfl |hy
  ·exact d
  exact kC _ _ _ d ((pairwise_cons.mp t).1 y hy)
theorem iG {l:List Str}(h:sortedS l=true):l.Pairwise λa b=>Kr a b=true:=by
 cases l with
 |nil=>exact .nil
 |cons x r=>exact pairwise_of_rising x r h
def RP (a b:Int):Bool:=decide (a<=b)
def sortI (l:List Int):List Int:=l.mergeSort RP
theorem p_ {l d:List Int}(e:d.Perm l)(f:d.Pairwise (·<=·)):d=sortI l:=by
 refine List.Perm.eq_of_pairwise (le:=λa b=>RP a b=true) (λa b _ _ h g=>?_) (f.imp λh=>decide_eq_true h) (List.pairwise_mergeSort (λa b c h g=>?_) (λa b=>?_) l) (e.trans (mergeSort_perm l RP).symm)
 ·exact Int.le_antisymm (of_decide_eq_true h) (of_decide_eq_true g)
 ·exact decide_eq_true (Int.le_trans (of_decide_eq_true h) (of_decide_eq_true g))
 unfold RP;rw[or_eq_true,decide_eq_true_eq,decide_eq_true_eq];exact Int.le_total a b
def dY:List D->Option (List Str)
 |[]=>some []
 | .str x::r=>(dY r).map (x::·)
 |_=>none
def cm:List D->Option (List Int)
 |[]=>some []
 | .int x::r=>(cm r).map (x::·)
 |_=>none
theorem ii:∀ ss:List Str,dY (ss.map .str)=some ss
 |[]=>rfl
 |x::r=>by rw[map_cons,dY,ii r];rfl
theorem HV:∀ ss:List Int,cm (ss.map .int)=some ss
 |[]=>rfl
 |x::r=>by rw[map_cons,cm,HV r];rfl
theorem mG:∀ {ds:List D}{ss:List Str},dY ds=some ss->ds=ss.map .str
 |[],ss,e=>by cases e;rfl
 | .str x::r,ss,e=>by
  obtain⟨t,a,b⟩:=map_eq_some_iff.mp (show (dY r).map (x::·)=some ss from e);subst b;rw[mG a];rfl
 | .Ho::_,_,e=>by cases e
 | .bl _::_,_,e=>by cases e
 | .int _::_,_,e=>by cases e
 | .tup _::_,_,e=>by cases e
 | .lst _::_,_,e=>by cases e
 | .set _::_,_,e=>by cases e
 | .loc _::_,_,e=>by cases e
 | .fn _ _::_,_,e=>by cases e
theorem fF:∀ {ds:List D}{ss:List Int},cm ds=some ss->ds=ss.map .int
 |[],ss,e=>by cases e;rfl
 | .int x::r,ss,e=>by
  obtain⟨t,a,b⟩:=map_eq_some_iff.mp (show (cm r).map (x::·)=some ss from e);subst b;rw[fF a];rfl
 | .Ho::_,_,e=>by cases e
 | .bl _::_,_,e=>by cases e
 | .str _::_,_,e=>by cases e
 | .tup _::_,_,e=>by cases e
 | .lst _::_,_,e=>by cases e
 | .set _::_,_,e=>by cases e
 | .loc _::_,_,e=>by cases e
 | .fn _ _::_,_,e=>by cases e
theorem uD {a b:List D}(p:a.Perm b):∀ {sb},dY b=some sb->∃ sa,dY a=some sa/\sa.Perm sb:=by
 induction p with
 |nil=>intro sb e;exact⟨sb,e,.refl _⟩
 |cons x p j =>
  intro sb e;cases x with
  |str z =>
   obtain⟨t,d,c⟩:=map_eq_some_iff.mp (show (dY _).map (z::·)=some sb from e);subst c;obtain⟨sa,g,h⟩:=j d;exact⟨z::sa,by rw[dY,g];rfl,.cons z h⟩
  |_=>cases e
 |swap x y l =>
  intro sb e;cases x with
  |str z =>
   cases y with
   |str f =>
    obtain⟨t,d,c⟩:=map_eq_some_iff.mp (show (dY (.str f::l)).map (z::·)=some sb from e);obtain⟨i,g,h⟩:=map_eq_some_iff.mp (show (dY l).map (f::·)=some t from d);subst c h;exact⟨f::z::i,by rw[dY,dY,g];rfl,.swap z f i⟩
   |_=>cases e
  |_=>cases e
 |trans _ _ o n =>
  intro sb e;obtain⟨q,d,k⟩:=n e;obtain⟨sa,c,m⟩:=o d;exact⟨sa,c,m.trans k⟩
theorem vc {a b:List D}(p:a.Perm b):∀ {sb},cm b=some sb->∃ sa,cm a=some sa/\sa.Perm sb:=by
 induction p with
 |nil=>intro sb e;exact⟨sb,e,.refl _⟩
 |cons x p j =>
  intro sb e;cases x with
  |int z =>
   obtain⟨t,d,c⟩:=map_eq_some_iff.mp (show (cm _).map (z::·)=some sb from e);subst c;obtain⟨sa,g,h⟩:=j d;exact⟨z::sa,by rw[cm,g];rfl,.cons z h⟩
  |_=>cases e
 |swap x y l =>
  intro sb e;cases x with
  |int z =>
   cases y with
   |int f =>
    obtain⟨t,d,c⟩:=map_eq_some_iff.mp (show (cm (.int f::l)).map (z::·)=some sb from e);obtain⟨i,g,h⟩:=map_eq_some_iff.mp (show (cm l).map (f::·)=some t from d);subst c h;exact⟨f::z::i,by rw[cm,cm,g];rfl,.swap z f i⟩
   |_=>cases e
  |_=>cases e
 |trans _ _ o n =>
  intro sb e;obtain⟨q,d,k⟩:=n e;obtain⟨sa,c,m⟩:=o d;exact⟨sa,c,m.trans k⟩
section
variable {K:GV}{H:Hp}{J:List Addr}
theorem G5.strs:∀ {ss:List Str}{vs:List V}{us:List Value},G5 K H J (ss.map .str) vs->Vals vs us->StrsAre us ss/\vs=ss.map V.str/\∀ x∈ss,N2 x
 |[],vs,us,m,r=>by
  cases G5.G7.mp m;cases r;exact⟨.nil,rfl,by simp⟩
 |x::ss,vs,us,m,r=>by
  obtain⟨v,h,rfl,a,c⟩:=G5.G3.mp m;obtain⟨ev,ok⟩:=At.Hd.mp a;subst ev;cases r with
  |cons d f =>
   obtain⟨t,rfl⟩:=d;obtain⟨b,g,e⟩:=G5.strs c f;refine⟨.cons x t b,by rw[g];rfl,λy hy=>?_⟩;rcases mem_cons.mp hy with rfl |hy
   ·exact ok
   exact e y hy
theorem G5.ofStrs:∀ {ss:List Str},(∀ x∈ss,N2 x)->G5 K H J (ss.map .str) (ss.map V.str)
 |[],_ => .nil
 |x::ss,h => .cons (At.Hd.mpr ⟨rfl,h x (mem_cons_self ..)⟩) (G5.ofStrs λy a=>h y (mem_cons_of_mem _ a))
theorem oq:∀ {us:List Value}{ss:List Str},StrsAre us ss->Vals (ss.map V.str) us
 |_,_,.nil => .nil
 |_,_,.cons x t h => .cons ⟨t,rfl⟩ (oq h)
end
section
theorem yE {prog:Program}{w:World}{A:Around}{E:GW}{s:Shared}{x:Value}{Q:GW}
  (h:wpAny (model prog w) A.in1 (collect x) (λvs a => ∃ ns,IntsAre vs ns/\vs.length<64 /\
   ∀ (out:Array Value) (c:List Int) h' ep,IntsAre out.toList c->c.Perm ns->c.Pairwise (·<=·)->(∀ b o,a.heap.get? b=some o->h'.get? b=some o)->h'.get? a.heap.objs.size=some (seqObj "list" out ep) ->
    Q (.ref a.heap.objs.size) { a with heap:=h' }) E s):wpAny (model prog w) A (call (.builtin "sorted") [x]) Q E s:=by
 refine Calls.call_function_entry kind_sorted plain_sorted entry_sorted (args_sorted1 _) ?_;unfold Builtin.«sorted»;refine wpAny_bind (m:=checkCount "sorted" 1 1 _) (wpAny_pure ?_);refine wpAny_bind (Hk h λvs a g=>?_);obtain⟨ns,j,i,q⟩:=g;refine wpAny_bind (wpAny_newList ?_);have d:(a.heap.push (seqObj "list" vs.toArray 0)).get? a.heap.objs.size=some (seqObj "list" vs.toArray 0):=Heap.get?_push_size _ rfl;refine wpAny_bind (wpAny_holding (wpAny_call_entry slot_list_sort ⟨_,d,rfl⟩ entry_list_sort (list_sort_tree d j i λout c n k l=>⟨_,rfl,?_⟩) (args_list_sort _)));obtain⟨ep,f⟩:=sortedHeap_at (out:=out) d
 exact wpAny_pure ⟨_,rfl,q out c _ ep n k l (λb o e=>by
  rw[sortedHeap_old (ne_of_lt (Heap.lt_size e)) (by rw[size_push'];exact lt_succ_of_lt (Heap.lt_size e))]
  exact Heap.get?_push_of_some _ e) f⟩
end
section
variable {X:Cx}{W:WT}
def dE (xs:List D):Option (List D):=if xs.length<64 then
  match dY xs with
  |some a=>some ((iL a).map .str)
  |none=>(cm xs).map λns=>(sortI ns).map .int
 else none
theorem im {c:GX}{u:St}{H:Hp}{s:Shared}{J:List Addr}{x:Value}{ds:List D}{out:List D}{Q:VK}(U:∀ a∈J,H a≠none)(e:dE ds=some out)(q:∀ H' v,Hb H H'->At X.K H' J (.lst out) v->Q v H')
  (O:∀ (L:List Value->Shared->Prop) (E:GW),(∀ us vs d p,Inv X c u H d->Vals vs us->p.Perm ds->G5 X.K H J p vs->L us d)->wpAny (model X.prog X.w) X.A.in1 (collect x) L E s) :
  wpAny (model X.prog X.w) X.A (call (.builtin "sorted") [x]) (EP X c u Q) X.xe s:=by
 unfold dE at e;split at e
 ·rename_i r
  have fin:∀ {d:Shared}{i:Heap}{ep:Nat}{us':List Value}{t:List V}(g:Inv X c u H d) (k:∀ b o,d.heap.get? b=some o->i.get? b=some o) (j:i.get? d.heap.objs.size=some (seqObj "list" us'.toArray ep)) (f:Vals t us') (m:G5 X.K H J out t) (B:t.length<=sizeLine),
    EP X c u Q (.ref d.heap.objs.size) { d with heap:=i }:=λ{d i ep us' t} g k j f m B =>
   ⟨.ref d.heap.objs.size,_,g.laid (t':=d.toks) (o:=.lst t) k (le_refl _) ⟨B,us',ep,f,j⟩,rfl,q _ _ (aM g.fresh _) (At.I0 m g.fresh U B)⟩
  split at e
  ·rename_i l es;cases e;have y:=mG es;subst y;refine A3 strKind_oneLt (O _ _ λus vs d p g f F m=>?_);have Y:∃ C,dY p=some C/\C.Perm l:=by exact uD F (ii l)
   obtain⟨C,JQ,h⟩:=Y;have G:=mG JQ;subst G;obtain⟨sa,ev,ok⟩:=G5.strs m f;have n:us.length=l.length:=by rw[← f.length,ev,length_map];exact h.length_eq
   refine⟨sa.keysOf,λM P rest e=>keyKind_strs (by rw[← e];exact sa),by rw[length_map] at r;omega,λW i ep R S k j=>?_⟩;obtain⟨so,h1,z,h3⟩:=sorted_out_str sa R S;have I:so=iL l:=dI (z.trans h) (iG h3);subst I;have Wx:∀ x∈iL l,N2 x:=λx Z=>ok x (z.mem_iff.mp Z);refine fin (us':=((arrOf W).map (·.2)).toList) g k (by rw[Array.toArray_toList];exact j) (oq h1) (G5.ofStrs Wx) ?_;rw[length_map,(z.trans h).length_eq];rw[length_map] at r;exact Nat.le_of_lt (lt_of_lt_of_le r (by decide))
  obtain⟨ns,es,T⟩:=map_eq_some_iff.mp e;subst T;have y:=fF es;subst y;refine yE (O _ _ λus vs d p g f F m=>?_);obtain⟨OW,JQ,h⟩:=vc F (HV ns);have G:=fF JQ;subst G;have ev:=G5.JW m;subst ev;have hI:=intsAre_of f;have n:us.length=ns.length:=by rw[← f.length,length_map];exact h.length_eq
  rw[length_map] at r;refine⟨OW,hI,by omega,λout no i ep a1 N a3 k j=>?_⟩;have I:no=sortI ns:=p_ (N.trans h) a3;subst I;refine fin (us':=out.toList) g k (by rw[Array.toArray_toList];exact j) (j6 a1) (G5.ofInts _) ?_;rw[length_map,(N.trans h).length_eq];exact Nat.le_of_lt (lt_of_lt_of_le r (by decide))
 cases e
def yF:List D->Option D
 |[.tup xs]=>(dE xs).map .lst
 |[.lst xs]=>(dE xs).map .lst
 |_=>none
theorem B2:iT X (.builtin "sorted") yF:=by
 intro C s L H M K Q I r h;obtain⟨J,N,d,B,m,e,q⟩:=h;unfold yF at e;split at e
 ·rename_i y;obtain⟨out,z,l⟩:=map_eq_some_iff.mp e;subst l;obtain⟨v,w,rfl,a,n⟩:=G5.G3.mp m;cases G5.G7.mp n;obtain⟨p,x,rfl,t,A⟩:=At.He.mp a;obtain⟨u,rfl,j⟩:=vals1 r;cases j;obtain⟨its,b,⟨o,c,f,G,hd⟩,i⟩:=I.tuple t.sq;refine im B z q λD E g=>wpAny_collect_seq p (.inr rfl) c f hd (λF k=>?_) (by rw[size_toArray,← b.length];exact i);exact g _ x _ y (I.kept (t':=s.toks) k) (by simpa using b) (.refl _) A
 ·rename_i y;obtain⟨out,z,l⟩:=map_eq_some_iff.mp e;subst l;obtain⟨v,w,rfl,a,n⟩:=G5.G3.mp m;cases G5.G7.mp n;obtain⟨p,x,rfl,t,A⟩:=At.Hh.mp a;obtain⟨u,rfl,j⟩:=vals1 r;cases j;obtain⟨its,b,⟨o,G,c,f,_,hd⟩,i⟩:=I.list t.sq;refine im B z q λD E g=>wpAny_collect_seq p (.inl rfl) c f hd (λF k=>?_) (by rw[size_toArray,← b.length];exact i);exact g _ x _ y (I.kept (t':=s.toks) k) (by simpa using b) (.refl _) A
 cases e
end
def d4 (a b:D):Bool:=decide (dO a=dO b)
def putD (kvs:List (D×D))(k v:D):List (D×D):=if (kvs.any λp=>d4 p.1 k)=true then kvs.map (λp=>if d4 p.1 k=true then (p.1,v) else p) else kvs++[(k,v)]
def getD (kvs:List (D×D))(k:D):Option D:=(kvs.find? λp=>d4 p.1 k).map (·.2)
abbrev NN (K:GV)(H:Hp)(J:List Addr):(D×D)->(Key×V)->Prop:=λp q=>(dO p.1=some q.1/\At K H J p.1 (kV q.1))/\At K H J p.2 q.2
section
variable {K:GV}{H H':Hp}{J J':List Addr}
theorem mO {a k:D}{x y:Key}(h:dO a=some x)(g:dO k=some y):d4 a k=decide (x=y):=by
 unfold d4;rw[h,g];by_cases e:x=y
 ·subst e;simp
 rw[decide_eq_false e,decide_eq_false (λz=>e (Option.some.inj z))]
theorem DW {kvs:List (D×D)}{a:List (Key×V)}{k:D}{y:Key}(g:dO k=some y)(r:Paired (NN K H J) kvs a):(kvs.any λp=>d4 p.1 k)=a.any λq=>decide (q.1=y):=by
 induction r with
 |nil=>rfl
 |cons h t b=>rw[any_cons,any_cons,b,mO h.1.1 g]
theorem xo {kvs:List (D×D)}{a:List (Key×V)}{k v:D}{y:Key}{w:V}(g:dO k=some y)(c:At K H J v w)(r:Paired (NN K H J) kvs a):Paired (NN K H J) (kvs.map λp=>if d4 p.1 k=true then (p.1,v) else p) (a.map λq=>if q.1=y then (q.1,w) else q):=by
 induction r with
 |nil=>exact .nil
 | @cons p q f d h t b =>
  refine .cons ?_ b;show NN K H J (if d4 p.1 k=true then (p.1,v) else p) (if q.1=y then (q.1,w) else q);rw[mO h.1.1 g];by_cases e:q.1=y
  ·rw[if_pos (decide_eq_true e),if_pos e];exact⟨h.1,c⟩
  rw[if_neg (by rw[decide_eq_false e];decide),if_neg e];exact h
theorem xq {k v:D}{y:Key}{w:V}(g:dO k=some y)(e:At K H J k (kV y))(c:At K H J v w){a:List (D×D)}{b:List (Key×V)}(h:Paired (NN K H J) a b):Paired (NN K H J) (a++[(k,v)]) (b++[(y,w)]):=by
 induction h with
 |nil=>exact .cons ⟨⟨g,e⟩,c⟩ .nil
 |cons h t d=>exact .cons h d
theorem CT {kvs:List (D×D)}{a:List (Key×V)}{k v:D}{y:Key}{w:V}(g:dO k=some y)(c:At K H J k (kV y))(b:At K H J v w)(r:Paired (NN K H J) kvs a):Paired (NN K H J) (putD kvs k v) (putK a y w):=by
 unfold putD putK;rw[DW g r];split
 ·exact xo g b r
 exact xq g c b r
theorem z7 {kvs:List (D×D)}{a:List (Key×V)}{k:D}{y:Key}(g:dO k=some y)(r:Paired (NN K H J) kvs a) :
  (getD kvs k=none/\jr a y=none)∨∃ d v,getD kvs k=some d/\jr a y=some v/\At K H J d v:=by
 unfold getD jr
 induction r with
 |nil=>exact .inl ⟨rfl,rfl⟩
 | @cons p q f c h t b =>
  rw[find?_cons,find?_cons,mO h.1.1 g];by_cases e:q.1=y
  ·rw[decide_eq_true e];exact .inr ⟨p.2,q.2,rfl,rfl,h.2⟩
  rw[decide_eq_false e];exact b
theorem iZ {α a:Type}{F : α->a->Prop}{b:List α}{c:List a}(r:Paired F b c):b.length=c.length:=Paired.length r
end
section
variable {X:Cx}{W:WT}{pos pos':Pos}{o i e:Expr}{fo fi fv:GU D}
def tU:GU D:=λ_ S=>G9 (.loc S.length) (S++[.dict []])
theorem Hr.push {K:GV}{J:List Addr}{S:G0}{H:Hp}{p:Addr}{o:HO}{mo:MO}(s:Hr K J S H)(f:H p=none)(m:ME K (upd H p o) (J++[p]) mo p):Hr K (J++[p]) (S++[mo]) (upd H p o)/\Ex J H (J++[p]) (upd H p o):=by
 have x:Ex J H (J++[p]) (upd H p o):=⟨⟨[p],rfl⟩,λb u e k=>⟨by rw[aF (aJ e f)];exact e,λz=>by
  rcases mem_append.mp z with z |z
  ·exact k z
  exact aJ e f (by simpa using z)⟩⟩
 refine⟨⟨by rw[List.length_append,List.length_append,s.len];rfl,?_,λl a j c d=>?_⟩,x⟩
 ·rw[nodup_append];refine⟨s.nd,by simp,λa i b e z=>?_⟩;have:b=p:=by simpa using e
  subst this;exact s.tracked i (z▸f)
 by_cases g:l<J.length
 ·rw[getElem?_append_left g] at c;rw[getElem?_append_left (by rw[← s.len];exact g)] at d;have q:=s.at_ l a j c d;refine q.ex x ?_;rw[aF];intro z;exact q.KU (z▸f)
 rw[getElem?_append_right (by omega)] at c;rw[getElem?_append_right (by rw[← s.len];omega)] at d;have h:l-J.length=0:=by have:=(List.getElem?_eq_some_iff.mp c).1;simp at this;omega
 rw[h] at c;rw[← s.len,h] at d;simp at c d;subst c d;exact m
theorem qd:SE X W (.Dict [] [] pos) tU:=MU.imp λd H Q h=>by obtain⟨J,b,S,r,f,c,_,e,z⟩:=h;cases e;intro p a;have q:=c.Hu.push (o:=.dK []) (mo:=.dict []) a ⟨[],G_,.nil⟩;refine z (J++[p]) _ _ q.2 q.1 (At.Hc.mpr ⟨p,rfl,?_⟩);rw[← c.Hu.len,getElem?_append_right (le_refl _)];simp
theorem Hr.update {K:GV}{J:List Addr}{S:G0}{H:Hp}{l:Nat}{a:Addr}{o:HO}{mo:MO}(s:Hr K J S H)(e:J[l]?=some a)(p:∀ f H',Ex J H f H'->H'=upd H a o->f=J->ME K H' f mo a):Hr K J (S.set l mo) (upd H a o)/\Ex J H J (upd H a o):=by
 have k:a∈J:=mem_of_getElem? e;have x:Ex J H J (upd H a o):=⟨prefix_refl _,λb u m h=>⟨by rw[aF (λz:b=a=>h (by rw[z];exact k))];exact m,h⟩⟩;refine⟨⟨by rw[length_set];exact s.len,s.nd,λj b i c d=>?_⟩,x⟩;by_cases g:j=l
 ·subst g;rw[e] at c;cases c;have n:j<S.length:=by rw[← s.len];exact(List.getElem?_eq_some_iff.mp e).1
  rw[getElem?_set_self n] at d;cases d;exact p J _ x rfl rfl
 rw[getElem?_set_ne (Ne.symm g)] at d;refine(s.at_ j b i c d).ex x ?_;rw[aF];intro z;subst z;exact g ((List.getElem?_inj (List.getElem?_eq_some_iff.mp c).1 s.nd).mp (c.trans e.symm))
def rQ (x k v:D)(ρ:G1)(S:G0):Out Fl:=match x with
 | .loc l=>match S[l]?,dO k with
  |some (.dict kvs),some _=>if kvs.length<sizeLine then G9 (.next ρ) (S.set l (.dict (putD kvs k v))) else none
  |_,_=>none
 |_=>none
def vA (fo fi fv:GU D):GU Fl:=λa S=>ai (fv a S) λv c=>ai (fo a c) λx b=>ai (fi a b) λk d=>rQ x k v a d
def tH (X:Cx)(W:WT)(ds:List D)(vs:List V)(g:GU Fl):TS:=λE c H => ∃ J a S r b,Cf X J a S c H/\G5 X.K H J ds vs/\g a S=some (r,b)/\KY X W J H r b E
theorem tH.Ha {f:GU D}{k:D->GU Fl}{ds:List D}{vs:List V}{E:Ends}{g:St}{H:Hp}
  (h:tH X W ds vs (λρ S=>ai (f ρ S) λd b=>k d ρ b) E g H):tE X W f g H λv i => ∃ d,tH X W (d::ds) (v::vs) (k d) E g i:=by
 obtain⟨J,ρ,S,r,p,c,a,e,z⟩:=h;cases q:f ρ S with
 |none=>simp[q] at e
 |some o =>
  obtain⟨n,b⟩:=o;simp only[q] at e;cases n with
  |error x =>
   cases e;exact⟨J,ρ,S,.error x,_,c,.nil,q,z⟩
  |ok d=>exact⟨J,ρ,S,.ok d,b,c,.nil,q,λl i v x j m=>⟨d,l,ρ,b,r,p,c.re x j,.cons m (a.ex x),e,z.ex x⟩⟩
theorem sM {k:D}{y:Key}{K:GV}{H:Hp}{J:List Addr}{v:V}(g:dO k=some y)(a:At K H J k v):v=kV y:=by
 cases k with
 |int i=>cases g;exact At.G2.mp a
 |str x=>cases g;exact(At.Hd.mp a).1
 |_=>cases g
theorem uG (Q:X.A.units+1<cLine)(B:SE X W o fo)(hi:SE X W i fi)(N:SE X W e fv)(D:swapsWith e (some (.Subscript o i pos')) pos.line X.env=pure false:=by rfl):SS X W (.Assign [.Subscript o i pos'] e pos) (vA fo fi fv):=
 (Bi Q B hi N D).imp λE j H h=>by
  have h:tH X W [] [] (vA fo fi fv) E j H:=let ⟨J,f,S,r,t,c,e,z⟩:=h;⟨J,f,S,r,t,c,.nil,e,z⟩;refine(tH.Ha h).mono λv H1 ⟨G,T⟩=>(tH.Ha T).mono λx Z ⟨U,C⟩=>(tH.Ha C).mono λy Y ⟨w,L⟩=>?_;obtain⟨J,f,S,r,t,c,m,e,z⟩:=L;obtain⟨mk,m⟩:=m.G6;obtain⟨u,m⟩:=m.G6;obtain⟨P,_⟩:=m.G6;unfold rQ at e;cases U with
  |loc l =>
   simp only at e;split at e
   ·rename_i d O es s;split at e
    ·rename_i lt;cases e;obtain⟨a,rfl,g⟩:=At.Hc.mp u;obtain⟨F,K,n⟩:=c.Hu.at_ l a _ g es;have R:=sM s mk;subst R;have q:=c.Hu.update (o:=.dK (putK F O v)) (mo:=.dict (putD d w G)) g λV H' b I M=>by subst I M;refine⟨_,G_,CT s (mk.ex b) (P.ex b) ?_⟩;exact Paired.KL n λp q z=>⟨⟨z.1.1,z.1.2.ex b⟩,z.2.ex b⟩
     exact⟨a,_,rfl,MT.k K (by rw[← iZ n];exact lt),z J j _ q.2 (c.re q.2 q.1)⟩
    cases e
   cases e
  |_=>cases e
def BX (neg:Bool)(k x:D)(S:G0):Option D:=match x with
 | .loc l=>match S[l]?,dO k with
  |some (.dict kvs),some _=>some (.bl (if neg then !(getD kvs k).isSome else (getD kvs k).isSome))
  |_,_=>none
 |_=>none
def Av (neg:Bool)(d fd:GU D):GU D:=λa S=>ai (d a S) λk c=>ai (fd a c) λx b=>aK (BX neg k x b) b
theorem tj {neg:Bool}{f:St}{H:Hp}{Q:VK}(h:tE X W (Av neg fi fo) f H Q):tE X W fi f H λy j=>tE X W fo f j λx b => ∃ a o,x = .ref a/\JI b a y o/\Q (.bl (if neg then !o.isSome else o.isSome)) b:=
 (tG.Ha h).mono λy j ⟨G,D⟩=>(tG.Ha D).mono λx b w=>by
  obtain⟨E,t⟩:=w
  obtain⟨J,F,S,r,L,c,m,e,z⟩:=t;obtain⟨p,m⟩:=m.G6;obtain⟨mk,_⟩:=m.G6;unfold BX at e;cases E with
  |loc l =>
   simp only at e;split at e
   ·rename_i B K es n;cases e;obtain⟨a,rfl,s⟩:=At.Hc.mp p;obtain⟨I,A,u⟩:=c.Hu.at_ l a _ s es;have C:=sM n mk;subst C;refine⟨a,_,rfl,JI.k A,?_⟩;have q:=z J b _ Ex.refl c.Hu (At.Ht.mpr rfl);rcases z7 n u with ⟨i,g⟩ |⟨d,v,i,g,_⟩
    ·rw[i] at q;rw[g];exact q
    rw[i] at q;rw[g];exact q
   cases e
  |_=>cases e
theorem CK (a:X.A.units+1<cLine)(hi:SE X W i fi)(b:SE X W o fo)(c:behindInMarks .In o=false:=by with_unfolding_all rfl):SE X W (.Compare i [.In] [o] pos) (Av false fi fo):=
 (Da (Db a hi b) c).imp λd H Q h=>tj (neg:=false) h
theorem w4 (a:X.A.units+1<cLine)(hi:SE X W i fi)(b:SE X W o fo)(c:behindInMarks .NotIn o=false:=by with_unfolding_all rfl):Ky X W (.Compare i [.NotIn] [o] pos) (a9 (Av true fi fo)):=
 (yY (xz a hi b) c).imp λd H Q h=>Jv.mono (t:=vS (tE X W fi) (tE X W fo)) (λ_ _ _=>tj (neg:=true)) (jt h)
def wF (x k:D)(S:G0):Option D:=match x with
 | .loc l=>match S[l]?,dO k with
  |some (.dict kvs),some _=>getD kvs k
  |_,_=>none
 |_=>none
def E_ (fd d:GU D):GU D:=λa S=>ai (fd a S) λx c=>ai (d a c) λk b=>aK (wF x k b) b
theorem A_ (E:X.A.units+1<cLine)(p:SE X W o fo)(hi:SE X W i fi)(t:yq i):SE X W (.Subscript o i pos) (E_ fo fi):=(Bt E p hi t).imp λM H Q h =>
 (tG.Ha h).mono λx P ⟨I,G⟩=>(tG.Ha G).mono λy C w=>by
  obtain⟨L,q⟩:=w
  obtain⟨J,K,S,r,R,c,m,e,z⟩:=q;obtain⟨mk,m⟩:=m.G6;obtain⟨j,_⟩:=m.G6;unfold wF at e;cases I with
  |loc l =>
   simp only at e;split at e
   ·rename_i D O es g;obtain⟨a,rfl,n⟩:=At.Hc.mp j;obtain⟨N,B,s⟩:=c.Hu.at_ l a _ n es;have F:=sM g mk;subst F;rcases z7 g s with ⟨b,f⟩ |⟨d,v,b,f,u⟩
    ·rw[b] at e;cases e
    rw[b] at e;cases e;exact⟨a,v,rfl,by rw[← f];exact JI.k B,z J C _ Ex.refl c.Hu u⟩
   cases e
  |_=>cases e
end
section
variable {X:Cx}{W:WT}
theorem SE.either {e:Expr}{g g1 g2:GU D}(j:SE X W e g1)(i:SE X W e g2)(h:∀ ρ S,g ρ S=g1 ρ S∨g ρ S=g2 ρ S):SE X W e g:=λb s d H Q I z=>by
 obtain⟨J,ρ,S,r,f,c,a,e,y⟩:=z;rcases h ρ S with q |q
 ·exact j b s d H Q I ⟨J,ρ,S,r,f,c,a,by rw[← q];exact e,y⟩
 exact i b s d H Q I ⟨J,ρ,S,r,f,c,a,by rw[← q];exact e,y⟩
theorem Ky.either {e:Expr}{g g1 g2:GU Bool}(j:Ky X W e g1)(i:Ky X W e g2)(h:∀ ρ S,g ρ S=g1 ρ S∨g ρ S=g2 ρ S):Ky X W e g:=λb s d H Q I z=>by
 obtain⟨J,ρ,S,r,f,c,a,e,y⟩:=z;rcases h ρ S with q |q
 ·exact j b s d H Q I ⟨J,ρ,S,r,f,c,a,by rw[← q];exact e,y⟩
 exact i b s d H Q I ⟨J,ρ,S,r,f,c,a,by rw[← q];exact e,y⟩
theorem SI.either {b e:Expr}{g g1 g2:GU (List D)}(j:SI X W b e g1)(i:SI X W b e g2)(h:∀ ρ S,g ρ S=g1 ρ S∨g ρ S=g2 ρ S):SI X W b e g:=λa s d H R I z=>by
 obtain⟨J,ρ,S,r,f,c,e,y⟩:=z;rcases h ρ S with q |q
 ·exact j a s d H R I ⟨J,ρ,S,r,f,c,by rw[← q];exact e,y⟩
 exact i a s d H R I ⟨J,ρ,S,r,f,c,by rw[← q];exact e,y⟩
theorem b8 {α e:Type}(m:Out α){k d b : α->G0->Out e}(h:∀ a S,k a S=d a S∨k a S=b a S):ai m k=ai m d∨ai m k=ai m b:=by
 cases m with
 |none=>exact .inl rfl
 |some o =>
  obtain⟨r,S⟩:=o;cases r with
  |error c=>exact .inl rfl
  |ok a=>exact h a S
def bI:D->Bool
 | .loc _=>true
 |_=>false
def HL (x i:D)(S:G0):Option D:=if bI x=true then wF x i S else N3 x i
def IA (c e:GU D):GU D:=λa S=>ai (c a S) λx d=>ai (e a d) λi b=>aK (HL x i b) b
variable {a b:Expr}{fa fb:GU D}{pos:Pos}
theorem aP (j:X.A.units+1<cLine)(d:SE X W a fa)(f:SE X W b fb)(g:yq b:=by exact λ_ _=>rfl):SE X W (.Subscript a b pos) (IA fa fb):=
 SE.either (A_ j d f g) (Cg Uz d f g) λc S=>b8 _ λx e=>by
  by_cases h:bI x=true
  ·refine .inl (congrArg (ai (fb c e)) (funext λi=>funext λk=>?_));unfold HL;rw[if_pos h]
  refine .inr (congrArg (ai (fb c e)) (funext λi=>funext λk=>?_));unfold HL;rw[if_neg h]
def LY (neg:Bool)(k x:D)(S:G0):Option D:=if bI x=true then BX neg k x S else (if neg=true then qq k x else inD k x)
def Lr (neg:Bool)(d fd:GU D):GU D:=λa S=>ai (d a S) λk c=>ai (fd a c) λx b=>aK (LY neg k x b) b
theorem o_ (neg:Bool)(a fd:GU D)(ρ:G1)(S:G0):Lr neg a fd ρ S=Av neg a fd ρ S∨Lr neg a fd ρ S=aG (if neg=true then qq else inD) a fd ρ S:=by
 unfold Lr Av aG;refine b8 _ λk c=>b8 _ λx b=>?_;unfold LY;by_cases h:bI x=true
 ·exact .inl (by rw[if_pos h])
 refine .inr ?_;rw[if_neg h];cases neg<;>rfl
variable (hu:X.A.units+150<cLine) (Hs:X.A.units+1<cLine)
include hu Hs
theorem qf (g:X.A.units+151<cLine)(c:SE X W a fa)(d:SE X W b fb)(e:behindInMarks .In b=false:=by with_unfolding_all rfl):SE X W (.Compare a [.In] [b] pos) (Lr false fa fb):=
 SE.either (CK Hs c d e) (qg (EG g) c d e) λf S=>o_ false fa fb f S
theorem uC {f a b:GU D}{ρ:G1}{S:G0}(h:f ρ S=a ρ S∨f ρ S=b ρ S):a9 f ρ S=a9 a ρ S∨a9 f ρ S=a9 b ρ S:=by
 unfold a9;rcases h with h |h
 ·exact .inl (by rw[h])
 exact .inr (by rw[h])
theorem j8 (g:X.A.units+151<cLine)(c:SE X W a fa)(d:SE X W b fb)(e:behindInMarks .NotIn b=false:=by with_unfolding_all rfl):Ky X W (.Compare a [.NotIn] [b] pos) (a9 (Lr true fa fb)):=
 Ky.either (w4 Hs c d e) (bG (zr g) c d e) λf S=>uC hu Hs (o_ true fa fb f S)
omit hu Hs
def bX:D->Option (List D)
 | .tup a=>some a
 | .lst a=>some a
 | .str x=>some (x.cps.toList.map λc=>D.str ⟨#[c]⟩)
 |_=>none
def aW (f:GU D):GU (List D):=λa S=>ai (f a S) λd b=>aK (bX d) b
theorem bM {g:Expr}(e:SE X W a fa):SI X W g a (aW fa):=by
 refine SI.either (g1:=vz fa) (g2:=λb S=>ai (fa b S) λd f=>aK (match d with | .lst h=>some h | .str x=>some (x.cps.toList.map λc=>D.str ⟨#[c]⟩) |_=>none) f) (CF e) (SI.either (CH e) (CG e) λb S=>?_) λb S=>?_
 ·unfold Au Ap;refine b8 _ λd f=>?_;cases d<;>first |exact .inl rfl |exact .inr rfl
 unfold aW vz;refine b8 _ λd f=>?_;cases d<;>first |exact .inl rfl |exact .inr rfl
end
noncomputable def aZ (n m:Nat) (G:GU Fl):GZ:=λa S=>if a.length=n then
  match G (a.map some++replicate m none) S with
  |some (.ok (.ret d),S')=>some (.ok d,S')
  |some (.ok (.next _),S')=>some (.ok .Ho,S')
  |_=>none
 else none
def bf (K:GV)(mg:GY)(x:Str)(st:Stmt)(a:List Str):Prop:=∃ f fd,Lz K x x st f fd/\mg x=some (.ref f)/\Binds K fd a []
def IS (P:Program)(w:World)(K:GV)(mg:GY)(base:Heap)(k:Nat)(x:Str)(a:List Str)(F:GZ):Prop:=
 ∃ f fd,Nl P w K mg base k f fd a F/\mg x=some (.ref f)/\PySem.W.keepIn K (.ref f)=true/\Binds K fd a []
section
variable {P:Program}{w:World}{K:GV}{mg:GY}{base:Heap}
theorem nH {x:Str}{st:Stmt}{sc:Scope}{N a:List Str}{k:Nat}{G:GU Fl}{f:Addr}{fd:FuncData}(l:Lz K x x st f fd)(m:ao st=sc)(Sc:G4 N a sc)
  (h:∀ (f:Addr) (b:Value) (A:Around) (outer:List Env) (s:Shared) (H:Hp) (E:XK),Hv k (A.deeper (envOfC x sc s.heap.objs.size f b))->Mf (lR LR P w K mg base N x sc f b A outer s H E).Nh W0 (bx st) G) :
  Nl P w K mg base (k+1) f fd a (aZ a.length (N.length-a.length) G):=by
 subst m;refine wC l Sc (λn S r e=>?_) λb A outer s H E g=>⟨G,h f b A outer s H E g,λn S d p e=>?_⟩
 ·unfold aZ at e;split at e
  ·assumption
  cases e
 unfold aZ at e;split at e
 ·rename_i i;rw[i];split at e
  ·rename_i o j q;cases e;exact⟨_,q,.inl rfl⟩
  ·rename_i c j q;cases e;exact⟨_,q,.inr ⟨rfl,c,rfl⟩⟩
  cases e
 cases e
theorem aS {x:Str}{st:Stmt}{sc:Scope}{N a:List Str}{k:Nat}{G:GU Fl}(d:bf K mg x st a)(i:ao st=sc)(Sc:G4 N a sc)
  (h:∀ (f:Addr) (b:Value) (A:Around) (outer:List Env) (s:Shared) (H:Hp) (E:XK),Hv k (A.deeper (envOfC x sc s.heap.objs.size f b))->Mf (lR LR P w K mg base N x sc f b A outer s H E).Nh W0 (bx st) G) :
  IS P w K mg base (k+1) x a (aZ a.length (N.length-a.length) G):=by
 obtain⟨f,fd,c,e,g⟩:=d;exact⟨f,fd,nH c i Sc h,e,c.kp,g⟩
theorem jN {x:Str}{st:Stmt}{b:List Str}{k:Nat}(c:bf K mg x st b):IS P w K mg base k x b (λ_ _=>none):=by
 obtain⟨f,fd,i,g,j⟩:=c;have no:∀ a H Q E,¬ RM K (λ_ _=>none) a H Q E:=λa H Q E h=>by obtain⟨J,S,n,d,m,_,_,e,_⟩:=h;cases e
 exact⟨f,fd,⟨λa H Q E h=>absurd h (no a H Q E),λA outer s H args l a Q E _ _ _ _ h=>absurd h (no a H Q E)⟩,g,i.kp,j⟩
theorem aV {A:Around}{k:Nat}(a:Hv k A):A.units+150<cLine:=by have:=a.un;omega
theorem aU {A:Around}{k:Nat}(a:Hv k A):A.units+151<cLine:=by have:=a.un;omega
end
section
variable {X:Cx}{W:WT}{x:Str}{p pos:Pos}{e:Expr}{es:List Expr}{gs:GU (List D)}
theorem aD {k:Nat}{a:List Str}{F:GZ}(C:IS X.prog X.w X.K X.mg X.base k x a F)(g:Hv k X.A)
  (b:SA X W (e::es) gs) (m:Gl X x:=by rfl) (h:(x==("__debug__":Str))=false:=by decide) (i:starEach (e::es) X.env=(false,eval e X.env)::starEach es X.env:=by rfl) (d:(backTo pos (starEach es X.env)).any (·.1)=false:=by rfl) :
  SE X W (.Call (.Name x p) (e::es) [] pos) (aN F gs):=by
 obtain⟨f,fd,G,l,c,j⟩:=C;exact Ba G g l c j b m h i d
end
def vV (K:GV)(n:Nat):Sp:=λc H Q _ => ∃ (a:Addr) (ns:List Int),c=[.ref a]/\Ki K H a (ns.map V.int)/\ns.length<=n/\∀ b,Q (.bl true) b
theorem Dm {P:Program}{w:World}{K:GV}{mg:GY}{base:Heap}{k n:Nat}{f:Addr}{fd:FuncData}{d:List Str}{F:GZ}(h:Nl P w K mg base k f fd d F)(r:n<=1000)
  (s:∀ ns:List Int,ns.length<=n->∃ b,F [.lst (ns.map .int)] []=some (.ok (.bl true),b)):IE P w K mg base LR k f fd d (vV K n):=by
 refine IE.imp h λu H Q E i=>?_;obtain⟨a,ns,e,p,c,q⟩:=i;subst e;obtain⟨b,g⟩:=s ns c;refine⟨[],[],[.lst (ns.map .int)],.bl true,b,.cons (At.Hh.mpr ⟨a,ns.map V.int,rfl,?_,G5.ofInts ns⟩) .nil,⟨rfl,.nil,λl a o h=>by simp at h⟩,g,λt j v _ _ m=>?_⟩
 ·rcases p with z |z
  ·exact .inl ⟨z,by simp,by rw[length_map];exact Nat.le_trans c (Nat.le_trans r (by decide))⟩
  exact .inr z
 rw[At.Ht.mp m];exact q j
theorem M0 {l:PySem.W.OpenLaw}{q:Program}{loose:List Str}{j:(GY)->Heap->Prop}{c:World->Heap->Prop}{d:DefRec}{K:Params->GV}{k:Nat}{x:Str}(o:l.most=some 63)(e:d.params.defaults=[])(g:Hv k callerA)
  (p:∀ (w:World) (h:Heap),c w h->(K w.params).In h)
  (F:∀ (w:World) (mg:GY) (b:Addr) (h:Heap),(K w.params).In h->h.Ns mainGlobals mg->mg d.name=some (.ref b) ->
   ∃ fd:FuncData,(∀ (s:Shared) (u:Value),BindsTo s fd ⟨[u],[]⟩ [(x,u)])/\∀ base:Heap,(K w.params).In base->base.Ns mainGlobals mg->IE l.prog w (K w.params) mg base LR k b fd [x] (vV (K w.params) 63)) :
  PySem.W.WalkO q loose j c l.row.toRowW d [] (λf vs=>PySem.call f vs):=
 L2.NG (n:=63) (k:=k) (x:=x) (CX:=λ_=>LR) (sp:=λw=>vV (K w.params) 63) o (by decide) e g p F (λ_ _ a ns i _ m=>⟨a,ns,rfl,m,i,λ_=>rfl⟩) λ_ _ _ _ _ z=>z
theorem fW:bootBuiltins "len"=some (.builtin "len"):=by decide
theorem cN:bootBuiltins "tuple"=some (.type "tuple"):=by decide
theorem B7:bootBuiltins "list"=some (.type "list"):=by decide
theorem DU:bootBuiltins "int"=some (.type "int"):=by decide
theorem DS:bootBuiltins "set"=some (.type "set"):=by decide
theorem DT:bootBuiltins "min"=some (.builtin "min"):=by decide
theorem Ax:bootBuiltins "all"=some (.builtin "all"):=by decide
theorem DV:bootBuiltins "any"=some (.builtin "any"):=by decide
theorem iC:bootBuiltins "sorted"=some (.builtin "sorted"):=by decide
end L2
namespace L2
open PySem
section
variable {prog:Program}{w:World}{K:Type} [DecidableEq K]
abbrev ug (knd:KeyKind prog w K):K->Int×Value->Prop:=λk e=>knd.is k e.2=true/\e.1=knd.hash k/\e.2.scannable=true
def Jd (xs:Array Nat):Prop:=xs.toList.Pairwise (· < ·)
theorem Jd.lt {xs:Array Nat}(h:Jd xs){i j:Nat}(a:i<j)(b:j<xs.size):xs[i]'(Nat.lt_trans a b)<xs[j]:=by have:=pairwise_iff_getElem.mp h i j (by simpa using Nat.lt_trans a b) (by simpa using b) a;simpa using this
theorem nT (xs:Array Nat)(j:Nat):∀ (fuel lo hi:Nat),hi-lo<=fuel->lo<=hi->hi<=xs.size->Jd xs->(∀ i (h:i<xs.size),i<lo->xs[i]<j)->(∀ i (h:i<xs.size),hi<=i->j<=xs[i]) ->
  SetTable.below.go xs j fuel lo hi<=xs.size/\(∀ i (h:i<xs.size),i<SetTable.below.go xs j fuel lo hi->xs[i]<j)/\(∀ i (h:i<xs.size),SetTable.below.go xs j fuel lo hi<=i->j<=xs[i])
 | 0,lo,hi,m,k,c,_,d,b=>by
  have e:lo=hi:=by omega
  subst e;unfold SetTable.below.go;exact⟨c,d,b⟩
 |fuel+1,lo,hi,m,k,c,hr,d,b=>by
  unfold SetTable.below.go;by_cases h:lo<hi
  ·rw[if_pos h];have g:(lo+hi) / 2<xs.size:=by omega
   have l:xs.getD ((lo+hi) / 2) j=xs[(lo+hi) / 2]:=by simp[Array.getD,g]
   simp only[l];by_cases a:xs[(lo+hi) / 2]<j
   ·rw[if_pos a];refine nT xs j fuel _ hi (by omega) (by omega) c hr (λi f o=>?_) b;rcases lt_or_ge i ((lo+hi) / 2) with q |q
    ·exact Nat.lt_trans (hr.lt q g) a
    have e:i=(lo+hi) / 2:=by omega
    subst e;exact a
   rw[if_neg a];refine nT xs j fuel lo _ (by omega) (by omega) (by omega) hr d λi f n=>?_;rcases lt_or_ge ((lo+hi) / 2) i with q |q
   ·have:=hr.lt q f;omega
   have e:i=(lo+hi) / 2:=by omega
   subst e;omega
  rw[if_neg h];have e:lo=hi:=by omega
  subst e;exact⟨c,d,b⟩
theorem nS {xs:Array Nat}(a:Jd xs)(j:Nat):SetTable.below xs j<=xs.size/\(∀ i (h:i<xs.size),i<SetTable.below xs j->xs[i]<j)/\(∀ i (h:i<xs.size),SetTable.below xs j<=i->j<=xs[i]):=by unfold SetTable.below;exact nT xs j xs.size 0 xs.size (by omega) (by omega) (le_refl _) a (λi _ h=>absurd h (by omega)) λi h q=>absurd h (by omega)
theorem tY {xs:Array Nat}(e:Jd xs){j p:Nat}(g:p<=xs.size)(d:∀ i (h:i<xs.size),i<p->xs[i]<j)(f:∀ i (h:i<xs.size),p<=i->j<=xs[i]):SetTable.below xs j=p:=by
 obtain⟨a,b,c⟩:=nS e j;rcases Nat.lt_trichotomy (SetTable.below xs j) p with q |q |q
 ·have x:=c _ (by omega) (le_refl _);have y:=d (SetTable.below xs j) (by omega) q;omega
 ·exact q
 have x:=b p (by omega) q;have y:=f p (by omega) (le_refl _);omega
theorem iY {t:SetTable}{f:Nat->Int}{h:Int}:∀ (fuel:Nat) (p:SetTable.Probe) {j:Nat}{a:Option Nat},(∀ d,p.dummy=some d->t.slot d = .dummy)->SetTable.probe.go t f h fuel p=some (.empty j a)->t.slot j = .empty/\∀ d,a=some d->t.slot d = .dummy
 | 0,p,j,a,_,e=>by unfold SetTable.probe.go at e;cases e
 |fuel+1,p,j,a,hd,e=>by
  have c:∀ q:SetTable.Probe,(t.advance q).dummy=q.dummy:=λq=>by unfold SetTable.advance;split<;>rfl
  unfold SetTable.probe.go at e;split at e
  ·rename_i b;cases e;exact⟨b,hd⟩
  ·rename_i b;exact iY fuel _ (by rw[c];intro d q;cases q;exact b) e
  split at e
  ·cases e
  exact iY fuel _ (by rw[c];exact hd) e
theorem xY {t:SetTable}{h:Int}{j:Nat}{f:Bool}(e:t.freeSlot h=some (j,f)):∀ i,t.slot j≠.live i:=by
 unfold SetTable.freeSlot at e;split at e
 ·rename_i k b q;obtain⟨a,c⟩:=iY _ _ (by intro d z;cases z) q;cases e;intro i;cases b with
  |none=>rw[show (none:Option Nat).getD k=k from rfl,a];intro z;cases z
  |some d=>rw[show (some d).getD k=d from rfl,c d rfl];intro z;cases z
 cases e
theorem Jd.put {t:SetTable}(f:Jd t.place){j:Nat}(p:∀ i,t.slot j≠.live i):Jd (t.put j).1.place:=by
 obtain⟨a,b,c⟩:=nS f j;have m:t.place[SetTable.below t.place j]?≠some j:=λe=>p (SetTable.below t.place j) (by unfold SetTable.slot;simp[e]);unfold SetTable.put Jd SetTable.insertAt;simp only[toList_append,toList_push,toList_extract];have w:(t.place.toList.drop 0).take (SetTable.below t.place j-0)=t.place.toList.take (SetTable.below t.place j):=by simp
 have key:∀ i,SetTable.below t.place j<=i->∀ h:i<t.place.size,j<t.place[i]:=by
  intro i d h;have s:=c i h d;rcases lt_or_ge j t.place[i] with q |q
  ·exact q
  exfalso;have g:SetTable.below t.place j<t.place.size:=by omega
  have v:=c _ g (le_refl _);rcases lt_or_ge (SetTable.below t.place j) i with z |z
  ·have:=f.lt z h;omega
  have e:SetTable.below t.place j=i:=by omega
  refine m ?_;rw[Array.getElem?_eq_getElem g];congr 1;have:t.place[SetTable.below t.place j]=t.place[i]:=by simp only[e]
  omega
 have u:(t.place.toList.drop (SetTable.below t.place j)).take (t.place.size-SetTable.below t.place j)=t.place.toList.drop (SetTable.below t.place j):=take_of_length_le (by simp);simp only[List.extract_eq_drop_take,drop_zero,Nat.sub_zero] at *
 rw[u];rw[List.append_assoc,pairwise_append,List.singleton_append,pairwise_cons];refine⟨f.sublist (List.take_sublist ..),⟨λy hy=>?_,f.sublist (List.drop_sublist ..)⟩,λx o y hy=>?_⟩
 ·obtain⟨i,d,e⟩:=getElem_of_mem hy;rw[List.getElem_drop] at e;have:=key (SetTable.below t.place j+i) (by omega) (by simp at d;omega);rw[getElem_toList] at e;omega
 obtain⟨i,d,e⟩:=getElem_of_mem o;rw[List.getElem_take,getElem_toList] at e;have l:i<SetTable.below t.place j:=by simp at d;omega
 have s:=b i (by omega) l;rcases mem_cons.mp hy with rfl |hy
 ·omega
 obtain⟨k,r,n⟩:=getElem_of_mem hy;rw[List.getElem_drop,getElem_toList] at n;have:=key (SetTable.below t.place j+k) (by omega) (by simp at r;omega);omega
theorem Jd.range (n:Nat):Jd (Array.range n):=by unfold Jd;rw[Array.toList_range];exact List.pairwise_lt_range
theorem Jd.orStandIn {t:SetTable}(n:Nat)(h:Jd t.place):Jd (t.orStandIn n).place:=by
 unfold SetTable.orStandIn;split
 ·exact h
 exact Jd.range n
theorem u8 {t:SetTable}(es:Array (Int×Value))(h:Int)(x:Value)(a:Jd t.place):Jd (layNew t es h x).2.1.place:=by
 unfold layNew;split
 ·rename_i slot b e;exact Jd.orStandIn _ (a.put (xY e))
 exact Jd.range _
theorem uM {t t':SetTable}{f:Array Int}{n:Nat}{order:Array Nat}(h:t.relaid f n=some (t',order)):Jd t'.place:=by
 unfold SetTable.relaid SetTable.laid at h;cases e:SetTable.layClean (SetTable.sizeAbove n-1) f with
 |none=>simp[e] at h
 |some o =>
  simp only[e,Option.bind_eq_bind,bind_some,pure_def,Option.some.injEq,Prod.mk.injEq] at h;obtain⟨rfl,_⟩:=h;unfold Jd;simp only[List.toList_toArray,pairwise_map];rw[List.pairwise_filterMap];refine List.pairwise_lt_range.imp λ{a b} g c e d hd=>?_;obtain⟨u,_,rfl⟩:=map_eq_some_iff.mp e;obtain⟨v,_,rfl⟩:=map_eq_some_iff.mp hd;exact g
theorem qi {t:SetTable}(es:Array (Int×Value))(n:Nat):Jd (relayAll t es n).2.1.place:=by
 unfold relayAll;split
 ·rename_i a order e;dsimp only;split
  ·exact uM e
  exact Jd.range _
 exact Jd.range _
def HI (knd:KeyKind prog w K)(pk:K->Bool)(led:Bool)(h:Heap)(a:Addr)(b:List K):Prop:=
 ∃ o es ep t,h.get? a=some o/\o.ExactSet/\o.data = .set es ep t/\(∃ l:List (Int×Value),l.Perm es.toList/\Paired (ug knd) b l) /\
  es.size<scanBound/\t.fits es.size=true/\t.led=led/\(t.plain=true->∀ k∈b,pk k=true)/\Jd t.place
theorem mX {α c:Type}{F : α->c->Prop}{l:List α}{m:List c}(r:Paired F l m):∀ b∈m,∃ a∈l,F a b:=by
 induction r with
 |nil=>intro b hb;cases hb
 |cons f t e =>
  intro b hb;rcases mem_cons.mp hb with rfl |hb
  ·exact⟨_,mem_cons_self ..,f⟩
  obtain⟨a,d,g⟩:=e b hb;exact⟨a,mem_cons_of_mem _ d,g⟩
theorem rW {α c:Type}{F : α->c->Prop}{l:List α}{m:List c}(r:Paired F l m):∀ a∈l,∃ b∈m,F a b:=by
 induction r with
 |nil=>intro b hb;cases hb
 |cons f t e =>
  intro b hb;rcases mem_cons.mp hb with rfl |hb
  ·exact⟨_,mem_cons_self ..,f⟩
  obtain⟨a,d,g⟩:=e b hb;exact⟨a,mem_cons_of_mem _ d,g⟩
theorem rV {α c:Type}{F : α->c->Prop}{l:List α}{m:List c}(r:Paired F l m){a : α}{b : c}(f:F a b):Paired F (l++[a]) (m++[b]):=by
 induction r with
 |nil=>exact .cons f .nil
 |cons g t d=>exact .cons g d
theorem lq {α a:Type}{F : α->a->Prop}{l:List α}{m:List a}(r:Paired F l m):l.length=m.length:=by
 induction r with
 |nil=>rfl
 |cons g t b=>simp[b]
variable {knd:KeyKind prog w K}{pk:K->Bool}{led:Bool}
theorem n5 (t:SetTable)(n:Nat):(t.orStandIn n).led=t.led/\((t.orStandIn n).plain=true->t.plain=true):=by
 unfold SetTable.orStandIn;split
 ·exact⟨rfl,id⟩
 exact⟨rfl,λz=>by simp[SetTable.standIn] at z⟩
theorem u9 (t:SetTable)(es:Array (Int×Value))(h:Int)(x:Value):(layNew t es h x).2.1.led=t.led/\((layNew t es h x).2.1.plain=true->t.plain=true):=by
 unfold layNew;split
 ·rename_i slot a _;exact n5 (t.put slot).1 _
 exact⟨rfl,λz=>by simp[SetTable.standIn] at z⟩
theorem uN {t t':SetTable}{a:Array Int}{n:Nat}{order:Array Nat}(h:t.relaid a n=some (t',order)):t'.led=t.led/\t'.plain=t.plain:=by
 unfold SetTable.relaid SetTable.laid at h;cases hc:SetTable.layClean (SetTable.sizeAbove n-1) a with
 |none=>simp[hc] at h
 |some o =>
  simp only[hc,Option.bind_eq_bind,bind_some,pure_def,Option.some.injEq,Prod.mk.injEq] at h;obtain⟨rfl,_⟩:=h;exact⟨rfl,rfl⟩
theorem qj (t:SetTable)(es:Array (Int×Value))(n:Nat):(relayAll t es n).2.1.led=t.led/\((relayAll t es n).2.1.plain=true->t.plain=true):=by
 unfold relayAll;split
 ·rename_i c order e;obtain⟨a,b⟩:=uN e;dsimp only;split
  ·exact⟨a,λz=>by rw[← b];exact z⟩
  exact⟨rfl,λz=>by simp[SetTable.standIn] at z⟩
 exact⟨rfl,λz=>by simp[SetTable.standIn] at z⟩
theorem HI.elems {h:Heap}{a:Addr}{g:List K}{es:Array (Int×Value)}(i:∃ l:List (Int×Value),l.Perm es.toList/\Paired (ug knd) g l):ElemsOf knd es.toList:=λe d=>by obtain⟨l,p,r⟩:=i;obtain⟨k,_,c,f,b⟩:=mX r e (p.mem_iff.mpr d);exact⟨⟨k,c,f⟩,b⟩
theorem HI.mem {c:List K}{es:Array (Int×Value)}(i:∃ l:List (Int×Value),l.Perm es.toList/\Paired (ug knd) c l)(k:K):k∈c↔∃ e∈es.toList,knd.is k e.2=true:=by
 obtain⟨l,p,r⟩:=i;constructor
 ·intro f;obtain⟨e,b,a,_⟩:=rW r k f;exact⟨e,p.mem_iff.mp b,a⟩
 rintro⟨e,b,a⟩;obtain⟨d,g,h,_⟩:=mX r e (p.mem_iff.mpr b);rw[knd.inj e.2 k d a h];exact g
def cW (a:List K)(k:K):List K:=if k∈a then a else a++[k]
variable {A:Around}{E:GW}{s:Shared}
theorem HI.stored {h:Heap}{a:Addr}{o:Obj}{es:Array (Int×Value)}{ep:Nat}{t:SetTable}(d:h.get? a=some o)(hex:o.ExactSet)(hd:o.data = .set es ep t){JQ:Array (Int×Value)}{t':SetTable}{b:List K}
  (f:∃ l:List (Int×Value),l.Perm JQ.toList/\Paired (ug knd) b l) (m:JQ.size<scanBound) (j:t'.fits JQ.size=true) (i:t'.led=led) (c:t'.plain=true->∀ k∈b,pk k=true) (e:Jd t'.place) :
  (h.update a (Obj.putSet JQ t')).get? a=some { o with data:=.set JQ (ep+1) t' }/\HI knd pk led (h.update a (Obj.putSet JQ t')) a b:=by
 have g:(h.update a (Obj.putSet JQ t')).get? a=some { o with data:=.set JQ (ep+1) t' }:=by have q:=Heap.get?_update_self (Obj.putSet JQ t') d (by rw[putSet_of JQ t' hd];rfl);rw[putSet_of JQ t' hd] at q;exact q
 exact⟨g,_,JQ,ep+1,t',g,hex,rfl,f,m,j,i,c,e⟩
theorem nB (b:Bool){a:Shared}{c:Unit->Shared->Prop}(d:c () a):wpAny (model prog w) A (match b with |true=>rule "set.scan.the-table-gave-way" |false=>pure ()) c E a:=by
 cases b
 ·exact wpAny_pure d
 exact wpAny_rule d
theorem vW {g:Bool->Sem Unit}(L:∀ (b:Bool) (d:Shared) (u:Unit->Shared->Prop),u () d->wpAny (model prog w) A (g b) u E d)
  {a:Addr}{o:Obj}{es:Array (Int×Value)}{ep:Nat}{t:SetTable}(v:s.heap.get? a=some o) (hex:o.ExactSet) (hd:o.data = .set es ep t)
  {c:Array (Int×Value)}{t2:SetTable}{m:List K}(x:∃ l:List (Int×Value),l.Perm c.toList/\Paired (ug knd) m l)
  (n:c.size<scanBound) (J:t2.fits c.size=true) (D:t2.led=led) (q:t2.plain=true->∀ k∈m,pk k=true) (G:Jd t2.place) {H:Bool}{R:Option Bool->Shared->Prop}
  (h:∀ h',Heap.SameBut a s.heap h'->HI knd pk led h' a m->R (some true) { s with heap:=h' }) :
  wpAny (model prog w) A (do
    storeSet a c t2
    if (!H&&t2.tooFull)=true then do
      g (relayAll t2 c (SetTable.grown c.size)).2.2
      storeSet a (relayAll t2 c (SetTable.grown c.size)).1 (relayAll t2 c (SetTable.grown c.size)).2.1
      pure (some true)
     else pure (some true)) R E s:=by
 obtain⟨C,M⟩:=HI.stored (knd:=knd) (pk:=pk) v hex hd x n J D q G;refine wpAny_bind (wpAny_storeSet_of v hd ?_ (fits_of_scanBound n));have sb:=Heap.SameBut.update s.heap a (Obj.putSet c t2);split
 ·have e:=relayAll_perm t2 c (SetTable.grown c.size);have j:=relayAll_fits t2 c (SetTable.grown c.size);have f:=qj t2 c (SetTable.grown c.size);have i:=qi (t:=t2) c (SetTable.grown c.size);revert e j f i;generalize relayAll t2 c (SetTable.grown c.size)=Y;intro e j f i;obtain⟨B,N,O⟩:=Y;simp only at e j f i ⊢;have z:B.size=c.size:=by have:=e.length_eq;simpa using this
  obtain⟨l,p,r⟩:=x;have F:B.size<scanBound:=by rw[z];exact n
  obtain⟨_,I⟩:=HI.stored (knd:=knd) (pk:=pk) (led:=led) C hex rfl ⟨l,p.trans e.symm,r⟩ F j (f.1.trans D) (λy=>q (f.2 y)) i;exact wpAny_bind (L _ _ _ (wpAny_bind (wpAny_storeSet_of C rfl (wpAny_pure (h _ (sb.trans (Heap.SameBut.update _ a _)) I)) (fits_of_scanBound F))))
 exact wpAny_pure (h _ sb M)
theorem A6 {a:Addr}{c:List K}{k:K}{x:Value}{Q:Bool->Shared->Prop}(X:plainKind x=pk k)(J:knd.is k x=true)(C:x.scannable=true)(W:HI knd pk led s.heap a c)(UP:c.length+1<scanBound)
  (h:∀ b h',Heap.SameBut a s.heap h'->HI knd pk led h' a (cW c k)->Q b { s with heap:=h' }):wpAny (model prog w) A (setAddHashed a x (knd.hash k)) Q E s:=by
 obtain⟨o,es,ep,t,m,hex,hd,f,H,F,y,v,N⟩:=W;have M:=HI.elems (h:=s.heap) (a:=a) f;have hn:es.size=c.length:=by obtain⟨l,p,r⟩:=f;have R:=p.length_eq;have e2:=lq r;simp only[length_toList] at R;omega
 unfold setAddHashed setAddHashedIn;refine wpAny_holding (wpAny_bind (wpAny_setState_of m hd F ?_));simp only;rw[byScan_of C H M,if_pos rfl];unfold setAddByScan;refine wpAny_bind (wpAny_bind (wpAny_rule (wpAny_bind (wpAny_setScan_of J m hd F M ?_))));cases hr:List.findIdx? (λe=>knd.is k e.2) es.toList with
 |some j =>
  obtain⟨hj,Wz,_⟩:=List.findIdx?_eq_some_iff_getElem.mp hr;have I:k∈c:=(HI.mem f k).mpr ⟨es.toList[j],getElem_mem hj,Wz⟩;refine wpAny_pure (wpAny_pure ?_);exact h _ s.heap (Heap.SameBut.refl a s.heap) ⟨o,es,ep,t,m,hex,hd,by unfold cW;rw[if_pos I];exact f,H,F,y,by unfold cW;rw[if_pos I];exact v,N⟩
 |none =>
  have S:k∉c:=λU=>by obtain⟨e,he,v⟩:=(HI.mem f k).mp U;have q:=List.findIdx?_eq_none_iff.mp hr e he;rw[v] at q;cases q
  have ek:cW c k=c++[k]:=by unfold cW;rw[if_neg S]
  rw[ek] at h;have g:=layNew_perm t es (knd.hash k) x;have i:=layNew_fits t es (knd.hash k) x;have d:=u9 t es (knd.hash k) x;have u:=u8 es (knd.hash k) x N;dsimp only;revert g i d u;generalize layNew t es (knd.hash k) x=Y;intro g i d u;obtain⟨G,t1,wd,T⟩:=Y;simp only at g i d u ⊢;rw[toList_push] at g;have L:∃ l:List (Int×Value),l.Perm G.toList/\Paired (ug knd) (c++[k]) l:=by obtain⟨l,p,r⟩:=f;exact⟨l++[(knd.hash k,x)],(p.append_right _).trans g.symm,rV r ⟨J,rfl,C⟩⟩
  have P:G.size<scanBound:=by have:=g.length_eq;simp only[length_toList,List.length_append,length_singleton] at this;omega
  refine wpAny_bind (nB T ?_);split
  ·rename_i O;refine wpAny_bind ?_;rw[hashByValue_scannable 8 C];refine wpAny_pure ?_;refine vW (pk:=pk) (led:=led) (λb n V B=>nB b B) m hex hd L P ?_ ?_ ?_ ?_ λh' sb D=>?_
   ·split
    ·exact i
    exact SetTable.fits_plain_off i
   ·split
    ·exact d.1.trans y
    exact d.1.trans y
   ·split
    ·rename_i Z;intro M4 k' NO;rcases mem_append.mp NO with NO |NO
     ·exact v (d.2 M4) k' NO
     rw[mem_singleton.mp NO,← X];exact Z
    intro z;cases z
   ·split<;>exact u
   exact wpAny_pure (h _ h' sb D)
  rename_i O;refine wpAny_bind (wpAny_pure ?_);rw[if_pos rfl];refine vW (pk:=pk) (led:=led) (λb n V B=>nB b B) m hex hd L P i (d.1.trans y) (λz=>absurd z O) u λh' sb D=>?_;exact wpAny_pure (h _ h' sb D)
end
namespace SF
theorem Lg:entryFor table "set.update.loop"=some Builtin.«set.update.loop»:=entryFor_of_tree (by kernel_rfl)
theorem K1:plainId "set.update.loop"=true:=by decide
theorem QA (a:Value):checkTypeCall "set" ⟨[a],[]⟩=pure ():=by kernel_rfl
theorem QB (a:Value):checkBuiltinCall "set.__new__" ⟨[.type "set",a],[]⟩=pure ():=by kernel_rfl
theorem M5:entryFor table "set.__iter__"=some Builtin.«frozenset.__iter__»:=entryFor_alias (id':="frozenset.__iter__") (by kernel_rfl) rfl (by decide) (by kernel_rfl)
theorem slot_next:Slot "set_iterator" "__next__" "set_iterator.__next__":=
 .of (owner:="set_iterator") (n:="__next__") (by rw[typeLookup_type,builtinLookup_eq_fast];kernel_rfl) (by decide) (by decide) (by decide)
  (by first |exact .inl (by decide) |exact .inr (by decide)) (by rw[isSubtype_type];kernel_rfl)
theorem slot_self:Slot "set_iterator" "__iter__" "set_iterator.__iter__":=
 .of (owner:="set_iterator") (n:="__iter__") (by rw[typeLookup_type,builtinLookup_eq_fast];kernel_rfl) (by decide) (by decide) (by decide)
  (by first |exact .inl (by decide) |exact .inr (by decide)) (by rw[isSubtype_type];kernel_rfl)
theorem Lh:entryFor table "set_iterator.__next__"=some Builtin.«set_iterator.__next__»:=entryFor_of_tree (by kernel_rfl)
theorem M6:Manifest.owners.lookup (String.ofList ['r','o','t','a','r','e','t','i','_','t','e','s'].reverse)=some Manifest.sig_set_iterator:=by kernel_rfl
theorem args_next (a:Value):argsOk "set_iterator.__next__" ⟨[a],[]⟩:=by unfold argsOk;rw[signature?_of (id:="set_iterator.__next__") (n:=['_','_','t','x','e','n','_','_']) (o:=['r','o','t','a','r','e','t','i','_','t','e','s']) (by kernel_rfl) M6];kernel_rfl
end SF
section
variable {prog:Program}{w:World}{K:Type} [DecidableEq K] {knd:KeyKind prog w K}{pk:K->Bool}{led:Bool}
def met (val:Nat->K)(i:Nat):List K:=((List.range i).map val).foldl cW []
theorem sC (val:Nat->K)(i:Nat):met val (i+1)=cW (met val i) (val i):=by unfold met;rw[List.range_succ,map_append,List.foldl_append];rfl
theorem wf (val:Nat->K):∀ i,(met val i).length<=i
 | 0=>le_refl _
 |i+1=>by
  have a:=wf val i;rw[sC];unfold cW;split
  ·omega
  rw[List.length_append,length_singleton];omega
section
variable {A:Around}{R:Result->Shared->Prop}{I:Addr}{fp wr:List Addr}{G:Array GenState->Array GenState->Prop}{n:Nat}{P:Nat->Value->Prop}{St:Nat->Shared->Prop}
theorem HI.keep {h h':Heap}{a:Addr}{b:List K}(x:HI knd pk led h a b)(e:∀ o,h.get? a=some o->h'.get? a=some o):HI knd pk led h' a b:=by obtain⟨o,es,ep,t,c,r⟩:=x;exact⟨o,es,ep,t,e o c,r⟩
theorem yK (W:WalksS prog w A.in1 I fp wr G n P St)(S:Addr)(l:S∉fp)(val:Nat->K)(J:∀ i v,P i v->knd.is (val i) v=true/\v.scannable=true/\plainKind v=pk (val i))(a:n+1<scanBound) :
  ∀ (k i:Nat) (s:Shared),n-i=k->i<=n->St i s->HI knd pk led s.heap S (met val i) ->
   (∀ s',Moved (S::wr) G s s'->HI knd pk led s'.heap S (met val n)->R (.ok (.ret .none)) s') ->
   codeAny (model prog w) A (.builtin "set.update.loop" ⟨[.ref S,.ref I],[]⟩) R s:=by
 have m:S∉wr:=λh=>l (W.sub _ h);intro k
 induction k with
 |zero =>
  intro i s H B st f d;obtain rfl:i=n:=by omega
  refine codeAny_builtin SF.Lg ?_;rw[Around.under_plainId SF.K1 _];show wpAny _ A.in1 (pyNext (.ref I) >>= _) _ _ s;refine wpAny_bind (W.done s _ _ st λs' c=>?_);show wpAny _ A.in1 (ret Value.none) _ _ s';exact wpAny_pure (d s' (c.mono λb a=>mem_cons_of_mem _ a) (f.keep λo e=>c.heap S o m e))
 |succ k r =>
  intro i s H B st f d;have p:i<n:=by omega
  refine codeAny_builtin SF.Lg ?_;rw[Around.under_plainId SF.K1 _];show wpAny _ A.in1 (pyNext (.ref I) >>= _) _ _ s;refine wpAny_bind (W.item i s _ _ p st λv s' u y c=>?_);obtain⟨g,F,E⟩:=J i v u;show wpAny _ A.in1 (holding [v] (setAdd S v) >>= _) _ _ s';refine wpAny_bind (wpAny_holding ?_);unfold setAdd;refine wpAny_holding (wpAny_bind (knd.pyHash g ?_));have q:(met val i).length+1<scanBound:=by have:=wf val i;omega
  refine A6 (pk:=pk) (led:=led) (s:={ s' with toks:=s'.toks+1 }) E g F (f.keep λo e=>c.heap S o m e) q λb L sb j=>?_;rw[← sC] at j;refine wpAny_pure ⟨plainId_quiet SF.K1 _,r (i+1) _ (by omega) p (W.frame _ s' _ _ y (le_succ _) λb a o e=>?_) j λD C t=>?_⟩
  ·rw[sb.2 b (λz=>l (z▸a))];exact e
  refine d D (Moved.trans W.gtrans ((c.mono λb a=>mem_cons_of_mem _ a).then_heap (le_succ _) λb o x e=>?_) C) t;rw[sb.2 b (λz=>x (z▸mem_cons_self))];exact e
end
section
variable {A:Around}{E:GW}{s:Shared}
def Li (w:World):Bool:=w.params.followText "set-order"
abbrev lN (w:World):Obj:={ cls:=.type "set",dict:=none,data:=.set #[] 0 (.fresh 0 0 (!Li w)) }
theorem yJ (a:Value){Q₁:GW}(h:Q₁ (.ref s.heap.objs.size) { s with heap:=s.heap.push (lN w) }) :
  codeAny (model prog w) A (.call (.builtin "set.__new__") ⟨[.type "set",a],[]⟩) (wants Q₁ E) s:=by
 refine codeAny_of_tree ?_;show wpAny _ A.in1 (do checkBuiltinCall "set.__new__" ⟨[.type "set",a],[]⟩;again (.builtin "set.__new__" ⟨[.type "set",a],[]⟩)) _ _ s;refine wpAny_bind (wpAny_of_eq (SF.QB a) (wpAny_pure ⟨plainId_quiet F.plain_set_new _,codeAny_builtin F.entry_set_new ?_⟩));rw[Around.under_plainId F.plain_set_new _];unfold Builtin.«set.__new__» Builtin.Frozenset.newClass;have q:=sub_set_self;obtain⟨b,g,d,tk,os⟩:=s;dsimp only
 wp_walk
 refine wpAny_askSetting (wpAny_pure ?_);simp only[newObj];exact wpAny_bind (wpAny_alloc (wpAny_pure (wpAny_pure h)))
theorem xb {M:Model}{self a:Value}{Q:Unit->Shared->Prop}(c:s.TypeIs self "set")(g:Q () s):wpAny M A (checkBuiltinCall "set.__init__" ⟨[self,a],[]⟩) Q E s:=by
 simp only[checkBuiltinCall,kind_set_init,split_set_init,sig_set_init];refine wpAny_bind (wpAny_isInstance c sub_set_self ?_);simp only[Bool.not_true,false_eq_true,if_false];unfold Bind.checkArgs;dsimp only;refine wpAny_bind (m:=Bind.printed "set" true _ _) (PyProof.Rows.printed_name (by decide) ?_);refine wpAny_bind (m:=Bind.printed "*" false _ _) (PyProof.Rows.printed_star (self:=self) rfl c λb=>?_);have e:(Manifest.Receiver.self==Manifest.Receiver.none)=false:=by decide
 have h:(if (Manifest.Receiver.self==Manifest.Receiver.none)=true then [self,a].length else [self,a].length-1)=1:=by simp[e]
 rw[h];simp only[map_nil];have j:(Manifest.ParamKind.posOnly==Manifest.ParamKind.posOnly)=true:=by decide
 have d:(Manifest.ParamKind.posOnly==Manifest.ParamKind.posOrKw)=false:=by decide
 have i:(Manifest.ParamKind.posOnly==Manifest.ParamKind.varPos)=false:=by decide
 have f:Bind.check ⟨.positional,"set","*",.self,[⟨"iterable",.posOnly,false⟩]⟩ "set" b 1 []=pure ():=by simp[Bind.check,Bind.checkCount,Bind.isPositional,j,d,i]
 rw[f];exact wpAny_pure g
theorem HI.start {h:Heap}{a:Addr}(e:h.get? a=some (lN w)):HI knd pk (!Li w) h a []:=
 ⟨lN w,#[],0,.fresh 0 0 (!Li w),e,⟨rfl,rfl,rfl⟩,rfl,⟨[],.refl _,.nil⟩,by decide,by rfl,rfl,(λ_ k b=>by cases b),List.Pairwise.nil⟩
end
end
end L2
namespace L2
open PySem
section
variable {prog:Program}{w:World}{A:Around}{E:GW}{s:Shared}
theorem wp_choose {a:Source}{n:Nat}{Q:Nat->Shared->Prop}(b:n≠0)(h:∀ i,i<n->Q i { s with drawn:=s.drawn.bump a }):wpAny (model prog w) A (choose a n) Q E s:=
 λ_ _ _=>⟨b,h _ (Nat.mod_lt _ (Nat.pos_of_ne_zero b))⟩
theorem jb {α:Type}:∀ {xs:List α}{i:Nat}{x : α},xs[i]?=some x->(x::xs.eraseIdx i).Perm xs
 |[],_,_,h=>by simp at h
 |y::ys,0,x,h=>by simp at h;subst h;exact .refl _
 |y::ys,i+1,x,h=>by
  rw[List.getElem?_cons_succ] at h;rw[List.eraseIdx_cons_succ];exact(List.Perm.swap y x _).trans ((jb h).cons y)
theorem jq {α:Type}:∀ (n:Nat) (xs:List α) {s:Shared}{Q:List α->Shared->Prop},xs.length=n->(∀ ys d,ys.Perm xs->Q ys { s with drawn:=d })->wpAny (model prog w) A (drawOrder n xs) Q E s
 | 0,xs,s,Q,a,h=>by
  obtain rfl:=length_eq_zero_iff.mp a;unfold drawOrder;exact wpAny_pure (h [] s.drawn (.refl _))
 |n+1,[],s,Q,a,h=>by simp at a
 |n+1,x::r,s,Q,a,h=>by
  unfold drawOrder;refine wpAny_bind (wp_choose (by simp) λi b=>?_);have e:=List.getElem?_eq_getElem b;rw[e];dsimp only;refine wpAny_bind (jq n _ (by rw[List.length_eraseIdx_of_lt b,a];omega) λys d p=>?_);exact wpAny_pure (h _ d ((p.cons _).trans (jb e)))
theorem oQ {α:Type}(next:Nat->Nat):∀ (m k:Nat) (left:List α) (out:Array α),left.length=m->(pickOrder.go next m k left out).toList.Perm (out.toList++left)
 | 0,k,left,out,a=>by
  obtain rfl:=length_eq_zero_iff.mp a;unfold pickOrder.go;rw[append_nil]
 |m+1,k,left,out,a=>by
  have b:next k % left.length<left.length:=Nat.mod_lt _ (by omega)
  have e:=List.getElem?_eq_getElem b;unfold pickOrder.go;rw[e];dsimp only;refine(oQ next m (k+1) _ _ (by rw[List.length_eraseIdx_of_lt b,a];omega)).trans ?_;rw[toList_push,List.append_assoc];exact(jb e).append_left _
def HX (h:Heap)(it a:Addr)(first:Value)(i n ep:Nat):Prop:=∃ o,h.get? it=some o/\o.cls = .type "set_iterator"/\o.data = .fields #[first,.int i 0,.ref a,.int n 0,.int ep 0]
inductive Way (w:World) (a it:Addr) (es:Array (Int×Value)) (ep:Nat) (t:SetTable):Array (Int×Value)->List Addr->(Nat->Value->Heap->Prop)->Prop where
 |text (hb:Li w=true):Way w a it es ep t (pickOrder (w.params.setOrder a ep) es) [it,a] (λ_ f _ => ∃ k:Nat,f = .int k 0)
 |one (hb:Li w=false) (hl:t.led=true) (h1:t.plain=true∨es.size<=1) (hr:Jd t.place):Way w a it es ep t es [it,a] (λi f _ => ∃ k:Nat,f = .int k 0/\SetTable.below t.place k=i)
 |drawn (hb:Li w=false) (hp:t.plain=false) (h1 : 1<es.size) (tp:Addr) (order:List Nat) (ho:order.Perm (List.range es.size)):tp≠it ->
  Way w a it es ep t (order.filterMap λi=>es[i]?).toArray [it,a,tp] (λ_ f h=>f = .ref tp/\h.IsTuple tp (order.map λ(i:Nat)=>Value.int i 0).toArray)
theorem xA {es:Array (Int×Value)}{order:List Nat}(c:order.Perm (List.range es.size)):(order.filterMap λi=>es[i]?).length=order.length/\∀ i:Nat,(order.filterMap λi=>es[i]?)[i]?=(order[i]?).bind λj=>es[j]?:=by
 have d:∀ j∈order,j<es.size:=λj a=>mem_range.mp (c.mem_iff.mp a);clear c
 induction order with
 |nil=>exact⟨rfl,λi=>by simp⟩
 |cons j r f =>
  have a:=d j (mem_cons_self ..);obtain⟨g,h⟩:=f λk e=>d k (mem_cons_of_mem _ e);rw[List.filterMap_cons_some (b:=es[j]) (by simp[a])];refine⟨by simp[g],λi=>?_⟩;cases i with
  |zero=>simp[a]
  |succ i=>simpa using h i
theorem Way.perm {a it:Addr}{es:Array (Int×Value)}{ep:Nat}{t:SetTable}{out:Array (Int×Value)}{fp:List Addr}{F:Nat->Value->Heap->Prop}(y:Way w a it es ep t out fp F):out.toList.Perm es.toList:=by
 cases y with
 |text c=>simpa [pickOrder] using oQ (w.params.setOrder a ep) es.size 0 es.toList #[] (by simp)
 |one=>exact .refl _
 |drawn c d f tp order b e =>
  have q:=b.filterMap λi=>es[i]?;rw[filterMap_getElem?_range] at q;simpa using q
end
section
variable {prog:Program}{w:World}{A:Around}{E:GW}{s:Shared}
variable {a it:Addr}{o:Obj}{es:Array (Int×Value)}{ep:Nat}{t:SetTable}
theorem ie {Q:Bool->Shared->Prop}(h:Q (Li w) s):wpAny (model prog w) A setsByText Q E s:=by unfold setsByText;exact wpAny_bind (wpAny_askSetting (wpAny_pure h))
theorem rj {Q:Bool->Shared->Prop}(b:s.heap.get? a=some o)(hd:o.data = .set es ep t)(c:t.fits es.size=true)(h:Q (!Li w&&(!t.plain&&decide (es.size > 1))) s):wpAny (model prog w) A (setDrawn a) Q E s:=by unfold setDrawn;refine wpAny_bind (wpAny_setState_of b hd c ?_);dsimp only;exact wpAny_bind (ie (wpAny_pure h))
theorem uP {Q:GW}(c:s.heap.get? a=some o)(hex:o.ExactSet)(hd:o.data = .set es ep t)(j:t.fits es.size=true)(hz:es.size<=sizeLine)(q:Li w=false->t.led=true)(l:Jd t.place)
  (h:∀ it out fp F first h' d,Way w a it es ep t out fp F->HX h' it a first 0 es.size ep->F 0 first h'->(∀ b o,s.heap.get? b=some o->h'.get? b=some o)->s.heap.objs.size<=it->(∀ b∈fp,b=a∨s.heap.objs.size<=b) ->
   Q (.ref it) { s with heap:=h',drawn:=d }):wpAny (model prog w) A (pyIter (.ref a)) Q E s:=by
 have n:s.TypeIs (.ref a) "set":=⟨o,c,hex.1⟩;refine wpAny_pyIter_slot n F.slot_set_iter (wpAny_call_entry F.slot_set_iter n SF.M5 ?_ (F.args_set_iter_1 _));unfold Builtin.«frozenset.__iter__» Builtin.Frozenset.slot0 slotArgs;simp only[List.isEmpty_nil,Bool.not_true,false_eq_true,↓reduceIte,bind_assoc,length_nil,bne_self_eq_false];unfold Builtin.Frozenset.addrOf Builtin.Frozenset.sizeOf;refine wpAny_bind (wpAny_pure ?_)
 try dsimp only
 refine wpAny_bind (wpAny_pure ?_);refine wpAny_bind (wpAny_bind (wpAny_setEntries_of c hd j (wpAny_pure ?_)));refine wpAny_bind (rj c hd j ?_);have r:a<s.heap.objs.size:=Heap.lt_size c;cases hc:(!Li w&&(!t.plain&&decide (es.size > 1))) with
 |true =>
  rw[and_eq_true,and_eq_true,Bool.not_eq_true',Bool.not_eq_true'] at hc;obtain⟨hb,k,f⟩:=hc;have f:=of_decide_eq_true f;rw[if_pos rfl];refine wpAny_bind (jq es.size (List.range es.size) (by simp) λorder d p=>?_);have g:order.length=es.size:=by rw[p.length_eq,length_range]
  refine wpAny_bind (wpAny_newTuple ?_ (by rw[length_map,g];exact hz));refine wpAny_bind (wpAny_setEpoch_of (Heap.get?_push_of_some _ c) hd j ?_);refine wpAny_bind (wpAny_newObj_type (wpAny_pure ⟨_,rfl,"set_iterator",_,⟨_,Heap.get?_push_size _ rfl,rfl⟩,SF.slot_next.lookup,?_⟩))
  refine h _ _ _ _ (.ref s.heap.objs.size) _ d (Way.drawn hb k f s.heap.objs.size order p ?_) ⟨_,Heap.get?_push_size _ rfl,rfl,rfl⟩ ⟨rfl,⟨_,Heap.get?_push_of_some _ (Heap.get?_push_size _ rfl),rfl,0,?_⟩⟩
   (λb o e=>Heap.get?_push_of_some _ (Heap.get?_push_of_some _ e)) ?_ ?_
  ·rw[Heap.size_push];exact ne_of_lt (lt_succ_self _)
  ·rfl
  ·rw[Heap.size_push];exact le_succ _
  intro b hb;rcases mem_cons.mp hb with e |hb
  ·rw[e,Heap.size_push];exact .inr (le_succ _)
  rcases mem_cons.mp hb with e |hb
  ·exact .inl e
  rw[mem_singleton.mp hb];exact .inr (le_refl _)
 |false =>
  rw[if_neg (by decide)];refine wpAny_bind (wpAny_pure ?_);refine wpAny_bind (wpAny_setEpoch_of c hd j ?_);refine wpAny_bind (wpAny_newObj_type (wpAny_pure ⟨_,rfl,"set_iterator",_,⟨_,Heap.get?_push_size _ rfl,rfl⟩,SF.slot_next.lookup,?_⟩))
  have m:∀ b∈[s.heap.objs.size,a],b=a∨s.heap.objs.size<=b:=λb hb=>by
   rcases mem_cons.mp hb with e |hb
   ·rw[e];exact .inr (le_refl _)
   exact .inl (mem_singleton.mp hb)
  cases hb:Li w with
  |true=>exact h _ _ _ _ (.int 0 0) _ s.drawn (Way.text hb) ⟨_,Heap.get?_push_size _ rfl,rfl,rfl⟩ ⟨0,rfl⟩ (λb o e=>Heap.get?_push_of_some _ e) (le_refl _) m
  |false =>
   have f:t.plain=true∨es.size<=1:=by
    cases k:t.plain with
    |true=>exact .inl rfl
    |false =>
     rw[hb,k] at hc;have:=of_decide_eq_false (show decide (es.size > 1)=false from hc);exact .inr (by omega)
   exact h _ _ _ _ (.int 0 0) _ s.drawn (Way.one hb (q hb) f l) ⟨_,Heap.get?_push_size _ rfl,rfl,rfl⟩ ⟨0,rfl,tY l (zero_le _) (λi _ z=>absurd z (by omega)) λi _ _=>zero_le _⟩ (λb o e=>Heap.get?_push_of_some _ e) (le_refl _) m
theorem HX.ty {first:Value}{i n:Nat}(x:HX s.heap it a first i n ep):s.TypeIs (.ref it) "set_iterator":=let ⟨o,b,c,_⟩:=x;⟨o,b,c⟩
theorem f9 {k i:Nat}{Q:Option (Value×Nat)->Shared->Prop}(b:s.heap.get? a=some o)(hd:o.data = .set es ep t)(c:t.fits es.size=true)(d:Li w=true)
  (h:Q (((pickOrder (w.params.setOrder a ep) es)[i]?).map λe=>(e.2,k)) s):wpAny (model prog w) A (setNext a k i ep) Q E s:=by
 unfold setNext;refine wpAny_bind (wpAny_setState_of b hd c ?_);dsimp only;refine wpAny_bind (ie ?_);rw[d,if_pos rfl,if_neg (by simp)];refine wpAny_bind ?_;unfold setWalk;refine wpAny_bind (wpAny_setState_of b hd c ?_);dsimp only;refine wpAny_bind (ie ?_);rw[d,if_pos rfl];exact wpAny_bind (wpAny_askSetting (wpAny_pure (wpAny_pure h)))
theorem gD {k i:Nat}{Q:Option (Value×Nat)->Shared->Prop}(b:s.heap.get? a=some o)(hd:o.data = .set es ep t)(d:t.fits es.size=true)(e:Li w=false)(f:t.led=true)(h1:t.plain=true∨es.size<=1)
  (h:Q (match es[SetTable.below t.place k]?,t.place[SetTable.below t.place k]? with |some (_,x),some j=>some (x,j+1) |_,_=>none) s):wpAny (model prog w) A (setNext a k i ep) Q E s:=by
 unfold setNext;refine wpAny_bind (wpAny_setState_of b hd d ?_);dsimp only;refine wpAny_bind (ie ?_);rw[e,if_neg (by decide)]
 have c:(!t.plain&&decide (es.size > 1))=false:=by
  rcases h1 with h1 |h1
  ·rw[h1];rfl
  rw[decide_eq_false (by omega),Bool.and_false]
 show wpAny _ _ (if (!t.plain&&decide (es.size > 1))=true then _ else _) _ _ _;rw[c,if_neg (by decide)];refine wpAny_bind ?_;show wpAny _ _ (if (!t.led&&!es.isEmpty)=true then _ else _) _ _ _;rw[f,if_neg (by simp)];exact wpAny_pure (wpAny_pure h)
end
section
variable {prog:Program}{w:World}{A:Around}{E:GW}{s:Shared}
variable {a it:Addr}{o:Obj}{es:Array (Int×Value)}{ep:Nat}{t:SetTable}
theorem oB {h:Heap}{first f':Value}{i n:Nat}(x:HX h it a first i n ep) :
  HX (h.update it (Obj.mapFields (·.setIfInBounds 0 f'))) it a f' i n ep:=by
 obtain⟨o,b,c,hd⟩:=x;exact⟨_,Heap.get?_update_self _ b (Obj.isFreed_of_fields (Obj.data_mapFields hd _)),(Obj.cls_mapFields ..).trans c,by rw[Obj.data_mapFields hd];simp⟩
theorem oC {h:Heap}{first:Value}{i n:Nat}(x:HX h it a first i n ep) :
  HX (h.update it (Obj.mapFields (·.setIfInBounds 1 (rawInt ((i:Int)+1))))) it a first (i+1) n ep:=by
 obtain⟨o,b,c,hd⟩:=x;exact⟨_,Heap.get?_update_self _ b (Obj.isFreed_of_fields (Obj.data_mapFields hd _)),(Obj.cls_mapFields ..).trans c,by rw[Obj.data_mapFields hd];simp[rawInt]⟩
set_option maxHeartbeats 1000000 in
theorem next_item {out:Array (Int×Value)}{fp:List Addr}{F:Nat->Value->Heap->Prop}{first:Value}{i:Nat}{x:Int×Value}{Q:Option Value->Shared->Prop}(y:Way w a it es ep t out fp F)(Ij:a≠it)(g:s.heap.get? a=some o)(hd:o.data = .set es ep t)
  (c:t.fits es.size=true) (b:HX s.heap it a first i es.size ep) (m:F i first s.heap) (d:out[i]?=some x)
  (C:∀ f' h',HX h' it a f' (i+1) es.size ep->F (i+1) f' h'->Heap.SameBut it s.heap h'->Q (some x.2) { s with heap:=h' }):wpAny (model prog w) A (pyNext (.ref it)) Q E s:=by
 obtain⟨oi,j,Px,l⟩:=id b;unfold pyNext;refine wpAny_bind (wpAny_attempt (wpAny_callSpecial?_slot (name:=Str.ofString "__next__") b.ty SF.slot_next (wpAny_call_entry SF.slot_next b.ty SF.Lh ?_ (SF.args_next _))));unfold Builtin.«set_iterator.__next__»;refine wpAny_bind (wpAny_pure ?_);refine wpAny_bind (wpAny_fieldsOf j l ?_);dsimp only;refine wpAny_bind (wpAny_setEntries_of g hd c ?_);rw[if_neg (by simp)]
 have step:∀ (f':Value),F (i+1) f' ((s.heap.update it (Obj.mapFields (·.setIfInBounds 0 f'))).update it (Obj.mapFields (·.setIfInBounds 1 (rawInt ((i:Int)+1)))))->∀ (k:Nat),f'=rawInt k->∀ (H:GW),
   wpAny (model prog w) A.in1 (do setField (.ref it) 0 (rawInt k);setField (.ref it) 1 (rawInt ((i:Int)+1));ret x.2) (λfin V => ∃ v,fin = .done (.ret v)/\Q (some v) V) H s:=by
  rintro f' K k rfl H;refine wpAny_bind (wpAny_setField j l (by simp) ?_);have G:=oB (f':=rawInt k) b;obtain⟨o1,J,QC,Z⟩:=id G;refine wpAny_bind (wpAny_setField J Z (by simp) (wpAny_pure ⟨_,rfl,?_⟩));exact C _ _ (oC G) K ((Heap.SameBut.update ..).trans (Heap.SameBut.update ..))
 cases y with
 |text f =>
  obtain⟨k,rfl⟩:=m;dsimp only;refine wpAny_bind (f9 g hd c f ?_);simp only[Int.toNat_natCast];rw[d];exact wpAny_mono (step (rawInt k) ⟨k,rfl⟩ k rfl _) (λ_ _ h=>let ⟨v,e,q⟩:=h;⟨v,e,wpAny_pure q⟩) λ_ _ h=>h
 |one f O D r =>
  have hi:i<es.size:=(Array.getElem?_eq_some_iff.mp d).1;have Y:t.place.size=es.size:=by have:=c;simp only[SetTable.fits,and_eq_true,beq_iff_eq] at this;exact this.1
  obtain⟨k,rfl,N⟩:=m;have P:t.place[i]?=some t.place[i]:=Array.getElem?_eq_getElem (by omega)
  have W:SetTable.below t.place (t.place[i]+1)=i+1:=tY r (by omega) (λn z Il=>by
   rcases lt_or_ge n i with q |q
   ·have:=r.lt q (show i<t.place.size by omega);omega
   have e:n=i:=by omega
   subst e;omega) λn z RS=>r.lt (show i<n by omega) z
  dsimp only;refine wpAny_bind (gD g hd c f O D ?_);rw[Int.toNat_natCast,N,d,P];exact wpAny_mono (step (rawInt ((t.place[i]+1:Nat):Int)) ⟨_,rfl,W⟩ (t.place[i]+1) rfl _) (λ_ _ h=>let ⟨v,e,q⟩:=h;⟨v,e,wpAny_pure q⟩) λ_ _ h=>h
 |drawn f hp D tp order T L =>
  obtain⟨rfl,U⟩:=m;obtain⟨R,u,QE,X,B⟩:=id U;dsimp only;refine wpAny_bind (wpAny_seqItems u B ?_);obtain⟨g1,g2⟩:=xA (es:=es) T;have I:(order.filterMap λi=>es[i]?)[i]?=some x:=by simpa using d
  rw[g2 i] at I;obtain⟨p,S,P_⟩:=bind_eq_some_iff.mp I;have M:((order.map λ(i:Nat)=>Value.int i 0).toArray)[Int.toNat (i:Int)]?=some (.int p 0):=by rw[Int.toNat_natCast,List.getElem?_toArray,getElem?_map,S];rfl
  dsimp only;rw[M];dsimp only;refine wpAny_bind ?_;unfold setNextDrawn;refine wpAny_bind (wpAny_setState_of g hd c ?_);dsimp only;rw[Int.toNat_natCast,Int.toNat_natCast,if_neg (by simp),P_];refine wpAny_pure ?_;refine wpAny_bind (wpAny_setField j l (by simp) (wpAny_pure ⟨_,rfl,wpAny_pure ?_⟩));exact C _ _ (oC b) ⟨rfl,⟨R,((Heap.SameBut.update ..).2 tp L).trans u,QE,X,B⟩⟩ (Heap.SameBut.update ..)
end
section
variable {prog:Program}{w:World}{A:Around}{E:GW}{s:Shared}
variable {a it:Addr}{o:Obj}{es:Array (Int×Value)}{ep:Nat}{t:SetTable}
theorem uO {α:Type}{Q : α->Shared->Prop}(c:A.handled=none)(h:∀ h' e,(∀ b o,s.heap.get? b=some o->h'.get? b=some o)->(∃ o,h'.get? e=some o/\o.cls = .type "StopIteration")->E (.ref e) { s with heap:=h' }) :
  wpAny (model prog w) A (newExc (.type "StopIteration") [] >>= λe=>(raiseNew e:Sem α)) Q E s:=by
 refine wpAny_bind ?_;simp only[newExc,newTuple];refine wpAny_bind (wpAny_newObj_type ?_ (by size_fits));refine wpAny_bind (m:=firstArgMember _ _) (wpAny_of_eq (a:=Value.none) (by first |rfl |(simp only[firstArgMember];rfl)) ?_);refine wpAny_newObj_type ?_ (by size_fits);simp only[raiseNew];refine wpAny_bind (wpAny_handled ?_);rw[c];refine wpAny_bind (wpAny_pure (wpAny_throw ?_));exact h _ _ (λb o e=>Heap.get?_push_of_some _ (Heap.get?_push_of_some _ e)) ⟨_,Heap.get?_push_size _ rfl,rfl⟩
set_option maxHeartbeats 1000000 in
theorem next_end {out:Array (Int×Value)}{fp:List Addr}{F:Nat->Value->Heap->Prop}{first:Value}{Q:Option Value->Shared->Prop}(I:A.handled=none)(y:Way w a it es ep t out fp F)(Ij:a≠it)(m:s.heap.get? a=some o)(hd:o.data = .set es ep t)
  (p:t.fits es.size=true) (c:HX s.heap it a first es.size es.size ep) (n:F es.size first s.heap)
  (C:∀ h',(∀ b o,b≠it->s.heap.get? b=some o->h'.get? b=some o)->Q none { s with heap:=h' }):wpAny (model prog w) A (pyNext (.ref it)) Q E s:=by
 have P:out.size=es.size:=by have:=y.perm.length_eq;simpa using this
 obtain⟨oi,g,Z,l⟩:=id c;unfold pyNext;refine wpAny_bind (wpAny_attempt (wpAny_callSpecial?_slot (name:=Str.ofString "__next__") c.ty SF.slot_next (wpAny_call_entry SF.slot_next c.ty SF.Lh ?_ (SF.args_next _))));unfold Builtin.«set_iterator.__next__»;refine wpAny_bind (wpAny_pure ?_);refine wpAny_bind (wpAny_fieldsOf g l ?_);dsimp only;refine wpAny_bind (wpAny_setEntries_of m hd p ?_);rw[if_neg (by simp)]
 have fin:∀ (j:Shared) (q:Fin->Shared->Prop),(∀ b o,b≠it->s.heap.get? b=some o->j.heap.get? b=some o)->(∀ h',({ s with heap:=h' }:Shared)={ j with heap:=h' }) ->
   wpAny (model prog w) A.in1 (newExc (.type "StopIteration") [] >>= λe=>(raiseNew e:Sem Fin)) q
    (λe M=>wpAny (model prog w) A (do let b ← isInstance e (.type "StopIteration");if b=true then pure none else throw e) Q E M) j:=λj q H N=>by
  refine uO (by simp[I]) λh' e k R=>?_;obtain⟨K,z,U⟩:=R;refine wpAny_bind (wpAny_isInstance (T:="StopIteration") (b:=true) ⟨K,z,U⟩ isSubtype_stop ?_);rw[if_pos rfl];refine wpAny_pure ?_;rw[← N];exact C h' λb o d e=>k b o (H b o d e)
 have up:∀ (f:Array Value->Array Value) b o,b≠it->s.heap.get? b=some o->(s.heap.update it (Obj.mapFields f)).get? b=some o:=λf b o d e=>((Heap.SameBut.update ..).2 b d).trans e;cases y with
 |text h =>
  obtain⟨k,rfl⟩:=n;dsimp only;refine wpAny_bind (f9 m hd p h ?_);simp only[Int.toNat_natCast];rw[Array.getElem?_eq_none (by omega)];refine wpAny_bind (wpAny_setField g l (by simp) ?_);exact fin _ _ (up _) λ_=>rfl
 |one h G r hr =>
  have key:∃ k:Nat,first = .int k 0/\es[SetTable.below t.place k]?=none:=by obtain⟨k,rfl,e⟩:=n;exact⟨k,rfl,by rw[e];exact Array.getElem?_eq_none (le_refl _)⟩
  obtain⟨k,rfl,B⟩:=key;dsimp only;refine wpAny_bind (gD m hd p h G r ?_);rw[Int.toNat_natCast,B];refine wpAny_bind (wpAny_setField g l (by simp) ?_);exact fin _ _ (up _) λ_=>rfl
 |drawn h W r tp order J V =>
  obtain⟨rfl,L⟩:=n;obtain⟨Y,u,QE,UX,D⟩:=id L;dsimp only;refine wpAny_bind (wpAny_seqItems u D ?_);dsimp only;have x:((order.map λ(i:Nat)=>Value.int i 0).toArray)[Int.toNat (es.size:Int)]?=none:=by rw[Int.toNat_natCast,List.getElem?_toArray,List.getElem?_eq_none];rw[length_map,J.length_eq,length_range];exact le_refl _
  rw[x];dsimp only;refine wpAny_bind (wpAny_setField g l (by simp) ?_);have O:=oB (f':=rawInt 0) c;obtain⟨o1,v,X,S⟩:=id O;refine wpAny_bind (wpAny_setField v S (by simp) ?_);exact fin _ _ (λb o d e=>((Heap.SameBut.update ..).2 b d).trans (up _ b o d e)) λ_=>rfl
theorem Ae:entryFor table "set_iterator.__iter__"=some Builtin.«dict_keyiterator.__iter__»:=entryFor_alias (id':="dict_keyiterator.__iter__") (by kernel_rfl) rfl (by decide) (by kernel_rfl)
theorem args_self (a:Value):argsOk "set_iterator.__iter__" ⟨[a],[]⟩:=by unfold argsOk;rw[signature?_of (id:="set_iterator.__iter__") (n:=['_','_','r','e','t','i','_','_']) (o:=['r','o','t','a','r','e','t','i','_','t','e','s']) (by kernel_rfl) SF.M6];kernel_rfl
theorem yO {first:Value}{i n:Nat}{Q:GW}(b:HX s.heap it a first i n ep)(h:Q (.ref it) s):wpAny (model prog w) A (pyIter (.ref it)) Q E s:=by refine wpAny_pyIter_slot b.ty SF.slot_self (wpAny_call_entry SF.slot_self b.ty Ae ?_ (args_self _));show wpAny _ _ (ret (.ref it)) _ _ s;exact wpAny_pure ⟨_,rfl,"set_iterator",_,b.ty,SF.slot_next.lookup,h⟩
theorem HX.keep {h h':Heap}{first:Value}{i n:Nat}(x:HX h it a first i n ep)(e:∀ o,h.get? it=some o->h'.get? it=some o):HX h' it a first i n ep:=let ⟨o,b,r⟩:=x;⟨o,e o b,r⟩
theorem Way.fp {out:Array (Int×Value)}{fp:List Addr}{F:Nat->Value->Heap->Prop}(y:Way w a it es ep t out fp F):it∈fp/\a∈fp/\∀ i f (h h':Heap),(∀ b∈fp,b≠it->∀ o,h.get? b=some o->h'.get? b=some o)->F i f h->F i f h':=by
 cases y with
 |text=>exact⟨by simp,by simp,λ_ _ _ _ _ x=>x⟩
 |one=>exact⟨by simp,by simp,λ_ _ _ _ _ x=>x⟩
 |drawn _ _ _ tp order _ d=>exact⟨by simp,by simp,λ_ _ h h' k x=>⟨x.1,by obtain⟨o,c,r⟩:=x.2;exact⟨o,k tp (by simp) d o c,r⟩⟩⟩
theorem Walks.set {out:Array (Int×Value)}{fp:List Addr}{F:Nat->Value->Heap->Prop}(B:A.handled=none)(y:Way w a it es ep t out fp F)(n:a≠it)(hex:o.ExactSet)(hd:o.data = .set es ep t)(q:t.fits es.size=true) :
  Walks prog w A it fp [it] es.size (λi v=>(out[i]?).map (·.2)=some v) (λi h=>h.get? a=some o/\∃ first,HX h it a first i es.size ep/\F i first h) where
 sub:=λb d=>by rw[mem_singleton.mp d];exact y.fp.1
 frame:=λi h g st k=>⟨k a y.fp.2.1 o st.1,let ⟨f,c,l⟩:=st.2;⟨f,c.keep λo e=>k it y.fp.1 o e,y.fp.2.2 i f h g (λb d _ o e=>k b d o e) l⟩⟩
 item:=λi s Q E D st j=>by
  obtain⟨m,f,c,l⟩:=st;have r:out.size=es.size:=by have:=y.perm.length_eq;simpa using this
  have p:out[i]?=some out[i]:=Array.getElem?_eq_getElem (by omega);refine next_item y n m hd q c l p λx g u C sb=>?_;refine j _ g s.toks (by rw[p];rfl) ⟨(sb.2 a n).trans m,x,u,C⟩ λb o d e=>(sb.2 b (λz=>d (by simp[z]))).trans e
 done:=λs Q E st j=>by
  obtain⟨m,f,c,l⟩:=st;exact next_end B y n m hd q c l λg k=>j g s.toks λb o d e=>k b o (λz=>d (by simp[z])) e
 self:=λi s Q E st j=>let ⟨f,c,_⟩:=st.2;yO c j
end
section
variable {prog:Program}{w:World}{A:Around}{E:GW}{s:Shared}
set_option maxHeartbeats 1000000 in
theorem lG {x:Addr}{T:String}(WC:T="set"∨T="dict")(hT:s.TypeIs (.ref x) T){Q:List Value->Shared->Prop}(C:List Value->Prop)
  (Ob:∀ (D:Heap) (Q':GW) (E':GW),(∀ b o,s.heap.get? b=some o->D.get? b=some o) ->
   (∀ (I:Addr) (fp i:List Addr) (n:Nat) (P:Nat->Value->Prop) (St:Nat->Shared->Prop) (g:Shared),WalksS prog w A.in1 I fp i (λa b=>b=a) n P St->St 0 g->n<=sizeLine->(∀ b∈fp,b=x∨D.objs.size<=b)->(∀ b∈i,D.objs.size<=b) ->
    (∀ b o,D.get? b=some o->g.heap.get? b=some o)->g.gens=s.gens->g.os=s.os->(∀ d,ItemsOf P d n->C d.toList)->Q' (.ref I) g)->wpAny (model prog w) A.in1 (pyIter (.ref x)) Q' E' { s with heap:=D })
  (hQ:∀ s' d,C d->(∀ b o,s.heap.get? b=some o->s'.heap.get? b=some o)->s'.gens=s.gens->s'.os=s.os->Q d s'):wpAny (model prog w) A (collect (.ref x)) Q E s:=by
 obtain⟨Y,O,V⟩:=id hT;have UY:x<s.heap.objs.size:=Heap.lt_size O;unfold collect;refine wpAny_bind (wpAny_runValue (codeAny_builtin F.entry_proto_collect ?_));rw[Around.under_plainId F.plain_proto_collect _];show wpAny _ A.in1 (newList [] >>= λl=>again (.builtin "list.__iadd__" ⟨[l,.ref x],[]⟩)) _ _ s;refine wpAny_bind (wpAny_newObj_type ?_);refine wpAny_pure ⟨plainId_quiet F.plain_list_iadd _,codeAny_builtin F.entry_list_iadd ?_⟩;rw[Around.under_plainId F.plain_list_iadd _];have MJ:(s.heap.push { cls:=.type "list",data:=.seq ([]:List Value).toArray }).get? s.heap.objs.size=some { cls:=.type "list",data:=.seq ([]:List Value).toArray }:=Heap.get?_push_size _ rfl;have WD:Shared.TypeIs { s with heap:=s.heap.push { cls:=.type "list",data:=.seq ([]:List Value).toArray } } (.ref x) T:=⟨Y,Heap.get?_push_of_some _ O,V⟩;have n1:Builtin.List.listSameRef (.ref s.heap.objs.size) (.ref x)=false:=by simp[Builtin.List.listSameRef,ne_of_gt UY]
 show wpAny _ A.in1 (Builtin.List.listExtendWith (.ref s.heap.objs.size) (.ref x) (.ref s.heap.objs.size)) _ _ _;unfold Builtin.List.listExtendWith;refine wpAny_bind (wpAny_typeOf WD ?_);have kp:∀ b o,s.heap.get? b=some o->(s.heap.push { cls:=.type "list",data:=.seq ([]:List Value).toArray }).get? b=some o:=λb o e=>Heap.get?_push_of_some _ e;have sz:(s.heap.push { cls:=.type "list",data:=.seq ([]:List Value).toArray }).objs.size=s.heap.objs.size+1:=Heap.size_push ..
 have main:∀ (I:Addr) (fp i:List Addr) (n:Nat) (P:Nat->Value->Prop) (St:Nat->Shared->Prop) (g:Shared),WalksS prog w A.in1 I fp i (λa b=>b=a) n P St->St 0 g->n<=sizeLine ->
   (∀ b∈fp,b=x∨(s.heap.push { cls:=.type "list",data:=.seq ([]:List Value).toArray }).objs.size<=b)->(∀ b∈i,(s.heap.push { cls:=.type "list",data:=.seq ([]:List Value).toArray }).objs.size<=b) ->
   (∀ b o,(s.heap.push { cls:=.type "list",data:=.seq ([]:List Value).toArray }).get? b=some o->g.heap.get? b=some o)->g.gens=s.gens->g.os=s.os->(∀ d,ItemsOf P d n->C d.toList) ->
   ∀ (R:Result->Shared->Prop),(∀ s' d c,C d.toList->(∀ b o,s.heap.get? b=some o->s'.heap.get? b=some o)->s'.gens=s.gens->s'.os=s.os->s'.heap.get? s.heap.objs.size=some { cls:=.type "list",dict:=none,data:=.seq d c,slots:=#[] }->R (.ok (.ret (.ref s.heap.objs.size))) s') ->
   wpAny (model prog w) A.in1 (rule "list.extend.makes-room" >>= λ_=>Builtin.List.listTouch (.ref s.heap.objs.size) >>= λ_=>again (.builtin "list.extend.loop" ⟨[.ref s.heap.objs.size,.ref I,.ref s.heap.objs.size],[]⟩))
    (λfin s'=>match fin with | .done f=>R (.ok f) s' | .again S=>S.quiet=true/\codeAny (model prog w) A S R s') (λe s'=>R (.error e) s') g:=by
  intro I fp i n P St g W st p y J k M o1 G R hR
  have Z:s.heap.objs.size∉fp:=λq=>by
   rcases y _ q with e |e
   ·exact ne_of_gt UY e
   rw[sz] at e;exact Nat.not_succ_le_self _ e
  refine wpAny_bind (wpAny_rule ?_);refine wpAny_bind ?_;have hS:g.heap.get? s.heap.objs.size=some { cls:=.type "list",data:=.seq ([]:List Value).toArray }:=k _ _ MJ;show wpAny _ A.in1 (updateSeq s.heap.objs.size (·.push .none) >>= λ_=>updateSeq s.heap.objs.size (·.pop)) _ _ _;refine wpAny_bind (wpAny_updateSeq hS rfl ?_);have N8:=Heap.get?_update_self (Obj.mapSeq (·.push Value.none)) hS rfl;refine wpAny_updateSeq (hz:=by seq_fits) N8 rfl ?_;have I_:=Heap.get?_update_self (Obj.mapSeq (·.pop)) N8 rfl
  have UZ:∀ b o,b≠s.heap.objs.size->g.heap.get? b=some o->((g.heap.update s.heap.objs.size (Obj.mapSeq (·.push Value.none))).update s.heap.objs.size (Obj.mapSeq (·.pop))).get? b=some o:=
   λb o j e=>(Heap.get?_update_other _ _ (Ne.symm j)).trans ((Heap.get?_update_other _ _ (Ne.symm j)).trans e)
  refine wpAny_pure ⟨plainId_quiet F.plain_extend_loop _,codeAny_extend_loopS W p _ Z _ n 0 _ _ _ rfl (zero_le _) (W.frame 0 g _ g.toks st (le_refl _) λb j o e=>UZ b o (λh=>Z (h▸j)) e) I_ (ItemsOf.nil P) λs' QH S q K_ Tw=>?_⟩;refine hR s' QH S (G QH Tw) (λb o e=>?_) (q.gens.trans M) (q.os.trans o1) K_;have j:b<s.heap.objs.size:=Heap.lt_size e;refine q.heap b o (λz=>?_) (UZ b o (ne_of_lt j) (k b o (kp b o e)));rcases mem_cons.mp z with z |z
  ·exact ne_of_lt j z
  have:=J b z;rw[sz] at this;exact Nat.not_succ_le_self _ (Nat.le_trans this (Nat.le_of_lt j))
 have last:∀ (s':Shared) (d:Array Value) (c:Nat),C d.toList->(∀ b o,s.heap.get? b=some o->s'.heap.get? b=some o)->s'.gens=s.gens->s'.os=s.os->s'.heap.get? s.heap.objs.size=some { cls:=.type "list",dict:=none,data:=.seq d c,slots:=#[] } ->
   wpAny (model prog w) A (load s.heap.objs.size >>= λo=>match o.data with | .seq L _=>pure L.toList |_=>unsupported "internal:collect") Q E s':=λs' d c B u N K t=>wpAny_bind (wpAny_load t (wpAny_pure (hQ s' d.toList B u N K)))
 rcases WC with rfl |rfl
 ·rw[if_neg (by rw[n1];decide)];refine wpAny_bind (Ob _ _ _ kp λI fp i n P St g W st p y J k M o1 G=>?_);have m:g.TypeIs (.ref x) "set":=⟨Y,k _ _ (kp _ _ O),V⟩;refine wpAny_bind (wpAny_holding ?_);unfold Builtin.List.listLengthHint;refine wpAny_bind (wpAny_specialOf m F.slot_set_len.lookup ?_)
  (generalize H:("set.__len__":String)=id0;wp_delta;rw[show splitId id0=some ("set","__len__") from by subst H;decide];subst H)
  refine wpAny_bind (wpAny_isInstance (b:=true) m (by rw[isSubtype_type];kernel_rfl) ?_);refine wpAny_bind (wpAny_typeOf m ?_);refine wpAny_pure ?_;dsimp only;split
  ·refine main I fp i n P St g W st p y J k M o1 G (λr s'=>match r with
    | .ok (.ret v)=>wpAny (model prog w) A (match v with
     | .ref a=>do
      let o ← load a
      match o.data with
       | .seq L _=>pure L.toList
       |_=>unsupported "internal:collect"
     |_=>unsupported "internal:collect") Q E s'
    | .ok _=>False
    | .error e=>E e s') ?_
   exact λX d c B u N K t=>last X d c B u N K t
  rename_i U;exact absurd (by decide) U
 rw[if_neg (by rw[n1];decide)];refine wpAny_bind (Ob _ _ _ kp λI fp i n P St g W st p y J k M o1 G=>?_);have m:g.TypeIs (.ref x) "dict":=⟨Y,k _ _ (kp _ _ O),V⟩;refine wpAny_bind (wpAny_holding ?_);unfold Builtin.List.listLengthHint;refine wpAny_bind (wpAny_specialOf m F.slot_dict_len.lookup ?_)
 (generalize H:("dict.__len__":String)=id0;wp_delta;rw[show splitId id0=some ("dict","__len__") from by subst H;decide];subst H)
 refine wpAny_bind (wpAny_isInstance (b:=true) m (by rw[isSubtype_type];kernel_rfl) ?_);refine wpAny_bind (wpAny_typeOf m ?_);refine wpAny_pure ?_;dsimp only;split
 ·refine main I fp i n P St g W st p y J k M o1 G (λr s'=>match r with
   | .ok (.ret v)=>wpAny (model prog w) A (match v with
    | .ref a=>do
     let o ← load a
     match o.data with
      | .seq L _=>pure L.toList
      |_=>unsupported "internal:collect"
    |_=>unsupported "internal:collect") Q E s'
   | .ok _=>False
   | .error e=>E e s') ?_
  exact λX d c B u N K t=>last X d c B u N K t
 rename_i U;exact absurd (by decide) U
end
end L2
namespace L2
open PySem PySem.Spec PyProof.Rows PySem.W
def iP:List D->Option (List Key)
 |[]=>some []
 |d::ds=>(dO d).bind λk=>(iP ds).map (k::·)
def mJ (d:D)(S:G0):Option D:=match d with
 | .tup a=>(dE a).map .lst
 | .lst a=>(dE a).map .lst
 | .loc l=>match S[l]? with
  |some (.dict kvs)=>(dE (kvs.map (·.1))).map .lst
  |_=>none
 |_=>none
def wI (f:GU D):GU D:=λb S=>ai (f b S) λd a=>aK (mJ d a) a
def As (k:D->Bool)(g:D->D->Option D)(fe c:GU D):GU D:=λa S=>ai (fe a S) λx d=>if k x=true then ai (c a d) λy b=>aK (g x y) b else none
section
variable {X:Cx}{W:WT}
variable {e:Expr}{fe:GU D}{gs:GU (List D)}{pos LG p p2:Pos}{x y:Str}
theorem zK {k:D->Bool}{g:D->D->Option D}{l:GU D}{T:String}{r:V->List V->Hp->VK->Prop}{n:St}{H:Hp}{Q:VK}(s:∀ J b d v,k d=true->At X.K b J d v->RF X.K T v b)
  (o:∀ (v f:V) (a:Hp) (Q:VK),Qh X.K g v f a Q->r v [f] a Q) (h:tE X W (As k g fe l) n H Q):Ut X.K T r (tE X W fe) (Cd (tE X W l) pW) n H Q:=
 (tG.Ha h).mono λv b q=>by
  obtain⟨d,i⟩:=q
  by_cases j:k d=true
  ·simp only[j,if_true] at i;refine⟨?_,(tG.Ha i).mono λf a ⟨u,p⟩=>o v f a Q (tG.Uw p)⟩;obtain⟨J,_,_,_,_,_,m,_,_⟩:=i;exact s J b d v j m.G6.1
  obtain⟨J,t,S,r,w,c,m,e,z⟩:=i;simp only[j,false_eq_true,if_false] at e;cases e
def Tx:Key->Bool
 | .inl _=>true
 | .inr _=>false
def DZ (P:Program)(w:World)(p:Addr)(a:List Key):HO:=HO.ext λh=>HI (bd P w) Tx (!Li w) h p a
theorem zV {k:Key}{u:Value}(r:RelV (kV k) u):u.scannable=true/\plainKind u=Tx k:=by
 cases k with
 |inl i=>obtain⟨t,e⟩:=(show ∃ t,u=Value.int i t from r);subst e;exact⟨rfl,rfl⟩
 |inr x=>obtain⟨t,e⟩:=(show ∃ t,u=Value.str x t from r);subst e;exact⟨rfl,rfl⟩
theorem zL (a:List Key):met (λi=>a.getD i (.inl 0)) a.length=a.foldl cW []:=by unfold met;congr 1;apply List.ext_getElem (by simp);intro i b c;simp at b;simp[List.getD,b]
theorem HI.len {h:Heap}{p:Addr}{a:List Key}{P:Program}{w:World}{es:Array (Int×Value)}(d:∃ l:List (Int×Value),l.Perm es.toList/\Paired (ug (bd P w)) a l):es.size=a.length:=by obtain⟨l,b,r⟩:=d;have c:=b.length_eq;have e:=lq r;simp only[length_toList] at c;omega
theorem wo {K:GV}{H:Hp}{J:List Addr}:∀ {ds:List D}{b:List Key}{vs:List V},iP ds=some b->G5 K H J ds vs->vs=b.map kV
 |[],b,vs,e,m=>by cases e;exact G5.G7.mp m
 |d::ds,b,vs,e,m=>by
  obtain⟨v,r,rfl,a,n⟩:=G5.G3.mp m;rw[iP] at e;obtain⟨k,c,f⟩:=bind_eq_some_iff.mp e;obtain⟨i,g,h⟩:=map_eq_some_iff.mp f;subst h;rw[map_cons,sM c a,wo g n]
theorem oZ:∀ {ds:List D}{a:List Key},iP ds=some a->a.length=ds.length
 |[],a,e=>by cases e;rfl
 |d::ds,a,e=>by
  rw[iP] at e;obtain⟨k,h,f⟩:=bind_eq_some_iff.mp e;obtain⟨g,b,c⟩:=map_eq_some_iff.mp f;subst c;rw[length_cons,length_cons,oZ b]
theorem HI.vals {P:Program}{w:World}{a:List Key}{l:List (Int×Value)}(r:Paired (ug (bd P w)) a l):Vals (a.map kV) (l.map (·.2)):=by
 induction r with
 |nil=>exact .nil
 |cons f t b =>
  rename_i k e a l;refine .cons ?_ b;obtain⟨c,_,_⟩:=f;rcases a8 c with ⟨i,t,rfl,e⟩ |⟨x,t,rfl,e⟩
  ·exact⟨t,e⟩
  exact⟨t,e⟩
theorem wW:∀ {us us':List Value},us'.Perm us->∀ {vs:List V},Vals vs us->∃ c:List V,c.Perm vs/\Vals c us':=by
 intro us us' f
 induction f with
 |nil=>intro vs r;exact⟨vs,.refl _,r⟩
 |cons x _ d =>
  intro vs r;cases r with
  |cons a b=>obtain⟨w,p,q⟩:=d b;exact⟨_::w,p.cons _,.cons a q⟩
 |swap x y l =>
  intro vs r;cases r with
  |cons a b=>cases b with
   |cons h i=>exact⟨_::_::_,.swap ..,.cons h (.cons a i)⟩
 |trans _ _ m j =>
  intro vs r;obtain⟨w,p,q⟩:=j r;obtain⟨e,k,g⟩:=m q;exact⟨e,k.trans p,g⟩
theorem Ay {K:GV}{H:Hp}{J:List Addr}{e vs:List V}(h:e.Perm vs):∀ {ds:List D},G5 K H J ds vs->∃ c:List D,c.Perm ds/\G5 K H J c e:=by
 induction h with
 |nil=>intro ds m;exact⟨ds,.refl _,m⟩
 |cons x _ f =>
  intro ds m;cases ds with
  |nil=>cases G5.G7.mp m
  |cons d ds=>obtain⟨a,b⟩:=m.G6;obtain⟨w,p,q⟩:=f b;exact⟨d::w,p.cons _,.cons a q⟩
 |swap x y l =>
  intro ds m;cases ds with
  |nil=>cases G5.G7.mp m
  |cons d ds=>cases ds with
   |nil=>cases G5.G7.mp m.G6.2
   |cons i ds=>obtain⟨a,b⟩:=m.G6;obtain⟨j,n⟩:=b.G6;exact⟨i::d::ds,.swap ..,.cons j (.cons a n)⟩
 |trans _ _ s o =>
  intro ds m;obtain⟨w,p,q⟩:=o m;obtain⟨g,r,k⟩:=s q;exact⟨g,r.trans p,k⟩
theorem sO {K:Type}[DecidableEq K]:∀ (l b:List K) (k:K),k∈l.foldl cW b↔k∈b∨k∈l
 |[],b,k=>by simp
 |a::l,b,k=>by
  rw[foldl_cons,sO l,mem_cons];unfold cW;split
  ·constructor
   ·rintro (h |h)
    ·exact .inl h
    exact .inr (.inr h)
   rintro (h |rfl |h)
   ·exact .inl h
   ·left;assumption
   exact .inr h
  simp only[mem_append,mem_singleton];constructor
  ·rintro ((h |h) |h)
   ·exact .inl h
   ·exact .inr (.inl h)
   exact .inr (.inr h)
  rintro (h |h |h)
  ·exact .inl (.inl h)
  ·exact .inl (.inr h)
  exact .inr h
theorem Inv.moved {a:GX}{c:St}{H:Hp}{s s':Shared}(I:Inv X a c H s)(k:∀ b o,s.heap.get? b=some o->s'.heap.get? b=some o)(g:s'.gens=s.gens)(o:s'.os=s.os):Inv X a c H s':=by obtain⟨e,g',d',t',d⟩:=s';cases g;cases o;exact I.call (d':=d') (t':=t') (g':=s.gens) (ch:=[]) (Un.kept k) (I.Hq.kept k) I.bare λb z=>absurd z (by simp)
theorem qL (T:X.calm=true):h_ X (.builtin "sorted") (λxs H Q => ∃ (p:Addr) (x:List Key) (J:List Addr) (ds out:List D),xs=[.ref p]/\H p=some (DZ X.prog X.w p x)/\(∀ a∈J,H a≠none)/\G5 X.K H J ds (x.map kV)/\dE ds=some out/\∀ H' v,Hb H H'->At X.K H' J (.lst out) v->Q v H'):=by
 intro B s σ H xs C Q I r h;obtain⟨p,x,J,ds,out,rfl,Z,hJ,m0,e,q⟩:=h;obtain⟨u,rfl,ru⟩:=vals1 r;cases ru;obtain⟨⟨o,es,ep,t,m,hex,hd,G,f,S,Jp,_,hr⟩,_,_⟩:=I.Hq p _ Z;obtain⟨l,W,rl⟩:=id G;have ez:=HI.len (h:=s.heap) (p:=p) G;have P:es.size<=sizeLine:=Nat.le_of_lt (lt_of_lt_of_le f (by decide));refine im hJ e q λQ' E hQ=>?_;have hh:X.A.in1.handled=none:=I.ok.hd T;refine lG (.inl rfl) ⟨o,m,hex.1⟩ (λC=>C.Perm (l.map (·.2))) (λO Q2 E2 n Tz=>?_) λs' c QJ k g os=>?_
 ·refine uP (s:={ s with heap:=O }) (n _ _ m) hex hd S P (λf=>by rw[Jp,f];rfl) hr λit M fp F first h' d y V hF L j Nm=>?_
  have Ij:p≠it:=λz=>by have N:p<O.objs.size:=Heap.lt_size (n _ _ m);rw[z] at N;exact absurd (lt_of_lt_of_le N j) (Nat.lt_irrefl _)
  refine Tz it fp [it] es.size _ _ _ ((Walks.set (A:=X.A.in1.in1) hh y Ij hex hd S).toS) ⟨L _ _ (n _ _ m),first,V,hF⟩ P Nm (λb f=>by rw[mem_singleton.mp f];exact j) L rfl rfl λc ha=>?_;obtain⟨a1,Y⟩:=ha;have Yl:M.size=es.size:=by have:=y.perm.length_eq;simpa using this
  have e3:c.toList=M.toList.map (·.2):=by
   apply ext_getElem?;intro i;by_cases hi:i<es.size
   ·have R:c[i]?=some c[i]:=Array.getElem?_eq_getElem (by omega);have:=Y i _ R;rw[getElem?_map,getElem?_toList,getElem?_toList,R,this]
   rw[getElem?_map,getElem?_toList,getElem?_toList,Array.getElem?_eq_none (by omega),Array.getElem?_eq_none (by omega)];rfl
  rw[e3];exact(y.perm.trans W.symm).map _
 have rv:=HI.vals rl;obtain⟨Ks,U,r1⟩:=wW QJ rv;obtain⟨LD,p2,m2⟩:=Ay U m0;exact hQ c Ks s' LD (I.moved k g os) r1 p2 m2
theorem kr {α c:Type}{R : α->c->Prop}:∀ {l:List α}{m:List c},l.length=m.length->(∀ (i:Nat) a b,l[i]?=some a->m[i]?=some b->R a b)->Paired R l m
 |[],[],_,_ => .nil
 |a::l,b::m,h,k => .cons (k 0 a b rfl rfl) (kr (by simpa using h) λi x y d e=>k (i+1) x y (by simpa using d) (by simpa using e))
 |[],_::_,h,_=>by simp at h
 |_::_,[],h,_=>by simp at h
theorem mY {α e:Type}{R : α->e->Prop}{l:List α}{m:List e}(r:Paired R l m):∀ (i:Nat) a b,l[i]?=some a->m[i]?=some b->R a b:=by
 induction r with
 |nil=>intro i a b h;simp at h
 |cons f t g =>
  intro i a b d c;cases i with
  |zero=>simp at d c;subst d c;exact f
  |succ i=>exact g i a b (by simpa using d) (by simpa using c)
theorem wp {P:Program}{w:World}{k:Key}{u:Value}(h:(bd P w).is k u=true):RelV (kV k) u:=by
 rcases a8 h with ⟨i,t,rfl,e⟩ |⟨x,t,rfl,e⟩
 ·exact⟨t,e⟩
 exact⟨t,e⟩
theorem tx (N:X.calm=true):h_ X (.builtin "sorted") (λxs H Q => ∃ (p:Addr) (j:List (Key×V)) (J:List Addr) (ds out:List D),xs=[.ref p]/\H p=some (.dK j)/\(∀ a∈J,H a≠none)/\G5 X.K H J ds (j.map λq=>kV q.1)/\dE ds=some out/\∀ H' v,Hb H H'->At X.K H' J (.lst out) v->Q v H'):=by
 intro F s σ H xs B Q I r h;obtain⟨p,j,J,ds,out,rfl,L,U,m,e,q⟩:=h;obtain⟨u,rfl,W⟩:=vals1 r;cases W;obtain⟨R,O1,l,G,hd⟩:=I.Hq p _ L;obtain⟨ep,TB⟩:=hd.dictAt;have d:l.length=j.length:=(KV.length G).symm;refine im U e q λQ' E O=>?_;have hh:X.A.in1.handled=none:=I.ok.hd N;refine lG (.inr rfl) hd.typeIs (λB=>Vals (j.map λq=>kV q.1) B) (λf Q2 E2 S Tz=>?_) λY c n k g os=>?_
 ·have t:f.DictAt (bd X.prog X.w) p l ep:=TB.keep S;refine wpAny_pyIter_dict (s:={ s with heap:=f }) O1 t ?_;have HN:p<f.objs.size:=t.lt_size
  refine Tz f.objs.size [f.objs.size,p] [f.objs.size] l.length _ _ _ ((Walks.dictKeys (A:=X.A.in1.in1) hh f.objs.size p (ne_of_lt HN) l ep).toS) ⟨⟨_,Heap.get?_push_size _ rfl,rfl,rfl⟩,t.push _⟩ (by rw[d];exact R)
   (λb hb=>by
    rcases mem_cons.mp hb with z |hb
    ·rw[z];exact .inr (le_refl _)
    exact .inl (mem_singleton.mp hb))
   (λb hb=>by rw[mem_singleton.mp hb];exact le_refl _) (λb o e=>Heap.get?_push_of_some _ e) rfl rfl λc M=>?_
  obtain⟨a1,a2⟩:=M;refine kr (by have y:c.toList.length=c.size:=length_toList;rw[length_map,y,a1,d]) λi v u n C=>?_;rw[getElem?_toList] at C;obtain⟨k,x,y,Z⟩:=a2 i u C;rw[getElem?_map] at n;obtain⟨q,P,e4⟩:=map_eq_some_iff.mp n;have T:=(mY G i q (k,x) P y).1;rw[← e4,T];exact wp Z
 exact O c _ Y ds (I.moved k g os) n (.refl _) m
theorem A7 (G:x="sorted")(A:X.calm=true)(y:X.mg x=none)(n:SE X W e fe)(w:Gl X x:=by rfl)(i:starEach [e] X.env=(false,eval e X.env)::starEach [] X.env:=by rfl)(u:(backTo pos (starEach [] X.env)).any (·.1)=false:=by rfl) :
  SE X W (.Call (.Name x p) [e] [] pos) (wI fe):=by
 subst G
 refine SE.either (g1:=bn yF (af fe ar)) (g2:=λg S=>ai (fe g S) λd j=>aK (match d with | .loc l=>(match j[l]? with |some (.dict b)=>(dE (b.map (·.1))).map .lst |_=>none) |_=>none) j)
  (bv B2 y iC (ae n aj i) w (by decide) (by decide) i u) ?_ λg S=>?_
 ·refine PE.imp (jD (tx A) w y iC (dM n Ib i) (by decide) (by decide) i u) λN H Q h=>?_;refine(tG.Ha h).mono λv P ⟨d,L⟩=>?_;obtain⟨J,g,S,r,R,c,m,eq,z⟩:=L;obtain⟨m,_⟩:=m.G6;show pW _ _ _;cases d with
  |loc l =>
   obtain⟨a,rfl,D⟩:=At.Hc.mp m;cases hS:S[l]? with
   |none=>simp[hS] at eq
   |some F =>
    cases F with
    |lst O=>simp[hS] at eq
    |exc c=>simp[hS] at eq
    |Hi _=>simp[hS] at eq
    |ins _ _=>simp[hS] at eq
    |dict b =>
     simp only[hS] at eq;cases hq:dE (b.map (·.1)) with
     |none=>simp[hq] at eq
     |some out =>
      simp only[hq,map_some,bt,G9] at eq;cases eq;obtain⟨E,k,M⟩:=c.Hu.at_ l a _ D hS;refine⟨a,E,J,b.map (·.1),out,rfl,k,c.Hu.all,?_,hq,λK v s C=>z J K v (Ex.same s) (c.Hu.same s) C⟩;clear hq hS z k
      induction M with
      |nil=>exact .nil
      |cons f t B=>exact .cons f.1.2 B
  |_=>simp at eq
 unfold wI bn af ar;cases q:fe g S with
 |none=>exact .inl rfl
 |some o =>
  obtain⟨I,j⟩:=o;cases I with
  |error c=>exact .inl rfl
  |ok d=>cases d<;>first |exact .inl rfl |exact .inr rfl
end
mutual
inductive Lit:Expr->D->Prop
 |int {i:Int}{j p}:Lit (.Constant (.int i) j p) (.int i)
 |bl {b:Bool}{j p}:Lit (.Constant (.bool b) j p) (.bl b)
 |Ho {j p}:Lit (.Constant .none j p) .Ho
 |str {x:Str}{j p} (hx:N2 x):Lit (.Constant (.str x) j p) (.str x)
 |neg {i:Int}{j p q}:Lit (.UnaryOp .USub (.Constant (.int i) j p) q) (.int (-i))
 |tup {es:List Expr}{ds:List D}{k p} (h:Mm es ds) (n:ds.length<=1000):Lit (.Tuple es k p) (.tup ds)
 |lst {es:List Expr}{ds:List D}{p} (h:Mm es ds) (n:ds.length<=1000):Lit (.List es p) (.lst ds)
inductive Mm:List Expr->List D->Prop
 |nil:Mm [] []
 |cons {e:Expr}{d:D}{es:List Expr}{ds:List D}(h:Lit e d) (r:Mm es ds):Mm (e::es) (d::ds)
end
section
variable {X:Cx}{W:WT}
theorem SE.eq {e:Expr}{g g':GU D}(h:SE X W e g)(q:g=g'):SE X W e g':=q▸h
theorem SA.eq {e:List Expr}{g g':GU (List D)}(h:SA X W e g)(q:g=g'):SA X W e g':=q▸h
theorem yD {e:Expr}{d:D}(h:Lit e d)(es:List Expr):starEach (e::es) X.env=(false,eval e X.env)::starEach es X.env:=by cases h<;>rfl
mutual
theorem km:∀ {e:Expr}{d:D},Lit e d->SE X W e (aE d)
 |_,_,.int=>aq
 |_,_,.bl=>oE
 |_,_,.Ho=>kj
 |_,_,.str a=>iV a
 |_,_,.neg=>SE.eq (vX pU aq) rfl
 |_,_,.tup (ds:=ds) h n=>SE.eq (cw (uL h)) (by
   funext ρ S;show aK (Jc ds (.tup ds)) S=G9 (.tup ds) S;unfold Jc
   rw[if_pos (Nat.le_trans n (by decide))];rfl)
 |_,_,.lst (ds:=ds) h n=>SE.eq (iX (uL h)) (by
   funext ρ S;show aK (Jc ds (.lst ds)) S=G9 (.lst ds) S;unfold Jc
   rw[if_pos (Nat.le_trans n (by decide))];rfl)
theorem uL:∀ {es:List Expr}{ds:List D},Mm es ds->SA X W es (λ_ S=>G9 ds S)
 |_,_,.nil=>aj
 |_,_,.cons h r=>SA.eq (ae (km h) (uL r) (yD h _)) rfl
end
end
def E9 (F:GZ)(t:GU (List D)):GU D:=λa S=>ai (t a S) λc b=>F c b
def DI (c:Str)(t:GU (List D)):GU Fl:=λa S=>ai (t a S) λe d=>ai (aK (Jc e .Ho) d) λ_ b=>some (.error c,b)
end L2
namespace L2
open PySem PySem.Spec PySem.Calls PyProof.Rows PySem.W
structure U0 (K:Frag) (C:Addr):Prop where
 cls:findIn K (.ref C) "__class__"=some (some (.builtin "object.__class__"))
 ga:findIn K (.ref C) "__getattribute__"=some (some (.builtin "BaseException.__getattribute__"))
 gn:findIn K (.ref C) "__getattr__"=some none
 so:subIn K (.ref C) (.type "object")=some true
 sb:subIn K (.ref C) (.type "BaseException")=some true
 is:(clsIn K C).isSome=true
end L2
namespace L2
open PySem PySem.Spec PyProof.Rows PySem.W
section
variable {X:Cx}{W:WT}{e:Expr}{fe fa:GU D}{pos p p2:Pos}
def ER (a:Str->Option Bool)(d:D)(S:G0):Option D:=match d with
 | .loc l=>(match S[l]? with
  |some (.exc c)=>(a c).map .bl
  |_=>none)
 |_=>none
def Gc (a:Str->Option Bool)(fe:GU D):GU D:=λc S=>ai (fe c S) λd b=>aK (ER a d b) b
end
section
variable {X:Cx}{W:WT}{fe fa:GU D}
theorem fP:∀ {us:List Value}{ns:List Int},Vals (ns.map V.int) us->IntsAre us ns
 |_,[],r=>by cases r;exact .nil
 |_,n::ns,r=>by
  cases r with
  |cons a b =>
   obtain⟨t,rfl⟩:=a;exact .cons n t (fP b)
end
section
variable {X:Cx}{W:WT}{e:Expr}{fe:GU D}{pos p:Pos}{x:Str}
def EM (d:D)(S:G0):Option D:=match d with
 | .loc l=>(match S[l]? with
  |some (.dict kvs)=>some (.int kvs.length)
  |_=>none)
 |_=>none
theorem tD (A:X.calm=true):h_ X (.type "list") (λxs H Q => ∃ (p:Addr) (d:List (Key×V)),xs=[.ref p]/\H p=some (.dK d)/\∀ l,H l=none->Q (.ref l) (upd H l (.lst (d.map λq=>kV q.1)))):=by
 intro n s R H xs O Q I r h;obtain⟨p,d,rfl,y,q⟩:=h;obtain⟨u,rfl,D⟩:=vals1 r;cases D;obtain⟨f,K,g,t,hd⟩:=I.Hq p _ y;obtain⟨ep,N⟩:=hd.dictAt;have b:g.length=d.length:=(KV.length t).symm;refine kdl_call (kdl_dict (kvs:=g) (ep:=ep) (knd:=bd X.prog X.w) K) (I.ok.hd A) N (by rw[b];exact f) λP tk a c k L z=>?_;obtain⟨M,J⟩:=z;have G:Vals (d.map λq=>kV q.1) a.toList:=by refine kr (by have e:a.toList.length=a.size:=length_toList;rw[length_map,e,M,b]) λi v u j m=>?_;rw[getElem?_toList] at m;obtain⟨k,x,e,F⟩:=J i u m;rw[getElem?_map] at j;obtain⟨q,B,E⟩:=map_eq_some_iff.mp j;have C:=(mY t i q (k,x) B e).1;rw[← E,C];exact wp F
 exact⟨.ref s.heap.objs.size,_,I.laid (t':=tk) (o:=.lst (d.map λq=>kV q.1)) k (le_refl _) ⟨by rw[length_map];exact f,a.toList,c,G,by simpa using L⟩,rfl,q _ I.fresh⟩
def fC (d:D)(S:G0):Option D:=match d with
 | .loc l=>(match S[l]? with
  |some (.dict kvs)=>if kvs.length<=sizeLine then some (.lst (kvs.map (·.1))) else none
  |_=>none)
 |_=>none
def kL (fe:GU D):GU D:=λb S=>ai (fe b S) λd a=>aK (fC d a) a
theorem rK (P:X.A.units+1<cLine)(L:X.mg x=none)(b:SE X W e fe)(u:X.calm=true:=by rfl)(C:x="list":=by rfl)(F:Gl X x:=by rfl)(o:starEach [e] X.env=(false,eval e X.env)::starEach [] X.env:=by rfl)(E:(backTo pos (starEach [] X.env)).any (·.1)=false:=by rfl) :
  SE X W (.Call (.Name x p) [e] [] pos) (kL fe):=by
 subst C;refine PE.imp (ko (tD u) F L B7 (dM b Ib o) (by decide) (by decide) o E) λN H Q h=>?_;refine(tG.Ha h).mono λv G ⟨d,I⟩=>?_;obtain⟨J,M,S,r,R,c,m,eq,z⟩:=I;obtain⟨m,_⟩:=m.G6;show pW _ _ _;unfold fC at eq;cases d with
 |loc l =>
  obtain⟨a,rfl,y⟩:=At.Hc.mp m;cases hS:S[l]? with
  |none=>simp[hS] at eq
  |some B =>
   cases B with
   |dict i =>
    simp only[hS] at eq;split at eq
    ·rename_i k;cases eq;obtain⟨n,j,s⟩:=c.Hu.at_ l a _ y hS;refine⟨a,n,rfl,j,λO g=>?_⟩
     have D:G5 X.K G J (i.map (·.1)) (n.map λq=>kV q.1):=by
      clear hS z j k
      induction s with
      |nil=>exact .nil
      |cons f t w=>exact .cons f.1.2 w
     refine z J _ _ (Ex.same (aM g _)) (c.Hu.same (aM g _)) (At.I0 D g (λa b=>c.Hu.tracked b) ?_);rw[length_map,← s.length];exact k
    cases eq
   |_=>simp[hS] at eq
 |_=>simp at eq
end
def dZ (a b:D):Bool:=match fD a,fD b with
 |some p,some q=>PyData.eqv p q
 |_,_=>false
def putN (kvs:List (D×D))(k v:D):List (D×D):=if (kvs.any λp=>dZ p.1 k)=true then kvs.map (λp=>if dZ p.1 k=true then (p.1,v) else p) else kvs++[(k,v)]
def jG (kvs:List (D×D))(k:D):Option D:=(kvs.find? λp=>dZ p.1 k).map (·.2)
noncomputable def jC (b:List (PyData×Addr×V)) (k:PyData) (a:Addr) (v:V):List (PyData×Addr×V):=if (b.any λp=>decide (p.1=k))=true then b.map (λp=>if p.1=k then (p.1,p.2.1,v) else p) else b++[(k,a,v)]
noncomputable def ou (a:List (PyData×Addr×V)) (k:PyData):Option V:=(a.find? λp=>decide (p.1=k)).map (·.2.2)
abbrev RQ:(PyData×Addr×V)->(PyData×Addr×Value)->Prop:=λp q=>p.1=q.1/\p.2.1=q.2.1/\RelV p.2.2 q.2.2
theorem qx {d:D}{p:PyData}(h:fD d=some p):toPy d=some p/\keyOk 8 p=true:=by
 unfold fD at h;obtain⟨q,c,a⟩:=bind_eq_some_iff.mp h;split at a
 ·rename_i b;cases a;exact⟨c,b⟩
 cases a
section
variable {K:GV}{H H':Hp}{J J':List Addr}
theorem mN {a k:D}{x y:PyData}(h:fD a=some x)(g:fD k=some y):dZ a k=decide (x=y):=by unfold dZ;rw[h,g];exact o0 (qx h).2 (qx g).2
theorem DX {kvs:List (D×D)}{a:List (PyData×Addr×V)}{k:D}{y:PyData}(g:fD k=some y)(r:Paired (Md K H J) kvs a):(kvs.any λp=>dZ p.1 k)=a.any λq=>decide (q.1=y):=by
 induction r with
 |nil=>rfl
 |cons h t b=>rw[any_cons,any_cons,b,mN h.1.1 g]
theorem xp {kvs:List (D×D)}{a:List (PyData×Addr×V)}{k v:D}{y:PyData}{w:V}(g:fD k=some y)(c:At K H J v w)(r:Paired (Md K H J) kvs a) :
  Paired (Md K H J) (kvs.map λp=>if dZ p.1 k=true then (p.1,v) else p) (a.map λq=>if q.1=y then (q.1,q.2.1,w) else q):=by
 induction r with
 |nil=>exact .nil
 | @cons p q f d h t b =>
  refine .cons ?_ b;show Md K H J (if dZ p.1 k=true then (p.1,v) else p) (if q.1=y then (q.1,q.2.1,w) else q);rw[mN h.1.1 g];by_cases e:q.1=y
  ·rw[if_pos (decide_eq_true e),if_pos e];exact⟨h.1,c⟩
  rw[if_neg (by rw[decide_eq_false e];decide),if_neg e];exact h
theorem xr {k v:D}{y:PyData}{b:Addr}{w:V}(g:fD k=some y)(f:At K H J k (.ref b))(d:At K H J v w){a:List (D×D)}{c:List (PyData×Addr×V)}(h:Paired (Md K H J) a c):Paired (Md K H J) (a++[(k,v)]) (c++[(y,b,w)]):=by
 induction h with
 |nil=>exact .cons ⟨⟨g,f⟩,d⟩ .nil
 |cons h t e=>exact .cons h e
theorem CU {kvs:List (D×D)}{a:List (PyData×Addr×V)}{k v:D}{y:PyData}{b:Addr}{w:V}(g:fD k=some y)(d:At K H J k (.ref b))(c:At K H J v w)(r:Paired (Md K H J) kvs a):Paired (Md K H J) (putN kvs k v) (jC a y b w):=by
 unfold putN jC;rw[DX g r];split
 ·exact xp g c r
 exact xr g d c r
theorem z8 {kvs:List (D×D)}{a:List (PyData×Addr×V)}{k:D}{y:PyData}(g:fD k=some y)(r:Paired (Md K H J) kvs a) :
  (jG kvs k=none/\ou a y=none)∨∃ d v,jG kvs k=some d/\ou a y=some v/\At K H J d v:=by
 unfold jG ou
 induction r with
 |nil=>exact .inl ⟨rfl,rfl⟩
 | @cons p q f c h t b =>
  rw[find?_cons,find?_cons,mN h.1.1 g];by_cases e:q.1=y
  ·rw[decide_eq_true e];exact .inr ⟨p.2,q.2.2,rfl,rfl,h.2⟩
  rw[decide_eq_false e];exact b
end
theorem CP {a:List (PyData×Addr×V)}{xs:List (PyData×Addr×Value)}(r:Paired RQ a xs)(k:PyData):(a.any λp=>decide (p.1=k))=(atKey xs k).isSome:=by
 unfold atKey;rw[isSome_map]
 induction r with
 |nil=>rfl
 | @cons p q c d h t b =>
  rw[any_cons,find?_cons,b,h.1];by_cases e:q.1=k
  ·rw[decide_eq_true e];rfl
  rw[decide_eq_false e];rfl
theorem yU {a:List (PyData×Addr×V)}{xs:List (PyData×Addr×Value)}(r:Paired RQ a xs)(k:PyData):Iz (ou a k) ((atKey xs k).map (·.2)):=by
 unfold ou atKey
 induction r with
 |nil=>exact True.intro
 | @cons p q c d h t b =>
  rw[find?_cons,find?_cons,h.1];by_cases e:q.1=k
  ·rw[decide_eq_true e];exact h.2.2
  rw[decide_eq_false e];exact b
theorem CN {a:List (PyData×Addr×V)}{xs:List (PyData×Addr×Value)}(r:Paired RQ a xs)(k:PyData){v:V}{u:Value}(b:RelV v u):Paired RQ (a.map λp=>if p.1=k then (p.1,p.2.1,v) else p) (xs.map (putAt k u)):=by
 induction r with
 |nil=>exact .nil
 | @cons p q d f h t c =>
  refine .cons ?_ c;show RQ (if p.1=k then (p.1,p.2.1,v) else p) (putAt k u q);unfold putAt;by_cases e:p.1=k
  ·rw[if_pos e,if_pos (h.1.symm.trans e)];exact⟨h.1,h.2.1,b⟩
  rw[if_neg e,if_neg (λz=>e (h.1.trans z))];exact h
theorem CO {a:List (PyData×Addr×V)}{xs:List (PyData×Addr×Value)}(r:Paired RQ a xs)(k:PyData)(b:Addr){v:V}{u:Value}(c:RelV v u):Paired RQ (a++[(k,b,v)]) (xs++[(k,b,u)]):=by
 induction r with
 |nil=>exact .cons ⟨rfl,rfl,c⟩ .nil
 |cons h t d=>exact .cons h d
theorem CM {c:List (PyData×Addr×V)}{xs:List (PyData×Addr×Value)}(r:Paired RQ c xs)(k:PyData)(b:Addr){v:V}{u:Value}(a:RelV v u):Paired RQ (jC c k b v) (storedH xs k b u):=by
 unfold jC storedH;rw[CP r k];split
 ·exact CN r k a
 exact CO r k b a
theorem xn (a:List (PyData×Addr×V))(k:PyData)(b:Addr)(v:V):(jC a k b v).length<=a.length+1:=by
 unfold jC;split
 ·rw[length_map];omega
 rw[List.length_append];simp
section
variable {X:Cx}{pins:GX}{σ:St}{H:Hp}{s:Shared}{J:List Addr}{a:Addr}
theorem l_ (I:Inv X pins σ H s){d:D}{y:PyData}{b:Addr}(g:fD d=some y)(m:At X.K H J d (.ref b)):(jM X.prog X.w).is s.heap y b:=by obtain⟨a,c⟩:=qx g;exact⟨c,(At.reads I m (show RelV (.ref b) (.ref b) from rfl) a).2⟩
theorem wE {kvs:List (D×D)}{b:List (PyData×Addr×V)}(I:Inv X pins σ H s)(e:H a=some (.dN b))(r:Paired (Md X.K H J) kvs b) :
  b.length<=sizeLine/\(a==sysModules)=false/\∃ xs,Paired RQ b xs/\s.heap.DictOfH (jM X.prog X.w) a xs:=by
 obtain⟨z,y,xs,q,o,es,ep,j,d,g,i,c⟩:=I.Hq a _ e;refine⟨z,y,xs,q,o,es,ep,j,d,g,i,?_,c⟩;clear j d g i c z e
 induction r generalizing xs with
 |nil=>cases q;intro x hx;exact nomatch hx
 | @cons p n u m h t l =>
  cases q with
  |cons f k =>
   intro x hx;rcases mem_cons.mp hx with e |hx
   ·subst e;rw[← f.1,← f.2.1];exact l_ I h.1.1 h.1.2
   exact l _ k x hx
end
def vH (K:GV)(H:Hp)(a:Addr)(y:V)(r:Option V):Prop:=∃ J d c e f b,H a=some (.dN c)/\Paired (Md K H J) d c/\fD e=some f/\At K H J e (.ref b)/\y = .ref b/\r=ou c f
def Fg (K:GV)(H:Hp)(a:Addr)(y v:V)(H':Hp):Prop:=∃ J d c e f b,H a=some (.dN c)/\Paired (Md K H J) d c/\fD e=some f/\At K H J e (.ref b)/\y = .ref b/\c.length<sizeLine/\H'=upd H a (.dN (jC c f b v))
section
variable {X:Cx}{pins:GX}{σ:St}{H:Hp}{s:Shared}{a:Addr}{y v:V}{u r:Value}{o:Option V}{A:Around}{E:GW}
theorem uW (a:A.units+150<cLine):(jM X.prog X.w).room A.in1:=by show A.units+1+8<cLine;omega
theorem xH {Q:GW}(x:A.units+150<cLine)(I:Inv X pins σ H s)(g:vH X.K H a y (some v))(C:RelV y u)(h:∀ c s',Inv X pins σ H s'->RelV v c->Q c s') :
  wpAny (model X.prog X.w) A (getItem (.ref a) u) Q E s:=by
 obtain⟨J,q,F,D,d,b,e,n,m,mk,B,l⟩:=g;subst B;cases (show u=Value.ref b from C);obtain⟨z,hd,r,rel,k⟩:=wE I e n;obtain⟨c,j,i⟩:=Iz.some_of (v:=v) (o:=(atKey r d).map (·.2)) (by rw[l];exact yU rel d);obtain⟨p,f,t⟩:=map_eq_some_iff.mp j;refine wpAny_getItem_heap (uW x) (l_ I m mk) k f ?_;rw[t];exact h c _ (I.tok _) i
theorem BH {Q:GW}(k:A.units+150<cLine)(I:Inv X pins σ H s)(g:vH X.K H a y o)(n:RelV y u)(h:∀ s',Inv X pins σ H s'->Q (.bool (!o.isSome)) s') :
  wpAny (model X.prog X.w) A (compareOp .NotIn u (.ref a)) Q E s:=by
 obtain⟨J,i,r,p,j,b,e,f,d,mk,m,l⟩:=g;subst m;cases (show u=Value.ref b from n);obtain⟨z,hd,t,rel,c⟩:=wE I e f;refine wpAny_notIn_heap (uW k) (l_ I d mk) hd c ?_;have q:=(yU rel j).HU;rw[isSome_map] at q;rw[← q,← l];exact h _ (I.tok _)
theorem xG {H':Hp}{Q:Unit->Shared->Prop}(M:A.units+150<cLine)(I:Inv X pins σ H s)(g:Fg X.K H a y v H')(O:RelV y u)(C:RelV v r)(h:∀ s',Inv X pins σ H' s'->Q () s') :
  wpAny (model X.prog X.w) A (setItem (.ref a) u r) Q E s:=by
 obtain⟨J,G,d,P,c,b,e,B,x,mk,N,l,t⟩:=g;subst N t;cases (show u=Value.ref b from O);obtain⟨z,hd,L,rel,p⟩:=wE I e B;have m:L.length<=sizeLine:=by rw[← Paired.length rel];exact z
 have n:(jC d c b v).length<=sizeLine:=by have:=xn d c b v;omega
 refine wpAny_setItem_heap (hsz:=m) (uW M) (l_ I x mk) p λR i o=>h _ ?_;obtain⟨q,es,ep,f,k,D,F,_,j⟩:=i;exact qJ I (by rw[e];exact True.intro) o ⟨q,f⟩ ⟨n,hd,_,CM rel c b C,q,es,ep,f,k,D,F,j⟩
theorem zF (I:Inv X pins σ H s)(g:vH X.K H a y o):s.TypeIs (.ref a) "dict":=by obtain⟨J,c,h,i,k,b,e,f,n,mk,j,l⟩:=g;obtain⟨_,_,m,_,d⟩:=wE I e f;exact d.typeIs
end
section
variable {X:Cx}{o i e value:Expr}{pos pos' NA:Pos}{td ty tv:TE}
theorem Bq (t:X.A.units+150<cLine)(l:PE X o td)(hi:PE X i ty)(n:yq i):PE X (.Subscript o i pos) (λc H Q=>td c H λx e=>ty c e λy d => ∃ a v,x = .ref a/\vH X.K d a y (some v)/\Q v d):=by intro b s c H Q I h;refine vT PySem.F.slot_dict_getitem.lookup n (Hk (l b s c H _ I h) λu m ⟨x,e,q,w,r⟩=>Hk (hi b m c e _ q r) λD G p=>?_);obtain⟨y,d,f,z,a,v,ex,g,B⟩:=p;subst ex;obtain rfl:u=Value.ref a:=w;exact⟨zF f g,xH t f g z λC E j k=>⟨v,d,j,k,B⟩⟩
theorem xx (r:X.A.units+150<cLine)(hi:PE X i ty)(j:PE X o td):PC X .NotIn i o (λc H Q=>ty c H λy e=>td c e λx d => ∃ a o,x = .ref a/\vH X.K d a y o/\Q (.bl (!o.isSome)) d):=by intro b s c H Q I h;refine Hk (hi b s c H _ I h) λz k ⟨y,e,n,v,p⟩=>Hk (j b k c e _ n p) λu C m=>?_;obtain⟨x,d,l,t,a,q,ex,g,w⟩:=m;subst ex;obtain rfl:u=Value.ref a:=t;exact BH r l g v λB f=>⟨.bl (!q.isSome),d,f,rfl,w⟩
theorem Bg (E:X.A.units+150<cLine)(l:PE X o td)(hi:PE X i ty)(z:PE X value tv)(n:swapsWith value (some (.Subscript o i pos')) pos.line X.env=pure false) :
  PS X (.Assign [.Subscript o i pos'] value pos) (λD c H=>tv c H λv f=>td c f λx e=>ty c e λy j => ∃ a d,x = .ref a/\Fg X.K j a y v d/\D.nx c d):=by
 intro b s c H D I h;refine wpAny_Assign_Subscript (Hk (z b s c H _ I h) λr m ⟨v,f,B,w,C⟩=>Hk (l b m c f _ B C) λu G ⟨x,e,q,F,L⟩=>Hk (hi b G c e _ q L) λN O t=>?_) n;obtain⟨y,j,k,J,a,d,ex,g,M⟩:=t;subst ex;obtain rfl:u=Value.ref a:=F;exact xG E k g J w λP p=>⟨c,d,p,M⟩
end
def eA:D->Bool
 | .tup _=>true
 |_=>false
section
variable {X:Cx}{W:WT}{pos pos':Pos}{o i e:Expr}{fo fi fv:GU D}
def wJ:GU D:=λ_ S=>G9 (.loc S.length) (S++[.Hi []])
theorem M7:PE X (.Dict [] [] pos) (λ_ H Q => ∀ p,H p=none->Q (.ref p) (upd H p (.dN []))):=λb s c H Q I h =>
 wpAny_Dict_empty ⟨.ref s.heap.objs.size,_,I.laid (a:=s.heap.objs.size) (o:=.dN []) (t':=s.toks) (λ_ _ q=>Heap.get?_push_of_some _ q) (le_refl _)
  ⟨zero_le _,beq_eq_false_iff_ne.mpr (Ne.symm (ne_of_lt I.big)),[],.nil,_,#[],0,Heap.get?_push_size _ rfl,⟨rfl,rfl,rfl⟩,rfl,rfl,nodup_nil⟩,rfl,h _ (I.Hq.fresh (le_refl _))⟩
theorem vZ:SE X W (.Dict [] [] pos) wJ:=M7.imp λd H Q h=>by obtain⟨J,b,S,r,f,c,_,e,z⟩:=h;cases e;intro p a;have q:=c.Hu.push (o:=.dN []) (mo:=.Hi []) a ⟨[],G_,.nil⟩;refine z (J++[p]) _ _ q.2 q.1 (At.Hc.mpr ⟨p,rfl,?_⟩);rw[← c.Hu.len,getElem?_append_right (le_refl _)];simp
def mW (x k v:D)(ρ:G1)(S:G0):Out Fl:=match x with
 | .loc l=>match S[l]?,fD k with
  |some (.Hi kvs),some _=>if kvs.length<sizeLine/\eA k=true then G9 (.next ρ) (S.set l (.Hi (putN kvs k v))) else none
  |_,_=>none
 |_=>none
def tQ (fo fi fv:GU D):GU Fl:=λa S=>ai (fv a S) λv c=>ai (fo a c) λx b=>ai (fi a b) λk d=>mW x k v a d
theorem pV {K:GV}{H:Hp}{J:List Addr}{d:D}{v:V}(h:eA d=true)(m:At K H J d v):∃ b,v = .ref b:=by
 cases d with
 |tup a=>obtain⟨b,_,e,_⟩:=At.He.mp m;exact⟨b,e⟩
 |_=>cases h
theorem vU (Q:X.A.units+150<cLine)(D:SE X W o fo)(hi:SE X W i fi)(O:SE X W e fv)(G:swapsWith e (some (.Subscript o i pos')) pos.line X.env=pure false:=by rfl):SS X W (.Assign [.Subscript o i pos'] e pos) (tQ fo fi fv):=
 (Bg Q D hi O G).imp λE s H h=>by
  have h:tH X W [] [] (tQ fo fi fv) E s H:=let ⟨J,j,S,r,B,c,e,z⟩:=h;⟨J,j,S,r,B,c,.nil,e,z⟩;refine(tH.Ha h).mono λv Z ⟨I,R⟩=>(tH.Ha R).mono λx Y ⟨T,F⟩=>(tH.Ha F).mono λy V ⟨k,M⟩=>?_;obtain⟨J,j,S,r,B,c,m,e,z⟩:=M;obtain⟨mk,m⟩:=m.G6;obtain⟨C,m⟩:=m.G6;obtain⟨P,_⟩:=m.G6;unfold mW at e;cases T with
  |loc l =>
   simp only at e;split at e
   ·rename_i d u es w;split at e
    ·rename_i lt;cases e;obtain⟨a,rfl,n⟩:=At.Hc.mp C;obtain⟨t,L,g⟩:=c.Hu.at_ l a _ n es;obtain⟨b,rfl⟩:=pV lt.2 mk;have q:=c.Hu.update (o:=.dN (jC t u b v)) (mo:=.Hi (putN d k I)) n λU H' f K N=>by subst K N;refine⟨_,G_,CU w (mk.ex f) (P.ex f) ?_⟩;exact Paired.KL g λp q z=>⟨⟨z.1.1,z.1.2.ex f⟩,z.2.ex f⟩
     exact⟨a,_,rfl,⟨J,d,t,k,u,b,L,g,w,mk,rfl,by rw[← iZ g];exact lt.1,rfl⟩,z J s _ q.2 (c.re q.2 q.1)⟩
    cases e
   cases e
  |_=>cases e
def m8 (neg:Bool)(k x:D)(S:G0):Option D:=match x with
 | .loc l=>match S[l]?,fD k with
  |some (.Hi kvs),some _=>if eA k=true then some (.bl (if neg then !(jG kvs k).isSome else (jG kvs k).isSome)) else none
  |_,_=>none
 |_=>none
def Ar (neg:Bool)(d fd:GU D):GU D:=λa S=>ai (d a S) λk c=>ai (fd a c) λx b=>aK (m8 neg k x b) b
theorem zD {neg:Bool}{g:St}{H:Hp}{Q:VK}(h:tE X W (Ar neg fi fo) g H Q):tE X W fi g H λy p=>tE X W fo g p λx f => ∃ a o,x = .ref a/\vH X.K f a y o/\Q (.bl (if neg then !o.isSome else o.isSome)) f:=
 (tG.Ha h).mono λy p ⟨u,G⟩=>(tG.Ha G).mono λx f C=>by
  obtain⟨I,A⟩:=C
  obtain⟨J,L,S,r,M,c,m,e,z⟩:=A;obtain⟨t,m⟩:=m.G6;obtain⟨mk,_⟩:=m.G6;unfold m8 at e;cases I with
  |loc l =>
   simp only at e;split at e
   ·rename_i i E es s;split at e
    ·rename_i F;cases e;obtain⟨a,rfl,w⟩:=At.Hc.mp t;obtain⟨B,D,n⟩:=c.Hu.at_ l a _ w es;obtain⟨b,rfl⟩:=pV F mk;refine⟨a,_,rfl,⟨J,i,B,u,E,b,D,n,s,mk,rfl,rfl⟩,?_⟩;have q:=z J f _ Ex.refl c.Hu (At.Ht.mpr rfl);rcases z8 s n with ⟨k,j⟩ |⟨d,v,k,j,_⟩
     ·rw[k] at q;rw[j];exact q
     rw[k] at q;rw[j];exact q
    cases e
   cases e
  |_=>cases e
theorem ow (d:X.A.units+150<cLine)(hi:SE X W i fi)(e:SE X W o fo)(f:behindInMarks .NotIn o=false:=by with_unfolding_all rfl):Ky X W (.Compare i [.NotIn] [o] pos) (a9 (Ar true fi fo)):=
 (yY (xx d hi e) f).imp λb H Q h=>Jv.mono (t:=λb H Q=>tE X W fi b H λy g=>tE X W fo b g λx c => ∃ a o,x = .ref a/\vH X.K c a y o/\Q (.bl (!o.isSome)) c) (λ_ _ _=>zD (neg:=true)) (jt h)
def gR (x k:D)(S:G0):Option D:=match x with
 | .loc l=>match S[l]?,fD k with
  |some (.Hi kvs),some _=>if eA k=true then jG kvs k else none
  |_,_=>none
 |_=>none
def wK (fd d:GU D):GU D:=λa S=>ai (fd a S) λx c=>ai (d a c) λk b=>aK (gR x k b) b
theorem vY (K:X.A.units+150<cLine)(t:SE X W o fo)(hi:SE X W i fi)(w:yq i:=by exact λ_ _=>rfl):SE X W (.Subscript o i pos) (wK fo fi):=(Bq K t hi w).imp λO H Q h =>
 (tG.Ha h).mono λx P ⟨M,L⟩=>(tG.Ha L).mono λy F D=>by
  obtain⟨q,u⟩:=D
  obtain⟨J,N,S,r,R,c,m,e,z⟩:=u;obtain⟨mk,m⟩:=m.G6;obtain⟨p,_⟩:=m.G6;unfold gR at e;cases M with
  |loc l =>
   simp only at e;split at e
   ·rename_i f G es n;split at e
    ·rename_i I;obtain⟨a,rfl,s⟩:=At.Hc.mp p;obtain⟨B,E,j⟩:=c.Hu.at_ l a _ s es;obtain⟨b,rfl⟩:=pV I mk;rcases z8 n j with ⟨g,k⟩ |⟨d,v,g,k,C⟩
     ·rw[g] at e;cases e
     rw[g] at e;cases e;exact⟨a,v,rfl,⟨J,f,B,q,G,b,E,j,n,mk,rfl,k.symm⟩,z J F _ Ex.refl c.Hu C⟩
    cases e
   cases e
  |_=>cases e
end
def lI (K:GV)(c f:Str):Prop:=∃ C,PySem.W.nsIn K mainGlobals c=some (some (.ref C))/\Lw K C/\ID K C f
def MethAt (K:GV)(c m qual:Str)(st:Stmt)(a:List Str):Prop:=∃ C f fd,PySem.W.nsIn K mainGlobals c=some (some (.ref C))/\Lw K C/\Meth K C m f/\Lz K m qual st f fd/\Binds K fd a []
def D3 (K:GV)(mg:GY)(c qual:Str)(st:Stmt)(a:List Str):Prop:=∃ C f fd,PySem.W.nsIn K mainGlobals c=some (some (.ref C))/\mg c=some (.ref C)/\Mk K C f/\Lz K "__init__" qual st f fd/\Binds K fd a []
def lm (f:Str)(v:D):List (Str×D)->List (Str×D)
 |[]=>[(f,v)]
 |(k,x)::r=>if k=f then (k,v)::r else (k,x)::lm f v r
section
variable {K:GV}{H H':Hp}{J J':List Addr}
theorem wA {fs:List (Str×D)}{vs:List (Str×V)}(r:Paired (RG K H J) fs vs)(f:Str):(fs.lookup f=none/\vs.lookup f=none)∨∃ d v,fs.lookup f=some d/\vs.lookup f=some v/\At K H J d v:=by
 induction r with
 |nil=>exact .inl ⟨rfl,rfl⟩
 | @cons p q m l h t c =>
  obtain⟨a,i⟩:=p;obtain⟨j,k⟩:=q;have g:a=j:=h.1;subst g;by_cases e:f=a
  ·have b:(f==a)=true:=beq_iff_eq.mpr e;refine .inr ⟨i,k,?_,?_,h.2⟩<;>simp only[List.lookup,b]
  have b:(f==a)=false:=beq_eq_false_iff_ne.mpr e;simp only[List.lookup,b];exact c
theorem Dz {fs:List (Str×D)}{vs:List (Str×V)}(r:Paired (RG K H J) fs vs)(f:Str){d:D}{v:V}(a:At K H J d v):Paired (RG K H J) (lm f d fs) (eZ f v vs):=by
 induction r with
 |nil=>exact .cons ⟨rfl,a⟩ .nil
 | @cons p q g c h t k =>
  obtain⟨b,i⟩:=p;obtain⟨m,j⟩:=q;have l:b=m:=h.1;subst l;rw[show lm f d ((b,i)::g)=(if b=f then (b,d)::g else (b,i)::lm f d g) from rfl,show eZ f v ((b,j)::c)=(if b=f then (b,v)::c else (b,j)::eZ f v c) from rfl];by_cases e:b=f
  ·rw[if_pos e,if_pos e];exact .cons ⟨rfl,a⟩ t
  rw[if_neg e,if_neg e];exact .cons h k
theorem G5.split:∀ {es ds:List D}{us vs:List V},es.length=us.length->G5 K H J (es++ds) (us++vs)->G5 K H J es us/\G5 K H J ds vs
 |[],_,[],_,_,h=>⟨.nil,h⟩
 |e::es,ds,u::us,vs,hl,h=>by
  obtain⟨c,f⟩:=G5.G6 (d:=e) (v:=u) (ds:=es++ds) (vs:=us++vs) h;obtain⟨a,b⟩:=G5.split (es:=es) (us:=us) (by simpa using hl) f;exact⟨.cons c a,b⟩
 |[],_,_::_,_,hl,_=>by simp at hl
 |_::_,_,[],_,hl,_=>by simp at hl
end
def vd (c:Str)(d:D)(S:G0):Option (List (Str×D)):=match d with
 | .loc l=>(match S[l]? with
  |some (.ins c' fs)=>if c'=c then some fs else none
  |_=>none)
 |_=>none
theorem wv {c:Str}{d:D}{S:G0}{fs:List (Str×D)}(h:vd c d S=some fs):∃ l,d = .loc l/\S[l]?=some (.ins c fs):=by
 unfold vd at h;split at h
 ·rename_i l;split at h
  ·rename_i f b e;split at h
   ·rename_i a;cases h;subst a;exact⟨l,rfl,e⟩
   cases h
  cases h
 cases h
section
variable {X:Cx}{W:WT}{pos pos' apos p:Pos}{o e value:Expr}{es:List Expr}{fo fv:GU D}{gs:GU (List D)}{c f m x:Str}
def i_ (c f:Str)(d:D)(S:G0):Option D:=(vd c d S).bind λfs=>fs.lookup f
def hV (c f:Str)(fo:GU D):GU D:=λb S=>ai (fo b S) λd a=>aK (i_ c f d a) a
theorem cy (T:lI X.K c f)(t:SE X W o fo)(L:attributeBase o f X.env (eval o X.env)=eval o X.env:=by rfl):SE X W (.Attribute o f pos) (hV c f fo):=
 (C_ t L).imp λN H Q h=>(tG.Ha h).mono λx I E=>by
  obtain⟨i,g⟩:=E
  obtain⟨J,M,S,r,R,m,w,b,z⟩:=g
  try dsimp only at b
  obtain⟨p,_⟩:=w.G6;cases q:i_ c f i S with
  |none=>rw[q] at b;cases b
  |some d =>
   rw[q] at b;cases b;obtain⟨fs,g,e⟩:=bind_eq_some_iff.mp q;obtain⟨l,rfl,es⟩:=wv g;obtain⟨a,rfl,s⟩:=At.Hc.mp p;obtain⟨C,i,B,n,F,y⟩:=m.Hu.at_ l a _ s es;obtain⟨P,k,A,u⟩:=T;rw[n] at k;cases k;rcases wA y f with ⟨j,_⟩ |⟨O,v,j,G,D⟩
   ·rw[j] at e;cases e
   rw[j] at e;cases e;exact⟨a,C,i,B,v,rfl,F,A,u,G,z J I v Ex.refl m.Hu D⟩
def mM (c f:Str)(d v:D)(ρ:G1)(S:G0):Out Fl:=match d with
 | .loc l=>(match S[l]? with
  |some (.ins c' fs)=>if c'=c/\fs.length<1000 then G9 (.next ρ) (S.set l (.ins c (lm f v fs))) else none
  |_=>none)
 |_=>none
theorem yL {T:lI X.K c f}{g:St}{H:Hp}{J:List Addr}{ρ:G1}{S u:G0}{r:Except Str Fl}{E:Ends}{d h:D}{x y:V}(i:Cf X J ρ S g H)(v:At X.K H J d x)(G:At X.K H J h y)
  (b:mM c f d h ρ S=some (r,u)) (z:KY X W J H r u E):∃ a C e fs,x = .ref a/\H a=some (.ins C e fs)/\Lw X.K C/\ID X.K C f/\fs.length<1000/\E.nx g (upd H a (.ins C e (eZ f y fs))):=by
 unfold mM at b;split at b
 ·rename_i l;split at b
  ·rename_i O fs es;split at b
   ·rename_i w;obtain⟨B,I⟩:=w;subst B;cases b;obtain⟨a,rfl,k⟩:=At.Hc.mp v;obtain⟨C,e,t,n,M,m⟩:=i.Hu.at_ l a _ k es;obtain⟨Q,j,F,A⟩:=T;rw[n] at j;cases j;have q:=i.Hu.update (o:=.ins C e (eZ f y t)) (mo:=.ins O (lm f h fs)) k λP R s L N=>by subst L N;refine⟨C,e,_,n,G_,Dz (Paired.KL m λp q z=>⟨z.1,z.2.ex s⟩) f (G.ex s)⟩
    exact⟨a,C,e,t,rfl,M,F,A,by rw[← iZ m];exact I,z J g _ q.2 (i.re q.2 q.1)⟩
   cases b
  cases b
 cases b
def nO (c f:Str)(fo fv:GU D):GU Fl:=λa S=>ai (fv a S) λv e=>ai (fo a e) λd b=>mM c f d v a b
theorem p8 (T:lI X.K c f)(k:SE X W o fo)(s:SE X W value fv)(p:swapsWith value (some (.Attribute o f pos')) pos.line X.env=pure false:=by rfl):SS X W (.Assign [.Attribute o f pos'] value pos) (nO c f fo fv):=
 (C4 k s p).imp λE l H h=>by
  have h:tH X W [] [] (nO c f fo fv) E l H:=let ⟨J,g,S,r,i,c,e,z⟩:=h;⟨J,g,S,r,i,c,.nil,e,z⟩;refine(tH.Ha h).mono λy w ⟨u,t⟩=>(tH.Ha t).mono λx v ⟨d,m⟩=>?_;obtain⟨J,g,S,r,i,q,a,b,z⟩:=m
  try dsimp only at b
  obtain⟨j,a⟩:=a.G6;obtain⟨n,_⟩:=a.G6;exact yL (T:=T) q j n b z
def Fc (c f:Str)(d v y:D)(ρ:G1)(S:G0):Out Fl:=match v,y with
 | .int i,.int j=>mM c f d (.int (i+j)) ρ S
 |_,_=>none
def Fa (c f:Str)(fo fv:GU D):GU Fl:=λa S=>ai (fo a S) λd b=>ai (aK (i_ c f d b) b) λv e=>ai (fv a e) λy g=>Fc c f d v y a g
def nV (P:Program)(w:World)(K:GV)(mg:GY)(base:Heap)(k:Nat)(c m:Str)(a:List Str)(F:GZ):Prop:=
 ∃ C f fd,PySem.W.nsIn K mainGlobals c=some (some (.ref C))/\Lw K C/\Meth K C m f/\Nl P w K mg base k f fd a F/\Binds K fd a []
def D7 (P:Program)(w:World)(K:GV)(mg:GY)(base:Heap)(k:Nat)(c:Str)(a:List Str)(F:GZ):Prop:=
 ∃ C f fd,PySem.W.nsIn K mainGlobals c=some (some (.ref C))/\mg c=some (.ref C)/\Mk K C f/\Nl P w K mg base k f fd a F/\Binds K fd a []
def sR (c m:Str)(d:D)(S:G0):Option D:=(vd c d S).bind λfs=>if fs.lookup m=none then some .Ho else none
def cV (c m:Str)(F:GZ)(fo:GU D)(gs:GU (List D)):GU D:=λa S=>ai (fo a S) λd b=>ai (aK (sR c m d b) b) λ_ f=>ai (gs a f) λg e=>iN (F (d::g) e)
def DK (c m:Str)(F:GZ)(fo:GU D)(gs:GU (List D)):GU D:=λa S=>ai (fo a S) λd b=>ai (aK (sR c m d b) b) λ_ f=>ai (gs a f) λg e=>F (d::g) e
theorem zJ {C:Addr}(n:PySem.W.nsIn X.K mainGlobals c=some (some (.ref C))){k:GU D}{d:D}{x:V}{i:St}{H:Hp}{Q:VK}(h:tG X W (RD X) [d] [x] (λρ p=>ai (aK (sR c m d p) p) λ_ S2=>k ρ S2) i H Q) :
  ∃ a e fs,x = .ref a/\H a=some (.ins C e fs)/\fs.lookup m=none/\tG X W (RD X) [d] [x] k i H Q:=by
 obtain⟨J,ρ,S,r,G,o,u,b,z⟩:=h
 try dsimp only at b
 obtain⟨g,L⟩:=u.G6;cases q:sR c m d S with
 |none=>rw[q] at b;cases b
 |some I =>
  rw[q,bt,dz] at b;obtain⟨fs,E,j⟩:=bind_eq_some_iff.mp q;obtain⟨l,rfl,es⟩:=wv E;have WE:=g;obtain⟨a,rfl,t⟩:=At.Hc.mp g;obtain⟨N,e,y,f,A,w⟩:=o.Hu.at_ l a _ t es;rw[n] at f;cases f;split at j
  ·rename_i F;rcases wA w m with ⟨_,B⟩ |⟨M,v,s,_⟩
   ·exact⟨a,e,y,rfl,A,B,J,ρ,S,r,G,o,.cons WE .nil,b,z⟩
   rw[F] at s;cases s
  cases j
theorem bF {k:Nat}{O:List Str}{F:GZ}{pl:Sem Bool}(G:nV X.prog X.w X.K X.mg X.base k c m O F)(s:Hv k X.A)(p:SE X W o fo)(l:SA X W (e::es) gs)
  (R:starEach (e::es) X.env=(false,eval e X.env)::starEach es X.env:=by rfl) (Z:(backTo pos (starEach es X.env)).any (·.1)=false:=by rfl)
  (ht:eval (.Call (.Attribute o m apos) (e::es) [] pos) X.env=(do
   let i ← eval o X.env
   standAt apos.atName
   let (f,first) ← holding [i] (getMethod i m pl)
   callWith pos f first (backTo pos (starEach (e::es) X.env)) (backToKw pos (keywordEach [] X.env))):=by rfl) :
  SE X W (.Call (.Attribute o m apos) (e::es) [] pos) (cV c m F fo gs):=by
 obtain⟨C,f,fd,n,D,mt,fn,hb⟩:=G;refine PE.imp (Br (E:=E0) p D mt fn s hb .nil zp l R Z ht) λσ H Q h=>(tG.Ha h).mono λx H1 g=>?_;obtain⟨d,h1⟩:=g;obtain⟨a,dx,fs,e1,U,t,y⟩:=zJ n h1;refine⟨a,dx,fs,e1,U,t,(tG.JX y).mono λus H2 g=>?_⟩;obtain⟨j,L,V⟩:=g;obtain⟨J,ρ,S,r,S',P,u,b,z⟩:=V
 try dsimp only at b
 obtain⟨m1,m2⟩:=G5.split L u;obtain⟨M,_⟩:=m2.G6;have b:iN (F (d::j) S)=some (r,S'):=b;unfold iN at b;split at b
 ·rename_i Y S2 q;cases b;exact⟨J,S,d::j,Y,_,.cons M (by rw[append_nil];exact m1),P.Hu,q,λI H' v N T B=>z I H' v N T B⟩
 cases b
def wL (c:Str)(F:GZ)(gs:GU (List D)):GU D:=λb S=>ai (gs b S) λd a=>(match F (.loc a.length::d) (a++[.ins c []]) with
 |some (.ok .Ho,S2)=>G9 (.loc a.length) S2
 |_=>none)
theorem A8 {k:Nat}{M:List Str}{F:GZ}(G:D7 X.prog X.w X.K X.mg X.base k c M F)(y:Hv (k+1) X.A)(u:SA X W (e::es) gs)(Z:Gl X c:=by rfl)
  (P:(c==("__debug__":Str))=false:=by decide) (V:starEach (e::es) X.env=(false,eval e X.env)::starEach es X.env:=by rfl) (U:(backTo pos (starEach es X.env)).any (·.1)=false:=by rfl) :
  SE X W (.Call (.Name c p) (e::es) [] pos) (wL c F gs):=by
 obtain⟨C,f,fd,n,Y,mk,fn,hb⟩:=G;refine PE.imp (Bs (E:=E0) mk fn y Z Y hb .nil zp u P V U) λσ H Q h=>(tG.JX h).mono λus d O=>?_;obtain⟨l,hl,t⟩:=O;rw[append_nil,append_nil] at t;obtain⟨J,ρ,S,r,S',j,B,a,z⟩:=t
 try dsimp only at a
 intro x b T m ne;have N:(upd d b (.own x)) x=none:=by rw[aF (Ne.symm ne)];exact T
 have D:=j.Hu.same (aM m (.own x));have x1:Ex J d J (upd d b (.own x)):=Ex.same (aM m _);have q:=D.push (o:=.ins C b []) (mo:=.ins c []) N ⟨C,b,[],n,G_,.nil⟩;have x2:=x1.trans q.2;have g:(J++[x])[S.length]?=some x:=by rw[← j.Hu.len,getElem?_append_right (le_refl _)];simp
 have a:(match F (.loc S.length::l) (S++[.ins c []]) with
  |some (.ok .Ho,s)=>G9 (.loc S.length) s
  |_=>none)=some (r,S'):=a
 split at a
 ·rename_i s hF;cases a;refine⟨J++[x],_,.loc S.length::l,.Ho,_,.cons (At.Hc.mpr ⟨x,rfl,g⟩) (by rw[append_nil];exact B.ex x2),q.1,hF,λL H' v i R I=>⟨At.HK.mp I,?_⟩⟩;exact z L H' (.ref x) (x2.trans i) R (At.Hc.mpr ⟨x,rfl,lW i.pre g⟩)
 cases a
end
section
variable {P:Program}{w:World}{K:GV}{mg:GY}{base:Heap}
theorem lD {x qual:Str}{st:Stmt}{sc:Scope}{N a:List Str}{k:Nat}{G:GU Fl}{f:Addr}{fd:FuncData}(l:Lz K x qual st f fd)(m:ao st=sc)(Sc:G4 N a sc)
  (h:∀ (f:Addr) (b:Value) (A:Around) (outer:List Env) (s:Shared) (H:Hp) (E:XK),Hv k (A.deeper (envOfC qual sc s.heap.objs.size f b))->Mf (lR LR P w K mg base N qual sc f b A outer s H E).Nh W0 (bx st) G) :
  Nl P w K mg base (k+1) f fd a (aZ a.length (N.length-a.length) G):=by
 subst m;refine wC l Sc (λn S r e=>?_) λb A outer s H E g=>⟨G,h f b A outer s H E g,λn S d p e=>?_⟩
 ·unfold aZ at e;split at e
  ·assumption
  cases e
 unfold aZ at e;split at e
 ·rename_i i;rw[i];split at e
  ·rename_i o j q;cases e;exact⟨_,q,.inl rfl⟩
  ·rename_i c j q;cases e;exact⟨_,q,.inr ⟨rfl,c,rfl⟩⟩
  cases e
 cases e
theorem fU {c m qual:Str}{st:Stmt}{sc:Scope}{N a:List Str}{k:Nat}{G:GU Fl}(e:MethAt K c m qual st a)(j:ao st=sc)(Sc:G4 N a sc)
  (h:∀ (f:Addr) (b:Value) (A:Around) (outer:List Env) (s:Shared) (H:Hp) (E:XK),Hv k (A.deeper (envOfC qual sc s.heap.objs.size f b))->Mf (lR LR P w K mg base N qual sc f b A outer s H E).Nh W0 (bx st) G) :
  nV P w K mg base (k+1) c m a (aZ a.length (N.length-a.length) G):=by
 obtain⟨C,f,fd,n,d,mt,g,i⟩:=e;exact⟨C,f,fd,n,d,mt,lD g j Sc h,i⟩
theorem B4 {c qual:Str}{st:Stmt}{sc:Scope}{N a:List Str}{k:Nat}{G:GU Fl}(d:D3 K mg c qual st a)(j:ao st=sc)(Sc:G4 N a sc)
  (h:∀ (f:Addr) (b:Value) (A:Around) (outer:List Env) (s:Shared) (H:Hp) (E:XK),Hv k (A.deeper (envOfC qual sc s.heap.objs.size f b))->Mf (lR LR P w K mg base N qual sc f b A outer s H E).Nh W0 (bx st) G) :
  D7 P w K mg base (k+1) c a (aZ a.length (N.length-a.length) G):=by
 obtain⟨C,f,fd,n,e,mt,g,i⟩:=d;exact⟨C,f,fd,n,e,mt,lD g j Sc h,i⟩
theorem yl {c m qual:Str}{st:Stmt}{b:List Str}{k:Nat}(i:MethAt K c m qual st b):nV P w K mg base k c m b (λ_ _=>none):=by
 obtain⟨C,f,fd,n,g,mt,o,j⟩:=i;have no:∀ a H Q E,¬ RM K (λ_ _=>none) a H Q E:=λa H Q E h=>by obtain⟨J,S,q,d,p,_,_,e,_⟩:=h;cases e
 exact⟨C,f,fd,n,g,mt,⟨λa H Q E h=>absurd h (no a H Q E),λA outer s H args l a Q E _ _ _ _ h=>absurd h (no a H Q E)⟩,j⟩
end
def cz (d:D)(S:G0):Option (List D):=match d with
 | .loc l=>(match S[l]? with
  |some (.lst xs)=>some xs
  |_=>none)
 |_=>none
theorem BL {d:D}{S:G0}{xs:List D}(h:cz d S=some xs):∃ l,d = .loc l/\S[l]?=some (.lst xs):=by
 unfold cz at h;split at h
 ·rename_i l;split at h
  ·rename_i a e;cases h;exact⟨l,rfl,e⟩
  cases h
 cases h
section
variable {X:Cx}{W:WT}{pos Hw apos p:Pos}{o e a b:Expr}{fo fe fa fb:GU D}{x:Str}
theorem kB {J:List Addr}{S:G0}{H:Hp}{d:D}{v:V}{xs:List D}(so:Hr X.K J S H)(m:At X.K H J d v)(h:cz d S=some xs):∃ l q us,d = .loc l/\v = .ref q/\J[l]?=some q/\S[l]?=some (.lst xs)/\H q=some (.lst us)/\G5 X.K H J xs us:=by obtain⟨l,rfl,es⟩:=BL h;obtain⟨q,rfl,a⟩:=At.Hc.mp m;obtain⟨us,c,b⟩:=so.at_ l q _ a es;exact⟨l,q,us,rfl,rfl,a,es,c,b⟩
def tR:GU D:=λ_ S=>G9 (.loc S.length) (S++[.lst []])
theorem v4:SE X W (.List [] pos) tR:=(zm Ib).imp λb H Q h=>by
 obtain⟨J,d,S,r,f,c,_,e,z⟩:=h
 try dsimp only at e
 cases e;show pW b H _;refine⟨zero_le _,λp a=>?_⟩;have q:=c.Hu.push (o:=.lst []) (mo:=.lst []) a ⟨[],G_,.nil⟩;refine z (J++[p]) _ _ q.2 q.1 (At.Hc.mpr ⟨p,rfl,?_⟩);rw[← c.Hu.len,getElem?_append_right (le_refl _)];simp
def vE (d v:D)(S:G0):Out D:=match d with
 | .loc l=>(match S[l]? with
  |some (.lst xs)=>if xs.length<sizeLine then G9 .Ho (S.set l (.lst (xs++[v]))) else none
  |_=>none)
 |_=>none
def DN (fo fe:GU D):GU D:=λa S=>ai (fo a S) λd b=>ai (aK (cz d b) b) λ_ c=>ai (fe a c) λv e=>vE d v e
theorem CL {name:Str}(hn:name="append")(C:SE X W o fo)(A:SE X W a fe)(JU:attributeBase o name X.env (eval o X.env)=eval o X.env:=by rfl)
  (O:((backTo Hw (starEach [a] X.env)).all (λx => !x.1)&&(backToKw Hw (keywordEach [] X.env)).all (λx=>x.1.isSome)
   && decide ([a].length+([]:List Keyword).length+(if ([]:List Keyword).isEmpty then 0 else 1)<30))=true:=by rfl)
  (Z:(apos.endLine==Hw.line)=true:=by rfl) (k:starEach [a] X.env=(false,eval a X.env)::starEach [] X.env:=by rfl) (B:(backTo Hw (starEach [] X.env)).any (·.1)=false:=by rfl) :
  SE X W (.Call (.Attribute o name apos) [a] [] Hw) (DN fo fe):=by
 subst hn;refine PE.imp (zo F.plainAttrs_list F.slot_list_append F.type_list_append xJ C (dM A Ib k) JU O Z k B) λG H Q h=>(tG.Ha h).mono λx H1 P=>?_;obtain⟨d,h1⟩:=P;obtain⟨J,f,S,r,S',c,m,e,z⟩:=h1
 try dsimp only at e
 obtain⟨j,_⟩:=m.G6;cases q:cz d S with
 |none=>rw[q] at e;cases e
 |some xs =>
  rw[q,bt,dz] at e;obtain⟨l,g,w,rfl,rfl,hq,es,T,mu⟩:=kB c.Hu j q;refine⟨.inl ⟨rfl,w,.inl (.inl T)⟩,?_⟩;have K:tG X W (RD X) [.loc l] [.ref g] (λf i=>ai (fe f i) λv U=>vE (.loc l) v U) G H1 Q:=⟨J,f,S,r,S',c,.cons j .nil,e,z⟩;refine(tG.Ha K).mono λy H2 ⟨t,h3⟩=>?_;show pW _ _ _;obtain⟨V,D,i,r2,N,u,m2,b,z2⟩:=h3
  try dsimp only at b
  obtain⟨L,m2⟩:=m2.G6;obtain⟨E,_⟩:=m2.G6;have b:vE (.loc l) t i=some (r2,N):=b;unfold vE at b;simp only at b;split at b
  ·rename_i QN M;split at b
   ·rename_i lt;cases b;obtain⟨q2,I,s⟩:=At.Hc.mp E;cases I;obtain⟨M8,Y,p⟩:=u.Hu.at_ l g _ s M;have up:=u.Hu.update (o:=.lst (M8++[y])) (mo:=.lst (QN++[t])) s λJ' H' n R eJ=>by subst R eJ;exact⟨_,G_,(p.ex n).append (.cons (L.ex n) .nil)⟩
    exact⟨g,M8,y,rfl,rfl,Y,by rw[← p.length];exact lt,z2 V _ _ up.2 up.1 (At.HK.mpr rfl)⟩
   cases b
  cases b
def kF (x i:D)(S:G0):Option D:=match i with
 | .int k=>(cz x S).bind λa=>Kj a k
 |_=>none
def vB (fa fb:GU D):GU D:=λa S=>ai (fa a S) λx c=>ai (fb a c) λi b=>aK (kF x i b) b
theorem qe (o:SE X W a fa)(C:SE X W b fb)(p:mf b:=by exact λ_ _=>rfl):SE X W (.Subscript a b pos) (vB fa fb):=
 (Cj wt o C p).imp λF H Q h=>(tG.Ha h).mono λv L ⟨d,g⟩=>(tG.Ha g).mono λM x s=>by
  obtain⟨y,f⟩:=s
  obtain⟨J,E,S,r,N,c,m,e,z⟩:=f
  try dsimp only at e
  obtain⟨t,m⟩:=m.G6;obtain⟨j,_⟩:=m.G6;cases q:kF d y S with
  |none=>rw[q] at e;cases e
  |some I =>
   rw[q] at e;cases e;unfold kF at q;split at q
   ·rename_i k;obtain⟨K,g,f⟩:=bind_eq_some_iff.mp q;obtain⟨l,A,n,rfl,rfl,G,es,u,i⟩:=kB c.Hu j g;cases At.G2.mp t;obtain⟨w,B,D⟩:=qU i f;exact⟨A,n,k,w,rfl,rfl,.inl (.inl u),B,z J x w Ex.refl c.Hu D⟩
   cases q
def ym (fa fb:GU D):GU D:=λa S=>ai (fa a S) λx c=>ai (fb a c) λi b=>aK (if bI x=true then kF x i b else N3 x i) b
theorem v5 (d:SE X W a fa)(f:SE X W b fb)(g:mf b:=by exact λ_ _=>rfl):SE X W (.Subscript a b pos) (ym fa fb):=
 SE.either (qe d f g) (Cg Uz d f g) λc S=>b8 _ λx e=>by
  by_cases h:bI x=true
  ·refine .inl (congrArg (ai (fb c e)) (funext λi=>funext λj=>?_));rw[if_pos h]
  refine .inr (congrArg (ai (fb c e)) (funext λi=>funext λj=>?_));rw[if_neg h]
def Al (fe:GU D):GU D:=λb S=>ai (fe b S) λd a=>aK ((cz d a).map λc => .int c.length) a
theorem A9 (w:X.mg x=none)(i:SE X W e fe)(k:x="len":=by rfl)(s:Gl X x:=by rfl)(a:starEach [e] X.env=(false,eval e X.env)::starEach [] X.env:=by rfl)(o:(backTo pos (starEach [] X.env)).any (·.1)=false:=by rfl) :
  SE X W (.Call (.Name x p) [e] [] pos) (Al fe):=by
 subst k;refine PE.imp (jD fT s w fW (dM i Ib a) (by decide) (by decide) a o) λA H Q h=>?_;refine(tG.Ha h).mono λv t ⟨d,u⟩=>?_;obtain⟨J,y,S,r,D,c,m,eq,z⟩:=u
 try dsimp only at eq
 obtain⟨f,_⟩:=m.G6;show pW _ _ _;cases q:cz d S with
 |none=>rw[q] at eq;cases eq
 |some C =>
  rw[q] at eq;cases eq;obtain⟨l,n,g,rfl,rfl,B,es,j,b⟩:=kB c.Hu f q;refine⟨n,g,rfl,.inl (.inl (.inl j)),?_⟩;rw[← b.length];exact z J t _ Ex.refl c.Hu (At.G2.mpr rfl)
def BY (fe:GU D):GU D:=λc S=>ai (fe c S) λd a=>aK ((cz d a).bind λb=>if b.length<=sizeLine then some (.tup b) else none) a
end
theorem ints_get:∀ {vs:List Value}{ns:List Int}(i:Nat) {n:Int},IntsAre vs ns->ns[i]?=some n->∃ t,vs[i]?=some (.int n t)
 |_,_,_,_,.nil,e=>by simp at e
 |_,_,0,_,.cons n t r,e=>by simp at e;subst e;exact⟨t,rfl⟩
 |_,_,i+1,_,.cons n t r,e=>by
  obtain⟨a,h⟩:=ints_get i r (by simpa using e);exact⟨a,by simpa using h⟩
theorem sN:∀ {vs:List Value}{ns:List Int},IntsAre vs ns->vs.length=ns.length
 |_,_,.nil=>rfl
 |_,_,.cons n t r=>by simp[sN r]
theorem oT {k:Int}:∀ {ns:List Int}{j:Nat},j<ns.idxOf k->∀ (a:j<ns.length),ns[j]≠k
 |n::r,0,h,_=>by
  intro e;have e:n=k:=e;subst e;simp at h
 |n::r,j+1,h,a=>by
  by_cases e:n=k
  ·subst e;simp at h
  have b:(n==k)=false:=by simpa using e
  rw[idxOf_cons,b] at h;exact oT (ns:=r) (j:=j) (by simpa using h) (by simpa using a)
theorem j7 {prog:Program}{w:World}{A:Around}{E:GW}{s:Shared}{l:Addr}{o:Obj}{n:Nat}{vs:List Value}{ns:List Int}{k:Int}{t:Tok}{Q:GW}(q:s.heap.get? l=some o)(G:o.cls = .type "tuple")(hd:o.data = .seq vs.toArray n)(hi:IntsAre vs ns)
  (N:k∈ns) (h:∀ t' s',s'={ s with toks:=s.toks+1 }->Q (.int (ns.idxOf k:Nat) t') s'):wpAny (model prog w) A (call (.builtin "tuple.index") [.ref l,.int k t]) Q E s:=by
 have K:s.TypeIs (.ref l) "tuple":=⟨o,q,G⟩;refine wpAny_call_entry F.slot_tuple_index K F.entry_tuple_index ?_ (F.args_tuple_index_2 _ _);show wpAny _ _ (Builtin.Tuple.tupleItemsOf (.ref l) >>= _) _ _ s;refine wpAny_bind (wpAny_tupleItemsOf q hd ?_);have B:=sN hi;have y:ns.idxOf k<ns.length:=idxOf_lt_length_iff.mpr N;show wpAny _ _ (forIn [0:min vs.toArray.size vs.toArray.size] _ _ >>= _) _ _ s;refine wpAny_bind ?_;rw[Std.Legacy.Range.forIn_eq_forIn_range'];have f:([0:min vs.toArray.size vs.toArray.size]:Std.Legacy.Range).size=vs.length:=by simp[Std.Legacy.Range.size]
 show wpAny _ _ (forIn (range' 0 ([0:min vs.toArray.size vs.toArray.size]:Std.Legacy.Range).size 1) _ _) _ _ _;rw[f];refine wpAny_forIn_list _ (λrest r s'=>r.1=none/\s'=s/\∃ i,i<=ns.idxOf k/\rest=range' i (vs.length-i) 1) _ ?_ ?_ _ _ ⟨rfl,rfl,0,zero_le _,by simp⟩
 ·rintro x rest r s' ⟨H,rfl,i,C,b⟩;have R:i<vs.length:=by omega
  obtain⟨m,j⟩:∃ m,vs.length-i=m+1:=⟨vs.length-i-1,by omega⟩;rw[j,List.range'_succ] at b;obtain⟨rfl,rfl⟩:=List.cons.inj b;obtain⟨a,c⟩:∃ a,ns[x]?=some a:=⟨ns[x]'(by omega),List.getElem?_eq_getElem _⟩;obtain⟨t',L⟩:=ints_get x hi c;have D:vs.toArray[x]?=some (.int a t'):=by simpa using L
  rw[D];show wpAny _ _ (eqBool (.int a t') (.int k t) >>= _) _ _ _;refine wpAny_bind (wpAny_eqBool_int ?_);by_cases e:a=k
  ·subst e
   have ex:ns.idxOf a=x:=by
    have S:ns.idxOf a<=x:=by
     have g:x<ns.length:=by omega
     have:ns[x]=a:=by rw[List.getElem?_eq_getElem g] at c;exact Option.some.inj c
     rcases lt_or_ge x (ns.idxOf a) with h2 |h2
     ·exact absurd this (oT h2 g)
     exact h2
    omega
   rw[beq_self_eq_true];simp only[if_true];refine wpAny_bind (wpAny_mono (show wpAny _ _ (retInt (x:Int)) _ _ _ from wpAny_ret_mkInt (Q:=λv p => ∃ t',v = .int (x:Int) t'/\p={ s' with toks:=s'.toks+1 }) ⟨_,rfl,rfl⟩) (λfin p I=>?_) λ_ _ z=>z);obtain⟨v,M,t',J,d⟩:=I;subst M J;refine wpAny_pure (wpAny_pure ⟨_,rfl,?_⟩);have u:=h t' p d;rw[ex] at u;exact u
  rw[beq_eq_false_iff_ne.mpr e];simp only[false_eq_true,if_false];refine wpAny_pure ⟨rfl,rfl,x+1,?_,?_⟩
  ·have g:x<ns.length:=by omega
   rcases lt_or_ge x (ns.idxOf k) with h2 |h2
   ·exact h2
   exfalso;have d:x=ns.idxOf k:=by omega
   rw[d,List.getElem?_eq_getElem y,getElem_idxOf y] at c;exact e (Option.some.inj c).symm
  congr 1;omega
 rintro⟨O,P⟩ s' ⟨H,rfl,i,C,b⟩;exfalso;obtain⟨m,j⟩:∃ m,vs.length-i=m+1:=⟨vs.length-i-1,by omega⟩;rw[j,List.range'_succ] at b;cases b
section
variable {X:Cx}{W:WT}{fe fa:GU D}
theorem xI:Us X "tuple.index" (λx xs H Q => ∃ (a:Addr) (ns:List Int) (k:Int),x = .ref a/\xs=[.int k]/\Kn X.K H a (ns.map V.int)/\k∈ns/\Q (.int (ns.idxOf k:Nat)) H):=by intro b s t H x xs v r Q I l f h;obtain⟨a,ns,k,rfl,rfl,d,m,q⟩:=h;cases l;obtain⟨u,rfl,g⟩:=vals1 f;obtain⟨t2,rfl⟩:=g;obtain⟨its,i,⟨o,p,c,n,j⟩,_⟩:=I.tuple d;refine j7 (vs:=its) p c j (fP i) m λy w e=>?_;subst e;exact⟨.int _,H,I.tok _,⟨_,rfl⟩,q⟩
def iz:D->D->Option D
 | .tup a,.int k=>(cm a).bind λns=>if k∈ns then some (.int (ns.idxOf k:Nat)) else none
 |_,_=>none
theorem Ct {J:List Addr}{b:Hp}{d:D}{v:V}(h:eA d=true)(m:At X.K b J d v):RF X.K "tuple" v b:=by
 cases d<;>first |(cases h;done) |skip
 rename_i j;obtain⟨a,f,rfl,c,_⟩:=At.He.mp m;rcases c with z |⟨o,its,n,i,e,g,_⟩
 ·exact .inr (.inl ⟨rfl,.inr ⟨f,z.1⟩⟩)
 exact .inr (.inl ⟨rfl,.inl ⟨o,i,e,g⟩⟩)
theorem oV {o:Expr}{name:Str}{b c:Pos}{a:Expr}(E:name="index")(n:SE X W o fe)(j:SE X W a fa)(B:attributeBase o name X.env (eval o X.env)=eval o X.env:=by rfl)
  (s:((backTo c (starEach [a] X.env)).all (λx => !x.1)&&(backToKw c (keywordEach [] X.env)).all (λx=>x.1.isSome)
   && decide ([a].length+([]:List Keyword).length+(if ([]:List Keyword).isEmpty then 0 else 1)<30))=true:=by rfl)
  (w:(b.endLine==c.line)=true:=by rfl) (f:starEach [a] X.env=(false,eval a X.env)::starEach [] X.env:=by rfl) (l:(backTo c (starEach [] X.env)).any (·.1)=false:=by rfl) :
  SE X W (.Call (.Attribute o name b) [a] [] c) (As eA iz fe fa):=by
 subst E;refine PE.imp (zo F.plainAttrs_tuple F.slot_tuple_index F.type_tuple_index xI n (dM j Ib f) B s w f l) λG H Q h=>zK (λJ L d v D m=>Ct D m) (λv M y Q q=>?_) h;obtain⟨J,O,N,I,K,t,C,eq,q⟩:=q;unfold iz at eq;split at eq
 ·rename_i P k;obtain⟨ns,A,e⟩:=bind_eq_some_iff.mp eq;split at e
  ·rename_i p;cases e;cases At.G2.mp C;obtain⟨a,u,rfl,i,z⟩:=At.He.mp t;have g:=fF A;subst g;have r:u=ns.map V.int:=G5.JW z;subst r;exact⟨a,ns,k,rfl,rfl,i.sq,p,q y _ (Hb.refl _) (At.G2.mpr rfl)⟩
  cases e
 cases eq
end
def Dj:List Int->Option Int
 |[]=>none
 |n::r=>some (r.foldl (λa b=>if b<a then b else a) n)
theorem qF:∀ (r:List Int) (n:Int),(r.foldl (λa b=>if b<a then b else a) n∈n::r)/\∀ a∈n::r,r.foldl (λa b=>if b<a then b else a) n<=a
 |[],n=>by simp
 |x::r,n=>by
  rw[foldl_cons];by_cases f:x<n
  ·rw[if_pos f];obtain⟨d,c⟩:=qF r x;refine⟨mem_cons_of_mem _ d,λa ha=>?_⟩;rcases mem_cons.mp ha with e |ha
   ·have g:=c x (mem_cons_self ..);omega
   exact c a ha
  rw[if_neg f];obtain⟨d,c⟩:=qF r n;have g:=c n (mem_cons_self ..);refine⟨?_,λa ha=>?_⟩
  ·rcases mem_cons.mp d with e |h
   ·rw[e];exact mem_cons_self ..
   exact mem_cons_of_mem _ (mem_cons_of_mem _ h)
  rcases mem_cons.mp ha with e |ha
  ·omega
  rcases mem_cons.mp ha with e |ha
  ·omega
  exact c a (mem_cons_of_mem _ ha)
theorem xK {ns:List Int}{M:Int}(c:M∈ns)(d:∀ a∈ns,M<=a):Dj ns=some M:=by
 cases ns with
 |nil=>simp at c
 |cons n r =>
  obtain⟨a,b⟩:=qF r n;exact congrArg some (Int.le_antisymm (b M c) (d _ a))
theorem nu:∀ {vs:List Value}{ns:List Int},IntsAre vs ns->∃ xs:List (Int×Tok),vs=xs.map (λp => .int p.1 p.2)/\ns=xs.map (·.1)
 |_,_,.nil=>⟨[],rfl,rfl⟩
 |_,_,.cons n t r=>by
  obtain⟨xs,a,b⟩:=nu r;exact⟨(n,t)::xs,by rw[a];rfl,by rw[b];rfl⟩
section
variable {X:Cx}{W:WT}
def sx:List D->Option D
 |[.lst ds]=>(cm ds).bind λns=>(Dj ns).map .int
 |_=>none
theorem B3 (z:X.calm=true):iT X (.builtin "min") sx:=by
 intro o s Y H b V Q I r h;obtain⟨J,ds,d,hJ,m,e,q⟩:=h;unfold sx at e;split at e
 ·rename_i ys;obtain⟨ns,P,F⟩:=bind_eq_some_iff.mp e;obtain⟨M,g,E⟩:=map_eq_some_iff.mp F;subst E;obtain⟨v,w,rfl,a,n⟩:=G5.G3.mp m;cases G5.G7.mp n;obtain⟨p,zs,rfl,t,S⟩:=At.Hh.mp a;obtain⟨u,rfl,D⟩:=vals1 r;cases D;have y:=fF P;subst y;have ev:=G5.JW S;subst ev;obtain⟨its,G,pl,Z⟩:=I.list t.sq;obtain⟨b,ex,c⟩:=nu (fP G)
  have C : 0<b.length:=by
   cases b with
   |nil=>subst c;cases g
   |cons x b=>simp
  have B:s.heap.IsList p (intItems b.toArray):=by have:=pl.isList;rw[ex] at this;simpa [intItems] using this
  refine min_intList (I.ok.hd z) B (by simpa using C) λv W tk N U=>?_;obtain⟨R,rfl⟩:=intItems_at N;obtain⟨h1,A⟩:=argBest_lt (numAt b.toArray) (b.toArray.size-1)
  have mem:numAt b.toArray (argBest (λi j=>decide (numAt b.toArray i<numAt b.toArray j)) (b.toArray.size-1))∈ns:=by
   have l:argBest (λi j=>decide (numAt b.toArray i<numAt b.toArray j)) (b.toArray.size-1)<b.length:=by
    have:b.toArray.size=b.length:=by simp
    omega
   rw[numAt_eq,c];simp only[getD_eq_getElem?_getD,getElem?_map,List.toList_toArray,List.getElem?_eq_getElem l,map_some,getD_some];exact mem_map.mpr ⟨_,getElem_mem l,rfl⟩
  have low:∀ a∈ns,numAt b.toArray (argBest (λi j=>decide (numAt b.toArray i<numAt b.toArray j)) (b.toArray.size-1))<=a:=by
   intro a f;rw[c] at f;obtain⟨x,K,rfl⟩:=mem_map.mp f;obtain⟨j,O,rfl⟩:=getElem_of_mem K
   have L:=A j (by
    have:b.toArray.size=b.length:=by simp
    omega)
   refine Int.le_trans L (Int.le_of_eq ?_);simp[numAt,O]
  have k:=xK mem low;rw[g] at k;have T:=Option.some.inj k;refine⟨.int M,H,I.kept (t':=tk) U,⟨R,by rw[T]⟩,q H _ (Hb.refl H) (At.G2.mpr rfl)⟩
 cases e
end
section
variable {X:Cx}{W:WT}{pos:Pos}
def D4 (K:GV)(a:Addr):It:=
 ⟨λi H => ∃ b x,Ki K H a b/\b[i]?=some x,λi H x c => ∃ p y,H p=none/\x = .ref p/\c=upd H p (.tup [.int i,y])/\∀ b,Ki K H a b->b[i]?=some y,λi H => ∃ b,Ki K H a b/\b.length<=i⟩
theorem uA {P:Program}{w:World}{K:GV}{es:List Expr}{k:Nat}{pt:Pos}(a e it:Addr)(R:e≠it)(Te:a≠e)(Tf:a≠it):Turn P w K (.Tuple es k pt) (D4 K a) [e,it] e (λi h=>(∃ old,IsEnum h e it i old)/\h.IsListIter it a i) where
 mem:=by simp
 obj:=λi h st b hb=>by
  obtain⟨⟨old,d⟩,o,l,B,hd⟩:=st;rcases mem_cons.mp hb with rfl |hb
  ·exact⟨_,d,λv z=>by cases z⟩
  have:b=it:=by simpa using hb
  subst this;exact⟨o,l,λv z=>by rw[hd] at z;cases z⟩
 keep:=λi h h' st kp=>by
  obtain⟨⟨old,d⟩,o,l,r⟩:=st;exact⟨⟨old,kp e (by simp) _ d⟩,o,kp it (by simp) o l,r⟩
 item:=by
  intro X n W S B i j s σ H E I J st U;subst n W S;obtain⟨G,x,D,N⟩:=U;obtain⟨its,Y,p,hz⟩:=I.list D;obtain⟨u,Z,ru⟩:=Y.get N;obtain⟨⟨old,d⟩,g⟩:=st;have Il:i<its.toArray.size:=by rw[size_toArray];exact(List.getElem?_eq_some_iff.mp Z).1
  refine wpAny_pyNext_enum_itemD (Draws.list (A:=X.A.in1) (I.ok.hd B) it a Tf its.toArray) d ⟨g,p.isList⟩ Il R (by simp[R,Ne.symm Te]) λy h' tk n l Pt hT hsz hk=>?_
  have ey:y=u:=by
   have:its.toArray[i]?=some u:=by simpa using Z
   rw[this] at n;exact(Option.some.inj n).symm
  subst ey;refine⟨_,rfl,wpAny_letOwnedTupleGo_enum (s:={ s with heap:=h',toks:=tk+1 }) l λC Pu V=>?_⟩;have hn:H s.heap.objs.size=none:=I.fresh;obtain⟨T,Qv,Wu,Tg,Ti,Tj⟩:=J e (by simp);obtain⟨t,F,Tn,O,L,M⟩:=J it (by simp);have kp:∀ b o,b≠e->b≠it->s.heap.get? b=some o->C.get? b=some o:=λb o h1 Mh f=>(V.2 b h1).trans (hk b o h1 Mh f);have Qw:s.heap.objs.size≠e:=ne_of_gt (Heap.lt_size d);have Mi:C.get? s.heap.objs.size=some { cls:=.type "tuple",data:=.seq #[.int i tk,y] }:=(V.2 _ Qw).trans hT;have ne:∀ b o,H b=some o->b≠s.heap.objs.size:=λb o q=>aJ q hn
  have I1:Inv X j σ (upd H s.heap.objs.size (.tup [.int i,x])) { s with heap:=C,toks:=tk+1 }:=by
   refine I.step (h':=C) (g':=s.gens) (d':=s.drawn) (t':=tk+1) (ch:=[e,it]) (λb hb=>?_) (λb o _ _ hb f _=>kp b o (λz=>hb (by simp[z])) (λz=>hb (by simp[z])) f) (λb o _ _ hb f _=>⟨o.slots,kp b o (λz=>hb (by simp[z])) (λz=>hb (by simp[z])) f⟩)
    (λb o hb f n'=>by rw[aF (ne_of_lt (Heap.lt_size f))];exact n') (λb o hb f=>⟨o,kp b o (λz=>hb (by simp[z])) (λz=>hb (by simp[z])) f⟩)
    (λb G q=>by rw[aF (ne b _ q)];exact q) (λb o G q=>by rw[aF (ne b _ q)];exact q) (λb ps q=>⟨#[],by rw[aF (ne b _ q),q];simp⟩)
    (λm hm=>?_) (λb o q=>?_) I.bare
   ·rcases mem_cons.mp hb with rfl |hb
    ·exact⟨Tg,Qv,Ti,Tj⟩
    have:b=it:=by simpa using hb
    subst this;exact⟨O,F,L,M⟩
   ·obtain⟨o,es,ep,l,r⟩:=hm;exact⟨o,es,ep,kp _ o (Ne.symm Qv) (Ne.symm F) l,r⟩
   by_cases hb:b=s.heap.objs.size
   ·subst hb;rw[G_] at q;cases q;exact⟨by show 2<=sizeLine;decide,[.int i tk,y],.cons ⟨tk,rfl⟩ (.cons ru .nil),_,Mi⟩
   rw[aF hb] at q;refine(I.Hq b o q).JP (λc v K7 z=>kp c v ?_ ?_ z) (λc z=>by rw[aF (ne c _ z)];exact z) λc G z=>by rw[aF (ne c _ z)];exact z
   ·rcases K7 with z' |z'
    ·rw[z'];exact aJ q T
    exact aJ z' T
   rcases K7 with z' |z'
   ·rw[z'];exact aJ q t
   exact aJ z' t
  refine⟨.ref s.heap.objs.size,_,I1,rfl,⟨_,x,hn,rfl,rfl,λys hy=>by rw[I.JR hy D];exact N⟩,⟨⟨y,Pu⟩,Pt.1.extBut V.extBut (Ne.symm R)⟩,λb hb=>?_⟩;rcases mem_cons.mp hb with rfl |hb
  ·rw[aF (Ne.symm Qw)];exact T
  have:b=it:=by simpa using hb
  subst this;obtain⟨o,MS,_⟩:=g;rw[aF (ne_of_lt (Heap.lt_size MS))];exact t
 done:=by
  intro X n W S B i j s σ H E I J st U;subst n W S;obtain⟨G,D,N⟩:=U;obtain⟨its,Y,p,hz⟩:=I.list D;obtain⟨⟨old,d⟩,g⟩:=st;obtain⟨t,F,Tn,O,L,M⟩:=J it (by simp);have hl:=Y.length;exact wpAny_pyNext_enum_end (I.ok.hd B) d g p.isList (by simp;omega) λh' eb=>⟨rfl,I.turned (t':=s.toks) (λb o hb e=>eb b o hb e) t F O L M⟩
 self:=by
  intro A i s Q E st h;obtain⟨⟨old,d⟩,_⟩:=st;exact wpAny_pyIter_enum d h
theorem Walk.NT {a:Addr}{ds:List D}{xs:List V}{J:List Addr}{H:Hp}(t:LQ X.K H J a xs)(m:G5 X.K H J ds xs):Walk X (D4 X.K a) (bJ 0 ds) J H where
 len:=by rw[bw,m.length];exact t.len
 go:=λc f i x b=>by
  rw[bw] at b;have m1:=m.ex x;obtain⟨v,k,_⟩:=m1.get (List.getElem?_eq_getElem b);exact⟨xs,v,(t.ex x).sq,k⟩
 Lu:=λc f i v l x j b y=>by
  obtain⟨p,y,g,rfl,rfl,h⟩:=y;obtain⟨d,e,a⟩:=(m.ex x).get' (h xs (t.ex x).sq);refine⟨.tup [.int i,d],by rw[dU,e];simp,At.IF (.cons (At.G2.mpr rfl) (.cons a .nil)) g j (by show 2<=sizeLine;decide),aM g _⟩
 stop:=λc f i x b=>by
  rw[bw] at b;exact⟨xs,(t.ex x).sq,by rw[← m.length];exact b⟩
def vn:List D->Option (List D)
 |[.lst xs]=>some (bJ 0 xs)
 |_=>none
theorem uI {es:List Expr}{k:Nat}{pt p:Pos}{a:Expr}{t:GU (List D)}{x:Str}(G:x="enumerate")(Q:X.mg x=none)(y:SA X W [a] t)(O:Gl X x:=by rfl)
  (M:starEach (a::[]) X.env=(false,eval a X.env)::starEach [] X.env:=by rfl) (L:(backTo pos (starEach [] X.env)).any (·.1)=false:=by rfl):SI X W (.Tuple es k pt) (.Call (.Name x p) [a] [] pos) (fV vn t):=by
 subst G;intro c s q H R I h;refine wpAny_Call_Name_kw (i4 I O Q boot_enumerate ?_ (by decide) (by decide));refine callWith_type1 (Hk (y pos c s q H _ I (gO h)) λT d E=>?_) M L;obtain⟨V,i,f,B,J,S,JQ,ds,so,m,g,z⟩:=E;unfold vn at g;split at g
 ·rename_i xs;cases g;obtain⟨v,r,rfl,P,n⟩:=G5.G3.mp m;cases G5.G7.mp n;obtain⟨ad,Z,rfl,l,N⟩:=At.Hh.mp P;obtain⟨u,rfl,F⟩:=vals1 B;cases F;obtain⟨its,Y,pl,U⟩:=f.list l.sq;have w:ad<d.heap.objs.size:=by obtain⟨o,n,e,_⟩:=pl;exact Heap.lt_size e
  refine call_enumerate_list pl.isList λA j it sz kp=>?_;have C:Inv X c q i { d with heap:=A }:=f.kept (t':=d.toks) kp;refine wpAny_pyIter_enum j ?_;refine⟨d.heap.objs.size+1,[d.heap.objs.size+1,d.heap.objs.size],_,D4 X.K ad,i,rfl,C,uA ad _ _ (ne_of_gt (lt_succ_self _)) (ne_of_lt (lt_succ_of_lt w)) (ne_of_lt w),⟨⟨_,j⟩,it⟩,λb hb=>?_,z i _ (Hb.refl _) (Walk.NT l N)⟩;rcases mem_cons.mp hb with rfl |hb
  ·exact f.JH (le_succ _) (f.Hq.fresh (le_succ _))
  have:b=d.heap.objs.size:=by simpa using hb
  subst this;exact f.JH (le_refl _) f.fresh
 cases g
def qG:List D->Option (List D)
 |[.tup xs]=>some (bJ 0 xs)
 |[.lst xs]=>some (bJ 0 xs)
 |_=>none
theorem yG {es:List Expr}{k:Nat}{pt p:Pos}{a:Expr}{t:GU (List D)}{x:Str}(c:x="enumerate")(g:X.mg x=none)(d:SA X W [a] t)(h:Gl X x:=by rfl)
  (f:starEach (a::[]) X.env=(false,eval a X.env)::starEach [] X.env:=by rfl) (e:(backTo pos (starEach [] X.env)).any (·.1)=false:=by rfl):SI X W (.Tuple es k pt) (.Call (.Name x p) [a] [] pos) (fV qG t):=by
 refine SI.either (qa c g d h f e) (uI c g d h f e) λj S=>?_;unfold fV;refine b8 _ λi l=>?_;unfold qG nJ vn
 match i with
 |[.tup xs]=>exact .inl rfl
 |[.lst xs]=>exact .inr rfl
 |[]=>exact .inl rfl
 |[.Ho]=>exact .inl rfl
 |[.bl _]=>exact .inl rfl
 |[.int _]=>exact .inl rfl
 |[.str _]=>exact .inl rfl
 |[.set _]=>exact .inl rfl
 |[.loc _]=>exact .inl rfl
 |[.fn _ _]=>exact .inl rfl
 |a::b::r=>cases a<;>exact .inl rfl
end
section
variable {X:Cx}{W:WT}{pos p:Pos}{e:Expr}
def B5 (c:Str)(g:G1->G0->Bool):GU Fl:=λa S=>if g a S=true then some (.error c,S) else none
end
section
variable {X:Cx}{W:WT}{pos pos' p:Pos}{o i e:Expr}{es:List Expr}{gs:GU (List D)}{fo fi fv fe:GU D}{x:Str}
def iO (x k v:D)(ρ:G1)(S:G0):Out Fl:=match k with
 | .int i=>(match x with
  | .loc l=>(match S[l]? with
   |some (.lst xs)=>(match MD xs.length i with
    |some j=>G9 (.next ρ) (S.set l (.lst (xs.set j v)))
    |none=>none)
   |_=>none)
  |_=>none)
 |_=>none
def wM (fo fi fv:GU D):GU Fl:=λa S=>ai (fv a S) λv c=>ai (fo a c) λx b=>ai (fi a b) λk d=>iO x k v a d
theorem G5.set {K:GV}{H:Hp}{J:List Addr}{d:D}{v:V}(a:At K H J d v):∀ {ds:List D}{vs:List V}(j:Nat),G5 K H J ds vs->G5 K H J (ds.set j d) (vs.set j v)
 |[],vs,j,m=>by cases G5.G7.mp m;exact m
 |e::ds,vs,j,m=>by
  obtain⟨u,r,rfl,m1,m2⟩:=G5.G3.mp m;cases j with
  |zero=>exact .cons a m2
  |succ j=>exact .cons m1 (G5.set a j m2)
theorem AX (D:SE X W o fo)(hi:SE X W i fi)(O:SE X W e fv)(G:swapsWithSole [.Subscript o i pos'] e pos.line X.env=pure false:=by rfl)(I:swappedStores [.Subscript o i pos'] e X.env=pure none:=by rfl)
  (n:(assignEach [.Subscript o i pos'] X.env).map (·.2)=[assign (.Subscript o i pos') X.env]:=by rfl)
  (b:∀ v,assign (.Subscript o i pos') X.env v=(do
   let d ← holding [v] (eval o X.env);let g ← holding [v,d] (eval i X.env)
   standAt pos'
   holding [v,d,g] (setItem d g v)
   release [v,d,g] []):=by intro _;rfl):SS X W (.Assign [.Subscript o i pos'] e pos) (wM fo fi fv):=
 (y6 O (C8 D hi set_list b) G I n).imp λE u H h=>by
  have h:tH X W [] [] (wM fo fi fv) E u H:=let ⟨J,f,S,r,p,c,e,z⟩:=h;⟨J,f,S,r,p,c,.nil,e,z⟩;refine(tH.Ha h).mono λv Y ⟨A,n⟩=>(tH.Ha n).mono λx V ⟨B,F⟩=>(tH.Ha F).mono λy U ⟨s,M⟩=>?_;obtain⟨J,f,S,r,p,c,m,e,z⟩:=M;obtain⟨mk,m⟩:=m.G6;obtain⟨C,m⟩:=m.G6;obtain⟨Q,_⟩:=m.G6;have e:iO B s A f S=some (r,p):=e;unfold iO at e;cases s with
  |int k =>
   cases B with
   |loc l =>
    simp only at e;split at e
    ·rename_i P es;split at e
     ·rename_i j R;cases e;obtain⟨a,rfl,b⟩:=At.Hc.mp C;obtain⟨t,L,q⟩:=c.Hu.at_ l a _ b es;cases At.G2.mp mk;have up:=c.Hu.update (o:=.lst (t.set j v)) (mo:=.lst (P.set j A)) b λT Z w K N=>by subst K N;exact⟨_,G_,G5.set (Q.ex w) j (q.ex w)⟩
      exact⟨a,t,k,j,rfl,rfl,L,by rw[← q.length];exact R,z J u _ up.2 (c.re up.2 up.1)⟩
     cases e
    cases e
   |_=>cases e
  |_=>cases e
end
def FE (K:GV)(x qual:Str)(st:Stmt)(f:Addr):Prop:=∃ fd,Lz K x qual st f fd
def BD (x qual:Str)(st:Stmt)(b:List Str):Prop:=∀ (kV doc c:Value) (d:Option Addr) (e ct:Value) (a:List Value),a.length=b.length->bindArgs (PySem.W.fnOf x qual (c_ st) (bx st) (ao st) .none kV doc c d e ct) ⟨a,[]⟩=pure (b.zip a)
section
variable {P:List Value->Prop}{us:List Value}
theorem WI (h:us.length=0)(k:P []):P us:=by rw[length_eq_zero_iff.mp h];exact k
theorem AQ {n:Nat}(h:us.length=n+1)(k:∀ a r,r.length=n->P (a::r)):P us:=by
 cases us with
 |nil=>cases h
 |cons a r=>exact k a r (Nat.succ.inj h)
theorem U2 (h:us.length=1)(k:∀ a,P [a]):P us:=AQ h λa _ h=>WI (P:=λr=>P (a::r)) h (k a)
theorem M8 (h:us.length=2)(k:∀ a b,P [a,b]):P us:=AQ h λa _ h=>U2 (P:=λr=>P (a::r)) h (k a)
theorem U3 (h:us.length=3)(k:∀ a b c,P [a,b,c]):P us:=AQ h λa _ h=>M8 (P:=λr=>P (a::r)) h (k a)
theorem WJ (h:us.length=4)(k:∀ a b c d,P [a,b,c,d]):P us:=AQ h λa _ h=>U3 (P:=λr=>P (a::r)) h (k a)
end
section
variable {x qual:Str}{st:Stmt}{p1 p2 p3 p4 p5 p6:Str}
theorem TC (h:∀ (kV doc c:Value) (d:Option Addr) (e ct:Value) (a:Value),bindArgs (PySem.W.fnOf x qual (c_ st) (bx st) (ao st) .none kV doc c d e ct) ⟨[a],[]⟩=pure [(p1,a)]):BD x qual st [p1]:=λkV doc c d e ct b f=>U2 (P:=λb=>bindArgs _ ⟨b,[]⟩=pure (List.zip [p1] b)) f λa=>(h kV doc c d e ct a)
theorem TF (h:∀ (kV doc d:Value) (e:Option Addr) (f ct:Value) (a b:Value),bindArgs (PySem.W.fnOf x qual (c_ st) (bx st) (ao st) .none kV doc d e f ct) ⟨[a,b],[]⟩=pure [(p1,a),(p2,b)]):BD x qual st [p1,p2]:=λkV doc d e f ct c g=>M8 (P:=λc=>bindArgs _ ⟨c,[]⟩=pure (List.zip [p1,p2] c)) g λa b=>(h kV doc d e f ct a b)
theorem TH (h:∀ (kV doc e:Value) (f:Option Addr) (g ct:Value) (a b c:Value),bindArgs (PySem.W.fnOf x qual (c_ st) (bx st) (ao st) .none kV doc e f g ct) ⟨[a,b,c],[]⟩=pure [(p1,a),(p2,b),(p3,c)]):BD x qual st [p1,p2,p3]:=λkV doc e f g ct d i=>U3 (P:=λd=>bindArgs _ ⟨d,[]⟩=pure (List.zip [p1,p2,p3] d)) i λa b c=>(h kV doc e f g ct a b c)
theorem TJ (h:∀ (kV doc f:Value) (g:Option Addr) (i ct:Value) (a b c d:Value),bindArgs (PySem.W.fnOf x qual (c_ st) (bx st) (ao st) .none kV doc f g i ct) ⟨[a,b,c,d],[]⟩=pure [(p1,a),(p2,b),(p3,c),(p4,d)]):BD x qual st [p1,p2,p3,p4]:=λkV doc f g i ct e j=>WJ (P:=λe=>bindArgs _ ⟨e,[]⟩=pure (List.zip [p1,p2,p3,p4] e)) j λa b c d=>(h kV doc f g i ct a b c d)
end
section
variable {K:GV}{h:Heap}{mg:GY}{x m c qual:Str}{st:Stmt}{ps:List Str}{f C:Addr}
theorem fE {e:Value}{h g:Option Addr}{b:Array (Option Value)}{kV doc d a ct:Value}(l:K.lookup f=some ⟨e,h,.func (PySem.W.fnOf x qual (c_ st) (bx st) (ao st) .none kV doc d g a ct),b⟩)
  (c:PySem.W.codeIn K a qual=true) (k:PySem.W.keepIn K (.ref f)=true):FE K x qual st f:=⟨_,Dy l c k⟩
theorem WK (X:K.In h)(G:h.Ns mainGlobals mg)(a:PySem.W.nsIn K mainGlobals x=some (some (.ref f)))(q:FE K x x st f)(b:BD x x st ps):bf K mg x st ps:=
 Exists.elim q λfd F=>⟨f,fd,F,PySem.W.mg_of X G a,F.binds b⟩
abbrev NC (K:GV)(c:Str)(C:Addr):Prop:=PySem.W.nsIn K mainGlobals c=some (some (.ref C))/\Lw K C
theorem WL (n:NC K c C)(a:PySem.W.findIn K (.ref C) m=some (some (.ref f)))(i:PySem.W.isFn K (.ref f)=true)(q:FE K m qual st f)(b:BD m qual st ps):MethAt K c m qual st ps:=
 Exists.elim q λfd F=>⟨C,f,fd,n.1,n.2,⟨a,i,F.kp⟩,F,F.binds b⟩
theorem WM (X:K.In h)(G:h.Ns mainGlobals mg)(n:NC K c C)(e:PySem.W.makesIn K C=true)(d:PySem.W.keepIn K (.ref C)=true)(a:PySem.W.findIn K (.ref C) "__init__"=some (some (.ref f)))(i:PySem.W.isFn K (.ref f)=true)(q:FE K "__init__" qual st f)(b:BD "__init__" qual st ps):D3 K mg c qual st ps:=
 Exists.elim q λfd F=>⟨C,f,fd,n.1,PySem.W.mg_of X G n.1,⟨e,a,i,d⟩,F,F.binds b⟩
end
end L2
namespace L2
open PySem
section
variable {prog:Program}{w:World}{K:Type} [DecidableEq K] {knd:KeyKind prog w K}{pk:K->Bool}{led:Bool}{A:Around}{E:GW}{s:Shared}
set_option maxHeartbeats 3200000 in
theorem qN {l:Addr}{items:Array Value}{Q:GW}(J:A.handled=none)(D:s.heap.IsList l items)(val:Nat->K)(X:∀ (i:Nat) v,items[i]?=some v->knd.is (val i) v=true/\v.scannable=true/\plainKind v=pk (val i))
  (g:items.size+1<scanBound)
  (h:∀ (h':Heap) (tk:Nat),HI knd pk (!Li w) h' s.heap.objs.size (met val items.size)->(∀ b o,b<s.heap.objs.size->s.heap.get? b=some o->h'.get? b=some o)->Q (.ref s.heap.objs.size) { s with heap:=h',toks:=tk }) :
  wpAny (model prog w) A (call (.type "set") [.ref l]) Q E s:=by
 obtain⟨c,tl,Z⟩:=F.called_set.mro;have c1:=F.called_set.made;have c2:=F.called_set.sub;refine wpAny_call (codeAny_of_tree ?_);show wpAny _ _ (callAny (.type "set") _) _ _ _;refine wpAny_pure ⟨Code.quiet_builtin _ (by decide),codeAny_builtin F.entry_type_call ?_⟩;rw[Around.under_plain (weight_type_call_type "set" [.ref l] []) rfl];have c3:=F.called_set.notType;have c4:=F.called_set.canCreate;have c5:=SF.QA (.ref l)
 repeat (any_goals (first |assumption |wp_step))
 refine codeAny_mono (yJ (.ref l) (E:=E) (Q₁:=λobj d=>obj = .ref s.heap.objs.size/\d={ s with heap:=s.heap.push (lN w) }) ⟨rfl,rfl⟩) λr d k=>?_;cases r with
 |error e=>exact k
 |ok G =>
  cases G with
  |ret obj =>
   obtain⟨rfl,rfl⟩:=k;have t:(s.heap.push (lN w)).get? s.heap.objs.size=some (lN w):=Heap.get?_push_size _ rfl;have I:Shared.TypeIs { s with heap:=s.heap.push (lN w) } (.ref s.heap.objs.size) "set":=⟨_,t,rfl⟩;have Y:=F.called_set.init.lookup;have i2:=F.called_set.init.bind (.ref s.heap.objs.size)
   repeat (any_goals (first |assumption |wp_step))
   refine codeAny_mono (codeAny_call_builtin (R:=wants (λr a=>r = .none/\∃ h' tk,a={ s with heap:=h',toks:=tk }/\HI knd pk (!Li w) h' s.heap.objs.size (met val items.size) /\
     (∀ b o,b<s.heap.objs.size->s.heap.get? b=some o->h'.get? b=some o)) E) F.called_set.init.plain F.entry_set_init (xb I ?_)) λf a j=>?_
   ·obtain⟨⟨WO,U4,U5,TK⟩,x,y,p,n⟩:=id D;simp only at y n;subst y n;have q:=Heap.get?_push_of_some (lN w) x;have t1:=F.sub_list_set;have t2:=F.sub_list_frozenset;have t3:(Value.type "list"==Value.type "dict")=false:=by decide
    have L:(s.heap.push (lN w)).IsList l items:=⟨_,q,rfl,p,rfl⟩;unfold Builtin.«set.__init__» noKeywords Builtin.Frozenset.updateFrom;generalize C:pyIter=PI
    wp_walk
    subst C;refine wpAny_pyIter_list L ?_;refine wpAny_bind (wpAny_runValue ?_);have u:l<s.heap.objs.size:=Heap.lt_size x;have z1:(s.heap.push (lN w)).objs.size=s.heap.objs.size+1:=Heap.size_push ..;have H:l≠(s.heap.push (lN w)).objs.size:=by rw[z1];exact ne_of_lt (lt_succ_of_lt u)
    have B:s.heap.objs.size∉[(s.heap.push (lN w)).objs.size,l]:=by
     rw[z1];intro hm;rcases mem_cons.mp hm with e |hm
     ·exact ne_of_lt (lt_succ_self _) e
     exact ne_of_gt u (mem_singleton.mp hm)
    refine yK (pk:=pk) (led:=!Li w) ((Walks.list (by simp[J]) _ l H items).toS) s.heap.objs.size B val X g (items.size-0) 0 _ (by omega) (zero_le _)
     ⟨⟨_,Heap.get?_push_size _ rfl,rfl,rfl⟩,⟨_,Heap.get?_push_of_some _ q,rfl,p,rfl⟩⟩ (HI.start (Heap.get?_push_of_some _ t)) λT hm m=>?_
    obtain⟨h',N,z,U,M⟩:=T;have W:N=s.gens:=hm.gens;have P:z=s.drawn:=hm.drawn;have S:M=s.os:=hm.os;subst W P S;show wpAny _ _ _ _ _ _;refine wpAny_pure ?_;show wpAny _ _ (ret Value.none) _ _ _;refine wpAny_pure ⟨rfl,h',U,rfl,m,λb o g e=>hm.heap b o ?_ (Heap.get?_push_of_some _ (Heap.get?_push_of_some _ e))⟩;intro hm;rcases mem_cons.mp hm with e |hm
    ·exact ne_of_lt g e
    rw[z1] at hm;exact ne_of_lt (lt_succ_of_lt g) (mem_singleton.mp hm)
   cases f with
   |error e=>exact j
   |ok O =>
    cases O with
    |ret r =>
     obtain⟨rfl,h',tk,rfl,m,V⟩:=j
     repeat (any_goals (first |assumption |wp_step))
     exact h _ _ m V
    |_=>exact j.elim
  |_=>exact k.elim
end
end L2
namespace L2
open PySem PySem.Spec PyProof.Rows PySem.W
def O2:Key->D
 | .inl i => .int i
 | .inr x => .str x
section
variable {X:Cx}{W:WT}{x y:Str}{p p2 pos LG:Pos}{fe:GU D}
theorem xS {d:D}{k:Key}(h:dO d=some k):d=O2 k:=by
 cases d with
 |int i=>cases h;rfl
 |str x=>cases h;rfl
 |_=>cases h
theorem sK {K:GV}{H:Hp}{J:List Addr}:∀ {ds:List D}{b:List Key}{vs:List V},iP ds=some b->G5 K H J ds vs->∀ k∈b,At K H J (O2 k) (kV k)
 |[],b,vs,e,m=>by cases e;intro k hk;cases hk
 |d::ds,b,vs,e,m=>by
  obtain⟨v,r,rfl,a,n⟩:=G5.G3.mp m;rw[iP] at e;obtain⟨k,c,h⟩:=bind_eq_some_iff.mp e;obtain⟨j,f,g⟩:=map_eq_some_iff.mp h;subst g;intro i hk;rcases mem_cons.mp hk with rfl |hk
  ·rw[← xS c,← sM c a];exact a
  exact sK f n i hk
theorem t5 {K:GV}{H:Hp}{J:List Addr}:∀ {a:List Key},(∀ k∈a,At K H J (O2 k) (kV k))->G5 K H J (a.map O2) (a.map kV)
 |[],_ => .nil
 |k::a,h => .cons (h k (mem_cons_self ..)) (t5 λx b=>h x (mem_cons_of_mem _ b))
theorem BZ (C:X.calm=true):h_ X (.type "set") (λxs H Q => ∃ (a:Addr) (c:List Key),xs=[.ref a]/\Ki X.K H a (c.map kV)/\c.length+1<4096/\∀ p,H p=none->Q (.ref p) (upd H p (DZ X.prog X.w p (c.foldl cW [])))):=by
 intro B s R H xs O Q I r h;obtain⟨a,c,rfl,E,N,q⟩:=h;obtain⟨u,rfl,F⟩:=vals1 r;cases F;obtain⟨its,y,⟨o,n,d,L,_,G⟩,T⟩:=I.list E;have tp:s.heap.IsList a its.toArray:=⟨o,d,L,n,G⟩;have f:its.length=c.length:=by rw[← y.length,length_map]
 refine qN (knd:=bd X.prog X.w) (pk:=Tx) (I.ok.hd C) tp (λi=>c.getD i (.inl 0)) (λi v J=>?_) (by rw[size_toArray,f];exact N) λP tk j k=>?_
 ·have l:its[i]?=some v:=by simpa using J
  have m:i<c.length:=by rw[← f];exact(List.getElem?_eq_some_iff.mp l).1
  obtain⟨u,A,g⟩:=y.get (i:=i) (x:=kV c[i]) (by rw[getElem?_map,List.getElem?_eq_getElem m];rfl);rw[l] at A;cases A;have D:c.getD i (.inl 0)=c[i]:=by simp[List.getD,m]
  simp only[D];exact⟨o6 g,(zV g).1,(zV g).2⟩
 have M:its.toArray.size=c.length:=by rw[size_toArray,f]
 rw[M,zL] at j;refine⟨.ref s.heap.objs.size,_,I.laid (t':=tk) (o:=DZ X.prog X.w s.heap.objs.size (c.foldl cW [])) (λb o e=>k b o (Heap.lt_size e) e) (le_refl _) ⟨j,?_,λU S z k=>z.keep k⟩,rfl,q _ I.fresh⟩;obtain⟨o,es,ep,t,d,_⟩:=j;exact⟨o,d⟩
end
section
variable {prog:Program}{w:World}{A:Around}{E:GW}{s:Shared}
structure ZA (z TI TO i1 i2:Addr) (f1 f2:List Addr):Prop where
 m1:i1∈f1
 m2:i2∈f2
 z1:z∉f1
 z2:z∉f2
 o1:TO∉f1
 o2:TO∉f2
 x1:i2∉f1
 x2:i1∉f2
 oz:TO≠z
 tz:TI≠z
 to:TI≠TO
 t1:TI∉f1
 t2:TI∉f2
variable {z TI TO i1 i2:Addr}{f1 f2:List Addr}{n1 n2:Nat}{P1 P2:Nat->Value->Prop}{S1 S2:Nat->Heap->Prop}{a b:Value}
theorem ZA.ne1 (D:ZA z TI TO i1 i2 f1 f2):i1≠z/\i1≠TO/\i1≠i2/\i2≠z/\i2≠TO/\TI≠i1/\TI≠i2:=
 ⟨λe=>D.z1 (e▸D.m1),λe=>D.o1 (e▸D.m1),λe=>D.x1 (e▸D.m1),λe=>D.z2 (e▸D.m2),λe=>D.o2 (e▸D.m2),λe=>D.t1 (e▸D.m1),λe=>D.t2 (e▸D.m2)⟩
theorem cJ {x y:Addr}{l:List Addr}(h:x∉l)(g:y∈l):y≠x:=λe=>h (e▸g)
theorem yu (D:ZA z TI TO i1 i2 f1 f2)(F:Draws prog w A i1 f1 n1 P1 S1)(C:Draws prog w A i2 f2 n2 P2 S2){j k:Nat}(hj:j<n1)(S:k<n2){Q:GW}
  (hz:IsZip s.heap z TI TO .none) (TN:IsPair s.heap TI (.ref i1) (.ref i2)) (TR:IsPair s.heap TO a b) (t1:S1 j s.heap) (t2:S2 k s.heap)
  (X:∀ x y h' tk,P1 j x->P2 k y->IsZip h' z TI TO (rawInt s.heap.objs.size)->IsPair h' TO x y->S1 (j+1) h'->S2 (k+1) h'->IsPair h' s.heap.objs.size x y->h'.objs.size=s.heap.objs.size+1 ->
   (∀ c o,c≠z->c≠TO->c≠i1->c≠i2->s.heap.get? c=some o->h'.get? c=some o)->Q (.ref s.heap.objs.size) { s with heap:=h',toks:=tk }) :
  wpAny (model prog w) A (Builtin.«zip.__next__» ⟨[.ref z],[]⟩) (λfin s' => ∃ v,fin = .done (.ret v)/\Q v s') E s:=by
 obtain⟨R,e2,e3,e4,Y,e6,e7⟩:=D.ne1;show wpAny _ _ (field (.ref z) 2 >>= _) _ _ _;refine wpAny_bind (wpAny_field (x:=.bool false) hz rfl rfl ?_);show wpAny _ _ (field (.ref z) 3 >>= _) _ _ _;refine wpAny_bind (wpAny_field (x:=.ref TI) hz rfl rfl (wpAny_bind (wpAny_seqItems TN rfl ?_)));show wpAny _ _ (Builtin.SmallTypes.ownedTupleIsFree (.ref z) >>= _) _ _ _;unfold Builtin.SmallTypes.ownedTupleIsFree;refine wpAny_bind (wpAny_bind (wpAny_field (x:=.none) hz rfl rfl (wpAny_pure ?_)));simp only[if_true];refine wpAny_bind (wpAny_rule (wpAny_bind (wpAny_field (x:=.ref TO) hz rfl rfl (wpAny_bind (wpAny_setField_rec hz (by simp) λW K l=>wpAny_bind ?_)))));have K:IsZip W z TI TO .ellipsis:=K;simp only[zipIdx_cons,List.zipIdx_nil,forIn_cons,forIn_nil];refine wpAny_bind (wpAny_bind (wpAny_onRaise ?_));show wpAny _ _ (Builtin.SmallTypes.nextOf (.ref i1) >>= _) _ _ _;refine wpAny_bind (F.item j _ _ _ hj (F.frame _ _ _ t1 λc p o e=>l.extBut _ _ (cJ D.z1 p) e) λx T tb px V i=>wpAny_pure ?_);have P:IsPair T TO a b:=i.extBut _ _ (Ne.symm e2) (l.extBut _ _ D.oz TR);refine wpAny_bind (wpAny_seqItems P rfl (wpAny_bind (wpAny_updateSeq_pair P λp I n=>wpAny_bind (wpAny_letGo (wpAny_pure ?_)))));have I:IsPair p TO x b:=I;refine wpAny_bind (wpAny_bind (wpAny_onRaise ?_));show wpAny _ _ (Builtin.SmallTypes.nextOf (.ref i2) >>= _) _ _ _;have Z:S2 k p:=C.frame _ _ _ t2 λc f o e=>n.extBut _ _ (cJ D.o2 f) (i.extBut _ _ (cJ D.x2 f) (l.extBut _ _ (cJ D.z2 f) e));refine wpAny_bind (C.item k _ _ _ S Z λy hd td py WU m=>wpAny_pure ?_);have O:IsPair hd TO x b:=m.extBut _ _ (Ne.symm Y) I;refine wpAny_bind (wpAny_seqItems O rfl (wpAny_bind (wpAny_updateSeq_pair O λd r g=>wpAny_bind (wpAny_letGo (wpAny_pure (wpAny_pure ?_))))));have r:IsPair d TO x y:=r;refine wpAny_bind (wpAny_seqItems r rfl (wpAny_bind (wpAny_newTuple ?_)));have sz:d.objs.size=s.heap.objs.size:=by rw[g.1,m.1,n.1,i.1,l.1]
 have all:∀ c o,c≠z->c≠TO->c≠i1->c≠i2->s.heap.get? c=some o->d.get? c=some o:=λc o t B H L e=>g.extBut _ _ B (m.extBut _ _ L (n.extBut _ _ B (i.extBut _ _ H (l.extBut _ _ t e))));have M:IsZip d z TI TO .ellipsis:=g.extBut _ _ (Ne.symm D.oz) (m.extBut _ _ (Ne.symm e4) (n.extBut _ _ (Ne.symm D.oz) (i.extBut _ _ (Ne.symm R) K)));have U:S1 (j+1) d:=F.frame _ _ _ V λc f o e=>g.extBut _ _ (cJ D.o1 f) (m.extBut _ _ (cJ D.x1 f) (n.extBut _ _ (cJ D.o1 f) e));have WW:S2 (k+1) d:=C.frame _ _ _ WU λc f o e=>g.extBut _ _ (cJ D.o2 f) e;have N:z<d.objs.size:=Heap.lt_size M;show wpAny _ _ (Builtin.SmallTypes.ownedTupleHandOut (.ref z) (.ref d.objs.size) >>= _) _ _ _;unfold Builtin.SmallTypes.ownedTupleHandOut;have zf:IsZip (d.push { cls:=.type "tuple",data:=.seq #[x,y] }) z TI TO .ellipsis:=Heap.get?_push_of_some _ M;refine wpAny_bind (wpAny_bind (wpAny_setField_rec zf (by simp) λhg zg J=>wpAny_setField_rec (show IsZip hg z TI TO (rawInt d.objs.size) from zg) (by simp) λh u G=>wpAny_pure ⟨_,rfl,?_⟩));have u:IsZip h z TI TO (rawInt d.objs.size):=u;have up:∀ c o,c≠z->d.get? c=some o->h.get? c=some o:=λc o q e=>G.extBut _ _ q (J.extBut _ _ q (Heap.get?_push_of_some _ e));have new:IsPair h d.objs.size x y:=G.extBut _ _ (ne_of_gt N) (J.extBut _ _ (ne_of_gt N) (Heap.get?_push_size _ rfl));have size:h.objs.size=d.objs.size+1:=by rw[G.1,J.1,Heap.size_push]
 show Q (.ref d.objs.size) _;rw[sz] at u new size ⊢;exact X x y h _ px py u (up _ _ D.oz r) (F.frame _ _ _ U λc f o e=>up c o (cJ D.z1 f) e) (C.frame _ _ _ WW λc f o e=>up c o (cJ D.z2 f) e) new size λc o t B H L e=>up c o t (all c o t B H L e)
theorem AJ (D:ZA z TI TO i1 i2 f1 f2)(F:Draws prog w A i1 f1 n1 P1 S1)(L:Draws prog w A i2 f2 n2 P2 S2){j k:Nat}(R:j=n1∨(j<n1/\k=n2)){Q:Fin->Shared->Prop}
  (hz:IsZip s.heap z TI TO .none) (TN:IsPair s.heap TI (.ref i1) (.ref i2)) (TR:IsPair s.heap TO a b) (t1:S1 j s.heap) (t2:S2 k s.heap)
  (P:∀ h' e tk,(∀ c o,c≠z->c≠TO->c≠i1->c≠i2->s.heap.get? c=some o->h'.get? c=some o)->(∃ o,h'.get? e=some o/\o.cls = .type "StopIteration")->E (.ref e) { s with heap:=h',toks:=tk }) :
  wpAny (model prog w) A (Builtin.«zip.__next__» ⟨[.ref z],[]⟩) Q E s:=by
 obtain⟨K,X,e3,W,e5,e6,e7⟩:=D.ne1;show wpAny _ _ (field (.ref z) 2 >>= _) _ _ _;refine wpAny_bind (wpAny_field (x:=.bool false) hz rfl rfl ?_);show wpAny _ _ (field (.ref z) 3 >>= _) _ _ _;refine wpAny_bind (wpAny_field (x:=.ref TI) hz rfl rfl (wpAny_bind (wpAny_seqItems TN rfl ?_)));show wpAny _ _ (Builtin.SmallTypes.ownedTupleIsFree (.ref z) >>= _) _ _ _;unfold Builtin.SmallTypes.ownedTupleIsFree;refine wpAny_bind (wpAny_bind (wpAny_field (x:=.none) hz rfl rfl (wpAny_pure ?_)));simp only[if_true];refine wpAny_bind (wpAny_rule (wpAny_bind (wpAny_field (x:=.ref TO) hz rfl rfl (wpAny_bind (wpAny_setField_rec hz (by simp) λH p g=>wpAny_bind ?_)))));have p:IsZip H z TI TO .ellipsis:=p
 have stop:∀ (h:Heap) (M:IsZip h z TI TO .ellipsis) (e:Addr) (tk:Nat) (d:Heap) (u:Addr),z≠u->Heap.ExtBut u h d->(∃ o,d.get? e=some o/\o.cls = .type "StopIteration")->(∀ c o,c≠z->c≠TO->c≠i1->c≠i2->s.heap.get? c=some o->d.get? c=some o) ->
   wpAny (model prog w) A (setField (.ref z) 0 .none) (λ_ V=>E (.ref e) V) E { s with heap:=d,toks:=tk }:=by
  rintro h M e tk d u T O ⟨oe,C,N⟩ Z;have z2:IsZip d z TI TO .ellipsis:=O _ _ T M;have WX:e≠z:=λq=>by subst q;rw[z2] at C;cases C;simp at N
  exact wpAny_setField_rec z2 (by simp) λY _ I=>P Y e tk (λc o f t l r x=>I.extBut _ _ f (Z c o f t l r x)) ⟨oe,I.extBut _ _ WX C,N⟩
 simp only[zipIdx_cons,List.zipIdx_nil,forIn_cons,forIn_nil];refine wpAny_bind (wpAny_bind (wpAny_onRaise ?_));show wpAny _ _ (Builtin.SmallTypes.nextOf (.ref i1) >>= _) _ _ _;have J:=F.frame _ _ _ t1 λc m o e=>g.extBut c o (cJ D.z1 m) e;rcases R with rfl |⟨U,rfl⟩
 ·refine wpAny_bind (F.done _ _ _ J λd e i y=>?_);exact stop H p e s.toks d i1 (Ne.symm K) i y λc o f t l r x=>i _ _ l (g.extBut _ _ f x)
 refine wpAny_bind (F.item j _ _ _ U J λx hb tb px U7 n=>wpAny_pure ?_);have G:IsPair hb TO a b:=n.extBut _ _ (Ne.symm X) (g.extBut _ _ D.oz TR);refine wpAny_bind (wpAny_seqItems G rfl (wpAny_bind (wpAny_updateSeq_pair G λm oc v=>wpAny_bind (wpAny_letGo (wpAny_pure ?_)))));refine wpAny_bind (wpAny_bind (wpAny_onRaise ?_));show wpAny _ _ (Builtin.SmallTypes.nextOf (.ref i2) >>= _) _ _ _;have S:=L.frame _ _ _ t2 λc B o e=>v.extBut c o (cJ D.o2 B) (n.extBut _ _ (cJ D.x2 B) (g.extBut _ _ (cJ D.z2 B) e));have zc:IsZip m z TI TO .ellipsis:=v.extBut _ _ (Ne.symm D.oz) (n.extBut _ _ (Ne.symm K) p);refine wpAny_bind (L.done _ _ _ S λd e i y=>?_);exact stop m zc e tb d i2 (Ne.symm W) i y λc o f t l r x=>i _ _ r (v.extBut _ _ t (n.extBut _ _ l (g.extBut _ _ f x)))
end
def La (k:Bool)(h:Heap)(a:Addr)(items:Array Value):Prop:=match k with
 |true=>h.IsTuple a items
 |false=>h.IsList a items
def MK (k:Bool)(h:Heap)(it a:Addr)(i:Nat):Prop:=match k with
 |true=>h.IsTupleIter it a i
 |false=>h.IsListIter it a i
def Oe (k:Bool)(a:Addr):Obj:=match k with
 |true => { cls:=.type "tuple_iterator",data:=.fields #[.ref a,.int 0 0] }
 |false => { cls:=.type "list_iterator",data:=.fields #[.ref a,.int 0 0] }
section
variable {prog:Program}{w:World}{A:Around}{E:GW}{s:Shared}
theorem La.keep {k:Bool}{h h':Heap}{a:Addr}{items:Array Value}(x:La k h a items)(e:∀ o,h.get? a=some o->h'.get? a=some o):La k h' a items:=by
 cases k with
 |true=>obtain⟨o,b,r⟩:=(x:h.IsTuple a items);exact⟨o,e o b,r⟩
 |false=>obtain⟨o,b,r⟩:=(x:h.IsList a items);exact⟨o,e o b,r⟩
theorem MK.keep {k:Bool}{h h':Heap}{it a:Addr}{i:Nat}(x:MK k h it a i)(e:∀ o,h.get? it=some o->h'.get? it=some o):MK k h' it a i:=by
 cases k with
 |true=>obtain⟨o,b,r⟩:=(x:h.IsTupleIter it a i);exact⟨o,e o b,r⟩
 |false=>obtain⟨o,b,r⟩:=(x:h.IsListIter it a i);exact⟨o,e o b,r⟩
theorem MK.obj {k:Bool}{h:Heap}{it a:Addr}{i:Nat}(x:MK k h it a i):∃ o,h.get? it=some o/\∀ v,o.data≠.cell v:=by
 cases k with
 |true=>obtain⟨o,b,_,hd⟩:=(x:h.IsTupleIter it a i);exact⟨o,b,λv z=>by rw[hd] at z;cases z⟩
 |false=>obtain⟨o,b,_,hd⟩:=(x:h.IsListIter it a i);exact⟨o,b,λv z=>by rw[hd] at z;cases z⟩
theorem La.lt {k:Bool}{h:Heap}{a:Addr}{items:Array Value}(x:La k h a items):a<h.objs.size:=by
 cases k with
 |true=>obtain⟨o,b,_⟩:=(x:h.IsTuple a items);exact Heap.lt_size b
 |false=>obtain⟨o,b,_⟩:=(x:h.IsList a items);exact Heap.lt_size b
theorem Draws.seq (k:Bool)(c:A.handled=none)(it a:Addr)(b:a≠it)(items:Array Value):Draws prog w A it [it,a] items.size (λi v=>items[i]?=some v) (λi h=>MK k h it a i/\La k h a items):=by
 cases k with
 |true=>exact Draws.tup c it a b items
 |false=>exact Draws.list c it a b items
theorem v8 {k:Bool}{a:Addr}{items:Array Value}{Q:GW}(x:La k s.heap a items)(h:Q (.ref s.heap.objs.size) { s with heap:=s.heap.push (Oe k a) }):wpAny (model prog w) A (pyIter (.ref a)) Q E s:=by
 cases k with
 |true=>exact wpAny_pyIter_tuple (show s.heap.IsTuple a items from x) h
 |false=>exact wpAny_pyIter_list (show s.heap.IsList a items from x) h
end
abbrev QT (k1:Bool)(h:Heap)(a:Addr):Heap:=h.push (Oe k1 a)
abbrev QU (k1 k2:Bool)(h:Heap)(a b:Addr):Heap:=(QT k1 h a).push (Oe k2 b)
abbrev QV (k1 k2:Bool)(h:Heap)(a b:Addr):Heap:=(QU k1 k2 h a b).push { cls:=.type "tuple",data:=.seq #[.ref h.objs.size,.ref (QT k1 h a).objs.size] }
abbrev QW (k1 k2:Bool)(h:Heap)(a b:Addr):Heap:=(QV k1 k2 h a b).push { cls:=.type "tuple",data:=.seq #[.none,.none] }
abbrev ML (k1 k2:Bool)(h:Heap)(a b:Addr):Heap:=(QW k1 k2 h a b).push { cls:=.type "zip",data:=.fields #[.none,.bool false,.bool false,.ref (QU k1 k2 h a b).objs.size,.ref (QV k1 k2 h a b).objs.size] }
theorem AI (c f:Bool)(a b:Addr)(xs ys:Array Value):Meets (Builtin.«zip.__new__» ⟨[.type "zip",.ref a,.ref b],[]⟩) (λ_ R s=>La c s.heap a xs/\La f s.heap b ys /\
   R (.ok (.ret (.ref (QW c f s.heap a b).objs.size))) { s with heap:=ML c f s.heap a b }):=
 .of_wp λprog w A R s h=>by
  obtain⟨i,g,d,tk,os⟩:=s;obtain⟨j,l,h⟩:=h;have m:=sub_zip;have ga:La c (Shared.heap ⟨i,g,d,tk,os⟩) a xs:=j;have k:La f (Shared.heap ⟨i.push (Oe c a),g,d,tk,os⟩) b ys:=La.keep (show La f i b ys from l) λo e=>Heap.get?_push_of_some _ e
  wp_walk using v8 ga,v8 k
  exact⟨_,rfl,h⟩
section
variable {prog:Program}{w:World}{A:Around}{E:GW}{s:Shared}
theorem yj {d f:Bool}{a b:Addr}{xs ys:Array Value}{Q:GW}(v:La d s.heap a xs)(z:La f s.heap b ys)
  (h:∀ h',IsZip h' (s.heap.objs.size+4) (s.heap.objs.size+2) (s.heap.objs.size+3) .none->IsPair h' (s.heap.objs.size+2) (.ref s.heap.objs.size) (.ref (s.heap.objs.size+1)) ->
   IsPair h' (s.heap.objs.size+3) .none .none->MK d h' s.heap.objs.size a 0->MK f h' (s.heap.objs.size+1) b 0->(∀ c o,s.heap.get? c=some o->h'.get? c=some o)->Q (.ref (s.heap.objs.size+4)) { s with heap:=h' }) :
  wpAny (model prog w) A (call (.type "zip") [.ref a,.ref b]) Q E s:=by
 refine callType_new F.called_zip (by decide) (F.typeCall_zip_2 _ _) (F.newCall_zip_2 _ _) (λobj=>F.args_object_init_3 obj _ _) F.entry_zip_new (AI d f a b xs ys) ⟨v,z,?_⟩;have q:(QT d s.heap a).objs.size=s.heap.objs.size+1:=Heap.size_push ..;have t:(QU d f s.heap a b).objs.size=s.heap.objs.size+2:=by rw[Heap.size_push,q]
 have r:(QV d f s.heap a b).objs.size=s.heap.objs.size+3:=by rw[Heap.size_push,t]
 have y:(QW d f s.heap a b).objs.size=s.heap.objs.size+4:=by rw[Heap.size_push,r]
 have up1:∀ c o,(QW d f s.heap a b).get? c=some o->(ML d f s.heap a b).get? c=some o:=λc o e=>Heap.get?_push_of_some _ e;have u:∀ c o,(QV d f s.heap a b).get? c=some o->(ML d f s.heap a b).get? c=some o:=λc o e=>up1 _ _ (Heap.get?_push_of_some _ e);have m:∀ c o,(QU d f s.heap a b).get? c=some o->(ML d f s.heap a b).get? c=some o:=λc o e=>u _ _ (Heap.get?_push_of_some _ e);have n:∀ c o,(QT d s.heap a).get? c=some o->(ML d f s.heap a b).get? c=some o:=λc o e=>m _ _ (Heap.get?_push_of_some _ e);have g:(ML d f s.heap a b).get? (QW d f s.heap a b).objs.size=some _:=Heap.get?_push_size _ rfl;have l:(ML d f s.heap a b).get? (QV d f s.heap a b).objs.size=some _:=up1 _ _ (Heap.get?_push_size _ rfl);have j:(ML d f s.heap a b).get? (QU d f s.heap a b).objs.size=some _:=u _ _ (Heap.get?_push_size _ rfl);have fr:∀ k c,(Oe k c).isFreed=false:=λk c=>by cases k<;>rfl
 have p:(ML d f s.heap a b).get? (QT d s.heap a).objs.size=some (Oe f b):=m _ _ (Heap.get?_push_size _ (fr f b));have B:(ML d f s.heap a b).get? s.heap.objs.size=some (Oe d a):=n _ _ (Heap.get?_push_size _ (fr d a))
 have it:∀ (k:Bool) (c i:Addr),(ML d f s.heap a b).get? i=some (Oe k c)->MK k (ML d f s.heap a b) i c 0:=λk c i e=>by
  cases k with
  |true=>exact⟨_,e,rfl,rfl⟩
  |false=>exact⟨_,e,rfl,rfl⟩
 show _/\_;rw[y] at g ⊢;rw[r] at l g;rw[t] at j g;rw[q] at p j;exact⟨⟨_,g,rfl⟩,h _ g j l (it _ _ _ B) (it _ _ _ p) λc o x=>n _ _ (Heap.get?_push_of_some _ x)⟩
end
def MM (k:Bool)(K:GV)(H:Hp)(a:Addr)(xs:List V):Prop:=match k with
 |true=>Kn K H a xs
 |false=>Ki K H a xs
section
variable {X:Cx}{pins:GX}{σ:St}{H:Hp}{s:Shared}
theorem Inv.Mn {k:Bool}{a:Addr}{xs:List V}(I:Inv X pins σ H s)(h:MM k X.K H a xs):∃ its:List Value,Vals xs its/\La k s.heap a its.toArray:=by
 cases k with
 |true=>obtain⟨its,r,p,_⟩:=I.tuple h;exact⟨its,r,p⟩
 |false=>obtain⟨its,r,⟨o,n,c,b,_,hd⟩,_⟩:=I.list h;exact⟨its,r,o,c,b,n,hd⟩
theorem Inv.Lj {k:Bool}{a:Addr}{xs ys:List V}(I:Inv X pins σ H s)(h:MM k X.K H a xs)(h':MM k X.K H a ys):xs=ys:=by
 cases k with
 |true=>exact I.Jo h h'
 |false=>exact I.JR h h'
end
theorem La.ne {k:Bool}{h:Heap}{a it c:Addr}{items:Array Value}{i:Nat}(x:La k h a items)(y:MK k h it c i):a≠it:=λe=>by
 subst e;cases k with
 |true =>
  obtain⟨o1,f,g,_⟩:=(x:h.IsTuple a items);obtain⟨o2,d,b,_⟩:=(y:h.IsTupleIter a c i);rw[f] at d;cases d;rw[g] at b;exact absurd b (by simp)
 |false =>
  obtain⟨o1,f,g,_⟩:=(x:h.IsList a items);obtain⟨o2,d,b,_⟩:=(y:h.IsListIter a c i);rw[f] at d;cases d;rw[g] at b;exact absurd b (by simp)
def TX (K:GV)(g h:Bool)(a b:Addr)(e f:Nat):It:=
 ⟨λi H=>i<e/\i<f/\∃ d c,MM g K H a d/\MM h K H b c/\d.length=e/\c.length=f,
  λi H v j => ∃ p x y,H p=none/\v = .ref p/\j=upd H p (.tup [x,y])/\(∀ d,MM g K H a d->d[i]?=some x)/\∀ c,MM h K H b c->c[i]?=some y,
  λi H=>(e<=i∨f<=i)/\∃ d c,MM g K H a d/\MM h K H b c/\d.length=e/\c.length=f⟩
structure WY (k1 k2:Bool) (a b z TI TO i1 i2:Addr) (n1 n2 i:Nat) (h:Heap):Prop where
 zip:IsZip h z TI TO .none
 its:IsPair h TI (.ref i1) (.ref i2)
 out:∃ u v,IsPair h TO u v
 fst:MK k1 h i1 a i
 snd:MK k2 h i2 b i
 Vb:i<=n1
 Vc:i<=n2
theorem yB {P:Program}{w:World}{K:GV}{es:List Expr}{kk:Nat}{pt:Pos}(k1 G:Bool)(a b z TI TO g l:Addr)(n1 n2:Nat)(D:ZA z TI TO g l [g,a] [l,b]) :
  Turn P w K (.Tuple es kk pt) (TX K k1 G a b n1 n2) [z,TI,TO,g,l] z (WY k1 G a b z TI TO g l n1 n2) where
 mem:=by simp
 obj:=λi h st c f=>by
  simp only[mem_cons,not_mem_nil,or_false] at f;rcases f with rfl |rfl |rfl |rfl |rfl
  ·exact⟨_,st.zip,λv q=>by cases q⟩
  ·exact⟨_,st.its,λv q=>by cases q⟩
  ·obtain⟨u,v,e⟩:=st.out;exact⟨_,e,λv q=>by cases q⟩
  ·exact st.fst.obj
  exact st.snd.obj
 keep:=λi h h' st kp=>by
  obtain⟨u,v,e⟩:=st.out;exact⟨kp _ (by simp) _ st.zip,kp _ (by simp) _ st.its,⟨u,v,kp _ (by simp) _ e⟩,st.fst.keep λo e=>kp _ (by simp) o e,st.snd.keep λo e=>kp _ (by simp) o e,st.Vb,st.Vc⟩
 item:=by
  intro X hP hw hK f i C s σ H E I p st hg;subst hP hw hK;obtain⟨l1,l2,N,ys,W,V,lx,ly⟩:=hg;obtain⟨L,Z,U⟩:=I.Mn W;obtain⟨J,rv,pv⟩:=I.Mn V;obtain⟨u0,v0,eo⟩:=st.out;have su:L.toArray.size=n1:=by rw[size_toArray,← Z.length,lx]
  have sv:J.toArray.size=n2:=by rw[size_toArray,← rv.length,ly]
  have ne1:a≠g:=U.ne st.fst;have ne2:b≠l:=pv.ne st.snd;have S:s.TypeIs (.ref z) "zip":=⟨_,st.zip,rfl⟩;unfold pyNext;refine wpAny_bind (wpAny_attempt (wpAny_callSpecial?_slot (name:=Str.ofString "__next__") S F.slot_zip_next (wpAny_call_entry F.slot_zip_next S F.entry_zip_next ?_ (F.args_zip_next_1 _))))
  refine yu D (Draws.seq (A:=X.A.in1) k1 (I.ok.hd f) g a ne1 L.toArray) (Draws.seq (A:=X.A.in1) G (I.ok.hd f) l b ne2 J.toArray) (j:=i) (k:=i) (by omega) (by omega) st.zip st.its eo ⟨st.fst,U⟩ ⟨st.snd,pv⟩
   λu v h' tk hu hv z' o' f' g' new size kp=>wpAny_pure ⟨_,rfl,wpAny_letOwnedTupleGo_zip (s:={ s with heap:=h',toks:=tk }) z' λM z2 G=>?_⟩
  have hu:L[i]?=some u:=by simpa using hu
  have hv:J[i]?=some v:=by simpa using hv
  obtain⟨x,ex⟩:∃ x,N[i]?=some x:=⟨_,List.getElem?_eq_getElem (by omega)⟩;obtain⟨y,ey⟩:∃ y,ys[i]?=some y:=⟨_,List.getElem?_eq_getElem (by omega)⟩;obtain⟨u',e1,rx⟩:=Z.get ex;rw[hu] at e1;cases e1;obtain⟨v',e2,ry⟩:=rv.get ey;rw[hv] at e2;cases e2;have hn:H s.heap.objs.size=none:=I.fresh;have kq:∀ c o,c≠z->c≠TO->c≠g->c≠l->s.heap.get? c=some o->M.get? c=some o:=λc o q1 q2 q3 q4 e=>(G.2 c q1).trans (kp c o q1 q2 q3 q4 e);have nz:s.heap.objs.size≠z:=ne_of_gt (Heap.lt_size st.zip);have Mi:IsPair M s.heap.objs.size u v:=(G.2 _ nz).trans new;have O:∀ c o,H c=some o->c≠s.heap.objs.size:=λc o q=>aJ q hn
  have R:∀ c∈[z,TO,g,l],c∈[z,TI,TO,g,l]:=λc f=>by
   simp only[mem_cons,not_mem_nil,or_false] at f ⊢;rcases f with h |h |h |h
   ·exact .inl h
   ·exact .inr (.inr (.inl h))
   ·exact .inr (.inr (.inr (.inl h)))
   exact .inr (.inr (.inr (.inr h)))
  have Y:∀ {c:Addr},c∉[z,TO,g,l]->c≠z/\c≠TO/\c≠g/\c≠l:=λ{c} h=>by simpa using h
  have B:∀ c o,c∉[z,TO,g,l]->s.heap.get? c=some o->M.get? c=some o:=λc o h e=>kq c o (Y h).1 (Y h).2.1 (Y h).2.2.1 (Y h).2.2.2 e;have out:∀ c o,H c=some o->c∉[z,TO,g,l]:=λc o q f=>by have:=(p c (R c f)).1;rw[this] at q;cases q
  have I1:Inv X C σ (upd H s.heap.objs.size (.tup [x,y])) { s with heap:=M,toks:=tk }:=by
   refine I.step (h':=M) (g':=s.gens) (d':=s.drawn) (t':=tk) (ch:=[z,TO,g,l]) (λc f=>?_) (λc o _ _ f e _=>B c o f e) (λc o _ _ f e _=>⟨o.slots,B c o f e⟩)
    (λc o _ e n'=>by rw[aF (ne_of_lt (Heap.lt_size e))];exact n') (λc o f e=>⟨o,B c o f e⟩)
    (λc N q=>by rw[aF (O c _ q)];exact q) (λc o N q=>by rw[aF (O c _ q)];exact q) (λc ps q=>⟨#[],by rw[aF (O c _ q),q];simp⟩)
    (λm hm=>?_) (λc o q=>?_) I.bare
   ·obtain⟨_,g1,_,g3,g4,g5⟩:=p c (R c f);exact⟨g3,g1,g4,g5⟩
   ·obtain⟨o,es,ep,t,r⟩:=hm;exact⟨o,es,ep,kq _ o (Ne.symm (p z (by simp)).2.1) (Ne.symm (p TO (by simp)).2.1) (Ne.symm (p g (by simp)).2.1) (Ne.symm (p l (by simp)).2.1) t,r⟩
   by_cases hb:c=s.heap.objs.size
   ·subst hb;rw[G_] at q;cases q;exact⟨by show 2<=sizeLine;decide,[u,v],.cons rx (.cons ry .nil),_,Mi⟩
   rw[aF hb] at q;refine(I.Hq c o q).JP (λd v' K7 e=>B d v' ?_ e) (λd e=>by rw[aF (O d _ e)];exact e) λd N e=>by rw[aF (O d _ e)];exact e
   rcases K7 with rfl |K7
   ·exact out _ _ q
   exact out _ _ K7
  refine⟨.ref s.heap.objs.size,_,I1,rfl,⟨_,x,y,hn,rfl,rfl,λOc h'=>by rw[I.Lj h' W];exact ex,λO3 h'=>by rw[I.Lj h' V];exact ey⟩,?_,λc f=>?_⟩
  ·have kz:∀ c o,c≠z->h'.get? c=some o->M.get? c=some o:=λc o q e=>(G.2 c q).trans e;obtain⟨WZ,Ym,Yn,W3,Yo,W4,W5⟩:=D.ne1;exact⟨z2,kq _ _ D.tz D.to W4 W5 st.its,⟨u,v,kz _ _ D.oz o'⟩,f'.1.keep λo e=>kz _ o WZ e,g'.1.keep λo e=>kz _ o W3 e,by omega,by omega⟩
  have Il:c<s.heap.objs.size:=by
   have q:∃ o,s.heap.get? c=some o:=by
    simp only[mem_cons,not_mem_nil,or_false] at f;rcases f with rfl |rfl |rfl |rfl |rfl
    ·exact⟨_,st.zip⟩
    ·exact⟨_,st.its⟩
    ·exact⟨_,eo⟩
    ·obtain⟨o,t,_⟩:=st.fst.obj;exact⟨o,t⟩
    obtain⟨o,t,_⟩:=st.snd.obj;exact⟨o,t⟩
   obtain⟨o,t⟩:=q;exact Heap.lt_size t
  rw[aF (ne_of_lt Il)];exact(p c f).1
 done:=by
  intro X hP hw hK f i C s σ H E I p st hg;subst hP hw hK;obtain⟨le,N,ys,W,V,lx,ly⟩:=hg;obtain⟨L,Z,U⟩:=I.Mn W;obtain⟨J,rv,pv⟩:=I.Mn V;obtain⟨u0,v0,eo⟩:=st.out;have su:L.toArray.size=n1:=by rw[size_toArray,← Z.length,lx]
  have sv:J.toArray.size=n2:=by rw[size_toArray,← rv.length,ly]
  have ne1:a≠g:=U.ne st.fst;have ne2:b≠l:=pv.ne st.snd;have S:s.TypeIs (.ref z) "zip":=⟨_,st.zip,rfl⟩;have e1:=st.Vb;have e2:=st.Vc;unfold pyNext;refine wpAny_bind (wpAny_attempt (wpAny_callSpecial?_slot (name:=Str.ofString "__next__") S F.slot_zip_next (wpAny_call_entry F.slot_zip_next S F.entry_zip_next ?_ (F.args_zip_next_1 _))));refine AJ D (Draws.seq (A:=X.A.in1) k1 (I.ok.hd f) g a ne1 L.toArray) (Draws.seq (A:=X.A.in1) G (I.ok.hd f) l b ne2 J.toArray) (j:=i) (k:=i) (by omega) st.zip st.its eo ⟨st.fst,U⟩ ⟨st.snd,pv⟩ λh' e tk kp he=>?_;obtain⟨o,t,Py⟩:=he;refine wpAny_bind (wpAny_isInstance (T:="StopIteration") (b:=true) ⟨o,t,Py⟩ isSubtype_stop ?_);refine wpAny_pure ⟨rfl,?_⟩
  have R:∀ c∈[z,TO,g,l],c∈[z,TI,TO,g,l]:=λc f=>by
   simp only[mem_cons,not_mem_nil,or_false] at f ⊢;rcases f with h |h |h |h
   ·exact .inl h
   ·exact .inr (.inr (.inl h))
   ·exact .inr (.inr (.inr (.inl h)))
   exact .inr (.inr (.inr (.inr h)))
  have B:∀ c o,c∉[z,TO,g,l]->s.heap.get? c=some o->h'.get? c=some o:=λc o h e=>by
   have h:c≠z/\c≠TO/\c≠g/\c≠l:=by simpa using h
   exact kp c o h.1 h.2.1 h.2.2.1 h.2.2.2 e
  have out:∀ c o,H c=some o->c∉[z,TO,g,l]:=λc o q f=>by have:=(p c (R c f)).1;rw[this] at q;cases q
  refine I.step (h':=h') (g':=s.gens) (d':=s.drawn) (t':=tk) (ch:=[z,TO,g,l]) (λc f=>?_) (λc o _ _ f e _=>B c o f e) (λc o _ _ f e _=>⟨o.slots,B c o f e⟩)
   (λ_ _ _ _ n=>n) (λc o f e=>⟨o,B c o f e⟩) (λ_ _ e=>e) (λ_ _ _ e=>e) (λc ps e=>⟨#[],by rw[e];simp⟩) (λm hm=>?_) (λc o q=>?_) I.bare
  ·obtain⟨_,g1,_,g3,g4,g5⟩:=p c (R c f);exact⟨g3,g1,g4,g5⟩
  ·obtain⟨o,es,ep,t,r⟩:=hm;exact⟨o,es,ep,kp _ o (Ne.symm (p z (by simp)).2.1) (Ne.symm (p TO (by simp)).2.1) (Ne.symm (p g (by simp)).2.1) (Ne.symm (p l (by simp)).2.1) t,r⟩
  refine(I.Hq c o q).JP (λd v' K7 e=>B d v' ?_ e) (λd e=>e) λd N e=>e;rcases K7 with rfl |K7
  ·exact out _ _ q
  exact out _ _ K7
 self:=by
  intro A i s Q E st h;exact wpAny_pyIter_zip st.zip h
def gr:List D->List D->List D
 |d::ds,e::es => .tup [d,e]::gr ds es
 |_,_=>[]
theorem cD:∀ ds es:List D,(gr ds es).length=min ds.length es.length
 |[],es=>by simp[gr]
 |d::ds,[]=>by simp[gr]
 |d::ds,e::es=>by simp only[gr,length_cons,cD ds es];omega
theorem mj:∀ (ds es:List D) (i:Nat) {d e:D},ds[i]?=some d->es[i]?=some e->(gr ds es)[i]?=some (.tup [d,e])
 |[],_,_,_,_,h,_=>by simp at h
 |_::_,[],_,_,_,_,h=>by simp at h
 |a::ds,b::es,0,d,e,h,g=>by
  have h:a=d:=by simpa using h
  have g:b=e:=by simpa using g
  subst h g;rfl
 |a::ds,b::es,i+1,d,e,h,g=>by
  rw[gr,List.getElem?_cons_succ];exact mj ds es i (by simpa using h) (by simpa using g)
def AK:List D->Option (List D)
 |[x,y]=>(uK x).bind λb=>(uK y).map λa=>gr b a
 |_=>none
section
variable {X:Cx}{W:WT}
theorem yN {H:Hp}{J:List Addr}{d:D}{v:V}{xs:List D}(m:At X.K H J d v)(h:uK d=some xs):∃ (k:Bool) (a:Addr) (vs:List V),v = .ref a/\G5 X.K H J xs vs/\vs.length<=sizeLine/\∀ c H',Ex J H c H'->MM k X.K H' a vs:=by
 cases d with
 |tup e=>cases h;obtain⟨a,vs,rfl,b,m⟩:=At.He.mp m;exact⟨true,a,vs,rfl,m,b.len,λc H' x=>(b.ex x).sq⟩
 |lst e=>cases h;obtain⟨a,vs,rfl,b,m⟩:=At.Hh.mp m;exact⟨false,a,vs,rfl,m,b.len,λc H' x=>(b.ex x).sq⟩
 |_=>cases h
theorem Walk.zip {k n:Bool}{a b:Addr}{ds es:List D}{xs ys:List V}{J:List Addr}{H:Hp}(m1:G5 X.K H J ds xs)(m2:G5 X.K H J es ys)(B:xs.length<=sizeLine)(g:∀ f H',Ex J H f H'->MM k X.K H' a xs)(h:∀ f H',Ex J H f H'->MM n X.K H' b ys) :
  Walk X (TX X.K k n a b xs.length ys.length) (gr ds es) J H where
 len:=by rw[cD,m1.length];omega
 go:=λj l i x c=>by
  rw[cD,m1.length,m2.length] at c;exact⟨by omega,by omega,xs,ys,g _ _ x,h _ _ x,rfl,rfl⟩
 Lu:=λj l i v H' x q c y=>by
  obtain⟨p,u,w,m,rfl,rfl,z,o⟩:=y;obtain⟨d,t,A⟩:=(m1.ex x).get' (z xs (g _ _ x));obtain⟨e,r,s⟩:=(m2.ex x).get' (o ys (h _ _ x));exact⟨.tup [d,e],mj ds es i t r,At.IF (.cons A (.cons s .nil)) m q (by show 2<=sizeLine;decide),aM m _⟩
 stop:=λj l i x c=>by
  rw[cD,m1.length,m2.length] at c;exact⟨by omega,xs,ys,g _ _ x,h _ _ x,rfl,rfl⟩
theorem Of {x a b:Nat}(c:x≠a)(d:x≠b):(x:Addr)∉([a,b]:List Addr):=λh=>by
 rcases mem_cons.mp h with e |h
 ·exact c e
 exact d (mem_singleton.mp h)
theorem D_ (N A B:Nat)(a:A<N)(b:B<N):ZA (N+4) (N+2) (N+3) N (N+1) [N,A] [N+1,B]:=
 ⟨mem_cons_self ..,mem_cons_self ..,Of (by omega) (by omega),Of (by omega) (by omega),Of (by omega) (by omega),Of (by omega) (by omega),Of (by omega) (by omega),Of (by omega) (by omega),
  (by omega:(N+3:Nat)≠N+4),(by omega:(N+2:Nat)≠N+4),(by omega:(N+2:Nat)≠N+3),Of (by omega) (by omega),Of (by omega) (by omega)⟩
theorem FK {N b:Nat}(h:(b:Addr)∈([N+4,N+2,N+3,N,N+1]:List Addr)):N<=b:=by simp only[mem_cons,not_mem_nil,or_false] at h;have h:b=N+4∨b=N+2∨b=N+3∨b=N∨b=N+1:=h;omega
theorem boot_zip:bootBuiltins "zip"=some (.type "zip"):=by decide
theorem CD {es:List Expr}{k:Nat}{pt p pos:Pos}{a b:Expr}{t:GU (List D)}{x:Str}(L:x="zip")(Q:X.mg x=none)(U:SA X W [a,b] t)(hg:Gl X x:=by rfl)
  (he:starEach (a::[b]) X.env=(false,eval a X.env)::starEach [b] X.env:=by rfl) (HN:(backTo pos (starEach [b] X.env)).any (·.1)=false:=by rfl):SI X W (.Tuple es k pt) (.Call (.Name x p) [a,b] [] pos) (fV AK t):=by
 subst L;intro c s v H R I h;refine wpAny_Call_Name_kw (i4 I hg Q boot_zip ?_ (by decide) (by decide));refine callWith_type1 (Hk (U pos c s v H _ I (gO h)) λus g G=>?_) he HN;obtain⟨vs,f,d,Z,J,S,JQ,ds,so,m,e,z⟩:=G;unfold AK at e;split at e
 ·rename_i dx dy;obtain⟨xs,h1,Y⟩:=bind_eq_some_iff.mp e;obtain⟨ys,h3,h4⟩:=map_eq_some_iff.mp Y;subst h4;obtain⟨v1,r,rfl,a1,n⟩:=G5.G3.mp m;obtain⟨v2,r',rfl,M,n⟩:=G5.G3.mp n;cases G5.G7.mp n;obtain⟨q,j,o,rfl,m1,W6,w⟩:=yN a1 h1;obtain⟨A,i,C,rfl,m2,Yp,y⟩:=yN M h3;obtain⟨u1,u2,rfl,W7,W8⟩:=vals2 Z;cases W7;cases W8;obtain⟨W9,Yq,l⟩:=d.Mn (w _ _ Ex.refl);obtain⟨Kp,Yr,u⟩:=d.Mn (y _ _ Ex.refl);have O:=l.lt;have l2:=u.lt;refine yj l u λV B g2 g3 T g5 kp=>?_;have I2:Inv X c v f { g with heap:=V }:=d.kept (t':=g.toks) kp;refine wpAny_pyIter_zip B ?_;generalize E:g.heap.objs.size=N at *
  refine⟨N+4,[N+4,N+2,N+3,N,N+1],_,TX X.K q A j i o.length C.length,f,rfl,I2,yB q A j i (N+4) (N+2) (N+3) N (N+1) o.length C.length ?_,⟨B,g2,⟨_,_,g3⟩,T,g5,zero_le _,zero_le _⟩,λb P=>?_,z f _ (Hb.refl _) (Walk.zip m1 m2 W6 w y)⟩
  ·exact D_ N j i O l2
  have F:N<=b:=FK P;exact d.JH (by rw[E];exact F) (d.Hq.fresh (by rw[E];exact F))
 cases e
end
end L2
namespace L2
open PySem PyProof.Rows
abbrev BR:Bool->Keyed->Array Keyed->Nat->Nat->Nat->StateT SortSt Sem (Option Nat):=sortPriv% PySem.Builtin.gallop
abbrev zM:Array Keyed->Array Keyed->StateT SortSt Sem (Array Keyed):=sortPriv% PySem.Builtin.mergeLo
abbrev mergeAt':Nat->StateT SortSt Sem Bool:=sortPriv% PySem.Builtin.mergeAt
def uh (prog:Program)(w:World)(A:Around)(E:GW)(s:Shared)(kd:SortKind)(O:KeyOrd)(kf:Value->O.α)(G:Keyed->Prop):Prop:=
 ∀ x y:Keyed,G x->G y->∀ (st:SortSt) (Q:Option Bool->SortSt->Prop),kindOf st=kd->Q (some (O.blt (kf x.1) (kf y.1))) st->wpS (model prog w) A E s (lt' x y) Q st
section
variable {prog:Program}{w:World}{A:Around}{E:GW}{s:Shared}{kd:SortKind}{O:KeyOrd}{kf:Value->O.α}{G:Keyed->Prop}
theorem cj {arr:Array Keyed}{i:Nat}(h:i<arr.size){Q:Keyed->SortSt->Prop}{st:SortSt}(q:Q arr[i] st):wpS (model prog w) A E s (elem' arr i) Q st:=by rw[elem'_eq,getElem?_pos arr i h];exact wpS_pure q
def Og (O:KeyOrd)(kf:Value->O.α)(left:Bool)(key x:Keyed):Bool:=if left then O.blt (kf x.1) (kf key.1) else !O.blt (kf key.1) (kf x.1)
theorem fQ {e:Type}{b:Nat}{f:Nat->e->StateT SortSt Sem (ForInStep e)}{Q : e->SortSt->Prop}{c : e}{st:SortSt}(k : 0<b)(h:wpS (model prog w) A E s (f 0 c) (λr a=>match r with | .done d=>Q d a | .yield _=>False) st):wpS (model prog w) A E s (forIn [0:b] c f) Q st:=by
 refine wpS_forRange (I:=λx d a=>x=0/\d=c/\a=st) (λi d a _ _ z=>?_) (λd a z=>?_) ⟨rfl,rfl,rfl⟩
 ·obtain⟨rfl,rfl,rfl⟩:=z
  exact wpS_mono h λr j q=>by
   cases r with
   |done g=>exact q
   |yield g=>exact q.elim
 have:=z.1;omega
theorem vL (L:uh prog w A E s kd O kf G){left:Bool}{key:Keyed}{arr:Array Keyed}{base n a k:Nat}{st:SortSt}{Q:Option Nat->SortSt->Prop}(o:kindOf st=kd)(m:G key)(ga:∀ x∈arr.toList,G x)
  (u:base+n<=arr.size) (t : 2<=n) (B:Nat->Bool) (p:∀ i (h:base+i<arr.size),i<n->B i=Og O kf left key arr[base+i])
  (c:(a=0/\k=1/\B 0=true/\B 1=false)∨(a=n-1/\k=n-1/\B (n-1)=false/\B (n-2)=true))
  (h:Q (some k) st):wpS (model prog w) A E s (BR left key arr base n a) Q st:=by
 have d:∀ i,i<n->∀ {b:Option Bool->SortSt->Prop},b (some (B i)) st->wpS (model prog w) A E s (do let x ← elem' arr (base+i);if left=true then lt' x key else return (← lt' key x).map (!·)) b st:=by
  intro i r b q;have f:base+i<arr.size:=by omega
  refine wpS_bind (cj f ?_);have l:G arr[base+i]:=ga _ (getElem_mem_toList f);have e:=p i f r;unfold Og at e;cases left with
  |true =>
   rw[if_pos rfl];rw[if_pos rfl] at e;exact L _ _ l m st _ o (by rw[← e];exact q)
  |false =>
   rw[if_neg (by decide)];rw[if_neg (by decide)] at e;refine wpS_bind (L _ _ m l st _ o (wpS_pure ?_));show b (some (!O.blt (kf key.1) (kf arr[base+i].1))) st;rw[← e];exact q
 rcases c with ⟨rfl,rfl,g,j⟩ |⟨rfl,rfl,g,j⟩
 ·refine wpS_bind (d 0 (by omega) ?_);rw[g];dsimp only;rw[if_pos rfl];refine wpS_bind (fQ (by omega) ?_);dsimp only;rw[if_neg (by omega)];refine wpS_bind (d (0+1) (by omega) ?_);rw[show 0+1=1 from rfl,j];refine wpS_pure ?_;dsimp only;refine wpS_bind (fQ (by omega) ?_);dsimp only;rw[if_pos (by omega)];refine wpS_pure (wpS_pure ?_);rw[show 0+min 1 (n-0)=1 by omega];exact h
 refine wpS_bind (d (n-1) (by omega) ?_);rw[g];dsimp only;rw[if_neg (by decide)];refine wpS_bind (fQ (by omega) ?_);dsimp only;rw[if_neg (by omega)];refine wpS_bind (d (n-1-1) (by omega) ?_);rw[show n-1-1=n-2 from by omega,j];refine wpS_pure ?_;dsimp only;refine wpS_bind (fQ (by omega) ?_);dsimp only;rw[if_pos (by omega)];exact wpS_pure (wpS_pure h)
end
section
variable {O:KeyOrd}{kf:Value->O.α}
def IT (O:KeyOrd)(kf:Value->O.α)(x y:Keyed):Prop:=O.kle (kf x.1) (kf y.1)
theorem iu {x y z:Keyed}(h:IT O kf x y)(g:IT O kf y z):IT O kf x z:=KeyOrd.kle_trans h g
structure Mg (O:KeyOrd) (kf:Value->O.α) (T out A B:List Keyed):Prop where
 perm:(out++(A++B)).Perm T
 so:out.Pairwise (IT O kf)
 sa:A.Pairwise (IT O kf)
 sb:B.Pairwise (IT O kf)
 low:∀ x∈out,∀ y∈A++B,IT O kf x y
def Res (O:KeyOrd)(kf:Value->O.α)(T r:List Keyed):Prop:=r.Perm T/\r.Pairwise (IT O kf)
theorem Mg.QZ {T out p A B:List Keyed}(h:Mg O kf T out (p++A) B)(l:∀ x∈p,∀ y∈B,IT O kf x y):Mg O kf T (out++p) A B:=by
 have sa:=pairwise_append.mp h.sa;refine⟨by have:=h.perm;simpa [List.append_assoc] using this,pairwise_append.mpr ⟨h.so,sa.1,λx hx y hy=>h.low x hx y (by simp[hy])⟩,sa.2.1,h.sb,λx hx y hy=>?_⟩;rcases mem_append.mp hx with hx |hx
 ·exact h.low x hx y (by
   rcases mem_append.mp hy with hy |hy
   ·simp[hy]
   simp[hy])
 rcases mem_append.mp hy with hy |hy
 ·exact sa.2.2 x hx y hy
 exact l x hx y hy
theorem Mg.Q0 {T out p A B:List Keyed}(h:Mg O kf T out A (p++B))(l:∀ x∈p,∀ y∈A,IT O kf x y):Mg O kf T (out++p) A B:=by
 have sb:=pairwise_append.mp h.sb;refine⟨?_,pairwise_append.mpr ⟨h.so,sb.1,λx hx y hy=>h.low x hx y (by simp[hy])⟩,h.sa,sb.2.1,λx hx y hy=>?_⟩
 ·refine List.Perm.trans ?_ h.perm;rw[List.append_assoc];refine List.Perm.append_left out ?_;rw[← List.append_assoc,← List.append_assoc];exact List.Perm.append_right B List.perm_append_comm
 rcases mem_append.mp hx with hx |hx
 ·exact h.low x hx y (by
   rcases mem_append.mp hy with hy |hy
   ·simp[hy]
   simp[hy])
 rcases mem_append.mp hy with hy |hy
 ·exact l x hx y hy
 exact sb.2.2 x hx y hy
theorem Mg.last {T out B:List Keyed}{z:Keyed}(h:Mg O kf T out [z] B)(l:∀ y∈B,IT O kf y z):Res O kf T (out++B++[z]):=by
 refine⟨?_,pairwise_append.mpr ⟨pairwise_append.mpr ⟨h.so,h.sb,λx hx y a=>h.low x hx y (by simp[a])⟩,List.pairwise_singleton _ _,λx hx y a=>?_⟩⟩
 ·refine List.Perm.trans ?_ h.perm;rw[List.append_assoc];exact List.Perm.append_left out List.perm_append_comm
 have b:y=z:=by simpa using a
 subst b;rcases mem_append.mp hx with hx |hx
 ·exact h.low x hx y (by simp)
 exact l x hx
theorem drop_cons {a:Array Keyed}{i:Nat}(h:i<a.size):a.toList.drop i=a[i]::a.toList.drop (i+1):=by rw[drop_eq_getElem_cons (by simpa using h)];simp
theorem lF {a:Array Keyed}(i:Nat):(a.extract i).toList=a.toList.drop i:=by rw[toList_extract,List.extract_eq_drop_take];exact take_of_length_le (by simp)
theorem wm {l:List Keyed}{x y:Keyed}(a:(y::l).Pairwise (IT O kf))(h:IT O kf x y):∀ z∈y::l,IT O kf x z:=by
 intro z hz;rcases mem_cons.mp hz with e |hz
 ·rw[e];exact h
 exact iu h ((pairwise_cons.mp a).1 z hz)
end
structure Ve (st G8:SortSt):Prop where
 kind:kindOf G8=kindOf st
 arr:arrOf G8=arrOf st
 pend:pendingOf G8=pendingOf st
 fail:failedOf G8=failedOf st
section
variable {prog:Program}{w:World}{A:Around}{E:GW}{s:Shared}{kd:SortKind}{O:KeyOrd}{kf:Value->O.α}{G:Keyed->Prop}
theorem rm (L:uh prog w A E s kd O kf G){a b:Array Keyed}{st:SortSt}{Q:Array Keyed->SortSt->Prop}(hk:kindOf st=kd)(ga:∀ x∈a.toList,G x)(Z:∀ x∈b.toList,G x)(hn:b.size=a.size)(t : 2<=a.size)
  (sa:a.toList.Pairwise (IT O kf)) (sb:b.toList.Pairwise (IT O kf)) (K:∀ i (h:i<a.size),O.blt (kf (b[i]'(by omega)).1) (kf a[i].1)=true) (ab:∀ i (h:i+1<a.size),O.blt (kf (b[i+1]'(by omega)).1) (kf a[i].1)=false) (hg : 2<=gallopOf st)
  (h:∀ r,Res O kf (a.toList++b.toList) r.toList->Q r st):wpS (model prog w) A E s (zM a b) Q st:=by
 have M : 0<a.size:=by omega
 have U : 0<b.size:=by omega
 let T:=a.toList++b.toList;let I:Array Keyed->Nat->Nat->Prop:=λout d f=>Mg O kf T out.toList (a.toList.drop d) (b.toList.drop f);have gA:∀ i (m:i<a.size),G a[i]:=λi m=>ga _ (getElem_mem_toList m);have W:∀ i (m:i<b.size),G b[i]:=λi m=>Z _ (getElem_mem_toList m)
 have W_:∀ i j (m:i<a.size) (D:j<a.size),i<=j->IT O kf a[i] a[j]:=by
  intro i j m D MI;rcases lt_or_ge i j with Il |RS
  ·have:=pairwise_iff_getElem.mp sa i j (by simpa using m) (by simpa using D) Il;simpa using this
  have e:i=j:=by omega
  subst e;exact KeyOrd.kle_refl _
 have first:IT O kf b[0] a[0]:=KeyOrd.kle_of_klt (K 0 M)
 have last:∀ y∈b.toList,IT O kf y a[a.size-1]:=λy l=>by
  obtain⟨j,D,rfl⟩:=getElem_of_mem l;have V:j<a.size:=by rw[← hn];simpa using D
  have:=iu (KeyOrd.kle_of_klt (K j V)) (W_ j (a.size-1) V (by omega) (by omega));simpa using this
 have Y:∀ {out:Array Keyed}{d f:Nat},I out d f->d+1=a.size->Res O kf T (out++b.extract f++a.extract d).toList:=by
  intro out d f g e;have g:Mg O kf T out.toList (a.toList.drop d) (b.toList.drop f):=g;have R:a.toList.drop d=[a[a.size-1]]:=by rw[drop_cons (by omega),drop_eq_nil_of_le (by simp[e])];congr 2;omega
  rw[toList_append,toList_append,lF,lF,R];rw[R] at g;exact g.last λy l=>last y (mem_of_mem_drop l)
 have S:∀ {out:Array Keyed}{d f:Nat}(n:d<a.size) (t:f<b.size),I out d f->IT O kf b[f] a[d]->I (out.push b[f]) d (f+1):=by
  intro out d f n t g J;have g:Mg O kf T out.toList (a.toList.drop d) (b.toList.drop f):=g;have v:=g;rw[drop_cons t] at g;show Mg O kf T (out.push b[f]).toList _ _;rw[toList_push];refine Mg.Q0 (p:=[b[f]]) g λx z y l=>?_;have ex:x=b[f]:=by simpa using z
  subst ex;have P:=v.sa;rw[drop_cons n] at P l;exact wm P J y l
 have Q4:∀ {out:Array Keyed}{d f:Nat}(n:d<a.size) (t:f<b.size),I out d f->IT O kf a[d] b[f]->I (out.push a[d]) (d+1) f:=by
  intro out d f n t g J;have g:Mg O kf T out.toList (a.toList.drop d) (b.toList.drop f):=g;have v:=g;rw[drop_cons n] at g;show Mg O kf T (out.push a[d]).toList _ _;rw[toList_push];refine Mg.QZ (p:=[a[d]]) g λx z y l=>?_;have ex:x=a[d]:=by simpa using z
  subst ex;have N:=v.sb;rw[drop_cons t] at N l;exact wm N J y l
 have start:I #[b[0]] 0 1:=by
  have g:Mg O kf T [] a.toList b.toList:=⟨by simp[T],List.Pairwise.nil,sa,sb,λx z=>by simp at z⟩;have v:I #[] 0 0:=by show Mg O kf T [] (a.toList.drop 0) (b.toList.drop 0);simpa using g
  exact S M U v first
 refine wpS_bind (wpS_lift (wpAny_rule ⟨rfl,?_⟩));refine wpS_bind (cj U ?_);dsimp only;rw[if_neg (by simp;omega),if_neg (by simp;omega)];refine wpS_bind (wpS_get ?_);refine wpS_bind (wpS_mono (Q:=λc k=>k=st/\∃ r rest,c=(some r,rest)/\Res O kf T r.toList) (fQ (by omega) ?_) ?post)
 case post =>
  rintro c k ⟨rfl,r,rest,rfl,H⟩;exact wpS_pure (h r H)
 dsimp only
 refine wpS_bind (wpS_mono (wpS_forRange (I:=λy c k=>k=st/\∃ out d f F B,c=(none,out,d,f,F,B)/\I out d f/\d+1<a.size/\f<b.size/\d+f=y+1/\(f=d+1/\F=0∨f=d/\B=0))
  (Q:=λc k=>k=st/\∃ r rest,c=(some r,rest)/\Res O kf T r.toList) ?step ?fin ⟨rfl,_,_,_,_,_,rfl,start,by omega,by omega,rfl,.inl ⟨rfl,rfl⟩⟩) ?post1)
 case post1 =>
  rintro c k ⟨rfl,r,rest,rfl,H⟩;exact wpS_pure ⟨rfl,r,_,rfl,H⟩
 case fin =>
  rintro c k ⟨rfl,out,d,f,F,B,rfl,g,n,o,h4,_⟩;omega
 case step =>
  rintro y c k _ l ⟨rfl,out,d,f,F,B,rfl,g,n,o,h4,X⟩;dsimp only;have u:d<a.size:=by omega
  refine wpS_bind (cj o (wpS_bind (cj u (wpS_bind (L _ _ (W _ o) (gA _ u) k _ hk ?_)))));dsimp only;rcases X with ⟨rfl,rfl⟩ |⟨rfl,rfl⟩
  ·have e:=ab d (by omega);rw[e,if_neg (by decide)];refine wpS_bind (cj u ?_);have C:=Q4 u o g (show O.kle _ _ from e)
   try dsimp only
   by_cases q:(d+1+1==a.size)=true
   ·rw[if_pos q];exact wpS_pure ⟨rfl,_,_,rfl,Y C (by simpa using q)⟩
   rw[if_neg q];have Ys:d+1+1≠a.size:=by simpa using q
   rw[if_neg (show ¬ (0+1≥gallopOf k) by omega)];exact wpS_pure ⟨rfl,_,_,_,_,_,rfl,C,by omega,o,by omega,.inr ⟨rfl,rfl⟩⟩
  have e:=K f u;rw[e,if_pos rfl];refine wpS_bind (cj o ?_);have C:=S u o g (KeyOrd.kle_of_klt e)
  try dsimp only
  have q:¬ (f+1==b.size)=true:=by simp;omega
  rw[if_neg q,if_neg (show ¬ (0+1≥gallopOf k) by omega)];exact wpS_pure ⟨rfl,_,_,_,_,_,rfl,C,n,by omega,by omega,.inl ⟨rfl,rfl⟩⟩
end
abbrev yf:Nat->Nat->StateT SortSt Sem (Option Nat):=sortPriv% PySem.Builtin.countRun
abbrev tX:Nat->Nat->Nat->StateT SortSt Sem Bool:=sortPriv% PySem.Builtin.binarySort
section
variable {prog:Program}{w:World}{A:Around}{E:GW}{s:Shared}{kd:SortKind}{O:KeyOrd}{kf:Value->O.α}{G:Keyed->Prop}
def KX (kf:Value->O.α)(xs:Array Keyed)(i:Nat):O.α:=match xs[i]? with
 |some p=>kf p.1
 |none=>kf .none
theorem wS {xs ys:Array Keyed}{i j:Nat}(h:xs[i]?=ys[j]?):KX kf xs i=KX kf ys j:=by unfold KX;rw[h]
theorem lH {xs:Array Keyed}{i:Nat}(h:i<xs.size):KX kf xs i=kf xs[i].1:=by unfold KX;rw[getElem?_pos xs i h]
structure Sg (G:Keyed->Prop) (kd:SortKind) (lo hi:Nat) (st G8:SortSt):Prop where
 kind:kindOf G8=kd
 good:∀ x∈(arrOf G8).toList,G x
 perm:(arrOf G8).Perm (arrOf st)
 pend:pendingOf G8=pendingOf st
 fail:failedOf G8=failedOf st
 Pz:gallopOf G8=gallopOf st
 same:∀ k,(k<lo∨hi<=k)->(arrOf G8)[k]?=(arrOf st)[k]?
theorem Sg.size {lo hi:Nat}{st a:SortSt}(h:Sg G kd lo hi st a):(arrOf a).size=(arrOf st).size:=h.perm.size_eq
theorem Sg.set {lo hi:Nat}{st a:SortSt}(h:Sg G kd lo hi st a){ys:Array Keyed}(b:ys.Perm (arrOf a))(e:∀ k,(k<lo∨hi<=k)->ys[k]?=(arrOf a)[k]?):Sg G kd lo hi st (setArr a ys):=
 ⟨h.kind,λx d=>h.good x ((perm_iff_toList_perm.mp b).mem_iff.mp d),b.trans h.perm,h.pend,h.fail,h.Pz,λk c=>(e k c).trans (h.same k c)⟩
theorem j5 (L:uh prog w A E s kd O kf G){lo hi:Nat}{st0 st:SortSt}(a:Sg G kd lo hi st0 st){i j:Nat}(hi:i<(arrOf st0).size)(d:j<(arrOf st0).size){Q:Option Bool->SortSt->Prop}
  (q:Q (some (O.blt (KX kf (arrOf st) i) (KX kf (arrOf st) j))) st):wpS (model prog w) A E s (ltAt' i j) Q st:=by
 have b:i<(arrOf st).size:=by rw[a.size];exact hi
 have c:j<(arrOf st).size:=by rw[a.size];exact d
 rw[lH b,lH c] at q;rw[ltAt'_eq];refine wpS_bind (wpS_get (wpS_bind (cj b (wpS_bind (cj c ?_)))));exact L _ _ (a.good _ (getElem_mem_toList b)) (a.good _ (getElem_mem_toList c)) st _ a.kind q
theorem AM {i j:Nat}{st:SortSt}{Q:Unit->SortSt->Prop}(q:Q () (setArr st (bubble (arrOf st) i (i-j)))):wpS (model prog w) A E s (moveDown' i j) Q st:=by rw[moveDown'_eq];exact wpS_modify q
def Mo (kf:Value->O.α)(xs:Array Keyed)(lo hi:Nat):Prop:=∀ i j,lo<=i->i<=j->j<hi->O.kle (KX kf xs i) (KX kf xs j)
theorem mB (L:uh prog w A E s kd O kf G){lo b:Nat}{st:SortSt}{Q:Option Nat->SortSt->Prop}(i:kindOf st=kd)(g:∀ x∈(arrOf st).toList,G x)(l:lo+b<=(arrOf st).size)(j : 2<=b)
  (u:O.blt (KX kf (arrOf st) lo) (KX kf (arrOf st) (lo+1))=true) (d:b=2∨O.blt (KX kf (arrOf st) (lo+2)) (KX kf (arrOf st) (lo+1))=true) (h:Q (some 2) st):wpS (model prog w) A E s (yf lo b) Q st:=by
 have e:Sg G kd lo lo st st:=⟨i,g,Array.Perm.refl _,rfl,rfl,rfl,λ_ _=>rfl⟩;refine wpS_bind (wpS_mono (wpS_forRange (I:=λx c a=>a=st/\c=(none,x)/\x<=2) (Q:=λc a=>a=st/\c=(none,2)) ?s1 ?f1 ⟨rfl,rfl,by omega⟩) ?p1)
 case s1 =>
  rintro x c a m k ⟨rfl,rfl,f⟩
  try dsimp only
  refine wpS_bind (j5 L e (by omega) (by omega) ?_);have:x=1∨x=2:=by omega
  rcases this with rfl |rfl
  ·rw[show lo+1-1=lo by omega,show O.blt (KX kf (arrOf a) (lo+1)) (KX kf (arrOf a) lo)=false from KeyOrd.klt_asymm u];exact wpS_pure ⟨rfl,rfl,by omega⟩
  rw[show lo+2-1=lo+1 by omega,d.resolve_left (by omega)];exact wpS_pure ⟨rfl,rfl⟩
 case f1 =>
  rintro c a ⟨rfl,rfl,f⟩;exact⟨rfl,by rw[show max 1 b=2 by omega]⟩
 case p1 =>
  rintro c a ⟨rfl,rfl⟩
  try dsimp only
  split
  ·exact wpS_pure h
  rw[if_pos (by decide)];refine wpS_bind (j5 L e (by omega) (by omega) ?_);rw[show lo+2-1=lo+1 by omega,u];exact wpS_pure h
theorem AE {xs:Array Keyed}{a d:Nat}(f:a<xs.size)(hd:d<=a)(k:Nat):KX kf (bubble xs a d) k=if k=a-d then KX kf xs a else if a-d<k/\k<=a then KX kf xs (k-1) else KX kf xs k:=by
 have e:=getElem?_bubble f d hd k;split
 ·rename_i b;rw[if_pos b] at e;exact wS e
 rename_i b;rw[if_neg b] at e;split
 ·rename_i c;rw[if_pos c] at e;exact wS e
 rename_i c;rw[if_neg c] at e;exact wS e
theorem gE (L:uh prog w A E s kd O kf G){lo n ok:Nat}{st0 st:SortSt}{Q:Bool->SortSt->Prop}(F:Sg G kd lo (lo+n) st0 st)(H:lo+n<=(arrOf st0).size)(Hq:ok<=n)(B:Mo kf (arrOf st) lo (lo+ok))
  (h:∀ d,Sg G kd lo (lo+n) st0 d->Mo kf (arrOf d) lo (lo+n)->Q true d):wpS (model prog w) A E s (tX lo n ok) Q st:=by
 refine wpS_bind (wpS_mono (wpS_forRange (I:=λk c d=>c=(none,())/\Sg G kd lo (lo+n) st0 d/\Mo kf (arrOf d) lo (lo+min k n)) (Q:=λc d=>c=(none,())/\Sg G kd lo (lo+n) st0 d/\Mo kf (arrOf d) lo (lo+n)) ?s1 ?f1 ⟨rfl,F,λi j z y D=>?i1⟩) ?p1)
 case i1 =>
  by_cases e:j<lo+ok
  ·exact B i j z y e
  have:i=j:=by omega
  subst this;exact KeyOrd.kle_refl _
 case f1 =>
  rintro c d ⟨K,o,m⟩;refine⟨K,o,?_⟩;rwa [show min (max (max ok 1) n) n=n by omega] at m
 case p1 =>
  rintro c d ⟨rfl,o,m⟩;exact wpS_pure (h d o m)
 case s1 =>
  rintro k c d C J ⟨rfl,o,m⟩;rw[show min k n=k by omega] at m
  try dsimp only
  refine wpS_bind (wpS_mono (wpS_forRange (I:=λx c f=>f=d/\∃ l r,c=(none,l,r)/\l<=r/\r<=k/\r-l<=k-x/\(∀ i,i<l->O.kle (KX kf (arrOf d) (lo+i)) (KX kf (arrOf d) (lo+k)))/\∀ i,r<=i->i<k->O.klt (KX kf (arrOf d) (lo+k)) (KX kf (arrOf d) (lo+i)))
   (Q:=λc f=>f=d/\∃ l r,c=(none,l,r)/\l<=k/\(∀ i,i<l->O.kle (KX kf (arrOf d) (lo+i)) (KX kf (arrOf d) (lo+k)))/\∀ i,l<=i->i<k->O.klt (KX kf (arrOf d) (lo+k)) (KX kf (arrOf d) (lo+i))) ?s2 ?f2 ⟨rfl,0,k,rfl,by omega,by omega,by omega,λi P=>by omega,λi a b=>by omega⟩) ?p2)
  case f2 =>
   rintro c f ⟨rfl,l,r,rfl,z,y,D,p,t⟩;exact⟨rfl,l,r,rfl,by omega,p,λi v u=>t i (by omega) u⟩
  case s2 =>
   rintro x c f _ R ⟨rfl,l,r,rfl,z,y,D,p,t⟩
   try dsimp only
   by_cases e:l≥r
   ·rw[if_pos e];exact wpS_pure ⟨rfl,l,r,rfl,by omega,p,λi v u=>t i (by omega) u⟩
   rw[if_neg e];refine wpS_bind (j5 L o (by omega) (by omega) ?_);clear H Hq C J;have m1:l<=(l+r) / 2:=by omega
   have m2:(l+r) / 2<r:=by omega
   generalize (l+r) / 2=md at *
   cases hb:O.blt (KX kf (arrOf f) (lo+k)) (KX kf (arrOf f) (lo+md)) with
   |true=>exact wpS_pure ⟨rfl,l,md,rfl,m1,by omega,by omega,p,λi v u=>KeyOrd.klt_of_klt_of_kle hb (m _ _ (by omega) (by omega) (by omega))⟩
   |false=>exact wpS_pure ⟨rfl,md+1,r,rfl,m2,y,by omega,λi v=>KeyOrd.kle_trans (m _ _ (by omega) (by omega) (by omega)) (show O.kle _ _ from hb),t⟩
  case p2 =>
   rintro c f ⟨rfl,l,r,rfl,z,p,t⟩
   try dsimp only
   have g:lo+k<(arrOf f).size:=by rw[o.size];omega
   refine wpS_bind (AM (wpS_pure ⟨rfl,o.set (bubble_perm _ _ _) (λq hq=>?_),?_⟩))
   ·rw[getElem?_bubble g _ (by omega),if_neg (by rcases hq with hq |hq<;>omega),if_neg (by rcases hq with hq |hq<;>omega)]
   rw[show min (k+1) n=k+1 by omega];intro i j v u S;show O.kle (KX kf (bubble (arrOf f) (lo+k) (lo+k-(lo+l))) i) (KX kf (bubble (arrOf f) (lo+k) (lo+k-(lo+l))) j);rw[AE g (by omega),AE g (by omega),show lo+k-(lo+k-(lo+l))=lo+l by omega];have up:∀ q,lo<=q->q<lo+l->O.kle (KX kf (arrOf f) q) (KX kf (arrOf f) (lo+k)):=λq N M=>by have:=p (q-lo) (by omega);rwa [show lo+(q-lo)=q by omega] at this
   have dn:∀ q,lo+l<=q->q<lo+k->O.klt (KX kf (arrOf f) (lo+k)) (KX kf (arrOf f) q):=λq N M=>by have:=t (q-lo) (by omega) (by omega);rwa [show lo+(q-lo)=q by omega] at this
   clear H Hq C J g p t F o B h
   repeat' split
   all_goals first
    |(exfalso;omega)
    |exact KeyOrd.kle_refl _
    |exact up _ (by omega) (by omega)
    |exact KeyOrd.kle_of_klt (dn _ (by omega) (by omega))
    |exact m _ _ (by omega) (by omega) (by omega)
theorem writes:∀ (m:List Keyed) (xs:Array Keyed) (b o:Nat),b+o+m.length<=xs.size->((m.zipIdx o).foldl (λa (c:Keyed×Nat)=>a.setIfInBounds (b+c.2) c.1) xs).toList=xs.toList.take (b+o)++(m++xs.toList.drop (b+o+m.length))
 |[],xs,b,o,h=>by simp
 |p::m,xs,b,o,h=>by
  rw[length_cons] at h;have e:=writes m (xs.setIfInBounds (b+o) p) b (o+1) (by rw[Array.size_setIfInBounds];omega);rw[zipIdx_cons,foldl_cons];show ((m.zipIdx (o+1)).foldl _ (xs.setIfInBounds (b+o) p)).toList=_;rw[e,Array.toList_setIfInBounds,← add_assoc,length_cons];have d:(xs.toList.set (b+o) p).take (b+o+1)=xs.toList.take (b+o)++[p]:=by rw[List.take_succ,List.take_set_of_le (le_refl _),getElem?_set_self (by simpa using (by omega:b+o<xs.size))];rfl
  have f:(xs.toList.set (b+o) p).drop (b+o+1+m.length)=xs.toList.drop (b+o+(m.length+1)):=by rw[List.drop_set_of_lt (by omega)];congr 1;omega
  rw[d,f];simp
end
section
variable {prog:Program}{w:World}{A:Around}{E:GW}{s:Shared}{kd:SortKind}{O:KeyOrd}{kf:Value->O.α}{G:Keyed->Prop}
theorem AL {st a:SortSt}{Q:PUnit->SortSt->Prop}(q:Q ⟨⟩ a):wpS (model prog w) A E s (set a:StateT SortSt Sem PUnit) Q st:=by unfold wpS;rw[StateT.run_set];exact wpAny_pure ⟨rfl,q⟩
theorem rn (L:uh prog w A E s kd O kf G){st:SortSt}{d g:Nat}{X Y:List Keyed}{Q:Bool->SortSt->Prop}(M:kindOf st=kd)(n:∀ x∈(arrOf st).toList,G x)(hf:failedOf st=none)(Na : 2<=gallopOf st)
  (p:pendingOf st = #[(0,32,d),(32,32,g)]) (e:(arrOf st).toList=X++Y) (f:X.length=32) (H:Y.length=32) (J:X.Pairwise (IT O kf)) (D:Y.Pairwise (IT O kf))
  (o:∀ i (h:i<32),O.blt (kf (X[i]'(by omega)).1) (kf (Y[i]'(by omega)).1)=true) (N:∀ i (h:i+1<32),O.blt (kf (Y[i]'(by omega)).1) (kf (X[i+1]'(by omega)).1)=true)
  (h:∀ q,failedOf q=none->(pendingOf q).size=1->Res O kf (X++Y) (arrOf q).toList->Q true q) :
  wpS (model prog w) A E s (mergeAt' 0) Q st:=by
 have I:(arrOf st).size=32+32:=by have:=congrArg List.length e;simpa [f,H] using this
 have Vg:∀ j (hh:j<(arrOf st).size),(arrOf st)[j]=(X++Y)[j]'(by rw[List.length_append];omega):=λj hh=>by
  have h2:(arrOf st)[j]=(arrOf st).toList[j]'(by simpa using hh):=by simp
  rw[h2];congr 1
 have y:∀ j (c:j<32),(arrOf st)[j]'(by omega)=X[j]'(by omega):=λj c=>by rw[Vg,List.getElem_append_left]
 have B:∀ j (c:j<32),(arrOf st)[32+j]'(by omega)=Y[j]'(by omega):=λj c=>by rw[Vg,List.getElem_append_right (by omega)];congr 1;omega
 have gd:∀ j (c:j<(arrOf st).size),G (arrOf st)[j]:=λj c=>n _ (getElem_mem_toList c);refine wpS_bind (wpS_get ?_);rw[show (sortPriv% PySem.Builtin.SortState.pending) st=pendingOf st from rfl,p,show (#[(0,32,d),(32,32,g)]:Array (Nat×Nat×Nat))[0]?=some (0,32,d) from rfl,show (#[(0,32,d),(32,32,g)]:Array (Nat×Nat×Nat))[0+1]?=some (32,32,g) from rfl];dsimp only;refine wpS_bind (AL ?_);refine wpS_bind (cj (show 32<(arrOf st).size by omega) ?_);have V:(arrOf st)[32]'(by omega)=Y[0]'(by omega):=B 0 (by omega);refine wpS_bind (vL L (by exact M) (gd 32 (by omega)) n (by show 0+32<=(arrOf st).size;omega) (by omega) (λj=>if c : 0+j<(arrOf st).size then Og O kf false ((arrOf st)[32]'(by omega)) (arrOf st)[0+j] else false) (λj c _=>by rw[dif_pos c]) (.inl ⟨rfl,rfl,?_,?_⟩) ?_)
 ·rw[dif_pos (by omega),V];unfold Og;rw[if_neg (by decide)];have:=KeyOrd.klt_asymm (o 0 (by omega));rw[show (arrOf st)[0+0]'(by omega)=X[0]'(by omega) from y 0 (by omega)];rw[show O.blt (kf (Y[0]'(by omega)).1) (kf (X[0]'(by omega)).1)=false from this];rfl
 ·rw[dif_pos (by omega),V];unfold Og;rw[if_neg (by decide)];simp only[zero_add];rw[show (arrOf st)[1]'(by omega)=X[1]'(by omega) from y 1 (by omega),show O.blt (kf (Y[0]'(by omega)).1) (kf (X[1]'(by omega)).1)=true from N 0 (by omega)];rfl
 try dsimp only
 rw[if_neg (by simp)];refine wpS_bind (cj (show 0+1+(32-1)-1<(arrOf st).size by omega) ?_);have P:(arrOf st)[0+1+(32-1)-1]'(by omega)=X[32-1]'(by omega):=by have:=y (32-1) (by omega);rw[← this]
 refine wpS_bind (vL L (by exact M) (gd _ (by omega)) n (by show 32+32<=(arrOf st).size;omega) (by omega) (λj=>if c : 32+j<(arrOf st).size then Og O kf true ((arrOf st)[0+1+(32-1)-1]'(by omega)) (arrOf st)[32+j] else false) (λj c _=>by rw[dif_pos c]) (.inr ⟨rfl,rfl,?_,?_⟩) ?_)
 ·rw[dif_pos (by omega),P];unfold Og;rw[if_pos rfl,B (32-1) (by omega)];exact KeyOrd.klt_asymm (o (32-1) (by omega))
 ·rw[dif_pos (by omega),P];unfold Og;rw[if_pos rfl,B (32-2) (by omega)];have:=N (32-2) (by omega);simp only[show 32-2+1=32-1 by omega] at this;exact this
 try dsimp only
 rw[if_neg (by simp),if_pos (by omega)];have ex:((arrOf st).extract (0+1) 32).toList=X.drop 1:=by rw[toList_extract,List.extract_eq_drop_take,e,List.drop_append_of_le_length (by omega),List.take_append_of_le_length (by rw[length_drop];omega)];exact take_of_length_le (by rw[length_drop];omega)
 have C:((arrOf st).extract 32 (32+(32-1))).toList=Y.take (32-1):=by rw[toList_extract,List.extract_eq_drop_take,e,List.drop_append,drop_eq_nil_of_le (by omega),nil_append,f,sub_self,drop_zero,Nat.add_sub_cancel_left]
 have lx:((arrOf st).extract (0+1) 32).size=32-1:=by rw[← length_toList,ex,length_drop,f]
 have ly:((arrOf st).extract 32 (32+(32-1))).size=32-1:=by rw[← length_toList,C,length_take,H];omega
 have S:∀ i (m:i<32-1),((arrOf st).extract (0+1) 32)[i]'(by omega)=X[i+1]'(by omega):=λi m=>by rw[Array.getElem_extract,← y (i+1) (by omega)];congr 1;omega
 have yb:∀ i (m:i<32-1),((arrOf st).extract 32 (32+(32-1)))[i]'(by omega)=Y[i]'(by omega):=λi m=>by rw[Array.getElem_extract];exact B i (by omega)
 refine wpS_bind (rm (a:=(arrOf st).extract (0+1) 32) (b:=(arrOf st).extract 32 (32+(32-1))) L (by exact M) (λz hz=>by rw[ex] at hz;exact n z (by rw[e];simp[mem_of_mem_drop hz])) (λz hz=>by rw[C] at hz;exact n z (by rw[e];simp[mem_of_mem_take hz])) (by omega) (by omega)
  (by rw[ex];exact J.sublist (List.drop_sublist _ _)) (by rw[C];exact D.sublist (List.take_sublist _ _)) (λi m=>by rw[S i (by omega),yb i (by omega)];exact N i (by omega)) (λi m=>by rw[S i (by omega),yb (i+1) (by omega)];exact KeyOrd.klt_asymm (o (i+1) (by omega))) (by exact Na) λr k=>?_)
 refine wpS_bind (wpS_modify (wpS_bind (wpS_get (wpS_pure ?_))));rw[ex,C] at k;have W:r.toList.length=(32-1)+(32-1):=by rw[k.1.length_eq,List.length_append,length_drop,length_take,f,H];omega
 have T:=writes r.toList (arrOf st) (0+1) 0 (by rw[W,I];omega);have e1:(arrOf st).toList.take (0+1)=X.take 1:=by rw[e,List.take_append_of_le_length (by omega)]
 have e2:(arrOf st).toList.drop (0+1+((32-1)+(32-1)))=Y.drop (32-1):=by rw[e,List.drop_append,drop_eq_nil_of_le (by omega),nil_append,f]
 rw[Nat.add_zero,W,e1,e2] at T;show Q (failedOf st).isNone _;rw[hf];have Tu:(((#[(0,32,d),(32,32,g)]:Array (Nat×Nat×Nat)).setIfInBounds 0 (0,32+32,d)).eraseIdxIfInBounds (0+1)).size=1:=by rw[← length_toList,Array.toList_eraseIdxIfInBounds,Array.toList_setIfInBounds];rfl
 refine h _ hf Tu ?_;show Res O kf (X++Y) (List.foldl (λa (x:Keyed×Nat)=>a.setIfInBounds (0+1+x.2) x.1) (arrOf st) r.toList.zipIdx).toList;rw[T]
 have t:∀ {Z:List Keyed},Z.Pairwise (IT O kf)->∀ a b (R:a<Z.length) (hb:b<Z.length),a<=b->IT O kf Z[a] Z[b]:=by
  intro Z sZ a b R hb UO;rcases lt_or_ge a b with Il |RS
  ·exact pairwise_iff_getElem.mp sZ a b R hb Il
  have e:a=b:=by omega
  subst e;exact KeyOrd.kle_refl _
 have F:∀ z∈X++Y,IT O kf (X[0]'(by omega)) z/\IT O kf z (Y[32-1]'(by omega)):=λz hz=>by
  rcases mem_append.mp hz with hz |hz
  ·obtain⟨j,c,rfl⟩:=getElem_of_mem hz;exact⟨t J 0 j (by omega) c (zero_le _),iu (t J j (32-1) c (by omega) (by omega)) (KeyOrd.kle_of_klt (o (32-1) (by omega)))⟩
  obtain⟨j,c,rfl⟩:=getElem_of_mem hz;exact⟨iu (KeyOrd.kle_of_klt (o 0 (by omega))) (t D 0 j (by omega) c (zero_le _)),t D j (32-1) c (by omega) (by omega)⟩
 have U:∀ z∈r.toList,z∈X++Y:=λz hz=>by
  rcases mem_append.mp (k.1.mem_iff.mp hz) with hz |hz
  ·exact mem_append_left _ (mem_of_mem_drop hz)
  exact mem_append_right _ (mem_of_mem_take hz)
 have x1:X.take 1=[X[0]'(by omega)]:=by
  cases X with
  |nil=>simp at f
  |cons a l=>rfl
 have y1:Y.drop (32-1)=[Y[32-1]'(by omega)]:=by rw[drop_eq_getElem_cons (by omega),drop_eq_nil_of_le (by omega)]
 refine⟨?_,?_⟩
 ·refine List.Perm.trans (List.Perm.append_left _ (List.Perm.append_right _ k.1)) ?_;have q1:X.take 1++((X.drop 1++Y.take (32-1))++Y.drop (32-1))=(X.take 1++X.drop 1)++(Y.take (32-1)++Y.drop (32-1)):=by simp only[List.append_assoc]
  rw[q1,take_append_drop,take_append_drop]
 rw[x1,y1];refine pairwise_append.mpr ⟨List.pairwise_singleton _ _,pairwise_append.mpr ⟨k.2,List.pairwise_singleton _ _,λu K v hv=>?_⟩,λu K v hv=>?_⟩
 ·rw[mem_singleton.mp hv];exact(F u (U u K)).2
 rw[mem_singleton.mp K];rcases mem_append.mp hv with hv |hv
 ·exact(F v (U v hv)).1
 rw[mem_singleton.mp hv];exact(F _ (mem_append_right _ (getElem_mem _))).1
end
abbrev w9:StateT SortSt Sem Unit:=sortPriv% PySem.Builtin.sortRuns
abbrev bY:Nat->Nat->Nat->Nat:=sortPriv% PySem.Builtin.minRun
section
variable {prog:Program}{w:World}{A:Around}{E:GW}{s:Shared}{kd:SortKind}{O:KeyOrd}{kf:Value->O.α}{G:Keyed->Prop}
def Spec {α:Type}(lt : α->α->Bool)(d:List α):Prop:=∃ a b r,d=a::b::r/\lt a b=true/\(∀ c∈r.head?,lt c b=true)/\(d.length<64∨d.length=64/\∃ a b c r,d.drop 32=a::b::c::r/\lt a b=true/\lt c b=true/\∃ X Y:List α,X.length=32/\Y.length=32 /\
 (d.take 32).Perm X/\(d.drop 32).Perm Y/\X.Pairwise (λa b=>lt b a=false)/\Y.Pairwise (λa b=>lt b a=false)/\(∀ p∈X.zip Y,lt p.1 p.2=true)/\∀ p∈Y.zip X.tail,lt p.1 p.2=true)
def iQ (kf:Value->O.α)(xs:Array Keyed):List O.α:=xs.toList.map λp=>kf p.1
theorem jX {xs:Array Keyed}{i:Nat}{a:O.α}(h:(iQ kf xs)[i]?=some a):KX kf xs i=a:=by unfold iQ at h;rw[getElem?_map] at h;obtain⟨p,b,rfl⟩:=map_eq_some_iff.mp h;unfold KX;rw[show xs[i]?=some p by simpa using b]
theorem t6 {xs:Array Keyed}{lo n:Nat}(h:Mo kf xs lo (lo+n))(d:lo+n<=xs.size):((xs.toList.drop lo).take n).Pairwise (IT O kf):=by rw[pairwise_iff_getElem];intro i j b a c;rw[length_take,length_drop,length_toList] at b a;have q:=h (lo+i) (lo+j) (by omega) (by omega) (by omega);rw[lH (by omega),lH (by omega)] at q;show O.kle _ _;simpa using q
theorem zU {a b:O.α}(c:O.kle a b)(d:O.kle b a):a=b:=O.total _ _ d c
structure O5 (G:Keyed->Prop) (kd:SortKind) (kf:Value->O.α) (st G8:SortSt) (p:Array (Nat×Nat×Nat)):Prop where
 kind:kindOf G8=kd
 good:∀ x∈(arrOf G8).toList,G x
 fail:failedOf G8=none
 Pz : 2<=gallopOf G8
 perm:(arrOf G8).Perm (arrOf st)
 pend:pendingOf G8=p
 tk:((arrOf G8).toList.take 32).Perm ((arrOf st).toList.take 32)
 ts:((arrOf G8).toList.take 32).Pairwise (IT O kf)
theorem rG {xs ys:Array Keyed}{lo n:Nat}(f:ys.Perm xs)(h:lo+n<=xs.size)(same:∀ k,(k<lo∨lo+n<=k)->ys[k]?=xs[k]?):ys.toList.take lo=xs.toList.take lo/\ys.toList.drop (lo+n)=xs.toList.drop (lo+n)/\((ys.toList.drop lo).take n).Perm ((xs.toList.drop lo).take n):=by
 have b:ys.toList.take lo=xs.toList.take lo:=by
  apply ext_getElem?;intro i;rw[getElem?_take,getElem?_take];split
  ·rename_i g;simpa using same i (.inl g)
  rfl
 have c:ys.toList.drop (lo+n)=xs.toList.drop (lo+n):=by apply ext_getElem?;intro i;rw[getElem?_drop,getElem?_drop];simpa using same (lo+n+i) (.inr (by omega))
 have e:∀ a:Array Keyed,a.toList=a.toList.take lo++((a.toList.drop lo).take n++a.toList.drop (lo+n)):=λa=>by rw[← List.drop_drop,take_append_drop,take_append_drop]
 have d:=perm_iff_toList_perm.mp f;rw[e ys,e xs,b,c] at d;exact⟨b,c,(List.perm_append_right_iff _).mp ((List.perm_append_left_iff _).mp d)⟩
theorem me {xs:Array Keyed}{lo:Nat}(u:O.blt (KX kf xs lo) (KX kf xs (lo+1))=true):Mo kf xs lo (lo+2):=λi j b c a=>by
 have:i=j∨i=lo/\j=lo+1:=by omega
 rcases this with rfl |⟨rfl,rfl⟩
 ·exact KeyOrd.kle_refl _
 exact KeyOrd.kle_of_klt u
theorem nZ (L:uh prog w A E s kd O kf G){st:SortSt}{Q:Unit->SortSt->Prop}(hk:kindOf st=kd)(hg:∀ x∈(arrOf st).toList,G x)(hf:failedOf st=none)(R:pendingOf st = #[])(Na : 2<=gallopOf st)(sp:Spec O.blt (iQ kf (arrOf st)))
  (h:∀ d,(arrOf d).Perm (arrOf st)->failedOf d=none->Mo kf (arrOf d) 0 (arrOf st).size->Q () d):wpS (model prog w) A E s w9 Q st:=by
 obtain⟨a,b,r,P,F,d0,sp⟩:=sp;have u:(iQ kf (arrOf st)).length=(arrOf st).size:=by unfold iQ;rw[length_map,length_toList]
 have n2 : 2<=(arrOf st).size:=by rw[← u,P];simp
 have F:O.blt (KX kf (arrOf st) 0) (KX kf (arrOf st) 1)=true:=by rw[jX (i:=0) (by rw[P];rfl),jX (i:=1) (by rw[P];rfl)];exact F
 have d0:(arrOf st).size=2∨O.blt (KX kf (arrOf st) 2) (KX kf (arrOf st) 1)=true:=by
  cases r with
  |nil=>exact .inl (by rw[← u,P];rfl)
  |cons c r=>exact .inr (by rw[jX (i:=2) (by rw[P];rfl),jX (i:=1) (by rw[P];rfl)];exact d0 c rfl)
 rw[u] at sp;have S0:∀ lo o,Sg G kd lo o st st:=λlo o=>⟨hk,hg,Array.Perm.refl _,rfl,rfl,rfl,λ_ _=>rfl⟩;refine wpS_bind (wpS_get ?_);dsimp only;rcases sp with sp |⟨Xa,T,b1,c1,r1,Xb,u1,d1,X,Y,lX,lY,pX,pY,sX,sY,xy,yx⟩
 ·refine wpS_bind (wpS_mono (wpS_forRange (I:=λx c d=>x=0/\c=(none,0)/\d=st∨0<x/\c=(none,(arrOf st).size)/\(arrOf d).Perm (arrOf st)/\failedOf d=none/\Mo kf (arrOf d) 0 (arrOf st).size/\(pendingOf d).size<=1)
   (Q:=λc d=>c=(none,(arrOf st).size)/\(arrOf d).Perm (arrOf st)/\failedOf d=none/\Mo kf (arrOf d) 0 (arrOf st).size/\(pendingOf d).size<=1) ?s1 ?f1 (.inl ⟨rfl,rfl,rfl⟩)) ?p1)
  case f1 =>
   rintro c d (⟨t,_⟩ |⟨_,v⟩)
   ·have t:max 0 (arrOf st).size=0:=t;omega
   exact v
  case p1 =>
   rintro c d ⟨rfl,T,a2,a3,a4⟩;dsimp only;refine wpS_bind (fQ (show 0<(arrOf st).size by omega) ?_);refine wpS_bind (wpS_get ?_);rw[show (sortPriv% PySem.Builtin.SortState.pending) d=pendingOf d from rfl,if_pos a4];exact wpS_pure (wpS_pure (h d T a2 a3))
  case s1 =>
   rintro x c d _ hx (⟨rfl,rfl,rfl⟩ |⟨_,rfl,T,a2,a3,a4⟩)
   ·dsimp only;rw[if_neg (by omega)]
    refine wpS_bind (mB L hk hg (by show 0+((arrOf d).size-0)<=(arrOf d).size;omega) (by show 2<=(arrOf d).size-0;omega) (by simpa using F) (by
     rcases d0 with d0 |d0
     ·exact .inl (by show (arrOf d).size-0=2;omega)
     exact .inr (by simpa using d0)) ?_)
    dsimp only
    have V:bY (arrOf d).size (arrOf d).size 0=(arrOf d).size:=by
     cases hsz:(arrOf d).size with
     |zero=>omega
     |succ k=>exact if_pos (by omega)
    have done:∀ (e:SortSt) (n:Nat),n=(arrOf d).size->Sg G kd 0 (0+n) d e->Mo kf (arrOf e) 0 (0+n)->∀ B,arrOf B=arrOf e->failedOf B=failedOf e->pendingOf B=(pendingOf e).push (0,n,0)->0<0+1/\((none:Option Unit),0+n)=(none,(arrOf d).size)/\(arrOf B).Perm (arrOf d)/\failedOf B=none/\Mo kf (arrOf B) 0 (arrOf d).size/\(pendingOf B).size<=1:=λe n hn g ha B U e2 e3=>by refine⟨by omega,by rw[hn,zero_add],by rw[U];exact g.perm,by rw[e2,g.fail];exact hf,by rw[U,← hn];simpa using ha,by rw[e3,g.pend,R];exact le_refl _⟩
    by_cases v : 2<bY (arrOf d).size (arrOf d).size 0
    ·rw[if_pos v];refine wpS_bind (wpS_lift (wpAny_rule ⟨rfl,?_⟩));refine wpS_bind (gE (n:=min ((arrOf d).size-0) (bY (arrOf d).size (arrOf d).size 0)) L (S0 0 _) (by rw[V];omega) (by rw[V];omega) (me (by simpa using F)) λe f J=>?_);rw[if_neg (by decide)];refine wpS_bind (wpS_get ?_);have D:(pendingOf e).back?=none:=by rw[f.pend,R];rfl
     rw[show (sortPriv% PySem.Builtin.SortState.pending) e=pendingOf e from rfl,D];dsimp only;exact wpS_bind (wpS_modify (wpS_pure (.inr (done e _ (by rw[V];omega) f J _ rfl rfl rfl))))
    rw[if_neg v];refine wpS_bind (wpS_get ?_);have D:(pendingOf d).back?=none:=by rw[R];rfl
    rw[show (sortPriv% PySem.Builtin.SortState.pending) d=pendingOf d from rfl,D];dsimp only;exact wpS_bind (wpS_modify (wpS_pure (.inr (done d 2 (by rw[V] at v;omega) (S0 _ _) (me (by simpa using F)) _ rfl rfl rfl))))
   dsimp only;rw[if_pos (le_refl _)];exact wpS_pure ⟨rfl,T,a2,a3,a4⟩
 have Yv:bY (arrOf st).size (arrOf st).size 0=32:=by rw[Xa];rfl
 refine wpS_bind (wpS_mono (wpS_forRange (I:=λx c d=>x=0/\c=(none,0)/\d=st∨x=1/\c=(none,32)/\O5 G kd kf st d #[(0,32,0)]/\(arrOf d).toList.drop 32=(arrOf st).toList.drop 32∨2<=x/\c=(none,64)/\∃ q,O5 G kd kf st d #[(0,32,q),(32,32,0)]/\((arrOf d).toList.drop 32).Perm ((arrOf st).toList.drop 32)/\((arrOf d).toList.drop 32).Pairwise (IT O kf))
  (Q:=λc d=>c=(none,64)/\∃ q,O5 G kd kf st d #[(0,32,q),(32,32,0)]/\((arrOf d).toList.drop 32).Perm ((arrOf st).toList.drop 32)/\((arrOf d).toList.drop 32).Pairwise (IT O kf)) ?s1 ?f1 (.inl ⟨rfl,rfl,rfl⟩)) ?p1)
 case f1 =>
  rintro c d (⟨t,_⟩ |⟨t,_⟩ |⟨_,v⟩)
  ·have t:max 0 (arrOf st).size=0:=t;omega
  ·have t:max 0 (arrOf st).size=1:=t;omega
  exact v
 case s1 =>
  rintro x c d _ hx (⟨rfl,rfl,rfl⟩ |⟨rfl,rfl,H,hd⟩ |⟨v,rfl,q,H,hd⟩)
  ·dsimp only;rw[if_neg (by omega)];refine wpS_bind (mB L hk hg (by show 0+((arrOf d).size-0)<=(arrOf d).size;omega) (by show 2<=(arrOf d).size-0;omega) (by simpa using F) (.inr (by simpa using d0.resolve_left (by omega))) ?_);dsimp only;rw[if_pos (show 2<bY (arrOf d).size (arrOf d).size 0 by omega)];refine wpS_bind (wpS_lift (wpAny_rule ⟨rfl,?_⟩));refine wpS_bind (gE (n:=min ((arrOf d).size-0) (bY (arrOf d).size (arrOf d).size 0)) L (S0 0 _) (by omega) (by omega) (me (by simpa using F)) λe f J=>?_);rw[if_neg (by decide)];refine wpS_bind (wpS_get ?_);have D:(pendingOf e).back?=none:=by rw[f.pend,R];rfl
   rw[show (sortPriv% PySem.Builtin.SortState.pending) e=pendingOf e from rfl,D];dsimp only;have C:min ((arrOf d).size-0) (bY (arrOf d).size (arrOf d).size 0)=32:=by omega
   have ap:(pendingOf e).push (0,min ((arrOf d).size-0) (bY (arrOf d).size (arrOf d).size 0),0) = #[(0,32,0)]:=by rw[f.pend,R,C];rfl
   have ec:((none:Option Unit),0+min ((arrOf d).size-0) (bY (arrOf d).size (arrOf d).size 0))=(none,32):=by rw[C]
   rw[C] at f J;have RL:=f.size;obtain⟨_,q2,K⟩:=rG f.perm (by omega) f.same;have S:=t6 J (by omega);rw[drop_zero] at K S;rw[drop_zero] at K;exact wpS_bind (wpS_modify (wpS_pure (.inr (.inl ⟨rfl,ec,⟨f.kind,f.good,f.fail.trans hf,by show 2<=gallopOf e;rw[f.Pz];exact Na,f.perm,ap,K,S⟩,by simpa using q2⟩))))
  ·dsimp only;have Xc:(arrOf d).size=(arrOf st).size:=H.perm.size_eq
   have W:∀ {k:Nat}{z:O.α},(T::b1::c1::r1)[k]?=some z->KX kf (arrOf d) (32+k)=z:=λ{k z} hz=>by
    have U:(arrOf d).toList[32+k]?=(arrOf st).toList[32+k]?:=by rw[← getElem?_drop,← getElem?_drop,hd]
    rw[wS (ys:=arrOf st) (j:=32+k) (by simpa using U)];exact jX (by rw[← getElem?_drop,Xb];exact hz)
   have u':O.blt (KX kf (arrOf d) 32) (KX kf (arrOf d) (32+1))=true:=by have:=W (k:=0) rfl;rw[Nat.add_zero] at this;rw[this,W (k:=1) rfl];exact u1
   rw[if_neg (show ¬ 32≥(arrOf st).size by omega)];refine wpS_bind (mB L H.kind H.good (by show 32+((arrOf st).size-32)<=(arrOf d).size;omega) (by show 2<=(arrOf st).size-32;omega) u' (.inr (by rw[W (k:=2) rfl,W (k:=1) rfl];exact d1)) ?_);dsimp only;rw[if_pos (show 2<bY (arrOf st).size (arrOf st).size 0 by omega)];refine wpS_bind (wpS_lift (wpAny_rule ⟨rfl,?_⟩));refine wpS_bind (gE (n:=min ((arrOf st).size-32) (bY (arrOf st).size (arrOf st).size 0)) (st0:=d) L ⟨H.kind,H.good,Array.Perm.refl _,rfl,rfl,rfl,λ_ _=>rfl⟩ (by omega) (by omega) (me u') λe f J=>?_);rw[if_neg (by decide)];refine wpS_bind (wpS_get ?_);have C:min ((arrOf st).size-32) (bY (arrOf st).size (arrOf st).size 0)=32:=by omega
   have D:(pendingOf e).back?=some (0,32,0):=by rw[f.pend,H.pend];rfl
   rw[show (sortPriv% PySem.Builtin.SortState.pending) e=pendingOf e from rfl,D];dsimp only;refine wpS_bind (fQ (show 0<(arrOf st).size by omega) ?_);refine wpS_bind (wpS_get ?_);rw[show (sortPriv% PySem.Builtin.SortState.pending) e=pendingOf e from rfl,if_neg (show ¬ (pendingOf e).size > 1 by rw[f.pend,H.pend];decide)];refine wpS_pure ?_;dsimp only;have ap:∀ q,((pendingOf e).modify ((pendingOf e).size-1) λx=>(x.1,x.2.1,q)).push (32,min ((arrOf st).size-32) (bY (arrOf st).size (arrOf st).size 0),0) = #[(0,32,q),(32,32,0)]:=λq=>by rw[f.pend,H.pend,C];rfl
   have ec:((none:Option Unit),32+min ((arrOf st).size-32) (bY (arrOf st).size (arrOf st).size 0))=(none,64):=by rw[C]
   rw[C] at f J;have RL:=f.size;obtain⟨q1,_,K⟩:=rG f.perm (by omega) f.same;have S:=t6 J (by omega);have full:∀ zs:Array Keyed,zs.size=64->(zs.toList.drop 32).take 32=zs.toList.drop 32:=λzs hz=>take_of_length_le (by rw[length_drop,length_toList];omega);rw[full _ (by omega),full _ (by omega),hd] at K;rw[full _ (by omega)] at S;exact wpS_bind (wpS_modify (wpS_bind (wpS_modify (wpS_pure (.inr (.inr ⟨by omega,ec,_,⟨f.kind,f.good,f.fail.trans H.fail,by show 2<=gallopOf e;rw[f.Pz];exact H.Pz,f.perm.trans H.perm,ap _,by rw[show (arrOf e).toList.take 32=(arrOf d).toList.take 32 from q1];exact H.tk,by rw[show (arrOf e).toList.take 32=(arrOf d).toList.take 32 from q1];exact H.ts⟩,K,S⟩))))))
  dsimp only;rw[if_pos (show 64≥(arrOf st).size by omega)];exact wpS_pure ⟨rfl,q,H,hd⟩
 case p1 =>
  rintro c d ⟨rfl,q,H,hd,N1⟩;dsimp only;have Xc:(arrOf d).size=(arrOf st).size:=H.perm.size_eq
  have Vh:∀ {M N:List Keyed}{Z:List O.α},M.Perm N->(N.map λp=>kf p.1).Perm Z->M.Pairwise (IT O kf)->Z.Pairwise O.kle->M.map (λp=>kf p.1)=Z:=λ{M N Z} p1 p2 s1 s2 =>
   List.Perm.eq_of_pairwise (λ_ _ _ _=>zU) (pairwise_map.mpr s1) s2 ((p1.map _).trans p2)
  have hX:=Vh H.tk (by unfold iQ at pX;rw[← map_take] at pX;exact pX) H.ts sX;have hY:=Vh hd (by unfold iQ at pY;rw[← map_drop] at pY;exact pY) N1 sY;have l1:((arrOf d).toList.take 32).length=32:=by rw[length_take,length_toList];omega
  have l2:((arrOf d).toList.drop 32).length=32:=by rw[length_drop,length_toList];omega
  have gX:∀ i (o:i<32),kf (((arrOf d).toList.take 32)[i]'(by omega)).1=X[i]'(by omega):=λi o=>by simp only[← hX,List.getElem_map]
  have gY:∀ i (o:i<32),kf (((arrOf d).toList.drop 32)[i]'(by omega)).1=Y[i]'(by omega):=λi o=>by simp only[← hY,List.getElem_map]
  have Xd:∀ i (o:i<32),O.blt (X[i]'(by omega)) (Y[i]'(by omega))=true:=λi o=>by have:=xy _ (getElem_mem (l:=X.zip Y) (n:=i) (by rw[List.length_zip];omega));rw[List.getElem_zip] at this;exact this
  have Xe:∀ i (o:i+1<32),O.blt (Y[i]'(by omega)) (X[i+1]'(by omega))=true:=λi o=>by have:=yx _ (getElem_mem (l:=Y.zip X.tail) (n:=i) (by rw[List.length_zip,List.length_tail];omega));rw[List.getElem_zip,List.getElem_tail] at this;exact this
  refine wpS_bind (wpS_mono (wpS_forRange (I:=λy c m=>y=0/\c=(none,())/\m=d∨0<y/\c=(none,())/\failedOf m=none/\(pendingOf m).size=1/\Res O kf (arrOf d).toList (arrOf m).toList)
   (Q:=λc m=>c=(none,())/\failedOf m=none/\(pendingOf m).size=1/\Res O kf (arrOf d).toList (arrOf m).toList) ?s2 ?f2 (.inl ⟨rfl,rfl,rfl⟩)) ?p2)
  case f2 =>
   rintro c m (⟨t,_⟩ |⟨_,v⟩)
   ·have t:max 0 (arrOf st).size=0:=t;omega
   exact v
  case p2 =>
   rintro c m ⟨rfl,f2,_,r2⟩;refine wpS_pure (h m ((perm_iff_toList_perm.mpr r2.1).trans H.perm) f2 λi j _ MI hj=>?_);have Yw:(arrOf m).size=(arrOf d).size:=by have:=r2.1.length_eq;simpa using this
   rw[lH (by omega),lH (by omega)];rcases lt_or_ge i j with Il |RS
   ·have:=pairwise_iff_getElem.mp r2.2 i j (by rw[length_toList];omega) (by rw[length_toList];omega) Il;simpa [IT] using this
   obtain rfl:i=j:=by omega
   exact KeyOrd.kle_refl _
  case s2 =>
   rintro y c m _ hy (⟨rfl,rfl,rfl⟩ |⟨_,rfl,z⟩)
   ·refine wpS_bind (wpS_get ?_);rw[show (sortPriv% PySem.Builtin.SortState.pending) m=pendingOf m from rfl,H.pend,if_neg (show ¬ (#[(0,32,q),(32,32,0)]:Array (Nat×Nat×Nat)).size<=1 by show ¬ 2<=1;decide)];refine wpS_bind (rn L H.kind H.good H.fail H.Pz H.pend (take_append_drop 32 _).symm l1 l2 H.ts N1 (λi o=>by rw[gX i o,gY i o];exact Xd i o) (λi o=>by rw[gX (i+1) o,gY i (by omega)];exact Xe i o) λe f3 p3 r3=>?_);rw[take_append_drop] at r3;exact wpS_pure (.inr ⟨by omega,rfl,f3,p3,r3⟩)
   refine wpS_bind (wpS_get ?_);rw[show (sortPriv% PySem.Builtin.SortState.pending) m=pendingOf m from rfl,if_pos (Nat.le_of_eq z.2.1)];exact wpS_pure ⟨rfl,z⟩
end
def vG (prog:Program)(w:World)(e:Shared)(vs:List Value)(O:KeyOrd)(kf:Value->O.α):Prop:=∃ d:SortKind,∀ (A:Around) (E:GW) (a:Shared),(∀ b o,e.heap.get? b=some o->a.heap.get? b=some o) ->
 (2<=vs.length->∀ c:SortKind->Shared->Prop,c d a->wpAny (model prog w) A (keyKind' vs.toArray) c E a)/\uh prog w A E a d O kf (λp=>p.1∈vs)
theorem gw:∀ {vs:List Value}{p:Value×Value},p∈vs.zip vs->p.1=p.2/\p.1∈vs
 |[],_,h=>by simp at h
 |v::vs,p,h=>by
  rw[List.zip_cons_cons] at h;rcases mem_cons.mp h with e |h
  ·subst e;exact⟨rfl,by simp⟩
  obtain⟨a,b⟩:=gw h;exact⟨a,mem_cons_of_mem _ b⟩
theorem pR:∀ (vs:List Value),(vs.zip vs).map (·.2)=vs
 |[]=>rfl
 |v::vs=>by rw[List.zip_cons_cons,map_cons,pR vs]
section
variable {prog:Program}{w:World}{A:Around}{E:GW}{s:Shared}{O:KeyOrd}{kf:Value->O.α}
theorem Bw {vs:List Value}{xs:Array Keyed}(f:xs.Perm (pairsOf vs))(h:Mo kf xs 0 (pairsOf vs).size):(xs.map (·.2)).toList.Perm vs/\(xs.map (·.2)).toList.Pairwise λa b=>O.kle (kf a) (kf b):=by
 have c:=perm_iff_toList_perm.mp f;rw[pairsOf_toList] at c;refine⟨?_,?_⟩
 ·have:=c.map (·.2);rw[pR] at this;rw[Array.toList_map];exact this
 rw[Array.toList_map,pairwise_map,pairwise_iff_getElem];intro i j l k g;have e:i<xs.size:=by simpa using l
 have d:j<xs.size:=by simpa using k
 have q:=h i j (zero_le _) (Nat.le_of_lt g) (by rw[← f.size_eq];exact d);rw[lH e,lH d] at q;have m:=(gw (c.mem_iff.mp (getElem_mem_toList e))).1;have n:=(gw (c.mem_iff.mp (getElem_mem_toList d))).1;rw[m,n] at q;simpa using q
theorem sF {a:Addr}{vs:List Value}{n:Nat}{P:Fin->Shared->Prop}{k:Shared}(i:s.heap.get? a=some (seqObj "list" vs.toArray n))(y:vs.length<=sizeLine)(j:vG prog w k vs O kf)(sp:Spec O.blt (vs.map kf))(K:∀ b o,k.heap.get? b=some o->b≠a/\s.heap.get? b=some o)
  (h:∀ out:Array Value,out.toList.Perm vs->(out.toList.Pairwise λa b=>O.kle (kf a) (kf b))->P (.done (.ret .none)) { s with heap:=sortedHeap s.heap a vs out }) :
  wpAny (model prog w) A (Builtin.«list.sort» ⟨[.ref a],[]⟩) P E s:=by
 have M:a<s.heap.objs.size:=Heap.lt_size i;have v:vs.toArray.size<=sizeLine:=by simpa using y
 rw[list_sort_plain];refine wpAny_bind (listItems_at i rfl ?_);refine wpAny_bind (listUpdate_at i rfl ?_ (hsz:=v));have l:=get?_update_seq i (λ_ => #[]);refine wpAny_bind (seqEpoch_at l rfl ?_);refine wpAny_bind (wpAny_newTuple ?_);refine wpAny_bind (wpAny_newList ?_);refine wpAny_holding ?_;generalize N:(if (#[]:Array Value).size==vs.toArray.size then n else n+1)=e1 at l;have u:∀ b o,k.heap.get? b=some o->(((s.heap.update a (Obj.mapSeq λ_ => #[])).push (seqObj "tuple" vs.toArray 0)).push (seqObj "list" #[] 0)).get? b=some o:=by intro b o z;obtain⟨D,B⟩:=K b o z;refine Heap.get?_push_of_some _ (Heap.get?_push_of_some _ ?_);rw[Heap.get?_update_ne _ _ _ _ D];exact B
 have t:(((s.heap.update a (Obj.mapSeq λ_ => #[])).push (seqObj "tuple" vs.toArray 0)).push (seqObj "list" #[] 0)).get? a=some (seqObj "list" #[] e1):=Heap.get?_push_of_some _ (Heap.get?_push_of_some _ l);show wpAny (model prog w) A _ P E { s with heap:=((s.heap.update a (Obj.mapSeq λ_ => #[])).push (seqObj "tuple" vs.toArray 0)).push (seqObj "list" #[] 0) };dsimp only;have J : 2<=vs.length:=by obtain⟨a,b,r,e,_⟩:=sp;have:=congrArg List.length e;rw[length_map] at this;rw[this];simp
 have m:¬ vs.toArray.size<2:=by simp;omega
 rw[if_neg m,if_neg m];obtain⟨kd,j⟩:=j;refine wpAny_bind ((j A _ _ u).1 J _ ?_)
 refine wpAny_bind (wpAny_mono (nZ (O:=O) (kf:=kf) (kd:=kd) (st:=SortSt.mk' kd (vs.toArray.zip vs.toArray) #[] 7 none) (Q:=λ_ c=>(arrOf c).Perm (pairsOf vs)/\failedOf c=none/\Mo kf (arrOf c) 0 (pairsOf vs).size)
  (j A _ _ u).2 rfl (λx F=>?_) rfl rfl (show 2<=7 by decide) ?_ λc L G I=>⟨L,G,I⟩) ?_ λ_ _ e=>e)
 ·have q:x∈(pairsOf vs).toList:=F;rw[pairsOf_toList] at q;exact(gw q).2
 ·have:iQ kf (pairsOf vs)=vs.map kf:=by
   unfold iQ;rw[pairsOf_toList];exact(map_congr_left λp d=>by rw[(gw d).1];rfl).trans ((map_map (g:=kf) (f:=λp:Value×Value=>p.2)).symm.trans (by rw[pR]))
  show Spec O.blt (iQ kf (pairsOf vs));rw[this];exact sp
 rintro⟨⟨⟩,c⟩ R ⟨rfl,d,H,C⟩;dsimp only;obtain⟨o1,o2⟩:=Bw d C;refine wpAny_bind (seqEpoch_at t rfl ?_);refine wpAny_bind (listUpdate_at t rfl ?_ (hsz2:=by refine Nat.le_trans (Nat.le_of_eq ((Array.size_map ..).trans (d.size_eq.trans (pairsOf_size _)))) ?_;omega));rw[H];simp only[bne_self_eq_false,false_eq_true,if_false];exact wpAny_pure (h _ o1 o2)
theorem A0 {x:Value}{Q:GW}
  (h:wpAny (model prog w) A.in1 (collect x) (λvs c=>vs.length<=sizeLine/\∃ (O:KeyOrd) (kf:Value->O.α),vG prog w c vs O kf/\Spec O.blt (vs.map kf) /\
   ∀ (out:Array Value) h' ep,out.toList.Perm vs->(out.toList.Pairwise λa b=>O.kle (kf a) (kf b))->(∀ b o,c.heap.get? b=some o->h'.get? b=some o)->h'.get? c.heap.objs.size=some (seqObj "list" out ep) ->
    Q (.ref c.heap.objs.size) { c with heap:=h' }) E s):wpAny (model prog w) A (call (.builtin "sorted") [x]) Q E s:=by
 refine Calls.call_function_entry kind_sorted plain_sorted entry_sorted (args_sorted1 _) ?_;unfold Builtin.«sorted»;refine wpAny_bind (m:=checkCount "sorted" 1 1 _) (wpAny_pure ?_);refine wpAny_bind (wpAny_mono h (λvs c i=>?_) λ_ _ z=>z);obtain⟨f,O,kf,l,j,q⟩:=i;refine wpAny_bind (wpAny_newList ?_);have d:(c.heap.push (seqObj "list" vs.toArray 0)).get? c.heap.objs.size=some (seqObj "list" vs.toArray 0):=Heap.get?_push_size _ rfl;refine wpAny_bind (wpAny_holding (wpAny_call_entry slot_list_sort ⟨_,d,rfl⟩ entry_list_sort (sF d f l j (λb o e=>⟨ne_of_lt (Heap.lt_size e),Heap.get?_push_of_some _ e⟩) λout n k=>⟨_,rfl,?_⟩) (args_list_sort _)));obtain⟨ep,g⟩:=sortedHeap_at (out:=out) d
 exact wpAny_pure ⟨_,rfl,q out _ ep n k (λb o e=>by
  rw[sortedHeap_old (ne_of_lt (Heap.lt_size e)) (by rw[size_push'];exact lt_succ_of_lt (Heap.lt_size e))]
  exact Heap.get?_push_of_some _ e) g⟩
end
structure O9 where
 O:KeyOrd
 keyOf:Value->Option O.α
 dflt:O.α
 ty:String
 nt:(Value.type ty != Value.type "tuple")=true
 typ:∀ v a,keyOf v=some a->typeOf v=pure (.type ty)
 fst:∀ v a,keyOf v=some a->firstOfTuple' v=pure none
 eqB:∀ {prog:Program}{w:World}{A:Around}{E:GW}{s:Shared}{x y:Value}{a b:O.α}{Q:Bool->Shared->Prop},keyOf x=some a->keyOf y=some b->Q (!O.blt a b&&!O.blt b a) s->wpAny (model prog w) A (eqBool x y) Q E s
 lt:∀ {prog:Program}{w:World}{A:Around}{E:GW}{s:Shared}{x y:Value}{a b:O.α}{Q:Bool->Shared->Prop}(o:Bool),keyOf x=some a->keyOf y=some b->Q (O.blt a b) s->wpAny (model prog w) A (oneLt' o x y) Q E s
def IG:KeyOrd where
 α:=Int
 blt a b:=decide (a<b)
 irrefl a:=by simp
 trans a b c h1 h2:=by simp only[decide_eq_true_eq] at *;omega
 negTrans a b c h:=by simp only[decide_eq_true_eq] at *;omega
 total a b h1 h2:=by simp only[decide_eq_false_iff_not] at *;omega
theorem BQ (i j:Int):(i==j)=(!decide (i<j)&&!decide (j<i)):=by
 by_cases a:i=j
 ·subst a;simp
 have:i<j∨j<i:=by omega
 rcases this with h1 |h1<;>simp[a,h1]
def EO (v:Value):Option Int:=match v with | .int i _=>some i |_=>none
theorem iw {v:Value}{i:Int}(h:EO v=some i):∃ t,v = .int i t:=by
 cases v<;>first |(cases h;done) |skip
 cases h;exact⟨_,rfl⟩
def JY:O9 where
 O:=IG
 keyOf:=EO
 dflt:=(0:Int)
 ty:="int"
 nt:=by decide
 typ v a h:=by obtain⟨t,rfl⟩:=iw h;rfl
 fst v a h:=by obtain⟨t,rfl⟩:=iw h;rfl
 eqB {prog w A E s x y a b Q} ha hb h:=by
  obtain⟨t,rfl⟩:=iw ha;obtain⟨u,rfl⟩:=iw hb;exact wpAny_eqBool_int (Eq.mpr (congrArg (λz=>Q z s) (BQ a b)) h)
 lt {prog w A E s x y a b Q} o ha hb h:=by
  obtain⟨t,rfl⟩:=iw ha;obtain⟨u,rfl⟩:=iw hb;cases o with
  |true=>exact oneLt_int h
  |false =>
   rw[oneLt'_eq];simp only[false_eq_true,if_false];exact wpAny_bind (show wpAny _ _ (compareOp .Lt (.int _ t) (.int _ u)) _ _ _ from PyProof.Rows.lt_int (wpAny_truthy_bool h))
def cK (O:KeyOrd):List O.α->List O.α->Bool
 |[],[]=>false
 |[],_::_=>true
 |_::_,[]=>false
 |a::as,b::bs=>if (!O.blt a b&&!O.blt b a)=true then cK O as bs else O.blt a b
theorem pB {O:KeyOrd}{a b:O.α}(h:(!O.blt a b&&!O.blt b a)=true):a=b:=by rw[and_eq_true] at h;exact O.total _ _ (by simpa using h.1) (by simpa using h.2)
theorem r6 {O:KeyOrd}(a:O.α):(!O.blt a a&&!O.blt a a)=true:=by rw[O.irrefl];rfl
theorem cE {O:KeyOrd}(a:O.α)(as bs:List O.α):cK O (a::as) (a::bs)=cK O as bs:=by rw[cK,if_pos (r6 a)]
theorem bN {O:KeyOrd}{a b:O.α}(as bs:List O.α)(h:a≠b):cK O (a::as) (b::bs)=O.blt a b:=by rw[cK,if_neg (λz=>h (pB z))]
theorem xF {O:KeyOrd}{a b:O.α}(h:O.blt a b=true):a≠b:=λz=>by subst z;rw[O.irrefl] at h;cases h
def sG (O:KeyOrd):KeyOrd where
 α:=List O.α
 blt:=cK O
 irrefl a:=by
  induction a with
  |nil=>rfl
  |cons x a i=>rw[cE];exact i
 trans a:=by
  induction a with
  |nil =>
   intro b c f d;cases b with
   |nil=>cases f
   |cons y b=>cases c with
    |nil=>cases d
    |cons z c=>rfl
  |cons x a i =>
   intro b c f d;cases b with
   |nil=>cases f
   |cons y b=>cases c with
    |nil=>cases d
    |cons z c =>
     by_cases j:x=y
     ·subst j;rw[cE] at f;by_cases g:x=z
      ·subst g;rw[cE] at d ⊢;exact i b c f d
      rw[bN _ _ g] at d ⊢;exact d
     rw[bN _ _ j] at f;by_cases g:y=z
     ·subst g;rw[bN _ _ j];exact f
     rw[bN _ _ g] at d;have l:=O.trans _ _ _ f d;rw[bN _ _ (xF l)];exact l
 negTrans a:=by
  induction a with
  |nil =>
   intro b c h;cases c with
   |nil=>cases h
   |cons z c=>cases b with
    |nil=>exact .inr rfl
    |cons y b=>exact .inl rfl
  |cons x a i =>
   intro b c h;cases c with
   |nil=>cases h
   |cons z c=>cases b with
    |nil=>exact .inr rfl
    |cons y b =>
     by_cases j:x=z
     ·subst j;rw[cE] at h;by_cases g:x=y
      ·subst g;rw[cE,cE];exact i b c h
      rw[bN _ _ g,bN _ _ (Ne.symm g)];cases f:O.blt x y with
      |true=>exact .inl rfl
      |false=>cases d:O.blt y x with
       |true=>exact .inr rfl
       |false=>exact absurd (O.total _ _ f d) g
     rw[bN _ _ j] at h;by_cases g:x=y
     ·subst g;rw[bN _ _ j];exact .inr h
     by_cases k:y=z
     ·subst k;rw[bN _ _ g];exact .inl h
     rw[bN _ _ g,bN _ _ k];exact O.negTrans _ _ _ h
 total a:=by
  induction a with
  |nil =>
   intro b f d;cases b with
   |nil=>rfl
   |cons y b=>cases f
  |cons x a i =>
   intro b f d;cases b with
   |nil=>cases d
   |cons y b =>
    by_cases e:x=y
    ·subst e;rw[cE] at f d;rw[i b f d]
    rw[bN _ _ e] at f;rw[bN _ _ (Ne.symm e)] at d;exact absurd (O.total _ _ f d) e
inductive KeysAre (κ:O9):List Value->List κ.O.α->Prop
 |nil:KeysAre κ [] []
 |cons {v:Value}{a : κ.O.α}{vs:List Value}{as:List κ.O.α} : κ.keyOf v=some a->KeysAre κ vs as->KeysAre κ (v::vs) (a::as)
def Kt (b:O9)(h:Heap)(v:Value)(as:List b.O.α):Prop:=∃ a o its n,v = .ref a/\h.get? a=some o/\o.cls = .type "tuple"/\o.data = .seq its n/\KeysAre b its.toList as
theorem Kt.keeps {c:O9}{h h':Heap}{v:Value}{as:List c.O.α}(t:Kt c h v as)(k:∀ b o,h.get? b=some o->h'.get? b=some o):Kt c h' v as:=by obtain⟨a,o,its,n,e,g,f,hd,d⟩:=t;exact⟨a,o,its,n,e,k _ _ g,f,hd,d⟩
section
variable {prog:Program}{w:World}{A:Around}{E:GW}{s:Shared}{κ:O9}
theorem pT {f:Bool}{x y:Value}{as bs:List κ.O.α}{Q:Bool->Shared->Prop}(U:Kt κ s.heap x as)(N:Kt κ s.heap y bs)(q:Q (cK κ.O as bs) s):wpAny (model prog w) A (keyLt' (tuples' f) x y) Q E s:=by
 obtain⟨a,o,G,n,rfl,L,Z,hd,K⟩:=U;obtain⟨b,o2,D,n2,rfl,Y,LA,F,S⟩:=N;refine wpAny_bind (listItems_at L hd ?_);refine wpAny_bind (listItems_at Y F ?_);refine wpAny_bind ?_;refine wpAny_forIn_list _ (λrest r B=>r.1=none/\B=s/\∃ k j g p l,rest=(List.zip j g).zipIdx k/\KeysAre κ j p/\KeysAre κ g l/\cK κ.O p l=cK κ.O as bs/\decide (j.length<g.length)=decide (G.size<D.size)) _ ?_ ?_ _ _ ⟨rfl,rfl,0,G.toList,D.toList,as,bs,rfl,K,S,rfl,by simp⟩
 ·rintro⟨⟨u,v⟩,i⟩ rest r B ⟨C,rfl,k,j,g,p,l,d,H,z,h,c⟩;cases H with
  |nil=>simp at d
  | @cons u' m M P I T =>
   cases z with
   |nil=>simp at d
   | @cons v' t W R J V =>
    rw[List.zip_cons_cons,zipIdx_cons] at d;simp only[List.cons.injEq,Prod.mk.injEq] at d;obtain⟨⟨⟨rfl,rfl⟩,rfl⟩,rfl⟩:=d;refine wpAny_bind (κ.eqB I J ?_);by_cases e:m=t
    ·subst e;rw[r6];simp only[Bool.not_true,false_eq_true,if_false];rw[cE] at h;exact wpAny_pure ⟨rfl,rfl,i+1,M,W,P,R,rfl,T,V,h,by rw[← c];simp⟩
    have X:(!κ.O.blt m t&&!κ.O.blt t m)=false:=by
     cases hb:(!κ.O.blt m t&&!κ.O.blt t m) with
     |false=>rfl
     |true=>exact absurd (pB hb) e
    rw[X];simp only[Bool.not_false,if_true];rw[bN _ _ e] at h;refine wpAny_bind (κ.lt _ I J ?_);rw[h];exact wpAny_pure (wpAny_pure q)
 rintro⟨r1,r2⟩ B ⟨C,rfl,k,j,g,p,l,d,H,z,h,c⟩;simp only at C;subst C;refine wpAny_pure ?_;show Q (decide (G.size<D.size)) B;rw[← c]
 have e:decide (j.length<g.length)=cK κ.O p l:=by
  cases H with
  |nil=>cases z with
   |nil=>rfl
   |cons _ _=>simp[cK]
  |cons _ _=>cases z with
   |nil=>simp[cK]
   |cons _ _=>simp at d
 rw[e,h];exact q
theorem zN:∀ {vs:List Value}{as:List κ.O.α},KeysAre κ vs as->vs.mapM firstOfTuple'=pure (vs.map λ_=>none)
 |_,_,.nil=>by simp
 |_,_,.cons h r=>by rw[mapM_cons,κ.fst _ _ h,zN r];simp
theorem sD:∀ {vs:List Value}{as:List κ.O.α},KeysAre κ vs as->vs.mapM typeOf=pure (vs.map λ_=>Value.type κ.ty)
 |_,_,.nil=>by simp
 |_,_,.cons h r=>by rw[mapM_cons,κ.typ _ _ h,sD r];simp
theorem EE {vs:List Value}{as:List κ.O.α}(h:KeysAre κ vs as)(b : 0<vs.length):oneTypeOnly' vs.toArray=pure (some (.type κ.ty)):=by
 rw[oneTypeOnly'_eq,List.mapM_toArray,sD h];simp only[map_pure,pure_bind];have c:((List.map (λ_=>Value.type κ.ty) vs).toArray.all λx=>x==Value.type κ.ty)=true:=by simp only[List.all_toArray,all_map,all_eq_true];intro _ _;simp
 have a:(List.map (λ_=>Value.type κ.ty) vs).toArray[0]?=some (Value.type κ.ty):=by
  cases vs with
  |nil=>simp at b
  |cons v vs=>simp
 rw[a];simp only[c,if_true]
inductive HA (κ:O9) (h:Heap):List Value->List (List κ.O.α)->Prop
 |nil:HA κ h [] []
 |cons {v:Value}{a : κ.O.α}{as:List κ.O.α}{vs:List Value}{Mp:List (List κ.O.α)}:Kt κ h v (a::as)->HA κ h vs Mp->HA κ h (v::vs) ((a::as)::Mp)
theorem HA.keeps {h h':Heap}{vs:List Value}{a:List (List κ.O.α)}(t:HA κ h vs a)(k:∀ b o,h.get? b=some o->h'.get? b=some o):HA κ h' vs a:=by
 induction t with
 |nil=>exact .nil
 |cons q _ c=>exact .cons (q.keeps k) c
theorem HA.mem {h:Heap}{vs:List Value}{a:List (List κ.O.α)}(t:HA κ h vs a){v:Value}(hv:v∈vs):∃ as,Kt κ h v as:=by
 induction t with
 |nil=>simp at hv
 |cons q _ b =>
  rcases mem_cons.mp hv with e |hv
  ·subst e;exact⟨_,q⟩
  exact b hv
theorem x_ {v:Value}{a : κ.O.α}{as:List κ.O.α}{Q:Option Value->Shared->Prop}(t:Kt κ s.heap v (a::as))(q:∀ u,κ.keyOf u=some a->Q (some u) s):wpAny (model prog w) A (firstOfTuple' v) Q E s:=by
 obtain⟨b,o,its,n,rfl,d,f,hd,c⟩:=t;generalize g:its.toList=l at c;cases c with
 | @cons u _ h _ k r =>
  refine wpAny_bind (wpAny_typeOf ⟨o,d,f⟩ ?_);rw[if_neg (by decide)];refine wpAny_bind (listItems_at d hd (wpAny_pure ?_));have e:its[0]?=some u:=by rw[← getElem?_toList,g];rfl
  rw[e];exact q u k
theorem xL {vs:List Value}{b:List (List κ.O.α)}(t:HA κ s.heap vs b):∀ {Q:List (Option Value)->Shared->Prop},(∀ us as,KeysAre κ us as->us.length=vs.length->Q (us.map some) s)->wpAny (model prog w) A (vs.mapM firstOfTuple') Q E s:=by
 induction t with
 |nil=>intro Q q;exact wpAny_pure (q [] [] .nil rfl)
 |cons h _ d =>
  intro Q q;rw[mapM_cons];refine wpAny_bind (x_ h λu c=>wpAny_bind (d λus as a e=>wpAny_pure ?_));exact q (u::us) (_::as) (.cons c a) (by simp[e])
theorem filterMap_some:∀ (us:List Value),((us.map some).toArray.filterMap id)=us.toArray:=by
 intro us;rw[List.filterMap_toArray];congr 1
 induction us with
 |nil=>rfl
 |cons u us a=>simp[a]
theorem xP {vs:List Value}{c:List (List κ.O.α)}(t:HA κ s.heap vs c)(d : 0<vs.length){Q:SortKind->Shared->Prop}(q:Q (tuples' true) s):wpAny (model prog w) A (keyKind' vs.toArray) Q E s:=by
 rw[keyKind'_eq,List.mapM_toArray];refine wpAny_bind (wpAny_bind (xL t λa f b g=>wpAny_pure ?_));have e:((a.map some).toArray.all λx=>x.isSome)=true:=by simp
 show wpAny _ _ (if ((a.map some).toArray.all λx=>x.isSome)=true then _ else _) _ _ _;rw[if_pos e];refine wpAny_bind (wpAny_rule ?_);rw[filterMap_some,EE b (by omega)];refine wpAny_bind (wpAny_pure (wpAny_pure ?_));show Q (tuples' (Value.type κ.ty != Value.type "tuple")) s;rw[κ.nt];exact q
def PB (κ:O9)(h:Heap)(v:Value):List κ.O.α:=match v with
 | .ref a=>(match h.get? a with
  |some o=>(match o.data with
   | .seq its _=>its.toList.map λu=>(κ.keyOf u).getD κ.dflt
   |_=>[])
  |none=>[])
 |_=>[]
theorem KeysAre.NU {vs:List Value}{as:List κ.O.α}(h:KeysAre κ vs as):vs.map (λu=>(κ.keyOf u).getD κ.dflt)=as:=by
 induction h with
 |nil=>rfl
 |cons k _ a=>rw[map_cons,k,a];rfl
theorem u_ {h:Heap}{v:Value}{as:List κ.O.α}(t:Kt κ h v as):PB κ h v=as:=by obtain⟨b,o,its,n,rfl,c,d,hd,a⟩:=t;unfold PB;dsimp only;rw[c];dsimp only;rw[hd];exact a.NU
theorem rF {a:Shared}{vs:List Value}{e:List (List κ.O.α)}(t:HA κ a.heap vs e):vG prog w a vs (sG κ.O) (PB κ a.heap):=by refine⟨tuples' true,λA E l k=>⟨λj h q=>xP (t.keeps k) (by omega) q,λx y d g st Q f q=>?_⟩⟩;obtain⟨i,c⟩:=t.mem d;obtain⟨bs,b⟩:=t.mem g;rw[u_ c,u_ b] at q;rw[lt'_eq];refine wpS_bind (wpS_get ?_);rw[f];exact wpS_bind (wpS_lift (wpAny_attempt (pT (c.keeps k) (b.keeps k) ⟨rfl,wpS_pure q⟩)))
end
end L2
namespace L2
open PySem PySem.Spec PyProof.Rows PySem.W
section
variable {X:Cx}{W:WT}
def tupI:D->Option (List Int)
 | .tup a=>match cm a with
  |some (n::ns)=>some (n::ns)
  |_=>none
 |_=>none
def ub {α:Type}(f:D->Option α):List D->Option (List α)
 |[]=>some []
 |d::r=>(f d).bind λa=>(ub f r).map (a::·)
def nh {α:Type}(lt : α->α->Bool):List α->List α->Bool
 |[],[]=>false
 |[],_::_=>true
 |_::_,[]=>false
 |a::as,b::bs=>if (!lt a b&&!lt b a)=true then nh lt as bs else lt a b
def u7 (a b:List Int):Bool:=!nh (λx y=>decide (x<y)) b a
noncomputable def p9:List D->Option D
 |[.lst xs]=>(ub tupI xs).bind λa => @ite _ (xs.length<=sizeLine/\Spec (nh λ(x y:Int)=>decide (x<y)) a) (Classical.propDecidable _) (some (.lst ((a.mergeSort u7).map λns => .tup (ns.map .int)))) none
 |_=>none
theorem qw (O:PyProof.Rows.KeyOrd):∀ as bs:List O.α,cK O as bs=nh O.blt as bs
 |[],[]=>rfl
 |[],_::_=>rfl
 |_::_,[]=>rfl
 |a::as,b::bs=>by rw[cK,nh,qw O as bs]
theorem xw {K:GV}{H:Hp}{J:List Addr}{out us:List Value}(p:out.Perm us):∀ {vs:List V}{ds:List D},Vals vs us->G5 K H J ds vs->∃ f e,Vals f out/\G5 K H J e f/\e.Perm ds:=by
 induction p with
 |nil=>intro vs ds r m;exact⟨vs,ds,r,m,.refl _⟩
 |cons x p k =>
  intro vs ds r m;cases r with
  | @cons v _ j _ g h =>
   cases ds with
   |nil=>cases G5.G7.mp m
   |cons d ds =>
    obtain⟨m1,m2⟩:=m.G6;obtain⟨f,e,a,b,c⟩:=k h m2;exact⟨v::f,d::e,.cons g a,.cons m1 b,.cons d c⟩
 |swap x y l =>
  intro vs ds r m;cases r with
  | @cons v _ j _ g h=>cases h with
   | @cons A _ E _ t z =>
    cases ds with
    |nil=>cases G5.G7.mp m
    |cons d ds=>cases ds with
     |nil=>obtain⟨_,m2⟩:=m.G6;cases G5.G7.mp m2
     |cons i ds =>
      obtain⟨m1,m2⟩:=m.G6;obtain⟨n,o⟩:=m2.G6;exact⟨A::v::E,i::d::ds,.cons t (.cons g z),.cons n (.cons m1 o),.swap d i ds⟩
 |trans _ _ F B =>
  intro vs ds r m;obtain⟨I,G,a,b,c⟩:=B r m;obtain⟨q,w,s,u,C⟩:=F a b;exact⟨q,w,s,u,C.trans c⟩
theorem t_ {α:Type}{f:D->Option α}{g : α->D}(b:∀ d a,f d=some a->d=g a):∀ {ds:List D}{as:List α},ub f ds=some as->ds=as.map g
 |[],as,h=>by cases h;rfl
 |d::ds,as,h=>by
  obtain⟨a,c,i⟩:=bind_eq_some_iff.mp (show (f d).bind _=some as from h);obtain⟨r,e,j⟩:=map_eq_some_iff.mp i;subst j;rw[map_cons,b d a c,t_ b e]
theorem ua {α:Type}{f:D->Option α}:∀ {ds:List D}{as:List α},ub f ds=some as->∀ a∈as,∃ d,f d=some a
 |[],as,h,a,ha=>by cases h;simp at ha
 |d::ds,as,h,a,ha=>by
  obtain⟨b,c,j⟩:=bind_eq_some_iff.mp (show (f d).bind _=some as from h);obtain⟨r,g,i⟩:=map_eq_some_iff.mp j;subst i;rcases mem_cons.mp ha with e |ha
  ·subst e;exact⟨d,c⟩
  exact ua g a ha
theorem vN {d:D}{ns:List Int}(h:tupI d=some ns):d = .tup (ns.map .int)/\ns≠[]:=by
 unfold tupI at h;split at h
 ·split at h
  ·rename_i e;cases h;rw[fF e];exact⟨rfl,by simp⟩
  cases h
 cases h
theorem zi {α:Type}{g : α->D}{l:List D}{as:List α}(h:l.Perm (as.map g)):∃ bs:List α,l=bs.map g/\bs.Perm as:=by
 generalize e:as.map g=l2 at h
 induction h generalizing as with
 |nil=>cases as with
  |nil=>exact⟨[],rfl,.refl _⟩
  |cons a as=>cases e
 |cons x p f=>cases as with
  |nil=>cases e
  |cons a as =>
   rw[map_cons] at e;obtain⟨rfl,k⟩:=List.cons.inj e;obtain⟨bs,c,d⟩:=f k;exact⟨a::bs,by rw[map_cons,c],.cons a d⟩
 |swap x y l=>cases as with
  |nil=>cases e
  |cons a as=>cases as with
   |nil=>simp at e
   |cons b as =>
    simp only[map_cons,List.cons.injEq] at e;obtain⟨rfl,rfl,rfl⟩:=e;exact⟨b::a::as,rfl,.swap a b as⟩
 |trans _ _ o n =>
  obtain⟨bs,c,d⟩:=n e;obtain⟨m,i,j⟩:=o (as:=bs) c.symm;exact⟨m,i,j.trans d⟩
theorem oY:∀ {us:List Value}{ns:List Int},IntsAre us ns->KeysAre JY us ns
 |_,_,.nil => .nil
 |_,_,.cons n t r => .cons rfl (oY r)
section
variable {X:Cx}{pins:GX}{σ:St}{H:Hp}{s:Shared}{J:List Addr}
theorem AR (I:Inv X pins σ H s){ns:List Int}{v:V}{u:Value}(m:At X.K H J (.tup (ns.map .int)) v)(r:RelV v u):Kt JY s.heap u ns:=by obtain⟨a,f,rfl,q,z⟩:=At.He.mp m;cases r;obtain⟨its,d,⟨o,c,b,n,hd⟩,_⟩:=I.tuple q.sq;have e:=G5.JW z;subst e;exact⟨a,o,its.toArray,n,rfl,c,b,hd,by simpa using oY (intsAre_of d)⟩
theorem mE (I:Inv X pins σ H s):∀ {c:List (List Int)}{vs:List V}{us:List Value},(∀ ns∈c,ns≠[])->G5 X.K H J (c.map λns => .tup (ns.map .int)) vs->Vals vs us->HA JY s.heap us c/\us.map (PB JY s.heap)=c
 |[],vs,us,_,m,r=>by cases G5.G7.mp m;cases r;exact⟨.nil,rfl⟩
 |ns::c,vs,us,h0,m,r=>by
  obtain⟨v,g,rfl,m1,m2⟩:=G5.G3.mp m;cases r with
  |cons d f =>
   obtain⟨a,b⟩:=mE I (λx e=>h0 x (mem_cons_of_mem _ e)) m2 f;have t:=AR I m1 d;have ne:=h0 ns (mem_cons_self ..);cases ns with
   |nil=>exact absurd rfl ne
   |cons n ns=>exact⟨.cons t a,by rw[map_cons,u_ t,b];rfl⟩
end
theorem zS {j:Type}{O:PyProof.Rows.KeyOrd}{key : j->List O.α}(inj:∀ a b,key a=key b->a=b){l f:List j}(k:f.Perm l)(m:f.Pairwise λa b=>(sG O).kle (key a) (key b)):f=l.mergeSort λa b => !cK O (key b) (key a):=by
 refine List.Perm.eq_of_pairwise (le:=λa b=>(!cK O (key b) (key a))=true) (λa b _ _ h g=>inj _ _ ?_) (m.imp λh=>?_) (List.pairwise_mergeSort (λa b c h g=>?_) (λa b=>?_) l) (k.trans (mergeSort_perm l _).symm)
 ·have o:cK O (key a) (key b)=false:=by simpa using g
  have d:cK O (key b) (key a)=false:=by simpa using h
  exact(sG O).total _ _ o d
 ·have d:cK O _ _=false:=h;rw[d];rfl
 ·have i:(sG O).kle (key a) (key b):=by show cK O (key b) (key a)=false;simpa using h
  have e:(sG O).kle (key b) (key c):=by show cK O (key c) (key b)=false;simpa using g
  have n:cK O (key c) (key a)=false:=PyProof.Rows.KeyOrd.kle_trans i e;rw[n];rfl
 cases i:cK O (key b) (key a) with
 |false=>rfl
 |true =>
  have e:cK O (key a) (key b)=false:=PyProof.Rows.KeyOrd.klt_asymm (O:=sG O) i;rw[e];rfl
theorem Am:iT X (.builtin "sorted") p9:=by
 intro E s σ H xs us Q I r h;obtain⟨J,ds,d,hJ,m,e,q⟩:=h;unfold p9 at e;split at e
 ·rename_i ys;obtain⟨g,es,e⟩:=bind_eq_some_iff.mp e;split at e
  ·rename_i B;obtain⟨B,sp⟩:=B;cases e;obtain⟨v,w,rfl,a,n⟩:=G5.G3.mp m;cases G5.G7.mp n;obtain⟨p,zs,rfl,t,A⟩:=At.Hh.mp a;obtain⟨u,rfl,ru⟩:=vals1 r;cases ru;obtain⟨its,j,⟨o,nn,Y,P,_,hd⟩,V⟩:=I.list t.sq;have ed:=t_ (λd a h=>(vN h).1) es;have ne:∀ ns∈g,ns≠[]:=λns U=>let ⟨d,h⟩:=ua es ns U;(vN h).2;subst ed;have N:its.length<=sizeLine:=by rw[← j.length,← A.length];exact B
   refine A0 (wpAny_collect_seq p (.inl rfl) Y P hd (λF k=>?_) (by rw[size_toArray,← j.length];exact V));have c:=I.kept (t':=s.toks) k;obtain⟨tu,Xk⟩:=mE c ne A j;have z:cK IG=nh (λ(x y:Int)=>decide (x<y)):=by funext a b;exact qw IG a b
   refine⟨by simpa using N,sG JY.O,PB JY F,rF (by simpa using tu),?_,λo h2 ep i Z k2 LX=>?_⟩
   ·have W : @Spec (List IG.α) (cK IG) g:=Eq.mpr (congrArg (λf => @Spec (List Int) f g) z) sp;have RV:List.map (PB JY F) its.toArray.toList=g:=by simpa using Xk
    exact Eq.mpr (congrArg (λl => @Spec (List IG.α) (cK IG) l) RV) W
   have i:o.toList.Perm its:=by simpa using i
   obtain⟨L,Vj,C,D,S⟩:=xw i j A;obtain⟨M,e2,K⟩:=zi S;subst e2;have T:=(mE c (λx R=>ne x (K.mem_iff.mp R)) D C).2;have Pl:M.Pairwise λa b=>(sG IG).kle a b:=by have:=pairwise_map.mpr Z;rw[T] at this;exact this
   have z:(λ(a b:List Int) => !cK IG b a)=u7:=by funext a b;unfold u7;exact congrArg Bool.not (qw IG b a)
   have Qy:M=g.mergeSort u7:=by rw[← z];exact zS (O:=IG) (key:=λ(a:List Int)=>a) (λa b h=>h) K Pl
   subst Qy;have G:L.length<=sizeLine:=by rw[C.length,i.length_eq];exact N
   exact⟨.ref _,_,c.laid (t':=s.toks) (o:=.lst L) k2 (le_refl _) ⟨G,o.toList,ep,C,by simpa using LX⟩,rfl,q _ _ (aM c.fresh _) (At.I0 D c.fresh hJ G)⟩
  cases e
 cases e
end
mutual
def JO (n:Nat):D->Bool
 | .tup a=>lQ n a
 | .lst a=>lQ n a
 | .set a=>lQ n a
 | .loc l=>decide (l<n)
 |_=>true
def lQ (n:Nat):List D->Bool
 |[]=>true
 |d::ds=>JO n d&&lQ n ds
end
section
variable {K:GV}{H H2:Hp}{J J2:List Addr}
theorem TQ.back {a:Addr}{xs:List V}(h:TQ K H J2 a xs)(p:J <+: J2):TQ K H J a xs:=h.elim (λz => .inl ⟨z.1,λm=>z.2.1 (p.subset m),z.2.2⟩) .inr
theorem LQ.back {a:Addr}{xs:List V}(h:LQ K H J2 a xs)(p:J <+: J2):LQ K H J a xs:=h.elim (λz => .inl ⟨z.1,λm=>z.2.1 (p.subset m),z.2.2⟩) .inr
theorem y7 {l:Nat}{a:Addr}(p:J <+: J2)(b:l<J.length)(h:J2[l]?=some a):J[l]?=some a:=by obtain⟨r,rfl⟩:=p;rwa [getElem?_append_left b] at h
mutual
theorem At.JO:∀ {d:D}{v:V},At K H J d v->L2.JO J.length d=true
 | .Ho,_,_=>rfl
 | .bl _,_,_=>rfl
 | .int _,_,_=>rfl
 | .str _,_,_=>rfl
 | .fn _ _,_,_=>rfl
 | .tup c,_,h=>by obtain⟨a,b,_,_,r⟩:=At.He.mp h;rw[L2.JO];exact G5.JO r
 | .lst c,_,h=>by obtain⟨a,b,_,_,r⟩:=At.Hh.mp h;rw[L2.JO];exact G5.JO r
 | .set c,_,h=>by obtain⟨a,e,b,_,_,_,_,r⟩:=At.JM.mp h;rw[L2.JO];exact G5.JO r
 | .loc l,_,h=>by obtain⟨a,_,q⟩:=At.Hc.mp h;exact decide_eq_true (List.getElem?_eq_some_iff.mp q).1
theorem G5.JO:∀ {ds:List D}{vs:List V},G5 K H J ds vs->lQ J.length ds=true
 |[],_,_=>rfl
 |d::ds,_,h=>by obtain⟨v,r,_,p,q⟩:=G5.G3.mp h;rw[lQ,At.JO p,G5.JO q];rfl
end
mutual
theorem At.back (p:J <+: J2):∀ {d:D}{v:V},At K H J2 d v->L2.JO J.length d=true->At K H J d v
 | .Ho,_,h,_=>by rw[At.HK] at h ⊢;exact h
 | .bl _,_,h,_=>by rw[At.Ht] at h ⊢;exact h
 | .int _,_,h,_=>by rw[At.G2] at h ⊢;exact h
 | .str _,_,h,_=>by rw[At.Hd] at h ⊢;exact h
 | .fn _ _,_,h,_=>by rw[At.MV] at h ⊢;exact h
 | .tup c,_,h,i=>by
  obtain⟨a,b,e,q,r⟩:=At.He.mp h;rw[L2.JO] at i;exact At.He.mpr ⟨a,b,e,q.back p,G5.back p r i⟩
 | .lst c,_,h,i=>by
  obtain⟨a,b,e,q,r⟩:=At.Hh.mp h;rw[L2.JO] at i;exact At.Hh.mpr ⟨a,b,e,q.back p,G5.back p r i⟩
 | .set c,_,h,i=>by
  obtain⟨a,f,b,e,q,n,z,r⟩:=At.JM.mp h;rw[L2.JO] at i;exact At.JM.mpr ⟨a,f,b,e,q,λm=>n (p.subset m),z,G5.back p r i⟩
 | .loc l,_,h,i=>by
  obtain⟨a,e,q⟩:=At.Hc.mp h;rw[L2.JO,decide_eq_true_eq] at i;exact At.Hc.mpr ⟨a,e,y7 p i q⟩
theorem G5.back (p:J <+: J2):∀ {ds:List D}{vs:List V},G5 K H J2 ds vs->lQ J.length ds=true->G5 K H J ds vs
 |[],_,h,_=>by rw[G5.G7] at h ⊢;exact h
 |d::ds,_,h,i=>by
  obtain⟨v,r,e,q,z⟩:=G5.G3.mp h;rw[lQ,and_eq_true] at i;exact G5.G3.mpr ⟨v,r,e,At.back p q i.1,G5.back p z i.2⟩
end
theorem gP {α d:Type}{R R2 T : α->d->Prop}{l:List α}:∀ {m m2:List d},Paired T l m2->Paired R l m->(∀ a b c,T a c->R a b->R2 a b)->Paired R2 l m:=by
 intro m m2 t r h
 induction r generalizing m2 with
 |nil=>exact .nil
 |cons q _ e=>cases t with
  |cons f t2=>exact .cons (h _ _ _ f q) (e t2)
theorem ME.back (p:J <+: J2){o:MO}{a:Addr}(old:ME K H J o a)(h:ME K H2 J2 o a):ME K H2 J o a:=by
 cases o with
 |lst j =>
  obtain⟨_,_,b⟩:=old;obtain⟨g,q,r⟩:=h;exact⟨g,q,r.back p b.JO⟩
 |exc c=>obtain⟨C,q,r⟩:=h;exact⟨C,q,r⟩
 |dict e =>
  obtain⟨_,_,b⟩:=old;obtain⟨d,q,r⟩:=h;exact⟨d,q,gP b r λx y z t u=>⟨⟨u.1.1,u.1.2.back p t.1.2.JO⟩,u.2.back p t.2.JO⟩⟩
 |Hi e =>
  obtain⟨_,_,b⟩:=old;obtain⟨d,q,r⟩:=h;exact⟨d,q,gP b r λx y z t u=>⟨⟨u.1.1,u.1.2.back p t.1.2.JO⟩,u.2.back p t.2.JO⟩⟩
 |ins c fs =>
  obtain⟨_,_,_,_,_,b⟩:=old;obtain⟨C,i,f,n,q,r⟩:=h;exact⟨C,i,f,n,q,gP b r λx y z t u=>⟨u.1,u.2.back p t.2.JO⟩⟩
end
section
variable {X:Cx}{W:WT}{e:Expr}{f:GU D}
noncomputable def jT (f:GU D):GU D:=λa S=>match f a S with
 |some (.ok (.loc l),S2)=>(match S2[l]? with
  |some (.lst xs) => @ite _ (S.length<=l/\S2.take S.length=S/\lQ S.length xs=true/\xs.length<=sizeLine) (Classical.propDecidable _) (G9 (.lst xs) S) none
  |_=>none)
 |_=>none
theorem xc (h:SE X W e f):SE X W e (jT f):=PE.imp h λN H Q t=>by
 obtain⟨J,v,S,r,R,c,m,eq,z⟩:=t;unfold jT at eq;split at eq
 ·rename_i l q y;split at eq
  ·rename_i P ex;split at eq
   ·rename_i A;obtain⟨O,K,F,E⟩:=A;cases eq;refine⟨J,v,S,_,q,c,m,y,λG I b x so at_=>?_⟩;have j:=c.Hu.len;obtain⟨a,rfl,p⟩:=At.Hc.mp at_;obtain⟨w,C,i⟩:=so.at_ l a _ p ex;have B:a∉J:=λM=>by obtain⟨k,d⟩:=getElem?_of_mem M;have s:=(List.getElem?_eq_some_iff.mp d).1;have u:G[k]?=some a:=lW x.pre d;have:=(List.getElem?_inj (List.getElem?_eq_some_iff.mp u).1 so.nd).mp (u.trans p.symm);omega
    refine z J I (.ref a) ⟨prefix_refl _,λb o L n=>⟨(x.keep b o L n).1,n⟩⟩ ⟨j,c.Hu.nd,λk b o d g=>?_⟩ (At.Hh.mpr ⟨a,w,rfl,?_,i.back x.pre (by rw[j];exact F)⟩)
    ·have s:k<S.length:=(List.getElem?_eq_some_iff.mp g).1;have D:q[k]?=some o:=by rw[← g,← K,getElem?_take,if_pos s]
     exact(c.Hu.at_ k b o d g).back x.pre (so.at_ k b o (lW x.pre d) D)
    exact .inl ⟨.inl C,B,by rw[← i.length];exact E⟩
   cases eq
  cases eq
 cases eq
end
section
variable {X:Cx}{W:WT}{pos pos':Pos}{o i e:Expr}{fo fi fv:GU D}{x:Str}
def we:D->D->Option D
 | .int a,.int b=>if fA a b then some (.int (a*b)) else none
 |_,_=>none
def Xm:OD:=λx y H Q => ∃ i j,x = .int i/\y = .int j/\fA i j=true/\Q (.int (i*j)) H
theorem Dw:Rw X .Mult Xm:=by intro a s f H x y v u Q I b e h;obtain⟨i,j,d,c,k,q⟩:=h;subst d;subst c;obtain⟨t,rfl⟩:=b;obtain⟨g,rfl⟩:=e;exact PyProof.Rows.imul_int ⟨.int _,H,I.tok _,⟨_,rfl⟩,q⟩ (wc k).ok
def tV (n:Nat)(fv:GU D):GU Fl:=λa S=>match a[n]? with
 |some (some d)=>ai (fv a S) λy b=>aK ((we d y).map λz=>Fl.next (a.set n (some z))) b
 |_=>none
theorem AY {n:Nat}(i:X.N.Nodup)(u:SE X W e fv)(hi:X.N[n]?=some x:=by rfl)(o:Loc X.env.scope x:=by first |exact Or.inl rfl |exact Or.inr rfl)
  (w:X.fn x=true∨X.env.scope.names.lookup x=some .local:=by first |exact .inl rfl |exact .inr rfl |assumption) :
  SS X W (.AugAssign (.Name x pos') .Mult e pos) (tV n fv):=(C5 i hi o u Dw w).imp λE C H h=>by
 obtain⟨J,f,S,r,G,c,eq,z⟩:=h;unfold tV at eq;split at eq
 ·rename_i d hd;obtain⟨v,t,l⟩:=c.env n d hd;refine⟨v,t,?_⟩;cases q:fv f S with
  |none=>rw[q] at eq;cases eq
  |some p =>
   obtain⟨g,F⟩:=p;rw[q] at eq;cases g with
   |error D=>cases eq;exact⟨J,f,S,_,_,c,.nil,q,z⟩
   |ok y =>
    simp only[eD] at eq;cases hg:we d y with
    |none=>rw[hg] at eq;cases eq
    |some B =>
     rw[hg] at eq;cases eq;refine⟨J,f,S,_,_,c,.nil,q,λm s b x2 A m2=>?_⟩;unfold we at hg;split at hg
     ·split at hg
      ·rename_i a j k;cases hg;cases At.G2.mp l;cases At.G2.mp m2;exact⟨a,j,rfl,rfl,k,z m _ s x2 ((c.re x2 A).set (At.G2.mpr rfl))⟩
      cases hg
     cases hg
 cases eq
end
section
variable {X:Cx}{W:WT}{pos pos':Pos}{o i e:Expr}{fo fi fv:GU D}{x:Str}
theorem z6:Ff X (Ep X.K):=by
 intro a s g H x y v u Q I B C h;obtain⟨p,F,i,z,rfl,rfl,n,A,q⟩:=h;cases B;obtain⟨t,rfl⟩:=C;obtain⟨its,r,pl,D⟩:=I.list n;obtain⟨j,b,l,E,o,k⟩:=jV A;obtain⟨w,e,f⟩:=r.get l;have m:=r.length;have G:=i0;have fin:EP X a g Q w s:=⟨z,H,I,f,q⟩;by_cases d : 0<=i
 ·have c:i.toNat=j:=by
   rw[seqIndex_of d k] at b;exact Option.some.inj b
  exact wpAny_getItem_list pl.isList d (by omega) (by rw[c];simpa using e) fin
 have c:(i+(its.toArray.size:Int)).toNat=j:=by rw[seqIndex_neg (by omega) o] at b;rw[size_toArray,← m];exact Option.some.inj b
 exact wpAny_getItem_list_neg pl.isList (by omega) (by rw[size_toArray]<;>omega) (by omega) (by rw[c];simpa using e) fin
def wQ:D->D->Option D
 | .int a,.int b=>some (.int (a+b))
 |_,_=>none
def tW (fo fi fv:GU D):GU Fl:=λb S=>ai (fo b S) λx d=>ai (fi b d) λk c=>ai (aK (kF x k c) c) λa f=>ai (fv b f) λy e=>match wQ a y with
 |some z=>iO x k z b e
 |none=>none
theorem AZ (R:SE X W o fo)(hi:SE X W i fi)(hv:SE X W e fv)
  (Q:∀ p n new,augStore i p n new=(do holding [new,p,n] (setItem p n new);release [new,p,n] [];pure .next):=by intros;rfl):SS X W (.AugAssign (.Subscript o i pos') .Add e pos) (tW fo fi fv):=
 (Bj R hi z6 hv Dx set_list Q).imp λE v H h=>by
  have h:tH X W [] [] (tW fo fi fv) E v H:=let ⟨J,f,S,r,x,c,e,z⟩:=h;⟨J,f,S,r,x,c,.nil,e,z⟩;refine(tH.Ha h).mono λox H1 ⟨Z,Y⟩=>(tH.Ha Y).mono λik H2 ⟨dk,T⟩=>?_;obtain⟨J,f,S,r,x,c,m,e,z⟩:=T;obtain⟨mk,m1⟩:=m.G6;obtain⟨D,_⟩:=m1.G6
  try dsimp only at e
  cases q:kF Z dk S with
  |none=>rw[q] at e;cases e
  |some g =>
   rw[q,bt,dz] at e;have q0:=q;unfold kF at q;split at q
   ·rename_i k;obtain⟨xs,g1,g2⟩:=bind_eq_some_iff.mp q;obtain⟨l,A,P,rfl,rfl,hq,es,eh,mu⟩:=kB c.Hu D g1;cases At.G2.mp mk;obtain⟨w,L,a1⟩:=qU mu g2;refine⟨A,P,k,w,rfl,rfl,.inl (.inl eh),L,?_⟩
    have h3:tH X W [g,.int k,.loc l] [w,.int k,.ref A] (λf S3=>ai (fv f S3) λy O=>match wQ g y with
     |some z=>iO (.loc l) (.int k) z f O
     |none=>none) E v H2:=⟨J,f,S,r,x,c,.cons a1 m,e,z⟩
    refine(tH.Ha h3).mono λy H3 ⟨u,h4⟩=>?_;obtain⟨I,s,N,r2,QL,t,m2,d,z2⟩:=h4;obtain⟨my,m2⟩:=m2.G6;obtain⟨mw,m2⟩:=m2.G6;obtain⟨_,m2⟩:=m2.G6;obtain⟨QM,_⟩:=m2.G6
    try dsimp only at d
    cases hz:wQ g u with
    |none=>rw[hz] at d;cases d
    |some zd =>
     rw[hz] at d
     obtain⟨a,b,rfl,rfl,rfl⟩:∃ a b,g = .int a/\u = .int b/\zd = .int (a+b):=by
      cases g<;>first |(cases hz;done) |(cases u<;>first |(cases hz;done) |(cases hz;exact⟨_,_,rfl,rfl,rfl⟩))
     cases At.G2.mp mw;cases At.G2.mp my;refine⟨a,b,rfl,rfl,?_⟩;have d:iO (.loc l) (.int k) (.int (a+b)) s N=some (r2,QL):=d;unfold iO at d;simp only at d;split at d
     ·rename_i V F;split at d
      ·rename_i j ej;cases d;obtain⟨a',M,C⟩:=At.Hc.mp QM;cases M;obtain⟨M8,K,B⟩:=t.Hu.at_ l _ _ C F;have up:=t.Hu.update (o:=.lst (M8.set j (.int (a+b)))) (mo:=.lst (V.set j (.int (a+b)))) C λJ' H' U G eJ=>by subst G eJ;exact⟨_,G_,G5.set (At.G2.mpr rfl) j (B.ex U)⟩
       exact⟨_,M8,k,j,rfl,rfl,K,by rw[← B.length];exact ej,z2 I v _ up.2 (t.re up.2 up.1)⟩
      cases d
     cases d
   cases q
end
def RY (lo:Int)(n:Nat):It:=⟨λi _=>i<n,λi H x a=>a=H/\x = .int (lo-i),λi _=>n<=i⟩
theorem wZ {P:Program}{w:World}{K:GV}{F:Expr}(it:Addr)(lo:Int)(n:Nat):Turn P w K F (RY lo n) [it] it (λi h=>IsRangeIter h it (lo+(i:Nat)*(-1)) ((n:Int)-(i:Nat)) (-1)) where
 mem:=by simp
 obj:=λi h st b c=>by
  have e:b=it:=by simpa using c
  subst e
  exact⟨_,st,λv z=>by
   have G:Data.fields _=Data.cell v:=z
   cases G⟩
 keep:=λi h d st k=>k it (by simp) _ st
 item:=by
  intro X l m g j i a s A H E I f st u;subst l m g;obtain⟨x,q,D,p,r,y⟩:=f it (by simp);have W:=Walks.range (prog:=X.prog) (w:=X.w) (I.ok.hd j) it lo (-1) n;refine W.item i s _ _ u st λv d tk J B L=>?_;obtain⟨t,rfl⟩:=J;have M:Inv X a A H { s with heap:=d,toks:=tk }:=I.turned (λb o c e=>L b o (by simpa using c) e) x q p r y;refine⟨_,rfl,sS (s:={ s with heap:=d,toks:=tk }) (n:="range_iterator") B rfl rfl (by decide) ⟨.int (lo-i),H,M,⟨t,?_⟩,⟨rfl,rfl⟩,B,λb c=>(f b c).1⟩⟩;rw[show lo+(i:Int) * -1=lo-i by omega]
 done:=by
  intro X l m g j i a s A H E I f st u;subst l m g;obtain⟨x,q,D,p,r,y⟩:=f it (by simp);exact wpAny_pyNext_range_end (I.ok.hd j) st (by have:n<=i:=u;omega) λd C=>⟨rfl,I.turned (t':=s.toks) (λb o c e=>C b o c e) x q p r y⟩
 self:=λ_ _ _ _ _ st h=>wpAny_pyIter_rangeiter st h
theorem oA (a b:Int):Builtin.Range.rangeSize a b (-1)=if b<a then a-b else 0:=by unfold Builtin.Range.rangeSize;simp only[show ¬ (-1:Int) > 0 by decide,if_false,Int.neg_neg,Int.ediv_one];split<;>omega
section
variable {X:Cx}{tg:Expr}{W:WT}{pos:Pos}
theorem xj {a:GX}{c:St}{H:Hp}{s:Shared}{R:It->Hp->Prop}{E:GW}{lo hi:Int}{t u v:Tok}{tk:Nat}(I:Inv X a c H s)(l : -(2 ^ 62)<=lo)(i:lo<2 ^ 62)(j : -(2 ^ 62)<=hi)(k:hi<2 ^ 62)
  (q:R (RY lo (lo-hi).toNat) H):wpAny (model X.prog X.w) X.A (pyIter (.ref s.heap.objs.size)) (Sk X a c tg R) E { s with heap:=s.heap.push { cls:=.type "range",data:=.fields #[.int lo t,.int hi u,.int (-1) v] },toks:=tk }:=by
 refine wpAny_pyIter_range (IsRange.new ..) ?_ ?_
 ·unfold Builtin.Range.small;rw[oA];simp only[Builtin.Range.rangeFitsLong,and_eq_true,or_eq_true,decide_eq_true_eq,beq_iff_eq,show ¬ (-1:Int) > 0 by decide,if_false];split<;>omega
 have d:Inv X a c H { s with heap:=s.heap.push { cls:=.type "range",data:=.fields #[.int lo t,.int hi u,.int (-1) v] },toks:=tk }:=I.kept λb o e=>Heap.get?_push_of_some _ e
 refine⟨(s.heap.push { cls:=.type "range",data:=.fields #[.int lo t,.int hi u,.int (-1) v] }).objs.size,[(s.heap.push { cls:=.type "range",data:=.fields #[.int lo t,.int hi u,.int (-1) v] }).objs.size],_,_,H,rfl,
  d.kept (t':=tk) λb o e=>Heap.get?_push_of_some _ e,wZ _ lo (lo-hi).toNat,?_,λb h=>?_,q⟩
 ·have g:lo+((0:Nat):Int)*(-1)=lo:=by simp
  have f:(((lo-hi).toNat:Nat):Int)-((0:Nat):Int)=Builtin.Range.rangeSize lo hi (-1):=by rw[oA];split<;>omega
  show IsRangeIter _ _ (lo+((0:Nat):Int)*(-1)) ((((lo-hi).toNat:Nat):Int)-((0:Nat):Int)) (-1);rw[g,f];exact Heap.get?_push_size _ rfl
 have e:b=(s.heap.push { cls:=.type "range",data:=.fields #[.int lo t,.int hi u,.int (-1) v] }).objs.size:=by simpa using h
 subst e;exact d.JH (le_refl _) (d.Hq.fresh (le_refl _))
theorem xu {a b c:Expr}{m:TA}{p pos:Pos}(A:Gl X "range")(B:X.mg "range"=none)(o:PA X [a,b,c] m)(v:starEach [a,b,c] X.env=(false,eval a X.env)::starEach [b,c] X.env:=by rfl)(n:(backTo pos (starEach [b,c] X.env)).any (·.1)=false:=by rfl) :
  PI X tg (.Call (.Name "range" p) [a,b,c] [] pos) (λg H R=>m g H λvs l => ∃ i j:Int,vs=[.int i,.int j,.int (-1)]/\(-1000<=i/\i<2 ^ 25/\-1000<=j/\j<2 ^ 25)/\R (RY i (i-j).toNat) l):=by
 intro f s g H R I h;refine Call_ (i4 I A B boot_range (PyProof.Rows.callWith_type1 (Hk (o pos f s g H _ I h) λC D w=>?_) v n));obtain⟨vs,l,y,u,k⟩:=w;obtain⟨i,j,e,⟨k,G,J,E⟩,q⟩:=k;subst e;cases u with
 |cons r d =>
  cases d with
  |cons x d =>
   cases d with
   |cons z d =>
    cases d;obtain⟨t,rfl⟩:=r;obtain⟨F,rfl⟩:=x;obtain⟨t2,rfl⟩:=z;exact call_range_3 (by decide) (xj y (by omega) (by omega) (by omega) (by omega) q)
def rN:List D->Option (List D)
 |[.int i,.int j,.int k]=>if -1000<=i/\i<16000000/\-1000<=j/\j<2 ^ 25/\k = -1 then some ((List.range (i-j).toNat).map λ(k:Nat)=>D.int (i-k)) else none
 |_=>none
theorem Walk.down {J:List Addr}{H:Hp}(lo:Int)(n:Nat)(hz:n<=sizeLine):Walk X (RY lo n) ((List.range n).map λ(k:Nat)=>D.int (lo-k)) J H where
 len:=by rw[length_map,length_range];exact hz
 go:=λb c i x a=>by rw[length_map,length_range] at a;exact a
 Lu:=λb c i v d x e a y=>by
  obtain⟨rfl,rfl⟩:=y;rw[length_map,length_range] at a;exact⟨.int (lo-i),by rw[getElem?_map,getElem?_range a];rfl,At.G2.mpr rfl,Hb.refl _⟩
 stop:=λb c i x a=>by rw[length_map,length_range] at a;exact a
theorem w_ {tg a b c:Expr}{t:GU (List D)}{x:Str}{p:Pos}(o:x="range")(B:X.mg x=none)(f:SA X W [a,b,c] t)(w:Gl X x:=by rfl)(g:starEach [a,b,c] X.env=(false,eval a X.env)::starEach [b,c] X.env:=by rfl)(e:(backTo pos (starEach [b,c] X.env)).any (·.1)=false:=by rfl) :
  SI X W tg (.Call (.Name x p) [a,b,c] [] pos) (fV rN t):=by
 subst o;refine PI.imp (xu w B f g e) λC H R h=>(gO h).mono λE y l=>?_;obtain⟨J,S,es,P,s,m,d,z⟩:=l;unfold rN at d;split at d
 ·rename_i i j k;split at d
  ·rename_i c;obtain⟨K,O,L,F,rfl⟩:=c;cases d;obtain⟨v,r,rfl,A,n⟩:=G5.G3.mp m;obtain⟨N,G,rfl,q,n⟩:=G5.G3.mp n;obtain⟨M,I,rfl,u,n⟩:=G5.G3.mp n;cases G5.G7.mp n;cases At.G2.mp A;cases At.G2.mp q;cases At.G2.mp u;exact⟨i,j,rfl,⟨by omega,by omega,by omega,by omega⟩,z y _ (Hb.refl _) (Walk.down i (i-j).toNat (by show (i-j).toNat<=16777216;omega))⟩
  cases d
 cases d
end
theorem Ac (l:Addr)(items:Array Value)(n:Nat)(b:Addr)(a:Array Value)(j:Nat)(o:Option Addr)(f:Array (Option Value))(r:¬(!items.isEmpty&&Builtin.List.listTooLong (items.size+a.size))=true)(k:items.size<=sizeLine)(e:items.size+a.size<=sizeLine+1) :
  Meets (Builtin.«list.extend» ⟨[.ref l,.ref b],[]⟩) (λ_ R s=>s.heap.get? l=some { cls:=.type "list",data:=.seq items n }/\s.heap.get? b=some { cls:=.type "tuple",dict:=o,data:=.seq a j,slots:=f }/\R (.ok (.ret Value.none)) { s with heap:=s.heap.update l (Obj.mapSeq λx=>x++a) }):=
 .of_wp λprog w A R s h=>by
  obtain⟨p,g,d,tk,os⟩:=s;obtain⟨c,m,h⟩:=h;have q:=AutoSeq1.sub_tuple_tuple;have t:=AutoSeq1.sub_list_list;have u:=AutoSeq1.sub_tuple_list;have v:=AutoSeq1.sub_list_tuple;have i:(items++a).size<=sizeLine+1:=by rw[size_append];exact e
  wp_walk using (wpAny_updateSeq c rfl (hz:=k) (_hz':=i)),AutoSeq1.wpAny_loadPart' c,AutoSeq1.wpAny_loadPart' m;exact⟨_,rfl,h⟩
section
variable {X:Cx}{W:WT}{Hw apos:Pos}{o a:Expr}{fo fe:GU D}
theorem uX:Uu X "list.extend" λx vs H Q => ∃ l b xs a,x = .ref l/\vs=[.ref b]/\H l=some (.lst xs)/\Kn X.K H b a/\xs.length+a.length<=sizeLine/\Q .Ho (upd H l (.lst (xs++a))):=by
 intro i s J H x vs v D Q I A p h;obtain⟨l,b,xs,a,rfl,rfl,f,j,N,q⟩:=h;cases A;obtain⟨u,rfl,k⟩:=p.one;cases k;obtain⟨z,its,n,r,O,e⟩:=I.Qg f;obtain⟨c,g,⟨⟨G,C,E,B⟩,m,t,w,o⟩,M⟩:=I.tuple j;cases t;cases o;have L:=g.length;have d:its.toArray.size+c.toArray.size<=sizeLine:=by rw[size_toArray,size_toArray];omega
 have y:¬ (!its.toArray.isEmpty&&Builtin.List.listTooLong (its.toArray.size+c.toArray.size))=true:=by rw[zx d,Bool.and_false];exact Bool.false_ne_true
 refine call_meets F.slot_list_extend ⟨_,e,rfl⟩ F.entry_list_extend (F.args_list_extend_2 _ _)
  (Ac l its.toArray n b c.toArray w C B y (by rw[size_toArray];omega) (by omega)) ⟨e,m,?_⟩
 refine⟨.Ho,_,I.Qf (its':=its++c) f e (by simp) (r.append g) ?_,rfl,q⟩;rw[List.length_append];omega
def yc (d v:D)(S:G0):Out D:=match d,v with
 | .loc l,.tup a=>(match S[l]? with
  |some (.lst xs)=>if xs.length+a.length<=sizeLine then G9 .Ho (S.set l (.lst (xs++a))) else none
  |_=>none)
 |_,_=>none
def DL (fo fe:GU D):GU D:=λa S=>ai (fo a S) λd b=>ai (aK (cz d b) b) λ_ c=>ai (fe a c) λv e=>yc d v e
theorem CJ {name:Str}(M:name="extend")(P:SE X W o fo)(O:SE X W a fe)(JU:attributeBase o name X.env (eval o X.env)=eval o X.env:=by rfl)
  (T:((backTo Hw (starEach [a] X.env)).all (λx => !x.1)&&(backToKw Hw (keywordEach [] X.env)).all (λx=>x.1.isSome)
   && decide ([a].length+([]:List Keyword).length+(if ([]:List Keyword).isEmpty then 0 else 1)<30))=true:=by rfl)
  (JV:(apos.endLine==Hw.line)=true:=by rfl) (s:starEach [a] X.env=(false,eval a X.env)::starEach [] X.env:=by rfl) (IZ:(backTo Hw (starEach [] X.env)).any (·.1)=false:=by rfl) :
  SE X W (.Call (.Attribute o name apos) [a] [] Hw) (DL fo fe):=by
 subst M;refine PE.imp (zo F.plainAttrs_list F.slot_list_extend F.type_list_extend uX P (dM O Ib s) JU T JV s IZ) λZ H Q h=>(tG.Ha h).mono λx L E=>?_;obtain⟨d,V⟩:=E;obtain⟨J,j,S,r,S',c,m,f,z⟩:=V
 try dsimp only at f
 obtain⟨k,_⟩:=m.G6;cases q:cz d S with
 |none=>rw[q] at f;cases f
 |some xs =>
  rw[q,bt,dz] at f;obtain⟨l,i,N,rfl,rfl,hq,es,eh,mu⟩:=kB c.Hu k q;refine⟨.inl ⟨rfl,N,.inl (.inl eh)⟩,?_⟩;have R:tG X W (RD X) [.loc l] [.ref i] (λj g=>ai (fe j g) λv S3=>yc (.loc l) v S3) Z L Q:=⟨J,j,S,r,S',c,.cons k .nil,f,z⟩;refine(tG.Ha R).mono λy H2 ⟨p,h3⟩=>?_;show pW _ _ _;obtain⟨I,C,g,r2,QL,n,m2,e,z2⟩:=h3;obtain⟨my,m2⟩:=m2.G6;obtain⟨Y,_⟩:=m2.G6;have e:yc (.loc l) p g=some (r2,QL):=e;cases p with
  |tup ys =>
   unfold yc at e;simp only at e;split at e
   ·rename_i U D;split at e
    ·rename_i lt;cases e;obtain⟨q2,e3,B⟩:=At.Hc.mp Y;cases e3;obtain⟨M8,K,u⟩:=n.Hu.at_ l i _ B D;obtain⟨b,A,rfl,tq,w⟩:=At.He.mp my;have up:=n.Hu.update (o:=.lst (M8++A)) (mo:=.lst (U++ys)) B λJ' H' t G eJ=>by subst G eJ;exact⟨_,G_,(u.ex t).append (w.ex t)⟩
     exact⟨i,b,M8,A,rfl,rfl,K,tq.sq,by rw[← u.length,← w.length];exact lt,z2 I _ _ up.2 up.1 (At.HK.mpr rfl)⟩
    cases e
   cases e
  |_=>cases e
end
section
variable {X:Cx}{W:WT}
def nQ (n:Nat)(ix:List Nat)(fi:GU (List D))(u:D->G1->Option G1)(gt:GU Bool)(fe:GU D):GU D:=λa S=>ai (fi a S) λc b =>
 match bD u gt fe c (bP n ix a) b with
 |some (out,S2)=>G9 (.loc S2.length) (S2++[.lst out])
 |none=>none
theorem vo {fi:GU (List D)}{u:D->G1->Option G1}{gt:GU Bool}{fe:GU D}{n:Nat}{ix:List Nat}{g:St}{H:Hp}{Q:VK}(h:tE X W (nQ n ix fi u gt fe) g H Q) :
  iW X W fi g H λj f => ∃ d ρ a S2 ds out,Cf X d ρ a g f/\Walk X j ds d f/\bD u gt fe ds (bP n ix ρ) a=some (out,S2)/\∀ b H' v,Ex d f b H'->Hr X.K b (S2++[.lst out]) H'->At X.K H' b (.loc S2.length) v->Q v H':=by
 obtain⟨J,ρ,S,r,y,c,_,e,z⟩:=h;unfold nQ at e;cases q:fi ρ S with
 |none=>simp[q] at e
 |some o =>
  obtain⟨t,a⟩:=o;simp only[q] at e;cases t with
  |error x =>
   cases e;exact⟨J,ρ,S,.error x,_,c,q,z⟩
  |ok ds =>
   simp only[eD] at e;cases qc:bD u gt fe ds (bP n ix ρ) a with
   |none=>rw[qc] at e;cases e
   |some p =>
    obtain⟨out,S2⟩:=p;rw[qc] at e;cases e;exact⟨J,ρ,S,.ok ds,a,c,q,λd f j i s w=>⟨d,ρ,a,_,ds,out,c.re i s,w,qc,λb H' v l m k=>z b H' v (i.trans l) m k⟩⟩
theorem rE {g iter elt:Expr}{ifs:List Expr}{scope:Scope}{pos K j:Pos}{fi:GU (List D)}{u:D->G1->Option G1}{gt:GU Bool}{fe:GU D}{ts:List Str}{ix:List Nat}{i:Nat}{y:Str}
  (hN:X.N.Nodup) (M:X.calm=true) (Sc:Ik scope X.env) (K0:∀ t∈ix,scope.names.lookup (X.N.getD t Str.empty)=some .free) (hi:SI X W g iter fi) (MG:D5 X scope ts ix g ifs elt u gt fe)
  (P:X.N[i]?=some y:=by rfl) (S:Loc X.env.scope y:=by first |exact Or.inl rfl |exact Or.inr rfl) (S8:swapsWith (.ListComp elt [⟨g,iter,ifs,0⟩] scope pos) (some (.Name y j)) K.line X.env=pure true:=by rfl)
  (hf:X.fn y=true∨X.env.scope.names.lookup y=some .local:=by first |exact .inl rfl |exact .inr rfl |assumption)
  (hs:∀ x,foldedSetIterable iter X.env x=pure x:=by intro _;rfl):SS X W (.Assign [.Name y j] (.ListComp elt [⟨g,iter,ifs,0⟩] scope pos) K) (bz i (nQ ts.length ix fi u gt fe)):=by
 intro c s r H E I h;obtain⟨cl,MH,h1,Z⟩:=je I Sc;have h:=tS.Ha h;rw[exec_Assign_Name_used _ _ _ _ S8];refine wpAny_bind (wpAny_standAt (wpAny_bind ?_));show wpAny _ X.A (do let _ ← comprehension (.ListComp elt [⟨g,iter,ifs,0⟩] scope pos) scope X.env _ (newList []) false (eval iter X.env) (some (assign (.Name y j) X.env))) _ _ s;refine wpAny_bind (wpAny_mono (wpAny_comprehension_free (use:=some (assign (.Name y j) X.env)) (Q:=λ_ d=>SP X c E .next d) rfl hs MH Sc.kind Sc.names ?_) (λ_ d hq=>wpAny_pure (wpAny_pure hq)) λ_ _ e=>e);refine Hk (hi c s r H _ I (vo h)) λv s1 LW=>Hk LW λPZ s2 Mh=>?_;obtain⟨it,fp,tn,Jt,H2,e,I2,T,t0,f2,J0,ρ,S1,S2,ds,out,U,wk,ec,fin⟩:=Mh;subst e;refine kK M Sc h1 Z K0 MG I2 T t0 f2 U wk ec λa C d w=>?_;obtain⟨m,V⟩:=w.ns;obtain⟨o1,o2,B,O⟩:=w.own;obtain⟨p,l,k,I',x',F,ad,n,lz,hC⟩:=w.fin d.heap λ_ _=>rfl;have S9:Inv X c r (upd l a (.lst k)) d:=I'
 have x2:Ex p l (p++[a]) (upd l a (.lst k)):=⟨⟨[a],rfl⟩,λb u f nb=>⟨by rw[aF (aJ f n)];exact f,λz=>by
   rcases mem_append.mp z with z |z
   ·exact nb z
   exact aJ f n (by simpa using z)⟩⟩
 have J:=F.push (o:=.lst k) (mo:=.lst out) n ⟨k,G_,ad.ex x2⟩;have q:=fin (p++[a]) _ (.ref a) (x'.trans J.2) J.1 (At.Hc.mpr ⟨a,rfl,by rw[← F.len,getElem?_append_right (le_refl _)];simp⟩);show wpAny _ X.A (assign (.Name y j) X.env (.ref a)) _ _ d;refine wpAny_assign_Name (ki S9 hN P S (v:=.ref a) rfl (λG L R=>?_) hf);obtain⟨ad,sb,hd⟩:=R
 have S_:C≠ad:=by
  rcases hd with z |z
  ·rw[z];exact o2
  exact(B y ad z).symm
 refine⟨m,V.sameBut sb S_,λY Ta=>?_⟩;have I4:Inv X c (r.set i (some (.ref a))) (upd l a (.lst k)) { G with heap:=Y }:=L.turned (t':=G.toks) (it:=C) (λb o f e=>(Ta.2 b f).trans e) hC o2 (.inr o1) B O;obtain⟨Jq,ρq,Sq,dq,rq,Wq,cq,mq,eq,zq⟩:=q;cases eq;exact⟨_,_,I4,zq Jq _ _ Ex.refl (cq.set mq)⟩
end
def gJ (xs:List D):Option D:=if xs.length<4000 then (iP xs).bind λa=>(dE ((a.foldl cW []).map O2)).map .lst else none
section
variable {X:Cx}{W:WT}{x y:Str}{p p2 pos LG:Pos}{fe:GU D}
def kO (fe:GU D):GU D:=λb S=>ai (fe b S) λd a=>aK ((cz d a).bind gJ) a
theorem rH {a:Expr}(K:x="sorted")(B:y="set")(j:X.calm=true)(U:X.mg x=none)(G:X.mg y=none)(e:SE X W a fe)(O:Gl X x:=by rfl)(V:Gl X y:=by rfl)
  (o:starEach [a] X.env=(false,eval a X.env)::starEach [] X.env:=by rfl)
  (s:starEach [(.Call (.Name y p2) [a] [] LG)] X.env=(false,eval (.Call (.Name y p2) [a] [] LG) X.env)::starEach [] X.env:=by rfl)
  (M:(backTo LG (starEach [] X.env)).any (·.1)=false:=by rfl) (E:(backTo pos (starEach [] X.env)).any (·.1)=false:=by rfl) :
  SE X W (.Call (.Name x p) [.Call (.Name y p2) [a] [] LG] [] pos) (kO fe):=by
 subst K B;have inner:=ko (X:=X) (p:=p2) (pos:=LG) (BZ j) V G DS (dM e Ib o) (by decide) (by decide) o M;refine PE.imp (jD (qL j) O U iC (dM inner Ib s) (by decide) (by decide) s E) λσ H Q h=>?_;refine(tG.Ha h).mono λv P ⟨d,T⟩=>?_;obtain⟨J,Y,S,r,S',c,m,eq,z⟩:=T;dsimp only at eq;obtain⟨u,_⟩:=m.G6;show pW _ _ _;cases q:cz d S with
 |none=>rw[q] at eq;cases eq
 |some N =>
  rw[q,bind_some] at eq;cases qs:gJ N with
  |none=>rw[qs] at eq;cases eq
  |some dr =>
   rw[qs] at eq;cases eq;obtain⟨l,L,Z,rfl,rfl,hq,es,F,i⟩:=kB c.Hu u q;unfold gJ at qs;split at qs
   ·rename_i hb;obtain⟨b,f,D⟩:=bind_eq_some_iff.mp qs;obtain⟨out,w,C⟩:=map_eq_some_iff.mp D;subst C;have ev:=wo f i;subst ev;refine⟨L,b,rfl,.inl (.inl F),by rw[oZ f];omega,λp g=>?_⟩;refine⟨p,b.foldl cW [],J,(b.foldl cW []).map O2,out,rfl,G_,λa e=>?_,t5 λk R=>?_,w,λt v I A=>?_⟩
    ·by_cases z:a=p
     ·rw[z,G_];simp
     rw[aF z];exact c.Hu.all a e
    ·rcases (sO b [] k).mp R with h |h
     ·cases h
     exact(sK f i k h).ex (Ex.same (aM g _))
    have n:Hb P t:=(aM g _).trans I;exact z J t v (Ex.same n) (c.Hu.same n) A
   cases qs
end
theorem fL {env:Env}{x:Str}:∀ {names:List (Str×NameKind)},names.lookup x=some .cell ->
  (names.map λ(n,k)=>if (k==NameKind.free&&env.scope.kind==.function&&env.kindOf n==some .cell) then (n,NameKind.cell) else (n,k)).lookup x=some .cell
 |[],h=>by simp at h
 |(n,k0)::r,h=>by
  rw[map_cons];rw[lookup_cons] at h;by_cases a:(k0==NameKind.free&&env.scope.kind==.function&&env.kindOf n==some .cell)=true
  ·simp only[a,if_true,lookup_cons];cases hx:x==n with
   |true=>rfl
   |false=>rw[hx] at h;exact fL h
  simp only[a,if_false,lookup_cons,false_eq_true];cases hx:x==n with
  |true=>rw[hx] at h;exact h
  |false=>rw[hx] at h;exact fL h
theorem mV {names:List (Str×NameKind)}{outer:Scope}{a:List (Str×Addr)}{C:Addr}{env:Env}(h:∀ y∈names,y.2=NameKind.free->outer.names.lookup y.1=some .cell∨outer.names.lookup y.1=some .free) :
  ∀ y∈names,y.2=NameKind.free->(compEnvC outer a C env).kindOf y.1=some .cell∨(compEnvC outer a C env).kindOf y.1=some .free:=λy c b=>by
 rcases h y c b with q |q
 ·exact .inl (fL q)
 exact dJ q
end L2
namespace L2
open PySem PyProof.Rows
section
variable (f g:GU D) (ρ:G1) (S:G0) (i:Nat) (k:Bool)
@[simp] theorem GD (d:D):aE d ρ S=G9 d S:=rfl
@[simp] theorem GF (op:D->D->Option D):aG op f g ρ S=ai (f ρ S) λx a=>ai (g ρ a) λy S2=>aK (op x y) S2:=rfl
@[simp] theorem GJ (op:D->Option D):Qi op f ρ S=ai (f ρ S) λx a=>aK (op x) a:=rfl
@[simp] theorem Gk:a9 f ρ S=ai (f ρ S) λx a=>aK (Me x) a:=rfl
@[simp] theorem Fs (a b:D->D->Option D)(h:GU D):DM a b f g h ρ S=ai (f ρ S) λx d=>ai (g ρ d) λy S2=>ai (aK ((a x y).bind Me) S2) λk c=>if k=true then ai (h ρ c) λz e=>aK (b y z) e else G9 (.bl false) c:=rfl
@[simp] theorem F_ (a b:GU Bool):Aw a b ρ S=ai (a ρ S) λk c=>if k=true then b ρ c else G9 false c:=rfl
@[simp] theorem Gq (a b:GU Bool):DJ a b ρ S=ai (a ρ S) λk c=>if k=true then G9 true c else b ρ c:=rfl
@[simp] theorem FZ (a:GU Bool):Aq a ρ S=ai (a ρ S) λk b=>G9 (!k) b:=rfl
@[simp] theorem GH:Gd f g ρ S=ai (f ρ S) λx a=>ai (aK (Me x) a) λk S2=>if k=true then g ρ S2 else G9 (.bl false) S2:=rfl
@[simp] theorem GL:V6 f g ρ S=ai (f ρ S) λx a=>ai (aK (Me x) a) λk S2=>if k=true then G9 (.bl true) S2 else g ρ S2:=rfl
@[simp] theorem Gr:Gb f ρ S=ai (f ρ S) λx a=>ai (aK (Me x) a) λk S2=>G9 (.bl (!k)) S2:=rfl
@[simp] theorem Gy (t:GU Bool):oa t f g ρ S=ai (t ρ S) λk a=>if k=true then f ρ a else g ρ a:=rfl
@[simp] theorem E6:ar ρ S=G9 [] S:=rfl
@[simp] theorem DD (t:GU (List D)):af f t ρ S=ai (f ρ S) λd a=>ai (t ρ a) λds S2=>G9 (d::ds) S2:=rfl
@[simp] theorem Gj (t:GU (List D)):gu t ρ S=ai (t ρ S) λds a=>aK (Jc ds (.tup ds)) a:=rfl
@[simp] theorem Gw (t:GU (List D)):n_ t ρ S=ai (t ρ S) λds a=>aK (Jc ds (.lst ds)) a:=rfl
@[simp] theorem F8 (h:List D->Option D)(t:GU (List D)):bn h t ρ S=ai (t ρ S) λds a=>aK (h ds) a:=rfl
@[simp] theorem F0:dw ρ S=G9 (.next ρ) S:=rfl
@[simp] theorem Cn (a b:GU Fl):aO a b ρ S=ai (a ρ S) λe d=>match e with
 | .next c=>b c d
 |o=>G9 o d:=rfl
@[simp] theorem Go:bh f ρ S=ai (f ρ S) λd a=>G9 (.ret d) a:=rfl
@[simp] theorem GO (t:GU Bool)(a b:GU Fl):KZ t a b ρ S=ai (t ρ S) λk c=>if k=true then a ρ c else b ρ c:=rfl
@[simp] theorem Gm:bz i f ρ S=ai (f ρ S) λd a=>G9 (.next (ρ.set i (some d))) a:=rfl
@[simp] theorem GA (fi:GU (List D))(u:D->G1->Option G1)(b:GU Fl):jh fi u b ρ S=ai (fi ρ S) λds a=>fB u b ds ρ a:=rfl
@[simp] theorem Gn (h:List D->Option (List D))(t:GU (List D)):fV h t ρ S=ai (t ρ S) λds a=>aK (h ds) a:=rfl
@[simp] theorem Fk:aW f ρ S=ai (f ρ S) λd a=>aK (bX d) a:=rfl
@[simp] theorem FV:cU ρ S=G9 true S:=rfl
@[simp] theorem GC (F:GZ)(t:GU (List D)):aN F t ρ S=ai (t ρ S) λds a=>iN (F ds a):=rfl
@[simp] theorem Fq (d:D):iN (G9 d S)=G9 d S:=rfl
@[simp] theorem E5 (d:D):iN (some (.ok d,S))=G9 d S:=rfl
@[simp] theorem GM:IA f g ρ S=ai (f ρ S) λx a=>ai (g ρ a) λy S2=>aK (HL x y S2) S2:=rfl
@[simp] theorem GN:Lr k f g ρ S=ai (f ρ S) λx a=>ai (g ρ a) λy S2=>aK (LY k x y S2) S2:=rfl
@[simp] theorem FW:wI f ρ S=ai (f ρ S) λd a=>aK (mJ d a) a:=rfl
@[simp] theorem Gs:tU ρ S=G9 (.loc S.length) (S++[.dict []]):=rfl
@[simp] theorem Gp (h:GU D):vA f g h ρ S=ai (h ρ S) λv a=>ai (f ρ a) λx S2=>ai (g ρ S2) λk b=>rQ x k v ρ b:=rfl
@[simp] theorem F7 (n:Nat)(ix:List Nat)(fi:GU (List D))(u:D->G1->Option G1)(gt:GU Bool):bA n ix fi u gt f ρ S=ai (fi ρ S) λds a =>
 match bD u gt f ds (bP n ix ρ) a with
 |some (out,S2)=>G9 (.lst out) S2
 |none=>none:=rfl
@[simp] theorem GK (op:D->Option Int->Option Int->Option D)(lo hi:Option (GU D)):ON op f lo hi ρ S=ai (f ρ S) λx a=>ai (jS lo ρ a) λl S2=>ai (jS hi ρ S2) λu b=>aK (op x l u) b:=rfl
@[simp] theorem Fp:jS none ρ S=G9 none S:=rfl
@[simp] theorem Fo:jS (some f) ρ S=ai (f ρ S) λd a=>aK (xU d) a:=rfl
@[simp] theorem Gv (a:D->Bool)(op:D->D->Option D):As a op f g ρ S=ai (f ρ S) λx b=>if a x=true then ai (g ρ b) λy S2=>aK (op x y) S2 else none:=rfl
@[simp] theorem Gi (d:D)(h : ρ[i]?=some (some d)):ah i ρ S=G9 d S:=by unfold ah;rw[h]
@[simp] theorem Fj (d:D):aC i d ρ=some (ρ.set i (some d)):=rfl
@[simp] theorem GE (b:Bool):Me (.bl b)=some b:=rfl
end
@[simp] theorem bu {ds:List D}{d:D}(h:ds.length<=1000):Jc ds d=some d:=by
 unfold Jc;rw[if_pos (Nat.le_trans h (by decide))]
theorem az {n m:Nat}{G:GU Fl}{ds:List D}{S a:G0}{d:D}(b:ds.length=n)(h:G (ds.map some++replicate m none) S=G9 (.ret d) a):aZ n m G ds S=G9 d a:=by unfold aZ;rw[if_pos b,h];rfl
theorem dj {u:D->G1->Option G1}{gt:GU Bool}{fe:GU D}(I:G1->Prop)(g:D->Bool)(f:D->D)(S:G0) :
  ∀ (ds:List D) (ρ:G1),I ρ->(∀ d∈ds,∀ ρ,I ρ->∃ a,u d ρ=some a/\I a/\gt a S=G9 (g d) S/\(g d=true->fe a S=G9 (f d) S))->bD u gt fe ds ρ S=some ((ds.filter g).map f,S)
 |[],ρ,_,_=>rfl
 |d::ds,ρ,hI,h=>by
  obtain⟨a,l,i,j,e⟩:=h d (mem_cons_self ..) ρ hI;have c:=dj I g f S ds a i λx k=>h x (mem_cons_of_mem _ k);rw[bD,l,bind_some,j];simp only[G9,OP,bind_some];by_cases b:g d=true
  ·rw[if_pos b,e b];simp only[G9,OP,bind_some,c,map_some,filter_cons,b,if_true,map_cons]
  rw[if_neg b,c,filter_cons,if_neg b]
theorem dW {u:D->G1->Option G1}{fe:GU D}(I:G1->Prop)(f:D->D)(S:G0)(ds:List D)(ρ:G1)(b:I ρ)
  (h:∀ d∈ds,∀ ρ,I ρ->∃ a,u d ρ=some a/\I a/\fe a S=G9 (f d) S):bD u cU fe ds ρ S=some (ds.map f,S):=by
 have q:=dj (u:=u) (gt:=cU) (fe:=fe) I (λ_=>true) f S ds ρ b λd hd ρ c=>by obtain⟨a,e,i,g⟩:=h d hd ρ c;exact⟨a,e,i,rfl,λ_=>g⟩
 rw[q,List.filter_eq_self.mpr λ_ _=>rfl]
theorem ck {u:D->G1->Option G1}{body:GU Fl}(I:Nat->G1->G0->Prop):∀ (ds:List D) (i:Nat) (ρ:G1) (S:G0),I i ρ S ->
  (∀ (j:Nat) d ρ S,ds[j]?=some d->I (i+j) ρ S->∃ k,u d ρ=some k/\∃ g l,body k S=G9 (.next g) l/\I (i+j+1) g l)->∃ g l,fB u body ds ρ S=G9 (.next g) l/\I (i+ds.length) g l
 |[],i,ρ,S,n,_=>⟨ρ,S,rfl,n⟩
 |d::ds,i,ρ,S,n,h=>by
  obtain⟨k,v,g,l,s,o⟩:=h 0 d ρ S rfl n
  obtain⟨m,w,p,r⟩:=ck I ds (i+1) g l o λj x ρ S t q=>by
   obtain⟨a,b,c,d,e,f⟩:=h (j+1) x ρ S (by simpa using t) (by rw[show i+(j+1)=i+1+j by omega];exact q);exact⟨a,b,c,d,e,by rw[show i+1+j+1=i+(j+1)+1 by omega];exact f⟩
  refine⟨m,w,?_,by rw[length_cons,show i+(ds.length+1)=i+1+ds.length by omega];exact r⟩;rw[fB,v];simp only[s,dz];exact p
mutual
def pl:D->Bool
 | .tup a=>Nq a
 | .lst a=>Nq a
 | .set _=>false
 | .loc _=>false
 | .fn _ _=>false
 |_=>true
def Nq:List D->Bool
 |[]=>true
 |d::ds=>pl d&&Nq ds
end
theorem v_:∀ {ds:List D},Nq ds=true↔∀ d∈ds,pl d=true
 |[]=>by simp[Nq]
 |d::ds=>by rw[Nq,and_eq_true,v_ (ds:=ds)];simp
mutual
theorem vR:∀ {d:D},pl d=true->∃ p,toPy d=some p
 | .Ho,_=>⟨_,rfl⟩
 | .bl _,_=>⟨_,rfl⟩
 | .int _,_=>⟨_,rfl⟩
 | .str _,_=>⟨_,rfl⟩
 | .tup b,h=>by
  rw[pl] at h;obtain⟨a,e⟩:=ju h;exact⟨.tuple a,by rw[toPy,e];rfl⟩
 | .lst b,h=>by
  rw[pl] at h;obtain⟨a,e⟩:=ju h;exact⟨.list a,by rw[toPy,e];rfl⟩
 | .set _,h=>by simp[pl] at h
 | .loc _,h=>by simp[pl] at h
 | .fn _ _,h=>by simp[pl] at h
theorem ju:∀ {ds:List D},Nq ds=true->∃ a,cG ds=some a
 |[],_=>⟨[],rfl⟩
 |d::ds,h=>by
  rw[Nq,and_eq_true] at h;obtain⟨p,b⟩:=vR h.1;obtain⟨a,c⟩:=ju h.2;exact⟨p::a,by rw[cG,b,c];rfl⟩
end
theorem oy:∀ {ds:List D}{a:List PyData},cG ds=some a->a.length=ds.length
 |[],a,e=>by cases e;rfl
 |d::ds,a,e=>by
  rw[cG] at e;obtain⟨p,_,f⟩:=bind_eq_some_iff.mp e;obtain⟨r,b,c⟩:=map_eq_some_iff.mp f;subst c;rw[length_cons,length_cons,oy b]
theorem B6 {α:Type}[BEq α][LawfulBEq α][DecidableEq α](a b : α):(a==b)=decide (a=b):=by by_cases h:a=b<;>simp[h]
@[simp] theorem BT (i j:Int):Jh (.int i) (.int j)=some (.bl (decide (i=j))):=by simp[Jh,toPy,PyData.eqv,PyData.depth,B6]
@[simp] theorem BF (i j:Int):K9 (.int i) (.int j)=some (.bl (!decide (i=j))):=by simp[K9,toPy,PyData.eqv,PyData.depth,B6]
@[simp] theorem FT (a b:Bool):Jh (.bl a) (.bl b)=some (.bl (a==b)):=by simp[Jh,toPy,PyData.eqv,PyData.depth]
theorem fK:∀ l:List Str,cG (l.map .str)=some (l.map .str)
 |[]=>rfl
 |a::l=>by rw[map_cons,cG,fK l];rfl
theorem nI:∀ l m:List Str,PyData.eqvAll (l.map .str) (m.map .str)=decide (l=m)
 |[],[]=>rfl
 |[],b::m=>by simp[PyData.eqvAll]
 |a::l,[]=>by simp[PyData.eqvAll]
 |a::l,b::m=>by
  rw[map_cons,map_cons,PyData.eqvAll,nI l m];simp only[PyData.eqv,List.cons.injEq];by_cases h:a=b<;>by_cases c:l=m<;>simp[h,c]
theorem nK:∀ l:List Str,PyData.depthAll (l.map .str)=0
 |[]=>rfl
 |a::l=>by rw[map_cons,PyData.depthAll,nK l];rfl
theorem BS {ds:List D}(h:Nq ds=true):Jh (.lst ds) (.lst [])=some (.bl (ds.isEmpty)):=by
 obtain⟨a,e⟩:=ju h;have b:toPy (.lst ds)=some (.list a):=by rw[toPy,e];rfl
 have l:=oy e;have c:toPy (.lst [])=some (.list []):=rfl;unfold Jh;rw[b,c];cases a with
 |nil=>cases ds with
  |nil=>simp[PyData.depth,PyData.depthAll,PyData.eqv,PyData.eqvAll]
  |cons _ _=>simp at l
 |cons p a=>cases ds with
  |nil=>simp at l
  |cons _ _=>simp[PyData.depth,PyData.depthAll,PyData.eqv,PyData.eqvAll]
theorem Xq (x a b c:Str):inD (.str x) (.tup [.str a,.str b,.str c])=some (.bl (decide (a=x) ||(decide (b=x) ||decide (c=x)))):=by simp[inD,vg,toPy,cG,uK,PyData.eqv,PyData.depth,B6]
theorem qT (f:D->Bool):∀ ds:List D,vC (ds.map λd => .bl (f d))=some (ds.map f)
 |[]=>rfl
 |d::ds=>by rw[map_cons,vC,qT f ds];rfl
theorem uc (f:D->Bool)(ds:List D):ud [.lst (ds.map λd => .bl (f d))]=some (.bl (ds.all f)):=by rw[ud,qT];simp[all_map]
section
variable (ρ:G1) (S:G0)
@[simp] theorem F6 (F:GZ)(t:GU (List D)):E9 F t ρ S=ai (t ρ S) λds a=>F ds a:=rfl
@[simp] theorem Fm (c:Str)(t:GU (List D)):DI c t ρ S=ai (t ρ S) λds a=>ai (aK (Jc ds .Ho) a) λ_ S2=>some (.error c,S2):=rfl
@[simp] theorem Gz (a:Str->Option Bool)(f:GU D):Gc a f ρ S=ai (f ρ S) λd b=>aK (ER a d b) b:=rfl
end
end L2
namespace Hf
open PySem L2
def z_:GU Fl:=
  (bh (aG Jh (bn dh (af (ah 0) ar)) (aE (.int 3))))
def h9:GZ:=aZ 1 0 z_
def jI:GU Fl:=
  (bh (oa (a9 (aN h9 (af (ah 0) ar))) (ON MF (ah 0) (some (aE (.int 1))) none) (gu ar)))
def cb:GZ:=aZ 1 0 jI
def nF:GU Fl:=
  (bh (oa (a9 (aN h9 (af (ah 0) ar))) (As eA iz (ah 1) (IA (ah 0) (aE (.int 0)))) (bn dh (af (ah 1) ar))))
def jk:GZ:=aZ 2 0 nF
def pf:GU Fl:=
  (aO (bz 4 (ym (ah 0) (ah 1)))
  (bh (oa (a9 (aG Jh (IA (ah 4) (aE (.int 0))) (ah 2))) (IA (ah 4) (aG bE (aE (.int 1)) (ah 3))) (ah 1))))
def kT:GZ:=aZ 4 1 pf
def bW (rec:GZ):GU Fl:=
  (KZ (a9 (Lr true (ah 3) (ah 2))) (nP (aN rec (af (ah 0) (af (ah 3) (af (ah 2) ar))))) dw)
def di (rec:GZ):GU Fl:=
  (aO (jh (aW (aN cb (af (ym (ah 0) (ah 1)) ar))) (aC 3) (bW rec))
  (vA (ah 2) (ah 1) (aE (.bl true))))
def a_:Nat->GZ
 | 0=>λ_ _=>none
 |n+1=>aZ 3 1 (di (a_ n))
def gU:GU Fl:=
  (aO (bz 2 tU)
  (aO (nP (aN (a_ 10) (af (ah 0) (af (ah 1) (af (ah 2) ar)))))
  (bh (kL (ah 2)))))
def eI:GZ:=aZ 2 1 gU
def gT:GU Fl:=
  (bh (oa (a9 (aN h9 (af (ah 0) ar))) (gu (af (IA (ah 0) (aE (.int 0))) (af (IA (ah 1) (IA (ah 0) (aE (.int 1)))) (af (IA (ah 1) (IA (ah 0) (aE (.int 2)))) ar)))) (ah 0)))
def eE:GZ:=aZ 2 0 gT
def gH:GU Bool:=
  (a9 (aG NI (ah 1) (aE .Ho)))
def gW:GU D:=
  (ah 0)
def jH:GU Fl:=
  (bh (bA 2 [] (fV nJ (af (ah 0) ar)) (lM 2 (bg (aC 0) (bg (aC 1) gF))) gH gW))
def fY:GZ:=aZ 1 0 jH
def dF:GU Fl:=
  (tV 1 (aE (.int 2)))
def eP:GU Fl:=
  (aO (bz 1 (aE (.int 1)))
  (aO (jh (aW (aN fY (af (ah 0) ar))) (aC 2) dF)
  (bh (ah 1))))
def cR:GZ:=aZ 1 2 eP
def pe:GU Fl:=
  (aO (bz 2 (oa (a9 (aN h9 (af (ah 0) ar))) (IA (ah 1) (IA (ah 0) (aE (.int 0)))) (aE .Ho)))
  (bh (oa (a9 (aG NI (ah 2) (aE .Ho))) (aN cb (af (ah 0) ar)) (gu (af (IA (ah 0) (aG bE (aE (.int 1)) (ah 2))) ar)))))
def kS:GZ:=aZ 2 1 pe
def eQ:GU D:=
  (aE (.int 0))
def cP:GU Fl:=
  (tW (ah 2) (ah 5) (aG cT (vB (ah 2) (ah 3)) (bn dh (af (ah 4) ar))))
def cO:GU Fl:=
  (aO (bz 4 (aN kS (af (IA (ah 0) (ah 3)) (af (ah 1) ar))))
  (jh (aW (ah 4)) (aC 5) cP))
def gm:GU Fl:=
  (aO (bz 2 (nQ 1 [] (aW (ah 0)) (aC 0) cU eQ))
  (aO (wM (ah 2) (Qi xE (aE (.int 1))) (aN cR (af (ah 1) ar)))
  (aO (jh (fV rN (af (aG rD (bn dh (af (ah 0) ar)) (aE (.int 1))) (af (Qi xE (aE (.int 1))) (af (Qi xE (aE (.int 1))) ar)))) (aC 3) cO)
  (bh (ah 2)))))
def cr:GZ:=aZ 2 4 gm
def eL:GU Bool:=
  (Aq (a9 (aN h9 (af (ah 0) ar))))
def g0:GU D:=
  (gu (af (IA (ah 0) (aE (.int 1))) (af (ah 1) ar)))
def kG:GU Fl:=
  (bh (bA 2 [] (fV AK (af (ah 0) (af (jT (aN cr (af (ah 0) (af (ah 1) ar)))) ar))) (lM 2 (bg (aC 0) (bg (aC 1) gF))) eL g0))
def kY:GZ:=aZ 2 0 kG
def b9:GU Bool:=
  (a9 (aG RH (IA (ah 0) (aE (.int 1))) (aE (.int 0))))
def b_:GU D:=
  (IA (ah 0) (aE (.int 0)))
def eB:GU Fl:=
  (bh (bA 1 [] (aW (aN kY (af (ah 0) (af (ah 1) ar)))) (aC 0) b9 b_))
def bq:GZ:=aZ 2 0 eB
def fX:GU Fl:=
  (nP (DL (ah 2) (ah 3)))
def i7:GU Fl:=
  (aO (bz 2 tR)
  (aO (jh (aW (aN bq (af (ah 0) (af (ah 1) ar)))) (aC 3) fX)
  (bh (bn gG (af (kO (ah 2)) ar)))))
def bC:GZ:=aZ 2 2 i7
def s9:GU D:=
  (Lr false (ah 1) (ah 0))
def rC:GU Bool:=
  (a9 (bn ud (af (bA 1 [0] (aW (ah 1)) (aC 0) cU s9) ar)))
def sW:GU D:=
  (ah 0)
def vj:GU Fl:=
  (aO (bz 2 (aN bq (af (ah 0) (af (ah 1) ar))))
  (bh (bn gG (af (bA 1 [2] (aW (IA (ah 2) (aE (.int 0)))) (aC 0) rC sW) ar))))
def fm:GZ:=aZ 2 1 vj
def dC:GU Fl:=
  (aO (nO "Rows" "order" (ah 0) (ah 1))
  (aO (nO "Rows" "gathered" (ah 0) tR)
  (aO (nO "Rows" "numbers" (ah 0) wJ)
  (nO "Rows" "choices" (ah 0) wJ))))
def bT:GZ:=aZ 2 0 dC
def cB:GU Fl:=
  (vA (ah 3) (ah 5) (ah 4))
def bO:GU D:=
  (aN eE (af (vB (hV "Rows" "gathered" (ah 2)) (ah 0)) (af (ah 1) ar)))
def fG:GU Fl:=
  (aO (bz 2 (aN eI (af (hV "Rows" "gathered" (ah 0)) (af (ah 1) ar))))
  (aO (bz 3 tU)
  (aO (jh (fV qG (af (ah 2) ar)) (lM 2 (bg (aC 4) (bg (aC 5) gF))) cB)
  (bh (bn gG (af (bA 1 [3,0] (aW (ah 2)) (aC 0) cU bO) ar))))))
def cZ:GZ:=aZ 2 4 fG
def aY:GU D:=
  (aN jk (af (vB (hV "Rows" "gathered" (ah 1)) (ah 0)) (af (hV "Rows" "order" (ah 1)) ar)))
def cL:GU Fl:=
  (aO (bz 4 (bA 1 [0] (aW (gu (af (ah 2) (af (ah 3) ar)))) (aC 0) cU aY))
  (bh (IA (hV "Rows" "order" (ah 0)) (bn sx (af (aG bE (ah 4) (n_ (af (As eA iz (hV "Rows" "order" (ah 0)) (ah 1)) ar))) ar)))))
def bQ:GZ:=aZ 4 1 cL
def cX:GU Fl:=
  (aO (KZ (a9 (Ar true (ah 1) (hV "Rows" "numbers" (ah 0)))) (aO (tQ (hV "Rows" "numbers" (ah 0)) (ah 1) (Al (hV "Rows" "gathered" (ah 0))))
  (nP (DN (hV "Rows" "gathered" (ah 0)) (ah 1)))) dw)
  (bh (wK (hV "Rows" "numbers" (ah 0)) (ah 1))))
def bH:GZ:=aZ 2 0 cX
def b7:GU Fl:=
  (bh (oa (a9 (aG Jh (ah 2) (ah 3))) (ah 2) (cV "Rows" "number_of" bH (ah 0) (af (gu (af (ah 1) (af (ah 2) (af (ah 3) ar)))) ar))))
def bB:GZ:=aZ 4 0 b7
def lB:GU Fl:=
  (bh (aN kT (af (hV "Rows" "gathered" (ah 0)) (af (ah 1) (af (ah 2) (af (ah 3) ar))))))
def bL:GZ:=aZ 4 0 lB
def cA (rec:GZ):GU Fl:=
  (aO (bz 4 (cV "Rows" "first_character" bQ (ah 0) (af (ah 1) (af (ah 2) (af (ah 3) ar)))))
  (aO (KZ (a9 (aG Jh (ah 4) (ah 1))) (bh (cV "Rows" "number_of_ask" bB (ah 0) (af (ah 1) (af (cV "Rows" "side" bL (ah 0) (af (ah 2) (af (ah 1) (af (aE (.int 0)) ar)))) (af (cV "Rows" "side" bL (ah 0) (af (ah 3) (af (ah 1) (af (aE (.int 1)) ar)))) ar))))) dw)
  (aO (bz 5 (cV "Rows" "choose" rec (ah 0) (af (ah 1) (af (cV "Rows" "side" bL (ah 0) (af (ah 2) (af (ah 4) (af (aE (.int 0)) ar)))) (af (cV "Rows" "side" bL (ah 0) (af (ah 3) (af (ah 4) (af (aE (.int 0)) ar)))) ar)))))
  (aO (bz 6 (cV "Rows" "choose" rec (ah 0) (af (ah 1) (af (cV "Rows" "side" bL (ah 0) (af (ah 2) (af (ah 4) (af (aE (.int 1)) ar)))) (af (cV "Rows" "side" bL (ah 0) (af (ah 3) (af (ah 4) (af (aE (.int 1)) ar)))) ar)))))
  (bh (cV "Rows" "number_of_ask" bB (ah 0) (af (ah 4) (af (ah 5) (af (ah 6) ar)))))))))
def cC (rec:GZ):GZ:=aZ 4 3 (cA rec)
def c9 (rec:GZ):GU Fl:=
  (aO (bz 4 (gu (af (ah 1) (af (ah 2) (af (ah 3) ar)))))
  (aO (KZ (a9 (Ar true (ah 4) (hV "Rows" "choices" (ah 0)))) (tQ (hV "Rows" "choices" (ah 0)) (ah 4) (oa (a9 (aG Jh (ah 2) (ah 3))) (ah 2) (cV "Rows" "choose_anew" (cC rec) (ah 0) (af (ah 1) (af (ah 2) (af (ah 3) ar)))))) dw)
  (bh (wK (hV "Rows" "choices" (ah 0)) (ah 4)))))
def dc:Nat->GZ
 | 0=>λ_ _=>none
 |n+1=>aZ 4 1 (c9 (dc n))
def dB (rec:GZ):GU Fl:=
  (aO (KZ (a9 (aG Jh (IA (ah 1) (aE (.int 0))) (aE (.str "names")))) (bh (cV "Rows" "number_of" bH (ah 0) (af (ah 1) ar))) dw)
  (bh (cV "Rows" "choose" (dc 9) (ah 0) (af (IA (ah 1) (aE (.int 1))) (af (aN rec (af (ah 0) (af (IA (ah 1) (aE (.int 2))) ar))) (af (aN rec (af (ah 0) (af (IA (ah 1) (aE (.int 3))) ar))) ar))))))
def cu:Nat->GZ
 | 0=>λ_ _=>none
 |n+1=>aZ 2 0 (dB (cu n))
def sU:GU Fl:=
  (aO (bz 2 (wL "Rows" bT (af (ah 1) ar)))
  (bh (cV "Rows" "fold_from" cZ (ah 2) (af (aN (cu 15) (af (ah 2) (af (ah 0) ar))) ar))))
def j0:GZ:=aZ 2 1 sU
def lA:GU Fl:=
  (aO (KZ (a9 (aG Qj (ah 1) (bn dh (af (ah 0) ar)))) (bh (IA (ah 0) (ah 1))) dw)
  (bh (aE (.int 0))))
def h8:GZ:=aZ 2 0 lA
def pz:GU Fl:=
  (aO (bz 2 (aG bS (aG cF (aG bE (aG bE (aN h8 (af (ah 0) (af (ah 1) ar))) (aG cF (aE (.int 7919)) (ah 1))) (aE (.int 1))) (aE (.int 48271))) (aE (.int 2147483647))))
  (bh (aG bS (aG bE (aG bE (aG cF (ah 2) (ah 2)) (aG cF (aE (.int 7)) (ah 2))) (ah 1)) (aE (.int 2147483629)))))
def aR:GZ:=aZ 2 1 pz
def pA:GU Fl:=
  (aO (bz 2 (aG bS (aG cF (aG bE (aG bE (ah 0) (aG cF (aE (.int 104729)) (ah 1))) (aE (.int 17))) (aE (.int 69621))) (aE (.int 2147483647))))
  (bh (aG bS (aG bE (aG bE (aG cF (ah 2) (ah 2)) (aG cF (aE (.int 3)) (ah 2))) (ah 1)) (aE (.int 2147483629)))))
def cY:GZ:=aZ 2 1 pA
def eW:GU Fl:=
  (bz 5 (aG bE (ah 5) (IA (ah 1) (aG bS (aG cT (ah 4) (aG bE (aG cF (aE (.int 31)) (ah 6)) (aE (.int 29)))) (aE (.int 26))))))
def eV:GU Fl:=
  (aO (bz 4 (aN cY (af (ah 0) (af (ah 3) ar))))
  (aO (bz 5 (IA (ah 1) (aG bS (ah 4) (aE (.int 26)))))
  (aO (jh (fV d6 (af (aG cF (aG bS (aG cT (ah 4) (aE (.int 26))) (aE (.int 8))) (aG bS (ah 0) (aE (.int 2)))) ar)) (aC 6) eW)
  (vA (ah 2) (aG bE (ah 5) (aG cF (aE (.str "q")) (bn intD (af (Lr false (ah 5) (aE (D.tup [(D.str "names"),(D.str "ask"),(D.str "end")]))) ar)))) (aE (.bl true))))))
def pc:GU Fl:=
  (aO (bz 1 (aE (.str "abcdefghijklmnopqrstuvwxyz")))
  (aO (bz 2 tU)
  (aO (jh (fV d6 (af (aE (.int 6)) ar)) (aC 3) eV)
  (bh (bn gG (af (wI (ah 2)) ar))))))
def kR:GZ:=aZ 1 6 pc
def gI:GU Bool:=
  (a9 (aG Jh (aG bS (aG cT (ah 2) (aG bE (aG cF (aE (.int 3)) (ah 0)) (aE (.int 1)))) (aE (.int 4))) (aE (.int 0))))
def gZ:GU D:=
  (ah 1)
def pp:GU Fl:=
  (bh (bn gG (af (bA 2 [0] (fV nJ (af (ah 1) ar)) (lM 2 (bg (aC 0) (bg (aC 1) gF))) gI gZ) ar)))
def kX:GZ:=aZ 2 0 pp
def qD (rec:GZ):GU Fl:=
  (aO (KZ (DJ (a9 (aG Jh (ah 3) (aE (.int 0)))) (a9 (aG Jh (aG bS (ah 0) (aE (.int 7))) (aE (.int 0))))) (bh (gu (af (aE (.str "names")) (af (aN kX (af (aG cT (ah 0) (aE (.int 7))) (af (ah 1) ar))) ar)))) dw)
  (aO (bz 4 (aN rec (af (aN cY (af (ah 0) (af (aE (.int 1)) ar))) (af (ah 1) (af (ah 2) (af (aG rD (ah 3) (aE (.int 1))) ar))))))
  (aO (bz 5 (aN rec (af (aN cY (af (ah 0) (af (aE (.int 2)) ar))) (af (ah 1) (af (ah 2) (af (aG rD (ah 3) (aE (.int 1))) ar))))))
  (bh (gu (af (aE (.str "ask")) (af (aG bS (aG cT (ah 0) (aE (.int 7))) (ah 2)) (af (ah 4) (af (ah 5) ar)))))))))
def jZ:Nat->GZ
 | 0=>λ_ _=>none
 |n+1=>aZ 4 2 (qD (jZ n))
def eX:GU Fl:=
  (aO (bz 4 (aG bS (aN cY (af (ah 0) (af (ah 3) ar))) (aG bE (bn dh (af (ah 2) ar)) (aE (.int 1)))))
  (bz 2 (aG bE (aG bE (ON MF (ah 2) none (some (ah 4))) (n_ (af (ah 3) ar))) (ON MF (ah 2) (some (ah 4)) none))))
def pi:GU Fl:=
  (aO (bz 2 (n_ ar))
  (aO (jh (fV d6 (af (ah 1) ar)) (aC 3) eX)
  (bh (bn gG (af (ah 2) ar)))))
def kW:GZ:=aZ 2 3 pi
def eS:GU D:=
  (IA (aE (D.tup [D.Ho,(D.int 0),(D.int 1),D.Ho])) (aG bS (aN cY (af (ah 1) (af (ah 0) ar))) (aE (.int 4))))
def ph:GU Fl:=
  (bh (bn gG (af (bA 1 [0] (fV d6 (af (ah 1) ar)) (aC 0) cU eS) ar)))
def kU:GZ:=aZ 2 0 ph
def jK:GU D:=
  (aG bE (ah 0) (aE (D.tup [(D.int 0)])))
def jJ:GU D:=
  (aG bE (ah 0) (aE (D.tup [(D.int 1)])))
def dR:GU Fl:=
  (bz 1 (aG bE (bA 1 [] (aW (ah 1)) (aC 0) cU jK) (bA 1 [] (aW (ah 1)) (aC 0) cU jJ)))
def nE:GU Fl:=
  (aO (bz 1 (aE (D.lst [(D.tup [])])))
  (aO (jh (fV d6 (af (ah 0) ar)) (aC 2) dR)
  (bh (bn p9 (af (ah 1) ar)))))
def jj:GZ:=aZ 1 2 nE
def i8 (rec:GZ):GU Fl:=
  (aO (KZ (a9 (aG Jh (IA (ah 0) (aE (.int 0))) (aE (.str "names")))) (bh (IA (ah 0) (aE (.int 1)))) dw)
  (bh (aN rec (af (IA (ah 0) (aG bE (aE (.int 2)) (IA (ah 1) (IA (ah 0) (aE (.int 1)))))) (af (ah 1) ar)))))
def f6:Nat->GZ
 | 0=>λ_ _=>none
 |n+1=>aZ 2 0 (i8 (f6 n))
def sT:GU Fl:=
  (aO (bz 2 (aG bE (aE (.int 1)) (aG bS (aN aR (af (ah 0) (af (aE (.int 0)) ar))) (ah 1))))
  (aO (bz 3 (aN kR (af (aN aR (af (ah 0) (af (aE (.int 1)) ar))) ar)))
  (aO (bz 4 (aN (jZ 8) (af (aN aR (af (ah 0) (af (aE (.int 2)) ar))) (af (ah 3) (af (ah 2) (af (aG bE (aE (.int 1)) (aG bS (aN aR (af (ah 0) (af (aE (.int 3)) ar))) (aE (.int 5)))) ar))))))
  (bh (gu (af (ah 2) (af (ah 3) (af (ah 4) (af (aN kW (af (aN aR (af (ah 0) (af (aE (.int 4)) ar))) (af (ah 2) ar))) ar)))))))))
def jY:GZ:=aZ 2 3 sT
def dG:GU Bool:=
  (Aw (a9 (aG nk (IA (ah 1) (ah 0)) (aE .Ho))) (a9 (aG K9 (IA (ah 1) (ah 0)) (IA (ah 2) (ah 0)))))
def jL:GU D:=
  (ah 0)
def i9:GU Fl:=
  (bh (aG Jh (bA 1 [1,0] (fV d6 (af (bn dh (af (ah 1) ar)) ar)) (aC 0) dG jL) (n_ ar)))
def jm:GZ:=aZ 2 0 i9
def ig:GU Bool:=
  (a9 (aN jm (af (ah 0) (af (ah 2) ar))))
def iB:GU D:=
  (aN (f6 15) (af (ah 1) (af (ah 0) ar)))
def pE:GU D:=
  (Lr false (ah 1) (ah 0))
def j_:GU Bool:=
  (a9 (bn yn (af (bA 1 [0] (aW (ah 1)) (aC 0) cU pE) ar)))
def kI:GU D:=
  (ah 0)
def pD:GU D:=
  (Lr false (ah 1) (ah 0))
def j9:GU Bool:=
  (a9 (bn ud (af (bA 1 [0] (aW (ah 1)) (aC 0) cU pD) ar)))
def kH:GU D:=
  (ah 0)
def qE:GU Fl:=
  (aO (bz 3 (bA 1 [0,2] (aW (aN jj (af (bn dh (af (ah 2) ar)) ar))) (aC 0) ig iB))
  (aO (bz 4 (bn gG (af (bA 1 [3] (aW (ah 1)) (aC 0) j_ kI) ar)))
  (bh (gu (af (ah 4) (af (bn gG (af (bA 1 [3] (aW (ah 1)) (aC 0) j9 kH) ar)) ar))))))
def fZ:GZ:=aZ 3 2 qE
def lU:GU Bool:=
  (a9 (Lr true (ah 0) (aN bC (af (ah 1) (af (ah 2) ar)))))
def qI:GU D:=
  (ah 0)
def lT:GU Bool:=
  (a9 (Lr true (ah 0) (aN fm (af (ah 1) (af (ah 2) ar)))))
def qH:GU D:=
  (ah 0)
def z9:GU Fl:=
  (aO (qS (lM 4 (bg (aC 1) (bg (aC 2) (bg (aC 3) (bg (aC 4) gF))))) (aN jY (af (ah 0) (af (aE (.int 6)) ar))))
  (aO (bz 5 (aN j0 (af (ah 3) (af (ah 4) ar))))
  (aO (bz 6 (aN kU (af (aN aR (af (ah 0) (af (aE (.int 5)) ar))) (af (ah 1) ar))))
  (aO (bz 7 (aG bS (aN aR (af (ah 0) (af (aE (.int 6)) ar))) (ah 1)))
  (aO (bz 8 (ah 6))
  (aO (KZ (a9 (aG NI (IA (ah 6) (ah 7)) (aE .Ho))) (bz 8 (aG bE (aG bE (ON MF (ah 6) none (some (ah 7))) (gu (af (aG bS (aG cT (aN aR (af (ah 0) (af (aE (.int 6)) ar))) (aE (.int 10))) (aE (.int 2))) ar))) (ON MF (ah 6) (some (aG bE (ah 7) (aE (.int 1)))) none))) dw)
  (aO (KZ (a9 (aG K9 (gu (af (aN bC (af (ah 5) (af (ah 6) ar))) (af (aN fm (af (ah 5) (af (ah 6) ar))) ar))) (aN fZ (af (ah 3) (af (ah 2) (af (ah 6) ar)))))) (bh (aE (.bl false))) dw)
  (aO (KZ (a9 (aG K9 (gu (af (aN bC (af (ah 5) (af (ah 8) ar))) (af (aN fm (af (ah 5) (af (ah 8) ar))) ar))) (aN fZ (af (ah 3) (af (ah 2) (af (ah 8) ar)))))) (bh (aE (.bl false))) dw)
  (aO (KZ (a9 (aG K9 (bA 1 [5,6] (aW (aN bC (af (ah 5) (af (ah 8) ar)))) (aC 0) lU qI) (n_ ar))) (bh (aE (.bl false))) dw)
  (bh (aG Jh (bA 1 [5,8] (aW (aN fm (af (ah 5) (af (ah 6) ar)))) (aC 0) lT qH) (n_ ar))))))))))))
def AF:GZ:=aZ 1 8 z9
def top (i:Nat):Stmt:=PySem.Challenge.pw_keyfold_k30_whole_possible_and_sure.main.body.getD i (.Pass ⟨0,0,0,0⟩)
def B0:Stmt->List Stmt
 | .ClassDef _ _ _ b _ _ _ _ _ _ _=>b
 |_=>[]
def sy (i j:Nat):Stmt:=(B0 (top i)).getD j (.Pass ⟨0,0,0,0⟩)
abbrev yR:Stmt:=top 1
abbrev GP(s:Str):=(s,NameKind.local)
abbrev GQ(s:Str):=(s,NameKind.globalImplicit)
abbrev GS(s:Str):Str×Const:=("fast",.str s)
abbrev GR(l:List (Str×NameKind))(m:List (Str×Const)):Scope:=⟨.function,l,false,false,m⟩
noncomputable abbrev yv:Scope:=GR [GP "row",GQ "len"] []
abbrev jA:Stmt:=top 2
noncomputable abbrev jp:Scope:=GR [GP "row",GQ "asks"] []
abbrev mR:Stmt:=top 3
noncomputable abbrev mn:Scope:=GR [GP "row",GP "order",GQ "asks",GQ "len"] []
abbrev oH:Stmt:=top 4
noncomputable abbrev oj:Scope:=GR [GP "rows",GP "number",GP "character",GP "value",GP "row"] []
abbrev lc:Stmt:=top 6
noncomputable abbrev kZ:Scope:=GR [GP "rows",GP "number",GP "left",GP "below",GQ "rows_below",GQ "leave_row"] []
abbrev gM:Stmt:=top 5
noncomputable abbrev gC:Scope:=GR [GP "rows",GP "top",GP "left",GQ "leave_row",GQ "list"] []
abbrev gL:Stmt:=top 7
noncomputable abbrev gz:Scope:=GR [GP "row",GP "numbers",GQ "asks"] []
abbrev jz:Stmt:=top 10
noncomputable abbrev HQ:Scope:=GR [GP "sheet",GQ "enumerate"] [GS "sheet",GS "character",GS "value"]
abbrev eO:Stmt:=top 13
noncomputable abbrev eK:Scope:=GR [GP "sheet",GP "things",GP "character",GQ "unknown_in"] []
abbrev oG:Stmt:=top 14
noncomputable abbrev oh:Scope:=GR [GP "row",GP "sheet",GP "value",GQ "asks",GQ "rows_below"] []
abbrev ge:Stmt:=top 12
noncomputable abbrev HB:Scope:=GR [GP "fold",GP "sheet",GP "coming",GP "number",GP "ways",GP "below",GQ "things_agreeing",GQ "range",GQ "len",GQ "ways_on"] [GS "fold",GS "sheet",GS "row",GS "coming",GS "number",GS "ways",GS "below"]
abbrev oO:Stmt:=top 16
noncomputable abbrev IL:Scope:=GR [GP "fold",GP "sheet",GQ "zip",GQ "things_coming"] [GS "fold",GS "sheet",GS "row",GS "coming"]
abbrev gN:Stmt:=top 17
noncomputable abbrev HE:Scope:=GR [GP "fold",GP "sheet",GQ "counted"] [GS "fold",GS "sheet",GS "pair"]
abbrev mQ:Stmt:=top 18
noncomputable abbrev ml:Scope:=GR [GP "fold",GP "sheet",GP "found",GP "names",GQ "answers_left",GQ "tuple",GQ "sorted",GQ "set"] []
abbrev yP:Stmt:=top 19
noncomputable abbrev K2:Scope:=GR [GP "fold",GP "sheet",("left",.cell),GQ "answers_left",GQ "tuple"] [GS "fold",GS "sheet",GS "left",GS "name",GS "names"]
abbrev gg:Stmt:=sy 8 0
noncomputable abbrev f8:Scope:=GR [GP "self",GP "order"] []
abbrev fy:Stmt:=sy 8 7
noncomputable abbrev Hx:Scope:=GR [("self",.cell),GP "top",GP "left",("numbers",.cell),GP "place",GP "number",GQ "rows_as_left",GQ "enumerate",GQ "tuple"] [GS "self",GS "top",GS "left",GS "numbers",GS "place",GS "number"]
abbrev cI:Stmt:=sy 8 4
noncomputable abbrev Hn:Scope:=GR [("self",.cell),GP "character",GP "no",GP "yes",GP "places",GQ "min"] [GS "self",GS "character",GS "no",GS "yes",GS "number",GS "places"]
abbrev fw:Stmt:=sy 8 1
noncomputable abbrev ft:Scope:=GR [GP "self",GP "row",GQ "len"] []
abbrev df:Stmt:=sy 8 2
noncomputable abbrev de:Scope:=GR [GP "self",GP "character",GP "no",GP "yes"] []
abbrev lj:Stmt:=sy 8 3
noncomputable abbrev k7:Scope:=GR [GP "self",GP "number",GP "character",GP "value",GQ "side_of"] []
abbrev d5:Stmt:=sy 8 6
noncomputable abbrev dX:Scope:=GR [GP "self",GP "character",GP "no",GP "yes",GP "first",GP "without",GP "having"] []
abbrev iM:Stmt:=sy 8 5
noncomputable abbrev iK:Scope:=GR [GP "self",GP "character",GP "no",GP "yes",GP "choice"] []
abbrev gf:Stmt:=top 22
noncomputable abbrev f7:Scope:=GR [GP "rows",GP "key",GQ "number_of_key"] []
abbrev rM:Stmt:=top 21
noncomputable abbrev rh:Scope:=GR [GP "key",GP "order",GP "rows",GQ "Rows",GQ "number_of_key"] []
abbrev lh:Stmt:=top 24
noncomputable abbrev k6:Scope:=GR [GP "_law_script",GP "_law_k",GQ "len"] []
abbrev oM:Stmt:=top 25
noncomputable abbrev on:Scope:=GR [GP "_law_script",GP "_law_k",GP "_law_drawn_here",GQ "_law_cell_at"] []
abbrev oN:Stmt:=top 26
noncomputable abbrev oo:Scope:=GR [GP "_law_number",GP "_law_k",GP "_law_drawn_here"] []
abbrev oF:Stmt:=top 27
noncomputable abbrev og:Scope:=GR [GP "_law_number",GP "_law_letters",GP "_law_found",GP "_law_k",GP "_law_drawn_here",GP "_law_word",GP "_law_at",GQ "range",GQ "_law_drawn",GQ "int",GQ "tuple",GQ "sorted"] []
abbrev oK:Stmt:=top 28
noncomputable abbrev IM:Scope:=GR [("_law_number",.cell),GP "_law_words_here",GQ "tuple",GQ "enumerate"] [GS "_law_number",GS "_law_words_here",GS "_law_k",GS "_law_word"]
abbrev v6:Stmt:=top 29
noncomputable abbrev vK:Scope:=GR [GP "_law_number",GP "_law_words_here",GP "_law_many",GP "_law_deep",GP "_law_no",GP "_law_yes",GQ "_law_names",GQ "_law_key",GQ "_law_drawn"] []
abbrev oJ:Stmt:=top 30
noncomputable abbrev om:Scope:=GR [GP "_law_number",GP "_law_many",GP "_law_found",GP "_law_k",GP "_law_at",GQ "range",GQ "_law_drawn",GQ "len",GQ "tuple"] []
abbrev oI:Stmt:=top 31
noncomputable abbrev IP:Scope:=GR [("_law_number",.cell),GP "_law_many",GQ "tuple",GQ "range"] [GS "_law_number",GS "_law_many",GS "_law_k"]
abbrev mP:Stmt:=top 32
noncomputable abbrev HJ:Scope:=GR [GP "_law_many",GP "_law_found",GP "_law_k",GQ "range",GQ "sorted"] [GS "_law_many",GS "_law_found",GS "_law_k",GS "_law_thing"]
abbrev mS:Stmt:=top 33
noncomputable abbrev mr:Scope:=GR [GP "_law_key_here",GP "_law_thing",GQ "_law_answer"] []
abbrev rL:Stmt:=top 34
noncomputable abbrev rf:Scope:=GR [GP "_law_script",GP "_law_most",GP "_law_many",GP "_law_words_here",GP "_law_key_here",GQ "_law_mixed",GQ "_law_words",GQ "_law_key",GQ "_law_order"] []
abbrev mT:Stmt:=top 35
noncomputable abbrev Im:Scope:=GR [("_law_thing",.cell),("_law_sheet_here",.cell),GQ "range",GQ "len"] [GS "_law_thing",GS "_law_sheet_here",GS "_law_k"]
abbrev v7:Stmt:=top 36
noncomputable abbrev H9:Scope:=GR [("_law_key_here",.cell),GP "_law_words_here",("_law_sheet_here",.cell),("_law_answers",.cell),GP "_law_some",GQ "_law_things",GQ "len",GQ "tuple"] [GS "_law_key_here",GS "_law_words_here",GS "_law_sheet_here",GS "_law_thing",GS "_law_answers",GS "_law_word",GS "_law_names_here",GS "_law_some"]
abbrev yQ:Stmt:=top 37
noncomputable abbrev KA:Scope:=GR [GP "_law_script",GP "_law_many",GP "_law_words_here",GP "_law_key_here",GP "_law_order_here",("_law_fold",.cell),("_law_sheet_here",.cell),GP "_law_at",("_law_more",.cell),GQ "_law_made",GQ "folded",GQ "_law_sheet",GQ "_law_mixed",GQ "possible",GQ "sure",GQ "_law_due"] [GS "_law_script",GS "_law_many",GS "_law_words_here",GS "_law_key_here",GS "_law_order_here",GS "_law_fold",GS "_law_sheet_here",GS "_law_at",GS "_law_more",GS "_law_name"]
set_option hygiene false in
local macro_rules|`(tactic|and_intros)=>`(tactic|(have hu:=aV hr;have Hs:=aT hr;have HP:=aU hr;have Ir:=hr.gd))
set_option hygiene false in
local macro_rules|`(tactic|nofun)=>`(tactic|exact ⟨rfl,rfl,rfl,by decide,rfl,by decide,by decide⟩)
set_option hygiene false in
local macro_rules|`(tactic|exists $z)=>`(tactic|exact(show ∀ y∈(_:List (Str×NameKind)),y.2=NameKind.free->List.lookup y.1 ($z).names=some NameKind.cell∨List.lookup y.1 ($z).names=some NameKind.free from by decide))
set_option hygiene false in
local macro_rules|`(tactic|exists $z,$n)=>`(tactic|exact(show ∀ t∈(($z):List Nat),List.lookup ((($n):List Str).getD t Str.empty) _=some NameKind.free from by decide))
set_option hygiene false in
local macro_rules|`(tactic|symm)=>`(tactic|exact hr.mono (by omega))
set_option hygiene false in
local macro_rules|`(!$n:num)=>`(aa (i:=$n))
structure Top (K:GV) (mg:GY):Prop where
 O_:bf K mg "asks" yR ["row"]
 K3:bf K mg "rows_below" jA ["row"]
 LH:bf K mg "place_of" mR ["row","order"]
 Mq:bf K mg "side_of" oH ["rows","number","character","value"]
 Jw:bf K mg "leave_row" lc ["rows","number","left"]
 J3:bf K mg "rows_as_left" gM ["rows","top"]
 J4:bf K mg "with_numbers" gL ["row","numbers"]
 K4:bf K mg "unknown_in" jz ["sheet"]
 Ji:bf K mg "things_agreeing" eO ["sheet"]
 Mr:bf K mg "ways_on" oG ["row","sheet"]
 JK:bf K mg "things_coming" ge ["fold","sheet"]
 Ms:bf K mg "counted" oO ["fold","sheet"]
 J5:bf K mg "answers_left" gN ["fold","sheet"]
 LI:bf K mg "possible" mQ ["fold","sheet"]
 Pa:bf K mg "sure" yP ["fold","sheet"]
 JL:D3 K mg "Rows" "Rows.__init__" gg ["self","order"]
 Jr:MethAt K "Rows" "fold_from" "Rows.fold_from" fy ["self","top"]
 Io:MethAt K "Rows" "first_character" "Rows.first_character" cI ["self","character","no","yes"]
 Js:MethAt K "Rows" "number_of" "Rows.number_of" fw ["self","row"]
 II:MethAt K "Rows" "number_of_ask" "Rows.number_of_ask" df ["self","character","no","yes"]
 Lk:MethAt K "Rows" "side" "Rows.side" lj ["self","number","character","value"]
 Jb:MethAt K "Rows" "choose_anew" "Rows.choose_anew" d5 ["self","character","no","yes"]
 IV:MethAt K "Rows" "choose" "Rows.choose" iM ["self","character","no","yes"]
 Iq:bf K mg "number_of_key" gf ["rows","key"]
 Nb:bf K mg "folded" rM ["key","order"]
 Ll:bf K mg "_law_cell_at" lh ["_law_script","_law_k"]
 Mt:bf K mg "_law_mixed" oM ["_law_script","_law_k"]
 Mu:bf K mg "_law_drawn" oN ["_law_number","_law_k"]
 Mv:bf K mg "_law_words" oF ["_law_number"]
 Mw:bf K mg "_law_names" oK ["_law_number","_law_words_here"]
 L3:bf K mg "_law_key" v6 ["_law_number","_law_words_here","_law_many","_law_deep"]
 Mx:bf K mg "_law_order" oJ ["_law_number","_law_many"]
 My:bf K mg "_law_sheet" oI ["_law_number","_law_many"]
 LJ:bf K mg "_law_things" mP ["_law_many"]
 J6:bf K mg "_law_answer" mS ["_law_key_here","_law_thing"]
 Nc:bf K mg "_law_made" rL ["_law_script","_law_most"]
 LK:bf K mg "_law_agrees" mT ["_law_thing","_law_sheet_here"]
 NV:bf K mg "_law_due" v7 ["_law_key_here","_law_words_here","_law_sheet_here"]
 Q_:bf K mg "law" yQ ["_law_script"]
 Jj:mg "len"=none
 Pb:mg "list"=none
 IJ:mg "enumerate"=none
 Ip:mg "range"=none
 Ra:mg "zip"=none
 J9:mg "sorted"=none
 Rb:mg "set"=none
 HR:mg "tuple"=none
 Ol:mg "all"=none
 Rf:mg "min"=none
 Rg:mg "int"=none
 Rh:mg "any"=none
 HS:lI K "Rows" "order"
 Hl:lI K "Rows" "gathered"
 HF:lI K "Rows" "numbers"
 HG:lI K "Rows" "choices"
section
variable {P:Program}{w:World}{K:GV}{mg:GY}{base:Heap}
theorem AH:ao yR=yv:=rfl
theorem L4:G4 ["row"] ["row"] yv:=by nofun
theorem g_ (T:Top K mg):IS P w K mg base 1 "asks" ["row"] h9:=
 aS T.O_ AH L4 (λf Hj A outer s H E hr=>by
 and_intros;have nd:=L4.nd
 exact(au (aI (qg (gh hu) (bv g7 T.Jj fW (ae (!0) aj)) aq))))
theorem nY:ao jA=jp:=rfl
theorem IW:G4 ["row"] ["row"] jp:=by nofun
theorem g9 (T:Top K mg):IS P w K mg base 2 "rows_below" ["row"] cb:=
 aS T.K3 nY IW (λf Hj A outer s H E hr=>by
 and_intros;have nd:=IW.nd
 exact(au (aI (gK (fJ (aD (g_ T) (by symm) (ae (!0) aj))) (rJ Qk (!0) aq trivial) (cw aj)))))
theorem qY:ao mR=mn:=rfl
theorem Jz:G4 ["row","order"] ["row","order"] mn:=by nofun
theorem qQ (T:Top K mg):IS P w K mg base 2 "place_of" ["row","order"] jk:=
 aS T.LH qY Jz (λf Hj A outer s H E hr=>by
 and_intros;have nd:=Jz.nd
 exact(au (aI (gK (fJ (aD (g_ T) (by symm) (ae (!0) aj))) (oV rfl (!1) (aP Hs (!0) aq)) (bv g7 T.Jj fW (ae (!1) aj))))))
theorem uk:ao oH=oj:=rfl
theorem J_:G4 ["rows","number","character","value","row"] ["rows","number","character","value"] oj:=by nofun
theorem tL (T:Top K mg):IS P w K mg base 1 "side_of" ["rows","number","character","value"] kT:=
 aS T.Mq uk J_ (λf Hj A outer s H E hr=>by
 and_intros;have nd:=J_.nd
 exact(al (aL (i:=4) nd (v5 (!0) (!1)))
  (au (aI (gK (bG (gh hu) (aP Hs (!4) aq) (!2)) (aP Hs (!4) (aA aX aq (!3))) (!1))))))
theorem pO:ao lc=kZ:=rfl
theorem Jk:G4 ["rows","number","left","below"] ["rows","number","left"] kZ:=by nofun
theorem iS (T:Top K mg):∀ n:Nat,IS P w K mg base (n+2) "leave_row" ["rows","number","left"] (a_ n)
 | 0=>jN T.Jw
 |n+1=>by
  have Jl:=iS T n
  exact aS T.Jw pO Jk (λf Hj A outer s H E hr=>by
   and_intros;have nd:=Jk.nd
   exact(al (eY PassesOwn.never rfl (bM (aD (g9 T) (by symm) (ae (v5 (!0) (!1)) aj))) (aH (i:=3) nd) (au (f_ (j8 hu Hs HP (!3) (!2)) (au (lV (aD Jl (by symm) (ae (!0) (ae (!3) (ae (!2) aj)))))) cn)))
    (au (uG Hs (!2) (!1) oE))))
theorem lK:ao gM=gC:=rfl
theorem Iu:G4 ["rows","top","left"] ["rows","top"] gC:=by nofun
theorem kN (T:Top K mg):IS P w K mg base 13 "rows_as_left" ["rows","top"] eI:=
 aS T.J3 lK Iu (λf Hj A outer s H E hr=>by
 and_intros;have nd:=Iu.nd
 exact(al (aL (i:=2) nd qd)
  (al (lV (aD (iS T 10) (by symm) (ae (!0) (ae (!1) (ae (!2) aj)))))
  (au (aI (rK Hs T.Pb (!2)))))))
theorem lJ:ao gL=gz:=rfl
theorem Iv:G4 ["row","numbers"] ["row","numbers"] gz:=by nofun
theorem kM (T:Top K mg):IS P w K mg base 2 "with_numbers" ["row","numbers"] eE:=
 aS T.J4 lJ Iv (λf Hj A outer s H E hr=>by
 and_intros;have nd:=Iv.nd
 exact(au (aI (gK (fJ (aD (g_ T) (by symm) (ae (!0) aj))) (cw (ae (aP Hs (!0) aq) (ae (aP Hs (!1) (aP Hs (!0) aq)) (ae (aP Hs (!1) (aP Hs (!0) aq)) aj)))) (!0)))))
theorem nW:ao jz=HQ:=rfl
theorem IX:G4 ["sheet"] ["sheet"] HQ:=by nofun
theorem nN (T:Top K mg):IS P w K mg base 1 "unknown_in" ["sheet"] fY:=
 aS T.K4 nW IX (λf Hj A outer s H E hr=>by
 and_intros;have nd:=IX.nd
 exact(au (aI (br (ts:=["character","value"]) (ix:=[]) rfl ⟨rfl,by decide,by decide,by exists HQ⟩ (by exists [],["sheet"]) (qa rfl T.IJ (ae (!0) aj)) (λ_ _ _ _ _=>⟨(mL rfl (bR (aH (i:=0) (show (["character","value"]:List Str).Nodup from by decide)) (bR (aH (i:=1) (show (["character","value"]:List Str).Nodup from by decide)) jx))),(cH (bG zu (!1) kj)),(!0)⟩)))))
theorem iU:ao eO=eK:=rfl
theorem HY:G4 ["sheet","things","character"] ["sheet"] eK:=by nofun
theorem iJ (T:Top K mg):IS P w K mg base 2 "things_agreeing" ["sheet"] cR:=
 aS T.Ji iU HY (λf Hj A outer s H E hr=>by
 and_intros;have nd:=HY.nd
 exact(al (aL (i:=1) nd aq)
  (al (eY PassesOwn.never rfl (bM (aD (nN T) (by symm) (ae (!0) aj))) (aH (i:=2) nd) (au (AY (n:=1) nd aq)))
  (au (aI (!1))))))
theorem uj:ao oG=oh:=rfl
theorem Ka:G4 ["row","sheet","value"] ["row","sheet"] oh:=by nofun
theorem tK (T:Top K mg):IS P w K mg base 3 "ways_on" ["row","sheet"] kS:=
 aS T.Mr uj Ka (λf Hj A outer s H E hr=>by
 and_intros;have nd:=Ka.nd
 exact(al (aL (i:=2) nd (gK (fJ (aD (g_ T) (by symm) (ae (!0) aj))) (aP Hs (!1) (aP Hs (!0) aq)) kj))
  (au (aI (gK (bG zu (!2) kj) (aD (g9 T) (by symm) (ae (!0) aj)) (cw (ae (aP Hs (!0) (aA aX aq (!2))) aj)))))))
theorem j1:ao ge=HB:=rfl
theorem Ig:G4 ["fold","sheet","coming","number","ways","below"] ["fold","sheet"] HB:=by nofun
theorem jO (T:Top K mg):IS P w K mg base 4 "things_coming" ["fold","sheet"] cr:=
 aS T.JK j1 Ig (λf Hj A outer s H E hr=>by
 and_intros;have nd:=Ig.nd
 exact(al (rE (ts:=["row"]) (ix:=[]) (i:=2) nd rfl ⟨rfl,by decide,by decide,by exists HB⟩ (by exists [],["fold","sheet","coming","number","ways","below"]) (bM (!0)) (λ_ _ _ _ _=>⟨(aH (i:=0) (show (["row"]:List Str).Nodup from by decide)),dH,aq⟩))
  (al (AX (!2) (vX pU aq) (aD (iJ T) (by symm) (ae (!1) aj)))
  (al (eY PassesOwn.never rfl (w_ rfl T.Ip (ae (aA uV (bv g7 T.Jj fW (ae (!0) aj)) aq) (ae (vX pU aq) (ae (vX pU aq) aj)))) (aH (i:=3) nd) (al (aL (i:=4) nd (aD (tK T) (by symm) (ae (aP Hs (!0) (!3)) (ae (!1) aj))))
  (au (eY PassesOwn.never rfl (bM (!4)) (aH (i:=5) nd) (au (AZ (!2) (!5) (aA fM (qe (!2) (!3)) (bv g7 T.Jj fW (ae (!4) aj)))))))))
  (au (aI (!2)))))))
theorem uu:ao oO=IL:=rfl
theorem Kb:G4 ["fold","sheet"] ["fold","sheet"] IL:=by nofun
theorem tP (T:Top K mg):IS P w K mg base 5 "counted" ["fold","sheet"] kY:=
 aS T.Ms uu Kb (λf Hj A outer s H E hr=>by
 and_intros;have nd:=Kb.nd
 exact(au (aI (br (ts:=["row","coming"]) (ix:=[]) rfl ⟨rfl,by decide,by decide,by exists IL⟩ (by exists [],["fold","sheet"]) (CD rfl T.Ra (ae (!0) (ae (xc (aD (jO T) (by symm) (ae (!0) (ae (!1) aj)))) aj))) (λ_ _ _ _ _=>⟨(mL rfl (bR (aH (i:=0) (show (["row","coming"]:List Str).Nodup from by decide)) (bR (aH (i:=1) (show (["row","coming"]:List Str).Nodup from by decide)) jx))),(cH (Cv (fJ (aD (g_ T) (by symm) (ae (!0) aj))))),(cw (ae (aP Hs (!0) aq) (ae (!1) aj)))⟩)))))
theorem lL:ao gN=HE:=rfl
theorem Iw:G4 ["fold","sheet"] ["fold","sheet"] HE:=by nofun
theorem fI (T:Top K mg):IS P w K mg base 6 "answers_left" ["fold","sheet"] bq:=
 aS T.J5 lL Iw (λf Hj A outer s H E hr=>by
 and_intros;have nd:=Iw.nd
 exact(au (aI (br (ts:=["pair"]) (ix:=[]) rfl ⟨rfl,by decide,by decide,by exists HE⟩ (by exists [],["fold","sheet"]) (bM (aD (tP T) (by symm) (ae (!0) (ae (!1) aj)))) (λ_ _ _ _ _=>⟨(aH (i:=0) (show (["pair"]:List Str).Nodup from by decide)),(cH (bG EH (aP Hs (!0) aq) aq)),(aP Hs (!0) aq)⟩)))))
theorem qX:ao mQ=ml:=rfl
theorem JA:G4 ["fold","sheet","found","names"] ["fold","sheet"] ml:=by nofun
theorem dQ (T:Top K mg):IS P w K mg base 7 "possible" ["fold","sheet"] bC:=
 aS T.LI qX JA (λf Hj A outer s H E hr=>by
 and_intros;have nd:=JA.nd
 exact(al (aL (i:=2) nd v4)
  (al (eY PassesOwn.never rfl (bM (aD (fI T) (by symm) (ae (!0) (ae (!1) aj)))) (aH (i:=3) nd) (au (lV (CJ rfl (!2) (!3)))))
  (au (aI (bU fS T.HR cN (ae (rH rfl rfl rfl T.J9 T.Rb (!2)) aj)))))))
theorem AG:ao yP=K2:=rfl
theorem L5:G4 ["fold","sheet","left"] ["fold","sheet"] K2:=by nofun
theorem jP (T:Top K mg):IS P w K mg base 7 "sure" ["fold","sheet"] fm:=
 aS T.Pa AG L5 (λf Hj A outer s H E hr=>by
 and_intros;have nd:=L5.nd
 exact(al (aL (i:=2) nd (aD (fI T) (by symm) (ae (!0) (ae (!1) aj))))
  (au (aI (bU fS T.HR cN (ae (br (ts:=["name"]) (ix:=[2]) rfl ⟨rfl,by decide,by decide,by exists K2⟩ (by exists [2],["fold","sheet","left"]) (bM (aP Hs (!2) aq)) (λ_ _ _ _ _=>⟨(aH (i:=0) (show (["name","left"]:List Str).Nodup from by decide)),(cH (fJ (bv (An rfl) T.Ol Ax (ae (br (ts:=["names"]) (ix:=[0]) rfl ⟨rfl,by decide,by decide,mV (by decide)⟩ (by exists [0],["name","left"]) (bM (!1)) (λ_ _ _ _ _=>⟨(aH (i:=0) (show (["names","name"]:List Str).Nodup from by decide)),dH,(qf hu Hs HP (!1) (!0))⟩)) aj)))),(!0)⟩)) aj))))))
theorem j4:ao gg=f8:=rfl
theorem Ih:G4 ["self","order"] ["self","order"] f8:=by nofun
theorem jR (T:Top K mg):D7 P w K mg base 1 "Rows" ["self","order"] bT:=
 B4 T.JL j4 Ih (λf Hj A outer s H E hr=>by
 and_intros;have nd:=Ih.nd
 exact(al (p8 T.HS (!0) (!1))
  (al (p8 T.Hl (!0) v4)
  (al (p8 T.HF (!0) vZ)
  (au (p8 T.HG (!0) vZ))))))
theorem jo:ao fy=Hx:=rfl
theorem H_:G4 ["self","top","left","numbers","place","number"] ["self","top"] Hx:=by nofun
theorem jg (T:Top K mg):nV P w K mg base 14 "Rows" "fold_from" ["self","top"] cZ:=
 fU T.Jr jo H_ (λf Hj A outer s H E hr=>by
 and_intros;have nd:=H_.nd
 exact(al (aL (i:=2) nd (aD (kN T) (by symm) (ae (cy T.Hl (!0)) (ae (!1) aj))))
  (al (aL (i:=3) nd qd)
  (al (eY PassesOwn.never rfl (yG rfl T.IJ (ae (!2) aj)) (mL rfl (bR (aH (i:=4) nd) (bR (aH (i:=5) nd) jx))) (au (uG Hs (!3) (!5) (!4))))
  (au (aI (bU fS T.HR cN (ae (br (ts:=["number"]) (ix:=[3,0]) rfl ⟨rfl,by decide,by decide,by exists Hx⟩ (by exists [3,0],["self","top","left","numbers","place","number"]) (bM (!2)) (λ_ _ _ _ _=>⟨(aH (i:=0) (show (["number","numbers","self"]:List Str).Nodup from by decide)),dH,(aD (kM T) (by symm) (ae (qe (cy T.Hl (!2)) (!0)) (ae (!1) aj)))⟩)) aj))))))))
theorem fq:ao cI=Hn:=rfl
theorem HD:G4 ["self","character","no","yes","places"] ["self","character","no","yes"] Hn:=by nofun
theorem fj (T:Top K mg):nV P w K mg base 3 "Rows" "first_character" ["self","character","no","yes"] bQ:=
 fU T.Io fq HD (λf Hj A outer s H E hr=>by
 and_intros;have nd:=HD.nd
 exact(al (uF (ts:=["number"]) (ix:=[0]) (i:=4) nd rfl ⟨rfl,by decide,by decide,by exists Hn⟩ (by exists [0],["self","character","no","yes","places"]) (bM (cw (ae (!2) (ae (!3) aj)))) (λ_ _ _ _ _=>⟨(aH (i:=0) (show (["number","self"]:List Str).Nodup from by decide)),dH,(aD (qQ T) (by symm) (ae (qe (cy T.Hl (!1)) (!0)) (ae (cy T.HS (!1)) aj)))⟩))
  (au (aI (aP Hs (cy T.HS (!0)) (bv (B3 rfl) T.Rf DT (ae (aA aX (!4) (iX (ae (oV rfl (cy T.HS (!0)) (!1)) aj))) aj)))))))
theorem jn:ao fw=ft:=rfl
theorem Ia:G4 ["self","row"] ["self","row"] ft:=by nofun
theorem eC (T:Top K mg):nV P w K mg base 1 "Rows" "number_of" ["self","row"] bH:=
 fU T.Js jn Ia (λf Hj A outer s H E hr=>by
 and_intros;have nd:=Ia.nd
 exact(al (f_ (ow hu (!1) (cy T.HF (!0))) (al (vU hu (cy T.HF (!0)) (!1) (A9 T.Jj (cy T.Hl (!0))))
  (au (lV (CL rfl (cy T.Hl (!0)) (!1))))) cn)
  (au (aI (vY hu (cy T.HF (!0)) (!1))))))
theorem gq:ao df=de:=rfl
theorem HH:G4 ["self","character","no","yes"] ["self","character","no","yes"] de:=by nofun
theorem cM (T:Top K mg):nV P w K mg base 2 "Rows" "number_of_ask" ["self","character","no","yes"] bB:=
 fU T.II gq HH (λf Hj A outer s H E hr=>by
 and_intros;have nd:=HH.nd
 exact(au (aI (gK (bG (gh hu) (!2) (!3)) (!2) (bF (eC T) (by symm) (!0) (ae (cw (ae (!1) (ae (!2) (ae (!3) aj)))) aj))))))
theorem pQ:ao lj=k7:=rfl
theorem Jm:G4 ["self","number","character","value"] ["self","number","character","value"] k7:=by nofun
theorem bV (T:Top K mg):nV P w K mg base 2 "Rows" "side" ["self","number","character","value"] bL:=
 fU T.Lk pQ Jm (λf Hj A outer s H E hr=>by
 and_intros;have nd:=Jm.nd
 exact(au (aI (aD (tL T) (by symm) (ae (cy T.Hl (!0)) (ae (!1) (ae (!2) (ae (!3) aj))))))))
theorem iD:ao d5=dX:=rfl
theorem HM:G4 ["self","character","no","yes","first","without","having"] ["self","character","no","yes"] dX:=by nofun
theorem hU (T:Top K mg){n:Nat}{rec:GZ}(Jl:nV P w K mg base (n*2+3) "Rows" "choose" ["self","character","no","yes"] rec):nV P w K mg base (n*2+4) "Rows" "choose_anew" ["self","character","no","yes"] (cC rec):=by
 rw[show n*2+4=(n*2+3)+1 from by omega]
 exact fU T.Jb iD HM (λf Hj A outer s H E hr=>by
 and_intros;have nd:=HM.nd
 exact(al (aL (i:=4) nd (bF (fj T) (by symm) (!0) (ae (!1) (ae (!2) (ae (!3) aj)))))
  (al (f_ (bG (gh hu) (!4) (!1)) (au (aI (bF (cM T) (by symm) (!0) (ae (!1) (ae (bF (bV T) (by symm) (!0) (ae (!2) (ae (!1) (ae aq aj)))) (ae (bF (bV T) (by symm) (!0) (ae (!3) (ae (!1) (ae aq aj)))) aj)))))) cn)
  (al (aL (i:=5) nd (bF Jl (by symm) (!0) (ae (!1) (ae (bF (bV T) (by symm) (!0) (ae (!2) (ae (!4) (ae aq aj)))) (ae (bF (bV T) (by symm) (!0) (ae (!3) (ae (!4) (ae aq aj)))) aj)))))
  (al (aL (i:=6) nd (bF Jl (by symm) (!0) (ae (!1) (ae (bF (bV T) (by symm) (!0) (ae (!2) (ae (!4) (ae aq aj)))) (ae (bF (bV T) (by symm) (!0) (ae (!3) (ae (!4) (ae aq aj)))) aj)))))
  (au (aI (bF (cM T) (by symm) (!0) (ae (!4) (ae (!5) (ae (!6) aj)))))))))))
theorem mh:ao iM=iK:=rfl
theorem IK:G4 ["self","character","no","yes","choice"] ["self","character","no","yes"] iK:=by nofun
theorem gp (T:Top K mg):∀ n:Nat,nV P w K mg base (n*2+3) "Rows" "choose" ["self","character","no","yes"] (dc n)
 | 0=>yl T.IV
 |n+1=>by
  have Jl:=gp T n;rw[show (n+1)*2+3=(n*2+4)+1 from by omega]
  exact fU T.IV mh IK (λf Hj A outer s H E hr=>by
   and_intros;have nd:=IK.nd
   exact(al (aL (i:=4) nd (cw (ae (!1) (ae (!2) (ae (!3) aj)))))
    (al (f_ (ow hu (!4) (cy T.HG (!0))) (au (vU hu (cy T.HG (!0)) (!4) (gK (bG (gh hu) (!2) (!3)) (!2) (bF (hU T Jl) (by symm) (!0) (ae (!1) (ae (!2) (ae (!3) aj))))))) cn)
    (au (aI (vY hu (cy T.HG (!0)) (!4)))))))
theorem j3:ao gf=f7:=rfl
theorem Ii:G4 ["rows","key"] ["rows","key"] f7:=by nofun
theorem eU (T:Top K mg):∀ n:Nat,IS P w K mg base (n+21) "number_of_key" ["rows","key"] (cu n)
 | 0=>jN T.Iq
 |n+1=>by
  have Jl:=eU T n
  exact aS T.Iq j3 Ii (λf Hj A outer s H E hr=>by
   and_intros;have nd:=Ii.nd
   exact(al (f_ (bG (gh hu) (aP Hs (!1) aq) iV) (au (aI (bF (eC T) (by symm) (!0) (ae (!1) aj)))) cn)
    (au (aI (bF (gp T 9) (by symm) (!0) (ae (aP Hs (!1) aq) (ae (aD Jl (by symm) (ae (!0) (ae (aP Hs (!1) aq) aj))) (ae (aD Jl (by symm) (ae (!0) (ae (aP Hs (!1) aq) aj))) aj))))))))
theorem wU:ao rM=rh:=rfl
theorem KC:G4 ["key","order","rows"] ["key","order"] rh:=by nofun
theorem vy (T:Top K mg):IS P w K mg base 37 "folded" ["key","order"] j0:=
 aS T.Nb wU KC (λf Hj A outer s H E hr=>by
 and_intros;have nd:=KC.nd
 exact(al (aL (i:=2) nd (A8 (jR T) (by symm) (ae (!1) aj)))
  (au (aI (bF (jg T) (by symm) (!2) (ae (aD (eU T 15) (by symm) (ae (!2) (ae (!0) aj))) aj))))))
theorem pP:ao lh=k6:=rfl
theorem Jn:G4 ["_law_script","_law_k"] ["_law_script","_law_k"] k6:=by nofun
theorem n9 (T:Top K mg):IS P w K mg base 1 "_law_cell_at" ["_law_script","_law_k"] h8:=
 aS T.Ll pP Jn (λf Hj A outer s H E hr=>by
 and_intros;have nd:=Jn.nd
 exact(al (f_ (bG EF (!1) (bv g7 T.Jj fW (ae (!0) aj))) (au (aI (aP Hs (!0) (!1)))) cn)
  (au (aI aq))))
theorem uq:ao oM=on:=rfl
theorem Kc:G4 ["_law_script","_law_k","_law_drawn_here"] ["_law_script","_law_k"] on:=by nofun
theorem bK (T:Top K mg):IS P w K mg base 2 "_law_mixed" ["_law_script","_law_k"] aR:=
 aS T.Mt uq Kc (λf Hj A outer s H E hr=>by
 and_intros;have nd:=Kc.nd
 exact(al (aL (i:=2) nd (aA bZ (aA dA (aA aX (aA aX (aD (n9 T) (by symm) (ae (!0) (ae (!1) aj))) (aA dA aq (!1))) aq) aq) aq))
  (au (aI (aA bZ (aA aX (aA aX (aA dA (!2) (!2)) (aA dA aq (!2))) (!1)) aq)))))
theorem ur:ao oN=oo:=rfl
theorem Kd:G4 ["_law_number","_law_k","_law_drawn_here"] ["_law_number","_law_k"] oo:=by nofun
theorem du (T:Top K mg):IS P w K mg base 1 "_law_drawn" ["_law_number","_law_k"] cY:=
 aS T.Mu ur Kd (λf Hj A outer s H E hr=>by
 and_intros;have nd:=Kd.nd
 exact(al (aL (i:=2) nd (aA bZ (aA dA (aA aX (aA aX (!0) (aA dA aq (!1))) aq) aq) aq))
  (au (aI (aA bZ (aA aX (aA aX (aA dA (!2) (!2)) (aA dA aq (!2))) (!1)) aq)))))
theorem ui:ao oF=og:=rfl
theorem Ke:G4 ["_law_number","_law_letters","_law_found","_law_k","_law_drawn_here","_law_word","_law_at"] ["_law_number"] og:=by nofun
theorem tJ (T:Top K mg):IS P w K mg base 2 "_law_words" ["_law_number"] kR:=
 aS T.Mv ui Ke (λf Hj A outer s H E hr=>by
 and_intros;have nd:=Ke.nd
 exact(al (aL (i:=1) nd iV)
  (al (aL (i:=2) nd qd)
  (al (eY PassesOwn.never rfl (dS rfl T.Ip (ae aq aj)) (aH (i:=3) nd) (al (aL (i:=4) nd (aD (du T) (by symm) (ae (!0) (ae (!3) aj))))
  (al (aL (i:=5) nd (aP Hs (!1) (aA bZ (!4) aq)))
  (al (eY PassesOwn.never rfl (dS rfl T.Ip (ae (aA dA (aA bZ (aA fM (!4) aq) aq) (aA bZ (!0) aq)) aj)) (aH (i:=6) nd) (au (aL (i:=5) nd (aA aX (!5) (aP Hs (!1) (aA bZ (aA fM (!4) (aA aX (aA dA aq (!6)) aq)) aq))))))
  (au (uG Hs (!2) (aA aX (!5) (aA dA iV (bU DG T.Rg DU (ae (qf hu Hs HP (!5) (km (.tup (.cons (.str ⟨by decide,by decide⟩) (.cons (.str ⟨by decide,by decide⟩) (.cons (.str ⟨by decide,by decide⟩) .nil))) (by decide)))) aj)))) oE))))))
  (au (aI (bU fS T.HR cN (ae (A7 rfl rfl T.J9 (!2)) aj))))))))
theorem uo:ao oK=IM:=rfl
theorem Kf:G4 ["_law_number","_law_words_here"] ["_law_number","_law_words_here"] IM:=by nofun
theorem tO (T:Top K mg):IS P w K mg base 1 "_law_names" ["_law_number","_law_words_here"] kX:=
 aS T.Mw uo Kf (λf Hj A outer s H E hr=>by
 and_intros;have nd:=Kf.nd
 exact(au (aI (bU fS T.HR cN (ae (br (ts:=["_law_k","_law_word"]) (ix:=[0]) rfl ⟨rfl,by decide,by decide,by exists IM⟩ (by exists [0],["_law_number","_law_words_here"]) (qa rfl T.IJ (ae (!1) aj)) (λ_ _ _ _ _=>⟨(mL rfl (bR (aH (i:=0) (show (["_law_k","_law_word","_law_number"]:List Str).Nodup from by decide)) (bR (aH (i:=1) (show (["_law_k","_law_word","_law_number"]:List Str).Nodup from by decide)) jx))),(cH (bG (gh hu) (aA bZ (aA fM (!2) (aA aX (aA dA aq (!0)) aq)) aq) aq)),(!1)⟩)) aj)))))
theorem yr:ao v6=vK:=rfl
theorem Lm:G4 ["_law_number","_law_words_here","_law_many","_law_deep","_law_no","_law_yes"] ["_law_number","_law_words_here","_law_many","_law_deep"] vK:=by nofun
theorem pI (T:Top K mg):∀ n:Nat,IS P w K mg base (n+1) "_law_key" ["_law_number","_law_words_here","_law_many","_law_deep"] (jZ n)
 | 0=>jN T.L3
 |n+1=>by
  have Jl:=pI T n
  exact aS T.L3 yr Lm (λf Hj A outer s H E hr=>by
   and_intros;have nd:=Lm.nd
   exact(al (f_ (vQ (El (bG (gh hu) (!3) aq) (Cy (bG (gh hu) (aA bZ (!0) aq) aq)))) (au (aI (cw (ae iV (ae (aD (tO T) (by symm) (ae (aA fM (!0) aq) (ae (!1) aj))) aj))))) cn)
    (al (aL (i:=4) nd (aD Jl (by symm) (ae (aD (du T) (by symm) (ae (!0) (ae aq aj))) (ae (!1) (ae (!2) (ae (aA uV (!3) aq) aj))))))
    (al (aL (i:=5) nd (aD Jl (by symm) (ae (aD (du T) (by symm) (ae (!0) (ae aq aj))) (ae (!1) (ae (!2) (ae (aA uV (!3) aq) aj))))))
    (au (aI (cw (ae iV (ae (aA bZ (aA fM (!0) aq) (!2)) (ae (!4) (ae (!5) aj)))))))))))
theorem um:ao oJ=om:=rfl
theorem Kg:G4 ["_law_number","_law_many","_law_found","_law_k","_law_at"] ["_law_number","_law_many"] om:=by nofun
theorem tN (T:Top K mg):IS P w K mg base 2 "_law_order" ["_law_number","_law_many"] kW:=
 aS T.Mx um Kg (λf Hj A outer s H E hr=>by
 and_intros;have nd:=Kg.nd
 exact(al (aL (i:=2) nd (iX aj))
  (al (eY PassesOwn.never rfl (dS rfl T.Ip (ae (!1) aj)) (aH (i:=3) nd) (al (aL (i:=4) nd (aA bZ (aD (du T) (by symm) (ae (!0) (ae (!3) aj))) (aA aX (bv g7 T.Jj fW (ae (!2) aj)) aq)))
  (au (aL (i:=2) nd (aA aX (aA aX (rJ Qk (!2) trivial (!4)) (iX (ae (!3) aj))) (rJ Qk (!2) (!4) trivial))))))
  (au (aI (bU fS T.HR cN (ae (!2) aj)))))))
theorem ul:ao oI=IP:=rfl
theorem Kh:G4 ["_law_number","_law_many"] ["_law_number","_law_many"] IP:=by nofun
theorem tM (T:Top K mg):IS P w K mg base 2 "_law_sheet" ["_law_number","_law_many"] kU:=
 aS T.My ul Kh (λf Hj A outer s H E hr=>by
 and_intros;have nd:=Kh.nd
 exact(au (aI (bU fS T.HR cN (ae (br (ts:=["_law_k"]) (ix:=[0]) rfl ⟨rfl,by decide,by decide,by exists IP⟩ (by exists [0],["_law_number","_law_many"]) (dS rfl T.Ip (ae (!1) aj)) (λ_ _ _ _ _=>⟨(aH (i:=0) (show (["_law_k","_law_number"]:List Str).Nodup from by decide)),dH,(aP Hs (km (.tup (.cons .Ho (.cons .int (.cons .int (.cons .Ho .nil)))) (by decide))) (aA bZ (aD (du T) (by symm) (ae (!1) (ae (!0) aj))) aq))⟩)) aj)))))
theorem qW:ao mP=HJ:=rfl
theorem JB:G4 ["_law_many","_law_found","_law_k"] ["_law_many"] HJ:=by nofun
theorem qP (T:Top K mg):IS P w K mg base 1 "_law_things" ["_law_many"] jj:=
 aS T.LJ qW JB (λf Hj A outer s H E hr=>by
 and_intros;have nd:=JB.nd
 exact(al (aL (i:=1) nd (km (.lst (.cons (.tup .nil (by decide)) .nil) (by decide))))
  (al (eY PassesOwn.never rfl (dS rfl T.Ip (ae (!0) aj)) (aH (i:=2) nd) (au (aL (i:=1) nd (aA aX (br (ts:=["_law_thing"]) (ix:=[]) rfl ⟨rfl,by decide,by decide,by exists HJ⟩ (by exists [],["_law_many","_law_found","_law_k"]) (bM (!1)) (λ_ _ _ _ _=>⟨(aH (i:=0) (show (["_law_thing"]:List Str).Nodup from by decide)),dH,(aA aX (!0) (km (.tup (.cons .int .nil) (by decide))))⟩)) (br (ts:=["_law_thing"]) (ix:=[]) rfl ⟨rfl,by decide,by decide,by exists HJ⟩ (by exists [],["_law_many","_law_found","_law_k"]) (bM (!1)) (λ_ _ _ _ _=>⟨(aH (i:=0) (show (["_law_thing"]:List Str).Nodup from by decide)),dH,(aA aX (!0) (km (.tup (.cons .int .nil) (by decide))))⟩))))))
  (au (aI (bv Am T.J9 iC (ae (!1) aj)))))))
theorem qZ:ao mS=mr:=rfl
theorem JC:G4 ["_law_key_here","_law_thing"] ["_law_key_here","_law_thing"] mr:=by nofun
theorem jQ (T:Top K mg):∀ n:Nat,IS P w K mg base (n+0) "_law_answer" ["_law_key_here","_law_thing"] (f6 n)
 | 0=>jN T.J6
 |n+1=>by
  have Jl:=jQ T n
  exact aS T.J6 qZ JC (λf Hj A outer s H E hr=>by
   and_intros;have nd:=JC.nd
   exact(al (f_ (bG (gh hu) (aP Hs (!0) aq) iV) (au (aI (aP Hs (!0) aq))) cn)
    (au (aI (aD Jl (by symm) (ae (aP Hs (!0) (aA aX aq (aP Hs (!1) (aP Hs (!0) aq)))) (ae (!1) aj)))))))
theorem wT:ao rL=rf:=rfl
theorem KD:G4 ["_law_script","_law_most","_law_many","_law_words_here","_law_key_here"] ["_law_script","_law_most"] rf:=by nofun
theorem vx (T:Top K mg):IS P w K mg base 10 "_law_made" ["_law_script","_law_most"] jY:=
 aS T.Nc wT KD (λf Hj A outer s H E hr=>by
 and_intros;have nd:=KD.nd
 exact(al (aL (i:=2) nd (aA aX aq (aA bZ (aD (bK T) (by symm) (ae (!0) (ae aq aj))) (!1))))
  (al (aL (i:=3) nd (aD (tJ T) (by symm) (ae (aD (bK T) (by symm) (ae (!0) (ae aq aj))) aj)))
  (al (aL (i:=4) nd (aD (pI T 8) (by symm) (ae (aD (bK T) (by symm) (ae (!0) (ae aq aj))) (ae (!3) (ae (!2) (ae (aA aX aq (aA bZ (aD (bK T) (by symm) (ae (!0) (ae aq aj))) aq)) aj))))))
  (au (aI (cw (ae (!2) (ae (!3) (ae (!4) (ae (aD (tN T) (by symm) (ae (aD (bK T) (by symm) (ae (!0) (ae aq aj))) (ae (!2) aj))) aj)))))))))))
theorem q_:ao mT=Im:=rfl
theorem JD:G4 ["_law_thing","_law_sheet_here"] ["_law_thing","_law_sheet_here"] Im:=by nofun
theorem qR (T:Top K mg):IS P w K mg base 1 "_law_agrees" ["_law_thing","_law_sheet_here"] jm:=
 aS T.LK q_ JD (λf Hj A outer s H E hr=>by
 and_intros;have nd:=JD.nd
 exact(au (aI (qg (gh hu) (br (ts:=["_law_k"]) (ix:=[1,0]) rfl ⟨rfl,by decide,by decide,by exists Im⟩ (by exists [1,0],["_law_thing","_law_sheet_here"]) (dS rfl T.Ip (ae (bv g7 T.Jj fW (ae (!1) aj)) aj)) (λ_ _ _ _ _=>⟨(aH (i:=0) (show (["_law_k","_law_sheet_here","_law_thing"]:List Str).Nodup from by decide)),(cH (vQ (Cz (bG zt (aP Hs (!1) (!0)) kj) (AT (bG (wa hu) (aP Hs (!1) (!0)) (aP Hs (!2) (!0))))))),(!0)⟩)) (iX aj)))))
theorem yt:ao v7=H9:=rfl
theorem Ln:G4 ["_law_key_here","_law_words_here","_law_sheet_here","_law_answers","_law_some"] ["_law_key_here","_law_words_here","_law_sheet_here"] H9:=by nofun
theorem pJ (T:Top K mg):IS P w K mg base 16 "_law_due" ["_law_key_here","_law_words_here","_law_sheet_here"] fZ:=
 aS T.NV yt Ln (λf Hj A outer s H E hr=>by
 and_intros;have nd:=Ln.nd
 exact(al (aL (i:=3) nd (br (ts:=["_law_thing"]) (ix:=[0,2]) rfl ⟨rfl,by decide,by decide,by exists H9⟩ (by exists [0,2],["_law_key_here","_law_words_here","_law_sheet_here","_law_answers","_law_some"]) (bM (aD (qP T) (by symm) (ae (bv g7 T.Jj fW (ae (!2) aj)) aj))) (λ_ _ _ _ _=>⟨(aH (i:=0) (show (["_law_thing","_law_key_here","_law_sheet_here"]:List Str).Nodup from by decide)),(cH (fJ (aD (qR T) (by symm) (ae (!0) (ae (!2) aj))))),(aD (jQ T 15) (by symm) (ae (!1) (ae (!0) aj)))⟩)))
  (al (aL (i:=4) nd (bU fS T.HR cN (ae (br (ts:=["_law_word"]) (ix:=[3]) rfl ⟨rfl,by decide,by decide,by exists H9⟩ (by exists [3],["_law_key_here","_law_words_here","_law_sheet_here","_law_answers","_law_some"]) (bM (!1)) (λ_ _ _ _ _=>⟨(aH (i:=0) (show (["_law_word","_law_answers"]:List Str).Nodup from by decide)),(cH (fJ (bv (DH rfl) T.Rh DV (ae (br (ts:=["_law_names_here"]) (ix:=[0]) rfl ⟨rfl,by decide,by decide,mV (by decide)⟩ (by exists [0],["_law_word","_law_answers"]) (bM (!1)) (λ_ _ _ _ _=>⟨(aH (i:=0) (show (["_law_names_here","_law_word"]:List Str).Nodup from by decide)),dH,(qf hu Hs HP (!1) (!0))⟩)) aj)))),(!0)⟩)) aj)))
  (au (aI (cw (ae (!4) (ae (bU fS T.HR cN (ae (br (ts:=["_law_word"]) (ix:=[3]) rfl ⟨rfl,by decide,by decide,by exists H9⟩ (by exists [3],["_law_key_here","_law_words_here","_law_sheet_here","_law_answers","_law_some"]) (bM (!1)) (λ_ _ _ _ _=>⟨(aH (i:=0) (show (["_law_word","_law_answers"]:List Str).Nodup from by decide)),(cH (fJ (bv (An rfl) T.Ol Ax (ae (br (ts:=["_law_names_here"]) (ix:=[0]) rfl ⟨rfl,by decide,by decide,mV (by decide)⟩ (by exists [0],["_law_word","_law_answers"]) (bM (!1)) (λ_ _ _ _ _=>⟨(aH (i:=0) (show (["_law_names_here","_law_word"]:List Str).Nodup from by decide)),dH,(qf hu Hs HP (!1) (!0))⟩)) aj)))),(!0)⟩)) aj)) aj))))))))
theorem Cq:ao yQ=KA:=rfl
theorem Nd:G4 ["_law_script","_law_many","_law_words_here","_law_key_here","_law_order_here","_law_fold","_law_sheet_here","_law_at","_law_more"] ["_law_script"] KA:=by nofun
theorem DA (T:Top K mg){f:Addr}{fd:FuncData}(Fn:Lz K "law" "law" yQ f fd):Nl P w K mg base 38 f fd ["_law_script"] AF:=
 nH Fn Cq Nd (λ_ Hj A outer s H E hr=>by
 and_intros;have nd:=Nd.nd
 exact(al (CA (aD (vx T) (by symm) (ae (!0) (ae aq aj))) (mL rfl (bR (aH (i:=1) nd) (bR (aH (i:=2) nd) (bR (aH (i:=3) nd) (bR (aH (i:=4) nd) jx))))))
  (al (aL (i:=5) nd (aD (vy T) (by symm) (ae (!3) (ae (!4) aj))))
  (al (aL (i:=6) nd (aD (tM T) (by symm) (ae (aD (bK T) (by symm) (ae (!0) (ae aq aj))) (ae (!1) aj))))
  (al (aL (i:=7) nd (aA bZ (aD (bK T) (by symm) (ae (!0) (ae aq aj))) (!1)))
  (al (aL (i:=8) nd (!6))
  (al (f_ (bG zu (aP Hs (!6) (!7)) kj) (au (aL (i:=8) nd (aA aX (aA aX (rJ Qk (!6) trivial (!7)) (cw (ae (aA bZ (aA fM (aD (bK T) (by symm) (ae (!0) (ae aq aj))) aq) aq) aj))) (rJ Qk (!6) (aA aX (!7) aq) trivial)))) cn)
  (al (f_ (bG (wa hu) (cw (ae (aD (dQ T) (by symm) (ae (!5) (ae (!6) aj))) (ae (aD (jP T) (by symm) (ae (!5) (ae (!6) aj))) aj))) (aD (pJ T) (by symm) (ae (!3) (ae (!2) (ae (!6) aj))))) (au (aI oE)) cn)
  (al (f_ (bG (wa hu) (cw (ae (aD (dQ T) (by symm) (ae (!5) (ae (!8) aj))) (ae (aD (jP T) (by symm) (ae (!5) (ae (!8) aj))) aj))) (aD (pJ T) (by symm) (ae (!3) (ae (!2) (ae (!8) aj))))) (au (aI oE)) cn)
  (al (f_ (bG (wa hu) (br (ts:=["_law_name"]) (ix:=[5,6]) rfl ⟨rfl,by decide,by decide,by exists KA⟩ (by exists [5,6],["_law_script","_law_many","_law_words_here","_law_key_here","_law_order_here","_law_fold","_law_sheet_here","_law_at","_law_more"]) (bM (aD (dQ T) (by symm) (ae (!5) (ae (!8) aj)))) (λ_ _ _ _ _=>⟨(aH (i:=0) (show (["_law_name","_law_fold","_law_sheet_here"]:List Str).Nodup from by decide)),(cH (j8 hu Hs HP (!0) (aD (dQ T) (by symm) (ae (!1) (ae (!2) aj))))),(!0)⟩)) (iX aj)) (au (aI oE)) cn)
  (au (aI (qg (gh hu) (br (ts:=["_law_name"]) (ix:=[5,8]) rfl ⟨rfl,by decide,by decide,by exists KA⟩ (by exists [5,8],["_law_script","_law_many","_law_words_here","_law_key_here","_law_order_here","_law_fold","_law_sheet_here","_law_at","_law_more"]) (bM (aD (jP T) (by symm) (ae (!5) (ae (!6) aj)))) (λ_ _ _ _ _=>⟨(aH (i:=0) (show (["_law_name","_law_fold","_law_more"]:List Str).Nodup from by decide)),(cH (j8 hu Hs HP (!0) (aD (jP T) (by symm) (ae (!1) (ae (!2) aj))))),(!0)⟩)) (iX aj))))))))))))))
end
end Hf
namespace Hf
open PySem L2 PyProof.Rows
def isLet (c:Nat):Bool:=decide (97<=c)&&decide (c<=122)
def lets (x:Str):Bool:=x.cps.toList.all isLet
def kept (x:Str):Bool:=decide (x="names") ||(decide (x="ask") ||decide (x="end"))
def dg (x:Str):Bool:=!kept x&&(decide (1<=x.length)&&(decide (x.length<=8)&&lets x))
def Gh:D->Bool
 | .str x=>dg x
 |_=>false
abbrev LL:Str:="abcdefghijklmnopqrstuvwxyz"
theorem uf:LL.cps.toList.all isLet=true:=by decide
theorem bp {α:Type}{xs:List α}{i:Nat}{v : α}(h:xs[i]?=some v):Kj xs (i:Int)=some v:=by
 have a:i<xs.length:=(List.getElem?_eq_some_iff.mp h).1;have e:MD xs.length (i:Int)=some i:=by unfold MD;rw[if_pos (by omega),if_pos (by omega)];simp
 unfold Kj;rw[e];exact h
end Hf
namespace L2
open PySem PyProof.Rows
theorem nw {K:Type}[DecidableEq K]:∀ (l b:List K),b.Nodup->(l.foldl cW b).Nodup
 |[],b,h=>h
 |a::l,b,h=>by
  rw[foldl_cons];refine nw l _ ?_;unfold cW;split
  ·exact h
  rename_i d;refine nodup_append.mpr ⟨h,by simp,λx c y e=>?_⟩;rw[mem_singleton.mp e];rintro rfl;exact d c
theorem o8 {K:Type}[DecidableEq K]:∀ (l b:List K) (k:K),k∈l.foldl cW b↔k∈b∨k∈l
 |[],b,k=>by simp
 |a::l,b,k=>by
  rw[foldl_cons,o8 l,mem_cons];unfold cW;split
  ·constructor
   ·rintro (h |h)
    ·exact .inl h
    exact .inr (.inr h)
   rintro (h |rfl |h)
   ·exact .inl h
   ·left;assumption
   exact .inr h
  simp only[mem_append,mem_singleton];constructor
  ·rintro ((h |h) |h)
   ·exact .inl h
   ·exact .inr (.inl h)
   exact .inr (.inr h)
  rintro (h |h |h)
  ·exact .inl (.inl h)
  ·exact .inl (.inr h)
  exact .inr h
theorem qv {a b:Str}(h:Kq a b=true):Kr a b=true:=by have c:a.cps.toList<b.cps.toList:=of_decide_eq_true h;exact HZ.mpr (List.le_of_lt c)
theorem u5 (a:Str):Kq a a=false:=by unfold Kq;exact decide_eq_false (List.lt_irrefl _)
theorem xM {a b c:Str}(h:Kq a b=true)(g:Kq b c=true):Kq a c=true:=by
 unfold Kq at *
 exact decide_eq_true (List.lt_trans (of_decide_eq_true h) (of_decide_eq_true g))
theorem qu {a b:Str}(h:Kr a b=true)(n:a≠b):Kq a b=true:=by
 cases q:Kq a b with
 |true=>rfl
 |false=>exact absurd (sI h (by unfold Kr;rw[q];rfl)) n
def NW:List Str->Bool
 |a::b::r=>Kq a b&&NW (b::r)
 |_=>true
theorem ca:∀ {l:List Str},NW l=true->l.Pairwise λa b=>Kq a b=true
 |[],_ => .nil
 |[a],_=>by simp
 |a::b::r,h=>by
  rw[NW,and_eq_true] at h;have d:=ca h.2;refine .cons (λc hc=>?_) d;rcases mem_cons.mp hc with rfl |hc
  ·exact h.1
  exact xM h.1 ((pairwise_cons.mp d).1 c hc)
theorem dL:∀ {l:List Str},(l.Pairwise λa b=>Kq a b=true)->NW l=true
 |[],_=>rfl
 |[a],_=>rfl
 |a::b::r,h=>by
  obtain⟨c,d⟩:=pairwise_cons.mp h;rw[NW,and_eq_true];exact⟨c b (mem_cons_self ..),dL d⟩
theorem BI {i j:Int}(c : -1000000000000<j)(d:j<1000000000000):fA i j=true:=by unfold fA;have a:decide (-(2 ^ 64)<j)=true:=decide_eq_true (by omega);have b:decide (j<2 ^ 64)=true:=decide_eq_true (by omega);rw[a,b];simp
theorem BJ {i j:Int}(c : -1000000000000<i)(d:i<1000000000000):fA i j=true:=by unfold fA;have a:decide (-(2 ^ 64)<i)=true:=decide_eq_true (by omega);have b:decide (i<2 ^ 64)=true:=decide_eq_true (by omega);rw[a,b];simp
theorem sf (i j:Int):cF (.int i) (.int j)=if fA i j=true then some (.int (i*j)) else none:=rfl
theorem r_ (x:Str)(n:Int):cF (.str x) (.int n)=if -1000<=n/\n<1 then some (.str ⟨#[]⟩) else if 1<=n/\n<=1000/\x.length<=1000 then some (.str ⟨(replicate n.toNat x.cps.toList).flatten.toArray⟩) else none:=rfl
theorem zI (i j:Int):bS (.int i) (.int j)=if 0<j then some (.int (i % j)) else none:=rfl
theorem ya (i j:Int):cT (.int i) (.int j)=if 0<j/\j<1073741824 then some (.int (i / j)) else none:=rfl
theorem yp (x y:Str):bE (.str x) (.str y)=if x.length+y.length<=sizeLine then some (.str (x++y)) else none:=rfl
theorem kP (x y:List D):bE (.tup x) (.tup y)=if x.length+y.length<=sizeLine then some (.tup (x++y)) else none:=rfl
theorem kQ (x y:List D):bE (.lst x) (.lst y)=if x.length+y.length<=sizeLine then some (.lst (x++y)) else none:=rfl
theorem xh (j:Int):d6 [.int j]=if -(2 ^ 62)<=j/\j<=16777216 then some ((List.range j.toNat).map λ(k:Nat)=>D.int k) else none:=rfl
theorem zH {i j:Int}(b : -1000000000000<j)(a:j<1000000000000):cF (.int i) (.int j)=some (.int (i*j)):=by rw[sf,if_pos (BI b a)]
theorem fN {i j:Int}(b : -1000000000000<i)(a:i<1000000000000):cF (.int i) (.int j)=some (.int (i*j)):=by rw[sf,if_pos (BJ b a)]
@[simp] theorem Fd (i j:Int):bE (.int i) (.int j)=some (.int (i+j)):=rfl
@[simp] theorem Em (i j:Int):rD (.int i) (.int j)=some (.int (i-j)):=rfl
theorem a7 {i j:Int}(h : 0<j):bS (.int i) (.int j)=some (.int (i % j)):=by rw[zI,if_pos h]
theorem fH {i j:Int}(h : 0<j)(a:j<1073741824):cT (.int i) (.int j)=some (.int (i / j)):=by rw[ya,if_pos ⟨h,a⟩]
end L2
namespace Hf
open PySem L2 PyProof.Rows
theorem vq (ns:List Int)(k:Nat)(S:G0):h8 [.lst (ns.map .int),.int k] S=G9 (.int (ns.getD k 0)) S:=by
 refine az rfl ?_;unfold lA;by_cases h:k<ns.length
 ·have b:((k:Int)<ns.length):=by omega
  have a:ns[k]?=some ns[k]:=List.getElem?_eq_getElem h;have e:Kj (ns.map D.int) (k:Int)=some (.int ns[k]):=bp (by rw[getElem?_map,a];rfl);simp[dh,Qj,h,HL,bI,N3,e,List.getD,a]
 have a:ns[k]?=none:=List.getElem?_eq_none (by omega);simp[dh,Qj,h,List.getD,a]
def mix (ns:List Int)(k:Nat):Int:=
 let d:=(ns.getD k 0+7919*(k:Int)+1)*48271 % 2147483647
 (d*d+7*d+(k:Int)) % 2147483629
theorem uY (ns:List Int)(k:Nat) : 0<=mix ns k:=Int.emod_nonneg _ (by decide)
theorem d9 (ns:List Int)(k:Nat)(S:G0):aR [.lst (ns.map .int),.int k] S=G9 (.int (mix ns k)) S:=by
 refine az rfl ?_;unfold pz;have g:=vq ns k;have b:∀ x:Int,cF (.int 7919) (.int x)=some (.int (7919*x)):=λx=>fN (by decide) (by decide);have e:∀ x:Int,cF (.int x) (.int 48271)=some (.int (x*48271)):=λx=>zH (by decide) (by decide);have c:∀ x:Int,bS (.int x) (.int 2147483647)=some (.int (x % 2147483647)):=λx=>a7 (by decide);have d:∀ x:Int,bS (.int x) (.int 2147483629)=some (.int (x % 2147483629)):=λx=>a7 (by decide);have a:∀ x:Int,cF (.int 7) (.int x)=some (.int (7*x)):=λx=>fN (by decide) (by decide);have f:∀ x:Int,cF (.int (x % 2147483647)) (.int (x % 2147483647))=some (.int (x % 2147483647*(x % 2147483647))):=λx=>by have h:=Int.emod_nonneg x (show (2147483647:Int)≠0 by decide);have i:=Int.emod_lt_of_pos x (show (0:Int)<2147483647 by decide);exact fN (by omega) (by omega)
 simp[g,b,e,c,d,a,f,mix]
def Ic (n k:Int):Int:=
 let d:=(n+104729*k+17)*69621 % 2147483647
 (d*d+3*d+k) % 2147483629
theorem jc (n k:Int) : 0<=Ic n k:=Int.emod_nonneg _ (by decide)
theorem g6 (n k:Int)(S:G0):cY [.int n,.int k] S=G9 (.int (Ic n k)) S:=by
 refine az rfl ?_;unfold pA;have b:∀ x:Int,cF (.int 104729) (.int x)=some (.int (104729*x)):=λx=>fN (by decide) (by decide);have d:∀ x:Int,cF (.int x) (.int 69621)=some (.int (x*69621)):=λx=>zH (by decide) (by decide);have c:∀ x:Int,bS (.int x) (.int 2147483647)=some (.int (x % 2147483647)):=λx=>a7 (by decide);have e:∀ x:Int,bS (.int x) (.int 2147483629)=some (.int (x % 2147483629)):=λx=>a7 (by decide);have a:∀ x:Int,cF (.int 3) (.int x)=some (.int (3*x)):=λx=>fN (by decide) (by decide);have f:∀ x:Int,cF (.int (x % 2147483647)) (.int (x % 2147483647))=some (.int (x % 2147483647*(x % 2147483647))):=λx=>by have g:=Int.emod_nonneg x (show (2147483647:Int)≠0 by decide);have h:=Int.emod_lt_of_pos x (show (0:Int)<2147483647 by decide);exact fN (by omega) (by omega)
 simp[b,d,c,e,a,f,Ic]
def Wd (n:Nat)(x:Str):Prop:=x.length<=n/\∀ c∈x.cps.toList,c<128
theorem vD (x y:Str):(x++y).cps.toList=x.cps.toList++y.cps.toList:=by show (x.cps++y.cps).toList=_;simp
theorem wO (x y:Str):(x++y).length=x.length+y.length:=by show (x.cps++y.cps).size=_;rw[size_append];rfl
theorem FL (i:Int)(f : 0<=i)(g:i<26)(S:G0):∃ x:Str,HL (.str "abcdefghijklmnopqrstuvwxyz") (.int i) S=some (.str x)/\Wd 1 x:=by
 obtain⟨k,rfl⟩:∃ k:Nat,i=k:=⟨i.toNat,by omega⟩
 have a:k<LL.cps.toList.length:=by
  have:LL.cps.toList.length=26:=by decide
  omega
 have e:Kj LL.cps.toList (k:Int)=some LL.cps.toList[k]:=bp (List.getElem?_eq_getElem a);refine⟨⟨#[LL.cps.toList[k]]⟩,?_,le_refl _,λc b=>?_⟩
 ·unfold HL;rw[if_neg (by simp[bI])];unfold N3;simp only[e];rfl
 have d:c=LL.cps.toList[k]:=by simpa using b
 have q:=all_eq_true.mp uf LL.cps.toList[k] (getElem_mem a);rw[d];simp only[isLet,and_eq_true,decide_eq_true_eq] at q;omega
theorem xi (j:Int)(a : 0<=j)(b:j<=1000):d6 [.int j]=some ((List.range j.toNat).map λ(k:Nat)=>D.int k):=by rw[xh,if_pos (by omega)]
theorem ir {n j:Nat}{d:D}(h:((List.range n).map λ(k:Nat)=>D.int k)[j]?=some d):d = .int j/\j<n:=by rw[getElem?_map] at h;obtain⟨x,c,rfl⟩:=map_eq_some_iff.mp h;obtain⟨a,b⟩:=List.getElem?_eq_some_iff.mp c;simp at a b;exact⟨by rw[← b],a⟩
theorem Es (b:Bool):cF (.str "q") (.int (if b then 1 else 0))=some (.str (if b then "q" else ⟨#[]⟩)):=by
 cases b
 ·rw[r_,if_pos (by decide)];rfl
 rw[r_,if_neg (by decide),if_pos ⟨by decide,by decide,by decide⟩];rfl
def Ri (d:D)(s:Str):Bool:=match d with
 | .str y=>decide (y=s)
 |_=>false
theorem Ad {d:D}(h:pl d=true)(s:Str):Jh d (.str s)=some (.bl (Ri d s)):=by
 obtain⟨p,e⟩:=vR h;have b:toPy (.str s)=some (.str s):=rfl;unfold Jh;rw[e,b];have hd:min p.depth (PyData.str s).depth<=150:=Nat.le_trans (min_le_right _ _) (by simp[PyData.depth]);simp only[hd,if_true];cases d with
 |str y=>rw[toPy] at e;cases e;simp[PyData.eqv,Ri,B6]
 |tup c=>rw[toPy] at e;obtain⟨a,_,rfl⟩:=map_eq_some_iff.mp e;simp[PyData.eqv,Ri]
 |lst c=>rw[toPy] at e;obtain⟨a,_,rfl⟩:=map_eq_some_iff.mp e;simp[PyData.eqv,Ri]
 |set _=>simp[pl] at h
 |loc _=>simp[pl] at h
 |fn _ _=>simp[pl] at h
 |_=>rw[toPy] at e;cases e;simp[PyData.eqv,Ri]
theorem MN (xs:List D)(a:D)(S:G0):HL (.tup (a::xs)) (.int 0) S=some a:=by unfold HL;rw[if_neg (by simp[bI])];exact bp (i:=0) rfl
theorem NX (xs:List D)(a b:D)(S:G0):HL (.tup (a::b::xs)) (.int 1) S=some b:=by unfold HL;rw[if_neg (by simp[bI])];exact bp (i:=1) rfl
theorem at2 (xs:List D)(a b c:D)(S:G0):HL (.tup (a::b::c::xs)) (.int 2) S=some c:=by unfold HL;rw[if_neg (by simp[bI])];exact bp (i:=2) rfl
theorem Vo (xs:List D)(a b c d:D)(S:G0):HL (.tup (a::b::c::d::xs)) (.int 3) S=some d:=by unfold HL;rw[if_neg (by simp[bI])];exact bp (i:=3) rfl
theorem m9 (x:Int){n:Int}(h : 0<n) : 0<=x % n/\x % n<n:=⟨Int.emod_nonneg x (by omega),Int.emod_lt_of_pos x h⟩
def Wl (n:Nat)(x:Str):Prop:=1<=x.length/\x.length<=n/\lets x=true
theorem zQ (x y:Str):lets (x++y)=(lets x&&lets y):=by unfold lets;rw[vD,List.all_append]
theorem Wl.app {n m:Nat}{x y:Str}(h:Wl n x)(g:Wl m y):Wl (n+m) (x++y):=by obtain⟨a,b,c⟩:=h;obtain⟨e,f,d⟩:=g;refine⟨by rw[wO];omega,by rw[wO];omega,by rw[zQ,c,d];rfl⟩
theorem wj (i:Int)(b : 0<=i)(c:i<26)(S:G0):∃ x:Str,HL (.str "abcdefghijklmnopqrstuvwxyz") (.int i) S=some (.str x)/\Wl 1 x:=by
 obtain⟨k,rfl⟩:∃ k:Nat,i=k:=⟨i.toNat,by omega⟩
 have a:k<LL.cps.toList.length:=by
  have:LL.cps.toList.length=26:=by decide
  omega
 have e:Kj LL.cps.toList (k:Int)=some LL.cps.toList[k]:=bp (List.getElem?_eq_getElem a);refine⟨⟨#[LL.cps.toList[k]]⟩,?_,le_refl _,le_refl _,?_⟩
 ·unfold HL;rw[if_neg (by simp[bI])];unfold N3;simp only[e];rfl
 have q:=all_eq_true.mp uf LL.cps.toList[k] (getElem_mem a);show ([LL.cps.toList[k]]:List Nat).all isLet=true;rw[all_cons,q];rfl
theorem AC {n m:Nat}{x y:Str}(h:Wl n x)(g:y.length<=m)(b:n+m<=1000):bE (.str x) (.str y)=some (.str (x++y)):=by have a:=h.2.1;rw[yp,if_pos (Nat.le_trans (show x.length+y.length<=1000 by omega) (by decide))]
theorem DP (n:Int)(l:D)(k b:Int)(a:Str)(i:Nat)(S:G0)(c:Wl (i+1) a)(hi:i<=10)(o : 0<=b):∃ d:Str,Wl (i+2) d /\
  eW [some (.int n),some (.str "abcdefghijklmnopqrstuvwxyz"),some l,some (.int k),some (.int b),some (.str a),some (.int i)] S=G9 (.next [some (.int n),some (.str "abcdefghijklmnopqrstuvwxyz"),some l,some (.int k),some (.int b),some (.str d),some (.int i)]) S:=by
 have g:cF (.int 31) (.int i)=some (.int (31*i)):=fN (by decide) (by decide);have h:cT (.int b) (.int (31*(i:Int)+29))=some (.int (b / (31*(i:Int)+29))):=fH (by omega) (by omega);have j:bS (.int (b / (31*(i:Int)+29))) (.int 26)=some (.int (b / (31*(i:Int)+29) % 26)):=a7 (by decide);obtain⟨x,m,e⟩:=wj (b / (31*(i:Int)+29) % 26) (Int.emod_nonneg _ (by decide)) (Int.emod_lt_of_pos _ (by decide)) S;have f:=AC c e.2.1 (by omega);refine⟨a++x,c.app e,?_⟩;unfold eW;simp[g,h,j,m,f]
theorem FN (x:Str)(S:G0):LY false (.str x) (.tup [.str "names",.str "ask",.str "end"]) S=some (.bl (kept x)):=by have e:=Xq x "names" "ask" "end";unfold LY;rw[if_neg (by simp[bI]),if_neg (by decide)];rw[e];unfold kept;simp[eq_comm]
theorem EQ {x:Str}(h:kept x=true):dg (x++("q":Str))=true:=by simp only[kept,or_eq_true,decide_eq_true_eq] at h;rcases h with rfl |rfl |rfl<;>decide
theorem EJ {x:Str}(h:Wl 8 x):dg (x++(if kept x then ("q":Str) else ⟨#[]⟩))=true:=by
 cases hk:kept x with
 |true=>exact EQ hk
 |false =>
  have e:x++(⟨#[]⟩:Str)=x:=by show (⟨x.cps++#[]⟩:Str)=x;simp
  simp only[false_eq_true,if_false,e];unfold dg;rw[hk,decide_eq_true h.1,decide_eq_true h.2.1,h.2.2];rfl
def KG (n:Nat)(kvs:List (D×D)):Prop:=kvs.length<=n/\∃ a:List Str,kvs.map (·.1)=a.map .str/\a.Nodup/\∀ x∈a,dg x=true
theorem xg (x y:Str):d4 (.str x) (.str y)=decide (x=y):=by simp[d4,dO]
theorem KG.put {n:Nat}{kvs:List (D×D)}{x:Str}{v:D}(h:KG n kvs)(g:dg x=true):KG (n+1) (putD kvs (.str x) v):=by
 obtain⟨m,c,e,nd,k⟩:=h;unfold putD;split
 ·refine⟨by rw[length_map];omega,c,?_,nd,k⟩;rw[map_map,← e];refine map_congr_left λp _=>?_;simp only[Function.comp];split<;>rfl
 rename_i j;refine⟨by rw[List.length_append,length_singleton];omega,c++[x],by simp[e],?_,λy hy=>?_⟩
 ·refine nodup_append.mpr ⟨nd,by simp,λa f b l=>?_⟩;rw[mem_singleton.mp l];rintro rfl;apply j;have i:D.str a∈kvs.map (·.1):=by rw[e];exact List.mem_map_of_mem f
  obtain⟨p,d,q⟩:=mem_map.mp i;rw[any_eq_true];exact⟨p,d,by rw[q,xg];simp⟩
 rcases mem_append.mp hy with hy |hy
 ·exact k y hy
 rw[mem_singleton.mp hy];exact g
theorem DO (n:Int)(k:Nat)(S:G0)(kvs:List (D×D))(b c d:Option D)(v:KG k kvs)(hk:k<6):∃ H T d' t,KG (k+1) t /\
  eV [some (.int n),some (.str "abcdefghijklmnopqrstuvwxyz"),some (.loc S.length),some (.int k),b,c,d] (S++[.dict kvs])=G9 (.next [some (.int n),some (.str "abcdefghijklmnopqrstuvwxyz"),some (.loc S.length),some (.int k),H,T,d']) (S++[.dict t]):=by
 have X:=g6 n k;have V:=jc n k;have O:bS (.int (Ic n k)) (.int 26)=some (.int (Ic n k % 26)):=a7 (by decide);obtain⟨x,K,I⟩:=wj (Ic n k % 26) (Int.emod_nonneg _ (by decide)) (Int.emod_lt_of_pos _ (by decide)) (S++[.dict kvs]);have B:cT (.int (Ic n k)) (.int 26)=some (.int (Ic n k / 26)):=fH (by decide) (by decide);have J:bS (.int (Ic n k / 26)) (.int 8)=some (.int (Ic n k / 26 % 8)):=a7 (by decide);have E:bS (.int n) (.int 2)=some (.int (n % 2)):=a7 (by decide);have Y:=Int.emod_nonneg (Ic n k / 26) (show (8:Int)≠0 by decide);have b2:=Int.emod_lt_of_pos (Ic n k / 26) (show (0:Int)<8 by decide);have b3:=Int.emod_nonneg n (show (2:Int)≠0 by decide);have b4:=Int.emod_lt_of_pos n (show (0:Int)<2 by decide);have l:cF (.int (Ic n k / 26 % 8)) (.int (n % 2))=some (.int (Ic n k / 26 % 8*(n % 2))):=fN (by omega) (by omega)
 have f : 0<=Ic n k / 26 % 8*(n % 2)/\Ic n k / 26 % 8*(n % 2)<=7:=by
  have:n % 2=0∨n % 2=1:=by omega
  rcases this with h |h<;>rw[h]<;>omega
 have o:=xi (Ic n k / 26 % 8*(n % 2)) f.1 (by omega);generalize Ic n k / 26 % 8*(n % 2)=m at l o f
 obtain⟨W,S',R,p⟩:=ck (u:=aC 6) (body:=eW) (λi e r=>r=S++[.dict kvs]/\i<=7/\∃ (w:Str) (z:Option D),Wl (i+1) w/\e=[some (.int n),some (.str "abcdefghijklmnopqrstuvwxyz"),some (.loc S.length),some (.int k),some (.int (Ic n k)),some (.str w),z])
  ((List.range m.toNat).map λ(k:Nat)=>D.int k) 0 [some (.int n),some (.str "abcdefghijklmnopqrstuvwxyz"),some (.loc S.length),some (.int k),some (.int (Ic n k)),some (.str x),d] (S++[.dict kvs]) ⟨rfl,by omega,x,d,I,rfl⟩ (by
   rintro j Z e r G ⟨rfl,L,w,z,a,rfl⟩;obtain⟨rfl,Il⟩:=ir G;simp only[zero_add] at a L ⊢;obtain⟨F,N,eq⟩:=DP n (.loc S.length) k (Ic n k) w j (S++[.dict kvs]) a (by omega) V
   exact⟨_,rfl,_,_,eq,rfl,by omega,F,some (.int j),N,rfl⟩)
 simp only[zero_add,length_map,length_range] at p;obtain⟨rfl,YB,w,z,a,rfl⟩:=p;have s:Wl 8 w:=⟨a.1,by have:=a.2.1;omega,a.2.2⟩;have g:=FN w (S++[.dict kvs]);have q:=EJ s;generalize kept w=bb at g q;have A:=Es bb;have M:(if bb then ("q":Str) else ⟨#[]⟩).length<=1:=by cases bb<;>decide
 have P:=AC s M (by decide);have C:(S++[MO.dict kvs])[S.length]?=some (.dict kvs):=by simp
 have y:kvs.length<sizeLine:=lt_of_lt_of_le (show kvs.length<1000 by have:=v.1;omega) (by decide);have U:(S++[MO.dict kvs]).set S.length (.dict (putD kvs (.str (w++(if bb then ("q":Str) else ⟨#[]⟩))) (.bl true)))=S++[.dict (putD kvs (.str (w++(if bb then ("q":Str) else ⟨#[]⟩))) (.bl true))]:=by simp
 refine⟨some (.int (Ic n k)),some (.str w),z,putD kvs (.str (w++(if bb then ("q":Str) else ⟨#[]⟩))) (.bl true),v.put q,?_⟩;have Q:intD [.bl bb]=some (.int (if bb then 1 else 0)):=rfl;unfold eV;simp[X,O,K,B,J,E,l,o,R,rQ,C,dO,y,U,g,Q,A,P]
theorem wV (n:Int)(S:G0):∃ (ss:List Str) (kvs:List (D×D)),kR [.int n] S=G9 (.tup (ss.map .str)) (S++[.dict kvs])/\ss.length<=6/\(∀ x∈ss,dg x=true)/\ss.Pairwise λa b=>Kq a b=true:=by
 obtain⟨I,N,C,g⟩:=ck (u:=aC 3) (body:=eV) (λi f l=>i<=6/\∃ kvs b c d z,l=S++[.dict kvs]/\KG i kvs/\f=[some (.int n),some (.str "abcdefghijklmnopqrstuvwxyz"),some (.loc S.length),z,b,c,d])
  ((List.range 6).map λ(k:Nat)=>D.int k) 0 [some (.int n),some (.str "abcdefghijklmnopqrstuvwxyz"),some (.loc S.length),none,none,none,none] (S++[.dict []]) ⟨by omega,[],none,none,none,none,rfl,⟨le_refl _,[],rfl,nodup_nil,λx h=>by cases h⟩,rfl⟩ (by
   rintro j L f l v ⟨M,kvs,b,c,d,z,rfl,m,rfl⟩;obtain⟨rfl,H⟩:=ir v;simp only[zero_add] at m ⊢;obtain⟨t,E,r,F,G,eq⟩:=DO n j S kvs b c d m H
   exact⟨_,rfl,_,_,eq,by omega,F,t,E,r,some (.int j),rfl,G,rfl⟩)
 simp only[zero_add,length_map,length_range] at g;obtain⟨_,kvs,b,c,d,z,rfl,⟨K,ss,es,nd,s⟩,rfl⟩:=g;have J:ss.length=kvs.length:=by have:=congrArg List.length es;simpa using this.symm
 have y:dE (kvs.map (·.1))=some ((iL ss).map .str):=by rw[es];unfold dE;rw[if_pos (by rw[length_map];first |omega |exact Nat.le_trans (show ss.length<=1000 by omega) (by decide)),ii]
 have e:(iL ss).Perm ss:=mergeSort_perm _ _;have B:(iL ss).Nodup:=(e.nodup_iff).mpr nd;have o:(iL ss).Pairwise λa b=>Kr a b=true:=List.pairwise_mergeSort kC oW _;refine⟨iL ss,kvs,?_,by rw[e.length_eq];omega,λx A=>s x (e.mem_iff.mp A),(o.and B).imp λq=>qu q.1 q.2⟩;have p:d6 [.int 6]=some ((List.range 6).map λ(k:Nat)=>D.int k):=xi 6 (by decide) (by decide);have w:(S++[MO.dict kvs])[S.length]?=some (.dict kvs):=by simp
 refine az rfl ?_;unfold pc;simp[p,C,mJ,w,y,gG]
theorem pC:∀ (ds:List D) (i:Nat),(bJ i ds).map (λd=>match d with | .tup [_,x]=>x |_ => .Ho)=ds
 |[],_=>rfl
 |d::ds,i=>by rw[bJ,map_cons,pC ds]
theorem r9 (n:Int){ss:List Str}(t:ss.length<=100)(S:G0):∃ a:List Str,kX [.int n,.tup (ss.map .str)] S=G9 (.tup (a.map .str)) S/\a.Sublist ss:=by
 have q:=dj (u:=lM 2 (bg (aC 0) (bg (aC 1) gF))) (gt:=gI) (fe:=gZ) (λb => ∃ y z,b=[y,z,some (.int n)]) (λd=>match d with | .tup [.int k,_]=>decide (n / (3*k+1) % 4=0) |_=>false)
  (λd=>match d with | .tup [_,x]=>x |_ => .Ho) S (bJ 0 (ss.map .str)) (bP 2 [0] [some (.int n),some (.tup (ss.map .str))]) ⟨none,none,rfl⟩ (by
   rintro d o b ⟨y,z,rfl⟩;obtain⟨j,f⟩:=getElem?_of_mem o;rw[dU] at f;obtain⟨x,m,rfl⟩:=map_eq_some_iff.mp f;have s:j<ss.length:=by have:=(List.getElem?_eq_some_iff.mp m).1;simpa using this
   have h:cF (.int 3) (.int ((0+j:Nat):Int))=some (.int (3*((0+j:Nat):Int))):=fN (by decide) (by decide);have g:cT (.int n) (.int (3*((0+j:Nat):Int)+1))=some (.int (n / (3*((0+j:Nat):Int)+1))):=fH (by omega) (by omega);have c:bS (.int (n / (3*((0+j:Nat):Int)+1))) (.int 4)=some (.int (n / (3*((0+j:Nat):Int)+1) % 4)):=a7 (by decide);refine⟨[some (.int ((0+j:Nat):Int)),some x,some (.int n)],rfl,⟨_,_,rfl⟩,?_,λ_=>?_⟩
   ·unfold gI;simp only[zero_add] at h g c ⊢;simp[h,g,c]
   unfold gZ;simp)
 have i:(((bJ 0 (ss.map D.str)).filter (λd=>match d with | .tup [.int k,_]=>decide (n / (3*k+1) % 4=0) |_=>false)).map (λd=>match d with | .tup [_,x]=>x |_ => .Ho)).Sublist (ss.map D.str):=by have:=(filter_sublist (p:=(λd=>match d with | .tup [.int k,_]=>decide (n / (3*k+1) % 4=0) |_=>false)) (l:=bJ 0 (ss.map D.str))).map (λd=>match d with | .tup [_,x]=>x |_ => .Ho);rw[pC] at this;exact this
 obtain⟨a,r,e⟩:=List.sublist_map_iff.mp i;refine⟨a,?_,r⟩;refine az rfl ?_;unfold pp;rw[e] at q;simp[nJ,q,gG]
theorem zE {x:Str}(h:dg x=true):∀ c∈x.cps.toList,c<128:=by unfold dg at h;rw[and_eq_true,and_eq_true,and_eq_true] at h;intro c a;have:=all_eq_true.mp h.2.2.2 c a;unfold isLet at this;simp at this;omega
end Hf
namespace L2
open PySem PyProof.Rows
section
variable (f g:GU D) (ρ:G1) (S:G0)
@[simp] theorem GB (c k:Str):hV c k f ρ S=ai (f ρ S) λd a=>aK (i_ c k d a) a:=rfl
@[simp] theorem FX (c k:Str):nO c k f g ρ S=ai (g ρ S) λv a=>ai (f ρ a) λd S2=>mM c k d v ρ S2:=rfl
@[simp] theorem F9 (c k:Str):Fa c k f g ρ S=ai (f ρ S) λd a=>ai (aK (i_ c k d a) a) λv S2=>ai (g ρ S2) λy b=>Fc c k d v y ρ b:=rfl
@[simp] theorem F4 (c m:Str)(F:GZ)(b:GU (List D)):cV c m F f b ρ S=ai (f ρ S) λd a=>ai (aK (sR c m d a) a) λ_ S2=>ai (b ρ S2) λds e=>iN (F (d::ds) e):=rfl
@[simp] theorem Fr (c m:Str)(F:GZ)(b:GU (List D)):DK c m F f b ρ S=ai (f ρ S) λd a=>ai (aK (sR c m d a) a) λ_ S2=>ai (b ρ S2) λds e=>F (d::ds) e:=rfl
@[simp] theorem F2:tR ρ S=G9 (.loc S.length) (S++[.lst []]):=rfl
@[simp] theorem GG:DN f g ρ S=ai (f ρ S) λd a=>ai (aK (cz d a) a) λ_ S2=>ai (g ρ S2) λv b=>vE d v b:=rfl
@[simp] theorem EZ:BY f ρ S=ai (f ρ S) λd a=>aK ((cz d a).bind λxs=>if xs.length<=sizeLine then some (.tup xs) else none) a:=rfl
@[simp] theorem Ag:nP f ρ S=ai (f ρ S) λ_ a=>G9 (.next ρ) a:=rfl
@[simp] theorem E4 (c:Str)(q:G1->G0->Bool):B5 c q ρ S=if q ρ S=true then some (.error c,S) else none:=rfl
@[simp] theorem GI {α a:Type}(c:Str)(k : α->G0->Out a):ai (some (.error c,S):Out α) k=some (.error c,S):=rfl
end
theorem eN {S:G0}{l:Nat}{a b:MO}(h:S[l]?=some a):(S.set l b)[l]?=some b:=by have:l<S.length:=(List.getElem?_eq_some_iff.mp h).1;simp[this]
theorem cv {S:G0}{l k:Nat}{b:MO}(h:l≠k):(S.set l b)[k]?=S[k]?:=by simp[List.getElem?_set,h]
section
variable (f g:GU D) (ρ:G1) (S:G0)
@[simp] theorem Co:vB f g ρ S=ai (f ρ S) λx a=>ai (g ρ a) λi S2=>aK (kF x i S2) S2:=rfl
@[simp] theorem Gx:ym f g ρ S=ai (f ρ S) λx a=>ai (g ρ a) λi S2=>aK (if bI x=true then kF x i S2 else N3 x i) S2:=rfl
@[simp] theorem Gu (neg:Bool):Ar neg f g ρ S=ai (f ρ S) λk a=>ai (g ρ a) λx S2=>aK (m8 neg k x S2) S2:=rfl
@[simp] theorem F3:wK f g ρ S=ai (f ρ S) λx a=>ai (g ρ a) λk S2=>aK (gR x k S2) S2:=rfl
@[simp] theorem FY (h:GU D):tQ f g h ρ S=ai (h ρ S) λv a=>ai (f ρ a) λx S2=>ai (g ρ S2) λk b=>mW x k v ρ b:=rfl
@[simp] theorem F5:Al f ρ S=ai (f ρ S) λd a=>aK ((cz d a).map λxs => .int xs.length) a:=rfl
@[simp] theorem DC:kL f ρ S=ai (f ρ S) λd a=>aK (fC d a) a:=rfl
@[simp] theorem F1:wJ ρ S=G9 (.loc S.length) (S++[.Hi []]):=rfl
@[simp] theorem EY (u:D->G1->Option G1):qS u f ρ S=ai (f ρ S) λd a=>aK ((u d ρ).map Fl.next) a:=rfl
end
end L2
namespace Hf
open PySem L2 PyProof.Rows
inductive Row where
 |leaf (ss:List Str)
 |ask (c no yes:Nat)
 deriving DecidableEq
def aB:Row->D
 | .leaf a => .tup [.str "names",.tup (a.map .str)]
 | .ask c no yes => .tup [.int c,.int no,.int yes]
def mU:Row->PyData
 | .leaf a => .tuple [.str "names",.tuple (a.map .str)]
 | .ask c no yes => .tuple [.int c,.int no,.int yes]
def cQ:Row->Prop
 | .leaf a => ∀ x∈a,dg x=true
 | .ask _ _ _=>True
theorem BG {x:Str}(h:dg x=true):PyData.strOk x=true:=by have w:=zE h;unfold PyData.strOk;rw[← Array.all_toList,all_eq_true];intro c a;have:=w c a;simp;omega
theorem r8:PyData.strOk ("names":Str)=true:=by decide
theorem jB {r:Row}(h:cQ r):fD (aB r)=some (mU r):=by
 unfold fD;cases r with
 |leaf b =>
  have e:toPy (aB (.leaf b))=some (mU (.leaf b)):=by simp[aB,mU,toPy,cG,fK]
  have a:(b.map PyData.str).all (keyOk 6)=true:=by rw[all_eq_true];intro p d;obtain⟨x,f,rfl⟩:=mem_map.mp d;exact BG (h x f)
  have k:keyOk 8 (mU (.leaf b))=true:=by show ([PyData.str "names",PyData.tuple (b.map .str)]:List PyData).all (keyOk 7)=true;rw[all_cons,all_cons,List.all_nil,Bool.and_true,and_eq_true];exact⟨r8,a⟩
  rw[e,bind_some,if_pos k]
 |ask c no yes=>simp[aB,mU,toPy,cG,keyOk]
theorem Bb (a b:Row):PyData.eqv (mU a) (mU b)=decide (a=b):=by
 cases a with
 |leaf s=>cases b with
  |leaf t=>simp[mU,PyData.eqv,PyData.eqvAll,nI]
  |ask c n y=>simp[mU,PyData.eqv,PyData.eqvAll]
 |ask c n y=>cases b with
  |leaf t=>simp[mU,PyData.eqv,PyData.eqvAll]
  |ask e d f =>
   rw[Bool.eq_iff_iff];simp[mU,PyData.eqv,PyData.eqvAll];omega
theorem fu {a b:Row}(c:cQ a)(d:cQ b):dZ (aB a) (aB b)=decide (a=b):=by unfold dZ;rw[jB c,jB d];exact Bb a b
theorem c0 (r:Row):eA (aB r)=true:=by cases r<;>rfl
def bj (k:Nat):List Row->List (D×D)
 |[]=>[]
 |r::G=>(aB r,.int k)::bj (k+1) G
theorem rX:∀ (G:List Row) (k:Nat),(bj k G).length=G.length
 |[],_=>rfl
 |r::G,k=>by rw[bj,length_cons,length_cons,rX G]
theorem iA {r:Row}(b:cQ r):∀ (G:List Row) (k:Nat),(∀ x∈G,cQ x)->jG (bj k G) (aB r)=if r∈G then some (.int ((k+G.idxOf r:Nat):Int)) else none
 |[],k,_=>rfl
 |x::G,k,h=>by
  have c:=iA b G (k+1) λy g=>h y (mem_cons_of_mem _ g);unfold jG at c ⊢;rw[bj,find?_cons];simp only[fu (h x (mem_cons_self ..)) b];by_cases e:x=r
  ·subst e;simp
  rw[decide_eq_false e];simp only;rw[c];have d:¬ r=x:=λq=>e q.symm;have f:(x==r)=false:=by simpa using e
  by_cases a:r∈G
  ·rw[if_pos a,if_pos (mem_cons_of_mem _ a),idxOf_cons,f];simp only[cond_false];congr 2;omega
  rw[if_neg a,if_neg (by rw[mem_cons];exact λq=>q.elim d a)]
theorem any_nums {r:Row}(b:cQ r)(G:List Row)(k:Nat)(h:∀ x∈G,cQ x)(a:r∉G):((bj k G).any λp=>dZ p.1 (aB r))=false:=by have q:=iA b G k h;rw[if_neg a] at q;unfold jG at q;rw[Option.map_eq_none_iff,List.find?_eq_none] at q;rw[List.any_eq_false];exact q
theorem oR:∀ (G:List Row) (k:Nat) (r:Row),bj k (G++[r])=bj k G++[(aB r,.int ((k+G.length:Nat):Int))]
 |[],k,r=>rfl
 |x::G,k,r=>by
  rw[cons_append,bj,oR G (k+1) r,bj,cons_append,length_cons,show k+1+G.length=k+(G.length+1) by omega]
theorem xm {r:Row}(b:cQ r){G:List Row}(h:∀ x∈G,cQ x)(a:r∉G):putN (bj 0 G) (aB r) (.int G.length)=bj 0 (G++[r]):=by unfold putN;rw[any_nums b G 0 h a,if_neg (by decide),oR,zero_add]
theorem xX {kvs:List (D×D)}{k v:D}(h:dZ k k=true):jG (putN kvs k v) k=some v:=by
 unfold putN;split
 ·rename_i a;unfold jG;rw[any_eq_true] at a;clear h
  induction kvs with
  |nil=>obtain⟨p,b,_⟩:=a;cases b
  |cons p r c =>
   rw[map_cons,find?_cons];cases b:dZ p.1 k with
   |true=>simp[b]
   |false =>
    simp only[b,false_eq_true,if_false];obtain⟨x,hx,q⟩:=a;rcases mem_cons.mp hx with rfl |hx
    ·rw[b] at q;cases q
    exact c ⟨x,hx,q⟩
 rename_i a;unfold jG;rw[Bool.not_eq_true,List.any_eq_false] at a;rw[List.find?_append,List.find?_eq_none.mpr a];simp[h]
abbrev Th:=Nat->Bool
inductive Ev (G:List Row) (th:Th):Nat->List Str->Prop
 |leaf {i:Nat}{ss:List Str}:G[i]?=some (.leaf ss)->Ev G th i ss
 |no {i c n y:Nat}{ss:List Str}:G[i]?=some (.ask c n y)->th c=false->Ev G th n ss->Ev G th i ss
 |yes {i c n y:Nat}{ss:List Str}:G[i]?=some (.ask c n y)->th c=true->Ev G th y ss->Ev G th i ss
theorem qC {G E:List Row}{i:Nat}{r:Row}(h:G[i]?=some r):(G++E)[i]?=some r:=by rw[getElem?_append_left (List.getElem?_eq_some_iff.mp h).1];exact h
theorem Ev.mono {G:List Row}(E:List Row){th:Th}{i:Nat}{ss:List Str}(h:Ev G th i ss):Ev (G++E) th i ss:=by
 induction h with
 |leaf h=>exact .leaf (qC h)
 |no h t _ a=>exact .no (qC h) t a
 |yes h t _ a=>exact .yes (qC h) t a
theorem Ev.det {G:List Row}{th:Th}{i:Nat}{a b:List Str}(h:Ev G th i a)(g:Ev G th i b):a=b:=by
 induction h with
 |leaf h=>cases g with
  |leaf c=>rw[h] at c;cases c;rfl
  |no c=>rw[h] at c;cases c
  |yes c=>rw[h] at c;cases c
 |no h t _ e=>cases g with
  |leaf c=>rw[h] at c;cases c
  |no c d g=>rw[h] at c;cases c;exact e g
  |yes c d g=>rw[h] at c;cases c;rw[t] at d;cases d
 |yes h t _ e=>cases g with
  |leaf c=>rw[h] at c;cases c
  |no c d g=>rw[h] at c;cases c;rw[t] at d;cases d
  |yes c d g=>rw[h] at c;cases c;exact e g
def pl (o:List Nat)(G:List Row)(i:Nat):Nat:=match G[i]? with
 |some (.ask c _ _)=>o.idxOf c
 |_=>o.length
theorem cg {o:List Nat}{G E:List Row}{i:Nat}(h:i<G.length):pl o (G++E) i=pl o G i:=by unfold pl;rw[getElem?_append_left h]
theorem Ew (o:List Nat)(G:List Row)(i:Nat):pl o G i<=o.length:=by
 unfold pl;split
 ·exact List.idxOf_le_length
 exact le_refl _
def JE (o:List Nat)(G:List Row)(i:Nat):Row->Prop
 | .leaf a=>(∀ x∈a,dg x=true)/\NW a=true
 | .ask c n y=>c∈o/\n<i/\y<i/\o.idxOf c<Hf.pl o G n/\o.idxOf c<Hf.pl o G y/\n≠y
structure Wf (o:List Nat) (G:List Row):Prop where
 nd:G.Nodup
 row:∀ (i:Nat) (r:Row),G[i]?=some r->JE o G i r
theorem Wf.ok {o:List Nat}{G:List Row}(h:Wf o G):∀ x∈G,cQ x:=by
 intro x a;obtain⟨i,b⟩:=getElem?_of_mem a;have:=h.row i x b;cases x with
 |leaf d=>exact this.1
 |ask c n y=>trivial
theorem Wf.total {o:List Nat}{G:List Row}(h:Wf o G)(th:Th):∀ (i:Nat),i<G.length->∃ ss,Ev G th i ss:=by
 intro i
 induction i using Nat.strongRecOn with
 |_ i a =>
  intro d;have e:G[i]?=some G[i]:=List.getElem?_eq_getElem d;have q:=h.row i _ e;cases hr:G[i] with
  |leaf ss=>rw[hr] at e;exact⟨ss,.leaf e⟩
  |ask c n y =>
   rw[hr] at e q;obtain⟨_,f,b,_,_,_⟩:=q;cases ht:th c with
   |false=>obtain⟨ss,k⟩:=a n f (by omega);exact⟨ss,.no e ht k⟩
   |true=>obtain⟨ss,k⟩:=a y b (by omega);exact⟨ss,.yes e ht k⟩
theorem Wf.back {o:List Nat}{G E:List Row}(h:Wf o G){th:Th}{i:Nat}{ss:List Str}(hi:i<G.length)(e:Ev (G++E) th i ss):Ev G th i ss:=by obtain⟨a,k⟩:=h.total th i hi;rw[Ev.det e (k.mono E)];exact k
theorem JE.app {o:List Nat}{G E:List Row}{i:Nat}{r:Row}(hi:i<=G.length)(h:JE o G i r):JE o (G++E) i r:=by
 cases r with
 |leaf j=>exact h
 |ask c n y =>
  obtain⟨a,b,g,d,e,f⟩:=h;refine⟨a,b,g,?_,?_,f⟩
  ·rw[cg (by omega)];exact d
  rw[cg (by omega)];exact e
theorem Wf.snoc {o:List Nat}{G:List Row}(h:Wf o G){r:Row}(e:r∉G)(f:JE o G G.length r):Wf o (G++[r]):=by
 refine⟨nodup_append.mpr ⟨h.nd,by simp,λa d b g=>?_⟩,λi x c=>?_⟩
 ·rw[mem_singleton.mp g];rintro rfl;exact e d
 rcases Nat.lt_trichotomy i G.length with hi |hi |hi
 ·rw[getElem?_append_left hi] at c;exact(h.row i x c).app (Nat.le_of_lt hi)
 ·subst hi;have:x=r:=by simpa using c.symm
  subst this;exact f.app (le_refl _)
 rw[getElem?_append_right (by omega)] at c;have:([r]:List Row)[i-G.length]?=none:=by rw[List.getElem?_eq_none_iff];simp;omega
 rw[this] at c;cases c
def jf (C:List (Row×Nat)):List (D×D):=C.map λp=>(aB p.1,.int p.2)
def sel (th:Th)(c n y:Nat):Nat:=if th c=true then y else n
def Ju (o:List Nat)(G:List Row)(r:Row)(v:Nat):Prop:=match r with
 | .leaf _=>False
 | .ask c n y=>n<G.length/\y<G.length/\v<G.length/\min (o.idxOf c) (min (Hf.pl o G n) (Hf.pl o G y))<=Hf.pl o G v/\∀ th a,Ev G th (sel th c n y) a->Ev G th v a
theorem Ju.app {o:List Nat}{G E:List Row}(w:Wf o G){r:Row}{v:Nat}(h:Ju o G r v):Ju o (G++E) r v:=by
 cases r with
 |leaf _=>exact h
 |ask c n y =>
  obtain⟨a,b,i,d,e⟩:=h;refine⟨by rw[List.length_append];omega,by rw[List.length_append];omega,by rw[List.length_append];omega,?_,λth f k=>?_⟩
  ·rw[cg a,cg b,cg i];exact d
  have g:sel th c n y<G.length:=by unfold sel;split<;>assumption
  exact(e th f (w.back g k)).mono E
def lO:List (Row×Nat)->Row->Nat->List (Row×Nat):=λC r v=>if (C.any λp=>decide (p.1=r))=true then C.map (λp=>if p.1=r then (p.1,v) else p) else C++[(r,v)]
theorem wH {C:List (Row×Nat)}(h:∀ p∈C,cQ p.1){r:Row}(a:cQ r)(v:Nat):putN (jf C) (aB r) (.int v)=jf (lO C r v):=by
 have d:((jf C).any λp=>dZ p.1 (aB r))=C.any λp=>decide (p.1=r):=by
  unfold jf;rw[any_map]
  have:∀ l:List (Row×Nat),(∀ p∈l,cQ p.1)->(l.any ((λp=>dZ p.1 (aB r)) ∘ λp=>(aB p.1,D.int p.2)))=l.any λp=>decide (p.1=r):=by
   intro l b
   induction l with
   |nil=>rfl
   |cons p l f =>
    rw[any_cons,any_cons,f λq e=>b q (mem_cons_of_mem _ e)];simp only[Function.comp,fu (b p (mem_cons_self ..)) a]
  exact this C h
 unfold putN lO;rw[d];split
 ·unfold jf;rw[map_map,map_map];refine map_congr_left λp c=>?_;simp only[Function.comp,fu (h p c) a,decide_eq_true_eq];split<;>rfl
 unfold jf;rw[map_append];rfl
theorem B1 {C:List (Row×Nat)}(h:∀ p∈C,cQ p.1){r:Row}(a:cQ r):jG (jf C) (aB r)=(C.find? λp=>decide (p.1=r)).map λp => .int p.2:=by
 unfold jG jf
 induction C with
 |nil=>rfl
 |cons p C c =>
  rw[map_cons,find?_cons,find?_cons];simp only[fu (h p (mem_cons_self ..)) a];cases hd:decide (p.1=r) with
  |true=>rfl
  |false=>exact c λq b=>h q (mem_cons_of_mem _ b)
theorem rS {C:List (Row×Nat)}{P:Row->Nat->Prop}(h:∀ p∈C,P p.1 p.2){r:Row}{v:Nat}(a:P r v):∀ p∈lO C r v,P p.1 p.2:=by
 intro p hp;unfold lO at hp;split at hp
 ·obtain⟨q,b,rfl⟩:=mem_map.mp hp;split
  ·rename_i e;rw[e];exact a
  exact h q b
 rcases mem_append.mp hp with hp |hp
 ·exact h p hp
 rw[mem_singleton.mp hp];exact a
theorem rR (C:List (Row×Nat))(r:Row)(v:Nat):(lO C r v).length<=C.length+1:=by
 unfold lO;split
 ·rw[length_map];omega
 rw[List.length_append];simp
abbrev oD (o:List Nat):D:=.tup (o.map λ(c:Nat)=>D.int c)
abbrev RO (o:List Nat)(L:Nat):MO:=.ins "Rows" [("order",oD o),("gathered",.loc (L+1)),("numbers",.loc (L+2)),("choices",.loc (L+3))]
structure SR (B:Nat->Option MO) (S:G0) (L:Nat) (o:List Nat) (G:List Row) (C:List (Row×Nat)):Prop where
 obj:S[L]?=some (RO o L)
 PF:S[L+1]?=some (.lst (G.map aB))
 num:S[L+2]?=some (.Hi (bj 0 G))
 MP:S[L+3]?=some (.Hi (jf C))
 fr:∀ i,i<L∨L+3<i->S[i]?=B i
theorem Vs:(("gathered":Str)=="order")=false:=by decide
theorem Xy:(("numbers":Str)=="order")=false:=by decide
theorem Xz:(("numbers":Str)=="gathered")=false:=by decide
theorem XA:(("choices":Str)=="order")=false:=by decide
theorem XB:(("choices":Str)=="gathered")=false:=by decide
theorem XC:(("choices":Str)=="numbers")=false:=by decide
section
variable {B:Nat->Option MO}{S:G0}{L:Nat}{o:List Nat}{G:List Row}{C:List (Row×Nat)}
theorem SR.ins (h:SR B S L o G C):vd "Rows" (.loc L) S=some ([("order",oD o),("gathered",.loc (L+1)),("numbers",.loc (L+2)),("choices",.loc (L+3))]:List (Str×D)):=by unfold vd;simp only[h.obj,if_true]
theorem SR.L6 (h:SR B S L o G C):i_ "Rows" "order" (.loc L) S=some (oD o):=by unfold i_;rw[h.ins];simp[List.lookup]
theorem SR.Lo (h:SR B S L o G C):i_ "Rows" "gathered" (.loc L) S=some (.loc (L+1)):=by unfold i_;rw[h.ins];simp[List.lookup,Vs]
theorem SR.Nf (h:SR B S L o G C):i_ "Rows" "numbers" (.loc L) S=some (.loc (L+2)):=by unfold i_;rw[h.ins];simp[List.lookup,Xy,Xz]
theorem SR.KH (h:SR B S L o G C):i_ "Rows" "choices" (.loc L) S=some (.loc (L+3)):=by unfold i_;rw[h.ins];simp[List.lookup,XA,XB,XC]
theorem SR.has (h:SR B S L o G C)(m:Str)(a:((m=="order") ||(m=="gathered") ||(m=="numbers") ||(m=="choices"))=false):sR "Rows" m (.loc L) S=some .Ho:=by rw[Bool.or_eq_false_iff,Bool.or_eq_false_iff,Bool.or_eq_false_iff] at a;unfold sR;rw[h.ins];simp[List.lookup,a.1.1.1,a.1.1.2,a.1.2,a.2]
theorem SR.lst (h:SR B S L o G C):cz (.loc (L+1)) S=some (G.map aB):=by unfold cz;simp only[h.PF]
theorem SR.row (h:SR B S L o G C){i:Nat}{r:Row}(hi:G[i]?=some r):kF (.loc (L+1)) (.int i) S=some (aB r):=by show ((cz (.loc (L+1)) S).bind λa=>Kj a (i:Int))=_;rw[h.lst,bind_some];exact bp (by rw[getElem?_map,hi];rfl)
theorem vm (a b:Nat):Jh (.int a) (.int b)=some (.bl (decide (a=b))):=by
 rw[BT];by_cases h:a=b
 ·simp[h]
 rw[decide_eq_false h,decide_eq_false (by omega)]
theorem eq_str_int (x:Str)(i:Int):Jh (.str x) (.int i)=some (.bl false):=by simp[Jh,toPy,PyData.eqv,PyData.depth]
theorem jW (r:Row)(S:G0):h9 [aB r] S=G9 (.bl (match r with | .leaf _=>false | .ask _ _ _=>true)) S:=by refine az rfl ?_;unfold z_;cases r<;>simp[aB,dh]
theorem idx_map (c:Nat):∀ o:List Nat,(o.map λ(c:Nat)=>(c:Int)).idxOf (c:Int)=o.idxOf c
 |[]=>rfl
 |a::o=>by
  rw[map_cons,idxOf_cons,idxOf_cons,idx_map c o];by_cases h:a=c
  ·simp[h]
  have b:(a==c)=false:=by simpa using h
  have d:((a:Int)==(c:Int))=false:=by rw[beq_eq_false_iff_ne];omega
  rw[b,d]
theorem HV:∀ l:List Int,cm (l.map .int)=some l
 |[]=>rfl
 |a::l=>by rw[map_cons,cm,HV l];rfl
theorem zW (o:List Nat):cm (o.map λ(c:Nat)=>D.int c)=some (o.map λ(c:Nat)=>(c:Int)):=by rw[show (o.map λ(c:Nat)=>D.int c)=(o.map λ(c:Nat)=>(c:Int)).map D.int by rw[map_map];rfl,HV]
theorem o9 {o:List Nat}{c:Nat}(h:c∈o):iz (oD o) (.int c)=some (.int (o.idxOf c:Nat)):=by unfold iz oD;simp only[zW,bind_some];rw[if_pos (mem_map.mpr ⟨c,h,rfl⟩),idx_map]
theorem y9 {i:Nat}{r:Row}(hi:G[i]?=some r)(w:JE o G i r)(S:G0):jk [aB r,oD o] S=G9 (.int (Hf.pl o G i:Nat)) S:=by
 have a:=jW r S;unfold Hf.pl;rw[hi];refine az rfl ?_;unfold nF;cases r with
 |leaf f =>
  have:dh [oD o]=some (.int o.length):=by simp[dh]
  simp[a,this]
 |ask c n y =>
  have b:=o9 w.1;have e:HL (aB (.ask c n y)) (.int 0) S=some (.int c):=MN _ _ S;have d:eA (oD o)=true:=rfl;simp[a,e,b,d]
theorem Aa (h:SR B S L o G C)(w:Wf o G)(nd:o.Nodup){c i j:Nat}(m:c∈o)(hi:i<G.length)(s:j<G.length) :
  ∃ f,f∈o/\o.idxOf f=min (o.idxOf c) (min (Hf.pl o G i) (Hf.pl o G j))/\bQ [.loc L,.int c,.int i,.int j] S=G9 (.int f) S:=by
 have z:o.idxOf c<o.length:=idxOf_lt_length_iff.mpr m;have g:min (o.idxOf c) (min (Hf.pl o G i) (Hf.pl o G j))<o.length:=by omega
 have one:∀ k:Nat,k<G.length->aY [some (.int k),some (.loc L)] S=G9 (.int (Hf.pl o G k:Nat)) S:=by intro k v;have e:G[k]?=some G[k]:=List.getElem?_eq_getElem v;have q:=y9 e (w.row k _ e) S;have p:=h.row e;unfold aY;simp[h.Lo,h.L6,p,q]
 have q:=dW (u:=aC 0) (fe:=aY) (λl => ∃ y,l=[y,some (.loc L)]) (λd=>match d with | .int k => .int (Hf.pl o G k.toNat:Nat) |_ => .Ho) S [.int i,.int j] (bP 1 [0] [some (.loc L),some (.int c),some (.int i),some (.int j),none]) ⟨none,rfl⟩ (by
  rintro d hd l ⟨y,rfl⟩;refine⟨_,rfl,⟨_,rfl⟩,?_⟩;simp only[mem_cons,not_mem_nil,or_false] at hd;rcases hd with rfl |rfl
  ·have:=one i hi;simpa using this
  have:=one j s;simpa using this)
 have t:=o9 m;have x:eA (oD o)=true:=rfl;refine⟨o[min (o.idxOf c) (min (Hf.pl o G i) (Hf.pl o G j))],getElem_mem g,nd.idxOf_getElem _ g,az rfl ?_⟩;have n:sx [.lst [.int (Hf.pl o G i:Nat),.int (Hf.pl o G j:Nat),.int (o.idxOf c:Nat)]]=some (.int ((min (o.idxOf c) (min (Hf.pl o G i) (Hf.pl o G j)):Nat):Int)):=by simp only[sx,cm,map_some,bind_some,Dj,List.foldl];congr 2;split<;>split<;>omega
 have r:HL (oD o) (.int ((min (o.idxOf c) (min (Hf.pl o G i) (Hf.pl o G j)):Nat):Int)) S=some (.int (o[min (o.idxOf c) (min (Hf.pl o G i) (Hf.pl o G j))]:Nat)):=by unfold HL;rw[if_neg (by simp[bI])];show Kj (o.map λ(c:Nat)=>D.int c) _=_;exact bp (by rw[getElem?_map,List.getElem?_eq_getElem g];rfl)
 have z2:Jc [.int i,.int j] (.tup [.int i,.int j])=some (.tup [.int i,.int j]):=bu (by simp);have z1:Jc [.int (o.idxOf c:Nat)] (.lst [.int (o.idxOf c:Nat)])=some (.lst [.int (o.idxOf c:Nat)]):=bu (by simp);have ad:bE (.lst [.int (Hf.pl o G i:Nat),.int (Hf.pl o G j:Nat)]) (.lst [.int (o.idxOf c:Nat)])=some (.lst [.int (Hf.pl o G i:Nat),.int (Hf.pl o G j:Nat),.int (o.idxOf c:Nat)]):=by exact(kQ _ _).trans (if_pos (show 3<=sizeLine by decide))
 unfold cL;simp only[map_cons,map_nil,Int.toNat_natCast] at q;generalize Hf.pl o G i=a at *
 generalize Hf.pl o G j=b at *
 generalize o.idxOf c=k at *
 simp[z2,bX,q,h.L6,x,t,z1,ad,n,r]
def sd (G:List Row)(i c:Nat)(b:Bool):Nat:=match G[i]? with
 |some (.ask c' n y)=>if c'=c then (if b=true then y else n) else i
 |_=>i
theorem ip (h:SR B S L o G C){i:Nat}(hi:i<G.length)(c:Nat)(b:Bool):bL [.loc L,.int i,.int c,.int (if b=true then 1 else 0)] S=G9 (.int (sd G i c b:Nat)) S:=by
 have e:G[i]?=some G[i]:=List.getElem?_eq_getElem hi;have d:=h.row e;unfold sd;rw[e]
 suffices ef:kT [.loc (L+1),.int i,.int c,.int (if b=true then 1 else 0)] S=G9 (.int (match some G[i] with
  |some (.ask a n y)=>if a=c then (if b=true then y else n) else i
  |_=>i:Nat)) S by
  refine az rfl ?_;unfold lB;simp[h.Lo,ef]
 refine az rfl ?_;unfold pf;cases hr:G[i] with
 |leaf k =>
  rw[hr] at d;have g:HL (aB (.leaf k)) (.int 0) S=some (.str "names"):=MN _ _ S;simp[d,g,eq_str_int,bI]
 |ask a n y =>
  rw[hr] at d;have g:HL (aB (.ask a n y)) (.int 0) S=some (.int a):=MN _ _ S;have m:HL (aB (.ask a n y)) (.int 1) S=some (.int n):=NX _ _ _ S;have l:HL (aB (.ask a n y)) (.int 2) S=some (.int y):=at2 _ _ _ _ S;have f:=vm a c;by_cases j:a=c
  ·subst j;rw[decide_eq_true rfl] at f;cases b<;>simp[d,g,f,m,l,bI]
  rw[decide_eq_false j] at f;cases b<;>simp[d,g,f,j,bI]
theorem io (w:Wf o G){i c:Nat}(hi:i<G.length)(b:Bool)(l:c∈o)(d:o.idxOf c<=Hf.pl o G i):sd G i c b<G.length/\o.idxOf c<Hf.pl o G (sd G i c b)/\∀ th ss,th c=b->Ev G th i ss->Ev G th (sd G i c b) ss:=by
 have e:G[i]?=some G[i]:=List.getElem?_eq_getElem hi;have j:o.idxOf c<o.length:=idxOf_lt_length_iff.mpr l;have q:=w.row i _ e;unfold sd;rw[e];cases hr:G[i] with
 |leaf ss =>
  refine⟨hi,?_,λ_ _ _ k=>k⟩;unfold Hf.pl;rw[e,hr];exact j
 |ask r n y =>
  rw[hr] at q e;obtain⟨p,x,z,v,u,_⟩:=q;by_cases f:r=c
  ·subst f;simp only[if_true];cases b with
   |false =>
    refine⟨by simp;omega,by simpa using v,λth ss g k=>?_⟩;cases k with
    |leaf a=>rw[e] at a;cases a
    |no a _ k=>rw[e] at a;cases a;exact k
    |yes a t k=>rw[e] at a;cases a;cases g.symm.trans t
   |true =>
    refine⟨by simp;omega,by simpa using u,λth ss g k=>?_⟩;cases k with
    |leaf a=>rw[e] at a;cases a
    |no a t k=>rw[e] at a;cases a;cases g.symm.trans t
    |yes a _ k=>rw[e] at a;cases a;exact k
  simp only[if_neg f];refine⟨hi,?_,λ_ _ _ k=>k⟩;unfold Hf.pl at d ⊢;rw[e] at d ⊢;simp only at d ⊢;rcases Nat.lt_or_eq_of_le d with h |h
  ·exact h
  exfalso;apply f;have s:=getElem_idxOf (idxOf_lt_length_iff.mpr p);have m:=getElem_idxOf j;rw[← s,← m];congr 1;exact h.symm
theorem oS (h:SR B S L o G C)(w:Wf o G){r:Row}(p:JE o G G.length r)(hz:G.length<16000000) :
  ∃ v E i,bH [.loc L,aB r] S=G9 (.int (i:Nat)) v/\SR B v L o (G++E) C/\Wf o (G++E)/\(G++E)[i]?=some r/\E.length<=1:=by
 have ok:cQ r:=by cases r with
  |leaf K=>exact p.1
  |ask c n y=>trivial
 have b:=jB ok;have d:=iA ok G 0 w.ok;have N:sizeLine=16777216:=rfl;by_cases a:r∈G
 ·rw[if_pos a,zero_add] at d;have q:G.idxOf r<G.length:=idxOf_lt_length_iff.mpr a;refine⟨S,[],G.idxOf r,az rfl ?_,by rw[append_nil];exact h,by rw[append_nil];exact w,?_,by simp⟩
  ·have j:m8 true (aB r) (.loc (L+2)) S=some (.bl false):=by
    unfold m8;simp only[h.num,b,c0,if_true,d];rfl
   have l:gR (.loc (L+2)) (aB r) S=some (.int (G.idxOf r:Nat)):=by unfold gR;simp only[h.num,b,c0,if_true,d]
   unfold cX;simp[h.Nf,j,l]
  rw[append_nil,List.getElem?_eq_getElem q,getElem_idxOf q]
 rw[if_neg a] at d;have j:m8 true (aB r) (.loc (L+2)) S=some (.bl true):=by unfold m8;simp only[h.num,b,c0,if_true,d];rfl
 have ep:∀ g,mW (.loc (L+2)) (aB r) (.int (G.length:Nat)) g S=G9 (.next g) (S.set (L+2) (.Hi (bj 0 (G++[r])))):=λg=>by unfold mW;simp only[h.num,b];rw[if_pos ⟨by rw[rX];omega,c0 r⟩,xm ok w.ok a]
 generalize e:S.set (L+2) (.Hi (bj 0 (G++[r])))=S1 at ep;have x:S1[L]?=some (RO o L):=by rw[← e,cv (by omega)];exact h.obj
 have m:S1[L+1]?=some (.lst (G.map aB)):=by rw[← e,cv (by omega)];exact h.PF
 have F:S1[L+2]?=some (.Hi (bj 0 (G++[r]))):=by rw[← e];exact eN h.num
 have D:S1[L+3]?=some (.Hi (jf C)):=by rw[← e,cv (by omega)];exact h.MP
 have A:i_ "Rows" "gathered" (.loc L) S1=some (.loc (L+1)):=by unfold i_ vd;simp only[x,if_true];simp[List.lookup,Vs]
 have z:cz (.loc (L+1)) S1=some (G.map aB):=by unfold cz;simp only[m]
 have u:vE (.loc (L+1)) (aB r) S1=G9 .Ho (S1.set (L+1) (.lst ((G++[r]).map aB))):=by unfold vE;simp only[m];rw[if_pos (by rw[length_map];omega),map_append];rfl
 have f:SR B (S1.set (L+1) (.lst ((G++[r]).map aB))) L o (G++[r]) C:=by
  refine⟨?_,eN m,?_,?_,λk H=>by rw[cv (by omega),← e,cv (by omega)];exact h.fr k H⟩
  ·rw[cv (by omega)];exact x
  ·rw[cv (by omega)];exact F
  rw[cv (by omega)];exact D
 generalize M:S1.set (L+1) (.lst ((G++[r]).map aB))=S2 at u f;have s:=w.snoc a p;have t:=iA ok (G++[r]) 0 s.ok;rw[if_pos (by simp),zero_add,List.idxOf_append,if_neg a] at t;have I:([r]:List Row).idxOf r+G.length=G.length:=by simp
 have J:G.length+([r]:List Row).idxOf r=G.length:=by simp
 refine⟨S2,[r],G.length,az rfl ?_,f,s,by simp,by simp⟩
 have l:gR (.loc (L+2)) (aB r) S2=some (.int (G.length:Nat)):=by
  unfold gR;simp only[f.num,b,c0,if_true,t]
  first |rw[I] |rw[J]
 unfold cX;simp[h.Nf,j,h.Lo,h.lst,ep,A,z,u,f.Nf,l]
end
section
variable {B:Nat->Option MO}{S:G0}{L:Nat}{o:List Nat}{G:List Row}{C:List (Row×Nat)}
theorem AA (h:SR B S L o G C)(w:Wf o G){c a b:Nat}(n:c∈o)(j:a<G.length)(y:b<G.length)(u:o.idxOf c<Hf.pl o G a)(m:o.idxOf c<Hf.pl o G b)(hz:G.length<16000000) :
  ∃ d E i,bB [.loc L,.int c,.int a,.int b] S=G9 (.int (i:Nat)) d/\SR B d L o (G++E) C/\Wf o (G++E)/\i<(G++E).length/\o.idxOf c<=Hf.pl o (G++E) i/\E.length<=1/\∀ th ss,Ev (G++E) th (sel th c a b) ss->Ev (G++E) th i ss:=by
 have l:=vm a b;by_cases e:a=b
 ·subst e;rw[decide_eq_true rfl] at l;refine⟨S,[],a,az rfl ?_,by rw[append_nil];exact h,by rw[append_nil];exact w,by rw[append_nil];exact j,by rw[append_nil];omega,by simp,λth ss k=>?_⟩
  ·unfold b7;simp
  unfold sel at k;simpa using k
 rw[decide_eq_false e] at l;obtain⟨d,E,i,g,x,q,f,p⟩:=oS h w (r:=.ask c a b) ⟨n,j,y,u,m,e⟩ hz;have v:=(List.getElem?_eq_some_iff.mp f).1;have z:=h.has "number_of" (by decide);have t:Jc [.int c,.int a,.int b] (.tup [.int c,.int a,.int b])=some (.tup [.int c,.int a,.int b]):=bu (by simp);have g:bH [.loc L,.tup [.int c,.int a,.int b]] S=G9 (.int (i:Nat)) d:=g;have s:¬ ((a:Int)=b):=by omega
 refine⟨d,E,i,az rfl ?_,x,q,v,?_,p,λth ss k=>?_⟩
 ·unfold b7;simp[s,z,t,g]
 ·unfold Hf.pl;rw[f];exact le_refl _
 unfold sel at k;cases ht:th c with
 |false=>rw[ht] at k;exact .no f ht (by simpa using k)
 |true=>rw[ht] at k;exact .yes f ht (by simpa using k)
def vJ (B:Nat->Option MO)(L:Nat)(o:List Nat)(G:List Row)(C:List (Row×Nat))(c i j N M:Nat)(out:Out D):Prop:=
 ∃ b E a r,out=G9 (.int (r:Nat)) b/\SR B b L o (G++E) a/\Wf o (G++E)/\(∀ p∈a,Ju o (G++E) p.1 p.2)/\Ju o (G++E) (.ask c i j) r/\E.length<=N/\a.length<=C.length+M
theorem oP {r:Row}{v:Nat}(h:Ju o G r v):cQ r:=by
 cases r with
 |leaf _=>exact h.elim
 |ask _ _ _=>trivial
theorem SR.put (h:SR B S L o G C)(m:∀ p∈C,Ju o G p.1 p.2)(c i j v:Nat)(hz:C.length<16000000)(ρ:G1) :
  ∃ d,mW (.loc (L+3)) (aB (.ask c i j)) (.int v) ρ S=G9 (.next ρ) d/\SR B d L o G (lO C (.ask c i j) v)/\gR (.loc (L+3)) (aB (.ask c i j)) d=some (.int v):=by
 have e:=jB (r:=.ask c i j) trivial;have f:∀ p∈C,cQ p.1:=λp l=>oP (m p l);have q:S.set (L+3) (.Hi (putN (jf C) (aB (.ask c i j)) (.int v)))=S.set (L+3) (.Hi (jf (lO C (.ask c i j) v))):=by rw[wH f (r:=.ask c i j) trivial]
 refine⟨S.set (L+3) (.Hi (jf (lO C (.ask c i j) v))),?_,⟨?_,?_,?_,eN h.MP,λk n=>by rw[cv (by omega)];exact h.fr k n⟩,?_⟩
 ·unfold mW;simp only[h.MP,e];rw[if_pos ⟨by unfold jf;rw[length_map];exact lt_of_lt_of_le hz (by decide),c0 _⟩,q]
 ·rw[cv (by omega)];exact h.obj
 ·rw[cv (by omega)];exact h.PF
 ·rw[cv (by omega)];exact h.num
 have g:=eN (b:=.Hi (jf (lO C (.ask c i j) v))) h.MP;unfold gR;simp only[g,e,c0,if_true];rw[← wH f (r:=.ask c i j) trivial];exact xX (by rw[fu (a:=.ask c i j) (b:=.ask c i j) trivial trivial];simp)
theorem EK {n x f a b:Nat}(h:x<n+1+f)(d:f<x)(e:f<a)(c:f<b):x<n+min x (min a b):=by have:f+1<=min x (min a b):=Nat.le_min.mpr ⟨d,Nat.le_min.mpr ⟨e,c⟩⟩;omega
theorem half {g p q N:Nat}(h:g+q<=N)(e:q=2*p):g+p<=N:=by omega
theorem EV {g d p q l N:Nat}(h:g+q<=N)(e:q=2*p)(k:d<=p-1)(b : 1<=p)(a:l=g+d):l+p<=N:=by omega
theorem EU {g d p q N:Nat}(h:g+q<=N)(e:q=2*p)(k:d<=g+(p-1))(a : 1<=p):d+p<=N:=by omega
theorem d_ {G E:List Row}{i:Nat}(h:i<G.length):i<(G++E).length:=by rw[List.length_append];omega
theorem B9 (nd:o.Nodup){F:GZ}{n:Nat}(IH:∀ {S:G0}{G:List Row}{C:List (Row×Nat)}{c i j:Nat},SR B S L o G C->Wf o G->(∀ p∈C,Ju o G p.1 p.2)->c∈o->i<G.length->j<G.length->o.idxOf c<n+min (o.idxOf c) (min (Hf.pl o G i) (Hf.pl o G j))->G.length+2 ^ n<=16000000->C.length+2 ^ n<=16000000->vJ B L o G C c i j (2 ^ n-1) (2 ^ n-1) (F [.loc L,.int c,.int i,.int j] S))
  {c i j:Nat}(h:SR B S L o G C) (w:Wf o G) (hC:∀ p∈C,Ju o G p.1 p.2) (r:c∈o) (hi:i<G.length) (m:j<G.length) (s:o.idxOf c<n+1+min (o.idxOf c) (min (Hf.pl o G i) (Hf.pl o G j))) (hz:G.length+2 ^ (n+1)<=16000000) (Pc:C.length+2 ^ (n+1)<=16000000) :
  vJ B L o G C c i j (2 ^ (n+1)-1) (2 ^ (n+1)-2) (cC F [.loc L,.int c,.int i,.int j] S):=by
 have P : 2 ^ (n+1)=2*2 ^ n:=by rw[pow_succ];omega
 have p1 : 1<=2 ^ n:=one_le_two_pow;obtain⟨f,x,y,e1⟩:=Aa h w nd r hi m;have gc:o.idxOf f<=o.idxOf c:=y▸Nat.min_le_left _ _;have U:o.idxOf f<=Hf.pl o G i:=y▸Nat.le_trans (min_le_right _ _) (Nat.min_le_left _ _);have T:o.idxOf f<=Hf.pl o G j:=y▸Nat.le_trans (min_le_right _ _) (min_le_right _ _);rw[← y] at s;have hq:=vm f c;have Pd:=h.has "first_character" (by decide);have NP:=h.has "number_of_ask" (by decide);have Vu:=h.has "side" (by decide);have XE:=h.has "choose" (by decide);by_cases V:f=c
 ·subst V;rw[decide_eq_true rfl] at hq;have z:=ip h hi f false;have D:=ip h m f true;obtain⟨u,t,X⟩:=io w hi false r U;obtain⟨N,O,Y⟩:=io w m true r T;obtain⟨S',E,v,q1,sr,R,hv,pv,hE,Om⟩:=AA h w r u N t O (by omega);refine⟨S',E,C,v,az rfl ?_,sr,R,λp s=>(hC p s).app w,⟨d_ hi,d_ m,hv,by omega,λth e k=>?_⟩,by omega,by omega⟩
  ·unfold cA;simp only[false_eq_true,if_false,if_true] at z D;simp[Pd,NP,Vu,e1,z,D,q1]
  refine Om th e ?_;have Z:sel th f i j<G.length:=by unfold sel;split<;>assumption
  have k:=w.back Z k;unfold sel at k ⊢;cases ht:th f with
  |false=>rw[ht] at k;exact(X th e ht (by simpa using k)).mono E
  |true=>rw[ht] at k;exact(Y th e ht (by simpa using k)).mono E
 rw[decide_eq_false V] at hq;have Ij:¬ ((f:Int)=c):=by omega
 have Q:o.idxOf f<o.idxOf c:=by
  rcases Nat.lt_or_eq_of_le gc with q |q
  ·exact q
  exfalso;apply V;have u:=getElem_idxOf (idxOf_lt_length_iff.mpr x);have t:=getElem_idxOf (idxOf_lt_length_iff.mpr r);rw[← u,← t];congr 1
 have z:=ip h hi f false;have D:=ip h m f false;obtain⟨u,t,X⟩:=io w hi false x U;obtain⟨N,O,Y⟩:=io w m false x T;obtain⟨S1,d,C1,a,q1,M,W,PH,XF,l1,m1⟩:=IH h w hC r u N (EK s Q t O) (half hz P) (half Pc P);obtain⟨_,_,va,pa,T5⟩:=XF;have Vv:Hf.pl o (G++d) i=Hf.pl o G i:=cg hi;have Vw:Hf.pl o (G++d) j=Hf.pl o G j:=cg m;have K:i<(G++d).length:=d_ hi;have J:j<(G++d).length:=d_ m;have R1:(G++d).length=G.length+d.length:=List.length_append;have t1:=ip M K f true;have t2:=ip M J f true;obtain⟨c1,c2,c3⟩:=io W K true x (Vv▸U);obtain⟨d1,d2,d3⟩:=io W J true x (Vw▸T);have XG:=M.has "side" (by decide);have XH:=M.has "choose" (by decide);obtain⟨S2,g,C2,b,q2,Pe,R,T6,XI,l2,m2⟩:=IH M W PH r c1 d1 (EK s Q c2 d2) (EV hz P l1 p1 R1) (EU Pc P m1 p1);obtain⟨_,_,vb,pb,T7⟩:=XI;have XJ:=Pe.has "number_of_ask" (by decide);have Vx:(G++d++g).length=G.length+d.length+g.length:=by rw[List.length_append,R1]
 rw[cg u,cg N] at pa;rw[cg c1,cg d1] at pb;have ga:o.idxOf f<Hf.pl o (G++d++g) a:=by rw[cg va];exact lt_of_lt_of_le (lt_min.mpr ⟨Q,lt_min.mpr ⟨t,O⟩⟩) pa
 have gb:o.idxOf f<Hf.pl o (G++d++g) b:=lt_of_lt_of_le (lt_min.mpr ⟨Q,lt_min.mpr ⟨c2,d2⟩⟩) pb;obtain⟨S3,l,v,q3,T8,w3,hv,pv,l3,Om⟩:=AA Pe R (c:=f) (a:=a) (b:=b) x (d_ va) vb ga gb (by omega);have H:G++(d++g++l)=G++d++g++l:=by simp
 have YC:(G++d++g++l).length=G.length+d.length+g.length+l.length:=by rw[List.length_append,Vx]
 refine⟨S3,d++g++l,C2,v,az rfl ?_,by rw[H];exact T8,by rw[H];exact w3,λp s=>by rw[H];exact(T6 p s).app R,?_,by rw[List.length_append,List.length_append];omega,by omega⟩
 ·unfold cA;simp only[false_eq_true,if_false,if_true] at z D t1 t2;simp[Pd,Vu,XE,e1,Ij,z,D,q1,XG,XH,t1,t2,q2,XJ,q3]
 rw[H];have px:Hf.pl o (G++d++g++l) i=Hf.pl o G i:=by rw[cg (d_ K),cg K,Vv]
 have py:Hf.pl o (G++d++g++l) j=Hf.pl o G j:=by rw[cg (d_ J),cg J,Vw]
 refine⟨d_ (d_ K),d_ (d_ J),hv,by rw[px,py,← y];exact pv,λth e k=>?_⟩;refine Om th e ?_;have Z:sel th c i j<G.length:=by unfold sel;split<;>assumption
 have k:Ev G th (sel th c i j) e:=w.back (E:=d++g++l) Z (by rw[H];exact k);cases ht:th f with
 |false =>
  have:Ev (G++d) th (sel th c (sd G i f false) (sd G j f false)) e:=by
   unfold sel at k ⊢;by_cases I:th c=true
   ·rw[if_pos I] at k ⊢;exact(Y th e ht k).mono d
   rw[if_neg I] at k ⊢;exact(X th e ht k).mono d
  have:=T5 th e this;show Ev _ th (if th f=true then b else a) e;rw[ht];exact(this.mono g).mono l
 |true =>
  have A:Ev (G++d) th (sel th c i j) e:=k.mono d
  have:Ev (G++d++g) th (sel th c (sd (G++d) i f true) (sd (G++d) j f true)) e:=by
   unfold sel at A ⊢;by_cases I:th c=true
   ·rw[if_pos I] at A ⊢;exact(d3 th e ht A).mono g
   rw[if_neg I] at A ⊢;exact(c3 th e ht A).mono g
  have:=T7 th e this;show Ev _ th (if th f=true then b else a) e;rw[ht];exact this.mono l
theorem pG (nd:o.Nodup):∀ (n:Nat) {S:G0}{G:List Row}{C:List (Row×Nat)}{c i j:Nat},SR B S L o G C->Wf o G->(∀ p∈C,Ju o G p.1 p.2)->c∈o->i<G.length->j<G.length->o.idxOf c<n+min (o.idxOf c) (min (Hf.pl o G i) (Hf.pl o G j))->G.length+2 ^ n<=16000000->C.length+2 ^ n<=16000000->vJ B L o G C c i j (2 ^ n-1) (2 ^ n-1) (dc n [.loc L,.int c,.int i,.int j] S)
 | 0,S,G,C,c,i,j,h,w,d,y,l,A,f,z,F=>absurd f (by omega)
 |n+1,S,G,C,c,i,j,h,w,d,y,l,A,f,z,F=>by
  have u:=jB (r:=.ask c i j) trivial;have Q:∀ p∈C,cQ p.1:=λp f=>oP (d p f);have g:=B1 Q (r:=.ask c i j) trivial;have t:Jc [.int c,.int i,.int j] (.tup [.int c,.int i,.int j])=some (.tup [.int c,.int i,.int j]):=bu (by simp);have U : 1<=2 ^ n:=one_le_two_pow;have W : 2 ^ (n+1)=2*2 ^ n:=by rw[pow_succ];omega
  have s:aB (.ask c i j) = .tup [.int c,.int i,.int j]:=rfl;cases hf:C.find? (λp=>decide (p.1=Row.ask c i j)) with
  |some p =>
   rw[hf] at g;have R:=List.mem_of_find?_eq_some hf;have M:p.1 = .ask c i j:=by simpa using List.find?_some hf
   have a:=d p R;rw[M] at a;have e:m8 true (aB (.ask c i j)) (.loc (L+3)) S=some (.bl false):=by unfold m8;simp only[h.MP,u,c0,if_true,g];rfl
   have b:gR (.loc (L+3)) (aB (.ask c i j)) S=some (.int (p.2:Nat)):=by unfold gR;simp only[h.MP,u,c0,if_true,g];rfl
   rw[s] at e b;refine⟨S,[],C,p.2,az rfl ?_,by rw[append_nil];exact h,by rw[append_nil];exact w,by rw[append_nil];exact d,by rw[append_nil];exact a,by simp,by omega⟩;unfold c9;simp[t,h.KH,e,b]
  |none =>
   rw[hf] at g;have e:m8 true (aB (.ask c i j)) (.loc (L+3)) S=some (.bl true):=by unfold m8;simp only[h.MP,u,c0,if_true,g];rfl
   rw[s] at e;have P:=h.has "choose_anew" (by decide);by_cases J:i=j
   ·subst J;have a:Ju o G (.ask c i i) i:=⟨l,l,l,by omega,λth T k=>by unfold sel at k;simpa using k⟩;obtain⟨x,ep,m,b⟩:=h.put d c i i i (by omega) [some (.loc L),some (.int c),some (.int i),some (.int i),some (.tup [.int c,.int i,.int i])];rw[s] at ep b;have pl:=rR C (.ask c i i) i;refine⟨x,[],lO C (.ask c i i) i,i,az rfl ?_,by rw[append_nil];exact m,by rw[append_nil];exact w,by rw[append_nil];exact rS d a,by rw[append_nil];exact a,by simp,by omega⟩;unfold c9;simp[t,h.KH,e,ep,m.KH,b]
   have K:¬ ((i:Int)=j):=by omega
   obtain⟨X,E,H,v,q,I,N,D,a,O,V⟩:=B9 nd (λ{S G C c i j}=>pG nd n (S:=S) (G:=G) (C:=C) (c:=c) (i:=i) (j:=j)) h w d y l A f z F;obtain⟨x,ep,m,b⟩:=I.put D c i j v (by omega) [some (.loc L),some (.int c),some (.int i),some (.int j),some (.tup [.int c,.int i,.int j])];rw[s] at ep b;have pl:=rR H (.ask c i j) v;refine⟨x,E,lO H (.ask c i j) v,v,az rfl ?_,m,N,rS D a,a,O,by omega⟩;unfold c9;simp[t,h.KH,e,K,P,q,I.KH,ep,m.KH,b]
end
inductive KQ (m:Nat):Nat->D->Prop
 |leaf {k:Nat}{ss:List Str}:(∀ x∈ss,dg x=true)->NW ss=true->ss.length<=6->KQ m k (aB (.leaf ss))
 |ask {k c:Nat}{x y:D}:c<m->KQ m k x->KQ m k y->KQ m (k+1) (.tup [.str "ask",.int c,x,y])
inductive Kv (th:Th):D->List Str->Prop
 |leaf {ss:List Str}:Kv th (aB (.leaf ss)) ss
 |no {c:Nat}{x y:D}{ss:List Str}:th c=false->Kv th x ss->Kv th (.tup [.str "ask",.int c,x,y]) ss
 |yes {c:Nat}{x y:D}{ss:List Str}:th c=true->Kv th y ss->Kv th (.tup [.str "ask",.int c,x,y]) ss
theorem eqs (w s:Str):Jh (.str w) (.str s)=some (.bl (decide (w=s))):=by rw[Ad rfl];rfl
theorem wN:¬ ("ask":Str)="names":=by decide
section
variable {B:Nat->Option MO}{L:Nat}{o:List Nat}
theorem BE (nd:o.Nodup)(hl:o.length<=8){m:Nat}(ho:∀ c,c<m->c∈o){k:Nat}{d:D}(hd:KQ m k d):∀ (fuel:Nat) {S:G0}{G:List Row}{C:List (Row×Nat)},k<fuel->SR B S L o G C->Wf o G->(∀ p∈C,Ju o G p.1 p.2)->G.length+512*2 ^ (k+1)<=16000000->C.length+512*2 ^ (k+1)<=16000000 ->
  ∃ F E J r,cu fuel [.loc L,d] S=G9 (.int (r:Nat)) F/\SR B F L o (G++E) J/\Wf o (G++E)/\(∀ p∈J,Ju o (G++E) p.1 p.2)/\r<(G++E).length/\E.length+512<=512*2 ^ (k+1)/\J.length+512<=C.length+512*2 ^ (k+1)/\∀ th ss,Kv th d ss->Ev (G++E) th r ss:=by
 induction hd with
 | @leaf k ss h1 h2 _ =>
  intro fuel S G C hf h w M hz Pc;obtain⟨fuel,rfl⟩:∃ f,fuel=f+1:=⟨fuel-1,by omega⟩;have V : 1<=2 ^ k:=one_le_two_pow;have p2 : 2 ^ (k+1)=2*2 ^ k:=by rw[pow_succ];omega
  obtain⟨F,E,i,H,sr,K,Q,hE⟩:=oS h w (r:=.leaf ss) ⟨h1,h2⟩ (by omega);have I:=h.has "number_of" (by decide);have e0:HL (aB (.leaf ss)) (.int 0) S=some (.str "names"):=MN _ _ S;have s:=eqs "names" "names";rw[decide_eq_true rfl] at s;refine⟨F,E,C,i,az rfl ?_,sr,K,λp hp=>(M p hp).app w,(List.getElem?_eq_some_iff.mp Q).1,by omega,by omega,λth Mj k=>?_⟩
  ·unfold dB;simp[e0,s,I,H]
  generalize z:aB (.leaf ss)=D0 at k;cases k with
  |leaf =>
   have hs:ss=Mj:=by simp only[aB,D.tup.injEq,List.cons.injEq,and_true,true_and] at z;exact(List.map_inj_right (λa b h=>by cases h;rfl)).mp z
   subst hs;exact .leaf Q
  |no=>simp[aB] at z
  |yes=>simp[aB] at z
 | @ask k c x y U _ _ ix iy =>
  intro fuel S G C hf h w M hz Pc;obtain⟨fuel,rfl⟩:∃ f,fuel=f+1:=⟨fuel-1,by omega⟩;have V : 1<=2 ^ (k+1):=one_le_two_pow;have p2 : 2 ^ (k+1+1)=2*2 ^ (k+1):=by rw[pow_succ];omega
  obtain⟨S1,g,C1,t,H,Ku,X,PH,v1,l1,m1,T9⟩:=ix fuel (by omega) h w M (by omega) (by omega);have Y:(G++g).length=G.length+g.length:=List.length_append;obtain⟨S2,l,C2,A,e2,Pe,K,Z,v2,l2,m2,T_⟩:=iy fuel (by omega) Ku X PH (by omega) (by omega);have Vx:(G++g++l).length=G.length+g.length+l.length:=by rw[List.length_append,Y]
  have T:=ho c U;have Px:o.idxOf c<o.length:=idxOf_lt_length_iff.mpr T;have I:=h.has "choose" (by decide);obtain⟨S3,n,R,v,q3,W,w3,XN,ch,P,O⟩:=pG nd 9 Pe K Z T (i:=t) (j:=A) (by omega) v2 (by omega) (by show _+512<=_;omega) (by show _+512<=_;omega);obtain⟨_,_,vv,_,Om⟩:=ch;have P:n.length<=511:=P;have O:R.length<=C2.length+511:=O;have u:G++(g++l++n)=G++g++l++n:=by simp
  have a0:HL (.tup [.str "ask",.int c,x,y]) (.int 0) S=some (.str "ask"):=MN _ _ S;have s:=eqs "ask" "names";rw[decide_eq_false wN] at s;refine⟨S3,g++l++n,R,v,az rfl ?_,by rw[u];exact W,by rw[u];exact w3,by rw[u];exact XN,by rw[u];exact vv,by rw[List.length_append,List.length_append];omega,by omega,λth ss q=>?_⟩
  ·unfold dB;simp[MN,NX,at2,Vo,s,I,H,e2,q3]
  rw[u];refine Om th ss ?_;cases q with
  |no N q =>
   have:Ev (G++g++l) th t ss:=(T9 th ss q).mono l;have e:sel th c t A=t:=by unfold sel;rw[N];rfl
   rw[e];exact this.mono n
  |yes N q =>
   have e:sel th c t A=A:=by unfold sel;rw[N];rfl
   rw[e];exact(T_ th ss q).mono n
end
inductive Tr where
 |leaf (ss:List Str)
 |node (c:Nat) (n y:Tr)
 deriving DecidableEq
def Kk:Tr->Th->List Str
 | .leaf a,_=>a
 | .node c n y,th=>if th c=true then Kk y th else Kk n th
def tp (o:List Nat):Tr->Nat
 | .leaf _=>o.length
 | .node c _ _=>o.idxOf c
def Ord (o:List Nat):Tr->Prop
 | .leaf _=>True
 | .node c n y=>c∈o/\Ord o n/\Ord o y/\o.idxOf c<tp o n/\o.idxOf c<tp o y/\n≠y
def Oo:Tr->Nat
 | .leaf _ => 1
 | .node _ n y=>Oo n+Oo y+1
noncomputable def upd (th:Th) (c:Nat) (b:Bool):Th:=λx=>if x=c then b else th x
theorem G_ (th:Th)(c:Nat)(b:Bool):upd th c b c=b:=by simp[upd]
inductive Un (G:List Row):Nat->Tr->Prop
 |leaf {i:Nat}{ss:List Str}:G[i]?=some (.leaf ss)->Un G i (.leaf ss)
 |node {i c n y:Nat}{s t:Tr}:G[i]?=some (.ask c n y)->Un G n s->Un G y t->Un G i (.node c s t)
theorem Un.det {G:List Row}{i:Nat}{s t:Tr}(h:Un G i s)(g:Un G i t):s=t:=by
 induction h generalizing t with
 |leaf h=>cases g with
  |leaf c=>rw[h] at c;cases c;rfl
  |node c=>rw[h] at c;cases c
 |node h _ _ e d=>cases g with
  |leaf c=>rw[h] at c;cases c
  |node c a b=>rw[h] at c;cases c;rw[e a,d b]
theorem Un.ev {G:List Row}{i:Nat}{t:Tr}(h:Un G i t)(th:Th):Ev G th i (Kk t th):=by
 induction h with
 |leaf h=>exact .leaf h
 | @node i c n y s t h _ _ b a =>
  cases ht:th c with
  |false=>exact .no h ht (by rw[Kk,ht];exact b)
  |true=>exact .yes h ht (by rw[Kk,ht];exact a)
theorem Wf.un {o:List Nat}{G:List Row}(w:Wf o G):∀ (i:Nat),i<G.length->∃ t,Un G i t:=by
 intro i
 induction i using Nat.strongRecOn with
 |_ i a =>
  intro f;have e:G[i]?=some G[i]:=List.getElem?_eq_getElem f;have q:=w.row i _ e;cases hr:G[i] with
  |leaf j=>rw[hr] at e;exact⟨_,.leaf e⟩
  |ask c n y =>
   rw[hr] at e q;obtain⟨_,h,d,_⟩:=q;obtain⟨s,b⟩:=a n h (by omega);obtain⟨t,g⟩:=a y d (by omega);exact⟨_,.node e b g⟩
theorem Un.inj {G:List Row}(nd:G.Nodup){i:Nat}{t:Tr}(h:Un G i t):∀ {j:Nat},Un G j t->i=j:=by
 have key:∀ {a b:Nat}{r:Row},G[a]?=some r->G[b]?=some r->a=b:=by intro a b r f k;have n:=(List.getElem?_eq_some_iff.mp f).1;have m:=(List.getElem?_eq_some_iff.mp k).1;have q:=(List.getElem?_eq_some_iff.mp f).2;have l:=(List.getElem?_eq_some_iff.mp k).2;have e:=nd.idxOf_getElem a n;have c:=nd.idxOf_getElem b m;rw[← e,← c,q,l]
 induction h with
 |leaf h=>intro j g;cases g with
  |leaf d=>exact key h d
 |node h _ _ e c=>intro j g;cases g with
  |node d a b =>
   have p:=e a;have o:=c b;subst p o;exact key h d
theorem Un.pl {o:List Nat}{G:List Row}{i:Nat}{t:Tr}(h:Un G i t):Hf.pl o G i=tp o t:=by
 unfold Hf.pl;cases h with
 |leaf h=>rw[h];rfl
 |node h _ _=>rw[h];rfl
def po:Tr->List Tr->List Tr
 | .leaf b,a=>if Tr.leaf b∈a then a else a++[.leaf b]
 | .node c n y,a=>if Tr.node c n y∈a then a else po y (po n a)++[.node c n y]
def FU (P:List Tr):Tr->Row
 | .leaf a => .leaf a
 | .node c n y => .ask c (P.idxOf n) (P.idxOf y)
def enc (P:List Tr):List Row:=P.map (FU P)
open Classical in
noncomputable def uT (G:List Row) (i:Nat):Tr:=if h:∃ t,Un G i t then Classical.choose h else .leaf []
theorem Un.uT {G:List Row}{i:Nat}{t:Tr}(h:Un G i t):Hf.uT G i=t:=by unfold Hf.uT;have e:∃ t,Un G i t:=⟨t,h⟩;rw[dif_pos e];exact(Classical.choose_spec e).det h
theorem Wf.uT {o:List Nat}{G:List Row}(w:Wf o G){i:Nat}(hi:i<G.length):Un G i (Hf.uT G i):=by obtain⟨t,h⟩:=w.un i hi;rw[h.uT];exact h
theorem ux {o:List Nat}{G:List Row}(w:Wf o G){i j:Nat}(hi:i<G.length)(a:j<G.length)(h:Hf.uT G i=Hf.uT G j):i=j:=
 Un.inj w.nd (w.uT hi) (h▸w.uT a)
theorem yA {o:List Nat}{G:List Row}(w:Wf o G){a:List Nat}(d:∀ i∈a,i<G.length){j:Nat}(c:j<G.length)(h:Hf.uT G j∈a.map (Hf.uT G)):j∈a:=by obtain⟨k,b,e⟩:=mem_map.mp h;rw[← ux w (d k b) c e];exact b
theorem ql {t:Tr}{a:List Tr}(h:t∈a):po t a=a:=by cases t<;>(unfold po;rw[if_pos h])
theorem qm {ss:List Str}{a:List Tr}(h:Tr.leaf ss∉a):po (.leaf ss) a=a++[.leaf ss]:=by unfold po;rw[if_neg h]
theorem qk {c:Nat}{n y:Tr}{a:List Tr}(h:Tr.node c n y∉a):po (.node c n y) a=po y (po n a)++[.node c n y]:=by rw[po,if_neg h]
def lf (a:List Nat):List (D×D):=a.map λ(k:Nat)=>(D.int k,D.bl true)
theorem iq (a b:Nat):d4 (.int a) (.int b)=decide (a=b):=by
 unfold d4;by_cases h:a=b
 ·simp[h]
 rw[decide_eq_false h];have:¬ ((a:Int)=b):=by omega
 simp[dO,this]
theorem wg (k:Nat):∀ b:List Nat,((lf b).find? λp=>d4 p.1 (.int k)).isSome=decide (k∈b)
 |[]=>by simp[lf]
 |a::b=>by
  have c:=wg k b;unfold lf at c ⊢;rw[map_cons,find?_cons];simp only[iq];by_cases h:a=k
  ·simp[h]
  rw[decide_eq_false h];simp only;rw[c];have:¬ k=a:=λe=>h e.symm;simp[this]
theorem Dl (k:Nat)(b:List Nat):((lf b).any λp=>d4 p.1 (.int k))=decide (k∈b):=by
 induction b with
 |nil=>simp[lf]
 |cons a b c =>
  unfold lf at c ⊢;rw[map_cons,any_cons,c,iq];by_cases h:a=k
  ·simp[h]
  have:¬ k=a:=λe=>h e.symm;simp[h,this]
theorem Dk {k:Nat}{a:List Nat}(h:k∉a):putD (lf a) (.int k) (.bl true)=lf (a++[k]):=by unfold putD;rw[Dl,decide_eq_false h,if_neg (by decide)];unfold lf;rw[map_append];rfl
theorem EL {S:G0}{l:Nat}{a:List Nat}(h:S[l]?=some (.dict (lf a)))(k:Nat):LY true (.int k) (.loc l) S=some (.bl (!decide (k∈a))):=by unfold LY;rw[if_pos rfl];unfold BX;simp only[h,dO];unfold getD;rw[isSome_map,wg];rfl
structure Cl (G:List Row) (Ls:List Nat):Prop where
 nd:Ls.Nodup
 lt:∀ i∈Ls,i<G.length
 dn:∀ (p i c n y:Nat),Ls[p]?=some i->G[i]?=some (.ask c n y)->n∈Ls.take p/\y∈Ls.take p
theorem Cl.snoc {G:List Row}{d:List Nat}(h:Cl G d){j:Nat}(l:j<G.length)(m:j∉d)(g:∀ c n y,G[j]?=some (.ask c n y)->n∈d/\y∈d):Cl G (d++[j]):=by
 refine⟨nodup_append.mpr ⟨h.nd,by simp,λa k b o=>?_⟩,λi hi=>?_,λp i c n y e f=>?_⟩
 ·rw[mem_singleton.mp o];rintro rfl;exact m k
 ·rcases mem_append.mp hi with hi |hi
  ·exact h.lt i hi
  rw[mem_singleton.mp hi];exact l
 rcases Nat.lt_trichotomy p d.length with hl |hl |hl
 ·rw[getElem?_append_left hl] at e;rw[List.take_append_of_le_length (Nat.le_of_lt hl)];exact h.dn p i c n y e f
 ·subst hl;have:i=j:=by simpa using e.symm
  subst this;rw[List.take_append_of_le_length (le_refl _),take_length];exact g c n y f
 rw[getElem?_append_right (by omega)] at e;have:([j]:List Nat)[p-d.length]?=none:=by rw[List.getElem?_eq_none_iff];simp;omega
 rw[this] at e;cases e
section
variable {L:Nat}{o:List Nat}{G:List Row}
theorem tZ (r:Row)(S:G0):cb [aB r] S=G9 (.tup (match r with | .leaf _=>[] | .ask _ n y=>[.int n,.int y])) S:=by
 have a:=jW r S;refine az rfl ?_;unfold jI;cases r with
 |leaf d =>
  have b:Jc [] (.tup [])=some (.tup []):=bu (by simp);simp[a,b]
 |ask c n y =>
  have:MF (aB (.ask c n y)) (some 1) none=some (.tup [.int n,.int y]):=rfl;simp[a,xU,this]
def wR (F:GZ)(w:Nat)(N:Nat)(G:List Row)(o:List Nat)(g:Nat):Prop:=
 ∀ (j:Nat) (a:List Nat) (S:G0) (l:Nat),o.length+1<=w+Hf.pl o G j->j<G.length->j∉a->S[g]?=some (.lst (G.map aB))->S[l]?=some (.dict (lf a))->g≠l->Cl G a->a.length+N<=10000 ->
  ∃ X,F [.loc g,.int j,.loc l] S=G9 .Ho (S.set l (.dict (lf (a++X++[j]))))/\Cl G (a++X++[j])/\(∀ x∈X,x<j)/\X.length+1<=N/\(a++X++[j]).map (Hf.uT G)=po (Hf.uT G j) (a.map (Hf.uT G))
theorem ni {F:GZ}{w N g:Nat}(t:wR F w N G o g)(j k:Nat)(a:List Nat)(S:G0)(l:Nat)(n:o.length+1<=w+Hf.pl o G k)(v:k<G.length)(u:S[g]?=some (.lst (G.map aB)))(c:S[l]?=some (.dict (lf a)))(h:g≠l)(e:Cl G a)(p:a.length+N<=10000) :
  ∃ X,bW F [some (.loc g),some (.int j),some (.loc l),some (.int k)] S=G9 (.next [some (.loc g),some (.int j),some (.loc l),some (.int k)]) (S.set l (.dict (lf (a++X))))/\Cl G (a++X)/\(∀ x∈X,x<=k)/\k∈a++X/\X.length<=N/\(a++X).map (Hf.uT G)=po (Hf.uT G k) (a.map (Hf.uT G)):=by
 have d:=EL c k;by_cases b:k∈a
 ·rw[decide_eq_true b] at d
  have m:S.set l (.dict (lf (a++[])))=S:=by
   rw[append_nil];apply ext_getElem?;intro i;by_cases f:l=i
   ·subst f;rw[eN c,c]
   rw[cv f]
  refine⟨[],?_,by rw[append_nil];exact e,(λx hx=>by cases hx),by rw[append_nil];exact b,by simp,by rw[append_nil,ql (List.mem_map_of_mem b)]⟩;rw[m];unfold bW;simp[d]
 rw[decide_eq_false b] at d;obtain⟨X,q,y,r,nx,s⟩:=t k a S l n v b u c h e p;refine⟨X++[k],?_,by rw[← List.append_assoc];exact y,λx hx=>?_,by simp,by simpa using nx,by rw[← List.append_assoc];exact s⟩
 ·unfold bW;simp[d,q]
 rcases mem_append.mp hx with hx |hx
 ·exact Nat.le_of_lt (r x hx)
 rw[mem_singleton.mp hx];exact le_refl _
theorem sH (w:Wf o G)(g:Nat):∀ fuel:Nat,wR (a_ fuel) fuel (2 ^ fuel-1) G o g
 | 0,j,a,S,l,H,_,_,_,_,_,_,_=>absurd H (by have:=Ew o G j;omega)
 |n+1,j,a,S,l,H,hj,hnm,hg,hl,Na,hc,hN=>by
  have K:=sH w g n;have p2 : 2 ^ (n+1)=2*2 ^ n:=by rw[pow_succ];omega
  have p1 : 1<=2 ^ n:=one_le_two_pow;have e:G[j]?=some G[j]:=List.getElem?_eq_getElem hj;have q:=w.row j _ e;have P:cz (.loc g) S=some (G.map aB):=by unfold cz;simp only[hg]
  have t:kF (.loc g) (.int j) S=some (aB G[j]):=by show ((cz (.loc g) S).bind λQ=>Kj Q (j:Int))=_;rw[P,bind_some];exact bp (by rw[getElem?_map,e];rfl)
  have u:=tZ G[j] S;have C:bI (.loc g)=true:=rfl;have O:∀ k:Nat,dO (.int k)=some (.inl (k:Int)):=λk=>rfl
  have finish:∀ (d:List Nat) (r:G0) (z:Option D),r=S.set l (.dict (lf d))->j∉d->d.length<=20000->vA (ah 2) (ah 1) (aE (.bl true)) [some (.loc g),some (.int j),some (.loc l),z] r=G9 (.next [some (.loc g),some (.int j),some (.loc l),z]) (S.set l (.dict (lf (d++[j])))):=by
   intro d r z L W s;have U:r[l]?=some (.dict (lf d)):=by rw[L];exact eN hl
   have N:(lf d).length<sizeLine:=by unfold lf;rw[length_map];exact Nat.lt_of_le_of_lt s (by decide)
   have:rQ (.loc l) (.int j) (.bl true) [some (.loc g),some (.int j),some (.loc l),z] r=G9 (.next [some (.loc g),some (.int j),some (.loc l),z]) (S.set l (.dict (lf (d++[j])))):=by unfold rQ;simp only[U,O];rw[if_pos N,Dk W,L,List.set_set]
   simp[this]
  cases hr:G[j] with
  |leaf B =>
   rw[hr] at u t
   have fin:=finish a S none (by
    apply ext_getElem?;intro i;by_cases J:l=i
    ·subst J;rw[eN hl,hl]
    rw[cv J]) hnm (by omega)
   have f:Hf.uT G j = .leaf B:=(Un.leaf (by rw[e,hr])).uT;have A:Tr.leaf B∉a.map (Hf.uT G):=λh=>hnm (yA w hc.lt hj (by rw[f];exact h));refine⟨[],?_,?_,(λx hx=>by cases hx),by simp;omega,by rw[append_nil,f,qm A,map_append,map_cons,map_nil,f]⟩
   ·rw[append_nil];unfold a_ aZ;rw[if_pos (show ([.loc g,.int j,.loc l]:List D).length=3 from rfl)]
    have:di (a_ n) ([.loc g,.int j,.loc l].map some++replicate 1 none) S=G9 (.next [some (.loc g),some (.int j),some (.loc l),none]) (S.set l (.dict (lf (a++[j])))):=by
     unfold di;show aO _ _ [some (.loc g),some (.int j),some (.loc l),none] S=_;rw[Cn];have:jh (aW (aN cb (af (ym (ah 0) (ah 1)) ar))) (aC 3) (bW (a_ n)) [some (.loc g),some (.int j),some (.loc l),none] S=G9 (.next [some (.loc g),some (.int j),some (.loc l),none]) S:=by simp[C,t,u,bX,fB]
     rw[this];exact fin
    rw[this];rfl
   rw[append_nil];exact hc.snoc hj hnm λc n y h=>by rw[e,hr] at h;cases h
  |ask c v p =>
   rw[hr] at u t q;obtain⟨_,Z,b2,b3,b4,_⟩:=q;have pj:Hf.pl o G j=o.idxOf c:=by unfold Hf.pl;rw[e,hr]
   obtain⟨b,R,T,F,m1,n1,t1⟩:=ni K j v a S l (by omega) (by omega) hg hl Na hc (by omega);have X:(S.set l (.dict (lf (a++b))))[g]?=some (.lst (G.map aB)):=by rw[cv (Ne.symm Na)];exact hg
   have V:(S.set l (.dict (lf (a++b))))[l]?=some (.dict (lf (a++b))):=eN hl;obtain⟨m,M,Y,I,m2,n2,t2⟩:=ni K j p (a++b) _ l (by omega) (by omega) X V Na T (by rw[List.length_append];omega);rw[List.set_set] at M
   have E:j∉a++b++m:=by
    intro hm;rcases mem_append.mp hm with hm |hm
    ·rcases mem_append.mp hm with hm |hm
     ·exact hnm hm
     have:=F j hm;omega
    have:=I j hm;omega
   have fin:=finish (a++b++m) _ (some (.int p)) rfl E (by rw[List.length_append,List.length_append];omega);have f:Hf.uT G j = .node c (Hf.uT G v) (Hf.uT G p):=(Un.node (by rw[e,hr]) (w.uT (by omega)) (w.uT (by omega))).uT;have A:Tr.node c (Hf.uT G v) (Hf.uT G p)∉a.map (Hf.uT G):=λh=>hnm (yA w hc.lt hj (by rw[f];exact h));refine⟨b++m,?_,?_,λx hx=>?_,by rw[List.length_append];omega,by rw[← List.append_assoc,map_append,t2,t1,f,qk A,map_cons,map_nil,f]⟩
   ·unfold a_ aZ;rw[if_pos (show ([.loc g,.int j,.loc l]:List D).length=3 from rfl)]
    have:di (a_ n) ([.loc g,.int j,.loc l].map some++replicate 1 none) S=G9 (.next [some (.loc g),some (.int j),some (.loc l),some (.int p)]) (S.set l (.dict (lf (a++(b++m)++[j])))):=by
     unfold di;show aO _ _ [some (.loc g),some (.int j),some (.loc l),none] S=_;rw[Cn];have:jh (aW (aN cb (af (ym (ah 0) (ah 1)) ar))) (aC 3) (bW (a_ n)) [some (.loc g),some (.int j),some (.loc l),none] S=G9 (.next [some (.loc g),some (.int j),some (.loc l),some (.int p)]) (S.set l (.dict (lf (a++b++m)))):=by simp[C,t,u,bX,fB,R,M]
     rw[this];simp only[dz];rw[← List.append_assoc a b m];exact fin
    rw[this];rfl
   ·rw[← List.append_assoc];refine Y.snoc hj E λc' n y h=>?_;rw[e,hr] at h;cases h;exact⟨mem_append_left _ m1,m2⟩
   rcases mem_append.mp hx with hx |hx
   ·have:=F x hx;omega
   have:=I x hx;omega
end
def aQ (p:Nat):List Nat->List (D×D)
 |[]=>[]
 |k::r=>(.int k,.int p)::aQ (p+1) r
theorem zA:∀ (l:List Nat) (p:Nat),(aQ p l).length=l.length
 |[],_=>rfl
 |k::r,p=>by rw[aQ,length_cons,length_cons,zA r]
theorem zC (k:Nat):∀ (l:List Nat) (p:Nat),((aQ p l).any λq=>d4 q.1 (.int k))=decide (k∈l)
 |[],_=>by simp[aQ]
 |a::l,p=>by
  rw[aQ,any_cons,zC k l,iq];by_cases h:a=k
  ·simp[h]
  have:¬ k=a:=λe=>h e.symm;simp[h,this]
theorem zB (k:Nat):∀ (l:List Nat) (p:Nat),getD (aQ p l) (.int k)=if k∈l then some (.int ((p+l.idxOf k:Nat):Int)) else none
 |[],_=>rfl
 |a::l,p=>by
  have c:=zB k l (p+1);unfold L2.getD at c ⊢;rw[aQ,find?_cons];simp only[iq];by_cases h:a=k
  ·subst h;simp
  rw[decide_eq_false h];simp only;rw[c];have d:¬ k=a:=λe=>h e.symm;have f:(a==k)=false:=by simpa using h
  by_cases b:k∈l
  ·rw[if_pos b,if_pos (mem_cons_of_mem _ b),idxOf_cons,f];simp only[cond_false];congr 2;omega
  rw[if_neg b,if_neg (by rw[mem_cons];exact λq=>q.elim d b)]
theorem wb:∀ (l:List Nat) (p k:Nat),aQ p (l++[k])=aQ p l++[(.int k,.int ((p+l.length:Nat):Int))]
 |[],p,k=>rfl
 |a::l,p,k=>by
  rw[cons_append,aQ,wb l (p+1) k,aQ,cons_append,length_cons,show p+1+l.length=p+(l.length+1) by omega]
theorem Di {k:Nat}{l:List Nat}(h:k∉l):putD (aQ 0 l) (.int k) (.int l.length)=aQ 0 (l++[k]):=by unfold putD;rw[zC,decide_eq_false h,if_neg (by decide),wb,zero_add]
def Ot (a:List Nat):Row->Row
 | .leaf b => .leaf b
 | .ask c n y => .ask c (a.idxOf n) (a.idxOf y)
def FR (a:List Nat)(G:List Row):List Row:=a.map λk=>Ot a ((G[k]?).getD (.leaf []))
def Wr (o:List Nat)(G:List Row):Prop:=∀ (i:Nat) (r:Row),G[i]?=some r->JE o G i r
section
variable {B:Nat->Option MO}{L:Nat}{o:List Nat}{G:List Row}
theorem nU {a:List Nat}(h:Cl G a){p k:Nat}(b:a[p]?=some k):∃ r,G[k]?=some r/\(FR a G)[p]?=some (Ot a r):=by have c:=h.lt k (mem_of_getElem? b);refine⟨G[k],List.getElem?_eq_getElem c,?_⟩;unfold FR;rw[getElem?_map,b,map_some,List.getElem?_eq_getElem c];rfl
theorem dP {a:List Nat}{k:Nat}(h:k∈a):a[a.idxOf k]?=some k:=by have b:=idxOf_lt_length_iff.mpr h;rw[List.getElem?_eq_getElem b,getElem_idxOf b]
theorem Cp {a:List Nat}(h:Cl G a){k:Nat}(b:k∈a):Hf.pl o (FR a G) (a.idxOf k)=Hf.pl o G k:=by obtain⟨r,c,d⟩:=nU h (dP b);unfold Hf.pl;rw[c,d];cases r<;>rfl
theorem ve {a:List Nat}{k p:Nat}(h:k∈a.take p):a.idxOf k<p:=by
 have b:(a.take p).idxOf k<(a.take p).length:=idxOf_lt_length_iff.mpr h;have c:(a.take p).length<=p:=List.length_take_le ..
 have e:a.idxOf k=(a.take p).idxOf k:=by
  conv=>lhs;rw[← take_append_drop p a]
  rw[List.idxOf_append,if_pos h]
 omega
theorem Fh {b:List Nat}(w:Wf o G)(h:Cl G b):Wr o (FR b G):=by
 intro p r a;have f:p<b.length:=by have:=(List.getElem?_eq_some_iff.mp a).1;simpa [FR] using this
 obtain⟨u,g,l⟩:=nU h (List.getElem?_eq_getElem f);rw[l] at a;cases a;have q:=w.row _ _ g;cases u with
 |leaf x=>exact q
 |ask c n y =>
  obtain⟨v,z,A,s,t,k⟩:=q;obtain⟨i,d⟩:=h.dn p _ c n y (List.getElem?_eq_getElem f) g;have m1:=mem_of_mem_take i;have m2:=mem_of_mem_take d;refine⟨v,ve i,ve d,by rw[Cp h m1];exact s,by rw[Cp h m2];exact t,λe=>k ?_⟩;have j:=dP m1;have m:=dP m2;rw[e,m] at j;exact(Option.some.inj j).symm
theorem Fi {g:List Nat}(h:Cl G g){th:Th}{i:Nat}{ss:List Str}(e:Ev G th i ss):i∈g->Ev (FR g G) th (g.idxOf i) ss:=by
 induction e with
 | @leaf i ss d =>
  intro b;obtain⟨r,a,f⟩:=nU h (dP b);rw[d] at a;cases a;exact .leaf f
 | @no i c n y ss d k _ j =>
  intro b;obtain⟨r,a,f⟩:=nU h (dP b);rw[d] at a;cases a;obtain⟨m,l⟩:=h.dn _ _ c n y (dP b) d;exact .no f k (j (mem_of_mem_take m))
 | @yes i c n y ss d k _ j =>
  intro b;obtain⟨r,a,f⟩:=nU h (dP b);rw[d] at a;cases a;obtain⟨m,l⟩:=h.dn _ _ c n y (dP b) d;exact .yes f k (j (mem_of_mem_take l))
theorem xO (w:Wf o G)(m:o.length<=8){S:G0}{g i:Nat}(b:S[g]?=some (.lst (G.map aB)))(hi:i<G.length):∃ X,eI [.loc g,.int i] S=G9 (.lst ((X++[i]).map λ(k:Nat)=>D.int k)) (S++[.dict (lf (X++[i]))])/\Cl G (X++[i])/\X.length<=1022/\(X++[i]).map (Hf.uT G)=po (Hf.uT G i) []:=by
 have d:g<S.length:=(List.getElem?_eq_some_iff.mp b).1;have l:(S++[MO.dict (lf [])])[g]?=some (.lst (G.map aB)):=by rw[getElem?_append_left d];exact b
 have j:(S++[MO.dict (lf [])])[S.length]?=some (.dict (lf [])):=by simp
 obtain⟨X,q,c,_,n,a⟩:=sH w g 10 i [] (S++[.dict (lf [])]) S.length (by omega) hi (by simp) l j (by omega) ⟨nodup_nil,(λi h=>by cases h),(λp i c n y h=>by simp at h)⟩ (by decide);rw[nil_append] at q c a;have es:(S++[MO.dict (lf [])]).set S.length (.dict (lf (X++[i])))=S++[.dict (lf (X++[i]))]:=by simp
 rw[es] at q;have n:X.length<=1022:=by have:X.length+1<=1023:=n;omega
 have q:a_ 10 [.loc g,.int i,.loc S.length] (S++[.dict []])=G9 .Ho (S++[.dict (lf (X++[i]))]):=q;have e:(lf (X++[i])).length<=sizeLine:=by unfold lf;rw[length_map,List.length_append];exact Nat.le_trans (show X.length+1<=2000 by omega) (by decide)
 have f:fC (.loc S.length) (S++[.dict (lf (X++[i]))])=some (.lst ((X++[i]).map λ(k:Nat)=>D.int k)):=by unfold fC;simp only[List.getElem?_concat_length];rw[if_pos e];unfold lf;rw[map_map];rfl
 refine⟨X,az rfl ?_,c,n,a⟩;unfold gU;simp[q,f,-map_append]
theorem AN {S:G0}{l:Nat}{a:List Nat}(f:S[l]?=some (.dict (aQ 0 a)))(r:Row)(d:∀ c n y,r = .ask c n y->n∈a/\y∈a):eE [aB r,.loc l] S=G9 (aB (Ot a r)) S:=by
 have b:=jW r S;refine az rfl ?_;unfold gT;cases r with
 |leaf p=>simp[b,Ot]
 |ask c n y =>
  obtain⟨m,e⟩:=d c n y rfl;have o:HL (aB (.ask c n y)) (.int 0) S=some (.int c):=MN _ _ S;have i:HL (aB (.ask c n y)) (.int 1) S=some (.int n):=NX _ _ _ S;have g:HL (aB (.ask c n y)) (.int 2) S=some (.int y):=at2 _ _ _ _ S;have gt:∀ k,k∈a->HL (.loc l) (.int (k:Nat)) S=some (.int (a.idxOf k:Nat)):=λk j=>by have:=zB k a 0;rw[if_pos j,zero_add] at this;unfold HL;rw[if_pos (show bI (.loc l)=true from rfl)];unfold wF;simp only[f,dO];exact this
  have h:Jc [.int c,.int (a.idxOf n:Nat),.int (a.idxOf y:Nat)] (.tup [.int c,.int (a.idxOf n:Nat),.int (a.idxOf y:Nat)])=some (aB (Ot a (.ask c n y))):=bu (by simp);simp[b,o,i,g,gt n m,gt y e,h];rfl
theorem fold_eq {S:G0}{C:List (Row×Nat)}(h:SR B S L o G C)(w:Wf o G)(J:o.length<=8){i:Nat}(hi:i<G.length):∃ f l,cZ [.loc L,.int i] S=G9 (.tup ((FR (f++[i]) G).map aB)) l/\Cl G (f++[i])/\f.length<=1022/\(f++[i]).map (Hf.uT G)=po (Hf.uT G i) []/\∃ x y,l=S++[x,y]:=by
 obtain⟨X,q,c,nX,R⟩:=xO w J h.PF hi;generalize r:X++[i]=f at *
 have YD:f.length<=1023:=by rw[← r,List.length_append];simp;omega
 generalize F:S++[MO.dict (lf f)]=S1 at *
 have m:SR (λi=>S1[i]?) S1 L o G C:=by
  have Il:L+3<S.length:=(List.getElem?_eq_some_iff.mp h.MP).1;refine⟨?_,?_,?_,?_,λ_ _=>rfl⟩<;>rw[← F,getElem?_append_left (by omega)]
  ·exact h.obj
  ·exact h.PF
  ·exact h.num
  exact h.MP
 have XO:L+3<S1.length:=(List.getElem?_eq_some_iff.mp m.MP).1;have Q:∀ k:Nat,dO (.int k)=some (.inl (k:Int)):=λk=>rfl
 obtain⟨W,l,T,z⟩:=ck (u:=lM 2 (bg (aC 4) (bg (aC 5) gF))) (body:=cB)
  (λp g l=>p<=f.length/\l=S1++[.dict (aQ 0 (f.take p))]/\∃ a b,g=[some (.loc L),some (.int i),some (.lst (f.map λ(k:Nat)=>D.int k)),some (.loc S1.length),a,b])
  (bJ 0 (f.map λ(k:Nat)=>D.int k)) 0 [some (.loc L),some (.int i),some (.lst (f.map λ(k:Nat)=>D.int k)),some (.loc S1.length),none,none] (S1++[.dict []]) ⟨by omega,rfl,none,none,rfl⟩ (by
   rintro p dd g l s ⟨HN,rfl,a,b,rfl⟩;rw[dU] at s;obtain⟨x,E,rfl⟩:=map_eq_some_iff.mp s;rw[getElem?_map] at E;obtain⟨k,j,rfl⟩:=map_eq_some_iff.mp E;have P:p<f.length:=(List.getElem?_eq_some_iff.mp j).1;simp only[zero_add] at *
   have XQ:k∉f.take p:=by
    intro Z;have h1:=ve Z;have h2:f.idxOf k=p:=by have:=(List.getElem?_eq_some_iff.mp j).2;rw[← this];exact c.nd.idxOf_getElem p P
    omega
   have lt:(f.take p).length=p:=by rw[length_take];omega
   have tk:f.take (p+1)=f.take p++[k]:=by rw[List.take_succ,j];rfl
   have O:(aQ 0 (f.take p)).length<sizeLine:=by rw[zA,lt];exact lt_of_lt_of_le (show p<2000 by omega) (by decide)
   have hg:(S1++[MO.dict (aQ 0 (f.take p))])[S1.length]?=some (.dict (aQ 0 (f.take p))):=by simp
   have v:=Di XQ;rw[lt] at v;have ep:∀ g,rQ (.loc S1.length) (.int k) (.int p) g (S1++[.dict (aQ 0 (f.take p))])=G9 (.next g) (S1++[.dict (aQ 0 (f.take (p+1)))]):=λg=>by unfold rQ;simp only[hg,Q];rw[if_pos O,v,tk];simp
   refine⟨[some (.loc L),some (.int i),some (.lst (f.map λ(k:Nat)=>D.int k)),some (.loc S1.length),some (.int p),some (.int k)],rfl,[some (.loc L),some (.int i),some (.lst (f.map λ(k:Nat)=>D.int k)),some (.loc S1.length),some (.int p),some (.int k)],S1++[.dict (aQ 0 (f.take (p+1)))],?_,by omega,rfl,some (.int p),some (.int k),rfl⟩;unfold cB
   simp[ep])
 simp only[zero_add,bw,length_map,take_length] at z;obtain⟨_,rfl,a,b,rfl⟩:=z
 have t:SR (λi=>(S1++[MO.dict (aQ 0 f)])[i]?) (S1++[.dict (aQ 0 f)]) L o G C:=by
  refine⟨?_,?_,?_,?_,λ_ _=>rfl⟩<;>rw[getElem?_append_left (by omega)]
  ·exact m.obj
  ·exact m.PF
  ·exact m.num
  exact m.MP
 have Y:(S1++[MO.dict (aQ 0 f)])[S1.length]?=some (.dict (aQ 0 f)):=by simp
 have A:=dW (u:=aC 0) (fe:=bO) (λg => ∃ y,g=[y,some (.loc S1.length),some (.loc L)]) (λd=>match d with | .int k=>aB (Ot f ((G[k.toNat]?).getD (.leaf []))) |_ => .Ho) (S1++[.dict (aQ 0 f)]) (f.map λ(k:Nat)=>D.int k)
  (bP 1 [3,0] [some (.loc L),some (.int i),some (.lst (f.map λ(k:Nat)=>D.int k)),some (.loc S1.length),a,b]) ⟨none,rfl⟩ (by
   rintro d hd g ⟨y,rfl⟩;obtain⟨k,j,rfl⟩:=mem_map.mp hd;refine⟨_,rfl,⟨_,rfl⟩,?_⟩;have PD:=c.lt k j;have e:G[k]?=some G[k]:=List.getElem?_eq_getElem PD;have M:=t.row e;have U:=AN Y G[k] λc' n y K=>by obtain⟨d1,V⟩:=c.dn _ k c' n y (dP j) (by rw[e,K]);exact⟨mem_of_mem_take d1,mem_of_mem_take V⟩
   have N:(G[(k:Int).toNat]?).getD (.leaf [])=G[k]:=by rw[Int.toNat_natCast,e];rfl
   show bO [some (.int k),some (.loc S1.length),some (.loc L)] (S1++[.dict (aQ 0 f)])=G9 (aB (Ot f ((G[(k:Int).toNat]?).getD (.leaf [])))) (S1++[.dict (aQ 0 f)]);rw[N];unfold bO
   simp[t.Lo,M,U])
 have H:(f.map λ(k:Nat)=>D.int k).map (λd=>match d with | .int k=>aB (Ot f ((G[k.toNat]?).getD (.leaf []))) |_ => .Ho)=(FR f G).map aB:=by unfold FR;rw[map_map,map_map];refine map_congr_left λk _=>?_;simp
 rw[H] at A;refine⟨X,S1++[.dict (aQ 0 f)],?_,by rw[r];exact c,nX,by rw[r];exact R,.dict (lf f),.dict (aQ 0 f),by rw[← F];simp⟩;rw[r];refine az rfl ?_;have I:qG [.lst (f.map λ(k:Nat)=>D.int k)]=some (bJ 0 (f.map λ(k:Nat)=>D.int k)):=rfl;unfold fG;simp[h.Lo,q,I,T,bX,A,gG,-map_map]
end
theorem jy (S r:G0)(fs:List (Str×D))(f:Str)(v:D)(ρ:G1)(h:fs.length<1000):mM "Rows" f (.loc S.length) v ρ (S++MO.ins "Rows" fs::r)=G9 (.next ρ) (S++MO.ins "Rows" (lm f v fs)::r):=by
 have e:(S++MO.ins "Rows" fs::r)[S.length]?=some (.ins "Rows" fs):=by simp
 unfold mM;simp only[e];rw[if_pos ⟨trivial,h⟩];simp
theorem XS:¬ ("order":Str)="gathered":=by decide
theorem XT:¬ ("order":Str)="numbers":=by decide
theorem XU:¬ ("gathered":Str)="numbers":=by decide
theorem XW:¬ ("order":Str)="choices":=by decide
theorem XX:¬ ("gathered":Str)="choices":=by decide
theorem XY:¬ ("numbers":Str)="choices":=by decide
theorem yV (S:G0)(o:List Nat):bT [.loc S.length,oD o] (S++[.ins "Rows" []])=G9 .Ho (S++[RO o S.length,.lst [],.Hi [],.Hi []]):=by
 have e:=λa=>jy S [] [] "order" (oD o) a (by decide);have d:=λa=>jy S [.lst []] [("order",oD o)] "gathered" (.loc (S.length+1)) a (by simp);have c:=λa=>jy S [.lst [],.Hi []] [("order",oD o),("gathered",.loc (S.length+1))] "numbers" (.loc (S.length+2)) a (by simp);have b:=λa=>jy S [.lst [],.Hi [],.Hi []] [("order",oD o),("gathered",.loc (S.length+1)),("numbers",.loc (S.length+2))] "choices" (.loc (S.length+3)) a (by simp);simp only[lm,XS,XT,XU,XW,XX,XY,if_false] at e d c b;unfold bT aZ;rw[if_pos (show ([.loc S.length,oD o]:List D).length=2 from rfl)];have:dC ([.loc S.length,oD o].map some++replicate 0 none) (S++[.ins "Rows" []])=G9 (.next [some (.loc S.length),some (oD o)]) (S++[RO o S.length,.lst [],.Hi [],.Hi []]):=by unfold dC;simp[e,d,c,b]
 rw[this];rfl
def ji (m:Nat)(ts:List Int):Prop:=ts.length=m/\∀ x∈ts,x=0∨x=1
def tv (ts:List Int):Th:=λc=>decide (ts.getD c 0=1)
abbrev KI (ts:List Int):D:=.tup (ts.map .int)
theorem Cc {m:Nat}{ts:List Int}(h:ji m ts){c:Nat}(d:c<m)(S:G0):HL (KI ts) (.int c) S=some (.int (if tv ts c=true then 1 else 0)):=by
 have a:c<ts.length:=by rw[h.1];exact d
 have e:ts[c]?=some ts[c]:=List.getElem?_eq_getElem a;unfold HL;rw[if_neg (by simp[bI])];show Kj (ts.map D.int) (c:Int)=_;rw[bp (v:=.int ts[c]) (by rw[getElem?_map,e];rfl)];have b:tv ts c=decide (ts[c]=1):=by unfold tv;rw[List.getD,e];rfl
 rw[b];rcases h.2 ts[c] (getElem_mem a) with q |q<;>simp[q]
theorem l9 {th:Th}{ss d:List Str}(h:Kv th (aB (.leaf ss)) d):d=ss:=by
 generalize c:aB (.leaf ss)=D0 at h;cases h with
 |leaf =>
  simp only[aB,D.tup.injEq,List.cons.injEq,and_true,true_and] at c;exact((List.map_inj_right (λa b h=>by cases h;rfl)).mp c).symm
 |no=>simp[aB] at c
 |yes=>simp[aB] at c
theorem KQ.total {m k:Nat}{d:D}(h:KQ m k d)(th:Th):∃ ss,Kv th d ss:=by
 induction h with
 |leaf _ _ _=>exact⟨_,.leaf⟩
 | @ask k c x y _ _ _ g f =>
  obtain⟨a,e⟩:=g;obtain⟨b,i⟩:=f;cases ht:th c with
  |false=>exact⟨a,.no ht e⟩
  |true=>exact⟨b,.yes ht i⟩
section
variable {m:Nat}{ts:List Int}
theorem t7 (p:ji m ts)(S:G0){k:Nat}{d:D}(h:KQ m k d):∀ {ss:List Str}{fuel:Nat},Kv (tv ts) d ss->k<fuel->f6 fuel [d,KI ts] S=G9 (.tup (ss.map .str)) S:=by
 induction h with
 | @leaf k g _ _ _ =>
  intro ss fuel a o;rw[l9 a];obtain⟨fuel,rfl⟩:∃ f,fuel=f+1:=⟨fuel-1,by omega⟩;have s:HL (aB (.leaf g)) (.int 0) S=some (.str "names"):=MN _ _ S;have n:HL (aB (.leaf g)) (.int 1) S=some (.tup (g.map .str)):=NX _ _ _ S;have b:=eqs "names" "names";rw[decide_eq_true rfl] at b;refine az rfl ?_;unfold i8;simp[s,n,b]
 | @ask k c x y j _ _ q l =>
  intro ss fuel a o;obtain⟨fuel,rfl⟩:∃ f,fuel=f+1:=⟨fuel-1,by omega⟩;have b:=eqs "ask" "names";rw[decide_eq_false wN] at b;have e:=Cc p j S;refine az rfl ?_;unfold i8;cases a with
  |no i a =>
   rw[i] at e;have r:=q (fuel:=fuel) a (by omega);simp[MN,NX,at2,b,e,r]
  |yes i a =>
   rw[i] at e;have r:=l (fuel:=fuel) a (by omega);simp[MN,NX,Vo,b,e,r]
variable {o:List Nat}{R:List Row}
end
theorem i5 {α c:Type}[DecidableEq α][DecidableEq c](f : α->c)(x : α):∀ (l:List α),(∀ a∈l,f a=f x->a=x)->(l.map f).idxOf (f x)=l.idxOf x
 |[],_=>rfl
 |a::l,h=>by
  have i:=i5 f x l λb g=>h b (mem_cons_of_mem _ g);rw[map_cons,idxOf_cons,idxOf_cons,i];by_cases e:a=x
  ·subst e;simp
  have j:¬ f a=f x:=λq=>e (h a (mem_cons_self ..) q);have d:(a==x)=false:=by simpa using e
  have k:(f a==f x)=false:=by simpa using j
  rw[d,k]
theorem D6 {o:List Nat}{G:List Row}(w:Wf o G){d:List Nat}(c:Cl G d):FR d G=enc (d.map (Hf.uT G)):=by
 unfold FR enc;rw[map_map];refine map_congr_left λk j=>?_;have i:=c.lt k j;have e:G[k]?=some G[k]:=List.getElem?_eq_getElem i;have q:=w.row k _ e;simp only[Function.comp,e,getD_some];cases hr:G[k] with
 |leaf h =>
  have f:Hf.uT G k = .leaf h:=(Un.leaf (by rw[e,hr])).uT;rw[f];rfl
 |ask a n y =>
  rw[hr] at q;obtain⟨_,m,l,_⟩:=q;have f:Hf.uT G k = .node a (Hf.uT G n) (Hf.uT G y):=(Un.node (by rw[e,hr]) (w.uT (by omega)) (w.uT (by omega))).uT;rw[f];show Row.ask a (d.idxOf n) (d.idxOf y)=Row.ask a ((d.map (Hf.uT G)).idxOf (Hf.uT G n)) ((d.map (Hf.uT G)).idxOf (Hf.uT G y));rw[i5 (Hf.uT G) n d λb g=>ux w (c.lt b g) (by omega),i5 (Hf.uT G) y d λb g=>ux w (c.lt b g) (by omega)]
def Cb:Tr->Prop
 | .leaf a=>(∀ x∈a,dg x=true)/\NW a=true
 | .node _ n y=>Cb n/\Cb y
theorem Un.ord {o:List Nat}{G:List Row}(w:Wf o G){i:Nat}{t:Tr}(h:Un G i t):Ord o t/\Cb t:=by
 induction h with
 |leaf h=>exact⟨trivial,w.row _ _ h⟩
 | @node i c n y s t h d f b a =>
  obtain⟨l,m,p,j,k,g⟩:=w.row _ _ h;refine⟨⟨l,b.1,a.1,by rw[← d.pl];exact j,by rw[← f.pl];exact k,λe=>g ?_⟩,b.2,a.2⟩;subst e;exact Un.inj w.nd d f
theorem xZ {o:List Nat}(nd:o.Nodup)(q:o.length<=8){m:Nat}(C:∀ c,c<m->c∈o){k:Nat}(Q:k<=12){d:D}(hd:KQ m k d)(S:G0) :
  ∃ t y,j0 [d,oD o] S=G9 (.tup ((enc (po t [])).map aB)) y/\Ord o t/\Cb t/\Wr o (enc (po t []))/\(∀ th,Ev (enc (po t [])) th ((enc (po t [])).length-1) (Kk t th))/\(∀ th ss,Kv th d ss->Kk t th=ss)/\(po t []).length<=1023/\y.take S.length=S:=by
 have K:=yV S o
 have n:SR (λi=>(S++[RO o S.length,.lst [],.Hi [],.Hi []])[i]?) (S++[RO o S.length,.lst [],.Hi [],.Hi []]) S.length o [] []:=by
  refine⟨by simp,?_,?_,?_,λ_ _=>rfl⟩
  ·rw[getElem?_append_right (by omega)];simp
  ·rw[getElem?_append_right (by omega)];simp;rfl
  rw[getElem?_append_right (by omega)];simp;rfl
 have pre:∀ i,i<S.length->(S++[RO o S.length,.lst [],.Hi [],.Hi []])[i]?=S[i]?:=λi b=>getElem?_append_left b;generalize (S++[RO o S.length,.lst [],.Hi [],.Hi []])=S0 at *
 have G:Wf o ([]:List Row):=⟨nodup_nil,λi r h=>by simp at h⟩;have M : 2 ^ (k+1)<=2 ^ 13:=pow_le_pow_right (by decide) (by omega);have L : 2 ^ 13=8192:=rfl;obtain⟨l,E,R,r,H,f,a,_,g,_,_,w⟩:=BE nd q C hd 15 (by omega) n G (λp A=>by cases A) (by simp;omega) (by simp;omega);rw[nil_append] at f a g w;obtain⟨X,O,z,c,N,x,x2,v,rfl⟩:=fold_eq f a q g
 have fr:(l++[x2,v]).take S.length=S:=by
  have P:S.length+3<l.length:=(List.getElem?_eq_some_iff.mp f.MP).1;apply ext_getElem?;intro i;rw[getElem?_take];split
  ·rename_i b;rw[getElem?_append_left (by omega),f.fr i (.inl b),pre i b]
  rw[List.getElem?_eq_none (by omega)]
 have j:=n.has "fold_from" (by decide);have un:=a.uT g;have s:FR (X++[r]) E=enc (po (Hf.uT E r) []):=by rw[D6 a c,x]
 have u:=Fh a c;rw[s] at z u;refine⟨Hf.uT E r,l++[x2,v],az rfl ?_,(un.ord a).1,(un.ord a).2,u,λth=>?_,λth ss I=>?_,?_,fr⟩
 ·have B:wL "Rows" bT (af (ah 1) ar) [some d,some (oD o),none] S=G9 (.loc S.length) S0:=by
   unfold wL;simp only[DD,E6,dz];have:ah 1 [some d,some (oD o),none] S=G9 (oD o) S:=rfl;rw[this];simp only[dz];rw[K];rfl
  unfold sU;simp[B,j,H,z,-map_map]
 ·have e:=Fi c (un.ev th) (by simp);have F:r∉X:=by have:=(nodup_append.mp c.nd).2.2;intro j;exact this r j r (by simp) rfl
  have J:(X++[r]).idxOf r=(FR (X++[r]) E).length-1:=by rw[List.idxOf_append,if_neg F];simp[FR]
  rw[J,s] at e;exact e
 ·exact Ev.det (un.ev th) (w th ss I)
 rw[← x,length_map,List.length_append];simp;omega
inductive Sub:Tr->Tr->Prop
 |refl (t:Tr):Sub t t
 |no {s:Tr}{c:Nat}{n y:Tr}:Sub s n->Sub s (.node c n y)
 |yes {s:Tr}{c:Nat}{n y:Tr}:Sub s y->Sub s (.node c n y)
theorem y8:∀ (t:Tr) (a:List Tr),∃ X,po t a=a++X
 | .leaf b,a=>by
  by_cases h:Tr.leaf b∈a
  ·exact⟨[],by rw[ql h,append_nil]⟩
  exact⟨[.leaf b],qm h⟩
 | .node c n y,a=>by
  by_cases h:Tr.node c n y∈a
  ·exact⟨[],by rw[ql h,append_nil]⟩
  obtain⟨X,d⟩:=y8 n a;obtain⟨Y,e⟩:=y8 y (po n a);exact⟨X++Y++[.node c n y],by rw[qk h,e,d];simp⟩
theorem Bm (t:Tr)(a:List Tr):t∈po t a:=by
 by_cases h:t∈a
 ·rw[ql h];exact h
 cases t with
 |leaf b=>rw[qm h];simp
 |node c n y=>rw[qk h];simp
theorem Aj {α:Type}(xs:List α)(p:Nat):ff xs none (some (p:Int))=xs.take p:=by
 unfold ff;rw[HT.Le,HT.LS,drop_zero,Nat.sub_zero];rcases Nat.le_total p xs.length with h |h
 ·rw[Nat.min_eq_left h]
 rw[Nat.min_eq_right h,take_of_length_le (le_refl _),take_of_length_le h]
theorem Ak {α:Type}(xs:List α)(q:Nat):ff xs (some (q:Int)) none=xs.drop q:=by
 unfold ff;rw[HT.LS,HT.Le];rcases Nat.le_total q xs.length with h |h
 ·rw[Nat.min_eq_left h,take_of_length_le (by rw[length_drop];exact le_refl _)]
 rw[Nat.min_eq_right h,List.drop_length,List.drop_of_length_le h,List.take_nil]
abbrev nD (l:List Nat):List D:=l.map λ(k:Nat)=>D.int k
theorem zP (a b:List D)(h:a.length+b.length<=1000):bE (.lst a) (.lst b)=some (.lst (a++b)):=by rw[kQ,if_pos (Nat.le_trans h (by decide))]
theorem uS (num:Int)(m:D)(k:Nat)(p:k<=20)(l:List Nat)(e:l.length=k)(z:Option D)(S:G0):∃ a:Nat,a<=k/\eX [some (.int num),some m,some (.lst (nD l)),some (.int k),z] S=G9 (.next [some (.int num),some m,some (.lst (nD (l.take a++[k]++l.drop a))),some (.int k),some (.int a)]) S:=by
 have o:=g6 num k S;have f:dh [.lst (nD l)]=some (.int (k:Nat)):=by simp[dh,e]
 have b:bS (.int (Ic num k)) (.int ((k:Int)+1))=some (.int (Ic num k % ((k:Int)+1))):=a7 (by omega);have i:=m9 (Ic num k) (show (0:Int)<(k:Int)+1 by omega);obtain⟨a,c⟩:∃ a:Nat,Ic num k % ((k:Int)+1)=a:=⟨(Ic num k % ((k:Int)+1)).toNat,by omega⟩;rw[c] at b i;have h:MF (.lst (nD l)) none (some (a:Int))=some (.lst (nD (l.take a))):=by show some (D.lst (ff (nD l) none (some (a:Int))))=_;rw[Aj];unfold nD;rw[map_take]
 have j:MF (.lst (nD l)) (some (a:Int)) none=some (.lst (nD (l.drop a))):=by show some (D.lst (ff (nD l) (some (a:Int)) none))=_;rw[Ak];unfold nD;rw[map_drop]
 have t1:(nD (l.take a)).length<=20:=by rw[length_map,length_take];omega
 have t2:(nD (l.drop a)).length<=20:=by rw[length_map,length_drop];omega
 have n:=zP (nD (l.take a)) [.int k] (by simp at t1 ⊢;omega);have g:=zP (nD (l.take a)++[.int k]) (nD (l.drop a)) (by rw[List.length_append];simp at t1 t2 ⊢;omega);have z1:Jc [.int k] (.lst [.int k])=some (.lst [.int k]):=bu (by simp);have d:nD (l.take a++[k]++l.drop a)=nD (l.take a)++[.int k]++nD (l.drop a):=by simp
 refine⟨a,by omega,?_⟩;rw[d];unfold eX;simp[o,f,b,h,j,z1,n,g,xU,-map_map,-map_append,-map_take,-map_drop,-List.append_assoc]
theorem xB (num:Int){m:Nat}(B:m<=10)(S:G0):∃ o:List Nat,kW [.int num,.int m] S=G9 (oD o) S/\o.Perm (List.range m):=by
 have t:d6 [.int m]=some ((List.range m).map λ(k:Nat)=>D.int k):=by have:=xi m (by omega) (by omega);simpa using this
 obtain⟨w,z,s,f⟩:=ck (u:=aC 3) (body:=eX) (λi e d=>d=S/\i<=m/\∃ (l:List Nat) (a b:Option D),l.Perm (List.range i)/\e=[some (.int num),some (.int m),some (.lst (nD l)),a,b])
  ((List.range m).map λ(k:Nat)=>D.int k) 0 [some (.int num),some (.int m),some (.lst []),none,none] S ⟨rfl,by omega,[],none,none,.refl _,rfl⟩ (by
   rintro j x e d p ⟨rfl,r,l,a,b,c,rfl⟩;obtain⟨rfl,A⟩:=ir p;simp only[zero_add] at c r ⊢;have h:l.length=j:=by rw[c.length_eq,length_range]
   obtain⟨q,y,n⟩:=uS num (.int m) j (by omega) l h b d;refine⟨_,rfl,_,_,n,rfl,by omega,_,_,_,?_,rfl⟩;rw[List.range_succ];have g:(l.take q++[j]++l.drop q).Perm (j::l):=by have:=List.perm_middle (a:=j) (l₁:=l.take q) (l₂:=l.drop q);rw[take_append_drop] at this;rw[List.append_assoc];exact this
   exact g.trans ((List.Perm.cons j c).trans (List.perm_append_singleton j (List.range j)).symm))
 simp only[zero_add,length_map,length_range] at f;obtain⟨rfl,_,l,a,b,c,rfl⟩:=f;refine⟨l,az rfl ?_,c⟩;have v:Jc [] (.lst [])=some (.lst []):=bu (by simp);unfold pi;simp[v,t,s,gG]
inductive KW (W:List Str):D->Prop
 |leaf {ss:List Str}:(∀ x∈ss,x∈W)->KW W (aB (.leaf ss))
 |ask {c:Nat}{x y:D}:KW W x->KW W y->KW W (.tup [.str "ask",.int c,x,y])
theorem EN {W:List Str}{d:D}(h:KW W d):∀ {th:Th}{ss:List Str},Kv th d ss->∀ x∈ss,x∈W:=by
 induction h with
 | @leaf f h=>intro th ss a;rw[l9 a];exact h
 | @ask c x y _ _ b e =>
  intro th ss a;cases a with
  |no _ a=>exact b a
  |yes _ a=>exact e a
theorem vi (ss:List Str)(l:ss.length<=6)(n:∀ x∈ss,dg x=true)(j:ss.Pairwise λa b=>Kq a b=true)(m:Nat)(t : 1<=m)(u:m<=10)(S:G0):∀ (fuel e:Nat) (num:Int),e<fuel->0<=num->∃ d,jZ fuel [.int num,.tup (ss.map .str),.int m,.int e] S=G9 d S/\KQ m e d/\KW ss d
 | 0,e,num,h,_=>absurd h (by omega)
 |fuel+1,e,num,h,h0=>by
  have s:bS (.int num) (.int 7)=some (.int (num % 7)):=a7 (by decide);have o:cT (.int num) (.int 7)=some (.int (num / 7)):=fH (by decide) (by decide);have r:bS (.int (num / 7)) (.int m)=some (.int (num / 7 % m)):=a7 (by omega);have F:=m9 (num / 7) (show (0:Int)<m by omega);obtain⟨D,q,i⟩:=r9 (num / 7) (ss:=ss) (by omega) S
  have leaf:(e=0∨num % 7=0)->∃ d,jZ (fuel+1) [.int num,.tup (ss.map .str),.int m,.int e] S=G9 d S/\KQ m e d/\KW ss d:=λk=>by
   refine⟨.tup [.str "names",.tup (D.map .str)],az rfl ?_,.leaf (λx p=>n x (i.subset p)) (dL (j.sublist i)) (Nat.le_trans i.length_le l),.leaf (λx p=>i.subset p)⟩;unfold qD;by_cases f:e=0
   ·subst f;simp[o,q]
   have g:num % 7=0:=k.resolve_left f;simp[f,s,g,o,q]
  by_cases f:e=0
  ·exact leaf (.inl f)
  by_cases g:num % 7=0
  ·exact leaf (.inr g)
  have E:=g6 num 1 S;have B:=g6 num 2 S;obtain⟨dp,rfl⟩:∃ dp,e=dp+1:=⟨e-1,by omega⟩;obtain⟨x,ex,v,z⟩:=vi ss l n j m t u S fuel dp (Ic num 1) (by omega) (jc _ _);obtain⟨y,G,w,C⟩:=vi ss l n j m t u S fuel dp (Ic num 2) (by omega) (jc _ _);have A:¬ ((dp:Int)+1=0):=by omega
  obtain⟨c,k⟩:∃ c:Nat,num / 7 % m=c:=⟨(num / 7 % m).toNat,by omega⟩;rw[k] at r F;refine⟨.tup [.str "ask",.int c,x,y],az rfl ?_,.ask (by omega) v w,.ask z C⟩;unfold qD;simp[A,s,g,E,B,ex,G,o,r,rD]
abbrev JF (Iy:List (List Int)):List D:=Iy.map KI
theorem Cu (a b:List D)(h:a.length+b.length<=1000):bE (.tup a) (.tup b)=some (.tup (a++b)):=by rw[kP,if_pos (Nat.le_trans h (by decide))]
theorem k9 (e:GU D)(v:Int)(b:e=aG bE (ah 0) (aE (.tup [.int v])))(a:List (List Int))(h:∀ ts∈a,ts.length<=20)(ρ:G1)(S:G0):bD (aC 0) cU e (JF a) (bP 1 [] ρ) S=some (JF (a.map λts=>ts++[v]),S):=by
 have q:=dW (u:=aC 0) (fe:=e) (λρ => ∃ y,ρ=[y]) (λd=>match d with | .tup c => .tup (c++[.int v]) |_ => .Ho) S (JF a) (bP 1 [] ρ) ⟨none,rfl⟩ (by
  rintro d hd ρ ⟨y,rfl⟩;obtain⟨ts,g,rfl⟩:=mem_map.mp hd;refine⟨_,rfl,⟨_,rfl⟩,?_⟩;have f:=Cu (ts.map D.int) [.int v] (by have:=h ts g;simp;omega);subst b
  simp[f])
 rw[q];congr 2;unfold JF;rw[map_map,map_map];refine map_congr_left λts _=>?_;simp[KI]
theorem rB (m:D)(k:Nat)(a:List (List Int))(d:a.length<=2000)(h:∀ ts∈a,ts.length<=20)(z:Option D)(S:G0):dR [some m,some (.lst (JF a)),z] S=G9 (.next [some m,some (.lst (JF ((a.map λts=>ts++[0])++(a.map λts=>ts++[1])))),z]) S:=by
 have c:=k9 jK 0 rfl a h [some m,some (.lst (JF a)),z] S;have b:=k9 jJ 1 rfl a h [some m,some (.lst (JF a)),z] S;have ad:bE (.lst (JF (a.map λts=>ts++[0]))) (.lst (JF (a.map λts=>ts++[1])))=some (.lst (JF ((a.map λts=>ts++[0])++(a.map λts=>ts++[1])))):=by rw[kQ,if_pos (by simp only[JF,length_map];exact Nat.le_trans (show _<=4000 by omega) (by decide))];unfold JF;rw[← map_append]
 unfold dR;simp[bX,c,b,ad,-map_map,-map_append]
theorem t9:∀ (b:List (List Int)),(∀ ts∈b,ts≠[])->ub tupI (JF b)=some b
 |[],_=>rfl
 |ts::b,h=>by
  have c:=t9 b λt d=>h t (mem_cons_of_mem _ d)
  have e:tupI (KI ts)=some ts:=by
   unfold tupI KI;simp only[HV];cases ts with
   |nil=>exact absurd rfl (h [] (mem_cons_self ..))
   |cons a r=>rfl
  show ub tupI (KI ts::JF b)=_;rw[ub,e,bind_some,c];rfl
def K5:Nat->List (List Int)
 | 0=>[[]]
 |m+1=>((K5 m).map λts=>ts++[0])++((K5 m).map λts=>ts++[1])
theorem vO:∀ m,(K5 m).length=2 ^ m
 | 0=>rfl
 |m+1=>by rw[K5,List.length_append,length_map,length_map,vO m,pow_succ];omega
theorem mF:∀ m,∀ ts∈K5 m,ji m ts
 | 0,ts,h=>by rw[mem_singleton.mp h];exact⟨rfl,λx hx=>by cases hx⟩
 |m+1,ts,h=>by
  have go:∀ {t:List Int}{b:Int},t∈K5 m->(b=0∨b=1)->ji (m+1) (t++[b]):=λ{t b} a c=>by
   refine⟨by rw[List.length_append,(mF m t a).1];rfl,λx hx=>?_⟩;rcases mem_append.mp hx with hx |hx
   ·exact(mF m t a).2 x hx
   rw[mem_singleton.mp hx];exact c
  rcases mem_append.mp h with h |h
  ·obtain⟨t,a,rfl⟩:=mem_map.mp h;exact go a (.inl rfl)
  obtain⟨t,a,rfl⟩:=mem_map.mp h;exact go a (.inr rfl)
theorem vP:∀ m ts,ji m ts->ts∈K5 m
 | 0,ts,h=>by rw[length_eq_zero_iff.mp h.1];exact mem_singleton.mpr rfl
 |m+1,ts,h=>by
  obtain⟨a,c⟩:=h;have b:ts≠[]:=by intro z;rw[z] at a;simp at a
  have e:=List.dropLast_concat_getLast b;have d:=vP m ts.dropLast ⟨by rw[List.length_dropLast,a];rfl,λx f=>c x (List.dropLast_subset _ f)⟩;rw[K5,mem_append];rcases c _ (List.getLast_mem b) with h0 |h0
  ·exact .inl (mem_map.mpr ⟨_,d,by rw[← h0];exact e⟩)
  exact .inr (mem_map.mpr ⟨_,d,by rw[← h0];exact e⟩)
def bits (n:Nat):List Int:=[n / 32 % 2,n / 16 % 2,n / 8 % 2,n / 4 % 2,n / 2 % 2,n % 2].map λ(k:Nat)=>(k:Int)
theorem yC {m:Nat}(a : 1<=m)(b:m<=6):Spec (nh λ(x y:Int)=>decide (x<y)) (K5 m):=by
 have:m=1∨m=2∨m=3∨m=4∨m=5∨m=6:=by omega
 rcases this with rfl |rfl |rfl |rfl |rfl |rfl
 ·exact⟨_,_,_,rfl,by decide,by decide,.inl (by decide)⟩
 ·exact⟨_,_,_,rfl,by decide,by decide,.inl (by decide)⟩
 ·exact⟨_,_,_,rfl,by decide,by decide,.inl (by decide)⟩
 ·exact⟨_,_,_,rfl,by decide,by decide,.inl (by decide)⟩
 ·exact⟨_,_,_,rfl,by decide,by decide,.inl (by decide)⟩
 exact⟨_,_,_,rfl,by decide,by decide,.inr ⟨by decide,_,_,_,_,rfl,by decide,by decide,(List.range 32).map λi=>bits (2*i),(List.range 32).map λi=>bits (2*i+1),by decide,by decide,by decide,by decide,by decide,by decide,by decide,by decide⟩⟩
theorem w5 {m:Nat}(s : 1<=m)(o:m<=6)(S:G0):∃ c:List (List Int),jj [.int m] S=G9 (.lst (JF c)) S/\(∀ ts∈c,ji m ts)/\∀ ts,ji m ts->ts∈c:=by
 have r:d6 [.int m]=some ((List.range m).map λ(k:Nat)=>D.int k):=by have:=xi m (by omega) (by omega);simpa using this
 have n:∀ j,j<=6->(K5 j).length<=64:=λj d=>by rw[vO];exact pow_le_pow_right (by decide) d
 obtain⟨t,w,q,l⟩:=ck (u:=aC 2) (body:=dR) (λi f e=>e=S/\∃ b:Option D,f=[some (.int m),some (.lst (JF (K5 i))),b])
  ((List.range m).map λ(k:Nat)=>D.int k) 0 [some (.int m),some (.lst [.tup []]),none] S ⟨rfl,none,rfl⟩ (by
   rintro j v f e d ⟨rfl,b,rfl⟩;obtain⟨rfl,x⟩:=ir d;simp only[zero_add];have p:=rB (.int m) j (K5 j) (by have:=n j (by omega);omega) (λts a=>by have:=(mF j ts a).1;omega) (some (.int j)) e
   exact⟨_,rfl,_,_,p,rfl,_,rfl⟩)
 simp only[zero_add,length_map,length_range] at l;obtain⟨rfl,b,rfl⟩:=l;have es:p9 [.lst (JF (K5 m))]=some (.lst (JF ((K5 m).mergeSort u7))):=by show (ub tupI (JF (K5 m))).bind _=_;rw[t9 (K5 m) λts a h=>by have:=(mF m ts a).1;rw[h] at this;simp at this;omega,bind_some];exact if_pos ⟨by simp only[JF,length_map];exact Nat.le_trans (n m o) (by decide),yC s o⟩
 have g:((K5 m).mergeSort u7).Perm (K5 m):=mergeSort_perm _ _;refine⟨(K5 m).mergeSort u7,az rfl ?_,λts a=>mF m ts (g.mem_iff.mp a),λts a=>g.mem_iff.mpr (vP m ts a)⟩;unfold nE;simp[r,q,es,-map_map]
theorem KQ.mono {m k:Nat}{d:D}(h:KQ m k d):∀ j,k<=j->KQ m j d:=by
 induction h with
 |leaf b f a=>exact λj _ => .leaf b f a
 |ask c _ _ e g =>
  intro j l;obtain⟨j,rfl⟩:∃ i,j=i+1:=⟨j-1,by omega⟩;exact .ask c (e j (by omega)) (g j (by omega))
theorem BK (ns:List Int)(b:Nat)(w : 1<=b)(y:b<=10)(S:G0):∃ (m:Nat) (ss:List Str) (kvs:List (D×D)) (d:D) (o:List Nat),1<=m/\m<=b/\ss.length<=6/\(∀ x∈ss,dg x=true)/\(ss.Pairwise λa b=>Kq a b=true)/\KQ m 5 d/\KW ss d/\o.Perm (List.range m) /\
  jY [.lst (ns.map .int),.int b] S=G9 (.tup [.int m,.tup (ss.map .str),d,oD o]) (S++[.dict kvs]):=by
 have i:∀ S,aR [.lst (ns.map .int),.int 0] S=G9 (.int (mix ns 0)) S:=d9 ns 0;have x1:∀ S,aR [.lst (ns.map .int),.int 1] S=G9 (.int (mix ns 1)) S:=d9 ns 1;have x2:∀ S,aR [.lst (ns.map .int),.int 2] S=G9 (.int (mix ns 2)) S:=d9 ns 2;have j:∀ S,aR [.lst (ns.map .int),.int 3] S=G9 (.int (mix ns 3)) S:=d9 ns 3;have n:∀ S,aR [.lst (ns.map .int),.int 4] S=G9 (.int (mix ns 4)) S:=d9 ns 4;have v:=m9 (mix ns 0) (show (0:Int)<b by omega);have p:bS (.int (mix ns 0)) (.int b)=some (.int (mix ns 0 % b)):=a7 (by omega);obtain⟨m,t⟩:∃ m:Nat,1+mix ns 0 % b=m:=⟨(1+mix ns 0 % b).toNat,by omega⟩;obtain⟨ss,kvs,k,e,f,c⟩:=wV (mix ns 1) S;have r:bS (.int (mix ns 3)) (.int 5)=some (.int (mix ns 3 % 5)):=a7 (by decide);have u:=m9 (mix ns 3) (show (0:Int)<5 by decide);obtain⟨dp,q⟩:∃ dp:Nat,1+mix ns 3 % 5=dp:=⟨(1+mix ns 3 % 5).toNat,by omega⟩;obtain⟨d,g,l,kw⟩:=vi ss e f c m (by omega) (by omega) (S++[.dict kvs]) 8 dp (mix ns 2) (by omega) (uY _ _);obtain⟨o,h,po⟩:=xB (mix ns 4) (m:=m) (by omega) (S++[.dict kvs]);have s:Jc [.int m,.tup (ss.map .str),d,oD o] (.tup [.int m,.tup (ss.map .str),d,oD o])=some (.tup [.int m,.tup (ss.map .str),d,oD o]):=bu (by simp);refine⟨m,ss,kvs,d,o,by omega,by omega,e,f,c,l.mono 5 (by omega),kw,po,az rfl ?_⟩;unfold sT;simp[i,x1,x2,j,n,p,t,k,r,q,g,h,s,-map_map]
abbrev K6 (R:List Row):D:=.tup (R.map aB)
abbrev nG (t:Tr):D:=K6 (enc (po t []))
abbrev Sh:=List (Option Bool)
def Je:Option Bool->D
 |none => .Ho
 |some b => .int (if b=true then 1 else 0)
abbrev Hm (sh:Sh):D:=.tup (sh.map Je)
theorem yI {a:Sh}{c:Nat}{x:Option Bool}(h:a[c]?=some x)(S:G0):HL (Hm a) (.int c) S=some (Je x):=by unfold HL;rw[if_neg (by simp[bI])];exact bp (by rw[getElem?_map,h];rfl)
theorem yH (x:Int){m:Nat}(o:m<=8)(S:G0):∃ b:Sh,kU [.int x,.int m] S=G9 (Hm b) S/\b.length=m:=by
 have j:d6 [.int m]=some ((List.range m).map λ(k:Nat)=>D.int k):=by have:=xi m (by omega) (by omega);simpa using this
 let f:Int->Option Bool:=λk=>if Ic x k % 4=1 then some false else if Ic x k % 4=2 then some true else none
 have q:=dW (u:=aC 0) (fe:=eS) (λa => ∃ y,a=[y,some (.int x)]) (λd=>match d with | .int k=>Je (f k) |_ => .Ho) S ((List.range m).map λ(k:Nat)=>D.int k) (bP 1 [0] [some (.int x),some (.int m)]) ⟨none,rfl⟩ (by
  rintro d hd a ⟨y,rfl⟩;obtain⟨k,_,rfl⟩:=mem_map.mp hd;refine⟨_,rfl,⟨_,rfl⟩,?_⟩;have e:=g6 x k S;have c:bS (.int (Ic x k)) (.int 4)=some (.int (Ic x k % 4)):=a7 (by decide)
  have i:HL (D.tup [D.Ho,(D.int 0),(D.int 1),D.Ho]) (.int (Ic x k % 4)) S=some (Je (f k)):=by
   have l:=Int.emod_nonneg (Ic x k) (show (4:Int)≠0 by decide);have n:=Int.emod_lt_of_pos (Ic x k) (show (0:Int)<4 by decide);show HL _ _ _=some (Je (if Ic x k % 4=1 then some false else if Ic x k % 4=2 then some true else none));have:Ic x k % 4=0∨Ic x k % 4=1∨Ic x k % 4=2∨Ic x k % 4=3:=by omega
   rcases this with h |h |h |h<;>rw[h]<;>rfl
  show eS [some (.int k),some (.int x)] S=G9 (Je (f k)) S;generalize f k=fk at *
  unfold eS
  simp[e,c,i])
 rw[map_map] at q;refine⟨(List.range m).map λ(k:Nat)=>f k,az rfl ?_,by rw[length_map,length_range]⟩;have g:Hm ((List.range m).map λ(k:Nat)=>f k) = .tup ((List.range m).map ((λd=>match d with |D.int k=>Je (f k) |_ => .Ho) ∘ λ(k:Nat)=>D.int k)):=by rw[Hm,map_map];rfl
 rw[g];generalize (List.range m).map ((λd=>match d with |D.int k=>Je (f k) |_ => .Ho) ∘ λ(k:Nat)=>D.int k)=r at *
 unfold ph;simp[j,q,gG]
def MQ (ss:List Str):Prop:=(∀ x∈ss,dg x=true)/\NW ss=true
theorem sQ (x:Str):∀ l:List Str,((l.map PyData.str).any λq=>PyData.eqv q (.str x))=decide (x∈l)
 |[]=>by simp
 |a::l=>by
  rw[map_cons,any_cons,sQ x l];by_cases h:a=x
  ·simp[PyData.eqv,h]
  have b:¬ x=a:=λe=>h e.symm;simp[PyData.eqv,h,b]
theorem ny (neg:Bool)(x:Str)(l:List Str)(S:G0):LY neg (.str x) (.tup (l.map .str)) S=some (.bl (neg != decide (x∈l))):=by
 have e:vg (.str x) (.tup (l.map .str))=some (decide (x∈l)):=by unfold vg;simp only[toPy,uK,bind_some,fK];rw[if_pos (by simp[PyData.depth]),sQ]
 unfold LY;rw[if_neg (by simp[bI])];cases neg<;>simp[inD,qq,e]
theorem js (xs:List D):gG [.lst xs]=some (.tup xs):=rfl
theorem qp {a b:List Str}(h:MQ a)(s:b.Sublist a):MQ b:=⟨λx c=>h.1 x (s.subset c),dL ((ca h.2).sublist s)⟩
theorem kt {a:List Str}(h:MQ a):a.Nodup:=(ca h.2).imp λ{x y} q e=>by subst e;rw[u5] at q;cases q
theorem w8 (ss:List Str)(h:ss.length<=60):dE (ss.map D.str)=some ((iL ss).map D.str):=by unfold dE;rw[if_pos (by rw[length_map];first |exact Nat.le_trans h (by decide) |omega),ii]
theorem oX:∀ cs:List Str,iP (cs.map D.str)=some (cs.map λc=>(Sum.inr c:Key))
 |[]=>rfl
 |c::cs=>by rw[map_cons,iP,oX cs];rfl
theorem sP:∀ (l b:List Str),(l.map λc=>(Sum.inr c:Key)).foldl cW (b.map Sum.inr)=(l.foldl cW b).map Sum.inr
 |[],b=>rfl
 |a::l,b=>by
  rw[map_cons,foldl_cons,foldl_cons,← sP l (cW b a)];congr 1;unfold cW;by_cases h:a∈b
  ·rw[if_pos h,if_pos (mem_map.mpr ⟨a,h,rfl⟩)]
  rw[if_neg h,if_neg (λq=>by obtain⟨x,d,e⟩:=mem_map.mp q;cases e;exact h d),map_append];rfl
theorem BA {a b:List Str}(c:MQ a)(d:MQ b)(h:∀ x,x∈a↔x∈b):a=b:=by have e:a.Perm b:=(List.perm_ext_iff_of_nodup (kt c) (kt d)).mpr h;have g:=(ca c.2).imp λ{x y} q=>qv q;have f:=(ca d.2).imp λ{x y} q=>qv q;rw[dI e g,← dI (List.Perm.refl b) f]
theorem Dp {m k:Nat}{d:D}(h:KQ m k d):∀ {th:Th}{ss:List Str},Kv th d ss->ss.length<=6:=by
 induction h with
 | @leaf k g _ _ e=>intro th ss a;rw[l9 a];exact e
 | @ask k c x y _ _ _ f b =>
  intro th ss a;cases a with
  |no _ a=>exact f a
  |yes _ a=>exact b a
theorem BU (t:Tr) : 0<(enc (po t [])).length:=by unfold enc;rw[length_map];exact List.length_pos_of_mem (Bm t [])
abbrev HC (ns:List Nat):List D:=ns.map λ(k:Nat)=>D.int k
def cS (a:Sh):Row->List Nat
 | .leaf _=>[]
 | .ask c n y=>match a[c]? with
  |some (some b)=>[if b=true then y else n]
  |_=>[n,y]
theorem AO {o:List Nat}{R:List Row}(w:Wr o R){a:Sh}(v:∀ c∈o,c<a.length){i:Nat}{r:Row}(q:R[i]?=some r)(S:G0):kS [aB r,Hm a] S=G9 (.tup (HC (cS a r))) S:=by
 have u:=w _ _ q;have f:=jW r S;have h:=tZ r S;have g:NI .Ho .Ho=some (.bl true):=rfl;refine az rfl ?_;unfold pe;cases r with
 |leaf l =>
  have d:HC (cS a (.leaf l))=[]:=rfl;rw[d];simp[f,h,g]
 |ask c n y =>
  have p:=v c u.1;have es:a[c]?=some a[c]:=List.getElem?_eq_getElem p;have e:=yI es S;have j:HL (aB (.ask c n y)) (.int 0) S=some (.int c):=MN _ _ S;have t:HL (aB (.ask c n y)) (.int 1) S=some (.int n):=NX _ _ _ S;have s:HL (aB (.ask c n y)) (.int 2) S=some (.int y):=at2 _ _ _ _ S;have m:∀ z:Int,NI (.int z) .Ho=some (.bl false):=λ_=>rfl;cases hv:a[c] with
  |none =>
   rw[hv] at e es;have d:cS a (.ask c n y)=[n,y]:=by simp only[cS,es]
   rw[d];simp[f,h,j,e,Je,g,HC]
  |some b =>
   rw[hv] at e es;have d:cS a (.ask c n y)=[if b=true then y else n]:=by simp only[cS,es]
   rw[d];have z1:∀ k:Nat,Jc [D.int k] (.tup [.int k])=some (.tup [.int k]):=λ_=>bu (by simp);cases b<;>simp[f,j,t,s,e,Je,m,z1,HC]
def gQ (a:Sh):Nat:=(a.filter Option.isNone).length
def yz:D->Bool
 | .tup [_,x]=>nr x
 |_=>false
def Ea:D->D
 | .tup [k,_]=>k
 |_ => .Ho
theorem vM:∀ (a:Sh) (k:Nat),((bJ k (a.map Je)).filter yz).length=gQ a
 |[],k=>rfl
 |v::a,k=>by
  have c:=vM a (k+1);unfold gQ at c ⊢;rw[map_cons,bJ,filter_cons,filter_cons];cases v with
  |none=>rw[if_pos (show yz (D.tup [D.int k,Je none])=true from rfl),if_pos (show (none:Option Bool).isNone=true from rfl),length_cons,length_cons,c]
  |some b=>rw[if_neg (by simp[yz,Je,nr]),if_neg (by simp),c]
theorem uw (a:Sh)(S:G0):∃ ds:List D,fY [Hm a] S=G9 (.lst ds) S/\ds.length=gQ a:=by
 have q:=dj (u:=lM 2 (bg (aC 0) (bg (aC 1) gF))) (gt:=gH) (fe:=gW) (λc => ∃ x y,c=[x,y]) yz Ea S (bJ 0 (a.map Je)) (bP 2 [] [some (Hm a)]) ⟨none,none,rfl⟩ (by
  rintro d hd c ⟨x,y,rfl⟩;obtain⟨i,f⟩:=getElem?_of_mem hd;rw[dU] at f;obtain⟨v,g,rfl⟩:=map_eq_some_iff.mp f;rw[getElem?_map] at g;obtain⟨b,_,rfl⟩:=map_eq_some_iff.mp g;refine⟨_,rfl,⟨_,_,rfl⟩,?_,λ_=>rfl⟩;cases b with
  |none=>rfl
  |some b=>rfl)
 refine⟨((bJ 0 (a.map Je)).filter yz).map Ea,az rfl ?_,by rw[length_map,vM]⟩;have e:nJ [Hm a]=some (bJ 0 (a.map Je)):=rfl;generalize bJ 0 (a.map Je)=l at *
 generalize Hm a=sd at *
 unfold jH;simp[e,q]
theorem ue (c:Sh)(S:G0):cR [Hm c] S=G9 (.int ((2 ^ gQ c:Nat):Int)) S:=by
 obtain⟨g,q,m⟩:=uw c S
 obtain⟨o,f,l,x,rfl,rfl⟩:=ck (u:=aC 2) (body:=dF) (λi h f => ∃ x,h=[some (Hm c),some (.int ((2 ^ i:Nat):Int)),x]/\f=S) g 0 [some (Hm c),some (.int 1),none] S ⟨none,rfl,rfl⟩ (by
  rintro j d h f hd ⟨x,rfl,rfl⟩;refine⟨_,rfl,[some (Hm c),some (.int ((2 ^ (0+j+1):Nat):Int)),some d],_,?_,_,rfl,rfl⟩
  have e:we (.int ((2 ^ (0+j):Nat):Int)) (.int 2)=some (.int ((2 ^ (0+j+1):Nat):Int)):=by
   have k:fA ((2 ^ (0+j):Nat):Int) 2=true:=by generalize ((2 ^ (0+j):Nat):Int)=a;unfold fA;rw[show (decide (-(2 ^ 64)<(2:Int))&&decide ((2:Int)<2 ^ 64))=true by decide,Bool.or_true]
   have p:((2 ^ (0+j):Nat):Int)*2=((2 ^ (0+j+1):Nat):Int):=by rw[pow_succ];exact(Int.natCast_mul _ _).symm
   rw[← p];generalize ((2 ^ (0+j):Nat):Int)=a at *
   show (if fA a 2=true then _ else _)=_;rw[if_pos k]
  generalize ((2 ^ (0+j):Nat):Int)=a at *
  generalize ((2 ^ (0+j+1):Nat):Int)=b at *
  show tV 1 (aE (.int 2)) [some (Hm c),some (.int a),some d] f=_;unfold tV
  simp -implicitDefEqProofs [e])
 rw[zero_add,m] at l;have n:bX (.lst g)=some g:=rfl;refine az rfl ?_;generalize ((2 ^ gQ c:Nat):Int)=b at *
 generalize Hm c=sd at *
 unfold eP;simp -implicitDefEqProofs [q,n,l]
inductive Rc (R:List Row) (sh:Sh):Nat->Prop
 |top:Rc R sh (R.length-1)
 |go {i b:Nat}{r:Row}:Rc R sh i->R[i]?=some r->b∈cS sh r->Rc R sh b
def Uk (o:List Nat)(a:Sh)(p:Nat):Nat:=((o.drop p).filter λc=>decide (a[c]?=some none)).length
theorem qV (o:List Nat)(a:Sh){p q:Nat}(h:p<=q):Uk o a q<=Uk o a p:=by unfold Uk;refine(List.Sublist.filter _ ?_).length_le;rw[show q=p+(q-p) by omega,← List.drop_drop];exact List.drop_sublist _ _
theorem Ca {o:List Nat}{a:Sh}{c q:Nat}(b:c∈o)(d:a[c]?=some none)(h:o.idxOf c<q):Uk o a q+1<=Uk o a (o.idxOf c):=by
 have f:o.idxOf c<o.length:=idxOf_lt_length_iff.mpr b;have e:o.drop (o.idxOf c)=c::o.drop (o.idxOf c+1):=by rw[drop_eq_getElem_cons f,getElem_idxOf]
 have m:=qV o a (show o.idxOf c+1<=q by omega);unfold Uk at m ⊢;rw[e,filter_cons,if_pos (by simpa using d),length_cons];omega
theorem DY {o:List Nat}{a:Sh}(b:o.Perm (List.range a.length))(p:Nat):Uk o a p<=gQ a:=by
 refine Nat.le_trans (qV o a (zero_le p)) ?_;unfold Uk gQ;rw[drop_zero,(b.filter _).length_eq]
 have e:a=(List.range a.length).map λc=>(a[c]?).getD none:=by
  refine ext_getElem? λi=>?_;rw[getElem?_map];by_cases h:i<a.length
  ·rw[getElem?_range h,map_some,List.getElem?_eq_getElem h];rfl
  rw[List.getElem?_eq_none (by omega),List.getElem?_eq_none (by simp;omega)];rfl
 have d:(a.filter Option.isNone).length=((List.range a.length).filter λc=>((a[c]?).getD none).isNone).length:=by have:(a.filter Option.isNone)=(((List.range a.length).map λc=>(a[c]?).getD none).filter Option.isNone):=congrArg _ e;rw[this,List.filter_map,length_map];rfl
 rw[d,← List.countP_eq_length_filter,← List.countP_eq_length_filter];refine List.countP_mono_left λc _ h=>?_;have h:a[c]?=some none:=by simpa using h
 rw[h];rfl
section
variable {o:List Nat}{R:List Row}{sh:Sh}
theorem lS (w:Wr o R){i b:Nat}{r:Row}(e:R[i]?=some r)(a:b∈cS sh r):b<i/\∃ c n y,r = .ask c n y/\c∈o/\Hf.pl o R i=o.idxOf c/\o.idxOf c<Hf.pl o R b:=by
 have h:=w _ _ e;cases r with
 |leaf m=>simp[cS] at a
 |ask c n y =>
  obtain⟨f,g,k,j,l,_⟩:=h;have d:Hf.pl o R i=o.idxOf c:=by unfold Hf.pl;rw[e]
  have:b=n∨b=y:=by
   have a:b∈(match sh[c]? with |some (some b)=>[if b=true then y else n] |_=>[n,y]):=a;split at a
   ·rename_i v _;have:=mem_singleton.mp a;cases v with
    |true=>exact .inr this
    |false=>exact .inl this
   simpa using a
  rcases this with rfl |rfl
  ·exact⟨g,c,_,_,rfl,f,d,j⟩
  exact⟨k,c,_,_,rfl,f,d,l⟩
theorem yw (w:Wr o R)(f:∀ c∈o,c<sh.length){i b x:Nat}{r:Row}(j:R[i]?=some r)(k:b∈cS sh r)(d : 2 ^ Uk o sh (Hf.pl o R i)<=x) : 2 ^ Uk o sh (Hf.pl o R b)<=x / (cS sh r).length:=by
 obtain⟨_,c,n,y,rfl,a,h,g⟩:=lS w j k;rw[h] at d;have es:sh[c]?=some (sh[c]'(f c a)):=List.getElem?_eq_getElem (f c a);cases hv:sh[c]'(f c a) with
 |none =>
  rw[hv] at es;have e:(cS sh (.ask c n y)).length=2:=by simp only[cS,es];rfl
  rw[e,Nat.le_div_iff_mul_le (by decide),← pow_succ];exact Nat.le_trans (pow_le_pow_right (by decide) (Ca a es g)) d
 |some v =>
  rw[hv] at es;have e:(cS sh (.ask c n y)).length=1:=by simp only[cS,es];rfl
  rw[e,Nat.div_one];exact Nat.le_trans (pow_le_pow_right (by decide) (qV o sh (Nat.le_of_lt g))) d
theorem yy (r:Row):(cS sh r).length<=2:=by
 cases r with
 |leaf _=>simp[cS]
 |ask c n y =>
  show (match sh[c]? with |some (some b)=>[if b=true then y else n] |_=>[n,y]).length<=2;split<;>simp
end
theorem gS (l:List Nat){b:Nat}(v:Nat)(a:b<l.length)(k:Nat):(l.set b v).getD k 0=if k=b then v else l.getD k 0:=by
 rw[List.getD,List.getElem?_set];by_cases h:k=b
 ·subst h;rw[if_pos rfl,if_pos a,if_pos rfl];rfl
 rw[if_neg (λe=>h e.symm),if_neg h];rfl
theorem zw {cs:List Nat}{S:G0}{b:Nat}(a:b<cs.length):kF (.loc S.length) (.int b) (S++[.lst (HC cs)])=some (.int ((cs.getD b 0:Nat):Int)):=by
 show ((cz (.loc S.length) (S++[.lst (HC cs)])).bind λc=>Kj c (b:Int))=_;have:cz (.loc S.length) (S++[.lst (HC cs)])=some (HC cs):=by unfold cz;simp
 rw[this,bind_some];refine bp ?_;rw[getElem?_map,List.getElem?_eq_getElem a,List.getD,List.getElem?_eq_getElem a];rfl
theorem BC (cs:List Nat)(b v:Nat):(HC cs).set b (.int (v:Nat))=HC (cs.set b v):=(List.map_set ..).symm
theorem yX {cs:List Nat}{S:G0}{b:Nat}(a:b<cs.length){i:Int}(hi:MD cs.length i=some b)(v:Nat)(ρ:G1):iO (.loc S.length) (.int i) (.int (v:Nat)) ρ (S++[.lst (HC cs)])=G9 (.next ρ) (S++[.lst (HC (cs.set b v))]):=by
 unfold iO;have g:(S++[MO.lst (HC cs)])[S.length]?=some (.lst (HC cs)):=by simp
 simp only[g,length_map,hi,BC];congr 2;rw[List.set_append_right _ _ (le_refl _),sub_self];rfl
theorem BP {n b:Nat}(h:b<n):MD n (b:Int)=some b:=by unfold MD;rw[if_pos (by omega),if_pos (by omega)];simp
theorem zY {i:Nat}{ws cs:List Nat}(hi:i<cs.length)(E:∀ b∈ws,b<i)(K:ws.length<=2)(S:G0)(l sd w:Option D) :
  ∃ c x,fB (aC 5) cP (HC ws) [l,sd,some (.loc S.length),some (.int i),some (.tup (HC ws)),w] (S++[.lst (HC cs)])=G9 (.next [l,sd,some (.loc S.length),some (.int i),some (.tup (HC ws)),x]) (S++[.lst (HC c)]) /\
   c.length=cs.length/\(∀ b,cs.getD b 0<=c.getD b 0)/\(∀ b,0<c.getD b 0->0<cs.getD b 0∨b∈ws/\0<cs.getD i 0)/\∀ b∈ws,cs.getD i 0 / ws.length<=c.getD b 0:=by
 obtain⟨I,y,H,c,x,rfl,rfl,v,o,p,n,_⟩:=ck (u:=aC 5) (body:=cP)
  (λj g y => ∃ c x,g=[l,sd,some (.loc S.length),some (.int i),some (.tup (HC ws)),x]/\y=S++[.lst (HC c)]/\c.length=cs.length/\(∀ b,cs.getD b 0<=c.getD b 0)/\(∀ b,0<c.getD b 0->0<cs.getD b 0∨b∈ws/\0<cs.getD i 0)/\(∀ b∈ws.take j,cs.getD i 0 / ws.length<=c.getD b 0)/\c.getD i 0=cs.getD i 0)
  (HC ws) 0 [l,sd,some (.loc S.length),some (.int i),some (.tup (HC ws)),w] (S++[.lst (HC cs)]) ⟨cs,w,rfl,rfl,rfl,λ_=>le_refl _,λ_ h => .inl h,λb h=>by simp at h,rfl⟩ (by
   rintro j d g y hd ⟨c,x,rfl,rfl,v,o,p,n,r⟩;rw[zero_add] at n ⊢;rw[getElem?_map] at hd;obtain⟨b,A,rfl⟩:=map_eq_some_iff.mp hd;have s:b∈ws:=mem_of_getElem? A;have J:=E b s;have f:b<c.length:=by omega
   have F:=zw (S:=S) f;have B:=zw (S:=S) (show i<c.length by omega);have L : 0<ws.length:=List.length_pos_of_mem s;have ld:dh [.tup (HC ws)]=some (.int ws.length):=by unfold dh;simp
   have fd:cT (.int ((c.getD i 0:Nat):Int)) (.int ws.length)=some (.int ((c.getD i 0 / ws.length:Nat):Int)):=by show (if 0<(ws.length:Int)/\(ws.length:Int)<1073741824 then _ else _)=_;rw[if_pos (by omega)];rfl
   have ad:wQ (.int ((c.getD b 0:Nat):Int)) (.int ((c.getD i 0 / ws.length:Nat):Int))=some (.int ((c.getD b 0+c.getD i 0 / ws.length:Nat):Int)):=rfl;have G:=yX (S:=S) f (BP f) (c.getD b 0+c.getD i 0 / ws.length) [l,sd,some (.loc S.length),some (.int i),some (.tup (HC ws)),some (.int b)];refine⟨[l,sd,some (.loc S.length),some (.int i),some (.tup (HC ws)),some (.int b)],rfl,_,_,?_,c.set b (c.getD b 0+c.getD i 0 / ws.length),some (.int b),rfl,rfl,by rw[length_set];exact v,λk=>?_,λk m=>?_,λk m=>?_,?_⟩
   ·generalize S++[MO.lst (HC (c.set b (c.getD b 0+c.getD i 0 / ws.length)))]=t at *
    generalize S++[MO.lst (HC c)]=z at *
    generalize ((c.getD b 0+c.getD i 0 / ws.length:Nat):Int)=z1 at *
    generalize ((c.getD i 0 / ws.length:Nat):Int)=z2 at *
    generalize ((c.getD i 0:Nat):Int)=z3 at *
    generalize ((c.getD b 0:Nat):Int)=z4 at *
    generalize D.tup (HC ws)=wd at *
    show tW (ah 2) (ah 5) (aG cT (vB (ah 2) (ah 3)) (bn dh (af (ah 4) ar))) _ _=_;have Co:∀ (a b:GU D) g S,vB a b g S=ai (a g S) λx z=>ai (b g z) λi t=>aK (kF x i t) t:=λ_ _ _ _=>rfl;unfold tW;simp -implicitDefEqProofs [F,B,ld,fd,ad,G,Co]
   ·rw[gS _ _ f];split
    ·rename_i e;subst e;exact Nat.le_trans (o k) (Nat.le_add_right _ _)
    exact o k
   ·rw[gS _ _ f] at m;split at m
    ·rename_i e;subst e;by_cases C : 0<c.getD k 0
     ·exact p k C
     refine .inr ⟨s,?_⟩;rw[← r];have : 0<c.getD i 0 / ws.length:=by omega
     exact Nat.pos_of_ne_zero λe=>by rw[e,Nat.zero_div] at this;omega
    exact p k m
   ·rw[gS _ _ f];rw[List.take_add_one,A] at m;split
    ·rw[r];omega
    rename_i ne;rcases mem_append.mp m with q |q
    ·exact n k q
    exact absurd (by simpa using q) ne
   rw[gS _ _ f,if_neg (by omega)];exact r)
 rw[zero_add,length_map,take_length] at n;exact⟨c,x,H,v,o,p,n⟩
structure CI (o:List Nat) (R:List Row) (sh:Sh) (k:Nat) (cs:List Nat):Prop where
 len:cs.length=R.length
 snd:∀ i,0<cs.getD i 0->Rc R sh i
 low:∀ i,(i=R.length-1∨∃ j r,R.length-k<=j/\R[j]?=some r/\Rc R sh j/\i∈cS sh r)->2 ^ Uk o sh (Hf.pl o R i)<=cs.getD i 0
section
variable {o:List Nat}{R:List Row}{sh:Sh}
theorem CI.step (w:Wr o R)(B:∀ c∈o,c<sh.length){k i:Nat}{cs a:List Nat}{r:Row}(h:CI o R sh k cs)(hi:i+k+1=R.length)(d:R[i]?=some r)(A:a.length=cs.length)(m:∀ b,cs.getD b 0<=a.getD b 0)
  (t:∀ b,0<a.getD b 0->0<cs.getD b 0∨b∈cS sh r/\0<cs.getD i 0) (u:∀ b∈cS sh r,cs.getD i 0 / (cS sh r).length<=a.getD b 0):CI o R sh (k+1) a:=by
 refine⟨A.trans h.len,λb l=>?_,λb l=>?_⟩
 ·rcases t b l with q |⟨q,z⟩
  ·exact h.snd b q
  exact .go (h.snd i z) d q
 rcases l with q |⟨j,s,D,g,rc,f⟩
 ·exact Nat.le_trans (h.low b (.inl q)) (m b)
 by_cases C:R.length-k<=j
 ·exact Nat.le_trans (h.low b (.inr ⟨j,s,C,g,rc,f⟩)) (m b)
 have e:j=i:=by omega
 subst e;rw[d] at g;cases g;refine Nat.le_trans (yw w B d f ?_) (u b f);cases rc with
 |top=>exact h.low _ (.inl rfl)
 | @go x _ v y n p =>
  have:=(lS w n p).1;exact h.low _ (.inr ⟨x,v,by omega,n,y,p⟩)
theorem CI.done (w:Wr o R){cs:List Nat}(h:CI o R sh R.length cs)(i:Nat) : 0<cs.getD i 0↔Rc R sh i:=by
 refine⟨h.snd i,λrc=>lt_of_lt_of_le (Nat.pow_pos (by decide : 0<2)) (h.low i ?_)⟩;cases rc with
 |top=>exact .inl rfl
 | @go j _ r rc b a=>exact .inr ⟨j,r,by omega,b,rc,a⟩
end
theorem uv (n i:Nat):(replicate n 0).getD i 0=0:=by rw[List.getD,getElem?_replicate];split<;>rfl
theorem BV (n:Nat)(ix:List Nat)(fi:GU (List D))(u:D->G1->Option G1)(gt:GU Bool)(fe:GU D)(ρ:G1)(S:G0):nQ n ix fi u gt fe ρ S=ai (fi ρ S) λds a =>
 match bD u gt fe ds (bP n ix ρ) a with
 |some (out,S2)=>G9 (.loc S2.length) (S2++[.lst out])
 |none=>none:=rfl
theorem DB (b fi a:GU D)(ρ:G1)(S:G0):wM b fi a ρ S=ai (a ρ S) λv c=>ai (b ρ c) λx S2=>ai (fi ρ S2) λk d=>iO x k v ρ d:=rfl
theorem yh {o:List Nat}{R:List Row}{a:Sh}(w:Wr o R)(J:o.Perm (List.range a.length))(h1 : 0<R.length)(hR:R.length<15000000)(S:G0) :
  ∃ cs,cr [.tup (R.map aB),Hm a] S=G9 (.loc S.length) (S++[.lst (HC cs)])/\cs.length=R.length/\∀ i,0<cs.getD i 0↔Rc R a i:=by
 have O:∀ c∈o,c<a.length:=λc V=>mem_range.mp (J.mem_iff.mp V)
 have F:=dW (u:=aC 0) (fe:=eQ) (λl => ∃ y,l=[y]) (λ_ => .int 0) S (R.map aB) (bP 1 [] [some (.tup (R.map aB)),some (Hm a),none,none,none,none]) ⟨none,rfl⟩ (by
  rintro d hd l ⟨y,rfl⟩
  exact⟨_,rfl,⟨_,rfl⟩,rfl⟩)
 have E:(R.map aB).map (λ_=>D.int 0)=HC (replicate R.length 0):=by rw[map_map,HC,List.map_replicate];exact List.map_const' ..
 rw[E] at F;have I:bX (.tup (R.map aB))=some (R.map aB):=rfl;have v:=λS=>ue a S
 have A:=yX (S:=S) (cs:=replicate R.length 0) (b:=R.length-1) (by rw[length_replicate];omega) (i:=-1) (by
  rw[length_replicate];unfold MD;rw[if_neg (by decide),if_pos (by omega)]
  congr 1;omega) (2 ^ gQ a) [some (.tup (R.map aB)),some (Hm a),some (.loc S.length),none,none,none]
 generalize M:(replicate R.length 0).set (R.length-1) (2 ^ gQ a)=m at A;have t:∀ i,m.getD i 0=if i=R.length-1 then 2 ^ gQ a else 0:=λi=>by rw[← M,gS _ _ (by rw[length_replicate];omega),uv]
 have T:CI o R a 0 m:=by
  refine⟨by rw[← M,length_set,length_replicate],λi h=>?_,λi h=>?_⟩
  ·rw[t] at h;split at h
   ·rename_i e;rw[e];exact .top
   omega
  rcases h with e |⟨j,r,p,g,_⟩
  ·rw[t,if_pos e];exact pow_le_pow_right (by decide) (DY J _)
  have:=(List.getElem?_eq_some_iff.mp g).1;omega
 have ln:dh [.tup (R.map aB)]=some (.int R.length):=by unfold dh;simp
 have H:rN [.int ((R.length:Int)-1),.int (-1),.int (-1)]=some ((List.range R.length).map λ(k:Nat)=>D.int ((R.length:Int)-1-k)):=by unfold rN;simp only;rw[if_pos ⟨by omega,by omega,by decide,by decide,trivial⟩,show ((R.length:Int)-1 - -1).toNat=R.length by omega]
 obtain⟨ρ',C,Z,cs,B,q,n,rfl,rfl,f⟩:=ck (u:=aC 3) (body:=cO)
  (λk l C => ∃ cs B q n,l=[some (.tup (R.map aB)),some (Hm a),some (.loc S.length),B,q,n]/\C=S++[.lst (HC cs)]/\CI o R a k cs)
  ((List.range R.length).map λ(k:Nat)=>D.int ((R.length:Int)-1-k)) 0 [some (.tup (R.map aB)),some (Hm a),some (.loc S.length),none,none,none] (S++[.lst (HC m)]) ⟨m,none,none,none,rfl,rfl,T⟩ (by
   rintro j d l C hd ⟨cs,B,q,n,rfl,rfl,f⟩;rw[zero_add] at f ⊢;rw[getElem?_map] at hd;obtain⟨s,p,rfl⟩:=map_eq_some_iff.mp hd;have U:j<R.length:=by have:=(List.getElem?_eq_some_iff.mp p).1;simpa using this
   have ej:s=j:=by rw[getElem?_range U] at p;exact(Option.some.inj p).symm
   subst ej;obtain⟨i,h⟩:∃ i,i+s+1=R.length:=⟨R.length-s-1,by omega⟩;have N:i<R.length:=by omega
   have g:R[i]?=some R[i]:=List.getElem?_eq_getElem N;have ei:(R.length:Int)-1-s=i:=by omega
   rw[ei];have Y:=AO w O g (S++[.lst (HC cs)]);have fx:HL (.tup (R.map aB)) (.int i) (S++[.lst (HC cs)])=some (aB R[i]):=by unfold HL;rw[if_neg (by simp[bI])];exact bp (by rw[getElem?_map,g];rfl)
   obtain⟨G,x,lp,P,L,K,Q⟩:=zY (i:=i) (ws:=cS a R[i]) (cs:=cs) (by rw[f.len];exact N) (λb hb=>(lS w g hb).1) (yy _) S (some (.tup (R.map aB))) (some (Hm a)) n;refine⟨[some (.tup (R.map aB)),some (Hm a),some (.loc S.length),some (.int i),q,n],rfl,_,_,?_,G,some (.int i),some (.tup (HC (cS a R[i]))),x,rfl,rfl,f.step w O h g P L K Q⟩;have sw:bX (.tup (HC (cS a R[i])))=some (HC (cS a R[i])):=rfl;clear A v F E I t H ln P L K Q;generalize S++[MO.lst (HC G)]=S2 at *
   generalize S++[MO.lst (HC cs)]=S1 at *
   generalize D.tup (HC (cS a R[i]))=wd at *
   generalize HC (cS a R[i])=wl at *
   generalize aB R[i]=rd at *
   generalize D.tup (R.map aB)=fo at *
   generalize Hm a=sd at *
   unfold cO
   simp -implicitDefEqProofs [fx,Y,sw,lp])
 rw[zero_add,length_map,length_range] at f;refine⟨cs,az rfl ?_,f.len,f.done w⟩;have X:xE (.int 1)=some (.int (-1)):=rfl;have sb:rD (.int R.length) (.int 1)=some (.int ((R.length:Int)-1)):=rfl;have W:=v (S++[.lst (HC (replicate R.length 0))]);clear v f T t E;generalize ((2 ^ gQ a:Nat):Int)=z at *
 generalize (List.range R.length).map (λ(k:Nat)=>D.int ((R.length:Int)-1-k))=rl at *
 generalize S++[MO.lst (HC cs)]=S3 at *
 generalize S++[MO.lst (HC m)]=S2 at *
 generalize HC (replicate R.length 0)=zs at *
 generalize R.map aB=rr at *
 generalize Hm a=sd at *
 unfold gm;simp -implicitDefEqProofs [BV,DB,F,I,W,X,A,ln,sb,H,Z]
abbrev Hg (ss:List Str):D:=.tup (ss.map .str)
theorem wz (n:Nat):∀ cs:List Nat,lQ n (HC cs)=true
 |[]=>rfl
 |c::cs=>by
  show (JO n (.int c)&&lQ n (HC cs))=true;rw[wz n cs];rfl
theorem forget_eq {f:GU D}{ρ:G1}{S:G0}{xs:List D}(h:f ρ S=G9 (.loc S.length) (S++[.lst xs]))(a:lQ S.length xs=true)(b:xs.length<=sizeLine):jT f ρ S=G9 (.lst xs) S:=by
 unfold jT;rw[h];have g:(S++[MO.lst xs])[S.length]?=some (.lst xs):=by simp
 simp only[G9,g];exact if_pos ⟨le_refl _,by simp,a,b⟩
def vp:D->Bool
 | .tup [.tup [_,_],_]=>true
 |_=>false
def yi:D->D
 | .tup [.tup [_,x],k] => .tup [x,k]
 |_ => .Ho
def zR:D->Bool
 | .tup [_,.int k]=>decide (k > 0)
 |_=>false
def BO:D->D
 | .tup [x,_]=>x
 |_ => .Ho
theorem qr:∀ ds:List D,(∀ d∈ds,∃ ss,d=Hg ss)->∃ a:List (List Str),ds=a.map Hg
 |[],_=>⟨[],rfl⟩
 |d::ds,h=>by
  obtain⟨a,e⟩:=qr ds λx b=>h x (mem_cons_of_mem _ b);obtain⟨ss,c⟩:=h d (mem_cons_self ..);exact⟨ss::a,by rw[e,c];rfl⟩
theorem str_inj:∀ {a b:List Str},a.map D.str=b.map D.str->a=b
 |[],[],_=>rfl
 |[],_::_,h=>by simp at h
 |_::_,[],h=>by simp at h
 |x::a,y::b,h=>by
  rw[map_cons,map_cons,List.cons.injEq,D.str.injEq] at h;rw[h.1,str_inj h.2]
theorem qt {a b:List Str}(h:Hg a=Hg b):a=b:=str_inj (D.tup.inj h)
theorem pS {R:List Row}{cs:List Nat}(f:cs.length=R.length){d:D}:d∈gr (R.map aB) (HC cs)↔∃ i r,R[i]?=some r/\d = .tup [aB r,.int ((cs.getD i 0:Nat):Int)]:=by
 have go:∀ {i:Nat}{r:Row},R[i]?=some r->(gr (R.map aB) (HC cs))[i]?=some (.tup [aB r,.int ((cs.getD i 0:Nat):Int)]):=λ{i r} h=>by
  have a:=(List.getElem?_eq_some_iff.mp h).1;have b:i<cs.length:=by omega
  exact mj _ _ i (by rw[getElem?_map,h];rfl) (by rw[getElem?_map,List.getElem?_eq_getElem b,List.getD,List.getElem?_eq_getElem b];rfl)
 constructor
 ·intro h;obtain⟨i,a⟩:=getElem?_of_mem h;have e:=(List.getElem?_eq_some_iff.mp a).1;rw[cD,length_map,length_map] at e;have c:R[i]?=some (R[i]'(by omega)):=List.getElem?_eq_getElem (by omega);rw[go c] at a;exact⟨i,_,c,(Option.some.inj a).symm⟩
 rintro⟨i,r,h,rfl⟩;exact mem_of_getElem? (go h)
theorem BN {o:List Nat}{R:List Row}{g:Sh}(w:Wr o R)(P:o.Perm (List.range g.length))(V : 0<R.length)(Y:R.length<2000)(S:G0) :
  ∃ j:List (List Str),bq [K6 R,Hm g] S=G9 (.lst (j.map Hg)) S/\j.length<=R.length/\∀ ss,ss∈j↔∃ i,R[i]?=some (.leaf ss)/\Rc R g i:=by
 obtain⟨a,A,C,I⟩:=yh w P V (by omega) S;have L:AK [.tup (R.map aB),.lst (HC a)]=some (gr (R.map aB) (HC a)):=rfl
 have K:=dj (u:=lM 2 (bg (aC 0) (bg (aC 1) gF))) (gt:=eL) (fe:=g0) (λρ => ∃ x y,ρ=[x,y]) vp yi S (gr (R.map aB) (HC a)) (bP 2 [] [some (.tup (R.map aB)),some (Hm g)]) ⟨none,none,rfl⟩ (by
  rintro d hd ρ ⟨x,y,rfl⟩;obtain⟨i,r,b,rfl⟩:=(pS C).mp hd;have s:=jW r S;refine⟨[some (aB r),some (.int ((a.getD i 0:Nat):Int))],rfl,⟨_,_,rfl⟩,?_,λq=>?_⟩
  ·have:∀ (k:Bool) (l:D),h9 [l] S=G9 (.bl k) S->∀ z,eL [some l,some z] S=G9 (!k) S:=λk l s z=>by
    unfold eL;simp -implicitDefEqProofs [s]
   cases r with
   |leaf ss=>exact this false _ s _
   |ask c n y=>exact this true _ s _
  cases r with
  |ask c n y=>exact absurd q (by simp[vp,aB])
  |leaf ss =>
   generalize ((a.getD i 0:Nat):Int)=z at *
   have G:HL (aB (.leaf ss)) (.int 1) S=some (Hg ss):=NX _ _ _ S;have v:yi (.tup [aB (.leaf ss),.int z]) = .tup [Hg ss,.int z]:=rfl;have z1:Jc [Hg ss,.int z] (.tup [Hg ss,.int z])=some (.tup [Hg ss,.int z]):=bu (by simp);rw[v];generalize aB (.leaf ss)=l at *
   generalize Hg ss=nd at *
   unfold g0
   simp -implicitDefEqProofs [G,z1])
 have Q:kY [K6 R,Hm g] S=G9 (.lst (((gr (R.map aB) (HC a)).filter vp).map yi)) S:=by
  have M:=forget_eq (f:=aN cr (af (ah 0) (af (ah 1) ar))) (ρ:=[some (.tup (R.map aB)),some (Hm g)]) (S:=S) (xs:=HC a) (by
   generalize S++[MO.lst (HC a)]=S2 at *
   generalize D.tup (R.map aB)=l at *
   generalize Hm g=sd at *
   simp -implicitDefEqProofs [A]) (wz _ _) (Nat.le_trans (show (HC a).length<=2000 by rw[length_map];omega) (by decide))
  refine az rfl ?_;clear A;generalize gr (R.map aB) (HC a)=zl at *
  generalize HC a=nc at *
  show kG [some (.tup (R.map aB)),some (Hm g)] S=_;generalize D.tup (R.map aB)=l at *
  generalize Hm g=sd at *
  unfold kG;simp -implicitDefEqProofs [M,L,K]
 have t:∀ {d:D},d∈((gr (R.map aB) (HC a)).filter vp).map yi↔∃ i ss,R[i]?=some (.leaf ss)/\d = .tup [Hg ss,.int ((a.getD i 0:Nat):Int)]:=λ{d}=>by
  rw[mem_map];constructor
  ·rintro⟨x,m,rfl⟩;obtain⟨m,q⟩:=mem_filter.mp m;obtain⟨i,r,b,rfl⟩:=(pS C).mp m;cases r with
   |ask c n y=>exact absurd q (by simp[vp,aB])
   |leaf ss=>exact⟨i,ss,b,rfl⟩
  rintro⟨i,ss,b,rfl⟩;exact⟨_,mem_filter.mpr ⟨(pS C).mpr ⟨i,_,b,rfl⟩,rfl⟩,rfl⟩
 have T:(((gr (R.map aB) (HC a)).filter vp).map yi).length<=R.length:=by rw[length_map];refine Nat.le_trans (List.length_filter_le ..) ?_;rw[cD,length_map];omega
 clear K;generalize ((gr (R.map aB) (HC a)).filter vp).map yi=L1 at *
 have J:=dj (u:=aC 0) (gt:=b9) (fe:=b_) (λρ => ∃ x,ρ=[x]) zR BO S L1 (bP 1 [] [some (K6 R),some (Hm g)]) ⟨none,rfl⟩ (by
  rintro d hd ρ ⟨x,rfl⟩;obtain⟨i,ss,b,rfl⟩:=t.mp hd;generalize ((a.getD i 0:Nat):Int)=z at *
  have G:HL (.tup [Hg ss,.int z]) (.int 1) S=some (.int z):=NX _ _ _ S;have X:HL (.tup [Hg ss,.int z]) (.int 0) S=some (Hg ss):=MN _ _ S;have U:RH (.int z) (.int 0)=some (.bl (zR (.tup [Hg ss,.int z]))):=rfl;have v:BO (.tup [Hg ss,.int z])=Hg ss:=rfl;rw[v];refine⟨_,rfl,⟨_,rfl⟩,?_,λ_=>?_⟩
  ·generalize zR (.tup [Hg ss,.int z])=k at *
   show b9 [some (.tup [Hg ss,.int z])] S=_;generalize D.tup [Hg ss,.int z]=p at *
   unfold b9;simp -implicitDefEqProofs [G,U]
  show b_ [some (.tup [Hg ss,.int z])] S=_;generalize D.tup [Hg ss,.int z]=p at *
  generalize Hg ss=nd at *
  unfold b_
  simp -implicitDefEqProofs [X])
 have E:∀ {d:D},d∈(L1.filter zR).map BO↔∃ i ss,R[i]?=some (.leaf ss)/\0<a.getD i 0/\d=Hg ss:=λ{d}=>by
  rw[mem_map];constructor
  ·rintro⟨x,m,rfl⟩;obtain⟨m,q⟩:=mem_filter.mp m;obtain⟨i,ss,b,rfl⟩:=t.mp m;have q:((a.getD i 0:Nat):Int) > 0:=of_decide_eq_true q;exact⟨i,ss,b,by omega,rfl⟩
  rintro⟨i,ss,b,H,rfl⟩;exact⟨_,mem_filter.mpr ⟨t.mpr ⟨i,_,b,rfl⟩,decide_eq_true (by omega)⟩,rfl⟩
 have B:((L1.filter zR).map BO).length<=R.length:=by rw[length_map];exact Nat.le_trans (List.length_filter_le ..) T
 obtain⟨j,F⟩:=qr _ λd hd=>by
  obtain⟨i,ss,_,_,e⟩:=E.mp hd;exact⟨ss,e⟩
 rw[F] at J B;refine⟨j,az rfl ?_,by rw[length_map] at B;exact B,λss=>?_⟩
 ·have O:bX (.lst L1)=some L1:=rfl;clear A t E F;show eB [some (K6 R),some (Hm g)] S=_;generalize j.map Hg=out at *
  generalize K6 R=l at *
  generalize Hm g=sd at *
  unfold eB;simp -implicitDefEqProofs [Q,O,J]
 have:ss∈j↔Hg ss∈j.map Hg:=⟨λh=>mem_map.mpr ⟨ss,h,rfl⟩,λh=>by
  obtain⟨W,N,e⟩:=mem_map.mp h
  rw[← qt e];exact N⟩
 rw[this,← F,E];constructor
 ·rintro⟨i,W,b,H,e⟩;rw[qt e];exact⟨i,b,(I i).mp H⟩
 rintro⟨i,b,rc⟩;exact⟨i,ss,b,(I i).mpr rc,rfl⟩
def jF (x:Str):D->Bool
 | .tup a=>a.any λd=>match d with | .str y=>decide (y=x) |_=>false
 |_=>false
theorem qB (x:Str)(ss:List Str):jF x (Hg ss)=decide (x∈ss):=by
 show ((ss.map D.str).any _)=_;rw[any_map]
 induction ss with
 |nil=>simp
 |cons a ss c =>
  rw[any_cons,c];by_cases h:a=x
  ·simp[h]
  have b:¬ x=a:=λe=>h e.symm;simp[h,b]
theorem AB (f:D->Bool)(ds:List D):yn [.lst (ds.map λd => .bl (f d))]=some (.bl (ds.any f)):=by rw[yn,qT];simp[any_map]
theorem zX {fe:GU D}(f:fe=Lr false (ah 1) (ah 0))(x:Str)(b:List (List Str))(S:G0)(y:Option D):bD (aC 0) cU fe (b.map Hg) [y,some (.str x)] S=some ((b.map Hg).map λd => .bl (jF x d),S):=by
 subst f;refine dW (λc => ∃ y,c=[y,some (.str x)]) (λd => .bl (jF x d)) S (b.map Hg) _ ⟨y,rfl⟩ ?_;rintro d hd c ⟨z,rfl⟩;obtain⟨a,_,rfl⟩:=mem_map.mp hd;have e:LY false (.str x) (Hg a) S=_:=ny false x a S;rw[Bool.false_bne,← qB] at e;refine⟨_,rfl,⟨_,rfl⟩,?_⟩;show Lr false (ah 1) (ah 0) [some (Hg a),some (.str x)] S=_;generalize jF x (Hg a)=k at *
 generalize Hg a=nd at *
 simp -implicitDefEqProofs [e]
def Fb (q:(D->Bool)->List D->Bool)(op:List D->Option D):Prop:=∀ (f:D->Bool) (a:List D),op [.lst (a.map λd => .bl (f d))]=some (.bl (q f a))
theorem Ab {op:List D->Option D}{q:(D->Bool)->List D->Bool}(g:Fb q op){gt:GU Bool}{fe fi:GU D}(l:gt=a9 (bn op (af (bA 1 [0] (aW (ah 1)) (aC 0) cU fi) ar)))(hi:fi=Lr false (ah 1) (ah 0))(j:fe=ah 0)(a:List Str)(b:List (List Str))(S:G0)(y:Option D) :
  bD (aC 0) gt fe (a.map .str) [y,some (.lst (b.map Hg))] S=some ((a.filter λx=>q (jF x) (b.map Hg)).map .str,S):=by
 subst l j
 have h:=dj (u:=aC 0) (gt:=a9 (bn op (af (bA 1 [0] (aW (ah 1)) (aC 0) cU fi) ar))) (fe:=ah 0) (λc => ∃ y,c=[y,some (.lst (b.map Hg))]) (λd=>match d with | .str x=>q (jF x) (b.map Hg) |_=>false) id S (a.map .str) [y,some (.lst (b.map Hg))] ⟨y,rfl⟩ (by
  rintro d hd c ⟨z,rfl⟩;obtain⟨x,m,rfl⟩:=mem_map.mp hd;have e:=zX hi x b S none;have i:=g (jF x) (b.map Hg);have f:bX (.lst (b.map Hg))=some (b.map Hg):=rfl;refine⟨[some (.str x),some (.lst (b.map Hg))],rfl,⟨_,rfl⟩,?_,λ_=>rfl⟩;show a9 (bn op (af (bA 1 [0] (aW (ah 1)) (aC 0) cU fi) ar)) [some (.str x),some (.lst (b.map Hg))] S=G9 (q (jF x) (b.map Hg)) S;have cp:bP 1 [0] [some (D.str x),some (D.lst (b.map Hg))]=[none,some (D.str x)]:=rfl;generalize q (jF x) (b.map Hg)=k at *
  generalize (b.map Hg).map (λd=>D.bl (jF x d))=l1 at *
  generalize D.lst (b.map Hg)=l2 at *
  generalize b.map Hg=l3 at *
  simp -implicitDefEqProofs [f,cp,e,i])
 rw[h,map_id,List.filter_map];rfl
def e_ (W:List Str)(a:List (List Str)):List Str:=W.filter λx=>(a.map Hg).any (jF x)
def iE (W:List Str)(a:List (List Str)):List Str:=W.filter λx=>(a.map Hg).all (jF x)
theorem v9 {W:List Str}{a:List (List Str)}{x:Str}:x∈e_ W a↔x∈W/\∃ ss∈a,x∈ss:=by unfold e_;rw[mem_filter,any_map,any_eq_true];simp only[Function.comp,qB,decide_eq_true_eq]
theorem pZ {W:List Str}{a:List (List Str)}{x:Str}:x∈iE W a↔x∈W/\∀ ss∈a,x∈ss:=by unfold iE;rw[mem_filter,all_map,all_eq_true];simp only[Function.comp,qB,decide_eq_true_eq]
theorem AU {R:List Row}{j:Sh}{S:G0}{g:List (List Str)}(q:bq [K6 R,Hm j] S=G9 (.lst (g.map Hg)) S)(o:g≠[]){W:List Str}(s:MQ W)(m:∀ ss∈g,MQ ss/\∀ x∈ss,x∈W):fm [K6 R,Hm j] S=G9 (Hg (iE W g)) S:=by
 obtain⟨d,r,rfl⟩:∃ d r,g=d::r:=by cases g with
  |nil=>exact absurd rfl o
  |cons a r=>exact⟨a,r,rfl⟩
 have l:=m d (mem_cons_self ..);have e:d.filter (λx=>((d::r).map Hg).all (jF x))=iE W (d::r):=by refine BA (qp l.1 filter_sublist) (qp s filter_sublist) λx=>?_;have k:x∈d.filter (λx=>((d::r).map Hg).all (jF x))↔x∈d/\∀ ss∈d::r,x∈ss:=pZ;rw[k,pZ];exact⟨λh=>⟨l.2 x h.1,h.2⟩,λh=>⟨h.2 d (mem_cons_self ..),h.2⟩⟩
 have c:=Ab (op:=ud) (q:=λf u=>u.all f) uc (gt:=rC) (fe:=sW) (fi:=s9) rfl rfl rfl d (d::r) S none;rw[e] at c;refine az rfl ?_;have t:HL (.lst ((d::r).map Hg)) (.int 0) S=some (Hg d):=by unfold HL;rw[if_neg (by simp[bI])];exact bp (i:=0) rfl
 have n:bX (Hg d)=some (d.map .str):=rfl;have p:=js ((iE W (d::r)).map .str);have cp:∀ (a b:Option D),bP 1 [2] [a,b,some (.lst ((d::r).map Hg))]=[none,some (.lst ((d::r).map Hg))]:=λ_ _=>rfl;clear e;show vj [some (K6 R),some (Hm j),none] S=_;unfold Hg at *
 generalize (iE W (d::r)).map D.str=out at *
 generalize D.lst ((d::r).map λss=>D.tup (ss.map D.str))=ld at *
 generalize D.tup (d.map D.str)=l0d at *
 generalize d.map D.str=l0l at *
 generalize K6 R=rd at *
 generalize Hm j=sd at *
 unfold vj;simp -implicitDefEqProofs [q,t,n,cp,c,p]
theorem sV:∀ (b:List (List Str)) (n:Nat),(∀ ss∈b,ss.length<=n)->b.flatten.length<=n*b.length
 |[],n,_=>by simp
 |a::b,n,h=>by
  have:=sV b n λs c=>h s (mem_cons_of_mem _ c);have:=h a (mem_cons_self ..);rw[flatten_cons,List.length_append,length_cons,Nat.mul_succ];omega
theorem rT {R:List Row}{b:Sh}{S:G0}{a:List (List Str)}(q:bq [K6 R,Hm b] (S++[.lst []])=G9 (.lst (a.map Hg)) (S++[.lst []]))(I:a.length<=600){W:List Str}(p:MQ W)(G:W.length<=6)(l:∀ ss∈a,ss.length<=6/\∀ x∈ss,x∈W):bC [K6 R,Hm b] S=G9 (Hg (e_ W a)) (S++[.lst (a.flatten.map .str)]):=by
 have lf:∀ j,(a.take j).flatten.length<=3600:=λj=>by have:=sV (a.take j) 6 λss i=>(l ss (mem_of_mem_take i)).1;rw[length_take] at this;omega
 obtain⟨H,k,n,x,rfl,rfl⟩:=ck (u:=aC 3) (body:=fX) (λj c k => ∃ x,c=[some (K6 R),some (Hm b),some (.loc S.length),x]/\k=S++[.lst ((a.take j).flatten.map .str)])
  (a.map Hg) 0 [some (K6 R),some (Hm b),some (.loc S.length),none] (S++[.lst []]) ⟨none,rfl,rfl⟩ (by
   rintro j d c k hd ⟨x,rfl,rfl⟩;rw[zero_add];rw[getElem?_map] at hd;obtain⟨ss,i,rfl⟩:=map_eq_some_iff.mp hd;have t:a.take (j+1)=a.take j++[ss]:=by rw[List.take_add_one,i];rfl
   have r:=lf (j+1);rw[t,List.flatten_append,List.length_append,show [ss].flatten=ss by simp] at r;refine⟨[some (K6 R),some (Hm b),some (.loc S.length),some (Hg ss)],rfl,[some (K6 R),some (Hm b),some (.loc S.length),some (Hg ss)],_,?_,_,rfl,rfl⟩;rw[t,List.flatten_append,show [ss].flatten=ss by simp];have lo:cz (.loc S.length) (S++[.lst ((a.take j).flatten.map .str)])=some ((a.take j).flatten.map .str):=by unfold cz;simp
   have ex:yc (.loc S.length) (Hg ss) (S++[.lst ((a.take j).flatten.map .str)])=G9 .Ho (S++[.lst (((a.take j).flatten++ss).map .str)]):=by
    unfold yc;have g:(S++[MO.lst ((a.take j).flatten.map .str)])[S.length]?=some (.lst ((a.take j).flatten.map .str)):=by simp
    simp only[g];rw[if_pos (Nat.le_trans (show _<=3600 by rw[length_map,length_map];exact r) (by decide)),List.set_append_right _ _ (le_refl _),sub_self,map_append];rfl
   generalize S++[MO.lst (((a.take j).flatten++ss).map .str)]=S2 at *
   generalize S++[MO.lst ((a.take j).flatten.map .str)]=s at *
   generalize Hg ss=sd at *
   generalize K6 R=rd at *
   generalize Hm b=hd at *
   have Ag:∀ (f:GU D) c S,nP f c S=ai (f c S) λ_ s=>G9 (.next c) s:=λ_ _ _=>rfl;unfold fX DL
   simp -implicitDefEqProofs [Ag,lo,ex])
 rw[zero_add,length_map,take_length] at n;have A:=lf a.length;rw[take_length] at A;have nd:(e_ W a).Nodup:=(kt p).sublist filter_sublist;have J:(e_ W a).length<=6:=Nat.le_trans (List.length_filter_le ..) G;have z:=nw a.flatten [] nodup_nil
 have m:(a.flatten.foldl cW []).Perm (e_ W a):=(List.perm_ext_iff_of_nodup z nd).mpr λx=>by
  rw[o8,v9,List.mem_flatten];refine⟨λh=>?_,λh => .inr h.2⟩;rcases h with h |⟨ss,i,o⟩
  ·cases h
  exact⟨(l ss i).2 x o,ss,i,o⟩
 have E:gJ (a.flatten.map .str)=some (.lst ((e_ W a).map .str)):=by unfold gJ;rw[if_pos (by rw[length_map];omega),oX,bind_some];have e:=sP a.flatten [];rw[map_nil] at e;rw[e,map_map];have C:(a.flatten.foldl cW []).map (O2 ∘ Sum.inr)=(a.flatten.foldl cW []).map D.str:=rfl;rw[C,w8 _ (by rw[m.length_eq];omega)];have v:=(ca (qp p (show (e_ W a).Sublist W from filter_sublist)).2).imp λ{x y} q=>qv q;rw[← dI m.symm v];rfl
 have lo:cz (.loc S.length) (S++[.lst (a.flatten.map .str)])=some (a.flatten.map .str):=by unfold cz;simp
 have B:=js ((e_ W a).map .str);have w:bX (.lst (a.map Hg))=some (a.map Hg):=rfl;refine az rfl ?_;show i7 [some (K6 R),some (Hm b),none,none] S=_;show _=G9 (Fl.ret (.tup ((e_ W a).map .str))) _;generalize D.lst (a.map Hg)=ld at *
 generalize a.map Hg=l3 at *
 generalize (e_ W a).map D.str=out at *
 generalize S++[MO.lst (a.flatten.map .str)]=S2 at *
 generalize a.flatten.map D.str=fl at *
 have F:∀ c,tR c S=G9 (.loc S.length) (S++[.lst []]):=λ_=>rfl;generalize K6 R=rd at *
 generalize Hm b=sd at *
 unfold i7 kO;simp -implicitDefEqProofs [F,q,w,n,lo,E,B]
def L7 (a:Sh)(th:Th):Prop:=∀ c b,a[c]?=some (some b)->th c=b
section
variable {o:List Nat}{R:List Row}{sh:Sh}
theorem Ev.rc {th:Th}(a:L7 sh th){i:Nat}{ss:List Str}(e:Ev R th i ss):Rc R sh i->∃ j,R[j]?=some (.leaf ss)/\Rc R sh j:=by
 have go:∀ {c n y:Nat},(if th c=true then y else n)∈cS sh (.ask c n y):=λ{c n y}=>by
  show _∈(match sh[c]? with |some (some b)=>[if b=true then y else n] |_=>[n,y]);split
  ·rename_i b f;rw[a c b f];exact mem_singleton.mpr rfl
  split<;>simp
 induction e with
 |leaf h=>exact λrc=>⟨_,h,rc⟩
 | @no i c n y ss h t _ d =>
  refine λrc=>d (.go rc h ?_);have:=go (c:=c) (n:=n) (y:=y);rw[t] at this;exact this
 | @yes i c n y ss h t _ d =>
  refine λrc=>d (.go rc h ?_);have:=go (c:=c) (n:=n) (y:=y);rw[t] at this;exact this
theorem Rc.th (w:Wr o R){i:Nat}(rc:Rc R sh i):∃ th,L7 sh th/\∀ d ss,(∀ c,o.idxOf c<Hf.pl o R i->d c=th c)->Ev R d i ss->Ev R d (R.length-1) ss:=by
 induction rc with
 |top=>exact⟨λc=>(sh[c]?.getD none).getD false,λc b h=>by simp only[h];rfl,λd ss _ e=>e⟩
 | @go i b r rc l k t =>
  obtain⟨th,a,h⟩:=t;obtain⟨_,c,n,y,rfl,A,s,z⟩:=lS w l k;have k:b∈(match sh[c]? with |some (some b)=>[if b=true then y else n] |_=>[n,y]):=k
  have fin:∀ v:Bool,b=(if v=true then y else n)->(∀ u,sh[c]?=some (some u)->u=v)->∃ th,L7 sh th/\∀ d ss,(∀ c,o.idxOf c<Hf.pl o R b->d c=th c)->Ev R d b ss->Ev R d (R.length-1) ss:=λv p g=>by
   refine⟨upd th c v,λx u f=>?_,λd ss q e=>?_⟩
   ·unfold upd;split
    ·rename_i ex;rw[ex] at f;exact(g u f).symm
    exact a x u f
   have m:d c=v:=by rw[q c z,G_]
   refine h d ss (λx f=>?_) ?_
   ·rw[s] at f;rw[q x (by omega)];unfold upd;rw[if_neg (λex=>by rw[ex] at f;omega)]
   cases v with
   |true=>exact .yes l m (by rw[p] at e;exact e)
   |false=>exact .no l m (by rw[p] at e;exact e)
  split at k
  ·rename_i v g;exact fin v (mem_singleton.mp k) λu j=>by rw[g] at j;cases j;rfl
  rename_i g;rcases mem_cons.mp k with e |e
  ·exact fin false e λu j=>absurd j (g u)
  exact fin true (mem_singleton.mp e) λu j=>absurd j (g u)
theorem Ev.congr (w:Wr o R){th b:Th}(d:∀ c∈o,th c=b c){i:Nat}{ss:List Str}(e:Ev R th i ss):Ev R b i ss:=by
 induction e with
 |leaf h=>exact .leaf h
 |no h t _ a=>exact .no h (by rw[← d _ (w _ _ h).1];exact t) a
 |yes h t _ a=>exact .yes h (by rw[← d _ (w _ _ h).1];exact t) a
theorem u6 (w:Wr o R)(g:o.Perm (List.range sh.length))(ss:List Str):(∃ i,R[i]?=some (.leaf ss)/\Rc R sh i)↔∃ ts,ji sh.length ts/\L7 sh (tv ts)/\Ev R (tv ts) (R.length-1) ss:=by
 constructor
 ·rintro⟨i,j,rc⟩;obtain⟨th,a,h⟩:=rc.th w;have e:=h th ss (λ_ _=>rfl) (.leaf j);have ev:∀ c,c<sh.length->tv ((List.range sh.length).map λc=>if th c=true then 1 else 0) c=th c:=λc d=>by unfold tv;rw[List.getD,getElem?_map,getElem?_range d];cases hv:th c<;>simp[hv]
  refine⟨(List.range sh.length).map λc=>if th c=true then 1 else 0,⟨by simp,λx k=>?_⟩,λc b f=>?_,e.congr w λc d=>(ev c (mem_range.mp (g.mem_iff.mp d))).symm⟩
  ·obtain⟨c,_,rfl⟩:=mem_map.mp k;split
   ·exact .inr rfl
   exact .inl rfl
  rw[ev c (List.getElem?_eq_some_iff.mp f).1];exact a c b f
 rintro⟨ts,_,a,e⟩;exact e.rc a .top
end
theorem uQ:∀ (t:Tr) (a:List Tr),(po t a).length<=a.length+Oo t
 | .leaf b,a=>by
  unfold po;split
  ·omega
  simp[Oo]
 | .node c n y,a=>by
  rw[po];split
  ·omega
  have d:=uQ n a;have e:=uQ y (po n a);rw[List.length_append];simp only[Oo,length_cons,length_nil];omega
theorem mZ {o:List Nat}:∀ (t:Tr) (k:Nat),Ord o t->o.length<=tp o t+k->Oo t+1<=2 ^ (k+1)
 | .leaf _,k,_,_=>by
  have : 2 ^ 1<=2 ^ (k+1):=pow_le_pow_right (by decide) (by omega);simpa [Oo] using this
 | .node c n y,k,h,a=>by
  obtain⟨b,e,d,f,i,_⟩:=h;have a:o.length<=o.idxOf c+k:=a;have:=idxOf_lt_length_iff.mpr b;obtain⟨k,rfl⟩:∃ j,k=j+1:=⟨k-1,by omega⟩;have l:=mZ n k e (by omega);have g:=mZ y k d (by omega);rw[pow_succ];simp only[Oo];omega
theorem Af {o:List Nat}{t:Tr}(h:Ord o t)(c:o.length<=6):(enc (po t [])).length<=127:=by have a:=uQ t [];have b:=mZ t 6 h (by omega);unfold enc;rw[length_map];rw[length_nil] at a;have : 2 ^ (6+1)=128:=rfl;omega
theorem tF {α:Type}{u:D->G1->Option G1}{gt:GU Bool}{fe:GU D}(k : α->D)(I:G1->Prop)(Q : α->Prop)(P : α->D->Prop)(S:G0) :
  ∀ (as:List α) (ρ:G1),I ρ->(∀ a∈as,∀ ρ,I ρ->∃ c b,u (k a) ρ=some c/\I c/\gt c S=G9 b S/\(b=true↔Q a)/\∃ x,fe c S=G9 x S/\P a x)->∃ out,bD u gt fe (as.map k) ρ S=some (out,S)/\(∀ x∈out,∃ a∈as,Q a/\P a x)/\∀ a∈as,Q a->∃ x∈out,P a x
 |[],ρ,_,_=>⟨[],rfl,(λx hx=>by cases hx),(λa o=>by cases o)⟩
 |a::as,ρ,hI,h=>by
  obtain⟨c,b,m,p,l,g,y,s,j⟩:=h a (mem_cons_self ..) ρ hI;obtain⟨out,q,n,i⟩:=tF k I Q P S as c p λx hx=>h x (mem_cons_of_mem _ hx);have f:∀ {α:Type}(v : α),OP (G9 v S)=some (v,S):=λ_=>rfl;cases b with
  |true =>
   refine⟨y::out,?_,λx hx=>?_,λx hx e=>?_⟩
   ·rw[map_cons,bD,m,bind_some,l,f,bind_some];simp only[if_true];rw[s,f,bind_some];simp only[q,map_some]
   ·rcases mem_cons.mp hx with rfl |hx
    ·exact⟨a,mem_cons_self ..,g.mp rfl,j⟩
    obtain⟨z,d,r⟩:=n x hx;exact⟨z,mem_cons_of_mem _ d,r⟩
   rcases mem_cons.mp hx with rfl |hx
   ·exact⟨y,mem_cons_self ..,j⟩
   obtain⟨z,d,r⟩:=i x hx e;exact⟨z,mem_cons_of_mem _ d,r⟩
  |false =>
   refine⟨out,?_,λx hx=>?_,λx hx e=>?_⟩
   ·rw[map_cons,bD,m,bind_some,l,f,bind_some];simp only[false_eq_true,if_false,q]
   ·obtain⟨z,d,r⟩:=n x hx;exact⟨z,mem_cons_of_mem _ d,r⟩
   rcases mem_cons.mp hx with rfl |hx
   ·exact absurd (g.mpr e) (by decide)
   exact i x hx e
theorem jd {u:D->G1->Option G1}{gt:GU Bool}{fe:GU D}(I:G1->Prop):∀ (ds:List D) (ρ:G1) (S:G0),I ρ->(∀ d∈ds,∀ ρ S,I ρ->∃ a b,u d ρ=some a/\I a/\gt a S=G9 false b)->∃ c,bD u gt fe ds ρ S=some ([],c)
 |[],ρ,S,_,_=>⟨S,rfl⟩
 |d::ds,ρ,S,hI,h=>by
  obtain⟨a,b,f,i,g⟩:=h d (mem_cons_self ..) ρ S hI;obtain⟨c,q⟩:=jd (u:=u) (gt:=gt) (fe:=fe) I ds a b i λx e=>h x (mem_cons_of_mem _ e);refine⟨c,?_⟩;rw[bD,f,bind_some,g];exact q
section
variable {sh:Sh}{ts:List Int}
def PK (sh:Sh)(th:Th):D->Bool
 | .int k=>match sh[k.toNat]? with
  |some (some b)=>b != th k.toNat
  |_=>false
 |_=>false
theorem yo (t:ji sh.length ts)(w:sh.length<=8)(S:G0):∃ b,jm [KI ts,Hm sh] S=G9 (.bl b) S/\(b=true↔L7 sh (tv ts)):=by
 have s:d6 [.int sh.length]=some ((List.range sh.length).map λ(k:Nat)=>D.int k):=by have:=xi sh.length (by omega) (by omega);simpa using this
 have o:nk .Ho .Ho=some (.bl false):=rfl;have l:∀ z:Int,nk (.int z) .Ho=some (.bl true):=λ_=>rfl
 have q:=dj (u:=aC 0) (gt:=dG) (fe:=jL) (λg => ∃ y,g=[y,some (Hm sh),some (KI ts)]) (PK sh (tv ts)) id S ((List.range sh.length).map λ(k:Nat)=>D.int k) (bP 1 [1,0] [some (KI ts),some (Hm sh)]) ⟨none,rfl⟩ (by
  rintro d hd g ⟨y,rfl⟩;obtain⟨k,e,rfl⟩:=mem_map.mp hd;have e:=mem_range.mp e;have es:sh[k]?=some sh[k]:=List.getElem?_eq_getElem e;have a:=yI es S;have t1:=Cc t e S;refine⟨[some (.int k),some (Hm sh),some (KI ts)],rfl,⟨_,rfl⟩,?_,λ_=>rfl⟩;have j:PK sh (tv ts) (.int k)=match sh[k] with |some b=>b != tv ts k |_=>false:=by show (match sh[((k:Int)).toNat]? with |some (some b)=>b != tv ts ((k:Int)).toNat |_=>false)=_;rw[show ((k:Int)).toNat=k by simp,es];cases sh[k]<;>rfl
  rw[j];clear j hd;generalize Hm sh=sd at *
  generalize KI ts=td at *
  cases hv:sh[k] with
  |none =>
   rw[hv] at a;unfold dG;simp -implicitDefEqProofs [a,Je,o]
  |some b =>
   rw[hv] at a;have p:K9 (.int (if b=true then 1 else 0)) (.int (if tv ts k=true then 1 else 0))=some (.bl (b != tv ts k)):=by rw[BF];cases b<;>cases tv ts k<;>rfl
   unfold dG
   simp -implicitDefEqProofs [a,t1,Je,l,p])
 rw[map_id] at q;have i:Nq (((List.range sh.length).map λ(k:Nat)=>D.int k).filter (PK sh (tv ts)))=true:=by rw[v_];intro d hd;obtain⟨k,_,rfl⟩:=mem_map.mp (mem_filter.mp hd).1;rfl
 have m:=BS i;refine⟨(((List.range sh.length).map λ(k:Nat)=>D.int k).filter (PK sh (tv ts))).isEmpty,az rfl ?_,?_⟩
 ·have ld:dh [Hm sh]=some (.int sh.length):=by unfold dh;simp
  have v:Jc [] (.lst [])=some (.lst []):=rfl;have cp:bP 1 [1,0] [some (KI ts),some (Hm sh)]=[none,some (Hm sh),some (KI ts)]:=rfl;show i9 [some (KI ts),some (Hm sh)] S=_;rw[cp] at q;clear i;generalize (((List.range sh.length).map λ(k:Nat)=>D.int k).filter (PK sh (tv ts))).isEmpty=r at *
  generalize ((List.range sh.length).map λ(k:Nat)=>D.int k).filter (PK sh (tv ts))=fl at *
  generalize (List.range sh.length).map (λ(k:Nat)=>D.int k)=rl at *
  generalize KI ts=td at *
  generalize Hm sh=sd at *
  unfold i9;simp -implicitDefEqProofs [ld,s,cp,q,v,m]
 rw[List.isEmpty_iff,List.filter_eq_nil_iff];constructor
 ·intro h c b f;have n:=(List.getElem?_eq_some_iff.mp f).1;have:=h (.int c) (mem_map.mpr ⟨c,mem_range.mpr n,rfl⟩);have this:¬ (match sh[((c:Int)).toNat]? with |some (some b)=>b != tv ts ((c:Int)).toNat |_=>false)=true:=this;rw[show ((c:Int)).toNat=c by simp,f] at this;revert this;cases b<;>cases tv ts c<;>decide
 intro h d hd;obtain⟨k,_,rfl⟩:=mem_map.mp hd;show ¬ (match sh[((k:Int)).toNat]? with |some (some b)=>b != tv ts ((k:Int)).toNat |_=>false)=true;rw[show ((k:Int)).toNat=k by simp];split
 ·rename_i b f;rw[h k b f];cases b<;>decide
 decide
end
theorem Bk {W:List Str}{a b:List (List Str)}(h:∀ ss,ss∈a↔ss∈b):e_ W a=e_ W b:=by refine List.filter_congr λx _=>?_;rw[Bool.eq_iff_iff,any_map,any_map,any_eq_true,any_eq_true];simp only[h]
theorem AV {W:List Str}{a b:List (List Str)}(h:∀ ss,ss∈a↔ss∈b):iE W a=iE W b:=by refine List.filter_congr λx _=>?_;rw[Bool.eq_iff_iff,all_map,all_map,all_eq_true,all_eq_true];simp only[h]
theorem DE {i:Sh}(O : 1<=i.length)(Q:i.length<=6){d:D}(n:KQ i.length 5 d){t:Tr}(v:∀ th ss,Kv th d ss->Kk t th=ss)(W:List Str)(S:G0) :
  ∃ g:List (List Str),fZ [d,Hg W,Hm i] S=G9 (.tup [Hg (e_ W g),Hg (iE W g)]) S/\∀ ss,ss∈g↔∃ ts,ji i.length ts/\L7 i (tv ts)/\ss=Kk t (tv ts):=by
 obtain⟨j,R,E,M⟩:=w5 O Q S
 obtain⟨out,w,o1,o2⟩:=tF (u:=aC 0) (gt:=ig) (fe:=iB) (k:=KI) (λs => ∃ y,s=[y,some d,some (Hm i)]) (λts=>L7 i (tv ts)) (λts x=>x=Hg (Kk t (tv ts))) S j (bP 1 [0,2] [some d,some (Hg W),some (Hm i),none,none]) ⟨none,rfl⟩ (by
  rintro ts o s ⟨y,rfl⟩;have l:=E ts o;obtain⟨b,G,P⟩:=yo l (by omega) S;obtain⟨ss,A⟩:=n.total (tv ts);have B:=t7 l S n (fuel:=15) A (by decide);rw[← v _ _ A] at B;refine⟨[some (KI ts),some d,some (Hm i)],b,rfl,⟨_,rfl⟩,?_,P,_,?_,rfl⟩
  ·generalize KI ts=td at *
   generalize Hm i=sd at *
   unfold ig;simp -implicitDefEqProofs [G]
  generalize KI ts=td at *
  generalize Hm i=sd at *
  show _=G9 (D.tup ((Kk t (tv ts)).map .str)) S;generalize D.tup ((Kk t (tv ts)).map .str)=r at *
  unfold iB
  simp -implicitDefEqProofs [B])
 obtain⟨g,I⟩:=qr out λx m=>by
  obtain⟨ts,_,_,e⟩:=o1 x m;exact⟨_,e⟩
 subst I;refine⟨g,az rfl ?_,λss=>?_⟩
 ·have z:=Ab (op:=yn) (q:=λf p=>p.any f) AB (gt:=j_) (fe:=kI) (fi:=pE) rfl rfl rfl W g S none;have C:=Ab (op:=ud) (q:=λf p=>p.all f) uc (gt:=j9) (fe:=kH) (fi:=pD) rfl rfl rfl W g S none;have N:bD (aC 0) j_ kI (W.map .str) [none,some (.lst (g.map Hg))] S=some ((e_ W g).map D.str,S):=z;have J:bD (aC 0) j9 kH (W.map .str) [none,some (.lst (g.map Hg))] S=some ((iE W g).map D.str,S):=C;clear z C;have t1:=js ((e_ W g).map .str);have t2:=js ((iE W g).map .str);have H:bX (.lst (JF j))=some (JF j):=rfl;have sw:bX (Hg W)=some (W.map .str):=rfl;have ld:dh [Hm i]=some (.int i.length):=by unfold dh;simp
  have cp:∀ (a b c x:Option D),bP 1 [3] [a,b,c,some (.lst (g.map Hg)),x]=[none,some (.lst (g.map Hg))]:=λ_ _ _ _=>rfl;have L:bD (aC 0) ig iB (JF j) [none,some d,some (Hm i)] S=some (g.map Hg,S):=w;have K:∀ (b x y:Option D),bP 1 [0,2] [some d,b,some (Hm i),x,y]=[none,some d,some (Hm i)]:=λ_ _ _=>rfl;have z2:∀ a b:D,Jc [a,b] (.tup [a,b])=some (.tup [a,b]):=λ_ _=>bu (by simp);show qE [some d,some (Hg W),some (Hm i),none,none] S=G9 (Fl.ret (.tup [.tup ((e_ W g).map .str),.tup ((iE W g).map .str)])) S;clear o1 o2 v n w;generalize (e_ W g).map D.str=l1 at *
  generalize (iE W g).map D.str=l2 at *
  generalize D.lst (JF j)=l4 at *
  generalize JF j=l5 at *
  generalize W.map D.str=l6 at *
  generalize Hg W=l7 at *
  generalize Hm i=sd at *
  generalize (g.map Hg)=l8 at *
  unfold qE;simp -implicitDefEqProofs [ld,R,H,K,L,sw,cp,N,J,t1,t2,z2]
 have:ss∈g↔Hg ss∈g.map Hg:=⟨λh=>mem_map.mpr ⟨ss,h,rfl⟩,λh=>by
  obtain⟨T,F,e⟩:=mem_map.mp h
  rw[← qt e];exact F⟩
 rw[this];constructor
 ·intro h;obtain⟨ts,o,a,e⟩:=o1 _ h;exact⟨ts,E ts o,a,qt e⟩
 rintro⟨ts,l,a,rfl⟩;obtain⟨x,m,e⟩:=o2 ts (M ts l) a;rw[← e];exact m
theorem Do {m k:Nat}{d:D}(h:KQ m k d):∀ {th:Th}{ss:List Str},Kv th d ss->MQ ss:=by
 induction h with
 | @leaf k i f b _=>intro th ss a;rw[l9 a];exact⟨f,b⟩
 | @ask k c x y _ _ _ g e =>
  intro th ss a;cases a with
  |no _ a=>exact g a
  |yes _ a=>exact e a
theorem ne2 (a b:List Str):K9 (.tup [Hg a,Hg b]) (.tup [Hg a,Hg b])=some (.bl false):=by simp[K9,toPy,cG,fK,PyData.eqv,PyData.eqvAll,PyData.depth,PyData.depthAll,nK,nI]
theorem X6:K9 (.lst []) (.lst [])=some (.bl false):=by simp[K9,toPy,cG,PyData.eqv,PyData.eqvAll,PyData.depth,PyData.depthAll]
theorem X7:Jh (.lst []) (.lst [])=some (.bl true):=by simp[Jh,toPy,cG,PyData.eqv,PyData.eqvAll,PyData.depth,PyData.depthAll]
structure Ask (W:List Str) (t:Tr) (fd kd:D) (sh:Sh) (p s:List Str):Prop where
 pos:∀ S,∃ S',bC [fd,Hm sh] S=G9 (Hg p) S'
 R7:∀ S,fm [fd,Hm sh] S=G9 (Hg s) S
 VG:∀ S,fZ [kd,Hg W,Hm sh] S=G9 (.tup [Hg p,Hg s]) S
 Rm:∀ x,x∈p↔x∈W/\∃ ss,(∃ ts,ji sh.length ts/\L7 sh (tv ts)/\ss=Kk t (tv ts))/\x∈ss
 Rn:∀ x,x∈s↔x∈W/\∀ ss,(∃ ts,ji sh.length ts/\L7 sh (tv ts)/\ss=Kk t (tv ts))->x∈ss
theorem Az {o:List Nat}{f:Sh}(F : 1<=f.length)(G:f.length<=6)(u:o.Perm (List.range f.length)){W:List Str}(y:MQ W)(E:W.length<=6){d:D}(m:KQ f.length 5 d)(kw:KW W d){t:Tr}(C:Ord o t)(w:Wr o (enc (po t [])))(ev:∀ th,Ev (enc (po t [])) th ((enc (po t [])).length-1) (Kk t th))(v:∀ th ss,Kv th d ss->Kk t th=ss) :
  ∃ p s,Ask W t (nG t) d f p s:=by
 have H:o.length=f.length:=by rw[u.length_eq,length_range]
 have sz:=Af C (by omega);have A:=BU t;have lf:∀ S,∃ g:List (List Str),bq [nG t,Hm f] S=G9 (.lst (g.map Hg)) S/\g.length<=127/\(∀ ss,ss∈g↔∃ ts,ji f.length ts/\L7 f (tv ts)/\ss=Kk t (tv ts)):=λS=>by obtain⟨g,q,l,h⟩:=BN w u A (by omega) S;refine⟨g,q,by omega,λss=>?_⟩;rw[h ss,u6 w u ss];exact⟨λ⟨ts,a,b,c⟩=>⟨ts,a,b,c.det (ev _)⟩,λ⟨ts,a,b,c⟩=>⟨ts,a,b,by rw[c];exact ev _⟩⟩
 obtain⟨g,J,I,j⟩:=lf []
 have ex:∀ k:List (List Str),(∀ ss,ss∈k↔∃ ts,ji f.length ts/\L7 f (tv ts)/\ss=Kk t (tv ts))->e_ W k=e_ W g/\iE W k=iE W g:=λk h =>
  ⟨Bk λss=>(h ss).trans (j ss).symm,AV λss=>(h ss).trans (j ss).symm⟩
 have good:∀ th,MQ (Kk t th)/\(Kk t th).length<=6/\∀ x∈Kk t th,x∈W:=λth=>by obtain⟨ss,n⟩:=m.total th;rw[v th ss n];exact⟨Do m n,Dp m n,EN kw n⟩
 refine⟨e_ W g,iE W g,⟨λS=>?_,λS=>?_,λS=>?_,λx=>?_,λx=>?_⟩⟩
 ·obtain⟨i,q,ln,h⟩:=lf (S++[.lst []]);have:=rT q (by omega) y E λss r=>by obtain⟨ts,_,_,rfl⟩:=(h ss).mp r;exact(good _).2
  rw[(ex i h).1] at this;exact⟨_,this⟩
 ·obtain⟨i,q,ln,h⟩:=lf S
  have:=AU q (λe=>by
   obtain⟨ts,a,b⟩:∃ ts,ji f.length ts/\L7 f (tv ts):=by
    refine⟨(List.range f.length).map λc=>if (f[c]?.getD none).getD false=true then 1 else 0,⟨by simp,λx B=>?_⟩,λc b z=>?_⟩
    ·obtain⟨c,_,rfl⟩:=mem_map.mp B;split
     ·exact .inr rfl
     exact .inl rfl
    unfold tv;rw[List.getD,getElem?_map,getElem?_range (List.getElem?_eq_some_iff.mp z).1];cases b<;>simp[z]
   have:=(h (Kk t (tv ts))).mpr ⟨ts,a,b,rfl⟩;rw[e] at this
   cases this) y λss r=>by
   obtain⟨ts,_,_,rfl⟩:=(h ss).mp r;exact⟨(good _).1,(good _).2.2⟩
  rw[(ex i h).2] at this;exact this
 ·obtain⟨i,q,h⟩:=DE F G m v W S;rw[(ex i h).1,(ex i h).2] at q;exact q
 ·rw[v9];simp only[j]
 rw[pZ];simp only[j]
theorem sJ {W:List Str}{t:Tr}{fd kd:D}{c mo:Sh}{p s f s':List Str}(a:Ask W t fd kd c p s)(b:Ask W t fd kd mo f s')(o:∀ x∈f,x∈p)(r:∀ x∈s,x∈s')(sc k n i:D)(S:G0)(v:GU Fl)
  (M:v=(aO (KZ (a9 (aG K9 (gu (af (aN bC (af (ah 5) (af (ah 6) ar))) (af (aN fm (af (ah 5) (af (ah 6) ar))) ar))) (aN fZ (af (ah 3) (af (ah 2) (af (ah 6) ar)))))) (bh (aE (.bl false))) dw)
  (aO (KZ (a9 (aG K9 (gu (af (aN bC (af (ah 5) (af (ah 8) ar))) (af (aN fm (af (ah 5) (af (ah 8) ar))) ar))) (aN fZ (af (ah 3) (af (ah 2) (af (ah 8) ar)))))) (bh (aE (.bl false))) dw)
  (aO (KZ (a9 (aG K9 (bA 1 [5,6] (aW (aN bC (af (ah 5) (af (ah 8) ar)))) (aC 0) lU qI) (n_ ar))) (bh (aE (.bl false))) dw)
  (bh (aG Jh (bA 1 [5,8] (aW (aN fm (af (ah 5) (af (ah 6) ar)))) (aC 0) lT qH) (n_ ar))))))) :
  ∃ g,v [some sc,some k,some (Hg W),some kd,some n,some fd,some (Hm c),some i,some (Hm mo)] S=G9 (.ret (.bl true)) g:=by
 subst M;obtain⟨m,J⟩:=a.pos S;have U:=a.R7 m;have X:=a.VG m;obtain⟨l,T⟩:=b.pos m;have R:=b.R7 l;have z:=b.VG l;obtain⟨G,V⟩:=b.pos l
 obtain⟨w,F⟩:=jd (u:=aC 0) (gt:=lU) (fe:=qI) (λh => ∃ y,h=[y,some fd,some (Hm c)]) (f.map .str) [none,some fd,some (Hm c)] G ⟨none,rfl⟩ (by
  rintro d hd h S ⟨y,rfl⟩;obtain⟨x,j,rfl⟩:=mem_map.mp hd;obtain⟨g,q⟩:=a.pos S;have e:LY true (.str x) (Hg p) g=_:=ny true x p g;rw[decide_eq_true (o x j)] at e;have e:LY true (.str x) (Hg p) g=some (.bl false):=e;refine⟨[some (.str x),some fd,some (Hm c)],g,rfl,⟨_,rfl⟩,?_⟩;generalize Hg p=pd at *
  generalize Hm c=sd at *
  unfold lU
  simp -implicitDefEqProofs [q,e])
 have E:=a.R7 w
 obtain⟨H,B⟩:=jd (u:=aC 0) (gt:=lT) (fe:=qH) (λh => ∃ y,h=[y,some fd,some (Hm mo)]) (s.map .str) [none,some fd,some (Hm mo)] w ⟨none,rfl⟩ (by
  rintro d hd h S ⟨y,rfl⟩;obtain⟨x,j,rfl⟩:=mem_map.mp hd;have q:=b.R7 S;have e:LY true (.str x) (Hg s') S=_:=ny true x s' S;rw[decide_eq_true (r x j)] at e;have e:LY true (.str x) (Hg s') S=some (.bl false):=e;refine⟨[some (.str x),some fd,some (Hm mo)],S,rfl,⟨_,rfl⟩,?_⟩;generalize Hg s'=pd at *
  generalize Hm mo=sd at *
  unfold lT
  simp -implicitDefEqProofs [q,e])
 have z2:∀ a b:D,Jc [a,b] (.tup [a,b])=some (.tup [a,b]):=λ_ _=>bu (by simp);have C:=ne2 p s;have K:=ne2 f s';have A:bX (Hg f)=some (f.map .str):=rfl;have P:bX (Hg s)=some (s.map .str):=rfl;have N:=X6;have I:=X7;have Q:Jc [] (.lst [])=some (.lst []):=rfl;have L:bP 1 [5,6] [some sc,some k,some (Hg W),some kd,some n,some fd,some (Hm c),some i,some (Hm mo)]=[none,some fd,some (Hm c)]:=rfl;have O:bP 1 [5,8] [some sc,some k,some (Hg W),some kd,some n,some fd,some (Hm c),some i,some (Hm mo)]=[none,some fd,some (Hm mo)]:=rfl;refine⟨H,?_⟩;clear a b o r;generalize Hg p=x1 at *
 generalize Hg s=x2 at *
 generalize Hg f=x3 at *
 generalize Hg s'=x4 at *
 generalize Hg W=x5 at *
 generalize Hm c=x6 at *
 generalize Hm mo=x7 at *
 generalize f.map D.str=x8 at *
 generalize s.map D.str=x9 at *
 simp -implicitDefEqProofs [J,U,X,T,R,z,V,F,E,B,z2,C,K,A,P,N,I,Q,L,O,Me]
theorem Dn (ns:List Int)(_:ns.length<=63):∃ A,AF [.lst (ns.map .int)] []=some (.ok (.bl true),A):=by
 obtain⟨m,g,j,d,o,F,hm,Y,hw,W,U,kw,B,l⟩:=BK ns 6 (by decide) (by decide) [];rw[nil_append] at l;have l:jY [.lst (ns.map .int),.int 6] []=G9 (.tup [.int m,Hg g,d,oD o]) [.dict j]:=l;have V:∀ S,aR [.lst (ns.map .int),.int 5] S=G9 (.int (mix ns 5)) S:=d9 ns 5;have R:∀ S,aR [.lst (ns.map .int),.int 6] S=G9 (.int (mix ns 6)) S:=d9 ns 6;have O:bS (.int (mix ns 6)) (.int m)=some (.int (mix ns 6 % m)):=a7 (by omega);have i6:=m9 (mix ns 6) (show (0:Int)<m by omega);obtain⟨c,J⟩:∃ c:Nat,mix ns 6 % m=c:=⟨(mix ns 6 % m).toNat,by omega⟩;rw[J] at O;have nd:o.Nodup:=B.nodup_iff.mpr List.nodup_range;have N5:o.length=m:=by rw[B.length_eq,length_range]
 have ho:∀ c,c<m->c∈o:=λc J=>B.mem_iff.mpr (mem_range.mpr J);obtain⟨t,k,H,ot,_,w,ev,P,ln,_⟩:=xZ nd (by omega) ho (by decide) U [.dict j];have H:j0 [d,oD o] [.dict j]=G9 (nG t) k:=H;obtain⟨f,es,n⟩:=yH (mix ns 5) (m:=m) (by omega) k;have hW:MQ g:=⟨hw,dL W⟩;have ask:∀ L:Sh,L.length=m->∃ p s,Ask g t (nG t) d L p s:=λL C=>Az (by omega) (by omega) (by rw[C];exact B) hW Y (by rw[C];exact U) kw ot w ev P;have Q:lM 4 (bg (aC 1) (bg (aC 2) (bg (aC 3) (bg (aC 4) gF)))) (.tup [.int m,Hg g,d,oD o]) [some (.lst (ns.map .int)),none,none,none,none,none,none,none,none]=some [some (.lst (ns.map .int)),some (.int m),some (Hg g),some d,some (oD o),none,none,none,none]:=rfl;have X9:c<f.length:=by omega
 have N:f[c]?=some f[c]:=List.getElem?_eq_getElem X9;have sc:=yI N k;have Z:cT (.int (mix ns 6)) (.int 10)=some (.int (mix ns 6 / 10)):=fH (by decide) (by decide);have d2:bS (.int (mix ns 6 / 10)) (.int 2)=some (.int (mix ns 6 / 10 % 2)):=a7 (by decide);obtain⟨p,s,a⟩:=ask f n
 have mono:∀ {E:Sh}{I G:List Str},Ask g t (nG t) d E I G->E.length=m->(∀ th,L7 E th->L7 f th)->(∀ x∈I,x∈p)/\∀ x∈s,x∈G:=λ{E I G} b T h=>by
  refine⟨λx i=>?_,λx i=>?_⟩
  ·obtain⟨F,r,⟨ts,v,y,M⟩,k4⟩:=(b.Rm x).mp i;exact(a.Rm x).mpr ⟨F,r,⟨ts,by rw[n,← T];exact v,h _ y,M⟩,k4⟩
  obtain⟨F,C⟩:=(a.Rn x).mp i;exact(b.Rn x).mpr ⟨F,λr ⟨ts,v,y,M⟩=>C r ⟨ts,by rw[n,← T];exact v,h _ y,M⟩⟩
 have X:NI .Ho .Ho=some (.bl true):=rfl;have i2:∀ z:Int,NI (.int z) .Ho=some (.bl false):=λ_=>rfl;cases hv:f[c] with
 |some b =>
  rw[hv] at sc;obtain⟨A,q⟩:=sJ a a (λx h=>h) (λx h=>h) (.lst (ns.map .int)) (.int m) (oD o) (.int c) k _ rfl;refine⟨A,az rfl ?_⟩;have sc:HL (Hm f) (.int c) k=some (.int (if b=true then 1 else 0)):=sc;unfold z9;generalize (aO (KZ (a9 (aG K9 _ _)) _ _) _:GU Fl)=kk at q ⊢;clear ev P w a ask mono;generalize nG t=y1 at *
  generalize Hm f=y3 at *
  generalize Hg g=wd at *
  generalize oD o=od at *
  generalize (D.lst (ns.map .int))=sd at *
  generalize (if b=true then (1:Int) else 0)=bi at *
  simp -implicitDefEqProofs [l,Q,H,V,es,R,O,sc,i2,q]
 |none =>
  rw[hv] at sc N
  obtain⟨b,hb⟩:∃ b:Bool,mix ns 6 / 10 % 2=if b=true then 1 else 0:=by
   have:mix ns 6 / 10 % 2=0∨mix ns 6 / 10 % 2=1:=by omega
   rcases this with h |h
   ·exact⟨false,h⟩
   exact⟨true,h⟩
  obtain⟨I,G,K⟩:=ask (f.set c (some b)) (by rw[length_set];exact n)
  obtain⟨v,y⟩:=mono K (by rw[length_set];exact n) λth h x u i=>h x u (by
   rw[getElem?_set_ne (λe=>by subst e;rw[N] at i;cases i)];exact i)
  obtain⟨A,q⟩:=sJ a K v y (.lst (ns.map .int)) (.int m) (oD o) (.int c) k _ rfl;have sc:HL (Hm f) (.int c) k=some .Ho:=sc;have c1:MF (Hm f) none (some (c:Int))=some (.tup ((f.take c).map Je)):=by show some (D.tup (ff (f.map Je) none (some (c:Int))))=_;rw[Aj,map_take]
  have c2:MF (Hm f) (some ((c:Int)+1)) none=some (.tup ((f.drop (c+1)).map Je)):=by show some (D.tup (ff (f.map Je) (some (((c+1:Nat)):Int)) none))=_;rw[Ak,map_drop]
  have z1:Jc [.int (mix ns 6 / 10 % 2)] (.tup [.int (mix ns 6 / 10 % 2)])=some (.tup [.int (mix ns 6 / 10 % 2)]):=bu (by simp);have a1:bE (.tup ((f.take c).map Je)) (.tup [.int (mix ns 6 / 10 % 2)])=some (.tup ((f.take c).map Je++[.int (mix ns 6 / 10 % 2)])):=by rw[kP,if_pos (Nat.le_trans (show _<=1000 by simp;omega) (by decide))]
  have a2:bE (.tup ((f.take c).map Je++[.int (mix ns 6 / 10 % 2)])) (.tup ((f.drop (c+1)).map Je))=some (Hm (f.set c (some b))):=by rw[kP,if_pos (Nat.le_trans (show _<=1000 by simp;omega) (by decide)),List.set_eq_take_append_cons_drop,if_pos (by omega),hb];simp[Hm,Je]
  have ad:bE (.int c) (.int 1)=some (.int ((c:Int)+1)):=rfl;refine⟨A,az rfl ?_⟩;unfold z9;generalize (aO (KZ (a9 (aG K9 _ _)) _ _) _:GU Fl)=kk at q ⊢;clear ev P w a ask mono K;generalize Hm (f.set c (some b))=y2 at *
  generalize nG t=y1 at *
  generalize Hm f=y3 at *
  generalize (f.take c).map Je=y4 at *
  generalize (f.drop (c+1)).map Je=y5 at *
  generalize Hg g=wd at *
  generalize oD o=od at *
  generalize (D.lst (ns.map .int))=sd at *
  simp -implicitDefEqProofs [l,Q,H,V,es,R,O,sc,X,c1,c2,Z,d2,z1,a1,a2,ad,xU,q]
end Hf
namespace Hf
open PySem L2
theorem Ya {K:GV}{c f:Str}{C:Addr}(n:NC K c C)(g:PySem.W.findIn K (.ref C) f=some none):lI K c f:=⟨C,n.1,n.2,g⟩
theorem all_mk {l:PySem.W.OpenLaw}{w:World}{K:GV}{h:Heap}{mg:GY}{a:Addr}(c:mg "law"=some (.ref a))(T:Top K mg) :
  ∃ fd:FuncData,(∀ (s:Shared) (v:Value),BindsTo s fd ⟨[v],[]⟩ [("_law_script",v)])/\∀ base:Heap,K.In base->base.Ns mainGlobals mg->IE l.prog w K mg base LR 38 a fd ["_law_script"] (vV K 63):=by
 obtain⟨f,fd,b,g,q⟩:=T.Q_;have e:=c.symm.trans g;cases e;have ok:∀ base:Heap,Nl l.prog w K mg base 38 a fd ["_law_script"] AF:=λbase=>DA T b;obtain⟨i,r,kV,doc,k,j,o,ct,p,rfl,m,n⟩:=b.ex;exact⟨_,λs v => .of_eq rfl,λbase _ _=>Dm (ok base) (by decide) λns d=>Dn ns d⟩
end Hf
open PySem PySem.W PyProof.Rows
namespace PySem.W.Fast
def tw138697680225592005:=0
def tw15473924122475850547:=0
def tw4632297516685126632:=0
def tw9504728404015697319:=0
def tw13717782981880718730:=0
def tw6032395830417356255:=0
def tw13011257168186941194:=0
def tw3657040816655850317:=0
def tw1570340013290550392:=0
def tw7675405534297943720:=0
def tw542235323011432982:=0
def tw4319766894373329287:=0
def tw8730363088023641858:=0
def tw3464661269908120534:=0
def tw5984315247094395673:=0
def tw2057518279376480370:=0
def tw5026279533747169302:=0
def tw6991255858493465033:=0
def tw2752493322870740491:=0
def tw6736794194819678836:=0
def tw11256711314981800227:=0
def tw5598367746878795244:=0
def tw5184655832916651855:=0
def tw8532707995226720704:=0
def tw10175296201379790800:=0
def tw13127987028848093420:=0
def tw4505777324028130878:=0
def tw2430329850364090582:=0
def tw18178561165913225258:=0
def tw13548470336103549689:=0
def tw11208986105346524866:=0
def tw9864604862727908324:=0
def tw465777638913947524:=0
def tw6696945578705710645:=0
def tw17936694743202937834:=0
def tw17431929916200504355:=0
def tw8638218521496122295:=0
def tw6812972595270190576:=0
def tw7287619411602024898:=0
def tw15722267853689558887:=0
def tw6270270888707602778:=0
def tw1214848224729948797:=0
def tw4436650682770540723:=0
def tw2263276129825245222:=0
def tw17134116137993497192:=0
def tw17866062197809228001:=0
def tw6030370512283872894:=0
def tw17185532063425415379:=0
def tw5172506843312993521:=0
def tw5711178697245431354:=0
def tw13894296869812783507:=0
def tw8465298956647260450:=0
def tw3063736180490139273:=0
def tw10223091723770521815:=0
def tw7083596987859913017:=0
def tw16408343325601685431:=0
def tw1923869608366251585:=0
def tw7481766966073100847:=0
def tw376359335590251840:=0
def tw1969895440312115725:=0
def tw2684920650673187781:=0
def tw4497973942529884907:=0
def tw5713406268583624211:=0
def tw11227571709593466935:=0
def tw10985229596361013547:=0
def tw5514994536901724164:=0
def tw14754153940142017833:=0
def tw10181804130935574124:=0
def tw2147658857073573295:=0
def tw15160361471134317280:=0
def tw16511161544699536327:=0
def tw5122911098148971914:=0
def tw18040658571431881982:=0
def tw12366985176731634961:=0
def tw12907385429736929590:=0
def tw3322195540784599941:=0
def tw3524352909174039775:=0
def tw16036413375422678716:=0
def tw18083826305713893607:=0
def tw11262809945756715019:=0
def tw9183162341632285064:=0
def tw3484436559478496099:=0
def tw17927559793922772994:=0
def tw8807358716385174323:=0
def tw2585920098777811537:=0
def tw13750061944749781339:=0
def tw3906657923928588067:=0
def tw18349442147295250656:=0
def tw1049466345469157850:=0
def tw15606982460182084928:=0
def tw17195893585341697747:=0
def tw9516907684573939964:=0
def tw2869534463594613072:=0
def tw8428917011215475661:=0
def tw11273813400056804513:=0
def tw18310199399499344386:=0
def tw1073427816262625570:=0
def tw1454775055539594090:=0
def tw9298932692374191296:=0
def tw5985022064685809821:=0
def tw9569813583816897045:=0
def tw5071101814412412094:=0
def tw7549321009942505334:=0
def tw7377662520077345023:=0
def tw14674176930599979809:=0
def tw16668397852005325104:=0
def tw16668521017049968215:=0
def tw1335117066637948122:=0
def tw8383129658383587800:=0
def tw6557928403961431389:=0
def tw7904406237121049147:=0
def tw13880631206464129087:=0
def tw13111788409624650631:=0
def tw3247045856899126932:=0
def tw4936168529553002016:=0
def tw5796466754764071085:=0
def tw2602219024278380193:=0
def tw14408165566906321671:=0
def tw10370516443788559675:=0
def tw15158375132634589733:=0
def tw862951419862296809:=0
def tw10079871180386929137:=0
def tw3247740872780144502:=0
def tw16207533626932432683:=0
def tw8589644494008687404:=0
def tw11277893880032720136:=0
def tw4165496266266508116:=0
def tw9040900213589971488:=0
def tw12727498321982771851:=0
def tw2686121401839766562:=0
def tw17066147027619890273:=0
def tw15003405267390418392:=0
def tw14063765980480698831:=0
def tw7031224073721218162:=0
def tw909998026148309844:=0
def tw14304489908504125521:=0
def tw9700573179165639418:=0
def tw8846514093060904994:=0
def tw10277937459867782627:=0
def tw12642012910738080186:=0
def tw13045902008004896775:=0
def tw7947098908866196287:=0
def tw17769263755382926277:=0
def tw4071118726336582983:=0
def tw15275648771893572146:=0
def tw4965090742708119234:=0
def tw14456056508797883490:=0
def tw10593493746832331096:=0
def tw9488442054978747496:=0
def tw6294701423390270327:=0
def tw11347349938281643646:=0
def tw18368224962742721789:=0
def tw9033378546027211059:=0
def tw15014348517151817029:=0
def tw13807413328629894390:=0
def tw7389461612426855731:=0
def tw15495493460012844326:=0
def tw13599458637216789973:=0
end PySem.W.Fast
set_option maxRecDepth 100000 in
set_option maxHeartbeats 0 in
theorem PySem.Challenge.cw_keyfold_k30_whole_possible_and_sure_holds : PySem.Challenge.rw_keyfold_k30_whole_possible_and_sure.Holds := by
 w_on;o_law;k_head;(case hw=>w_witness2)
 k_fill
 refine L2.M0 (l:=PySem.Challenge.rw_keyfold_k30_whole_possible_and_sure) (k:=38) (x:="_law_script") rfl rfl ⟨rfl,by decide,by decide,rfl⟩ (λw h Y=>PySem.W.kIn_of Y) ?F
 case F =>
  intro w mg fa h KX G Qb;refine' Hf.all_mk (h:=h) Qb ?T;constructor
  all_goals first
   |exact PySem.W.mg_none_of KX G (by k_is)
   |(refine' L2.WK KX G ?a (L2.fE ?l ?c ?k) ?b;(case a=>k_is);(case l=>k_is);(case c=>k_is);(case k=>k_is);(case b=>first |exact L2.TC λ_ _ _ _ _ _ _=>rfl |exact L2.TF λ_ _ _ _ _ _ _ _=>rfl |exact L2.TH λ_ _ _ _ _ _ _ _ _=>rfl |exact L2.TJ λ_ _ _ _ _ _ _ _ _ _=>rfl))
   |(refine' L2.WL ⟨?n,⟨?k0,?k1,?k2,?k3⟩⟩ ?a ?i (L2.fE ?l ?c ?k) ?b;(case n=>k_is);(case k0=>k_is);(case k1=>k_is);(case k2=>k_is);(case k3=>k_is);(case a=>k_is);(case i=>k_is);(case l=>k_is);(case c=>k_is);(case k=>k_is);(case b=>first |exact L2.TC λ_ _ _ _ _ _ _=>rfl |exact L2.TF λ_ _ _ _ _ _ _ _=>rfl |exact L2.TH λ_ _ _ _ _ _ _ _ _=>rfl |exact L2.TJ λ_ _ _ _ _ _ _ _ _ _=>rfl))
   |(refine' L2.WM KX G ⟨?n,⟨?k0,?k1,?k2,?k3⟩⟩ ?k4 ?k5 ?a ?i (L2.fE ?l ?c ?k) ?b;(case n=>k_is);(case k0=>k_is);(case k1=>k_is);(case k2=>k_is);(case k3=>k_is);(case k4=>k_is);(case k5=>k_is);(case a=>k_is);(case i=>k_is);(case l=>k_is);(case c=>k_is);(case k=>k_is);(case b=>first |exact L2.TC λ_ _ _ _ _ _ _=>rfl |exact L2.TF λ_ _ _ _ _ _ _ _=>rfl |exact L2.TH λ_ _ _ _ _ _ _ _ _=>rfl |exact L2.TJ λ_ _ _ _ _ _ _ _ _ _=>rfl))
   |(refine' Hf.Ya ⟨?n,⟨?k0,?k1,?k2,?k3⟩⟩ ?g;(case n=>k_is);(case k0=>k_is);(case k1=>k_is);(case k2=>k_is);(case k3=>k_is);(case g=>k_is))
