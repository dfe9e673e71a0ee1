import PyProof.Rows.All
import Wide.All
import OpenK.AllK
import Wide.FinOn
import Lean
import PyProof.EqAt
import PyProof.EqKinds
import PyProof.TupleCall
import PyProof.SetRoads
import PyProof.SetNew
import PyProof.CollectIter
import PyProof.DictWalks
import PyProof.Walks
import PyProof.RulesTry
import PyProof.FactsAll.set
import PyProof.WalksMore
import PyProof.FactsAll.subtypes
import PyProof.ExcAttrAll.ValueError
import PyProof.Rows.StrJoin2
import PyProof.Rows.FStr
import PyProof.ExcBaseAll.ValueError
import PyProof.StrCalls2
import PyProof.StrBlockH
import PyProof.MeetsStr2
import PyProof.Rows.SeqMore2
import KE.KDictList
import PyProof.ZipIter
import PyProof.Draws
import PyProof.DictTruth
import PyProof.Rows.SortShellK
import PyProof.Rows.SortWalk
import PySem.Challenge.RW_keyfold_k20_joined_common_less
open List(all_cons all_eq_true any_cons any_map append_nil cons_append drop_eq_nil_of_le drop_zero ext_getElem? filter_map filter_sublist find?_cons flatten_cons foldl_cons forIn_cons forIn_nil getElem?_append_left getElem?_append_right getElem?_cons_succ getElem?_drop getElem?_map getElem?_of_mem getElem?_set_ne getElem?_set_self getElem?_take getElem_idxOf getElem_mem getElem_of_mem idxOf_append idxOf_cons idxOf_lt_length_iff length_cons length_drop length_eq_zero_iff length_map length_nil length_range length_set length_singleton length_take lookup_cons mapM_cons map_append map_congr_left map_cons map_drop map_id map_map map_nil map_take mem_append mem_append_left mem_append_right mem_cons mem_cons_of_mem mem_cons_self mem_filter mem_map mem_of_getElem? mem_of_mem_drop mem_of_mem_take mem_range mem_singleton mergeSort_perm nil_append nodup_append nodup_cons nodup_nil not_mem_nil of_mem_zip pairwise_append pairwise_cons pairwise_iff_getElem pairwise_map pairwise_mergeSort prefix_refl range' range'_succ replicate replicate_succ size_toArray take_append_drop take_of_length_le zipIdx_cons)
open Nat(add_assoc le_of_lt le_refl le_succ lt_of_lt_of_le lt_or_ge lt_succ_of_lt lt_succ_self mul_comm ne_of_gt ne_of_lt one_le_two_pow pow_succ zero_add zero_le)
open Option(bind_eq_some_iff bind_some getD_none getD_some isSome_map map_eq_some_iff map_some pure_def)
open Bool(and_eq_true false_eq_true or_eq_false_iff or_eq_true)
open Array(getElem?_toList getElem_mem_toList getElem_toList length_toList perm_iff_toList_perm toList_append toList_extract toList_push)
local macro_rules|`(tactic|decide)=>`(tactic|decide +kernel)
set_option Elab.async false
set_option linter.all false
set_option maxRecDepth 100000
set_option maxHeartbeats 4000000
noncomputable section
abbrev H_:=PySem.W.Frag
abbrev Ia:=PySem.Value->PySem.Shared->Prop
abbrev Ib:=List (PySem.Addr×PySem.Obj)
abbrev Ic:=PySem.Str->Option PySem.Value
namespace L2
open PySem PySem.Spec PyProof.Rows
noncomputable instance VR:DecidableEq PyData:=λa b=>Classical.propDecidable (a=b)
def keyOk:Nat->PyData->Bool
 |_,.int _=>true
 |_,.str x=>PyData.strOk x
 |n+1,.tuple xs=>xs.all (keyOk n)
 |_,_=>false
def Pd (w:World):Nat->PyData->Int
 |_,.int i=>hashInt i
 |_,.str x=>hashStr w x
 |n+1,.tuple xs=>reduceHash (Builtin.Tuple.tupleHashOf (xs.map (Pd w n)))
 |_,_ => 0
def yE:Nat->PyData->Nat
 |n+1,.tuple xs=>(xs.map (yE n)).sum+1
 |_,_ => 1
theorem cE {n:Nat}{xs:List PyData}(h:keyOk (n+1) (.tuple xs)=true):∀ x∈xs,keyOk n x=true:=by rw[keyOk,all_eq_true] at h;exact h
theorem lZ:∀ {n:Nat}{p:PyData},keyOk n p=true->p.canLay0=true:=by
 intro n
 induction n with
 |zero =>
  intro p h;cases p with
  |int i=>rfl
  |str x=>rw[PyData.canLay0];simpa [keyOk] using h
  |_=>simp[keyOk] at h
 |succ n b =>
  intro p h;cases p with
  |int i=>rfl
  |str x=>rw[PyData.canLay0];simpa [keyOk] using h
  |tuple a =>
   rw[PyData.canLay0];have:=cE h;clear h
   induction a with
   |nil=>rfl
   |cons x a d=>rw[PyData.canLayAll0,b (this x (by simp)),d λy c=>this y (by simp[c])];rfl
  |_=>simp[keyOk] at h
theorem uS:∀ {n:Nat}{p:PyData},keyOk n p=true->p.depth<=n:=by
 intro n
 induction n with
 |zero =>
  intro p h;cases p<;>first |(simp[keyOk] at h;done) |simp[PyData.depth]
 |succ n b =>
  intro p h;cases p with
  |tuple a =>
   rw[PyData.depth];have:=cE h;clear h;refine Nat.succ_le_succ ?_
   induction a with
   |nil=>rw[PyData.depthAll];omega
   |cons x a d=>rw[PyData.depthAll];exact Nat.max_le.mpr ⟨b (this x (by simp)),d λy c=>this y (by simp[c])⟩
  |int i=>simp[PyData.depth]
  |str i=>simp[PyData.depth]
  |_=>simp[keyOk] at h
theorem qB:∀ {n:Nat}{p q:PyData},keyOk n p=true->keyOk n q=true->PyData.eqv p q=decide (p=q):=by
 have str:∀ x y:Str,PyData.eqv (.str x) (.str y)=decide (PyData.str x = .str y):=λx y=>by
  rw[PyData.eqv];by_cases e:x=y
  ·subst e;simp
  rw[beq_eq_false_iff_ne.mpr e,decide_eq_false (λz=>e (PyData.str.inj z))]
 have int:∀ x y:Int,PyData.eqv (.int x) (.int y)=decide (PyData.int x = .int y):=λx y=>by
  rw[PyData.eqv];by_cases e:x=y
  ·subst e;simp
  rw[beq_eq_false_iff_ne.mpr e,decide_eq_false (λz=>e (PyData.int.inj z))]
 have b:∀ p q:PyData,p≠q->false=decide (p=q):=λp q h=>(decide_eq_false h).symm;intro n
 induction n with
 |zero =>
  intro p q f c;cases p<;>first |(simp[keyOk] at f;done) |skip<;>cases q<;>first |(simp[keyOk] at c;done) |exact int _ _ |exact str _ _ |exact b _ _ (λz=>nomatch z)
 |succ n o =>
  intro p q f c;cases p with
  |tuple d =>
   cases q with
   |tuple a =>
    rw[PyData.eqv];have m:=cE f;have l:=cE c;clear f c
    have g:PyData.eqvAll d a=decide (d=a):=by
     induction d generalizing a with
     |nil=>cases a<;>simp[PyData.eqvAll]
     |cons x d r =>
      cases a with
      |nil=>simp[PyData.eqvAll]
      |cons y a =>
       rw[PyData.eqvAll,o (m x (by simp)) (l y (by simp)),r a (λz k=>m z (by simp[k])) (λz k=>l z (by simp[k]))];by_cases e:x=y
       ·subst e;simp
       simp[e]
    rw[g];by_cases e:d=a
    ·subst e;simp
    rw[decide_eq_false e,decide_eq_false (λz=>e (PyData.tuple.inj z))]
   |int i=>rw[PyData.eqv];exact b _ _ (λz=>nomatch z)
   |str i=>rw[PyData.eqv];exact b _ _ (λz=>nomatch z)
   |_=>simp[keyOk] at c
  |int i =>
   cases q with
   |int j=>exact int _ _
   |str j=>rw[PyData.eqv];exact b _ _ (λz=>nomatch z)
   |tuple j=>rw[PyData.eqv];exact b _ _ (λz=>nomatch z)
   |_=>simp[keyOk] at c
  |str i =>
   cases q with
   |int j=>rw[PyData.eqv];exact b _ _ (λz=>nomatch z)
   |str j=>exact str _ _
   |tuple j=>rw[PyData.eqv];exact b _ _ (λz=>nomatch z)
   |_=>simp[keyOk] at c
  |_=>simp[keyOk] at f
theorem uk {h h':Heap}{d:Addr}{o:Obj}{es ep}(u:h.get? d=some o)(hd:o.data = .dict es ep)(B:Heap.SameBut d h h'):∀ {n:Nat}{p:PyData}{v:Value}{as:List Addr},keyOk n p=true->Reads h v p as->Reads h' v p as:=by
 intro n
 induction n with
 |zero =>
  intro p v as b r;cases r with
  |int i t=>exact .int i t
  |str x t=>exact .str x t
  |_=>simp[keyOk] at b
 |succ n z =>
  intro p v as b r;cases r with
  |int i t=>exact .int i t
  |str x t=>exact .str x t
  | @tuple a D q m g as e j c f =>
   have k:a≠d:=by rintro rfl;rw[u] at e;cases e;rw[hd] at c;exact nomatch c
   refine .tuple ((B.2 a k).trans e) j c ?_;have it:=cE b;clear b e j c;generalize q.toList=l at f
   induction g generalizing l as with
   |nil=>cases f;exact .nil
   |cons x g C =>
    cases f with
    |cons s w=>exact .cons (z (it x (by simp)) s) (C (λy A=>it y (by simp[A])) _ w)
  |_=>simp[keyOk] at b
section
variable {prog:Program}{w:World}{A:Around}{E:Ia}{s:Shared}
theorem wO:∀ {n:Nat}{p:PyData}{A:Around}{s:Shared}{v:Value}{as:List Addr}{Q:Int->Shared->Prop},keyOk n p=true->A.units+n<cLine->Reads s.heap v p as->Q (Pd w n p) { s with toks:=s.toks+yE n p } ->
  wpAny (model prog w) A (pyHash v) Q E s:=by
 intro n
 induction n with
 |zero =>
  intro p A s v as Q d G r h;cases r with
  |int i t=>exact wpAny_pyHash_int h
  |str x t=>exact wpAny_pyHash_str h
  |_=>simp[keyOk] at d
 |succ n D =>
  intro p A s v as Q d G r h;cases r with
  |int i t=>exact wpAny_pyHash_int h
  |str x t=>exact wpAny_pyHash_str h
  | @tuple a o items m l as u H hd C =>
   have f:s.TypeIs (.ref a) "tuple":=⟨o,u,H⟩;have it:=cE d;unfold pyHash
   first |unfold pyHashByItsType |skip
   first |refine wpAny_bind (wpAny_cRoomFor_or (.inr (by omega)) ?_) |skip
   refine wpAny_bind (wpAny_specialOf f F.slot_tuple_hash.lookup ?_);show wpAny _ _ (if (some (Value.builtin "tuple.__hash__")==some Value.none)=true then _ else _) Q E s;rw[if_neg (by rw[beq_builtin_none];exact Bool.false_ne_true)];refine wpAny_bind (wpAny_specialOf f F.slot_tuple_hash.lookup ?_);show wpAny _ _ (callSpecialIfBoundUnlessNone? (.ref a) "__hash__" _ >>= _) Q E s;refine wpAny_bind (wpAny_callSpecialIfBoundUnlessNone?_slot f F.slot_tuple_hash (wpAny_call_entry F.slot_tuple_hash f F.entry_tuple_hash ?_ (F.args_tuple_hash_1 _)));show wpAny _ _ (Builtin.Tuple.tupleItemsOf (.ref a) >>= _) _ _ s;refine wpAny_bind (wpAny_tupleItemsOf u hd ?_);refine wpAny_bind ?_;rw[← Array.forIn_toList]
   refine wpAny_forIn_list _
    (λrest (b:Array Int) j => ∃ done left bs,l=done++left/\ReadsAll s.heap rest left bs/\b.toList=done.map (Pd w n)/\j={ s with toks:=s.toks+(done.map (yE n)).sum })
    _ ?_ ?_ _ _ ⟨[],l,as,rfl,C,rfl,rfl⟩
   ·rintro x rest b j ⟨done,left,bs,rfl,g,e,rfl⟩;cases g with
    | @cons _ _ k q I z B y =>
     refine wpAny_bind (D (A:=A.in1) (it k (by simp)) (by show A.units+1+n<cLine;omega) (s:={ s with toks:=s.toks+(done.map (yE n)).sum }) B ?_)
     first
      |exact wpAny_pure ⟨done++[k],q,z,by simp,y,by simp[e],by simp[add_assoc]⟩
      |exact wpAny_bind (wpAny_pure (wpAny_pure ⟨done++[k],q,z,by simp,y,by simp[e],by simp[add_assoc]⟩))
   rintro b j ⟨done,left,bs,rfl,g,e,rfl⟩;cases g;rw[append_nil] at h;show wpAny _ _ (retInt (Builtin.Tuple.tupleHashOf b.toList)) _ _ _;rw[e];refine wpAny_ret_mkInt ?_;show wpAny _ _ (if (decide (-(2:Int) ^ 63<=Builtin.Tuple.tupleHashOf (done.map (Pd w n)))&&decide (Builtin.Tuple.tupleHashOf (done.map (Pd w n))<2 ^ 63))=true then _ else _) Q E _;rw[Pd,yE] at h;unfold reduceHash at h;by_cases c:(decide (-(2:Int) ^ 63<=Builtin.Tuple.tupleHashOf (done.map (Pd w n)))&&decide (Builtin.Tuple.tupleHashOf (done.map (Pd w n))<2 ^ 63))=true
   ·rw[if_pos c];rw[if_pos c] at h;exact wpAny_pure (by simpa [add_assoc] using h)
   rw[if_neg c];rw[if_neg c] at h;exact wpAny_bind (wpAny_rule (wpAny_pure (by simpa [add_assoc] using h)))
  |_=>simp[keyOk] at d
theorem ul:∀ {n:Nat}{p:PyData}{s:Shared}{v:Value}{as:List Addr}{Q:Bool->Shared->Prop},keyOk n p=true->Reads s.heap v p as->Q true s->wpAny (model prog w) A (eqIsQuiet n v) Q E s:=by
 intro n
 induction n with
 |zero =>
  intro p s v as Q b r h;cases r with
  |int i t=>unfold eqIsQuiet;exact wpAny_pure h
  |str x t=>unfold eqIsQuiet;exact wpAny_pure h
  |_=>simp[keyOk] at b
 |succ n D =>
  intro p s v as Q b r h;cases r with
  |int i t=>unfold eqIsQuiet;exact wpAny_pure h
  |str x t=>unfold eqIsQuiet;exact wpAny_pure h
  | @tuple a o items m j as e H hd C =>
   have g:s.TypeIs (.ref a) "tuple":=⟨o,e,H⟩;have it:=cE b;unfold eqIsQuiet;refine wpAny_bind (wpAny_specialOf g F.slot_tuple_eq.lookup ?_);show wpAny _ _ (isInstance (.ref a) (.type "tuple") >>= _) _ _ s;refine wpAny_bind (wpAny_isInstance g isSubtype_tuple_tuple ?_);simp only[Bool.not_true,false_eq_true,if_false];refine wpAny_bind (wpAny_seqItems e hd ?_);refine wpAny_bind ?_;show wpAny _ _ (forIn items _ _) _ _ s;rw[← Array.forIn_toList];refine wpAny_forIn_list _ (λrest r d=>r.1=none/\d=s/\∃ left bs,ReadsAll s.heap rest left bs/\∀ x∈left,keyOk n x=true) _ ?_ ?_ _ _ ⟨rfl,rfl,j,as,C,it⟩
   ·rintro v rest r d ⟨c,rfl,left,bs,l,f⟩;cases l with
    | @cons _ _ k q J B z u =>
     refine wpAny_bind (D (f k (by simp)) z ?_);simp only[Bool.not_true,false_eq_true,if_false];exact wpAny_pure ⟨rfl,rfl,q,B,u,λy G=>f y (by simp[G])⟩
   rintro⟨I,K⟩ d ⟨c,rfl,_⟩;simp only at c;subst c;exact wpAny_pure h
  |_=>simp[keyOk] at b
end
noncomputable def ld (prog:Program) (w:World):HeapKind prog w PyData where
 is:=λh p a=>keyOk 8 p=true/\∃ e,Reads h (.ref a) p e
 hash:=Pd w 8
 draws:=yE 8
 room:=λA=>A.units+8<cLine
 inj:=λ⟨c,e,d⟩ ⟨_,bs,f⟩=>SeqAt.Reads.unique _ _ _ _ _ (lZ c) d f
 keeps:=λ⟨c,e,d⟩ j hd k=>⟨c,e,uk j hd k c d⟩
 pyHash:=λi ⟨c,e,d⟩ h=>wO c i d h
 eqBool:=λ{A E s x y a b Q} i ⟨c,e,d⟩ ⟨g,bs,f⟩ h=>SeqAt.eqBoolOverData prog w A E s _ _ _ _ _ _ Q d f (lZ c) (lZ g) (by have:=uS c;omega) (by rw[qB c g];exact h)
 quiet:=λ⟨c,e,d⟩ h=>ul c d h
abbrev Key:=Sum Int Str
def qC:Key->Value->Bool
 | .inl k,v=>Value.isInt k v
 | .inr x,v=>Value.isStrOf x v
def GW (w:World):Key->Int
 | .inl k=>hashInt k
 | .inr x=>hashStr w x
theorem br:∀ {k:Key}{v:Value},qC k v=true->(∃ i t,k=Sum.inl i/\v=Value.int i t)∨(∃ x t,k=Sum.inr x/\v=Value.str x t)
 | .inl i,v,h=>by
  obtain⟨t,e⟩:=Value.isInt_shape (k:=i) (v:=v) h;exact .inl ⟨i,t,rfl,e⟩
 | .inr x,v,h=>by
  obtain⟨t,e⟩:=Value.isStrOf_shape (x:=x) (v:=v) h;exact .inr ⟨x,t,rfl,e⟩
theorem zj (i:Int)(t:Tok):qC (.inl i) (.int i t)=true:=by simp[qC,Value.isInt]
theorem zi (x:Str)(t:Tok):qC (.inr x) (.str x t)=true:=by simp[qC,Value.isStrOf]
theorem ER (a b:Int):decide ((Sum.inl a:Key)=Sum.inl b)=(a==b):=by
 by_cases e:a=b
 ·subst e;simp
 have h:¬ (Sum.inl a:Key)=Sum.inl b:=λq=>e (Sum.inl.inj q);rw[decide_eq_false h];exact(beq_eq_false_iff_ne.mpr e).symm
theorem EN (a b:Str):decide ((Sum.inr a:Key)=Sum.inr b)=decide (a=b):=by
 by_cases e:a=b
 ·subst e;simp
 have h:¬ (Sum.inr a:Key)=Sum.inr b:=λq=>e (Sum.inr.inj q);rw[decide_eq_false h,decide_eq_false e]
theorem EQ (a:Int)(b:Str):decide ((Sum.inl a:Key)=Sum.inr b)=false:=decide_eq_false (λq=>nomatch q)
theorem EO (a:Str)(b:Int):decide ((Sum.inr a:Key)=Sum.inl b)=false:=decide_eq_false (λq=>nomatch q)
def bo (prog:Program)(w:World):PySem.KeyKind prog w Key where
 is:=qC
 hash:=GW w
 inj:=λv a b g f=>by
  rcases br g with ⟨i,t,rfl,rfl⟩ |⟨x,t,rfl,rfl⟩
  ·rcases br f with ⟨j,u,rfl,e⟩ |⟨y,u,rfl,e⟩
   ·injection e with c _;rw[c]
   exact nomatch e
  rcases br f with ⟨j,u,rfl,e⟩ |⟨y,u,rfl,e⟩
  ·exact nomatch e
  injection e with c _;rw[c]
 byValue:=λk v h=>by
  rcases br h with ⟨i,t,rfl,rfl⟩ |⟨x,t,rfl,rfl⟩<;>rfl
 pyHash:=λd h=>by
  rcases br d with ⟨i,t,rfl,rfl⟩ |⟨x,t,rfl,rfl⟩
  ·exact wpAny_pyHash_int h
  exact wpAny_pyHash_str h
 eqBool:=λl d h=>by
  rcases br l with ⟨i,t,rfl,rfl⟩ |⟨x,t,rfl,rfl⟩
  ·rcases br d with ⟨j,u,rfl,rfl⟩ |⟨y,u,rfl,rfl⟩
   ·rw[ER] at h;exact wpAny_eqBool_int h
   rw[EQ] at h;exact SeqAt.EqAt.int_str i t y u _ _ _ _ h
  rcases br d with ⟨j,u,rfl,rfl⟩ |⟨y,u,rfl,rfl⟩
  ·rw[EO] at h;exact SeqAt.EqAt.str_int x t j u _ _ _ _ h
  rw[EN] at h;exact wpAny_eqBool_str h
 «strs»:=λk x t v h=>by
  rcases br h with ⟨i,u,rfl,e⟩ |⟨y,u,rfl,e⟩
  ·exact nomatch e
  injection e with c _
  subst c;cases v<;>rfl
theorem uI (prog:Program)(w:World)(i:Int)(t:Tok):(bo prog w).is (.inl i) (.int i t)=true:=zj i t
theorem uH (prog:Program)(w:World)(x:Str)(t:Tok):(bo prog w).is (.inr x) (.str x t)=true:=zi x t
inductive V where
 |Jm |bl (b:Bool) |int (i:Int) |str (x:Str) |Tt (b:Array UInt8) |Rg (b:UInt64) |ref (a:Addr) |ty (n:String)
 deriving DecidableEq
def RelV:V->Value->Prop
 | .Jm,u=>u=Value.none
 | .bl b,u=>u=Value.bool b
 | .int i,u => ∃ t,u=Value.int i t
 | .str x,u => ∃ t,u=Value.str x t
 | .Tt b,u => ∃ t,u=Value.bytes b t
 | .Rg b,u => ∃ t,u=Value.float b t
 | .ref a,u=>u=Value.ref a
 | .ty n,u=>u=Value.type n
abbrev Vals:List V->List Value->Prop:=Paired RelV
theorem Vals.length {xs:List V}{us:List Value}(r:Vals xs us):xs.length=us.length:=Paired.length r
theorem Vals.get:∀ {xs:List V}{us:List Value}{i:Nat}{x:V},Vals xs us->xs[i]?=some x->∃ u,us[i]?=some u/\RelV x u
 |_,_,_,_,.nil,e=>by simp at e
 |_,_,0,_,.cons r _,e=>by simp at e;subst e;exact⟨_,rfl,r⟩
 |_,_,i+1,x,.cons _ t,e=>by
  obtain⟨u,b,a⟩:=Vals.get (i:=i) (x:=x) t (by simpa using e);exact⟨u,by simpa using b,a⟩
theorem Vals.append:∀ {xs ys:List V}{us a:List Value},Vals xs us->Vals ys a->Vals (xs++ys) (us++a)
 |_,_,_,_,.nil,s=>s
 |_,_,_,_,.cons r t,s => .cons r (Vals.append t s)
theorem Vals.take:∀ {xs:List V}{us:List Value}(n:Nat),Vals xs us->Vals (xs.take n) (us.take n)
 |_,_,0,_ => .nil
 |_,_,_+1,.nil => .nil
 |_,_,n+1,.cons r t => .cons r (Vals.take n t)
theorem Vals.drop:∀ {xs:List V}{us:List Value}(n:Nat),Vals xs us->Vals (xs.drop n) (us.drop n)
 |_,_,0,r=>r
 |_,_,_+1,.nil => .nil
 |_,_,n+1,.cons _ t=>Vals.drop n t
def J6:Option V->Option Value->Prop
 |some v,some u=>RelV v u
 |none,none=>True
 |_,_=>False
def KV {a:Type}:List (a×V)->List (a×Value)->Prop:=Paired λ(p : a×V) (q : a×Value)=>p.1=q.1/\RelV p.2 q.2
def kV:Key->V
 | .inl i => .int i
 | .inr x => .str x
inductive HO where
 |lst (xs:List V)
 |tup (xs:List V)
 |dK (kvs:List (Key×V)) |dT (kvs:List (List Key×V)) |dN (kvs:List (PyData×Addr×V))
 |set (S:Int->Bool) (n:Nat)
 |ins (C dx:Addr) (fs:List (Str×V))
 |own (x:Addr)
 |xd (fs:List (Str×V))
 |met (f x:Addr)
 |PU (lo hi:Int)
 |N_ (o:Obj) (u:HO)
 |Qs (ps:Array Value)
 |ext (φ:Heap->Prop)
abbrev Hp:=Addr->Option HO
noncomputable def upd (H:Hp) (a:Addr) (o:HO):Hp:=λb=>if b=a then some o else H b
theorem Iv {H:Hp}{a:Addr}{o:HO}:upd H a o a=some o:=by unfold upd;rw[if_pos rfl]
theorem aF {H:Hp}{a b:Addr}{o:HO}(h:b≠a):upd H a o b=H b:=by unfold upd;rw[if_neg h]
theorem FV {H:Hp}{a b:Addr}{o u:HO}(h:H a=some o)(h':H b=some u)(d:o≠u):a≠b:=by intro e;subst e;rw[h] at h';exact d (Option.some.inj h')
theorem aO {H:Hp}{a b:Addr}{o:HO}(h:H a=some o)(h':H b=none):a≠b:=by intro e;subst e;rw[h] at h';cases h'
def LY (h:Heap)(a:Addr)(its:Array Value):Prop:=∃ n,h.get? a=some { cls:=.type "tuple",data:=.seq its n }
theorem LY.tup {h:Heap}{a:Addr}{its:Array Value}(x:LY h a its):IsTup h a its:=let ⟨n,e⟩:=x;⟨_,e,rfl,n,rfl⟩
theorem LY.new (h:Heap)(its:Array Value):LY (h.push { cls:=.type "tuple",data:=.seq its }) h.objs.size its:=⟨_,Heap.get?_push_size _ rfl⟩
section
variable (P:Program) (w:World)
def IY (H:Hp)(h:Heap)(a:Addr):HO->Prop
 | .lst c=>c.length<=sizeLine/\∃ (its:List Value) (n:Nat),Vals c its/\h.get? a=some { cls:=.type "list",data:=.seq its.toArray n }
 | .tup c=>c.length<=sizeLine/\∃ its:List Value,Vals c its/\LY h a its.toArray
 | .dK b=>b.length<=sizeLine/\(a==sysModules)=false/\∃ i,KV b i/\h.DictOf (bo P w) a i
 | .dT b=>b.length<=sizeLine/\(a==sysModules)=false/\∃ c:List (List Key×Addr×Value),
   Paired (λ(p:List Key×V) (q:List Key×Addr×Value)=>p.1=q.1/\H q.2.1=some (.tup (p.1.map kV))/\RelV p.2 q.2.2) b c /\
   ∃ o es ep,h.get? a=some o/\o.ExactDict/\o.data = .dict es ep/\es.toList=c.map (entryOfKey (tupleKind (bo P w)))/\(c.map (·.1)).Nodup
 | .dN b=>b.length<=sizeLine/\(a==sysModules)=false/\∃ c:List (PyData×Addr×Value),Paired (λp q=>p.1=q.1/\p.2.1=q.2.1/\RelV p.2.2 q.2.2) b c /\
   ∃ o es ep,h.get? a=some o/\o.ExactDict/\o.data = .dict es ep/\es.toList=c.map (entryOfKey (ld P w))/\(c.map (·.1)).Nodup
 | .set S n=>h.SetOf (intKind P w) a S n
 | .ins C e fs=>H e=some (.own a)/\fs.length<=1000/\e≠a/\h.get? a=some (PySem.W.instObj C e) /\
   ∃ d,h.Ns1 e d/\(∀ f,J6 (fs.lookup f) (d f))/\PySem.Within d (fs.map (·.1))
 | .own _ => ∃ o,h.get? a=some o
 | .xd fs => ∃ d,h.Ns1 a d/\∀ f,J6 (fs.lookup f) (d f)
 | .PU lo m => ∃ t u v,h.get? a=some { cls:=.type "range",data:=.fields #[.int lo t,.int m u,.int 1 v] }
 | .N_ o u=>h.get? a=some o/\IY H h a u
 | .Qs l=>h.get? a=some { cls:=.none,data:=.fields l }
 | .met f x=>h.get? a=some (PySem.W.methodObj (.ref f) (.ref x))
 | .ext g => g h/\(∃ o,h.get? a=some o)/\∀ k j:Heap,g k->(∀ o,k.get? a=some o->j.get? a=some o)->g j
def Kz (H:Hp)(h:Heap):Prop:=∀ a o,H a=some o->IY P w H h a o
end
section
variable {P:Program}{w:World}{H H':Hp}{h h':Heap}{a:Addr}{o:HO}
theorem IY.lt (x:IY P w H h a o):a<h.objs.size:=by
 cases o with
 |lst c=>obtain⟨_,_,_,_,e⟩:=x;exact Heap.lt_size e
 |tup c=>obtain⟨_,_,_,_,e⟩:=x;exact Heap.lt_size e
 |dK b=>obtain⟨_,_,_,_,o,_,_,e,_⟩:=x;exact Heap.lt_size e
 |dT b=>obtain⟨_,_,_,_,o,_,_,e,_⟩:=x;exact Heap.lt_size e
 |dN b=>obtain⟨_,_,_,_,o,_,_,e,_⟩:=x;exact Heap.lt_size e
 |set S n=>obtain⟨o,_,_,_,e,_⟩:=x;exact Heap.lt_size e
 |ins C j fs=>obtain⟨_,_,_,e,_⟩:=x;exact Heap.lt_size e
 |own y=>obtain⟨_,e⟩:=x;exact Heap.lt_size e
 |xd fs=>obtain⟨_,⟨_,_,_,e,_⟩,_⟩:=x;exact Heap.lt_size e
 |PU lo k=>obtain⟨_,_,_,e⟩:=x;exact Heap.lt_size e
 |N_ i u=>obtain⟨e,_⟩:=x;exact Heap.lt_size e
 |Qs g=>exact Heap.lt_size (show h.get? a=some _ from x)
 |met f y=>exact Heap.lt_size (show h.get? a=some _ from x)
 |ext d=>obtain⟨_,⟨_,e⟩,_⟩:=x;exact Heap.lt_size e
theorem Paired.Mo {α c:Type}{F G : α->c->Prop}:∀ {l₁:List α}{l₂:List c},Paired F l₁ l₂->(∀ a b,F a b->G a b)->Paired G l₁ l₂
 |_,_,.nil,_ => .nil
 |_,_,.cons r t,f => .cons (f _ _ r) (Paired.Mo t f)
theorem IY.Lx (x:IY P w H h a o)(k:∀ b u,(b=a∨H b=some (.own a))->h.get? b=some u->h'.get? b=some u)
  (B:∀ b,H b=some (.own a)->H' b=some (.own a)) (E:∀ b xs,H b=some (.tup xs)->H' b=some (.tup xs)):IY P w H' h' a o:=by
 induction o with
 |lst xs=>obtain⟨z,its,n,r,e⟩:=x;exact⟨z,its,n,r,k _ _ (.inl rfl) e⟩
 |tup xs=>obtain⟨z,its,r,n,e⟩:=x;exact⟨z,its,r,n,k _ _ (.inl rfl) e⟩
 |dK i=>obtain⟨z,y,A,r,g,es,ep,e,c⟩:=x;exact⟨z,y,A,r,g,es,ep,k _ _ (.inl rfl) e,c⟩
 |dT i =>
  obtain⟨z,y,xs,r,g,es,ep,e,c⟩:=x;exact⟨z,y,xs,Paired.Mo r λp q z=>⟨z.1,E _ _ z.2.1,z.2.2⟩,g,es,ep,k _ _ (.inl rfl) e,c⟩
 |dN i=>obtain⟨z,y,xs,r,g,es,ep,e,c⟩:=x;exact⟨z,y,xs,r,g,es,ep,k _ _ (.inl rfl) e,c⟩
 |set S n=>obtain⟨g,es,ep,t,e,c⟩:=x;exact⟨g,es,ep,t,k _ _ (.inl rfl) e,c⟩
 |ins C G fs =>
  obtain⟨d,z,ne,e,l,⟨j,es,ep,s,c⟩,r⟩:=x;exact⟨B _ d,z,ne,k _ _ (.inl rfl) e,l,⟨j,es,ep,k _ _ (.inr d) s,c⟩,r⟩
 |own y=>obtain⟨g,e⟩:=x;exact⟨g,k _ _ (.inl rfl) e⟩
 |xd fs=>obtain⟨l,⟨j,es,ep,e,c⟩,r⟩:=x;exact⟨l,⟨j,es,ep,k _ _ (.inl rfl) e,c⟩,r⟩
 |PU lo I=>obtain⟨t,u,v,e⟩:=x;exact⟨t,u,v,k _ _ (.inl rfl) e⟩
 |N_ g u D=>obtain⟨e,q⟩:=x;exact⟨k _ _ (.inl rfl) e,D q⟩
 |Qs m =>
  have e:h.get? a=some { cls:=.none,data:=.fields m }:=x;show h'.get? a=some { cls:=.none,data:=.fields m };exact k a _ (.inl rfl) e
 |met f y =>
  have e:h.get? a=some (PySem.W.methodObj (.ref f) (.ref y)):=x;show h'.get? a=some (PySem.W.methodObj (.ref f) (.ref y));exact k a _ (.inl rfl) e
 |ext F=>obtain⟨p,⟨o,e⟩,st⟩:=x;exact⟨st _ _ p λo q=>k _ _ (.inl rfl) q,⟨o,k _ _ (.inl rfl) e⟩,st⟩
theorem Kz.lt (x:Kz P w H h)(e:H a=some o):a<h.objs.size:=(x a o e).lt
theorem Kz.fresh (x:Kz P w H h)(e:h.objs.size<=a):H a=none:=by
 cases q:H a with
 |none=>rfl
 |some u=>exact absurd (lt_of_lt_of_le (x.lt q) e) (Nat.lt_irrefl _)
theorem Kz.kept (x:Kz P w H h)(k:∀ b u,h.get? b=some u->h'.get? b=some u):Kz P w H h':=λa o e =>
 (x a o e).Lx (λb u _ q=>k b u q) (λ_ q=>q) λ_ _ q=>q
theorem Kz.laid (x:Kz P w H h)(k:∀ b u,h.get? b=some u->h'.get? b=some u)(g:h.objs.size<=a)(new:IY P w (upd H a o) h' a o):Kz P w (upd H a o) h':=λb u e=>by
 have f:=x.fresh g;by_cases d:b=a
 ·subst d;rw[Iv] at e;cases e;exact new
 rw[aF d] at e;exact(x b u e).Lx (λc v _ q=>k c v q) (λc q=>by rw[aF (aO q f)];exact q) λc i q=>by rw[aF (aO q f)];exact q
end
def Rd (H:Hp)(a:Addr)(u:HO):Prop:=H a=some u∨∃ o,H a=some (.N_ o u)
theorem Rd.ok {P:Program}{w:World}{H:Hp}{h:Heap}{a:Addr}{u:HO}(r:Rd H a u)(x:Kz P w H h):IY P w H h a u:=by
 rcases r with r |⟨o,r⟩
 ·exact x a u r
 obtain⟨_,q⟩:=x a _ r;exact q
def Rz:Option HO->Prop
 |some (.lst _)=>True
 |some (.dK _)=>True
 |some (.dT _)=>True
 |some (.dN _)=>True
 |some (.set _ _)=>True
 |some (.ins _ _ _)=>True
 |some (.ext _)=>True
 |_=>False
section
variable {P:Program}{w:World}{H:Hp}{h h':Heap}{x e:Addr}{o':HO}
theorem Kz.write (ok:Kz P w H h)(d:Rz (H x))(j:e=x∨H e=some (.own x))(k:∀ b u,b≠e->h.get? b=some u->h'.get? b=some u)(n:∃ u,h'.get? e=some u)
  (new:IY P w (upd H x o') h' x o'):Kz P w (upd H x o') h':=λb u q=>by
 have i:∀ c y,H c=some (.own y)->c≠x:=λc y r z=>by subst z;rw[r] at d;exact d
 have o:∀ c a,H c=some (.tup a)->c≠x:=λc a r z=>by subst z;rw[r] at d;exact d
 by_cases g:b=x
 ·subst g;rw[Iv] at q;cases q;exact new
 rw[aF g] at q;by_cases f:b=e
 ·have l:H b=some (.own x):=by
   rcases j with z |z
   ·exact absurd (f.trans z) g
   rw[f];exact z
  rw[q] at l;cases l;obtain⟨v,m⟩:=n;exact⟨v,by rw[f];exact m⟩
 refine(ok b u q).Lx (λc v hc r=>k c v ?_ r) (λc r=>by rw[aF (i c b r)];exact r) λc a r=>by rw[aF (o c a r)];exact r
 rcases hc with rfl |hc
 ·exact f
 rintro rfl;rcases j with z |z
 ·exact i c b hc z
 rw[hc] at z;cases z;exact g rfl
end
structure Un (fs ex:List Addr) (H H':Hp) (h h':Heap):Prop where
 keep:∀ b o,h.get? b=some o->H b=none->b∉fs->b∉ex->h'.get? b=some o
 slot:∀ b o,h.get? b=some o->H b=none->b∈fs->b∉ex->∃ sl,h'.get? b=some { o with slots:=sl }
 free:∀ b o,h.get? b=some o->H b=none->b∉ex->H' b=none
 there:∀ b o,h.get? b=some o->b∉ex->∃ o',h'.get? b=some o'
 Mp:∀ b xs,H b=some (.tup xs)->H' b=some (.tup xs)
 LZ:∀ b o u,H b=some (.N_ o u)->H' b=some (.N_ o u)
 Mq:∀ b ps,H b=some (.Qs ps)->∃ more,H' b=some (.Qs (ps++more))
section
variable {fs VS ex Z8:List Addr}{H H1 H2:Hp}{h h1 h2 h':Heap}{a x e:Addr}{o:HO}
theorem Un.any (u:Un fs ex H H1 h h1){b:Addr}{a:Obj}(q:h.get? b=some a)(n:H b=none)(d:b∉ex):∃ e,h1.get? b=some { a with slots:=e }:=by
 by_cases c:b∈fs
 ·exact u.slot b a q n c d
 exact⟨a.slots,u.keep b a q n c d⟩
theorem Un.kept (k:∀ b u,h.get? b=some u->h'.get? b=some u):Un fs ex H H h h':=
 ⟨λb a q _ _ _=>k b a q,λb a q _ _ _=>⟨a.slots,k b a q⟩,λ_ _ _ n _=>n,λb a q _=>⟨a,k b a q⟩,λ_ _ q=>q,λ_ _ _ q=>q,λ_ c q=>⟨#[],by rw[q];simp⟩⟩
theorem Un.refl:Un fs ex H H h h:=Un.kept λ_ _ q=>q
theorem Un.laid (k:∀ b u,h.get? b=some u->h'.get? b=some u)(d:h.objs.size<=a)(c:H a=none):Un fs ex H (upd H a o) h h' where
 keep:=λb u q _ _ _=>k b u q
 slot:=λb u q _ _ _=>⟨u.slots,k b u q⟩
 free:=λb u q n _=>by rw[aF (ne_of_lt (lt_of_lt_of_le (Heap.lt_size q) d))];exact n
 there:=λb u q _=>⟨u,k b u q⟩
 Mp:=λb e q=>by rw[aF (aO q c)];exact q
 LZ:=λb u e q=>by rw[aF (aO q c)];exact q
 Mq:=λb f q=>⟨#[],by rw[aF (aO q c),q];simp⟩
theorem Un.write (a:Rz (H x))(j:e=x∨H e=some (.own x))(k:∀ b u,b≠e->h.get? b=some u->h'.get? b=some u)(m:∃ u,h'.get? e=some u):Un fs ex H (upd H x o) h h':=by
 have g:∀ b,H b=none->b≠x:=λb n z=>by subst z;rw[n] at a;exact a
 have f:∀ b,H b=none->b≠e:=λb n z=>by
  subst z;rcases j with r |r
  ·exact g b n r
  rw[n] at r;cases r
 have c:∀ b u,H b=some u->¬ Rz (some u)->b≠x:=λb u q l z=>by subst z;rw[q] at a;exact l a
 refine⟨λb u q n _ _=>k b u (f b n) q,λb u q n _ _=>⟨u.slots,k b u (f b n) q⟩,λb u q n _=>by rw[aF (g b n)];exact n,λb u q _=>?_,
  λb i q=>by rw[aF (c b _ q λz=>z)];exact q,λb u i q=>by rw[aF (c b _ q λz=>z)];exact q,λb p q=>⟨#[],by rw[aF (c b _ q λz=>z),q];simp⟩⟩
 by_cases d:b=e
 ·subst d;exact m
 exact⟨u,k b u d q⟩
end
def Tu (h:Heap)(H:Hp):List Addr:=(List.range h.objs.size).filter λa=>(H a).isSome
def sy (h:Heap)(H:Hp):Heap:=PySem.W.hideAll h (Tu h H)
theorem zm (h:Heap)(H:Hp):(sy h H).objs.size=h.objs.size:=PySem.W.hideAll_size _ _
theorem A8 {h:Heap}{H:Hp}{b:Addr}{o:Obj}(e:h.get? b=some o)(n:H b=none):(sy h H).get? b=some o:=
 PySem.W.hideAll_get _ e λa=>by
  have q:(H b).isSome=true:=(mem_filter.mp a).2;rw[n] at q;simp at q
theorem CG {h:Heap}{H:Hp}{b:Addr}{o:Obj}(e:(sy h H).get? b=some o):h.get? b=some o/\H b=none:=by
 have a:h.get? b=some o:=PySem.W.of_hideAll (Tu h H) e;refine⟨a,?_⟩;cases q:H b with
 |none=>rfl
 |some x =>
  have c:b∈Tu h H:=mem_filter.mpr ⟨mem_range.mpr (Heap.lt_size a),by simp[q]⟩;have z:(sy h H).get? b=none:=PySem.W.hideAll_none (Tu h H) c;rw[z] at e;cases e
def Dt (g h:Heap)(L:Addr):Ib:=(List.range h.objs.size).filterMap λa=>if a=L∨(g.get? a).isSome=true then none else (h.get? a).map λo=>(a,o)
def rest (g h:Heap)(L d:Addr):Ib:=(Dt g h L).filter λp=>decide (p.1≠d)
structure Mod (K:H_) (mg:Ic) (base:Heap):Prop where
 Ri:K.In base
 glob:base.Ns mainGlobals mg
 blt:∃ mb,base.Ns builtinsNs mb/\∀ x:Str,x≠"__name__"->mb x=bootBuiltins x
 nolimit:base.NoLimit
structure Cx where
 prog:Program
 w:World
 K:H_
 mg:Ic
 base:Heap
 A:Around
 N:List Str
 s₀:Shared
 H₀:Hp
 env:Env
 outer:List Env
 stack:List Env
 ex:List Addr
 fn:Str->Bool
 calm:Bool
 pn:Ib
 xe:Ia
def NO (l:List Env):List Addr:=l.filterMap (·.frame)
abbrev Cx.fs (X:Cx):List Addr:=NO X.outer
def Tv (sc:Scope)(x:Str):Prop:=sc.names.lookup x=some .local∨sc.names.lookup x=some .cell∨sc.names.lookup x=some .free
def Loc (sc:Scope)(x:Str):Prop:=sc.names.lookup x=some .local∨sc.names.lookup x=some .cell
def Look (env:Env)(h:Heap)(m:Ic)(x:Str)(u:Value):Prop:=
 (env.kindOf x=some .local/\m x=some u)∨((env.kindOf x=some .cell∨env.kindOf x=some .free)/\∃ c,env.cells.lookup x=some c/\h.IsCell c (some u))
structure Cx.Ok (X:Cx):Prop where
 mod:Mod X.K X.mg X.base
 kind:X.env.scope.kind = .function
 glob:X.env.globals=mainGlobals
 blt:X.env.builtins=builtinsNs
 above:X.s₀.heap.objs.size<=X.env.locals
 inj:∀ x y c,X.env.cells.lookup x=some c->X.env.cells.lookup y=some c->x=y
 has:∀ x,(X.env.kindOf x=some .cell∨X.env.kindOf x=some .free)->∃ c,X.env.cells.lookup x=some c
 RC:∀ x c,X.fn x=true->X.env.cells.lookup x=some c->X.s₀.heap.objs.size<=c
 hd:X.calm=true->X.A.handled=none
 frames:X.A.frames=some X.stack
 Tw:X.stack=X.outer∨(X.stack=X.env::X.outer/\X.env.frame=some X.env.locals)
 VT:∀ b∈X.ex,b≠X.env.locals/\∀ x c,X.env.cells.lookup x=some c->c≠b
 bs:∀ b o,X.base.get? b=some o->X.s₀.heap.get? b=some o/\X.H₀ b=none
 Pe:X.base.objs.size<=X.s₀.heap.objs.size
 Ot:∀ b o,X.base.get? b=some o->b∉X.ex
 Pg:∀ b∈X.ex,b∉X.fs
 Lm:X.s₀.heap.FunFrames X.base X.outer
 Qu:∀ b∈X.fs,X.H₀ b=none
structure Inv (X:Cx) (pins:Ib) (σ:List (Option V)) (H:Hp) (s:Shared):Prop where
 ok:X.Ok
 os:s.os=X.s₀.os
 bare:AllBare s.gens
 base:Un X.fs X.ex X.H₀ H X.s₀.heap s.heap
 loc:∃ m,s.heap.Ns X.env.locals m/\∀ (i:Nat) (x:Str) (v:V),X.N[i]?=some x->σ[i]?=some (some v)->Tv X.env.scope x->∃ u,RelV v u/\Look X.env s.heap m x u
 cell:∀ x c,X.env.cells.lookup x=some c->∃ v,s.heap.IsCell c v
 free:H X.env.locals=none
 Ks:∀ x c,X.env.cells.lookup x=some c->H c=none
 pin:∀ p∈X.pn++pins,s.heap.get? p.1=some p.2/\H p.1=none/\p.1≠X.env.locals/\p.1∉X.fs/\∀ v,p.2.data≠.cell v
 IL:Kz X.prog X.w H s.heap
 len : σ.length=X.N.length
section
variable {X:Cx}{pins:Ib}{σ:List (Option V)}{H H':Hp}{s:Shared}{h':Heap}
theorem Cx.Ok.Ui (ok:X.Ok){b:Addr}{o:Obj}(e:X.base.get? b=some o):b∉X.fs:=λa=>by have:=(ok.Lm.mem a).1;rw[e] at this;cases this
theorem Inv.bs (I:Inv X pins σ H s):∀ b o,X.base.get? b=some o->s.heap.get? b=some o/\H b=none:=λb o e =>
 ⟨I.base.keep b o (I.ok.bs b o e).1 (I.ok.bs b o e).2 (I.ok.Ui e) (I.ok.Ot b o e),I.base.free b o (I.ok.bs b o e).1 (I.ok.bs b o e).2 (I.ok.Ot b o e)⟩
theorem Inv.bk (I:Inv X pins σ H s):∀ b o,X.base.get? b=some o->s.heap.get? b=some o:=λb o e=>(I.bs b o e).1
theorem Inv.mod (I:Inv X pins σ H s):Mod X.K X.mg X.base:=I.ok.mod
theorem Inv.L9 (I:Inv X pins σ H s):X.K.In s.heap:=I.ok.mod.Ri.keeps I.bk
theorem Inv.lt (I:Inv X pins σ H s):X.env.locals<s.heap.objs.size:=let ⟨_,a,_⟩:=I.loc;a.lt
theorem Inv.sz (I:Inv X pins σ H s):X.s₀.heap.objs.size<=s.heap.objs.size:=Nat.le_trans I.ok.above (le_of_lt I.lt)
theorem Inv.Uj (I:Inv X pins σ H s){a:Addr}(h:s.heap.objs.size<=a):a∉X.fs:=λc=>by obtain⟨_,o,b,_⟩:=I.ok.Lm.mem c;exact absurd (lt_of_lt_of_le (Heap.lt_size b) (Nat.le_trans I.sz h)) (Nat.lt_irrefl _)
theorem Inv.Qv (I:Inv X pins σ H s):∀ x c,X.env.cells.lookup x=some c->c≠X.env.locals:=λx c e z=>by obtain⟨v,o,a,hd⟩:=I.cell x c e;obtain⟨m,⟨f,es,ep,b,d,_⟩,_⟩:=I.loc;rw[z,b] at a;cases a;rw[d] at hd;cases hd
theorem Inv.Lm (I:Inv X pins σ H s):s.heap.FunFrames X.base X.outer:=by
 have all:∀ (l:List Env),(∀ b∈NO l,b∈X.fs)->X.s₀.heap.FunFrames X.base l->s.heap.FunFrames X.base l:=by
  intro l
  induction l with
  |nil=>intro _ _;trivial
  |cons env r m =>
   intro f h;obtain⟨j,⟨L,o,a,k,i,hd⟩,g⟩:=h;have c:L∈X.fs:=f L (by unfold NO;rw[List.filterMap_cons,a];exact mem_cons_self);obtain⟨n,e⟩:=I.base.slot L o i (I.ok.Qu L c) c λz=>I.ok.Pg L z c;exact⟨j,⟨L,_,a,k,e,hd⟩,m (λb d=>f b (by unfold NO;rw[List.filterMap_cons,a];exact mem_cons_of_mem _ d)) g⟩
 exact all X.outer (λ_ d=>d) I.ok.Lm
theorem Inv.stack (I:Inv X pins σ H s):s.heap.FunFrames X.base X.stack:=by
 rcases I.ok.Tw with e |⟨e,a⟩
 ·rw[e];exact I.Lm
 rw[e];obtain⟨m,b,_⟩:=I.loc;refine .cons (by rw[I.ok.kind];decide) a b ?_ I.Lm;exact Heap.get?_none_of_le (Nat.le_trans I.ok.Pe I.ok.above)
theorem Inv.Ms (I:Inv X pins σ H s):∀ b∈NO X.stack,b∈X.env.locals::X.fs:=λb a=>by
 rcases I.ok.Tw with e |⟨e,c⟩
 ·rw[e] at a;exact mem_cons_of_mem _ a
 rw[e] at a;unfold NO at a;rw[List.filterMap_cons,c] at a;exact a
theorem Inv.Nu (I:Inv X pins σ H s):∀ b∈NO X.stack,H b=none:=λb hb=>by
 rcases mem_cons.mp (I.Ms b hb) with e |hb
 ·rw[e];exact I.free
 obtain⟨_,o,a,_⟩:=I.ok.Lm.mem hb;exact I.base.free b o a (I.ok.Qu b hb) λz=>I.ok.Pg b z hb
theorem Inv.step {g':Array GenState}{t':Nat}{d':Drawn}{ch:List Addr}(I:Inv X pins σ H s)
  (y:∀ b∈ch,(b∈X.ex∨X.s₀.heap.objs.size<=b)/\b≠X.env.locals/\(∀ x c,X.env.cells.lookup x=some c->c≠b)/\∀ p∈X.pn++pins,p.1≠b)
  (keep:∀ b o,b≠X.env.locals->b∉X.fs->b∉ch->s.heap.get? b=some o->H b=none->h'.get? b=some o)
  (slot:∀ b o,b≠X.env.locals->b∈X.fs->b∉ch->s.heap.get? b=some o->H b=none->∃ E,h'.get? b=some { o with slots:=E }) (free:∀ b o,b∉ch->s.heap.get? b=some o->H b=none->H' b=none)
  (there:∀ b o,b∉ch->s.heap.get? b=some o->∃ B,h'.get? b=some B)
  (Mp:∀ b xs,H b=some (.tup xs)->H' b=some (.tup xs)) (LZ:∀ b o u,H b=some (.N_ o u)->H' b=some (.N_ o u)) (Mq:∀ b D,H b=some (.Qs D)->∃ more,H' b=some (.Qs (D++more)))
  (ns:∀ m,s.heap.Ns X.env.locals m->h'.Ns X.env.locals m) (IL:Kz X.prog X.w H' h') (M:AllBare g') :
  Inv X pins σ H' { s with heap:=h',gens:=g',drawn:=d',toks:=t' }:=by
 have J:∀ b o,X.s₀.heap.get? b=some o->b≠X.env.locals:=λb o e=>ne_of_lt (lt_of_lt_of_le (Heap.lt_size e) I.ok.above)
 have C:∀ b o,X.s₀.heap.get? b=some o->b∉X.ex->b∉ch:=λb o e a h=>by
  rcases (y b h).1 with z |z
  ·exact a z
  exact absurd (lt_of_lt_of_le (Heap.lt_size e) z) (Nat.lt_irrefl _)
 have f:∀ x c,X.env.cells.lookup x=some c->∀ v,s.heap.IsCell c v->h'.IsCell c v:=λx c e v Zq=>by
  obtain⟨o,j,hd⟩:=Zq
  have t:c∉ch:=λz=>(y c z).2.2.1 x c e rfl;by_cases K:c∈X.fs
  ·obtain⟨E,q⟩:=slot c o (I.Qv x c e) K t j (I.Ks x c e);exact⟨_,q,hd⟩
  exact⟨o,keep c o (I.Qv x c e) K t j (I.Ks x c e),hd⟩
 refine⟨I.ok,I.os,M,⟨λb o e n h a=>?_,λb o e n h a=>?_,λb o e n a=>?_,λb o e a=>?_,λb xs e=>Mp b xs (I.base.Mp b xs e),λb o xs e=>LZ b o xs (I.base.LZ b o xs e),λb D e=>?_⟩,?_,λx c e=>?_,?_,λx c e=>?_,λp G=>?_,IL,I.len⟩
 ·exact keep b o (J b o e) h (C b o e a) (I.base.keep b o e n h a) (I.base.free b o e n a)
 ·obtain⟨E,g⟩:=I.base.slot b o e n h a;obtain⟨O,A⟩:=slot b _ (J b o e) h (C b o e a) g (I.base.free b o e n a);exact⟨O,A⟩
 ·obtain⟨B,g⟩:=I.base.there b o e a;exact free b B (C b o e a) g (I.base.free b o e n a)
 ·obtain⟨B,g⟩:=I.base.there b o e a;exact there b B (C b o e a) g
 ·obtain⟨m1,g⟩:=I.base.Mq b D e;obtain⟨m2,A⟩:=Mq b _ g;exact⟨m1++m2,by rw[A,Array.append_assoc]⟩
 ·obtain⟨m,N,L⟩:=I.loc;refine⟨m,ns m N,λi x v g A P=>?_⟩;obtain⟨u,r,l⟩:=L i x v g A P;refine⟨u,r,?_⟩;rcases l with l |⟨k,c,e,z⟩
  ·exact .inl l
  exact .inr ⟨k,c,e,f x c e _ z⟩
 ·obtain⟨v,z⟩:=I.cell x c e;exact⟨v,f x c e v z⟩
 ·obtain⟨m,⟨o,_,_,j,_⟩,_⟩:=I.loc;exact free _ o (λz=>(y _ z).2.1 rfl) j I.free
 ·obtain⟨v,o,j,hd⟩:=I.cell x c e;exact free c o (λz=>(y c z).2.2.1 x c e rfl) j (I.Ks x c e)
 obtain⟨e,n,ne,F,d⟩:=I.pin p G;have t:p.1∉ch:=λz=>(y p.1 z).2.2.2 p G rfl;exact⟨keep p.1 p.2 ne F t e n,free p.1 p.2 t e n,ne,F,d⟩
theorem Inv.un {t':Nat}(I:Inv X pins σ H s)(u:Un X.fs [] H H' s.heap h')(IL:Kz X.prog X.w H' h'):Inv X pins σ H' { s with heap:=h',toks:=t' }:=by
 obtain⟨m,⟨o,es,ep,d,r⟩,_⟩:=id I.loc;obtain⟨k,f⟩:=u.any d I.free (by simp)
 exact I.step (g':=s.gens) (d':=s.drawn) (ch:=[]) (λ_ z=>nomatch z) (λb o _ a _ e n=>u.keep b o e n a (by simp)) (λb o _ a _ e n=>u.slot b o e n a (by simp)) (λb o _ e n=>u.free b o e n (by simp)) (λb o _ e=>u.there b o e (by simp)) u.Mp u.LZ u.Mq (λp g=>by
  obtain⟨l,i,h,c,j⟩:=g;rw[d] at c;cases c
  exact⟨_,i,h,f,j⟩) IL I.bare
theorem Inv.call {g':Array GenState}{t':Nat}{d':Drawn}{ch:List Addr}(I:Inv X pins σ H s)(u:Un (NO X.stack) ch H H' s.heap h')(IL:Kz X.prog X.w H' h')(i:AllBare g')
  (f:∀ b∈ch,(b∈X.ex∨X.s₀.heap.objs.size<=b)/\b≠X.env.locals/\(∀ x c,X.env.cells.lookup x=some c->c≠b)/\∀ p∈X.pn++pins,p.1≠b) :
  Inv X pins σ H' { s with heap:=h',gens:=g',drawn:=d',toks:=t' }:=by
 obtain⟨m,⟨o,es,ep,h,r⟩,_⟩:=id I.loc;obtain⟨v,d⟩:=u.any h I.free λz=>(f _ z).2.1 rfl
 exact I.step (ch:=ch) f (λb o d t a e n=>u.keep b o e n (λz=>(mem_cons.mp (I.Ms b z)).elim d t) a) (λb o _ _ a e n=>u.any e n a) (λb o a e n=>u.free b o e n a) (λb o a e=>u.there b o e a) u.Mp u.LZ u.Mq (λA j=>by
  obtain⟨y,l,k,g,q⟩:=j;rw[h] at g;cases g
  exact⟨_,l,k,d,q⟩) IL i
theorem Inv.turned {t':Nat}{it:Addr}(I:Inv X pins σ H s)(k:∀ b o,b≠it->s.heap.get? b=some o->h'.get? b=some o)(j:H it=none)(d:it≠X.env.locals)
  (i:it∈X.ex∨X.s₀.heap.objs.size<=it) (h:∀ x c,X.env.cells.lookup x=some c->c≠it) (g:∀ p∈X.pn++pins,p.1≠it):Inv X pins σ H { s with heap:=h',toks:=t' }:=by
 have VV:∀ b u,H b=some u->b≠it:=λb u e z=>by rw[z,j] at e;cases e
 refine I.step (g':=s.gens) (d':=s.drawn) (ch:=[it]) (λb t=>?_) (λb o _ _ a e _=>k b o (λz=>a (by simp[z])) e) (λb o _ _ a e _=>⟨o.slots,k b o (λz=>a (by simp[z])) e⟩) (λ_ _ _ _ n=>n)
  (λb o a e=>⟨o,k b o (λz=>a (by simp[z])) e⟩) (λ_ _ e=>e) (λ_ _ _ e=>e) (λb w e=>⟨#[],by rw[e];simp⟩) (λm l=>?_) (λb u e=>?_) I.bare
 ·have e:b=it:=by simpa using t
  subst e;exact⟨i,d,h,g⟩
 ·obtain⟨o,es,ep,f,r⟩:=l;exact⟨o,es,ep,k _ o (Ne.symm d) f,r⟩
 refine(I.IL b u e).Lx (λc v a q=>k c v ?_ q) (λ_ q=>q) λ_ _ q=>q;rcases a with z |z
 ·rw[z];exact VV b u e
 exact VV c _ z
theorem Inv.tok (I:Inv X pins σ H s)(t:Nat):Inv X pins σ H { s with toks:=t }:=I.un (h':=s.heap) (t':=t) Un.refl I.IL
theorem Inv.kept {t':Nat}(I:Inv X pins σ H s)(k:∀ b u,s.heap.get? b=some u->h'.get? b=some u):Inv X pins σ H { s with heap:=h',toks:=t' }:=I.un (Un.kept k) (I.IL.kept k)
theorem Inv.laid {a:Addr}{o:HO}{t':Nat}(I:Inv X pins σ H s)(k:∀ b u,s.heap.get? b=some u->h'.get? b=some u)(c:s.heap.objs.size<=a)(new:IY X.prog X.w (upd H a o) h' a o) :
  Inv X pins σ (upd H a o) { s with heap:=h',toks:=t' }:=I.un (Un.laid k c (I.IL.fresh c)) (I.IL.laid k c new)
theorem Inv.write {x e:Addr}{o:HO}{t':Nat}(I:Inv X pins σ H s)(a:Rz (H x))(c:e=x∨H e=some (.own x))(k:∀ b u,b≠e->s.heap.get? b=some u->h'.get? b=some u)(d:∃ u,h'.get? e=some u)
  (new:IY X.prog X.w (upd H x o) h' x o):Inv X pins σ (upd H x o) { s with heap:=h',toks:=t' }:=I.un (Un.write a c k d) (I.IL.write a c k d new)
theorem Inv.KJ {a:Ib}(I:Inv X pins σ H s)(h:∀ p∈a,s.heap.get? p.1=some p.2/\H p.1=none/\p.1≠X.env.locals/\p.1∉X.fs/\∀ v,p.2.data≠.cell v):Inv X a σ H s:=
 ⟨I.ok,I.os,I.bare,I.base,I.loc,I.cell,I.free,I.Ks,λp b=>(mem_append.mp b).elim (λz=>I.pin p (mem_append_left _ z)) (h p),I.IL,I.len⟩
theorem uz {N:List Str}(e:N.Nodup){i j:Nat}{x:Str}(a:N[i]?=some x)(b:N[j]?=some x):i=j:=by obtain⟨g,d⟩:=List.getElem?_eq_some_iff.mp a;obtain⟨f,c⟩:=List.getElem?_eq_some_iff.mp b;exact(List.getElem_inj e).mp (d.trans c.symm)
theorem p9 {M:Model}{A:Around}{E:Ia}{i:Nat}{x:Str}{v:V}{u:Value}{Q:Unit->Shared->Prop}(I:Inv X pins σ H s)(hN:X.N.Nodup)(hi:X.N[i]?=some x)(l:Loc X.env.scope x)(r:RelV v u)
  (h:∀ s',Inv X pins (σ.set i (some v)) H s'->(∃ a,Heap.SameBut a s.heap s'.heap/\(a=X.env.locals∨X.env.cells.lookup x=some a))->Q () s') (hf:X.fn x=true∨X.env.scope.names.lookup x=some .local:=by first |exact .inl rfl |exact .inr rfl |assumption):wpAny M A (storeName X.env x u) Q E s:=by
 obtain⟨m,P,W⟩:=id I.loc;have Um:(X.env.scope.kind==.class ||(X.env.scope.kind==.module&&X.env.locals != X.env.globals))=false:=by rw[I.ok.kind];rfl
 have RF:i < σ.length:=by rw[I.len];exact(List.getElem?_eq_some_iff.mp hi).1
 have Qv:=I.Qv
 have tracked:∀ {a:Addr}{h':Heap},(∃ o,s.heap.get? a=some o/\H a=none)->Heap.SameBut a s.heap h'->Kz X.prog X.w H h':=λ{a h'} ha f b ob e=>by
  obtain⟨_,_,MH⟩:=ha;refine(I.IL b ob e).Lx (λc F hc q=>(f.2 c ?_).trans q) (λ_ q=>q) λ_ _ q=>q;rintro rfl;rcases hc with rfl |hc
  ·rw[MH] at e;cases e
  rw[MH] at hc;cases hc
 rcases l with hk |hk
 ·refine wpAny_storeName_local hk P (λh' Xw f=>?_) Um;obtain⟨oL,_,_,NP,_⟩:=id P;refine h _ ⟨I.ok,I.os,I.bare,⟨λb o e n B l=>?_,λb o e n B l=>?_,I.base.free,λb o e l=>?_,I.base.Mp,I.base.LZ,I.base.Mq⟩,⟨_,Xw,λj y O g t L=>?_⟩,λy c e=>?_,I.free,I.Ks,λp J=>?_,tracked ⟨oL,NP,I.free⟩ f,by simpa using I.len⟩ ⟨_,f,.inl rfl⟩
  ·exact(f.2 b (ne_of_lt (lt_of_lt_of_le (Heap.lt_size e) I.ok.above))).trans (I.base.keep b o e n B l)
  ·obtain⟨T,g⟩:=I.base.slot b o e n B l;exact⟨T,(f.2 b (ne_of_lt (lt_of_lt_of_le (Heap.lt_size e) I.ok.above))).trans g⟩
  ·obtain⟨R,g⟩:=I.base.there b o e l;exact⟨R,(f.2 b (ne_of_lt (lt_of_lt_of_le (Heap.lt_size e) I.ok.above))).trans g⟩
  ·by_cases C:j=i
   ·subst C;rw[hi] at g;cases g;rw[getElem?_set_self RF] at t;cases t;exact⟨u,r,.inl ⟨hk,by simp⟩⟩
   rw[getElem?_set_ne (Ne.symm C)] at t;obtain⟨S,U,q⟩:=W j y O g t L;refine⟨S,U,?_⟩;rcases q with ⟨k,e⟩ |⟨k,c,e,z⟩
   ·refine .inl ⟨k,?_⟩;have:y≠x:=λe=>C (uz hN g (e▸hi));simp[this,e]
   exact .inr ⟨k,c,e,z.sameBut f (Qv y c e)⟩
  ·obtain⟨F,z⟩:=I.cell y c e;exact⟨F,z.sameBut f (Qv y c e)⟩
  obtain⟨e,n,ne,K,d⟩:=I.pin p J;exact⟨(f.2 p.1 ne).trans e,n,ne,K,d⟩
 have G:X.fn x=true:=by
  rcases hf with z |z
  ·exact z
  rw[z] at hk;cases hk
 obtain⟨c,hc⟩:=I.ok.has x (.inl hk);obtain⟨F,z⟩:=I.cell x c hc;refine wpAny_storeName_cell I.ok.kind hk hc z (λh' ME f=>?_);obtain⟨oc,Z,Up⟩:=id z;refine h { s with heap:=h' } ⟨I.ok,I.os,I.bare,⟨λb o e n B l=>?_,λb o e n B l=>?_,I.base.free,λb o e l=>?_,I.base.Mp,I.base.LZ,I.base.Mq⟩,⟨m,P.sameBut f (Ne.symm (Qv x c hc)),λj y O g t L=>?_⟩,λy D e=>?_,I.free,I.Ks,λp J=>?_,tracked ⟨oc,Z,I.Ks x c hc⟩ f,by simpa using I.len⟩ ⟨c,f,.inr hc⟩
 ·exact(f.2 b (ne_of_lt (lt_of_lt_of_le (Heap.lt_size e) (I.ok.RC x c G hc)))).trans (I.base.keep b o e n B l)
 ·obtain⟨T,g⟩:=I.base.slot b o e n B l;exact⟨T,(f.2 b (ne_of_lt (lt_of_lt_of_le (Heap.lt_size e) (I.ok.RC x c G hc)))).trans g⟩
 ·obtain⟨R,g⟩:=I.base.there b o e l;exact⟨R,(f.2 b (ne_of_lt (lt_of_lt_of_le (Heap.lt_size e) (I.ok.RC x c G hc)))).trans g⟩
 ·by_cases C:j=i
  ·subst C;rw[hi] at g;cases g;rw[getElem?_set_self RF] at t;cases t;exact⟨u,r,.inr ⟨.inl hk,c,hc,ME⟩⟩
  rw[getElem?_set_ne (Ne.symm C)] at t;obtain⟨S,U,q⟩:=W j y O g t L;refine⟨S,U,?_⟩;rcases q with q |⟨k,D,e,z'⟩
  ·exact .inl q
  refine .inr ⟨k,D,e,z'.sameBut f ?_⟩;rintro rfl;exact C (uz hN g (I.ok.inj _ _ _ e hc▸hi))
 ·by_cases Y:D=c
  ·subst Y;exact⟨_,ME⟩
  obtain⟨w2,z2⟩:=I.cell y D e;exact⟨w2,z2.sameBut f Y⟩
 obtain⟨e,n,ne,K,d⟩:=I.pin p J;refine⟨(f.2 p.1 ?_).trans e,n,ne,K,d⟩;intro q;rw[q,Z] at e;have q':oc=p.2:=Option.some.inj e;exact d F (by rw[← q'];exact Up)
theorem t6 {M:Model}{A:Around}{E:Ia}{i:Nat}{x:Str}{v:V}{u:Value}{Q:Unit->Shared->Prop}(I:Inv X pins σ H s)(d:X.N.Nodup)(hi:X.N[i]?=some x)(c:Loc X.env.scope x)(r:RelV v u)
  (h:∀ s',Inv X pins (σ.set i (some v)) H s'->Q () s') (b:X.fn x=true∨X.env.scope.names.lookup x=some .local:=by first |exact .inl rfl |exact .inr rfl |assumption):wpAny M A (storeName X.env x u) Q E s:=
 p9 I d hi c r (λs' a _=>h s' a) b
theorem Inv.RG {s':Shared}{ch:List Addr}(I:Inv X pins σ H s)(f:s'.os=s.os)(u:Un (NO X.stack) ch H H' s.heap s'.heap)(IL:Kz X.prog X.w H' s'.heap)(g:AllBare s'.gens)
  (d:∀ b∈ch,(b∈X.ex∨X.s₀.heap.objs.size<=b)/\b≠X.env.locals/\(∀ x c,X.env.cells.lookup x=some c->c≠b)/\∀ p∈X.pn++pins,p.1≠b):Inv X pins σ H' s':=by
 obtain⟨h',g',d',t',a⟩:=s';have e:a=s.os:=f;subst e;exact I.call (g':=g') (t':=t') (d':=d') u IL g d
end
abbrev XK:=Value->Option Addr->Hp->Prop
abbrev St:=List (Option V)
abbrev VK:=V->Hp->Prop
abbrev TE:=St->Hp->VK->Prop
abbrev TT:=St->Hp->(Bool->Hp->Prop)->Prop
abbrev TA:=St->Hp->(List V->Hp->Prop)->Prop
structure Ends where
 nx:St->Hp->Prop
 rt:VK
 bk:St->Hp->Prop:=λ_ _=>False
 ct:St->Hp->Prop:=λ_ _=>False
abbrev TS:=Ends->St->Hp->Prop
def EP (X:Cx)(a:Ib)(c:St)(Q:VK)(u:Value)(s':Shared):Prop:=∃ v b,Inv X a c b s'/\RelV v u/\Q v b
def TP (X:Cx)(a:Ib)(d:St)(Q:Bool->Hp->Prop)(b:Bool)(s':Shared):Prop:=∃ c,Inv X a d c s'/\Q b c
def AP (X:Cx)(a:Ib)(d:St)(Q:List V->Hp->Prop)(us:List Value)(s':Shared):Prop:=∃ b c,Inv X a d c s'/\Vals b us/\Q b c
def SP (X:Cx)(b:Ib)(D:Ends)(f:Flow)(s':Shared):Prop:=
 match f with
 | .next => ∃ a c,Inv X b a c s'/\D.nx a c
 | .brk => ∃ a c,Inv X b a c s'/\D.bk a c
 | .cont => ∃ a c,Inv X b a c s'/\D.ct a c
 | .ret u => ∃ v a c,Inv X b a c s'/\RelV v u/\D.rt v c
def PE (X:Cx)(e:Expr)(t:TE):Prop:=
 ∀ (a:Ib) (s:Shared) (b:St) (H:Hp) (Q:VK),Inv X a b H s->t b H Q->wpAny (model X.prog X.w) X.A (eval e X.env) (EP X a b Q) X.xe s
def PT (X:Cx)(e:Expr)(t:TT):Prop:=
 ∀ (a:Ib) (s:Shared) (b:St) (H:Hp) (Q:Bool->Hp->Prop),Inv X a b H s->t b H Q->wpAny (model X.prog X.w) X.A (isTrue e X.env (eval e X.env)) (TP X a b Q) X.xe s
def PW (X:Cx)(e:Expr)(t:TT):Prop:=
 ∀ (whole:Sem Value) (a:Ib) (s:Shared) (b:St) (H:Hp) (Q:Bool->Hp->Prop),Inv X a b H s->t b H Q->wpAny (model X.prog X.w) X.A (isTrue e X.env whole) (TP X a b Q) X.xe s
theorem PW.pt {X:Cx}{e:Expr}{t:TT}(h:PW X e t):PT X e t:=h _
def PA (X:Cx)(es:List Expr)(t:TA):Prop:=
 ∀ (pos:Pos) (a:Ib) (s:Shared) (b:St) (H:Hp) (Q:List V->Hp->Prop),Inv X a b H s->t b H Q->wpAny (model X.prog X.w) X.A (spliced (backTo pos (starEach es X.env))) (AP X a b Q) X.xe s
def PS (X:Cx)(st:Stmt)(t:TS):Prop:=
 ∀ (a:Ib) (s:Shared) (b:St) (H:Hp) (D:Ends),Inv X a b H s->t D b H->wpAny (model X.prog X.w) X.A (exec st X.env) (SP X a D) X.xe s
def MI (X:Cx)(st:List Stmt)(t:TS):Prop:=
 ∀ (a:Ib) (s:Shared) (b:St) (H:Hp) (D:Ends),Inv X a b H s->t D b H->wpAny (model X.prog X.w) X.A (execs st X.env) (SP X a D) X.xe s
theorem IE {α:Type}{t:Sem α}{Q b : α->Shared->Prop}{M:Model}{A:Around}{E:Ia}{s:Shared}(h:wpAny M A t Q E s)(c:∀ a s,Q a s->b a s):wpAny M A t b E s:=wpAny_mono h c λ_ _ x=>x
section
variable {X:Cx}
theorem bin {a b:Expr}{m l:TE}(o:PE X a m)(D:PE X b l){c:Ib}{s:Shared}{e:St}{H:Hp}{R:V->V->Hp->Prop}(I:Inv X c e H s)(h:m e H λx k=>l e k λy d=>R x y d)
  {α:Type}{Q : α->Shared->Prop}{f:Value->Value->Sem α}
  (t:∀ v u j x y d,Inv X c e d j->RelV x v->RelV y u->R x y d->wpAny (model X.prog X.w) X.A (f v u) Q X.xe j) :
  wpAny (model X.prog X.w) X.A (eval a X.env) (λv i=>wpAny (model X.prog X.w) X.A (eval b X.env) (λu g=>wpAny (model X.prog X.w) X.A (f v u) Q X.xe g) X.xe i) X.xe s:=by
 refine IE (o c s e H _ I h) λv C Zq=>?_;obtain⟨x,k,n,r,q⟩:=Zq;refine IE (D c C e k _ n q) λu j Zq=>?_;obtain⟨y,d,p,z,B⟩:=Zq;exact t v u j x y d p r z B
def Fq (i:Nat):TE:=λa H Q => ∃ v,a[i]?=some (some v)/\Q v H
def tC (v:V):TE:=λ_ H Q=>Q v H
theorem Ax {i:Nat}{x:Str}{pos:Pos}(p:X.N[i]?=some x)(f:Tv X.env.scope x)(hd:(x==("__debug__":Str))=false:=by decide)(j:(x==("__classdict__":Str))=false:=by decide):PE X (.Name x pos) (Fq i):=by
 intro a s o H Q I h;obtain⟨v,e,h⟩:=h;obtain⟨m,k,g⟩:=I.loc;obtain⟨u,r,l⟩:=g i x v p e f;have fin:EP X a o Q u s:=⟨v,H,I,r,h⟩;rcases l with ⟨hk,n⟩ |⟨hk,c,d,b⟩
 ·exact wpAny_Name (wpAny_loadName_local I.ok.kind hk k n fin) hd
 rcases hk with hk |hk
 ·exact wpAny_Name (wpAny_loadName_cell I.ok.kind hk d b fin) hd
 exact wpAny_Name (wpAny_loadName_free I.ok.kind hk d b fin j) hd
theorem Qw {i j pos}:PE X (.Constant (.int i) j pos) (tC (.int i)):=λ_ _ _ H _ I h=>wpAny_Constant_int ⟨.int i,H,I.tok _,⟨_,rfl⟩,h⟩
theorem RH {b j pos}:PE X (.Constant (.bool b) j pos) (tC (.bl b)):=λ_ _ _ H _ I h=>Constant_bool ⟨.bl b,H,I,rfl,h⟩
theorem Qx {j pos}:PE X (.Constant .none j pos) (tC .Jm):=λ_ _ _ H _ I h=>Constant_none ⟨.Jm,H,I,rfl,h⟩
theorem Qy {x j pos}:PE X (.Constant (.str x) j pos) (tC (.str x)):=λ_ _ _ H _ I h=>Calls.Constant_str ⟨.str x,H,I.tok _,⟨_,rfl⟩,h⟩
def Gl (X:Cx)(x:Str):Prop:=X.env.kindOf x=some .globalImplicit
theorem r9 {E:Ia}{a:Ib}{s:Shared}{c:St}{H:Hp}{x:Str}{u:Value}{pos:Pos}{Q:Ia}(I:Inv X a c H s)(d:Gl X x)(b:X.mg x=some u)(h:Q u s)
  (hd:(x==("__debug__":Str))=false:=by decide):wpAny (model X.prog X.w) X.A (eval (.Name x pos) X.env) Q E s:=
 Calls.Name_function_global I.ok.kind d (Calls.loadGlobal_global (by rw[I.ok.glob];exact I.mod.glob.keeps I.bk) b h) hd
theorem j9 {E:Ia}{a:Ib}{s:Shared}{i:St}{H:Hp}{x:Str}{u:Value}{pos:Pos}{Q:Ia}(I:Inv X a i H s)(e:Gl X x)(g:X.mg x=none)(b:bootBuiltins x=some u)(h:Q u s)
  (f:x≠"__name__":=by decide) (hd:(x==("__debug__":Str))=false:=by decide):wpAny (model X.prog X.w) X.A (eval (.Name x pos) X.env) Q E s:=by
 obtain⟨j,d,c⟩:=I.mod.blt;exact Calls.Name_function_global I.ok.kind e (Calls.loadGlobal_builtin (by rw[I.ok.glob];exact I.mod.glob.keeps I.bk) g (by rw[I.ok.blt];exact d.keeps I.bk) ((c x f).trans b) h) hd
theorem Cw {x:Str}{v:V}{u:Value}{pos:Pos}(b:Gl X x)(a:X.mg x=some u)(r:RelV v u)(hd:(x==("__debug__":Str))=false:=by decide):PE X (.Name x pos) (tC v):=
 λ_ _ _ H _ I h=>r9 I b a ⟨v,H,I,r,h⟩ hd
theorem CB {x:Str}{v:V}{u:Value}{pos:Pos}(d:Gl X x)(a:X.mg x=none)(b:bootBuiltins x=some u)(r:RelV v u)(c:x≠"__name__":=by decide)(hd:(x==("__debug__":Str))=false:=by decide):PE X (.Name x pos) (tC v):=
 λ_ _ _ H _ I h=>j9 I d a b ⟨v,H,I,r,h⟩ c hd
variable {a b:Expr}{ta tb:TE}{pos:Pos}
def PC (X:Cx)(g:CmpOp)(a b:Expr)(t:TE):Prop:=
 ∀ (c:Ib) (s:Shared) (f:St) (H:Hp) (Q:VK),Inv X c f H s->t f H Q ->
  wpAny (model X.prog X.w) X.A (eval a X.env) (λv e=>wpAny (model X.prog X.w) X.A (eval b X.env) (λu d=>wpAny (model X.prog X.w) X.A (compareOp g v u) (EP X c f Q) X.xe d) X.xe e) X.xe s
theorem uA (b:Expr){a:CmpOp}(h:a≠.In)(d:a≠.NotIn):behindInMarks a b=false:=by
 have c:(a==CmpOp.In)=false:=by cases a<;>first |rfl |exact absurd rfl h
 have e:(a==CmpOp.NotIn)=false:=by cases a<;>first |rfl |exact absurd rfl d
 cases b<;>simp[behindInMarks,c,e]
def tB (t:TE):TT:=λb H Q=>t b H λx a => ∃ c,x = .bl c/\Q c a
theorem Ew {d:CmpOp}{t:TE}(h:PC X d a b t)(f:behindInMarks d b=false:=by first |exact uA _ (by decide) (by decide) |rfl):PE X (.Compare a [d] [b] pos) t:=λc s e H Q I g=>wpAny_Compare1 (h c s e H Q I g) f
theorem wo {g:CmpOp}{t:TE}(h:PC X g a b t)(f:behindInMarks g b=false:=by first |exact uA _ (by decide) (by decide) |rfl):PT X (.Compare a [g] [b] pos) (tB t):=by intro e s n H Q I o;refine wpAny_isTrue_Compare1 (IE (h e s n H _ I o) λv w f=>IE f λu r l=>IE l λc p Zq=>?_) f;obtain⟨x,m,i,k,j⟩:=Zq;obtain⟨d,rfl,q⟩:=j;cases k;exact wpAny_truthy_bool ⟨m,i,q⟩
theorem Eg {e:Expr}{t:TE}(h:PE X e t)(g:∀ whole,isTrue e X.env whole=(do let v ← whole;standAt e.pos;holding [v] (truthy v)):=by intro _;rfl):PT X e (tB t):=by intro a s j H Q I k;refine isTrue_plain (IE (h a s j H _ I k) λv l Zq=>?_) (g _);obtain⟨x,i,b,f,c⟩:=Zq;obtain⟨d,rfl,q⟩:=c;cases f;exact wpAny_truthy_bool ⟨i,b,q⟩
variable {tA Tz:TT}{rest:List Expr}
def GN (t u:TT):TT:=λb H Q=>t b H λc a=>if c=true then u b a Q else Q false a
def Xx (t u:TT):TT:=λb H Q=>t b H λc a=>if c=true then Q true a else u b a Q
def GI (t:TT):TT:=λb H Q=>t b H λc a=>Q (!c) a
theorem Ci (d:PT X a tA):PW X (.BoolOp .And [a] pos) tA:=by
 intro i b s f H Q I h;refine isTrue_and (IE (d b s f H Q I h) λc g e=>?_);cases c with
 |true=>exact isTrue_and_nil e
 |false=>exact e
theorem Ec (d:PT X a tA):PW X (.BoolOp .Or [a] pos) tA:=by
 intro i b s f H Q I h;refine isTrue_or (IE (d b s f H Q I h) λc g e=>?_);cases c with
 |false=>exact isTrue_or_nil e
 |true=>exact e
theorem Ed (j:PT X a tA)(m:PW X (.BoolOp .And (b::rest) pos) Tz):PW X (.BoolOp .And (a::b::rest) pos) (GN tA Tz):=by
 intro k d s i H Q I h;refine isTrue_and (IE (j d s i H _ I h) λc l Zq=>?_);obtain⟨g,e,f⟩:=Zq;cases c with
 |true=>exact m k d l i g Q e f
 |false=>exact⟨g,e,f⟩
theorem FI (j:PT X a tA)(m:PW X (.BoolOp .Or (b::rest) pos) Tz):PW X (.BoolOp .Or (a::b::rest) pos) (Xx tA Tz):=by
 intro k d s i H Q I h;refine isTrue_or (IE (j d s i H _ I h) λc l Zq=>?_);obtain⟨g,e,f⟩:=Zq;cases c with
 |true=>exact⟨g,e,f⟩
 |false=>exact m k d l i g Q e f
theorem Eh (d:PT X a tA):PT X (.UnaryOp .Not a pos) (GI tA):=by intro b s f H Q I h;exact isTrue_not (d b s f H (λc e=>Q (!c) e) I h)
def FB (ta tb:TE):TE:=λb H Q=>ta b H λx a => ∃ c,x = .bl c/\if c=true then tb b a Q else Q (.bl false) a
def Ft (ta:TE):TE:=λb H Q=>ta b H λx a => ∃ c,x = .bl c/\Q (.bl (!c)) a
theorem Es {op}{t:TE}(h:PE X a t):PE X (.BoolOp op [a] pos) t:=λb s c H Q I d=>BoolOp_one (h b s c H Q I d)
theorem Ey (j:PE X a ta)(m:PE X (.BoolOp .And (b::rest) pos) tb):PE X (.BoolOp .And (a::b::rest) pos) (FB ta tb):=by
 intro d s i H Q I h;refine BoolOp_and (IE (j d s i H _ I h) λv l Zq=>?_);obtain⟨x,g,f,k,e⟩:=Zq;obtain⟨c,rfl,e⟩:=e;cases k;refine wpAny_truthy_bool ?_;cases c with
 |true=>exact m d l i g Q f e
 |false=>exact⟨.bl false,g,f,rfl,e⟩
theorem Et (g:PE X a ta):PE X (.UnaryOp .Not a pos) (Ft ta):=by intro b s j H Q I h;refine UnaryOp_ (IE (g b s j H _ I h) λv k Zq=>?_);obtain⟨x,i,e,f,d⟩:=Zq;obtain⟨c,rfl,d⟩:=d;cases f;exact not_of (wpAny_truthy_bool ⟨.bl (!c),i,e,rfl,d⟩)
def Xy (t:TT)(ta tb:TE):TE:=λa H Q=>t a H λc b=>if c=true then ta a b Q else tb a b Q
theorem Az {c:Expr}(m:PT X c tA)(l:PE X a ta)(n:PE X b tb):PE X (.IfExp c a b pos) (Xy tA ta tb):=by
 intro e s f H Q I h;refine wpAny_IfExp (IE (m e s f H _ I h) λd k Zq=>?_);obtain⟨j,g,i⟩:=Zq;cases d with
 |true=>exact l e k f j Q g i
 |false=>exact n e k f j Q g i
end
def Lw (K:H_)(H:Hp)(a:Addr)(xs:List V):Prop:=
 Rd H a (.lst xs) ∨
  ∃ (o:Obj) (its:Array Value) (n:Nat),K.lookup a=some o/\o.cls = .type "list"/\o.dict=none/\o.data = .seq its n/\its.size<=sizeLine/\Vals xs its.toList
def LW (K:H_)(H:Hp)(a:Addr)(xs:List V):Prop:=
 Rd H a (.tup xs) ∨
  ∃ (o:Obj) (its:Array Value) (n:Nat),K.lookup a=some o/\o.cls = .type "tuple"/\o.data = .seq its n/\its.size<=sizeLine/\Vals xs its.toList
def Hm:Value->Option V
 | .none=>some .Jm
 | .bool b=>some (.bl b)
 | .int i _=>some (.int i)
 | .str x _=>some (.str x)
 | .bytes b _=>some (.Tt b)
 | .float b _=>some (.Rg b)
 | .ref a=>some (.ref a)
 | .type n=>some (.ty n)
 |_=>none
theorem RelV.abs {x:V}{u:Value}(r:RelV x u):Hm u=some x:=by
 cases x with
 |Jm=>cases r;rfl
 |bl _=>cases r;rfl
 |int _=>obtain⟨t,rfl⟩:=r;rfl
 |str _=>obtain⟨t,rfl⟩:=r;rfl
 |Tt _=>obtain⟨t,rfl⟩:=r;rfl
 |Rg _=>obtain⟨t,rfl⟩:=r;rfl
 |ref _=>cases r;rfl
 |ty _=>cases r;rfl
theorem RelV.inj {x y:V}{u:Value}(r:RelV x u)(q:RelV y u):x=y:=Option.some.inj (r.abs.symm.trans q.abs)
theorem Vals.inj:∀ {xs ys:List V}{us:List Value},Vals xs us->Vals ys us->xs=ys
 |_,_,_,.nil,.nil=>rfl
 |_,_,_,.cons r t,.cons a b=>by rw[r.inj a,Vals.inj t b]
section
variable {X:Cx}{pins:Ib}{σ:St}{H:Hp}{s:Shared}{a:Addr}{xs ys:List V}
theorem Inv.list (I:Inv X pins σ H s)(h:Lw X.K H a xs):∃ its:List Value,Vals xs its/\PlainL s.heap a its.toArray/\xs.length<=sizeLine:=by
 rcases h with h |⟨o,its,n,c,b,hd,d,f,r⟩
 ·obtain⟨z,its,n,r,e⟩:=h.ok I.IL;exact⟨its,r,⟨_,n,e,rfl,rfl,rfl⟩,z⟩
 refine⟨its.toList,r,⟨o,n,I.L9 a o c,b,hd,by simpa using d⟩,?_⟩;have e:=r.length;simp only[length_toList] at e;omega
theorem Inv.tuple (I:Inv X pins σ H s)(h:LW X.K H a xs):∃ its:List Value,Vals xs its/\IsTup s.heap a its.toArray/\xs.length<=sizeLine:=by
 rcases h with h |⟨o,its,n,c,b,d,f,r⟩
 ·obtain⟨z,its,r,p⟩:=h.ok I.IL;exact⟨its,r,p.tup,z⟩
 refine⟨its.toList,r,⟨o,I.L9 a o c,b,n,by simpa using d⟩,?_⟩;have e:=r.length;simp only[length_toList] at e;omega
theorem Inv.Lz (I:Inv X pins σ H s)(h:Lw X.K H a xs)(h':Lw X.K H a ys):xs=ys:=by
 obtain⟨its,r,⟨o,n,e,_,_,d⟩,_⟩:=I.list h;obtain⟨b,g,⟨k,j,c,_,_,f⟩,_⟩:=I.list h';rw[e] at c;cases c;rw[d] at f;injection f with i _
 have:its=b:=by simpa using congrArg Array.toList i
 subst this;exact r.inj g
theorem Inv.K4 (I:Inv X pins σ H s)(h:LW X.K H a xs)(h':LW X.K H a ys):xs=ys:=by
 obtain⟨its,r,⟨o,e,_,n,d⟩,_⟩:=I.tuple h;obtain⟨b,g,⟨k,c,_,j,f⟩,_⟩:=I.tuple h';rw[e] at c;cases c;rw[d] at f;injection f with i _
 have:its=b:=by simpa using congrArg Array.toList i
 subst this;exact r.inj g
end
abbrev Cx.L0 (X:Cx)(E:Ia):Cx:={ X with xe:=E }
abbrev Cx.Ou (X:Cx):Cx:=X.L0 λ_ _=>False
theorem Cx.Ok.L0 {X:Cx}(ok:X.Ok)(E:Ia):(X.L0 E).Ok:=
 ⟨ok.mod,ok.kind,ok.glob,ok.blt,ok.above,ok.inj,ok.has,ok.RC,ok.hd,ok.frames,ok.Tw,ok.VT,ok.bs,ok.Pe,ok.Ot,ok.Pg,ok.Lm,ok.Qu⟩
theorem Cx.Ok.Kb {X:Cx}{E:Ia}(ok:(X.L0 E).Ok):X.Ok:=
 ⟨ok.mod,ok.kind,ok.glob,ok.blt,ok.above,ok.inj,ok.has,ok.RC,ok.hd,ok.frames,ok.Tw,ok.VT,ok.bs,ok.Pe,ok.Ot,ok.Pg,ok.Lm,ok.Qu⟩
section
variable {X:Cx}{pins:Ib}{σ:St}{H:Hp}{s:Shared}{E:Ia}
theorem Inv.L0 (I:Inv X pins σ H s)(E:Ia):Inv (X.L0 E) pins σ H s:=⟨I.ok.L0 E,I.os,I.bare,I.base,I.loc,I.cell,I.free,I.Ks,I.pin,I.IL,I.len⟩
theorem Inv.Kb (I:Inv (X.L0 E) pins σ H s):Inv X pins σ H s:=⟨I.ok.Kb,I.os,I.bare,I.base,I.loc,I.cell,I.free,I.Ks,I.pin,I.IL,I.len⟩
theorem SP.Kb {D:Ends}{f:Flow}{s':Shared}(h:SP (X.L0 E) pins D f s'):SP X pins D f s':=by
 cases f with
 |next=>obtain⟨a,b,I,q⟩:=h;exact⟨a,b,I.Kb,q⟩
 |brk=>obtain⟨a,b,I,q⟩:=h;exact⟨a,b,I.Kb,q⟩
 |cont=>obtain⟨a,b,I,q⟩:=h;exact⟨a,b,I.Kb,q⟩
 |ret u=>obtain⟨v,a,b,I,r,q⟩:=h;exact⟨v,a,b,I.Kb,r,q⟩
theorem MI.Ou {st:List Stmt}{t:TS}(h:MI X.Ou st t):MI X st t:=λpins s σ H D I a =>
 wpAny_mono (h pins s σ H D (I.L0 _) a) (λ_ _ q=>q.Kb) λ_ _ z=>False.elim z
end
section
variable {X:Cx}{st:Stmt}{rest:List Stmt}{t u:TS}{e:Expr}{te:TE}{pos:Pos}
def Fu:TS:=λD a H=>D.nx a H
def Fr (t u:TS):TS:=λD a H=>t { D with nx:=u D } a H
theorem Ph:MI X [] Fu:=λ_ _ a H _ I h=>wpAny_execs_nil ⟨a,H,I,h⟩
theorem Aq (g:PS X st t)(e:MI X rest u):MI X (st::rest) (Fr t u):=by
 intro a s j H D I h;refine wpAny_execs_cons (IE (g a s j H { D with nx:=u D } I h) λf i q=>?_);cases f with
 |next =>
  obtain⟨b,d,c,q⟩:=q;exact e a i b d D c q
 |ret v=>exact q
 |brk=>exact q
 |cont=>exact q
theorem Cj (c:PS X st t):MI X [st] t:=by
 intro a s b H D I h;refine wpAny_execs_cons (IE (c a s b H D I h) λf d q=>?_);cases f with
 |next=>exact wpAny_execs_nil q
 |ret v=>exact q
 |brk=>exact q
 |cont=>exact q
theorem Inv.quiet {a:Ib}{b:St}{H:Hp}{s:Shared}(I:Inv X a b H s):interactive X.env=false:=by simp[interactive,I.ok.kind]
def Fx (te:TE):TS:=λD a H=>te a H λ_ b=>D.nx a b
theorem Cm (d:PE X e te)(f:swapsWith e none pos.line X.env=pure false:=by rfl):PS X (.Expr e pos) (Fx te):=by intro a s b H D I h;exact wpAny_Expr_any (IE (d a s b H _ I h) λv j ⟨x,g,c,k,i⟩=>⟨b,g,c,i⟩) I.quiet f
def GH (te:TE):TS:=λD a H=>te a H D.rt
theorem Ej (f:PE X e te):PS X (.Return (some e) pos) (GH te):=by intro a s b H D I h;exact wpAny_Return_some (IE (f a s b H _ I h) λv j ⟨x,g,c,d,i⟩=>⟨x,b,g,c,d,i⟩)
def GK (c:TT)(t u:TS):TS:=λD a H=>c a H λb d=>if b=true then t D a d else u D a d
theorem FJ {c:Expr}{a b:List Stmt}{l:TT}(n:PT X c l)(m:MI X a t)(o:MI X b u):PS X (.If c a b pos) (GK l t u):=by
 intro e s f H D I h;refine wpAny_If (IE (n e s f H _ I h) λd k Zq=>?_);obtain⟨j,g,i⟩:=Zq;cases d with
 |true=>exact m e k f j D g i
 |false=>exact o e k f j D g i
end
abbrev TG:=V->St->Hp->(St->Hp->Prop)->Prop
abbrev Pj:=List V->St->Hp->(St->Hp->Prop)->Prop
def PG (X:Cx)(target:Expr)(t:TG):Prop:=
 ∀ (a:Ib) (s:Shared) (d:St) (H:Hp) (v:V) (u:Value) (Q:St->Hp->Prop),Inv X a d H s->RelV v u->t v d H Q ->
  wpAny (model X.prog X.w) X.A (assign target X.env u) (λ_ e => ∃ b c,Inv X a b c e/\Q b c) X.xe s
def PX (X:Cx)(ts:List Expr)(t:Pj):Prop:=
 ∀ (a:Ib) (s:Shared) (e:St) (H:Hp) (c:List V) (f:List Value) (Q:St->Hp->Prop),Inv X a e H s->Vals c f->t c e H Q ->
  wpAny (model X.prog X.w) X.A (assignInOrder ((assignEach ts X.env).map (·.2)) f) (λ_ g => ∃ b d,Inv X a b d g/\Q b d) X.xe s
section
variable {X:Cx}{pos:Pos}
def DH (i:Nat):TG:=λv a H Q=>Q (a.set i (some v)) H
theorem Cs {i:Nat}{x:Str}(e:X.N.Nodup)(hi:X.N[i]?=some x)(c:Loc X.env.scope x)(d:X.fn x=true∨X.env.scope.names.lookup x=some .local:=by first |exact .inl rfl |exact .inr rfl |assumption):PG X (.Name x pos) (DH i):=by intro a s g H v u Q I r h;exact wpAny_assign_Name (t6 I e hi c r (λf b=>⟨_,H,b,h⟩) d)
def G0:Pj:=λa b H Q=>a=[]/\Q b H
def F5 (t:TG)(u:Pj):Pj:=λb d H Q => ∃ v r,b=v::r/\t v d H λa c=>u r a c Q
theorem Pk:PX X [] G0:=by intro a s b H c d Q I r h;obtain⟨e,h⟩:=h;subst e;cases r;exact assignInOrder_nil ⟨b,H,I,h⟩
theorem Av {e:Expr}{es:List Expr}{t:TG}{u:Pj}(i:PG X e t)(f:PX X es u)
  (l:(assignEach (e::es) X.env).map (·.2)=assign e X.env::(assignEach es X.env).map (·.2):=by rfl):PX X (e::es) (F5 t u):=by
 intro a s n H p o Q I r h;obtain⟨v,q,j,h⟩:=h;subst j;cases r with
 |cons r g =>
  rw[l];refine assignInOrder_cons (IE (i a s n H _ _ _ I r h) λ_ m Zq=>?_);obtain⟨b,k,c,d⟩:=Zq;exact f a m b k _ _ Q c g d
def GZ (K:H_)(n:Nat)(t:Pj):TG:=λv c H Q => ∃ a b,v = .ref a/\LW K H a b/\b.length=n/\t b c H Q
theorem Ep {es:List Expr}{k:Nat}{t:Pj}{n:Nat}(A:X.calm=true)(h:PX X es t)
  (x:(assignEach es X.env).length=n:=by rfl) (q:(assignEach es X.env).findIdx? (·.1)=none:=by rfl):PG X (.Tuple es k pos) (GZ X.K n t):=by
 intro c s g H v u Q I r d;obtain⟨a,j,y,p,l,d⟩:=d;subst y;cases r;obtain⟨its,f,z,B⟩:=I.tuple p;refine assign_Tuple_tuple (I.ok.hd A) z (by simp[x,← l,f.length]) q λw m=>?_;have i:Inv X c g H { s with heap:=w }:=I.kept (t':=s.toks) λb o e=>m b o (ne_of_lt (Heap.lt_size e)) e;exact h c _ g H j _ Q i (by simpa using f) d
def FA (c:TE)(g:TG):TS:=λD a H=>c a H λx b=>g x a b D.nx
theorem Em {b e:Expr}{c:TE}{g:TG}(k:PE X e c)(m:PG X b g)(o:swapsWithSole [b] e pos.line X.env=pure false:=by rfl)(r:swappedStores [b] e X.env=pure none:=by rfl)
  (l:(assignEach [b] X.env).map (·.2)=[assign b X.env]:=by rfl):PS X (.Assign [b] e pos) (FA c g):=by
 intro a s d H D I h;refine wpAny_Assign_stores (IE (k a s d H _ I h) λv p Zq=>?_) o r;obtain⟨x,n,f,j,i⟩:=Zq;rw[l];exact IE (m a p d n x v _ f j i) λ_ t q=>q
theorem Ei {i:Nat}{x:Str}{e:Expr}{c:TE}{a:Pos}(q:X.N.Nodup)(hi:X.N[i]?=some x)(j:Loc X.env.scope x)(l:PE X e c)(o:swapsWith e (some (.Name x a)) pos.line X.env=pure false:=by rfl)(m:X.fn x=true∨X.env.scope.names.lookup x=some .local:=by first |exact .inl rfl |exact .inr rfl |assumption) :
  PS X (.Assign [.Name x a] e pos) (FA c (DH i)):=by
 intro b s p H D I h;refine wpAny_Assign_Name (IE (l b s p H _ I h) λv t Zq=>?_) o;obtain⟨y,n,d,k,g⟩:=Zq;exact t6 d q hi j k (λr f=>⟨_,n,f,g⟩) m
end
section
variable {X:Cx}{pos:Pos}
def zU (c:TT)(h:TS):TS:=λD a H => ∃ W:Nat->St->Hp->Prop,(∃ m,W m a H)/\∀ m a H,W m a H ->
 c a H λb e=>if b=true then ∃ N:St->Hp->Prop,(∀ d f,N d f->∃ g,g<m/\W g d f)/\h { D with nx:=N,ct:=N,bk:=D.nx } a e else D.nx a e
theorem Ar {c:Expr}{body:List Stmt}{E:TT}{y:TS}(C:PassesOwn (model X.prog X.w) X.A X.env X.xe)(P:PT X c E)(Q:MI X body y):PS X (.While c body [] pos) (zU E y):=by
 intro d s R H D I h;obtain⟨W,⟨J,G⟩,i⟩:=h;refine wpAny_While (codeAny_whileLoop (λn L => ∃ g u,Inv X d g u L/\W n g u) ?_ J ⟨R,H,I,G⟩);rintro n O ⟨e,z,F,K⟩;refine wpAny_passesOwn C (IE (P d O e z _ F (i n e z K)) λb M Zq=>?_);obtain⟨t,x,l⟩:=Zq;cases b with
 |true =>
  obtain⟨N,B,l⟩:=l;rw[if_pos rfl];refine wpAny_passesOwn C (IE (Q d M e t _ x l) λf S k=>?_);cases f with
  |next =>
   obtain⟨a,j,r,m⟩:=k;obtain⟨q,o,p⟩:=B a j m;exact⟨q,o,a,j,r,p⟩
  |cont =>
   obtain⟨a,j,r,m⟩:=k;obtain⟨q,o,p⟩:=B a j m;exact⟨q,o,a,j,r,p⟩
  |brk=>exact k
  |ret v=>exact k
 |false =>
  rw[if_neg Bool.false_ne_true];exact wpAny_execs_nil ⟨e,t,x,l⟩
end
structure It where
 go:Nat->Hp->Prop
 Nw:Nat->Hp->V->Hp->Prop
 stop:Nat->Hp->Prop
def jh (X:Cx)(a:Ib)(H:Hp)(b:Addr):Prop:=
 H b=none/\b≠X.env.locals/\b∉X.fs/\(b∈X.ex∨X.s₀.heap.objs.size<=b)/\(∀ x c,X.env.cells.lookup x=some c->c≠b)/\∀ p∈X.pn++a,p.1≠b
theorem Inv.LA {X:Cx}{a:Ib}{g:St}{H H':Hp}{s:Shared}{b:Addr}(I:Inv X a g H s)(d:s.heap.objs.size<=b)(h:H' b=none):jh X a H' b:=by
 refine⟨h,ne_of_gt (lt_of_lt_of_le I.lt d),I.Uj d,.inr (Nat.le_trans I.sz d),λx c e z=>?_,λp f z=>?_⟩
 ·obtain⟨v,q⟩:=I.cell x c e;exact absurd (lt_of_lt_of_le q.lt (by rw[z];exact d)) (Nat.lt_irrefl _)
 exact absurd (lt_of_lt_of_le (Heap.lt_size (I.pin p f).1) (by rw[z];exact d)) (Nat.lt_irrefl _)
structure Turn (P:Program) (w:World) (K:H_) (tg:Expr) (J:It) (fp:List Addr) (it:Addr) (tn:Nat->Heap->Prop):Prop where
 mem:it∈fp
 obj:∀ i h,tn i h->∀ b∈fp,∃ o,h.get? b=some o/\∀ v,o.data≠.cell v
 keep:∀ i h h',tn i h->(∀ b∈fp,∀ o,h.get? b=some o->h'.get? b=some o)->tn i h'
 item:∀ (X:Cx),X.prog=P->X.w=w->X.K=K->X.calm=true->∀ (i:Nat) (pins:Ib) (s:Shared) (σ:St) (H:Hp) (E:Ia),Inv X pins σ H s->(∀ b∈fp,jh X pins H b)->tn i s.heap->J.go i H ->
  wpAny (model P w) X.A (pyNext (.ref it)) (λr s1 => ∃ u,r=some u /\
   wpAny (model P w) X.A (letOwnedTupleGo tg (.ref it) u) (λ_ s2 => ∃ x H',Inv X pins σ H' s2/\RelV x u/\J.Nw i H x H'/\tn (i+1) s2.heap/\∀ b∈fp,H' b=none) E s1) E s
 done:∀ (X:Cx),X.prog=P->X.w=w->X.K=K->X.calm=true->∀ (i:Nat) (pins:Ib) (s:Shared) (σ:St) (H:Hp) (E:Ia),Inv X pins σ H s->(∀ b∈fp,jh X pins H b)->tn i s.heap->J.stop i H ->
  wpAny (model P w) X.A (pyNext (.ref it)) (λr s1=>r=none/\Inv X pins σ H s1) E s
 self:∀ (A:Around) (i:Nat) (s:Shared) (Q:Ia) (E:Ia),tn i s.heap->Q (.ref it) s->wpAny (model P w) A (pyIter (.ref it)) Q E s
abbrev TI:=St->Hp->(It->Hp->Prop)->Prop
def VX (X:Cx)(a:Ib)(g:St)(f:Expr)(R:It->Hp->Prop)(h:Value)(d:Shared):Prop:=
 ∃ (it:Addr) (fp:List Addr) (e:Nat->Heap->Prop) (J:It) (c:Hp),h = .ref it/\Inv X a g c d/\Turn X.prog X.w X.K f J fp it e/\e 0 d.heap/\(∀ b∈fp,jh X a c b)/\R J c
def PI (X:Cx)(e iter:Expr)(d:TI):Prop:=
 ∀ (a:Ib) (s:Shared) (b:St) (H:Hp) (R:It->Hp->Prop),Inv X a b H s->d b H R ->
  wpAny (model X.prog X.w) X.A (eval iter X.env) (λv c=>wpAny (model X.prog X.w) X.A (pyIter v) (VX X a b e R) X.xe c) X.xe s
theorem xU {M:Model}{A:Around}{E:Ia}{s:Shared}{b:Expr}{it:Addr}{u:Value}{o:Obj}{n:String}{vs:Array Value}{Q:Unit->Shared->Prop}(c:s.heap.get? it=some o)(e:o.cls = .type n)(hd:o.data = .fields vs)
  (d:["enumerate","zip","dict_itemiterator","dict_reverseitemiterator","odict_iterator","itertools.zip_longest","itertools.pairwise"].contains n=false) (a:Q () s):wpAny M A (letOwnedTupleGo b (.ref it) u) Q E s:=by
 unfold letOwnedTupleGo
 cases b<;>first
  |exact wpAny_pure a
  |(cases u<;>first
    |exact wpAny_pure a
    |(refine wpAny_bind (wpAny_load c ?_)
      rw[e,hd];show wpAny M A (if (["enumerate","zip","dict_itemiterator","dict_reverseitemiterator","odict_iterator","itertools.zip_longest","itertools.pairwise"].contains n&&vs[0]?==some (rawInt _))=true then _ else _) Q E s;rw[if_neg (by intro h;rw[d,Bool.false_and] at h;cases h)]
      exact wpAny_pure a))
def Uq (K:H_)(a:Addr):It:=
 ⟨λi H => ∃ b x,Lw K H a b/\b[i]?=some x,λi H x c=>c=H/\∀ b,Lw K H a b->b[i]?=some x,λi H => ∃ b,Lw K H a b/\b.length<=i⟩
def Ur (K:H_)(a:Addr):It:=
 ⟨λi H => ∃ b x,LW K H a b/\b[i]?=some x,λi H x c=>c=H/\∀ b,LW K H a b->b[i]?=some x,λi H => ∃ b,LW K H a b/\b.length<=i⟩
def TC (lo:Int)(n:Nat):It:=⟨λi _=>i<n,λi H x a=>a=H/\x = .int (lo+i),λi _=>n<=i⟩
theorem yu {P:Program}{w:World}{K:H_}{S:Expr}(a it:Addr):Turn P w K S (Uq K a) [it] it (λi h=>h.IsListIter it a i) where
 mem:=by simp
 obj:=λi h st b g=>by
  have e:b=it:=by simpa using g
  subst e;obtain⟨o,e,c,d⟩:=st;exact⟨o,e,λv z=>by rw[d] at z;cases z⟩
 keep:=λi h m st k=>st.at λo e=>k it (by simp) o e
 item:=by
  intro X C G D L i f s M H E I l st t;subst C G D;obtain⟨Q,x,j,r⟩:=t;obtain⟨its,n,p,W⟩:=I.list j;obtain⟨u,V,O⟩:=n.get r;obtain⟨B,A,R,y,q,F⟩:=l it (by simp);refine wpAny_pyNext_list_item st p.isList (x:=u) (by simpa using V) λm J sb=>?_;have N:Inv X f M H { s with heap:=m }:=I.turned (t':=s.toks) (λb o g e=>(sb.2 b g).trans e) B A y q F;obtain⟨o,e,c,d⟩:=id J;exact⟨u,rfl,xU (s:={ s with heap:=m }) e c d (by decide) ⟨x,H,N,O,⟨rfl,λZ U=>by rw[I.Lz U j];exact r⟩,J,λb g=>(l b g).1⟩⟩
 done:=by
  intro X C G D L i f s M H E I l st t;subst C G D;obtain⟨Q,j,r⟩:=t;obtain⟨its,n,p,W⟩:=I.list j;obtain⟨B,A,R,y,q,F⟩:=l it (by simp);have Y:=n.length;exact wpAny_pyNext_list_end (I.ok.hd L) st p.isList (by simp;omega) λm T=>⟨rfl,I.turned (t':=s.toks) (λb o g e=>T b o g e) B A y q F⟩
 self:=λ_ _ _ _ _ st h=>wpAny_pyIter_listiter st h
theorem vV {P:Program}{w:World}{K:H_}{S:Expr}(a it:Addr):Turn P w K S (Ur K a) [it] it (λi h=>h.IsTupleIter it a i) where
 mem:=by simp
 obj:=λi h st b g=>by
  have e:b=it:=by simpa using g
  subst e;obtain⟨o,e,c,d⟩:=st;exact⟨o,e,λv z=>by rw[d] at z;cases z⟩
 keep:=λi h m st k=>st.at λo e=>k it (by simp) o e
 item:=by
  intro X C G D L i f s M H E I l st t;subst C G D;obtain⟨Q,x,j,r⟩:=t;obtain⟨its,n,p,W⟩:=I.tuple j;obtain⟨u,V,O⟩:=n.get r;obtain⟨B,A,R,y,q,F⟩:=l it (by simp);refine wpAny_pyNext_tuple_item st (show s.heap.IsTuple a its.toArray from p) (x:=u) (by simpa using V) λm J sb=>?_;have N:Inv X f M H { s with heap:=m }:=I.turned (t':=s.toks) (λb o g e=>(sb.2 b g).trans e) B A y q F;obtain⟨o,e,c,d⟩:=id J;exact⟨u,rfl,xU (s:={ s with heap:=m }) e c d (by decide) ⟨x,H,N,O,⟨rfl,λZ U=>by rw[I.K4 U j];exact r⟩,J,λb g=>(l b g).1⟩⟩
 done:=by
  intro X C G D L i f s M H E I l st t;subst C G D;obtain⟨Q,j,r⟩:=t;obtain⟨its,n,p,W⟩:=I.tuple j;obtain⟨B,A,R,y,q,F⟩:=l it (by simp);have Y:=n.length;exact wpAny_pyNext_tuple_end (I.ok.hd L) st (show s.heap.IsTuple a its.toArray from p) (by simp;omega) λm T=>⟨rfl,I.turned (t':=s.toks) (λb o g e=>T b o g e) B A y q F⟩
 self:=λ_ _ _ _ _ st h=>wpAny_pyIter_tupleiter st h
theorem vW {P:Program}{w:World}{K:H_}{G:Expr}(it:Addr)(lo:Int)(n:Nat):Turn P w K G (TC lo n) [it] it (λi h=>IsRangeIter h it (lo+(i:Nat)*1) ((n:Int)-(i:Nat)) 1) where
 mem:=by simp
 obj:=λi h st b c=>by
  have e:b=it:=by simpa using c
  subst e
  exact⟨_,st,λv z=>by
   have M:Data.fields _=Data.cell v:=z
   cases M⟩
 keep:=λi h f st k=>k it (by simp) _ st
 item:=by
  intro X q y r u i a s B H E I d st j;subst q y r;obtain⟨p,m,F,l,g,x⟩:=d it (by simp);have W:=Walks.range (prog:=X.prog) (w:=X.w) (I.ok.hd u) it lo 1 n;refine W.item i s _ _ j st λv f tk D A L=>?_;obtain⟨t,rfl⟩:=D;have C:Inv X a B H { s with heap:=f,toks:=tk }:=I.turned (λb o c e=>L b o (by simpa using c) e) p m l g x;refine⟨_,rfl,xU (s:={ s with heap:=f,toks:=tk }) (n:="range_iterator") A rfl rfl (by decide) ⟨.int (lo+i),H,C,⟨t,?_⟩,⟨rfl,rfl⟩,A,λb c=>(d b c).1⟩⟩;rw[Int.mul_one]
 done:=by
  intro X q y r u i a s B H E I d st j;subst q y r;obtain⟨p,m,F,l,g,x⟩:=d it (by simp);exact wpAny_pyNext_range_end (I.ok.hd u) st (by have:n<=i:=j;omega) λf J=>⟨rfl,I.turned (t':=s.toks) (λb o c e=>J b o c e) p m l g x⟩
 self:=λ_ _ _ _ _ st h=>wpAny_pyIter_rangeiter st h
section
variable {X:Cx}{tg:Expr}
def F4 (K:H_)(c:TE):TI:=λe H R=>c e H λx b => ∃ a,x = .ref a/\(∃ d,Lw K b a d)/\R (Uq K a) b
def GY (K:H_)(c:TE):TI:=λe H R=>c e H λx b => ∃ a,x = .ref a/\(∃ d,LW K b a d)/\R (Ur K a) b
theorem Cr {l:Expr}{g:TE}(i:PE X l g):PI X tg l (F4 X.K g):=by
 intro c s r H R I h;refine IE (i c s r H _ I h) λv f Zq=>?_;obtain⟨x,m,d,k,j⟩:=Zq;obtain⟨a,e,⟨w,t⟩,q⟩:=j;subst e;cases k;obtain⟨its,u,p,y⟩:=d.list t;refine wpAny_pyIter_list p.isList ?_;refine⟨f.heap.objs.size,[f.heap.objs.size],_,_,m,rfl,d.kept (t':=f.toks) λb o e=>Heap.get?_push_of_some _ e,yu a _,⟨_,Heap.get?_push_size _ rfl,rfl,rfl⟩,λb n=>?_,q⟩;have e:b=f.heap.objs.size:=by simpa using n
 subst e;exact d.LA (le_refl _) (d.IL.fresh (le_refl _))
theorem Eo {l:Expr}{g:TE}(i:PE X l g):PI X tg l (GY X.K g):=by
 intro c s r H R I h;refine IE (i c s r H _ I h) λv d Zq=>?_;obtain⟨x,m,f,k,j⟩:=Zq;obtain⟨a,e,⟨w,t⟩,q⟩:=j;subst e;cases k;obtain⟨its,u,p,y⟩:=f.tuple t;refine wpAny_pyIter_tuple (show d.heap.IsTuple a its.toArray from p) ?_;refine⟨d.heap.objs.size,[d.heap.objs.size],_,_,m,rfl,f.kept (t':=d.toks) λb o e=>Heap.get?_push_of_some _ e,vV a _,⟨_,Heap.get?_push_size _ rfl,rfl,rfl⟩,λb n=>?_,q⟩;have e:b=d.heap.objs.size:=by simpa using n
 subst e;exact f.LA (le_refl _) (f.IL.fresh (le_refl _))
theorem Am {a:Ib}{d:St}{H:Hp}{s:Shared}{R:It->Hp->Prop}{E:Ia}{lo hi:Int}{t u v:Tok}{tk:Nat}(I:Inv X a d H s)(i : -(2 ^ 62)<=lo)(h:lo<2 ^ 62)(g : -(2 ^ 62)<=hi)(k:hi<2 ^ 62)
  (q:R (TC lo (hi-lo).toNat) H):wpAny (model X.prog X.w) X.A (pyIter (.ref s.heap.objs.size)) (VX X a d tg R) E { s with heap:=s.heap.push { cls:=.type "range",data:=.fields #[.int lo t,.int hi u,.int 1 v] },toks:=tk }:=by
 refine wpAny_pyIter_range (IsRange.new ..) (small_one i h g k) ?_;have c:Inv X a d H { s with heap:=s.heap.push { cls:=.type "range",data:=.fields #[.int lo t,.int hi u,.int 1 v] },toks:=tk }:=I.kept λb o e=>Heap.get?_push_of_some _ e
 refine⟨(s.heap.push { cls:=.type "range",data:=.fields #[.int lo t,.int hi u,.int 1 v] }).objs.size,[(s.heap.push { cls:=.type "range",data:=.fields #[.int lo t,.int hi u,.int 1 v] }).objs.size],_,_,H,rfl,
  c.kept (t':=tk) λb o e=>Heap.get?_push_of_some _ e,vW _ lo (hi-lo).toNat,?_,λb l=>?_,q⟩
 ·have j:lo+((0:Nat):Int)*1=lo:=by simp
  have f:(((hi-lo).toNat:Nat):Int)-((0:Nat):Int)=Builtin.Range.rangeSize lo hi 1:=by rw[rangeSize_one];split<;>omega
  show IsRangeIter _ _ (lo+((0:Nat):Int)*1) ((((hi-lo).toNat:Nat):Int)-((0:Nat):Int)) 1;rw[j,f];exact Heap.get?_push_size _ rfl
 have e:b=(s.heap.push { cls:=.type "range",data:=.fields #[.int lo t,.int hi u,.int 1 v] }).objs.size:=by simpa using l
 subst e;exact c.LA (le_refl _) (c.IL.fresh (le_refl _))
def F3 (b:TA):TI:=λd H R=>b d H λa c => ∃ j:Int,a=[.int j]/\-(2 ^ 62)<=j/\j<2 ^ 62/\R (TC 0 j.toNat) c
theorem yM {a:Expr}{d:TA}{p pos:Pos}(l:Gl X "range")(m:X.mg "range"=none)(g:PA X [a] d)(o:starEach [a] X.env=[(false,eval a X.env)]:=by rfl):PI X tg (.Call (.Name "range" p) [a] [] pos) (F3 d):=by
 intro b s u H R I h;refine Call_ (j9 I l m boot_range (PyProof.Rows.callWith_type1 (IE (g pos b s u H _ I h) λv y Zq=>?_) o rfl));obtain⟨w,x,f,i,c⟩:=Zq;obtain⟨j,e,c,n,q⟩:=c;subst e;cases i with
 |cons r k =>
  cases k;obtain⟨t,rfl⟩:=r;exact call_range_1 (Am f (by omega) (by omega) c n (by simpa using q))
def GL (j:TI)(g:TG)(h:TS):TS:=λD a H=>j a H λJ k => ∃ W:Nat->Nat->St->Hp->Prop,(∃ m,W 0 m a k)/\∀ i m a H,W i m a H ->
 (J.stop i H/\D.nx a H)∨(J.go i H/\∃ N:St->Hp->Prop,(∀ c b,N c b->∃ e,e<m/\W (i+1) e c b)/\∀ x b,J.Nw i H x b->g x a b λd f=>h { D with nx:=N,ct:=N,bk:=D.nx } d f)
def lQ (fp:List Addr)(h:Heap):Ib:=fp.filterMap λb=>(h.get? b).map λo=>(b,o)
theorem ie {fp:List Addr}{h:Heap}{b:Addr}{o:Obj}(a:b∈fp)(e:h.get? b=some o):(b,o)∈lQ fp h:=List.mem_filterMap.mpr ⟨b,a,by rw[e];rfl⟩
theorem yT {fp:List Addr}{h:Heap}{p:Addr×Obj}(a:p∈lQ fp h):p.1∈fp/\h.get? p.1=some p.2:=by
 obtain⟨b,d,e⟩:=List.mem_filterMap.mp a;cases q:h.get? b with
 |none=>rw[q] at e;cases e
 |some o =>
  rw[q] at e;have c:(b,o)=p:=Option.some.inj e;subst c;exact⟨d,q⟩
theorem Inv.pinned {a:Ib}{g:St}{H:Hp}{s:Shared}{fp:List Addr}(I:Inv X a g H s)(j:∀ b∈fp,jh X a H b)(i:∀ b∈fp,∃ o,s.heap.get? b=some o/\∀ v,o.data≠.cell v):Inv X (a++lQ fp s.heap) g H s:=
 I.KJ λp m=>(mem_append.mp m).elim (λz=>I.pin p (mem_append_right _ z)) λz=>by
  obtain⟨f,e⟩:=yT z;obtain⟨l,k,h,_⟩:=j p.1 f;obtain⟨o,c,d⟩:=i p.1 f;rw[e] at c;cases c;exact⟨e,l,k,h,d⟩
theorem Inv.LB {a pl:Ib}{b:St}{H:Hp}{s:Shared}(I:Inv X (a++pl) b H s):Inv X a b H s:=I.KJ λp c=>I.pin p (mem_append_right _ (mem_append_left _ c))
theorem Ek {iter:Expr}{body:List Stmt}{Q:TI}{g:TG}{U:TS}{pos:Pos}(z:PassesOwn (model X.prog X.w) X.A X.env X.xe)(R:X.calm=true)(hi:PI X tg iter Q)(hg:PG X tg g)(q:MI X body U)
  (hs:∀ x,foldedSetIterable iter X.env x=pure x:=by intro _;rfl):PS X (.For tg iter body [] pos) (GL Q g U):=by
 intro c s σ H D I h;refine wpAny_For (IE (hi c s σ H _ I h) λv s1 h1=>IE h1 λTB s2 h2=>?_) hs;obtain⟨it,fp,Y,J,H2,e,I2,T,L_,O,W,⟨m0,w0⟩,B⟩:=h2;subst e;have K:∀ {t:Hp},(∀ b∈fp,t b=none)->∀ b∈fp,jh X c t b:=λhn b q=>⟨hn b q,(O b q).2⟩;refine codeAny_forLoop_any (λn s' => ∃ i p t,Inv X c p t s'/\Y i s'.heap/\(∀ b∈fp,t b=none)/\W i n p t) ?_ m0 ⟨0,σ,H2,I2,L_,λb q=>(O b q).1,w0⟩;rintro n S ⟨i,j,E,I3,Kp,P,w3⟩;rcases B i n j E w3 with ⟨stop,qn⟩ |⟨go,N,hN,step⟩
 ·refine wpAny_passesOwn z (IE (T.done X rfl rfl rfl R i c S j E X.xe I3 (K P) Kp stop) λr s4 Zq=>?_);obtain⟨F,I4⟩:=Zq;subst F;exact wpAny_execs_nil ⟨j,E,I4,qn⟩
 refine wpAny_passesOwn z (IE (T.item X rfl rfl rfl R i c S j E X.xe I3 (K P) Kp go) λr s4 Zq=>?_);obtain⟨u,F,h4⟩:=Zq;subst F;refine wpAny_passesOwn z (IE h4 λ_ V Zq=>?_);obtain⟨x,Z,I5,r5,y5,G,Ut⟩:=Zq;have Uu:=I5.pinned (K Ut) (T.obj _ _ G);refine wpAny_passesOwn z (IE (hg _ V j Z x u _ Uu r5 (step x Z y5)) λ_ s6 Zq=>?_);obtain⟨L,H6,I6,q6⟩:=Zq;refine wpAny_passesOwn z (IE (q _ s6 L H6 _ I6 q6) λf M y=>?_);have again:∀ {a:St}{l:Hp},Inv X (c++lQ fp V.heap) a l M->N a l->∃ m,m<n/\∃ i p t,Inv X c p t M/\Y i M.heap/\(∀ b∈fp,t b=none)/\W i m p t:=λ{a l} k C=>by obtain⟨m',hm,w7⟩:=hN a l C;refine⟨m',hm,i+1,a,l,k.LB,T.keep _ _ _ G λb q o e=>(k.pin (b,o) (mem_append_right _ (mem_append_right _ (ie q e)))).1,λb q=>?_,w7⟩;obtain⟨o,e,d⟩:=T.obj _ _ G b q;exact(k.pin (b,o) (mem_append_right _ (mem_append_right _ (ie q e)))).2.1
 cases f with
 |next=>obtain⟨a,l,k,C⟩:=y;exact again k C
 |cont=>obtain⟨a,l,k,C⟩:=y;exact again k C
 |brk=>obtain⟨a,l,k,y⟩:=y;exact⟨a,l,k.LB,y⟩
 |ret v=>obtain⟨x7,a,l,k,r7,y⟩:=y;exact⟨x7,a,l,k.LB,r7,y⟩
end
abbrev R2:=V->V->Hp->VK->Prop
def LC (X:Cx)(f:Value->Value->Sem Value)(r:R2):Prop:=
 ∀ (a:Ib) (s:Shared) (b:St) (H:Hp) (x y:V) (v u:Value) (Q:VK),Inv X a b H s->RelV x v->RelV y u->r x y H Q ->
  wpAny (model X.prog X.w) X.A (f v u) (EP X a b Q) X.xe s
def TF (X:Cx)(f:Value->Sem Value)(r:V->Hp->VK->Prop):Prop:=
 ∀ (a:Ib) (s:Shared) (b:St) (H:Hp) (x:V) (v:Value) (Q:VK),Inv X a b H s->RelV x v->r x H Q ->
  wpAny (model X.prog X.w) X.A (f v) (EP X a b Q) X.xe s
def Jb (X:Cx)(f:Value)(r:List V->Hp->VK->Prop):Prop:=
 ∀ (a:Ib) (s:Shared) (c:St) (H:Hp) (b:List V) (d:List Value) (Q:VK),Inv X a c H s->Vals b d->r b H Q ->
  wpAny (model X.prog X.w) X.A (call f d) (EP X a c Q) X.xe s
def Rj (r:R2)(c b:TE):TE:=λa H Q=>c a H λx e=>b a e λy d=>r x y d Q
def Xz (r:V->Hp->VK->Prop)(a:TE):TE:=λc H Q=>a c H λx b=>r x b Q
def rI (C:Int->Int->Prop)(g:Int->Int->V):R2:=λx y H Q => ∃ i j,x = .int i/\y = .int j/\C i j/\Q (g i j) H
def QB (g:Int->Int->V):R2:=λx y H Q => ∃ i j,x = .int i/\y = .int j/\Q (g i j) H
def rU (g:Int->V):V->Hp->VK->Prop:=λx H Q => ∃ i,x = .int i/\Q (g i) H
section
variable {X:Cx}{a b c:Expr}{ta tb tc:TE}{pos:Pos}
theorem Ff (m:PE X a ta)(B:PE X b tb){c:Ib}{s:Shared}{e:St}{H:Hp}{R:V->V->Hp->Prop}(I:Inv X c e H s)
  (h:ta e H λx k=>tb e k λy d=>R x y d) {Q:Ia}{f:Value->Value->Sem Value}
  (q:∀ v u j x y d,Inv X c e d j->RelV x v->RelV y u->R x y d->wpAny (model X.prog X.w) X.A (f v u) Q X.xe j) :
  wpAny (model X.prog X.w) X.A (eval a X.env) (λv i=>wpAny (model X.prog X.w) X.A (eval b X.env) (λu g=>wpAny (model X.prog X.w) X.A (f v u) Q X.xe g) X.xe i) X.xe s:=by
 refine IE (m c s e H _ I h) λv z Zq=>?_;obtain⟨x,k,l,p,o⟩:=Zq;refine IE (B c z e k _ l o) λu j Zq=>?_;obtain⟨y,d,n,r,t⟩:=Zq;exact q v u j x y d n p r t
theorem FM {d:Operator}{r:R2}(j:LC X (binaryOp d) r)(f:PE X a ta)(m:PE X b tb):PE X (.BinOp a d b pos) (Rj r ta tb):=by intro c s n H Q I h;exact wpAny_BinOp (Ff f m I h λv u l x y e i k g q=>j c l n e x y v u Q i k g q)
theorem FL {d:UnaryOp}{r:V->Hp->VK->Prop}(i:TF X (unaryOp d) r)(j:PE X a ta):PE X (.UnaryOp d a pos) (Xz r ta):=by intro b s c H Q I h;exact UnaryOp_ (IE (j b s c H _ I h) λv f ⟨x,k,e,g,l⟩=>i b f c k x v Q e g l)
theorem Uv {f:Value->Value->Sem Value}{C:Int->Int->Prop}{g:Int->Int->Int}
  (rule:∀ (i j:Int) (t u:Tok) (s:Shared) (Q:Ia) (E:Ia),C i j->Q (.int (g i j) s.toks) { s with toks:=s.toks+1 }->wpAny (model X.prog X.w) X.A (f (.int i t) (.int j u)) Q E s) :
  LC X f (rI C λi j => .int (g i j)):=by
 intro a s k H x y v u Q I d c h;obtain⟨i,j,rfl,rfl,e,q⟩:=h;obtain⟨t,rfl⟩:=d;obtain⟨b,rfl⟩:=c;exact rule i j t b s _ _ e ⟨.int (g i j),H,I.tok _,⟨_,rfl⟩,q⟩
theorem FQ {f:Value->Value->Sem Value}{g:Int->Int->Int}
  (rule:∀ (i j:Int) (t u:Tok) (s:Shared) (Q:Ia) (E:Ia),Q (.int (g i j) s.toks) { s with toks:=s.toks+1 }->wpAny (model X.prog X.w) X.A (f (.int i t) (.int j u)) Q E s) :
  LC X f (QB λi j => .int (g i j)):=by
 intro a s e H x y v u Q I d c h;obtain⟨i,j,rfl,rfl,q⟩:=h;obtain⟨t,rfl⟩:=d;obtain⟨b,rfl⟩:=c;exact rule i j t b s _ _ ⟨.int (g i j),H,I.tok _,⟨_,rfl⟩,q⟩
theorem EE {f:Value->Value->Sem Value}{g:Int->Int->Bool}
  (rule:∀ (i j:Int) (t u:Tok) (s:Shared) (Q:Ia) (E:Ia),Q (.bool (g i j)) s->wpAny (model X.prog X.w) X.A (f (.int i t) (.int j u)) Q E s) :
  LC X f (QB λi j => .bl (g i j)):=by
 intro a s e H x y v u Q I d c h;obtain⟨i,j,rfl,rfl,q⟩:=h;obtain⟨t,rfl⟩:=d;obtain⟨b,rfl⟩:=c;exact rule i j t b s _ _ ⟨.bl (g i j),H,I,rfl,q⟩
def Ho (i j:Int):Prop:=0<j/\j<1073741824
def Pl (i j:Int):Prop:=(-(2 ^ 64)<i/\i<2 ^ 64)∨(-(2 ^ 64)<j/\j<2 ^ 64)
theorem Pl.ok {i j:Int}(h:Pl i j):IntMulOk i j:=by
 rcases h with ⟨b,a⟩ |⟨b,a⟩
 ·exact .of_left (intBits_le_64 b a)
 exact .of_right (intBits_le_64 b a)
theorem ED:LC X (binaryOp .Add) (QB λi j => .int (i+j)):=FQ λ_ _ _ _ _ _ _ q=>add_int q
theorem EA:LC X (binaryOp .Sub) (QB λi j => .int (i-j)):=FQ λ_ _ _ _ _ _ _ q=>sub_int q
theorem EB:LC X (binaryOp .Mult) (rI Pl λi j => .int (i*j)):=Uv λ_ _ _ _ _ _ _ a q=>mul_int q a.ok
theorem CD:LC X (binaryOp .FloorDiv) (rI Ho λi j => .int (i / j)):=Uv λi j _ _ _ _ _ a q=>by have c:(0:Int)<j:=a.1;have b:j<1073741824:=a.2;exact floordiv_int (by omega) (by rw[Int.fdiv_eq_ediv_of_nonneg i (by omega)];exact q) (.inl (PyProof.noPylong_small (by omega)))
theorem EC:LC X (binaryOp .Mod) (rI (λ_ j => 0<j) λi j => .int (i % j)):=Uv λi j _ _ _ _ _ a q=>by have b:(0:Int)<j:=a;exact mod_int' (by omega) (by rw[Int.fmod_eq_emod_of_nonneg i (by omega)];exact q)
theorem XA {f:Value->Sem Value}{g:Int->Int}
  (rule:∀ (i:Int) (t:Tok) (s:Shared) (Q:Ia) (E:Ia),Q (.int (g i) s.toks) { s with toks:=s.toks+1 }->wpAny (model X.prog X.w) X.A (f (.int i t)) Q E s) :
  TF X f (rU λi => .int (g i)):=by
 intro a s c H x v Q I b h;obtain⟨i,rfl,q⟩:=h;obtain⟨t,rfl⟩:=b;exact rule i t s _ _ ⟨.int (g i),H,I.tok _,⟨_,rfl⟩,q⟩
theorem DN:TF X (unaryOp .USub) (rU λi => .int (-i)):=XA λ_ _ _ _ _ q=>neg_int q
end
section
variable {X:Cx}{a b c:Expr}{ta tb tc:TE}{pos:Pos}
theorem EY {a:Ib}{c:St}{H:Hp}{s:Shared}{Q:VK}{k b:Bool}(I:Inv X a c H s)(q:Q (.bl k) H)(e:k=b):EP X a c Q (.bool b) s:=by subst e;exact⟨.bl k,H,I,rfl,q⟩
theorem FN:LC X (compareOp .Lt) (QB λi j => .bl (decide (i<j))):=EE λ_ _ _ _ _ _ _ q=>lt_int q
theorem FO:LC X (compareOp .LtE) (QB λi j => .bl (decide (i<=j))):=EE λ_ _ _ _ _ _ _ q=>le_int q
theorem FP:LC X (compareOp .Gt) (QB λi j => .bl (decide (j<i))):=EE λ_ _ _ _ _ _ _ q=>gt_int q
theorem yS:LC X (compareOp .Lt) (λx y H Q => ∃ i j,x = .str i/\y = .str j/\Q (.bl (decide (i.cps.toList<j.cps.toList))) H):=by intro a s e H x y v u Q I c b h;obtain⟨i,j,rfl,rfl,q⟩:=h;obtain⟨t,rfl⟩:=c;obtain⟨d,rfl⟩:=b;exact lt_str (EY I q rfl)
theorem wy (b:Expr){a:CmpOp}(h:a≠.In:=by decide)(d:a≠.NotIn:=by decide):behindInMarks a b=false:=by
 have c:(a==CmpOp.In)=false:=by cases a<;>first |rfl |exact absurd rfl h
 have e:(a==CmpOp.NotIn)=false:=by cases a<;>first |rfl |exact absurd rfl d
 cases b<;>simp[behindInMarks,c,e]
theorem Cz {d:CmpOp}{r:R2}(j:LC X (compareOp d) r)(f:PE X a ta)(n:PE X b tb)(k:behindInMarks d b=false):PE X (.Compare a [d] [b] pos) (Rj r ta tb):=by intro c s o H Q I h;exact wpAny_Compare1 (Ff f n I h λv u m x y e i l g q=>j c m o e x y v u Q i l g q) k
def JY (t:TE):TT:=λb H Q=>t b H λx a => ∃ k,x = .bl k/\Q k a
theorem xz {g:CmpOp}{r:R2}(q:LC X (compareOp g) r)(l:PE X a ta)(G:PE X b tb)(w:behindInMarks g b=false):PT X (.Compare a [g] [b] pos) (JY (Rj r ta tb)):=by
 intro d s f H Q I h
 refine wpAny_isTrue_Compare1 (IE (l d s f H _ I h) λv E ⟨x,C,i,p,o⟩=>IE (G d E f C _ i o) λu D ⟨y,j,n,A,B⟩ =>
  IE (q d D f j x y v u _ n p A B) λc K ⟨z,J,F,t,k,e,m⟩=>?_) w
 subst e;cases t;exact wpAny_truthy_bool ⟨J,F,m⟩
def v4 (r c:R2)(ta tb tc:TE):TE:=λa H Q=>ta a H λx g=>tb a g λy e=>r x y e λz b => ∃ k,z = .bl k /\
 (if k=true then tc a b λf d=>c y f d Q else Q (.bl false) b)
theorem AA {j i:CmpOp}{r n:R2}(G:LC X (compareOp j) r)(D:LC X (compareOp i) n)(A:PE X a ta)(Y:PE X b tb)(W:PE X c tc)
  (L:lastMarks [j,i] [b,c]=false:=by with_unfolding_all rfl):PE X (.Compare a [j,i] [b,c] pos) (v4 r n ta tb tc):=by
 intro f s g H Q I h
 refine Compare_chain (IE (A f s g H _ I h) λv U ⟨x,R,q,F,E⟩=>chain_link (IE (Y f U g R _ q E) λu T ⟨y,w,C,m,O⟩ =>
  IE (G f T g w x y v u _ C F m O) λd B ⟨z,p,o,K,k,e,l⟩=>?_)) L
 subst e;cases K;refine wpAny_truthy_bool ?_;cases k with
 |false=>exact ite_ff ⟨.bl false,p,o,rfl,l⟩
 |true=>exact ite_tt (chain_last (IE (W f B g p _ o l) λJ N ⟨S,M,V,t,P⟩=>D f N g M y S u J Q V m t P))
theorem Ap {j i:CmpOp}{r n:R2}(N:LC X (compareOp j) r)(G:LC X (compareOp i) n)(C:PE X a ta)(hb:PE X b tb)(hc:PE X c tc)
  (R:lastMarks [j,i] [b,c]=false:=by with_unfolding_all rfl):PT X (.Compare a [j,i] [b,c] pos) (JY (v4 r n ta tb tc)):=by
 intro f s g H Q I h
 refine isTrue_chain (IE (C f s g H _ I h) λv s1 ⟨x,W,q,M,J⟩=>test_link (IE (hb f s1 g W _ q J) λu s2 ⟨y,B,F,m,U⟩ =>
  IE (N f s2 g B x y v u _ F M m U) λd D ⟨z,p,o,P,k,e,l⟩=>?_)) R
 subst e;cases P;refine wpAny_truthy_bool ?_;cases k with
 |false =>
  obtain⟨k',E,q'⟩:=l;cases E;exact ite_ff ⟨p,o,q'⟩
 |true =>
  refine ite_tt (test_last (IE (hc f D g p _ o l) λO T ⟨Y,S,I4,w,V⟩=>IE (G f T g S y Y u O _ I4 m w V) λd' s5 Zq=>?_));obtain⟨z2,t,A,Z,k2,K,L⟩:=Zq;subst K;cases Z;exact wpAny_truthy_bool ⟨t,A,L⟩
theorem oI:(sizeLine:Nat)<2 ^ 63:=by rw[sizeLine_eq];decide
theorem ww:LC X (binaryOp .Add) (λx y H Q => ∃ i j,x = .str i/\y = .str j/\i.length+j.length<=sizeLine/\Q (.str (i++j)) H):=by intro a s f H x y v u Q I d c h;obtain⟨i,j,rfl,rfl,e,q⟩:=h;obtain⟨t,rfl⟩:=d;obtain⟨b,rfl⟩:=c;exact add_str (λb tk=>⟨.str (i++j),H,I.tok _,⟨_,rfl⟩,q⟩) e
theorem vals1 {x:V}{us:List Value}(r:Vals [x] us):∃ u,us=[u]/\RelV x u:=by
 cases r with
 |cons a b=>cases b;exact⟨_,rfl,a⟩
theorem vals2 {x y:V}{us:List Value}(r:Vals [x,y] us):∃ u a,us=[u,a]/\RelV x u/\RelV y a:=by
 cases r with
 |cons b c =>
  cases c with
  |cons e d=>cases d;exact⟨_,_,rfl,b,e⟩
theorem qT:Jb X (.type "int") (λxs H Q=>(∃ i,xs=[.int i]/\Q (.int i) H)∨∃ k,xs=[.bl k]/\Q (.int (if k then 1 else 0)) H):=by
 intro a s c H xs d Q I r h;rcases h with ⟨i,rfl,q⟩ |⟨k,rfl,q⟩
 ·obtain⟨u,rfl,t,rfl⟩:=vals1 r;exact call_int_int ⟨.int i,H,I,⟨_,rfl⟩,q⟩
 obtain⟨u,rfl,b⟩:=vals1 r;cases b;exact call_int_bool ⟨.int (if k then 1 else 0),H,I.tok _,⟨_,rfl⟩,q⟩
end
structure M7 (h:Heap) (x dx C:Addr) (mA:Ic):Prop where
 obj:h.get? x=some (PySem.W.instObj C dx)
 ns:h.Ns1 dx mA
 ne:dx≠x
theorem y_ {h:Heap}{d:Addr}{c:Ic}(n:h.Ns1 d c):∃ b,h.get? d=some b/\∀ name,PySem.W.lookIn name b=some (c name):=by
 obtain⟨o,es,ep,g,hd,i,_,j⟩:=n;refine⟨o,g,λname=>?_⟩;have e:=j name;unfold nsFind findBy at e;rw[← Array.find?_toList] at e;unfold PySem.W.lookIn;rw[hd];dsimp only;split
 ·rename_i y q;rw[q] at e;exact congrArg some e
 rename_i q;rw[q] at e;have a:es.toList.any (·.refKey)=false:=by rw[List.any_eq_false];intro y k;obtain⟨z,t,l⟩:=i y (Array.mem_toList_iff.mp k);simp[DictEntry.refKey,l]
 have f:¬ es.toList.any (·.refKey)=true:=by rw[a];exact Bool.false_ne_true
 rw[if_neg f];exact congrArg some e
theorem M7.look {h:Heap}{x c C:Addr}{b:Ic}(I:M7 h x c C b):∃ a,PySem.W.InstAt h x (PySem.W.instObj C c) C (some a)/\∀ name,PySem.W.lookIn name a=some (b name):=
 let ⟨a,d,e⟩:=y_ I.ns
 ⟨a,⟨I.obj,rfl,rfl,d⟩,e⟩
section
variable {prog:Program}{w:World}{A:Around}{E:Ia}{s:Shared}{K:H_}{x dx C f:Addr}{mA:Ic}{name:Str}{v:Value}
theorem get_map {expr:Bool}{Q:Ia}(X:K.In s.heap)(I:M7 s.heap x dx C mA)(f:PySem.W.plainGet K C name=true)(c:PySem.W.hasDictIn K C=true)
  (a:PySem.W.findIn K (.ref C) name=some none) (d:mA name=some v) (b:PySem.W.handedIn v=true) (h:Q v { s with toks:=s.toks+1 }) :
  wpAny (model prog w) A (getAttr (.ref x) name expr) Q E s:=by
 obtain⟨g,J,e⟩:=I.look;exact PySem.W.get_value X J (PySem.W.plainGet_of f).1 (PySem.W.findObj_own c a rfl (by rw[e,d])) b h
theorem A_ {pl:Sem Bool}{Q:Value×List Value->Shared->Prop}(X:K.In s.heap)(I:M7 s.heap x dx C mA)(a:PySem.W.plainGet K C name=true)
  (e:PySem.W.findIn K (.ref C) name=some (some (.ref f))) (b:PySem.W.isFn K (.ref f)=true) (c:mA name=none) (h:Q (.ref f,[.ref x]) s) :
  wpAny (model prog w) A (getMethod (.ref x) name pl) Q E s:=by
 obtain⟨g,J,d⟩:=I.look;exact PySem.W.method_fn X J (PySem.W.plainGet_of a).1 (PySem.W.plainGet_of a).2 e (beq_iff_eq.mp b) (by show (PySem.W.lookIn name g).map (·.isSome)=some false;rw[d,c];rfl) h
theorem B9 {ns:List Str}{Q:Unit->Shared->Prop}(X:K.In s.heap)(I:M7 s.heap x dx C mA)
  (l:PySem.W.findIn K (.ref C) "__setattr__"=some (some (.builtin "object.__setattr__"))) (m:PySem.W.plainOver K C=true) (n:PySem.W.takerIn K C name=some none) (j:PySem.W.hasDictIn K C=true)
  (p:PySem.Within mA ns) (hsz:ns.length<=sizeLine)
  (h:∀ h',M7 h' x dx C (λy=>if y=name then some v else mA y)->Heap.SameBut dx s.heap h'->Q () { s with heap:=h',toks:=s.toks+2 }) :
  wpAny (model prog w) A (setAttr (.ref x) name v) Q E s:=by
 obtain⟨u,J,q⟩:=I.look;refine PySem.W.set_plain X J l (PySem.W.osa_open (s:={ s with toks:=s.toks+1 }) (r:=none) X J m n λb=>?_);obtain⟨z,o,k⟩:=PySem.W.any_some j;have g:s.heap.get? x=some ⟨.ref C,some dx,.plain,#[]⟩:=I.obj;refine wpAny_bind (wpAny_pure (wpAny_bind (wpAny_bind (wpAny_loadPart g (wpAny_bind (PySem.W.Looks.here (s:={ s with toks:=s.toks+1 }) (PySem.W.looks_clsIn X o) ?_))))));rw[k];refine wpAny_pure (a:=some dx) (wpAny_bind (wpAny_pure (wpAny_bind ?_)));refine wpAny_nsSet1 (s:={ s with toks:=s.toks+1 }) I.ns λh' d c=>?_;obtain⟨oD,B,t,f,e,i⟩:=d.count (PySem.Within.cons name v p);refine wpAny_bind (wpAny_lookBehind f (by rw[e];exact pastItsLine_dict (Nat.le_trans i (by rw[length_cons];omega))) ?_);exact wpAny_pure (h _ ⟨(c.2 _ (Ne.symm I.ne)).trans I.obj,d,I.ne⟩ c)
theorem AW {R:Result->Shared->Prop}{vs:List Value}{kw:List (Str×Value)}(X:K.In s.heap)(b:PySem.W.makesIn K C=true)
  (hi:PySem.W.findIn K (.ref C) "__init__"=some (some (.ref f))) (a:PySem.W.typeIn K (.ref f)=some (.type "function"))
  (h:codeAny (model prog w) (A.under (.builtin "type.__call__" ⟨.ref C::vs,kw⟩)) (.call (.ref f) ⟨.ref (s.heap.objs.size+1)::vs,kw⟩) (PySem.W.InitBack (s.heap.objs.size+1) R)
   { s with heap:=(s.heap.push PySem.W.emptyDict).push (PySem.W.instObj C s.heap.objs.size) }) :
  codeAny (model prog w) A (.call (.ref C) ⟨vs,kw⟩) R s:=by
 obtain⟨c,g,d,t,os⟩:=s;exact PySem.W.make_core (PySem.W.makes_of X b) (PySem.W.looks_findIn X hi) (λself=>PySem.W.bind_fn X self a) (.inl rfl) h
end
def gz (f:Str)(v:V):List (Str×V)->List (Str×V)
 |[]=>[(f,v)]
 |(g,x)::r=>if g=f then (g,v)::r else (g,x)::gz f v r
theorem mU (f g:Str)(v:V):∀ fs:List (Str×V),(gz f v fs).lookup g=if g=f then some v else fs.lookup g
 |[]=>by
  show List.lookup g [(f,v)]=_;by_cases h:g=f
  ·have a:(g==f)=true:=beq_iff_eq.mpr h;simp only[List.lookup,a,if_pos h]
  have a:(g==f)=false:=beq_eq_false_iff_ne.mpr h;simp only[List.lookup,a,if_neg h]
 |(k,x)::r=>by
  have c:=mU f g v r;rw[show gz f v ((k,x)::r)=(if k=f then (k,v)::r else (k,x)::gz f v r) from rfl];by_cases b:k=f
  ·rw[if_pos b];by_cases h:g=k
   ·have a:(g==k)=true:=beq_iff_eq.mpr h;simp only[List.lookup,a,if_pos (h.trans b)]
   have a:(g==k)=false:=beq_eq_false_iff_ne.mpr h;simp only[List.lookup,a,if_neg (λe:g=f=>h (e.trans b.symm))]
  rw[if_neg b];by_cases h:g=k
  ·have a:(g==k)=true:=beq_iff_eq.mpr h;simp only[List.lookup,a,if_neg (λe:g=f=>b (h.symm.trans e))]
  have a:(g==k)=false:=beq_eq_false_iff_ne.mpr h;simp only[List.lookup,a];exact c
theorem lW (f:Str)(v:V):∀ fs:List (Str×V),f∈(gz f v fs).map (·.1)/\∀ g,g∈fs.map (·.1)->g∈(gz f v fs).map (·.1)
 |[]=>⟨by simp[gz],λg h=>by simp at h⟩
 |(k,x)::r=>by
  obtain⟨b,c⟩:=lW f v r;rw[show gz f v ((k,x)::r)=(if k=f then (k,v)::r else (k,x)::gz f v r) from rfl];by_cases a:k=f
  ·rw[if_pos a];subst a;exact⟨by simp,λg h=>by simpa using h⟩
  rw[if_neg a];refine⟨?_,λg h=>?_⟩
  ·rw[map_cons];exact mem_cons_of_mem _ b
  rw[map_cons] at h ⊢;rcases mem_cons.mp h with e |e
  ·exact mem_cons.mpr (.inl e)
  exact mem_cons_of_mem _ (c g e)
theorem mW (f:Str)(v:V):∀ fs:List (Str×V),(gz f v fs).length<=fs.length+1
 |[]=>by simp[gz]
 |(k,x)::r=>by
  have b:=mW f v r;rw[show gz f v ((k,x)::r)=(if k=f then (k,v)::r else (k,x)::gz f v r) from rfl];by_cases a:k=f
  ·rw[if_pos a,length_cons,length_cons];omega
  rw[if_neg a,length_cons,length_cons];omega
theorem J6.some_of {v:V}{o:Option Value}(r:J6 (some v) o):∃ u,o=some u/\RelV v u:=by
 cases o with
 |none=>exact(show False from r).elim
 |some u=>exact⟨u,rfl,r⟩
theorem J6.none_of {o:Option Value}(r:J6 none o):o=none:=by
 cases o with
 |none=>rfl
 |some u=>exact(show False from r).elim
theorem zn {v:V}{u:Value}(r:RelV v u):PySem.W.handedIn u=true:=by
 cases v with
 |Jm=>cases (show u=Value.none from r);rfl
 |bl b=>cases (show u=Value.bool b from r);rfl
 |int i=>obtain⟨t,e⟩:=(show ∃ t,u=Value.int i t from r);cases e;rfl
 |str x=>obtain⟨t,e⟩:=(show ∃ t,u=Value.str x t from r);cases e;rfl
 |Tt b=>obtain⟨t,e⟩:=(show ∃ t,u=Value.bytes b t from r);cases e;rfl
 |Rg b=>obtain⟨t,e⟩:=(show ∃ t,u=Value.float b t from r);cases e;rfl
 |ref a=>cases (show u=Value.ref a from r);rfl
 |ty n=>cases (show u=Value.type n from r);rfl
section
variable {P:Program}{w:World}{H H':Hp}{h h':Heap}{a C dx:Addr}{fs VS:List (Str×V)}
theorem sw (IL:Kz P w H h)(e:H a=some (.ins C dx fs)):∃ b,M7 h a dx C b/\(∀ f,J6 (fs.lookup f) (b f))/\PySem.Within b (fs.map (·.1))/\fs.length<=1000/\H dx=some (.own a):=by obtain⟨d,z,ne,c,b,n,r,q⟩:=(show IY P w H h a (.ins C dx fs) from IL a _ e);exact⟨b,⟨c,n,ne⟩,r,q,z,d⟩
end
structure M8 (K:H_) (C:Addr):Prop where
 pg:PySem.W.plainGet K C Str.empty=true
 hd:PySem.W.hasDictIn K C=true
 po:PySem.W.plainOver K C=true
 sa:PySem.W.findIn K (.ref C) "__setattr__"=some (some (.builtin "object.__setattr__"))
theorem M8.get {K:H_}{C:Addr}(c:M8 K C)(f:Str):PySem.W.plainGet K C f=true:=c.pg
def Kc (K:H_)(C:Addr)(f:Str):Prop:=PySem.W.findIn K (.ref C) f=some none
theorem Kc.RI {K:H_}{C:Addr}{f:Str}(n:Kc K C f):PySem.W.takerIn K C f=some none:=by unfold PySem.W.takerIn;rw[show PySem.W.findIn K (.ref C) f=some none from n];rfl
structure Con (K:H_) (C:Addr) (f:Str) (v:V) (u:Value):Prop where
 at_:PySem.W.findIn K (.ref C) f=some (some u)
 rel:RelV v u
 get:PySem.W.specialIn K u "__get__"=some none
 cp:PySem.W.copiedNames.contains f=false
structure Meth (K:H_) (C:Addr) (m:Str) (f:Addr):Prop where
 at_:PySem.W.findIn K (.ref C) m=some (some (.ref f))
 fn:PySem.W.isFn K (.ref f)=true
 kp:PySem.W.keepIn K (.ref f)=true
section
variable {X:Cx}{pins:Ib}{σ:St}{H:Hp}{s:Shared}{a C dx:Addr}{fs:List (Str×V)}{f:Str}{v:V}{A:Around}{E:Ia}
theorem wP {b:Bool}{Q:Ia}(I:Inv X pins σ H s)(e:H a=some (.ins C dx fs))(c:M8 X.K C)(n:Kc X.K C f)(l:fs.lookup f=some v)
  (h:∀ u s',Inv X pins σ H s'->RelV v u->Q u s'):wpAny (model X.prog X.w) A (getAttr (.ref a) f b) Q E s:=by
 obtain⟨i,O,r,_,_,_⟩:=sw I.IL e;obtain⟨u,g,d⟩:=J6.some_of (v:=v) (o:=i f) (by rw[← l];exact r f);exact get_map I.L9 O (c.get f) c.hd n g (zn d) (h u _ (I.tok _) d)
theorem oU {m:Str}{g:Addr}{pl:Sem Bool}{Q:Value×List Value->Shared->Prop}(I:Inv X pins σ H s)(e:H a=some (.ins C dx fs))(c:M8 X.K C)(k:Meth X.K C m g)(l:fs.lookup m=none)
  (h:Q (.ref g,[.ref a]) s):wpAny (model X.prog X.w) A (getMethod (.ref a) m pl) Q E s:=by
 obtain⟨b,O,r,_,_,_⟩:=sw I.IL e;have d:b m=none:=J6.none_of (by rw[← l];exact r m);exact A_ I.L9 O (c.get m) k.at_ k.fn d h
theorem v_ {y:V}{u:Value}{Q:Unit->Shared->Prop}(I:Inv X pins σ H s)(e:H a=some (.ins C dx fs))(c:M8 X.K C)(n:Kc X.K C f)(D:fs.length<1000)(m:RelV y u)
  (h:∀ s',Inv X pins σ (upd H a (.ins C dx (gz f y fs))) s'->Q () s'):wpAny (model X.prog X.w) A (setAttr (.ref a) f u) Q E s:=by
 obtain⟨j,O,r,k,_,i⟩:=sw I.IL e;have v:(fs.map (·.1)).length<=sizeLine:=by rw[length_map,sizeLine_eq];omega
 refine B9 I.L9 O c.sa c.po n.RI c.hd k v λt d sb=>h _ ?_;have hd:∃ o,t.get? dx=some o:=let ⟨o,_,_,l,_⟩:=d.ns;⟨o,l⟩;refine I.write (x:=a) (e:=dx) (by rw[e];exact True.intro) (.inr i) (λb q B z=>(sb.2 b B).trans z) hd ?_;refine⟨by rw[aF O.ne];exact i,?_,O.ne,d.obj,_,d.ns,λg=>?_,λg p=>?_⟩
 ·have:=mW f y fs;omega
 ·show J6 ((gz f y fs).lookup g) (if g=f then some u else j g);rw[mU];by_cases q:g=f
  ·rw[if_pos q,if_pos q];exact m
  rw[if_neg q,if_neg q];exact r g
 by_cases q:g=f
 ·rw[q];exact(lW f y fs).1
 refine(lW f y fs).2 g (k g λz=>p ?_);show (if g=f then some u else j g)=none;rw[if_neg q];exact z
theorem Inv.made (I:Inv X pins σ H s):Inv X pins σ (upd (upd H s.heap.objs.size (.own (s.heap.objs.size+1))) (s.heap.objs.size+1) (.ins C s.heap.objs.size []))
  { s with heap:=(s.heap.push PySem.W.emptyDict).push (PySem.W.instObj C s.heap.objs.size) }:=by
 have c:(s.heap.push PySem.W.emptyDict).get? s.heap.objs.size=some PySem.W.emptyDict:=Heap.get?_push_size s.heap rfl;have f:((s.heap.push PySem.W.emptyDict).push (PySem.W.instObj C s.heap.objs.size)).get? (s.heap.objs.size+1)=some (PySem.W.instObj C s.heap.objs.size):=by have:=Heap.get?_push_size (s.heap.push PySem.W.emptyDict) (o:=PySem.W.instObj C s.heap.objs.size) rfl;rwa [Heap.size_push] at this
 have i:(s.heap.push PySem.W.emptyDict).Ns s.heap.objs.size (λ_=>none):=⟨PySem.W.emptyDict,#[],_,c,rfl,(λe g=>absurd g (by simp)),λ_=>rfl⟩;have d:=I.laid (a:=s.heap.objs.size) (o:=.own (s.heap.objs.size+1)) (h':=s.heap.push PySem.W.emptyDict) (t':=s.toks) (λb u q=>Heap.get?_push_of_some _ q) (le_refl _) ⟨_,c⟩;refine d.laid (a:=s.heap.objs.size+1) (o:=.ins C s.heap.objs.size []) (t':=s.toks) (λb u q=>Heap.get?_push_of_some _ q) (Nat.le_of_eq (Heap.size_push _ _)) ?_;have ne:s.heap.objs.size≠s.heap.objs.size+1:=ne_of_lt (lt_succ_self _);refine⟨by rw[aF ne,Iv],zero_le _,ne,f,λ_=>none,(Heap.Ns1.of_empty i).at λo q=>Heap.get?_push_of_some _ q,λ_=>True.intro,λy h=>absurd rfl h⟩
theorem Dq {prog:Program}{w:World}{env:Env}{e:Expr}{f:Str}{pos:Pos}{s:Shared}{Q:Ia}(b:attributeBase e f env (eval e env)=eval e env)
  (h:wpAny (model prog w) A (eval e env) (λo a=>wpAny (model prog w) A (getAttr o f true) Q E a) E s):wpAny (model prog w) A (eval (.Attribute e f pos) env) Q E s:=
 Attribute_any_ h (by rw[arm_eval_Attribute,b])
end
def GM (K:H_)(c:TE)(f:Str):TE:=λe H Q=>c e H λx b => ∃ a C d fs v,x = .ref a/\b a=some (.ins C d fs)/\M8 K C/\Kc K C f/\fs.lookup f=some v/\Q v b
def GO (K:H_)(e tv:TE)(f:Str):TS:=λD b H=>tv b H λy g=>e b g λx c => ∃ a C d fs,x = .ref a/\c a=some (.ins C d fs)/\M8 K C/\Kc K C f/\fs.length<1000 /\
 D.nx b (upd c a (.ins C d (gz f y fs)))
section
variable {X:Cx}{o e value:Expr}{f:Str}{pos pos' RJ:Pos}{ta tv:TE}
theorem Eu (j:PE X e ta)(p:attributeBase e f X.env (eval e X.env)=eval e X.env):PE X (.Attribute e f pos) (GM X.K ta f):=by intro b s r H Q I h;refine Dq p (IE (j b s r H _ I h) λu z Zq=>?_);obtain⟨x,m,d,k,a,C,w,fs,v,ex,o,c,n,l,q⟩:=Zq;subst ex;obtain rfl:u=Value.ref a:=k;exact wP d o c n l λt y i g=>⟨v,m,i,g,q⟩
theorem El (g:PE X o ta)(j:PE X value tv)(v:swapsWith value (some (.Attribute o f pos')) pos.line X.env=pure false):PS X (.Assign [.Attribute o f pos'] value pos) (GO X.K ta tv f):=by intro b s d H D I h;refine plainObj_wpAny_Assign_Attribute (IE (j b s d H _ I h) λu w ⟨y,t,e,i,q⟩=>IE (g b w d t _ e q) λm G Zq=>?_) v;obtain⟨x,B,k,p,a,C,F,fs,ex,A,c,n,l,r⟩:=Zq;subst ex;obtain rfl:m=Value.ref a:=p;exact v_ k A c n l i λE z=>⟨d,_,z,r⟩
theorem DF {pl:Sem Bool}{m:Str}{b:Pos}{args:List Expr}{d:Ib}{s:Shared}{j:St}{H:Hp}{Q:Ia}{r:TE}(v:PE X e r)(I:Inv X d j H s)
  (h:r j H λx n => ∃ a C t fs g,x = .ref a/\n a=some (.ins C t fs)/\M8 X.K C/\Meth X.K C m g/\fs.lookup m=none /\
   ∀ i,Inv X d j n i->wpAny (model X.prog X.w) X.A (callWith pos (.ref g) [.ref a] (backTo pos (starEach args X.env)) (backToKw pos (keywordEach [] X.env))) Q X.xe i)
  (z:eval (.Call (.Attribute e m b) args [] pos) X.env=(do
   let p ← eval e X.env
   standAt b.atName
   let (f,first) ← holding [p] (getMethod p m pl)
   callWith pos f first (backTo pos (starEach args X.env)) (backToKw pos (keywordEach [] X.env)))) :
  wpAny (model X.prog X.w) X.A (eval (.Call (.Attribute e m b) args [] pos) X.env) Q X.xe s:=by
 refine PySem.W.methodCall_KW (pl:=pl) (IE (v d s j H _ I h) λu i Zq=>?_) z;obtain⟨x,n,o,y,a,C,t,fs,g,ex,B,c,k,l,q⟩:=Zq;subst ex;obtain rfl:u=Value.ref a:=y;exact oU o B c k l (q i o)
end
section
variable {X:Cx}{pins:Ib}{σ:St}{H:Hp}{s:Shared}{A:Around}{E:Ia}{Q:Ia}{c:Value}{b:Bool}
inductive LD (K:H_) (H:Hp):V->Value->Prop where
 |Jm:LD K H .Jm (.type "NoneType")
 |bl (x:Bool):LD K H (.bl x) (.type "bool")
 |int (i:Int):LD K H (.int i) (.type "int")
 |str (x:Str):LD K H (.str x) (.type "str")
 |Rg (x:UInt64):LD K H (.Rg x) (.type "float")
 |lst {a:Addr}{xs:List V}(e:H a=some (.lst xs)):LD K H (.ref a) (.type "list")
 |N_ {a:Addr}{o:Obj}{xs:List V}(e:H a=some (.N_ o (.lst xs))):LD K H (.ref a) (.type "list")
 |tup {a:Addr}{xs:List V}(e:H a=some (.tup xs)):LD K H (.ref a) (.type "tuple")
 |dK {a:Addr}{kvs:List (Key×V)}(e:H a=some (.dK kvs)):LD K H (.ref a) (.type "dict")
 |dT {a:Addr}{kvs:List (List Key×V)}(e:H a=some (.dT kvs)):LD K H (.ref a) (.type "dict")
 |ins {a C dx:Addr}{fs:List (Str×V)}(e:H a=some (.ins C dx fs)) (cl:M8 K C) (ha:PySem.W.findIn K (.ref C) "__class__"=some (some (.builtin "object.__class__")))
   (hn:PySem.W.specialIn K (.builtin "object.__class__") "__get__"=some (some (.builtin "getset_descriptor.__get__"))) (htk:PySem.W.takesIn K (.builtin "object.__class__")=some true)
   (hm:PySem.W.mroIn K C (.type "object")=some true):LD K H (.ref a) (.ref C)
end
structure IS (k:Nat) (A:Around):Prop where
 hd:A.handled=none
 dp:A.depth+3*k+5<recursionLimit
 un:A.units+16*k+200<cLine
 gd:A.guards=some []
theorem IS.mono {j k:Nat}{A:Around}(r:IS k A)(h:j<=k):IS j A:=⟨r.hd,by have:=r.dp;omega,by have:=r.un;omega,r.gd⟩
theorem IS.deeper {k:Nat}{A:Around}(r:IS (k+1) A)(env:Env):IS k (A.deeper env):=
 ⟨r.hd,by have:=r.dp;show A.depth+1+3*k+5 < _;omega,by have:=r.un;show A.units+3+16*k+200 < _;omega,r.gd⟩
theorem wD {A:Around}{C:Addr}{us:List Value}{kw:List (Str×Value)}:(A.under (.builtin "type.__call__" ⟨.ref C::us,kw⟩)).depth=A.depth+1:=by
 first |rfl |simp[Around.under,Code.weight,Code.isCreation,Code.isGuard,Code.isCaller,Code.frames,Code.isFrame,guardIds]
theorem wC {A:Around}{C:Addr}{us:List Value}{kw:List (Str×Value)}:(A.under (.builtin "type.__call__" ⟨.ref C::us,kw⟩)).units=A.units+1:=by
 first |rfl |simp[Around.under,Code.cUnits,Code.frames,Code.isFrame]
theorem uM {A:Around}{C:Addr}{us:List Value}{kw:List (Str×Value)}:(A.under (.builtin "type.__call__" ⟨.ref C::us,kw⟩)).guards=A.guards:=by
 first |rfl |simp[Around.under,Code.guards,Code.isGuard,guardIds,pushGuards]
theorem IS.make {k:Nat}{A:Around}(r:IS (k+1) A)(C:Addr)(us:List Value)(kw:List (Str×Value)):IS k (A.under (.builtin "type.__call__" ⟨.ref C::us,kw⟩)):=
 ⟨r.hd,by have:=r.dp;rw[wD];omega,by have:=r.un;rw[wC];omega,by rw[uM];exact r.gd⟩
theorem IS.depth {k:Nat}{A:Around}(r:IS k A):A.depth<recursionLimit:=by have:=r.dp;omega
theorem IS.units {k:Nat}{A:Around}(r:IS k A):A.units+64<cLine:=by have:=r.un;omega
def pH:TA:=λ_ H Q=>Q [] H
def Dw (c:TE)(f:TA):TA:=λa H Q=>c a H λx e=>f a e λb d=>Q (x::b) d
section
variable {X:Cx}{e:Expr}{es:List Expr}{te:TE}{t:TA}{pos:Pos}
theorem Js:PA X [] pH:=λ_ _ _ _ H Q I h=>Calls.spliced_nil ⟨[],H,I,.nil,h⟩
theorem cK (i:PE X e te)(c:PA X es t)(p:starEach (e::es) X.env=(false,eval e X.env)::starEach es X.env:=by rfl):PA X (e::es) (Dw te t):=by intro pos a s b H Q I h;rw[p];show wpAny _ _ (spliced ((false,eval e X.env)::backTo pos (starEach es X.env))) _ _ s;refine Calls.spliced_cons (IE (i a s b H _ I h) λu q Zq=>?_);obtain⟨x,o,d,l,k⟩:=Zq;exact IE (c pos a q b o _ d k) λr v ⟨f,g,j,m,n⟩=>⟨x::f,g,j,.cons l m,n⟩
def GG (t:TA):TE:=λc H Q=>t c H λa b=>a.length<=sizeLine/\∀ p,b p=none->Q (.ref p) (upd b p (.tup a))
def GJ (t:TA):TE:=λc H Q=>t c H λa b=>a.length<=sizeLine/\∀ p,b p=none->Q (.ref p) (upd b p (.lst a))
theorem Er {x1}(h:PA X es t):PE X (.Tuple es x1 pos) (GG t):=by intro a s k H Q I l;refine wpAny_Tuple_spliced (IE (h pos a s k H _ I l) λi c ⟨g,f,d,r,z,q⟩=>⟨by rw[← r.length];exact z,?_⟩);have j:f c.heap.objs.size=none:=d.IL.fresh (le_refl _);refine⟨.ref c.heap.objs.size,upd f c.heap.objs.size (.tup g),d.laid (t':=c.toks) (λb u e=>Heap.get?_push_of_some _ e) (le_refl _) ?_,rfl,q _ j⟩;exact⟨z,i,r,LY.new _ _⟩
theorem wu (h:PA X es t):PE X (.List es pos) (GJ t):=by intro a s k H Q I l;refine wpAny_List_spliced (IE (h pos a s k H _ I l) λi c ⟨g,f,d,r,z,q⟩=>⟨by rw[← r.length];exact z,?_⟩);have j:f c.heap.objs.size=none:=d.IL.fresh (le_refl _);refine⟨.ref c.heap.objs.size,upd f c.heap.objs.size (.lst g),d.laid (t':=c.toks) (λb u e=>Heap.get?_push_of_some _ e) (le_refl _) ?_,rfl,q _ j⟩;exact⟨z,i,0,r,Heap.get?_push_size _ rfl⟩
end
abbrev Sp:=List V->Hp->VK->XK->Prop
abbrev Oa:=List Env->Hp->Shared->XK->Ia
structure M9 (P:Program) (w:World) (K:H_) (mg:Ic) (base:Heap) (A:Around) (outer:List Env) (s:Shared) (H:Hp):Prop where
 frames:A.frames=some outer
 mod:Mod K mg base
 bs:∀ b o,base.get? b=some o->s.heap.get? b=some o/\H b=none
 Pe:base.objs.size<=s.heap.objs.size
 Lm:s.heap.FunFrames base outer
 Qu:∀ b∈NO outer,H b=none
 IL:Kz P w H s.heap
 bare:AllBare s.gens
def CE (outer:List Env)(P:Program)(w:World)(H:Hp)(s:Shared)(Q:VK)(u:Value)(s':Shared):Prop:=
 ∃ v a,s'.os=s.os/\AllBare s'.gens/\Un (NO outer) [] H a s.heap s'.heap/\Kz P w a s'.heap/\RelV v u/\Q v a
def CR (CX:Oa)(outer:List Env)(P:Program)(w:World)(H:Hp)(s:Shared)(Q:VK)(E:XK)(r:Result)(s':Shared):Prop:=
 match r with
 | .ok (.ret u)=>CE outer P w H s Q u s'
 | .ok _=>False
 | .error e=>CX outer H s E e s'
structure J9 (P:Program) (w:World) (K:H_) (mg:Ic) (base:Heap) (CX:Oa) (k:Nat) (f:Addr) (fd:FuncData) (ps:List Str) (sp:Sp):Prop where
 len:∀ vs H Q E,sp vs H Q E->vs.length=ps.length
 run:∀ (A:Around) (outer:List Env) (s:Shared) (H:Hp) (args:Args) (us:List Value) (vs:List V) (Q:VK) (E:XK),IS k A->M9 P w K mg base A outer s H->BindsTo s fd args (ps.zip us)->Vals vs us->sp vs H Q E ->
  codeAny (model P w) A (.call (.ref f) args) (CR CX outer P w H s Q E) s
theorem J9.imp {P:Program}{w:World}{K:H_}{mg:Ic}{base:Heap}{CX:Oa}{k:Nat}{f:Addr}{fd:FuncData}{b:List Str}{sp a:Sp}(F:J9 P w K mg base CX k f fd b sp)
  (h:∀ vs H Q E,a vs H Q E->sp vs H Q E):J9 P w K mg base CX k f fd b a:=
 ⟨λvs H Q E q=>F.len vs H Q E (h _ _ _ _ q),λA outer s H args e vs Q E c g j d i=>F.run A outer s H args e vs Q E c g j d (h _ _ _ _ i)⟩
theorem M9.make {P:Program}{w:World}{K:H_}{mg:Ic}{base:Heap}{A:Around}{outer:List Env}{s:Shared}{H:Hp}(e:M9 P w K mg base A outer s H)(C:Addr)(us:List Value)(kw:List (Str×Value)) :
  M9 P w K mg base (A.under (.builtin "type.__call__" ⟨.ref C::us,kw⟩)) outer s H:=⟨by first |exact e.frames |(simpa [Around.under,Code.envs,Code.isFrame,pushEnvs] using e.frames),e.mod,e.bs,e.Pe,e.Lm,e.Qu,e.IL,e.bare⟩
section
variable {X:Cx}{pins:Ib}{σ:St}{H:Hp}{s s':Shared}
theorem Inv.RK (I:Inv X pins σ H s):M9 X.prog X.w X.K X.mg X.base X.A X.stack s H:=
 ⟨I.ok.frames,I.ok.mod,I.bs,Nat.le_trans I.ok.Pe I.sz,I.stack,I.Nu,I.IL,I.bare⟩
theorem Inv.after {Q:VK}{u:Value}(I:Inv X pins σ H s)(h:CE X.stack X.prog X.w H s Q u s'):EP X pins σ Q u s':=by obtain⟨v,a,os,bare,un,IL,r,q⟩:=h;obtain⟨e,g,d,t,c⟩:=s';obtain rfl:c=s.os:=os;exact⟨v,a,I.call (h':=e) (g':=g) (d':=d) (t':=t) (ch:=[]) un IL bare (λb z=>absurd z (by simp)),r,q⟩
end
def Dx (sp:Sp)(b:List V)(E:XK)(t:TA):TE:=λd H Q=>t d H λa c=>sp (a++b) c Q E
def Fv (C:Addr)(m:Str)(sp:Sp)(g:List V)(E:XK)(e:TE)(t:TA):TE:=λc H Q=>e c H λx b => ∃ a h fs,x = .ref a/\b a=some (.ins C h fs)/\fs.lookup m=none /\
 t c b λd f=>sp (x::(d++g)) f Q E
def Fw (C:Addr)(sp:Sp)(e:List V)(E:XK)(t:TA):TE:=λf H Q=>t f H λc b => ∀ x a,b x=none->b a=none->a≠x ->
 sp (.ref x::(c++e)) (upd (upd b a (.own x)) x (.ins C a [])) (λv d=>v = .Jm/\Q (.ref x) d) E
def Binds (K:H_)(fd:FuncData)(b:List Str)(ds:List Value):Prop:=
 ∀ (s:Shared) (a:List Value),K.In s.heap->(a++ds).length=b.length->BindsTo s fd ⟨a,[]⟩ (b.zip (a++ds))
theorem Binds.all {K:H_}{fd:FuncData}{a:List Str}(h:∀ us:List Value,us.length=a.length->bindArgs fd ⟨us,[]⟩=pure (a.zip us)):Binds K fd a []:=λs us _ b=>by rw[append_nil] at b ⊢;exact .of_eq (h us b)
def Passes (CX:Oa)(X:Cx)(E:XK):Prop:=∀ (a:Ib) (c:St) (H:Hp) (s:Shared) (e:Value) (b:Shared),Inv X a c H s->CX X.stack H s E e b->X.xe e b
section
variable {X:Cx}{CX:Oa}{k:Nat}{f C:Addr}{fd:FuncData}{ps:List Str}{sp:Sp}{Mt:List V}{ds:List Value}{E:XK}{x m:Str}{p pos apos:Pos}{e o:Expr}{es:List Expr}{ta:TE}{t:TA}
theorem wf {a:Ib}{c:St}{H:Hp}{s:Shared}{Q:VK}{us:List Value}{vs:List V}(F:J9 X.prog X.w X.K X.mg X.base CX k f fd ps sp)(g:IS k X.A)(n:Binds X.K fd ps ds)(hd:Vals Mt ds)(j:Passes CX X E)
  (I:Inv X a c H s) (r:Vals vs us) (h:sp (vs++Mt) H Q E):wpAny (model X.prog X.w) X.A (call (.ref f) us) (EP X a c Q) X.xe s:=by
 have d:Vals (vs++Mt) (us++ds):=r.append hd;have i:(us++ds).length=ps.length:=by rw[← d.length];exact F.len _ _ _ _ h
 refine wpAny_call (codeAny_mono (F.run X.A X.stack s H ⟨us,[]⟩ (us++ds) (vs++Mt) Q E g I.RK (n s us I.L9 i) d h) λr m b=>?_);cases r with
 |error e=>exact j a c H s e m I b
 |ok l =>
  cases l with
  |ret u=>exact I.after b
  |next=>exact False.elim b
  |brk=>exact False.elim b
  |cont=>exact False.elim b
theorem CA (F:J9 X.prog X.w X.K X.mg X.base CX k f fd ps sp)(c:IS k X.A)(m:Gl X x)(o:X.mg x=some (.ref f))(i:PySem.W.keepIn X.K (.ref f)=true)(u:Binds X.K fd ps ds)(hd:Vals Mt ds)(g:Passes CX X E)
  (d:PA X (e::es) t) (n:(x==("__debug__":Str))=false:=by decide) (j:starEach (e::es) X.env=(false,eval e X.env)::starEach es X.env:=by rfl) (l:(backTo pos (starEach es X.env)).any (·.1)=false:=by rfl) :
  PE X (.Call (.Name x p) (e::es) [] pos) (Dx sp Mt E t):=by
 intro a s v H Q I h;refine wpAny_Call_Name_kw (r9 I m o ?_ n);refine PySem.W.callWith_K (h₀:=X.base) I.ok.mod.Ri i (IE (d pos a s v H _ I h) λy C ⟨z,B,b,r,q⟩=>⟨b.L9,?_⟩) j l;exact wf F c u hd g b r q
theorem Cu {pl:Sem Bool}(z:PE X o ta)(c:M8 X.K C)(j:Meth X.K C m f)(F:J9 X.prog X.w X.K X.mg X.base CX k f fd ps sp)(p:IS k X.A)(P:Binds X.K fd ps ds)(hd:Vals Mt ds)(y:Passes CX X E)(v:PA X (e::es) t)
  (B:starEach (e::es) X.env=(false,eval e X.env)::starEach es X.env:=by rfl) (D:(backTo pos (starEach es X.env)).any (·.1)=false:=by rfl)
  (N:eval (.Call (.Attribute o m apos) (e::es) [] pos) X.env=(do
   let i ← eval o X.env
   standAt apos.atName
   let (f,first) ← holding [i] (getMethod i m pl)
   callWith pos f first (backTo pos (starEach (e::es) X.env)) (backToKw pos (keywordEach [] X.env))):=by rfl) :
  PE X (.Call (.Attribute o m apos) (e::es) [] pos) (Fv C m sp Mt E ta t):=by
 intro b s n H Q I h;refine PySem.W.methodCall_KW (pl:=pl) (IE (z b s n H _ I h) λu M Zq=>?_) N;obtain⟨x,L,d,G,a,S,fs,ex,O,l,q⟩:=Zq;subst ex;obtain rfl:u=Value.ref a:=G;refine oU d O c j l ?_;refine PySem.W.callWith_K (first:=[.ref a]) (h₀:=X.base) I.ok.mod.Ri j.kp (IE (v pos b M n L _ d q) λus T ⟨vs,R,g,r,J⟩=>⟨g.L9,?_⟩) B D;exact wf (us:=.ref a::us) (vs:=.ref a::vs) F p P hd y g (.cons rfl r) J
structure Mk (K:H_) (C f:Addr):Prop where
 makes:PySem.W.makesIn K C=true
 init:PySem.W.findIn K (.ref C) "__init__"=some (some (.ref f))
 fn:PySem.W.isFn K (.ref f)=true
 kp:PySem.W.keepIn K (.ref C)=true
theorem Aj {a:Ib}{g:St}{H:Hp}{s:Shared}{Q:VK}{us:List Value}{vs:List V}(M:Mk X.K C f)(F:J9 X.prog X.w X.K X.mg X.base CX k f fd ps sp)(l:IS (k+1) X.A)(D:Binds X.K fd ps ds)(hd:Vals Mt ds)
  (t:Passes CX X E) (I:Inv X a g H s) (r:Vals vs us)
  (h:∀ x d,H x=none->H d=none->d≠x->sp (.ref x::(vs++Mt)) (upd (upd H d (.own x)) x (.ins C d [])) (λv n=>v = .Jm/\Q (.ref x) n) E) :
  wpAny (model X.prog X.w) X.A (call (.ref C) us) (EP X a g Q) X.xe s:=by
 have j:=h (s.heap.objs.size+1) s.heap.objs.size (I.IL.fresh (le_succ _)) (I.IL.fresh (le_refl _)) (ne_of_lt (lt_succ_self _));have c:=Inv.made (C:=C) I;have i:Vals (V.ref (s.heap.objs.size+1)::(vs++Mt)) (Value.ref (s.heap.objs.size+1)::(us++ds)):=.cons rfl (r.append hd);have q:(Value.ref (s.heap.objs.size+1)::us++ds).length=ps.length:=by have e:=i.length;rw[F.len _ _ _ _ j] at e;exact e.symm
 refine wpAny_call (AW (f:=f) I.L9 M.makes M.init (beq_iff_eq.mp M.fn) (codeAny_mono (F.run _ X.stack _ _ ⟨Value.ref (s.heap.objs.size+1)::us,[]⟩ (Value.ref (s.heap.objs.size+1)::(us++ds)) _ _ E (l.make C us [])
  (c.RK.make C us []) (D _ (Value.ref (s.heap.objs.size+1)::us) c.L9 q) i j) λr z b=>?_))
 cases r with
 |error e=>exact t a g _ _ e z c b
 |ok y =>
  cases y with
  |ret u =>
   obtain⟨v,p,B,m,ev,o⟩:=c.after b;subst ev;exact⟨m,⟨V.ref (s.heap.objs.size+1),p,B,rfl,o⟩⟩
  |next=>exact False.elim b
  |brk=>exact False.elim b
  |cont=>exact False.elim b
theorem Cv (M:Mk X.K C f)(F:J9 X.prog X.w X.K X.mg X.base CX k f fd ps sp)(c:IS (k+1) X.A)(l:Gl X x)(n:X.mg x=some (.ref C))(o:Binds X.K fd ps ds)(hd:Vals Mt ds)(g:Passes CX X E)
  (d:PA X (e::es) t) (m:(x==("__debug__":Str))=false:=by decide) (i:starEach (e::es) X.env=(false,eval e X.env)::starEach es X.env:=by rfl) (j:(backTo pos (starEach es X.env)).any (·.1)=false:=by rfl) :
  PE X (.Call (.Name x p) (e::es) [] pos) (Fw C sp Mt E t):=by
 intro a s u H Q I h;refine wpAny_Call_Name_kw (r9 I l n ?_ m);refine PySem.W.callWith_K (h₀:=X.base) I.ok.mod.Ri M.kp (IE (d pos a s u H _ I h) λv B ⟨y,z,b,r,q⟩=>⟨b.L9,?_⟩) i j;exact Aj M F c o hd g b r q
end
section
variable {X:Cx}{CX:Oa}{k:Nat}{f C:Addr}{fd:FuncData}{ps ks:List Str}{sp:Sp}{E:XK}{x m:Str}{p pos apos XE:Pos}{e o:Expr}{es:List Expr}{kws:List Keyword}{te ta:TE}{t tk:TA}{nm:Option Str}
structure Uw (K:H_) (fd:FuncData) (ps ks:List Str) (g:List Value->List Value->List Value) (gV:List V->List V->List V):Prop where
 to:∀ (s:Shared) (us ws:List Value),K.In s.heap->(g us ws).length=ps.length->BindsTo s fd ⟨us,ks.zip ws⟩ (ps.zip (g us ws))
 rel:∀ {vs:List V}{us:List Value}{zs:List V}{ws:List Value},Vals vs us->Vals zs ws->Vals (gV vs zs) (g us ws)
variable {g:List Value->List Value->List Value}{gV:List V->List V->List V}
end
structure Ii (N P:List Str) (sc:Scope):Prop where
 kind:sc.kind = .function
 co:sc.isCoroutine=false
 gen:sc.isGenerator=false
 nd:N.Nodup
 pre:N.take P.length=P
 par:∀ x∈P,sc.names.lookup x=some .local∨sc.names.lookup x=some .cell
 QE:∀ y∈sc.names,y.2≠.free
theorem qX {kindOf:Str->Option NameKind}{x:Str}:∀ {binds:List (Str×Value)}{m:Ic},(∀ v,(x,v)∉binds)->bindL kindOf binds m x=m x
 |[],_,_=>rfl
 |(n,v)::r,m,h=>by
  unfold bindL;rw[qX λw a=>h w (mem_cons_of_mem _ a)];split
  ·have:x≠n:=by rintro rfl;exact h v mem_cons_self
   simp[this]
  rfl
theorem qZ {kindOf:Str->Option NameKind}{x:Str}:∀ {binds:List (Str×Value)}{m:Ic},(∀ v,(x,v)∉binds)->bindC kindOf binds m x=m x
 |[],_,_=>rfl
 |(n,v)::r,m,h=>by
  unfold bindC;rw[qZ λw a=>h w (mem_cons_of_mem _ a)];split
  ·rfl
  have:x≠n:=by rintro rfl;exact h v mem_cons_self
  simp[this]
theorem qY {kindOf:Str->Option NameKind}{x:Str}{v:Value}:∀ {P:List Str}{vs:List Value}{i:Nat}{m:Ic},P.Nodup->P[i]?=some x->vs[i]?=some v->kindOf x=some .local ->
  bindL kindOf (P.zip vs) m x=some v
 |[],_,_,_,_,h,_,_=>by simp at h
 |_::_,[],_,_,_,_,h,_=>by simp at h
 |p::P,w::vs,0,m,nd,h1,h2,hk=>by
  simp at h1 h2;subst h1;subst h2;show bindL kindOf ((p,w)::P.zip vs) m p=_;unfold bindL;rw[qX λv a=>(nodup_cons.mp nd).1 (of_mem_zip a).1,if_pos hk];simp
 |p::P,w::vs,i+1,m,nd,h1,h2,hk=>by
  show bindL kindOf ((p,w)::P.zip vs) m x=_;unfold bindL;exact qY (i:=i) (nodup_cons.mp nd).2 (by simpa using h1) (by simpa using h2) hk
theorem q0 {kindOf:Str->Option NameKind}{x:Str}{v:Value}:∀ {P:List Str}{vs:List Value}{i:Nat}{m:Ic},P.Nodup->P[i]?=some x->vs[i]?=some v->kindOf x≠some .local ->
  bindC kindOf (P.zip vs) m x=some v
 |[],_,_,_,_,h,_,_=>by simp at h
 |_::_,[],_,_,_,_,h,_=>by simp at h
 |p::P,w::vs,0,m,nd,h1,h2,hk=>by
  simp at h1 h2;subst h1;subst h2;show bindC kindOf ((p,w)::P.zip vs) m p=_;unfold bindC;rw[qZ λv a=>(nodup_cons.mp nd).1 (of_mem_zip a).1,if_neg hk];simp
 |p::P,w::vs,i+1,m,nd,h1,h2,hk=>by
  show bindC kindOf ((p,w)::P.zip vs) m x=_;unfold bindC;exact q0 (i:=i) (nodup_cons.mp nd).2 (by simpa using h1) (by simpa using h2) hk
def start (N:List Str)(vs:List V):St:=vs.map some++replicate (N.length-vs.length) none
def l7 (CX:Oa)(P:Program)(w:World)(K:H_)(mg:Ic)(base:Heap)(N:List Str)(qual:Str)(scope:Scope)(f:Addr)(a:Value)(A:Around)(outer:List Env)(s:Shared)(H:Hp)(E:XK):Cx where
 prog:=P
 w:=w
 K:=K
 mg:=mg
 base:=base
 A:=A.deeper (envOfC qual scope s.heap.objs.size f a)
 N:=N
 s₀:=s
 H₀:=H
 env:=envOfC qual scope s.heap.objs.size f a
 outer:=outer
 stack:=envOfC qual scope s.heap.objs.size f a::outer
 ex:=[]
 calm:=true
 fn:=λ_=>true
 pn:=[]
 xe:=λe d=>wpAny (model P w) (A.deeper (envOfC qual scope s.heap.objs.size f a)) (leaving (envOfC qual scope s.heap.objs.size f a) e) (λ_ b=>CX outer H s E e b) (λc b=>CX outer H s E c b) d
theorem vj {sc:Scope}{n:Nat}{x:Str}(h:sc.names.lookup x=some .cell):∃ c,(cellsFrom n sc.names []).lookup x=some c:=by have q:=PySem.W.cellsFrom_some sc.names n [] (.inl h);exact Option.isSome_iff_exists.mp q
theorem zl {CX:Oa}{P:Program}{w:World}{K:H_}{mg:Ic}{base:Heap}{N j:List Str}{qual:Str}{scope:Scope}{f:Addr}{m:Value}{A:Around}{outer:List Env}{s F:Shared}{H:Hp}{E:XK}{us:List Value}{vs:List V}
  (S:Ii N j scope) (hd:A.handled=none) (g:M9 P w K mg base A outer s H) (L:vs.length=j.length) (r:Vals vs us)
  (x:InCallC s s.heap.objs.size (bindL (envOfC qual scope s.heap.objs.size f m).kindOf (j.zip us) λ_=>none) (cellsFrom (s.heap.objs.size+1) scope.names []) (bindC (envOfC qual scope s.heap.objs.size f m).kindOf (j.zip us) λ_=>none) F) :
  Inv (l7 CX P w K mg base N qual scope f m A outer s H E) [] (start N vs) H F:=by
 have O:j.length<=N.length:=by have:=congrArg List.length S.pre;rw[length_take] at this;omega
 obtain⟨o,tk,rfl,C⟩:=x.done;have B:∀ b:Addr,b∉(l7 CX P w K mg base N qual scope f m A outer s H E).ex:=λb z=>absurd (show b∈([]:List Addr) from z) (by simp)
 refine⟨⟨g.mod,S.kind,rfl,rfl,le_refl _,λy z c o d=>?_,λy hy=>?_,λy c _ h=>?_,λ_=>hd,Around.frames_deeper g.frames,.inr ⟨rfl,rfl⟩,λb z=>absurd z (B b),g.bs,g.Pe,λb _ _=>B b,λb z=>absurd z (B b),g.Lm,g.Qu⟩,
  rfl,g.bare,Un.kept C,⟨_,x.toInCall.ns,λi y v o d M=>?_⟩,λy c h=>⟨_,x.cell y c h⟩,g.IL.fresh (le_refl _),λy c h=>?_,λp l=>absurd (show p∈([]:Ib) from l) (by simp),g.IL.kept C,?_⟩
 ·exact name_of_addr x.apart (PySem.mem_of_lookup o) (PySem.mem_of_lookup d)
 ·have hy:scope.names.lookup y=some .cell∨scope.names.lookup y=some .free:=hy;rcases hy with hy |hy
  ·exact vj hy
  exact absurd rfl (S.QE _ (PySem.mem_of_lookup hy))
 ·exact le_of_lt (x.above y c (PySem.mem_of_lookup h))
 ·have t:i<vs.length:=by
   unfold start at d;by_cases t:i<vs.length
   ·exact t
   rw[getElem?_append_right (by simpa using t)] at d;rw[List.getElem?_replicate] at d;split at d<;>cases d
  have J:vs[i]?=some v:=by
   unfold start at d;rw[getElem?_append_left (by simpa using t),getElem?_map] at d;cases e:vs[i]? with
   |none=>rw[e] at d;cases d
   |some a=>rw[e] at d;cases d;rfl
  obtain⟨u,G,I⟩:=r.get J;have l:j[i]?=some y:=by rw[← S.pre,List.getElem?_take_of_lt (by omega)];exact o
  have D:j.Nodup:=by rw[← S.pre];exact S.nd.sublist (List.take_sublist _ _)
  refine⟨u,I,?_⟩;rcases S.par y (mem_of_getElem? l) with k |k
  ·exact .inl ⟨k,qY D l G k⟩
  obtain⟨c,e⟩:=vj (n:=s.heap.objs.size+1) k;refine .inr ⟨.inl k,c,e,?_⟩;have q:=x.cell y c e;rw[q0 D l G (by show scope.names.lookup y≠_;rw[k];decide)] at q;exact q
 ·exact g.IL.fresh (le_of_lt (x.above y c (PySem.mem_of_lookup h)))
 unfold start;show _=N.length;rw[List.length_append,length_map,List.length_replicate];omega
theorem F7 {CX:Oa}{P:Program}{w:World}{K:H_}{mg:Ic}{base:Heap}{k:Nat}{f:Addr}{name qual:Str}{params:Arguments}{body:List Stmt}{scope:Scope}{B kV doc z c ct U:Value}{C od:Option Addr}
  {R:Array (Option Value)}{N h:List Str}{sp:Sp}(O:K.lookup f=some ⟨U,od,.func (PySem.W.fnOf name qual params body scope B kV doc z C c ct),R⟩) (Nv:PySem.W.codeIn K c qual=true) (S:Ii N h scope)
  (len:∀ vs H Q E,sp vs H Q E->vs.length=h.length)
  (M:∀ (A:Around) (outer:List Env) (s:Shared) (H:Hp) (vs:List V) (Q:VK) (E:XK),IS k (A.deeper (envOfC qual scope s.heap.objs.size f c))->sp vs H Q E ->
   ∃ t,MI (l7 CX P w K mg base N qual scope f c A outer s H E) body t/\t { nx:=λ_ H'=>Q .Jm H',rt:=Q } (start N vs) H) :
  J9 P w K mg base CX (k+1) f (PySem.W.fnOf name qual params body scope B kV doc z C c ct) h sp:=by
 refine⟨len,λA outer s H args G vs Q E i g T r D=>?_⟩;have F:=len _ _ _ _ D;have KX:K.In s.heap:=g.mod.Ri.keeps λb o e=>(g.bs b o e).1;have j:s.heap.NoLimit:=g.mod.nolimit.keeps λb o e=>(g.bs b o e).1
 have L:∀ y∈h.zip G,scope.names.lookup y.1=some .local∨(scope.names.lookup y.1=some .cell/\((cellsFrom (s.heap.objs.size+1) scope.names []).lookup y.1).isSome=true):=λZq hy=>by
  obtain⟨n,v⟩:=Zq
  rcases S.par n (of_mem_zip hy).1 with q |q
  ·exact .inl q
  exact .inr ⟨q,PySem.W.cellsFrom_some _ _ _ (.inl q)⟩
 refine codeAny_call_function i.depth (KX _ _ O) rfl S.co S.gen rfl (PySem.W.codeRec_of KX Nv) (T _ _ _ _ ?_);refine wpAny_newFunctionEnv_cells S.kind L λenv X p x=>?_;subst X;refine⟨j.keeps x.toInCall.keep,codeAny_func ?_⟩;obtain⟨t,Y,Z⟩:=M A outer s H vs Q E (i.deeper _) D;have I:Inv (l7 CX P w K mg base N qual scope f c A outer s H E) [] (start N vs) H p:=zl S i.hd g F r x;refine wpAny_mono (Y [] p (start N vs) H _ I Z) (λfl m d=>?_) λe m d=>d
 have fin:∀ {a:St}{H':Hp}{v:V}{u:Value},Inv (l7 CX P w K mg base N qual scope f c A outer s H E) [] a H' m->RelV v u->Q v H'->CE outer P w H s Q u m:=
  λ{a H' v u} J l q=>⟨v,H',J.os,J.bare,J.base,J.IL,l,q⟩
 cases fl with
 |ret u =>
  obtain⟨v,a,H',J,l,q⟩:=d;exact fin J l q
 |next =>
  obtain⟨a,H',J,q⟩:=d;exact fin (v:=V.Jm) (u:=Value.none) J rfl q
 |brk =>
  obtain⟨_,_,_,q⟩:=d;exact False.elim q
 |cont =>
  obtain⟨_,_,_,q⟩:=d;exact False.elim q
section
variable {X:Cx}{x:Str}{p pos:Pos}{e:Expr}{es:List Expr}{t:TA}{id T:String}{r:List V->Hp->VK->Prop}
def Ux (r:List V->Hp->VK->Prop)(t:TA):TE:=λc H Q=>t c H λa b=>r a b Q
theorem i9 (y:Jb X (.builtin id) r)(n:Gl X x)(u:X.mg x=none)(f:bootBuiltins x=some (.builtin id))(d:PA X (e::es) t)(o:x≠"__name__":=by decide)(q:(x==("__debug__":Str))=false:=by decide)
  (l:starEach (e::es) X.env=(false,eval e X.env)::starEach es X.env:=by rfl) (m:(backTo pos (starEach es X.env)).any (·.1)=false:=by rfl):PE X (.Call (.Name x p) (e::es) [] pos) (Ux r t):=by
 intro a s b H Q I h;refine wpAny_Call_Name_kw (j9 I n u f ?_ o q);exact PyProof.Rows.callWith_builtin1 (IE (d pos a s b H _ I h) λi w ⟨j,v,c,k,g⟩=>y a w b v j i Q c k g) l m
theorem gT (y:Jb X (.type T) r)(n:Gl X x)(u:X.mg x=none)(f:bootBuiltins x=some (.type T))(d:PA X (e::es) t)(o:x≠"__name__":=by decide)(q:(x==("__debug__":Str))=false:=by decide)
  (l:starEach (e::es) X.env=(false,eval e X.env)::starEach es X.env:=by rfl) (m:(backTo pos (starEach es X.env)).any (·.1)=false:=by rfl):PE X (.Call (.Name x p) (e::es) [] pos) (Ux r t):=by
 intro a s b H Q I h;refine wpAny_Call_Name_kw (j9 I n u f ?_ o q);exact PyProof.Rows.callWith_type1 (IE (d pos a s b H _ I h) λi w ⟨j,v,c,k,g⟩=>y a w b v j i Q c k g) l m
end
section
variable {κ:Type} [DecidableEq κ]
def kI (kvs:List (κ×V))(k : κ):Option V:=(kvs.find? λa=>decide (a.1=k)).map (·.2)
def putK (kvs:List (κ×V))(k : κ)(v:V):List (κ×V):=
 if (kvs.any λa=>decide (a.1=k))=true then kvs.map (λa=>if a.1=k then (a.1,v) else a) else kvs++[(k,v)]
theorem nS {p : κ×V}{r:List (κ×V)}{k : κ}(e:p.1=k):kI (p::r) k=some p.2:=by simp[kI,find?_cons,e]
theorem nT {p : κ×V}{r:List (κ×V)}{k : κ}(e:¬ p.1=k):kI (p::r) k=kI r k:=by simp[kI,find?_cons,e]
theorem tW (k : κ):∀ kvs:List (κ×V),(kvs.any λa=>decide (a.1=k))=(kI kvs k).isSome
 |[]=>rfl
 |p::r=>by
  rw[any_cons];by_cases e:p.1=k
  ·simp only[nS e,decide_eq_true e,Bool.true_or,Option.isSome_some]
  rw[nT e,decide_eq_false e,Bool.false_or];exact tW k r
theorem mV (kvs:List (κ×V))(k : κ)(v:V):(putK kvs k v).length<=kvs.length+1:=by
 unfold putK;split
 ·rw[length_map];omega
 rw[List.length_append,length_cons,length_nil];omega
theorem J6.JB {o:Option V}{u:Option Value}(r:J6 o u):o.isSome=u.isSome:=by
 cases o with
 |none=>cases u with
  |none=>rfl
  |some _=>exact(show False from r).elim
 |some _=>cases u with
  |none=>exact(show False from r).elim
  |some _=>rfl
theorem KV.val {kvs:List (κ×V)}{vs:List (κ×Value)}(r:KV kvs vs)(k : κ):J6 (kI kvs k) (valueAt vs k):=by
 unfold KV at r
 induction r with
 |nil=>exact True.intro
 | @cons p q i c h t g =>
  obtain⟨d,f⟩:=h;by_cases e:p.1=k
  ·have a:q.1=k:=d.symm.trans e;have b:valueAt (q::c) k=some q.2:=by simp[valueAt,find?_cons,a]
   rw[nS e,b];exact f
  have a:¬ q.1=k:=λz=>e (d.trans z);have b:valueAt (q::c) k=valueAt c k:=by simp[valueAt,find?_cons,a]
  rw[nT e,b];exact g
theorem KV.any {kvs:List (κ×V)}{vs:List (κ×Value)}(r:KV kvs vs)(k : κ):(kvs.any λa=>decide (a.1=k))=vs.any λa=>decide (a.1=k):=by
 unfold KV at r
 induction r with
 |nil=>rfl
 |cons h t b=>rw[any_cons,any_cons,b,h.1]
theorem KV.QF {kvs:List (κ×V)}{vs:List (κ×Value)}(r:KV kvs vs)(k : κ){y:V}{u:Value}(c:RelV y u) :
  KV (kvs.map λa=>if a.1=k then (a.1,y) else a) (vs.map λa=>if a.1=k then (a.1,u) else a):=by
 unfold KV at r ⊢
 induction r with
 |nil=>exact .nil
 | @cons p q g i h t f =>
  rw[map_cons,map_cons];refine .cons ?_ f;obtain⟨b,d⟩:=h;by_cases e:p.1=k
  ·rw[if_pos e,if_pos (b.symm.trans e)];exact⟨b,c⟩
  rw[if_neg e,if_neg (λz=>e (b.trans z))];exact⟨b,d⟩
theorem KV.put {kvs:List (κ×V)}{vs:List (κ×Value)}(r:KV kvs vs)(k : κ){y:V}{u:Value}(a:RelV y u):KV (putK kvs k y) (stored vs k u):=by
 unfold putK stored;rw[r.any k];by_cases e:(vs.any λb=>decide (b.1=k))=true
 ·rw[if_pos e,if_pos e];exact r.QF k a
 rw[if_neg e,if_neg e];exact Paired.snoc r ⟨rfl,a⟩
theorem KV.length {kvs:List (κ×V)}{vs:List (κ×Value)}(r:KV kvs vs):kvs.length=vs.length:=Paired.length r
end
theorem oN {P:Program}{w:World}{k:Key}{u:Value}(r:RelV (kV k) u):(bo P w).is k u=true:=by
 cases k with
 |inl i=>obtain⟨t,e⟩:=(show ∃ t,u=Value.int i t from r);subst e;exact uI P w i t
 |inr x=>obtain⟨t,e⟩:=(show ∃ t,u=Value.str x t from r);subst e;exact uH P w x t
theorem qD {P:Program}{w:World}:∀ {a:List Key}{us:List Value},Vals (a.map kV) us->ItemsAre (bo P w) a us
 |[],_,r=>by rw[map_nil] at r;cases r;exact .nil
 |k::a,_,r=>by
  rw[map_cons] at r;cases r with
  |cons h t=>exact .cons (oN h) (qD t)
abbrev KT (H:Hp):List (List Key×V)->List (List Key×Addr×Value)->Prop:=Paired λp q=>p.1=q.1/\H q.2.1=some (.tup (p.1.map kV))/\RelV p.2 q.2.2
theorem KT.val {H:Hp}{kvs:List (List Key×V)}{xs:List (List Key×Addr×Value)}(r:KT H kvs xs)(k:List Key):J6 (kI kvs k) ((atKey xs k).map (·.2)):=by
 induction r with
 |nil=>exact True.intro
 | @cons p q i c h t g =>
  obtain⟨d,_,f⟩:=h;by_cases e:p.1=k
  ·have a:q.1=k:=d.symm.trans e;have b:atKey (q::c) k=some q.2:=by simp[atKey,find?_cons,a]
   rw[nS e,b];exact f
  have a:¬ q.1=k:=λz=>e (d.trans z);have b:atKey (q::c) k=atKey c k:=by simp[atKey,find?_cons,a]
  rw[nT e,b];exact g
theorem KT.QF {H:Hp}{kvs:List (List Key×V)}{xs:List (List Key×Addr×Value)}(r:KT H kvs xs)(k:List Key){y:V}{u:Value}(d:RelV y u) :
  KT H (kvs.map λb=>if b.1=k then (b.1,y) else b) (xs.map (putAt k u)):=by
 induction r with
 |nil=>exact .nil
 | @cons p q i j h t g =>
  rw[map_cons,map_cons];refine .cons ?_ g;obtain⟨a,c,f⟩:=h;unfold putAt;by_cases e:p.1=k
  ·rw[if_pos e,if_pos (a.symm.trans e)];exact⟨a,c,d⟩
  rw[if_neg e,if_neg (λz=>e (a.trans z))];exact⟨a,c,f⟩
theorem KT.put {H:Hp}{kvs:List (List Key×V)}{xs:List (List Key×Addr×Value)}(r:KT H kvs xs)(k:List Key){b:Addr}{y:V}{u:Value}(d:H b=some (.tup (k.map kV)))(a:RelV y u) :
  KT H (putK kvs k y) (storedH xs k b u):=by
 have e:(kvs.any λc=>decide (c.1=k))=(atKey xs k).isSome:=by rw[tW,(r.val k).JB,isSome_map]
 unfold putK storedH;rw[e];by_cases q:(atKey xs k).isSome=true
 ·rw[if_pos q,if_pos q];exact r.QF k a
 rw[if_neg q,if_neg q];exact Paired.snoc r ⟨rfl,d,a⟩
theorem KT.keeps {H H':Hp}{kvs:List (List Key×V)}{xs:List (List Key×Addr×Value)}(r:KT H kvs xs)(a:∀ b ys,H b=some (.tup ys)->H' b=some (.tup ys)):KT H' kvs xs:=
 Paired.Mo r λ_ _ z=>⟨z.1,a _ _ z.2.1,z.2.2⟩
section
variable {P:Program}{w:World}{H:Hp}{h:Heap}{a:Addr}
theorem DA {u:HO}(ok:Kz P w H h)(e:Rd H a u):IY P w H h a u:=e.ok ok
theorem ve {kvs:List (Key×V)}(ok:Kz P w H h)(e:Rd H a (.dK kvs)):kvs.length<=sizeLine/\(a==sysModules)=false/\∃ vs,KV kvs vs/\h.DictOf (bo P w) a vs:=
 show IY P w H h a (.dK kvs) from DA ok e
theorem Gi {kvs:List (Key×V)}(ok:Kz P w H h)(e:H a=some (.dK kvs)):kvs.length<=sizeLine/\(a==sysModules)=false/\∃ vs,KV kvs vs/\h.DictOf (bo P w) a vs:=ve ok (.inl e)
theorem oM {b:List Key}(ok:Kz P w H h)(e:H a=some (.tup (b.map kV))):(tupleKind (bo P w)).is h b a:=by obtain⟨_,its,r,p⟩:=(show IY P w H h a (.tup (b.map kV)) from ok a _ e);obtain⟨o,f,d,n,c⟩:=p.tup;exact⟨o,its.toArray,n,f,d,c,by simpa using qD r⟩
theorem vd {kvs:List (List Key×V)}(ok:Kz P w H h)(e:Rd H a (.dT kvs)):kvs.length<=sizeLine/\(a==sysModules)=false /\
  ∃ xs,KT H kvs xs/\h.DictOfH (tupleKind (bo P w)) a xs:=by
 obtain⟨z,y,xs,r,o,es,ep,f,d,c,i,j⟩:=(show IY P w H h a (.dT kvs) from DA ok e);refine⟨z,y,xs,r,o,es,ep,f,d,c,i,λx hx=>?_,j⟩
 have all:∀ {l:List (List Key×V)}{m:List (List Key×Addr×Value)},KT H l m->∀ x∈m,(tupleKind (bo P w)).is h x.1 x.2.1:=by
  intro l m q
  induction q with
  |nil=>intro x hx;exact nomatch hx
  | @cons p q k n b t g =>
   intro x hx;rcases mem_cons.mp hx with e |hx
   ·subst e;exact oM ok (by rw[← b.1];exact b.2.1)
   exact g x hx
 exact all r x hx
theorem Gh {kvs:List (List Key×V)}(ok:Kz P w H h)(e:H a=some (.dT kvs)):kvs.length<=sizeLine/\(a==sysModules)=false /\
  ∃ xs,KT H kvs xs/\h.DictOfH (tupleKind (bo P w)) a xs:=vd ok (.inl e)
end
def Ln (H:Hp)(a:Addr)(y:V)(r:Option V):Prop:=
 (∃ c k,Rd H a (.dK c)/\y=kV k/\r=kI c k)∨∃ c k b,Rd H a (.dT c)/\y = .ref b/\H b=some (.tup (k.map kV))/\r=kI c k
def Ow (H:Hp)(a:Addr)(y v:V)(H':Hp):Prop:=
 (∃ c k,H a=some (.dK c)/\y=kV k/\c.length<sizeLine/\H'=upd H a (.dK (putK c k v))) ∨
 ∃ c k b,H a=some (.dT c)/\y = .ref b/\H b=some (.tup (k.map kV))/\c.length<sizeLine/\H'=upd H a (.dT (putK c k v))
theorem Ln.k {H:Hp}{a:Addr}{kvs:List (Key×V)}{k:Key}(e:H a=some (.dK kvs)):Ln H a (kV k) (kI kvs k):=.inl ⟨kvs,k,.inl e,rfl,rfl⟩
theorem Ow.k {H:Hp}{a:Addr}{kvs:List (Key×V)}{k:Key}{v:V}(e:H a=some (.dK kvs))(b:kvs.length<sizeLine):Ow H a (kV k) v (upd H a (.dK (putK kvs k v))):=.inl ⟨kvs,k,e,rfl,b,rfl⟩
section
variable {X:Cx}{pins:Ib}{σ:St}{H:Hp}{s:Shared}{a:Addr}{y v:V}{u r:Value}{o:Option V}{A:Around}{E:Ia}
theorem Inv.big (I:Inv X pins σ H s):sysModules<s.heap.objs.size:=by have h:mainGlobals<s.heap.objs.size:=(I.mod.glob.keeps I.bk).lt;exact Nat.lt_trans (by decide) h
theorem zw {Q:Ia}(C:A.units+1<cLine)(I:Inv X pins σ H s)(g:Ln H a y (some v))(n:RelV y u)(h:∀ c s',Inv X pins σ H s'->RelV v c->Q c s') :
  wpAny (model X.prog X.w) A (getItem (.ref a) u) Q E s:=by
 rcases g with ⟨d,k,e,i,l⟩ |⟨d,k,b,e,i,x,l⟩
 ·subst i;obtain⟨z,hd,t,rel,f⟩:=ve I.IL e;obtain⟨c,m,j⟩:=J6.some_of (v:=v) (o:=valueAt t k) (by rw[l];exact rel.val k);exact wpAny_getItem_of (oN n) f.mapOf m (h c _ (I.tok _) j)
 subst i;cases (show u=Value.ref b from n);obtain⟨z,hd,r,rel,f⟩:=vd I.IL e;obtain⟨c,m,j⟩:=J6.some_of (v:=v) (o:=(atKey r k).map (·.2)) (by rw[l];exact rel.val k);obtain⟨p,B,q⟩:=map_eq_some_iff.mp m;refine wpAny_getItem_heap (tupleKind_room_in1 C) (oM I.IL x) f B ?_;rw[q];exact h c _ (I.tok _) j
theorem Hk {Q:Ia}(m:A.units+1<cLine)(I:Inv X pins σ H s)(g:Ln H a y o)(i:RelV y u)(h:∀ s',Inv X pins σ H s'->Q (.bool o.isSome) s') :
  wpAny (model X.prog X.w) A (compareOp .In u (.ref a)) Q E s:=by
 rcases g with ⟨c,k,e,f,l⟩ |⟨c,k,b,e,f,j,l⟩
 ·subst f;obtain⟨z,hd,p,rel,d⟩:=ve I.IL e;refine wpAny_in_of (oN i) hd d.mapOf ?_;rw[← (rel.val k).JB,← l];exact h _ (I.tok _)
 subst f;cases (show u=Value.ref b from i);obtain⟨z,hd,n,rel,d⟩:=vd I.IL e;refine wpAny_in_heap (tupleKind_room_in1 m) (oM I.IL j) hd d ?_;have q:=(rel.val k).JB;rw[isSome_map] at q;rw[← q,← l];exact h _ (I.tok _)
theorem De {Q:Ia}(m:A.units+1<cLine)(I:Inv X pins σ H s)(g:Ln H a y o)(i:RelV y u)(h:∀ s',Inv X pins σ H s'->Q (.bool (!o.isSome)) s') :
  wpAny (model X.prog X.w) A (compareOp .NotIn u (.ref a)) Q E s:=by
 rcases g with ⟨c,k,e,f,l⟩ |⟨c,k,b,e,f,j,l⟩
 ·subst f;obtain⟨z,hd,p,rel,d⟩:=ve I.IL e;refine wpAny_notIn_of (oN i) hd d.mapOf ?_;rw[← (rel.val k).JB,← l];exact h _ (I.tok _)
 subst f;cases (show u=Value.ref b from i);obtain⟨z,hd,n,rel,d⟩:=vd I.IL e;refine wpAny_notIn_heap (tupleKind_room_in1 m) (oM I.IL j) hd d ?_;have q:=(rel.val k).JB;rw[isSome_map] at q;rw[← q,← l];exact h _ (I.tok _)
theorem sL {h':Heap}{t':Nat}{c:HO}(I:Inv X pins σ H s)(h:Rz (H a))(f:Heap.SameBut a s.heap h')(d:∃ q,h'.get? a=some q)(new:IY X.prog X.w (upd H a c) h' a c) :
  Inv X pins σ (upd H a c) { s with heap:=h',toks:=t' }:=
 I.write (x:=a) (e:=a) h (.inl rfl) (λb q g z=>(f.2 b g).trans z) d new
theorem E5 {P:Program}{w:World}{H':Hp}{h':Heap}{kvs:List (Key×V)}{vs:List (Key×Value)}(z:kvs.length<=sizeLine)(hd:(a==sysModules)=false)(rel:KV kvs vs)(b:h'.DictOf (bo P w) a vs) :
  IY P w H' h' a (.dK kvs):=⟨z,hd,vs,rel,b⟩
theorem zv {H':Hp}{Q:Unit->Shared->Prop}(P:A.units+1<cLine)(I:Inv X pins σ H s)(g:Ow H a y v H')(B:RelV y u)(x:RelV v r)(h:∀ s',Inv X pins σ H' s'->Q () s') :
  wpAny (model X.prog X.w) A (setItem (.ref a) u r) Q E s:=by
 rcases g with ⟨d,k,e,o,l,m⟩ |⟨d,k,b,e,o,D,l,m⟩
 ·subst o m;obtain⟨z,hd,J,rel,n⟩:=Gi I.IL e;have t:J.length<=sizeLine:=by rw[← rel.length];exact z
  have j:(putK d k v).length<=sizeLine:=by have:=mV d k v;omega
  refine wpAny_setItem_pairs (hsz:=t) (oN B) n λF f p=>h _ ?_;have L:∃ q,F.get? a=some q:=let ⟨q,_,_,i,_⟩:=f;⟨q,i⟩;exact sL I (by rw[e];exact True.intro) p L (E5 j hd (rel.put k x) f)
 subst o m;cases (show u=Value.ref b from B);obtain⟨z,hd,G,rel,n⟩:=Gh I.IL e;have t:G.length<=sizeLine:=by rw[← Paired.length rel];exact z
 have j:(putK d k v).length<=sizeLine:=by have:=mV d k v;omega
 refine wpAny_setItem_heap (hsz:=t) (tupleKind_room_in1 P) (oM I.IL D) n λF f p=>h _ ?_;obtain⟨q,es,ep,i,M,K,N,_,O⟩:=f;refine sL I (by rw[e];exact True.intro) p ⟨q,i⟩ ⟨j,hd,_,(rel.put k D x).keeps λc R C=>?_,q,es,ep,i,M,K,N,O⟩;rw[aF (FV C e (λz=>nomatch z))];exact C
end
def zG (i:Expr):Prop:=∀ a b,subscripted i false a b=operate [a,b] (getItem a b)
theorem xq {prog:Program}{w:World}{A:Around}{E:Ia}{s:Shared}{env:Env}{value slice:Expr}{pos:Pos}{T id:String}{Q:Ia}
  (j:typeLookup (.type T) "__getitem__"=pure (some (.builtin id))) (k:zG slice)
  (h:wpAny (model prog w) A (eval value env) (λo c=>wpAny (model prog w) A (eval slice env) (λi a=>a.TypeIs o T/\wpAny (model prog w) A (getItem o i) Q E a) E c) E s) :
  wpAny (model prog w) A (eval (.Subscript value slice pos) env) Q E s:=by
 refine Subscript_ (wpAny_mono h (λo c f=>wpAny_mono f (λi a b=>?_) λ_ _ x=>x) λ_ _ x=>x);obtain⟨g,b⟩:=b;unfold subscriptTail;refine wpAny_bind ?_;rw[getitemInPython_of_ne g.not_modules];refine wpAny_bind (wpAny_specialOf g j ?_);have fin:wpAny (model prog w) A (subscripted slice false o i) (λr d=>wpAny (model prog w) A (letTemporaryGo value o r >>= λ_=>pure r) Q E d) E a:=by rw[k o i];exact wpAny_operating (wpAny_mono b (λr d e=>wpAny_bind (wpAny_letTemporaryGo (wpAny_pure e))) λ_ _ x=>x)
 first
  |exact wpAny_pure (wpAny_bind fin)
  |exact wpAny_bind (wpAny_pure (wpAny_bind fin))
  |exact wpAny_bind fin
theorem vf {X:Cx}{c:Ib}{h:St}{H:Hp}{s:Shared}{a:Addr}{y:V}{o:Option V}(I:Inv X c h H s)(g:Ln H a y o):s.TypeIs (.ref a) "dict":=by
 rcases g with ⟨f,k,e,_,_⟩ |⟨f,k,b,e,_,_,_⟩
 ·obtain⟨_,_,i,_,d⟩:=ve I.IL e;exact d.typeIs
 obtain⟨_,_,j,_,d⟩:=vd I.IL e;exact d.typeIs
def Fz (d ty:TE):TE:=λc H Q=>d c H λx e=>ty c e λy b => ∃ a v,x = .ref a/\Ln b a y (some v)/\Q v b
def Fy (ty d:TE):TE:=λc H Q=>ty c H λy e=>d c e λx b => ∃ a o,x = .ref a/\Ln b a y o/\Q (.bl o.isSome) b
def xo (ty d:TE):TE:=λc H Q=>ty c H λy e=>d c e λx b => ∃ a o,x = .ref a/\Ln b a y o/\Q (.bl (!o.isSome)) b
def FD (d ty tv:TE):TS:=λD b H=>tv b H λv f=>d b f λx e=>ty b e λy g => ∃ a c,x = .ref a/\Ow g a y v c/\D.nx b c
section
variable {X:Cx}{o i e value:Expr}{pos pos' RJ:Pos}{td ty tv:TE}
theorem Cy (z:X.A.units+1<cLine)(l:PE X o td)(hi:PE X i ty)(r:zG i):PE X (.Subscript o i pos) (Fz td ty):=by intro b s d H Q I h;refine xq PySem.F.slot_dict_getitem.lookup r (IE (l b s d H _ I h) λu t ⟨x,p,e,m,k⟩=>IE (hi b t d p _ e k) λD E Zq=>?_);obtain⟨y,f,c,j,a,v,ex,g,n⟩:=Zq;subst ex;obtain rfl:u=Value.ref a:=m;exact⟨vf c g,zw z c g j λC B w q=>⟨v,f,w,q,n⟩⟩
theorem AC (v:X.A.units+1<cLine)(hi:PE X i ty)(m:PE X o td):PC X .In i o (Fy ty td):=by intro b s c H Q I h;refine IE (hi b s c H _ I h) λz r ⟨y,q,d,f,k⟩=>IE (m b r c q _ d k) λu B Zq=>?_;obtain⟨x,e,j,n,a,l,ex,g,p⟩:=Zq;subst ex;obtain rfl:u=Value.ref a:=n;exact Hk v j g f λw t=>⟨.bl l.isSome,e,t,rfl,p⟩
theorem yP (v:X.A.units+1<cLine)(hi:PE X i ty)(m:PE X o td):PC X .NotIn i o (xo ty td):=by intro b s c H Q I h;refine IE (hi b s c H _ I h) λz r ⟨y,q,d,f,k⟩=>IE (m b r c q _ d k) λu B Zq=>?_;obtain⟨x,e,j,n,a,l,ex,g,p⟩:=Zq;subst ex;obtain rfl:u=Value.ref a:=n;exact De v j g f λw t=>⟨.bl (!l.isSome),e,t,rfl,p⟩
theorem Cn (J:X.A.units+1<cLine)(p:PE X o td)(hi:PE X i ty)(l:PE X value tv)(B:swapsWith value (some (.Subscript o i pos')) pos.line X.env=pure false) :
  PS X (.Assign [.Subscript o i pos'] value pos) (FD td ty tv):=by
 intro b s c H D I h;refine wpAny_Assign_Subscript (IE (l b s c H _ I h) λr E ⟨v,z,d,e,n⟩=>IE (p b E c z _ d n) λu C ⟨x,f,m,t,w⟩=>IE (hi b C c f _ m w) λL K Zq=>?_) B;obtain⟨y,N,G,k,a,q,ex,g,j⟩:=Zq;subst ex;obtain rfl:u=Value.ref a:=t;exact zv J G g k e λM F=>⟨c,q,F,j⟩
end
theorem Bp {P:Program}{w:World}{H:Hp}(h:Heap)(a:sysModules<h.objs.size):IY P w H (h.push { cls:=.type "dict",data:=.dict #[] }) h.objs.size (.dK []):=
 ⟨zero_le _,beq_eq_false_iff_ne.mpr (Ne.symm (ne_of_lt a)),[],.nil,Heap.DictOf.new h⟩
def DU:TE:=λ_ H Q => ∀ p,H p=none->Q (.ref p) (upd H p (.dK []))
section
variable {X:Cx}{pos:Pos}
theorem Ox:PE X (.Dict [] [] pos) DU:=λb s c H Q I h =>
 wpAny_Dict_empty ⟨.ref s.heap.objs.size,_,I.laid (a:=s.heap.objs.size) (o:=.dK []) (t':=s.toks) (λ_ _ q=>Heap.get?_push_of_some _ q) (le_refl _) (Bp s.heap I.big),rfl,h _ (I.IL.fresh (le_refl _))⟩
end
structure M1 (X:Cx) (o:Expr) (m:Str) (apos:Pos) (e:Expr) (IT:Pos):Prop where
 base:attributeBase o m X.env (eval o X.env)=eval o X.env
 XF:((backTo IT (starEach [e] X.env)).all (λx => !x.1)&&(backToKw IT (keywordEach [] X.env)).all (λx=>x.1.isSome)
  && decide (([e]:List Expr).length+([]:List Keyword).length+(if ([]:List Keyword).isEmpty then 0 else 1)<30))=true
 line:(apos.endLine==IT.line)=true
 trees:backTo IT (starEach [e] X.env)=[(false,eval e X.env)]
structure M2 (X:Cx) (o:Expr) (m:Str) (apos:Pos) (e f:Expr) (IT:Pos):Prop where
 base:attributeBase o m X.env (eval o X.env)=eval o X.env
 XF:((backTo IT (starEach [e,f] X.env)).all (λx => !x.1)&&(backToKw IT (keywordEach [] X.env)).all (λx=>x.1.isSome)
  && decide (([e,f]:List Expr).length+([]:List Keyword).length+(if ([]:List Keyword).isEmpty then 0 else 1)<30))=true
 line:(apos.endLine==IT.line)=true
 trees:backTo IT (starEach [e,f] X.env)=[(false,eval e X.env),(false,eval f X.env)]
end L2
namespace Att
open PySem PySem.W PySem.Calls PyProof.Rows
theorem ny {P:Params}{h:Heap}:∀ (ns:List Int) (vs:List Value),WellAll P h vs (ns.map WData.int)->IntsAre vs ns:=by
 intro ns
 induction ns with
 |nil =>
  intro vs w;rw[map_nil] at w;cases w;exact .nil
 |cons n ns c =>
  intro vs w;rw[map_cons] at w;cases w with
  |cons a b =>
   cases a;exact .cons _ _ (c _ b)
theorem yB {l:OpenLaw}{n:Nat}(t:l.most=some n){P:Params}{h:Heap}{args:List WData}{vals:List Value}
  (f:l.row.toRowW.claim.pre args=true) (v:WellAll P h vals args) :
  ∃ a vs ns,vals=[Value.ref a]/\args=[WData.list (ns.map WData.int)]/\h.get? a=some { cls:=.type "list",data:=.seq vs.toArray }/\IntsAre vs ns/\ns.length<=n:=by
 have j:WShape.hasAll [] args [.list .int]=true:=(pre_splitW f).1;have g:l.pre.holds [] { args:=args }=true:=(pre_splitW f).2;obtain⟨d,r,rfl,s,p⟩:=hasAllW_cons j;obtain rfl:=hasAllW_nil p;obtain⟨x,rfl,o⟩:=hasW_list s;obtain⟨ns,rfl⟩:=items_int o
 have b:ns.length<=n:=by
  unfold OpenLaw.pre at g;have c:(WTm.not (.lt (.lit (.int (n:Int))) (.len (.arg 0)))).holds [] { args:=[.list (ns.map .int)] }=true:=by have c:=(holds_andW g).1;rw[t] at c;exact c
  have e:=condW_of c (w_not (w_lt w_lit (w_len_list (w_arg rfl))));rw[length_map] at e;refine Nat.le_of_not_lt λq=>?_;have w:(n:Int)<((ns.length:Nat):Int):=by omega
  first
   |(rw[decide_eq_true w] at e;exact absurd e (by decide))
   |(simp at e;omega)
 cases v with
 |cons u i =>
  cases i;cases u with
  |list k m=>exact⟨_,_,ns,rfl,rfl,k,ny ns _ m,b⟩
theorem yL (l:OpenLaw)(args:List WData):l.row.toRowW.claim.post args (.bool true) args=true:=
 postW_of (r:=l.row.toRowW) (X:=(true==true))
  (show WShape.has [] (.bool true) .bool=true by first |rfl |decide |simp[WShape.has,WShape.arms,WShape.armsAll])
  (show (WTm.eq .res (.lit (.bool true))).value [] { args:=args,res:=some (.bool true),after:=args }=some (.bool (true==true)) from w_eq_bool (w_res rfl) w_lit) rfl
theorem MK {l:OpenLaw}{n:Nat}{q:Program}{loose:List Str}{k:(Ic)->Heap->Prop}{p:World->Heap->Prop}{d:DefRec}
  (B:l.most=some n) (H:d.params.defaults=[])
  (call:∀ (w:World) (s₀ b:Shared) (mg i:Ic) (g:Addr) (o:Obj) (j h doc:Value) (a:Addr) (vs:List Value) (ns:List Int),
   Ground q loose [] k w s₀ mg i b.heap->p w b.heap ->
   b.heap.get? g=some o->o.data = .func (docDef d.name d.params d.body d.scope j h doc)->b.heap.CodeRec h d.name->mg d.name=some (.ref g) ->
   b.heap.get? a=some { cls:=.type "list",data:=.seq vs.toArray }->IntsAre vs ns->ns.length<=n->b.gens = #[] ->
   codeAny (model l.prog w) callerA (.call (.ref g) ⟨[.ref a],[]⟩) (λr s'=>r = .ok (.ret (.bool true))/\OldK b.heap s'.heap/\s'.os=b.os/\AllBare s'.gens) b) :
  WalkO q loose k p l.row.toRowW d [] (λf vs=>PySem.call f vs):=by
 intro w s₀ b mg i G Y g o j h doc C kV u hd E m F A args vals L t M s J z;obtain rfl:C = .none:=Dflts.none m H;obtain rfl:kV = .none:=Dflts.noKw m;obtain⟨a,vs,ns,rfl,rfl,y,c,e⟩:=yB B t J;refine enter_call (codeAny_mono (call w s₀ b mg i g o j h doc a vs ns G Y u (fd_plain hd) E F y c e A) λr s' K=>?_);obtain⟨rfl,x,v,I⟩:=K;exact⟨.inl ⟨.bool true,.bool true,[],rfl,λ_=>rfl,.bool true,yL l _,λ_=>⟨List.Pairwise.nil,λ_ D=>(nomatch D)⟩⟩,x,v,I⟩
end Att
namespace L2
open PySem PySem.Spec PyProof.Rows
theorem lH:∀ {vs:List Value}{ns:List Int},IntsAre vs ns->Vals (ns.map V.int) vs
 |_,_,.nil => .nil
 |_,_,.cons n t h => .cons ⟨t,rfl⟩ (lH h)
def Fj (H:Hp):Prop:=∀ b,H b=none∨∃ o a,H b=some (.N_ o (.lst a))
theorem A0 {P:Program}{w:World}{K:H_}{mg t:Ic}{CX:Oa}{k:Nat}{p a:Addr}{fd:FuncData}{x:Str}{sp:Sp}{c:Shared}{vs:List Value}{ns:List Int}
  (KX:K.In c.heap) (A:c.heap.Ns mainGlobals mg) (f:c.heap.Ns builtinsNs t) (R:∀ x:Str,x≠"__name__"->t x=bootBuiltins x) (Uz:c.heap.NoLimit) (U:c.gens = #[])
  (i:c.heap.get? a=some { cls:=.type "list",data:=.seq vs.toArray }) (hi:IntsAre vs ns) (y:ns.length<=sizeLine) (J:IS k callerA)
  (F:∀ base:Heap,K.In base->base.Ns mainGlobals mg->J9 P w K mg base CX k p fd [x] sp) (RW:∀ (s:Shared) (u:Value),BindsTo s fd ⟨[u],[]⟩ [(x,u)])
  (PY:∀ H:Hp,Fj H->Lw K H a (ns.map V.int)->sp [.ref a] H (λv _=>v = .bl true) λ_ _ _=>False)
  (Z:∀ H e s',CX [] H c (λ_ _ _=>False) e s'->False) :
  codeAny (model P w) callerA (.call (.ref p) ⟨[.ref a],[]⟩) (λr s'=>r = .ok (.ret (.bool true))/\OldK c.heap s'.heap/\s'.os=c.os/\AllBare s'.gens) c:=by
 have D:=lH hi;have O:=hi.length
 have core:∀ H:Hp,Fj H->Lw K H a (ns.map V.int)->Kz P w H c.heap->(∀ b,H b≠none->b=a)->(H a≠none->K.lookup a=none) ->
   codeAny (model P w) callerA (.call (.ref p) ⟨[.ref a],[]⟩) (λr s'=>r = .ok (.ret (.bool true))/\OldK c.heap s'.heap/\s'.os=c.os/\AllBare s'.gens) c:=by
  intro H I W IL B X;have E:∀ {b:Addr}{o:Obj},c.heap.get? b=some o->H b=none->(sy c.heap H).get? b=some o:=λe n=>A8 e n
  have Q:∀ {b:Addr}{o:Obj}{es:Array DictEntry}{ep:Nat},c.heap.get? b=some o->o.data = .dict es ep->H b=none:=λ{b o es ep} e d=>by
   cases q:H b with
   |none=>rfl
   |some u =>
    have l:b=a:=B b (by rw[q];simp);subst l;rw[i] at e;cases e;have L:Data.seq vs.toArray _=Data.dict es ep:=d;cases L
  have j:∀ {b:Addr}{m:Ic},c.heap.Ns b m->(sy c.heap H).Ns b m:=λ{b m} ⟨o,es,ep,e,d,r⟩=>⟨o,es,ep,E e (Q e d),d,r⟩
  have C:K.In (sy c.heap H):=λb o e=>E (KX b o e) (by
   cases q:H b with
   |none=>rfl
   |some u =>
    have l:b=a:=B b (by rw[q];simp);subst l
    rw[X (by rw[q];simp)] at e;cases e)
  have M:Mod K mg (sy c.heap H):=⟨C,j A,⟨t,j f,R⟩,let ⟨mc,T,h2⟩:=Uz;⟨mc,j T,h2⟩⟩;have Y:M9 P w K mg (sy c.heap H) callerA [] c H:=⟨rfl,M,λb o e=>CG e,Nat.le_of_eq (zm _ _),trivial,λb f=>absurd (show b∈([]:List Addr) from f) (by simp),IL,.of_eq U⟩;refine codeAny_mono ((F _ C (j A)).run callerA [] c H ⟨[.ref a],[]⟩ [.ref a] [.ref a] _ _ J Y (RW c (.ref a)) (.cons rfl .nil) (PY H I W)) λr s' h=>?_;cases r with
  |error e=>exact(Z H e s' h).elim
  |ok fl =>
   cases fl with
   |next=>exact False.elim h
   |brk=>exact False.elim h
   |cont=>exact False.elim h
   |ret u =>
    obtain⟨v,H',os,bare,un,UC,r',q⟩:=h;have q':v = .bl true:=q;subst q';obtain rfl:u=Value.bool true:=r';refine⟨rfl,OldK.of_keep λb o e=>?_,os,bare⟩;cases q:H b with
    |none=>exact un.keep b o e q (by intro z;exact absurd (show b∈([]:List Addr) from z) (by simp)) (by simp)
    |some u =>
     rcases I b with z |⟨N,xs,z⟩
     ·rw[q] at z;cases z
     have z2:=un.LZ b N _ z;obtain⟨G,_⟩:=IL b _ z;obtain⟨S,_⟩:=UC b _ z2;rw[e] at G;cases G;exact S
 cases hk:K.lookup a with
 |some o =>
  have e:=KX a o hk;rw[i] at e;cases e;refine core (λ_=>none) (λ_ => .inl rfl) (.inr ⟨_,vs.toArray,_,hk,rfl,rfl,rfl,by rw[size_toArray,O];exact y,by simpa using D⟩) (λb u z=>by have g:(none:Option HO)=some u:=z;cases g) (λb z=>absurd rfl z) λz=>absurd rfl z
 |none =>
  refine core (λb=>if b=a then some (.N_ { cls:=.type "list",data:=.seq vs.toArray } (.lst (ns.map V.int))) else none) (λb=>?_) (.inl (.inr ⟨{ cls:=.type "list",data:=.seq vs.toArray },if_pos rfl⟩)) (λb u z=>?_) (λb z=>?_) λ_=>hk
  ·by_cases f:b=a
   ·exact .inr ⟨_,_,if_pos f⟩
   exact .inl (if_neg f)
  ·by_cases f:b=a
   ·have g:=(if_pos f).symm.trans z;cases g;subst f;exact⟨i,by rw[length_map];exact y,vs,_,D,i⟩
   have g:=(if_neg f).symm.trans z;cases g
  by_cases f:b=a
  ·exact f
  exact absurd (if_neg f) z
theorem Po {l:PySem.W.OpenLaw}{n k:Nat}{q:Program}{loose:List Str}{y:(Ic)->Heap->Prop}{p:World->Heap->Prop}{d:DefRec}{K:Params->H_}{CX:World->Oa}{sp:World->Sp}{x:Str}
  (B:l.most=some n) (D:n<=sizeLine) (I:d.params.defaults=[]) (r:IS k callerA)
  (J:∀ (w:World) (h:Heap),p w h->(K w.params).In h)
  (F:∀ (w:World) (mg:Ic) (m:Addr) (h:Heap),(K w.params).In h->h.Ns mainGlobals mg->mg d.name=some (.ref m) ->
   ∃ fd:FuncData,(∀ (s:Shared) (u:Value),BindsTo s fd ⟨[u],[]⟩ [(x,u)]) /\
    ∀ base:Heap,(K w.params).In base->base.Ns mainGlobals mg->J9 l.prog w (K w.params) mg base (CX w) k m fd [x] (sp w))
  (L:∀ (w:World) (H:Hp) (a:Addr) (ns:List Int),ns.length<=n->Fj H->Lw (K w.params) H a (ns.map V.int)->sp w [.ref a] H (λv _=>v = .bl true) λ_ _ _=>False)
  (N:∀ (w:World) (H:Hp) (s:Shared) (e:Value) (s':Shared),CX w [] H s (λ_ _ _=>False) e s'->False) :
  PySem.W.WalkO q loose y p l.row.toRowW d [] (λf vs=>PySem.call f vs):=by
 refine Att.MK B I λw s₀ j mg P m o R Q doc a vs ns G Y S hd U C z i c A=>?_;have KX:=J w _ Y;obtain⟨fd,O,M⟩:=F w mg m _ KX G.T.g C;exact A0 KX G.T.g G.T.b G.T.builtins G.T.nolimit A z i (Nat.le_trans c D) r M O (λH t E=>L w H a ns c t E) λH e s'=>N w H j e s'
def d5 (s:Stmt):Arguments:=match s with
 | .FunctionDef _ a _ _ _ _ _ _ _ _=>a
 |_ => { posonlyargs:=[],args:=[],vararg:=none,kwonlyargs:=[],kw_defaults:=[],kwarg:=none,defaults:=[] }
def bL (s:Stmt):List Stmt:=match s with
 | .FunctionDef _ _ b _ _ _ _ _ _ _=>b
 |_=>[]
def aq (s:Stmt):Scope:=match s with
 | .FunctionDef _ _ _ _ _ _ sc _ _ _=>sc
 |_ => { kind:=.function,names:=[],isGenerator:=false,isCoroutine:=false }
abbrev M_:Oa:=λ_ _ _ _ _ _=>False
abbrev E0:XK:=λ_ _ _=>False
theorem xE {X:Cx}:Passes M_ X E0:=λ_ _ _ _ _ _ _ h=>h.elim
structure ML (K:H_) (x qual:Str) (st:Stmt) (f:Addr) (fd:FuncData):Prop where
 ex:∃ (oc:Value) (od:Option Addr) (kV doc pm:Value) (an:Option Addr) (IB ct:Value) (Ov:Array (Option Value)),
  fd=PySem.W.fnOf x qual (d5 st) (bL st) (aq st) .none kV doc pm an IB ct/\K.lookup f=some ⟨oc,od,.func fd,Ov⟩/\PySem.W.codeIn K IB qual=true
 kp:PySem.W.keepIn K (.ref f)=true
section
variable {P:Program}{w:World}{K:H_}{mg:Ic}{base:Heap}
theorem ML.ok {x qual:Str}{st:Stmt}{f:Addr}{fd:FuncData}{N b:List Str}{k:Nat}{sp:Sp}(F:ML K x qual st f fd)(S:Ii N b (aq st))(len:∀ vs H Q E,sp vs H Q E->vs.length=b.length)
  (d:∀ (a:Value) (A:Around) (outer:List Env) (s:Shared) (H:Hp) (vs:List V) (Q:VK) (E:XK),IS k (A.deeper (envOfC qual (aq st) s.heap.objs.size f a))->sp vs H Q E ->
   ∃ t,MI (l7 M_ P w K mg base N qual (aq st) f a A outer s H E).Ou (bL st) t/\t { nx:=λ_ H'=>Q .Jm H',rt:=Q } (start N vs) H):J9 P w K mg base M_ (k+1) f fd b sp:=by
 obtain⟨m,j,kV,doc,l,n,a,ct,o,rfl,g,e⟩:=F.ex;refine F7 g e S len λA outer s H vs Q E c i=>?_;obtain⟨t,h,q⟩:=d a A outer s H vs Q E c i;exact⟨t,h.Ou,q⟩
theorem ML.binds {x qual:Str}{st:Stmt}{f:Addr}{fd:FuncData}{c:List Str}(F:ML K x qual st f fd)
  (h:∀ (kV doc b:Value) (d:Option Addr) (a ct:Value) (us:List Value),us.length=c.length->bindArgs (PySem.W.fnOf x qual (d5 st) (bL st) (aq st) .none kV doc b d a ct) ⟨us,[]⟩=pure (c.zip us)):Binds K fd c []:=by
 obtain⟨g,e,kV,doc,b,d,a,ct,k,rfl,j,i⟩:=F.ex;exact .all (h kV doc b d a ct)
theorem EV {x qual:Str}{st:Stmt}{f:Addr}{e:Value}{h d:Option Addr}{g:Array (Option Value)}{kV doc b a ct:Value}(l:K.lookup f=some ⟨e,h,.func (PySem.W.fnOf x qual (d5 st) (bL st) (aq st) .none kV doc b d a ct),g⟩)
  (c:PySem.W.codeIn K a qual=true) (k:PySem.W.keepIn K (.ref f)=true):ML K x qual st f (PySem.W.fnOf x qual (d5 st) (bL st) (aq st) .none kV doc b d a ct):=⟨⟨e,h,kV,doc,b,d,a,ct,g,rfl,l,c⟩,k⟩
end
theorem aU {A:Around}{k:Nat}(a:IS k A):A.units+1<cLine:=Nat.lt_of_le_of_lt (Nat.add_le_add_left (by decide : 1<=64) _) a.units
section
variable {X:Cx}
theorem pv (i:Nat){x:Str}{pos:Pos}(c:X.N[i]?=some x:=by rfl)(b:Tv X.env.scope x:=by first |exact Or.inl rfl |exact Or.inr (Or.inl rfl) |exact Or.inr (Or.inr rfl))(hd:(x==("__debug__":Str))=false:=by decide)
  (a:(x==("__classdict__":Str))=false:=by decide):PE X (.Name x pos) (Fq i):=Ax c b hd a
end
def Iz (H H':Hp):Prop:=∀ b o,H b=some o->H' b=some o
theorem Iz.refl (H:Hp):Iz H H:=λ_ _ h=>h
theorem Iz.trans {H e d:Hp}(a:Iz H e)(b:Iz e d):Iz H d:=λc o h=>b c o (a c o h)
end L2
namespace HT
open PySem PyProof.Rows
section
variable {prog:Program}{w:World}{A:Around}{E:Ia}{s:Shared}
theorem Pp {t b:Addr}{vs a:List Value}{Q:Ia}(u:IsTup s.heap t vs.toArray)(v:IsTup s.heap b a.toArray)(j:vs≠[])
  (r:a=[]->Q (.ref t) s) (q:a≠[]->Q (.ref s.heap.objs.size) { s with heap:=s.heap.push { cls:=.type "tuple",data:=.seq (vs++a).toArray } })
  (hsz:vs.length+a.length<=sizeLine):wpAny (model prog w) A (binaryOp .Add (.ref t) (.ref b)) Q E s:=by
 obtain⟨⟨cls,m,data,k⟩,f,o,n,hd⟩:=id u;obtain⟨⟨x,i,data2,h⟩,d,p,l,c⟩:=id v;simp only at o hd p c;subst o hd p c;have e:vs.toArray++a.toArray=(vs++a).toArray:=by simp
 by_cases g:a=[]
 ·exact concat_meets ⟨_,f,rfl⟩ ⟨_,d,rfl⟩ noFill_tuple_add seq_tuple_add PySem.F.slot_tuple_add PySem.F.entry_tuple_add (PySem.F.args_tuple_add_2 _ _)
   (tuple_addW1 t b vs.toArray a.toArray n l m i k h (by simpa using j) (by simp[g])) ⟨f,d,r g⟩
 refine concat_meets ⟨_,f,rfl⟩ ⟨_,d,rfl⟩ noFill_tuple_add seq_tuple_add PySem.F.slot_tuple_add PySem.F.entry_tuple_add (PySem.F.args_tuple_add_2 _ _)
  (tuple_addW2 t b vs.toArray a.toArray n l m i k h (by simpa using j) (by simpa using g) (by rw[size_toArray,size_toArray];exact hsz)) ⟨f,d,?_⟩
 rw[e];exact q g
def I0 (n d:Nat):Option Int->Nat
 |none=>d
 |some v=>if v<0 then (v+(n:Int)).toNat else min v.toNat n
theorem MM (n d:Nat):I0 n d none=d:=rfl
theorem Ny (n d k:Nat):I0 n d (some (k:Int))=min k n:=by show (if (k:Int)<0 then ((k:Int)+(n:Int)).toNat else min (k:Int).toNat n)=min k n;rw[if_neg (by omega),Int.toNat_natCast]
theorem Nb (n d:Nat)(hd:d<=n)(o:Option Int):I0 n d o<=n:=by
 cases o with
 |none=>exact hd
 |some v =>
  show (if v<0 then (v+(n:Int)).toNat else min v.toNat n)<=n;by_cases a:v<0
  ·rw[if_pos a];omega
  rw[if_neg a];exact Nat.min_le_right _ _
theorem x_ (v:Int)(n d:Nat):(if v<0 then max (v+(n:Int)) 0 else min v (n:Int))=((I0 n d (some v):Nat):Int):=by
 show (if v<0 then max (v+(n:Int)) 0 else min v (n:Int))=(((if v<0 then (v+(n:Int)).toNat else min v.toNat n):Nat):Int);by_cases a:v<0
 ·simp only[if_pos a];omega
 simp only[if_neg a];omega
theorem xb (lo hi:Option Int)(n:Nat):Builtin.Slice.sliceAdjust lo hi 1 (n:Int)=(((I0 n 0 lo:Nat):Int),((I0 n n hi:Nat):Int)):=by
 have a:¬ ((1:Int)<0):=by omega
 unfold Builtin.Slice.sliceAdjust;simp only[a,if_false];refine Prod.ext ?_ ?_
 ·cases lo with
  |none=>rfl
  |some v=>exact x_ v n 0
 cases hi with
 |none=>rfl
 |some v=>exact x_ v n n
theorem wt (i j:Nat):Builtin.Slice.slicePlaces (i:Int) (j:Int) 1=j-i:=by
 unfold Builtin.Slice.slicePlaces;have a:(1:Int) > 0:=by omega
 simp only[a,if_true,Int.ediv_one];split<;>omega
theorem n8 {v:Value}{o:Option Int}{Q:Option Int->Shared->Prop}(p:IsPart v o)(h:Q o s):wpAny (model prog w) A (Builtin.Slice.slicePartIndex v) Q E s:=by
 cases p with
 |none=>exact slicePart_none h
 |int i t=>exact slicePart_int h
theorem JP {e:Addr}{a c:Value}{lo hi:Option Int}{n:Nat}{Q:Int×Int×Nat->Shared->Prop}(g:s.heap.IsSliceOf e a c .none)(pl:IsPart a lo)(f:IsPart c hi)
  (h:Q (((I0 n 0 lo:Nat):Int),1,I0 n n hi-I0 n 0 lo) s):wpAny (model prog w) A (Builtin.Slice.sliceApplied (.ref e) (pure (n:Int))) Q E s:=by
 obtain⟨os,d,i,b⟩:=id g;unfold Builtin.Slice.sliceApplied Builtin.Slice.sliceFields;refine wpAny_bind (wpAny_bind (wpAny_field d b (x:=a) rfl (wpAny_bind (wpAny_field d b (x:=c) rfl (wpAny_bind (wpAny_field d b (x:=.none) rfl (wpAny_pure ?_)))))));refine wpAny_bind (slicePart_none ?_);show wpAny _ _ (if ((1:Int)==0)=true then _ else _) _ _ s;rw[if_neg (by decide)];refine wpAny_bind (n8 pl (wpAny_bind (n8 f (wpAny_bind (wpAny_pure ?_)))));show wpAny _ _ (match Builtin.Slice.sliceAdjust lo hi 1 (n:Int) with |(lo,hi)=>pure (lo,(1:Int),Builtin.Slice.slicePlaces lo hi 1)) _ _ s;rw[xb lo hi n];show wpAny _ _ (pure (((I0 n 0 lo:Nat):Int),(1:Int),Builtin.Slice.slicePlaces ((I0 n 0 lo:Nat):Int) ((I0 n n hi:Nat):Int) 1)) _ _ s;rw[wt];exact wpAny_pure h
theorem Au (xs:Array Value)(i k:Nat):((List.range k).filterMap λ(m:Nat)=>xs[((i:Int)+(m:Int)*1).toNat]?).toArray=((xs.toList.drop i).take k).toArray:=by
 have e:(λ(m:Nat)=>xs[((i:Int)+(m:Int)*1).toNat]?)=λm=>xs[i+m]?:=by
  funext m;have:((i:Int)+(m:Int)*1).toNat=i+m:=by omega
  rw[this]
 rw[e];have:=pick_run xs i k;rw[List.filterMap_map] at this;have a:((λx=>xs[x]?) ∘ λx=>i+x)=λm=>xs[i+m]?:=rfl;rw[a] at this;rw[this]
theorem KL {t c:Addr}{items:Array Value}{d e:Value}{lo hi:Option Int}{Q:Ia}(a:IsTup s.heap t items)(f:s.heap.IsSliceOf c d e .none)(pl:IsPart d lo)(i:IsPart e hi)
  (n:¬ (I0 items.size 0 lo=0/\I0 items.size items.size hi=items.size))
  (h:Q (.ref s.heap.objs.size) { s with heap:=s.heap.push { cls:=.type "tuple",data:=.seq ((items.toList.drop (I0 items.size 0 lo)).take (I0 items.size items.size hi-I0 items.size 0 lo)).toArray } })
  (hsz:items.size<=sizeLine):wpAny (model prog w) A (getItem (.ref t) (.ref c)) Q E s:=by
 have b:sizeOk (.seq ((items.toList.drop (I0 items.size 0 lo)).take (I0 items.size items.size hi-I0 items.size 0 lo)).toArray):=by show ((items.toList.drop (I0 items.size 0 lo)).take (I0 items.size items.size hi-I0 items.size 0 lo)).toArray.size<=sizeLine;rw[size_toArray,length_take,length_drop,length_toList];omega
 have u:I0 items.size items.size hi<=items.size:=Nb _ _ (le_refl _) hi;obtain⟨os,l,j,p⟩:=id f;have g:s.TypeIs (.ref c) "slice":=⟨os,l,j⟩;unfold getItem
 try with_reducible refine wpAny_holding ?_
 first |refine wpAny_bind (wpAny_pure ?_) |skip
 refine wpAny_bind (wpAny_sequenceKey a.typeIs (by decide) ?_)
 refine wpAny_bind (wpAny_callSpecial?_slot (name:=Str.ofString "__getitem__") a.typeIs PyProof.Rows.slot_tuple_getitem
  (wpAny_call_entry PyProof.Rows.slot_tuple_getitem a.typeIs entry_tuple_getitem ?_ (args_tuple_getitem _ _)))
 show wpAny _ _ (Builtin.Tuple.tupleItemsOf (.ref t) >>= _) _ _ s;refine wpAny_bind (tupleItemsOf_ a ?_);refine wpAny_bind (wpAny_typeOf g ?_);rw[if_pos (by decide)];refine wpAny_bind (JP f pl i ?_);have k:¬ ((((I0 items.size 0 lo:Nat):Int)==0&&(1:Int)==1&&(I0 items.size items.size hi-I0 items.size 0 lo)==items.size)=true):=by intro q;rw[and_eq_true,and_eq_true] at q;have o:((I0 items.size 0 lo:Nat):Int)=0:=eq_of_beq q.1.1;have r:I0 items.size items.size hi-I0 items.size 0 lo=items.size:=eq_of_beq q.2;exact n ⟨by omega,by omega⟩
 show wpAny _ _ (if (((I0 items.size 0 lo:Nat):Int)==0&&(1:Int)==1&&(I0 items.size items.size hi-I0 items.size 0 lo)==items.size)=true then _ else _) _ _ s;rw[if_neg k,Au]
 first
  |exact wpAny_bind (m:=Builtin.Tuple.tupleExact _) (wpAny_newObj_type (wpAny_pure ⟨_,rfl,wpAny_pure h⟩) b)
  |exact wpAny_bind (m:=Builtin.Tuple.tupleExact _) (wpAny_newObj_type (wpAny_bind (wpAny_pure (wpAny_pure ⟨_,rfl,wpAny_pure h⟩))) b)
  |exact wpAny_bind (wpAny_bind (m:=Builtin.Tuple.tupleExact _) (wpAny_newObj_type (wpAny_pure (wpAny_pure ⟨_,rfl,wpAny_pure h⟩)) b))
  |exact wpAny_bind (wpAny_bind (m:=Builtin.Tuple.tupleExact _) (wpAny_newObj_type (wpAny_pure ⟨_,rfl,wpAny_pure h⟩) b))
end
end HT
namespace L2
open PySem PySem.Spec PyProof.Rows
abbrev TO:=St->Hp->(Option Int->Hp->Prop)->Prop
def PO (X:Cx)(e:Option Expr)(t:TO):Prop:=
 ∀ (a:Ib) (s:Shared) (b:St) (H:Hp) (Q:Option Int->Hp->Prop),Inv X a b H s->t b H Q ->
  wpAny (model X.prog X.w) X.A (evalPart e X.env) (λu d => ∃ o c,Inv X a b c d/\IsPart u o/\Q o c) X.xe s
def B4:TO:=λ_ H Q=>Q none H
def Fs (t:TE):TO:=λb H Q=>t b H λx a => ∃ i,x = .int i/\Q (some i) a
theorem intsAre_of {ns:List Int}:∀ {us:List Value},Vals (ns.map V.int) us->IntsAre us ns:=by
 induction ns with
 |nil=>intro us r;rw[map_nil] at r;cases r;exact .nil
 |cons n ns c =>
  intro us r;rw[map_cons] at r;cases r with
  |cons a b =>
   obtain⟨t,e⟩:=a;subst e;exact .cons n t (c b)
section
variable {X:Cx}{e:Expr}{te:TE}{lo hi:Option Expr}{tl th:TO}{pos p2:Pos}
theorem Cp:PO X none B4:=by intro a s b H Q I h;rw[evalPart_none];exact wpAny_pure ⟨none,H,I,.none,h⟩
theorem Co (h:PE X e te):PO X (some e) (Fs te):=by intro a s g H Q I j;rw[evalPart_some];refine IE (h a s g H _ I j) λu k Zq=>?_;obtain⟨x,f,b,d,c⟩:=Zq;obtain⟨i,rfl,q⟩:=c;obtain⟨t,rfl⟩:=d;exact⟨some i,f,b,.int i t,q⟩
def TL (X:Cx)(r:V->Option Int->Option Int->Hp->VK->Prop):Prop:=
 ∀ (a:Ib) (s:Shared) (e:St) (H:Hp) (x:V) (v c d:Value) (lo hi:Option Int) (b:Addr) (Q:VK),Inv X a e H s->RelV x v->s.heap.IsSliceOf b c d .none->IsPart c lo->IsPart d hi->r x lo hi H Q ->
  ∃ T id,typeLookup (.type T) "__getitem__"=pure (some (.builtin id))/\s.TypeIs v T/\wpAny (model X.prog X.w) X.A (getItem v (.ref b)) (EP X a e Q) X.xe s
def XM (r:V->Option Int->Option Int->Hp->VK->Prop)(te:TE)(tl th:TO):TE:=λa H Q=>te a H λx d=>tl a d λl b=>th a b λu c=>r x l u c Q
theorem Ay {r:V->Option Int->Option Int->Hp->VK->Prop}(j:TL X r)(B:PE X e te)(o:PO X lo tl)(M:PO X hi th):PE X (.Subscript e (.Slice lo hi none p2) pos) (XM r te tl th):=by intro a s d H Q I h;refine Subscript_ (IE (B a s d H _ I h) λv G Zq=>?_);obtain⟨x,E,k,z,t⟩:=Zq;refine wpAny_Slice (IE (o a G d E _ k t) λf F ⟨l,m,p,pl,D⟩=>IE (M a F d m _ p D) λg c Zq=>?_);obtain⟨u,i,K,y,n⟩:=Zq;rw[evalPart_none];refine wpAny_pure ?_;have J:Inv X a d i { c with heap:=c.heap.push { cls:=.type "slice",data:=.fields #[f,g,.none] } }:=K.kept (t':=c.toks) λb O q=>Heap.get?_push_of_some _ q;obtain⟨T,id,N,L,C⟩:=j a { c with heap:=c.heap.push { cls:=.type "slice",data:=.fields #[f,g,.none] } } d i x v f g l u c.heap.objs.size Q J z (Heap.IsSliceOf.new ..) pl y n;show wpAny (model X.prog X.w) X.A (subscriptTail e (.Slice lo hi none p2) v (.ref c.heap.objs.size)) (EP X a d Q) X.xe { c with heap:=c.heap.push { cls:=.type "slice",data:=.fields #[f,g,.none] } };exact tail_any (ops:=[.ref c.heap.objs.size,v]) L N C (by with_unfolding_all rfl)
def vg (xs:List V)(lo hi:Option Int):List V:=(xs.drop (HT.I0 xs.length 0 lo)).take (HT.I0 xs.length xs.length hi-HT.I0 xs.length 0 lo)
theorem gg (xs:List V)(lo hi:Option Int):(vg xs lo hi).length<=xs.length:=by unfold vg;rw[length_take,length_drop];omega
def GP (K:H_):V->Option Int->Option Int->Hp->VK->Prop:=λx lo hi H Q => ∃ a b,x = .ref a/\LW K H a b /\
 ¬ (HT.I0 b.length 0 lo=0/\HT.I0 b.length b.length hi=b.length)/\∀ p,H p=none->Q (.ref p) (upd H p (.tup (vg b lo hi)))
theorem DY:TL X (GP X.K):=by
 intro e s w H x v p u lo hi n Q I k l pl i h;obtain⟨a,d,rfl,j,m,q⟩:=h;cases k;obtain⟨its,r,f,g⟩:=I.tuple j;have c:its.toArray.size=d.length:=by rw[size_toArray];exact r.length.symm
 refine⟨"tuple",_,PyProof.Rows.slot_tuple_getitem.lookup,f.typeIs,?_⟩;refine HT.KL f l pl i (by rw[c];exact m) ?_ (by rw[c];exact g);rw[c];refine⟨.ref s.heap.objs.size,_,I.laid (t':=s.toks) (o:=.tup (vg d lo hi)) (λb t q=>Heap.get?_push_of_some _ q) (le_refl _) ?_,rfl,q _ (I.IL.fresh (le_refl _))⟩;exact⟨Nat.le_trans (gg d lo hi) g,_,(r.drop (HT.I0 d.length 0 lo)).take (HT.I0 d.length d.length hi-HT.I0 d.length 0 lo),LY.new _ _⟩
def FG (K:H_):R2:=λx y H Q => ∃ a b d c,x = .ref a/\y = .ref b/\LW K H a d/\LW K H b c/\d≠[]/\d.length+c.length<=sizeLine /\
 (c=[]->Q (.ref a) H)/\(c≠[]->∀ p,H p=none->Q (.ref p) (upd H p (.tup (d++c))))
theorem Vals.Io {xs:List V}{us:List Value}(r:Vals xs us):us=[]↔xs=[]:=by
 cases r with
 |nil=>simp
 |cons _ _=>simp
theorem CF:LC X (binaryOp .Add) (FG X.K):=by intro e s C H x y v u Q I m j h;obtain⟨a,b,g,p,rfl,rfl,i,r,l,f,k,n⟩:=h;cases m;cases j;obtain⟨its,d,t,_⟩:=I.tuple i;obtain⟨A,c,p2,_⟩:=I.tuple r;refine HT.Pp t p2 (λz=>l (d.Io.mp z)) (λz=>⟨.ref a,H,I,rfl,k (c.Io.mp z)⟩) (λz=>?_) (by rw[← d.length,← c.length];exact f);refine⟨.ref s.heap.objs.size,_,I.laid (t':=s.toks) (o:=.tup (g++p)) (λb B q=>Heap.get?_push_of_some _ q) (le_refl _) ?_,rfl,n (λw=>z (c.Io.mpr w)) _ (I.IL.fresh (le_refl _))⟩;exact⟨by rw[List.length_append];exact f,_,d.append c,LY.new _ _⟩
end
def P0 (n:Nat)(i:Int):Option Nat:=if 0<=i then (if i<n then some i.toNat else none) else if -(n:Int)<=i then some (i+n).toNat else none
def Lo {α:Type}(xs:List α)(i:Int):Option α:=(P0 xs.length i).bind λj=>xs[j]?
theorem C7 {n:Nat}{i:Int}{j:Nat}(h:P0 n i=some j):seqIndex? i n=some j/\j<n/\-(n:Int)<=i/\i<n:=by
 unfold P0 at h;by_cases b : 0<=i
 ·rw[if_pos b] at h;by_cases a:i<n
  ·rw[if_pos a] at h;have e:i.toNat=j:=Option.some.inj h;exact⟨by rw[seqIndex_of b a,e],by omega,by omega,a⟩
  rw[if_neg a] at h;cases h
 rw[if_neg b] at h;by_cases a : -(n:Int)<=i
 ·rw[if_pos a] at h;have e:(i+n).toNat=j:=Option.some.inj h;exact⟨by rw[seqIndex_neg (by omega) a,e],by omega,a,by omega⟩
 rw[if_neg a] at h;cases h
theorem nI {α:Type}{xs:List α}{i:Int}{v : α}(h:Lo xs i=some v):∃ j,seqIndex? i xs.length=some j/\xs[j]?=some v/\j<xs.length/\-(xs.length:Int)<=i/\i<xs.length:=by
 unfold Lo at h;cases e:P0 xs.length i with
 |none=>rw[e] at h;cases h
 |some j =>
  rw[e] at h;obtain⟨d,c,b,a⟩:=C7 e;exact⟨j,d,h,c,b,a⟩
def nK (b:Expr):Prop:=∀ o i,subscripted b false o i=operate [o,i] (getItem o i)
def RY (X:Cx)(r:R2):Prop:=
 ∀ (value slice:Expr) (a:Ib) (s:Shared) (b:St) (H:Hp) (x y:V) (v u:Value) (Q:VK),Inv X a b H s->RelV x v->RelV y u->r x y H Q ->
  subscripted slice false v u=operate [v,u] (getItem v u)->wpAny (model X.prog X.w) X.A (subscriptTail value slice v u) (EP X a b Q) X.xe s
def TM (X:Cx)(id:String)(r:V->List V->Hp->VK->Prop):Prop:=
 ∀ (a:Ib) (s:Shared) (d:St) (H:Hp) (x:V) (b:List V) (v:Value) (c:List Value) (Q:VK),Inv X a d H s->RelV x v->Vals b c->r x b H Q ->
  wpAny (model X.prog X.w) X.A (call (.builtin id) (v::c)) (EP X a d Q) X.xe s
section
variable {X:Cx}{a b:Expr}{ta tb:TE}{pos:Pos}
theorem DC {r:R2}(d:RY X r)(f:PE X a ta)(m:PE X b tb)(k:nK b):PE X (.Subscript a b pos) (Rj r ta tb):=by intro c s n H Q I h;exact Subscript_ (Ff f m I h λv u l x y e i j g q=>d a b c l n e x y v u Q i j g q (k _ _))
def GT (K:H_):R2:=λx y H Q => ∃ p a i v,x = .ref p/\y = .int i/\Lw K H p a/\Lo a i=some v/\Q v H
def GR (K:H_):R2:=λx y H Q => ∃ p a i v,x = .ref p/\y = .int i/\LW K H p a/\Lo a i=some v/\Q v H
def GS:R2:=λx y H Q => ∃ z i c,x = .str z/\y = .int i/\z.length<=sizeLine/\Lo z.cps.toList i=some c/\Q (.str ⟨#[c]⟩) H
theorem xR:RY X (GT X.K):=by
 intro value slice a s g H x y v u Q I o k h e;obtain⟨p,F,i,z,rfl,rfl,E,m,q⟩:=h;cases o;obtain⟨t,rfl⟩:=k;obtain⟨its,r,pl,L⟩:=I.list E;obtain⟨j,b,n,G,C,D⟩:=nI m;obtain⟨w,d,B⟩:=r.get n;have l:=r.length;have J:=oI;have fin:EP X a g Q w s:=⟨z,H,I,B,q⟩;by_cases f : 0<=i
 ·have c:i.toNat=j:=by
   rw[seqIndex_of f D] at b;exact Option.some.inj b
  exact item_listR pl.isList f (by omega) (by rw[c];simpa using d) fin e
 have c:(i+(its.toArray.size:Int)).toNat=j:=by rw[seqIndex_neg (by omega) C] at b;rw[size_toArray,← l];exact Option.some.inj b
 exact subscriptTail_builtinR (x:=w) pl.isList.typeIs slot_list_getitem.lookup
  (wpAny_getItem_list_neg (Q:=λr A=>r=w/\EP X a g Q r A) pl.isList (by omega) (by rw[size_toArray]<;>omega) (by omega) (by rw[c];simpa using d) ⟨rfl,fin⟩) e
theorem ES:RY X (GR X.K):=by
 intro value slice a s b H x y v u Q I l d h o;obtain⟨p,B,i,z,rfl,rfl,A,f,q⟩:=h;cases l;obtain⟨t,rfl⟩:=d;obtain⟨its,r,pl,G⟩:=I.tuple A;obtain⟨j,k,g,C,E,F⟩:=nI f;obtain⟨w,c,n⟩:=r.get g;have e:=r.length;have D:=oI;have fin:EP X a b Q w s:=⟨z,H,I,n,q⟩
 exact subscriptTail_builtinR (x:=w) pl.typeIs slot_tuple_getitem.lookup
  (getItem_tuple (j:=j) (Q:=λr m=>r=w/\EP X a b Q r m) pl (by omega) (by omega) (by rw[size_toArray,← e];exact k) (by simpa using c) ⟨rfl,fin⟩) o
theorem ET:RY X GS:=by
 intro value slice b s C H x y v u Q I l d h n;obtain⟨z,i,c,rfl,rfl,B,g,q⟩:=h;obtain⟨t,rfl⟩:=l;obtain⟨r,rfl⟩:=d;obtain⟨j,a,k,w,o,p⟩:=nI g;have e:z.cps.toList.length=z.length:=by simp[Str.length]
 rw[e] at a o p;have A:=oI
 exact tail_any (typeIs_str s z t) slot_str_getitem.lookup (getItem_str (c:=c) (by
  have m:decide (i < -(2 ^ 63:Int))=false:=decide_eq_false (by omega);have f:decide (i≥2 ^ 63)=false:=decide_eq_false (by omega)
  rw[m,f,Bool.or_false]) (by rw[a];simpa using k) ⟨.str ⟨#[c]⟩,H,I.tok _,⟨_,rfl⟩,q⟩) n
theorem kP (lo hi:Option Int)(n:Nat):(sliceBounds lo hi none n).1=((HT.I0 n 0 lo:Nat):Int)/\(sliceBounds lo hi none n).2.1=((HT.I0 n n hi:Nat):Int)/\(sliceBounds lo hi none n).2.2=1:=by
 refine⟨?_,?_,rfl⟩
 ·cases lo with
  |none=>simp[sliceBounds,HT.I0]
  |some i =>
   simp only[sliceBounds,HT.I0,getD_none,show (1:Int) > 0 by decide,if_true];by_cases h:i<0
   ·simp only[h,if_true]<;>omega
   simp only[h,if_false]<;>omega
 cases hi with
 |none=>simp[sliceBounds,HT.I0]
 |some i =>
  simp only[sliceBounds,HT.I0,getD_none,show (1:Int) > 0 by decide,if_true];by_cases h:i<0
  ·simp only[h,if_true]<;>omega
  simp only[h,if_false]<;>omega
theorem pI (its:List Value)(lo hi:Option Int):slicePick its.toArray lo hi none=((its.drop (HT.I0 its.length 0 lo)).take (HT.I0 its.length its.length hi-HT.I0 its.length 0 lo)).toArray:=by obtain⟨c,b,a⟩:=kP lo hi its.toArray.size;unfold slicePick;rw[c,b,a];simp only[sliceRange_one,pick_run,size_toArray]<;>rfl
def GQ (K:H_):V->Option Int->Option Int->Hp->VK->Prop:=λx lo c H Q => ∃ a b,x = .ref a/\Lw K H a b/\∀ p,H p=none->Q (.ref p) (upd H p (.lst (vg b lo c)))
theorem B8:TL X (GQ X.K):=by intro f s w H x v p u lo e n Q I k l pl i h;obtain⟨a,c,rfl,j,q⟩:=h;cases k;obtain⟨its,r,g,m⟩:=I.list j;have d:=r.length;refine⟨"list",_,slot_list_getitem.lookup,g.isList.typeIs,?_⟩;refine wpAny_getItem_list_slice g.isList l pl i .none (by simp) ?_ (by rw[size_toArray]<;>omega);rw[pI,← d];refine⟨.ref s.heap.objs.size,_,I.laid (t':=s.toks) (o:=.lst (vg c lo e)) (λb t q=>Heap.get?_push_of_some _ q) (le_refl _) ?_,rfl,q _ (I.IL.fresh (le_refl _))⟩;exact⟨Nat.le_trans (gg c lo e) m,_,0,(r.drop (HT.I0 c.length 0 lo)).take (HT.I0 c.length c.length e-HT.I0 c.length 0 lo),Heap.get?_push_size _ rfl⟩
theorem io:Jb X (.builtin "len") (λxs H Q => ∃ p ys,xs=[.ref p]/\(Lw X.K H p ys∨LW X.K H p ys)/\Q (.int ys.length) H):=by
 intro c s i H xs f Q I r h;obtain⟨p,ys,rfl,hq,q⟩:=h;obtain⟨u,rfl,d⟩:=vals1 r;cases d;have g:=oI;rcases hq with hq |hq
 ·obtain⟨its,b,pl,e⟩:=I.list hq;have a:=b.length;exact Calls.call_len_list pl.isList (by simp only[size_toArray]<;>omega) ⟨.int ys.length,H,I.tok _,⟨s.toks+1,by rw[size_toArray,a]⟩,q⟩
 obtain⟨its,b,pl,e⟩:=I.tuple hq;have a:=b.length;exact len_tuple pl (by simp only[size_toArray]<;>omega) ⟨.int ys.length,H,I.tok _,⟨s.toks+1,by rw[size_toArray,a]⟩,q⟩
theorem sS:Jb X (.builtin "len") (λxs H Q => ∃ z,xs=[.str z]/\z.length<=sizeLine/\Q (.int z.length) H):=by intro a s d H xs e Q I r h;obtain⟨z,rfl,b,q⟩:=h;obtain⟨u,rfl,t,rfl⟩:=vals1 r;have c:=oI;exact len_str (by omega) ⟨.int z.length,H,I.tok _,⟨_,rfl⟩,q⟩
theorem Jb.or {f:Value}{r b:List V->Hp->VK->Prop}(h:Jb X f r)(h':Jb X f b):Jb X f (λxs H Q=>r xs H Q∨b xs H Q):=by
 intro a s c H xs e Q I d q;rcases q with q |q
 ·exact h a s c H xs e Q I d q
 exact h' a s c H xs e Q I d q
theorem lg:Jb X (.type "list") (λxs H Q => ∃ p ys,xs=[.ref p]/\(Lw X.K H p ys∨LW X.K H p ys)/\∀ l,H l=none->Q (.ref l) (upd H l (.lst ys))):=by
 intro g s v H xs x Q I r h;obtain⟨p,ys,rfl,hq,q⟩:=h;obtain⟨u,rfl,t⟩:=vals1 r;cases t
 have fin:∀ (its:List Value),Vals ys its->ys.length<=sizeLine->∀ (a:Heap) (c:Nat),(∀ b m,s.heap.get? b=some m->a.get? b=some m) ->
   a.get? s.heap.objs.size=some { cls:=.type "list",dict:=none,data:=.seq its.toArray c,slots:=#[] }->EP X g v Q (.ref s.heap.objs.size) { s with heap:=a }:=λits d i a c kp e =>
  ⟨.ref s.heap.objs.size,_,I.laid (t':=s.toks) kp (le_refl _) (show IY X.prog X.w _ a _ (.lst ys) from⟨i,its,c,d,e⟩),rfl,q _ (I.IL.fresh (le_refl _))⟩
 rcases hq with hq |hq
 ·obtain⟨its,d,pl,i⟩:=I.list hq;have f:=d.length;obtain⟨o,j,k,n,hd⟩:=pl.isList;exact call_list_seq p (.inl rfl) j k hd (λa c kp e=>fin its d i a c kp e) (by simp only[size_toArray]<;>omega)
 obtain⟨its,d,pl,i⟩:=I.tuple hq;have f:=d.length;obtain⟨o,j,k,n,hd⟩:=pl;exact call_list_seq p (.inr rfl) j k hd (λa c kp e=>fin its d i a c kp e) (by simp only[size_toArray]<;>omega)
theorem jX:Jb X (.type "tuple") (λxs H Q => ∃ p ys,xs=[.ref p]/\((Lw X.K H p ys/\∀ l,H l=none->Q (.ref l) (upd H l (.tup ys)))∨(LW X.K H p ys/\Q (.ref p) H))):=by
 intro a s k H xs t Q I r h;obtain⟨p,ys,rfl,h⟩:=h;obtain⟨u,rfl,n⟩:=vals1 r;cases n;rcases h with ⟨f,q⟩ |⟨f,q⟩
 ·obtain⟨its,d,pl,j⟩:=I.list f;have i:=d.length;refine call_tuple_list pl.isList (λc kp=>?_) (by simp only[size_toArray]<;>omega);have g:Inv X a k H { s with heap:=c }:=I.kept (t':=s.toks) kp
  have m:Inv X a k (upd H c.objs.size (.tup ys)) { s with heap:=c.push { cls:=.type "tuple",data:=.seq its.toArray } }:=
   g.laid (t':=s.toks) (λb o e=>Heap.get?_push_of_some _ e) (le_refl _) (show IY X.prog X.w _ _ _ (.tup ys) from⟨j,its,d,LY.new _ _⟩)
  exact⟨.ref c.objs.size,_,m,rfl,q _ (g.IL.fresh (le_refl _))⟩
 obtain⟨its,d,pl,j⟩:=I.tuple f;exact call_tuple_same pl ⟨.ref p,H,I,rfl,q⟩
def Rn (K:H_)(T:String)(x:V)(H:Hp):Prop:=match x with
 | .str _=>T="str"
 | .int _=>T="int"
 | .ref p=>(T="list"/\∃ b,Lw K H p b)∨(T="tuple"/\((∃ o,K.lookup p=some o/\o.cls = .type "tuple"/\o.dict=none)∨∃ b,Rd H p (.tup b))) ∨
   (T="dict"/\((∃ a,H p=some (.dK a))∨∃ a,H p=some (.dT a)))∨(T="set"/\∃ S n,H p=some (.set S n))
 |_=>False
theorem DO {f:Ib}{m:St}{H:Hp}{s:Shared}{T:String}{x:V}{v:Value}(I:Inv X f m H s)(r:RelV x v)(ty:Rn X.K T x H) :
  s.TypeIs v T/\∀ a,v = .ref a->∃ h,s.heap.get? a=some h/\h.dict=none:=by
 cases x with
 |str z =>
  obtain⟨t,rfl⟩:=r;cases (show T="str" from ty);exact⟨typeIs_str s z t,λ_ e=>nomatch e⟩
 |int i =>
  obtain⟨t,rfl⟩:=r;cases (show T="int" from ty);exact⟨typeIs_int s i t,λ_ e=>nomatch e⟩
 |ref p =>
  cases r;rcases ty with ⟨rfl,k,q⟩ |⟨rfl,⟨o,b,l,hd⟩ |⟨k,j⟩⟩ |⟨rfl,b⟩ |⟨rfl,S,n,b⟩
  ·obtain⟨its,_,pl,_⟩:=I.list q;refine⟨pl.isList.typeIs,λa e=>?_⟩;cases e;obtain⟨o,n,e,c,hd,_⟩:=pl;exact⟨o,e,hd⟩
  ·refine⟨⟨o,I.L9 p o b,l⟩,λa e=>?_⟩;cases e;exact⟨o,I.L9 _ o b,hd⟩
  ·obtain⟨_,its,_,n,e⟩:=j.ok I.IL;refine⟨⟨_,e,rfl⟩,λa d=>?_⟩;cases d;exact⟨_,e,rfl⟩
  ·have z:∃ o,s.heap.get? p=some o/\o.ExactDict:=by
    rcases b with ⟨g,b⟩ |⟨g,b⟩
    ·obtain⟨_,_,_,_,o,_,_,e,ex,_⟩:=I.IL p _ b;exact⟨o,e,ex⟩
    obtain⟨_,_,_,_,o,_,_,e,ex,_⟩:=I.IL p _ b;exact⟨o,e,ex⟩
   obtain⟨o,e,ex⟩:=z;refine⟨⟨o,e,ex.1⟩,λa d=>?_⟩;cases d;exact⟨o,e,ex.2.1⟩
  obtain⟨o,_,_,_,e,ex,_⟩:=I.IL p _ b;refine⟨⟨o,e,ex.1⟩,λa d=>?_⟩;cases d;exact⟨o,e,ex.2.1⟩
 |_=>exact False.elim ty
def V3 (K:H_)(T:String)(r:V->List V->Hp->VK->Prop)(to:TE)(t:TA):TE:=λb H Q=>to b H λx a=>Rn K T x a/\t b a λc d=>r x c d Q
variable {o e:Expr}{es:List Expr}{to:TE}{t:TA}{name:Str}{apos IT:Pos}{T id:String}{r:V->List V->Hp->VK->Prop}
theorem xD (j:PlainAttrs T)(slot:Slot T name id)(L:typeOf (.builtin id)=pure (.type "method_descriptor"))(A:TM X id r)(w:PE X o to)(i:PA X (e::es) t)
  (p:attributeBase o name X.env (eval o X.env)=eval o X.env:=by rfl)
  (l:((backTo IT (starEach (e::es) X.env)).all (λx => !x.1)&&(backToKw IT (keywordEach [] X.env)).all (λx=>x.1.isSome)
   && decide ((e::es).length+([]:List Keyword).length+(if ([]:List Keyword).isEmpty then 0 else 1)<30))=true:=by rfl)
  (B:(apos.endLine==IT.line)=true:=by rfl) (F:starEach (e::es) X.env=(false,eval e X.env)::starEach es X.env:=by rfl) (k:(backTo IT (starEach es X.env)).any (·.1)=false:=by rfl) :
  PE X (.Call (.Attribute o name apos) (e::es) [] IT) (V3 X.K T r to t):=by
 intro a s b H Q I h;refine wpAny_Call_method_late p l B rfl (IE (w a s b H _ I h) λv J Zq=>?_);obtain⟨x,E,c,d,ty,n⟩:=Zq;obtain⟨z,y⟩:=DO c d ty;refine⟨T,id,j,slot,L,z,y,?_⟩;have f:=i IT a J b E _ c n;rw[F] at f ⊢;refine Calls.callWith_builtin (by show (false ||(backTo IT (starEach es X.env)).any (·.1))=false;rw[k]<;>rfl) (Calls.evalArgs_plain ?_);exact IE f λq G ⟨u,g,m,C,D⟩=>A a G b g x u v q Q m d C D
end
def XO (X:Cx)(id:String)(r:V->List V->Hp->VK->Prop):Prop:=
 ∀ (a:Ib) (s:Shared) (d:St) (H:Hp) (x:V) (b:List V) (v:Value) (c:List Value) (Q:VK),Inv X a d H s->RelV x v->Vals b c->r x b H Q ->
  wpAny (model X.prog X.w) X.A (call (.builtin id) (v::c)) (EP X a d Q) X.xe s
theorem Vals.one:∀ {x:V}{us:List Value},Vals [x] us->∃ u,us=[u]/\RelV x u
 |_,_,.cons r .nil=>⟨_,rfl,r⟩
theorem Vals.rep {xs:List V}{us:List Value}(h:Vals xs us):∀ k:Nat,Vals (replicate k xs).flatten (replicate k us).flatten
 | 0 => .nil
 |k+1=>by
  rw[replicate_succ,replicate_succ,flatten_cons,flatten_cons];exact Vals.append h (Vals.rep h k)
theorem foldl_rep (its:List Value):∀ (k:Nat) (a:List Value),
  List.foldl (λx1 x2=>x1++x2) a.toArray (replicate k its.toArray)=(a++(replicate k its).flatten).toArray
 | 0,a=>by simp
 |k+1,a=>by
  have e:a.toArray++its.toArray=(a++its).toArray:=by simp
  have b:(a++its)++(replicate k its).flatten=a++(replicate (k+1) its).flatten:=by rw[replicate_succ,flatten_cons,List.append_assoc]
  rw[← b,← foldl_rep its k (a++its),← e,replicate_succ,foldl_cons]
section
variable {X:Cx}{pins:Ib}{σ:St}{H:Hp}{s:Shared}{l b:Addr}{xs ys zs:List V}
theorem Inv.UE {its its':List Value}{n:Nat}{f:Array Value->Array Value}{t':Nat}(I:Inv X pins σ H s)(a:H l=some (.lst xs))
  (e:s.heap.get? l=some { cls:=.type "list",data:=.seq its.toArray n }) (c:f its.toArray=its'.toArray) (b:Vals ys its') (hz:ys.length<=sizeLine) :
  Inv X pins σ (upd H l (.lst ys)) { s with heap:=s.heap.update l (Obj.mapSeq f),toks:=t' }:=by
 have q:=PySem.IsL.update e f;rw[c] at q;refine I.write (x:=l) (e:=l) (by rw[a];exact trivial) (.inl rfl) (λh u g d=>(Heap.get?_update_other s.heap (Obj.mapSeq f) (Ne.symm g)).trans d) ⟨_,q⟩ ?_;exact⟨hz,its',_,b,q⟩
theorem Inv.UG {its:List Value}{t':Nat}(I:Inv X pins σ H s)(a:Vals ys its)(hz:ys.length<=sizeLine) :
  Inv X pins σ (upd H s.heap.objs.size (.lst ys)) { s with heap:=s.heap.push { cls:=.type "list",data:=.seq its.toArray },toks:=t' }:=
 I.laid (λ_ _ q=>Heap.get?_push_of_some _ q) (le_refl _) ⟨hz,its,0,a,Heap.get?_push_size _ rfl⟩
theorem Inv.fresh (I:Inv X pins σ H s):H s.heap.objs.size=none:=I.IL.fresh (le_refl _)
theorem Inv.UH (I:Inv X pins σ H s)(a:H l=some (.lst xs)):xs.length<=sizeLine/\∃ (its:List Value) (n:Nat),Vals xs its/\xs.length=its.length/\s.heap.get? l=some { cls:=.type "list",data:=.seq its.toArray n }:=by obtain⟨z,its,n,r,e⟩:=I.IL l _ a;exact⟨z,its,n,r,r.length,e⟩
end
section
variable {X:Cx}
def Ch:V->List V->Hp->VK->Prop:=λx b H Q => ∃ l a y,x = .ref l/\b=[y]/\H l=some (.lst a)/\a.length<sizeLine/\Q .Jm (upd H l (.lst (a++[y])))
theorem yZ:XO X "list.append" Ch:=by intro b s o H x k v j Q I f c h;obtain⟨l,g,y,rfl,rfl,a,m,q⟩:=h;cases f;obtain⟨u,rfl,d⟩:=c.one;obtain⟨z,its,n,r,i,e⟩:=I.UH a;refine call_meets F.slot_list_append ⟨_,e,rfl⟩ F.entry_list_append (F.args_list_append_2 _ _) (PySem.list_append l its.toArray n u (by rw[size_toArray];omega)) ⟨e,?_⟩;refine⟨.Jm,_,I.UE (its':=its++[u]) a e (by simp) (r.append (.cons d .nil)) ?_,rfl,q⟩;rw[List.length_append,length_singleton];omega
theorem len_rep {α:Type}(xs:List α)(k:Nat):(replicate k xs).flatten.length=k*xs.length:=by
 induction k with
 |zero=>simp
 |succ k a=>rw[replicate_succ,flatten_cons,List.length_append,a,Nat.succ_mul,Nat.add_comm]
end
inductive D where
 |Jm |bl (b:Bool) |int (i:Int) |str (x:Str)
 |tup (xs:List D) |lst (xs:List D) |set (xs:List D) |loc (l:Nat) |fn (x:Str) (st:Stmt)
 deriving Inhabited
def TQ (K:H_)(H:Hp)(J:List Addr)(a:Addr)(xs:List V):Prop:=
 (Rd H a (.tup xs)/\a∉J/\xs.length<=sizeLine)∨∃ (o:Obj) (its:Array Value) (n:Nat),K.lookup a=some o/\o.cls = .type "tuple"/\o.dict=none/\o.data = .seq its n/\its.size<=sizeLine/\Vals xs its.toList
def LQ (K:H_)(H:Hp)(J:List Addr)(a:Addr)(xs:List V):Prop:=
 (Rd H a (.lst xs)/\a∉J/\xs.length<=sizeLine)∨∃ (o:Obj) (its:Array Value) (n:Nat),K.lookup a=some o/\o.cls = .type "list"/\o.dict=none/\o.data = .seq its n/\its.size<=sizeLine/\Vals xs its.toList
theorem TQ.sq {K:H_}{H:Hp}{J:List Addr}{a:Addr}{xs:List V}(h:TQ K H J a xs):LW K H a xs:=h.elim (λz => .inl z.1) λ⟨o,its,n,a,b,_,c⟩ => .inr ⟨o,its,n,a,b,c⟩
theorem LQ.sq {K:H_}{H:Hp}{J:List Addr}{a:Addr}{xs:List V}(h:LQ K H J a xs):Lw K H a xs:=h.elim (λz => .inl z.1) .inr
def Hn (a:Addr)(us:List Value):HO:=HO.ext λh => ∃ o es ep t,h.get? a=some o/\o.ExactSet/\o.data = .set es ep t/\(es.toList.map (·.2))=us/\t.fits es.size=true/\es.size<=sizeLine
def P4 (x:Str):Prop:=x.length<=sizeLine/\PyData.strOk x=true
mutual
def At (K:H_)(H:Hp)(J:List Addr):D->V->Prop
 | .Jm,v=>v = .Jm
 | .bl b,v=>v = .bl b
 | .int i,v=>v = .int i
 | .str x,v=>v = .str x/\P4 x
 | .tup d,v => ∃ a c,v = .ref a/\TQ K H J a c/\Il K H J d c
 | .lst d,v => ∃ a c,v = .ref a/\LQ K H J a c/\Il K H J d c
 | .set d,v => ∃ a e c,v = .ref a/\H a=some (Hn a e)/\a∉J/\Vals c e/\Il K H J d c
 | .loc l,v => ∃ a,v = .ref a/\J[l]?=some a
 | .fn x st,v => ∃ f fd,v = .ref f/\ML K x x st f fd
def Il (K:H_)(H:Hp)(J:List Addr):List D->List V->Prop
 |[],vs=>vs=[]
 |d::ds,vs => ∃ v r,vs=v::r/\At K H J d v/\Il K H J ds r
end
structure Ex (J:List Addr) (H:Hp) (J':List Addr) (H':Hp):Prop where
 pre:J <+: J'
 keep:∀ b o,H b=some o->b∉J->H' b=some o/\b∉J'
theorem Ex.refl {J:List Addr}{H:Hp}:Ex J H J H:=⟨prefix_refl _,λ_ _ h n=>⟨h,n⟩⟩
theorem Ex.trans {J g d:List Addr}{H f e:Hp}(a:Ex J H g f)(b:Ex g f d e):Ex J H d e:=
 ⟨a.pre.trans b.pre,λc o h n=>let ⟨j,i⟩:=a.keep c o h n;b.keep c o j i⟩
theorem Ex.same {J:List Addr}{H H':Hp}(s:Iz H H'):Ex J H J H':=⟨prefix_refl _,λb o h n=>⟨s b o h,n⟩⟩
section
variable {K:H_}{H H':Hp}{J J':List Addr}
theorem Rd.ex {a:Addr}{u:HO}(e:Ex J H J' H')(h:Rd H a u)(n:a∉J):Rd H' a u/\a∉J':=by
 rcases h with h |⟨o,h⟩
 ·exact⟨.inl (e.keep a _ h n).1,(e.keep a _ h n).2⟩
 exact⟨.inr ⟨o,(e.keep a _ h n).1⟩,(e.keep a _ h n).2⟩
theorem TQ.ex {a:Addr}{xs:List V}(e:Ex J H J' H')(h:TQ K H J a xs):TQ K H' J' a xs:=h.elim (λz => .inl ⟨(z.1.ex e z.2.1).1,(z.1.ex e z.2.1).2,z.2.2⟩) .inr
theorem LQ.ex {a:Addr}{xs:List V}(e:Ex J H J' H')(h:LQ K H J a xs):LQ K H' J' a xs:=h.elim (λz => .inl ⟨(z.1.ex e z.2.1).1,(z.1.ex e z.2.1).2,z.2.2⟩) .inr
theorem TQ.len {a:Addr}{xs:List V}(h:TQ K H J a xs):xs.length<=sizeLine:=by
 rcases h with ⟨_,_,z⟩ |⟨o,its,n,_,_,_,_,z,r⟩
 ·exact z
 have e:=Vals.length r;simp only[length_toList] at e;omega
theorem LQ.len {a:Addr}{xs:List V}(h:LQ K H J a xs):xs.length<=sizeLine:=by
 rcases h with ⟨_,_,z⟩ |⟨o,its,n,_,_,_,_,z,r⟩
 ·exact z
 have e:=Vals.length r;simp only[length_toList] at e;omega
theorem xA {α:Type}{l a:List α}(h:l <+: a){i:Nat}{x : α}(e:l[i]?=some x):a[i]?=some x:=by obtain⟨t,rfl⟩:=h;rw[getElem?_append_left (List.getElem?_eq_some_iff.mp e).1];exact e
mutual
theorem At.ex (e:Ex J H J' H'):∀ {d:D}{v:V},At K H J d v->At K H' J' d v
 | .Jm,_,h=>by unfold At at h ⊢;exact h
 | .bl _,_,h=>by unfold At at h ⊢;exact h
 | .int _,_,h=>by unfold At at h ⊢;exact h
 | .str _,_,h=>by unfold At at h ⊢;exact h
 | .tup c,_,h=>by unfold At at h ⊢;obtain⟨a,b,rfl,q,r⟩:=h;exact⟨a,b,rfl,q.ex e,Il.ex e r⟩
 | .lst c,_,h=>by unfold At at h ⊢;obtain⟨a,b,rfl,q,r⟩:=h;exact⟨a,b,rfl,q.ex e,Il.ex e r⟩
 | .set c,_,h=>by unfold At at h ⊢;obtain⟨a,f,b,rfl,q,n,r,z⟩:=h;exact⟨a,f,b,rfl,(e.keep a _ q n).1,(e.keep a _ q n).2,r,Il.ex e z⟩
 | .loc l,_,h=>by unfold At at h ⊢;obtain⟨a,rfl,q⟩:=h;exact⟨a,rfl,xA e.pre q⟩
 | .fn _ _,_,h=>by unfold At at h ⊢;exact h
theorem Il.ex (e:Ex J H J' H'):∀ {ds:List D}{vs:List V},Il K H J ds vs->Il K H' J' ds vs
 |[],_,h=>by unfold Il at h ⊢;exact h
 |d::ds,_,h=>by unfold Il at h ⊢;obtain⟨v,r,rfl,p,q⟩:=h;exact⟨v,r,rfl,At.ex e p,Il.ex e q⟩
end
theorem At.Kl {v:V}:At K H J .Jm v↔v = .Jm:=by unfold At;exact Iff.rfl
theorem At.IK {b:Bool}{v:V}:At K H J (.bl b) v↔v = .bl b:=by unfold At;exact Iff.rfl
theorem At.Ij {i:Int}{v:V}:At K H J (.int i) v↔v = .int i:=by unfold At;exact Iff.rfl
theorem At.Iy {x:Str}{v:V}:At K H J (.str x) v↔v = .str x/\P4 x:=by unfold At;exact Iff.rfl
theorem At.IC {ds:List D}{v:V}:At K H J (.tup ds) v↔∃ a xs,v = .ref a/\TQ K H J a xs/\Il K H J ds xs:=by unfold At;exact Iff.rfl
theorem At.ID {ds:List D}{v:V}:At K H J (.lst ds) v↔∃ a xs,v = .ref a/\LQ K H J a xs/\Il K H J ds xs:=by unfold At;exact Iff.rfl
theorem At.II {l:Nat}{v:V}:At K H J (.loc l) v↔∃ a,v = .ref a/\J[l]?=some a:=by unfold At;exact Iff.rfl
theorem At.Oz {x:Str}{st:Stmt}{v:V}:At K H J (.fn x st) v↔∃ f fd,v = .ref f/\ML K x x st f fd:=by unfold At;exact Iff.rfl
theorem Il.Io {vs:List V}:Il K H J [] vs↔vs=[]:=by unfold Il;exact Iff.rfl
theorem Il.Ik {d:D}{ds:List D}{vs:List V}:Il K H J (d::ds) vs↔∃ v r,vs=v::r/\At K H J d v/\Il K H J ds r:=by
 constructor
 ·intro h;unfold Il at h;exact h
 intro h;unfold Il;exact h
theorem Il.nil:Il K H J [] []:=Il.Io.mpr rfl
theorem Il.cons {d:D}{v:V}{ds:List D}{vs:List V}(h:At K H J d v)(r:Il K H J ds vs):Il K H J (d::ds) (v::vs):=Il.Ik.mpr ⟨v,vs,rfl,h,r⟩
theorem Il.Iq {d:D}{v:V}{ds:List D}{vs:List V}(h:Il K H J (d::ds) (v::vs)):At K H J d v/\Il K H J ds vs:=by obtain⟨_,_,e,p,q⟩:=Il.Ik.mp h;cases e;exact⟨p,q⟩
theorem Il.length:∀ {ds:List D}{vs:List V},Il K H J ds vs->ds.length=vs.length
 |[],_,h=>by rw[Il.Io.mp h];rfl
 |d::ds,_,h=>by obtain⟨v,r,rfl,_,q⟩:=Il.Ik.mp h;rw[length_cons,length_cons,Il.length q]
theorem Il.append:∀ {ds es:List D}{vs us:List V},Il K H J ds vs->Il K H J es us->Il K H J (ds++es) (vs++us)
 |[],_,_,_,h,k=>by rw[Il.Io.mp h];exact k
 |d::ds,_,_,_,h,k=>by obtain⟨v,r,rfl,p,q⟩:=Il.Ik.mp h;exact .cons p (Il.append q k)
theorem Il.get:∀ {ds:List D}{vs:List V}{i:Nat}{d:D},Il K H J ds vs->ds[i]?=some d->∃ v,vs[i]?=some v/\At K H J d v
 |[],_,_,_,_,e=>by simp at e
 |d::ds,_,0,_,h,e=>by obtain⟨v,r,rfl,p,q⟩:=Il.Ik.mp h;simp at e;subst e;exact⟨v,rfl,p⟩
 |d::ds,_,i+1,_,h,e=>by obtain⟨v,r,rfl,p,q⟩:=Il.Ik.mp h;exact Il.get (i:=i) q (by simpa using e)
theorem Il.get':∀ {ds:List D}{vs:List V}{i:Nat}{v:V},Il K H J ds vs->vs[i]?=some v->∃ d,ds[i]?=some d/\At K H J d v
 |[],_,_,_,h,e=>by rw[Il.Io.mp h] at e;simp at e
 |d::ds,_,0,_,h,e=>by obtain⟨v,r,rfl,p,q⟩:=Il.Ik.mp h;simp at e;subst e;exact⟨d,rfl,p⟩
 |d::ds,_,i+1,_,h,e=>by obtain⟨v,r,rfl,p,q⟩:=Il.Ik.mp h;exact Il.get' (i:=i) q (by simpa using e)
theorem Il.take:∀ {ds:List D}{vs:List V}(n:Nat),Il K H J ds vs->Il K H J (ds.take n) (vs.take n)
 |_,_,0,_=>by simpa using Il.nil
 |[],_,_+1,h=>by rw[Il.Io.mp h];simpa using Il.nil
 |d::ds,_,n+1,h=>by obtain⟨v,r,rfl,p,q⟩:=Il.Ik.mp h;exact .cons p (Il.take n q)
theorem Il.drop:∀ {ds:List D}{vs:List V}(n:Nat),Il K H J ds vs->Il K H J (ds.drop n) (vs.drop n)
 |_,_,0,h=>h
 |[],_,_+1,h=>by rw[Il.Io.mp h];simpa using Il.nil
 |d::ds,_,n+1,h=>by obtain⟨v,r,rfl,p,q⟩:=Il.Ik.mp h;exact Il.drop n q
theorem Il.rep {ds:List D}{vs:List V}(h:Il K H J ds vs):∀ k:Nat,Il K H J (replicate k ds).flatten (replicate k vs).flatten
 | 0=>Il.nil
 |k+1=>by rw[replicate_succ,replicate_succ,flatten_cons,flatten_cons];exact h.append (Il.rep h k)
theorem Il.ofInts:∀ (ns:List Int),Il K H J (ns.map D.int) (ns.map V.int)
 |[] => .nil
 |n::ns => .cons (At.Ij.mpr rfl) (Il.ofInts ns)
theorem Il.K5:∀ {ns:List Int}{vs:List V},Il K H J (ns.map D.int) vs->vs=ns.map V.int
 |[],_,h=>Il.Io.mp h
 |n::ns,_,h=>by obtain⟨v,r,rfl,p,q⟩:=Il.Ik.mp h;rw[At.Ij.mp p,Il.K5 q];rfl
end
mutual
def toPy:D->Option PyData
 | .Jm=>some .none
 | .bl b=>some (.bool b)
 | .int i=>some (.int i)
 | .str x=>some (.str x)
 | .tup a=>(bW a).map .tuple
 | .lst a=>(bW a).map .list
 | .set _=>none
 | .loc _=>none
 | .fn _ _=>none
def bW:List D->Option (List PyData)
 |[]=>some []
 |d::ds=>(toPy d).bind λp=>(bW ds).map λr=>p::r
end
inductive MO where
 |dict (kvs:List (D×D)) |lst (xs:List D) |exc (c:Str) |Ir (kvs:List (D×D)) |ins (c:Str) (fs:List (Str×D))
 deriving Inhabited
abbrev Ig:=List MO
def eY:D->Option Key
 | .int i=>some (.inl i)
 | .str x=>some (.inr x)
 |_=>none
def XQ (a C:Addr):HO:=HO.ext λh => ∃ o,h.get? a=some o/\o.cls = .ref C
def fX (d:D):Option PyData:=(toPy d).bind λp=>if keyOk 8 p=true then some p else none
abbrev NS (K:H_)(H:Hp)(J:List Addr):(D×D)->(PyData×Addr×V)->Prop:=λp q=>(fX p.1=some q.1/\At K H J p.1 (.ref q.2.1))/\At K H J p.2 q.2.2
abbrev TN (K:H_)(H:Hp)(J:List Addr):(Str×D)->(Str×V)->Prop:=λp q=>p.1=q.1/\At K H J p.2 q.2
def P5 (K:H_)(H:Hp)(J:List Addr):MO->Addr->Prop
 | .lst g,a => ∃ e,H a=some (.lst e)/\Il K H J g e
 | .dict b,a => ∃ d:List (Key×V),H a=some (.dK d)/\Paired (λ(p:D×D) (q:Key×V)=>(eY p.1=some q.1/\At K H J p.1 (kV q.1))/\At K H J p.2 q.2) b d
 | .exc c,a => ∃ C,PySem.W.nsIn K mainGlobals c=some (some (.ref C))/\H a=some (XQ a C)
 | .Ir b,a => ∃ d:List (PyData×Addr×V),H a=some (.dN d)/\Paired (NS K H J) b d
 | .ins c fs,a => ∃ C h f,PySem.W.nsIn K mainGlobals c=some (some (.ref C))/\H a=some (.ins C h f)/\Paired (TN K H J) fs f
structure IQ (K:H_) (J:List Addr) (S:Ig) (H:Hp):Prop where
 len:J.length=S.length
 nd:J.Nodup
 at_:∀ (l:Nat) (a:Addr) (o:MO),J[l]?=some a->S[l]?=some o->P5 K H J o a
section
variable {K:H_}{H H':Hp}{J J':List Addr}{S:Ig}
theorem P5.Mw {o:MO}{a:Addr}(h:P5 K H J o a):H a≠none:=by
 cases o with
 |dict b=>obtain⟨_,e,_⟩:=h;rw[e];simp
 |lst d=>obtain⟨_,e,_⟩:=h;rw[e];simp
 |exc c=>obtain⟨_,_,e⟩:=h;rw[e];simp
 |Ir b=>obtain⟨_,e,_⟩:=h;rw[e];simp
 |ins c fs=>obtain⟨_,_,_,_,e,_⟩:=h;rw[e];simp
theorem IQ.tracked (s:IQ K J S H){a:Addr}(h:a∈J):H a≠none:=by
 obtain⟨l,e⟩:=getElem?_of_mem h;have b:l<S.length:=by rw[← s.len];exact(List.getElem?_eq_some_iff.mp e).1
 exact(s.at_ l a _ e (List.getElem?_eq_getElem b)).Mw
theorem P5.ex {o:MO}{a:Addr}(e:Ex J H J' H')(k:H' a=H a)(h:P5 K H J o a):P5 K H' J' o a:=by
 cases o with
 |dict b=>obtain⟨d,q,r⟩:=h;exact⟨d,k.trans q,Paired.Mo r λp q z=>⟨⟨z.1.1,z.1.2.ex e⟩,z.2.ex e⟩⟩
 |lst j=>obtain⟨i,q,r⟩:=h;exact⟨i,k.trans q,r.ex e⟩
 |exc c=>obtain⟨C,q,r⟩:=h;exact⟨C,q,k.trans r⟩
 |Ir b=>obtain⟨d,q,r⟩:=h;exact⟨d,k.trans q,Paired.Mo r λp q z=>⟨⟨z.1.1,z.1.2.ex e⟩,z.2.ex e⟩⟩
 |ins c fs=>obtain⟨C,g,f,n,q,r⟩:=h;exact⟨C,g,f,n,k.trans q,Paired.Mo r λp q z=>⟨z.1,z.2.ex e⟩⟩
theorem IQ.same (s:IQ K J S H)(e:Iz H H'):IQ K J S H':=⟨s.len,s.nd,λl a o d c=>by
 have q:=s.at_ l a o d c;refine q.ex (Ex.same e) ?_;obtain⟨u,b⟩:=Option.ne_none_iff_exists'.mp q.Mw
 rw[b];exact e a u b⟩
end
theorem aQ {H:Hp}{p:Addr}(h:H p=none)(o:HO):Iz H (upd H p o):=λb u q=>by rw[aF (aO q h)];exact q
abbrev Ih:=List (Option D)
abbrev Out (α:Type):=Option (Except Str α×Ig)
abbrev H9(α:Type):=Ih->Ig->Out α
abbrev Ie:=List D->Ig->Out D
abbrev WT:=Str->List Addr->Ig->Hp->Prop
noncomputable def ah {α b:Type}(m:Out α) (k : α->Ig->Out b):Out b:=
 match m with
 |none=>none
 |some (.error c,S)=>some (.error c,S)
 |some (.ok a,S)=>k a S
noncomputable def Ip {α:Type}(a : α) (S:Ig):Out α:=some (.ok a,S)
@[simp] theorem cn {α b:Type}(a : α)(S:Ig)(k : α->Ig->Out b):ah (Ip a S) k=k a S:=rfl
@[simp] theorem kA {α b:Type}(a : α)(S:Ig)(k : α->Ig->Out b):ah (some (.ok a,S)) k=k a S:=rfl
@[simp] theorem Fo {α a:Type}(c:Str)(S:Ig)(k : α->Ig->Out a):ah (some (.error c,S)) k=some (.error c,S):=rfl
@[simp] theorem Fe {α a:Type}(k : α->Ig->Out a):ah none k=none:=rfl
noncomputable def aP {α:Type}(a:Option α) (S:Ig):Out α:=a.map λa=>(.ok a,S)
@[simp] theorem bV {α:Type}(a : α)(S:Ig):aP (some a) S=Ip a S:=rfl
@[simp] theorem Fm {α:Type}(S:Ig):aP (none:Option α) S=none:=rfl
structure Cf (X:Cx) (J:List Addr) (ρ:Ih) (S:Ig) (σ:St) (H:Hp):Prop where
 len : ρ.length = σ.length
 env:∀ (i:Nat) (d:D),ρ[i]?=some (some d)->∃ v,σ[i]?=some (some v)/\At X.K H J d v
 IW:IQ X.K J S H
theorem Cf.re {X:Cx}{J a:List Addr}{ρ:Ih}{S b:Ig}{f:St}{H H':Hp}(c:Cf X J ρ S f H)(e:Ex J H a H')(s:IQ X.K a b H'):Cf X a ρ b f H':=
 ⟨c.len,λi d h=>let ⟨v,j,g⟩:=c.env i d h;⟨v,j,g.ex e⟩,s⟩
def Gr {α g:Type}(X:Cx)(W:WT)(R:List Addr->Hp->α->g->Prop)(J:List Addr)(H:Hp)(r:Except Str α)(f:Ig)(Q : g->Hp->Prop):Prop:=
 match r with
 | .ok a => ∀ e d b,Ex J H e d->IQ X.K e f d->R e d a b->Q b d
 | .error c => ∀ e d,Ex J H e d->IQ X.K e f d->W c e f d
def tG {α b:Type}(X:Cx)(W:WT)(R:List Addr->Hp->α->b->Prop)(ds:List D)(vs:List V)(g:H9 α):St->Hp->(b->Hp->Prop)->Prop:=λd H Q =>
 ∃ J c S r a,Cf X J c S d H/\Il X.K H J ds vs/\g c S=some (r,a)/\Gr X W R J H r a Q
abbrev RD (X:Cx):List Addr->Hp->D->V->Prop:=λJ H d v=>At X.K H J d v
abbrev XR (X:Cx):List Addr->Hp->List D->List V->Prop:=λJ H d v=>Il X.K H J d v
abbrev RB:List Addr->Hp->Bool->Bool->Prop:=λ_ _ a b=>a=b
def tE (X:Cx)(W:WT)(g:H9 D):TE:=tG X W (RD X) [] [] g
def tA (X:Cx)(W:WT)(g:H9 (List D)):TA:=tG X W (XR X) [] [] g
def tT (X:Cx)(W:WT)(g:H9 Bool):TT:=tG X W RB [] [] g
def SE (X:Cx)(W:WT)(e:Expr)(g:H9 D):Prop:=PE X e (tE X W g)
def SA (X:Cx)(W:WT)(es:List Expr)(g:H9 (List D)):Prop:=PA X es (tA X W g)
def Lc (X:Cx)(W:WT)(e:Expr)(g:H9 Bool):Prop:=PT X e (tT X W g)
def SW (X:Cx)(W:WT)(e:Expr)(g:H9 Bool):Prop:=PW X e (tT X W g)
theorem PE.imp {X:Cx}{e:Expr}{t t':TE}(h:PE X e t)(i:∀ a H Q,t' a H Q->t a H Q):PE X e t':=λb s a H Q I z=>h b s a H Q I (i a H Q z)
theorem PT.imp {X:Cx}{e:Expr}{t t':TT}(h:PT X e t)(i:∀ a H Q,t' a H Q->t a H Q):PT X e t':=λb s a H Q I z=>h b s a H Q I (i a H Q z)
theorem PW.imp {X:Cx}{e:Expr}{t t':TT}(h:PW X e t)(i:∀ a H Q,t' a H Q->t a H Q):PW X e t':=λc b s a H Q I z=>h c b s a H Q I (i a H Q z)
theorem PA.imp {X:Cx}{e:List Expr}{t t':TA}(h:PA X e t)(i:∀ a H Q,t' a H Q->t a H Q):PA X e t':=λpos b s a H Q I z=>h pos b s a H Q I (i a H Q z)
section
variable {X:Cx}{W:WT}{α β γ:Type}{R:List Addr->Hp->γ->β->Prop}
theorem tG.Iw {p:H9 D}{k:D->H9 γ}{ds:List D}{vs:List V}{j:St}{H:Hp}{Q : β->Hp->Prop}
  (h:tG X W R ds vs (λρ S=>ah (p ρ S) λd f=>k d ρ f) j H Q):tE X W p j H λv s => ∃ d,tG X W R (d::ds) (v::vs) (k d) j s Q:=by
 obtain⟨J,ρ,S,r,u,c,a,e,z⟩:=h;cases q:p ρ S with
 |none=>simp[q] at e
 |some o =>
  obtain⟨t,f⟩:=o;simp only[q] at e;cases t with
  |error x =>
   cases e;exact⟨J,ρ,S,.error x,_,c,.nil,q,z⟩
  |ok d =>
   refine⟨J,ρ,S,.ok d,f,c,.nil,q,λy s v x A m=>⟨d,y,ρ,f,r,u,c.re x A,.cons m (a.ex x),e,?_⟩⟩;cases r with
   |ok g=>exact λn i b x2 l w=>z n i b (x.trans x2) l w
   |error g=>exact λn i x2 l=>z n i (x.trans x2) l
theorem tG.Kt {p:H9 (List D)}{k:List D->H9 γ}{ds:List D}{vs:List V}{j:St}{H:Hp}{Q : β->Hp->Prop}
  (h:tG X W R ds vs (λρ S=>ah (p ρ S) λd f=>k d ρ f) j H Q):tA X W p j H λus s => ∃ es,es.length=us.length/\tG X W R (es++ds) (us++vs) (k es) j s Q:=by
 obtain⟨J,ρ,S,r,u,c,a,e,z⟩:=h;cases q:p ρ S with
 |none=>simp[q] at e
 |some o =>
  obtain⟨t,f⟩:=o;simp only[q] at e;cases t with
  |error x =>
   cases e;exact⟨J,ρ,S,.error x,_,c,.nil,q,z⟩
  |ok d =>
   refine⟨J,ρ,S,.ok d,f,c,.nil,q,λy s v x A m=>⟨d,Il.length m,y,ρ,f,r,u,c.re x A,Il.append m (a.ex x),e,?_⟩⟩;cases r with
   |ok g=>exact λn i b x2 l w=>z n i b (x.trans x2) l w
   |error g=>exact λn i x2 l=>z n i (x.trans x2) l
theorem tG.Ma {p:H9 Bool}{k:Bool->H9 γ}{ds:List D}{vs:List V}{j:St}{H:Hp}{Q : β->Hp->Prop}
  (h:tG X W R ds vs (λρ S=>ah (p ρ S) λd f=>k d ρ f) j H Q):tT X W p j H λb s=>tG X W R ds vs (k b) j s Q:=by
 obtain⟨J,ρ,S,r,u,c,a,e,z⟩:=h;cases q:p ρ S with
 |none=>simp[q] at e
 |some o =>
  obtain⟨t,f⟩:=o;simp only[q] at e;cases t with
  |error x =>
   cases e;exact⟨J,ρ,S,.error x,_,c,.nil,q,z⟩
  |ok d =>
   refine⟨J,ρ,S,.ok d,f,c,.nil,q,λy s v x A m=>?_⟩;cases m;refine⟨y,ρ,f,r,u,c.re x A,a.ex x,e,?_⟩;cases r with
   |ok g=>exact λn i b x2 l w=>z n i b (x.trans x2) l w
   |error g=>exact λn i x2 l=>z n i (x.trans x2) l
end
section
variable {X:Cx}{pins:Ib}{σ:St}{H:Hp}{s:Shared}{J:List Addr}
mutual
theorem At.reads (I:Inv X pins σ H s):∀ {d:D}{v:V}{u:Value}{p:PyData},At X.K H J d v->RelV v u->toPy d=some p->p.canLay0=true/\∃ as,Reads s.heap u p as
 | .Jm,_,_,_,h,r,e=>by
  have h:=At.Kl.mp h;subst h;simp[toPy] at e;subst e;cases r;exact⟨rfl,[],.none⟩
 | .bl b,_,_,_,h,r,e=>by
  have h:=At.IK.mp h;subst h;simp[toPy] at e;subst e;cases r;exact⟨rfl,[],.bool b⟩
 | .int i,_,_,_,h,r,e=>by
  have h:=At.Ij.mp h;subst h;simp[toPy] at e;subst e;obtain⟨t,rfl⟩:=r;exact⟨rfl,[],.int i t⟩
 | .str x,_,_,_,h,r,e=>by
  obtain⟨ev,A⟩:=At.Iy.mp h;subst ev;simp[toPy] at e;subst e;obtain⟨t,rfl⟩:=r;exact⟨by rw[PyData.canLay0];exact A.2,[],.str x t⟩
 | .tup B,_,_,_,h,r,e=>by
  obtain⟨a,w,rfl,q,z⟩:=At.IC.mp h;rw[toPy] at e;obtain⟨y,k,g⟩:=map_eq_some_iff.mp e;subst g;cases r;obtain⟨its,f,⟨o,j,l,n,hd⟩,_⟩:=I.tuple q.sq;obtain⟨c,as,m⟩:=Il.readsAll I z f k;exact⟨by rw[PyData.canLay0];exact c,_,.tuple j l hd (by simpa using m)⟩
 | .lst B,_,_,_,h,r,e=>by
  obtain⟨a,w,rfl,q,z⟩:=At.ID.mp h;rw[toPy] at e;obtain⟨y,k,g⟩:=map_eq_some_iff.mp e;subst g;cases r;obtain⟨its,f,⟨o,n,j,l,_,hd⟩,_⟩:=I.list q.sq;obtain⟨c,as,m⟩:=Il.readsAll I z f k;exact⟨by rw[PyData.canLay0];exact c,_,.list j l hd (by simpa using m)⟩
 | .set _,_,_,_,_,_,e=>by simp[toPy] at e
 | .loc _,_,_,_,_,_,e=>by simp[toPy] at e
 | .fn _ _,_,_,_,_,_,e=>by simp[toPy] at e
theorem Il.readsAll (I:Inv X pins σ H s):∀ {ds:List D}{vs:List V}{us:List Value}{a:List PyData},Il X.K H J ds vs->Vals vs us->bW ds=some a->PyData.canLayAll0 a=true/\∃ as,ReadsAll s.heap us a as
 |[],_,_,_,h,r,e=>by
  have h:=Il.Io.mp h;subst h;simp[bW] at e;subst e;cases r;exact⟨rfl,[],.nil⟩
 |d::ds,_,_,_,h,r,e=>by
  obtain⟨v,vs,rfl,p,q⟩:=Il.Ik.mp h;rw[bW] at e;obtain⟨t,i,b⟩:=bind_eq_some_iff.mp e;obtain⟨o,n,k⟩:=map_eq_some_iff.mp b;subst k;cases r with
  |cons c g =>
   obtain⟨j,as,m⟩:=At.reads I p c i;obtain⟨f,bs,l⟩:=Il.readsAll I q g n;exact⟨by rw[PyData.canLayAll0,j,f];rfl,_,.cons m l⟩
end
end
section
variable {K:H_}
def UI (K:H_)(g:D->Option D):V->Hp->VK->Prop:=λx H Q => ∃ J c d,(∀ a∈J,H a≠none)/\At K H J c x/\g c=some d/\∀ b v,Iz H b->At K b J d v->Q v b
def QH (K:H_)(g:D->D->Option D):R2:=λx y H Q => ∃ J c e d,(∀ a∈J,H a≠none)/\At K H J c x/\At K H J e y/\g c e=some d/\∀ b v,Iz H b->At K b J d v->Q v b
def UJ (K:H_)(g:List D->Option D):List V->Hp->VK->Prop:=λe H Q => ∃ J c d,(∀ a∈J,H a≠none)/\Il K H J c e/\g c=some d/\∀ b v,Iz H b->At K b J d v->Q v b
end
theorem xW {H:Hp}{J:List Addr}(h:∀ a∈J,H a≠none){p:Addr}(n:H p=none):p∉J:=λm=>h p m n
theorem At.Kd {K:H_}{H:Hp}{J:List Addr}{p:Addr}{ds:List D}{xs:List V}(h:Il K H J ds xs)(n:H p=none)(b:∀ a∈J,H a≠none)(hz:xs.length<=sizeLine):At K (upd H p (.tup xs)) J (.tup ds) (.ref p):=
 At.IC.mpr ⟨p,xs,rfl,.inl ⟨.inl Iv,xW b n,hz⟩,h.ex (Ex.same (aQ n _))⟩
theorem At.JM {K:H_}{H:Hp}{J:List Addr}{p:Addr}{ds:List D}{xs:List V}(h:Il K H J ds xs)(n:H p=none)(b:∀ a∈J,H a≠none)(hz:xs.length<=sizeLine):At K (upd H p (.lst xs)) J (.lst ds) (.ref p):=
 At.ID.mpr ⟨p,xs,rfl,.inl ⟨.inl Iv,xW b n,hz⟩,h.ex (Ex.same (aQ n _))⟩
section
variable {X:Cx}{W:WT}
theorem tG.mono {α d:Type}{R:List Addr->Hp->α->d->Prop}{ds:List D}{vs:List V}{g:H9 α}{j:St}{H:Hp}{Q f : d->Hp->Prop}(h:tG X W R ds vs g j H Q)(i:∀ b H',Q b H'->f b H'):tG X W R ds vs g j H f:=by
 obtain⟨J,m,S,r,l,c,a,e,z⟩:=h;refine⟨J,m,S,r,l,c,a,e,?_⟩;cases r with
 |ok g=>exact λk H' b x s r=>i _ _ (z k H' b x s r)
 |error g=>exact z
theorem IQ.all {K:H_}{J:List Addr}{S:Ig}{H:Hp}(s:IQ K J S H):∀ a∈J,H a≠none:=λ_ m=>s.tracked m
theorem tG.UK {g:D->Option D}{b:D}{x:V}{j:St}{H:Hp}{Q:VK}(h:tG X W (RD X) [b] [x] (λ_ S=>aP (g b) S) j H Q):UI X.K g x H Q:=by
 obtain⟨J,l,S,r,k,c,a,e,z⟩:=h;obtain⟨i,_⟩:=a.Iq;cases q:g b with
 |none=>simp[q] at e
 |some d =>
  simp only[q,bV,Ip] at e;cases e;exact⟨J,b,d,c.IW.all,i,q,λf v s m=>z J f v (Ex.same s) (c.IW.same s) m⟩
theorem tG.UL {g:D->D->Option D}{f b:D}{x y:V}{l:St}{H:Hp}{Q:VK}(h:tG X W (RD X) [b,f] [y,x] (λ_ S=>aP (g f b) S) l H Q):QH X.K g x y H Q:=by
 obtain⟨J,o,S,r,n,c,a,e,z⟩:=h;obtain⟨j,a⟩:=a.Iq;obtain⟨k,_⟩:=a.Iq;cases q:g f b with
 |none=>simp[q] at e
 |some d =>
  simp only[q,bV,Ip] at e;cases e;exact⟨J,f,b,d,c.IW.all,k,j,q,λi v s m=>z J i v (Ex.same s) (c.IW.same s) m⟩
theorem tG.V4 {g:List D->Option D}{ds:List D}{xs:List V}{f:St}{H:Hp}{Q:VK}(h:tG X W (RD X) ds xs (λ_ S=>aP (g ds) S) f H Q):UJ X.K g xs H Q:=by
 obtain⟨J,j,S,r,i,c,a,e,z⟩:=h;cases q:g ds with
 |none=>simp[q] at e
 |some d =>
  simp only[q,bV,Ip] at e;cases e;exact⟨J,ds,d,c.IW.all,a,q,λb v s m=>z J b v (Ex.same s) (c.IW.same s) m⟩
abbrev Mb (X:Cx)(f:Value->Value->Sem Value)(g:D->D->Option D):Prop:=LC X f (QH X.K g)
abbrev V5 (X:Cx)(f:Value->Sem Value)(g:D->Option D):Prop:=TF X f (UI X.K g)
abbrev lw (X:Cx)(f:Value)(g:List D->Option D):Prop:=Jb X f (UJ X.K g)
noncomputable def af (i:Nat):H9 D:=λa S=>match a[i]? with
 |some (some d)=>Ip d S
 |_=>none
theorem aa {i:Nat}{x:Str}{pos:Pos}(j:X.N[i]?=some x:=by rfl)(a:Tv X.env.scope x:=by first |exact Or.inl rfl |exact Or.inr (Or.inl rfl) |exact Or.inr (Or.inr rfl))(hd:(x==("__debug__":Str))=false:=by decide)
  (g:(x==("__classdict__":Str))=false:=by decide):SE X W (.Name x pos) (af i):=(Ax j a hd g).imp λl H Q h=>by
 obtain⟨J,m,S,r,k,c,_,e,z⟩:=h;unfold af at e;split at e
 ·rename_i d q;obtain⟨v,f,b⟩:=c.env i d q;cases e;exact⟨v,f,z J H v Ex.refl c.IW b⟩
 cases e
def aB (d:D):H9 D:=λ_ S=>Ip d S
theorem jF {d:D}{v:V}{b:St}{H:Hp}{Q:VK}(h:tE X W (aB d) b H Q)(a:∀ J,At X.K H J d v):Q v H:=by obtain⟨J,g,S,r,f,c,_,e,z⟩:=h;cases e;exact z J H v Ex.refl c.IW (a J)
theorem ao {i j pos}:SE X W (.Constant (.int i) j pos) (aB (.int i)):=Qw.imp λa H Q h=>jF h λ_=>At.Ij.mpr rfl
theorem fG {b j pos}:SE X W (.Constant (.bool b) j pos) (aB (.bl b)):=RH.imp λa H Q h=>jF h λ_=>At.IK.mpr rfl
theorem D5 {j pos}:SE X W (.Constant .none j pos) (aB .Jm):=Qx.imp λa H Q h=>jF h λ_=>At.Kl.mpr rfl
theorem dO {x j pos}(a:P4 x:=by exact⟨by decide,by decide⟩):SE X W (.Constant (.str x) j pos) (aB (.str x)):=Qy.imp λb H Q h=>jF h λ_=>At.Iy.mpr ⟨rfl,a⟩
def Gs (K:H_)(u:Value)(d:D):Prop:=∃ v,RelV v u/\∀ H J,At K H J d v
theorem Cc {x:Str}{d:D}{u:Value}{pos:Pos}(b:X.mg x=some u)(c:Gs X.K u d)(e:Gl X x:=by rfl)(hd:(x==("__debug__":Str))=false:=by decide):SE X W (.Name x pos) (aB d):=by obtain⟨v,r,a⟩:=c;exact(Cw e b r hd).imp λf H Q h=>jF h λJ=>a H J
def aI (g:D->D->Option D)(e d:H9 D):H9 D:=λa S=>ah (e a S) λx b=>ah (d a b) λy c=>aP (g x y) c
def NT (g:D->Option D)(c:H9 D):H9 D:=λb S=>ah (c b S) λx a=>aP (g x) a
variable {a b c:Expr}{fa fb fc:H9 D}{pos:Pos}
theorem lj {g:D->D->Option D}{a:St}{H:Hp}{Q:VK}(h:tE X W (aI g fa fb) a H Q):Rj (QH X.K g) (tE X W fa) (tE X W fb) a H Q:=
 (tG.Iw h).mono λv j ⟨d,c⟩=>(tG.Iw c).mono λe f ⟨i,b⟩=>tG.UL b
theorem aD {c:Operator}{g:D->D->Option D}(d:Mb X (binaryOp c) g)(e:SE X W a fa)(f:SE X W b fb):SE X W (.BinOp a c b pos) (aI g fa fb):=
 (FM d e f).imp λi H Q h=>lj h
theorem Dy {b:UnaryOp}{g:D->Option D}(c:V5 X (unaryOp b) g)(e:SE X W a fa):SE X W (.UnaryOp b a pos) (NT g fa):=
 (FL c e).imp λj H Q h=>(tG.Iw h).mono λv i ⟨d,f⟩=>tG.UK f
theorem iZ {c:CmpOp}{g:D->D->Option D}(e:Mb X (compareOp c) g)(f:SE X W a fa)(i:SE X W b fb)(d:behindInMarks c b=false:=by first |exact wy _ (by decide) (by decide) |with_unfolding_all rfl):SE X W (.Compare a [c] [b] pos) (aI g fa fb):=
 (Cz e f i d).imp λj H Q h=>lj h
def Mc:D->Option Bool
 | .bl b=>some b
 |_=>none
def aT (f:H9 D):H9 Bool:=λb S=>ah (f b S) λx a=>aP (Mc x) a
theorem fz {f:H9 D}{a:St}{H:Hp}{Q:Bool->Hp->Prop}(h:tT X W (aT f) a H Q):JY (tE X W f) a H Q:=
 (tG.Iw h).mono λv g Zq=>by
  obtain⟨d,b⟩:=Zq
  obtain⟨J,j,S,r,i,c,m,e,z⟩:=b;obtain⟨m,_⟩:=m.Iq;cases d with
  |bl k =>
   cases e;exact⟨k,At.IK.mp m,z J g k Ex.refl c.IW rfl⟩
  |_=>simp[Mc] at e
theorem JY.mono {t t':TE}(i:∀ a H Q,t' a H Q->t a H Q){a:St}{H:Hp}{Q:Bool->Hp->Prop}(h:JY t' a H Q):JY t a H Q:=i _ _ _ h
theorem bx {c:CmpOp}{g:D->D->Option D}(e:Mb X (compareOp c) g)(f:SE X W a fa)(i:SE X W b fb)(d:behindInMarks c b=false:=by first |exact wy _ (by decide) (by decide) |with_unfolding_all rfl) :
  Lc X W (.Compare a [c] [b] pos) (aT (aI g fa fb)):=
 (xz e f i d).imp λj H Q h=>JY.mono (λ_ _ _=>lj) (fz h)
theorem dM (c:SE X W a fa)(b:∀ whole,isTrue a X.env whole=(do let v ← whole;standAt a.pos;holding [v] (truthy v)):=by intro _;rfl):Lc X W a (aT fa):=
 (Eg c b).imp λd H Q h=>fz h
def mw (g g':D->D->Option D)(fa fb fc:H9 D):H9 D:=λa S=>ah (fa a S) λx c=>ah (fb a c) λy e=>ah (aP ((g x y).bind Mc) e) λk b =>
 if k=true then ah (fc a b) λz d=>aP (g' y z) d else Ip (.bl false) b
theorem pf {g g':D->D->Option D}{p:St}{H:Hp}{Q:VK}(h:tE X W (mw g g' fa fb fc) p H Q):v4 (QH X.K g) (QH X.K g') (tE X W fa) (tE X W fb) (tE X W fc) p H Q:=
 (tG.Iw h).mono λx U ⟨A,M⟩=>(tG.Iw M).mono λy C Zq=>by
  obtain⟨a,L⟩:=Zq
  obtain⟨J,o,S,r,t,c,m,e,z⟩:=L;obtain⟨B,O⟩:=m.Iq;obtain⟨E,_⟩:=O.Iq;cases q:g A a with
  |none=>simp[q] at e
  |some d =>
   cases d with
   |bl k =>
    simp only[q,bind_some,Mc,bV,cn] at e;refine⟨J,A,a,_,c.IW.all,E,B,q,λi v l N=>?_⟩;cases At.IK.mp N;refine⟨k,rfl,?_⟩;have f:Ex J C J i:=Ex.same l
    have u:Gr X W (RD X) J i r t Q:=by
     cases r with
     |ok w=>exact λj n b x s r=>z j n b (f.trans x) s r
     |error w=>exact λj n x s=>z j n (f.trans x) s
    cases k with
    |true =>
     rw[if_pos rfl];rw[if_pos rfl] at e;have I:tG X W (RD X) [a] [y] (λo F=>ah (fc o F) λz G=>aP (g' a z) G) p i Q:=⟨J,o,S,r,t,c.re f (c.IW.same l),.cons (B.ex f) .nil,e,u⟩;exact(tG.Iw I).mono λw R ⟨T,P⟩=>tG.UL P
    |false =>
     rw[if_neg (by decide)];rw[if_neg (by decide)] at e;cases e;exact u J i _ Ex.refl (c.IW.same l) (At.IK.mpr rfl)
   |_=>simp[q,Mc] at e
theorem Ac {e d:CmpOp}{g g':D->D->Option D}(i:Mb X (compareOp e) g)(m:Mb X (compareOp d) g')(k:SE X W a fa)(l:SE X W b fb)(j:SE X W c fc)
  (f:lastMarks [e,d] [b,c]=false:=by with_unfolding_all rfl):SE X W (.Compare a [e,d] [b,c] pos) (mw g g' fa fb fc):=
 (AA i m k l j f).imp λn H Q h=>pf h
theorem zS {e d:CmpOp}{g g':D->D->Option D}(i:Mb X (compareOp e) g)(m:Mb X (compareOp d) g')(k:SE X W a fa)(l:SE X W b fb)(j:SE X W c fc)
  (f:lastMarks [e,d] [b,c]=false:=by with_unfolding_all rfl):Lc X W (.Compare a [e,d] [b,c] pos) (aT (mw g g' fa fb fc)):=
 (Ap i m k l j f).imp λn H Q h=>JY.mono (λ_ _ _=>pf) (fz h)
def ye (f g:H9 Bool):H9 Bool:=λb S=>ah (f b S) λk a=>if k=true then g b a else Ip false a
def pz (f g:H9 Bool):H9 Bool:=λb S=>ah (f b S) λk a=>if k=true then Ip true a else g b a
def hV (f:H9 Bool):H9 Bool:=λb S=>ah (f b S) λk a=>Ip (!k) a
variable {ga gb:H9 Bool}{rest:List Expr}
theorem nG {k:Bool}{a:St}{H:Hp}{Q:Bool->Hp->Prop}(h:tG X W RB [] [] (λ_ S=>Ip k S) a H Q):Q k H:=by obtain⟨J,d,S,r,b,c,_,e,z⟩:=h;cases e;exact z J H k Ex.refl c.IW rfl
theorem xp (b:Lc X W a ga):SW X W (.BoolOp .And [a] pos) ga:=Ci b
theorem lL (b:Lc X W a ga):SW X W (.BoolOp .Or [a] pos) ga:=Ec b
theorem zV (d:Lc X W a ga)(e:SW X W (.BoolOp .And (b::rest) pos) gb):SW X W (.BoolOp .And (a::b::rest) pos) (ye ga gb):=
 (Ed d e).imp λg H Q h=>(tG.Ma h).mono λk f c=>by
  cases k with
  |true=>rw[if_pos rfl];exact c
  |false=>rw[if_neg (by decide)];exact nG c
theorem kL (d:Lc X W a ga)(e:SW X W (.BoolOp .Or (b::rest) pos) gb):SW X W (.BoolOp .Or (a::b::rest) pos) (pz ga gb):=
 (FI d e).imp λg H Q h=>(tG.Ma h).mono λk f c=>by
  cases k with
  |true=>rw[if_pos rfl];exact nG c
  |false=>rw[if_neg (by decide)];exact c
theorem fZ {e:Expr}(h:SW X W e ga):Lc X W e ga:=PW.pt h
theorem fA (b:Lc X W a ga):Lc X W (.UnaryOp .Not a pos) (hV ga):=(Eh b).imp λd H Q h=>(tG.Ma h).mono λk e c=>nG c
def vz (f g:H9 D):H9 D:=λb S=>ah (f b S) λx c=>ah (aP (Mc x) c) λk a=>if k=true then g b a else Ip (.bl false) a
def XS (f g:H9 D):H9 D:=λb S=>ah (f b S) λx c=>ah (aP (Mc x) c) λk a=>if k=true then Ip (.bl true) a else g b a
def E_ (f:H9 D):H9 D:=λc S=>ah (f c S) λx a=>ah (aP (Mc x) a) λk b=>Ip (.bl (!k)) b
theorem V6 {f:H9 D}{k:Bool->H9 D}{a:St}{H:Hp}{Q:VK}(h:tE X W (λρ S=>ah (f ρ S) λx i=>ah (aP (Mc x) i) λb S2=>k b ρ S2) a H Q) :
  tE X W f a H λx g => ∃ c,x = .bl c/\tE X W (k c) a g Q:=(tG.Iw h).mono λv g Zq=>by
 obtain⟨d,l⟩:=Zq
 obtain⟨J,ρ,S,r,j,c,m,e,z⟩:=l;obtain⟨m,_⟩:=m.Iq;cases d with
 |bl b=>exact⟨b,At.IK.mp m,J,ρ,S,r,j,c,.nil,e,z⟩
 |_=>simp[Mc] at e
theorem AE {k:Bool}{a:St}{H:Hp}{Q:VK}(h:tE X W (λ_ S=>Ip (.bl k) S) a H Q):Q (.bl k) H:=jF (d:=.bl k) h λ_=>At.IK.mpr rfl
theorem wb {op}(b:SE X W a fa):SE X W (.BoolOp op [a] pos) fa:=Es b
theorem oa (d:SE X W a fa)(g:SE X W (.BoolOp .And (b::rest) pos) fb):SE X W (.BoolOp .And (a::b::rest) pos) (vz fa fb):=
 (Ey d g).imp λj H Q h=>(V6 (k:=λk f S=>if k=true then fb f S else Ip (.bl false) S) h).mono λv i ⟨k,e,c⟩=>⟨k,e,by
  cases k with
  |true=>rw[if_pos rfl];exact c
  |false=>rw[if_neg (by decide)];exact AE c⟩
theorem D4 (b:SE X W a fa):SE X W (.UnaryOp .Not a pos) (E_ fa):=
 (Et b).imp λd H Q h=>(V6 (k:=λk _ S=>Ip (.bl (!k)) S) h).mono λv f ⟨k,e,c⟩=>⟨k,e,AE c⟩
def vy (t:H9 Bool)(f g:H9 D):H9 D:=λa S=>ah (t a S) λk b=>if k=true then f a b else g a b
theorem lP (e:Lc X W c ga)(f:SE X W a fa)(g:SE X W b fb):SE X W (.IfExp c a b pos) (vy ga fa fb):=
 (Az e f g).imp λj H Q h=>(tG.Ma h).mono λk i d=>by
  cases k with
  |true=>rw[if_pos rfl];exact d
  |false=>rw[if_neg (by decide)];exact d
def aA:H9 (List D):=λ_ S=>Ip [] S
def ag (f:H9 D)(g:H9 (List D)):H9 (List D):=λa S=>ah (f a S) λd b=>ah (g a b) λe c=>Ip (d::e) c
variable {es:List Expr}{gs:H9 (List D)}
theorem ai:SA X W [] aA:=Js.imp λb H Q h=>by obtain⟨J,d,S,r,a,c,_,e,z⟩:=h;cases e;exact z J H _ Ex.refl c.IW .nil
theorem ae {e:Expr}(l:SE X W e fa)(j:SA X W es gs)(s:starEach (e::es) X.env=(false,eval e X.env)::starEach es X.env:=by rfl):SA X W (e::es) (ag fa gs):=
 (cK l j s).imp λB H Q h=>(tG.Iw h).mono λv A ⟨d,o⟩=>(tG.Kt o).mono λa g Zq=>by
  obtain⟨f,b,n⟩:=Zq
  obtain⟨J,w,S,r,u,c,m,e,z⟩:=n;cases e;refine z J g _ Ex.refl c.IW ?_
  have split:∀ {f:List D}{a:List V},f.length=a.length->Il X.K g J (f++[d]) (a++[v])->Il X.K g J f a/\At X.K g J d v:=by
   intro f
   induction f with
   |nil=>intro a b m;cases a with
    |nil=>exact⟨.nil,m.Iq.1⟩
    |cons _ _=>simp at b
   |cons x k p=>intro a b m;cases a with
    |nil=>simp at b
    |cons y t =>
     have q:=Il.Iq (show Il X.K g J (x::(k++[d])) (y::(t++[v])) from m);have i:=p (by simpa using b) q.2;exact⟨.cons q.1 i.1,i.2⟩
  have q:=split b m;exact .cons q.2 q.1
def Lp (ds:List D)(d:D):Option D:=if ds.length<=sizeLine then some d else none
def mj (g:H9 (List D)):H9 D:=λc S=>ah (g c S) λa b=>aP (Lp a (.tup a)) b
def ml (g:H9 (List D)):H9 D:=λc S=>ah (g c S) λa b=>aP (Lp a (.lst a)) b
theorem eE {k}(h:SA X W es gs):SE X W (.Tuple es k pos) (mj gs):=(Er h).imp λj H Q h=>(tG.Kt h).mono λf n Zq=>by
 obtain⟨i,b,d⟩:=Zq
 rw[append_nil,append_nil] at d;obtain⟨J,l,S,r,g,c,m,e,z⟩:=d;unfold Lp at e;split at e
 ·rename_i le;cases e;exact⟨by rw[← b];exact le,λp a=>z J _ _ (Ex.same (aQ a _)) (c.IW.same (aQ a _)) (At.Kd m a c.IW.all (by rw[← b];exact le))⟩
 cases e
theorem gw (h:SA X W es gs):SE X W (.List es pos) (ml gs):=(wu h).imp λj H Q h=>(tG.Kt h).mono λf l Zq=>by
 obtain⟨i,b,d⟩:=Zq
 rw[append_nil,append_nil] at d;obtain⟨J,k,S,r,g,c,m,e,z⟩:=d;unfold Lp at e;split at e
 ·rename_i le;cases e;exact⟨by rw[← b];exact le,λp a=>z J _ _ (Ex.same (aQ a _)) (c.IW.same (aQ a _)) (At.JM m a c.IW.all (by rw[← b];exact le))⟩
 cases e
def a9 (g:List D->Option D)(t:H9 (List D)):H9 D:=λb S=>ah (t b S) λc a=>aP (g c) a
theorem ph {g:List D->Option D}{a:St}{H:Hp}{Q:VK}(h:tE X W (a9 g gs) a H Q):Ux (UJ X.K g) (tA X W gs) a H Q:=
 (tG.Kt h).mono λf d Zq=>by
  obtain⟨c,e,b⟩:=Zq
  rw[append_nil,append_nil] at b;exact tG.V4 b
theorem a8 {g:List D->Option D}{id:String}{x:Str}{p:Pos}{e:Expr}(c:lw X (.builtin id) g)(b:X.mg x=none)(j:bootBuiltins x=some (.builtin id))(d:SA X W (e::es) gs)(l:Gl X x:=by rfl)
  (k:x≠"__name__":=by decide) (a:(x==("__debug__":Str))=false:=by decide) (f:starEach (e::es) X.env=(false,eval e X.env)::starEach es X.env:=by rfl) (i:(backTo pos (starEach es X.env)).any (·.1)=false:=by rfl) :
  SE X W (.Call (.Name x p) (e::es) [] pos) (a9 g gs):=by
 refine PE.imp (i9 c l b j d k a f i) λm H Q h=>ph h
theorem bw {g:List D->Option D}{T:String}{x:Str}{p:Pos}{e:Expr}(c:lw X (.type T) g)(b:X.mg x=none)(j:bootBuiltins x=some (.type T))(d:SA X W (e::es) gs)(l:Gl X x:=by rfl)
  (k:x≠"__name__":=by decide) (a:(x==("__debug__":Str))=false:=by decide) (f:starEach (e::es) X.env=(false,eval e X.env)::starEach es X.env:=by rfl) (i:(backTo pos (starEach es X.env)).any (·.1)=false:=by rfl) :
  SE X W (.Call (.Name x p) (e::es) [] pos) (a9 g gs):=by
 refine PE.imp (gT c l b j d k a f i) λm H Q h=>ph h
end
section
variable {X:Cx}
theorem rF {x y:Str}(a:PyData.strOk x=true)(b:PyData.strOk y=true):PyData.strOk (x++y)=true:=by
 unfold PyData.strOk at *
 rw[show (x++y).cps=x.cps++y.cps from rfl,Array.all_append,a,b];rfl
def bG:D->D->Option D
 | .int i,.int j=>some (.int (i+j))
 | .str x,.str y=>if x.length+y.length<=sizeLine then some (.str (x++y)) else none
 | .tup a,.tup b=>if a.length+b.length<=sizeLine then some (.tup (a++b)) else none
 | .lst a,.lst b=>if a.length+b.length<=sizeLine then some (.lst (a++b)) else none
 |_,_=>none
theorem Bw {prog:Program}{w:World}{A:Around}{E:Ia}{s:Shared}{t b:Addr}{vs e:List Value}{Q:Ia}(p:IsTup s.heap t vs.toArray)(q:IsTup s.heap b e.toArray)(j:vs=[])
  (m:Q (.ref b) s):wpAny (model prog w) A (binaryOp .Add (.ref t) (.ref b)) Q E s:=by
 obtain⟨⟨cls,o,data,k⟩,d,f,n,hd⟩:=id p;obtain⟨⟨r,i,data2,h⟩,c,g,l,a⟩:=id q;simp only at f hd g a;subst f hd g a
 exact concat_meets ⟨_,d,rfl⟩ ⟨_,c,rfl⟩ noFill_tuple_add seq_tuple_add PySem.F.slot_tuple_add PySem.F.entry_tuple_add (PySem.F.args_tuple_add_2 _ _)
   (tuple_addW0 t b vs.toArray e.toArray n l o i k h (by simp[j])) ⟨d,c,m⟩
theorem wT {prog:Program}{w:World}{A:Around}{E:Ia}{s:Shared}{t b:Addr}{vs c:Array Value}{Q:Ia}(o:PlainL s.heap t vs)(p:PlainL s.heap b c)
  (h:Q (.ref s.heap.objs.size) { s with heap:=s.heap.push { cls:=.type "list",data:=.seq (vs++c) } }) (hsz:vs.size+c.size<=sizeLine):wpAny (model prog w) A (binaryOp .Add (.ref t) (.ref b)) Q E s:=by
 obtain⟨⟨cls,m,data,k⟩,n,e,f,_,hd⟩:=id o;obtain⟨⟨q,j,data2,i⟩,l,d,g,_,a⟩:=id p;simp only at f hd g a;subst f hd g a
 exact concat_meets ⟨_,e,rfl⟩ ⟨_,d,rfl⟩ noFill_list_add seq_list_add PySem.F.slot_list_add PySem.F.entry_list_add (PySem.F.args_list_add_2 _ _)
   (list_addW t b vs c n l m j k i hsz) ⟨e,d,h⟩
theorem n5 (x y:Str):(x++y).length=x.length+y.length:=by show (x.cps++y.cps).size=_;rw[Array.size_append];rfl
theorem a_:Mb X (binaryOp .Add) bG:=by
 intro c s t H x y v u Q I m f h;obtain⟨J,T,S,d,F,l,k,e,q⟩:=h;unfold bG at e;split at e
 ·rename_i i j;cases e;cases At.Ij.mp l;cases At.Ij.mp k;exact ED c s t H _ _ v u Q I m f ⟨i,j,rfl,rfl,q H _ (Iz.refl H) (At.Ij.mpr rfl)⟩
 ·rename_i a b;split at e
  ·rename_i le;cases e;obtain⟨ex,O⟩:=At.Iy.mp l;obtain⟨P,N⟩:=At.Iy.mp k;subst ex P;exact ww c s t H _ _ v u Q I m f ⟨a,b,rfl,rfl,le,q H _ (Iz.refl H) (At.Iy.mpr ⟨rfl,by rw[n5];exact le,rF O.2 N.2⟩)⟩
  cases e
 ·rename_i E K;split at e
  ·rename_i le;cases e;obtain⟨a,g,rfl,t1,m1⟩:=At.IC.mp l;obtain⟨b,r,rfl,t2,m2⟩:=At.IC.mp k;by_cases G:g=[]
   ·subst G;cases m;cases f;obtain⟨its,o,D,_⟩:=I.tuple t1.sq;obtain⟨w,A,B,_⟩:=I.tuple t2.sq;have M:E=[]:=length_eq_zero_iff.mp m1.length;subst M;refine Bw D B (o.Io.mpr rfl) ⟨.ref b,H,I,rfl,q H _ (Iz.refl H) k⟩
   refine CF c s t H _ _ v u Q I m f ⟨a,b,g,r,rfl,rfl,t1.sq,t2.sq,G,by rw[← m1.length,← m2.length];exact le,λL=>?_,λL p n=>?_⟩
   ·subst L;have R:K=[]:=length_eq_zero_iff.mp m2.length;subst R;exact q H _ (Iz.refl H) (by rw[append_nil];exact l)
   exact q _ _ (aQ n _) (At.Kd (m1.append m2) n F (by rw[List.length_append,← m1.length,← m2.length];exact le))
  cases e
 ·rename_i E K;split at e
  ·rename_i le;cases e;obtain⟨a,g,rfl,t1,m1⟩:=At.ID.mp l;obtain⟨b,r,rfl,t2,m2⟩:=At.ID.mp k;cases m;cases f;obtain⟨its,o,D,_⟩:=I.list t1.sq;obtain⟨w,A,B,_⟩:=I.list t2.sq;have C:g.length+r.length<=sizeLine:=by rw[← m1.length,← m2.length];exact le
   have n:=I.fresh;refine wT D B ?_ (by rw[size_toArray,size_toArray,← o.length,← A.length];exact C);show EP X c t Q (.ref s.heap.objs.size) { s with heap:=s.heap.push { cls:=.type "list",data:=.seq (its.toArray++w.toArray) } };refine⟨.ref s.heap.objs.size,_,?_,rfl,q _ _ (aQ n (.lst (g++r))) (At.JM (m1.append m2) n F (by rw[List.length_append];exact C))⟩;have z:=I.UG (its:=its++w) (t':=s.toks) (o.append A) (by rw[List.length_append];exact C);simpa using z
  cases e
 cases e
def jJ:D->D->Option D
 | .int i,.int j=>some (.int (i-j))
 |_,_=>none
def mS (i j:Int):Bool:=(decide (-(2 ^ 64)<i)&&decide (i<2 ^ 64)) ||(decide (-(2 ^ 64)<j)&&decide (j<2 ^ 64))
theorem CQ {i j:Int}(h:mS i j=true):Pl i j:=by
 unfold mS at h;rw[or_eq_true,and_eq_true,and_eq_true] at h;rcases h with ⟨a,b⟩ |⟨a,b⟩
 ·exact .inl ⟨of_decide_eq_true a,of_decide_eq_true b⟩
 exact .inr ⟨of_decide_eq_true a,of_decide_eq_true b⟩
def g_:D->D->Option D
 | .int i,.int j=>if 0<j/\j<1073741824 then some (.int (i / j)) else none
 |_,_=>none
def cL:D->D->Option D
 | .int i,.int j=>if 0<j then some (.int (i % j)) else none
 |_,_=>none
def CK:D->Option D
 | .int i=>some (.int (-i))
 |_=>none
theorem h_:Mb X (binaryOp .Sub) jJ:=by
 intro a s k H x y v u Q I g b h;obtain⟨J,m,l,d,n,f,c,e,q⟩:=h;unfold jJ at e;split at e
 ·rename_i i j;cases e;cases At.Ij.mp f;cases At.Ij.mp c;exact EA a s k H _ _ v u Q I g b ⟨i,j,rfl,rfl,q H _ (Iz.refl H) (At.Ij.mpr rfl)⟩
 cases e
theorem kY:Mb X (binaryOp .FloorDiv) g_:=by
 intro a s l H x y v u Q I k b h;obtain⟨J,n,m,d,o,g,f,e,q⟩:=h;unfold g_ at e;split at e
 ·rename_i i j;split at e
  ·rename_i c;cases e;cases At.Ij.mp g;cases At.Ij.mp f;exact CD a s l H _ _ v u Q I k b ⟨i,j,rfl,rfl,c,q H _ (Iz.refl H) (At.Ij.mpr rfl)⟩
  cases e
 cases e
theorem cW:Mb X (binaryOp .Mod) cL:=by
 intro a s l H x y v u Q I k b h;obtain⟨J,n,m,d,o,g,f,e,q⟩:=h;unfold cL at e;split at e
 ·rename_i i j;split at e
  ·rename_i c;cases e;cases At.Ij.mp g;cases At.Ij.mp f;exact EC a s l H _ _ v u Q I k b ⟨i,j,rfl,rfl,c,q H _ (Iz.refl H) (At.Ij.mpr rfl)⟩
  cases e
 cases e
theorem zO:V5 X (unaryOp .USub) CK:=by
 intro a s c H x v Q I b h;obtain⟨J,j,d,g,f,e,q⟩:=h;unfold CK at e;split at e
 ·rename_i i;cases e;cases At.Ij.mp f;exact DN a s c H _ v Q I b ⟨i,rfl,q H _ (Iz.refl H) (At.Ij.mpr rfl)⟩
 cases e
def JH (x y:D):Option D:=match toPy x,toPy y with
 |some p,some q=>if min p.depth q.depth<=150 then some (.bl (PyData.eqv p q)) else none
 |_,_=>none
def K3 (x y:D):Option D:=match toPy x,toPy y with
 |some p,some q=>if min p.depth q.depth<=150 then some (.bl (!PyData.eqv p q)) else none
 |_,_=>none
theorem da (B:X.A.units+150<cLine):Mb X (compareOp .Eq) JH:=by
 intro a s C H x y v u Q I l b h;obtain⟨J,w,t,d,z,i,g,e,q⟩:=h;unfold JH at e;split at e
 ·rename_i p j n c;split at e
  ·rename_i le;cases e;obtain⟨o,r,f⟩:=i.reads I l n;obtain⟨k,bs,m⟩:=g.reads I b c;exact SeqAt.compareEq_reads f m o k (by omega) ⟨.bl (PyData.eqv p j),H,I,rfl,q H _ (Iz.refl H) (At.IK.mpr rfl)⟩
  cases e
 cases e
theorem qr (B:X.A.units+150<cLine):Mb X (compareOp .NotEq) K3:=by
 intro a s C H x y v u Q I l b h;obtain⟨J,w,t,d,z,i,g,e,q⟩:=h;unfold K3 at e;split at e
 ·rename_i p j n c;split at e
  ·rename_i le;cases e;obtain⟨o,r,f⟩:=i.reads I l n;obtain⟨k,bs,m⟩:=g.reads I b c;exact SeqAt.compareNe_reads f m o k (by omega) ⟨.bl (!PyData.eqv p j),H,I,rfl,q H _ (Iz.refl H) (At.IK.mpr rfl)⟩
  cases e
 cases e
def LF (x y:Str):Bool:=decide (x.cps.toList<y.cps.toList)
def Ob:D->D->Option D
 | .int i,.int j=>some (.bl (decide (i<j)))
 | .str x,.str y=>some (.bl (LF x y))
 |_,_=>none
def RZ:D->D->Option D
 | .int i,.int j=>some (.bl (decide (i<=j)))
 | .str x,.str y=>some (.bl (!LF y x))
 |_,_=>none
def R0:D->D->Option D
 | .int i,.int j=>some (.bl (decide (j<i)))
 | .str x,.str y=>some (.bl (LF y x))
 |_,_=>none
theorem ux:Mb X (compareOp .Lt) Ob:=by
 intro c s m H x y v u Q I l f h;obtain⟨J,o,n,d,p,k,g,e,q⟩:=h;unfold Ob at e;split at e
 ·rename_i i j;cases e;cases At.Ij.mp k;cases At.Ij.mp g;exact FN c s m H _ _ v u Q I l f ⟨i,j,rfl,rfl,q H _ (Iz.refl H) (At.IK.mpr rfl)⟩
 ·rename_i a b;cases e;cases (At.Iy.mp k).1;cases (At.Iy.mp g).1;exact yS c s m H _ _ v u Q I l f ⟨a,b,rfl,rfl,q H _ (Iz.refl H) (At.IK.mpr rfl)⟩
 cases e
theorem DD:Mb X (compareOp .LtE) RZ:=by
 intro c s m H x y v u Q I l f h;obtain⟨J,p,o,d,r,k,g,e,q⟩:=h;unfold RZ at e;split at e
 ·rename_i i j;cases e;cases At.Ij.mp k;cases At.Ij.mp g;exact FO c s m H _ _ v u Q I l f ⟨i,j,rfl,rfl,q H _ (Iz.refl H) (At.IK.mpr rfl)⟩
 ·rename_i a b;cases e;cases (At.Iy.mp k).1;cases (At.Iy.mp g).1;obtain⟨t,rfl⟩:=l;obtain⟨n,rfl⟩:=f;exact PySem.P.le_str ⟨.bl (!LF b a),H,I,rfl,q H _ (Iz.refl H) (At.IK.mpr rfl)⟩
 cases e
theorem FU:Mb X (compareOp .Gt) R0:=by
 intro c s m H x y v u Q I l f h;obtain⟨J,p,o,d,r,k,g,e,q⟩:=h;unfold R0 at e;split at e
 ·rename_i i j;cases e;cases At.Ij.mp k;cases At.Ij.mp g;exact FP c s m H _ _ v u Q I l f ⟨i,j,rfl,rfl,q H _ (Iz.refl H) (At.IK.mpr rfl)⟩
 ·rename_i a b;cases e;cases (At.Iy.mp k).1;cases (At.Iy.mp g).1;obtain⟨t,rfl⟩:=l;obtain⟨n,rfl⟩:=f;exact PySem.P.gt_str ⟨.bl (LF b a),H,I,rfl,q H _ (Iz.refl H) (At.IK.mpr rfl)⟩
 cases e
end
section
variable {X:Cx}{W:WT}
def rM:D->Option (List D)
 | .tup a=>some a
 | .lst a=>some a
 |_=>none
def oT (x y:D):Option Bool:=match toPy x,(rM y).bind bW with
 |some p,some a=>if p.depth<=150 then some (a.any λq=>PyData.eqv q p) else none
 |_,_=>none
def inD (x y:D):Option D:=(oT x y).map .bl
def lU (x y:D):Option D:=(oT x y).map λb => .bl (!b)
noncomputable def pN (h:Heap) (p:PyData) (u:Value):Bool:=by
 classical exact if H:∃ q a,Reads h u q a/\q.canLay0=true then PyData.eqv H.choose p else false
theorem xY {h:Heap}{p q:PyData}{u:Value}{as:List Addr}(r:Reads h u q as)(c:q.canLay0=true):pN h p u=PyData.eqv q p:=by unfold pN;have H:∃ q as,Reads h u q as/\q.canLay0=true:=⟨q,as,r,c⟩;rw[dif_pos H];obtain⟨b,a,d⟩:=H.choose_spec;rw[SeqAt.Reads.unique _ _ _ _ _ c r a]
theorem yh {h:Heap}{p:PyData}:∀ {us:List Value}{a:List PyData}{as:List Addr},ReadsAll h us a as->PyData.canLayAll0 a=true->us.any (pN h p)=a.any λq=>PyData.eqv q p
 |_,_,_,.nil,_=>rfl
 |_,_,_,.cons r t,c=>by
  rw[PyData.canLayAll0,and_eq_true] at c;rw[any_cons,any_cons,xY r c.1,yh t c.2]
theorem qw {h:Heap}:∀ {us:List Value}{a:List PyData}{as:List Addr},ReadsAll h us a as->PyData.canLayAll0 a=true->∀ u∈us,∃ q bs,Reads h u q bs/\q.canLay0=true
 |_,_,_,.nil,_,u,m=>by simp at m
 |_,_,_,.cons r t,c,u,m=>by
  rw[PyData.canLayAll0,and_eq_true] at c;rcases mem_cons.mp m with e |m
  ·subst e;exact⟨_,_,r,c.1⟩
  exact qw t c.2 u m
theorem xT {neg:Bool}{z:CmpOp}(hu:X.A.units+151<cLine)
  (R:∀ {s:Shared}{l:Addr}{items:Array Value}{x:Value}{Q:Ia}(e:Value->Bool),s.heap.IsList l items->(∀ y∈items,SeqAt.EqAt X.A.in1 s y x (e y))->Q (.bool (if neg then !items.any e else items.any e)) s->wpAny (model X.prog X.w) X.A (compareOp z x (.ref l)) Q X.xe s)
  (Y:∀ {s:Shared}{l:Addr}{items:Array Value}{x:Value}{Q:Ia}(e:Value->Bool),IsTup s.heap l items->(∀ y∈items,SeqAt.EqAt X.A.in1 s y x (e y))->Q (.bool (if neg then !items.any e else items.any e)) s->wpAny (model X.prog X.w) X.A (compareOp z x (.ref l)) Q X.xe s) :
  Mb X (compareOp z) (λx y=>(oT x y).map λb => .bl (if neg then !b else b)):=by
 intro n s W H x y v u Q I S C h;obtain⟨J,dx,N,d,hJ,P,F,e,q⟩:=h;obtain⟨b,i,M⟩:=map_eq_some_iff.mp e;subst M;unfold oT at i;split at i
 ·rename_i p o ep eq;split at i
  ·rename_i le;cases i;obtain⟨Z,es,D⟩:=bind_eq_some_iff.mp eq;obtain⟨T,g,O⟩:=P.reads I S ep;have fin:∀ {f:List Value}{g:List Addr},ReadsAll s.heap f o g->PyData.canLayAll0 o=true->EP X n W Q (.bool (if neg then !f.toArray.any (pN s.heap p) else f.toArray.any (pN s.heap p))) s:=λ{f g} B c=>by rw[show f.toArray.any (pN s.heap p)=f.any (pN s.heap p) by simp,yh B c];exact⟨.bl _,H,I,rfl,q H _ (Iz.refl H) (At.IK.mpr rfl)⟩
   have ev:∀ {f:List Value}{g:List Addr},ReadsAll s.heap f o g->PyData.canLayAll0 o=true->∀ y∈f.toArray,SeqAt.EqAt X.A.in1 s y v (pN s.heap p y):=λ{f g} B c y U=>by obtain⟨K,bs,G,E⟩:=qw B c y (by simpa using U);rw[xY G E];exact SeqAt.eqAt_reads K p X.A.in1 s y v bs _ G O E T (by show X.A.units+1+min K.depth p.depth<cLine;omega)
   cases N with
   |tup V =>
    cases es;obtain⟨a,L,rfl,t,m⟩:=At.IC.mp F;cases C;obtain⟨its,r,pl,_⟩:=I.tuple t.sq;obtain⟨j,bs,k⟩:=Il.readsAll I m r D;exact Y (pN s.heap p) pl (ev k j) (fin k j)
   |lst V =>
    cases es;obtain⟨a,L,rfl,t,m⟩:=At.ID.mp F;cases C;obtain⟨its,r,pl,_⟩:=I.list t.sq;obtain⟨j,bs,k⟩:=Il.readsAll I m r D;exact R (pN s.heap p) pl.isList (ev k j) (fin k j)
   |_=>simp[rM] at es
  cases i
 cases i
theorem DE (c:X.A.units+151<cLine):Mb X (compareOp .In) inD:=
 xT (neg:=false) c (λe b a q=>SeqAt.in_listAt e b a q) (λe b a q=>SeqAt.in_tupleAt e b a q)
theorem AF (c:X.A.units+151<cLine):Mb X (compareOp .NotIn) lU:=
 xT (neg:=true) c (λe b a q=>SeqAt.notIn_listAt e b a q) (λe b a q=>SeqAt.notIn_tupleAt e b a q)
theorem jp {x:Str}(h:PyData.strOk x=true){c:Nat}(m:c∈x.cps.toList):c<0x110000:=by unfold PyData.strOk at h;rw[Array.all_eq_true'] at h;exact of_decide_eq_true (h c (Array.mem_toList_iff.mp m))
theorem kM {l:List Nat}(h:∀ c∈l,c<0x110000):PyData.strOk ⟨l.toArray⟩=true:=by unfold PyData.strOk;rw[Array.all_eq_true'];intro c m;exact decide_eq_true (h c (by simpa using m))
def O5:D->D->Option D
 | .tup a,.int i=>Lo a i
 | .lst a,.int i=>Lo a i
 | .str x,.int i=>(Lo x.cps.toList i).map λc => .str ⟨#[c]⟩
 |_,_=>none
theorem w8 {K:H_}{H:Hp}{J:List Addr}{ds:List D}{vs:List V}{i:Int}{d:D}(m:Il K H J ds vs)(h:Lo ds i=some d):∃ v,Lo vs i=some v/\At K H J d v:=by unfold Lo at h ⊢;rw[← m.length];obtain⟨j,b,e⟩:=bind_eq_some_iff.mp h;obtain⟨v,c,a⟩:=m.get e;exact⟨v,by rw[b];exact c,a⟩
def V7 (X:Cx)(g:D->D->Option D):Prop:=RY X (QH X.K g)
theorem V8:V7 X O5:=by
 intro value slice b s B H x y v u Q I p g h r;obtain⟨J,L,K,d,M,o,n,e,q⟩:=h;unfold O5 at e;split at e
 ·rename_i D i;obtain⟨a,k,rfl,t,m⟩:=At.IC.mp o;cases At.Ij.mp n;obtain⟨w,f,A⟩:=w8 m e;exact ES value slice b s B H _ _ v u Q I p g ⟨a,k,i,w,rfl,rfl,t.sq,f,q H _ (Iz.refl H) A⟩ r
 ·rename_i D i;obtain⟨a,k,rfl,t,m⟩:=At.ID.mp o;cases At.Ij.mp n;obtain⟨w,f,A⟩:=w8 m e;exact xR value slice b s B H _ _ v u Q I p g ⟨a,k,i,w,rfl,rfl,t.sq,f,q H _ (Iz.refl H) A⟩ r
 ·rename_i z i;obtain⟨ex,C⟩:=At.Iy.mp o;subst ex;cases At.Ij.mp n;obtain⟨c,f,E⟩:=map_eq_some_iff.mp e;subst E;refine ET value slice b s B H _ _ v u Q I p g ⟨z,i,c,rfl,rfl,C.1,f,q H _ (Iz.refl H) (At.Iy.mpr ⟨rfl,by show 1<=sizeLine;decide,kM (l:=[c]) λG m=>?_⟩)⟩ r;obtain⟨j,_,F,_⟩:=nI f;rw[mem_singleton.mp m];exact jp C.2 (mem_of_getElem? F)
 cases e
variable {a b c:Expr}{fa fb fc:H9 D}{pos:Pos}
theorem Dz {g:D->D->Option D}(c:V7 X g)(d:SE X W a fa)(e:SE X W b fb)(f:nK b:=by exact λ_ _=>rfl):SE X W (.Subscript a b pos) (aI g fa fb):=
 (DC c d e f).imp λi H Q h=>lj h
def hU {α:Type}(xs:List α)(lo hi:Option Int):List α:=(xs.drop (HT.I0 xs.length 0 lo)).take (HT.I0 xs.length xs.length hi-HT.I0 xs.length 0 lo)
def sM (x:Str)(lo hi:Option Int):Str:=⟨(hU x.cps.toList lo hi).toArray⟩
def Mx (d:D)(lo hi:Option Int):Option D:=match d with
 | .tup a=>some (.tup (hU a lo hi))
 | .lst a=>some (.lst (hU a lo hi))
 | .str x=>some (.str (sM x lo hi))
 |_=>none
theorem Il.cut {K:H_}{H:Hp}{J:List Addr}{ds:List D}{vs:List V}(m:Il K H J ds vs)(lo hi:Option Int):Il K H J (hU ds lo hi) (vg vs lo hi):=by unfold hU vg;rw[← m.length];exact(m.drop _).take _
theorem o_ {α:Type}{xs:List α}{lo hi:Option Int}(h:HT.I0 xs.length 0 lo=0/\HT.I0 xs.length xs.length hi=xs.length):hU xs lo hi=xs:=by unfold hU;rw[h.1,h.2];simp
theorem mM (n:Nat)(lo hi:Option Int):Builtin.Str.strSliceIndices lo hi 1 n=sliceRange ((HT.I0 n 0 lo:Nat):Int) ((HT.I0 n n hi:Nat):Int) 1:=by unfold Builtin.Str.strSliceIndices;have h:=kP lo hi n;unfold sliceBounds at h;simp only[getD_none] at h;have b:=h.1;have a:=h.2.1;show sliceRange _ _ 1=_;rw[← b,← a];cases lo<;>cases hi<;>rfl
theorem v6 (x:Str)(lo hi:Option Int):(Builtin.Str.strSliceIndices lo hi 1 x.length).filterMap (x.cps[·]?)=hU x.cps.toList lo hi:=by
 have a:x.cps.toList.length=x.length:=by simp[Str.length]
 rw[mM,sliceRange_one,pick_run];unfold hU;rw[a]
theorem v8 (x:Str)(t:Tok)(lo hi:Option (Int×Tok)){Q:Ia}{s:Shared}(hsz:x.length<=sizeLine)(h:∀ t' k,Q (.str (sM x (lo.map (·.1)) (hi.map (·.1))) t') { s with toks:=k }):(sliceMade x t lo hi none).post Q s:=by
 unfold sliceMade;have ep:slicePicked x lo hi none=Builtin.Str.strSliceIndices (lo.map (·.1)) (hi.map (·.1)) 1 x.length:=rfl;have eq:((slicePicked x lo hi none).filterMap (x.cps[·]?))=hU x.cps.toList (lo.map (·.1)) (hi.map (·.1)):=by rw[ep];exact v6 x _ _
 have a:x.cps.toList.length=x.length:=by simp[Str.length]
 have len:(sM x (lo.map (·.1)) (hi.map (·.1))).length<=sizeLine:=by unfold sM hU;show (List.toArray _).size<=_;rw[size_toArray,length_take,length_drop,a];omega
 have same:(((none:Option (Int×Tok)).map (·.1)).getD 1==1&&(slicePicked x lo hi none).length==x.length)=true->x=sM x (lo.map (·.1)) (hi.map (·.1)):=λc=>by
  have b:(slicePicked x lo hi none).length=x.length:=by rw[and_eq_true] at c;exact eq_of_beq c.2
  rw[ep,mM,sliceRange_one,length_map,length_range] at b;have d:=HT.Nb x.length x.length (le_refl _) (hi.map (·.1));have e:=HT.Nb x.length 0 (zero_le _) (lo.map (·.1));have w:=o_ (xs:=x.cps.toList) (lo:=lo.map (·.1)) (hi:=hi.map (·.1)) (by rw[a];omega);unfold sM;rw[w]
 refine post_val_or_str ⟨?_,λt' k=>?_⟩
 ·split
  ·rename_i c;exact hsz
  rw[eq];exact len
 split
 ·rename_i c;have z:=h t' k;rw[← same c] at z;exact z
 rw[eq];exact h t' k
theorem part_of {v:Value}{o:Option Int}(p:IsPart v o):∃ q:Option (Int×Tok),v=partValue q/\o=q.map (·.1):=by
 cases p with
 |none=>exact⟨none,rfl,rfl⟩
 |int i t=>exact⟨some (i,t),rfl,rfl⟩
def XW (K:H_)(g:D->Option Int->Option Int->Option D):V->Option Int->Option Int->Hp->VK->Prop:=λx lo e H Q => ∃ J c d,(∀ a∈J,H a≠none)/\At K H J c x/\g c lo e=some d/\∀ b v,Iz H b->At K b J d v->Q v b
theorem jN {prog:Program}{w:World}{A:Around}{E:Ia}{s:Shared}{t b:Addr}{items:Array Value}{c d:Value}{lo hi:Option Int}{Q:Ia}(a:IsTup s.heap t items)(e:s.heap.IsSliceOf b c d .none)(pl:IsPart c lo)(i:IsPart d hi)
  (f:HT.I0 items.size 0 lo=0/\HT.I0 items.size items.size hi=items.size) (h:Q (.ref t) s):wpAny (model prog w) A (getItem (.ref t) (.ref b)) Q E s:=by
 obtain⟨os,k,j,l⟩:=id e;have g:s.TypeIs (.ref b) "slice":=⟨os,k,j⟩;unfold getItem
 try with_reducible refine wpAny_holding ?_
 first |refine wpAny_bind (wpAny_pure ?_) |skip
 refine wpAny_bind (wpAny_sequenceKey a.typeIs (by decide) ?_)
 refine wpAny_bind (wpAny_callSpecial?_slot (name:=Str.ofString "__getitem__") a.typeIs PyProof.Rows.slot_tuple_getitem
  (wpAny_call_entry PyProof.Rows.slot_tuple_getitem a.typeIs entry_tuple_getitem ?_ (args_tuple_getitem _ _)))
 show wpAny _ _ (Builtin.Tuple.tupleItemsOf (.ref t) >>= _) _ _ s;refine wpAny_bind (tupleItemsOf_ a ?_);refine wpAny_bind (wpAny_typeOf g ?_);rw[if_pos (by decide)];refine wpAny_bind (HT.JP e pl i ?_);show wpAny _ _ (if (((HT.I0 items.size 0 lo:Nat):Int)==0&&(1:Int)==1&&(HT.I0 items.size items.size hi-HT.I0 items.size 0 lo)==items.size)=true then _ else _) _ _ s;rw[if_pos (by rw[f.1,f.2];simp)];unfold Builtin.Tuple.tupleIsExact;refine wpAny_bind (wpAny_bind (wpAny_typeOf a.typeIs (wpAny_pure ?_)));rw[if_pos (by decide)];exact wpAny_bind (wpAny_rule (wpAny_pure ⟨_,rfl,wpAny_pure h⟩))
def V9 (X:Cx)(g:D->Option Int->Option Int->Option D):Prop:=TL X (XW X.K g)
theorem yz {x:Str}(h:PyData.strOk x=true)(lo hi:Option Int):PyData.strOk (sM x lo hi)=true:=kM λc m=>jp h (by
 unfold hU at m
 exact mem_of_mem_drop (mem_of_mem_take m))
theorem C0 (x:Str)(lo hi:Option Int):(sM x lo hi).length<=x.length:=by
 unfold sM hU;show (List.toArray _).size<=_;rw[size_toArray,length_take,length_drop];have a:x.cps.toList.length=x.length:=by simp[Str.length]
 omega
theorem QI:V9 X Mx:=by
 intro c s M H x v D E lo f C Q I o w pl j h;obtain⟨J,V,d,G,n,e,q⟩:=h;unfold Mx at e;split at e
 ·rename_i N;cases e;obtain⟨a,b,rfl,t,m⟩:=At.IC.mp n;have P:=m.length;by_cases A:HT.I0 b.length 0 lo=0/\HT.I0 b.length b.length f=b.length
  ·cases o;obtain⟨its,r,L,W⟩:=I.tuple t.sq;have g:its.toArray.size=b.length:=by rw[size_toArray];exact r.length.symm
   refine⟨"tuple",_,PyProof.Rows.slot_tuple_getitem.lookup,L.typeIs,?_⟩;refine jN L w pl j (by rw[g];exact A) ⟨.ref a,H,I,rfl,q H _ (Iz.refl H) ?_⟩;rw[o_ (by rw[P];exact A)];exact n
  exact DY c s M H _ v D E lo f C Q I o w pl j ⟨a,b,rfl,t.sq,A,λp i=>q _ _ (aQ i _) (At.Kd (m.cut lo f) i G (Nat.le_trans (gg b lo f) t.len))⟩
 ·rename_i N;cases e;obtain⟨a,b,rfl,t,m⟩:=At.ID.mp n;exact B8 c s M H _ v D E lo f C Q I o w pl j ⟨a,b,rfl,t.sq,λp i=>q _ _ (aQ i _) (At.JM (m.cut lo f) i G (Nat.le_trans (gg b lo f) t.len))⟩
 ·rename_i z;cases e;obtain⟨ex,y⟩:=At.Iy.mp n;subst ex;obtain⟨tk,rfl⟩:=o;obtain⟨B,S,R⟩:=part_of pl;obtain⟨K,U,T⟩:=part_of j;subst S R U T;refine⟨"str",_,F.slot_str_getitem.lookup,typeIs_str _ _ _,wpAny_getItem_str_slice (l:=B) (u:=K) (st:=none) w rfl (v8 z tk B K y.1 λO k=>?_)⟩;exact⟨.str _,H,I.tok _,⟨O,rfl⟩,q H _ (Iz.refl H) (At.Iy.mpr ⟨rfl,Nat.le_trans (C0 z _ _) y.1,yz y.2 _ _⟩)⟩
 cases e
def uY:D->Option (Option Int)
 | .int i=>some (some i)
 |_=>none
def li (f:Option (H9 D)):H9 (Option Int):=match f with
 |none=>λ_ S=>Ip none S
 |some f=>λb S=>ah (f b S) λd a=>aP (uY d) a
def SO (X:Cx)(W:WT)(e:Option Expr)(f:Option (H9 D)):Prop:=match e,f with
 |none,none=>True
 |some e,some f=>SE X W e f
 |_,_=>False
def Pq (g:D->Option Int->Option Int->Option D)(f:H9 D)(lo hi:Option (H9 D)):H9 D:=λa S=>ah (f a S) λx b=>ah (li lo a b) λl c=>ah (li hi a c) λu d=>aP (g x l u) d
def Wb (X:Cx)(W:WT)(f:Option (H9 D)):TO:=tG X W (λ_ _ a b=>a=b) [] [] (li f)
theorem tG.P6 {α s:Type}{R:List Addr->Hp->α->s->Prop}{f:Option (H9 D)}{k:Option Int->H9 α}{ds:List D}{vs:List V}{l:St}{H:Hp}{Q : s->Hp->Prop}
  (h:tG X W R ds vs (λρ S=>ah (li f ρ S) λd i=>k d ρ i) l H Q):Wb X W f l H λb t=>tG X W R ds vs (k b) l t Q:=by
 obtain⟨J,ρ,S,r,w,c,a,e,z⟩:=h;cases q:li f ρ S with
 |none=>simp[q] at e
 |some o =>
  obtain⟨u,i⟩:=o;simp only[q] at e;cases u with
  |error x =>
   cases e;exact⟨J,ρ,S,.error x,_,c,.nil,q,z⟩
  |ok d =>
   refine⟨J,ρ,S,.ok d,i,c,.nil,q,λA t v x B m=>?_⟩;cases m;refine⟨A,ρ,i,r,w,c.re x B,a.ex x,e,?_⟩;cases r with
   |ok g=>exact λp j b x2 n y=>z p j b (x.trans x2) n y
   |error g=>exact λp j x2 n=>z p j (x.trans x2) n
theorem DB {e:Option Expr}{f:Option (H9 D)}(h:SO X W e f):PO X e (Wb X W f):=by
 cases e with
 |none =>
  cases f with
  |none =>
   intro a s b H Q I z;refine Cp a s b H Q I ?_;obtain⟨J,k,S,r,g,c,_,e,z⟩:=z;cases e;exact z J H _ Ex.refl c.IW rfl
  |some _=>exact h.elim
 |some e =>
  cases f with
  |none=>exact h.elim
  |some f =>
   intro a s b H Q I z;refine Co h a s b H Q I ?_;refine(tG.Iw z).mono λv l ⟨d,j⟩=>?_;obtain⟨J,k,S,r,g,c,m,e,z⟩:=j;obtain⟨m,_⟩:=m.Iq;cases d with
   |int i =>
    cases e;exact⟨i,At.Ij.mp m,z J l _ Ex.refl c.IW rfl⟩
   |_=>simp[uY] at e
theorem n_ {g:D->Option Int->Option Int->Option D}{lo hi:Option Expr}{b f:Option (H9 D)}{B:Pos}(i:V9 X g)(j:SE X W a fa)(o:SO X W lo b)(y:SO X W hi f):SE X W (.Subscript a (.Slice lo hi none B) pos) (Pq g fa b f):=
 (Ay i j (DB o) (DB y)).imp λI H Q h=>(tG.Iw h).mono λv F ⟨d,x⟩=>(tG.P6 x).mono λl C w=>(tG.P6 w).mono λu K t=>by
  obtain⟨J,G,S,r,E,c,m,e,z⟩:=t;obtain⟨m,_⟩:=m.Iq;cases q:g d l u with
  |none=>simp[q] at e
  |some k =>
   simp only[q,bV,Ip] at e;cases e;exact⟨J,d,k,c.IW.all,m,q,λn p s A=>z J n p (Ex.same s) (c.IW.same s) A⟩
end
end L2
namespace L2
open PySem PySem.Spec PyProof.Rows PySem.W
section
variable {X:Cx}{W:WT}
theorem lV:fillsNumberSlot (.type "tuple") "mul"=pure false:=
 PySem.fillsNumberSlot_seq (id:="tuple.__mul__") (r:=some (.builtin "tuple.__rmul__")) F.slot_tuple_mul.lookup (by decide) F.slot_tuple_rmul.lookup (by decide)
theorem rS:seqRepeat? (.type "tuple")=pure (some (.builtin "tuple.__mul__")):=by unfold seqRepeat?;rw[PySem.seqSlot_of (T:="tuple") (name:="__mul__") (id:="tuple.__mul__") F.slot_tuple_mul.lookup (by decide),PySem.seqSlot_of (T:="tuple") (name:="__rmul__") (id:="tuple.__rmul__") F.slot_tuple_rmul.lookup (by decide)];rfl
theorem oP (a:Int)(t:Tok)(l:Addr)(items:Array Value)(n:Nat)(c:Option Addr)(b:Array (Option Value)) :
  Meets (Builtin.«int.__rmul__» ⟨[.int a t,.ref l],[]⟩) (λ_ R s=>s.heap.get? l=some { cls:=.type "tuple",dict:=c,data:=.seq items n,slots:=b }/\R (.ok (.ret Value.notImplemented)) s):=
 .of_wp λprog w A R s h=>by obtain⟨f,g,d,tk,os⟩:=s;obtain⟨e,h⟩:=h;wp_walk;exact⟨_,rfl,h⟩
theorem vY (l:Addr)(items:Array Value)(n:Nat)(q:Option Addr)(j:Array (Option Value))(k:Int)(t:Tok)(B : 2<=k)(z:k<2 ^ 30)(b:items.isEmpty=false)(hsz:items.size*k.toNat<=sizeLine) :
  Meets (Builtin.«tuple.__mul__» ⟨[.ref l,.int k t],[]⟩) (λ_ R s=>s.heap.get? l=some { cls:=.type "tuple",dict:=q,data:=.seq items n,slots:=j }/\R (.ok (.ret (Value.ref s.heap.objs.size))) { s with heap:=s.heap.push { cls:=Value.type "tuple",data:=Data.seq (List.foldl (λx1 x2=>x1++x2) #[] (replicate k.toNat items)) },toks:=s.toks }):=
 .of_wp λprog w A R s h=>by
  obtain⟨v,g,d,tk,os⟩:=s;obtain⟨a,h⟩:=h;have C:=AutoSeq1.idx_int
  wp_walk using AutoSeq1.wpAny_loadPart' a
  have y:(0:Int)<=k:=by omega
  have o:((k.toNat:Nat):Int)=k:=by omega
  have u:¬ ((decide (k < -2 ^ 63) ||decide (k≥2 ^ 63))=true):=by rw[decide_eq_false (by omega),decide_eq_false (by omega)];decide
  have p:¬ ((items.isEmpty ||k==1)=true):=by rw[b,Bool.false_or,beq_eq_false_iff_ne.mpr (by omega)];decide
  have x:¬ ((decide (k<=0) ||items.isEmpty)=true):=by rw[b,decide_eq_false (by omega)];decide
  have f:((items.size*k.toNat:Nat):Int)=(items.size:Int)*k:=by rw[Int.natCast_mul,o]
  have D:(sizeLine:Nat)=2 ^ 24:=rfl;have r:¬ ((items.size:Int)*k > (2 ^ 63-1) / 8):=by rw[← f];omega
  have i:Builtin.Tuple.tupleTooMany ((items.size:Int)*k)=false:=by unfold Builtin.Tuple.tupleTooMany;rw[← f];exact decide_eq_false (by omega)
  rw[if_neg u];refine wpAny_bind (tupleItemsOf_ (⟨_,a,rfl,n,rfl⟩:IsTup v l items) ?_);dsimp only;rw[if_neg p,if_neg x,if_neg r,if_neg (by rw[i];decide)]
  have c:sizeOk (.seq (List.foldl (λx1 x2=>x1++x2) #[] (replicate k.toNat items))):=by
   have e:List.foldl (λx1 x2=>x1++x2) #[] (replicate k.toNat items)=(replicate k.toNat items.toList).flatten.toArray:=by have:=foldl_rep items.toList k.toNat [];simpa using this
   show (List.foldl (λx1 x2=>x1++x2) #[] (replicate k.toNat items)).size<=sizeLine;rw[e,size_toArray,len_rep,length_toList,mul_comm];exact hsz
  first
   |exact wpAny_bind (m:=Builtin.Tuple.tupleExact _) (wpAny_newObj_type (wpAny_pure ⟨_,rfl,h⟩) c)
   |exact wpAny_bind (m:=Builtin.Tuple.tupleExact _) (wpAny_newObj_type (wpAny_bind (wpAny_pure (wpAny_pure ⟨_,rfl,h⟩))) c)
def de:D->D->Option D
 | .int i,.int j=>if mS i j then some (.int (i*j)) else none
 | .str x,.int n=>if -1000<=n/\n<1 then some (.str ⟨#[]⟩) else if 1<=n/\n<=1000/\x.length<=1000 then some (.str ⟨(replicate n.toNat x.cps.toList).flatten.toArray⟩) else none
 | .tup a,.int n=>if 2<=n/\n<=1000/\0<a.length/\a.length<=1000 then some (.tup (replicate n.toNat a).flatten) else none
 |_,_=>none
theorem AN (x:Str)(n:Int)(h : 1<=n):Txt.mul x n=⟨(replicate n.toNat x.cps.toList).flatten.toArray⟩:=by
 have f:∀ m:Nat,(replicate m x.cps).foldl (·++·) #[]=(replicate m x.cps.toList).flatten.toArray:=λm=>by
  have:∀ (m:Nat) (a:List Nat),(replicate m x.cps).foldl (·++·) a.toArray=(a++(replicate m x.cps.toList).flatten).toArray:=by
   intro m
   induction m with
   |zero=>intro a;simp
   |succ m b =>
    intro a;rw[replicate_succ,foldl_cons,replicate_succ,flatten_cons,← List.append_assoc];have e:a.toArray++x.cps=(a++x.cps.toList).toArray:=by simp
    rw[e];exact b _
  have:=this m [];simpa using this
 unfold Txt.mul;rw[if_neg (by omega)];split
 ·rename_i c;rw[or_eq_true] at c;rcases c with c |c
  ·have:n=1:=eq_of_beq c;subst this;show x=⟨([x.cps.toList].flatten).toArray⟩;simp
  have g:x.cps.size=0:=eq_of_beq c;have:x.cps.toList=[]:=by simpa using Array.size_eq_zero_iff.mp g
  have d:∀ m:Nat,(replicate m ([]:List Nat)).flatten=[]:=λm=>by induction m with
   |zero=>rfl
   |succ m b=>rw[replicate_succ,flatten_cons,b];rfl
  rw[this,d];cases x with
  |mk cps =>
   simp only at this;have:cps = #[]:=by simpa using this
   rw[this]
 rw[f]
theorem eL:Mb X (binaryOp .Mult) de:=by
 intro p s σ H x y v u Q I C w h;obtain⟨J,dx,dy,d,hJ,B,A,e,q⟩:=h;unfold de at e;split at e
 ·rename_i i j;split at e
  ·rename_i c;cases e;cases At.Ij.mp B;cases At.Ij.mp A;exact EB p s σ H _ _ v u Q I C w ⟨i,j,rfl,rfl,CQ c,q H _ (Iz.refl H) (At.Ij.mpr rfl)⟩
  cases e
 ·rename_i z n;obtain⟨ex,kx⟩:=At.Iy.mp B;subst ex;cases At.Ij.mp A;obtain⟨t,rfl⟩:=C;obtain⟨t',rfl⟩:=w;split at e
  ·rename_i c;cases e;refine SB.mul ⟨by rw[decide_eq_false (by omega),decide_eq_false (by omega)];rfl,λh=>absurd c.2 h,λh=>absurd c.2 h⟩ λt' k=>?_;rw[show Txt.mul z n=⟨#[]⟩ from if_pos c.2];exact⟨.str _,H,I.tok _,⟨t',rfl⟩,q H _ (Iz.refl H) (At.Iy.mpr ⟨rfl,by show 0<=sizeLine;decide,by decide⟩)⟩
  rename_i c;split at e
  ·rename_i c2;cases e;have R:(sizeLine:Nat)=2 ^ 24:=rfl
   have f:z.length*n.toNat<=1000000:=by
    have:n.toNat<=1000:=by omega
    exact Nat.le_trans (Nat.mul_le_mul c2.2.2 this) (by decide)
   have ok:MulOk z n:=by
    refine⟨by rw[decide_eq_false (by omega),decide_eq_false (by omega)];rfl,λ_ _ hh=>?_,λ_ _=>?_⟩
    ·have L:(2 ^ 63-1) / n≥(2 ^ 63-1) / 1000:=by
      apply Int.le_ediv_of_mul_le (by omega);have:((2 ^ 63-1) / 1000:Int)=9223372036854775:=by decide
      rw[this];omega
     have K:((2 ^ 63-1) / 1000:Int)=9223372036854775:=by decide
     omega
    unfold Builtin.Str.tooLong;exact decide_eq_false (by omega)
   refine SB.mul ok λt' k=>?_;rw[AN z n (by omega)];have Y:z.cps.toList.length=z.length:=by simp[Str.length]
   refine⟨.str _,H,I.tok _,⟨t',rfl⟩,q H _ (Iz.refl H) (At.Iy.mpr ⟨rfl,?_,kM λc m=>?_⟩)⟩
   ·show (List.toArray _).size<=_;rw[size_toArray,len_rep,Y,mul_comm];omega
   obtain⟨l,W,N⟩:=List.mem_flatten.mp m;rw[(List.mem_replicate.mp W).2] at N;exact jp kx.2 N
  cases e
 ·rename_i xs n;split at e
  ·rename_i c;cases e;obtain⟨a,E,rfl,tq,m⟩:=At.IC.mp B;cases At.Ij.mp A;cases C;obtain⟨t',rfl⟩:=w;obtain⟨its,r,⟨⟨cls,M,data,G⟩,g,P,O,hd⟩,hz⟩:=I.tuple tq.sq;simp only at P hd;subst P hd;have l1:=m.length;have S:=r.length;have R:(sizeLine:Nat)=2 ^ 24:=rfl
   have f:its.toArray.size*n.toNat<=sizeLine:=by
    rw[size_toArray];have L:its.length<=1000:=by omega
    have K:n.toNat<=1000:=by omega
    exact Nat.le_trans (Nat.mul_le_mul L K) (by rw[R];decide)
   have h0 : 0<its.length:=by omega
   have V:its.toArray.isEmpty=false:=by
    cases its with
    |nil=>simp at h0
    |cons _ _=>rfl
   refine wpAny_binaryOp_repeat_ref (T:="tuple") (U:="int") (by decide) ⟨_,g,rfl⟩ (λs'=>typeIs_int s' n t') lV F.fills_int_mul F.slot_int_rmul rS F.slot_int_index.lookup
    (call_meets F.slot_int_rmul (typeIs_int s n t') F.entry_int_rmul (F.args_int_rmul_2 _ _) (oP n t' a its.toArray O M G)
     ⟨g,rfl,⟨_,g,rfl⟩,call_meets F.slot_tuple_mul ⟨_,g,rfl⟩ F.entry_tuple_mul (F.args_tuple_mul_2 _ _) (vY a its.toArray O M G n t' c.1 (by omega) V f) ⟨g,?_⟩⟩)
   have Z:List.foldl (λx1 x2=>x1++x2) #[] (replicate n.toNat its.toArray)=(replicate n.toNat its).flatten.toArray:=by have:=foldl_rep its n.toNat [];rw[nil_append] at this;exact this
   rw[Z];have D:(replicate n.toNat E).flatten.length<=sizeLine:=by rw[len_rep,mul_comm,S];rw[size_toArray] at f;exact f
   exact⟨.ref s.heap.objs.size,_,I.laid (t':=s.toks) (o:=.tup (replicate n.toNat E).flatten) (λb ob q=>Heap.get?_push_of_some _ q) (le_refl _) ⟨D,_,r.rep n.toNat,LY.new _ _⟩,rfl,q _ _ (aQ I.fresh _) (At.Kd (m.rep n.toNat) I.fresh hJ D)⟩
  cases e
 cases e
end
section
variable {X:Cx}{W:WT}
def mX:D->Option String
 | .Jm=>some "NoneType"
 | .bl _=>some "bool"
 | .int _=>some "int"
 | .str _=>some "str"
 | .tup _=>some "tuple"
 | .lst _=>some "list"
 |_=>none
def nw (T k:String):Bool:=k==T ||(k=="bool"&&T=="int")
def iM (T:String)(d:D):Option D:=(mX d).map λk => .bl (nw T k)
def q9 (T:String):Prop:=∀ (K:Frag),kitOne K (.type "NoneType") (.type T)=some (nw T "NoneType")/\kitOne K (.type "bool") (.type T)=some (nw T "bool")/\kitOne K (.type "int") (.type T)=some (nw T "int") /\
 kitOne K (.type "str") (.type T)=some (nw T "str")/\kitOne K (.type "tuple") (.type T)=some (nw T "tuple")/\kitOne K (.type "list") (.type T)=some (nw T "list")
theorem C6:q9 "int":=λK=>⟨rfl,rfl,rfl,rfl,rfl,rfl⟩
theorem xO:q9 "str":=λK=>⟨rfl,rfl,rfl,rfl,rfl,rfl⟩
theorem A5:q9 "bool":=λK=>⟨rfl,rfl,rfl,rfl,rfl,rfl⟩
theorem kit_tuple:q9 "tuple":=λK=>⟨rfl,rfl,rfl,rfl,rfl,rfl⟩
theorem Bx {T:String}(C:q9 T):Jb X (.builtin "isinstance") (λxs H Q => ∃ x,xs=[x,.ty T]/\UI X.K (iM T) x H Q):=by
 intro j s P H xs R Q I r h;obtain⟨x,rfl,J,G,d,U,g,e,q⟩:=h;obtain⟨u,S,rfl,f,A⟩:=vals2 r;cases A;obtain⟨k,c,B⟩:=map_eq_some_iff.mp e;subst B;obtain⟨E,F,w,L,O,M⟩:=C X.K;have fin:∀ tk,EP X j P Q (.bool (nw T k)) { s with toks:=tk }:=λtk=>⟨.bl _,H,I.tok _,rfl,q H _ (Iz.refl H) (At.IK.mpr rfl)⟩;cases G with
 |Jm=>cases c;cases At.Kl.mp g;cases f;exact kia_one kitx_none I.L9 True.intro E (λz=>nomatch z) fin
 |bl b=>cases c;cases At.IK.mp g;cases f;exact kia_one kitx_bool I.L9 True.intro F (λz=>nomatch z) fin
 |int i=>cases c;cases At.Ij.mp g;obtain⟨t,rfl⟩:=f;exact kia_one kitx_int I.L9 True.intro w (λz=>nomatch z) fin
 |str y=>cases c;cases (At.Iy.mp g).1;obtain⟨t,rfl⟩:=f;exact kia_one kitx_str I.L9 True.intro L (λz=>nomatch z) fin
 |tup D =>
  cases c;obtain⟨a,N,rfl,l,_⟩:=At.IC.mp g;cases f;obtain⟨its,v,⟨o,p,m,_⟩,_⟩:=I.tuple l.sq;exact kia_one kitx_tuple I.L9 ⟨o,p,m⟩ O (λz=>nomatch z) fin
 |lst D =>
  cases c;obtain⟨a,N,rfl,l,_⟩:=At.ID.mp g;cases f;obtain⟨its,v,⟨o,n,p,m,_⟩,_⟩:=I.list l.sq;exact kia_one kitx_list I.L9 ⟨o,p,m⟩ M (λz=>nomatch z) fin
 |set _=>simp[mX] at c
 |loc _=>simp[mX] at c
 |fn _ _=>simp[mX] at c
variable {a b c e:Expr}{fa fb fc:H9 D}{pos:Pos}{es:List Expr}{gs:H9 (List D)}
theorem j4 {T:String}{x t:Str}{p a:Pos}(j:q9 T)(i:x="isinstance")(q:X.mg x=none)(f:X.mg t=none)(c:bootBuiltins t=some (.type T))(g:SE X W e fa)
  (m:Gl X x:=by rfl) (NU:Gl X t:=by rfl) (n:t≠"__name__":=by decide) (o:(t==("__debug__":Str))=false:=by decide)
  (b:starEach (e::[.Name t a]) X.env=(false,eval e X.env)::starEach [.Name t a] X.env:=by rfl) (k:(backTo pos (starEach [.Name t a] X.env)).any (·.1)=false:=by rfl) :
  SE X W (.Call (.Name x p) [e,.Name t a] [] pos) (NT (iM T) fa):=by
 subst i;refine PE.imp (i9 (Bx j) m q (by decide) (cK g (cK (CB (v:=.ty T) NU f c (show RelV (.ty T) (.type T) from rfl) n o) Js (by rfl)) b) (by decide) (by decide) b k) λs H Q h=>?_;exact(tG.Iw h).mono λv r ⟨d,l⟩=>⟨v,rfl,tG.UK l⟩
def b_:List D->Option D
 |[.tup xs]=>some (.int xs.length)
 |[.lst xs]=>some (.int xs.length)
 |[.str x]=>some (.int x.length)
 |_=>none
theorem cN:lw X (.builtin "len") b_:=by
 intro b s i H l f Q I r h;obtain⟨J,o,d,u,m,e,q⟩:=h;unfold b_ at e;split at e
 ·rename_i k;cases e;obtain⟨v,w,rfl,a,n⟩:=Il.Ik.mp m;cases Il.Io.mp n;obtain⟨p,c,rfl,t,g⟩:=At.IC.mp a;exact io b s i H _ f Q I r ⟨p,c,rfl,.inr t.sq,by rw[← g.length];exact q H _ (Iz.refl H) (At.Ij.mpr rfl)⟩
 ·rename_i k;cases e;obtain⟨v,w,rfl,a,n⟩:=Il.Ik.mp m;cases Il.Io.mp n;obtain⟨p,c,rfl,t,g⟩:=At.ID.mp a;exact io b s i H _ f Q I r ⟨p,c,rfl,.inl t.sq,by rw[← g.length];exact q H _ (Iz.refl H) (At.Ij.mpr rfl)⟩
 ·rename_i y;cases e;obtain⟨v,w,rfl,a,n⟩:=Il.Ik.mp m;cases Il.Io.mp n;obtain⟨ex,j⟩:=At.Iy.mp a;subst ex;exact sS b s i H _ f Q I r ⟨y,rfl,j.1,q H _ (Iz.refl H) (At.Ij.mpr rfl)⟩
 cases e
def intD:List D->Option D
 |[.int i]=>some (.int i)
 |[.bl k]=>some (.int (if k then 1 else 0))
 |_=>none
theorem E8:lw X (.type "int") intD:=by
 intro b s f H g c Q I r h;obtain⟨J,j,d,l,m,e,q⟩:=h;unfold intD at e;split at e
 ·rename_i i;cases e;obtain⟨v,w,rfl,a,n⟩:=Il.Ik.mp m;cases Il.Io.mp n;cases At.Ij.mp a;exact qT b s f H _ c Q I r (.inl ⟨i,rfl,q H _ (Iz.refl H) (At.Ij.mpr rfl)⟩)
 ·rename_i k;cases e;obtain⟨v,w,rfl,a,n⟩:=Il.Ik.mp m;cases Il.Io.mp n;cases At.IK.mp a;exact qT b s f H _ c Q I r (.inr ⟨k,rfl,q H _ (Iz.refl H) (At.Ij.mpr rfl)⟩)
 cases e
def gL:List D->Option D
 |[.tup xs]=>some (.tup xs)
 |[.lst xs]=>some (.tup xs)
 |_=>none
theorem eT:lw X (.type "tuple") gL:=by
 intro b s j H u g Q I r h;obtain⟨J,x,d,k,m,e,q⟩:=h;unfold gL at e;split at e
 ·rename_i o;cases e;obtain⟨v,w,rfl,a,n⟩:=Il.Ik.mp m;cases Il.Io.mp n;obtain⟨p,c,rfl,t,i⟩:=At.IC.mp a;exact jX b s j H _ g Q I r ⟨p,c,rfl,.inr ⟨t.sq,q H _ (Iz.refl H) a⟩⟩
 ·rename_i o;cases e;obtain⟨v,w,rfl,a,n⟩:=Il.Ik.mp m;cases Il.Io.mp n;obtain⟨p,c,rfl,t,i⟩:=At.ID.mp a;exact jX b s j H _ g Q I r ⟨p,c,rfl,.inl ⟨t.sq,λl f=>q _ _ (aQ f _) (At.Kd i f k t.len)⟩⟩
 cases e
def CZ:List D->Option D
 |[.tup xs]=>some (.lst xs)
 |[.lst xs]=>some (.lst xs)
 |_=>none
theorem E7:lw X (.type "list") CZ:=by
 intro b s k H u i Q I r h;obtain⟨J,x,d,j,m,e,q⟩:=h;unfold CZ at e;split at e
 ·rename_i o;cases e;obtain⟨v,w,rfl,a,n⟩:=Il.Ik.mp m;cases Il.Io.mp n;obtain⟨p,f,rfl,t,g⟩:=At.IC.mp a;exact lg b s k H _ i Q I r ⟨p,f,rfl,.inr t.sq,λl c=>q _ _ (aQ c _) (At.JM g c j t.len)⟩
 ·rename_i o;cases e;obtain⟨v,w,rfl,a,n⟩:=Il.Ik.mp m;cases Il.Io.mp n;obtain⟨p,f,rfl,t,g⟩:=At.ID.mp a;exact lg b s k H _ i Q I r ⟨p,f,rfl,.inl t.sq,λl c=>q _ _ (aQ c _) (At.JM g c j t.len)⟩
 cases e
end
inductive Fl where
 |next (ρ:Ih) |ret (d:D) |brk (ρ:Ih) |cont (ρ:Ih)
def K6 (X:Cx)(W:WT)(J:List Addr)(H:Hp)(r:Except Str Fl)(f:Ig)(E:Ends):Prop:=
 match r with
 | .ok (.next ρ') => ∀ e b a,Ex J H e a->Cf X e ρ' f b a->E.nx b a
 | .ok (.brk ρ') => ∀ e b a,Ex J H e a->Cf X e ρ' f b a->E.bk b a
 | .ok (.cont ρ') => ∀ e b a,Ex J H e a->Cf X e ρ' f b a->E.ct b a
 | .ok (.ret d) => ∀ e a v,Ex J H e a->IQ X.K e f a->At X.K a e d v->E.rt v a
 | .error c => ∀ e a,Ex J H e a->IQ X.K e f a->W c e f a
theorem K6.ex {X:Cx}{W:WT}{J l:List Addr}{H m:Hp}{r:Except Str Fl}{j:Ig}{E:Ends}(h:K6 X W J H r j E)(x:Ex J H l m):K6 X W l m r j E:=by
 cases r with
 |error c=>exact λe g i s=>h e g (x.trans i) s
 |ok f =>
  cases f with
  |next k=>exact λe b g i c=>h e b g (x.trans i) c
  |brk k=>exact λe b g i c=>h e b g (x.trans i) c
  |cont k=>exact λe b g i c=>h e b g (x.trans i) c
  |ret d=>exact λe g v i s a=>h e g v (x.trans i) s a
def tS (X:Cx)(W:WT)(f:H9 Fl):TS:=λE c H => ∃ J b S r a,Cf X J b S c H/\f b S=some (r,a)/\K6 X W J H r a E
def SS (X:Cx)(W:WT)(st:Stmt)(f:H9 Fl):Prop:=PS X st (tS X W f)
def Nc (X:Cx)(W:WT)(st:List Stmt)(f:H9 Fl):Prop:=MI X st (tS X W f)
theorem PS.imp {X:Cx}{st:Stmt}{t t':TS}(h:PS X st t)(i:∀ E b H,t' E b H->t E b H):PS X st t':=λa s b H D I z=>h a s b H D I (i _ _ _ z)
theorem MI.imp {X:Cx}{st:List Stmt}{t t':TS}(h:MI X st t)(i:∀ E b H,t' E b H->t E b H):MI X st t':=λa s b H D I z=>h a s b H D I (i _ _ _ z)
section
variable {X:Cx}{W:WT}{st:Stmt}{rest:List Stmt}{f g:H9 Fl}{e c:Expr}{fe:H9 D}{gt:H9 Bool}{pos:Pos}
def b7:H9 Fl:=λa S=>Ip (.next a) S
def aM (f g:H9 Fl):H9 Fl:=λd S=>ah (f d S) λc b=>match c with
 | .next a=>g a b
 |o=>Ip o b
def aX (f:H9 D):H9 Fl:=λb S=>ah (f b S) λd a=>Ip (.ret d) a
def Ld (t:H9 Bool)(f g:H9 Fl):H9 Fl:=λa S=>ah (t a S) λk b=>if k=true then f a b else g a b
def bq (i:Nat)(f:H9 D):H9 Fl:=λa S=>ah (f a S) λd b=>Ip (.next (a.set i (some d))) b
def qW (f:H9 D):H9 Fl:=λa S=>ah (f a S) λ_ b=>Ip (.next a) b
theorem bg:Nc X W [] b7:=Ph.imp λE a H h=>by obtain⟨J,d,S,r,b,c,e,z⟩:=h;cases e;exact z J a H Ex.refl c
theorem z8 {E:Ends}{j:St}{H:Hp}(h:tS X W (aM f g) E j H):Fr (tS X W f) (tS X W g) E j H:=by
 obtain⟨J,b,S,r,n,c,e,z⟩:=h;unfold aM at e;cases q:f b S with
 |none=>simp[q] at e
 |some o =>
  obtain⟨l,i⟩:=o;simp only[q] at e;cases l with
  |error x =>
   cases e;exact⟨J,b,S,.error x,_,c,q,z⟩
  |ok p =>
   cases p with
   |next a=>exact⟨J,b,S,.ok (.next a),i,c,q,λk s t x m=>⟨k,a,i,r,n,m,e,z.ex x⟩⟩
   |ret d=>cases e;exact⟨J,b,S,.ok (.ret d),_,c,q,z⟩
   |brk a=>cases e;exact⟨J,b,S,.ok (.brk a),_,c,q,z⟩
   |cont a=>cases e;exact⟨J,b,S,.ok (.cont a),_,c,q,z⟩
theorem aj (b:SS X W st f)(a:Nc X W rest g):Nc X W (st::rest) (aM f g):=(Aq b a).imp λE c H h=>z8 h
theorem az (a:SS X W st f):Nc X W [st] f:=Cj a
theorem tS.Iw {k:D->H9 Fl}{E:Ends}{g:St}{H:Hp}(h:tS X W (λρ S=>ah (fe ρ S) λd a=>k d ρ a) E g H) :
  tE X W fe g H λv f => ∃ J ρ S d r b,Cf X J ρ S g f/\At X.K f J d v/\k d ρ S=some (r,b)/\K6 X W J f r b E:=by
 obtain⟨J,ρ,S,r,b,c,e,z⟩:=h;cases q:fe ρ S with
 |none=>simp[q] at e
 |some o =>
  obtain⟨i,a⟩:=o;simp only[q] at e;cases i with
  |error x =>
   cases e;exact⟨J,ρ,S,.error x,_,c,.nil,q,z⟩
  |ok d=>exact⟨J,ρ,S,.ok d,a,c,.nil,q,λj f v x l m=>⟨j,ρ,a,d,r,b,c.re x l,m,e,z.ex x⟩⟩
theorem tS.Ma {k:Bool->H9 Fl}{E:Ends}{f:St}{H:Hp}(h:tS X W (λρ S=>ah (gt ρ S) λd a=>k d ρ a) E f H) :
  tT X W gt f H λb g=>tS X W (k b) E f g:=by
 obtain⟨J,ρ,S,r,j,c,e,z⟩:=h;cases q:gt ρ S with
 |none=>simp[q] at e
 |some o =>
  obtain⟨i,a⟩:=o;simp only[q] at e;cases i with
  |error x =>
   cases e;exact⟨J,ρ,S,.error x,_,c,.nil,q,z⟩
  |ok d =>
   refine⟨J,ρ,S,.ok d,a,c,.nil,q,λl g v x n m=>?_⟩;cases m;exact⟨l,ρ,a,r,j,c.re x n,e,z.ex x⟩
theorem aG (a:SE X W e fe):SS X W (.Return (some e) pos) (aX fe):=(Ej a).imp λE g H h=>(tS.Iw h).mono λv b Zq=>by obtain⟨J,i,S,d,r,f,c,m,q,z⟩:=Zq;cases q;exact z J b v Ex.refl c.IW m
theorem cD {a b:List Stmt}(e:Lc X W c gt)(i:Nc X W a f)(j:Nc X W b g):SS X W (.If c a b pos) (Ld gt f g):=(FJ e i j).imp λE m H h=>(tS.Ma h).mono λk l d=>by
 cases k with
 |true=>rw[if_pos rfl];exact d
 |false=>rw[if_neg (by decide)];exact d
theorem nE (a:SE X W e fe)(g:swapsWith e none pos.line X.env=pure false:=by rfl):SS X W (.Expr e pos) (qW fe):=(Cm a g).imp λE b H h=>(tS.Iw h).mono λv f Zq=>by obtain⟨J,j,S,d,r,i,c,m,q,z⟩:=Zq;cases q;exact z J b f Ex.refl c
theorem Cf.set {J:List Addr}{ρ:Ih}{S:Ig}{e:St}{H:Hp}{i:Nat}{d:D}{v:V}(c:Cf X J ρ S e H)(m:At X.K H J d v):Cf X J (ρ.set i (some d)) S (e.set i (some v)) H:=by
 refine⟨by rw[length_set,length_set];exact c.len,λj f h=>?_,c.IW⟩;by_cases a:j=i
 ·subst a;have b:j < ρ.length:=by have:=(List.getElem?_eq_some_iff.mp h).1;rwa [length_set] at this
  rw[getElem?_set_self b] at h;cases h;exact⟨v,getElem?_set_self (by rw[← c.len];exact b),m⟩
 rw[getElem?_set_ne (Ne.symm a)] at h;obtain⟨g,l,k⟩:=c.env j f h;exact⟨g,by rw[getElem?_set_ne (Ne.symm a)];exact l,k⟩
theorem aN {i:Nat}{x:Str}{a:Pos}(l:X.N.Nodup)(f:SE X W e fe)(hi:X.N[i]?=some x:=by rfl)(b:Loc X.env.scope x:=by first |exact Or.inl rfl |exact Or.inr rfl)(k:swapsWith e (some (.Name x a)) pos.line X.env=pure false:=by rfl)
  (g:X.fn x=true∨X.env.scope.names.lookup x=some .local:=by first |exact .inl rfl |exact .inr rfl |assumption) :
  SS X W (.Assign [.Name x a] e pos) (bq i fe):=(Ei l hi b f k g).imp λE o H h=>(tS.Iw h).mono λv j Zq=>by
 obtain⟨J,p,S,d,r,n,c,m,q,z⟩:=Zq
 cases q;exact z J _ j Ex.refl (c.set m)
def XZ (X:Cx)(u:D->Ih->Option Ih):TG:=λv e H Q => ∃ J c S d b,Cf X J c S e H/\At X.K H J d v/\u d c=some b/\∀ a,Cf X J b S a H->Q a H
def GF (X:Cx)(u:List D->Ih->Option Ih):Pj:=λe f H Q => ∃ J c S d b,Cf X J c S f H/\Il X.K H J d e/\u d c=some b/\∀ a,Cf X J b S a H->Q a H
def SG (X:Cx)(a:Expr)(u:D->Ih->Option Ih):Prop:=PG X a (XZ X u)
def TR (X:Cx)(a:List Expr)(u:List D->Ih->Option Ih):Prop:=PX X a (GF X u)
theorem PG.imp {c:Expr}{t t':TG}(h:PG X c t)(i:∀ v b H Q,t' v b H Q->t v b H Q):PG X c t':=λa s b H v u Q I r z=>h a s b H v u Q I r (i _ _ _ _ z)
theorem PX.imp {c:List Expr}{t t':Pj}(h:PX X c t)(i:∀ v b H Q,t' v b H Q->t v b H Q):PX X c t':=λa s b H v u Q I r z=>h a s b H v u Q I r (i _ _ _ _ z)
noncomputable def aE (i:Nat):D->Ih->Option Ih:=λd a=>some (a.set i (some d))
def gK:List D->Ih->Option Ih:=λa b=>match a with
 |[]=>some b
 |_=>none
def bf (u:D->Ih->Option Ih)(us:List D->Ih->Option Ih):List D->Ih->Option Ih:=λb c=>match b with
 |d::r=>(u d c).bind λa=>us r a
 |[]=>none
def kJ (n:Nat)(us:List D->Ih->Option Ih):D->Ih->Option Ih:=λd b=>match d with
 | .tup a=>if a.length=n then us a b else none
 |_=>none
theorem aL {i:Nat}{x:Str}(g:X.N.Nodup)(hi:X.N[i]?=some x:=by rfl)(a:Loc X.env.scope x:=by first |exact Or.inl rfl |exact Or.inr rfl)(b:X.fn x=true∨X.env.scope.names.lookup x=some .local:=by first |exact .inl rfl |exact .inr rfl |assumption) :
  SG X (.Name x pos) (aE i):=(Cs g hi a b).imp λv j H Q h=>by
 obtain⟨J,k,S,d,f,c,m,e,z⟩:=h;cases e;exact z _ (c.set m)
theorem jt:TR X [] gK:=Pk.imp λv d H Q h=>by
 obtain⟨J,f,S,b,a,c,m,e,z⟩:=h;cases b with
 |nil=>cases e;exact⟨Il.Io.mp m,z _ c⟩
 |cons _ _=>cases e
theorem bM {e:Expr}{es:List Expr}{u:D->Ih->Option Ih}{us:List D->Ih->Option Ih}(l:SG X e u)(i:TR X es us)
  (s:(assignEach (e::es) X.env).map (·.2)=assign e X.env::(assignEach es X.env).map (·.2):=by rfl):TR X (e::es) (bf u us):=(Av l i s).imp λv t H Q h=>by
 obtain⟨J,p,S,j,b,c,m,e,z⟩:=h;cases j with
 |nil=>cases e
 |cons d r =>
  obtain⟨k,n,rfl,m1,m2⟩:=Il.Ik.mp m;obtain⟨a,o,g⟩:=bind_eq_some_iff.mp e;exact⟨k,n,rfl,J,p,S,d,a,c,m1,o,λf q=>⟨J,a,S,r,b,q,m2,g,z⟩⟩
theorem lN {es:List Expr}{k:Nat}{us:List D->Ih->Option Ih}{n:Nat}(q:X.calm=true)(h:TR X es us)
  (o:(assignEach es X.env).length=n:=by rfl) (j:(assignEach es X.env).findIdx? (·.1)=none:=by rfl):SG X (.Tuple es k pos) (kJ n us):=(Ep q h o j).imp λv r H Q h=>by
 obtain⟨J,p,S,d,b,c,m,e,z⟩:=h;cases d with
 |tup l =>
  obtain⟨a,g,rfl,t,f⟩:=At.IC.mp m;simp only[kJ] at e;split at e
  ·rename_i i;exact⟨a,g,rfl,t.sq,by rw[← f.length];exact i,J,p,S,l,b,c,f,e,z⟩
  cases e
 |_=>cases e
def s9 (u:D->Ih->Option Ih)(f:H9 D):H9 Fl:=λa S=>ah (f a S) λd b=>aP ((u d a).map Fl.next) b
theorem DX {a e:Expr}{u:D->Ih->Option Ih}(j:SE X W e fe)(l:SG X a u)(o:swapsWithSole [a] e pos.line X.env=pure false:=by rfl)(p:swappedStores [a] e X.env=pure none:=by rfl)
  (k:(assignEach [a] X.env).map (·.2)=[assign a X.env]:=by rfl):SS X W (.Assign [a] e pos) (s9 u fe):=(Em j l o p k).imp λE t H h=>(tS.Iw h).mono λv n Zq=>by
 obtain⟨J,g,S,d,r,s,c,m,q,z⟩:=Zq
 cases hu:u d g with
 |none=>simp[hu] at q
 |some f =>
  simp only[hu,map_some,bV,Ip] at q;cases q;exact⟨J,g,_,d,f,c,m,hu,λb i=>z J b n Ex.refl i⟩
structure Walk (X:Cx) (Jt:It) (ds:List D) (J0:List Addr) (H0:Hp):Prop where
 len:ds.length<=sizeLine
 go:∀ J H i,Ex J0 H0 J H->i<ds.length->Jt.go i H
 Nw:∀ J H (i:Nat) x H',Ex J0 H0 J H->(∀ a∈J,H a≠none)->i<ds.length->Jt.Nw i H x H'->∃ d,ds[i]?=some d/\At X.K H' J d x/\Iz H H'
 stop:∀ J H i,Ex J0 H0 J H->ds.length<=i->Jt.stop i H
def iW (X:Cx)(W:WT)(g:H9 (List D)):TI:=λi H R => ∃ J f S r d,Cf X J f S i H/\g f S=some (r,d)/\match r with
 | .ok h => ∀ b a e,Ex J H b a->IQ X.K b d a->Walk X e h b a->R e a
 | .error c => ∀ b a,Ex J H b a->IQ X.K b d a->W c b d a
def SI (X:Cx)(W:WT)(b iter:Expr)(a:H9 (List D)):Prop:=PI X b iter (iW X W a)
theorem PI.imp {c iter:Expr}{t t':TI}(h:PI X c iter t)(i:∀ b H R,t' b H R->t b H R):PI X c iter t':=λa s b H R I z=>h a s b H R I (i _ _ _ z)
def gZ (u:D->Ih->Option Ih)(body:H9 Fl):List D->H9 Fl
 |[],ρ,S=>Ip (.next ρ) S
 |d::ds,ρ,S=>match u d ρ with
  |none=>none
  |some c=>ah (body c S) λe b=>match e with
   | .next a=>gZ u body ds a b
   | .cont a=>gZ u body ds a b
   | .brk a=>Ip (.next a) b
   | .ret d=>Ip (.ret d) b
def jQ (c:H9 (List D))(u:D->Ih->Option Ih)(body:H9 Fl):H9 Fl:=λa S=>ah (c a S) λd b=>gZ u body d a b
theorem gr {U iter:Expr}{body:List Stmt}{T:H9 (List D)}{u:D->Ih->Option Ih}(hp:PassesOwn (model X.prog X.w) X.A X.env X.xe)(hc:X.calm=true)(hi:SI X W U iter T)(hg:SG X U u)(hb:Nc X W body f)
  (hs:∀ x,foldedSetIterable iter X.env x=pure x:=by intro _;rfl):SS X W (.For U iter body [] pos) (jQ T u f):=(Ek hp hc hi hg hb hs).imp λE σ H h=>by
 obtain⟨J,M,S,r,v,c,e,z⟩:=h;unfold jQ at e;cases q:T M S with
 |none=>simp[q] at e
 |some o =>
  obtain⟨Q,S1⟩:=o;simp only[q] at e;cases Q with
  |error x =>
   cases e;exact⟨J,M,S,.error x,_,c,q,z⟩
  |ok p =>
   refine⟨J,M,S,.ok p,S1,c,q,λR H0 Jt x0 s0 w=>?_⟩
   refine⟨λi m σ H=>m=p.length-i/\∃ a k l,Ex R H0 a H/\Cf X a k l σ H/\∃ r v,gZ u f (p.drop i) k l=some (r,v)/\K6 X W a H r v E,
    ⟨_,rfl,R,M,S1,Ex.refl,c.re x0 s0,r,v,by simpa using e,z.ex x0⟩,λi m O F hw=>?_⟩
   obtain⟨hm,a,k,l,ex,N,r1,Wc,j,Z⟩:=hw;by_cases hi:i<p.length
   ·refine .inr ⟨w.go a F i ex hi,λn s => ∃ Y B Sy,Ex R H0 Y s/\Cf X Y B Sy n s/\∃ r v,gZ u f (p.drop (i+1)) B Sy=some (r,v)/\K6 X W Y s r v E,
     λn s hn=>⟨p.length-(i+1),by omega,rfl,hn⟩,λx s y=>?_⟩
    obtain⟨d,ed,ad,sm⟩:=w.Nw a F i x s ex N.IW.all hi y;have hd:p.drop i=d::p.drop (i+1):=by rw[List.drop_eq_getElem_cons hi];rw[List.getElem?_eq_getElem hi] at ed;cases ed;rfl
    rw[hd] at j;unfold gZ at j;cases hu:u d k with
    |none=>simp[hu] at j
    |some b =>
     simp only[hu] at j;have K:Ex a F a s:=Ex.same sm;refine⟨a,k,l,d,b,N.re K (N.IW.same sm),ad,hu,λσ2 C=>?_⟩;cases t:f b l with
     |none=>simp[t] at j
     |some o =>
      obtain⟨Q,L⟩:=o;simp only[t] at j;have G:=Z.ex K;cases Q with
      |error x =>
       cases j;exact⟨a,b,l,.error x,_,C,t,G⟩
      |ok fl =>
       cases fl with
       |next g=>exact⟨a,b,l,.ok (.next g),L,C,t,λV n H2 I P=>⟨V,g,L,ex.trans (K.trans I),P,r1,Wc,j,G.ex I⟩⟩
       |cont g=>exact⟨a,b,l,.ok (.cont g),L,C,t,λV n H2 I P=>⟨V,g,L,ex.trans (K.trans I),P,r1,Wc,j,G.ex I⟩⟩
       |brk g=>cases j;exact⟨a,b,l,.ok (.brk g),_,C,t,G⟩
       |ret dd=>cases j;exact⟨a,b,l,.ok (.ret dd),_,C,t,G⟩
   refine .inl ⟨w.stop a F i ex (by omega),?_⟩;rw[drop_eq_nil_of_le (by omega)] at j;unfold gZ at j;cases j;exact Z a O F Ex.refl N
def wX (f:H9 D):H9 (List D):=λc S=>ah (f c S) λd a=>aP (match d with | .tup b=>some b |_=>none) a
def BE (f:H9 D):H9 (List D):=λc S=>ah (f c S) λd a=>aP (match d with | .lst b=>some b |_=>none) a
theorem Walk.list {a:Addr}{ds:List D}{xs:List V}{J:List Addr}{H:Hp}(t:LQ X.K H J a xs)(m:Il X.K H J ds xs):Walk X (Uq X.K a) ds J H where
 len:=by rw[m.length];exact t.len
 go:=λc f i x b=>by
  have m1:=m.ex x;obtain⟨v,g,_⟩:=m1.get (List.getElem?_eq_getElem b);exact⟨xs,v,(t.ex x).sq,g⟩
 Nw:=λc f i v j x k b y=>by
  obtain⟨rfl,h⟩:=y;obtain⟨d,e,a⟩:=(m.ex x).get' (h xs (t.ex x).sq);exact⟨d,e,a,Iz.refl _⟩
 stop:=λc f i x b=>⟨xs,(t.ex x).sq,by rw[← m.length];exact b⟩
theorem Walk.tup {a:Addr}{ds:List D}{xs:List V}{J:List Addr}{H:Hp}(t:TQ X.K H J a xs)(m:Il X.K H J ds xs):Walk X (Ur X.K a) ds J H where
 len:=by rw[m.length];exact t.len
 go:=λc f i x b=>by
  have m1:=m.ex x;obtain⟨v,g,_⟩:=m1.get (List.getElem?_eq_getElem b);exact⟨xs,v,(t.ex x).sq,g⟩
 Nw:=λc f i v j x k b y=>by
  obtain⟨rfl,h⟩:=y;obtain⟨d,e,a⟩:=(m.ex x).get' (h xs (t.ex x).sq);exact⟨d,e,a,Iz.refl _⟩
 stop:=λc f i x b=>⟨xs,(t.ex x).sq,by rw[← m.length];exact b⟩
theorem sh {k:D->Option (List D)}{l:St}{H:Hp}{R:It->Hp->Prop}(h:iW X W (λρ S=>ah (fe ρ S) λd f=>aP (k d) f) l H R) :
  tE X W fe l H λv b => ∃ J S d ds,IQ X.K J S b/\At X.K b J d v/\k d=some ds/\∀ H' a,Iz b H'->Walk X a ds J H'->R a H':=by
 obtain⟨J,ρ,S,r,p,c,e,z⟩:=h;cases q:fe ρ S with
 |none=>simp[q] at e
 |some o =>
  obtain⟨n,f⟩:=o;simp only[q] at e;cases n with
  |error x =>
   cases e;exact⟨J,ρ,S,.error x,_,c,.nil,q,z⟩
  |ok d =>
   refine⟨J,ρ,S,.ok d,f,c,.nil,q,λi b v x j m=>?_⟩;cases hk:k d with
   |none=>simp[hk] at e
   |some ds =>
    simp only[hk,kA,bV,Ip] at e;cases e;exact⟨i,_,d,ds,j,m,hk,λH' a g w=>z i H' a (x.trans (Ex.same g)) (j.same g) w⟩
theorem D1 {g:Expr}(f:SE X W e fe):SI X W g e (wX fe):=(Eo f).imp λn H R h=>(sh h).mono λv j Zq=>by
 obtain⟨J,S,d,l,s,m,b,z⟩:=Zq
 cases d with
 |tup k =>
  cases b;obtain⟨a,c,rfl,t,i⟩:=At.IC.mp m;exact⟨a,rfl,⟨c,t.sq⟩,z j _ (Iz.refl _) (Walk.tup t i)⟩
 |_=>cases b
theorem D3 {g:Expr}(f:SE X W e fe):SI X W g e (BE fe):=(Cr f).imp λn H R h=>(sh h).mono λv j Zq=>by
 obtain⟨J,S,d,l,s,m,b,z⟩:=Zq
 cases d with
 |lst k =>
  cases b;obtain⟨a,c,rfl,t,i⟩:=At.ID.mp m;exact⟨a,rfl,⟨c,t.sq⟩,z j _ (Iz.refl _) (Walk.list t i)⟩
 |_=>cases b
def f_:List D->Option (List D)
 |[.int j]=>if -(2 ^ 62)<=j/\j<=16777216 then some ((List.range j.toNat).map λ(k:Nat)=>D.int k) else none
 |_=>none
def jg (k:List D->Option (List D))(t:H9 (List D)):H9 (List D):=λb S=>ah (t b S) λc a=>aP (k c) a
theorem Walk.range {J:List Addr}{H:Hp}(lo:Int)(n:Nat)(hz:n<=sizeLine):Walk X (TC lo n) ((List.range n).map λ(k:Nat)=>D.int (lo+k)) J H where
 len:=by rw[length_map,length_range];exact hz
 go:=λb c i x a=>by rw[length_map,length_range] at a;exact a
 Nw:=λb c i v e x d a y=>by
  obtain⟨rfl,rfl⟩:=y;rw[length_map,length_range] at a;exact⟨.int (lo+i),by rw[getElem?_map,List.getElem?_range a];rfl,At.Ij.mpr rfl,Iz.refl _⟩
 stop:=λb c i x a=>by rw[length_map,length_range] at a;exact a
theorem kU {k:List D->Option (List D)}{t:H9 (List D)}{i:St}{H:Hp}{R:It->Hp->Prop}(h:iW X W (λρ S=>ah (t ρ S) λd f=>aP (k d) f) i H R) :
  tA X W t i H λvs b => ∃ J S es ds,IQ X.K J S b/\Il X.K b J es vs/\k es=some ds/\∀ H' a,Iz b H'->Walk X a ds J H'->R a H':=by
 obtain⟨J,ρ,S,r,p,c,e,z⟩:=h;cases q:t ρ S with
 |none=>simp[q] at e
 |some o =>
  obtain⟨n,f⟩:=o;simp only[q] at e;cases n with
  |error x =>
   cases e;exact⟨J,ρ,S,.error x,_,c,.nil,q,z⟩
  |ok es =>
   refine⟨J,ρ,S,.ok es,f,c,.nil,q,λj b v x l m=>?_⟩;cases hk:k es with
   |none=>simp[hk] at e
   |some ds =>
    simp only[hk,kA,bV,Ip] at e;cases e;exact⟨j,_,es,ds,l,m,hk,λH' a g w=>z j H' a (x.trans (Ex.same g)) (l.same g) w⟩
theorem gN {g a:Expr}{t:H9 (List D)}{x:Str}{p:Pos}(f:x="range")(k:X.mg x=none)(e:SA X W [a] t)(i:Gl X x:=by rfl)(l:starEach [a] X.env=[(false,eval a X.env)]:=by rfl):SI X W g (.Call (.Name x p) [a] [] pos) (jg f_ t):=by
 subst f;refine PI.imp (yM i k e l) λy H R h=>(kU h).mono λq d Zq=>?_;obtain⟨J,S,es,u,s,m,b,z⟩:=Zq;unfold f_ at b;split at b
 ·rename_i j;split at b
  ·rename_i c;cases b;obtain⟨v,r,rfl,o,n⟩:=Il.Ik.mp m;cases Il.Io.mp n;cases At.Ij.mp o;refine⟨j,rfl,c.1,by omega,z d _ (Iz.refl _) ?_⟩;have w:=Walk.range (X:=X) (J:=J) (H:=d) 0 j.toNat (by show j.toNat<=16777216;omega);simpa using w
  cases b
 cases b
end
structure KP (scope:Scope) (env:Env):Prop where
 kind:scope.kind = .function
 Nd:∀ y∈scope.names,y.2≠.cell
 names:∀ y∈scope.names,y.2 = .local->scope.names.lookup y.1=some .local
 frees:∀ y∈scope.names,y.2 = .free->env.kindOf y.1=some .cell∨env.kindOf y.1=some .free
theorem eS {env:Env}:∀ (names:List (Str×NameKind)) (a:List (Str×Addr)),(∀ y∈names,y.2 = .free->∃ c,env.cells.lookup y.1=some c)->(∀ x c,a.lookup x=some c->env.cells.lookup x=some c) ->
  ∃ b:List (Str×Addr),(forIn names a λ(x:Str×NameKind) r=>(do
    let (name,kind):=x
    if kind==.free then pure (ForInStep.yield ((name,← cellOf env name)::r)) else pure (ForInStep.yield r):Sem (ForInStep (List (Str×Addr)))))=pure b /\
   (∀ x c,b.lookup x=some c->env.cells.lookup x=some c)/\(∀ x c,a.lookup x=some c->∃ d,b.lookup x=some d)/\(∀ y∈names,y.2 = .free->∃ c,b.lookup y.1=some c)
 |[],a,_,ha=>⟨a,by simp,ha,λx c h=>⟨c,h⟩,by simp⟩
 |(n,k)::r,a,hc,ha=>by
  by_cases j:k = .free
  ·subst j;obtain⟨c,o⟩:=hc (n,.free) (mem_cons_self ..) rfl
   have p:∀ x d,((n,c)::a).lookup x=some d->env.cells.lookup x=some d:=λx d h=>by
    rw[lookup_cons] at h;cases f:x==n with
    |true =>
     rw[f] at h;cases h;have:x=n:=eq_of_beq f;rw[this];exact o
    |false=>rw[f] at h;exact ha x d h
   obtain⟨b,e,m,g,l⟩:=eS r ((n,c)::a) (λy hy=>hc y (mem_cons_of_mem _ hy)) p;have q:cellOf env n=pure c:=by unfold cellOf;rw[o]
   refine⟨b,?_,m,λx d h=>?_,λy hy i=>?_⟩
   ·rw[forIn_cons];simp only[beq_self_eq_true,if_true,q,pure_bind];exact e
   ·by_cases f:(x==n)=true
    ·exact g x c (by rw[lookup_cons,f])
    exact g x d (by rw[lookup_cons,Bool.eq_false_iff.mpr f];exact h)
   rcases mem_cons.mp hy with rfl |hy
   ·exact g n c (by rw[lookup_cons,beq_self_eq_true])
   exact l y hy i
  obtain⟨b,e,m,g,l⟩:=eS r a (λy hy=>hc y (mem_cons_of_mem _ hy)) ha;refine⟨b,?_,m,g,λy hy i=>?_⟩
  ·rw[forIn_cons];have:(k==NameKind.free)=false:=by simpa using j
   simp only[this,false_eq_true,if_false,pure_bind];exact e
  rcases mem_cons.mp hy with rfl |hy
  ·exact absurd i j
  exact l y hy i
def l8 (X:Cx)(scope:Scope)(b:List (Str×Addr))(a:List Str)(C:Addr)(c:Shared)(d:Hp)(fp:List Addr):Cx:=
 { X with N:=a,s₀:=c,H₀:=d,env:=compEnvC scope b C X.env,outer:=X.stack,ex:=fp,fn:=λ_=>false,pn:=[],xe:=λ_ _=>False }
theorem dz {env:Env}{x:Str}:∀ {names:List (Str×NameKind)}{k:NameKind},(names.map λ(n,k)=>if (k==NameKind.free&&env.scope.kind==.function&&env.kindOf n==some .cell) then (n,NameKind.cell) else (n,k)).lookup x=some k->(∀ y∈names,y.2≠.cell) ->
  (k = .cell∨k = .free)->(x,NameKind.free)∈names
 |[],_,h,_,_=>by simp at h
 |(n,k0)::r,k,h,nc,hk=>by
  rw[map_cons] at h;by_cases a:(k0==NameKind.free&&env.scope.kind==.function&&env.kindOf n==some .cell)=true
  ·simp only[a,if_true,lookup_cons] at h;cases hx:x==n with
   |true =>
    have e:x=n:=eq_of_beq hx;subst e;have:k0 = .free:=by simp at a;exact a.1.1
    subst this;exact mem_cons_self ..
   |false =>
    rw[hx] at h;exact mem_cons_of_mem _ (dz h (λy b=>nc y (mem_cons_of_mem _ b)) hk)
  simp only[a,if_false,lookup_cons,false_eq_true] at h;cases hx:x==n with
  |true =>
   rw[hx] at h;have e:x=n:=eq_of_beq hx;subst e;cases h;rcases hk with rfl |rfl
   ·exact absurd rfl (nc (x,.cell) (mem_cons_self ..))
   exact mem_cons_self ..
  |false =>
   rw[hx] at h;exact mem_cons_of_mem _ (dz h (λy b=>nc y (mem_cons_of_mem _ b)) hk)
def cm {α:Type}(ts:Nat)(ix:List Nat)(a:List (Option α)):List (Option α):=replicate ts none++ix.map λi=>(a[i]?).getD none
def jO (ts:List Str)(ix:List Nat)(N:List Str):List Str:=ts++ix.map λi=>N.getD i Str.empty
theorem h8 {env:Env}{x:Str}:∀ {names:List (Str×NameKind)},names.lookup x=some .free ->
  (names.map λ(n,k)=>if (k==NameKind.free&&env.scope.kind==.function&&env.kindOf n==some .cell) then (n,NameKind.cell) else (n,k)).lookup x=some .cell ∨
  (names.map λ(n,k)=>if (k==NameKind.free&&env.scope.kind==.function&&env.kindOf n==some .cell) then (n,NameKind.cell) else (n,k)).lookup x=some .free
 |[],h=>by simp at h
 |(n,k0)::r,h=>by
  rw[map_cons];rw[lookup_cons] at h;by_cases a:(k0==NameKind.free&&env.scope.kind==.function&&env.kindOf n==some .cell)=true
  ·simp only[a,if_true,lookup_cons];cases hx:x==n with
   |true=>exact .inl rfl
   |false=>rw[hx] at h;exact h8 h
  simp only[a,if_false,lookup_cons,false_eq_true];cases hx:x==n with
  |true=>rw[hx] at h;exact .inr h
  |false=>rw[hx] at h;exact h8 h
theorem lookup_mem {x:Str}{k:NameKind}:∀ {names:List (Str×NameKind)},names.lookup x=some k->(x,k)∈names
 |[],h=>by simp at h
 |(n,k0)::r,h=>by
  rw[lookup_cons] at h;cases hx:x==n with
  |true=>rw[hx] at h;cases h;rw[eq_of_beq hx];exact mem_cons_self ..
  |false=>rw[hx] at h;exact mem_cons_of_mem _ (lookup_mem h)
section
variable {X:Cx}{pins:Ib}{σ:St}{H:Hp}{s:Shared}
theorem Inv.enter {scope:Scope}{D:List (Str×Addr)}{ts:List Str}{ix:List Nat}{fp:List Addr}{j:Shared}{F:Heap}{C:Hp}{m:Ic}{tk:Nat}(I:Inv X pins σ C j)(S:KP scope X.env)
  (n:∀ x c,D.lookup x=some c->X.env.cells.lookup x=some c) (J:∀ y∈scope.names,y.2 = .free->∃ c,D.lookup y.1=some c) (Nf:∀ t∈ix,scope.names.lookup (X.N.getD t Str.empty)=some .free)
  (f:∀ b∈fp,jh X pins C b) (fo:∀ b∈fp,∃ o,j.heap.get? b=some o) (k:∀ b o,j.heap.get? b=some o->F.get? b=some o) (W:F.Ns j.heap.objs.size m) :
  Inv (l8 X scope D (jO ts ix X.N) j.heap.objs.size j C fp) [] (cm ts.length ix σ) C { j with heap:=F,toks:=tk }:=by
 refine⟨⟨I.ok.mod,S.kind,I.ok.glob,I.ok.blt,le_refl _,λx y c a b=>I.ok.inj x y c (n x c a) (n y c b),λx T=>?_,(λx c a=>by cases a),I.ok.hd,I.ok.frames,.inl rfl,λb s=>⟨?_,λx c e=>(f b s).2.2.2.2.1 x c (n x c e)⟩,I.bs,Nat.le_trans I.ok.Pe I.sz,λb o e s=>?_,λb s z=>?_,I.stack,I.Nu⟩,
  rfl,I.bare,Un.kept k,⟨m,W,λi x v Z U e3=>?_⟩,λx c e=>?_,I.fresh,λx c e=>I.Ks x c (n x c e),λp hp=>absurd (show p∈([]:Ib) from hp) (by simp),I.IL.kept k,?_⟩
 ·have q:(x,NameKind.free)∈scope.names:=by
   rcases T with z |z
   ·exact dz z S.Nd (.inl rfl)
   exact dz z S.Nd (.inr rfl)
  exact J _ q rfl
 ·obtain⟨o,E⟩:=fo b s;exact ne_of_lt (Heap.lt_size E)
 ·obtain⟨f0,_,_,M,_⟩:=f b s;rcases M with z |z
  ·exact I.ok.Ot b o e z
  exact absurd (lt_of_lt_of_le (Heap.lt_size e) (Nat.le_trans I.ok.Pe z)) (Nat.lt_irrefl _)
 ·obtain⟨f0,Y,V,M,_⟩:=f b s;rcases mem_cons.mp (I.Ms b z) with e |e
  ·exact Y e
  exact V e
 ·-- a captured name
  have d:(cm ts.length ix σ)[i]?=some (some v):=U;have h:(jO ts ix X.N)[i]?=some x:=Z;unfold cm at d;unfold jO at h;by_cases B:i<ts.length
  ·rw[getElem?_append_left (by simpa using B),List.getElem?_replicate] at d;rw[if_pos B] at d;cases d
  rw[getElem?_append_right (by simpa using B)] at d;rw[getElem?_append_right (by simpa using B)] at h;rw[List.length_replicate] at d;rw[getElem?_map] at d h;cases et:ix[i-ts.length]? with
  |none=>rw[et] at d;cases d
  |some t =>
   rw[et] at d h;simp only[map_some,Option.some.injEq] at d h
   have O : σ[t]?=some (some v):=by
    cases q : σ[t]? with
    |none=>rw[q] at d;cases d
    |some w=>rw[q] at d;simp only[getD_some] at d;rw[d]
   have P:t<X.N.length:=by rw[← I.len];exact(List.getElem?_eq_some_iff.mp O).1
   have hN:X.N[t]?=some x:=by rw[List.getD_eq_getElem?_getD,List.getElem?_eq_getElem P] at h;rw[List.getElem?_eq_getElem P];simp only[getD_some] at h;rw[h]
   have Q:scope.names.lookup x=some .free:=by have:=Nf t (mem_of_getElem? et);rwa [h] at this
   have K:=lookup_mem Q;have g:=S.frees _ K rfl;obtain⟨m0,_,R⟩:=I.loc
   obtain⟨u,r,l⟩:=R t x v hN O (by
    rcases g with z |z
    ·exact .inr (.inl z)
    exact .inr (.inr z))
   refine⟨u,r,.inr ⟨h8 Q,?_⟩⟩;obtain⟨c,H⟩:=J _ K rfl;have TU:=n x c H;rcases l with ⟨kl,_⟩ |⟨_,c',G,cell⟩
   ·have L:X.env.kindOf x=some .local:=kl;rcases g with z |z
    ·have A:X.env.kindOf x=some .cell:=z;rw[L] at A;cases A
    have A:X.env.kindOf x=some .free:=z;rw[L] at A;cases A
   rw[TU] at G;cases G;exact⟨c,H,cell.keeps k⟩
 ·obtain⟨v,o,E,hd⟩:=I.cell x c (n x c e);exact⟨v,o,k c o E,hd⟩
 show (cm ts.length ix σ).length=(jO ts ix X.N).length;unfold cm jO;simp
theorem Inv.leave {scope:Scope}{s:List (Str×Addr)}{r:List Str}{p:St}{fp:List Addr}{g s':Shared}{h':Heap}{l H':Hp}{t:Ib}(I:Inv X pins σ l g)(f:∀ b∈fp,jh X pins l b)
  (h:Inv (l8 X scope s r g.heap.objs.size g l fp) t p H' s') (k:∀ b,b≠g.heap.objs.size->h'.get? b=s'.heap.get? b):Inv X pins σ H' { s' with heap:=h' }:=by
 have un:Un (NO X.stack) fp l H' g.heap s'.heap:=h.base;have m:∀ b o,g.heap.get? b=some o->b≠g.heap.objs.size:=λb o e=>ne_of_lt (Heap.lt_size e)
 have x:Un (NO X.stack) fp l H' g.heap h':=by
  refine⟨λb o e n j i=>?_,λb o e n j i=>?_,un.free,λb o e i=>?_,un.Mp,un.LZ,un.Mq⟩
  ·rw[k b (m b o e)];exact un.keep b o e n j i
  ·rw[k b (m b o e)];exact un.slot b o e n j i
  rw[k b (m b o e)];exact un.there b o e i
 have IL:Kz X.prog X.w H' h':=λb u e=>by
  have A:H' g.heap.objs.size=none:=h.free;have ne:∀ c v,H' c=some v->c≠g.heap.objs.size:=λc v q z=>by rw[z,A] at q;cases q
  refine(h.IL b u e).Lx (λc v B q=>?_) (λ_ q=>q) λ_ _ q=>q;rw[k c]
  ·exact q
  rcases B with z |z
  ·rw[z];exact ne b u e
  exact ne c _ z
 have os:s'.os=g.os:=h.os;exact I.RG (s':={ s' with heap:=h' }) os x IL h.bare λb j=>let ⟨_,a,_,y,c,d⟩:=f b j;⟨y,a,c,d⟩
end
section
variable {prog:Program}{w:World}{A:Around}{R:Result->Shared->Prop}{s:Shared}
theorem sO {elt target iter:Expr}{ifs:List Expr}{scope:Scope}{pos:Pos}{it l:Value}{env:Env}(I:Nat->Shared->Prop)
  (y:∀ n s,I n s->wpAny (model prog w) A (pyNext it) (λr b=>match r with
   |none=>R (.ok .next) b
   |some v=>wpAny (model prog w) A (letOwnedTupleGo target it v) (λ_ z=>wpAny (model prog w) A (assign target env v) (λ_ g =>
     wpAny (model prog w) A (forIn ifs true λc r=>if r=true then do let ok ← isTrue c env (eval c env);pure (ForInStep.yield ok) else pure (ForInStep.yield r)) (λok d =>
      if ok=true then wpAny (model prog w) A (eval elt env) (λx e =>
       wpAny (model prog w) A (call (.builtin "list.append") [l,x]) (λ_ j => ∃ m,m<n/\I m j) (λ_ _=>False) e) (λ_ _=>False) d
      else ∃ m,m<n/\I m d) (λ_ _=>False) g) (λ_ _=>False) z) (λ_ _=>False) b) (λ_ _=>False) s)
  (n:Nat) (h:I n s):codeAny (model prog w) A (.compLoop (.ListComp elt [⟨target,iter,ifs,0⟩] scope pos) 0 it l env) R s:=by
 have no:∀ {α:Type}{t:Sem α}{Q : α->Shared->Prop}{E:Ia}{s:Shared},wpAny (model prog w) A t Q (λ_ _=>False) s->wpAny (model prog w) A t Q E s:=λh=>wpAny_mono h (λ_ _ q=>q) λ_ _ f=>f.elim;refine codeAny_loop rfl I (λn s B=>?_) n h;show wpAny _ A ((compTurn (.ListComp elt [⟨target,iter,ifs,0⟩] scope pos) 0 it l env).onRaise (λx=>do noteFrame x env;theTreesLotGoes x)) _ _ s;refine wpAny_noted ?_;rw[compTurn_list];refine wpAny_bind (wpAny_standAt (wpAny_bind (wpAny_mono (no (y n s B)) (λr b k=>?_) λ_ _ a=>a)));cases r with
 |none=>exact wpAny_pure k
 |some v =>
  refine wpAny_bind (wpAny_mono (no k) (λ_ z C=>?_) λ_ _ a=>a);refine wpAny_bind (wpAny_mono (no C) (λ_ g p=>wpAny_bind (wpAny_mono (no p) (λok d i=>?_) λ_ _ a=>a)) λ_ _ a=>a);cases ok with
  |false=>exact wpAny_pure ⟨rfl,i⟩
  |true =>
   exact wpAny_bind (wpAny_bind (wpAny_mono (no i) (λx e o=>wpAny_bind (wpAny_mono (no o) (λ_ j u=>wpAny_pure (wpAny_pure ⟨rfl,u⟩)) λ_ _ a=>a)) λ_ _ a=>a))
end
section
variable {X:Cx}{pins:Ib}{σ:St}{H:Hp}{s:Shared}{D₀:Addr}
theorem Inv.adopt {ys:List V}{its:List Value}{n:Nat}(I:Inv X pins σ H s)(f:jh X pins H D₀)(e:s.heap.get? D₀=some { cls:=.type "list",data:=.seq its.toArray n })(r:Vals ys its)(hz:ys.length<=sizeLine):Inv X pins σ (upd H D₀ (.lst ys)) s:=by
 obtain⟨h,l,p,k,g,m⟩:=f;have ne:∀ b o,H b=some o->b≠D₀:=λb o q=>aO q h
 have q:=I.step (h':=s.heap) (H':=upd H D₀ (.lst ys)) (g':=s.gens) (d':=s.drawn) (t':=s.toks) (ch:=[D₀]) (λb a=>by
   have:b=D₀:=by simpa using a
   subst this
   exact⟨k,l,g,m⟩)
  (λb o _ _ _ e _=>e) (λb o _ _ _ e _=>⟨o.slots,e⟩) (λb o a _ j=>by rw[aF (λz=>a (by simp[z]))];exact j) (λb o _ e=>⟨o,e⟩)
  (λb d q=>by rw[aF (ne b _ q)];exact q) (λb o d q=>by rw[aF (ne b _ q)];exact q) (λb t q=>⟨#[],by rw[aF (ne b _ q),q];simp⟩) (λ_ i=>i) (λb u q=>?_) I.bare
 ·exact q
 by_cases a:b=D₀
 ·subst a;rw[Iv] at q;cases q;exact⟨hz,its,n,r,e⟩
 rw[aF a] at q;exact(I.IL b u q).Lx (λc v _ z=>z) (λc z=>by rw[aF (ne c _ z)];exact z) λc d z=>by rw[aF (ne c _ z)];exact z
end
def R7 (X:Cx)(W:WT)(ifs:List Expr)(g:H9 Bool):Prop:=
 ∀ (a:Ib) (s:Shared) (b:St) (H:Hp) (Q:Bool->Hp->Prop),Inv X a b H s->tT X W g b H Q ->
  wpAny (model X.prog X.w) X.A (forIn ifs true λc r=>if r=true then do let ok ← isTrue c X.env (eval c X.env);pure (ForInStep.yield ok) else pure (ForInStep.yield r)) (TP X a b Q) X.xe s
def fQ:H9 Bool:=λ_ S=>Ip true S
theorem f8 {X:Cx}{W:WT}:R7 X W [] fQ:=by intro a s b H Q I h;rw[forIn_nil];exact wpAny_pure ⟨H,I,nG h⟩
theorem dW {X:Cx}{W:WT}{c:Expr}{g:H9 Bool}(d:Lc X W c g):R7 X W [c] g:=by intro a s e H Q I h;rw[forIn_cons];simp only[if_true,forIn_nil];refine wpAny_bind (wpAny_bind (IE (d a s e H Q I h) λb f q=>wpAny_pure ?_));exact wpAny_pure q
noncomputable def OA {α:Type}(m:Out α):Option (α×Ig):=match m with
 |some (.ok a,S)=>some (a,S)
 |_=>none
def bO (u:D->Ih->Option Ih)(gt:H9 Bool)(fe:H9 D):List D->Ih->Ig->Option (List D×Ig)
 |[],_,S=>some ([],S)
 |d::ds,ρ,S=>(u d ρ).bind λa=>(OA (gt a S)).bind λ(k,b) =>
  if k=true then (OA (fe a b)).bind λ(y,c)=>(bO u gt fe ds a c).map λ(e,f)=>(y::e,f)
  else bO u gt fe ds a b
def cA (n:Nat)(ix:List Nat)(c:H9 (List D))(u:D->Ih->Option Ih)(gt:H9 Bool)(fe:H9 D):H9 D:=λa S=>ah (c a S) λd b =>
 match bO u gt fe d (cm n ix a) b with
 |some (out,S2)=>Ip (.lst out) S2
 |none=>none
abbrev W0:WT:=λ_ _ _ _=>False
section
variable {X:Cx}{W:WT}
structure CompEnd (X:Cx) (pins:Ib) (σ:St) (J0:List Addr) (H0:Hp) (S2:Ig) (out:List D) (a C:Addr) (s':Shared):Prop where
 ns:∃ m,s'.heap.Ns C m
 own:X.s₀.heap.objs.size<=C/\C≠X.env.locals/\(∀ x c,X.env.cells.lookup x=some c->c≠C)/\∀ p∈X.pn++pins,p.1≠C
 fin:∀ h',(∀ b,b≠C->h'.get? b=s'.heap.get? b)->∃ J' H',Inv X pins σ H' { s' with heap:=h' }/\Ex J0 H0 J' H'/\IQ X.K J' S2 H'/\At X.K H' J' (.lst out) (.ref a)/\H' C=none
def xg (X':Cx)(m:Nat->Heap->Prop)(fp:List Addr)(a:Addr)(u:D->Ih->Option Ih)(gt:H9 Bool)(fe:H9 D)(ds out:List D)(l:List Addr)(k:Hp)(S2:Ig)(n:Nat)(s':Shared):Prop:=
 ∃ (i:Nat) (e:St) (c:Hp) (f:List Addr) (d:Ih) (h:Ig) (dn rest:List D) (j:List V) (g:List Value) (ep:Nat),
  n=ds.length-i+1/\i<=ds.length/\Inv X' [] e c s'/\m i s'.heap/\(∀ b∈a::fp,c b=none)/\Ex l k f c/\Cf X' f d h e c /\
  s'.heap.get? a=some { cls:=.type "list",data:=.seq g.toArray ep }/\Vals j g/\Il X'.K c f dn j/\dn.length<=i/\bO u gt fe (ds.drop i) d h=some (rest,S2)/\out=dn++rest
theorem zz {X':Cx}{tg elt:Expr}{ifs:List Expr}{u:D->Ih->Option Ih}{gt:H9 Bool}{fe:H9 D}{it a:Addr}{fp:List Addr}{tn:Nat->Heap->Prop}{Jt:It}{ds out:List D}{W:List Addr}{S:Hp}{S2:Ig}{R:Result->Shared->Prop}
  (hx:X'.xe=λ_ _=>False) (hc:X'.calm=true) (sg:SG X' tg u) (st:R7 X' W0 ifs gt) (se:SE X' W0 elt fe) (T:Turn X'.prog X'.w X'.K tg Jt fp it tn) (wk:Walk X' Jt ds W S) (na:a∉fp) (hz:ds.length<=sizeLine)
  (fin:∀ (Ka:Ib) (H':Hp) (b:Addr),b∈a::fp->H' b=none->(∀ p∈Ka,p.1≠b)->jh X' Ka H' b)
  (UN:∀ (s':Shared) (j:St) (H':Hp) (B:List Addr) (G:Ih) (ys:List V) (us:List Value) (ep:Nat),Inv X' [] j H' s'->Ex W S B H'->Cf X' B G S2 j H'->H' a=none->s'.heap.get? a=some { cls:=.type "list",data:=.seq us.toArray ep }->Vals ys us->Il X'.K H' B out ys->ys.length<=sizeLine->R (.ok .next) s') :
  ∀ n s,xg X' tn fp a u gt fe ds out W S S2 n s->wpAny (model X'.prog X'.w) X'.A (pyNext (.ref it)) (λr N=>match r with
   |none=>R (.ok .next) N
   |some v=>wpAny (model X'.prog X'.w) X'.A (letOwnedTupleGo tg (.ref it) v) (λ_ NA=>wpAny (model X'.prog X'.w) X'.A (assign tg X'.env v) (λ_ s₂ =>
     wpAny (model X'.prog X'.w) X'.A (forIn ifs true λc r=>if r=true then do let ok ← isTrue c X'.env (eval c X'.env);pure (ForInStep.yield ok) else pure (ForInStep.yield r)) (λok O =>
      if ok=true then wpAny (model X'.prog X'.w) X'.A (eval elt X'.env) (λx s₄ =>
       wpAny (model X'.prog X'.w) X'.A (call (.builtin "list.append") [.ref a,x]) (λ_ Y => ∃ m,m<n/\xg X' tn fp a u gt fe ds out W S S2 m Y) (λ_ _=>False) s₄) (λ_ _=>False) O
      else ∃ m,m<n/\xg X' tn fp a u gt fe ds out W S S2 m O) (λ_ _=>False) s₂) (λ_ _=>False) NA) (λ_ _=>False) N) (λ_ _=>False) s:=by
 rintro n s ⟨i,j,H',B,G,Sx,dn,rest,ys,us,ep,hn,hi,I',Wg,fr,ex,cx,ga,vs,ad,dl,l,eo⟩;have fa:=fin [] H' a (mem_cons_self ..) (fr a (mem_cons_self ..)) (λp E=>by simp at E)
 have I1:Inv X' [(a,{ cls:=.type "list",data:=.seq us.toArray ep })] j H' s:=I'.KJ λp E=>by
  have:p=(a,{ cls:=.type "list",data:=.seq us.toArray ep }):=by simpa using E
  subst this;exact⟨ga,fa.1,fa.2.1,fa.2.2.1,λv z=>by cases z⟩
 have UO:∀ H1:Hp,(∀ b∈fp,H1 b=none)->∀ b∈fp,jh X' [(a,{ cls:=.type "list",data:=.seq us.toArray ep })] H1 b:=λH1 hn b hb=>fin _ H1 b (mem_cons_of_mem _ hb) (hn b hb) λp E=>by
  have:p=(a,{ cls:=.type "list",data:=.seq us.toArray ep }):=by simpa using E
  subst this;intro z;have z':a=b:=z;exact na (z'▸hb)
 by_cases JU:i<ds.length
 ·refine IE (T.item X' rfl rfl rfl hc i _ s j H' (λ_ _=>False) I1 (UO H' λb hb=>fr b (mem_cons_of_mem _ hb)) Wg (wk.go B H' i ex JU)) λr s1 Zq=>?_;obtain⟨v,er,h1⟩:=Zq;subst er;refine IE h1 λ_ s5 Zq=>?_;obtain⟨x,X,I5,r5,y5,UP,Ut⟩:=Zq;obtain⟨d,ed,X3,sm⟩:=wk.Nw B H' i x X ex cx.IW.all JU y5;have x5:Ex B H' B X:=Ex.same sm;have c5:Cf X' B G Sx j X:=cx.re x5 (cx.IW.same sm);have hd:ds.drop i=d::ds.drop (i+1):=by rw[List.drop_eq_getElem_cons JU];rw[List.getElem?_eq_getElem JU] at ed;cases ed;rfl
  rw[hd,bO] at l;obtain⟨h,eu,l⟩:=bind_eq_some_iff.mp l;obtain⟨⟨k,U⟩,eg,l⟩:=bind_eq_some_iff.mp l
  have X4:gt h Sx=some (.ok k,U):=by
   unfold OA at eg;split at eg
   ·rename_i q;cases eg;exact q
   cases eg
  have Uu:=I5.pinned (UO X Ut) (T.obj _ _ UP)
  have keep:∀ {f:St}{C:Hp}{H:Shared},Inv X' ([(a,{ cls:=.type "list",data:=.seq us.toArray ep })]++lQ fp s5.heap) f C H->tn (i+1) H.heap/\(∀ b∈a::fp,C b=none)/\H.heap.get? a=some { cls:=.type "list",data:=.seq us.toArray ep }:=λ{f C H} Q=>by
   have pa:=Q.pin (a,{ cls:=.type "list",data:=.seq us.toArray ep }) (mem_append_right _ (mem_append_left _ (by simp)));refine⟨T.keep _ _ _ UP λb hb o e=>(Q.pin (b,o) (mem_append_right _ (mem_append_right _ (ie hb e)))).1,λb hb=>?_,pa.1⟩;rcases mem_cons.mp hb with rfl |hb
   ·exact pa.2.1
   obtain⟨o,e,_⟩:=T.obj _ _ UP b hb;exact(Q.pin (b,o) (mem_append_right _ (mem_append_right _ (ie hb e)))).2.1
  have Wh:∀ {f:St}{C:Hp}{H:Shared},Inv X' ([(a,{ cls:=.type "list",data:=.seq us.toArray ep })]++lQ fp s5.heap) f C H->Inv X' [] f C H:=λ{f C H} Q=>Q.KJ λp E=>absurd E (by simp);have g:=sg _ s5 j X x v (λf C=>C=X/\Cf X' B h Sx f C) Uu r5 ⟨B,G,Sx,d,h,c5,X3,eu,λf c6=>⟨rfl,c6⟩⟩;rw[hx] at g;refine IE g λ_ H Zq=>?_;obtain⟨f,C,Q,eH,c6⟩:=Zq;subst eH
  have t:=st _ H f C (λb J=>b=k/\∃ I,Ex B C I J/\Cf X' I h U f J) Q ⟨B,h,Sx,.ok k,U,c6,.nil,X4,λI J b x7 s7 eb=>by
   cases eb
   exact⟨rfl,I,x7,c6.re x7 s7⟩⟩
  rw[hx] at t;refine IE t λb s7 Zq=>?_;obtain⟨J,I7,eb,I,x7,c7⟩:=Zq;subst eb;have Wi:Ex W S I J:=ex.trans (x5.trans x7);have Wj:Il X'.K J I dn ys:=(ad.ex x5).ex x7;cases b with
  |false =>
   rw[if_neg (by decide)];simp only[false_eq_true,if_false] at l;obtain⟨t8,TV,Z⟩:=keep I7;exact⟨ds.length-(i+1)+1,by omega,i+1,f,J,I,h,U,dn,rest,ys,us,ep,rfl,by omega,Wh I7,t8,TV,Wi,c7,Z,vs,Wj,by omega,l,eo⟩
  |true =>
   rw[if_pos rfl];simp only[if_true] at l;obtain⟨⟨y,Sy⟩,ey,l⟩:=bind_eq_some_iff.mp l;obtain⟨⟨ry,S3⟩,ey2,l⟩:=map_eq_some_iff.mp l
   have X5:fe h U=some (.ok y,Sy):=by
    unfold OA at ey;split at ey
    ·rename_i q;cases ey;exact q
    cases ey
   simp only[Prod.mk.injEq] at l;obtain⟨er,es⟩:=l;subst es er;have t:=se _ s7 f J (λw L => ∃ M,Ex I J M L/\Cf X' M h Sy f L/\At X'.K L M y w) I7 ⟨I,h,U,.ok y,Sy,c7,.nil,X5,λM L w x8 P aw=>⟨M,x8,c7.re x8 P,aw⟩⟩;rw[hx] at t;refine IE t λw P Zq=>?_;obtain⟨vw,L,I8,X6,M,x8,c8,aw⟩:=Zq;obtain⟨t8,TV,Z⟩:=keep I8;have Wm:Il X'.K L M dn ys:=Wj.ex x8;have l1:=Wm.length;have l2:=vs.length;refine call_meets F.slot_list_append ⟨_,Z,rfl⟩ F.entry_list_append (F.args_list_append_2 _ _) (PySem.list_append a us.toArray ep w (by rw[size_toArray];omega)) ⟨Z,?_⟩;have UQ:=PySem.IsL.update Z (·.push w);have R8:=fin [] L a (mem_cons_self ..) (TV a (mem_cons_self ..)) (λp E=>by simp at E);have I9:Inv X' [] f L { P with heap:=P.heap.update a (Obj.mapSeq (·.push w)),toks:=P.toks }:=(Wh I8).turned (it:=a) (λb o hb e=>(Heap.get?_update_other P.heap (Obj.mapSeq (·.push w)) (Ne.symm hb)).trans e) R8.1 R8.2.1 R8.2.2.2.1 R8.2.2.2.2.1 R8.2.2.2.2.2;refine⟨ds.length-(i+1)+1,by omega,i+1,f,L,M,h,Sy,dn++[y],ry,ys++[vw],us++[w],_,rfl,by omega,I9,?_,TV,Wi.trans x8,c8,by simpa using UQ,vs.append (.cons X6 .nil),Wm.append (.cons aw .nil),by rw[List.length_append,length_singleton];omega,ey2,by rw[eo];simp⟩;exact T.keep _ _ _ t8 λb hb o e=>(Heap.get?_update_other P.heap (Obj.mapSeq (·.push w)) (λz:a=b=>na (by rw[z];exact hb))).trans e
 refine IE (T.done X' rfl rfl rfl hc i _ s j H' (λ_ _=>False) I1 (UO H' λb hb=>fr b (mem_cons_of_mem _ hb)) Wg (wk.stop B H' i ex (by omega))) λr s1 Zq=>?_;obtain⟨er,J1⟩:=Zq;subst er;rw[drop_eq_nil_of_le (by omega),bO] at l;cases l;rw[append_nil] at eo;subst eo;have l1:=ad.length;have pa:=J1.pin (a,{ cls:=.type "list",data:=.seq us.toArray ep }) (mem_append_right _ (by simp));exact UN s1 j H' B G ys us ep (J1.KJ λp E=>absurd E (by simp)) ex cx pa.2.1 pa.1 vs ad (by omega)
theorem qR {Y iter elt:Expr}{ifs:List Expr}{scope:Scope}{pos:Pos}{u:D->Ih->Option Ih}{gt:H9 Bool}{fe:H9 D}{ts:List Str}{ix:List Nat}{n:List (Str×Addr)}
  {g:Ib}{B:St}{l:Shared}{E:Ia}{it:Addr}{fp:List Addr}{tn:Nat->Heap->Prop}{Jt:It}{j:Hp}{s:List Addr}{ρ:Ih}{W S2:Ig}{ds out:List D}{S:Value->Addr->Result->Shared->Prop}
  (hc:X.calm=true) (Sc:KP scope X.env) (h1:∀ x c,n.lookup x=some c->X.env.cells.lookup x=some c) (h2:∀ y∈scope.names,y.2 = .free->∃ c,n.lookup y.1=some c) (Nf:∀ t∈ix,scope.names.lookup (X.N.getD t Str.empty)=some .free)
  (Od:∀ C f H3 fp,SG (l8 X scope n (jO ts ix X.N) C f H3 fp) Y u/\R7 (l8 X scope n (jO ts ix X.N) C f H3 fp) W0 ifs gt/\SE (l8 X scope n (jO ts ix X.N) C f H3 fp) W0 elt fe)
  (I2:Inv X g B j l) (T:Turn X.prog X.w X.K Y Jt fp it tn) (t0:tn 0 l.heap) (f2:∀ b∈fp,jh X g j b) (c2:Cf X s ρ W B j) (O:Walk X Jt ds s j)
  (ec:bO u gt fe ds (cm ts.length ix ρ) W=some (out,S2))
  (X7:∀ a C s',CompEnd X g B s j S2 out a C s'->S (.ref a) C (.ok .next) s') :
  wpAny (model X.prog X.w) X.A (newList []) (λM J=>wpAny (model X.prog X.w) X.A (newFunctionEnv scope X.env.globals n [] X.env.qual none .none (some X.env)) (λR9 G =>
   codeAny (model X.prog X.w) X.A (.compStart (.ListComp elt [⟨Y,iter,ifs,0⟩] scope pos) 0 (.ref it) M { R9 with scope:=relabel scope X.env }) (S M R9.locals) G) E J) E l:=by
 refine wpAny_newObj_type (wpAny_newFunctionEnv Sc.Nd (by intro y hy;simp at hy) (λV UR QL=>?_) Sc.kind);dsimp only at UR QL ⊢;generalize F:l.heap.objs.size=a at *
 have U:∀ b o,l.heap.get? b=some o->(l.heap.push { cls:=.type "list",dict:=none,data:=.seq ([]:List Value).toArray }).get? b=some o:=λb o e=>Heap.get?_push_of_some _ e;obtain⟨f,US⟩:∃ f:Shared,f={ l with heap:=l.heap.push { cls:=.type "list",dict:=none,data:=.seq ([]:List Value).toArray } }:=⟨_,rfl⟩;have P:Inv X g B j f:=by rw[US];exact I2.kept (t':=l.toks) U
 have r:f.heap=l.heap.push { cls:=.type "list",dict:=none,data:=.seq ([]:List Value).toArray }:=by rw[US]
 have Rq:f.heap.objs.size=a+1:=by rw[r,Heap.size_push,F]
 rw[← r] at UR QL;have a3:f.heap.get? a=some { cls:=.type "list",data:=.seq ([]:List Value).toArray }:=by rw[r,← F];exact Heap.get?_push_size _ rfl
 have fa:jh X g j a:=I2.LA (by rw[F];exact le_refl _) (by rw[← F];exact I2.fresh);have R_:∀ b∈fp,∃ o,l.heap.get? b=some o:=λb hb=>let ⟨o,e,_⟩:=T.obj 0 _ t0 b hb;⟨o,e⟩;have na:a∉fp:=λhb=>by obtain⟨o,e⟩:=R_ a hb;have:=Heap.lt_size e;rw[F] at this;exact absurd this (Nat.lt_irrefl _)
 have I:∀ b∈a::fp,jh X g j b:=λb hb=>by
  rcases mem_cons.mp hb with rfl |hb
  ·exact fa
  exact f2 b hb
 have fo:∀ b∈a::fp,∃ o,f.heap.get? b=some o:=λb hb=>by
  rcases mem_cons.mp hb with rfl |hb
  ·exact⟨_,a3⟩
  obtain⟨o,e⟩:=R_ b hb;exact⟨o,by rw[r];exact U b o e⟩
 have Q:∀ b o,f.heap.get? b=some o->V.get? b=some o:=λb o e=>QL.extBut b o (ne_of_lt (Heap.lt_size e)) (Heap.get?_push_of_some _ e);have toks:∀ t,Inv (l8 X scope n (jO ts ix X.N) f.heap.objs.size f j (a::fp)) [] (cm ts.length ix B) j { f with heap:=V,toks:=t }:=λt=>P.enter Sc h1 h2 Nf I fo Q UR;obtain⟨sg,st,se⟩:=Od f.heap.objs.size f j (a::fp)
 have fin:∀ (Ka:Ib) (H':Hp) (b:Addr),b∈a::fp->H' b=none->(∀ p∈Ka,p.1≠b)->jh (l8 X scope n (jO ts ix X.N) f.heap.objs.size f j (a::fp)) Ka H' b:=λKa H' b hb hn hp=>by
  refine⟨hn,?_,λz=>?_,.inl hb,λx c e=>(I b hb).2.2.2.2.1 x c (h1 x c e),λp hq=>hp p hq⟩
  ·obtain⟨o,e⟩:=fo b hb;exact ne_of_lt (Heap.lt_size e)
  obtain⟨_,f1,X8,_⟩:=I b hb;rcases mem_cons.mp (P.Ms b z) with q |q
  ·exact f1 q
  exact X8 q
 have own:X.s₀.heap.objs.size<=f.heap.objs.size/\f.heap.objs.size≠X.env.locals/\(∀ x c,X.env.cells.lookup x=some c->c≠f.heap.objs.size)/\∀ p∈X.pn++g,p.1≠f.heap.objs.size:=by obtain⟨_,g1,g2,g3,g4,g5⟩:=P.LA (H':=λ_=>none) (le_refl f.heap.objs.size) rfl;exact⟨P.sz,g1,g4,g5⟩
 have c3:Cf (l8 X scope n (jO ts ix X.N) f.heap.objs.size f j (a::fp)) s (cm ts.length ix ρ) W (cm ts.length ix B) j:=by
  refine⟨by unfold cm;simp,λi d h=>?_,c2.IW⟩;unfold cm at h ⊢;by_cases hi:i<ts.length
  ·rw[getElem?_append_left (by simpa using hi),List.getElem?_replicate,if_pos hi] at h;cases h
  rw[getElem?_append_right (by simpa using hi),List.length_replicate,getElem?_map] at h ⊢;cases et:ix[i-ts.length]? with
  |none=>rw[et] at h;cases h
  |some t =>
   rw[et] at h;simp only[map_some,Option.some.injEq] at h ⊢
   have hr : ρ[t]?=some (some d):=by
    cases q : ρ[t]? with
    |none=>rw[q] at h;cases h
    |some w=>rw[q] at h;simp only[getD_some] at h;rw[h]
   obtain⟨v,e1,e2⟩:=c2.env t d hr;exact⟨v,by rw[e1];rfl,e2⟩
 have w3:Walk (l8 X scope n (jO ts ix X.N) f.heap.objs.size f j (a::fp)) Jt ds s j:=⟨O.len,O.go,O.Nw,O.stop⟩
 have H:∀ t,codeAny (model X.prog X.w) X.A (.compLoop (.ListComp elt [⟨Y,iter,ifs,0⟩] scope pos) 0 (.ref it) (.ref a) (compEnvC scope n f.heap.objs.size X.env)) (S (.ref a) f.heap.objs.size) { f with heap:=V,toks:=t }:=by
  intro t;refine sO _ (zz (R:=S (.ref a) f.heap.objs.size) (S2:=S2) (out:=out) (X':=l8 X scope n (jO ts ix X.N) f.heap.objs.size f j (a::fp)) rfl hc sg st se T w3 na O.len fin ?_) (ds.length+1) ?_
  ·intro s' σ' H' Jx ρx ys us ep I' ex cx Z ga vs ad lz;refine X7 a f.heap.objs.size s' ⟨let ⟨m,hm,_⟩:=I'.loc;⟨m,hm⟩,own,λh' k=>?_⟩;have I4:=P.leave I I' k;have UQ:h'.get? a=some { cls:=.type "list",data:=.seq us.toArray ep }:=by rw[k a (by rw[Rq];exact ne_of_lt (lt_succ_self _))];exact ga
   have X9:jh X g H' a:=⟨Z,fa.2⟩;have I5:=I4.adopt X9 UQ vs lz;have sm:Iz H' (upd H' a (.lst ys)):=aQ Z _;have hC:H' f.heap.objs.size=none:=I'.free;refine⟨Jx,_,I5,ex.trans (Ex.same sm),cx.IW.same sm,At.JM ad Z cx.IW.all lz,?_⟩;rw[aF (by rw[Rq];exact ne_of_gt (lt_succ_self _))];exact hC
  refine⟨0,_,j,s,cm ts.length ix ρ,W,[],out,[],[],0,rfl,zero_le _,toks t,?_,λb hb=>(I b hb).1,Ex.refl,c3,Q a _ a3,.nil,.nil,le_refl _,by simpa using ec,rfl⟩;exact T.keep 0 _ _ t0 λb hb o e=>Q b o (by rw[r];exact U b o e)
 have L:=H (l.toks+([]:List (Str×Value)).length);have t4:tn 0 V:=T.keep 0 _ _ t0 λb hb o e=>Q b o (by rw[r];exact U b o e);rw[US] at L;exact codeAny_compStart_list L (T.self _ 0 _ _ _ t4 L)
def Gq (X:Cx)(scope:Scope)(ts:List Str)(ix:List Nat)(d:Expr)(ifs:List Expr)(elt:Expr)(u:D->Ih->Option Ih)(gt:H9 Bool)(fe:H9 D):Prop:=
 ∀ (a:List (Str×Addr)) (C:Addr) (b:Shared) (c:Hp) (fp:List Addr),SG (l8 X scope a (jO ts ix X.N) C b c fp) d u/\R7 (l8 X scope a (jO ts ix X.N) C b c fp) W0 ifs gt/\SE (l8 X scope a (jO ts ix X.N) C b c fp) W0 elt fe
theorem pc {scope:Scope}{b:Ib}{i:St}{H:Hp}{s:Shared}(I:Inv X b i H s)(Sc:KP scope X.env):∃ a,closureFor scope X.env=pure a/\(∀ x c,a.lookup x=some c->X.env.cells.lookup x=some c)/\(∀ y∈scope.names,y.2 = .free->∃ c,a.lookup y.1=some c):=by obtain⟨a,e,g,_,d⟩:=eS (env:=X.env) scope.names [] (λy h f=>I.ok.has y.1 (Sc.frees y h f)) (by simp);refine⟨a,?_,g,d⟩;unfold closureFor;exact(congrArg (λ(m:Sem (List (Str×Addr)))=>m >>= λr=>(pure r:Sem (List (Str×Addr)))) e).trans rfl
theorem qP {g:H9 (List D)}{u:D->Ih->Option Ih}{gt:H9 Bool}{fe:H9 D}{n:Nat}{ix:List Nat}{i:St}{H:Hp}{Q:VK}(h:tE X W (cA n ix g u gt fe) i H Q) :
  iW X W g i H λj f => ∃ d ρ a S2 ds out,Cf X d ρ a i f/\Walk X j ds d f/\bO u gt fe ds (cm n ix ρ) a=some (out,S2)/\∀ b H' v,Ex d f b H'->IQ X.K b S2 H'->At X.K H' b (.lst out) v->Q v H':=by
 obtain⟨J,ρ,S,r,A,c,_,e,z⟩:=h;unfold cA at e;cases q:g ρ S with
 |none=>simp[q] at e
 |some o =>
  obtain⟨l,a⟩:=o;simp only[q] at e;cases l with
  |error x =>
   cases e;exact⟨J,ρ,S,.error x,_,c,q,z⟩
  |ok ds =>
   simp only[kA] at e;cases qc:bO u gt fe ds (cm n ix ρ) a with
   |none=>rw[qc] at e;cases e
   |some p =>
    obtain⟨out,S2⟩:=p;rw[qc] at e;cases e;exact⟨J,ρ,S,.ok ds,a,c,q,λd f j k m w=>⟨d,ρ,a,_,ds,out,c.re k m,w,qc,λb H' v y s t=>z b H' v (k.trans y) s t⟩⟩
theorem bS {d iter elt:Expr}{ifs:List Expr}{scope:Scope}{pos:Pos}{i:H9 (List D)}{u:D->Ih->Option Ih}{gt:H9 Bool}{fe:H9 D}{ts:List Str}{ix:List Nat}
  (P:X.calm=true) (Sc:KP scope X.env) (U:∀ t∈ix,scope.names.lookup (X.N.getD t Str.empty)=some .free) (hi:SI X W d iter i) (z:Gq X scope ts ix d ifs elt u gt fe)
  (M:∀ x,foldedSetIterable iter X.env x=pure x:=by intro _;rfl):SE X W (.ListComp elt [⟨d,iter,ifs,0⟩] scope pos) (cA ts.length ix i u gt fe):=by
 intro c s S H Q I h;obtain⟨o,V,A,w⟩:=pc I Sc;rw[eval_ListComp];refine wpAny_comprehension_free (use:=none) rfl M V Sc.kind Sc.names ?_;refine IE (hi c s S H _ I (qP h)) λv s1 l=>IE l λTB s2 J=>?_;obtain⟨it,fp,tn,Jt,Z,e,q,T,K,r,J0,ρ,S1,S2,ds,out,E,F,y,fin⟩:=J;subst e;refine qR P Sc A w U (λC p Y fp=>z o C p Y fp) q T K r E F y λa C j g=>?_;obtain⟨m,G⟩:=g.ns;refine⟨m,G,λB sb=>?_⟩;obtain⟨k,f,n,O,j,L,_⟩:=g.fin B λb R=>sb.2 b R;exact⟨.ref a,f,n,rfl,fin k f _ O j L⟩
end
section
variable {X:Cx}{W:WT}
theorem n6 {g iter elt:Expr}{ifs:List Expr}{scope:Scope}{pos p j:Pos}{w:H9 (List D)}{u:D->Ih->Option Ih}{gt:H9 Bool}{fe:H9 D}{ts:List Str}{ix:List Nat}{i:Nat}{y:Str}
  (hN:X.N.Nodup) (hc:X.calm=true) (Sc:KP scope X.env) (Nf:∀ t∈ix,scope.names.lookup (X.N.getD t Str.empty)=some .free) (hi:SI X W g iter w) (K:Gq X scope ts ix g ifs elt u gt fe)
  (hy:X.N[i]?=some y:=by rfl) (F:Loc X.env.scope y:=by first |exact Or.inl rfl |exact Or.inr rfl) (P:swapsWith (.ListComp elt [⟨g,iter,ifs,0⟩] scope pos) (some (.Name y j)) p.line X.env=pure true:=by rfl)
  (J:X.fn y=true∨X.env.scope.names.lookup y=some .local:=by first |exact .inl rfl |exact .inr rfl |assumption)
  (hs:∀ x,foldedSetIterable iter X.env x=pure x:=by intro _;rfl):SS X W (.Assign [.Name y j] (.ListComp elt [⟨g,iter,ifs,0⟩] scope pos) p) (bq i (cA ts.length ix w u gt fe)):=by
 intro c s n H E I h;obtain⟨cl,OB,h1,h2⟩:=pc I Sc;have h:=tS.Iw h;rw[exec_Assign_Name_used _ _ _ _ P];refine wpAny_bind (wpAny_standAt (wpAny_bind ?_));show wpAny _ X.A (do let _ ← comprehension (.ListComp elt [⟨g,iter,ifs,0⟩] scope pos) scope X.env _ (newList []) false (eval iter X.env) (some (assign (.Name y j) X.env))) _ _ s;refine wpAny_bind (wpAny_mono (wpAny_comprehension_free (use:=some (assign (.Name y j) X.env)) (Q:=λ_ d=>SP X c E .next d) rfl hs OB Sc.kind Sc.names ?_) (λ_ d hq=>wpAny_pure (wpAny_pure hq)) λ_ _ e=>e);refine IE (hi c s n H _ I (qP h)) λv s1 Oe=>IE Oe λTB s2 OC=>?_;obtain⟨it,fp,tn,Jt,H2,e,B,T,t0,G,J0,ρ,S1,S2,ds,out,U,wk,S,fin⟩:=OC;subst e;refine qR hc Sc h1 h2 Nf (λC k H3 fp=>K cl C k H3 fp) B T t0 G U wk S λa C d l=>?_;obtain⟨m,V⟩:=l.ns;obtain⟨o1,o2,r,o4⟩:=l.own;obtain⟨J',f,I',x',Im,O,Z⟩:=l.fin d.heap λ_ _=>rfl;have Ya:Inv X c n f d:=I';have q:=fin J' f _ x' Im O;show wpAny _ X.A (assign (.Name y j) X.env (.ref a)) _ _ d;refine wpAny_assign_Name (p9 Ya hN hy F (v:=.ref a) rfl (λk I3 Zq=>?_) J);obtain⟨ad,sb,hd⟩:=Zq
 have M:C≠ad:=by
  rcases hd with z |z
  ·rw[z];exact o2
  exact(r y ad z).symm
 refine⟨m,V.sameBut sb M,λL Yc=>?_⟩;have I4:Inv X c (n.set i (some (.ref a))) f { k with heap:=L }:=I3.turned (t':=k.toks) (it:=C) (λb o hb e=>(Yc.2 b hb).trans e) Z o2 (.inr o1) r o4;obtain⟨Jq,ρq,Sq,dq,rq,R,cq,Y,eq,zq⟩:=q;cases eq;exact⟨_,f,I4,zq Jq _ f Ex.refl (cq.set Y)⟩
def Rr (K:H_)(F:Ie):Sp:=λf H Q _ => ∃ J S e d c,Il K H J e f/\IQ K J S H/\F e S=some (.ok d,c)/\∀ b a v,Ex J H b a->IQ K b c a->At K a b d v->Q v a
def Of (P:Program)(w:World)(K:H_)(mg:Ic)(base:Heap)(k:Nat)(f:Addr)(fd:FuncData)(a:List Str)(F:Ie):Prop:=
 J9 P w K mg base M_ k f fd a (Rr K F)
def gU (m:Out D):Out D:=match m with
 |some (.ok d,S)=>some (.ok d,S)
 |_=>none
def aR (F:Ie)(t:H9 (List D)):H9 D:=λc S=>ah (t c S) λb a=>gU (F b a)
variable {x:Str}{p pos:Pos}{e:Expr}{es:List Expr}{gs:H9 (List D)}
theorem Bq {F:Ie}{f:St}{H:Hp}{Q:VK}{n:XK}(h:tE X W (aR F gs) f H Q):Dx (Rr X.K F) [] n (tA X W gs) f H Q:=
 (tG.Kt h).mono λs w Zq=>by
  obtain⟨a,p,b⟩:=Zq
  rw[append_nil,append_nil] at b;obtain⟨J,u,S,r,j,c,m,e,z⟩:=b;have e:gU (F a S)=some (r,j):=e;unfold gU at e;split at e
  ·rename_i d t q;cases e;exact⟨J,S,a,d,_,by rw[append_nil];exact m,c.IW,q,λg i v o k l=>z g i v o k l⟩
  cases e
theorem Ce {k:Nat}{f:Addr}{fd:FuncData}{a:List Str}{F:Ie}(G:Of X.prog X.w X.K X.mg X.base k f fd a F)(b:IS k X.A)(m:X.mg x=some (.ref f))(d:PySem.W.keepIn X.K (.ref f)=true)(n:Binds X.K fd a [])
  (c:SA X W (e::es) gs) (j:Gl X x:=by rfl) (l:(x==("__debug__":Str))=false:=by decide) (g:starEach (e::es) X.env=(false,eval e X.env)::starEach es X.env:=by rfl) (i:(backTo pos (starEach es X.env)).any (·.1)=false:=by rfl) :
  SE X W (.Call (.Name x p) (e::es) [] pos) (aR F gs):=
 PE.imp (CA (E:=E0) G b j m d n .nil xE c l g i) λo H Q h=>Bq h
theorem xX {P:Program}{w:World}{K:H_}{mg:Ic}{base:Heap}{x qual:Str}{st:Stmt}{f:Addr}{fd:FuncData}{N j:List Str}{k:Nat}{F:Ie}(p:ML K x qual st f fd)(S:Ii N j (aq st))
  (len:∀ ds S r,F ds S=some r->ds.length=j.length)
  (u:∀ (b:Value) (A:Around) (outer:List Env) (s:Shared) (H:Hp) (E:XK),IS k (A.deeper (envOfC qual (aq st) s.heap.objs.size f b)) ->
   ∃ G:H9 Fl,Nc (l7 M_ P w K mg base N qual (aq st) f b A outer s H E).Ou W0 (bL st) G /\
    ∀ ds S d a,F ds S=some (.ok d,a)->∃ r,G (ds.map some++replicate (N.length-ds.length) none) S=some (.ok r,a)/\(r = .ret d∨(d = .Jm/\∃ ρ,r = .next ρ))) :
  Of P w K mg base (k+1) f fd j F:=by
 refine p.ok S (λy H Q E h=>?_) (λb A outer s H y Q E o h=>?_)
 ·obtain⟨J,St,ds,d,a,m,_,e,_⟩:=h;rw[← m.length];exact len ds St _ e
 obtain⟨J,St,ds,d,a,m,so,e,z⟩:=h;obtain⟨G,M,R⟩:=u b A outer s H E o;obtain⟨r,C,D⟩:=R ds St d a e;refine⟨_,M,J,_,St,.ok r,a,⟨?_,λi T hd=>?_,so⟩,C,?_⟩
 ·unfold start;rw[List.length_append,List.length_append,length_map,length_map,m.length];simp
 ·by_cases l:i<ds.length
  ·rw[getElem?_append_left (by simpa using l),getElem?_map] at hd;cases q:ds[i]? with
   |none=>rw[q] at hd;cases hd
   |some U =>
    rw[q] at hd;cases hd;obtain⟨v,ev,O⟩:=m.get q;refine⟨v,?_,O⟩;unfold start;rw[getElem?_append_left (by rw[length_map,← m.length];exact l),getElem?_map,ev];rfl
  rw[getElem?_append_right (by simpa using l),List.getElem?_replicate] at hd;split at hd<;>cases hd
 rcases D with rfl |⟨rfl,ρ,rfl⟩
 ·exact λc g v n L t=>z c g v n L t
 exact λc I g n B=>z c g _ n B.IW (At.Kl.mpr rfl)
end
section
variable {X:Cx}{W:WT}
def TX (x:Str):It:=⟨λi _=>i<x.cps.size,λi H v a=>a=H/\∃ c,x.cps[i]?=some c/\v = .str ⟨#[c]⟩,λi _=>x.cps.size<=i⟩
theorem tX {P:Program}{w:World}{K:H_}{T:Expr}{it:Addr}{x:Str}{St:Nat->Heap->Prop}
  (S:∀ (A:Around) (i:Nat) (s:Shared) (Q:Ia) (E:Ia),St i s.heap->Q (.ref it) s->wpAny (model P w) A (pyIter (.ref it)) Q E s) (p:∀ J:Around,J.handled=none->Walks P w J it [it] [it] x.cps.size (SignAt x) St) (G:∀ i h,St i h->∃ o n vs,h.get? it=some o/\o.cls = .type n/\o.data = .fields vs/\["enumerate","zip","dict_itemiterator","dict_reverseitemiterator","odict_iterator","itertools.zip_longest","itertools.pairwise"].contains n=false) :
  Turn P w K T (TX x) [it] it (λi h=>i<=x.cps.size/\St i h) where
 mem:=by simp
 obj:=λi h st b a=>by
  have e:b=it:=by simpa using a
  subst e;obtain⟨o,n,vs,e,_,d,_⟩:=G i h st.2;exact⟨o,e,λv z=>by rw[d] at z;cases z⟩
 keep:=λi h g st k=>⟨st.1,(p callerA rfl).frame i h g st.2 λb a o e=>k b a o e⟩
 item:=by
  intro X y F B C i f s M H E I j st l;subst y F B;obtain⟨t,r,O,q,m,D⟩:=j it (by simp);refine(p X.A (I.ok.hd C)).item i s _ _ l st.2 λv g tk U L k=>?_;obtain⟨c,u,R,ev⟩:=U;subst ev;have N:Inv X f M H { s with heap:=g,toks:=tk }:=I.turned (t':=tk) (λb o a e=>k b o (by simpa using a) e) t r q m D;obtain⟨o,n,vs,e,W,d,V⟩:=G _ _ L;exact⟨_,rfl,xU (s:={ s with heap:=g,toks:=tk }) e W d V ⟨.str ⟨#[c]⟩,H,N,⟨u,rfl⟩,⟨rfl,c,R,rfl⟩,⟨l,L⟩,λb a=>(j b a).1⟩⟩
 done:=by
  intro X y F B C i f s M H E I j st l;subst y F B;obtain⟨t,r,O,q,m,D⟩:=j it (by simp);have Y:i=x.cps.size:=Nat.le_antisymm st.1 l;subst Y;exact(p X.A (I.ok.hd C)).done s _ _ st.2 λg tk k=>⟨rfl,I.turned (t':=tk) (λb o a e=>k b o (by simpa using a) e) t r q m D⟩
 self:=λA i s Q E st h=>S A i s Q E st.2 h
theorem Walk.str {x:Str}{J:List Addr}{H:Hp}(ok:P4 x):Walk X (TX x) (x.cps.toList.map λc=>D.str ⟨#[c]⟩) J H where
 len:=by rw[length_map,length_toList];exact ok.1
 go:=λb d i _ a=>by rw[length_map,length_toList] at a;exact a
 Nw:=λb d i v g _ j a y=>by
  obtain⟨rfl,c,f,rfl⟩:=y;rw[length_map,length_toList] at a;have e:x.cps.toList[i]?=some c:=by simpa using f
  refine⟨.str ⟨#[c]⟩,by rw[getElem?_map,e];rfl,At.Iy.mpr ⟨rfl,by show 1<=sizeLine;decide,kM (l:=[c]) λh m=>?_⟩,Iz.refl _⟩;rw[mem_singleton.mp m];exact jp ok.2 (mem_of_getElem? e)
 stop:=λb d i _ a=>by rw[length_map,length_toList] at a;exact a
def DZ:D->Option (List D)
 | .str x=>some (x.cps.toList.map λc=>D.str ⟨#[c]⟩)
 |_=>none
def BB (f:H9 D):H9 (List D):=λb S=>ah (f b S) λd a=>aP (DZ d) a
variable {e:Expr}{fe:H9 D}{pos:Pos}
theorem D2 {w:Expr}(u:SE X W e fe):SI X W w e (BB fe):=by
 intro c s D H R I h;refine IE (u c s D H _ I (sh h)) λv a Zq=>?_;obtain⟨y,f,g,r,J,S,d,F,so,m,n,z⟩:=Zq;cases d with
 |str x =>
  cases n;obtain⟨B,ok⟩:=At.Iy.mp m;subst B;obtain⟨t,rfl⟩:=r
  have fp:∀ b∈[a.heap.objs.size],jh X c f b:=λb C=>by
   have e:b=a.heap.objs.size:=by simpa using C
   subst e;exact g.LA (le_refl _) g.fresh
  cases ha:x.cps.all (·<128)
  ·refine wpAny_pyIter_wide ha ?_;refine⟨a.heap.objs.size,[a.heap.objs.size],_,TX x,f,rfl,g.kept (t':=a.toks) λb o e=>Heap.get?_push_of_some _ e,tX (St:=λi h=>h.IsStrIter a.heap.objs.size "str_iterator" x t i) (λA i s Q E st q=>wpAny_pyIter_striter_wide st q) (λp k=>Walks.strWide k _ x t) (λi h st=>?_),⟨zero_le _,_,Heap.get?_push_size _ rfl,rfl,rfl⟩,fp,z f _ (Iz.refl _) (Walk.str ok)⟩;obtain⟨o,j,l,hd⟩:=st;exact⟨o,_,_,j,l,hd,by decide⟩
  refine wpAny_pyIter_ascii ha ?_;refine⟨a.heap.objs.size,[a.heap.objs.size],_,TX x,f,rfl,g.kept (t':=a.toks) λb o e=>Heap.get?_push_of_some _ e,tX (St:=λi h=>h.IsStrIter a.heap.objs.size "str_ascii_iterator" x t i) (λA i s Q E st q=>wpAny_pyIter_striter_ascii st q) (λp k=>Walks.strAscii k _ x t) (λi h st=>?_),⟨zero_le _,_,Heap.get?_push_size _ rfl,rfl,rfl⟩,fp,z f _ (Iz.refl _) (Walk.str ok)⟩;obtain⟨o,j,l,hd⟩:=st;exact⟨o,_,_,j,l,hd,by decide⟩
 |_=>cases n
theorem kZ {prog:Program}{w:World}{A:Around}{E:Ia}{s:Shared}{it l:Addr}{i:Nat}{items}{x:Value}{Q:Ia}(a:s.heap.IsTupleIter it l i)
  (d:s.heap.IsTuple l items) (e:items[i]?=some x)
  (f:∀ h',h'.IsTupleIter it l (i+1)->Heap.SameBut it s.heap h'->Q x { s with heap:=h' }) :
  wpAny (model prog w) A (Builtin.SmallTypes.nextOf (.ref it)) Q E s:=by
 obtain⟨o,b,h,hd⟩:=id a;obtain⟨j,c,_,k,g⟩:=d;unfold Builtin.SmallTypes.nextOf
 refine wpAny_bind (wpAny_callSpecial?_slot (name:=Str.ofString "__next__") a.typeIs F.slot_tuple_iterator_next
  (wpAny_call_entry F.slot_tuple_iterator_next a.typeIs F.entry_tuple_iterator_next ?_ (F.args_tuple_iterator_next_1 _)))
 show wpAny _ _ (field (.ref it) 0 >>= _) _ _ s;refine wpAny_bind (wpAny_field b hd (x:=.ref l) rfl ?_);show wpAny _ _ (if (Value.ref l==Value.none)=true then _ else _) _ _ s;rw[if_neg (show ¬ ((Value.ref l==Value.none)=true) from Bool.false_ne_true)];show wpAny _ _ (field (.ref it) 1 >>= _) _ _ s;refine wpAny_bind (wpAny_field b hd (x:=.int i 0) rfl ?_);show wpAny _ _ (seqItems? (.ref l) >>= _) _ _ s;refine wpAny_bind (wpAny_seqItems c g ?_);simp only[Int.toNat_natCast,e];refine wpAny_bind (wpAny_setField b hd (by simp) (wpAny_pure ⟨x,rfl,wpAny_pure (f _ ?_ (Heap.SameBut.update ..))⟩))
 exact⟨_,Heap.get?_update_self _ b (Obj.isFreed_of_fields (Obj.data_mapFields hd _)),(Obj.cls_mapFields ..).trans h,by
  rw[Obj.data_mapFields hd];simp[rawInt]⟩
theorem gW {prog:Program}{w:World}{A:Around}{E:Ia}{s:Shared}{it l:Addr}{i:Nat}{items}{Q:Ia}(d:A.handled=none)
  (b:s.heap.IsTupleIter it l i) (g:s.heap.IsTuple l items) (h:items[i]?=none)
  (k:∀ h' e,Heap.ExtBut it s.heap h'->(∃ o,h'.get? e=some o/\o.cls = .type "StopIteration")->E (.ref e) { s with heap:=h' }) :
  wpAny (model prog w) A (Builtin.SmallTypes.nextOf (.ref it)) Q E s:=by
 obtain⟨o,c,q,hd⟩:=id b;obtain⟨n,f,_,p,j⟩:=g;unfold Builtin.SmallTypes.nextOf
 refine wpAny_bind (wpAny_callSpecial?_slot (name:=Str.ofString "__next__") b.typeIs F.slot_tuple_iterator_next
  (wpAny_call_entry F.slot_tuple_iterator_next b.typeIs F.entry_tuple_iterator_next ?_ (F.args_tuple_iterator_next_1 _)))
 show wpAny _ _ (field (.ref it) 0 >>= _) _ _ s;refine wpAny_bind (wpAny_field c hd (x:=.ref l) rfl ?_);show wpAny _ _ (if (Value.ref l==Value.none)=true then _ else _) _ _ s;rw[if_neg (show ¬ ((Value.ref l==Value.none)=true) from Bool.false_ne_true)];show wpAny _ _ (field (.ref it) 1 >>= _) _ _ s;refine wpAny_bind (wpAny_field c hd (x:=.int i 0) rfl ?_);show wpAny _ _ (seqItems? (.ref l) >>= _) _ _ s;refine wpAny_bind (wpAny_seqItems f j ?_);simp only[Int.toNat_natCast,h];refine wpAny_bind (wpAny_rule (wpAny_bind (wpAny_setField c hd (by simp) ?_)));show wpAny _ _ (newExc (.type "StopIteration") [] >>= _) _ _ _;refine wpAny_bind ?_;simp only[newExc,newTuple];refine wpAny_bind (wpAny_newObj_type ?_ (by size_fits));refine wpAny_bind (m:=firstArgMember _ _) (wpAny_of_eq (a:=Value.none) (by first |rfl |(simp only[firstArgMember];rfl)) ?_);refine wpAny_newObj_type ?_ (by size_fits);simp only[raiseNew];refine wpAny_bind (wpAny_handled ?_)
 first |rw[show A.in1.handled=none from d] |rw[d]
 refine wpAny_bind (wpAny_pure (wpAny_throw ?_));exact k _ _ (((Heap.SameBut.update ..).extBut.push _).push _) ⟨_,Heap.get?_push_size _ rfl,rfl⟩
theorem Draws.tup {prog:Program}{w:World}{A:Around}(k:A.handled=none)(it l:Addr)(e:l≠it)(items:Array Value) :
  Draws prog w A it [it,l] items.size (λi v=>items[i]?=some v) (λi h=>h.IsTupleIter it l i/\h.IsTuple l items) where
 live:=λ_ _ st=>let ⟨o,a,_⟩:=st.1;⟨o,a⟩
 frame:=λ_ _ _ st b=>⟨let ⟨o,a,r⟩:=st.1;⟨o,b it (by simp) o a,r⟩,let ⟨o,a,r⟩:=st.2;⟨o,b l (by simp) o a,r⟩⟩
 item:=λi s Q E c st f=>by
  refine kZ st.1 st.2 (x:=items[i]) (by simp[c]) λg m d=>?_;exact f _ g s.toks (by simp[c]) ⟨m,st.2.extBut d.extBut e⟩ d
 done:=λs Q E st j=>gW k st.1 st.2 (by simp) j
theorem oH (l:Addr)(items:Array Value)(n:Nat)(i:Option Addr)(e:Array (Option Value)) :
  Meets (Builtin.«enumerate.__new__» ⟨[.type "enumerate",.ref l],[]⟩) (λ_ R s=>s.heap.get? l=some { cls:=.type "tuple",dict:=i,data:=.seq items n,slots:=e } /\
   R (.ok (.ret (.ref (s.heap.push { cls:=.type "tuple_iterator",data:=.fields #[.ref l,.int 0 0] }).objs.size)))
    { s with heap:=(s.heap.push { cls:=.type "tuple_iterator",data:=.fields #[.ref l,.int 0 0] }).push { cls:=.type "enumerate",data:=.fields #[.none,.bool false,.ref s.heap.objs.size,rawInt 0,.none,.none] } }):=
 .of_wp λprog w A R s h=>by
  obtain⟨f,g,d,tk,os⟩:=s;obtain⟨a,h⟩:=h;have j:=sub_enumerate;have b:Heap.IsTuple (Shared.heap ⟨f,g,d,tk,os⟩) l items:=⟨_,a,rfl,n,rfl⟩
  wp_walk using AutoSeq1.wpAny_loadPart' a
  refine wpAny_stack_any λst=>wpAny_pure ?_;split
  ·rename_i c _ _ _ _ _;cases (c==Value.type "enumerate")
   ·wp_walk using AutoSeq1.wpAny_loadPart' a,wpAny_pyIter_tuple b
    exact⟨_,rfl,h⟩
   wp_walk using AutoSeq1.wpAny_loadPart' a,wpAny_pyIter_tuple b
   exact⟨_,rfl,h⟩
  wp_walk using AutoSeq1.wpAny_loadPart' a,wpAny_pyIter_tuple b
  exact⟨_,rfl,h⟩
theorem pO {prog:Program}{w:World}{A:Around}{E:Ia}{s:Shared}{l:Addr}{items:Array Value}{Q:Ia}(j:IsTup s.heap l items)
  (h:∀ h',IsEnum h' (s.heap.objs.size+1) s.heap.objs.size 0 .none->h'.IsTupleIter s.heap.objs.size l 0->h'.objs.size=s.heap.objs.size+2 ->
   (∀ b o,s.heap.get? b=some o->h'.get? b=some o)->Q (.ref (s.heap.objs.size+1)) { s with heap:=h' }) :
  wpAny (model prog w) A (call (.type "enumerate") [.ref l]) Q E s:=by
 obtain⟨⟨c,k,g,i⟩,f,a,n,hd⟩:=j
 replace a:c = .type "tuple":=a
 replace hd:g = .seq items n:=hd
 subst a hd
 refine callType_new F.called_enumerate (by decide) (F.typeCall_enumerate_1 _) (F.newCall_enumerate_1 _) (λobj=>F.args_object_init_2 obj _) F.entry_enumerate_new
  (oH l items n k i) ⟨f,?_⟩
 have d:(s.heap.push { cls:=.type "tuple_iterator",data:=.fields #[.ref l,.int 0 0] }).objs.size=s.heap.objs.size+1:=Heap.size_push ..;show _/\_;rw[d]
 have e:IsEnum ((s.heap.push { cls:=.type "tuple_iterator",data:=.fields #[.ref l,.int 0 0] }).push
   { cls:=.type "enumerate",data:=.fields #[.none,.bool false,.ref s.heap.objs.size,rawInt 0,.none,.none] }) (s.heap.objs.size+1) s.heap.objs.size 0 .none:=by
  have:=Heap.get?_push_size (s.heap.push { cls:=.type "tuple_iterator",data:=.fields #[.ref l,.int 0 0] })
   (o:={ cls:=.type "enumerate",data:=.fields #[.none,.bool false,.ref s.heap.objs.size,rawInt 0,.none,.none] }) rfl
  rw[d] at this;exact this
 refine⟨⟨_,e,rfl⟩,h _ e ⟨_,Heap.get?_push_of_some _ (Heap.get?_push_size _ rfl),rfl,rfl⟩ (by rw[Heap.size_push,d]) λb o x=>Heap.get?_push_of_some _ (Heap.get?_push_of_some _ x)⟩
theorem jK {prog:Program}{w:World}{A:Around}{E:Ia}{s:Shared}{e it l:Addr}{i:Nat}{items:Array Value}{old:Value}{Q:Option Value->Shared->Prop}(n:A.handled=none)
  (c:IsEnum s.heap e it i old) (a:s.heap.IsTupleIter it l i) (f:s.heap.IsTuple l items) (g:items[i]?=none)
  (h:∀ h',Heap.ExtBut it s.heap h'->Q none { s with heap:=h' }):wpAny (model prog w) A (pyNext (.ref e)) Q E s:=by
 have d:s.TypeIs (.ref e) "enumerate":=⟨_,c,rfl⟩;unfold pyNext
 refine wpAny_bind (wpAny_attempt (wpAny_callSpecial?_slot (name:=Str.ofString "__next__") d F.slot_enumerate_next
  (wpAny_call_entry F.slot_enumerate_next d F.entry_enumerate_next ?_ (F.args_enumerate_next_1 _))))
 show wpAny _ _ (field (.ref e) 2 >>= _) _ _ _;refine wpAny_bind (wpAny_field c rfl (x:=.ref it) rfl ?_);refine wpAny_bind (gW n a f g λh' x m k=>?_);obtain⟨o,j,p⟩:=k;refine wpAny_bind (wpAny_isInstance (T:="StopIteration") (b:=true) ⟨o,j,p⟩ isSubtype_stop ?_);exact wpAny_pure (h _ m)
def UW (K:H_)(a:Addr):It:=
 ⟨λi H => ∃ b x,LW K H a b/\b[i]?=some x,λi H x c => ∃ p y,H p=none/\x = .ref p/\c=upd H p (.tup [.int i,y])/\∀ b,LW K H a b->b[i]?=some y,λi H => ∃ b,LW K H a b/\b.length<=i⟩
theorem yv {P:Program}{w:World}{K:H_}{es:List Expr}{k:Nat}{pt:Pos}(a e it:Addr)(N:e≠it)(UX:a≠e)(UY:a≠it):Turn P w K (.Tuple es k pt) (UW K a) [e,it] e (λi h=>(∃ old,IsEnum h e it i old)/\h.IsTupleIter it a i) where
 mem:=by simp
 obj:=λi h st b hb=>by
  obtain⟨⟨old,d⟩,o,l,D,hd⟩:=st;rcases mem_cons.mp hb with rfl |hb
  ·exact⟨_,d,λv z=>by cases z⟩
  have:b=it:=by simpa using hb
  subst this;exact⟨o,l,λv z=>by rw[hd] at z;cases z⟩
 keep:=λi h h' st kp=>by
  obtain⟨⟨old,d⟩,o,l,r⟩:=st;exact⟨⟨old,kp e (by simp) _ d⟩,o,kp it (by simp) o l,r⟩
 item:=by
  intro X n R Y D i j s σ H E I C st V;subst n R Y;obtain⟨B,x,F,M⟩:=V;obtain⟨its,S,p,hz⟩:=I.tuple F;obtain⟨u,Z,ru⟩:=S.get M;obtain⟨⟨old,d⟩,f⟩:=st;have JU:i<its.toArray.size:=by rw[size_toArray];exact(List.getElem?_eq_some_iff.mp Z).1
  refine wpAny_pyNext_enum_itemD (Draws.tup (A:=X.A.in1) (I.ok.hd D) it a UY its.toArray) d ⟨f,p⟩ JU N (by simp[N,Ne.symm UX]) λy h' tk n l Rt hT hsz hk=>?_
  have ey:y=u:=by
   have:its.toArray[i]?=some u:=by simpa using Z
   rw[this] at n;exact(Option.some.inj n).symm
  subst ey;refine⟨_,rfl,wpAny_letOwnedTupleGo_enum (s:={ s with heap:=h',toks:=tk+1 }) l λG Px T=>?_⟩;have hn:H s.heap.objs.size=none:=I.fresh;obtain⟨W,Sd,Yf,UZ,U0,U1⟩:=C e (by simp);obtain⟨t,J,U2,O,L,U⟩:=C it (by simp);have kp:∀ b o,b≠e->b≠it->s.heap.get? b=some o->G.get? b=some o:=λb o h1 OC g=>(T.2 b h1).trans (hk b o h1 OC g);have Se:s.heap.objs.size≠e:=ne_of_gt (Heap.lt_size d);have NV:G.get? s.heap.objs.size=some { cls:=.type "tuple",data:=.seq #[.int i tk,y] }:=(T.2 _ Se).trans hT;have ne:∀ b o,H b=some o->b≠s.heap.objs.size:=λb o q=>aO q hn
  have I1:Inv X j σ (upd H s.heap.objs.size (.tup [.int i,x])) { s with heap:=G,toks:=tk+1 }:=by
   refine I.step (h':=G) (g':=s.gens) (d':=s.drawn) (t':=tk+1) (ch:=[e,it]) (λb hb=>?_) (λb o _ _ hb g _=>kp b o (λz=>hb (by simp[z])) (λz=>hb (by simp[z])) g) (λb o _ _ hb g _=>⟨o.slots,kp b o (λz=>hb (by simp[z])) (λz=>hb (by simp[z])) g⟩)
    (λb o hb g n'=>by rw[aF (ne_of_lt (Heap.lt_size g))];exact n') (λb o hb g=>⟨o,kp b o (λz=>hb (by simp[z])) (λz=>hb (by simp[z])) g⟩)
    (λb B q=>by rw[aF (ne b _ q)];exact q) (λb o B q=>by rw[aF (ne b _ q)];exact q) (λb ps q=>⟨#[],by rw[aF (ne b _ q),q];simp⟩)
    (λm hm=>?_) (λb o q=>?_) I.bare
   ·rcases mem_cons.mp hb with rfl |hb
    ·exact⟨UZ,Sd,U0,U1⟩
    have:b=it:=by simpa using hb
    subst this;exact⟨O,J,L,U⟩
   ·obtain⟨o,es,ep,l,r⟩:=hm;exact⟨o,es,ep,kp _ o (Ne.symm Sd) (Ne.symm J) l,r⟩
   by_cases hb:b=s.heap.objs.size
   ·subst hb;rw[Iv] at q;cases q;exact⟨by show 2<=sizeLine;decide,[.int i tk,y],.cons ⟨tk,rfl⟩ (.cons ru .nil),_,NV⟩
   rw[aF hb] at q;refine(I.IL b o q).Lx (λc v ME z=>kp c v ?_ ?_ z) (λc z=>by rw[aF (ne c _ z)];exact z) λc B z=>by rw[aF (ne c _ z)];exact z
   ·rcases ME with z' |z'
    ·rw[z'];exact aO q W
    exact aO z' W
   rcases ME with z' |z'
   ·rw[z'];exact aO q t
   exact aO z' t
  refine⟨.ref s.heap.objs.size,_,I1,rfl,⟨_,x,hn,rfl,rfl,λys hy=>by rw[I.K4 hy F];exact M⟩,⟨⟨y,Px⟩,Rt.1.extBut T.extBut (Ne.symm N)⟩,λb hb=>?_⟩;rcases mem_cons.mp hb with rfl |hb
  ·rw[aF (Ne.symm Se)];exact W
  have:b=it:=by simpa using hb
  subst this;obtain⟨o,Mr,_⟩:=f;rw[aF (ne_of_lt (Heap.lt_size Mr))];exact t
 done:=by
  intro X n R Y D i j s σ H E I C st V;subst n R Y;obtain⟨B,F,M⟩:=V;obtain⟨its,S,p,hz⟩:=I.tuple F;obtain⟨⟨old,d⟩,f⟩:=st;obtain⟨t,J,U2,O,L,U⟩:=C it (by simp);have hl:=S.length;exact jK (I.ok.hd D) d f p (by simp;omega) λh' eb=>⟨rfl,I.turned (t':=s.toks) (λb o hb e=>eb b o hb e) t J O L U⟩
 self:=by
  intro A i s Q E st h;obtain⟨⟨old,d⟩,_⟩:=st;exact wpAny_pyIter_enum d h
def cP (i:Nat):List D->List D
 |[]=>[]
 |d::ds => .tup [.int i,d]::cP (i+1) ds
theorem bN:∀ (ds:List D) (i:Nat),(cP i ds).length=ds.length
 |[],_=>rfl
 |d::ds,i=>by rw[cP,length_cons,length_cons,bN ds]
theorem fw:∀ (ds:List D) (i j:Nat),(cP i ds)[j]?=(ds[j]?).map λd=>D.tup [.int (i+j:Nat),d]
 |[],_,_=>by simp[cP]
 |d::ds,i,0=>by simp[cP]
 |d::ds,i,j+1=>by
  rw[cP,getElem?_cons_succ,fw ds (i+1) j,getElem?_cons_succ,show i+1+j=i+(j+1) by omega]
theorem Walk.enum {a:Addr}{ds:List D}{xs:List V}{J:List Addr}{H:Hp}(t:TQ X.K H J a xs)(m:Il X.K H J ds xs):Walk X (UW X.K a) (cP 0 ds) J H where
 len:=by rw[bN,m.length];exact t.len
 go:=λf g i x b=>by
  rw[bN] at b;have m1:=m.ex x;obtain⟨v,h,_⟩:=m1.get (List.getElem?_eq_getElem b);exact⟨xs,v,(t.ex x).sq,h⟩
 Nw:=λf g i v l x j b y=>by
  obtain⟨p,y,c,rfl,rfl,k⟩:=y;obtain⟨d,e,a⟩:=(m.ex x).get' (k xs (t.ex x).sq);refine⟨.tup [.int i,d],by rw[fw,e];simp,At.Kd (.cons (At.Ij.mpr rfl) (.cons a .nil)) c j (by show 2<=sizeLine;decide),aQ c _⟩
 stop:=λf g i x b=>by
  rw[bN] at b;exact⟨xs,(t.ex x).sq,by rw[← m.length];exact b⟩
def o7:List D->Option (List D)
 |[.tup xs]=>some (cP 0 xs)
 |_=>none
theorem rL {es:List Expr}{k:Nat}{pt p:Pos}{a:Expr}{t:H9 (List D)}{x:Str}(A:x="enumerate")(L:X.mg x=none)(w:SA X W [a] t)(G:Gl X x:=by rfl)
  (C:starEach (a::[]) X.env=(false,eval a X.env)::starEach [] X.env:=by rfl) (E:(backTo pos (starEach [] X.env)).any (·.1)=false:=by rfl):SI X W (.Tuple es k pt) (.Call (.Name x p) [a] [] pos) (jg o7 t):=by
 subst A;intro c s o H R I h;refine wpAny_Call_Name_kw (j9 I G L boot_enumerate ?_ (by decide) (by decide));refine callWith_type1 (IE (w pos c s o H _ I (kU h)) λQ d Zq=>?_) C E;obtain⟨T,g,e,B,J,S,V,U,so,m,f,z⟩:=Zq;unfold o7 at f;split at f
 ·rename_i P;cases f;obtain⟨v,r,rfl,N,n⟩:=Il.Ik.mp m;cases Il.Io.mp n;obtain⟨ad,Y,rfl,j,M⟩:=At.IC.mp N;obtain⟨u,rfl,q⟩:=vals1 B;cases q;obtain⟨its,O,pl,Z⟩:=e.tuple j.sq;have i:ad<d.heap.objs.size:=pl.lt;refine pO pl λF l it sz kp=>?_;have y:Inv X c o g { d with heap:=F }:=e.kept (t':=d.toks) kp;refine wpAny_pyIter_enum l ?_;refine⟨d.heap.objs.size+1,[d.heap.objs.size+1,d.heap.objs.size],_,UW X.K ad,g,rfl,y,yv ad _ _ (ne_of_gt (lt_succ_self _)) (ne_of_lt (lt_succ_of_lt i)) (ne_of_lt i),⟨⟨_,l⟩,it⟩,λb hb=>?_,z g _ (Iz.refl _) (Walk.enum j M)⟩;rcases mem_cons.mp hb with rfl |hb
  ·exact e.LA (le_succ _) (e.IL.fresh (le_succ _))
  have:b=d.heap.objs.size:=by simpa using hb
  subst this;exact e.LA (le_refl _) e.fresh
 cases f
end
section
variable {X:Cx}{W:WT}
theorem B7 {prog:Program}{w:World}{A:Around}{E:Ia}{s:Shared}{g:PyProof.Rows.KeyKind}(k : g.OneLt){x:Value}{Q:Ia}
  (h:wpAny (model prog w) A.in1 (collect x) (λvs d=>PyProof.Rows.KeysOf g (pairsOf vs)/\(∀ c a rest,vs=c::a::rest->keyKind' (c::a::rest).toArray=pure oneType')/\vs.length<64 /\
   ∀ (f:SortSt) h' ep,(arrOf f).Perm (pairsOf vs)->SortedToK g (arrOf f) (pairsOf vs).size->(∀ b o,d.heap.get? b=some o->h'.get? b=some o)->h'.get? d.heap.objs.size=some (seqObj "list" ((arrOf f).map (·.2)) ep) ->
    Q (.ref d.heap.objs.size) { d with heap:=h' }) E s):wpAny (model prog w) A (call (.builtin "sorted") [x]) Q E s:=by
 refine Calls.call_function_entry kind_sorted plain_sorted entry_sorted (args_sorted1 _) ?_;unfold Builtin.«sorted»;refine wpAny_bind (m:=checkCount "sorted" 1 1 _) (wpAny_pure ?_);refine wpAny_bind (IE h λvs d Zq=>?_);obtain⟨p,l,n,q⟩:=Zq;refine wpAny_bind (wpAny_newList ?_);have i:(d.heap.push (seqObj "list" vs.toArray 0)).get? d.heap.objs.size=some (seqObj "list" vs.toArray 0):=Heap.get?_push_size _ rfl;refine wpAny_bind (wpAny_holding (wpAny_call_entry slot_list_sort ⟨_,i,rfl⟩ entry_list_sort (list_sort_treeK k i p l n λf r j=>⟨_,rfl,?_⟩) (args_list_sort _)));obtain⟨ep,t⟩:=sortedHeap_at (out:=(arrOf f).map (·.2)) i
 exact wpAny_pure ⟨_,rfl,q f _ ep r j (λb o e=>by
  rw[sortedHeap_old (ne_of_lt (Heap.lt_size e)) (by rw[size_push'];exact lt_succ_of_lt (Heap.lt_size e))]
  exact Heap.get?_push_of_some _ e) t⟩
end
def L1 (a b:Str):Bool:=!LF b a
theorem JV {a b:Str}:L1 a b=true↔a.cps.toList<=b.cps.toList:=by unfold L1 LF;rw[Bool.not_eq_true',decide_eq_false_iff_not,List.not_lt]
theorem g7 (a b c:Str)(h:L1 a b=true)(g:L1 b c=true):L1 a c=true:=JV.mpr (List.le_trans (JV.mp h) (JV.mp g))
theorem jx (a b:Str):(L1 a b ||L1 b a)=true:=by rw[or_eq_true,JV,JV];exact List.le_total _ _
theorem B5 {a b:Str}(h:a.cps.toList=b.cps.toList):a=b:=by cases a;cases b;congr;exact Array.toList_inj.mp h
theorem uQ {a b:Str}(h:L1 a b=true)(g:L1 b a=true):a=b:=B5 (List.le_antisymm (JV.mp h) (JV.mp g))
def fF (l:List Str):List Str:=l.mergeSort L1
theorem kN {l c:List Str}(d:c.Perm l)(e:c.Pairwise λa b=>L1 a b=true):c=fF l:=
 List.Perm.eq_of_pairwise (le:=λa b=>L1 a b=true) (λa b _ _ h g=>uQ h g) e (pairwise_mergeSort g7 jx l) (d.trans (mergeSort_perm l L1).symm)
theorem pairwise_of_rising:∀ (p:Str) (l:List Str),risingS p l=true->(p::l).Pairwise λa b=>L1 a b=true
 |p,[],_=>by simp
 |p,x::r,h=>by
  have c:(!ltCps x.cps.toList p.cps.toList&&risingS x r)=true:=h;rw[and_eq_true] at c;have d:L1 p x=true:=by unfold L1 LF;rw[← ltCps_eq];exact c.1
  have t:=pairwise_of_rising x r c.2;refine pairwise_cons.mpr ⟨λy hy=>?_,t⟩;rcases mem_cons.mp hy with rfl |hy
  ·exact d
  exact g7 _ _ _ d ((pairwise_cons.mp t).1 y hy)
theorem jL {l:List Str}(h:sortedS l=true):l.Pairwise λa b=>L1 a b=true:=by
 cases l with
 |nil=>exact .nil
 |cons x r=>exact pairwise_of_rising x r h
def TY (a b:Int):Bool:=decide (a<=b)
def sortI (l:List Int):List Int:=l.mergeSort TY
theorem rK {l d:List Int}(e:d.Perm l)(f:d.Pairwise (·<=·)):d=sortI l:=by
 refine List.Perm.eq_of_pairwise (le:=λa b=>TY a b=true) (λa b _ _ h g=>?_) (f.imp λh=>decide_eq_true h) (pairwise_mergeSort (λa b c h g=>?_) (λa b=>?_) l) (e.trans (mergeSort_perm l TY).symm)
 ·exact Int.le_antisymm (of_decide_eq_true h) (of_decide_eq_true g)
 ·exact decide_eq_true (Int.le_trans (of_decide_eq_true h) (of_decide_eq_true g))
 unfold TY;rw[or_eq_true,decide_eq_true_eq,decide_eq_true_eq];exact Int.le_total a b
def fD:List D->Option (List Str)
 |[]=>some []
 | .str x::r=>(fD r).map (x::·)
 |_=>none
def ck:List D->Option (List Int)
 |[]=>some []
 | .int x::r=>(ck r).map (x::·)
 |_=>none
theorem jo:∀ ss:List Str,fD (ss.map .str)=some ss
 |[]=>rfl
 |x::r=>by rw[map_cons,fD,jo r];rfl
theorem JC:∀ ss:List Int,ck (ss.map .int)=some ss
 |[]=>rfl
 |x::r=>by rw[map_cons,ck,JC r];rfl
theorem n4:∀ {ds:List D}{ss:List Str},fD ds=some ss->ds=ss.map .str
 |[],ss,e=>by cases e;rfl
 | .str x::r,ss,e=>by
  obtain⟨t,a,b⟩:=map_eq_some_iff.mp (show (fD r).map (x::·)=some ss from e);subst b;rw[n4 a];rfl
 | .Jm::_,_,e=>by cases e
 | .bl _::_,_,e=>by cases e
 | .int _::_,_,e=>by cases e
 | .tup _::_,_,e=>by cases e
 | .lst _::_,_,e=>by cases e
 | .set _::_,_,e=>by cases e
 | .loc _::_,_,e=>by cases e
 | .fn _ _::_,_,e=>by cases e
theorem fN:∀ {ds:List D}{ss:List Int},ck ds=some ss->ds=ss.map .int
 |[],ss,e=>by cases e;rfl
 | .int x::r,ss,e=>by
  obtain⟨t,a,b⟩:=map_eq_some_iff.mp (show (ck r).map (x::·)=some ss from e);subst b;rw[fN a];rfl
 | .Jm::_,_,e=>by cases e
 | .bl _::_,_,e=>by cases e
 | .str _::_,_,e=>by cases e
 | .tup _::_,_,e=>by cases e
 | .lst _::_,_,e=>by cases e
 | .set _::_,_,e=>by cases e
 | .loc _::_,_,e=>by cases e
 | .fn _ _::_,_,e=>by cases e
theorem v5 {a b:List D}(p:a.Perm b):∀ {sb},fD b=some sb->∃ sa,fD a=some sa/\sa.Perm sb:=by
 induction p with
 |nil=>intro sb e;exact⟨sb,e,.refl _⟩
 |cons x p k =>
  intro sb e;cases x with
  |str z =>
   obtain⟨t,d,c⟩:=map_eq_some_iff.mp (show (fD _).map (z::·)=some sb from e);subst c;obtain⟨sa,h,g⟩:=k d;exact⟨z::sa,by rw[fD,h];rfl,.cons z g⟩
  |_=>cases e
 |swap x y l =>
  intro sb e;cases x with
  |str z =>
   cases y with
   |str f =>
    obtain⟨t,d,c⟩:=map_eq_some_iff.mp (show (fD (.str f::l)).map (z::·)=some sb from e);obtain⟨i,h,g⟩:=map_eq_some_iff.mp (show (fD l).map (f::·)=some t from d);subst c g;exact⟨f::z::i,by rw[fD,fD,h];rfl,.swap z f i⟩
   |_=>cases e
  |_=>cases e
 |trans _ _ j m =>
  intro sb e;obtain⟨q,d,o⟩:=m e;obtain⟨sa,c,n⟩:=j d;exact⟨sa,c,n.trans o⟩
theorem wL {a b:List D}(p:a.Perm b):∀ {sb},ck b=some sb->∃ sa,ck a=some sa/\sa.Perm sb:=by
 induction p with
 |nil=>intro sb e;exact⟨sb,e,.refl _⟩
 |cons x p k =>
  intro sb e;cases x with
  |int z =>
   obtain⟨t,d,c⟩:=map_eq_some_iff.mp (show (ck _).map (z::·)=some sb from e);subst c;obtain⟨sa,h,g⟩:=k d;exact⟨z::sa,by rw[ck,h];rfl,.cons z g⟩
  |_=>cases e
 |swap x y l =>
  intro sb e;cases x with
  |int z =>
   cases y with
   |int f =>
    obtain⟨t,d,c⟩:=map_eq_some_iff.mp (show (ck (.int f::l)).map (z::·)=some sb from e);obtain⟨i,h,g⟩:=map_eq_some_iff.mp (show (ck l).map (f::·)=some t from d);subst c g;exact⟨f::z::i,by rw[ck,ck,h];rfl,.swap z f i⟩
   |_=>cases e
  |_=>cases e
 |trans _ _ j m =>
  intro sb e;obtain⟨q,d,o⟩:=m e;obtain⟨sa,c,n⟩:=j d;exact⟨sa,c,n.trans o⟩
section
variable {K:H_}{H:Hp}{J:List Addr}
theorem Il.strs:∀ {ss:List Str}{vs:List V}{us:List Value},Il K H J (ss.map .str) vs->Vals vs us->StrsAre us ss/\vs=ss.map V.str/\∀ x∈ss,P4 x
 |[],vs,us,m,r=>by
  cases Il.Io.mp m;cases r;exact⟨.nil,rfl,by simp⟩
 |x::ss,vs,us,m,r=>by
  obtain⟨v,h,rfl,a,e⟩:=Il.Ik.mp m;obtain⟨ev,ok⟩:=At.Iy.mp a;subst ev;cases r with
  |cons c d =>
   obtain⟨t,rfl⟩:=c;obtain⟨g,f,b⟩:=Il.strs e d;refine⟨.cons x t g,by rw[f];rfl,λy hy=>?_⟩;rcases mem_cons.mp hy with rfl |hy
   ·exact ok
   exact b y hy
theorem Il.ofStrs:∀ {ss:List Str},(∀ x∈ss,P4 x)->Il K H J (ss.map .str) (ss.map V.str)
 |[],_ => .nil
 |x::ss,h => .cons (At.Iy.mpr ⟨rfl,h x (mem_cons_self ..)⟩) (Il.ofStrs λy a=>h y (mem_cons_of_mem _ a))
theorem p7:∀ {us:List Value}{ss:List Str},StrsAre us ss->Vals (ss.map V.str) us
 |_,_,.nil => .nil
 |_,_,.cons x t h => .cons ⟨t,rfl⟩ (p7 h)
end
section
theorem zY {prog:Program}{w:World}{A:Around}{E:Ia}{s:Shared}{x:Value}{Q:Ia}
  (h:wpAny (model prog w) A.in1 (collect x) (λvs a => ∃ ns,IntsAre vs ns/\vs.length<64 /\
   ∀ (out:Array Value) (c:List Int) h' ep,IntsAre out.toList c->c.Perm ns->c.Pairwise (·<=·)->(∀ b o,a.heap.get? b=some o->h'.get? b=some o)->h'.get? a.heap.objs.size=some (seqObj "list" out ep) ->
    Q (.ref a.heap.objs.size) { a with heap:=h' }) E s):wpAny (model prog w) A (call (.builtin "sorted") [x]) Q E s:=by
 refine Calls.call_function_entry kind_sorted plain_sorted entry_sorted (args_sorted1 _) ?_;unfold Builtin.«sorted»;refine wpAny_bind (m:=checkCount "sorted" 1 1 _) (wpAny_pure ?_);refine wpAny_bind (IE h λvs a Zq=>?_);obtain⟨ns,g,i,q⟩:=Zq;refine wpAny_bind (wpAny_newList ?_);have d:(a.heap.push (seqObj "list" vs.toArray 0)).get? a.heap.objs.size=some (seqObj "list" vs.toArray 0):=Heap.get?_push_size _ rfl;refine wpAny_bind (wpAny_holding (wpAny_call_entry slot_list_sort ⟨_,d,rfl⟩ entry_list_sort (list_sort_tree d g i λout c k f j=>⟨_,rfl,?_⟩) (args_list_sort _)));obtain⟨ep,l⟩:=sortedHeap_at (out:=out) d
 exact wpAny_pure ⟨_,rfl,q out c _ ep k f j (λb o e=>by
  rw[sortedHeap_old (ne_of_lt (Heap.lt_size e)) (by rw[size_push'];exact lt_succ_of_lt (Heap.lt_size e))]
  exact Heap.get?_push_of_some _ e) l⟩
end
section
variable {X:Cx}{W:WT}
def c_ (xs:List D):Option (List D):=if xs.length<64 then
  match fD xs with
  |some a=>some ((fF a).map .str)
  |none=>(ck xs).map λns=>(sortI ns).map .int
 else none
theorem jq {c:Ib}{u:St}{H:Hp}{s:Shared}{J:List Addr}{x:Value}{ds:List D}{out:List D}{Q:VK}(hJ:∀ a∈J,H a≠none)(e:c_ ds=some out)(q:∀ H' v,Iz H H'->At X.K H' J (.lst out) v->Q v H')
  (O:∀ (P:List Value->Shared->Prop) (E:Ia),(∀ us vs d r,Inv X c u H d->Vals vs us->r.Perm ds->Il X.K H J r vs->P us d)->wpAny (model X.prog X.w) X.A.in1 (collect x) P E s) :
  wpAny (model X.prog X.w) X.A (call (.builtin "sorted") [x]) (EP X c u Q) X.xe s:=by
 unfold c_ at e;split at e
 ·rename_i p
  have fin:∀ {d:Shared}{i:Heap}{ep:Nat}{us':List Value}{n:List V}(f:Inv X c u H d) (k:∀ b o,d.heap.get? b=some o->i.get? b=some o) (j:i.get? d.heap.objs.size=some (seqObj "list" us'.toArray ep)) (g:Vals n us') (m:Il X.K H J out n) (B:n.length<=sizeLine),
    EP X c u Q (.ref d.heap.objs.size) { d with heap:=i }:=λ{d i ep us' n} f k j g m B =>
   ⟨.ref d.heap.objs.size,_,f.laid (t':=d.toks) (o:=.lst n) k (le_refl _) ⟨B,us',ep,g,j⟩,rfl,q _ _ (aQ f.fresh _) (At.JM m f.fresh hJ B)⟩
  split at e
  ·rename_i t es;cases e;have z:=n4 es;subst z;refine B7 strKind_oneLt (O _ _ λus vs d r f g C m=>?_);have Yh:∃ L,fD r=some L/\L.Perm t:=by exact v5 C (jo t)
   obtain⟨L,G,h⟩:=Yh;have I:=n4 G;subst I;obtain⟨sa,ev,ok⟩:=Il.strs m g;have l:us.length=t.length:=by rw[← g.length,ev,length_map];exact h.length_eq
   refine⟨sa.keysOf,λR N rest e=>keyKind_strs (by rw[← e];exact sa),by rw[length_map] at p;omega,λIm i ep hp hs k j=>?_⟩;obtain⟨so,S,F,Z⟩:=sorted_out_str sa hp hs;have y:so=fF t:=kN (F.trans h) (jL Z);subst y;have Yi:∀ x∈fF t,P4 x:=λx U=>ok x (F.mem_iff.mp U);refine fin (us':=((arrOf Im).map (·.2)).toList) f k (by rw[Array.toArray_toList];exact j) (p7 S) (Il.ofStrs Yi) ?_;rw[length_map,(F.trans h).length_eq];rw[length_map] at p;exact le_of_lt (lt_of_lt_of_le p (by decide))
  obtain⟨ns,es,T⟩:=map_eq_some_iff.mp e;subst T;have z:=fN es;subst z;refine zY (O _ _ λus vs d r f g C m=>?_);obtain⟨W,G,h⟩:=wL C (JC ns);have I:=fN G;subst I;have ev:=Il.K5 m;subst ev;have Y:=intsAre_of g;have l:us.length=ns.length:=by rw[← g.length,length_map];exact h.length_eq
  rw[length_map] at p;refine⟨W,Y,by omega,λout no i ep a1 M a3 k j=>?_⟩;have y:no=sortI ns:=rK (M.trans h) a3;subst y;refine fin (us':=out.toList) f k (by rw[Array.toArray_toList];exact j) (lH a1) (Il.ofInts _) ?_;rw[length_map,(M.trans h).length_eq];exact le_of_lt (lt_of_lt_of_le p (by decide))
 cases e
def zZ:List D->Option D
 |[.tup xs]=>(c_ xs).map .lst
 |[.lst xs]=>(c_ xs).map .lst
 |_=>none
theorem Dk:lw X (.builtin "sorted") zZ:=by
 intro C s N H K L Q I r h;obtain⟨J,M,d,B,m,e,q⟩:=h;unfold zZ at e;split at e
 ·rename_i z;obtain⟨out,l,g⟩:=map_eq_some_iff.mp e;subst g;obtain⟨v,w,rfl,a,n⟩:=Il.Ik.mp m;cases Il.Io.mp n;obtain⟨p,f,rfl,t,x⟩:=At.IC.mp a;obtain⟨u,rfl,c⟩:=vals1 r;cases c;obtain⟨its,b,⟨o,j,y,F,hd⟩,A⟩:=I.tuple t.sq;refine jq B l q λG E i=>wpAny_collect_seq p (.inr rfl) j y hd (λD k=>?_) (by rw[size_toArray,← b.length];exact A);exact i _ f _ z (I.kept (t':=s.toks) k) (by simpa using b) (.refl _) x
 ·rename_i z;obtain⟨out,l,g⟩:=map_eq_some_iff.mp e;subst g;obtain⟨v,w,rfl,a,n⟩:=Il.Ik.mp m;cases Il.Io.mp n;obtain⟨p,f,rfl,t,x⟩:=At.ID.mp a;obtain⟨u,rfl,c⟩:=vals1 r;cases c;obtain⟨its,b,⟨o,F,j,y,_,hd⟩,A⟩:=I.list t.sq;refine jq B l q λG E i=>wpAny_collect_seq p (.inl rfl) j y hd (λD k=>?_) (by rw[size_toArray,← b.length];exact A);exact i _ f _ z (I.kept (t':=s.toks) k) (by simpa using b) (.refl _) x
 cases e
end
def fH (a b:D):Bool:=decide (eY a=eY b)
def putD (kvs:List (D×D))(k v:D):List (D×D):=if (kvs.any λp=>fH p.1 k)=true then kvs.map (λp=>if fH p.1 k=true then (p.1,v) else p) else kvs++[(k,v)]
def getD (kvs:List (D×D))(k:D):Option D:=(kvs.find? λp=>fH p.1 k).map (·.2)
abbrev PB (K:H_)(H:Hp)(J:List Addr):(D×D)->(Key×V)->Prop:=λp q=>(eY p.1=some q.1/\At K H J p.1 (kV q.1))/\At K H J p.2 q.2
section
variable {K:H_}{H H':Hp}{J J':List Addr}
theorem oh {a k:D}{x y:Key}(h:eY a=some x)(g:eY k=some y):fH a k=decide (x=y):=by
 unfold fH;rw[h,g];by_cases e:x=y
 ·subst e;simp
 rw[decide_eq_false e,decide_eq_false (λz=>e (Option.some.inj z))]
theorem Fh {kvs:List (D×D)}{a:List (Key×V)}{k:D}{y:Key}(g:eY k=some y)(r:Paired (PB K H J) kvs a):(kvs.any λp=>fH p.1 k)=a.any λq=>decide (q.1=y):=by
 induction r with
 |nil=>rfl
 |cons h t b=>rw[any_cons,any_cons,b,oh h.1.1 g]
theorem yH {kvs:List (D×D)}{a:List (Key×V)}{k v:D}{y:Key}{w:V}(g:eY k=some y)(c:At K H J v w)(r:Paired (PB K H J) kvs a):Paired (PB K H J) (kvs.map λp=>if fH p.1 k=true then (p.1,v) else p) (a.map λq=>if q.1=y then (q.1,w) else q):=by
 induction r with
 |nil=>exact .nil
 | @cons p q d f h t b =>
  refine .cons ?_ b;show PB K H J (if fH p.1 k=true then (p.1,v) else p) (if q.1=y then (q.1,w) else q);rw[oh h.1.1 g];by_cases e:q.1=y
  ·rw[if_pos (decide_eq_true e),if_pos e];exact⟨h.1,c⟩
  rw[if_neg (by rw[decide_eq_false e];decide),if_neg e];exact h
theorem yJ {k v:D}{y:Key}{w:V}(g:eY k=some y)(d:At K H J k (kV y))(e:At K H J v w){a:List (D×D)}{b:List (Key×V)}(h:Paired (PB K H J) a b):Paired (PB K H J) (a++[(k,v)]) (b++[(y,w)]):=by
 induction h with
 |nil=>exact .cons ⟨⟨g,d⟩,e⟩ .nil
 |cons h t c=>exact .cons h c
theorem Ee {kvs:List (D×D)}{a:List (Key×V)}{k v:D}{y:Key}{w:V}(g:eY k=some y)(c:At K H J k (kV y))(b:At K H J v w)(r:Paired (PB K H J) kvs a):Paired (PB K H J) (putD kvs k v) (putK a y w):=by
 unfold putD putK;rw[Fh g r];split
 ·exact yH g b r
 exact yJ g c b r
theorem Ba {kvs:List (D×D)}{a:List (Key×V)}{k:D}{y:Key}(g:eY k=some y)(r:Paired (PB K H J) kvs a) :
  (getD kvs k=none/\kI a y=none)∨∃ d v,getD kvs k=some d/\kI a y=some v/\At K H J d v:=by
 unfold getD kI
 induction r with
 |nil=>exact .inl ⟨rfl,rfl⟩
 | @cons p q c f h t b =>
  rw[find?_cons,find?_cons,oh h.1.1 g];by_cases e:q.1=y
  ·rw[decide_eq_true e];exact .inr ⟨p.2,q.2,rfl,rfl,h.2⟩
  rw[decide_eq_false e];exact b
theorem j7 {α a:Type}{F : α->a->Prop}{b:List α}{c:List a}(r:Paired F b c):b.length=c.length:=Paired.length r
end
section
variable {X:Cx}{W:WT}{pos pos':Pos}{o i e:Expr}{fo fi fv:H9 D}
def vt:H9 D:=λ_ S=>Ip (.loc S.length) (S++[.dict []])
theorem IQ.push {K:H_}{J:List Addr}{S:Ig}{H:Hp}{p:Addr}{o:HO}{mo:MO}(s:IQ K J S H)(f:H p=none)(k:P5 K (upd H p o) (J++[p]) mo p):IQ K (J++[p]) (S++[mo]) (upd H p o)/\Ex J H (J++[p]) (upd H p o):=by
 have x:Ex J H (J++[p]) (upd H p o):=⟨⟨[p],rfl⟩,λb u e j=>⟨by rw[aF (aO e f)];exact e,λz=>by
  rcases mem_append.mp z with z |z
  ·exact j z
  exact aO e f (by simpa using z)⟩⟩
 refine⟨⟨by rw[List.length_append,List.length_append,s.len];rfl,?_,λl a m c d=>?_⟩,x⟩
 ·rw[nodup_append];refine⟨s.nd,by simp,λa i b e z=>?_⟩;have:b=p:=by simpa using e
  subst this;exact s.tracked i (z▸f)
 by_cases g:l<J.length
 ·rw[getElem?_append_left g] at c;rw[getElem?_append_left (by rw[← s.len];exact g)] at d;have q:=s.at_ l a m c d;refine q.ex x ?_;rw[aF];intro z;exact q.Mw (z▸f)
 rw[getElem?_append_right (by omega)] at c;rw[getElem?_append_right (by rw[← s.len];omega)] at d;have h:l-J.length=0:=by have:=(List.getElem?_eq_some_iff.mp c).1;simp at this;omega
 rw[h] at c;rw[← s.len,h] at d;simp at c d;subst c d;exact k
theorem rP:SE X W (.Dict [] [] pos) vt:=Ox.imp λd H Q h=>by obtain⟨J,f,S,r,b,c,_,e,z⟩:=h;cases e;intro p a;have q:=c.IW.push (o:=.dK []) (mo:=.dict []) a ⟨[],Iv,.nil⟩;refine z (J++[p]) _ _ q.2 q.1 (At.II.mpr ⟨p,rfl,?_⟩);rw[← c.IW.len,getElem?_append_right (le_refl _)];simp
theorem IQ.update {K:H_}{J:List Addr}{S:Ig}{H:Hp}{l:Nat}{a:Addr}{o:HO}{mo:MO}(s:IQ K J S H)(d:J[l]?=some a)(m:∀ f H',Ex J H f H'->H'=upd H a o->f=J->P5 K H' f mo a):IQ K J (S.set l mo) (upd H a o)/\Ex J H J (upd H a o):=by
 have i:a∈J:=mem_of_getElem? d;have x:Ex J H J (upd H a o):=⟨prefix_refl _,λb u p h=>⟨by rw[aF (λz:b=a=>h (by rw[z];exact i))];exact p,h⟩⟩;refine⟨⟨by rw[length_set];exact s.len,s.nd,λj b n c e=>?_⟩,x⟩;by_cases g:j=l
 ·subst g;rw[d] at c;cases c;have k:j<S.length:=by rw[← s.len];exact(List.getElem?_eq_some_iff.mp d).1
  rw[getElem?_set_self k] at e;cases e;exact m J _ x rfl rfl
 rw[getElem?_set_ne (Ne.symm g)] at e;refine(s.at_ j b n c e).ex x ?_;rw[aF];intro z;subst z;exact g ((List.getElem?_inj (List.getElem?_eq_some_iff.mp c).1 s.nd).mp (c.trans d.symm))
def um (x k v:D)(ρ:Ih)(S:Ig):Out Fl:=match x with
 | .loc l=>match S[l]?,eY k with
  |some (.dict kvs),some _=>if kvs.length<sizeLine then Ip (.next ρ) (S.set l (.dict (putD kvs k v))) else none
  |_,_=>none
 |_=>none
def wY (fo fi fv:H9 D):H9 Fl:=λa S=>ah (fv a S) λv b=>ah (fo a b) λx c=>ah (fi a c) λk d=>um x k v a d
def tH (X:Cx)(W:WT)(ds:List D)(vs:List V)(g:H9 Fl):TS:=λE c H => ∃ J b S r a,Cf X J b S c H/\Il X.K H J ds vs/\g b S=some (r,a)/\K6 X W J H r a E
theorem tH.Iw {g:H9 D}{k:D->H9 Fl}{ds:List D}{vs:List V}{E:Ends}{f:St}{H:Hp}
  (h:tH X W ds vs (λρ S=>ah (g ρ S) λd b=>k d ρ b) E f H):tE X W g f H λv i => ∃ d,tH X W (d::ds) (v::vs) (k d) E f i:=by
 obtain⟨J,ρ,S,r,l,c,a,e,z⟩:=h;cases q:g ρ S with
 |none=>simp[q] at e
 |some o =>
  obtain⟨j,b⟩:=o;simp only[q] at e;cases j with
  |error x =>
   cases e;exact⟨J,ρ,S,.error x,_,c,.nil,q,z⟩
  |ok d=>exact⟨J,ρ,S,.ok d,b,c,.nil,q,λn i v x p m=>⟨d,n,ρ,b,r,l,c.re x p,.cons m (a.ex x),e,z.ex x⟩⟩
theorem uU {k:D}{y:Key}{K:H_}{H:Hp}{J:List Addr}{v:V}(g:eY k=some y)(a:At K H J k v):v=kV y:=by
 cases k with
 |int i=>cases g;exact At.Ij.mp a
 |str x=>cases g;exact(At.Iy.mp a).1
 |_=>cases g
theorem v7 (R:X.A.units+1<cLine)(F:SE X W o fo)(hi:SE X W i fi)(u:SE X W e fv)(Q:swapsWith e (some (.Subscript o i pos')) pos.line X.env=pure false:=by rfl):SS X W (.Assign [.Subscript o i pos'] e pos) (wY fo fi fv):=
 (Cn R F hi u Q).imp λE t H h=>by
  have h:tH X W [] [] (wY fo fi fv) E t H:=let ⟨J,n,S,r,g,c,e,z⟩:=h;⟨J,n,S,r,g,c,.nil,e,z⟩;refine(tH.Iw h).mono λv H1 ⟨T,N⟩=>(tH.Iw N).mono λx Y ⟨M,I⟩=>(tH.Iw I).mono λy H3 ⟨O,G⟩=>?_;obtain⟨J,n,S,r,g,c,m,e,z⟩:=G;obtain⟨mk,m⟩:=m.Iq;obtain⟨w,m⟩:=m.Iq;obtain⟨K,_⟩:=m.Iq;unfold um at e;cases M with
  |loc l =>
   simp only at e;split at e
   ·rename_i d U es j;split at e
    ·rename_i lt;cases e;obtain⟨a,rfl,f⟩:=At.II.mp w;obtain⟨D,L,s⟩:=c.IW.at_ l a _ f es;have P:=uU j mk;subst P;have q:=c.IW.update (o:=.dK (putK D U v)) (mo:=.dict (putD d O T)) f λV Z b B C=>by subst B C;refine⟨_,Iv,Ee j (mk.ex b) (K.ex b) ?_⟩;exact Paired.Mo s λp q z=>⟨⟨z.1.1,z.1.2.ex b⟩,z.2.ex b⟩
     exact⟨a,_,rfl,Ow.k L (by rw[← j7 s];exact lt),z J t _ q.2 (c.re q.2 q.1)⟩
    cases e
   cases e
  |_=>cases e
def Df (neg:Bool)(k x:D)(S:Ig):Option D:=match x with
 | .loc l=>match S[l]?,eY k with
  |some (.dict kvs),some _=>some (.bl (if neg then !(getD kvs k).isSome else (getD kvs k).isSome))
  |_,_=>none
 |_=>none
def zD (neg:Bool)(c fd:H9 D):H9 D:=λb S=>ah (c b S) λk d=>ah (fd b d) λx a=>aP (Df neg k x a) a
theorem o8 {neg:Bool}{i:St}{H:Hp}{Q:VK}(h:tE X W (zD neg fi fo) i H Q):tE X W fi i H λy n=>tE X W fo i n λx b => ∃ a o,x = .ref a/\Ln b a y o/\Q (.bl (if neg then !o.isSome else o.isSome)) b:=
 (tG.Iw h).mono λy n ⟨G,B⟩=>(tG.Iw B).mono λx b Zq=>by
  obtain⟨A,u⟩:=Zq
  obtain⟨J,I,S,r,E,c,m,e,z⟩:=u;obtain⟨s,m⟩:=m.Iq;obtain⟨mk,_⟩:=m.Iq;unfold Df at e;cases A with
  |loc l =>
   simp only at e;split at e
   ·rename_i t K es j;cases e;obtain⟨a,rfl,p⟩:=At.II.mp s;obtain⟨F,w,D⟩:=c.IW.at_ l a _ p es;have C:=uU j mk;subst C;refine⟨a,_,rfl,Ln.k w,?_⟩;have q:=z J b _ Ex.refl c.IW (At.IK.mpr rfl);rcases Ba j D with ⟨f,g⟩ |⟨d,v,f,g,_⟩
    ·rw[f] at q;rw[g];exact q
    rw[f] at q;rw[g];exact q
   cases e
  |_=>cases e
theorem D7 (b:X.A.units+1<cLine)(hi:SE X W i fi)(c:SE X W o fo)(a:behindInMarks .In o=false:=by with_unfolding_all rfl):SE X W (.Compare i [.In] [o] pos) (zD false fi fo):=
 (Ew (AC b hi c) a).imp λd H Q h=>o8 (neg:=false) h
theorem DS (b:X.A.units+1<cLine)(hi:SE X W i fi)(c:SE X W o fo)(a:behindInMarks .In o=false:=by with_unfolding_all rfl):Lc X W (.Compare i [.In] [o] pos) (aT (zD false fi fo)):=
 (wo (AC b hi c) a).imp λd H Q h=>JY.mono (t:=Fy (tE X W fi) (tE X W fo)) (λ_ _ _=>o8 (neg:=false)) (fz h)
theorem yw (b:X.A.units+1<cLine)(hi:SE X W i fi)(c:SE X W o fo)(a:behindInMarks .NotIn o=false:=by with_unfolding_all rfl):Lc X W (.Compare i [.NotIn] [o] pos) (aT (zD true fi fo)):=
 (wo (yP b hi c) a).imp λd H Q h=>JY.mono (t:=xo (tE X W fi) (tE X W fo)) (λ_ _ _=>o8 (neg:=true)) (fz h)
def x9 (x k:D)(S:Ig):Option D:=match x with
 | .loc l=>match S[l]?,eY k with
  |some (.dict kvs),some _=>getD kvs k
  |_,_=>none
 |_=>none
def Gk (fd c:H9 D):H9 D:=λb S=>ah (fd b S) λx d=>ah (c b d) λk a=>aP (x9 x k a) a
theorem Cd (G:X.A.units+1<cLine)(s:SE X W o fo)(hi:SE X W i fi)(E:zG i):SE X W (.Subscript o i pos) (Gk fo fi):=(Cy G s hi E).imp λO H Q h =>
 (tG.Iw h).mono λx N ⟨w,B⟩=>(tG.Iw B).mono λy j Zq=>by
  obtain⟨L,t⟩:=Zq
  obtain⟨J,M,S,r,I,c,m,e,z⟩:=t;obtain⟨mk,m⟩:=m.Iq;obtain⟨p,_⟩:=m.Iq;unfold x9 at e;cases w with
  |loc l =>
   simp only at e;split at e
   ·rename_i q P es f;obtain⟨a,rfl,n⟩:=At.II.mp p;obtain⟨K,u,D⟩:=c.IW.at_ l a _ n es;have C:=uU f mk;subst C;rcases Ba f D with ⟨b,g⟩ |⟨d,v,b,g,F⟩
    ·rw[b] at e;cases e
    rw[b] at e;cases e;exact⟨a,v,rfl,by rw[← g];exact Ln.k u,z J j _ Ex.refl c.IW F⟩
   cases e
  |_=>cases e
end
section
variable {X:Cx}{W:WT}
theorem SE.either {e:Expr}{g g1 g2:H9 D}(j:SE X W e g1)(i:SE X W e g2)(h:∀ ρ S,g ρ S=g1 ρ S∨g ρ S=g2 ρ S):SE X W e g:=λb s f H Q I z=>by
 obtain⟨J,ρ,S,r,d,c,a,e,y⟩:=z;rcases h ρ S with q |q
 ·exact j b s f H Q I ⟨J,ρ,S,r,d,c,a,by rw[← q];exact e,y⟩
 exact i b s f H Q I ⟨J,ρ,S,r,d,c,a,by rw[← q];exact e,y⟩
theorem Lc.either {e:Expr}{g g1 g2:H9 Bool}(j:Lc X W e g1)(i:Lc X W e g2)(h:∀ ρ S,g ρ S=g1 ρ S∨g ρ S=g2 ρ S):Lc X W e g:=λb s f H Q I z=>by
 obtain⟨J,ρ,S,r,d,c,a,e,y⟩:=z;rcases h ρ S with q |q
 ·exact j b s f H Q I ⟨J,ρ,S,r,d,c,a,by rw[← q];exact e,y⟩
 exact i b s f H Q I ⟨J,ρ,S,r,d,c,a,by rw[← q];exact e,y⟩
theorem SI.either {b e:Expr}{g g1 g2:H9 (List D)}(j:SI X W b e g1)(i:SI X W b e g2)(h:∀ ρ S,g ρ S=g1 ρ S∨g ρ S=g2 ρ S):SI X W b e g:=λa s f H R I z=>by
 obtain⟨J,ρ,S,r,d,c,e,y⟩:=z;rcases h ρ S with q |q
 ·exact j a s f H R I ⟨J,ρ,S,r,d,c,by rw[← q];exact e,y⟩
 exact i a s f H R I ⟨J,ρ,S,r,d,c,by rw[← q];exact e,y⟩
theorem cH {α e:Type}(m:Out α){k b d : α->Ig->Out e}(h:∀ a S,k a S=b a S∨k a S=d a S):ah m k=ah m b∨ah m k=ah m d:=by
 cases m with
 |none=>exact .inl rfl
 |some o =>
  obtain⟨r,S⟩:=o;cases r with
  |error c=>exact .inl rfl
  |ok a=>exact h a S
def bE:D->Bool
 | .loc _=>true
 |_=>false
def I_ (x i:D)(S:Ig):Option D:=if bE x=true then x9 x i S else O5 x i
def Jg (e d:H9 D):H9 D:=λb S=>ah (e b S) λx c=>ah (d b c) λi a=>aP (I_ x i a) a
variable {a b:Expr}{fa fb:H9 D}{pos:Pos}
theorem aJ (j:X.A.units+1<cLine)(d:SE X W a fa)(f:SE X W b fb)(g:zG b:=by exact λ_ _=>rfl):SE X W (.Subscript a b pos) (Jg fa fb):=
 SE.either (Cd j d f g) (Dz V8 d f g) λe S=>cH _ λx c=>by
  by_cases h:bE x=true
  ·refine .inl (congrArg (ah (fb e c)) (funext λi=>funext λk=>?_));unfold I_;rw[if_pos h]
  refine .inr (congrArg (ah (fb e c)) (funext λi=>funext λk=>?_));unfold I_;rw[if_neg h]
def MP (neg:Bool)(k x:D)(S:Ig):Option D:=if bE x=true then Df neg k x S else (if neg=true then lU k x else inD k x)
def L4 (neg:Bool)(c fd:H9 D):H9 D:=λb S=>ah (c b S) λk d=>ah (fd b d) λx a=>aP (MP neg k x a) a
theorem l0 (neg:Bool)(a fd:H9 D)(ρ:Ih)(S:Ig):L4 neg a fd ρ S=zD neg a fd ρ S∨L4 neg a fd ρ S=aI (if neg=true then lU else inD) a fd ρ S:=by
 unfold L4 zD aI;refine cH _ λk b=>cH _ λx c=>?_;unfold MP;by_cases h:bE x=true
 ·exact .inl (by rw[if_pos h])
 refine .inr ?_;rw[if_neg h];cases neg<;>rfl
variable (hu:X.A.units+150<cLine) (IA:X.A.units+1<cLine)
include hu IA
theorem D6 (g:X.A.units+151<cLine)(d:SE X W a fa)(e:SE X W b fb)(c:behindInMarks .In b=false:=by with_unfolding_all rfl):SE X W (.Compare a [.In] [b] pos) (L4 false fa fb):=
 SE.either (D7 IA d e c) (iZ (DE g) d e c) λf S=>l0 false fa fb f S
theorem nV {f b a:H9 D}{ρ:Ih}{S:Ig}(h:f ρ S=b ρ S∨f ρ S=a ρ S):aT f ρ S=aT b ρ S∨aT f ρ S=aT a ρ S:=by
 unfold aT;rcases h with h |h
 ·exact .inl (by rw[h])
 exact .inr (by rw[h])
theorem rn (g:X.A.units+151<cLine)(d:SE X W a fa)(e:SE X W b fb)(c:behindInMarks .In b=false:=by with_unfolding_all rfl):Lc X W (.Compare a [.In] [b] pos) (aT (L4 false fa fb)):=
 Lc.either (DS IA d e c) (bx (DE g) d e c) λf S=>nV hu IA (l0 false fa fb f S)
theorem ft (g:X.A.units+151<cLine)(d:SE X W a fa)(e:SE X W b fb)(c:behindInMarks .NotIn b=false:=by with_unfolding_all rfl):Lc X W (.Compare a [.NotIn] [b] pos) (aT (L4 true fa fb)):=
 Lc.either (yw IA d e c) (bx (AF g) d e c) λf S=>nV hu IA (l0 true fa fb f S)
omit hu IA
def cw:D->Option (List D)
 | .tup a=>some a
 | .lst a=>some a
 | .str x=>some (x.cps.toList.map λc=>D.str ⟨#[c]⟩)
 |_=>none
def bB (f:H9 D):H9 (List D):=λb S=>ah (f b S) λd a=>aP (cw d) a
theorem cv {h:Expr}(e:SE X W a fa):SI X W h a (bB fa):=by
 refine SI.either (g1:=wX fa) (g2:=λf S=>ah (fa f S) λd b=>aP (match d with | .lst g=>some g | .str x=>some (x.cps.toList.map λc=>D.str ⟨#[c]⟩) |_=>none) b) (D1 e) (SI.either (D3 e) (D2 e) λf S=>?_) λf S=>?_
 ·unfold BE BB;refine cH _ λd b=>?_;cases d<;>first |exact .inl rfl |exact .inr rfl
 unfold bB wX;refine cH _ λd b=>?_;cases d<;>first |exact .inl rfl |exact .inr rfl
end
noncomputable def aZ (n m:Nat) (G:H9 Fl):Ie:=λa S=>if a.length=n then
  match G (a.map some++replicate m none) S with
  |some (.ok (.ret d),S')=>some (.ok d,S')
  |some (.ok (.next _),S')=>some (.ok .Jm,S')
  |_=>none
 else none
def bj (K:H_)(mg:Ic)(x:Str)(st:Stmt)(a:List Str):Prop:=∃ f fd,ML K x x st f fd/\mg x=some (.ref f)/\Binds K fd a []
def Kq (P:Program)(w:World)(K:H_)(mg:Ic)(base:Heap)(k:Nat)(x:Str)(a:List Str)(F:Ie):Prop:=
 ∃ f fd,Of P w K mg base k f fd a F/\mg x=some (.ref f)/\PySem.W.keepIn K (.ref f)=true/\Binds K fd a []
section
variable {P:Program}{w:World}{K:H_}{mg:Ic}{base:Heap}
theorem ki {x:Str}{st:Stmt}{sc:Scope}{N b:List Str}{k:Nat}{G:H9 Fl}{f:Addr}{fd:FuncData}(i:ML K x x st f fd)(l:aq st=sc)(Sc:Ii N b sc)
  (h:∀ (f:Addr) (a:Value) (A:Around) (outer:List Env) (s:Shared) (H:Hp) (E:XK),IS k (A.deeper (envOfC x sc s.heap.objs.size f a))->Nc (l7 M_ P w K mg base N x sc f a A outer s H E).Ou W0 (bL st) G) :
  Of P w K mg base (k+1) f fd b (aZ b.length (N.length-b.length) G):=by
 subst l;refine xX i Sc (λn S r e=>?_) λa A outer s H E g=>⟨G,h f a A outer s H E g,λn S d o e=>?_⟩
 ·unfold aZ at e;split at e
  ·assumption
  cases e
 unfold aZ at e;split at e
 ·rename_i j;rw[j];split at e
  ·rename_i p m q;cases e;exact⟨_,q,.inl rfl⟩
  ·rename_i c m q;cases e;exact⟨_,q,.inr ⟨rfl,c,rfl⟩⟩
  cases e
 cases e
theorem bd {x:Str}{st:Stmt}{sc:Scope}{N a:List Str}{k:Nat}{G:H9 Fl}(g:bj K mg x st a)(d:aq st=sc)(Sc:Ii N a sc)
  (h:∀ (f:Addr) (c:Value) (A:Around) (outer:List Env) (s:Shared) (H:Hp) (E:XK),IS k (A.deeper (envOfC x sc s.heap.objs.size f c))->Nc (l7 M_ P w K mg base N x sc f c A outer s H E).Ou W0 (bL st) G) :
  Kq P w K mg base (k+1) x a (aZ a.length (N.length-a.length) G):=by
 obtain⟨f,fd,b,e,i⟩:=g;exact⟨f,fd,ki b d Sc h,e,b.kp,i⟩
theorem je {x:Str}{st:Stmt}{b:List Str}{k:Nat}(i:bj K mg x st b):Kq P w K mg base k x b (λ_ _=>none):=by
 obtain⟨f,fd,c,g,j⟩:=i;have no:∀ a H Q E,¬ Rr K (λ_ _=>none) a H Q E:=λa H Q E h=>by obtain⟨J,S,n,d,m,_,_,e,_⟩:=h;cases e
 exact⟨f,fd,⟨λa H Q E h=>absurd h (no a H Q E),λA outer s H args l a Q E _ _ _ _ h=>absurd h (no a H Q E)⟩,g,c.kp,j⟩
theorem aW {A:Around}{k:Nat}(a:IS k A):A.units+150<cLine:=by have:=a.un;omega
theorem aV {A:Around}{k:Nat}(a:IS k A):A.units+151<cLine:=by have:=a.un;omega
end
section
variable {X:Cx}{W:WT}{x:Str}{p pos:Pos}{e:Expr}{es:List Expr}{gs:H9 (List D)}
theorem aH {k:Nat}{d:List Str}{F:Ie}(C:Kq X.prog X.w X.K X.mg X.base k x d F)(b:IS k X.A)
  (h:SA X W (e::es) gs) (m:Gl X x:=by rfl) (a:(x==("__debug__":Str))=false:=by decide) (i:starEach (e::es) X.env=(false,eval e X.env)::starEach es X.env:=by rfl) (j:(backTo pos (starEach es X.env)).any (·.1)=false:=by rfl) :
  SE X W (.Call (.Name x p) (e::es) [] pos) (aR F gs):=by
 obtain⟨f,fd,G,c,g,l⟩:=C;exact Ce G b c g l h m a i j
end
def xr (K:H_)(n:Nat):Sp:=λb H Q _ => ∃ (a:Addr) (ns:List Int),b=[.ref a]/\Lw K H a (ns.map V.int)/\ns.length<=n/\∀ c,Q (.bl true) c
theorem EL {P:Program}{w:World}{K:H_}{mg:Ic}{base:Heap}{k n:Nat}{f:Addr}{fd:FuncData}{d:List Str}{F:Ie}(h:Of P w K mg base k f fd d F)(j:n<=1000)
  (r:∀ ns:List Int,ns.length<=n->∃ b,F [.lst (ns.map .int)] []=some (.ok (.bl true),b)):J9 P w K mg base M_ k f fd d (xr K n):=by
 refine J9.imp h λt H Q E Zq=>?_;obtain⟨a,ns,e,p,c,q⟩:=Zq;subst e;obtain⟨b,i⟩:=r ns c;refine⟨[],[],[.lst (ns.map .int)],.bl true,b,.cons (At.ID.mpr ⟨a,ns.map V.int,rfl,?_,Il.ofInts ns⟩) .nil,⟨rfl,.nil,λl a o h=>by simp at h⟩,i,λs g v _ _ m=>?_⟩
 ·rcases p with z |z
  ·exact .inl ⟨z,by simp,by rw[length_map];exact Nat.le_trans c (Nat.le_trans j (by decide))⟩
  exact .inr z
 rw[At.IK.mp m];exact q g
theorem OF {l:PySem.W.OpenLaw}{q:Program}{loose:List Str}{i:(Ic)->Heap->Prop}{c:World->Heap->Prop}{d:DefRec}{K:Params->H_}{k:Nat}{x:Str}(j:l.most=some 63)(o:d.params.defaults=[])(e:IS k callerA)
  (p:∀ (w:World) (h:Heap),c w h->(K w.params).In h)
  (F:∀ (w:World) (mg:Ic) (b:Addr) (h:Heap),(K w.params).In h->h.Ns mainGlobals mg->mg d.name=some (.ref b) ->
   ∃ fd:FuncData,(∀ (s:Shared) (u:Value),BindsTo s fd ⟨[u],[]⟩ [(x,u)])/\∀ base:Heap,(K w.params).In base->base.Ns mainGlobals mg->J9 l.prog w (K w.params) mg base M_ k b fd [x] (xr (K w.params) 63)) :
  PySem.W.WalkO q loose i c l.row.toRowW d [] (λf vs=>PySem.call f vs):=
 L2.Po (n:=63) (k:=k) (x:=x) (CX:=λ_=>M_) (sp:=λw=>xr (K w.params) 63) j (by decide) o e p F (λ_ _ a ns g _ m=>⟨a,ns,rfl,m,g,λ_=>rfl⟩) λ_ _ _ _ _ z=>z
theorem cI:bootBuiltins "len"=some (.builtin "len"):=by decide
theorem bJ:bootBuiltins "tuple"=some (.type "tuple"):=by decide
theorem ti:bootBuiltins "list"=some (.type "list"):=by decide
theorem BK:bootBuiltins "int"=some (.type "int"):=by decide
theorem BH:bootBuiltins "str"=some (.type "str"):=by decide
theorem Dp:bootBuiltins "bool"=some (.type "bool"):=by decide
theorem Fg:bootBuiltins "set"=some (.type "set"):=by decide
theorem BJ:bootBuiltins "min"=some (.builtin "min"):=by decide
theorem jG:bootBuiltins "sorted"=some (.builtin "sorted"):=by decide
theorem BI:bootBuiltins "range"=some (.type "range"):=by decide
end L2
namespace L2
open PySem
section
variable {prog:Program}{w:World}{K:Type} [DecidableEq K]
abbrev vJ (knd:KeyKind prog w K):K->Int×Value->Prop:=λk e=>knd.is k e.2=true/\e.1=knd.hash k/\e.2.scannable=true
def KG (xs:Array Nat):Prop:=xs.toList.Pairwise (· < ·)
theorem KG.lt {xs:Array Nat}(h:KG xs){i j:Nat}(a:i<j)(b:j<xs.size):xs[i]'(Nat.lt_trans a b)<xs[j]:=by have:=pairwise_iff_getElem.mp h i j (by simpa using Nat.lt_trans a b) (by simpa using b) a;simpa using this
theorem pB (xs:Array Nat)(j:Nat):∀ (fuel lo hi:Nat),hi-lo<=fuel->lo<=hi->hi<=xs.size->KG xs->(∀ i (h:i<xs.size),i<lo->xs[i]<j)->(∀ i (h:i<xs.size),hi<=i->j<=xs[i]) ->
  SetTable.below.go xs j fuel lo hi<=xs.size/\(∀ i (h:i<xs.size),i<SetTable.below.go xs j fuel lo hi->xs[i]<j)/\(∀ i (h:i<xs.size),SetTable.below.go xs j fuel lo hi<=i->j<=xs[i])
 | 0,lo,hi,l,k,c,_,b,a=>by
  have e:lo=hi:=by omega
  subst e;unfold SetTable.below.go;exact⟨c,b,a⟩
 |fuel+1,lo,hi,l,k,c,hr,b,a=>by
  unfold SetTable.below.go;by_cases h:lo<hi
  ·rw[if_pos h];have f:(lo+hi) / 2<xs.size:=by omega
   have m:xs.getD ((lo+hi) / 2) j=xs[(lo+hi) / 2]:=by simp[Array.getD,f]
   simp only[m];by_cases d:xs[(lo+hi) / 2]<j
   ·rw[if_pos d];refine pB xs j fuel _ hi (by omega) (by omega) c hr (λi g n=>?_) a;rcases lt_or_ge i ((lo+hi) / 2) with q |q
    ·exact Nat.lt_trans (hr.lt q f) d
    have e:i=(lo+hi) / 2:=by omega
    subst e;exact d
   rw[if_neg d];refine pB xs j fuel lo _ (by omega) (by omega) (by omega) hr b λi g o=>?_;rcases lt_or_ge ((lo+hi) / 2) i with q |q
   ·have:=hr.lt q g;omega
   have e:i=(lo+hi) / 2:=by omega
   subst e;omega
  rw[if_neg h];have e:lo=hi:=by omega
  subst e;exact⟨c,b,a⟩
theorem pA {xs:Array Nat}(a:KG xs)(j:Nat):SetTable.below xs j<=xs.size/\(∀ i (h:i<xs.size),i<SetTable.below xs j->xs[i]<j)/\(∀ i (h:i<xs.size),SetTable.below xs j<=i->j<=xs[i]):=by unfold SetTable.below;exact pB xs j xs.size 0 xs.size (by omega) (by omega) (le_refl _) a (λi _ h=>absurd h (by omega)) λi h q=>absurd h (by omega)
theorem vB {xs:Array Nat}(d:KG xs){j p:Nat}(g:p<=xs.size)(f:∀ i (h:i<xs.size),i<p->xs[i]<j)(e:∀ i (h:i<xs.size),p<=i->j<=xs[i]):SetTable.below xs j=p:=by
 obtain⟨a,b,c⟩:=pA d j;rcases Nat.lt_trichotomy (SetTable.below xs j) p with q |q |q
 ·have x:=c _ (by omega) (le_refl _);have y:=f (SetTable.below xs j) (by omega) q;omega
 ·exact q
 have x:=b p (by omega) q;have y:=e p (by omega) (le_refl _);omega
theorem j6 {t:SetTable}{f:Nat->Int}{h:Int}:∀ (fuel:Nat) (p:SetTable.Probe) {j:Nat}{a:Option Nat},(∀ d,p.dummy=some d->t.slot d = .dummy)->SetTable.probe.go t f h fuel p=some (.empty j a)->t.slot j = .empty/\∀ d,a=some d->t.slot d = .dummy
 | 0,p,j,a,_,e=>by unfold SetTable.probe.go at e;cases e
 |fuel+1,p,j,a,hd,e=>by
  have c:∀ q:SetTable.Probe,(t.advance q).dummy=q.dummy:=λq=>by unfold SetTable.advance;split<;>rfl
  unfold SetTable.probe.go at e;split at e
  ·rename_i b;cases e;exact⟨b,hd⟩
  ·rename_i b;exact j6 fuel _ (by rw[c];intro d q;cases q;exact b) e
  split at e
  ·cases e
  exact j6 fuel _ (by rw[c];exact hd) e
theorem zo {t:SetTable}{h:Int}{j:Nat}{c:Bool}(e:t.freeSlot h=some (j,c)):∀ i,t.slot j≠.live i:=by
 unfold SetTable.freeSlot at e;split at e
 ·rename_i k a q;obtain⟨f,b⟩:=j6 _ _ (by intro d z;cases z) q;cases e;intro i;cases a with
  |none=>rw[show (none:Option Nat).getD k=k from rfl,f];intro z;cases z
  |some d=>rw[show (some d).getD k=d from rfl,b d rfl];intro z;cases z
 cases e
theorem KG.put {t:SetTable}(f:KG t.place){j:Nat}(p:∀ i,t.slot j≠.live i):KG (t.put j).1.place:=by
 obtain⟨a,b,c⟩:=pA f j;have l:t.place[SetTable.below t.place j]?≠some j:=λe=>p (SetTable.below t.place j) (by unfold SetTable.slot;simp[e]);unfold SetTable.put KG SetTable.insertAt;simp only[toList_append,toList_push,toList_extract];have w:(t.place.toList.drop 0).take (SetTable.below t.place j-0)=t.place.toList.take (SetTable.below t.place j):=by simp
 have key:∀ i,SetTable.below t.place j<=i->∀ h:i<t.place.size,j<t.place[i]:=by
  intro i d h;have s:=c i h d;rcases lt_or_ge j t.place[i] with q |q
  ·exact q
  exfalso;have g:SetTable.below t.place j<t.place.size:=by omega
  have v:=c _ g (le_refl _);rcases lt_or_ge (SetTable.below t.place j) i with z |z
  ·have:=f.lt z h;omega
  have e:SetTable.below t.place j=i:=by omega
  refine l ?_;rw[Array.getElem?_eq_getElem g];congr 1;have:t.place[SetTable.below t.place j]=t.place[i]:=by simp only[e]
  omega
 have r:(t.place.toList.drop (SetTable.below t.place j)).take (t.place.size-SetTable.below t.place j)=t.place.toList.drop (SetTable.below t.place j):=take_of_length_le (by simp);simp only[List.extract_eq_drop_take,drop_zero,Nat.sub_zero] at *
 rw[r];rw[List.append_assoc,pairwise_append,List.singleton_append,pairwise_cons];refine⟨f.sublist (List.take_sublist ..),⟨λy hy=>?_,f.sublist (List.drop_sublist ..)⟩,λx m y hy=>?_⟩
 ·obtain⟨i,d,e⟩:=getElem_of_mem hy;rw[List.getElem_drop] at e;have:=key (SetTable.below t.place j+i) (by omega) (by simp at d;omega);rw[getElem_toList] at e;omega
 obtain⟨i,d,e⟩:=getElem_of_mem m;rw[List.getElem_take,getElem_toList] at e;have u:i<SetTable.below t.place j:=by simp at d;omega
 have s:=b i (by omega) u;rcases mem_cons.mp hy with rfl |hy
 ·omega
 obtain⟨k,o,n⟩:=getElem_of_mem hy;rw[List.getElem_drop,getElem_toList] at n;have:=key (SetTable.below t.place j+k) (by omega) (by simp at o;omega);omega
theorem KG.range (n:Nat):KG (Array.range n):=by unfold KG;rw[Array.toList_range];exact List.pairwise_lt_range
theorem KG.orStandIn {t:SetTable}(n:Nat)(h:KG t.place):KG (t.orStandIn n).place:=by
 unfold SetTable.orStandIn;split
 ·exact h
 exact KG.range n
theorem wG {t:SetTable}(es:Array (Int×Value))(h:Int)(x:Value)(a:KG t.place):KG (layNew t es h x).2.1.place:=by
 unfold layNew;split
 ·rename_i slot b e;exact KG.orStandIn _ (a.put (zo e))
 exact KG.range _
theorem wg {t t':SetTable}{f:Array Int}{n:Nat}{order:Array Nat}(h:t.relaid f n=some (t',order)):KG t'.place:=by
 unfold SetTable.relaid SetTable.laid at h;cases e:SetTable.layClean (SetTable.sizeAbove n-1) f with
 |none=>simp[e] at h
 |some o =>
  simp only[e,Option.bind_eq_bind,bind_some,pure_def,Option.some.injEq,Prod.mk.injEq] at h;obtain⟨rfl,_⟩:=h;unfold KG;simp only[List.toList_toArray,pairwise_map];rw[List.pairwise_filterMap];refine List.pairwise_lt_range.imp λ{a b} g c e d hd=>?_;obtain⟨u,_,rfl⟩:=map_eq_some_iff.mp e;obtain⟨v,_,rfl⟩:=map_eq_some_iff.mp hd;exact g
theorem rV {t:SetTable}(es:Array (Int×Value))(n:Nat):KG (relayAll t es n).2.1.place:=by
 unfold relayAll;split
 ·rename_i a order e;dsimp only;split
  ·exact wg e
  exact KG.range _
 exact KG.range _
def Jf (knd:KeyKind prog w K)(pk:K->Bool)(led:Bool)(h:Heap)(a:Addr)(b:List K):Prop:=
 ∃ o es ep t,h.get? a=some o/\o.ExactSet/\o.data = .set es ep t/\(∃ l:List (Int×Value),l.Perm es.toList/\Paired (vJ knd) b l) /\
  es.size<scanBound/\t.fits es.size=true/\t.led=led/\(t.plain=true->∀ k∈b,pk k=true)/\KG t.place
theorem oy {α c:Type}{F : α->c->Prop}{l:List α}{m:List c}(r:Paired F l m):∀ b∈m,∃ a∈l,F a b:=by
 induction r with
 |nil=>intro b hb;cases hb
 |cons f t g =>
  intro b hb;rcases mem_cons.mp hb with rfl |hb
  ·exact⟨_,mem_cons_self ..,f⟩
  obtain⟨a,e,d⟩:=g b hb;exact⟨a,mem_cons_of_mem _ e,d⟩
theorem uv {α c:Type}{F : α->c->Prop}{l:List α}{m:List c}(r:Paired F l m):∀ a∈l,∃ b∈m,F a b:=by
 induction r with
 |nil=>intro b hb;cases hb
 |cons f t g =>
  intro b hb;rcases mem_cons.mp hb with rfl |hb
  ·exact⟨_,mem_cons_self ..,f⟩
  obtain⟨a,e,d⟩:=g b hb;exact⟨a,mem_cons_of_mem _ e,d⟩
theorem uu {α c:Type}{F : α->c->Prop}{l:List α}{m:List c}(r:Paired F l m){a : α}{b : c}(f:F a b):Paired F (l++[a]) (m++[b]):=by
 induction r with
 |nil=>exact .cons f .nil
 |cons g t d=>exact .cons g d
theorem mR {α a:Type}{F : α->a->Prop}{l:List α}{m:List a}(r:Paired F l m):l.length=m.length:=by
 induction r with
 |nil=>rfl
 |cons g t b=>simp[b]
variable {knd:KeyKind prog w K}{pk:K->Bool}{led:Bool}
theorem pL (t:SetTable)(n:Nat):(t.orStandIn n).led=t.led/\((t.orStandIn n).plain=true->t.plain=true):=by
 unfold SetTable.orStandIn;split
 ·exact⟨rfl,id⟩
 exact⟨rfl,λz=>by simp[SetTable.standIn] at z⟩
theorem wH (t:SetTable)(es:Array (Int×Value))(h:Int)(x:Value):(layNew t es h x).2.1.led=t.led/\((layNew t es h x).2.1.plain=true->t.plain=true):=by
 unfold layNew;split
 ·rename_i slot a _;exact pL (t.put slot).1 _
 exact⟨rfl,λz=>by simp[SetTable.standIn] at z⟩
theorem wj {t t':SetTable}{a:Array Int}{n:Nat}{order:Array Nat}(h:t.relaid a n=some (t',order)):t'.led=t.led/\t'.plain=t.plain:=by
 unfold SetTable.relaid SetTable.laid at h;cases hc:SetTable.layClean (SetTable.sizeAbove n-1) a with
 |none=>simp[hc] at h
 |some o =>
  simp only[hc,Option.bind_eq_bind,bind_some,pure_def,Option.some.injEq,Prod.mk.injEq] at h;obtain⟨rfl,_⟩:=h;exact⟨rfl,rfl⟩
theorem rW (t:SetTable)(es:Array (Int×Value))(n:Nat):(relayAll t es n).2.1.led=t.led/\((relayAll t es n).2.1.plain=true->t.plain=true):=by
 unfold relayAll;split
 ·rename_i c order e;obtain⟨b,a⟩:=wj e;dsimp only;split
  ·exact⟨b,λz=>by rw[← a];exact z⟩
  exact⟨rfl,λz=>by simp[SetTable.standIn] at z⟩
 exact⟨rfl,λz=>by simp[SetTable.standIn] at z⟩
theorem Jf.elems {h:Heap}{a:Addr}{d:List K}{es:Array (Int×Value)}(g:∃ l:List (Int×Value),l.Perm es.toList/\Paired (vJ knd) d l):ElemsOf knd es.toList:=λe c=>by obtain⟨l,p,r⟩:=g;obtain⟨k,_,i,f,b⟩:=oy r e (p.mem_iff.mpr c);exact⟨⟨k,i,f⟩,b⟩
theorem Jf.mem {c:List K}{es:Array (Int×Value)}(h:∃ l:List (Int×Value),l.Perm es.toList/\Paired (vJ knd) c l)(k:K):k∈c↔∃ e∈es.toList,knd.is k e.2=true:=by
 obtain⟨l,p,r⟩:=h;constructor
 ·intro f;obtain⟨e,a,b,_⟩:=uv r k f;exact⟨e,p.mem_iff.mp a,b⟩
 rintro⟨e,a,b⟩;obtain⟨d,g,i,_⟩:=oy r e (p.mem_iff.mpr a);rw[knd.inj e.2 k d b i];exact g
def bY (a:List K)(k:K):List K:=if k∈a then a else a++[k]
variable {A:Around}{E:Ia}{s:Shared}
theorem Jf.stored {h:Heap}{a:Addr}{o:Obj}{es:Array (Int×Value)}{ep:Nat}{t:SetTable}(i:h.get? a=some o)(hex:o.ExactSet)(hd:o.data = .set es ep t){b:Array (Int×Value)}{t':SetTable}{c:List K}
  (e:∃ l:List (Int×Value),l.Perm b.toList/\Paired (vJ knd) c l) (n:b.size<scanBound) (j:t'.fits b.size=true) (f:t'.led=led) (m:t'.plain=true->∀ k∈c,pk k=true) (d:KG t'.place) :
  (h.update a (Obj.putSet b t')).get? a=some { o with data:=.set b (ep+1) t' }/\Jf knd pk led (h.update a (Obj.putSet b t')) a c:=by
 have g:(h.update a (Obj.putSet b t')).get? a=some { o with data:=.set b (ep+1) t' }:=by have q:=Heap.get?_update_self (Obj.putSet b t') i (by rw[putSet_of b t' hd];rfl);rw[putSet_of b t' hd] at q;exact q
 exact⟨g,_,b,ep+1,t',g,hex,rfl,e,n,j,f,m,d⟩
theorem oV (b:Bool){a:Shared}{d:Unit->Shared->Prop}(c:d () a):wpAny (model prog w) A (match b with |true=>rule "set.scan.the-table-gave-way" |false=>pure ()) d E a:=by
 cases b
 ·exact wpAny_pure c
 exact wpAny_rule c
theorem xt {g:Bool->Sem Unit}(I:∀ (b:Bool) (d:Shared) (D:Unit->Shared->Prop),D () d->wpAny (model prog w) A (g b) D E d)
  {a:Addr}{o:Obj}{es:Array (Int×Value)}{ep:Nat}{t:SetTable}(x:s.heap.get? a=some o) (hex:o.ExactSet) (hd:o.data = .set es ep t)
  {c:Array (Int×Value)}{t2:SetTable}{m:List K}(q:∃ l:List (Int×Value),l.Perm c.toList/\Paired (vJ knd) m l)
  (n:c.size<scanBound) (H:t2.fits c.size=true) (v:t2.led=led) (F:t2.plain=true->∀ k∈m,pk k=true) (G:KG t2.place) {M:Bool}{R:Option Bool->Shared->Prop}
  (h:∀ h',Heap.SameBut a s.heap h'->Jf knd pk led h' a m->R (some true) { s with heap:=h' }) :
  wpAny (model prog w) A (do
    storeSet a c t2
    if (!M&&t2.tooFull)=true then do
      g (relayAll t2 c (SetTable.grown c.size)).2.2
      storeSet a (relayAll t2 c (SetTable.grown c.size)).1 (relayAll t2 c (SetTable.grown c.size)).2.1
      pure (some true)
     else pure (some true)) R E s:=by
 obtain⟨C,J⟩:=Jf.stored (knd:=knd) (pk:=pk) x hex hd q n H v F G;refine wpAny_bind (wpAny_storeSet_of x hd ?_ (fits_of_scanBound n));have sb:=Heap.SameBut.update s.heap a (Obj.putSet c t2);split
 ·have f:=relayAll_perm t2 c (SetTable.grown c.size);have i:=relayAll_fits t2 c (SetTable.grown c.size);have e:=rW t2 c (SetTable.grown c.size);have j:=rV (t:=t2) c (SetTable.grown c.size);revert f i e j;generalize relayAll t2 c (SetTable.grown c.size)=Y;intro f i e j;obtain⟨B,N,O⟩:=Y;simp only at f i e j ⊢;have z:B.size=c.size:=by have:=f.length_eq;simpa using this
  obtain⟨l,p,r⟩:=q;have u:B.size<scanBound:=by rw[z];exact n
  obtain⟨_,L⟩:=Jf.stored (knd:=knd) (pk:=pk) (led:=led) C hex rfl ⟨l,p.trans f.symm,r⟩ u i (e.1.trans v) (λy=>F (e.2 y)) j;exact wpAny_bind (I _ _ _ (wpAny_bind (wpAny_storeSet_of C rfl (wpAny_pure (h _ (sb.trans (Heap.SameBut.update _ a _)) L)) (fits_of_scanBound u))))
 exact wpAny_pure (h _ sb J)
theorem B_ {a:Addr}{c:List K}{k:K}{x:Value}{Q:Bool->Shared->Prop}(Yj:plainKind x=pk k)(N:knd.is k x=true)(F:x.scannable=true)(hS:Jf knd pk led s.heap a c)(Wq:c.length+1<scanBound)
  (h:∀ b h',Heap.SameBut a s.heap h'->Jf knd pk led h' a (bY c k)->Q b { s with heap:=h' }):wpAny (model prog w) A (setAddHashed a x (knd.hash k)) Q E s:=by
 obtain⟨o,es,ep,t,m,hex,hd,f,O,B,y,v,M⟩:=hS;have H:=Jf.elems (h:=s.heap) (a:=a) f;have hn:es.size=c.length:=by obtain⟨l,p,r⟩:=f;have T:=p.length_eq;have e2:=mR r;simp only[length_toList] at T;omega
 unfold setAddHashed setAddHashedIn;refine wpAny_holding (wpAny_bind (wpAny_setState_of m hd B ?_));simp only;rw[byScan_of F O H,if_pos rfl];unfold setAddByScan;refine wpAny_bind (wpAny_bind (wpAny_rule (wpAny_bind (wpAny_setScan_of N m hd B H ?_))));cases hr:List.findIdx? (λe=>knd.is k e.2) es.toList with
 |some j =>
  obtain⟨hj,R,_⟩:=List.findIdx?_eq_some_iff_getElem.mp hr;have I:k∈c:=(Jf.mem f k).mpr ⟨es.toList[j],getElem_mem hj,R⟩;refine wpAny_pure (wpAny_pure ?_);exact h _ s.heap (Heap.SameBut.refl a s.heap) ⟨o,es,ep,t,m,hex,hd,by unfold bY;rw[if_pos I];exact f,O,B,y,by unfold bY;rw[if_pos I];exact v,M⟩
 |none =>
  have Z:k∉c:=λW=>by obtain⟨e,X,v⟩:=(Jf.mem f k).mp W;have q:=List.findIdx?_eq_none_iff.mp hr e X;rw[v] at q;cases q
  have ek:bY c k=c++[k]:=by unfold bY;rw[if_neg Z]
  rw[ek] at h;have i:=layNew_perm t es (knd.hash k) x;have g:=layNew_fits t es (knd.hash k) x;have d:=wH t es (knd.hash k) x;have n:=wG es (knd.hash k) x M;dsimp only;revert i g d n;generalize layNew t es (knd.hash k) x=Y;intro i g d n;obtain⟨G,t1,wd,S⟩:=Y;simp only at i g d n ⊢;rw[toList_push] at i;have P:∃ l:List (Int×Value),l.Perm G.toList/\Paired (vJ knd) (c++[k]) l:=by obtain⟨l,p,r⟩:=f;exact⟨l++[(knd.hash k,x)],(p.append_right _).trans i.symm,uu r ⟨N,rfl,F⟩⟩
  have J:G.size<scanBound:=by have:=i.length_eq;simp only[length_toList,List.length_append,length_singleton] at this;omega
  refine wpAny_bind (oV S ?_);split
  ·rename_i L;refine wpAny_bind ?_;rw[hashByValue_scannable 8 F];refine wpAny_pure ?_;refine xt (pk:=pk) (led:=led) (λb u U D=>oV b D) m hex hd P J ?_ ?_ ?_ ?_ λh' sb C=>?_
   ·split
    ·exact g
    exact SetTable.fits_plain_off g
   ·split
    ·exact d.1.trans y
    exact d.1.trans y
   ·split
    ·rename_i hv;intro Nj V OG;rcases mem_append.mp OG with OG |OG
     ·exact v (d.2 Nj) V OG
     rw[mem_singleton.mp OG,← Yj];exact hv
    intro z;cases z
   ·split<;>exact n
   exact wpAny_pure (h _ h' sb C)
  rename_i L;refine wpAny_bind (wpAny_pure ?_);rw[if_pos rfl];refine xt (pk:=pk) (led:=led) (λb u U D=>oV b D) m hex hd P J g (d.1.trans y) (λz=>absurd z L) n λh' sb C=>?_;exact wpAny_pure (h _ h' sb C)
end
namespace SF
theorem MQ:entryFor table "set.update.loop"=some Builtin.«set.update.loop»:=entryFor_of_tree (by kernel_rfl)
theorem Mz:plainId "set.update.loop"=true:=by decide
theorem P9 (a:Value):checkTypeCall "set" ⟨[a],[]⟩=pure ():=by kernel_rfl
theorem Sk (a:Value):checkBuiltinCall "set.__new__" ⟨[.type "set",a],[]⟩=pure ():=by kernel_rfl
theorem OI:entryFor table "set.__iter__"=some Builtin.«frozenset.__iter__»:=entryFor_alias (id':="frozenset.__iter__") (by kernel_rfl) rfl (by decide) (by kernel_rfl)
theorem slot_next:Slot "set_iterator" "__next__" "set_iterator.__next__":=
 .of (owner:="set_iterator") (n:="__next__") (by rw[typeLookup_type,builtinLookup_eq_fast];kernel_rfl) (by decide) (by decide) (by decide)
  (by first |exact .inl (by decide) |exact .inr (by decide)) (by rw[isSubtype_type];kernel_rfl)
theorem slot_self:Slot "set_iterator" "__iter__" "set_iterator.__iter__":=
 .of (owner:="set_iterator") (n:="__iter__") (by rw[typeLookup_type,builtinLookup_eq_fast];kernel_rfl) (by decide) (by decide) (by decide)
  (by first |exact .inl (by decide) |exact .inr (by decide)) (by rw[isSubtype_type];kernel_rfl)
theorem MR:entryFor table "set_iterator.__next__"=some Builtin.«set_iterator.__next__»:=entryFor_of_tree (by kernel_rfl)
theorem OJ:Manifest.owners.lookup (String.ofList ['r','o','t','a','r','e','t','i','_','t','e','s'].reverse)=some Manifest.sig_set_iterator:=by kernel_rfl
theorem args_next (a:Value):argsOk "set_iterator.__next__" ⟨[a],[]⟩:=by unfold argsOk;rw[signature?_of (id:="set_iterator.__next__") (n:=['_','_','t','x','e','n','_','_']) (o:=['r','o','t','a','r','e','t','i','_','t','e','s']) (by kernel_rfl) OJ];kernel_rfl
end SF
section
variable {prog:Program}{w:World}{K:Type} [DecidableEq K] {knd:KeyKind prog w K}{pk:K->Bool}{led:Bool}
def met (val:Nat->K)(i:Nat):List K:=((List.range i).map val).foldl bY []
theorem uJ (val:Nat->K)(i:Nat):met val (i+1)=bY (met val i) (val i):=by unfold met;rw[List.range_succ,map_append,List.foldl_append];rfl
theorem xI (val:Nat->K):∀ i,(met val i).length<=i
 | 0=>le_refl _
 |i+1=>by
  have a:=xI val i;rw[uJ];unfold bY;split
  ·omega
  rw[List.length_append,length_singleton];omega
section
variable {A:Around}{R:Result->Shared->Prop}{I:Addr}{fp wr:List Addr}{G:Array GenState->Array GenState->Prop}{n:Nat}{P:Nat->Value->Prop}{St:Nat->Shared->Prop}
theorem Jf.keep {h h':Heap}{a:Addr}{b:List K}(x:Jf knd pk led h a b)(e:∀ o,h.get? a=some o->h'.get? a=some o):Jf knd pk led h' a b:=by obtain⟨o,es,ep,t,c,r⟩:=x;exact⟨o,es,ep,t,e o c,r⟩
theorem ub (W:WalksS prog w A.in1 I fp wr G n P St)(S:Addr)(p:S∉fp)(val:Nat->K)(F:∀ i v,P i v->knd.is (val i) v=true/\v.scannable=true/\plainKind v=pk (val i))(a:n+1<scanBound) :
  ∀ (k i:Nat) (s:Shared),n-i=k->i<=n->St i s->Jf knd pk led s.heap S (met val i) ->
   (∀ s',Moved (S::wr) G s s'->Jf knd pk led s'.heap S (met val n)->R (.ok (.ret .none)) s') ->
   codeAny (model prog w) A (.builtin "set.update.loop" ⟨[.ref S,.ref I],[]⟩) R s:=by
 have g:S∉wr:=λh=>p (W.sub _ h);intro k
 induction k with
 |zero =>
  intro i s t C st f d;obtain rfl:i=n:=by omega
  refine codeAny_builtin SF.MQ ?_;rw[Around.under_plainId SF.Mz _];show wpAny _ A.in1 (pyNext (.ref I) >>= _) _ _ s;refine wpAny_bind (W.done s _ _ st λs' c=>?_);show wpAny _ A.in1 (ret Value.none) _ _ s';exact wpAny_pure (d s' (c.mono λb a=>mem_cons_of_mem _ a) (f.keep λo e=>c.heap S o g e))
 |succ k E =>
  intro i s t C st f d;have l:i<n:=by omega
  refine codeAny_builtin SF.MQ ?_;rw[Around.under_plainId SF.Mz _];show wpAny _ A.in1 (pyNext (.ref I) >>= _) _ _ s;refine wpAny_bind (W.item i s _ _ l st λv s' D J c=>?_);obtain⟨j,y,r⟩:=F i v D;show wpAny _ A.in1 (holding [v] (setAdd S v) >>= _) _ _ s';refine wpAny_bind (wpAny_holding ?_);unfold setAdd;refine wpAny_holding (wpAny_bind (knd.pyHash j ?_));have q:(met val i).length+1<scanBound:=by have:=xI val i;omega
  refine B_ (pk:=pk) (led:=led) (s:={ s' with toks:=s'.toks+1 }) r j y (f.keep λo e=>c.heap S o g e) q λb L sb m=>?_;rw[← uJ] at m;refine wpAny_pure ⟨plainId_quiet SF.Mz _,E (i+1) _ (by omega) l (W.frame _ s' _ _ J (le_succ _) λb a o e=>?_) m λB H x=>?_⟩
  ·rw[sb.2 b (λz=>p (z▸a))];exact e
  refine d B (Moved.trans W.gtrans ((c.mono λb a=>mem_cons_of_mem _ a).then_heap (le_succ _) λb o u e=>?_) H) x;rw[sb.2 b (λz=>u (z▸mem_cons_self))];exact e
end
section
variable {A:Around}{E:Ia}{s:Shared}
def Md (w:World):Bool:=w.params.followText "set-order"
abbrev gu (w:World):Obj:={ cls:=.type "set",dict:=none,data:=.set #[] 0 (.fresh 0 0 (!Md w)) }
theorem ua (a:Value){Q₁:Ia}(h:Q₁ (.ref s.heap.objs.size) { s with heap:=s.heap.push (gu w) }) :
  codeAny (model prog w) A (.call (.builtin "set.__new__") ⟨[.type "set",a],[]⟩) (wants Q₁ E) s:=by
 refine codeAny_of_tree ?_;show wpAny _ A.in1 (do checkBuiltinCall "set.__new__" ⟨[.type "set",a],[]⟩;again (.builtin "set.__new__" ⟨[.type "set",a],[]⟩)) _ _ s;refine wpAny_bind (wpAny_of_eq (SF.Sk a) (wpAny_pure ⟨plainId_quiet F.plain_set_new _,codeAny_builtin F.entry_set_new ?_⟩));rw[Around.under_plainId F.plain_set_new _];unfold Builtin.«set.__new__» Builtin.Frozenset.newClass;have q:=sub_set_self;obtain⟨b,g,d,tk,os⟩:=s;dsimp only
 wp_walk
 refine wpAny_askSetting (wpAny_pure ?_);simp only[newObj];exact wpAny_bind (wpAny_alloc (wpAny_pure (wpAny_pure h)))
theorem qa {M:Model}{self a:Value}{Q:Unit->Shared->Prop}(c:s.TypeIs self "set")(d:Q () s):wpAny M A (checkBuiltinCall "set.__init__" ⟨[self,a],[]⟩) Q E s:=by
 simp only[checkBuiltinCall,kind_set_init,split_set_init,sig_set_init];refine wpAny_bind (wpAny_isInstance c sub_set_self ?_);simp only[Bool.not_true,false_eq_true,if_false];unfold Bind.checkArgs;dsimp only;refine wpAny_bind (m:=Bind.printed "set" true _ _) (PyProof.Rows.printed_name (by decide) ?_);refine wpAny_bind (m:=Bind.printed "*" false _ _) (PyProof.Rows.printed_star (self:=self) rfl c λb=>?_);have g:(Manifest.Receiver.self==Manifest.Receiver.none)=false:=by decide
 have f:(if (Manifest.Receiver.self==Manifest.Receiver.none)=true then [self,a].length else [self,a].length-1)=1:=by simp[g]
 rw[f];simp only[map_nil];have h:(Manifest.ParamKind.posOnly==Manifest.ParamKind.posOnly)=true:=by decide
 have i:(Manifest.ParamKind.posOnly==Manifest.ParamKind.posOrKw)=false:=by decide
 have e:(Manifest.ParamKind.posOnly==Manifest.ParamKind.varPos)=false:=by decide
 have j:Bind.check ⟨.positional,"set","*",.self,[⟨"iterable",.posOnly,false⟩]⟩ "set" b 1 []=pure ():=by simp[Bind.check,Bind.checkCount,Bind.isPositional,h,i,e]
 rw[j];exact wpAny_pure d
theorem Jf.start {h:Heap}{a:Addr}(e:h.get? a=some (gu w)):Jf knd pk (!Md w) h a []:=
 ⟨gu w,#[],0,.fresh 0 0 (!Md w),e,⟨rfl,rfl,rfl⟩,rfl,⟨[],.refl _,.nil⟩,by decide,by rfl,rfl,(λ_ k b=>by cases b),List.Pairwise.nil⟩
set_option maxHeartbeats 3200000 in
theorem sQ {l:Addr}{items:Array Value}{Q:Ia}(D:A.handled=none)(B:s.heap.IsTuple l items)(val:Nat->K)(G:∀ (i:Nat) v,items[i]?=some v->knd.is (val i) v=true/\v.scannable=true/\plainKind v=pk (val i))
  (g:items.size+1<scanBound)
  (h:∀ (h':Heap) (tk:Nat),Jf knd pk (!Md w) h' s.heap.objs.size (met val items.size)->(∀ b o,b<s.heap.objs.size->s.heap.get? b=some o->h'.get? b=some o)->Q (.ref s.heap.objs.size) { s with heap:=h',toks:=tk }) :
  wpAny (model prog w) A (call (.type "set") [.ref l]) Q E s:=by
 obtain⟨c,tl,U6⟩:=F.called_set.mro;have c1:=F.called_set.made;have c2:=F.called_set.sub;refine wpAny_call (codeAny_of_tree ?_);show wpAny _ _ (callAny (.type "set") _) _ _ _;refine wpAny_pure ⟨Code.quiet_builtin _ (by decide),codeAny_builtin F.entry_type_call ?_⟩;rw[Around.under_plain (weight_type_call_type "set" [.ref l] []) rfl];have c3:=F.called_set.notType;have c4:=F.called_set.canCreate;have c5:=SF.P9 (.ref l)
 repeat (any_goals (first |assumption |wp_step))
 refine codeAny_mono (ua (.ref l) (E:=E) (Q₁:=λobj a=>obj = .ref s.heap.objs.size/\a={ s with heap:=s.heap.push (gu w) }) ⟨rfl,rfl⟩) λr a j=>?_;cases r with
 |error e=>exact j
 |ok W =>
  cases W with
  |ret obj =>
   obtain⟨rfl,rfl⟩:=j;have q:(s.heap.push (gu w)).get? s.heap.objs.size=some (gu w):=Heap.get?_push_size _ rfl;have H:Shared.TypeIs { s with heap:=s.heap.push (gu w) } (.ref s.heap.objs.size) "set":=⟨_,q,rfl⟩;have i1:=F.called_set.init.lookup;have i2:=F.called_set.init.bind (.ref s.heap.objs.size)
   repeat (any_goals (first |assumption |wp_step))
   refine codeAny_mono (codeAny_call_builtin (R:=wants (λr d=>r = .none/\∃ h' tk,d={ s with heap:=h',toks:=tk }/\Jf knd pk (!Md w) h' s.heap.objs.size (met val items.size) /\
     (∀ b o,b<s.heap.objs.size->s.heap.get? b=some o->h'.get? b=some o)) E) F.called_set.init.plain F.entry_set_init (qa H ?_)) λf d m=>?_
   ·obtain⟨⟨U7,Y,Z,QU⟩,x,u,y,n⟩:=id B;simp only at u n;subst u n;have t:=Heap.get?_push_of_some (gu w) x;have t1:=F.sub_tuple_set;have t2:=F.sub_tuple_frozenset;have t3:(Value.type "tuple"==Value.type "dict")=false:=by decide
    have N:(s.heap.push (gu w)).IsTuple l items:=⟨_,t,rfl,y,rfl⟩;unfold Builtin.«set.__init__» noKeywords Builtin.Frozenset.updateFrom;generalize V:pyIter=PI
    wp_walk
    subst V;refine wpAny_pyIter_tuple N ?_;refine wpAny_bind (wpAny_runValue ?_);have p:l<s.heap.objs.size:=Heap.lt_size x;have z1:(s.heap.push (gu w)).objs.size=s.heap.objs.size+1:=Heap.size_push ..;have M:l≠(s.heap.push (gu w)).objs.size:=by rw[z1];exact ne_of_lt (lt_succ_of_lt p)
    have I:s.heap.objs.size∉[(s.heap.push (gu w)).objs.size,l]:=by
     rw[z1];intro hm;rcases mem_cons.mp hm with e |hm
     ·exact ne_of_lt (lt_succ_self _) e
     exact ne_of_gt p (mem_singleton.mp hm)
    refine ub (pk:=pk) (led:=!Md w) ((Walks.tuple (by simp[D]) _ l M items).toS) s.heap.objs.size I val G g (items.size-0) 0 _ (by omega) (zero_le _)
     ⟨⟨_,Heap.get?_push_size _ rfl,rfl,rfl⟩,⟨_,Heap.get?_push_of_some _ t,rfl,y,rfl⟩⟩ (Jf.start (Heap.get?_push_of_some _ q)) λX hm k=>?_
    obtain⟨h',J,z,O,P⟩:=X;have C:J=s.gens:=hm.gens;have S:z=s.drawn:=hm.drawn;have U:P=s.os:=hm.os;subst C S U;show wpAny _ _ _ _ _ _;refine wpAny_pure ?_;show wpAny _ _ (ret Value.none) _ _ _;refine wpAny_pure ⟨rfl,h',O,rfl,k,λb o g e=>hm.heap b o ?_ (Heap.get?_push_of_some _ (Heap.get?_push_of_some _ e))⟩;intro hm;rcases mem_cons.mp hm with e |hm
    ·exact ne_of_lt g e
    rw[z1] at hm;exact ne_of_lt (lt_succ_of_lt g) (mem_singleton.mp hm)
   cases f with
   |error e=>exact m
   |ok T =>
    cases T with
    |ret r =>
     obtain⟨rfl,h',tk,rfl,k,L⟩:=m
     repeat (any_goals (first |assumption |wp_step))
     exact h _ _ k L
    |_=>exact m.elim
  |_=>exact j.elim
end
end
end L2
namespace L2
open PySem
section
variable {prog:Program}{w:World}{A:Around}{E:Ia}{s:Shared}
theorem wp_choose {a:Source}{n:Nat}{Q:Nat->Shared->Prop}(b:n≠0)(h:∀ i,i<n->Q i { s with drawn:=s.drawn.bump a }):wpAny (model prog w) A (choose a n) Q E s:=
 λ_ _ _=>⟨b,h _ (Nat.mod_lt _ (Nat.pos_of_ne_zero b))⟩
theorem kj {α:Type}:∀ {xs:List α}{i:Nat}{x : α},xs[i]?=some x->(x::xs.eraseIdx i).Perm xs
 |[],_,_,h=>by simp at h
 |y::ys,0,x,h=>by simp at h;subst h;exact .refl _
 |y::ys,i+1,x,h=>by
  rw[getElem?_cons_succ] at h;rw[List.eraseIdx_cons_succ];exact(List.Perm.swap y x _).trans ((kj h).cons y)
theorem kH {α:Type}:∀ (n:Nat) (xs:List α) {s:Shared}{Q:List α->Shared->Prop},xs.length=n->(∀ ys d,ys.Perm xs->Q ys { s with drawn:=d })->wpAny (model prog w) A (drawOrder n xs) Q E s
 | 0,xs,s,Q,a,h=>by
  obtain rfl:=length_eq_zero_iff.mp a;unfold drawOrder;exact wpAny_pure (h [] s.drawn (.refl _))
 |n+1,[],s,Q,a,h=>by simp at a
 |n+1,x::r,s,Q,a,h=>by
  unfold drawOrder;refine wpAny_bind (wp_choose (by simp) λi b=>?_);have e:=List.getElem?_eq_getElem b;rw[e];dsimp only;refine wpAny_bind (kH n _ (by rw[List.length_eraseIdx_of_lt b,a];omega) λys d p=>?_);exact wpAny_pure (h _ d ((p.cons _).trans (kj e)))
theorem qp {α:Type}(next:Nat->Nat):∀ (m k:Nat) (left:List α) (out:Array α),left.length=m->(pickOrder.go next m k left out).toList.Perm (out.toList++left)
 | 0,k,left,out,a=>by
  obtain rfl:=length_eq_zero_iff.mp a;unfold pickOrder.go;rw[append_nil]
 |m+1,k,left,out,a=>by
  have b:next k % left.length<left.length:=Nat.mod_lt _ (by omega)
  have e:=List.getElem?_eq_getElem b;unfold pickOrder.go;rw[e];dsimp only;refine(qp next m (k+1) _ _ (by rw[List.length_eraseIdx_of_lt b,a];omega)).trans ?_;rw[toList_push,List.append_assoc];exact(kj e).append_left _
def JD (h:Heap)(it a:Addr)(first:Value)(i n ep:Nat):Prop:=∃ o,h.get? it=some o/\o.cls = .type "set_iterator"/\o.data = .fields #[first,.int i 0,.ref a,.int n 0,.int ep 0]
inductive Way (w:World) (a it:Addr) (es:Array (Int×Value)) (ep:Nat) (t:SetTable):Array (Int×Value)->List Addr->(Nat->Value->Heap->Prop)->Prop where
 |text (hb:Md w=true):Way w a it es ep t (pickOrder (w.params.setOrder a ep) es) [it,a] (λ_ f _ => ∃ k:Nat,f = .int k 0)
 |one (hb:Md w=false) (hl:t.led=true) (h1:t.plain=true∨es.size<=1) (hr:KG t.place):Way w a it es ep t es [it,a] (λi f _ => ∃ k:Nat,f = .int k 0/\SetTable.below t.place k=i)
 |drawn (hb:Md w=false) (hp:t.plain=false) (h1 : 1<es.size) (tp:Addr) (order:List Nat) (ho:order.Perm (List.range es.size)):tp≠it ->
  Way w a it es ep t (order.filterMap λi=>es[i]?).toArray [it,a,tp] (λ_ f h=>f = .ref tp/\h.IsTuple tp (order.map λ(i:Nat)=>Value.int i 0).toArray)
theorem yQ {es:Array (Int×Value)}{order:List Nat}(c:order.Perm (List.range es.size)):(order.filterMap λi=>es[i]?).length=order.length/\∀ i:Nat,(order.filterMap λi=>es[i]?)[i]?=(order[i]?).bind λj=>es[j]?:=by
 have d:∀ j∈order,j<es.size:=λj a=>mem_range.mp (c.mem_iff.mp a);clear c
 induction order with
 |nil=>exact⟨rfl,λi=>by simp⟩
 |cons j r h =>
  have a:=d j (mem_cons_self ..);obtain⟨g,f⟩:=h λk e=>d k (mem_cons_of_mem _ e);rw[List.filterMap_cons_some (b:=es[j]) (by simp[a])];refine⟨by simp[g],λi=>?_⟩;cases i with
  |zero=>simp[a]
  |succ i=>simpa using f i
theorem Way.perm {a it:Addr}{es:Array (Int×Value)}{ep:Nat}{t:SetTable}{out:Array (Int×Value)}{fp:List Addr}{F:Nat->Value->Heap->Prop}(y:Way w a it es ep t out fp F):out.toList.Perm es.toList:=by
 cases y with
 |text c=>simpa [pickOrder] using qp (w.params.setOrder a ep) es.size 0 es.toList #[] (by simp)
 |one=>exact .refl _
 |drawn c f e tp order b d =>
  have q:=b.filterMap λi=>es[i]?;rw[filterMap_getElem?_range] at q;simpa using q
end
section
variable {prog:Program}{w:World}{A:Around}{E:Ia}{s:Shared}
variable {a it:Addr}{o:Obj}{es:Array (Int×Value)}{ep:Nat}{t:SetTable}
theorem jl {Q:Bool->Shared->Prop}(h:Q (Md w) s):wpAny (model prog w) A setsByText Q E s:=by unfold setsByText;exact wpAny_bind (wpAny_askSetting (wpAny_pure h))
theorem tR {Q:Bool->Shared->Prop}(b:s.heap.get? a=some o)(hd:o.data = .set es ep t)(c:t.fits es.size=true)(h:Q (!Md w&&(!t.plain&&decide (es.size > 1))) s):wpAny (model prog w) A (setDrawn a) Q E s:=by unfold setDrawn;refine wpAny_bind (wpAny_setState_of b hd c ?_);dsimp only;exact wpAny_bind (jl (wpAny_pure h))
theorem wm {Q:Ia}(c:s.heap.get? a=some o)(hex:o.ExactSet)(hd:o.data = .set es ep t)(j:t.fits es.size=true)(hz:es.size<=sizeLine)(q:Md w=false->t.led=true)(l:KG t.place)
  (h:∀ it out fp F first h' d,Way w a it es ep t out fp F->JD h' it a first 0 es.size ep->F 0 first h'->(∀ b o,s.heap.get? b=some o->h'.get? b=some o)->s.heap.objs.size<=it->(∀ b∈fp,b=a∨s.heap.objs.size<=b) ->
   Q (.ref it) { s with heap:=h',drawn:=d }):wpAny (model prog w) A (pyIter (.ref a)) Q E s:=by
 have p:s.TypeIs (.ref a) "set":=⟨o,c,hex.1⟩;refine wpAny_pyIter_slot p F.slot_set_iter (wpAny_call_entry F.slot_set_iter p SF.OI ?_ (F.args_set_iter_1 _));unfold Builtin.«frozenset.__iter__» Builtin.Frozenset.slot0 slotArgs;simp only[List.isEmpty_nil,Bool.not_true,false_eq_true,↓reduceIte,bind_assoc,length_nil,bne_self_eq_false];unfold Builtin.Frozenset.addrOf Builtin.Frozenset.sizeOf;refine wpAny_bind (wpAny_pure ?_)
 try dsimp only
 refine wpAny_bind (wpAny_pure ?_);refine wpAny_bind (wpAny_bind (wpAny_setEntries_of c hd j (wpAny_pure ?_)));refine wpAny_bind (tR c hd j ?_);have r:a<s.heap.objs.size:=Heap.lt_size c;cases hc:(!Md w&&(!t.plain&&decide (es.size > 1))) with
 |true =>
  rw[and_eq_true,and_eq_true,Bool.not_eq_true',Bool.not_eq_true'] at hc;obtain⟨hb,k,g⟩:=hc;have g:=of_decide_eq_true g;rw[if_pos rfl];refine wpAny_bind (kH es.size (List.range es.size) (by simp) λorder d n=>?_);have f:order.length=es.size:=by rw[n.length_eq,length_range]
  refine wpAny_bind (wpAny_newTuple ?_ (by rw[length_map,f];exact hz));refine wpAny_bind (wpAny_setEpoch_of (Heap.get?_push_of_some _ c) hd j ?_);refine wpAny_bind (wpAny_newObj_type (wpAny_pure ⟨_,rfl,"set_iterator",_,⟨_,Heap.get?_push_size _ rfl,rfl⟩,SF.slot_next.lookup,?_⟩))
  refine h _ _ _ _ (.ref s.heap.objs.size) _ d (Way.drawn hb k g s.heap.objs.size order n ?_) ⟨_,Heap.get?_push_size _ rfl,rfl,rfl⟩ ⟨rfl,⟨_,Heap.get?_push_of_some _ (Heap.get?_push_size _ rfl),rfl,0,?_⟩⟩
   (λb o e=>Heap.get?_push_of_some _ (Heap.get?_push_of_some _ e)) ?_ ?_
  ·rw[Heap.size_push];exact ne_of_lt (lt_succ_self _)
  ·rfl
  ·rw[Heap.size_push];exact le_succ _
  intro b hb;rcases mem_cons.mp hb with e |hb
  ·rw[e,Heap.size_push];exact .inr (le_succ _)
  rcases mem_cons.mp hb with e |hb
  ·exact .inl e
  rw[mem_singleton.mp hb];exact .inr (le_refl _)
 |false =>
  rw[if_neg (by decide)];refine wpAny_bind (wpAny_pure ?_);refine wpAny_bind (wpAny_setEpoch_of c hd j ?_);refine wpAny_bind (wpAny_newObj_type (wpAny_pure ⟨_,rfl,"set_iterator",_,⟨_,Heap.get?_push_size _ rfl,rfl⟩,SF.slot_next.lookup,?_⟩))
  have m:∀ b∈[s.heap.objs.size,a],b=a∨s.heap.objs.size<=b:=λb hb=>by
   rcases mem_cons.mp hb with e |hb
   ·rw[e];exact .inr (le_refl _)
   exact .inl (mem_singleton.mp hb)
  cases hb:Md w with
  |true=>exact h _ _ _ _ (.int 0 0) _ s.drawn (Way.text hb) ⟨_,Heap.get?_push_size _ rfl,rfl,rfl⟩ ⟨0,rfl⟩ (λb o e=>Heap.get?_push_of_some _ e) (le_refl _) m
  |false =>
   have g:t.plain=true∨es.size<=1:=by
    cases k:t.plain with
    |true=>exact .inl rfl
    |false =>
     rw[hb,k] at hc;have:=of_decide_eq_false (show decide (es.size > 1)=false from hc);exact .inr (by omega)
   exact h _ _ _ _ (.int 0 0) _ s.drawn (Way.one hb (q hb) g l) ⟨_,Heap.get?_push_size _ rfl,rfl,rfl⟩ ⟨0,rfl,vB l (zero_le _) (λi _ z=>absurd z (by omega)) λi _ _=>zero_le _⟩ (λb o e=>Heap.get?_push_of_some _ e) (le_refl _) m
theorem JD.ty {first:Value}{i n:Nat}(x:JD s.heap it a first i n ep):s.TypeIs (.ref it) "set_iterator":=let ⟨o,b,c,_⟩:=x;⟨o,b,c⟩
theorem iC {k i:Nat}{Q:Option (Value×Nat)->Shared->Prop}(b:s.heap.get? a=some o)(hd:o.data = .set es ep t)(d:t.fits es.size=true)(c:Md w=true)
  (h:Q (((pickOrder (w.params.setOrder a ep) es)[i]?).map λe=>(e.2,k)) s):wpAny (model prog w) A (setNext a k i ep) Q E s:=by
 unfold setNext;refine wpAny_bind (wpAny_setState_of b hd d ?_);dsimp only;refine wpAny_bind (jl ?_);rw[c,if_pos rfl,if_neg (by simp)];refine wpAny_bind ?_;unfold setWalk;refine wpAny_bind (wpAny_setState_of b hd d ?_);dsimp only;refine wpAny_bind (jl ?_);rw[c,if_pos rfl];exact wpAny_bind (wpAny_askSetting (wpAny_pure (wpAny_pure h)))
theorem iS {k i:Nat}{Q:Option (Value×Nat)->Shared->Prop}(b:s.heap.get? a=some o)(hd:o.data = .set es ep t)(f:t.fits es.size=true)(d:Md w=false)(e:t.led=true)(h1:t.plain=true∨es.size<=1)
  (h:Q (match es[SetTable.below t.place k]?,t.place[SetTable.below t.place k]? with |some (_,x),some j=>some (x,j+1) |_,_=>none) s):wpAny (model prog w) A (setNext a k i ep) Q E s:=by
 unfold setNext;refine wpAny_bind (wpAny_setState_of b hd f ?_);dsimp only;refine wpAny_bind (jl ?_);rw[d,if_neg (by decide)]
 have c:(!t.plain&&decide (es.size > 1))=false:=by
  rcases h1 with h1 |h1
  ·rw[h1];rfl
  rw[decide_eq_false (by omega),Bool.and_false]
 show wpAny _ _ (if (!t.plain&&decide (es.size > 1))=true then _ else _) _ _ _;rw[c,if_neg (by decide)];refine wpAny_bind ?_;show wpAny _ _ (if (!t.led&&!es.isEmpty)=true then _ else _) _ _ _;rw[e,if_neg (by simp)];exact wpAny_pure (wpAny_pure h)
end
section
variable {prog:Program}{w:World}{A:Around}{E:Ia}{s:Shared}
variable {a it:Addr}{o:Obj}{es:Array (Int×Value)}{ep:Nat}{t:SetTable}
theorem qd {h:Heap}{first f':Value}{i n:Nat}(x:JD h it a first i n ep) :
  JD (h.update it (Obj.mapFields (·.setIfInBounds 0 f'))) it a f' i n ep:=by
 obtain⟨o,b,c,hd⟩:=x;exact⟨_,Heap.get?_update_self _ b (Obj.isFreed_of_fields (Obj.data_mapFields hd _)),(Obj.cls_mapFields ..).trans c,by rw[Obj.data_mapFields hd];simp⟩
theorem qe {h:Heap}{first:Value}{i n:Nat}(x:JD h it a first i n ep) :
  JD (h.update it (Obj.mapFields (·.setIfInBounds 1 (rawInt ((i:Int)+1))))) it a first (i+1) n ep:=by
 obtain⟨o,b,c,hd⟩:=x;exact⟨_,Heap.get?_update_self _ b (Obj.isFreed_of_fields (Obj.data_mapFields hd _)),(Obj.cls_mapFields ..).trans c,by rw[Obj.data_mapFields hd];simp[rawInt]⟩
set_option maxHeartbeats 1000000 in
theorem next_item {out:Array (Int×Value)}{fp:List Addr}{F:Nat->Value->Heap->Prop}{first:Value}{i:Nat}{x:Int×Value}{Q:Option Value->Shared->Prop}(y:Way w a it es ep t out fp F)(JG:a≠it)(g:s.heap.get? a=some o)(hd:o.data = .set es ep t)
  (c:t.fits es.size=true) (b:JD s.heap it a first i es.size ep) (l:F i first s.heap) (d:out[i]?=some x)
  (u:∀ f' h',JD h' it a f' (i+1) es.size ep->F (i+1) f' h'->Heap.SameBut it s.heap h'->Q (some x.2) { s with heap:=h' }):wpAny (model prog w) A (pyNext (.ref it)) Q E s:=by
 obtain⟨oi,m,O9,r⟩:=id b;unfold pyNext;refine wpAny_bind (wpAny_attempt (wpAny_callSpecial?_slot (name:=Str.ofString "__next__") b.ty SF.slot_next (wpAny_call_entry SF.slot_next b.ty SF.MR ?_ (SF.args_next _))));unfold Builtin.«set_iterator.__next__»;refine wpAny_bind (wpAny_pure ?_);refine wpAny_bind (wpAny_fieldsOf m r ?_);dsimp only;refine wpAny_bind (wpAny_setEntries_of g hd c ?_);rw[if_neg (by simp)]
 have step:∀ (f':Value),F (i+1) f' ((s.heap.update it (Obj.mapFields (·.setIfInBounds 0 f'))).update it (Obj.mapFields (·.setIfInBounds 1 (rawInt ((i:Int)+1)))))->∀ (k:Nat),f'=rawInt k->∀ (D:Ia),
   wpAny (model prog w) A.in1 (do setField (.ref it) 0 (rawInt k);setField (.ref it) 1 (rawInt ((i:Int)+1));ret x.2) (λfin s' => ∃ v,fin = .done (.ret v)/\Q (some v) s') D s:=by
  rintro f' M k rfl D;refine wpAny_bind (wpAny_setField m r (by simp) ?_);have I:=qd (f':=rawInt k) b;obtain⟨o1,X,So,Z⟩:=id I;refine wpAny_bind (wpAny_setField X Z (by simp) (wpAny_pure ⟨_,rfl,?_⟩));exact u _ _ (qe I) M ((Heap.SameBut.update ..).trans (Heap.SameBut.update ..))
 cases y with
 |text f =>
  obtain⟨k,rfl⟩:=l;dsimp only;refine wpAny_bind (iC g hd c f ?_);simp only[Int.toNat_natCast];rw[d];exact wpAny_mono (step (rawInt k) ⟨k,rfl⟩ k rfl _) (λ_ _ h=>let ⟨v,e,q⟩:=h;⟨v,e,wpAny_pure q⟩) λ_ _ h=>h
 |one f K G j =>
  have hi:i<es.size:=(Array.getElem?_eq_some_iff.mp d).1;have hsz:t.place.size=es.size:=by have:=c;simp only[SetTable.fits,and_eq_true,beq_iff_eq] at this;exact this.1
  obtain⟨k,rfl,V⟩:=l;have S:t.place[i]?=some t.place[i]:=Array.getElem?_eq_getElem (by omega)
  have U:SetTable.below t.place (t.place[i]+1)=i+1:=vB j (by omega) (λn H JU=>by
   rcases lt_or_ge n i with q |q
   ·have:=j.lt q (show i<t.place.size by omega);omega
   have e:n=i:=by omega
   subst e;omega) λn H Si=>j.lt (show i<n by omega) H
  dsimp only;refine wpAny_bind (iS g hd c f K G ?_);rw[Int.toNat_natCast,V,d,S];exact wpAny_mono (step (rawInt ((t.place[i]+1:Nat):Int)) ⟨_,rfl,U⟩ (t.place[i]+1) rfl _) (λ_ _ h=>let ⟨v,e,q⟩:=h;⟨v,e,wpAny_pure q⟩) λ_ _ h=>h
 |drawn f hp G tp order Y J =>
  obtain⟨rfl,N⟩:=l;obtain⟨R,B,O,L,z⟩:=id N;dsimp only;refine wpAny_bind (wpAny_seqItems B z ?_);obtain⟨g1,g2⟩:=yQ (es:=es) Y;have C:(order.filterMap λi=>es[i]?)[i]?=some x:=by simpa using d
  rw[g2 i] at C;obtain⟨p,W,T⟩:=bind_eq_some_iff.mp C;have P:((order.map λ(i:Nat)=>Value.int i 0).toArray)[Int.toNat (i:Int)]?=some (.int p 0):=by rw[Int.toNat_natCast,List.getElem?_toArray,getElem?_map,W];rfl
  dsimp only;rw[P];dsimp only;refine wpAny_bind ?_;unfold setNextDrawn;refine wpAny_bind (wpAny_setState_of g hd c ?_);dsimp only;rw[Int.toNat_natCast,Int.toNat_natCast,if_neg (by simp),T];refine wpAny_pure ?_;refine wpAny_bind (wpAny_setField m r (by simp) (wpAny_pure ⟨_,rfl,wpAny_pure ?_⟩));exact u _ _ (qe b) ⟨rfl,⟨R,((Heap.SameBut.update ..).2 tp J).trans B,O,L,z⟩⟩ (Heap.SameBut.update ..)
end
section
variable {prog:Program}{w:World}{A:Around}{E:Ia}{s:Shared}
variable {a it:Addr}{o:Obj}{es:Array (Int×Value)}{ep:Nat}{t:SetTable}
theorem wl {α:Type}{Q : α->Shared->Prop}(c:A.handled=none)(h:∀ h' e,(∀ b o,s.heap.get? b=some o->h'.get? b=some o)->(∃ o,h'.get? e=some o/\o.cls = .type "StopIteration")->E (.ref e) { s with heap:=h' }) :
  wpAny (model prog w) A (newExc (.type "StopIteration") [] >>= λe=>(raiseNew e:Sem α)) Q E s:=by
 refine wpAny_bind ?_;simp only[newExc,newTuple];refine wpAny_bind (wpAny_newObj_type ?_ (by size_fits));refine wpAny_bind (m:=firstArgMember _ _) (wpAny_of_eq (a:=Value.none) (by first |rfl |(simp only[firstArgMember];rfl)) ?_);refine wpAny_newObj_type ?_ (by size_fits);simp only[raiseNew];refine wpAny_bind (wpAny_handled ?_);rw[c];refine wpAny_bind (wpAny_pure (wpAny_throw ?_));exact h _ _ (λb o e=>Heap.get?_push_of_some _ (Heap.get?_push_of_some _ e)) ⟨_,Heap.get?_push_size _ rfl,rfl⟩
set_option maxHeartbeats 1000000 in
theorem next_end {out:Array (Int×Value)}{fp:List Addr}{F:Nat->Value->Heap->Prop}{first:Value}{Q:Option Value->Shared->Prop}(B:A.handled=none)(y:Way w a it es ep t out fp F)(JG:a≠it)(p:s.heap.get? a=some o)(hd:o.data = .set es ep t)
  (m:t.fits es.size=true) (c:JD s.heap it a first es.size es.size ep) (n:F es.size first s.heap)
  (v:∀ h',(∀ b o,b≠it->s.heap.get? b=some o->h'.get? b=some o)->Q none { s with heap:=h' }):wpAny (model prog w) A (pyNext (.ref it)) Q E s:=by
 have S:out.size=es.size:=by have:=y.perm.length_eq;simpa using this
 obtain⟨oi,j,O9,l⟩:=id c;unfold pyNext;refine wpAny_bind (wpAny_attempt (wpAny_callSpecial?_slot (name:=Str.ofString "__next__") c.ty SF.slot_next (wpAny_call_entry SF.slot_next c.ty SF.MR ?_ (SF.args_next _))));unfold Builtin.«set_iterator.__next__»;refine wpAny_bind (wpAny_pure ?_);refine wpAny_bind (wpAny_fieldsOf j l ?_);dsimp only;refine wpAny_bind (wpAny_setEntries_of p hd m ?_);rw[if_neg (by simp)]
 have fin:∀ (g:Shared) (q:Fin->Shared->Prop),(∀ b o,b≠it->s.heap.get? b=some o->g.heap.get? b=some o)->(∀ h',({ s with heap:=h' }:Shared)={ g with heap:=h' }) ->
   wpAny (model prog w) A.in1 (newExc (.type "StopIteration") [] >>= λe=>(raiseNew e:Sem Fin)) q
    (λe R=>wpAny (model prog w) A (do let b ← isInstance e (.type "StopIteration");if b=true then pure none else throw e) Q E R) g:=λg q J z=>by
  refine wl (by simp[B]) λh' e k I=>?_;obtain⟨M,U,K⟩:=I;refine wpAny_bind (wpAny_isInstance (T:="StopIteration") (b:=true) ⟨M,U,K⟩ isSubtype_stop ?_);rw[if_pos rfl];refine wpAny_pure ?_;rw[← z];exact v h' λb o d e=>k b o (J b o d e)
 have up:∀ (f:Array Value->Array Value) b o,b≠it->s.heap.get? b=some o->(s.heap.update it (Obj.mapFields f)).get? b=some o:=λf b o d e=>((Heap.SameBut.update ..).2 b d).trans e;cases y with
 |text h =>
  obtain⟨k,rfl⟩:=n;dsimp only;refine wpAny_bind (iC p hd m h ?_);simp only[Int.toNat_natCast];rw[Array.getElem?_eq_none (by omega)];refine wpAny_bind (wpAny_setField j l (by simp) ?_);exact fin _ _ (up _) λ_=>rfl
 |one h u r W =>
  have key:∃ k:Nat,first = .int k 0/\es[SetTable.below t.place k]?=none:=by obtain⟨k,rfl,e⟩:=n;exact⟨k,rfl,by rw[e];exact Array.getElem?_eq_none (le_refl _)⟩
  obtain⟨k,rfl,H⟩:=key;dsimp only;refine wpAny_bind (iS p hd m h u r ?_);rw[Int.toNat_natCast,H];refine wpAny_bind (wpAny_setField j l (by simp) ?_);exact fin _ _ (up _) λ_=>rfl
 |drawn h X r tp order N V =>
  obtain⟨rfl,D⟩:=n;obtain⟨Wx,C,Z,Y,x⟩:=id D;dsimp only;refine wpAny_bind (wpAny_seqItems C x ?_);dsimp only;have G:((order.map λ(i:Nat)=>Value.int i 0).toArray)[Int.toNat (es.size:Int)]?=none:=by rw[Int.toNat_natCast,List.getElem?_toArray,List.getElem?_eq_none];rw[length_map,N.length_eq,length_range];exact le_refl _
  rw[G];dsimp only;refine wpAny_bind (wpAny_setField j l (by simp) ?_);have P:=qd (f':=rawInt 0) c;obtain⟨o1,L,So,O⟩:=id P;refine wpAny_bind (wpAny_setField L O (by simp) ?_);exact fin _ _ (λb o d e=>((Heap.SameBut.update ..).2 b d).trans (up _ b o d e)) λ_=>rfl
theorem Bm:entryFor table "set_iterator.__iter__"=some Builtin.«dict_keyiterator.__iter__»:=entryFor_alias (id':="dict_keyiterator.__iter__") (by kernel_rfl) rfl (by decide) (by kernel_rfl)
theorem args_self (a:Value):argsOk "set_iterator.__iter__" ⟨[a],[]⟩:=by unfold argsOk;rw[signature?_of (id:="set_iterator.__iter__") (n:=['_','_','r','e','t','i','_','_']) (o:=['r','o','t','a','r','e','t','i','_','t','e','s']) (by kernel_rfl) SF.OJ];kernel_rfl
theorem z_ {first:Value}{i n:Nat}{Q:Ia}(b:JD s.heap it a first i n ep)(h:Q (.ref it) s):wpAny (model prog w) A (pyIter (.ref it)) Q E s:=by refine wpAny_pyIter_slot b.ty SF.slot_self (wpAny_call_entry SF.slot_self b.ty Bm ?_ (args_self _));show wpAny _ _ (ret (.ref it)) _ _ s;exact wpAny_pure ⟨_,rfl,"set_iterator",_,b.ty,SF.slot_next.lookup,h⟩
theorem JD.keep {h h':Heap}{first:Value}{i n:Nat}(x:JD h it a first i n ep)(e:∀ o,h.get? it=some o->h'.get? it=some o):JD h' it a first i n ep:=let ⟨o,b,r⟩:=x;⟨o,e o b,r⟩
theorem Way.fp {out:Array (Int×Value)}{fp:List Addr}{F:Nat->Value->Heap->Prop}(y:Way w a it es ep t out fp F):it∈fp/\a∈fp/\∀ i f (h h':Heap),(∀ b∈fp,b≠it->∀ o,h.get? b=some o->h'.get? b=some o)->F i f h->F i f h':=by
 cases y with
 |text=>exact⟨by simp,by simp,λ_ _ _ _ _ x=>x⟩
 |one=>exact⟨by simp,by simp,λ_ _ _ _ _ x=>x⟩
 |drawn _ _ _ tp order _ c=>exact⟨by simp,by simp,λ_ _ h h' k x=>⟨x.1,by obtain⟨o,d,r⟩:=x.2;exact⟨o,k tp (by simp) c o d,r⟩⟩⟩
theorem Walks.set {out:Array (Int×Value)}{fp:List Addr}{F:Nat->Value->Heap->Prop}(x:A.handled=none)(y:Way w a it es ep t out fp F)(n:a≠it)(hex:o.ExactSet)(hd:o.data = .set es ep t)(q:t.fits es.size=true) :
  Walks prog w A it fp [it] es.size (λi v=>(out[i]?).map (·.2)=some v) (λi h=>h.get? a=some o/\∃ first,JD h it a first i es.size ep/\F i first h) where
 sub:=λb d=>by rw[mem_singleton.mp d];exact y.fp.1
 frame:=λi h l st k=>⟨k a y.fp.2.1 o st.1,let ⟨f,c,j⟩:=st.2;⟨f,c.keep λo e=>k it y.fp.1 o e,y.fp.2.2 i f h l (λb d _ o e=>k b d o e) j⟩⟩
 item:=λi s Q E D st g=>by
  obtain⟨m,f,c,j⟩:=st;have C:out.size=es.size:=by have:=y.perm.length_eq;simpa using this
  have p:out[i]?=some out[i]:=Array.getElem?_eq_getElem (by omega);refine next_item y n m hd q c j p λB l r u sb=>?_;refine g _ l s.toks (by rw[p];rfl) ⟨(sb.2 a n).trans m,B,r,u⟩ λb o d e=>(sb.2 b (λz=>d (by simp[z]))).trans e
 done:=λs Q E st g=>by
  obtain⟨m,f,c,j⟩:=st;exact next_end x y n m hd q c j λl k=>g l s.toks λb o d e=>k b o (λz=>d (by simp[z])) e
 self:=λi s Q E st g=>let ⟨f,c,_⟩:=st.2;z_ c g
end
section
variable {prog:Program}{w:World}{A:Around}{E:Ia}{s:Shared}
set_option maxHeartbeats 1000000 in
theorem m9 {x:Addr}{T:String}(Yn:T="set"∨T="dict")(hT:s.TypeIs (.ref x) T){Q:List Value->Shared->Prop}(B:List Value->Prop)
  (Z:∀ (N:Heap) (Q':Ia) (E':Ia),(∀ b o,s.heap.get? b=some o->N.get? b=some o) ->
   (∀ (I:Addr) (fp i:List Addr) (n:Nat) (P:Nat->Value->Prop) (St:Nat->Shared->Prop) (g:Shared),WalksS prog w A.in1 I fp i (λa b=>b=a) n P St->St 0 g->n<=sizeLine->(∀ b∈fp,b=x∨N.objs.size<=b)->(∀ b∈i,N.objs.size<=b) ->
    (∀ b o,N.get? b=some o->g.heap.get? b=some o)->g.gens=s.gens->g.os=s.os->(∀ d,ItemsOf P d n->B d.toList)->Q' (.ref I) g)->wpAny (model prog w) A.in1 (pyIter (.ref x)) Q' E' { s with heap:=N })
  (hQ:∀ s' d,B d->(∀ b o,s.heap.get? b=some o->s'.heap.get? b=some o)->s'.gens=s.gens->s'.os=s.os->Q d s'):wpAny (model prog w) A (collect (.ref x)) Q E s:=by
 obtain⟨Y,S,X⟩:=id hT;have Wz:x<s.heap.objs.size:=Heap.lt_size S;unfold collect;refine wpAny_bind (wpAny_runValue (codeAny_builtin F.entry_proto_collect ?_));rw[Around.under_plainId F.plain_proto_collect _];show wpAny _ A.in1 (newList [] >>= λl=>again (.builtin "list.__iadd__" ⟨[l,.ref x],[]⟩)) _ _ s;refine wpAny_bind (wpAny_newObj_type ?_);refine wpAny_pure ⟨plainId_quiet F.plain_list_iadd _,codeAny_builtin F.entry_list_iadd ?_⟩;rw[Around.under_plainId F.plain_list_iadd _];have Ni:(s.heap.push { cls:=.type "list",data:=.seq ([]:List Value).toArray }).get? s.heap.objs.size=some { cls:=.type "list",data:=.seq ([]:List Value).toArray }:=Heap.get?_push_size _ rfl;have Yo:Shared.TypeIs { s with heap:=s.heap.push { cls:=.type "list",data:=.seq ([]:List Value).toArray } } (.ref x) T:=⟨Y,Heap.get?_push_of_some _ S,X⟩;have n1:Builtin.List.listSameRef (.ref s.heap.objs.size) (.ref x)=false:=by simp[Builtin.List.listSameRef,ne_of_gt Wz]
 show wpAny _ A.in1 (Builtin.List.listExtendWith (.ref s.heap.objs.size) (.ref x) (.ref s.heap.objs.size)) _ _ _;unfold Builtin.List.listExtendWith;refine wpAny_bind (wpAny_typeOf Yo ?_);have kp:∀ b o,s.heap.get? b=some o->(s.heap.push { cls:=.type "list",data:=.seq ([]:List Value).toArray }).get? b=some o:=λb o e=>Heap.get?_push_of_some _ e;have sz:(s.heap.push { cls:=.type "list",data:=.seq ([]:List Value).toArray }).objs.size=s.heap.objs.size+1:=Heap.size_push ..
 have main:∀ (I:Addr) (fp i:List Addr) (n:Nat) (P:Nat->Value->Prop) (St:Nat->Shared->Prop) (g:Shared),WalksS prog w A.in1 I fp i (λa b=>b=a) n P St->St 0 g->n<=sizeLine ->
   (∀ b∈fp,b=x∨(s.heap.push { cls:=.type "list",data:=.seq ([]:List Value).toArray }).objs.size<=b)->(∀ b∈i,(s.heap.push { cls:=.type "list",data:=.seq ([]:List Value).toArray }).objs.size<=b) ->
   (∀ b o,(s.heap.push { cls:=.type "list",data:=.seq ([]:List Value).toArray }).get? b=some o->g.heap.get? b=some o)->g.gens=s.gens->g.os=s.os->(∀ d,ItemsOf P d n->B d.toList) ->
   ∀ (R:Result->Shared->Prop),(∀ s' d c,B d.toList->(∀ b o,s.heap.get? b=some o->s'.heap.get? b=some o)->s'.gens=s.gens->s'.os=s.os->s'.heap.get? s.heap.objs.size=some { cls:=.type "list",dict:=none,data:=.seq d c,slots:=#[] }->R (.ok (.ret (.ref s.heap.objs.size))) s') ->
   wpAny (model prog w) A.in1 (rule "list.extend.makes-room" >>= λ_=>Builtin.List.listTouch (.ref s.heap.objs.size) >>= λ_=>again (.builtin "list.extend.loop" ⟨[.ref s.heap.objs.size,.ref I,.ref s.heap.objs.size],[]⟩))
    (λfin s'=>match fin with | .done f=>R (.ok f) s' | .again O=>O.quiet=true/\codeAny (model prog w) A O R s') (λe s'=>R (.error e) s') g:=by
  intro I fp i n P St g W st K t u k H o1 D R hR
  have PD:s.heap.objs.size∉fp:=λC=>by
   rcases t _ C with e |e
   ·exact ne_of_gt Wz e
   rw[sz] at e;exact Nat.not_succ_le_self _ e
  refine wpAny_bind (wpAny_rule ?_);refine wpAny_bind ?_;have hS:g.heap.get? s.heap.objs.size=some { cls:=.type "list",data:=.seq ([]:List Value).toArray }:=k _ _ Ni;show wpAny _ A.in1 (updateSeq s.heap.objs.size (·.push .none) >>= λ_=>updateSeq s.heap.objs.size (·.pop)) _ _ _;refine wpAny_bind (wpAny_updateSeq hS rfl ?_);have P8:=Heap.get?_update_self (Obj.mapSeq (·.push Value.none)) hS rfl;refine wpAny_updateSeq (hz:=by seq_fits) P8 rfl ?_;have KA:=Heap.get?_update_self (Obj.mapSeq (·.pop)) P8 rfl
  have WA:∀ b o,b≠s.heap.objs.size->g.heap.get? b=some o->((g.heap.update s.heap.objs.size (Obj.mapSeq (·.push Value.none))).update s.heap.objs.size (Obj.mapSeq (·.pop))).get? b=some o:=
   λb o j e=>(Heap.get?_update_other _ _ (Ne.symm j)).trans ((Heap.get?_update_other _ _ (Ne.symm j)).trans e)
  refine wpAny_pure ⟨plainId_quiet F.plain_extend_loop _,codeAny_extend_loopS W K _ PD _ n 0 _ _ _ rfl (zero_le _) (W.frame 0 g _ g.toks st (le_refl _) λb j o e=>WA b o (λh=>PD (h▸j)) e) KA (ItemsOf.nil P) λs' Sw O C L5 QW=>?_⟩;refine hR s' Sw O (D Sw QW) (λb o e=>?_) (C.gens.trans H) (C.os.trans o1) L5;have j:b<s.heap.objs.size:=Heap.lt_size e;refine C.heap b o (λz=>?_) (WA b o (ne_of_lt j) (k b o (kp b o e)));rcases mem_cons.mp z with z |z
  ·exact ne_of_lt j z
  have:=u b z;rw[sz] at this;exact Nat.not_succ_le_self _ (Nat.le_trans this (le_of_lt j))
 have last:∀ (s':Shared) (d:Array Value) (c:Nat),B d.toList->(∀ b o,s.heap.get? b=some o->s'.heap.get? b=some o)->s'.gens=s.gens->s'.os=s.os->s'.heap.get? s.heap.objs.size=some { cls:=.type "list",dict:=none,data:=.seq d c,slots:=#[] } ->
   wpAny (model prog w) A (load s.heap.objs.size >>= λo=>match o.data with | .seq p _=>pure p.toList |_=>unsupported "internal:collect") Q E s':=λs' d c J M y G L=>wpAny_bind (wpAny_load L (wpAny_pure (hQ s' d.toList J M y G)))
 rcases Yn with rfl |rfl
 ·rw[if_neg (by rw[n1];decide)];refine wpAny_bind (Z _ _ _ kp λI fp i n P St g W st K t u k H o1 D=>?_);have m:g.TypeIs (.ref x) "set":=⟨Y,k _ _ (kp _ _ S),X⟩;refine wpAny_bind (wpAny_holding ?_);unfold Builtin.List.listLengthHint;refine wpAny_bind (wpAny_specialOf m F.slot_set_len.lookup ?_)
  (generalize q:("set.__len__":String)=id0;wp_delta;rw[show splitId id0=some ("set","__len__") from by subst q;decide];subst q)
  refine wpAny_bind (wpAny_isInstance (b:=true) m (by rw[isSubtype_type];kernel_rfl) ?_);refine wpAny_bind (wpAny_typeOf m ?_);refine wpAny_pure ?_;dsimp only;split
  ·refine main I fp i n P St g W st K t u k H o1 D (λr s'=>match r with
    | .ok (.ret v)=>wpAny (model prog w) A (match v with
     | .ref a=>do
      let o ← load a
      match o.data with
       | .seq p _=>pure p.toList
       |_=>unsupported "internal:collect"
     |_=>unsupported "internal:collect") Q E s'
    | .ok _=>False
    | .error e=>E e s') ?_
   exact λV d c J M y G L=>last V d c J M y G L
  rename_i U;exact absurd (by decide) U
 rw[if_neg (by rw[n1];decide)];refine wpAny_bind (Z _ _ _ kp λI fp i n P St g W st K t u k H o1 D=>?_);have m:g.TypeIs (.ref x) "dict":=⟨Y,k _ _ (kp _ _ S),X⟩;refine wpAny_bind (wpAny_holding ?_);unfold Builtin.List.listLengthHint;refine wpAny_bind (wpAny_specialOf m F.slot_dict_len.lookup ?_)
 (generalize q:("dict.__len__":String)=id0;wp_delta;rw[show splitId id0=some ("dict","__len__") from by subst q;decide];subst q)
 refine wpAny_bind (wpAny_isInstance (b:=true) m (by rw[isSubtype_type];kernel_rfl) ?_);refine wpAny_bind (wpAny_typeOf m ?_);refine wpAny_pure ?_;dsimp only;split
 ·refine main I fp i n P St g W st K t u k H o1 D (λr s'=>match r with
   | .ok (.ret v)=>wpAny (model prog w) A (match v with
    | .ref a=>do
     let o ← load a
     match o.data with
      | .seq p _=>pure p.toList
      |_=>unsupported "internal:collect"
    |_=>unsupported "internal:collect") Q E s'
   | .ok _=>False
   | .error e=>E e s') ?_
  exact λV d c J M y G L=>last V d c J M y G L
 rename_i U;exact absurd (by decide) U
end
end L2
namespace L2
open PySem PySem.Spec PyProof.Rows PySem.W
def iG:List D->Option (List Key)
 |[]=>some []
 |d::ds=>(eY d).bind λk=>(iG ds).map (k::·)
def kO (d:D)(S:Ig):Option D:=match d with
 | .tup a=>(c_ a).map .lst
 | .lst a=>(c_ a).map .lst
 | .loc l=>match S[l]? with
  |some (.dict kvs)=>(c_ (kvs.map (·.1))).map .lst
  |_=>none
 |_=>none
def vp (f:H9 D):H9 D:=λb S=>ah (f b S) λd a=>aP (kO d a) a
def g0:List D->Option D
 |[.int j]=>if -(2 ^ 62)<=j/\j<=16777216 then some (.lst ((List.range j.toNat).map λ(k:Nat)=>D.int k)) else none
 |_=>none
def GE:D->Option D
 | .str x=>if x.cps.all (·<128)=true then some (.str ⟨x.cps.map up1⟩) else none
 |_=>none
def sj:D->Bool
 | .str _=>true
 |_=>false
def s_ (k:D->Bool)(g:D->D->Option D)(fe d:H9 D):H9 D:=λa S=>ah (fe a S) λx b=>if k x=true then ah (d a b) λy c=>aP (g x y) c else none
def findD:D->D->Option D
 | .str x,.str y=>some (.int (Txt.find x y))
 |_,_=>none
section
variable {X:Cx}{W:WT}
theorem zx:Jb X (.type "range") (λxs H Q => ∃ j:Int,xs=[.int j]/\∀ p,H p=none->Q (.ref p) (upd H p (.PU 0 j))):=by intro a s f H xs d Q I r h;obtain⟨j,rfl,q⟩:=h;obtain⟨u,rfl,c⟩:=vals1 r;obtain⟨t,rfl⟩:=c;refine call_range_1 ?_;exact⟨.ref s.heap.objs.size,_,I.laid (t':=s.toks+1+1) (λb o e=>Heap.get?_push_of_some _ e) (le_refl _) (show IY X.prog X.w _ _ _ (.PU 0 j) from⟨_,_,_,Heap.get?_push_size _ rfl⟩),rfl,q _ I.fresh⟩
theorem wK {a:Array Value}{n:Nat}(h:ItemsOf (λi v => ∃ t,v = .int (0+(i:Int)*1) t) a n):Vals ((List.range n).map λ(k:Nat)=>V.int k) a.toList:=by
 obtain⟨g,d⟩:=h
 have key:∀ (l:List Value) (i:Nat),(∀ (j:Nat) v,l[j]?=some v->∃ t,v = .int (((i+j:Nat):Int)) t)->Vals ((range' i l.length).map λ(k:Nat)=>V.int k) l:=by
  intro l
  induction l with
  |nil=>intro i _;exact .nil
  |cons v r f =>
   intro i c;rw[length_cons,range'_succ,map_cons];refine .cons (by obtain⟨t,e⟩:=c 0 v rfl;exact⟨t,by simpa using e⟩) (f (i+1) λj v b=>?_);obtain⟨t,e⟩:=c (j+1) v (by simpa using b);exact⟨t,by rw[e];congr 2;omega⟩
 have q:=key a.toList 0 λj v b=>by obtain⟨t,e⟩:=d j v (by rw[← getElem?_toList];exact b);exact⟨t,by rw[e];congr 1;simp⟩
 rw[length_toList,g,← List.range_eq_range'] at q;exact q
theorem wR (z:X.calm=true):Jb X (.type "list") (λxs H Q => ∃ (p:Addr) (j:Int),xs=[.ref p]/\H p=some (.PU 0 j)/\-(2 ^ 62)<=j/\j<=16777216/\∀ l,H l=none->Q (.ref l) (upd H l (.lst ((List.range j.toNat).map λ(k:Nat)=>V.int k)))):=by intro e s D H xs A Q I r h;obtain⟨p,j,rfl,y,w,B,q⟩:=h;obtain⟨u,rfl,i⟩:=vals1 r;cases i;obtain⟨t,u,v,g⟩:∃ t u v,s.heap.get? p=some { cls:=.type "range",data:=.fields #[.int 0 t,.int j u,.int 1 v] }:=I.IL p _ y;refine call_list_range (a:=0) (b:=j) (c:=1) (t:=t) (u:=u) (v:=v) (n:=j.toNat) (I.ok.hd z) g (small_one (by omega) (by omega) w (by omega)) (by rw[rangeSize_one];split<;>omega) (by omega) λC tk d c k x m=>?_;have f:=wK m;refine⟨.ref s.heap.objs.size,_,I.laid (t':=tk) (o:=.lst ((List.range j.toNat).map λ(k:Nat)=>V.int k)) k (le_refl _) ⟨?_,d.toList,c,f,by simpa using x⟩,rfl,q _ I.fresh⟩;rw[length_map,length_range];show j.toNat<=16777216;omega
variable {e:Expr}{fe:H9 D}{gs:H9 (List D)}{pos LH p p2:Pos}{x y:Str}
theorem pJ {a:Expr}(t:x="list")(L:y="range")(P:X.calm=true)(C:X.mg x=none)(I:X.mg y=none)(f:SA X W [a] gs)(B:Gl X x:=by rfl)(A:Gl X y:=by rfl)
  (u:starEach [a] X.env=(false,eval a X.env)::starEach [] X.env:=by rfl)
  (o:starEach [(.Call (.Name y p2) [a] [] LH)] X.env=(false,eval (.Call (.Name y p2) [a] [] LH) X.env)::starEach [] X.env:=by rfl)
  (w:(backTo LH (starEach [] X.env)).any (·.1)=false:=by rfl) (F:(backTo pos (starEach [] X.env)).any (·.1)=false:=by rfl) :
  SE X W (.Call (.Name x p) [.Call (.Name y p2) [a] [] LH] [] pos) (a9 g0 gs):=by
 subst t L;have inner:=gT (X:=X) (p:=p2) (pos:=LH) zx A I BI f (by decide) (by decide) u w;refine PE.imp (gT (wR P) B C ti (cK inner Js o) (by decide) (by decide) o F) λU H Q h=>?_;refine(tG.Kt h).mono λS e ⟨ds,b,i⟩=>?_;rw[append_nil,append_nil] at i;obtain⟨J,T,d,G,m,eq,q⟩:=tG.V4 i;unfold g0 at eq;split at eq
 ·rename_i j;split at eq
  ·rename_i c;cases eq;obtain⟨v,r,rfl,R,n⟩:=Il.Ik.mp m;cases Il.Io.mp n;cases At.Ij.mp R;refine⟨j,rfl,λp O=>?_⟩;show pH _ _ _;refine⟨p,j,rfl,Iv,c.1,c.2,λl b=>?_⟩;have E:p≠l:=λz=>by rw[z,Iv] at b;cases b
   have s:e l=none:=by rw[aF E.symm] at b;exact b
   have N:Iz e (upd e p (.PU 0 j)):=aQ O _;have M:=N.trans (aQ b (.lst ((List.range j.toNat).map λ(k:Nat)=>V.int k)));refine q _ _ M ?_;have g:=Il.ofInts (K:=X.K) (H:=upd e p (.PU 0 j)) (J:=J) ((List.range j.toNat).map λ(k:Nat)=>(k:Int));rw[map_map,map_map] at g
   exact At.JM (ds:=(List.range j.toNat).map λ(k:Nat)=>D.int k) g b (λa f=>by
    by_cases z:a=p
    ·rw[z,Iv];simp
    rw[aF z];exact G a f) (by rw[length_map,length_range];show j.toNat<=16777216;omega)
  cases eq
 cases eq
theorem CS:TM X "str.find" (λx xs H Q => ∃ z y,x = .str z/\xs=[.str y]/\Q (.int (Txt.find z y)) H):=by intro a s f H x xs v e Q I c d h;obtain⟨z,y,rfl,rfl,q⟩:=h;obtain⟨t,rfl⟩:=c;obtain⟨u,rfl,b⟩:=vals1 d;obtain⟨t2,rfl⟩:=b;exact SC.find ⟨.int (Txt.find z y),H,I.tok _,⟨_,rfl⟩,q⟩
theorem oG {k:D->Bool}{g:D->D->Option D}{j:H9 D}{T:String}{r:V->List V->Hp->VK->Prop}{l:St}{H:Hp}{Q:VK}(p:∀ J f d v,k d=true->At X.K f J d v->Rn X.K T v f)
  (n:∀ (v v2:V) (a:Hp) (Q:VK),QH X.K g v v2 a Q->r v [v2] a Q) (h:tE X W (s_ k g fe j) l H Q):V3 X.K T r (tE X W fe) (Dw (tE X W j) pH) l H Q:=
 (tG.Iw h).mono λv f Zq=>by
  obtain⟨d,b⟩:=Zq
  by_cases i:k d=true
  ·simp only[i,if_true] at b;refine⟨?_,(tG.Iw b).mono λv2 a ⟨t,o⟩=>n v v2 a Q (tG.UL o)⟩;obtain⟨J,_,_,_,_,_,m,_,_⟩:=b;exact p J f d v i m.Iq.1
  obtain⟨J,s,S,r,q,c,m,e,z⟩:=b;simp only[i,false_eq_true,if_false] at e;cases e
theorem DW {J:List Addr}{a:Hp}{d:D}{v:V}(b:sj d=true)(m:At X.K a J d v):Rn X.K "str" v a:=by
 cases d<;>first |(cases b;done) |skip
 rename_i z;cases (At.Iy.mp m).1;rfl
theorem CU {o:Expr}{name:Str}{b c:Pos}{a:Expr}{f:H9 D}(t:name="find")(n:SE X W o fe)(i:SE X W a f)(l:attributeBase o name X.env (eval o X.env)=eval o X.env:=by rfl)
  (k:((backTo c (starEach [a] X.env)).all (λx => !x.1)&&(backToKw c (keywordEach [] X.env)).all (λx=>x.1.isSome)
   && decide ([a].length+([]:List Keyword).length+(if ([]:List Keyword).isEmpty then 0 else 1)<30))=true:=by rfl)
  (u:(b.endLine==c.line)=true:=by rfl) (e:starEach [a] X.env=(false,eval a X.env)::starEach [] X.env:=by rfl) (j:(backTo c (starEach [] X.env)).any (·.1)=false:=by rfl) :
  SE X W (.Call (.Attribute o name b) [a] [] c) (s_ sj findD fe f):=by
 subst t;refine PE.imp (xD F.plainAttrs_str F.slot_str_find F.type_str_find CS n (cK i Js e) l k u e j) λI H Q h=>oG (λJ G d v p m=>DW p m) (λv C g Q q=>?_) h;obtain⟨J,B,A,w,E,s,r,eq,q⟩:=q;unfold findD at eq;split at eq
 ·rename_i z y;cases eq;cases (At.Iy.mp s).1;cases (At.Iy.mp r).1;exact⟨z,y,rfl,rfl,q g _ (Iz.refl _) (At.Ij.mpr rfl)⟩
 cases eq
def T2:Key->Bool
 | .inl _=>true
 | .inr _=>false
def pS (P:Program)(w:World)(p:Addr)(a:List Key):HO:=HO.ext λh=>Jf (bo P w) T2 (!Md w) h p a
theorem r_ {k:Key}{u:Value}(r:RelV (kV k) u):u.scannable=true/\plainKind u=T2 k:=by
 cases k with
 |inl i=>obtain⟨t,e⟩:=(show ∃ t,u=Value.int i t from r);subst e;exact⟨rfl,rfl⟩
 |inr x=>obtain⟨t,e⟩:=(show ∃ t,u=Value.str x t from r);subst e;exact⟨rfl,rfl⟩
theorem uK (a:List Key):met (λi=>a.getD i (.inl 0)) a.length=a.foldl bY []:=by unfold met;congr 1;apply List.ext_getElem (by simp);intro i b c;simp at b;simp[List.getD,b]
theorem E6 (E:X.calm=true):Jb X (.type "set") (λxs H Q => ∃ (a:Addr) (c:List Key),xs=[.ref a]/\LW X.K H a (c.map kV)/\c.length+1<4096/\∀ p,H p=none->Q (.ref p) (upd H p (pS X.prog X.w p (c.foldl bY [])))):=by
 intro y s R H xs L Q I r h;obtain⟨a,c,rfl,J,F,q⟩:=h;obtain⟨u,rfl,A⟩:=vals1 r;cases A;obtain⟨its,j,tp,P⟩:=I.tuple J;have d:its.length=c.length:=by rw[← j.length,length_map]
 refine sQ (knd:=bo X.prog X.w) (pk:=T2) (I.ok.hd E) (show s.heap.IsTuple a its.toArray from tp) (λi=>c.getD i (.inl 0)) (λi v B=>?_) (by rw[size_toArray,d];exact F) λO tk g k=>?_
 ·have m:its[i]?=some v:=by simpa using B
  have n:i<c.length:=by rw[← d];exact(List.getElem?_eq_some_iff.mp m).1
  obtain⟨u,l,f⟩:=j.get (i:=i) (x:=kV c[i]) (by rw[getElem?_map,List.getElem?_eq_getElem n];rfl);rw[m] at l;cases l;have G:c.getD i (.inl 0)=c[i]:=by simp[List.getD,n]
  simp only[G];exact⟨oN f,(r_ f).1,(r_ f).2⟩
 have D:its.toArray.size=c.length:=by rw[size_toArray,d]
 rw[D,uK] at g;refine⟨.ref s.heap.objs.size,_,I.laid (t':=tk) (o:=pS X.prog X.w s.heap.objs.size (c.foldl bY [])) (λb o e=>k b o (Heap.lt_size e) e) (le_refl _) ⟨g,?_,λN M z k=>z.keep k⟩,rfl,q _ I.fresh⟩;obtain⟨o,es,ep,t,C,_⟩:=g;exact⟨o,C⟩
theorem Jf.len {h:Heap}{p:Addr}{a:List Key}{P:Program}{w:World}{es:Array (Int×Value)}(d:∃ l:List (Int×Value),l.Perm es.toList/\Paired (vJ (bo P w)) a l):es.size=a.length:=by obtain⟨l,b,r⟩:=d;have c:=b.length_eq;have e:=mR r;simp only[length_toList] at c;omega
theorem xP {K:H_}{H:Hp}{J:List Addr}:∀ {ds:List D}{b:List Key}{vs:List V},iG ds=some b->Il K H J ds vs->vs=b.map kV
 |[],b,vs,e,m=>by cases e;exact Il.Io.mp m
 |d::ds,b,vs,e,m=>by
  obtain⟨v,r,rfl,a,n⟩:=Il.Ik.mp m;rw[iG] at e;obtain⟨k,f,h⟩:=bind_eq_some_iff.mp e;obtain⟨i,g,c⟩:=map_eq_some_iff.mp h;subst c;rw[map_cons,uU f a,xP g n]
theorem qA:∀ {ds:List D}{a:List Key},iG ds=some a->a.length=ds.length
 |[],a,e=>by cases e;rfl
 |d::ds,a,e=>by
  rw[iG] at e;obtain⟨k,h,f⟩:=bind_eq_some_iff.mp e;obtain⟨g,c,b⟩:=map_eq_some_iff.mp f;subst b;rw[length_cons,length_cons,qA c]
theorem Jf.vals {P:Program}{w:World}{a:List Key}{l:List (Int×Value)}(r:Paired (vJ (bo P w)) a l):Vals (a.map kV) (l.map (·.2)):=by
 induction r with
 |nil=>exact .nil
 |cons f t c =>
  rename_i k e a l;refine .cons ?_ c;obtain⟨b,_,_⟩:=f;rcases br b with ⟨i,t,rfl,e⟩ |⟨x,t,rfl,e⟩
  ·exact⟨t,e⟩
  exact⟨t,e⟩
theorem yt:∀ {us us':List Value},us'.Perm us->∀ {vs:List V},Vals vs us->∃ c:List V,c.Perm vs/\Vals c us':=by
 intro us us' f
 induction f with
 |nil=>intro vs r;exact⟨vs,.refl _,r⟩
 |cons x _ j =>
  intro vs r;cases r with
  |cons a b=>obtain⟨w,p,q⟩:=j b;exact⟨_::w,p.cons _,.cons a q⟩
 |swap x y l =>
  intro vs r;cases r with
  |cons a b=>cases b with
   |cons i d=>exact⟨_::_::_,.swap ..,.cons i (.cons a d)⟩
 |trans _ _ e k =>
  intro vs r;obtain⟨w,p,q⟩:=k r;obtain⟨g,h,m⟩:=e q;exact⟨g,h.trans p,m⟩
theorem BL {K:H_}{H:Hp}{J:List Addr}{c vs:List V}(i:c.Perm vs):∀ {ds:List D},Il K H J ds vs->∃ e:List D,e.Perm ds/\Il K H J e c:=by
 induction i with
 |nil=>intro ds m;exact⟨ds,.refl _,m⟩
 |cons x _ n =>
  intro ds m;cases ds with
  |nil=>cases Il.Io.mp m
  |cons d ds=>obtain⟨a,b⟩:=m.Iq;obtain⟨w,p,q⟩:=n b;exact⟨d::w,p.cons _,.cons a q⟩
 |swap x y l =>
  intro ds m;cases ds with
  |nil=>cases Il.Io.mp m
  |cons d ds=>cases ds with
   |nil=>cases Il.Io.mp m.Iq.2
   |cons s ds=>obtain⟨a,b⟩:=m.Iq;obtain⟨f,g⟩:=b.Iq;exact⟨s::d::ds,.swap ..,.cons f (.cons a g)⟩
 |trans _ _ h o =>
  intro ds m;obtain⟨w,p,q⟩:=o m;obtain⟨j,k,r⟩:=h q;exact⟨j,k.trans p,r⟩
theorem uZ {K:Type}[DecidableEq K]:∀ (l b:List K) (k:K),k∈l.foldl bY b↔k∈b∨k∈l
 |[],b,k=>by simp
 |a::l,b,k=>by
  rw[foldl_cons,uZ l,mem_cons];unfold bY;split
  ·constructor
   ·rintro (h |h)
    ·exact .inl h
    exact .inr (.inr h)
   rintro (h |rfl |h)
   ·exact .inl h
   ·left;assumption
   exact .inr h
  simp only[mem_append,mem_singleton];constructor
  ·rintro ((h |h) |h)
   ·exact .inl h
   ·exact .inr (.inl h)
   exact .inr (.inr h)
  rintro (h |h |h)
  ·exact .inl (.inl h)
  ·exact .inl (.inr h)
  exact .inr h
theorem Inv.moved {a:Ib}{c:St}{H:Hp}{s s':Shared}(I:Inv X a c H s)(k:∀ b o,s.heap.get? b=some o->s'.heap.get? b=some o)(g:s'.gens=s.gens)(o:s'.os=s.os):Inv X a c H s':=by obtain⟨e,g',d',t',d⟩:=s';cases g;cases o;exact I.call (d':=d') (t':=t') (g':=s.gens) (ch:=[]) (Un.kept k) (I.IL.kept k) I.bare λb z=>absurd z (by simp)
theorem sN (hc:X.calm=true):Jb X (.builtin "sorted") (λxs H Q => ∃ (p:Addr) (n:List Key) (J:List Addr) (ds out:List D),xs=[.ref p]/\H p=some (pS X.prog X.w p n)/\(∀ a∈J,H a≠none)/\Il X.K H J ds (n.map kV)/\c_ ds=some out/\∀ H' v,Iz H H'->At X.K H' J (.lst out) v->Q v H'):=by
 intro R s σ H xs C Q I r h;obtain⟨p,n,J,ds,out,rfl,Z,hJ,m0,e,q⟩:=h;obtain⟨u,rfl,U⟩:=vals1 r;cases U;obtain⟨⟨o,es,ep,t,m,hex,hd,B,f,G,K7,_,T⟩,_,_⟩:=I.IL p _ Z;obtain⟨l,pm,rl⟩:=id B;have ez:=Jf.len (h:=s.heap) (p:=p) B;have O:es.size<=sizeLine:=le_of_lt (lt_of_lt_of_le f (by decide));refine jq hJ e q λQ' E W=>?_;have Y:X.A.in1.handled=none:=I.ok.hd hc;refine m9 (.inl rfl) ⟨o,m,hex.1⟩ (λC=>C.Perm (l.map (·.2))) (λS Q2 E2 x T3=>?_) λs' c SD k g os=>?_
 ·refine wm (s:={ s with heap:=S }) (x _ _ m) hex hd G O (λf=>by rw[K7,f];rfl) T λit L fp F first h' d y si hF M j O8=>?_
  have JG:p≠it:=λz=>by have N:p<S.objs.size:=Heap.lt_size (x _ _ m);rw[z] at N;exact absurd (lt_of_lt_of_le N j) (Nat.lt_irrefl _)
  refine T3 it fp [it] es.size _ _ _ ((Walks.set (A:=X.A.in1.in1) Y y JG hex hd G).toS) ⟨M _ _ (x _ _ m),first,si,hF⟩ O O8 (λb f=>by rw[mem_singleton.mp f];exact j) M rfl rfl λc V=>?_;obtain⟨a1,a2⟩:=V;have osz:L.size=es.size:=by have:=y.perm.length_eq;simpa using this
  have e3:c.toList=L.toList.map (·.2):=by
   apply ext_getElem?;intro i;by_cases hi:i<es.size
   ·have P:c[i]?=some c[i]:=Array.getElem?_eq_getElem (by omega);have:=a2 i _ P;rw[getElem?_map,getElem?_toList,getElem?_toList,P,this]
   rw[getElem?_map,getElem?_toList,getElem?_toList,Array.getElem?_eq_none (by omega),Array.getElem?_eq_none (by omega)];rfl
  rw[e3];exact(y.perm.trans pm.symm).map _
 have rv:=Jf.vals rl;obtain⟨L3,p1,r1⟩:=yt SD rv;obtain⟨My,p2,m2⟩:=BL p1 m0;exact W c L3 s' My (I.moved k g os) r1 p2 m2
theorem lR {α c:Type}{R : α->c->Prop}:∀ {l:List α}{m:List c},l.length=m.length->(∀ (i:Nat) a b,l[i]?=some a->m[i]?=some b->R a b)->Paired R l m
 |[],[],_,_ => .nil
 |a::l,b::m,h,k => .cons (k 0 a b rfl rfl) (lR (by simpa using h) λi x y d e=>k (i+1) x y (by simpa using d) (by simpa using e))
 |[],_::_,h,_=>by simp at h
 |_::_,[],h,_=>by simp at h
theorem oA {α e:Type}{R : α->e->Prop}{l:List α}{m:List e}(r:Paired R l m):∀ (i:Nat) a b,l[i]?=some a->m[i]?=some b->R a b:=by
 induction r with
 |nil=>intro i a b h;simp at h
 |cons f t g =>
  intro i a b d c;cases i with
  |zero=>simp at d c;subst d c;exact f
  |succ i=>exact g i a b (by simpa using d) (by simpa using c)
theorem xQ {P:Program}{w:World}{k:Key}{u:Value}(h:(bo P w).is k u=true):RelV (kV k) u:=by
 rcases br h with ⟨i,t,rfl,e⟩ |⟨x,t,rfl,e⟩
 ·exact⟨t,e⟩
 exact⟨t,e⟩
theorem vh (hc:X.calm=true):Jb X (.builtin "sorted") (λxs H Q => ∃ (p:Addr) (j:List (Key×V)) (J:List Addr) (ds out:List D),xs=[.ref p]/\H p=some (.dK j)/\(∀ a∈J,H a≠none)/\Il X.K H J ds (j.map λq=>kV q.1)/\c_ ds=some out/\∀ H' v,Iz H H'->At X.K H' J (.lst out) v->Q v H'):=by
 intro F s σ H xs B Q I r h;obtain⟨p,j,J,ds,out,rfl,hp,Y,m,e,q⟩:=h;obtain⟨u,rfl,M⟩:=vals1 r;cases M;obtain⟨hz,T,n,C,hd⟩:=I.IL p _ hp;obtain⟨ep,Z⟩:=hd.dictAt;have d:n.length=j.length:=(KV.length C).symm;refine jq Y e q λQ' E S=>?_;have W:X.A.in1.handled=none:=I.ok.hd hc;refine m9 (.inr rfl) hd.typeIs (λB=>Vals (j.map λq=>kV q.1) B) (λf Q2 E2 O T3=>?_) λs' c l k g os=>?_
 ·have t:f.DictAt (bo X.prog X.w) p n ep:=Z.keep O;refine wpAny_pyIter_dict (s:={ s with heap:=f }) T t ?_;have U:p<f.objs.size:=t.lt_size
  refine T3 f.objs.size [f.objs.size,p] [f.objs.size] n.length _ _ _ ((Walks.dictKeys (A:=X.A.in1.in1) W f.objs.size p (ne_of_lt U) n ep).toS) ⟨⟨_,Heap.get?_push_size _ rfl,rfl,rfl⟩,t.push _⟩ (by rw[d];exact hz)
   (λb hb=>by
    rcases mem_cons.mp hb with z |hb
    ·rw[z];exact .inr (le_refl _)
    exact .inl (mem_singleton.mp hb))
   (λb hb=>by rw[mem_singleton.mp hb];exact le_refl _) (λb o e=>Heap.get?_push_of_some _ e) rfl rfl λc P=>?_
  obtain⟨a1,L⟩:=P;refine lR (by have y:c.toList.length=c.size:=length_toList;rw[length_map,y,a1,d]) λi v u l G=>?_;rw[getElem?_toList] at G;obtain⟨k,x,y,R⟩:=L i u G;rw[getElem?_map] at l;obtain⟨q,e3,e4⟩:=map_eq_some_iff.mp l;have N:=(oA C i q (k,x) e3 y).1;rw[← e4,N];exact xQ R
 exact S c _ s' ds (I.moved k g os) l (.refl _) m
theorem xu (D:x="sorted")(M:X.calm=true)(w:X.mg x=none)(n:SE X W e fe)(u:Gl X x:=by rfl)(g:starEach [e] X.env=(false,eval e X.env)::starEach [] X.env:=by rfl)(s:(backTo pos (starEach [] X.env)).any (·.1)=false:=by rfl) :
  SE X W (.Call (.Name x p) [e] [] pos) (vp fe):=by
 subst D
 refine SE.either (g1:=a9 zZ (ag fe aA)) (g2:=λi S=>ah (fe i S) λd j=>aP (match d with | .loc l=>(match j[l]? with |some (.dict b)=>(c_ (b.map (·.1))).map .lst |_=>none) |_=>none) j)
  (a8 Dk w jG (ae n ai g) u (by decide) (by decide) g s) ?_ λi S=>?_
 ·refine PE.imp (i9 (vh M) u w jG (cK n Js g) (by decide) (by decide) g s) λR H Q h=>?_;refine(tG.Iw h).mono λv P ⟨d,G⟩=>?_;obtain⟨J,i,S,r,O,c,m,eq,z⟩:=G;obtain⟨m,_⟩:=m.Iq;show pH _ _ _;cases d with
  |loc l =>
   obtain⟨a,rfl,B⟩:=At.II.mp m;cases hS:S[l]? with
   |none=>simp[hS] at eq
   |some I =>
    cases I with
    |lst N=>simp[hS] at eq
    |exc c=>simp[hS] at eq
    |Ir _=>simp[hS] at eq
    |ins _ _=>simp[hS] at eq
    |dict b =>
     simp only[hS] at eq;cases hq:c_ (b.map (·.1)) with
     |none=>simp[hq] at eq
     |some out =>
      simp only[hq,map_some,bV,Ip] at eq;cases eq;obtain⟨E,y,F⟩:=c.IW.at_ l a _ B hS;refine⟨a,E,J,b.map (·.1),out,rfl,y,c.IW.all,?_,hq,λA v k L=>z J A v (Ex.same k) (c.IW.same k) L⟩;clear hq hS z y
      induction F with
      |nil=>exact .nil
      |cons f t K=>exact .cons f.1.2 K
  |_=>simp at eq
 unfold vp a9 ag aA;cases q:fe i S with
 |none=>exact .inl rfl
 |some o =>
  obtain⟨C,j⟩:=o;cases C with
  |error c=>exact .inl rfl
  |ok d=>cases d<;>first |exact .inl rfl |exact .inr rfl
end
mutual
inductive Lit:Expr->D->Prop
 |int {i:Int}{j p}:Lit (.Constant (.int i) j p) (.int i)
 |bl {b:Bool}{j p}:Lit (.Constant (.bool b) j p) (.bl b)
 |Jm {j p}:Lit (.Constant .none j p) .Jm
 |str {x:Str}{j p} (hx:P4 x):Lit (.Constant (.str x) j p) (.str x)
 |neg {i:Int}{j p q}:Lit (.UnaryOp .USub (.Constant (.int i) j p) q) (.int (-i))
 |tup {es:List Expr}{ds:List D}{k p} (h:NX es ds) (n:ds.length<=1000):Lit (.Tuple es k p) (.tup ds)
 |lst {es:List Expr}{ds:List D}{p} (h:NX es ds) (n:ds.length<=1000):Lit (.List es p) (.lst ds)
inductive NX:List Expr->List D->Prop
 |nil:NX [] []
 |cons {e:Expr}{d:D}{es:List Expr}{ds:List D}(h:Lit e d) (r:NX es ds):NX (e::es) (d::ds)
end
section
variable {X:Cx}{W:WT}
theorem SE.eq {e:Expr}{g g':H9 D}(h:SE X W e g)(q:g=g'):SE X W e g':=q▸h
theorem SA.eq {e:List Expr}{g g':H9 (List D)}(h:SA X W e g)(q:g=g'):SA X W e g':=q▸h
theorem zW {e:Expr}{d:D}(h:Lit e d)(es:List Expr):starEach (e::es) X.env=(false,eval e X.env)::starEach es X.env:=by cases h<;>rfl
mutual
theorem lO:∀ {e:Expr}{d:D},Lit e d->SE X W e (aB d)
 |_,_,.int=>ao
 |_,_,.bl=>fG
 |_,_,.Jm=>D5
 |_,_,.str a=>dO a
 |_,_,.neg=>SE.eq (Dy zO ao) rfl
 |_,_,.tup (ds:=ds) h n=>SE.eq (eE (we h)) (by
   funext ρ S;show aP (Lp ds (.tup ds)) S=Ip (.tup ds) S;unfold Lp
   rw[if_pos (Nat.le_trans n (by decide))];rfl)
 |_,_,.lst (ds:=ds) h n=>SE.eq (gw (we h)) (by
   funext ρ S;show aP (Lp ds (.lst ds)) S=Ip (.lst ds) S;unfold Lp
   rw[if_pos (Nat.le_trans n (by decide))];rfl)
theorem we:∀ {es:List Expr}{ds:List D},NX es ds->SA X W es (λ_ S=>Ip ds S)
 |_,_,.nil=>ai
 |_,_,.cons h r=>SA.eq (ae (lO h) (we r) (zW h _)) rfl
end
end
def Gj (F:Ie)(t:H9 (List D)):H9 D:=λc S=>ah (t c S) λb a=>F b a
def E9 (c:Str)(t:H9 (List D)):H9 Fl:=λd S=>ah (t d S) λe a=>ah (aP (Lp e .Jm) a) λ_ b=>some (.error c,b)
end L2
namespace L2
open PySem PySem.Spec PySem.Calls PyProof.Rows PySem.W
structure WB (K:Frag) (C:Addr):Prop where
 cls:findIn K (.ref C) "__class__"=some (some (.builtin "object.__class__"))
 ga:findIn K (.ref C) "__getattribute__"=some (some (.builtin "BaseException.__getattribute__"))
 gn:findIn K (.ref C) "__getattr__"=some none
 so:subIn K (.ref C) (.type "object")=some true
 sb:subIn K (.ref C) (.type "BaseException")=some true
 is:(clsIn K C).isSome=true
end L2
namespace L2
open PySem PySem.Spec PyProof.Rows PySem.W
section
variable {X:Cx}{W:WT}{e:Expr}{fe fa:H9 D}{pos p p2:Pos}
def F1 (a:Str->Option Bool)(d:D)(S:Ig):Option D:=match d with
 | .loc l=>(match S[l]? with
  |some (.exc c)=>(a c).map .bl
  |_=>none)
 |_=>none
def Hl (a:Str->Option Bool)(fe:H9 D):H9 D:=λc S=>ah (fe c S) λd b=>aP (F1 a d b) b
end
def eD (gt:H9 Bool)(e:H9 Fl):Nat->H9 Fl
 | 0,_,_=>none
 |n+1,ρ,S=>ah (gt ρ S) λb g=>if b=true then ah (e ρ g) λf c=>(match f with
   | .next a=>eD gt e n a c
   | .cont a=>eD gt e n a c
   | .brk a=>Ip (.next a) c
   | .ret d=>Ip (.ret d) c) else Ip (.next ρ) g
def sW (n:Nat)(gt:H9 Bool)(a:H9 Fl):H9 Fl:=eD gt a n
section
variable {X:Cx}{W:WT}{pos:Pos}
theorem vS {gt:H9 Bool}{u:H9 Fl}{n:Nat}{D:Ends}{w:St}{H:Hp}(h:tS X W (sW n gt u) D w H):zU (tT X W gt) (tS X W u) D w H:=by
 refine⟨λm w H=>tS X W (eD gt u m) D w H,⟨n,h⟩,λm w H h=>?_⟩;obtain⟨J,i,S,r,C,c,e,z⟩:=h;cases m with
 |zero=>cases e
 |succ m =>
  unfold eD at e;cases q:gt i S with
  |none=>simp[q] at e
  |some o =>
   obtain⟨I,k⟩:=o;simp only[q] at e;cases I with
   |error y =>
    cases e;exact⟨J,i,S,.error y,_,c,.nil,q,z⟩
   |ok b =>
    refine⟨J,i,S,.ok b,k,c,.nil,q,λt E N x L m1=>?_⟩;cases m1;have A:Cf X t i k w E:=c.re x L;have z1:K6 X W t E r C D:=K6.ex z x;cases b with
    |false =>
     have e:(Ip (.next i) k:Out Fl)=some (r,C):=e;cases e;exact z1 t w E Ex.refl A
    |true =>
     refine⟨λg j=>tS X W (eD gt u m) D g j,λg j M=>⟨m,lt_succ_self m,M⟩,?_⟩
     have e:ah (u i k) (λf p=>(match f with
       | .next a=>eD gt u m a p
       | .cont a=>eD gt u m a p
       | .brk a=>Ip (.next a) p
       | .ret d=>Ip (.ret d) p:Out Fl))=some (r,C):=e
     cases q2:u i k with
     |none=>simp[q2] at e
     |some o2 =>
      obtain⟨K,p⟩:=o2;rw[q2] at e;cases K with
      |error y =>
       cases e;exact⟨t,i,k,.error y,_,A,q2,λl j s F=>z1 l j s F⟩
      |ok f =>
       cases f with
       |next a=>exact⟨t,i,k,_,p,A,q2,λl g j s B=>⟨l,a,p,r,C,B,e,K6.ex z1 s⟩⟩
       |cont a=>exact⟨t,i,k,_,p,A,q2,λl g j s B=>⟨l,a,p,r,C,B,e,K6.ex z1 s⟩⟩
       |brk a =>
        cases e;exact⟨t,i,k,_,_,A,q2,λl g j s B=>z1 l g j s B⟩
       |ret d =>
        cases e;exact⟨t,i,k,_,_,A,q2,λl j v s F G=>z1 l j v s F G⟩
theorem zX {t:Expr}{body:List Stmt}{gt:H9 Bool}{a:H9 Fl}{n:Nat}(b:PassesOwn (model X.prog X.w) X.A X.env X.xe)(c:Lc X W t gt)(d:Nc X W body a):SS X W (.While t body [] pos) (sW n gt a):=
 PS.imp (Ar b c d) λE e H h=>vS h
end
section
variable {X:Cx}{W:WT}{fe fa:H9 D}
theorem eZ:∀ {us:List Value}{ns:List Int},Vals (ns.map V.int) us->IntsAre us ns
 |_,[],r=>by cases r;exact .nil
 |_,n::ns,r=>by
  cases r with
  |cons a b =>
   obtain⟨t,rfl⟩:=a;exact .cons n t (eZ b)
theorem AQ:TM X "list.index" (λx xs H Q => ∃ (a:Addr) (ns:List Int) (k:Int),x = .ref a/\xs=[.int k]/\Lw X.K H a (ns.map V.int)/\PyData.layable0 (.list (ns.map .int))=true/\k∈ns/\Q (.int (ns.idxOf k:Nat)) H):=by intro b s t H x xs v r Q I l p h;obtain⟨a,ns,k,rfl,rfl,e,m,f,q⟩:=h;cases l;obtain⟨u,rfl,d⟩:=vals1 p;obtain⟨t2,rfl⟩:=d;obtain⟨its,c,⟨o,n,j,g,_,i⟩,_⟩:=I.list e;exact index_list_ints (vs:=its) ⟨o,j,g,n,i⟩ (eZ c) m f ⟨.int _,H,I.tok _,⟨_,rfl⟩,q⟩
def sk:D->Bool
 | .lst _=>true
 |_=>false
def oR:D->D->Option D
 | .lst a,.int k=>(ck a).bind λns=>if k∈ns/\PyData.layable0 (.list (ns.map .int))=true then some (.int (ns.idxOf k:Nat)) else none
 |_,_=>none
theorem EI {J:List Addr}{b:Hp}{d:D}{v:V}(e:sk d=true)(m:At X.K b J d v):Rn X.K "list" v b:=by
 cases d<;>first |(cases e;done) |skip
 rename_i g;obtain⟨a,c,rfl,f,_⟩:=At.ID.mp m;exact .inl ⟨rfl,c,f.sq⟩
theorem AU {o:Expr}{name:Str}{b c:Pos}{a:Expr}(A:name="index")(u:SE X W o fe)(j:SE X W a fa)(s:attributeBase o name X.env (eval o X.env)=eval o X.env:=by rfl)
  (r:((backTo c (starEach [a] X.env)).all (λx => !x.1)&&(backToKw c (keywordEach [] X.env)).all (λx=>x.1.isSome)
   && decide ([a].length+([]:List Keyword).length+(if ([]:List Keyword).isEmpty then 0 else 1)<30))=true:=by rfl)
  (D:(b.endLine==c.line)=true:=by rfl) (f:starEach [a] X.env=(false,eval a X.env)::starEach [] X.env:=by rfl) (n:(backTo c (starEach [] X.env)).any (·.1)=false:=by rfl) :
  SE X W (.Call (.Attribute o name b) [a] [] c) (s_ sk oR fe fa):=by
 subst A;refine PE.imp (xD F.plainAttrs_list F.slot_list_index F.type_list_index AQ u (cK j Js f) s r D f n) λP H Q h=>oG (λJ O d v w m=>EI w m) (λv M i Q q=>?_) h;obtain⟨J,L,I,G,N,B,y,eq,q⟩:=q;unfold oR at eq;split at eq
 ·rename_i K k;obtain⟨ns,E,e⟩:=bind_eq_some_iff.mp eq;split at e
  ·rename_i g;cases e;cases At.Ij.mp y;obtain⟨a,t,rfl,p,C⟩:=At.ID.mp B;have l:=fN E;subst l;have z:t=ns.map V.int:=Il.K5 C;subst z;exact⟨a,ns,k,rfl,rfl,p.sq,g.2,g.1,q i _ (Iz.refl _) (At.Ij.mpr rfl)⟩
  cases e
 cases eq
end
section
variable {X:Cx}{W:WT}{e:Expr}{fe:H9 D}{pos p:Pos}{x:Str}
def FY (d:D)(S:Ig):Option D:=match d with
 | .loc l=>(match S[l]? with
  |some (.dict kvs)=>some (.int kvs.length)
  |_=>none)
 |_=>none
theorem vi (K:X.calm=true):Jb X (.type "list") (λxs H Q => ∃ (p:Addr) (d:List (Key×V)),xs=[.ref p]/\H p=some (.dK d)/\∀ l,H l=none->Q (.ref l) (upd H l (.lst (d.map λq=>kV q.1)))):=by
 intro m s R H xs O Q I r h;obtain⟨p,d,rfl,J,q⟩:=h;obtain⟨u,rfl,A⟩:=vals1 r;cases A;obtain⟨t,E,g,j,hd⟩:=I.IL p _ J;obtain⟨ep,G⟩:=hd.dictAt;have b:g.length=d.length:=(KV.length j).symm;refine kdl_call (kdl_dict (kvs:=g) (ep:=ep) (knd:=bo X.prog X.w) E) (I.ok.hd K) G (by rw[b];exact t) λP tk a c k F C=>?_;obtain⟨M,z⟩:=C;have y:Vals (d.map λq=>kV q.1) a.toList:=by refine lR (by have e:a.toList.length=a.size:=length_toList;rw[length_map,e,M,b]) λi v u f n=>?_;rw[getElem?_toList] at n;obtain⟨k,x,e,D⟩:=z i u n;rw[getElem?_map] at f;obtain⟨q,N,L⟩:=map_eq_some_iff.mp f;have B:=(oA j i q (k,x) N e).1;rw[← L,B];exact xQ D
 exact⟨.ref s.heap.objs.size,_,I.laid (t':=tk) (o:=.lst (d.map λq=>kV q.1)) k (le_refl _) ⟨by rw[length_map];exact t,a.toList,c,y,by simpa using F⟩,rfl,q _ I.fresh⟩
def g6 (d:D)(S:Ig):Option D:=match d with
 | .loc l=>(match S[l]? with
  |some (.dict kvs)=>if kvs.length<=sizeLine then some (.lst (kvs.map (·.1))) else none
  |_=>none)
 |_=>none
def l_ (fe:H9 D):H9 D:=λb S=>ah (fe b S) λd a=>aP (g6 d a) a
theorem ud (O:X.A.units+1<cLine)(E:X.mg x=none)(b:SE X W e fe)(L:X.calm=true:=by rfl)(w:x="list":=by rfl)(C:Gl X x:=by rfl)(n:starEach [e] X.env=(false,eval e X.env)::starEach [] X.env:=by rfl)(y:(backTo pos (starEach [] X.env)).any (·.1)=false:=by rfl) :
  SE X W (.Call (.Name x p) [e] [] pos) (l_ fe):=by
 subst w;refine PE.imp (gT (vi L) C E ti (cK b Js n) (by decide) (by decide) n y) λP H Q h=>?_;refine(tG.Iw h).mono λv G ⟨d,B⟩=>?_;obtain⟨J,N,S,r,M,c,m,eq,z⟩:=B;obtain⟨m,_⟩:=m.Iq;show pH _ _ _;unfold g6 at eq;cases d with
 |loc l =>
  obtain⟨a,rfl,u⟩:=At.II.mp m;cases hS:S[l]? with
  |none=>simp[hS] at eq
  |some F =>
   cases F with
   |dict g =>
    simp only[hS] at eq;split at eq
    ·rename_i s;cases eq;obtain⟨j,o,k⟩:=c.IW.at_ l a _ u hS;refine⟨a,j,rfl,o,λR i=>?_⟩
     have D:Il X.K G J (g.map (·.1)) (j.map λq=>kV q.1):=by
      clear hS z o s
      induction k with
      |nil=>exact .nil
      |cons f t I=>exact .cons f.1.2 I
     refine z J _ _ (Ex.same (aQ i _)) (c.IW.same (aQ i _)) (At.JM D i (λa b=>c.IW.tracked b) ?_);rw[length_map,← k.length];exact s
    cases eq
   |_=>simp[hS] at eq
 |_=>simp at eq
end
def dL (a b:D):Bool:=match fX a,fX b with
 |some p,some q=>PyData.eqv p q
 |_,_=>false
def putN (kvs:List (D×D))(k v:D):List (D×D):=if (kvs.any λp=>dL p.1 k)=true then kvs.map (λp=>if dL p.1 k=true then (p.1,v) else p) else kvs++[(k,v)]
def jM (kvs:List (D×D))(k:D):Option D:=(kvs.find? λp=>dL p.1 k).map (·.2)
noncomputable def kW (b:List (PyData×Addr×V)) (k:PyData) (a:Addr) (v:V):List (PyData×Addr×V):=if (b.any λp=>decide (p.1=k))=true then b.map (λp=>if p.1=k then (p.1,p.2.1,v) else p) else b++[(k,a,v)]
noncomputable def p8 (a:List (PyData×Addr×V)) (k:PyData):Option V:=(a.find? λp=>decide (p.1=k)).map (·.2.2)
abbrev RQ:(PyData×Addr×V)->(PyData×Addr×Value)->Prop:=λp q=>p.1=q.1/\p.2.1=q.2.1/\RelV p.2.2 q.2.2
theorem sf {d:D}{p:PyData}(h:fX d=some p):toPy d=some p/\keyOk 8 p=true:=by
 unfold fX at h;obtain⟨q,c,a⟩:=bind_eq_some_iff.mp h;split at a
 ·rename_i b;cases a;exact⟨c,b⟩
 cases a
section
variable {K:H_}{H H':Hp}{J J':List Addr}
theorem og {a k:D}{x y:PyData}(h:fX a=some x)(g:fX k=some y):dL a k=decide (x=y):=by unfold dL;rw[h,g];exact qB (sf h).2 (sf g).2
theorem Fi {kvs:List (D×D)}{a:List (PyData×Addr×V)}{k:D}{y:PyData}(g:fX k=some y)(r:Paired (NS K H J) kvs a):(kvs.any λp=>dL p.1 k)=a.any λq=>decide (q.1=y):=by
 induction r with
 |nil=>rfl
 |cons h t b=>rw[any_cons,any_cons,b,og h.1.1 g]
theorem yI {kvs:List (D×D)}{a:List (PyData×Addr×V)}{k v:D}{y:PyData}{w:V}(g:fX k=some y)(c:At K H J v w)(r:Paired (NS K H J) kvs a) :
  Paired (NS K H J) (kvs.map λp=>if dL p.1 k=true then (p.1,v) else p) (a.map λq=>if q.1=y then (q.1,q.2.1,w) else q):=by
 induction r with
 |nil=>exact .nil
 | @cons p q d f h t b =>
  refine .cons ?_ b;show NS K H J (if dL p.1 k=true then (p.1,v) else p) (if q.1=y then (q.1,q.2.1,w) else q);rw[og h.1.1 g];by_cases e:q.1=y
  ·rw[if_pos (decide_eq_true e),if_pos e];exact⟨h.1,c⟩
  rw[if_neg (by rw[decide_eq_false e];decide),if_neg e];exact h
theorem yK {k v:D}{y:PyData}{b:Addr}{w:V}(g:fX k=some y)(e:At K H J k (.ref b))(f:At K H J v w){a:List (D×D)}{c:List (PyData×Addr×V)}(h:Paired (NS K H J) a c):Paired (NS K H J) (a++[(k,v)]) (c++[(y,b,w)]):=by
 induction h with
 |nil=>exact .cons ⟨⟨g,e⟩,f⟩ .nil
 |cons h t d=>exact .cons h d
theorem Ef {kvs:List (D×D)}{a:List (PyData×Addr×V)}{k v:D}{y:PyData}{b:Addr}{w:V}(g:fX k=some y)(d:At K H J k (.ref b))(c:At K H J v w)(r:Paired (NS K H J) kvs a):Paired (NS K H J) (putN kvs k v) (kW a y b w):=by
 unfold putN kW;rw[Fi g r];split
 ·exact yI g c r
 exact yK g d c r
theorem Bb {kvs:List (D×D)}{a:List (PyData×Addr×V)}{k:D}{y:PyData}(g:fX k=some y)(r:Paired (NS K H J) kvs a) :
  (jM kvs k=none/\p8 a y=none)∨∃ d v,jM kvs k=some d/\p8 a y=some v/\At K H J d v:=by
 unfold jM p8
 induction r with
 |nil=>exact .inl ⟨rfl,rfl⟩
 | @cons p q c f h t b =>
  rw[find?_cons,find?_cons,og h.1.1 g];by_cases e:q.1=y
  ·rw[decide_eq_true e];exact .inr ⟨p.2,q.2.2,rfl,rfl,h.2⟩
  rw[decide_eq_false e];exact b
end
theorem Ea {a:List (PyData×Addr×V)}{xs:List (PyData×Addr×Value)}(r:Paired RQ a xs)(k:PyData):(a.any λp=>decide (p.1=k))=(atKey xs k).isSome:=by
 unfold atKey;rw[isSome_map]
 induction r with
 |nil=>rfl
 | @cons p q c d h t b =>
  rw[any_cons,find?_cons,b,h.1];by_cases e:q.1=k
  ·rw[decide_eq_true e];rfl
  rw[decide_eq_false e];rfl
theorem Ak {a:List (PyData×Addr×V)}{xs:List (PyData×Addr×Value)}(r:Paired RQ a xs)(k:PyData):J6 (p8 a k) ((atKey xs k).map (·.2)):=by
 unfold p8 atKey
 induction r with
 |nil=>exact True.intro
 | @cons p q c d h t b =>
  rw[find?_cons,find?_cons,h.1];by_cases e:q.1=k
  ·rw[decide_eq_true e];exact h.2.2
  rw[decide_eq_false e];exact b
theorem D9 {a:List (PyData×Addr×V)}{xs:List (PyData×Addr×Value)}(r:Paired RQ a xs)(k:PyData){v:V}{u:Value}(b:RelV v u):Paired RQ (a.map λp=>if p.1=k then (p.1,p.2.1,v) else p) (xs.map (putAt k u)):=by
 induction r with
 |nil=>exact .nil
 | @cons p q d f h t c =>
  refine .cons ?_ c;show RQ (if p.1=k then (p.1,p.2.1,v) else p) (putAt k u q);unfold putAt;by_cases e:p.1=k
  ·rw[if_pos e,if_pos (h.1.symm.trans e)];exact⟨h.1,h.2.1,b⟩
  rw[if_neg e,if_neg (λz=>e (h.1.trans z))];exact h
theorem D_ {a:List (PyData×Addr×V)}{xs:List (PyData×Addr×Value)}(r:Paired RQ a xs)(k:PyData)(b:Addr){v:V}{u:Value}(c:RelV v u):Paired RQ (a++[(k,b,v)]) (xs++[(k,b,u)]):=by
 induction r with
 |nil=>exact .cons ⟨rfl,rfl,c⟩ .nil
 |cons h t d=>exact .cons h d
theorem D8 {c:List (PyData×Addr×V)}{xs:List (PyData×Addr×Value)}(r:Paired RQ c xs)(k:PyData)(b:Addr){v:V}{u:Value}(a:RelV v u):Paired RQ (kW c k b v) (storedH xs k b u):=by
 unfold kW storedH;rw[Ea r k];split
 ·exact D9 r k a
 exact D_ r k b a
theorem yG (a:List (PyData×Addr×V))(k:PyData)(b:Addr)(v:V):(kW a k b v).length<=a.length+1:=by
 unfold kW;split
 ·rw[length_map];omega
 rw[List.length_append];simp
section
variable {X:Cx}{pins:Ib}{σ:St}{H:Hp}{s:Shared}{J:List Addr}{a:Addr}
theorem nH (I:Inv X pins σ H s){d:D}{y:PyData}{b:Addr}(g:fX d=some y)(m:At X.K H J d (.ref b)):(ld X.prog X.w).is s.heap y b:=by obtain⟨c,a⟩:=sf g;exact⟨a,(At.reads I m (show RelV (.ref b) (.ref b) from rfl) c).2⟩
theorem xZ {kvs:List (D×D)}{b:List (PyData×Addr×V)}(I:Inv X pins σ H s)(e:H a=some (.dN b))(r:Paired (NS X.K H J) kvs b) :
  b.length<=sizeLine/\(a==sysModules)=false/\∃ xs,Paired RQ b xs/\s.heap.DictOfH (ld X.prog X.w) a xs:=by
 obtain⟨z,y,xs,q,o,es,ep,f,d,c,g,i⟩:=I.IL a _ e;refine⟨z,y,xs,q,o,es,ep,f,d,c,g,?_,i⟩;clear f d c g i z e
 induction r generalizing xs with
 |nil=>cases q;intro x hx;exact nomatch hx
 | @cons p m n u h t l =>
  cases q with
  |cons j k =>
   intro x hx;rcases mem_cons.mp hx with e |hx
   ·subst e;rw[← j.1,← j.2.1];exact nH I h.1.1 h.1.2
   exact l _ k x hx
end
def xf (K:H_)(H:Hp)(a:Addr)(y:V)(r:Option V):Prop:=∃ J d c f e b,H a=some (.dN c)/\Paired (NS K H J) d c/\fX f=some e/\At K H J f (.ref b)/\y = .ref b/\r=p8 c e
def Gp (K:H_)(H:Hp)(a:Addr)(y v:V)(H':Hp):Prop:=∃ J d c f e b,H a=some (.dN c)/\Paired (NS K H J) d c/\fX f=some e/\At K H J f (.ref b)/\y = .ref b/\c.length<sizeLine/\H'=upd H a (.dN (kW c e b v))
section
variable {X:Cx}{pins:Ib}{σ:St}{H:Hp}{s:Shared}{a:Addr}{y v:V}{u r:Value}{o:Option V}{A:Around}{E:Ia}
theorem wB (a:A.units+150<cLine):(ld X.prog X.w).room A.in1:=by show A.units+1+8<cLine;omega
theorem yX {Q:Ia}(B:A.units+150<cLine)(I:Inv X pins σ H s)(g:xf X.K H a y (some v))(k:RelV y u)(h:∀ c s',Inv X pins σ H s'->RelV v c->Q c s') :
  wpAny (model X.prog X.w) A (getItem (.ref a) u) Q E s:=by
 obtain⟨J,m,D,F,d,b,e,t,i,mk,q,l⟩:=g;subst q;cases (show u=Value.ref b from k);obtain⟨z,hd,j,rel,n⟩:=xZ I e t;obtain⟨c,C,r⟩:=J6.some_of (v:=v) (o:=(atKey j d).map (·.2)) (by rw[l];exact Ak rel d);obtain⟨p,x,f⟩:=map_eq_some_iff.mp C;refine wpAny_getItem_heap (wB B) (nH I i mk) n x ?_;rw[f];exact h c _ (I.tok _) r
theorem CN {Q:Ia}(m:A.units+150<cLine)(I:Inv X pins σ H s)(g:xf X.K H a y o)(d:RelV y u)(h:∀ s',Inv X pins σ H s'->Q (.bool (!o.isSome)) s') :
  wpAny (model X.prog X.w) A (compareOp .NotIn u (.ref a)) Q E s:=by
 obtain⟨J,f,r,t,n,b,e,k,c,mk,j,l⟩:=g;subst j;cases (show u=Value.ref b from d);obtain⟨z,hd,p,rel,i⟩:=xZ I e k;refine wpAny_notIn_heap (wB m) (nH I c mk) hd i ?_;have q:=(Ak rel n).JB;rw[isSome_map] at q;rw[← q,← l];exact h _ (I.tok _)
theorem yW {H':Hp}{Q:Unit->Shared->Prop}(N:A.units+150<cLine)(I:Inv X pins σ H s)(g:Gp X.K H a y v H')(m:RelV y u)(i:RelV v r)(h:∀ s',Inv X pins σ H' s'->Q () s') :
  wpAny (model X.prog X.w) A (setItem (.ref a) u r) Q E s:=by
 obtain⟨J,o,d,P,c,b,e,G,j,mk,D,l,p⟩:=g;subst D p;cases (show u=Value.ref b from m);obtain⟨z,hd,k,rel,C⟩:=xZ I e G;have O:k.length<=sizeLine:=by rw[← Paired.length rel];exact z
 have n:(kW d c b v).length<=sizeLine:=by have:=yG d c b v;omega
 refine wpAny_setItem_heap (hsz:=O) (wB N) (nH I j mk) C λR B F=>h _ ?_;obtain⟨q,es,ep,f,x,t,L,_,M⟩:=B;exact sL I (by rw[e];exact True.intro) F ⟨q,f⟩ ⟨n,hd,_,D8 rel c b i,q,es,ep,f,x,t,L,M⟩
theorem AM (I:Inv X pins σ H s)(g:xf X.K H a y o):s.TypeIs (.ref a) "dict":=by obtain⟨J,f,i,n,m,b,e,c,h,mk,k,l⟩:=g;obtain⟨_,_,j,_,d⟩:=xZ I e c;exact d.typeIs
end
section
variable {X:Cx}{o i e value:Expr}{pos pos' RJ:Pos}{td ty tv:TE}
theorem Ct (z:X.A.units+150<cLine)(m:PE X o td)(hi:PE X i ty)(r:zG i):PE X (.Subscript o i pos) (λc H Q=>td c H λx e=>ty c e λy d => ∃ a v,x = .ref a/\xf X.K d a y (some v)/\Q v d):=by intro b s c H Q I h;refine xq PySem.F.slot_dict_getitem.lookup r (IE (m b s c H _ I h) λu t ⟨x,e,j,n,l⟩=>IE (hi b t c e _ j l) λD E Zq=>?_);obtain⟨y,d,f,k,a,v,ex,g,p⟩:=Zq;subst ex;obtain rfl:u=Value.ref a:=n;exact⟨AM f g,yX z f g k λC B w q=>⟨v,d,w,q,p⟩⟩
theorem yO (v:X.A.units+150<cLine)(hi:PE X i ty)(n:PE X o td):PC X .NotIn i o (λc H Q=>ty c H λy e=>td c e λx d => ∃ a o,x = .ref a/\xf X.K d a y o/\Q (.bl (!o.isSome)) d):=by intro b s c H Q I h;refine IE (hi b s c H _ I h) λz r ⟨y,e,f,j,l⟩=>IE (n b r c e _ f l) λu B Zq=>?_;obtain⟨x,d,k,p,a,m,ex,g,q⟩:=Zq;subst ex;obtain rfl:u=Value.ref a:=p;exact CN v k g j λw t=>⟨.bl (!m.isSome),d,t,rfl,q⟩
theorem Ck (L:X.A.units+150<cLine)(w:PE X o td)(hi:PE X i ty)(p:PE X value tv)(C:swapsWith value (some (.Subscript o i pos')) pos.line X.env=pure false) :
  PS X (.Assign [.Subscript o i pos'] value pos) (λD c H=>tv c H λv f=>td c f λx e=>ty c e λy j => ∃ a d,x = .ref a/\Gp X.K j a y v d/\D.nx c d):=by
 intro b s c H D I h;refine wpAny_Assign_Subscript (IE (p b s c H _ I h) λr F ⟨v,f,k,l,t⟩=>IE (w b F c f _ k t) λu E ⟨x,e,q,z,B⟩=>IE (hi b E c e _ q B) λN M Zq=>?_) C;obtain⟨y,j,J,n,a,d,ex,g,m⟩:=Zq;subst ex;obtain rfl:u=Value.ref a:=z;exact yW L J g n l λO G=>⟨c,d,G,m⟩
end
def dP:D->Bool
 | .tup _=>true
 |_=>false
section
variable {X:Cx}{W:WT}{pos pos':Pos}{o i e:Expr}{fo fi fv:H9 D}
def vq:H9 D:=λ_ S=>Ip (.loc S.length) (S++[.Ir []])
theorem ON:PE X (.Dict [] [] pos) (λ_ H Q => ∀ p,H p=none->Q (.ref p) (upd H p (.dN []))):=λb s c H Q I h =>
 wpAny_Dict_empty ⟨.ref s.heap.objs.size,_,I.laid (a:=s.heap.objs.size) (o:=.dN []) (t':=s.toks) (λ_ _ q=>Heap.get?_push_of_some _ q) (le_refl _)
  ⟨zero_le _,beq_eq_false_iff_ne.mpr (Ne.symm (ne_of_lt I.big)),[],.nil,_,#[],0,Heap.get?_push_size _ rfl,⟨rfl,rfl,rfl⟩,rfl,rfl,nodup_nil⟩,rfl,h _ (I.IL.fresh (le_refl _))⟩
theorem rO:SE X W (.Dict [] [] pos) vq:=ON.imp λd H Q h=>by obtain⟨J,f,S,r,b,c,_,e,z⟩:=h;cases e;intro p a;have q:=c.IW.push (o:=.dN []) (mo:=.Ir []) a ⟨[],Iv,.nil⟩;refine z (J++[p]) _ _ q.2 q.1 (At.II.mpr ⟨p,rfl,?_⟩);rw[← c.IW.len,getElem?_append_right (le_refl _)];simp
def kX (x k v:D)(ρ:Ih)(S:Ig):Out Fl:=match x with
 | .loc l=>match S[l]?,fX k with
  |some (.Ir kvs),some _=>if kvs.length<sizeLine/\dP k=true then Ip (.next ρ) (S.set l (.Ir (putN kvs k v))) else none
  |_,_=>none
 |_=>none
def qV (fo fi fv:H9 D):H9 Fl:=λa S=>ah (fv a S) λv b=>ah (fo a b) λx c=>ah (fi a c) λk d=>kX x k v a d
theorem rm {K:H_}{H:Hp}{J:List Addr}{d:D}{v:V}(h:dP d=true)(m:At K H J d v):∃ b,v = .ref b:=by
 cases d with
 |tup a=>obtain⟨b,_,e,_⟩:=At.IC.mp m;exact⟨b,e⟩
 |_=>cases h
theorem rG (R:X.A.units+150<cLine)(I:SE X W o fo)(hi:SE X W i fi)(C:SE X W e fv)(Q:swapsWith e (some (.Subscript o i pos')) pos.line X.env=pure false:=by rfl):SS X W (.Assign [.Subscript o i pos'] e pos) (qV fo fi fv):=
 (Ck R I hi C Q).imp λE w H h=>by
  have h:tH X W [] [] (qV fo fi fv) E w H:=let ⟨J,u,S,r,k,c,e,z⟩:=h;⟨J,u,S,r,k,c,.nil,e,z⟩;refine(tH.Iw h).mono λv Z ⟨T,P⟩=>(tH.Iw P).mono λx V ⟨O,L⟩=>(tH.Iw L).mono λy H3 ⟨t,K⟩=>?_;obtain⟨J,u,S,r,k,c,m,e,z⟩:=K;obtain⟨mk,m⟩:=m.Iq;obtain⟨D,m⟩:=m.Iq;obtain⟨M,_⟩:=m.Iq;unfold kX at e;cases O with
  |loc l =>
   simp only at e;split at e
   ·rename_i d B es s;split at e
    ·rename_i lt;cases e;obtain⟨a,rfl,j⟩:=At.II.mp D;obtain⟨n,N,g⟩:=c.IW.at_ l a _ j es;obtain⟨b,rfl⟩:=rm lt.2 mk;have q:=c.IW.update (o:=.dN (kW n B b v)) (mo:=.Ir (putN d t T)) j λU Y f F G=>by subst F G;refine⟨_,Iv,Ef s (mk.ex f) (M.ex f) ?_⟩;exact Paired.Mo g λp q z=>⟨⟨z.1.1,z.1.2.ex f⟩,z.2.ex f⟩
     exact⟨a,_,rfl,⟨J,d,n,t,B,b,N,g,s,mk,rfl,by rw[← j7 g];exact lt.1,rfl⟩,z J w _ q.2 (c.re q.2 q.1)⟩
    cases e
   cases e
  |_=>cases e
def j8 (neg:Bool)(k x:D)(S:Ig):Option D:=match x with
 | .loc l=>match S[l]?,fX k with
  |some (.Ir kvs),some _=>if dP k=true then some (.bl (if neg then !(jM kvs k).isSome else (jM kvs k).isSome)) else none
  |_,_=>none
 |_=>none
def zB (neg:Bool)(c fd:H9 D):H9 D:=λb S=>ah (c b S) λk d=>ah (fd b d) λx a=>aP (j8 neg k x a) a
theorem AJ {neg:Bool}{k:St}{H:Hp}{Q:VK}(h:tE X W (zB neg fi fo) k H Q):tE X W fi k H λy p=>tE X W fo k p λx f => ∃ a o,x = .ref a/\xf X.K f a y o/\Q (.bl (if neg then !o.isSome else o.isSome)) f:=
 (tG.Iw h).mono λy p ⟨E,D⟩=>(tG.Iw D).mono λx f Zq=>by
  obtain⟨C,A⟩:=Zq
  obtain⟨J,L,S,r,I,c,m,e,z⟩:=A;obtain⟨u,m⟩:=m.Iq;obtain⟨mk,_⟩:=m.Iq;unfold j8 at e;cases C with
  |loc l =>
   simp only at e;split at e
   ·rename_i i G es n;split at e
    ·rename_i F;cases e;obtain⟨a,rfl,t⟩:=At.II.mp u;obtain⟨w,B,s⟩:=c.IW.at_ l a _ t es;obtain⟨b,rfl⟩:=rm F mk;refine⟨a,_,rfl,⟨J,i,w,E,G,b,B,s,n,mk,rfl,rfl⟩,?_⟩;have q:=z J f _ Ex.refl c.IW (At.IK.mpr rfl);rcases Bb n s with ⟨g,j⟩ |⟨d,v,g,j,_⟩
     ·rw[g] at q;rw[j];exact q
     rw[g] at q;rw[j];exact q
    cases e
   cases e
  |_=>cases e
theorem lJ (e:X.A.units+150<cLine)(hi:SE X W i fi)(f:SE X W o fo)(d:behindInMarks .NotIn o=false:=by with_unfolding_all rfl):Lc X W (.Compare i [.NotIn] [o] pos) (aT (zB true fi fo)):=
 (wo (yO e hi f) d).imp λb H Q h=>JY.mono (t:=λb H Q=>tE X W fi b H λy g=>tE X W fo b g λx c => ∃ a o,x = .ref a/\xf X.K c a y o/\Q (.bl (!o.isSome)) c) (λ_ _ _=>AJ (neg:=true)) (fz h)
def fK (x k:D)(S:Ig):Option D:=match x with
 | .loc l=>match S[l]?,fX k with
  |some (.Ir kvs),some _=>if dP k=true then jM kvs k else none
  |_,_=>none
 |_=>none
def vx (fd c:H9 D):H9 D:=λb S=>ah (fd b S) λx d=>ah (c b d) λk a=>aP (fK x k a) a
theorem rN (K:X.A.units+150<cLine)(u:SE X W o fo)(hi:SE X W i fi)(F:zG i:=by exact λ_ _=>rfl):SE X W (.Subscript o i pos) (vx fo fi):=(Ct K u hi F).imp λP H Q h =>
 (tG.Iw h).mono λx O ⟨C,D⟩=>(tG.Iw D).mono λy p Zq=>by
  obtain⟨E,w⟩:=Zq
  obtain⟨J,N,S,r,M,c,m,e,z⟩:=w;obtain⟨mk,m⟩:=m.Iq;obtain⟨s,_⟩:=m.Iq;unfold fK at e;cases C with
  |loc l =>
   simp only at e;split at e
   ·rename_i g L es j;split at e
    ·rename_i I;obtain⟨a,rfl,q⟩:=At.II.mp s;obtain⟨t,B,k⟩:=c.IW.at_ l a _ q es;obtain⟨b,rfl⟩:=rm I mk;rcases Bb j k with ⟨f,n⟩ |⟨d,v,f,n,G⟩
     ·rw[f] at e;cases e
     rw[f] at e;cases e;exact⟨a,v,rfl,⟨J,g,t,E,L,b,B,k,j,mk,rfl,n.symm⟩,z J p _ Ex.refl c.IW G⟩
    cases e
   cases e
  |_=>cases e
end
def ji (K:H_)(c f:Str):Prop:=∃ C,PySem.W.nsIn K mainGlobals c=some (some (.ref C))/\M8 K C/\Kc K C f
def MethAt (K:H_)(c m qual:Str)(st:Stmt)(a:List Str):Prop:=∃ C f fd,PySem.W.nsIn K mainGlobals c=some (some (.ref C))/\M8 K C/\Meth K C m f/\ML K m qual st f fd/\Binds K fd a []
def Du (K:H_)(mg:Ic)(c qual:Str)(st:Stmt)(a:List Str):Prop:=∃ C f fd,PySem.W.nsIn K mainGlobals c=some (some (.ref C))/\mg c=some (.ref C)/\Mk K C f/\ML K "__init__" qual st f fd/\Binds K fd a []
def jU (f:Str)(v:D):List (Str×D)->List (Str×D)
 |[]=>[(f,v)]
 |(k,x)::r=>if k=f then (k,v)::r else (k,x)::jU f v r
section
variable {K:H_}{H H':Hp}{J J':List Addr}
theorem xV {fs:List (Str×D)}{vs:List (Str×V)}(r:Paired (TN K H J) fs vs)(f:Str):(fs.lookup f=none/\vs.lookup f=none)∨∃ d v,fs.lookup f=some d/\vs.lookup f=some v/\At K H J d v:=by
 induction r with
 |nil=>exact .inl ⟨rfl,rfl⟩
 | @cons p q l m h t j =>
  obtain⟨a,k⟩:=p;obtain⟨c,g⟩:=q;have i:a=c:=h.1;subst i;by_cases e:f=a
  ·have b:(f==a)=true:=beq_iff_eq.mpr e;refine .inr ⟨k,g,?_,?_,h.2⟩<;>simp only[List.lookup,b]
  have b:(f==a)=false:=beq_eq_false_iff_ne.mpr e;simp only[List.lookup,b];exact j
theorem EW {fs:List (Str×D)}{vs:List (Str×V)}(r:Paired (TN K H J) fs vs)(f:Str){d:D}{v:V}(a:At K H J d v):Paired (TN K H J) (jU f d fs) (gz f v vs):=by
 induction r with
 |nil=>exact .cons ⟨rfl,a⟩ .nil
 | @cons p q c g h t m =>
  obtain⟨b,j⟩:=p;obtain⟨k,i⟩:=q;have l:b=k:=h.1;subst l;rw[show jU f d ((b,j)::c)=(if b=f then (b,d)::c else (b,j)::jU f d c) from rfl,show gz f v ((b,i)::g)=(if b=f then (b,v)::g else (b,i)::gz f v g) from rfl];by_cases e:b=f
  ·rw[if_pos e,if_pos e];exact .cons ⟨rfl,a⟩ t
  rw[if_neg e,if_neg e];exact .cons h m
theorem Il.split:∀ {es ds:List D}{us vs:List V},es.length=us.length->Il K H J (es++ds) (us++vs)->Il K H J es us/\Il K H J ds vs
 |[],_,[],_,_,h=>⟨.nil,h⟩
 |e::es,ds,u::us,vs,hl,h=>by
  obtain⟨f,c⟩:=Il.Iq (d:=e) (v:=u) (ds:=es++ds) (vs:=us++vs) h;obtain⟨b,a⟩:=Il.split (es:=es) (us:=us) (by simpa using hl) c;exact⟨.cons f b,a⟩
 |[],_,_::_,_,hl,_=>by simp at hl
 |_::_,_,[],_,hl,_=>by simp at hl
end
def sx (c:Str)(d:D)(S:Ig):Option (List (Str×D)):=match d with
 | .loc l=>(match S[l]? with
  |some (.ins c' fs)=>if c'=c then some fs else none
  |_=>none)
 |_=>none
theorem xS {c:Str}{d:D}{S:Ig}{fs:List (Str×D)}(h:sx c d S=some fs):∃ l,d = .loc l/\S[l]?=some (.ins c fs):=by
 unfold sx at h;split at h
 ·rename_i l;split at h
  ·rename_i f b e;split at h
   ·rename_i a;cases h;subst a;exact⟨l,rfl,e⟩
   cases h
  cases h
 cases h
section
variable {X:Cx}{W:WT}{pos pos' apos p:Pos}{o e value:Expr}{es:List Expr}{fo fv:H9 D}{gs:H9 (List D)}{c f m x:Str}
def gC (c f:Str)(d:D)(S:Ig):Option D:=(sx c d S).bind λfs=>fs.lookup f
def dU (c f:Str)(fo:H9 D):H9 D:=λb S=>ah (fo b S) λd a=>aP (gC c f d a) a
theorem bz (T:ji X.K c f)(w:SE X W o fo)(I:attributeBase o f X.env (eval o X.env)=eval o X.env:=by rfl):SE X W (.Attribute o f pos) (dU c f fo):=
 (Eu w I).imp λO H Q h=>(tG.Iw h).mono λx A Zq=>by
  obtain⟨i,j⟩:=Zq
  obtain⟨J,P,S,r,M,m,F,b,z⟩:=j
  try dsimp only at b
  obtain⟨t,_⟩:=F.Iq;cases q:gC c f i S with
  |none=>rw[q] at b;cases b
  |some d =>
   rw[q] at b;cases b;obtain⟨fs,j,e⟩:=bind_eq_some_iff.mp q;obtain⟨l,rfl,es⟩:=xS j;obtain⟨a,rfl,s⟩:=At.II.mp t;obtain⟨C,i,u,n,y,B⟩:=m.IW.at_ l a _ s es;obtain⟨N,k,p,G⟩:=T;rw[n] at k;cases k;rcases xV B f with ⟨g,_⟩ |⟨L,v,g,E,D⟩
   ·rw[g] at e;cases e
   rw[g] at e;cases e;exact⟨a,C,i,u,v,rfl,y,p,G,E,z J A v Ex.refl m.IW D⟩
def kR (c f:Str)(d v:D)(ρ:Ih)(S:Ig):Out Fl:=match d with
 | .loc l=>(match S[l]? with
  |some (.ins c' fs)=>if c'=c/\fs.length<1000 then Ip (.next ρ) (S.set l (.ins c (jU f v fs))) else none
  |_=>none)
 |_=>none
theorem z7 {T:ji X.K c f}{g:St}{H:Hp}{J:List Addr}{ρ:Ih}{S k:Ig}{r:Except Str Fl}{E:Ends}{d i:D}{x y:V}(h:Cf X J ρ S g H)(A:At X.K H J d x)(M:At X.K H J i y)
  (b:kR c f d i ρ S=some (r,k)) (z:K6 X W J H r k E):∃ a C e fs,x = .ref a/\H a=some (.ins C e fs)/\M8 X.K C/\Kc X.K C f/\fs.length<1000/\E.nx g (upd H a (.ins C e (gz f y fs))):=by
 unfold kR at b;split at b
 ·rename_i l;split at b
  ·rename_i G fs es;split at b
   ·rename_i N;obtain⟨I,w⟩:=N;subst I;cases b;obtain⟨a,rfl,j⟩:=At.II.mp A;obtain⟨C,e,m,n,L,t⟩:=h.IW.at_ l a _ j es;obtain⟨R,s,v,O⟩:=T;rw[n] at s;cases s;have q:=h.IW.update (o:=.ins C e (gz f y m)) (mo:=.ins G (jU f i fs)) j λP Q u B F=>by subst B F;refine⟨C,e,_,n,Iv,EW (Paired.Mo t λp q z=>⟨z.1,z.2.ex u⟩) f (M.ex u)⟩
    exact⟨a,C,e,m,rfl,L,v,O,by rw[← j7 t];exact w,z J g _ q.2 (h.re q.2 q.1)⟩
   cases b
  cases b
 cases b
def jZ (c f:Str)(fo fv:H9 D):H9 Fl:=λa S=>ah (fv a S) λv b=>ah (fo a b) λd e=>kR c f d v a e
theorem j3 (T:ji X.K c f)(l:SE X W o fo)(j:SE X W value fv)(t:swapsWith value (some (.Attribute o f pos')) pos.line X.env=pure false:=by rfl):SS X W (.Assign [.Attribute o f pos'] value pos) (jZ c f fo fv):=
 (El l j t).imp λE p H h=>by
  have h:tH X W [] [] (jZ c f fo fv) E p H:=let ⟨J,i,S,r,g,c,e,z⟩:=h;⟨J,i,S,r,g,c,.nil,e,z⟩;refine(tH.Iw h).mono λy v ⟨w,n⟩=>(tH.Iw n).mono λx u ⟨d,m⟩=>?_;obtain⟨J,i,S,r,g,s,a,b,z⟩:=m
  try dsimp only at b
  obtain⟨k,a⟩:=a.Iq;obtain⟨q,_⟩:=a.Iq;exact z7 (T:=T) s k q b z
def Gn (c f:Str)(d v y:D)(ρ:Ih)(S:Ig):Out Fl:=match v,y with
 | .int i,.int j=>kR c f d (.int (i+j)) ρ S
 |_,_=>none
def Gm (c f:Str)(fo fv:H9 D):H9 Fl:=λa S=>ah (fo a S) λd b=>ah (aP (gC c f d b) b) λv e=>ah (fv a e) λy g=>Gn c f d v y a g
def kC (P:Program)(w:World)(K:H_)(mg:Ic)(base:Heap)(k:Nat)(c m:Str)(a:List Str)(F:Ie):Prop:=
 ∃ C f fd,PySem.W.nsIn K mainGlobals c=some (some (.ref C))/\M8 K C/\Meth K C m f/\Of P w K mg base k f fd a F/\Binds K fd a []
def Dv (P:Program)(w:World)(K:H_)(mg:Ic)(base:Heap)(k:Nat)(c:Str)(a:List Str)(F:Ie):Prop:=
 ∃ C f fd,PySem.W.nsIn K mainGlobals c=some (some (.ref C))/\mg c=some (.ref C)/\Mk K C f/\Of P w K mg base k f fd a F/\Binds K fd a []
def pM (c m:Str)(d:D)(S:Ig):Option D:=(sx c d S).bind λfs=>if fs.lookup m=none then some .Jm else none
def bZ (c m:Str)(F:Ie)(fo:H9 D)(gs:H9 (List D)):H9 D:=λb S=>ah (fo b S) λd a=>ah (aP (pM c m d a) a) λ_ e=>ah (gs b e) λf g=>gU (F (d::f) g)
def Fa (c m:Str)(F:Ie)(fo:H9 D)(gs:H9 (List D)):H9 D:=λb S=>ah (fo b S) λd a=>ah (aP (pM c m d a) a) λ_ e=>ah (gs b e) λf g=>F (d::f) g
theorem AS {C:Addr}(n:PySem.W.nsIn X.K mainGlobals c=some (some (.ref C))){k:H9 D}{d:D}{x:V}{o:St}{H:Hp}{Q:VK}(h:tG X W (RD X) [d] [x] (λρ i=>ah (aP (pM c m d i) i) λ_ S2=>k ρ S2) o H Q) :
  ∃ a e fs,x = .ref a/\H a=some (.ins C e fs)/\fs.lookup m=none/\tG X W (RD X) [d] [x] k o H Q:=by
 obtain⟨J,ρ,S,r,u,s,I,b,z⟩:=h
 try dsimp only at b
 obtain⟨g,N⟩:=I.Iq;cases q:pM c m d S with
 |none=>rw[q] at b;cases b
 |some O =>
  rw[q,bV,cn] at b;obtain⟨fs,A,j⟩:=bind_eq_some_iff.mp q;obtain⟨l,rfl,es⟩:=xS A;have E:=g;obtain⟨a,rfl,t⟩:=At.II.mp g;obtain⟨M,e,w,p,y,F⟩:=s.IW.at_ l a _ t es;rw[n] at p;cases p;split at j
  ·rename_i B;rcases xV F m with ⟨_,G⟩ |⟨L,v,f,_⟩
   ·exact⟨a,e,w,rfl,y,G,J,ρ,S,r,u,s,.cons E .nil,b,z⟩
   rw[B] at f;cases f
  cases j
theorem aY {k:Nat}{D:List Str}{F:Ie}{pl:Sem Bool}(G:kC X.prog X.w X.K X.mg X.base k c m D F)(j:IS k X.A)(I:SE X W o fo)(s:SA X W (e::es) gs)
  (N:starEach (e::es) X.env=(false,eval e X.env)::starEach es X.env:=by rfl) (O:(backTo pos (starEach es X.env)).any (·.1)=false:=by rfl)
  (ht:eval (.Call (.Attribute o m apos) (e::es) [] pos) X.env=(do
   let g ← eval o X.env
   standAt apos.atName
   let (f,first) ← holding [g] (getMethod g m pl)
   callWith pos f first (backTo pos (starEach (e::es) X.env)) (backToKw pos (keywordEach [] X.env))):=by rfl) :
  SE X W (.Call (.Attribute o m apos) (e::es) [] pos) (bZ c m F fo gs):=by
 obtain⟨C,f,fd,n,p,mt,fn,hb⟩:=G;refine PE.imp (Cu (E:=E0) I p mt fn j hb .nil xE s N O ht) λσ H Q h=>(tG.Iw h).mono λx H1 Zq=>?_;obtain⟨d,R⟩:=Zq;obtain⟨a,P,fs,T,y,e3,M⟩:=AS n R;refine⟨a,P,fs,T,y,e3,(tG.Kt M).mono λus H2 Zq=>?_⟩;obtain⟨i,u,L⟩:=Zq;obtain⟨J,ρ,S,r,B,U,mm,b,z⟩:=L
 try dsimp only at b
 obtain⟨m1,m2⟩:=Il.split u mm;obtain⟨Y,_⟩:=m2.Iq;have b:gU (F (d::i) S)=some (r,B):=b;unfold gU at b;split at b
 ·rename_i d2 S2 q;cases b;exact⟨J,S,d::i,d2,_,.cons Y (by rw[append_nil];exact m1),U.IW,q,λl t v x' V Z=>z l t v x' V Z⟩
 cases b
def j0 (c:Str)(F:Ie)(gs:H9 (List D)):H9 D:=λb S=>ah (gs b S) λd a=>(match F (.loc a.length::d) (a++[.ins c []]) with
 |some (.ok .Jm,S2)=>Ip (.loc a.length) S2
 |_=>none)
theorem rQ {k:Nat}{M:List Str}{F:Ie}(G:Dv X.prog X.w X.K X.mg X.base k c M F)(u:IS (k+1) X.A)(B:SA X W (e::es) gs)(R:Gl X c:=by rfl)
  (T:(c==("__debug__":Str))=false:=by decide) (N:starEach (e::es) X.env=(false,eval e X.env)::starEach es X.env:=by rfl) (O:(backTo pos (starEach es X.env)).any (·.1)=false:=by rfl) :
  SE X W (.Call (.Name c p) (e::es) [] pos) (j0 c F gs):=by
 obtain⟨C,f,fd,n,U,mk,fn,hb⟩:=G;refine PE.imp (Cv (E:=E0) mk fn u R U hb .nil xE B T N O) λσ H Q h=>(tG.Kt h).mono λus d Zq=>?_;obtain⟨g,hl,i⟩:=Zq;rw[append_nil,append_nil] at i;obtain⟨J,ρ,S,r,L,l,mm,a,z⟩:=i
 try dsimp only at a
 intro x b I t ne;have P:(upd d b (.own x)) x=none:=by rw[aF (Ne.symm ne)];exact I
 have Z:=l.IW.same (aQ t (.own x));have x1:Ex J d J (upd d b (.own x)):=Ex.same (aQ t _);have q:=Z.push (o:=.ins C b []) (mo:=.ins c []) P ⟨C,b,[],n,Iv,.nil⟩;have x2:=x1.trans q.2;have m:(J++[x])[S.length]?=some x:=by rw[← l.IW.len,getElem?_append_right (le_refl _)];simp
 have a:(match F (.loc S.length::g) (S++[.ins c []]) with
  |some (.ok .Jm,j)=>Ip (.loc S.length) j
  |_=>none)=some (r,L):=a
 split at a
 ·rename_i j hF;cases a;refine⟨J++[x],_,.loc S.length::g,.Jm,_,.cons (At.II.mpr ⟨x,rfl,m⟩) (by rw[append_nil];exact mm.ex x2),q.1,hF,λy D v s V Y=>⟨At.Kl.mp Y,?_⟩⟩;exact z y D (.ref x) (x2.trans s) V (At.II.mpr ⟨x,rfl,xA s.pre m⟩)
 cases a
end
section
variable {P:Program}{w:World}{K:H_}{mg:Ic}{base:Heap}
theorem m6 {x qual:Str}{st:Stmt}{sc:Scope}{N b:List Str}{k:Nat}{G:H9 Fl}{f:Addr}{fd:FuncData}(i:ML K x qual st f fd)(l:aq st=sc)(Sc:Ii N b sc)
  (h:∀ (f:Addr) (a:Value) (A:Around) (outer:List Env) (s:Shared) (H:Hp) (E:XK),IS k (A.deeper (envOfC qual sc s.heap.objs.size f a))->Nc (l7 M_ P w K mg base N qual sc f a A outer s H E).Ou W0 (bL st) G) :
  Of P w K mg base (k+1) f fd b (aZ b.length (N.length-b.length) G):=by
 subst l;refine xX i Sc (λn S r e=>?_) λa A outer s H E g=>⟨G,h f a A outer s H E g,λn S d o e=>?_⟩
 ·unfold aZ at e;split at e
  ·assumption
  cases e
 unfold aZ at e;split at e
 ·rename_i j;rw[j];split at e
  ·rename_i p m q;cases e;exact⟨_,q,.inl rfl⟩
  ·rename_i c m q;cases e;exact⟨_,q,.inr ⟨rfl,c,rfl⟩⟩
  cases e
 cases e
theorem d6 {c m qual:Str}{st:Stmt}{sc:Scope}{N a:List Str}{k:Nat}{G:H9 Fl}(i:MethAt K c m qual st a)(g:aq st=sc)(Sc:Ii N a sc)
  (h:∀ (f:Addr) (b:Value) (A:Around) (outer:List Env) (s:Shared) (H:Hp) (E:XK),IS k (A.deeper (envOfC qual sc s.heap.objs.size f b))->Nc (l7 M_ P w K mg base N qual sc f b A outer s H E).Ou W0 (bL st) G) :
  kC P w K mg base (k+1) c m a (aZ a.length (N.length-a.length) G):=by
 obtain⟨C,f,fd,n,e,mt,d,j⟩:=i;exact⟨C,f,fd,n,e,mt,m6 d g Sc h,j⟩
theorem yd {c qual:Str}{st:Stmt}{sc:Scope}{N a:List Str}{k:Nat}{G:H9 Fl}(i:Du K mg c qual st a)(e:aq st=sc)(Sc:Ii N a sc)
  (h:∀ (f:Addr) (b:Value) (A:Around) (outer:List Env) (s:Shared) (H:Hp) (E:XK),IS k (A.deeper (envOfC qual sc s.heap.objs.size f b))->Nc (l7 M_ P w K mg base N qual sc f b A outer s H E).Ou W0 (bL st) G) :
  Dv P w K mg base (k+1) c a (aZ a.length (N.length-a.length) G):=by
 obtain⟨C,f,fd,n,g,mt,d,j⟩:=i;exact⟨C,f,fd,n,g,mt,m6 d e Sc h,j⟩
theorem qU {c m qual:Str}{st:Stmt}{b:List Str}{k:Nat}(i:MethAt K c m qual st b):kC P w K mg base k c m b (λ_ _=>none):=by
 obtain⟨C,f,fd,n,g,mt,l,j⟩:=i;have no:∀ a H Q E,¬ Rr K (λ_ _=>none) a H Q E:=λa H Q E h=>by obtain⟨J,S,q,d,p,_,_,e,_⟩:=h;cases e
 exact⟨C,f,fd,n,g,mt,⟨λa H Q E h=>absurd h (no a H Q E),λA outer s H args o a Q E _ _ _ _ h=>absurd h (no a H Q E)⟩,j⟩
end
def eN (d:D)(S:Ig):Option (List D):=match d with
 | .loc l=>(match S[l]? with
  |some (.lst xs)=>some xs
  |_=>none)
 |_=>none
theorem CY {d:D}{S:Ig}{xs:List D}(h:eN d S=some xs):∃ l,d = .loc l/\S[l]?=some (.lst xs):=by
 unfold eN at h;split at h
 ·rename_i l;split at h
  ·rename_i a e;cases h;exact⟨l,rfl,e⟩
  cases h
 cases h
section
variable {X:Cx}{W:WT}{pos IT apos p:Pos}{o e a b:Expr}{fo fe fa fb:H9 D}{x:Str}
theorem rZ {J:List Addr}{S:Ig}{H:Hp}{d:D}{v:V}{xs:List D}(so:IQ X.K J S H)(m:At X.K H J d v)(h:eN d S=some xs):∃ l q us,d = .loc l/\v = .ref q/\J[l]?=some q/\S[l]?=some (.lst xs)/\H q=some (.lst us)/\Il X.K H J xs us:=by obtain⟨l,rfl,es⟩:=CY h;obtain⟨q,rfl,a⟩:=At.II.mp m;obtain⟨us,b,c⟩:=so.at_ l q _ a es;exact⟨l,q,us,rfl,rfl,a,es,b,c⟩
def BC:H9 D:=λ_ S=>Ip (.loc S.length) (S++[.lst []])
theorem Ca:SE X W (.List [] pos) BC:=(wu Js).imp λa H Q h=>by
 obtain⟨J,f,S,r,d,c,_,e,z⟩:=h
 try dsimp only at e
 cases e;show pH a H _;refine⟨zero_le _,λp b=>?_⟩;have q:=c.IW.push (o:=.lst []) (mo:=.lst []) b ⟨[],Iv,.nil⟩;refine z (J++[p]) _ _ q.2 q.1 (At.II.mpr ⟨p,rfl,?_⟩);rw[← c.IW.len,getElem?_append_right (le_refl _)];simp
def tw (d v:D)(S:Ig):Out D:=match d with
 | .loc l=>(match S[l]? with
  |some (.lst xs)=>if xs.length<sizeLine then Ip .Jm (S.set l (.lst (xs++[v]))) else none
  |_=>none)
 |_=>none
def Do (fo fe:H9 D):H9 D:=λb S=>ah (fo b S) λd a=>ah (aP (eN d a) a) λ_ c=>ah (fe b c) λv e=>tw d v e
theorem Ae {name:Str}(Y:name="append")(L:SE X W o fo)(u:SE X W a fe)(C:attributeBase o name X.env (eval o X.env)=eval o X.env:=by rfl)
  (A:((backTo IT (starEach [a] X.env)).all (λx => !x.1)&&(backToKw IT (keywordEach [] X.env)).all (λx=>x.1.isSome)
   && decide ([a].length+([]:List Keyword).length+(if ([]:List Keyword).isEmpty then 0 else 1)<30))=true:=by rfl)
  (Z:(apos.endLine==IT.line)=true:=by rfl) (s:starEach [a] X.env=(false,eval a X.env)::starEach [] X.env:=by rfl) (w:(backTo IT (starEach [] X.env)).any (·.1)=false:=by rfl) :
  SE X W (.Call (.Attribute o name apos) [a] [] IT) (Do fo fe):=by
 subst Y;refine PE.imp (xD F.plainAttrs_list F.slot_list_append F.type_list_append yZ L (cK u Js s) C A Z s w) λσ H Q h=>(tG.Iw h).mono λx H1 Zq=>?_;obtain⟨d,U⟩:=Zq;obtain⟨J,i,S,r,G,c,m,e,z⟩:=U
 try dsimp only at e
 obtain⟨k,_⟩:=m.Iq;cases q:eN d S with
 |none=>rw[q] at e;cases e
 |some xs =>
  rw[q,bV,cn] at e;obtain⟨l,f,I,rfl,rfl,hq,es,P,mu⟩:=rZ c.IW k q;refine⟨.inl ⟨rfl,I,.inl (.inl P)⟩,?_⟩;have N:tG X W (RD X) [.loc l] [.ref f] (λi g=>ah (fe i g) λv B=>tw (.loc l) v B) σ H1 Q:=⟨J,i,S,r,G,c,.cons k .nil,e,z⟩;refine(tG.Iw N).mono λy H2 ⟨n,M⟩=>?_;show pH _ _ _;obtain⟨J2,T,g,r2,Vh,p,m2,b,z2⟩:=M
  try dsimp only at b
  obtain⟨my,m2⟩:=m2.Iq;obtain⟨R,_⟩:=m2.Iq;have b:tw (.loc l) n g=some (r2,Vh):=b;unfold tw at b;simp only at b;split at b
  ·rename_i K O;split at b
   ·rename_i lt;cases b;obtain⟨q2,e3,j⟩:=At.II.mp R;cases e3;obtain⟨SJ,V,WE⟩:=p.IW.at_ l f _ j O;have up:=p.IW.update (o:=.lst (SJ++[y])) (mo:=.lst (K++[n])) j λJ' H' t D E=>by subst D E;exact⟨_,Iv,(WE.ex t).append (.cons (my.ex t) .nil)⟩
    exact⟨f,SJ,y,rfl,rfl,V,by rw[← WE.length];exact lt,z2 J2 _ _ up.2 up.1 (At.Kl.mpr rfl)⟩
   cases b
  cases b
def uV (x i:D)(S:Ig):Option D:=match i with
 | .int k=>(eN x S).bind λa=>Lo a k
 |_=>none
def Dn (fa fb:H9 D):H9 D:=λb S=>ah (fa b S) λx c=>ah (fb b c) λi a=>aP (uV x i a) a
theorem wc (j:SE X W a fa)(B:SE X W b fb)(y:nK b:=by exact λ_ _=>rfl):SE X W (.Subscript a b pos) (Dn fa fb):=
 (DC xR j B y).imp λL H Q h=>(tG.Iw h).mono λv K ⟨d,g⟩=>(tG.Iw g).mono λG i Zq=>by
  obtain⟨C,f⟩:=Zq
  obtain⟨J,I,S,r,F,c,m,e,z⟩:=f
  try dsimp only at e
  obtain⟨t,m⟩:=m.Iq;obtain⟨o,_⟩:=m.Iq;cases q:uV d C S with
  |none=>rw[q] at e;cases e
  |some E =>
   rw[q] at e;cases e;unfold uV at q;split at q
   ·rename_i k;obtain⟨D,g,f⟩:=bind_eq_some_iff.mp q;obtain⟨l,n,p,rfl,rfl,M,es,u,s⟩:=rZ c.IW o g;cases At.Ij.mp t;obtain⟨w,x,A⟩:=w8 s f;exact⟨n,p,k,w,rfl,rfl,.inl (.inl u),x,z J i w Ex.refl c.IW A⟩
   cases q
def zC (fa fb:H9 D):H9 D:=λb S=>ah (fa b S) λx c=>ah (fb b c) λi a=>aP (if bE x=true then uV x i a else O5 x i) a
theorem xv (d:SE X W a fa)(f:SE X W b fb)(g:nK b:=by exact λ_ _=>rfl):SE X W (.Subscript a b pos) (zC fa fb):=
 SE.either (wc d f g) (Dz V8 d f g) λe S=>cH _ λx c=>by
  by_cases h:bE x=true
  ·refine .inl (congrArg (ah (fb e c)) (funext λi=>funext λj=>?_));rw[if_pos h]
  refine .inr (congrArg (ah (fb e c)) (funext λi=>funext λj=>?_));rw[if_neg h]
def Bu (fe:H9 D):H9 D:=λc S=>ah (fe c S) λd a=>aP ((eN d a).map λb => .int b.length) a
theorem Cb (u:X.mg x=none)(b:SE X W e fe)(i:x="len":=by rfl)(t:Gl X x:=by rfl)(a:starEach [e] X.env=(false,eval e X.env)::starEach [] X.env:=by rfl)(n:(backTo pos (starEach [] X.env)).any (·.1)=false:=by rfl) :
  SE X W (.Call (.Name x p) [e] [] pos) (Bu fe):=by
 subst i;refine PE.imp (i9 io t u cI (cK b Js a) (by decide) (by decide) a n) λC H Q h=>?_;refine(tG.Iw h).mono λv w ⟨d,s⟩=>?_;obtain⟨J,B,S,r,A,c,m,eq,z⟩:=s
 try dsimp only at eq
 obtain⟨g,_⟩:=m.Iq;show pH _ _ _;cases q:eN d S with
 |none=>rw[q] at eq;cases eq
 |some y =>
  rw[q] at eq;cases eq;obtain⟨l,f,j,rfl,rfl,D,es,o,k⟩:=rZ c.IW g q;refine⟨f,j,rfl,.inl (.inl (.inl o)),?_⟩;rw[← k.length];exact z J w _ Ex.refl c.IW (At.Ij.mpr rfl)
def Dg (fe:H9 D):H9 D:=λc S=>ah (fe c S) λd a=>aP ((eN d a).bind λb=>if b.length<=sizeLine then some (.tup b) else none) a
end
theorem ints_get:∀ {vs:List Value}{ns:List Int}(i:Nat) {n:Int},IntsAre vs ns->ns[i]?=some n->∃ t,vs[i]?=some (.int n t)
 |_,_,_,_,.nil,e=>by simp at e
 |_,_,0,_,.cons n t r,e=>by simp at e;subst e;exact⟨t,rfl⟩
 |_,_,i+1,_,.cons n t r,e=>by
  obtain⟨a,h⟩:=ints_get i r (by simpa using e);exact⟨a,by simpa using h⟩
theorem uX:∀ {vs:List Value}{ns:List Int},IntsAre vs ns->vs.length=ns.length
 |_,_,.nil=>rfl
 |_,_,.cons n t r=>by simp[uX r]
theorem qv {k:Int}:∀ {ns:List Int}{j:Nat},j<ns.idxOf k->∀ (a:j<ns.length),ns[j]≠k
 |n::r,0,h,_=>by
  intro e;have e:n=k:=e;subst e;simp at h
 |n::r,j+1,h,a=>by
  by_cases e:n=k
  ·subst e;simp at h
  have b:(n==k)=false:=by simpa using e
  rw[idxOf_cons,b] at h;exact qv (ns:=r) (j:=j) (by simpa using h) (by simpa using a)
theorem lI {prog:Program}{w:World}{A:Around}{E:Ia}{s:Shared}{l:Addr}{o:Obj}{n:Nat}{vs:List Value}{ns:List Int}{k:Int}{t:Tok}{Q:Ia}(u:s.heap.get? l=some o)(L:o.cls = .type "tuple")(hd:o.data = .seq vs.toArray n)(hi:IntsAre vs ns)
  (J:k∈ns) (h:∀ t' s',s'={ s with toks:=s.toks+1 }->Q (.int (ns.idxOf k:Nat) t') s'):wpAny (model prog w) A (call (.builtin "tuple.index") [.ref l,.int k t]) Q E s:=by
 have M:s.TypeIs (.ref l) "tuple":=⟨o,u,L⟩;refine wpAny_call_entry F.slot_tuple_index M F.entry_tuple_index ?_ (F.args_tuple_index_2 _ _);show wpAny _ _ (Builtin.Tuple.tupleItemsOf (.ref l) >>= _) _ _ s;refine wpAny_bind (wpAny_tupleItemsOf u hd ?_);have q:=uX hi;have B:ns.idxOf k<ns.length:=idxOf_lt_length_iff.mpr J;show wpAny _ _ (forIn [0:min vs.toArray.size vs.toArray.size] _ _ >>= _) _ _ s;refine wpAny_bind ?_;rw[Std.Legacy.Range.forIn_eq_forIn_range'];have j:([0:min vs.toArray.size vs.toArray.size]:Std.Legacy.Range).size=vs.length:=by simp[Std.Legacy.Range.size]
 show wpAny _ _ (forIn (range' 0 ([0:min vs.toArray.size vs.toArray.size]:Std.Legacy.Range).size 1) _ _) _ _ _;rw[j];refine wpAny_forIn_list _ (λrest r s'=>r.1=none/\s'=s/\∃ i,i<=ns.idxOf k/\rest=range' i (vs.length-i) 1) _ ?_ ?_ _ _ ⟨rfl,rfl,0,zero_le _,by simp⟩
 ·rintro x rest r s' ⟨C,rfl,i,H,b⟩;have R:i<vs.length:=by omega
  obtain⟨m,f⟩:∃ m,vs.length-i=m+1:=⟨vs.length-i-1,by omega⟩;rw[f,range'_succ] at b;obtain⟨rfl,rfl⟩:=List.cons.inj b;obtain⟨a,c⟩:∃ a,ns[x]?=some a:=⟨ns[x]'(by omega),List.getElem?_eq_getElem _⟩;obtain⟨t',G⟩:=ints_get x hi c;have D:vs.toArray[x]?=some (.int a t'):=by simpa using G
  rw[D];show wpAny _ _ (eqBool (.int a t') (.int k t) >>= _) _ _ _;refine wpAny_bind (wpAny_eqBool_int ?_);by_cases e:a=k
  ·subst e
   have ex:ns.idxOf a=x:=by
    have O:ns.idxOf a<=x:=by
     have d:x<ns.length:=by omega
     have:ns[x]=a:=by rw[List.getElem?_eq_getElem d] at c;exact Option.some.inj c
     rcases lt_or_ge x (ns.idxOf a) with h2 |h2
     ·exact absurd this (qv h2 d)
     exact h2
    omega
   rw[beq_self_eq_true];simp only[if_true];refine wpAny_bind (wpAny_mono (show wpAny _ _ (retInt (x:Int)) _ _ _ from wpAny_ret_mkInt (Q:=λv g => ∃ t',v = .int (x:Int) t'/\g={ s' with toks:=s'.toks+1 }) ⟨_,rfl,rfl⟩) (λfin g Zq=>?_) λ_ _ z=>z);obtain⟨v,K,t',I,p⟩:=Zq;subst K I;refine wpAny_pure (wpAny_pure ⟨_,rfl,?_⟩);have y:=h t' g p;rw[ex] at y;exact y
  rw[beq_eq_false_iff_ne.mpr e];simp only[false_eq_true,if_false];refine wpAny_pure ⟨rfl,rfl,x+1,?_,?_⟩
  ·have d:x<ns.length:=by omega
   rcases lt_or_ge x (ns.idxOf k) with h2 |h2
   ·exact h2
   exfalso;have p:x=ns.idxOf k:=by omega
   rw[p,List.getElem?_eq_getElem B,getElem_idxOf B] at c;exact e (Option.some.inj c).symm
  congr 1;omega
 rintro⟨N,P⟩ s' ⟨C,rfl,i,H,b⟩;exfalso;obtain⟨m,f⟩:∃ m,vs.length-i=m+1:=⟨vs.length-i-1,by omega⟩;rw[f,range'_succ] at b;cases b
section
variable {X:Cx}{W:WT}{fe fa:H9 D}
theorem yY:TM X "tuple.index" (λx xs H Q => ∃ (a:Addr) (ns:List Int) (k:Int),x = .ref a/\xs=[.int k]/\LW X.K H a (ns.map V.int)/\k∈ns/\Q (.int (ns.idxOf k:Nat)) H):=by intro b s y H x xs v t Q I m p h;obtain⟨a,ns,k,rfl,rfl,f,g,q⟩:=h;cases m;obtain⟨u,rfl,d⟩:=vals1 p;obtain⟨t2,rfl⟩:=d;obtain⟨its,c,⟨o,l,i,n,j⟩,_⟩:=I.tuple f;refine lI (vs:=its) l i j (eZ c) g λr w e=>?_;subst e;exact⟨.int _,H,I.tok _,⟨_,rfl⟩,q⟩
def jA:D->D->Option D
 | .tup a,.int k=>(ck a).bind λns=>if k∈ns then some (.int (ns.idxOf k:Nat)) else none
 |_,_=>none
theorem DP {J:List Addr}{b:Hp}{d:D}{v:V}(f:dP d=true)(m:At X.K b J d v):Rn X.K "tuple" v b:=by
 cases d<;>first |(cases f;done) |skip
 rename_i j;obtain⟨a,e,rfl,c,_⟩:=At.IC.mp m;rcases c with z |⟨o,its,n,i,h,g,_⟩
 ·exact .inr (.inl ⟨rfl,.inr ⟨e,z.1⟩⟩)
 exact .inr (.inl ⟨rfl,.inl ⟨o,i,h,g⟩⟩)
theorem qx {o:Expr}{name:Str}{b c:Pos}{a:Expr}(z:name="index")(t:SE X W o fe)(i:SE X W a fa)(p:attributeBase o name X.env (eval o X.env)=eval o X.env:=by rfl)
  (n:((backTo c (starEach [a] X.env)).all (λx => !x.1)&&(backToKw c (keywordEach [] X.env)).all (λx=>x.1.isSome)
   && decide ([a].length+([]:List Keyword).length+(if ([]:List Keyword).isEmpty then 0 else 1)<30))=true:=by rfl)
  (C:(b.endLine==c.line)=true:=by rfl) (f:starEach [a] X.env=(false,eval a X.env)::starEach [] X.env:=by rfl) (l:(backTo c (starEach [] X.env)).any (·.1)=false:=by rfl) :
  SE X W (.Call (.Attribute o name b) [a] [] c) (s_ dP jA fe fa):=by
 subst z;refine PE.imp (xD F.plainAttrs_tuple F.slot_tuple_index F.type_tuple_index yY t (cK i Js f) p n C f l) λP H Q h=>oG (λJ O d v u m=>DP u m) (λv M g Q q=>?_) h;obtain⟨J,L,I,G,N,A,w,eq,q⟩:=q;unfold jA at eq;split at eq
 ·rename_i K k;obtain⟨ns,D,e⟩:=bind_eq_some_iff.mp eq;split at e
  ·rename_i E;cases e;cases At.Ij.mp w;obtain⟨a,r,rfl,s,B⟩:=At.IC.mp A;have j:=fN D;subst j;have y:r=ns.map V.int:=Il.K5 B;subst y;exact⟨a,ns,k,rfl,rfl,s.sq,E,q g _ (Iz.refl _) (At.Ij.mpr rfl)⟩
  cases e
 cases eq
end
def CT:List Int->Option Int
 |[]=>none
 |n::r=>some (r.foldl (λa b=>if b<a then b else a) n)
theorem sF:∀ (r:List Int) (n:Int),(r.foldl (λa b=>if b<a then b else a) n∈n::r)/\∀ a∈n::r,r.foldl (λa b=>if b<a then b else a) n<=a
 |[],n=>by simp
 |x::r,n=>by
  rw[foldl_cons];by_cases f:x<n
  ·rw[if_pos f];obtain⟨d,c⟩:=sF r x;refine⟨mem_cons_of_mem _ d,λa ha=>?_⟩;rcases mem_cons.mp ha with e |ha
   ·have g:=c x (mem_cons_self ..);omega
   exact c a ha
  rw[if_neg f];obtain⟨d,c⟩:=sF r n;have g:=c n (mem_cons_self ..);refine⟨?_,λa ha=>?_⟩
  ·rcases mem_cons.mp d with e |h
   ·rw[e];exact mem_cons_self ..
   exact mem_cons_of_mem _ (mem_cons_of_mem _ h)
  rcases mem_cons.mp ha with e |ha
  ·omega
  rcases mem_cons.mp ha with e |ha
  ·omega
  exact c a (mem_cons_of_mem _ ha)
theorem y6 {ns:List Int}{M:Int}(c:M∈ns)(d:∀ a∈ns,M<=a):CT ns=some M:=by
 cases ns with
 |nil=>simp at c
 |cons n r =>
  obtain⟨a,b⟩:=sF r n;exact congrArg some (Int.le_antisymm (b M c) (d _ a))
theorem oO:∀ {vs:List Value}{ns:List Int},IntsAre vs ns->∃ xs:List (Int×Tok),vs=xs.map (λp => .int p.1 p.2)/\ns=xs.map (·.1)
 |_,_,.nil=>⟨[],rfl,rfl⟩
 |_,_,.cons n t r=>by
  obtain⟨xs,a,b⟩:=oO r;exact⟨(n,t)::xs,by rw[a];rfl,by rw[b];rfl⟩
section
variable {X:Cx}{W:WT}
def mT:List D->Option D
 |[.lst ds]=>(ck ds).bind λns=>(CT ns).map .int
 |_=>none
theorem yc (T:X.calm=true):lw X (.builtin "min") mT:=by
 intro g s σ H b W Q I r h;obtain⟨J,Y,d,hJ,m,e,q⟩:=h;unfold mT at e;split at e
 ·rename_i ys;obtain⟨ns,O,E⟩:=bind_eq_some_iff.mp e;obtain⟨M,o,U⟩:=map_eq_some_iff.mp E;subst U;obtain⟨v,w,rfl,a,n⟩:=Il.Ik.mp m;cases Il.Io.mp n;obtain⟨p,V,rfl,t,S⟩:=At.ID.mp a;obtain⟨u,rfl,A⟩:=vals1 r;cases A;have B:=fN O;subst B;have ev:=Il.K5 S;subst ev;obtain⟨its,y,pl,hz⟩:=I.list t.sq;obtain⟨b,ex,c⟩:=oO (eZ y)
  have z : 0<b.length:=by
   cases b with
   |nil=>subst c;cases o
   |cons x b=>simp
  have D:s.heap.IsList p (intItems b.toArray):=by have:=pl.isList;rw[ex] at this;simpa [intItems] using this
  refine min_intList (I.ok.hd T) D (by simpa using z) λv h' tk C K=>?_;obtain⟨P,rfl⟩:=intItems_at C;obtain⟨Z,N⟩:=argBest_lt (numAt b.toArray) (b.toArray.size-1)
  have mem:numAt b.toArray (argBest (λi j=>decide (numAt b.toArray i<numAt b.toArray j)) (b.toArray.size-1))∈ns:=by
   have l:argBest (λi j=>decide (numAt b.toArray i<numAt b.toArray j)) (b.toArray.size-1)<b.length:=by
    have:b.toArray.size=b.length:=by simp
    omega
   rw[numAt_eq,c];simp only[List.getD_eq_getElem?_getD,getElem?_map,List.toList_toArray,List.getElem?_eq_getElem l,map_some,getD_some];exact mem_map.mpr ⟨_,getElem_mem l,rfl⟩
  have low:∀ a∈ns,numAt b.toArray (argBest (λi j=>decide (numAt b.toArray i<numAt b.toArray j)) (b.toArray.size-1))<=a:=by
   intro a f;rw[c] at f;obtain⟨x,F,rfl⟩:=mem_map.mp f;obtain⟨j,R,rfl⟩:=getElem_of_mem F
   have L:=N j (by
    have:b.toArray.size=b.length:=by simp
    omega)
   refine Int.le_trans L (Int.le_of_eq ?_);simp[numAt,R]
  have k:=y6 mem low;rw[o] at k;have G:=Option.some.inj k;refine⟨.int M,H,I.kept (t':=tk) K,⟨P,by rw[G]⟩,q H _ (Iz.refl H) (At.Ij.mpr rfl)⟩
 cases e
end
section
variable {X:Cx}{W:WT}{pos:Pos}
def Fk (K:H_)(a:Addr):It:=
 ⟨λi H => ∃ b x,Lw K H a b/\b[i]?=some x,λi H x c => ∃ p y,H p=none/\x = .ref p/\c=upd H p (.tup [.int i,y])/\∀ b,Lw K H a b->b[i]?=some y,λi H => ∃ b,Lw K H a b/\b.length<=i⟩
theorem vX {P:Program}{w:World}{K:H_}{es:List Expr}{k:Nat}{pt:Pos}(a e it:Addr)(N:e≠it)(UX:a≠e)(UY:a≠it):Turn P w K (.Tuple es k pt) (Fk K a) [e,it] e (λi h=>(∃ old,IsEnum h e it i old)/\h.IsListIter it a i) where
 mem:=by simp
 obj:=λi h st b hb=>by
  obtain⟨⟨old,d⟩,o,l,D,hd⟩:=st;rcases mem_cons.mp hb with rfl |hb
  ·exact⟨_,d,λv z=>by cases z⟩
  have:b=it:=by simpa using hb
  subst this;exact⟨o,l,λv z=>by rw[hd] at z;cases z⟩
 keep:=λi h h' st kp=>by
  obtain⟨⟨old,d⟩,o,l,r⟩:=st;exact⟨⟨old,kp e (by simp) _ d⟩,o,kp it (by simp) o l,r⟩
 item:=by
  intro X n R Y D i j s σ H E I C st V;subst n R Y;obtain⟨B,x,F,M⟩:=V;obtain⟨its,S,p,hz⟩:=I.list F;obtain⟨u,Z,ru⟩:=S.get M;obtain⟨⟨old,d⟩,f⟩:=st;have JU:i<its.toArray.size:=by rw[size_toArray];exact(List.getElem?_eq_some_iff.mp Z).1
  refine wpAny_pyNext_enum_itemD (Draws.list (A:=X.A.in1) (I.ok.hd D) it a UY its.toArray) d ⟨f,p.isList⟩ JU N (by simp[N,Ne.symm UX]) λy h' tk n l Rt hT hsz hk=>?_
  have ey:y=u:=by
   have:its.toArray[i]?=some u:=by simpa using Z
   rw[this] at n;exact(Option.some.inj n).symm
  subst ey;refine⟨_,rfl,wpAny_letOwnedTupleGo_enum (s:={ s with heap:=h',toks:=tk+1 }) l λG Px T=>?_⟩;have hn:H s.heap.objs.size=none:=I.fresh;obtain⟨W,Sd,Yf,UZ,U0,U1⟩:=C e (by simp);obtain⟨t,J,U2,O,L,U⟩:=C it (by simp);have kp:∀ b o,b≠e->b≠it->s.heap.get? b=some o->G.get? b=some o:=λb o h1 OC g=>(T.2 b h1).trans (hk b o h1 OC g);have Se:s.heap.objs.size≠e:=ne_of_gt (Heap.lt_size d);have NV:G.get? s.heap.objs.size=some { cls:=.type "tuple",data:=.seq #[.int i tk,y] }:=(T.2 _ Se).trans hT;have ne:∀ b o,H b=some o->b≠s.heap.objs.size:=λb o q=>aO q hn
  have I1:Inv X j σ (upd H s.heap.objs.size (.tup [.int i,x])) { s with heap:=G,toks:=tk+1 }:=by
   refine I.step (h':=G) (g':=s.gens) (d':=s.drawn) (t':=tk+1) (ch:=[e,it]) (λb hb=>?_) (λb o _ _ hb g _=>kp b o (λz=>hb (by simp[z])) (λz=>hb (by simp[z])) g) (λb o _ _ hb g _=>⟨o.slots,kp b o (λz=>hb (by simp[z])) (λz=>hb (by simp[z])) g⟩)
    (λb o hb g n'=>by rw[aF (ne_of_lt (Heap.lt_size g))];exact n') (λb o hb g=>⟨o,kp b o (λz=>hb (by simp[z])) (λz=>hb (by simp[z])) g⟩)
    (λb B q=>by rw[aF (ne b _ q)];exact q) (λb o B q=>by rw[aF (ne b _ q)];exact q) (λb ps q=>⟨#[],by rw[aF (ne b _ q),q];simp⟩)
    (λm hm=>?_) (λb o q=>?_) I.bare
   ·rcases mem_cons.mp hb with rfl |hb
    ·exact⟨UZ,Sd,U0,U1⟩
    have:b=it:=by simpa using hb
    subst this;exact⟨O,J,L,U⟩
   ·obtain⟨o,es,ep,l,r⟩:=hm;exact⟨o,es,ep,kp _ o (Ne.symm Sd) (Ne.symm J) l,r⟩
   by_cases hb:b=s.heap.objs.size
   ·subst hb;rw[Iv] at q;cases q;exact⟨by show 2<=sizeLine;decide,[.int i tk,y],.cons ⟨tk,rfl⟩ (.cons ru .nil),_,NV⟩
   rw[aF hb] at q;refine(I.IL b o q).Lx (λc v ME z=>kp c v ?_ ?_ z) (λc z=>by rw[aF (ne c _ z)];exact z) λc B z=>by rw[aF (ne c _ z)];exact z
   ·rcases ME with z' |z'
    ·rw[z'];exact aO q W
    exact aO z' W
   rcases ME with z' |z'
   ·rw[z'];exact aO q t
   exact aO z' t
  refine⟨.ref s.heap.objs.size,_,I1,rfl,⟨_,x,hn,rfl,rfl,λys hy=>by rw[I.Lz hy F];exact M⟩,⟨⟨y,Px⟩,Rt.1.extBut T.extBut (Ne.symm N)⟩,λb hb=>?_⟩;rcases mem_cons.mp hb with rfl |hb
  ·rw[aF (Ne.symm Se)];exact W
  have:b=it:=by simpa using hb
  subst this;obtain⟨o,Mr,_⟩:=f;rw[aF (ne_of_lt (Heap.lt_size Mr))];exact t
 done:=by
  intro X n R Y D i j s σ H E I C st V;subst n R Y;obtain⟨B,F,M⟩:=V;obtain⟨its,S,p,hz⟩:=I.list F;obtain⟨⟨old,d⟩,f⟩:=st;obtain⟨t,J,U2,O,L,U⟩:=C it (by simp);have hl:=S.length;exact wpAny_pyNext_enum_end (I.ok.hd D) d f p.isList (by simp;omega) λh' eb=>⟨rfl,I.turned (t':=s.toks) (λb o hb e=>eb b o hb e) t J O L U⟩
 self:=by
  intro A i s Q E st h;obtain⟨⟨old,d⟩,_⟩:=st;exact wpAny_pyIter_enum d h
theorem Walk.PK {a:Addr}{ds:List D}{xs:List V}{J:List Addr}{H:Hp}(t:LQ X.K H J a xs)(m:Il X.K H J ds xs):Walk X (Fk X.K a) (cP 0 ds) J H where
 len:=by rw[bN,m.length];exact t.len
 go:=λf g i x b=>by
  rw[bN] at b;have m1:=m.ex x;obtain⟨v,h,_⟩:=m1.get (List.getElem?_eq_getElem b);exact⟨xs,v,(t.ex x).sq,h⟩
 Nw:=λf g i v l x j b y=>by
  obtain⟨p,y,c,rfl,rfl,k⟩:=y;obtain⟨d,e,a⟩:=(m.ex x).get' (k xs (t.ex x).sq);refine⟨.tup [.int i,d],by rw[fw,e];simp,At.Kd (.cons (At.Ij.mpr rfl) (.cons a .nil)) c j (by show 2<=sizeLine;decide),aQ c _⟩
 stop:=λf g i x b=>by
  rw[bN] at b;exact⟨xs,(t.ex x).sq,by rw[← m.length];exact b⟩
def wQ:List D->Option (List D)
 |[.lst xs]=>some (cP 0 xs)
 |_=>none
theorem v9 {es:List Expr}{k:Nat}{pt p:Pos}{a:Expr}{t:H9 (List D)}{x:Str}(C:x="enumerate")(N:X.mg x=none)(A:SA X W [a] t)(M:Gl X x:=by rfl)
  (F:starEach (a::[]) X.env=(false,eval a X.env)::starEach [] X.env:=by rfl) (G:(backTo pos (starEach [] X.env)).any (·.1)=false:=by rfl):SI X W (.Tuple es k pt) (.Call (.Name x p) [a] [] pos) (jg wQ t):=by
 subst C;intro c s w H R I h;refine wpAny_Call_Name_kw (j9 I M N boot_enumerate ?_ (by decide) (by decide));refine callWith_type1 (IE (A pos c s w H _ I (kU h)) λU d Zq=>?_) F G;obtain⟨V,i,f,E,J,S,Z,Y,so,m,g,z⟩:=Zq;unfold wQ at g;split at g
 ·rename_i T;cases g;obtain⟨v,r,rfl,P,n⟩:=Il.Ik.mp m;cases Il.Io.mp n;obtain⟨ad,ws,rfl,l,O⟩:=At.ID.mp P;obtain⟨u,rfl,y⟩:=vals1 E;cases y;obtain⟨its,Q,pl,hz⟩:=f.list l.sq;have j:ad<d.heap.objs.size:=by obtain⟨o,n,e,_⟩:=pl;exact Heap.lt_size e
  refine call_enumerate_list pl.isList λL q it sz kp=>?_;have B:Inv X c w i { d with heap:=L }:=f.kept (t':=d.toks) kp;refine wpAny_pyIter_enum q ?_;refine⟨d.heap.objs.size+1,[d.heap.objs.size+1,d.heap.objs.size],_,Fk X.K ad,i,rfl,B,vX ad _ _ (ne_of_gt (lt_succ_self _)) (ne_of_lt (lt_succ_of_lt j)) (ne_of_lt j),⟨⟨_,q⟩,it⟩,λb hb=>?_,z i _ (Iz.refl _) (Walk.PK l O)⟩;rcases mem_cons.mp hb with rfl |hb
  ·exact f.LA (le_succ _) (f.IL.fresh (le_succ _))
  have:b=d.heap.objs.size:=by simpa using hb
  subst this;exact f.LA (le_refl _) f.fresh
 cases g
def sG:List D->Option (List D)
 |[.tup xs]=>some (cP 0 xs)
 |[.lst xs]=>some (cP 0 xs)
 |_=>none
theorem z6 {es:List Expr}{k:Nat}{pt p:Pos}{a:Expr}{t:H9 (List D)}{x:Str}(g:x="enumerate")(c:X.mg x=none)(d:SA X W [a] t)(h:Gl X x:=by rfl)
  (e:starEach (a::[]) X.env=(false,eval a X.env)::starEach [] X.env:=by rfl) (f:(backTo pos (starEach [] X.env)).any (·.1)=false:=by rfl):SI X W (.Tuple es k pt) (.Call (.Name x p) [a] [] pos) (jg sG t):=by
 refine SI.either (rL g c d h e f) (v9 g c d h e f) λl S=>?_;unfold jg;refine cH _ λi j=>?_;unfold sG o7 wQ
 match i with
 |[.tup xs]=>exact .inl rfl
 |[.lst xs]=>exact .inr rfl
 |[]=>exact .inl rfl
 |[.Jm]=>exact .inl rfl
 |[.bl _]=>exact .inl rfl
 |[.int _]=>exact .inl rfl
 |[.str _]=>exact .inl rfl
 |[.set _]=>exact .inl rfl
 |[.loc _]=>exact .inl rfl
 |[.fn _ _]=>exact .inl rfl
 |a::b::r=>cases a<;>exact .inl rfl
end
section
variable {X:Cx}{W:WT}{pos p:Pos}{e:Expr}
def Dl (c:Str)(g:Ih->Ig->Bool):H9 Fl:=λa S=>if g a S=true then some (.error c,S) else none
end
section
variable {X:Cx}{W:WT}{pos pos' p:Pos}{o i e:Expr}{es:List Expr}{gs:H9 (List D)}{fo fi fv fe:H9 D}{x:Str}
def wZ (gs:H9 (List D)):H9 D:=λc S=>ah (gs c S) λb a=>if b.length<=sizeLine then Ip (.loc a.length) (a++[.lst b]) else none
theorem Aa (h:SA X W es gs):SE X W (.List es pos) (wZ gs):=(wu h).imp λt H Q h=>(tG.Kt h).mono λa i Zq=>by
 obtain⟨k,j,g⟩:=Zq
 rw[append_nil,append_nil] at g;obtain⟨J,s,S,r,n,c,m,e,z⟩:=g;split at e
 ·rename_i le;cases e;refine⟨by rw[← j];exact le,λp d=>?_⟩
  have x:Ex J i (J++[p]) (upd i p (.lst a)):=⟨⟨[p],rfl⟩,λb u f l=>⟨by rw[aF (aO f d)];exact f,λz=>by
   rcases mem_append.mp z with z |z
   ·exact l z
   exact aO f d (by simpa using z)⟩⟩
  have q:=c.IW.push (o:=.lst a) (mo:=.lst k) d ⟨a,Iv,m.ex x⟩;refine z (J++[p]) _ _ q.2 q.1 (At.II.mpr ⟨p,rfl,?_⟩);rw[← c.IW.len,getElem?_append_right (le_refl _)];simp
 cases e
end
def FE (K:H_)(x qual:Str)(st:Stmt)(f:Addr):Prop:=∃ fd,ML K x qual st f fd
def BD (x qual:Str)(st:Stmt)(b:List Str):Prop:=∀ (kV doc d:Value) (e:Option Addr) (c ct:Value) (a:List Value),a.length=b.length->bindArgs (PySem.W.fnOf x qual (d5 st) (bL st) (aq st) .none kV doc d e c ct) ⟨a,[]⟩=pure (b.zip a)
section
variable {P:List Value->Prop}{us:List Value}
theorem Yu (h:us.length=0)(k:P []):P us:=by rw[length_eq_zero_iff.mp h];exact k
theorem B0 {n:Nat}(h:us.length=n+1)(k:∀ a r,r.length=n->P (a::r)):P us:=by
 cases us with
 |nil=>cases h
 |cons a r=>exact k a r (Nat.succ.inj h)
theorem WH (h:us.length=1)(k:∀ a,P [a]):P us:=B0 h λa _ h=>Yu (P:=λr=>P (a::r)) h (k a)
theorem SJ (h:us.length=2)(k:∀ a b,P [a,b]):P us:=B0 h λa _ h=>WH (P:=λr=>P (a::r)) h (k a)
theorem WI (h:us.length=3)(k:∀ a b c,P [a,b,c]):P us:=B0 h λa _ h=>SJ (P:=λr=>P (a::r)) h (k a)
theorem Yv (h:us.length=4)(k:∀ a b c d,P [a,b,c,d]):P us:=B0 h λa _ h=>WI (P:=λr=>P (a::r)) h (k a)
end
section
variable {x qual:Str}{st:Stmt}{p1 p2 p3 p4 p5 p6:Str}
theorem Vi (h:∀ (kV doc c:Value) (d:Option Addr) (b ct:Value) (a:Value),bindArgs (PySem.W.fnOf x qual (d5 st) (bL st) (aq st) .none kV doc c d b ct) ⟨[a],[]⟩=pure [(p1,a)]):BD x qual st [p1]:=λkV doc c d b ct e f=>WH (P:=λe=>bindArgs _ ⟨e,[]⟩=pure (List.zip [p1] e)) f λa=>(h kV doc c d b ct a)
theorem Rv (h:∀ (kV doc d:Value) (e:Option Addr) (c ct:Value) (a b:Value),bindArgs (PySem.W.fnOf x qual (d5 st) (bL st) (aq st) .none kV doc d e c ct) ⟨[a,b],[]⟩=pure [(p1,a),(p2,b)]):BD x qual st [p1,p2]:=λkV doc d e c ct f g=>SJ (P:=λf=>bindArgs _ ⟨f,[]⟩=pure (List.zip [p1,p2] f)) g λa b=>(h kV doc d e c ct a b)
theorem Vj (h:∀ (kV doc e:Value) (f:Option Addr) (d ct:Value) (a b c:Value),bindArgs (PySem.W.fnOf x qual (d5 st) (bL st) (aq st) .none kV doc e f d ct) ⟨[a,b,c],[]⟩=pure [(p1,a),(p2,b),(p3,c)]):BD x qual st [p1,p2,p3]:=λkV doc e f d ct g i=>WI (P:=λg=>bindArgs _ ⟨g,[]⟩=pure (List.zip [p1,p2,p3] g)) i λa b c=>(h kV doc e f d ct a b c)
theorem Vk (h:∀ (kV doc f:Value) (g:Option Addr) (e ct:Value) (a b c d:Value),bindArgs (PySem.W.fnOf x qual (d5 st) (bL st) (aq st) .none kV doc f g e ct) ⟨[a,b,c,d],[]⟩=pure [(p1,a),(p2,b),(p3,c),(p4,d)]):BD x qual st [p1,p2,p3,p4]:=λkV doc f g e ct i j=>Yv (P:=λi=>bindArgs _ ⟨i,[]⟩=pure (List.zip [p1,p2,p3,p4] i)) j λa b c d=>(h kV doc f g e ct a b c d)
end
section
variable {K:H_}{h:Heap}{mg:Ic}{x m c qual:Str}{st:Stmt}{ps:List Str}{f C:Addr}
theorem fE {d:Value}{g h:Option Addr}{e:Array (Option Value)}{kV doc b a ct:Value}(l:K.lookup f=some ⟨d,g,.func (PySem.W.fnOf x qual (d5 st) (bL st) (aq st) .none kV doc b h a ct),e⟩)
  (c:PySem.W.codeIn K a qual=true) (k:PySem.W.keepIn K (.ref f)=true):FE K x qual st f:=⟨_,EV l c k⟩
theorem Yw (X:K.In h)(G:h.Ns mainGlobals mg)(a:PySem.W.nsIn K mainGlobals x=some (some (.ref f)))(q:FE K x x st f)(b:BD x x st ps):bj K mg x st ps:=
 Exists.elim q λfd F=>⟨f,fd,F,PySem.W.mg_of X G a,F.binds b⟩
abbrev NC (K:H_)(c:Str)(C:Addr):Prop:=PySem.W.nsIn K mainGlobals c=some (some (.ref C))/\M8 K C
theorem Yx (n:NC K c C)(a:PySem.W.findIn K (.ref C) m=some (some (.ref f)))(i:PySem.W.isFn K (.ref f)=true)(q:FE K m qual st f)(b:BD m qual st ps):MethAt K c m qual st ps:=
 Exists.elim q λfd F=>⟨C,f,fd,n.1,n.2,⟨a,i,F.kp⟩,F,F.binds b⟩
theorem Yy (X:K.In h)(G:h.Ns mainGlobals mg)(n:NC K c C)(e:PySem.W.makesIn K C=true)(d:PySem.W.keepIn K (.ref C)=true)(a:PySem.W.findIn K (.ref C) "__init__"=some (some (.ref f)))(i:PySem.W.isFn K (.ref f)=true)(q:FE K "__init__" qual st f)(b:BD "__init__" qual st ps):Du K mg c qual st ps:=
 Exists.elim q λfd F=>⟨C,f,fd,n.1,PySem.W.mg_of X G n.1,⟨e,a,i,d⟩,F,F.binds b⟩
end
end L2
namespace L2
open PySem
section
variable {prog:Program}{w:World}{K:Type} [DecidableEq K] {knd:KeyKind prog w K}{pk:K->Bool}{led:Bool}{A:Around}{E:Ia}{s:Shared}
set_option maxHeartbeats 3200000 in
theorem sR {l:Addr}{items:Array Value}{Q:Ia}(D:A.handled=none)(B:s.heap.IsList l items)(val:Nat->K)(G:∀ (i:Nat) v,items[i]?=some v->knd.is (val i) v=true/\v.scannable=true/\plainKind v=pk (val i))
  (g:items.size+1<scanBound)
  (h:∀ (h':Heap) (tk:Nat),Jf knd pk (!Md w) h' s.heap.objs.size (met val items.size)->(∀ b o,b<s.heap.objs.size->s.heap.get? b=some o->h'.get? b=some o)->Q (.ref s.heap.objs.size) { s with heap:=h',toks:=tk }) :
  wpAny (model prog w) A (call (.type "set") [.ref l]) Q E s:=by
 obtain⟨c,tl,U6⟩:=F.called_set.mro;have c1:=F.called_set.made;have c2:=F.called_set.sub;refine wpAny_call (codeAny_of_tree ?_);show wpAny _ _ (callAny (.type "set") _) _ _ _;refine wpAny_pure ⟨Code.quiet_builtin _ (by decide),codeAny_builtin F.entry_type_call ?_⟩;rw[Around.under_plain (weight_type_call_type "set" [.ref l] []) rfl];have c3:=F.called_set.notType;have c4:=F.called_set.canCreate;have c5:=SF.P9 (.ref l)
 repeat (any_goals (first |assumption |wp_step))
 refine codeAny_mono (ua (.ref l) (E:=E) (Q₁:=λobj a=>obj = .ref s.heap.objs.size/\a={ s with heap:=s.heap.push (gu w) }) ⟨rfl,rfl⟩) λr a j=>?_;cases r with
 |error e=>exact j
 |ok W =>
  cases W with
  |ret obj =>
   obtain⟨rfl,rfl⟩:=j;have q:(s.heap.push (gu w)).get? s.heap.objs.size=some (gu w):=Heap.get?_push_size _ rfl;have H:Shared.TypeIs { s with heap:=s.heap.push (gu w) } (.ref s.heap.objs.size) "set":=⟨_,q,rfl⟩;have i1:=F.called_set.init.lookup;have i2:=F.called_set.init.bind (.ref s.heap.objs.size)
   repeat (any_goals (first |assumption |wp_step))
   refine codeAny_mono (codeAny_call_builtin (R:=wants (λr d=>r = .none/\∃ h' tk,d={ s with heap:=h',toks:=tk }/\Jf knd pk (!Md w) h' s.heap.objs.size (met val items.size) /\
     (∀ b o,b<s.heap.objs.size->s.heap.get? b=some o->h'.get? b=some o)) E) F.called_set.init.plain F.entry_set_init (qa H ?_)) λf d m=>?_
   ·obtain⟨⟨U7,Y,Z,QU⟩,x,u,y,n⟩:=id B;simp only at u n;subst u n;have t:=Heap.get?_push_of_some (gu w) x;have t1:=F.sub_list_set;have t2:=F.sub_list_frozenset;have t3:(Value.type "list"==Value.type "dict")=false:=by decide
    have N:(s.heap.push (gu w)).IsList l items:=⟨_,t,rfl,y,rfl⟩;unfold Builtin.«set.__init__» noKeywords Builtin.Frozenset.updateFrom;generalize V:pyIter=PI
    wp_walk
    subst V;refine wpAny_pyIter_list N ?_;refine wpAny_bind (wpAny_runValue ?_);have p:l<s.heap.objs.size:=Heap.lt_size x;have z1:(s.heap.push (gu w)).objs.size=s.heap.objs.size+1:=Heap.size_push ..;have M:l≠(s.heap.push (gu w)).objs.size:=by rw[z1];exact ne_of_lt (lt_succ_of_lt p)
    have I:s.heap.objs.size∉[(s.heap.push (gu w)).objs.size,l]:=by
     rw[z1];intro hm;rcases mem_cons.mp hm with e |hm
     ·exact ne_of_lt (lt_succ_self _) e
     exact ne_of_gt p (mem_singleton.mp hm)
    refine ub (pk:=pk) (led:=!Md w) ((Walks.list (by simp[D]) _ l M items).toS) s.heap.objs.size I val G g (items.size-0) 0 _ (by omega) (zero_le _)
     ⟨⟨_,Heap.get?_push_size _ rfl,rfl,rfl⟩,⟨_,Heap.get?_push_of_some _ t,rfl,y,rfl⟩⟩ (Jf.start (Heap.get?_push_of_some _ q)) λX hm k=>?_
    obtain⟨h',J,z,O,P⟩:=X;have C:J=s.gens:=hm.gens;have S:z=s.drawn:=hm.drawn;have U:P=s.os:=hm.os;subst C S U;show wpAny _ _ _ _ _ _;refine wpAny_pure ?_;show wpAny _ _ (ret Value.none) _ _ _;refine wpAny_pure ⟨rfl,h',O,rfl,k,λb o g e=>hm.heap b o ?_ (Heap.get?_push_of_some _ (Heap.get?_push_of_some _ e))⟩;intro hm;rcases mem_cons.mp hm with e |hm
    ·exact ne_of_lt g e
    rw[z1] at hm;exact ne_of_lt (lt_succ_of_lt g) (mem_singleton.mp hm)
   cases f with
   |error e=>exact m
   |ok T =>
    cases T with
    |ret r =>
     obtain⟨rfl,h',tk,rfl,k,L⟩:=m
     repeat (any_goals (first |assumption |wp_step))
     exact h _ _ k L
    |_=>exact m.elim
  |_=>exact j.elim
end
end L2
namespace L2
open PySem PySem.Spec PyProof.Rows PySem.W
def PL:Key->D
 | .inl i => .int i
 | .inr x => .str x
def gM:D->Option D
 | .tup a=>if a.length<64 then (iG a).bind λb=>(c_ ((b.foldl bY []).map PL)).map .lst else none
 | .lst a=>if a.length<64 then (iG a).bind λb=>(c_ ((b.foldl bY []).map PL)).map .lst else none
 |_=>none
section
variable {X:Cx}{W:WT}{x y:Str}{p p2 pos LH:Pos}{fe:H9 D}
theorem zk {d:D}{k:Key}(h:eY d=some k):d=PL k:=by
 cases d with
 |int i=>cases h;rfl
 |str x=>cases h;rfl
 |_=>cases h
theorem uR {K:H_}{H:Hp}{J:List Addr}:∀ {ds:List D}{b:List Key}{vs:List V},iG ds=some b->Il K H J ds vs->∀ k∈b,At K H J (PL k) (kV k)
 |[],b,vs,e,m=>by cases e;intro k hk;cases hk
 |d::ds,b,vs,e,m=>by
  obtain⟨v,r,rfl,a,n⟩:=Il.Ik.mp m;rw[iG] at e;obtain⟨k,c,f⟩:=bind_eq_some_iff.mp e;obtain⟨j,i,h⟩:=map_eq_some_iff.mp f;subst h;intro g hk;rcases mem_cons.mp hk with rfl |hk
  ·rw[← zk c,← uU c a];exact a
  exact uR i n g hk
theorem vC {K:H_}{H:Hp}{J:List Addr}:∀ {a:List Key},(∀ k∈a,At K H J (PL k) (kV k))->Il K H J (a.map PL) (a.map kV)
 |[],_ => .nil
 |k::a,h => .cons (h k (mem_cons_self ..)) (vC λx b=>h x (mem_cons_of_mem _ b))
theorem Dh (J:X.calm=true):Jb X (.type "set") (λxs H Q => ∃ (a:Addr) (c:List Key),xs=[.ref a]/\Lw X.K H a (c.map kV)/\c.length+1<4096/\∀ p,H p=none->Q (.ref p) (upd H p (pS X.prog X.w p (c.foldl bY [])))):=by
 intro B s U H xs O Q I r h;obtain⟨a,c,rfl,N,L,q⟩:=h;obtain⟨u,rfl,C⟩:=vals1 r;cases C;obtain⟨its,l,⟨o,n,g,F,_,D⟩,T⟩:=I.list N;have tp:s.heap.IsList a its.toArray:=⟨o,g,F,n,D⟩;have d:its.length=c.length:=by rw[← l.length,length_map]
 refine sR (knd:=bo X.prog X.w) (pk:=T2) (I.ok.hd J) tp (λi=>c.getD i (.inl 0)) (λi v E=>?_) (by rw[size_toArray,d];exact L) λS tk j k=>?_
 ·have y:its[i]?=some v:=by simpa using E
  have A:i<c.length:=by rw[← d];exact(List.getElem?_eq_some_iff.mp y).1
  obtain⟨u,m,f⟩:=l.get (i:=i) (x:=kV c[i]) (by rw[getElem?_map,List.getElem?_eq_getElem A];rfl);rw[y] at m;cases m;have M:c.getD i (.inl 0)=c[i]:=by simp[List.getD,A]
  simp only[M];exact⟨oN f,(r_ f).1,(r_ f).2⟩
 have G:its.toArray.size=c.length:=by rw[size_toArray,d]
 rw[G,uK] at j;refine⟨.ref s.heap.objs.size,_,I.laid (t':=tk) (o:=pS X.prog X.w s.heap.objs.size (c.foldl bY [])) (λb o e=>k b o (Heap.lt_size e) e) (le_refl _) ⟨j,?_,λR P z k=>z.keep k⟩,rfl,q _ I.fresh⟩;obtain⟨o,es,ep,t,g,_⟩:=j;exact⟨o,g⟩
theorem wa {a:Expr}(N:x="sorted")(hy:y="set")(B:X.calm=true)(Y:X.mg x=none)(NW:X.mg y=none)(s:SE X W a fe)(T:Gl X x:=by rfl)(S:Gl X y:=by rfl)
  (E:starEach [a] X.env=(false,eval a X.env)::starEach [] X.env:=by rfl)
  (G:starEach [(.Call (.Name y p2) [a] [] LH)] X.env=(false,eval (.Call (.Name y p2) [a] [] LH) X.env)::starEach [] X.env:=by rfl)
  (P:(backTo LH (starEach [] X.env)).any (·.1)=false:=by rfl) (Z:(backTo pos (starEach [] X.env)).any (·.1)=false:=by rfl) :
  SE X W (.Call (.Name x p) [.Call (.Name y p2) [a] [] LH] [] pos) (NT gM fe):=by
 subst N hy;have inner:=gT (X:=X) (p:=p2) (pos:=LH) ((E6 B).or (Dh B)) S NW Fg (cK s Js E) (by decide) (by decide) E P;refine PE.imp (i9 (sN B) T Y jG (cK inner Js G) (by decide) (by decide) G Z) λσ H Q h=>?_;refine(tG.Iw h).mono λv i ⟨d,U⟩=>?_;obtain⟨J,R,M,hJ,F,eq,q⟩:=tG.UK U
 have go:∀ (e:List D) (f:List V) (c:List Key),Il X.K i J e f->e.length<64->iG e=some c->(c_ ((c.foldl bY []).map PL)).map D.lst=some M->f=c.map kV/\c.length+1<4096/\∀ p,i p=none->∃ (A:Addr) (C:List Key) (r:List Addr) (I out:List D),[V.ref p]=[V.ref A]/\(upd i p (pS X.prog X.w p (c.foldl bY []))) A=some (pS X.prog X.w A C)/\(∀ a∈r,(upd i p (pS X.prog X.w p (c.foldl bY []))) a≠none)/\Il X.K (upd i p (pS X.prog X.w p (c.foldl bY []))) r I (C.map kV)/\c_ I=some out/\∀ l v,Iz (upd i p (pS X.prog X.w p (c.foldl bY []))) l->At X.K l r (.lst out) v->Q v l:=by
  intro e f c m o g n;obtain⟨out,e3,e4⟩:=map_eq_some_iff.mp n;subst e4;refine⟨xP g m,by rw[qA g];omega,λp j=>?_⟩;refine⟨p,c.foldl bY [],J,(c.foldl bY []).map PL,out,rfl,Iv,λa s=>?_,vC λk O=>?_,e3,λl v L m'=>q l v ((aQ j _).trans L) m'⟩
  ·by_cases z:a=p
   ·rw[z,Iv];simp
   rw[aF z];exact hJ a s
  rcases (uZ c [] k).mp O with h |h
  ·cases h
  exact(uR g m k h).ex (Ex.same (aQ j _))
 cases R with
 |tup e =>
  unfold gM at eq;simp only at eq;split at eq
  ·rename_i o;obtain⟨c,g,n⟩:=bind_eq_some_iff.mp eq;obtain⟨b,f,rfl,u,m⟩:=At.IC.mp F;obtain⟨ev,t,k⟩:=go e f c m o g n;subst ev;show pH _ _ _;exact .inl ⟨b,c,rfl,u.sq,t,λp j=>k p j⟩
  cases eq
 |lst e =>
  unfold gM at eq;simp only at eq;split at eq
  ·rename_i o;obtain⟨c,g,n⟩:=bind_eq_some_iff.mp eq;obtain⟨b,f,rfl,u,m⟩:=At.ID.mp F;obtain⟨ev,t,k⟩:=go e f c m o g n;subst ev;show pH _ _ _;exact .inr ⟨b,c,rfl,u.sq,t,λp j=>k p j⟩
  cases eq
 |_=>cases eq
end
section
variable {prog:Program}{w:World}{A:Around}{E:Ia}{s:Shared}
structure ZA (z TI TO i1 i2:Addr) (f1 f2:List Addr):Prop where
 m1:i1∈f1
 m2:i2∈f2
 z1:z∉f1
 z2:z∉f2
 o1:TO∉f1
 o2:TO∉f2
 x1:i2∉f1
 x2:i1∉f2
 oz:TO≠z
 tz:TI≠z
 to:TI≠TO
 t1:TI∉f1
 t2:TI∉f2
variable {z TI TO i1 i2:Addr}{f1 f2:List Addr}{n1 n2:Nat}{P1 P2:Nat->Value->Prop}{S1 S2:Nat->Heap->Prop}{a b:Value}
theorem ZA.ne1 (D:ZA z TI TO i1 i2 f1 f2):i1≠z/\i1≠TO/\i1≠i2/\i2≠z/\i2≠TO/\TI≠i1/\TI≠i2:=
 ⟨λe=>D.z1 (e▸D.m1),λe=>D.o1 (e▸D.m1),λe=>D.x1 (e▸D.m1),λe=>D.z2 (e▸D.m2),λe=>D.o2 (e▸D.m2),λe=>D.t1 (e▸D.m1),λe=>D.t2 (e▸D.m2)⟩
theorem dA {x y:Addr}{l:List Addr}(h:x∉l)(g:y∈l):y≠x:=λe=>h (e▸g)
theorem zJ (D:ZA z TI TO i1 i2 f1 f2)(F:Draws prog w A i1 f1 n1 P1 S1)(C:Draws prog w A i2 f2 n2 P2 S2){j k:Nat}(hj:j<n1)(hk:k<n2){Q:Ia}
  (hz:IsZip s.heap z TI TO .none) (Z:IsPair s.heap TI (.ref i1) (.ref i2)) (Y:IsPair s.heap TO a b) (t1:S1 j s.heap) (t2:S2 k s.heap)
  (S:∀ x y h' tk,P1 j x->P2 k y->IsZip h' z TI TO (rawInt s.heap.objs.size)->IsPair h' TO x y->S1 (j+1) h'->S2 (k+1) h'->IsPair h' s.heap.objs.size x y->h'.objs.size=s.heap.objs.size+1 ->
   (∀ c o,c≠z->c≠TO->c≠i1->c≠i2->s.heap.get? c=some o->h'.get? c=some o)->Q (.ref s.heap.objs.size) { s with heap:=h',toks:=tk }) :
  wpAny (model prog w) A (Builtin.«zip.__next__» ⟨[.ref z],[]⟩) (λfin s' => ∃ v,fin = .done (.ret v)/\Q v s') E s:=by
 obtain⟨e1,X,e3,e4,V,e6,e7⟩:=D.ne1;show wpAny _ _ (field (.ref z) 2 >>= _) _ _ _;refine wpAny_bind (wpAny_field (x:=.bool false) hz rfl rfl ?_);show wpAny _ _ (field (.ref z) 3 >>= _) _ _ _;refine wpAny_bind (wpAny_field (x:=.ref TI) hz rfl rfl (wpAny_bind (wpAny_seqItems Z rfl ?_)));show wpAny _ _ (Builtin.SmallTypes.ownedTupleIsFree (.ref z) >>= _) _ _ _;unfold Builtin.SmallTypes.ownedTupleIsFree;refine wpAny_bind (wpAny_bind (wpAny_field (x:=.none) hz rfl rfl (wpAny_pure ?_)));simp only[if_true];refine wpAny_bind (wpAny_rule (wpAny_bind (wpAny_field (x:=.ref TO) hz rfl rfl (wpAny_bind (wpAny_setField_rec hz (by simp) λR L i=>wpAny_bind ?_)))));have L:IsZip R z TI TO .ellipsis:=L;simp only[zipIdx_cons,List.zipIdx_nil,forIn_cons,forIn_nil];refine wpAny_bind (wpAny_bind (wpAny_onRaise ?_));show wpAny _ _ (Builtin.SmallTypes.nextOf (.ref i1) >>= _) _ _ _;refine wpAny_bind (F.item j _ _ _ hj (F.frame _ _ _ t1 λc t o e=>i.extBut _ _ (dA D.z1 t) e) λx hb tb px T l=>wpAny_pure ?_);have M:IsPair hb TO a b:=l.extBut _ _ (Ne.symm X) (i.extBut _ _ D.oz Y);refine wpAny_bind (wpAny_seqItems M rfl (wpAny_bind (wpAny_updateSeq_pair M λt I h=>wpAny_bind (wpAny_letGo (wpAny_pure ?_)))));have I:IsPair t TO x b:=I;refine wpAny_bind (wpAny_bind (wpAny_onRaise ?_));show wpAny _ _ (Builtin.SmallTypes.nextOf (.ref i2) >>= _) _ _ _;have U:S2 k t:=C.frame _ _ _ t2 λc f o e=>h.extBut _ _ (dA D.o2 f) (l.extBut _ _ (dA D.x2 f) (i.extBut _ _ (dA D.z2 f) e));refine wpAny_bind (C.item k _ _ _ hk U λy hd td py W m=>wpAny_pure ?_);have P:IsPair hd TO x b:=m.extBut _ _ (Ne.symm V) I;refine wpAny_bind (wpAny_seqItems P rfl (wpAny_bind (wpAny_updateSeq_pair P λd B n=>wpAny_bind (wpAny_letGo (wpAny_pure (wpAny_pure ?_))))));have B:IsPair d TO x y:=B;refine wpAny_bind (wpAny_seqItems B rfl (wpAny_bind (wpAny_newTuple ?_)));have sz:d.objs.size=s.heap.objs.size:=by rw[n.1,m.1,h.1,l.1,i.1]
 have all:∀ c o,c≠z->c≠TO->c≠i1->c≠i2->s.heap.get? c=some o->d.get? c=some o:=λc o r p G J e=>n.extBut _ _ p (m.extBut _ _ J (h.extBut _ _ p (l.extBut _ _ G (i.extBut _ _ r e))));have O:IsZip d z TI TO .ellipsis:=n.extBut _ _ (Ne.symm D.oz) (m.extBut _ _ (Ne.symm e4) (h.extBut _ _ (Ne.symm D.oz) (l.extBut _ _ (Ne.symm e1) L)));have YB:S1 (j+1) d:=F.frame _ _ _ T λc f o e=>n.extBut _ _ (dA D.o1 f) (m.extBut _ _ (dA D.x1 f) (h.extBut _ _ (dA D.o1 f) e));have YC:S2 (k+1) d:=C.frame _ _ _ W λc f o e=>n.extBut _ _ (dA D.o2 f) e;have N:z<d.objs.size:=Heap.lt_size O;show wpAny _ _ (Builtin.SmallTypes.ownedTupleHandOut (.ref z) (.ref d.objs.size) >>= _) _ _ _;unfold Builtin.SmallTypes.ownedTupleHandOut;have zf:IsZip (d.push { cls:=.type "tuple",data:=.seq #[x,y] }) z TI TO .ellipsis:=Heap.get?_push_of_some _ O;refine wpAny_bind (wpAny_bind (wpAny_setField_rec zf (by simp) λhg zg K=>wpAny_setField_rec (show IsZip hg z TI TO (rawInt d.objs.size) from zg) (by simp) λg u H=>wpAny_pure ⟨_,rfl,?_⟩));have u:IsZip g z TI TO (rawInt d.objs.size):=u;have up:∀ c o,c≠z->d.get? c=some o->g.get? c=some o:=λc o q e=>H.extBut _ _ q (K.extBut _ _ q (Heap.get?_push_of_some _ e));have new:IsPair g d.objs.size x y:=H.extBut _ _ (ne_of_gt N) (K.extBut _ _ (ne_of_gt N) (Heap.get?_push_size _ rfl));have size:g.objs.size=d.objs.size+1:=by rw[H.1,K.1,Heap.size_push]
 show Q (.ref d.objs.size) _;rw[sz] at u new size ⊢;exact S x y g _ px py u (up _ _ D.oz B) (F.frame _ _ _ YB λc f o e=>up c o (dA D.z1 f) e) (C.frame _ _ _ YC λc f o e=>up c o (dA D.z2 f) e) new size λc o r p G J e=>up c o r (all c o r p G J e)
theorem BW (D:ZA z TI TO i1 i2 f1 f2)(y:Draws prog w A i1 f1 n1 P1 S1)(K:Draws prog w A i2 f2 n2 P2 S2){j k:Nat}(Vn:j=n1∨(j<n1/\k=n2)){Q:Fin->Shared->Prop}
  (hz:IsZip s.heap z TI TO .none) (Y:IsPair s.heap TI (.ref i1) (.ref i2)) (T:IsPair s.heap TO a b) (t1:S1 j s.heap) (t2:S2 k s.heap)
  (Z:∀ h' e tk,(∀ c o,c≠z->c≠TO->c≠i1->c≠i2->s.heap.get? c=some o->h'.get? c=some o)->(∃ o,h'.get? e=some o/\o.cls = .type "StopIteration")->E (.ref e) { s with heap:=h',toks:=tk }) :
  wpAny (model prog w) A (Builtin.«zip.__next__» ⟨[.ref z],[]⟩) Q E s:=by
 obtain⟨L,R,e3,e4,e5,e6,e7⟩:=D.ne1;show wpAny _ _ (field (.ref z) 2 >>= _) _ _ _;refine wpAny_bind (wpAny_field (x:=.bool false) hz rfl rfl ?_);show wpAny _ _ (field (.ref z) 3 >>= _) _ _ _;refine wpAny_bind (wpAny_field (x:=.ref TI) hz rfl rfl (wpAny_bind (wpAny_seqItems Y rfl ?_)));show wpAny _ _ (Builtin.SmallTypes.ownedTupleIsFree (.ref z) >>= _) _ _ _;unfold Builtin.SmallTypes.ownedTupleIsFree;refine wpAny_bind (wpAny_bind (wpAny_field (x:=.none) hz rfl rfl (wpAny_pure ?_)));simp only[if_true];refine wpAny_bind (wpAny_rule (wpAny_bind (wpAny_field (x:=.ref TO) hz rfl rfl (wpAny_bind (wpAny_setField_rec hz (by simp) λI p l=>wpAny_bind ?_)))));have p:IsZip I z TI TO .ellipsis:=p
 have stop:∀ (h:Heap) (H:IsZip h z TI TO .ellipsis) (e:Addr) (tk:Nat) (d:Heap) (B:Addr),z≠B->Heap.ExtBut B h d->(∃ o,d.get? e=some o/\o.cls = .type "StopIteration")->(∀ c o,c≠z->c≠TO->c≠i1->c≠i2->s.heap.get? c=some o->d.get? c=some o) ->
   wpAny (model prog w) A (setField (.ref z) 0 .none) (λ_ s'=>E (.ref e) s') E { s with heap:=d,toks:=tk }:=by
  rintro h H e tk d B P V ⟨oe,F,M⟩ W;have z2:IsZip d z TI TO .ellipsis:=V _ _ P H;have YD:e≠z:=λq=>by subst q;rw[z2] at F;cases F;simp at M
  exact wpAny_setField_rec z2 (by simp) λU _ G=>Z U e tk (λc o f m g n x=>G.extBut _ _ f (W c o f m g n x)) ⟨oe,G.extBut _ _ YD F,M⟩
 simp only[zipIdx_cons,List.zipIdx_nil,forIn_cons,forIn_nil];refine wpAny_bind (wpAny_bind (wpAny_onRaise ?_));show wpAny _ _ (Builtin.SmallTypes.nextOf (.ref i1) >>= _) _ _ _;have N:=y.frame _ _ _ t1 λc r o e=>l.extBut c o (dA D.z1 r) e;rcases Vn with rfl |⟨hj,rfl⟩
 ·refine wpAny_bind (y.done _ _ _ N λd e i u=>?_);exact stop I p e s.toks d i1 (Ne.symm L) i u λc o f m g n x=>i _ _ g (l.extBut _ _ f x)
 refine wpAny_bind (y.item j _ _ _ hj N λx hb S px WJ t=>wpAny_pure ?_);have J:IsPair hb TO a b:=t.extBut _ _ (Ne.symm R) (l.extBut _ _ D.oz T);refine wpAny_bind (wpAny_seqItems J rfl (wpAny_bind (wpAny_updateSeq_pair J λr oc C=>wpAny_bind (wpAny_letGo (wpAny_pure ?_)))));refine wpAny_bind (wpAny_bind (wpAny_onRaise ?_));show wpAny _ _ (Builtin.SmallTypes.nextOf (.ref i2) >>= _) _ _ _;have O:=K.frame _ _ _ t2 λc v o e=>C.extBut c o (dA D.o2 v) (t.extBut _ _ (dA D.x2 v) (l.extBut _ _ (dA D.z2 v) e));have X:IsZip r z TI TO .ellipsis:=C.extBut _ _ (Ne.symm D.oz) (t.extBut _ _ (Ne.symm L) p);refine wpAny_bind (K.done _ _ _ O λd e i u=>?_);exact stop r X e S d i2 (Ne.symm e4) i u λc o f m g n x=>i _ _ n (C.extBut _ _ m (t.extBut _ _ g (l.extBut _ _ f x)))
end
def MG (k:Bool)(h:Heap)(a:Addr)(items:Array Value):Prop:=match k with
 |true=>h.IsTuple a items
 |false=>h.IsList a items
def Oh (k:Bool)(h:Heap)(it a:Addr)(i:Nat):Prop:=match k with
 |true=>h.IsTupleIter it a i
 |false=>h.IsListIter it a i
def Qd (k:Bool)(a:Addr):Obj:=match k with
 |true => { cls:=.type "tuple_iterator",data:=.fields #[.ref a,.int 0 0] }
 |false => { cls:=.type "list_iterator",data:=.fields #[.ref a,.int 0 0] }
section
variable {prog:Program}{w:World}{A:Around}{E:Ia}{s:Shared}
theorem MG.keep {k:Bool}{h h':Heap}{a:Addr}{items:Array Value}(x:MG k h a items)(e:∀ o,h.get? a=some o->h'.get? a=some o):MG k h' a items:=by
 cases k with
 |true=>obtain⟨o,b,r⟩:=(x:h.IsTuple a items);exact⟨o,e o b,r⟩
 |false=>obtain⟨o,b,r⟩:=(x:h.IsList a items);exact⟨o,e o b,r⟩
theorem Oh.keep {k:Bool}{h h':Heap}{it a:Addr}{i:Nat}(x:Oh k h it a i)(e:∀ o,h.get? it=some o->h'.get? it=some o):Oh k h' it a i:=by
 cases k with
 |true=>obtain⟨o,b,r⟩:=(x:h.IsTupleIter it a i);exact⟨o,e o b,r⟩
 |false=>obtain⟨o,b,r⟩:=(x:h.IsListIter it a i);exact⟨o,e o b,r⟩
theorem Oh.obj {k:Bool}{h:Heap}{it a:Addr}{i:Nat}(x:Oh k h it a i):∃ o,h.get? it=some o/\∀ v,o.data≠.cell v:=by
 cases k with
 |true=>obtain⟨o,b,_,hd⟩:=(x:h.IsTupleIter it a i);exact⟨o,b,λv z=>by rw[hd] at z;cases z⟩
 |false=>obtain⟨o,b,_,hd⟩:=(x:h.IsListIter it a i);exact⟨o,b,λv z=>by rw[hd] at z;cases z⟩
theorem MG.lt {k:Bool}{h:Heap}{a:Addr}{items:Array Value}(x:MG k h a items):a<h.objs.size:=by
 cases k with
 |true=>obtain⟨o,b,_⟩:=(x:h.IsTuple a items);exact Heap.lt_size b
 |false=>obtain⟨o,b,_⟩:=(x:h.IsList a items);exact Heap.lt_size b
theorem Draws.seq (k:Bool)(c:A.handled=none)(it a:Addr)(b:a≠it)(items:Array Value):Draws prog w A it [it,a] items.size (λi v=>items[i]?=some v) (λi h=>Oh k h it a i/\MG k h a items):=by
 cases k with
 |true=>exact Draws.tup c it a b items
 |false=>exact Draws.list c it a b items
theorem xx {k:Bool}{a:Addr}{items:Array Value}{Q:Ia}(x:MG k s.heap a items)(h:Q (.ref s.heap.objs.size) { s with heap:=s.heap.push (Qd k a) }):wpAny (model prog w) A (pyIter (.ref a)) Q E s:=by
 cases k with
 |true=>exact wpAny_pyIter_tuple (show s.heap.IsTuple a items from x) h
 |false=>exact wpAny_pyIter_list (show s.heap.IsList a items from x) h
end
abbrev SK (k1:Bool)(h:Heap)(a:Addr):Heap:=h.push (Qd k1 a)
abbrev SM (k1 k2:Bool)(h:Heap)(a b:Addr):Heap:=(SK k1 h a).push (Qd k2 b)
abbrev SN (k1 k2:Bool)(h:Heap)(a b:Addr):Heap:=(SM k1 k2 h a b).push { cls:=.type "tuple",data:=.seq #[.ref h.objs.size,.ref (SK k1 h a).objs.size] }
abbrev SQ (k1 k2:Bool)(h:Heap)(a b:Addr):Heap:=(SN k1 k2 h a b).push { cls:=.type "tuple",data:=.seq #[.none,.none] }
abbrev Oi (k1 k2:Bool)(h:Heap)(a b:Addr):Heap:=(SQ k1 k2 h a b).push { cls:=.type "zip",data:=.fields #[.none,.bool false,.bool false,.ref (SM k1 k2 h a b).objs.size,.ref (SN k1 k2 h a b).objs.size] }
theorem BV (c f:Bool)(a b:Addr)(xs ys:Array Value):Meets (Builtin.«zip.__new__» ⟨[.type "zip",.ref a,.ref b],[]⟩) (λ_ R s=>MG c s.heap a xs/\MG f s.heap b ys /\
   R (.ok (.ret (.ref (SQ c f s.heap a b).objs.size))) { s with heap:=Oi c f s.heap a b }):=
 .of_wp λprog w A R s h=>by
  obtain⟨i,g,d,tk,os⟩:=s;obtain⟨j,k,h⟩:=h;have m:=sub_zip;have ga:MG c (Shared.heap ⟨i,g,d,tk,os⟩) a xs:=j;have l:MG f (Shared.heap ⟨i.push (Qd c a),g,d,tk,os⟩) b ys:=MG.keep (show MG f i b ys from k) λo e=>Heap.get?_push_of_some _ e
  wp_walk using xx ga,xx l
  exact⟨_,rfl,h⟩
section
variable {prog:Program}{w:World}{A:Around}{E:Ia}{s:Shared}
theorem zA {d f:Bool}{a b:Addr}{xs ys:Array Value}{Q:Ia}(v:MG d s.heap a xs)(B:MG f s.heap b ys)
  (h:∀ h',IsZip h' (s.heap.objs.size+4) (s.heap.objs.size+2) (s.heap.objs.size+3) .none->IsPair h' (s.heap.objs.size+2) (.ref s.heap.objs.size) (.ref (s.heap.objs.size+1)) ->
   IsPair h' (s.heap.objs.size+3) .none .none->Oh d h' s.heap.objs.size a 0->Oh f h' (s.heap.objs.size+1) b 0->(∀ c o,s.heap.get? c=some o->h'.get? c=some o)->Q (.ref (s.heap.objs.size+4)) { s with heap:=h' }) :
  wpAny (model prog w) A (call (.type "zip") [.ref a,.ref b]) Q E s:=by
 refine callType_new F.called_zip (by decide) (F.typeCall_zip_2 _ _) (F.newCall_zip_2 _ _) (λobj=>F.args_object_init_3 obj _ _) F.entry_zip_new (BV d f a b xs ys) ⟨v,B,?_⟩;have q:(SK d s.heap a).objs.size=s.heap.objs.size+1:=Heap.size_push ..;have p:(SM d f s.heap a b).objs.size=s.heap.objs.size+2:=by rw[Heap.size_push,q]
 have u:(SN d f s.heap a b).objs.size=s.heap.objs.size+3:=by rw[Heap.size_push,p]
 have z:(SQ d f s.heap a b).objs.size=s.heap.objs.size+4:=by rw[Heap.size_push,u]
 have up1:∀ c o,(SQ d f s.heap a b).get? c=some o->(Oi d f s.heap a b).get? c=some o:=λc o e=>Heap.get?_push_of_some _ e;have m:∀ c o,(SN d f s.heap a b).get? c=some o->(Oi d f s.heap a b).get? c=some o:=λc o e=>up1 _ _ (Heap.get?_push_of_some _ e);have l:∀ c o,(SM d f s.heap a b).get? c=some o->(Oi d f s.heap a b).get? c=some o:=λc o e=>m _ _ (Heap.get?_push_of_some _ e);have n:∀ c o,(SK d s.heap a).get? c=some o->(Oi d f s.heap a b).get? c=some o:=λc o e=>l _ _ (Heap.get?_push_of_some _ e);have g:(Oi d f s.heap a b).get? (SQ d f s.heap a b).objs.size=some _:=Heap.get?_push_size _ rfl;have t:(Oi d f s.heap a b).get? (SN d f s.heap a b).objs.size=some _:=up1 _ _ (Heap.get?_push_size _ rfl);have j:(Oi d f s.heap a b).get? (SM d f s.heap a b).objs.size=some _:=m _ _ (Heap.get?_push_size _ rfl);have fr:∀ k c,(Qd k c).isFreed=false:=λk c=>by cases k<;>rfl
 have r:(Oi d f s.heap a b).get? (SK d s.heap a).objs.size=some (Qd f b):=l _ _ (Heap.get?_push_size _ (fr f b));have y:(Oi d f s.heap a b).get? s.heap.objs.size=some (Qd d a):=n _ _ (Heap.get?_push_size _ (fr d a))
 have it:∀ (k:Bool) (c i:Addr),(Oi d f s.heap a b).get? i=some (Qd k c)->Oh k (Oi d f s.heap a b) i c 0:=λk c i e=>by
  cases k with
  |true=>exact⟨_,e,rfl,rfl⟩
  |false=>exact⟨_,e,rfl,rfl⟩
 show _/\_;rw[z] at g ⊢;rw[u] at t g;rw[p] at j g;rw[q] at r j;exact⟨⟨_,g,rfl⟩,h _ g j t (it _ _ _ y) (it _ _ _ r) λc o x=>n _ _ (Heap.get?_push_of_some _ x)⟩
end
def Oj (k:Bool)(K:H_)(H:Hp)(a:Addr)(xs:List V):Prop:=match k with
 |true=>LW K H a xs
 |false=>Lw K H a xs
section
variable {X:Cx}{pins:Ib}{σ:St}{H:Hp}{s:Shared}
theorem Inv.NY {k:Bool}{a:Addr}{xs:List V}(I:Inv X pins σ H s)(h:Oj k X.K H a xs):∃ its:List Value,Vals xs its/\MG k s.heap a its.toArray:=by
 cases k with
 |true=>obtain⟨its,r,p,_⟩:=I.tuple h;exact⟨its,r,p⟩
 |false=>obtain⟨its,r,⟨o,n,b,c,_,hd⟩,_⟩:=I.list h;exact⟨its,r,o,b,c,n,hd⟩
theorem Inv.MS {k:Bool}{a:Addr}{xs ys:List V}(I:Inv X pins σ H s)(h:Oj k X.K H a xs)(h':Oj k X.K H a ys):xs=ys:=by
 cases k with
 |true=>exact I.K4 h h'
 |false=>exact I.Lz h h'
end
theorem MG.ne {k:Bool}{h:Heap}{a it c:Addr}{items:Array Value}{i:Nat}(x:MG k h a items)(y:Oh k h it c i):a≠it:=λe=>by
 subst e;cases k with
 |true =>
  obtain⟨o1,g,f,_⟩:=(x:h.IsTuple a items);obtain⟨o2,b,d,_⟩:=(y:h.IsTupleIter a c i);rw[g] at b;cases b;rw[f] at d;exact absurd d (by simp)
 |false =>
  obtain⟨o1,g,f,_⟩:=(x:h.IsList a items);obtain⟨o2,b,d,_⟩:=(y:h.IsListIter a c i);rw[g] at b;cases b;rw[f] at d;exact absurd d (by simp)
def Vo (K:H_)(g h:Bool)(a b:Addr)(e f:Nat):It:=
 ⟨λi H=>i<e/\i<f/\∃ c d,Oj g K H a c/\Oj h K H b d/\c.length=e/\d.length=f,
  λi H v j => ∃ p x y,H p=none/\v = .ref p/\j=upd H p (.tup [x,y])/\(∀ c,Oj g K H a c->c[i]?=some x)/\∀ d,Oj h K H b d->d[i]?=some y,
  λi H=>(e<=i∨f<=i)/\∃ c d,Oj g K H a c/\Oj h K H b d/\c.length=e/\d.length=f⟩
structure YE (k1 k2:Bool) (a b z TI TO i1 i2:Addr) (n1 n2 i:Nat) (h:Heap):Prop where
 zip:IsZip h z TI TO .none
 its:IsPair h TI (.ref i1) (.ref i2)
 out:∃ u v,IsPair h TO u v
 fst:Oh k1 h i1 a i
 snd:Oh k2 h i2 b i
 WN:i<=n1
 WO:i<=n2
theorem zQ {P:Program}{w:World}{K:H_}{es:List Expr}{kk:Nat}{pt:Pos}(k1 C:Bool)(a b z TI TO g l:Addr)(Z n2:Nat)(D:ZA z TI TO g l [g,a] [l,b]) :
  Turn P w K (.Tuple es kk pt) (Vo K k1 C a b Z n2) [z,TI,TO,g,l] z (YE k1 C a b z TI TO g l Z n2) where
 mem:=by simp
 obj:=λi h st c f=>by
  simp only[mem_cons,not_mem_nil,or_false] at f;rcases f with rfl |rfl |rfl |rfl |rfl
  ·exact⟨_,st.zip,λv q=>by cases q⟩
  ·exact⟨_,st.its,λv q=>by cases q⟩
  ·obtain⟨u,v,e⟩:=st.out;exact⟨_,e,λv q=>by cases q⟩
  ·exact st.fst.obj
  exact st.snd.obj
 keep:=λi h h' st kp=>by
  obtain⟨u,v,e⟩:=st.out;exact⟨kp _ (by simp) _ st.zip,kp _ (by simp) _ st.its,⟨u,v,kp _ (by simp) _ e⟩,st.fst.keep λo e=>kp _ (by simp) o e,st.snd.keep λo e=>kp _ (by simp) o e,st.WN,st.WO⟩
 item:=by
  intro X hP hw hK f i G s σ H E I p st hg;subst hP hw hK;obtain⟨l1,l2,L,ys,Y,hy,lx,ly⟩:=hg;obtain⟨M,W,U⟩:=I.NY Y;obtain⟨N,rv,pv⟩:=I.NY hy;obtain⟨u0,v0,eo⟩:=st.out;have su:M.toArray.size=Z:=by rw[size_toArray,← W.length,lx]
  have sv:N.toArray.size=n2:=by rw[size_toArray,← rv.length,ly]
  have ne1:a≠g:=U.ne st.fst;have J:b≠l:=pv.ne st.snd;have R:s.TypeIs (.ref z) "zip":=⟨_,st.zip,rfl⟩;unfold pyNext;refine wpAny_bind (wpAny_attempt (wpAny_callSpecial?_slot (name:=Str.ofString "__next__") R F.slot_zip_next (wpAny_call_entry F.slot_zip_next R F.entry_zip_next ?_ (F.args_zip_next_1 _))))
  refine zJ D (Draws.seq (A:=X.A.in1) k1 (I.ok.hd f) g a ne1 M.toArray) (Draws.seq (A:=X.A.in1) C (I.ok.hd f) l b J N.toArray) (j:=i) (k:=i) (by omega) (by omega) st.zip st.its eo ⟨st.fst,U⟩ ⟨st.snd,pv⟩
   λu v h' tk hu hv z' o' f' g' new size kp=>wpAny_pure ⟨_,rfl,wpAny_letOwnedTupleGo_zip (s:={ s with heap:=h',toks:=tk }) z' λO z2 C=>?_⟩
  have hu:M[i]?=some u:=by simpa using hu
  have hv:N[i]?=some v:=by simpa using hv
  obtain⟨x,ex⟩:∃ x,L[i]?=some x:=⟨_,List.getElem?_eq_getElem (by omega)⟩;obtain⟨y,ey⟩:∃ y,ys[i]?=some y:=⟨_,List.getElem?_eq_getElem (by omega)⟩;obtain⟨u',e1,rx⟩:=W.get ex;rw[hu] at e1;cases e1;obtain⟨v',e2,ry⟩:=rv.get ey;rw[hv] at e2;cases e2;have hn:H s.heap.objs.size=none:=I.fresh;have kq:∀ c o,c≠z->c≠TO->c≠g->c≠l->s.heap.get? c=some o->O.get? c=some o:=λc o q1 q2 q3 q4 e=>(C.2 c q1).trans (kp c o q1 q2 q3 q4 e);have nz:s.heap.objs.size≠z:=ne_of_gt (Heap.lt_size st.zip);have NV:IsPair O s.heap.objs.size u v:=(C.2 _ nz).trans new;have S:∀ c o,H c=some o->c≠s.heap.objs.size:=λc o q=>aO q hn
  have V:∀ c∈[z,TO,g,l],c∈[z,TI,TO,g,l]:=λc f=>by
   simp only[mem_cons,not_mem_nil,or_false] at f ⊢;rcases f with h |h |h |h
   ·exact .inl h
   ·exact .inr (.inr (.inl h))
   ·exact .inr (.inr (.inr (.inl h)))
   exact .inr (.inr (.inr (.inr h)))
  have nm:∀ {c:Addr},c∉[z,TO,g,l]->c≠z/\c≠TO/\c≠g/\c≠l:=λ{c} h=>by simpa using h
  have B:∀ c o,c∉[z,TO,g,l]->s.heap.get? c=some o->O.get? c=some o:=λc o h e=>kq c o (nm h).1 (nm h).2.1 (nm h).2.2.1 (nm h).2.2.2 e;have out:∀ c o,H c=some o->c∉[z,TO,g,l]:=λc o q f=>by have:=(p c (V c f)).1;rw[this] at q;cases q
  have I1:Inv X G σ (upd H s.heap.objs.size (.tup [x,y])) { s with heap:=O,toks:=tk }:=by
   refine I.step (h':=O) (g':=s.gens) (d':=s.drawn) (t':=tk) (ch:=[z,TO,g,l]) (λc f=>?_) (λc o _ _ f e _=>B c o f e) (λc o _ _ f e _=>⟨o.slots,B c o f e⟩)
    (λc o _ e n'=>by rw[aF (ne_of_lt (Heap.lt_size e))];exact n') (λc o f e=>⟨o,B c o f e⟩)
    (λc L q=>by rw[aF (S c _ q)];exact q) (λc o L q=>by rw[aF (S c _ q)];exact q) (λc ps q=>⟨#[],by rw[aF (S c _ q),q];simp⟩)
    (λm hm=>?_) (λc o q=>?_) I.bare
   ·obtain⟨_,g1,_,g3,g4,g5⟩:=p c (V c f);exact⟨g3,g1,g4,g5⟩
   ·obtain⟨o,es,ep,t,r⟩:=hm;exact⟨o,es,ep,kq _ o (Ne.symm (p z (by simp)).2.1) (Ne.symm (p TO (by simp)).2.1) (Ne.symm (p g (by simp)).2.1) (Ne.symm (p l (by simp)).2.1) t,r⟩
   by_cases hb:c=s.heap.objs.size
   ·subst hb;rw[Iv] at q;cases q;exact⟨by show 2<=sizeLine;decide,[u,v],.cons rx (.cons ry .nil),_,NV⟩
   rw[aF hb] at q;refine(I.IL c o q).Lx (λd v' ME e=>B d v' ?_ e) (λd e=>by rw[aF (S d _ e)];exact e) λd L e=>by rw[aF (S d _ e)];exact e
   rcases ME with rfl |ME
   ·exact out _ _ q
   exact out _ _ ME
  refine⟨.ref s.heap.objs.size,_,I1,rfl,⟨_,x,y,hn,rfl,rfl,λQc h'=>by rw[I.MS h' Y];exact ex,λQZ h'=>by rw[I.MS h' hy];exact ey⟩,?_,λc f=>?_⟩
  ·have kz:∀ c o,c≠z->h'.get? c=some o->O.get? c=some o:=λc o q e=>(C.2 c q).trans e;obtain⟨YF,n2',n3',YG,n5',YH,YI⟩:=D.ne1;exact⟨z2,kq _ _ D.tz D.to YH YI st.its,⟨u,v,kz _ _ D.oz o'⟩,f'.1.keep λo e=>kz _ o YF e,g'.1.keep λo e=>kz _ o YG e,by omega,by omega⟩
  have JU:c<s.heap.objs.size:=by
   have q:∃ o,s.heap.get? c=some o:=by
    simp only[mem_cons,not_mem_nil,or_false] at f;rcases f with rfl |rfl |rfl |rfl |rfl
    ·exact⟨_,st.zip⟩
    ·exact⟨_,st.its⟩
    ·exact⟨_,eo⟩
    ·obtain⟨o,t,_⟩:=st.fst.obj;exact⟨o,t⟩
    obtain⟨o,t,_⟩:=st.snd.obj;exact⟨o,t⟩
   obtain⟨o,t⟩:=q;exact Heap.lt_size t
  rw[aF (ne_of_lt JU)];exact(p c f).1
 done:=by
  intro X hP hw hK f i G s σ H E I p st hg;subst hP hw hK;obtain⟨le,L,ys,Y,hy,lx,ly⟩:=hg;obtain⟨M,W,U⟩:=I.NY Y;obtain⟨N,rv,pv⟩:=I.NY hy;obtain⟨u0,v0,eo⟩:=st.out;have su:M.toArray.size=Z:=by rw[size_toArray,← W.length,lx]
  have sv:N.toArray.size=n2:=by rw[size_toArray,← rv.length,ly]
  have ne1:a≠g:=U.ne st.fst;have J:b≠l:=pv.ne st.snd;have R:s.TypeIs (.ref z) "zip":=⟨_,st.zip,rfl⟩;have e1:=st.WN;have e2:=st.WO;unfold pyNext;refine wpAny_bind (wpAny_attempt (wpAny_callSpecial?_slot (name:=Str.ofString "__next__") R F.slot_zip_next (wpAny_call_entry F.slot_zip_next R F.entry_zip_next ?_ (F.args_zip_next_1 _))));refine BW D (Draws.seq (A:=X.A.in1) k1 (I.ok.hd f) g a ne1 M.toArray) (Draws.seq (A:=X.A.in1) C (I.ok.hd f) l b J N.toArray) (j:=i) (k:=i) (by omega) st.zip st.its eo ⟨st.fst,U⟩ ⟨st.snd,pv⟩ λh' e tk kp he=>?_;obtain⟨o,t,Ru⟩:=he;refine wpAny_bind (wpAny_isInstance (T:="StopIteration") (b:=true) ⟨o,t,Ru⟩ isSubtype_stop ?_);refine wpAny_pure ⟨rfl,?_⟩
  have V:∀ c∈[z,TO,g,l],c∈[z,TI,TO,g,l]:=λc f=>by
   simp only[mem_cons,not_mem_nil,or_false] at f ⊢;rcases f with h |h |h |h
   ·exact .inl h
   ·exact .inr (.inr (.inl h))
   ·exact .inr (.inr (.inr (.inl h)))
   exact .inr (.inr (.inr (.inr h)))
  have B:∀ c o,c∉[z,TO,g,l]->s.heap.get? c=some o->h'.get? c=some o:=λc o h e=>by
   have h:c≠z/\c≠TO/\c≠g/\c≠l:=by simpa using h
   exact kp c o h.1 h.2.1 h.2.2.1 h.2.2.2 e
  have out:∀ c o,H c=some o->c∉[z,TO,g,l]:=λc o q f=>by have:=(p c (V c f)).1;rw[this] at q;cases q
  refine I.step (h':=h') (g':=s.gens) (d':=s.drawn) (t':=tk) (ch:=[z,TO,g,l]) (λc f=>?_) (λc o _ _ f e _=>B c o f e) (λc o _ _ f e _=>⟨o.slots,B c o f e⟩)
   (λ_ _ _ _ n=>n) (λc o f e=>⟨o,B c o f e⟩) (λ_ _ e=>e) (λ_ _ _ e=>e) (λc ps e=>⟨#[],by rw[e];simp⟩) (λm hm=>?_) (λc o q=>?_) I.bare
  ·obtain⟨_,g1,_,g3,g4,g5⟩:=p c (V c f);exact⟨g3,g1,g4,g5⟩
  ·obtain⟨o,es,ep,t,r⟩:=hm;exact⟨o,es,ep,kp _ o (Ne.symm (p z (by simp)).2.1) (Ne.symm (p TO (by simp)).2.1) (Ne.symm (p g (by simp)).2.1) (Ne.symm (p l (by simp)).2.1) t,r⟩
  refine(I.IL c o q).Lx (λd v' ME e=>B d v' ?_ e) (λd e=>e) λd L e=>e;rcases ME with rfl |ME
  ·exact out _ _ q
  exact out _ _ ME
 self:=by
  intro A i s Q E st h;exact wpAny_pyIter_zip st.zip h
def ri:List D->List D->List D
 |d::ds,e::es => .tup [d,e]::ri ds es
 |_,_=>[]
theorem fY:∀ ds es:List D,(ri ds es).length=min ds.length es.length
 |[],es=>by simp[ri]
 |d::ds,[]=>by simp[ri]
 |d::ds,e::es=>by simp only[ri,length_cons,fY ds es];omega
theorem tM:∀ (ds es:List D) (i:Nat) {d e:D},ds[i]?=some d->es[i]?=some e->(ri ds es)[i]?=some (.tup [d,e])
 |[],_,_,_,_,h,_=>by simp at h
 |_::_,[],_,_,_,_,h=>by simp at h
 |a::ds,b::es,0,d,e,h,g=>by
  have h:a=d:=by simpa using h
  have g:b=e:=by simpa using g
  subst h g;rfl
 |a::ds,b::es,i+1,d,e,h,g=>by
  rw[ri,getElem?_cons_succ];exact tM ds es i (by simpa using h) (by simpa using g)
def zK:List D->Option (List D)
 |[x,y]=>(rM x).bind λb=>(rM y).map λa=>ri b a
 |_=>none
section
variable {X:Cx}{W:WT}
theorem z9 {H:Hp}{J:List Addr}{d:D}{v:V}{xs:List D}(m:At X.K H J d v)(h:rM d=some xs):∃ (k:Bool) (a:Addr) (vs:List V),v = .ref a/\Il X.K H J xs vs/\vs.length<=sizeLine/\∀ c H',Ex J H c H'->Oj k X.K H' a vs:=by
 cases d with
 |tup e=>cases h;obtain⟨a,vs,rfl,b,m⟩:=At.IC.mp m;exact⟨true,a,vs,rfl,m,b.len,λc H' x=>(b.ex x).sq⟩
 |lst e=>cases h;obtain⟨a,vs,rfl,b,m⟩:=At.ID.mp m;exact⟨false,a,vs,rfl,m,b.len,λc H' x=>(b.ex x).sq⟩
 |_=>cases h
theorem Walk.zip {j k:Bool}{a b:Addr}{ds es:List D}{xs ys:List V}{J:List Addr}{H:Hp}(m1:Il X.K H J ds xs)(m2:Il X.K H J es ys)(B:xs.length<=sizeLine)(g:∀ f H',Ex J H f H'->Oj j X.K H' a xs)(h:∀ f H',Ex J H f H'->Oj k X.K H' b ys) :
  Walk X (Vo X.K j k a b xs.length ys.length) (ri ds es) J H where
 len:=by rw[fY,m1.length];omega
 go:=λm n i x c=>by
  rw[fY,m1.length,m2.length] at c;exact⟨by omega,by omega,xs,ys,g _ _ x,h _ _ x,rfl,rfl⟩
 Nw:=λm n i v H' x s c y=>by
  obtain⟨p,u,w,l,rfl,rfl,t,A⟩:=y;obtain⟨d,r,z⟩:=(m1.ex x).get' (t xs (g _ _ x));obtain⟨e,q,o⟩:=(m2.ex x).get' (A ys (h _ _ x));exact⟨.tup [d,e],tM ds es i r q,At.Kd (.cons z (.cons o .nil)) l s (by show 2<=sizeLine;decide),aQ l _⟩
 stop:=λm n i x c=>by
  rw[fY,m1.length,m2.length] at c;exact⟨by omega,xs,ys,g _ _ x,h _ _ x,rfl,rfl⟩
theorem Pb {x a b:Nat}(d:x≠a)(c:x≠b):(x:Addr)∉([a,b]:List Addr):=λh=>by
 rcases mem_cons.mp h with e |h
 ·exact d e
 exact c (mem_singleton.mp h)
theorem Fp (N A B:Nat)(b:A<N)(a:B<N):ZA (N+4) (N+2) (N+3) N (N+1) [N,A] [N+1,B]:=
 ⟨mem_cons_self ..,mem_cons_self ..,Pb (by omega) (by omega),Pb (by omega) (by omega),Pb (by omega) (by omega),Pb (by omega) (by omega),Pb (by omega) (by omega),Pb (by omega) (by omega),
  (by omega:(N+3:Nat)≠N+4),(by omega:(N+2:Nat)≠N+4),(by omega:(N+2:Nat)≠N+3),Pb (by omega) (by omega),Pb (by omega) (by omega)⟩
theorem GU {N b:Nat}(h:(b:Addr)∈([N+4,N+2,N+3,N,N+1]:List Addr)):N<=b:=by simp only[mem_cons,not_mem_nil,or_false] at h;have h:b=N+4∨b=N+2∨b=N+3∨b=N∨b=N+1:=h;omega
theorem boot_zip:bootBuiltins "zip"=some (.type "zip"):=by decide
theorem z5 {es:List Expr}{k:Nat}{pt p pos:Pos}{a b:Expr}{t:H9 (List D)}{x:Str}(O:x="zip")(U:X.mg x=none)(L:SA X W [a,b] t)(hg:Gl X x:=by rfl)
  (he:starEach (a::[b]) X.env=(false,eval a X.env)::starEach [b] X.env:=by rfl) (T:(backTo pos (starEach [b] X.env)).any (·.1)=false:=by rfl):SI X W (.Tuple es k pt) (.Call (.Name x p) [a,b] [] pos) (jg zK t):=by
 subst O;intro c s E H R I h;refine wpAny_Call_Name_kw (j9 I hg U boot_zip ?_ (by decide) (by decide));refine callWith_type1 (IE (L pos c s E H _ I (kU h)) λus i Zq=>?_) he T;obtain⟨vs,j,d,r1,J,S,Ly,ds,so,m,e,z⟩:=Zq;unfold zK at e;split at e
 ·rename_i dx dy;obtain⟨xs,h1,h2⟩:=bind_eq_some_iff.mp e;obtain⟨ys,Q,Y⟩:=map_eq_some_iff.mp h2;subst Y;obtain⟨v1,r,rfl,Z,n⟩:=Il.Ik.mp m;obtain⟨v2,r',rfl,a2,n⟩:=Il.Ik.mp n;cases Il.Io.mp n;obtain⟨B,f,w,rfl,m1,YJ,u⟩:=z9 Z h1;obtain⟨o,g,v,rfl,m2,lw2,q⟩:=z9 a2 Q;obtain⟨u1,u2,rfl,V,YL⟩:=vals2 r1;cases V;cases YL;obtain⟨YM,rv1,C⟩:=d.NY (u _ _ Ex.refl);obtain⟨Oy,rv2,y⟩:=d.NY (q _ _ Ex.refl);have l1:=C.lt;have l2:=y.lt;refine zA C y λP A g2 g3 g4 G kp=>?_;have M:Inv X c E j { i with heap:=P }:=d.kept (t':=i.toks) kp;refine wpAny_pyIter_zip A ?_;generalize F:i.heap.objs.size=N at *
  refine⟨N+4,[N+4,N+2,N+3,N,N+1],_,Vo X.K B o f g w.length v.length,j,rfl,M,zQ B o f g (N+4) (N+2) (N+3) N (N+1) w.length v.length ?_,⟨A,g2,⟨_,_,g3⟩,g4,G,zero_le _,zero_le _⟩,λb hb=>?_,z j _ (Iz.refl _) (Walk.zip m1 m2 YJ u q)⟩
  ·exact Fp N f g l1 l2
  have l:N<=b:=GU hb;exact d.LA (by rw[F];exact l) (d.IL.fresh (by rw[F];exact l))
 cases e
end
section
variable {P:Program}{w:World}{K:H_}{mg:Ic}{base:Heap}{x:Str}{st:Stmt}{ps:List Str}{k:Nat}{F:Ie}
def zH (P:Program)(w:World)(K:H_)(mg:Ic)(base:Heap)(k:Nat)(x:Str)(st:Stmt)(ps:List Str)(F:Ie):Prop:=
 ∀ f fd,ML K x x st f fd->Of P w K mg base k f fd ps F/\Binds K fd ps []
theorem sV {sc:Scope}{N:List Str}{G:H9 Fl}(b:BD x x st ps)(d:aq st=sc)(Sc:Ii N ps sc)
  (h:∀ (f:Addr) (a:Value) (A:Around) (outer:List Env) (s:Shared) (H:Hp) (E:XK),IS k (A.deeper (envOfC x sc s.heap.objs.size f a))->Nc (l7 M_ P w K mg base N x sc f a A outer s H E).Ou W0 (bL st) G) :
  zH P w K mg base (k+1) x st ps (aZ ps.length (N.length-ps.length) G):=λ_ _ c=>⟨ki c d Sc h,c.binds b⟩
end
section
variable {X:Cx}{W:WT}{x y:Str}{st:Stmt}{ps:List Str}{p pos:Pos}{e:Expr}{es:List Expr}{gs:H9 (List D)}{ff:H9 D}
theorem Ab (h:bj X.K X.mg x st ps)(a:Gl X x:=by rfl)(hd:(x==("__debug__":Str))=false:=by decide):SE X W (.Name x pos) (aB (.fn x st)):=by obtain⟨f,fd,c,b,_⟩:=h;exact Cc b ⟨.ref f,rfl,λH J=>At.Oz.mpr ⟨f,fd,rfl,c⟩⟩ a hd
def DV (ok:Addr->Sp->Prop)(E:XK)(d:TE)(t:TA):TE:=λb H Q=>d b H λv g => ∃ f a,v = .ref f/\ok f a/\t b g λc e=>a (c++[]) e Q E
theorem AB {CX:_}{E:XK}{ok:Addr->Sp->Prop}{c:TE}{t:TA}(IL:∀ f sp,ok f sp->∃ k fd ps,J9 X.prog X.w X.K X.mg X.base CX k f fd ps sp/\IS k X.A/\PySem.W.keepIn X.K (.ref f)=true/\Binds X.K fd ps [])(m:Passes CX X E)
  (z:PE X (.Name x p) c) (l:PA X (e::es) t) (o:starEach (e::es) X.env=(false,eval e X.env)::starEach es X.env:=by rfl) (y:(backTo pos (starEach es X.env)).any (·.1)=false:=by rfl) :
  PE X (.Call (.Name x p) (e::es) [] pos) (DV ok E c t):=by
 intro a s d H Q I h;refine wpAny_Call_Name_kw (IE (z a s d H _ I h) λu D Zq=>?_);obtain⟨v,C,g,i,f,sp,ev,n,q⟩:=Zq;subst ev;obtain rfl:u=Value.ref f:=i;obtain⟨k,fd,ps,F,j,kp,G⟩:=IL f sp n;refine PySem.W.callWith_K (h₀:=X.base) I.ok.mod.Ri kp (IE (l pos a D d C _ g q) λL N ⟨M,J,b,r,B⟩=>⟨b.L9,?_⟩) o y;exact wf F j G .nil m b r B
abbrev FT:=List (Str×Stmt×(Ie))
noncomputable def iF:FT->D->Option (Ie)
 |[],_=>none
 |(x,st,F)::r,d => @ite _ (d = .fn x st) (Classical.propDecidable _) (some F) (iF r d)
noncomputable def tf (a:FT) (ff:H9 D) (gs:H9 (List D)):H9 D:=λb S=>ah (ff b S) λd c=>match iF a d with
 |some F=>ah (gs b c) λf e=>gU (F f e)
 |none=>none
theorem ur:∀ {a:FT}{d:D}{F:Ie},iF a d=some F->∃ x st,(x,st,F)∈a/\d = .fn x st
 |[],_,_,h=>by cases h
 |(x,st,G)::r,d,F,h=>by
  unfold iF at h;split at h
  ·rename_i e;cases h;exact⟨x,st,mem_cons_self ..,e⟩
  obtain⟨y,b,m,e⟩:=ur h;exact⟨y,b,mem_cons_of_mem _ m,e⟩
def yi (X:Cx)(a:FT):Prop:=∀ z∈a,∃ k ps,zH X.prog X.w X.K X.mg X.base k z.1 z.2.1 ps z.2.2/\IS k X.A
theorem B3:yi X []:=λ_ h=>by cases h
theorem nZ {k:Nat}{F:Ie}{a:FT}(c:zH X.prog X.w X.K X.mg X.base k y st ps F)(b:IS k X.A)(t:yi X a):yi X ((y,st,F)::a):=by
 intro z hz;rcases mem_cons.mp hz with rfl |hz
 ·exact⟨k,ps,c,b⟩
 exact t z hz
theorem Ad {b:FT}(Y:yi X b)(N:SE X W (.Name x p) ff)(u:SA X W (e::es) gs)
  (L:starEach (e::es) X.env=(false,eval e X.env)::starEach es X.env:=by rfl) (M:(backTo pos (starEach es X.env)).any (·.1)=false:=by rfl) :
  SE X W (.Call (.Name x p) (e::es) [] pos) (tf b ff gs):=by
 refine PE.imp (AB (E:=E0) (ok:=λf o => ∃ k fd ps F,o=Rr X.K F/\Of X.prog X.w X.K X.mg X.base k f fd ps F/\IS k X.A/\PySem.W.keepIn X.K (.ref f)=true/\Binds X.K fd ps [])
  (λf o h=>by obtain⟨k,fd,ps,F,rfl,h⟩:=h;exact⟨k,fd,ps,h⟩) xE N u L M) λσ H Q h=>(tG.Iw h).mono λv H1 ⟨d,c⟩=>?_
 cases hp:iF b d with
 |none =>
  obtain⟨J,n,S,r,i,j,g,a,z⟩:=c;simp only[hp] at a;cases a
 |some F =>
  simp only[hp] at c;obtain⟨y,st,O,rfl⟩:=ur hp;obtain⟨k,ps,G,t⟩:=Y _ O;have C:∃ f fd,v = .ref f/\ML X.K y y st f fd:=by obtain⟨J,n,S,r,i,j,g,a,z⟩:=c;exact At.Oz.mp g.Iq.1
  obtain⟨f,fd,rfl,l⟩:=C;obtain⟨fn,V⟩:=G f fd l;refine⟨f,Rr X.K F,rfl,⟨k,fd,ps,F,rfl,fn,t,l.kp,V⟩,(tG.Kt c).mono λus Z Zq=>?_⟩;obtain⟨m,D,I⟩:=Zq;obtain⟨J,n,S,r,i,j,g,a,z⟩:=I;obtain⟨m1,_⟩:=Il.split D g;have a:gU (F m S)=some (r,i):=a;unfold gU at a;split at a
  ·rename_i R S2 q;cases a;exact⟨J,S,m,R,_,by rw[append_nil];exact m1,j.IW,q,λs B v U P T=>z s B v U P T⟩
  cases a
end
section
variable {X:Cx}{W:WT}{a b:Expr}{fa fb:H9 D}{pos:Pos}
def FF (K:H_):R2:=λx y H Q => ∃ J c b d q a,At K H J c x/\y = .ref q/\H q=some (.lst a)/\Il K H J b a/\K3 c (.lst b)=some d/\∀ v,At K H J d v->Q v H
theorem Ez (P:X.A.units+150<cLine):LC X (compareOp .NotEq) (FF X.K):=by
 intro b s R H x y v u Q I t g h;obtain⟨J,N,M,d,q,L,r,rfl,l,m,e,z⟩:=h;unfold K3 at e;split at e
 ·rename_i p O w a;split at e
  ·rename_i le;cases e;obtain⟨B,G,j⟩:=r.reads I t w;rw[toPy] at a;obtain⟨i,F,D⟩:=map_eq_some_iff.mp a;subst D;cases g;obtain⟨its,f,⟨o,n,k,C,_,hd⟩,_⟩:=I.list (.inl (.inl l));obtain⟨c,bs,E⟩:=Il.readsAll I m f F;exact SeqAt.compareNe_reads j (.list k C hd (by simpa using E)) B (by rw[PyData.canLay0];exact c) (by omega) ⟨.bl (!PyData.eqv p (.list i)),H,I,rfl,z _ (At.IK.mpr rfl)⟩
  cases e
 cases e
def wz (x y:D)(S:Ig):Option D:=(eN y S).bind λa=>K3 x (.lst a)
def Dm (fa fb:H9 D):H9 D:=λb S=>ah (fa b S) λx c=>ah (fb b c) λy a=>aP (wz x y a) a
theorem AK {f:St}{H:Hp}{Q:VK}(h:tE X W (Dm fa fb) f H Q):Rj (FF X.K) (tE X W fa) (tE X W fb) f H Q:=
 (tG.Iw h).mono λv B ⟨d,w⟩=>(tG.Iw w).mono λy i Zq=>by
  obtain⟨g,p⟩:=Zq
  obtain⟨J,A,S,r,n,c,m,e,z⟩:=p;obtain⟨t,m⟩:=m.Iq;obtain⟨u,_⟩:=m.Iq;have a:aP (wz d g S) S=some (r,n):=e;clear e;cases q:eN g S with
  |none=>rw[wz,q] at a;cases a
  |some b =>
   rw[wz,q,bind_some] at a;obtain⟨l,j,k,rfl,rfl,C,es,s,o⟩:=rZ c.IW t q;cases q2:K3 d (.lst b) with
   |none=>rw[q2] at a;cases a
   |some x =>
    rw[q2] at a;cases a;exact⟨J,d,b,x,j,k,u,rfl,s,o,q2,λv m=>z J i v Ex.refl c.IW m⟩
theorem DR (d:X.A.units+150<cLine)(e:SE X W a fa)(f:SE X W b fb)(c:behindInMarks .NotEq b=false:=by first |exact wy _ (by decide) (by decide) |with_unfolding_all rfl):Lc X W (.Compare a [.NotEq] [b] pos) (aT (Dm fa fb)):=
 (xz (Ez d) e f c).imp λg H Q h=>JY.mono (λ_ _ _=>AK) (fz h)
end
end L2
namespace L2
open PySem PyProof.Rows
abbrev Da:Bool->Keyed->Array Keyed->Nat->Nat->Nat->StateT SortSt Sem (Option Nat):=sortPriv% PySem.Builtin.gallop
abbrev AT:Array Keyed->Array Keyed->StateT SortSt Sem (Array Keyed):=sortPriv% PySem.Builtin.mergeLo
abbrev mergeAt':Nat->StateT SortSt Sem Bool:=sortPriv% PySem.Builtin.mergeAt
def vK (prog:Program)(w:World)(A:Around)(E:Ia)(s:Shared)(kd:SortKind)(O:KeyOrd)(kf:Value->O.α)(G:Keyed->Prop):Prop:=
 ∀ x y:Keyed,G x->G y->∀ (st:SortSt) (Q:Option Bool->SortSt->Prop),kindOf st=kd->Q (some (O.blt (kf x.1) (kf y.1))) st->wpS (model prog w) A E s (lt' x y) Q st
section
variable {prog:Program}{w:World}{A:Around}{E:Ia}{s:Shared}{kd:SortKind}{O:KeyOrd}{kf:Value->O.α}{G:Keyed->Prop}
theorem cO {arr:Array Keyed}{i:Nat}(h:i<arr.size){Q:Keyed->SortSt->Prop}{st:SortSt}(q:Q arr[i] st):wpS (model prog w) A E s (elem' arr i) Q st:=by rw[elem'_eq,getElem?_pos arr i h];exact wpS_pure q
def Qe (O:KeyOrd)(kf:Value->O.α)(left:Bool)(key x:Keyed):Bool:=if left then O.blt (kf x.1) (kf key.1) else !O.blt (kf key.1) (kf x.1)
theorem ik {e:Type}{b:Nat}{f:Nat->e->StateT SortSt Sem (ForInStep e)}{Q : e->SortSt->Prop}{c : e}{st:SortSt}(k : 0<b)(h:wpS (model prog w) A E s (f 0 c) (λr d=>match r with | .done a=>Q a d | .yield _=>False) st):wpS (model prog w) A E s (forIn [0:b] c f) Q st:=by
 refine wpS_forRange (I:=λx a d=>x=0/\a=c/\d=st) (λi a d _ _ z=>?_) (λa d z=>?_) ⟨rfl,rfl,rfl⟩
 ·obtain⟨rfl,rfl,rfl⟩:=z
  exact wpS_mono h λr j q=>by
   cases r with
   |done g=>exact q
   |yield g=>exact q.elim
 have:=z.1;omega
theorem xj (L:vK prog w A E s kd O kf G){left:Bool}{key:Keyed}{arr:Array Keyed}{base n a k:Nat}{st:SortSt}{Q:Option Nat->SortSt->Prop}(m:kindOf st=kd)(l:G key)(ga:∀ x∈arr.toList,G x)
  (u:base+n<=arr.size) (t : 2<=n) (B:Nat->Bool) (p:∀ i (h:base+i<arr.size),i<n->B i=Qe O kf left key arr[base+i])
  (c:(a=0/\k=1/\B 0=true/\B 1=false)∨(a=n-1/\k=n-1/\B (n-1)=false/\B (n-2)=true))
  (h:Q (some k) st):wpS (model prog w) A E s (Da left key arr base n a) Q st:=by
 have b:∀ i,i<n->∀ {d:Option Bool->SortSt->Prop},d (some (B i)) st->wpS (model prog w) A E s (do let x ← elem' arr (base+i);if left=true then lt' x key else return (← lt' key x).map (!·)) d st:=by
  intro i r d q;have g:base+i<arr.size:=by omega
  refine wpS_bind (cO g ?_);have o:G arr[base+i]:=ga _ (getElem_mem_toList g);have e:=p i g r;unfold Qe at e;cases left with
  |true =>
   rw[if_pos rfl];rw[if_pos rfl] at e;exact L _ _ o l st _ m (by rw[← e];exact q)
  |false =>
   rw[if_neg (by decide)];rw[if_neg (by decide)] at e;refine wpS_bind (L _ _ l o st _ m (wpS_pure ?_));show d (some (!O.blt (kf key.1) (kf arr[base+i].1))) st;rw[← e];exact q
 rcases c with ⟨rfl,rfl,j,f⟩ |⟨rfl,rfl,j,f⟩
 ·refine wpS_bind (b 0 (by omega) ?_);rw[j];dsimp only;rw[if_pos rfl];refine wpS_bind (ik (by omega) ?_);dsimp only;rw[if_neg (by omega)];refine wpS_bind (b (0+1) (by omega) ?_);rw[show 0+1=1 from rfl,f];refine wpS_pure ?_;dsimp only;refine wpS_bind (ik (by omega) ?_);dsimp only;rw[if_pos (by omega)];refine wpS_pure (wpS_pure ?_);rw[show 0+min 1 (n-0)=1 by omega];exact h
 refine wpS_bind (b (n-1) (by omega) ?_);rw[j];dsimp only;rw[if_neg (by decide)];refine wpS_bind (ik (by omega) ?_);dsimp only;rw[if_neg (by omega)];refine wpS_bind (b (n-1-1) (by omega) ?_);rw[show n-1-1=n-2 from by omega,f];refine wpS_pure ?_;dsimp only;refine wpS_bind (ik (by omega) ?_);dsimp only;rw[if_pos (by omega)];exact wpS_pure (wpS_pure h)
end
section
variable {O:KeyOrd}{kf:Value->O.α}
def Kr (O:KeyOrd)(kf:Value->O.α)(x y:Keyed):Prop:=O.kle (kf x.1) (kf y.1)
theorem jy {x y z:Keyed}(h:Kr O kf x y)(g:Kr O kf y z):Kr O kf x z:=KeyOrd.kle_trans h g
structure Mg (O:KeyOrd) (kf:Value->O.α) (T out A B:List Keyed):Prop where
 perm:(out++(A++B)).Perm T
 so:out.Pairwise (Kr O kf)
 sa:A.Pairwise (Kr O kf)
 sb:B.Pairwise (Kr O kf)
 low:∀ x∈out,∀ y∈A++B,Kr O kf x y
def Res (O:KeyOrd)(kf:Value->O.α)(T r:List Keyed):Prop:=r.Perm T/\r.Pairwise (Kr O kf)
theorem Mg.SX {T out p A B:List Keyed}(h:Mg O kf T out (p++A) B)(l:∀ x∈p,∀ y∈B,Kr O kf x y):Mg O kf T (out++p) A B:=by
 have sa:=pairwise_append.mp h.sa;refine⟨by have:=h.perm;simpa [List.append_assoc] using this,pairwise_append.mpr ⟨h.so,sa.1,λx hx y hy=>h.low x hx y (by simp[hy])⟩,sa.2.1,h.sb,λx hx y hy=>?_⟩;rcases mem_append.mp hx with hx |hx
 ·exact h.low x hx y (by
   rcases mem_append.mp hy with hy |hy
   ·simp[hy]
   simp[hy])
 rcases mem_append.mp hy with hy |hy
 ·exact sa.2.2 x hx y hy
 exact l x hx y hy
theorem Mg.SY {T out p A B:List Keyed}(h:Mg O kf T out A (p++B))(l:∀ x∈p,∀ y∈A,Kr O kf x y):Mg O kf T (out++p) A B:=by
 have sb:=pairwise_append.mp h.sb;refine⟨?_,pairwise_append.mpr ⟨h.so,sb.1,λx hx y hy=>h.low x hx y (by simp[hy])⟩,h.sa,sb.2.1,λx hx y hy=>?_⟩
 ·refine List.Perm.trans ?_ h.perm;rw[List.append_assoc];refine List.Perm.append_left out ?_;rw[← List.append_assoc,← List.append_assoc];exact List.Perm.append_right B List.perm_append_comm
 rcases mem_append.mp hx with hx |hx
 ·exact h.low x hx y (by
   rcases mem_append.mp hy with hy |hy
   ·simp[hy]
   simp[hy])
 rcases mem_append.mp hy with hy |hy
 ·exact l x hx y hy
 exact sb.2.2 x hx y hy
theorem Mg.last {T out B:List Keyed}{z:Keyed}(h:Mg O kf T out [z] B)(l:∀ y∈B,Kr O kf y z):Res O kf T (out++B++[z]):=by
 refine⟨?_,pairwise_append.mpr ⟨pairwise_append.mpr ⟨h.so,h.sb,λx hx y a=>h.low x hx y (by simp[a])⟩,List.pairwise_singleton _ _,λx hx y a=>?_⟩⟩
 ·refine List.Perm.trans ?_ h.perm;rw[List.append_assoc];exact List.Perm.append_left out List.perm_append_comm
 have b:y=z:=by simpa using a
 subst b;rcases mem_append.mp hx with hx |hx
 ·exact h.low x hx y (by simp)
 exact l x hx
theorem drop_cons {a:Array Keyed}{i:Nat}(h:i<a.size):a.toList.drop i=a[i]::a.toList.drop (i+1):=by rw[List.drop_eq_getElem_cons (by simpa using h)];simp
theorem m8 {a:Array Keyed}(i:Nat):(a.extract i).toList=a.toList.drop i:=by rw[toList_extract,List.extract_eq_drop_take];exact take_of_length_le (by simp)
theorem xM {l:List Keyed}{x y:Keyed}(a:(y::l).Pairwise (Kr O kf))(h:Kr O kf x y):∀ z∈y::l,Kr O kf x z:=by
 intro z hz;rcases mem_cons.mp hz with e |hz
 ·rw[e];exact h
 exact jy h ((pairwise_cons.mp a).1 z hz)
end
structure WR (st Im:SortSt):Prop where
 kind:kindOf Im=kindOf st
 arr:arrOf Im=arrOf st
 pend:pendingOf Im=pendingOf st
 fail:failedOf Im=failedOf st
section
variable {prog:Program}{w:World}{A:Around}{E:Ia}{s:Shared}{kd:SortKind}{O:KeyOrd}{kf:Value->O.α}{G:Keyed->Prop}
theorem tU (L:vK prog w A E s kd O kf G){a b:Array Keyed}{st:SortSt}{Q:Array Keyed->SortSt->Prop}(hk:kindOf st=kd)(ga:∀ x∈a.toList,G x)(gb:∀ x∈b.toList,G x)(hn:b.size=a.size)(t : 2<=a.size)
  (sa:a.toList.Pairwise (Kr O kf)) (sb:b.toList.Pairwise (Kr O kf)) (K:∀ i (h:i<a.size),O.blt (kf (b[i]'(by omega)).1) (kf a[i].1)=true) (X:∀ i (h:i+1<a.size),O.blt (kf (b[i+1]'(by omega)).1) (kf a[i].1)=false) (hg : 2<=gallopOf st)
  (h:∀ r,Res O kf (a.toList++b.toList) r.toList->Q r st):wpS (model prog w) A E s (AT a b) Q st:=by
 have M : 0<a.size:=by omega
 have V : 0<b.size:=by omega
 let T:=a.toList++b.toList;let I:Array Keyed->Nat->Nat->Prop:=λout d f=>Mg O kf T out.toList (a.toList.drop d) (b.toList.drop f);have W:∀ i (n:i<a.size),G a[i]:=λi n=>ga _ (getElem_mem_toList n);have gB:∀ i (n:i<b.size),G b[i]:=λi n=>gb _ (getElem_mem_toList n)
 have Z:∀ i j (n:i<a.size) (D:j<a.size),i<=j->Kr O kf a[i] a[j]:=by
  intro i j n D Og;rcases lt_or_ge i j with JU |Si
  ·have:=pairwise_iff_getElem.mp sa i j (by simpa using n) (by simpa using D) JU;simpa using this
  have e:i=j:=by omega
  subst e;exact KeyOrd.kle_refl _
 have first:Kr O kf b[0] a[0]:=KeyOrd.kle_of_klt (K 0 M)
 have last:∀ y∈b.toList,Kr O kf y a[a.size-1]:=λy l=>by
  obtain⟨j,D,rfl⟩:=getElem_of_mem l;have N:j<a.size:=by rw[← hn];simpa using D
  have:=jy (KeyOrd.kle_of_klt (K j N)) (Z j (a.size-1) N (by omega) (by omega));simpa using this
 have S9:∀ {out:Array Keyed}{d f:Nat},I out d f->d+1=a.size->Res O kf T (out++b.extract f++a.extract d).toList:=by
  intro out d f g e;have g:Mg O kf T out.toList (a.toList.drop d) (b.toList.drop f):=g;have R:a.toList.drop d=[a[a.size-1]]:=by rw[drop_cons (by omega),drop_eq_nil_of_le (by simp[e])];congr 2;omega
  rw[toList_append,toList_append,m8,m8,R];rw[R] at g;exact g.last λy l=>last y (mem_of_mem_drop l)
 have S:∀ {out:Array Keyed}{d f:Nat}(m:d<a.size) (t:f<b.size),I out d f->Kr O kf b[f] a[d]->I (out.push b[f]) d (f+1):=by
  intro out d f m t g J;have g:Mg O kf T out.toList (a.toList.drop d) (b.toList.drop f):=g;have z:=g;rw[drop_cons t] at g;show Mg O kf T (out.push b[f]).toList _ _;rw[toList_push];refine Mg.SY (p:=[b[f]]) g λx v y l=>?_;have ex:x=b[f]:=by simpa using v
  subst ex;have U:=z.sa;rw[drop_cons m] at U l;exact xM U J y l
 have Ta:∀ {out:Array Keyed}{d f:Nat}(m:d<a.size) (t:f<b.size),I out d f->Kr O kf a[d] b[f]->I (out.push a[d]) (d+1) f:=by
  intro out d f m t g J;have g:Mg O kf T out.toList (a.toList.drop d) (b.toList.drop f):=g;have z:=g;rw[drop_cons m] at g;show Mg O kf T (out.push a[d]).toList _ _;rw[toList_push];refine Mg.SX (p:=[a[d]]) g λx v y l=>?_;have ex:x=a[d]:=by simpa using v
  subst ex;have P:=z.sb;rw[drop_cons t] at P l;exact xM P J y l
 have start:I #[b[0]] 0 1:=by
  have g:Mg O kf T [] a.toList b.toList:=⟨by simp[T],List.Pairwise.nil,sa,sb,λx v=>by simp at v⟩;have z:I #[] 0 0:=by show Mg O kf T [] (a.toList.drop 0) (b.toList.drop 0);simpa using g
  exact S M V z first
 refine wpS_bind (wpS_lift (wpAny_rule ⟨rfl,?_⟩));refine wpS_bind (cO V ?_);dsimp only;rw[if_neg (by simp;omega),if_neg (by simp;omega)];refine wpS_bind (wpS_get ?_);refine wpS_bind (wpS_mono (Q:=λc k=>k=st/\∃ r rest,c=(some r,rest)/\Res O kf T r.toList) (ik (by omega) ?_) ?post)
 case post =>
  rintro c k ⟨rfl,r,rest,rfl,H⟩;exact wpS_pure (h r H)
 dsimp only
 refine wpS_bind (wpS_mono (wpS_forRange (I:=λy c k=>k=st/\∃ out d f B C,c=(none,out,d,f,B,C)/\I out d f/\d+1<a.size/\f<b.size/\d+f=y+1/\(f=d+1/\B=0∨f=d/\C=0))
  (Q:=λc k=>k=st/\∃ r rest,c=(some r,rest)/\Res O kf T r.toList) ?step ?fin ⟨rfl,_,_,_,_,_,rfl,start,by omega,by omega,rfl,.inl ⟨rfl,rfl⟩⟩) ?post1)
 case post1 =>
  rintro c k ⟨rfl,r,rest,rfl,H⟩;exact wpS_pure ⟨rfl,r,_,rfl,H⟩
 case fin =>
  rintro c k ⟨rfl,out,d,f,B,C,rfl,g,m,o,h4,_⟩;omega
 case step =>
  rintro y c k _ l ⟨rfl,out,d,f,B,C,rfl,g,m,o,h4,h5⟩;dsimp only;have q:d<a.size:=by omega
  refine wpS_bind (cO o (wpS_bind (cO q (wpS_bind (L _ _ (gB _ o) (W _ q) k _ hk ?_)))));dsimp only;rcases h5 with ⟨rfl,rfl⟩ |⟨rfl,rfl⟩
  ·have e:=X d (by omega);rw[e,if_neg (by decide)];refine wpS_bind (cO q ?_);have F:=Ta q o g (show O.kle _ _ from e)
   try dsimp only
   by_cases u:(d+1+1==a.size)=true
   ·rw[if_pos u];exact wpS_pure ⟨rfl,_,_,rfl,S9 F (by simpa using u)⟩
   rw[if_neg u];have Y:d+1+1≠a.size:=by simpa using u
   rw[if_neg (show ¬ (0+1≥gallopOf k) by omega)];exact wpS_pure ⟨rfl,_,_,_,_,_,rfl,F,by omega,o,by omega,.inr ⟨rfl,rfl⟩⟩
  have e:=K f q;rw[e,if_pos rfl];refine wpS_bind (cO o ?_);have F:=S q o g (KeyOrd.kle_of_klt e)
  try dsimp only
  have u:¬ (f+1==b.size)=true:=by simp;omega
  rw[if_neg u,if_neg (show ¬ (0+1≥gallopOf k) by omega)];exact wpS_pure ⟨rfl,_,_,_,_,_,rfl,F,m,by omega,by omega,.inl ⟨rfl,rfl⟩⟩
end
abbrev zy:Nat->Nat->StateT SortSt Sem (Option Nat):=sortPriv% PySem.Builtin.countRun
abbrev vA:Nat->Nat->Nat->StateT SortSt Sem Bool:=sortPriv% PySem.Builtin.binarySort
section
variable {prog:Program}{w:World}{A:Around}{E:Ia}{s:Shared}{kd:SortKind}{O:KeyOrd}{kf:Value->O.α}{G:Keyed->Prop}
def KX (kf:Value->O.α)(xs:Array Keyed)(i:Nat):O.α:=match xs[i]? with
 |some p=>kf p.1
 |none=>kf .none
theorem yl {xs ys:Array Keyed}{i j:Nat}(h:xs[i]?=ys[j]?):KX kf xs i=KX kf ys j:=by unfold KX;rw[h]
theorem nh {xs:Array Keyed}{i:Nat}(h:i<xs.size):KX kf xs i=kf xs[i].1:=by unfold KX;rw[getElem?_pos xs i h]
structure Sg (G:Keyed->Prop) (kd:SortKind) (lo hi:Nat) (st Im:SortSt):Prop where
 kind:kindOf Im=kd
 good:∀ x∈(arrOf Im).toList,G x
 perm:(arrOf Im).Perm (arrOf st)
 pend:pendingOf Im=pendingOf st
 fail:failedOf Im=failedOf st
 Rw:gallopOf Im=gallopOf st
 same:∀ k,(k<lo∨hi<=k)->(arrOf Im)[k]?=(arrOf st)[k]?
theorem Sg.size {lo hi:Nat}{st a:SortSt}(h:Sg G kd lo hi st a):(arrOf a).size=(arrOf st).size:=h.perm.size_eq
theorem Sg.set {lo hi:Nat}{st a:SortSt}(h:Sg G kd lo hi st a){ys:Array Keyed}(b:ys.Perm (arrOf a))(e:∀ k,(k<lo∨hi<=k)->ys[k]?=(arrOf a)[k]?):Sg G kd lo hi st (setArr a ys):=
 ⟨h.kind,λx d=>h.good x ((perm_iff_toList_perm.mp b).mem_iff.mp d),b.trans h.perm,h.pend,h.fail,h.Rw,λk c=>(e k c).trans (h.same k c)⟩
theorem lG (L:vK prog w A E s kd O kf G){lo hi:Nat}{st0 st:SortSt}(a:Sg G kd lo hi st0 st){i j:Nat}(hi:i<(arrOf st0).size)(d:j<(arrOf st0).size){Q:Option Bool->SortSt->Prop}
  (q:Q (some (O.blt (KX kf (arrOf st) i) (KX kf (arrOf st) j))) st):wpS (model prog w) A E s (ltAt' i j) Q st:=by
 have c:i<(arrOf st).size:=by rw[a.size];exact hi
 have b:j<(arrOf st).size:=by rw[a.size];exact d
 rw[nh c,nh b] at q;rw[ltAt'_eq];refine wpS_bind (wpS_get (wpS_bind (cO c (wpS_bind (cO b ?_)))));exact L _ _ (a.good _ (getElem_mem_toList c)) (a.good _ (getElem_mem_toList b)) st _ a.kind q
theorem BY {i j:Nat}{st:SortSt}{Q:Unit->SortSt->Prop}(q:Q () (setArr st (bubble (arrOf st) i (i-j)))):wpS (model prog w) A E s (moveDown' i j) Q st:=by rw[moveDown'_eq];exact wpS_modify q
def NZ (kf:Value->O.α)(xs:Array Keyed)(lo hi:Nat):Prop:=∀ i j,lo<=i->i<=j->j<hi->O.kle (KX kf xs i) (KX kf xs j)
theorem nR (L:vK prog w A E s kd O kf G){lo b:Nat}{st:SortSt}{Q:Option Nat->SortSt->Prop}(g:kindOf st=kd)(i:∀ x∈(arrOf st).toList,G x)(m:lo+b<=(arrOf st).size)(l : 2<=b)
  (u:O.blt (KX kf (arrOf st) lo) (KX kf (arrOf st) (lo+1))=true) (d:b=2∨O.blt (KX kf (arrOf st) (lo+2)) (KX kf (arrOf st) (lo+1))=true) (h:Q (some 2) st):wpS (model prog w) A E s (zy lo b) Q st:=by
 have e:Sg G kd lo lo st st:=⟨g,i,Array.Perm.refl _,rfl,rfl,rfl,λ_ _=>rfl⟩;refine wpS_bind (wpS_mono (wpS_forRange (I:=λx c a=>a=st/\c=(none,x)/\x<=2) (Q:=λc a=>a=st/\c=(none,2)) ?s1 ?f1 ⟨rfl,rfl,by omega⟩) ?p1)
 case s1 =>
  rintro x c a j k ⟨rfl,rfl,f⟩
  try dsimp only
  refine wpS_bind (lG L e (by omega) (by omega) ?_);have:x=1∨x=2:=by omega
  rcases this with rfl |rfl
  ·rw[show lo+1-1=lo by omega,show O.blt (KX kf (arrOf a) (lo+1)) (KX kf (arrOf a) lo)=false from KeyOrd.klt_asymm u];exact wpS_pure ⟨rfl,rfl,by omega⟩
  rw[show lo+2-1=lo+1 by omega,d.resolve_left (by omega)];exact wpS_pure ⟨rfl,rfl⟩
 case f1 =>
  rintro c a ⟨rfl,rfl,f⟩;exact⟨rfl,by rw[show max 1 b=2 by omega]⟩
 case p1 =>
  rintro c a ⟨rfl,rfl⟩
  try dsimp only
  split
  ·exact wpS_pure h
  rw[if_pos (by decide)];refine wpS_bind (lG L e (by omega) (by omega) ?_);rw[show lo+2-1=lo+1 by omega,u];exact wpS_pure h
theorem BP {xs:Array Keyed}{a d:Nat}(f:a<xs.size)(hd:d<=a)(k:Nat):KX kf (bubble xs a d) k=if k=a-d then KX kf xs a else if a-d<k/\k<=a then KX kf xs (k-1) else KX kf xs k:=by
 have e:=getElem?_bubble f d hd k;split
 ·rename_i c;rw[if_pos c] at e;exact yl e
 rename_i c;rw[if_neg c] at e;split
 ·rename_i b;rw[if_pos b] at e;exact yl e
 rename_i b;rw[if_neg b] at e;exact yl e
theorem iT (L:vK prog w A E s kd O kf G){lo n ok:Nat}{st0 st:SortSt}{Q:Bool->SortSt->Prop}(J:Sg G kd lo (lo+n) st0 st)(N:lo+n<=(arrOf st0).size)(IL:ok<=n)(C:NZ kf (arrOf st) lo (lo+ok))
  (h:∀ d,Sg G kd lo (lo+n) st0 d->NZ kf (arrOf d) lo (lo+n)->Q true d):wpS (model prog w) A E s (vA lo n ok) Q st:=by
 refine wpS_bind (wpS_mono (wpS_forRange (I:=λk c d=>c=(none,())/\Sg G kd lo (lo+n) st0 d/\NZ kf (arrOf d) lo (lo+min k n)) (Q:=λc d=>c=(none,())/\Sg G kd lo (lo+n) st0 d/\NZ kf (arrOf d) lo (lo+n)) ?s1 ?f1 ⟨rfl,J,λi j y z B=>?i1⟩) ?p1)
 case i1 =>
  by_cases e:j<lo+ok
  ·exact C i j y z e
  have:i=j:=by omega
  subst this;exact KeyOrd.kle_refl _
 case f1 =>
  rintro c d ⟨K,m,g⟩;refine⟨K,m,?_⟩;rwa [show min (max (max ok 1) n) n=n by omega] at g
 case p1 =>
  rintro c d ⟨rfl,m,g⟩;exact wpS_pure (h d m g)
 case s1 =>
  rintro k c d S F ⟨rfl,m,g⟩;rw[show min k n=k by omega] at g
  try dsimp only
  refine wpS_bind (wpS_mono (wpS_forRange (I:=λx c f=>f=d/\∃ l r,c=(none,l,r)/\l<=r/\r<=k/\r-l<=k-x/\(∀ i,i<l->O.kle (KX kf (arrOf d) (lo+i)) (KX kf (arrOf d) (lo+k)))/\∀ i,r<=i->i<k->O.klt (KX kf (arrOf d) (lo+k)) (KX kf (arrOf d) (lo+i)))
   (Q:=λc f=>f=d/\∃ l r,c=(none,l,r)/\l<=k/\(∀ i,i<l->O.kle (KX kf (arrOf d) (lo+i)) (KX kf (arrOf d) (lo+k)))/\∀ i,l<=i->i<k->O.klt (KX kf (arrOf d) (lo+k)) (KX kf (arrOf d) (lo+i))) ?s2 ?f2 ⟨rfl,0,k,rfl,by omega,by omega,by omega,λi R=>by omega,λi a b=>by omega⟩) ?p2)
  case f2 =>
   rintro c f ⟨rfl,l,r,rfl,y,z,B,t,p⟩;exact⟨rfl,l,r,rfl,by omega,t,λi v u=>p i (by omega) u⟩
  case s2 =>
   rintro x c f _ M ⟨rfl,l,r,rfl,y,z,B,t,p⟩
   try dsimp only
   by_cases e:l≥r
   ·rw[if_pos e];exact wpS_pure ⟨rfl,l,r,rfl,by omega,t,λi v u=>p i (by omega) u⟩
   rw[if_neg e];refine wpS_bind (lG L m (by omega) (by omega) ?_);cases hb:O.blt (KX kf (arrOf f) (lo+k)) (KX kf (arrOf f) (lo+(l+r) / 2)) with
   |true=>exact wpS_pure ⟨rfl,l,(l+r) / 2,rfl,by omega,by omega,by omega,t,λi v u=>KeyOrd.klt_of_klt_of_kle hb (g _ _ (by omega) (by omega) (by omega))⟩
   |false=>exact wpS_pure ⟨rfl,(l+r) / 2+1,r,rfl,by omega,by omega,by omega,λi v=>KeyOrd.kle_trans (g _ _ (by omega) (by omega) (by omega)) (show O.kle _ _ from hb),p⟩
  case p2 =>
   rintro c f ⟨rfl,l,r,rfl,y,t,p⟩
   try dsimp only
   have o:lo+k<(arrOf f).size:=by rw[m.size];omega
   refine wpS_bind (BY (wpS_pure ⟨rfl,m.set (bubble_perm _ _ _) (λq hq=>?_),?_⟩))
   ·rw[getElem?_bubble o _ (by omega),if_neg (by rcases hq with hq |hq<;>omega),if_neg (by rcases hq with hq |hq<;>omega)]
   rw[show min (k+1) n=k+1 by omega];intro i j v u P;show O.kle (KX kf (bubble (arrOf f) (lo+k) (lo+k-(lo+l))) i) (KX kf (bubble (arrOf f) (lo+k) (lo+k-(lo+l))) j);rw[BP o (by omega),BP o (by omega),show lo+k-(lo+k-(lo+l))=lo+l by omega];have up:∀ q,lo<=q->q<lo+l->O.kle (KX kf (arrOf f) q) (KX kf (arrOf f) (lo+k)):=λq H D=>by have:=t (q-lo) (by omega);rwa [show lo+(q-lo)=q by omega] at this
   have dn:∀ q,lo+l<=q->q<lo+k->O.klt (KX kf (arrOf f) (lo+k)) (KX kf (arrOf f) q):=λq H D=>by have:=p (q-lo) (by omega) (by omega);rwa [show lo+(q-lo)=q by omega] at this
   repeat' split
   all_goals first
    |(exfalso;omega)
    |exact KeyOrd.kle_refl _
    |exact up _ (by omega) (by omega)
    |exact KeyOrd.kle_of_klt (dn _ (by omega) (by omega))
    |exact g _ _ (by omega) (by omega) (by omega)
theorem writes:∀ (m:List Keyed) (xs:Array Keyed) (b o:Nat),b+o+m.length<=xs.size->((m.zipIdx o).foldl (λa (c:Keyed×Nat)=>a.setIfInBounds (b+c.2) c.1) xs).toList=xs.toList.take (b+o)++(m++xs.toList.drop (b+o+m.length))
 |[],xs,b,o,h=>by simp
 |p::m,xs,b,o,h=>by
  rw[length_cons] at h;have e:=writes m (xs.setIfInBounds (b+o) p) b (o+1) (by rw[Array.size_setIfInBounds];omega);rw[zipIdx_cons,foldl_cons];show ((m.zipIdx (o+1)).foldl _ (xs.setIfInBounds (b+o) p)).toList=_;rw[e,Array.toList_setIfInBounds,← add_assoc,length_cons];have d:(xs.toList.set (b+o) p).take (b+o+1)=xs.toList.take (b+o)++[p]:=by rw[List.take_succ,List.take_set_of_le (le_refl _),getElem?_set_self (by simpa using (by omega:b+o<xs.size))];rfl
  have f:(xs.toList.set (b+o) p).drop (b+o+1+m.length)=xs.toList.drop (b+o+(m.length+1)):=by rw[List.drop_set_of_lt (by omega)];congr 1;omega
  rw[d,f];simp
end
section
variable {prog:Program}{w:World}{A:Around}{E:Ia}{s:Shared}{kd:SortKind}{O:KeyOrd}{kf:Value->O.α}{G:Keyed->Prop}
theorem BX {st a:SortSt}{Q:PUnit->SortSt->Prop}(q:Q ⟨⟩ a):wpS (model prog w) A E s (set a:StateT SortSt Sem PUnit) Q st:=by unfold wpS;rw[StateT.run_set];exact wpAny_pure ⟨rfl,q⟩
theorem tV (L:vK prog w A E s kd O kf G){st:SortSt}{n f o:Nat}{X Y:List Keyed}{Q:Bool->SortSt->Prop}(M:kindOf st=kd)(q:∀ x∈(arrOf st).toList,G x)(T:failedOf st=none)(Ol : 2<=gallopOf st)
  (hn : 3<=n) (p:pendingOf st = #[(0,n,f),(n,n,o)]) (e:(arrOf st).toList=X++Y) (d:X.length=n) (N:Y.length=n) (F:X.Pairwise (Kr O kf)) (H:Y.Pairwise (Kr O kf))
  (k:∀ i (h:i<n),O.blt (kf (X[i]'(by omega)).1) (kf (Y[i]'(by omega)).1)=true) (K:∀ i (h:i+1<n),O.blt (kf (Y[i]'(by omega)).1) (kf (X[i+1]'(by omega)).1)=true)
  (h:∀ B,failedOf B=none->(pendingOf B).size=1->Res O kf (X++Y) (arrOf B).toList->Q true B) :
  wpS (model prog w) A E s (mergeAt' 0) Q st:=by
 have P:(arrOf st).size=n+n:=by have:=congrArg List.length e;simpa [d,N] using this
 have WV:∀ j (V:j<(arrOf st).size),(arrOf st)[j]=(X++Y)[j]'(by rw[List.length_append];omega):=λj V=>by
  have h2:(arrOf st)[j]=(arrOf st).toList[j]'(by simpa using V):=by simp
  rw[h2];congr 1
 have D:∀ j (c:j<n),(arrOf st)[j]'(by omega)=X[j]'(by omega):=λj c=>by rw[WV,List.getElem_append_left]
 have t:∀ j (c:j<n),(arrOf st)[n+j]'(by omega)=Y[j]'(by omega):=λj c=>by rw[WV,List.getElem_append_right (by omega)];congr 1;omega
 have gd:∀ j (c:j<(arrOf st).size),G (arrOf st)[j]:=λj c=>q _ (getElem_mem_toList c);refine wpS_bind (wpS_get ?_);rw[show (sortPriv% PySem.Builtin.SortState.pending) st=pendingOf st from rfl,p,show (#[(0,n,f),(n,n,o)]:Array (Nat×Nat×Nat))[0]?=some (0,n,f) from rfl,show (#[(0,n,f),(n,n,o)]:Array (Nat×Nat×Nat))[0+1]?=some (n,n,o) from rfl];dsimp only;refine wpS_bind (BX ?_);refine wpS_bind (cO (show n<(arrOf st).size by omega) ?_);have y0:(arrOf st)[n]'(by omega)=Y[0]'(by omega):=t 0 (by omega);refine wpS_bind (xj L (by exact M) (gd n (by omega)) q (by show 0+n<=(arrOf st).size;omega) (by omega) (λj=>if c : 0+j<(arrOf st).size then Qe O kf false ((arrOf st)[n]'(by omega)) (arrOf st)[0+j] else false) (λj c _=>by rw[dif_pos c]) (.inl ⟨rfl,rfl,?_,?_⟩) ?_)
 ·rw[dif_pos (by omega),y0];unfold Qe;rw[if_neg (by decide)];have:=KeyOrd.klt_asymm (k 0 (by omega));rw[show (arrOf st)[0+0]'(by omega)=X[0]'(by omega) from D 0 (by omega)];rw[show O.blt (kf (Y[0]'(by omega)).1) (kf (X[0]'(by omega)).1)=false from this];rfl
 ·rw[dif_pos (by omega),y0];unfold Qe;rw[if_neg (by decide)];simp only[zero_add];rw[show (arrOf st)[1]'(by omega)=X[1]'(by omega) from D 1 (by omega),show O.blt (kf (Y[0]'(by omega)).1) (kf (X[1]'(by omega)).1)=true from K 0 (by omega)];rfl
 try dsimp only
 rw[if_neg (by simp;omega)];refine wpS_bind (cO (show 0+1+(n-1)-1<(arrOf st).size by omega) ?_);have xl:(arrOf st)[0+1+(n-1)-1]'(by omega)=X[n-1]'(by omega):=by have:=D (n-1) (by omega);rw[← this];congr 1;omega
 refine wpS_bind (xj L (by exact M) (gd _ (by omega)) q (by show n+n<=(arrOf st).size;omega) (by omega) (λj=>if c:n+j<(arrOf st).size then Qe O kf true ((arrOf st)[0+1+(n-1)-1]'(by omega)) (arrOf st)[n+j] else false) (λj c _=>by rw[dif_pos c]) (.inr ⟨rfl,rfl,?_,?_⟩) ?_)
 ·rw[dif_pos (by omega),xl];unfold Qe;rw[if_pos rfl,t (n-1) (by omega)];exact KeyOrd.klt_asymm (k (n-1) (by omega))
 ·rw[dif_pos (by omega),xl];unfold Qe;rw[if_pos rfl,t (n-2) (by omega)];have:=K (n-2) (by omega);simp only[show n-2+1=n-1 by omega] at this;exact this
 try dsimp only
 rw[if_neg (by simp;omega),if_pos (by omega)];have ex:((arrOf st).extract (0+1) n).toList=X.drop 1:=by rw[toList_extract,List.extract_eq_drop_take,e,List.drop_append_of_le_length (by omega),List.take_append_of_le_length (by rw[length_drop];omega)];exact take_of_length_le (by rw[length_drop];omega)
 have y:((arrOf st).extract n (n+(n-1))).toList=Y.take (n-1):=by rw[toList_extract,List.extract_eq_drop_take,e,List.drop_append,drop_eq_nil_of_le (by omega),nil_append,d,Nat.sub_self,drop_zero,Nat.add_sub_cancel_left]
 have lx:((arrOf st).extract (0+1) n).size=n-1:=by rw[← length_toList,ex,length_drop,d]
 have ly:((arrOf st).extract n (n+(n-1))).size=n-1:=by rw[← length_toList,y,length_take,N];omega
 have xa:∀ i (m:i<n-1),((arrOf st).extract (0+1) n)[i]'(by omega)=X[i+1]'(by omega):=λi m=>by rw[Array.getElem_extract,← D (i+1) (by omega)];congr 1;omega
 have S:∀ i (m:i<n-1),((arrOf st).extract n (n+(n-1)))[i]'(by omega)=Y[i]'(by omega):=λi m=>by rw[Array.getElem_extract];exact t i (by omega)
 refine wpS_bind (tU (a:=(arrOf st).extract (0+1) n) (b:=(arrOf st).extract n (n+(n-1))) L (by exact M) (λz hz=>by rw[ex] at hz;exact q z (by rw[e];simp[mem_of_mem_drop hz])) (λz hz=>by rw[y] at hz;exact q z (by rw[e];simp[mem_of_mem_take hz])) (by omega) (by omega)
  (by rw[ex];exact F.sublist (List.drop_sublist _ _)) (by rw[y];exact H.sublist (List.take_sublist _ _)) (λi m=>by rw[xa i (by omega),S i (by omega)];exact K i (by omega)) (λi m=>by rw[xa i (by omega),S (i+1) (by omega)];exact KeyOrd.klt_asymm (k (i+1) (by omega))) (by exact Ol) λr g=>?_)
 refine wpS_bind (wpS_modify (wpS_bind (wpS_get (wpS_pure ?_))));rw[ex,y] at g;have lr:r.toList.length=(n-1)+(n-1):=by rw[g.1.length_eq,List.length_append,length_drop,length_take,d,N];omega
 have U:=writes r.toList (arrOf st) (0+1) 0 (by rw[lr,P];omega);have e1:(arrOf st).toList.take (0+1)=X.take 1:=by rw[e,List.take_append_of_le_length (by omega)]
 have e2:(arrOf st).toList.drop (0+1+((n-1)+(n-1)))=Y.drop (n-1):=by rw[e,List.drop_append,drop_eq_nil_of_le (by omega),nil_append,d];congr 1;omega
 rw[Nat.add_zero,lr,e1,e2] at U;show Q (failedOf st).isNone _;rw[T];have Vb:(((#[(0,n,f),(n,n,o)]:Array (Nat×Nat×Nat)).setIfInBounds 0 (0,n+n,f)).eraseIdxIfInBounds (0+1)).size=1:=by rw[← length_toList,Array.toList_eraseIdxIfInBounds,Array.toList_setIfInBounds];rfl
 refine h _ T Vb ?_;show Res O kf (X++Y) (List.foldl (λa (x:Keyed×Nat)=>a.setIfInBounds (0+1+x.2) x.1) (arrOf st) r.toList.zipIdx).toList;rw[U]
 have C:∀ {Z:List Keyed},Z.Pairwise (Kr O kf)->∀ a b (R:a<Z.length) (hb:b<Z.length),a<=b->Kr O kf Z[a] Z[b]:=by
  intro Z sZ a b R hb Wo;rcases lt_or_ge a b with JU |Si
  ·exact pairwise_iff_getElem.mp sZ a b R hb JU
  have e:a=b:=by omega
  subst e;exact KeyOrd.kle_refl _
 have J:∀ z∈X++Y,Kr O kf (X[0]'(by omega)) z/\Kr O kf z (Y[n-1]'(by omega)):=λz hz=>by
  rcases mem_append.mp hz with hz |hz
  ·obtain⟨j,c,rfl⟩:=getElem_of_mem hz;exact⟨C F 0 j (by omega) c (zero_le _),jy (C F j (n-1) c (by omega) (by omega)) (KeyOrd.kle_of_klt (k (n-1) (by omega)))⟩
  obtain⟨j,c,rfl⟩:=getElem_of_mem hz;exact⟨jy (KeyOrd.kle_of_klt (k 0 (by omega))) (C H 0 j (by omega) c (zero_le _)),C H j (n-1) c (by omega) (by omega)⟩
 have W:∀ z∈r.toList,z∈X++Y:=λz hz=>by
  rcases mem_append.mp (g.1.mem_iff.mp hz) with hz |hz
  ·exact mem_append_left _ (mem_of_mem_drop hz)
  exact mem_append_right _ (mem_of_mem_take hz)
 have x1:X.take 1=[X[0]'(by omega)]:=by
  cases X with
  |nil=>simp at d;omega
  |cons a l=>rfl
 have y1:Y.drop (n-1)=[Y[n-1]'(by omega)]:=by rw[List.drop_eq_getElem_cons (by omega),drop_eq_nil_of_le (by omega)]
 refine⟨?_,?_⟩
 ·refine List.Perm.trans (List.Perm.append_left _ (List.Perm.append_right _ g.1)) ?_;have q1:X.take 1++((X.drop 1++Y.take (n-1))++Y.drop (n-1))=(X.take 1++X.drop 1)++(Y.take (n-1)++Y.drop (n-1)):=by simp only[List.append_assoc]
  rw[q1,take_append_drop,take_append_drop]
 rw[x1,y1];refine pairwise_append.mpr ⟨List.pairwise_singleton _ _,pairwise_append.mpr ⟨g.2,List.pairwise_singleton _ _,λu I v hv=>?_⟩,λu I v hv=>?_⟩
 ·rw[mem_singleton.mp hv];exact(J u (W u I)).2
 rw[mem_singleton.mp I];rcases mem_append.mp hv with hv |hv
 ·exact(J v (W v hv)).1
 rw[mem_singleton.mp hv];exact(J _ (mem_append_right _ (getElem_mem _))).1
end
abbrev yA:StateT SortSt Sem Unit:=sortPriv% PySem.Builtin.sortRuns
abbrev cz:Nat->Nat->Nat->Nat:=sortPriv% PySem.Builtin.minRun
section
variable {prog:Program}{w:World}{A:Around}{E:Ia}{s:Shared}{kd:SortKind}{O:KeyOrd}{kf:Value->O.α}{G:Keyed->Prop}
def Spec {α:Type}(lt : α->α->Bool)(d:List α):Prop:=∃ a b r,d=a::b::r/\lt a b=true/\(∀ c∈r.head?,lt c b=true)/\(d.length<64∨d.length=64/\∃ a b c r,d.drop 32=a::b::c::r/\lt a b=true/\lt c b=true/\∃ X Y:List α,X.length=32/\Y.length=32 /\
 (d.take 32).Perm X/\(d.drop 32).Perm Y/\X.Pairwise (λa b=>lt b a=false)/\Y.Pairwise (λa b=>lt b a=false)/\(∀ p∈X.zip Y,lt p.1 p.2=true)/\∀ p∈Y.zip X.tail,lt p.1 p.2=true)
def jV (kf:Value->O.α)(xs:Array Keyed):List O.α:=xs.toList.map λp=>kf p.1
theorem lm {xs:Array Keyed}{i:Nat}{a:O.α}(h:(jV kf xs)[i]?=some a):KX kf xs i=a:=by unfold jV at h;rw[getElem?_map] at h;obtain⟨p,b,rfl⟩:=map_eq_some_iff.mp h;unfold KX;rw[show xs[i]?=some p by simpa using b]
theorem vD {xs:Array Keyed}{lo n:Nat}(h:NZ kf xs lo (lo+n))(c:lo+n<=xs.size):((xs.toList.drop lo).take n).Pairwise (Kr O kf):=by rw[pairwise_iff_getElem];intro i j a b d;rw[length_take,length_drop,length_toList] at a b;have q:=h (lo+i) (lo+j) (by omega) (by omega) (by omega);rw[nh (by omega),nh (by omega)] at q;show O.kle _ _;simpa using q
theorem A4 {a b:O.α}(c:O.kle a b)(d:O.kle b a):a=b:=O.total _ _ d c
structure Q1 (G:Keyed->Prop) (kd:SortKind) (kf:Value->O.α) (st Im:SortSt) (p:Array (Nat×Nat×Nat)):Prop where
 kind:kindOf Im=kd
 good:∀ x∈(arrOf Im).toList,G x
 fail:failedOf Im=none
 Rw : 2<=gallopOf Im
 perm:(arrOf Im).Perm (arrOf st)
 pend:pendingOf Im=p
 tk:((arrOf Im).toList.take 32).Perm ((arrOf st).toList.take 32)
 ts:((arrOf Im).toList.take 32).Pairwise (Kr O kf)
theorem uc {xs ys:Array Keyed}{lo n:Nat}(f:ys.Perm xs)(h:lo+n<=xs.size)(same:∀ k,(k<lo∨lo+n<=k)->ys[k]?=xs[k]?):ys.toList.take lo=xs.toList.take lo/\ys.toList.drop (lo+n)=xs.toList.drop (lo+n)/\((ys.toList.drop lo).take n).Perm ((xs.toList.drop lo).take n):=by
 have e:ys.toList.take lo=xs.toList.take lo:=by
  apply ext_getElem?;intro i;rw[getElem?_take,getElem?_take];split
  ·rename_i g;simpa using same i (.inl g)
  rfl
 have c:ys.toList.drop (lo+n)=xs.toList.drop (lo+n):=by apply ext_getElem?;intro i;rw[getElem?_drop,getElem?_drop];simpa using same (lo+n+i) (.inr (by omega))
 have d:∀ a:Array Keyed,a.toList=a.toList.take lo++((a.toList.drop lo).take n++a.toList.drop (lo+n)):=λa=>by rw[← List.drop_drop,take_append_drop,take_append_drop]
 have b:=perm_iff_toList_perm.mp f;rw[d ys,d xs,e,c] at b;exact⟨e,c,(List.perm_append_right_iff _).mp ((List.perm_append_left_iff _).mp b)⟩
theorem nJ {xs:Array Keyed}{lo:Nat}(u:O.blt (KX kf xs lo) (KX kf xs (lo+1))=true):NZ kf xs lo (lo+2):=λi j c b a=>by
 have:i=j∨i=lo/\j=lo+1:=by omega
 rcases this with rfl |⟨rfl,rfl⟩
 ·exact KeyOrd.kle_refl _
 exact KeyOrd.kle_of_klt u
theorem pG (L:vK prog w A E s kd O kf G){st:SortSt}{Q:Unit->SortSt->Prop}(hk:kindOf st=kd)(hg:∀ x∈(arrOf st).toList,G x)(hf:failedOf st=none)(R:pendingOf st = #[])(Ol : 2<=gallopOf st)(sp:Spec O.blt (jV kf (arrOf st)))
  (h:∀ d,(arrOf d).Perm (arrOf st)->failedOf d=none->NZ kf (arrOf d) 0 (arrOf st).size->Q () d):wpS (model prog w) A E s yA Q st:=by
 obtain⟨a,b,r,P,J,d0,sp⟩:=sp;have t:(jV kf (arrOf st)).length=(arrOf st).size:=by unfold jV;rw[length_map,length_toList]
 have n2 : 2<=(arrOf st).size:=by rw[← t,P];simp
 have J:O.blt (KX kf (arrOf st) 0) (KX kf (arrOf st) 1)=true:=by rw[lm (i:=0) (by rw[P];rfl),lm (i:=1) (by rw[P];rfl)];exact J
 have d0:(arrOf st).size=2∨O.blt (KX kf (arrOf st) 2) (KX kf (arrOf st) 1)=true:=by
  cases r with
  |nil=>exact .inl (by rw[← t,P];rfl)
  |cons c r=>exact .inr (by rw[lm (i:=2) (by rw[P];rfl),lm (i:=1) (by rw[P];rfl)];exact d0 c rfl)
 rw[t] at sp;have S0:∀ lo o,Sg G kd lo o st st:=λlo o=>⟨hk,hg,Array.Perm.refl _,rfl,rfl,rfl,λ_ _=>rfl⟩;refine wpS_bind (wpS_get ?_);dsimp only;rcases sp with sp |⟨YO,S,b1,c1,r1,YQ,u1,d1,X,Y,lX,lY,pX,pY,sX,sY,xy,yx⟩
 ·refine wpS_bind (wpS_mono (wpS_forRange (I:=λx c d=>x=0/\c=(none,0)/\d=st∨0<x/\c=(none,(arrOf st).size)/\(arrOf d).Perm (arrOf st)/\failedOf d=none/\NZ kf (arrOf d) 0 (arrOf st).size/\(pendingOf d).size<=1)
   (Q:=λc d=>c=(none,(arrOf st).size)/\(arrOf d).Perm (arrOf st)/\failedOf d=none/\NZ kf (arrOf d) 0 (arrOf st).size/\(pendingOf d).size<=1) ?s1 ?f1 (.inl ⟨rfl,rfl,rfl⟩)) ?p1)
  case f1 =>
   rintro c d (⟨u,_⟩ |⟨_,v⟩)
   ·have u:max 0 (arrOf st).size=0:=u;omega
   exact v
  case p1 =>
   rintro c d ⟨rfl,S,a2,a3,a4⟩;dsimp only;refine wpS_bind (ik (show 0<(arrOf st).size by omega) ?_);refine wpS_bind (wpS_get ?_);rw[show (sortPriv% PySem.Builtin.SortState.pending) d=pendingOf d from rfl,if_pos a4];exact wpS_pure (wpS_pure (h d S a2 a3))
  case s1 =>
   rintro x c d _ hx (⟨rfl,rfl,rfl⟩ |⟨_,rfl,S,a2,a3,a4⟩)
   ·dsimp only;rw[if_neg (by omega)]
    refine wpS_bind (nR L hk hg (by show 0+((arrOf d).size-0)<=(arrOf d).size;omega) (by show 2<=(arrOf d).size-0;omega) (by simpa using J) (by
     rcases d0 with d0 |d0
     ·exact .inl (by show (arrOf d).size-0=2;omega)
     exact .inr (by simpa using d0)) ?_)
    dsimp only
    have U:cz (arrOf d).size (arrOf d).size 0=(arrOf d).size:=by
     cases hsz:(arrOf d).size with
     |zero=>omega
     |succ k=>exact if_pos (by omega)
    have done:∀ (e:SortSt) (n:Nat),n=(arrOf d).size->Sg G kd 0 (0+n) d e->NZ kf (arrOf e) 0 (0+n)->∀ B,arrOf B=arrOf e->failedOf B=failedOf e->pendingOf B=(pendingOf e).push (0,n,0)->0<0+1/\((none:Option Unit),0+n)=(none,(arrOf d).size)/\(arrOf B).Perm (arrOf d)/\failedOf B=none/\NZ kf (arrOf B) 0 (arrOf d).size/\(pendingOf B).size<=1:=λe n hn g ha B V e2 e3=>by refine⟨by omega,by rw[hn,zero_add],by rw[V];exact g.perm,by rw[e2,g.fail];exact hf,by rw[V,← hn];simpa using ha,by rw[e3,g.pend,R];exact le_refl _⟩
    by_cases v : 2<cz (arrOf d).size (arrOf d).size 0
    ·rw[if_pos v];refine wpS_bind (wpS_lift (wpAny_rule ⟨rfl,?_⟩));refine wpS_bind (iT (n:=min ((arrOf d).size-0) (cz (arrOf d).size (arrOf d).size 0)) L (S0 0 _) (by rw[U];omega) (by rw[U];omega) (nJ (by simpa using J)) λe f C=>?_);rw[if_neg (by decide)];refine wpS_bind (wpS_get ?_);have D:(pendingOf e).back?=none:=by rw[f.pend,R];rfl
     rw[show (sortPriv% PySem.Builtin.SortState.pending) e=pendingOf e from rfl,D];dsimp only;exact wpS_bind (wpS_modify (wpS_pure (.inr (done e _ (by rw[U];omega) f C _ rfl rfl rfl))))
    rw[if_neg v];refine wpS_bind (wpS_get ?_);have D:(pendingOf d).back?=none:=by rw[R];rfl
    rw[show (sortPriv% PySem.Builtin.SortState.pending) d=pendingOf d from rfl,D];dsimp only;exact wpS_bind (wpS_modify (wpS_pure (.inr (done d 2 (by rw[U] at v;omega) (S0 _ _) (nJ (by simpa using J)) _ rfl rfl rfl))))
   dsimp only;rw[if_pos (le_refl _)];exact wpS_pure ⟨rfl,S,a2,a3,a4⟩
 have m64:cz (arrOf st).size (arrOf st).size 0=32:=by rw[YO];rfl
 refine wpS_bind (wpS_mono (wpS_forRange (I:=λx c d=>x=0/\c=(none,0)/\d=st∨x=1/\c=(none,32)/\Q1 G kd kf st d #[(0,32,0)]/\(arrOf d).toList.drop 32=(arrOf st).toList.drop 32∨2<=x/\c=(none,64)/\∃ q,Q1 G kd kf st d #[(0,32,q),(32,32,0)]/\((arrOf d).toList.drop 32).Perm ((arrOf st).toList.drop 32)/\((arrOf d).toList.drop 32).Pairwise (Kr O kf))
  (Q:=λc d=>c=(none,64)/\∃ q,Q1 G kd kf st d #[(0,32,q),(32,32,0)]/\((arrOf d).toList.drop 32).Perm ((arrOf st).toList.drop 32)/\((arrOf d).toList.drop 32).Pairwise (Kr O kf)) ?s1 ?f1 (.inl ⟨rfl,rfl,rfl⟩)) ?p1)
 case f1 =>
  rintro c d (⟨u,_⟩ |⟨u,_⟩ |⟨_,v⟩)
  ·have u:max 0 (arrOf st).size=0:=u;omega
  ·have u:max 0 (arrOf st).size=1:=u;omega
  exact v
 case s1 =>
  rintro x c d _ hx (⟨rfl,rfl,rfl⟩ |⟨rfl,rfl,H,hd⟩ |⟨v,rfl,q,H,hd⟩)
  ·dsimp only;rw[if_neg (by omega)];refine wpS_bind (nR L hk hg (by show 0+((arrOf d).size-0)<=(arrOf d).size;omega) (by show 2<=(arrOf d).size-0;omega) (by simpa using J) (.inr (by simpa using d0.resolve_left (by omega))) ?_);dsimp only;rw[if_pos (show 2<cz (arrOf d).size (arrOf d).size 0 by omega)];refine wpS_bind (wpS_lift (wpAny_rule ⟨rfl,?_⟩));refine wpS_bind (iT (n:=min ((arrOf d).size-0) (cz (arrOf d).size (arrOf d).size 0)) L (S0 0 _) (by omega) (by omega) (nJ (by simpa using J)) λe f C=>?_);rw[if_neg (by decide)];refine wpS_bind (wpS_get ?_);have D:(pendingOf e).back?=none:=by rw[f.pend,R];rfl
   rw[show (sortPriv% PySem.Builtin.SortState.pending) e=pendingOf e from rfl,D];dsimp only;have F:min ((arrOf d).size-0) (cz (arrOf d).size (arrOf d).size 0)=32:=by omega
   have ap:(pendingOf e).push (0,min ((arrOf d).size-0) (cz (arrOf d).size (arrOf d).size 0),0) = #[(0,32,0)]:=by rw[f.pend,R,F];rfl
   have ec:((none:Option Unit),0+min ((arrOf d).size-0) (cz (arrOf d).size (arrOf d).size 0))=(none,32):=by rw[F]
   rw[F] at f C;have Rq:=f.size;obtain⟨_,q2,K⟩:=uc f.perm (by omega) f.same;have T:=vD C (by omega);rw[drop_zero] at K T;rw[drop_zero] at K;exact wpS_bind (wpS_modify (wpS_pure (.inr (.inl ⟨rfl,ec,⟨f.kind,f.good,f.fail.trans hf,by show 2<=gallopOf e;rw[f.Rw];exact Ol,f.perm,ap,K,T⟩,by simpa using q2⟩))))
  ·dsimp only;have YR:(arrOf d).size=(arrOf st).size:=H.perm.size_eq
   have W:∀ {k:Nat}{z:O.α},(S::b1::c1::r1)[k]?=some z->KX kf (arrOf d) (32+k)=z:=λ{k z} hz=>by
    have V:(arrOf d).toList[32+k]?=(arrOf st).toList[32+k]?:=by rw[← getElem?_drop,← getElem?_drop,hd]
    rw[yl (ys:=arrOf st) (j:=32+k) (by simpa using V)];exact lm (by rw[← getElem?_drop,YQ];exact hz)
   have u':O.blt (KX kf (arrOf d) 32) (KX kf (arrOf d) (32+1))=true:=by have:=W (k:=0) rfl;rw[Nat.add_zero] at this;rw[this,W (k:=1) rfl];exact u1
   rw[if_neg (show ¬ 32≥(arrOf st).size by omega)];refine wpS_bind (nR L H.kind H.good (by show 32+((arrOf st).size-32)<=(arrOf d).size;omega) (by show 2<=(arrOf st).size-32;omega) u' (.inr (by rw[W (k:=2) rfl,W (k:=1) rfl];exact d1)) ?_);dsimp only;rw[if_pos (show 2<cz (arrOf st).size (arrOf st).size 0 by omega)];refine wpS_bind (wpS_lift (wpAny_rule ⟨rfl,?_⟩));refine wpS_bind (iT (n:=min ((arrOf st).size-32) (cz (arrOf st).size (arrOf st).size 0)) (st0:=d) L ⟨H.kind,H.good,Array.Perm.refl _,rfl,rfl,rfl,λ_ _=>rfl⟩ (by omega) (by omega) (nJ u') λe f C=>?_);rw[if_neg (by decide)];refine wpS_bind (wpS_get ?_);have F:min ((arrOf st).size-32) (cz (arrOf st).size (arrOf st).size 0)=32:=by omega
   have D:(pendingOf e).back?=some (0,32,0):=by rw[f.pend,H.pend];rfl
   rw[show (sortPriv% PySem.Builtin.SortState.pending) e=pendingOf e from rfl,D];dsimp only;refine wpS_bind (ik (show 0<(arrOf st).size by omega) ?_);refine wpS_bind (wpS_get ?_);rw[show (sortPriv% PySem.Builtin.SortState.pending) e=pendingOf e from rfl,if_neg (show ¬ (pendingOf e).size > 1 by rw[f.pend,H.pend];decide)];refine wpS_pure ?_;dsimp only;have ap:∀ q,((pendingOf e).modify ((pendingOf e).size-1) λx=>(x.1,x.2.1,q)).push (32,min ((arrOf st).size-32) (cz (arrOf st).size (arrOf st).size 0),0) = #[(0,32,q),(32,32,0)]:=λq=>by rw[f.pend,H.pend,F];rfl
   have ec:((none:Option Unit),32+min ((arrOf st).size-32) (cz (arrOf st).size (arrOf st).size 0))=(none,64):=by rw[F]
   rw[F] at f C;have Rq:=f.size;obtain⟨q1,_,K⟩:=uc f.perm (by omega) f.same;have T:=vD C (by omega);have full:∀ zs:Array Keyed,zs.size=64->(zs.toList.drop 32).take 32=zs.toList.drop 32:=λzs hz=>take_of_length_le (by rw[length_drop,length_toList];omega);rw[full _ (by omega),full _ (by omega),hd] at K;rw[full _ (by omega)] at T;exact wpS_bind (wpS_modify (wpS_bind (wpS_modify (wpS_pure (.inr (.inr ⟨by omega,ec,_,⟨f.kind,f.good,f.fail.trans H.fail,by show 2<=gallopOf e;rw[f.Rw];exact H.Rw,f.perm.trans H.perm,ap _,by rw[show (arrOf e).toList.take 32=(arrOf d).toList.take 32 from q1];exact H.tk,by rw[show (arrOf e).toList.take 32=(arrOf d).toList.take 32 from q1];exact H.ts⟩,K,T⟩))))))
  dsimp only;rw[if_pos (show 64≥(arrOf st).size by omega)];exact wpS_pure ⟨rfl,q,H,hd⟩
 case p1 =>
  rintro c d ⟨rfl,q,H,hd,PZ⟩;dsimp only;have YR:(arrOf d).size=(arrOf st).size:=H.perm.size_eq
  have WW:∀ {M N:List Keyed}{Z:List O.α},M.Perm N->(N.map λp=>kf p.1).Perm Z->M.Pairwise (Kr O kf)->Z.Pairwise O.kle->M.map (λp=>kf p.1)=Z:=λ{M N Z} p1 p2 s1 s2 =>
   List.Perm.eq_of_pairwise (λ_ _ _ _=>A4) (pairwise_map.mpr s1) s2 ((p1.map _).trans p2)
  have hX:=WW H.tk (by unfold jV at pX;rw[← map_take] at pX;exact pX) H.ts sX;have hY:=WW hd (by unfold jV at pY;rw[← map_drop] at pY;exact pY) PZ sY;have l1:((arrOf d).toList.take 32).length=32:=by rw[length_take,length_toList];omega
  have l2:((arrOf d).toList.drop 32).length=32:=by rw[length_drop,length_toList];omega
  have gX:∀ i (o:i<32),kf (((arrOf d).toList.take 32)[i]'(by omega)).1=X[i]'(by omega):=λi o=>by simp only[← hX,List.getElem_map]
  have gY:∀ i (o:i<32),kf (((arrOf d).toList.drop 32)[i]'(by omega)).1=Y[i]'(by omega):=λi o=>by simp only[← hY,List.getElem_map]
  have YS:∀ i (o:i<32),O.blt (X[i]'(by omega)) (Y[i]'(by omega))=true:=λi o=>by have:=xy _ (getElem_mem (l:=X.zip Y) (n:=i) (by rw[List.length_zip];omega));rw[List.getElem_zip] at this;exact this
  have YT:∀ i (o:i+1<32),O.blt (Y[i]'(by omega)) (X[i+1]'(by omega))=true:=λi o=>by have:=yx _ (getElem_mem (l:=Y.zip X.tail) (n:=i) (by rw[List.length_zip,List.length_tail];omega));rw[List.getElem_zip,List.getElem_tail] at this;exact this
  refine wpS_bind (wpS_mono (wpS_forRange (I:=λy c m=>y=0/\c=(none,())/\m=d∨0<y/\c=(none,())/\failedOf m=none/\(pendingOf m).size=1/\Res O kf (arrOf d).toList (arrOf m).toList)
   (Q:=λc m=>c=(none,())/\failedOf m=none/\(pendingOf m).size=1/\Res O kf (arrOf d).toList (arrOf m).toList) ?s2 ?f2 (.inl ⟨rfl,rfl,rfl⟩)) ?p2)
  case f2 =>
   rintro c m (⟨u,_⟩ |⟨_,v⟩)
   ·have u:max 0 (arrOf st).size=0:=u;omega
   exact v
  case p2 =>
   rintro c m ⟨rfl,f2,_,r2⟩;refine wpS_pure (h m ((perm_iff_toList_perm.mpr r2.1).trans H.perm) f2 λi j _ Og hj=>?_);have WX:(arrOf m).size=(arrOf d).size:=by have:=r2.1.length_eq;simpa using this
   rw[nh (by omega),nh (by omega)];rcases lt_or_ge i j with JU |Si
   ·have:=pairwise_iff_getElem.mp r2.2 i j (by rw[length_toList];omega) (by rw[length_toList];omega) JU;simpa [Kr] using this
   obtain rfl:i=j:=by omega
   exact KeyOrd.kle_refl _
  case s2 =>
   rintro y c m _ hy (⟨rfl,rfl,rfl⟩ |⟨_,rfl,z⟩)
   ·refine wpS_bind (wpS_get ?_);rw[show (sortPriv% PySem.Builtin.SortState.pending) m=pendingOf m from rfl,H.pend,if_neg (show ¬ (#[(0,32,q),(32,32,0)]:Array (Nat×Nat×Nat)).size<=1 by show ¬ 2<=1;decide)];refine wpS_bind (tV (n:=32) L H.kind H.good H.fail H.Rw (by omega) H.pend (take_append_drop 32 _).symm l1 l2 H.ts PZ (λi o=>by rw[gX i o,gY i o];exact YS i o) (λi o=>by rw[gX (i+1) o,gY i (by omega)];exact YT i o) λe f3 p3 r3=>?_);rw[take_append_drop] at r3;exact wpS_pure (.inr ⟨by omega,rfl,f3,p3,r3⟩)
   refine wpS_bind (wpS_get ?_);rw[show (sortPriv% PySem.Builtin.SortState.pending) m=pendingOf m from rfl,if_pos (Nat.le_of_eq z.2.1)];exact wpS_pure ⟨rfl,z⟩
end
def xc (prog:Program)(w:World)(e:Shared)(vs:List Value)(O:KeyOrd)(kf:Value->O.α):Prop:=∃ c:SortKind,∀ (A:Around) (E:Ia) (a:Shared),(∀ b o,e.heap.get? b=some o->a.heap.get? b=some o) ->
 (2<=vs.length->∀ d:SortKind->Shared->Prop,d c a->wpAny (model prog w) A (keyKind' vs.toArray) d E a)/\vK prog w A E a c O kf (λp=>p.1∈vs)
theorem iO:∀ {vs:List Value}{p:Value×Value},p∈vs.zip vs->p.1=p.2/\p.1∈vs
 |[],_,h=>by simp at h
 |v::vs,p,h=>by
  rw[List.zip_cons_cons] at h;rcases mem_cons.mp h with e |h
  ·subst e;exact⟨rfl,by simp⟩
  obtain⟨a,b⟩:=iO h;exact⟨a,mem_cons_of_mem _ b⟩
theorem rh:∀ (vs:List Value),(vs.zip vs).map (·.2)=vs
 |[]=>rfl
 |v::vs=>by rw[List.zip_cons_cons,map_cons,rh vs]
section
variable {prog:Program}{w:World}{A:Around}{E:Ia}{s:Shared}{O:KeyOrd}{kf:Value->O.α}
theorem CC {vs:List Value}{xs:Array Keyed}(e:xs.Perm (pairsOf vs))(g:NZ kf xs 0 (pairsOf vs).size):(xs.map (·.2)).toList.Perm vs/\(xs.map (·.2)).toList.Pairwise λa b=>O.kle (kf a) (kf b):=by
 have c:=perm_iff_toList_perm.mp e;rw[pairsOf_toList] at c;refine⟨?_,?_⟩
 ·have:=c.map (·.2);rw[rh] at this;rw[Array.toList_map];exact this
 rw[Array.toList_map,pairwise_map,pairwise_iff_getElem];intro i j k n l;have f:i<xs.size:=by simpa using k
 have d:j<xs.size:=by simpa using n
 have q:=g i j (zero_le _) (le_of_lt l) (by rw[← e.size_eq];exact d);rw[nh f,nh d] at q;have h:=(iO (c.mem_iff.mp (getElem_mem_toList f))).1;have m:=(iO (c.mem_iff.mp (getElem_mem_toList d))).1;rw[h,m] at q;simpa using q
theorem uN {a:Addr}{vs:List Value}{n:Nat}{P:Fin->Shared->Prop}{l:Shared}(d:s.heap.get? a=some (seqObj "list" vs.toArray n))(z:vs.length<=sizeLine)(i:xc prog w l vs O kf)(sp:Spec O.blt (vs.map kf))(C:∀ b o,l.heap.get? b=some o->b≠a/\s.heap.get? b=some o)
  (h:∀ out:Array Value,out.toList.Perm vs->(out.toList.Pairwise λa b=>O.kle (kf a) (kf b))->P (.done (.ret .none)) { s with heap:=sortedHeap s.heap a vs out }) :
  wpAny (model prog w) A (Builtin.«list.sort» ⟨[.ref a],[]⟩) P E s:=by
 have M:a<s.heap.objs.size:=Heap.lt_size d;have L:vs.toArray.size<=sizeLine:=by simpa using z
 rw[list_sort_plain];refine wpAny_bind (listItems_at d rfl ?_);refine wpAny_bind (listUpdate_at d rfl ?_ (hsz:=L));have k:=get?_update_seq d (λ_ => #[]);refine wpAny_bind (seqEpoch_at k rfl ?_);refine wpAny_bind (wpAny_newTuple ?_);refine wpAny_bind (wpAny_newList ?_);refine wpAny_holding ?_;generalize N:(if (#[]:Array Value).size==vs.toArray.size then n else n+1)=e1 at k;have u:∀ b o,l.heap.get? b=some o->(((s.heap.update a (Obj.mapSeq λ_ => #[])).push (seqObj "tuple" vs.toArray 0)).push (seqObj "list" #[] 0)).get? b=some o:=by intro b o G;obtain⟨y,D⟩:=C b o G;refine Heap.get?_push_of_some _ (Heap.get?_push_of_some _ ?_);rw[Heap.get?_update_ne _ _ _ _ y];exact D
 have m:(((s.heap.update a (Obj.mapSeq λ_ => #[])).push (seqObj "tuple" vs.toArray 0)).push (seqObj "list" #[] 0)).get? a=some (seqObj "list" #[] e1):=Heap.get?_push_of_some _ (Heap.get?_push_of_some _ k);show wpAny (model prog w) A _ P E { s with heap:=((s.heap.update a (Obj.mapSeq λ_ => #[])).push (seqObj "tuple" vs.toArray 0)).push (seqObj "list" #[] 0) };dsimp only;have H : 2<=vs.length:=by obtain⟨a,b,r,e,_⟩:=sp;have:=congrArg List.length e;rw[length_map] at this;rw[this];simp
 have q:¬ vs.toArray.size<2:=by simp;omega
 rw[if_neg q,if_neg q];obtain⟨kd,i⟩:=i;refine wpAny_bind ((i A _ _ u).1 H _ ?_)
 refine wpAny_bind (wpAny_mono (pG (O:=O) (kf:=kf) (kd:=kd) (st:=SortSt.mk' kd (vs.toArray.zip vs.toArray) #[] 7 none) (Q:=λ_ c=>(arrOf c).Perm (pairsOf vs)/\failedOf c=none/\NZ kf (arrOf c) 0 (pairsOf vs).size)
  (i A _ _ u).2 rfl (λx B=>?_) rfl rfl (show 2<=7 by decide) ?_ λc K v I=>⟨K,v,I⟩) ?_ λ_ _ e=>e)
 ·have t:x∈(pairsOf vs).toList:=B;rw[pairsOf_toList] at t;exact(iO t).2
 ·have:jV kf (pairsOf vs)=vs.map kf:=by
   unfold jV;rw[pairsOf_toList];exact(map_congr_left λp j=>by rw[(iO j).1];rfl).trans ((map_map (g:=kf) (f:=λp:Value×Value=>p.2)).symm.trans (by rw[rh]))
  show Spec O.blt (jV kf (pairsOf vs));rw[this];exact sp
 rintro⟨⟨⟩,c⟩ R ⟨rfl,j,F,J⟩;dsimp only;obtain⟨o1,o2⟩:=CC j J;refine wpAny_bind (seqEpoch_at m rfl ?_);refine wpAny_bind (listUpdate_at m rfl ?_ (hsz2:=by refine Nat.le_trans (Nat.le_of_eq ((Array.size_map ..).trans (j.size_eq.trans (pairsOf_size _)))) ?_;omega));rw[F];simp only[bne_self_eq_false,false_eq_true,if_false];exact wpAny_pure (h _ o1 o2)
theorem B6 {x:Value}{Q:Ia}
  (h:wpAny (model prog w) A.in1 (collect x) (λvs c=>vs.length<=sizeLine/\∃ (O:KeyOrd) (kf:Value->O.α),xc prog w c vs O kf/\Spec O.blt (vs.map kf) /\
   ∀ (out:Array Value) h' ep,out.toList.Perm vs->(out.toList.Pairwise λa b=>O.kle (kf a) (kf b))->(∀ b o,c.heap.get? b=some o->h'.get? b=some o)->h'.get? c.heap.objs.size=some (seqObj "list" out ep) ->
    Q (.ref c.heap.objs.size) { c with heap:=h' }) E s):wpAny (model prog w) A (call (.builtin "sorted") [x]) Q E s:=by
 refine Calls.call_function_entry kind_sorted plain_sorted entry_sorted (args_sorted1 _) ?_;unfold Builtin.«sorted»;refine wpAny_bind (m:=checkCount "sorted" 1 1 _) (wpAny_pure ?_);refine wpAny_bind (wpAny_mono h (λvs c Zq=>?_) λ_ _ z=>z);obtain⟨g,O,kf,i,k,q⟩:=Zq;refine wpAny_bind (wpAny_newList ?_);have d:(c.heap.push (seqObj "list" vs.toArray 0)).get? c.heap.objs.size=some (seqObj "list" vs.toArray 0):=Heap.get?_push_size _ rfl;refine wpAny_bind (wpAny_holding (wpAny_call_entry slot_list_sort ⟨_,d,rfl⟩ entry_list_sort (uN d g i k (λb o e=>⟨ne_of_lt (Heap.lt_size e),Heap.get?_push_of_some _ e⟩) λout j f=>⟨_,rfl,?_⟩) (args_list_sort _)));obtain⟨ep,l⟩:=sortedHeap_at (out:=out) d
 exact wpAny_pure ⟨_,rfl,q out _ ep j f (λb o e=>by
  rw[sortedHeap_old (ne_of_lt (Heap.lt_size e)) (by rw[size_push'];exact lt_succ_of_lt (Heap.lt_size e))]
  exact Heap.get?_push_of_some _ e) l⟩
end
structure Q5 where
 O:KeyOrd
 keyOf:Value->Option O.α
 dflt:O.α
 ty:String
 nt:(Value.type ty != Value.type "tuple")=true
 typ:∀ v a,keyOf v=some a->typeOf v=pure (.type ty)
 fst:∀ v a,keyOf v=some a->firstOfTuple' v=pure none
 eqB:∀ {prog:Program}{w:World}{A:Around}{E:Ia}{s:Shared}{x y:Value}{a b:O.α}{Q:Bool->Shared->Prop},keyOf x=some a->keyOf y=some b->Q (!O.blt a b&&!O.blt b a) s->wpAny (model prog w) A (eqBool x y) Q E s
 lt:∀ {prog:Program}{w:World}{A:Around}{E:Ia}{s:Shared}{x y:Value}{a b:O.α}{Q:Bool->Shared->Prop}(o:Bool),keyOf x=some a->keyOf y=some b->Q (O.blt a b) s->wpAny (model prog w) A (oneLt' o x y) Q E s
def Ke:KeyOrd where
 α:=Int
 blt a b:=decide (a<b)
 irrefl a:=by simp
 trans a b c h1 h2:=by simp only[decide_eq_true_eq] at *;omega
 negTrans a b c h:=by simp only[decide_eq_true_eq] at *;omega
 total a b h1 h2:=by simp only[decide_eq_false_iff_not] at *;omega
theorem C8 (i j:Int):(i==j)=(!decide (i<j)&&!decide (j<i)):=by
 by_cases a:i=j
 ·subst a;simp
 have:i<j∨j<i:=by omega
 rcases this with h1 |h1<;>simp[a,h1]
def FZ (v:Value):Option Int:=match v with | .int i _=>some i |_=>none
theorem jz {v:Value}{i:Int}(h:FZ v=some i):∃ t,v = .int i t:=by
 cases v<;>first |(cases h;done) |skip
 cases h;exact⟨_,rfl⟩
def LI:Q5 where
 O:=Ke
 keyOf:=FZ
 dflt:=(0:Int)
 ty:="int"
 nt:=by decide
 typ v a h:=by obtain⟨t,rfl⟩:=jz h;rfl
 fst v a h:=by obtain⟨t,rfl⟩:=jz h;rfl
 eqB {prog w A E s x y a b Q} ha hb h:=by
  obtain⟨t,rfl⟩:=jz ha;obtain⟨u,rfl⟩:=jz hb;exact wpAny_eqBool_int (Eq.mpr (congrArg (λz=>Q z s) (C8 a b)) h)
 lt {prog w A E s x y a b Q} o ha hb h:=by
  obtain⟨t,rfl⟩:=jz ha;obtain⟨u,rfl⟩:=jz hb;cases o with
  |true=>exact oneLt_int h
  |false =>
   rw[oneLt'_eq];simp only[false_eq_true,if_false];exact wpAny_bind (show wpAny _ _ (compareOp .Lt (.int _ t) (.int _ u)) _ _ _ from PyProof.Rows.lt_int (wpAny_truthy_bool h))
def dC (O:KeyOrd):List O.α->List O.α->Bool
 |[],[]=>false
 |[],_::_=>true
 |_::_,[]=>false
 |a::as,b::bs=>if (!O.blt a b&&!O.blt b a)=true then dC O as bs else O.blt a b
theorem qN {O:KeyOrd}{a b:O.α}(h:(!O.blt a b&&!O.blt b a)=true):a=b:=by rw[and_eq_true] at h;exact O.total _ _ (by simpa using h.1) (by simpa using h.2)
theorem uB {O:KeyOrd}(a:O.α):(!O.blt a a&&!O.blt a a)=true:=by rw[O.irrefl];rfl
theorem dc {O:KeyOrd}(a:O.α)(as bs:List O.α):dC O (a::as) (a::bs)=dC O as bs:=by rw[dC,if_pos (uB a)]
theorem b9 {O:KeyOrd}{a b:O.α}(as bs:List O.α)(h:a≠b):dC O (a::as) (b::bs)=O.blt a b:=by rw[dC,if_neg (λz=>h (qN z))]
theorem yV {O:KeyOrd}{a b:O.α}(h:O.blt a b=true):a≠b:=λz=>by subst z;rw[O.irrefl] at h;cases h
def uO (O:KeyOrd):KeyOrd where
 α:=List O.α
 blt:=dC O
 irrefl a:=by
  induction a with
  |nil=>rfl
  |cons x a j=>rw[dc];exact j
 trans a:=by
  induction a with
  |nil =>
   intro b c f d;cases b with
   |nil=>cases f
   |cons y b=>cases c with
    |nil=>cases d
    |cons z c=>rfl
  |cons x a j =>
   intro b c f d;cases b with
   |nil=>cases f
   |cons y b=>cases c with
    |nil=>cases d
    |cons z c =>
     by_cases i:x=y
     ·subst i;rw[dc] at f;by_cases g:x=z
      ·subst g;rw[dc] at d ⊢;exact j b c f d
      rw[b9 _ _ g] at d ⊢;exact d
     rw[b9 _ _ i] at f;by_cases g:y=z
     ·subst g;rw[b9 _ _ i];exact f
     rw[b9 _ _ g] at d;have k:=O.trans _ _ _ f d;rw[b9 _ _ (yV k)];exact k
 negTrans a:=by
  induction a with
  |nil =>
   intro b c h;cases c with
   |nil=>cases h
   |cons z c=>cases b with
    |nil=>exact .inr rfl
    |cons y b=>exact .inl rfl
  |cons x a j =>
   intro b c h;cases c with
   |nil=>cases h
   |cons z c=>cases b with
    |nil=>exact .inr rfl
    |cons y b =>
     by_cases i:x=z
     ·subst i;rw[dc] at h;by_cases g:x=y
      ·subst g;rw[dc,dc];exact j b c h
      rw[b9 _ _ g,b9 _ _ (Ne.symm g)];cases f:O.blt x y with
      |true=>exact .inl rfl
      |false=>cases d:O.blt y x with
       |true=>exact .inr rfl
       |false=>exact absurd (O.total _ _ f d) g
     rw[b9 _ _ i] at h;by_cases g:x=y
     ·subst g;rw[b9 _ _ i];exact .inr h
     by_cases l:y=z
     ·subst l;rw[b9 _ _ g];exact .inl h
     rw[b9 _ _ g,b9 _ _ l];exact O.negTrans _ _ _ h
 total a:=by
  induction a with
  |nil =>
   intro b f d;cases b with
   |nil=>rfl
   |cons y b=>cases f
  |cons x a j =>
   intro b f d;cases b with
   |nil=>cases d
   |cons y b =>
    by_cases e:x=y
    ·subst e;rw[dc] at f d;rw[j b f d]
    rw[b9 _ _ e] at f;rw[b9 _ _ (Ne.symm e)] at d;exact absurd (O.total _ _ f d) e
inductive KeysAre (κ:Q5):List Value->List κ.O.α->Prop
 |nil:KeysAre κ [] []
 |cons {v:Value}{a : κ.O.α}{vs:List Value}{as:List κ.O.α} : κ.keyOf v=some a->KeysAre κ vs as->KeysAre κ (v::vs) (a::as)
def L6 (b:Q5)(h:Heap)(v:Value)(as:List b.O.α):Prop:=∃ a o its n,v = .ref a/\h.get? a=some o/\o.cls = .type "tuple"/\o.data = .seq its n/\KeysAre b its.toList as
theorem L6.keeps {c:Q5}{h h':Heap}{v:Value}{as:List c.O.α}(t:L6 c h v as)(k:∀ b o,h.get? b=some o->h'.get? b=some o):L6 c h' v as:=by obtain⟨a,o,its,n,e,d,f,hd,g⟩:=t;exact⟨a,o,its,n,e,k _ _ d,f,hd,g⟩
section
variable {prog:Program}{w:World}{A:Around}{E:Ia}{s:Shared}{κ:Q5}
theorem rj {f:Bool}{x y:Value}{as bs:List κ.O.α}{Q:Bool->Shared->Prop}(M:L6 κ s.heap x as)(V:L6 κ s.heap y bs)(q:Q (dC κ.O as bs) s):wpAny (model prog w) A (keyLt' (tuples' f) x y) Q E s:=by
 obtain⟨a,o,F,n,rfl,P,hc,hd,U⟩:=M;obtain⟨b,o2,H,n2,rfl,N,Na,C,T⟩:=V;refine wpAny_bind (listItems_at P hd ?_);refine wpAny_bind (listItems_at N C ?_);refine wpAny_bind ?_;refine wpAny_forIn_list _ (λrest r B=>r.1=none/\B=s/\∃ k h j p t,rest=(List.zip h j).zipIdx k/\KeysAre κ h p/\KeysAre κ j t/\dC κ.O p t=dC κ.O as bs/\decide (h.length<j.length)=decide (F.size<H.size)) _ ?_ ?_ _ _ ⟨rfl,rfl,0,F.toList,H.toList,as,bs,rfl,U,T,rfl,by simp⟩
 ·rintro⟨⟨u,v⟩,i⟩ rest r B ⟨D,rfl,k,h,j,p,t,d,G,z,g,c⟩;cases G with
  |nil=>simp at d
  | @cons Z l L W I K =>
   cases z with
   |nil=>simp at d
   | @cons v' m Y S J R =>
    rw[List.zip_cons_cons,zipIdx_cons] at d;simp only[List.cons.injEq,Prod.mk.injEq] at d;obtain⟨⟨⟨rfl,rfl⟩,rfl⟩,rfl⟩:=d;refine wpAny_bind (κ.eqB I J ?_);by_cases e:l=m
    ·subst e;rw[uB];simp only[Bool.not_true,false_eq_true,if_false];rw[dc] at g;exact wpAny_pure ⟨rfl,rfl,i+1,L,Y,W,S,rfl,K,R,g,by rw[← c];simp⟩
    have X:(!κ.O.blt l m&&!κ.O.blt m l)=false:=by
     cases hb:(!κ.O.blt l m&&!κ.O.blt m l) with
     |false=>rfl
     |true=>exact absurd (qN hb) e
    rw[X];simp only[Bool.not_false,if_true];rw[b9 _ _ e] at g;refine wpAny_bind (κ.lt _ I J ?_);rw[g];exact wpAny_pure (wpAny_pure q)
 rintro⟨r1,r2⟩ B ⟨D,rfl,k,h,j,p,t,d,G,z,g,c⟩;simp only at D;subst D;refine wpAny_pure ?_;show Q (decide (F.size<H.size)) B;rw[← c]
 have e:decide (h.length<j.length)=dC κ.O p t:=by
  cases G with
  |nil=>cases z with
   |nil=>rfl
   |cons _ _=>simp[dC]
  |cons _ _=>cases z with
   |nil=>simp[dC]
   |cons _ _=>simp at d
 rw[e,g];exact q
theorem AV:∀ {vs:List Value}{as:List κ.O.α},KeysAre κ vs as->vs.mapM firstOfTuple'=pure (vs.map λ_=>none)
 |_,_,.nil=>by simp
 |_,_,.cons h r=>by rw[mapM_cons,κ.fst _ _ h,AV r];simp
theorem uL:∀ {vs:List Value}{as:List κ.O.α},KeysAre κ vs as->vs.mapM typeOf=pure (vs.map λ_=>Value.type κ.ty)
 |_,_,.nil=>by simp
 |_,_,.cons h r=>by rw[mapM_cons,κ.typ _ _ h,uL r];simp
theorem FS {vs:List Value}{as:List κ.O.α}(h:KeysAre κ vs as)(c : 0<vs.length):oneTypeOnly' vs.toArray=pure (some (.type κ.ty)):=by
 rw[oneTypeOnly'_eq,List.mapM_toArray,uL h];simp only[map_pure,pure_bind];have b:((List.map (λ_=>Value.type κ.ty) vs).toArray.all λx=>x==Value.type κ.ty)=true:=by simp only[List.all_toArray,List.all_map,all_eq_true];intro _ _;simp
 have a:(List.map (λ_=>Value.type κ.ty) vs).toArray[0]?=some (Value.type κ.ty):=by
  cases vs with
  |nil=>simp at c
  |cons v vs=>simp
 rw[a];simp only[b,if_true]
inductive Ja (κ:Q5) (h:Heap):List Value->List (List κ.O.α)->Prop
 |nil:Ja κ h [] []
 |cons {v:Value}{a : κ.O.α}{as:List κ.O.α}{vs:List Value}{N0:List (List κ.O.α)}:L6 κ h v (a::as)->Ja κ h vs N0->Ja κ h (v::vs) ((a::as)::N0)
theorem Ja.keeps {h h':Heap}{vs:List Value}{a:List (List κ.O.α)}(t:Ja κ h vs a)(k:∀ b o,h.get? b=some o->h'.get? b=some o):Ja κ h' vs a:=by
 induction t with
 |nil=>exact .nil
 |cons q _ c=>exact .cons (q.keeps k) c
theorem Ja.mem {h:Heap}{vs:List Value}{b:List (List κ.O.α)}(t:Ja κ h vs b){v:Value}(hv:v∈vs):∃ as,L6 κ h v as:=by
 induction t with
 |nil=>simp at hv
 |cons q _ a =>
  rcases mem_cons.mp hv with e |hv
  ·subst e;exact⟨_,q⟩
  exact a hv
theorem zr {v:Value}{a : κ.O.α}{as:List κ.O.α}{Q:Option Value->Shared->Prop}(t:L6 κ s.heap v (a::as))(q:∀ u,κ.keyOf u=some a->Q (some u) s):wpAny (model prog w) A (firstOfTuple' v) Q E s:=by
 obtain⟨b,o,its,n,rfl,c,g,hd,d⟩:=t;generalize f:its.toList=l at d;cases d with
 | @cons u _ h _ k r =>
  refine wpAny_bind (wpAny_typeOf ⟨o,c,g⟩ ?_);rw[if_neg (by decide)];refine wpAny_bind (listItems_at c hd (wpAny_pure ?_));have e:its[0]?=some u:=by rw[← getElem?_toList,f];rfl
  rw[e];exact q u k
theorem y7 {vs:List Value}{e:List (List κ.O.α)}(t:Ja κ s.heap vs e):∀ {Q:List (Option Value)->Shared->Prop},(∀ us as,KeysAre κ us as->us.length=vs.length->Q (us.map some) s)->wpAny (model prog w) A (vs.mapM firstOfTuple') Q E s:=by
 induction t with
 |nil=>intro Q q;exact wpAny_pure (q [] [] .nil rfl)
 |cons h _ a =>
  intro Q q;rw[mapM_cons];refine wpAny_bind (zr h λu b=>wpAny_bind (a λus as d c=>wpAny_pure ?_));exact q (u::us) (_::as) (.cons b d) (by simp[c])
theorem filterMap_some:∀ (us:List Value),((us.map some).toArray.filterMap id)=us.toArray:=by
 intro us;rw[List.filterMap_toArray];congr 1
 induction us with
 |nil=>rfl
 |cons u us a=>simp[a]
theorem zd {vs:List Value}{c:List (List κ.O.α)}(t:Ja κ s.heap vs c)(d : 0<vs.length){Q:SortKind->Shared->Prop}(q:Q (tuples' true) s):wpAny (model prog w) A (keyKind' vs.toArray) Q E s:=by
 rw[keyKind'_eq,List.mapM_toArray];refine wpAny_bind (wpAny_bind (y7 t λa f b g=>wpAny_pure ?_));have e:((a.map some).toArray.all λx=>x.isSome)=true:=by simp
 show wpAny _ _ (if ((a.map some).toArray.all λx=>x.isSome)=true then _ else _) _ _ _;rw[if_pos e];refine wpAny_bind (wpAny_rule ?_);rw[filterMap_some,FS b (by omega)];refine wpAny_bind (wpAny_pure (wpAny_pure ?_));show Q (tuples' (Value.type κ.ty != Value.type "tuple")) s;rw[κ.nt];exact q
def Rx (κ:Q5)(h:Heap)(v:Value):List κ.O.α:=match v with
 | .ref a=>(match h.get? a with
  |some o=>(match o.data with
   | .seq its _=>its.toList.map λu=>(κ.keyOf u).getD κ.dflt
   |_=>[])
  |none=>[])
 |_=>[]
theorem KeysAre.PN {vs:List Value}{as:List κ.O.α}(h:KeysAre κ vs as):vs.map (λu=>(κ.keyOf u).getD κ.dflt)=as:=by
 induction h with
 |nil=>rfl
 |cons k _ a=>rw[map_cons,k,a];rfl
theorem wJ {h:Heap}{v:Value}{as:List κ.O.α}(t:L6 κ h v as):Rx κ h v=as:=by obtain⟨b,o,its,n,rfl,a,d,hd,c⟩:=t;unfold Rx;dsimp only;rw[a];dsimp only;rw[hd];exact c.PN
theorem t7 {a:Shared}{vs:List Value}{d:List (List κ.O.α)}(t:Ja κ a.heap vs d):xc prog w a vs (uO κ.O) (Rx κ a.heap):=by refine⟨tuples' true,λA E i k=>⟨λj l q=>zd (t.keeps k) (by omega) q,λx y f g st Q e q=>?_⟩⟩;obtain⟨h,c⟩:=t.mem f;obtain⟨bs,b⟩:=t.mem g;rw[wJ c,wJ b] at q;rw[lt'_eq];refine wpS_bind (wpS_get ?_);rw[e];exact wpS_bind (wpS_lift (wpAny_attempt (rj (c.keeps k) (b.keeps k) ⟨rfl,wpS_pure q⟩)))
end
end L2
namespace L2
open PySem PySem.Spec PyProof.Rows PySem.W
section
variable {X:Cx}{W:WT}
def tupI:D->Option (List Int)
 | .tup a=>match ck a with
  |some (n::ns)=>some (n::ns)
  |_=>none
 |_=>none
def vH {α:Type}(f:D->Option α):List D->Option (List α)
 |[]=>some []
 |d::r=>(f d).bind λa=>(vH f r).map (a::·)
def oJ {α:Type}(lt : α->α->Bool):List α->List α->Bool
 |[],[]=>false
 |[],_::_=>true
 |_::_,[]=>false
 |a::as,b::bs=>if (!lt a b&&!lt b a)=true then oJ lt as bs else lt a b
def wF (a b:List Int):Bool:=!oJ (λx y=>decide (x<y)) b a
noncomputable def rH:List D->Option D
 |[.lst xs]=>(vH tupI xs).bind λa => @ite _ (xs.length<=sizeLine/\Spec (oJ λ(x y:Int)=>decide (x<y)) a) (Classical.propDecidable _) (some (.lst ((a.mergeSort wF).map λns => .tup (ns.map .int)))) none
 |_=>none
theorem r6 (O:PyProof.Rows.KeyOrd):∀ as bs:List O.α,dC O as bs=oJ O.blt as bs
 |[],[]=>rfl
 |[],_::_=>rfl
 |_::_,[]=>rfl
 |a::as,b::bs=>by rw[dC,oJ,r6 O as bs]
theorem yN {K:H_}{H:Hp}{J:List Addr}{out us:List Value}(p:out.Perm us):∀ {vs:List V}{ds:List D},Vals vs us->Il K H J ds vs->∃ e f,Vals e out/\Il K H J f e/\f.Perm ds:=by
 induction p with
 |nil=>intro vs ds r m;exact⟨vs,ds,r,m,.refl _⟩
 |cons x p C =>
  intro vs ds r m;cases r with
  | @cons v _ A _ g h =>
   cases ds with
   |nil=>cases Il.Io.mp m
   |cons d ds =>
    obtain⟨m1,m2⟩:=m.Iq;obtain⟨e,f,a,b,c⟩:=C h m2;exact⟨v::e,d::f,.cons g a,.cons m1 b,.cons d c⟩
 |swap x y l =>
  intro vs ds r m;cases r with
  | @cons v _ A _ g h=>cases h with
   | @cons z _ B _ w k =>
    cases ds with
    |nil=>cases Il.Io.mp m
    |cons d ds=>cases ds with
     |nil=>obtain⟨_,m2⟩:=m.Iq;cases Il.Io.mp m2
     |cons i ds =>
      obtain⟨m1,m2⟩:=m.Iq;obtain⟨E,t⟩:=m2.Iq;exact⟨z::v::B,i::d::ds,.cons w (.cons g k),.cons E (.cons m1 t),.swap d i ds⟩
 |trans _ _ q I =>
  intro vs ds r m;obtain⟨o,s,a,b,c⟩:=I r m;obtain⟨G,F,j,n,u⟩:=q a b;exact⟨G,F,j,n,u.trans c⟩
theorem vF {α:Type}{f:D->Option α}{g : α->D}(b:∀ d a,f d=some a->d=g a):∀ {ds:List D}{as:List α},vH f ds=some as->ds=as.map g
 |[],as,h=>by cases h;rfl
 |d::ds,as,h=>by
  obtain⟨a,e,j⟩:=bind_eq_some_iff.mp (show (f d).bind _=some as from h);obtain⟨r,i,c⟩:=map_eq_some_iff.mp j;subst c;rw[map_cons,b d a e,vF b i]
theorem vG {α:Type}{f:D->Option α}:∀ {ds:List D}{as:List α},vH f ds=some as->∀ a∈as,∃ d,f d=some a
 |[],as,h,a,ha=>by cases h;simp at ha
 |d::ds,as,h,a,ha=>by
  obtain⟨b,g,j⟩:=bind_eq_some_iff.mp (show (f d).bind _=some as from h);obtain⟨r,i,c⟩:=map_eq_some_iff.mp j;subst c;rcases mem_cons.mp ha with e |ha
  ·subst e;exact⟨d,g⟩
  exact vG i a ha
theorem xk {d:D}{ns:List Int}(h:tupI d=some ns):d = .tup (ns.map .int)/\ns≠[]:=by
 unfold tupI at h;split at h
 ·split at h
  ·rename_i e;cases h;rw[fN e];exact⟨rfl,by simp⟩
  cases h
 cases h
theorem Aw {α:Type}{g : α->D}{l:List D}{as:List α}(h:l.Perm (as.map g)):∃ bs:List α,l=bs.map g/\bs.Perm as:=by
 generalize e:as.map g=l2 at h
 induction h generalizing as with
 |nil=>cases as with
  |nil=>exact⟨[],rfl,.refl _⟩
  |cons a as=>cases e
 |cons x p n=>cases as with
  |nil=>cases e
  |cons a as =>
   rw[map_cons] at e;obtain⟨rfl,j⟩:=List.cons.inj e;obtain⟨bs,d,c⟩:=n j;exact⟨a::bs,by rw[map_cons,d],.cons a c⟩
 |swap x y l=>cases as with
  |nil=>cases e
  |cons a as=>cases as with
   |nil=>simp at e
   |cons b as =>
    simp only[map_cons,List.cons.injEq] at e;obtain⟨rfl,rfl,rfl⟩:=e;exact⟨b::a::as,rfl,.swap a b as⟩
 |trans _ _ i o =>
  obtain⟨bs,d,c⟩:=o e;obtain⟨m,f,k⟩:=i (as:=bs) d.symm;exact⟨m,f,k.trans c⟩
theorem qz:∀ {us:List Value}{ns:List Int},IntsAre us ns->KeysAre LI us ns
 |_,_,.nil => .nil
 |_,_,.cons n t r => .cons rfl (qz r)
section
variable {X:Cx}{pins:Ib}{σ:St}{H:Hp}{s:Shared}{J:List Addr}
theorem B1 (I:Inv X pins σ H s){ns:List Int}{v:V}{u:Value}(m:At X.K H J (.tup (ns.map .int)) v)(r:RelV v u):L6 LI s.heap u ns:=by obtain⟨a,f,rfl,q,z⟩:=At.IC.mp m;cases r;obtain⟨its,b,⟨o,c,d,n,hd⟩,_⟩:=I.tuple q.sq;have e:=Il.K5 z;subst e;exact⟨a,o,its.toArray,n,rfl,c,d,hd,by simpa using qz (intsAre_of b)⟩
theorem nU (I:Inv X pins σ H s):∀ {c:List (List Int)}{vs:List V}{us:List Value},(∀ ns∈c,ns≠[])->Il X.K H J (c.map λns => .tup (ns.map .int)) vs->Vals vs us->Ja LI s.heap us c/\us.map (Rx LI s.heap)=c
 |[],vs,us,_,m,r=>by cases Il.Io.mp m;cases r;exact⟨.nil,rfl⟩
 |ns::c,vs,us,h0,m,r=>by
  obtain⟨v,g,rfl,m1,m2⟩:=Il.Ik.mp m;cases r with
  |cons e f =>
   obtain⟨a,b⟩:=nU I (λx d=>h0 x (mem_cons_of_mem _ d)) m2 f;have t:=B1 I m1 e;have ne:=h0 ns (mem_cons_self ..);cases ns with
   |nil=>exact absurd rfl ne
   |cons n ns=>exact⟨.cons t a,by rw[map_cons,wJ t,b];rfl⟩
end
theorem AZ {j:Type}{O:PyProof.Rows.KeyOrd}{key : j->List O.α}(inj:∀ a b,key a=key b->a=b){l i:List j}(o:i.Perm l)(n:i.Pairwise λa b=>(uO O).kle (key a) (key b)):i=l.mergeSort λa b => !dC O (key b) (key a):=by
 refine List.Perm.eq_of_pairwise (le:=λa b=>(!dC O (key b) (key a))=true) (λa b _ _ h g=>inj _ _ ?_) (n.imp λh=>?_) (pairwise_mergeSort (λa b c h g=>?_) (λa b=>?_) l) (o.trans (mergeSort_perm l _).symm)
 ·have m:dC O (key a) (key b)=false:=by simpa using g
  have f:dC O (key b) (key a)=false:=by simpa using h
  exact(uO O).total _ _ m f
 ·have f:dC O _ _=false:=h;rw[f];rfl
 ·have e:(uO O).kle (key a) (key b):=by show dC O (key b) (key a)=false;simpa using h
  have d:(uO O).kle (key b) (key c):=by show dC O (key c) (key b)=false;simpa using g
  have k:dC O (key c) (key a)=false:=PyProof.Rows.KeyOrd.kle_trans e d;rw[k];rfl
 cases e:dC O (key b) (key a) with
 |false=>rfl
 |true =>
  have d:dC O (key a) (key b)=false:=PyProof.Rows.KeyOrd.klt_asymm (O:=uO O) e;rw[d];rfl
theorem Bv:lw X (.builtin "sorted") rH:=by
 intro N s σ H xs us Q I r h;obtain⟨J,ds,d,hJ,m,e,q⟩:=h;unfold rH at e;split at e
 ·rename_i ys;obtain⟨g,es,e⟩:=bind_eq_some_iff.mp e;split at e
  ·rename_i C;obtain⟨C,W⟩:=C;cases e;obtain⟨v,w,rfl,a,n⟩:=Il.Ik.mp m;cases Il.Io.mp n;obtain⟨p,zs,rfl,t,z⟩:=At.ID.mp a;obtain⟨u,rfl,R⟩:=vals1 r;cases R;obtain⟨its,j,⟨o,nn,ho,hc,_,hd⟩,T⟩:=I.list t.sq;have ed:=vF (λd a h=>(xk h).1) es;have ne:∀ ns∈g,ns≠[]:=λns hn=>let ⟨d,h⟩:=vG es ns hn;(xk h).2;subst ed;have K:its.length<=sizeLine:=by rw[← j.length,← z.length];exact C
   refine B6 (wpAny_collect_seq p (.inl rfl) ho hc hd (λE k=>?_) (by rw[size_toArray,← j.length];exact T));have c:=I.kept (t':=s.toks) k;obtain⟨P,Vt⟩:=nU c ne z j;have B:dC Ke=oJ (λ(x y:Int)=>decide (x<y)):=by funext a b;exact r6 Ke a b
   refine⟨by simpa using K,uO LI.O,Rx LI E,t7 (by simpa using P),?_,λo h2 ep i hs U NB=>?_⟩
   ·have YZ : @Spec (List Ke.α) (dC Ke) g:=Eq.mpr (congrArg (λf => @Spec (List Int) f g) B) W;have WU:List.map (Rx LI E) its.toArray.toList=g:=by simpa using Vt
    exact Eq.mpr (congrArg (λl => @Spec (List Ke.α) (dC Ke) l) WU) YZ
   have i:o.toList.Perm its:=by simpa using i
   obtain⟨M,WZ,A,G,V⟩:=yN i j z;obtain⟨L,Y,F⟩:=Aw V;subst Y;have hk:=(nU c (λx S=>ne x (F.mem_iff.mp S)) G A).2;have Z:L.Pairwise λa b=>(uO Ke).kle a b:=by have:=pairwise_map.mpr hs;rw[hk] at this;exact this
   have B:(λ(a b:List Int) => !dC Ke b a)=wF:=by funext a b;unfold wF;exact congrArg Bool.not (r6 Ke b a)
   have Sh:L=g.mergeSort wF:=by rw[← B];exact AZ (O:=Ke) (key:=λ(a:List Int)=>a) (λa b h=>h) F Z
   subst Sh;have D:M.length<=sizeLine:=by rw[A.length,i.length_eq];exact K
   exact⟨.ref _,_,c.laid (t':=s.toks) (o:=.lst M) U (le_refl _) ⟨D,o.toList,ep,A,by simpa using NB⟩,rfl,q _ _ (aQ c.fresh _) (At.JM G c.fresh hJ D)⟩
  cases e
 cases e
end
end L2
namespace L2
open PySem PyProof.Rows
section
variable (f g:H9 D) (ρ:Ih) (S:Ig) (i:Nat) (k:Bool)
@[simp] theorem HJ (d:D):aB d ρ S=Ip d S:=rfl
@[simp] theorem HL (a:D->D->Option D):aI a f g ρ S=ah (f ρ S) λx b=>ah (g ρ b) λy S2=>aP (a x y) S2:=rfl
@[simp] theorem HQ (a:D->Option D):NT a f ρ S=ah (f ρ S) λx b=>aP (a x) b:=rfl
@[simp] theorem Gc:aT f ρ S=ah (f ρ S) λx a=>aP (Mc x) a:=rfl
@[simp] theorem GD (a b:D->D->Option D)(h:H9 D):mw a b f g h ρ S=ah (f ρ S) λx d=>ah (g ρ d) λy S2=>ah (aP ((a x y).bind Mc) S2) λk c=>if k=true then ah (h ρ c) λz e=>aP (b y z) e else Ip (.bl false) c:=rfl
@[simp] theorem Hj (a b:H9 Bool):ye a b ρ S=ah (a ρ S) λk c=>if k=true then b ρ c else Ip false c:=rfl
@[simp] theorem Hw (a b:H9 Bool):pz a b ρ S=ah (a ρ S) λk c=>if k=true then Ip true c else b ρ c:=rfl
@[simp] theorem G6 (a:H9 Bool):hV a ρ S=ah (a ρ S) λk b=>Ip (!k) b:=rfl
@[simp] theorem HN:vz f g ρ S=ah (f ρ S) λx a=>ah (aP (Mc x) a) λk S2=>if k=true then g ρ S2 else Ip (.bl false) S2:=rfl
@[simp] theorem HS:XS f g ρ S=ah (f ρ S) λx a=>ah (aP (Mc x) a) λk S2=>if k=true then Ip (.bl true) S2 else g ρ S2:=rfl
@[simp] theorem Hx:E_ f ρ S=ah (f ρ S) λx a=>ah (aP (Mc x) a) λk S2=>Ip (.bl (!k)) S2:=rfl
@[simp] theorem HE (t:H9 Bool):vy t f g ρ S=ah (t ρ S) λk a=>if k=true then f ρ a else g ρ a:=rfl
@[simp] theorem Gf:aA ρ S=Ip [] S:=rfl
@[simp] theorem E4 (t:H9 (List D)):ag f t ρ S=ah (f ρ S) λd a=>ah (t ρ a) λds S2=>Ip (d::ds) S2:=rfl
@[simp] theorem Hr (t:H9 (List D)):mj t ρ S=ah (t ρ S) λds a=>aP (Lp ds (.tup ds)) a:=rfl
@[simp] theorem HB (t:H9 (List D)):ml t ρ S=ah (t ρ S) λds a=>aP (Lp ds (.lst ds)) a:=rfl
@[simp] theorem Hh (h:List D->Option D)(t:H9 (List D)):a9 h t ρ S=ah (t ρ S) λds a=>aP (h ds) a:=rfl
@[simp] theorem G7:b7 ρ S=Ip (.next ρ) S:=rfl
@[simp] theorem DI (a b:H9 Fl):aM a b ρ S=ah (a ρ S) λe d=>match e with
 | .next c=>b c d
 |o=>Ip o d:=rfl
@[simp] theorem Hu:aX f ρ S=ah (f ρ S) λd a=>Ip (.ret d) a:=rfl
@[simp] theorem HV (t:H9 Bool)(a b:H9 Fl):Ld t a b ρ S=ah (t ρ S) λk c=>if k=true then a ρ c else b ρ c:=rfl
@[simp] theorem Hs:bq i f ρ S=ah (f ρ S) λd a=>Ip (.next (ρ.set i (some d))) a:=rfl
@[simp] theorem HG (a:H9 (List D))(u:D->Ih->Option Ih)(b:H9 Fl):jQ a u b ρ S=ah (a ρ S) λds c=>gZ u b ds ρ c:=rfl
@[simp] theorem Ht (h:List D->Option (List D))(t:H9 (List D)):jg h t ρ S=ah (t ρ S) λds a=>aP (h ds) a:=rfl
@[simp] theorem Gx:bB f ρ S=ah (f ρ S) λd a=>aP (cw d) a:=rfl
@[simp] theorem G2:fQ ρ S=Ip true S:=rfl
@[simp] theorem HI (F:Ie)(t:H9 (List D)):aR F t ρ S=ah (t ρ S) λds a=>gU (F ds a):=rfl
@[simp] theorem GB (d:D):gU (Ip d S)=Ip d S:=rfl
@[simp] theorem Ge (d:D):gU (some (.ok d,S))=Ip d S:=rfl
@[simp] theorem HU:Jg f g ρ S=ah (f ρ S) λx a=>ah (g ρ a) λy S2=>aP (I_ x y S2) S2:=rfl
@[simp] theorem Hd:L4 k f g ρ S=ah (f ρ S) λx a=>ah (g ρ a) λy S2=>aP (MP k x y S2) S2:=rfl
@[simp] theorem G3:vp f ρ S=ah (f ρ S) λd a=>aP (kO d a) a:=rfl
@[simp] theorem Hy:vt ρ S=Ip (.loc S.length) (S++[.dict []]):=rfl
@[simp] theorem Hv (h:H9 D):wY f g h ρ S=ah (h ρ S) λv a=>ah (f ρ a) λx S2=>ah (g ρ S2) λk b=>um x k v ρ b:=rfl
@[simp] theorem Hg (n:Nat)(ix:List Nat)(a:H9 (List D))(u:D->Ih->Option Ih)(gt:H9 Bool):cA n ix a u gt f ρ S=ah (a ρ S) λds b =>
 match bO u gt f ds (cm n ix ρ) b with
 |some (out,S2)=>Ip (.lst out) S2
 |none=>none:=rfl
@[simp] theorem HR (a:D->Option Int->Option Int->Option D)(lo hi:Option (H9 D)):Pq a f lo hi ρ S=ah (f ρ S) λx b=>ah (li lo ρ b) λl S2=>ah (li hi ρ S2) λu c=>aP (a x l u) c:=rfl
@[simp] theorem GA:li none ρ S=Ip none S:=rfl
@[simp] theorem Gz:li (some f) ρ S=ah (f ρ S) λd a=>aP (uY d) a:=rfl
@[simp] theorem HA (a:D->Bool)(b:D->D->Option D):s_ a b f g ρ S=ah (f ρ S) λx c=>if a x=true then ah (g ρ c) λy S2=>aP (b x y) S2 else none:=rfl
@[simp] theorem F_ (d:D)(h : ρ[i]?=some (some d)):af i ρ S=Ip d S:=by unfold af;rw[h]
@[simp] theorem Gw (d:D):aE i d ρ=some (ρ.set i (some d)):=rfl
@[simp] theorem HK (b:Bool):Mc (.bl b)=some b:=rfl
end
@[simp] theorem cC {ds:List D}{d:D}(h:ds.length<=1000):Lp ds d=some d:=by
 unfold Lp;rw[if_pos (Nat.le_trans h (by decide))]
theorem aC {n m:Nat}{G:H9 Fl}{ds:List D}{S a:Ig}{d:D}(b:ds.length=n)(h:G (ds.map some++replicate m none) S=Ip (.ret d) a):aZ n m G ds S=Ip d a:=by unfold aZ;rw[if_pos b,h];rfl
theorem fO {u:D->Ih->Option Ih}{gt:H9 Bool}{fe:H9 D}(I:Ih->Prop)(g:D->Bool)(f:D->D)(S:Ig) :
  ∀ (ds:List D) (ρ:Ih),I ρ->(∀ d∈ds,∀ ρ,I ρ->∃ ρ1,u d ρ=some ρ1/\I ρ1/\gt ρ1 S=Ip (g d) S/\(g d=true->fe ρ1 S=Ip (f d) S))->bO u gt fe ds ρ S=some ((ds.filter g).map f,S)
 |[],ρ,_,_=>rfl
 |d::ds,ρ,hI,h=>by
  obtain⟨ρ1,j,i,c,k⟩:=h d (mem_cons_self ..) ρ hI;have b:=fO I g f S ds ρ1 i λx e=>h x (mem_cons_of_mem _ e);rw[bO,j,bind_some,c];simp only[Ip,OA,bind_some];by_cases a:g d=true
  ·rw[if_pos a,k a];simp only[Ip,OA,bind_some,b,map_some,List.filter_cons,a,if_true,map_cons]
  rw[if_neg a,b,List.filter_cons,if_neg a]
theorem l9 {u:D->Ih->Option Ih}{fe:H9 D}(I:Ih->Prop)(f:D->D)(S:Ig)(ds:List D)(ρ:Ih)(b:I ρ)
  (h:∀ d∈ds,∀ ρ,I ρ->∃ ρ1,u d ρ=some ρ1/\I ρ1/\fe ρ1 S=Ip (f d) S):bO u fQ fe ds ρ S=some (ds.map f,S):=by
 have q:=fO (u:=u) (gt:=fQ) (fe:=fe) I (λ_=>true) f S ds ρ b λd hd ρ a=>by obtain⟨ρ1,c,g,e⟩:=h d hd ρ a;exact⟨ρ1,c,g,rfl,λ_=>e⟩
 rw[q,List.filter_eq_self.mpr λ_ _=>rfl]
theorem dB {u:D->Ih->Option Ih}{body:H9 Fl}(I:Nat->Ih->Ig->Prop):∀ (ds:List D) (i:Nat) (ρ:Ih) (S:Ig),I i ρ S ->
  (∀ (j:Nat) d ρ S,ds[j]?=some d->I (i+j) ρ S->∃ ρ1,u d ρ=some ρ1/\∃ g k,body ρ1 S=Ip (.next g) k/\I (i+j+1) g k)->∃ g k,gZ u body ds ρ S=Ip (.next g) k/\I (i+ds.length) g k
 |[],i,ρ,S,l,_=>⟨ρ,S,rfl,l⟩
 |d::ds,i,ρ,S,l,h=>by
  obtain⟨ρ1,s,g,k,o,q⟩:=h 0 d ρ S rfl l
  obtain⟨m,r,v,n⟩:=dB I ds (i+1) g k q λj x ρ S p t=>by
   obtain⟨a,b,c,d,e,f⟩:=h (j+1) x ρ S (by simpa using p) (by rw[show i+(j+1)=i+1+j by omega];exact t);exact⟨a,b,c,d,e,by rw[show i+1+j+1=i+(j+1)+1 by omega];exact f⟩
  refine⟨m,r,?_,by rw[length_cons,show i+(ds.length+1)=i+1+ds.length by omega];exact n⟩;rw[gZ,s];simp only[o,cn];exact v
mutual
def pl:D->Bool
 | .tup a=>Q6 a
 | .lst a=>Q6 a
 | .set _=>false
 | .loc _=>false
 | .fn _ _=>false
 |_=>true
def Q6:List D->Bool
 |[]=>true
 |d::ds=>pl d&&Q6 ds
end
mutual
theorem rz:∀ {d:D},pl d=true->∃ p,toPy d=some p
 | .Jm,_=>⟨_,rfl⟩
 | .bl _,_=>⟨_,rfl⟩
 | .int _,_=>⟨_,rfl⟩
 | .str _,_=>⟨_,rfl⟩
 | .tup b,h=>by
  rw[pl] at h;obtain⟨a,e⟩:=iV h;exact⟨.tuple a,by rw[toPy,e];rfl⟩
 | .lst b,h=>by
  rw[pl] at h;obtain⟨a,e⟩:=iV h;exact⟨.list a,by rw[toPy,e];rfl⟩
 | .set _,h=>by simp[pl] at h
 | .loc _,h=>by simp[pl] at h
 | .fn _ _,h=>by simp[pl] at h
theorem iV:∀ {ds:List D},Q6 ds=true->∃ a,bW ds=some a
 |[],_=>⟨[],rfl⟩
 |d::ds,h=>by
  rw[Q6,and_eq_true] at h;obtain⟨p,b⟩:=rz h.1;obtain⟨a,c⟩:=iV h.2;exact⟨p::a,by rw[bW,b,c];rfl⟩
end
theorem lK:∀ {ds:List D}{a:List PyData},bW ds=some a->a.length=ds.length
 |[],a,e=>by cases e;rfl
 |d::ds,a,e=>by
  rw[bW] at e;obtain⟨p,_,f⟩:=bind_eq_some_iff.mp e;obtain⟨r,c,b⟩:=map_eq_some_iff.mp f;subst b;rw[length_cons,length_cons,lK c]
theorem BF {α:Type}[BEq α][LawfulBEq α][DecidableEq α](a b : α):(a==b)=decide (a=b):=by by_cases h:a=b<;>simp[h]
@[simp] theorem Dc (i j:Int):JH (.int i) (.int j)=some (.bl (decide (i=j))):=by simp[JH,toPy,PyData.eqv,PyData.depth,BF]
@[simp] theorem Gu (i j:Int):K3 (.int i) (.int j)=some (.bl (!decide (i=j))):=by simp[K3,toPy,PyData.eqv,PyData.depth,BF]
@[simp] theorem G1 (a b:Bool):JH (.bl a) (.bl b)=some (.bl (a==b)):=by simp[JH,toPy,PyData.eqv,PyData.depth]
theorem fB:∀ l:List Str,bW (l.map .str)=some (l.map .str)
 |[]=>rfl
 |a::l=>by rw[map_cons,bW,fB l];rfl
theorem nY:∀ l:List Int,bW (l.map .int)=some (l.map .int)
 |[]=>rfl
 |a::l=>by rw[map_cons,bW,nY l];rfl
theorem o6:∀ l m:List Str,PyData.eqvAll (l.map .str) (m.map .str)=decide (l=m)
 |[],[]=>rfl
 |[],b::m=>by simp[PyData.eqvAll]
 |a::l,[]=>by simp[PyData.eqvAll]
 |a::l,b::m=>by
  rw[map_cons,map_cons,PyData.eqvAll,o6 l m];simp only[PyData.eqv,List.cons.injEq];by_cases h:a=b<;>by_cases c:l=m<;>simp[h,c]
theorem u_:∀ l m:List Int,PyData.eqvAll (l.map .int) (m.map .int)=decide (l=m)
 |[],[]=>rfl
 |[],b::m=>by simp[PyData.eqvAll]
 |a::l,[]=>by simp[PyData.eqvAll]
 |a::l,b::m=>by
  rw[map_cons,map_cons,PyData.eqvAll,u_ l m];simp only[PyData.eqv,List.cons.injEq];by_cases h:a=b<;>by_cases c:l=m<;>simp[h,c]
theorem kn:∀ l:List Str,PyData.depthAll (l.map .str)=0
 |[]=>rfl
 |a::l=>by rw[map_cons,PyData.depthAll,kn l];rfl
theorem o9:∀ l:List Int,PyData.depthAll (l.map .int)=0
 |[]=>rfl
 |a::l=>by rw[map_cons,PyData.depthAll,o9 l];rfl
theorem Bl (l m:List Int):JH (.lst (l.map .int)) (.lst (m.map .int))=some (.bl (decide (l=m))):=by simp[JH,toPy,nY,PyData.eqv,PyData.depth,o9,u_]
theorem Db {ds:List D}(h:Q6 ds=true):JH (.lst ds) (.lst [])=some (.bl (ds.isEmpty)):=by
 obtain⟨a,e⟩:=iV h;have b:toPy (.lst ds)=some (.list a):=by rw[toPy,e];rfl
 have l:=lK e;have c:toPy (.lst [])=some (.list []):=rfl;unfold JH;rw[b,c];cases a with
 |nil=>cases ds with
  |nil=>simp[PyData.depth,PyData.depthAll,PyData.eqv,PyData.eqvAll]
  |cons _ _=>simp at l
 |cons p a=>cases ds with
  |nil=>simp at l
  |cons _ _=>simp[PyData.depth,PyData.depthAll,PyData.eqv,PyData.eqvAll]
theorem CL {ds:List D}(h:Q6 ds=true):K3 (.lst ds) (.lst [])=some (.bl (!ds.isEmpty)):=by
 obtain⟨a,e⟩:=iV h;have b:toPy (.lst ds)=some (.list a):=by rw[toPy,e];rfl
 have l:=lK e;have c:toPy (.lst [])=some (.list []):=rfl;unfold K3;rw[b,c];cases a with
 |nil=>cases ds with
  |nil=>simp[PyData.depth,PyData.depthAll,PyData.eqv,PyData.eqvAll]
  |cons _ _=>simp at l
 |cons p a=>cases ds with
  |nil=>simp at l
  |cons _ _=>simp[PyData.depth,PyData.depthAll,PyData.eqv,PyData.eqvAll]
theorem Vv (x a b c:Str):inD (.str x) (.tup [.str a,.str b,.str c])=some (.bl (decide (a=x) ||(decide (b=x) ||decide (c=x)))):=by simp[inD,oT,toPy,bW,rM,PyData.eqv,PyData.depth,BF]
section
variable (ρ:Ih) (S:Ig)
@[simp] theorem Hf (F:Ie)(t:H9 (List D)):Gj F t ρ S=ah (t ρ S) λds a=>F ds a:=rfl
@[simp] theorem Gy (c:Str)(t:H9 (List D)):E9 c t ρ S=ah (t ρ S) λds a=>ah (aP (Lp ds .Jm) a) λ_ S2=>some (.error c,S2):=rfl
@[simp] theorem HF (a:Str->Option Bool)(f:H9 D):Hl a f ρ S=ah (f ρ S) λd b=>aP (F1 a d b) b:=rfl
end
end L2
namespace Iu
open PySem L2
def top (i:Nat):Stmt:=PySem.Challenge.pw_keyfold_k20_joined_common_less.main.body.getD i (.Pass ⟨0,0,0,0⟩)
abbrev bA:Stmt:=top 13
abbrev bh:Stmt:=top 14
abbrev aS:Stmt:=top 15
def Bf:H9 Fl:=
  (aX (aI JH (a9 b_ (ag (af 0) aA)) (aB (.int 3))))
def pD:Ie:=aZ 1 0 Bf
def k8:H9 Fl:=
  (aX (vy (aT (aR pD (ag (af 0) aA))) (Pq Mx (af 0) (some (aB (.int 1))) none) (mj aA)))
def dI:Ie:=aZ 1 0 k8
def oX:H9 Fl:=
  (aX (vy (aT (aR pD (ag (af 0) aA))) (s_ dP jA (af 1) (Jg (af 0) (aB (.int 0)))) (a9 b_ (ag (af 1) aA))))
def iw:Ie:=aZ 2 0 oX
def l5:H9 Fl:=
  (aM (bq 4 (zC (af 0) (af 1)))
  (aX (vy (aT (aI JH (Jg (af 4) (aB (.int 0))) (af 2))) (Jg (af 4) (aI bG (aB (.int 1)) (af 3))) (af 1))))
def hZ:Ie:=aZ 4 1 l5
def cu (rec:Ie):H9 Fl:=
  (Ld (aT (L4 true (af 3) (af 2))) (qW (aR rec (ag (af 0) (ag (af 3) (ag (af 2) aA))))) b7)
def eB (rec:Ie):H9 Fl:=
  (aM (jQ (bB (aR dI (ag (zC (af 0) (af 1)) aA))) (aE 3) (cu rec))
  (wY (af 2) (af 1) (aB (.bl true))))
def bt:Nat->Ie
 | 0=>λ_ _=>none
 |n+1=>aZ 3 1 (eB (bt n))
def ja:H9 Fl:=
  (aM (bq 2 vt)
  (aM (qW (aR (bt 10) (ag (af 0) (ag (af 1) (ag (af 2) aA)))))
  (aX (l_ (af 2)))))
def fT:Ie:=aZ 2 1 ja
def i_:H9 Fl:=
  (aX (vy (aT (aR pD (ag (af 0) aA))) (mj (ag (Jg (af 0) (aB (.int 0))) (ag (Jg (af 1) (Jg (af 0) (aB (.int 1)))) (ag (Jg (af 1) (Jg (af 0) (aB (.int 2)))) aA)))) (af 0)))
def fS:Ie:=aZ 2 0 i_
def eP:H9 Fl:=
  (aM (jZ "Rows" "order" (af 0) (af 1))
  (aM (jZ "Rows" "gathered" (af 0) BC)
  (aM (jZ "Rows" "numbers" (af 0) vq)
  (jZ "Rows" "choices" (af 0) vq))))
def bC:Ie:=aZ 2 0 eP
def dR:H9 Fl:=
  (aM (jZ "Pairs" "folds" (af 0) (mj (ag (af 1) (ag (af 2) aA))))
  (aM (jZ "Pairs" "rows" (af 0) (j0 "Rows" bC (ag (af 3) aA)))
  (jZ "Pairs" "made" (af 0) vq)))
def b6:Ie:=aZ 4 0 dR
def cZ:H9 Fl:=
  (wY (af 3) (af 5) (af 4))
def cg:H9 D:=
  (aR fS (ag (Dn (dU "Rows" "gathered" (af 2)) (af 0)) (ag (af 1) aA)))
def g9:H9 Fl:=
  (aM (bq 2 (aR fT (ag (dU "Rows" "gathered" (af 0)) (ag (af 1) aA))))
  (aM (bq 3 vt)
  (aM (jQ (jg sG (ag (af 2) aA)) (kJ 2 (bf (aE 4) (bf (aE 5) gK))) cZ)
  (aX (a9 gL (ag (cA 1 [3,0] (bB (af 2)) (aE 0) fQ cg) aA))))))
def cM:Ie:=aZ 2 4 g9
def dQ:H9 Fl:=
  (aM (Ld (aT (zB true (af 1) (dU "Rows" "numbers" (af 0)))) (aM (qV (dU "Rows" "numbers" (af 0)) (af 1) (Bu (dU "Rows" "gathered" (af 0))))
  (qW (Do (dU "Rows" "gathered" (af 0)) (af 1)))) b7)
  (aX (vx (dU "Rows" "numbers" (af 0)) (af 1))))
def bn:Ie:=aZ 2 0 dQ
def cF:H9 Fl:=
  (aX (vy (aT (aI JH (af 2) (af 3))) (af 2) (bZ "Rows" "number_of" bn (af 0) (ag (mj (ag (af 1) (ag (af 2) (ag (af 3) aA)))) aA))))
def bu:Ie:=aZ 4 0 cF
def bF:H9 D:=
  (aR hZ (ag (af 0) (ag (af 1) (ag (af 2) (ag (af 3) aA)))))
def eC:H9 Fl:=
  (aX (a9 gL (ag (cA 2 [2,3] (jg zK (ag (dU "Pairs" "folds" (af 0)) (ag (af 1) aA))) (kJ 2 (bf (aE 0) (bf (aE 1) gK))) fQ bF) aA)))
def bR:Ie:=aZ 4 0 eC
def iH:H9 Fl:=
  (aX (a9 gL (ag (NT gM (aI bG (af 0) (af 1))) aA)))
def cV:Ie:=aZ 2 0 iH
def eU:H9 Bool:=
  (aT (L4 false (af 0) (af 1)))
def eV:H9 D:=
  (af 0)
def ge:H9 Fl:=
  (aX (a9 gL (ag (cA 1 [1] (bB (af 0)) (aE 0) eU eV) aA)))
def cB:Ie:=aZ 2 0 ge
def dg:H9 Bool:=
  (aT (L4 true (af 0) (af 1)))
def dF:H9 D:=
  (af 0)
def eA:H9 Fl:=
  (aX (a9 gL (ag (cA 1 [1] (bB (af 0)) (aE 0) dg dF) aA)))
def bQ:Ie:=aZ 2 0 eA
def bU (rec:Ie):H9 D:=
  (Jg (af 0) (af 1))
def bT (rec:Ie):H9 D:=
  (aR iw (ag (af 0) (ag (af 1) aA)))
def dE (rec:Ie):H9 Fl:=
  (aM (bq 3 (dU "Rows" "order" (dU "Pairs" "rows" (af 0))))
  (aM (bq 4 (cA 2 [] (jg zK (ag (dU "Pairs" "folds" (af 0)) (ag (af 1) aA))) (kJ 2 (bf (aE 0) (bf (aE 1) gK))) fQ (bU rec)))
  (aM (bq 5 (a9 mT (ag (cA 1 [3] (bB (af 4)) (aE 0) fQ (bT rec)) aA)))
  (aM (Ld (aT (aI JH (af 5) (a9 b_ (ag (af 3) aA)))) (aX (bZ "Rows" "number_of" bn (dU "Pairs" "rows" (af 0)) (ag (mj (ag (aB (.str "names")) (ag (tf (("names_of_both",bA,cV)::("names_in_common",bh,cB)::("names_of_one_alone",aS,bQ)::[]) (af 2) (ag (Jg (Jg (af 4) (aB (.int 0))) (aB (.int 1))) (ag (Jg (Jg (af 4) (aB (.int 1))) (aB (.int 1))) aA))) aA))) aA))) b7)
  (aM (bq 6 (bZ "Pairs" "number_of_pair" rec (af 0) (ag (bZ "Pairs" "side_of_pair" bR (af 0) (ag (af 1) (ag (Jg (af 3) (af 5)) (ag (aB (.int 0)) aA)))) (ag (af 2) aA))))
  (aM (bq 7 (bZ "Pairs" "number_of_pair" rec (af 0) (ag (bZ "Pairs" "side_of_pair" bR (af 0) (ag (af 1) (ag (Jg (af 3) (af 5)) (ag (aB (.int 1)) aA)))) (ag (af 2) aA))))
  (aX (bZ "Rows" "number_of_ask" bu (dU "Pairs" "rows" (af 0)) (ag (Jg (af 3) (af 5)) (ag (af 6) (ag (af 7) aA)))))))))))
def dJ (rec:Ie):Ie:=aZ 3 5 (dE rec)
def cb (rec:Ie):H9 Fl:=
  (aM (Ld (aT (zB true (af 1) (dU "Pairs" "made" (af 0)))) (qV (dU "Pairs" "made" (af 0)) (af 1) (bZ "Pairs" "pair_anew" (dJ rec) (af 0) (ag (af 1) (ag (af 2) aA)))) b7)
  (aX (vx (dU "Pairs" "made" (af 0)) (af 1))))
def bH:Nat->Ie
 | 0=>λ_ _=>none
 |n+1=>aZ 3 0 (cb (bH n))
def jb:H9 Fl:=
  (aM (bq 4 (j0 "Pairs" b6 (ag (af 0) (ag (af 1) (ag (af 2) aA)))))
  (aX (bZ "Rows" "fold_from" cM (dU "Pairs" "rows" (af 4)) (ag (bZ "Pairs" "number_of_pair" (bH 9) (af 4) (ag (mj (ag (aI jJ (a9 b_ (ag (af 0) aA)) (aB (.int 1))) (ag (aI jJ (a9 b_ (ag (af 1) aA)) (aB (.int 1))) aA))) (ag (af 3) aA))) aA))))
def cJ:Ie:=aZ 4 1 jb
def Bc:H9 Fl:=
  (aX (aR cJ (ag (af 0) (ag (af 1) (ag (af 2) (ag (aB (.fn "names_of_both" bA)) aA))))))
def lu:Ie:=aZ 3 0 Bc
def Bd:H9 Fl:=
  (aX (aR cJ (ag (af 0) (ag (af 1) (ag (af 2) (ag (aB (.fn "names_in_common" bh)) aA))))))
def lv:Ie:=aZ 3 0 Bd
def EU:H9 Fl:=
  (aX (aR cJ (ag (af 0) (ag (af 1) (ag (af 2) (ag (aB (.fn "names_of_one_alone" aS)) aA))))))
def tD:Ie:=aZ 3 0 EU
def bp:H9 D:=
  (aR iw (ag (Dn (dU "Rows" "gathered" (af 1)) (af 0)) (ag (dU "Rows" "order" (af 1)) aA)))
def dD:H9 Fl:=
  (aM (bq 4 (cA 1 [0] (bB (mj (ag (af 2) (ag (af 3) aA)))) (aE 0) fQ bp))
  (aX (Jg (dU "Rows" "order" (af 0)) (a9 mT (ag (aI bG (af 4) (ml (ag (s_ dP jA (dU "Rows" "order" (af 0)) (af 1)) aA))) aA)))))
def cj:Ie:=aZ 4 1 dD
def m5:H9 Fl:=
  (aX (aR hZ (ag (dU "Rows" "gathered" (af 0)) (ag (af 1) (ag (af 2) (ag (af 3) aA))))))
def b8:Ie:=aZ 4 0 m5
def cX (rec:Ie):H9 Fl:=
  (aM (bq 4 (bZ "Rows" "first_character" cj (af 0) (ag (af 1) (ag (af 2) (ag (af 3) aA)))))
  (aM (Ld (aT (aI JH (af 4) (af 1))) (aX (bZ "Rows" "number_of_ask" bu (af 0) (ag (af 1) (ag (bZ "Rows" "side" b8 (af 0) (ag (af 2) (ag (af 1) (ag (aB (.int 0)) aA)))) (ag (bZ "Rows" "side" b8 (af 0) (ag (af 3) (ag (af 1) (ag (aB (.int 1)) aA)))) aA))))) b7)
  (aM (bq 5 (bZ "Rows" "choose" rec (af 0) (ag (af 1) (ag (bZ "Rows" "side" b8 (af 0) (ag (af 2) (ag (af 4) (ag (aB (.int 0)) aA)))) (ag (bZ "Rows" "side" b8 (af 0) (ag (af 3) (ag (af 4) (ag (aB (.int 0)) aA)))) aA)))))
  (aM (bq 6 (bZ "Rows" "choose" rec (af 0) (ag (af 1) (ag (bZ "Rows" "side" b8 (af 0) (ag (af 2) (ag (af 4) (ag (aB (.int 1)) aA)))) (ag (bZ "Rows" "side" b8 (af 0) (ag (af 3) (ag (af 4) (ag (aB (.int 1)) aA)))) aA)))))
  (aX (bZ "Rows" "number_of_ask" bu (af 0) (ag (af 4) (ag (af 5) (ag (af 6) aA)))))))))
def c0 (rec:Ie):Ie:=aZ 4 3 (cX rec)
def d4 (rec:Ie):H9 Fl:=
  (aM (bq 4 (mj (ag (af 1) (ag (af 2) (ag (af 3) aA)))))
  (aM (Ld (aT (zB true (af 4) (dU "Rows" "choices" (af 0)))) (qV (dU "Rows" "choices" (af 0)) (af 4) (vy (aT (aI JH (af 2) (af 3))) (af 2) (bZ "Rows" "choose_anew" (c0 rec) (af 0) (ag (af 1) (ag (af 2) (ag (af 3) aA)))))) b7)
  (aX (vx (dU "Rows" "choices" (af 0)) (af 4)))))
def d8:Nat->Ie
 | 0=>λ_ _=>none
 |n+1=>aZ 4 1 (d4 (d8 n))
def eO (rec:Ie):H9 Fl:=
  (aM (Ld (aT (aI JH (Jg (af 1) (aB (.int 0))) (aB (.str "names")))) (aX (bZ "Rows" "number_of" bn (af 0) (ag (af 1) aA))) b7)
  (aX (bZ "Rows" "choose" (d8 9) (af 0) (ag (Jg (af 1) (aB (.int 1))) (ag (aR rec (ag (af 0) (ag (Jg (af 1) (aB (.int 2))) aA))) (ag (aR rec (ag (af 0) (ag (Jg (af 1) (aB (.int 3))) aA))) aA))))))
def cU:Nat->Ie
 | 0=>λ_ _=>none
 |n+1=>aZ 2 0 (eO (cU n))
def u7:H9 Fl:=
  (aM (bq 2 (j0 "Rows" bC (ag (af 1) aA)))
  (aX (bZ "Rows" "fold_from" cM (af 2) (ag (aR (cU 15) (ag (af 2) (ag (af 0) aA))) aA))))
def bK:Ie:=aZ 2 1 u7
def mZ:H9 Fl:=
  (aM (Ld (aT (aI Ob (af 1) (a9 b_ (ag (af 0) aA)))) (aX (Jg (af 0) (af 1))) b7)
  (aX (aB (.int 0))))
def jk:Ie:=aZ 2 0 mZ
def qL:H9 Fl:=
  (aM (bq 2 (aI cL (aI de (aI bG (aI bG (aR jk (ag (af 0) (ag (af 1) aA))) (aI de (aB (.int 7919)) (af 1))) (aB (.int 1))) (aB (.int 48271))) (aB (.int 2147483647))))
  (aX (aI cL (aI bG (aI bG (aI de (af 2) (af 2)) (aI de (aB (.int 7)) (af 2))) (af 1)) (aB (.int 2147483629)))))
def bi:Ie:=aZ 2 1 qL
def qM:H9 Fl:=
  (aM (bq 2 (aI cL (aI de (aI bG (aI bG (af 0) (aI de (aB (.int 104729)) (af 1))) (aB (.int 17))) (aB (.int 69621))) (aB (.int 2147483647))))
  (aX (aI cL (aI bG (aI bG (aI de (af 2) (af 2)) (aI de (aB (.int 3)) (af 2))) (af 1)) (aB (.int 2147483629)))))
def fx:Ie:=aZ 2 1 qM
def gp:H9 Fl:=
  (bq 5 (aI bG (af 5) (Jg (af 1) (aI cL (aI g_ (af 4) (aI bG (aI de (aB (.int 31)) (af 6)) (aB (.int 29)))) (aB (.int 26))))))
def gm:H9 Fl:=
  (aM (bq 4 (aR fx (ag (af 0) (ag (af 3) aA))))
  (aM (bq 5 (Jg (af 1) (aI cL (af 4) (aB (.int 26)))))
  (aM (jQ (jg f_ (ag (aI de (aI cL (aI g_ (af 4) (aB (.int 26))) (aB (.int 8))) (aI cL (af 0) (aB (.int 2)))) aA)) (aE 6) gp)
  (wY (af 2) (aI bG (af 5) (aI de (aB (.str "q")) (a9 intD (ag (L4 false (af 5) (aB (D.tup [(D.str "names"),(D.str "ask"),(D.str "end")]))) aA)))) (aB (.bl true))))))
def qH:H9 Fl:=
  (aM (bq 1 (aB (.str "abcdefghijklmnopqrstuvwxyz")))
  (aM (bq 2 vt)
  (aM (jQ (jg f_ (ag (aB (.int 6)) aA)) (aE 3) gm)
  (aX (a9 gL (ag (vp (af 2)) aA))))))
def mC:Ie:=aZ 1 6 qH
def iY:H9 Bool:=
  (aT (aI JH (aI cL (aI g_ (af 2) (aI bG (aI de (aB (.int 3)) (af 0)) (aB (.int 1)))) (aB (.int 4))) (aB (.int 0))))
def jd:H9 D:=
  (af 1)
def qK:H9 Fl:=
  (aX (a9 gL (ag (cA 2 [0] (jg o7 (ag (af 1) aA)) (kJ 2 (bf (aE 0) (bf (aE 1) gK))) iY jd) aA)))
def mF:Ie:=aZ 2 0 qK
def sE (rec:Ie):H9 Fl:=
  (aM (Ld (pz (aT (aI JH (af 3) (aB (.int 0)))) (aT (aI JH (aI cL (af 0) (aB (.int 7))) (aB (.int 0))))) (aX (mj (ag (aB (.str "names")) (ag (aR mF (ag (aI g_ (af 0) (aB (.int 7))) (ag (af 1) aA))) aA)))) b7)
  (aM (bq 4 (aR rec (ag (aR fx (ag (af 0) (ag (aB (.int 1)) aA))) (ag (af 1) (ag (af 2) (ag (aI jJ (af 3) (aB (.int 1))) aA))))))
  (aM (bq 5 (aR rec (ag (aR fx (ag (af 0) (ag (aB (.int 2)) aA))) (ag (af 1) (ag (af 2) (ag (aI jJ (af 3) (aB (.int 1))) aA))))))
  (aX (mj (ag (aB (.str "ask")) (ag (aI cL (aI g_ (af 0) (aB (.int 7))) (af 2)) (ag (af 4) (ag (af 5) aA)))))))))
def jH:Nat->Ie
 | 0=>λ_ _=>none
 |n+1=>aZ 4 2 (sE (jH n))
def gq:H9 Fl:=
  (aM (bq 4 (aI cL (aR fx (ag (af 0) (ag (af 3) aA))) (aI bG (a9 b_ (ag (af 2) aA)) (aB (.int 1)))))
  (bq 2 (aI bG (aI bG (Pq Mx (af 2) none (some (af 4))) (ml (ag (af 3) aA))) (Pq Mx (af 2) (some (af 4)) none))))
def qJ:H9 Fl:=
  (aM (bq 2 (ml aA))
  (aM (jQ (jg f_ (ag (af 1) aA)) (aE 3) gq)
  (aX (a9 gL (ag (af 2) aA)))))
def mE:Ie:=aZ 2 3 qJ
def k_:H9 D:=
  (aI bG (af 0) (aB (D.tup [(D.int 0)])))
def k9:H9 D:=
  (aI bG (af 0) (aB (D.tup [(D.int 1)])))
def fm:H9 Fl:=
  (bq 1 (aI bG (cA 1 [] (bB (af 1)) (aE 0) fQ k_) (cA 1 [] (bB (af 1)) (aE 0) fQ k9)))
def oW:H9 Fl:=
  (aM (bq 1 (aB (D.lst [(D.tup [])])))
  (aM (jQ (jg f_ (ag (af 0) aA)) (aE 2) fm)
  (aX (a9 rH (ag (af 1) aA)))))
def iu:Ie:=aZ 1 2 oW
def j_ (rec:Ie):H9 Fl:=
  (aM (Ld (aT (aI JH (Jg (af 0) (aB (.int 0))) (aB (.str "names")))) (aX (Jg (af 0) (aB (.int 1)))) b7)
  (aX (aR rec (ag (Jg (af 0) (aI bG (aB (.int 2)) (Jg (af 1) (Jg (af 0) (aB (.int 1)))))) (ag (af 1) aA)))))
def fW:Nat->Ie
 | 0=>λ_ _=>none
 |n+1=>aZ 2 0 (j_ (fW n))
def kK:H9 Bool:=
  (aT (aI K3 (Jg (af 2) (aB (.int 0))) (aB (.str "names"))))
def hW:H9 Fl:=
  (bq 2 (Jg (af 0) (Jg (af 2) (aI bG (aB (.int 1)) (Jg (af 1) (Jg (af 2) (aB (.int 0))))))))
def Be:H9 Fl:=
  (aM (bq 2 (Jg (af 0) (NT CK (aB (.int 1)))))
  (aM (sW 20 kK hW)
  (aX (Jg (af 2) (aB (.int 1))))))
def mG:Ie:=aZ 2 1 Be
def oY:H9 Fl:=
  (aX (vz (NT (iM "int") (af 0)) (vz (E_ (NT (iM "bool") (af 0))) (mw RZ RZ (aB (.int 0)) (af 0) (af 1)))))
def fV:Ie:=aZ 2 0 oY
def cS:H9 Bool:=
  (aT (aI Ob (s_ sj findD (aB (.str "abcdefghijklmnopqrstuvwxyz")) (af 0)) (aB (.int 0))))
def eQ:H9 D:=
  (af 0)
def cT:H9 Fl:=
  (aM (Ld (pz (hV (aT (NT (iM "str") (af 2)))) (pz (hV (aT (mw Ob Ob (aB (.int 0)) (a9 b_ (ag (af 2) aA)) (aB (.int 9))))) (ye (aT (aI R0 (af 1) (aB (.int 0)))) (hV (aT (aI Ob (Jg (af 0) (aI jJ (af 1) (aB (.int 1)))) (af 2))))))) (aX (aB (.bl false))) b7)
  (aM (Ld (aT (L4 false (af 2) (aB (D.tup [(D.str "names"),(D.str "ask"),(D.str "end")])))) (aX (aB (.bl false))) b7)
  (Ld (aT (aI K3 (cA 1 [] (bB (af 2)) (aE 0) cS eQ) (ml aA))) (aX (aB (.bl false))) b7)))
def jW:H9 Fl:=
  (aM (Ld (hV (aT (NT (iM "tuple") (af 0)))) (aX (aB (.bl false))) b7)
  (aM (jQ (jg o7 (ag (af 0) aA)) (kJ 2 (bf (aE 1) (bf (aE 2) gK))) cT)
  (aX (aB (.bl true)))))
def gF:Ie:=aZ 1 2 jW
def dh:H9 Bool:=
  (ye (aT (aI K3 (Jg (Jg (af 2) (af 0)) (aB (.int 0))) (aB (.str "names")))) (aT (L4 true (Jg (Jg (af 2) (af 0)) (aB (.int 0))) (af 1))))
def fj:H9 D:=
  (af 0)
def o0:H9 Fl:=
  (aM (bq 3 (Jg (af 0) (af 1)))
  (aM (Ld (pz (hV (aT (NT (iM "tuple") (af 3)))) (pz (aT (aI JH (a9 b_ (ag (af 3) aA)) (aB (.int 0)))) (aT (L4 false (af 3) (Pq Mx (af 0) none (some (af 1))))))) (aX (aB (.bl false))) b7)
  (aM (Ld (aT (NT (iM "str") (Jg (af 3) (aB (.int 0))))) (aX (vz (aI JH (Jg (af 3) (aB (.int 0))) (aB (.str "names"))) (vz (aI JH (a9 b_ (ag (af 3) aA)) (aB (.int 2))) (aR gF (ag (Jg (af 3) (aB (.int 1))) aA))))) b7)
  (aM (Ld (pz (aT (aI K3 (a9 b_ (ag (af 3) aA)) (aB (.int 3)))) (hV (aT (aR fV (ag (Jg (af 3) (aB (.int 0))) (ag (aI jJ (a9 b_ (ag (af 2) aA)) (aB (.int 1))) aA)))))) (aX (aB (.bl false))) b7)
  (aM (Ld (pz (hV (aT (aR fV (ag (Jg (af 3) (aB (.int 1))) (ag (aI jJ (af 1) (aB (.int 1))) aA))))) (pz (hV (aT (aR fV (ag (Jg (af 3) (aB (.int 2))) (ag (aI jJ (af 1) (aB (.int 1))) aA))))) (aT (aI JH (Jg (af 3) (aB (.int 1))) (Jg (af 3) (aB (.int 2))))))) (aX (aB (.bl false))) b7)
  (aM (bq 4 (Pq Mx (af 2) (some (aI bG (s_ sk oR (a9 CZ (ag (af 2) aA)) (Jg (af 3) (aB (.int 0)))) (aB (.int 1)))) none))
  (aX (aI JH (cA 1 [4,0] (bB (Pq Mx (af 3) (some (aB (.int 1))) none)) (aE 0) dh fj) (ml aA)))))))))
def kB:Ie:=aZ 3 2 o0
def fC (rec:Ie):H9 Bool:=
  (aT (L4 true (af 0) (af 1)))
def im (rec:Ie):H9 D:=
  (af 0)
def fR (rec:Ie):H9 Fl:=
  (bq 3 (aI bG (af 3) (cA 1 [3] (bB (aR rec (ag (af 0) (ag (af 4) aA)))) (aE 0) (fC rec) (im rec))))
def oZ (rec:Ie):H9 Fl:=
  (aM (bq 2 (Jg (af 0) (af 1)))
  (aM (bq 3 (ml aA))
  (aM (Ld (aT (aI K3 (Jg (af 2) (aB (.int 0))) (aB (.str "names")))) (jQ (bB (Pq Mx (af 2) (some (aB (.int 1))) none)) (aE 4) (fR rec)) b7)
  (aX (aI bG (af 3) (ml (ag (af 1) aA)))))))
def cR:Nat->Ie
 | 0=>λ_ _=>none
 |n+1=>aZ 2 3 (oZ (cR n))
def gE:H9 Fl:=
  (Ld (hV (aT (aR kB (ag (af 0) (ag (af 2) (ag (af 1) aA)))))) (aX (aB (.bl false))) b7)
def mY:H9 Fl:=
  (aM (Ld (pz (hV (aT (NT (iM "tuple") (af 0)))) (aT (aI JH (a9 b_ (ag (af 0) aA)) (aB (.int 0))))) (aX (aB (.bl false))) b7)
  (aM (jQ (jg f_ (ag (a9 b_ (ag (af 0) aA)) aA)) (aE 2) gE)
  (aX (aI JH (aR (cR 11) (ag (af 0) (ag (aI jJ (a9 b_ (ag (af 0) aA)) (aB (.int 1))) aA))) (a9 g0 (ag (a9 b_ (ag (af 0) aA)) aA))))))
def jj:Ie:=aZ 2 1 mY
def u6:H9 Fl:=
  (aM (bq 2 (aI bG (aB (.int 1)) (aI cL (aR bi (ag (af 0) (ag (aB (.int 0)) aA))) (af 1))))
  (aM (bq 3 (aR mC (ag (aR bi (ag (af 0) (ag (aB (.int 1)) aA))) aA)))
  (aM (bq 4 (aR (jH 8) (ag (aR bi (ag (af 0) (ag (aB (.int 2)) aA))) (ag (af 3) (ag (af 2) (ag (aI bG (aB (.int 1)) (aI cL (aR bi (ag (af 0) (ag (aB (.int 3)) aA))) (aB (.int 5)))) aA))))))
  (aX (mj (ag (af 2) (ag (af 3) (ag (af 4) (ag (aR mE (ag (aR bi (ag (af 0) (ag (aB (.int 4)) aA))) (ag (af 2) aA))) aA)))))))))
def lp:Ie:=aZ 2 3 u6
def iX:H9 Bool:=
  (aT (L4 true (af 0) (af 1)))
def jc:H9 D:=
  (af 0)
def qI:H9 Fl:=
  (aX (a9 gL (ag (vp (aI bG (af 0) (a9 gL (ag (cA 1 [0] (bB (af 1)) (aE 0) iX jc) aA)))) aA)))
def mD:Ie:=aZ 2 0 qI
def eW:H9 Bool:=
  (hV (aT (aR jj (ag (af 0) (ag (af 1) aA)))))
def sK:H9 D:=
  (af 0)
def rC:H9 Bool:=
  (aT (L4 false (af 0) (af 1)))
def sJ:H9 D:=
  (af 0)
def rB:H9 Bool:=
  (aT (L4 true (af 0) (af 1)))
def sH:H9 D:=
  (af 0)
def gf:H9 D:=
  (aR mG (ag (af 0) (ag (af 1) aA)))
def ll:H9 Fl:=
  (aM (bq 10 (aR (fW 15) (ag (af 3) (ag (af 9) aA))))
  (aM (bq 11 (aR (fW 15) (ag (af 5) (ag (af 9) aA))))
  (aM (bq 12 (wZ (ag (aR mD (ag (af 10) (ag (af 11) aA))) (ag (a9 gL (ag (cA 1 [11] (bB (af 10)) (aE 0) rC sJ) aA)) aA))))
  (aM (qW (Do (af 12) (a9 gL (ag (cA 1 [11] (bB (af 10)) (aE 0) rB sH) aA))))
  (Ld (aT (Dm (cA 1 [9] (bB (af 8)) (aE 0) fQ gf) (af 12))) (aX (aB (.bl false))) b7)))))
def DG:H9 Fl:=
  (aM (s9 (kJ 4 (bf (aE 1) (bf (aE 2) (bf (aE 3) (bf (aE 4) gK))))) (aR lp (ag (af 0) (ag (aB (.int 6)) aA))))
  (aM (bq 5 (aR (jH 8) (ag (aR bi (ag (af 0) (ag (aB (.int 7)) aA))) (ag (af 2) (ag (af 1) (ag (aI bG (aB (.int 1)) (aI cL (aR bi (ag (af 0) (ag (aB (.int 6)) aA))) (aB (.int 5)))) aA))))))
  (aM (bq 6 (aR bK (ag (af 3) (ag (af 4) aA))))
  (aM (bq 7 (aR bK (ag (af 5) (ag (af 4) aA))))
  (aM (bq 8 (ml (ag (aR lu (ag (af 6) (ag (af 7) (ag (af 4) aA)))) (ag (aR lv (ag (af 6) (ag (af 7) (ag (af 4) aA)))) (ag (aR tD (ag (af 6) (ag (af 7) (ag (af 4) aA)))) aA)))))
  (aM (Ld (aT (aI K3 (cA 1 [4] (bB (af 8)) (aE 0) eW sK) (ml aA))) (aX (aB (.bl false))) b7)
  (aM (jQ (bB (aR iu (ag (af 1) aA))) (aE 9) ll)
  (aX (vz (aI JH (af 6) (aR bK (ag (af 3) (ag (af 4) aA)))) (aI JH (af 7) (aR bK (ag (af 5) (ag (af 4) aA)))))))))))))
def BQ:Ie:=aZ 1 12 DG
def Di:Stmt->List Stmt
 | .ClassDef _ _ _ b _ _ _ _ _ _ _=>b
 |_=>[]
def nv (i j:Nat):Stmt:=(Di (top i)).getD j (.Pass ⟨0,0,0,0⟩)
abbrev Ai:Stmt:=top 1
abbrev HW(s:Str):=(s,NameKind.local)
abbrev HX(s:Str):=(s,NameKind.globalImplicit)
abbrev HZ(s:Str):Str×Const:=("fast",.str s)
abbrev HY(l:List (Str×NameKind))(m:List (Str×Const)):Scope:=⟨.function,l,false,false,m⟩
noncomputable abbrev zN:Scope:=HY [HW "row",HX "len"] []
abbrev kS:Stmt:=top 2
noncomputable abbrev kG:Scope:=HY [HW "row",HX "asks"] []
abbrev om:Stmt:=top 3
noncomputable abbrev nO:Scope:=HY [HW "row",HW "order",HX "asks",HX "len"] []
abbrev qh:Stmt:=top 4
noncomputable abbrev pU:Scope:=HY [HW "rows",HW "number",HW "character",HW "value",HW "row"] []
abbrev mN:Stmt:=top 6
noncomputable abbrev mH:Scope:=HY [HW "rows",HW "number",HW "left",HW "below",HX "rows_below",HX "leave_row"] []
abbrev i6:Stmt:=top 5
noncomputable abbrev iQ:Scope:=HY [HW "rows",HW "top",HW "left",HX "leave_row",HX "list"] []
abbrev i0:Stmt:=top 7
noncomputable abbrev iP:Scope:=HY [HW "row",HW "numbers",HX "asks"] []
abbrev iE:Stmt:=nv 8 0
noncomputable abbrev iB:Scope:=HY [HW "self",HW "order"] []
abbrev gR:Stmt:=nv 17 0
noncomputable abbrev gJ:Scope:=HY [HW "self",HW "one",HW "other",HW "order",HX "Rows"] []
abbrev gQ:Stmt:=nv 8 7
noncomputable abbrev IZ:Scope:=HY [("self",.cell),HW "top",HW "left",("numbers",.cell),HW "place",HW "number",HX "rows_as_left",HX "enumerate",HX "tuple"] [HZ "self",HZ "top",HZ "left",HZ "numbers",HZ "place",HZ "number"]
abbrev gP:Stmt:=nv 8 1
noncomputable abbrev gI:Scope:=HY [HW "self",HW "row",HX "len"] []
abbrev d_:Stmt:=nv 8 2
noncomputable abbrev d9:Scope:=HY [HW "self",HW "character",HW "no",HW "yes"] []
abbrev ej:Stmt:=nv 17 3
noncomputable abbrev IM:Scope:=HY [HW "self",HW "pair",("character",.cell),("value",.cell),HX "tuple",HX "zip"] [HZ "self",HZ "pair",HZ "character",HZ "value",HZ "fold",HZ "number"]
noncomputable abbrev iA:Scope:=HY [HW "names",HW "others",HX "tuple",HX "sorted",HX "set"] []
noncomputable abbrev IX:Scope:=HY [HW "names",("others",.cell),HX "tuple"] [HZ "names",HZ "others",HZ "name"]
noncomputable abbrev IP:Scope:=HY [HW "names",("others",.cell),HX "tuple"] [HZ "names",HZ "others",HZ "name"]
abbrev f9:Stmt:=nv 17 2
noncomputable abbrev IF:Scope:=HY [HW "self",HW "pair",HW "names_of",("order",.cell),HW "rows",HW "first",HW "no",HW "yes",HX "zip",HX "min",HX "len"] [HZ "self",HZ "pair",HZ "names_of",HZ "order",HZ "fold",HZ "number",HZ "rows",HZ "row",HZ "first",HZ "no",HZ "yes"]
abbrev du:Stmt:=nv 17 1
noncomputable abbrev df:Scope:=HY [HW "self",HW "pair",HW "names_of"] []
abbrev i7:Stmt:=top 16
noncomputable abbrev iR:Scope:=HY [HW "one",HW "other",HW "order",HW "names_of",HW "pairs",HX "Pairs",HX "len"] []
abbrev ug:Stmt:=top 10
noncomputable abbrev tO:Scope:=HY [HW "one",HW "other",HW "order",HX "put_together",HX "names_of_both"] []
abbrev ui:Stmt:=top 11
noncomputable abbrev tQ:Scope:=HY [HW "one",HW "other",HW "order",HX "put_together",HX "names_in_common"] []
abbrev Af:Stmt:=top 12
noncomputable abbrev zL:Scope:=HY [HW "one",HW "other",HW "order",HX "put_together",HX "names_of_one_alone"] []
abbrev dj:Stmt:=nv 8 4
noncomputable abbrev IJ:Scope:=HY [("self",.cell),HW "character",HW "no",HW "yes",HW "places",HX "min"] [HZ "self",HZ "character",HZ "no",HZ "yes",HZ "number",HZ "places"]
abbrev mQ:Stmt:=nv 8 3
noncomputable abbrev mK:Scope:=HY [HW "self",HW "number",HW "character",HW "value",HX "side_of"] []
abbrev fJ:Stmt:=nv 8 6
noncomputable abbrev fy:Scope:=HY [HW "self",HW "character",HW "no",HW "yes",HW "first",HW "without",HW "having"] []
abbrev jT:Stmt:=nv 8 5
noncomputable abbrev jR:Scope:=HY [HW "self",HW "character",HW "no",HW "yes",HW "choice"] []
abbrev iD:Stmt:=top 20
noncomputable abbrev iz:Scope:=HY [HW "rows",HW "key",HX "number_of_key"] []
abbrev uh:Stmt:=top 19
noncomputable abbrev tP:Scope:=HY [HW "key",HW "order",HW "rows",HX "Rows",HX "number_of_key"] []
abbrev mP:Stmt:=top 22
noncomputable abbrev mJ:Scope:=HY [HW "_law_script",HW "_law_k",HX "len"] []
abbrev qk:Stmt:=top 23
noncomputable abbrev pW:Scope:=HY [HW "_law_script",HW "_law_k",HW "_law_drawn_here",HX "_law_cell_at"] []
abbrev ql:Stmt:=top 24
noncomputable abbrev pZ:Scope:=HY [HW "_law_number_here",HW "_law_k",HW "_law_drawn_here"] []
abbrev qf:Stmt:=top 25
noncomputable abbrev pT:Scope:=HY [HW "_law_number_here",HW "_law_letters",HW "_law_found",HW "_law_k",HW "_law_drawn_here",HW "_law_word",HW "_law_at_here",HX "range",HX "_law_drawn",HX "int",HX "tuple",HX "sorted"] []
abbrev qj:Stmt:=top 26
noncomputable abbrev Km:Scope:=HY [("_law_number_here",.cell),HW "_law_words_here",HX "tuple",HX "enumerate"] [HZ "_law_number_here",HZ "_law_words_here",HZ "_law_k",HZ "_law_word"]
abbrev xw:Stmt:=top 27
noncomputable abbrev xi:Scope:=HY [HW "_law_number_here",HW "_law_words_here",HW "_law_many",HW "_law_deep",HW "_law_no",HW "_law_yes",HX "_law_names",HX "_law_key",HX "_law_drawn"] []
abbrev qi:Stmt:=top 28
noncomputable abbrev pV:Scope:=HY [HW "_law_number_here",HW "_law_many",HW "_law_found",HW "_law_k",HW "_law_at_here",HX "range",HX "_law_drawn",HX "len",HX "tuple"] []
abbrev oj:Stmt:=top 30
noncomputable abbrev Ju:Scope:=HY [HW "_law_many",HW "_law_found",HW "_law_k",HX "range",HX "sorted"] [HZ "_law_many",HZ "_law_found",HZ "_law_k",HZ "_law_thing"]
abbrev oq:Stmt:=top 31
noncomputable abbrev nQ:Scope:=HY [HW "_law_key_here",HW "_law_thing",HX "_law_answer"] []
abbrev Ah:Stmt:=top 32
noncomputable abbrev zM:Scope:=HY [HW "_law_fold",HW "_law_thing",HW "_law_row"] []
abbrev on:Stmt:=top 33
noncomputable abbrev nP:Scope:=HY [HW "_law_thing",HW "_law_high",HX "isinstance",HX "int",HX "bool"] []
abbrev jS:Stmt:=top 34
noncomputable abbrev Jv:Scope:=HY [HW "_law_thing",HW "_law_k",HW "_law_part",HX "isinstance",HX "tuple",HX "enumerate",HX "str",HX "len"] [HZ "_law_thing",HZ "_law_k",HZ "_law_part",HZ "_law_sign"]
abbrev oo:Stmt:=top 35
noncomputable abbrev JW:Scope:=HY [("_law_fold",.cell),HW "_law_at_here",HW "_law_order_here",HW "_law_row",("_law_behind",.cell),HX "isinstance",HX "tuple",HX "len",HX "str",HX "_law_are_names",HX "_law_number",HX "list"] [HZ "_law_fold",HZ "_law_at_here",HZ "_law_order_here",HZ "_law_row",HZ "_law_behind",HZ "_law_goal"]
abbrev uf:Stmt:=top 36
noncomputable abbrev KR:Scope:=HY [HW "_law_fold",HW "_law_at_here",HW "_law_row",("_law_found",.cell),HW "_law_goal",HX "_law_left"] [HZ "_law_fold",HZ "_law_at_here",HZ "_law_row",HZ "_law_found",HZ "_law_goal",HZ "_law_one"]
abbrev mO:Stmt:=top 37
noncomputable abbrev mI:Scope:=HY [HW "_law_fold",HW "_law_order_here",HW "_law_at_here",HX "isinstance",HX "tuple",HX "len",HX "range",HX "_law_is_row",HX "_law_left",HX "list"] []
abbrev ue:Stmt:=top 38
noncomputable abbrev tN:Scope:=HY [HW "_law_script",HW "_law_most",HW "_law_many",HW "_law_words_here",HW "_law_key_here",HX "_law_mixed",HX "_law_words",HX "_law_key",HX "_law_order"] []
abbrev qg:Stmt:=top 39
noncomputable abbrev Kn:Scope:=HY [("_law_ones",.cell),HW "_law_others",HX "tuple",HX "sorted"] [HZ "_law_ones",HZ "_law_others",HZ "_law_name"]
abbrev Ag:Stmt:=top 40
noncomputable abbrev Ku:Scope:=HY [HW "_law_script",HW "_law_many",HW "_law_words_here",HW "_law_key_here",("_law_order_here",.cell),HW "_law_other",HW "_law_one",HW "_law_two",HW "_law_found",("_law_thing",.cell),HW "_law_ones",("_law_others",.cell),HW "_law_due",HX "_law_made",HX "_law_key",HX "_law_mixed",HX "folded",HX "joined",HX "common",HX "less",HX "_law_things",HX "_law_answer",HX "_law_union",HX "tuple"] [HZ "_law_script",HZ "_law_many",HZ "_law_words_here",HZ "_law_key_here",HZ "_law_order_here",HZ "_law_other",HZ "_law_one",HZ "_law_two",HZ "_law_found",HZ "_law_fold",HZ "_law_thing",HZ "_law_ones",HZ "_law_others",HZ "_law_name",HZ "_law_due"]
set_option hygiene false in
local macro_rules|`(tactic|and_intros)=>`(tactic|(have hu:=aW hr;have IA:=aU hr;have Jc:=aV hr;have JI:=hr.gd))
set_option hygiene false in
local macro_rules|`(tactic|nofun)=>`(tactic|exact ⟨rfl,rfl,rfl,by decide,rfl,by decide,by decide⟩)
set_option hygiene false in
local macro_rules|`(tactic|exists $z)=>`(tactic|exact(show ∀ y∈(_:List (Str×NameKind)),y.2=NameKind.free->List.lookup y.1 ($z).names=some NameKind.cell∨List.lookup y.1 ($z).names=some NameKind.free from by decide))
set_option hygiene false in
local macro_rules|`(tactic|exists $z,$n)=>`(tactic|exact(show ∀ t∈(($z):List Nat),List.lookup ((($n):List Str).getD t Str.empty) _=some NameKind.free from by decide))
set_option hygiene false in
local macro_rules|`(tactic|symm)=>`(tactic|exact hr.mono (by omega))
set_option hygiene false in
local macro_rules|`(!$n:num)=>`(aa (i:=$n))
structure Top (K:H_) (mg:Ic):Prop where
 Q7:bj K mg "asks" Ai ["row"]
 MA:bj K mg "rows_below" kS ["row"]
 Nk:bj K mg "place_of" om ["row","order"]
 N1:bj K mg "side_of" qh ["rows","number","character","value"]
 Le:bj K mg "leave_row" mN ["rows","number","left"]
 LJ:bj K mg "rows_as_left" i6 ["rows","top"]
 LK:bj K mg "with_numbers" i0 ["row","numbers"]
 Lr:Du K mg "Rows" "Rows.__init__" iE ["self","order"]
 K8:Du K mg "Pairs" "Pairs.__init__" gR ["self","one","other","order"]
 K9:MethAt K "Rows" "fold_from" "Rows.fold_from" gQ ["self","top"]
 K_:MethAt K "Rows" "number_of" "Rows.number_of" gP ["self","row"]
 Kf:MethAt K "Rows" "number_of_ask" "Rows.number_of_ask" d_ ["self","character","no","yes"]
 Kg:MethAt K "Pairs" "side_of_pair" "Pairs.side_of_pair" ej ["self","pair","character","value"]
 Lu:bj K mg "names_of_both" bA ["names","others"]
 KS:bj K mg "names_in_common" bh ["names","others"]
 Kh:bj K mg "names_of_one_alone" aS ["names","others"]
 KU:MethAt K "Pairs" "pair_anew" "Pairs.pair_anew" f9 ["self","pair","names_of"]
 Jh:MethAt K "Pairs" "number_of_pair" "Pairs.number_of_pair" du ["self","pair","names_of"]
 LL:bj K mg "put_together" i7 ["one","other","order","names_of"]
 OQ:bj K mg "joined" ug ["one","other","order"]
 OR:bj K mg "common" ui ["one","other","order"]
 Q8:bj K mg "less" Af ["one","other","order"]
 JX:MethAt K "Rows" "first_character" "Rows.first_character" dj ["self","character","no","yes"]
 MT:MethAt K "Rows" "side" "Rows.side" mQ ["self","number","character","value"]
 KD:MethAt K "Rows" "choose_anew" "Rows.choose_anew" fJ ["self","character","no","yes"]
 Kw:MethAt K "Rows" "choose" "Rows.choose" jT ["self","character","no","yes"]
 JZ:bj K mg "number_of_key" iD ["rows","key"]
 OS:bj K mg "folded" uh ["key","order"]
 MU:bj K mg "_law_cell_at" mP ["_law_script","_law_k"]
 N2:bj K mg "_law_mixed" qk ["_law_script","_law_k"]
 N3:bj K mg "_law_drawn" ql ["_law_number_here","_law_k"]
 N4:bj K mg "_law_words" qf ["_law_number_here"]
 N5:bj K mg "_law_names" qj ["_law_number_here","_law_words_here"]
 NI:bj K mg "_law_key" xw ["_law_number_here","_law_words_here","_law_many","_law_deep"]
 N6:bj K mg "_law_order" qi ["_law_number_here","_law_many"]
 Nl:bj K mg "_law_things" oj ["_law_many"]
 LM:bj K mg "_law_answer" oq ["_law_key_here","_law_thing"]
 Q9:bj K mg "_law_at" Ah ["_law_fold","_law_thing"]
 Nm:bj K mg "_law_number" on ["_law_thing","_law_high"]
 L7:bj K mg "_law_are_names" jS ["_law_thing"]
 Nn:bj K mg "_law_is_row" oo ["_law_fold","_law_at_here","_law_order_here"]
 MV:bj K mg "_law_left" uf ["_law_fold","_law_at_here"]
 MW:bj K mg "_law_is_fold" mO ["_law_fold","_law_order_here"]
 OT:bj K mg "_law_made" ue ["_law_script","_law_most"]
 N7:bj K mg "_law_union" qg ["_law_ones","_law_others"]
 Tf:bj K mg "law" Ag ["_law_script"]
 Jw:mg "len"=none
 Np:mg "list"=none
 Ki:mg "enumerate"=none
 IU:mg "tuple"=none
 Qj:mg "zip"=none
 KW:mg "sorted"=none
 Tg:mg "set"=none
 Qk:mg "min"=none
 Ko:mg "range"=none
 Ql:mg "int"=none
 IV:mg "isinstance"=none
 Q_:mg "bool"=none
 Qm:mg "str"=none
 Ji:ji K "Rows" "order"
 IG:ji K "Rows" "gathered"
 Jj:ji K "Rows" "numbers"
 Jk:ji K "Rows" "choices"
 JN:ji K "Pairs" "folds"
 Jl:ji K "Pairs" "rows"
 JA:ji K "Pairs" "made"
section
variable {P:Program}{w:World}{K:H_}{mg:Ic}{base:Heap}
theorem BU:aq Ai=zN:=rfl
theorem NJ:Ii ["row"] ["row"] zN:=by nofun
theorem pq (T:Top K mg):Kq P w K mg base 1 "asks" ["row"] pD:=
 bd T.Q7 BU NJ (λf IB A outer s H E hr=>by
 and_intros;have nd:=NJ.nd
 exact(az (aG (iZ (da hu) (a8 cN T.Jw cI (ae (!0) ai)) ao))))
theorem pF:aq kS=kG:=rfl
theorem Kx:Ii ["row"] ["row"] kG:=by nofun
theorem pi (T:Top K mg):Kq P w K mg base 2 "rows_below" ["row"] dI:=
 bd T.MA pF Kx (λf IB A outer s H E hr=>by
 and_intros;have nd:=Kx.nd
 exact(az (aG (lP (dM (aH (pq T) (by symm) (ae (!0) ai))) (n_ QI (!0) ao trivial) (eE ai)))))
theorem tI:aq om=nO:=rfl
theorem Lg:Ii ["row","order"] ["row","order"] nO:=by nofun
theorem lh (T:Top K mg):Kq P w K mg base 2 "place_of" ["row","order"] iw:=
 bd T.Nk tI Lg (λf IB A outer s H E hr=>by
 and_intros;have nd:=Lg.nd
 exact(az (aG (lP (dM (aH (pq T) (by symm) (ae (!0) ai))) (qx rfl (!1) (aJ IA (!0) ao)) (a8 cN T.Jw cI (ae (!1) ai))))))
theorem vN:aq qh=pU:=rfl
theorem LN:Ii ["rows","number","character","value","row"] ["rows","number","character","value"] pU:=by nofun
theorem m_ (T:Top K mg):Kq P w K mg base 1 "side_of" ["rows","number","character","value"] hZ:=
 bd T.N1 vN LN (λf IB A outer s H E hr=>by
 and_intros;have nd:=LN.nd
 exact(aj (aN (i:=4) nd (xv (!0) (!1)))
  (az (aG (lP (bx (da hu) (aJ IA (!4) ao) (!2)) (aJ IA (!4) (aD a_ ao (!3))) (!1))))))
theorem q_:aq mN=mH:=rfl
theorem KY:Ii ["rows","number","left","below"] ["rows","number","left"] mH:=by nofun
theorem jY (T:Top K mg):∀ n:Nat,Kq P w K mg base (n+2) "leave_row" ["rows","number","left"] (bt n)
 | 0=>je T.Le
 |n+1=>by
  have JO:=jY T n
  exact bd T.Le q_ KY (λf IB A outer s H E hr=>by
   and_intros;have nd:=KY.nd
   exact(aj (gr PassesOwn.never rfl (cv (aH (pi T) (by symm) (ae (xv (!0) (!1)) ai))) (aL (i:=3) nd) (az (cD (ft hu IA Jc (!3) (!2)) (az (nE (aH JO (by symm) (ae (!0) (ae (!3) (ae (!2) ai)))))) bg)))
    (az (v7 IA (!2) (!1) fG))))
theorem nj:aq i6=iQ:=rfl
theorem J3:Ii ["rows","top","left"] ["rows","top"] iQ:=by nofun
theorem me (T:Top K mg):Kq P w K mg base 13 "rows_as_left" ["rows","top"] fT:=
 bd T.LJ nj J3 (λf IB A outer s H E hr=>by
 and_intros;have nd:=J3.nd
 exact(aj (aN (i:=2) nd rP)
  (aj (nE (aH (jY T 10) (by symm) (ae (!0) (ae (!1) (ae (!2) ai)))))
  (az (aG (ud IA T.Np (!2)))))))
theorem ni:aq i0=iP:=rfl
theorem J4:Ii ["row","numbers"] ["row","numbers"] iP:=by nofun
theorem ma (T:Top K mg):Kq P w K mg base 2 "with_numbers" ["row","numbers"] fS:=
 bd T.LK ni J4 (λf IB A outer s H E hr=>by
 and_intros;have nd:=J4.nd
 exact(az (aG (lP (dM (aH (pq T) (by symm) (ae (!0) ai))) (eE (ae (aJ IA (!0) ao) (ae (aJ IA (!1) (aJ IA (!0) ao)) (ae (aJ IA (!1) (aJ IA (!0) ao)) ai)))) (!0)))))
theorem lF:aq iE=iB:=rfl
theorem JQ:Ii ["self","order"] ["self","order"] iB:=by nofun
theorem gj (T:Top K mg):Dv P w K mg base 1 "Rows" ["self","order"] bC:=
 yd T.Lr lF JQ (λf IB A outer s H E hr=>by
 and_intros;have nd:=JQ.nd
 exact(aj (j3 T.Ji (!0) (!1))
  (aj (j3 T.IG (!0) Ca)
  (aj (j3 T.Jj (!0) rO)
  (az (j3 T.Jk (!0) rO))))))
theorem kF:aq gR=gJ:=rfl
theorem JJ:Ii ["self","one","other","order"] ["self","one","other","order"] gJ:=by nofun
theorem kr (T:Top K mg):Dv P w K mg base 3 "Pairs" ["self","one","other","order"] b6:=
 yd T.K8 kF JJ (λf IB A outer s H E hr=>by
 and_intros;have nd:=JJ.nd
 exact(aj (j3 T.JN (!0) (eE (ae (!1) (ae (!2) ai))))
  (aj (j3 T.Jl (!0) (rQ (gj T) (by symm) (ae (!3) ai)))
  (az (j3 T.JA (!0) rO)))))
theorem kE:aq gQ=IZ:=rfl
theorem JK:Ii ["self","top","left","numbers","place","number"] ["self","top"] IZ:=by nofun
theorem fP (T:Top K mg):kC P w K mg base 14 "Rows" "fold_from" ["self","top"] cM:=
 d6 T.K9 kE JK (λf IB A outer s H E hr=>by
 and_intros;have nd:=JK.nd
 exact(aj (aN (i:=2) nd (aH (me T) (by symm) (ae (bz T.IG (!0)) (ae (!1) ai))))
  (aj (aN (i:=3) nd rP)
  (aj (gr PassesOwn.never rfl (z6 rfl T.Ki (ae (!2) ai)) (lN rfl (bM (aL (i:=4) nd) (bM (aL (i:=5) nd) jt))) (az (v7 IA (!3) (!5) (!4))))
  (az (aG (bw eT T.IU bJ (ae (bS (ts:=["number"]) (ix:=[3,0]) rfl ⟨rfl,by decide,by decide,by exists IZ⟩ (by exists [3,0],["self","top","left","numbers","place","number"]) (cv (!2)) (λ_ _ _ _ _=>⟨(aL (i:=0) (show (["number","numbers","self"]:List Str).Nodup from by decide)),f8,(aH (ma T) (by symm) (ae (wc (bz T.IG (!2)) (!0)) (ae (!1) ai)))⟩)) ai))))))))
theorem kD:aq gP=gI:=rfl
theorem JL:Ii ["self","row"] ["self","row"] gI:=by nofun
theorem cY (T:Top K mg):kC P w K mg base 1 "Rows" "number_of" ["self","row"] bn:=
 d6 T.K_ kD JL (λf IB A outer s H E hr=>by
 and_intros;have nd:=JL.nd
 exact(aj (cD (lJ hu (!1) (bz T.Jj (!0))) (aj (rG hu (bz T.Jj (!0)) (!1) (Cb T.Jw (bz T.IG (!0))))
  (az (nE (Ae rfl (bz T.IG (!0)) (!1))))) bg)
  (az (aG (rN hu (bz T.Jj (!0)) (!1))))))
theorem iK:aq d_=d9:=rfl
theorem Jo:Ii ["self","character","no","yes"] ["self","character","no","yes"] d9:=by nofun
theorem ci (T:Top K mg):kC P w K mg base 2 "Rows" "number_of_ask" ["self","character","no","yes"] bu:=
 d6 T.Kf iK Jo (λf IB A outer s H E hr=>by
 and_intros;have nd:=Jo.nd
 exact(az (aG (lP (bx (da hu) (!2) (!3)) (!2) (aY (cY T) (by symm) (!0) (ae (eE (ae (!1) (ae (!2) (ae (!3) ai)))) ai))))))
theorem iL:aq ej=IM:=rfl
theorem Jp:Ii ["self","pair","character","value"] ["self","pair","character","value"] IM:=by nofun
theorem dG (T:Top K mg):kC P w K mg base 2 "Pairs" "side_of_pair" ["self","pair","character","value"] bR:=
 d6 T.Kg iL Jp (λf IB A outer s H E hr=>by
 and_intros;have nd:=Jp.nd
 exact(az (aG (bw eT T.IU bJ (ae (bS (ts:=["fold","number"]) (ix:=[2,3]) rfl ⟨rfl,by decide,by decide,by exists IM⟩ (by exists [2,3],["self","pair","character","value"]) (z5 rfl T.Qj (ae (bz T.JN (!0)) (ae (!1) ai))) (λ_ _ _ _ _=>⟨(lN rfl (bM (aL (i:=0) (show (["fold","number","character","value"]:List Str).Nodup from by decide)) (bM (aL (i:=1) (show (["fold","number","character","value"]:List Str).Nodup from by decide)) jt))),f8,(aH (m_ T) (by symm) (ae (!0) (ae (!1) (ae (!2) (ae (!3) ai)))))⟩)) ai)))))
theorem lB:aq bA=iA:=rfl
theorem JR:Ii ["names","others"] ["names","others"] iA:=by nofun
theorem mh (T:Top K mg):zH P w K mg base 1 "names_of_both" bA ["names","others"] cV:=
 sV (Rv λ_ _ _ _ _ _ _ _=>rfl) lB JR (λf IB A outer s H E hr=>by
 and_intros;have nd:=JR.nd
 exact(az (aG (bw eT T.IU bJ (ae (wa rfl rfl rfl T.KW T.Tg (aD a_ (!0) (!1))) ai)))))
theorem j1:aq bh=IX:=rfl
theorem JE:Ii ["names","others"] ["names","others"] IX:=by nofun
theorem kt (T:Top K mg):zH P w K mg base 1 "names_in_common" bh ["names","others"] cB:=
 sV (Rv λ_ _ _ _ _ _ _ _=>rfl) j1 JE (λf IB A outer s H E hr=>by
 and_intros;have nd:=JE.nd
 exact(az (aG (bw eT T.IU bJ (ae (bS (ts:=["name"]) (ix:=[1]) rfl ⟨rfl,by decide,by decide,by exists IX⟩ (by exists [1],["names","others"]) (cv (!0)) (λ_ _ _ _ _=>⟨(aL (i:=0) (show (["name","others"]:List Str).Nodup from by decide)),(dW (rn hu IA Jc (!0) (!1))),(!0)⟩)) ai)))))
theorem iJ:aq aS=IP:=rfl
theorem Jr:Ii ["names","others"] ["names","others"] IP:=by nofun
theorem iN (T:Top K mg):zH P w K mg base 1 "names_of_one_alone" aS ["names","others"] bQ:=
 sV (Rv λ_ _ _ _ _ _ _ _=>rfl) iJ Jr (λf IB A outer s H E hr=>by
 and_intros;have nd:=Jr.nd
 exact(az (aG (bw eT T.IU bJ (ae (bS (ts:=["name"]) (ix:=[1]) rfl ⟨rfl,by decide,by decide,by exists IP⟩ (by exists [1],["names","others"]) (cv (!0)) (λ_ _ _ _ _=>⟨(aL (i:=0) (show (["name","others"]:List Str).Nodup from by decide)),(dW (ft hu IA Jc (!0) (!1))),(!0)⟩)) ai)))))
theorem j2:aq f9=IF:=rfl
theorem JF:Ii ["self","pair","names_of","order","rows","first","no","yes"] ["self","pair","names_of"] IF:=by nofun
theorem jP (T:Top K mg){n:Nat}{rec:Ie}(JO:kC P w K mg base (n*2+2) "Pairs" "number_of_pair" ["self","pair","names_of"] rec):kC P w K mg base (n*2+3) "Pairs" "pair_anew" ["self","pair","names_of"] (dJ rec):=by
 rw[show n*2+3=(n*2+2)+1 from by omega]
 exact d6 T.KU j2 JF (λf IB A outer s H E hr=>by
 and_intros;have nd:=JF.nd
 exact(aj (aN (i:=3) nd (bz T.Ji (bz T.Jl (!0))))
  (aj (n6 (ts:=["fold","number"]) (ix:=[]) (i:=4) nd rfl ⟨rfl,by decide,by decide,by exists IF⟩ (by exists [],["self","pair","names_of","order","rows","first","no","yes"]) (z5 rfl T.Qj (ae (bz T.JN (!0)) (ae (!1) ai))) (λ_ _ _ _ _=>⟨(lN rfl (bM (aL (i:=0) (show (["fold","number"]:List Str).Nodup from by decide)) (bM (aL (i:=1) (show (["fold","number"]:List Str).Nodup from by decide)) jt))),f8,(aJ IA (!0) (!1))⟩))
  (aj (aN (i:=5) nd (a8 (yc rfl) T.Qk BJ (ae (bS (ts:=["row"]) (ix:=[3]) rfl ⟨rfl,by decide,by decide,by exists IF⟩ (by exists [3],["self","pair","names_of","order","rows","first","no","yes"]) (cv (!4)) (λ_ _ _ _ _=>⟨(aL (i:=0) (show (["row","order"]:List Str).Nodup from by decide)),f8,(aH (lh T) (by symm) (ae (!0) (ae (!1) ai)))⟩)) ai)))
  (aj (cD (bx (da hu) (!5) (a8 cN T.Jw cI (ae (!3) ai))) (az (aG (aY (cY T) (by symm) (bz T.Jl (!0)) (ae (eE (ae dO (ae (Ad (nZ (mh T) (by symm) (nZ (kt T) (by symm) (nZ (iN T) (by symm) B3))) (!2) (ae (aJ IA (aJ IA (!4) ao) ao) (ae (aJ IA (aJ IA (!4) ao) ao) ai))) ai))) ai)))) bg)
  (aj (aN (i:=6) nd (aY JO (by symm) (!0) (ae (aY (dG T) (by symm) (!0) (ae (!1) (ae (aJ IA (!3) (!5)) (ae ao ai)))) (ae (!2) ai))))
  (aj (aN (i:=7) nd (aY JO (by symm) (!0) (ae (aY (dG T) (by symm) (!0) (ae (!1) (ae (aJ IA (!3) (!5)) (ae ao ai)))) (ae (!2) ai))))
  (az (aG (aY (ci T) (by symm) (bz T.Jl (!0)) (ae (aJ IA (!3) (!5)) (ae (!6) (ae (!7) ai)))))))))))))
theorem gH:aq du=df:=rfl
theorem Jd:Ii ["self","pair","names_of"] ["self","pair","names_of"] df:=by nofun
theorem cQ (T:Top K mg):∀ n:Nat,kC P w K mg base (n*2+2) "Pairs" "number_of_pair" ["self","pair","names_of"] (bH n)
 | 0=>qU T.Jh
 |n+1=>by
  have JO:=cQ T n;rw[show (n+1)*2+2=(n*2+3)+1 from by omega]
  exact d6 T.Jh gH Jd (λf IB A outer s H E hr=>by
   and_intros;have nd:=Jd.nd
   exact(aj (cD (lJ hu (!1) (bz T.JA (!0))) (az (rG hu (bz T.JA (!0)) (!1) (aY (jP T JO) (by symm) (!0) (ae (!1) (ae (!2) ai))))) bg)
    (az (aG (rN hu (bz T.JA (!0)) (!1))))))
theorem nk:aq i7=iR:=rfl
theorem J5:Ii ["one","other","order","names_of","pairs"] ["one","other","order","names_of"] iR:=by nofun
theorem dS (T:Top K mg):Kq P w K mg base 21 "put_together" ["one","other","order","names_of"] cJ:=
 bd T.LL nk J5 (λf IB A outer s H E hr=>by
 and_intros;have nd:=J5.nd
 exact(aj (aN (i:=4) nd (rQ (kr T) (by symm) (ae (!0) (ae (!1) (ae (!2) ai)))))
  (az (aG (aY (fP T) (by symm) (bz T.Jl (!4)) (ae (aY (cQ T 9) (by symm) (!4) (ae (eE (ae (aD h_ (a8 cN T.Jw cI (ae (!0) ai)) ao) (ae (aD h_ (a8 cN T.Jw cI (ae (!1) ai)) ao) ai))) (ae (!3) ai))) ai))))))
theorem yo:aq ug=tO:=rfl
theorem Me:Ii ["one","other","order"] ["one","other","order"] tO:=by nofun
theorem wV (T:Top K mg):Kq P w K mg base 22 "joined" ["one","other","order"] lu:=
 bd T.OQ yo Me (λf IB A outer s H E hr=>by
 and_intros;have nd:=Me.nd
 exact(az (aG (aH (dS T) (by symm) (ae (!0) (ae (!1) (ae (!2) (ae (Ab T.Lu) ai))))))))
theorem yq:aq ui=tQ:=rfl
theorem Mf:Ii ["one","other","order"] ["one","other","order"] tQ:=by nofun
theorem wW (T:Top K mg):Kq P w K mg base 22 "common" ["one","other","order"] lv:=
 bd T.OR yq Mf (λf IB A outer s H E hr=>by
 and_intros;have nd:=Mf.nd
 exact(az (aG (aH (dS T) (by symm) (ae (!0) (ae (!1) (ae (!2) (ae (Ab T.KS) ai))))))))
theorem BS:aq Af=zL:=rfl
theorem NK:Ii ["one","other","order"] ["one","other","order"] zL:=by nofun
theorem Bz (T:Top K mg):Kq P w K mg base 22 "less" ["one","other","order"] tD:=
 bd T.Q8 BS NK (λf IB A outer s H E hr=>by
 and_intros;have nd:=NK.nd
 exact(az (aG (aH (dS T) (by symm) (ae (!0) (ae (!1) (ae (!2) (ae (Ab T.Kh) ai))))))))
theorem gG:aq dj=IJ:=rfl
theorem Je:Ii ["self","character","no","yes","places"] ["self","character","no","yes"] IJ:=by nofun
theorem gD (T:Top K mg):kC P w K mg base 3 "Rows" "first_character" ["self","character","no","yes"] cj:=
 d6 T.JX gG Je (λf IB A outer s H E hr=>by
 and_intros;have nd:=Je.nd
 exact(aj (n6 (ts:=["number"]) (ix:=[0]) (i:=4) nd rfl ⟨rfl,by decide,by decide,by exists IJ⟩ (by exists [0],["self","character","no","yes","places"]) (cv (eE (ae (!2) (ae (!3) ai)))) (λ_ _ _ _ _=>⟨(aL (i:=0) (show (["number","self"]:List Str).Nodup from by decide)),f8,(aH (lh T) (by symm) (ae (wc (bz T.IG (!1)) (!0)) (ae (bz T.Ji (!1)) ai)))⟩))
  (az (aG (aJ IA (bz T.Ji (!0)) (a8 (yc rfl) T.Qk BJ (ae (aD a_ (!4) (gw (ae (qx rfl (bz T.Ji (!0)) (!1)) ai))) ai)))))))
theorem rg:aq mQ=mK:=rfl
theorem KZ:Ii ["self","number","character","value"] ["self","number","character","value"] mK:=by nofun
theorem cr (T:Top K mg):kC P w K mg base 2 "Rows" "side" ["self","number","character","value"] b8:=
 d6 T.MT rg KZ (λf IB A outer s H E hr=>by
 and_intros;have nd:=KZ.nd
 exact(az (aG (aH (m_ T) (by symm) (ae (bz T.IG (!0)) (ae (!1) (ae (!2) (ae (!3) ai))))))))
theorem jI:aq fJ=fy:=rfl
theorem Jz:Ii ["self","character","no","yes","first","without","having"] ["self","character","no","yes"] fy:=by nofun
theorem jf (T:Top K mg){n:Nat}{rec:Ie}(JO:kC P w K mg base (n*2+3) "Rows" "choose" ["self","character","no","yes"] rec):kC P w K mg base (n*2+4) "Rows" "choose_anew" ["self","character","no","yes"] (c0 rec):=by
 rw[show n*2+4=(n*2+3)+1 from by omega]
 exact d6 T.KD jI Jz (λf IB A outer s H E hr=>by
 and_intros;have nd:=Jz.nd
 exact(aj (aN (i:=4) nd (aY (gD T) (by symm) (!0) (ae (!1) (ae (!2) (ae (!3) ai)))))
  (aj (cD (bx (da hu) (!4) (!1)) (az (aG (aY (ci T) (by symm) (!0) (ae (!1) (ae (aY (cr T) (by symm) (!0) (ae (!2) (ae (!1) (ae ao ai)))) (ae (aY (cr T) (by symm) (!0) (ae (!3) (ae (!1) (ae ao ai)))) ai)))))) bg)
  (aj (aN (i:=5) nd (aY JO (by symm) (!0) (ae (!1) (ae (aY (cr T) (by symm) (!0) (ae (!2) (ae (!4) (ae ao ai)))) (ae (aY (cr T) (by symm) (!0) (ae (!3) (ae (!4) (ae ao ai)))) ai)))))
  (aj (aN (i:=6) nd (aY JO (by symm) (!0) (ae (!1) (ae (aY (cr T) (by symm) (!0) (ae (!2) (ae (!4) (ae ao ai)))) (ae (aY (cr T) (by symm) (!0) (ae (!3) (ae (!4) (ae ao ai)))) ai)))))
  (az (aG (aY (ci T) (by symm) (!0) (ae (!4) (ae (!5) (ae (!6) ai)))))))))))
theorem nN:aq jT=jR:=rfl
theorem Kj:Ii ["self","character","no","yes","choice"] ["self","character","no","yes"] jR:=by nofun
theorem iI (T:Top K mg):∀ n:Nat,kC P w K mg base (n*2+3) "Rows" "choose" ["self","character","no","yes"] (d8 n)
 | 0=>qU T.Kw
 |n+1=>by
  have JO:=iI T n;rw[show (n+1)*2+3=(n*2+4)+1 from by omega]
  exact d6 T.Kw nN Kj (λf IB A outer s H E hr=>by
   and_intros;have nd:=Kj.nd
   exact(aj (aN (i:=4) nd (eE (ae (!1) (ae (!2) (ae (!3) ai)))))
    (aj (cD (lJ hu (!4) (bz T.Jk (!0))) (az (rG hu (bz T.Jk (!0)) (!4) (lP (bx (da hu) (!2) (!3)) (!2) (aY (jf T JO) (by symm) (!0) (ae (!1) (ae (!2) (ae (!3) ai))))))) bg)
    (az (aG (rN hu (bz T.Jk (!0)) (!4)))))))
theorem lA:aq iD=iz:=rfl
theorem JS:Ii ["rows","key"] ["rows","key"] iz:=by nofun
theorem gh (T:Top K mg):∀ n:Nat,Kq P w K mg base (n+21) "number_of_key" ["rows","key"] (cU n)
 | 0=>je T.JZ
 |n+1=>by
  have JO:=gh T n
  exact bd T.JZ lA JS (λf IB A outer s H E hr=>by
   and_intros;have nd:=JS.nd
   exact(aj (cD (bx (da hu) (aJ IA (!1) ao) dO) (az (aG (aY (cY T) (by symm) (!0) (ae (!1) ai)))) bg)
    (az (aG (aY (iI T 9) (by symm) (!0) (ae (aJ IA (!1) ao) (ae (aH JO (by symm) (ae (!0) (ae (aJ IA (!1) ao) ai))) (ae (aH JO (by symm) (ae (!0) (ae (aJ IA (!1) ao) ai))) ai))))))))
theorem yp:aq uh=tP:=rfl
theorem Mh:Ii ["key","order","rows"] ["key","order"] tP:=by nofun
theorem iq (T:Top K mg):Kq P w K mg base 37 "folded" ["key","order"] bK:=
 bd T.OS yp Mh (λf IB A outer s H E hr=>by
 and_intros;have nd:=Mh.nd
 exact(aj (aN (i:=2) nd (rQ (gj T) (by symm) (ae (!1) ai)))
  (az (aG (aY (fP T) (by symm) (!2) (ae (aH (gh T 15) (by symm) (ae (!2) (ae (!0) ai))) ai))))))
theorem rf:aq mP=mJ:=rfl
theorem K0:Ii ["_law_script","_law_k"] ["_law_script","_law_k"] mJ:=by nofun
theorem pQ (T:Top K mg):Kq P w K mg base 1 "_law_cell_at" ["_law_script","_law_k"] jk:=
 bd T.MU rf K0 (λf IB A outer s H E hr=>by
 and_intros;have nd:=K0.nd
 exact(aj (cD (bx ux (!1) (a8 cN T.Jw cI (ae (!0) ai))) (az (aG (aJ IA (!0) (!1)))) bg)
  (az (aG ao))))
theorem vQ:aq qk=pW:=rfl
theorem LO:Ii ["_law_script","_law_k","_law_drawn_here"] ["_law_script","_law_k"] pW:=by nofun
theorem cG (T:Top K mg):Kq P w K mg base 2 "_law_mixed" ["_law_script","_law_k"] bi:=
 bd T.N2 vQ LO (λf IB A outer s H E hr=>by
 and_intros;have nd:=LO.nd
 exact(aj (aN (i:=2) nd (aD cW (aD eL (aD a_ (aD a_ (aH (pQ T) (by symm) (ae (!0) (ae (!1) ai))) (aD eL ao (!1))) ao) ao) ao))
  (az (aG (aD cW (aD a_ (aD a_ (aD eL (!2) (!2)) (aD eL ao (!2))) (!1)) ao)))))
theorem vR:aq ql=pZ:=rfl
theorem LP:Ii ["_law_number_here","_law_k","_law_drawn_here"] ["_law_number_here","_law_k"] pZ:=by nofun
theorem gi (T:Top K mg):Kq P w K mg base 1 "_law_drawn" ["_law_number_here","_law_k"] fx:=
 bd T.N3 vR LP (λf IB A outer s H E hr=>by
 and_intros;have nd:=LP.nd
 exact(aj (aN (i:=2) nd (aD cW (aD eL (aD a_ (aD a_ (!0) (aD eL ao (!1))) ao) ao) ao))
  (az (aG (aD cW (aD a_ (aD a_ (aD eL (!2) (!2)) (aD eL ao (!2))) (!1)) ao)))))
theorem vL:aq qf=pT:=rfl
theorem LR:Ii ["_law_number_here","_law_letters","_law_found","_law_k","_law_drawn_here","_law_word","_law_at_here"] ["_law_number_here"] pT:=by nofun
theorem vk (T:Top K mg):Kq P w K mg base 2 "_law_words" ["_law_number_here"] mC:=
 bd T.N4 vL LR (λf IB A outer s H E hr=>by
 and_intros;have nd:=LR.nd
 exact(aj (aN (i:=1) nd dO)
  (aj (aN (i:=2) nd rP)
  (aj (gr PassesOwn.never rfl (gN rfl T.Ko (ae ao ai)) (aL (i:=3) nd) (aj (aN (i:=4) nd (aH (gi T) (by symm) (ae (!0) (ae (!3) ai))))
  (aj (aN (i:=5) nd (aJ IA (!1) (aD cW (!4) ao)))
  (aj (gr PassesOwn.never rfl (gN rfl T.Ko (ae (aD eL (aD cW (aD kY (!4) ao) ao) (aD cW (!0) ao)) ai)) (aL (i:=6) nd) (az (aN (i:=5) nd (aD a_ (!5) (aJ IA (!1) (aD cW (aD kY (!4) (aD a_ (aD eL ao (!6)) ao)) ao))))))
  (az (v7 IA (!2) (aD a_ (!5) (aD eL dO (bw E8 T.Ql BK (ae (D6 hu IA Jc (!5) (lO (.tup (.cons (.str ⟨by decide,by decide⟩) (.cons (.str ⟨by decide,by decide⟩) (.cons (.str ⟨by decide,by decide⟩) .nil))) (by decide)))) ai)))) fG))))))
  (az (aG (bw eT T.IU bJ (ae (xu rfl rfl T.KW (!2)) ai))))))))
theorem vP:aq qj=Km:=rfl
theorem LS:Ii ["_law_number_here","_law_words_here"] ["_law_number_here","_law_words_here"] Km:=by nofun
theorem vo (T:Top K mg):Kq P w K mg base 1 "_law_names" ["_law_number_here","_law_words_here"] mF:=
 bd T.N5 vP LS (λf IB A outer s H E hr=>by
 and_intros;have nd:=LS.nd
 exact(az (aG (bw eT T.IU bJ (ae (bS (ts:=["_law_k","_law_word"]) (ix:=[0]) rfl ⟨rfl,by decide,by decide,by exists Km⟩ (by exists [0],["_law_number_here","_law_words_here"]) (rL rfl T.Ki (ae (!1) ai)) (λ_ _ _ _ _=>⟨(lN rfl (bM (aL (i:=0) (show (["_law_k","_law_word","_law_number_here"]:List Str).Nodup from by decide)) (bM (aL (i:=1) (show (["_law_k","_law_word","_law_number_here"]:List Str).Nodup from by decide)) jt))),(dW (bx (da hu) (aD cW (aD kY (!2) (aD a_ (aD eL ao (!0)) ao)) ao) ao)),(!1)⟩)) ai)))))
theorem zI:aq xw=xi:=rfl
theorem MX:Ii ["_law_number_here","_law_words_here","_law_many","_law_deep","_law_no","_law_yes"] ["_law_number_here","_law_words_here","_law_many","_law_deep"] xi:=by nofun
theorem mf (T:Top K mg):∀ n:Nat,Kq P w K mg base (n+1) "_law_key" ["_law_number_here","_law_words_here","_law_many","_law_deep"] (jH n)
 | 0=>je T.NI
 |n+1=>by
  have JO:=mf T n
  exact bd T.NI zI MX (λf IB A outer s H E hr=>by
   and_intros;have nd:=MX.nd
   exact(aj (cD (fZ (kL (bx (da hu) (!3) ao) (lL (bx (da hu) (aD cW (!0) ao) ao)))) (az (aG (eE (ae dO (ae (aH (vo T) (by symm) (ae (aD kY (!0) ao) (ae (!1) ai))) ai))))) bg)
    (aj (aN (i:=4) nd (aH JO (by symm) (ae (aH (gi T) (by symm) (ae (!0) (ae ao ai))) (ae (!1) (ae (!2) (ae (aD h_ (!3) ao) ai))))))
    (aj (aN (i:=5) nd (aH JO (by symm) (ae (aH (gi T) (by symm) (ae (!0) (ae ao ai))) (ae (!1) (ae (!2) (ae (aD h_ (!3) ao) ai))))))
    (az (aG (eE (ae dO (ae (aD cW (aD kY (!0) ao) (!2)) (ae (!4) (ae (!5) ai)))))))))))
theorem vO:aq qi=pV:=rfl
theorem LU:Ii ["_law_number_here","_law_many","_law_found","_law_k","_law_at_here"] ["_law_number_here","_law_many"] pV:=by nofun
theorem vn (T:Top K mg):Kq P w K mg base 2 "_law_order" ["_law_number_here","_law_many"] mE:=
 bd T.N6 vO LU (λf IB A outer s H E hr=>by
 and_intros;have nd:=LU.nd
 exact(aj (aN (i:=2) nd (gw ai))
  (aj (gr PassesOwn.never rfl (gN rfl T.Ko (ae (!1) ai)) (aL (i:=3) nd) (aj (aN (i:=4) nd (aD cW (aH (gi T) (by symm) (ae (!0) (ae (!3) ai))) (aD a_ (a8 cN T.Jw cI (ae (!2) ai)) ao)))
  (az (aN (i:=2) nd (aD a_ (aD a_ (n_ QI (!2) trivial (!4)) (gw (ae (!3) ai))) (n_ QI (!2) (!4) trivial))))))
  (az (aG (bw eT T.IU bJ (ae (!2) ai)))))))
theorem tF:aq oj=Ju:=rfl
theorem Lh:Ii ["_law_many","_law_found","_law_k"] ["_law_many"] Ju:=by nofun
theorem sT (T:Top K mg):Kq P w K mg base 1 "_law_things" ["_law_many"] iu:=
 bd T.Nl tF Lh (λf IB A outer s H E hr=>by
 and_intros;have nd:=Lh.nd
 exact(aj (aN (i:=1) nd (lO (.lst (.cons (.tup .nil (by decide)) .nil) (by decide))))
  (aj (gr PassesOwn.never rfl (gN rfl T.Ko (ae (!0) ai)) (aL (i:=2) nd) (az (aN (i:=1) nd (aD a_ (bS (ts:=["_law_thing"]) (ix:=[]) rfl ⟨rfl,by decide,by decide,by exists Ju⟩ (by exists [],["_law_many","_law_found","_law_k"]) (cv (!1)) (λ_ _ _ _ _=>⟨(aL (i:=0) (show (["_law_thing"]:List Str).Nodup from by decide)),f8,(aD a_ (!0) (lO (.tup (.cons .int .nil) (by decide))))⟩)) (bS (ts:=["_law_thing"]) (ix:=[]) rfl ⟨rfl,by decide,by decide,by exists Ju⟩ (by exists [],["_law_many","_law_found","_law_k"]) (cv (!1)) (λ_ _ _ _ _=>⟨(aL (i:=0) (show (["_law_thing"]:List Str).Nodup from by decide)),f8,(aD a_ (!0) (lO (.tup (.cons .int .nil) (by decide))))⟩))))))
  (az (aG (a8 Bv T.KW jG (ae (!1) ai)))))))
theorem tL:aq oq=nQ:=rfl
theorem Li:Ii ["_law_key_here","_law_thing"] ["_law_key_here","_law_thing"] nQ:=by nofun
theorem ir (T:Top K mg):∀ n:Nat,Kq P w K mg base (n+0) "_law_answer" ["_law_key_here","_law_thing"] (fW n)
 | 0=>je T.LM
 |n+1=>by
  have JO:=ir T n
  exact bd T.LM tL Li (λf IB A outer s H E hr=>by
   and_intros;have nd:=Li.nd
   exact(aj (cD (bx (da hu) (aJ IA (!0) ao) dO) (az (aG (aJ IA (!0) ao))) bg)
    (az (aG (aH JO (by symm) (ae (aJ IA (!0) (aD a_ ao (aJ IA (!1) (aJ IA (!0) ao)))) (ae (!1) ai)))))))
theorem BT:aq Ah=zM:=rfl
theorem NL:Ii ["_law_fold","_law_thing","_law_row"] ["_law_fold","_law_thing"] zM:=by nofun
theorem BA (T:Top K mg):Kq P w K mg base 1 "_law_at" ["_law_fold","_law_thing"] mG:=
 bd T.Q9 BT NL (λf IB A outer s H E hr=>by
 and_intros;have nd:=NL.nd
 exact(aj (aN (i:=2) nd (aJ IA (!0) (Dy zO ao)))
  (aj (zX PassesOwn.never (bx (qr hu) (aJ IA (!2) ao) dO) (az (aN (i:=2) nd (aJ IA (!0) (aJ IA (!2) (aD a_ ao (aJ IA (!1) (aJ IA (!2) ao))))))))
  (az (aG (aJ IA (!2) ao))))))
theorem tJ:aq on=nP:=rfl
theorem Lj:Ii ["_law_thing","_law_high"] ["_law_thing","_law_high"] nP:=by nofun
theorem ip (T:Top K mg):Kq P w K mg base 1 "_law_number" ["_law_thing","_law_high"] fV:=
 bd T.Nm tJ Lj (λf IB A outer s H E hr=>by
 and_intros;have nd:=Lj.nd
 exact(az (aG (oa (j4 C6 rfl T.IV T.Ql BK (!0)) (oa (D4 (j4 A5 rfl T.IV T.Q_ Dp (!0))) (wb (Ac DD DD ao (!0) (!1))))))))
theorem nM:aq jS=Jv:=rfl
theorem Kk:Ii ["_law_thing","_law_k","_law_part"] ["_law_thing"] Jv:=by nofun
theorem nA (T:Top K mg):Kq P w K mg base 1 "_law_are_names" ["_law_thing"] gF:=
 bd T.L7 nM Kk (λf IB A outer s H E hr=>by
 and_intros;have nd:=Kk.nd
 exact(aj (cD (fA (dM (j4 kit_tuple rfl T.IV T.IU bJ (!0)))) (az (aG fG)) bg)
  (aj (gr PassesOwn.never rfl (rL rfl T.Ki (ae (!0) ai)) (lN rfl (bM (aL (i:=1) nd) (bM (aL (i:=2) nd) jt))) (aj (cD (fZ (kL (fA (dM (j4 xO rfl T.IV T.Qm BH (!2)))) (kL (fA (zS ux ux ao (a8 cN T.Jw cI (ae (!2) ai)) ao)) (lL (fZ (zV (bx FU (!1) ao) (xp (fA (bx ux (aJ IA (!0) (aD h_ (!1) ao)) (!2)))))))))) (az (aG fG)) bg)
  (aj (cD (rn hu IA Jc (!2) (lO (.tup (.cons (.str ⟨by decide,by decide⟩) (.cons (.str ⟨by decide,by decide⟩) (.cons (.str ⟨by decide,by decide⟩) .nil))) (by decide)))) (az (aG fG)) bg)
  (az (cD (bx (qr hu) (bS (ts:=["_law_sign"]) (ix:=[]) rfl ⟨rfl,by decide,by decide,by exists Jv⟩ (by exists [],["_law_thing","_law_k","_law_part"]) (cv (!2)) (λ_ _ _ _ _=>⟨(aL (i:=0) (show (["_law_sign"]:List Str).Nodup from by decide)),(dW (bx ux (CU rfl dO (!0)) ao)),(!0)⟩)) (gw ai)) (az (aG fG)) bg)))))
  (az (aG fG)))))
theorem tK:aq oo=JW:=rfl
theorem Lk:Ii ["_law_fold","_law_at_here","_law_order_here","_law_row","_law_behind"] ["_law_fold","_law_at_here","_law_order_here"] JW:=by nofun
theorem sU (T:Top K mg):Kq P w K mg base 2 "_law_is_row" ["_law_fold","_law_at_here","_law_order_here"] kB:=
 bd T.Nn tK Lk (λf IB A outer s H E hr=>by
 and_intros;have nd:=Lk.nd
 exact(aj (aN (i:=3) nd (aJ IA (!0) (!1)))
  (aj (cD (fZ (kL (fA (dM (j4 kit_tuple rfl T.IV T.IU bJ (!3)))) (kL (bx (da hu) (a8 cN T.Jw cI (ae (!3) ai)) ao) (lL (rn hu IA Jc (!3) (n_ QI (!0) trivial (!1))))))) (az (aG fG)) bg)
  (aj (cD (dM (j4 xO rfl T.IV T.Qm BH (aJ IA (!3) ao))) (az (aG (oa (iZ (da hu) (aJ IA (!3) ao) dO) (oa (iZ (da hu) (a8 cN T.Jw cI (ae (!3) ai)) ao) (wb (aH (nA T) (by symm) (ae (aJ IA (!3) ao) ai))))))) bg)
  (aj (cD (fZ (kL (bx (qr hu) (a8 cN T.Jw cI (ae (!3) ai)) ao) (lL (fA (dM (aH (ip T) (by symm) (ae (aJ IA (!3) ao) (ae (aD h_ (a8 cN T.Jw cI (ae (!2) ai)) ao) ai)))))))) (az (aG fG)) bg)
  (aj (cD (fZ (kL (fA (dM (aH (ip T) (by symm) (ae (aJ IA (!3) ao) (ae (aD h_ (!1) ao) ai))))) (kL (fA (dM (aH (ip T) (by symm) (ae (aJ IA (!3) ao) (ae (aD h_ (!1) ao) ai))))) (lL (bx (da hu) (aJ IA (!3) ao) (aJ IA (!3) ao)))))) (az (aG fG)) bg)
  (aj (aN (i:=4) nd (n_ QI (!2) (aD a_ (AU rfl (bw E7 T.Np ti (ae (!2) ai)) (aJ IA (!3) ao)) ao) trivial))
  (az (aG (iZ (da hu) (bS (ts:=["_law_goal"]) (ix:=[4,0]) rfl ⟨rfl,by decide,by decide,by exists JW⟩ (by exists [4,0],["_law_fold","_law_at_here","_law_order_here","_law_row","_law_behind"]) (cv (n_ QI (!3) ao trivial)) (λ_ _ _ _ _=>⟨(aL (i:=0) (show (["_law_goal","_law_behind","_law_fold"]:List Str).Nodup from by decide)),(dW (fZ (zV (bx (qr hu) (aJ IA (aJ IA (!2) (!0)) ao) dO) (xp (ft hu IA Jc (aJ IA (aJ IA (!2) (!0)) ao) (!1)))))),(!0)⟩)) (gw ai)))))))))))
theorem yn:aq uf=KR:=rfl
theorem Mi:Ii ["_law_fold","_law_at_here","_law_row","_law_found","_law_goal"] ["_law_fold","_law_at_here"] KR:=by nofun
theorem pp (T:Top K mg):∀ n:Nat,Kq P w K mg base (n+0) "_law_left" ["_law_fold","_law_at_here"] (cR n)
 | 0=>je T.MV
 |n+1=>by
  have JO:=pp T n
  exact bd T.MV yn Mi (λf IB A outer s H E hr=>by
   and_intros;have nd:=Mi.nd
   exact(aj (aN (i:=2) nd (aJ IA (!0) (!1)))
    (aj (aN (i:=3) nd (gw ai))
    (aj (cD (bx (qr hu) (aJ IA (!2) ao) dO) (az (gr PassesOwn.never rfl (cv (n_ QI (!2) ao trivial)) (aL (i:=4) nd) (az (aN (i:=3) nd (aD a_ (!3) (bS (ts:=["_law_one"]) (ix:=[3]) rfl ⟨rfl,by decide,by decide,by exists KR⟩ (by exists [3],["_law_fold","_law_at_here","_law_row","_law_found","_law_goal"]) (cv (aH JO (by symm) (ae (!0) (ae (!4) ai)))) (λ_ _ _ _ _=>⟨(aL (i:=0) (show (["_law_one","_law_found"]:List Str).Nodup from by decide)),(dW (ft hu IA Jc (!0) (!1))),(!0)⟩))))))) bg)
    (az (aG (aD a_ (!3) (gw (ae (!1) ai)))))))))
theorem rc:aq mO=mI:=rfl
theorem K1:Ii ["_law_fold","_law_order_here","_law_at_here"] ["_law_fold","_law_order_here"] mI:=by nofun
theorem pP (T:Top K mg):Kq P w K mg base 12 "_law_is_fold" ["_law_fold","_law_order_here"] jj:=
 bd T.MW rc K1 (λf IB A outer s H E hr=>by
 and_intros;have nd:=K1.nd
 exact(aj (cD (fZ (kL (fA (dM (j4 kit_tuple rfl T.IV T.IU bJ (!0)))) (lL (bx (da hu) (a8 cN T.Jw cI (ae (!0) ai)) ao)))) (az (aG fG)) bg)
  (aj (gr PassesOwn.never rfl (gN rfl T.Ko (ae (a8 cN T.Jw cI (ae (!0) ai)) ai)) (aL (i:=2) nd) (az (cD (fA (dM (aH (sU T) (by symm) (ae (!0) (ae (!2) (ae (!1) ai)))))) (az (aG fG)) bg)))
  (az (aG (iZ (da hu) (aH (pp T 11) (by symm) (ae (!0) (ae (aD h_ (a8 cN T.Jw cI (ae (!0) ai)) ao) ai))) (pJ rfl rfl rfl T.Np T.Ko (ae (a8 cN T.Jw cI (ae (!0) ai)) ai))))))))
theorem ym:aq ue=tN:=rfl
theorem Mj:Ii ["_law_script","_law_most","_law_many","_law_words_here","_law_key_here"] ["_law_script","_law_most"] tN:=by nofun
theorem wU (T:Top K mg):Kq P w K mg base 10 "_law_made" ["_law_script","_law_most"] lp:=
 bd T.OT ym Mj (λf IB A outer s H E hr=>by
 and_intros;have nd:=Mj.nd
 exact(aj (aN (i:=2) nd (aD a_ ao (aD cW (aH (cG T) (by symm) (ae (!0) (ae ao ai))) (!1))))
  (aj (aN (i:=3) nd (aH (vk T) (by symm) (ae (aH (cG T) (by symm) (ae (!0) (ae ao ai))) ai)))
  (aj (aN (i:=4) nd (aH (mf T 8) (by symm) (ae (aH (cG T) (by symm) (ae (!0) (ae ao ai))) (ae (!3) (ae (!2) (ae (aD a_ ao (aD cW (aH (cG T) (by symm) (ae (!0) (ae ao ai))) ao)) ai))))))
  (az (aG (eE (ae (!2) (ae (!3) (ae (!4) (ae (aH (vn T) (by symm) (ae (aH (cG T) (by symm) (ae (!0) (ae ao ai))) (ae (!2) ai))) ai)))))))))))
theorem vM:aq qg=Kn:=rfl
theorem LV:Ii ["_law_ones","_law_others"] ["_law_ones","_law_others"] Kn:=by nofun
theorem vm (T:Top K mg):Kq P w K mg base 1 "_law_union" ["_law_ones","_law_others"] mD:=
 bd T.N7 vM LV (λf IB A outer s H E hr=>by
 and_intros;have nd:=LV.nd
 exact(az (aG (bw eT T.IU bJ (ae (xu rfl rfl T.KW (aD a_ (!0) (bw eT T.IU bJ (ae (bS (ts:=["_law_name"]) (ix:=[0]) rfl ⟨rfl,by decide,by decide,by exists Kn⟩ (by exists [0],["_law_ones","_law_others"]) (cv (!1)) (λ_ _ _ _ _=>⟨(aL (i:=0) (show (["_law_name","_law_ones"]:List Str).Nodup from by decide)),(dW (ft hu IA Jc (!0) (!1))),(!0)⟩)) ai)))) ai)))))
theorem DM:aq Ag=Ku:=rfl
theorem OU:Ii ["_law_script","_law_many","_law_words_here","_law_key_here","_law_order_here","_law_other","_law_one","_law_two","_law_found","_law_thing","_law_ones","_law_others","_law_due"] ["_law_script"] Ku:=by nofun
theorem EX (T:Top K mg){f:Addr}{fd:FuncData}(Fn:ML K "law" "law" Ag f fd):Of P w K mg base 38 f fd ["_law_script"] BQ:=
 ki Fn DM OU (λ_ IB A outer s H E hr=>by
 and_intros;have nd:=OU.nd
 exact(aj (DX (aH (wU T) (by symm) (ae (!0) (ae ao ai))) (lN rfl (bM (aL (i:=1) nd) (bM (aL (i:=2) nd) (bM (aL (i:=3) nd) (bM (aL (i:=4) nd) jt))))))
  (aj (aN (i:=5) nd (aH (mf T 8) (by symm) (ae (aH (cG T) (by symm) (ae (!0) (ae ao ai))) (ae (!2) (ae (!1) (ae (aD a_ ao (aD cW (aH (cG T) (by symm) (ae (!0) (ae ao ai))) ao)) ai))))))
  (aj (aN (i:=6) nd (aH (iq T) (by symm) (ae (!3) (ae (!4) ai))))
  (aj (aN (i:=7) nd (aH (iq T) (by symm) (ae (!5) (ae (!4) ai))))
  (aj (aN (i:=8) nd (gw (ae (aH (wV T) (by symm) (ae (!6) (ae (!7) (ae (!4) ai)))) (ae (aH (wW T) (by symm) (ae (!6) (ae (!7) (ae (!4) ai)))) (ae (aH (Bz T) (by symm) (ae (!6) (ae (!7) (ae (!4) ai)))) ai)))))
  (aj (cD (bx (qr hu) (bS (ts:=["_law_fold"]) (ix:=[4]) rfl ⟨rfl,by decide,by decide,by exists Ku⟩ (by exists [4],["_law_script","_law_many","_law_words_here","_law_key_here","_law_order_here","_law_other","_law_one","_law_two","_law_found","_law_thing","_law_ones","_law_others","_law_due"]) (cv (!8)) (λ_ _ _ _ _=>⟨(aL (i:=0) (show (["_law_fold","_law_order_here"]:List Str).Nodup from by decide)),(dW (fA (dM (aH (pP T) (by symm) (ae (!0) (ae (!1) ai)))))),(!0)⟩)) (gw ai)) (az (aG fG)) bg)
  (aj (gr PassesOwn.never rfl (cv (aH (sT T) (by symm) (ae (!1) ai))) (aL (i:=9) nd) (aj (aN (i:=10) nd (aH (ir T 15) (by symm) (ae (!3) (ae (!9) ai))))
  (aj (aN (i:=11) nd (aH (ir T 15) (by symm) (ae (!5) (ae (!9) ai))))
  (aj (aN (i:=12) nd (Aa (ae (aH (vm T) (by symm) (ae (!10) (ae (!11) ai))) (ae (bw eT T.IU bJ (ae (bS (ts:=["_law_name"]) (ix:=[11]) rfl ⟨rfl,by decide,by decide,by exists Ku⟩ (by exists [11],["_law_script","_law_many","_law_words_here","_law_key_here","_law_order_here","_law_other","_law_one","_law_two","_law_found","_law_thing","_law_ones","_law_others","_law_due"]) (cv (!10)) (λ_ _ _ _ _=>⟨(aL (i:=0) (show (["_law_name","_law_others"]:List Str).Nodup from by decide)),(dW (rn hu IA Jc (!0) (!1))),(!0)⟩)) ai)) ai))))
  (aj (nE (Ae rfl (!12) (bw eT T.IU bJ (ae (bS (ts:=["_law_name"]) (ix:=[11]) rfl ⟨rfl,by decide,by decide,by exists Ku⟩ (by exists [11],["_law_script","_law_many","_law_words_here","_law_key_here","_law_order_here","_law_other","_law_one","_law_two","_law_found","_law_thing","_law_ones","_law_others","_law_due"]) (cv (!10)) (λ_ _ _ _ _=>⟨(aL (i:=0) (show (["_law_name","_law_others"]:List Str).Nodup from by decide)),(dW (ft hu IA Jc (!0) (!1))),(!0)⟩)) ai))))
  (az (cD (DR hu (bS (ts:=["_law_fold"]) (ix:=[9]) rfl ⟨rfl,by decide,by decide,by exists Ku⟩ (by exists [9],["_law_script","_law_many","_law_words_here","_law_key_here","_law_order_here","_law_other","_law_one","_law_two","_law_found","_law_thing","_law_ones","_law_others","_law_due"]) (cv (!8)) (λ_ _ _ _ _=>⟨(aL (i:=0) (show (["_law_fold","_law_thing"]:List Str).Nodup from by decide)),f8,(aH (BA T) (by symm) (ae (!0) (ae (!1) ai)))⟩)) (!12)) (az (aG fG)) bg)))))))
  (az (aG (oa (iZ (da hu) (!6) (aH (iq T) (by symm) (ae (!3) (ae (!4) ai)))) (wb (iZ (da hu) (!7) (aH (iq T) (by symm) (ae (!5) (ae (!4) ai))))))))))))))))
end
end Iu
namespace Iu
open PySem L2 PyProof.Rows
def isLet (c:Nat):Bool:=decide (97<=c)&&decide (c<=122)
def lets (x:Str):Bool:=x.cps.toList.all isLet
def kept (x:Str):Bool:=decide (x="names") ||(decide (x="ask") ||decide (x="end"))
def db (x:Str):Bool:=!kept x&&(decide (1<=x.length)&&(decide (x.length<=8)&&lets x))
def Hq:D->Bool
 | .str x=>db x
 |_=>false
abbrev LX:Str:="abcdefghijklmnopqrstuvwxyz"
theorem Bh:∀ k:Nat,k<26->0<=Txt.find LX ⟨#[97+k]⟩:=by
 intro k a;have h:∀ k:_root_.Fin 26,0<=Txt.find LX ⟨#[97+k.val]⟩:=by decide
 exact h ⟨k,a⟩
theorem pC:LX.cps.toList.all isLet=true:=by decide
theorem Bi (c:Nat):decide (Txt.find LX ⟨#[c]⟩<0) = !isLet c:=by
 by_cases h : 97<=c/\c<=122
 ·have q:=Bh (c-97) (by omega);rw[show 97+(c-97)=c by omega] at q;have e:isLet c=true:=by simp[isLet,h]
  rw[e,decide_eq_false (by omega)];rfl
 have e:isLet c=false:=by simp only[isLet,Bool.and_eq_false_iff,decide_eq_false_iff_not];omega
 rw[e];rcases StrLaws.occ_head LX ⟨#[c]⟩ 1 (le_refl _) with ⟨d,_⟩ |⟨i,r,d,j,_⟩
 ·have:Txt.find LX ⟨#[c]⟩ = -1:=by unfold Txt.find;rw[d]
  rw[this];rfl
 exfalso;obtain⟨k,a⟩:=j;unfold Builtin.Str.subAt at a;have g:=eq_of_beq a;have f:c∈(LX.cps.extract i (i+(⟨#[c]⟩:Str).length)).toList:=by rw[g];simp
 rw[toList_extract] at f;have b:=all_eq_true.mp pC c (mem_of_mem_drop (mem_of_mem_take f));rw[e] at b;cases b
theorem bP {α:Type}{xs:List α}{i:Nat}{v : α}(h:xs[i]?=some v):Lo xs (i:Int)=some v:=by
 have a:i<xs.length:=(List.getElem?_eq_some_iff.mp h).1;have e:P0 xs.length (i:Int)=some i:=by unfold P0;rw[if_pos (by omega),if_pos (by omega)];simp
 unfold Lo;rw[e];exact h
end Iu
namespace L2
open PySem PyProof.Rows
theorem oQ {K:Type}[DecidableEq K]:∀ (l b:List K),b.Nodup->(l.foldl bY b).Nodup
 |[],b,h=>h
 |a::l,b,h=>by
  rw[foldl_cons];refine oQ l _ ?_;unfold bY;split
  ·exact h
  rename_i c;refine nodup_append.mpr ⟨h,by simp,λx d y e=>?_⟩;rw[mem_singleton.mp e];rintro rfl;exact c d
theorem qE {K:Type}[DecidableEq K]:∀ (l b:List K) (k:K),k∈l.foldl bY b↔k∈b∨k∈l
 |[],b,k=>by simp
 |a::l,b,k=>by
  rw[foldl_cons,qE l,mem_cons];unfold bY;split
  ·constructor
   ·rintro (h |h)
    ·exact .inl h
    exact .inr (.inr h)
   rintro (h |rfl |h)
   ·exact .inl h
   ·left;assumption
   exact .inr h
  simp only[mem_append,mem_singleton];constructor
  ·rintro ((h |h) |h)
   ·exact .inl h
   ·exact .inr (.inl h)
   exact .inr (.inr h)
  rintro (h |h |h)
  ·exact .inl (.inl h)
  ·exact .inl (.inr h)
  exact .inr h
theorem wE (a:Str):LF a a=false:=by unfold LF;exact decide_eq_false (List.lt_irrefl _)
theorem y9 {a b c:Str}(h:LF a b=true)(g:LF b c=true):LF a c=true:=by
 unfold LF at *
 exact decide_eq_true (List.lt_trans (of_decide_eq_true h) (of_decide_eq_true g))
theorem k7 {a b:Str}(h:L1 a b=true)(n:a≠b):LF a b=true:=by
 cases q:LF a b with
 |true=>rfl
 |false=>exact absurd (uQ h (by unfold L1;rw[q];rfl)) n
def OV:List Str->Bool
 |a::b::r=>LF a b&&OV (b::r)
 |_=>true
theorem fq:∀ {l:List Str},OV l=true->l.Pairwise λa b=>LF a b=true
 |[],_ => .nil
 |[a],_=>by simp
 |a::b::r,h=>by
  rw[OV,and_eq_true] at h;have d:=fq h.2;refine .cons (λc hc=>?_) d;rcases mem_cons.mp hc with rfl |hc
  ·exact h.1
  exact y9 h.1 ((pairwise_cons.mp d).1 c hc)
theorem eX:∀ {l:List Str},(l.Pairwise λa b=>LF a b=true)->OV l=true
 |[],_=>rfl
 |[a],_=>rfl
 |a::b::r,h=>by
  obtain⟨d,c⟩:=pairwise_cons.mp h;rw[OV,and_eq_true];exact⟨d b (mem_cons_self ..),eX c⟩
theorem CO {i j:Int}(d : -1000000000000<j)(c:j<1000000000000):mS i j=true:=by unfold mS;have b:decide (-(2 ^ 64)<j)=true:=decide_eq_true (by omega);have a:decide (j<2 ^ 64)=true:=decide_eq_true (by omega);rw[b,a];simp
theorem CP {i j:Int}(d : -1000000000000<i)(c:i<1000000000000):mS i j=true:=by unfold mS;have b:decide (-(2 ^ 64)<i)=true:=decide_eq_true (by omega);have a:decide (i<2 ^ 64)=true:=decide_eq_true (by omega);rw[b,a];simp
theorem uG (i j:Int):de (.int i) (.int j)=if mS i j=true then some (.int (i*j)) else none:=rfl
theorem uF (x:Str)(n:Int):de (.str x) (.int n)=if -1000<=n/\n<1 then some (.str ⟨#[]⟩) else if 1<=n/\n<=1000/\x.length<=1000 then some (.str ⟨(replicate n.toNat x.cps.toList).flatten.toArray⟩) else none:=rfl
theorem AR (i j:Int):cL (.int i) (.int j)=if 0<j then some (.int (i % j)) else none:=rfl
theorem zt (i j:Int):g_ (.int i) (.int j)=if 0<j/\j<1073741824 then some (.int (i / j)) else none:=rfl
theorem zF (x y:Str):bG (.str x) (.str y)=if x.length+y.length<=sizeLine then some (.str (x++y)) else none:=rfl
theorem q8 (x y:List D):bG (.tup x) (.tup y)=if x.length+y.length<=sizeLine then some (.tup (x++y)) else none:=rfl
theorem mB (x y:List D):bG (.lst x) (.lst y)=if x.length+y.length<=sizeLine then some (.lst (x++y)) else none:=rfl
theorem yD (j:Int):f_ [.int j]=if -(2 ^ 62)<=j/\j<=16777216 then some ((List.range j.toNat).map λ(k:Nat)=>D.int k) else none:=rfl
theorem AO {i j:Int}(a : -1000000000000<j)(b:j<1000000000000):de (.int i) (.int j)=some (.int (i*j)):=by rw[uG,if_pos (CO a b)]
theorem ic {i j:Int}(a : -1000000000000<i)(b:i<1000000000000):de (.int i) (.int j)=some (.int (i*j)):=by rw[uG,if_pos (CP a b)]
@[simp] theorem Go (i j:Int):bG (.int i) (.int j)=some (.int (i+j)):=rfl
@[simp] theorem FC (i j:Int):jJ (.int i) (.int j)=some (.int (i-j)):=rfl
theorem bI {i j:Int}(h : 0<j):cL (.int i) (.int j)=some (.int (i % j)):=by rw[AR,if_pos h]
theorem jD {i j:Int}(h : 0<j)(a:j<1073741824):g_ (.int i) (.int j)=some (.int (i / j)):=by rw[zt,if_pos ⟨h,a⟩]
end L2
namespace Iu
open PySem L2 PyProof.Rows
theorem wS (ns:List Int)(k:Nat)(S:Ig):jk [.lst (ns.map .int),.int k] S=Ip (.int (ns.getD k 0)) S:=by
 refine aC rfl ?_;unfold mZ;by_cases h:k<ns.length
 ·have b:((k:Int)<ns.length):=by omega
  have a:ns[k]?=some ns[k]:=List.getElem?_eq_getElem h;have e:Lo (ns.map D.int) (k:Int)=some (.int ns[k]):=bP (by rw[getElem?_map,a];rfl);simp[b_,Ob,h,I_,bE,O5,e,List.getD,a]
 have a:ns[k]?=none:=List.getElem?_eq_none (by omega);simp[b_,Ob,h,List.getD,a]
def mix (ns:List Int)(k:Nat):Int:=
 let d:=(ns.getD k 0+7919*(k:Int)+1)*48271 % 2147483647
 (d*d+7*d+(k:Int)) % 2147483629
theorem oF (ns:List Int)(k:Nat) : 0<=mix ns k:=Int.emod_nonneg _ (by decide)
theorem fM (ns:List Int)(k:Nat)(S:Ig):bi [.lst (ns.map .int),.int k] S=Ip (.int (mix ns k)) S:=by
 refine aC rfl ?_;unfold qL;have a:=wS ns k;have e:∀ x:Int,de (.int 7919) (.int x)=some (.int (7919*x)):=λx=>ic (by decide) (by decide);have g:∀ x:Int,de (.int x) (.int 48271)=some (.int (x*48271)):=λx=>AO (by decide) (by decide);have f:∀ x:Int,cL (.int x) (.int 2147483647)=some (.int (x % 2147483647)):=λx=>bI (by decide);have d:∀ x:Int,cL (.int x) (.int 2147483629)=some (.int (x % 2147483629)):=λx=>bI (by decide);have b:∀ x:Int,de (.int 7) (.int x)=some (.int (7*x)):=λx=>ic (by decide) (by decide);have c:∀ x:Int,de (.int (x % 2147483647)) (.int (x % 2147483647))=some (.int (x % 2147483647*(x % 2147483647))):=λx=>by have i:=Int.emod_nonneg x (show (2147483647:Int)≠0 by decide);have h:=Int.emod_lt_of_pos x (show (0:Int)<2147483647 by decide);exact ic (by omega) (by omega)
 simp[a,e,g,f,d,b,c,mix]
def K2 (n k:Int):Int:=
 let d:=(n+104729*k+17)*69621 % 2147483647
 (d*d+3*d+k) % 2147483629
theorem km (n k:Int) : 0<=K2 n k:=Int.emod_nonneg _ (by decide)
theorem lc (n k:Int)(S:Ig):fx [.int n,.int k] S=Ip (.int (K2 n k)) S:=by
 refine aC rfl ?_;unfold qM;have d:∀ x:Int,de (.int 104729) (.int x)=some (.int (104729*x)):=λx=>ic (by decide) (by decide);have f:∀ x:Int,de (.int x) (.int 69621)=some (.int (x*69621)):=λx=>AO (by decide) (by decide);have e:∀ x:Int,cL (.int x) (.int 2147483647)=some (.int (x % 2147483647)):=λx=>bI (by decide);have c:∀ x:Int,cL (.int x) (.int 2147483629)=some (.int (x % 2147483629)):=λx=>bI (by decide);have a:∀ x:Int,de (.int 3) (.int x)=some (.int (3*x)):=λx=>ic (by decide) (by decide);have b:∀ x:Int,de (.int (x % 2147483647)) (.int (x % 2147483647))=some (.int (x % 2147483647*(x % 2147483647))):=λx=>by have h:=Int.emod_nonneg x (show (2147483647:Int)≠0 by decide);have g:=Int.emod_lt_of_pos x (show (0:Int)<2147483647 by decide);exact ic (by omega) (by omega)
 simp[d,f,e,c,a,b,K2]
def Wd (n:Nat)(x:Str):Prop:=x.length<=n/\∀ c∈x.cps.toList,c<128
theorem w_ (x y:Str):(x++y).cps.toList=x.cps.toList++y.cps.toList:=by show (x.cps++y.cps).toList=_;simp
theorem yg (x y:Str):(x++y).length=x.length+y.length:=by show (x.cps++y.cps).size=_;rw[Array.size_append];rfl
theorem GV (i:Int)(f : 0<=i)(g:i<26)(S:Ig):∃ x:Str,I_ (.str "abcdefghijklmnopqrstuvwxyz") (.int i) S=some (.str x)/\Wd 1 x:=by
 obtain⟨k,rfl⟩:∃ k:Nat,i=k:=⟨i.toNat,by omega⟩
 have a:k<LX.cps.toList.length:=by
  have:LX.cps.toList.length=26:=by decide
  omega
 have e:Lo LX.cps.toList (k:Int)=some LX.cps.toList[k]:=bP (List.getElem?_eq_getElem a);refine⟨⟨#[LX.cps.toList[k]]⟩,?_,le_refl _,λc b=>?_⟩
 ·unfold I_;rw[if_neg (by simp[bE])];unfold O5;simp only[e];rfl
 have d:c=LX.cps.toList[k]:=by simpa using b
 have q:=all_eq_true.mp pC LX.cps.toList[k] (getElem_mem a);rw[d];simp only[isLet,and_eq_true,decide_eq_true_eq] at q;omega
theorem Cg (j:Int)(a : 0<=j)(b:j<=1000):f_ [.int j]=some ((List.range j.toNat).map λ(k:Nat)=>D.int k):=by rw[yD,if_pos (by omega)]
theorem gS {n j:Nat}{d:D}(h:((List.range n).map λ(k:Nat)=>D.int k)[j]?=some d):d = .int j/\j<n:=by rw[getElem?_map] at h;obtain⟨x,c,rfl⟩:=map_eq_some_iff.mp h;obtain⟨b,a⟩:=List.getElem?_eq_some_iff.mp c;simp at b a;exact⟨by rw[← a],b⟩
theorem FH (b:Bool):de (.str "q") (.int (if b then 1 else 0))=some (.str (if b then "q" else ⟨#[]⟩)):=by
 cases b
 ·rw[uF,if_pos (by decide)];rfl
 rw[uF,if_neg (by decide),if_pos ⟨by decide,by decide,by decide⟩];rfl
def N8 (d:D)(s:Str):Bool:=match d with
 | .str y=>decide (y=s)
 |_=>false
theorem Bk {d:D}(h:pl d=true)(s:Str):JH d (.str s)=some (.bl (N8 d s)):=by
 obtain⟨p,e⟩:=rz h;have c:toPy (.str s)=some (.str s):=rfl;unfold JH;rw[e,c];have hd:min p.depth (PyData.str s).depth<=150:=Nat.le_trans (Nat.min_le_right _ _) (by simp[PyData.depth]);simp only[hd,if_true];cases d with
 |str y=>rw[toPy] at e;cases e;simp[PyData.eqv,N8,BF]
 |tup b=>rw[toPy] at e;obtain⟨a,_,rfl⟩:=map_eq_some_iff.mp e;simp[PyData.eqv,N8]
 |lst b=>rw[toPy] at e;obtain⟨a,_,rfl⟩:=map_eq_some_iff.mp e;simp[PyData.eqv,N8]
 |set _=>simp[pl] at h
 |loc _=>simp[pl] at h
 |fn _ _=>simp[pl] at h
 |_=>rw[toPy] at e;cases e;simp[PyData.eqv,N8]
theorem uC {d:D}(h:pl d=true)(s:Str):K3 d (.str s)=some (.bl (!N8 d s)):=by
 obtain⟨p,e⟩:=rz h;have c:toPy (.str s)=some (.str s):=rfl;unfold K3;rw[e,c];have hd:min p.depth (PyData.str s).depth<=150:=Nat.le_trans (Nat.min_le_right _ _) (by simp[PyData.depth]);simp only[hd,if_true];cases d with
 |str y=>rw[toPy] at e;cases e;simp[PyData.eqv,N8,BF]
 |tup b=>rw[toPy] at e;obtain⟨a,_,rfl⟩:=map_eq_some_iff.mp e;simp[PyData.eqv,N8]
 |lst b=>rw[toPy] at e;obtain⟨a,_,rfl⟩:=map_eq_some_iff.mp e;simp[PyData.eqv,N8]
 |set _=>simp[pl] at h
 |loc _=>simp[pl] at h
 |fn _ _=>simp[pl] at h
 |_=>rw[toPy] at e;cases e;simp[PyData.eqv,N8]
theorem M5 (xs:List D)(a:D)(S:Ig):I_ (.tup (a::xs)) (.int 0) S=some a:=by unfold I_;rw[if_neg (by simp[bE])];exact bP (i:=0) rfl
theorem OW (xs:List D)(a b:D)(S:Ig):I_ (.tup (a::b::xs)) (.int 1) S=some b:=by unfold I_;rw[if_neg (by simp[bE])];exact bP (i:=1) rfl
theorem at2 (xs:List D)(a b c:D)(S:Ig):I_ (.tup (a::b::c::xs)) (.int 2) S=some c:=by unfold I_;rw[if_neg (by simp[bE])];exact bP (i:=2) rfl
theorem W5 (xs:List D)(a b c d:D)(S:Ig):I_ (.tup (a::b::c::d::xs)) (.int 3) S=some d:=by unfold I_;rw[if_neg (by simp[bE])];exact bP (i:=3) rfl
theorem oE (x:Int){n:Int}(h : 0<n) : 0<=x % n/\x % n<n:=⟨Int.emod_nonneg x (by omega),Int.emod_lt_of_pos x h⟩
def Wl (n:Nat)(x:Str):Prop:=1<=x.length/\x.length<=n/\lets x=true
theorem AY (x y:Str):lets (x++y)=(lets x&&lets y):=by unfold lets;rw[w_,List.all_append]
theorem Wl.app {n m:Nat}{x y:Str}(h:Wl n x)(g:Wl m y):Wl (n+m) (x++y):=by obtain⟨a,b,c⟩:=h;obtain⟨e,f,d⟩:=g;refine⟨by rw[yg];omega,by rw[yg];omega,by rw[AY,c,d];rfl⟩
theorem xL (i:Int)(b : 0<=i)(c:i<26)(S:Ig):∃ x:Str,I_ (.str "abcdefghijklmnopqrstuvwxyz") (.int i) S=some (.str x)/\Wl 1 x:=by
 obtain⟨k,rfl⟩:∃ k:Nat,i=k:=⟨i.toNat,by omega⟩
 have a:k<LX.cps.toList.length:=by
  have:LX.cps.toList.length=26:=by decide
  omega
 have e:Lo LX.cps.toList (k:Int)=some LX.cps.toList[k]:=bP (List.getElem?_eq_getElem a);refine⟨⟨#[LX.cps.toList[k]]⟩,?_,le_refl _,le_refl _,?_⟩
 ·unfold I_;rw[if_neg (by simp[bE])];unfold O5;simp only[e];rfl
 have q:=all_eq_true.mp pC LX.cps.toList[k] (getElem_mem a);show ([LX.cps.toList[k]]:List Nat).all isLet=true;rw[all_cons,q];rfl
theorem BM {n m:Nat}{x y:Str}(h:Wl n x)(g:y.length<=m)(a:n+m<=1000):bG (.str x) (.str y)=some (.str (x++y)):=by have b:=h.2.1;rw[zF,if_pos (Nat.le_trans (show x.length+y.length<=1000 by omega) (by decide))]
theorem Fc (n:Int)(l:D)(k b:Int)(a:Str)(i:Nat)(S:Ig)(e:Wl (i+1) a)(hi:i<=10)(o : 0<=b):∃ c:Str,Wl (i+2) c /\
  gp [some (.int n),some (.str "abcdefghijklmnopqrstuvwxyz"),some l,some (.int k),some (.int b),some (.str a),some (.int i)] S=Ip (.next [some (.int n),some (.str "abcdefghijklmnopqrstuvwxyz"),some l,some (.int k),some (.int b),some (.str c),some (.int i)]) S:=by
 have h:de (.int 31) (.int i)=some (.int (31*i)):=ic (by decide) (by decide);have m:g_ (.int b) (.int (31*(i:Int)+29))=some (.int (b / (31*(i:Int)+29))):=jD (by omega) (by omega);have j:cL (.int (b / (31*(i:Int)+29))) (.int 26)=some (.int (b / (31*(i:Int)+29) % 26)):=bI (by decide);obtain⟨x,g,d⟩:=xL (b / (31*(i:Int)+29) % 26) (Int.emod_nonneg _ (by decide)) (Int.emod_lt_of_pos _ (by decide)) S;have f:=BM e d.2.1 (by omega);refine⟨a++x,e.app d,?_⟩;unfold gp;simp[h,m,j,g,f]
theorem GX (x:Str)(S:Ig):MP false (.str x) (.tup [.str "names",.str "ask",.str "end"]) S=some (.bl (kept x)):=by have e:=Vv x "names" "ask" "end";unfold MP;rw[if_neg (by simp[bE]),if_neg (by decide)];rw[e];unfold kept;simp[eq_comm]
theorem F0 {x:Str}(h:kept x=true):db (x++("q":Str))=true:=by simp only[kept,or_eq_true,decide_eq_true_eq] at h;rcases h with rfl |rfl |rfl<;>decide
theorem FW {x:Str}(h:Wl 8 x):db (x++(if kept x then ("q":Str) else ⟨#[]⟩))=true:=by
 cases hk:kept x with
 |true=>exact F0 hk
 |false =>
  have e:x++(⟨#[]⟩:Str)=x:=by show (⟨x.cps++#[]⟩:Str)=x;simp
  simp only[false_eq_true,if_false,e];unfold db;rw[hk,decide_eq_true h.1,decide_eq_true h.2.1,h.2.2];rfl
def Ml (n:Nat)(kvs:List (D×D)):Prop:=kvs.length<=n/\∃ a:List Str,kvs.map (·.1)=a.map .str/\a.Nodup/\∀ x∈a,db x=true
theorem yC (x y:Str):fH (.str x) (.str y)=decide (x=y):=by simp[fH,eY]
theorem Ml.put {n:Nat}{kvs:List (D×D)}{x:Str}{v:D}(h:Ml n kvs)(f:db x=true):Ml (n+1) (putD kvs (.str x) v):=by
 obtain⟨m,c,e,nd,k⟩:=h;unfold putD;split
 ·refine⟨by rw[length_map];omega,c,?_,nd,k⟩;rw[map_map,← e];refine map_congr_left λp _=>?_;simp only[Function.comp];split<;>rfl
 rename_i g;refine⟨by rw[List.length_append,length_singleton];omega,c++[x],by simp[e],?_,λy hy=>?_⟩
 ·refine nodup_append.mpr ⟨nd,by simp,λa d b l=>?_⟩;rw[mem_singleton.mp l];rintro rfl;apply g;have i:D.str a∈kvs.map (·.1):=by rw[e];exact List.mem_map_of_mem d
  obtain⟨p,j,q⟩:=mem_map.mp i;rw[List.any_eq_true];exact⟨p,j,by rw[q,yC];simp⟩
 rcases mem_append.mp hy with hy |hy
 ·exact k y hy
 rw[mem_singleton.mp hy];exact f
theorem Fb (n:Int)(k:Nat)(S:Ig)(kvs:List (D×D))(b c d:Option D)(s:Ml k kvs)(hk:k<6):∃ K H d' l,Ml (k+1) l /\
  gm [some (.int n),some (.str "abcdefghijklmnopqrstuvwxyz"),some (.loc S.length),some (.int k),b,c,d] (S++[.dict kvs])=Ip (.next [some (.int n),some (.str "abcdefghijklmnopqrstuvwxyz"),some (.loc S.length),some (.int k),K,H,d']) (S++[.dict l]):=by
 have T:=lc n k;have P:=km n k;have M:cL (.int (K2 n k)) (.int 26)=some (.int (K2 n k % 26)):=bI (by decide);obtain⟨x,E,C⟩:=xL (K2 n k % 26) (Int.emod_nonneg _ (by decide)) (Int.emod_lt_of_pos _ (by decide)) (S++[.dict kvs]);have X:g_ (.int (K2 n k)) (.int 26)=some (.int (K2 n k / 26)):=jD (by decide) (by decide);have U:cL (.int (K2 n k / 26)) (.int 8)=some (.int (K2 n k / 26 % 8)):=bI (by decide);have y:cL (.int n) (.int 2)=some (.int (n % 2)):=bI (by decide);have Z:=Int.emod_nonneg (K2 n k / 26) (show (8:Int)≠0 by decide);have b2:=Int.emod_lt_of_pos (K2 n k / 26) (show (0:Int)<8 by decide);have b3:=Int.emod_nonneg n (show (2:Int)≠0 by decide);have b4:=Int.emod_lt_of_pos n (show (0:Int)<2 by decide);have o:de (.int (K2 n k / 26 % 8)) (.int (n % 2))=some (.int (K2 n k / 26 % 8*(n % 2))):=ic (by omega) (by omega)
 have f : 0<=K2 n k / 26 % 8*(n % 2)/\K2 n k / 26 % 8*(n % 2)<=7:=by
  have:n % 2=0∨n % 2=1:=by omega
  rcases this with h |h<;>rw[h]<;>omega
 have q:=Cg (K2 n k / 26 % 8*(n % 2)) f.1 (by omega);generalize K2 n k / 26 % 8*(n % 2)=m at o q f
 obtain⟨N,S',F,p⟩:=dB (u:=aE 6) (body:=gp) (λi r g=>g=S++[.dict kvs]/\i<=7/\∃ (w:Str) (z:Option D),Wl (i+1) w/\r=[some (.int n),some (.str "abcdefghijklmnopqrstuvwxyz"),some (.loc S.length),some (.int k),some (.int (K2 n k)),some (.str w),z])
  ((List.range m.toNat).map λ(k:Nat)=>D.int k) 0 [some (.int n),some (.str "abcdefghijklmnopqrstuvwxyz"),some (.loc S.length),some (.int k),some (.int (K2 n k)),some (.str x),d] (S++[.dict kvs]) ⟨rfl,by omega,x,d,C,rfl⟩ (by
   rintro j dd r g Q ⟨rfl,O,w,z,a,rfl⟩;obtain⟨rfl,JU⟩:=gS Q;simp only[zero_add] at a O ⊢;obtain⟨I,A,eq⟩:=Fc n (.loc S.length) k (K2 n k) w j (S++[.dict kvs]) a (by omega) P
   exact⟨_,rfl,_,_,eq,rfl,by omega,I,some (.int j),A,rfl⟩)
 simp only[zero_add,length_map,length_range] at p;obtain⟨rfl,Y,w,z,a,rfl⟩:=p;have e:Wl 8 w:=⟨a.1,by have:=a.2.1;omega,a.2.2⟩;have v:=GX w (S++[.dict kvs]);have t:=FW e;generalize kept w=bb at v t;have R:=FH bb;have G:(if bb then ("q":Str) else ⟨#[]⟩).length<=1:=by cases bb<;>decide
 have J:=BM e G (by decide);have B:(S++[MO.dict kvs])[S.length]?=some (.dict kvs):=by simp
 have L:kvs.length<sizeLine:=lt_of_lt_of_le (show kvs.length<1000 by have:=s.1;omega) (by decide);have V:(S++[MO.dict kvs]).set S.length (.dict (putD kvs (.str (w++(if bb then ("q":Str) else ⟨#[]⟩))) (.bl true)))=S++[.dict (putD kvs (.str (w++(if bb then ("q":Str) else ⟨#[]⟩))) (.bl true))]:=by simp
 refine⟨some (.int (K2 n k)),some (.str w),z,putD kvs (.str (w++(if bb then ("q":Str) else ⟨#[]⟩))) (.bl true),s.put t,?_⟩;have W:intD [.bl bb]=some (.int (if bb then 1 else 0)):=rfl;unfold gm;simp[T,M,E,X,U,y,o,q,F,um,B,eY,L,V,v,W,R,J]
theorem yr (n:Int)(S:Ig):∃ (ss:List Str) (kvs:List (D×D)),mC [.int n] S=Ip (.tup (ss.map .str)) (S++[.dict kvs])/\ss.length<=6/\(∀ x∈ss,db x=true)/\ss.Pairwise λa b=>LF a b=true:=by
 obtain⟨C,K,B,g⟩:=dB (u:=aE 3) (body:=gm) (λi l f=>i<=6/\∃ kvs b c d z,f=S++[.dict kvs]/\Ml i kvs/\l=[some (.int n),some (.str "abcdefghijklmnopqrstuvwxyz"),some (.loc S.length),z,b,c,d])
  ((List.range 6).map λ(k:Nat)=>D.int k) 0 [some (.int n),some (.str "abcdefghijklmnopqrstuvwxyz"),some (.loc S.length),none,none,none,none] (S++[.dict []]) ⟨by omega,[],none,none,none,none,rfl,⟨le_refl _,[],rfl,nodup_nil,λx h=>by cases h⟩,rfl⟩ (by
   rintro j L l f E ⟨N,kvs,b,c,d,z,rfl,m,rfl⟩;obtain⟨rfl,A⟩:=gS E;simp only[zero_add] at m ⊢;obtain⟨y,v,p,w,o,eq⟩:=Fb n j S kvs b c d m A
   exact⟨_,rfl,_,_,eq,by omega,w,y,v,p,some (.int j),rfl,o,rfl⟩)
 simp only[zero_add,length_map,length_range] at g;obtain⟨_,kvs,b,c,d,z,rfl,⟨J,ss,es,nd,I⟩,rfl⟩:=g;have M:ss.length=kvs.length:=by have:=congrArg List.length es;simpa using this.symm
 have r:c_ (kvs.map (·.1))=some ((fF ss).map .str):=by rw[es];unfold c_;rw[if_pos (by rw[length_map];first |omega |exact Nat.le_trans (show ss.length<=1000 by omega) (by decide)),jo]
 have e:(fF ss).Perm ss:=mergeSort_perm _ _;have F:(fF ss).Nodup:=(e.nodup_iff).mpr nd;have t:(fF ss).Pairwise λa b=>L1 a b=true:=pairwise_mergeSort g7 jx _;refine⟨fF ss,kvs,?_,by rw[e.length_eq];omega,λx s=>I x (e.mem_iff.mp s),(t.and F).imp λq=>k7 q.1 q.2⟩;have H:f_ [.int 6]=some ((List.range 6).map λ(k:Nat)=>D.int k):=Cg 6 (by decide) (by decide);have G:(S++[MO.dict kvs])[S.length]?=some (.dict kvs):=by simp
 refine aC rfl ?_;unfold qH;simp[H,B,kO,G,r,gL]
theorem qO:∀ (ds:List D) (i:Nat),(cP i ds).map (λd=>match d with | .tup [_,x]=>x |_ => .Jm)=ds
 |[],_=>rfl
 |d::ds,i=>by rw[cP,map_cons,qO ds]
theorem uE (n:Int){ss:List Str}(t:ss.length<=100)(S:Ig):∃ a:List Str,mF [.int n,.tup (ss.map .str)] S=Ip (.tup (a.map .str)) S/\a.Sublist ss:=by
 have q:=fO (u:=kJ 2 (bf (aE 0) (bf (aE 1) gK))) (gt:=iY) (fe:=jd) (λf => ∃ y z,f=[y,z,some (.int n)]) (λd=>match d with | .tup [.int k,_]=>decide (n / (3*k+1) % 4=0) |_=>false)
  (λd=>match d with | .tup [_,x]=>x |_ => .Jm) S (cP 0 (ss.map .str)) (cm 2 [0] [some (.int n),some (.tup (ss.map .str))]) ⟨none,none,rfl⟩ (by
   rintro d r f ⟨y,z,rfl⟩;obtain⟨j,g⟩:=getElem?_of_mem r;rw[fw] at g;obtain⟨x,m,rfl⟩:=map_eq_some_iff.mp g;have i:j<ss.length:=by have:=(List.getElem?_eq_some_iff.mp m).1;simpa using this
   have c:de (.int 3) (.int ((0+j:Nat):Int))=some (.int (3*((0+j:Nat):Int))):=ic (by decide) (by decide);have b:g_ (.int n) (.int (3*((0+j:Nat):Int)+1))=some (.int (n / (3*((0+j:Nat):Int)+1))):=jD (by omega) (by omega);have h:cL (.int (n / (3*((0+j:Nat):Int)+1))) (.int 4)=some (.int (n / (3*((0+j:Nat):Int)+1) % 4)):=bI (by decide);refine⟨[some (.int ((0+j:Nat):Int)),some x,some (.int n)],rfl,⟨_,_,rfl⟩,?_,λ_=>?_⟩
   ·unfold iY;simp only[zero_add] at c b h ⊢;simp[c,b,h]
   unfold jd;simp)
 have s:(((cP 0 (ss.map D.str)).filter (λd=>match d with | .tup [.int k,_]=>decide (n / (3*k+1) % 4=0) |_=>false)).map (λd=>match d with | .tup [_,x]=>x |_ => .Jm)).Sublist (ss.map D.str):=by have:=(filter_sublist (p:=(λd=>match d with | .tup [.int k,_]=>decide (n / (3*k+1) % 4=0) |_=>false)) (l:=cP 0 (ss.map D.str))).map (λd=>match d with | .tup [_,x]=>x |_ => .Jm);rw[qO] at this;exact this
 obtain⟨a,o,e⟩:=List.sublist_map_iff.mp s;refine⟨a,?_,o⟩;refine aC rfl ?_;unfold qK;rw[e] at q;simp[o7,q,gL]
theorem AL {x:Str}(h:db x=true):∀ c∈x.cps.toList,c<128:=by unfold db at h;rw[and_eq_true,and_eq_true,and_eq_true] at h;intro c a;have:=all_eq_true.mp h.2.2.2 c a;unfold isLet at this;simp at this;omega
end Iu
namespace L2
open PySem PyProof.Rows
section
variable (f g:H9 D) (ρ:Ih) (S:Ig)
@[simp] theorem HH (c k:Str):dU c k f ρ S=ah (f ρ S) λd a=>aP (gC c k d a) a:=rfl
@[simp] theorem G4 (c k:Str):jZ c k f g ρ S=ah (g ρ S) λv a=>ah (f ρ a) λd S2=>kR c k d v ρ S2:=rfl
@[simp] theorem Hi (c k:Str):Gm c k f g ρ S=ah (f ρ S) λd a=>ah (aP (gC c k d a) a) λv S2=>ah (g ρ S2) λy b=>Gn c k d v y ρ b:=rfl
@[simp] theorem Hb (c m:Str)(F:Ie)(gs:H9 (List D)):bZ c m F f gs ρ S=ah (f ρ S) λd a=>ah (aP (pM c m d a) a) λ_ S2=>ah (gs ρ S2) λds b=>gU (F (d::ds) b):=rfl
@[simp] theorem GC (c m:Str)(F:Ie)(gs:H9 (List D)):Fa c m F f gs ρ S=ah (f ρ S) λd a=>ah (aP (pM c m d a) a) λ_ S2=>ah (gs ρ S2) λds b=>F (d::ds) b:=rfl
@[simp] theorem G9:BC ρ S=Ip (.loc S.length) (S++[.lst []]):=rfl
@[simp] theorem HM:Do f g ρ S=ah (f ρ S) λd a=>ah (aP (eN d a) a) λ_ S2=>ah (g ρ S2) λv b=>tw d v b:=rfl
@[simp] theorem Gb:Dg f ρ S=ah (f ρ S) λd a=>aP ((eN d a).bind λxs=>if xs.length<=sizeLine then some (.tup xs) else none) a:=rfl
@[simp] theorem He:qW f ρ S=ah (f ρ S) λ_ a=>Ip (.next ρ) a:=rfl
@[simp] theorem Gd (c:Str)(q:Ih->Ig->Bool):Dl c q ρ S=if q ρ S=true then some (.error c,S) else none:=rfl
@[simp] theorem HP {α a:Type}(c:Str)(k : α->Ig->Out a):ah (some (.error c,S):Out α) k=some (.error c,S):=rfl
end
theorem di {S:Ig}{l:Nat}{a b:MO}(h:S[l]?=some a):(S.set l b)[l]?=some b:=by have:l<S.length:=(List.getElem?_eq_some_iff.mp h).1;simp[this]
theorem bX {S:Ig}{l k:Nat}{b:MO}(h:l≠k):(S.set l b)[k]?=S[k]?:=by simp[List.getElem?_set,h]
section
variable (f g:H9 D) (ρ:Ih) (S:Ig)
@[simp] theorem HC:Dn f g ρ S=ah (f ρ S) λx a=>ah (g ρ a) λi S2=>aP (uV x i S2) S2:=rfl
@[simp] theorem HD:zC f g ρ S=ah (f ρ S) λx a=>ah (g ρ a) λi S2=>aP (if bE x=true then uV x i S2 else O5 x i) S2:=rfl
@[simp] theorem Hz (neg:Bool):zB neg f g ρ S=ah (f ρ S) λk a=>ah (g ρ a) λx S2=>aP (j8 neg k x S2) S2:=rfl
@[simp] theorem Ha:vx f g ρ S=ah (f ρ S) λx a=>ah (g ρ a) λk S2=>aP (fK x k S2) S2:=rfl
@[simp] theorem G5 (h:H9 D):qV f g h ρ S=ah (h ρ S) λv a=>ah (f ρ a) λx S2=>ah (g ρ S2) λk b=>kX x k v ρ b:=rfl
@[simp] theorem Hc:Bu f ρ S=ah (f ρ S) λd a=>aP ((eN d a).map λxs => .int xs.length) a:=rfl
@[simp] theorem EZ:l_ f ρ S=ah (f ρ S) λd a=>aP (g6 d a) a:=rfl
@[simp] theorem G8:vq ρ S=Ip (.loc S.length) (S++[.Ir []]):=rfl
@[simp] theorem Ga (u:D->Ih->Option Ih):s9 u f ρ S=ah (f ρ S) λd a=>aP ((u d ρ).map Fl.next) a:=rfl
end
end L2
namespace Iu
open PySem L2 PyProof.Rows
inductive Row where
 |leaf (ss:List Str)
 |ask (c no yes:Nat)
 deriving DecidableEq
def au:Row->D
 | .leaf a => .tup [.str "names",.tup (a.map .str)]
 | .ask c no yes => .tup [.int c,.int no,.int yes]
def eI:Row->PyData
 | .leaf a => .tuple [.str "names",.tuple (a.map .str)]
 | .ask c no yes => .tuple [.int c,.int no,.int yes]
def dH:Row->Prop
 | .leaf a => ∀ x∈a,db x=true
 | .ask _ _ _=>True
theorem CM {x:Str}(h:db x=true):PyData.strOk x=true:=by have w:=AL h;unfold PyData.strOk;rw[← Array.all_toList,all_eq_true];intro c a;have:=w c a;simp;omega
theorem uD:PyData.strOk ("names":Str)=true:=by decide
theorem kT {r:Row}(h:dH r):fX (au r)=some (eI r):=by
 unfold fX;cases r with
 |leaf b =>
  have e:toPy (au (.leaf b))=some (eI (.leaf b)):=by simp[au,eI,toPy,bW,fB]
  have a:(b.map PyData.str).all (keyOk 6)=true:=by rw[all_eq_true];intro p d;obtain⟨x,f,rfl⟩:=mem_map.mp d;exact CM (h x f)
  have k:keyOk 8 (eI (.leaf b))=true:=by show ([PyData.str "names",PyData.tuple (b.map .str)]:List PyData).all (keyOk 7)=true;rw[all_cons,all_cons,List.all_nil,Bool.and_true,and_eq_true];exact⟨uD,a⟩
  rw[e,bind_some,if_pos k]
 |ask c no yes=>simp[au,eI,toPy,bW,keyOk]
theorem rR (a b:Row):PyData.eqv (eI a) (eI b)=decide (a=b):=by
 cases a with
 |leaf s=>cases b with
  |leaf t=>simp[eI,PyData.eqv,PyData.eqvAll,o6]
  |ask c n y=>simp[eI,PyData.eqv,PyData.eqvAll]
 |ask c n y=>cases b with
  |leaf t=>simp[eI,PyData.eqv,PyData.eqvAll]
  |ask f d e =>
   rw[Bool.eq_iff_iff];simp[eI,PyData.eqv,PyData.eqvAll];omega
theorem gO {a b:Row}(d:dH a)(c:dH b):dL (au a) (au b)=decide (a=b):=by unfold dL;rw[kT d,kT c];exact rR a b
theorem dX (r:Row):dP (au r)=true:=by cases r<;>rfl
def bD (k:Nat):List Row->List (D×D)
 |[]=>[]
 |r::G=>(au r,.int k)::bD (k+1) G
theorem uy:∀ (G:List Row) (k:Nat),(bD k G).length=G.length
 |[],_=>rfl
 |r::G,k=>by rw[bD,length_cons,length_cons,uy G]
theorem jB {r:Row}(b:dH r):∀ (G:List Row) (k:Nat),(∀ x∈G,dH x)->jM (bD k G) (au r)=if r∈G then some (.int ((k+G.idxOf r:Nat):Int)) else none
 |[],k,_=>rfl
 |x::G,k,h=>by
  have c:=jB b G (k+1) λy f=>h y (mem_cons_of_mem _ f);unfold jM at c ⊢;rw[bD,find?_cons];simp only[gO (h x (mem_cons_self ..)) b];by_cases e:x=r
  ·subst e;simp
  rw[decide_eq_false e];simp only;rw[c];have g:¬ r=x:=λq=>e q.symm;have d:(x==r)=false:=by simpa using e
  by_cases a:r∈G
  ·rw[if_pos a,if_pos (mem_cons_of_mem _ a),idxOf_cons,d];simp only[cond_false];congr 2;omega
  rw[if_neg a,if_neg (by rw[mem_cons];exact λq=>q.elim g a)]
theorem any_nums {r:Row}(a:dH r)(G:List Row)(k:Nat)(h:∀ x∈G,dH x)(b:r∉G):((bD k G).any λp=>dL p.1 (au r))=false:=by have q:=jB a G k h;rw[if_neg b] at q;unfold jM at q;rw[Option.map_eq_none_iff,List.find?_eq_none] at q;rw[List.any_eq_false];exact q
theorem qt:∀ (G:List Row) (k:Nat) (r:Row),bD k (G++[r])=bD k G++[(au r,.int ((k+G.length:Nat):Int))]
 |[],k,r=>rfl
 |x::G,k,r=>by
  rw[cons_append,bD,qt G (k+1) r,bD,cons_append,length_cons,show k+1+G.length=k+(G.length+1) by omega]
theorem yF {r:Row}(a:dH r){G:List Row}(h:∀ x∈G,dH x)(b:r∉G):putN (bD 0 G) (au r) (.int G.length)=bD 0 (G++[r]):=by unfold putN;rw[any_nums a G 0 h b,if_neg (by decide),qt,zero_add]
theorem qG {kvs:List (D×D)}{k v:D}(h:dL k k=true):jM (putN kvs k v) k=some v:=by
 unfold putN;split
 ·rename_i a;unfold jM;rw[List.any_eq_true] at a;clear h
  induction kvs with
  |nil=>obtain⟨p,b,_⟩:=a;cases b
  |cons p r c =>
   rw[map_cons,find?_cons];cases b:dL p.1 k with
   |true=>simp[b]
   |false =>
    simp only[b,false_eq_true,if_false];obtain⟨x,hx,q⟩:=a;rcases mem_cons.mp hx with rfl |hx
    ·rw[b] at q;cases q
    exact c ⟨x,hx,q⟩
 rename_i a;unfold jM;rw[Bool.not_eq_true,List.any_eq_false] at a;rw[List.find?_append,List.find?_eq_none.mpr a];simp[h]
abbrev Th:=Nat->Bool
inductive Ev (G:List Row) (th:Th):Nat->List Str->Prop
 |leaf {i:Nat}{ss:List Str}:G[i]?=some (.leaf ss)->Ev G th i ss
 |no {i c n y:Nat}{ss:List Str}:G[i]?=some (.ask c n y)->th c=false->Ev G th n ss->Ev G th i ss
 |yes {i c n y:Nat}{ss:List Str}:G[i]?=some (.ask c n y)->th c=true->Ev G th y ss->Ev G th i ss
theorem sC {G E:List Row}{i:Nat}{r:Row}(h:G[i]?=some r):(G++E)[i]?=some r:=by rw[getElem?_append_left (List.getElem?_eq_some_iff.mp h).1];exact h
theorem Ev.mono {G:List Row}(E:List Row){b:Th}{i:Nat}{ss:List Str}(h:Ev G b i ss):Ev (G++E) b i ss:=by
 induction h with
 |leaf h=>exact .leaf (sC h)
 |no h t _ a=>exact .no (sC h) t a
 |yes h t _ a=>exact .yes (sC h) t a
theorem Ev.det {G:List Row}{f:Th}{i:Nat}{a b:List Str}(h:Ev G f i a)(g:Ev G f i b):a=b:=by
 induction h with
 |leaf h=>cases g with
  |leaf c=>rw[h] at c;cases c;rfl
  |no c=>rw[h] at c;cases c
  |yes c=>rw[h] at c;cases c
 |no h t _ e=>cases g with
  |leaf c=>rw[h] at c;cases c
  |no c d g=>rw[h] at c;cases c;exact e g
  |yes c d g=>rw[h] at c;cases c;rw[t] at d;cases d
 |yes h t _ e=>cases g with
  |leaf c=>rw[h] at c;cases c
  |no c d g=>rw[h] at c;cases c;rw[t] at d;cases d
  |yes c d g=>rw[h] at c;cases c;exact e g
def pl (o:List Nat)(G:List Row)(i:Nat):Nat:=match G[i]? with
 |some (.ask c _ _)=>o.idxOf c
 |_=>o.length
theorem cy {o:List Nat}{G E:List Row}{i:Nat}(h:i<G.length):pl o (G++E) i=pl o G i:=by unfold pl;rw[getElem?_append_left h]
theorem xC (o:List Nat)(G:List Row)(i:Nat):pl o G i<=o.length:=by
 unfold pl;split
 ·exact List.idxOf_le_length
 exact le_refl _
def Ll (o:List Nat)(G:List Row)(i:Nat):Row->Prop
 | .leaf a=>(∀ x∈a,db x=true)/\OV a=true
 | .ask c n y=>c∈o/\n<i/\y<i/\o.idxOf c<Iu.pl o G n/\o.idxOf c<Iu.pl o G y/\n≠y
structure Wf (o:List Nat) (G:List Row):Prop where
 nd:G.Nodup
 row:∀ (i:Nat) (r:Row),G[i]?=some r->Ll o G i r
theorem Wf.ok {o:List Nat}{G:List Row}(h:Wf o G):∀ x∈G,dH x:=by
 intro x b;obtain⟨i,a⟩:=getElem?_of_mem b;have:=h.row i x a;cases x with
 |leaf d=>exact this.1
 |ask c n y=>trivial
theorem Wf.total {o:List Nat}{G:List Row}(h:Wf o G)(a:Th):∀ (i:Nat),i<G.length->∃ ss,Ev G a i ss:=by
 intro i
 induction i using Nat.strongRecOn with
 |_ i b =>
  intro f;have e:G[i]?=some G[i]:=List.getElem?_eq_getElem f;have q:=h.row i _ e;cases hr:G[i] with
  |leaf ss=>rw[hr] at e;exact⟨ss,.leaf e⟩
  |ask c n y =>
   rw[hr] at e q;obtain⟨_,d,g,_,_,_⟩:=q;cases ht:a c with
   |false=>obtain⟨ss,k⟩:=b n d (by omega);exact⟨ss,.no e ht k⟩
   |true=>obtain⟨ss,k⟩:=b y g (by omega);exact⟨ss,.yes e ht k⟩
theorem Wf.back {o:List Nat}{G E:List Row}(h:Wf o G){a:Th}{i:Nat}{ss:List Str}(hi:i<G.length)(e:Ev (G++E) a i ss):Ev G a i ss:=by obtain⟨b,k⟩:=h.total a i hi;rw[Ev.det e (k.mono E)];exact k
theorem Ll.app {o:List Nat}{G E:List Row}{i:Nat}{r:Row}(hi:i<=G.length)(h:Ll o G i r):Ll o (G++E) i r:=by
 cases r with
 |leaf j=>exact h
 |ask c n y =>
  obtain⟨a,b,g,d,e,f⟩:=h;refine⟨a,b,g,?_,?_,f⟩
  ·rw[cy (by omega)];exact d
  rw[cy (by omega)];exact e
theorem Wf.snoc {o:List Nat}{G:List Row}(h:Wf o G){r:Row}(g:r∉G)(d:Ll o G G.length r):Wf o (G++[r]):=by
 refine⟨nodup_append.mpr ⟨h.nd,by simp,λa e b f=>?_⟩,λi x c=>?_⟩
 ·rw[mem_singleton.mp f];rintro rfl;exact g e
 rcases Nat.lt_trichotomy i G.length with hi |hi |hi
 ·rw[getElem?_append_left hi] at c;exact(h.row i x c).app (le_of_lt hi)
 ·subst hi;have:x=r:=by simpa using c.symm
  subst this;exact d.app (le_refl _)
 rw[getElem?_append_right (by omega)] at c;have:([r]:List Row)[i-G.length]?=none:=by rw[List.getElem?_eq_none_iff];simp;omega
 rw[this] at c;cases c
def ko (C:List (Row×Nat)):List (D×D):=C.map λp=>(au p.1,.int p.2)
def sel (a:Th)(c n y:Nat):Nat:=if a c=true then y else n
def La (o:List Nat)(G:List Row)(r:Row)(v:Nat):Prop:=match r with
 | .leaf _=>False
 | .ask c n y=>n<G.length/\y<G.length/\v<G.length/\min (o.idxOf c) (min (Iu.pl o G n) (Iu.pl o G y))<=Iu.pl o G v/\∀ a b,Ev G a (sel a c n y) b->Ev G a v b
theorem La.app {o:List Nat}{G E:List Row}(w:Wf o G){r:Row}{v:Nat}(h:La o G r v):La o (G++E) r v:=by
 cases r with
 |leaf _=>exact h
 |ask c n y =>
  obtain⟨a,b,g,d,e⟩:=h;refine⟨by rw[List.length_append];omega,by rw[List.length_append];omega,by rw[List.length_append];omega,?_,λf j k=>?_⟩
  ·rw[cy a,cy b,cy g];exact d
  have i:sel f c n y<G.length:=by unfold sel;split<;>assumption
  exact(e f j (w.back i k)).mono E
def nu:List (Row×Nat)->Row->Nat->List (Row×Nat):=λC r v=>if (C.any λp=>decide (p.1=r))=true then C.map (λp=>if p.1=r then (p.1,v) else p) else C++[(r,v)]
theorem ya {C:List (Row×Nat)}(h:∀ p∈C,dH p.1){r:Row}(a:dH r)(v:Nat):putN (ko C) (au r) (.int v)=ko (nu C r v):=by
 have d:((ko C).any λp=>dL p.1 (au r))=C.any λp=>decide (p.1=r):=by
  unfold ko;rw[any_map]
  have:∀ l:List (Row×Nat),(∀ p∈l,dH p.1)->(l.any ((λp=>dL p.1 (au r)) ∘ λp=>(au p.1,D.int p.2)))=l.any λp=>decide (p.1=r):=by
   intro l b
   induction l with
   |nil=>rfl
   |cons p l f =>
    rw[any_cons,any_cons,f λq e=>b q (mem_cons_of_mem _ e)];simp only[Function.comp,gO (b p (mem_cons_self ..)) a]
  exact this C h
 unfold putN nu;rw[d];split
 ·unfold ko;rw[map_map,map_map];refine map_congr_left λp c=>?_;simp only[Function.comp,gO (h p c) a,decide_eq_true_eq];split<;>rfl
 unfold ko;rw[map_append];rfl
theorem Dj {C:List (Row×Nat)}(h:∀ p∈C,dH p.1){r:Row}(a:dH r):jM (ko C) (au r)=(C.find? λp=>decide (p.1=r)).map λp => .int p.2:=by
 unfold jM ko
 induction C with
 |nil=>rfl
 |cons p C b =>
  rw[map_cons,find?_cons,find?_cons];simp only[gO (h p (mem_cons_self ..)) a];cases hd:decide (p.1=r) with
  |true=>rfl
  |false=>exact b λq c=>h q (mem_cons_of_mem _ c)
theorem uq {C:List (Row×Nat)}{P:Row->Nat->Prop}(h:∀ p∈C,P p.1 p.2){r:Row}{v:Nat}(a:P r v):∀ p∈nu C r v,P p.1 p.2:=by
 intro p hp;unfold nu at hp;split at hp
 ·obtain⟨q,b,rfl⟩:=mem_map.mp hp;split
  ·rename_i e;rw[e];exact a
  exact h q b
 rcases mem_append.mp hp with hp |hp
 ·exact h p hp
 rw[mem_singleton.mp hp];exact a
theorem uo (C:List (Row×Nat))(r:Row)(v:Nat):(nu C r v).length<=C.length+1:=by
 unfold nu;split
 ·rw[length_map];omega
 rw[List.length_append];simp
abbrev oD (o:List Nat):D:=.tup (o.map λ(c:Nat)=>D.int c)
abbrev RO (o:List Nat)(L:Nat):MO:=.ins "Rows" [("order",oD o),("gathered",.loc (L+1)),("numbers",.loc (L+2)),("choices",.loc (L+3))]
structure SR (B:Nat->Option MO) (S:Ig) (L:Nat) (o:List Nat) (G:List Row) (C:List (Row×Nat)):Prop where
 obj:S[L]?=some (RO o L)
 Ra:S[L+1]?=some (.lst (G.map au))
 num:S[L+2]?=some (.Ir (bD 0 G))
 NM:S[L+3]?=some (.Ir (ko C))
 fr:∀ i,i<L∨L+3<i->S[i]?=B i
theorem W8:(("gathered":Str)=="order")=false:=by decide
theorem Y8:(("numbers":Str)=="order")=false:=by decide
theorem Y9:(("numbers":Str)=="gathered")=false:=by decide
theorem Y_:(("choices":Str)=="order")=false:=by decide
theorem Za:(("choices":Str)=="gathered")=false:=by decide
theorem Zb:(("choices":Str)=="numbers")=false:=by decide
section
variable {B:Nat->Option MO}{S:Ig}{L:Nat}{o:List Nat}{G:List Row}{C:List (Row×Nat)}
theorem SR.ins (h:SR B S L o G C):sx "Rows" (.loc L) S=some ([("order",oD o),("gathered",.loc (L+1)),("numbers",.loc (L+2)),("choices",.loc (L+3))]:List (Str×D)):=by unfold sx;simp only[h.obj,if_true]
theorem SR.MB (h:SR B S L o G C):gC "Rows" "order" (.loc L) S=some (oD o):=by unfold gC;rw[h.ins];simp[List.lookup]
theorem SR.MY (h:SR B S L o G C):gC "Rows" "gathered" (.loc L) S=some (.loc (L+1)):=by unfold gC;rw[h.ins];simp[List.lookup,W8]
theorem SR.OX (h:SR B S L o G C):gC "Rows" "numbers" (.loc L) S=some (.loc (L+2)):=by unfold gC;rw[h.ins];simp[List.lookup,Y8,Y9]
theorem SR.Mm (h:SR B S L o G C):gC "Rows" "choices" (.loc L) S=some (.loc (L+3)):=by unfold gC;rw[h.ins];simp[List.lookup,Y_,Za,Zb]
theorem SR.has (h:SR B S L o G C)(m:Str)(a:((m=="order") ||(m=="gathered") ||(m=="numbers") ||(m=="choices"))=false):pM "Rows" m (.loc L) S=some .Jm:=by rw[or_eq_false_iff,or_eq_false_iff,or_eq_false_iff] at a;unfold pM;rw[h.ins];simp[List.lookup,a.1.1.1,a.1.1.2,a.1.2,a.2]
theorem SR.lst (h:SR B S L o G C):eN (.loc (L+1)) S=some (G.map au):=by unfold eN;simp only[h.Ra]
theorem SR.row (h:SR B S L o G C){i:Nat}{r:Row}(hi:G[i]?=some r):uV (.loc (L+1)) (.int i) S=some (au r):=by show ((eN (.loc (L+1)) S).bind λa=>Lo a (i:Int))=_;rw[h.lst,bind_some];exact bP (by rw[getElem?_map,hi];rfl)
theorem l6 (a b:Nat):JH (.int a) (.int b)=some (.bl (decide (a=b))):=by
 rw[Dc];by_cases h:a=b
 ·simp[h]
 rw[decide_eq_false h,decide_eq_false (by omega)]
theorem eq_str_int (x:Str)(i:Int):JH (.str x) (.int i)=some (.bl false):=by simp[JH,toPy,PyData.eqv,PyData.depth]
theorem tm (r:Row)(S:Ig):pD [au r] S=Ip (.bl (match r with | .leaf _=>false | .ask _ _ _=>true)) S:=by refine aC rfl ?_;unfold Bf;cases r<;>simp[au,b_]
theorem idx_map (c:Nat):∀ o:List Nat,(o.map λ(c:Nat)=>(c:Int)).idxOf (c:Int)=o.idxOf c
 |[]=>rfl
 |a::o=>by
  rw[map_cons,idxOf_cons,idxOf_cons,idx_map c o];by_cases h:a=c
  ·simp[h]
  have d:(a==c)=false:=by simpa using h
  have b:((a:Int)==(c:Int))=false:=by rw[beq_eq_false_iff_ne];omega
  rw[d,b]
theorem JC:∀ l:List Int,ck (l.map .int)=some l
 |[]=>rfl
 |a::l=>by rw[map_cons,ck,JC l];rfl
theorem A6 (o:List Nat):ck (o.map λ(c:Nat)=>D.int c)=some (o.map λ(c:Nat)=>(c:Int)):=by rw[show (o.map λ(c:Nat)=>D.int c)=(o.map λ(c:Nat)=>(c:Int)).map D.int by rw[map_map];rfl,JC]
theorem qF {o:List Nat}{c:Nat}(h:c∈o):jA (oD o) (.int c)=some (.int (o.idxOf c:Nat)):=by unfold jA oD;simp only[A6,bind_some];rw[if_pos (mem_map.mpr ⟨c,h,rfl⟩),idx_map]
theorem ow {i:Nat}{r:Row}(hi:G[i]?=some r)(w:Ll o G i r)(S:Ig):iw [au r,oD o] S=Ip (.int (Iu.pl o G i:Nat)) S:=by
 have a:=tm r S;unfold Iu.pl;rw[hi];refine aC rfl ?_;unfold oX;cases r with
 |leaf f =>
  have:b_ [oD o]=some (.int o.length):=by simp[b_]
  simp[a,this]
 |ask c n y =>
  have e:=qF w.1;have b:I_ (au (.ask c n y)) (.int 0) S=some (.int c):=M5 _ _ S;have d:dP (oD o)=true:=rfl;simp[a,b,e,d]
theorem Bg (h:SR B S L o G C)(w:Wf o G)(nd:o.Nodup){c i j:Nat}(m:c∈o)(hi:i<G.length)(v:j<G.length) :
  ∃ f,f∈o/\o.idxOf f=min (o.idxOf c) (min (Iu.pl o G i) (Iu.pl o G j))/\cj [.loc L,.int c,.int i,.int j] S=Ip (.int f) S:=by
 have z:o.idxOf c<o.length:=idxOf_lt_length_iff.mpr m;have g:min (o.idxOf c) (min (Iu.pl o G i) (Iu.pl o G j))<o.length:=by omega
 have one:∀ k:Nat,k<G.length->bp [some (.int k),some (.loc L)] S=Ip (.int (Iu.pl o G k:Nat)) S:=by intro k r;have e:G[k]?=some G[k]:=List.getElem?_eq_getElem r;have q:=ow e (w.row k _ e) S;have s:=h.row e;unfold bp;simp[h.MY,h.MB,s,q]
 have q:=l9 (u:=aE 0) (fe:=bp) (λl => ∃ y,l=[y,some (.loc L)]) (λd=>match d with | .int k => .int (Iu.pl o G k.toNat:Nat) |_ => .Jm) S [.int i,.int j] (cm 1 [0] [some (.loc L),some (.int c),some (.int i),some (.int j),none]) ⟨none,rfl⟩ (by
  rintro d hd l ⟨y,rfl⟩;refine⟨_,rfl,⟨_,rfl⟩,?_⟩;simp only[mem_cons,not_mem_nil,or_false] at hd;rcases hd with rfl |rfl
  ·have:=one i hi;simpa using this
  have:=one j v;simpa using this)
 have t:=qF m;have x:dP (oD o)=true:=rfl;refine⟨o[min (o.idxOf c) (min (Iu.pl o G i) (Iu.pl o G j))],getElem_mem g,nd.idxOf_getElem _ g,aC rfl ?_⟩;have n:mT [.lst [.int (Iu.pl o G i:Nat),.int (Iu.pl o G j:Nat),.int (o.idxOf c:Nat)]]=some (.int ((min (o.idxOf c) (min (Iu.pl o G i) (Iu.pl o G j)):Nat):Int)):=by simp only[mT,ck,map_some,bind_some,CT,List.foldl];congr 2;split<;>split<;>omega
 have p:I_ (oD o) (.int ((min (o.idxOf c) (min (Iu.pl o G i) (Iu.pl o G j)):Nat):Int)) S=some (.int (o[min (o.idxOf c) (min (Iu.pl o G i) (Iu.pl o G j))]:Nat)):=by unfold I_;rw[if_neg (by simp[bE])];show Lo (o.map λ(c:Nat)=>D.int c) _=_;exact bP (by rw[getElem?_map,List.getElem?_eq_getElem g];rfl)
 have z2:Lp [.int i,.int j] (.tup [.int i,.int j])=some (.tup [.int i,.int j]):=cC (by simp);have z1:Lp [.int (o.idxOf c:Nat)] (.lst [.int (o.idxOf c:Nat)])=some (.lst [.int (o.idxOf c:Nat)]):=cC (by simp);have ad:bG (.lst [.int (Iu.pl o G i:Nat),.int (Iu.pl o G j:Nat)]) (.lst [.int (o.idxOf c:Nat)])=some (.lst [.int (Iu.pl o G i:Nat),.int (Iu.pl o G j:Nat),.int (o.idxOf c:Nat)]):=by exact(mB _ _).trans (if_pos (show 3<=sizeLine by decide))
 unfold dD;simp only[map_cons,map_nil,Int.toNat_natCast] at q;generalize Iu.pl o G i=a at *
 generalize Iu.pl o G j=b at *
 generalize o.idxOf c=k at *
 simp[z2,cw,q,h.MB,x,t,z1,ad,n,p]
def sd (G:List Row)(i c:Nat)(b:Bool):Nat:=match G[i]? with
 |some (.ask c' n y)=>if c'=c then (if b=true then y else n) else i
 |_=>i
theorem js (h:SR B S L o G C){i:Nat}(hi:i<G.length)(c:Nat)(b:Bool):b8 [.loc L,.int i,.int c,.int (if b=true then 1 else 0)] S=Ip (.int (sd G i c b:Nat)) S:=by
 have e:G[i]?=some G[i]:=List.getElem?_eq_getElem hi;have d:=h.row e;unfold sd;rw[e]
 suffices ef:hZ [.loc (L+1),.int i,.int c,.int (if b=true then 1 else 0)] S=Ip (.int (match some G[i] with
  |some (.ask a n y)=>if a=c then (if b=true then y else n) else i
  |_=>i:Nat)) S by
  refine aC rfl ?_;unfold m5;simp[h.MY,ef]
 refine aC rfl ?_;unfold l5;cases hr:G[i] with
 |leaf m =>
  rw[hr] at d;have f:I_ (au (.leaf m)) (.int 0) S=some (.str "names"):=M5 _ _ S;simp[d,f,eq_str_int,bE]
 |ask a n y =>
  rw[hr] at d;have f:I_ (au (.ask a n y)) (.int 0) S=some (.int a):=M5 _ _ S;have l:I_ (au (.ask a n y)) (.int 1) S=some (.int n):=OW _ _ _ S;have k:I_ (au (.ask a n y)) (.int 2) S=some (.int y):=at2 _ _ _ _ S;have g:=l6 a c;by_cases j:a=c
  ·subst j;rw[decide_eq_true rfl] at g;cases b<;>simp[d,f,g,l,k,bE]
  rw[decide_eq_false j] at g;cases b<;>simp[d,f,g,j,bE]
theorem jr (w:Wf o G){i c:Nat}(hi:i<G.length)(b:Bool)(v:c∈o)(f:o.idxOf c<=Iu.pl o G i):sd G i c b<G.length/\o.idxOf c<Iu.pl o G (sd G i c b)/\∀ d ss,d c=b->Ev G d i ss->Ev G d (sd G i c b) ss:=by
 have e:G[i]?=some G[i]:=List.getElem?_eq_getElem hi;have l:o.idxOf c<o.length:=idxOf_lt_length_iff.mpr v;have q:=w.row i _ e;unfold sd;rw[e];cases hr:G[i] with
 |leaf ss =>
  refine⟨hi,?_,λ_ _ _ k=>k⟩;unfold Iu.pl;rw[e,hr];exact l
 |ask s n y =>
  rw[hr] at q e;obtain⟨p,A,z,u,r,_⟩:=q;by_cases g:s=c
  ·subst g;simp only[if_true];cases b with
   |false =>
    refine⟨by simp;omega,by simpa using u,λd ss j k=>?_⟩;cases k with
    |leaf a=>rw[e] at a;cases a
    |no a _ k=>rw[e] at a;cases a;exact k
    |yes a t k=>rw[e] at a;cases a;cases j.symm.trans t
   |true =>
    refine⟨by simp;omega,by simpa using r,λd ss j k=>?_⟩;cases k with
    |leaf a=>rw[e] at a;cases a
    |no a t k=>rw[e] at a;cases a;cases j.symm.trans t
    |yes a _ k=>rw[e] at a;cases a;exact k
  simp only[if_neg g];refine⟨hi,?_,λ_ _ _ k=>k⟩;unfold Iu.pl at f ⊢;rw[e] at f ⊢;simp only at f ⊢;rcases Nat.lt_or_eq_of_le f with h |h
  ·exact h
  exfalso;apply g;have x:=getElem_idxOf (idxOf_lt_length_iff.mpr p);have m:=getElem_idxOf l;rw[← x,← m];congr 1;exact h.symm
theorem lT (h:SR B S L o G C)(w:Wf o G){r:Row}(m:Ll o G G.length r)(hz:G.length<16000000) :
  ∃ s E i,bn [.loc L,au r] S=Ip (.int (i:Nat)) s/\SR B s L o (G++E) C/\Wf o (G++E)/\(G++E)[i]?=some r/\E.length<=1:=by
 have ok:dH r:=by cases r with
  |leaf M=>exact m.1
  |ask c n y=>trivial
 have b:=kT ok;have e:=jB ok G 0 w.ok;have J:sizeLine=16777216:=rfl;by_cases a:r∈G
 ·rw[if_pos a,zero_add] at e;have p:G.idxOf r<G.length:=idxOf_lt_length_iff.mpr a;refine⟨S,[],G.idxOf r,aC rfl ?_,by rw[append_nil];exact h,by rw[append_nil];exact w,?_,by simp⟩
  ·have j:j8 true (au r) (.loc (L+2)) S=some (.bl false):=by
    unfold j8;simp only[h.num,b,dX,if_true,e];rfl
   have g:fK (.loc (L+2)) (au r) S=some (.int (G.idxOf r:Nat)):=by unfold fK;simp only[h.num,b,dX,if_true,e]
   unfold dQ;simp[h.OX,j,g]
  rw[append_nil,List.getElem?_eq_getElem p,getElem_idxOf p]
 rw[if_neg a] at e;have j:j8 true (au r) (.loc (L+2)) S=some (.bl true):=by unfold j8;simp only[h.num,b,dX,if_true,e];rfl
 have ep:∀ l,kX (.loc (L+2)) (au r) (.int (G.length:Nat)) l S=Ip (.next l) (S.set (L+2) (.Ir (bD 0 (G++[r])))):=λl=>by unfold kX;simp only[h.num,b];rw[if_pos ⟨by rw[uy];omega,dX r⟩,yF ok w.ok a]
 generalize d:S.set (L+2) (.Ir (bD 0 (G++[r])))=S1 at ep;have v:S1[L]?=some (RO o L):=by rw[← d,bX (by omega)];exact h.obj
 have f:S1[L+1]?=some (.lst (G.map au)):=by rw[← d,bX (by omega)];exact h.Ra
 have D:S1[L+2]?=some (.Ir (bD 0 (G++[r]))):=by rw[← d];exact di h.num
 have I:S1[L+3]?=some (.Ir (ko C)):=by rw[← d,bX (by omega)];exact h.NM
 have A:gC "Rows" "gathered" (.loc L) S1=some (.loc (L+1)):=by unfold gC sx;simp only[v,if_true];simp[List.lookup,W8]
 have x:eN (.loc (L+1)) S1=some (G.map au):=by unfold eN;simp only[f]
 have q:tw (.loc (L+1)) (au r) S1=Ip .Jm (S1.set (L+1) (.lst ((G++[r]).map au))):=by unfold tw;simp only[f];rw[if_pos (by rw[length_map];omega),map_append];rfl
 have sr:SR B (S1.set (L+1) (.lst ((G++[r]).map au))) L o (G++[r]) C:=by
  refine⟨?_,di f,?_,?_,λk z=>by rw[bX (by omega),← d,bX (by omega)];exact h.fr k z⟩
  ·rw[bX (by omega)];exact v
  ·rw[bX (by omega)];exact D
  rw[bX (by omega)];exact I
 generalize K:S1.set (L+1) (.lst ((G++[r]).map au))=S2 at q sr;have t:=w.snoc a m;have u:=jB ok (G++[r]) 0 t.ok;rw[if_pos (by simp),zero_add,idxOf_append,if_neg a] at u;have F:([r]:List Row).idxOf r+G.length=G.length:=by simp
 have H:G.length+([r]:List Row).idxOf r=G.length:=by simp
 refine⟨S2,[r],G.length,aC rfl ?_,sr,t,by simp,by simp⟩
 have g:fK (.loc (L+2)) (au r) S2=some (.int (G.length:Nat)):=by
  unfold fK;simp only[sr.num,b,dX,if_true,u]
  first |rw[F] |rw[H]
 unfold dQ;simp[h.OX,j,h.MY,h.lst,ep,A,x,q,sr.OX,g]
end
section
variable {B:Nat->Option MO}{S:Ig}{L:Nat}{o:List Nat}{G:List Row}{C:List (Row×Nat)}
theorem w9 (h:SR B S L o G C)(w:Wf o G){c a b:Nat}(x:c∈o)(l:a<G.length)(y:b<G.length)(p:o.idxOf c<Iu.pl o G a)(s:o.idxOf c<Iu.pl o G b)(hz:G.length<16000000) :
  ∃ f E i,bu [.loc L,.int c,.int a,.int b] S=Ip (.int (i:Nat)) f/\SR B f L o (G++E) C/\Wf o (G++E)/\i<(G++E).length/\o.idxOf c<=Iu.pl o (G++E) i/\E.length<=1/\∀ d ss,Ev (G++E) d (sel d c a b) ss->Ev (G++E) d i ss:=by
 have m:=l6 a b;by_cases e:a=b
 ·subst e;rw[decide_eq_true rfl] at m;refine⟨S,[],a,aC rfl ?_,by rw[append_nil];exact h,by rw[append_nil];exact w,by rw[append_nil];exact l,by rw[append_nil];omega,by simp,λd ss k=>?_⟩
  ·unfold cF;simp
  unfold sel at k;simpa using k
 rw[decide_eq_false e] at m;obtain⟨f,E,i,j,sr,q,g,v⟩:=lT h w (r:=.ask c a b) ⟨x,l,y,p,s,e⟩ hz;have z:=(List.getElem?_eq_some_iff.mp g).1;have u:=h.has "number_of" (by decide);have t:Lp [.int c,.int a,.int b] (.tup [.int c,.int a,.int b])=some (.tup [.int c,.int a,.int b]):=cC (by simp);have j:bn [.loc L,.tup [.int c,.int a,.int b]] S=Ip (.int (i:Nat)) f:=j;have n:¬ ((a:Int)=b):=by omega
 refine⟨f,E,i,aC rfl ?_,sr,q,z,?_,v,λd ss k=>?_⟩
 ·unfold cF;simp[n,u,t,j]
 ·unfold Iu.pl;rw[g];exact le_refl _
 unfold sel at k;cases ht:d c with
 |false=>rw[ht] at k;exact .no g ht (by simpa using k)
 |true=>rw[ht] at k;exact .yes g ht (by simpa using k)
def xh (B:Nat->Option MO)(L:Nat)(o:List Nat)(G:List Row)(C:List (Row×Nat))(c i j N M:Nat)(out:Out D):Prop:=
 ∃ b E a r,out=Ip (.int (r:Nat)) b/\SR B b L o (G++E) a/\Wf o (G++E)/\(∀ p∈a,La o (G++E) p.1 p.2)/\La o (G++E) (.ask c i j) r/\E.length<=N/\a.length<=C.length+M
theorem qm {r:Row}{v:Nat}(h:La o G r v):dH r:=by
 cases r with
 |leaf _=>exact h.elim
 |ask _ _ _=>trivial
theorem SR.put (h:SR B S L o G C)(n:∀ p∈C,La o G p.1 p.2)(c i j v:Nat)(hz:C.length<16000000)(ρ:Ih) :
  ∃ d,kX (.loc (L+3)) (au (.ask c i j)) (.int v) ρ S=Ip (.next ρ) d/\SR B d L o G (nu C (.ask c i j) v)/\fK (.loc (L+3)) (au (.ask c i j)) d=some (.int v):=by
 have f:=kT (r:=.ask c i j) trivial;have e:∀ p∈C,dH p.1:=λp l=>qm (n p l);have q:S.set (L+3) (.Ir (putN (ko C) (au (.ask c i j)) (.int v)))=S.set (L+3) (.Ir (ko (nu C (.ask c i j) v))):=by rw[ya e (r:=.ask c i j) trivial]
 refine⟨S.set (L+3) (.Ir (ko (nu C (.ask c i j) v))),?_,⟨?_,?_,?_,di h.NM,λk m=>by rw[bX (by omega)];exact h.fr k m⟩,?_⟩
 ·unfold kX;simp only[h.NM,f];rw[if_pos ⟨by unfold ko;rw[length_map];exact lt_of_lt_of_le hz (by decide),dX _⟩,q]
 ·rw[bX (by omega)];exact h.obj
 ·rw[bX (by omega)];exact h.Ra
 ·rw[bX (by omega)];exact h.num
 have g:=di (b:=.Ir (ko (nu C (.ask c i j) v))) h.NM;unfold fK;simp only[g,f,dX,if_true];rw[← ya e (r:=.ask c i j) trivial];exact qG (by rw[gO (a:=.ask c i j) (b:=.ask c i j) trivial trivial];simp)
theorem Ds (nd:o.Nodup){F:Ie}{n:Nat}(IH:∀ {S:Ig}{G:List Row}{C:List (Row×Nat)}{c i j:Nat},SR B S L o G C->Wf o G->(∀ p∈C,La o G p.1 p.2)->c∈o->i<G.length->j<G.length->o.idxOf c<n+min (o.idxOf c) (min (Iu.pl o G i) (Iu.pl o G j))->G.length+2 ^ n<=16000000->C.length+2 ^ n<=16000000->xh B L o G C c i j (2 ^ n-1) (2 ^ n-1) (F [.loc L,.int c,.int i,.int j] S))
  {c i j:Nat}(h:SR B S L o G C) (w:Wf o G) (hC:∀ p∈C,La o G p.1 p.2) (r:c∈o) (hi:i<G.length) (u:j<G.length) (I:o.idxOf c<n+1+min (o.idxOf c) (min (Iu.pl o G i) (Iu.pl o G j))) (hz:G.length+2 ^ (n+1)<=16000000) (PR:C.length+2 ^ (n+1)<=16000000) :
  xh B L o G C c i j (2 ^ (n+1)-1) (2 ^ (n+1)-2) (c0 F [.loc L,.int c,.int i,.int j] S):=by
 have p2 : 2 ^ (n+1)=2*2 ^ n:=by rw[pow_succ];omega
 have p1 : 1<=2 ^ n:=one_le_two_pow;obtain⟨f,s,ef,e1⟩:=Bg h w nd r hi u;have hq:=l6 f c;have T8:=h.has "first_character" (by decide);have NW:=h.has "number_of_ask" (by decide);have W_:=h.has "side" (by decide);have Zd:=h.has "choose" (by decide);by_cases V:f=c
 ·subst V;rw[decide_eq_true rfl] at hq;have z:=js h hi f false;have A:=js h u f true;obtain⟨t,K,O⟩:=jr w hi false r (by omega);obtain⟨M,b2,Y⟩:=jr w u true r (by omega);obtain⟨S',E,v,P,sr,J,X,pv,hE,Q⟩:=w9 h w r t M K b2 (by omega);refine⟨S',E,C,v,aC rfl ?_,sr,J,λp I=>(hC p I).app w,⟨by rw[List.length_append];omega,by rw[List.length_append];omega,X,by omega,λe l k=>?_⟩,by omega,by omega⟩
  ·unfold cX;simp only[false_eq_true,if_false,if_true] at z A;simp[T8,NW,W_,e1,z,A,P]
  refine Q e l ?_;have T:sel e f i j<G.length:=by unfold sel;split<;>assumption
  have k:=w.back T k;unfold sel at k ⊢;cases ht:e f with
  |false=>rw[ht] at k;exact(O e l ht (by simpa using k)).mono E
  |true=>rw[ht] at k;exact(Y e l ht (by simpa using k)).mono E
 rw[decide_eq_false V] at hq;have JG:¬ ((f:Int)=c):=by omega
 have JU:o.idxOf f<o.idxOf c:=by
  have W:o.idxOf f<=o.idxOf c:=by omega
  rcases Nat.lt_or_eq_of_le W with q |q
  ·exact q
  exfalso;apply V;have t:=getElem_idxOf (idxOf_lt_length_iff.mpr s);have K:=getElem_idxOf (idxOf_lt_length_iff.mpr r);rw[← t,← K];congr 1
 have z:=js h hi f false;have A:=js h u f false;obtain⟨t,K,O⟩:=jr w hi false s (by omega);obtain⟨M,b2,Y⟩:=jr w u false s (by omega);obtain⟨S1,d,C1,a,P,y,R,Ry,Ze,l1,m1⟩:=IH h w hC r t M (by omega) (by omega) (by omega);obtain⟨_,_,va,pa,Vx⟩:=Ze;have Zf:Iu.pl o (G++d) i=Iu.pl o G i:=cy hi;have Zg:Iu.pl o (G++d) j=Iu.pl o G j:=cy u;have U:i<(G++d).length:=by rw[List.length_append];omega
 have N:j<(G++d).length:=by rw[List.length_append];omega
 have Ti:(G++d).length=G.length+d.length:=List.length_append;have t1:=js y U f true;have t2:=js y N f true;obtain⟨c1,c2,c3⟩:=jr R U true s (by omega);obtain⟨d1,d2,d3⟩:=jr R N true s (by omega);have VA:=y.has "side" (by decide);have Zh:=y.has "choose" (by decide);obtain⟨S2,g,C2,b,q2,Z,J,VB,Zi,l2,m2⟩:=IH y R Ry r c1 d1 (by omega) (by omega) (by omega);obtain⟨_,_,vb,pb,VC⟩:=Zi;have Zj:=Z.has "number_of_ask" (by decide);have VD:(G++d++g).length=G.length+d.length+g.length:=by rw[List.length_append,Ti]
 have pa0:Iu.pl o (G++d) (sd G i f false)=Iu.pl o G (sd G i f false):=cy t;have pb0:Iu.pl o (G++d) (sd G j f false)=Iu.pl o G (sd G j f false):=cy M;have pc0:Iu.pl o (G++d++g) (sd (G++d) i f true)=Iu.pl o (G++d) (sd (G++d) i f true):=cy c1;have pd0:Iu.pl o (G++d++g) (sd (G++d) j f true)=Iu.pl o (G++d) (sd (G++d) j f true):=cy d1;have pa2:Iu.pl o (G++d++g) a=Iu.pl o (G++d) a:=cy va;obtain⟨S3,m,v,q3,Tj,w3,X,pv,l3,Q⟩:=w9 Z J (c:=f) (a:=a) (b:=b) s (by omega) vb (by omega) (by omega) (by omega);have H:G++(d++g++m)=G++d++g++m:=by simp
 have lG3:(G++d++g++m).length=G.length+d.length+g.length+m.length:=by rw[List.length_append,VD]
 refine⟨S3,d++g++m,C2,v,aC rfl ?_,by rw[H];exact Tj,by rw[H];exact w3,λp I=>by rw[H];exact(VB p I).app J,?_,by rw[List.length_append,List.length_append];omega,by omega⟩
 ·unfold cX;simp only[false_eq_true,if_false,if_true] at z A t1 t2;simp[T8,W_,Zd,e1,JG,z,A,P,VA,Zh,t1,t2,q2,Zj,q3]
 rw[H];have px:Iu.pl o (G++d++g++m) i=Iu.pl o G i:=by rw[cy (by omega),cy U,Zf]
 have py:Iu.pl o (G++d++g++m) j=Iu.pl o G j:=by rw[cy (by omega),cy N,Zg]
 refine⟨by omega,by omega,X,by rw[px,py];omega,λe l k=>?_⟩;refine Q e l ?_;have T:sel e c i j<G.length:=by unfold sel;split<;>assumption
 have k:Ev G e (sel e c i j) l:=w.back (E:=d++g++m) T (by rw[H];exact k);cases ht:e f with
 |false =>
  have:Ev (G++d) e (sel e c (sd G i f false) (sd G j f false)) l:=by
   unfold sel at k ⊢;by_cases x:e c=true
   ·rw[if_pos x] at k ⊢;exact(Y e l ht k).mono d
   rw[if_neg x] at k ⊢;exact(O e l ht k).mono d
  have:=Vx e l this;show Ev _ e (if e f=true then b else a) l;rw[ht];exact(this.mono g).mono m
 |true =>
  have D:Ev (G++d) e (sel e c i j) l:=k.mono d
  have:Ev (G++d++g) e (sel e c (sd (G++d) i f true) (sd (G++d) j f true)) l:=by
   unfold sel at D ⊢;by_cases x:e c=true
   ·rw[if_pos x] at D ⊢;exact(d3 e l ht D).mono g
   rw[if_neg x] at D ⊢;exact(c3 e l ht D).mono g
  have:=VC e l this;show Ev _ e (if e f=true then b else a) l;rw[ht];exact this.mono m
theorem qS (nd:o.Nodup):∀ (n:Nat) {S:Ig}{G:List Row}{C:List (Row×Nat)}{c i j:Nat},SR B S L o G C->Wf o G->(∀ p∈C,La o G p.1 p.2)->c∈o->i<G.length->j<G.length->o.idxOf c<n+min (o.idxOf c) (min (Iu.pl o G i) (Iu.pl o G j))->G.length+2 ^ n<=16000000->C.length+2 ^ n<=16000000->xh B L o G C c i j (2 ^ n-1) (2 ^ n-1) (d8 n [.loc L,.int c,.int i,.int j] S)
 | 0,S,G,C,c,i,j,h,w,d,F,g,D,l,H,y=>absurd l (by omega)
 |n+1,S,G,C,c,i,j,h,w,d,F,g,D,l,H,y=>by
  have u:=kT (r:=.ask c i j) trivial;have Q:∀ p∈C,dH p.1:=λp l=>qm (d p l);have f:=Dj Q (r:=.ask c i j) trivial;have t:Lp [.int c,.int i,.int j] (.tup [.int c,.int i,.int j])=some (.tup [.int c,.int i,.int j]):=cC (by simp);have T : 1<=2 ^ n:=one_le_two_pow;have W : 2 ^ (n+1)=2*2 ^ n:=by rw[pow_succ];omega
  have m:au (.ask c i j) = .tup [.int c,.int i,.int j]:=rfl;cases hf:C.find? (λp=>decide (p.1=Row.ask c i j)) with
  |some p =>
   rw[hf] at f;have M:=List.mem_of_find?_eq_some hf;have O:p.1 = .ask c i j:=by simpa using List.find?_some hf
   have a:=d p M;rw[O] at a;have e:j8 true (au (.ask c i j)) (.loc (L+3)) S=some (.bl false):=by unfold j8;simp only[h.NM,u,dX,if_true,f];rfl
   have b:fK (.loc (L+3)) (au (.ask c i j)) S=some (.int (p.2:Nat)):=by unfold fK;simp only[h.NM,u,dX,if_true,f];rfl
   rw[m] at e b;refine⟨S,[],C,p.2,aC rfl ?_,by rw[append_nil];exact h,by rw[append_nil];exact w,by rw[append_nil];exact d,by rw[append_nil];exact a,by simp,by omega⟩;unfold d4;simp[t,h.Mm,e,b]
  |none =>
   rw[hf] at f;have e:j8 true (au (.ask c i j)) (.loc (L+3)) S=some (.bl true):=by unfold j8;simp only[h.NM,u,dX,if_true,f];rfl
   rw[m] at e;have N:=h.has "choose_anew" (by decide);by_cases K:i=j
   ·subst K;have a:La o G (.ask c i i) i:=⟨g,g,g,by omega,λV X k=>by unfold sel at k;simpa using k⟩;obtain⟨s,ep,sr,b⟩:=h.put d c i i i (by omega) [some (.loc L),some (.int c),some (.int i),some (.int i),some (.tup [.int c,.int i,.int i])];rw[m] at ep b;have pl:=uo C (.ask c i i) i;refine⟨s,[],nu C (.ask c i i) i,i,aC rfl ?_,by rw[append_nil];exact sr,by rw[append_nil];exact w,by rw[append_nil];exact uq d a,by rw[append_nil];exact a,by simp,by omega⟩;unfold d4;simp[t,h.Mm,e,ep,sr.Mm,b]
   have I:¬ ((i:Int)=j):=by omega
   obtain⟨U,E,x,v,q,A,P,z,a,J,R⟩:=Ds nd (λ{S G C c i j}=>qS nd n (S:=S) (G:=G) (C:=C) (c:=c) (i:=i) (j:=j)) h w d F g D l H y;obtain⟨s,ep,sr,b⟩:=A.put z c i j v (by omega) [some (.loc L),some (.int c),some (.int i),some (.int j),some (.tup [.int c,.int i,.int j])];rw[m] at ep b;have pl:=uo x (.ask c i j) v;refine⟨s,E,nu x (.ask c i j) v,v,aC rfl ?_,sr,P,uq z a,a,J,by omega⟩;unfold d4;simp[t,h.Mm,e,I,N,q,A.Mm,ep,sr.Mm,b]
end
inductive KQ (m:Nat):Nat->D->Prop
 |leaf {k:Nat}{ss:List Str}:(∀ x∈ss,db x=true)->OV ss=true->ss.length<=6->KQ m k (au (.leaf ss))
 |ask {k c:Nat}{x y:D}:c<m->KQ m k x->KQ m k y->KQ m (k+1) (.tup [.str "ask",.int c,x,y])
inductive Kv (th:Th):D->List Str->Prop
 |leaf {ss:List Str}:Kv th (au (.leaf ss)) ss
 |no {c:Nat}{x y:D}{ss:List Str}:th c=false->Kv th x ss->Kv th (.tup [.str "ask",.int c,x,y]) ss
 |yes {c:Nat}{x y:D}{ss:List Str}:th c=true->Kv th y ss->Kv th (.tup [.str "ask",.int c,x,y]) ss
theorem eqs (w s:Str):JH (.str w) (.str s)=some (.bl (decide (w=s))):=by rw[Bk rfl];rfl
theorem yf:¬ ("ask":Str)="names":=by decide
section
variable {B:Nat->Option MO}{L:Nat}{o:List Nat}
theorem CH (nd:o.Nodup)(hl:o.length<=8){m:Nat}(ho:∀ c,c<m->c∈o){k:Nat}{d:D}(hd:KQ m k d):∀ (fuel:Nat) {S:Ig}{G:List Row}{C:List (Row×Nat)},k<fuel->SR B S L o G C->Wf o G->(∀ p∈C,La o G p.1 p.2)->G.length+512*2 ^ (k+1)<=16000000->C.length+512*2 ^ (k+1)<=16000000 ->
  ∃ F E I r,cU fuel [.loc L,d] S=Ip (.int (r:Nat)) F/\SR B F L o (G++E) I/\Wf o (G++E)/\(∀ p∈I,La o (G++E) p.1 p.2)/\r<(G++E).length/\E.length+512<=512*2 ^ (k+1)/\I.length+512<=C.length+512*2 ^ (k+1)/\∀ g ss,Kv g d ss->Ev (G++E) g r ss:=by
 induction hd with
 | @leaf k ss h1 h2 _ =>
  intro fuel S G C hf h w N hz Z;obtain⟨fuel,rfl⟩:∃ f,fuel=f+1:=⟨fuel-1,by omega⟩;have p1 : 1<=2 ^ k:=one_le_two_pow;have p2 : 2 ^ (k+1)=2*2 ^ k:=by rw[pow_succ];omega
  obtain⟨F,E,i,M,sr,J,R,hE⟩:=lT h w (r:=.leaf ss) ⟨h1,h2⟩ (by omega);have K:=h.has "number_of" (by decide);have e0:I_ (au (.leaf ss)) (.int 0) S=some (.str "names"):=M5 _ _ S;have z:=eqs "names" "names";rw[decide_eq_true rfl] at z;refine⟨F,E,C,i,aC rfl ?_,sr,J,λp hp=>(N p hp).app w,(List.getElem?_eq_some_iff.mp R).1,by omega,by omega,λg ND k=>?_⟩
  ·unfold eO;simp[e0,z,K,M]
  generalize H:au (.leaf ss)=D0 at k;cases k with
  |leaf =>
   have hs:ss=ND:=by simp only[au,D.tup.injEq,List.cons.injEq,and_true,true_and] at H;exact(List.map_inj_right (λa b h=>by cases h;rfl)).mp H
   subst hs;exact .leaf R
  |no=>simp[au] at H
  |yes=>simp[au] at H
 | @ask k c x y hc _ _ ix iy =>
  intro fuel S G C hf h w N hz Z;obtain⟨fuel,rfl⟩:∃ f,fuel=f+1:=⟨fuel-1,by omega⟩;have p1 : 1<=2 ^ (k+1):=one_le_two_pow;have p2 : 2 ^ (k+1+1)=2*2 ^ (k+1):=by rw[pow_succ];omega
  obtain⟨S1,l,C1,t,M,L8,w1,Ry,v1,l1,m1,VF⟩:=ix fuel (by omega) h w N (by omega) (by omega);have W:(G++l).length=G.length+l.length:=List.length_append;obtain⟨S2,n,C2,A,e2,X,J,VB,v2,l2,m2,VG⟩:=iy fuel (by omega) L8 w1 Ry (by omega) (by omega);have VD:(G++l++n).length=G.length+l.length+n.length:=by rw[List.length_append,W]
  have Q:=ho c hc;have O9:o.idxOf c<o.length:=idxOf_lt_length_iff.mpr Q;have K:=h.has "choose" (by decide);obtain⟨S3,s,T,v,Y,Tj,w3,Zk,V,P,U⟩:=qS nd 9 X J VB Q (i:=t) (j:=A) (by omega) v2 (by omega) (by show _+512<=_;omega) (by show _+512<=_;omega);obtain⟨_,_,vv,_,Nq⟩:=V;have P:s.length<=511:=P;have U:T.length<=C2.length+511:=U;have u:G++(l++n++s)=G++l++n++s:=by simp
  have a0:I_ (.tup [.str "ask",.int c,x,y]) (.int 0) S=some (.str "ask"):=M5 _ _ S;have z:=eqs "ask" "names";rw[decide_eq_false yf] at z;refine⟨S3,l++n++s,T,v,aC rfl ?_,by rw[u];exact Tj,by rw[u];exact w3,by rw[u];exact Zk,by rw[u];exact vv,by rw[List.length_append,List.length_append];omega,by omega,λg ss q=>?_⟩
  ·unfold eO;simp[M5,OW,at2,W5,z,K,M,e2,Y]
  rw[u];refine Nq g ss ?_;cases q with
  |no O q =>
   have:Ev (G++l++n) g t ss:=(VF g ss q).mono n;have e:sel g c t A=t:=by unfold sel;rw[O];rfl
   rw[e];exact this.mono s
  |yes O q =>
   have e:sel g c t A=A:=by unfold sel;rw[O];rfl
   rw[e];exact(VG g ss q).mono s
end
inductive Tr where
 |leaf (ss:List Str)
 |node (c:Nat) (n y:Tr)
 deriving DecidableEq
def Ky:Tr->Th->List Str
 | .leaf b,_=>b
 | .node c n y,a=>if a c=true then Ky y a else Ky n a
def tp (o:List Nat):Tr->Nat
 | .leaf _=>o.length
 | .node c _ _=>o.idxOf c
def Ord (o:List Nat):Tr->Prop
 | .leaf _=>True
 | .node c n y=>c∈o/\Ord o n/\Ord o y/\o.idxOf c<tp o n/\o.idxOf c<tp o y/\n≠y
def MZ:Tr->Nat
 | .leaf _ => 1
 | .node _ n y=>MZ n+MZ y+1
theorem B2 (t:Tr) : 1<=MZ t:=by cases t<;>simp[MZ]
noncomputable def upd (a:Th) (c:Nat) (b:Bool):Th:=λx=>if x=c then b else a x
theorem Iv (a:Th)(c:Nat)(b:Bool):upd a c b c=b:=by simp[upd]
theorem jm {o:List Nat}{c:Nat}:∀ {t:Tr},Ord o t->o.idxOf c<tp o t->∀ (a:Th) (b:Bool),Ky t (upd a c b)=Ky t a
 | .leaf _,_,_,_,_=>rfl
 | .node d n y,h,f,a,b=>by
  obtain⟨_,j,l,p,q,_⟩:=h;have f:o.idxOf c<o.idxOf d:=f;have g:¬ d=c:=λe=>by rw[e] at f;omega
  have k:=jm j (show o.idxOf c<tp o n by omega) a b;have i:=jm l (show o.idxOf c<tp o y by omega) a b;have m:upd a c b d=a d:=by simp[upd,g]
  show (if upd a c b d=true then Ky y (upd a c b) else Ky n (upd a c b))=_;rw[k,i,m];rfl
theorem vZ {o:List Nat}{c:Nat}{n y:Tr}(h:Ord o (.node c n y))(a:Th):Ky (.node c n y) (upd a c false)=Ky n a:=by show (if upd a c false c=true then _ else Ky n (upd a c false))=_;rw[Iv,jm h.2.1 h.2.2.2.1];rfl
theorem rA {o:List Nat}{c:Nat}{n y:Tr}(h:Ord o (.node c n y))(a:Th):Ky (.node c n y) (upd a c true)=Ky y a:=by show (if upd a c true c=true then Ky y (upd a c true) else _)=_;rw[Iv,jm h.2.2.1 h.2.2.2.2.1];rfl
theorem C_ {o:List Nat}{a b:Nat}(d:a∈o)(f:b∈o)(h:o.idxOf a=o.idxOf b):a=b:=by have e:=getElem_idxOf (idxOf_lt_length_iff.mpr d);have c:=getElem_idxOf (idxOf_lt_length_iff.mpr f);rw[← e,← c];congr 1
theorem canon {o:List Nat}:∀ (k:Nat) {t t':Tr},MZ t+MZ t'<=k->Ord o t->Ord o t'->(∀ d,Ky t d=Ky t' d)->t=t'
 | 0,t,t',f,_,_,_=>absurd f (by have:=B2 t;omega)
 |k+1,t,t',f,h,h',he=>by
  have apart:∀ {c:Nat}{n y s:Tr},MZ n+MZ y<=k->Ord o (.node c n y)->Ord o s->o.idxOf c<tp o s->(∀ d,Ky (.node c n y) d=Ky s d)->False:=by intro c n y s x e p m i;apply e.2.2.2.2.2;refine canon k x e.2.1 e.2.2.1 λd=>?_;have a:=i (upd d c false);have b:=i (upd d c true);rw[vZ e,jm p m] at a;rw[rA e,jm p m] at b;rw[a,b]
  cases t with
  |leaf g=>cases t' with
   |leaf z=>have:=he (λ_=>false);simp only[Ky] at this;rw[this]
   |node c n y =>
    exact(apart (s:=.leaf g) (by simp only[MZ] at f;omega) h' h (idxOf_lt_length_iff.mpr h'.1) λd=>(he d).symm).elim
  |node c n y=>cases t' with
   |leaf g =>
    exact(apart (s:=.leaf g) (by simp only[MZ] at f;omega) h h' (idxOf_lt_length_iff.mpr h.1) he).elim
   |node j l r =>
    simp only[MZ] at f;rcases Nat.lt_trichotomy (o.idxOf c) (o.idxOf j) with q |q |q
    ·exact(apart (s:=.node j l r) (by omega) h h' q he).elim
    ·have v:=C_ h.1 h'.1 q;subst v;have w:n=l:=canon k (by omega) h.2.1 h'.2.1 λd=>by have:=he (upd d c false);rwa [vZ h,vZ h'] at this
     have u:y=r:=canon k (by omega) h.2.2.1 h'.2.2.1 λd=>by have:=he (upd d c true);rwa [rA h,rA h'] at this
     rw[w,u]
    exact(apart (s:=.node c n y) (by omega) h' h q λd=>(he d).symm).elim
inductive Un (G:List Row):Nat->Tr->Prop
 |leaf {i:Nat}{ss:List Str}:G[i]?=some (.leaf ss)->Un G i (.leaf ss)
 |node {i c n y:Nat}{s t:Tr}:G[i]?=some (.ask c n y)->Un G n s->Un G y t->Un G i (.node c s t)
theorem Un.det {G:List Row}{i:Nat}{s t:Tr}(h:Un G i s)(g:Un G i t):s=t:=by
 induction h generalizing t with
 |leaf h=>cases g with
  |leaf c=>rw[h] at c;cases c;rfl
  |node c=>rw[h] at c;cases c
 |node h _ _ e d=>cases g with
  |leaf c=>rw[h] at c;cases c
  |node c a b=>rw[h] at c;cases c;rw[e a,d b]
theorem Un.ev {G:List Row}{i:Nat}{t:Tr}(h:Un G i t)(a:Th):Ev G a i (Ky t a):=by
 induction h with
 |leaf h=>exact .leaf h
 | @node i c n y s t h _ _ d b =>
  cases ht:a c with
  |false=>exact .no h ht (by rw[Ky,ht];exact d)
  |true=>exact .yes h ht (by rw[Ky,ht];exact b)
theorem Wf.un {o:List Nat}{G:List Row}(w:Wf o G):∀ (i:Nat),i<G.length->∃ t,Un G i t:=by
 intro i
 induction i using Nat.strongRecOn with
 |_ i a =>
  intro d;have e:G[i]?=some G[i]:=List.getElem?_eq_getElem d;have q:=w.row i _ e;cases hr:G[i] with
  |leaf j=>rw[hr] at e;exact⟨_,.leaf e⟩
  |ask c n y =>
   rw[hr] at e q;obtain⟨_,b,f,_⟩:=q;obtain⟨s,g⟩:=a n b (by omega);obtain⟨t,h⟩:=a y f (by omega);exact⟨_,.node e g h⟩
theorem Un.inj {G:List Row}(nd:G.Nodup){i:Nat}{t:Tr}(h:Un G i t):∀ {j:Nat},Un G j t->i=j:=by
 have key:∀ {a b:Nat}{r:Row},G[a]?=some r->G[b]?=some r->a=b:=by intro a b r f k;have p:=(List.getElem?_eq_some_iff.mp f).1;have q:=(List.getElem?_eq_some_iff.mp k).1;have o:=(List.getElem?_eq_some_iff.mp f).2;have m:=(List.getElem?_eq_some_iff.mp k).2;have c:=nd.idxOf_getElem a p;have d:=nd.idxOf_getElem b q;rw[← c,← d,o,m]
 induction h with
 |leaf h=>intro j g;cases g with
  |leaf e=>exact key h e
 |node h _ _ c d=>intro j g;cases g with
  |node e a b =>
   have n:=c a;have l:=d b;subst n l;exact key h e
theorem Un.pl {o:List Nat}{G:List Row}{i:Nat}{t:Tr}(h:Un G i t):Iu.pl o G i=tp o t:=by
 unfold Iu.pl;cases h with
 |leaf h=>rw[h];rfl
 |node h _ _=>rw[h];rfl
def po:Tr->List Tr->List Tr
 | .leaf b,a=>if Tr.leaf b∈a then a else a++[.leaf b]
 | .node c n y,a=>if Tr.node c n y∈a then a else po y (po n a)++[.node c n y]
def vc (P:List Tr):Tr->Row
 | .leaf a => .leaf a
 | .node c n y => .ask c (P.idxOf n) (P.idxOf y)
def enc (P:List Tr):List Row:=P.map (vc P)
open Classical in
noncomputable def uT (G:List Row) (i:Nat):Tr:=if h:∃ t,Un G i t then Classical.choose h else .leaf []
theorem Un.uT {G:List Row}{i:Nat}{t:Tr}(h:Un G i t):Iu.uT G i=t:=by unfold Iu.uT;have e:∃ t,Un G i t:=⟨t,h⟩;rw[dif_pos e];exact(Classical.choose_spec e).det h
theorem Wf.uT {o:List Nat}{G:List Row}(w:Wf o G){i:Nat}(hi:i<G.length):Un G i (Iu.uT G i):=by obtain⟨t,h⟩:=w.un i hi;rw[h.uT];exact h
theorem vU {o:List Nat}{G:List Row}(w:Wf o G){i j:Nat}(hi:i<G.length)(a:j<G.length)(h:Iu.uT G i=Iu.uT G j):i=j:=
 Un.inj w.nd (w.uT hi) (h▸w.uT a)
theorem zP {o:List Nat}{G:List Row}(w:Wf o G){a:List Nat}(d:∀ i∈a,i<G.length){j:Nat}(c:j<G.length)(h:Iu.uT G j∈a.map (Iu.uT G)):j∈a:=by obtain⟨k,b,e⟩:=mem_map.mp h;rw[← vU w (d k b) c e];exact b
theorem eK {t:Tr}{a:List Tr}(h:t∈a):po t a=a:=by cases t<;>(unfold po;rw[if_pos h])
theorem dZ {ss:List Str}{a:List Tr}(h:Tr.leaf ss∉a):po (.leaf ss) a=a++[.leaf ss]:=by unfold po;rw[if_neg h]
theorem dY {c:Nat}{n y:Tr}{a:List Tr}(h:Tr.node c n y∉a):po (.node c n y) a=po y (po n a)++[.node c n y]:=by rw[po,if_neg h]
def lf (a:List Nat):List (D×D):=a.map λ(k:Nat)=>(D.int k,D.bl true)
theorem ju (a b:Nat):fH (.int a) (.int b)=decide (a=b):=by
 unfold fH;by_cases h:a=b
 ·simp[h]
 rw[decide_eq_false h];have:¬ ((a:Int)=b):=by omega
 simp[eY,this]
theorem xK (k:Nat):∀ b:List Nat,((lf b).find? λp=>fH p.1 (.int k)).isSome=decide (k∈b)
 |[]=>by simp[lf]
 |a::b=>by
  have c:=xK k b;unfold lf at c ⊢;rw[map_cons,find?_cons];simp only[ju];by_cases h:a=k
  ·simp[h]
  rw[decide_eq_false h];simp only;rw[c];have:¬ k=a:=λe=>h e.symm;simp[this]
theorem EK (k:Nat)(b:List Nat):((lf b).any λp=>fH p.1 (.int k))=decide (k∈b):=by
 induction b with
 |nil=>simp[lf]
 |cons a b c =>
  unfold lf at c ⊢;rw[map_cons,any_cons,c,ju];by_cases h:a=k
  ·simp[h]
  have:¬ k=a:=λe=>h e.symm;simp[h,this]
theorem EJ {k:Nat}{a:List Nat}(h:k∉a):putD (lf a) (.int k) (.bl true)=lf (a++[k]):=by unfold putD;rw[EK,decide_eq_false h,if_neg (by decide)];unfold lf;rw[map_append];rfl
theorem FX {S:Ig}{l:Nat}{a:List Nat}(h:S[l]?=some (.dict (lf a)))(k:Nat):MP true (.int k) (.loc l) S=some (.bl (!decide (k∈a))):=by unfold MP;rw[if_pos rfl];unfold Df;simp only[h,eY];unfold getD;rw[isSome_map,xK];rfl
structure Cl (G:List Row) (Ls:List Nat):Prop where
 nd:Ls.Nodup
 lt:∀ i∈Ls,i<G.length
 dn:∀ (p i c n y:Nat),Ls[p]?=some i->G[i]?=some (.ask c n y)->n∈Ls.take p/\y∈Ls.take p
theorem Cl.snoc {G:List Row}{d:List Nat}(h:Cl G d){j:Nat}(l:j<G.length)(k:j∉d)(m:∀ c n y,G[j]?=some (.ask c n y)->n∈d/\y∈d):Cl G (d++[j]):=by
 refine⟨nodup_append.mpr ⟨h.nd,by simp,λa g b o=>?_⟩,λi hi=>?_,λp i c n y e f=>?_⟩
 ·rw[mem_singleton.mp o];rintro rfl;exact k g
 ·rcases mem_append.mp hi with hi |hi
  ·exact h.lt i hi
  rw[mem_singleton.mp hi];exact l
 rcases Nat.lt_trichotomy p d.length with hl |hl |hl
 ·rw[getElem?_append_left hl] at e;rw[List.take_append_of_le_length (le_of_lt hl)];exact h.dn p i c n y e f
 ·subst hl;have:i=j:=by simpa using e.symm
  subst this;rw[List.take_append_of_le_length (le_refl _),List.take_length];exact m c n y f
 rw[getElem?_append_right (by omega)] at e;have:([j]:List Nat)[p-d.length]?=none:=by rw[List.getElem?_eq_none_iff];simp;omega
 rw[this] at e;cases e
section
variable {L:Nat}{o:List Nat}{G:List Row}
theorem BG (r:Row)(S:Ig):dI [au r] S=Ip (.tup (match r with | .leaf _=>[] | .ask _ n y=>[.int n,.int y])) S:=by
 have a:=tm r S;refine aC rfl ?_;unfold k8;cases r with
 |leaf d =>
  have b:Lp [] (.tup [])=some (.tup []):=cC (by simp);simp[a,b]
 |ask c n y =>
  have:Mx (au (.ask c n y)) (some 1) none=some (.tup [.int n,.int y]):=rfl;simp[a,uY,this]
def yj (F:Ie)(w:Nat)(N:Nat)(G:List Row)(o:List Nat)(g:Nat):Prop:=
 ∀ (j:Nat) (a:List Nat) (S:Ig) (l:Nat),o.length+1<=w+Iu.pl o G j->j<G.length->j∉a->S[g]?=some (.lst (G.map au))->S[l]?=some (.dict (lf a))->g≠l->Cl G a->a.length+N<=10000 ->
  ∃ X,F [.loc g,.int j,.loc l] S=Ip .Jm (S.set l (.dict (lf (a++X++[j]))))/\Cl G (a++X++[j])/\(∀ x∈X,x<j)/\X.length+1<=N/\(a++X++[j]).map (Iu.uT G)=po (Iu.uT G j) (a.map (Iu.uT G))
theorem oK {F:Ie}{w N g:Nat}(m:yj F w N G o g)(j k:Nat)(a:List Nat)(S:Ig)(l:Nat)(y:o.length+1<=w+Iu.pl o G k)(n:k<G.length)(r:S[g]?=some (.lst (G.map au)))(c:S[l]?=some (.dict (lf a)))(s:g≠l)(f:Cl G a)(v:a.length+N<=10000) :
  ∃ X,cu F [some (.loc g),some (.int j),some (.loc l),some (.int k)] S=Ip (.next [some (.loc g),some (.int j),some (.loc l),some (.int k)]) (S.set l (.dict (lf (a++X))))/\Cl G (a++X)/\(∀ x∈X,x<=k)/\k∈a++X/\X.length<=N/\(a++X).map (Iu.uT G)=po (Iu.uT G k) (a.map (Iu.uT G)):=by
 have d:=FX c k;by_cases b:k∈a
 ·rw[decide_eq_true b] at d
  have t:S.set l (.dict (lf (a++[])))=S:=by
   rw[append_nil];apply ext_getElem?;intro i;by_cases e:l=i
   ·subst e;rw[di c,c]
   rw[bX e]
  refine⟨[],?_,by rw[append_nil];exact f,(λx hx=>by cases hx),by rw[append_nil];exact b,by simp,by rw[append_nil,eK (List.mem_map_of_mem b)]⟩;rw[t];unfold cu;simp[d]
 rw[decide_eq_false b] at d;obtain⟨X,q,p,u,nx,h⟩:=m k a S l y n b r c s f v;refine⟨X++[k],?_,by rw[← List.append_assoc];exact p,λx hx=>?_,by simp,by simpa using nx,by rw[← List.append_assoc];exact h⟩
 ·unfold cu;simp[d,q]
 rcases mem_append.mp hx with hx |hx
 ·exact le_of_lt (u x hx)
 rw[mem_singleton.mp hx];exact le_refl _
theorem uP (w:Wf o G)(g:Nat):∀ fuel:Nat,yj (bt fuel) fuel (2 ^ fuel-1) G o g
 | 0,j,a,S,l,M,_,_,_,_,_,_,_=>absurd M (by have:=xC o G j;omega)
 |n+1,j,a,S,l,M,hj,hnm,hg,hl,Ol,hc,hN=>by
  have C:=uP w g n;have p2 : 2 ^ (n+1)=2*2 ^ n:=by rw[pow_succ];omega
  have p1 : 1<=2 ^ n:=one_le_two_pow;have e:G[j]?=some G[j]:=List.getElem?_eq_getElem hj;have q:=w.row j _ e;have V:eN (.loc g) S=some (G.map au):=by unfold eN;simp only[hg]
  have t:uV (.loc g) (.int j) S=some (au G[j]):=by show ((eN (.loc g) S).bind λO=>Lo O (j:Int))=_;rw[V,bind_some];exact bP (by rw[getElem?_map,e];rfl)
  have u:=BG G[j] S;have E:bE (.loc g)=true:=rfl;have Q:∀ k:Nat,eY (.int k)=some (.inl (k:Int)):=λk=>rfl
  have finish:∀ (d:List Nat) (s:Ig) (z:Option D),s=S.set l (.dict (lf d))->j∉d->d.length<=20000->wY (af 2) (af 1) (aB (.bl true)) [some (.loc g),some (.int j),some (.loc l),z] s=Ip (.next [some (.loc g),some (.int j),some (.loc l),z]) (S.set l (.dict (lf (d++[j])))):=by
   intro d s z J W r;have U:s[l]?=some (.dict (lf d)):=by rw[J];exact di hl
   have Y:(lf d).length<sizeLine:=by unfold lf;rw[length_map];exact Nat.lt_of_le_of_lt r (by decide)
   have:um (.loc l) (.int j) (.bl true) [some (.loc g),some (.int j),some (.loc l),z] s=Ip (.next [some (.loc g),some (.int j),some (.loc l),z]) (S.set l (.dict (lf (d++[j])))):=by unfold um;simp only[U,Q];rw[if_pos Y,EJ W,J,List.set_set]
   simp[this]
  cases hr:G[j] with
  |leaf L =>
   rw[hr] at u t
   have fin:=finish a S none (by
    apply ext_getElem?;intro i;by_cases K:l=i
    ·subst K;rw[di hl,hl]
    rw[bX K]) hnm (by omega)
   have f:Iu.uT G j = .leaf L:=(Un.leaf (by rw[e,hr])).uT;have A:Tr.leaf L∉a.map (Iu.uT G):=λh=>hnm (zP w hc.lt hj (by rw[f];exact h));refine⟨[],?_,?_,(λx hx=>by cases hx),by simp;omega,by rw[append_nil,f,dZ A,map_append,map_cons,map_nil,f]⟩
   ·rw[append_nil];unfold bt aZ;rw[if_pos (show ([.loc g,.int j,.loc l]:List D).length=3 from rfl)]
    have:eB (bt n) ([.loc g,.int j,.loc l].map some++replicate 1 none) S=Ip (.next [some (.loc g),some (.int j),some (.loc l),none]) (S.set l (.dict (lf (a++[j])))):=by
     unfold eB;show aM _ _ [some (.loc g),some (.int j),some (.loc l),none] S=_;rw[DI];have:jQ (bB (aR dI (ag (zC (af 0) (af 1)) aA))) (aE 3) (cu (bt n)) [some (.loc g),some (.int j),some (.loc l),none] S=Ip (.next [some (.loc g),some (.int j),some (.loc l),none]) S:=by simp[E,t,u,cw,gZ]
     rw[this];exact fin
    rw[this];rfl
   rw[append_nil];exact hc.snoc hj hnm λc n y h=>by rw[e,hr] at h;cases h
  |ask c v m =>
   rw[hr] at u t q;obtain⟨_,Z,b2,b3,b4,_⟩:=q;have pj:Iu.pl o G j=o.idxOf c:=by unfold Iu.pl;rw[e,hr]
   obtain⟨b,T,X,B,m1,n1,t1⟩:=oK C j v a S l (by omega) (by omega) hg hl Ol hc (by omega);have N:(S.set l (.dict (lf (a++b))))[g]?=some (.lst (G.map au)):=by rw[bX (Ne.symm Ol)];exact hg
   have P:(S.set l (.dict (lf (a++b))))[l]?=some (.dict (lf (a++b))):=di hl;obtain⟨p,I,R,F,m2,n2,t2⟩:=oK C j m (a++b) _ l (by omega) (by omega) N P Ol X (by rw[List.length_append];omega);rw[List.set_set] at I
   have H:j∉a++b++p:=by
    intro hm;rcases mem_append.mp hm with hm |hm
    ·rcases mem_append.mp hm with hm |hm
     ·exact hnm hm
     have:=B j hm;omega
    have:=F j hm;omega
   have fin:=finish (a++b++p) _ (some (.int m)) rfl H (by rw[List.length_append,List.length_append];omega);have f:Iu.uT G j = .node c (Iu.uT G v) (Iu.uT G m):=(Un.node (by rw[e,hr]) (w.uT (by omega)) (w.uT (by omega))).uT;have A:Tr.node c (Iu.uT G v) (Iu.uT G m)∉a.map (Iu.uT G):=λh=>hnm (zP w hc.lt hj (by rw[f];exact h));refine⟨b++p,?_,?_,λx hx=>?_,by rw[List.length_append];omega,by rw[← List.append_assoc,map_append,t2,t1,f,dY A,map_cons,map_nil,f]⟩
   ·unfold bt aZ;rw[if_pos (show ([.loc g,.int j,.loc l]:List D).length=3 from rfl)]
    have:eB (bt n) ([.loc g,.int j,.loc l].map some++replicate 1 none) S=Ip (.next [some (.loc g),some (.int j),some (.loc l),some (.int m)]) (S.set l (.dict (lf (a++(b++p)++[j])))):=by
     unfold eB;show aM _ _ [some (.loc g),some (.int j),some (.loc l),none] S=_;rw[DI];have:jQ (bB (aR dI (ag (zC (af 0) (af 1)) aA))) (aE 3) (cu (bt n)) [some (.loc g),some (.int j),some (.loc l),none] S=Ip (.next [some (.loc g),some (.int j),some (.loc l),some (.int m)]) (S.set l (.dict (lf (a++b++p)))):=by simp[E,t,u,cw,gZ,T,I]
     rw[this];simp only[cn];rw[← List.append_assoc a b p];exact fin
    rw[this];rfl
   ·rw[← List.append_assoc];refine R.snoc hj H λc' n y h=>?_;rw[e,hr] at h;cases h;exact⟨mem_append_left _ m1,m2⟩
   rcases mem_append.mp hx with hx |hx
   ·have:=B x hx;omega
   have:=F x hx;omega
end
def a7 (p:Nat):List Nat->List (D×D)
 |[]=>[]
 |k::r=>(.int k,.int p)::a7 (p+1) r
theorem AG:∀ (l:List Nat) (p:Nat),(a7 p l).length=l.length
 |[],_=>rfl
 |k::r,p=>by rw[a7,length_cons,length_cons,AG r]
theorem AI (k:Nat):∀ (l:List Nat) (p:Nat),((a7 p l).any λq=>fH q.1 (.int k))=decide (k∈l)
 |[],_=>by simp[a7]
 |a::l,p=>by
  rw[a7,any_cons,AI k l,ju];by_cases h:a=k
  ·simp[h]
  have:¬ k=a:=λe=>h e.symm;simp[h,this]
theorem AH (k:Nat):∀ (l:List Nat) (p:Nat),getD (a7 p l) (.int k)=if k∈l then some (.int ((p+l.idxOf k:Nat):Int)) else none
 |[],_=>rfl
 |a::l,p=>by
  have c:=AH k l (p+1);unfold L2.getD at c ⊢;rw[a7,find?_cons];simp only[ju];by_cases h:a=k
  ·subst h;simp
  rw[decide_eq_false h];simp only;rw[c];have f:¬ k=a:=λe=>h e.symm;have d:(a==k)=false:=by simpa using h
  by_cases b:k∈l
  ·rw[if_pos b,if_pos (mem_cons_of_mem _ b),idxOf_cons,d];simp only[cond_false];congr 2;omega
  rw[if_neg b,if_neg (by rw[mem_cons];exact λq=>q.elim f b)]
theorem xH:∀ (l:List Nat) (p k:Nat),a7 p (l++[k])=a7 p l++[(.int k,.int ((p+l.length:Nat):Int))]
 |[],p,k=>rfl
 |a::l,p,k=>by
  rw[cons_append,a7,xH l (p+1) k,a7,cons_append,length_cons,show p+1+l.length=p+(l.length+1) by omega]
theorem EF {k:Nat}{l:List Nat}(h:k∉l):putD (a7 0 l) (.int k) (.int l.length)=a7 0 (l++[k]):=by unfold putD;rw[AI,decide_eq_false h,if_neg (by decide),xH,zero_add]
def Qp (a:List Nat):Row->Row
 | .leaf b => .leaf b
 | .ask c n y => .ask c (a.idxOf n) (a.idxOf y)
def FR (a:List Nat)(G:List Row):List Row:=a.map λk=>Qp a ((G[k]?).getD (.leaf []))
def Wr (o:List Nat)(G:List Row):Prop:=∀ (i:Nat) (r:Row),G[i]?=some r->Ll o G i r
section
variable {B:Nat->Option MO}{L:Nat}{o:List Nat}{G:List Row}
theorem pE {a:List Nat}(h:Cl G a){p k:Nat}(b:a[p]?=some k):∃ r,G[k]?=some r/\(FR a G)[p]?=some (Qp a r):=by have c:=h.lt k (mem_of_getElem? b);refine⟨G[k],List.getElem?_eq_getElem c,?_⟩;unfold FR;rw[getElem?_map,b,map_some,List.getElem?_eq_getElem c];rfl
theorem e_ {a:List Nat}{k:Nat}(h:k∈a):a[a.idxOf k]?=some k:=by have b:=idxOf_lt_length_iff.mpr h;rw[List.getElem?_eq_getElem b,getElem_idxOf b]
theorem DK {a:List Nat}(h:Cl G a){k:Nat}(b:k∈a):Iu.pl o (FR a G) (a.idxOf k)=Iu.pl o G k:=by obtain⟨r,c,d⟩:=pE h (e_ b);unfold Iu.pl;rw[c,d];cases r<;>rfl
theorem wM {a:List Nat}{k p:Nat}(h:k∈a.take p):a.idxOf k<p:=by
 have c:(a.take p).idxOf k<(a.take p).length:=idxOf_lt_length_iff.mpr h;have b:(a.take p).length<=p:=List.length_take_le ..
 have e:a.idxOf k=(a.take p).idxOf k:=by
  conv=>lhs;rw[← take_append_drop p a]
  rw[idxOf_append,if_pos h]
 omega
theorem DJ {a:List Nat}(w:Wf o G)(h:Cl G a):Wr o (FR a G):=by
 intro p r b;have f:p<a.length:=by have:=(List.getElem?_eq_some_iff.mp b).1;simpa [FR] using this
 obtain⟨r0,i,l⟩:=pE h (List.getElem?_eq_getElem f);rw[l] at b;cases b;have q:=w.row _ _ i;cases r0 with
 |leaf z=>exact q
 |ask c n y =>
  obtain⟨t,v,x,u,k,m⟩:=q;obtain⟨g,j⟩:=h.dn p _ c n y (List.getElem?_eq_getElem f) i;have m1:=mem_of_mem_take g;have m2:=mem_of_mem_take j;refine⟨t,wM g,wM j,by rw[DK h m1];exact u,by rw[DK h m2];exact k,λe=>m ?_⟩;have d:=e_ m1;have s:=e_ m2;rw[e,s] at d;exact(Option.some.inj d).symm
theorem DL {g:List Nat}(h:Cl G g){m:Th}{i:Nat}{ss:List Str}(e:Ev G m i ss):i∈g->Ev (FR g G) m (g.idxOf i) ss:=by
 induction e with
 | @leaf i ss b =>
  intro d;obtain⟨r,a,f⟩:=pE h (e_ d);rw[b] at a;cases a;exact .leaf f
 | @no i c n y ss b k _ j =>
  intro d;obtain⟨r,a,f⟩:=pE h (e_ d);rw[b] at a;cases a;obtain⟨l,o⟩:=h.dn _ _ c n y (e_ d) b;exact .no f k (j (mem_of_mem_take l))
 | @yes i c n y ss b k _ j =>
  intro d;obtain⟨r,a,f⟩:=pE h (e_ d);rw[b] at a;cases a;obtain⟨l,o⟩:=h.dn _ _ c n y (e_ d) b;exact .yes f k (j (mem_of_mem_take o))
theorem zb (w:Wf o G)(m:o.length<=8){S:Ig}{g i:Nat}(b:S[g]?=some (.lst (G.map au)))(hi:i<G.length):∃ X,fT [.loc g,.int i] S=Ip (.lst ((X++[i]).map λ(k:Nat)=>D.int k)) (S++[.dict (lf (X++[i]))])/\Cl G (X++[i])/\X.length<=1022/\(X++[i]).map (Iu.uT G)=po (Iu.uT G i) []:=by
 have j:g<S.length:=(List.getElem?_eq_some_iff.mp b).1;have d:(S++[MO.dict (lf [])])[g]?=some (.lst (G.map au)):=by rw[getElem?_append_left j];exact b
 have f:(S++[MO.dict (lf [])])[S.length]?=some (.dict (lf [])):=by simp
 obtain⟨X,q,c,_,n,a⟩:=uP w g 10 i [] (S++[.dict (lf [])]) S.length (by omega) hi (by simp) d f (by omega) ⟨nodup_nil,(λi h=>by cases h),(λp i c n y h=>by simp at h)⟩ (by decide);rw[nil_append] at q c a;have es:(S++[MO.dict (lf [])]).set S.length (.dict (lf (X++[i])))=S++[.dict (lf (X++[i]))]:=by simp
 rw[es] at q;have n:X.length<=1022:=by have:X.length+1<=1023:=n;omega
 have q:bt 10 [.loc g,.int i,.loc S.length] (S++[.dict []])=Ip .Jm (S++[.dict (lf (X++[i]))]):=q;have l:(lf (X++[i])).length<=sizeLine:=by unfold lf;rw[length_map,List.length_append];exact Nat.le_trans (show X.length+1<=2000 by omega) (by decide)
 have e:g6 (.loc S.length) (S++[.dict (lf (X++[i]))])=some (.lst ((X++[i]).map λ(k:Nat)=>D.int k)):=by unfold g6;simp only[List.getElem?_concat_length];rw[if_pos l];unfold lf;rw[map_map];rfl
 refine⟨X,aC rfl ?_,c,n,a⟩;unfold ja;simp[q,e,-map_append]
theorem BZ {S:Ig}{l:Nat}{a:List Nat}(e:S[l]?=some (.dict (a7 0 a)))(r:Row)(d:∀ c n y,r = .ask c n y->n∈a/\y∈a):fS [au r,.loc l] S=Ip (au (Qp a r)) S:=by
 have b:=tm r S;refine aC rfl ?_;unfold i_;cases r with
 |leaf p=>simp[b,Qp]
 |ask c n y =>
  obtain⟨j,h⟩:=d c n y rfl;have o:I_ (au (.ask c n y)) (.int 0) S=some (.int c):=M5 _ _ S;have m:I_ (au (.ask c n y)) (.int 1) S=some (.int n):=OW _ _ _ S;have f:I_ (au (.ask c n y)) (.int 2) S=some (.int y):=at2 _ _ _ _ S;have gt:∀ k,k∈a->I_ (.loc l) (.int (k:Nat)) S=some (.int (a.idxOf k:Nat)):=λk g=>by have:=AH k a 0;rw[if_pos g,zero_add] at this;unfold I_;rw[if_pos (show bE (.loc l)=true from rfl)];unfold x9;simp only[e,eY];exact this
  have i:Lp [.int c,.int (a.idxOf n:Nat),.int (a.idxOf y:Nat)] (.tup [.int c,.int (a.idxOf n:Nat),.int (a.idxOf y:Nat)])=some (au (Qp a (.ask c n y))):=cC (by simp);simp[b,o,m,f,gt n j,gt y h,i];rfl
theorem fold_eq {S:Ig}{C:List (Row×Nat)}(h:SR B S L o G C)(w:Wf o G)(U:o.length<=8){i:Nat}(hi:i<G.length):∃ f j,cM [.loc L,.int i] S=Ip (.tup ((FR (f++[i]) G).map au)) j/\Cl G (f++[i])/\f.length<=1022/\(f++[i]).map (Iu.uT G)=po (Iu.uT G i) []/\∃ x y,j=S++[x,y]:=by
 obtain⟨X,q,c,T,N⟩:=zb w U h.Ra hi;generalize r:X++[i]=f at *
 have lLs:f.length<=1023:=by rw[← r,List.length_append];simp;omega
 generalize A:S++[MO.dict (lf f)]=S1 at *
 have m:SR (λi=>S1[i]?) S1 L o G C:=by
  have JU:L+3<S.length:=(List.getElem?_eq_some_iff.mp h.NM).1;refine⟨?_,?_,?_,?_,λ_ _=>rfl⟩<;>rw[← A,getElem?_append_left (by omega)]
  ·exact h.obj
  ·exact h.Ra
  ·exact h.num
  exact h.NM
 have Zl:L+3<S1.length:=(List.getElem?_eq_some_iff.mp m.NM).1;have O:∀ k:Nat,eY (.int k)=some (.inl (k:Int)):=λk=>rfl
 obtain⟨ρ',j,J,v⟩:=dB (u:=kJ 2 (bf (aE 4) (bf (aE 5) gK))) (body:=cZ)
  (λp g j=>p<=f.length/\j=S1++[.dict (a7 0 (f.take p))]/\∃ a b,g=[some (.loc L),some (.int i),some (.lst (f.map λ(k:Nat)=>D.int k)),some (.loc S1.length),a,b])
  (cP 0 (f.map λ(k:Nat)=>D.int k)) 0 [some (.loc L),some (.int i),some (.lst (f.map λ(k:Nat)=>D.int k)),some (.loc S1.length),none,none] (S1++[.dict []]) ⟨by omega,rfl,none,none,rfl⟩ (by
   rintro p dd g j E ⟨Jn,rfl,a,b,rfl⟩;rw[fw] at E;obtain⟨x,t,rfl⟩:=map_eq_some_iff.mp E;rw[getElem?_map] at t;obtain⟨k,l,rfl⟩:=map_eq_some_iff.mp t;have Nj:p<f.length:=(List.getElem?_eq_some_iff.mp l).1;simp only[zero_add] at *
   have Zm:k∉f.take p:=by
    intro Z;have h1:=wM Z;have h2:f.idxOf k=p:=by have:=(List.getElem?_eq_some_iff.mp l).2;rw[← this];exact c.nd.idxOf_getElem p Nj
    omega
   have lt:(f.take p).length=p:=by rw[length_take];omega
   have tk:f.take (p+1)=f.take p++[k]:=by rw[List.take_succ,l];rfl
   have hz:(a7 0 (f.take p)).length<sizeLine:=by rw[AG,lt];exact lt_of_lt_of_le (show p<2000 by omega) (by decide)
   have V:(S1++[MO.dict (a7 0 (f.take p))])[S1.length]?=some (.dict (a7 0 (f.take p))):=by simp
   have F:=EF Zm;rw[lt] at F;have ep:∀ g,um (.loc S1.length) (.int k) (.int p) g (S1++[.dict (a7 0 (f.take p))])=Ip (.next g) (S1++[.dict (a7 0 (f.take (p+1)))]):=λg=>by unfold um;simp only[V,O];rw[if_pos hz,F,tk];simp
   refine⟨[some (.loc L),some (.int i),some (.lst (f.map λ(k:Nat)=>D.int k)),some (.loc S1.length),some (.int p),some (.int k)],rfl,[some (.loc L),some (.int i),some (.lst (f.map λ(k:Nat)=>D.int k)),some (.loc S1.length),some (.int p),some (.int k)],S1++[.dict (a7 0 (f.take (p+1)))],?_,by omega,rfl,some (.int p),some (.int k),rfl⟩;unfold cZ
   simp[ep])
 simp only[zero_add,bN,length_map,List.take_length] at v;obtain⟨_,rfl,a,b,rfl⟩:=v
 have s:SR (λi=>(S1++[MO.dict (a7 0 f)])[i]?) (S1++[.dict (a7 0 f)]) L o G C:=by
  refine⟨?_,?_,?_,?_,λ_ _=>rfl⟩<;>rw[getElem?_append_left (by omega)]
  ·exact m.obj
  ·exact m.Ra
  ·exact m.num
  exact m.NM
 have P:(S1++[MO.dict (a7 0 f)])[S1.length]?=some (.dict (a7 0 f)):=by simp
 have z:=l9 (u:=aE 0) (fe:=cg) (λg => ∃ y,g=[y,some (.loc S1.length),some (.loc L)]) (λd=>match d with | .int k=>au (Qp f ((G[k.toNat]?).getD (.leaf []))) |_ => .Jm) (S1++[.dict (a7 0 f)]) (f.map λ(k:Nat)=>D.int k)
  (cm 1 [3,0] [some (.loc L),some (.int i),some (.lst (f.map λ(k:Nat)=>D.int k)),some (.loc S1.length),a,b]) ⟨none,rfl⟩ (by
   rintro d hd g ⟨y,rfl⟩;obtain⟨k,l,rfl⟩:=mem_map.mp hd;refine⟨_,rfl,⟨_,rfl⟩,?_⟩;have VJ:=c.lt k l;have e:G[k]?=some G[k]:=List.getElem?_eq_getElem VJ;have W:=s.row e;have K:=BZ P G[k] λQ n y H=>by obtain⟨Y,d2⟩:=c.dn _ k Q n y (e_ l) (by rw[e,H]);exact⟨mem_of_mem_take Y,mem_of_mem_take d2⟩
   have R:(G[(k:Int).toNat]?).getD (.leaf [])=G[k]:=by rw[Int.toNat_natCast,e];rfl
   show cg [some (.int k),some (.loc S1.length),some (.loc L)] (S1++[.dict (a7 0 f)])=Ip (au (Qp f ((G[(k:Int).toNat]?).getD (.leaf [])))) (S1++[.dict (a7 0 f)]);rw[R];unfold cg
   simp[s.MY,W,K])
 have M:(f.map λ(k:Nat)=>D.int k).map (λd=>match d with | .int k=>au (Qp f ((G[k.toNat]?).getD (.leaf []))) |_ => .Jm)=(FR f G).map au:=by unfold FR;rw[map_map,map_map];refine map_congr_left λk _=>?_;simp
 rw[M] at z;refine⟨X,S1++[.dict (a7 0 f)],?_,by rw[r];exact c,T,by rw[r];exact N,.dict (lf f),.dict (a7 0 f),by rw[← A];simp⟩;rw[r];refine aC rfl ?_;have I:sG [.lst (f.map λ(k:Nat)=>D.int k)]=some (cP 0 (f.map λ(k:Nat)=>D.int k)):=rfl;unfold g9;simp[h.MY,q,I,J,cw,z,gL,-map_map]
end
theorem kQ (S r:Ig)(fs:List (Str×D))(f:Str)(v:D)(ρ:Ih)(h:fs.length<1000):kR "Rows" f (.loc S.length) v ρ (S++MO.ins "Rows" fs::r)=Ip (.next ρ) (S++MO.ins "Rows" (jU f v fs)::r):=by
 have e:(S++MO.ins "Rows" fs::r)[S.length]?=some (.ins "Rows" fs):=by simp
 unfold kR;simp only[e];rw[if_pos ⟨trivial,h⟩];simp
theorem Zo:¬ ("order":Str)="gathered":=by decide
theorem Zp:¬ ("order":Str)="numbers":=by decide
theorem Zq:¬ ("gathered":Str)="numbers":=by decide
theorem Zr:¬ ("order":Str)="choices":=by decide
theorem Zs:¬ ("gathered":Str)="choices":=by decide
theorem Zt:¬ ("numbers":Str)="choices":=by decide
theorem uj (S:Ig)(o:List Nat):bC [.loc S.length,oD o] (S++[.ins "Rows" []])=Ip .Jm (S++[RO o S.length,.lst [],.Ir [],.Ir []]):=by
 have c:=λa=>kQ S [] [] "order" (oD o) a (by decide);have b:=λa=>kQ S [.lst []] [("order",oD o)] "gathered" (.loc (S.length+1)) a (by simp);have e:=λa=>kQ S [.lst [],.Ir []] [("order",oD o),("gathered",.loc (S.length+1))] "numbers" (.loc (S.length+2)) a (by simp);have d:=λa=>kQ S [.lst [],.Ir [],.Ir []] [("order",oD o),("gathered",.loc (S.length+1)),("numbers",.loc (S.length+2))] "choices" (.loc (S.length+3)) a (by simp);simp only[jU,Zo,Zp,Zq,Zr,Zs,Zt,if_false] at c b e d;unfold bC aZ;rw[if_pos (show ([.loc S.length,oD o]:List D).length=2 from rfl)];have:eP ([.loc S.length,oD o].map some++replicate 0 none) (S++[.ins "Rows" []])=Ip (.next [some (.loc S.length),some (oD o)]) (S++[RO o S.length,.lst [],.Ir [],.Ir []]):=by unfold eP;simp[c,b,e,d]
 rw[this];rfl
def pR (m:Nat)(ts:List Int):Prop:=ts.length=m/\∀ x∈ts,x=0∨x=1
def tv (ts:List Int):Th:=λc=>decide (ts.getD c 0=1)
abbrev KH (ts:List Int):D:=.tup (ts.map .int)
theorem zT {m:Nat}{ts:List Int}(h:pR m ts){c:Nat}(b:c<m)(S:Ig):I_ (KH ts) (.int c) S=some (.int (if tv ts c=true then 1 else 0)):=by
 have a:c<ts.length:=by rw[h.1];exact b
 have e:ts[c]?=some ts[c]:=List.getElem?_eq_getElem a;unfold I_;rw[if_neg (by simp[bE])];show Lo (ts.map D.int) (c:Int)=_;rw[bP (v:=.int ts[c]) (by rw[getElem?_map,e];rfl)];have d:tv ts c=decide (ts[c]=1):=by unfold tv;rw[List.getD,e];rfl
 rw[d];rcases h.2 ts[c] (getElem_mem a) with q |q<;>simp[q]
theorem xN {e:Th}{ss d:List Str}(h:Kv e (au (.leaf ss)) d):d=ss:=by
 generalize c:au (.leaf ss)=D0 at h;cases h with
 |leaf =>
  simp only[au,D.tup.injEq,List.cons.injEq,and_true,true_and] at c;exact((List.map_inj_right (λa b h=>by cases h;rfl)).mp c).symm
 |no=>simp[au] at c
 |yes=>simp[au] at c
theorem KQ.total {m k:Nat}{d:D}(h:KQ m k d)(e:Th):∃ ss,Kv e d ss:=by
 induction h with
 |leaf _ _ _=>exact⟨_,.leaf⟩
 | @ask k c x y _ _ _ i g =>
  obtain⟨a,f⟩:=i;obtain⟨b,j⟩:=g;cases ht:e c with
  |false=>exact⟨a,.no ht f⟩
  |true=>exact⟨b,.yes ht j⟩
section
variable {m:Nat}{ts:List Int}
theorem ng (p:pR m ts)(S:Ig){k:Nat}{d:D}(h:KQ m k d):∀ {ss:List Str}{fuel:Nat},Kv (tv ts) d ss->k<fuel->fW fuel [d,KH ts] S=Ip (.tup (ss.map .str)) S:=by
 induction h with
 | @leaf k i _ _ _ =>
  intro ss fuel a l;rw[xN a];obtain⟨fuel,rfl⟩:∃ f,fuel=f+1:=⟨fuel-1,by omega⟩;have q:I_ (au (.leaf i)) (.int 0) S=some (.str "names"):=M5 _ _ S;have n:I_ (au (.leaf i)) (.int 1) S=some (.tup (i.map .str)):=OW _ _ _ S;have b:=eqs "names" "names";rw[decide_eq_true rfl] at b;refine aC rfl ?_;unfold j_;simp[q,n,b]
 | @ask k c x y s _ _ o j =>
  intro ss fuel a l;obtain⟨fuel,rfl⟩:∃ f,fuel=f+1:=⟨fuel-1,by omega⟩;have b:=eqs "ask" "names";rw[decide_eq_false yf] at b;have e:=zT p s S;refine aC rfl ?_;unfold j_;cases a with
  |no g a =>
   rw[g] at e;have r:=o (fuel:=fuel) a (by omega);simp[M5,OW,at2,b,e,r]
  |yes g a =>
   rw[g] at e;have r:=j (fuel:=fuel) a (by omega);simp[M5,OW,W5,b,e,r]
variable {o:List Nat}{R:List Row}
theorem fg (S:Ig){i:Nat}{r:Row}(h:R[i]?=some r):I_ (.tup (R.map au)) (.int i) S=some (au r):=by unfold I_;rw[if_neg (by simp[bE])];exact bP (by rw[getElem?_map,h];rfl)
theorem zp (S:Ig){r:Row}(h:R[R.length-1]?=some r):I_ (.tup (R.map au)) (.int (-1)) S=some (au r):=by
 have a:R.length-1<R.length:=(List.getElem?_eq_some_iff.mp h).1;unfold I_;rw[if_neg (by simp[bE])];show Lo (R.map au) (-1)=_;have e:P0 (R.map au).length (-1)=some (R.length-1):=by unfold P0;rw[length_map,if_neg (by decide),if_pos (by omega)];congr 1;omega
 unfold Lo;rw[e,bind_some,getElem?_map,h];rfl
end
theorem ij {α c:Type}[DecidableEq α][DecidableEq c](f : α->c)(x : α):∀ (l:List α),(∀ a∈l,f a=f x->a=x)->(l.map f).idxOf (f x)=l.idxOf x
 |[],_=>rfl
 |a::l,h=>by
  have j:=ij f x l λb g=>h b (mem_cons_of_mem _ g);rw[map_cons,idxOf_cons,idxOf_cons,j];by_cases e:a=x
  ·subst e;simp
  have k:¬ f a=f x:=λq=>e (h a (mem_cons_self ..) q);have d:(a==x)=false:=by simpa using e
  have i:(f a==f x)=false:=by simpa using k
  rw[d,i]
theorem BR {o:List Nat}{G:List Row}(w:Wf o G){d:List Nat}(c:Cl G d):FR d G=enc (d.map (Iu.uT G)):=by
 unfold FR enc;rw[map_map];refine map_congr_left λk h=>?_;have j:=c.lt k h;have e:G[k]?=some G[k]:=List.getElem?_eq_getElem j;have q:=w.row k _ e;simp only[Function.comp,e,getD_some];cases hr:G[k] with
 |leaf i =>
  have f:Iu.uT G k = .leaf i:=(Un.leaf (by rw[e,hr])).uT;rw[f];rfl
 |ask a n y =>
  rw[hr] at q;obtain⟨_,l,m,_⟩:=q;have f:Iu.uT G k = .node a (Iu.uT G n) (Iu.uT G y):=(Un.node (by rw[e,hr]) (w.uT (by omega)) (w.uT (by omega))).uT;rw[f];show Row.ask a (d.idxOf n) (d.idxOf y)=Row.ask a ((d.map (Iu.uT G)).idxOf (Iu.uT G n)) ((d.map (Iu.uT G)).idxOf (Iu.uT G y));rw[ij (Iu.uT G) n d λb g=>vU w (c.lt b g) (by omega),ij (Iu.uT G) y d λb g=>vU w (c.lt b g) (by omega)]
def BN:Tr->Prop
 | .leaf a=>(∀ x∈a,db x=true)/\OV a=true
 | .node _ n y=>BN n/\BN y
theorem Un.ord {o:List Nat}{G:List Row}(w:Wf o G){i:Nat}{t:Tr}(h:Un G i t):Ord o t/\BN t:=by
 induction h with
 |leaf h=>exact⟨trivial,w.row _ _ h⟩
 | @node i c n y s t h d f a b =>
  obtain⟨k,m,p,l,g,j⟩:=w.row _ _ h;refine⟨⟨k,a.1,b.1,by rw[← d.pl];exact l,by rw[← f.pl];exact g,λe=>j ?_⟩,a.2,b.2⟩;subst e;exact Un.inj w.nd d f
theorem jC {o:List Nat}(nd:o.Nodup)(q:o.length<=8){m:Nat}(H:∀ c,c<m->c∈o){k:Nat}(P:k<=12){d:D}(hd:KQ m k d)(S:Ig) :
  ∃ t u,bK [d,oD o] S=Ip (.tup ((enc (po t [])).map au)) u/\Ord o t/\BN t/\Wr o (enc (po t []))/\(∀ a,Ev (enc (po t [])) a ((enc (po t [])).length-1) (Ky t a))/\(∀ a ss,Kv a d ss->Ky t a=ss)/\(po t []).length<=1023/\u.take S.length=S:=by
 have J:=uj S o
 have w:SR (λi=>(S++[RO o S.length,.lst [],.Ir [],.Ir []])[i]?) (S++[RO o S.length,.lst [],.Ir [],.Ir []]) S.length o [] []:=by
  refine⟨by simp,?_,?_,?_,λ_ _=>rfl⟩
  ·rw[getElem?_append_right (by omega)];simp
  ·rw[getElem?_append_right (by omega)];simp;rfl
  rw[getElem?_append_right (by omega)];simp;rfl
 have pre:∀ i,i<S.length->(S++[RO o S.length,.lst [],.Ir [],.Ir []])[i]?=S[i]?:=λi g=>getElem?_append_left g;generalize (S++[RO o S.length,.lst [],.Ir [],.Ir []])=S0 at *
 have C:Wf o ([]:List Row):=⟨nodup_nil,λi r h=>by simp at h⟩;have M : 2 ^ (k+1)<=2 ^ 13:=Nat.pow_le_pow_right (by decide) (by omega);have R : 2 ^ 13=8192:=rfl;obtain⟨j,E,N,r,G,f,b,_,l,_,_,x⟩:=CH nd q H hd 15 (by omega) w C (λp K=>by cases K) (by simp;omega) (by simp;omega);rw[nil_append] at f b l x;obtain⟨X,T,A,c,Q,s,x2,y,rfl⟩:=fold_eq f b q l
 have fr:(j++[x2,y]).take S.length=S:=by
  have O:S.length+3<j.length:=(List.getElem?_eq_some_iff.mp f.NM).1;apply ext_getElem?;intro i;rw[getElem?_take];split
  ·rename_i g;rw[getElem?_append_left (by omega),f.fr i (.inl g),pre i g]
  rw[List.getElem?_eq_none (by omega)]
 have n:=w.has "fold_from" (by decide);have un:=b.uT l;have v:FR (X++[r]) E=enc (po (Iu.uT E r) []):=by rw[BR b c,s]
 have z:=DJ b c;rw[v] at A z;refine⟨Iu.uT E r,j++[x2,y],aC rfl ?_,(un.ord b).1,(un.ord b).2,z,λa=>?_,λa ss L=>?_,?_,fr⟩
 ·have F:j0 "Rows" bC (ag (af 1) aA) [some d,some (oD o),none] S=Ip (.loc S.length) S0:=by
   unfold j0;simp only[E4,Gf,cn];have:af 1 [some d,some (oD o),none] S=Ip (oD o) S:=rfl;rw[this];simp only[cn];rw[J];rfl
  unfold u7;simp[F,n,G,A,-map_map]
 ·have e:=DL c (un.ev a) (by simp);have B:r∉X:=by have:=(nodup_append.mp c.nd).2.2;intro n;exact this r n r (by simp) rfl
  have I:(X++[r]).idxOf r=(FR (X++[r]) E).length-1:=by rw[idxOf_append,if_neg B];simp[FR]
  rw[I,v] at e;exact e
 ·exact Ev.det (un.ev a) (x a ss L)
 rw[← s,length_map,List.length_append];simp;omega
inductive Sub:Tr->Tr->Prop
 |refl (t:Tr):Sub t t
 |no {s:Tr}{c:Nat}{n y:Tr}:Sub s n->Sub s (.node c n y)
 |yes {s:Tr}{c:Nat}{n y:Tr}:Sub s y->Sub s (.node c n y)
def OY (a:List Tr):Prop:=∀ c n y,Tr.node c n y∈a->n∈a/\y∈a
theorem OY.sub {a:List Tr}(h:OY a){s t:Tr}(q:Sub s t):t∈a->s∈a:=by
 induction q with
 |refl=>exact id
 |no _ b=>exact λm=>b (h _ _ _ m).1
 |yes _ b=>exact λm=>b (h _ _ _ m).2
theorem wp:∀ (t:Tr) (a:List Tr),∃ X,po t a=a++X
 | .leaf b,a=>by
  by_cases h:Tr.leaf b∈a
  ·exact⟨[],by rw[eK h,append_nil]⟩
  exact⟨[.leaf b],dZ h⟩
 | .node c n y,a=>by
  by_cases h:Tr.node c n y∈a
  ·exact⟨[],by rw[eK h,append_nil]⟩
  obtain⟨X,d⟩:=wp n a;obtain⟨Y,e⟩:=wp y (po n a);exact⟨X++Y++[.node c n y],by rw[dY h,e,d];simp⟩
theorem rX (t:Tr)(a:List Tr):t∈po t a:=by
 by_cases h:t∈a
 ·rw[eK h];exact h
 cases t with
 |leaf b=>rw[dZ h];simp
 |node c n y=>rw[dY h];simp
theorem FK {t s:Tr}{a:List Tr}(h:s∈a):s∈po t a:=by obtain⟨X,e⟩:=wp t a;rw[e];exact mem_append_left _ h
theorem h9:∀ (t:Tr) (a:List Tr) (s:Tr),s∈po t a->s∈a∨Sub s t
 | .leaf d,a,s,h=>by
  by_cases b:Tr.leaf d∈a
  ·rw[eK b] at h;exact .inl h
  rw[dZ b] at h;rcases mem_append.mp h with h |h
  ·exact .inl h
  rw[mem_singleton.mp h];exact .inr (.refl _)
 | .node c n y,a,s,h=>by
  by_cases b:Tr.node c n y∈a
  ·rw[eK b] at h;exact .inl h
  rw[dY b] at h;rcases mem_append.mp h with h |h
  ·rcases h9 y _ s h with h |h
   ·rcases h9 n _ s h with h |h
    ·exact .inl h
    exact .inr (.no h)
   exact .inr (.yes h)
  rw[mem_singleton.mp h];exact .inr (.refl _)
theorem fu:∀ (t:Tr) {a:List Tr},OY a->OY (po t a)
 | .leaf i,a,h=>by
  by_cases b:Tr.leaf i∈a
  ·rw[eK b];exact h
  rw[dZ b];intro c n y q;rcases mem_append.mp q with q |q
  ·exact⟨mem_append_left _ (h c n y q).1,mem_append_left _ (h c n y q).2⟩
  cases mem_singleton.mp q
 | .node c n y,a,h=>by
  by_cases b:Tr.node c n y∈a
  ·rw[eK b];exact h
  rw[dY b];have e:=fu y (fu n h);intro g d f q;rcases mem_append.mp q with q |q
  ·exact⟨mem_append_left _ (e g d f q).1,mem_append_left _ (e g d f q).2⟩
  cases mem_singleton.mp q;exact⟨mem_append_left _ (FK (rX n a)),mem_append_left _ (rX y _)⟩
theorem tZ {s t:Tr}(h:Sub s t):MZ s<=MZ t:=by
 induction h with
 |refl=>exact le_refl _
 |no _ a=>simp only[MZ];omega
 |yes _ a=>simp only[MZ];omega
theorem i8:∀ (t:Tr) {d:List Tr},d.Nodup->(po t d).Nodup
 | .leaf i,d,h=>by
  by_cases e:Tr.leaf i∈d
  ·rw[eK e];exact h
  rw[dZ e];refine nodup_append.mpr ⟨h,by simp,λa f b g=>?_⟩;rw[mem_singleton.mp g];rintro rfl;exact e f
 | .node c n y,d,h=>by
  by_cases e:Tr.node c n y∈d
  ·rw[eK e];exact h
  rw[dY e];refine nodup_append.mpr ⟨i8 y (i8 n h),by simp,λa f b g=>?_⟩;rw[mem_singleton.mp g];rintro rfl;rcases h9 y _ _ f with q |q
  ·rcases h9 n _ _ q with q |q
   ·exact e q
   have:=tZ q;simp only[MZ] at this;omega
  have:=tZ q;simp only[MZ] at this;omega
theorem sP:OY []:=λc n y h=>by cases h
theorem jw:∀ (t:Tr) {d:List Tr},OY d->po t d=d++(po t []).filter λs=>decide (s∉d)
 | .leaf i,d,h=>by
  have g:po (.leaf i) []=[.leaf i]:=dZ (by simp);rw[g];by_cases e:Tr.leaf i∈d
  ·rw[eK e];simp[e]
  rw[dZ e];simp[e]
 | .node c n y,d,h=>by
  have g:po (.node c n y) []=po y (po n [])++[.node c n y]:=dY (by simp);by_cases e:Tr.node c n y∈d
  ·rw[eK e]
   have:(po (.node c n y) []).filter (λs=>decide (s∉d))=[]:=by
    rw[List.filter_eq_nil_iff];intro s f;rcases h9 _ _ _ f with q |q
    ·cases q
    simp[h.sub q e]
   rw[this,append_nil]
  rw[dY e,g,jw y (fu n h),jw y (fu n sP),jw n h,List.filter_append,List.filter_append,List.filter_filter];have j:([Tr.node c n y].filter λs=>decide (s∉d))=[.node c n y]:=by simp[e]
  rw[j,List.append_assoc,List.append_assoc,List.append_assoc];congr 2;congr 1;apply List.filter_congr;intro s _;rw[Bool.eq_iff_iff];simp only[decide_eq_true_eq,and_eq_true,mem_append,mem_filter];constructor
  ·intro q;refine⟨λa=>q (.inl a),λa=>?_⟩;by_cases f:s∈d
   ·exact q (.inl f)
   exact q (.inr ⟨a,f⟩)
  rintro⟨a,b⟩ (q |⟨q,_⟩)
  ·exact a q
  exact b q
theorem CV {α:Type}[DecidableEq α]:∀ (l:List α),l.Nodup->l.map (λx=>l.idxOf x)=List.range l.length:=by
 intro l nd;apply ext_getElem?;intro i;by_cases a:i<l.length
 ·rw[getElem?_map,List.getElem?_eq_getElem a,map_some,nd.idxOf_getElem i a,List.getElem?_range a]
 rw[List.getElem?_eq_none (by simpa using a),List.getElem?_eq_none (by simpa using a)]
theorem Bt {u:D->Ih->Option Ih}{fe:H9 D}{d1 d2 v1 v2:D}{ρ0 ρ1 ρ2:Ih}{S:Ig}(a:u d1 ρ0=some ρ1)(b:fe ρ1 S=Ip v1 S)(c:u d2 ρ1=some ρ2)(d:fe ρ2 S=Ip v2 S):bO u fQ fe [d1,d2] ρ0 S=some ([v1,v2],S):=by have t:OA (Ip true S)=some (true,S):=rfl;have k:∀ v:D,OA (Ip v S)=some (v,S):=λ_=>rfl;simp[bO,a,b,c,d,t,k]
abbrev Lb (i j:Nat):D:=.tup [.int i,.int j]
theorem rY (i j:Nat):fX (Lb i j)=some (.tuple [.int i,.int j]):=by simp[Lb,fX,toPy,bW,keyOk]
theorem nF (i j a b:Nat):dL (Lb i j) (Lb a b)=decide ((i,j)=(a,b)):=by unfold dL;rw[rY,rY,Bool.eq_iff_iff];simp[PyData.eqv,PyData.eqvAll];omega
abbrev PM:=List ((Nat×Nat)×Nat)
def N9 (M:PM):List (D×D):=M.map λp=>(Lb p.1.1 p.1.2,.int p.2)
def pK (M:PM)(r:Nat×Nat)(v:Nat):PM:=if (M.any λp=>decide (p.1=r))=true then M.map (λp=>if p.1=r then (p.1,v) else p) else M++[(r,v)]
theorem EG (M:PM)(r:Nat×Nat)(v:Nat):putN (N9 M) (Lb r.1 r.2) (.int v)=N9 (pK M r v):=by
 have a:((N9 M).any λp=>dL p.1 (Lb r.1 r.2))=M.any λp=>decide (p.1=r):=by unfold N9;rw[any_map];congr 1;funext p;simp only[Function.comp,nF]
 unfold putN pK;rw[a];split
 ·unfold N9;rw[map_map,map_map];refine map_congr_left λp b=>?_;simp only[Function.comp,nF,decide_eq_true_eq];split<;>rfl
 unfold N9;rw[map_append];rfl
theorem EH (M:PM)(r:Nat×Nat):jM (N9 M) (Lb r.1 r.2)=(M.find? λp=>decide (p.1=r)).map λp => .int p.2:=by
 unfold jM N9
 induction M with
 |nil=>rfl
 |cons p C a =>
  rw[map_cons,find?_cons,find?_cons];simp only[nF];cases hd:decide (p.1=r) with
  |true=>rfl
  |false=>exact a
theorem Ao {M:PM}{P:Nat×Nat->Nat->Prop}(h:∀ p∈M,P p.1 p.2){r:Nat×Nat}{v:Nat}(a:P r v):∀ p∈pK M r v,P p.1 p.2:=by
 intro p hp;unfold pK at hp;split at hp
 ·obtain⟨q,b,rfl⟩:=mem_map.mp hp;split
  ·rename_i e;rw[e];exact a
  exact h q b
 rcases mem_append.mp hp with hp |hp
 ·exact h p hp
 rw[mem_singleton.mp hp];exact a
theorem An (M:PM)(r:Nat×Nat)(v:Nat):(pK M r v).length<=M.length+1:=by
 unfold pK;split
 ·rw[length_map];omega
 rw[List.length_append];simp
theorem nB {o:List Nat}{R:List Row}(w:Wr o R){i c:Nat}(hi:i<R.length)(b:Bool)(v:c∈o)(f:o.idxOf c<=Iu.pl o R i):sd R i c b<R.length/\o.idxOf c<Iu.pl o R (sd R i c b)/\∀ d ss,d c=b->Ev R d i ss->Ev R d (sd R i c b) ss:=by
 have e:R[i]?=some R[i]:=List.getElem?_eq_getElem hi;have l:o.idxOf c<o.length:=idxOf_lt_length_iff.mpr v;have q:=w i _ e;unfold sd;rw[e];cases hr:R[i] with
 |leaf ss =>
  refine⟨hi,?_,λ_ _ _ k=>k⟩;unfold Iu.pl;rw[e,hr];exact l
 |ask s n y =>
  rw[hr] at q e;obtain⟨p,A,z,u,r,_⟩:=q;by_cases g:s=c
  ·subst g;simp only[if_true];cases b with
   |false =>
    refine⟨by simp;omega,by simpa using u,λd ss j k=>?_⟩;cases k with
    |leaf a=>rw[e] at a;cases a
    |no a _ k=>rw[e] at a;cases a;exact k
    |yes a t k=>rw[e] at a;cases a;cases j.symm.trans t
   |true =>
    refine⟨by simp;omega,by simpa using r,λd ss j k=>?_⟩;cases k with
    |leaf a=>rw[e] at a;cases a
    |no a t k=>rw[e] at a;cases a;cases j.symm.trans t
    |yes a _ k=>rw[e] at a;cases a;exact k
  simp only[if_neg g];refine⟨hi,?_,λ_ _ _ k=>k⟩;unfold Iu.pl at f ⊢;rw[e] at f ⊢;simp only at f ⊢;rcases Nat.lt_or_eq_of_le f with h |h
  ·exact h
  exfalso;apply g;have x:=getElem_idxOf (idxOf_lt_length_iff.mpr p);have m:=getElem_idxOf l;rw[← x,← m];congr 1;exact h.symm
theorem t_ {R:List Row}{i:Nat}(hi:i<R.length)(c:Nat)(b:Bool)(S:Ig):hZ [.tup (R.map au),.int i,.int c,.int (if b=true then 1 else 0)] S=Ip (.int (sd R i c b:Nat)) S:=by
 have e:R[i]?=some R[i]:=List.getElem?_eq_getElem hi;have a:=fg S e;unfold sd;rw[e];refine aC rfl ?_;have f:bE (.tup (R.map au))=false:=rfl;have a:O5 (.tup (R.map au)) (.int i)=some (au R[i]):=by unfold I_ at a;rw[f] at a;simpa using a
 generalize (D.tup (R.map au))=rr at *
 unfold l5;cases hr:R[i] with
 |leaf m =>
  rw[hr] at a;have g:I_ (au (.leaf m)) (.int 0) S=some (.str "names"):=M5 _ _ S;simp[a,g,eq_str_int,f]
 |ask d n y =>
  rw[hr] at a;have g:I_ (au (.ask d n y)) (.int 0) S=some (.int d):=M5 _ _ S;have l:I_ (au (.ask d n y)) (.int 1) S=some (.int n):=OW _ _ _ S;have k:I_ (au (.ask d n y)) (.int 2) S=some (.int y):=at2 _ _ _ _ S;have h:=l6 d c;by_cases j:d=c
  ·subst j;rw[decide_eq_true rfl] at h;cases b<;>simp[a,g,h,l,k,f]
  rw[decide_eq_false j] at h;cases b<;>simp[a,g,h,j,f]
abbrev PO (R1 R2:List Row)(P:Nat):MO:=.ins "Pairs" [("folds",.tup [.tup (R1.map au),.tup (R2.map au)]),("rows",.loc (P+1)),("made",.loc (P+5))]
theorem Zu:(("rows":Str)=="folds")=false:=by decide
theorem Zv:(("made":Str)=="folds")=false:=by decide
theorem Zw:(("made":Str)=="rows")=false:=by decide
structure PS (B:Nat->Option MO) (R1 R2:List Row) (S:Ig) (P:Nat) (o:List Nat) (G:List Row) (M:PM):Prop where
 sr:SR (λi=>if i=P+5 then some (.Ir (N9 M)) else if i=P then some (PO R1 R2 P) else B i) S (P+1) o G []
section
variable {B:Nat->Option MO}{R1 R2:List Row}{S:Ig}{P:Nat}{o:List Nat}{G:List Row}{M:PM}
theorem PS.obj (h:PS B R1 R2 S P o G M):S[P]?=some (PO R1 R2 P):=by rw[h.sr.fr P (.inl (by omega)),if_neg (by omega),if_pos rfl]
theorem PS.md (h:PS B R1 R2 S P o G M):S[P+5]?=some (.Ir (N9 M)):=by rw[h.sr.fr (P+5) (.inr (by omega)),if_pos rfl]
theorem PS.ins (h:PS B R1 R2 S P o G M):sx "Pairs" (.loc P) S=some ([("folds",.tup [.tup (R1.map au),.tup (R2.map au)]),("rows",.loc (P+1)),("made",.loc (P+5))]:List (Str×D)):=by unfold sx;simp only[h.obj,if_true]
theorem PS.NN (h:PS B R1 R2 S P o G M):gC "Pairs" "folds" (.loc P) S=some (.tup [.tup (R1.map au),.tup (R2.map au)]):=by unfold gC;rw[h.ins];simp[List.lookup]
theorem PS.Nr (h:PS B R1 R2 S P o G M):gC "Pairs" "rows" (.loc P) S=some (.loc (P+1)):=by unfold gC;rw[h.ins];simp[List.lookup,Zu]
theorem PS.MC (h:PS B R1 R2 S P o G M):gC "Pairs" "made" (.loc P) S=some (.loc (P+5)):=by unfold gC;rw[h.ins];simp[List.lookup,Zv,Zw]
theorem PS.has (h:PS B R1 R2 S P o G M)(m:Str)(a:((m=="folds") ||(m=="rows") ||(m=="made"))=false):pM "Pairs" m (.loc P) S=some .Jm:=by rw[or_eq_false_iff,or_eq_false_iff] at a;unfold pM;rw[h.ins];simp[List.lookup,a.1.1,a.1.2,a.2]
theorem zip2 (a b:D)(i j:Nat):zK [.tup [a,b],Lb i j]=some [.tup [a,.int i],.tup [b,.int j]]:=rfl
theorem t9 (h:PS B R1 R2 S P o G M){i j:Nat}(hi:i<R1.length)(g:j<R2.length)(c:Nat)(b:Bool):bR [.loc P,Lb i j,.int c,.int (if b=true then 1 else 0)] S=Ip (Lb (sd R1 i c b) (sd R2 j c b)) S:=by
 have a:=t_ hi c b S;have d:=t_ g c b S;have f:=h.NN;generalize D.tup (R1.map au)=r1 at *
 generalize D.tup (R2.map au)=r2 at *
 generalize (if b=true then (1:Int) else 0)=bv at *
 have e:=Bt (u:=kJ 2 (bf (aE 0) (bf (aE 1) gK))) (fe:=bF) (d1:=.tup [r1,.int i]) (d2:=.tup [r2,.int j]) (v1:=.int (sd R1 i c b:Nat)) (v2:=.int (sd R2 j c b:Nat)) (ρ0:=cm 2 [2,3] [some (.loc P),some (Lb i j),some (.int c),some (.int bv)]) (ρ1:=[some r1,some (.int i),some (.int c),some (.int bv)]) (ρ2:=[some r2,some (.int j),some (.int c),some (.int bv)]) (S:=S) rfl (by unfold bF;simp[a]) rfl (by unfold bF;simp[d]);have z:=zip2 r1 r2 i j;refine aC rfl ?_;unfold eC;simp[f,z,e,gL]
def M0 (o:List Nat)(R1 R2:List Row)(f:List Str->List Str->List Str)(G:List Row)(p:Nat×Nat)(v:Nat):Prop:=p.1<R1.length/\p.2<R2.length/\v<G.length/\min (Iu.pl o R1 p.1) (Iu.pl o R2 p.2)<=Iu.pl o G v/\∀ c a b,Ev R1 c p.1 a->Ev R2 c p.2 b->Ev G c v (f a b)
theorem M0.app {f:List Str->List Str->List Str}{p:Nat×Nat}{v:Nat}(E:List Row)(h:M0 o R1 R2 f G p v):M0 o R1 R2 f (G++E) p v:=by obtain⟨a,b,c,d,e⟩:=h;exact⟨a,b,by rw[List.length_append];omega,by rw[cy c];exact d,λg x y i j=>(e g x y i j).mono E⟩
theorem PS.put (h:PS B R1 R2 S P o G M)(i j v:Nat)(hz:M.length<16000000)(ρ:Ih) :
  ∃ a,kX (.loc (P+5)) (Lb i j) (.int v) ρ S=Ip (.next ρ) a/\PS B R1 R2 a P o G (pK M (i,j) v)/\fK (.loc (P+5)) (Lb i j) a=some (.int v):=by
 have c:=rY i j;have d:=EG M (i,j) v;have it:dP (Lb i j)=true:=rfl;have md:=h.md;refine⟨S.set (P+5) (.Ir (N9 (pK M (i,j) v))),?_,⟨⟨?_,?_,?_,?_,λk f=>?_⟩⟩,?_⟩
 ·unfold kX;simp only[md,c];rw[if_pos ⟨by unfold N9;rw[length_map];exact lt_of_lt_of_le hz (by decide),it⟩,← d]
 ·rw[bX (by omega)];exact h.sr.obj
 ·rw[bX (by omega)];exact h.sr.Ra
 ·rw[bX (by omega)];exact h.sr.num
 ·rw[bX (by omega)];exact h.sr.NM
 ·by_cases e:k=P+5
  ·subst e;rw[if_pos rfl];exact di md
  rw[if_neg e,bX (λq=>e q.symm),h.sr.fr k f,if_neg e]
 have g:=di (b:=.Ir (N9 (pK M (i,j) v))) md;unfold fK;simp only[g,c,it,if_true];rw[← d];exact qG (by rw[nF];simp)
end
def Om (ss:List Str):Prop:=(∀ x∈ss,db x=true)/\OV ss=true
abbrev F6:FT:=("names_of_both",bA,cV)::("names_in_common",bh,cB)::("names_of_one_alone",aS,bQ)::[]
def NF (c:D)(f:List Str->List Str->List Str):Prop:=∃ F,iF F6 c=some F/\∀ a b S,Om a->Om b->a.length<=6->b.length<=6->F [.tup (a.map .str),.tup (b.map .str)] S=Ip (.tup ((f a b).map .str)) S/\Om (f a b)
theorem xB {o:List Nat}{R:List Row}(w:Wr o R){i:Nat}(hi:i<R.length)(h:Iu.pl o R i=o.length):∃ ss,R[i]?=some (.leaf ss)/\Om ss:=by
 have e:R[i]?=some R[i]:=List.getElem?_eq_getElem hi;have q:=w i _ e;cases hr:R[i] with
 |leaf ss=>rw[hr] at e q;exact⟨ss,e,q⟩
 |ask c n y =>
  rw[hr] at e q;unfold Iu.pl at h;rw[e] at h;have:=idxOf_lt_length_iff.mpr q.1;simp only at h;omega
section
variable {B:Nat->Option MO}{R1 R2:List Row}{P:Nat}{o:List Nat}{nf:D}{f:List Str->List Str->List Str}
def BO (B:Nat->Option MO)(R1 R2:List Row)(P:Nat)(o:List Nat)(f:List Str->List Str->List Str)(G:List Row)(M:PM)(i j N K:Nat)(out:Out D):Prop:=
 ∃ b E a v,out=Ip (.int (v:Nat)) b/\PS B R1 R2 b P o (G++E) a/\Wf o (G++E)/\(∀ p∈a,M0 o R1 R2 f (G++E) p.1 p.2)/\M0 o R1 R2 f (G++E) (i,j) v/\E.length<=N/\a.length<=M.length+K
def Lf (R:List Row):Prop:=∀ (i:Nat) (a:List Str),R[i]?=some (Row.leaf a)->a.length<=6
theorem AD (nd:o.Nodup)(N:Wr o R1)(L:Wr o R2)(OZ:Lf R1)(O0:Lf R2)(hn:NF nf f){F:Ie}{n:Nat}
  (IH:∀ {S:Ig}{G:List Row}{M:PM}{i j:Nat},PS B R1 R2 S P o G M->Wf o G->(∀ p∈M,M0 o R1 R2 f G p.1 p.2)->i<R1.length->j<R2.length->o.length<n+min (Iu.pl o R1 i) (Iu.pl o R2 j)->G.length+2 ^ n<=16000000->M.length+2 ^ n<=16000000->BO B R1 R2 P o f G M i j (2 ^ n-1) (2 ^ n-1) (F [.loc P,Lb i j,nf] S))
  {S:Ig}{G:List Row}{M:PM}{i j:Nat}(h:PS B R1 R2 S P o G M) (w:Wf o G) (U:∀ p∈M,M0 o R1 R2 f G p.1 p.2) (hi:i<R1.length) (m:j<R2.length) (K:o.length<n+1+min (Iu.pl o R1 i) (Iu.pl o R2 j)) (hz:G.length+2 ^ (n+1)<=16000000) (PR:M.length+2 ^ (n+1)<=16000000) :
  BO B R1 R2 P o f G M i j (2 ^ (n+1)-1) (2 ^ (n+1)-2) (dJ F [.loc P,Lb i j,nf] S):=by
 have p2 : 2 ^ (n+1)=2*2 ^ n:=by rw[pow_succ];omega
 have p1 : 1<=2 ^ n:=one_le_two_pow;have x:R1[i]?=some R1[i]:=List.getElem?_eq_getElem hi;have t:R2[j]?=some R2[j]:=List.getElem?_eq_getElem m;have a1:=fg S x;have a2:=fg S t;have Zx:=ow x (N i _ x) S;have Zy:=ow t (L j _ t) S;have fo:=h.sr.MB;have fr:=h.Nr;have ff:=h.NN;have z:=zip2 (.tup (R1.map au)) (.tup (R2.map au)) i j;have T8:=h.has "number_of_pair" (by decide);have NW:=h.has "side_of_pair" (by decide);have c1:=Bt (u:=kJ 2 (bf (aE 0) (bf (aE 1) gK))) (fe:=bU F) (d1:=.tup [.tup (R1.map au),.int i]) (d2:=.tup [.tup (R2.map au),.int j]) (v1:=au R1[i]) (v2:=au R2[j]) (ρ0:=cm 2 [] [some (.loc P),some (Lb i j),some nf,some (oD o),none,none,none,none]) (ρ1:=[some (.tup (R1.map au)),some (.int i)]) (ρ2:=[some (.tup (R2.map au)),some (.int j)]) (S:=S) rfl (by unfold bU;simp[a1,-map_map]) rfl (by unfold bU;simp[a2,-map_map]);have c2:=Bt (u:=aE 0) (fe:=bT F) (d1:=au R1[i]) (d2:=au R2[j]) (v1:=.int (Iu.pl o R1 i:Nat)) (v2:=.int (Iu.pl o R2 j:Nat)) (ρ0:=cm 1 [3] [some (.loc P),some (Lb i j),some nf,some (oD o),some (.lst [au R1[i],au R2[j]]),none,none,none]) (ρ1:=[some (au R1[i]),some (oD o)]) (ρ2:=[some (au R2[j]),some (oD o)]) (S:=S) rfl (by unfold bT;simp[Zx]) rfl (by unfold bT;simp[Zy]);have em:mT [.lst [.int (Iu.pl o R1 i:Nat),.int (Iu.pl o R2 j:Nat)]]=some (.int ((min (Iu.pl o R1 i) (Iu.pl o R2 j):Nat):Int)):=by simp only[mT,ck,map_some,bind_some,CT,List.foldl];congr 2;split<;>omega
 have lo:b_ [oD o]=some (.int o.length):=by simp[b_]
 have Zz:=xC o R1 i;have ZC:=xC o R2 j;have sq:cw (.lst [au R1[i],au R2[j]])=some [au R1[i],au R2[j]]:=rfl;by_cases Qq:min (Iu.pl o R1 i) (Iu.pl o R2 j)=o.length
 ·obtain⟨k,y,o1⟩:=xB N hi (by omega);obtain⟨l,C,o2⟩:=xB L m (by omega);rw[x] at y;rw[t] at C;have y:=Option.some.inj y;have C:=Option.some.inj C;obtain⟨Fn,pk,cl⟩:=hn;obtain⟨ZD,ok⟩:=cl k l S o1 o2 (OZ i k (by rw[x,y])) (O0 j l (by rw[t,C]));obtain⟨S',E,v,q,sr,w',I,hE⟩:=lT h.sr w (r:=.leaf (f k l)) ok (by omega);have ZE:=h.sr.has "number_of" (by decide);have b1:I_ (.lst [au R1[i],au R2[j]]) (.int 0) S=some (au R1[i]):=rfl;have b2:I_ (.lst [au R1[i],au R2[j]]) (.int 1) S=some (au R2[j]):=rfl;have b3:I_ (au R1[i]) (.int 1) S=some (.tup (k.map .str)):=by rw[y];exact OW _ _ _ S
  have b4:I_ (au R2[j]) (.int 1) S=some (.tup (l.map .str)):=by rw[C];exact OW _ _ _ S
  have g:=l6 (min (Iu.pl o R1 i) (Iu.pl o R2 j)) o.length;rw[decide_eq_true Qq] at g;have q:bn [.loc (P+1),.tup [.str "names",.tup ((f k l).map .str)]] S=Ip (.int (v:Nat)) S':=q;refine⟨S',E,M,v,aC rfl ?_,⟨sr⟩,w',λp K=>(U p K).app E,⟨hi,m,(List.getElem?_eq_some_iff.mp I).1,?_,λe a b J O=>?_⟩,by omega,by omega⟩
  ·generalize D.tup (R1.map au)=r1 at *
   generalize D.tup (R2.map au)=r2 at *
   generalize au R1[i]=x1 at *
   generalize au R2[j]=x2 at *
   generalize D.tup (k.map .str)=y1 at *
   generalize D.tup (l.map .str)=y2 at *
   generalize D.tup ((f k l).map .str)=W at *
   generalize min (Iu.pl o R1 i) (Iu.pl o R2 j)=mn at *
   generalize Iu.pl o R1 i=k1 at *
   generalize Iu.pl o R2 j=k2 at *
   generalize oD o=od at *
   have ev:tf F6 (af 2) (ag (Jg (Jg (af 4) (aB (.int 0))) (aB (.int 1))) (ag (Jg (Jg (af 4) (aB (.int 1))) (aB (.int 1))) aA)) [some (.loc P),some (Lb i j),some nf,some od,some (.lst [x1,x2]),some (.int mn),none,none] S=Ip W S:=by unfold tf;have v2:af 2 [some (.loc P),some (Lb i j),some nf,some od,some (.lst [x1,x2]),some (.int mn),none,none] S=Ip nf S:=rfl;rw[v2,cn];simp only[pk];simp[b1,b2,b3,b4,ZD]
   unfold dE;simp -implicitDefEqProofs [fr,fo,ff,z,c1,sq,c2,em,lo,g,ZE,ev,q]
  ·have hpv:Iu.pl o (G++E) v=o.length:=by unfold Iu.pl;rw[I]
   simp only;omega
  have h1:a=k:=Ev.det J (.leaf (by rw[x,y]));have h2:b=l:=Ev.det O (.leaf (by rw[t,C]));rw[h1,h2];exact .leaf I
 have Z:min (Iu.pl o R1 i) (Iu.pl o R2 j)<o.length:=by omega
 have g:=l6 (min (Iu.pl o R1 i) (Iu.pl o R2 j)) o.length;rw[decide_eq_false Qq] at g;have H:o[min (Iu.pl o R1 i) (Iu.pl o R2 j)]∈o:=getElem_mem Z;have O9:o.idxOf o[min (Iu.pl o R1 i) (Iu.pl o R2 j)]=min (Iu.pl o R1 i) (Iu.pl o R2 j):=nd.idxOf_getElem _ Z;have R:∀ S:Ig,I_ (oD o) (.int ((min (Iu.pl o R1 i) (Iu.pl o R2 j):Nat):Int)) S=some (.int (o[min (Iu.pl o R1 i) (Iu.pl o R2 j)]:Nat)):=λS=>by unfold I_;rw[if_neg (by simp[bE])];show Lo (o.map λ(c:Nat)=>D.int c) _=_;exact bP (by rw[getElem?_map,List.getElem?_eq_getElem Z];rfl)
 generalize o[min (Iu.pl o R1 i) (Iu.pl o R2 j)]=c at *
 have JG:¬ ((min (Iu.pl o R1 i) (Iu.pl o R2 j):Nat):Int)=o.length:=by omega
 have Xe:=t9 h hi m c false;obtain⟨ZF,a2',Xf⟩:=nB N hi false H (by omega);obtain⟨ZG,b2',Xg⟩:=nB L m false H (by omega);obtain⟨S1,d,M1,v1,q1,T,O1,Ua,ZH,l1,m1⟩:=IH h w U ZF ZG (by omega) (by omega) (by omega);have Ti:(G++d).length=G.length+d.length:=List.length_append;have Xh:=t9 T hi m c true;obtain⟨ZI,c2',Xi⟩:=nB N hi true H (by omega);obtain⟨ZJ,d2',Xj⟩:=nB L m true H (by omega);obtain⟨S2,s,M2,v2,q2,X,ZK,Xk,ZL,l2,m2⟩:=IH T O1 Ua ZI ZJ (by omega) (by omega) (by omega);have VD:(G++d++s).length=G.length+d.length+s.length:=by rw[List.length_append,Ti]
 obtain⟨_,_,x3,x4,V⟩:=ZH;obtain⟨_,_,W,y4,Y⟩:=ZL;simp only at x4 V y4 Y;have px:Iu.pl o (G++d++s) v1=Iu.pl o (G++d) v1:=cy x3;obtain⟨S3,A,v,q3,Tj,ZM,I,pv,l3,Nq⟩:=w9 X.sr ZK (c:=c) (a:=v1) (b:=v2) H (by omega) W (by omega) (by omega) (by omega);have Q:G++(d++s++A)=G++d++s++A:=by simp
 have ZN:=T.has "number_of_pair" (by decide);have Pb:=T.has "side_of_pair" (by decide);have nr:=X.Nr;have VA:=X.sr.has "number_of_ask" (by decide);have ZO:=R S;have ZP:=R S1;have ZQ:=R S2;refine⟨S3,d++s++A,M2,v,aC rfl ?_,by rw[Q];exact⟨Tj⟩,by rw[Q];exact ZM,λp K=>by rw[Q];exact(Xk p K).app A,?_,by rw[List.length_append,List.length_append];omega,by omega⟩
 ·simp only[false_eq_true,if_false,if_true] at Xe Xh;clear R hn V Y Xf Xg Xi Xj Nq IH U Ua Xk;generalize D.tup (R1.map au)=r1 at *
  generalize D.tup (R2.map au)=r2 at *
  generalize au R1[i]=x1 at *
  generalize au R2[j]=x2 at *
  generalize min (Iu.pl o R1 i) (Iu.pl o R2 j)=mn at *
  generalize Iu.pl o R1 i=k1 at *
  generalize Iu.pl o R2 j=k2 at *
  generalize oD o=od at *
  unfold dE;simp -implicitDefEqProofs [fr,fo,ff,z,c1,sq,c2,em,lo,JG,T8,NW,ZO,Xe,q1,ZN,Pb,ZP,Xh,q2,nr,VA,ZQ,q3]
 rw[Q];refine⟨hi,m,I,by simp only;omega,λe a b J O=>Nq e _ ?_⟩;unfold sel;cases ht:e c with
 |false =>
  have:=V e a b (Xf e a ht J) (Xg e b ht O);exact(this.mono s).mono A
 |true =>
  have:=Y e a b (Xi e a ht J) (Xj e b ht O);exact this.mono A
end
section
variable {B:Nat->Option MO}{R1 R2:List Row}{P:Nat}{o:List Nat}{nf:D}{f:List Str->List Str->List Str}
theorem xF (nd:o.Nodup)(x:Wr o R1)(l:Wr o R2)(u:Lf R1)(r:Lf R2)(t:NF nf f):∀ (n:Nat) {S:Ig}{G:List Row}{M:PM}{i j:Nat},PS B R1 R2 S P o G M->Wf o G->(∀ p∈M,M0 o R1 R2 f G p.1 p.2)->i<R1.length->j<R2.length->o.length<n+min (Iu.pl o R1 i) (Iu.pl o R2 j)->G.length+2 ^ n<=16000000->M.length+2 ^ n<=16000000->BO B R1 R2 P o f G M i j (2 ^ n-1) (2 ^ n-1) (bH n [.loc P,Lb i j,nf] S)
 | 0,S,G,M,i,j,h,w,c,y,z,A,C,k=>absurd A (by have:=xC o R1 i;omega)
 |n+1,S,G,M,i,j,h,w,c,y,z,A,C,k=>by
  have e:=rY i j;have b:=EH M (i,j);have it:dP (Lb i j)=true:=rfl;have O : 1<=2 ^ n:=one_le_two_pow;have R : 2 ^ (n+1)=2*2 ^ n:=by rw[pow_succ];omega
  have md:=h.md;cases hf:M.find? (λp=>decide (p.1=(i,j))) with
  |some p =>
   rw[hf] at b;have F:=List.mem_of_find?_eq_some hf;have K:p.1=(i,j):=by simpa using List.find?_some hf
   have a:=c p F;rw[K] at a;have g:j8 true (Lb i j) (.loc (P+5)) S=some (.bl false):=by unfold j8;simp only[md,e,it,if_true,b];rfl
   have d:fK (.loc (P+5)) (Lb i j) S=some (.int (p.2:Nat)):=by unfold fK;simp only[md,e,it,if_true,b];rfl
   refine⟨S,[],M,p.2,aC rfl ?_,by rw[append_nil];exact h,by rw[append_nil];exact w,by rw[append_nil];exact c,by rw[append_nil];exact a,by simp,by omega⟩;unfold cb;simp[h.MC,g,d]
  |none =>
   rw[hf] at b;have g:j8 true (Lb i j) (.loc (P+5)) S=some (.bl true):=by unfold j8;simp only[md,e,it,if_true,b];rfl
   have J:=h.has "pair_anew" (by decide);obtain⟨Q,E,M1,v,q,s,I,L,a,D,N⟩:=AD nd x l u r t (λ{S G M i j}=>xF nd x l u r t n (S:=S) (G:=G) (M:=M) (i:=i) (j:=j)) h w c y z (by omega) C k;obtain⟨H,ep,m,d⟩:=s.put i j v (by omega) [some (.loc P),some (Lb i j),some nf];have pl:=An M1 (i,j) v;refine⟨H,E,pK M1 (i,j) v,v,aC rfl ?_,m,I,Ao L a,a,D,by omega⟩;unfold cb;simp[h.MC,g,J,q,s.MC,ep,m.MC,d]
end
theorem n9 (S r:Ig)(fs:List (Str×D))(f:Str)(v:D)(ρ:Ih)(h:fs.length<1000):kR "Pairs" f (.loc S.length) v ρ (S++MO.ins "Pairs" fs::r)=Ip (.next ρ) (S++MO.ins "Pairs" (jU f v fs)::r):=by
 have e:(S++MO.ins "Pairs" fs::r)[S.length]?=some (.ins "Pairs" fs):=by simp
 unfold kR;simp only[e];rw[if_pos ⟨trivial,h⟩];simp
theorem y8 {ar:H9 (List D)}{ρ:Ih}{S:Ig}{o:List Nat}(h:ar ρ S=Ip [oD o] S):j0 "Rows" bC ar ρ S=Ip (.loc S.length) (S++[RO o S.length,.lst [],.Ir [],.Ir []]):=by unfold j0;rw[h,cn];simp only[uj];rfl
theorem ZR:¬ ("folds":Str)="rows":=by decide
theorem ZS:¬ ("folds":Str)="made":=by decide
theorem ZT:¬ ("rows":Str)="made":=by decide
theorem As (S:Ig)(a b:D)(o:List Nat):b6 [.loc S.length,a,b,oD o] (S++[.ins "Pairs" []])=Ip .Jm (S++[.ins "Pairs" [("folds",.tup [a,b]),("rows",.loc (S.length+1)),("made",.loc (S.length+5))],RO o (S.length+1),.lst [],.Ir [],.Ir [],.Ir []]):=by
 have d:=λρ=>n9 S [] [] "folds" (.tup [a,b]) ρ (by decide);have f:=y8 (ar:=ag (af 3) aA) (ρ:=[some (.loc S.length),some a,some b,some (oD o)]) (S:=S++[.ins "Pairs" [("folds",.tup [a,b])]]) (o:=o) rfl;have c:=λρ=>n9 S [RO o (S.length+1),.lst [],.Ir [],.Ir []] [("folds",.tup [a,b])] "rows" (.loc (S.length+1)) ρ (by simp);have e:=λρ=>n9 S [RO o (S.length+1),.lst [],.Ir [],.Ir [],.Ir []] [("folds",.tup [a,b]),("rows",.loc (S.length+1))] "made" (.loc (S.length+5)) ρ (by simp);simp only[jU,ZR,ZS,ZT,if_false] at d c e;simp only[List.length_append,length_cons,length_nil,zero_add,List.append_assoc,cons_append,nil_append] at f;unfold b6 aZ;rw[if_pos (show ([.loc S.length,a,b,oD o]:List D).length=4 from rfl)];have z2:Lp [a,b] (.tup [a,b])=some (.tup [a,b]):=cC (by simp);have:dR ([.loc S.length,a,b,oD o].map some++replicate 0 none) (S++[.ins "Pairs" []])=Ip (.next [some (.loc S.length),some a,some b,some (oD o)]) (S++[.ins "Pairs" [("folds",.tup [a,b]),("rows",.loc (S.length+1)),("made",.loc (S.length+5))],RO o (S.length+1),.lst [],.Ir [],.Ir [],.Ir []]):=by unfold dR;simp[z2,d,f,c,e]
 rw[this];rfl
theorem wn {o:List Nat}(nd:o.Nodup)(L:o.length<=8){d R2:List Row}(V:Wr o d)(N:Wr o R2)(U:Lf d)(O:Lf R2)(h1 : 0<d.length)(h2 : 0<R2.length){l:D}{f:List Str->List Str->List Str}(R:NF l f)(S:Ig) :
  ∃ t y,cJ [.tup (d.map au),.tup (R2.map au),oD o,l] S=Ip (.tup ((enc (po t [])).map au)) y/\Ord o t/\BN t/\Wr o (enc (po t []))/\(∀ g,Ev (enc (po t [])) g ((enc (po t [])).length-1) (Ky t g))/\(∀ g a b,Ev d g (d.length-1) a->Ev R2 g (R2.length-1) b->Ky t g=f a b)/\(po t []).length<=1023/\y.take S.length=S:=by
 have Z:=As S (.tup (d.map au)) (.tup (R2.map au)) o;have pre:∀ i,i<S.length->(S++[PO d R2 S.length,RO o (S.length+1),.lst [],.Ir [],.Ir [],.Ir []])[i]?=S[i]?:=λi n=>getElem?_append_left n
 have k:PS (λi=>(S++[PO d R2 S.length,RO o (S.length+1),.lst [],.Ir [],.Ir [],.Ir []])[i]?) d R2 (S++[PO d R2 S.length,RO o (S.length+1),.lst [],.Ir [],.Ir [],.Ir []]) S.length o [] []:=by
  refine⟨⟨?_,?_,?_,?_,λi n=>?_⟩⟩
  ·rw[getElem?_append_right (by omega)];simp
  ·rw[getElem?_append_right (by omega),show S.length+1+1-S.length=2 by omega];rfl
  ·rw[getElem?_append_right (by omega),show S.length+1+2-S.length=3 by omega];rfl
  ·rw[getElem?_append_right (by omega),show S.length+1+3-S.length=4 by omega];rfl
  by_cases w:i=S.length+5
  ·subst w;rw[if_pos rfl,getElem?_append_right (by omega),show S.length+5-S.length=5 by omega];rfl
  rw[if_neg w];by_cases F:i=S.length
  ·subst F;rw[if_pos rfl,getElem?_append_right (by omega)];simp
  rw[if_neg F]
 generalize (S++[PO d R2 S.length,RO o (S.length+1),.lst [],.Ir [],.Ir [],.Ir []])=S0 at *
 have I:Wf o ([]:List Row):=⟨nodup_nil,λi r h=>by simp at h⟩;obtain⟨q,E,M1,r,M,m,j,_,⟨_,_,u,_,s⟩,_,_⟩:=xF nd V N U O R 9 k I (λp hp=>by cases hp) (show d.length-1<d.length by omega) (show R2.length-1<R2.length by omega) (by omega) (by decide) (by decide);rw[nil_append] at m j u s;simp only at s;obtain⟨X,S2,C,c,lX,x,x2,A,rfl⟩:=fold_eq m.sr j L u
 have fr:(q++[x2,A]).take S.length=S:=by
  have G:S.length+1+3<q.length:=(List.getElem?_eq_some_iff.mp m.sr.NM).1;apply ext_getElem?;intro i;rw[getElem?_take];split
  ·rename_i n;rw[getElem?_append_left (by omega),m.sr.fr i (.inl (by omega)),if_neg (by omega),if_neg (by omega),pre i n]
  rw[List.getElem?_eq_none (by omega)]
 have un:=j.uT u;have z:FR (X++[r]) E=enc (po (Iu.uT E r) []):=by rw[BR j c,x]
 have B:=DJ j c;rw[z] at C B;refine⟨Iu.uT E r,q++[x2,A],aC rfl ?_,(un.ord j).1,(un.ord j).2,B,λg=>?_,λg a b K hb=>?_,?_,fr⟩
 ·have J:j0 "Pairs" b6 (ag (af 0) (ag (af 1) (ag (af 2) aA))) [some (.tup (d.map au)),some (.tup (R2.map au)),some (oD o),some l,none] S=Ip (.loc S.length) S0:=by
   unfold j0;have:ag (af 0) (ag (af 1) (ag (af 2) aA)) [some (.tup (d.map au)),some (.tup (R2.map au)),some (oD o),some l,none] S=Ip [.tup (d.map au),.tup (R2.map au),oD o] S:=rfl;rw[this,cn];rw[Z];rfl
  have G:b_ [.tup (d.map au)]=some (.int d.length):=by simp[b_]
  have l2:b_ [.tup (R2.map au)]=some (.int R2.length):=by simp[b_]
  have T:(d.length:Int)-1=((d.length-1:Nat):Int):=by omega
  have Q:(R2.length:Int)-1=((R2.length-1:Nat):Int):=by omega
  have P:=k.Nr;have v:=k.has "number_of_pair" (by decide);have Y:=k.sr.has "fold_from" (by decide);generalize D.tup (d.map au)=r1 at *
  generalize D.tup (R2.map au)=r2 at *
  generalize D.tup ((enc (po (Iu.uT E r) [])).map au)=rt at *
  generalize oD o=od at *
  unfold jb;simp -implicitDefEqProofs [J,P,v,Y,G,l2,T,Q,M,C]
 ·have e:=DL c (un.ev g) (by simp);have H:r∉X:=by have:=(nodup_append.mp c.nd).2.2;intro v;exact this r v r (by simp) rfl
  have W:(X++[r]).idxOf r=(FR (X++[r]) E).length-1:=by rw[idxOf_append,if_neg H];simp[FR]
  rw[W,z] at e;exact e
 ·exact Ev.det (un.ev g) (s g a b K hb)
 rw[← x,length_map,List.length_append];simp;omega
theorem u5 (x:Str):∀ l:List Str,((l.map PyData.str).any λq=>PyData.eqv q (.str x))=decide (x∈l)
 |[]=>by simp
 |a::l=>by
  rw[map_cons,any_cons,u5 x l];by_cases h:a=x
  ·simp[PyData.eqv,h]
  have b:¬ x=a:=λe=>h e.symm;simp[PyData.eqv,h,b]
theorem A7 (neg:Bool)(x:Str)(l:List Str)(S:Ig):MP neg (.str x) (.tup (l.map .str)) S=some (.bl (neg != decide (x∈l))):=by
 have e:oT (.str x) (.tup (l.map .str))=some (decide (x∈l)):=by unfold oT;simp only[toPy,rM,bind_some,fB];rw[if_pos (by simp[PyData.depth]),u5]
 unfold MP;rw[if_neg (by simp[bE])];cases neg<;>simp[inD,lU,e]
theorem Bj {neg:Bool}{gt:H9 Bool}{fe:H9 D}(g:gt=aT (L4 neg (af 0) (af 1)))(f:fe=af 0)(a b:List Str)(S:Ig)(y:Option D):bO (aE 0) gt fe (a.map .str) [y,some (.tup (b.map .str))] S=some ((a.filter λx=>neg != decide (x∈b)).map .str,S):=by
 subst g f
 have q:=fO (u:=aE 0) (gt:=aT (L4 neg (af 0) (af 1))) (fe:=af 0) (λc => ∃ y,c=[y,some (.tup (b.map .str))]) (λd=>match d with | .str x=>neg != decide (x∈b) |_=>false) id S (a.map .str) [y,some (.tup (b.map .str))] ⟨y,rfl⟩ (by
  rintro d hd c ⟨z,rfl⟩;obtain⟨x,h,rfl⟩:=mem_map.mp hd;have e:=A7 neg x b S;refine⟨[some (.str x),some (.tup (b.map .str))],rfl,⟨_,rfl⟩,?_,λ_=>rfl⟩;generalize D.tup (b.map .str)=bb at *
  show aT (L4 neg (af 0) (af 1)) [some (.str x),some bb] S=Ip (neg != decide (x∈b)) S
  simp[e,Mc])
 rw[q,map_id,filter_map];rfl
def fI (a b:List Str):List Str:=a.filter λx=>false != decide (x∈b)
def fL (a b:List Str):List Str:=a.filter λx=>true != decide (x∈b)
def fU (a b:List Str):List Str:=fF (a++fL b a)
theorem iU (xs:List D):gL [.lst xs]=some (.tup xs):=rfl
theorem xG {a b:List Str}(h:Om a)(s:b.Sublist a):Om b:=⟨λx c=>h.1 x (s.subset c),eX ((fq h.2).sublist s)⟩
theorem sI (a:List Str):cw (.tup (a.map .str))=some (a.map .str):=rfl
theorem yU:NF (.fn "names_in_common" bh) fI:=by
 refine⟨cB,?_,λa b S d f _ _=>⟨aC rfl ?_,xG d filter_sublist⟩⟩
 ·unfold iF;rw[if_neg (λe=>absurd (D.fn.inj e).1 (by decide))];unfold iF;exact if_pos rfl
 have q:=Bj (neg:=false) (gt:=eU) (fe:=eV) rfl rfl a b S none;have c:cm 1 [1] [some (D.tup (a.map .str)),some (.tup (b.map .str))]=[none,some (.tup (b.map .str))]:=rfl;have s:=sI a;unfold fI;generalize (a.filter λx=>false != decide (x∈b)).map D.str=r at *
 generalize D.tup (b.map .str)=bb at *
 generalize a.map D.str=al at *
 unfold ge;simp[s,c,q,iU]
theorem CI:NF (.fn "names_of_one_alone" aS) fL:=by
 refine⟨bQ,?_,λa b S d f _ _=>⟨aC rfl ?_,xG d filter_sublist⟩⟩
 ·unfold iF;rw[if_neg (λe=>absurd (D.fn.inj e).1 (by decide))];unfold iF;rw[if_neg (λe=>absurd (D.fn.inj e).1 (by decide))];unfold iF;exact if_pos rfl
 have q:=Bj (neg:=true) (gt:=dg) (fe:=dF) rfl rfl a b S none;have c:cm 1 [1] [some (D.tup (a.map .str)),some (.tup (b.map .str))]=[none,some (.tup (b.map .str))]:=rfl;have s:=sI a;unfold fL;generalize (a.filter λx=>true != decide (x∈b)).map D.str=r at *
 generalize D.tup (b.map .str)=bb at *
 generalize a.map D.str=al at *
 unfold eA;simp[s,c,q,iU]
theorem qq {a:List Str}(h:Om a):a.Nodup:=(fq h.2).imp λ{x y} q e=>by subst e;rw[wE] at q;cases q
theorem u9 {a b:List Str}(c:Om a)(d:Om b):(a++fL b a).Nodup:=by refine nodup_append.mpr ⟨qq c,(qq d).sublist filter_sublist,λx f y g e=>?_⟩;subst e;have:=(mem_filter.mp g).2;simp[f] at this
theorem F8 {a b:List Str}(d:Om a)(e:Om b):Om (fU a b):=by
 have c:(fU a b).Perm (a++fL b a):=mergeSort_perm _ _;have nd:=u9 d e;refine⟨λx i=>?_,eX ?_⟩
 ·rcases mem_append.mp (c.mem_iff.mp i) with h |h
  ·exact d.1 x h
  exact e.1 x (mem_filter.mp h).1
 have f:(fU a b).Pairwise λx y=>L1 x y=true:=pairwise_mergeSort g7 jx _;have g:(fU a b).Pairwise λx y=>x≠y:=c.nodup_iff.mpr nd;exact(f.and g).imp λ{x y} h=>k7 h.1 h.2
theorem p_ (ss:List Str)(h:ss.length<=60):c_ (ss.map D.str)=some ((fF ss).map D.str):=by unfold c_;rw[if_pos (by rw[length_map];first |exact Nat.le_trans h (by decide) |omega),jo]
theorem qy:∀ a:List Str,iG (a.map D.str)=some (a.map λc=>(Sum.inr c:Key))
 |[]=>rfl
 |c::a=>by rw[map_cons,iG,qy a];rfl
theorem u4:∀ (l b:List Str),(l.map λc=>(Sum.inr c:Key)).foldl bY (b.map Sum.inr)=(l.foldl bY b).map Sum.inr
 |[],b=>rfl
 |a::l,b=>by
  rw[map_cons,foldl_cons,foldl_cons,← u4 l (bY b a)];congr 1;unfold bY;by_cases h:a∈b
  ·rw[if_pos h,if_pos (mem_map.mpr ⟨a,h,rfl⟩)]
  rw[if_neg h,if_neg (λq=>by obtain⟨x,d,e⟩:=mem_map.mp q;cases e;exact h d),map_append];rfl
theorem rJ {l r:List Str}(i:l.length<=60)(nd:r.Nodup)(f:∀ x,x∈l↔x∈r):gM (.tup (l.map .str))=some (.lst ((fF r).map .str)):=by
 unfold gM;simp only;rw[if_pos (by rw[length_map];omega),qy,bind_some];have e:=u4 l [];rw[map_nil] at e;rw[e,map_map];have c:(l.foldl bY []).map (PL ∘ Sum.inr)=(l.foldl bY []).map D.str:=rfl;rw[c];have g:=oQ l [] nodup_nil;have d:(l.foldl bY []).Perm r:=(List.perm_ext_iff_of_nodup g nd).mpr λx=>by rw[qE,f];simp
 have ln:(l.foldl bY []).length<=60:=by
  have:∀ (l b:List Str),(l.foldl bY b).length<=b.length+l.length:=by
   intro l
   induction l with
   |nil=>intro b;simp
   |cons a l h =>
    intro b;rw[foldl_cons];have:=h (bY b a)
    have j:(bY b a).length<=b.length+1:=by
     unfold bY;split
     ·omega
     rw[List.length_append];simp
    rw[length_cons];omega
  have:=this l [];rw[length_nil] at this;omega
 rw[p_ _ ln,map_some];have:fF (l.foldl bY [])=fF r:=kN ((mergeSort_perm _ _).trans d) (pairwise_mergeSort g7 jx _);rw[this]
theorem vI {a b:List Str}(h:a.length+b.length<=1000):bG (.tup (a.map .str)) (.tup (b.map .str))=some (.tup ((a++b).map .str)):=by rw[q8,if_pos (by rw[length_map,length_map];exact Nat.le_trans h (by decide)),map_append]
theorem CJ:NF (.fn "names_of_both" bA) fU:=by
 refine⟨cV,by unfold iF;exact if_pos rfl,λa b S c d e f=>⟨aC rfl ?_,F8 c d⟩⟩;have ad:=vI (a:=a) (b:=b) (by omega);have q:=rJ (l:=a++b) (r:=a++fL b a) (by rw[List.length_append];omega) (u9 c d) λx=>by unfold fL;rw[mem_append,mem_append,mem_filter];by_cases h:x∈a<;>simp[h]
 unfold fU;generalize D.tup (a.map .str)=x1 at *
 generalize D.tup (b.map .str)=x2 at *
 generalize D.tup ((a++b).map .str)=x3 at *
 generalize (fF (a++fL b a)).map D.str=x4 at *
 unfold iH;simp[ad,q,iU]
theorem vT {a b:List Str}(d:a.length<=6)(e:b.length<=6)(S:Ig):mD [.tup (a.map .str),.tup (b.map .str)] S=Ip (.tup ((fU a b).map .str)) S:=by
 have q:=Bj (neg:=true) (gt:=iX) (fe:=jc) rfl rfl b a S none;have c:cm 1 [0] [some (D.tup (a.map .str)),some (.tup (b.map .str))]=[none,some (.tup (a.map .str))]:=rfl;have s:=sI b;have lf:(fL b a).length<=b.length:=List.length_filter_le _ _;have ad:=vI (a:=a) (b:=fL b a) (by omega);have so:kO (.tup ((a++fL b a).map .str)) S=some (.lst ((fU a b).map .str)):=by show (c_ ((a++fL b a).map D.str)).map D.lst=_;rw[p_ _ (by rw[List.length_append];omega)];rfl
 have q:bO (aE 0) iX jc (b.map .str) [none,some (.tup (a.map .str))] S=some ((fL b a).map .str,S):=q;refine aC rfl ?_;generalize D.tup (a.map .str)=x1 at *
 generalize b.map D.str=x2 at *
 generalize D.tup ((a++fL b a).map .str)=x3 at *
 generalize (fU a b).map D.str=x4 at *
 generalize (fL b a).map D.str=x5 at *
 unfold qI;simp[s,c,q,iU,ad,so]
section
variable {m:Nat}{ts:List Int}{o:List Nat}{R:List Row}
theorem Dr (B:pR m ts)(w:Wr o R)(F:∀ c∈o,c<m)(S:Ig){p:Nat}{ss:List Str}(e:Ev R (tv ts) p ss):∀ {r:Row}{fuel:Nat},R[p]?=some r->o.length+1<=fuel+Iu.pl o R p->eD kK hW fuel [some (.tup (R.map au)),some (KH ts),some (au r)] S=Ip (.next [some (.tup (R.map au)),some (KH ts),some (au (.leaf ss))]) S:=by
 have step:∀ {p c n y:Nat}{fuel:Nat},R[p]?=some (.ask c n y)->o.length+1<=fuel+Iu.pl o R p->∃ f,fuel=f+1/\o.length+1<=f+Iu.pl o R n/\o.length+1<=f+Iu.pl o R y/\c<m/\n<R.length/\y<R.length:=by
  intro p c n y fuel a i;have G:Iu.pl o R p=o.idxOf c:=by unfold Iu.pl;rw[a]
  have J:p<R.length:=(List.getElem?_eq_some_iff.mp a).1;obtain⟨D,H,K,L,I⟩:=w p _ a;have:o.idxOf c<o.length:=idxOf_lt_length_iff.mpr D;exact⟨fuel-1,by omega,by omega,by omega,F c D,by omega,by omega⟩
 have l:∀ r:Row,kK [some (.tup (R.map au)),some (KH ts),some (au r)] S=Ip (match r with | .leaf _=>false | .ask _ _ _=>true) S:=λr=>by
  unfold kK;cases r with
  |leaf ss =>
   have h:I_ (au (.leaf ss)) (.int 0) S=some (.str "names"):=M5 _ _ S;have b:=uC (d:=.str "names") rfl "names";have j:N8 (.str "names") "names"=true:=by simp[N8]
   simp[h,b,j]
  |ask c n y =>
   have h:I_ (au (.ask c n y)) (.int 0) S=some (.int c):=M5 _ _ S;have b:=uC (d:=.int c) rfl "names";have j:N8 (.int c) "names"=false:=rfl;simp[h,b,j]
 induction e with
 | @leaf p ss a =>
  intro r fuel g i;rw[a] at g;cases g;have G:Iu.pl o R p=o.length:=by unfold Iu.pl;rw[a]
  obtain⟨fuel,rfl⟩:∃ f,fuel=f+1:=⟨fuel-1,by omega⟩;rw[eD,l];rfl
 | @no p c n y ss a q _ t =>
  intro r fuel g i;obtain⟨fuel,rfl,x,C,u,z,A⟩:=step a i;rw[a] at g;cases g;have k:=zT B u S;rw[q] at k;have h:I_ (au (.ask c n y)) (.int 0) S=some (.int c):=M5 _ _ S;have j:I_ (au (.ask c n y)) (.int 1) S=some (.int n):=OW _ _ _ S;have b:R[n]?=some R[n]:=List.getElem?_eq_getElem z;have v:=fg S b;have s:hW [some (.tup (R.map au)),some (KH ts),some (au (.ask c n y))] S=Ip (.next [some (.tup (R.map au)),some (KH ts),some (au R[n])]) S:=by unfold hW;simp[h,k,j,v,-map_map]
  rw[eD,l];simp only[cn,if_true,s];exact t b x
 | @yes p c n y ss a q _ t =>
  intro r fuel g i;obtain⟨fuel,rfl,x,C,u,z,A⟩:=step a i;rw[a] at g;cases g;have k:=zT B u S;rw[q] at k;have h:I_ (au (.ask c n y)) (.int 0) S=some (.int c):=M5 _ _ S;have E:I_ (au (.ask c n y)) (.int 2) S=some (.int y):=at2 _ _ _ _ S;have b:R[y]?=some R[y]:=List.getElem?_eq_getElem A;have v:=fg S b;have s:hW [some (.tup (R.map au)),some (KH ts),some (au (.ask c n y))] S=Ip (.next [some (.tup (R.map au)),some (KH ts),some (au R[y])]) S:=by unfold hW;simp[h,k,E,v,-map_map]
  rw[eD,l];simp only[cn,if_true,s];exact t b C
theorem tj (d:pR m ts)(w:Wr o R)(f:∀ c∈o,c<m)(i:o.length<=18){ss:List Str}(e:Ev R (tv ts) (R.length-1) ss)(S:Ig):mG [.tup (R.map au),KH ts] S=Ip (.tup (ss.map .str)) S:=by
 obtain⟨r,a⟩:∃ r,R[R.length-1]?=some r:=by cases e with
  |leaf h=>exact⟨_,h⟩
  |no h=>exact⟨_,h⟩
  |yes h=>exact⟨_,h⟩
 have q:=Dr d w f S e (fuel:=20) a (by omega);have g:I_ (au (.leaf ss)) (.int 1) S=some (.tup (ss.map .str)):=OW _ _ _ S;have b:=zp S a;refine aC rfl ?_;unfold Be;simp[CK,b,sW,q,g,-map_map]
end
theorem Br {α:Type}(xs:List α)(p:Nat):hU xs none (some (p:Int))=xs.take p:=by
 unfold hU;rw[HT.MM,HT.Ny,drop_zero,Nat.sub_zero];rcases Nat.le_total p xs.length with h |h
 ·rw[Nat.min_eq_left h]
 rw[Nat.min_eq_right h,take_of_length_le (le_refl _),take_of_length_le h]
theorem Bs {α:Type}(xs:List α)(q:Nat):hU xs (some (q:Int)) none=xs.drop q:=by
 unfold hU;rw[HT.Ny,HT.MM];rcases Nat.le_total q xs.length with h |h
 ·rw[Nat.min_eq_left h,take_of_length_le (by rw[length_drop];exact le_refl _)]
 rw[Nat.min_eq_right h,List.drop_length,List.drop_of_length_le h,List.take_nil]
abbrev nD (l:List Nat):List D:=l.map λ(k:Nat)=>D.int k
theorem AX (a b:List D)(h:a.length+b.length<=1000):bG (.lst a) (.lst b)=some (.lst (a++b)):=by rw[mB,if_pos (Nat.le_trans h (by decide))]
theorem wv (num:Int)(m:D)(k:Nat)(p:k<=20)(l:List Nat)(f:l.length=k)(z:Option D)(S:Ig):∃ a:Nat,a<=k/\gq [some (.int num),some m,some (.lst (nD l)),some (.int k),z] S=Ip (.next [some (.int num),some m,some (.lst (nD (l.take a++[k]++l.drop a))),some (.int k),some (.int a)]) S:=by
 have n:=lc num k S;have d:b_ [.lst (nD l)]=some (.int (k:Nat)):=by simp[b_,f]
 have b:cL (.int (K2 num k)) (.int ((k:Int)+1))=some (.int (K2 num k % ((k:Int)+1))):=bI (by omega);have g:=oE (K2 num k) (show (0:Int)<(k:Int)+1 by omega);obtain⟨a,e⟩:∃ a:Nat,K2 num k % ((k:Int)+1)=a:=⟨(K2 num k % ((k:Int)+1)).toNat,by omega⟩;rw[e] at b g;have j:Mx (.lst (nD l)) none (some (a:Int))=some (.lst (nD (l.take a))):=by show some (D.lst (hU (nD l) none (some (a:Int))))=_;rw[Br];unfold nD;rw[map_take]
 have h:Mx (.lst (nD l)) (some (a:Int)) none=some (.lst (nD (l.drop a))):=by show some (D.lst (hU (nD l) (some (a:Int)) none))=_;rw[Bs];unfold nD;rw[map_drop]
 have t1:(nD (l.take a)).length<=20:=by rw[length_map,length_take];omega
 have t2:(nD (l.drop a)).length<=20:=by rw[length_map,length_drop];omega
 have o:=AX (nD (l.take a)) [.int k] (by simp at t1 ⊢;omega);have c:=AX (nD (l.take a)++[.int k]) (nD (l.drop a)) (by rw[List.length_append];simp at t1 t2 ⊢;omega);have z1:Lp [.int k] (.lst [.int k])=some (.lst [.int k]):=cC (by simp);have i:nD (l.take a++[k]++l.drop a)=nD (l.take a)++[.int k]++nD (l.drop a):=by simp
 refine⟨a,by omega,?_⟩;rw[i];unfold gq;simp[n,d,b,j,h,z1,o,c,uY,-map_map,-map_append,-map_take,-map_drop,-List.append_assoc]
theorem yR (num:Int){m:Nat}(z:m<=10)(S:Ig):∃ o:List Nat,mE [.int num,.int m] S=Ip (oD o) S/\o.Perm (List.range m):=by
 have r:f_ [.int m]=some ((List.range m).map λ(k:Nat)=>D.int k):=by have:=Cg m (by omega) (by omega);simpa using this
 obtain⟨s,x,g,e⟩:=dB (u:=aE 3) (body:=gq) (λi f d=>d=S/\i<=m/\∃ (l:List Nat) (a b:Option D),l.Perm (List.range i)/\f=[some (.int num),some (.int m),some (.lst (nD l)),a,b])
  ((List.range m).map λ(k:Nat)=>D.int k) 0 [some (.int num),some (.int m),some (.lst []),none,none] S ⟨rfl,by omega,[],none,none,.refl _,rfl⟩ (by
   rintro j A f d v ⟨rfl,t,l,a,b,c,rfl⟩;obtain⟨rfl,y⟩:=gS v;simp only[zero_add] at c t ⊢;have h:l.length=j:=by rw[c.length_eq,length_range]
   obtain⟨q,B,p⟩:=wv num (.int m) j (by omega) l h b d;refine⟨_,rfl,_,_,p,rfl,by omega,_,_,_,?_,rfl⟩;rw[List.range_succ];have w:(l.take q++[j]++l.drop q).Perm (j::l):=by have:=List.perm_middle (a:=j) (l₁:=l.take q) (l₂:=l.drop q);rw[take_append_drop] at this;rw[List.append_assoc];exact this
   exact w.trans ((List.Perm.cons j c).trans (List.perm_append_singleton j (List.range j)).symm))
 simp only[zero_add,length_map,length_range] at e;obtain⟨rfl,_,l,a,b,c,rfl⟩:=e;refine⟨l,aC rfl ?_,c⟩;have n:Lp [] (.lst [])=some (.lst []):=cC (by simp);unfold qJ;simp[n,r,g,gL]
theorem sD (ss:List Str)(i:ss.length<=6)(o:∀ x∈ss,db x=true)(l:ss.Pairwise λa b=>LF a b=true)(m:Nat)(p : 1<=m)(q:m<=10)(S:Ig):∀ (fuel e:Nat) (num:Int),e<fuel->0<=num->∃ d,jH fuel [.int num,.tup (ss.map .str),.int m,.int e] S=Ip d S/\KQ m e d
 | 0,e,num,h,_=>absurd h (by omega)
 |fuel+1,e,num,h,h0=>by
  have t:cL (.int num) (.int 7)=some (.int (num % 7)):=bI (by decide);have k:g_ (.int num) (.int 7)=some (.int (num / 7)):=jD (by decide) (by decide);have s:cL (.int (num / 7)) (.int m)=some (.int (num / 7 % m)):=bI (by omega);have B:=oE (num / 7) (show (0:Int)<m by omega);obtain⟨v,r,j⟩:=uE (num / 7) (ss:=ss) (by omega) S
  have leaf:(e=0∨num % 7=0)->∃ d,jH (fuel+1) [.int num,.tup (ss.map .str),.int m,.int e] S=Ip d S/\KQ m e d:=λn=>by
   refine⟨.tup [.str "names",.tup (v.map .str)],aC rfl ?_,.leaf (λx w=>o x (j.subset w)) (eX (l.sublist j)) (Nat.le_trans j.length_le i)⟩;unfold sE;by_cases f:e=0
   ·subst f;simp[k,r]
   have g:num % 7=0:=n.resolve_left f;simp[f,t,g,k,r]
  by_cases f:e=0
  ·exact leaf (.inl f)
  by_cases g:num % 7=0
  ·exact leaf (.inr g)
  have E:=lc num 1 S;have z:=lc num 2 S;obtain⟨dp,rfl⟩:∃ dp,e=dp+1:=⟨e-1,by omega⟩;obtain⟨x,ex,C⟩:=sD ss i o l m p q S fuel dp (K2 num 1) (by omega) (km _ _);obtain⟨y,D,A⟩:=sD ss i o l m p q S fuel dp (K2 num 2) (by omega) (km _ _);have u:¬ ((dp:Int)+1=0):=by omega
  obtain⟨c,n⟩:∃ c:Nat,num / 7 % m=c:=⟨(num / 7 % m).toNat,by omega⟩;rw[n] at s B;refine⟨.tup [.str "ask",.int c,x,y],aC rfl ?_,.ask (by omega) C A⟩;unfold sE;simp[u,t,g,E,z,ex,D,k,s,jJ]
abbrev Lv (J_:List (List Int)):List D:=J_.map KH
theorem DQ (a b:List D)(h:a.length+b.length<=1000):bG (.tup a) (.tup b)=some (.tup (a++b)):=by rw[q8,if_pos (Nat.le_trans h (by decide))]
theorem mL (e:H9 D)(v:Int)(c:e=aI bG (af 0) (aB (.tup [.int v])))(a:List (List Int))(h:∀ ts∈a,ts.length<=20)(ρ:Ih)(S:Ig):bO (aE 0) fQ e (Lv a) (cm 1 [] ρ) S=some (Lv (a.map λts=>ts++[v]),S):=by
 have q:=l9 (u:=aE 0) (fe:=e) (λρ => ∃ y,ρ=[y]) (λd=>match d with | .tup b => .tup (b++[.int v]) |_ => .Jm) S (Lv a) (cm 1 [] ρ) ⟨none,rfl⟩ (by
  rintro d hd ρ ⟨y,rfl⟩;obtain⟨ts,f,rfl⟩:=mem_map.mp hd;refine⟨_,rfl,⟨_,rfl⟩,?_⟩;have g:=DQ (ts.map D.int) [.int v] (by have:=h ts f;simp;omega);subst c
  simp[g])
 rw[q];congr 2;unfold Lv;rw[map_map,map_map];refine map_congr_left λts _=>?_;simp[KH]
theorem tY (m:D)(k:Nat)(a:List (List Int))(d:a.length<=2000)(h:∀ ts∈a,ts.length<=20)(z:Option D)(S:Ig):fm [some m,some (.lst (Lv a)),z] S=Ip (.next [some m,some (.lst (Lv ((a.map λts=>ts++[0])++(a.map λts=>ts++[1])))),z]) S:=by
 have b:=mL k_ 0 rfl a h [some m,some (.lst (Lv a)),z] S;have c:=mL k9 1 rfl a h [some m,some (.lst (Lv a)),z] S;have ad:bG (.lst (Lv (a.map λts=>ts++[0]))) (.lst (Lv (a.map λts=>ts++[1])))=some (.lst (Lv ((a.map λts=>ts++[0])++(a.map λts=>ts++[1])))):=by rw[mB,if_pos (by simp only[Lv,length_map];exact Nat.le_trans (show _<=4000 by omega) (by decide))];unfold Lv;rw[← map_append]
 unfold fm;simp[cw,b,c,ad,-map_map,-map_append]
theorem vE:∀ (b:List (List Int)),(∀ ts∈b,ts≠[])->vH tupI (Lv b)=some b
 |[],_=>rfl
 |ts::b,h=>by
  have d:=vE b λt c=>h t (mem_cons_of_mem _ c)
  have e:tupI (KH ts)=some ts:=by
   unfold tupI KH;simp only[JC];cases ts with
   |nil=>exact absurd rfl (h [] (mem_cons_self ..))
   |cons a r=>rfl
  show vH tupI (KH ts::Lv b)=_;rw[vH,e,bind_some,d];rfl
def MD:Nat->List (List Int)
 | 0=>[[]]
 |m+1=>((MD m).map λts=>ts++[0])++((MD m).map λts=>ts++[1])
theorem xm:∀ m,(MD m).length=2 ^ m
 | 0=>rfl
 |m+1=>by rw[MD,List.length_append,length_map,length_map,xm m,pow_succ];omega
theorem nW:∀ m,∀ ts∈MD m,pR m ts
 | 0,ts,h=>by rw[mem_singleton.mp h];exact⟨rfl,λx hx=>by cases hx⟩
 |m+1,ts,h=>by
  have go:∀ {t:List Int}{b:Int},t∈MD m->(b=0∨b=1)->pR (m+1) (t++[b]):=λ{t b} a c=>by
   refine⟨by rw[List.length_append,(nW m t a).1];rfl,λx hx=>?_⟩;rcases mem_append.mp hx with hx |hx
   ·exact(nW m t a).2 x hx
   rw[mem_singleton.mp hx];exact c
  rcases mem_append.mp h with h |h
  ·obtain⟨t,a,rfl⟩:=mem_map.mp h;exact go a (.inl rfl)
  obtain⟨t,a,rfl⟩:=mem_map.mp h;exact go a (.inr rfl)
theorem xn:∀ m ts,pR m ts->ts∈MD m
 | 0,ts,h=>by rw[length_eq_zero_iff.mp h.1];exact mem_singleton.mpr rfl
 |m+1,ts,h=>by
  obtain⟨a,d⟩:=h;have c:ts≠[]:=by intro z;rw[z] at a;simp at a
  have e:=List.dropLast_concat_getLast c;have b:=xn m ts.dropLast ⟨by rw[List.length_dropLast,a];rfl,λx f=>d x (List.dropLast_subset _ f)⟩;rw[MD,mem_append];rcases d _ (List.getLast_mem c) with h0 |h0
  ·exact .inl (mem_map.mpr ⟨_,b,by rw[← h0];exact e⟩)
  exact .inr (mem_map.mpr ⟨_,b,by rw[← h0];exact e⟩)
def bits (n:Nat):List Int:=[n / 32 % 2,n / 16 % 2,n / 8 % 2,n / 4 % 2,n / 2 % 2,n % 2].map λ(k:Nat)=>(k:Int)
theorem zR {m:Nat}(b : 1<=m)(a:m<=6):Spec (oJ λ(x y:Int)=>decide (x<y)) (MD m):=by
 have:m=1∨m=2∨m=3∨m=4∨m=5∨m=6:=by omega
 rcases this with rfl |rfl |rfl |rfl |rfl |rfl
 ·exact⟨_,_,_,rfl,by decide,by decide,.inl (by decide)⟩
 ·exact⟨_,_,_,rfl,by decide,by decide,.inl (by decide)⟩
 ·exact⟨_,_,_,rfl,by decide,by decide,.inl (by decide)⟩
 ·exact⟨_,_,_,rfl,by decide,by decide,.inl (by decide)⟩
 ·exact⟨_,_,_,rfl,by decide,by decide,.inl (by decide)⟩
 exact⟨_,_,_,rfl,by decide,by decide,.inr ⟨by decide,_,_,_,_,rfl,by decide,by decide,(List.range 32).map λi=>bits (2*i),(List.range 32).map λi=>bits (2*i+1),by decide,by decide,by decide,by decide,by decide,by decide,by decide,by decide⟩⟩
theorem yy {m:Nat}(q : 1<=m)(n:m<=6)(S:Ig):∃ d:List (List Int),iu [.int m] S=Ip (.lst (Lv d)) S/\(∀ ts∈d,pR m ts)/\∀ ts,pR m ts->ts∈d:=by
 have s:f_ [.int m]=some ((List.range m).map λ(k:Nat)=>D.int k):=by have:=Cg m (by omega) (by omega);simpa using this
 have f:∀ j,j<=6->(MD j).length<=64:=λj e=>by rw[xm];exact Nat.pow_le_pow_right (by decide) e
 obtain⟨t,v,p,l⟩:=dB (u:=aE 2) (body:=fm) (λi o c=>c=S/\∃ b:Option D,o=[some (.int m),some (.lst (Lv (MD i))),b])
  ((List.range m).map λ(k:Nat)=>D.int k) 0 [some (.int m),some (.lst [.tup []]),none] S ⟨rfl,none,rfl⟩ (by
   rintro j x o c e ⟨rfl,b,rfl⟩;obtain⟨rfl,w⟩:=gS e;simp only[zero_add];have r:=tY (.int m) j (MD j) (by have:=f j (by omega);omega) (λts a=>by have:=(nW j ts a).1;omega) (some (.int j)) c
   exact⟨_,rfl,_,_,r,rfl,_,rfl⟩)
 simp only[zero_add,length_map,length_range] at l;obtain⟨rfl,b,rfl⟩:=l;have es:rH [.lst (Lv (MD m))]=some (.lst (Lv ((MD m).mergeSort wF))):=by show (vH tupI (Lv (MD m))).bind _=_;rw[vE (MD m) λts a h=>by have:=(nW m ts a).1;rw[h] at this;simp at this;omega,bind_some];exact if_pos ⟨by simp only[Lv,length_map];exact Nat.le_trans (f m n) (by decide),zR q n⟩
 have g:((MD m).mergeSort wF).Perm (MD m):=mergeSort_perm _ _;refine⟨(MD m).mergeSort wF,aC rfl ?_,λts a=>nW m ts (g.mem_iff.mp a),λts a=>g.mem_iff.mpr (xn m ts a)⟩;unfold oW;simp[s,p,es,-map_map]
theorem zE {x:Str}(b:lets x=true)(S:Ig)(ρ:Ih):bO (aE 0) cS eQ (x.cps.toList.map λc=>D.str ⟨#[c]⟩) (cm 1 [] ρ) S=some ([],S):=by
 have q:=fO (u:=aE 0) (gt:=cS) (fe:=eQ) (λρ => ∃ y,ρ=[y]) (λ_=>false) id S (x.cps.toList.map λc=>D.str ⟨#[c]⟩) (cm 1 [] ρ) ⟨none,rfl⟩ (by
  rintro d hd ρ ⟨y,rfl⟩;obtain⟨c,a,rfl⟩:=mem_map.mp hd;refine⟨_,rfl,⟨_,rfl⟩,?_,λh=>by cases h⟩;have e:=Bi c;rw[all_eq_true.mp b c a] at e;simp only[Bool.not_true] at e;simp[cS,sj,findD,Ob];show Ip (decide (Txt.find LX _<0)) S=_
  rw[e])
 rw[q];simp
theorem w6 {ss:List Str}(o:∀ x∈ss,db x=true)(n:OV ss=true)(S:Ig){j:Nat}{x:Str}(b:ss[j]?=some x):cT [some (.tup (ss.map .str)),some (.int j),some (.str x)] S=Ip (.next [some (.tup (ss.map .str)),some (.int j),some (.str x)]) S:=by
 have a:=o x (mem_of_getElem? b);unfold db at a;rw[and_eq_true,and_eq_true,and_eq_true] at a;obtain⟨m,k,v,u⟩:=a
 have e:(decide (("names":Str)=x) ||(decide (("ask":Str)=x) ||decide (("end":Str)=x)))=false:=by
  have:kept x=false:=by simpa using m
  unfold kept at this;rw[← this];simp[eq_comm]
 have f:=zE u S;have g:K3 (.lst []) (.lst [])=some (.bl false):=CL rfl;have i : 0<x.length:=of_decide_eq_true k;have d:(x.length:Int)<9:=by have:=of_decide_eq_true v;omega
 have c:(0:Int)<x.length:=by omega
 have t:(j=0/\¬ (0:Int)<j)∨((0:Int)<j/\∃ y,Lo (ss.map D.str) ((j:Int)-1)=some (.str y)/\LF y x=true):=by
  rcases Nat.eq_zero_or_pos j with rfl |h
  ·exact .inl ⟨rfl,by omega⟩
  have l:=(List.getElem?_eq_some_iff.mp b).1;have r:ss[j-1]?=some ss[j-1]:=List.getElem?_eq_getElem (by omega);refine .inr ⟨by omega,ss[j-1],?_,?_⟩
  ·have:(ss.map D.str)[j-1]?=some (.str ss[j-1]):=by rw[getElem?_map,r];rfl
   have:=bP this;rw[show ((j-1:Nat):Int)=(j:Int)-1 by omega] at this;exact this
  have:=pairwise_iff_getElem.mp (fq n) (j-1) j (by omega) l (by omega);rwa [(List.getElem?_eq_some_iff.mp b).2] at this
 unfold cT;rcases t with ⟨rfl,h⟩ |⟨h,y,s,p⟩
 ·simp[iM,mX,nw,Ob,b_,R0,i,c,d,MP,bE,Vv,e,cw,f,g]
 have q : 0<j:=by omega
 simp[iM,mX,nw,Ob,b_,R0,jJ,I_,O5,i,c,d,h,q,s,p,MP,bE,Vv,e,cw,f,g]
theorem wA {ss:List Str}(k:∀ x∈ss,db x=true)(i:OV ss=true)(S:Ig):gF [.tup (ss.map .str)] S=Ip (.bl true) S:=by
 refine aC rfl ?_;unfold jW
 obtain⟨l,c,g,rfl,a,b,rfl⟩:=dB (u:=kJ 2 (bf (aE 1) (bf (aE 2) gK))) (body:=cT) (λ_ e c=>c=S/\∃ a b,e=[some (.tup (ss.map .str)),a,b]) (cP 0 (ss.map .str)) 0 [some (.tup (ss.map .str)),none,none] S ⟨rfl,none,none,rfl⟩ (by
  rintro j d e c f ⟨rfl,a,b,rfl⟩;rw[fw,getElem?_map] at f;obtain⟨x,h,rfl⟩:=map_eq_some_iff.mp f;obtain⟨y,m,rfl⟩:=map_eq_some_iff.mp h;rw[zero_add]
  exact⟨[some (.tup (ss.map .str)),some (.int j),some (.str y)],rfl,_,c,w6 k i c m,rfl,_,_,rfl⟩)
 simp[iM,mX,nw,o7,g,-map_map]
theorem lS (i n:Int)(a : 0<=i)(b:i<n)(S:Ig):fV [.int i,.int (n-1)] S=Ip (.bl true) S:=by
 refine aC rfl ?_;unfold oY;have e:i<=n-1:=by omega
 simp[iM,mX,nw,RZ,a,e]
abbrev KI (R:List Row):D:=.tup (R.map au)
abbrev aK (t:Tr):D:=KI (enc (po t []))
theorem Al (r:Row):toPy (au r)=some (eI r):=by
 cases r with
 |leaf a=>simp[au,eI,toPy,bW,fB]
 |ask c n y=>simp[au,eI,toPy,bW]
theorem qo (r:Row):(eI r).depth<=2:=by
 cases r with
 |leaf a=>simp[eI,PyData.depth,PyData.depthAll,kn]
 |ask c n y=>simp[eI,PyData.depth,PyData.depthAll]
theorem jv:∀ R:List Row,bW (R.map au)=some (R.map eI)
 |[]=>rfl
 |r::R=>by rw[map_cons,bW,Al,jv R];rfl
theorem j5:∀ R:List Row,PyData.depthAll (R.map eI)<=2
 |[]=>by simp[PyData.depthAll]
 |r::R=>by
  have a:=qo r;have b:=j5 R;rw[map_cons,PyData.depthAll];omega
theorem ou:∀ R Q:List Row,PyData.eqvAll (R.map eI) (Q.map eI)=decide (R=Q)
 |[],[]=>rfl
 |[],q::Q=>by simp[PyData.eqvAll]
 |r::R,[]=>by simp[PyData.eqvAll]
 |r::R,q::Q=>by
  rw[map_cons,map_cons,PyData.eqvAll,ou R Q,rR];by_cases h:r=q<;>by_cases a:R=Q<;>simp[h,a]
theorem Gv (R Q:List Row):K3 (KI R) (KI Q)=some (.bl (!decide (R=Q))):=by
 have hd:=j5 R;have b:toPy (KI R)=some (.tuple (R.map eI)):=by rw[toPy,jv];rfl
 have a:toPy (KI Q)=some (.tuple (Q.map eI)):=by rw[toPy,jv];rfl
 unfold K3;rw[b,a];simp only[PyData.eqv,ou];rw[if_pos (by simp only[PyData.depth];omega)]
theorem u8 (R Q:List Row):JH (KI R) (KI Q)=some (.bl (decide (R=Q))):=by
 have hd:=j5 R;have b:toPy (KI R)=some (.tuple (R.map eI)):=by rw[toPy,jv];rfl
 have a:toPy (KI Q)=some (.tuple (Q.map eI)):=by rw[toPy,jv];rfl
 unfold JH;rw[b,a];simp only[PyData.eqv,ou];rw[if_pos (by simp only[PyData.depth];omega)]
theorem Eb (neg:Bool)(r:Row)(R:List Row)(S:Ig):MP neg (au r) (KI R) S=some (.bl (neg != decide (r∈R))):=by
 have hd:=qo r
 have e:oT (au r) (KI R)=some (decide (r∈R)):=by
  unfold oT;rw[Al];simp only[rM,bind_some,jv];rw[if_pos (by omega)];congr 1;rw[any_map]
  induction R with
  |nil=>rfl
  |cons q R b =>
   rw[any_cons,b,Function.comp,rR];by_cases h:q=r
   ·subst h;simp
   have a:¬ r=q:=λz=>h z.symm;simp[h,a]
 unfold MP;rw[if_neg (by rw[show bE (KI R)=false from rfl];decide)];cases neg<;>simp[inD,lU,e]
theorem oB:∀ o:List Nat,ck (o.map λ(c:Nat)=>D.int c)=some (o.map λ(c:Nat)=>(c:Int))
 |[]=>rfl
 |c::o=>by rw[map_cons,ck,oB o];rfl
theorem lay_ints:∀ (l:List Int),PyData.canLayAll0 (l.map .int)=true/\PyData.depthAll (l.map .int)=0/\((∀ i∈l,i.natAbs<=16)->PyData.weightAll (l.map .int)<=6*l.length)
 |[]=>⟨rfl,rfl,λ_=>le_refl _⟩
 |i::l=>by
  obtain⟨f,g,e⟩:=lay_ints l;refine⟨by rw[map_cons,PyData.canLayAll0,f];rfl,by rw[map_cons,PyData.depthAll,g];rfl,λh=>?_⟩;have a:=e λx j=>h x (mem_cons_of_mem _ j);have b:=h i (mem_cons_self ..)
  have c:PyData.weight (.int i)<=5:=by
   unfold PyData.weight;split
   ·omega
   have:i.natAbs.log2<5:=by refine(Nat.log2_lt ?_).mpr (by omega);rename_i d;simp at d;omega
   omega
  rw[map_cons,PyData.weightAll,length_cons];omega
theorem C9 {o:List Nat}(m:o.length<=10)(d:∀ c∈o,c<=16){c:Nat}(f:c∈o):oR (.lst (o.map λ(c:Nat)=>D.int c)) (.int c)=some (.int (o.idxOf c:Nat)):=by
 simp only[oR];rw[oB,bind_some];obtain⟨l,g,b⟩:=lay_ints (o.map λ(c:Nat)=>(c:Int))
 have b:=b (by
  intro i j;obtain⟨x,k,rfl⟩:=mem_map.mp j
  have:=d x k;omega)
 rw[length_map] at b;have e:(o.map λ(c:Nat)=>(c:Int)).idxOf (c:Int)=o.idxOf c:=ij (λ(c:Nat)=>(c:Int)) c o λa _ h=>by omega
 rw[if_pos ⟨mem_map.mpr ⟨c,f,rfl⟩,by
  unfold PyData.layable0;rw[and_eq_true,and_eq_true]
  refine⟨⟨by rw[PyData.canLay0];exact l,decide_eq_true (by rw[PyData.depth,g];decide)⟩,decide_eq_true (by rw[PyData.weight];omega)⟩⟩,e]
theorem uw (neg:Bool)(c:Nat)(o:List Nat)(S:Ig):MP neg (.int c) (.tup (o.map λ(c:Nat)=>D.int c)) S=some (.bl (neg != decide (c∈o))):=by
 have e:oT (.int c) (.tup (o.map λ(c:Nat)=>D.int c))=some (decide (c∈o)):=by
  have ep:bW (o.map λ(c:Nat)=>D.int c)=some (o.map λ(c:Nat)=>PyData.int c):=by
   induction o with
   |nil=>rfl
   |cons x o a=>rw[map_cons,bW,a];rfl
  unfold oT;simp only[toPy,rM,bind_some,ep];rw[if_pos (by simp[PyData.depth])];congr 1;rw[any_map];clear ep
  induction o with
  |nil=>rfl
  |cons q R a =>
   rw[any_cons,a,Function.comp];by_cases h:q=c
   ·subst h;simp[PyData.eqv]
   have d:¬ c=q:=λz=>h z.symm;have b:¬ (q:Int)=c:=by omega
   simp[PyData.eqv,b,d]
 unfold MP;rw[if_neg (by rw[show bE (.tup _)=false from rfl];decide)];cases neg<;>simp[inD,lU,e]
theorem r0 (r:Row)(S:Ig):I_ (au r) (.int 0) S=some (match r with | .leaf _ => .str "names" | .ask c _ _ => .int c):=by cases r<;>rfl
theorem oC (r:Row):K3 (match r with | .leaf _=>D.str "names" | .ask c _ _=>D.int c) (.str "names")=some (.bl (match r with | .leaf _=>false | .ask _ _ _=>true)):=by cases r<;>simp[K3,toPy,PyData.eqv,PyData.depth]
theorem A9 {o:List Nat}(nd:o.Nodup){R:List Row}{c:Nat}(A:c∈o){gs:List Nat}(v:∀ g∈gs,g<R.length/\o.idxOf c<Iu.pl o R g)(w:Wr o R)(ρ:Ih)(z : ρ[4]?=some (some (.tup ((o.drop (o.idxOf c+1)).map λ(c:Nat)=>D.int c))))(x : ρ[0]?=some (some (KI R)))(S:Ig) :
  bO (aE 0) dh fj (gs.map λ(g:Nat)=>D.int g) (cm 1 [4,0] ρ) S=some ([],S):=by
 have p:cm 1 [4,0] ρ=[none,some (.tup ((o.drop (o.idxOf c+1)).map λ(c:Nat)=>D.int c)),some (KI R)]:=by simp[cm,z,x]
 rw[p]
 have q:=fO (u:=aE 0) (gt:=dh) (fe:=fj) (λρ => ∃ y,ρ=[y,some (.tup ((o.drop (o.idxOf c+1)).map λ(c:Nat)=>D.int c)),some (KI R)]) (λ_=>false) id S (gs.map λ(g:Nat)=>D.int g) [none,some (.tup ((o.drop (o.idxOf c+1)).map λ(c:Nat)=>D.int c)),some (KI R)] ⟨none,rfl⟩ (by
  rintro d hd ρ ⟨y,rfl⟩;obtain⟨g,r,rfl⟩:=mem_map.mp hd;obtain⟨m,j⟩:=v g r;have e:R[g]?=some R[g]:=List.getElem?_eq_getElem m;have f:=fg S e;have b:=oC R[g];have i:=Iu.r0 R[g] S;refine⟨[some (.int g),some (.tup ((o.drop (o.idxOf c+1)).map λ(c:Nat)=>D.int c)),some (KI R)],rfl,⟨_,rfl⟩,?_,λh=>by cases h⟩;unfold dh;have l:=w g _ e;cases hr:R[g] with
  |leaf C =>
   rw[hr] at f b i;simp[f,i,b,-map_map]
  |ask a n E =>
   rw[hr] at f b i l e;have B:o.idxOf c<o.idxOf a:=by unfold Iu.pl at j;rw[e] at j;exact j
   have t:a∈o.drop (o.idxOf c+1):=by rw[List.mem_iff_getElem?];have s:=List.idxOf_lt_length_of_mem l.1;refine⟨o.idxOf a-(o.idxOf c+1),?_⟩;rw[getElem?_drop,show o.idxOf c+1+(o.idxOf a-(o.idxOf c+1))=o.idxOf a by omega,List.getElem?_eq_getElem s];simp
   have k:=uw true a (o.drop (o.idxOf c+1)) S;rw[decide_eq_true t] at k;simp only[map_drop] at k ⊢
   simp[f,i,b,k,-map_map,-map_drop])
 rw[q];simp
theorem uW {o:List Nat}(B:o.Nodup)(x:o.length<=10)(q:∀ c∈o,c<o.length){R:List Row}(nd:R.Nodup)(w:Wr o R){j:Nat}{r:Row}(d:R[j]?=some r)(S:Ig):kB [KI R,.int j,oD o] S=Ip (.bl true) S:=by
 have s:I_ (KI R) (.int j) S=some (au r):=fg S d;have T:=(List.getElem?_eq_some_iff.mp d).1;have p:hU (R.map au) none (some (j:Int))=(R.take j).map au:=by rw[Br,map_take]
 have C:r∉R.take j:=by
  intro h;obtain⟨i,b⟩:=getElem?_of_mem h;rw[getElem?_take] at b;split at b
  ·rename_i V;have:=(List.getElem?_inj (by omega) nd).mp (b.trans d.symm);omega
  cases b
 have f:=Eb false r (R.take j) S;rw[decide_eq_false C] at f;refine aC rfl ?_;unfold o0;have e:=w j r d;cases r with
 |leaf a =>
  have l:=wA e.1 e.2 S;have k:=Iu.r0 (.leaf a) S;have x1:I_ (au (.leaf a)) (.int 1) S=some (.tup (a.map .str)):=rfl;have u:b_ [au (.leaf a)]=some (.int 2):=rfl;have it:iM "tuple" (au (.leaf a))=some (.bl true):=rfl;have K:JH (.str "names") (.str "names")=some (.bl true):=by simp[JH,toPy,PyData.eqv,PyData.depth]
  have is:iM "str" (.str "names")=some (.bl true):=rfl;simp[s,it,u,Mx,uY,p,f,k,is,K,x1,l,-map_map,-map_take]
 |ask c n y =>
  obtain⟨m,Q,Y,z,v,U⟩:=e;have k:=Iu.r0 (.ask c n y) S;have x1:I_ (au (.ask c n y)) (.int 1) S=some (.int n):=rfl;have x2:I_ (au (.ask c n y)) (.int 2) S=some (.int y):=rfl;have J:b_ [au (.ask c n y)]=some (.int 3):=rfl;have lo:b_ [oD o]=some (.int o.length):=by simp[b_]
  have it:iM "tuple" (au (.ask c n y))=some (.bl true):=rfl;have is:iM "str" (.int c)=some (.bl false):=rfl;have H:=lS c o.length (by omega) (by have:=q c m;omega) S;have E:=lS n j (by omega) (by omega) S;have F:=lS y j (by omega) (by omega) S;have N:¬ (n:Int)=y:=by omega
  have G:CZ [oD o]=some (.lst (o.map λ(c:Nat)=>D.int c)):=rfl;have L:=C9 x (λc P=>by have:=q c P;omega) m;have I:sk (.lst (o.map λ(c:Nat)=>D.int c))=true:=rfl;have A:Mx (oD o) (some ((o.idxOf c:Int)+1)) none=some (.tup ((o.drop (o.idxOf c+1)).map λ(c:Nat)=>D.int c)):=by rw[show (o.idxOf c:Int)+1=((o.idxOf c+1:Nat):Int) from rfl];simp only[Mx];rw[Bs,map_drop]
  have O:Mx (au (.ask c n y)) (some 1) none=some (.tup [.int n,.int y]):=rfl
  have gs:bO (aE 0) dh fj [.int n,.int y] _ S=_:=A9 B m (gs:=[n,y]) (by
   intro g hg;rcases mem_cons.mp hg with rfl |hg
   ·exact⟨by omega,z⟩
   rw[mem_singleton.mp hg];exact⟨by omega,v⟩) w [some (KI R),some (.int j),some (oD o),some (au (.ask c n y)),some (.tup ((o.drop (o.idxOf c+1)).map λ(c:Nat)=>D.int c))] rfl rfl S
  have l:JH (.lst []) (.lst [])=some (.bl true):=Db rfl;generalize JI:au (.ask c n y)=rd at *
  generalize W:(.tup ((o.drop (o.idxOf c+1)).map λ(c:Nat)=>D.int c):D)=be at *
  generalize Z:oD o=od at *
  generalize X:(.lst (o.map λ(c:Nat)=>D.int c):D)=ol at *
  have st:Mx (KI R) none (some (j:Int))=some (KI (R.take j)):=by simp only[Mx,p]
  generalize t:KI (R.take j)=tk at *
  generalize M:KI R=rD at *
  simp[s,it,J,st,uY,f,k,is,H,lo,jJ,x1,x2,E,F,N,G,I,L,A,O,cw];simp[gs,l]
theorem oS {α:Type}[DecidableEq α]{l:List α}{a b : α}(e:a∈l)(g:b∈l)(h:l.idxOf a=l.idxOf b):a=b:=by
 have i:=List.idxOf_lt_length_of_mem e;have f:=List.idxOf_lt_length_of_mem g;have c:l[l.idxOf a]?=some a:=by rw[List.getElem?_eq_getElem i];simp
 have d:l[l.idxOf b]?=some b:=by rw[List.getElem?_eq_getElem f];simp
 rw[h,d] at c;exact(Option.some.inj c).symm
theorem zu {P:List Tr}(nd:P.Nodup)(d:OY P):(enc P).Nodup:=by
 unfold enc List.Nodup;rw[pairwise_map];refine List.Pairwise.imp_of_mem ?_ nd;intro a b e f g h;refine g ?_;cases a with
 |leaf s=>cases b with
  |leaf t=>simp only[vc,Row.leaf.injEq] at h;rw[h]
  |node=>simp[vc] at h
 |node c n y=>cases b with
  |leaf t=>simp[vc] at h
  |node k l m =>
   simp only[vc,Row.ask.injEq] at h;obtain⟨rfl,j,i⟩:=h;rw[oS (d _ _ _ e).1 (d _ _ _ f).1 j,oS (d _ _ _ e).2 (d _ _ _ f).2 i]
def NU:Tr->Nat
 | .leaf _ => 0
 | .node _ n y=>max (NU n) (NU y)+1
theorem wN {o:List Nat}:∀ {t:Tr},Ord o t->NU t+tp o t<=o.length
 | .leaf _,_=>by simp[NU,tp]
 | .node c n y,h=>by
  obtain⟨k,f,d,i,j,_⟩:=h;have a:=wN f;have b:=wN d;have e:tp o (.node c n y)=o.idxOf c:=rfl;have g:NU (.node c n y)=max (NU n) (NU y)+1:=rfl;rw[e,g];omega
abbrev nL (l:List Nat):D:=.lst (l.map λ(c:Nat)=>D.int c)
theorem F2 (neg:Bool)(c:Nat)(o:List Nat)(S:Ig):MP neg (.int c) (nL o) S=some (.bl (neg != decide (c∈o))):=by have q:=uw neg c o S;unfold MP at q ⊢;rw[if_neg (by rw[show bE (.tup _)=false from rfl];decide)] at q;rw[if_neg (by rw[show bE (.lst _)=false from rfl];decide)];exact q
theorem F9 (l:List Nat):JH (nL l) (nL l)=some (.bl true):=by have q:=Bl (l.map λ(c:Nat)=>(c:Int)) (l.map λ(c:Nat)=>(c:Int));rw[map_map,decide_eq_true rfl] at q;exact q
theorem qQ (rec:Ie)(fs gs:List Nat)(a b c e:Option D)(S:Ig):bO (aE 0) (fC rec) (im rec) (gs.map λ(g:Nat)=>D.int g) (cm 1 [3] [a,b,c,some (nL fs),e]) S=some ((gs.filter λg=>decide (g∉fs)).map λ(g:Nat)=>D.int g,S):=by
 have j:cm 1 [3] [a,b,c,some (nL fs),e]=[none,some (nL fs)]:=rfl;rw[j]
 have q:=fO (u:=aE 0) (gt:=fC rec) (fe:=im rec) (λf => ∃ y,f=[y,some (nL fs)]) (λd=>match d with | .int i=>decide (i.toNat∉fs) |_=>false) id S (gs.map λ(g:Nat)=>D.int g) [none,some (nL fs)] ⟨none,rfl⟩ (by
  rintro d hd f ⟨y,rfl⟩;obtain⟨g,k,rfl⟩:=mem_map.mp hd;refine⟨[some (.int g),some (nL fs)],rfl,⟨_,rfl⟩,?_,λh=>rfl⟩;have h:=F2 true g fs S;unfold fC;simp only[Gc,Hd,F_,List.getElem?_cons_zero,getElem?_cons_succ]
  simp[h,-map_map])
 rw[q,map_id,filter_map];rfl
theorem rE {P:List Tr}(a:OY P){s x:Tr}(c:s∈P)(b:x∈po s []):x∈P:=by
 rcases h9 s [] x b with h |h
 ·cases h
 exact a.sub h c
abbrev lD (P:List Tr)(s:Tr):List Nat:=(po s []).map λx=>P.idxOf x
theorem Bo {P:List Tr}{s:Tr}(h:s∈P):(enc P)[P.idxOf s]?=some (vc P s):=by have a:=List.idxOf_lt_length_of_mem h;unfold enc;rw[getElem?_map,List.getElem?_eq_getElem a];simp
theorem C5 {P:List Tr}(d:OY P){c:Nat}{n y:Tr}(j:n∈P)(f:y∈P):lD P (.node c n y)=lD P n++((lD P y).filter λg=>decide (g∉lD P n))++[P.idxOf (.node c n y)]:=by
 unfold lD;rw[dY (by simp),jw y (fu n sP),map_append,map_append,filter_map];congr 2;congr 1;refine List.filter_congr λx i=>?_;simp only[Function.comp,decide_eq_decide];constructor
 ·intro h a;obtain⟨z,b,e⟩:=mem_map.mp a;rw[oS (rE d j b) (rE d f i) e] at b;exact h b
 exact λh a=>h (mem_map.mpr ⟨x,a,rfl⟩)
theorem tx (a b:List Nat)(h:a.length+b.length<=4000):bG (nL a) (nL b)=some (nL (a++b)):=by simp only[bG,length_map,map_append];rw[if_pos (by simp only[sizeLine];omega)];simp
theorem qu {α:Type}[DecidableEq α]:∀ {l P:List α},l.Nodup->(∀ x∈l,x∈P)->l.length<=P.length
 |[],P,_,_=>zero_le _
 |a::l,P,nd,h=>by
  obtain⟨e,d⟩:=nodup_cons.mp nd;have b:=h a (mem_cons_self ..);have f:=qu (P:=P.erase a) d λx c=>(List.mem_erase_of_ne (by rintro rfl;exact e c)).mpr (h x (mem_cons_of_mem _ c));rw[List.length_erase_of_mem b] at f;have:=List.length_pos_of_mem b;rw[length_cons];omega
theorem A3 {P:List Tr}(nd:P.Nodup)(a:OY P){s:Tr}(c:s∈P):(lD P s).length<=P.length:=by unfold lD;rw[length_map];exact qu (i8 s nodup_nil) λx b=>rE a c b
theorem r8 {P:List Tr}(nd:P.Nodup)(h:OY P)(x:P.length<=1500)(S:Ig):∀ (s:Tr) (fuel:Nat),s∈P->NU s<fuel->cR fuel [KI (enc P),.int (P.idxOf s)] S=Ip (nL (lD P s)) S
 | .leaf e,fuel,l,I=>by
  obtain⟨fuel,rfl⟩:∃ f,fuel=f+1:=⟨fuel-1,by omega⟩;have p:I_ (KI (enc P)) (.int (P.idxOf (.leaf e))) S=some (au (.leaf e)):=fg S (Bo l);have o:=Iu.r0 (.leaf e) S;have m:=oC (.leaf e);have B:lD P (.leaf e)=[P.idxOf (.leaf e)]:=by unfold lD;rw[dZ (by simp)];rfl
  have ad:∀ i:Nat,bG (.lst []) (.lst [.int i])=some (nL [i]):=λi=>tx [] [i] (by simp);have ad:=ad (P.idxOf (.leaf e));rw[B];refine aC rfl ?_;unfold oZ;generalize KI (enc P)=rd at *
  generalize au (.leaf e)=rw at *
  generalize nL [P.idxOf (.leaf e)]=rr at *
  generalize P.idxOf (.leaf e)=ii at *
  simp[p,o,m,ad]
 | .node c n y,fuel,l,I=>by
  obtain⟨fuel,rfl⟩:∃ f,fuel=f+1:=⟨fuel-1,by omega⟩;obtain⟨t,v⟩:=h _ _ _ l;have Q:NU (.node c n y)=max (NU n) (NU y)+1:=rfl;have G:=r8 nd h x S n fuel t (by omega);have H:=r8 nd h x S y fuel v (by omega);have p:I_ (KI (enc P)) (.int (P.idxOf (.node c n y))) S=some (au (.ask c (P.idxOf n) (P.idxOf y))):=fg S (Bo l);have o:=Iu.r0 (.ask c (P.idxOf n) (P.idxOf y)) S;have m:=oC (.ask c (P.idxOf n) (P.idxOf y));have F:Mx (au (.ask c (P.idxOf n) (P.idxOf y))) (some 1) none=some (.tup [.int (P.idxOf n),.int (P.idxOf y)]):=rfl;have O:=A3 nd h t;have R:=A3 nd h v;have lf:=List.length_filter_le (λg=>decide (g∉lD P n)) (lD P y);rw[C5 h t v];generalize lD P n=ln at *
  generalize lD P y=k at *
  have j:=qQ (cR fuel) [] ln;have r:=qQ (cR fuel) ln k;rw[List.filter_eq_self.mpr (by simp)] at j;generalize k.filter (λg=>decide (g∉ln))=lz at *
  have N:bG (.lst []) (nL ln)=some (nL ln):=tx [] ln (by simp;omega);have A:bG (nL ln) (nL lz)=some (nL (ln++lz)):=tx _ _ (by omega);have u:∀ i:Nat,bG (nL (ln++lz)) (.lst [.int i])=some (nL (ln++lz++[i])):=λi=>tx _ [i] (by simp;omega);have u:=u (P.idxOf (.node c n y));have L:cw (nL ln)=some (ln.map λ(g:Nat)=>D.int g):=rfl;have K:cw (nL k)=some (k.map λ(g:Nat)=>D.int g):=rfl;refine aC rfl ?_;unfold oZ;generalize KI (enc P)=rd at *
  generalize au (.ask c (P.idxOf n) (P.idxOf y))=rw at *
  generalize P.idxOf (.node c n y)=ii at *
  generalize nL (ln++lz++[ii])=rr at *
  have C:fR (cR fuel) [some rd,some (.int ii),some rw,some (.lst []),some (.int (P.idxOf n))] S=Ip (.next [some rd,some (.int ii),some rw,some (nL ln),some (.int (P.idxOf n))]) S:=by unfold fR;have j:=j (some rd) (some (.int ii)) (some rw) (some (.int (P.idxOf n))) S;have j:bO (aE 0) (fC (cR fuel)) (im (cR fuel)) (ln.map λ(g:Nat)=>D.int g) (cm 1 [3] [some rd,some (.int ii),some rw,some (.lst []),some (.int (P.idxOf n))]) S=_:=j;simp[G,L,j,N]
  have E:fR (cR fuel) [some rd,some (.int ii),some rw,some (nL ln),some (.int (P.idxOf y))] S=Ip (.next [some rd,some (.int ii),some rw,some (nL (ln++lz)),some (.int (P.idxOf y))]) S:=by unfold fR;have r:=r (some rd) (some (.int ii)) (some rw) (some (.int (P.idxOf y))) S;simp[H,K,r,A]
  have J:∀ (d z:D) (a b c:Option D),aE 4 d [a,b,c,some z,none]=some [a,b,c,some z,some d]:=λ_ _ _ _ _=>rfl;have M:∀ (d z w:D) (a b c:Option D),aE 4 d [a,b,c,some z,some w]=some [a,b,c,some z,some d]:=λ_ _ _ _ _ _=>rfl;have q:cw (.tup [.int (P.idxOf n),.int (P.idxOf y)])=some [.int (P.idxOf n),.int (P.idxOf y)]:=rfl;generalize nL (ln++lz)=l3 at *
  generalize nL ln=l4 at *
  simp[p,o,m,F,uY,q,gZ,J,M,C,E,u]
theorem Cq:∀ (t:Tr),∃ X,po t []=X++[t]
 | .leaf a=>⟨[],by rw[dZ (by simp)]⟩
 | .node c n y=>⟨po y (po n []),by rw[dY (by simp)]⟩
theorem En (t:Tr):(po t []).idxOf t=(po t []).length-1/\t∈po t []/\0<(po t []).length:=by obtain⟨X,e⟩:=Cq t;have nd:=i8 t nodup_nil;rw[e] at nd ⊢;have a:t∉X:=λh=>(nodup_append.mp nd).2.2 t h t (by simp) rfl;rw[idxOf_append,if_neg a];simp
theorem ig {o:List Nat}(y:o.Nodup)(n:o.length<=10)(H:∀ c∈o,c<o.length){t:Tr}(v:Ord o t)(w:Wr o (enc (po t [])))(K:(po t []).length<=1500)(S:Ig):jj [aK t,oD o] S=Ip (.bl true) S:=by
 have nd:=i8 t nodup_nil;have g:=fu t sP;obtain⟨E,A,O⟩:=En t;have P:=wN v;have b:=r8 nd g K S t 11 A (by omega);rw[E] at b;have p:lD (po t []) t=List.range (po t []).length:=CV _ nd;rw[p] at b;have G:=zu nd g;have m:(enc (po t [])).length=(po t []).length:=by unfold enc;rw[length_map]
 have l:=λ(j:Nat) (r:Row) (f:(enc (po t []))[j]?=some r)=>uW y n H G w f S;have F:∀ j:Nat,j<(po t []).length->∃ r,(enc (po t []))[j]?=some r:=λj f=>⟨_,List.getElem?_eq_getElem (by omega)⟩;have ln:b_ [aK t]=some (.int (po t []).length):=by simp[b_,m]
 have it:iM "tuple" (aK t)=some (.bl true):=rfl;have eq:=F9 (List.range (po t []).length);have M:g0 [.int (po t []).length]=some (nL (List.range (po t []).length)):=by simp only[g0];rw[if_pos (by omega)];simp
 have x:f_ [.int (po t []).length]=some ((List.range (po t []).length).map λ(k:Nat)=>D.int k):=by simp only[f_];rw[if_pos (by omega)];simp
 generalize N:(po t []).length=k at *
 have z:((k-1:Nat):Int)=(k:Int)-1:=by omega
 rw[z] at b;generalize B:aK t=fd at *
 have i:KI (enc (po t []))=fd:=B
 obtain⟨J,e,L,rfl,a,rfl⟩:=dB (u:=aE 2) (body:=gE) (λ_ h e=>e=S/\∃ a,h=[some fd,some (oD o),a]) ((List.range k).map λ(k:Nat)=>D.int k) 0 [some fd,some (oD o),none] S ⟨rfl,none,rfl⟩ (by
  rintro j d h e f ⟨rfl,a,rfl⟩;obtain⟨rfl,C⟩:=gS f;obtain⟨r,s⟩:=F j C;have q:=l j r s;refine⟨[some fd,some (oD o),some (.int j)],rfl,[some fd,some (oD o),some (.int j)],e,?_,rfl,_,rfl⟩;unfold gE;rw[i] at q
  simp[q])
 have I:¬ k=0:=by omega
 refine aC rfl ?_;unfold mY;generalize oD o=od at *
 rw[i] at b;simp[it,ln,I,x,L,jJ,b,M,eq]
theorem KQ.mono {m k:Nat}{d:D}(h:KQ m k d):∀ j,k<=j->KQ m j d:=by
 induction h with
 |leaf g b a=>exact λj _ => .leaf g b a
 |ask c _ _ e f =>
  intro j l;obtain⟨j,rfl⟩:∃ i,j=i+1:=⟨j-1,by omega⟩;exact .ask c (e j (by omega)) (f j (by omega))
theorem CW (ns:List Int)(b:Nat)(y : 1<=b)(j:b<=10)(S:Ig):∃ (m:Nat) (ss:List Str) (kvs:List (D×D)) (d:D) (o:List Nat),1<=m/\m<=b/\ss.length<=6/\(∀ x∈ss,db x=true)/\(ss.Pairwise λa b=>LF a b=true)/\KQ m 5 d/\o.Perm (List.range m) /\
  lp [.lst (ns.map .int),.int b] S=Ip (.tup [.int m,.tup (ss.map .str),d,oD o]) (S++[.dict kvs]):=by
 have p:∀ S,bi [.lst (ns.map .int),.int 0] S=Ip (.int (mix ns 0)) S:=fM ns 0;have x1:∀ S,bi [.lst (ns.map .int),.int 1] S=Ip (.int (mix ns 1)) S:=fM ns 1;have x2:∀ S,bi [.lst (ns.map .int),.int 2] S=Ip (.int (mix ns 2)) S:=fM ns 2;have r:∀ S,bi [.lst (ns.map .int),.int 3] S=Ip (.int (mix ns 3)) S:=fM ns 3;have n:∀ S,bi [.lst (ns.map .int),.int 4] S=Ip (.int (mix ns 4)) S:=fM ns 4;have w:=oE (mix ns 0) (show (0:Int)<b by omega);have i:cL (.int (mix ns 0)) (.int b)=some (.int (mix ns 0 % b)):=bI (by omega);obtain⟨m,q⟩:∃ m:Nat,1+mix ns 0 % b=m:=⟨(1+mix ns 0 % b).toNat,by omega⟩;obtain⟨ss,kvs,h,e,f,c⟩:=yr (mix ns 1) S;have g:cL (.int (mix ns 3)) (.int 5)=some (.int (mix ns 3 % 5)):=bI (by decide);have v:=oE (mix ns 3) (show (0:Int)<5 by decide);obtain⟨dp,s⟩:∃ dp:Nat,1+mix ns 3 % 5=dp:=⟨(1+mix ns 3 % 5).toNat,by omega⟩;obtain⟨d,k,t⟩:=sD ss e f c m (by omega) (by omega) (S++[.dict kvs]) 8 dp (mix ns 2) (by omega) (oF _ _);obtain⟨o,l,po⟩:=yR (mix ns 4) (m:=m) (by omega) (S++[.dict kvs]);have u:Lp [.int m,.tup (ss.map .str),d,oD o] (.tup [.int m,.tup (ss.map .str),d,oD o])=some (.tup [.int m,.tup (ss.map .str),d,oD o]):=cC (by simp);refine⟨m,ss,kvs,d,o,by omega,by omega,e,f,c,t.mono 5 (by omega),po,aC rfl ?_⟩;unfold u6;simp[p,x1,x2,r,n,i,q,h,g,s,k,l,u,-map_map]
theorem wI {m k:Nat}{d:D}(h:KQ m k d):∀ {b:Th}{ss:List Str},Kv b d ss->ss.length<=6:=by
 induction h with
 | @leaf k i _ _ f=>intro b ss a;rw[xN a];exact f
 | @ask k c x y _ _ _ g e =>
  intro b ss a;cases a with
  |no _ a=>exact g a
  |yes _ a=>exact e a
theorem jn {o:List Nat}{a b:Th}:∀ {t:Tr},Ord o t->(∀ c,tp o t<=o.idxOf c->a c=b c)->Ky t a=Ky t b
 | .leaf _,_,_=>rfl
 | .node c n y,h,q=>by
  obtain⟨_,g,f,i,j,_⟩:=h;have e:a c=b c:=q c (le_refl _);have q:∀ x,o.idxOf c<=o.idxOf x->a x=b x:=q;rw[Ky,Ky,e,jn g λx d=>q x (by omega),jn f λx d=>q x (by omega)]
theorem C4 {o:List Nat}{s t:Tr}(h:Sub s t):∀ {ss:List Str},s = .leaf ss->Ord o t->∃ a,Ky t a=ss:=by
 induction h with
 |refl=>intro ss e _;subst e;exact⟨λ_=>false,rfl⟩
 | @no c n y _ d =>
  intro ss e b;obtain⟨_,g,_,j,_,_⟩:=b;obtain⟨a,q⟩:=d e g;refine⟨λx=>if x=c then false else a x,?_⟩;rw[Ky,if_neg (by simp),← q];refine jn g λx i=>if_neg λe=>?_;subst e;omega
 | @yes c n y _ d =>
  intro ss e b;obtain⟨_,_,f,_,k,_⟩:=b;obtain⟨a,q⟩:=d e f;refine⟨λx=>if x=c then true else a x,?_⟩;rw[Ky,if_pos (by simp),← q];refine jn f λx i=>if_neg λe=>?_;subst e;omega
theorem Bn {t:Tr}{i:Nat}{ss:List Str}(h:(enc (po t []))[i]?=some (.leaf ss)):Sub (.leaf ss) t:=by
 unfold enc at h;rw[getElem?_map] at h;obtain⟨s,a,e⟩:=map_eq_some_iff.mp h;cases s with
 |leaf b =>
  simp only[vc,Row.leaf.injEq] at e;subst e;exact(h9 t [] _ (mem_of_getElem? a)).elim (λq=>by cases q) id
 |node c n y=>simp[vc] at e
theorem xJ {o:List Nat}{m k:Nat}{d:D}(b:KQ m k d){t:Tr}(g:Ord o t)(tk:∀ a ss,Kv a d ss->Ky t a=ss):Lf (enc (po t [])):=by intro i ss h;obtain⟨a,e⟩:=C4 (Bn h) rfl g;obtain⟨f,c⟩:=b.total a;rw[← e,tk a f c];exact wI b c
theorem jE (t:Tr) : 0<(enc (po t [])).length:=by unfold enc;rw[length_map];exact List.length_pos_of_mem (rX t [])
theorem ne3 (a b c:List Str):K3 (.lst [.tup (a.map .str),.tup (b.map .str),.tup (c.map .str)]) (.lst [.tup (a.map .str),.tup (b.map .str),.tup (c.map .str)])=some (.bl false):=by simp[K3,toPy,bW,fB,PyData.eqv,PyData.eqvAll,PyData.depth,PyData.depthAll,kn,o6]
theorem Z0:K3 (.lst []) (.lst [])=some (.bl false):=by simp[K3,toPy,bW,PyData.eqv,PyData.eqvAll,PyData.depth,PyData.depthAll]
section
variable (ρ:Ih) (S:Ig)
@[simp] theorem Gg (gs:H9 (List D)):wZ gs ρ S=ah (gs ρ S) λds a=>if ds.length<=sizeLine then Ip (.loc a.length) (a++[.lst ds]) else none:=rfl
@[simp] theorem G_ (b a:H9 D):Dm b a ρ S=ah (b ρ S) λx c=>ah (a ρ c) λy S2=>aP (wz x y S2) S2:=rfl
end
theorem WX : 2<=sizeLine:=by decide
theorem Rq : 2<sizeLine:=by decide
theorem Fd (s n one e:D){m:Nat}{ts:List Int}(J:pR m ts){d1 d2:D}(u:KQ m 5 d1)(A:KQ m 5 d2)(j:D){d f c:D}{a b:List Str}(B:Kv (tv ts) d1 a)(E:Kv (tv ts) d2 b)
  (S:Ig) (L:∀ S,mG [d,KH ts] S=Ip (.tup ((fU a b).map .str)) S) (K:∀ S,mG [f,KH ts] S=Ip (.tup ((fI a b).map .str)) S) (F:∀ S,mG [c,KH ts] S=Ip (.tup ((fL a b).map .str)) S) (x y z:Option D) :
  ∃ x' y' Y T,ll [some s,some (.int m),some n,some d1,some j,some d2,some one,some e,some (.lst [d,f,c]),some (KH ts),x,y,z] S=Ip (.next [some s,some (.int m),some n,some d1,some j,some d2,some one,some e,some (.lst [d,f,c]),some (KH ts),x',y',Y]) T:=by
 have a1:=ng J S u (fuel:=15) B (by decide);have M:=ng J S A (fuel:=15) E (by decide);have un:=vT (wI u B) (wI A E) S;have i:=Bj (neg:=false) (gt:=rC) (fe:=sJ) rfl rfl a b S none;have l:=λS=>Bj (neg:=true) (gt:=rB) (fe:=sH) rfl rfl a b S none;have i:bO (aE 0) rC sJ (a.map .str) [none,some (.tup (b.map .str))] S=some ((fI a b).map .str,S):=i;have l:∀ S,bO (aE 0) rB sH (a.map .str) [none,some (.tup (b.map .str))] S=some ((fL a b).map .str,S):=l;have Q:∀ w:Option D,cm 1 [11] [some s,some (.int m),some n,some d1,some j,some d2,some one,some e,some (.lst [d,f,c]),some (KH ts),some (.tup (a.map .str)),some (.tup (b.map .str)),w]=[none,some (.tup (b.map .str))]:=λ_=>rfl;have sa:=sI a;have O:cw (.lst [d,f,c])=some [d,f,c]:=rfl;have H:=ne3 (fU a b) (fI a b) (fL a b);generalize I:S++[MO.lst [.tup ((fU a b).map .str),.tup ((fI a b).map .str)]]=g;have h:g[S.length]?=some (.lst [.tup ((fU a b).map .str),.tup ((fI a b).map .str)]):=by rw[← I];simp
 have R:eN (.loc S.length) g=some [.tup ((fU a b).map .str),.tup ((fI a b).map .str)]:=by unfold eN;simp only[h]
 have G:tw (.loc S.length) (.tup ((fL a b).map .str)) g=Ip .Jm (g.set S.length (.lst [.tup ((fU a b).map .str),.tup ((fI a b).map .str),.tup ((fL a b).map .str)])):=by unfold tw;simp only[h];rw[if_pos (show ([.tup ((fU a b).map .str),.tup ((fI a b).map .str)]:List D).length<sizeLine from Rq)];rfl
 have C:=di (b:=.lst [.tup ((fU a b).map .str),.tup ((fI a b).map .str),.tup ((fL a b).map .str)]) h;generalize g.set S.length (.lst [.tup ((fU a b).map .str),.tup ((fI a b).map .str),.tup ((fL a b).map .str)])=S2 at G C
 have o:bO (aE 0) fQ gf [d,f,c] [none,some (KH ts)] S2=some ([.tup ((fU a b).map .str),.tup ((fI a b).map .str),.tup ((fL a b).map .str)],S2):=by
  have t:OA (Ip true S2)=some (true,S2):=rfl;have k:∀ v:D,OA (Ip v S2)=some (v,S2):=λ_=>rfl;have W:gf [some d,some (KH ts)] S2=Ip (.tup ((fU a b).map .str)) S2:=by unfold gf;simp[L S2,-map_map]
  have P:gf [some f,some (KH ts)] S2=Ip (.tup ((fI a b).map .str)) S2:=by unfold gf;simp[K S2,-map_map]
  have N:gf [some c,some (KH ts)] S2=Ip (.tup ((fL a b).map .str)) S2:=by unfold gf;simp[F S2,-map_map]
  have V:∀ (v:D) (w:Option D),aE 0 v [w,some (KH ts)]=some [some v,some (KH ts)]:=λ_ _=>rfl;simp[bO,V,W,P,N,t,k]
 have X:∀ p q r:Option D,cm 1 [9] [some s,some (.int m),some n,some d1,some j,some d2,some one,some e,some (.lst [d,f,c]),some (KH ts),p,q,r]=[none,some (KH ts)]:=λ_ _ _=>rfl;have Z:wz (.lst [.tup ((fU a b).map .str),.tup ((fI a b).map .str),.tup ((fL a b).map .str)]) (.loc S.length) S2=some (.bl false):=by unfold wz eN;simp only[C,bind_some];exact H
 refine⟨some (.tup (a.map .str)),some (.tup (b.map .str)),some (.loc S.length),S2,?_⟩;have Z2:=i;have U:=l g;clear i l H h C L K F B E u A;generalize D.tup ((fU a b).map .str)=u1 at *
 generalize (fI a b).map D.str=u2 at *
 generalize (fL a b).map D.str=u3 at *
 generalize D.tup (b.map .str)=bb at *
 generalize a.map D.str=al at *
 generalize KH ts=th at *
 unfold ll;simp -implicitDefEqProofs [a1,M,un,sa,Q,Z2,U,iU,WX,I,R,G,O,X,o,Z]
theorem By {F G:Ie}{g:H9 Fl}{f:D}{a b c:D}{S:Ig}{r:Out D}(i:F=aZ 3 0 g)(j:g=aX (aR G (ag (af 0) (ag (af 1) (ag (af 2) (ag (aB f) aA)))))){d:D}{e:Ig}(h:G [a,b,c,f] S=Ip d e):F [a,b,c] S=Ip d e:=by subst i j;refine aC rfl ?_;simp[h]
theorem DT (ns:List Int){m:Nat}(h1 : 1<=m)(hm:m<=6)(C:D){d1 d2:D}(A:KQ m 5 d1)(t:KQ m 5 d2){o:List Nat}(L:o.Perm (List.range m))(S:Ig)(kk:H9 Fl)
  (hk:kk=(aM (bq 6 (aR bK (ag (af 3) (ag (af 4) aA))))
  (aM (bq 7 (aR bK (ag (af 5) (ag (af 4) aA))))
  (aM (bq 8 (ml (ag (aR lu (ag (af 6) (ag (af 7) (ag (af 4) aA)))) (ag (aR lv (ag (af 6) (ag (af 7) (ag (af 4) aA)))) (ag (aR tD (ag (af 6) (ag (af 7) (ag (af 4) aA)))) aA)))))
  (aM (Ld (aT (aI K3 (cA 1 [4] (bB (af 8)) (aE 0) eW sK) (ml aA))) (aX (aB (.bl false))) b7)
  (aM (jQ (bB (aR iu (ag (af 1) aA))) (aE 9) ll)
  (aX (vz (aI JH (af 6) (aR bK (ag (af 3) (ag (af 4) aA)))) (aI JH (af 7) (aR bK (ag (af 5) (ag (af 4) aA)))))))))))) :
  ∃ K,kk [some (.lst (ns.map .int)),some (.int m),some C,some d1,some (oD o),some d2,none,none,none,none,none,none,none] S=Ip (.ret (.bl true)) K:=by
 subst hk;have nd:o.Nodup:=L.nodup_iff.mpr List.nodup_range;have MN:o.length=m:=by rw[L.length_eq,length_range]
 have M:∀ c,c<m->c∈o:=λc hc=>L.mem_iff.mpr (mem_range.mpr hc);have B:∀ c∈o,c<m:=λc hc=>mem_range.mp (L.mem_iff.mp hc);obtain⟨t1,S1,W,o1,tk1,J,Xm,N,_,_⟩:=jC nd (by omega) M (by decide) A S;obtain⟨t2,Z,U,o2,tk2,G,Xn,Q,_,_⟩:=jC nd (by omega) M (by decide) t S1;have R:=xJ A o1 N;have P:=xJ t o2 Q;obtain⟨g,S3,f3,o3,tk3,w3,Xo,Xp,b3,_⟩:=wn nd (by omega) J G R P (jE t1) (jE t2) CJ Z;obtain⟨h,V,f4,o4,tk4,Y,Xq,Xr,b4,_⟩:=wn nd (by omega) J G R P (jE t1) (jE t2) yU S3;obtain⟨f,d,f5,o5,tk5,w5,Xs,Xt,b5,_⟩:=wn nd (by omega) J G R P (jE t1) (jE t2) CI V;have f3:lu [aK t1,aK t2,oD o] Z=Ip (aK g) S3:=By rfl rfl f3 (r:=none);have f4:lv [aK t1,aK t2,oD o] S3=Ip (aK h) V:=By rfl rfl f4 (r:=none);have f5:tD [aK t1,aK t2,oD o] V=Ip (aK f) d:=By rfl rfl f5 (r:=none);have i3:=ig nd (by omega) (by rw[MN];exact B) o3 w3 (by omega) d;have i4:=ig nd (by omega) (by rw[MN];exact B) o4 Y (by omega) d;have i5:=ig nd (by omega) (by rw[MN];exact B) o5 w5 (by omega) d;have z3:Lp [aK g,aK h,aK f] (.lst [aK g,aK h,aK f])=some (.lst [aK g,aK h,aK f]):=cC (by simp);have s8:cw (.lst [aK g,aK h,aK f])=some [aK g,aK h,aK f]:=rfl
 have cf:bO (aE 0) eW sK [aK g,aK h,aK f] [none,some (oD o)] d=some ([],d):=by
  have k:OA (Ip false d)=some (false,d):=rfl;have u0:∀ (v:D) (w:Option D),aE 0 v [w,some (oD o)]=some [some v,some (oD o)]:=λ_ _=>rfl;have g3:eW [some (aK g),some (oD o)] d=Ip false d:=by generalize aK g=x at *;generalize oD o=y at *;unfold eW;simp[i3,Mc]
  have g4:eW [some (aK h),some (oD o)] d=Ip false d:=by generalize aK h=x at *;generalize oD o=y at *;unfold eW;simp[i4,Mc]
  have g5:eW [some (aK f),some (oD o)] d=Ip false d:=by generalize aK f=x at *;generalize oD o=y at *;unfold eW;simp[i5,Mc]
  simp[bO,u0,g3,g4,g5,k]
 obtain⟨H,et,Oq,_⟩:=yy h1 (by omega) d
 obtain⟨ρ',S6,el,x,y,z,e,rfl⟩:=dB (u:=aE 9) (body:=ll) (λi ρ K => ∃ x y z e,ρ=[some (.lst (ns.map .int)),some (.int m),some C,some d1,some (oD o),some d2,some (aK t1),some (aK t2),some (.lst [aK g,aK h,aK f]),e,x,y,z])
  (Lv H) 0 [some (.lst (ns.map .int)),some (.int m),some C,some d1,some (oD o),some d2,some (aK t1),some (aK t2),some (.lst [aK g,aK h,aK f]),none,none,none,none] d ⟨none,none,none,none,rfl⟩ (by
   rintro j dd ρ K hj ⟨x,y,z,e,rfl⟩;obtain⟨ts,NW,rfl⟩:=mem_map.mp (mem_of_getElem? hj);have O:=Oq ts NW;obtain⟨a,ka⟩:=A.total (tv ts);obtain⟨b,kb⟩:=t.total (tv ts);have T:=Xm (tv ts);rw[N _ _ ka] at T;have I:=Xn (tv ts);rw[Q _ _ kb] at I;have e3:=Xo (tv ts);rw[Xp _ _ _ T I] at e3;have e4:=Xq (tv ts);rw[Xr _ _ _ T I] at e4;have e5:=Xs (tv ts);rw[Xt _ _ _ T I] at e5;obtain⟨x',y',z',Vh,q⟩:=Fd (.lst (ns.map .int)) C (aK t1) (aK t2) O A t (oD o) ka kb K (λS=>tj O w3 B (by omega) e3 S) (λS=>tj O Y B (by omega) e4 S) (λS=>tj O w5 B (by omega) e5 S) x y z
   exact⟨_,rfl,_,Vh,q,x',y',z',_,rfl⟩)
 obtain⟨s,S7,f6,Z4,_,_,_,Tp,_,_⟩:=jC nd (by omega) M (by decide) A S6;obtain⟨n,S8,f7,Z5,_,_,_,Tq,_,_⟩:=jC nd (by omega) M (by decide) t S7;have q1:s=t1:=by refine canon _ (le_refl _) Z4 o1 λl=>?_;obtain⟨F,E⟩:=A.total l;rw[N l F E,Tp l F E]
 have q2:n=t2:=by refine canon _ (le_refl _) Z5 o2 λl=>?_;obtain⟨F,E⟩:=t.total l;rw[Q l F E,Tq l F E]
 subst q1 q2;have W:bK [d1,oD o] S=Ip (aK s) S1:=W;have U:bK [d2,oD o] S1=Ip (aK n) Z:=U;have f6:bK [d1,oD o] S6=Ip (aK s) S7:=f6;have f7:bK [d2,oD o] S7=Ip (aK n) S8:=f7;have X:JH (aK s) (aK s)=some (.bl true):=by rw[u8,decide_eq_true rfl]
 have eq2:JH (aK n) (aK n)=some (.bl true):=by rw[u8,decide_eq_true rfl]
 have c4:∀ p q r u:Option D,cm 1 [4] [some (.lst (ns.map .int)),some (.int m),some C,some d1,some (oD o),some d2,some (aK s),some (aK n),some (.lst [aK g,aK h,aK f]),p,q,r,u]=[none,some (oD o)]:=λ_ _ _ _=>rfl;have si:cw (.lst (Lv H))=some (Lv H):=rfl;have n0:=Z0;refine⟨S8,?_⟩;clear Xm Xn Xo Xq Xs N Q Xp Xr Xt Tp Tq R P Oq i3 i4 i5 J G w3 Y w5;generalize aK s=x1 at *
 generalize aK n=x2 at *
 generalize aK g=x3 at *
 generalize aK h=x4 at *
 generalize aK f=x5 at *
 generalize oD o=od at *
 generalize Lv H=tl at *
 generalize (D.lst (ns.map .int))=sc at *
 simp -implicitDefEqProofs [W,U,f3,f4,f5,s8,c4,cf,n0,et,si,el,f6,f7,X,eq2]
theorem EM (ns:List Int)(_:ns.length<=63):∃ f,BQ [.lst (ns.map .int)] []=some (.ok (.bl true),f):=by
 obtain⟨m,b,a,d,o,l,n,r,v,h,u,k,c⟩:=CW ns 6 (by decide) (by decide) [];rw[nil_append] at c;have c:lp [.lst (ns.map .int),.int 6] []=Ip (.tup [.int m,.tup (b.map .str),d,oD o]) [.dict a]:=c;have p:∀ S,bi [.lst (ns.map .int),.int 6] S=Ip (.int (mix ns 6)) S:=fM ns 6;have t:∀ S,bi [.lst (ns.map .int),.int 7] S=Ip (.int (mix ns 7)) S:=fM ns 7;have g:cL (.int (mix ns 6)) (.int 5)=some (.int (mix ns 6 % 5)):=bI (by decide);have w:=oE (mix ns 6) (show (0:Int)<5 by decide);obtain⟨dp,s⟩:∃ dp:Nat,1+mix ns 6 % 5=dp:=⟨(1+mix ns 6 % 5).toNat,by omega⟩;obtain⟨x,j,e⟩:=sD b r v h m (by omega) (by omega) [.dict a] 8 dp (mix ns 7) (by omega) (oF _ _);have e:=e.mono 5 (by omega);have i:kJ 4 (bf (aE 1) (bf (aE 2) (bf (aE 3) (bf (aE 4) gK)))) (.tup [.int m,.tup (b.map .str),d,oD o]) [some (.lst (ns.map .int)),none,none,none,none,none,none,none,none,none,none,none,none]=some [some (.lst (ns.map .int)),some (.int m),some (.tup (b.map .str)),some d,some (oD o),none,none,none,none,none,none,none,none]:=rfl;obtain⟨f,q⟩:=DT ns l n (.tup (b.map .str)) u e k [.dict a] _ rfl;refine⟨f,aC rfl ?_⟩;unfold DG;generalize (aM (bq 6 (aR bK _)) _:H9 Fl)=kk at q ⊢;generalize D.tup (b.map .str)=wd at *
 generalize oD o=od at *
 generalize (D.lst (ns.map .int))=sc at *
 simp -implicitDefEqProofs [c,i,p,t,g,s,j,q]
end Iu
namespace Iu
open PySem L2
theorem Z6 {K:H_}{c f:Str}{C:Addr}(n:NC K c C)(g:PySem.W.findIn K (.ref C) f=some none):ji K c f:=⟨C,n.1,n.2,g⟩
theorem all_mk {l:PySem.W.OpenLaw}{w:World}{K:H_}{h:Heap}{mg:Ic}{a:Addr}(g:mg "law"=some (.ref a))(T:Top K mg) :
  ∃ fd:FuncData,(∀ (s:Shared) (v:Value),BindsTo s fd ⟨[v],[]⟩ [("_law_script",v)])/\∀ base:Heap,K.In base->base.Ns mainGlobals mg->J9 l.prog w K mg base M_ 38 a fd ["_law_script"] (xr K 63):=by
 obtain⟨f,fd,b,d,q⟩:=T.Tf;have e:=g.symm.trans d;cases e;have ok:∀ base:Heap,Of l.prog w K mg base 38 a fd ["_law_script"] BQ:=λbase=>EX T b;obtain⟨m,i,kV,doc,k,p,j,ct,r,rfl,o,n⟩:=b.ex;exact⟨_,λs v => .of_eq rfl,λbase _ _=>EL (ok base) (by decide) λns c=>EM ns c⟩
end Iu
open PySem PySem.W PyProof.Rows
namespace PySem.W.Fast
def tw12280919521816121185:=0
def tw9826781308690622154:=0
def tw4838447817372603781:=0
def tw4220751402322032458:=0
def tw17054415741725313889:=0
def tw15346133968433998255:=0
def tw7960141569083065839:=0
def tw12383102270504099022:=0
def tw6609077686796841254:=0
def tw5158422313447720242:=0
def tw18059758031277863106:=0
def tw16004344340073373906:=0
def tw9795964060212104603:=0
def tw16064402057472555806:=0
def tw5498706141566359602:=0
def tw196708325518417126:=0
def tw8539359721499028190:=0
def tw9976911559675043455:=0
def tw4526019493149720245:=0
def tw10913403602678967662:=0
def tw3698378722181002888:=0
def tw17485377874867448750:=0
def tw3240072163389669250:=0
def tw5817749513881701116:=0
def tw853734257740705333:=0
def tw10620380793794210060:=0
def tw825280008394201762:=0
def tw10257864143046048270:=0
def tw2636890279149635936:=0
def tw2344542200615700729:=0
def tw4354806471664776597:=0
def tw12270280866028812857:=0
def tw15228642727744458705:=0
def tw16290205573335899664:=0
def tw7193272615755842463:=0
def tw6770947232061695327:=0
def tw6326712075795027590:=0
def tw15406475718782697631:=0
def tw13691134840636986144:=0
def tw7982284783760956179:=0
def tw10205042933756211010:=0
def tw12217975834092977530:=0
def tw2755528755518807391:=0
def tw16836077757762830331:=0
def tw16839940676041287402:=0
def tw12010882292096991359:=0
def tw17248795731692375579:=0
def tw14034893555527235717:=0
def tw17614685622922873104:=0
def tw9626663969030160572:=0
def tw8548598758539152608:=0
def tw10453414983921221156:=0
def tw4269046773472999083:=0
def tw13429698315757809498:=0
def tw13220787041819293509:=0
def tw13556623390949798297:=0
def tw12885591860539801235:=0
def tw8323639633790276015:=0
def tw12583513088796803436:=0
def tw2433107191360790432:=0
def tw2670142725236269836:=0
def tw306475651416270486:=0
def tw18300215893221340080:=0
def tw13649162557743769200:=0
def tw16008082309764893065:=0
def tw3910519479116411261:=0
def tw12819910360835190551:=0
def tw9581554479260776870:=0
def tw8705707862942391256:=0
def tw3298453955006788684:=0
def tw10929127391871922137:=0
def tw15690745074602564531:=0
def tw8795858025045750208:=0
def tw14118282286221821523:=0
def tw3824025763059218690:=0
def tw4363149497333708705:=0
def tw13253964903499767084:=0
def tw14895053647103430450:=0
def tw13434485463304151118:=0
def tw10576576193652671635:=0
def tw1695918146649499640:=0
def tw11337069949144810243:=0
def tw4461540153825482914:=0
def tw11116581873440854082:=0
def tw512113467107262370:=0
def tw13862459762895710012:=0
def tw6413255022335685384:=0
def tw13044871314006836398:=0
def tw3708824855037582626:=0
def tw7739893836720781752:=0
def tw2783803647745575457:=0
def tw3034659314878876983:=0
def tw6600042187880509307:=0
def tw7651764656993234043:=0
def tw5626162140632546538:=0
def tw1934993190390926238:=0
def tw4193769700272914674:=0
def tw14598799551943538162:=0
def tw693536407892011807:=0
def tw12486954989033800383:=0
def tw2294961997891545734:=0
def tw5369562305234301011:=0
def tw16926484293217294418:=0
def tw15284121400126056346:=0
def tw16313533606644663913:=0
def tw6670905405805142963:=0
def tw11908730006523080779:=0
def tw17140485810780011414:=0
def tw2814419306399320685:=0
def tw14714492424034925299:=0
def tw13837342012117708876:=0
def tw17123723163273510603:=0
def tw424460085029535870:=0
def tw3522816421212911880:=0
def tw5307491519875648953:=0
def tw11269251734554089558:=0
def tw11576537442822777171:=0
def tw13473635597077544517:=0
def tw16770570823810147633:=0
def tw1683772047199877077:=0
def tw1311254022796999091:=0
def tw598620802033234957:=0
def tw12612266676593454880:=0
def tw13297638883497970341:=0
def tw1580634889226246805:=0
def tw14981124576518329896:=0
def tw4123075464520144258:=0
def tw7473050205803793047:=0
def tw4028675385211017190:=0
def tw7109000419408058075:=0
def tw13684022605013884854:=0
def tw6746420113392868226:=0
def tw15896323137740180922:=0
def tw18088226384688848902:=0
def tw13621062103692875535:=0
def tw11865870750440499927:=0
def tw4784890555350987546:=0
def tw5994844358491768851:=0
def tw5091389254819331544:=0
def tw8941651689432113578:=0
def tw8259859550509696572:=0
def tw17904274143528506696:=0
def tw16286438112495010944:=0
def tw4804227118180636375:=0
def tw12371748137057161168:=0
def tw14337996811247681311:=0
def tw15971641073609549628:=0
def tw13611532263062971060:=0
def tw4721760095613481265:=0
def tw7334486970889526463:=0
def tw80146730771807407:=0
def tw13811814635410639978:=0
def tw3392177951761784768:=0
def tw8628914080174094765:=0
def tw6491653418089999169:=0
def tw1304962486447770297:=0
def tw13925993726306549902:=0
def tw7505899699352860031:=0
def tw1463448393154468254:=0
def tw7444753052211159492:=0
def tw10208272039409373987:=0
def tw18205372545097431417:=0
def tw13244074717057211980:=0
def tw3796940997470725110:=0
def tw6919066120367406349:=0
def tw3771096570112048843:=0
def tw16107028126938472182:=0
def tw1390152147542939681:=0
def tw9788313225525079860:=0
def tw10229257182293623193:=0
def tw15407047908340809815:=0
def tw16861162221610916160:=0
def tw16631111044471224261:=0
def tw16376432310350859012:=0
def tw4266440253433533931:=0
def tw17692674151931232355:=0
def tw2169099316131010227:=0
def tw4282351534125740119:=0
def tw5159662249132348832:=0
def tw16617410444237044417:=0
def tw2741039992998534243:=0
def tw17953898921563489928:=0
def tw5550184909665346638:=0
def tw3616637035481705796:=0
def tw2614456458269353022:=0
def tw18179576250566262492:=0
def tw6816950102672371300:=0
def tw17113454146420798866:=0
def tw2606383099400082027:=0
def tw5508586386952563649:=0
def tw17188015255573155739:=0
def tw3454461245201271991:=0
def tw9834944066428956898:=0
def tw7159816957833603674:=0
def tw1793403380287281175:=0
def tw10548446100738332817:=0
def tw8661089852147619483:=0
def tw4994853616630943509:=0
end PySem.W.Fast
set_option maxRecDepth 100000 in
set_option maxHeartbeats 0 in
theorem PySem.Challenge.cw_keyfold_k20_joined_common_less_holds : PySem.Challenge.rw_keyfold_k20_joined_common_less.Holds := by
 w_on;o_law;k_head;(case hw=>w_witness2)
 k_fill
 refine L2.OF (l:=PySem.Challenge.rw_keyfold_k20_joined_common_less) (k:=38) (x:="_law_script") rfl rfl ⟨rfl,by decide,by decide,rfl⟩ (λw h Y=>PySem.W.kIn_of Y) ?F
 case F =>
  intro w mg fa h KX G RV;refine' Iu.all_mk (h:=h) RV ?T;constructor
  all_goals first
   |exact PySem.W.mg_none_of KX G (by k_is)
   |(refine' L2.Yw KX G ?a (L2.fE ?l ?c ?k) ?b;(case a=>k_is);(case l=>k_is);(case c=>k_is);(case k=>k_is);(case b=>first |exact L2.Vi λ_ _ _ _ _ _ _=>rfl |exact L2.Rv λ_ _ _ _ _ _ _ _=>rfl |exact L2.Vj λ_ _ _ _ _ _ _ _ _=>rfl |exact L2.Vk λ_ _ _ _ _ _ _ _ _ _=>rfl))
   |(refine' L2.Yx ⟨?n,⟨?k0,?k1,?k2,?k3⟩⟩ ?a ?i (L2.fE ?l ?c ?k) ?b;(case n=>k_is);(case k0=>k_is);(case k1=>k_is);(case k2=>k_is);(case k3=>k_is);(case a=>k_is);(case i=>k_is);(case l=>k_is);(case c=>k_is);(case k=>k_is);(case b=>first |exact L2.Vi λ_ _ _ _ _ _ _=>rfl |exact L2.Rv λ_ _ _ _ _ _ _ _=>rfl |exact L2.Vj λ_ _ _ _ _ _ _ _ _=>rfl |exact L2.Vk λ_ _ _ _ _ _ _ _ _ _=>rfl))
   |(refine' L2.Yy KX G ⟨?n,⟨?k0,?k1,?k2,?k3⟩⟩ ?k4 ?k5 ?a ?i (L2.fE ?l ?c ?k) ?b;(case n=>k_is);(case k0=>k_is);(case k1=>k_is);(case k2=>k_is);(case k3=>k_is);(case k4=>k_is);(case k5=>k_is);(case a=>k_is);(case i=>k_is);(case l=>k_is);(case c=>k_is);(case k=>k_is);(case b=>first |exact L2.Vi λ_ _ _ _ _ _ _=>rfl |exact L2.Rv λ_ _ _ _ _ _ _ _=>rfl |exact L2.Vj λ_ _ _ _ _ _ _ _ _=>rfl |exact L2.Vk λ_ _ _ _ _ _ _ _ _ _=>rfl))
   |(refine' Iu.Z6 ⟨?n,⟨?k0,?k1,?k2,?k3⟩⟩ ?g;(case n=>k_is);(case k0=>k_is);(case k1=>k_is);(case k2=>k_is);(case k3=>k_is);(case g=>k_is))
