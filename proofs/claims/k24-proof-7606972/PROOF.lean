import PyProof.Rows.All
import Wide.All
import OpenK.AllK
import Wide.FinOn
import Lean
import PyProof.EqAt
import PyProof.EqKinds
import PyProof.TupleCall
import KE.KLam
import PyProof.SetRoads
import PyProof.SetNew
import PyProof.CollectIter
import PyProof.DictWalks
import PyProof.Walks
import PyProof.RulesTry
import PyProof.FactsAll.set
import PyProof.WalksMore
import PyProof.FactsAll.subtypes
import PyProof.ExcAttrAll.ValueError
import PyProof.Rows.StrJoin2
import PyProof.Rows.FStr
import PyProof.ExcBaseAll.ValueError
import PyProof.StrCalls2
import PyProof.StrBlockH
import PyProof.MeetsStr2
import PyProof.Rows.SeqMore2
import KE.KDictList
import PyProof.ZipIter
import PyProof.Draws
import PyProof.DictTruth
import PyProof.Rows.SortShellK
import PyProof.Rows.SortWalk
import PyProof.Rows.Range3
import KE.KNestM
import KE.KMinKey
import PySem.Challenge.RW_keyfold_k24_names_and_orders
open List(all_cons all_eq_true any_cons any_eq_true any_map append_nil cons_append drop_eq_nil_of_le drop_zero ext_getElem? filter_cons filter_map find?_cons flatten_cons foldl_cons forIn_cons forIn_nil getElem?_append_left getElem?_append_right getElem?_drop getElem?_eq_getElem getElem?_eq_none getElem?_map getElem?_of_mem getElem?_set_ne getElem?_set_self getElem?_take getElem_idxOf getElem_mem getElem_of_mem idxOf_append idxOf_cons idxOf_lt_length_iff length_cons length_drop length_eq_zero_iff length_map length_range length_set length_take lookup_append lookup_cons mapM_cons map_append map_congr_left map_cons map_drop map_id map_map map_nil map_take mem_append mem_append_left mem_append_right mem_cons mem_cons_of_mem mem_cons_self mem_filter mem_map mem_of_getElem? mem_of_mem_drop mem_of_mem_take mem_range mem_singleton mergeSort_perm nil_append nodup_append nodup_cons nodup_nil nodup_range of_mem_zip pairwise_append pairwise_cons pairwise_iff_getElem pairwise_map prefix_refl range' range'_succ replicate replicate_succ size_toArray take_append_drop take_of_length_le)
open Nat(add_assoc le_of_lt le_refl le_succ lt_min lt_of_lt_of_le lt_or_ge lt_succ_of_lt lt_succ_self min_le_right mul_comm ne_of_gt ne_of_lt one_le_two_pow pow_succ zero_add zero_le)
open Option(bind_eq_some_iff bind_some getD_none getD_some isSome_map map_eq_some_iff map_some)
open Bool(and_eq_true false_eq_true or_eq_true)
open Array(getElem?_toList getElem_mem_toList length_toList perm_iff_toList_perm toList_extract)
local macro_rules|`(tactic|decide)=>`(tactic|decide +kernel)
set_option Elab.async false
set_option linter.all false
set_option maxRecDepth 100000
set_option maxHeartbeats 4000000
noncomputable section
abbrev GI:=PySem.W.Frag
abbrev GJ:=PySem.Value->PySem.Shared->Prop
abbrev GK:=List (PySem.Addr×PySem.Obj)
abbrev GL:=PySem.Str->Option PySem.Value
namespace L2
open PySem PySem.Spec PyProof.Rows
noncomputable instance TK:DecidableEq PyData:=λa b=>Classical.propDecidable (a=b)
def keyOk:Nat->PyData->Bool
 |_,.int _=>true
 |_,.str x=>PyData.strOk x
 |n+1,.tuple xs=>xs.all (keyOk n)
 |_,_=>false
def Nc (w:World):Nat->PyData->Int
 |_,.int i=>hashInt i
 |_,.str x=>hashStr w x
 |n+1,.tuple xs=>reduceHash (Builtin.Tuple.tupleHashOf (xs.map (Nc w n)))
 |_,_ => 0
def xq:Nat->PyData->Nat
 |n+1,.tuple xs=>(xs.map (xq n)).sum+1
 |_,_ => 1
theorem cu {n:Nat}{a:List PyData}(h:keyOk (n+1) (.tuple a)=true):∀ x∈a,keyOk n x=true:=by rw[keyOk,all_eq_true] at h;exact h
theorem kP:∀ {n:Nat}{p:PyData},keyOk n p=true->p.canLay0=true:=by
 intro n
 induction n with
 |zero =>
  intro p h;cases p with
  |int i=>rfl
  |str x=>rw[PyData.canLay0];simpa [keyOk] using h
  |_=>simp[keyOk] at h
 |succ n b =>
  intro p h;cases p with
  |int i=>rfl
  |str x=>rw[PyData.canLay0];simpa [keyOk] using h
  |tuple a =>
   rw[PyData.canLay0];have:=cu h;clear h
   induction a with
   |nil=>rfl
   |cons x a d=>rw[PyData.canLayAll0,b (this x (by simp)),d λy c=>this y (by simp[c])];rfl
  |_=>simp[keyOk] at h
theorem tD:∀ {n:Nat}{p:PyData},keyOk n p=true->p.depth<=n:=by
 intro n
 induction n with
 |zero =>
  intro p h;cases p<;>first |(simp[keyOk] at h;done) |simp[PyData.depth]
 |succ n b =>
  intro p h;cases p with
  |tuple a =>
   rw[PyData.depth];have:=cu h;clear h;refine Nat.succ_le_succ ?_
   induction a with
   |nil=>rw[PyData.depthAll];omega
   |cons x a d=>rw[PyData.depthAll];exact Nat.max_le.mpr ⟨b (this x (by simp)),d λy c=>this y (by simp[c])⟩
  |int i=>simp[PyData.depth]
  |str i=>simp[PyData.depth]
  |_=>simp[keyOk] at h
theorem pL:∀ {n:Nat}{p q:PyData},keyOk n p=true->keyOk n q=true->PyData.eqv p q=decide (p=q):=by
 have str:∀ x y:Str,PyData.eqv (.str x) (.str y)=decide (PyData.str x = .str y):=λx y=>by
  rw[PyData.eqv];by_cases e:x=y
  ·subst e;simp
  rw[beq_eq_false_iff_ne.mpr e,decide_eq_false (λz=>e (PyData.str.inj z))]
 have int:∀ x y:Int,PyData.eqv (.int x) (.int y)=decide (PyData.int x = .int y):=λx y=>by
  rw[PyData.eqv];by_cases e:x=y
  ·subst e;simp
  rw[beq_eq_false_iff_ne.mpr e,decide_eq_false (λz=>e (PyData.int.inj z))]
 have b:∀ p q:PyData,p≠q->false=decide (p=q):=λp q h=>(decide_eq_false h).symm;intro n
 induction n with
 |zero =>
  intro p q d c;cases p<;>first |(simp[keyOk] at d;done) |skip<;>cases q<;>first |(simp[keyOk] at c;done) |exact int _ _ |exact str _ _ |exact b _ _ (λz=>nomatch z)
 |succ n o =>
  intro p q d c;cases p with
  |tuple f =>
   cases q with
   |tuple a =>
    rw[PyData.eqv];have l:=cu d;have m:=cu c;clear d c
    have k:PyData.eqvAll f a=decide (f=a):=by
     induction f generalizing a with
     |nil=>cases a<;>simp[PyData.eqvAll]
     |cons x f r =>
      cases a with
      |nil=>simp[PyData.eqvAll]
      |cons y a =>
       rw[PyData.eqvAll,o (l x (by simp)) (m y (by simp)),r a (λz g=>l z (by simp[g])) (λz g=>m z (by simp[g]))];by_cases e:x=y
       ·subst e;simp
       simp[e]
    rw[k];by_cases e:f=a
    ·subst e;simp
    rw[decide_eq_false e,decide_eq_false (λz=>e (PyData.tuple.inj z))]
   |int i=>rw[PyData.eqv];exact b _ _ (λz=>nomatch z)
   |str i=>rw[PyData.eqv];exact b _ _ (λz=>nomatch z)
   |_=>simp[keyOk] at c
  |int i =>
   cases q with
   |int j=>exact int _ _
   |str j=>rw[PyData.eqv];exact b _ _ (λz=>nomatch z)
   |tuple j=>rw[PyData.eqv];exact b _ _ (λz=>nomatch z)
   |_=>simp[keyOk] at c
  |str i =>
   cases q with
   |int j=>rw[PyData.eqv];exact b _ _ (λz=>nomatch z)
   |str j=>exact str _ _
   |tuple j=>rw[PyData.eqv];exact b _ _ (λz=>nomatch z)
   |_=>simp[keyOk] at c
  |_=>simp[keyOk] at d
theorem sD {h h':Heap}{d:Addr}{o:Obj}{es ep}(C:h.get? d=some o)(hd:o.data = .dict es ep)(B:Heap.SameBut d h h'):∀ {n:Nat}{p:PyData}{v:Value}{as:List Addr},keyOk n p=true->Reads h v p as->Reads h' v p as:=by
 intro n
 induction n with
 |zero =>
  intro p v as b r;cases r with
  |int i t=>exact .int i t
  |str x t=>exact .str x t
  |_=>simp[keyOk] at b
 |succ n k =>
  intro p v as b r;cases r with
  |int i t=>exact .int i t
  |str x t=>exact .str x t
  | @tuple a D q m j as c g e f =>
   have u:a≠d:=by rintro rfl;rw[C] at c;cases c;rw[hd] at e;exact nomatch e
   refine .tuple ((B.2 a u).trans c) g e ?_;have it:=cu b;clear b c g e;generalize q.toList=l at f
   induction j generalizing l as with
   |nil=>cases f;exact .nil
   |cons x j A =>
    cases f with
    |cons w z=>exact .cons (k (it x (by simp)) w) (A (λy s=>it y (by simp[s])) _ z)
  |_=>simp[keyOk] at b
section
variable {prog:Program}{w:World}{A:Around}{E:GJ}{s:Shared}
theorem vz:∀ {n:Nat}{p:PyData}{A:Around}{s:Shared}{v:Value}{as:List Addr}{Q:Int->Shared->Prop},keyOk n p=true->A.units+n<cLine->Reads s.heap v p as->Q (Nc w n p) { s with toks:=s.toks+xq n p } ->
  wpAny (model prog w) A (pyHash v) Q E s:=by
 intro n
 induction n with
 |zero =>
  intro p A s v as Q c B r h;cases r with
  |int i t=>exact wpAny_pyHash_int h
  |str x t=>exact wpAny_pyHash_str h
  |_=>simp[keyOk] at c
 |succ n z =>
  intro p A s v as Q c B r h;cases r with
  |int i t=>exact wpAny_pyHash_int h
  |str x t=>exact wpAny_pyHash_str h
  | @tuple a o items m l as q hc hd C =>
   have d:s.TypeIs (.ref a) "tuple":=⟨o,q,hc⟩;have it:=cu c;unfold pyHash
   first |unfold pyHashByItsType |skip
   first |refine wpAny_bind (wpAny_cRoomFor_or (.inr (by omega)) ?_) |skip
   refine wpAny_bind (wpAny_specialOf d F.slot_tuple_hash.lookup ?_);show wpAny _ _ (if (some (Value.builtin "tuple.__hash__")==some Value.none)=true then _ else _) Q E s;rw[if_neg (by rw[beq_builtin_none];exact Bool.false_ne_true)];refine wpAny_bind (wpAny_specialOf d F.slot_tuple_hash.lookup ?_);show wpAny _ _ (callSpecialIfBoundUnlessNone? (.ref a) "__hash__" _ >>= _) Q E s;refine wpAny_bind (wpAny_callSpecialIfBoundUnlessNone?_slot d F.slot_tuple_hash (wpAny_call_entry F.slot_tuple_hash d F.entry_tuple_hash ?_ (F.args_tuple_hash_1 _)));show wpAny _ _ (Builtin.Tuple.tupleItemsOf (.ref a) >>= _) _ _ s;refine wpAny_bind (wpAny_tupleItemsOf q hd ?_);refine wpAny_bind ?_;rw[← Array.forIn_toList]
   refine wpAny_forIn_list _
    (λrest (b:Array Int) f => ∃ done left bs,l=done++left/\ReadsAll s.heap rest left bs/\b.toList=done.map (Nc w n)/\f={ s with toks:=s.toks+(done.map (xq n)).sum })
    _ ?_ ?_ _ _ ⟨[],l,as,rfl,C,rfl,rfl⟩
   ·rintro x rest b f ⟨done,left,bs,rfl,e,hb,rfl⟩;cases e with
    | @cons _ _ k j D u y g =>
     refine wpAny_bind (z (A:=A.in1) (it k (by simp)) (by show A.units+1+n<cLine;omega) (s:={ s with toks:=s.toks+(done.map (xq n)).sum }) y ?_)
     first
      |exact wpAny_pure ⟨done++[k],j,u,by simp,g,by simp[hb],by simp[add_assoc]⟩
      |exact wpAny_bind (wpAny_pure (wpAny_pure ⟨done++[k],j,u,by simp,g,by simp[hb],by simp[add_assoc]⟩))
   rintro b f ⟨done,left,bs,rfl,e,hb,rfl⟩;cases e;rw[append_nil] at h;show wpAny _ _ (retInt (Builtin.Tuple.tupleHashOf b.toList)) _ _ _;rw[hb];refine wpAny_ret_mkInt ?_;show wpAny _ _ (if (decide (-(2:Int) ^ 63<=Builtin.Tuple.tupleHashOf (done.map (Nc w n)))&&decide (Builtin.Tuple.tupleHashOf (done.map (Nc w n))<2 ^ 63))=true then _ else _) Q E _;rw[Nc,xq] at h;unfold reduceHash at h;by_cases hr:(decide (-(2:Int) ^ 63<=Builtin.Tuple.tupleHashOf (done.map (Nc w n)))&&decide (Builtin.Tuple.tupleHashOf (done.map (Nc w n))<2 ^ 63))=true
   ·rw[if_pos hr];rw[if_pos hr] at h;exact wpAny_pure (by simpa [add_assoc] using h)
   rw[if_neg hr];rw[if_neg hr] at h;exact wpAny_bind (wpAny_rule (wpAny_pure (by simpa [add_assoc] using h)))
  |_=>simp[keyOk] at c
theorem sE:∀ {n:Nat}{p:PyData}{s:Shared}{v:Value}{as:List Addr}{Q:Bool->Shared->Prop},keyOk n p=true->Reads s.heap v p as->Q true s->wpAny (model prog w) A (eqIsQuiet n v) Q E s:=by
 intro n
 induction n with
 |zero =>
  intro p s v as Q b r h;cases r with
  |int i t=>unfold eqIsQuiet;exact wpAny_pure h
  |str x t=>unfold eqIsQuiet;exact wpAny_pure h
  |_=>simp[keyOk] at b
 |succ n l =>
  intro p s v as Q b r h;cases r with
  |int i t=>unfold eqIsQuiet;exact wpAny_pure h
  |str x t=>unfold eqIsQuiet;exact wpAny_pure h
  | @tuple a o items m D as f hc hd u =>
   have e:s.TypeIs (.ref a) "tuple":=⟨o,f,hc⟩;have it:=cu b;unfold eqIsQuiet;refine wpAny_bind (wpAny_specialOf e F.slot_tuple_eq.lookup ?_);show wpAny _ _ (isInstance (.ref a) (.type "tuple") >>= _) _ _ s;refine wpAny_bind (wpAny_isInstance e isSubtype_tuple_tuple ?_);simp only[Bool.not_true,false_eq_true,if_false];refine wpAny_bind (wpAny_seqItems f hd ?_);refine wpAny_bind ?_;show wpAny _ _ (forIn items _ _) _ _ s;rw[← Array.forIn_toList];refine wpAny_forIn_list _ (λrest r c=>r.1=none/\c=s/\∃ left bs,ReadsAll s.heap rest left bs/\∀ x∈left,keyOk n x=true) _ ?_ ?_ _ _ ⟨rfl,rfl,D,as,u,it⟩
   ·rintro v rest r c ⟨hr,rfl,left,bs,j,d⟩;cases j with
    | @cons _ _ k B G C g z =>
     refine wpAny_bind (l (d k (by simp)) g ?_);simp only[Bool.not_true,false_eq_true,if_false];exact wpAny_pure ⟨rfl,rfl,B,C,z,λy q=>d y (by simp[q])⟩
   rintro⟨H,I⟩ c ⟨hr,rfl,_⟩;simp only at hr;subst hr;exact wpAny_pure h
  |_=>simp[keyOk] at b
end
noncomputable def j6 (prog:Program) (w:World):HeapKind prog w PyData where
 is:=λh p a=>keyOk 8 p=true/\∃ e,Reads h (.ref a) p e
 hash:=Nc w 8
 draws:=xq 8
 room:=λA=>A.units+8<cLine
 inj:=λ⟨c,e,d⟩ ⟨_,bs,f⟩=>SeqAt.Reads.unique _ _ _ _ _ (kP c) d f
 keeps:=λ⟨c,e,d⟩ k hd j=>⟨c,e,sD k hd j c d⟩
 pyHash:=λi ⟨c,e,d⟩ h=>vz c i d h
 eqBool:=λ{A E s x y a b Q} i ⟨c,e,d⟩ ⟨g,bs,f⟩ h=>SeqAt.eqBoolOverData prog w A E s _ _ _ _ _ _ Q d f (kP c) (kP g) (by have:=tD c;omega) (by rw[pL c g];exact h)
 quiet:=λ⟨c,e,d⟩ h=>sE c d h
abbrev Key:=Sum Int Str
def pM:Key->Value->Bool
 | .inl k,v=>Value.isInt k v
 | .inr x,v=>Value.isStrOf x v
def FG (w:World):Key->Int
 | .inl k=>hashInt k
 | .inr x=>hashStr w x
theorem bD:∀ {k:Key}{v:Value},pM k v=true->(∃ i t,k=Sum.inl i/\v=Value.int i t)∨(∃ x t,k=Sum.inr x/\v=Value.str x t)
 | .inl i,v,h=>by
  obtain⟨t,e⟩:=Value.isInt_shape (k:=i) (v:=v) h;exact .inl ⟨i,t,rfl,e⟩
 | .inr x,v,h=>by
  obtain⟨t,e⟩:=Value.isStrOf_shape (x:=x) (v:=v) h;exact .inr ⟨x,t,rfl,e⟩
theorem xW (i:Int)(t:Tok):pM (.inl i) (.int i t)=true:=by simp[pM,Value.isInt]
theorem xV (x:Str)(t:Tok):pM (.inr x) (.str x t)=true:=by simp[pM,Value.isStrOf]
theorem Dr (a b:Int):decide ((Sum.inl a:Key)=Sum.inl b)=(a==b):=by
 by_cases e:a=b
 ·subst e;simp
 have h:¬ (Sum.inl a:Key)=Sum.inl b:=λq=>e (Sum.inl.inj q);rw[decide_eq_false h];exact(beq_eq_false_iff_ne.mpr e).symm
theorem Do (a b:Str):decide ((Sum.inr a:Key)=Sum.inr b)=decide (a=b):=by
 by_cases e:a=b
 ·subst e;simp
 have h:¬ (Sum.inr a:Key)=Sum.inr b:=λq=>e (Sum.inr.inj q);rw[decide_eq_false h,decide_eq_false e]
theorem Dq (a:Int)(b:Str):decide ((Sum.inl a:Key)=Sum.inr b)=false:=decide_eq_false (λq=>nomatch q)
theorem Dp (a:Str)(b:Int):decide ((Sum.inr a:Key)=Sum.inl b)=false:=decide_eq_false (λq=>nomatch q)
def bL (prog:Program)(w:World):PySem.KeyKind prog w Key where
 is:=pM
 hash:=FG w
 inj:=λv a b g hb=>by
  rcases bD g with ⟨i,t,rfl,rfl⟩ |⟨x,t,rfl,rfl⟩
  ·rcases bD hb with ⟨j,u,rfl,e⟩ |⟨y,u,rfl,e⟩
   ·injection e with c _;rw[c]
   exact nomatch e
  rcases bD hb with ⟨j,u,rfl,e⟩ |⟨y,u,rfl,e⟩
  ·exact nomatch e
  injection e with c _;rw[c]
 byValue:=λk v h=>by
  rcases bD h with ⟨i,t,rfl,rfl⟩ |⟨x,t,rfl,rfl⟩<;>rfl
 pyHash:=λd h=>by
  rcases bD d with ⟨i,t,rfl,rfl⟩ |⟨x,t,rfl,rfl⟩
  ·exact wpAny_pyHash_int h
  exact wpAny_pyHash_str h
 eqBool:=λf d h=>by
  rcases bD f with ⟨i,t,rfl,rfl⟩ |⟨x,t,rfl,rfl⟩
  ·rcases bD d with ⟨j,u,rfl,rfl⟩ |⟨y,u,rfl,rfl⟩
   ·rw[Dr] at h;exact wpAny_eqBool_int h
   rw[Dq] at h;exact SeqAt.EqAt.int_str i t y u _ _ _ _ h
  rcases bD d with ⟨j,u,rfl,rfl⟩ |⟨y,u,rfl,rfl⟩
  ·rw[Dp] at h;exact SeqAt.EqAt.str_int x t j u _ _ _ _ h
  rw[Do] at h;exact wpAny_eqBool_str h
 «strs»:=λk x t v h=>by
  rcases bD h with ⟨i,u,rfl,e⟩ |⟨y,u,rfl,e⟩
  ·exact nomatch e
  injection e with c _
  subst c;cases v<;>rfl
theorem sW (prog:Program)(w:World)(i:Int)(t:Tok):(bL prog w).is (.inl i) (.int i t)=true:=xW i t
theorem sV (prog:Program)(w:World)(x:Str)(t:Tok):(bL prog w).is (.inr x) (.str x t)=true:=xV x t
inductive V where
 |Hu |bl (b:Bool) |int (i:Int) |str (x:Str) |QP (b:Array UInt8) |O1 (b:UInt64) |ref (a:Addr) |ty (n:String)
 deriving DecidableEq
def RelV:V->Value->Prop
 | .Hu,u=>u=Value.none
 | .bl b,u=>u=Value.bool b
 | .int i,u => ∃ t,u=Value.int i t
 | .str x,u => ∃ t,u=Value.str x t
 | .QP b,u => ∃ t,u=Value.bytes b t
 | .O1 b,u => ∃ t,u=Value.float b t
 | .ref a,u=>u=Value.ref a
 | .ty n,u=>u=Value.type n
abbrev Vals:List V->List Value->Prop:=Paired RelV
theorem Vals.length {a:List V}{us:List Value}(r:Vals a us):a.length=us.length:=Paired.length r
theorem Vals.get:∀ {a:List V}{us:List Value}{i:Nat}{x:V},Vals a us->a[i]?=some x->∃ u,us[i]?=some u/\RelV x u
 |_,_,_,_,.nil,e=>by simp at e
 |_,_,0,_,.cons r _,e=>by simp at e;subst e;exact⟨_,rfl,r⟩
 |_,_,i+1,x,.cons _ t,e=>by
  obtain⟨u,b,c⟩:=Vals.get (i:=i) (x:=x) t (by simpa using e);exact⟨u,by simpa using b,c⟩
theorem Vals.append:∀ {b ys:List V}{us a:List Value},Vals b us->Vals ys a->Vals (b++ys) (us++a)
 |_,_,_,_,.nil,s=>s
 |_,_,_,_,.cons r t,s => .cons r (Vals.append t s)
theorem Vals.take:∀ {a:List V}{us:List Value}(n:Nat),Vals a us->Vals (a.take n) (us.take n)
 |_,_,0,_ => .nil
 |_,_,_+1,.nil => .nil
 |_,_,n+1,.cons r t => .cons r (Vals.take n t)
theorem Vals.drop:∀ {a:List V}{us:List Value}(n:Nat),Vals a us->Vals (a.drop n) (us.drop n)
 |_,_,0,r=>r
 |_,_,_+1,.nil => .nil
 |_,_,n+1,.cons _ t=>Vals.drop n t
def Im:Option V->Option Value->Prop
 |some v,some u=>RelV v u
 |none,none=>True
 |_,_=>False
def KV {a:Type}:List (a×V)->List (a×Value)->Prop:=Paired λ(p : a×V) (q : a×Value)=>p.1=q.1/\RelV p.2 q.2
def kV:Key->V
 | .inl i => .int i
 | .inr x => .str x
inductive HO where
 |lst (xs:List V)
 |tup (xs:List V)
 |dK (kvs:List (Key×V)) |dT (kvs:List (List Key×V)) |dN (kvs:List (PyData×Addr×V))
 |set (S:Int->Bool) (n:Nat)
 |ins (C dx:Addr) (fs:List (Str×V))
 |own (x:Addr)
 |xd (fs:List (Str×V))
 |met (f x:Addr)
 |NF (lo hi:Int)
 |LC (o:Obj) (u:HO)
 |JU (ps:Array Value)
 |ext (φ:Heap->Prop)
abbrev Hp:=Addr->Option HO
noncomputable def upd (H:Hp) (a:Addr) (o:HO):Hp:=λb=>if b=a then some o else H b
theorem GV {H:Hp}{a:Addr}{o:HO}:upd H a o a=some o:=by unfold upd;rw[if_pos rfl]
theorem aA {H:Hp}{a b:Addr}{o:HO}(h:b≠a):upd H a o b=H b:=by unfold upd;rw[if_neg h]
theorem Es {H:Hp}{a b:Addr}{o u:HO}(h:H a=some o)(h':H b=some u)(d:o≠u):a≠b:=by intro e;subst e;rw[h] at h';exact d (Option.some.inj h')
theorem aN {H:Hp}{a b:Addr}{o:HO}(h:H a=some o)(h':H b=none):a≠b:=by intro e;subst e;rw[h] at h';cases h'
def JV (h:Heap)(a:Addr)(its:Array Value):Prop:=∃ n,h.get? a=some { cls:=.type "tuple",data:=.seq its n }
theorem JV.tup {h:Heap}{a:Addr}{its:Array Value}(x:JV h a its):IsTup h a its:=let ⟨n,e⟩:=x;⟨_,e,rfl,n,rfl⟩
theorem JV.new (h:Heap)(its:Array Value):JV (h.push { cls:=.type "tuple",data:=.seq its }) h.objs.size its:=⟨_,Heap.get?_push_size _ rfl⟩
section
variable (P:Program) (w:World)
def Hm (H:Hp)(h:Heap)(a:Addr):HO->Prop
 | .lst c=>c.length<=sizeLine/\∃ (its:List Value) (n:Nat),Vals c its/\h.get? a=some { cls:=.type "list",data:=.seq its.toArray n }
 | .tup c=>c.length<=sizeLine/\∃ its:List Value,Vals c its/\JV h a its.toArray
 | .dK b=>b.length<=sizeLine/\(a==sysModules)=false/\∃ k,KV b k/\h.DictOf (bL P w) a k
 | .dT b=>b.length<=sizeLine/\(a==sysModules)=false/\∃ c:List (List Key×Addr×Value),
   Paired (λ(p:List Key×V) (q:List Key×Addr×Value)=>p.1=q.1/\H q.2.1=some (.tup (p.1.map kV))/\RelV p.2 q.2.2) b c /\
   ∃ o es ep,h.get? a=some o/\o.ExactDict/\o.data = .dict es ep/\es.toList=c.map (entryOfKey (tupleKind (bL P w)))/\(c.map (·.1)).Nodup
 | .dN b=>b.length<=sizeLine/\(a==sysModules)=false/\∃ c:List (PyData×Addr×Value),Paired (λp q=>p.1=q.1/\p.2.1=q.2.1/\RelV p.2.2 q.2.2) b c /\
   ∃ o es ep,h.get? a=some o/\o.ExactDict/\o.data = .dict es ep/\es.toList=c.map (entryOfKey (j6 P w))/\(c.map (·.1)).Nodup
 | .set S n=>h.SetOf (intKind P w) a S n
 | .ins C e fs=>H e=some (.own a)/\fs.length<=1000/\e≠a/\h.get? a=some (PySem.W.instObj C e) /\
   ∃ d,h.Ns1 e d/\(∀ f,Im (fs.lookup f) (d f))/\PySem.Within d (fs.map (·.1))
 | .own _ => ∃ o,h.get? a=some o
 | .xd fs => ∃ d,h.Ns1 a d/\∀ f,Im (fs.lookup f) (d f)
 | .NF lo m => ∃ t u v,h.get? a=some { cls:=.type "range",data:=.fields #[.int lo t,.int m u,.int 1 v] }
 | .LC o u=>h.get? a=some o/\Hm H h a u
 | .JU l=>h.get? a=some { cls:=.none,data:=.fields l }
 | .met f x=>h.get? a=some (PySem.W.methodObj (.ref f) (.ref x))
 | .ext g => g h/\(∃ o,h.get? a=some o)/\∀ i j:Heap,g i->(∀ o,i.get? a=some o->j.get? a=some o)->g j
def Iq (H:Hp)(h:Heap):Prop:=∀ a o,H a=some o->Hm P w H h a o
end
section
variable {P:Program}{w:World}{H H':Hp}{h h':Heap}{a:Addr}{o:HO}
theorem Hm.lt (x:Hm P w H h a o):a<h.objs.size:=by
 cases o with
 |lst c=>obtain⟨_,_,_,_,e⟩:=x;exact Heap.lt_size e
 |tup c=>obtain⟨_,_,_,_,e⟩:=x;exact Heap.lt_size e
 |dK b=>obtain⟨_,_,_,_,o,_,_,e,_⟩:=x;exact Heap.lt_size e
 |dT b=>obtain⟨_,_,_,_,o,_,_,e,_⟩:=x;exact Heap.lt_size e
 |dN b=>obtain⟨_,_,_,_,o,_,_,e,_⟩:=x;exact Heap.lt_size e
 |set S n=>obtain⟨o,_,_,_,e,_⟩:=x;exact Heap.lt_size e
 |ins C k fs=>obtain⟨_,_,_,e,_⟩:=x;exact Heap.lt_size e
 |own y=>obtain⟨_,e⟩:=x;exact Heap.lt_size e
 |xd fs=>obtain⟨_,⟨_,_,_,e,_⟩,_⟩:=x;exact Heap.lt_size e
 |NF lo j=>obtain⟨_,_,_,e⟩:=x;exact Heap.lt_size e
 |LC d u=>obtain⟨e,_⟩:=x;exact Heap.lt_size e
 |JU g=>exact Heap.lt_size (show h.get? a=some _ from x)
 |met f y=>exact Heap.lt_size (show h.get? a=some _ from x)
 |ext i=>obtain⟨_,⟨_,e⟩,_⟩:=x;exact Heap.lt_size e
theorem Paired.JJ {α c:Type}{F G : α->c->Prop}:∀ {l₁:List α}{l₂:List c},Paired F l₁ l₂->(∀ a b,F a b->G a b)->Paired G l₁ l₂
 |_,_,.nil,_ => .nil
 |_,_,.cons r t,f => .cons (f _ _ r) (Paired.JJ t f)
theorem Hm.Ir (x:Hm P w H h a o)(k:∀ b u,(b=a∨H b=some (.own a))->h.get? b=some u->h'.get? b=some u)
  (F:∀ b,H b=some (.own a)->H' b=some (.own a)) (A:∀ b i,H b=some (.tup i)->H' b=some (.tup i)):Hm P w H' h' a o:=by
 induction o with
 |lst i=>obtain⟨z,its,n,r,e⟩:=x;exact⟨z,its,n,r,k _ _ (.inl rfl) e⟩
 |tup i=>obtain⟨z,its,r,n,e⟩:=x;exact⟨z,its,r,n,k _ _ (.inl rfl) e⟩
 |dK j=>obtain⟨z,y,D,r,g,es,ep,e,c⟩:=x;exact⟨z,y,D,r,g,es,ep,k _ _ (.inl rfl) e,c⟩
 |dT j =>
  obtain⟨z,y,i,r,g,es,ep,e,c⟩:=x;exact⟨z,y,i,Paired.JJ r λp q z=>⟨z.1,A _ _ z.2.1,z.2.2⟩,g,es,ep,k _ _ (.inl rfl) e,c⟩
 |dN j=>obtain⟨z,y,i,r,g,es,ep,e,c⟩:=x;exact⟨z,y,i,r,g,es,ep,k _ _ (.inl rfl) e,c⟩
 |set S n=>obtain⟨g,es,ep,t,e,c⟩:=x;exact⟨g,es,ep,t,k _ _ (.inl rfl) e,c⟩
 |ins C J fs =>
  obtain⟨d,z,ne,e,l,⟨m,es,ep,E,c⟩,r⟩:=x;exact⟨F _ d,z,ne,k _ _ (.inl rfl) e,l,⟨m,es,ep,k _ _ (.inr d) E,c⟩,r⟩
 |own y=>obtain⟨g,e⟩:=x;exact⟨g,k _ _ (.inl rfl) e⟩
 |xd fs=>obtain⟨l,⟨m,es,ep,e,c⟩,r⟩:=x;exact⟨l,⟨m,es,ep,k _ _ (.inl rfl) e,c⟩,r⟩
 |NF lo I=>obtain⟨t,u,v,e⟩:=x;exact⟨t,u,v,k _ _ (.inl rfl) e⟩
 |LC g u B=>obtain⟨e,q⟩:=x;exact⟨k _ _ (.inl rfl) e,B q⟩
 |JU s =>
  have e:h.get? a=some { cls:=.none,data:=.fields s }:=x;show h'.get? a=some { cls:=.none,data:=.fields s };exact k a _ (.inl rfl) e
 |met f y =>
  have e:h.get? a=some (PySem.W.methodObj (.ref f) (.ref y)):=x;show h'.get? a=some (PySem.W.methodObj (.ref f) (.ref y));exact k a _ (.inl rfl) e
 |ext G=>obtain⟨p,⟨o,e⟩,st⟩:=x;exact⟨st _ _ p λo q=>k _ _ (.inl rfl) q,⟨o,k _ _ (.inl rfl) e⟩,st⟩
theorem Iq.lt (x:Iq P w H h)(e:H a=some o):a<h.objs.size:=(x a o e).lt
theorem Iq.fresh (x:Iq P w H h)(e:h.objs.size<=a):H a=none:=by
 cases q:H a with
 |none=>rfl
 |some u=>exact absurd (lt_of_lt_of_le (x.lt q) e) (Nat.lt_irrefl _)
theorem Iq.kept (x:Iq P w H h)(k:∀ b u,h.get? b=some u->h'.get? b=some u):Iq P w H h':=λa o e =>
 (x a o e).Ir (λb u _ q=>k b u q) (λ_ q=>q) λ_ _ q=>q
theorem Iq.laid (x:Iq P w H h)(k:∀ b u,h.get? b=some u->h'.get? b=some u)(f:h.objs.size<=a)(new:Hm P w (upd H a o) h' a o):Iq P w (upd H a o) h':=λb u e=>by
 have d:=x.fresh f;by_cases hb:b=a
 ·subst hb;rw[GV] at e;cases e;exact new
 rw[aA hb] at e;exact(x b u e).Ir (λc v _ q=>k c v q) (λc q=>by rw[aA (aN q d)];exact q) λc g q=>by rw[aA (aN q d)];exact q
end
def Rd (H:Hp)(a:Addr)(u:HO):Prop:=H a=some u∨∃ o,H a=some (.LC o u)
theorem Rd.ok {P:Program}{w:World}{H:Hp}{h:Heap}{a:Addr}{u:HO}(r:Rd H a u)(x:Iq P w H h):Hm P w H h a u:=by
 rcases r with r |⟨o,r⟩
 ·exact x a u r
 obtain⟨_,q⟩:=x a _ r;exact q
def Pq:Option HO->Prop
 |some (.lst _)=>True
 |some (.dK _)=>True
 |some (.dT _)=>True
 |some (.dN _)=>True
 |some (.set _ _)=>True
 |some (.ins _ _ _)=>True
 |some (.ext _)=>True
 |_=>False
section
variable {P:Program}{w:World}{H:Hp}{h h':Heap}{x e:Addr}{o':HO}
theorem Iq.write (ok:Iq P w H h)(d:Pq (H x))(i:e=x∨H e=some (.own x))(k:∀ b u,b≠e->h.get? b=some u->h'.get? b=some u)(n:∃ u,h'.get? e=some u)
  (new:Hm P w (upd H x o') h' x o'):Iq P w (upd H x o') h':=λb u q=>by
 have g:∀ c y,H c=some (.own y)->c≠x:=λc y r z=>by subst z;rw[r] at d;exact d
 have m:∀ c f,H c=some (.tup f)->c≠x:=λc f r z=>by subst z;rw[r] at d;exact d
 by_cases hb:b=x
 ·subst hb;rw[GV] at q;cases q;exact new
 rw[aA hb] at q;by_cases a:b=e
 ·have j:H b=some (.own x):=by
   rcases i with z |z
   ·exact absurd (a.trans z) hb
   rw[a];exact z
  rw[q] at j;cases j;obtain⟨v,l⟩:=n;exact⟨v,by rw[a];exact l⟩
 refine(ok b u q).Ir (λc v hc r=>k c v ?_ r) (λc r=>by rw[aA (g c b r)];exact r) λc f r=>by rw[aA (m c f r)];exact r
 rcases hc with rfl |hc
 ·exact a
 rintro rfl;rcases i with z |z
 ·exact g c b hc z
 rw[hc] at z;cases z;exact hb rfl
end
structure Un (fs ex:List Addr) (H H':Hp) (h h':Heap):Prop where
 keep:∀ b o,h.get? b=some o->H b=none->b∉fs->b∉ex->h'.get? b=some o
 slot:∀ b o,h.get? b=some o->H b=none->b∈fs->b∉ex->∃ sl,h'.get? b=some { o with slots:=sl }
 free:∀ b o,h.get? b=some o->H b=none->b∉ex->H' b=none
 there:∀ b o,h.get? b=some o->b∉ex->∃ o',h'.get? b=some o'
 JW:∀ b xs,H b=some (.tup xs)->H' b=some (.tup xs)
 JK:∀ b o u,H b=some (.LC o u)->H' b=some (.LC o u)
 JL:∀ b ps,H b=some (.JU ps)->∃ more,H' b=some (.JU (ps++more))
section
variable {fs TL ex XG:List Addr}{H H1 H2:Hp}{h h1 h2 h':Heap}{a x e:Addr}{o:HO}
theorem Un.any (u:Un fs ex H H1 h h1){b:Addr}{a:Obj}(q:h.get? b=some a)(n:H b=none)(c:b∉ex):∃ d,h1.get? b=some { a with slots:=d }:=by
 by_cases hb:b∈fs
 ·exact u.slot b a q n hb c
 exact⟨a.slots,u.keep b a q n hb c⟩
theorem Un.kept (k:∀ b u,h.get? b=some u->h'.get? b=some u):Un fs ex H H h h':=
 ⟨λb a q _ _ _=>k b a q,λb a q _ _ _=>⟨a.slots,k b a q⟩,λ_ _ _ n _=>n,λb a q _=>⟨a,k b a q⟩,λ_ _ q=>q,λ_ _ _ q=>q,λ_ c q=>⟨#[],by rw[q];simp⟩⟩
theorem Un.refl:Un fs ex H H h h:=Un.kept λ_ _ q=>q
theorem Un.laid (k:∀ b u,h.get? b=some u->h'.get? b=some u)(e:h.objs.size<=a)(c:H a=none):Un fs ex H (upd H a o) h h' where
 keep:=λb u q _ _ _=>k b u q
 slot:=λb u q _ _ _=>⟨u.slots,k b u q⟩
 free:=λb u q n _=>by rw[aA (ne_of_lt (lt_of_lt_of_le (Heap.lt_size q) e))];exact n
 there:=λb u q _=>⟨u,k b u q⟩
 JW:=λb d q=>by rw[aA (aN q c)];exact q
 JK:=λb u d q=>by rw[aA (aN q c)];exact q
 JL:=λb f q=>⟨#[],by rw[aA (aN q c),q];simp⟩
theorem Un.write (a:Pq (H x))(j:e=x∨H e=some (.own x))(k:∀ b u,b≠e->h.get? b=some u->h'.get? b=some u)(i:∃ u,h'.get? e=some u):Un fs ex H (upd H x o) h h':=by
 have d:∀ b,H b=none->b≠x:=λb n z=>by subst z;rw[n] at a;exact a
 have hb:∀ b,H b=none->b≠e:=λb n z=>by
  subst z;rcases j with r |r
  ·exact d b n r
  rw[n] at r;cases r
 have c:∀ b u,H b=some u->¬ Pq (some u)->b≠x:=λb u q l z=>by subst z;rw[q] at a;exact l a
 refine⟨λb u q n _ _=>k b u (hb b n) q,λb u q n _ _=>⟨u.slots,k b u (hb b n) q⟩,λb u q n _=>by rw[aA (d b n)];exact n,λb u q _=>?_,
  λb g q=>by rw[aA (c b _ q λz=>z)];exact q,λb u g q=>by rw[aA (c b _ q λz=>z)];exact q,λb m q=>⟨#[],by rw[aA (c b _ q λz=>z),q];simp⟩⟩
 by_cases f:b=e
 ·subst f;exact i
 exact⟨u,k b u f q⟩
end
def QQ (h:Heap)(H:Hp):List Addr:=(List.range h.objs.size).filter λa=>(H a).isSome
def qZ (h:Heap)(H:Hp):Heap:=PySem.W.hideAll h (QQ h H)
theorem xZ (h:Heap)(H:Hp):(qZ h H).objs.size=h.objs.size:=PySem.W.hideAll_size _ _
theorem nQ {h:Heap}{H:Hp}{b:Addr}{o:Obj}(e:h.get? b=some o)(n:H b=none):(qZ h H).get? b=some o:=
 PySem.W.hideAll_get _ e λa=>by
  have q:(H b).isSome=true:=(mem_filter.mp a).2;rw[n] at q;simp at q
theorem Bi {h:Heap}{H:Hp}{b:Addr}{o:Obj}(e:(qZ h H).get? b=some o):h.get? b=some o/\H b=none:=by
 have a:h.get? b=some o:=PySem.W.of_hideAll (QQ h H) e;refine⟨a,?_⟩;cases q:H b with
 |none=>rfl
 |some x =>
  have c:b∈QQ h H:=mem_filter.mpr ⟨mem_range.mpr (Heap.lt_size a),by simp[q]⟩;have z:(qZ h H).get? b=none:=PySem.W.hideAll_none (QQ h H) c;rw[z] at e;cases e
def BZ (g h:Heap)(L:Addr):GK:=(List.range h.objs.size).filterMap λa=>if a=L∨(g.get? a).isSome=true then none else (h.get? a).map λo=>(a,o)
def rest (g h:Heap)(L d:Addr):GK:=(BZ g h L).filter λp=>decide (p.1≠d)
structure Mod (K:GI) (mg:GL) (base:Heap):Prop where
 LW:K.In base
 glob:base.Ns mainGlobals mg
 blt:∃ mb,base.Ns builtinsNs mb/\∀ x:Str,x≠"__name__"->mb x=bootBuiltins x
 nolimit:base.NoLimit
structure Cx where
 prog:Program
 w:World
 K:GI
 mg:GL
 base:Heap
 A:Around
 N:List Str
 s₀:Shared
 H₀:Hp
 env:Env
 outer:List Env
 stack:List Env
 ex:List Addr
 fn:Str->Bool
 calm:Bool
 pn:GK
 xe:GJ
def Lk (l:List Env):List Addr:=l.filterMap (·.frame)
abbrev Cx.fs (X:Cx):List Addr:=Lk X.outer
def QR (sc:Scope)(x:Str):Prop:=sc.names.lookup x=some .local∨sc.names.lookup x=some .cell∨sc.names.lookup x=some .free
def Loc (sc:Scope)(x:Str):Prop:=sc.names.lookup x=some .local∨sc.names.lookup x=some .cell
def Look (env:Env)(h:Heap)(m:GL)(x:Str)(u:Value):Prop:=
 (env.kindOf x=some .local/\m x=some u)∨((env.kindOf x=some .cell∨env.kindOf x=some .free)/\∃ c,env.cells.lookup x=some c/\h.IsCell c (some u))
structure Cx.Ok (X:Cx):Prop where
 mod:Mod X.K X.mg X.base
 kind:X.env.scope.kind = .function
 glob:X.env.globals=mainGlobals
 blt:X.env.builtins=builtinsNs
 above:X.s₀.heap.objs.size<=X.env.locals
 inj:∀ x y c,X.env.cells.lookup x=some c->X.env.cells.lookup y=some c->x=y
 has:∀ x,(X.env.kindOf x=some .cell∨X.env.kindOf x=some .free)->∃ c,X.env.cells.lookup x=some c
 O3:∀ x c,X.fn x=true->X.env.cells.lookup x=some c->X.s₀.heap.objs.size<=c
 hd:X.calm=true->X.A.handled=none
 frames:X.A.frames=some X.stack
 QS:X.stack=X.outer∨(X.stack=X.env::X.outer/\X.env.frame=some X.env.locals)
 TM:∀ b∈X.ex,b≠X.env.locals/\∀ x c,X.env.cells.lookup x=some c->c≠b
 bs:∀ b o,X.base.get? b=some o->X.s₀.heap.get? b=some o/\X.H₀ b=none
 Mp:X.base.objs.size<=X.s₀.heap.objs.size
 Mq:∀ b o,X.base.get? b=some o->b∉X.ex
 Nd:∀ b∈X.ex,b∉X.fs
 Jo:X.s₀.heap.FunFrames X.base X.outer
 N3:∀ b∈X.fs,X.H₀ b=none
structure Inv (X:Cx) (pins:GK) (σ:List (Option V)) (H:Hp) (s:Shared):Prop where
 ok:X.Ok
 os:s.os=X.s₀.os
 bare:AllBare s.gens
 base:Un X.fs X.ex X.H₀ H X.s₀.heap s.heap
 loc:∃ m,s.heap.Ns X.env.locals m/\∀ (i:Nat) (x:Str) (v:V),X.N[i]?=some x->σ[i]?=some (some v)->QR X.env.scope x->∃ u,RelV v u/\Look X.env s.heap m x u
 cell:∀ x c,X.env.cells.lookup x=some c->∃ v,s.heap.IsCell c v
 free:H X.env.locals=none
 Ih:∀ x c,X.env.cells.lookup x=some c->H c=none
 pin:∀ p∈X.pn++pins,s.heap.get? p.1=some p.2/\H p.1=none/\p.1≠X.env.locals/\p.1∉X.fs/\∀ v,p.2.data≠.cell v
 Ha:Iq X.prog X.w H s.heap
 len : σ.length=X.N.length
section
variable {X:Cx}{pins:GK}{σ:List (Option V)}{H H':Hp}{s:Shared}{h':Heap}
theorem Cx.Ok.Ru (ok:X.Ok){b:Addr}{o:Obj}(e:X.base.get? b=some o):b∉X.fs:=λhb=>by have:=(ok.Jo.mem hb).1;rw[e] at this;cases this
theorem Inv.bs (I:Inv X pins σ H s):∀ b o,X.base.get? b=some o->s.heap.get? b=some o/\H b=none:=λb o e =>
 ⟨I.base.keep b o (I.ok.bs b o e).1 (I.ok.bs b o e).2 (I.ok.Ru e) (I.ok.Mq b o e),I.base.free b o (I.ok.bs b o e).1 (I.ok.bs b o e).2 (I.ok.Mq b o e)⟩
theorem Inv.bk (I:Inv X pins σ H s):∀ b o,X.base.get? b=some o->s.heap.get? b=some o:=λb o e=>(I.bs b o e).1
theorem Inv.mod (I:Inv X pins σ H s):Mod X.K X.mg X.base:=I.ok.mod
theorem Inv.Kj (I:Inv X pins σ H s):X.K.In s.heap:=I.ok.mod.LW.keeps I.bk
theorem Inv.nolimit (I:Inv X pins σ H s):s.heap.NoLimit:=I.ok.mod.nolimit.keeps I.bk
theorem Inv.lt (I:Inv X pins σ H s):X.env.locals<s.heap.objs.size:=let ⟨_,a,_⟩:=I.loc;a.lt
theorem Inv.sz (I:Inv X pins σ H s):X.s₀.heap.objs.size<=s.heap.objs.size:=Nat.le_trans I.ok.above (le_of_lt I.lt)
theorem Inv.Rv (I:Inv X pins σ H s){a:Addr}(h:s.heap.objs.size<=a):a∉X.fs:=λhb=>by obtain⟨_,o,b,_⟩:=I.ok.Jo.mem hb;exact absurd (lt_of_lt_of_le (Heap.lt_size b) (Nat.le_trans I.sz h)) (Nat.lt_irrefl _)
theorem Inv.NG (I:Inv X pins σ H s):∀ x c,X.env.cells.lookup x=some c->c≠X.env.locals:=λx c e z=>by obtain⟨v,o,a,hd⟩:=I.cell x c e;obtain⟨m,⟨f,es,ep,b,d,_⟩,_⟩:=I.loc;rw[z,b] at a;cases a;rw[d] at hd;cases hd
theorem Inv.Jo (I:Inv X pins σ H s):s.heap.FunFrames X.base X.outer:=by
 have all:∀ (l:List Env),(∀ b∈Lk l,b∈X.fs)->X.s₀.heap.FunFrames X.base l->s.heap.FunFrames X.base l:=by
  intro l
  induction l with
  |nil=>intro _ _;trivial
  |cons env r g =>
   intro d f;obtain⟨h,⟨L,o,a,i,j,hd⟩,hr⟩:=f;have c:L∈X.fs:=d L (by unfold Lk;rw[List.filterMap_cons,a];exact mem_cons_self);obtain⟨k,e⟩:=I.base.slot L o j (I.ok.N3 L c) c λz=>I.ok.Nd L z c;exact⟨h,⟨L,_,a,i,e,hd⟩,g (λb hb=>d b (by unfold Lk;rw[List.filterMap_cons,a];exact mem_cons_of_mem _ hb)) hr⟩
 exact all X.outer (λ_ hb=>hb) I.ok.Jo
theorem Inv.stack (I:Inv X pins σ H s):s.heap.FunFrames X.base X.stack:=by
 rcases I.ok.QS with e |⟨e,b⟩
 ·rw[e];exact I.Jo
 rw[e];obtain⟨m,a,_⟩:=I.loc;refine .cons (by rw[I.ok.kind];decide) b a ?_ I.Jo;exact Heap.get?_none_of_le (Nat.le_trans I.ok.Mp I.ok.above)
theorem Inv.JX (I:Inv X pins σ H s):∀ b∈Lk X.stack,b∈X.env.locals::X.fs:=λb hb=>by
 rcases I.ok.QS with e |⟨e,a⟩
 ·rw[e] at hb;exact mem_cons_of_mem _ hb
 rw[e] at hb;unfold Lk at hb;rw[List.filterMap_cons,a] at hb;exact hb
theorem Inv.IX (I:Inv X pins σ H s):∀ b∈Lk X.stack,H b=none:=λb hb=>by
 rcases mem_cons.mp (I.JX b hb) with e |hb
 ·rw[e];exact I.free
 obtain⟨_,o,a,_⟩:=I.ok.Jo.mem hb;exact I.base.free b o a (I.ok.N3 b hb) λz=>I.ok.Nd b z hb
theorem Inv.step {g':Array GenState}{t':Nat}{d':Drawn}{ch:List Addr}(I:Inv X pins σ H s)
  (B:∀ b∈ch,(b∈X.ex∨X.s₀.heap.objs.size<=b)/\b≠X.env.locals/\(∀ x c,X.env.cells.lookup x=some c->c≠b)/\∀ p∈X.pn++pins,p.1≠b)
  (keep:∀ b o,b≠X.env.locals->b∉X.fs->b∉ch->s.heap.get? b=some o->H b=none->h'.get? b=some o)
  (slot:∀ b o,b≠X.env.locals->b∈X.fs->b∉ch->s.heap.get? b=some o->H b=none->∃ E,h'.get? b=some { o with slots:=E }) (free:∀ b o,b∉ch->s.heap.get? b=some o->H b=none->H' b=none)
  (there:∀ b o,b∉ch->s.heap.get? b=some o->∃ t,h'.get? b=some t)
  (JW:∀ b h,H b=some (.tup h)->H' b=some (.tup h)) (JK:∀ b o u,H b=some (.LC o u)->H' b=some (.LC o u)) (JL:∀ b C,H b=some (.JU C)->∃ more,H' b=some (.JU (C++more)))
  (ns:∀ m,s.heap.Ns X.env.locals m->h'.Ns X.env.locals m) (Ha:Iq X.prog X.w H' h') (M:AllBare g') :
  Inv X pins σ H' { s with heap:=h',gens:=g',drawn:=d',toks:=t' }:=by
 have G:∀ b o,X.s₀.heap.get? b=some o->b≠X.env.locals:=λb o e=>ne_of_lt (lt_of_lt_of_le (Heap.lt_size e) I.ok.above)
 have D:∀ b o,X.s₀.heap.get? b=some o->b∉X.ex->b∉ch:=λb o e a hb=>by
  rcases (B b hb).1 with z |z
  ·exact a z
  exact absurd (lt_of_lt_of_le (Heap.lt_size e) z) (Nat.lt_irrefl _)
 have f:∀ x c,X.env.cells.lookup x=some c->∀ v,s.heap.IsCell c v->h'.IsCell c v:=λx c e v O=>by
  obtain⟨o,j,hd⟩:=O
  have y:c∉ch:=λz=>(B c z).2.2.1 x c e rfl;by_cases hc:c∈X.fs
  ·obtain⟨E,q⟩:=slot c o (I.NG x c e) hc y j (I.Ih x c e);exact⟨_,q,hd⟩
  exact⟨o,keep c o (I.NG x c e) hc y j (I.Ih x c e),hd⟩
 refine⟨I.ok,I.os,M,⟨λb o e n hb a=>?_,λb o e n hb a=>?_,λb o e n a=>?_,λb o e a=>?_,λb h e=>JW b h (I.base.JW b h e),λb o h e=>JK b o h (I.base.JK b o h e),λb C e=>?_⟩,?_,λx c e=>?_,?_,λx c e=>?_,λp F=>?_,Ha,I.len⟩
 ·exact keep b o (G b o e) hb (D b o e a) (I.base.keep b o e n hb a) (I.base.free b o e n a)
 ·obtain⟨E,g⟩:=I.base.slot b o e n hb a;obtain⟨K,A⟩:=slot b _ (G b o e) hb (D b o e a) g (I.base.free b o e n a);exact⟨K,A⟩
 ·obtain⟨t,g⟩:=I.base.there b o e a;exact free b t (D b o e a) g (I.base.free b o e n a)
 ·obtain⟨t,g⟩:=I.base.there b o e a;exact there b t (D b o e a) g
 ·obtain⟨m1,g⟩:=I.base.JL b C e;obtain⟨m2,A⟩:=JL b _ g;exact⟨m1++m2,by rw[A,Array.append_assoc]⟩
 ·obtain⟨m,N,J⟩:=I.loc;refine⟨m,ns m N,λi x v g A L=>?_⟩;obtain⟨u,r,l⟩:=J i x v g A L;refine⟨u,r,?_⟩;rcases l with l |⟨k,c,e,z⟩
  ·exact .inl l
  exact .inr ⟨k,c,e,f x c e _ z⟩
 ·obtain⟨v,z⟩:=I.cell x c e;exact⟨v,f x c e v z⟩
 ·obtain⟨m,⟨o,_,_,j,_⟩,_⟩:=I.loc;exact free _ o (λz=>(B _ z).2.1 rfl) j I.free
 ·obtain⟨v,o,j,hd⟩:=I.cell x c e;exact free c o (λz=>(B c z).2.2.1 x c e rfl) j (I.Ih x c e)
 obtain⟨e,n,ne,nf,d⟩:=I.pin p F;have y:p.1∉ch:=λz=>(B p.1 z).2.2.2 p F rfl;exact⟨keep p.1 p.2 ne nf y e n,free p.1 p.2 y e n,ne,nf,d⟩
theorem Inv.un {t':Nat}(I:Inv X pins σ H s)(u:Un X.fs [] H H' s.heap h')(Ha:Iq X.prog X.w H' h'):Inv X pins σ H' { s with heap:=h',toks:=t' }:=by
 obtain⟨m,⟨o,es,ep,c,r⟩,_⟩:=id I.loc;obtain⟨k,g⟩:=u.any c I.free (by simp)
 exact I.step (g':=s.gens) (d':=s.drawn) (ch:=[]) (λ_ z=>nomatch z) (λb o _ hb _ e n=>u.keep b o e n hb (by simp)) (λb o _ hb _ e n=>u.slot b o e n hb (by simp)) (λb o _ e n=>u.free b o e n (by simp)) (λb o _ e=>u.there b o e (by simp)) u.JW u.JK u.JL (λl h=>by
  obtain⟨j,i,d,a,f⟩:=h;rw[c] at a;cases a
  exact⟨_,i,d,g,f⟩) Ha I.bare
theorem Inv.call {g':Array GenState}{t':Nat}{d':Drawn}{ch:List Addr}(I:Inv X pins σ H s)(u:Un (Lk X.stack) ch H H' s.heap h')(Ha:Iq X.prog X.w H' h')(j:AllBare g')
  (d:∀ b∈ch,(b∈X.ex∨X.s₀.heap.objs.size<=b)/\b≠X.env.locals/\(∀ x c,X.env.cells.lookup x=some c->c≠b)/\∀ p∈X.pn++pins,p.1≠b) :
  Inv X pins σ H' { s with heap:=h',gens:=g',drawn:=d',toks:=t' }:=by
 obtain⟨m,⟨o,es,ep,g,r⟩,_⟩:=id I.loc;obtain⟨t,a⟩:=u.any g I.free λz=>(d _ z).2.1 rfl
 exact I.step (ch:=ch) d (λb o a hb hc e n=>u.keep b o e n (λz=>(mem_cons.mp (I.JX b z)).elim a hb) hc) (λb o _ _ hc e n=>u.any e n hc) (λb o hc e n=>u.free b o e n hc) (λb o hc e=>u.there b o e hc) u.JW u.JK u.JL (λv k=>by
  obtain⟨q,l,h,f,i⟩:=k;rw[g] at f;cases f
  exact⟨_,l,h,a,i⟩) Ha j
theorem Inv.turned {t':Nat}{it:Addr}(I:Inv X pins σ H s)(k:∀ b o,b≠it->s.heap.get? b=some o->h'.get? b=some o)(i:H it=none)(d:it≠X.env.locals)
  (f:it∈X.ex∨X.s₀.heap.objs.size<=it) (g:∀ x c,X.env.cells.lookup x=some c->c≠it) (h:∀ p∈X.pn++pins,p.1≠it):Inv X pins σ H { s with heap:=h',toks:=t' }:=by
 have a:∀ b u,H b=some u->b≠it:=λb u e z=>by rw[z,i] at e;cases e
 refine I.step (g':=s.gens) (d':=s.drawn) (ch:=[it]) (λb hb=>?_) (λb o _ _ hc e _=>k b o (λz=>hc (by simp[z])) e) (λb o _ _ hc e _=>⟨o.slots,k b o (λz=>hc (by simp[z])) e⟩) (λ_ _ _ _ n=>n)
  (λb o hc e=>⟨o,k b o (λz=>hc (by simp[z])) e⟩) (λ_ _ e=>e) (λ_ _ _ e=>e) (λb t e=>⟨#[],by rw[e];simp⟩) (λm j=>?_) (λb u e=>?_) I.bare
 ·have e:b=it:=by simpa using hb
  subst e;exact⟨f,d,g,h⟩
 ·obtain⟨o,es,ep,l,r⟩:=j;exact⟨o,es,ep,k _ o (Ne.symm d) l,r⟩
 refine(I.Ha b u e).Ir (λc v hc q=>k c v ?_ q) (λ_ q=>q) λ_ _ q=>q;rcases hc with z |z
 ·rw[z];exact a b u e
 exact a c _ z
theorem Inv.tok (I:Inv X pins σ H s)(t:Nat):Inv X pins σ H { s with toks:=t }:=I.un (h':=s.heap) (t':=t) Un.refl I.Ha
theorem Inv.kept {t':Nat}(I:Inv X pins σ H s)(k:∀ b u,s.heap.get? b=some u->h'.get? b=some u):Inv X pins σ H { s with heap:=h',toks:=t' }:=I.un (Un.kept k) (I.Ha.kept k)
theorem Inv.laid {a:Addr}{o:HO}{t':Nat}(I:Inv X pins σ H s)(k:∀ b u,s.heap.get? b=some u->h'.get? b=some u)(c:s.heap.objs.size<=a)(new:Hm X.prog X.w (upd H a o) h' a o) :
  Inv X pins σ (upd H a o) { s with heap:=h',toks:=t' }:=I.un (Un.laid k c (I.Ha.fresh c)) (I.Ha.laid k c new)
theorem Inv.write {x e:Addr}{o:HO}{t':Nat}(I:Inv X pins σ H s)(c:Pq (H x))(a:e=x∨H e=some (.own x))(k:∀ b u,b≠e->s.heap.get? b=some u->h'.get? b=some u)(d:∃ u,h'.get? e=some u)
  (new:Hm X.prog X.w (upd H x o) h' x o):Inv X pins σ (upd H x o) { s with heap:=h',toks:=t' }:=I.un (Un.write c a k d) (I.Ha.write c a k d new)
theorem Inv.IY {a:GK}(I:Inv X pins σ H s)(h:∀ p∈a,s.heap.get? p.1=some p.2/\H p.1=none/\p.1≠X.env.locals/\p.1∉X.fs/\∀ v,p.2.data≠.cell v):Inv X a σ H s:=
 ⟨I.ok,I.os,I.bare,I.base,I.loc,I.cell,I.free,I.Ih,λp b=>(mem_append.mp b).elim (λz=>I.pin p (mem_append_left _ z)) (h p),I.Ha,I.len⟩
theorem sM {N:List Str}(e:N.Nodup){i j:Nat}{x:Str}(a:N[i]?=some x)(b:N[j]?=some x):i=j:=by obtain⟨f,d⟩:=List.getElem?_eq_some_iff.mp a;obtain⟨g,c⟩:=List.getElem?_eq_some_iff.mp b;exact(List.getElem_inj e).mp (d.trans c.symm)
theorem o8 {M:Model}{A:Around}{E:GJ}{i:Nat}{x:Str}{v:V}{u:Value}{Q:Unit->Shared->Prop}(I:Inv X pins σ H s)(Z:X.N.Nodup)(C:X.N[i]?=some x)(l:Loc X.env.scope x)(r:RelV v u)
  (h:∀ s',Inv X pins (σ.set i (some v)) H s'->(∃ a,Heap.SameBut a s.heap s'.heap/\(a=X.env.locals∨X.env.cells.lookup x=some a))->Q () s') (hf:X.fn x=true∨X.env.scope.names.lookup x=some .local:=by first |exact .inl rfl |exact .inr rfl |assumption):wpAny M A (storeName X.env x u) Q E s:=by
 obtain⟨m,O,hl⟩:=id I.loc;have Rx:(X.env.scope.kind==.class ||(X.env.scope.kind==.module&&X.env.locals != X.env.globals))=false:=by rw[I.ok.kind];rfl
 have Pw:i < σ.length:=by rw[I.len];exact(List.getElem?_eq_some_iff.mp C).1
 have NG:=I.NG
 have tracked:∀ {a:Addr}{h':Heap},(∃ o,s.heap.get? a=some o/\H a=none)->Heap.SameBut a s.heap h'->Iq X.prog X.w H h':=λ{a h'} ha f b ob e=>by
  obtain⟨_,_,W⟩:=ha;refine(I.Ha b ob e).Ir (λc D hc q=>(f.2 c ?_).trans q) (λ_ q=>q) λ_ _ q=>q;rintro rfl;rcases hc with rfl |hc
  ·rw[W] at e;cases e
  rw[W] at hc;cases hc
 rcases l with hk |hk
 ·refine wpAny_storeName_local hk O (λh' Vg f=>?_) Rx;obtain⟨oL,_,_,LX,_⟩:=id O;refine h _ ⟨I.ok,I.os,I.bare,⟨λb o e n hb l=>?_,λb o e n hb l=>?_,I.base.free,λb o e l=>?_,I.base.JW,I.base.JK,I.base.JL⟩,⟨_,Vg,λj y T g t K=>?_⟩,λy c e=>?_,I.free,I.Ih,λp R=>?_,tracked ⟨oL,LX,I.free⟩ f,by simpa using I.len⟩ ⟨_,f,.inl rfl⟩
  ·exact(f.2 b (ne_of_lt (lt_of_lt_of_le (Heap.lt_size e) I.ok.above))).trans (I.base.keep b o e n hb l)
  ·obtain⟨P,g⟩:=I.base.slot b o e n hb l;exact⟨P,(f.2 b (ne_of_lt (lt_of_lt_of_le (Heap.lt_size e) I.ok.above))).trans g⟩
  ·obtain⟨G,g⟩:=I.base.there b o e l;exact⟨G,(f.2 b (ne_of_lt (lt_of_lt_of_le (Heap.lt_size e) I.ok.above))).trans g⟩
  ·by_cases B:j=i
   ·subst B;rw[C] at g;cases g;rw[getElem?_set_self Pw] at t;cases t;exact⟨u,r,.inl ⟨hk,by simp⟩⟩
   rw[getElem?_set_ne (Ne.symm B)] at t;obtain⟨L,J,q⟩:=hl j y T g t K;refine⟨L,J,?_⟩;rcases q with ⟨k,e⟩ |⟨k,c,e,z⟩
   ·refine .inl ⟨k,?_⟩;have:y≠x:=λe=>B (sM Z g (e▸C));simp[this,e]
   exact .inr ⟨k,c,e,z.sameBut f (NG y c e)⟩
  ·obtain⟨D,z⟩:=I.cell y c e;exact⟨D,z.sameBut f (NG y c e)⟩
  obtain⟨e,n,ne,nf,d⟩:=I.pin p R;exact⟨(f.2 p.1 ne).trans e,n,ne,nf,d⟩
 have S:X.fn x=true:=by
  rcases hf with z |z
  ·exact z
  rw[z] at hk;cases hk
 obtain⟨c,hc⟩:=I.ok.has x (.inl hk);obtain⟨D,z⟩:=I.cell x c hc;refine wpAny_storeName_cell I.ok.kind hk hc z (λh' LD f=>?_);obtain⟨Y,TU,Ry⟩:=id z;refine h { s with heap:=h' } ⟨I.ok,I.os,I.bare,⟨λb o e n hb l=>?_,λb o e n hb l=>?_,I.base.free,λb o e l=>?_,I.base.JW,I.base.JK,I.base.JL⟩,⟨m,O.sameBut f (Ne.symm (NG x c hc)),λj y T g t K=>?_⟩,λy F e=>?_,I.free,I.Ih,λp R=>?_,tracked ⟨Y,TU,I.Ih x c hc⟩ f,by simpa using I.len⟩ ⟨c,f,.inr hc⟩
 ·exact(f.2 b (ne_of_lt (lt_of_lt_of_le (Heap.lt_size e) (I.ok.O3 x c S hc)))).trans (I.base.keep b o e n hb l)
 ·obtain⟨P,g⟩:=I.base.slot b o e n hb l;exact⟨P,(f.2 b (ne_of_lt (lt_of_lt_of_le (Heap.lt_size e) (I.ok.O3 x c S hc)))).trans g⟩
 ·obtain⟨G,g⟩:=I.base.there b o e l;exact⟨G,(f.2 b (ne_of_lt (lt_of_lt_of_le (Heap.lt_size e) (I.ok.O3 x c S hc)))).trans g⟩
 ·by_cases B:j=i
  ·subst B;rw[C] at g;cases g;rw[getElem?_set_self Pw] at t;cases t;exact⟨u,r,.inr ⟨.inl hk,c,hc,LD⟩⟩
  rw[getElem?_set_ne (Ne.symm B)] at t;obtain⟨L,J,q⟩:=hl j y T g t K;refine⟨L,J,?_⟩;rcases q with q |⟨k,F,e,z'⟩
  ·exact .inl q
  refine .inr ⟨k,F,e,z'.sameBut f ?_⟩;rintro rfl;exact B (sM Z g (I.ok.inj _ _ _ e hc▸C))
 ·by_cases U:F=c
  ·subst U;exact⟨_,LD⟩
  obtain⟨w2,z2⟩:=I.cell y F e;exact⟨w2,z2.sameBut f U⟩
 obtain⟨e,n,ne,nf,d⟩:=I.pin p R;refine⟨(f.2 p.1 ?_).trans e,n,ne,nf,d⟩;intro q;rw[q,TU] at e;have q':Y=p.2:=Option.some.inj e;exact d D (by rw[← q'];exact Ry)
theorem sh {M:Model}{A:Around}{E:GJ}{i:Nat}{x:Str}{v:V}{u:Value}{Q:Unit->Shared->Prop}(I:Inv X pins σ H s)(c:X.N.Nodup)(b:X.N[i]?=some x)(d:Loc X.env.scope x)(r:RelV v u)
  (h:∀ s',Inv X pins (σ.set i (some v)) H s'->Q () s') (e:X.fn x=true∨X.env.scope.names.lookup x=some .local:=by first |exact .inl rfl |exact .inr rfl |assumption):wpAny M A (storeName X.env x u) Q E s:=
 o8 I c b d r (λs' a _=>h s' a) e
theorem Inv.Px {s':Shared}{ch:List Addr}(I:Inv X pins σ H s)(g:s'.os=s.os)(u:Un (Lk X.stack) ch H H' s.heap s'.heap)(Ha:Iq X.prog X.w H' s'.heap)(a:AllBare s'.gens)
  (f:∀ b∈ch,(b∈X.ex∨X.s₀.heap.objs.size<=b)/\b≠X.env.locals/\(∀ x c,X.env.cells.lookup x=some c->c≠b)/\∀ p∈X.pn++pins,p.1≠b):Inv X pins σ H' s':=by
 obtain⟨h',g',d',t',d⟩:=s';have e:d=s.os:=g;subst e;exact I.call (g':=g') (t':=t') (d':=d') u Ha a f
end
abbrev XK:=Value->Option Addr->Hp->Prop
abbrev St:=List (Option V)
abbrev VK:=V->Hp->Prop
abbrev TE:=St->Hp->VK->Prop
abbrev TT:=St->Hp->(Bool->Hp->Prop)->Prop
abbrev TA:=St->Hp->(List V->Hp->Prop)->Prop
structure Ends where
 nx:St->Hp->Prop
 rt:VK
 bk:St->Hp->Prop:=λ_ _=>False
 ct:St->Hp->Prop:=λ_ _=>False
abbrev TS:=Ends->St->Hp->Prop
def EP (X:Cx)(a:GK)(c:St)(Q:VK)(u:Value)(s':Shared):Prop:=∃ v b,Inv X a c b s'/\RelV v u/\Q v b
def TP (X:Cx)(a:GK)(d:St)(Q:Bool->Hp->Prop)(b:Bool)(s':Shared):Prop:=∃ c,Inv X a d c s'/\Q b c
def AP (X:Cx)(a:GK)(d:St)(Q:List V->Hp->Prop)(us:List Value)(s':Shared):Prop:=∃ b c,Inv X a d c s'/\Vals b us/\Q b c
def SP (X:Cx)(b:GK)(D:Ends)(f:Flow)(s':Shared):Prop:=
 match f with
 | .next => ∃ a c,Inv X b a c s'/\D.nx a c
 | .brk => ∃ a c,Inv X b a c s'/\D.bk a c
 | .cont => ∃ a c,Inv X b a c s'/\D.ct a c
 | .ret u => ∃ v a c,Inv X b a c s'/\RelV v u/\D.rt v c
def PE (X:Cx)(e:Expr)(t:TE):Prop:=
 ∀ (a:GK) (s:Shared) (b:St) (H:Hp) (Q:VK),Inv X a b H s->t b H Q->wpAny (model X.prog X.w) X.A (eval e X.env) (EP X a b Q) X.xe s
def PT (X:Cx)(e:Expr)(t:TT):Prop:=
 ∀ (a:GK) (s:Shared) (b:St) (H:Hp) (Q:Bool->Hp->Prop),Inv X a b H s->t b H Q->wpAny (model X.prog X.w) X.A (isTrue e X.env (eval e X.env)) (TP X a b Q) X.xe s
def PW (X:Cx)(e:Expr)(t:TT):Prop:=
 ∀ (whole:Sem Value) (a:GK) (s:Shared) (b:St) (H:Hp) (Q:Bool->Hp->Prop),Inv X a b H s->t b H Q->wpAny (model X.prog X.w) X.A (isTrue e X.env whole) (TP X a b Q) X.xe s
theorem PW.pt {X:Cx}{e:Expr}{t:TT}(h:PW X e t):PT X e t:=h _
def PA (X:Cx)(es:List Expr)(t:TA):Prop:=
 ∀ (pos:Pos) (a:GK) (s:Shared) (b:St) (H:Hp) (Q:List V->Hp->Prop),Inv X a b H s->t b H Q->wpAny (model X.prog X.w) X.A (spliced (backTo pos (starEach es X.env))) (AP X a b Q) X.xe s
def PS (X:Cx)(st:Stmt)(t:TS):Prop:=
 ∀ (a:GK) (s:Shared) (b:St) (H:Hp) (D:Ends),Inv X a b H s->t D b H->wpAny (model X.prog X.w) X.A (exec st X.env) (SP X a D) X.xe s
def Lg (X:Cx)(st:List Stmt)(t:TS):Prop:=
 ∀ (a:GK) (s:Shared) (b:St) (H:Hp) (D:Ends),Inv X a b H s->t D b H->wpAny (model X.prog X.w) X.A (execs st X.env) (SP X a D) X.xe s
theorem Hb {α:Type}{t:Sem α}{Q b : α->Shared->Prop}{M:Model}{A:Around}{E:GJ}{s:Shared}(h:wpAny M A t Q E s)(c:∀ a s,Q a s->b a s):wpAny M A t b E s:=wpAny_mono h c λ_ _ x=>x
section
variable {X:Cx}
theorem bin {a b:Expr}{m n:TE}(B:PE X a m)(hb:PE X b n){c:GK}{s:Shared}{d:St}{H:Hp}{R:V->V->Hp->Prop}(I:Inv X c d H s)(h:m d H λx k=>n d k λy e=>R x y e)
  {α:Type}{Q : α->Shared->Prop}{f:Value->Value->Sem α}
  (p:∀ v u j x y e,Inv X c d e j->RelV x v->RelV y u->R x y e->wpAny (model X.prog X.w) X.A (f v u) Q X.xe j) :
  wpAny (model X.prog X.w) X.A (eval a X.env) (λv i=>wpAny (model X.prog X.w) X.A (eval b X.env) (λu g=>wpAny (model X.prog X.w) X.A (f v u) Q X.xe g) X.xe i) X.xe s:=by
 refine Hb (B c s d H _ I h) λv o l=>?_;obtain⟨x,k,D,t,q⟩:=l;refine Hb (hb c o d k _ D q) λu j l=>?_;obtain⟨y,e,C,z,r⟩:=l;exact p v u j x y e C t z r
def DY (i:Nat):TE:=λa H Q => ∃ v,a[i]?=some (some v)/\Q v H
def tC (v:V):TE:=λ_ H Q=>Q v H
theorem zf {i:Nat}{x:Str}{pos:Pos}(o:X.N[i]?=some x)(f:QR X.env.scope x)(hd:(x==("__debug__":Str))=false:=by decide)(j:(x==("__classdict__":Str))=false:=by decide):PE X (.Name x pos) (DY i):=by
 intro a s g H Q I h;obtain⟨v,e,h⟩:=h;obtain⟨m,k,d⟩:=I.loc;obtain⟨u,r,l⟩:=d i x v o e f;have fin:EP X a g Q u s:=⟨v,H,I,r,h⟩;rcases l with ⟨hk,n⟩ |⟨hk,c,hc,b⟩
 ·exact wpAny_Name (wpAny_loadName_local I.ok.kind hk k n fin) hd
 rcases hk with hk |hk
 ·exact wpAny_Name (wpAny_loadName_cell I.ok.kind hk hc b fin) hd
 exact wpAny_Name (wpAny_loadName_free I.ok.kind hk hc b fin j) hd
theorem N4 {i j pos}:PE X (.Constant (.int i) j pos) (tC (.int i)):=λ_ _ _ H _ I h=>wpAny_Constant_int ⟨.int i,H,I.tok _,⟨_,rfl⟩,h⟩
theorem Py {b j pos}:PE X (.Constant (.bool b) j pos) (tC (.bl b)):=λ_ _ _ H _ I h=>Constant_bool ⟨.bl b,H,I,rfl,h⟩
theorem N5 {j pos}:PE X (.Constant .none j pos) (tC .Hu):=λ_ _ _ H _ I h=>Constant_none ⟨.Hu,H,I,rfl,h⟩
theorem N6 {x j pos}:PE X (.Constant (.str x) j pos) (tC (.str x)):=λ_ _ _ H _ I h=>Calls.Constant_str ⟨.str x,H,I.tok _,⟨_,rfl⟩,h⟩
def Gl (X:Cx)(x:Str):Prop:=X.env.kindOf x=some .globalImplicit
theorem qT {E:GJ}{a:GK}{s:Shared}{d:St}{H:Hp}{x:Str}{u:Value}{pos:Pos}{Q:GJ}(I:Inv X a d H s)(b:Gl X x)(c:X.mg x=some u)(h:Q u s)
  (hd:(x==("__debug__":Str))=false:=by decide):wpAny (model X.prog X.w) X.A (eval (.Name x pos) X.env) Q E s:=
 Calls.Name_function_global I.ok.kind b (Calls.loadGlobal_global (by rw[I.ok.glob];exact I.mod.glob.keeps I.bk) c h) hd
theorem kN {E:GJ}{a:GK}{s:Shared}{d:St}{H:Hp}{x:Str}{u:Value}{pos:Pos}{Q:GJ}(I:Inv X a d H s)(f:Gl X x)(i:X.mg x=none)(c:bootBuiltins x=some u)(h:Q u s)
  (g:x≠"__name__":=by decide) (hd:(x==("__debug__":Str))=false:=by decide):wpAny (model X.prog X.w) X.A (eval (.Name x pos) X.env) Q E s:=by
 obtain⟨j,b,e⟩:=I.mod.blt;exact Calls.Name_function_global I.ok.kind f (Calls.loadGlobal_builtin (by rw[I.ok.glob];exact I.mod.glob.keeps I.bk) i (by rw[I.ok.blt];exact b.keeps I.bk) ((e x g).trans c) h) hd
theorem Bd {x:Str}{v:V}{u:Value}{pos:Pos}(a:Gl X x)(d:X.mg x=none)(c:bootBuiltins x=some u)(r:RelV v u)(b:x≠"__name__":=by decide)(hd:(x==("__debug__":Str))=false:=by decide):PE X (.Name x pos) (tC v):=
 λ_ _ _ H _ I h=>kN I a d c ⟨v,H,I,r,h⟩ b hd
variable {a b:Expr}{ta tb:TE}{pos:Pos}
def PC (X:Cx)(g:CmpOp)(a b:Expr)(t:TE):Prop:=
 ∀ (c:GK) (s:Shared) (f:St) (H:Hp) (Q:VK),Inv X c f H s->t f H Q ->
  wpAny (model X.prog X.w) X.A (eval a X.env) (λv d=>wpAny (model X.prog X.w) X.A (eval b X.env) (λu e=>wpAny (model X.prog X.w) X.A (compareOp g v u) (EP X c f Q) X.xe e) X.xe d) X.xe s
theorem sN (b:Expr){a:CmpOp}(h:a≠.In)(e:a≠.NotIn):behindInMarks a b=false:=by
 have d:(a==CmpOp.In)=false:=by cases a<;>first |rfl |exact absurd rfl h
 have c:(a==CmpOp.NotIn)=false:=by cases a<;>first |rfl |exact absurd rfl e
 cases b<;>simp[behindInMarks,d,c]
def tB (t:TE):TT:=λb H Q=>t b H λx a => ∃ c,x = .bl c/\Q c a
theorem C7 {d:CmpOp}{t:TE}(h:PC X d a b t)(e:behindInMarks d b=false:=by first |exact sN _ (by decide) (by decide) |rfl):PE X (.Compare a [d] [b] pos) t:=λc s g H Q I f=>wpAny_Compare1 (h c s g H Q I f) e
theorem u5 {g:CmpOp}{t:TE}(h:PC X g a b t)(f:behindInMarks g b=false:=by first |exact sN _ (by decide) (by decide) |rfl):PT X (.Compare a [g] [b] pos) (tB t):=by intro e s j H Q I l;refine wpAny_isTrue_Compare1 (Hb (h e s j H _ I l) λv w f=>Hb f λu y k=>Hb k λc r o=>?_) f;obtain⟨x,i,p,n,m⟩:=o;obtain⟨d,rfl,q⟩:=m;cases n;exact wpAny_truthy_bool ⟨i,p,q⟩
theorem CN {e:Expr}{t:TE}(h:PE X e t)(g:∀ whole,isTrue e X.env whole=(do let v ← whole;standAt e.pos;holding [v] (truthy v)):=by intro _;rfl):PT X e (tB t):=by intro a s c H Q I f;refine isTrue_plain (Hb (h a s c H _ I f) λv m k=>?_) (g _);obtain⟨x,b,l,j,i⟩:=k;obtain⟨d,rfl,q⟩:=i;cases j;exact wpAny_truthy_bool ⟨b,l,q⟩
variable {tA QU:TT}{rest:List Expr}
def Fw (t u:TT):TT:=λb H Q=>t b H λc a=>if c=true then u b a Q else Q false a
def Vh (t u:TT):TT:=λb H Q=>t b H λc a=>if c=true then Q true a else u b a Q
def Fr (t:TT):TT:=λb H Q=>t b H λc a=>Q (!c) a
theorem AY (d:PT X a tA):PW X (.BoolOp .And [a] pos) tA:=by
 intro g b s f H Q I h;refine isTrue_and (Hb (d b s f H Q I h) λc i e=>?_);cases c with
 |true=>exact isTrue_and_nil e
 |false=>exact e
theorem CJ (d:PT X a tA):PW X (.BoolOp .Or [a] pos) tA:=by
 intro g b s f H Q I h;refine isTrue_or (Hb (d b s f H Q I h) λc i e=>?_);cases c with
 |false=>exact isTrue_or_nil e
 |true=>exact e
theorem CK (l:PT X a tA)(hb:PW X (.BoolOp .And (b::rest) pos) QU):PW X (.BoolOp .And (a::b::rest) pos) (Fw tA QU):=by
 intro m d s f H Q I h;refine isTrue_and (Hb (l d s f H _ I h) λc j k=>?_);obtain⟨e,i,g⟩:=k;cases c with
 |true=>exact hb m d j f e Q i g
 |false=>exact⟨e,i,g⟩
theorem Eg (l:PT X a tA)(hb:PW X (.BoolOp .Or (b::rest) pos) QU):PW X (.BoolOp .Or (a::b::rest) pos) (Vh tA QU):=by
 intro m d s f H Q I h;refine isTrue_or (Hb (l d s f H _ I h) λc j k=>?_);obtain⟨e,i,g⟩:=k;cases c with
 |true=>exact⟨e,i,g⟩
 |false=>exact hb m d j f e Q i g
theorem CO (d:PT X a tA):PT X (.UnaryOp .Not a pos) (Fr tA):=by intro b s f H Q I h;exact isTrue_not (d b s f H (λc e=>Q (!c) e) I h)
def D_ (ta tb:TE):TE:=λb H Q=>ta b H λx a => ∃ c,x = .bl c/\if c=true then tb b a Q else Q (.bl false) a
def D2 (ta:TE):TE:=λb H Q=>ta b H λx a => ∃ c,x = .bl c/\Q (.bl (!c)) a
theorem C4 {op}{t:TE}(h:PE X a t):PE X (.BoolOp op [a] pos) t:=λb s d H Q I c=>BoolOp_one (h b s d H Q I c)
theorem C8 (m:PE X a ta)(hb:PE X (.BoolOp .And (b::rest) pos) tb):PE X (.BoolOp .And (a::b::rest) pos) (D_ ta tb):=by
 intro d s g H Q I h;refine BoolOp_and (Hb (m d s g H _ I h) λv j l=>?_);obtain⟨x,f,i,k,e⟩:=l;obtain⟨c,rfl,e⟩:=e;cases k;refine wpAny_truthy_bool ?_;cases c with
 |true=>exact hb d j g f Q i e
 |false=>exact⟨.bl false,f,i,rfl,e⟩
theorem C5 (e:PE X a ta):PE X (.UnaryOp .Not a pos) (D2 ta):=by intro b s k H Q I h;refine UnaryOp_ (Hb (e b s k H _ I h) λv l j=>?_);obtain⟨x,f,i,g,d⟩:=j;obtain⟨c,rfl,d⟩:=d;cases g;exact not_of (wpAny_truthy_bool ⟨.bl (!c),f,i,rfl,d⟩)
def Vi (t:TT)(ta tb:TE):TE:=λa H Q=>t a H λc b=>if c=true then ta a b Q else tb a b Q
theorem zh {c:Expr}(hc:PT X c tA)(m:PE X a ta)(hb:PE X b tb):PE X (.IfExp c a b pos) (Vi tA ta tb):=by
 intro e s f H Q I h;refine wpAny_IfExp (Hb (hc e s f H _ I h) λd i l=>?_);obtain⟨g,k,j⟩:=l;cases d with
 |true=>exact m e i f g Q k j
 |false=>exact hb e i f g Q k j
end
def Ks (K:GI)(H:Hp)(a:Addr)(b:List V):Prop:=
 Rd H a (.lst b) ∨
  ∃ (o:Obj) (its:Array Value) (n:Nat),K.lookup a=some o/\o.cls = .type "list"/\o.dict=none/\o.data = .seq its n/\its.size<=sizeLine/\Vals b its.toList
def Kt (K:GI)(H:Hp)(a:Addr)(b:List V):Prop:=
 Rd H a (.tup b) ∨
  ∃ (o:Obj) (its:Array Value) (n:Nat),K.lookup a=some o/\o.cls = .type "tuple"/\o.data = .seq its n/\its.size<=sizeLine/\Vals b its.toList
def F8:Value->Option V
 | .none=>some .Hu
 | .bool b=>some (.bl b)
 | .int i _=>some (.int i)
 | .str x _=>some (.str x)
 | .bytes b _=>some (.QP b)
 | .float b _=>some (.O1 b)
 | .ref a=>some (.ref a)
 | .type n=>some (.ty n)
 |_=>none
theorem RelV.abs {x:V}{u:Value}(r:RelV x u):F8 u=some x:=by
 cases x with
 |Hu=>cases r;rfl
 |bl _=>cases r;rfl
 |int _=>obtain⟨t,rfl⟩:=r;rfl
 |str _=>obtain⟨t,rfl⟩:=r;rfl
 |QP _=>obtain⟨t,rfl⟩:=r;rfl
 |O1 _=>obtain⟨t,rfl⟩:=r;rfl
 |ref _=>cases r;rfl
 |ty _=>cases r;rfl
theorem RelV.inj {x y:V}{u:Value}(r:RelV x u)(q:RelV y u):x=y:=Option.some.inj (r.abs.symm.trans q.abs)
theorem Vals.inj:∀ {a ys:List V}{us:List Value},Vals a us->Vals ys us->a=ys
 |_,_,_,.nil,.nil=>rfl
 |_,_,_,.cons r t,.cons b c=>by rw[r.inj b,Vals.inj t c]
section
variable {X:Cx}{pins:GK}{σ:St}{H:Hp}{s:Shared}{a:Addr}{xs ys:List V}
theorem Inv.list (I:Inv X pins σ H s)(h:Ks X.K H a xs):∃ its:List Value,Vals xs its/\PlainL s.heap a its.toArray/\xs.length<=sizeLine:=by
 rcases h with h |⟨o,its,n,b,hc,hd,c,d,r⟩
 ·obtain⟨z,its,n,r,e⟩:=h.ok I.Ha;exact⟨its,r,⟨_,n,e,rfl,rfl,rfl⟩,z⟩
 refine⟨its.toList,r,⟨o,n,I.Kj a o b,hc,hd,by simpa using c⟩,?_⟩;have e:=r.length;simp only[length_toList] at e;omega
theorem Inv.tuple (I:Inv X pins σ H s)(h:Kt X.K H a xs):∃ its:List Value,Vals xs its/\IsTup s.heap a its.toArray/\xs.length<=sizeLine:=by
 rcases h with h |⟨o,its,n,b,hc,c,d,r⟩
 ·obtain⟨z,its,r,p⟩:=h.ok I.Ha;exact⟨its,r,p.tup,z⟩
 refine⟨its.toList,r,⟨o,I.Kj a o b,hc,n,by simpa using c⟩,?_⟩;have e:=r.length;simp only[length_toList] at e;omega
theorem Inv.K0 (I:Inv X pins σ H s)(h:Ks X.K H a xs)(h':Ks X.K H a ys):xs=ys:=by
 obtain⟨its,r,⟨o,n,e,_,_,d⟩,_⟩:=I.list h;obtain⟨b,g,⟨j,k,c,_,_,f⟩,_⟩:=I.list h';rw[e] at c;cases c;rw[d] at f;injection f with i _
 have:its=b:=by simpa using congrArg Array.toList i
 subst this;exact r.inj g
theorem Inv.Ku (I:Inv X pins σ H s)(h:Kt X.K H a xs)(h':Kt X.K H a ys):xs=ys:=by
 obtain⟨its,r,⟨o,e,_,n,d⟩,_⟩:=I.tuple h;obtain⟨b,g,⟨j,c,_,k,f⟩,_⟩:=I.tuple h';rw[e] at c;cases c;rw[d] at f;injection f with i _
 have:its=b:=by simpa using congrArg Array.toList i
 subst this;exact r.inj g
end
abbrev Cx.Kn (X:Cx)(E:GJ):Cx:={ X with xe:=E }
abbrev Cx.M0 (X:Cx):Cx:=X.Kn λ_ _=>False
theorem Cx.Ok.Kn {X:Cx}(ok:X.Ok)(E:GJ):(X.Kn E).Ok:=
 ⟨ok.mod,ok.kind,ok.glob,ok.blt,ok.above,ok.inj,ok.has,ok.O3,ok.hd,ok.frames,ok.QS,ok.TM,ok.bs,ok.Mp,ok.Mq,ok.Nd,ok.Jo,ok.N3⟩
theorem Cx.Ok.Iv {X:Cx}{E:GJ}(ok:(X.Kn E).Ok):X.Ok:=
 ⟨ok.mod,ok.kind,ok.glob,ok.blt,ok.above,ok.inj,ok.has,ok.O3,ok.hd,ok.frames,ok.QS,ok.TM,ok.bs,ok.Mp,ok.Mq,ok.Nd,ok.Jo,ok.N3⟩
section
variable {X:Cx}{pins:GK}{σ:St}{H:Hp}{s:Shared}{E:GJ}
theorem Inv.Kn (I:Inv X pins σ H s)(E:GJ):Inv (X.Kn E) pins σ H s:=⟨I.ok.Kn E,I.os,I.bare,I.base,I.loc,I.cell,I.free,I.Ih,I.pin,I.Ha,I.len⟩
theorem Inv.Iv (I:Inv (X.Kn E) pins σ H s):Inv X pins σ H s:=⟨I.ok.Iv,I.os,I.bare,I.base,I.loc,I.cell,I.free,I.Ih,I.pin,I.Ha,I.len⟩
theorem SP.Iv {D:Ends}{f:Flow}{s':Shared}(h:SP (X.Kn E) pins D f s'):SP X pins D f s':=by
 cases f with
 |next=>obtain⟨a,b,I,q⟩:=h;exact⟨a,b,I.Iv,q⟩
 |brk=>obtain⟨a,b,I,q⟩:=h;exact⟨a,b,I.Iv,q⟩
 |cont=>obtain⟨a,b,I,q⟩:=h;exact⟨a,b,I.Iv,q⟩
 |ret u=>obtain⟨v,a,b,I,r,q⟩:=h;exact⟨v,a,b,I.Iv,r,q⟩
theorem Lg.M0 {st:List Stmt}{t:TS}(h:Lg X.M0 st t):Lg X st t:=λpins s σ H D I a =>
 wpAny_mono (h pins s σ H D (I.Kn _) a) (λ_ _ q=>q.Iv) λ_ _ z=>False.elim z
end
section
variable {X:Cx}{st:Stmt}{rest:List Stmt}{t u:TS}{e:Expr}{te:TE}{pos:Pos}
def D3:TS:=λD a H=>D.nx a H
def DZ (t u:TS):TS:=λD a H=>t { D with nx:=u D } a H
theorem Nh:Lg X [] D3:=λ_ _ a H _ I h=>wpAny_execs_nil ⟨a,H,I,h⟩
theorem y9 (c:PS X st t)(j:Lg X rest u):Lg X (st::rest) (DZ t u):=by
 intro a s i H D I h;refine wpAny_execs_cons (Hb (c a s i H { D with nx:=u D } I h) λf g q=>?_);cases f with
 |next =>
  obtain⟨b,e,d,q⟩:=q;exact j a g b e D d q
 |ret v=>exact q
 |brk=>exact q
 |cont=>exact q
theorem AZ (b:PS X st t):Lg X [st] t:=by
 intro a s c H D I h;refine wpAny_execs_cons (Hb (b a s c H D I h) λf d q=>?_);cases f with
 |next=>exact wpAny_execs_nil q
 |ret v=>exact q
 |brk=>exact q
 |cont=>exact q
theorem Inv.quiet {a:GK}{b:St}{H:Hp}{s:Shared}(I:Inv X a b H s):interactive X.env=false:=by simp[interactive,I.ok.kind]
def D6 (te:TE):TS:=λD a H=>te a H λ_ b=>D.nx a b
theorem A1 (d:PE X e te)(f:swapsWith e none pos.line X.env=pure false:=by rfl):PS X (.Expr e pos) (D6 te):=by intro a s b H D I h;exact wpAny_Expr_any (Hb (d a s b H _ I h) λv j ⟨x,c,g,k,i⟩=>⟨b,c,g,i⟩) I.quiet f
def Fq (te:TE):TS:=λD a H=>te a H D.rt
theorem CQ (d:PE X e te):PS X (.Return (some e) pos) (Fq te):=by intro a s b H D I h;exact wpAny_Return_some (Hb (d a s b H _ I h) λv j ⟨x,c,g,f,i⟩=>⟨x,b,c,g,f,i⟩)
def Ft (c:TT)(t u:TS):TS:=λD a H=>c a H λb d=>if b=true then t D a d else u D a d
theorem Eh {c:Expr}{a b:List Stmt}{i:TT}(hc:PT X c i)(n:Lg X a t)(hb:Lg X b u):PS X (.If c a b pos) (Ft i t u):=by
 intro e s f H D I h;refine wpAny_If (Hb (hc e s f H _ I h) λd j m=>?_);obtain⟨g,l,k⟩:=m;cases d with
 |true=>exact n e j f g D l k
 |false=>exact hb e j f g D l k
end
abbrev TG:=V->St->Hp->(St->Hp->Prop)->Prop
abbrev Ni:=List V->St->Hp->(St->Hp->Prop)->Prop
def PG (X:Cx)(target:Expr)(t:TG):Prop:=
 ∀ (a:GK) (s:Shared) (d:St) (H:Hp) (v:V) (u:Value) (Q:St->Hp->Prop),Inv X a d H s->RelV v u->t v d H Q ->
  wpAny (model X.prog X.w) X.A (assign target X.env u) (λ_ e => ∃ b c,Inv X a b c e/\Q b c) X.xe s
def NI (X:Cx)(ts:List Expr)(t:Ni):Prop:=
 ∀ (a:GK) (s:Shared) (e:St) (H:Hp) (c:List V) (f:List Value) (Q:St->Hp->Prop),Inv X a e H s->Vals c f->t c e H Q ->
  wpAny (model X.prog X.w) X.A (assignInOrder ((assignEach ts X.env).map (·.2)) f) (λ_ g => ∃ b d,Inv X a b d g/\Q b d) X.xe s
section
variable {X:Cx}{pos:Pos}
def Ca (i:Nat):TG:=λv a H Q=>Q (a.set i (some v)) H
theorem A7 {i:Nat}{x:Str}(f:X.N.Nodup)(d:X.N[i]?=some x)(e:Loc X.env.scope x)(c:X.fn x=true∨X.env.scope.names.lookup x=some .local:=by first |exact .inl rfl |exact .inr rfl |assumption):PG X (.Name x pos) (Ca i):=by intro a s g H v u Q I r h;exact wpAny_assign_Name (sh I f d e r (λj b=>⟨_,H,b,h⟩) c)
def FK:Ni:=λa b H Q=>a=[]/\Q b H
def EH (t:TG)(u:Ni):Ni:=λb d H Q => ∃ v r,b=v::r/\t v d H λa c=>u r a c Q
theorem Nj:NI X [] FK:=by intro a s b H c d Q I r h;obtain⟨e,h⟩:=h;subst e;cases r;exact assignInOrder_nil ⟨b,H,I,h⟩
theorem zd {e:Expr}{es:List Expr}{t:TG}{u:Ni}(c:PG X e t)(j:NI X es u)
  (n:(assignEach (e::es) X.env).map (·.2)=assign e X.env::(assignEach es X.env).map (·.2):=by rfl):NI X (e::es) (EH t u):=by
 intro a s i H p q Q I r h;obtain⟨v,w,f,h⟩:=h;subst f;cases r with
 |cons r m =>
  rw[n];refine assignInOrder_cons (Hb (c a s i H _ _ _ I r h) λ_ g l=>?_);obtain⟨b,d,o,k⟩:=l;exact j a g b d _ _ Q o m k
def FJ (K:GI)(n:Nat)(t:Ni):TG:=λv c H Q => ∃ a b,v = .ref a/\Kt K H a b/\b.length=n/\t b c H Q
theorem CZ {es:List Expr}{k:Nat}{t:Ni}{n:Nat}(hc:X.calm=true)(h:NI X es t)
  (q:(assignEach es X.env).length=n:=by rfl) (m:(assignEach es X.env).findIdx? (·.1)=none:=by rfl):PG X (.Tuple es k pos) (FJ X.K n t):=by
 intro c s f H v u Q I r d;obtain⟨a,z,l,x,i,d⟩:=d;subst l;cases r;obtain⟨its,g,j,A⟩:=I.tuple x;refine assign_Tuple_tuple (I.ok.hd hc) j (by simp[q,← i,g.length]) m λp w=>?_;have y:Inv X c f H { s with heap:=p }:=I.kept (t':=s.toks) λb o e=>w b o (ne_of_lt (Heap.lt_size e)) e;exact h c _ f H z _ Q y (by simpa using g) d
def D9 (b:TE)(g:TG):TS:=λD a H=>b a H λx c=>g x a c D.nx
theorem CV {b e:Expr}{d:TE}{g:TG}(l:PE X e d)(n:PG X b g)(r:swapsWithSole [b] e pos.line X.env=pure false:=by rfl)(k:swappedStores [b] e X.env=pure none:=by rfl)
  (f:(assignEach [b] X.env).map (·.2)=[assign b X.env]:=by rfl):PS X (.Assign [b] e pos) (D9 d g):=by
 intro a s c H D I h;refine wpAny_Assign_stores (Hb (l a s c H _ I h) λv j p=>?_) r k;obtain⟨x,i,t,o,m⟩:=p;rw[f];exact Hb (n a j c i x v _ t o m) λ_ u q=>q
theorem CP {i:Nat}{x:Str}{e:Expr}{c:TE}{a:Pos}(t:X.N.Nodup)(l:X.N[i]?=some x)(m:Loc X.env.scope x)(g:PE X e c)(q:swapsWith e (some (.Name x a)) pos.line X.env=pure false:=by rfl)(j:X.fn x=true∨X.env.scope.names.lookup x=some .local:=by first |exact .inl rfl |exact .inr rfl |assumption) :
  PS X (.Assign [.Name x a] e pos) (D9 c (Ca i)):=by
 intro b s f H D I h;refine wpAny_Assign_Name (Hb (g b s f H _ I h) λv u o=>?_) q;obtain⟨y,d,r,n,k⟩:=o;exact sh r t l m n (λw p=>⟨_,d,p,k⟩) j
end
section
variable {X:Cx}{pos:Pos}
def yH (c:TT)(h:TS):TS:=λD a H => ∃ W:Nat->St->Hp->Prop,(∃ m,W m a H)/\∀ m a H,W m a H ->
 c a H λb f=>if b=true then ∃ N:St->Hp->Prop,(∀ d e,N d e->∃ g,g<m/\W g d e)/\h { D with nx:=N,ct:=N,bk:=D.nx } a f else D.nx a f
theorem y_ {c:Expr}{body:List Stmt}{t:TT}{B:TS}(y:PassesOwn (model X.prog X.w) X.A X.env X.xe)(hc:PT X c t)(hb:Lg X body B):PS X (.While c body [] pos) (yH t B):=by
 intro a s G H D I h;obtain⟨W,⟨L,K⟩,j⟩:=h;refine wpAny_While (codeAny_whileLoop (λn J => ∃ i r,Inv X a i r J/\W n i r) ?_ L ⟨G,H,I,K⟩);rintro n F ⟨e,u,P,E⟩;refine wpAny_passesOwn y (Hb (hc a F e u _ P (j n e u E)) λb O M=>?_);obtain⟨x,z,k⟩:=M;cases b with
 |true =>
  obtain⟨N,C,k⟩:=k;rw[if_pos rfl];refine wpAny_passesOwn y (Hb (hb a O e x _ z k) λf Q l=>?_);cases f with
  |next =>
   obtain⟨d,g,o,n3⟩:=l;obtain⟨m,p,q⟩:=C d g n3;exact⟨m,p,d,g,o,q⟩
  |cont =>
   obtain⟨d,g,o,n3⟩:=l;obtain⟨m,p,q⟩:=C d g n3;exact⟨m,p,d,g,o,q⟩
  |brk=>exact l
  |ret v=>exact l
 |false =>
  rw[if_neg Bool.false_ne_true];exact wpAny_execs_nil ⟨e,x,z,k⟩
end
structure It where
 go:Nat->Hp->Prop
 LY:Nat->Hp->V->Hp->Prop
 stop:Nat->Hp->Prop
def f_ (X:Cx)(a:GK)(H:Hp)(b:Addr):Prop:=
 H b=none/\b≠X.env.locals/\b∉X.fs/\(b∈X.ex∨X.s₀.heap.objs.size<=b)/\(∀ x c,X.env.cells.lookup x=some c->c≠b)/\∀ p∈X.pn++a,p.1≠b
theorem Inv.JM {X:Cx}{a:GK}{f:St}{H H':Hp}{s:Shared}{b:Addr}(I:Inv X a f H s)(hb:s.heap.objs.size<=b)(d:H' b=none):f_ X a H' b:=by
 refine⟨d,ne_of_gt (lt_of_lt_of_le I.lt hb),I.Rv hb,.inr (Nat.le_trans I.sz hb),λx c e z=>?_,λp g z=>?_⟩
 ·obtain⟨v,q⟩:=I.cell x c e;exact absurd (lt_of_lt_of_le q.lt (by rw[z];exact hb)) (Nat.lt_irrefl _)
 exact absurd (lt_of_lt_of_le (Heap.lt_size (I.pin p g).1) (by rw[z];exact hb)) (Nat.lt_irrefl _)
structure Turn (P:Program) (w:World) (K:GI) (tg:Expr) (J:It) (fp:List Addr) (it:Addr) (tn:Nat->Heap->Prop):Prop where
 mem:it∈fp
 obj:∀ i h,tn i h->∀ b∈fp,∃ o,h.get? b=some o/\∀ v,o.data≠.cell v
 keep:∀ i h h',tn i h->(∀ b∈fp,∀ o,h.get? b=some o->h'.get? b=some o)->tn i h'
 item:∀ (X:Cx),X.prog=P->X.w=w->X.K=K->X.calm=true->∀ (i:Nat) (pins:GK) (s:Shared) (σ:St) (H:Hp) (E:GJ),Inv X pins σ H s->(∀ b∈fp,f_ X pins H b)->tn i s.heap->J.go i H ->
  wpAny (model P w) X.A (pyNext (.ref it)) (λr s1 => ∃ u,r=some u /\
   wpAny (model P w) X.A (letOwnedTupleGo tg (.ref it) u) (λ_ s2 => ∃ x H',Inv X pins σ H' s2/\RelV x u/\J.LY i H x H'/\tn (i+1) s2.heap/\∀ b∈fp,H' b=none) E s1) E s
 done:∀ (X:Cx),X.prog=P->X.w=w->X.K=K->X.calm=true->∀ (i:Nat) (pins:GK) (s:Shared) (σ:St) (H:Hp) (E:GJ),Inv X pins σ H s->(∀ b∈fp,f_ X pins H b)->tn i s.heap->J.stop i H ->
  wpAny (model P w) X.A (pyNext (.ref it)) (λr s1=>r=none/\Inv X pins σ H s1) E s
 self:∀ (A:Around) (i:Nat) (s:Shared) (Q:GJ) (E:GJ),tn i s.heap->Q (.ref it) s->wpAny (model P w) A (pyIter (.ref it)) Q E s
abbrev TI:=St->Hp->(It->Hp->Prop)->Prop
def TV (X:Cx)(a:GK)(h:St)(i:Expr)(R:It->Hp->Prop)(g:Value)(e:Shared):Prop:=
 ∃ (it:Addr) (d:List Addr) (f:Nat->Heap->Prop) (J:It) (c:Hp),g = .ref it/\Inv X a h c e/\Turn X.prog X.w X.K i J d it f/\f 0 e.heap/\(∀ b∈d,f_ X a c b)/\R J c
def PI (X:Cx)(e iter:Expr)(c:TI):Prop:=
 ∀ (a:GK) (s:Shared) (b:St) (H:Hp) (R:It->Hp->Prop),Inv X a b H s->c b H R ->
  wpAny (model X.prog X.w) X.A (eval iter X.env) (λv d=>wpAny (model X.prog X.w) X.A (pyIter v) (TV X a b e R) X.xe d) X.xe s
theorem wJ {M:Model}{A:Around}{E:GJ}{s:Shared}{b:Expr}{it:Addr}{u:Value}{o:Obj}{n:String}{vs:Array Value}{Q:Unit->Shared->Prop}(d:s.heap.get? it=some o)(hc:o.cls = .type n)(hd:o.data = .fields vs)
  (c:["enumerate","zip","dict_itemiterator","dict_reverseitemiterator","odict_iterator","itertools.zip_longest","itertools.pairwise"].contains n=false) (a:Q () s):wpAny M A (letOwnedTupleGo b (.ref it) u) Q E s:=by
 unfold letOwnedTupleGo
 cases b<;>first
  |exact wpAny_pure a
  |(cases u<;>first
    |exact wpAny_pure a
    |(refine wpAny_bind (wpAny_load d ?_)
      rw[hc,hd];show wpAny M A (if (["enumerate","zip","dict_itemiterator","dict_reverseitemiterator","odict_iterator","itertools.zip_longest","itertools.pairwise"].contains n&&vs[0]?==some (rawInt _))=true then _ else _) Q E s;rw[if_neg (by intro h;rw[c,Bool.false_and] at h;cases h)]
      exact wpAny_pure a))
def Rz (K:GI)(a:Addr):It:=
 ⟨λi H => ∃ b x,Ks K H a b/\b[i]?=some x,λi H x c=>c=H/\∀ b,Ks K H a b->b[i]?=some x,λi H => ∃ b,Ks K H a b/\b.length<=i⟩
def RA (K:GI)(a:Addr):It:=
 ⟨λi H => ∃ b x,Kt K H a b/\b[i]?=some x,λi H x c=>c=H/\∀ b,Kt K H a b->b[i]?=some x,λi H => ∃ b,Kt K H a b/\b.length<=i⟩
def QW (lo:Int)(n:Nat):It:=⟨λi _=>i<n,λi H x a=>a=H/\x = .int (lo+i),λi _=>n<=i⟩
theorem xc {P:Program}{w:World}{K:GI}{O:Expr}(a it:Addr):Turn P w K O (Rz K a) [it] it (λi h=>h.IsListIter it a i) where
 mem:=by simp
 obj:=λi h st b hb=>by
  have e:b=it:=by simpa using hb
  subst e;obtain⟨o,e,c,d⟩:=st;exact⟨o,e,λv z=>by rw[d] at z;cases z⟩
 keep:=λi h g st k=>st.at λo e=>k it (by simp) o e
 item:=by
  intro X m y q hc i f s G H E I j st A;subst m y q;obtain⟨U,x,l,C⟩:=A;obtain⟨its,r,p,M⟩:=I.list l;obtain⟨u,N,S⟩:=r.get C;obtain⟨n,D,R,t,F,B⟩:=j it (by simp);refine wpAny_pyNext_list_item st p.isList (x:=u) (by simpa using N) λg J sb=>?_;have T:Inv X f G H { s with heap:=g }:=I.turned (t':=s.toks) (λb o hb e=>(sb.2 b hb).trans e) n D t F B;obtain⟨o,e,c,d⟩:=id J;exact⟨u,rfl,wJ (s:={ s with heap:=g }) e c d (by decide) ⟨x,H,T,S,⟨rfl,λW Q=>by rw[I.K0 Q l];exact C⟩,J,λb hb=>(j b hb).1⟩⟩
 done:=by
  intro X m y q hc i f s G H E I j st A;subst m y q;obtain⟨U,l,C⟩:=A;obtain⟨its,r,p,M⟩:=I.list l;obtain⟨n,D,R,t,F,B⟩:=j it (by simp);have V:=r.length;exact wpAny_pyNext_list_end (I.ok.hd hc) st p.isList (by simp;omega) λg L=>⟨rfl,I.turned (t':=s.toks) (λb o hb e=>L b o hb e) n D t F B⟩
 self:=λ_ _ _ _ _ st h=>wpAny_pyIter_listiter st h
theorem uJ {P:Program}{w:World}{K:GI}{O:Expr}(a it:Addr):Turn P w K O (RA K a) [it] it (λi h=>h.IsTupleIter it a i) where
 mem:=by simp
 obj:=λi h st b hb=>by
  have e:b=it:=by simpa using hb
  subst e;obtain⟨o,e,c,d⟩:=st;exact⟨o,e,λv z=>by rw[d] at z;cases z⟩
 keep:=λi h g st k=>st.at λo e=>k it (by simp) o e
 item:=by
  intro X m y q hc i f s G H E I j st A;subst m y q;obtain⟨U,x,l,C⟩:=A;obtain⟨its,r,p,M⟩:=I.tuple l;obtain⟨u,N,S⟩:=r.get C;obtain⟨n,D,R,t,F,B⟩:=j it (by simp);refine wpAny_pyNext_tuple_item st (show s.heap.IsTuple a its.toArray from p) (x:=u) (by simpa using N) λg J sb=>?_;have T:Inv X f G H { s with heap:=g }:=I.turned (t':=s.toks) (λb o hb e=>(sb.2 b hb).trans e) n D t F B;obtain⟨o,e,c,d⟩:=id J;exact⟨u,rfl,wJ (s:={ s with heap:=g }) e c d (by decide) ⟨x,H,T,S,⟨rfl,λW Q=>by rw[I.Ku Q l];exact C⟩,J,λb hb=>(j b hb).1⟩⟩
 done:=by
  intro X m y q hc i f s G H E I j st A;subst m y q;obtain⟨U,l,C⟩:=A;obtain⟨its,r,p,M⟩:=I.tuple l;obtain⟨n,D,R,t,F,B⟩:=j it (by simp);have V:=r.length;exact wpAny_pyNext_tuple_end (I.ok.hd hc) st (show s.heap.IsTuple a its.toArray from p) (by simp;omega) λg L=>⟨rfl,I.turned (t':=s.toks) (λb o hb e=>L b o hb e) n D t F B⟩
 self:=λ_ _ _ _ _ st h=>wpAny_pyIter_tupleiter st h
theorem uK {P:Program}{w:World}{K:GI}{C:Expr}(it:Addr)(lo:Int)(n:Nat):Turn P w K C (QW lo n) [it] it (λi h=>IsRangeIter h it (lo+(i:Nat)*1) ((n:Int)-(i:Nat)) 1) where
 mem:=by simp
 obj:=λi h st b hb=>by
  have e:b=it:=by simpa using hb
  subst e
  exact⟨_,st,λv z=>by
   have F:Data.fields _=Data.cell v:=z
   cases F⟩
 keep:=λi h c st k=>k it (by simp) _ st
 item:=by
  intro X f m j hc i a s x H E I d st p;subst f m j;obtain⟨g,r,D,l,u,q⟩:=d it (by simp);have W:=Walks.range (prog:=X.prog) (w:=X.w) (I.ok.hd hc) it lo 1 n;refine W.item i s _ _ p st λv c tk A y G=>?_;obtain⟨t,rfl⟩:=A;have J:Inv X a x H { s with heap:=c,toks:=tk }:=I.turned (λb o hb e=>G b o (by simpa using hb) e) g r l u q;refine⟨_,rfl,wJ (s:={ s with heap:=c,toks:=tk }) (n:="range_iterator") y rfl rfl (by decide) ⟨.int (lo+i),H,J,⟨t,?_⟩,⟨rfl,rfl⟩,y,λb hb=>(d b hb).1⟩⟩;rw[Int.mul_one]
 done:=by
  intro X f m j hc i a s x H E I d st p;subst f m j;obtain⟨g,r,D,l,u,q⟩:=d it (by simp);exact wpAny_pyNext_range_end (I.ok.hd hc) st (by have:n<=i:=p;omega) λc B=>⟨rfl,I.turned (t':=s.toks) (λb o hb e=>B b o hb e) g r l u q⟩
 self:=λ_ _ _ _ _ st h=>wpAny_pyIter_rangeiter st h
section
variable {X:Cx}{tg:Expr}
def EE (K:GI)(c:TE):TI:=λe H R=>c e H λx b => ∃ a,x = .ref a/\(∃ d,Ks K b a d)/\R (Rz K a) b
def FI (K:GI)(c:TE):TI:=λe H R=>c e H λx b => ∃ a,x = .ref a/\(∃ d,Kt K b a d)/\R (RA K a) b
theorem A6 {l:Expr}{g:TE}(i:PE X l g):PI X tg l (EE X.K g):=by
 intro c s k H R I h;refine Hb (i c s k H _ I h) λv d r=>?_;obtain⟨x,j,f,n,m⟩:=r;obtain⟨a,e,⟨y,t⟩,q⟩:=m;subst e;cases n;obtain⟨its,u,p,w⟩:=f.list t;refine wpAny_pyIter_list p.isList ?_;refine⟨d.heap.objs.size,[d.heap.objs.size],_,_,j,rfl,f.kept (t':=d.toks) λb o e=>Heap.get?_push_of_some _ e,xc a _,⟨_,Heap.get?_push_size _ rfl,rfl,rfl⟩,λb hb=>?_,q⟩;have e:b=d.heap.objs.size:=by simpa using hb
 subst e;exact f.JM (le_refl _) (f.Ha.fresh (le_refl _))
theorem CY {l:Expr}{g:TE}(i:PE X l g):PI X tg l (FI X.K g):=by
 intro d s k H R I h;refine Hb (i d s k H _ I h) λv c r=>?_;obtain⟨x,j,f,n,m⟩:=r;obtain⟨a,e,⟨y,t⟩,q⟩:=m;subst e;cases n;obtain⟨its,u,p,w⟩:=f.tuple t;refine wpAny_pyIter_tuple (show c.heap.IsTuple a its.toArray from p) ?_;refine⟨c.heap.objs.size,[c.heap.objs.size],_,_,j,rfl,f.kept (t':=c.toks) λb o e=>Heap.get?_push_of_some _ e,uJ a _,⟨_,Heap.get?_push_size _ rfl,rfl,rfl⟩,λb hb=>?_,q⟩;have e:b=c.heap.objs.size:=by simpa using hb
 subst e;exact f.JM (le_refl _) (f.Ha.fresh (le_refl _))
theorem y7 {c:GK}{d:St}{H:Hp}{s:Shared}{R:It->Hp->Prop}{E:GJ}{lo a:Int}{t u v:Tok}{tk:Nat}(I:Inv X c d H s)(g : -(2 ^ 62)<=lo)(j:lo<2 ^ 62)(l : -(2 ^ 62)<=a)(h:a<2 ^ 62)
  (q:R (QW lo (a-lo).toNat) H):wpAny (model X.prog X.w) X.A (pyIter (.ref s.heap.objs.size)) (TV X c d tg R) E { s with heap:=s.heap.push { cls:=.type "range",data:=.fields #[.int lo t,.int a u,.int 1 v] },toks:=tk }:=by
 refine wpAny_pyIter_range (IsRange.new ..) (small_one g j l h) ?_;have f:Inv X c d H { s with heap:=s.heap.push { cls:=.type "range",data:=.fields #[.int lo t,.int a u,.int 1 v] },toks:=tk }:=I.kept λb o e=>Heap.get?_push_of_some _ e
 refine⟨(s.heap.push { cls:=.type "range",data:=.fields #[.int lo t,.int a u,.int 1 v] }).objs.size,[(s.heap.push { cls:=.type "range",data:=.fields #[.int lo t,.int a u,.int 1 v] }).objs.size],_,_,H,rfl,
  f.kept (t':=tk) λb o e=>Heap.get?_push_of_some _ e,uK _ lo (a-lo).toNat,?_,λb hb=>?_,q⟩
 ·have i:lo+((0:Nat):Int)*1=lo:=by simp
  have k:(((a-lo).toNat:Nat):Int)-((0:Nat):Int)=Builtin.Range.rangeSize lo a 1:=by rw[rangeSize_one];split<;>omega
  show IsRangeIter _ _ (lo+((0:Nat):Int)*1) ((((a-lo).toNat:Nat):Int)-((0:Nat):Int)) 1;rw[i,k];exact Heap.get?_push_size _ rfl
 have e:b=(s.heap.push { cls:=.type "range",data:=.fields #[.int lo t,.int a u,.int 1 v] }).objs.size:=by simpa using hb
 subst e;exact f.JM (le_refl _) (f.Ha.fresh (le_refl _))
def ED (c:TA):TI:=λd H R=>c d H λa b => ∃ j:Int,a=[.int j]/\-(2 ^ 62)<=j/\j<2 ^ 62/\R (QW 0 j.toNat) b
theorem xA {a:Expr}{d:TA}{p pos:Pos}(g:Gl X "range")(k:X.mg "range"=none)(n:PA X [a] d)(u:starEach [a] X.env=[(false,eval a X.env)]:=by rfl):PI X tg (.Call (.Name "range" p) [a] [] pos) (ED d):=by
 intro b s f H R I h;refine Call_ (kN I g k boot_range (PyProof.Rows.callWith_type1 (Hb (n pos b s f H _ I h) λz x m=>?_) u rfl));obtain⟨y,w,v,l,c⟩:=m;obtain⟨j,e,c,i,q⟩:=c;subst e;cases l with
 |cons r o =>
  cases o;obtain⟨t,rfl⟩:=r;exact call_range_1 (y7 v (by omega) (by omega) c i (by simpa using q))
def Fu (h:TI)(g:TG)(k:TS):TS:=λD a H=>h a H λJ f => ∃ W:Nat->Nat->St->Hp->Prop,(∃ m,W 0 m a f)/\∀ i m a H,W i m a H ->
 (J.stop i H/\D.nx a H)∨(J.go i H/\∃ N:St->Hp->Prop,(∀ c b,N c b->∃ e,e<m/\W (i+1) e c b)/\∀ x b,J.LY i H x b->g x a b λd j=>k { D with nx:=N,ct:=N,bk:=D.nx } d j)
def kI (a:List Addr)(h:Heap):GK:=a.filterMap λb=>(h.get? b).map λo=>(b,o)
theorem gT {a:List Addr}{h:Heap}{b:Addr}{o:Obj}(hb:b∈a)(e:h.get? b=some o):(b,o)∈kI a h:=List.mem_filterMap.mpr ⟨b,hb,by rw[e];rfl⟩
theorem xG {a:List Addr}{h:Heap}{p:Addr×Obj}(d:p∈kI a h):p.1∈a/\h.get? p.1=some p.2:=by
 obtain⟨b,hb,e⟩:=List.mem_filterMap.mp d;cases q:h.get? b with
 |none=>rw[q] at e;cases e
 |some o =>
  rw[q] at e;have c:(b,o)=p:=Option.some.inj e;subst c;exact⟨hb,q⟩
theorem Inv.pinned {a:GK}{f:St}{H:Hp}{s:Shared}{c:List Addr}(I:Inv X a f H s)(i:∀ b∈c,f_ X a H b)(m:∀ b∈c,∃ o,s.heap.get? b=some o/\∀ v,o.data≠.cell v):Inv X (a++kI c s.heap) f H s:=
 I.IY λp j=>(mem_append.mp j).elim (λz=>I.pin p (mem_append_right _ z)) λz=>by
  obtain⟨hb,e⟩:=xG z;obtain⟨h,l,k,_⟩:=i p.1 hb;obtain⟨o,g,d⟩:=m p.1 hb;rw[e] at g;cases g;exact⟨e,h,l,k,d⟩
theorem Inv.JY {a pl:GK}{b:St}{H:Hp}{s:Shared}(I:Inv X (a++pl) b H s):Inv X a b H s:=I.IY λp c=>I.pin p (mem_append_right _ (mem_append_left _ c))
theorem CT {iter:Expr}{body:List Stmt}{Q:TI}{g:TG}{tb:TS}{pos:Pos}(C:PassesOwn (model X.prog X.w) X.A X.env X.xe)(hc:X.calm=true)(hi:PI X tg iter Q)(hg:PG X tg g)(hb:Lg X body tb)
  (hs:∀ x,foldedSetIterable iter X.env x=pure x:=by intro _;rfl):PS X (.For tg iter body [] pos) (Fu Q g tb):=by
 intro a s S H D I h;refine wpAny_For (Hb (hi a s S H _ I h) λv s1 h1=>Hb h1 λQV s2 h2=>?_) hs;obtain⟨it,z,tn,J,H2,e,I2,T,Kw,f2,W,⟨m0,w0⟩,B⟩:=h2;subst e;have G:∀ {q:Hp},(∀ b∈z,q b=none)->∀ b∈z,f_ X a q b:=λhn b hb=>⟨hn b hb,(f2 b hb).2⟩;refine codeAny_forLoop_any (λn U => ∃ i p q,Inv X a p q U/\tn i U.heap/\(∀ b∈z,q b=none)/\W i n p q) ?_ m0 ⟨0,S,H2,I2,Kw,λb hb=>(f2 b hb).1,w0⟩;rintro n V ⟨i,l,F,R,Y,O,w3⟩;rcases B i n l F w3 with ⟨stop,qn⟩ |⟨go,N,hN,step⟩
 ·refine wpAny_passesOwn C (Hb (T.done X rfl rfl rfl hc i a V l F X.xe R (G O) Y stop) λr s4 y=>?_);obtain⟨hr,I4⟩:=y;subst hr;exact wpAny_execs_nil ⟨l,F,I4,qn⟩
 refine wpAny_passesOwn C (Hb (T.item X rfl rfl rfl hc i a V l F X.xe R (G O) Y go) λr s4 y=>?_);obtain⟨u,hr,h4⟩:=y;subst hr;refine wpAny_passesOwn C (Hb h4 λ_ Z y=>?_);obtain⟨x,P,I5,r5,y5,L,RE⟩:=y;have RF:=I5.pinned (G RE) (T.obj _ _ L);refine wpAny_passesOwn C (Hb (hg _ Z l P x u _ RF r5 (step x P y5)) λ_ s6 y=>?_);obtain⟨M,H6,I6,q6⟩:=y;refine wpAny_passesOwn C (Hb (hb _ s6 M H6 _ I6 q6) λf K t=>?_);have again:∀ {c:St}{k:Hp},Inv X (a++kI z Z.heap) c k K->N c k->∃ m,m<n/\∃ i p q,Inv X a p q K/\tn i K.heap/\(∀ b∈z,q b=none)/\W i m p q:=λ{c k} j E=>by obtain⟨m',hm,w7⟩:=hN c k E;refine⟨m',hm,i+1,c,k,j.JY,T.keep _ _ _ L λb hb o e=>(j.pin (b,o) (mem_append_right _ (mem_append_right _ (gT hb e)))).1,λb hb=>?_,w7⟩;obtain⟨o,e,d⟩:=T.obj _ _ L b hb;exact(j.pin (b,o) (mem_append_right _ (mem_append_right _ (gT hb e)))).2.1
 cases f with
 |next=>obtain⟨c,k,j,E⟩:=t;exact again j E
 |cont=>obtain⟨c,k,j,E⟩:=t;exact again j E
 |brk=>obtain⟨c,k,j,t⟩:=t;exact⟨c,k,j.JY,t⟩
 |ret v=>obtain⟨x7,c,k,j,r7,t⟩:=t;exact⟨x7,c,k,j.JY,r7,t⟩
end
abbrev R2:=V->V->Hp->VK->Prop
def JZ (X:Cx)(f:Value->Value->Sem Value)(r:R2):Prop:=
 ∀ (a:GK) (s:Shared) (b:St) (H:Hp) (x y:V) (v u:Value) (Q:VK),Inv X a b H s->RelV x v->RelV y u->r x y H Q ->
  wpAny (model X.prog X.w) X.A (f v u) (EP X a b Q) X.xe s
def QX (X:Cx)(f:Value->Sem Value)(r:V->Hp->VK->Prop):Prop:=
 ∀ (a:GK) (s:Shared) (b:St) (H:Hp) (x:V) (v:Value) (Q:VK),Inv X a b H s->RelV x v->r x H Q ->
  wpAny (model X.prog X.w) X.A (f v) (EP X a b Q) X.xe s
def gJ (X:Cx)(f:Value)(r:List V->Hp->VK->Prop):Prop:=
 ∀ (a:GK) (s:Shared) (d:St) (H:Hp) (b:List V) (c:List Value) (Q:VK),Inv X a d H s->Vals b c->r b H Q ->
  wpAny (model X.prog X.w) X.A (call f c) (EP X a d Q) X.xe s
def O4 (r:R2)(d e:TE):TE:=λa H Q=>d a H λx c=>e a c λy b=>r x y b Q
def Vj (r:V->Hp->VK->Prop)(b:TE):TE:=λc H Q=>b c H λx a=>r x a Q
def rI (C:Int->Int->Prop)(g:Int->Int->V):R2:=λx y H Q => ∃ i j,x = .int i/\y = .int j/\C i j/\Q (g i j) H
def N9 (g:Int->Int->V):R2:=λx y H Q => ∃ i j,x = .int i/\y = .int j/\Q (g i j) H
def rU (g:Int->V):V->Hp->VK->Prop:=λx H Q => ∃ i,x = .int i/\Q (g i) H
section
variable {X:Cx}{a b c:Expr}{ta tb tc:TE}{pos:Pos}
theorem DM (t:PE X a ta)(hb:PE X b tb){c:GK}{s:Shared}{d:St}{H:Hp}{R:V->V->Hp->Prop}(I:Inv X c d H s)
  (h:ta d H λx k=>tb d k λy e=>R x y e) {Q:GJ}{f:Value->Value->Sem Value}
  (n:∀ v u j x y e,Inv X c d e j->RelV x v->RelV y u->R x y e->wpAny (model X.prog X.w) X.A (f v u) Q X.xe j) :
  wpAny (model X.prog X.w) X.A (eval a X.env) (λv i=>wpAny (model X.prog X.w) X.A (eval b X.env) (λu g=>wpAny (model X.prog X.w) X.A (f v u) Q X.xe g) X.xe i) X.xe s:=by
 refine Hb (t c s d H _ I h) λv m l=>?_;obtain⟨x,k,B,q,o⟩:=l;refine Hb (hb c m d k _ B o) λu j l=>?_;obtain⟨y,e,z,r,p⟩:=l;exact n v u j x y e z q r p
theorem Ek {d:Operator}{r:R2}(m:JZ X (binaryOp d) r)(k:PE X a ta)(hb:PE X b tb):PE X (.BinOp a d b pos) (O4 r ta tb):=by intro c s f H Q I h;exact wpAny_BinOp (DM k hb I h λv u j x y g l i e q=>m c j f g x y v u Q l i e q)
theorem Ej {c:UnaryOp}{r:V->Hp->VK->Prop}(j:QX X (unaryOp c) r)(e:PE X a ta):PE X (.UnaryOp c a pos) (Vj r ta):=by intro b s d H Q I h;exact UnaryOp_ (Hb (e b s d H _ I h) λv l ⟨x,g,k,i,f⟩=>j b l d g x v Q k i f)
theorem RG {f:Value->Value->Sem Value}{C:Int->Int->Prop}{g:Int->Int->Int}
  (rule:∀ (i j:Int) (t u:Tok) (s:Shared) (Q:GJ) (E:GJ),C i j->Q (.int (g i j) s.toks) { s with toks:=s.toks+1 }->wpAny (model X.prog X.w) X.A (f (.int i t) (.int j u)) Q E s) :
  JZ X f (rI C λi j => .int (g i j)):=by
 intro a s e H x y v u Q I c b h;obtain⟨i,j,rfl,rfl,hc,q⟩:=h;obtain⟨t,rfl⟩:=c;obtain⟨d,rfl⟩:=b;exact rule i j t d s _ _ hc ⟨.int (g i j),H,I.tok _,⟨_,rfl⟩,q⟩
theorem Eo {f:Value->Value->Sem Value}{g:Int->Int->Int}
  (rule:∀ (i j:Int) (t u:Tok) (s:Shared) (Q:GJ) (E:GJ),Q (.int (g i j) s.toks) { s with toks:=s.toks+1 }->wpAny (model X.prog X.w) X.A (f (.int i t) (.int j u)) Q E s) :
  JZ X f (N9 λi j => .int (g i j)):=by
 intro a s e H x y v u Q I c b h;obtain⟨i,j,rfl,rfl,q⟩:=h;obtain⟨t,rfl⟩:=c;obtain⟨d,rfl⟩:=b;exact rule i j t d s _ _ ⟨.int (g i j),H,I.tok _,⟨_,rfl⟩,q⟩
theorem Df {f:Value->Value->Sem Value}{g:Int->Int->Bool}
  (rule:∀ (i j:Int) (t u:Tok) (s:Shared) (Q:GJ) (E:GJ),Q (.bool (g i j)) s->wpAny (model X.prog X.w) X.A (f (.int i t) (.int j u)) Q E s) :
  JZ X f (N9 λi j => .bl (g i j)):=by
 intro a s e H x y v u Q I c b h;obtain⟨i,j,rfl,rfl,q⟩:=h;obtain⟨t,rfl⟩:=c;obtain⟨d,rfl⟩:=b;exact rule i j t d s _ _ ⟨.bl (g i j),H,I,rfl,q⟩
def F9 (i j:Int):Prop:=0<j/\j<1073741824
def Nk (i j:Int):Prop:=(-(2 ^ 64)<i/\i<2 ^ 64)∨(-(2 ^ 64)<j/\j<2 ^ 64)
theorem Nk.ok {i j:Int}(h:Nk i j):IntMulOk i j:=by
 rcases h with ⟨a,b⟩ |⟨a,b⟩
 ·exact .of_left (intBits_le_64 a b)
 exact .of_right (intBits_le_64 a b)
theorem De:JZ X (binaryOp .Add) (N9 λi j => .int (i+j)):=Eo λ_ _ _ _ _ _ _ q=>add_int q
theorem Da:JZ X (binaryOp .Sub) (N9 λi j => .int (i-j)):=Eo λ_ _ _ _ _ _ _ q=>sub_int q
theorem Db:JZ X (binaryOp .Mult) (rI Nk λi j => .int (i*j)):=RG λ_ _ _ _ _ _ _ hc q=>mul_int q hc.ok
theorem Bf:JZ X (binaryOp .FloorDiv) (rI F9 λi j => .int (i / j)):=RG λi j _ _ _ _ _ hc q=>by have a:(0:Int)<j:=hc.1;have b:j<1073741824:=hc.2;exact floordiv_int (by omega) (by rw[Int.fdiv_eq_ediv_of_nonneg i (by omega)];exact q) (.inl (PyProof.noPylong_small (by omega)))
theorem Dc:JZ X (binaryOp .Mod) (rI (λ_ j => 0<j) λi j => .int (i % j)):=RG λi j _ _ _ _ _ hc q=>by have a:(0:Int)<j:=hc;exact mod_int' (by omega) (by rw[Int.fmod_eq_emod_of_nonneg i (by omega)];exact q)
theorem Vk {f:Value->Sem Value}{g:Int->Int}
  (rule:∀ (i:Int) (t:Tok) (s:Shared) (Q:GJ) (E:GJ),Q (.int (g i) s.toks) { s with toks:=s.toks+1 }->wpAny (model X.prog X.w) X.A (f (.int i t)) Q E s) :
  QX X f (rU λi => .int (g i)):=by
 intro a s c H x v Q I b h;obtain⟨i,rfl,q⟩:=h;obtain⟨t,rfl⟩:=b;exact rule i t s _ _ ⟨.int (g i),H,I.tok _,⟨_,rfl⟩,q⟩
theorem Cg:QX X (unaryOp .USub) (rU λi => .int (-i)):=Vk λ_ _ _ _ _ q=>neg_int q
end
section
variable {X:Cx}{a b c:Expr}{ta tb tc:TE}{pos:Pos}
theorem Dy {a:GK}{c:St}{H:Hp}{s:Shared}{Q:VK}{k b:Bool}(I:Inv X a c H s)(q:Q (.bl k) H)(e:k=b):EP X a c Q (.bool b) s:=by subst e;exact⟨.bl k,H,I,rfl,q⟩
theorem El:JZ X (compareOp .Lt) (N9 λi j => .bl (decide (i<j))):=Df λ_ _ _ _ _ _ _ q=>lt_int q
theorem Em:JZ X (compareOp .LtE) (N9 λi j => .bl (decide (i<=j))):=Df λ_ _ _ _ _ _ _ q=>le_int q
theorem En:JZ X (compareOp .Gt) (N9 λi j => .bl (decide (j<i))):=Df λ_ _ _ _ _ _ _ q=>gt_int q
theorem xE:JZ X (compareOp .Lt) (λx y H Q => ∃ i j,x = .str i/\y = .str j/\Q (.bl (decide (i.cps.toList<j.cps.toList))) H):=by intro a s d H x y v u Q I c b h;obtain⟨i,j,rfl,rfl,q⟩:=h;obtain⟨t,rfl⟩:=c;obtain⟨e,rfl⟩:=b;exact lt_str (Dy I q rfl)
theorem vd (b:Expr){a:CmpOp}(h:a≠.In:=by decide)(e:a≠.NotIn:=by decide):behindInMarks a b=false:=by
 have d:(a==CmpOp.In)=false:=by cases a<;>first |rfl |exact absurd rfl h
 have c:(a==CmpOp.NotIn)=false:=by cases a<;>first |rfl |exact absurd rfl e
 cases b<;>simp[behindInMarks,d,c]
theorem Bb {d:CmpOp}{r:R2}(n:JZ X (compareOp d) r)(l:PE X a ta)(hb:PE X b tb)(j:behindInMarks d b=false):PE X (.Compare a [d] [b] pos) (O4 r ta tb):=by intro c s f H Q I h;exact wpAny_Compare1 (DM l hb I h λv u k x y g m i e q=>n c k f g x y v u Q m i e q) j
def Ii (t:TE):TT:=λb H Q=>t b H λx a => ∃ k,x = .bl k/\Q k a
theorem wn {g:CmpOp}{r:R2}(F:JZ X (compareOp g) r)(B:PE X a ta)(hb:PE X b tb)(q:behindInMarks g b=false):PT X (.Compare a [g] [b] pos) (Ii (O4 r ta tb)):=by
 intro d s f H Q I h
 refine wpAny_isTrue_Compare1 (Hb (B d s f H _ I h) λv j ⟨x,i,G,t,o⟩=>Hb (hb d j f i _ G o) λu A ⟨y,m,C,w,p⟩ =>
  Hb (F d A f m x y v u _ C t w p) λc J ⟨z,l,n,D,k,e,E⟩=>?_) q
 subst e;cases D;exact wpAny_truthy_bool ⟨l,n,E⟩
def uQ (r d:R2)(ta tb tc:TE):TE:=λa H Q=>ta a H λx f=>tb a f λy e=>r x y e λz b => ∃ k,z = .bl k /\
 (if k=true then tc a b λc g=>d y c g Q else Q (.bl false) b)
theorem zi {j i:CmpOp}{r l:R2}(U:JZ X (compareOp j) r)(D:JZ X (compareOp i) l)(P:PE X a ta)(hb:PE X b tb)(hc:PE X c tc)
  (L:lastMarks [j,i] [b,c]=false:=by with_unfolding_all rfl):PE X (.Compare a [j,i] [b,c] pos) (uQ r l ta tb tc):=by
 intro f s g H Q I h
 refine Compare_chain (Hb (P f s g H _ I h) λv B ⟨x,t,V,M,E⟩=>chain_link (Hb (hb f B g t _ V E) λu O ⟨y,C,R,o,J⟩ =>
  Hb (U f O g C x y v u _ R M o J) λd q ⟨z,m,n,S,k,e,p⟩=>?_)) L
 subst e;cases S;refine wpAny_truthy_bool ?_;cases k with
 |false=>exact ite_ff ⟨.bl false,m,n,rfl,p⟩
 |true=>exact ite_tt (chain_last (Hb (hc f q g m _ n p) λK N ⟨T,A,F,G,w⟩=>D f N g A y T u K Q F o G w))
theorem y8 {j i:CmpOp}{r l:R2}(ho:JZ X (compareOp j) r)(J:JZ X (compareOp i) l)(Y:PE X a ta)(hb:PE X b tb)(hc:PE X c tc)
  (R:lastMarks [j,i] [b,c]=false:=by with_unfolding_all rfl):PT X (.Compare a [j,i] [b,c] pos) (Ii (uQ r l ta tb tc)):=by
 intro f s g H Q I h
 refine isTrue_chain (Hb (Y f s g H _ I h) λv C ⟨x,t,I1,S,K⟩=>test_link (Hb (hb f C g t _ I1 K) λu V ⟨y,F,Z,o,N⟩ =>
  Hb (ho f V g F x y v u _ Z S o N) λd q ⟨z,m,n,r3,k,e,p⟩=>?_)) R
 subst e;cases r3;refine wpAny_truthy_bool ?_;cases k with
 |false =>
  obtain⟨k',P,G⟩:=p;cases P;exact ite_ff ⟨m,n,G⟩
 |true =>
  refine ite_tt (test_last (Hb (hc f q g m _ n p) λO T ⟨z',A,L,M,w⟩=>Hb (J f T g A y z' u O _ L o M w) λd' s5 W=>?_));obtain⟨z2,B,D,r5,k2,E,U⟩:=W;subst E;cases r5;exact wpAny_truthy_bool ⟨B,D,U⟩
theorem nI:(sizeLine:Nat)<2 ^ 63:=by rw[sizeLine_eq];decide
theorem u_:JZ X (binaryOp .Add) (λx y H Q => ∃ i j,x = .str i/\y = .str j/\i.length+j.length<=sizeLine/\Q (.str (i++j)) H):=by intro a s f H x y v u Q I d b h;obtain⟨i,j,rfl,rfl,c,q⟩:=h;obtain⟨t,rfl⟩:=d;obtain⟨e,rfl⟩:=b;exact add_str (λe tk=>⟨.str (i++j),H,I.tok _,⟨_,rfl⟩,q⟩) c
theorem vals1 {x:V}{us:List Value}(r:Vals [x] us):∃ u,us=[u]/\RelV x u:=by
 cases r with
 |cons b a=>cases a;exact⟨_,rfl,b⟩
theorem vals2 {x y:V}{us:List Value}(r:Vals [x,y] us):∃ u a,us=[u,a]/\RelV x u/\RelV y a:=by
 cases r with
 |cons e b =>
  cases b with
  |cons d c=>cases c;exact⟨_,_,rfl,e,d⟩
theorem qa:gJ X (.type "int") (λa H Q=>(∃ i,a=[.int i]/\Q (.int i) H)∨∃ k,a=[.bl k]/\Q (.int (if k then 1 else 0)) H):=by
 intro b s d H a e Q I r h;rcases h with ⟨i,rfl,q⟩ |⟨k,rfl,q⟩
 ·obtain⟨u,rfl,t,rfl⟩:=vals1 r;exact call_int_int ⟨.int i,H,I,⟨_,rfl⟩,q⟩
 obtain⟨u,rfl,c⟩:=vals1 r;cases c;exact call_int_bool ⟨.int (if k then 1 else 0),H,I.tok _,⟨_,rfl⟩,q⟩
end
structure Lm (h:Heap) (x dx C:Addr) (mA:GL):Prop where
 obj:h.get? x=some (PySem.W.instObj C dx)
 ns:h.Ns1 dx mA
 ne:dx≠x
theorem xP {h:Heap}{c:Addr}{b:GL}(n:h.Ns1 c b):∃ d,h.get? c=some d/\∀ name,PySem.W.lookIn name d=some (b name):=by
 obtain⟨o,es,ep,l,hd,f,_,i⟩:=n;refine⟨o,l,λname=>?_⟩;have e:=i name;unfold nsFind findBy at e;rw[← Array.find?_toList] at e;unfold PySem.W.lookIn;rw[hd];dsimp only;split
 ·rename_i y q;rw[q] at e;exact congrArg some e
 rename_i q;rw[q] at e;have a:es.toList.any (·.refKey)=false:=by rw[List.any_eq_false];intro y g;obtain⟨z,t,k⟩:=f y (Array.mem_toList_iff.mp g);simp[DictEntry.refKey,k]
 have j:¬ es.toList.any (·.refKey)=true:=by rw[a];exact Bool.false_ne_true
 rw[if_neg j];exact congrArg some e
theorem Lm.look {h:Heap}{x c C:Addr}{b:GL}(I:Lm h x c C b):∃ a,PySem.W.InstAt h x (PySem.W.instObj C c) C (some a)/\∀ name,PySem.W.lookIn name a=some (b name):=
 let ⟨a,e,d⟩:=xP I.ns
 ⟨a,⟨I.obj,rfl,rfl,e⟩,d⟩
section
variable {prog:Program}{w:World}{A:Around}{E:GJ}{s:Shared}{K:GI}{x dx C f:Addr}{mA:GL}{name:Str}{v:Value}
theorem get_map {expr:Bool}{Q:GJ}(X:K.In s.heap)(I:Lm s.heap x dx C mA)(b:PySem.W.plainGet K C name=true)(f:PySem.W.hasDictIn K C=true)
  (a:PySem.W.findIn K (.ref C) name=some none) (d:mA name=some v) (e:PySem.W.handedIn v=true) (h:Q v { s with toks:=s.toks+1 }) :
  wpAny (model prog w) A (getAttr (.ref x) name expr) Q E s:=by
 obtain⟨g,J,c⟩:=I.look;exact PySem.W.get_value X J (PySem.W.plainGet_of b).1 (PySem.W.findObj_own f a rfl (by rw[c,d])) e h
theorem zS {pl:Sem Bool}{Q:Value×List Value->Shared->Prop}(X:K.In s.heap)(I:Lm s.heap x dx C mA)(a:PySem.W.plainGet K C name=true)
  (g:PySem.W.findIn K (.ref C) name=some (some (.ref f))) (e:PySem.W.isFn K (.ref f)=true) (d:mA name=none) (h:Q (.ref f,[.ref x]) s) :
  wpAny (model prog w) A (getMethod (.ref x) name pl) Q E s:=by
 obtain⟨c,J,b⟩:=I.look;exact PySem.W.method_fn X J (PySem.W.plainGet_of a).1 (PySem.W.plainGet_of a).2 g (beq_iff_eq.mp e) (by show (PySem.W.lookIn name c).map (·.isSome)=some false;rw[b,d];rfl) h
theorem AO {ns:List Str}{Q:Unit->Shared->Prop}(X:K.In s.heap)(I:Lm s.heap x dx C mA)
  (n:PySem.W.findIn K (.ref C) "__setattr__"=some (some (.builtin "object.__setattr__"))) (j:PySem.W.plainOver K C=true) (f:PySem.W.takerIn K C name=some none) (m:PySem.W.hasDictIn K C=true)
  (g:PySem.Within mA ns) (hsz:ns.length<=sizeLine)
  (h:∀ h',Lm h' x dx C (λy=>if y=name then some v else mA y)->Heap.SameBut dx s.heap h'->Q () { s with heap:=h',toks:=s.toks+2 }) :
  wpAny (model prog w) A (setAttr (.ref x) name v) Q E s:=by
 obtain⟨u,J,q⟩:=I.look;refine PySem.W.set_plain X J n (PySem.W.osa_open (s:={ s with toks:=s.toks+1 }) (r:=none) X J j f λb=>?_);obtain⟨cd,hc,o⟩:=PySem.W.any_some m;have l:s.heap.get? x=some ⟨.ref C,some dx,.plain,#[]⟩:=I.obj;refine wpAny_bind (wpAny_pure (wpAny_bind (wpAny_bind (wpAny_loadPart l (wpAny_bind (PySem.W.Looks.here (s:={ s with toks:=s.toks+1 }) (PySem.W.looks_clsIn X hc) ?_))))));rw[o];refine wpAny_pure (a:=some dx) (wpAny_bind (wpAny_pure (wpAny_bind ?_)));refine wpAny_nsSet1 (s:={ s with toks:=s.toks+1 }) I.ns λh' c d=>?_;obtain⟨oD,t,p,k,i,e⟩:=c.count (PySem.Within.cons name v g);refine wpAny_bind (wpAny_lookBehind k (by rw[i];exact pastItsLine_dict (Nat.le_trans e (by rw[length_cons];omega))) ?_);exact wpAny_pure (h _ ⟨(d.2 _ (Ne.symm I.ne)).trans I.obj,c,I.ne⟩ d)
theorem zH {R:Result->Shared->Prop}{vs:List Value}{kw:List (Str×Value)}(X:K.In s.heap)(c:PySem.W.makesIn K C=true)
  (b:PySem.W.findIn K (.ref C) "__init__"=some (some (.ref f))) (a:PySem.W.typeIn K (.ref f)=some (.type "function"))
  (h:codeAny (model prog w) (A.under (.builtin "type.__call__" ⟨.ref C::vs,kw⟩)) (.call (.ref f) ⟨.ref (s.heap.objs.size+1)::vs,kw⟩) (PySem.W.InitBack (s.heap.objs.size+1) R)
   { s with heap:=(s.heap.push PySem.W.emptyDict).push (PySem.W.instObj C s.heap.objs.size) }) :
  codeAny (model prog w) A (.call (.ref C) ⟨vs,kw⟩) R s:=by
 obtain⟨e,g,d,t,os⟩:=s;exact PySem.W.make_core (PySem.W.makes_of X c) (PySem.W.looks_findIn X b) (λself=>PySem.W.bind_fn X self a) (.inl rfl) h
end
def f6 (f:Str)(v:V):List (Str×V)->List (Str×V)
 |[]=>[(f,v)]
 |(g,x)::r=>if g=f then (g,v)::r else (g,x)::f6 f v r
theorem lL (f g:Str)(v:V):∀ fs:List (Str×V),(f6 f v fs).lookup g=if g=f then some v else fs.lookup g
 |[]=>by
  show List.lookup g [(f,v)]=_;by_cases h:g=f
  ·have hb:(g==f)=true:=beq_iff_eq.mpr h;simp only[List.lookup,hb,if_pos h]
  have hb:(g==f)=false:=beq_eq_false_iff_ne.mpr h;simp only[List.lookup,hb,if_neg h]
 |(k,x)::r=>by
  have b:=lL f g v r;rw[show f6 f v ((k,x)::r)=(if k=f then (k,v)::r else (k,x)::f6 f v r) from rfl];by_cases a:k=f
  ·rw[if_pos a];by_cases h:g=k
   ·have hb:(g==k)=true:=beq_iff_eq.mpr h;simp only[List.lookup,hb,if_pos (h.trans a)]
   have hb:(g==k)=false:=beq_eq_false_iff_ne.mpr h;simp only[List.lookup,hb,if_neg (λe:g=f=>h (e.trans a.symm))]
  rw[if_neg a];by_cases h:g=k
  ·have hb:(g==k)=true:=beq_iff_eq.mpr h;simp only[List.lookup,hb,if_neg (λe:g=f=>a (h.symm.trans e))]
  have hb:(g==k)=false:=beq_eq_false_iff_ne.mpr h;simp only[List.lookup,hb];exact b
theorem kO (f:Str)(v:V):∀ fs:List (Str×V),f∈(f6 f v fs).map (·.1)/\∀ g,g∈fs.map (·.1)->g∈(f6 f v fs).map (·.1)
 |[]=>⟨by simp[f6],λg h=>by simp at h⟩
 |(k,x)::r=>by
  obtain⟨b,c⟩:=kO f v r;rw[show f6 f v ((k,x)::r)=(if k=f then (k,v)::r else (k,x)::f6 f v r) from rfl];by_cases a:k=f
  ·rw[if_pos a];subst a;exact⟨by simp,λg h=>by simpa using h⟩
  rw[if_neg a];refine⟨?_,λg h=>?_⟩
  ·rw[map_cons];exact mem_cons_of_mem _ b
  rw[map_cons] at h ⊢;rcases mem_cons.mp h with e |e
  ·exact mem_cons.mpr (.inl e)
  exact mem_cons_of_mem _ (c g e)
theorem lN (f:Str)(v:V):∀ fs:List (Str×V),(f6 f v fs).length<=fs.length+1
 |[]=>by simp[f6]
 |(k,x)::r=>by
  have b:=lN f v r;rw[show f6 f v ((k,x)::r)=(if k=f then (k,v)::r else (k,x)::f6 f v r) from rfl];by_cases a:k=f
  ·rw[if_pos a,length_cons,length_cons];omega
  rw[if_neg a,length_cons,length_cons];omega
theorem Im.some_of {v:V}{o:Option Value}(r:Im (some v) o):∃ u,o=some u/\RelV v u:=by
 cases o with
 |none=>exact(show False from r).elim
 |some u=>exact⟨u,rfl,r⟩
theorem Im.none_of {o:Option Value}(r:Im none o):o=none:=by
 cases o with
 |none=>rfl
 |some u=>exact(show False from r).elim
theorem x_ {v:V}{u:Value}(r:RelV v u):PySem.W.handedIn u=true:=by
 cases v with
 |Hu=>cases (show u=Value.none from r);rfl
 |bl b=>cases (show u=Value.bool b from r);rfl
 |int i=>obtain⟨t,e⟩:=(show ∃ t,u=Value.int i t from r);cases e;rfl
 |str x=>obtain⟨t,e⟩:=(show ∃ t,u=Value.str x t from r);cases e;rfl
 |QP b=>obtain⟨t,e⟩:=(show ∃ t,u=Value.bytes b t from r);cases e;rfl
 |O1 b=>obtain⟨t,e⟩:=(show ∃ t,u=Value.float b t from r);cases e;rfl
 |ref a=>cases (show u=Value.ref a from r);rfl
 |ty n=>cases (show u=Value.type n from r);rfl
section
variable {P:Program}{w:World}{H H':Hp}{h h':Heap}{a C dx:Addr}{fs TL:List (Str×V)}
theorem qY (Ha:Iq P w H h)(e:H a=some (.ins C dx fs)):∃ b,Lm h a dx C b/\(∀ f,Im (fs.lookup f) (b f))/\PySem.Within b (fs.map (·.1))/\fs.length<=1000/\H dx=some (.own a):=by obtain⟨d,z,ne,c,b,n,r,q⟩:=(show Hm P w H h a (.ins C dx fs) from Ha a _ e);exact⟨b,⟨c,n,ne⟩,r,q,z,d⟩
end
structure Ln (K:GI) (C:Addr):Prop where
 pg:PySem.W.plainGet K C Str.empty=true
 hd:PySem.W.hasDictIn K C=true
 po:PySem.W.plainOver K C=true
 sa:PySem.W.findIn K (.ref C) "__setattr__"=some (some (.builtin "object.__setattr__"))
theorem Ln.get {K:GI}{C:Addr}(c:Ln K C)(f:Str):PySem.W.plainGet K C f=true:=c.pg
def Iw (K:GI)(C:Addr)(f:Str):Prop:=PySem.W.findIn K (.ref C) f=some none
theorem Iw.PB {K:GI}{C:Addr}{f:Str}(n:Iw K C f):PySem.W.takerIn K C f=some none:=by unfold PySem.W.takerIn;rw[show PySem.W.findIn K (.ref C) f=some none from n];rfl
structure XJ (K:GI) (C:Addr) (f:Str) (v:V) (u:Value):Prop where
 at_:PySem.W.findIn K (.ref C) f=some (some u)
 rel:RelV v u
 get:PySem.W.specialIn K u "__get__"=some none
 cp:PySem.W.copiedNames.contains f=false
structure Meth (K:GI) (C:Addr) (m:Str) (f:Addr):Prop where
 at_:PySem.W.findIn K (.ref C) m=some (some (.ref f))
 fn:PySem.W.isFn K (.ref f)=true
 kp:PySem.W.keepIn K (.ref f)=true
section
variable {X:Cx}{pins:GK}{σ:St}{H:Hp}{s:Shared}{a C dx:Addr}{fs:List (Str×V)}{f:Str}{v:V}{A:Around}{E:GJ}
theorem vA {b:Bool}{Q:GJ}(I:Inv X pins σ H s)(e:H a=some (.ins C dx fs))(c:Ln X.K C)(n:Iw X.K C f)(l:fs.lookup f=some v)
  (h:∀ u s',Inv X pins σ H s'->RelV v u->Q u s'):wpAny (model X.prog X.w) A (getAttr (.ref a) f b) Q E s:=by
 obtain⟨g,O,r,_,_,_⟩:=qY I.Ha e;obtain⟨u,i,d⟩:=Im.some_of (v:=v) (o:=g f) (by rw[← l];exact r f);exact get_map I.Kj O (c.get f) c.hd n i (x_ d) (h u _ (I.tok _) d)
theorem nS {m:Str}{g:Addr}{pl:Sem Bool}{Q:Value×List Value->Shared->Prop}(I:Inv X pins σ H s)(e:H a=some (.ins C dx fs))(c:Ln X.K C)(k:Meth X.K C m g)(l:fs.lookup m=none)
  (h:Q (.ref g,[.ref a]) s):wpAny (model X.prog X.w) A (getMethod (.ref a) m pl) Q E s:=by
 obtain⟨d,O,r,_,_,_⟩:=qY I.Ha e;have b:d m=none:=Im.none_of (by rw[← l];exact r m);exact zS I.Kj O (c.get m) k.at_ k.fn b h
theorem uX {y:V}{u:Value}{Q:Unit->Shared->Prop}(I:Inv X pins σ H s)(e:H a=some (.ins C dx fs))(c:Ln X.K C)(n:Iw X.K C f)(B:fs.length<1000)(l:RelV y u)
  (h:∀ s',Inv X pins σ (upd H a (.ins C dx (f6 f y fs))) s'->Q () s'):wpAny (model X.prog X.w) A (setAttr (.ref a) f u) Q E s:=by
 obtain⟨i,O,r,j,_,k⟩:=qY I.Ha e;have m:(fs.map (·.1)).length<=sizeLine:=by rw[length_map,sizeLine_eq];omega
 refine AO I.Kj O c.sa c.po n.PB c.hd j m λp d sb=>h _ ?_;have hd:∃ o,p.get? dx=some o:=let ⟨o,_,_,v,_⟩:=d.ns;⟨o,v⟩;refine I.write (x:=a) (e:=dx) (by rw[e];exact True.intro) (.inr k) (λb q hb z=>(sb.2 b hb).trans z) hd ?_;refine⟨by rw[aA O.ne];exact k,?_,O.ne,d.obj,_,d.ns,λg=>?_,λg t=>?_⟩
 ·have:=lN f y fs;omega
 ·show Im ((f6 f y fs).lookup g) (if g=f then some u else i g);rw[lL];by_cases q:g=f
  ·rw[if_pos q,if_pos q];exact l
  rw[if_neg q,if_neg q];exact r g
 by_cases q:g=f
 ·rw[q];exact(kO f y fs).1
 refine(kO f y fs).2 g (j g λz=>t ?_);show (if g=f then some u else i g)=none;rw[if_neg q];exact z
theorem Inv.made (I:Inv X pins σ H s):Inv X pins σ (upd (upd H s.heap.objs.size (.own (s.heap.objs.size+1))) (s.heap.objs.size+1) (.ins C s.heap.objs.size []))
  { s with heap:=(s.heap.push PySem.W.emptyDict).push (PySem.W.instObj C s.heap.objs.size) }:=by
 have c:(s.heap.push PySem.W.emptyDict).get? s.heap.objs.size=some PySem.W.emptyDict:=Heap.get?_push_size s.heap rfl;have d:((s.heap.push PySem.W.emptyDict).push (PySem.W.instObj C s.heap.objs.size)).get? (s.heap.objs.size+1)=some (PySem.W.instObj C s.heap.objs.size):=by have:=Heap.get?_push_size (s.heap.push PySem.W.emptyDict) (o:=PySem.W.instObj C s.heap.objs.size) rfl;rwa [Heap.size_push] at this
 have f:(s.heap.push PySem.W.emptyDict).Ns s.heap.objs.size (λ_=>none):=⟨PySem.W.emptyDict,#[],_,c,rfl,(λe g=>absurd g (by simp)),λ_=>rfl⟩;have i:=I.laid (a:=s.heap.objs.size) (o:=.own (s.heap.objs.size+1)) (h':=s.heap.push PySem.W.emptyDict) (t':=s.toks) (λb u q=>Heap.get?_push_of_some _ q) (le_refl _) ⟨_,c⟩;refine i.laid (a:=s.heap.objs.size+1) (o:=.ins C s.heap.objs.size []) (t':=s.toks) (λb u q=>Heap.get?_push_of_some _ q) (Nat.le_of_eq (Heap.size_push _ _)) ?_;have ne:s.heap.objs.size≠s.heap.objs.size+1:=ne_of_lt (lt_succ_self _);refine⟨by rw[aA ne,GV],zero_le _,ne,d,λ_=>none,(Heap.Ns1.of_empty f).at λo q=>Heap.get?_push_of_some _ q,λ_=>True.intro,λy h=>absurd rfl h⟩
theorem BW {prog:Program}{w:World}{env:Env}{e:Expr}{f:Str}{pos:Pos}{s:Shared}{Q:GJ}(hb:attributeBase e f env (eval e env)=eval e env)
  (h:wpAny (model prog w) A (eval e env) (λo a=>wpAny (model prog w) A (getAttr o f true) Q E a) E s):wpAny (model prog w) A (eval (.Attribute e f pos) env) Q E s:=
 Attribute_any_ h (by rw[arm_eval_Attribute,hb])
end
def Fv (K:GI)(d:TE)(f:Str):TE:=λe H Q=>d e H λx b => ∃ a C c fs v,x = .ref a/\b a=some (.ins C c fs)/\Ln K C/\Iw K C f/\fs.lookup f=some v/\Q v b
def Fx (K:GI)(g tv:TE)(f:Str):TS:=λD b H=>tv b H λy e=>g b e λx d => ∃ a C c fs,x = .ref a/\d a=some (.ins C c fs)/\Ln K C/\Iw K C f/\fs.length<1000 /\
 D.nx b (upd d a (.ins C c (f6 f y fs)))
section
variable {X:Cx}{o e value:Expr}{f:Str}{pos pos' PD:Pos}{ta tv:TE}
theorem C6 (i:PE X e ta)(hb:attributeBase e f X.env (eval e X.env)=eval e X.env):PE X (.Attribute e f pos) (Fv X.K ta f):=by intro b s g H Q I h;refine BW hb (Hb (i b s g H _ I h) λu t m=>?_);obtain⟨x,d,r,j,a,C,y,fs,v,ex,k,c,n,l,q⟩:=m;subst ex;obtain rfl:u=Value.ref a:=j;exact vA r k c n l λw z o p=>⟨v,d,o,p,q⟩
theorem CU (w:PE X o ta)(i:PE X value tv)(A:swapsWith value (some (.Attribute o f pos')) pos.line X.env=pure false):PS X (.Assign [.Attribute o f pos'] value pos) (Fx X.K ta tv f):=by intro b s d H D I h;refine plainObj_wpAny_Assign_Attribute (Hb (i b s d H _ I h) λu k ⟨y,g,B,j,q⟩=>Hb (w b k d g _ B q) λe J v=>?_) A;obtain⟨x,F,z,p,a,C,G,fs,ex,t,c,n,l,r⟩:=v;subst ex;obtain rfl:e=Value.ref a:=p;exact uX z t c n l j λE m=>⟨d,_,m,r⟩
theorem B9 {pl:Sem Bool}{m:Str}{d:Pos}{args:List Expr}{b:GK}{s:Shared}{j:St}{H:Hp}{Q:GJ}{p:TE}(y:PE X e p)(I:Inv X b j H s)
  (h:p j H λx n => ∃ a C r fs g,x = .ref a/\n a=some (.ins C r fs)/\Ln X.K C/\Meth X.K C m g/\fs.lookup m=none /\
   ∀ i,Inv X b j n i->wpAny (model X.prog X.w) X.A (callWith pos (.ref g) [.ref a] (backTo pos (starEach args X.env)) (backToKw pos (keywordEach [] X.env))) Q X.xe i)
  (v:eval (.Call (.Attribute e m d) args [] pos) X.env=(do
   let o ← eval e X.env
   standAt d.atName
   let (f,first) ← holding [o] (getMethod o m pl)
   callWith pos f first (backTo pos (starEach args X.env)) (backToKw pos (keywordEach [] X.env)))) :
  wpAny (model X.prog X.w) X.A (eval (.Call (.Attribute e m d) args [] pos) X.env) Q X.xe s:=by
 refine PySem.W.methodCall_KW (pl:=pl) (Hb (y b s j H _ I h) λu i D=>?_) v;obtain⟨x,n,t,z,a,C,r,fs,g,ex,B,c,k,l,q⟩:=D;subst ex;obtain rfl:u=Value.ref a:=z;exact nS t B c k l (q i t)
end
section
variable {X:Cx}{pins:GK}{σ:St}{H:Hp}{s:Shared}{A:Around}{E:GJ}{Q:GJ}{c:Value}{b:Bool}
inductive J3 (K:GI) (H:Hp):V->Value->Prop where
 |Hu:J3 K H .Hu (.type "NoneType")
 |bl (x:Bool):J3 K H (.bl x) (.type "bool")
 |int (i:Int):J3 K H (.int i) (.type "int")
 |str (x:Str):J3 K H (.str x) (.type "str")
 |O1 (x:UInt64):J3 K H (.O1 x) (.type "float")
 |lst {a:Addr}{xs:List V}(e:H a=some (.lst xs)):J3 K H (.ref a) (.type "list")
 |LC {a:Addr}{o:Obj}{xs:List V}(e:H a=some (.LC o (.lst xs))):J3 K H (.ref a) (.type "list")
 |tup {a:Addr}{xs:List V}(e:H a=some (.tup xs)):J3 K H (.ref a) (.type "tuple")
 |dK {a:Addr}{kvs:List (Key×V)}(e:H a=some (.dK kvs)):J3 K H (.ref a) (.type "dict")
 |dT {a:Addr}{kvs:List (List Key×V)}(e:H a=some (.dT kvs)):J3 K H (.ref a) (.type "dict")
 |ins {a C dx:Addr}{fs:List (Str×V)}(e:H a=some (.ins C dx fs)) (cl:Ln K C) (ha:PySem.W.findIn K (.ref C) "__class__"=some (some (.builtin "object.__class__")))
   (hn:PySem.W.specialIn K (.builtin "object.__class__") "__get__"=some (some (.builtin "getset_descriptor.__get__"))) (XM:PySem.W.takesIn K (.builtin "object.__class__")=some true)
   (hm:PySem.W.mroIn K C (.type "object")=some true):J3 K H (.ref a) (.ref C)
end
structure Hg (k:Nat) (A:Around):Prop where
 hd:A.handled=none
 dp:A.depth+3*k+5<recursionLimit
 un:A.units+16*k+200<cLine
 gd:A.guards=some []
theorem Hg.mono {j k:Nat}{A:Around}(r:Hg k A)(h:j<=k):Hg j A:=⟨r.hd,by have:=r.dp;omega,by have:=r.un;omega,r.gd⟩
theorem Hg.deeper {k:Nat}{A:Around}(r:Hg (k+1) A)(env:Env):Hg k (A.deeper env):=
 ⟨r.hd,by have:=r.dp;show A.depth+1+3*k+5 < _;omega,by have:=r.un;show A.units+3+16*k+200 < _;omega,r.gd⟩
theorem vk {A:Around}{C:Addr}{us:List Value}{kw:List (Str×Value)}:(A.under (.builtin "type.__call__" ⟨.ref C::us,kw⟩)).depth=A.depth+1:=by
 first |rfl |simp[Around.under,Code.weight,Code.isCreation,Code.isGuard,Code.isCaller,Code.frames,Code.isFrame,guardIds]
theorem vj {A:Around}{C:Addr}{us:List Value}{kw:List (Str×Value)}:(A.under (.builtin "type.__call__" ⟨.ref C::us,kw⟩)).units=A.units+1:=by
 first |rfl |simp[Around.under,Code.cUnits,Code.frames,Code.isFrame]
theorem ti {A:Around}{C:Addr}{us:List Value}{kw:List (Str×Value)}:(A.under (.builtin "type.__call__" ⟨.ref C::us,kw⟩)).guards=A.guards:=by
 first |rfl |simp[Around.under,Code.guards,Code.isGuard,guardIds,pushGuards]
theorem Hg.make {k:Nat}{A:Around}(r:Hg (k+1) A)(C:Addr)(us:List Value)(kw:List (Str×Value)):Hg k (A.under (.builtin "type.__call__" ⟨.ref C::us,kw⟩)):=
 ⟨r.hd,by have:=r.dp;rw[vk];omega,by have:=r.un;rw[vj];omega,by rw[ti];exact r.gd⟩
theorem Hg.depth {k:Nat}{A:Around}(r:Hg k A):A.depth<recursionLimit:=by have:=r.dp;omega
theorem Hg.units {k:Nat}{A:Around}(r:Hg k A):A.units+64<cLine:=by have:=r.un;omega
def r_:TA:=λ_ H Q=>Q [] H
def B0 (e:TE)(b:TA):TA:=λa H Q=>e a H λx d=>b a d λf c=>Q (x::f) c
section
variable {X:Cx}{e:Expr}{es:List Expr}{te:TE}{t:TA}{pos:Pos}
theorem HB:PA X [] r_:=λ_ _ _ _ H Q I h=>Calls.spliced_nil ⟨[],H,I,.nil,h⟩
theorem b_ (m:PE X e te)(hr:PA X es t)(o:starEach (e::es) X.env=(false,eval e X.env)::starEach es X.env:=by rfl):PA X (e::es) (B0 te t):=by intro pos a s b H Q I h;rw[o];show wpAny _ _ (spliced ((false,eval e X.env)::backTo pos (starEach es X.env))) _ _ s;refine Calls.spliced_cons (Hb (m a s b H _ I h) λu d l=>?_);obtain⟨x,c,p,j,g⟩:=l;exact Hb (hr pos a d b c _ p g) λr v ⟨q,f,n,k,i⟩=>⟨x::q,f,n,.cons j k,i⟩
def Fp (t:TA):TE:=λc H Q=>t c H λb a=>b.length<=sizeLine/\∀ p,a p=none->Q (.ref p) (upd a p (.tup b))
def Fs (t:TA):TE:=λc H Q=>t c H λb a=>b.length<=sizeLine/\∀ p,a p=none->Q (.ref p) (upd a p (.lst b))
theorem C0 {x1}(h:PA X es t):PE X (.Tuple es x1 pos) (Fp t):=by intro a s g H Q I k;refine wpAny_Tuple_spliced (Hb (h pos a s g H _ I k) λj c ⟨l,d,f,r,z,q⟩=>⟨by rw[← r.length];exact z,?_⟩);have i:d c.heap.objs.size=none:=f.Ha.fresh (le_refl _);refine⟨.ref c.heap.objs.size,upd d c.heap.objs.size (.tup l),f.laid (t':=c.toks) (λb u e=>Heap.get?_push_of_some _ e) (le_refl _) ?_,rfl,q _ i⟩;exact⟨z,j,r,JV.new _ _⟩
theorem u8 (h:PA X es t):PE X (.List es pos) (Fs t):=by intro a s g H Q I k;refine wpAny_List_spliced (Hb (h pos a s g H _ I k) λj c ⟨l,d,f,r,z,q⟩=>⟨by rw[← r.length];exact z,?_⟩);have i:d c.heap.objs.size=none:=f.Ha.fresh (le_refl _);refine⟨.ref c.heap.objs.size,upd d c.heap.objs.size (.lst l),f.laid (t':=c.toks) (λb u e=>Heap.get?_push_of_some _ e) (le_refl _) ?_,rfl,q _ i⟩;exact⟨z,j,0,r,Heap.get?_push_size _ rfl⟩
end
abbrev Sp:=List V->Hp->VK->XK->Prop
abbrev M3:=List Env->Hp->Shared->XK->GJ
structure K1 (P:Program) (w:World) (K:GI) (mg:GL) (base:Heap) (A:Around) (outer:List Env) (s:Shared) (H:Hp):Prop where
 frames:A.frames=some outer
 mod:Mod K mg base
 bs:∀ b o,base.get? b=some o->s.heap.get? b=some o/\H b=none
 Mp:base.objs.size<=s.heap.objs.size
 Jo:s.heap.FunFrames base outer
 N3:∀ b∈Lk outer,H b=none
 Ha:Iq P w H s.heap
 bare:AllBare s.gens
def CE (outer:List Env)(P:Program)(w:World)(H:Hp)(s:Shared)(Q:VK)(u:Value)(s':Shared):Prop:=
 ∃ v a,s'.os=s.os/\AllBare s'.gens/\Un (Lk outer) [] H a s.heap s'.heap/\Iq P w a s'.heap/\RelV v u/\Q v a
def CR (a:M3)(outer:List Env)(P:Program)(w:World)(H:Hp)(s:Shared)(Q:VK)(E:XK)(r:Result)(s':Shared):Prop:=
 match r with
 | .ok (.ret u)=>CE outer P w H s Q u s'
 | .ok _=>False
 | .error e=>a outer H s E e s'
structure IP (P:Program) (w:World) (K:GI) (mg:GL) (base:Heap) (CX:M3) (k:Nat) (f:Addr) (fd:FuncData) (ps:List Str) (sp:Sp):Prop where
 len:∀ vs H Q E,sp vs H Q E->vs.length=ps.length
 run:∀ (A:Around) (outer:List Env) (s:Shared) (H:Hp) (args:Args) (us:List Value) (vs:List V) (Q:VK) (E:XK),Hg k A->K1 P w K mg base A outer s H->BindsTo s fd args (ps.zip us)->Vals vs us->sp vs H Q E ->
  codeAny (model P w) A (.call (.ref f) args) (CR CX outer P w H s Q E) s
theorem IP.imp {P:Program}{w:World}{K:GI}{mg:GL}{base:Heap}{d:M3}{k:Nat}{f:Addr}{fd:FuncData}{a:List Str}{c b:Sp}(F:IP P w K mg base d k f fd a c)
  (h:∀ vs H Q E,b vs H Q E->c vs H Q E):IP P w K mg base d k f fd a b:=
 ⟨λvs H Q E q=>F.len vs H Q E (h _ _ _ _ q),λA outer s H args i vs Q E hr g hb e j=>F.run A outer s H args i vs Q E hr g hb e (h _ _ _ _ j)⟩
theorem K1.make {P:Program}{w:World}{K:GI}{mg:GL}{base:Heap}{A:Around}{outer:List Env}{s:Shared}{H:Hp}(e:K1 P w K mg base A outer s H)(C:Addr)(us:List Value)(kw:List (Str×Value)) :
  K1 P w K mg base (A.under (.builtin "type.__call__" ⟨.ref C::us,kw⟩)) outer s H:=⟨by first |exact e.frames |(simpa [Around.under,Code.envs,Code.isFrame,pushEnvs] using e.frames),e.mod,e.bs,e.Mp,e.Jo,e.N3,e.Ha,e.bare⟩
section
variable {X:Cx}{pins:GK}{σ:St}{H:Hp}{s s':Shared}
theorem Inv.Nl (I:Inv X pins σ H s):K1 X.prog X.w X.K X.mg X.base X.A X.stack s H:=
 ⟨I.ok.frames,I.ok.mod,I.bs,Nat.le_trans I.ok.Mp I.sz,I.stack,I.IX,I.Ha,I.bare⟩
theorem Inv.after {Q:VK}{u:Value}(I:Inv X pins σ H s)(h:CE X.stack X.prog X.w H s Q u s'):EP X pins σ Q u s':=by obtain⟨v,a,os,bare,un,Ha,r,q⟩:=h;obtain⟨e,g,d,t,c⟩:=s';obtain rfl:c=s.os:=os;exact⟨v,a,I.call (h':=e) (g':=g) (d':=d) (t':=t) (ch:=[]) un Ha bare (λb z=>absurd z (by simp)),r,q⟩
end
def B1 (b:Sp)(e:List V)(E:XK)(t:TA):TE:=λc H Q=>t c H λa d=>b (a++e) d Q E
def D4 (C:Addr)(m:Str)(f:Sp)(i:List V)(E:XK)(h:TE)(t:TA):TE:=λb H Q=>h b H λx c => ∃ a e fs,x = .ref a/\c a=some (.ins C e fs)/\fs.lookup m=none /\
 t b c λd g=>f (x::(d++i)) g Q E
def D5 (C:Addr)(d:Sp)(g:List V)(E:XK)(t:TA):TE:=λe H Q=>t e H λc b => ∀ x a,b x=none->b a=none->a≠x ->
 d (.ref x::(c++g)) (upd (upd b a (.own x)) x (.ins C a [])) (λv f=>v = .Hu/\Q (.ref x) f) E
def Binds (K:GI)(fd:FuncData)(b:List Str)(ds:List Value):Prop:=
 ∀ (s:Shared) (a:List Value),K.In s.heap->(a++ds).length=b.length->BindsTo s fd ⟨a,[]⟩ (b.zip (a++ds))
theorem Binds.all {K:GI}{fd:FuncData}{a:List Str}(h:∀ us:List Value,us.length=a.length->bindArgs fd ⟨us,[]⟩=pure (a.zip us)):Binds K fd a []:=λs us _ b=>by rw[append_nil] at b ⊢;exact .of_eq (h us b)
def Passes (d:M3)(X:Cx)(E:XK):Prop:=∀ (a:GK) (c:St) (H:Hp) (s:Shared) (e:Value) (b:Shared),Inv X a c H s->d X.stack H s E e b->X.xe e b
section
variable {X:Cx}{CX:M3}{k:Nat}{f C:Addr}{fd:FuncData}{ps:List Str}{sp:Sp}{KL:List V}{ds:List Value}{E:XK}{x m:Str}{p pos apos:Pos}{e o:Expr}{es:List Expr}{ta:TE}{t:TA}
theorem yZ {a:GK}{c:St}{H:Hp}{s:Shared}{Q:VK}{us:List Value}{vs:List V}(F:IP X.prog X.w X.K X.mg X.base CX k f fd ps sp)(hr:Hg k X.A)(hb:Binds X.K fd ps ds)(hd:Vals KL ds)(l:Passes CX X E)
  (I:Inv X a c H s) (r:Vals vs us) (h:sp (vs++KL) H Q E):wpAny (model X.prog X.w) X.A (call (.ref f) us) (EP X a c Q) X.xe s:=by
 have d:Vals (vs++KL) (us++ds):=r.append hd;have g:(us++ds).length=ps.length:=by rw[← d.length];exact F.len _ _ _ _ h
 refine wpAny_call (codeAny_mono (F.run X.A X.stack s H ⟨us,[]⟩ (us++ds) (vs++KL) Q E hr I.Nl (hb s us I.Kj g) d h) λr j b=>?_);cases r with
 |error e=>exact l a c H s e j I b
 |ok i =>
  cases i with
  |ret u=>exact I.after b
  |next=>exact False.elim b
  |brk=>exact False.elim b
  |cont=>exact False.elim b
theorem Bc (F:IP X.prog X.w X.K X.mg X.base CX k f fd ps sp)(hr:Hg k X.A)(l:Gl X x)(n:X.mg x=some (.ref f))(g:PySem.W.keepIn X.K (.ref f)=true)(hb:Binds X.K fd ps ds)(hd:Vals KL ds)(m:Passes CX X E)
  (o:PA X (e::es) t) (j:(x==("__debug__":Str))=false:=by decide) (i:starEach (e::es) X.env=(false,eval e X.env)::starEach es X.env:=by rfl) (d:(backTo pos (starEach es X.env)).any (·.1)=false:=by rfl) :
  PE X (.Call (.Name x p) (e::es) [] pos) (B1 sp KL E t):=by
 intro a s c H Q I h;refine wpAny_Call_Name_kw (qT I l n ?_ j);refine PySem.W.callWith_K (h₀:=X.base) I.ok.mod.LW g (Hb (o pos a s c H _ I h) λz v ⟨y,u,b,r,q⟩=>⟨b.Kj,?_⟩) i d;exact yZ F hr hb hd m b r q
theorem A9 {pl:Sem Bool}(D:PE X o ta)(c:Ln X.K C)(i:Meth X.K C m f)(F:IP X.prog X.w X.K X.mg X.base CX k f fd ps sp)(hr:Hg k X.A)(hb:Binds X.K fd ps ds)(hd:Vals KL ds)(M:Passes CX X E)(O:PA X (e::es) t)
  (z:starEach (e::es) X.env=(false,eval e X.env)::starEach es X.env:=by rfl) (B:(backTo pos (starEach es X.env)).any (·.1)=false:=by rfl)
  (v:eval (.Call (.Attribute o m apos) (e::es) [] pos) X.env=(do
   let d ← eval o X.env
   standAt apos.atName
   let (f,first) ← holding [d] (getMethod d m pl)
   callWith pos f first (backTo pos (starEach (e::es) X.env)) (backToKw pos (keywordEach [] X.env))):=by rfl) :
  PE X (.Call (.Attribute o m apos) (e::es) [] pos) (D4 C m sp KL E ta t):=by
 intro b s g H Q I h;refine PySem.W.methodCall_KW (pl:=pl) (Hb (D b s g H _ I h) λu y N=>?_) v;obtain⟨x,p,n,G,a,R,fs,ex,L,l,q⟩:=N;subst ex;obtain rfl:u=Value.ref a:=G;refine nS n L c i l ?_;refine PySem.W.callWith_K (first:=[.ref a]) (h₀:=X.base) I.ok.mod.LW i.kp (Hb (O pos b y g p _ n q) λus S ⟨vs,P,j,r,J⟩=>⟨j.Kj,?_⟩) z B;exact yZ (us:=.ref a::us) (vs:=.ref a::vs) F hr hb hd M j (.cons rfl r) J
structure Mk (K:GI) (C f:Addr):Prop where
 makes:PySem.W.makesIn K C=true
 init:PySem.W.findIn K (.ref C) "__init__"=some (some (.ref f))
 fn:PySem.W.isFn K (.ref f)=true
 kp:PySem.W.keepIn K (.ref C)=true
theorem yY {a:GK}{g:St}{H:Hp}{s:Shared}{Q:VK}{us:List Value}{vs:List V}(M:Mk X.K C f)(F:IP X.prog X.w X.K X.mg X.base CX k f fd ps sp)(hr:Hg (k+1) X.A)(hb:Binds X.K fd ps ds)(hd:Vals KL ds)
  (y:Passes CX X E) (I:Inv X a g H s) (r:Vals vs us)
  (h:∀ x c,H x=none->H c=none->c≠x->sp (.ref x::(vs++KL)) (upd (upd H c (.own x)) x (.ins C c [])) (λv q=>v = .Hu/\Q (.ref x) q) E) :
  wpAny (model X.prog X.w) X.A (call (.ref C) us) (EP X a g Q) X.xe s:=by
 have j:=h (s.heap.objs.size+1) s.heap.objs.size (I.Ha.fresh (le_succ _)) (I.Ha.fresh (le_refl _)) (ne_of_lt (lt_succ_self _));have d:=Inv.made (C:=C) I;have i:Vals (V.ref (s.heap.objs.size+1)::(vs++KL)) (Value.ref (s.heap.objs.size+1)::(us++ds)):=.cons rfl (r.append hd);have l:(Value.ref (s.heap.objs.size+1)::us++ds).length=ps.length:=by have e:=i.length;rw[F.len _ _ _ _ j] at e;exact e.symm
 refine wpAny_call (zH (f:=f) I.Kj M.makes M.init (beq_iff_eq.mp M.fn) (codeAny_mono (F.run _ X.stack _ _ ⟨Value.ref (s.heap.objs.size+1)::us,[]⟩ (Value.ref (s.heap.objs.size+1)::(us++ds)) _ _ E (hr.make C us [])
  (d.Nl.make C us []) (hb _ (Value.ref (s.heap.objs.size+1)::us) d.Kj l) i j) λr p b=>?_))
 cases r with
 |error e=>exact y a g _ _ e p d b
 |ok n =>
  cases n with
  |ret u =>
   obtain⟨v,m,t,o,ev,z⟩:=d.after b;subst ev;exact⟨o,⟨V.ref (s.heap.objs.size+1),m,t,rfl,z⟩⟩
  |next=>exact False.elim b
  |brk=>exact False.elim b
  |cont=>exact False.elim b
theorem A_ (M:Mk X.K C f)(F:IP X.prog X.w X.K X.mg X.base CX k f fd ps sp)(hr:Hg (k+1) X.A)(j:Gl X x)(m:X.mg x=some (.ref C))(hb:Binds X.K fd ps ds)(hd:Vals KL ds)(l:Passes CX X E)
  (n:PA X (e::es) t) (i:(x==("__debug__":Str))=false:=by decide) (g:starEach (e::es) X.env=(false,eval e X.env)::starEach es X.env:=by rfl) (d:(backTo pos (starEach es X.env)).any (·.1)=false:=by rfl) :
  PE X (.Call (.Name x p) (e::es) [] pos) (D5 C sp KL E t):=by
 intro a s c H Q I h;refine wpAny_Call_Name_kw (qT I j m ?_ i);refine PySem.W.callWith_K (h₀:=X.base) I.ok.mod.LW M.kp (Hb (n pos a s c H _ I h) λy u ⟨v,o,b,r,q⟩=>⟨b.Kj,?_⟩) g d;exact yY M F hr hb hd l b r q
end
section
variable {X:Cx}{CX:M3}{k:Nat}{f C:Addr}{fd:FuncData}{ps ks:List Str}{sp:Sp}{E:XK}{x m:Str}{p pos apos Vq:Pos}{e o:Expr}{es:List Expr}{XN:List Keyword}{te ta:TE}{t tk:TA}{nm:Option Str}
structure RI (K:GI) (fd:FuncData) (ps ks:List Str) (g:List Value->List Value->List Value) (gV:List V->List V->List V):Prop where
 to:∀ (s:Shared) (us ws:List Value),K.In s.heap->(g us ws).length=ps.length->BindsTo s fd ⟨us,ks.zip ws⟩ (ps.zip (g us ws))
 rel:∀ {vs:List V}{us:List Value}{zs:List V}{ws:List Value},Vals vs us->Vals zs ws->Vals (gV vs zs) (g us ws)
variable {g:List Value->List Value->List Value}{gV:List V->List V->List V}
end
structure GR (N P:List Str) (sc:Scope):Prop where
 kind:sc.kind = .function
 co:sc.isCoroutine=false
 gen:sc.isGenerator=false
 nd:N.Nodup
 pre:N.take P.length=P
 par:∀ x∈P,sc.names.lookup x=some .local∨sc.names.lookup x=some .cell
 N_:∀ y∈sc.names,y.2≠.free
theorem qe {kindOf:Str->Option NameKind}{x:Str}:∀ {binds:List (Str×Value)}{m:GL},(∀ v,(x,v)∉binds)->bindL kindOf binds m x=m x
 |[],_,_=>rfl
 |(n,v)::r,m,h=>by
  unfold bindL;rw[qe λw a=>h w (mem_cons_of_mem _ a)];split
  ·have:x≠n:=by rintro rfl;exact h v mem_cons_self
   simp[this]
  rfl
theorem qg {kindOf:Str->Option NameKind}{x:Str}:∀ {binds:List (Str×Value)}{m:GL},(∀ v,(x,v)∉binds)->bindC kindOf binds m x=m x
 |[],_,_=>rfl
 |(n,v)::r,m,h=>by
  unfold bindC;rw[qg λw a=>h w (mem_cons_of_mem _ a)];split
  ·rfl
  have:x≠n:=by rintro rfl;exact h v mem_cons_self
  simp[this]
theorem qf {kindOf:Str->Option NameKind}{x:Str}{v:Value}:∀ {P:List Str}{vs:List Value}{i:Nat}{m:GL},P.Nodup->P[i]?=some x->vs[i]?=some v->kindOf x=some .local ->
  bindL kindOf (P.zip vs) m x=some v
 |[],_,_,_,_,h,_,_=>by simp at h
 |_::_,[],_,_,_,_,h,_=>by simp at h
 |p::P,w::vs,0,m,nd,h1,h2,hk=>by
  simp at h1 h2;subst h1;subst h2;show bindL kindOf ((p,w)::P.zip vs) m p=_;unfold bindL;rw[qe λv a=>(nodup_cons.mp nd).1 (of_mem_zip a).1,if_pos hk];simp
 |p::P,w::vs,i+1,m,nd,h1,h2,hk=>by
  show bindL kindOf ((p,w)::P.zip vs) m x=_;unfold bindL;exact qf (i:=i) (nodup_cons.mp nd).2 (by simpa using h1) (by simpa using h2) hk
theorem qh {kindOf:Str->Option NameKind}{x:Str}{v:Value}:∀ {P:List Str}{vs:List Value}{i:Nat}{m:GL},P.Nodup->P[i]?=some x->vs[i]?=some v->kindOf x≠some .local ->
  bindC kindOf (P.zip vs) m x=some v
 |[],_,_,_,_,h,_,_=>by simp at h
 |_::_,[],_,_,_,_,h,_=>by simp at h
 |p::P,w::vs,0,m,nd,h1,h2,hk=>by
  simp at h1 h2;subst h1;subst h2;show bindC kindOf ((p,w)::P.zip vs) m p=_;unfold bindC;rw[qg λv a=>(nodup_cons.mp nd).1 (of_mem_zip a).1,if_neg hk];simp
 |p::P,w::vs,i+1,m,nd,h1,h2,hk=>by
  show bindC kindOf ((p,w)::P.zip vs) m x=_;unfold bindC;exact qh (i:=i) (nodup_cons.mp nd).2 (by simpa using h1) (by simpa using h2) hk
def start (N:List Str)(vs:List V):St:=vs.map some++replicate (N.length-vs.length) none
def l_ (b:M3)(P:Program)(w:World)(K:GI)(mg:GL)(base:Heap)(N:List Str)(qual:Str)(scope:Scope)(f:Addr)(cd:Value)(A:Around)(outer:List Env)(s:Shared)(H:Hp)(E:XK):Cx where
 prog:=P
 w:=w
 K:=K
 mg:=mg
 base:=base
 A:=A.deeper (envOfC qual scope s.heap.objs.size f cd)
 N:=N
 s₀:=s
 H₀:=H
 env:=envOfC qual scope s.heap.objs.size f cd
 outer:=outer
 stack:=envOfC qual scope s.heap.objs.size f cd::outer
 ex:=[]
 calm:=true
 fn:=λ_=>true
 pn:=[]
 xe:=λe c=>wpAny (model P w) (A.deeper (envOfC qual scope s.heap.objs.size f cd)) (leaving (envOfC qual scope s.heap.objs.size f cd) e) (λ_ a=>b outer H s E e a) (λd a=>b outer H s E d a) c
theorem ud {sc:Scope}{n:Nat}{x:Str}(h:sc.names.lookup x=some .cell):∃ c,(cellsFrom n sc.names []).lookup x=some c:=by have q:=PySem.W.cellsFrom_some sc.names n [] (.inl h);exact Option.isSome_iff_exists.mp q
theorem xX {G:M3}{P:Program}{w:World}{K:GI}{mg:GL}{base:Heap}{N j:List Str}{qual:Str}{scope:Scope}{f:Addr}{cd:Value}{A:Around}{outer:List Env}{s B:Shared}{H:Hp}{E:XK}{us:List Value}{vs:List V}
  (S:GR N j scope) (hd:A.handled=none) (g:K1 P w K mg base A outer s H) (L:vs.length=j.length) (r:Vals vs us)
  (x:InCallC s s.heap.objs.size (bindL (envOfC qual scope s.heap.objs.size f cd).kindOf (j.zip us) λ_=>none) (cellsFrom (s.heap.objs.size+1) scope.names []) (bindC (envOfC qual scope s.heap.objs.size f cd).kindOf (j.zip us) λ_=>none) B) :
  Inv (l_ G P w K mg base N qual scope f cd A outer s H E) [] (start N vs) H B:=by
 have M:j.length<=N.length:=by have:=congrArg List.length S.pre;rw[length_take] at this;omega
 obtain⟨m,tk,rfl,C⟩:=x.done;have t:∀ b:Addr,b∉(l_ G P w K mg base N qual scope f cd A outer s H E).ex:=λb z=>absurd (show b∈([]:List Addr) from z) (by simp)
 refine⟨⟨g.mod,S.kind,rfl,rfl,le_refl _,λy z c m d=>?_,λy hy=>?_,λy c _ h=>?_,λ_=>hd,Around.frames_deeper g.frames,.inr ⟨rfl,rfl⟩,λb z=>absurd z (t b),g.bs,g.Mp,λb _ _=>t b,λb z=>absurd z (t b),g.Jo,g.N3⟩,
  rfl,g.bare,Un.kept C,⟨_,x.toInCall.ns,λi y v m d O=>?_⟩,λy c h=>⟨_,x.cell y c h⟩,g.Ha.fresh (le_refl _),λy c h=>?_,λp l=>absurd (show p∈([]:GK) from l) (by simp),g.Ha.kept C,?_⟩
 ·exact name_of_addr x.apart (PySem.mem_of_lookup m) (PySem.mem_of_lookup d)
 ·have hy:scope.names.lookup y=some .cell∨scope.names.lookup y=some .free:=hy;rcases hy with hy |hy
  ·exact ud hy
  exact absurd rfl (S.N_ _ (PySem.mem_of_lookup hy))
 ·exact le_of_lt (x.above y c (PySem.mem_of_lookup h))
 ·have o:i<vs.length:=by
   unfold start at d;by_cases o:i<vs.length
   ·exact o
   rw[getElem?_append_right (by simpa using o)] at d;rw[List.getElem?_replicate] at d;split at d<;>cases d
  have J:vs[i]?=some v:=by
   unfold start at d;rw[getElem?_append_left (by simpa using o),getElem?_map] at d;cases e:vs[i]? with
   |none=>rw[e] at d;cases d
   |some a=>rw[e] at d;cases d;rfl
  obtain⟨u,D,I⟩:=r.get J;have l:j[i]?=some y:=by rw[← S.pre,List.getElem?_take_of_lt (by omega)];exact m
  have F:j.Nodup:=by rw[← S.pre];exact S.nd.sublist (List.take_sublist _ _)
  refine⟨u,I,?_⟩;rcases S.par y (mem_of_getElem? l) with k |k
  ·exact .inl ⟨k,qf F l D k⟩
  obtain⟨c,e⟩:=ud (n:=s.heap.objs.size+1) k;refine .inr ⟨.inl k,c,e,?_⟩;have q:=x.cell y c e;rw[qh F l D (by show scope.names.lookup y≠_;rw[k];decide)] at q;exact q
 ·exact g.Ha.fresh (le_of_lt (x.above y c (PySem.mem_of_lookup h)))
 unfold start;show _=N.length;rw[List.length_append,length_map,List.length_replicate];omega
theorem EI {i:M3}{P:Program}{w:World}{K:GI}{mg:GL}{base:Heap}{k:Nat}{f:Addr}{name qual:Str}{params:Arguments}{body:List Stmt}{scope:Scope}{D kV doc C c ct L:Value}{B U:Option Addr}
  {K2:Array (Option Value)}{N h:List Str}{p:Sp}(Z:K.lookup f=some ⟨L,U,.func (PySem.W.fnOf name qual params body scope D kV doc C B c ct),K2⟩) (Kr:PySem.W.codeIn K c qual=true) (S:GR N h scope)
  (len:∀ vs H Q E,p vs H Q E->vs.length=h.length)
  (G:∀ (A:Around) (outer:List Env) (s:Shared) (H:Hp) (vs:List V) (Q:VK) (E:XK),Hg k (A.deeper (envOfC qual scope s.heap.objs.size f c))->p vs H Q E ->
   ∃ t,Lg (l_ i P w K mg base N qual scope f c A outer s H E) body t/\t { nx:=λ_ H'=>Q .Hu H',rt:=Q } (start N vs) H) :
  IP P w K mg base i (k+1) f (PySem.W.fnOf name qual params body scope D kV doc C B c ct) h p:=by
 refine⟨len,λA outer s H args us vs Q E hr g hb r z=>?_⟩;have X:=len _ _ _ _ z;have KX:K.In s.heap:=g.mod.LW.keeps λb o e=>(g.bs b o e).1;have j:s.heap.NoLimit:=g.mod.nolimit.keeps λb o e=>(g.bs b o e).1
 have O:∀ y∈h.zip us,scope.names.lookup y.1=some .local∨(scope.names.lookup y.1=some .cell/\((cellsFrom (s.heap.objs.size+1) scope.names []).lookup y.1).isSome=true):=λZq T=>by
  obtain⟨n,v⟩:=Zq
  rcases S.par n (of_mem_zip T).1 with q |q
  ·exact .inl q
  exact .inr ⟨q,PySem.W.cellsFrom_some _ _ _ (.inl q)⟩
 refine codeAny_call_function hr.depth (KX _ _ Z) rfl S.co S.gen rfl (PySem.W.codeRec_of KX Kr) (hb _ _ _ _ ?_);refine wpAny_newFunctionEnv_cells S.kind O λenv he F x=>?_;subst he;refine⟨j.keeps x.toInCall.keep,codeAny_func ?_⟩;obtain⟨t,R,M⟩:=G A outer s H vs Q E (hr.deeper _) z;have I:Inv (l_ i P w K mg base N qual scope f c A outer s H E) [] (start N vs) H F:=xX S hr.hd g X r x;refine wpAny_mono (R [] F (start N vs) H _ I M) (λY m d=>?_) λe m d=>d
 have fin:∀ {a:St}{H':Hp}{v:V}{u:Value},Inv (l_ i P w K mg base N qual scope f c A outer s H E) [] a H' m->RelV v u->Q v H'->CE outer P w H s Q u m:=
  λ{a H' v u} J l q=>⟨v,H',J.os,J.bare,J.base,J.Ha,l,q⟩
 cases Y with
 |ret u =>
  obtain⟨v,a,H',J,l,q⟩:=d;exact fin J l q
 |next =>
  obtain⟨a,H',J,q⟩:=d;exact fin (v:=V.Hu) (u:=Value.none) J rfl q
 |brk =>
  obtain⟨_,_,_,q⟩:=d;exact False.elim q
 |cont =>
  obtain⟨_,_,_,q⟩:=d;exact False.elim q
section
variable {X:Cx}{x:Str}{p pos:Pos}{e:Expr}{es:List Expr}{t:TA}{id T:String}{r:List V->Hp->VK->Prop}
def RK (r:List V->Hp->VK->Prop)(t:TA):TE:=λc H Q=>t c H λa b=>r a b Q
theorem jT (hc:gJ X (.builtin id) r)(m:Gl X x)(o:X.mg x=none)(d:bootBuiltins x=some (.builtin id))(v:PA X (e::es) t)(n:x≠"__name__":=by decide)(l:(x==("__debug__":Str))=false:=by decide)
  (j:starEach (e::es) X.env=(false,eval e X.env)::starEach es X.env:=by rfl) (i:(backTo pos (starEach es X.env)).any (·.1)=false:=by rfl):PE X (.Call (.Name x p) (e::es) [] pos) (RK r t):=by
 intro a s b H Q I h;refine wpAny_Call_Name_kw (kN I m o d ?_ n l);exact PyProof.Rows.callWith_builtin1 (Hb (v pos a s b H _ I h) λu f ⟨g,c,w,q,k⟩=>hc a f b c g u Q w q k) j i
theorem i4 (hc:gJ X (.type T) r)(m:Gl X x)(o:X.mg x=none)(d:bootBuiltins x=some (.type T))(v:PA X (e::es) t)(n:x≠"__name__":=by decide)(l:(x==("__debug__":Str))=false:=by decide)
  (j:starEach (e::es) X.env=(false,eval e X.env)::starEach es X.env:=by rfl) (i:(backTo pos (starEach es X.env)).any (·.1)=false:=by rfl):PE X (.Call (.Name x p) (e::es) [] pos) (RK r t):=by
 intro a s b H Q I h;refine wpAny_Call_Name_kw (kN I m o d ?_ n l);exact PyProof.Rows.callWith_type1 (Hb (v pos a s b H _ I h) λu f ⟨g,c,w,q,k⟩=>hc a f b c g u Q w q k) j i
end
section
variable {κ:Type} [DecidableEq κ]
def jJ (kvs:List (κ×V))(k : κ):Option V:=(kvs.find? λa=>decide (a.1=k)).map (·.2)
def putK (kvs:List (κ×V))(k : κ)(v:V):List (κ×V):=
 if (kvs.any λa=>decide (a.1=k))=true then kvs.map (λa=>if a.1=k then (a.1,v) else a) else kvs++[(k,v)]
theorem mL {p : κ×V}{r:List (κ×V)}{k : κ}(e:p.1=k):jJ (p::r) k=some p.2:=by simp[jJ,find?_cons,e]
theorem mM {p : κ×V}{r:List (κ×V)}{k : κ}(e:¬ p.1=k):jJ (p::r) k=jJ r k:=by simp[jJ,find?_cons,e]
theorem rY (k : κ):∀ kvs:List (κ×V),(kvs.any λa=>decide (a.1=k))=(jJ kvs k).isSome
 |[]=>rfl
 |p::r=>by
  rw[any_cons];by_cases e:p.1=k
  ·simp only[mL e,decide_eq_true e,Bool.true_or,Option.isSome_some]
  rw[mM e,decide_eq_false e,Bool.false_or];exact rY k r
theorem lM (kvs:List (κ×V))(k : κ)(v:V):(putK kvs k v).length<=kvs.length+1:=by
 unfold putK;split
 ·rw[length_map];omega
 rw[List.length_append,length_cons,List.length_nil];omega
theorem Im.HK {o:Option V}{u:Option Value}(r:Im o u):o.isSome=u.isSome:=by
 cases o with
 |none=>cases u with
  |none=>rfl
  |some _=>exact(show False from r).elim
 |some _=>cases u with
  |none=>exact(show False from r).elim
  |some _=>rfl
theorem KV.val {kvs:List (κ×V)}{vs:List (κ×Value)}(r:KV kvs vs)(k : κ):Im (jJ kvs k) (valueAt vs k):=by
 unfold KV at r
 induction r with
 |nil=>exact True.intro
 | @cons p q i c h t f =>
  obtain⟨d,g⟩:=h;by_cases e:p.1=k
  ·have a:q.1=k:=d.symm.trans e;have b:valueAt (q::c) k=some q.2:=by simp[valueAt,find?_cons,a]
   rw[mL e,b];exact g
  have a:¬ q.1=k:=λz=>e (d.trans z);have b:valueAt (q::c) k=valueAt c k:=by simp[valueAt,find?_cons,a]
  rw[mM e,b];exact f
theorem KV.any {kvs:List (κ×V)}{vs:List (κ×Value)}(r:KV kvs vs)(k : κ):(kvs.any λa=>decide (a.1=k))=vs.any λa=>decide (a.1=k):=by
 unfold KV at r
 induction r with
 |nil=>rfl
 |cons h t b=>rw[any_cons,any_cons,b,h.1]
theorem KV.Ob {kvs:List (κ×V)}{vs:List (κ×Value)}(r:KV kvs vs)(k : κ){y:V}{u:Value}(d:RelV y u) :
  KV (kvs.map λa=>if a.1=k then (a.1,y) else a) (vs.map λa=>if a.1=k then (a.1,u) else a):=by
 unfold KV at r ⊢
 induction r with
 |nil=>exact .nil
 | @cons p q g i h t c =>
  rw[map_cons,map_cons];refine .cons ?_ c;obtain⟨b,f⟩:=h;by_cases e:p.1=k
  ·rw[if_pos e,if_pos (b.symm.trans e)];exact⟨b,d⟩
  rw[if_neg e,if_neg (λz=>e (b.trans z))];exact⟨b,f⟩
theorem KV.put {kvs:List (κ×V)}{vs:List (κ×Value)}(r:KV kvs vs)(k : κ){y:V}{u:Value}(a:RelV y u):KV (putK kvs k y) (stored vs k u):=by
 unfold putK stored;rw[r.any k];by_cases e:(vs.any λb=>decide (b.1=k))=true
 ·rw[if_pos e,if_pos e];exact r.Ob k a
 rw[if_neg e,if_neg e];exact Paired.snoc r ⟨rfl,a⟩
theorem KV.length {kvs:List (κ×V)}{vs:List (κ×Value)}(r:KV kvs vs):kvs.length=vs.length:=Paired.length r
end
theorem tF {P:Program}{w:World}{k:Key}{u:Value}(r:RelV (kV k) u):(bL P w).is k u=true:=by
 cases k with
 |inl i=>obtain⟨t,e⟩:=(show ∃ t,u=Value.int i t from r);subst e;exact sW P w i t
 |inr x=>obtain⟨t,e⟩:=(show ∃ t,u=Value.str x t from r);subst e;exact sV P w x t
theorem pN {P:Program}{w:World}:∀ {a:List Key}{us:List Value},Vals (a.map kV) us->ItemsAre (bL P w) a us
 |[],_,r=>by rw[map_nil] at r;cases r;exact .nil
 |k::a,_,r=>by
  rw[map_cons] at r;cases r with
  |cons h t=>exact .cons (tF h) (pN t)
abbrev KT (H:Hp):List (List Key×V)->List (List Key×Addr×Value)->Prop:=Paired λp q=>p.1=q.1/\H q.2.1=some (.tup (p.1.map kV))/\RelV p.2 q.2.2
theorem KT.val {H:Hp}{kvs:List (List Key×V)}{f:List (List Key×Addr×Value)}(r:KT H kvs f)(k:List Key):Im (jJ kvs k) ((atKey f k).map (·.2)):=by
 induction r with
 |nil=>exact True.intro
 | @cons p q j c h t g =>
  obtain⟨d,_,i⟩:=h;by_cases e:p.1=k
  ·have a:q.1=k:=d.symm.trans e;have b:atKey (q::c) k=some q.2:=by simp[atKey,find?_cons,a]
   rw[mL e,b];exact i
  have a:¬ q.1=k:=λz=>e (d.trans z);have b:atKey (q::c) k=atKey c k:=by simp[atKey,find?_cons,a]
  rw[mM e,b];exact g
theorem KT.Ob {H:Hp}{kvs:List (List Key×V)}{d:List (List Key×Addr×Value)}(r:KT H kvs d)(k:List Key){y:V}{u:Value}(g:RelV y u) :
  KT H (kvs.map λb=>if b.1=k then (b.1,y) else b) (d.map (putAt k u)):=by
 induction r with
 |nil=>exact .nil
 | @cons p q j l h t f =>
  rw[map_cons,map_cons];refine .cons ?_ f;obtain⟨a,c,i⟩:=h;unfold putAt;by_cases e:p.1=k
  ·rw[if_pos e,if_pos (a.symm.trans e)];exact⟨a,c,g⟩
  rw[if_neg e,if_neg (λz=>e (a.trans z))];exact⟨a,c,i⟩
theorem KT.put {H:Hp}{kvs:List (List Key×V)}{a:List (List Key×Addr×Value)}(r:KT H kvs a)(k:List Key){b:Addr}{y:V}{u:Value}(hb:H b=some (.tup (k.map kV)))(c:RelV y u) :
  KT H (putK kvs k y) (storedH a k b u):=by
 have e:(kvs.any λd=>decide (d.1=k))=(atKey a k).isSome:=by rw[rY,(r.val k).HK,isSome_map]
 unfold putK storedH;rw[e];by_cases q:(atKey a k).isSome=true
 ·rw[if_pos q,if_pos q];exact r.Ob k c
 rw[if_neg q,if_neg q];exact Paired.snoc r ⟨rfl,hb,c⟩
theorem KT.keeps {H H':Hp}{kvs:List (List Key×V)}{a:List (List Key×Addr×Value)}(r:KT H kvs a)(c:∀ b ys,H b=some (.tup ys)->H' b=some (.tup ys)):KT H' kvs a:=
 Paired.JJ r λ_ _ z=>⟨z.1,c _ _ z.2.1,z.2.2⟩
section
variable {P:Program}{w:World}{H:Hp}{h:Heap}{a:Addr}
theorem B3 {u:HO}(ok:Iq P w H h)(e:Rd H a u):Hm P w H h a u:=e.ok ok
theorem tY {kvs:List (Key×V)}(ok:Iq P w H h)(e:Rd H a (.dK kvs)):kvs.length<=sizeLine/\(a==sysModules)=false/\∃ vs,KV kvs vs/\h.DictOf (bL P w) a vs:=
 show Hm P w H h a (.dK kvs) from B3 ok e
theorem EX {kvs:List (Key×V)}(ok:Iq P w H h)(e:H a=some (.dK kvs)):kvs.length<=sizeLine/\(a==sysModules)=false/\∃ vs,KV kvs vs/\h.DictOf (bL P w) a vs:=tY ok (.inl e)
theorem nM {b:List Key}(ok:Iq P w H h)(e:H a=some (.tup (b.map kV))):(tupleKind (bL P w)).is h b a:=by obtain⟨_,its,r,p⟩:=(show Hm P w H h a (.tup (b.map kV)) from ok a _ e);obtain⟨o,d,f,n,c⟩:=p.tup;exact⟨o,its.toArray,n,d,f,c,by simpa using pN r⟩
theorem tX {kvs:List (List Key×V)}(ok:Iq P w H h)(e:Rd H a (.dT kvs)):kvs.length<=sizeLine/\(a==sysModules)=false /\
  ∃ b,KT H kvs b/\h.DictOfH (tupleKind (bL P w)) a b:=by
 obtain⟨z,y,b,r,o,es,ep,d,i,j,f,k⟩:=(show Hm P w H h a (.dT kvs) from B3 ok e);refine⟨z,y,b,r,o,es,ep,d,i,j,f,λx hx=>?_,k⟩
 have all:∀ {l:List (List Key×V)}{m:List (List Key×Addr×Value)},KT H l m->∀ x∈m,(tupleKind (bL P w)).is h x.1 x.2.1:=by
  intro l m q
  induction q with
  |nil=>intro x hx;exact nomatch hx
  | @cons p q n s c t g =>
   intro x hx;rcases mem_cons.mp hx with e |hx
   ·subst e;exact nM ok (by rw[← c.1];exact c.2.1)
   exact g x hx
 exact all r x hx
theorem EW {kvs:List (List Key×V)}(ok:Iq P w H h)(e:H a=some (.dT kvs)):kvs.length<=sizeLine/\(a==sysModules)=false /\
  ∃ b,KT H kvs b/\h.DictOfH (tupleKind (bL P w)) a b:=tX ok (.inl e)
end
def JN (H:Hp)(a:Addr)(y:V)(r:Option V):Prop:=
 (∃ c k,Rd H a (.dK c)/\y=kV k/\r=jJ c k)∨∃ c k b,Rd H a (.dT c)/\y = .ref b/\H b=some (.tup (k.map kV))/\r=jJ c k
def Mr (H:Hp)(a:Addr)(y v:V)(H':Hp):Prop:=
 (∃ c k,H a=some (.dK c)/\y=kV k/\c.length<sizeLine/\H'=upd H a (.dK (putK c k v))) ∨
 ∃ c k b,H a=some (.dT c)/\y = .ref b/\H b=some (.tup (k.map kV))/\c.length<sizeLine/\H'=upd H a (.dT (putK c k v))
theorem JN.k {H:Hp}{a:Addr}{kvs:List (Key×V)}{k:Key}(e:H a=some (.dK kvs)):JN H a (kV k) (jJ kvs k):=.inl ⟨kvs,k,.inl e,rfl,rfl⟩
theorem Mr.k {H:Hp}{a:Addr}{kvs:List (Key×V)}{k:Key}{v:V}(e:H a=some (.dK kvs))(b:kvs.length<sizeLine):Mr H a (kV k) v (upd H a (.dK (putK kvs k v))):=.inl ⟨kvs,k,e,rfl,b,rfl⟩
section
variable {X:Cx}{pins:GK}{σ:St}{H:Hp}{s:Shared}{a:Addr}{y v:V}{u r:Value}{o:Option V}{A:Around}{E:GJ}
theorem Inv.big (I:Inv X pins σ H s):sysModules<s.heap.objs.size:=by have h:mainGlobals<s.heap.objs.size:=(I.mod.glob.keeps I.bk).lt;exact Nat.lt_trans (by decide) h
theorem yi {Q:GJ}(x:A.units+1<cLine)(I:Inv X pins σ H s)(g:JN H a y (some v))(n:RelV y u)(h:∀ c s',Inv X pins σ H s'->RelV v c->Q c s') :
  wpAny (model X.prog X.w) A (getItem (.ref a) u) Q E s:=by
 rcases g with ⟨f,k,e,m,l⟩ |⟨f,k,b,e,m,r,l⟩
 ·subst m;obtain⟨z,hd,t,rel,d⟩:=tY I.Ha e;obtain⟨c,i,j⟩:=Im.some_of (v:=v) (o:=valueAt t k) (by rw[l];exact rel.val k);exact wpAny_getItem_of (tF n) d.mapOf i (h c _ (I.tok _) j)
 subst m;cases (show u=Value.ref b from n);obtain⟨z,hd,C,rel,d⟩:=tX I.Ha e;obtain⟨c,i,j⟩:=Im.some_of (v:=v) (o:=(atKey C k).map (·.2)) (by rw[l];exact rel.val k);obtain⟨p,B,q⟩:=map_eq_some_iff.mp i;refine wpAny_getItem_heap (tupleKind_room_in1 x) (nM I.Ha r) d B ?_;rw[q];exact h c _ (I.tok _) j
theorem F6 {Q:GJ}(m:A.units+1<cLine)(I:Inv X pins σ H s)(g:JN H a y o)(i:RelV y u)(h:∀ s',Inv X pins σ H s'->Q (.bool o.isSome) s') :
  wpAny (model X.prog X.w) A (compareOp .In u (.ref a)) Q E s:=by
 rcases g with ⟨d,k,e,f,l⟩ |⟨d,k,b,e,f,j,l⟩
 ·subst f;obtain⟨z,hd,n,rel,c⟩:=tY I.Ha e;refine wpAny_in_of (tF i) hd c.mapOf ?_;rw[← (rel.val k).HK,← l];exact h _ (I.tok _)
 subst f;cases (show u=Value.ref b from i);obtain⟨z,hd,p,rel,c⟩:=tX I.Ha e;refine wpAny_in_heap (tupleKind_room_in1 m) (nM I.Ha j) hd c ?_;have q:=(rel.val k).HK;rw[isSome_map] at q;rw[← q,← l];exact h _ (I.tok _)
theorem BK {Q:GJ}(m:A.units+1<cLine)(I:Inv X pins σ H s)(g:JN H a y o)(i:RelV y u)(h:∀ s',Inv X pins σ H s'->Q (.bool (!o.isSome)) s') :
  wpAny (model X.prog X.w) A (compareOp .NotIn u (.ref a)) Q E s:=by
 rcases g with ⟨d,k,e,f,l⟩ |⟨d,k,b,e,f,j,l⟩
 ·subst f;obtain⟨z,hd,n,rel,c⟩:=tY I.Ha e;refine wpAny_notIn_of (tF i) hd c.mapOf ?_;rw[← (rel.val k).HK,← l];exact h _ (I.tok _)
 subst f;cases (show u=Value.ref b from i);obtain⟨z,hd,p,rel,c⟩:=tX I.Ha e;refine wpAny_notIn_heap (tupleKind_room_in1 m) (nM I.Ha j) hd c ?_;have q:=(rel.val k).HK;rw[isSome_map] at q;rw[← q,← l];exact h _ (I.tok _)
theorem rl {h':Heap}{t':Nat}{c:HO}(I:Inv X pins σ H s)(d:Pq (H a))(g:Heap.SameBut a s.heap h')(f:∃ q,h'.get? a=some q)(new:Hm X.prog X.w (upd H a c) h' a c) :
  Inv X pins σ (upd H a c) { s with heap:=h',toks:=t' }:=
 I.write (x:=a) (e:=a) d (.inl rfl) (λb q hb z=>(g.2 b hb).trans z) f new
theorem DC {P:Program}{w:World}{H':Hp}{h':Heap}{kvs:List (Key×V)}{vs:List (Key×Value)}(z:kvs.length<=sizeLine)(hd:(a==sysModules)=false)(rel:KV kvs vs)(b:h'.DictOf (bL P w) a vs) :
  Hm P w H' h' a (.dK kvs):=⟨z,hd,vs,rel,b⟩
theorem yh {H':Hp}{Q:Unit->Shared->Prop}(L:A.units+1<cLine)(I:Inv X pins σ H s)(g:Mr H a y v H')(C:RelV y u)(B:RelV v r)(h:∀ s',Inv X pins σ H' s'->Q () s') :
  wpAny (model X.prog X.w) A (setItem (.ref a) u r) Q E s:=by
 rcases g with ⟨d,k,e,t,l,m⟩ |⟨d,k,b,e,t,x,l,m⟩
 ·subst t m;obtain⟨z,hd,K,rel,n⟩:=EX I.Ha e;have o:K.length<=sizeLine:=by rw[← rel.length];exact z
  have j:(putK d k v).length<=sizeLine:=by have:=lM d k v;omega
  refine wpAny_setItem_pairs (hsz:=o) (tF C) n λF i p=>h _ ?_;have M:∃ q,F.get? a=some q:=let ⟨q,_,_,f,_⟩:=i;⟨q,f⟩;exact rl I (by rw[e];exact True.intro) p M (DC j hd (rel.put k B) i)
 subst t m;cases (show u=Value.ref b from C);obtain⟨z,hd,P,rel,n⟩:=EW I.Ha e;have o:P.length<=sizeLine:=by rw[← Paired.length rel];exact z
 have j:(putK d k v).length<=sizeLine:=by have:=lM d k v;omega
 refine wpAny_setItem_heap (hsz:=o) (tupleKind_room_in1 L) (nM I.Ha x) n λF i p=>h _ ?_;obtain⟨q,es,ep,f,J,N,G,_,O⟩:=i;refine rl I (by rw[e];exact True.intro) p ⟨q,f⟩ ⟨j,hd,_,(rel.put k x B).keeps λc R D=>?_,q,es,ep,f,J,N,G,O⟩;rw[aA (Es D e (λz=>nomatch z))];exact D
end
def yu (i:Expr):Prop:=∀ b a,subscripted i false b a=operate [b,a] (getItem b a)
theorem wc {prog:Program}{w:World}{A:Around}{E:GJ}{s:Shared}{env:Env}{value slice:Expr}{pos:Pos}{T id:String}{Q:GJ}
  (j:typeLookup (.type T) "__getitem__"=pure (some (.builtin id))) (k:yu slice)
  (h:wpAny (model prog w) A (eval value env) (λo d=>wpAny (model prog w) A (eval slice env) (λi a=>a.TypeIs o T/\wpAny (model prog w) A (getItem o i) Q E a) E d) E s) :
  wpAny (model prog w) A (eval (.Subscript value slice pos) env) Q E s:=by
 refine Subscript_ (wpAny_mono h (λo d e=>wpAny_mono e (λi a b=>?_) λ_ _ x=>x) λ_ _ x=>x);obtain⟨g,b⟩:=b;unfold subscriptTail;refine wpAny_bind ?_;rw[getitemInPython_of_ne g.not_modules];refine wpAny_bind (wpAny_specialOf g j ?_);have fin:wpAny (model prog w) A (subscripted slice false o i) (λr c=>wpAny (model prog w) A (letTemporaryGo value o r >>= λ_=>pure r) Q E c) E a:=by rw[k o i];exact wpAny_operating (wpAny_mono b (λr c f=>wpAny_bind (wpAny_letTemporaryGo (wpAny_pure f))) λ_ _ x=>x)
 first
  |exact wpAny_pure (wpAny_bind fin)
  |exact wpAny_bind (wpAny_pure (wpAny_bind fin))
  |exact wpAny_bind fin
theorem tZ {X:Cx}{c:GK}{h:St}{H:Hp}{s:Shared}{a:Addr}{y:V}{o:Option V}(I:Inv X c h H s)(g:JN H a y o):s.TypeIs (.ref a) "dict":=by
 rcases g with ⟨d,k,e,_,_⟩ |⟨d,k,b,e,_,_,_⟩
 ·obtain⟨_,_,i,_,f⟩:=tY I.Ha e;exact f.typeIs
 obtain⟨_,_,j,_,f⟩:=tX I.Ha e;exact f.typeIs
def D8 (e ty:TE):TE:=λc H Q=>e c H λx d=>ty c d λy b => ∃ a v,x = .ref a/\JN b a y (some v)/\Q v b
def D7 (ty e:TE):TE:=λc H Q=>ty c H λy d=>e c d λx b => ∃ a o,x = .ref a/\JN b a y o/\Q (.bl o.isSome) b
def wa (ty e:TE):TE:=λc H Q=>ty c H λy d=>e c d λx b => ∃ a o,x = .ref a/\JN b a y o/\Q (.bl (!o.isSome)) b
def Ec (g ty tv:TE):TS:=λD b H=>tv b H λv f=>g b f λx e=>ty b e λy d => ∃ a c,x = .ref a/\Mr d a y v c/\D.nx b c
section
variable {X:Cx}{o i e value:Expr}{pos pos' PD:Pos}{td ty tv:TE}
theorem Ba (k:X.A.units+1<cLine)(B:PE X o td)(r:PE X i ty)(z:yu i):PE X (.Subscript o i pos) (D8 td ty):=by intro b s c H Q I h;refine wc PySem.F.slot_dict_getitem.lookup z (Hb (B b s c H _ I h) λu j ⟨x,e,C,p,n⟩=>Hb (r b j c e _ C n) λE J w=>?_);obtain⟨y,l,d,f,a,v,ex,g,q⟩:=w;subst ex;obtain rfl:u=Value.ref a:=p;exact⟨tZ d g,yi k d g f λG D m t=>⟨v,l,m,t,q⟩⟩
theorem zj (k:X.A.units+1<cLine)(r:PE X i ty)(w:PE X o td):PC X .In i o (D7 ty td):=by intro b s c H Q I h;refine Hb (r b s c H _ I h) λC j ⟨y,e,z,f,n⟩=>Hb (w b j c e _ z n) λu D t=>?_;obtain⟨x,l,v,p,a,d,ex,g,q⟩:=t;subst ex;obtain rfl:u=Value.ref a:=p;exact F6 k v g f λB m=>⟨.bl d.isSome,l,m,rfl,q⟩
theorem xD (k:X.A.units+1<cLine)(r:PE X i ty)(w:PE X o td):PC X .NotIn i o (wa ty td):=by intro b s c H Q I h;refine Hb (r b s c H _ I h) λC j ⟨y,e,z,f,n⟩=>Hb (w b j c e _ z n) λu D t=>?_;obtain⟨x,l,v,p,a,d,ex,g,q⟩:=t;subst ex;obtain rfl:u=Value.ref a:=p;exact BK k v g f λB m=>⟨.bl (!d.isSome),l,m,rfl,q⟩
theorem A2 (m:X.A.units+1<cLine)(K:PE X o td)(B:PE X i ty)(e:PE X value tv)(J:swapsWith value (some (.Subscript o i pos')) pos.line X.env=pure false) :
  PS X (.Assign [.Subscript o i pos'] value pos) (Ec td ty tv):=by
 intro b s c H D I h;refine wpAny_Assign_Subscript (Hb (e b s c H _ I h) λr k ⟨v,d,L,j,q⟩=>Hb (K b k c d _ L q) λu E ⟨x,n,F,w,z⟩=>Hb (B b E c n _ F z) λO M C=>?_) J;obtain⟨y,N,p,l,a,f,ex,g,G⟩:=C;subst ex;obtain rfl:u=Value.ref a:=w;exact yh m p g l j λP t=>⟨c,f,t,G⟩
end
theorem z9 {P:Program}{w:World}{H:Hp}(h:Heap)(hb:sysModules<h.objs.size):Hm P w H (h.push { cls:=.type "dict",data:=.dict #[] }) h.objs.size (.dK []):=
 ⟨zero_le _,beq_eq_false_iff_ne.mpr (Ne.symm (ne_of_lt hb)),[],.nil,Heap.DictOf.new h⟩
def Co:TE:=λ_ H Q => ∀ p,H p=none->Q (.ref p) (upd H p (.dK []))
section
variable {X:Cx}{pos:Pos}
theorem Ms:PE X (.Dict [] [] pos) Co:=λb s c H Q I h =>
 wpAny_Dict_empty ⟨.ref s.heap.objs.size,_,I.laid (a:=s.heap.objs.size) (o:=.dK []) (t':=s.toks) (λ_ _ q=>Heap.get?_push_of_some _ q) (le_refl _) (z9 s.heap I.big),rfl,h _ (I.Ha.fresh (le_refl _))⟩
end
structure M1 (X:Cx) (o:Expr) (m:Str) (apos:Pos) (e:Expr) (Hh:Pos):Prop where
 base:attributeBase o m X.env (eval o X.env)=eval o X.env
 RM:((backTo Hh (starEach [e] X.env)).all (λx => !x.1)&&(backToKw Hh (keywordEach [] X.env)).all (λx=>x.1.isSome)
  && decide (([e]:List Expr).length+([]:List Keyword).length+(if ([]:List Keyword).isEmpty then 0 else 1)<30))=true
 line:(apos.endLine==Hh.line)=true
 trees:backTo Hh (starEach [e] X.env)=[(false,eval e X.env)]
structure M2 (X:Cx) (o:Expr) (m:Str) (apos:Pos) (e f:Expr) (Hh:Pos):Prop where
 base:attributeBase o m X.env (eval o X.env)=eval o X.env
 RM:((backTo Hh (starEach [e,f] X.env)).all (λx => !x.1)&&(backToKw Hh (keywordEach [] X.env)).all (λx=>x.1.isSome)
  && decide (([e,f]:List Expr).length+([]:List Keyword).length+(if ([]:List Keyword).isEmpty then 0 else 1)<30))=true
 line:(apos.endLine==Hh.line)=true
 trees:backTo Hh (starEach [e,f] X.env)=[(false,eval e X.env),(false,eval f X.env)]
end L2
namespace Att
open PySem PySem.W PySem.Calls PyProof.Rows
theorem l9 {P:Params}{h:Heap}:∀ (ns:List Int) (vs:List Value),WellAll P h vs (ns.map WData.int)->IntsAre vs ns:=by
 intro ns
 induction ns with
 |nil =>
  intro vs w;rw[map_nil] at w;cases w;exact .nil
 |cons n ns c =>
  intro vs w;rw[map_cons] at w;cases w with
  |cons a b =>
   cases a;exact .cons _ _ (c _ b)
theorem xm {l:OpenLaw}{n:Nat}(p:l.most=some n){P:Params}{h:Heap}{args:List WData}{vals:List Value}
  (f:l.row.toRowW.claim.pre args=true) (v:WellAll P h vals args) :
  ∃ a vs ns,vals=[Value.ref a]/\args=[WData.list (ns.map WData.int)]/\h.get? a=some { cls:=.type "list",data:=.seq vs.toArray }/\IntsAre vs ns/\ns.length<=n:=by
 have s:WShape.hasAll [] args [.list .int]=true:=(pre_splitW f).1;have hc:l.pre.holds [] { args:=args }=true:=(pre_splitW f).2;obtain⟨d,r,rfl,g,j⟩:=hasAllW_cons s;obtain rfl:=hasAllW_nil j;obtain⟨w,rfl,o⟩:=hasW_list g;obtain⟨ns,rfl⟩:=items_int o
 have b:ns.length<=n:=by
  unfold OpenLaw.pre at hc;have c:(WTm.not (.lt (.lit (.int (n:Int))) (.len (.arg 0)))).holds [] { args:=[.list (ns.map .int)] }=true:=by have c:=(holds_andW hc).1;rw[p] at c;exact c
  have e:=condW_of c (w_not (w_lt w_lit (w_len_list (w_arg rfl))));rw[length_map] at e;refine Nat.le_of_not_lt λq=>?_;have k:(n:Int)<((ns.length:Nat):Int):=by omega
  first
   |(rw[decide_eq_true k] at e;exact absurd e (by decide))
   |(simp at e;omega)
 cases v with
 |cons i u =>
  cases u;cases i with
  |list t m=>exact⟨_,_,ns,rfl,rfl,t,l9 ns _ m,b⟩
theorem xz (l:OpenLaw)(args:List WData):l.row.toRowW.claim.post args (.bool true) args=true:=
 postW_of (r:=l.row.toRowW) (X:=(true==true))
  (show WShape.has [] (.bool true) .bool=true by first |rfl |decide |simp[WShape.has,WShape.arms,WShape.armsAll])
  (show (WTm.eq .res (.lit (.bool true))).value [] { args:=args,res:=some (.bool true),after:=args }=some (.bool (true==true)) from w_eq_bool (w_res rfl) w_lit) rfl
theorem K3 {l:OpenLaw}{n:Nat}{q:Program}{loose:List Str}{k:(GL)->Heap->Prop}{m:World->Heap->Prop}{d:DefRec}
  (y:l.most=some n) (C:d.params.defaults=[])
  (call:∀ (w:World) (s₀ b:Shared) (mg h:GL) (g:Addr) (o:Obj) (i cd doc:Value) (a:Addr) (vs:List Value) (ns:List Int),
   Ground q loose [] k w s₀ mg h b.heap->m w b.heap ->
   b.heap.get? g=some o->o.data = .func (docDef d.name d.params d.body d.scope i cd doc)->b.heap.CodeRec cd d.name->mg d.name=some (.ref g) ->
   b.heap.get? a=some { cls:=.type "list",data:=.seq vs.toArray }->IntsAre vs ns->ns.length<=n->b.gens = #[] ->
   codeAny (model l.prog w) callerA (.call (.ref g) ⟨[.ref a],[]⟩) (λr s'=>r = .ok (.ret (.bool true))/\OldK b.heap s'.heap/\s'.os=b.os/\AllBare s'.gens) b) :
  WalkO q loose k m l.row.toRowW d [] (λf vs=>PySem.call f vs):=by
 intro w s₀ b mg h G Y g o i cd doc F kV H hd u j E x args vals K A J L s I;obtain rfl:F = .none:=Dflts.none j C;obtain rfl:kV = .none:=Dflts.noKw j;obtain⟨a,vs,ns,rfl,rfl,z,c,e⟩:=xm y A s;refine enter_call (codeAny_mono (call w s₀ b mg h g o i cd doc a vs ns G Y H (fd_plain hd) u E z c e x) λr s' D=>?_);obtain⟨rfl,t,v,p⟩:=D;exact⟨.inl ⟨.bool true,.bool true,[],rfl,λ_=>rfl,.bool true,xz l _,λ_=>⟨List.Pairwise.nil,λ_ B=>(nomatch B)⟩⟩,t,v,p⟩
end Att
namespace L2
open PySem PySem.Spec PyProof.Rows
theorem kz:∀ {vs:List Value}{ns:List Int},IntsAre vs ns->Vals (ns.map V.int) vs
 |_,_,.nil => .nil
 |_,_,.cons n t h => .cons ⟨t,rfl⟩ (kz h)
def du (s:Stmt):Arguments:=match s with
 | .FunctionDef _ a _ _ _ _ _ _ _ _=>a
 |_ => { posonlyargs:=[],args:=[],vararg:=none,kwonlyargs:=[],kw_defaults:=[],kwarg:=none,defaults:=[] }
def bG (s:Stmt):List Stmt:=match s with
 | .FunctionDef _ _ b _ _ _ _ _ _ _=>b
 |_=>[]
def aB (s:Stmt):Scope:=match s with
 | .FunctionDef _ _ _ _ _ _ sc _ _ _=>sc
 |_ => { kind:=.function,names:=[],isGenerator:=false,isCoroutine:=false }
abbrev L0:M3:=λ_ _ _ _ _ _=>False
abbrev E0:XK:=λ_ _ _=>False
theorem zk {X:Cx}:Passes L0 X E0:=λ_ _ _ _ _ _ _ h=>h.elim
structure L1 (K:GI) (x qual:Str) (st:Stmt) (f:Addr) (fd:FuncData):Prop where
 ex:∃ (oc:Value) (od:Option Addr) (kV doc pm:Value) (an:Option Addr) (Hd ct:Value) (K2:Array (Option Value)),
  fd=PySem.W.fnOf x qual (du st) (bG st) (aB st) .none kV doc pm an Hd ct/\K.lookup f=some ⟨oc,od,.func fd,K2⟩/\PySem.W.codeIn K Hd qual=true
 kp:PySem.W.keepIn K (.ref f)=true
section
variable {P:Program}{w:World}{K:GI}{mg:GL}{base:Heap}
theorem L1.binds {x qual:Str}{st:Stmt}{f:Addr}{fd:FuncData}{c:List Str}(F:L1 K x qual st f fd)
  (h:∀ (kV doc d:Value) (b:Option Addr) (a ct:Value) (us:List Value),us.length=c.length->bindArgs (PySem.W.fnOf x qual (du st) (bG st) (aB st) .none kV doc d b a ct) ⟨us,[]⟩=pure (c.zip us)):Binds K fd c []:=by
 obtain⟨j,k,kV,doc,d,b,a,ct,e,rfl,g,i⟩:=F.ex;exact .all (h kV doc d b a ct)
theorem Dv {x qual:Str}{st:Stmt}{f:Addr}{h:Value}{e d:Option Addr}{g:Array (Option Value)}{kV doc b a ct:Value}(l:K.lookup f=some ⟨h,e,.func (PySem.W.fnOf x qual (du st) (bG st) (aB st) .none kV doc b d a ct),g⟩)
  (c:PySem.W.codeIn K a qual=true) (k:PySem.W.keepIn K (.ref f)=true):L1 K x qual st f (PySem.W.fnOf x qual (du st) (bG st) (aB st) .none kV doc b d a ct):=⟨⟨h,e,kV,doc,b,d,a,ct,g,rfl,l,c⟩,k⟩
end
theorem aZ {A:Around}{k:Nat}(hr:Hg k A):A.units+1<cLine:=Nat.lt_of_le_of_lt (Nat.add_le_add_left (by decide : 1<=64) _) hr.units
section
variable {X:Cx}
theorem pv (i:Nat){x:Str}{pos:Pos}(c:X.N[i]?=some x:=by rfl)(a:QR X.env.scope x:=by first |exact Or.inl rfl |exact Or.inr (Or.inl rfl) |exact Or.inr (Or.inr rfl))(hd:(x==("__debug__":Str))=false:=by decide)
  (b:(x==("__classdict__":Str))=false:=by decide):PE X (.Name x pos) (DY i):=zf c a hd b
end
def G5 (H H':Hp):Prop:=∀ b o,H b=some o->H' b=some o
theorem G5.refl (H:Hp):G5 H H:=λ_ _ h=>h
theorem G5.trans {H e d:Hp}(a:G5 H e)(b:G5 e d):G5 H d:=λc o h=>b c o (a c o h)
end L2
namespace HT
open PySem PyProof.Rows
section
variable {prog:Program}{w:World}{A:Around}{E:GJ}{s:Shared}
theorem Nn {t b:Addr}{vs a:List Value}{Q:GJ}(p:IsTup s.heap t vs.toArray)(hb:IsTup s.heap b a.toArray)(j:vs≠[])
  (o:a=[]->Q (.ref t) s) (q:a≠[]->Q (.ref s.heap.objs.size) { s with heap:=s.heap.push { cls:=.type "tuple",data:=.seq (vs++a).toArray } })
  (hsz:vs.length+a.length<=sizeLine):wpAny (model prog w) A (binaryOp .Add (.ref t) (.ref b)) Q E s:=by
 obtain⟨⟨cls,h,data,i⟩,g,hc,n,hd⟩:=id p;obtain⟨⟨PK,l,data2,k⟩,d,m,n2,c⟩:=id hb;simp only at hc hd m c;subst hc hd m c;have e:vs.toArray++a.toArray=(vs++a).toArray:=by simp
 by_cases f:a=[]
 ·exact concat_meets ⟨_,g,rfl⟩ ⟨_,d,rfl⟩ noFill_tuple_add seq_tuple_add PySem.F.slot_tuple_add PySem.F.entry_tuple_add (PySem.F.args_tuple_add_2 _ _)
   (tuple_addW1 t b vs.toArray a.toArray n n2 h l i k (by simpa using j) (by simp[f])) ⟨g,d,o f⟩
 refine concat_meets ⟨_,g,rfl⟩ ⟨_,d,rfl⟩ noFill_tuple_add seq_tuple_add PySem.F.slot_tuple_add PySem.F.entry_tuple_add (PySem.F.args_tuple_add_2 _ _)
  (tuple_addW2 t b vs.toArray a.toArray n n2 h l i k (by simpa using j) (by simpa using f) (by rw[size_toArray,size_toArray];exact hsz)) ⟨g,d,?_⟩
 rw[e];exact q f
def Hr (n d:Nat):Option Int->Nat
 |none=>d
 |some v=>if v<0 then (v+(n:Int)).toNat else min v.toNat n
theorem K4 (n d:Nat):Hr n d none=d:=rfl
theorem LF (n d k:Nat):Hr n d (some (k:Int))=min k n:=by show (if (k:Int)<0 then ((k:Int)+(n:Int)).toNat else min (k:Int).toNat n)=min k n;rw[if_neg (by omega),Int.toNat_natCast]
theorem CB (n d:Nat)(hd:d<=n)(o:Option Int):Hr n d o<=n:=by
 cases o with
 |none=>exact hd
 |some v =>
  show (if v<0 then (v+(n:Int)).toNat else min v.toNat n)<=n;by_cases a:v<0
  ·rw[if_pos a];omega
  rw[if_neg a];exact min_le_right _ _
theorem wQ (v:Int)(n d:Nat):(if v<0 then max (v+(n:Int)) 0 else min v (n:Int))=((Hr n d (some v):Nat):Int):=by
 show (if v<0 then max (v+(n:Int)) 0 else min v (n:Int))=(((if v<0 then (v+(n:Int)).toNat else min v.toNat n):Nat):Int);by_cases a:v<0
 ·simp only[if_pos a];omega
 simp only[if_neg a];omega
theorem vV (lo a:Option Int)(n:Nat):Builtin.Slice.sliceAdjust lo a 1 (n:Int)=(((Hr n 0 lo:Nat):Int),((Hr n n a:Nat):Int)):=by
 have b:¬ ((1:Int)<0):=by omega
 unfold Builtin.Slice.sliceAdjust;simp only[b,if_false];refine Prod.ext ?_ ?_
 ·cases lo with
  |none=>rfl
  |some v=>exact wQ v n 0
 cases a with
 |none=>rfl
 |some v=>exact wQ v n n
theorem u7 (i j:Nat):Builtin.Slice.slicePlaces (i:Int) (j:Int) 1=j-i:=by
 unfold Builtin.Slice.slicePlaces;have a:(1:Int) > 0:=by omega
 simp only[a,if_true,Int.ediv_one];split<;>omega
theorem mW {v:Value}{o:Option Int}{Q:Option Int->Shared->Prop}(p:IsPart v o)(h:Q o s):wpAny (model prog w) A (Builtin.Slice.slicePartIndex v) Q E s:=by
 cases p with
 |none=>exact slicePart_none h
 |int i t=>exact slicePart_int h
theorem HV {f:Addr}{b c:Value}{lo a:Option Int}{n:Nat}{Q:Int×Int×Nat->Shared->Prop}(i:s.heap.IsSliceOf f b c .none)(pl:IsPart b lo)(g:IsPart c a)
  (h:Q (((Hr n 0 lo:Nat):Int),1,Hr n n a-Hr n 0 lo) s):wpAny (model prog w) A (Builtin.Slice.sliceApplied (.ref f) (pure (n:Int))) Q E s:=by
 obtain⟨os,e,j,d⟩:=id i;unfold Builtin.Slice.sliceApplied Builtin.Slice.sliceFields;refine wpAny_bind (wpAny_bind (wpAny_field e d (x:=b) rfl (wpAny_bind (wpAny_field e d (x:=c) rfl (wpAny_bind (wpAny_field e d (x:=.none) rfl (wpAny_pure ?_)))))));refine wpAny_bind (slicePart_none ?_);show wpAny _ _ (if ((1:Int)==0)=true then _ else _) _ _ s;rw[if_neg (by decide)];refine wpAny_bind (mW pl (wpAny_bind (mW g (wpAny_bind (wpAny_pure ?_)))));show wpAny _ _ (match Builtin.Slice.sliceAdjust lo a 1 (n:Int) with |(lo,a)=>pure (lo,(1:Int),Builtin.Slice.slicePlaces lo a 1)) _ _ s;rw[vV lo a n];show wpAny _ _ (pure (((Hr n 0 lo:Nat):Int),(1:Int),Builtin.Slice.slicePlaces ((Hr n 0 lo:Nat):Int) ((Hr n n a:Nat):Int) 1)) _ _ s;rw[u7];exact wpAny_pure h
theorem zc (a:Array Value)(i k:Nat):((List.range k).filterMap λ(m:Nat)=>a[((i:Int)+(m:Int)*1).toNat]?).toArray=((a.toList.drop i).take k).toArray:=by
 have e:(λ(m:Nat)=>a[((i:Int)+(m:Int)*1).toNat]?)=λm=>a[i+m]?:=by
  funext m;have:((i:Int)+(m:Int)*1).toNat=i+m:=by omega
  rw[this]
 rw[e];have:=pick_run a i k;rw[List.filterMap_map] at this;have b:((λx=>a[x]?) ∘ λx=>i+x)=λm=>a[i+m]?:=rfl;rw[b] at this;rw[this]
theorem IZ {t d:Addr}{items:Array Value}{f e:Value}{lo a:Option Int}{Q:GJ}(b:IsTup s.heap t items)(g:s.heap.IsSliceOf d f e .none)(pl:IsPart f lo)(i:IsPart e a)
  (k:¬ (Hr items.size 0 lo=0/\Hr items.size items.size a=items.size))
  (h:Q (.ref s.heap.objs.size) { s with heap:=s.heap.push { cls:=.type "tuple",data:=.seq ((items.toList.drop (Hr items.size 0 lo)).take (Hr items.size items.size a-Hr items.size 0 lo)).toArray } })
  (hsz:items.size<=sizeLine):wpAny (model prog w) A (getItem (.ref t) (.ref d)) Q E s:=by
 have c:sizeOk (.seq ((items.toList.drop (Hr items.size 0 lo)).take (Hr items.size items.size a-Hr items.size 0 lo)).toArray):=by show ((items.toList.drop (Hr items.size 0 lo)).take (Hr items.size items.size a-Hr items.size 0 lo)).toArray.size<=sizeLine;rw[size_toArray,length_take,length_drop,length_toList];omega
 have p:Hr items.size items.size a<=items.size:=CB _ _ (le_refl _) a;obtain⟨os,j,n,r⟩:=id g;have o:s.TypeIs (.ref d) "slice":=⟨os,j,n⟩;unfold getItem
 try with_reducible refine wpAny_holding ?_
 first |refine wpAny_bind (wpAny_pure ?_) |skip
 refine wpAny_bind (wpAny_sequenceKey b.typeIs (by decide) ?_)
 refine wpAny_bind (wpAny_callSpecial?_slot (name:=Str.ofString "__getitem__") b.typeIs PyProof.Rows.slot_tuple_getitem
  (wpAny_call_entry PyProof.Rows.slot_tuple_getitem b.typeIs entry_tuple_getitem ?_ (args_tuple_getitem _ _)))
 show wpAny _ _ (Builtin.Tuple.tupleItemsOf (.ref t) >>= _) _ _ s;refine wpAny_bind (tupleItemsOf_ b ?_);refine wpAny_bind (wpAny_typeOf o ?_);rw[if_pos (by decide)];refine wpAny_bind (HV g pl i ?_);have l:¬ ((((Hr items.size 0 lo:Nat):Int)==0&&(1:Int)==1&&(Hr items.size items.size a-Hr items.size 0 lo)==items.size)=true):=by intro q;rw[and_eq_true,and_eq_true] at q;have u:((Hr items.size 0 lo:Nat):Int)=0:=eq_of_beq q.1.1;have v:Hr items.size items.size a-Hr items.size 0 lo=items.size:=eq_of_beq q.2;exact k ⟨by omega,by omega⟩
 show wpAny _ _ (if (((Hr items.size 0 lo:Nat):Int)==0&&(1:Int)==1&&(Hr items.size items.size a-Hr items.size 0 lo)==items.size)=true then _ else _) _ _ s;rw[if_neg l,zc]
 first
  |exact wpAny_bind (m:=Builtin.Tuple.tupleExact _) (wpAny_newObj_type (wpAny_pure ⟨_,rfl,wpAny_pure h⟩) c)
  |exact wpAny_bind (m:=Builtin.Tuple.tupleExact _) (wpAny_newObj_type (wpAny_bind (wpAny_pure (wpAny_pure ⟨_,rfl,wpAny_pure h⟩))) c)
  |exact wpAny_bind (wpAny_bind (m:=Builtin.Tuple.tupleExact _) (wpAny_newObj_type (wpAny_pure (wpAny_pure ⟨_,rfl,wpAny_pure h⟩)) c))
  |exact wpAny_bind (wpAny_bind (m:=Builtin.Tuple.tupleExact _) (wpAny_newObj_type (wpAny_pure ⟨_,rfl,wpAny_pure h⟩) c))
end
end HT
namespace L2
open PySem PySem.Spec PyProof.Rows
abbrev TO:=St->Hp->(Option Int->Hp->Prop)->Prop
def PO (X:Cx)(e:Option Expr)(t:TO):Prop:=
 ∀ (a:GK) (s:Shared) (b:St) (H:Hp) (Q:Option Int->Hp->Prop),Inv X a b H s->t b H Q ->
  wpAny (model X.prog X.w) X.A (evalPart e X.env) (λu d => ∃ o c,Inv X a b c d/\IsPart u o/\Q o c) X.xe s
def AJ:TO:=λ_ H Q=>Q none H
def D1 (t:TE):TO:=λb H Q=>t b H λx a => ∃ i,x = .int i/\Q (some i) a
theorem intsAre_of {ns:List Int}:∀ {us:List Value},Vals (ns.map V.int) us->IntsAre us ns:=by
 induction ns with
 |nil=>intro us r;rw[map_nil] at r;cases r;exact .nil
 |cons n ns b =>
  intro us r;rw[map_cons] at r;cases r with
  |cons a c =>
   obtain⟨t,e⟩:=a;subst e;exact .cons n t (b c)
section
variable {X:Cx}{e:Expr}{te:TE}{lo hi:Option Expr}{tl th:TO}{pos p2:Pos}
theorem A4:PO X none AJ:=by intro a s b H Q I h;rw[evalPart_none];exact wpAny_pure ⟨none,H,I,.none,h⟩
theorem A3 (h:PE X e te):PO X (some e) (D1 te):=by intro a s c H Q I d;rw[evalPart_some];refine Hb (h a s c H _ I d) λu l j=>?_;obtain⟨x,b,k,g,f⟩:=j;obtain⟨i,rfl,q⟩:=f;obtain⟨t,rfl⟩:=g;exact⟨some i,b,k,.int i t,q⟩
def Q0 (X:Cx)(r:V->Option Int->Option Int->Hp->VK->Prop):Prop:=
 ∀ (a:GK) (s:Shared) (e:St) (H:Hp) (x:V) (v b c:Value) (lo hi:Option Int) (d:Addr) (Q:VK),Inv X a e H s->RelV x v->s.heap.IsSliceOf d b c .none->IsPart b lo->IsPart c hi->r x lo hi H Q ->
  ∃ T id,typeLookup (.type T) "__getitem__"=pure (some (.builtin id))/\s.TypeIs v T/\wpAny (model X.prog X.w) X.A (getItem v (.ref d)) (EP X a e Q) X.xe s
def Vu (r:V->Option Int->Option Int->Hp->VK->Prop)(te:TE)(tl th:TO):TE:=λa H Q=>te a H λx d=>tl a d λl c=>th a c λu b=>r x l u b Q
theorem zg {r:V->Option Int->Option Int->Hp->VK->Prop}(hr:Q0 X r)(z:PE X e te)(k:PO X lo tl)(t:PO X hi th):PE X (.Subscript e (.Slice lo hi none p2) pos) (Vu r te tl th):=by intro a s d H Q I h;refine Subscript_ (Hb (z a s d H _ I h) λv p i=>?_);obtain⟨x,n,N,G,C⟩:=i;refine wpAny_Slice (Hb (k a p d n _ N C) λg K ⟨l,y,L,pl,E⟩=>Hb (t a K d y _ L E) λf c i=>?_);obtain⟨u,j,B,m,M⟩:=i;rw[evalPart_none];refine wpAny_pure ?_;have D:Inv X a d j { c with heap:=c.heap.push { cls:=.type "slice",data:=.fields #[g,f,.none] } }:=B.kept (t':=c.toks) λb O q=>Heap.get?_push_of_some _ q;obtain⟨T,id,J,o,F⟩:=hr a { c with heap:=c.heap.push { cls:=.type "slice",data:=.fields #[g,f,.none] } } d j x v g f l u c.heap.objs.size Q D G (Heap.IsSliceOf.new ..) pl m M;show wpAny (model X.prog X.w) X.A (subscriptTail e (.Slice lo hi none p2) v (.ref c.heap.objs.size)) (EP X a d Q) X.xe { c with heap:=c.heap.push { cls:=.type "slice",data:=.fields #[g,f,.none] } };exact tail_any (ops:=[.ref c.heap.objs.size,v]) o J F (by with_unfolding_all rfl)
def t9 (a:List V)(lo hi:Option Int):List V:=(a.drop (HT.Hr a.length 0 lo)).take (HT.Hr a.length a.length hi-HT.Hr a.length 0 lo)
theorem fU (a:List V)(lo hi:Option Int):(t9 a lo hi).length<=a.length:=by unfold t9;rw[length_take,length_drop];omega
def Fy (K:GI):V->Option Int->Option Int->Hp->VK->Prop:=λx lo hi H Q => ∃ a b,x = .ref a/\Kt K H a b /\
 ¬ (HT.Hr b.length 0 lo=0/\HT.Hr b.length b.length hi=b.length)/\∀ p,H p=none->Q (.ref p) (upd H p (.tup (t9 b lo hi)))
theorem Cr:Q0 X (Fy X.K):=by
 intro g s t H x v w u lo hi p Q I k m pl i h;obtain⟨a,d,rfl,l,j,q⟩:=h;cases k;obtain⟨its,r,e,f⟩:=I.tuple l;have c:its.toArray.size=d.length:=by rw[size_toArray];exact r.length.symm
 refine⟨"tuple",_,PyProof.Rows.slot_tuple_getitem.lookup,e.typeIs,?_⟩;refine HT.IZ e m pl i (by rw[c];exact j) ?_ (by rw[c];exact f);rw[c];refine⟨.ref s.heap.objs.size,_,I.laid (t':=s.toks) (o:=.tup (t9 d lo hi)) (λb n q=>Heap.get?_push_of_some _ q) (le_refl _) ?_,rfl,q _ (I.Ha.fresh (le_refl _))⟩;exact⟨Nat.le_trans (fU d lo hi) f,_,(r.drop (HT.Hr d.length 0 lo)).take (HT.Hr d.length d.length hi-HT.Hr d.length 0 lo),JV.new _ _⟩
def Ee (K:GI):R2:=λx y H Q => ∃ a b d c,x = .ref a/\y = .ref b/\Kt K H a d/\Kt K H b c/\d≠[]/\d.length+c.length<=sizeLine /\
 (c=[]->Q (.ref a) H)/\(c≠[]->∀ p,H p=none->Q (.ref p) (upd H p (.tup (d++c))))
theorem Vals.G0 {a:List V}{us:List Value}(r:Vals a us):us=[]↔a=[]:=by
 cases r with
 |nil=>simp
 |cons _ _=>simp
theorem Bg:JZ X (binaryOp .Add) (Ee X.K):=by intro f s A H x y v u Q I j g h;obtain⟨a,b,p,r,rfl,rfl,n,hb,l,e,i,k⟩:=h;cases j;cases g;obtain⟨its,d,m,_⟩:=I.tuple n;obtain⟨B,c,p2,_⟩:=I.tuple hb;refine HT.Nn m p2 (λz=>l (d.G0.mp z)) (λz=>⟨.ref a,H,I,rfl,i (c.G0.mp z)⟩) (λz=>?_) (by rw[← d.length,← c.length];exact e);refine⟨.ref s.heap.objs.size,_,I.laid (t':=s.toks) (o:=.tup (p++r)) (λb t q=>Heap.get?_push_of_some _ q) (le_refl _) ?_,rfl,k (λw=>z (c.G0.mpr w)) _ (I.Ha.fresh (le_refl _))⟩;exact⟨by rw[List.length_append];exact e,_,d.append c,JV.new _ _⟩
end
def M5 (n:Nat)(i:Int):Option Nat:=if 0<=i then (if i<n then some i.toNat else none) else if -(n:Int)<=i then some (i+n).toNat else none
def Jp {α:Type}(a:List α)(i:Int):Option α:=(M5 a.length i).bind λj=>a[j]?
theorem BC {n:Nat}{i:Int}{j:Nat}(h:M5 n i=some j):seqIndex? i n=some j/\j<n/\-(n:Int)<=i/\i<n:=by
 unfold M5 at h;by_cases b : 0<=i
 ·rw[if_pos b] at h;by_cases a:i<n
  ·rw[if_pos a] at h;have e:i.toNat=j:=Option.some.inj h;exact⟨by rw[seqIndex_of b a,e],by omega,by omega,a⟩
  rw[if_neg a] at h;cases h
 rw[if_neg b] at h;by_cases a : -(n:Int)<=i
 ·rw[if_pos a] at h;have e:(i+n).toNat=j:=Option.some.inj h;exact⟨by rw[seqIndex_neg (by omega) a,e],by omega,a,by omega⟩
 rw[if_neg a] at h;cases h
theorem mB {α:Type}{a:List α}{i:Int}{v : α}(h:Jp a i=some v):∃ j,seqIndex? i a.length=some j/\a[j]?=some v/\j<a.length/\-(a.length:Int)<=i/\i<a.length:=by
 unfold Jp at h;cases e:M5 a.length i with
 |none=>rw[e] at h;cases h
 |some j =>
  rw[e] at h;obtain⟨c,f,b,d⟩:=BC e;exact⟨j,c,h,f,b,d⟩
def mD (b:Expr):Prop:=∀ o i,subscripted b false o i=operate [o,i] (getItem o i)
def PL (X:Cx)(r:R2):Prop:=
 ∀ (value slice:Expr) (a:GK) (s:Shared) (b:St) (H:Hp) (x y:V) (v u:Value) (Q:VK),Inv X a b H s->RelV x v->RelV y u->r x y H Q ->
  subscripted slice false v u=operate [v,u] (getItem v u)->wpAny (model X.prog X.w) X.A (subscriptTail value slice v u) (EP X a b Q) X.xe s
def Q1 (X:Cx)(id:String)(r:V->List V->Hp->VK->Prop):Prop:=
 ∀ (a:GK) (s:Shared) (d:St) (H:Hp) (x:V) (b:List V) (v:Value) (c:List Value) (Q:VK),Inv X a d H s->RelV x v->Vals b c->r x b H Q ->
  wpAny (model X.prog X.w) X.A (call (.builtin id) (v::c)) (EP X a d Q) X.xe s
section
variable {X:Cx}{a b:Expr}{ta tb:TE}{pos:Pos}
theorem B6 {r:R2}(hr:PL X r)(j:PE X a ta)(hb:PE X b tb)(l:mD b):PE X (.Subscript a b pos) (O4 r ta tb):=by intro c s e H Q I h;exact Subscript_ (DM j hb I h λv u i x y f k g d q=>hr a b c i e f x y v u Q k g d q (l _ _))
def FC (K:GI):R2:=λx y H Q => ∃ p a i v,x = .ref p/\y = .int i/\Ks K H p a/\Jp a i=some v/\Q v H
def FA (K:GI):R2:=λx y H Q => ∃ p a i v,x = .ref p/\y = .int i/\Kt K H p a/\Jp a i=some v/\Q v H
def FB:R2:=λx y H Q => ∃ z i c,x = .str z/\y = .int i/\z.length<=sizeLine/\Jp z.cps.toList i=some c/\Q (.str ⟨#[c]⟩) H
theorem wG:PL X (FC X.K):=by
 intro value slice a s e H x y v u Q I B m h g;obtain⟨p,L,i,z,rfl,rfl,E,A,q⟩:=h;cases B;obtain⟨t,rfl⟩:=m;obtain⟨its,r,pl,F⟩:=I.list E;obtain⟨j,b,n,G,k,D⟩:=mB A;obtain⟨w,d,C⟩:=r.get n;have l:=r.length;have J:=nI;have fin:EP X a e Q w s:=⟨z,H,I,C,q⟩;by_cases f : 0<=i
 ·have c:i.toNat=j:=by
   rw[seqIndex_of f D] at b;exact Option.some.inj b
  exact item_listR pl.isList f (by omega) (by rw[c];simpa using d) fin g
 have c:(i+(its.toArray.size:Int)).toNat=j:=by rw[seqIndex_neg (by omega) k] at b;rw[size_toArray,← l];exact Option.some.inj b
 exact subscriptTail_builtinR (x:=w) pl.isList.typeIs slot_list_getitem.lookup
  (wpAny_getItem_list_neg (Q:=λr o=>r=w/\EP X a e Q r o) pl.isList (by omega) (by rw[size_toArray]<;>omega) (by omega) (by rw[c];simpa using d) ⟨rfl,fin⟩) g
theorem Ds:PL X (FA X.K):=by
 intro value slice a s b H x y v u Q I m f h A;obtain⟨p,G,i,z,rfl,rfl,o,l,q⟩:=h;cases m;obtain⟨t,rfl⟩:=f;obtain⟨its,r,pl,C⟩:=I.tuple o;obtain⟨j,c,g,D,B,F⟩:=mB l;obtain⟨w,d,n⟩:=r.get g;have e:=r.length;have E:=nI;have fin:EP X a b Q w s:=⟨z,H,I,n,q⟩
 exact subscriptTail_builtinR (x:=w) pl.typeIs slot_tuple_getitem.lookup
  (getItem_tuple (j:=j) (Q:=λr k=>r=w/\EP X a b Q r k) pl (by omega) (by omega) (by rw[size_toArray,← e];exact c) (by simpa using d) ⟨rfl,fin⟩) A
theorem Dt:PL X FB:=by
 intro value slice b s r H x y v u Q I n g h p;obtain⟨z,i,c,rfl,rfl,w,m,q⟩:=h;obtain⟨t,rfl⟩:=n;obtain⟨C,rfl⟩:=g;obtain⟨j,a,k,A,d,o⟩:=mB m;have e:z.cps.toList.length=z.length:=by simp[Str.length]
 rw[e] at a d o;have B:=nI
 exact tail_any (typeIs_str s z t) slot_str_getitem.lookup (getItem_str (c:=c) (by
  have f:decide (i < -(2 ^ 63:Int))=false:=decide_eq_false (by omega);have l:decide (i≥2 ^ 63)=false:=decide_eq_false (by omega)
  rw[f,l,Bool.or_false]) (by rw[a];simpa using k) ⟨.str ⟨#[c]⟩,H,I.tok _,⟨_,rfl⟩,q⟩) p
theorem qG (lo a:Option Int)(n:Nat):(sliceBounds lo a none n).1=((HT.Hr n 0 lo:Nat):Int)/\(sliceBounds lo a none n).2.1=((HT.Hr n n a:Nat):Int)/\(sliceBounds lo a none n).2.2=1:=by
 refine⟨?_,?_,rfl⟩
 ·cases lo with
  |none=>simp[sliceBounds,HT.Hr]
  |some i =>
   simp only[sliceBounds,HT.Hr,getD_none,show (1:Int) > 0 by decide,if_true];by_cases h:i<0
   ·simp only[h,if_true]<;>omega
   simp only[h,if_false]<;>omega
 cases a with
 |none=>simp[sliceBounds,HT.Hr]
 |some i =>
  simp only[sliceBounds,HT.Hr,getD_none,show (1:Int) > 0 by decide,if_true];by_cases h:i<0
  ·simp only[h,if_true]<;>omega
  simp only[h,if_false]<;>omega
theorem oH (its:List Value)(lo a:Option Int):slicePick its.toArray lo a none=((its.drop (HT.Hr its.length 0 lo)).take (HT.Hr its.length its.length a-HT.Hr its.length 0 lo)).toArray:=by obtain⟨c,d,b⟩:=qG lo a its.toArray.size;unfold slicePick;rw[c,d,b];simp only[sliceRange_one,pick_run,size_toArray]<;>rfl
def Fz (K:GI):V->Option Int->Option Int->Hp->VK->Prop:=λx lo c H Q => ∃ a b,x = .ref a/\Ks K H a b/\∀ p,H p=none->Q (.ref p) (upd H p (.lst (t9 b lo c)))
theorem AN:Q0 X (Fz X.K):=by intro g s t H x v w u lo e p Q I k m pl i h;obtain⟨a,c,rfl,l,q⟩:=h;cases k;obtain⟨its,r,f,j⟩:=I.list l;have d:=r.length;refine⟨"list",_,slot_list_getitem.lookup,f.isList.typeIs,?_⟩;refine wpAny_getItem_list_slice f.isList m pl i .none (by simp) ?_ (by rw[size_toArray]<;>omega);rw[oH,← d];refine⟨.ref s.heap.objs.size,_,I.laid (t':=s.toks) (o:=.lst (t9 c lo e)) (λb n q=>Heap.get?_push_of_some _ q) (le_refl _) ?_,rfl,q _ (I.Ha.fresh (le_refl _))⟩;exact⟨Nat.le_trans (fU c lo e) j,_,0,(r.drop (HT.Hr c.length 0 lo)).take (HT.Hr c.length c.length e-HT.Hr c.length 0 lo),Heap.get?_push_size _ rfl⟩
theorem g9:gJ X (.builtin "len") (λd H Q => ∃ p ys,d=[.ref p]/\(Ks X.K H p ys∨Kt X.K H p ys)/\Q (.int ys.length) H):=by
 intro c s g H d j Q I r h;obtain⟨p,ys,rfl,hq,q⟩:=h;obtain⟨u,rfl,f⟩:=vals1 r;cases f;have i:=nI;rcases hq with hq |hq
 ·obtain⟨its,b,pl,e⟩:=I.list hq;have a:=b.length;exact Calls.call_len_list pl.isList (by simp only[size_toArray]<;>omega) ⟨.int ys.length,H,I.tok _,⟨s.toks+1,by rw[size_toArray,a]⟩,q⟩
 obtain⟨its,b,pl,e⟩:=I.tuple hq;have a:=b.length;exact len_tuple pl (by simp only[size_toArray]<;>omega) ⟨.int ys.length,H,I.tok _,⟨s.toks+1,by rw[size_toArray,a]⟩,q⟩
theorem rz:gJ X (.builtin "len") (λb H Q => ∃ z,b=[.str z]/\z.length<=sizeLine/\Q (.int z.length) H):=by intro a s e H b f Q I r h;obtain⟨z,rfl,d,q⟩:=h;obtain⟨u,rfl,t,rfl⟩:=vals1 r;have c:=nI;exact len_str (by omega) ⟨.int z.length,H,I.tok _,⟨_,rfl⟩,q⟩
theorem j8:gJ X (.type "list") (λm H Q => ∃ p ys,m=[.ref p]/\(Ks X.K H p ys∨Kt X.K H p ys)/\∀ l,H l=none->Q (.ref l) (upd H l (.lst ys))):=by
 intro i s t H m x Q I r h;obtain⟨p,ys,rfl,hq,q⟩:=h;obtain⟨u,rfl,v⟩:=vals1 r;cases v
 have fin:∀ (its:List Value),Vals ys its->ys.length<=sizeLine->∀ (a:Heap) (d:Nat),(∀ b k,s.heap.get? b=some k->a.get? b=some k) ->
   a.get? s.heap.objs.size=some { cls:=.type "list",dict:=none,data:=.seq its.toArray d,slots:=#[] }->EP X i t Q (.ref s.heap.objs.size) { s with heap:=a }:=λits c g a d kp e =>
  ⟨.ref s.heap.objs.size,_,I.laid (t':=s.toks) kp (le_refl _) (show Hm X.prog X.w _ a _ (.lst ys) from⟨g,its,d,c,e⟩),rfl,q _ (I.Ha.fresh (le_refl _))⟩
 rcases hq with hq |hq
 ·obtain⟨its,c,pl,g⟩:=I.list hq;have f:=c.length;obtain⟨o,j,hc,n,hd⟩:=pl.isList;exact call_list_seq p (.inl rfl) j hc hd (λa d kp e=>fin its c g a d kp e) (by simp only[size_toArray]<;>omega)
 obtain⟨its,c,pl,g⟩:=I.tuple hq;have f:=c.length;obtain⟨o,j,hc,n,hd⟩:=pl;exact call_list_seq p (.inr rfl) j hc hd (λa d kp e=>fin its c g a d kp e) (by simp only[size_toArray]<;>omega)
theorem jq:gJ X (.type "tuple") (λm H Q => ∃ p ys,m=[.ref p]/\((Ks X.K H p ys/\∀ l,H l=none->Q (.ref l) (upd H l (.tup ys)))∨(Kt X.K H p ys/\Q (.ref p) H))):=by
 intro a s g H m v Q I r h;obtain⟨p,ys,rfl,h⟩:=h;obtain⟨u,rfl,n⟩:=vals1 r;cases n;rcases h with ⟨f,q⟩ |⟨f,q⟩
 ·obtain⟨its,d,pl,j⟩:=I.list f;have i:=d.length;refine call_tuple_list pl.isList (λc kp=>?_) (by simp only[size_toArray]<;>omega);have k:Inv X a g H { s with heap:=c }:=I.kept (t':=s.toks) kp
  have t:Inv X a g (upd H c.objs.size (.tup ys)) { s with heap:=c.push { cls:=.type "tuple",data:=.seq its.toArray } }:=
   k.laid (t':=s.toks) (λb o e=>Heap.get?_push_of_some _ e) (le_refl _) (show Hm X.prog X.w _ _ _ (.tup ys) from⟨j,its,d,JV.new _ _⟩)
  exact⟨.ref c.objs.size,_,t,rfl,q _ (k.Ha.fresh (le_refl _))⟩
 obtain⟨its,d,pl,j⟩:=I.tuple f;exact call_tuple_same pl ⟨.ref p,H,I,rfl,q⟩
def O8 (K:GI)(T:String)(x:V)(H:Hp):Prop:=match x with
 | .str _=>T="str"
 | .int _=>T="int"
 | .ref p=>(T="list"/\∃ b,Ks K H p b)∨(T="tuple"/\((∃ o,K.lookup p=some o/\o.cls = .type "tuple"/\o.dict=none)∨∃ b,Rd H p (.tup b))) ∨
   (T="dict"/\((∃ a,H p=some (.dK a))∨∃ a,H p=some (.dT a)))∨(T="set"/\∃ S n,H p=some (.set S n))
 |_=>False
theorem Ch {f:GK}{j:St}{H:Hp}{s:Shared}{T:String}{x:V}{v:Value}(I:Inv X f j H s)(r:RelV x v)(ty:O8 X.K T x H) :
  s.TypeIs v T/\∀ a,v = .ref a->∃ h,s.heap.get? a=some h/\h.dict=none:=by
 cases x with
 |str z =>
  obtain⟨t,rfl⟩:=r;cases (show T="str" from ty);exact⟨typeIs_str s z t,λ_ e=>nomatch e⟩
 |int i =>
  obtain⟨t,rfl⟩:=r;cases (show T="int" from ty);exact⟨typeIs_int s i t,λ_ e=>nomatch e⟩
 |ref p =>
  cases r;rcases ty with ⟨rfl,l,k⟩ |⟨rfl,⟨o,b,hc,hd⟩ |⟨l,hr⟩⟩ |⟨rfl,b⟩ |⟨rfl,S,n,b⟩
  ·obtain⟨its,_,pl,_⟩:=I.list k;refine⟨pl.isList.typeIs,λa e=>?_⟩;cases e;obtain⟨o,n,e,c,hd,_⟩:=pl;exact⟨o,e,hd⟩
  ·refine⟨⟨o,I.Kj p o b,hc⟩,λa e=>?_⟩;cases e;exact⟨o,I.Kj _ o b,hd⟩
  ·obtain⟨_,its,_,n,e⟩:=hr.ok I.Ha;refine⟨⟨_,e,rfl⟩,λa d=>?_⟩;cases d;exact⟨_,e,rfl⟩
  ·have z:∃ o,s.heap.get? p=some o/\o.ExactDict:=by
    rcases b with ⟨g,b⟩ |⟨g,b⟩
    ·obtain⟨_,_,_,_,o,_,_,e,ex,_⟩:=I.Ha p _ b;exact⟨o,e,ex⟩
    obtain⟨_,_,_,_,o,_,_,e,ex,_⟩:=I.Ha p _ b;exact⟨o,e,ex⟩
   obtain⟨o,e,ex⟩:=z;refine⟨⟨o,e,ex.1⟩,λa d=>?_⟩;cases d;exact⟨o,e,ex.2.1⟩
  obtain⟨o,_,_,_,e,ex,_⟩:=I.Ha p _ b;refine⟨⟨o,e,ex.1⟩,λa d=>?_⟩;cases d;exact⟨o,e,ex.2.1⟩
 |_=>exact False.elim ty
def T1 (K:GI)(T:String)(r:V->List V->Hp->VK->Prop)(to:TE)(t:TA):TE:=λa H Q=>to a H λx b=>O8 K T x b/\t a b λd c=>r x d c Q
variable {o e:Expr}{es:List Expr}{to:TE}{t:TA}{name:Str}{apos Hh:Pos}{T id:String}{r:V->List V->Hp->VK->Prop}
theorem wo (k:PlainAttrs T)(slot:Slot T name id)(z:typeOf (.builtin id)=pure (.type "method_descriptor"))(A:Q1 X id r)(M:PE X o to)(F:PA X (e::es) t)
  (w:attributeBase o name X.env (eval o X.env)=eval o X.env:=by rfl)
  (p:((backTo Hh (starEach (e::es) X.env)).all (λx => !x.1)&&(backToKw Hh (keywordEach [] X.env)).all (λx=>x.1.isSome)
   && decide ((e::es).length+([]:List Keyword).length+(if ([]:List Keyword).isEmpty then 0 else 1)<30))=true:=by rfl)
  (j:(apos.endLine==Hh.line)=true:=by rfl) (J:starEach (e::es) X.env=(false,eval e X.env)::starEach es X.env:=by rfl) (L:(backTo Hh (starEach es X.env)).any (·.1)=false:=by rfl) :
  PE X (.Call (.Attribute o name apos) (e::es) [] Hh) (T1 X.K T r to t):=by
 intro a s b H Q I h;refine wpAny_Call_method_late w p j rfl (Hb (M a s b H _ I h) λv l C=>?_);obtain⟨x,i,f,d,ty,u⟩:=C;obtain⟨g,n⟩:=Ch f d ty;refine⟨T,id,k,slot,z,g,n,?_⟩;have c:=F Hh a l b i _ f u;rw[J] at c ⊢;refine Calls.callWith_builtin (by show (false ||(backTo Hh (starEach es X.env)).any (·.1))=false;rw[L]<;>rfl) (Calls.evalArgs_plain ?_);exact Hb c λB D ⟨m,q,G,E,y⟩=>A a D b q x m v B Q G d E y
end
def Vw (X:Cx)(id:String)(r:V->List V->Hp->VK->Prop):Prop:=
 ∀ (a:GK) (s:Shared) (d:St) (H:Hp) (x:V) (b:List V) (v:Value) (c:List Value) (Q:VK),Inv X a d H s->RelV x v->Vals b c->r x b H Q ->
  wpAny (model X.prog X.w) X.A (call (.builtin id) (v::c)) (EP X a d Q) X.xe s
theorem Vals.one:∀ {x:V}{us:List Value},Vals [x] us->∃ u,us=[u]/\RelV x u
 |_,_,.cons r .nil=>⟨_,rfl,r⟩
theorem Vals.rep {a:List V}{us:List Value}(h:Vals a us):∀ k:Nat,Vals (replicate k a).flatten (replicate k us).flatten
 | 0 => .nil
 |k+1=>by
  rw[replicate_succ,replicate_succ,flatten_cons,flatten_cons];exact Vals.append h (Vals.rep h k)
theorem foldl_rep (its:List Value):∀ (k:Nat) (a:List Value),
  List.foldl (λx1 x2=>x1++x2) a.toArray (replicate k its.toArray)=(a++(replicate k its).flatten).toArray
 | 0,a=>by simp
 |k+1,a=>by
  have e:a.toArray++its.toArray=(a++its).toArray:=by simp
  have b:(a++its)++(replicate k its).flatten=a++(replicate (k+1) its).flatten:=by rw[replicate_succ,flatten_cons,List.append_assoc]
  rw[← b,← foldl_rep its k (a++its),← e,replicate_succ,foldl_cons]
section
variable {X:Cx}{pins:GK}{σ:St}{H:Hp}{s:Shared}{l b:Addr}{xs ys zs:List V}
theorem Inv.RV {its its':List Value}{n:Nat}{f:Array Value->Array Value}{t':Nat}(I:Inv X pins σ H s)(d:H l=some (.lst xs))
  (e:s.heap.get? l=some { cls:=.type "list",data:=.seq its.toArray n }) (c:f its.toArray=its'.toArray) (a:Vals ys its') (hz:ys.length<=sizeLine) :
  Inv X pins σ (upd H l (.lst ys)) { s with heap:=s.heap.update l (Obj.mapSeq f),toks:=t' }:=by
 have q:=PySem.IsL.update e f;rw[c] at q;refine I.write (x:=l) (e:=l) (by rw[d];exact trivial) (.inl rfl) (λg u hb b=>(Heap.get?_update_other s.heap (Obj.mapSeq f) (Ne.symm hb)).trans b) ⟨_,q⟩ ?_;exact⟨hz,its',_,a,q⟩
theorem Inv.RW {its:List Value}{t':Nat}(I:Inv X pins σ H s)(a:Vals ys its)(hz:ys.length<=sizeLine) :
  Inv X pins σ (upd H s.heap.objs.size (.lst ys)) { s with heap:=s.heap.push { cls:=.type "list",data:=.seq its.toArray },toks:=t' }:=
 I.laid (λ_ _ q=>Heap.get?_push_of_some _ q) (le_refl _) ⟨hz,its,0,a,Heap.get?_push_size _ rfl⟩
theorem Inv.fresh (I:Inv X pins σ H s):H s.heap.objs.size=none:=I.Ha.fresh (le_refl _)
theorem Inv.RX (I:Inv X pins σ H s)(a:H l=some (.lst xs)):xs.length<=sizeLine/\∃ (its:List Value) (n:Nat),Vals xs its/\xs.length=its.length/\s.heap.get? l=some { cls:=.type "list",data:=.seq its.toArray n }:=by obtain⟨z,its,n,r,e⟩:=I.Ha l _ a;exact⟨z,its,n,r,r.length,e⟩
end
section
variable {X:Cx}
def AX:V->List V->Hp->VK->Prop:=λx b H Q => ∃ l a y,x = .ref l/\b=[y]/\H l=some (.lst a)/\a.length<sizeLine/\Q .Hu (upd H l (.lst (a++[y])))
theorem xL:Vw X "list.append" AX:=by intro a s i H x j v m Q I d c h;obtain⟨l,o,y,rfl,rfl,b,k,q⟩:=h;cases d;obtain⟨u,rfl,f⟩:=c.one;obtain⟨z,its,n,r,g,e⟩:=I.RX b;refine call_meets F.slot_list_append ⟨_,e,rfl⟩ F.entry_list_append (F.args_list_append_2 _ _) (PySem.list_append l its.toArray n u (by rw[size_toArray];omega)) ⟨e,?_⟩;refine⟨.Hu,_,I.RV (its':=its++[u]) b e (by simp) (r.append (.cons f .nil)) ?_,rfl,q⟩;rw[List.length_append,List.length_singleton];omega
theorem len_rep {α:Type}(a:List α)(k:Nat):(replicate k a).flatten.length=k*a.length:=by
 induction k with
 |zero=>simp
 |succ k b=>rw[replicate_succ,flatten_cons,List.length_append,b,Nat.succ_mul,Nat.add_comm]
end
inductive D where
 |Hu |bl (b:Bool) |int (i:Int) |str (x:Str)
 |tup (xs:List D) |lst (xs:List D) |set (xs:List D) |loc (l:Nat) |fn (x:Str) (st:Stmt)
 deriving Inhabited
def TQ (K:GI)(H:Hp)(J:List Addr)(a:Addr)(b:List V):Prop:=
 (Rd H a (.tup b)/\a∉J/\b.length<=sizeLine)∨∃ (o:Obj) (its:Array Value) (n:Nat),K.lookup a=some o/\o.cls = .type "tuple"/\o.dict=none/\o.data = .seq its n/\its.size<=sizeLine/\Vals b its.toList
def LQ (K:GI)(H:Hp)(J:List Addr)(a:Addr)(b:List V):Prop:=
 (Rd H a (.lst b)/\a∉J/\b.length<=sizeLine)∨∃ (o:Obj) (its:Array Value) (n:Nat),K.lookup a=some o/\o.cls = .type "list"/\o.dict=none/\o.data = .seq its n/\its.size<=sizeLine/\Vals b its.toList
theorem TQ.sq {K:GI}{H:Hp}{J:List Addr}{a:Addr}{d:List V}(h:TQ K H J a d):Kt K H a d:=h.elim (λz => .inl z.1) λ⟨o,its,n,a,b,_,c⟩ => .inr ⟨o,its,n,a,b,c⟩
theorem LQ.sq {K:GI}{H:Hp}{J:List Addr}{a:Addr}{b:List V}(h:LQ K H J a b):Ks K H a b:=h.elim (λz => .inl z.1) .inr
def DS (a:Addr)(us:List Value):HO:=HO.ext λh => ∃ o es ep t,h.get? a=some o/\o.ExactSet/\o.data = .set es ep t/\(es.toList.map (·.2))=us/\t.fits es.size=true/\es.size<=sizeLine
def NL (x:Str):Prop:=x.length<=sizeLine/\PyData.strOk x=true
mutual
def At (K:GI)(H:Hp)(J:List Addr):D->V->Prop
 | .Hu,v=>v = .Hu
 | .bl b,v=>v = .bl b
 | .int i,v=>v = .int i
 | .str x,v=>v = .str x/\NL x
 | .tup d,v => ∃ a c,v = .ref a/\TQ K H J a c/\GU K H J d c
 | .lst d,v => ∃ a c,v = .ref a/\LQ K H J a c/\GU K H J d c
 | .set d,v => ∃ a e c,v = .ref a/\H a=some (DS a e)/\a∉J/\Vals c e/\GU K H J d c
 | .loc l,v => ∃ a,v = .ref a/\J[l]?=some a
 | .fn x st,v => ∃ f fd,v = .ref f/\L1 K x x st f fd
def GU (K:GI)(H:Hp)(J:List Addr):List D->List V->Prop
 |[],vs=>vs=[]
 |d::ds,vs => ∃ v r,vs=v::r/\At K H J d v/\GU K H J ds r
end
structure Ex (J:List Addr) (H:Hp) (J':List Addr) (H':Hp):Prop where
 pre:J <+: J'
 keep:∀ b o,H b=some o->b∉J->H' b=some o/\b∉J'
theorem Ex.refl {J:List Addr}{H:Hp}:Ex J H J H:=⟨prefix_refl _,λ_ _ h n=>⟨h,n⟩⟩
theorem Ex.trans {J f d:List Addr}{H g e:Hp}(a:Ex J H f g)(b:Ex f g d e):Ex J H d e:=
 ⟨a.pre.trans b.pre,λc o h n=>let ⟨i,n1⟩:=a.keep c o h n;b.keep c o i n1⟩
theorem Ex.same {J:List Addr}{H H':Hp}(s:G5 H H'):Ex J H J H':=⟨prefix_refl _,λb o h n=>⟨s b o h,n⟩⟩
section
variable {K:GI}{H H':Hp}{J J':List Addr}
theorem Rd.ex {a:Addr}{u:HO}(e:Ex J H J' H')(h:Rd H a u)(n:a∉J):Rd H' a u/\a∉J':=by
 rcases h with h |⟨o,h⟩
 ·exact⟨.inl (e.keep a _ h n).1,(e.keep a _ h n).2⟩
 exact⟨.inr ⟨o,(e.keep a _ h n).1⟩,(e.keep a _ h n).2⟩
theorem TQ.ex {a:Addr}{b:List V}(e:Ex J H J' H')(h:TQ K H J a b):TQ K H' J' a b:=h.elim (λz => .inl ⟨(z.1.ex e z.2.1).1,(z.1.ex e z.2.1).2,z.2.2⟩) .inr
theorem LQ.ex {a:Addr}{b:List V}(e:Ex J H J' H')(h:LQ K H J a b):LQ K H' J' a b:=h.elim (λz => .inl ⟨(z.1.ex e z.2.1).1,(z.1.ex e z.2.1).2,z.2.2⟩) .inr
theorem TQ.len {a:Addr}{b:List V}(h:TQ K H J a b):b.length<=sizeLine:=by
 rcases h with ⟨_,_,z⟩ |⟨o,its,n,_,_,_,_,z,r⟩
 ·exact z
 have e:=Vals.length r;simp only[length_toList] at e;omega
theorem LQ.len {a:Addr}{b:List V}(h:LQ K H J a b):b.length<=sizeLine:=by
 rcases h with ⟨_,_,z⟩ |⟨o,its,n,_,_,_,_,z,r⟩
 ·exact z
 have e:=Vals.length r;simp only[length_toList] at e;omega
theorem qN {α:Type}{l a:List α}(h:l <+: a){i:Nat}{x : α}(e:l[i]?=some x):a[i]?=some x:=by obtain⟨t,rfl⟩:=h;rw[getElem?_append_left (List.getElem?_eq_some_iff.mp e).1];exact e
mutual
theorem At.ex (e:Ex J H J' H'):∀ {d:D}{v:V},At K H J d v->At K H' J' d v
 | .Hu,_,h=>by unfold At at h ⊢;exact h
 | .bl _,_,h=>by unfold At at h ⊢;exact h
 | .int _,_,h=>by unfold At at h ⊢;exact h
 | .str _,_,h=>by unfold At at h ⊢;exact h
 | .tup c,_,h=>by unfold At at h ⊢;obtain⟨a,b,rfl,q,r⟩:=h;exact⟨a,b,rfl,q.ex e,GU.ex e r⟩
 | .lst c,_,h=>by unfold At at h ⊢;obtain⟨a,b,rfl,q,r⟩:=h;exact⟨a,b,rfl,q.ex e,GU.ex e r⟩
 | .set c,_,h=>by unfold At at h ⊢;obtain⟨a,f,b,rfl,q,n,r,z⟩:=h;exact⟨a,f,b,rfl,(e.keep a _ q n).1,(e.keep a _ q n).2,r,GU.ex e z⟩
 | .loc l,_,h=>by unfold At at h ⊢;obtain⟨a,rfl,q⟩:=h;exact⟨a,rfl,qN e.pre q⟩
 | .fn _ _,_,h=>by unfold At at h ⊢;exact h
theorem GU.ex (e:Ex J H J' H'):∀ {ds:List D}{vs:List V},GU K H J ds vs->GU K H' J' ds vs
 |[],_,h=>by unfold GU at h ⊢;exact h
 |d::ds,_,h=>by unfold GU at h ⊢;obtain⟨v,r,rfl,p,q⟩:=h;exact⟨v,r,rfl,At.ex e p,GU.ex e q⟩
end
theorem At.HG {v:V}:At K H J .Hu v↔v = .Hu:=by unfold At;exact Iff.rfl
theorem At.G_ {b:Bool}{v:V}:At K H J (.bl b) v↔v = .bl b:=by unfold At;exact Iff.rfl
theorem At.GQ {i:Int}{v:V}:At K H J (.int i) v↔v = .int i:=by unfold At;exact Iff.rfl
theorem At.G2 {x:Str}{v:V}:At K H J (.str x) v↔v = .str x/\NL x:=by unfold At;exact Iff.rfl
theorem At.G3 {ds:List D}{v:V}:At K H J (.tup ds) v↔∃ a b,v = .ref a/\TQ K H J a b/\GU K H J ds b:=by unfold At;exact Iff.rfl
theorem At.G8 {ds:List D}{v:V}:At K H J (.lst ds) v↔∃ a b,v = .ref a/\LQ K H J a b/\GU K H J ds b:=by unfold At;exact Iff.rfl
theorem At.Ja {ds:List D}{v:V}:At K H J (.set ds) v↔∃ a us b,v = .ref a/\H a=some (DS a us)/\a∉J/\Vals b us/\GU K H J ds b:=by unfold At;exact Iff.rfl
theorem At.G7 {l:Nat}{v:V}:At K H J (.loc l) v↔∃ a,v = .ref a/\J[l]?=some a:=by unfold At;exact Iff.rfl
theorem At.Mu {x:Str}{st:Stmt}{v:V}:At K H J (.fn x st) v↔∃ f fd,v = .ref f/\L1 K x x st f fd:=by unfold At;exact Iff.rfl
theorem GU.G0 {vs:List V}:GU K H J [] vs↔vs=[]:=by unfold GU;exact Iff.rfl
theorem GU.GS {d:D}{ds:List D}{vs:List V}:GU K H J (d::ds) vs↔∃ v r,vs=v::r/\At K H J d v/\GU K H J ds r:=by
 constructor
 ·intro h;unfold GU at h;exact h
 intro h;unfold GU;exact h
theorem GU.nil:GU K H J [] []:=GU.G0.mpr rfl
theorem GU.cons {d:D}{v:V}{ds:List D}{vs:List V}(h:At K H J d v)(r:GU K H J ds vs):GU K H J (d::ds) (v::vs):=GU.GS.mpr ⟨v,vs,rfl,h,r⟩
theorem GU.GY {d:D}{v:V}{ds:List D}{vs:List V}(h:GU K H J (d::ds) (v::vs)):At K H J d v/\GU K H J ds vs:=by obtain⟨_,_,e,p,q⟩:=GU.GS.mp h;cases e;exact⟨p,q⟩
theorem GU.length:∀ {ds:List D}{vs:List V},GU K H J ds vs->ds.length=vs.length
 |[],_,h=>by rw[GU.G0.mp h];rfl
 |d::ds,_,h=>by obtain⟨v,r,rfl,_,q⟩:=GU.GS.mp h;rw[length_cons,length_cons,GU.length q]
theorem GU.append:∀ {ds es:List D}{vs us:List V},GU K H J ds vs->GU K H J es us->GU K H J (ds++es) (vs++us)
 |[],_,_,_,h,k=>by rw[GU.G0.mp h];exact k
 |d::ds,_,_,_,h,k=>by obtain⟨v,r,rfl,p,q⟩:=GU.GS.mp h;exact .cons p (GU.append q k)
theorem GU.get:∀ {ds:List D}{vs:List V}{i:Nat}{d:D},GU K H J ds vs->ds[i]?=some d->∃ v,vs[i]?=some v/\At K H J d v
 |[],_,_,_,_,e=>by simp at e
 |d::ds,_,0,_,h,e=>by obtain⟨v,r,rfl,p,q⟩:=GU.GS.mp h;simp at e;subst e;exact⟨v,rfl,p⟩
 |d::ds,_,i+1,_,h,e=>by obtain⟨v,r,rfl,p,q⟩:=GU.GS.mp h;exact GU.get (i:=i) q (by simpa using e)
theorem GU.get':∀ {ds:List D}{vs:List V}{i:Nat}{v:V},GU K H J ds vs->vs[i]?=some v->∃ d,ds[i]?=some d/\At K H J d v
 |[],_,_,_,h,e=>by rw[GU.G0.mp h] at e;simp at e
 |d::ds,_,0,_,h,e=>by obtain⟨v,r,rfl,p,q⟩:=GU.GS.mp h;simp at e;subst e;exact⟨d,rfl,p⟩
 |d::ds,_,i+1,_,h,e=>by obtain⟨v,r,rfl,p,q⟩:=GU.GS.mp h;exact GU.get' (i:=i) q (by simpa using e)
theorem GU.take:∀ {ds:List D}{vs:List V}(n:Nat),GU K H J ds vs->GU K H J (ds.take n) (vs.take n)
 |_,_,0,_=>by simpa using GU.nil
 |[],_,_+1,h=>by rw[GU.G0.mp h];simpa using GU.nil
 |d::ds,_,n+1,h=>by obtain⟨v,r,rfl,p,q⟩:=GU.GS.mp h;exact .cons p (GU.take n q)
theorem GU.drop:∀ {ds:List D}{vs:List V}(n:Nat),GU K H J ds vs->GU K H J (ds.drop n) (vs.drop n)
 |_,_,0,h=>h
 |[],_,_+1,h=>by rw[GU.G0.mp h];simpa using GU.nil
 |d::ds,_,n+1,h=>by obtain⟨v,r,rfl,p,q⟩:=GU.GS.mp h;exact GU.drop n q
theorem GU.rep {ds:List D}{vs:List V}(h:GU K H J ds vs):∀ k:Nat,GU K H J (replicate k ds).flatten (replicate k vs).flatten
 | 0=>GU.nil
 |k+1=>by rw[replicate_succ,replicate_succ,flatten_cons,flatten_cons];exact h.append (GU.rep h k)
theorem GU.ofInts:∀ (ns:List Int),GU K H J (ns.map D.int) (ns.map V.int)
 |[] => .nil
 |n::ns => .cons (At.GQ.mpr rfl) (GU.ofInts ns)
theorem GU.Jr:∀ {ns:List Int}{vs:List V},GU K H J (ns.map D.int) vs->vs=ns.map V.int
 |[],_,h=>GU.G0.mp h
 |n::ns,_,h=>by obtain⟨v,r,rfl,p,q⟩:=GU.GS.mp h;rw[At.GQ.mp p,GU.Jr q];rfl
end
mutual
def toPy:D->Option PyData
 | .Hu=>some .none
 | .bl b=>some (.bool b)
 | .int i=>some (.int i)
 | .str x=>some (.str x)
 | .tup a=>(bX a).map .tuple
 | .lst a=>(bX a).map .list
 | .set _=>none
 | .loc _=>none
 | .fn _ _=>none
def bX:List D->Option (List PyData)
 |[]=>some []
 |d::ds=>(toPy d).bind λp=>(bX ds).map λr=>p::r
end
inductive MO where
 |dict (kvs:List (D×D)) |lst (xs:List D) |exc (c:Str) |GZ (kvs:List (D×D)) |ins (c:Str) (fs:List (Str×D)) |tab (x q:Str) |K5 (lam:Expr) (q n:Str) (d:D)
 deriving Inhabited
abbrev GO:=List MO
def fQ:D->Option Key
 | .int i=>some (.inl i)
 | .str x=>some (.inr x)
 |_=>none
def Vx (a C:Addr):HO:=HO.ext λh => ∃ o,h.get? a=some o/\o.cls = .ref C
def jj (c:Addr)(q:Str):HO:=HO.ext λh => ∃ o a t,h.get? c=some o/\o.data = .fields a/\a[1]?=some (.str q t)
def d6 (a:Addr)(o:Obj):HO:=HO.ext λh=>h.get? a=some o
structure NM (H:Hp) (J:List Addr) (params:Arguments) (body:Expr) (scope:Scope) (q n:Str) (a c c':Addr) (pm Hy:Value) (oc:Obj) (u:Value):Prop where
 fn:H a=some (d6 a (PySem.W.kla_obj "<lambda>" q params body scope [(n,c)] pm c' Hy))
 cj:c'∉J
 cd:H c'=some (jj c' q)
 nj:c∉J
 cl:H c=some (d6 c oc)
 dt:oc.data = .cell (some u)
def E7 (H:Hp)(J:List Addr)(q:Str)(b:Array Value):Prop:=TriplesOk b.toList/\∀ pos a,codeAmong pos b.toList=some a->∃ c,a = .ref c/\c∉J/\H c=some (jj c q)
def gD (d:D):Option PyData:=(toPy d).bind λp=>if keyOk 8 p=true then some p else none
abbrev L3 (K:GI)(H:Hp)(J:List Addr):(D×D)->(PyData×Addr×V)->Prop:=λp q=>(gD p.1=some q.1/\At K H J p.1 (.ref q.2.1))/\At K H J p.2 q.2.2
abbrev Q3 (K:GI)(H:Hp)(J:List Addr):(Str×D)->(Str×V)->Prop:=λp q=>p.1=q.1/\At K H J p.2 q.2
def K6 (K:GI)(H:Hp)(J:List Addr):MO->Addr->Prop
 | .lst l,a => ∃ h,H a=some (.lst h)/\GU K H J l h
 | .dict e,a => ∃ b:List (Key×V),H a=some (.dK b)/\Paired (λ(p:D×D) (q:Key×V)=>(fQ p.1=some q.1/\At K H J p.1 (kV q.1))/\At K H J p.2 q.2) e b
 | .exc c,a => ∃ C,PySem.W.nsIn K mainGlobals c=some (some (.ref C))/\H a=some (Vx a C)
 | .GZ e,a => ∃ b:List (PyData×Addr×V),H a=some (.dN b)/\Paired (L3 K H J) e b
 | .ins c fs,a => ∃ C i g,PySem.W.nsIn K mainGlobals c=some (some (.ref C))/\H a=some (.ins C i g)/\Paired (Q3 K H J) fs g
 | .K5 f q n d,a => ∃ params body scope pos c m k o j u v,f = .Lambda params body scope pos/\NM H J params body scope q n a c m k o j u/\RelV v u/\At K H J d v
 | .tab x q,a => ∃ c b,PySem.W.tabIn K x=some (c,a)/\H a=some (.JU b)/\E7 H J q b
structure G4 (K:GI) (J:List Addr) (S:GO) (H:Hp):Prop where
 len:J.length=S.length
 nd:J.Nodup
 at_:∀ (l:Nat) (a:Addr) (o:MO),J[l]?=some a->S[l]?=some o->K6 K H J o a
section
variable {K:GI}{H H':Hp}{J J':List Addr}{S:GO}
theorem K6.JQ {o:MO}{a:Addr}(h:K6 K H J o a):H a≠none:=by
 cases o with
 |dict b=>obtain⟨_,e,_⟩:=h;rw[e];simp
 |lst g=>obtain⟨_,e,_⟩:=h;rw[e];simp
 |exc c=>obtain⟨_,_,e⟩:=h;rw[e];simp
 |GZ b=>obtain⟨_,e,_⟩:=h;rw[e];simp
 |ins c fs=>obtain⟨_,_,_,_,e,_⟩:=h;rw[e];simp
 |tab x q=>obtain⟨_,_,_,e,_⟩:=h;rw[e];simp
 |K5 f q n d=>obtain⟨_,_,_,_,_,_,_,_,_,_,_,_,e,_⟩:=h;rw[e.fn];simp
theorem G4.tracked (s:G4 K J S H){a:Addr}(h:a∈J):H a≠none:=by
 obtain⟨l,e⟩:=getElem?_of_mem h;have b:l<S.length:=by rw[← s.len];exact(List.getElem?_eq_some_iff.mp e).1
 exact(s.at_ l a _ e (getElem?_eq_getElem b)).JQ
theorem G4.fresh (s:G4 K J S H){a:Addr}(h:H a=none):a∉J:=λm=>s.tracked m h
theorem K6.ex {o:MO}{a:Addr}(e:Ex J H J' H')(k:H' a=H a)(h:K6 K H J o a):K6 K H' J' o a:=by
 cases o with
 |dict i=>obtain⟨g,q,r⟩:=h;exact⟨g,k.trans q,Paired.JJ r λp q z=>⟨⟨z.1.1,z.1.2.ex e⟩,z.2.ex e⟩⟩
 |lst O=>obtain⟨N,q,r⟩:=h;exact⟨N,k.trans q,r.ex e⟩
 |exc c=>obtain⟨C,q,r⟩:=h;exact⟨C,q,k.trans r⟩
 |GZ i=>obtain⟨g,q,r⟩:=h;exact⟨g,k.trans q,Paired.JJ r λp q z=>⟨⟨z.1.1,z.1.2.ex e⟩,z.2.ex e⟩⟩
 |ins c fs=>obtain⟨C,D,w,n,q,r⟩:=h;exact⟨C,D,w,n,k.trans q,Paired.JJ r λp q z=>⟨z.1,z.2.ex e⟩⟩
 |K5 E q n d =>
  obtain⟨s,m,sc,po,c,f,G,M,F,u,v,t,b,y,A⟩:=h;exact⟨s,m,sc,po,c,f,G,M,F,u,v,t,⟨k.trans b.fn,(e.keep f _ b.cd b.cj).2,(e.keep f _ b.cd b.cj).1,(e.keep c _ b.cl b.nj).2,(e.keep c _ b.cl b.nj).1,b.dt⟩,y,A.ex e⟩
 |tab x q =>
  obtain⟨c,g,n,B,I,L⟩:=h;exact⟨c,g,n,k.trans B,I,λpos l b=>let ⟨f,z1,z2,j⟩:=L pos l b;⟨f,z1,(e.keep f _ j z2).2,(e.keep f _ j z2).1⟩⟩
theorem G4.same (s:G4 K J S H)(e:G5 H H'):G4 K J S H':=⟨s.len,s.nd,λl a o c d=>by
 have q:=s.at_ l a o c d;refine q.ex (Ex.same e) ?_;obtain⟨u,b⟩:=Option.ne_none_iff_exists'.mp q.JQ
 rw[b];exact e a u b⟩
end
theorem aP {H:Hp}{p:Addr}(h:H p=none)(o:HO):G5 H (upd H p o):=λb u q=>by rw[aA (aN q h)];exact q
abbrev GP:=List (Option D)
abbrev Out (α:Type):=Option (Except Str α×GO)
abbrev GH(α:Type):=GP->GO->Out α
abbrev GN:=List D->GO->Out D
abbrev WT:=Str->List Addr->GO->Hp->Prop
noncomputable def ah {α b:Type}(m:Out α) (k : α->GO->Out b):Out b:=
 match m with
 |none=>none
 |some (.error c,S)=>some (.error c,S)
 |some (.ok a,S)=>k a S
noncomputable def GW {α:Type}(a : α) (S:GO):Out α:=some (.ok a,S)
@[simp] theorem bA {α b:Type}(a : α)(S:GO)(k : α->GO->Out b):ah (GW a S) k=k a S:=rfl
@[simp] theorem jC {α b:Type}(a : α)(S:GO)(k : α->GO->Out b):ah (some (.ok a,S)) k=k a S:=rfl
@[simp] theorem DX {α a:Type}(c:Str)(S:GO)(k : α->GO->Out a):ah (some (.error c,S)) k=some (.error c,S):=rfl
@[simp] theorem DL {α a:Type}(k : α->GO->Out a):ah none k=none:=rfl
noncomputable def aM {α:Type}(a:Option α) (S:GO):Out α:=a.map λa=>(.ok a,S)
@[simp] theorem bH {α:Type}(a : α)(S:GO):aM (some a) S=GW a S:=rfl
@[simp] theorem DW {α:Type}(S:GO):aM (none:Option α) S=none:=rfl
structure Cf (X:Cx) (J:List Addr) (ρ:GP) (S:GO) (σ:St) (H:Hp):Prop where
 len : ρ.length = σ.length
 env:∀ (i:Nat) (d:D),ρ[i]?=some (some d)->∃ v,σ[i]?=some (some v)/\At X.K H J d v
 Hi:G4 X.K J S H
theorem Cf.re {X:Cx}{J a:List Addr}{ρ:GP}{S b:GO}{f:St}{H H':Hp}(c:Cf X J ρ S f H)(e:Ex J H a H')(s:G4 X.K a b H'):Cf X a ρ b f H':=
 ⟨c.len,λi d h=>let ⟨v,g,j⟩:=c.env i d h;⟨v,g,j.ex e⟩,s⟩
def Fa {α g:Type}(X:Cx)(W:WT)(R:List Addr->Hp->α->g->Prop)(J:List Addr)(H:Hp)(r:Except Str α)(f:GO)(Q : g->Hp->Prop):Prop:=
 match r with
 | .ok a => ∀ e d b,Ex J H e d->G4 X.K e f d->R e d a b->Q b d
 | .error c => ∀ e d,Ex J H e d->G4 X.K e f d->W c e f d
def tG {α a:Type}(X:Cx)(W:WT)(R:List Addr->Hp->α->a->Prop)(ds:List D)(vs:List V)(g:GH α):St->Hp->(a->Hp->Prop)->Prop:=λd H Q =>
 ∃ J b S r c,Cf X J b S d H/\GU X.K H J ds vs/\g b S=some (r,c)/\Fa X W R J H r c Q
abbrev RD (X:Cx):List Addr->Hp->D->V->Prop:=λJ H d v=>At X.K H J d v
abbrev Vy (X:Cx):List Addr->Hp->List D->List V->Prop:=λJ H d v=>GU X.K H J d v
abbrev RB:List Addr->Hp->Bool->Bool->Prop:=λ_ _ a b=>a=b
def tE (X:Cx)(W:WT)(g:GH D):TE:=tG X W (RD X) [] [] g
def tA (X:Cx)(W:WT)(g:GH (List D)):TA:=tG X W (Vy X) [] [] g
def tT (X:Cx)(W:WT)(g:GH Bool):TT:=tG X W RB [] [] g
def SE (X:Cx)(W:WT)(e:Expr)(g:GH D):Prop:=PE X e (tE X W g)
def SA (X:Cx)(W:WT)(es:List Expr)(g:GH (List D)):Prop:=PA X es (tA X W g)
def Jz (X:Cx)(W:WT)(e:Expr)(g:GH Bool):Prop:=PT X e (tT X W g)
def SW (X:Cx)(W:WT)(e:Expr)(g:GH Bool):Prop:=PW X e (tT X W g)
theorem PE.imp {X:Cx}{e:Expr}{t t':TE}(h:PE X e t)(i:∀ a H Q,t' a H Q->t a H Q):PE X e t':=λb s a H Q I z=>h b s a H Q I (i a H Q z)
theorem PT.imp {X:Cx}{e:Expr}{t t':TT}(h:PT X e t)(i:∀ a H Q,t' a H Q->t a H Q):PT X e t':=λb s a H Q I z=>h b s a H Q I (i a H Q z)
theorem PW.imp {X:Cx}{e:Expr}{t t':TT}(h:PW X e t)(i:∀ a H Q,t' a H Q->t a H Q):PW X e t':=λc b s a H Q I z=>h c b s a H Q I (i a H Q z)
theorem PA.imp {X:Cx}{e:List Expr}{t t':TA}(h:PA X e t)(i:∀ a H Q,t' a H Q->t a H Q):PA X e t':=λpos b s a H Q I z=>h pos b s a H Q I (i a H Q z)
section
variable {X:Cx}{W:WT}{α β γ:Type}{R:List Addr->Hp->γ->β->Prop}
theorem tG.G1 {p:GH D}{k:D->GH γ}{ds:List D}{vs:List V}{i:St}{H:Hp}{Q : β->Hp->Prop}
  (h:tG X W R ds vs (λρ S=>ah (p ρ S) λd f=>k d ρ f) i H Q):tE X W p i H λv s => ∃ d,tG X W R (d::ds) (v::vs) (k d) i s Q:=by
 obtain⟨J,ρ,S,r,y,c,a,e,z⟩:=h;cases q:p ρ S with
 |none=>simp[q] at e
 |some o =>
  obtain⟨w,f⟩:=o;simp only[q] at e;cases w with
  |error x =>
   cases e;exact⟨J,ρ,S,.error x,_,c,.nil,q,z⟩
  |ok d =>
   refine⟨J,ρ,S,.ok d,f,c,.nil,q,λt s v x u m=>⟨d,t,ρ,f,r,y,c.re x u,.cons m (a.ex x),e,?_⟩⟩;cases r with
   |ok g=>exact λj l b x2 n A=>z j l b (x.trans x2) n A
   |error g=>exact λj l x2 n=>z j l (x.trans x2) n
theorem tG.Jb {p:GH (List D)}{k:List D->GH γ}{ds:List D}{vs:List V}{i:St}{H:Hp}{Q : β->Hp->Prop}
  (h:tG X W R ds vs (λρ S=>ah (p ρ S) λd f=>k d ρ f) i H Q):tA X W p i H λus s => ∃ es,es.length=us.length/\tG X W R (es++ds) (us++vs) (k es) i s Q:=by
 obtain⟨J,ρ,S,r,y,c,a,e,z⟩:=h;cases q:p ρ S with
 |none=>simp[q] at e
 |some o =>
  obtain⟨w,f⟩:=o;simp only[q] at e;cases w with
  |error x =>
   cases e;exact⟨J,ρ,S,.error x,_,c,.nil,q,z⟩
  |ok d =>
   refine⟨J,ρ,S,.ok d,f,c,.nil,q,λt s v x u m=>⟨d,GU.length m,t,ρ,f,r,y,c.re x u,GU.append m (a.ex x),e,?_⟩⟩;cases r with
   |ok g=>exact λj l b x2 n A=>z j l b (x.trans x2) n A
   |error g=>exact λj l x2 n=>z j l (x.trans x2) n
theorem tG.Kx {p:GH Bool}{k:Bool->GH γ}{ds:List D}{vs:List V}{i:St}{H:Hp}{Q : β->Hp->Prop}
  (h:tG X W R ds vs (λρ S=>ah (p ρ S) λd f=>k d ρ f) i H Q):tT X W p i H λb s=>tG X W R ds vs (k b) i s Q:=by
 obtain⟨J,ρ,S,r,y,c,a,e,z⟩:=h;cases q:p ρ S with
 |none=>simp[q] at e
 |some o =>
  obtain⟨w,f⟩:=o;simp only[q] at e;cases w with
  |error x =>
   cases e;exact⟨J,ρ,S,.error x,_,c,.nil,q,z⟩
  |ok d =>
   refine⟨J,ρ,S,.ok d,f,c,.nil,q,λt s v x u m=>?_⟩;cases m;refine⟨t,ρ,f,r,y,c.re x u,a.ex x,e,?_⟩;cases r with
   |ok g=>exact λj l b x2 n A=>z j l b (x.trans x2) n A
   |error g=>exact λj l x2 n=>z j l (x.trans x2) n
end
section
variable {X:Cx}{pins:GK}{σ:St}{H:Hp}{s:Shared}{J:List Addr}
mutual
theorem At.reads (I:Inv X pins σ H s):∀ {d:D}{v:V}{u:Value}{p:PyData},At X.K H J d v->RelV v u->toPy d=some p->p.canLay0=true/\∃ as,Reads s.heap u p as
 | .Hu,_,_,_,h,r,e=>by
  have h:=At.HG.mp h;subst h;simp[toPy] at e;subst e;cases r;exact⟨rfl,[],.none⟩
 | .bl b,_,_,_,h,r,e=>by
  have h:=At.G_.mp h;subst h;simp[toPy] at e;subst e;cases r;exact⟨rfl,[],.bool b⟩
 | .int i,_,_,_,h,r,e=>by
  have h:=At.GQ.mp h;subst h;simp[toPy] at e;subst e;obtain⟨t,rfl⟩:=r;exact⟨rfl,[],.int i t⟩
 | .str x,_,_,_,h,r,e=>by
  obtain⟨ev,m⟩:=At.G2.mp h;subst ev;simp[toPy] at e;subst e;obtain⟨t,rfl⟩:=r;exact⟨by rw[PyData.canLay0];exact m.2,[],.str x t⟩
 | .tup y,_,_,_,h,r,e=>by
  obtain⟨a,A,rfl,q,z⟩:=At.G3.mp h;rw[toPy] at e;obtain⟨w,f,j⟩:=map_eq_some_iff.mp e;subst j;cases r;obtain⟨its,g,⟨o,l,hc,n,hd⟩,_⟩:=I.tuple q.sq;obtain⟨c,as,k⟩:=GU.readsAll I z g f;exact⟨by rw[PyData.canLay0];exact c,_,.tuple l hc hd (by simpa using k)⟩
 | .lst y,_,_,_,h,r,e=>by
  obtain⟨a,A,rfl,q,z⟩:=At.G8.mp h;rw[toPy] at e;obtain⟨w,f,j⟩:=map_eq_some_iff.mp e;subst j;cases r;obtain⟨its,g,⟨o,n,l,hc,_,hd⟩,_⟩:=I.list q.sq;obtain⟨c,as,k⟩:=GU.readsAll I z g f;exact⟨by rw[PyData.canLay0];exact c,_,.list l hc hd (by simpa using k)⟩
 | .set _,_,_,_,_,_,e=>by simp[toPy] at e
 | .loc _,_,_,_,_,_,e=>by simp[toPy] at e
 | .fn _ _,_,_,_,_,_,e=>by simp[toPy] at e
theorem GU.readsAll (I:Inv X pins σ H s):∀ {ds:List D}{vs:List V}{us:List Value}{a:List PyData},GU X.K H J ds vs->Vals vs us->bX ds=some a->PyData.canLayAll0 a=true/\∃ as,ReadsAll s.heap us a as
 |[],_,_,_,h,r,e=>by
  have h:=GU.G0.mp h;subst h;simp[bX] at e;subst e;cases r;exact⟨rfl,[],.nil⟩
 |d::ds,_,_,_,h,r,e=>by
  obtain⟨v,vs,rfl,p,q⟩:=GU.GS.mp h;rw[bX] at e;obtain⟨t,c,f⟩:=bind_eq_some_iff.mp e;obtain⟨o,g,i⟩:=map_eq_some_iff.mp f;subst i;cases r with
  |cons k m =>
   obtain⟨l,as,j⟩:=At.reads I p k c;obtain⟨n,bs,b⟩:=GU.readsAll I q m g;exact⟨by rw[PyData.canLayAll0,l,n];rfl,_,.cons j b⟩
end
end
section
variable {K:GI}
def RY (K:GI)(g:D->Option D):V->Hp->VK->Prop:=λx H Q => ∃ J c d,(∀ a∈J,H a≠none)/\At K H J c x/\g c=some d/\∀ b v,G5 H b->At K b J d v->Q v b
def Od (K:GI)(g:D->D->Option D):R2:=λx y H Q => ∃ J c e d,(∀ a∈J,H a≠none)/\At K H J c x/\At K H J e y/\g c e=some d/\∀ b v,G5 H b->At K b J d v->Q v b
def RZ (K:GI)(g:List D->Option D):List V->Hp->VK->Prop:=λe H Q => ∃ J c d,(∀ a∈J,H a≠none)/\GU K H J c e/\g c=some d/\∀ b v,G5 H b->At K b J d v->Q v b
end
theorem wL {H:Hp}{J:List Addr}(h:∀ a∈J,H a≠none){p:Addr}(n:H p=none):p∉J:=λm=>h p m n
theorem At.Iy {K:GI}{H:Hp}{J:List Addr}{p:Addr}{ds:List D}{b:List V}(h:GU K H J ds b)(n:H p=none)(c:∀ a∈J,H a≠none)(hz:b.length<=sizeLine):At K (upd H p (.tup b)) J (.tup ds) (.ref p):=
 At.G3.mpr ⟨p,b,rfl,.inl ⟨.inl GV,wL c n,hz⟩,h.ex (Ex.same (aP n _))⟩
theorem At.HU {K:GI}{H:Hp}{J:List Addr}{p:Addr}{ds:List D}{b:List V}(h:GU K H J ds b)(n:H p=none)(c:∀ a∈J,H a≠none)(hz:b.length<=sizeLine):At K (upd H p (.lst b)) J (.lst ds) (.ref p):=
 At.G8.mpr ⟨p,b,rfl,.inl ⟨.inl GV,wL c n,hz⟩,h.ex (Ex.same (aP n _))⟩
section
variable {X:Cx}{W:WT}
theorem tG.mono {α j:Type}{R:List Addr->Hp->α->j->Prop}{ds:List D}{vs:List V}{g:GH α}{f:St}{H:Hp}{Q d : j->Hp->Prop}(h:tG X W R ds vs g f H Q)(i:∀ b H',Q b H'->d b H'):tG X W R ds vs g f H d:=by
 obtain⟨J,l,S,r,k,c,a,e,z⟩:=h;refine⟨J,l,S,r,k,c,a,e,?_⟩;cases r with
 |ok g=>exact λm H' b x s r=>i _ _ (z m H' b x s r)
 |error g=>exact z
theorem G4.all {K:GI}{J:List Addr}{S:GO}{H:Hp}(s:G4 K J S H):∀ a∈J,H a≠none:=λ_ m=>s.tracked m
theorem tG.T2 {g:D->Option D}{b:D}{x:V}{i:St}{H:Hp}{Q:VK}(h:tG X W (RD X) [b] [x] (λ_ S=>aM (g b) S) i H Q):RY X.K g x H Q:=by
 obtain⟨J,l,S,r,k,c,a,e,z⟩:=h;obtain⟨j,_⟩:=a.GY;cases q:g b with
 |none=>simp[q] at e
 |some d =>
  simp only[q,bH,GW] at e;cases e;exact⟨J,b,d,c.Hi.all,j,q,λf v s m=>z J f v (Ex.same s) (c.Hi.same s) m⟩
theorem tG.R0 {g:D->D->Option D}{b f:D}{x y:V}{j:St}{H:Hp}{Q:VK}(h:tG X W (RD X) [f,b] [y,x] (λ_ S=>aM (g b f) S) j H Q):Od X.K g x y H Q:=by
 obtain⟨J,o,S,r,n,c,a,e,z⟩:=h;obtain⟨l,a⟩:=a.GY;obtain⟨k,_⟩:=a.GY;cases q:g b f with
 |none=>simp[q] at e
 |some d =>
  simp only[q,bH,GW] at e;cases e;exact⟨J,b,f,d,c.Hi.all,k,l,q,λi v s m=>z J i v (Ex.same s) (c.Hi.same s) m⟩
theorem tG.T3 {g:List D->Option D}{ds:List D}{b:List V}{i:St}{H:Hp}{Q:VK}(h:tG X W (RD X) ds b (λ_ S=>aM (g ds) S) i H Q):RZ X.K g b H Q:=by
 obtain⟨J,k,S,r,j,c,a,e,z⟩:=h;cases q:g ds with
 |none=>simp[q] at e
 |some d =>
  simp only[q,bH,GW] at e;cases e;exact⟨J,ds,d,c.Hi.all,a,q,λf v s m=>z J f v (Ex.same s) (c.Hi.same s) m⟩
abbrev Kk (X:Cx)(f:Value->Value->Sem Value)(g:D->D->Option D):Prop:=JZ X f (Od X.K g)
abbrev T4 (X:Cx)(f:Value->Sem Value)(g:D->Option D):Prop:=QX X f (RY X.K g)
abbrev kn (X:Cx)(f:Value)(g:List D->Option D):Prop:=gJ X f (RZ X.K g)
noncomputable def af (i:Nat):GH D:=λa S=>match a[i]? with
 |some (some d)=>GW d S
 |_=>none
theorem aa {i:Nat}{x:Str}{pos:Pos}(j:X.N[i]?=some x:=by rfl)(b:QR X.env.scope x:=by first |exact Or.inl rfl |exact Or.inr (Or.inl rfl) |exact Or.inr (Or.inr rfl))(hd:(x==("__debug__":Str))=false:=by decide)
  (g:(x==("__classdict__":Str))=false:=by decide):SE X W (.Name x pos) (af i):=(zf j b hd g).imp λk H Q h=>by
 obtain⟨J,m,S,r,l,c,_,e,z⟩:=h;unfold af at e;split at e
 ·rename_i d q;obtain⟨v,a,f⟩:=c.env i d q;cases e;exact⟨v,a,z J H v Ex.refl c.Hi f⟩
 cases e
def aC (d:D):GH D:=λ_ S=>GW d S
theorem j7 {d:D}{v:V}{b:St}{H:Hp}{Q:VK}(h:tE X W (aC d) b H Q)(a:∀ J,At X.K H J d v):Q v H:=by obtain⟨J,f,S,r,g,c,_,e,z⟩:=h;cases e;exact z J H v Ex.refl c.Hi (a J)
theorem aj {i j pos}:SE X W (.Constant (.int i) j pos) (aC (.int i)):=N4.imp λa H Q h=>j7 h λ_=>At.GQ.mpr rfl
theorem fu {b j pos}:SE X W (.Constant (.bool b) j pos) (aC (.bl b)):=Py.imp λa H Q h=>j7 h λ_=>At.G_.mpr rfl
theorem Cy {j pos}:SE X W (.Constant .none j pos) (aC .Hu):=N5.imp λa H Q h=>j7 h λ_=>At.HG.mpr rfl
theorem dI {x j pos}(a:NL x:=by exact⟨by decide,by decide⟩):SE X W (.Constant (.str x) j pos) (aC (.str x)):=N6.imp λb H Q h=>j7 h λ_=>At.G2.mpr ⟨rfl,a⟩
def aJ (g:D->D->Option D)(b e:GH D):GH D:=λa S=>ah (b a S) λx c=>ah (e a c) λy d=>aM (g x y) d
def L4 (g:D->Option D)(a:GH D):GH D:=λc S=>ah (a c S) λx b=>aM (g x) b
variable {a b c:Expr}{fa fb fc:GH D}{pos:Pos}
theorem ke {g:D->D->Option D}{a:St}{H:Hp}{Q:VK}(h:tE X W (aJ g fa fb) a H Q):O4 (Od X.K g) (tE X W fa) (tE X W fb) a H Q:=
 (tG.G1 h).mono λv j ⟨d,b⟩=>(tG.G1 b).mono λf i ⟨e,c⟩=>tG.R0 c
theorem aF {c:Operator}{g:D->D->Option D}(e:Kk X (binaryOp c) g)(d:SE X W a fa)(hb:SE X W b fb):SE X W (.BinOp a c b pos) (aJ g fa fb):=
 (Ek e d hb).imp λf H Q h=>ke h
theorem wf {b:UnaryOp}{g:D->Option D}(f:T4 X (unaryOp b) g)(c:SE X W a fa):SE X W (.UnaryOp b a pos) (L4 g fa):=
 (Ej f c).imp λj H Q h=>(tG.G1 h).mono λv i ⟨d,e⟩=>tG.T2 e
theorem iB {c:CmpOp}{g:D->D->Option D}(f:Kk X (compareOp c) g)(d:SE X W a fa)(hb:SE X W b fb)(e:behindInMarks c b=false:=by first |exact vd _ (by decide) (by decide) |with_unfolding_all rfl):SE X W (.Compare a [c] [b] pos) (aJ g fa fb):=
 (Bb f d hb e).imp λi H Q h=>ke h
def KO:D->Option Bool
 | .bl b=>some b
 |_=>none
def aT (f:GH D):GH Bool:=λb S=>ah (f b S) λx a=>aM (KO x) a
theorem fm {f:GH D}{a:St}{H:Hp}{Q:Bool->Hp->Prop}(h:tT X W (aT f) a H Q):Ii (tE X W f) a H Q:=
 (tG.G1 h).mono λv g i=>by
  obtain⟨d,b⟩:=i
  obtain⟨J,l,S,r,j,c,m,e,z⟩:=b;obtain⟨m,_⟩:=m.GY;cases d with
  |bl k =>
   cases e;exact⟨k,At.G_.mp m,z J g k Ex.refl c.Hi rfl⟩
  |_=>simp[KO] at e
theorem Ii.mono {t t':TE}(i:∀ a H Q,t' a H Q->t a H Q){a:St}{H:Hp}{Q:Bool->Hp->Prop}(h:Ii t' a H Q):Ii t a H Q:=i _ _ _ h
theorem bB {c:CmpOp}{g:D->D->Option D}(f:Kk X (compareOp c) g)(d:SE X W a fa)(hb:SE X W b fb)(e:behindInMarks c b=false:=by first |exact vd _ (by decide) (by decide) |with_unfolding_all rfl) :
  Jz X W (.Compare a [c] [b] pos) (aT (aJ g fa fb)):=
 (wn f d hb e).imp λi H Q h=>Ii.mono (λ_ _ _=>ke) (fm h)
theorem ck (b:SE X W a fa)(c:∀ whole,isTrue a X.env whole=(do let v ← whole;standAt a.pos;holding [v] (truthy v)):=by intro _;rfl):Jz X W a (aT fa):=
 (CN b c).imp λd H Q h=>fm h
def k9 (g g':D->D->Option D)(fa fb fc:GH D):GH D:=λa S=>ah (fa a S) λx c=>ah (fb a c) λy d=>ah (aM ((g x y).bind KO) d) λk b =>
 if k=true then ah (fc a b) λz e=>aM (g' y z) e else GW (.bl false) b
theorem oe {g g':D->D->Option D}{n:St}{H:Hp}{Q:VK}(h:tE X W (k9 g g' fa fb fc) n H Q):uQ (Od X.K g) (Od X.K g') (tE X W fa) (tE X W fb) (tE X W fc) n H Q:=
 (tG.G1 h).mono λx T ⟨B,C⟩=>(tG.G1 C).mono λy I O=>by
  obtain⟨i,G⟩:=O
  obtain⟨J,o,S,r,A,c,m,e,z⟩:=G;obtain⟨t,L⟩:=m.GY;obtain⟨R,_⟩:=L.GY;cases q:g B i with
  |none=>simp[q] at e
  |some d =>
   cases d with
   |bl k =>
    simp only[q,bind_some,KO,bH,bA] at e;refine⟨J,B,i,_,c.Hi.all,R,t,q,λa v l P=>?_⟩;cases At.G_.mp P;refine⟨k,rfl,?_⟩;have f:Ex J I J a:=Ex.same l
    have u:Fa X W (RD X) J a r A Q:=by
     cases r with
     |ok w=>exact λp j b x s r=>z p j b (f.trans x) s r
     |error w=>exact λp j x s=>z p j (f.trans x) s
    cases k with
    |true =>
     rw[if_pos rfl];rw[if_pos rfl] at e;have M:tG X W (RD X) [i] [y] (λo F=>ah (fc o F) λz N=>aM (g' i z) N) n a Q:=⟨J,o,S,r,A,c.re f (c.Hi.same l),.cons (t.ex f) .nil,e,u⟩;exact(tG.G1 M).mono λw U ⟨V,E⟩=>tG.R0 E
    |false =>
     rw[if_neg (by decide)];rw[if_neg (by decide)] at e;cases e;exact u J a _ Ex.refl (c.Hi.same l) (At.G_.mpr rfl)
   |_=>simp[q,KO] at e
theorem yT {d e:CmpOp}{g g':D->D->Option D}(k:Kk X (compareOp d) g)(j:Kk X (compareOp e) g')(f:SE X W a fa)(hb:SE X W b fb)(hc:SE X W c fc)
  (i:lastMarks [d,e] [b,c]=false:=by with_unfolding_all rfl):SE X W (.Compare a [d,e] [b,c] pos) (k9 g g' fa fb fc):=
 (zi k j f hb hc i).imp λl H Q h=>oe h
theorem yE {d e:CmpOp}{g g':D->D->Option D}(k:Kk X (compareOp d) g)(j:Kk X (compareOp e) g')(f:SE X W a fa)(hb:SE X W b fb)(hc:SE X W c fc)
  (i:lastMarks [d,e] [b,c]=false:=by with_unfolding_all rfl):Jz X W (.Compare a [d,e] [b,c] pos) (aT (k9 g g' fa fb fc)):=
 (y8 k j f hb hc i).imp λl H Q h=>Ii.mono (λ_ _ _=>oe) (fm h)
def wV (f g:GH Bool):GH Bool:=λb S=>ah (f b S) λk a=>if k=true then g b a else GW false a
def ji (f g:GH Bool):GH Bool:=λb S=>ah (f b S) λk a=>if k=true then GW true a else g b a
def dF (f:GH Bool):GH Bool:=λb S=>ah (f b S) λk a=>GW (!k) a
variable {ga gb:GH Bool}{rest:List Expr}
theorem mh {k:Bool}{a:St}{H:Hp}{Q:Bool->Hp->Prop}(h:tG X W RB [] [] (λ_ S=>GW k S) a H Q):Q k H:=by obtain⟨J,b,S,r,d,c,_,e,z⟩:=h;cases e;exact z J H k Ex.refl c.Hi rfl
theorem wb (b:Jz X W a ga):SW X W (.BoolOp .And [a] pos) ga:=AY b
theorem iA (b:Jz X W a ga):SW X W (.BoolOp .Or [a] pos) ga:=CJ b
theorem yJ (d:Jz X W a ga)(hb:SW X W (.BoolOp .And (b::rest) pos) gb):SW X W (.BoolOp .And (a::b::rest) pos) (wV ga gb):=
 (CK d hb).imp λf H Q h=>(tG.Kx h).mono λk e c=>by
  cases k with
  |true=>rw[if_pos rfl];exact c
  |false=>rw[if_neg (by decide)];exact mh c
theorem h9 (d:Jz X W a ga)(hb:SW X W (.BoolOp .Or (b::rest) pos) gb):SW X W (.BoolOp .Or (a::b::rest) pos) (ji ga gb):=
 (Eg d hb).imp λf H Q h=>(tG.Kx h).mono λk e c=>by
  cases k with
  |true=>rw[if_pos rfl];exact mh c
  |false=>rw[if_neg (by decide)];exact c
theorem dM {e:Expr}(h:SW X W e ga):Jz X W e ga:=PW.pt h
theorem dG (b:Jz X W a ga):Jz X W (.UnaryOp .Not a pos) (dF ga):=(CO b).imp λe H Q h=>(tG.Kx h).mono λk d c=>mh c
def uo (f g:GH D):GH D:=λb S=>ah (f b S) λx c=>ah (aM (KO x) c) λk a=>if k=true then g b a else GW (.bl false) a
def Vz (f g:GH D):GH D:=λb S=>ah (f b S) λx c=>ah (aM (KO x) c) λk a=>if k=true then GW (.bl true) a else g b a
def DG (f:GH D):GH D:=λc S=>ah (f c S) λx a=>ah (aM (KO x) a) λk b=>GW (.bl (!k)) b
theorem T5 {f:GH D}{k:Bool->GH D}{a:St}{H:Hp}{Q:VK}(h:tE X W (λρ S=>ah (f ρ S) λx j=>ah (aM (KO x) j) λb S2=>k b ρ S2) a H Q) :
  tE X W f a H λx g => ∃ c,x = .bl c/\tE X W (k c) a g Q:=(tG.G1 h).mono λv g n=>by
 obtain⟨d,i⟩:=n
 obtain⟨J,ρ,S,r,l,c,m,e,z⟩:=i;obtain⟨m,_⟩:=m.GY;cases d with
 |bl b=>exact⟨b,At.G_.mp m,J,ρ,S,r,l,c,.nil,e,z⟩
 |_=>simp[KO] at e
theorem zl {k:Bool}{a:St}{H:Hp}{Q:VK}(h:tE X W (λ_ S=>GW (.bl k) S) a H Q):Q (.bl k) H:=j7 (d:=.bl k) h λ_=>At.G_.mpr rfl
theorem uY {op}(b:SE X W a fa):SE X W (.BoolOp op [a] pos) fa:=C4 b
theorem m5 (d:SE X W a fa)(hb:SE X W (.BoolOp .And (b::rest) pos) fb):SE X W (.BoolOp .And (a::b::rest) pos) (uo fa fb):=
 (C8 d hb).imp λi H Q h=>(T5 (k:=λk f S=>if k=true then fb f S else GW (.bl false) S) h).mono λv g ⟨k,e,c⟩=>⟨k,e,by
  cases k with
  |true=>rw[if_pos rfl];exact c
  |false=>rw[if_neg (by decide)];exact zl c⟩
theorem Cw (b:SE X W a fa):SE X W (.UnaryOp .Not a pos) (DG fa):=
 (C5 b).imp λf H Q h=>(T5 (k:=λk _ S=>GW (.bl (!k)) S) h).mono λv d ⟨k,e,c⟩=>⟨k,e,zl c⟩
def ul (t:GH Bool)(f g:GH D):GH D:=λa S=>ah (t a S) λk b=>if k=true then f a b else g a b
theorem kH (hc:Jz X W c ga)(e:SE X W a fa)(hb:SE X W b fb):SE X W (.IfExp c a b pos) (ul ga fa fb):=
 (zh hc e hb).imp λg H Q h=>(tG.Kx h).mono λk f d=>by
  cases k with
  |true=>rw[if_pos rfl];exact d
  |false=>rw[if_neg (by decide)];exact d
def aD:GH (List D):=λ_ S=>GW [] S
def ag (f:GH D)(g:GH (List D)):GH (List D):=λa S=>ah (f a S) λd c=>ah (g a c) λb e=>GW (d::b) e
variable {es:List Expr}{gs:GH (List D)}
theorem ai:SA X W [] aD:=HB.imp λd H Q h=>by obtain⟨J,a,S,r,b,c,_,e,z⟩:=h;cases e;exact z J H _ Ex.refl c.Hi .nil
theorem ae {e:Expr}(o:SE X W e fa)(hr:SA X W es gs)(p:starEach (e::es) X.env=(false,eval e X.env)::starEach es X.env:=by rfl):SA X W (e::es) (ag fa gs):=
 (b_ o hr p).imp λw H Q h=>(tG.G1 h).mono λv u ⟨d,j⟩=>(tG.Jb j).mono λa g n=>by
  obtain⟨f,b,l⟩:=n
  obtain⟨J,B,S,r,A,c,m,e,z⟩:=l;cases e;refine z J g _ Ex.refl c.Hi ?_
  have split:∀ {f:List D}{a:List V},f.length=a.length->GU X.K g J (f++[d]) (a++[v])->GU X.K g J f a/\At X.K g J d v:=by
   intro f
   induction f with
   |nil=>intro a b m;cases a with
    |nil=>exact⟨.nil,m.GY.1⟩
    |cons _ _=>simp at b
   |cons x s k=>intro a b m;cases a with
    |nil=>simp at b
    |cons y t =>
     have q:=GU.GY (show GU X.K g J (x::(s++[d])) (y::(t++[v])) from m);have i:=k (by simpa using b) q.2;exact⟨.cons q.1 i.1,i.2⟩
  have q:=split b m;exact .cons q.2 q.1
def JA (ds:List D)(d:D):Option D:=if ds.length<=sizeLine then some d else none
def k8 (g:GH (List D)):GH D:=λc S=>ah (g c S) λa b=>aM (JA a (.tup a)) b
def oq (g:GH (List D)):GH D:=λc S=>ah (g c S) λa b=>aM (JA a (.lst a)) b
theorem ej {k}(h:SA X W es gs):SE X W (.Tuple es k pos) (k8 gs):=(C0 h).imp λi H Q h=>(tG.Jb h).mono λl g f=>by
 obtain⟨n,d,b⟩:=f
 rw[append_nil,append_nil] at b;obtain⟨J,o,S,r,j,c,m,e,z⟩:=b;unfold JA at e;split at e
 ·rename_i le;cases e;exact⟨by rw[← d];exact le,λp a=>z J _ _ (Ex.same (aP a _)) (c.Hi.same (aP a _)) (At.Iy m a c.Hi.all (by rw[← d];exact le))⟩
 cases e
theorem gL (h:SA X W es gs):SE X W (.List es pos) (oq gs):=(u8 h).imp λi H Q h=>(tG.Jb h).mono λk g f=>by
 obtain⟨l,d,b⟩:=f
 rw[append_nil,append_nil] at b;obtain⟨J,n,S,r,j,c,m,e,z⟩:=b;unfold JA at e;split at e
 ·rename_i le;cases e;exact⟨by rw[← d];exact le,λp a=>z J _ _ (Ex.same (aP a _)) (c.Hi.same (aP a _)) (At.HU m a c.Hi.all (by rw[← d];exact le))⟩
 cases e
def bz (g:List D->Option D)(t:GH (List D)):GH D:=λc S=>ah (t c S) λa b=>aM (g a) b
theorem og {g:List D->Option D}{b:St}{H:Hp}{Q:VK}(h:tE X W (bz g gs) b H Q):RK (RZ X.K g) (tA X W gs) b H Q:=
 (tG.Jb h).mono λi f c=>by
  obtain⟨d,e,a⟩:=c
  rw[append_nil,append_nil] at a;exact tG.T3 a
theorem bp {g:List D->Option D}{id:String}{x:Str}{p:Pos}{e:Expr}(hc:kn X (.builtin id) g)(j:X.mg x=none)(f:bootBuiltins x=some (.builtin id))(a:SA X W (e::es) gs)(b:Gl X x:=by rfl)
  (d:x≠"__name__":=by decide) (k:(x==("__debug__":Str))=false:=by decide) (i:starEach (e::es) X.env=(false,eval e X.env)::starEach es X.env:=by rfl) (c:(backTo pos (starEach es X.env)).any (·.1)=false:=by rfl) :
  SE X W (.Call (.Name x p) (e::es) [] pos) (bz g gs):=by
 refine PE.imp (jT hc b j f a d k i c) λl H Q h=>og h
theorem cB {g:List D->Option D}{T:String}{x:Str}{p:Pos}{e:Expr}(hc:kn X (.type T) g)(j:X.mg x=none)(f:bootBuiltins x=some (.type T))(a:SA X W (e::es) gs)(b:Gl X x:=by rfl)
  (d:x≠"__name__":=by decide) (k:(x==("__debug__":Str))=false:=by decide) (i:starEach (e::es) X.env=(false,eval e X.env)::starEach es X.env:=by rfl) (c:(backTo pos (starEach es X.env)).any (·.1)=false:=by rfl) :
  SE X W (.Call (.Name x p) (e::es) [] pos) (bz g gs):=by
 refine PE.imp (i4 hc b j f a d k i c) λl H Q h=>og h
end
section
variable {X:Cx}
theorem qA {x y:Str}(a:PyData.strOk x=true)(b:PyData.strOk y=true):PyData.strOk (x++y)=true:=by
 unfold PyData.strOk at *
 rw[show (x++y).cps=x.cps++y.cps from rfl,Array.all_append,a,b];rfl
def bC:D->D->Option D
 | .int i,.int j=>some (.int (i+j))
 | .str x,.str y=>if x.length+y.length<=sizeLine then some (.str (x++y)) else none
 | .tup b,.tup a=>if b.length+a.length<=sizeLine then some (.tup (b++a)) else none
 | .lst b,.lst a=>if b.length+a.length<=sizeLine then some (.lst (b++a)) else none
 |_,_=>none
theorem Ah {prog:Program}{w:World}{A:Around}{E:GJ}{s:Shared}{t b:Addr}{vs d:List Value}{Q:GJ}(k:IsTup s.heap t vs.toArray)(hb:IsTup s.heap b d.toArray)(j:vs=[])
  (g:Q (.ref b) s):wpAny (model prog w) A (binaryOp .Add (.ref t) (.ref b)) Q E s:=by
 obtain⟨⟨cls,h,data,i⟩,f,hc,n,hd⟩:=id k;obtain⟨⟨PK,m,data2,l⟩,c,e,n2,a⟩:=id hb;simp only at hc hd e a;subst hc hd e a
 exact concat_meets ⟨_,f,rfl⟩ ⟨_,c,rfl⟩ noFill_tuple_add seq_tuple_add PySem.F.slot_tuple_add PySem.F.entry_tuple_add (PySem.F.args_tuple_add_2 _ _)
   (tuple_addW0 t b vs.toArray d.toArray n n2 h m i l (by simp[j])) ⟨f,c,g⟩
theorem vJ {prog:Program}{w:World}{A:Around}{E:GJ}{s:Shared}{t b:Addr}{vs c:Array Value}{Q:GJ}(j:PlainL s.heap t vs)(hb:PlainL s.heap b c)
  (h:Q (.ref s.heap.objs.size) { s with heap:=s.heap.push { cls:=.type "list",data:=.seq (vs++c) } }) (hsz:vs.size+c.size<=sizeLine):wpAny (model prog w) A (binaryOp .Add (.ref t) (.ref b)) Q E s:=by
 obtain⟨⟨cls,g,data,i⟩,n,f,hc,_,hd⟩:=id j;obtain⟨⟨PK,l,data2,k⟩,n2,d,e,_,a⟩:=id hb;simp only at hc hd e a;subst hc hd e a
 exact concat_meets ⟨_,f,rfl⟩ ⟨_,d,rfl⟩ noFill_list_add seq_list_add PySem.F.slot_list_add PySem.F.entry_list_add (PySem.F.args_list_add_2 _ _)
   (list_addW t b vs c n n2 g l i k hsz) ⟨f,d,h⟩
theorem mT (x y:Str):(x++y).length=x.length+y.length:=by show (x.cps++y.cps).size=_;rw[Array.size_append];rfl
theorem aY:Kk X (binaryOp .Add) bC:=by
 intro c s o H x y v u Q I k f h;obtain⟨J,S,T,d,E,g,m,e,q⟩:=h;unfold bC at e;split at e
 ·rename_i i j;cases e;cases At.GQ.mp g;cases At.GQ.mp m;exact De c s o H _ _ v u Q I k f ⟨i,j,rfl,rfl,q H _ (G5.refl H) (At.GQ.mpr rfl)⟩
 ·rename_i a b;split at e
  ·rename_i le;cases e;obtain⟨ex,P⟩:=At.G2.mp g;obtain⟨R,N⟩:=At.G2.mp m;subst ex R;exact u_ c s o H _ _ v u Q I k f ⟨a,b,rfl,rfl,le,q H _ (G5.refl H) (At.G2.mpr ⟨rfl,by rw[mT];exact le,qA P.2 N.2⟩)⟩
  cases e
 ·rename_i K L;split at e
  ·rename_i le;cases e;obtain⟨a,n,rfl,t1,m1⟩:=At.G3.mp g;obtain⟨b,t,rfl,t2,m2⟩:=At.G3.mp m;by_cases G:n=[]
   ·subst G;cases k;cases f;obtain⟨its,r,C,_⟩:=I.tuple t1.sq;obtain⟨A,D,B,_⟩:=I.tuple t2.sq;have O:K=[]:=length_eq_zero_iff.mp m1.length;subst O;refine Ah C B (r.G0.mpr rfl) ⟨.ref b,H,I,rfl,q H _ (G5.refl H) m⟩
   refine Bg c s o H _ _ v u Q I k f ⟨a,b,n,t,rfl,rfl,t1.sq,t2.sq,G,by rw[← m1.length,← m2.length];exact le,λF=>?_,λF p l=>?_⟩
   ·subst F;have M:L=[]:=length_eq_zero_iff.mp m2.length;subst M;exact q H _ (G5.refl H) (by rw[append_nil];exact g)
   exact q _ _ (aP l _) (At.Iy (m1.append m2) l E (by rw[List.length_append,← m1.length,← m2.length];exact le))
  cases e
 ·rename_i K L;split at e
  ·rename_i le;cases e;obtain⟨a,n,rfl,t1,m1⟩:=At.G8.mp g;obtain⟨b,t,rfl,t2,m2⟩:=At.G8.mp m;cases k;cases f;obtain⟨its,r,C,_⟩:=I.list t1.sq;obtain⟨A,D,B,_⟩:=I.list t2.sq;have w:n.length+t.length<=sizeLine:=by rw[← m1.length,← m2.length];exact le
   have l:=I.fresh;refine vJ C B ?_ (by rw[size_toArray,size_toArray,← r.length,← D.length];exact w);show EP X c o Q (.ref s.heap.objs.size) { s with heap:=s.heap.push { cls:=.type "list",data:=.seq (its.toArray++A.toArray) } };refine⟨.ref s.heap.objs.size,_,?_,rfl,q _ _ (aP l (.lst (n++t))) (At.HU (m1.append m2) l E (by rw[List.length_append];exact w))⟩;have z:=I.RW (its:=its++A) (t':=s.toks) (r.append D) (by rw[List.length_append];exact w);simpa using z
  cases e
 cases e
def jM:D->D->Option D
 | .int i,.int j=>some (.int (i-j))
 |_,_=>none
def lK (i j:Int):Bool:=(decide (-(2 ^ 64)<i)&&decide (i<2 ^ 64)) ||(decide (-(2 ^ 64)<j)&&decide (j<2 ^ 64))
theorem Br {i j:Int}(h:lK i j=true):Nk i j:=by
 unfold lK at h;rw[or_eq_true,and_eq_true,and_eq_true] at h;rcases h with ⟨a,b⟩ |⟨a,b⟩
 ·exact .inl ⟨of_decide_eq_true a,of_decide_eq_true b⟩
 exact .inr ⟨of_decide_eq_true a,of_decide_eq_true b⟩
def gF:D->D->Option D
 | .int i,.int j=>if 0<j/\j<1073741824 then some (.int (i / j)) else none
 |_,_=>none
def cC:D->D->Option D
 | .int i,.int j=>if 0<j then some (.int (i % j)) else none
 |_,_=>none
def sP:D->Option D
 | .int i=>some (.int (-i))
 |_=>none
theorem jx:Kk X (binaryOp .Sub) jM:=by
 intro a s c H x y v u Q I g b h;obtain⟨J,m,n,d,l,f,k,e,q⟩:=h;unfold jM at e;split at e
 ·rename_i i j;cases e;cases At.GQ.mp f;cases At.GQ.mp k;exact Da a s c H _ _ v u Q I g b ⟨i,j,rfl,rfl,q H _ (G5.refl H) (At.GQ.mpr rfl)⟩
 cases e
theorem jU:Kk X (binaryOp .FloorDiv) gF:=by
 intro a s f H x y v u Q I k b h;obtain⟨J,n,o,d,m,g,l,e,q⟩:=h;unfold gF at e;split at e
 ·rename_i i j;split at e
  ·rename_i c;cases e;cases At.GQ.mp g;cases At.GQ.mp l;exact Bf a s f H _ _ v u Q I k b ⟨i,j,rfl,rfl,c,q H _ (G5.refl H) (At.GQ.mpr rfl)⟩
  cases e
 cases e
theorem cT:Kk X (binaryOp .Mod) cC:=by
 intro a s f H x y v u Q I k b h;obtain⟨J,n,o,d,m,g,l,e,q⟩:=h;unfold cC at e;split at e
 ·rename_i i j;split at e
  ·rename_i c;cases e;cases At.GQ.mp g;cases At.GQ.mp l;exact Dc a s f H _ _ v u Q I k b ⟨i,j,rfl,rfl,c,q H _ (G5.refl H) (At.GQ.mpr rfl)⟩
  cases e
 cases e
theorem qr:T4 X (unaryOp .USub) sP:=by
 intro a s c H x v Q I f h;obtain⟨J,g,d,j,b,e,q⟩:=h;unfold sP at e;split at e
 ·rename_i i;cases e;cases At.GQ.mp b;exact Cg a s c H _ v Q I f ⟨i,rfl,q H _ (G5.refl H) (At.GQ.mpr rfl)⟩
 cases e
def HP (x y:D):Option D:=match toPy x,toPy y with
 |some p,some q=>if min p.depth q.depth<=150 then some (.bl (PyData.eqv p q)) else none
 |_,_=>none
def Jn (x y:D):Option D:=match toPy x,toPy y with
 |some p,some q=>if min p.depth q.depth<=150 then some (.bl (!PyData.eqv p q)) else none
 |_,_=>none
theorem df (w:X.A.units+150<cLine):Kk X (compareOp .Eq) HP:=by
 intro a s t H x y v u Q I i c h;obtain⟨J,z,C,d,r,g,l,e,q⟩:=h;unfold HP at e;split at e
 ·rename_i p o b f;split at e
  ·rename_i le;cases e;obtain⟨k,B,j⟩:=g.reads I i b;obtain⟨m,bs,n⟩:=l.reads I c f;exact SeqAt.compareEq_reads j n k m (by omega) ⟨.bl (PyData.eqv p o),H,I,rfl,q H _ (G5.refl H) (At.G_.mpr rfl)⟩
  cases e
 cases e
theorem pB (w:X.A.units+150<cLine):Kk X (compareOp .NotEq) Jn:=by
 intro a s t H x y v u Q I i c h;obtain⟨J,z,C,d,r,g,l,e,q⟩:=h;unfold Jn at e;split at e
 ·rename_i p o b f;split at e
  ·rename_i le;cases e;obtain⟨k,B,j⟩:=g.reads I i b;obtain⟨m,bs,n⟩:=l.reads I c f;exact SeqAt.compareNe_reads j n k m (by omega) ⟨.bl (!PyData.eqv p o),H,I,rfl,q H _ (G5.refl H) (At.G_.mpr rfl)⟩
  cases e
 cases e
def J5 (x y:Str):Bool:=decide (x.cps.toList<y.cps.toList)
def Ml:D->D->Option D
 | .int i,.int j=>some (.bl (decide (i<j)))
 | .str x,.str y=>some (.bl (J5 x y))
 |_,_=>none
def PM:D->D->Option D
 | .int i,.int j=>some (.bl (decide (i<=j)))
 | .str x,.str y=>some (.bl (!J5 y x))
 |_,_=>none
def PN:D->D->Option D
 | .int i,.int j=>some (.bl (decide (j<i)))
 | .str x,.str y=>some (.bl (J5 y x))
 |_,_=>none
theorem sK:Kk X (compareOp .Lt) Ml:=by
 intro c s g H x y v u Q I l f h;obtain⟨J,o,p,d,n,k,m,e,q⟩:=h;unfold Ml at e;split at e
 ·rename_i i j;cases e;cases At.GQ.mp k;cases At.GQ.mp m;exact El c s g H _ _ v u Q I l f ⟨i,j,rfl,rfl,q H _ (G5.refl H) (At.G_.mpr rfl)⟩
 ·rename_i a b;cases e;cases (At.G2.mp k).1;cases (At.G2.mp m).1;exact xE c s g H _ _ v u Q I l f ⟨a,b,rfl,rfl,q H _ (G5.refl H) (At.G_.mpr rfl)⟩
 cases e
theorem B7:Kk X (compareOp .LtE) PM:=by
 intro c s m H x y v u Q I k f h;obtain⟨J,o,r,d,n,g,l,e,q⟩:=h;unfold PM at e;split at e
 ·rename_i i j;cases e;cases At.GQ.mp g;cases At.GQ.mp l;exact Em c s m H _ _ v u Q I k f ⟨i,j,rfl,rfl,q H _ (G5.refl H) (At.G_.mpr rfl)⟩
 ·rename_i a b;cases e;cases (At.G2.mp g).1;cases (At.G2.mp l).1;obtain⟨t,rfl⟩:=k;obtain⟨p,rfl⟩:=f;exact PySem.P.le_str ⟨.bl (!J5 b a),H,I,rfl,q H _ (G5.refl H) (At.G_.mpr rfl)⟩
 cases e
theorem Er:Kk X (compareOp .Gt) PN:=by
 intro c s m H x y v u Q I k f h;obtain⟨J,o,r,d,n,g,l,e,q⟩:=h;unfold PN at e;split at e
 ·rename_i i j;cases e;cases At.GQ.mp g;cases At.GQ.mp l;exact En c s m H _ _ v u Q I k f ⟨i,j,rfl,rfl,q H _ (G5.refl H) (At.G_.mpr rfl)⟩
 ·rename_i a b;cases e;cases (At.G2.mp g).1;cases (At.G2.mp l).1;obtain⟨t,rfl⟩:=k;obtain⟨p,rfl⟩:=f;exact PySem.P.gt_str ⟨.bl (J5 b a),H,I,rfl,q H _ (G5.refl H) (At.G_.mpr rfl)⟩
 cases e
end
section
variable {X:Cx}{W:WT}
def xj:D->Option (List D)
 | .tup a=>some a
 | .lst a=>some a
 |_=>none
def nR (x y:D):Option Bool:=match toPy x,(xj y).bind bX with
 |some p,some a=>if p.depth<=150 then some (a.any λq=>PyData.eqv q p) else none
 |_,_=>none
def inD (x y:D):Option D:=(nR x y).map .bl
def kL (x y:D):Option D:=(nR x y).map λb => .bl (!b)
noncomputable def oK (h:Heap) (p:PyData) (u:Value):Bool:=by
 classical exact if H:∃ q a,Reads h u q a/\q.canLay0=true then PyData.eqv H.choose p else false
theorem wN {h:Heap}{p q:PyData}{u:Value}{as:List Addr}(r:Reads h u q as)(c:q.canLay0=true):oK h p u=PyData.eqv q p:=by unfold oK;have H:∃ q as,Reads h u q as/\q.canLay0=true:=⟨q,as,r,c⟩;rw[dif_pos H];obtain⟨d,a,b⟩:=H.choose_spec;rw[SeqAt.Reads.unique _ _ _ _ _ c r a]
theorem wZ {h:Heap}{p:PyData}:∀ {us:List Value}{a:List PyData}{as:List Addr},ReadsAll h us a as->PyData.canLayAll0 a=true->us.any (oK h p)=a.any λq=>PyData.eqv q p
 |_,_,_,.nil,_=>rfl
 |_,_,_,.cons r t,c=>by
  rw[PyData.canLayAll0,and_eq_true] at c;rw[any_cons,any_cons,wN r c.1,wZ t c.2]
theorem pG {h:Heap}:∀ {us:List Value}{a:List PyData}{as:List Addr},ReadsAll h us a as->PyData.canLayAll0 a=true->∀ u∈us,∃ q bs,Reads h u q bs/\q.canLay0=true
 |_,_,_,.nil,_,u,m=>by simp at m
 |_,_,_,.cons r t,c,u,m=>by
  rw[PyData.canLayAll0,and_eq_true] at c;rcases mem_cons.mp m with e |m
  ·subst e;exact⟨_,_,r,c.1⟩
  exact pG t c.2 u m
theorem wI {neg:Bool}{z:CmpOp}(hu:X.A.units+151<cLine)
  (R:∀ {s:Shared}{l:Addr}{items:Array Value}{x:Value}{Q:GJ}(e:Value->Bool),s.heap.IsList l items->(∀ y∈items,SeqAt.EqAt X.A.in1 s y x (e y))->Q (.bool (if neg then !items.any e else items.any e)) s->wpAny (model X.prog X.w) X.A (compareOp z x (.ref l)) Q X.xe s)
  (U:∀ {s:Shared}{l:Addr}{items:Array Value}{x:Value}{Q:GJ}(e:Value->Bool),IsTup s.heap l items->(∀ y∈items,SeqAt.EqAt X.A.in1 s y x (e y))->Q (.bool (if neg then !items.any e else items.any e)) s->wpAny (model X.prog X.w) X.A (compareOp z x (.ref l)) Q X.xe s) :
  Kk X (compareOp z) (λx y=>(nR x y).map λb => .bl (if neg then !b else b)):=by
 intro j s L H x y v u Q I O C h;obtain⟨J,dx,V,d,Z,M,G,e,q⟩:=h;obtain⟨b,g,N⟩:=map_eq_some_iff.mp e;subst N;unfold nR at g;split at g
 ·rename_i p o ep eq;split at g
  ·rename_i le;cases g;obtain⟨ds,es,D⟩:=bind_eq_some_iff.mp eq;obtain⟨T,i,S⟩:=M.reads I O ep;have fin:∀ {f:List Value}{i:List Addr},ReadsAll s.heap f o i->PyData.canLayAll0 o=true->EP X j L Q (.bool (if neg then !f.toArray.any (oK s.heap p) else f.toArray.any (oK s.heap p))) s:=λ{f i} B c=>by rw[show f.toArray.any (oK s.heap p)=f.any (oK s.heap p) by simp,wZ B c];exact⟨.bl _,H,I,rfl,q H _ (G5.refl H) (At.G_.mpr rfl)⟩
   have ev:∀ {f:List Value}{i:List Addr},ReadsAll s.heap f o i->PyData.canLayAll0 o=true->∀ y∈f.toArray,SeqAt.EqAt X.A.in1 s y v (oK s.heap p y):=λ{f i} B c y P=>by obtain⟨F,bs,E,K⟩:=pG B c y (by simpa using P);rw[wN E K];exact SeqAt.eqAt_reads F p X.A.in1 s y v bs _ E S K T (by show X.A.units+1+min F.depth p.depth<cLine;omega)
   cases V with
   |tup Y =>
    cases es;obtain⟨a,W,rfl,t,m⟩:=At.G3.mp G;cases C;obtain⟨its,r,pl,_⟩:=I.tuple t.sq;obtain⟨k,bs,n⟩:=GU.readsAll I m r D;exact U (oK s.heap p) pl (ev n k) (fin n k)
   |lst Y =>
    cases es;obtain⟨a,W,rfl,t,m⟩:=At.G8.mp G;cases C;obtain⟨its,r,pl,_⟩:=I.list t.sq;obtain⟨k,bs,n⟩:=GU.readsAll I m r D;exact R (oK s.heap p) pl.isList (ev n k) (fin n k)
   |_=>simp[xj] at es
  cases g
 cases g
theorem B8 (c:X.A.units+151<cLine):Kk X (compareOp .In) inD:=
 wI (neg:=false) c (λe a b q=>SeqAt.in_listAt e a b q) (λe a b q=>SeqAt.in_tupleAt e a b q)
theorem zm (c:X.A.units+151<cLine):Kk X (compareOp .NotIn) kL:=
 wI (neg:=true) c (λe a b q=>SeqAt.notIn_listAt e a b q) (λe a b q=>SeqAt.notIn_tupleAt e a b q)
theorem kF {x:Str}(h:PyData.strOk x=true){c:Nat}(m:c∈x.cps.toList):c<0x110000:=by unfold PyData.strOk at h;rw[Array.all_eq_true'] at h;exact of_decide_eq_true (h c (Array.mem_toList_iff.mp m))
theorem mU {l:List Nat}(h:∀ c∈l,c<0x110000):PyData.strOk ⟨l.toArray⟩=true:=by unfold PyData.strOk;rw[Array.all_eq_true'];intro c m;exact decide_eq_true (h c (by simpa using m))
def Nq:D->D->Option D
 | .tup a,.int i=>Jp a i
 | .lst a,.int i=>Jp a i
 | .str x,.int i=>(Jp x.cps.toList i).map λc => .str ⟨#[c]⟩
 |_,_=>none
theorem vS {K:GI}{H:Hp}{J:List Addr}{ds:List D}{vs:List V}{i:Int}{d:D}(m:GU K H J ds vs)(h:Jp ds i=some d):∃ v,Jp vs i=some v/\At K H J d v:=by unfold Jp at h ⊢;rw[← m.length];obtain⟨j,e,b⟩:=bind_eq_some_iff.mp h;obtain⟨v,c,a⟩:=m.get b;exact⟨v,by rw[e];exact c,a⟩
def T6 (X:Cx)(g:D->D->Option D):Prop:=PL X (Od X.K g)
theorem T7:T6 X Nq:=by
 intro value slice b s k H x y v u Q I o g h A;obtain⟨J,G,L,d,F,n,p,e,q⟩:=h;unfold Nq at e;split at e
 ·rename_i E i;obtain⟨a,r,rfl,t,m⟩:=At.G3.mp n;cases At.GQ.mp p;obtain⟨w,f,a1⟩:=vS m e;exact Ds value slice b s k H _ _ v u Q I o g ⟨a,r,i,w,rfl,rfl,t.sq,f,q H _ (G5.refl H) a1⟩ A
 ·rename_i E i;obtain⟨a,r,rfl,t,m⟩:=At.G8.mp n;cases At.GQ.mp p;obtain⟨w,f,a1⟩:=vS m e;exact wG value slice b s k H _ _ v u Q I o g ⟨a,r,i,w,rfl,rfl,t.sq,f,q H _ (G5.refl H) a1⟩ A
 ·rename_i z i;obtain⟨ex,B⟩:=At.G2.mp n;subst ex;cases At.GQ.mp p;obtain⟨c,f,C⟩:=map_eq_some_iff.mp e;subst C;refine Dt value slice b s k H _ _ v u Q I o g ⟨z,i,c,rfl,rfl,B.1,f,q H _ (G5.refl H) (At.G2.mpr ⟨rfl,by show 1<=sizeLine;decide,mU (l:=[c]) λK m=>?_⟩)⟩ A;obtain⟨j,_,D,_⟩:=mB f;rw[mem_singleton.mp m];exact kF B.2 (mem_of_getElem? D)
 cases e
variable {a b c:Expr}{fa fb fc:GH D}{pos:Pos}
theorem B2 {g:D->D->Option D}(hr:T6 X g)(c:SE X W a fa)(hb:SE X W b fb)(d:mD b:=by exact λ_ _=>rfl):SE X W (.Subscript a b pos) (aJ g fa fb):=
 (B6 hr c hb d).imp λe H Q h=>ke h
def kT {α:Type}(a:List α)(lo b:Option Int):List α:=(a.drop (HT.Hr a.length 0 lo)).take (HT.Hr a.length a.length b-HT.Hr a.length 0 lo)
def KP (d:D)(lo b:Option Int):Option D:=match d with
 | .tup a=>some (.tup (kT a lo b))
 | .lst a=>some (.lst (kT a lo b))
 |_=>none
theorem GU.cut {K:GI}{H:Hp}{J:List Addr}{ds:List D}{vs:List V}(m:GU K H J ds vs)(lo a:Option Int):GU K H J (kT ds lo a) (t9 vs lo a):=by unfold kT t9;rw[← m.length];exact(m.drop _).take _
theorem vF {α:Type}{a:List α}{lo b:Option Int}(h:HT.Hr a.length 0 lo=0/\HT.Hr a.length a.length b=a.length):kT a lo b=a:=by unfold kT;rw[h.1,h.2];simp
def VC (K:GI)(g:D->Option Int->Option Int->Option D):V->Option Int->Option Int->Hp->VK->Prop:=λx lo e H Q => ∃ J c d,(∀ a∈J,H a≠none)/\At K H J c x/\g c lo e=some d/\∀ b v,G5 H b->At K b J d v->Q v b
theorem jg {prog:Program}{w:World}{A:Around}{E:GJ}{s:Shared}{t b:Addr}{items:Array Value}{f d:Value}{lo c:Option Int}{Q:GJ}(a:IsTup s.heap t items)(g:s.heap.IsSliceOf b f d .none)(pl:IsPart f lo)(i:IsPart d c)
  (e:HT.Hr items.size 0 lo=0/\HT.Hr items.size items.size c=items.size) (h:Q (.ref t) s):wpAny (model prog w) A (getItem (.ref t) (.ref b)) Q E s:=by
 obtain⟨os,j,k,m⟩:=id g;have l:s.TypeIs (.ref b) "slice":=⟨os,j,k⟩;unfold getItem
 try with_reducible refine wpAny_holding ?_
 first |refine wpAny_bind (wpAny_pure ?_) |skip
 refine wpAny_bind (wpAny_sequenceKey a.typeIs (by decide) ?_)
 refine wpAny_bind (wpAny_callSpecial?_slot (name:=Str.ofString "__getitem__") a.typeIs PyProof.Rows.slot_tuple_getitem
  (wpAny_call_entry PyProof.Rows.slot_tuple_getitem a.typeIs entry_tuple_getitem ?_ (args_tuple_getitem _ _)))
 show wpAny _ _ (Builtin.Tuple.tupleItemsOf (.ref t) >>= _) _ _ s;refine wpAny_bind (tupleItemsOf_ a ?_);refine wpAny_bind (wpAny_typeOf l ?_);rw[if_pos (by decide)];refine wpAny_bind (HT.HV g pl i ?_);show wpAny _ _ (if (((HT.Hr items.size 0 lo:Nat):Int)==0&&(1:Int)==1&&(HT.Hr items.size items.size c-HT.Hr items.size 0 lo)==items.size)=true then _ else _) _ _ s;rw[if_pos (by rw[e.1,e.2];simp)];unfold Builtin.Tuple.tupleIsExact;refine wpAny_bind (wpAny_bind (wpAny_typeOf a.typeIs (wpAny_pure ?_)));rw[if_pos (by decide)];exact wpAny_bind (wpAny_rule (wpAny_pure ⟨_,rfl,wpAny_pure h⟩))
def T8 (X:Cx)(g:D->Option Int->Option Int->Option D):Prop:=Q0 X (VC X.K g)
theorem Oe:T8 X KP:=by
 intro c s z H x v B A lo f u Q I n o pl j h;obtain⟨J,F,d,w,l,e,q⟩:=h;unfold KP at e;split at e
 ·rename_i D;cases e;obtain⟨a,b,rfl,t,m⟩:=At.G3.mp l;have C:=m.length;by_cases k:HT.Hr b.length 0 lo=0/\HT.Hr b.length b.length f=b.length
  ·cases n;obtain⟨its,r,y,E⟩:=I.tuple t.sq;have g:its.toArray.size=b.length:=by rw[size_toArray];exact r.length.symm
   refine⟨"tuple",_,PyProof.Rows.slot_tuple_getitem.lookup,y.typeIs,?_⟩;refine jg y o pl j (by rw[g];exact k) ⟨.ref a,H,I,rfl,q H _ (G5.refl H) ?_⟩;rw[vF (by rw[C];exact k)];exact l
  exact Cr c s z H _ v B A lo f u Q I n o pl j ⟨a,b,rfl,t.sq,k,λp i=>q _ _ (aP i _) (At.Iy (m.cut lo f) i w (Nat.le_trans (fU b lo f) t.len))⟩
 ·rename_i D;cases e;obtain⟨a,b,rfl,t,m⟩:=At.G8.mp l;exact AN c s z H _ v B A lo f u Q I n o pl j ⟨a,b,rfl,t.sq,λp i=>q _ _ (aP i _) (At.HU (m.cut lo f) i w (Nat.le_trans (fU b lo f) t.len))⟩
 cases e
def tK:D->Option (Option Int)
 | .int i=>some (some i)
 |_=>none
def kb (f:Option (GH D)):GH (Option Int):=match f with
 |none=>λ_ S=>GW none S
 |some f=>λb S=>ah (f b S) λd a=>aM (tK d) a
def SO (X:Cx)(W:WT)(e:Option Expr)(f:Option (GH D)):Prop:=match e,f with
 |none,none=>True
 |some e,some f=>SE X W e f
 |_,_=>False
def Nr (g:D->Option Int->Option Int->Option D)(f:GH D)(lo c:Option (GH D)):GH D:=λa S=>ah (f a S) λx d=>ah (kb lo a d) λl e=>ah (kb c a e) λu b=>aM (g x l u) b
def T9 (X:Cx)(W:WT)(f:Option (GH D)):TO:=tG X W (λ_ _ a b=>a=b) [] [] (kb f)
theorem tG.NN {α t:Type}{R:List Addr->Hp->α->t->Prop}{f:Option (GH D)}{k:Option Int->GH α}{ds:List D}{vs:List V}{j:St}{H:Hp}{Q : t->Hp->Prop}
  (h:tG X W R ds vs (λρ S=>ah (kb f ρ S) λd i=>k d ρ i) j H Q):T9 X W f j H λb s=>tG X W R ds vs (k b) j s Q:=by
 obtain⟨J,ρ,S,r,A,c,a,e,z⟩:=h;cases q:kb f ρ S with
 |none=>simp[q] at e
 |some o =>
  obtain⟨y,i⟩:=o;simp only[q] at e;cases y with
  |error x =>
   cases e;exact⟨J,ρ,S,.error x,_,c,.nil,q,z⟩
  |ok d =>
   refine⟨J,ρ,S,.ok d,i,c,.nil,q,λu s v x w m=>?_⟩;cases m;refine⟨u,ρ,i,r,A,c.re x w,a.ex x,e,?_⟩;cases r with
   |ok g=>exact λl n b x2 p B=>z l n b (x.trans x2) p B
   |error g=>exact λl n x2 p=>z l n (x.trans x2) p
theorem B4 {e:Option Expr}{f:Option (GH D)}(h:SO X W e f):PO X e (T9 X W f):=by
 cases e with
 |none =>
  cases f with
  |none =>
   intro a s b H Q I z;refine A4 a s b H Q I ?_;obtain⟨J,l,S,r,k,c,_,e,z⟩:=z;cases e;exact z J H _ Ex.refl c.Hi rfl
  |some _=>exact h.elim
 |some e =>
  cases f with
  |none=>exact h.elim
  |some f =>
   intro a s b H Q I z;refine A3 h a s b H Q I ?_;refine(tG.G1 z).mono λv j ⟨d,g⟩=>?_;obtain⟨J,l,S,r,k,c,m,e,z⟩:=g;obtain⟨m,_⟩:=m.GY;cases d with
   |int i =>
    cases e;exact⟨i,At.GQ.mp m,z J j _ Ex.refl c.Hi rfl⟩
   |_=>simp[tK] at e
theorem mY {g:D->Option Int->Option Int->Option D}{lo i:Option Expr}{b f:Option (GH D)}{y:Pos}(hr:T8 X g)(B:SE X W a fa)(k:SO X W lo b)(A:SO X W i f):SE X W (.Subscript a (.Slice lo i none y) pos) (Nr g fa b f):=
 (zg hr B (B4 k) (B4 A)).imp λE H Q h=>(tG.G1 h).mono λv C ⟨d,j⟩=>(tG.NN j).mono λl G o=>(tG.NN o).mono λu F w=>by
  obtain⟨J,K,S,r,I,c,m,e,z⟩:=w;obtain⟨m,_⟩:=m.GY;cases q:g d l u with
  |none=>simp[q] at e
  |some p =>
   simp only[q,bH,GW] at e;cases e;exact⟨J,d,p,c.Hi.all,m,q,λn x s t=>z J n x (Ex.same s) (c.Hi.same s) t⟩
end
end L2
namespace L2
open PySem PySem.Spec PyProof.Rows PySem.W
section
variable {X:Cx}{W:WT}
theorem dJ:fillsNumberSlot (.type "tuple") "mul"=pure false:=
 PySem.fillsNumberSlot_seq (id:="tuple.__mul__") (r:=some (.builtin "tuple.__rmul__")) F.slot_tuple_mul.lookup (by decide) F.slot_tuple_rmul.lookup (by decide)
theorem gN:seqRepeat? (.type "tuple")=pure (some (.builtin "tuple.__mul__")):=by unfold seqRepeat?;rw[PySem.seqSlot_of (T:="tuple") (name:="__mul__") (id:="tuple.__mul__") F.slot_tuple_mul.lookup (by decide),PySem.seqSlot_of (T:="tuple") (name:="__rmul__") (id:="tuple.__rmul__") F.slot_tuple_rmul.lookup (by decide)];rfl
theorem fF (a:Int)(t:Tok)(l:Addr)(items:Array Value)(n:Nat)(b:Option Addr)(c:Array (Option Value)) :
  Meets (Builtin.«int.__rmul__» ⟨[.int a t,.ref l],[]⟩) (λ_ R s=>s.heap.get? l=some { cls:=.type "tuple",dict:=b,data:=.seq items n,slots:=c }/\R (.ok (.ret Value.notImplemented)) s):=
 .of_wp λprog w A R s h=>by obtain⟨f,g,d,tk,os⟩:=s;obtain⟨e,h⟩:=h;wp_walk;exact⟨_,rfl,h⟩
theorem uM (l:Addr)(items:Array Value)(n:Nat)(i:Option Addr)(j:Array (Option Value))(k:Int)(t:Tok)(y : 2<=k)(z:k<2 ^ 30)(b:items.isEmpty=false)(hsz:items.size*k.toNat<=sizeLine) :
  Meets (Builtin.«tuple.__mul__» ⟨[.ref l,.int k t],[]⟩) (λ_ R s=>s.heap.get? l=some { cls:=.type "tuple",dict:=i,data:=.seq items n,slots:=j }/\R (.ok (.ret (Value.ref s.heap.objs.size))) { s with heap:=s.heap.push { cls:=Value.type "tuple",data:=Data.seq (List.foldl (λx1 x2=>x1++x2) #[] (replicate k.toNat items)) },toks:=s.toks }):=
 .of_wp λprog w A R s h=>by
  obtain⟨q,g,d,tk,os⟩:=s;obtain⟨a,h⟩:=h;have D:=AutoSeq1.idx_int
  wp_walk using AutoSeq1.wpAny_loadPart' a
  have C:(0:Int)<=k:=by omega
  have o:((k.toNat:Nat):Int)=k:=by omega
  have v:¬ ((decide (k < -2 ^ 63) ||decide (k≥2 ^ 63))=true):=by rw[decide_eq_false (by omega),decide_eq_false (by omega)];decide
  have x:¬ ((items.isEmpty ||k==1)=true):=by rw[b,Bool.false_or,beq_eq_false_iff_ne.mpr (by omega)];decide
  have u:¬ ((decide (k<=0) ||items.isEmpty)=true):=by rw[b,decide_eq_false (by omega)];decide
  have f:((items.size*k.toNat:Nat):Int)=(items.size:Int)*k:=by rw[Int.natCast_mul,o]
  have B:(sizeLine:Nat)=2 ^ 24:=rfl;have r:¬ ((items.size:Int)*k > (2 ^ 63-1) / 8):=by rw[← f];omega
  have p:Builtin.Tuple.tupleTooMany ((items.size:Int)*k)=false:=by unfold Builtin.Tuple.tupleTooMany;rw[← f];exact decide_eq_false (by omega)
  rw[if_neg v];refine wpAny_bind (tupleItemsOf_ (⟨_,a,rfl,n,rfl⟩:IsTup q l items) ?_);dsimp only;rw[if_neg x,if_neg u,if_neg r,if_neg (by rw[p];decide)]
  have c:sizeOk (.seq (List.foldl (λx1 x2=>x1++x2) #[] (replicate k.toNat items))):=by
   have e:List.foldl (λx1 x2=>x1++x2) #[] (replicate k.toNat items)=(replicate k.toNat items.toList).flatten.toArray:=by have:=foldl_rep items.toList k.toNat [];simpa using this
   show (List.foldl (λx1 x2=>x1++x2) #[] (replicate k.toNat items)).size<=sizeLine;rw[e,size_toArray,len_rep,length_toList,mul_comm];exact hsz
  first
   |exact wpAny_bind (m:=Builtin.Tuple.tupleExact _) (wpAny_newObj_type (wpAny_pure ⟨_,rfl,h⟩) c)
   |exact wpAny_bind (m:=Builtin.Tuple.tupleExact _) (wpAny_newObj_type (wpAny_bind (wpAny_pure (wpAny_pure ⟨_,rfl,h⟩))) c)
def cI:D->D->Option D
 | .int i,.int j=>if lK i j then some (.int (i*j)) else none
 | .str x,.int n=>if -1000<=n/\n<1 then some (.str ⟨#[]⟩) else if 1<=n/\n<=1000/\x.length<=1000 then some (.str ⟨(replicate n.toNat x.cps.toList).flatten.toArray⟩) else none
 | .tup a,.int n=>if 2<=n/\n<=1000/\0<a.length/\a.length<=1000 then some (.tup (replicate n.toNat a).flatten) else none
 |_,_=>none
theorem zy (x:Str)(n:Int)(h : 1<=n):Txt.mul x n=⟨(replicate n.toNat x.cps.toList).flatten.toArray⟩:=by
 have f:∀ m:Nat,(replicate m x.cps).foldl (·++·) #[]=(replicate m x.cps.toList).flatten.toArray:=λm=>by
  have:∀ (m:Nat) (a:List Nat),(replicate m x.cps).foldl (·++·) a.toArray=(a++(replicate m x.cps.toList).flatten).toArray:=by
   intro m
   induction m with
   |zero=>intro a;simp
   |succ m b =>
    intro a;rw[replicate_succ,foldl_cons,replicate_succ,flatten_cons,← List.append_assoc];have e:a.toArray++x.cps=(a++x.cps.toList).toArray:=by simp
    rw[e];exact b _
  have:=this m [];simpa using this
 unfold Txt.mul;rw[if_neg (by omega)];split
 ·rename_i c;rw[or_eq_true] at c;rcases c with c |c
  ·have:n=1:=eq_of_beq c;subst this;show x=⟨([x.cps.toList].flatten).toArray⟩;simp
  have g:x.cps.size=0:=eq_of_beq c;have:x.cps.toList=[]:=by simpa using Array.size_eq_zero_iff.mp g
  have d:∀ m:Nat,(replicate m ([]:List Nat)).flatten=[]:=λm=>by induction m with
   |zero=>rfl
   |succ m b=>rw[replicate_succ,flatten_cons,b];rfl
  rw[this,d];cases x with
  |mk cps =>
   simp only at this;have:cps = #[]:=by simpa using this
   rw[this]
 rw[f]
theorem de:Kk X (binaryOp .Mult) cI:=by
 intro g s W H x y v u Q I B w h;obtain⟨J,dx,dy,d,S,A,C,e,q⟩:=h;unfold cI at e;split at e
 ·rename_i i j;split at e
  ·rename_i c;cases e;cases At.GQ.mp A;cases At.GQ.mp C;exact Db g s W H _ _ v u Q I B w ⟨i,j,rfl,rfl,Br c,q H _ (G5.refl H) (At.GQ.mpr rfl)⟩
  cases e
 ·rename_i z n;obtain⟨ex,kx⟩:=At.G2.mp A;subst ex;cases At.GQ.mp C;obtain⟨t,rfl⟩:=B;obtain⟨t',rfl⟩:=w;split at e
  ·rename_i c;cases e;refine SB.mul ⟨by rw[decide_eq_false (by omega),decide_eq_false (by omega)];rfl,λh=>absurd c.2 h,λh=>absurd c.2 h⟩ λt' k=>?_;rw[show Txt.mul z n=⟨#[]⟩ from if_pos c.2];exact⟨.str _,H,I.tok _,⟨t',rfl⟩,q H _ (G5.refl H) (At.G2.mpr ⟨rfl,by show 0<=sizeLine;decide,by decide⟩)⟩
  rename_i c;split at e
  ·rename_i c2;cases e;have M:(sizeLine:Nat)=2 ^ 24:=rfl
   have f:z.length*n.toNat<=1000000:=by
    have:n.toNat<=1000:=by omega
    exact Nat.le_trans (Nat.mul_le_mul c2.2.2 this) (by decide)
   have ok:MulOk z n:=by
    refine⟨by rw[decide_eq_false (by omega),decide_eq_false (by omega)];rfl,λ_ _ hh=>?_,λ_ _=>?_⟩
    ·have D:(2 ^ 63-1) / n≥(2 ^ 63-1) / 1000:=by
      apply Int.le_ediv_of_mul_le (by omega);have:((2 ^ 63-1) / 1000:Int)=9223372036854775:=by decide
      rw[this];omega
     have L:((2 ^ 63-1) / 1000:Int)=9223372036854775:=by decide
     omega
    unfold Builtin.Str.tooLong;exact decide_eq_false (by omega)
   refine SB.mul ok λt' k=>?_;rw[zy z n (by omega)];have R:z.cps.toList.length=z.length:=by simp[Str.length]
   refine⟨.str _,H,I.tok _,⟨t',rfl⟩,q H _ (G5.refl H) (At.G2.mpr ⟨rfl,?_,mU λc m=>?_⟩)⟩
   ·show (List.toArray _).size<=_;rw[size_toArray,len_rep,R,mul_comm];omega
   obtain⟨l,PQ,P⟩:=List.mem_flatten.mp m;rw[(List.mem_replicate.mp PQ).2] at P;exact kF kx.2 P
  cases e
 ·rename_i xs n;split at e
  ·rename_i c;cases e;obtain⟨a,O,rfl,tq,m⟩:=At.G3.mp A;cases At.GQ.mp C;cases B;obtain⟨t',rfl⟩:=w;obtain⟨its,r,⟨⟨cls,G,data,K⟩,p,hc,E,hd⟩,hz⟩:=I.tuple tq.sq;simp only at hc hd;subst hc hd;have l1:=m.length;have V:=r.length;have M:(sizeLine:Nat)=2 ^ 24:=rfl
   have f:its.toArray.size*n.toNat<=sizeLine:=by
    rw[size_toArray];have D:its.length<=1000:=by omega
    have L:n.toNat<=1000:=by omega
    exact Nat.le_trans (Nat.mul_le_mul D L) (by rw[M];decide)
   have Z : 0<its.length:=by omega
   have Jm:its.toArray.isEmpty=false:=by
    cases its with
    |nil=>simp at Z
    |cons _ _=>rfl
   refine wpAny_binaryOp_repeat_ref (T:="tuple") (U:="int") (by decide) ⟨_,p,rfl⟩ (λY=>typeIs_int Y n t') dJ F.fills_int_mul F.slot_int_rmul gN F.slot_int_index.lookup
    (call_meets F.slot_int_rmul (typeIs_int s n t') F.entry_int_rmul (F.args_int_rmul_2 _ _) (fF n t' a its.toArray E G K)
     ⟨p,rfl,⟨_,p,rfl⟩,call_meets F.slot_tuple_mul ⟨_,p,rfl⟩ F.entry_tuple_mul (F.args_tuple_mul_2 _ _) (uM a its.toArray E G K n t' c.1 (by omega) Jm f) ⟨p,?_⟩⟩)
   have R1:List.foldl (λx1 x2=>x1++x2) #[] (replicate n.toNat its.toArray)=(replicate n.toNat its).flatten.toArray:=by have:=foldl_rep its n.toNat [];rw[nil_append] at this;exact this
   rw[R1];have N:(replicate n.toNat O).flatten.length<=sizeLine:=by rw[len_rep,mul_comm,V];rw[size_toArray] at f;exact f
   exact⟨.ref s.heap.objs.size,_,I.laid (t':=s.toks) (o:=.tup (replicate n.toNat O).flatten) (λb ob q=>Heap.get?_push_of_some _ q) (le_refl _) ⟨N,_,r.rep n.toNat,JV.new _ _⟩,rfl,q _ _ (aP I.fresh _) (At.Iy (m.rep n.toNat) I.fresh S N)⟩
  cases e
 cases e
end
section
variable {X:Cx}{W:WT}
def lO:D->Option String
 | .Hu=>some "NoneType"
 | .bl _=>some "bool"
 | .int _=>some "int"
 | .str _=>some "str"
 | .tup _=>some "tuple"
 | .lst _=>some "list"
 |_=>none
def l8 (T k:String):Bool:=k==T ||(k=="bool"&&T=="int")
def ik (T:String)(d:D):Option D:=(lO d).map λk => .bl (l8 T k)
def qj (T:String):Prop:=∀ (K:Frag),kitOne K (.type "NoneType") (.type T)=some (l8 T "NoneType")/\kitOne K (.type "bool") (.type T)=some (l8 T "bool")/\kitOne K (.type "int") (.type T)=some (l8 T "int") /\
 kitOne K (.type "str") (.type T)=some (l8 T "str")/\kitOne K (.type "tuple") (.type T)=some (l8 T "tuple")/\kitOne K (.type "list") (.type T)=some (l8 T "list")
theorem BB:qj "int":=λK=>⟨rfl,rfl,rfl,rfl,rfl,rfl⟩
theorem wE:qj "str":=λK=>⟨rfl,rfl,rfl,rfl,rfl,rfl⟩
theorem zO:qj "bool":=λK=>⟨rfl,rfl,rfl,rfl,rfl,rfl⟩
theorem kit_tuple:qj "tuple":=λK=>⟨rfl,rfl,rfl,rfl,rfl,rfl⟩
theorem Ai {T:String}(D:qj T):gJ X (.builtin "isinstance") (λv H Q => ∃ x,v=[x,.ty T]/\RY X.K (ik T) x H Q):=by
 intro j s B H v V Q I r h;obtain⟨x,rfl,J,M,d,S,f,e,q⟩:=h;obtain⟨u,U,rfl,g,E⟩:=vals2 r;cases E;obtain⟨k,c,F⟩:=map_eq_some_iff.mp e;subst F;obtain⟨G,A,N,w,L,P⟩:=D X.K;have fin:∀ tk,EP X j B Q (.bool (l8 T k)) { s with toks:=tk }:=λtk=>⟨.bl _,H,I.tok _,rfl,q H _ (G5.refl H) (At.G_.mpr rfl)⟩;cases M with
 |Hu=>cases c;cases At.HG.mp f;cases g;exact kia_one kitx_none I.Kj True.intro G (λz=>nomatch z) fin
 |bl b=>cases c;cases At.G_.mp f;cases g;exact kia_one kitx_bool I.Kj True.intro A (λz=>nomatch z) fin
 |int i=>cases c;cases At.GQ.mp f;obtain⟨t,rfl⟩:=g;exact kia_one kitx_int I.Kj True.intro N (λz=>nomatch z) fin
 |str y=>cases c;cases (At.G2.mp f).1;obtain⟨t,rfl⟩:=g;exact kia_one kitx_str I.Kj True.intro w (λz=>nomatch z) fin
 |tup R =>
  cases c;obtain⟨a,O,rfl,p,_⟩:=At.G3.mp f;cases g;obtain⟨its,C,⟨o,l,m,_⟩,_⟩:=I.tuple p.sq;exact kia_one kitx_tuple I.Kj ⟨o,l,m⟩ L (λz=>nomatch z) fin
 |lst R =>
  cases c;obtain⟨a,O,rfl,p,_⟩:=At.G8.mp f;cases g;obtain⟨its,C,⟨o,n,l,m,_⟩,_⟩:=I.list p.sq;exact kia_one kitx_list I.Kj ⟨o,l,m⟩ P (λz=>nomatch z) fin
 |set _=>simp[lO] at c
 |loc _=>simp[lO] at c
 |fn _ _=>simp[lO] at c
variable {a b c e:Expr}{fa fb fc:GH D}{pos:Pos}{es:List Expr}{gs:GH (List D)}
theorem ju {T:String}{x t:Str}{p a:Pos}(g:qj T)(l:x="isinstance")(m:X.mg x=none)(q:X.mg t=none)(o:bootBuiltins t=some (.type T))(n:SE X W e fa)
  (j:Gl X x:=by rfl) (L5:Gl X t:=by rfl) (k:t≠"__name__":=by decide) (i:(t==("__debug__":Str))=false:=by decide)
  (b:starEach (e::[.Name t a]) X.env=(false,eval e X.env)::starEach [.Name t a] X.env:=by rfl) (f:(backTo pos (starEach [.Name t a] X.env)).any (·.1)=false:=by rfl) :
  SE X W (.Call (.Name x p) [e,.Name t a] [] pos) (L4 (ik T) fa):=by
 subst l;refine PE.imp (jT (Ai g) j m (by decide) (b_ n (b_ (Bd (v:=.ty T) L5 q o (show RelV (.ty T) (.type T) from rfl) k i) HB (by rfl)) b) (by decide) (by decide) b f) λs H Q h=>?_;exact(tG.G1 h).mono λv r ⟨d,c⟩=>⟨v,rfl,tG.T2 c⟩
def cF:List D->Option D
 |[.tup xs]=>some (.int xs.length)
 |[.lst xs]=>some (.int xs.length)
 |[.str x]=>some (.int x.length)
 |_=>none
theorem dz:kn X (.builtin "len") cF:=by
 intro b s c H u i Q I r h;obtain⟨J,o,d,l,m,e,q⟩:=h;unfold cF at e;split at e
 ·rename_i k;cases e;obtain⟨v,w,rfl,a,n⟩:=GU.GS.mp m;cases GU.G0.mp n;obtain⟨p,g,rfl,t,f⟩:=At.G3.mp a;exact g9 b s c H _ i Q I r ⟨p,g,rfl,.inr t.sq,by rw[← f.length];exact q H _ (G5.refl H) (At.GQ.mpr rfl)⟩
 ·rename_i k;cases e;obtain⟨v,w,rfl,a,n⟩:=GU.GS.mp m;cases GU.G0.mp n;obtain⟨p,g,rfl,t,f⟩:=At.G8.mp a;exact g9 b s c H _ i Q I r ⟨p,g,rfl,.inl t.sq,by rw[← f.length];exact q H _ (G5.refl H) (At.GQ.mpr rfl)⟩
 ·rename_i y;cases e;obtain⟨v,w,rfl,a,n⟩:=GU.GS.mp m;cases GU.G0.mp n;obtain⟨ex,j⟩:=At.G2.mp a;subst ex;exact rz b s c H _ i Q I r ⟨y,rfl,j.1,q H _ (G5.refl H) (At.GQ.mpr rfl)⟩
 cases e
def intD:List D->Option D
 |[.int i]=>some (.int i)
 |[.bl k]=>some (.int (if k then 1 else 0))
 |_=>none
theorem Ag:kn X (.type "int") intD:=by
 intro b s c H l f Q I r h;obtain⟨J,j,d,g,m,e,q⟩:=h;unfold intD at e;split at e
 ·rename_i i;cases e;obtain⟨v,w,rfl,a,n⟩:=GU.GS.mp m;cases GU.G0.mp n;cases At.GQ.mp a;exact qa b s c H _ f Q I r (.inl ⟨i,rfl,q H _ (G5.refl H) (At.GQ.mpr rfl)⟩)
 ·rename_i k;cases e;obtain⟨v,w,rfl,a,n⟩:=GU.GS.mp m;cases GU.G0.mp n;cases At.G_.mp a;exact qa b s c H _ f Q I r (.inr ⟨k,rfl,q H _ (G5.refl H) (At.GQ.mpr rfl)⟩)
 cases e
def kB:List D->Option D
 |[.tup xs]=>some (.tup xs)
 |[.lst xs]=>some (.tup xs)
 |_=>none
theorem kY:kn X (.type "tuple") kB:=by
 intro b s g H x j Q I r h;obtain⟨J,u,d,k,m,e,q⟩:=h;unfold kB at e;split at e
 ·rename_i o;cases e;obtain⟨v,w,rfl,a,n⟩:=GU.GS.mp m;cases GU.G0.mp n;obtain⟨p,c,rfl,t,i⟩:=At.G3.mp a;exact jq b s g H _ j Q I r ⟨p,c,rfl,.inr ⟨t.sq,q H _ (G5.refl H) a⟩⟩
 ·rename_i o;cases e;obtain⟨v,w,rfl,a,n⟩:=GU.GS.mp m;cases GU.G0.mp n;obtain⟨p,c,rfl,t,i⟩:=At.G8.mp a;exact jq b s g H _ j Q I r ⟨p,c,rfl,.inl ⟨t.sq,λl f=>q _ _ (aP f _) (At.Iy i f k t.len)⟩⟩
 cases e
def Bx:List D->Option D
 |[.tup xs]=>some (.lst xs)
 |[.lst xs]=>some (.lst xs)
 |_=>none
theorem DE:kn X (.type "list") Bx:=by
 intro b s j H x k Q I r h;obtain⟨J,u,d,i,m,e,q⟩:=h;unfold Bx at e;split at e
 ·rename_i o;cases e;obtain⟨v,w,rfl,a,n⟩:=GU.GS.mp m;cases GU.G0.mp n;obtain⟨p,g,rfl,t,f⟩:=At.G3.mp a;exact j8 b s j H _ k Q I r ⟨p,g,rfl,.inr t.sq,λl c=>q _ _ (aP c _) (At.HU f c i t.len)⟩
 ·rename_i o;cases e;obtain⟨v,w,rfl,a,n⟩:=GU.GS.mp m;cases GU.G0.mp n;obtain⟨p,g,rfl,t,f⟩:=At.G8.mp a;exact j8 b s j H _ k Q I r ⟨p,g,rfl,.inl t.sq,λl c=>q _ _ (aP c _) (At.HU f c i t.len)⟩
 cases e
end
inductive Fl where
 |next (ρ:GP) |ret (d:D) |brk (ρ:GP) |cont (ρ:GP)
def Js (X:Cx)(W:WT)(J:List Addr)(H:Hp)(r:Except Str Fl)(f:GO)(E:Ends):Prop:=
 match r with
 | .ok (.next ρ') => ∀ e b a,Ex J H e a->Cf X e ρ' f b a->E.nx b a
 | .ok (.brk ρ') => ∀ e b a,Ex J H e a->Cf X e ρ' f b a->E.bk b a
 | .ok (.cont ρ') => ∀ e b a,Ex J H e a->Cf X e ρ' f b a->E.ct b a
 | .ok (.ret d) => ∀ e a v,Ex J H e a->G4 X.K e f a->At X.K a e d v->E.rt v a
 | .error c => ∀ e a,Ex J H e a->G4 X.K e f a->W c e f a
theorem Js.ex {X:Cx}{W:WT}{J j:List Addr}{H k:Hp}{r:Except Str Fl}{l:GO}{E:Ends}(h:Js X W J H r l E)(x:Ex J H j k):Js X W j k r l E:=by
 cases r with
 |error c=>exact λi e g s=>h i e (x.trans g) s
 |ok f =>
  cases f with
  |next m=>exact λi b e g c=>h i b e (x.trans g) c
  |brk m=>exact λi b e g c=>h i b e (x.trans g) c
  |cont m=>exact λi b e g c=>h i b e (x.trans g) c
  |ret d=>exact λi e v g s a=>h i e v (x.trans g) s a
def tS (X:Cx)(W:WT)(f:GH Fl):TS:=λE c H => ∃ J a S r b,Cf X J a S c H/\f a S=some (r,b)/\Js X W J H r b E
def SS (X:Cx)(W:WT)(st:Stmt)(f:GH Fl):Prop:=PS X st (tS X W f)
def Lp (X:Cx)(W:WT)(st:List Stmt)(f:GH Fl):Prop:=Lg X st (tS X W f)
theorem PS.imp {X:Cx}{st:Stmt}{t t':TS}(h:PS X st t)(i:∀ E b H,t' E b H->t E b H):PS X st t':=λa s b H D I z=>h a s b H D I (i _ _ _ z)
theorem Lg.imp {X:Cx}{st:List Stmt}{t t':TS}(h:Lg X st t)(i:∀ E b H,t' E b H->t E b H):Lg X st t':=λa s b H D I z=>h a s b H D I (i _ _ _ z)
section
variable {X:Cx}{W:WT}{st:Stmt}{rest:List Stmt}{f g:GH Fl}{e c:Expr}{fe:GH D}{gt:GH Bool}{pos:Pos}
def cg:GH Fl:=λa S=>GW (.next a) S
def aO (f g:GH Fl):GH Fl:=λc S=>ah (f c S) λd b=>match d with
 | .next a=>g a b
 |o=>GW o b
def bd (f:GH D):GH Fl:=λb S=>ah (f b S) λd a=>GW (.ret d) a
def JB (t:GH Bool)(f g:GH Fl):GH Fl:=λa S=>ah (t a S) λk b=>if k=true then f a b else g a b
def bv (i:Nat)(f:GH D):GH Fl:=λa S=>ah (f a S) λd b=>GW (.next (a.set i (some d))) b
def kc (f:GH D):GH Fl:=λa S=>ah (f a S) λ_ b=>GW (.next a) b
theorem bh:Lp X W [] cg:=Nh.imp λE a H h=>by obtain⟨J,b,S,r,d,c,e,z⟩:=h;cases e;exact z J a H Ex.refl c
theorem yQ {E:Ends}{i:St}{H:Hp}(h:tS X W (aO f g) E i H):DZ (tS X W f) (tS X W g) E i H:=by
 obtain⟨J,b,S,r,m,c,e,z⟩:=h;unfold aO at e;cases q:f b S with
 |none=>simp[q] at e
 |some o =>
  obtain⟨l,j⟩:=o;simp only[q] at e;cases l with
  |error x =>
   cases e;exact⟨J,b,S,.error x,_,c,q,z⟩
  |ok k =>
   cases k with
   |next a=>exact⟨J,b,S,.ok (.next a),j,c,q,λs n t x p=>⟨s,a,j,r,m,p,e,z.ex x⟩⟩
   |ret d=>cases e;exact⟨J,b,S,.ok (.ret d),_,c,q,z⟩
   |brk a=>cases e;exact⟨J,b,S,.ok (.brk a),_,c,q,z⟩
   |cont a=>cases e;exact⟨J,b,S,.ok (.cont a),_,c,q,z⟩
theorem ao (a:SS X W st f)(b:Lp X W rest g):Lp X W (st::rest) (aO f g):=(y9 a b).imp λE c H h=>yQ h
theorem au (a:SS X W st f):Lp X W [st] f:=AZ a
theorem tS.G1 {k:D->GH Fl}{E:Ends}{g:St}{H:Hp}(h:tS X W (λρ S=>ah (fe ρ S) λd b=>k d ρ b) E g H) :
  tE X W fe g H λv a => ∃ J ρ S d r f,Cf X J ρ S g a/\At X.K a J d v/\k d ρ S=some (r,f)/\Js X W J a r f E:=by
 obtain⟨J,ρ,S,r,f,c,e,z⟩:=h;cases q:fe ρ S with
 |none=>simp[q] at e
 |some o =>
  obtain⟨l,b⟩:=o;simp only[q] at e;cases l with
  |error x =>
   cases e;exact⟨J,ρ,S,.error x,_,c,.nil,q,z⟩
  |ok d=>exact⟨J,ρ,S,.ok d,b,c,.nil,q,λi a v x j m=>⟨i,ρ,b,d,r,f,c.re x j,m,e,z.ex x⟩⟩
theorem tS.Kx {k:Bool->GH Fl}{E:Ends}{f:St}{H:Hp}(h:tS X W (λρ S=>ah (gt ρ S) λd a=>k d ρ a) E f H) :
  tT X W gt f H λb g=>tS X W (k b) E f g:=by
 obtain⟨J,ρ,S,r,n,c,e,z⟩:=h;cases q:gt ρ S with
 |none=>simp[q] at e
 |some o =>
  obtain⟨l,a⟩:=o;simp only[q] at e;cases l with
  |error x =>
   cases e;exact⟨J,ρ,S,.error x,_,c,.nil,q,z⟩
  |ok d =>
   refine⟨J,ρ,S,.ok d,a,c,.nil,q,λi g v x j m=>?_⟩;cases m;exact⟨i,ρ,a,r,n,c.re x j,e,z.ex x⟩
theorem aI (b:SE X W e fe):SS X W (.Return (some e) pos) (bd fe):=(CQ b).imp λE j H h=>(tS.G1 h).mono λv a f=>by obtain⟨J,g,S,d,r,i,c,m,q,z⟩:=f;cases q;exact z J a v Ex.refl c.Hi m
theorem cm {a b:List Stmt}(hc:Jz X W c gt)(e:Lp X W a f)(hb:Lp X W b g):SS X W (.If c a b pos) (JB gt f g):=(Eh hc e hb).imp λE i H h=>(tS.Kx h).mono λk j d=>by
 cases k with
 |true=>rw[if_pos rfl];exact d
 |false=>rw[if_neg (by decide)];exact d
theorem gK (f:SE X W e fe)(i:swapsWith e none pos.line X.env=pure false:=by rfl):SS X W (.Expr e pos) (kc fe):=(A1 f i).imp λE b H h=>(tS.G1 h).mono λv a g=>by obtain⟨J,k,S,d,r,j,c,m,q,z⟩:=g;cases q;exact z J b a Ex.refl c
theorem Cf.set {J:List Addr}{ρ:GP}{S:GO}{e:St}{H:Hp}{i:Nat}{d:D}{v:V}(c:Cf X J ρ S e H)(m:At X.K H J d v):Cf X J (ρ.set i (some d)) S (e.set i (some v)) H:=by
 refine⟨by rw[length_set,length_set];exact c.len,λj k h=>?_,c.Hi⟩;by_cases a:j=i
 ·subst a;have b:j < ρ.length:=by have:=(List.getElem?_eq_some_iff.mp h).1;rwa [length_set] at this
  rw[getElem?_set_self b] at h;cases h;exact⟨v,getElem?_set_self (by rw[← c.len];exact b),m⟩
 rw[getElem?_set_ne (Ne.symm a)] at h;obtain⟨f,g,l⟩:=c.env j k h;exact⟨f,by rw[getElem?_set_ne (Ne.symm a)];exact g,l⟩
theorem aL {i:Nat}{x:Str}{a:Pos}(o:X.N.Nodup)(f:SE X W e fe)(j:X.N[i]?=some x:=by rfl)(k:Loc X.env.scope x:=by first |exact Or.inl rfl |exact Or.inr rfl)(n:swapsWith e (some (.Name x a)) pos.line X.env=pure false:=by rfl)
  (g:X.fn x=true∨X.env.scope.names.lookup x=some .local:=by first |exact .inl rfl |exact .inr rfl |assumption) :
  SS X W (.Assign [.Name x a] e pos) (bv i fe):=(CP o j k f n g).imp λE p H h=>(tS.G1 h).mono λv b l=>by
 obtain⟨J,t,S,d,r,s,c,m,q,z⟩:=l
 cases q;exact z J _ b Ex.refl (c.set m)
def VF (X:Cx)(u:D->GP->Option GP):TG:=λv e H Q => ∃ J c S d a,Cf X J c S e H/\At X.K H J d v/\u d c=some a/\∀ b,Cf X J a S b H->Q b H
def Fo (X:Cx)(u:List D->GP->Option GP):Ni:=λe f H Q => ∃ J d S c a,Cf X J d S f H/\GU X.K H J c e/\u c d=some a/\∀ b,Cf X J a S b H->Q b H
def SG (X:Cx)(a:Expr)(u:D->GP->Option GP):Prop:=PG X a (VF X u)
def Q4 (X:Cx)(a:List Expr)(u:List D->GP->Option GP):Prop:=NI X a (Fo X u)
theorem PG.imp {c:Expr}{t t':TG}(h:PG X c t)(i:∀ v b H Q,t' v b H Q->t v b H Q):PG X c t':=λa s b H v u Q I r z=>h a s b H v u Q I r (i _ _ _ _ z)
theorem NI.imp {c:List Expr}{t t':Ni}(h:NI X c t)(i:∀ v b H Q,t' v b H Q->t v b H Q):NI X c t':=λa s b H v u Q I r z=>h a s b H v u Q I r (i _ _ _ _ z)
noncomputable def aK (i:Nat):D->GP->Option GP:=λd a=>some (a.set i (some d))
def jK:List D->GP->Option GP:=λb a=>match b with
 |[]=>some a
 |_=>none
def bJ (u:D->GP->Option GP)(us:List D->GP->Option GP):List D->GP->Option GP:=λb c=>match b with
 |d::r=>(u d c).bind λa=>us r a
 |[]=>none
def oG (n:Nat)(us:List D->GP->Option GP):D->GP->Option GP:=λd b=>match d with
 | .tup a=>if a.length=n then us a b else none
 |_=>none
theorem aR {i:Nat}{x:Str}(j:X.N.Nodup)(f:X.N[i]?=some x:=by rfl)(g:Loc X.env.scope x:=by first |exact Or.inl rfl |exact Or.inr rfl)(b:X.fn x=true∨X.env.scope.names.lookup x=some .local:=by first |exact .inl rfl |exact .inr rfl |assumption) :
  SG X (.Name x pos) (aK i):=(A7 j f g b).imp λv k H Q h=>by
 obtain⟨J,l,S,d,a,c,m,e,z⟩:=h;cases e;exact z _ (c.set m)
theorem mf:Q4 X [] jK:=Nj.imp λv d H Q h=>by
 obtain⟨J,f,S,a,b,c,m,e,z⟩:=h;cases a with
 |nil=>cases e;exact⟨GU.G0.mp m,z _ c⟩
 |cons _ _=>cases e
theorem cH {e:Expr}{es:List Expr}{u:D->GP->Option GP}{us:List D->GP->Option GP}(f:SG X e u)(k:Q4 X es us)
  (s:(assignEach (e::es) X.env).map (·.2)=assign e X.env::(assignEach es X.env).map (·.2):=by rfl):Q4 X (e::es) (bJ u us):=(zd f k s).imp λv t H Q h=>by
 obtain⟨J,q,S,o,b,c,m,e,z⟩:=h;cases o with
 |nil=>cases e
 |cons d r =>
  obtain⟨i,p,rfl,m1,m2⟩:=GU.GS.mp m;obtain⟨a,j,l⟩:=bind_eq_some_iff.mp e;exact⟨i,p,rfl,J,q,S,d,a,c,m1,j,λg n=>⟨J,a,S,r,b,n,m2,l,z⟩⟩
theorem qI {es:List Expr}{k:Nat}{us:List D->GP->Option GP}{n:Nat}(hc:X.calm=true)(h:Q4 X es us)
  (j:(assignEach es X.env).length=n:=by rfl) (i:(assignEach es X.env).findIdx? (·.1)=none:=by rfl):SG X (.Tuple es k pos) (oG n us):=(CZ hc h j i).imp λv q H Q h=>by
 obtain⟨J,o,S,d,b,c,m,e,z⟩:=h;cases d with
 |tup l =>
  obtain⟨a,p,rfl,t,f⟩:=At.G3.mp m;simp only[oG] at e;split at e
  ·rename_i g;exact⟨a,p,rfl,t.sq,by rw[← f.length];exact g,J,o,S,l,b,c,f,e,z⟩
  cases e
 |_=>cases e
def rF (u:D->GP->Option GP)(f:GH D):GH Fl:=λa S=>ah (f a S) λd b=>aM ((u d a).map Fl.next) b
theorem Cq {a e:Expr}{u:D->GP->Option GP}(l:SE X W e fe)(n:SG X a u)(s:swapsWithSole [a] e pos.line X.env=pure false:=by rfl)(k:swappedStores [a] e X.env=pure none:=by rfl)
  (i:(assignEach [a] X.env).map (·.2)=[assign a X.env]:=by rfl):SS X W (.Assign [a] e pos) (rF u fe):=(CV l n s k i).imp λE t H h=>(tS.G1 h).mono λv j o=>by
 obtain⟨J,g,S,d,r,w,c,m,q,z⟩:=o
 cases hu:u d g with
 |none=>simp[hu] at q
 |some b =>
  simp only[hu,map_some,bH,GW] at q;cases q;exact⟨J,g,_,d,b,c,m,hu,λf p=>z J f j Ex.refl p⟩
structure Walk (X:Cx) (Jt:It) (ds:List D) (J0:List Addr) (H0:Hp):Prop where
 len:ds.length<=sizeLine
 go:∀ J H i,Ex J0 H0 J H->i<ds.length->Jt.go i H
 LY:∀ J H (i:Nat) x H',Ex J0 H0 J H->(∀ a∈J,H a≠none)->i<ds.length->Jt.LY i H x H'->∃ d,ds[i]?=some d/\At X.K H' J d x/\G5 H H'
 stop:∀ J H i,Ex J0 H0 J H->ds.length<=i->Jt.stop i H
def iW (X:Cx)(W:WT)(h:GH (List D)):TI:=λi H R => ∃ J f S r d,Cf X J f S i H/\h f S=some (r,d)/\match r with
 | .ok g => ∀ b a e,Ex J H b a->G4 X.K b d a->Walk X e g b a->R e a
 | .error c => ∀ b a,Ex J H b a->G4 X.K b d a->W c b d a
def SI (X:Cx)(W:WT)(b iter:Expr)(a:GH (List D)):Prop:=PI X b iter (iW X W a)
theorem PI.imp {c iter:Expr}{t t':TI}(h:PI X c iter t)(i:∀ b H R,t' b H R->t b H R):PI X c iter t':=λa s b H R I z=>h a s b H R I (i _ _ _ z)
def gw (u:D->GP->Option GP)(body:GH Fl):List D->GH Fl
 |[],ρ,S=>GW (.next ρ) S
 |d::ds,ρ,S=>match u d ρ with
  |none=>none
  |some c=>ah (body c S) λe b=>match e with
   | .next a=>gw u body ds a b
   | .cont a=>gw u body ds a b
   | .brk a=>GW (.next a) b
   | .ret d=>GW (.ret d) b
def io (d:GH (List D))(u:D->GP->Option GP)(body:GH Fl):GH Fl:=λa S=>ah (d a S) λb c=>gw u body b a c
theorem d_ {Q iter:Expr}{body:List Stmt}{Y:GH (List D)}{u:D->GP->Option GP}(hp:PassesOwn (model X.prog X.w) X.A X.env X.xe)(hc:X.calm=true)(B:SI X W Q iter Y)(hg:SG X Q u)(hb:Lp X W body f)
  (hs:∀ x,foldedSetIterable iter X.env x=pure x:=by intro _;rfl):SS X W (.For Q iter body [] pos) (io Y u f):=(CT hp hc B hg hb hs).imp λE σ H h=>by
 obtain⟨J,L,S,r,s,c,e,z⟩:=h;unfold io at e;cases q:Y L S with
 |none=>simp[q] at e
 |some o =>
  obtain⟨P,S1⟩:=o;simp only[q] at e;cases P with
  |error x =>
   cases e;exact⟨J,L,S,.error x,_,c,q,z⟩
  |ok p =>
   refine⟨J,L,S,.ok p,S1,c,q,λU H0 Jt x0 s0 w=>?_⟩
   refine⟨λi m σ H=>m=p.length-i/\∃ a k l,Ex U H0 a H/\Cf X a k l σ H/\∃ r s,gw u f (p.drop i) k l=some (r,s)/\Js X W a H r s E,
    ⟨_,rfl,U,L,S1,Ex.refl,c.re x0 s0,r,s,by simpa using e,z.ex x0⟩,λi m Z C hw=>?_⟩
   obtain⟨hm,a,k,l,ex,N,r1,T_,j,ez⟩:=hw;by_cases B:i<p.length
   ·refine .inr ⟨w.go a C i ex B,λn t => ∃ R G Sy,Ex U H0 R t/\Cf X R G Sy n t/\∃ r s,gw u f (p.drop (i+1)) G Sy=some (r,s)/\Js X W R t r s E,
     λn t hn=>⟨p.length-(i+1),by omega,rfl,hn⟩,λx t y=>?_⟩
    obtain⟨d,ed,ad,sm⟩:=w.LY a C i x t ex N.Hi.all B y;have hd:p.drop i=d::p.drop (i+1):=by rw[List.drop_eq_getElem_cons B];rw[getElem?_eq_getElem B] at ed;cases ed;rfl
    rw[hd] at j;unfold gw at j;cases hu:u d k with
    |none=>simp[hu] at j
    |some g =>
     simp only[hu] at j;have M:Ex a C a t:=Ex.same sm;refine⟨a,k,l,d,g,N.re M (N.Hi.same sm),ad,hu,λσ2 I=>?_⟩;cases v:f g l with
     |none=>simp[v] at j
     |some o =>
      obtain⟨P,O⟩:=o;simp only[v] at j;have F:=ez.ex M;cases P with
      |error x =>
       cases j;exact⟨a,g,l,.error x,_,I,v,F⟩
      |ok fl =>
       cases fl with
       |next b=>exact⟨a,g,l,.ok (.next b),O,I,v,λT n H2 K V=>⟨T,b,O,ex.trans (M.trans K),V,r1,T_,j,F.ex K⟩⟩
       |cont b=>exact⟨a,g,l,.ok (.cont b),O,I,v,λT n H2 K V=>⟨T,b,O,ex.trans (M.trans K),V,r1,T_,j,F.ex K⟩⟩
       |brk b=>cases j;exact⟨a,g,l,.ok (.brk b),_,I,v,F⟩
       |ret dd=>cases j;exact⟨a,g,l,.ok (.ret dd),_,I,v,F⟩
   refine .inl ⟨w.stop a C i ex (by omega),?_⟩;rw[drop_eq_nil_of_le (by omega)] at j;unfold gw at j;cases j;exact ez a Z C Ex.refl N
def vM (f:GH D):GH (List D):=λb S=>ah (f b S) λd a=>aM (match d with | .tup c=>some c |_=>none) a
def Am (f:GH D):GH (List D):=λb S=>ah (f b S) λd a=>aM (match d with | .lst c=>some c |_=>none) a
theorem Walk.list {a:Addr}{ds:List D}{b:List V}{J:List Addr}{H:Hp}(t:LQ X.K H J a b)(m:GU X.K H J ds b):Walk X (Rz X.K a) ds J H where
 len:=by rw[m.length];exact t.len
 go:=λf g i x c=>by
  have m1:=m.ex x;obtain⟨v,h,_⟩:=m1.get (getElem?_eq_getElem c);exact⟨b,v,(t.ex x).sq,h⟩
 LY:=λf g i v k x l c y=>by
  obtain⟨rfl,j⟩:=y;obtain⟨d,e,a⟩:=(m.ex x).get' (j b (t.ex x).sq);exact⟨d,e,a,G5.refl _⟩
 stop:=λf g i x c=>⟨b,(t.ex x).sq,by rw[← m.length];exact c⟩
theorem Walk.tup {a:Addr}{ds:List D}{b:List V}{J:List Addr}{H:Hp}(t:TQ X.K H J a b)(m:GU X.K H J ds b):Walk X (RA X.K a) ds J H where
 len:=by rw[m.length];exact t.len
 go:=λf g i x c=>by
  have m1:=m.ex x;obtain⟨v,h,_⟩:=m1.get (getElem?_eq_getElem c);exact⟨b,v,(t.ex x).sq,h⟩
 LY:=λf g i v k x l c y=>by
  obtain⟨rfl,j⟩:=y;obtain⟨d,e,a⟩:=(m.ex x).get' (j b (t.ex x).sq);exact⟨d,e,a,G5.refl _⟩
 stop:=λf g i x c=>⟨b,(t.ex x).sq,by rw[← m.length];exact c⟩
theorem qV {k:D->Option (List D)}{l:St}{H:Hp}{R:It->Hp->Prop}(h:iW X W (λρ S=>ah (fe ρ S) λd f=>aM (k d) f) l H R) :
  tE X W fe l H λv a => ∃ J S d ds,G4 X.K J S a/\At X.K a J d v/\k d=some ds/\∀ H' b,G5 a H'->Walk X b ds J H'->R b H':=by
 obtain⟨J,ρ,S,r,p,c,e,z⟩:=h;cases q:fe ρ S with
 |none=>simp[q] at e
 |some o =>
  obtain⟨n,f⟩:=o;simp only[q] at e;cases n with
  |error x =>
   cases e;exact⟨J,ρ,S,.error x,_,c,.nil,q,z⟩
  |ok d =>
   refine⟨J,ρ,S,.ok d,f,c,.nil,q,λg a v x j m=>?_⟩;cases hk:k d with
   |none=>simp[hk] at e
   |some ds =>
    simp only[hk,jC,bH,GW] at e;cases e;exact⟨g,_,d,ds,j,m,hk,λH' b i w=>z g H' b (x.trans (Ex.same i)) (j.same i) w⟩
theorem Ct {g:Expr}(f:SE X W e fe):SI X W g e (vM fe):=(CY f).imp λl H R h=>(qV h).mono λv c k=>by
 obtain⟨J,S,d,n,s,m,b,z⟩:=k
 cases d with
 |tup o =>
  cases b;obtain⟨a,j,rfl,t,i⟩:=At.G3.mp m;exact⟨a,rfl,⟨j,t.sq⟩,z c _ (G5.refl _) (Walk.tup t i)⟩
 |_=>cases b
theorem Cv {g:Expr}(f:SE X W e fe):SI X W g e (Am fe):=(A6 f).imp λl H R h=>(qV h).mono λv c k=>by
 obtain⟨J,S,d,n,s,m,b,z⟩:=k
 cases d with
 |lst o =>
  cases b;obtain⟨a,j,rfl,t,i⟩:=At.G8.mp m;exact⟨a,rfl,⟨j,t.sq⟩,z c _ (G5.refl _) (Walk.list t i)⟩
 |_=>cases b
def fT:List D->Option (List D)
 |[.int j]=>if -(2 ^ 62)<=j/\j<=16777216 then some ((List.range j.toNat).map λ(k:Nat)=>D.int k) else none
 |_=>none
def j_ (k:List D->Option (List D))(t:GH (List D)):GH (List D):=λc S=>ah (t c S) λa b=>aM (k a) b
theorem Walk.range {J:List Addr}{H:Hp}(lo:Int)(n:Nat)(hz:n<=sizeLine):Walk X (QW lo n) ((List.range n).map λ(k:Nat)=>D.int (lo+k)) J H where
 len:=by rw[length_map,length_range];exact hz
 go:=λb c i x a=>by rw[length_map,length_range] at a;exact a
 LY:=λb c i v d x e a y=>by
  obtain⟨rfl,rfl⟩:=y;rw[length_map,length_range] at a;exact⟨.int (lo+i),by rw[getElem?_map,List.getElem?_range a];rfl,At.GQ.mpr rfl,G5.refl _⟩
 stop:=λb c i x a=>by rw[length_map,length_range] at a;exact a
theorem nv {k:List D->Option (List D)}{t:GH (List D)}{l:St}{H:Hp}{R:It->Hp->Prop}(h:iW X W (λρ S=>ah (t ρ S) λd f=>aM (k d) f) l H R) :
  tA X W t l H λvs a => ∃ J S es ds,G4 X.K J S a/\GU X.K a J es vs/\k es=some ds/\∀ H' b,G5 a H'->Walk X b ds J H'->R b H':=by
 obtain⟨J,ρ,S,r,p,c,e,z⟩:=h;cases q:t ρ S with
 |none=>simp[q] at e
 |some o =>
  obtain⟨n,f⟩:=o;simp only[q] at e;cases n with
  |error x =>
   cases e;exact⟨J,ρ,S,.error x,_,c,.nil,q,z⟩
  |ok es =>
   refine⟨J,ρ,S,.ok es,f,c,.nil,q,λg a v x j m=>?_⟩;cases hk:k es with
   |none=>simp[hk] at e
   |some ds =>
    simp only[hk,jC,bH,GW] at e;cases e;exact⟨g,_,es,ds,j,m,hk,λH' b i w=>z g H' b (x.trans (Ex.same i)) (j.same i) w⟩
theorem gm {e a:Expr}{t:GH (List D)}{x:Str}{p:Pos}(g:x="range")(i:X.mg x=none)(l:SA X W [a] t)(f:Gl X x:=by rfl)(o:starEach [a] X.env=[(false,eval a X.env)]:=by rfl):SI X W e (.Call (.Name x p) [a] [] pos) (j_ fT t):=by
 subst g;refine PI.imp (xA f i l o) λq H R h=>(nv h).mono λu d k=>?_;obtain⟨J,S,es,y,s,m,b,z⟩:=k;unfold fT at b;split at b
 ·rename_i j;split at b
  ·rename_i c;cases b;obtain⟨v,r,rfl,a1,n⟩:=GU.GS.mp m;cases GU.G0.mp n;cases At.GQ.mp a1;refine⟨j,rfl,c.1,by omega,z d _ (G5.refl _) ?_⟩;have w:=Walk.range (X:=X) (J:=J) (H:=d) 0 j.toNat (by show j.toNat<=16777216;omega);simpa using w
  cases b
 cases b
end
structure HZ (scope:Scope) (env:Env):Prop where
 kind:scope.kind = .function
 nd:(scope.names.map (·.1)).Nodup
 names:∀ y∈scope.names,y.2 = .local->scope.names.lookup y.1=some .local
 frees:∀ y∈scope.names,y.2 = .free->env.kindOf y.1=some .cell∨env.kindOf y.1=some .free
theorem eI {env:Env}:∀ (names:List (Str×NameKind)) (a:List (Str×Addr)),(∀ y∈names,y.2 = .free->∃ c,env.cells.lookup y.1=some c)->(∀ x c,a.lookup x=some c->env.cells.lookup x=some c) ->
  ∃ cl:List (Str×Addr),(forIn names a λ(x:Str×NameKind) r=>(do
    let (name,kind):=x
    if kind==.free then pure (ForInStep.yield ((name,← cellOf env name)::r)) else pure (ForInStep.yield r):Sem (ForInStep (List (Str×Addr)))))=pure cl /\
   (∀ x c,cl.lookup x=some c->env.cells.lookup x=some c)/\(∀ x c,a.lookup x=some c->∃ b,cl.lookup x=some b)/\(∀ y∈names,y.2 = .free->∃ c,cl.lookup y.1=some c)
 |[],a,_,ha=>⟨a,by simp,ha,λx c h=>⟨c,h⟩,by simp⟩
 |(n,k)::r,a,hc,ha=>by
  by_cases j:k = .free
  ·subst j;obtain⟨c,m⟩:=hc (n,.free) (mem_cons_self ..) rfl
   have p:∀ x b,((n,c)::a).lookup x=some b->env.cells.lookup x=some b:=λx b h=>by
    rw[lookup_cons] at h;cases d:x==n with
    |true =>
     rw[d] at h;cases h;have:x=n:=eq_of_beq d;rw[this];exact m
    |false=>rw[d] at h;exact ha x b h
   obtain⟨cl,e,i,f,l⟩:=eI r ((n,c)::a) (λy hy=>hc y (mem_cons_of_mem _ hy)) p;have o:cellOf env n=pure c:=by unfold cellOf;rw[m]
   refine⟨cl,?_,i,λx b h=>?_,λy hy g=>?_⟩
   ·rw[forIn_cons];simp only[beq_self_eq_true,if_true,o,pure_bind];exact e
   ·by_cases d:(x==n)=true
    ·exact f x c (by rw[lookup_cons,d])
    exact f x b (by rw[lookup_cons,Bool.eq_false_iff.mpr d];exact h)
   rcases mem_cons.mp hy with rfl |hy
   ·exact f n c (by rw[lookup_cons,beq_self_eq_true])
   exact l y hy g
  obtain⟨cl,e,i,f,l⟩:=eI r a (λy hy=>hc y (mem_cons_of_mem _ hy)) ha;refine⟨cl,?_,i,f,λy hy g=>?_⟩
  ·rw[forIn_cons];have:(k==NameKind.free)=false:=by simpa using j
   simp only[this,false_eq_true,if_false,pure_bind];exact e
  rcases mem_cons.mp hy with rfl |hy
  ·exact absurd g j
  exact l y hy g
def kS (X:Cx)(scope:Scope)(cl:List (Str×Addr))(d:List Str)(C:Addr)(a:Shared)(c:Hp)(b:List Addr):Cx:=
 { X with N:=d,s₀:=a,H₀:=c,env:=compEnvC scope cl C X.env,outer:=X.stack,ex:=b,fn:=λx=>scope.names.lookup x==some .cell,pn:=[],xe:=λ_ _=>False }
theorem fA {env:Env}{x:Str}:∀ {names:List (Str×NameKind)}{k:NameKind},(names.map λ(n,k)=>if (k==NameKind.free&&env.scope.kind==.function&&env.kindOf n==some .cell) then (n,NameKind.cell) else (n,k)).lookup x=some k ->
  (k = .cell∨k = .free)->(x,NameKind.free)∈names∨(x,NameKind.cell)∈names
 |[],_,h,_=>by simp at h
 |(n,k0)::r,k,h,a=>by
  have b:∀ {k'},(r.map λ(n,k)=>if (k==NameKind.free&&env.scope.kind==.function&&env.kindOf n==some .cell) then (n,NameKind.cell) else (n,k)).lookup x=some k'->(k' = .cell∨k' = .free)->(x,NameKind.free)∈(n,k0)::r∨(x,NameKind.cell)∈(n,k0)::r:=λh a=>(fA h a).imp (mem_cons_of_mem _) (mem_cons_of_mem _);rw[map_cons] at h;by_cases hc:(k0==NameKind.free&&env.scope.kind==.function&&env.kindOf n==some .cell)=true
  ·simp only[hc,if_true,lookup_cons] at h;cases hx:x==n with
   |true =>
    have e:x=n:=eq_of_beq hx;subst e;have:k0 = .free:=by simp at hc;exact hc.1.1
    subst this;exact .inl (mem_cons_self ..)
   |false=>rw[hx] at h;exact b h a
  simp only[hc,if_false,lookup_cons,false_eq_true] at h;cases hx:x==n with
  |true =>
   rw[hx] at h;have e:x=n:=eq_of_beq hx;subst e;cases h;rcases a with rfl |rfl
   ·exact .inr (mem_cons_self ..)
   exact .inl (mem_cons_self ..)
  |false=>rw[hx] at h;exact b h a
def cL {α:Type}(ts:Nat)(ix:List Nat)(a:List (Option α)):List (Option α):=replicate ts none++ix.map λi=>(a[i]?).getD none
def im (ts:List Str)(ix:List Nat)(N:List Str):List Str:=ts++ix.map λi=>N.getD i Str.empty
theorem gO {env:Env}{x:Str}:∀ {names:List (Str×NameKind)},names.lookup x=some .free ->
  (names.map λ(n,k)=>if (k==NameKind.free&&env.scope.kind==.function&&env.kindOf n==some .cell) then (n,NameKind.cell) else (n,k)).lookup x=some .cell ∨
  (names.map λ(n,k)=>if (k==NameKind.free&&env.scope.kind==.function&&env.kindOf n==some .cell) then (n,NameKind.cell) else (n,k)).lookup x=some .free
 |[],h=>by simp at h
 |(n,k0)::r,h=>by
  rw[map_cons];rw[lookup_cons] at h;by_cases hc:(k0==NameKind.free&&env.scope.kind==.function&&env.kindOf n==some .cell)=true
  ·simp only[hc,if_true,lookup_cons];cases hx:x==n with
   |true=>exact .inl rfl
   |false=>rw[hx] at h;exact gO h
  simp only[hc,if_false,lookup_cons,false_eq_true];cases hx:x==n with
  |true=>rw[hx] at h;exact .inr h
  |false=>rw[hx] at h;exact gO h
theorem lookup_mem {x:Str}{k:NameKind}:∀ {names:List (Str×NameKind)},names.lookup x=some k->(x,k)∈names
 |[],h=>by simp at h
 |(n,k0)::r,h=>by
  rw[lookup_cons] at h;cases hx:x==n with
  |true=>rw[hx] at h;cases h;rw[eq_of_beq hx];exact mem_cons_self ..
  |false=>rw[hx] at h;exact mem_cons_of_mem _ (lookup_mem h)
theorem bE:∀ (names:List (Str×NameKind)) (n:Nat) (a:List (Str×Addr)),cellsFrom n names a=cellsFrom n names []++a
 |[],_,_=>rfl
 |(x,k)::r,n,a=>by
  unfold cellsFrom;split
  ·rw[bE r _ ((x,n)::a),bE r _ [(x,n)],List.append_assoc];rfl
  exact bE r n a
theorem g7 {x:Str}{c:Addr}:∀ {names:List (Str×NameKind)}{n:Nat},(x,c)∈cellsFrom n names []->(x,NameKind.cell)∈names
 |[],_,h=>by cases h
 |(y,k)::r,n,h=>by
  unfold cellsFrom at h;split at h
  ·rename_i a;rw[bE] at h;rcases mem_append.mp h with h |h
   ·exact mem_cons_of_mem _ (g7 h)
   have:=mem_singleton.mp h;cases this;rw[eq_of_beq a];exact mem_cons_self ..
  exact mem_cons_of_mem _ (g7 h)
theorem dU {x:Str}:∀ {names:List (Str×NameKind)}{n:Nat},(x,NameKind.cell)∈names->∃ c,(cellsFrom n names []).lookup x=some c
 |(y,k)::r,n,h=>by
  unfold cellsFrom;rcases mem_cons.mp h with e |h
  ·cases e;rw[if_pos (by rfl),bE,lookup_append];cases q:(cellsFrom (n+1) r []).lookup x with
   |some c=>exact⟨c,rfl⟩
   |none=>exact⟨n,by simp⟩
  split
  ·obtain⟨c,e⟩:=dU (n:=n+1) h;rw[bE,lookup_append,e];exact⟨c,rfl⟩
  exact dU h
theorem nB {x:Str}{k a:NameKind}:∀ {names:List (Str×NameKind)},(names.map (·.1)).Nodup->(x,k)∈names->(x,a)∈names->k=a
 |(y,k0)::r,nd,h,h'=>by
  obtain⟨n1,n2⟩:=nodup_cons.mp nd;rcases mem_cons.mp h with e |p<;>rcases mem_cons.mp h' with b |q
  ·cases e;cases b;rfl
  ·cases e;exact absurd (mem_map.mpr ⟨_,q,rfl⟩) n1
  ·cases b;exact absurd (mem_map.mpr ⟨_,p,rfl⟩) n1
  exact nB n2 p q
structure JR (X:Cx) (scope:Scope) (cl:List (Str×Addr)) (s3:Shared) (h4:Heap):Prop where
 out:∀ x c,cl.lookup x=some c->X.env.cells.lookup x=some c∨(s3.heap.objs.size<c/\h4.IsCell c none)
 inj:∀ x y c,cl.lookup x=some c->cl.lookup y=some c->x=y
 has:∀ x,(x,NameKind.free)∈scope.names∨(x,NameKind.cell)∈scope.names->∃ c,cl.lookup x=some c
 frees:∀ x c,scope.names.lookup x=some .free->cl.lookup x=some c->X.env.cells.lookup x=some c
 own:∀ x c,scope.names.lookup x=some .cell->cl.lookup x=some c->s3.heap.objs.size<c
theorem JR.of {X:Cx}{i:GK}{k:St}{m:Hp}{scope:Scope}{cl:List (Str×Addr)}{b:Shared}{o:Obj}(I:Inv X i k m b)(S:HZ scope X.env)(f:∀ x c,cl.lookup x=some c->X.env.cells.lookup x=some c)(l:∀ y∈scope.names,y.2 = .free->∃ c,cl.lookup y.1=some c) :
  JR X scope (cellsFrom (b.heap.objs.size+1) scope.names cl) b (pushCells (b.heap.push o) scope.names):=by
 have ok:=cellsFrom_ok scope.names (b.heap.push o) (b.heap.objs.size+1) [] ⟨λ_ _ s=>(nomatch s),List.Pairwise.nil⟩ (by rw[Heap.size_push];exact le_refl _);rw[Heap.size_push] at ok
 have g:∀ x c,(cellsFrom (b.heap.objs.size+1) scope.names cl).lookup x=some c->((cellsFrom (b.heap.objs.size+1) scope.names []).lookup x=some c)∨((cellsFrom (b.heap.objs.size+1) scope.names []).lookup x=none/\cl.lookup x=some c):=λx c h=>by
  rw[bE,lookup_append] at h;cases q:(cellsFrom (b.heap.objs.size+1) scope.names []).lookup x with
  |some d=>rw[q] at h;exact .inl h
  |none=>rw[q] at h;exact .inr ⟨rfl,h⟩
 have old:∀ x c,X.env.cells.lookup x=some c->c<b.heap.objs.size:=λx c h=>let ⟨v,q⟩:=I.cell x c h;q.lt;refine⟨λx c h=>?_,λx y c hx p=>?_,λx hx=>?_,λx c j h=>?_,λx c j h=>?_⟩
 ·rcases g x c h with q |⟨_,q⟩
  ·have:=ok.empty x c (mem_of_lookup q);exact .inr ⟨this.2,this.1⟩
  exact .inl (f x c q)
 ·rcases g x c hx with q |⟨_,q⟩<;>rcases g y c p with r |⟨_,r⟩
  ·exact name_of_addr ok.apart (mem_of_lookup q) (mem_of_lookup r)
  ·have a:=(ok.empty x c (mem_of_lookup q)).2;exact absurd (lt_of_lt_of_le (lt_succ_of_lt (old y c (f y c r))) a) (Nat.lt_irrefl _)
  ·have a:=(ok.empty y c (mem_of_lookup r)).2;exact absurd (lt_of_lt_of_le (lt_succ_of_lt (old x c (f x c q))) a) (Nat.lt_irrefl _)
  exact I.ok.inj x y c (f x c q) (f y c r)
 ·rw[bE,lookup_append];cases q:(cellsFrom (b.heap.objs.size+1) scope.names []).lookup x with
  |some d=>exact⟨d,rfl⟩
  |none =>
   rcases hx with hx |hx
   ·exact l _ hx rfl
   obtain⟨c,e⟩:=dU (n:=b.heap.objs.size+1) hx;rw[q] at e;cases e
 ·rcases g x c h with q |⟨_,q⟩
  ·have:=nB S.nd (lookup_mem j) (g7 (mem_of_lookup q));cases this
  exact f x c q
 rcases g x c h with q |⟨q,_⟩
 ·exact(ok.empty x c (mem_of_lookup q)).2
 obtain⟨d,e⟩:=dU (n:=b.heap.objs.size+1) (lookup_mem j);rw[q] at e;cases e
theorem oF {M:Model}{A:Around}{E:GJ}{s:Shared}{scope:Scope}{globals:Addr}{cl:List (Str×Addr)}{qual:Str}{env:Env}{Q:Env->Shared->Prop}
  (a:Q (newEnv scope s.heap.objs.size globals (cellsFrom (s.heap.objs.size+1) scope.names cl) qual none .none (some env) builtinsNs) { s with heap:=pushCells (s.heap.push { cls:=.type "dict",data:=.dict #[] }) scope.names }) :
  wpAny M A (newFunctionEnv scope globals cl [] qual none .none (some env)) Q E s:=by
 simp only[newFunctionEnv,Option.isSome_some,if_true];refine wpAny_bind (wpAny_alloc ?_);refine wpAny_bind (wpAny_layCells _ (λname kind cells=>by cases VG:kind==NameKind.cell<;>simp[VG]) _ _ _ _ ?_);rw[show ({ s with heap:=s.heap.push { cls:=.type "dict",data:=.dict #[] } }:Shared).heap.objs.size=s.heap.objs.size+1 from Heap.size_push ..];rw[forIn_nil];exact wpAny_bind (wpAny_pure (wpAny_pure a))
section
variable {X:Cx}{pins:GK}{σ:St}{H:Hp}{s:Shared}
theorem Inv.enter {scope:Scope}{cl:List (Str×Addr)}{ts:List Str}{ix:List Nat}{E:List Addr}{j:Shared}{B:Heap}{C:Hp}{m:GL}{tk:Nat}(I:Inv X pins σ C j)(S:HZ scope X.env)(n:JR X scope cl j B)
  (Lq:∀ t∈ix,scope.names.lookup (X.N.getD t Str.empty)=some .free)
  (f:∀ b∈E,f_ X pins C b) (O:∀ b∈E,∃ o,j.heap.get? b=some o) (k:∀ b o,j.heap.get? b=some o->B.get? b=some o) (Y:B.Ns j.heap.objs.size m) :
  Inv (kS X scope cl (im ts ix X.N) j.heap.objs.size j C E) [] (cL ts.length ix σ) C { j with heap:=B,toks:=tk }:=by
 have own:∀ b o,j.heap.get? b=some o->∀ c,j.heap.objs.size<c->c≠b:=λb o e c h z=>Nat.lt_irrefl _ (Nat.lt_trans h (z▸Heap.lt_size e))
 refine⟨⟨I.ok.mod,S.kind,I.ok.glob,I.ok.blt,le_refl _,n.inj,λx hx=>?_,(λx c a e=>le_of_lt (n.own x c (eq_of_beq a) e)),I.ok.hd,I.ok.frames,.inl rfl,λb hb=>⟨?_,λx c e=>?_⟩,I.bs,Nat.le_trans I.ok.Mp I.sz,λb o e hb=>?_,λb hb z=>?_,I.stack,I.IX⟩,
  rfl,I.bare,Un.kept k,⟨m,Y,λi x v R U e3=>?_⟩,λx c e=>?_,I.fresh,λx c e=>?_,λp W=>absurd (show p∈([]:GK) from W) (by simp),I.Ha.kept k,?_⟩
 ·rcases hx with z |z
  ·exact n.has x (fA z (.inl rfl))
  exact n.has x (fA z (.inr rfl))
 ·obtain⟨o,A⟩:=O b hb;exact ne_of_lt (Heap.lt_size A)
 ·rcases n.out x c e with q |q
  ·exact(f b hb).2.2.2.2.1 x c q
  obtain⟨o,A⟩:=O b hb;exact own b o A c q.1
 ·obtain⟨Q,_,_,J,_⟩:=f b hb;rcases J with z |z
  ·exact I.ok.Mq b o e z
  exact absurd (lt_of_lt_of_le (Heap.lt_size e) (Nat.le_trans I.ok.Mp z)) (Nat.lt_irrefl _)
 ·obtain⟨Q,f1,Z,J,_⟩:=f b hb;rcases mem_cons.mp (I.JX b z) with e |e
  ·exact f1 e
  exact Z e
 ·-- a captured name
  have d:(cL ts.length ix σ)[i]?=some (some v):=U;have s:(im ts ix X.N)[i]?=some x:=R;unfold cL at d;unfold im at s;by_cases D:i<ts.length
  ·rw[getElem?_append_left (by simpa using D),List.getElem?_replicate] at d;rw[if_pos D] at d;cases d
  rw[getElem?_append_right (by simpa using D)] at d;rw[getElem?_append_right (by simpa using D)] at s;rw[List.length_replicate] at d;rw[getElem?_map] at d s;cases et:ix[i-ts.length]? with
  |none=>rw[et] at d;cases d
  |some t =>
   rw[et] at d s;simp only[map_some,Option.some.injEq] at d s
   have P : σ[t]?=some (some v):=by
    cases q : σ[t]? with
    |none=>rw[q] at d;cases d
    |some w=>rw[q] at d;simp only[getD_some] at d;rw[d]
   have G:t<X.N.length:=by rw[← I.len];exact(List.getElem?_eq_some_iff.mp P).1
   have hN:X.N[t]?=some x:=by rw[List.getD_eq_getElem?_getD,getElem?_eq_getElem G] at s;rw[getElem?_eq_getElem G];simp only[getD_some] at s;rw[s]
   have F:scope.names.lookup x=some .free:=by have:=Lq t (mem_of_getElem? et);rwa [s] at this
   have M:=lookup_mem F;have g:=S.frees _ M rfl;obtain⟨m0,_,V⟩:=I.loc
   obtain⟨u,r,l⟩:=V t x v hN P (by
    rcases g with z |z
    ·exact .inr (.inl z)
    exact .inr (.inr z))
   refine⟨u,r,.inr ⟨gO F,?_⟩⟩;obtain⟨c,K⟩:=n.has x (.inl M);have T:=n.frees x c F K;rcases l with ⟨kl,_⟩ |⟨_,c',L,cell⟩
   ·have H:X.env.kindOf x=some .local:=kl;rcases g with z |z
    ·have y:X.env.kindOf x=some .cell:=z;rw[H] at y;cases y
    have y:X.env.kindOf x=some .free:=z;rw[H] at y;cases y
   rw[T] at L;cases L;exact⟨c,K,cell.keeps k⟩
 ·rcases n.out x c e with q |q
  ·obtain⟨v,o,A,hd⟩:=I.cell x c q;exact⟨v,o,k c o A,hd⟩
  exact⟨_,q.2⟩
 ·rcases n.out x c e with q |q
  ·exact I.Ih x c q
  exact I.Ha.fresh (le_of_lt q.1)
 show (cL ts.length ix σ).length=(im ts ix X.N).length;unfold cL im;simp
theorem Inv.leave {scope:Scope}{cl:List (Str×Addr)}{t:List Str}{m:St}{l:List Addr}{g s':Shared}{h':Heap}{i H':Hp}{s:GK}(I:Inv X pins σ i g)(f:∀ b∈l,f_ X pins i b)
  (h:Inv (kS X scope cl t g.heap.objs.size g i l) s m H' s') (k:∀ b,b≠g.heap.objs.size->h'.get? b=s'.heap.get? b):Inv X pins σ H' { s' with heap:=h' }:=by
 have un:Un (Lk X.stack) l i H' g.heap s'.heap:=h.base;have p:∀ b o,g.heap.get? b=some o->b≠g.heap.objs.size:=λb o e=>ne_of_lt (Heap.lt_size e)
 have r:Un (Lk X.stack) l i H' g.heap h':=by
  refine⟨λb o e n hb j=>?_,λb o e n hb j=>?_,un.free,λb o e j=>?_,un.JW,un.JK,un.JL⟩
  ·rw[k b (p b o e)];exact un.keep b o e n hb j
  ·rw[k b (p b o e)];exact un.slot b o e n hb j
  rw[k b (p b o e)];exact un.there b o e j
 have Ha:Iq X.prog X.w H' h':=λb u e=>by
  have x:H' g.heap.objs.size=none:=h.free;have ne:∀ c v,H' c=some v->c≠g.heap.objs.size:=λc v q z=>by rw[z,x] at q;cases q
  refine(h.Ha b u e).Ir (λc v hc q=>?_) (λ_ q=>q) λ_ _ q=>q;rw[k c]
  ·exact q
  rcases hc with z |z
  ·rw[z];exact ne b u e
  exact ne c _ z
 have os:s'.os=g.os:=h.os;exact I.Px (s':={ s' with heap:=h' }) os r Ha h.bare λb hb=>let ⟨_,a,_,y,c,d⟩:=f b hb;⟨y,a,c,d⟩
end
section
variable {prog:Program}{w:World}{A:Around}{R:Result->Shared->Prop}{s:Shared}
theorem rm {elt target iter:Expr}{ifs:List Expr}{scope:Scope}{pos:Pos}{it l:Value}{env:Env}(I:Nat->Shared->Prop)
  (u:∀ n s,I n s->wpAny (model prog w) A (pyNext it) (λr d=>match r with
   |none=>R (.ok .next) d
   |some v=>wpAny (model prog w) A (letOwnedTupleGo target it v) (λ_ z=>wpAny (model prog w) A (assign target env v) (λ_ e =>
     wpAny (model prog w) A (forIn ifs true λc r=>if r=true then do let ok ← isTrue c env (eval c env);pure (ForInStep.yield ok) else pure (ForInStep.yield r)) (λok b =>
      if ok=true then wpAny (model prog w) A (eval elt env) (λx i =>
       wpAny (model prog w) A (call (.builtin "list.append") [l,x]) (λ_ j => ∃ m,m<n/\I m j) (λ_ _=>False) i) (λ_ _=>False) b
      else ∃ m,m<n/\I m b) (λ_ _=>False) e) (λ_ _=>False) z) (λ_ _=>False) d) (λ_ _=>False) s)
  (n:Nat) (h:I n s):codeAny (model prog w) A (.compLoop (.ListComp elt [⟨target,iter,ifs,0⟩] scope pos) 0 it l env) R s:=by
 have no:∀ {α:Type}{t:Sem α}{Q : α->Shared->Prop}{E:GJ}{s:Shared},wpAny (model prog w) A t Q (λ_ _=>False) s->wpAny (model prog w) A t Q E s:=λh=>wpAny_mono h (λ_ _ q=>q) λ_ _ f=>f.elim;refine codeAny_loop rfl I (λn s C=>?_) n h;show wpAny _ A ((compTurn (.ListComp elt [⟨target,iter,ifs,0⟩] scope pos) 0 it l env).onRaise (λx=>do noteFrame x env;theTreesLotGoes x)) _ _ s;refine wpAny_noted ?_;rw[compTurn_list];refine wpAny_bind (wpAny_standAt (wpAny_bind (wpAny_mono (no (u n s C)) (λr d g=>?_) λ_ _ a=>a)));cases r with
 |none=>exact wpAny_pure g
 |some v =>
  refine wpAny_bind (wpAny_mono (no g) (λ_ z B=>?_) λ_ _ a=>a);refine wpAny_bind (wpAny_mono (no B) (λ_ e p=>wpAny_bind (wpAny_mono (no p) (λok b k=>?_) λ_ _ a=>a)) λ_ _ a=>a);cases ok with
  |false=>exact wpAny_pure ⟨rfl,k⟩
  |true =>
   exact wpAny_bind (wpAny_bind (wpAny_mono (no k) (λx i y=>wpAny_bind (wpAny_mono (no y) (λ_ j o=>wpAny_pure (wpAny_pure ⟨rfl,o⟩)) λ_ _ a=>a)) λ_ _ a=>a))
end
section
variable {X:Cx}{pins:GK}{σ:St}{H:Hp}{s:Shared}{D₀:Addr}
theorem Inv.adopt {ys:List V}{its:List Value}{n:Nat}(I:Inv X pins σ H s)(f:f_ X pins H D₀)(e:s.heap.get? D₀=some { cls:=.type "list",data:=.seq its.toArray n })(r:Vals ys its)(hz:ys.length<=sizeLine):Inv X pins σ (upd H D₀ (.lst ys)) s:=by
 obtain⟨h,k,p,d,l,i⟩:=f;have ne:∀ b o,H b=some o->b≠D₀:=λb o q=>aN q h
 have q:=I.step (h':=s.heap) (H':=upd H D₀ (.lst ys)) (g':=s.gens) (d':=s.drawn) (t':=s.toks) (ch:=[D₀]) (λb hb=>by
   have:b=D₀:=by simpa using hb
   subst this
   exact⟨d,k,l,i⟩)
  (λb o _ _ _ e _=>e) (λb o _ _ _ e _=>⟨o.slots,e⟩) (λb o hb _ g=>by rw[aA (λz=>hb (by simp[z]))];exact g) (λb o _ e=>⟨o,e⟩)
  (λb a q=>by rw[aA (ne b _ q)];exact q) (λb o a q=>by rw[aA (ne b _ q)];exact q) (λb m q=>⟨#[],by rw[aA (ne b _ q),q];simp⟩) (λ_ j=>j) (λb u q=>?_) I.bare
 ·exact q
 by_cases hb:b=D₀
 ·subst hb;rw[GV] at q;cases q;exact⟨hz,its,n,r,e⟩
 rw[aA hb] at q;exact(I.Ha b u q).Ir (λc v _ z=>z) (λc z=>by rw[aA (ne c _ z)];exact z) λc a z=>by rw[aA (ne c _ z)];exact z
end
def PX (X:Cx)(W:WT)(ifs:List Expr)(g:GH Bool):Prop:=
 ∀ (a:GK) (s:Shared) (b:St) (H:Hp) (Q:Bool->Hp->Prop),Inv X a b H s->tT X W g b H Q ->
  wpAny (model X.prog X.w) X.A (forIn ifs true λc r=>if r=true then do let ok ← isTrue c X.env (eval c X.env);pure (ForInStep.yield ok) else pure (ForInStep.yield r)) (TP X a b Q) X.xe s
def iO:GH Bool:=λ_ S=>GW true S
theorem jN {X:Cx}{W:WT}:PX X W [] iO:=by intro a s b H Q I h;rw[forIn_nil];exact wpAny_pure ⟨H,I,mh h⟩
theorem iT {X:Cx}{W:WT}{c:Expr}{g:GH Bool}(hc:Jz X W c g):PX X W [c] g:=by intro a s d H Q I h;rw[forIn_cons];simp only[if_true,forIn_nil];refine wpAny_bind (wpAny_bind (Hb (hc a s d H Q I h) λb e q=>wpAny_pure ?_));exact wpAny_pure q
noncomputable def Oh {α:Type}(m:Out α):Option (α×GO):=match m with
 |some (.ok a,S)=>some (a,S)
 |_=>none
def cz (u:D->GP->Option GP)(gt:GH Bool)(fe:GH D):List D->GP->GO->Option (List D×GO)
 |[],_,S=>some ([],S)
 |d::ds,ρ,S=>(u d ρ).bind λa=>(Oh (gt a S)).bind λ(k,b) =>
  if k=true then (Oh (fe a b)).bind λ(y,e)=>(cz u gt fe ds a e).map λ(f,c)=>(y::f,c)
  else cz u gt fe ds a b
def eO (n:Nat)(ix:List Nat)(d:GH (List D))(u:D->GP->Option GP)(gt:GH Bool)(fe:GH D):GH D:=λa S=>ah (d a S) λb c =>
 match cz u gt fe b (cL n ix a) c with
 |some (out,S2)=>GW (.lst out) S2
 |none=>none
abbrev W0:WT:=λ_ _ _ _=>False
section
variable {X:Cx}{W:WT}
structure CompEnd (X:Cx) (pins:GK) (σ:St) (J0:List Addr) (H0:Hp) (S2:GO) (out:List D) (a C:Addr) (s':Shared):Prop where
 ns:∃ m,s'.heap.Ns C m
 own:X.s₀.heap.objs.size<=C/\C≠X.env.locals/\(∀ x c,X.env.cells.lookup x=some c->c≠C)/\∀ p∈X.pn++pins,p.1≠C
 fin:∀ h',(∀ b,b≠C->h'.get? b=s'.heap.get? b)->∃ J' H1 ys,Inv X pins σ (upd H1 a (.lst ys)) { s' with heap:=h' }/\Ex J0 H0 J' H1/\G4 X.K J' S2 H1/\GU X.K H1 J' out ys/\H1 a=none/\ys.length<=sizeLine/\upd H1 a (.lst ys) C=none
theorem CompEnd.PY {c:GK}{f:St}{g:List Addr}{h:Hp}{S2:GO}{out:List D}{a C:Addr}{s':Shared}(ce:CompEnd X c f g h S2 out a C s')(h':Heap)(k:∀ b,b≠C->h'.get? b=s'.heap.get? b) :
  ∃ d H',Inv X c f H' { s' with heap:=h' }/\Ex g h d H'/\G4 X.K d S2 H'/\At X.K H' d (.lst out) (.ref a)/\H' C=none:=by
 obtain⟨d,n,o,i,l,st,ad,e,m,j⟩:=ce.fin h' k;exact⟨d,_,i,l.trans (Ex.same (aP e _)),st.same (aP e _),At.HU ad e st.all m,j⟩
def v0 (X':Cx)(o:Nat->Heap->Prop)(k:List Addr)(a:Addr)(u:D->GP->Option GP)(gt:GH Bool)(fe:GH D)(ds out:List D)(l:List Addr)(m:Hp)(S2:GO)(n:Nat)(s':Shared):Prop:=
 ∃ (i:Nat) (e:St) (c:Hp) (f:List Addr) (d:GP) (g:GO) (dn rest:List D) (j:List V) (h:List Value) (ep:Nat),
  n=ds.length-i+1/\i<=ds.length/\Inv X' [] e c s'/\o i s'.heap/\(∀ b∈a::k,c b=none)/\Ex l m f c/\Cf X' f d g e c /\
  s'.heap.get? a=some { cls:=.type "list",data:=.seq h.toArray ep }/\Vals j h/\GU X'.K c f dn j/\dn.length<=i/\cz u gt fe (ds.drop i) d g=some (rest,S2)/\out=dn++rest
theorem ym {X':Cx}{tg elt:Expr}{ifs:List Expr}{u:D->GP->Option GP}{gt:GH Bool}{fe:GH D}{it a:Addr}{E:List Addr}{tn:Nat->Heap->Prop}{Jt:It}{ds out:List D}{Y:List Addr}{X:Hp}{S2:GO}{R:Result->Shared->Prop}
  (hx:X'.xe=λ_ _=>False) (hc:X'.calm=true) (sg:SG X' tg u) (st:PX X' W0 ifs gt) (se:SE X' W0 elt fe) (T:Turn X'.prog X'.w X'.K tg Jt E it tn) (wk:Walk X' Jt ds Y X) (na:a∉E) (hz:ds.length<=sizeLine)
  (fin:∀ (Iu:GK) (H':Hp) (b:Addr),b∈a::E->H' b=none->(∀ p∈Iu,p.1≠b)->f_ X' Iu H' b)
  (R3:∀ (s':Shared) (j:St) (H':Hp) (B:List Addr) (G:GP) (ys:List V) (us:List Value) (ep:Nat),Inv X' [] j H' s'->Ex Y X B H'->Cf X' B G S2 j H'->H' a=none->s'.heap.get? a=some { cls:=.type "list",data:=.seq us.toArray ep }->Vals ys us->GU X'.K H' B out ys->ys.length<=sizeLine->R (.ok .next) s') :
  ∀ n s,v0 X' tn E a u gt fe ds out Y X S2 n s->wpAny (model X'.prog X'.w) X'.A (pyNext (.ref it)) (λr Q=>match r with
   |none=>R (.ok .next) Q
   |some v=>wpAny (model X'.prog X'.w) X'.A (letOwnedTupleGo tg (.ref it) v) (λ_ LH=>wpAny (model X'.prog X'.w) X'.A (assign tg X'.env v) (λ_ s₂ =>
     wpAny (model X'.prog X'.w) X'.A (forIn ifs true λc r=>if r=true then do let ok ← isTrue c X'.env (eval c X'.env);pure (ForInStep.yield ok) else pure (ForInStep.yield r)) (λok O =>
      if ok=true then wpAny (model X'.prog X'.w) X'.A (eval elt X'.env) (λx s₄ =>
       wpAny (model X'.prog X'.w) X'.A (call (.builtin "list.append") [.ref a,x]) (λ_ s₅ => ∃ m,m<n/\v0 X' tn E a u gt fe ds out Y X S2 m s₅) (λ_ _=>False) s₄) (λ_ _=>False) O
      else ∃ m,m<n/\v0 X' tn E a u gt fe ds out Y X S2 m O) (λ_ _=>False) s₂) (λ_ _=>False) LH) (λ_ _=>False) Q) (λ_ _=>False) s:=by
 rintro n s ⟨i,j,H',B,G,Sx,dn,rest,ys,us,ep,hn,hi,I',Ub,fr,ex,cx,ga,vs,ad,dl,l,eo⟩;have fa:=fin [] H' a (mem_cons_self ..) (fr a (mem_cons_self ..)) (λp H=>by simp at H)
 have I1:Inv X' [(a,{ cls:=.type "list",data:=.seq us.toArray ep })] j H' s:=I'.IY λp H=>by
  have:p=(a,{ cls:=.type "list",data:=.seq us.toArray ep }):=by simpa using H
  subst this;exact⟨ga,fa.1,fa.2.1,fa.2.2.1,λv z=>by cases z⟩
 have R4:∀ H1:Hp,(∀ b∈E,H1 b=none)->∀ b∈E,f_ X' [(a,{ cls:=.type "list",data:=.seq us.toArray ep })] H1 b:=λH1 hn b hb=>fin _ H1 b (mem_cons_of_mem _ hb) (hn b hb) λp H=>by
  have:p=(a,{ cls:=.type "list",data:=.seq us.toArray ep }):=by simpa using H
  subst this;intro z;have z':a=b:=z;exact na (z'▸hb)
 by_cases H_:i<ds.length
 ·refine Hb (T.item X' rfl rfl rfl hc i _ s j H' (λ_ _=>False) I1 (R4 H' λb hb=>fr b (mem_cons_of_mem _ hb)) Ub (wk.go B H' i ex H_)) λr s1 I=>?_;obtain⟨v,er,h1⟩:=I;subst er;refine Hb h1 λ_ s5 I=>?_;obtain⟨x,W,I5,r5,y5,R5,RE⟩:=I;obtain⟨d,ed,VI,sm⟩:=wk.LY B H' i x W ex cx.Hi.all H_ y5;have x5:Ex B H' B W:=Ex.same sm;have c5:Cf X' B G Sx j W:=cx.re x5 (cx.Hi.same sm);have hd:ds.drop i=d::ds.drop (i+1):=by rw[List.drop_eq_getElem_cons H_];rw[getElem?_eq_getElem H_] at ed;cases ed;rfl
  rw[hd,cz] at l;obtain⟨h,eu,l⟩:=bind_eq_some_iff.mp l;obtain⟨⟨k,Z⟩,eg,l⟩:=bind_eq_some_iff.mp l
  have VJ:gt h Sx=some (.ok k,Z):=by
   unfold Oh at eg;split at eg
   ·rename_i q;cases eg;exact q
   cases eg
  have RF:=I5.pinned (R4 W RE) (T.obj _ _ R5)
  have keep:∀ {f:St}{C:Hp}{L:Shared},Inv X' ([(a,{ cls:=.type "list",data:=.seq us.toArray ep })]++kI E s5.heap) f C L->tn (i+1) L.heap/\(∀ b∈a::E,C b=none)/\L.heap.get? a=some { cls:=.type "list",data:=.seq us.toArray ep }:=λ{f C L} U=>by
   have pa:=U.pin (a,{ cls:=.type "list",data:=.seq us.toArray ep }) (mem_append_right _ (mem_append_left _ (by simp)));refine⟨T.keep _ _ _ R5 λb hb o e=>(U.pin (b,o) (mem_append_right _ (mem_append_right _ (gT hb e)))).1,λb hb=>?_,pa.1⟩;rcases mem_cons.mp hb with rfl |hb
   ·exact pa.2.1
   obtain⟨o,e,_⟩:=T.obj _ _ R5 b hb;exact(U.pin (b,o) (mem_append_right _ (mem_append_right _ (gT hb e)))).2.1
  have Uc:∀ {f:St}{C:Hp}{L:Shared},Inv X' ([(a,{ cls:=.type "list",data:=.seq us.toArray ep })]++kI E s5.heap) f C L->Inv X' [] f C L:=λ{f C L} U=>U.IY λp H=>absurd H (by simp);have g:=sg _ s5 j W x v (λf C=>C=W/\Cf X' B h Sx f C) RF r5 ⟨B,G,Sx,d,h,c5,VI,eu,λf c6=>⟨rfl,c6⟩⟩;rw[hx] at g;refine Hb g λ_ L I=>?_;obtain⟨f,C,U,eH,c6⟩:=I;subst eH
  have t:=st _ L f C (λb N=>b=k/\∃ J,Ex B C J N/\Cf X' J h Z f N) U ⟨B,h,Sx,.ok k,Z,c6,.nil,VJ,λJ N b x7 s7 eb=>by
   cases eb
   exact⟨rfl,J,x7,c6.re x7 s7⟩⟩
  rw[hx] at t;refine Hb t λb s7 I=>?_;obtain⟨N,I7,eb,J,x7,c7⟩:=I;subst eb;have Ud:Ex Y X J N:=ex.trans (x5.trans x7);have Ue:GU X'.K N J dn ys:=(ad.ex x5).ex x7;cases b with
  |false =>
   rw[if_neg (by decide)];simp only[false_eq_true,if_false] at l;obtain⟨t8,Q6,g8⟩:=keep I7;exact⟨ds.length-(i+1)+1,by omega,i+1,f,N,J,h,Z,dn,rest,ys,us,ep,rfl,by omega,Uc I7,t8,Q6,Ud,c7,g8,vs,Ue,by omega,l,eo⟩
  |true =>
   rw[if_pos rfl];simp only[if_true] at l;obtain⟨⟨y,Sy⟩,ey,l⟩:=bind_eq_some_iff.mp l;obtain⟨⟨ry,S3⟩,ey2,l⟩:=map_eq_some_iff.mp l
   have VL:fe h Z=some (.ok y,Sy):=by
    unfold Oh at ey;split at ey
    ·rename_i q;cases ey;exact q
    cases ey
   simp only[Prod.mk.injEq] at l;obtain⟨er,es⟩:=l;subst es er;have t:=se _ s7 f N (λw M => ∃ P,Ex J N P M/\Cf X' P h Sy f M/\At X'.K M P y w) I7 ⟨J,h,Z,.ok y,Sy,c7,.nil,VL,λP M w x8 S aw=>⟨P,x8,c7.re x8 S,aw⟩⟩;rw[hx] at t;refine Hb t λw S I=>?_;obtain⟨vw,M,I8,VM,P,x8,c8,aw⟩:=I;obtain⟨t8,Q6,g8⟩:=keep I8;have Ug:GU X'.K M P dn ys:=Ue.ex x8;have l1:=Ug.length;have l2:=vs.length;refine call_meets F.slot_list_append ⟨_,g8,rfl⟩ F.entry_list_append (F.args_list_append_2 _ _) (PySem.list_append a us.toArray ep w (by rw[size_toArray];omega)) ⟨g8,?_⟩;have R6:=PySem.IsL.update g8 (·.push w);have PZ:=fin [] M a (mem_cons_self ..) (Q6 a (mem_cons_self ..)) (λp H=>by simp at H);have I9:Inv X' [] f M { S with heap:=S.heap.update a (Obj.mapSeq (·.push w)),toks:=S.toks }:=(Uc I8).turned (it:=a) (λb o hb e=>(Heap.get?_update_other S.heap (Obj.mapSeq (·.push w)) (Ne.symm hb)).trans e) PZ.1 PZ.2.1 PZ.2.2.2.1 PZ.2.2.2.2.1 PZ.2.2.2.2.2;refine⟨ds.length-(i+1)+1,by omega,i+1,f,M,P,h,Sy,dn++[y],ry,ys++[vw],us++[w],_,rfl,by omega,I9,?_,Q6,Ud.trans x8,c8,by simpa using R6,vs.append (.cons VM .nil),Ug.append (.cons aw .nil),by rw[List.length_append,List.length_singleton];omega,ey2,by rw[eo];simp⟩;exact T.keep _ _ _ t8 λb hb o e=>(Heap.get?_update_other S.heap (Obj.mapSeq (·.push w)) (λz:a=b=>na (by rw[z];exact hb))).trans e
 refine Hb (T.done X' rfl rfl rfl hc i _ s j H' (λ_ _=>False) I1 (R4 H' λb hb=>fr b (mem_cons_of_mem _ hb)) Ub (wk.stop B H' i ex (by omega))) λr s1 I=>?_;obtain⟨er,J1⟩:=I;subst er;rw[drop_eq_nil_of_le (by omega),cz] at l;cases l;rw[append_nil] at eo;subst eo;have l1:=ad.length;have pa:=J1.pin (a,{ cls:=.type "list",data:=.seq us.toArray ep }) (mem_append_right _ (by simp));exact R3 s1 j H' B G ys us ep (J1.IY λp H=>absurd H (by simp)) ex cx pa.2.1 pa.1 vs ad (by omega)
theorem p_ {S iter elt:Expr}{ifs:List Expr}{scope:Scope}{pos:Pos}{u:D->GP->Option GP}{gt:GH Bool}{fe:GH D}{ts:List Str}{ix:List Nat}{cl:List (Str×Addr)}
  {g:GK}{B:St}{n:Shared}{E:GJ}{it:Addr}{l:List Addr}{tn:Nat->Heap->Prop}{Jt:It}{j:Hp}{F:List Addr}{ρ:GP}{W S2:GO}{ds out:List D}{Y:Value->Addr->Result->Shared->Prop}
  (hc:X.calm=true) (Sc:HZ scope X.env) (h1:∀ x c,cl.lookup x=some c->X.env.cells.lookup x=some c) (h2:∀ y∈scope.names,y.2 = .free->∃ c,cl.lookup y.1=some c) (Lq:∀ t∈ix,scope.names.lookup (X.N.getD t Str.empty)=some .free)
  (Nu:∀ cl C f H3 l,SG (kS X scope cl (im ts ix X.N) C f H3 l) S u/\PX (kS X scope cl (im ts ix X.N) C f H3 l) W0 ifs gt/\SE (kS X scope cl (im ts ix X.N) C f H3 l) W0 elt fe)
  (I2:Inv X g B j n) (T:Turn X.prog X.w X.K S Jt l it tn) (t0:tn 0 n.heap) (f2:∀ b∈l,f_ X g j b) (c2:Cf X F ρ W B j) (Q:Walk X Jt ds F j)
  (ec:cz u gt fe ds (cL ts.length ix ρ) W=some (out,S2))
  (VN:∀ a C s',CompEnd X g B F j S2 out a C s'->Y (.ref a) C (.ok .next) s') :
  wpAny (model X.prog X.w) X.A (newList []) (λO I=>wpAny (model X.prog X.w) X.A (newFunctionEnv scope X.env.globals cl [] X.env.qual none .none (some X.env)) (λP0 M =>
   codeAny (model X.prog X.w) X.A (.compStart (.ListComp elt [⟨S,iter,ifs,0⟩] scope pos) 0 (.ref it) O { P0 with scope:=relabel scope X.env }) (Y O P0.locals) M) E I) E n:=by
 refine wpAny_newObj_type (oF ?_);dsimp only;generalize H:n.heap.objs.size=a at *
 have U:∀ b o,n.heap.get? b=some o->(n.heap.push { cls:=.type "list",dict:=none,data:=.seq ([]:List Value).toArray }).get? b=some o:=λb o e=>Heap.get?_push_of_some _ e;obtain⟨f,Oi⟩:∃ f:Shared,f={ n with heap:=n.heap.push { cls:=.type "list",dict:=none,data:=.seq ([]:List Value).toArray } }:=⟨_,rfl⟩;have r:Inv X g B j f:=by rw[Oi];exact I2.kept (t':=n.toks) U
 have s:f.heap=n.heap.push { cls:=.type "list",dict:=none,data:=.seq ([]:List Value).toArray }:=by rw[Oi]
 have Q7:f.heap.objs.size=a+1:=by rw[s,Heap.size_push,H]
 rw[← s];have ic:=JR.of (o:={ cls:=.type "dict",data:=.dict #[] }) r Sc h1 h2;have VO:(pushCells (f.heap.push { cls:=.type "dict",data:=.dict #[] }) scope.names).Ns f.heap.objs.size (λ_=>none):=(Heap.Ns.new f.heap (.type "dict")).keeps (pushCells_keeps _ _);have V:∀ b o,f.heap.get? b=some o->(pushCells (f.heap.push { cls:=.type "dict",data:=.dict #[] }) scope.names).get? b=some o:=λb o e=>pushCells_keeps _ _ b o (Heap.get?_push_of_some _ e);generalize VP:cellsFrom (f.heap.objs.size+1) scope.names cl=cl' at *
 generalize XR:pushCells (f.heap.push { cls:=.type "dict",data:=.dict #[] }) scope.names=P at *
 have a3:f.heap.get? a=some { cls:=.type "list",data:=.seq ([]:List Value).toArray }:=by rw[s,← H];exact Heap.get?_push_size _ rfl
 have fa:f_ X g j a:=I2.JM (by rw[H];exact le_refl _) (by rw[← H];exact I2.fresh);have P4:∀ b∈l,∃ o,n.heap.get? b=some o:=λb hb=>let ⟨o,e,_⟩:=T.obj 0 _ t0 b hb;⟨o,e⟩;have na:a∉l:=λhb=>by obtain⟨o,e⟩:=P4 a hb;have:=Heap.lt_size e;rw[H] at this;exact absurd this (Nat.lt_irrefl _)
 have G:∀ b∈a::l,f_ X g j b:=λb hb=>by
  rcases mem_cons.mp hb with rfl |hb
  ·exact fa
  exact f2 b hb
 have fo:∀ b∈a::l,∃ o,f.heap.get? b=some o:=λb hb=>by
  rcases mem_cons.mp hb with rfl |hb
  ·exact⟨_,a3⟩
  obtain⟨o,e⟩:=P4 b hb;exact⟨o,by rw[s];exact U b o e⟩
 have toks:∀ t,Inv (kS X scope cl' (im ts ix X.N) f.heap.objs.size f j (a::l)) [] (cL ts.length ix B) j { f with heap:=P,toks:=t }:=λt=>r.enter Sc ic Lq G fo V VO;obtain⟨sg,st,se⟩:=Nu cl' f.heap.objs.size f j (a::l)
 have fin:∀ (Iu:GK) (H':Hp) (b:Addr),b∈a::l->H' b=none->(∀ p∈Iu,p.1≠b)->f_ (kS X scope cl' (im ts ix X.N) f.heap.objs.size f j (a::l)) Iu H' b:=λIu H' b hb hn hp=>by
  refine⟨hn,?_,λz=>?_,.inl hb,λx c e=>?_,λp hq=>hp p hq⟩
  ·obtain⟨o,e⟩:=fo b hb;exact ne_of_lt (Heap.lt_size e)
  ·obtain⟨_,f1,VQ,_⟩:=G b hb;rcases mem_cons.mp (r.JX b z) with q |q
   ·exact f1 q
   exact VQ q
  rcases ic.out x c e with q |q
  ·exact(G b hb).2.2.2.2.1 x c q
  obtain⟨o,ho⟩:=fo b hb;intro z;exact Nat.lt_irrefl _ (Nat.lt_trans q.1 (z▸Heap.lt_size ho))
 have own:X.s₀.heap.objs.size<=f.heap.objs.size/\f.heap.objs.size≠X.env.locals/\(∀ x c,X.env.cells.lookup x=some c->c≠f.heap.objs.size)/\∀ p∈X.pn++g,p.1≠f.heap.objs.size:=by obtain⟨_,g1,g2,g3,g4,g5⟩:=r.JM (H':=λ_=>none) (le_refl f.heap.objs.size) rfl;exact⟨r.sz,g1,g4,g5⟩
 have c3:Cf (kS X scope cl' (im ts ix X.N) f.heap.objs.size f j (a::l)) F (cL ts.length ix ρ) W (cL ts.length ix B) j:=by
  refine⟨by unfold cL;simp,λi d h=>?_,c2.Hi⟩;unfold cL at h ⊢;by_cases Z:i<ts.length
  ·rw[getElem?_append_left (by simpa using Z),List.getElem?_replicate,if_pos Z] at h;cases h
  rw[getElem?_append_right (by simpa using Z),List.length_replicate,getElem?_map] at h ⊢;cases et:ix[i-ts.length]? with
  |none=>rw[et] at h;cases h
  |some t =>
   rw[et] at h;simp only[map_some,Option.some.injEq] at h ⊢
   have hr : ρ[t]?=some (some d):=by
    cases q : ρ[t]? with
    |none=>rw[q] at h;cases h
    |some w=>rw[q] at h;simp only[getD_some] at h;rw[h]
   obtain⟨v,e1,e2⟩:=c2.env t d hr;exact⟨v,by rw[e1];rfl,e2⟩
 have w3:Walk (kS X scope cl' (im ts ix X.N) f.heap.objs.size f j (a::l)) Jt ds F j:=⟨Q.len,Q.go,Q.LY,Q.stop⟩
 have J:∀ t,codeAny (model X.prog X.w) X.A (.compLoop (.ListComp elt [⟨S,iter,ifs,0⟩] scope pos) 0 (.ref it) (.ref a) (compEnvC scope cl' f.heap.objs.size X.env)) (Y (.ref a) f.heap.objs.size) { f with heap:=P,toks:=t }:=by
  intro t;refine rm _ (ym (R:=Y (.ref a) f.heap.objs.size) (S2:=S2) (out:=out) (X':=kS X scope cl' (im ts ix X.N) f.heap.objs.size f j (a::l)) rfl hc sg st se T w3 na Q.len fin ?_) (ds.length+1) ?_
  ·intro s' σ' H' Jx ρx ys us ep I' ex cx ha ga vs ad lz;refine VN a f.heap.objs.size s' ⟨let ⟨m,hm,_⟩:=I'.loc;⟨m,hm⟩,own,λh' k=>?_⟩;have I4:=r.leave G I' k;have R6:h'.get? a=some { cls:=.type "list",data:=.seq us.toArray ep }:=by rw[k a (by rw[Q7];exact ne_of_lt (lt_succ_self _))];exact ga
   have VR:f_ X g H' a:=⟨ha,fa.2⟩;have I5:=I4.adopt VR R6 vs lz;have hC:H' f.heap.objs.size=none:=I'.free;refine⟨Jx,H',ys,I5,ex,cx.Hi,ad,ha,lz,?_⟩;rw[aA (by rw[Q7];exact ne_of_gt (lt_succ_self _))];exact hC
  refine⟨0,_,j,F,cL ts.length ix ρ,W,[],out,[],[],0,rfl,zero_le _,toks t,?_,λb hb=>(G b hb).1,Ex.refl,c3,V a _ a3,.nil,.nil,le_refl _,by simpa using ec,rfl⟩;exact T.keep 0 _ _ t0 λb hb o e=>V b o (by rw[s];exact U b o e)
 have L:=J n.toks;have t4:tn 0 P:=T.keep 0 _ _ t0 λb hb o e=>V b o (by rw[s];exact U b o e);rw[show ({ f with heap:=P,toks:=n.toks }:Shared)={ n with heap:=P } by rw[Oi]] at L;exact codeAny_compStart_list L (T.self _ 0 _ _ _ t4 L)
def E_ (X:Cx)(scope:Scope)(ts:List Str)(ix:List Nat)(d:Expr)(ifs:List Expr)(elt:Expr)(u:D->GP->Option GP)(gt:GH Bool)(fe:GH D):Prop:=
 ∀ (cl:List (Str×Addr)) (C:Addr) (b:Shared) (a:Hp) (c:List Addr),SG (kS X scope cl (im ts ix X.N) C b a c) d u/\PX (kS X scope cl (im ts ix X.N) C b a c) W0 ifs gt/\SE (kS X scope cl (im ts ix X.N) C b a c) W0 elt fe
theorem oa {scope:Scope}{a:GK}{d:St}{H:Hp}{s:Shared}(I:Inv X a d H s)(Sc:HZ scope X.env):∃ cl,closureFor scope X.env=pure cl/\(∀ x c,cl.lookup x=some c->X.env.cells.lookup x=some c)/\(∀ y∈scope.names,y.2 = .free->∃ c,cl.lookup y.1=some c):=by obtain⟨cl,e,b,_,g⟩:=eI (env:=X.env) scope.names [] (λy h f=>I.ok.has y.1 (Sc.frees y h f)) (by simp);refine⟨cl,?_,b,g⟩;unfold closureFor;exact(congrArg (λ(m:Sem (List (Str×Addr)))=>m >>= λr=>(pure r:Sem (List (Str×Addr)))) e).trans rfl
theorem p8 {g:GH (List D)}{u:D->GP->Option GP}{gt:GH Bool}{fe:GH D}{n:Nat}{ix:List Nat}{i:St}{H:Hp}{Q:VK}(h:tE X W (eO n ix g u gt fe) i H Q) :
  iW X W g i H λj f => ∃ b ρ a S2 ds out,Cf X b ρ a i f/\Walk X j ds b f/\cz u gt fe ds (cL n ix ρ) a=some (out,S2)/\∀ d H' v,Ex b f d H'->G4 X.K d S2 H'->At X.K H' d (.lst out) v->Q v H':=by
 obtain⟨J,ρ,S,r,A,c,_,e,z⟩:=h;unfold eO at e;cases q:g ρ S with
 |none=>simp[q] at e
 |some o =>
  obtain⟨m,a⟩:=o;simp only[q] at e;cases m with
  |error x =>
   cases e;exact⟨J,ρ,S,.error x,_,c,q,z⟩
  |ok ds =>
   simp only[jC] at e;cases qc:cz u gt fe ds (cL n ix ρ) a with
   |none=>rw[qc] at e;cases e
   |some p =>
    obtain⟨out,S2⟩:=p;rw[qc] at e;cases e;exact⟨J,ρ,S,.ok ds,a,c,q,λb f j k y w=>⟨b,ρ,a,_,ds,out,c.re k y,w,qc,λd H' v t l s=>z d H' v (k.trans t) l s⟩⟩
theorem dO {d iter elt:Expr}{ifs:List Expr}{scope:Scope}{pos:Pos}{g:GH (List D)}{u:D->GP->Option GP}{gt:GH Bool}{fe:GH D}{ts:List Str}{ix:List Nat}
  (hc:X.calm=true) (Sc:HZ scope X.env) (K:∀ t∈ix,scope.names.lookup (X.N.getD t Str.empty)=some .free) (A:SI X W d iter g) (z:E_ X scope ts ix d ifs elt u gt fe)
  (O:∀ x,foldedSetIterable iter X.env x=pure x:=by intro _;rfl):SE X W (.ListComp elt [⟨d,iter,ifs,0⟩] scope pos) (eO ts.length ix g u gt fe):=by
 intro c s o H Q I h;obtain⟨cl,J,j,p⟩:=oa I Sc;rw[eval_ListComp];refine wpAny_comprehension_free (use:=none) rfl O J Sc.kind Sc.names ?_;refine Hb (A c s o H _ I (p8 h)) λv U n=>Hb n λR s2 q=>?_;obtain⟨it,S,tn,Y,Z,e,L,T,l,B,V,ρ,S1,S2,ds,out,F,M,r,fin⟩:=q;subst e;refine p_ hc Sc j p K z L T l B F M r λa C i ce=>?_;obtain⟨m,E⟩:=ce.ns;refine⟨m,E,λy sb=>?_⟩;obtain⟨P,f,k,G,i,w,_⟩:=ce.PY y λb hb=>sb.2 b hb;exact⟨.ref a,f,k,rfl,fin P f _ G i w⟩
end
section
variable {X:Cx}{W:WT}
theorem uU {f iter elt:Expr}{ifs:List Expr}{scope:Scope}{pos n g:Pos}{r:GH (List D)}{u:D->GP->Option GP}{gt:GH Bool}{fe:GH D}{ts:List Str}{ix:List Nat}{i:Nat}{y:Str}
  (O:X.N.Nodup) (hc:X.calm=true) (Sc:HZ scope X.env) (Y:∀ t∈ix,scope.names.lookup (X.N.getD t Str.empty)=some .free) (G:SI X W f iter r) (F:E_ X scope ts ix f ifs elt u gt fe)
  (U:X.N[i]?=some y:=by rfl) (hx:Loc X.env.scope y:=by first |exact Or.inl rfl |exact Or.inr rfl) (VS:swapsWith (.ListComp elt [⟨f,iter,ifs,0⟩] scope pos) (some (.Name y g)) n.line X.env=pure true:=by rfl)
  (S:X.fn y=true∨X.env.scope.names.lookup y=some .local:=by first |exact .inl rfl |exact .inr rfl |assumption)
  (hs:∀ x,foldedSetIterable iter X.env x=pure x:=by intro _;rfl):SS X W (.Assign [.Name y g] (.ListComp elt [⟨f,iter,ifs,0⟩] scope pos) n) (bv i (eO ts.length ix r u gt fe)):=by
 intro c s k H E I h;obtain⟨cl,L,h1,h2⟩:=oa I Sc;have h:=tS.G1 h;rw[exec_Assign_Name_used _ _ _ _ VS];refine wpAny_bind (wpAny_standAt (wpAny_bind ?_));show wpAny _ X.A (do let _ ← comprehension (.ListComp elt [⟨f,iter,ifs,0⟩] scope pos) scope X.env _ (newList []) false (eval iter X.env) (some (assign (.Name y g) X.env))) _ _ s;refine wpAny_bind (wpAny_mono (wpAny_comprehension_free (use:=some (assign (.Name y g) X.env)) (Q:=λ_ d=>SP X c E .next d) rfl hs L Sc.kind Sc.names ?_) (λ_ d K=>wpAny_pure (wpAny_pure K)) λ_ _ e=>e);refine Hb (G c s k H _ I (p8 h)) λv s1 w=>Hb w λQV s2 P=>?_;obtain⟨it,fp,tn,Jt,H2,e,Z,T,t0,f2,J0,ρ,S1,S2,ds,out,c2,wk,ec,fin⟩:=P;subst e;refine p_ hc Sc h1 h2 Y F Z T t0 f2 c2 wk ec λa C d ce=>?_;obtain⟨m,J⟩:=ce.ns;obtain⟨o1,o2,l,o4⟩:=ce.own;obtain⟨M,j,I',x',GX,m',V⟩:=ce.PY d.heap λ_ _=>rfl;have VT:Inv X c k j d:=I';have q:=fin M j _ x' GX m';show wpAny _ X.A (assign (.Name y g) X.env (.ref a)) _ _ d;refine wpAny_assign_Name (o8 VT O U hx (v:=.ref a) rfl (λp B Zq=>?_) S);obtain⟨ad,sb,hd⟩:=Zq
 have VU:C≠ad:=by
  rcases hd with z |z
  ·rw[z];exact o2
  exact(l y ad z).symm
 refine⟨m,J.sameBut sb VU,λR VV=>?_⟩;have I4:Inv X c (k.set i (some (.ref a))) j { p with heap:=R }:=B.turned (t':=p.toks) (it:=C) (λb o hb e=>(VV.2 b hb).trans e) V o2 (.inr o1) l o4;obtain⟨Jq,ρq,Sq,dq,rq,XS,cq,mq,eq,zq⟩:=q;cases eq;exact⟨_,j,I4,zq Jq _ j Ex.refl (cq.set mq)⟩
def P6 (K:GI)(F:GN):Sp:=λf H Q _ => ∃ J S c d e,GU K H J c f/\G4 K J S H/\F c S=some (.ok d,e)/\∀ b a v,Ex J H b a->G4 K b e a->At K a b d v->Q v a
def My (P:Program)(w:World)(K:GI)(mg:GL)(base:Heap)(k:Nat)(f:Addr)(fd:FuncData)(a:List Str)(F:GN):Prop:=
 IP P w K mg base L0 k f fd a (P6 K F)
def jn (m:Out D):Out D:=match m with
 |some (.ok d,S)=>some (.ok d,S)
 |_=>none
def aS (F:GN)(t:GH (List D)):GH D:=λc S=>ah (t c S) λa b=>jn (F a b)
variable {x:Str}{p pos:Pos}{e:Expr}{es:List Expr}{gs:GH (List D)}
theorem z_ {F:GN}{b:St}{H:Hp}{Q:VK}{i:XK}(h:tE X W (aS F gs) b H Q):B1 (P6 X.K F) [] i (tA X W gs) b H Q:=
 (tG.Jb h).mono λu t o=>by
  obtain⟨f,s,a⟩:=o
  rw[append_nil,append_nil] at a;obtain⟨J,x,S,r,l,c,m,e,z⟩:=a;have e:jn (F f S)=some (r,l):=e;unfold jn at e;split at e
  ·rename_i d w q;cases e;exact⟨J,S,f,d,_,by rw[append_nil];exact m,c.Hi,q,λp g v n j k=>z p g v n j k⟩
  cases e
theorem AU {k:Nat}{f:Addr}{fd:FuncData}{a:List Str}{F:GN}(G:My X.prog X.w X.K X.mg X.base k f fd a F)(hr:Hg k X.A)(j:X.mg x=some (.ref f))(c:PySem.W.keepIn X.K (.ref f)=true)(hb:Binds X.K fd a [])
  (l:SA X W (e::es) gs) (i:Gl X x:=by rfl) (g:(x==("__debug__":Str))=false:=by decide) (d:starEach (e::es) X.env=(false,eval e X.env)::starEach es X.env:=by rfl) (b:(backTo pos (starEach es X.env)).any (·.1)=false:=by rfl) :
  SE X W (.Call (.Name x p) (e::es) [] pos) (aS F gs):=
 PE.imp (Bc (E:=E0) G hr i j c hb .nil zk l g d b) λm H Q h=>z_ h
end
section
variable {X:Cx}{W:WT}
def Q8 (x:Str):It:=⟨λi _=>i<x.cps.size,λi H v a=>a=H/\∃ c,x.cps[i]?=some c/\v = .str ⟨#[c]⟩,λi _=>x.cps.size<=i⟩
theorem rZ {P:Program}{w:World}{K:GI}{O:Expr}{it:Addr}{x:Str}{St:Nat->Heap->Prop}
  (M:∀ (A:Around) (i:Nat) (s:Shared) (Q:GJ) (E:GJ),St i s.heap->Q (.ref it) s->wpAny (model P w) A (pyIter (.ref it)) Q E s) (t:∀ J:Around,J.handled=none->Walks P w J it [it] [it] x.cps.size (SignAt x) St) (D:∀ i h,St i h->∃ o n vs,h.get? it=some o/\o.cls = .type n/\o.data = .fields vs/\["enumerate","zip","dict_itemiterator","dict_reverseitemiterator","odict_iterator","itertools.zip_longest","itertools.pairwise"].contains n=false) :
  Turn P w K O (Q8 x) [it] it (λi h=>i<=x.cps.size/\St i h) where
 mem:=by simp
 obj:=λi h st b hb=>by
  have e:b=it:=by simpa using hb
  subst e;obtain⟨o,n,vs,e,_,d,_⟩:=D i h st.2;exact⟨o,e,λv z=>by rw[d] at z;cases z⟩
 keep:=λi h f st k=>⟨st.1,(t callerA rfl).frame i h f st.2 λb hb o e=>k b hb o e⟩
 item:=by
  intro X l r p hc i a s F H E I g st j;subst l r p;obtain⟨m,B,T,q,C,y⟩:=g it (by simp);refine(t X.A (I.ok.hd hc)).item i s _ _ j st.2 λv f tk U G k=>?_;obtain⟨c,u,N,ev⟩:=U;subst ev;have V:Inv X a F H { s with heap:=f,toks:=tk }:=I.turned (t':=tk) (λb o hb e=>k b o (by simpa using hb) e) m B q C y;obtain⟨o,n,vs,e,S,d,R⟩:=D _ _ G;exact⟨_,rfl,wJ (s:={ s with heap:=f,toks:=tk }) e S d R ⟨.str ⟨#[c]⟩,H,V,⟨u,rfl⟩,⟨rfl,c,N,rfl⟩,⟨j,G⟩,λb hb=>(g b hb).1⟩⟩
 done:=by
  intro X l r p hc i a s F H E I g st j;subst l r p;obtain⟨m,B,T,q,C,y⟩:=g it (by simp);have L:i=x.cps.size:=Nat.le_antisymm st.1 j;subst L;exact(t X.A (I.ok.hd hc)).done s _ _ st.2 λf tk k=>⟨rfl,I.turned (t':=tk) (λb o hb e=>k b o (by simpa using hb) e) m B q C y⟩
 self:=λA i s Q E st h=>M A i s Q E st.2 h
theorem Walk.str {x:Str}{J:List Addr}{H:Hp}(ok:NL x):Walk X (Q8 x) (x.cps.toList.map λc=>D.str ⟨#[c]⟩) J H where
 len:=by rw[length_map,length_toList];exact ok.1
 go:=λd e i _ a=>by rw[length_map,length_toList] at a;exact a
 LY:=λd e i v g _ h a y=>by
  obtain⟨rfl,c,f,rfl⟩:=y;rw[length_map,length_toList] at a;have b:x.cps.toList[i]?=some c:=by simpa using f
  refine⟨.str ⟨#[c]⟩,by rw[getElem?_map,b];rfl,At.G2.mpr ⟨rfl,by show 1<=sizeLine;decide,mU (l:=[c]) λj m=>?_⟩,G5.refl _⟩;rw[mem_singleton.mp m];exact kF ok.2 (mem_of_getElem? b)
 stop:=λd e i _ a=>by rw[length_map,length_toList] at a;exact a
def Cs:D->Option (List D)
 | .str x=>some (x.cps.toList.map λc=>D.str ⟨#[c]⟩)
 |_=>none
def Ak (f:GH D):GH (List D):=λb S=>ah (f b S) λd a=>aM (Cs d) a
variable {e:Expr}{fe:GH D}{pos:Pos}
theorem Cu {w:Expr}(r:SE X W e fe):SI X W w e (Ak fe):=by
 intro c s p H R I h;refine Hb (r c s p H _ I (qV h)) λv a C=>?_;obtain⟨y,f,g,B,J,S,d,F,so,m,n,z⟩:=C;cases d with
 |str x =>
  cases n;obtain⟨D,ok⟩:=At.G2.mp m;subst D;obtain⟨t,rfl⟩:=B
  have l:∀ b∈[a.heap.objs.size],f_ X c f b:=λb hb=>by
   have e:b=a.heap.objs.size:=by simpa using hb
   subst e;exact g.JM (le_refl _) g.fresh
  cases ha:x.cps.all (·<128)
  ·refine wpAny_pyIter_wide ha ?_;refine⟨a.heap.objs.size,[a.heap.objs.size],_,Q8 x,f,rfl,g.kept (t':=a.toks) λb o e=>Heap.get?_push_of_some _ e,rZ (St:=λi h=>h.IsStrIter a.heap.objs.size "str_iterator" x t i) (λA i s Q E st q=>wpAny_pyIter_striter_wide st q) (λu j=>Walks.strWide j _ x t) (λi h st=>?_),⟨zero_le _,_,Heap.get?_push_size _ rfl,rfl,rfl⟩,l,z f _ (G5.refl _) (Walk.str ok)⟩;obtain⟨o,k,hc,hd⟩:=st;exact⟨o,_,_,k,hc,hd,by decide⟩
  refine wpAny_pyIter_ascii ha ?_;refine⟨a.heap.objs.size,[a.heap.objs.size],_,Q8 x,f,rfl,g.kept (t':=a.toks) λb o e=>Heap.get?_push_of_some _ e,rZ (St:=λi h=>h.IsStrIter a.heap.objs.size "str_ascii_iterator" x t i) (λA i s Q E st q=>wpAny_pyIter_striter_ascii st q) (λu j=>Walks.strAscii j _ x t) (λi h st=>?_),⟨zero_le _,_,Heap.get?_push_size _ rfl,rfl,rfl⟩,l,z f _ (G5.refl _) (Walk.str ok)⟩;obtain⟨o,k,hc,hd⟩:=st;exact⟨o,_,_,k,hc,hd,by decide⟩
 |_=>cases n
theorem jV {prog:Program}{w:World}{A:Around}{E:GJ}{s:Shared}{it l:Addr}{i:Nat}{items}{x:Value}{Q:GJ}(a:s.heap.IsTupleIter it l i)
  (c:s.heap.IsTuple l items) (e:items[i]?=some x)
  (g:∀ h',h'.IsTupleIter it l (i+1)->Heap.SameBut it s.heap h'->Q x { s with heap:=h' }) :
  wpAny (model prog w) A (Builtin.SmallTypes.nextOf (.ref it)) Q E s:=by
 obtain⟨o,b,hc,hd⟩:=id a;obtain⟨h,f,_,j,d⟩:=c;unfold Builtin.SmallTypes.nextOf
 refine wpAny_bind (wpAny_callSpecial?_slot (name:=Str.ofString "__next__") a.typeIs F.slot_tuple_iterator_next
  (wpAny_call_entry F.slot_tuple_iterator_next a.typeIs F.entry_tuple_iterator_next ?_ (F.args_tuple_iterator_next_1 _)))
 show wpAny _ _ (field (.ref it) 0 >>= _) _ _ s;refine wpAny_bind (wpAny_field b hd (x:=.ref l) rfl ?_);show wpAny _ _ (if (Value.ref l==Value.none)=true then _ else _) _ _ s;rw[if_neg (show ¬ ((Value.ref l==Value.none)=true) from Bool.false_ne_true)];show wpAny _ _ (field (.ref it) 1 >>= _) _ _ s;refine wpAny_bind (wpAny_field b hd (x:=.int i 0) rfl ?_);show wpAny _ _ (seqItems? (.ref l) >>= _) _ _ s;refine wpAny_bind (wpAny_seqItems f d ?_);simp only[Int.toNat_natCast,e];refine wpAny_bind (wpAny_setField b hd (by simp) (wpAny_pure ⟨x,rfl,wpAny_pure (g _ ?_ (Heap.SameBut.update ..))⟩))
 exact⟨_,Heap.get?_update_self _ b (Obj.isFreed_of_fields (Obj.data_mapFields hd _)),(Obj.cls_mapFields ..).trans hc,by
  rw[Obj.data_mapFields hd];simp[rawInt]⟩
theorem gv {prog:Program}{w:World}{A:Around}{E:GJ}{s:Shared}{it l:Addr}{i:Nat}{items}{Q:GJ}(d:A.handled=none)
  (b:s.heap.IsTupleIter it l i) (f:s.heap.IsTuple l items) (h:items[i]?=none)
  (j:∀ h' e,Heap.ExtBut it s.heap h'->(∃ o,h'.get? e=some o/\o.cls = .type "StopIteration")->E (.ref e) { s with heap:=h' }) :
  wpAny (model prog w) A (Builtin.SmallTypes.nextOf (.ref it)) Q E s:=by
 obtain⟨o,c,hc,hd⟩:=id b;obtain⟨n,k,_,p,g⟩:=f;unfold Builtin.SmallTypes.nextOf
 refine wpAny_bind (wpAny_callSpecial?_slot (name:=Str.ofString "__next__") b.typeIs F.slot_tuple_iterator_next
  (wpAny_call_entry F.slot_tuple_iterator_next b.typeIs F.entry_tuple_iterator_next ?_ (F.args_tuple_iterator_next_1 _)))
 show wpAny _ _ (field (.ref it) 0 >>= _) _ _ s;refine wpAny_bind (wpAny_field c hd (x:=.ref l) rfl ?_);show wpAny _ _ (if (Value.ref l==Value.none)=true then _ else _) _ _ s;rw[if_neg (show ¬ ((Value.ref l==Value.none)=true) from Bool.false_ne_true)];show wpAny _ _ (field (.ref it) 1 >>= _) _ _ s;refine wpAny_bind (wpAny_field c hd (x:=.int i 0) rfl ?_);show wpAny _ _ (seqItems? (.ref l) >>= _) _ _ s;refine wpAny_bind (wpAny_seqItems k g ?_);simp only[Int.toNat_natCast,h];refine wpAny_bind (wpAny_rule (wpAny_bind (wpAny_setField c hd (by simp) ?_)));show wpAny _ _ (newExc (.type "StopIteration") [] >>= _) _ _ _;refine wpAny_bind ?_;simp only[newExc,newTuple];refine wpAny_bind (wpAny_newObj_type ?_ (by size_fits));refine wpAny_bind (m:=firstArgMember _ _) (wpAny_of_eq (a:=Value.none) (by first |rfl |(simp only[firstArgMember];rfl)) ?_);refine wpAny_newObj_type ?_ (by size_fits);simp only[raiseNew];refine wpAny_bind (wpAny_handled ?_)
 first |rw[show A.in1.handled=none from d] |rw[d]
 refine wpAny_bind (wpAny_pure (wpAny_throw ?_));exact j _ _ (((Heap.SameBut.update ..).extBut.push _).push _) ⟨_,Heap.get?_push_size _ rfl,rfl⟩
theorem Draws.tup {prog:Program}{w:World}{A:Around}(g:A.handled=none)(it l:Addr)(f:l≠it)(items:Array Value) :
  Draws prog w A it [it,l] items.size (λi v=>items[i]?=some v) (λi h=>h.IsTupleIter it l i/\h.IsTuple l items) where
 live:=λ_ _ st=>let ⟨o,a,_⟩:=st.1;⟨o,a⟩
 frame:=λ_ _ _ st b=>⟨let ⟨o,a,r⟩:=st.1;⟨o,b it (by simp) o a,r⟩,let ⟨o,a,r⟩:=st.2;⟨o,b l (by simp) o a,r⟩⟩
 item:=λi s Q E c st m=>by
  refine jV st.1 st.2 (x:=items[i]) (by simp[c]) λe j d=>?_;exact m _ e s.toks (by simp[c]) ⟨j,st.2.extBut d.extBut f⟩ d
 done:=λs Q E st k=>gv g st.1 st.2 (by simp) k
theorem nH (l:Addr)(items:Array Value)(n:Nat)(f:Option Addr)(e:Array (Option Value)) :
  Meets (Builtin.«enumerate.__new__» ⟨[.type "enumerate",.ref l],[]⟩) (λ_ R s=>s.heap.get? l=some { cls:=.type "tuple",dict:=f,data:=.seq items n,slots:=e } /\
   R (.ok (.ret (.ref (s.heap.push { cls:=.type "tuple_iterator",data:=.fields #[.ref l,.int 0 0] }).objs.size)))
    { s with heap:=(s.heap.push { cls:=.type "tuple_iterator",data:=.fields #[.ref l,.int 0 0] }).push { cls:=.type "enumerate",data:=.fields #[.none,.bool false,.ref s.heap.objs.size,rawInt 0,.none,.none] } }):=
 .of_wp λprog w A R s h=>by
  obtain⟨i,g,d,tk,os⟩:=s;obtain⟨a,h⟩:=h;have j:=sub_enumerate;have b:Heap.IsTuple (Shared.heap ⟨i,g,d,tk,os⟩) l items:=⟨_,a,rfl,n,rfl⟩
  wp_walk using AutoSeq1.wpAny_loadPart' a
  refine wpAny_stack_any λst=>wpAny_pure ?_;split
  ·rename_i c _ _ _ _ _;cases (c==Value.type "enumerate")
   ·wp_walk using AutoSeq1.wpAny_loadPart' a,wpAny_pyIter_tuple b
    exact⟨_,rfl,h⟩
   wp_walk using AutoSeq1.wpAny_loadPart' a,wpAny_pyIter_tuple b
   exact⟨_,rfl,h⟩
  wp_walk using AutoSeq1.wpAny_loadPart' a,wpAny_pyIter_tuple b
  exact⟨_,rfl,h⟩
theorem oN {prog:Program}{w:World}{A:Around}{E:GJ}{s:Shared}{l:Addr}{items:Array Value}{Q:GJ}(i:IsTup s.heap l items)
  (h:∀ h',IsEnum h' (s.heap.objs.size+1) s.heap.objs.size 0 .none->h'.IsTupleIter s.heap.objs.size l 0->h'.objs.size=s.heap.objs.size+2 ->
   (∀ b o,s.heap.get? b=some o->h'.get? b=some o)->Q (.ref (s.heap.objs.size+1)) { s with heap:=h' }) :
  wpAny (model prog w) A (call (.type "enumerate") [.ref l]) Q E s:=by
 obtain⟨⟨c,g,dt,f⟩,e,hc,n,hd⟩:=i
 replace hc:c = .type "tuple":=hc
 replace hd:dt = .seq items n:=hd
 subst hc hd
 refine callType_new F.called_enumerate (by decide) (F.typeCall_enumerate_1 _) (F.newCall_enumerate_1 _) (λobj=>F.args_object_init_2 obj _) F.entry_enumerate_new
  (nH l items n g f) ⟨e,?_⟩
 have a:(s.heap.push { cls:=.type "tuple_iterator",data:=.fields #[.ref l,.int 0 0] }).objs.size=s.heap.objs.size+1:=Heap.size_push ..;show _/\_;rw[a]
 have d:IsEnum ((s.heap.push { cls:=.type "tuple_iterator",data:=.fields #[.ref l,.int 0 0] }).push
   { cls:=.type "enumerate",data:=.fields #[.none,.bool false,.ref s.heap.objs.size,rawInt 0,.none,.none] }) (s.heap.objs.size+1) s.heap.objs.size 0 .none:=by
  have:=Heap.get?_push_size (s.heap.push { cls:=.type "tuple_iterator",data:=.fields #[.ref l,.int 0 0] })
   (o:={ cls:=.type "enumerate",data:=.fields #[.none,.bool false,.ref s.heap.objs.size,rawInt 0,.none,.none] }) rfl
  rw[a] at this;exact this
 refine⟨⟨_,d,rfl⟩,h _ d ⟨_,Heap.get?_push_of_some _ (Heap.get?_push_size _ rfl),rfl,rfl⟩ (by rw[Heap.size_push,a]) λb o x=>Heap.get?_push_of_some _ (Heap.get?_push_of_some _ x)⟩
theorem je {prog:Program}{w:World}{A:Around}{E:GJ}{s:Shared}{e it l:Addr}{i:Nat}{items:Array Value}{old:Value}{Q:Option Value->Shared->Prop}(k:A.handled=none)
  (c:IsEnum s.heap e it i old) (a:s.heap.IsTupleIter it l i) (g:s.heap.IsTuple l items) (j:items[i]?=none)
  (m:∀ h',Heap.ExtBut it s.heap h'->Q none { s with heap:=h' }):wpAny (model prog w) A (pyNext (.ref e)) Q E s:=by
 have d:s.TypeIs (.ref e) "enumerate":=⟨_,c,rfl⟩;unfold pyNext
 refine wpAny_bind (wpAny_attempt (wpAny_callSpecial?_slot (name:=Str.ofString "__next__") d F.slot_enumerate_next
  (wpAny_call_entry F.slot_enumerate_next d F.entry_enumerate_next ?_ (F.args_enumerate_next_1 _))))
 show wpAny _ _ (field (.ref e) 2 >>= _) _ _ _;refine wpAny_bind (wpAny_field c rfl (x:=.ref it) rfl ?_);refine wpAny_bind (gv k a g j λh' x h f=>?_);obtain⟨o,n,hc⟩:=f;refine wpAny_bind (wpAny_isInstance (T:="StopIteration") (b:=true) ⟨o,n,hc⟩ isSubtype_stop ?_);exact wpAny_pure (m _ h)
def R_ (K:GI)(a:Addr):It:=
 ⟨λi H => ∃ b x,Kt K H a b/\b[i]?=some x,λi H x c => ∃ p y,H p=none/\x = .ref p/\c=upd H p (.tup [.int i,y])/\∀ b,Kt K H a b->b[i]?=some y,λi H => ∃ b,Kt K H a b/\b.length<=i⟩
theorem xf {P:Program}{w:World}{K:GI}{es:List Expr}{k:Nat}{pt:Pos}(a e it:Addr)(W:e≠it)(Sa:a≠e)(Sb:a≠it):Turn P w K (.Tuple es k pt) (R_ K a) [e,it] e (λi h=>(∃ old,IsEnum h e it i old)/\h.IsTupleIter it a i) where
 mem:=by simp
 obj:=λi h st b hb=>by
  obtain⟨⟨old,d⟩,o,l,hc,hd⟩:=st;rcases mem_cons.mp hb with rfl |hb
  ·exact⟨_,d,λv z=>by cases z⟩
  have:b=it:=by simpa using hb
  subst this;exact⟨o,l,λv z=>by rw[hd] at z;cases z⟩
 keep:=λi h h' st kp=>by
  obtain⟨⟨old,d⟩,o,l,r⟩:=st;exact⟨⟨old,kp e (by simp) _ d⟩,o,kp it (by simp) o l,r⟩
 item:=by
  intro X n S O hc i j s Z H E I D st M;subst n S O;obtain⟨C,x,B,V⟩:=M;obtain⟨its,R,p,hz⟩:=I.tuple B;obtain⟨u,Y,ru⟩:=R.get V;obtain⟨⟨old,d⟩,g⟩:=st;have H_:i<its.toArray.size:=by rw[size_toArray];exact(List.getElem?_eq_some_iff.mp Y).1
  refine wpAny_pyNext_enum_itemD (Draws.tup (A:=X.A.in1) (I.ok.hd hc) it a Sb its.toArray) d ⟨g,p⟩ H_ W (by simp[W,Ne.symm Sa]) λy h' tk n l Pa hT hsz hk=>?_
  have ey:y=u:=by
   have:its.toArray[i]?=some u:=by simpa using Y
   rw[this] at n;exact(Option.some.inj n).symm
  subst ey;refine⟨_,rfl,wpAny_letOwnedTupleGo_enum (s:={ s with heap:=h',toks:=tk+1 }) l λF Pc N=>?_⟩;have hn:H s.heap.objs.size=none:=I.fresh;obtain⟨T,P8,VY,Sd,Se,Sf⟩:=D e (by simp);obtain⟨t,G,Sh,U,L,J⟩:=D it (by simp);have kp:∀ b o,b≠e->b≠it->s.heap.get? b=some o->F.get? b=some o:=λb o h1 Mx f=>(N.2 b h1).trans (hk b o h1 Mx f);have P9:s.heap.objs.size≠e:=ne_of_gt (Heap.lt_size d);have MB:F.get? s.heap.objs.size=some { cls:=.type "tuple",data:=.seq #[.int i tk,y] }:=(N.2 _ P9).trans hT;have ne:∀ b o,H b=some o->b≠s.heap.objs.size:=λb o q=>aN q hn
  have I1:Inv X j Z (upd H s.heap.objs.size (.tup [.int i,x])) { s with heap:=F,toks:=tk+1 }:=by
   refine I.step (h':=F) (g':=s.gens) (d':=s.drawn) (t':=tk+1) (ch:=[e,it]) (λb hb=>?_) (λb o _ _ hb f _=>kp b o (λz=>hb (by simp[z])) (λz=>hb (by simp[z])) f) (λb o _ _ hb f _=>⟨o.slots,kp b o (λz=>hb (by simp[z])) (λz=>hb (by simp[z])) f⟩)
    (λb o hb f n'=>by rw[aA (ne_of_lt (Heap.lt_size f))];exact n') (λb o hb f=>⟨o,kp b o (λz=>hb (by simp[z])) (λz=>hb (by simp[z])) f⟩)
    (λb C q=>by rw[aA (ne b _ q)];exact q) (λb o C q=>by rw[aA (ne b _ q)];exact q) (λb ps q=>⟨#[],by rw[aA (ne b _ q),q];simp⟩)
    (λm hm=>?_) (λb o q=>?_) I.bare
   ·rcases mem_cons.mp hb with rfl |hb
    ·exact⟨Sd,P8,Se,Sf⟩
    have:b=it:=by simpa using hb
    subst this;exact⟨U,G,L,J⟩
   ·obtain⟨o,es,ep,l,r⟩:=hm;exact⟨o,es,ep,kp _ o (Ne.symm P8) (Ne.symm G) l,r⟩
   by_cases hb:b=s.heap.objs.size
   ·subst hb;rw[GV] at q;cases q;exact⟨by show 2<=sizeLine;decide,[.int i tk,y],.cons ⟨tk,rfl⟩ (.cons ru .nil),_,MB⟩
   rw[aA hb] at q;refine(I.Ha b o q).Ir (λc v LD z=>kp c v ?_ ?_ z) (λc z=>by rw[aA (ne c _ z)];exact z) λc C z=>by rw[aA (ne c _ z)];exact z
   ·rcases LD with z' |z'
    ·rw[z'];exact aN q T
    exact aN z' T
   rcases LD with z' |z'
   ·rw[z'];exact aN q t
   exact aN z' t
  refine⟨.ref s.heap.objs.size,_,I1,rfl,⟨_,x,hn,rfl,rfl,λys hy=>by rw[I.Ku hy B];exact V⟩,⟨⟨y,Pc⟩,Pa.1.extBut N.extBut (Ne.symm W)⟩,λb hb=>?_⟩;rcases mem_cons.mp hb with rfl |hb
  ·rw[aA (Ne.symm P9)];exact T
  have:b=it:=by simpa using hb
  subst this;obtain⟨o,KJ,_⟩:=g;rw[aA (ne_of_lt (Heap.lt_size KJ))];exact t
 done:=by
  intro X n S O hc i j s Z H E I D st M;subst n S O;obtain⟨C,B,V⟩:=M;obtain⟨its,R,p,hz⟩:=I.tuple B;obtain⟨⟨old,d⟩,g⟩:=st;obtain⟨t,G,Sh,U,L,J⟩:=D it (by simp);have hl:=R.length;exact je (I.ok.hd hc) d g p (by simp;omega) λh' eb=>⟨rfl,I.turned (t':=s.toks) (λb o hb e=>eb b o hb e) t G U L J⟩
 self:=by
  intro A i s Q E st h;obtain⟨⟨old,d⟩,_⟩:=st;exact wpAny_pyIter_enum d h
def cK (i:Nat):List D->List D
 |[]=>[]
 |d::ds => .tup [.int i,d]::cK (i+1) ds
theorem bI:∀ (ds:List D) (i:Nat),(cK i ds).length=ds.length
 |[],_=>rfl
 |d::ds,i=>by rw[cK,length_cons,length_cons,bI ds]
theorem eX:∀ (ds:List D) (i j:Nat),(cK i ds)[j]?=(ds[j]?).map λd=>D.tup [.int (i+j:Nat),d]
 |[],_,_=>by simp[cK]
 |d::ds,i,0=>by simp[cK]
 |d::ds,i,j+1=>by
  rw[cK,List.getElem?_cons_succ,eX ds (i+1) j,List.getElem?_cons_succ,show i+1+j=i+(j+1) by omega]
theorem Walk.enum {a:Addr}{ds:List D}{c:List V}{J:List Addr}{H:Hp}(t:TQ X.K H J a c)(m:GU X.K H J ds c):Walk X (R_ X.K a) (cK 0 ds) J H where
 len:=by rw[bI,m.length];exact t.len
 go:=λf g i x b=>by
  rw[bI] at b;have m1:=m.ex x;obtain⟨v,j,_⟩:=m1.get (getElem?_eq_getElem b);exact⟨c,v,(t.ex x).sq,j⟩
 LY:=λf g i v n x k b y=>by
  obtain⟨p,y,h,rfl,rfl,l⟩:=y;obtain⟨d,e,a⟩:=(m.ex x).get' (l c (t.ex x).sq);refine⟨.tup [.int i,d],by rw[eX,e];simp,At.Iy (.cons (At.GQ.mpr rfl) (.cons a .nil)) h k (by show 2<=sizeLine;decide),aP h _⟩
 stop:=λf g i x b=>by
  rw[bI] at b;exact⟨c,(t.ex x).sq,by rw[← m.length];exact b⟩
def n6:List D->Option (List D)
 |[.tup xs]=>some (cK 0 xs)
 |_=>none
theorem qH {es:List Expr}{k:Nat}{pt p:Pos}{a:Expr}{t:GH (List D)}{x:Str}(C:x="enumerate")(E:X.mg x=none)(L:SA X W [a] t)(B:Gl X x:=by rfl)
  (w:starEach (a::[]) X.env=(false,eval a X.env)::starEach [] X.env:=by rfl) (q:(backTo pos (starEach [] X.env)).any (·.1)=false:=by rfl):SI X W (.Tuple es k pt) (.Call (.Name x p) [a] [] pos) (j_ n6 t):=by
 subst C;intro c s i H R I h;refine wpAny_Call_Name_kw (kN I B E boot_enumerate ?_ (by decide) (by decide));refine callWith_type1 (Hb (L pos c s i H _ I (nv h)) λT d G=>?_) w q;obtain⟨P,g,e,F,J,S,V,Y,so,m,f,z⟩:=G;unfold n6 at f;split at f
 ·rename_i Z;cases f;obtain⟨v,r,rfl,a1,n⟩:=GU.GS.mp m;cases GU.G0.mp n;obtain⟨ad,U,rfl,o,y⟩:=At.G3.mp a1;obtain⟨u,rfl,N⟩:=vals1 F;cases N;obtain⟨its,O,pl,Q⟩:=e.tuple o.sq;have j:ad<d.heap.objs.size:=pl.lt;refine oN pl λA l it sz kp=>?_;have M:Inv X c i g { d with heap:=A }:=e.kept (t':=d.toks) kp;refine wpAny_pyIter_enum l ?_;refine⟨d.heap.objs.size+1,[d.heap.objs.size+1,d.heap.objs.size],_,R_ X.K ad,g,rfl,M,xf ad _ _ (ne_of_gt (lt_succ_self _)) (ne_of_lt (lt_succ_of_lt j)) (ne_of_lt j),⟨⟨_,l⟩,it⟩,λb hb=>?_,z g _ (G5.refl _) (Walk.enum o y)⟩;rcases mem_cons.mp hb with rfl |hb
  ·exact e.JM (le_succ _) (e.Ha.fresh (le_succ _))
  have:b=d.heap.objs.size:=by simpa using hb
  subst this;exact e.JM (le_refl _) e.fresh
 cases f
end
section
variable {X:Cx}{W:WT}
theorem AM {prog:Program}{w:World}{A:Around}{E:GJ}{s:Shared}{g:PyProof.Rows.KeyKind}(p : g.OneLt){x:Value}{Q:GJ}
  (h:wpAny (model prog w) A.in1 (collect x) (λvs d=>PyProof.Rows.KeysOf g (pairsOf vs)/\(∀ a c rest,vs=a::c::rest->keyKind' (a::c::rest).toArray=pure oneType')/\vs.length<64 /\
   ∀ (f:SortSt) h' ep,(arrOf f).Perm (pairsOf vs)->SortedToK g (arrOf f) (pairsOf vs).size->(∀ b o,d.heap.get? b=some o->h'.get? b=some o)->h'.get? d.heap.objs.size=some (seqObj "list" ((arrOf f).map (·.2)) ep) ->
    Q (.ref d.heap.objs.size) { d with heap:=h' }) E s):wpAny (model prog w) A (call (.builtin "sorted") [x]) Q E s:=by
 refine Calls.call_function_entry kind_sorted plain_sorted entry_sorted (args_sorted1 _) ?_;unfold Builtin.«sorted»;refine wpAny_bind (m:=checkCount "sorted" 1 1 _) (wpAny_pure ?_);refine wpAny_bind (Hb h λvs d r=>?_);obtain⟨k,n,j,q⟩:=r;refine wpAny_bind (wpAny_newList ?_);have i:(d.heap.push (seqObj "list" vs.toArray 0)).get? d.heap.objs.size=some (seqObj "list" vs.toArray 0):=Heap.get?_push_size _ rfl;refine wpAny_bind (wpAny_holding (wpAny_call_entry slot_list_sort ⟨_,i,rfl⟩ entry_list_sort (list_sort_treeK p i k n j λf a1 a2=>⟨_,rfl,?_⟩) (args_list_sort _)));obtain⟨ep,l⟩:=sortedHeap_at (out:=(arrOf f).map (·.2)) i
 exact wpAny_pure ⟨_,rfl,q f _ ep a1 a2 (λb o e=>by
  rw[sortedHeap_old (ne_of_lt (Heap.lt_size e)) (by rw[size_push'];exact lt_succ_of_lt (Heap.lt_size e))]
  exact Heap.get?_push_of_some _ e) l⟩
end
def Ky (a b:Str):Bool:=!J5 b a
theorem Ib {a b:Str}:Ky a b=true↔a.cps.toList<=b.cps.toList:=by unfold Ky J5;rw[Bool.not_eq_true',decide_eq_false_iff_not,List.not_lt]
theorem kM (a b c:Str)(h:Ky a b=true)(g:Ky b c=true):Ky a c=true:=Ib.mpr (List.le_trans (Ib.mp h) (Ib.mp g))
theorem pJ (a b:Str):(Ky a b ||Ky b a)=true:=by rw[or_eq_true,Ib,Ib];exact List.le_total _ _
theorem AK {a b:Str}(h:a.cps.toList=b.cps.toList):a=b:=by cases a;cases b;congr;exact Array.toList_inj.mp h
theorem tx {a b:Str}(h:Ky a b=true)(g:Ky b a=true):a=b:=AK (List.le_antisymm (Ib.mp h) (Ib.mp g))
def jO (l:List Str):List Str:=l.mergeSort Ky
theorem qE {l c:List Str}(e:c.Perm l)(d:c.Pairwise λa b=>Ky a b=true):c=jO l:=
 List.Perm.eq_of_pairwise (le:=λa b=>Ky a b=true) (λa b _ _ h g=>tx h g) d (List.pairwise_mergeSort kM pJ l) (e.trans (mergeSort_perm l Ky).symm)
theorem pairwise_of_rising:∀ (p:Str) (l:List Str),risingS p l=true->(p::l).Pairwise λa b=>Ky a b=true
 |p,[],_=>by simp
 |p,x::r,h=>by
  have c:(!ltCps x.cps.toList p.cps.toList&&risingS x r)=true:=h;rw[and_eq_true] at c;have d:Ky p x=true:=by unfold Ky J5;rw[← ltCps_eq];exact c.1
  have t:=pairwise_of_rising x r c.2;refine pairwise_cons.mpr ⟨λy hy=>?_,t⟩;rcases mem_cons.mp hy with rfl |hy
  ·exact d
  exact kM _ _ _ d ((pairwise_cons.mp t).1 y hy)
theorem jf {l:List Str}(h:sortedS l=true):l.Pairwise λa b=>Ky a b=true:=by
 cases l with
 |nil=>exact .nil
 |cons x r=>exact pairwise_of_rising x r h
def Q9 (a b:Int):Bool:=decide (a<=b)
def sortI (l:List Int):List Int:=l.mergeSort Q9
theorem qF {l d:List Int}(f:d.Perm l)(e:d.Pairwise (·<=·)):d=sortI l:=by
 refine List.Perm.eq_of_pairwise (le:=λa b=>Q9 a b=true) (λa b _ _ h g=>?_) (e.imp λh=>decide_eq_true h) (List.pairwise_mergeSort (λa b c h g=>?_) (λa b=>?_) l) (f.trans (mergeSort_perm l Q9).symm)
 ·exact Int.le_antisymm (of_decide_eq_true h) (of_decide_eq_true g)
 ·exact decide_eq_true (Int.le_trans (of_decide_eq_true h) (of_decide_eq_true g))
 unfold Q9;rw[or_eq_true,decide_eq_true_eq,decide_eq_true_eq];exact Int.le_total a b
def ft:List D->Option (List Str)
 |[]=>some []
 | .str x::r=>(ft r).map (x::·)
 |_=>none
def cb:List D->Option (List Int)
 |[]=>some []
 | .int x::r=>(cb r).map (x::·)
 |_=>none
theorem kE:∀ ss:List Str,ft (ss.map .str)=some ss
 |[]=>rfl
 |x::r=>by rw[map_cons,ft,kE r];rfl
theorem HL:∀ ss:List Int,cb (ss.map .int)=some ss
 |[]=>rfl
 |x::r=>by rw[map_cons,cb,HL r];rfl
theorem mS:∀ {ds:List D}{ss:List Str},ft ds=some ss->ds=ss.map .str
 |[],ss,e=>by cases e;rfl
 | .str x::r,ss,e=>by
  obtain⟨t,b,a⟩:=map_eq_some_iff.mp (show (ft r).map (x::·)=some ss from e);subst a;rw[mS b];rfl
 | .Hu::_,_,e=>by cases e
 | .bl _::_,_,e=>by cases e
 | .int _::_,_,e=>by cases e
 | .tup _::_,_,e=>by cases e
 | .lst _::_,_,e=>by cases e
 | .set _::_,_,e=>by cases e
 | .loc _::_,_,e=>by cases e
 | .fn _ _::_,_,e=>by cases e
theorem fD:∀ {ds:List D}{ss:List Int},cb ds=some ss->ds=ss.map .int
 |[],ss,e=>by cases e;rfl
 | .int x::r,ss,e=>by
  obtain⟨t,b,a⟩:=map_eq_some_iff.mp (show (cb r).map (x::·)=some ss from e);subst a;rw[fD b];rfl
 | .Hu::_,_,e=>by cases e
 | .bl _::_,_,e=>by cases e
 | .str _::_,_,e=>by cases e
 | .tup _::_,_,e=>by cases e
 | .lst _::_,_,e=>by cases e
 | .set _::_,_,e=>by cases e
 | .loc _::_,_,e=>by cases e
 | .fn _ _::_,_,e=>by cases e
theorem uR {a b:List D}(p:a.Perm b):∀ {sb},ft b=some sb->∃ sa,ft a=some sa/\sa.Perm sb:=by
 induction p with
 |nil=>intro sb e;exact⟨sb,e,.refl _⟩
 |cons x p k =>
  intro sb e;cases x with
  |str z =>
   obtain⟨t,c,d⟩:=map_eq_some_iff.mp (show (ft _).map (z::·)=some sb from e);subst d;obtain⟨sa,g,h⟩:=k c;exact⟨z::sa,by rw[ft,g];rfl,.cons z h⟩
  |_=>cases e
 |swap x y l =>
  intro sb e;cases x with
  |str z =>
   cases y with
   |str f =>
    obtain⟨t,c,d⟩:=map_eq_some_iff.mp (show (ft (.str f::l)).map (z::·)=some sb from e);obtain⟨i,g,h⟩:=map_eq_some_iff.mp (show (ft l).map (f::·)=some t from c);subst d h;exact⟨f::z::i,by rw[ft,ft,g];rfl,.swap z f i⟩
   |_=>cases e
  |_=>cases e
 |trans _ _ j o =>
  intro sb e;obtain⟨q,c,n⟩:=o e;obtain⟨sa,d,m⟩:=j c;exact⟨sa,d,m.trans n⟩
theorem vq {a b:List D}(p:a.Perm b):∀ {sb},cb b=some sb->∃ sa,cb a=some sa/\sa.Perm sb:=by
 induction p with
 |nil=>intro sb e;exact⟨sb,e,.refl _⟩
 |cons x p k =>
  intro sb e;cases x with
  |int z =>
   obtain⟨t,c,d⟩:=map_eq_some_iff.mp (show (cb _).map (z::·)=some sb from e);subst d;obtain⟨sa,g,h⟩:=k c;exact⟨z::sa,by rw[cb,g];rfl,.cons z h⟩
  |_=>cases e
 |swap x y l =>
  intro sb e;cases x with
  |int z =>
   cases y with
   |int f =>
    obtain⟨t,c,d⟩:=map_eq_some_iff.mp (show (cb (.int f::l)).map (z::·)=some sb from e);obtain⟨i,g,h⟩:=map_eq_some_iff.mp (show (cb l).map (f::·)=some t from c);subst d h;exact⟨f::z::i,by rw[cb,cb,g];rfl,.swap z f i⟩
   |_=>cases e
  |_=>cases e
 |trans _ _ j o =>
  intro sb e;obtain⟨q,c,n⟩:=o e;obtain⟨sa,d,m⟩:=j c;exact⟨sa,d,m.trans n⟩
section
variable {K:GI}{H:Hp}{J:List Addr}
theorem GU.strs:∀ {ss:List Str}{vs:List V}{us:List Value},GU K H J (ss.map .str) vs->Vals vs us->StrsAre us ss/\vs=ss.map V.str/\∀ x∈ss,NL x
 |[],vs,us,m,r=>by
  cases GU.G0.mp m;cases r;exact⟨.nil,rfl,by simp⟩
 |x::ss,vs,us,m,r=>by
  obtain⟨v,h,rfl,a,d⟩:=GU.GS.mp m;obtain⟨ev,ok⟩:=At.G2.mp a;subst ev;cases r with
  |cons e f =>
   obtain⟨t,rfl⟩:=e;obtain⟨c,g,b⟩:=GU.strs d f;refine⟨.cons x t c,by rw[g];rfl,λy hy=>?_⟩;rcases mem_cons.mp hy with rfl |hy
   ·exact ok
   exact b y hy
theorem GU.ofStrs:∀ {ss:List Str},(∀ x∈ss,NL x)->GU K H J (ss.map .str) (ss.map V.str)
 |[],_ => .nil
 |x::ss,h => .cons (At.G2.mpr ⟨rfl,h x (mem_cons_self ..)⟩) (GU.ofStrs λy a=>h y (mem_cons_of_mem _ a))
theorem oZ:∀ {us:List Value}{ss:List Str},StrsAre us ss->Vals (ss.map V.str) us
 |_,_,.nil => .nil
 |_,_,.cons x t h => .cons ⟨t,rfl⟩ (oZ h)
end
section
theorem yM {prog:Program}{w:World}{A:Around}{E:GJ}{s:Shared}{x:Value}{Q:GJ}
  (h:wpAny (model prog w) A.in1 (collect x) (λvs a => ∃ ns,IntsAre vs ns/\vs.length<64 /\
   ∀ (out:Array Value) (c:List Int) h' ep,IntsAre out.toList c->c.Perm ns->c.Pairwise (·<=·)->(∀ b o,a.heap.get? b=some o->h'.get? b=some o)->h'.get? a.heap.objs.size=some (seqObj "list" out ep) ->
    Q (.ref a.heap.objs.size) { a with heap:=h' }) E s):wpAny (model prog w) A (call (.builtin "sorted") [x]) Q E s:=by
 refine Calls.call_function_entry kind_sorted plain_sorted entry_sorted (args_sorted1 _) ?_;unfold Builtin.«sorted»;refine wpAny_bind (m:=checkCount "sorted" 1 1 _) (wpAny_pure ?_);refine wpAny_bind (Hb h λvs a j=>?_);obtain⟨ns,k,f,q⟩:=j;refine wpAny_bind (wpAny_newList ?_);have d:(a.heap.push (seqObj "list" vs.toArray 0)).get? a.heap.objs.size=some (seqObj "list" vs.toArray 0):=Heap.get?_push_size _ rfl;refine wpAny_bind (wpAny_holding (wpAny_call_entry slot_list_sort ⟨_,d,rfl⟩ entry_list_sort (list_sort_tree d k f λout c a1 a2 i=>⟨_,rfl,?_⟩) (args_list_sort _)));obtain⟨ep,g⟩:=sortedHeap_at (out:=out) d
 exact wpAny_pure ⟨_,rfl,q out c _ ep a1 a2 i (λb o e=>by
  rw[sortedHeap_old (ne_of_lt (Heap.lt_size e)) (by rw[size_push'];exact lt_succ_of_lt (Heap.lt_size e))]
  exact Heap.get?_push_of_some _ e) g⟩
end
section
variable {X:Cx}{W:WT}
def h_ (a:List D):Option (List D):=if a.length<64 then
  match ft a with
  |some b=>some ((jO b).map .str)
  |none=>(cb a).map λns=>(sortI ns).map .int
 else none
theorem kG {c:GK}{u:St}{H:Hp}{s:Shared}{J:List Addr}{x:Value}{ds:List D}{out:List D}{Q:VK}(S:∀ a∈J,H a≠none)(e:h_ ds=some out)(q:∀ H' v,G5 H H'->At X.K H' J (.lst out) v->Q v H')
  (O:∀ (M:List Value->Shared->Prop) (E:GJ),(∀ us vs d r,Inv X c u H d->Vals vs us->r.Perm ds->GU X.K H J r vs->M us d)->wpAny (model X.prog X.w) X.A.in1 (collect x) M E s) :
  wpAny (model X.prog X.w) X.A (call (.builtin "sorted") [x]) (EP X c u Q) X.xe s:=by
 unfold h_ at e;split at e
 ·rename_i p
  have fin:∀ {d:Shared}{i:Heap}{ep:Nat}{us':List Value}{l:List V}(g:Inv X c u H d) (k:∀ b o,d.heap.get? b=some o->i.get? b=some o) (j:i.get? d.heap.objs.size=some (seqObj "list" us'.toArray ep)) (f:Vals l us') (m:GU X.K H J out l) (y:l.length<=sizeLine),
    EP X c u Q (.ref d.heap.objs.size) { d with heap:=i }:=λ{d i ep us' l} g k j f m y =>
   ⟨.ref d.heap.objs.size,_,g.laid (t':=d.toks) (o:=.lst l) k (le_refl _) ⟨y,us',ep,f,j⟩,rfl,q _ _ (aP g.fresh _) (At.HU m g.fresh S y)⟩
  split at e
  ·rename_i n es;cases e;have B:=mS es;subst B;refine AM strKind_oneLt (O _ _ λus vs d r g f G m=>?_);have Z:∃ F,ft r=some F/\F.Perm n:=by exact uR G (kE n)
   obtain⟨F,I,h⟩:=Z;have L:=mS I;subst L;obtain⟨sa,ev,ok⟩:=GU.strs m f;have t:us.length=n.length:=by rw[← f.length,ev,length_map];exact h.length_eq
   refine⟨sa.keysOf,λN P rest e=>keyKind_strs (by rw[← e];exact sa),by rw[length_map] at p;omega,λU i ep W hs k j=>?_⟩;obtain⟨so,R,z,Y⟩:=sorted_out_str sa W hs;have C:so=jO n:=qE (z.trans h) (jf Y);subst C;have T:∀ x∈jO n,NL x:=λx hx=>ok x (z.mem_iff.mp hx);refine fin (us':=((arrOf U).map (·.2)).toList) g k (by rw[Array.toArray_toList];exact j) (oZ R) (GU.ofStrs T) ?_;rw[length_map,(z.trans h).length_eq];rw[length_map] at p;exact le_of_lt (lt_of_lt_of_le p (by decide))
  obtain⟨ns,es,eo⟩:=map_eq_some_iff.mp e;subst eo;have B:=fD es;subst B;refine yM (O _ _ λus vs d r g f G m=>?_);obtain⟨Ov,I,h⟩:=vq G (HL ns);have L:=fD I;subst L;have ev:=GU.Jr m;subst ev;have hI:=intsAre_of f;have t:us.length=ns.length:=by rw[← f.length,length_map];exact h.length_eq
  rw[length_map] at p;refine⟨Ov,hI,by omega,λout no i ep a1 a2 a3 k j=>?_⟩;have C:no=sortI ns:=qF (a2.trans h) a3;subst C;refine fin (us':=out.toList) g k (by rw[Array.toArray_toList];exact j) (kz a1) (GU.ofInts _) ?_;rw[length_map,(a2.trans h).length_eq];exact le_of_lt (lt_of_lt_of_le p (by decide))
 cases e
def yN:List D->Option D
 |[.tup xs]=>(h_ xs).map .lst
 |[.lst xs]=>(h_ xs).map .lst
 |_=>none
theorem BP:kn X (.builtin "sorted") yN:=by
 intro B s G H M K Q I r h;obtain⟨J,L,d,A,m,e,q⟩:=h;unfold yN at e;split at e
 ·rename_i z;obtain⟨out,c,f⟩:=map_eq_some_iff.mp e;subst f;obtain⟨v,w,rfl,a,n⟩:=GU.GS.mp m;cases GU.G0.mp n;obtain⟨p,j,rfl,t,i⟩:=At.G3.mp a;obtain⟨u,rfl,l⟩:=vals1 r;cases l;obtain⟨its,b,⟨o,y,hc,C,hd⟩,g⟩:=I.tuple t.sq;refine kG A c q λD E x=>wpAny_collect_seq p (.inr rfl) y hc hd (λF k=>?_) (by rw[size_toArray,← b.length];exact g);exact x _ j _ z (I.kept (t':=s.toks) k) (by simpa using b) (.refl _) i
 ·rename_i z;obtain⟨out,c,f⟩:=map_eq_some_iff.mp e;subst f;obtain⟨v,w,rfl,a,n⟩:=GU.GS.mp m;cases GU.G0.mp n;obtain⟨p,j,rfl,t,i⟩:=At.G8.mp a;obtain⟨u,rfl,l⟩:=vals1 r;cases l;obtain⟨its,b,⟨o,C,y,hc,_,hd⟩,g⟩:=I.list t.sq;refine kG A c q λD E x=>wpAny_collect_seq p (.inl rfl) y hc hd (λF k=>?_) (by rw[size_toArray,← b.length];exact g);exact x _ j _ z (I.kept (t':=s.toks) k) (by simpa using b) (.refl _) i
 cases e
end
def fx (a b:D):Bool:=decide (fQ a=fQ b)
def putD (kvs:List (D×D))(k v:D):List (D×D):=if (kvs.any λp=>fx p.1 k)=true then kvs.map (λp=>if fx p.1 k=true then (p.1,v) else p) else kvs++[(k,v)]
def getD (kvs:List (D×D))(k:D):Option D:=(kvs.find? λp=>fx p.1 k).map (·.2)
abbrev Ny (K:GI)(H:Hp)(J:List Addr):(D×D)->(Key×V)->Prop:=λp q=>(fQ p.1=some q.1/\At K H J p.1 (kV q.1))/\At K H J p.2 q.2
section
variable {K:GI}{H H':Hp}{J J':List Addr}
theorem m8 {a k:D}{x y:Key}(h:fQ a=some x)(g:fQ k=some y):fx a k=decide (x=y):=by
 unfold fx;rw[h,g];by_cases e:x=y
 ·subst e;simp
 rw[decide_eq_false e,decide_eq_false (λz=>e (Option.some.inj z))]
theorem DO {kvs:List (D×D)}{a:List (Key×V)}{k:D}{y:Key}(g:fQ k=some y)(r:Paired (Ny K H J) kvs a):(kvs.any λp=>fx p.1 k)=a.any λq=>decide (q.1=y):=by
 induction r with
 |nil=>rfl
 |cons h t b=>rw[any_cons,any_cons,b,m8 h.1.1 g]
theorem xu {kvs:List (D×D)}{a:List (Key×V)}{k v:D}{y:Key}{w:V}(g:fQ k=some y)(b:At K H J v w)(r:Paired (Ny K H J) kvs a):Paired (Ny K H J) (kvs.map λp=>if fx p.1 k=true then (p.1,v) else p) (a.map λq=>if q.1=y then (q.1,w) else q):=by
 induction r with
 |nil=>exact .nil
 | @cons p q f d h t c =>
  refine .cons ?_ c;show Ny K H J (if fx p.1 k=true then (p.1,v) else p) (if q.1=y then (q.1,w) else q);rw[m8 h.1.1 g];by_cases e:q.1=y
  ·rw[if_pos (decide_eq_true e),if_pos e];exact⟨h.1,b⟩
  rw[if_neg (by rw[decide_eq_false e];decide),if_neg e];exact h
theorem xw {k v:D}{y:Key}{w:V}(g:fQ k=some y)(e:At K H J k (kV y))(c:At K H J v w){b:List (D×D)}{a:List (Key×V)}(h:Paired (Ny K H J) b a):Paired (Ny K H J) (b++[(k,v)]) (a++[(y,w)]):=by
 induction h with
 |nil=>exact .cons ⟨⟨g,e⟩,c⟩ .nil
 |cons h t d=>exact .cons h d
theorem CL {kvs:List (D×D)}{b:List (Key×V)}{k v:D}{y:Key}{w:V}(g:fQ k=some y)(c:At K H J k (kV y))(a:At K H J v w)(r:Paired (Ny K H J) kvs b):Paired (Ny K H J) (putD kvs k v) (putK b y w):=by
 unfold putD putK;rw[DO g r];split
 ·exact xu g a r
 exact xw g c a r
theorem zT {kvs:List (D×D)}{a:List (Key×V)}{k:D}{y:Key}(g:fQ k=some y)(r:Paired (Ny K H J) kvs a) :
  (getD kvs k=none/\jJ a y=none)∨∃ d v,getD kvs k=some d/\jJ a y=some v/\At K H J d v:=by
 unfold getD jJ
 induction r with
 |nil=>exact .inl ⟨rfl,rfl⟩
 | @cons p q f c h t b =>
  rw[find?_cons,find?_cons,m8 h.1.1 g];by_cases e:q.1=y
  ·rw[decide_eq_true e];exact .inr ⟨p.2,q.2,rfl,rfl,h.2⟩
  rw[decide_eq_false e];exact b
theorem jw {α a:Type}{F : α->a->Prop}{c:List α}{b:List a}(r:Paired F c b):c.length=b.length:=Paired.length r
end
section
variable {X:Cx}{W:WT}{pos pos':Pos}{o i e:Expr}{fo fi fv:GH D}
def uk:GH D:=λ_ S=>GW (.loc S.length) (S++[.dict []])
theorem G4.push {K:GI}{J:List Addr}{S:GO}{H:Hp}{p:Addr}{o:HO}{mo:MO}(s:G4 K J S H)(e:H p=none)(j:K6 K (upd H p o) (J++[p]) mo p):G4 K (J++[p]) (S++[mo]) (upd H p o)/\Ex J H (J++[p]) (upd H p o):=by
 have x:Ex J H (J++[p]) (upd H p o):=⟨⟨[p],rfl⟩,λb u hb i=>⟨by rw[aA (aN hb e)];exact hb,λz=>by
  rcases mem_append.mp z with z |z
  ·exact i z
  exact aN hb e (by simpa using z)⟩⟩
 refine⟨⟨by rw[List.length_append,List.length_append,s.len];rfl,?_,λl a h c d=>?_⟩,x⟩
 ·rw[nodup_append];refine⟨s.nd,by simp,λa k b hb z=>?_⟩;have:b=p:=by simpa using hb
  subst this;exact s.tracked k (z▸e)
 by_cases f:l<J.length
 ·rw[getElem?_append_left f] at c;rw[getElem?_append_left (by rw[← s.len];exact f)] at d;have q:=s.at_ l a h c d;refine q.ex x ?_;rw[aA];intro z;exact q.JQ (z▸e)
 rw[getElem?_append_right (by omega)] at c;rw[getElem?_append_right (by rw[← s.len];omega)] at d;have g:l-J.length=0:=by have:=(List.getElem?_eq_some_iff.mp c).1;simp at this;omega
 rw[g] at c;rw[← s.len,g] at d;simp at c d;subst c d;exact j
theorem qK:SE X W (.Dict [] [] pos) uk:=Ms.imp λf H Q h=>by obtain⟨J,b,S,r,d,c,_,e,z⟩:=h;cases e;intro p a;have q:=c.Hi.push (o:=.dK []) (mo:=.dict []) a ⟨[],GV,.nil⟩;refine z (J++[p]) _ _ q.2 q.1 (At.G7.mpr ⟨p,rfl,?_⟩);rw[← c.Hi.len,getElem?_append_right (le_refl _)];simp
theorem G4.update {K:GI}{J:List Addr}{S:GO}{H:Hp}{l:Nat}{a:Addr}{o:HO}{mo:MO}(s:G4 K J S H)(d:J[l]?=some a)(n:∀ g H',Ex J H g H'->H'=upd H a o->g=J->K6 K H' g mo a):G4 K J (S.set l mo) (upd H a o)/\Ex J H J (upd H a o):=by
 have m:a∈J:=mem_of_getElem? d;have x:Ex J H J (upd H a o):=⟨prefix_refl _,λb u hb h=>⟨by rw[aA (λz:b=a=>h (by rw[z];exact m))];exact hb,h⟩⟩;refine⟨⟨by rw[length_set];exact s.len,s.nd,λj b i c e=>?_⟩,x⟩;by_cases f:j=l
 ·subst f;rw[d] at c;cases c;have k:j<S.length:=by rw[← s.len];exact(List.getElem?_eq_some_iff.mp d).1
  rw[getElem?_set_self k] at e;cases e;exact n J _ x rfl rfl
 rw[getElem?_set_ne (Ne.symm f)] at e;refine(s.at_ j b i c e).ex x ?_;rw[aA];intro z;subst z;exact f ((List.getElem?_inj (List.getElem?_eq_some_iff.mp c).1 s.nd).mp (c.trans d.symm))
def sF (x k v:D)(ρ:GP)(S:GO):Out Fl:=match x with
 | .loc l=>match S[l]?,fQ k with
  |some (.dict kvs),some _=>if kvs.length<sizeLine then GW (.next ρ) (S.set l (.dict (putD kvs k v))) else none
  |_,_=>none
 |_=>none
def vN (fo fi fv:GH D):GH Fl:=λa S=>ah (fv a S) λv c=>ah (fo a c) λx d=>ah (fi a d) λk b=>sF x k v a b
def tH (X:Cx)(W:WT)(ds:List D)(vs:List V)(g:GH Fl):TS:=λE c H => ∃ J a S r b,Cf X J a S c H/\GU X.K H J ds vs/\g a S=some (r,b)/\Js X W J H r b E
theorem tH.G1 {g:GH D}{k:D->GH Fl}{ds:List D}{vs:List V}{E:Ends}{f:St}{H:Hp}
  (h:tH X W ds vs (λρ S=>ah (g ρ S) λd b=>k d ρ b) E f H):tE X W g f H λv i => ∃ d,tH X W (d::ds) (v::vs) (k d) E f i:=by
 obtain⟨J,ρ,S,r,p,c,a,e,z⟩:=h;cases q:g ρ S with
 |none=>simp[q] at e
 |some o =>
  obtain⟨n,b⟩:=o;simp only[q] at e;cases n with
  |error x =>
   cases e;exact⟨J,ρ,S,.error x,_,c,.nil,q,z⟩
  |ok d=>exact⟨J,ρ,S,.ok d,b,c,.nil,q,λj i v x l m=>⟨d,j,ρ,b,r,p,c.re x l,.cons m (a.ex x),e,z.ex x⟩⟩
theorem zP {k:D}{y:Key}{K:GI}{H:Hp}{J:List Addr}{v:V}(g:fQ k=some y)(a:At K H J k v):v=kV y:=by
 cases k with
 |int i=>cases g;exact At.GQ.mp a
 |str x=>cases g;exact(At.G2.mp a).1
 |_=>cases g
theorem uV (G:X.A.units+1<cLine)(R:SE X W o fo)(M:SE X W i fi)(C:SE X W e fv)(Q:swapsWith e (some (.Subscript o i pos')) pos.line X.env=pure false:=by rfl):SS X W (.Assign [.Subscript o i pos'] e pos) (vN fo fi fv):=
 (A2 G R M C Q).imp λE g H h=>by
  have h:tH X W [] [] (vN fo fi fv) E g H:=let ⟨J,t,S,r,n,c,e,z⟩:=h;⟨J,t,S,r,n,c,.nil,e,z⟩;refine(tH.G1 h).mono λv Y ⟨w,u⟩=>(tH.G1 u).mono λx H2 ⟨N,D⟩=>(tH.G1 D).mono λy Z ⟨I,L⟩=>?_;obtain⟨J,t,S,r,n,c,m,e,z⟩:=L;obtain⟨mk,m⟩:=m.GY;obtain⟨U,m⟩:=m.GY;obtain⟨mv,_⟩:=m.GY;unfold sF at e;cases N with
  |loc l =>
   simp only at e;split at e
   ·rename_i d P es j;split at e
    ·rename_i lt;cases e;obtain⟨a,rfl,s⟩:=At.G7.mp U;obtain⟨K,F,f⟩:=c.Hi.at_ l a _ s es;have T:=zP j mk;subst T;have q:=c.Hi.update (o:=.dK (putK K P v)) (mo:=.dict (putD d I w)) s λJ' V b B O=>by subst B O;refine⟨_,GV,CL j (mk.ex b) (mv.ex b) ?_⟩;exact Paired.JJ f λp q z=>⟨⟨z.1.1,z.1.2.ex b⟩,z.2.ex b⟩
     exact⟨a,_,rfl,Mr.k F (by rw[← jw f];exact lt),z J g _ q.2 (c.re q.2 q.1)⟩
    cases e
   cases e
  |_=>cases e
def BL (neg:Bool)(k x:D)(S:GO):Option D:=match x with
 | .loc l=>match S[l]?,fQ k with
  |some (.dict kvs),some _=>some (.bl (if neg then !(getD kvs k).isSome else (getD kvs k).isSome))
  |_,_=>none
 |_=>none
def yq (neg:Bool)(d fd:GH D):GH D:=λb S=>ah (d b S) λk c=>ah (fd b c) λx a=>aM (BL neg k x a) a
theorem n8 {neg:Bool}{f:St}{H:Hp}{Q:VK}(h:tE X W (yq neg fi fo) f H Q):tE X W fi f H λy j=>tE X W fo f j λx b => ∃ a o,x = .ref a/\JN b a y o/\Q (.bl (if neg then !o.isSome else o.isSome)) b:=
 (tG.G1 h).mono λy j ⟨F,p⟩=>(tG.G1 p).mono λx b B=>by
  obtain⟨A,t⟩:=B
  obtain⟨J,L,S,r,G,c,m,e,z⟩:=t;obtain⟨E,m⟩:=m.GY;obtain⟨mk,_⟩:=m.GY;unfold BL at e;cases A with
  |loc l =>
   simp only at e;split at e
   ·rename_i u K es n;cases e;obtain⟨a,rfl,C⟩:=At.G7.mp E;obtain⟨I,w,s⟩:=c.Hi.at_ l a _ C es;have D:=zP n mk;subst D;refine⟨a,_,rfl,JN.k w,?_⟩;have q:=z J b _ Ex.refl c.Hi (At.G_.mpr rfl);rcases zT n s with ⟨i,g⟩ |⟨d,v,i,g,_⟩
    ·rw[i] at q;rw[g];exact q
    rw[i] at q;rw[g];exact q
   cases e
  |_=>cases e
theorem Cz (b:X.A.units+1<cLine)(a:SE X W i fi)(d:SE X W o fo)(c:behindInMarks .In o=false:=by with_unfolding_all rfl):SE X W (.Compare i [.In] [o] pos) (yq false fi fo):=
 (C7 (zj b a d) c).imp λe H Q h=>n8 (neg:=false) h
theorem Cm (b:X.A.units+1<cLine)(a:SE X W i fi)(d:SE X W o fo)(c:behindInMarks .In o=false:=by with_unfolding_all rfl):Jz X W (.Compare i [.In] [o] pos) (aT (yq false fi fo)):=
 (u5 (zj b a d) c).imp λe H Q h=>Ii.mono (t:=D7 (tE X W fi) (tE X W fo)) (λ_ _ _=>n8 (neg:=false)) (fm h)
theorem xg (b:X.A.units+1<cLine)(a:SE X W i fi)(d:SE X W o fo)(c:behindInMarks .NotIn o=false:=by with_unfolding_all rfl):Jz X W (.Compare i [.NotIn] [o] pos) (aT (yq true fi fo)):=
 (u5 (xD b a d) c).imp λe H Q h=>Ii.mono (t:=wa (tE X W fi) (tE X W fo)) (λ_ _ _=>n8 (neg:=true)) (fm h)
def wP (x k:D)(S:GO):Option D:=match x with
 | .loc l=>match S[l]?,fQ k with
  |some (.dict kvs),some _=>getD kvs k
  |_,_=>none
 |_=>none
def EZ (fd d:GH D):GH D:=λb S=>ah (fd b S) λx c=>ah (d b c) λk a=>aM (wP x k a) a
theorem AS (u:X.A.units+1<cLine)(G:SE X W o fo)(B:SE X W i fi)(F:yu i):SE X W (.Subscript o i pos) (EZ fo fi):=(Ba u G B F).imp λM H Q h =>
 (tG.G1 h).mono λx L ⟨C,j⟩=>(tG.G1 j).mono λy w D=>by
  obtain⟨N,q⟩:=D
  obtain⟨J,T,S,r,O,c,m,e,z⟩:=q;obtain⟨mk,m⟩:=m.GY;obtain⟨K,_⟩:=m.GY;unfold wP at e;cases C with
  |loc l =>
   simp only at e;split at e
   ·rename_i s R es f;obtain⟨a,rfl,E⟩:=At.G7.mp K;obtain⟨P,t,p⟩:=c.Hi.at_ l a _ E es;have I:=zP f mk;subst I;rcases zT f p with ⟨b,g⟩ |⟨d,v,b,g,n⟩
    ·rw[b] at e;cases e
    rw[b] at e;cases e;exact⟨a,v,rfl,by rw[← g];exact JN.k t,z J w _ Ex.refl c.Hi n⟩
   cases e
  |_=>cases e
end
section
variable {X:Cx}{W:WT}
theorem SE.either {e:Expr}{g g1 g2:GH D}(i:SE X W e g1)(j:SE X W e g2)(h:∀ ρ S,g ρ S=g1 ρ S∨g ρ S=g2 ρ S):SE X W e g:=λb s d H Q I z=>by
 obtain⟨J,ρ,S,r,f,c,a,e,y⟩:=z;rcases h ρ S with q |q
 ·exact i b s d H Q I ⟨J,ρ,S,r,f,c,a,by rw[← q];exact e,y⟩
 exact j b s d H Q I ⟨J,ρ,S,r,f,c,a,by rw[← q];exact e,y⟩
theorem Jz.either {e:Expr}{g g1 g2:GH Bool}(i:Jz X W e g1)(j:Jz X W e g2)(h:∀ ρ S,g ρ S=g1 ρ S∨g ρ S=g2 ρ S):Jz X W e g:=λb s d H Q I z=>by
 obtain⟨J,ρ,S,r,f,c,a,e,y⟩:=z;rcases h ρ S with q |q
 ·exact i b s d H Q I ⟨J,ρ,S,r,f,c,a,by rw[← q];exact e,y⟩
 exact j b s d H Q I ⟨J,ρ,S,r,f,c,a,by rw[← q];exact e,y⟩
theorem SI.either {b e:Expr}{g g1 g2:GH (List D)}(i:SI X W b e g1)(j:SI X W b e g2)(h:∀ ρ S,g ρ S=g1 ρ S∨g ρ S=g2 ρ S):SI X W b e g:=λa s d H R I z=>by
 obtain⟨J,ρ,S,r,f,c,e,y⟩:=z;rcases h ρ S with q |q
 ·exact i a s d H R I ⟨J,ρ,S,r,f,c,by rw[← q];exact e,y⟩
 exact j a s d H R I ⟨J,ρ,S,r,f,c,by rw[← q];exact e,y⟩
theorem cA {α e:Type}(m:Out α){k b d : α->GO->Out e}(h:∀ a S,k a S=b a S∨k a S=d a S):ah m k=ah m b∨ah m k=ah m d:=by
 cases m with
 |none=>exact .inl rfl
 |some o =>
  obtain⟨r,S⟩:=o;cases r with
  |error c=>exact .inl rfl
  |ok a=>exact h a S
def bw:D->Bool
 | .loc _=>true
 |_=>false
def Hq (x i:D)(S:GO):Option D:=if bw x=true then wP x i S else Nq x i
def Hv (c e:GH D):GH D:=λb S=>ah (c b S) λx d=>ah (e b d) λi a=>aM (Hq x i a) a
variable {a b:Expr}{fa fb:GH D}{pos:Pos}
theorem aH (g:X.A.units+1<cLine)(c:SE X W a fa)(hb:SE X W b fb)(f:yu b:=by exact λ_ _=>rfl):SE X W (.Subscript a b pos) (Hv fa fb):=
 SE.either (AS g c hb f) (B2 T7 c hb f) λe S=>cA _ λx d=>by
  by_cases h:bw x=true
  ·refine .inl (congrArg (ah (fb e d)) (funext λi=>funext λj=>?_));unfold Hq;rw[if_pos h]
  refine .inr (congrArg (ah (fb e d)) (funext λi=>funext λj=>?_));unfold Hq;rw[if_neg h]
def KY (neg:Bool)(k x:D)(S:GO):Option D:=if bw x=true then BL neg k x S else (if neg=true then kL k x else inD k x)
def KR (neg:Bool)(d fd:GH D):GH D:=λb S=>ah (d b S) λk c=>ah (fd b c) λx a=>aM (KY neg k x a) a
theorem kR (neg:Bool)(a fd:GH D)(ρ:GP)(S:GO):KR neg a fd ρ S=yq neg a fd ρ S∨KR neg a fd ρ S=aJ (if neg=true then kL else inD) a fd ρ S:=by
 unfold KR yq aJ;refine cA _ λk b=>cA _ λx c=>?_;unfold KY;by_cases h:bw x=true
 ·exact .inl (by rw[if_pos h])
 refine .inr ?_;rw[if_neg h];cases neg<;>rfl
variable (hu:X.A.units+150<cLine) (G9:X.A.units+1<cLine)
include hu G9
theorem yS (e:X.A.units+151<cLine)(c:SE X W a fa)(hb:SE X W b fb)(d:behindInMarks .In b=false:=by with_unfolding_all rfl):SE X W (.Compare a [.In] [b] pos) (KR false fa fb):=
 SE.either (Cz G9 c hb d) (iB (B8 e) c hb d) λf S=>kR false fa fb f S
theorem mO {f a b:GH D}{ρ:GP}{S:GO}(h:f ρ S=a ρ S∨f ρ S=b ρ S):aT f ρ S=aT a ρ S∨aT f ρ S=aT b ρ S:=by
 unfold aT;rcases h with h |h
 ·exact .inl (by rw[h])
 exact .inr (by rw[h])
theorem qu (e:X.A.units+151<cLine)(c:SE X W a fa)(hb:SE X W b fb)(d:behindInMarks .In b=false:=by with_unfolding_all rfl):Jz X W (.Compare a [.In] [b] pos) (aT (KR false fa fb)):=
 Jz.either (Cm G9 c hb d) (bB (B8 e) c hb d) λf S=>mO hu G9 (kR false fa fb f S)
theorem kC (e:X.A.units+151<cLine)(c:SE X W a fa)(hb:SE X W b fb)(d:behindInMarks .NotIn b=false:=by with_unfolding_all rfl):Jz X W (.Compare a [.NotIn] [b] pos) (aT (KR true fa fb)):=
 Jz.either (xg G9 c hb d) (bB (zm e) c hb d) λf S=>mO hu G9 (kR true fa fb f S)
omit hu G9
def bR:D->Option (List D)
 | .tup a=>some a
 | .lst a=>some a
 | .str x=>some (x.cps.toList.map λc=>D.str ⟨#[c]⟩)
 |_=>none
def bK (f:GH D):GH (List D):=λb S=>ah (f b S) λd a=>aM (bR d) a
theorem cR {h:Expr}(b:SE X W a fa):SI X W h a (bK fa):=by
 refine SI.either (g1:=vM fa) (g2:=λf S=>ah (fa f S) λd e=>aM (match d with | .lst g=>some g | .str x=>some (x.cps.toList.map λc=>D.str ⟨#[c]⟩) |_=>none) e) (Ct b) (SI.either (Cv b) (Cu b) λf S=>?_) λf S=>?_
 ·unfold Am Ak;refine cA _ λd e=>?_;cases d<;>first |exact .inl rfl |exact .inr rfl
 unfold bK vM;refine cA _ λd e=>?_;cases d<;>first |exact .inl rfl |exact .inr rfl
end
noncomputable def bj (n m:Nat) (G:GH Fl):GN:=λa S=>if a.length=n then
  match G (a.map some++replicate m none) S with
  |some (.ok (.ret d),S')=>some (.ok d,S')
  |some (.ok (.next _),S')=>some (.ok .Hu,S')
  |_=>none
 else none
def bu (K:GI)(mg:GL)(x:Str)(st:Stmt)(a:List Str):Prop:=∃ f fd,L1 K x x st f fd/\mg x=some (.ref f)/\Binds K fd a []
def Io (P:Program)(w:World)(K:GI)(mg:GL)(base:Heap)(k:Nat)(x:Str)(a:List Str)(F:GN):Prop:=
 ∃ f fd,My P w K mg base k f fd a F/\mg x=some (.ref f)/\PySem.W.keepIn K (.ref f)=true/\Binds K fd a []
section
variable {P:Program}{w:World}{K:GI}{mg:GL}{base:Heap}
theorem iJ {x qual:Str}{st:Stmt}{sc:Scope}{N b:List Str}{k:Nat}{G:GH Fl}{f:Addr}{fd:FuncData}(M:L1 K x qual st f fd)(V:aB st=sc)(S:GR N b sc)
  (h:∀ (A:Around) (outer:List Env) (s:Shared) (H:Hp) (E:XK),Hg k (A.deeper (envOfC qual sc s.heap.objs.size f fd.code))->Lp (l_ L0 P w K mg base N qual sc f fd.code A outer s H E).M0 W0 (bG st) G) :
  My P w K mg base (k+1) f fd b (bj b.length (N.length-b.length) G):=by
 subst V;obtain⟨oc,od,kV,doc,pm,an,Z,ct,Y,rfl,D,O⟩:=M.ex
 have len:∀ a St r,bj b.length (N.length-b.length) G a St=some r->a.length=b.length:=λa St r e=>by
  unfold bj at e;split at e
  ·assumption
  cases e
 refine EI D O S (λB H Q E h=>?_) λA outer s H B Q E hr I=>?_
 ·obtain⟨J,St,a,d,g,m,_,e,_⟩:=h;rw[← m.length];exact len a St _ e
 obtain⟨J,St,a,d,g,m,so,e,z⟩:=I;have p:=len a St _ e
 have u:∃ r,G (a.map some++replicate (N.length-b.length) none) St=some (.ok r,g)/\(r = .ret d∨(d = .Hu/\∃ t,r = .next t)):=by
  unfold bj at e;rw[if_pos p] at e;split at e
  ·rename_i U L q;cases e;exact⟨_,q,.inl rfl⟩
  ·rename_i o L q;cases e;exact⟨_,q,.inr ⟨rfl,o,rfl⟩⟩
  cases e
 obtain⟨r,X,F⟩:=u;refine⟨_,(h A outer s H E hr).M0,J,_,St,.ok r,g,⟨?_,λi d' hd=>?_,so⟩,X,?_⟩
 ·unfold start;rw[List.length_append,List.length_append,length_map,length_map,← m.length,p];simp
 ·by_cases l:i<a.length
  ·rw[getElem?_append_left (by simpa using l),getElem?_map] at hd;cases q:a[i]? with
   |none=>rw[q] at hd;cases hd
   |some U =>
    rw[q] at hd;cases hd;obtain⟨v,ev,y⟩:=m.get q;refine⟨v,?_,y⟩;unfold start;rw[getElem?_append_left (by rw[length_map,← m.length];exact l),getElem?_map,ev];rfl
  rw[getElem?_append_right (by simpa using l),List.getElem?_replicate] at hd;split at hd<;>cases hd
 rcases F with rfl |⟨rfl,t,rfl⟩
 ·exact λj c v n C R=>z j c v n C R
 exact λj T c n W=>z j c _ n W.Hi (At.HG.mpr rfl)
theorem nZ {x:Str}{st:Stmt}{sc:Scope}{N a:List Str}{k:Nat}{G:GH Fl}{f:Addr}{fd:FuncData}(c:L1 K x x st f fd)(d:aB st=sc)(Sc:GR N a sc)
  (h:∀ (f:Addr) (b:Value) (A:Around) (outer:List Env) (s:Shared) (H:Hp) (E:XK),Hg k (A.deeper (envOfC x sc s.heap.objs.size f b))->Lp (l_ L0 P w K mg base N x sc f b A outer s H E).M0 W0 (bG st) G) :
  My P w K mg base (k+1) f fd a (bj a.length (N.length-a.length) G):=iJ c d Sc λA outer s H E hr=>h f fd.code A outer s H E hr
theorem a_ {x:Str}{st:Stmt}{sc:Scope}{N a:List Str}{k:Nat}{G:GH Fl}(g:bu K mg x st a)(e:aB st=sc)(Sc:GR N a sc)
  (h:∀ (f:Addr) (b:Value) (A:Around) (outer:List Env) (s:Shared) (H:Hp) (E:XK),Hg k (A.deeper (envOfC x sc s.heap.objs.size f b))->Lp (l_ L0 P w K mg base N x sc f b A outer s H E).M0 W0 (bG st) G) :
  Io P w K mg base (k+1) x a (bj a.length (N.length-a.length) G):=by
 obtain⟨f,fd,c,d,hb⟩:=g;exact⟨f,fd,nZ c e Sc h,d,c.kp,hb⟩
theorem iL {x:Str}{st:Stmt}{b:List Str}{k:Nat}(i:bu K mg x st b):Io P w K mg base k x b (λ_ _=>none):=by
 obtain⟨f,fd,c,g,hb⟩:=i;have no:∀ a H Q E,¬ P6 K (λ_ _=>none) a H Q E:=λa H Q E h=>by obtain⟨J,S,m,d,j,_,_,e,_⟩:=h;cases e
 exact⟨f,fd,⟨λa H Q E h=>absurd h (no a H Q E),λA outer s H args l a Q E _ _ _ _ h=>absurd h (no a H Q E)⟩,g,c.kp,hb⟩
theorem a9 {A:Around}{k:Nat}(hr:Hg k A):A.units+150<cLine:=by have:=hr.un;omega
theorem a8 {A:Around}{k:Nat}(hr:Hg k A):A.units+151<cLine:=by have:=hr.un;omega
end
section
variable {X:Cx}{W:WT}{x:Str}{p pos:Pos}{e:Expr}{es:List Expr}{gs:GH (List D)}
theorem aG {k:Nat}{j:List Str}{F:GN}(C:Io X.prog X.w X.K X.mg X.base k x j F)(hr:Hg k X.A)
  (a:SA X W (e::es) gs) (b:Gl X x:=by rfl) (i:(x==("__debug__":Str))=false:=by decide) (g:starEach (e::es) X.env=(false,eval e X.env)::starEach es X.env:=by rfl) (c:(backTo pos (starEach es X.env)).any (·.1)=false:=by rfl) :
  SE X W (.Call (.Name x p) (e::es) [] pos) (aS F gs):=by
 obtain⟨f,fd,G,h,d,hb⟩:=C;exact AU G hr h d hb a b i g c
end
theorem cW:bootBuiltins "len"=some (.builtin "len"):=by decide
theorem dB:bootBuiltins "tuple"=some (.type "tuple"):=by decide
theorem rH:bootBuiltins "list"=some (.type "list"):=by decide
theorem vR:bootBuiltins "int"=some (.type "int"):=by decide
theorem Ap:bootBuiltins "str"=some (.type "str"):=by decide
theorem BV:bootBuiltins "bool"=some (.type "bool"):=by decide
theorem DN:bootBuiltins "min"=some (.builtin "min"):=by decide
theorem k_:bootBuiltins "sorted"=some (.builtin "sorted"):=by decide
theorem Aq:bootBuiltins "range"=some (.type "range"):=by decide
end L2
namespace L2
open PySem
section
variable {prog:Program}{w:World}{K:Type} [DecidableEq K]
def V2 (a:Array Nat):Prop:=a.toList.Pairwise (· < ·)
variable {knd:KeyKind prog w K}{pk:K->Bool}{led:Bool}
def Du (a:List K)(k:K):List K:=if k∈a then a else a++[k]
variable {A:Around}{E:GJ}{s:Shared}
end
section
variable {prog:Program}{w:World}{K:Type} [DecidableEq K] {knd:KeyKind prog w K}{pk:K->Bool}{led:Bool}
def met (val:Nat->K)(i:Nat):List K:=((List.range i).map val).foldl Du []
section
variable {A:Around}{E:GJ}{s:Shared}
def Sk (w:World):Bool:=w.params.followText "set-order"
end
end
section
variable {prog:Program}{w:World}{A:Around}{E:GJ}{s:Shared}
inductive Way (w:World) (a it:Addr) (es:Array (Int×Value)) (ep:Nat) (t:SetTable):Array (Int×Value)->List Addr->(Nat->Value->Heap->Prop)->Prop where
 |text (hb:Sk w=true):Way w a it es ep t (pickOrder (w.params.setOrder a ep) es) [it,a] (λ_ f _ => ∃ k:Nat,f = .int k 0)
 |one (hb:Sk w=false) (hl:t.led=true) (h1:t.plain=true∨es.size<=1) (hr:V2 t.place):Way w a it es ep t es [it,a] (λi f _ => ∃ k:Nat,f = .int k 0/\SetTable.below t.place k=i)
 |drawn (hb:Sk w=false) (hp:t.plain=false) (h1 : 1<es.size) (tp:Addr) (order:List Nat) (ho:order.Perm (List.range es.size)):tp≠it ->
  Way w a it es ep t (order.filterMap λi=>es[i]?).toArray [it,a,tp] (λ_ f h=>f = .ref tp/\h.IsTuple tp (order.map λ(i:Nat)=>Value.int i 0).toArray)
end
section
variable {prog:Program}{w:World}{A:Around}{E:GJ}{s:Shared}
variable {a it:Addr}{o:Obj}{es:Array (Int×Value)}{ep:Nat}{t:SetTable}
theorem CI {α:Type}{Q : α->Shared->Prop}(c:A.handled=none)(h:∀ h' e,(∀ b o,s.heap.get? b=some o->h'.get? b=some o)->(∃ o,h'.get? e=some o/\o.cls = .type "StopIteration")->E (.ref e) { s with heap:=h' }) :
  wpAny (model prog w) A (newExc (.type "StopIteration") [] >>= λe=>(raiseNew e:Sem α)) Q E s:=by
 refine wpAny_bind ?_;simp only[newExc,newTuple];refine wpAny_bind (wpAny_newObj_type ?_ (by size_fits));refine wpAny_bind (m:=firstArgMember _ _) (wpAny_of_eq (a:=Value.none) (by first |rfl |(simp only[firstArgMember];rfl)) ?_);refine wpAny_newObj_type ?_ (by size_fits);simp only[raiseNew];refine wpAny_bind (wpAny_handled ?_);rw[c];refine wpAny_bind (wpAny_pure (wpAny_throw ?_));exact h _ _ (λb o e=>Heap.get?_push_of_some _ (Heap.get?_push_of_some _ e)) ⟨_,Heap.get?_push_size _ rfl,rfl⟩
end
section
variable {prog:Program}{w:World}{A:Around}{E:GJ}{s:Shared}
set_option maxHeartbeats 1000000 in
theorem ub {x:Addr}{T:String}(V3:T="set"∨T="dict")(hT:s.TypeIs (.ref x) T){Q:List Value->Shared->Prop}(q:List Value->Prop)
  (NO:∀ (J:Heap) (Q':GJ) (E':GJ),(∀ b o,s.heap.get? b=some o->J.get? b=some o) ->
   (∀ (I:Addr) (i j:List Addr) (n:Nat) (P:Nat->Value->Prop) (St:Nat->Shared->Prop) (g:Shared),WalksS prog w A.in1 I i j (λa b=>b=a) n P St->St 0 g->n<=sizeLine->(∀ b∈i,b=x∨J.objs.size<=b)->(∀ b∈j,J.objs.size<=b) ->
    (∀ b o,J.get? b=some o->g.heap.get? b=some o)->g.gens=s.gens->g.os=s.os->(∀ d,ItemsOf P d n->q d.toList)->Q' (.ref I) g)->wpAny (model prog w) A.in1 (pyIter (.ref x)) Q' E' { s with heap:=J })
  (hQ:∀ s' d,q d->(∀ b o,s.heap.get? b=some o->s'.heap.get? b=some o)->s'.gens=s.gens->s'.os=s.os->Q d s'):wpAny (model prog w) A (collect (.ref x)) Q E s:=by
 obtain⟨V,O,U⟩:=id hT;have Z:x<s.heap.objs.size:=Heap.lt_size O;unfold collect;refine wpAny_bind (wpAny_runValue (codeAny_builtin F.entry_proto_collect ?_));rw[Around.under_plainId F.plain_proto_collect _];show wpAny _ A.in1 (newList [] >>= λl=>again (.builtin "list.__iadd__" ⟨[l,.ref x],[]⟩)) _ _ s;refine wpAny_bind (wpAny_newObj_type ?_);refine wpAny_pure ⟨plainId_quiet F.plain_list_iadd _,codeAny_builtin F.entry_list_iadd ?_⟩;rw[Around.under_plainId F.plain_list_iadd _];have LK:(s.heap.push { cls:=.type "list",data:=.seq ([]:List Value).toArray }).get? s.heap.objs.size=some { cls:=.type "list",data:=.seq ([]:List Value).toArray }:=Heap.get?_push_size _ rfl;have V4:Shared.TypeIs { s with heap:=s.heap.push { cls:=.type "list",data:=.seq ([]:List Value).toArray } } (.ref x) T:=⟨V,Heap.get?_push_of_some _ O,U⟩;have n1:Builtin.List.listSameRef (.ref s.heap.objs.size) (.ref x)=false:=by simp[Builtin.List.listSameRef,ne_of_gt Z]
 show wpAny _ A.in1 (Builtin.List.listExtendWith (.ref s.heap.objs.size) (.ref x) (.ref s.heap.objs.size)) _ _ _;unfold Builtin.List.listExtendWith;refine wpAny_bind (wpAny_typeOf V4 ?_);have kp:∀ b o,s.heap.get? b=some o->(s.heap.push { cls:=.type "list",data:=.seq ([]:List Value).toArray }).get? b=some o:=λb o e=>Heap.get?_push_of_some _ e;have sz:(s.heap.push { cls:=.type "list",data:=.seq ([]:List Value).toArray }).objs.size=s.heap.objs.size+1:=Heap.size_push ..
 have main:∀ (I:Addr) (i j:List Addr) (n:Nat) (P:Nat->Value->Prop) (St:Nat->Shared->Prop) (g:Shared),WalksS prog w A.in1 I i j (λa b=>b=a) n P St->St 0 g->n<=sizeLine ->
   (∀ b∈i,b=x∨(s.heap.push { cls:=.type "list",data:=.seq ([]:List Value).toArray }).objs.size<=b)->(∀ b∈j,(s.heap.push { cls:=.type "list",data:=.seq ([]:List Value).toArray }).objs.size<=b) ->
   (∀ b o,(s.heap.push { cls:=.type "list",data:=.seq ([]:List Value).toArray }).get? b=some o->g.heap.get? b=some o)->g.gens=s.gens->g.os=s.os->(∀ d,ItemsOf P d n->q d.toList) ->
   ∀ (R:Result->Shared->Prop),(∀ s' d c,q d.toList->(∀ b o,s.heap.get? b=some o->s'.heap.get? b=some o)->s'.gens=s.gens->s'.os=s.os->s'.heap.get? s.heap.objs.size=some { cls:=.type "list",dict:=none,data:=.seq d c,slots:=#[] }->R (.ok (.ret (.ref s.heap.objs.size))) s') ->
   wpAny (model prog w) A.in1 (rule "list.extend.makes-room" >>= λ_=>Builtin.List.listTouch (.ref s.heap.objs.size) >>= λ_=>again (.builtin "list.extend.loop" ⟨[.ref s.heap.objs.size,.ref I,.ref s.heap.objs.size],[]⟩))
    (λfin s'=>match fin with | .done f=>R (.ok f) s' | .again S=>S.quiet=true/\codeAny (model prog w) A S R s') (λe s'=>R (.error e) s') g:=by
  intro I i j n P St g W st B C y k D o1 K R hR
  have Uj:s.heap.objs.size∉i:=λt=>by
   rcases C _ t with e |e
   ·exact ne_of_gt Z e
   rw[sz] at e;exact Nat.not_succ_le_self _ e
  refine wpAny_bind (wpAny_rule ?_);refine wpAny_bind ?_;have hS:g.heap.get? s.heap.objs.size=some { cls:=.type "list",data:=.seq ([]:List Value).toArray }:=k _ _ LK;show wpAny _ A.in1 (updateSeq s.heap.objs.size (·.push .none) >>= λ_=>updateSeq s.heap.objs.size (·.pop)) _ _ _;refine wpAny_bind (wpAny_updateSeq hS rfl ?_);have Pd:=Heap.get?_update_self (Obj.mapSeq (·.push Value.none)) hS rfl;refine wpAny_updateSeq (hz:=by seq_fits) Pd rfl ?_;have IQ:=Heap.get?_update_self (Obj.mapSeq (·.pop)) Pd rfl
  have Ox:∀ b o,b≠s.heap.objs.size->g.heap.get? b=some o->((g.heap.update s.heap.objs.size (Obj.mapSeq (·.push Value.none))).update s.heap.objs.size (Obj.mapSeq (·.pop))).get? b=some o:=
   λb o hb e=>(Heap.get?_update_other _ _ (Ne.symm hb)).trans ((Heap.get?_update_other _ _ (Ne.symm hb)).trans e)
  refine wpAny_pure ⟨plainId_quiet F.plain_extend_loop _,codeAny_extend_loopS W B _ Uj _ n 0 _ _ _ rfl (zero_le _) (W.frame 0 g _ g.toks st (le_refl _) λb hb o e=>Ox b o (λh=>Uj (h▸hb)) e) IQ (ItemsOf.nil P) λs' Qe S t M8 Oy=>?_⟩;refine hR s' Qe S (K Qe Oy) (λb o e=>?_) (t.gens.trans D) (t.os.trans o1) M8;have hb:b<s.heap.objs.size:=Heap.lt_size e;refine t.heap b o (λz=>?_) (Ox b o (ne_of_lt hb) (k b o (kp b o e)));rcases mem_cons.mp z with z |z
  ·exact ne_of_lt hb z
  have:=y b z;rw[sz] at this;exact Nat.not_succ_le_self _ (Nat.le_trans this (le_of_lt hb))
 have last:∀ (s':Shared) (d:Array Value) (c:Nat),q d.toList->(∀ b o,s.heap.get? b=some o->s'.heap.get? b=some o)->s'.gens=s.gens->s'.os=s.os->s'.heap.get? s.heap.objs.size=some { cls:=.type "list",dict:=none,data:=.seq d c,slots:=#[] } ->
   wpAny (model prog w) A (load s.heap.objs.size >>= λo=>match o.data with | .seq u _=>pure u.toList |_=>unsupported "internal:collect") Q E s':=λs' d c G H p L N=>wpAny_bind (wpAny_load N (wpAny_pure (hQ s' d.toList G H p L)))
 rcases V3 with rfl |rfl
 ·rw[if_neg (by rw[n1];decide)];refine wpAny_bind (NO _ _ _ kp λI i j n P St g W st B C y k D o1 K=>?_);have m:g.TypeIs (.ref x) "set":=⟨V,k _ _ (kp _ _ O),U⟩;refine wpAny_bind (wpAny_holding ?_);unfold Builtin.List.listLengthHint;refine wpAny_bind (wpAny_specialOf m F.slot_set_len.lookup ?_)
  (generalize M:("set.__len__":String)=id0;wp_delta;rw[show splitId id0=some ("set","__len__") from by subst M;decide];subst M)
  refine wpAny_bind (wpAny_isInstance (b:=true) m (by rw[isSubtype_type];kernel_rfl) ?_);refine wpAny_bind (wpAny_typeOf m ?_);refine wpAny_pure ?_;dsimp only;split
  ·refine main I i j n P St g W st B C y k D o1 K (λr s'=>match r with
    | .ok (.ret v)=>wpAny (model prog w) A (match v with
     | .ref a=>do
      let o ← load a
      match o.data with
       | .seq u _=>pure u.toList
       |_=>unsupported "internal:collect"
     |_=>unsupported "internal:collect") Q E s'
    | .ok _=>False
    | .error e=>E e s') ?_
   exact λY d c G H p L N=>last Y d c G H p L N
  rename_i X;exact absurd (by decide) X
 rw[if_neg (by rw[n1];decide)];refine wpAny_bind (NO _ _ _ kp λI i j n P St g W st B C y k D o1 K=>?_);have m:g.TypeIs (.ref x) "dict":=⟨V,k _ _ (kp _ _ O),U⟩;refine wpAny_bind (wpAny_holding ?_);unfold Builtin.List.listLengthHint;refine wpAny_bind (wpAny_specialOf m F.slot_dict_len.lookup ?_)
 (generalize M:("dict.__len__":String)=id0;wp_delta;rw[show splitId id0=some ("dict","__len__") from by subst M;decide];subst M)
 refine wpAny_bind (wpAny_isInstance (b:=true) m (by rw[isSubtype_type];kernel_rfl) ?_);refine wpAny_bind (wpAny_typeOf m ?_);refine wpAny_pure ?_;dsimp only;split
 ·refine main I i j n P St g W st B C y k D o1 K (λr s'=>match r with
   | .ok (.ret v)=>wpAny (model prog w) A (match v with
    | .ref a=>do
     let o ← load a
     match o.data with
      | .seq u _=>pure u.toList
      |_=>unsupported "internal:collect"
    |_=>unsupported "internal:collect") Q E s'
   | .ok _=>False
   | .error e=>E e s') ?_
  exact λY d c G H p L N=>last Y d c G H p L N
 rename_i X;exact absurd (by decide) X
end
end L2
namespace L2
open PySem PySem.Spec PyProof.Rows PySem.W
def mV (d:D)(S:GO):Option D:=match d with
 | .tup a=>(h_ a).map .lst
 | .lst a=>(h_ a).map .lst
 | .loc l=>match S[l]? with
  |some (.dict kvs)=>(h_ (kvs.map (·.1))).map .lst
  |_=>none
 |_=>none
def wS (f:GH D):GH D:=λb S=>ah (f b S) λd a=>aM (mV d a) a
def gz:List D->Option D
 |[.int j]=>if -(2 ^ 62)<=j/\j<=16777216 then some (.lst ((List.range j.toNat).map λ(k:Nat)=>D.int k)) else none
 |_=>none
def Fm:D->Option D
 | .str x=>if x.cps.all (·<128)=true then some (.str ⟨x.cps.map up1⟩) else none
 |_=>none
def qW:D->Bool
 | .str _=>true
 |_=>false
def rG (k:D->Bool)(g:D->D->Option D)(fe b:GH D):GH D:=λa S=>ah (fe a S) λx c=>if k x=true then ah (b a c) λy d=>aM (g x y) d else none
def findD:D->D->Option D
 | .str x,.str y=>some (.int (Txt.find x y))
 |_,_=>none
section
variable {X:Cx}{W:WT}
theorem yj:gJ X (.type "range") (λc H Q => ∃ j:Int,c=[.int j]/\∀ p,H p=none->Q (.ref p) (upd H p (.NF 0 j))):=by intro a s f H c g Q I r h;obtain⟨j,rfl,q⟩:=h;obtain⟨u,rfl,d⟩:=vals1 r;obtain⟨t,rfl⟩:=d;refine call_range_1 ?_;exact⟨.ref s.heap.objs.size,_,I.laid (t':=s.toks+1+1) (λb o e=>Heap.get?_push_of_some _ e) (le_refl _) (show Hm X.prog X.w _ _ _ (.NF 0 j) from⟨_,_,_,Heap.get?_push_size _ rfl⟩),rfl,q _ I.fresh⟩
theorem vp {a:Array Value}{n:Nat}(h:ItemsOf (λi v => ∃ t,v = .int (0+(i:Int)*1) t) a n):Vals ((List.range n).map λ(k:Nat)=>V.int k) a.toList:=by
 obtain⟨f,g⟩:=h
 have key:∀ (l:List Value) (i:Nat),(∀ (j:Nat) v,l[j]?=some v->∃ t,v = .int (((i+j:Nat):Int)) t)->Vals ((range' i l.length).map λ(k:Nat)=>V.int k) l:=by
  intro l
  induction l with
  |nil=>intro i _;exact .nil
  |cons v r d =>
   intro i c;rw[length_cons,range'_succ,map_cons];refine .cons (by obtain⟨t,e⟩:=c 0 v rfl;exact⟨t,by simpa using e⟩) (d (i+1) λj v b=>?_);obtain⟨t,e⟩:=c (j+1) v (by simpa using b);exact⟨t,by rw[e];congr 2;omega⟩
 have q:=key a.toList 0 λj v b=>by obtain⟨t,e⟩:=g j v (by rw[← getElem?_toList];exact b);exact⟨t,by rw[e];congr 1;simp⟩
 rw[length_toList,f,← List.range_eq_range'] at q;exact q
theorem vG (hc:X.calm=true):gJ X (.type "list") (λf H Q => ∃ (p:Addr) (j:Int),f=[.ref p]/\H p=some (.NF 0 j)/\-(2 ^ 62)<=j/\j<=16777216/\∀ l,H l=none->Q (.ref l) (upd H l (.lst ((List.range j.toNat).map λ(k:Nat)=>V.int k)))):=by intro e s z H f C Q I r h;obtain⟨p,j,rfl,m,g,A,q⟩:=h;obtain⟨u,rfl,y⟩:=vals1 r;cases y;obtain⟨t,u,v,hr⟩:∃ t u v,s.heap.get? p=some { cls:=.type "range",data:=.fields #[.int 0 t,.int j u,.int 1 v] }:=I.Ha p _ m;refine call_list_range (a:=0) (b:=j) (c:=1) (t:=t) (u:=u) (v:=v) (n:=j.toNat) (I.ok.hd hc) hr (small_one (by omega) (by omega) g (by omega)) (by rw[rangeSize_one];split<;>omega) (by omega) λB tk d c k x w=>?_;have i:=vp w;refine⟨.ref s.heap.objs.size,_,I.laid (t':=tk) (o:=.lst ((List.range j.toNat).map λ(k:Nat)=>V.int k)) k (le_refl _) ⟨?_,d.toList,c,i,by simpa using x⟩,rfl,q _ I.fresh⟩;rw[length_map,length_range];show j.toNat<=16777216;omega
variable {e:Expr}{fe:GH D}{gs:GH (List D)}{pos MD p p2:Pos}{x y:Str}
theorem oI {a:Expr}(G:x="list")(E:y="range")(hc:X.calm=true)(I:X.mg x=none)(F:X.mg y=none)(f:SA X W [a] gs)(B:Gl X x:=by rfl)(C:Gl X y:=by rfl)
  (w:starEach [a] X.env=(false,eval a X.env)::starEach [] X.env:=by rfl)
  (o:starEach [(.Call (.Name y p2) [a] [] MD)] X.env=(false,eval (.Call (.Name y p2) [a] [] MD) X.env)::starEach [] X.env:=by rfl)
  (u:(backTo MD (starEach [] X.env)).any (·.1)=false:=by rfl) (M:(backTo pos (starEach [] X.env)).any (·.1)=false:=by rfl) :
  SE X W (.Call (.Name x p) [.Call (.Name y p2) [a] [] MD] [] pos) (bz gz gs):=by
 subst G E;have inner:=i4 (X:=X) (p:=p2) (pos:=MD) yj C F Aq f (by decide) (by decide) w u;refine PE.imp (i4 (vG hc) B I rH (b_ inner HB o) (by decide) (by decide) o M) λN H Q h=>?_;refine(tG.Jb h).mono λP e ⟨ds,b,g⟩=>?_;rw[append_nil,append_nil] at g;obtain⟨J,O,d,s,m,eq,q⟩:=tG.T3 g;unfold gz at eq;split at eq
 ·rename_i j;split at eq
  ·rename_i c;cases eq;obtain⟨v,r,rfl,a1,n⟩:=GU.GS.mp m;cases GU.G0.mp n;cases At.GQ.mp a1;refine⟨j,rfl,λp A=>?_⟩;show r_ _ _ _;refine⟨p,j,rfl,GV,c.1,c.2,λl b=>?_⟩;have n1:p≠l:=λz=>by rw[z,GV] at b;cases b
   have R:e l=none:=by rw[aA n1.symm] at b;exact b
   have t:G5 e (upd e p (.NF 0 j)):=aP A _;have L:=t.trans (aP b (.lst ((List.range j.toNat).map λ(k:Nat)=>V.int k)));refine q _ _ L ?_;have i:=GU.ofInts (K:=X.K) (H:=upd e p (.NF 0 j)) (J:=J) ((List.range j.toNat).map λ(k:Nat)=>(k:Int));rw[map_map,map_map] at i
   exact At.HU (ds:=(List.range j.toNat).map λ(k:Nat)=>D.int k) i b (λa f=>by
    by_cases z:a=p
    ·rw[z,GV];simp
    rw[aA z];exact s a f) (by rw[length_map,length_range];show j.toNat<=16777216;omega)
  cases eq
 cases eq
theorem Bs:Q1 X "str.find" (λx b H Q => ∃ z y,x = .str z/\b=[.str y]/\Q (.int (Txt.find z y)) H):=by intro a s f H x b v g Q I d c h;obtain⟨z,y,rfl,rfl,q⟩:=h;obtain⟨t,rfl⟩:=d;obtain⟨u,rfl,e⟩:=vals1 c;obtain⟨t2,rfl⟩:=e;exact SC.find ⟨.int (Txt.find z y),H,I.tok _,⟨_,rfl⟩,q⟩
theorem nG {k:D->Bool}{g:D->D->Option D}{n:GH D}{T:String}{r:V->List V->Hp->VK->Prop}{l:St}{H:Hp}{Q:VK}(p:∀ J b d v,k d=true->At X.K b J d v->O8 X.K T v b)
  (hr:∀ (v i:V) (f:Hp) (Q:VK),Od X.K g v i f Q->r v [i] f Q) (h:tE X W (rG k g fe n) l H Q):T1 X.K T r (tE X W fe) (B0 (tE X W n) r_) l H Q:=
 (tG.G1 h).mono λv b q=>by
  obtain⟨d,a⟩:=q
  by_cases j:k d=true
  ·simp only[j,if_true] at a;refine⟨?_,(tG.G1 a).mono λi f ⟨u,o⟩=>hr v i f Q (tG.R0 o)⟩;obtain⟨J,_,_,_,_,_,m,_,_⟩:=a;exact p J b d v j m.GY.1
  obtain⟨J,t,S,r,s,c,m,e,z⟩:=a;simp only[j,false_eq_true,if_false] at e;cases e
theorem Cp {J:List Addr}{a:Hp}{d:D}{v:V}(b:qW d=true)(m:At X.K a J d v):O8 X.K "str" v a:=by
 cases d<;>first |(cases b;done) |skip
 rename_i z;cases (At.G2.mp m).1;rfl
theorem Bt {o:Expr}{name:Str}{b c:Pos}{a:Expr}{e:GH D}(p:name="find")(u:SE X W o fe)(s:SE X W a e)(n:attributeBase o name X.env (eval o X.env)=eval o X.env:=by rfl)
  (i:((backTo c (starEach [a] X.env)).all (λx => !x.1)&&(backToKw c (keywordEach [] X.env)).all (λx=>x.1.isSome)
   && decide ([a].length+([]:List Keyword).length+(if ([]:List Keyword).isEmpty then 0 else 1)<30))=true:=by rfl)
  (g:(b.endLine==c.line)=true:=by rfl) (f:starEach [a] X.env=(false,eval a X.env)::starEach [] X.env:=by rfl) (t:(backTo c (starEach [] X.env)).any (·.1)=false:=by rfl) :
  SE X W (.Call (.Attribute o name b) [a] [] c) (rG qW findD fe e):=by
 subst p;refine PE.imp (wo F.plainAttrs_str F.slot_str_find F.type_str_find Bs u (b_ s HB f) n i g f t) λB H Q h=>nG (λJ w d v j m=>Cp j m) (λv G l Q q=>?_) h;obtain⟨J,E,I,C,A,k,r,eq,q⟩:=q;unfold findD at eq;split at eq
 ·rename_i z y;cases eq;cases (At.G2.mp k).1;cases (At.G2.mp r).1;exact⟨z,y,rfl,rfl,q l _ (G5.refl _) (At.GQ.mpr rfl)⟩
 cases eq
theorem Inv.moved {a:GK}{c:St}{H:Hp}{s s':Shared}(I:Inv X a c H s)(k:∀ b o,s.heap.get? b=some o->s'.heap.get? b=some o)(g:s'.gens=s.gens)(o:s'.os=s.os):Inv X a c H s':=by obtain⟨e,g',d',t',d⟩:=s';cases g;cases o;exact I.call (d':=d') (t':=t') (g':=s.gens) (ch:=[]) (Un.kept k) (I.Ha.kept k) I.bare λb z=>absurd z (by simp)
theorem kJ {α c:Type}{R : α->c->Prop}:∀ {l:List α}{m:List c},l.length=m.length->(∀ (i:Nat) a b,l[i]?=some a->m[i]?=some b->R a b)->Paired R l m
 |[],[],_,_ => .nil
 |a::l,b::m,h,k => .cons (k 0 a b rfl rfl) (kJ (by simpa using h) λi x y e d=>k (i+1) x y (by simpa using e) (by simpa using d))
 |[],_::_,h,_=>by simp at h
 |_::_,[],h,_=>by simp at h
theorem ny {α e:Type}{R : α->e->Prop}{l:List α}{m:List e}(r:Paired R l m):∀ (i:Nat) a b,l[i]?=some a->m[i]?=some b->R a b:=by
 induction r with
 |nil=>intro i a b h;simp at h
 |cons f t g =>
  intro i a b c d;cases i with
  |zero=>simp at c d;subst c d;exact f
  |succ i=>exact g i a b (by simpa using c) (by simpa using d)
theorem wF {P:Program}{w:World}{k:Key}{u:Value}(h:(bL P w).is k u=true):RelV (kV k) u:=by
 rcases bD h with ⟨i,t,rfl,e⟩ |⟨x,t,rfl,e⟩
 ·exact⟨t,e⟩
 exact⟨t,e⟩
theorem t_ (hc:X.calm=true):gJ X (.builtin "sorted") (λL H Q => ∃ (p:Addr) (j:List (Key×V)) (J:List Addr) (ds out:List D),L=[.ref p]/\H p=some (.dK j)/\(∀ a∈J,H a≠none)/\GU X.K H J ds (j.map λq=>kV q.1)/\h_ ds=some out/\∀ H' v,G5 H H'->At X.K H' J (.lst out) v->Q v H'):=by
 intro C s σ H L G Q I r h;obtain⟨p,j,J,ds,out,rfl,hp,O,m,e,q⟩:=h;obtain⟨u,rfl,ru⟩:=vals1 r;cases ru;obtain⟨T,OB,n,F,hd⟩:=I.Ha p _ hp;obtain⟨ep,P⟩:=hd.dictAt;have d:n.length=j.length:=(KV.length F).symm;refine kG O e q λQ' E hQ=>?_;have hh:X.A.in1.handled=none:=I.ok.hd hc;refine ub (.inr rfl) hd.typeIs (λG=>Vals (j.map λq=>kV q.1) G) (λf Q2 E2 U N=>?_) λR c l k g os=>?_
 ·have y:f.DictAt (bL X.prog X.w) p n ep:=P.keep U;refine wpAny_pyIter_dict (s:={ s with heap:=f }) OB y ?_;have S:p<f.objs.size:=y.lt_size
  refine N f.objs.size [f.objs.size,p] [f.objs.size] n.length _ _ _ ((Walks.dictKeys (A:=X.A.in1.in1) hh f.objs.size p (ne_of_lt S) n ep).toS) ⟨⟨_,Heap.get?_push_size _ rfl,rfl,rfl⟩,y.push _⟩ (by rw[d];exact T)
   (λb hb=>by
    rcases mem_cons.mp hb with z |hb
    ·rw[z];exact .inr (le_refl _)
    exact .inl (mem_singleton.mp hb))
   (λb hb=>by rw[mem_singleton.mp hb];exact le_refl _) (λb o e=>Heap.get?_push_of_some _ e) rfl rfl λc ha=>?_
  obtain⟨a1,a2⟩:=ha;refine kJ (by have t:c.toList.length=c.size:=length_toList;rw[length_map,t,a1,d]) λi v u l B=>?_;rw[getElem?_toList] at B;obtain⟨k,x,t,M⟩:=a2 i u B;rw[getElem?_map] at l;obtain⟨q,W,Y⟩:=map_eq_some_iff.mp l;have Z:=(ny F i q (k,x) W t).1;rw[← Y,Z];exact wF M
 exact hQ c _ R ds (I.moved k g os) l (.refl _) m
theorem AQ (K:x="sorted")(hc:X.calm=true)(w:X.mg x=none)(y:SE X W e fe)(u:Gl X x:=by rfl)(g:starEach [e] X.env=(false,eval e X.env)::starEach [] X.env:=by rfl)(n:(backTo pos (starEach [] X.env)).any (·.1)=false:=by rfl) :
  SE X W (.Call (.Name x p) [e] [] pos) (wS fe):=by
 subst K
 refine SE.either (g1:=bz yN (ag fe aD)) (g2:=λi S=>ah (fe i S) λd j=>aM (match d with | .loc l=>(match j[l]? with |some (.dict b)=>(h_ (b.map (·.1))).map .lst |_=>none) |_=>none) j)
  (bp BP w k_ (ae y ai g) u (by decide) (by decide) g n) ?_ λi S=>?_
 ·refine PE.imp (jT (t_ hc) u w k_ (b_ y HB g) (by decide) (by decide) g n) λN H Q h=>?_;refine(tG.G1 h).mono λv M ⟨d,A⟩=>?_;obtain⟨J,i,S,r,O,c,m,eq,z⟩:=A;obtain⟨m,_⟩:=m.GY;show r_ _ _ _;cases d with
  |loc l =>
   obtain⟨a,rfl,B⟩:=At.G7.mp m;cases hS:S[l]? with
   |none=>simp[hS] at eq
   |some L =>
    cases L with
    |lst P=>simp[hS] at eq
    |exc c=>simp[hS] at eq
    |GZ _=>simp[hS] at eq
    |ins _ _=>simp[hS] at eq
    |tab _ _=>simp[hS] at eq
    |K5 _ _ _ _=>simp[hS] at eq
    |dict b =>
     simp only[hS] at eq;cases hq:h_ (b.map (·.1)) with
     |none=>simp[hq] at eq
     |some out =>
      simp only[hq,map_some,bH,GW] at eq;cases eq;obtain⟨G,s,I⟩:=c.Hi.at_ l a _ B hS;refine⟨a,G,J,b.map (·.1),out,rfl,s,c.Hi.all,?_,hq,λC v k F=>z J C v (Ex.same k) (c.Hi.same k) F⟩;clear hq hS z s
      induction I with
      |nil=>exact .nil
      |cons f t D=>exact .cons f.1.2 D
  |_=>simp at eq
 unfold wS bz ag aD;cases q:fe i S with
 |none=>exact .inl rfl
 |some o =>
  obtain⟨E,j⟩:=o;cases E with
  |error c=>exact .inl rfl
  |ok d=>cases d<;>first |exact .inl rfl |exact .inr rfl
end
mutual
inductive Lit:Expr->D->Prop
 |int {i:Int}{j p}:Lit (.Constant (.int i) j p) (.int i)
 |bl {b:Bool}{j p}:Lit (.Constant (.bool b) j p) (.bl b)
 |Hu {j p}:Lit (.Constant .none j p) .Hu
 |str {x:Str}{j p} (hx:NL x):Lit (.Constant (.str x) j p) (.str x)
 |neg {i:Int}{j p q}:Lit (.UnaryOp .USub (.Constant (.int i) j p) q) (.int (-i))
 |tup {es:List Expr}{ds:List D}{k p} (h:L7 es ds) (n:ds.length<=1000):Lit (.Tuple es k p) (.tup ds)
 |lst {es:List Expr}{ds:List D}{p} (h:L7 es ds) (n:ds.length<=1000):Lit (.List es p) (.lst ds)
inductive L7:List Expr->List D->Prop
 |nil:L7 [] []
 |cons {e:Expr}{d:D}{es:List Expr}{ds:List D}(h:Lit e d) (r:L7 es ds):L7 (e::es) (d::ds)
end
section
variable {X:Cx}{W:WT}
theorem SE.eq {e:Expr}{g g':GH D}(h:SE X W e g)(q:g=g'):SE X W e g':=q▸h
theorem SA.eq {e:List Expr}{g g':GH (List D)}(h:SA X W e g)(q:g=g'):SA X W e g':=q▸h
theorem yK {e:Expr}{d:D}(h:Lit e d)(es:List Expr):starEach (e::es) X.env=(false,eval e X.env)::starEach es X.env:=by cases h<;>rfl
mutual
theorem jt:∀ {e:Expr}{d:D},Lit e d->SE X W e (aC d)
 |_,_,.int=>aj
 |_,_,.bl=>fu
 |_,_,.Hu=>Cy
 |_,_,.str a=>dI a
 |_,_,.neg=>SE.eq (wf qr aj) rfl
 |_,_,.tup (ds:=ds) h n=>SE.eq (ej (u3 h)) (by
   funext ρ S;show aM (JA ds (.tup ds)) S=GW (.tup ds) S;unfold JA
   rw[if_pos (Nat.le_trans n (by decide))];rfl)
 |_,_,.lst (ds:=ds) h n=>SE.eq (gL (u3 h)) (by
   funext ρ S;show aM (JA ds (.lst ds)) S=GW (.lst ds) S;unfold JA
   rw[if_pos (Nat.le_trans n (by decide))];rfl)
theorem u3:∀ {es:List Expr}{ds:List D},L7 es ds->SA X W es (λ_ S=>GW ds S)
 |_,_,.nil=>ai
 |_,_,.cons h r=>SA.eq (ae (jt h) (u3 r) (yK h _)) rfl
end
end
def EY (F:GN)(t:GH (List D)):GH D:=λc S=>ah (t c S) λa b=>F a b
def DF (c:Str)(t:GH (List D)):GH Fl:=λe S=>ah (t e S) λa b=>ah (aM (JA a .Hu) b) λ_ d=>some (.error c,d)
end L2
namespace L2
open PySem PySem.Spec PySem.Calls PyProof.Rows PySem.W
structure Ul (K:Frag) (C:Addr):Prop where
 cls:findIn K (.ref C) "__class__"=some (some (.builtin "object.__class__"))
 ga:findIn K (.ref C) "__getattribute__"=some (some (.builtin "BaseException.__getattribute__"))
 gn:findIn K (.ref C) "__getattr__"=some none
 so:subIn K (.ref C) (.type "object")=some true
 sb:subIn K (.ref C) (.type "BaseException")=some true
 is:(clsIn K C).isSome=true
end L2
namespace L2
open PySem PySem.Spec PyProof.Rows PySem.W
section
variable {X:Cx}{pins:GK}{σ:St}{H:Hp}{s:Shared}
theorem Inv.OC (I:Inv X pins σ H s){a:Addr}{o:HO}(y:H a=none)(k:X.s₀.heap.get? a=none)(A:a≠X.env.locals)(hc:∀ x c,X.env.cells.lookup x=some c->c≠a)(r:∀ p∈X.pn++pins,p.1≠a)
  (ok:Hm X.prog X.w (upd H a o) s.heap a o):Inv X pins σ (upd H a o) s:=by
 have C:∀ b d,X.s₀.heap.get? b=some d->b≠a:=λb d e z=>by rw[z,k] at e;cases e
 have f:∀ b u,H b=some u->b≠a:=λb u e z=>by rw[z,y] at e;cases e
 refine⟨I.ok,I.os,I.bare,⟨I.base.keep,I.base.slot,λb d e n B=>?_,I.base.there,λb h e=>?_,λb d u e=>?_,λb l e=>?_⟩,I.loc,I.cell,?_,λx c e=>?_,λp g=>?_,λb u e=>?_,I.len⟩
 ·rw[aA (C b d e)];exact I.base.free b d e n B
 ·have q:=I.base.JW b h e;rw[aA (f b _ q)];exact q
 ·have q:=I.base.JK b d u e;rw[aA (f b _ q)];exact q
 ·obtain⟨m,q⟩:=I.base.JL b l e;exact⟨m,by rw[aA (f b _ q)];exact q⟩
 ·rw[aA (Ne.symm A)];exact I.free
 ·rw[aA (hc x c e)];exact I.Ih x c e
 ·obtain⟨i,j,t⟩:=I.pin p g;exact⟨i,by rw[aA (r p g)];exact j,t⟩
 by_cases hb:b=a
 ·subst hb;rw[GV] at e;cases e;exact ok
 rw[aA hb] at e;exact(I.Ha b u e).Ir (λc v _ q=>q) (λc q=>by rw[aA (f c _ q)];exact q) λc h q=>by rw[aA (f c _ q)];exact q
end
section
variable {X:Cx}{W:WT}{e:Expr}{fe fa:GH D}{pos p p2:Pos}
def EB (a:Str->Option Bool)(d:D)(S:GO):Option D:=match d with
 | .loc l=>(match S[l]? with
  |some (.exc c)=>(a c).map .bl
  |_=>none)
 |_=>none
def F7 (a:Str->Option Bool)(fe:GH D):GH D:=λc S=>ah (fe c S) λd b=>aM (EB a d b) b
end
def d9 (gt:GH Bool)(e:GH Fl):Nat->GH Fl
 | 0,_,_=>none
 |n+1,ρ,S=>ah (gt ρ S) λb g=>if b=true then ah (e ρ g) λf c=>(match f with
   | .next a=>d9 gt e n a c
   | .cont a=>d9 gt e n a c
   | .brk a=>GW (.next a) c
   | .ret d=>GW (.ret d) c) else GW (.next ρ) g
def rE (n:Nat)(gt:GH Bool)(a:GH Fl):GH Fl:=d9 gt a n
section
variable {X:Cx}{W:WT}{pos:Pos}
theorem uH {gt:GH Bool}{u:GH Fl}{n:Nat}{D:Ends}{w:St}{H:Hp}(h:tS X W (rE n gt u) D w H):yH (tT X W gt) (tS X W u) D w H:=by
 refine⟨λm w H=>tS X W (d9 gt u m) D w H,⟨n,h⟩,λm w H h=>?_⟩;obtain⟨J,i,S,r,B,c,e,z⟩:=h;cases m with
 |zero=>cases e
 |succ m =>
  unfold d9 at e;cases q:gt i S with
  |none=>simp[q] at e
  |some o =>
   obtain⟨I,k⟩:=o;simp only[q] at e;cases I with
   |error y =>
    cases e;exact⟨J,i,S,.error y,_,c,.nil,q,z⟩
   |ok b =>
    refine⟨J,i,S,.ok b,k,c,.nil,q,λt E N x G m1=>?_⟩;cases m1;have A:Cf X t i k w E:=c.re x G;have z1:Js X W t E r B D:=Js.ex z x;cases b with
    |false =>
     have e:(GW (.next i) k:Out Fl)=some (r,B):=e;cases e;exact z1 t w E Ex.refl A
    |true =>
     refine⟨λg j=>tS X W (d9 gt u m) D g j,λg j M=>⟨m,lt_succ_self m,M⟩,?_⟩
     have e:ah (u i k) (λf p=>(match f with
       | .next a=>d9 gt u m a p
       | .cont a=>d9 gt u m a p
       | .brk a=>GW (.next a) p
       | .ret d=>GW (.ret d) p:Out Fl))=some (r,B):=e
     cases q2:u i k with
     |none=>simp[q2] at e
     |some o2 =>
      obtain⟨L,p⟩:=o2;rw[q2] at e;cases L with
      |error y =>
       cases e;exact⟨t,i,k,.error y,_,A,q2,λs j l F=>z1 s j l F⟩
      |ok f =>
       cases f with
       |next a=>exact⟨t,i,k,_,p,A,q2,λs g j l C=>⟨s,a,p,r,B,C,e,Js.ex z1 l⟩⟩
       |cont a=>exact⟨t,i,k,_,p,A,q2,λs g j l C=>⟨s,a,p,r,B,C,e,Js.ex z1 l⟩⟩
       |brk a =>
        cases e;exact⟨t,i,k,_,_,A,q2,λs g j l C=>z1 s g j l C⟩
       |ret d =>
        cases e;exact⟨t,i,k,_,_,A,q2,λs j v l F K=>z1 s j v l F K⟩
theorem yL {t:Expr}{body:List Stmt}{gt:GH Bool}{a:GH Fl}{n:Nat}(c:PassesOwn (model X.prog X.w) X.A X.env X.xe)(b:Jz X W t gt)(hb:Lp X W body a):SS X W (.While t body [] pos) (rE n gt a):=
 PS.imp (y_ c b hb) λE d H h=>uH h
end
section
variable {X:Cx}{W:WT}{fe fa:GH D}
theorem eQ:∀ {us:List Value}{ns:List Int},Vals (ns.map V.int) us->IntsAre us ns
 |_,[],r=>by cases r;exact .nil
 |_,n::ns,r=>by
  cases r with
  |cons a b =>
   obtain⟨t,rfl⟩:=a;exact .cons n t (eQ b)
theorem zB:Q1 X "list.index" (λx c H Q => ∃ (a:Addr) (ns:List Int) (k:Int),x = .ref a/\c=[.int k]/\Ks X.K H a (ns.map V.int)/\PyData.layable0 (.list (ns.map .int))=true/\k∈ns/\Q (.int (ns.idxOf k:Nat)) H):=by intro b s t H x c v w Q I l j h;obtain⟨a,ns,k,rfl,rfl,e,p,i,q⟩:=h;cases l;obtain⟨u,rfl,r⟩:=vals1 j;obtain⟨t2,rfl⟩:=r;obtain⟨its,g,⟨o,n,d,f,_,m⟩,_⟩:=I.list e;exact index_list_ints (vs:=its) ⟨o,d,f,n,m⟩ (eQ g) p i ⟨.int _,H,I.tok _,⟨_,rfl⟩,q⟩
def qX:D->Bool
 | .lst _=>true
 |_=>false
def nO:D->D->Option D
 | .lst a,.int k=>(cb a).bind λns=>if k∈ns/\PyData.layable0 (.list (ns.map .int))=true then some (.int (ns.idxOf k:Nat)) else none
 |_,_=>none
theorem Di {J:List Addr}{b:Hp}{d:D}{v:V}(e:qX d=true)(m:At X.K b J d v):O8 X.K "list" v b:=by
 cases d<;>first |(cases e;done) |skip
 rename_i f;obtain⟨a,c,rfl,lq,_⟩:=At.G8.mp m;exact .inl ⟨rfl,c,lq.sq⟩
theorem zF {o:Expr}{name:Str}{b c:Pos}{a:Expr}(w:name="index")(C:SE X W o fe)(z:SE X W a fa)(u:attributeBase o name X.env (eval o X.env)=eval o X.env:=by rfl)
  (l:((backTo c (starEach [a] X.env)).all (λx => !x.1)&&(backToKw c (keywordEach [] X.env)).all (λx=>x.1.isSome)
   && decide ([a].length+([]:List Keyword).length+(if ([]:List Keyword).isEmpty then 0 else 1)<30))=true:=by rfl)
  (g:(b.endLine==c.line)=true:=by rfl) (f:starEach [a] X.env=(false,eval a X.env)::starEach [] X.env:=by rfl) (B:(backTo c (starEach [] X.env)).any (·.1)=false:=by rfl) :
  SE X W (.Call (.Attribute o name b) [a] [] c) (rG qX nO fe fa):=by
 subst w;refine PE.imp (wo F.plainAttrs_list F.slot_list_index F.type_list_index zB C (b_ z HB f) u l g f B) λG H Q h=>nG (λJ D d v n m=>Di n m) (λv L s Q q=>?_) h;obtain⟨J,K,N,I,E,r,y,eq,q⟩:=q;unfold nO at eq;split at eq
 ·rename_i M k;obtain⟨ns,i,e⟩:=bind_eq_some_iff.mp eq;split at e
  ·rename_i hc;cases e;cases At.GQ.mp y;obtain⟨a,j,rfl,lq,A⟩:=At.G8.mp r;have p:=fD i;subst p;have t:j=ns.map V.int:=GU.Jr A;subst t;exact⟨a,ns,k,rfl,rfl,lq.sq,hc.2,hc.1,q s _ (G5.refl _) (At.GQ.mpr rfl)⟩
  cases e
 cases eq
end
section
variable {X:Cx}{W:WT}{e:Expr}{fe:GH D}{pos p:Pos}{x:Str}
def Ey (d:D)(S:GO):Option D:=match d with
 | .loc l=>(match S[l]? with
  |some (.dict kvs)=>some (.int kvs.length)
  |_=>none)
 |_=>none
theorem ua (hc:X.calm=true):gJ X (.type "list") (λy H Q => ∃ (p:Addr) (d:List (Key×V)),y=[.ref p]/\H p=some (.dK d)/\∀ l,H l=none->Q (.ref l) (upd H l (.lst (d.map λq=>kV q.1)))):=by
 intro n s M H y O Q I r h;obtain⟨p,d,rfl,F,q⟩:=h;obtain⟨u,rfl,L⟩:=vals1 r;cases L;obtain⟨j,J,g,t,hd⟩:=I.Ha p _ F;obtain⟨ep,A⟩:=hd.dictAt;have b:g.length=d.length:=(KV.length t).symm;refine kdl_call (kdl_dict (kvs:=g) (ep:=ep) (knd:=bL X.prog X.w) J) (I.ok.hd hc) A (by rw[b];exact j) λN tk a c k G K=>?_;obtain⟨a1,a2⟩:=K;have z:Vals (d.map λq=>kV q.1) a.toList:=by refine kJ (by have e:a.toList.length=a.size:=length_toList;rw[length_map,e,a1,b]) λi v u f m=>?_;rw[getElem?_toList] at m;obtain⟨k,x,e,B⟩:=a2 i u m;rw[getElem?_map] at f;obtain⟨q,C,D⟩:=map_eq_some_iff.mp f;have E:=(ny t i q (k,x) C e).1;rw[← D,E];exact wF B
 exact⟨.ref s.heap.objs.size,_,I.laid (t':=tk) (o:=.lst (d.map λq=>kV q.1)) k (le_refl _) ⟨by rw[length_map];exact j,a.toList,c,z,by simpa using G⟩,rfl,q _ I.fresh⟩
def gC (d:D)(S:GO):Option D:=match d with
 | .loc l=>(match S[l]? with
  |some (.dict kvs)=>if kvs.length<=sizeLine then some (.lst (kvs.map (·.1))) else none
  |_=>none)
 |_=>none
def kW (fe:GH D):GH D:=λb S=>ah (fe b S) λd a=>aM (gC d a) a
theorem su (N:X.A.units+1<cLine)(F:X.mg x=none)(g:SE X W e fe)(hc:X.calm=true:=by rfl)(E:x="list":=by rfl)(D:Gl X x:=by rfl)(k:starEach [e] X.env=(false,eval e X.env)::starEach [] X.env:=by rfl)(C:(backTo pos (starEach [] X.env)).any (·.1)=false:=by rfl) :
  SE X W (.Call (.Name x p) [e] [] pos) (kW fe):=by
 subst E;refine PE.imp (i4 (ua hc) D F rH (b_ g HB k) (by decide) (by decide) k C) λM H Q h=>?_;refine(tG.G1 h).mono λv y ⟨d,u⟩=>?_;obtain⟨J,P,S,r,O,c,m,eq,z⟩:=u;obtain⟨m,_⟩:=m.GY;show r_ _ _ _;unfold gC at eq;cases d with
 |loc l =>
  obtain⟨a,rfl,w⟩:=At.G7.mp m;cases hS:S[l]? with
  |none=>simp[hS] at eq
  |some G =>
   cases G with
   |dict b =>
    simp only[hS] at eq;split at eq
    ·rename_i j;cases eq;obtain⟨n,o,s⟩:=c.Hi.at_ l a _ w hS;refine⟨a,n,rfl,o,λL i=>?_⟩
     have I:GU X.K y J (b.map (·.1)) (n.map λq=>kV q.1):=by
      clear hS z o j
      induction s with
      |nil=>exact .nil
      |cons f t B=>exact .cons f.1.2 B
     refine z J _ _ (Ex.same (aP i _)) (c.Hi.same (aP i _)) (At.HU I i (λa g=>c.Hi.tracked g) ?_);rw[length_map,← s.length];exact j
    cases eq
   |_=>simp[hS] at eq
 |_=>simp at eq
end
def fw (a b:D):Bool:=match gD a,gD b with
 |some p,some q=>PyData.eqv p q
 |_,_=>false
def putN (kvs:List (D×D))(k v:D):List (D×D):=if (kvs.any λp=>fw p.1 k)=true then kvs.map (λp=>if fw p.1 k=true then (p.1,v) else p) else kvs++[(k,v)]
def jY (kvs:List (D×D))(k:D):Option D:=(kvs.find? λp=>fw p.1 k).map (·.2)
noncomputable def jS (b:List (PyData×Addr×V)) (k:PyData) (a:Addr) (v:V):List (PyData×Addr×V):=if (b.any λp=>decide (p.1=k))=true then b.map (λp=>if p.1=k then (p.1,p.2.1,v) else p) else b++[(k,a,v)]
noncomputable def o0 (a:List (PyData×Addr×V)) (k:PyData):Option V:=(a.find? λp=>decide (p.1=k)).map (·.2.2)
abbrev RQ:(PyData×Addr×V)->(PyData×Addr×Value)->Prop:=λp q=>p.1=q.1/\p.2.1=q.2.1/\RelV p.2.2 q.2.2
theorem qU {d:D}{p:PyData}(h:gD d=some p):toPy d=some p/\keyOk 8 p=true:=by
 unfold gD at h;obtain⟨q,b,a⟩:=bind_eq_some_iff.mp h;split at a
 ·rename_i c;cases a;exact⟨b,c⟩
 cases a
section
variable {K:GI}{H H':Hp}{J J':List Addr}
theorem m6 {a k:D}{x y:PyData}(h:gD a=some x)(g:gD k=some y):fw a k=decide (x=y):=by unfold fw;rw[h,g];exact pL (qU h).2 (qU g).2
theorem DP {kvs:List (D×D)}{a:List (PyData×Addr×V)}{k:D}{y:PyData}(g:gD k=some y)(r:Paired (L3 K H J) kvs a):(kvs.any λp=>fw p.1 k)=a.any λq=>decide (q.1=y):=by
 induction r with
 |nil=>rfl
 |cons h t b=>rw[any_cons,any_cons,b,m6 h.1.1 g]
theorem xv {kvs:List (D×D)}{a:List (PyData×Addr×V)}{k v:D}{y:PyData}{w:V}(g:gD k=some y)(b:At K H J v w)(r:Paired (L3 K H J) kvs a) :
  Paired (L3 K H J) (kvs.map λp=>if fw p.1 k=true then (p.1,v) else p) (a.map λq=>if q.1=y then (q.1,q.2.1,w) else q):=by
 induction r with
 |nil=>exact .nil
 | @cons p q f d h t c =>
  refine .cons ?_ c;show L3 K H J (if fw p.1 k=true then (p.1,v) else p) (if q.1=y then (q.1,q.2.1,w) else q);rw[m6 h.1.1 g];by_cases e:q.1=y
  ·rw[if_pos (decide_eq_true e),if_pos e];exact⟨h.1,b⟩
  rw[if_neg (by rw[decide_eq_false e];decide),if_neg e];exact h
theorem xx {k v:D}{y:PyData}{b:Addr}{w:V}(g:gD k=some y)(f:At K H J k (.ref b))(d:At K H J v w){c:List (D×D)}{a:List (PyData×Addr×V)}(h:Paired (L3 K H J) c a):Paired (L3 K H J) (c++[(k,v)]) (a++[(y,b,w)]):=by
 induction h with
 |nil=>exact .cons ⟨⟨g,f⟩,d⟩ .nil
 |cons h t e=>exact .cons h e
theorem CM {kvs:List (D×D)}{c:List (PyData×Addr×V)}{k v:D}{y:PyData}{b:Addr}{w:V}(g:gD k=some y)(d:At K H J k (.ref b))(a:At K H J v w)(r:Paired (L3 K H J) kvs c):Paired (L3 K H J) (putN kvs k v) (jS c y b w):=by
 unfold putN jS;rw[DP g r];split
 ·exact xv g a r
 exact xx g d a r
theorem zU {kvs:List (D×D)}{a:List (PyData×Addr×V)}{k:D}{y:PyData}(g:gD k=some y)(r:Paired (L3 K H J) kvs a) :
  (jY kvs k=none/\o0 a y=none)∨∃ d v,jY kvs k=some d/\o0 a y=some v/\At K H J d v:=by
 unfold jY o0
 induction r with
 |nil=>exact .inl ⟨rfl,rfl⟩
 | @cons p q f c h t b =>
  rw[find?_cons,find?_cons,m6 h.1.1 g];by_cases e:q.1=y
  ·rw[decide_eq_true e];exact .inr ⟨p.2,q.2.2,rfl,rfl,h.2⟩
  rw[decide_eq_false e];exact b
end
theorem CG {b:List (PyData×Addr×V)}{a:List (PyData×Addr×Value)}(r:Paired RQ b a)(k:PyData):(b.any λp=>decide (p.1=k))=(atKey a k).isSome:=by
 unfold atKey;rw[isSome_map]
 induction r with
 |nil=>rfl
 | @cons p q d f h t c =>
  rw[any_cons,find?_cons,c,h.1];by_cases e:q.1=k
  ·rw[decide_eq_true e];rfl
  rw[decide_eq_false e];rfl
theorem y4 {b:List (PyData×Addr×V)}{a:List (PyData×Addr×Value)}(r:Paired RQ b a)(k:PyData):Im (o0 b k) ((atKey a k).map (·.2)):=by
 unfold o0 atKey
 induction r with
 |nil=>exact True.intro
 | @cons p q d f h t c =>
  rw[find?_cons,find?_cons,h.1];by_cases e:q.1=k
  ·rw[decide_eq_true e];exact h.2.2
  rw[decide_eq_false e];exact c
theorem CD {b:List (PyData×Addr×V)}{a:List (PyData×Addr×Value)}(r:Paired RQ b a)(k:PyData){v:V}{u:Value}(d:RelV v u):Paired RQ (b.map λp=>if p.1=k then (p.1,p.2.1,v) else p) (a.map (putAt k u)):=by
 induction r with
 |nil=>exact .nil
 | @cons p q f g h t c =>
  refine .cons ?_ c;show RQ (if p.1=k then (p.1,p.2.1,v) else p) (putAt k u q);unfold putAt;by_cases e:p.1=k
  ·rw[if_pos e,if_pos (h.1.symm.trans e)];exact⟨h.1,h.2.1,d⟩
  rw[if_neg e,if_neg (λz=>e (h.1.trans z))];exact h
theorem CF {c:List (PyData×Addr×V)}{a:List (PyData×Addr×Value)}(r:Paired RQ c a)(k:PyData)(b:Addr){v:V}{u:Value}(e:RelV v u):Paired RQ (c++[(k,b,v)]) (a++[(k,b,u)]):=by
 induction r with
 |nil=>exact .cons ⟨rfl,rfl,e⟩ .nil
 |cons h t d=>exact .cons h d
theorem CC {d:List (PyData×Addr×V)}{c:List (PyData×Addr×Value)}(r:Paired RQ d c)(k:PyData)(b:Addr){v:V}{u:Value}(a:RelV v u):Paired RQ (jS d k b v) (storedH c k b u):=by
 unfold jS storedH;rw[CG r k];split
 ·exact CD r k a
 exact CF r k b a
theorem xt (a:List (PyData×Addr×V))(k:PyData)(b:Addr)(v:V):(jS a k b v).length<=a.length+1:=by
 unfold jS;split
 ·rw[length_map];omega
 rw[List.length_append];simp
section
variable {X:Cx}{pins:GK}{σ:St}{H:Hp}{s:Shared}{J:List Addr}{a:Addr}
theorem mj (I:Inv X pins σ H s){d:D}{y:PyData}{b:Addr}(g:gD d=some y)(m:At X.K H J d (.ref b)):(j6 X.prog X.w).is s.heap y b:=by obtain⟨a,c⟩:=qU g;exact⟨c,(At.reads I m (show RelV (.ref b) (.ref b) from rfl) a).2⟩
theorem wO {kvs:List (D×D)}{c:List (PyData×Addr×V)}(I:Inv X pins σ H s)(e:H a=some (.dN c))(r:Paired (L3 X.K H J) kvs c) :
  c.length<=sizeLine/\(a==sysModules)=false/\∃ b,Paired RQ c b/\s.heap.DictOfH (j6 X.prog X.w) a b:=by
 obtain⟨z,y,b,q,o,es,ep,d,g,i,f,j⟩:=I.Ha a _ e;refine⟨z,y,b,q,o,es,ep,d,g,i,f,?_,j⟩;clear d g i f j z e
 induction r generalizing b with
 |nil=>cases q;intro x hx;exact nomatch hx
 | @cons p u v n h t l =>
  cases q with
  |cons k m =>
   intro x hx;rcases mem_cons.mp hx with e |hx
   ·subst e;rw[← k.1,← k.2.1];exact mj I h.1.1 h.1.2
   exact l _ m x hx
end
def vY (K:GI)(H:Hp)(a:Addr)(y:V)(r:Option V):Prop:=∃ J c d f e b,H a=some (.dN d)/\Paired (L3 K H J) c d/\gD f=some e/\At K H J f (.ref b)/\y = .ref b/\r=o0 d e
def E8 (K:GI)(H:Hp)(a:Addr)(y v:V)(H':Hp):Prop:=∃ J d c f e b,H a=some (.dN c)/\Paired (L3 K H J) d c/\gD f=some e/\At K H J f (.ref b)/\y = .ref b/\c.length<sizeLine/\H'=upd H a (.dN (jS c e b v))
section
variable {X:Cx}{pins:GK}{σ:St}{H:Hp}{s:Shared}{a:Addr}{y v:V}{u r:Value}{o:Option V}{A:Around}{E:GJ}
theorem vh (a:A.units+150<cLine):(j6 X.prog X.w).room A.in1:=by show A.units+1+8<cLine;omega
theorem xJ {Q:GJ}(r:A.units+150<cLine)(I:Inv X pins σ H s)(g:vY X.K H a y (some v))(k:RelV y u)(h:∀ c s',Inv X pins σ H s'->RelV v c->Q c s') :
  wpAny (model X.prog X.w) A (getItem (.ref a) u) Q E s:=by
 obtain⟨J,n,F,D,d,b,e,m,f,mk,B,l⟩:=g;subst B;cases (show u=Value.ref b from k);obtain⟨z,hd,C,rel,i⟩:=wO I e m;obtain⟨c,q,x⟩:=Im.some_of (v:=v) (o:=(atKey C d).map (·.2)) (by rw[l];exact y4 rel d);obtain⟨p,t,j⟩:=map_eq_some_iff.mp q;refine wpAny_getItem_heap (vh r) (mj I f mk) i t ?_;rw[j];exact h c _ (I.tok _) x
theorem Bo {Q:GJ}(k:A.units+150<cLine)(I:Inv X pins σ H s)(g:vY X.K H a y o)(f:RelV y u)(h:∀ s',Inv X pins σ H s'->Q (.bool (!o.isSome)) s') :
  wpAny (model X.prog X.w) A (compareOp .NotIn u (.ref a)) Q E s:=by
 obtain⟨J,j,r,p,m,b,e,i,c,mk,n,l⟩:=g;subst n;cases (show u=Value.ref b from f);obtain⟨z,hd,t,rel,d⟩:=wO I e i;refine wpAny_notIn_heap (vh k) (mj I c mk) hd d ?_;have q:=(y4 rel m).HK;rw[isSome_map] at q;rw[← q,← l];exact h _ (I.tok _)
theorem xI {H':Hp}{Q:Unit->Shared->Prop}(D:A.units+150<cLine)(I:Inv X pins σ H s)(g:E8 X.K H a y v H')(p:RelV y u)(o:RelV v r)(h:∀ s',Inv X pins σ H' s'->Q () s') :
  wpAny (model X.prog X.w) A (setItem (.ref a) u r) Q E s:=by
 obtain⟨J,B,d,P,c,b,e,x,i,mk,N,l,m⟩:=g;subst N m;cases (show u=Value.ref b from p);obtain⟨z,hd,O,rel,n⟩:=wO I e x;have C:O.length<=sizeLine:=by rw[← Paired.length rel];exact z
 have k:(jS d c b v).length<=sizeLine:=by have:=xt d c b v;omega
 refine wpAny_setItem_heap (hsz:=C) (vh D) (mj I i mk) n λR L M=>h _ ?_;obtain⟨q,es,ep,f,t,F,j,_,G⟩:=L;exact rl I (by rw[e];exact True.intro) M ⟨q,f⟩ ⟨k,hd,_,CC rel c b o,q,es,ep,f,t,F,j,G⟩
theorem zx (I:Inv X pins σ H s)(g:vY X.K H a y o):s.TypeIs (.ref a) "dict":=by obtain⟨J,d,n,j,i,b,e,c,h,mk,k,l⟩:=g;obtain⟨_,_,m,_,f⟩:=wO I e c;exact f.typeIs
end
section
variable {X:Cx}{o i e value:Expr}{pos pos' PD:Pos}{td ty tv:TE}
theorem A8 (l:X.A.units+150<cLine)(B:PE X o td)(r:PE X i ty)(z:yu i):PE X (.Subscript o i pos) (λc H Q=>td c H λx e=>ty c e λy d => ∃ a v,x = .ref a/\vY X.K d a y (some v)/\Q v d):=by intro b s c H Q I h;refine wc PySem.F.slot_dict_getitem.lookup z (Hb (B b s c H _ I h) λu k ⟨x,e,C,p,n⟩=>Hb (r b k c e _ C n) λE J w=>?_);obtain⟨y,d,f,j,a,v,ex,g,q⟩:=w;subst ex;obtain rfl:u=Value.ref a:=p;exact⟨zx f g,xJ l f g j λG D m t=>⟨v,d,m,t,q⟩⟩
theorem xC (l:X.A.units+150<cLine)(r:PE X i ty)(w:PE X o td):PC X .NotIn i o (λc H Q=>ty c H λy e=>td c e λx d => ∃ a o,x = .ref a/\vY X.K d a y o/\Q (.bl (!o.isSome)) d):=by intro b s c H Q I h;refine Hb (r b s c H _ I h) λC k ⟨y,e,z,j,n⟩=>Hb (w b k c e _ z n) λu D t=>?_;obtain⟨x,d,v,p,a,f,ex,g,q⟩:=t;subst ex;obtain rfl:u=Value.ref a:=p;exact Bo l v g j λB m=>⟨.bl (!f.isSome),d,m,rfl,q⟩
theorem A0 (p:X.A.units+150<cLine)(M:PE X o td)(C:PE X i ty)(k:PE X value tv)(L:swapsWith value (some (.Subscript o i pos')) pos.line X.env=pure false) :
  PS X (.Assign [.Subscript o i pos'] value pos) (λD c H=>tv c H λv e=>td c e λx f=>ty c f λy j => ∃ a d,x = .ref a/\E8 X.K j a y v d/\D.nx c d):=by
 intro b s c H D I h;refine wpAny_Assign_Subscript (Hb (k b s c H _ I h) λr m ⟨v,e,N,l,t⟩=>Hb (M b m c e _ N t) λu F ⟨x,f,G,z,B⟩=>Hb (C b F c f _ G B) λP O E=>?_) L;obtain⟨y,j,q,n,a,d,ex,g,J⟩:=E;subst ex;obtain rfl:u=Value.ref a:=z;exact xI p q g n l λQ w=>⟨c,d,w,J⟩
end
def fC:D->Bool
 | .tup _=>true
 |_=>false
section
variable {X:Cx}{W:WT}{pos pos':Pos}{o i e:Expr}{fo fi fv:GH D}
def wT:GH D:=λ_ S=>GW (.loc S.length) (S++[.GZ []])
theorem MF:PE X (.Dict [] [] pos) (λ_ H Q => ∀ p,H p=none->Q (.ref p) (upd H p (.dN []))):=λb s c H Q I h =>
 wpAny_Dict_empty ⟨.ref s.heap.objs.size,_,I.laid (a:=s.heap.objs.size) (o:=.dN []) (t':=s.toks) (λ_ _ q=>Heap.get?_push_of_some _ q) (le_refl _)
  ⟨zero_le _,beq_eq_false_iff_ne.mpr (Ne.symm (ne_of_lt I.big)),[],.nil,_,#[],0,Heap.get?_push_size _ rfl,⟨rfl,rfl,rfl⟩,rfl,rfl,nodup_nil⟩,rfl,h _ (I.Ha.fresh (le_refl _))⟩
theorem wj:SE X W (.Dict [] [] pos) wT:=MF.imp λf H Q h=>by obtain⟨J,b,S,r,d,c,_,e,z⟩:=h;cases e;intro p a;have q:=c.Hi.push (o:=.dN []) (mo:=.GZ []) a ⟨[],GV,.nil⟩;refine z (J++[p]) _ _ q.2 q.1 (At.G7.mpr ⟨p,rfl,?_⟩);rw[← c.Hi.len,getElem?_append_right (le_refl _)];simp
def nw (x k v:D)(ρ:GP)(S:GO):Out Fl:=match x with
 | .loc l=>match S[l]?,gD k with
  |some (.GZ kvs),some _=>if kvs.length<sizeLine/\fC k=true then GW (.next ρ) (S.set l (.GZ (putN kvs k v))) else none
  |_,_=>none
 |_=>none
def uj (fo fi fv:GH D):GH Fl:=λa S=>ah (fv a S) λv c=>ah (fo a c) λx d=>ah (fi a d) λk b=>nw x k v a b
theorem qt {K:GI}{H:Hp}{J:List Addr}{d:D}{v:V}(h:fC d=true)(m:At K H J d v):∃ b,v = .ref b:=by
 cases d with
 |tup a=>obtain⟨b,_,e,_⟩:=At.G3.mp m;exact⟨b,e⟩
 |_=>cases h
theorem we (L:X.A.units+150<cLine)(R:SE X W o fo)(N:SE X W i fi)(G:SE X W e fv)(Q:swapsWith e (some (.Subscript o i pos')) pos.line X.env=pure false:=by rfl):SS X W (.Assign [.Subscript o i pos'] e pos) (uj fo fi fv):=
 (A0 L R N G Q).imp λE j H h=>by
  have h:tH X W [] [] (uj fo fi fv) E j H:=let ⟨J,B,S,r,s,c,e,z⟩:=h;⟨J,B,S,r,s,c,.nil,e,z⟩;refine(tH.G1 h).mono λv V ⟨D,C⟩=>(tH.G1 C).mono λx Z ⟨O,I⟩=>(tH.G1 I).mono λy Y ⟨k,M⟩=>?_;obtain⟨J,B,S,r,s,c,m,e,z⟩:=M;obtain⟨mk,m⟩:=m.GY;obtain⟨T,m⟩:=m.GY;obtain⟨mv,_⟩:=m.GY;unfold nw at e;cases O with
  |loc l =>
   simp only at e;split at e
   ·rename_i d w es n;split at e
    ·rename_i lt;cases e;obtain⟨a,rfl,u⟩:=At.G7.mp T;obtain⟨t,K,g⟩:=c.Hi.at_ l a _ u es;obtain⟨b,rfl⟩:=qt lt.2 mk;have q:=c.Hi.update (o:=.dN (jS t w b v)) (mo:=.GZ (putN d k D)) u λJ' U f F P=>by subst F P;refine⟨_,GV,CM n (mk.ex f) (mv.ex f) ?_⟩;exact Paired.JJ g λp q z=>⟨⟨z.1.1,z.1.2.ex f⟩,z.2.ex f⟩
     exact⟨a,_,rfl,⟨J,d,t,k,w,b,K,g,n,mk,rfl,by rw[← jw g];exact lt.1,rfl⟩,z J j _ q.2 (c.re q.2 q.1)⟩
    cases e
   cases e
  |_=>cases e
def nE (neg:Bool)(k x:D)(S:GO):Option D:=match x with
 | .loc l=>match S[l]?,gD k with
  |some (.GZ kvs),some _=>if fC k=true then some (.bl (if neg then !(jY kvs k).isSome else (jY kvs k).isSome)) else none
  |_,_=>none
 |_=>none
def Al (neg:Bool)(d fd:GH D):GH D:=λb S=>ah (d b S) λk c=>ah (fd b c) λx a=>aM (nE neg k x a) a
theorem zu {neg:Bool}{g:St}{H:Hp}{Q:VK}(h:tE X W (Al neg fi fo) g H Q):tE X W fi g H λy n=>tE X W fo g n λx f => ∃ a o,x = .ref a/\vY X.K f a y o/\Q (.bl (if neg then !o.isSome else o.isSome)) f:=
 (tG.G1 h).mono λy n ⟨B,t⟩=>(tG.G1 t).mono λx f E=>by
  obtain⟨D,w⟩:=E
  obtain⟨J,M,S,r,L,c,m,e,z⟩:=w;obtain⟨I,m⟩:=m.GY;obtain⟨mk,_⟩:=m.GY;unfold nE at e;cases D with
  |loc l =>
   simp only at e;split at e
   ·rename_i i G es s;split at e
    ·rename_i u;cases e;obtain⟨a,rfl,F⟩:=At.G7.mp I;obtain⟨C,A,p⟩:=c.Hi.at_ l a _ F es;obtain⟨b,rfl⟩:=qt u mk;refine⟨a,_,rfl,⟨J,i,C,B,G,b,A,p,s,mk,rfl,rfl⟩,?_⟩;have q:=z J f _ Ex.refl c.Hi (At.G_.mpr rfl);rcases zU s p with ⟨k,j⟩ |⟨d,v,k,j,_⟩
     ·rw[k] at q;rw[j];exact q
     rw[k] at q;rw[j];exact q
    cases e
   cases e
  |_=>cases e
theorem o7 (e:X.A.units+150<cLine)(d:SE X W i fi)(j:SE X W o fo)(g:behindInMarks .NotIn o=false:=by with_unfolding_all rfl):Jz X W (.Compare i [.NotIn] [o] pos) (aT (Al true fi fo)):=
 (u5 (xC e d j) g).imp λb H Q h=>Ii.mono (t:=λb H Q=>tE X W fi b H λy f=>tE X W fo b f λx c => ∃ a o,x = .ref a/\vY X.K c a y o/\Q (.bl (!o.isSome)) c) (λ_ _ _=>zu (neg:=true)) (fm h)
def iG (x k:D)(S:GO):Option D:=match x with
 | .loc l=>match S[l]?,gD k with
  |some (.GZ kvs),some _=>if fC k=true then jY kvs k else none
  |_,_=>none
 |_=>none
def wU (fd d:GH D):GH D:=λb S=>ah (fd b S) λx c=>ah (d b c) λk a=>aM (iG x k a) a
theorem wg (w:X.A.units+150<cLine)(M:SE X W o fo)(E:SE X W i fi)(L:yu i:=by exact λ_ _=>rfl):SE X W (.Subscript o i pos) (wU fo fi):=(A8 w M E L).imp λP H Q h =>
 (tG.G1 h).mono λx O ⟨F,p⟩=>(tG.G1 p).mono λy B G=>by
  obtain⟨C,t⟩:=G
  obtain⟨J,T,S,r,R,c,m,e,z⟩:=t;obtain⟨mk,m⟩:=m.GY;obtain⟨N,_⟩:=m.GY;unfold iG at e;cases F with
  |loc l =>
   simp only at e;split at e
   ·rename_i f K es k;split at e
    ·rename_i s;obtain⟨a,rfl,I⟩:=At.G7.mp N;obtain⟨D,u,j⟩:=c.Hi.at_ l a _ I es;obtain⟨b,rfl⟩:=qt s mk;rcases zU k j with ⟨g,n⟩ |⟨d,v,g,n,q⟩
     ·rw[g] at e;cases e
     rw[g] at e;cases e;exact⟨a,v,rfl,⟨J,f,D,C,K,b,u,j,k,mk,rfl,n.symm⟩,z J B _ Ex.refl c.Hi q⟩
    cases e
   cases e
  |_=>cases e
end
def l0 (K:GI)(c f:Str):Prop:=∃ C,PySem.W.nsIn K mainGlobals c=some (some (.ref C))/\Ln K C/\Iw K C f
def MethAt (K:GI)(c m qual:Str)(st:Stmt)(a:List Str):Prop:=∃ C f fd,PySem.W.nsIn K mainGlobals c=some (some (.ref C))/\Ln K C/\Meth K C m f/\L1 K m qual st f fd/\Binds K fd a []
def DT (K:GI)(mg:GL)(c qual:Str)(st:Stmt)(a:List Str):Prop:=∃ C f fd,PySem.W.nsIn K mainGlobals c=some (some (.ref C))/\mg c=some (.ref C)/\Mk K C f/\L1 K "__init__" qual st f fd/\Binds K fd a []
def lI (f:Str)(v:D):List (Str×D)->List (Str×D)
 |[]=>[(f,v)]
 |(k,x)::r=>if k=f then (k,v)::r else (k,x)::lI f v r
section
variable {K:GI}{H H':Hp}{J J':List Addr}
theorem wK {fs:List (Str×D)}{vs:List (Str×V)}(r:Paired (Q3 K H J) fs vs)(f:Str):(fs.lookup f=none/\vs.lookup f=none)∨∃ d v,fs.lookup f=some d/\vs.lookup f=some v/\At K H J d v:=by
 induction r with
 |nil=>exact .inl ⟨rfl,rfl⟩
 | @cons p q l k h t b =>
  obtain⟨a,j⟩:=p;obtain⟨g,i⟩:=q;have c:a=g:=h.1;subst c;by_cases e:f=a
  ·have hb:(f==a)=true:=beq_iff_eq.mpr e;refine .inr ⟨j,i,?_,?_,h.2⟩<;>simp only[List.lookup,hb]
  have hb:(f==a)=false:=beq_eq_false_iff_ne.mpr e;simp only[List.lookup,hb];exact b
theorem Dw {fs:List (Str×D)}{vs:List (Str×V)}(r:Paired (Q3 K H J) fs vs)(f:Str){d:D}{v:V}(a:At K H J d v):Paired (Q3 K H J) (lI f d fs) (f6 f v vs):=by
 induction r with
 |nil=>exact .cons ⟨rfl,a⟩ .nil
 | @cons p q g c h t k =>
  obtain⟨b,j⟩:=p;obtain⟨m,i⟩:=q;have l:b=m:=h.1;subst l;rw[show lI f d ((b,j)::g)=(if b=f then (b,d)::g else (b,j)::lI f d g) from rfl,show f6 f v ((b,i)::c)=(if b=f then (b,v)::c else (b,i)::f6 f v c) from rfl];by_cases e:b=f
  ·rw[if_pos e,if_pos e];exact .cons ⟨rfl,a⟩ t
  rw[if_neg e,if_neg e];exact .cons h k
theorem GU.split:∀ {es ds:List D}{us vs:List V},es.length=us.length->GU K H J (es++ds) (us++vs)->GU K H J es us/\GU K H J ds vs
 |[],_,[],_,_,h=>⟨.nil,h⟩
 |e::es,ds,u::us,vs,hl,h=>by
  obtain⟨a,f⟩:=GU.GY (d:=e) (v:=u) (ds:=es++ds) (vs:=us++vs) h;obtain⟨b,c⟩:=GU.split (es:=es) (us:=us) (by simpa using hl) f;exact⟨.cons a b,c⟩
 |[],_,_::_,_,hl,_=>by simp at hl
 |_::_,_,[],_,hl,_=>by simp at hl
end
def vt (c:Str)(d:D)(S:GO):Option (List (Str×D)):=match d with
 | .loc l=>(match S[l]? with
  |some (.ins c' fs)=>if c'=c then some fs else none
  |_=>none)
 |_=>none
theorem wH {c:Str}{d:D}{S:GO}{fs:List (Str×D)}(h:vt c d S=some fs):∃ l,d = .loc l/\S[l]?=some (.ins c fs):=by
 unfold vt at h;split at h
 ·rename_i l;split at h
  ·rename_i b f e;split at h
   ·rename_i a;cases h;subst a;exact⟨l,rfl,e⟩
   cases h
  cases h
 cases h
section
variable {X:Cx}{W:WT}{pos pos' apos p:Pos}{o e value:Expr}{es:List Expr}{fo fv:GH D}{gs:GH (List D)}{c f m x:Str}
def jz (c f:Str)(d:D)(S:GO):Option D:=(vt c d S).bind λfs=>fs.lookup f
def iP (c f:Str)(fo:GH D):GH D:=λb S=>ah (fo b S) λd a=>aM (jz c f d a) a
theorem cS (T:l0 X.K c f)(E:SE X W o fo)(hb:attributeBase o f X.env (eval o X.env)=eval o X.env:=by rfl):SE X W (.Attribute o f pos) (iP c f fo):=
 (C6 E hb).imp λG H Q h=>(tG.G1 h).mono λx p A=>by
  obtain⟨i,g⟩:=A
  obtain⟨J,N,S,r,L,cf,D,b,z⟩:=g
  try dsimp only at b
  obtain⟨F,_⟩:=D.GY;cases q:jz c f i S with
  |none=>rw[q] at b;cases b
  |some d =>
   rw[q] at b;cases b;obtain⟨fs,g,e⟩:=bind_eq_some_iff.mp q;obtain⟨l,rfl,es⟩:=wH g;obtain⟨a,rfl,B⟩:=At.G7.mp F;obtain⟨C,i,t,n,u,s⟩:=cf.Hi.at_ l a _ B es;obtain⟨M,k,cl,w⟩:=T;rw[n] at k;cases k;rcases wK s f with ⟨j,_⟩ |⟨I,v,j,y,m⟩
   ·rw[j] at e;cases e
   rw[j] at e;cases e;exact⟨a,C,i,t,v,rfl,u,cl,w,y,z J p v Ex.refl cf.Hi m⟩
def mX (c f:Str)(d v:D)(ρ:GP)(S:GO):Out Fl:=match d with
 | .loc l=>(match S[l]? with
  |some (.ins c' fs)=>if c'=c/\fs.length<1000 then GW (.next ρ) (S.set l (.ins c (lI f v fs))) else none
  |_=>none)
 |_=>none
theorem yP {T:l0 X.K c f}{h:St}{H:Hp}{J:List Addr}{ρ:GP}{S k:GO}{r:Except Str Fl}{E:Ends}{d g:D}{x y:V}(cf:Cf X J ρ S h H)(L:At X.K H J d x)(w:At X.K H J g y)
  (b:mX c f d g ρ S=some (r,k)) (z:Js X W J H r k E):∃ a C e fs,x = .ref a/\H a=some (.ins C e fs)/\Ln X.K C/\Iw X.K C f/\fs.length<1000/\E.nx h (upd H a (.ins C e (f6 f y fs))):=by
 unfold mX at b;split at b
 ·rename_i l;split at b
  ·rename_i I fs es;split at b
   ·rename_i hc;obtain⟨B,u⟩:=hc;subst B;cases b;obtain⟨a,rfl,t⟩:=At.G7.mp L;obtain⟨C,e,j,n,A,i⟩:=cf.Hi.at_ l a _ t es;obtain⟨N,m,cl,F⟩:=T;rw[n] at m;cases m;have q:=cf.Hi.update (o:=.ins C e (f6 f y j)) (mo:=.ins I (lI f g fs)) t λO M s v G=>by subst v G;refine⟨C,e,_,n,GV,Dw (Paired.JJ i λp q z=>⟨z.1,z.2.ex s⟩) f (w.ex s)⟩
    exact⟨a,C,e,j,rfl,A,cl,F,by rw[← jw i];exact u,z J h _ q.2 (cf.re q.2 q.1)⟩
   cases b
  cases b
 cases b
def on (c f:Str)(fo fv:GH D):GH Fl:=λa S=>ah (fv a S) λv b=>ah (fo a b) λd e=>mX c f d v a e
theorem qB (T:l0 X.K c f)(q:SE X W o fo)(k:SE X W value fv)(p:swapsWith value (some (.Attribute o f pos')) pos.line X.env=pure false:=by rfl):SS X W (.Assign [.Attribute o f pos'] value pos) (on c f fo fv):=
 (CU q k p).imp λE m H h=>by
  have h:tH X W [] [] (on c f fo fv) E m H:=let ⟨J,i,S,r,g,c,e,z⟩:=h;⟨J,i,S,r,g,c,.nil,e,z⟩;refine(tH.G1 h).mono λy u ⟨t,j⟩=>(tH.G1 j).mono λx v ⟨d,n⟩=>?_;obtain⟨J,i,S,r,g,cf,a,b,z⟩:=n
  try dsimp only at b
  obtain⟨s,a⟩:=a.GY;obtain⟨l,_⟩:=a.GY;exact yP (T:=T) cf s l b z
def E5 (c f:Str)(d v y:D)(ρ:GP)(S:GO):Out Fl:=match v,y with
 | .int i,.int j=>mX c f d (.int (i+j)) ρ S
 |_,_=>none
def E4 (c f:Str)(fo fv:GH D):GH Fl:=λa S=>ah (fo a S) λd b=>ah (aM (jz c f d b) b) λv g=>ah (fv a g) λy e=>E5 c f d v y a e
def oB (P:Program)(w:World)(K:GI)(mg:GL)(base:Heap)(k:Nat)(c m:Str)(a:List Str)(F:GN):Prop:=
 ∃ C f fd,PySem.W.nsIn K mainGlobals c=some (some (.ref C))/\Ln K C/\Meth K C m f/\My P w K mg base k f fd a F/\Binds K fd a []
def DV (P:Program)(w:World)(K:GI)(mg:GL)(base:Heap)(k:Nat)(c:Str)(a:List Str)(F:GN):Prop:=
 ∃ C f fd,PySem.W.nsIn K mainGlobals c=some (some (.ref C))/\mg c=some (.ref C)/\Mk K C f/\My P w K mg base k f fd a F/\Binds K fd a []
def tP (c m:Str)(d:D)(S:GO):Option D:=(vt c d S).bind λfs=>if fs.lookup m=none then some .Hu else none
def ci (c m:Str)(F:GN)(fo:GH D)(gs:GH (List D)):GH D:=λb S=>ah (fo b S) λd a=>ah (aM (tP c m d a) a) λ_ g=>ah (gs b g) λe f=>jn (F (d::e) f)
def DH (c m:Str)(F:GN)(fo:GH D)(gs:GH (List D)):GH D:=λb S=>ah (fo b S) λd a=>ah (aM (tP c m d a) a) λ_ g=>ah (gs b g) λe f=>F (d::e) f
theorem zD {C:Addr}(n:PySem.W.nsIn X.K mainGlobals c=some (some (.ref C))){k:GH D}{d:D}{x:V}{f:St}{H:Hp}{Q:VK}(h:tG X W (RD X) [d] [x] (λρ i=>ah (aM (tP c m d i) i) λ_ S2=>k ρ S2) f H Q) :
  ∃ a e fs,x = .ref a/\H a=some (.ins C e fs)/\fs.lookup m=none/\tG X W (RD X) [d] [x] k f H Q:=by
 obtain⟨J,ρ,S,r,y,cf,G,b,z⟩:=h
 try dsimp only at b
 obtain⟨p,L⟩:=G.GY;cases q:tP c m d S with
 |none=>rw[q] at b;cases b
 |some M =>
  rw[q,bH,bA] at b;obtain⟨fs,s,g⟩:=bind_eq_some_iff.mp q;obtain⟨l,rfl,es⟩:=wH s;have E:=p;obtain⟨a,rfl,F⟩:=At.G7.mp p;obtain⟨N,e,u,j,w,t⟩:=cf.Hi.at_ l a _ F es;rw[n] at j;cases j;split at g
  ·rename_i B;rcases wK t m with ⟨_,A⟩ |⟨I,v,o,_⟩
   ·exact⟨a,e,u,rfl,w,A,J,ρ,S,r,y,cf,.cons E .nil,b,z⟩
   rw[B] at o;cases o
  cases g
theorem bg {k:Nat}{P:List Str}{F:GN}{pl:Sem Bool}(G:oB X.prog X.w X.K X.mg X.base k c m P F)(hr:Hg k X.A)(ho:SE X W o fo)(Y:SA X W (e::es) gs)
  (y:starEach (e::es) X.env=(false,eval e X.env)::starEach es X.env:=by rfl) (D:(backTo pos (starEach es X.env)).any (·.1)=false:=by rfl)
  (t:eval (.Call (.Attribute o m apos) (e::es) [] pos) X.env=(do
   let i ← eval o X.env
   standAt apos.atName
   let (f,first) ← holding [i] (getMethod i m pl)
   callWith pos f first (backTo pos (starEach (e::es) X.env)) (backToKw pos (keywordEach [] X.env))):=by rfl) :
  SE X W (.Call (.Attribute o m apos) (e::es) [] pos) (ci c m F fo gs):=by
 obtain⟨C,f,fd,n,cl,mt,fn,hb⟩:=G;refine PE.imp (A9 (E:=E0) ho cl mt fn hr hb .nil zk Y y D t) λσ H Q h=>(tG.G1 h).mono λx H1 g=>?_;obtain⟨d,l⟩:=g;obtain⟨a,T,fs,u,L,M,B⟩:=zD n l;refine⟨a,T,fs,u,L,M,(tG.Jb B).mono λus H2 g=>?_⟩;obtain⟨j,p,R⟩:=g;obtain⟨J,ρ,S,r,O,cf,Z,b,z⟩:=R
 try dsimp only at b
 obtain⟨m1,m2⟩:=GU.split p Z;obtain⟨V,_⟩:=m2.GY;have b:jn (F (d::j) S)=some (r,O):=b;unfold jn at b;split at b
 ·rename_i d2 S2 q;cases b;exact⟨J,S,d::j,d2,_,.cons V (by rw[append_nil];exact m1),cf.Hi,q,λJ' s v U I N=>z J' s v U I N⟩
 cases b
def lW (c:Str)(F:GN)(gs:GH (List D)):GH D:=λd S=>ah (gs d S) λb a=>(match F (.loc a.length::b) (a++[.ins c []]) with
 |some (.ok .Hu,S2)=>GW (.loc a.length) S2
 |_=>none)
theorem qL {k:Nat}{O:List Str}{F:GN}(G:DV X.prog X.w X.K X.mg X.base k c O F)(hr:Hg (k+1) X.A)(Y:SA X W (e::es) gs)(P:Gl X c:=by rfl)
  (N:(c==("__debug__":Str))=false:=by decide) (I:starEach (e::es) X.env=(false,eval e X.env)::starEach es X.env:=by rfl) (B:(backTo pos (starEach es X.env)).any (·.1)=false:=by rfl) :
  SE X W (.Call (.Name c p) (e::es) [] pos) (lW c F gs):=by
 obtain⟨C,f,fd,n,U,mk,fn,hb⟩:=G;refine PE.imp (A_ (E:=E0) mk fn hr P U hb .nil zk Y N I B) λσ H Q h=>(tG.Jb h).mono λus d V=>?_;obtain⟨m,hl,g⟩:=V;rw[append_nil,append_nil] at g;obtain⟨J,ρ,S,r,M,cf,Z,a,z⟩:=g
 try dsimp only at a
 intro x b T i ne;have t:(upd d b (.own x)) x=none:=by rw[aA (Ne.symm ne)];exact T
 have y:=cf.Hi.same (aP i (.own x));have x1:Ex J d J (upd d b (.own x)):=Ex.same (aP i _);have q:=y.push (o:=.ins C b []) (mo:=.ins c []) t ⟨C,b,[],n,GV,.nil⟩;have x2:=x1.trans q.2;have j:(J++[x])[S.length]?=some x:=by rw[← cf.Hi.len,getElem?_append_right (le_refl _)];simp
 have a:(match F (.loc S.length::m) (S++[.ins c []]) with
  |some (.ok .Hu,s)=>GW (.loc S.length) s
  |_=>none)=some (r,M):=a
 split at a
 ·rename_i s R;cases a;refine⟨J++[x],_,.loc S.length::m,.Hu,_,.cons (At.G7.mpr ⟨x,rfl,j⟩) (by rw[append_nil];exact Z.ex x2),q.1,R,λJ' u v l D L=>⟨At.HG.mp L,?_⟩⟩;exact z J' u (.ref x) (x2.trans l) D (At.G7.mpr ⟨x,rfl,qN l.pre j⟩)
 cases a
end
section
variable {P:Program}{w:World}{K:GI}{mg:GL}{base:Heap}
theorem lS {x qual:Str}{st:Stmt}{sc:Scope}{N a:List Str}{k:Nat}{G:GH Fl}{f:Addr}{fd:FuncData}(c:L1 K x qual st f fd)(d:aB st=sc)(Sc:GR N a sc)
  (h:∀ (f:Addr) (b:Value) (A:Around) (outer:List Env) (s:Shared) (H:Hp) (E:XK),Hg k (A.deeper (envOfC qual sc s.heap.objs.size f b))->Lp (l_ L0 P w K mg base N qual sc f b A outer s H E).M0 W0 (bG st) G) :
  My P w K mg base (k+1) f fd a (bj a.length (N.length-a.length) G):=iJ c d Sc λA outer s H E hr=>h f fd.code A outer s H E hr
theorem hM {c m qual:Str}{st:Stmt}{sc:Scope}{N a:List Str}{k:Nat}{G:GH Fl}(g:MethAt K c m qual st a)(e:aB st=sc)(Sc:GR N a sc)
  (h:∀ (f:Addr) (b:Value) (A:Around) (outer:List Env) (s:Shared) (H:Hp) (E:XK),Hg k (A.deeper (envOfC qual sc s.heap.objs.size f b))->Lp (l_ L0 P w K mg base N qual sc f b A outer s H E).M0 W0 (bG st) G) :
  oB P w K mg base (k+1) c m a (bj a.length (N.length-a.length) G):=by
 obtain⟨C,f,fd,n,cl,mt,d,hb⟩:=g;exact⟨C,f,fd,n,cl,mt,lS d e Sc h,hb⟩
theorem BS {c qual:Str}{st:Stmt}{sc:Scope}{N a:List Str}{k:Nat}{G:GH Fl}(i:DT K mg c qual st a)(g:aB st=sc)(Sc:GR N a sc)
  (h:∀ (f:Addr) (b:Value) (A:Around) (outer:List Env) (s:Shared) (H:Hp) (E:XK),Hg k (A.deeper (envOfC qual sc s.heap.objs.size f b))->Lp (l_ L0 P w K mg base N qual sc f b A outer s H E).M0 W0 (bG st) G) :
  DV P w K mg base (k+1) c a (bj a.length (N.length-a.length) G):=by
 obtain⟨C,f,fd,n,e,mt,d,hb⟩:=i;exact⟨C,f,fd,n,e,mt,lS d g Sc h,hb⟩
theorem yo {c m qual:Str}{st:Stmt}{b:List Str}{k:Nat}(g:MethAt K c m qual st b):oB P w K mg base k c m b (λ_ _=>none):=by
 obtain⟨C,f,fd,n,cl,mt,i,hb⟩:=g;have no:∀ a H Q E,¬ P6 K (λ_ _=>none) a H Q E:=λa H Q E h=>by obtain⟨J,S,o,d,j,_,_,e,_⟩:=h;cases e
 exact⟨C,f,fd,n,cl,mt,⟨λa H Q E h=>absurd h (no a H Q E),λA outer s H args l a Q E _ _ _ _ h=>absurd h (no a H Q E)⟩,hb⟩
end
def cE (d:D)(S:GO):Option (List D):=match d with
 | .loc l=>(match S[l]? with
  |some (.lst xs)=>some xs
  |_=>none)
 |_=>none
theorem Bw {d:D}{S:GO}{a:List D}(h:cE d S=some a):∃ l,d = .loc l/\S[l]?=some (.lst a):=by
 unfold cE at h;split at h
 ·rename_i l;split at h
  ·rename_i b e;cases h;exact⟨l,rfl,e⟩
  cases h
 cases h
section
variable {X:Cx}{W:WT}{pos Hh apos p:Pos}{o e a b:Expr}{fo fe fa fb:GH D}{x:Str}
theorem qQ {J:List Addr}{S:GO}{H:Hp}{d:D}{v:V}{a:List D}(so:G4 X.K J S H)(m:At X.K H J d v)(h:cE d S=some a):∃ l q us,d = .loc l/\v = .ref q/\J[l]?=some q/\S[l]?=some (.lst a)/\H q=some (.lst us)/\GU X.K H J a us:=by obtain⟨l,rfl,es⟩:=Bw h;obtain⟨q,rfl,b⟩:=At.G7.mp m;obtain⟨us,e,c⟩:=so.at_ l q _ b es;exact⟨l,q,us,rfl,rfl,b,es,e,c⟩
def oo:GH D:=λ_ S=>GW (.loc S.length) (S++[.lst []])
theorem qJ:SE X W (.List [] pos) oo:=(u8 HB).imp λa H Q h=>by
 obtain⟨J,d,S,r,f,c,_,e,z⟩:=h
 try dsimp only at e
 cases e;show r_ a H _;refine⟨zero_le _,λp b=>?_⟩;have q:=c.Hi.push (o:=.lst []) (mo:=.lst []) b ⟨[],GV,.nil⟩;refine z (J++[p]) _ _ q.2 q.1 (At.G7.mpr ⟨p,rfl,?_⟩);rw[← c.Hi.len,getElem?_append_right (le_refl _)];simp
def ou (d v:D)(S:GO):Out D:=match d with
 | .loc l=>(match S[l]? with
  |some (.lst xs)=>if xs.length<sizeLine then GW .Hu (S.set l (.lst (xs++[v]))) else none
  |_=>none)
 |_=>none
def vP (fo fe:GH D):GH D:=λb S=>ah (fo b S) λd a=>ah (aM (cE d a) a) λ_ e=>ah (fe b e) λv c=>ou d v c
theorem mZ {name:Str}(V:name="append")(ho:SE X W o fo)(ha:SE X W a fe)(T:attributeBase o name X.env (eval o X.env)=eval o X.env:=by rfl)
  (N:((backTo Hh (starEach [a] X.env)).all (λx => !x.1)&&(backToKw Hh (keywordEach [] X.env)).all (λx=>x.1.isSome)
   && decide ([a].length+([]:List Keyword).length+(if ([]:List Keyword).isEmpty then 0 else 1)<30))=true:=by rfl)
  (G:(apos.endLine==Hh.line)=true:=by rfl) (s:starEach [a] X.env=(false,eval a X.env)::starEach [] X.env:=by rfl) (HY:(backTo Hh (starEach [] X.env)).any (·.1)=false:=by rfl) :
  SE X W (.Call (.Attribute o name apos) [a] [] Hh) (vP fo fe):=by
 subst V;refine PE.imp (wo F.plainAttrs_list F.slot_list_append F.type_list_append xL ho (b_ ha HB s) T N G s HY) λI H Q h=>(tG.G1 h).mono λx D Zq=>?_;obtain⟨d,A⟩:=Zq;obtain⟨J,i,S,r,R,c,m,e,z⟩:=A
 try dsimp only at e
 obtain⟨u,_⟩:=m.GY;cases q:cE d S with
 |none=>rw[q] at e;cases e
 |some xs =>
  rw[q,bH,bA] at e;obtain⟨l,f,us,rfl,rfl,hq,es,O,mu⟩:=qQ c.Hi u q;refine⟨.inl ⟨rfl,us,.inl (.inl O)⟩,?_⟩;have K:tG X W (RD X) [.loc l] [.ref f] (λi g=>ah (fe i g) λv B=>ou (.loc l) v B) I D Q:=⟨J,i,S,r,R,c,.cons u .nil,e,z⟩;refine(tG.G1 K).mono λy H2 ⟨t,U⟩=>?_;show r_ _ _ _;obtain⟨L,ρ2,g,r2,So,n,m2,b,z2⟩:=U
  try dsimp only at b
  obtain⟨E,m2⟩:=m2.GY;obtain⟨M,_⟩:=m2.GY;have b:ou (.loc l) t g=some (r2,So):=b;unfold ou at b;simp only at b;split at b
  ·rename_i V9 w;split at b
   ·rename_i lt;cases b;obtain⟨q2,P,j⟩:=At.G7.mp M;cases P;obtain⟨Qi,Y,p⟩:=n.Hi.at_ l f _ j w;have up:=n.Hi.update (o:=.lst (Qi++[y])) (mo:=.lst (V9++[t])) j λJ' H' k C Z=>by subst C Z;exact⟨_,GV,(p.ex k).append (.cons (E.ex k) .nil)⟩
    exact⟨f,Qi,y,rfl,rfl,Y,by rw[← p.length];exact lt,z2 L _ _ up.2 up.1 (At.HG.mpr rfl)⟩
   cases b
  cases b
def oJ (x i:D)(S:GO):Option D:=match i with
 | .int k=>(cE x S).bind λa=>Jp a k
 |_=>none
def oP (fa fb:GH D):GH D:=λb S=>ah (fa b S) λx c=>ah (fb b c) λi a=>aM (oJ x i a) a
theorem gM (x:SE X W a fa)(hb:SE X W b fb)(y:mD b:=by exact λ_ _=>rfl):SE X W (.Subscript a b pos) (oP fa fb):=
 (B6 wG x hb y).imp λE H Q h=>(tG.G1 h).mono λv C ⟨d,f⟩=>(tG.G1 f).mono λG o u=>by
  obtain⟨B,g⟩:=u
  obtain⟨J,K,S,r,F,c,m,e,z⟩:=g
  try dsimp only at e
  obtain⟨p,m⟩:=m.GY;obtain⟨A,_⟩:=m.GY;cases q:oJ d B S with
  |none=>rw[q] at e;cases e
  |some D =>
   rw[q] at e;cases e;unfold oJ at q;split at q
   ·rename_i k;obtain⟨L,f,g⟩:=bind_eq_some_iff.mp q;obtain⟨l,i,t,rfl,rfl,I,es,n,s⟩:=qQ c.Hi A f;cases At.GQ.mp p;obtain⟨w,j,a1⟩:=vS s g;exact⟨i,t,k,w,rfl,rfl,.inl (.inl n),j,z J o w Ex.refl c.Hi a1⟩
   cases q
def yp (fa fb:GH D):GH D:=λb S=>ah (fa b S) λx c=>ah (fb b c) λi a=>aM (if bw x=true then oJ x i a else Nq x i) a
theorem wl (c:SE X W a fa)(hb:SE X W b fb)(f:mD b:=by exact λ_ _=>rfl):SE X W (.Subscript a b pos) (yp fa fb):=
 SE.either (gM c hb f) (B2 T7 c hb f) λe S=>cA _ λx d=>by
  by_cases h:bw x=true
  ·refine .inl (congrArg (ah (fb e d)) (funext λi=>funext λg=>?_));rw[if_pos h]
  refine .inr (congrArg (ah (fb e d)) (funext λi=>funext λg=>?_));rw[if_neg h]
def Ae (fe:GH D):GH D:=λb S=>ah (fe b S) λd a=>aM ((cE d a).map λc => .int c.length) a
theorem AR (s:X.mg x=none)(u:SE X W e fe)(o:x="len":=by rfl)(k:Gl X x:=by rfl)(a:starEach [e] X.env=(false,eval e X.env)::starEach [] X.env:=by rfl)(i:(backTo pos (starEach [] X.env)).any (·.1)=false:=by rfl) :
  SE X W (.Call (.Name x p) [e] [] pos) (Ae fe):=by
 subst o;refine PE.imp (jT g9 k s cW (b_ u HB a) (by decide) (by decide) a i) λy H Q h=>?_;refine(tG.G1 h).mono λv f ⟨d,b⟩=>?_;obtain⟨J,C,S,r,A,c,m,eq,z⟩:=b
 try dsimp only at eq
 obtain⟨w,_⟩:=m.GY;show r_ _ _ _;cases q:cE d S with
 |none=>rw[q] at eq;cases eq
 |some D =>
  rw[q] at eq;cases eq;obtain⟨l,g,t,rfl,rfl,B,es,j,n⟩:=qQ c.Hi w q;refine⟨g,t,rfl,.inl (.inl (.inl j)),?_⟩;rw[← n.length];exact z J f _ Ex.refl c.Hi (At.GQ.mpr rfl)
def BM (fe:GH D):GH D:=λc S=>ah (fe c S) λd a=>aM ((cE d a).bind λb=>if b.length<=sizeLine then some (.tup b) else none) a
end
theorem ints_get:∀ {vs:List Value}{ns:List Int}(i:Nat) {n:Int},IntsAre vs ns->ns[i]?=some n->∃ t,vs[i]?=some (.int n t)
 |_,_,_,_,.nil,e=>by simp at e
 |_,_,0,_,.cons n t r,e=>by simp at e;subst e;exact⟨t,rfl⟩
 |_,_,i+1,_,.cons n t r,e=>by
  obtain⟨a,h⟩:=ints_get i r (by simpa using e);exact⟨a,by simpa using h⟩
theorem tJ:∀ {vs:List Value}{ns:List Int},IntsAre vs ns->vs.length=ns.length
 |_,_,.nil=>rfl
 |_,_,.cons n t r=>by simp[tJ r]
theorem pE {k:Int}:∀ {ns:List Int}{j:Nat},j<ns.idxOf k->∀ (a:j<ns.length),ns[j]≠k
 |n::r,0,h,_=>by
  intro e;have e:n=k:=e;subst e;simp at h
 |n::r,j+1,h,a=>by
  by_cases e:n=k
  ·subst e;simp at h
  have hb:(n==k)=false:=by simpa using e
  rw[idxOf_cons,hb] at h;exact pE (ns:=r) (j:=j) (by simpa using h) (by simpa using a)
theorem kA {prog:Program}{w:World}{A:Around}{E:GJ}{s:Shared}{l:Addr}{o:Obj}{n:Nat}{vs:List Value}{ns:List Int}{k:Int}{t:Tok}{Q:GJ}(C:s.heap.get? l=some o)(hc:o.cls = .type "tuple")(hd:o.data = .seq vs.toArray n)(B:IntsAre vs ns)
  (I:k∈ns) (h:∀ t' s',s'={ s with toks:=s.toks+1 }->Q (.int (ns.idxOf k:Nat) t') s'):wpAny (model prog w) A (call (.builtin "tuple.index") [.ref l,.int k t]) Q E s:=by
 have K:s.TypeIs (.ref l) "tuple":=⟨o,C,hc⟩;refine wpAny_call_entry F.slot_tuple_index K F.entry_tuple_index ?_ (F.args_tuple_index_2 _ _);show wpAny _ _ (Builtin.Tuple.tupleItemsOf (.ref l) >>= _) _ _ s;refine wpAny_bind (wpAny_tupleItemsOf C hd ?_);have u:=tJ B;have q:ns.idxOf k<ns.length:=idxOf_lt_length_iff.mpr I;show wpAny _ _ (forIn [0:min vs.toArray.size vs.toArray.size] _ _ >>= _) _ _ s;refine wpAny_bind ?_;rw[Std.Legacy.Range.forIn_eq_forIn_range'];have d:([0:min vs.toArray.size vs.toArray.size]:Std.Legacy.Range).size=vs.length:=by simp[Std.Legacy.Range.size]
 show wpAny _ _ (forIn (range' 0 ([0:min vs.toArray.size vs.toArray.size]:Std.Legacy.Range).size 1) _ _) _ _ _;rw[d];refine wpAny_forIn_list _ (λrest r s'=>r.1=none/\s'=s/\∃ i,i<=ns.idxOf k/\rest=range' i (vs.length-i) 1) _ ?_ ?_ _ _ ⟨rfl,rfl,0,zero_le _,by simp⟩
 ·rintro x rest r s' ⟨hr,rfl,i,D,b⟩;have O:i<vs.length:=by omega
  obtain⟨m,j⟩:∃ m,vs.length-i=m+1:=⟨vs.length-i-1,by omega⟩;rw[j,range'_succ] at b;obtain⟨rfl,rfl⟩:=List.cons.inj b;obtain⟨a,c⟩:∃ a,ns[x]?=some a:=⟨ns[x]'(by omega),getElem?_eq_getElem _⟩;obtain⟨t',G⟩:=ints_get x B c;have M:vs.toArray[x]?=some (.int a t'):=by simpa using G
  rw[M];show wpAny _ _ (eqBool (.int a t') (.int k t) >>= _) _ _ _;refine wpAny_bind (wpAny_eqBool_int ?_);by_cases e:a=k
  ·subst e
   have ex:ns.idxOf a=x:=by
    have N:ns.idxOf a<=x:=by
     have g:x<ns.length:=by omega
     have:ns[x]=a:=by rw[getElem?_eq_getElem g] at c;exact Option.some.inj c
     rcases lt_or_ge x (ns.idxOf a) with h2 |h2
     ·exact absurd this (pE h2 g)
     exact h2
    omega
   rw[beq_self_eq_true];simp only[if_true];refine wpAny_bind (wpAny_mono (show wpAny _ _ (retInt (x:Int)) _ _ _ from wpAny_ret_mkInt (Q:=λv p => ∃ t',v = .int (x:Int) t'/\p={ s' with toks:=s'.toks+1 }) ⟨_,rfl,rfl⟩) (λfin p L=>?_) λ_ _ z=>z);obtain⟨v,H,t',J,f⟩:=L;subst H J;refine wpAny_pure (wpAny_pure ⟨_,rfl,?_⟩);have y:=h t' p f;rw[ex] at y;exact y
  rw[beq_eq_false_iff_ne.mpr e];simp only[false_eq_true,if_false];refine wpAny_pure ⟨rfl,rfl,x+1,?_,?_⟩
  ·have g:x<ns.length:=by omega
   rcases lt_or_ge x (ns.idxOf k) with h2 |h2
   ·exact h2
   exfalso;have f:x=ns.idxOf k:=by omega
   rw[f,getElem?_eq_getElem q,getElem_idxOf q] at c;exact e (Option.some.inj c).symm
  congr 1;omega
 rintro⟨P,R⟩ s' ⟨hr,rfl,i,D,b⟩;exfalso;obtain⟨m,j⟩:∃ m,vs.length-i=m+1:=⟨vs.length-i-1,by omega⟩;rw[j,range'_succ] at b;cases b
section
variable {X:Cx}{W:WT}{fe fa:GH D}
theorem xK:Q1 X "tuple.index" (λx c H Q => ∃ (a:Addr) (ns:List Int) (k:Int),x = .ref a/\c=[.int k]/\Kt X.K H a (ns.map V.int)/\k∈ns/\Q (.int (ns.idxOf k:Nat)) H):=by intro b s t H x c v z Q I m l h;obtain⟨a,ns,k,rfl,rfl,f,j,q⟩:=h;cases m;obtain⟨u,rfl,r⟩:=vals1 l;obtain⟨t2,rfl⟩:=r;obtain⟨its,i,⟨o,d,g,n,p⟩,_⟩:=I.tuple f;refine kA (vs:=its) d g p (eQ i) j λy w e=>?_;subst e;exact⟨.int _,H,I.tok _,⟨_,rfl⟩,q⟩
def i8:D->D->Option D
 | .tup a,.int k=>(cb a).bind λns=>if k∈ns then some (.int (ns.idxOf k:Nat)) else none
 |_,_=>none
theorem Ci {J:List Addr}{b:Hp}{d:D}{v:V}(g:fC d=true)(m:At X.K b J d v):O8 X.K "tuple" v b:=by
 cases d<;>first |(cases g;done) |skip
 rename_i j;obtain⟨a,f,rfl,i,_⟩:=At.G3.mp m;rcases i with z |⟨o,its,n,c,e,h,_⟩
 ·exact .inr (.inl ⟨rfl,.inr ⟨f,z.1⟩⟩)
 exact .inr (.inl ⟨rfl,.inl ⟨o,c,e,h⟩⟩)
theorem pH {o:Expr}{name:Str}{b c:Pos}{a:Expr}(w:name="index")(D:SE X W o fe)(z:SE X W a fa)(u:attributeBase o name X.env (eval o X.env)=eval o X.env:=by rfl)
  (l:((backTo c (starEach [a] X.env)).all (λx => !x.1)&&(backToKw c (keywordEach [] X.env)).all (λx=>x.1.isSome)
   && decide ([a].length+([]:List Keyword).length+(if ([]:List Keyword).isEmpty then 0 else 1)<30))=true:=by rfl)
  (g:(b.endLine==c.line)=true:=by rfl) (f:starEach [a] X.env=(false,eval a X.env)::starEach [] X.env:=by rfl) (C:(backTo c (starEach [] X.env)).any (·.1)=false:=by rfl) :
  SE X W (.Call (.Attribute o name b) [a] [] c) (rG fC i8 fe fa):=by
 subst w;refine PE.imp (wo F.plainAttrs_tuple F.slot_tuple_index F.type_tuple_index xK D (b_ z HB f) u l g f C) λI H Q h=>nG (λJ E d v n m=>Ci n m) (λv M s Q q=>?_) h;obtain⟨J,L,O,K,G,r,y,eq,q⟩:=q;unfold i8 at eq;split at eq
 ·rename_i N k;obtain⟨ns,i,e⟩:=bind_eq_some_iff.mp eq;split at e
  ·rename_i hc;cases e;cases At.GQ.mp y;obtain⟨a,j,rfl,A,B⟩:=At.G3.mp r;have p:=fD i;subst p;have t:j=ns.map V.int:=GU.Jr B;subst t;exact⟨a,ns,k,rfl,rfl,A.sq,hc,q s _ (G5.refl _) (At.GQ.mpr rfl)⟩
  cases e
 cases eq
end
def Dh:List Int->Option Int
 |[]=>none
 |n::r=>some (r.foldl (λa b=>if b<a then b else a) n)
theorem q_:∀ (r:List Int) (n:Int),(r.foldl (λa b=>if b<a then b else a) n∈n::r)/\∀ a∈n::r,r.foldl (λa b=>if b<a then b else a) n<=a
 |[],n=>by simp
 |x::r,n=>by
  rw[foldl_cons];by_cases f:x<n
  ·rw[if_pos f];obtain⟨d,c⟩:=q_ r x;refine⟨mem_cons_of_mem _ d,λa ha=>?_⟩;rcases mem_cons.mp ha with e |ha
   ·have g:=c x (mem_cons_self ..);omega
   exact c a ha
  rw[if_neg f];obtain⟨d,c⟩:=q_ r n;have g:=c n (mem_cons_self ..);refine⟨?_,λa ha=>?_⟩
  ·rcases mem_cons.mp d with e |h
   ·rw[e];exact mem_cons_self ..
   exact mem_cons_of_mem _ (mem_cons_of_mem _ h)
  rcases mem_cons.mp ha with e |ha
  ·omega
  rcases mem_cons.mp ha with e |ha
  ·omega
  exact c a (mem_cons_of_mem _ ha)
theorem xM {ns:List Int}{M:Int}(c:M∈ns)(d:∀ a∈ns,M<=a):Dh ns=some M:=by
 cases ns with
 |nil=>simp at c
 |cons n r =>
  obtain⟨a,b⟩:=q_ r n;exact congrArg some (Int.le_antisymm (b M c) (d _ a))
theorem nN:∀ {vs:List Value}{ns:List Int},IntsAre vs ns->∃ a:List (Int×Tok),vs=a.map (λp => .int p.1 p.2)/\ns=a.map (·.1)
 |_,_,.nil=>⟨[],rfl,rfl⟩
 |_,_,.cons n t r=>by
  obtain⟨a,c,b⟩:=nN r;exact⟨(n,t)::a,by rw[c];rfl,by rw[b];rfl⟩
section
variable {X:Cx}{W:WT}
def s9:List D->Option D
 |[.lst ds]=>(cb ds).bind λns=>(Dh ns).map .int
 |_=>none
theorem BQ (hc:X.calm=true):kn X (.builtin "min") s9:=by
 intro k s V H b us Q I r h;obtain⟨J,ds,d,U,m,e,q⟩:=h;unfold s9 at e;split at e
 ·rename_i ys;obtain⟨ns,A,F⟩:=bind_eq_some_iff.mp e;obtain⟨M,g,K⟩:=map_eq_some_iff.mp F;subst K;obtain⟨v,w,rfl,a,n⟩:=GU.GS.mp m;cases GU.G0.mp n;obtain⟨p,Z,rfl,t,L⟩:=At.G8.mp a;obtain⟨u,rfl,R⟩:=vals1 r;cases R;have E:=fD A;subst E;have ev:=GU.Jr L;subst ev;obtain⟨its,B,pl,W⟩:=I.list t.sq;obtain⟨b,ex,c⟩:=nN (eQ B)
  have O : 0<b.length:=by
   cases b with
   |nil=>subst c;cases g
   |cons x b=>simp
  have o:s.heap.IsList p (intItems b.toArray):=by have:=pl.isList;rw[ex] at this;simpa [intItems] using this
  refine min_intList (I.ok.hd hc) o (by simpa using O) λv Y tk y D=>?_;obtain⟨z,rfl⟩:=intItems_at y;obtain⟨T,C⟩:=argBest_lt (numAt b.toArray) (b.toArray.size-1)
  have mem:numAt b.toArray (argBest (λi j=>decide (numAt b.toArray i<numAt b.toArray j)) (b.toArray.size-1))∈ns:=by
   have hb:argBest (λi j=>decide (numAt b.toArray i<numAt b.toArray j)) (b.toArray.size-1)<b.length:=by
    have:b.toArray.size=b.length:=by simp
    omega
   rw[numAt_eq,c];simp only[List.getD_eq_getElem?_getD,getElem?_map,List.toList_toArray,getElem?_eq_getElem hb,map_some,getD_some];exact mem_map.mpr ⟨_,getElem_mem hb,rfl⟩
  have low:∀ a∈ns,numAt b.toArray (argBest (λi j=>decide (numAt b.toArray i<numAt b.toArray j)) (b.toArray.size-1))<=a:=by
   intro a l;rw[c] at l;obtain⟨x,P,rfl⟩:=mem_map.mp l;obtain⟨j,S,rfl⟩:=getElem_of_mem P
   have N:=C j (by
    have:b.toArray.size=b.length:=by simp
    omega)
   refine Int.le_trans N (Int.le_of_eq ?_);simp[numAt,S]
  have f:=xM mem low;rw[g] at f;have G:=Option.some.inj f;refine⟨.int M,H,I.kept (t':=tk) D,⟨z,by rw[G]⟩,q H _ (G5.refl H) (At.GQ.mpr rfl)⟩
 cases e
end
section
variable {X:Cx}{W:WT}{pos:Pos}
def DU (K:GI)(a:Addr):It:=
 ⟨λi H => ∃ b x,Ks K H a b/\b[i]?=some x,λi H x c => ∃ p y,H p=none/\x = .ref p/\c=upd H p (.tup [.int i,y])/\∀ b,Ks K H a b->b[i]?=some y,λi H => ∃ b,Ks K H a b/\b.length<=i⟩
theorem uL {P:Program}{w:World}{K:GI}{es:List Expr}{k:Nat}{pt:Pos}(a e it:Addr)(W:e≠it)(Sa:a≠e)(Sb:a≠it):Turn P w K (.Tuple es k pt) (DU K a) [e,it] e (λi h=>(∃ old,IsEnum h e it i old)/\h.IsListIter it a i) where
 mem:=by simp
 obj:=λi h st b hb=>by
  obtain⟨⟨old,d⟩,o,l,hc,hd⟩:=st;rcases mem_cons.mp hb with rfl |hb
  ·exact⟨_,d,λv z=>by cases z⟩
  have:b=it:=by simpa using hb
  subst this;exact⟨o,l,λv z=>by rw[hd] at z;cases z⟩
 keep:=λi h h' st kp=>by
  obtain⟨⟨old,d⟩,o,l,r⟩:=st;exact⟨⟨old,kp e (by simp) _ d⟩,o,kp it (by simp) o l,r⟩
 item:=by
  intro X n S O hc i j s Z H E I D st M;subst n S O;obtain⟨C,x,B,V⟩:=M;obtain⟨its,R,p,hz⟩:=I.list B;obtain⟨u,Y,ru⟩:=R.get V;obtain⟨⟨old,d⟩,g⟩:=st;have H_:i<its.toArray.size:=by rw[size_toArray];exact(List.getElem?_eq_some_iff.mp Y).1
  refine wpAny_pyNext_enum_itemD (Draws.list (A:=X.A.in1) (I.ok.hd hc) it a Sb its.toArray) d ⟨g,p.isList⟩ H_ W (by simp[W,Ne.symm Sa]) λy h' tk n l Pa hT hsz hk=>?_
  have ey:y=u:=by
   have:its.toArray[i]?=some u:=by simpa using Y
   rw[this] at n;exact(Option.some.inj n).symm
  subst ey;refine⟨_,rfl,wpAny_letOwnedTupleGo_enum (s:={ s with heap:=h',toks:=tk+1 }) l λF Pc N=>?_⟩;have hn:H s.heap.objs.size=none:=I.fresh;obtain⟨T,P8,VY,Sd,Se,Sf⟩:=D e (by simp);obtain⟨t,G,Sh,U,L,J⟩:=D it (by simp);have kp:∀ b o,b≠e->b≠it->s.heap.get? b=some o->F.get? b=some o:=λb o h1 Mx f=>(N.2 b h1).trans (hk b o h1 Mx f);have P9:s.heap.objs.size≠e:=ne_of_gt (Heap.lt_size d);have MB:F.get? s.heap.objs.size=some { cls:=.type "tuple",data:=.seq #[.int i tk,y] }:=(N.2 _ P9).trans hT;have ne:∀ b o,H b=some o->b≠s.heap.objs.size:=λb o q=>aN q hn
  have I1:Inv X j Z (upd H s.heap.objs.size (.tup [.int i,x])) { s with heap:=F,toks:=tk+1 }:=by
   refine I.step (h':=F) (g':=s.gens) (d':=s.drawn) (t':=tk+1) (ch:=[e,it]) (λb hb=>?_) (λb o _ _ hb f _=>kp b o (λz=>hb (by simp[z])) (λz=>hb (by simp[z])) f) (λb o _ _ hb f _=>⟨o.slots,kp b o (λz=>hb (by simp[z])) (λz=>hb (by simp[z])) f⟩)
    (λb o hb f n'=>by rw[aA (ne_of_lt (Heap.lt_size f))];exact n') (λb o hb f=>⟨o,kp b o (λz=>hb (by simp[z])) (λz=>hb (by simp[z])) f⟩)
    (λb C q=>by rw[aA (ne b _ q)];exact q) (λb o C q=>by rw[aA (ne b _ q)];exact q) (λb ps q=>⟨#[],by rw[aA (ne b _ q),q];simp⟩)
    (λm hm=>?_) (λb o q=>?_) I.bare
   ·rcases mem_cons.mp hb with rfl |hb
    ·exact⟨Sd,P8,Se,Sf⟩
    have:b=it:=by simpa using hb
    subst this;exact⟨U,G,L,J⟩
   ·obtain⟨o,es,ep,l,r⟩:=hm;exact⟨o,es,ep,kp _ o (Ne.symm P8) (Ne.symm G) l,r⟩
   by_cases hb:b=s.heap.objs.size
   ·subst hb;rw[GV] at q;cases q;exact⟨by show 2<=sizeLine;decide,[.int i tk,y],.cons ⟨tk,rfl⟩ (.cons ru .nil),_,MB⟩
   rw[aA hb] at q;refine(I.Ha b o q).Ir (λc v LD z=>kp c v ?_ ?_ z) (λc z=>by rw[aA (ne c _ z)];exact z) λc C z=>by rw[aA (ne c _ z)];exact z
   ·rcases LD with z' |z'
    ·rw[z'];exact aN q T
    exact aN z' T
   rcases LD with z' |z'
   ·rw[z'];exact aN q t
   exact aN z' t
  refine⟨.ref s.heap.objs.size,_,I1,rfl,⟨_,x,hn,rfl,rfl,λys hy=>by rw[I.K0 hy B];exact V⟩,⟨⟨y,Pc⟩,Pa.1.extBut N.extBut (Ne.symm W)⟩,λb hb=>?_⟩;rcases mem_cons.mp hb with rfl |hb
  ·rw[aA (Ne.symm P9)];exact T
  have:b=it:=by simpa using hb
  subst this;obtain⟨o,KJ,_⟩:=g;rw[aA (ne_of_lt (Heap.lt_size KJ))];exact t
 done:=by
  intro X n S O hc i j s Z H E I D st M;subst n S O;obtain⟨C,B,V⟩:=M;obtain⟨its,R,p,hz⟩:=I.list B;obtain⟨⟨old,d⟩,g⟩:=st;obtain⟨t,G,Sh,U,L,J⟩:=D it (by simp);have hl:=R.length;exact wpAny_pyNext_enum_end (I.ok.hd hc) d g p.isList (by simp;omega) λh' eb=>⟨rfl,I.turned (t':=s.toks) (λb o hb e=>eb b o hb e) t G U L J⟩
 self:=by
  intro A i s Q E st h;obtain⟨⟨old,d⟩,_⟩:=st;exact wpAny_pyIter_enum d h
theorem Walk.NA {a:Addr}{ds:List D}{c:List V}{J:List Addr}{H:Hp}(t:LQ X.K H J a c)(m:GU X.K H J ds c):Walk X (DU X.K a) (cK 0 ds) J H where
 len:=by rw[bI,m.length];exact t.len
 go:=λf g i x b=>by
  rw[bI] at b;have m1:=m.ex x;obtain⟨v,j,_⟩:=m1.get (getElem?_eq_getElem b);exact⟨c,v,(t.ex x).sq,j⟩
 LY:=λf g i v n x k b y=>by
  obtain⟨p,y,h,rfl,rfl,l⟩:=y;obtain⟨d,e,a⟩:=(m.ex x).get' (l c (t.ex x).sq);refine⟨.tup [.int i,d],by rw[eX,e];simp,At.Iy (.cons (At.GQ.mpr rfl) (.cons a .nil)) h k (by show 2<=sizeLine;decide),aP h _⟩
 stop:=λf g i x b=>by
  rw[bI] at b;exact⟨c,(t.ex x).sq,by rw[← m.length];exact b⟩
def vE:List D->Option (List D)
 |[.lst xs]=>some (cK 0 xs)
 |_=>none
theorem uW {es:List Expr}{k:Nat}{pt p:Pos}{a:Expr}{t:GH (List D)}{x:Str}(F:x="enumerate")(G:X.mg x=none)(N:SA X W [a] t)(E:Gl X x:=by rfl)
  (A:starEach (a::[]) X.env=(false,eval a X.env)::starEach [] X.env:=by rfl) (y:(backTo pos (starEach [] X.env)).any (·.1)=false:=by rfl):SI X W (.Tuple es k pt) (.Call (.Name x p) [a] [] pos) (j_ vE t):=by
 subst F;intro c s j H R I h;refine wpAny_Call_Name_kw (kN I E G boot_enumerate ?_ (by decide) (by decide));refine callWith_type1 (Hb (N pos c s j H _ I (nv h)) λV d M=>?_) A y;obtain⟨T,i,f,L,J,S,Z,ds,so,m,g,z⟩:=M;unfold vE at g;split at g
 ·rename_i xs;cases g;obtain⟨v,r,rfl,a1,n⟩:=GU.GS.mp m;cases GU.G0.mp n;obtain⟨ad,Y,rfl,w,B⟩:=At.G8.mp a1;obtain⟨u,rfl,P⟩:=vals1 L;cases P;obtain⟨its,Q,pl,U⟩:=f.list w.sq;have l:ad<d.heap.objs.size:=by obtain⟨o,n,e,_⟩:=pl;exact Heap.lt_size e
  refine call_enumerate_list pl.isList λC q it sz kp=>?_;have O:Inv X c j i { d with heap:=C }:=f.kept (t':=d.toks) kp;refine wpAny_pyIter_enum q ?_;refine⟨d.heap.objs.size+1,[d.heap.objs.size+1,d.heap.objs.size],_,DU X.K ad,i,rfl,O,uL ad _ _ (ne_of_gt (lt_succ_self _)) (ne_of_lt (lt_succ_of_lt l)) (ne_of_lt l),⟨⟨_,q⟩,it⟩,λb hb=>?_,z i _ (G5.refl _) (Walk.NA w B)⟩;rcases mem_cons.mp hb with rfl |hb
  ·exact f.JM (le_succ _) (f.Ha.fresh (le_succ _))
  have:b=d.heap.objs.size:=by simpa using hb
  subst this;exact f.JM (le_refl _) f.fresh
 cases g
def rg:List D->Option (List D)
 |[.tup xs]=>some (cK 0 xs)
 |[.lst xs]=>some (cK 0 xs)
 |_=>none
theorem yO {es:List Expr}{k:Nat}{pt p:Pos}{a:Expr}{t:GH (List D)}{x:Str}(f:x="enumerate")(g:X.mg x=none)(c:SA X W [a] t)(d:Gl X x:=by rfl)
  (h:starEach (a::[]) X.env=(false,eval a X.env)::starEach [] X.env:=by rfl) (e:(backTo pos (starEach [] X.env)).any (·.1)=false:=by rfl):SI X W (.Tuple es k pt) (.Call (.Name x p) [a] [] pos) (j_ rg t):=by
 refine SI.either (qH f g c d h e) (uW f g c d h e) λl S=>?_;unfold j_;refine cA _ λi j=>?_;unfold rg n6 vE
 match i with
 |[.tup xs]=>exact .inl rfl
 |[.lst xs]=>exact .inr rfl
 |[]=>exact .inl rfl
 |[.Hu]=>exact .inl rfl
 |[.bl _]=>exact .inl rfl
 |[.int _]=>exact .inl rfl
 |[.str _]=>exact .inl rfl
 |[.set _]=>exact .inl rfl
 |[.loc _]=>exact .inl rfl
 |[.fn _ _]=>exact .inl rfl
 |a::b::r=>cases a<;>exact .inl rfl
end
section
variable {X:Cx}{W:WT}{pos p:Pos}{e:Expr}
def BT (c:Str)(g:GP->GO->Bool):GH Fl:=λa S=>if g a S=true then some (.error c,S) else none
end
section
variable {X:Cx}{W:WT}{pos pos' p:Pos}{o i e:Expr}{es:List Expr}{gs:GH (List D)}{fo fi fv fe:GH D}{x:Str}
def vO (gs:GH (List D)):GH D:=λc S=>ah (gs c S) λa b=>if a.length<=sizeLine then GW (.loc b.length) (b++[.lst a]) else none
theorem yR (h:SA X W es gs):SE X W (.List es pos) (vO gs):=(u8 h).imp λn H Q h=>(tG.Jb h).mono λd g k=>by
 obtain⟨l,i,f⟩:=k
 rw[append_nil,append_nil] at f;obtain⟨J,t,S,r,s,c,m,e,z⟩:=f;split at e
 ·rename_i le;cases e;refine⟨by rw[← i];exact le,λp a=>?_⟩
  have x:Ex J g (J++[p]) (upd g p (.lst d)):=⟨⟨[p],rfl⟩,λb u hb j=>⟨by rw[aA (aN hb a)];exact hb,λz=>by
   rcases mem_append.mp z with z |z
   ·exact j z
   exact aN hb a (by simpa using z)⟩⟩
  have q:=c.Hi.push (o:=.lst d) (mo:=.lst l) a ⟨d,GV,m.ex x⟩;refine z (J++[p]) _ _ q.2 q.1 (At.G7.mpr ⟨p,rfl,?_⟩);rw[← c.Hi.len,getElem?_append_right (le_refl _)];simp
 cases e
end
def FE (K:GI)(x qual:Str)(st:Stmt)(f:Addr):Prop:=∃ fd,L1 K x qual st f fd
def BD (x qual:Str)(st:Stmt)(b:List Str):Prop:=∀ (kV doc c:Value) (e:Option Addr) (d ct:Value) (a:List Value),a.length=b.length->bindArgs (PySem.W.fnOf x qual (du st) (bG st) (aB st) .none kV doc c e d ct) ⟨a,[]⟩=pure (b.zip a)
section
variable {P:List Value->Prop}{us:List Value}
theorem Wc (h:us.length=0)(k:P []):P us:=by rw[length_eq_zero_iff.mp h];exact k
theorem AF {n:Nat}(h:us.length=n+1)(k:∀ a r,r.length=n->P (a::r)):P us:=by
 cases us with
 |nil=>cases h
 |cons a r=>exact k a r (Nat.succ.inj h)
theorem Uq (h:us.length=1)(k:∀ a,P [a]):P us:=AF h λa _ h=>Wc (P:=λr=>P (a::r)) h (k a)
theorem Qi (h:us.length=2)(k:∀ a b,P [a,b]):P us:=AF h λa _ h=>Uq (P:=λr=>P (a::r)) h (k a)
theorem Ur (h:us.length=3)(k:∀ a b c,P [a,b,c]):P us:=AF h λa _ h=>Qi (P:=λr=>P (a::r)) h (k a)
theorem We (h:us.length=4)(k:∀ a b c d,P [a,b,c,d]):P us:=AF h λa _ h=>Ur (P:=λr=>P (a::r)) h (k a)
end
section
variable {x qual:Str}{st:Stmt}{p1 p2 p3 p4 p5 p6:Str}
theorem Sr (h:∀ (kV doc b:Value) (d:Option Addr) (e ct:Value) (a:Value),bindArgs (PySem.W.fnOf x qual (du st) (bG st) (aB st) .none kV doc b d e ct) ⟨[a],[]⟩=pure [(p1,a)]):BD x qual st [p1]:=λkV doc b d e ct c f=>Uq (P:=λc=>bindArgs _ ⟨c,[]⟩=pure (List.zip [p1] c)) f λa=>(h kV doc b d e ct a)
theorem Ss (h:∀ (kV doc c:Value) (e:Option Addr) (f ct:Value) (a b:Value),bindArgs (PySem.W.fnOf x qual (du st) (bG st) (aB st) .none kV doc c e f ct) ⟨[a,b],[]⟩=pure [(p1,a),(p2,b)]):BD x qual st [p1,p2]:=λkV doc c e f ct d g=>Qi (P:=λd=>bindArgs _ ⟨d,[]⟩=pure (List.zip [p1,p2] d)) g λa b=>(h kV doc c e f ct a b)
theorem Su (h:∀ (kV doc d:Value) (f:Option Addr) (g ct:Value) (a b c:Value),bindArgs (PySem.W.fnOf x qual (du st) (bG st) (aB st) .none kV doc d f g ct) ⟨[a,b,c],[]⟩=pure [(p1,a),(p2,b),(p3,c)]):BD x qual st [p1,p2,p3]:=λkV doc d f g ct e i=>Ur (P:=λe=>bindArgs _ ⟨e,[]⟩=pure (List.zip [p1,p2,p3] e)) i λa b c=>(h kV doc d f g ct a b c)
theorem Sv (h:∀ (kV doc e:Value) (g:Option Addr) (i ct:Value) (a b c d:Value),bindArgs (PySem.W.fnOf x qual (du st) (bG st) (aB st) .none kV doc e g i ct) ⟨[a,b,c,d],[]⟩=pure [(p1,a),(p2,b),(p3,c),(p4,d)]):BD x qual st [p1,p2,p3,p4]:=λkV doc e g i ct f j=>We (P:=λf=>bindArgs _ ⟨f,[]⟩=pure (List.zip [p1,p2,p3,p4] f)) j λa b c d=>(h kV doc e g i ct a b c d)
end
section
variable {K:GI}{h:Heap}{mg:GL}{x m c qual:Str}{st:Stmt}{ps:List Str}{f C:Addr}
theorem fE {e:Value}{b h:Option Addr}{d:Array (Option Value)}{kV doc g a ct:Value}(l:K.lookup f=some ⟨e,b,.func (PySem.W.fnOf x qual (du st) (bG st) (aB st) .none kV doc g h a ct),d⟩)
  (c:PySem.W.codeIn K a qual=true) (k:PySem.W.keepIn K (.ref f)=true):FE K x qual st f:=⟨_,Dv l c k⟩
theorem Wg (X:K.In h)(G:h.Ns mainGlobals mg)(a:PySem.W.nsIn K mainGlobals x=some (some (.ref f)))(q:FE K x x st f)(b:BD x x st ps):bu K mg x st ps:=
 Exists.elim q λfd F=>⟨f,fd,F,PySem.W.mg_of X G a,F.binds b⟩
abbrev NC (K:GI)(c:Str)(C:Addr):Prop:=PySem.W.nsIn K mainGlobals c=some (some (.ref C))/\Ln K C
theorem Wh (n:NC K c C)(a:PySem.W.findIn K (.ref C) m=some (some (.ref f)))(i:PySem.W.isFn K (.ref f)=true)(q:FE K m qual st f)(b:BD m qual st ps):MethAt K c m qual st ps:=
 Exists.elim q λfd F=>⟨C,f,fd,n.1,n.2,⟨a,i,F.kp⟩,F,F.binds b⟩
theorem Wi (X:K.In h)(G:h.Ns mainGlobals mg)(n:NC K c C)(d:PySem.W.makesIn K C=true)(e:PySem.W.keepIn K (.ref C)=true)(a:PySem.W.findIn K (.ref C) "__init__"=some (some (.ref f)))(i:PySem.W.isFn K (.ref f)=true)(q:FE K "__init__" qual st f)(b:BD "__init__" qual st ps):DT K mg c qual st ps:=
 Exists.elim q λfd F=>⟨C,f,fd,n.1,PySem.W.mg_of X G n.1,⟨d,a,i,e⟩,F,F.binds b⟩
end
section
variable {prog:Program}{w:World}{A:Around}{E:GJ}{s:Shared}
structure ZA (z TI TO i1 i2:Addr) (f1 f2:List Addr):Prop where
 m1:i1∈f1
 m2:i2∈f2
 z1:z∉f1
 z2:z∉f2
 o1:TO∉f1
 o2:TO∉f2
 x1:i2∉f1
 x2:i1∉f2
 oz:TO≠z
 tz:TI≠z
 to:TI≠TO
 t1:TI∉f1
 t2:TI∉f2
variable {z TI TO i1 i2:Addr}{f1 f2:List Addr}{n1 n2:Nat}{P1 P2:Nat->Value->Prop}{S1 S2:Nat->Heap->Prop}{a b:Value}
end
def Us (k:Bool)(h:Heap)(it a:Addr)(i:Nat):Prop:=match k with
 |true=>h.IsTupleIter it a i
 |false=>h.IsListIter it a i
structure XT (k1 k2:Bool) (a b z TI TO i1 i2:Addr) (n1 n2 i:Nat) (h:Heap):Prop where
 zip:IsZip h z TI TO .none
 its:IsPair h TI (.ref i1) (.ref i2)
 out:∃ u v,IsPair h TO u v
 fst:Us k1 h i1 a i
 snd:Us k2 h i2 b i
 XU:i<=n1
 XW:i<=n2
section
variable {X:Cx}{W:WT}{a b:Expr}{fa fb:GH D}{pos:Pos}
def Ed (K:GI):R2:=λx y H Q => ∃ J b a d q c,At K H J b x/\y = .ref q/\H q=some (.lst c)/\GU K H J a c/\Jn b (.lst a)=some d/\∀ v,At K H J d v->Q v H
theorem C_ (G:X.A.units+150<cLine):JZ X (compareOp .NotEq) (Ed X.K):=by
 intro b s F H x y v u Q I t g h;obtain⟨J,L,O,d,q,N,j,rfl,k,D,e,z⟩:=h;unfold Jn at e;split at e
 ·rename_i p P f a;split at e
  ·rename_i le;cases e;obtain⟨C,M,B⟩:=j.reads I t f;rw[toPy] at a;obtain⟨r,l,m⟩:=map_eq_some_iff.mp a;subst m;cases g;obtain⟨its,i,⟨o,n,E,hc,_,hd⟩,_⟩:=I.list (.inl (.inl k));obtain⟨c,bs,w⟩:=GU.readsAll I D i l;exact SeqAt.compareNe_reads B (.list E hc hd (by simpa using w)) C (by rw[PyData.canLay0];exact c) (by omega) ⟨.bl (!PyData.eqv p (.list r)),H,I,rfl,z _ (At.G_.mpr rfl)⟩
  cases e
 cases e
def ve (x y:D)(S:GO):Option D:=(cE y S).bind λa=>Jn x (.lst a)
def BU (fa fb:GH D):GH D:=λb S=>ah (fa b S) λx c=>ah (fb b c) λy a=>aM (ve x y a) a
theorem zv {b:St}{H:Hp}{Q:VK}(h:tE X W (BU fa fb) b H Q):O4 (Ed X.K) (tE X W fa) (tE X W fb) b H Q:=
 (tG.G1 h).mono λv A ⟨d,i⟩=>(tG.G1 i).mono λB p y=>by
  obtain⟨g,k⟩:=y
  obtain⟨J,D,S,r,t,c,m,e,z⟩:=k;obtain⟨w,m⟩:=m.GY;obtain⟨n,_⟩:=m.GY;have a:aM (ve d g S) S=some (r,t):=e;clear e;cases q:cE g S with
  |none=>rw[ve,q] at a;cases a
  |some f =>
   rw[ve,q,bind_some] at a;obtain⟨l,j,x,rfl,rfl,C,es,o,u⟩:=qQ c.Hi w q;cases q2:Jn d (.lst f) with
   |none=>rw[q2] at a;cases a
   |some s =>
    rw[q2] at a;cases a;exact⟨J,d,f,s,j,x,n,rfl,o,u,q2,λv m=>z J p v Ex.refl c.Hi m⟩
theorem Ck (d:X.A.units+150<cLine)(c:SE X W a fa)(hb:SE X W b fb)(e:behindInMarks .NotEq b=false:=by first |exact vd _ (by decide) (by decide) |with_unfolding_all rfl):Jz X W (.Compare a [.NotEq] [b] pos) (aT (BU fa fb)):=
 (wn (C_ d) c hb e).imp λf H Q h=>Ii.mono (λ_ _ _=>zv) (fm h)
end
section
variable {X:Cx}{W:WT}
theorem uN (l:Addr)(items:Array Value)(n:Nat)(a:Option Addr)(c:Array (Option Value))(t:Tok) :
  Meets (Builtin.«tuple.__mul__» ⟨[.ref l,.int 1 t],[]⟩) (λ_ R s=>s.heap.get? l=some { cls:=.type "tuple",dict:=a,data:=.seq items n,slots:=c }/\R (.ok (.ret (Value.ref l))) s):=
 .of_wp λprog w A R s h=>by
  obtain⟨e,g,d,tk,os⟩:=s;obtain⟨b,h⟩:=h;have f:=AutoSeq1.idx_int
  wp_walk using AutoSeq1.wpAny_loadPart' b
  exact⟨_,rfl,h⟩
def sS:D->D->Option D
 | .tup c,.int n=>if n=1 then some (.tup c) else cI (.tup c) (.int n)
 |a,b=>cI a b
theorem wt:Kk X (binaryOp .Mult) sS:=by
 intro b s z H x y v u Q I k j h;obtain⟨J,E,K,d,w,g,l,e,q⟩:=h;unfold sS at e;split at e
 ·rename_i L n;split at e
  ·rename_i c;subst c;cases e;have C:=g;obtain⟨a,G,rfl,B,m⟩:=At.G3.mp g;cases At.GQ.mp l;cases k;obtain⟨i,rfl⟩:=j;obtain⟨its,r,⟨⟨cls,p,data,t⟩,f,hc,o,hd⟩,D⟩:=I.tuple B.sq;simp only at hc hd;subst hc hd
   exact wpAny_binaryOp_repeat_ref (T:="tuple") (U:="int") (by decide) ⟨_,f,rfl⟩ (λA=>typeIs_int A 1 i) dJ F.fills_int_mul F.slot_int_rmul gN F.slot_int_index.lookup
    (call_meets F.slot_int_rmul (typeIs_int s 1 i) F.entry_int_rmul (F.args_int_rmul_2 _ _) (fF 1 i a its.toArray o p t)
     ⟨f,rfl,⟨_,f,rfl⟩,call_meets F.slot_tuple_mul ⟨_,f,rfl⟩ F.entry_tuple_mul (F.args_tuple_mul_2 _ _) (uN a its.toArray o p t i) ⟨f,.ref _,H,I,rfl,q H _ (G5.refl H) C⟩⟩)
  exact de b s z H x y v u Q I k j ⟨J,_,_,d,w,g,l,e,q⟩
 exact de b s z H x y v u Q I k j ⟨J,_,_,d,w,g,l,e,q⟩
end
end L2
namespace L2
open PySem PyProof.Rows
abbrev BH:Bool->Keyed->Array Keyed->Nat->Nat->Nat->StateT SortSt Sem (Option Nat):=sortPriv% PySem.Builtin.gallop
abbrev zE:Array Keyed->Array Keyed->StateT SortSt Sem (Array Keyed):=sortPriv% PySem.Builtin.mergeLo
abbrev mergeAt':Nat->StateT SortSt Sem Bool:=sortPriv% PySem.Builtin.mergeAt
def uz (prog:Program)(w:World)(A:Around)(E:GJ)(s:Shared)(kd:SortKind)(O:KeyOrd)(kf:Value->O.α)(G:Keyed->Prop):Prop:=
 ∀ x y:Keyed,G x->G y->∀ (st:SortSt) (Q:Option Bool->SortSt->Prop),kindOf st=kd->Q (some (O.blt (kf x.1) (kf y.1))) st->wpS (model prog w) A E s (lt' x y) Q st
section
variable {prog:Program}{w:World}{A:Around}{E:GJ}{s:Shared}{kd:SortKind}{O:KeyOrd}{kf:Value->O.α}{G:Keyed->Prop}
theorem cG {arr:Array Keyed}{i:Nat}(h:i<arr.size){Q:Keyed->SortSt->Prop}{st:SortSt}(q:Q arr[i] st):wpS (model prog w) A E s (elem' arr i) Q st:=by rw[elem'_eq,getElem?_pos arr i h];exact wpS_pure q
def NQ (O:KeyOrd)(kf:Value->O.α)(left:Bool)(key x:Keyed):Bool:=if left then O.blt (kf x.1) (kf key.1) else !O.blt (kf key.1) (kf x.1)
theorem gZ {e:Type}{b:Nat}{f:Nat->e->StateT SortSt Sem (ForInStep e)}{Q : e->SortSt->Prop}{c : e}{st:SortSt}(hb : 0<b)(h:wpS (model prog w) A E s (f 0 c) (λr a=>match r with | .done d=>Q d a | .yield _=>False) st):wpS (model prog w) A E s (forIn [0:b] c f) Q st:=by
 refine wpS_forRange (I:=λx d a=>x=0/\d=c/\a=st) (λi d a _ _ z=>?_) (λd a z=>?_) ⟨rfl,rfl,rfl⟩
 ·obtain⟨rfl,rfl,rfl⟩:=z
  exact wpS_mono h λr j q=>by
   cases r with
   |done g=>exact q
   |yield g=>exact q.elim
 have:=z.1;omega
theorem v5 (L:uz prog w A E s kd O kf G){left:Bool}{key:Keyed}{arr:Array Keyed}{base n a k:Nat}{st:SortSt}{Q:Option Nat->SortSt->Prop}(m:kindOf st=kd)(l:G key)(ga:∀ x∈arr.toList,G x)
  (hb:base+n<=arr.size) (t : 2<=n) (B:Nat->Bool) (r:∀ i (h:base+i<arr.size),i<n->B i=NQ O kf left key arr[base+i])
  (c:(a=0/\k=1/\B 0=true/\B 1=false)∨(a=n-1/\k=n-1/\B (n-1)=false/\B (n-2)=true))
  (h:Q (some k) st):wpS (model prog w) A E s (BH left key arr base n a) Q st:=by
 have b:∀ i,i<n->∀ {d:Option Bool->SortSt->Prop},d (some (B i)) st->wpS (model prog w) A E s (do let x ← elem' arr (base+i);if left=true then lt' x key else return (← lt' key x).map (!·)) d st:=by
  intro i p d q;have f:base+i<arr.size:=by omega
  refine wpS_bind (cG f ?_);have o:G arr[base+i]:=ga _ (getElem_mem_toList f);have e:=r i f p;unfold NQ at e;cases left with
  |true =>
   rw[if_pos rfl];rw[if_pos rfl] at e;exact L _ _ o l st _ m (by rw[← e];exact q)
  |false =>
   rw[if_neg (by decide)];rw[if_neg (by decide)] at e;refine wpS_bind (L _ _ l o st _ m (wpS_pure ?_));show d (some (!O.blt (kf key.1) (kf arr[base+i].1))) st;rw[← e];exact q
 rcases c with ⟨rfl,rfl,g,j⟩ |⟨rfl,rfl,g,j⟩
 ·refine wpS_bind (b 0 (by omega) ?_);rw[g];dsimp only;rw[if_pos rfl];refine wpS_bind (gZ (by omega) ?_);dsimp only;rw[if_neg (by omega)];refine wpS_bind (b (0+1) (by omega) ?_);rw[show 0+1=1 from rfl,j];refine wpS_pure ?_;dsimp only;refine wpS_bind (gZ (by omega) ?_);dsimp only;rw[if_pos (by omega)];refine wpS_pure (wpS_pure ?_);rw[show 0+min 1 (n-0)=1 by omega];exact h
 refine wpS_bind (b (n-1) (by omega) ?_);rw[g];dsimp only;rw[if_neg (by decide)];refine wpS_bind (gZ (by omega) ?_);dsimp only;rw[if_neg (by omega)];refine wpS_bind (b (n-1-1) (by omega) ?_);rw[show n-1-1=n-2 from by omega,j];refine wpS_pure ?_;dsimp only;refine wpS_bind (gZ (by omega) ?_);dsimp only;rw[if_pos (by omega)];exact wpS_pure (wpS_pure h)
end
section
variable {O:KeyOrd}{kf:Value->O.α}
def II (O:KeyOrd)(kf:Value->O.α)(x y:Keyed):Prop:=O.kle (kf x.1) (kf y.1)
theorem i6 {x y z:Keyed}(h:II O kf x y)(g:II O kf y z):II O kf x z:=KeyOrd.kle_trans h g
structure Mg (O:KeyOrd) (kf:Value->O.α) (T out A B:List Keyed):Prop where
 perm:(out++(A++B)).Perm T
 so:out.Pairwise (II O kf)
 sa:A.Pairwise (II O kf)
 sb:B.Pairwise (II O kf)
 low:∀ x∈out,∀ y∈A++B,II O kf x y
def Res (O:KeyOrd)(kf:Value->O.α)(T r:List Keyed):Prop:=r.Perm T/\r.Pairwise (II O kf)
theorem Mg.Qj {T out p A B:List Keyed}(h:Mg O kf T out (p++A) B)(l:∀ x∈p,∀ y∈B,II O kf x y):Mg O kf T (out++p) A B:=by
 have sa:=pairwise_append.mp h.sa;refine⟨by have:=h.perm;simpa [List.append_assoc] using this,pairwise_append.mpr ⟨h.so,sa.1,λx hx y hy=>h.low x hx y (by simp[hy])⟩,sa.2.1,h.sb,λx hx y hy=>?_⟩;rcases mem_append.mp hx with hx |hx
 ·exact h.low x hx y (by
   rcases mem_append.mp hy with hy |hy
   ·simp[hy]
   simp[hy])
 rcases mem_append.mp hy with hy |hy
 ·exact sa.2.2 x hx y hy
 exact l x hx y hy
theorem Mg.Qk {T out p A B:List Keyed}(h:Mg O kf T out A (p++B))(l:∀ x∈p,∀ y∈A,II O kf x y):Mg O kf T (out++p) A B:=by
 have sb:=pairwise_append.mp h.sb;refine⟨?_,pairwise_append.mpr ⟨h.so,sb.1,λx hx y hy=>h.low x hx y (by simp[hy])⟩,h.sa,sb.2.1,λx hx y hy=>?_⟩
 ·refine List.Perm.trans ?_ h.perm;rw[List.append_assoc];refine List.Perm.append_left out ?_;rw[← List.append_assoc,← List.append_assoc];exact List.Perm.append_right B List.perm_append_comm
 rcases mem_append.mp hx with hx |hx
 ·exact h.low x hx y (by
   rcases mem_append.mp hy with hy |hy
   ·simp[hy]
   simp[hy])
 rcases mem_append.mp hy with hy |hy
 ·exact l x hx y hy
 exact sb.2.2 x hx y hy
theorem Mg.last {T out B:List Keyed}{z:Keyed}(h:Mg O kf T out [z] B)(l:∀ y∈B,II O kf y z):Res O kf T (out++B++[z]):=by
 refine⟨?_,pairwise_append.mpr ⟨pairwise_append.mpr ⟨h.so,h.sb,λx hx y a=>h.low x hx y (by simp[a])⟩,List.pairwise_singleton _ _,λx hx y a=>?_⟩⟩
 ·refine List.Perm.trans ?_ h.perm;rw[List.append_assoc];exact List.Perm.append_left out List.perm_append_comm
 have b:y=z:=by simpa using a
 subst b;rcases mem_append.mp hx with hx |hx
 ·exact h.low x hx y (by simp)
 exact l x hx
theorem drop_cons {a:Array Keyed}{i:Nat}(h:i<a.size):a.toList.drop i=a[i]::a.toList.drop (i+1):=by rw[List.drop_eq_getElem_cons (by simpa using h)];simp
theorem lT {a:Array Keyed}(i:Nat):(a.extract i).toList=a.toList.drop i:=by rw[toList_extract,List.extract_eq_drop_take];exact take_of_length_le (by simp)
theorem wC {l:List Keyed}{x y:Keyed}(a:(y::l).Pairwise (II O kf))(h:II O kf x y):∀ z∈y::l,II O kf x z:=by
 intro z hz;rcases mem_cons.mp hz with e |hz
 ·rw[e];exact h
 exact i6 h ((pairwise_cons.mp a).1 z hz)
end
structure Ut (st GX:SortSt):Prop where
 kind:kindOf GX=kindOf st
 arr:arrOf GX=arrOf st
 pend:pendingOf GX=pendingOf st
 fail:failedOf GX=failedOf st
section
variable {prog:Program}{w:World}{A:Around}{E:GJ}{s:Shared}{kd:SortKind}{O:KeyOrd}{kf:Value->O.α}{G:Keyed->Prop}
theorem rV (L:uz prog w A E s kd O kf G){a b:Array Keyed}{st:SortSt}{Q:Array Keyed->SortSt->Prop}(Z:kindOf st=kd)(ga:∀ x∈a.toList,G x)(W:∀ x∈b.toList,G x)(hn:b.size=a.size)(q : 2<=a.size)
  (sa:a.toList.Pairwise (II O kf)) (sb:b.toList.Pairwise (II O kf)) (J:∀ i (h:i<a.size),O.blt (kf (b[i]'(by omega)).1) (kf a[i].1)=true) (ab:∀ i (h:i+1<a.size),O.blt (kf (b[i+1]'(by omega)).1) (kf a[i].1)=false) (hg : 2<=gallopOf st)
  (h:∀ r,Res O kf (a.toList++b.toList) r.toList->Q r st):wpS (model prog w) A E s (zE a b) Q st:=by
 have S : 0<a.size:=by omega
 have hb : 0<b.size:=by omega
 let T:=a.toList++b.toList;let I:Array Keyed->Nat->Nat->Prop:=λout d f=>Mg O kf T out.toList (a.toList.drop d) (b.toList.drop f);have X:∀ i (n:i<a.size),G a[i]:=λi n=>ga _ (getElem_mem_toList n);have Y:∀ i (n:i<b.size),G b[i]:=λi n=>W _ (getElem_mem_toList n)
 have Wm:∀ i j (n:i<a.size) (C:j<a.size),i<=j->II O kf a[i] a[j]:=by
  intro i j n C NP;rcases lt_or_ge i j with H_ |OE
  ·have:=pairwise_iff_getElem.mp sa i j (by simpa using n) (by simpa using C) H_;simpa using this
  have e:i=j:=by omega
  subst e;exact KeyOrd.kle_refl _
 have first:II O kf b[0] a[0]:=KeyOrd.kle_of_klt (J 0 S)
 have last:∀ y∈b.toList,II O kf y a[a.size-1]:=λy l=>by
  obtain⟨j,C,rfl⟩:=getElem_of_mem l;have N:j<a.size:=by rw[← hn];simpa using C
  have:=i6 (KeyOrd.kle_of_klt (J j N)) (Wm j (a.size-1) N (by omega) (by omega));simpa using this
 have V:∀ {out:Array Keyed}{d f:Nat},I out d f->d+1=a.size->Res O kf T (out++b.extract f++a.extract d).toList:=by
  intro out d f g e;have g:Mg O kf T out.toList (a.toList.drop d) (b.toList.drop f):=g;have M:a.toList.drop d=[a[a.size-1]]:=by rw[drop_cons (by omega),drop_eq_nil_of_le (by simp[e])];congr 2;omega
  rw[Array.toList_append,Array.toList_append,lT,lT,M];rw[M] at g;exact g.last λy l=>last y (mem_of_mem_drop l)
 have R:∀ {out:Array Keyed}{d f:Nat}(m:d<a.size) (q:f<b.size),I out d f->II O kf b[f] a[d]->I (out.push b[f]) d (f+1):=by
  intro out d f m q g H;have g:Mg O kf T out.toList (a.toList.drop d) (b.toList.drop f):=g;have z:=g;rw[drop_cons q] at g;show Mg O kf T (out.push b[f]).toList _ _;rw[Array.toList_push];refine Mg.Qk (p:=[b[f]]) g λx v y l=>?_;have ex:x=b[f]:=by simpa using v
  subst ex;have K:=z.sa;rw[drop_cons m] at K l;exact wC K H y l
 have Qn:∀ {out:Array Keyed}{d f:Nat}(m:d<a.size) (q:f<b.size),I out d f->II O kf a[d] b[f]->I (out.push a[d]) (d+1) f:=by
  intro out d f m q g H;have g:Mg O kf T out.toList (a.toList.drop d) (b.toList.drop f):=g;have z:=g;rw[drop_cons m] at g;show Mg O kf T (out.push a[d]).toList _ _;rw[Array.toList_push];refine Mg.Qj (p:=[a[d]]) g λx v y l=>?_;have ex:x=a[d]:=by simpa using v
  subst ex;have P:=z.sb;rw[drop_cons q] at P l;exact wC P H y l
 have start:I #[b[0]] 0 1:=by
  have g:Mg O kf T [] a.toList b.toList:=⟨by simp[T],List.Pairwise.nil,sa,sb,λx v=>by simp at v⟩;have z:I #[] 0 0:=by show Mg O kf T [] (a.toList.drop 0) (b.toList.drop 0);simpa using g
  exact R S hb z first
 refine wpS_bind (wpS_lift (wpAny_rule ⟨rfl,?_⟩));refine wpS_bind (cG hb ?_);dsimp only;rw[if_neg (by simp;omega),if_neg (by simp;omega)];refine wpS_bind (wpS_get ?_);refine wpS_bind (wpS_mono (Q:=λc k=>k=st/\∃ r rest,c=(some r,rest)/\Res O kf T r.toList) (gZ (by omega) ?_) ?post)
 case post =>
  rintro c k ⟨rfl,r,rest,rfl,hr⟩;exact wpS_pure (h r hr)
 dsimp only
 refine wpS_bind (wpS_mono (wpS_forRange (I:=λy c k=>k=st/\∃ out d f B F,c=(none,out,d,f,B,F)/\I out d f/\d+1<a.size/\f<b.size/\d+f=y+1/\(f=d+1/\B=0∨f=d/\F=0))
  (Q:=λc k=>k=st/\∃ r rest,c=(some r,rest)/\Res O kf T r.toList) ?step ?fin ⟨rfl,_,_,_,_,_,rfl,start,by omega,by omega,rfl,.inl ⟨rfl,rfl⟩⟩) ?post1)
 case post1 =>
  rintro c k ⟨rfl,r,rest,rfl,hr⟩;exact wpS_pure ⟨rfl,r,_,rfl,hr⟩
 case fin =>
  rintro c k ⟨rfl,out,d,f,B,F,rfl,g,m,o,U,_⟩;omega
 case step =>
  rintro y c k _ l ⟨rfl,out,d,f,B,F,rfl,g,m,o,U,h5⟩;dsimp only;have u:d<a.size:=by omega
  refine wpS_bind (cG o (wpS_bind (cG u (wpS_bind (L _ _ (Y _ o) (X _ u) k _ Z ?_)))));dsimp only;rcases h5 with ⟨rfl,rfl⟩ |⟨rfl,rfl⟩
  ·have e:=ab d (by omega);rw[e,if_neg (by decide)];refine wpS_bind (cG u ?_);have D:=Qn u o g (show O.kle _ _ from e)
   try dsimp only
   by_cases t:(d+1+1==a.size)=true
   ·rw[if_pos t];exact wpS_pure ⟨rfl,_,_,rfl,V D (by simpa using t)⟩
   rw[if_neg t];have XX:d+1+1≠a.size:=by simpa using t
   rw[if_neg (show ¬ (0+1≥gallopOf k) by omega)];exact wpS_pure ⟨rfl,_,_,_,_,_,rfl,D,by omega,o,by omega,.inr ⟨rfl,rfl⟩⟩
  have e:=J f u;rw[e,if_pos rfl];refine wpS_bind (cG o ?_);have D:=R u o g (KeyOrd.kle_of_klt e)
  try dsimp only
  have t:¬ (f+1==b.size)=true:=by simp;omega
  rw[if_neg t,if_neg (show ¬ (0+1≥gallopOf k) by omega)];exact wpS_pure ⟨rfl,_,_,_,_,_,rfl,D,m,by omega,by omega,.inl ⟨rfl,rfl⟩⟩
end
abbrev yl:Nat->Nat->StateT SortSt Sem (Option Nat):=sortPriv% PySem.Builtin.countRun
abbrev uq:Nat->Nat->Nat->StateT SortSt Sem Bool:=sortPriv% PySem.Builtin.binarySort
section
variable {prog:Program}{w:World}{A:Around}{E:GJ}{s:Shared}{kd:SortKind}{O:KeyOrd}{kf:Value->O.α}{G:Keyed->Prop}
def KX (kf:Value->O.α)(a:Array Keyed)(i:Nat):O.α:=match a[i]? with
 |some p=>kf p.1
 |none=>kf .none
theorem w5 {a ys:Array Keyed}{i j:Nat}(h:a[i]?=ys[j]?):KX kf a i=KX kf ys j:=by unfold KX;rw[h]
theorem lZ {a:Array Keyed}{i:Nat}(h:i<a.size):KX kf a i=kf a[i].1:=by unfold KX;rw[getElem?_pos a i h]
structure Sg (G:Keyed->Prop) (kd:SortKind) (lo hi:Nat) (st GX:SortSt):Prop where
 kind:kindOf GX=kd
 good:∀ x∈(arrOf GX).toList,G x
 perm:(arrOf GX).Perm (arrOf st)
 pend:pendingOf GX=pendingOf st
 fail:failedOf GX=failedOf st
 Pg:gallopOf GX=gallopOf st
 same:∀ k,(k<lo∨hi<=k)->(arrOf GX)[k]?=(arrOf st)[k]?
theorem Sg.size {lo b:Nat}{st a:SortSt}(h:Sg G kd lo b st a):(arrOf a).size=(arrOf st).size:=h.perm.size_eq
theorem Sg.set {lo b:Nat}{st a:SortSt}(h:Sg G kd lo b st a){ys:Array Keyed}(d:ys.Perm (arrOf a))(e:∀ k,(k<lo∨b<=k)->ys[k]?=(arrOf a)[k]?):Sg G kd lo b st (setArr a ys):=
 ⟨h.kind,λx f=>h.good x ((perm_iff_toList_perm.mp d).mem_iff.mp f),d.trans h.perm,h.pend,h.fail,h.Pg,λk c=>(e k c).trans (h.same k c)⟩
theorem kt (L:uz prog w A E s kd O kf G){lo c:Nat}{st0 st:SortSt}(a:Sg G kd lo c st0 st){i j:Nat}(c:i<(arrOf st0).size)(e:j<(arrOf st0).size){Q:Option Bool->SortSt->Prop}
  (q:Q (some (O.blt (KX kf (arrOf st) i) (KX kf (arrOf st) j))) st):wpS (model prog w) A E s (ltAt' i j) Q st:=by
 have d:i<(arrOf st).size:=by rw[a.size];exact c
 have b:j<(arrOf st).size:=by rw[a.size];exact e
 rw[lZ d,lZ b] at q;rw[ltAt'_eq];refine wpS_bind (wpS_get (wpS_bind (cG d (wpS_bind (cG b ?_)))));exact L _ _ (a.good _ (getElem_mem_toList d)) (a.good _ (getElem_mem_toList b)) st _ a.kind q
theorem AD {i j:Nat}{st:SortSt}{Q:Unit->SortSt->Prop}(q:Q () (setArr st (bubble (arrOf st) i (i-j)))):wpS (model prog w) A E s (moveDown' i j) Q st:=by rw[moveDown'_eq];exact wpS_modify q
def L8 (kf:Value->O.α)(a:Array Keyed)(lo b:Nat):Prop:=∀ i j,lo<=i->i<=j->j<b->O.kle (KX kf a i) (KX kf a j)
theorem mJ (L:uz prog w A E s kd O kf G){lo b:Nat}{st:SortSt}{Q:Option Nat->SortSt->Prop}(f:kindOf st=kd)(g:∀ x∈(arrOf st).toList,G x)(k:lo+b<=(arrOf st).size)(j : 2<=b)
  (u:O.blt (KX kf (arrOf st) lo) (KX kf (arrOf st) (lo+1))=true) (d:b=2∨O.blt (KX kf (arrOf st) (lo+2)) (KX kf (arrOf st) (lo+1))=true) (h:Q (some 2) st):wpS (model prog w) A E s (yl lo b) Q st:=by
 have e:Sg G kd lo lo st st:=⟨f,g,Array.Perm.refl _,rfl,rfl,rfl,λ_ _=>rfl⟩;refine wpS_bind (wpS_mono (wpS_forRange (I:=λx c a=>a=st/\c=(none,x)/\x<=2) (Q:=λc a=>a=st/\c=(none,2)) ?s1 ?f1 ⟨rfl,rfl,by omega⟩) ?p1)
 case s1 =>
  rintro x c a l m ⟨rfl,rfl,i⟩
  try dsimp only
  refine wpS_bind (kt L e (by omega) (by omega) ?_);have:x=1∨x=2:=by omega
  rcases this with rfl |rfl
  ·rw[show lo+1-1=lo by omega,show O.blt (KX kf (arrOf a) (lo+1)) (KX kf (arrOf a) lo)=false from KeyOrd.klt_asymm u];exact wpS_pure ⟨rfl,rfl,by omega⟩
  rw[show lo+2-1=lo+1 by omega,d.resolve_left (by omega)];exact wpS_pure ⟨rfl,rfl⟩
 case f1 =>
  rintro c a ⟨rfl,rfl,i⟩;exact⟨rfl,by rw[show max 1 b=2 by omega]⟩
 case p1 =>
  rintro c a ⟨rfl,rfl⟩
  try dsimp only
  split
  ·exact wpS_pure h
  rw[if_pos (by decide)];refine wpS_bind (kt L e (by omega) (by omega) ?_);rw[show lo+2-1=lo+1 by omega,u];exact wpS_pure h
theorem As {b:Array Keyed}{a d:Nat}(g:a<b.size)(hd:d<=a)(k:Nat):KX kf (bubble b a d) k=if k=a-d then KX kf b a else if a-d<k/\k<=a then KX kf b (k-1) else KX kf b k:=by
 have e:=getElem?_bubble g d hd k;split
 ·rename_i c;rw[if_pos c] at e;exact w5 e
 rename_i c;rw[if_neg c] at e;split
 ·rename_i f;rw[if_pos f] at e;exact w5 e
 rename_i f;rw[if_neg f] at e;exact w5 e
theorem iu (L:uz prog w A E s kd O kf G){lo n ok:Nat}{st0 st:SortSt}{Q:Bool->SortSt->Prop}(C:Sg G kd lo (lo+n) st0 st)(B:lo+n<=(arrOf st0).size)(Ha:ok<=n)(F:L8 kf (arrOf st) lo (lo+ok))
  (h:∀ d,Sg G kd lo (lo+n) st0 d->L8 kf (arrOf d) lo (lo+n)->Q true d):wpS (model prog w) A E s (uq lo n ok) Q st:=by
 refine wpS_bind (wpS_mono (wpS_forRange (I:=λk c d=>c=(none,())/\Sg G kd lo (lo+n) st0 d/\L8 kf (arrOf d) lo (lo+min k n)) (Q:=λc d=>c=(none,())/\Sg G kd lo (lo+n) st0 d/\L8 kf (arrOf d) lo (lo+n)) ?s1 ?f1 ⟨rfl,C,λi j a1 a2 D=>?i1⟩) ?p1)
 case i1 =>
  by_cases e:j<lo+ok
  ·exact F i j a1 a2 e
  have:i=j:=by omega
  subst this;exact KeyOrd.kle_refl _
 case f1 =>
  rintro c d ⟨hc,m,o⟩;refine⟨hc,m,?_⟩;rwa [show min (max (max ok 1) n) n=n by omega] at o
 case p1 =>
  rintro c d ⟨rfl,m,o⟩;exact wpS_pure (h d m o)
 case s1 =>
  rintro k c d y z ⟨rfl,m,o⟩;rw[show min k n=k by omega] at o
  try dsimp only
  refine wpS_bind (wpS_mono (wpS_forRange (I:=λx c f=>f=d/\∃ l r,c=(none,l,r)/\l<=r/\r<=k/\r-l<=k-x/\(∀ i,i<l->O.kle (KX kf (arrOf d) (lo+i)) (KX kf (arrOf d) (lo+k)))/\∀ i,r<=i->i<k->O.klt (KX kf (arrOf d) (lo+k)) (KX kf (arrOf d) (lo+i)))
   (Q:=λc f=>f=d/\∃ l r,c=(none,l,r)/\l<=k/\(∀ i,i<l->O.kle (KX kf (arrOf d) (lo+i)) (KX kf (arrOf d) (lo+k)))/\∀ i,l<=i->i<k->O.klt (KX kf (arrOf d) (lo+k)) (KX kf (arrOf d) (lo+i))) ?s2 ?f2 ⟨rfl,0,k,rfl,by omega,by omega,by omega,λi K=>by omega,λi a b=>by omega⟩) ?p2)
  case f2 =>
   rintro c f ⟨rfl,l,r,rfl,a1,a2,D,t,p⟩;exact⟨rfl,l,r,rfl,by omega,t,λi v u=>p i (by omega) u⟩
  case s2 =>
   rintro x c f _ M ⟨rfl,l,r,rfl,a1,a2,D,t,p⟩
   try dsimp only
   by_cases e:l≥r
   ·rw[if_pos e];exact wpS_pure ⟨rfl,l,r,rfl,by omega,t,λi v u=>p i (by omega) u⟩
   rw[if_neg e];refine wpS_bind (kt L m (by omega) (by omega) ?_);clear B Ha y z;have m1:l<=(l+r) / 2:=by omega
   have m2:(l+r) / 2<r:=by omega
   generalize (l+r) / 2=md at *
   cases hb:O.blt (KX kf (arrOf f) (lo+k)) (KX kf (arrOf f) (lo+md)) with
   |true=>exact wpS_pure ⟨rfl,l,md,rfl,m1,by omega,by omega,t,λi v u=>KeyOrd.klt_of_klt_of_kle hb (o _ _ (by omega) (by omega) (by omega))⟩
   |false=>exact wpS_pure ⟨rfl,md+1,r,rfl,m2,a2,by omega,λi v=>KeyOrd.kle_trans (o _ _ (by omega) (by omega) (by omega)) (show O.kle _ _ from hb),p⟩
  case p2 =>
   rintro c f ⟨rfl,l,r,rfl,a1,t,p⟩
   try dsimp only
   have g:lo+k<(arrOf f).size:=by rw[m.size];omega
   refine wpS_bind (AD (wpS_pure ⟨rfl,m.set (bubble_perm _ _ _) (λq hq=>?_),?_⟩))
   ·rw[getElem?_bubble g _ (by omega),if_neg (by rcases hq with hq |hq<;>omega),if_neg (by rcases hq with hq |hq<;>omega)]
   rw[show min (k+1) n=k+1 by omega];intro i j v u N;show O.kle (KX kf (bubble (arrOf f) (lo+k) (lo+k-(lo+l))) i) (KX kf (bubble (arrOf f) (lo+k) (lo+k-(lo+l))) j);rw[As g (by omega),As g (by omega),show lo+k-(lo+k-(lo+l))=lo+l by omega];have up:∀ q,lo<=q->q<lo+l->O.kle (KX kf (arrOf f) q) (KX kf (arrOf f) (lo+k)):=λq H J=>by have:=t (q-lo) (by omega);rwa [show lo+(q-lo)=q by omega] at this
   have dn:∀ q,lo+l<=q->q<lo+k->O.klt (KX kf (arrOf f) (lo+k)) (KX kf (arrOf f) q):=λq H J=>by have:=p (q-lo) (by omega) (by omega);rwa [show lo+(q-lo)=q by omega] at this
   clear B Ha y z g t p C m F h
   repeat' split
   all_goals first
    |(exfalso;omega)
    |exact KeyOrd.kle_refl _
    |exact up _ (by omega) (by omega)
    |exact KeyOrd.kle_of_klt (dn _ (by omega) (by omega))
    |exact o _ _ (by omega) (by omega) (by omega)
theorem writes:∀ (m:List Keyed) (c:Array Keyed) (b o:Nat),b+o+m.length<=c.size->((m.zipIdx o).foldl (λa (d:Keyed×Nat)=>a.setIfInBounds (b+d.2) d.1) c).toList=c.toList.take (b+o)++(m++c.toList.drop (b+o+m.length))
 |[],c,b,o,h=>by simp
 |p::m,c,b,o,h=>by
  rw[length_cons] at h;have e:=writes m (c.setIfInBounds (b+o) p) b (o+1) (by rw[Array.size_setIfInBounds];omega);rw[List.zipIdx_cons,foldl_cons];show ((m.zipIdx (o+1)).foldl _ (c.setIfInBounds (b+o) p)).toList=_;rw[e,Array.toList_setIfInBounds,← add_assoc,length_cons];have g:(c.toList.set (b+o) p).take (b+o+1)=c.toList.take (b+o)++[p]:=by rw[List.take_succ,List.take_set_of_le (le_refl _),getElem?_set_self (by simpa using (by omega:b+o<c.size))];rfl
  have f:(c.toList.set (b+o) p).drop (b+o+1+m.length)=c.toList.drop (b+o+(m.length+1)):=by rw[List.drop_set_of_lt (by omega)];congr 1;omega
  rw[g,f];simp
end
section
variable {prog:Program}{w:World}{A:Around}{E:GJ}{s:Shared}{kd:SortKind}{O:KeyOrd}{kf:Value->O.α}{G:Keyed->Prop}
theorem AC {st a:SortSt}{Q:PUnit->SortSt->Prop}(q:Q ⟨⟩ a):wpS (model prog w) A E s (set a:StateT SortSt Sem PUnit) Q st:=by unfold wpS;rw[StateT.run_set];exact wpAny_pure ⟨rfl,q⟩
theorem rW (L:uz prog w A E s kd O kf G){st:SortSt}{d g:Nat}{X Y:List Keyed}{Q:Bool->SortSt->Prop}(H:kindOf st=kd)(k:∀ x∈(arrOf st).toList,G x)(R:failedOf st=none)(Mn : 2<=gallopOf st)
  (p:pendingOf st = #[(0,32,d),(32,32,g)]) (e:(arrOf st).toList=X++Y) (f:X.length=32) (J:Y.length=32) (D:X.Pairwise (II O kf)) (C:Y.Pairwise (II O kf))
  (n:∀ i (h:i<32),O.blt (kf (X[i]'(by omega)).1) (kf (Y[i]'(by omega)).1)=true) (M:∀ i (h:i+1<32),O.blt (kf (Y[i]'(by omega)).1) (kf (X[i+1]'(by omega)).1)=true)
  (h:∀ q,failedOf q=none->(pendingOf q).size=1->Res O kf (X++Y) (arrOf q).toList->Q true q) :
  wpS (model prog w) A E s (mergeAt' 0) Q st:=by
 have F:(arrOf st).size=32+32:=by have:=congrArg List.length e;simpa [f,J] using this
 have V:∀ j (W:j<(arrOf st).size),(arrOf st)[j]=(X++Y)[j]'(by rw[List.length_append];omega):=λj W=>by
  have h2:(arrOf st)[j]=(arrOf st).toList[j]'(by simpa using W):=by simp
  rw[h2];congr 1
 have t:∀ j (c:j<32),(arrOf st)[j]'(by omega)=X[j]'(by omega):=λj c=>by rw[V,List.getElem_append_left]
 have o:∀ j (c:j<32),(arrOf st)[32+j]'(by omega)=Y[j]'(by omega):=λj c=>by rw[V,List.getElem_append_right (by omega)];congr 1;omega
 have gd:∀ j (c:j<(arrOf st).size),G (arrOf st)[j]:=λj c=>k _ (getElem_mem_toList c);refine wpS_bind (wpS_get ?_);rw[show (sortPriv% PySem.Builtin.SortState.pending) st=pendingOf st from rfl,p,show (#[(0,32,d),(32,32,g)]:Array (Nat×Nat×Nat))[0]?=some (0,32,d) from rfl,show (#[(0,32,d),(32,32,g)]:Array (Nat×Nat×Nat))[0+1]?=some (32,32,g) from rfl];dsimp only;refine wpS_bind (AC ?_);refine wpS_bind (cG (show 32<(arrOf st).size by omega) ?_);have y0:(arrOf st)[32]'(by omega)=Y[0]'(by omega):=o 0 (by omega);refine wpS_bind (v5 L (by exact H) (gd 32 (by omega)) k (by show 0+32<=(arrOf st).size;omega) (by omega) (λj=>if c : 0+j<(arrOf st).size then NQ O kf false ((arrOf st)[32]'(by omega)) (arrOf st)[0+j] else false) (λj c _=>by rw[dif_pos c]) (.inl ⟨rfl,rfl,?_,?_⟩) ?_)
 ·rw[dif_pos (by omega),y0];unfold NQ;rw[if_neg (by decide)];have:=KeyOrd.klt_asymm (n 0 (by omega));rw[show (arrOf st)[0+0]'(by omega)=X[0]'(by omega) from t 0 (by omega)];rw[show O.blt (kf (Y[0]'(by omega)).1) (kf (X[0]'(by omega)).1)=false from this];rfl
 ·rw[dif_pos (by omega),y0];unfold NQ;rw[if_neg (by decide)];simp only[zero_add];rw[show (arrOf st)[1]'(by omega)=X[1]'(by omega) from t 1 (by omega),show O.blt (kf (Y[0]'(by omega)).1) (kf (X[1]'(by omega)).1)=true from M 0 (by omega)];rfl
 try dsimp only
 rw[if_neg (by simp)];refine wpS_bind (cG (show 0+1+(32-1)-1<(arrOf st).size by omega) ?_);have P:(arrOf st)[0+1+(32-1)-1]'(by omega)=X[32-1]'(by omega):=by have:=t (32-1) (by omega);rw[← this]
 refine wpS_bind (v5 L (by exact H) (gd _ (by omega)) k (by show 32+32<=(arrOf st).size;omega) (by omega) (λj=>if c : 32+j<(arrOf st).size then NQ O kf true ((arrOf st)[0+1+(32-1)-1]'(by omega)) (arrOf st)[32+j] else false) (λj c _=>by rw[dif_pos c]) (.inr ⟨rfl,rfl,?_,?_⟩) ?_)
 ·rw[dif_pos (by omega),P];unfold NQ;rw[if_pos rfl,o (32-1) (by omega)];exact KeyOrd.klt_asymm (n (32-1) (by omega))
 ·rw[dif_pos (by omega),P];unfold NQ;rw[if_pos rfl,o (32-2) (by omega)];have:=M (32-2) (by omega);simp only[show 32-2+1=32-1 by omega] at this;exact this
 try dsimp only
 rw[if_neg (by simp),if_pos (by omega)];have ex:((arrOf st).extract (0+1) 32).toList=X.drop 1:=by rw[toList_extract,List.extract_eq_drop_take,e,List.drop_append_of_le_length (by omega),List.take_append_of_le_length (by rw[length_drop];omega)];exact take_of_length_le (by rw[length_drop];omega)
 have B:((arrOf st).extract 32 (32+(32-1))).toList=Y.take (32-1):=by rw[toList_extract,List.extract_eq_drop_take,e,List.drop_append,drop_eq_nil_of_le (by omega),nil_append,f,Nat.sub_self,drop_zero,Nat.add_sub_cancel_left]
 have lx:((arrOf st).extract (0+1) 32).size=32-1:=by rw[← length_toList,ex,length_drop,f]
 have ly:((arrOf st).extract 32 (32+(32-1))).size=32-1:=by rw[← length_toList,B,length_take,J];omega
 have T:∀ i (m:i<32-1),((arrOf st).extract (0+1) 32)[i]'(by omega)=X[i+1]'(by omega):=λi m=>by rw[Array.getElem_extract,← t (i+1) (by omega)];congr 1;omega
 have U:∀ i (m:i<32-1),((arrOf st).extract 32 (32+(32-1)))[i]'(by omega)=Y[i]'(by omega):=λi m=>by rw[Array.getElem_extract];exact o i (by omega)
 refine wpS_bind (rV (a:=(arrOf st).extract (0+1) 32) (b:=(arrOf st).extract 32 (32+(32-1))) L (by exact H) (λz hz=>by rw[ex] at hz;exact k z (by rw[e];simp[mem_of_mem_drop hz])) (λz hz=>by rw[B] at hz;exact k z (by rw[e];simp[mem_of_mem_take hz])) (by omega) (by omega)
  (by rw[ex];exact D.sublist (List.drop_sublist _ _)) (by rw[B];exact C.sublist (List.take_sublist _ _)) (λi m=>by rw[T i (by omega),U i (by omega)];exact M i (by omega)) (λi m=>by rw[T i (by omega),U (i+1) (by omega)];exact KeyOrd.klt_asymm (n (i+1) (by omega))) (by exact Mn) λr hr=>?_)
 refine wpS_bind (wpS_modify (wpS_bind (wpS_get (wpS_pure ?_))));rw[ex,B] at hr;have S:r.toList.length=(32-1)+(32-1):=by rw[hr.1.length_eq,List.length_append,length_drop,length_take,f,J];omega
 have N:=writes r.toList (arrOf st) (0+1) 0 (by rw[S,F];omega);have e1:(arrOf st).toList.take (0+1)=X.take 1:=by rw[e,List.take_append_of_le_length (by omega)]
 have e2:(arrOf st).toList.drop (0+1+((32-1)+(32-1)))=Y.drop (32-1):=by rw[e,List.drop_append,drop_eq_nil_of_le (by omega),nil_append,f]
 rw[Nat.add_zero,S,e1,e2] at N;show Q (failedOf st).isNone _;rw[R];have Wn:(((#[(0,32,d),(32,32,g)]:Array (Nat×Nat×Nat)).setIfInBounds 0 (0,32+32,d)).eraseIdxIfInBounds (0+1)).size=1:=by rw[← length_toList,Array.toList_eraseIdxIfInBounds,Array.toList_setIfInBounds];rfl
 refine h _ R Wn ?_;show Res O kf (X++Y) (List.foldl (λa (x:Keyed×Nat)=>a.setIfInBounds (0+1+x.2) x.1) (arrOf st) r.toList.zipIdx).toList;rw[N]
 have y:∀ {Z:List Keyed},Z.Pairwise (II O kf)->∀ a b (ha:a<Z.length) (hb:b<Z.length),a<=b->II O kf Z[a] Z[b]:=by
  intro Z sZ a b ha hb X0;rcases lt_or_ge a b with H_ |OE
  ·exact pairwise_iff_getElem.mp sZ a b ha hb H_
  have e:a=b:=by omega
  subst e;exact KeyOrd.kle_refl _
 have K:∀ z∈X++Y,II O kf (X[0]'(by omega)) z/\II O kf z (Y[32-1]'(by omega)):=λz hz=>by
  rcases mem_append.mp hz with hz |hz
  ·obtain⟨j,c,rfl⟩:=getElem_of_mem hz;exact⟨y D 0 j (by omega) c (zero_le _),i6 (y D j (32-1) c (by omega) (by omega)) (KeyOrd.kle_of_klt (n (32-1) (by omega)))⟩
  obtain⟨j,c,rfl⟩:=getElem_of_mem hz;exact⟨i6 (KeyOrd.kle_of_klt (n 0 (by omega))) (y C 0 j (by omega) c (zero_le _)),y C j (32-1) c (by omega) (by omega)⟩
 have Qo:∀ z∈r.toList,z∈X++Y:=λz hz=>by
  rcases mem_append.mp (hr.1.mem_iff.mp hz) with hz |hz
  ·exact mem_append_left _ (mem_of_mem_drop hz)
  exact mem_append_right _ (mem_of_mem_take hz)
 have x1:X.take 1=[X[0]'(by omega)]:=by
  cases X with
  |nil=>simp at f
  |cons a l=>rfl
 have y1:Y.drop (32-1)=[Y[32-1]'(by omega)]:=by rw[List.drop_eq_getElem_cons (by omega),drop_eq_nil_of_le (by omega)]
 refine⟨?_,?_⟩
 ·refine List.Perm.trans (List.Perm.append_left _ (List.Perm.append_right _ hr.1)) ?_;have q1:X.take 1++((X.drop 1++Y.take (32-1))++Y.drop (32-1))=(X.take 1++X.drop 1)++(Y.take (32-1)++Y.drop (32-1)):=by simp only[List.append_assoc]
  rw[q1,take_append_drop,take_append_drop]
 rw[x1,y1];refine pairwise_append.mpr ⟨List.pairwise_singleton _ _,pairwise_append.mpr ⟨hr.2,List.pairwise_singleton _ _,λu I v hv=>?_⟩,λu I v hv=>?_⟩
 ·rw[mem_singleton.mp hv];exact(K u (Qo u I)).2
 rw[mem_singleton.mp I];rcases mem_append.mp hv with hv |hv
 ·exact(K v (Qo v hv)).1
 rw[mem_singleton.mp hv];exact(K _ (mem_append_right _ (getElem_mem _))).1
end
abbrev xi:StateT SortSt Sem Unit:=sortPriv% PySem.Builtin.sortRuns
abbrev ca:Nat->Nat->Nat->Nat:=sortPriv% PySem.Builtin.minRun
section
variable {prog:Program}{w:World}{A:Around}{E:GJ}{s:Shared}{kd:SortKind}{O:KeyOrd}{kf:Value->O.α}{G:Keyed->Prop}
def Spec {α:Type}(lt : α->α->Bool)(d:List α):Prop:=∃ a b r,d=a::b::r/\lt a b=true/\(∀ c∈r.head?,lt c b=true)/\(d.length<64∨d.length=64/\∃ a b c r,d.drop 32=a::b::c::r/\lt a b=true/\lt c b=true/\∃ X Y:List α,X.length=32/\Y.length=32 /\
 (d.take 32).Perm X/\(d.drop 32).Perm Y/\X.Pairwise (λa b=>lt b a=false)/\Y.Pairwise (λa b=>lt b a=false)/\(∀ p∈X.zip Y,lt p.1 p.2=true)/\∀ p∈Y.zip X.tail,lt p.1 p.2=true)
def jo (kf:Value->O.α)(a:Array Keyed):List O.α:=a.toList.map λp=>kf p.1
theorem ki {b:Array Keyed}{i:Nat}{a:O.α}(h:(jo kf b)[i]?=some a):KX kf b i=a:=by unfold jo at h;rw[getElem?_map] at h;obtain⟨p,c,rfl⟩:=map_eq_some_iff.mp h;unfold KX;rw[show b[i]?=some p by simpa using c]
theorem ur {a:Array Keyed}{lo n:Nat}(h:L8 kf a lo (lo+n))(e:lo+n<=a.size):((a.toList.drop lo).take n).Pairwise (II O kf):=by rw[pairwise_iff_getElem];intro i j b c d;rw[length_take,length_drop,length_toList] at b c;have q:=h (lo+i) (lo+j) (by omega) (by omega) (by omega);rw[lZ (by omega),lZ (by omega)] at q;show O.kle _ _;simpa using q
theorem zN {a b:O.α}(c:O.kle a b)(d:O.kle b a):a=b:=O.total _ _ d c
structure OG (G:Keyed->Prop) (kd:SortKind) (kf:Value->O.α) (st GX:SortSt) (p:Array (Nat×Nat×Nat)):Prop where
 kind:kindOf GX=kd
 good:∀ x∈(arrOf GX).toList,G x
 fail:failedOf GX=none
 Pg : 2<=gallopOf GX
 perm:(arrOf GX).Perm (arrOf st)
 pend:pendingOf GX=p
 tk:((arrOf GX).toList.take 32).Perm ((arrOf st).toList.take 32)
 ts:((arrOf GX).toList.take 32).Pairwise (II O kf)
theorem sk {a ys:Array Keyed}{lo n:Nat}(h:ys.Perm a)(j:lo+n<=a.size)(same:∀ k,(k<lo∨lo+n<=k)->ys[k]?=a[k]?):ys.toList.take lo=a.toList.take lo/\ys.toList.drop (lo+n)=a.toList.drop (lo+n)/\((ys.toList.drop lo).take n).Perm ((a.toList.drop lo).take n):=by
 have c:ys.toList.take lo=a.toList.take lo:=by
  apply ext_getElem?;intro i;rw[getElem?_take,getElem?_take];split
  ·rename_i g;simpa using same i (.inl g)
  rfl
 have e:ys.toList.drop (lo+n)=a.toList.drop (lo+n):=by apply ext_getElem?;intro i;rw[getElem?_drop,getElem?_drop];simpa using same (lo+n+i) (.inr (by omega))
 have d:∀ b:Array Keyed,b.toList=b.toList.take lo++((b.toList.drop lo).take n++b.toList.drop (lo+n)):=λb=>by rw[← List.drop_drop,take_append_drop,take_append_drop]
 have f:=perm_iff_toList_perm.mp h;rw[d ys,d a,c,e] at f;exact⟨c,e,(List.perm_append_right_iff _).mp ((List.perm_append_left_iff _).mp f)⟩
theorem mC {a:Array Keyed}{lo:Nat}(u:O.blt (KX kf a lo) (KX kf a (lo+1))=true):L8 kf a lo (lo+2):=λi j c d b=>by
 have:i=j∨i=lo/\j=lo+1:=by omega
 rcases this with rfl |⟨rfl,rfl⟩
 ·exact KeyOrd.kle_refl _
 exact KeyOrd.kle_of_klt u
theorem oE (L:uz prog w A E s kd O kf G){st:SortSt}{Q:Unit->SortSt->Prop}(hk:kindOf st=kd)(hg:∀ x∈(arrOf st).toList,G x)(hf:failedOf st=none)(R:pendingOf st = #[])(Mn : 2<=gallopOf st)(P:Spec O.blt (jo kf (arrOf st)))
  (h:∀ d,(arrOf d).Perm (arrOf st)->failedOf d=none->L8 kf (arrOf d) 0 (arrOf st).size->Q () d):wpS (model prog w) A E s xi Q st:=by
 obtain⟨a,b,r,J,D,d0,P⟩:=P;have q:(jo kf (arrOf st)).length=(arrOf st).size:=by unfold jo;rw[length_map,length_toList]
 have n2 : 2<=(arrOf st).size:=by rw[← q,J];simp
 have D:O.blt (KX kf (arrOf st) 0) (KX kf (arrOf st) 1)=true:=by rw[ki (i:=0) (by rw[J];rfl),ki (i:=1) (by rw[J];rfl)];exact D
 have d0:(arrOf st).size=2∨O.blt (KX kf (arrOf st) 2) (KX kf (arrOf st) 1)=true:=by
  cases r with
  |nil=>exact .inl (by rw[← q,J];rfl)
  |cons c r=>exact .inr (by rw[ki (i:=2) (by rw[J];rfl),ki (i:=1) (by rw[J];rfl)];exact d0 c rfl)
 rw[q] at P;have S0:∀ lo m,Sg G kd lo m st st:=λlo m=>⟨hk,hg,Array.Perm.refl _,rfl,rfl,rfl,λ_ _=>rfl⟩;refine wpS_bind (wpS_get ?_);dsimp only;rcases P with P |⟨Wo,a1,b1,c1,r1,Wq,u1,d1,X,Y,lX,lY,pX,pY,sX,sY,xy,yx⟩
 ·refine wpS_bind (wpS_mono (wpS_forRange (I:=λx c d=>x=0/\c=(none,0)/\d=st∨0<x/\c=(none,(arrOf st).size)/\(arrOf d).Perm (arrOf st)/\failedOf d=none/\L8 kf (arrOf d) 0 (arrOf st).size/\(pendingOf d).size<=1)
   (Q:=λc d=>c=(none,(arrOf st).size)/\(arrOf d).Perm (arrOf st)/\failedOf d=none/\L8 kf (arrOf d) 0 (arrOf st).size/\(pendingOf d).size<=1) ?s1 ?f1 (.inl ⟨rfl,rfl,rfl⟩)) ?p1)
  case f1 =>
   rintro c d (⟨t,_⟩ |⟨_,v⟩)
   ·have t:max 0 (arrOf st).size=0:=t;omega
   exact v
  case p1 =>
   rintro c d ⟨rfl,a1,a2,a3,a4⟩;dsimp only;refine wpS_bind (gZ (show 0<(arrOf st).size by omega) ?_);refine wpS_bind (wpS_get ?_);rw[show (sortPriv% PySem.Builtin.SortState.pending) d=pendingOf d from rfl,if_pos a4];exact wpS_pure (wpS_pure (h d a1 a2 a3))
  case s1 =>
   rintro x c d _ hx (⟨rfl,rfl,rfl⟩ |⟨_,rfl,a1,a2,a3,a4⟩)
   ·dsimp only;rw[if_neg (by omega)]
    refine wpS_bind (mJ L hk hg (by show 0+((arrOf d).size-0)<=(arrOf d).size;omega) (by show 2<=(arrOf d).size-0;omega) (by simpa using D) (by
     rcases d0 with d0 |d0
     ·exact .inl (by show (arrOf d).size-0=2;omega)
     exact .inr (by simpa using d0)) ?_)
    dsimp only
    have W:ca (arrOf d).size (arrOf d).size 0=(arrOf d).size:=by
     cases hsz:(arrOf d).size with
     |zero=>omega
     |succ k=>exact if_pos (by omega)
    have done:∀ (e:SortSt) (n:Nat),n=(arrOf d).size->Sg G kd 0 (0+n) d e->L8 kf (arrOf e) 0 (0+n)->∀ B,arrOf B=arrOf e->failedOf B=failedOf e->pendingOf B=(pendingOf e).push (0,n,0)->0<0+1/\((none:Option Unit),0+n)=(none,(arrOf d).size)/\(arrOf B).Perm (arrOf d)/\failedOf B=none/\L8 kf (arrOf B) 0 (arrOf d).size/\(pendingOf B).size<=1:=λe n hn g ha B T e2 e3=>by refine⟨by omega,by rw[hn,zero_add],by rw[T];exact g.perm,by rw[e2,g.fail];exact hf,by rw[T,← hn];simpa using ha,by rw[e3,g.pend,R];exact le_refl _⟩
    by_cases v : 2<ca (arrOf d).size (arrOf d).size 0
    ·rw[if_pos v];refine wpS_bind (wpS_lift (wpAny_rule ⟨rfl,?_⟩));refine wpS_bind (iu (n:=min ((arrOf d).size-0) (ca (arrOf d).size (arrOf d).size 0)) L (S0 0 _) (by rw[W];omega) (by rw[W];omega) (mC (by simpa using D)) λe f F=>?_);rw[if_neg (by decide)];refine wpS_bind (wpS_get ?_);have hb:(pendingOf e).back?=none:=by rw[f.pend,R];rfl
     rw[show (sortPriv% PySem.Builtin.SortState.pending) e=pendingOf e from rfl,hb];dsimp only;exact wpS_bind (wpS_modify (wpS_pure (.inr (done e _ (by rw[W];omega) f F _ rfl rfl rfl))))
    rw[if_neg v];refine wpS_bind (wpS_get ?_);have hb:(pendingOf d).back?=none:=by rw[R];rfl
    rw[show (sortPriv% PySem.Builtin.SortState.pending) d=pendingOf d from rfl,hb];dsimp only;exact wpS_bind (wpS_modify (wpS_pure (.inr (done d 2 (by rw[W] at v;omega) (S0 _ _) (mC (by simpa using D)) _ rfl rfl rfl))))
   dsimp only;rw[if_pos (le_refl _)];exact wpS_pure ⟨rfl,a1,a2,a3,a4⟩
 have X3:ca (arrOf st).size (arrOf st).size 0=32:=by rw[Wo];rfl
 refine wpS_bind (wpS_mono (wpS_forRange (I:=λx c d=>x=0/\c=(none,0)/\d=st∨x=1/\c=(none,32)/\OG G kd kf st d #[(0,32,0)]/\(arrOf d).toList.drop 32=(arrOf st).toList.drop 32∨2<=x/\c=(none,64)/\∃ u,OG G kd kf st d #[(0,32,u),(32,32,0)]/\((arrOf d).toList.drop 32).Perm ((arrOf st).toList.drop 32)/\((arrOf d).toList.drop 32).Pairwise (II O kf))
  (Q:=λc d=>c=(none,64)/\∃ u,OG G kd kf st d #[(0,32,u),(32,32,0)]/\((arrOf d).toList.drop 32).Perm ((arrOf st).toList.drop 32)/\((arrOf d).toList.drop 32).Pairwise (II O kf)) ?s1 ?f1 (.inl ⟨rfl,rfl,rfl⟩)) ?p1)
 case f1 =>
  rintro c d (⟨t,_⟩ |⟨t,_⟩ |⟨_,v⟩)
  ·have t:max 0 (arrOf st).size=0:=t;omega
  ·have t:max 0 (arrOf st).size=1:=t;omega
  exact v
 case s1 =>
  rintro x c d _ hx (⟨rfl,rfl,rfl⟩ |⟨rfl,rfl,H,hd⟩ |⟨v,rfl,u,H,hd⟩)
  ·dsimp only;rw[if_neg (by omega)];refine wpS_bind (mJ L hk hg (by show 0+((arrOf d).size-0)<=(arrOf d).size;omega) (by show 2<=(arrOf d).size-0;omega) (by simpa using D) (.inr (by simpa using d0.resolve_left (by omega))) ?_);dsimp only;rw[if_pos (show 2<ca (arrOf d).size (arrOf d).size 0 by omega)];refine wpS_bind (wpS_lift (wpAny_rule ⟨rfl,?_⟩));refine wpS_bind (iu (n:=min ((arrOf d).size-0) (ca (arrOf d).size (arrOf d).size 0)) L (S0 0 _) (by omega) (by omega) (mC (by simpa using D)) λe f F=>?_);rw[if_neg (by decide)];refine wpS_bind (wpS_get ?_);have hb:(pendingOf e).back?=none:=by rw[f.pend,R];rfl
   rw[show (sortPriv% PySem.Builtin.SortState.pending) e=pendingOf e from rfl,hb];dsimp only;have C:min ((arrOf d).size-0) (ca (arrOf d).size (arrOf d).size 0)=32:=by omega
   have ap:(pendingOf e).push (0,min ((arrOf d).size-0) (ca (arrOf d).size (arrOf d).size 0),0) = #[(0,32,0)]:=by rw[f.pend,R,C];rfl
   have ec:((none:Option Unit),0+min ((arrOf d).size-0) (ca (arrOf d).size (arrOf d).size 0))=(none,32):=by rw[C]
   rw[C] at f F;have Q7:=f.size;obtain⟨_,q2,K⟩:=sk f.perm (by omega) f.same;have S:=ur F (by omega);rw[drop_zero] at K S;rw[drop_zero] at K;exact wpS_bind (wpS_modify (wpS_pure (.inr (.inl ⟨rfl,ec,⟨f.kind,f.good,f.fail.trans hf,by show 2<=gallopOf e;rw[f.Pg];exact Mn,f.perm,ap,K,S⟩,by simpa using q2⟩))))
  ·dsimp only;have Ws:(arrOf d).size=(arrOf st).size:=H.perm.size_eq
   have U:∀ {k:Nat}{z:O.α},(a1::b1::c1::r1)[k]?=some z->KX kf (arrOf d) (32+k)=z:=λ{k z} hz=>by
    have T:(arrOf d).toList[32+k]?=(arrOf st).toList[32+k]?:=by rw[← getElem?_drop,← getElem?_drop,hd]
    rw[w5 (ys:=arrOf st) (j:=32+k) (by simpa using T)];exact ki (by rw[← getElem?_drop,Wq];exact hz)
   have u':O.blt (KX kf (arrOf d) 32) (KX kf (arrOf d) (32+1))=true:=by have:=U (k:=0) rfl;rw[Nat.add_zero] at this;rw[this,U (k:=1) rfl];exact u1
   rw[if_neg (show ¬ 32≥(arrOf st).size by omega)];refine wpS_bind (mJ L H.kind H.good (by show 32+((arrOf st).size-32)<=(arrOf d).size;omega) (by show 2<=(arrOf st).size-32;omega) u' (.inr (by rw[U (k:=2) rfl,U (k:=1) rfl];exact d1)) ?_);dsimp only;rw[if_pos (show 2<ca (arrOf st).size (arrOf st).size 0 by omega)];refine wpS_bind (wpS_lift (wpAny_rule ⟨rfl,?_⟩));refine wpS_bind (iu (n:=min ((arrOf st).size-32) (ca (arrOf st).size (arrOf st).size 0)) (st0:=d) L ⟨H.kind,H.good,Array.Perm.refl _,rfl,rfl,rfl,λ_ _=>rfl⟩ (by omega) (by omega) (mC u') λe f F=>?_);rw[if_neg (by decide)];refine wpS_bind (wpS_get ?_);have C:min ((arrOf st).size-32) (ca (arrOf st).size (arrOf st).size 0)=32:=by omega
   have hb:(pendingOf e).back?=some (0,32,0):=by rw[f.pend,H.pend];rfl
   rw[show (sortPriv% PySem.Builtin.SortState.pending) e=pendingOf e from rfl,hb];dsimp only;refine wpS_bind (gZ (show 0<(arrOf st).size by omega) ?_);refine wpS_bind (wpS_get ?_);rw[show (sortPriv% PySem.Builtin.SortState.pending) e=pendingOf e from rfl,if_neg (show ¬ (pendingOf e).size > 1 by rw[f.pend,H.pend];decide)];refine wpS_pure ?_;dsimp only;have ap:∀ u,((pendingOf e).modify ((pendingOf e).size-1) λx=>(x.1,x.2.1,u)).push (32,min ((arrOf st).size-32) (ca (arrOf st).size (arrOf st).size 0),0) = #[(0,32,u),(32,32,0)]:=λu=>by rw[f.pend,H.pend,C];rfl
   have ec:((none:Option Unit),32+min ((arrOf st).size-32) (ca (arrOf st).size (arrOf st).size 0))=(none,64):=by rw[C]
   rw[C] at f F;have Q7:=f.size;obtain⟨q1,_,K⟩:=sk f.perm (by omega) f.same;have S:=ur F (by omega);have full:∀ V:Array Keyed,V.size=64->(V.toList.drop 32).take 32=V.toList.drop 32:=λV hz=>take_of_length_le (by rw[length_drop,length_toList];omega);rw[full _ (by omega),full _ (by omega),hd] at K;rw[full _ (by omega)] at S;exact wpS_bind (wpS_modify (wpS_bind (wpS_modify (wpS_pure (.inr (.inr ⟨by omega,ec,_,⟨f.kind,f.good,f.fail.trans H.fail,by show 2<=gallopOf e;rw[f.Pg];exact H.Pg,f.perm.trans H.perm,ap _,by rw[show (arrOf e).toList.take 32=(arrOf d).toList.take 32 from q1];exact H.tk,by rw[show (arrOf e).toList.take 32=(arrOf d).toList.take 32 from q1];exact H.ts⟩,K,S⟩))))))
  dsimp only;rw[if_pos (show 64≥(arrOf st).size by omega)];exact wpS_pure ⟨rfl,u,H,hd⟩
 case p1 =>
  rintro c d ⟨rfl,u,H,hd,NK⟩;dsimp only;have Ws:(arrOf d).size=(arrOf st).size:=H.perm.size_eq
  have Ux:∀ {M N:List Keyed}{Z:List O.α},M.Perm N->(N.map λp=>kf p.1).Perm Z->M.Pairwise (II O kf)->Z.Pairwise O.kle->M.map (λp=>kf p.1)=Z:=λ{M N Z} p1 p2 s1 s2 =>
   List.Perm.eq_of_pairwise (λ_ _ _ _=>zN) (pairwise_map.mpr s1) s2 ((p1.map _).trans p2)
  have hX:=Ux H.tk (by unfold jo at pX;rw[← map_take] at pX;exact pX) H.ts sX;have hY:=Ux hd (by unfold jo at pY;rw[← map_drop] at pY;exact pY) NK sY;have l1:((arrOf d).toList.take 32).length=32:=by rw[length_take,length_toList];omega
  have l2:((arrOf d).toList.drop 32).length=32:=by rw[length_drop,length_toList];omega
  have gX:∀ i (m:i<32),kf (((arrOf d).toList.take 32)[i]'(by omega)).1=X[i]'(by omega):=λi m=>by simp only[← hX,List.getElem_map]
  have gY:∀ i (m:i<32),kf (((arrOf d).toList.drop 32)[i]'(by omega)).1=Y[i]'(by omega):=λi m=>by simp only[← hY,List.getElem_map]
  have Wt:∀ i (m:i<32),O.blt (X[i]'(by omega)) (Y[i]'(by omega))=true:=λi m=>by have:=xy _ (getElem_mem (l:=X.zip Y) (n:=i) (by rw[List.length_zip];omega));rw[List.getElem_zip] at this;exact this
  have Wu:∀ i (m:i+1<32),O.blt (Y[i]'(by omega)) (X[i+1]'(by omega))=true:=λi m=>by have:=yx _ (getElem_mem (l:=Y.zip X.tail) (n:=i) (by rw[List.length_zip,List.length_tail];omega));rw[List.getElem_zip,List.getElem_tail] at this;exact this
  refine wpS_bind (wpS_mono (wpS_forRange (I:=λy c o=>y=0/\c=(none,())/\o=d∨0<y/\c=(none,())/\failedOf o=none/\(pendingOf o).size=1/\Res O kf (arrOf d).toList (arrOf o).toList)
   (Q:=λc o=>c=(none,())/\failedOf o=none/\(pendingOf o).size=1/\Res O kf (arrOf d).toList (arrOf o).toList) ?s2 ?f2 (.inl ⟨rfl,rfl,rfl⟩)) ?p2)
  case f2 =>
   rintro c o (⟨t,_⟩ |⟨_,v⟩)
   ·have t:max 0 (arrOf st).size=0:=t;omega
   exact v
  case p2 =>
   rintro c o ⟨rfl,f2,_,r2⟩;refine wpS_pure (h o ((perm_iff_toList_perm.mpr r2.1).trans H.perm) f2 λi j _ NP hj=>?_);have X4:(arrOf o).size=(arrOf d).size:=by have:=r2.1.length_eq;simpa using this
   rw[lZ (by omega),lZ (by omega)];rcases lt_or_ge i j with H_ |OE
   ·have:=pairwise_iff_getElem.mp r2.2 i j (by rw[length_toList];omega) (by rw[length_toList];omega) H_;simpa [II] using this
   obtain rfl:i=j:=by omega
   exact KeyOrd.kle_refl _
  case s2 =>
   rintro y c o _ hy (⟨rfl,rfl,rfl⟩ |⟨_,rfl,z⟩)
   ·refine wpS_bind (wpS_get ?_);rw[show (sortPriv% PySem.Builtin.SortState.pending) o=pendingOf o from rfl,H.pend,if_neg (show ¬ (#[(0,32,u),(32,32,0)]:Array (Nat×Nat×Nat)).size<=1 by show ¬ 2<=1;decide)];refine wpS_bind (rW L H.kind H.good H.fail H.Pg H.pend (take_append_drop 32 _).symm l1 l2 H.ts NK (λi m=>by rw[gX i m,gY i m];exact Wt i m) (λi m=>by rw[gX (i+1) m,gY i (by omega)];exact Wu i m) λe f3 p3 r3=>?_);rw[take_append_drop] at r3;exact wpS_pure (.inr ⟨by omega,rfl,f3,p3,r3⟩)
   refine wpS_bind (wpS_get ?_);rw[show (sortPriv% PySem.Builtin.SortState.pending) o=pendingOf o from rfl,if_pos (Nat.le_of_eq z.2.1)];exact wpS_pure ⟨rfl,z⟩
end
def vX (prog:Program)(w:World)(e:Shared)(vs:List Value)(O:KeyOrd)(kf:Value->O.α):Prop:=∃ d:SortKind,∀ (A:Around) (E:GJ) (a:Shared),(∀ b o,e.heap.get? b=some o->a.heap.get? b=some o) ->
 (2<=vs.length->∀ c:SortKind->Shared->Prop,c d a->wpAny (model prog w) A (keyKind' vs.toArray) c E a)/\uz prog w A E a d O kf (λp=>p.1∈vs)
theorem ip:∀ {vs:List Value}{p:Value×Value},p∈vs.zip vs->p.1=p.2/\p.1∈vs
 |[],_,h=>by simp at h
 |v::vs,p,h=>by
  rw[List.zip_cons_cons] at h;rcases mem_cons.mp h with e |h
  ·subst e;exact⟨rfl,by simp⟩
  obtain⟨a,b⟩:=ip h;exact⟨a,mem_cons_of_mem _ b⟩
theorem qp:∀ (vs:List Value),(vs.zip vs).map (·.2)=vs
 |[]=>rfl
 |v::vs=>by rw[List.zip_cons_cons,map_cons,qp vs]
section
variable {prog:Program}{w:World}{A:Around}{E:GJ}{s:Shared}{O:KeyOrd}{kf:Value->O.α}
theorem Be {vs:List Value}{c:Array Keyed}(g:c.Perm (pairsOf vs))(h:L8 kf c 0 (pairsOf vs).size):(c.map (·.2)).toList.Perm vs/\(c.map (·.2)).toList.Pairwise λa b=>O.kle (kf a) (kf b):=by
 have d:=perm_iff_toList_perm.mp g;rw[pairsOf_toList] at d;refine⟨?_,?_⟩
 ·have:=d.map (·.2);rw[qp] at this;rw[Array.toList_map];exact this
 rw[Array.toList_map,pairwise_map,pairwise_iff_getElem];intro i j l o k;have f:i<c.size:=by simpa using l
 have e:j<c.size:=by simpa using o
 have q:=h i j (zero_le _) (le_of_lt k) (by rw[← g.size_eq];exact e);rw[lZ f,lZ e] at q;have m:=(ip (d.mem_iff.mp (getElem_mem_toList f))).1;have n:=(ip (d.mem_iff.mp (getElem_mem_toList e))).1;rw[m,n] at q;simpa using q
theorem tj {a:Addr}{vs:List Value}{n:Nat}{P:Fin->Shared->Prop}{k:Shared}(j:s.heap.get? a=some (seqObj "list" vs.toArray n))(y:vs.length<=sizeLine)(i:vX prog w k vs O kf)(u:Spec O.blt (vs.map kf))(B:∀ b o,k.heap.get? b=some o->b≠a/\s.heap.get? b=some o)
  (h:∀ out:Array Value,out.toList.Perm vs->(out.toList.Pairwise λa b=>O.kle (kf a) (kf b))->P (.done (.ret .none)) { s with heap:=sortedHeap s.heap a vs out }) :
  wpAny (model prog w) A (Builtin.«list.sort» ⟨[.ref a],[]⟩) P E s:=by
 have M:a<s.heap.objs.size:=Heap.lt_size j;have C:vs.toArray.size<=sizeLine:=by simpa using y
 rw[list_sort_plain];refine wpAny_bind (listItems_at j rfl ?_);refine wpAny_bind (listUpdate_at j rfl ?_ (hsz:=C));have l:=get?_update_seq j (λ_ => #[]);refine wpAny_bind (seqEpoch_at l rfl ?_);refine wpAny_bind (wpAny_newTuple ?_);refine wpAny_bind (wpAny_newList ?_);refine wpAny_holding ?_;generalize N:(if (#[]:Array Value).size==vs.toArray.size then n else n+1)=e1 at l;have t:∀ b o,k.heap.get? b=some o->(((s.heap.update a (Obj.mapSeq λ_ => #[])).push (seqObj "tuple" vs.toArray 0)).push (seqObj "list" #[] 0)).get? b=some o:=by intro b o z;obtain⟨G,J⟩:=B b o z;refine Heap.get?_push_of_some _ (Heap.get?_push_of_some _ ?_);rw[Heap.get?_update_ne _ _ _ _ G];exact J
 have v:(((s.heap.update a (Obj.mapSeq λ_ => #[])).push (seqObj "tuple" vs.toArray 0)).push (seqObj "list" #[] 0)).get? a=some (seqObj "list" #[] e1):=Heap.get?_push_of_some _ (Heap.get?_push_of_some _ l);show wpAny (model prog w) A _ P E { s with heap:=((s.heap.update a (Obj.mapSeq λ_ => #[])).push (seqObj "tuple" vs.toArray 0)).push (seqObj "list" #[] 0) };dsimp only;have D : 2<=vs.length:=by obtain⟨a,b,r,e,_⟩:=u;have:=congrArg List.length e;rw[length_map] at this;rw[this];simp
 have q:¬ vs.toArray.size<2:=by simp;omega
 rw[if_neg q,if_neg q];obtain⟨kd,i⟩:=i;refine wpAny_bind ((i A _ _ t).1 D _ ?_)
 refine wpAny_bind (wpAny_mono (oE (O:=O) (kf:=kf) (kd:=kd) (st:=SortSt.mk' kd (vs.toArray.zip vs.toArray) #[] 7 none) (Q:=λ_ c=>(arrOf c).Perm (pairsOf vs)/\failedOf c=none/\L8 kf (arrOf c) 0 (pairsOf vs).size)
  (i A _ _ t).2 rfl (λx I=>?_) rfl rfl (show 2<=7 by decide) ?_ λc a1 a2 H=>⟨a1,a2,H⟩) ?_ λ_ _ e=>e)
 ·have m:x∈(pairsOf vs).toList:=I;rw[pairsOf_toList] at m;exact(ip m).2
 ·have:jo kf (pairsOf vs)=vs.map kf:=by
   unfold jo;rw[pairsOf_toList];exact(map_congr_left λp d=>by rw[(ip d).1];rfl).trans ((map_map (g:=kf) (f:=λp:Value×Value=>p.2)).symm.trans (by rw[qp]))
  show Spec O.blt (jo kf (pairsOf vs));rw[this];exact u
 rintro⟨⟨⟩,c⟩ L ⟨rfl,d,F,K⟩;dsimp only;obtain⟨o1,o2⟩:=Be d K;refine wpAny_bind (seqEpoch_at v rfl ?_);refine wpAny_bind (listUpdate_at v rfl ?_ (hsz2:=by refine Nat.le_trans (Nat.le_of_eq ((Array.size_map ..).trans (d.size_eq.trans (pairsOf_size _)))) ?_;omega));rw[F];simp only[bne_self_eq_false,false_eq_true,if_false];exact wpAny_pure (h _ o1 o2)
theorem AL {x:Value}{Q:GJ}
  (h:wpAny (model prog w) A.in1 (collect x) (λvs c=>vs.length<=sizeLine/\∃ (O:KeyOrd) (kf:Value->O.α),vX prog w c vs O kf/\Spec O.blt (vs.map kf) /\
   ∀ (out:Array Value) h' ep,out.toList.Perm vs->(out.toList.Pairwise λa b=>O.kle (kf a) (kf b))->(∀ b o,c.heap.get? b=some o->h'.get? b=some o)->h'.get? c.heap.objs.size=some (seqObj "list" out ep) ->
    Q (.ref c.heap.objs.size) { c with heap:=h' }) E s):wpAny (model prog w) A (call (.builtin "sorted") [x]) Q E s:=by
 refine Calls.call_function_entry kind_sorted plain_sorted entry_sorted (args_sorted1 _) ?_;unfold Builtin.«sorted»;refine wpAny_bind (m:=checkCount "sorted" 1 1 _) (wpAny_pure ?_);refine wpAny_bind (wpAny_mono h (λvs c j=>?_) λ_ _ z=>z);obtain⟨f,O,kf,i,k,q⟩:=j;refine wpAny_bind (wpAny_newList ?_);have d:(c.heap.push (seqObj "list" vs.toArray 0)).get? c.heap.objs.size=some (seqObj "list" vs.toArray 0):=Heap.get?_push_size _ rfl;refine wpAny_bind (wpAny_holding (wpAny_call_entry slot_list_sort ⟨_,d,rfl⟩ entry_list_sort (tj d f i k (λb o e=>⟨ne_of_lt (Heap.lt_size e),Heap.get?_push_of_some _ e⟩) λout a1 a2=>⟨_,rfl,?_⟩) (args_list_sort _)));obtain⟨ep,g⟩:=sortedHeap_at (out:=out) d
 exact wpAny_pure ⟨_,rfl,q out _ ep a1 a2 (λb o e=>by
  rw[sortedHeap_old (ne_of_lt (Heap.lt_size e)) (by rw[size_push'];exact lt_succ_of_lt (Heap.lt_size e))]
  exact Heap.get?_push_of_some _ e) g⟩
end
structure OJ where
 O:KeyOrd
 keyOf:Value->Option O.α
 dflt:O.α
 ty:String
 nt:(Value.type ty != Value.type "tuple")=true
 typ:∀ v a,keyOf v=some a->typeOf v=pure (.type ty)
 fst:∀ v a,keyOf v=some a->firstOfTuple' v=pure none
 eqB:∀ {prog:Program}{w:World}{A:Around}{E:GJ}{s:Shared}{x y:Value}{a b:O.α}{Q:Bool->Shared->Prop},keyOf x=some a->keyOf y=some b->Q (!O.blt a b&&!O.blt b a) s->wpAny (model prog w) A (eqBool x y) Q E s
 lt:∀ {prog:Program}{w:World}{A:Around}{E:GJ}{s:Shared}{x y:Value}{a b:O.α}{Q:Bool->Shared->Prop}(o:Bool),keyOf x=some a->keyOf y=some b->Q (O.blt a b) s->wpAny (model prog w) A (oneLt' o x y) Q E s
def Iz:KeyOrd where
 α:=Int
 blt a b:=decide (a<b)
 irrefl a:=by simp
 trans a b c h1 h2:=by simp only[decide_eq_true_eq] at *;omega
 negTrans a b c h:=by simp only[decide_eq_true_eq] at *;omega
 total a b h1 h2:=by simp only[decide_eq_false_iff_not] at *;omega
theorem BE (i j:Int):(i==j)=(!decide (i<j)&&!decide (j<i)):=by
 by_cases a:i=j
 ·subst a;simp
 have:i<j∨j<i:=by omega
 rcases this with h1 |h1<;>simp[a,h1]
def Ez (v:Value):Option Int:=match v with | .int i _=>some i |_=>none
theorem i7 {v:Value}{i:Int}(h:Ez v=some i):∃ t,v = .int i t:=by
 cases v<;>first |(cases h;done) |skip
 cases h;exact⟨_,rfl⟩
def J6:OJ where
 O:=Iz
 keyOf:=Ez
 dflt:=(0:Int)
 ty:="int"
 nt:=by decide
 typ v a h:=by obtain⟨t,rfl⟩:=i7 h;rfl
 fst v a h:=by obtain⟨t,rfl⟩:=i7 h;rfl
 eqB {prog w A E s x y a b Q} ha hb h:=by
  obtain⟨t,rfl⟩:=i7 ha;obtain⟨u,rfl⟩:=i7 hb;exact wpAny_eqBool_int (Eq.mpr (congrArg (λz=>Q z s) (BE a b)) h)
 lt {prog w A E s x y a b Q} o ha hb h:=by
  obtain⟨t,rfl⟩:=i7 ha;obtain⟨u,rfl⟩:=i7 hb;cases o with
  |true=>exact oneLt_int h
  |false =>
   rw[oneLt'_eq];simp only[false_eq_true,if_false];exact wpAny_bind (show wpAny _ _ (compareOp .Lt (.int _ t) (.int _ u)) _ _ _ from PyProof.Rows.lt_int (wpAny_truthy_bool h))
def dh (O:KeyOrd):List O.α->List O.α->Bool
 |[],[]=>false
 |[],_::_=>true
 |_::_,[]=>false
 |a::as,b::bs=>if (!O.blt a b&&!O.blt b a)=true then dh O as bs else O.blt a b
theorem pZ {O:KeyOrd}{a b:O.α}(h:(!O.blt a b&&!O.blt b a)=true):a=b:=by rw[and_eq_true] at h;exact O.total _ _ (by simpa using h.1) (by simpa using h.2)
theorem sO {O:KeyOrd}(a:O.α):(!O.blt a a&&!O.blt a a)=true:=by rw[O.irrefl];rfl
theorem c9 {O:KeyOrd}(a:O.α)(as bs:List O.α):dh O (a::as) (a::bs)=dh O as bs:=by rw[dh,if_pos (sO a)]
theorem bS {O:KeyOrd}{a b:O.α}(as bs:List O.α)(h:a≠b):dh O (a::as) (b::bs)=O.blt a b:=by rw[dh,if_neg (λz=>h (pZ z))]
theorem xH {O:KeyOrd}{a b:O.α}(h:O.blt a b=true):a≠b:=λz=>by subst z;rw[O.irrefl] at h;cases h
def tm (O:KeyOrd):KeyOrd where
 α:=List O.α
 blt:=dh O
 irrefl a:=by
  induction a with
  |nil=>rfl
  |cons x a j=>rw[c9];exact j
 trans a:=by
  induction a with
  |nil =>
   intro b c f d;cases b with
   |nil=>cases f
   |cons y b=>cases c with
    |nil=>cases d
    |cons z c=>rfl
  |cons x a j =>
   intro b c f d;cases b with
   |nil=>cases f
   |cons y b=>cases c with
    |nil=>cases d
    |cons z c =>
     by_cases i:x=y
     ·subst i;rw[c9] at f;by_cases g:x=z
      ·subst g;rw[c9] at d ⊢;exact j b c f d
      rw[bS _ _ g] at d ⊢;exact d
     rw[bS _ _ i] at f;by_cases g:y=z
     ·subst g;rw[bS _ _ i];exact f
     rw[bS _ _ g] at d;have l:=O.trans _ _ _ f d;rw[bS _ _ (xH l)];exact l
 negTrans a:=by
  induction a with
  |nil =>
   intro b c h;cases c with
   |nil=>cases h
   |cons z c=>cases b with
    |nil=>exact .inr rfl
    |cons y b=>exact .inl rfl
  |cons x a j =>
   intro b c h;cases c with
   |nil=>cases h
   |cons z c=>cases b with
    |nil=>exact .inr rfl
    |cons y b =>
     by_cases i:x=z
     ·subst i;rw[c9] at h;by_cases g:x=y
      ·subst g;rw[c9,c9];exact j b c h
      rw[bS _ _ g,bS _ _ (Ne.symm g)];cases f:O.blt x y with
      |true=>exact .inl rfl
      |false=>cases d:O.blt y x with
       |true=>exact .inr rfl
       |false=>exact absurd (O.total _ _ f d) g
     rw[bS _ _ i] at h;by_cases g:x=y
     ·subst g;rw[bS _ _ i];exact .inr h
     by_cases k:y=z
     ·subst k;rw[bS _ _ g];exact .inl h
     rw[bS _ _ g,bS _ _ k];exact O.negTrans _ _ _ h
 total a:=by
  induction a with
  |nil =>
   intro b f d;cases b with
   |nil=>rfl
   |cons y b=>cases f
  |cons x a j =>
   intro b f d;cases b with
   |nil=>cases d
   |cons y b =>
    by_cases e:x=y
    ·subst e;rw[c9] at f d;rw[j b f d]
    rw[bS _ _ e] at f;rw[bS _ _ (Ne.symm e)] at d;exact absurd (O.total _ _ f d) e
inductive KeysAre (κ:OJ):List Value->List κ.O.α->Prop
 |nil:KeysAre κ [] []
 |cons {v:Value}{a : κ.O.α}{vs:List Value}{as:List κ.O.α} : κ.keyOf v=some a->KeysAre κ vs as->KeysAre κ (v::vs) (a::as)
def Ko (b:OJ)(h:Heap)(v:Value)(as:List b.O.α):Prop:=∃ a o its n,v = .ref a/\h.get? a=some o/\o.cls = .type "tuple"/\o.data = .seq its n/\KeysAre b its.toList as
theorem Ko.keeps {c:OJ}{h h':Heap}{v:Value}{as:List c.O.α}(t:Ko c h v as)(k:∀ b o,h.get? b=some o->h'.get? b=some o):Ko c h' v as:=by obtain⟨a,o,its,n,e,f,hc,hd,d⟩:=t;exact⟨a,o,its,n,e,k _ _ f,hc,hd,d⟩
section
variable {prog:Program}{w:World}{A:Around}{E:GJ}{s:Shared}{κ:OJ}
theorem qq {f:Bool}{x y:Value}{as bs:List κ.O.α}{Q:Bool->Shared->Prop}(T:Ko κ s.heap x as)(R:Ko κ s.heap y bs)(q:Q (dh κ.O as bs) s):wpAny (model prog w) A (keyLt' (tuples' f) x y) Q E s:=by
 obtain⟨a,o,G,n,rfl,W,hc,hd,K⟩:=T;obtain⟨b,o2,F,n2,rfl,L,Mt,D,U⟩:=R;refine wpAny_bind (listItems_at W hd ?_);refine wpAny_bind (listItems_at L D ?_);refine wpAny_bind ?_;refine wpAny_forIn_list _ (λrest r B=>r.1=none/\B=s/\∃ k j h p l,rest=(List.zip j h).zipIdx k/\KeysAre κ j p/\KeysAre κ h l/\dh κ.O p l=dh κ.O as bs/\decide (j.length<h.length)=decide (G.size<F.size)) _ ?_ ?_ _ _ ⟨rfl,rfl,0,G.toList,F.toList,as,bs,rfl,K,U,rfl,by simp⟩
 ·rintro⟨⟨u,v⟩,i⟩ rest r B ⟨hr,rfl,k,j,h,p,l,d,C,z,g,c⟩;cases C with
  |nil=>simp at d
  | @cons Y m J V I M =>
   cases z with
   |nil=>simp at d
   | @cons Z t S N H P =>
    rw[List.zip_cons_cons,List.zipIdx_cons] at d;simp only[List.cons.injEq,Prod.mk.injEq] at d;obtain⟨⟨⟨rfl,rfl⟩,rfl⟩,rfl⟩:=d;refine wpAny_bind (κ.eqB I H ?_);by_cases e:m=t
    ·subst e;rw[sO];simp only[Bool.not_true,false_eq_true,if_false];rw[c9] at g;exact wpAny_pure ⟨rfl,rfl,i+1,J,S,V,N,rfl,M,P,g,by rw[← c];simp⟩
    have X:(!κ.O.blt m t&&!κ.O.blt t m)=false:=by
     cases hb:(!κ.O.blt m t&&!κ.O.blt t m) with
     |false=>rfl
     |true=>exact absurd (pZ hb) e
    rw[X];simp only[Bool.not_false,if_true];rw[bS _ _ e] at g;refine wpAny_bind (κ.lt _ I H ?_);rw[g];exact wpAny_pure (wpAny_pure q)
 rintro⟨r1,r2⟩ B ⟨hr,rfl,k,j,h,p,l,d,C,z,g,c⟩;simp only at hr;subst hr;refine wpAny_pure ?_;show Q (decide (G.size<F.size)) B;rw[← c]
 have e:decide (j.length<h.length)=dh κ.O p l:=by
  cases C with
  |nil=>cases z with
   |nil=>rfl
   |cons _ _=>simp[dh]
  |cons _ _=>cases z with
   |nil=>simp[dh]
   |cons _ _=>simp at d
 rw[e,g];exact q
theorem zG:∀ {vs:List Value}{as:List κ.O.α},KeysAre κ vs as->vs.mapM firstOfTuple'=pure (vs.map λ_=>none)
 |_,_,.nil=>by simp
 |_,_,.cons h r=>by rw[mapM_cons,κ.fst _ _ h,zG r];simp
theorem tf:∀ {vs:List Value}{as:List κ.O.α},KeysAre κ vs as->vs.mapM typeOf=pure (vs.map λ_=>Value.type κ.ty)
 |_,_,.nil=>by simp
 |_,_,.cons h r=>by rw[mapM_cons,κ.typ _ _ h,tf r];simp
theorem Ep {vs:List Value}{as:List κ.O.α}(h:KeysAre κ vs as)(b : 0<vs.length):oneTypeOnly' vs.toArray=pure (some (.type κ.ty)):=by
 rw[oneTypeOnly'_eq,List.mapM_toArray,tf h];simp only[map_pure,pure_bind];have c:((List.map (λ_=>Value.type κ.ty) vs).toArray.all λx=>x==Value.type κ.ty)=true:=by simp only[List.all_toArray,List.all_map,all_eq_true];intro _ _;simp
 have a:(List.map (λ_=>Value.type κ.ty) vs).toArray[0]?=some (Value.type κ.ty):=by
  cases vs with
  |nil=>simp at b
  |cons v vs=>simp
 rw[a];simp only[c,if_true]
inductive Hs (κ:OJ) (h:Heap):List Value->List (List κ.O.α)->Prop
 |nil:Hs κ h [] []
 |cons {v:Value}{a : κ.O.α}{as:List κ.O.α}{vs:List Value}{L9:List (List κ.O.α)}:Ko κ h v (a::as)->Hs κ h vs L9->Hs κ h (v::vs) ((a::as)::L9)
theorem Hs.keeps {h h':Heap}{vs:List Value}{a:List (List κ.O.α)}(t:Hs κ h vs a)(k:∀ b o,h.get? b=some o->h'.get? b=some o):Hs κ h' vs a:=by
 induction t with
 |nil=>exact .nil
 |cons q _ c=>exact .cons (q.keeps k) c
theorem Hs.mem {h:Heap}{vs:List Value}{a:List (List κ.O.α)}(t:Hs κ h vs a){v:Value}(hv:v∈vs):∃ as,Ko κ h v as:=by
 induction t with
 |nil=>simp at hv
 |cons q _ b =>
  rcases mem_cons.mp hv with e |hv
  ·subst e;exact⟨_,q⟩
  exact b hv
theorem yd {v:Value}{a : κ.O.α}{as:List κ.O.α}{Q:Option Value->Shared->Prop}(t:Ko κ s.heap v (a::as))(q:∀ u,κ.keyOf u=some a->Q (some u) s):wpAny (model prog w) A (firstOfTuple' v) Q E s:=by
 obtain⟨b,o,its,n,rfl,d,hc,hd,c⟩:=t;generalize f:its.toList=l at c;cases c with
 | @cons u _ g _ k r =>
  refine wpAny_bind (wpAny_typeOf ⟨o,d,hc⟩ ?_);rw[if_neg (by decide)];refine wpAny_bind (listItems_at d hd (wpAny_pure ?_));have e:its[0]?=some u:=by rw[← getElem?_toList,f];rfl
  rw[e];exact q u k
theorem xN {vs:List Value}{a:List (List κ.O.α)}(t:Hs κ s.heap vs a):∀ {Q:List (Option Value)->Shared->Prop},(∀ us as,KeysAre κ us as->us.length=vs.length->Q (us.map some) s)->wpAny (model prog w) A (vs.mapM firstOfTuple') Q E s:=by
 induction t with
 |nil=>intro Q q;exact wpAny_pure (q [] [] .nil rfl)
 |cons h _ e =>
  intro Q q;rw[mapM_cons];refine wpAny_bind (yd h λu c=>wpAny_bind (e λus as d b=>wpAny_pure ?_));exact q (u::us) (_::as) (.cons c d) (by simp[b])
theorem filterMap_some:∀ (us:List Value),((us.map some).toArray.filterMap id)=us.toArray:=by
 intro us;rw[List.filterMap_toArray];congr 1
 induction us with
 |nil=>rfl
 |cons u us a=>simp[a]
theorem xU {vs:List Value}{b:List (List κ.O.α)}(t:Hs κ s.heap vs b)(f : 0<vs.length){Q:SortKind->Shared->Prop}(q:Q (tuples' true) s):wpAny (model prog w) A (keyKind' vs.toArray) Q E s:=by
 rw[keyKind'_eq,List.mapM_toArray];refine wpAny_bind (wpAny_bind (xN t λa g c d=>wpAny_pure ?_));have e:((a.map some).toArray.all λx=>x.isSome)=true:=by simp
 show wpAny _ _ (if ((a.map some).toArray.all λx=>x.isSome)=true then _ else _) _ _ _;rw[if_pos e];refine wpAny_bind (wpAny_rule ?_);rw[filterMap_some,Ep c (by omega)];refine wpAny_bind (wpAny_pure (wpAny_pure ?_));show Q (tuples' (Value.type κ.ty != Value.type "tuple")) s;rw[κ.nt];exact q
def Pk (κ:OJ)(h:Heap)(v:Value):List κ.O.α:=match v with
 | .ref a=>(match h.get? a with
  |some o=>(match o.data with
   | .seq its _=>its.toList.map λu=>(κ.keyOf u).getD κ.dflt
   |_=>[])
  |none=>[])
 |_=>[]
theorem KeysAre.NB {vs:List Value}{as:List κ.O.α}(h:KeysAre κ vs as):vs.map (λu=>(κ.keyOf u).getD κ.dflt)=as:=by
 induction h with
 |nil=>rfl
 |cons k _ a=>rw[map_cons,k,a];rfl
theorem vo {h:Heap}{v:Value}{as:List κ.O.α}(t:Ko κ h v as):Pk κ h v=as:=by obtain⟨b,o,its,n,rfl,c,hc,hd,a⟩:=t;unfold Pk;dsimp only;rw[c];dsimp only;rw[hd];exact a.NB
theorem sj {a:Shared}{vs:List Value}{f:List (List κ.O.α)}(t:Hs κ a.heap vs f):vX prog w a vs (tm κ.O) (Pk κ a.heap):=by refine⟨tuples' true,λA E l k=>⟨λi h q=>xU (t.keeps k) (by omega) q,λx y g d st Q e q=>?_⟩⟩;obtain⟨j,b⟩:=t.mem g;obtain⟨bs,c⟩:=t.mem d;rw[vo b,vo c] at q;rw[lt'_eq];refine wpS_bind (wpS_get ?_);rw[e];exact wpS_bind (wpS_lift (wpAny_attempt (qq (b.keeps k) (c.keeps k) ⟨rfl,wpS_pure q⟩)))
end
end L2
namespace L2
open PySem PySem.Spec PyProof.Rows PySem.W
section
variable {X:Cx}{W:WT}
def tupI:D->Option (List Int)
 | .tup a=>match cb a with
  |some (n::ns)=>some (n::ns)
  |_=>none
 |_=>none
def uy {α:Type}(f:D->Option α):List D->Option (List α)
 |[]=>some []
 |d::r=>(f d).bind λa=>(uy f r).map (a::·)
def nJ {α:Type}(lt : α->α->Bool):List α->List α->Bool
 |[],[]=>false
 |[],_::_=>true
 |_::_,[]=>false
 |a::as,b::bs=>if (!lt a b&&!lt b a)=true then nJ lt as bs else lt a b
def vn (a b:List Int):Bool:=!nJ (λx y=>decide (x<y)) b a
noncomputable def qD:List D->Option D
 |[.lst xs]=>(uy tupI xs).bind λa => @ite _ (xs.length<=sizeLine/\Spec (nJ λ(x y:Int)=>decide (x<y)) a) (Classical.propDecidable _) (some (.lst ((a.mergeSort vn).map λns => .tup (ns.map .int)))) none
 |_=>none
theorem qR (O:PyProof.Rows.KeyOrd):∀ as bs:List O.α,dh O as bs=nJ O.blt as bs
 |[],[]=>rfl
 |[],_::_=>rfl
 |_::_,[]=>rfl
 |a::as,b::bs=>by rw[dh,nJ,qR O as bs]
theorem xB {K:GI}{H:Hp}{J:List Addr}{out us:List Value}(p:out.Perm us):∀ {vs:List V}{ds:List D},Vals vs us->GU K H J ds vs->∃ e f,Vals e out/\GU K H J f e/\f.Perm ds:=by
 induction p with
 |nil=>intro vs ds r m;exact⟨vs,ds,r,m,.refl _⟩
 |cons x p o =>
  intro vs ds r m;cases r with
  | @cons v _ z _ g h =>
   cases ds with
   |nil=>cases GU.G0.mp m
   |cons d ds =>
    obtain⟨m1,m2⟩:=m.GY;obtain⟨e,f,a,b,c⟩:=o h m2;exact⟨v::e,d::f,.cons g a,.cons m1 b,.cons d c⟩
 |swap x y l =>
  intro vs ds r m;cases r with
  | @cons v _ z _ g h=>cases h with
   | @cons s _ j _ A q =>
    cases ds with
    |nil=>cases GU.G0.mp m
    |cons d ds=>cases ds with
     |nil=>obtain⟨_,m2⟩:=m.GY;cases GU.G0.mp m2
     |cons i ds =>
      obtain⟨m1,m2⟩:=m.GY;obtain⟨u,k⟩:=m2.GY;exact⟨s::v::j,i::d::ds,.cons A (.cons g q),.cons u (.cons m1 k),.swap d i ds⟩
 |trans _ _ n C =>
  intro vs ds r m;obtain⟨F,G,a,b,c⟩:=C r m;obtain⟨E,t,a2,B,w⟩:=n a b;exact⟨E,t,a2,B,w.trans c⟩
theorem uw {α:Type}{f:D->Option α}{g : α->D}(b:∀ d a,f d=some a->d=g a):∀ {ds:List D}{as:List α},uy f ds=some as->ds=as.map g
 |[],as,h=>by cases h;rfl
 |d::ds,as,h=>by
  obtain⟨a,j,c⟩:=bind_eq_some_iff.mp (show (f d).bind _=some as from h);obtain⟨r,e,i⟩:=map_eq_some_iff.mp c;subst i;rw[map_cons,b d a j,uw b e]
theorem ux {α:Type}{f:D->Option α}:∀ {ds:List D}{as:List α},uy f ds=some as->∀ a∈as,∃ d,f d=some a
 |[],as,h,a,ha=>by cases h;simp at ha
 |d::ds,as,h,a,ha=>by
  obtain⟨b,j,c⟩:=bind_eq_some_iff.mp (show (f d).bind _=some as from h);obtain⟨r,g,i⟩:=map_eq_some_iff.mp c;subst i;rcases mem_cons.mp ha with e |ha
  ·subst e;exact⟨d,j⟩
  exact ux g a ha
theorem v6 {d:D}{ns:List Int}(h:tupI d=some ns):d = .tup (ns.map .int)/\ns≠[]:=by
 unfold tupI at h;split at h
 ·split at h
  ·rename_i e;cases h;rw[fD e];exact⟨rfl,by simp⟩
  cases h
 cases h
theorem ze {α:Type}{g : α->D}{l:List D}{as:List α}(h:l.Perm (as.map g)):∃ bs:List α,l=bs.map g/\bs.Perm as:=by
 generalize e:as.map g=l2 at h
 induction h generalizing as with
 |nil=>cases as with
  |nil=>exact⟨[],rfl,.refl _⟩
  |cons a as=>cases e
 |cons x p j=>cases as with
  |nil=>cases e
  |cons a as =>
   rw[map_cons] at e;obtain⟨rfl,k⟩:=List.cons.inj e;obtain⟨bs,c,d⟩:=j k;exact⟨a::bs,by rw[map_cons,c],.cons a d⟩
 |swap x y l=>cases as with
  |nil=>cases e
  |cons a as=>cases as with
   |nil=>simp at e
   |cons b as =>
    simp only[map_cons,List.cons.injEq] at e;obtain⟨rfl,rfl,rfl⟩:=e;exact⟨b::a::as,rfl,.swap a b as⟩
 |trans _ _ i o =>
  obtain⟨bs,c,d⟩:=o e;obtain⟨n,m,f⟩:=i (as:=bs) c.symm;exact⟨n,m,f.trans d⟩
theorem pK:∀ {us:List Value}{ns:List Int},IntsAre us ns->KeysAre J6 us ns
 |_,_,.nil => .nil
 |_,_,.cons n t r => .cons rfl (pK r)
section
variable {X:Cx}{pins:GK}{σ:St}{H:Hp}{s:Shared}{J:List Addr}
theorem AG (I:Inv X pins σ H s){ns:List Int}{v:V}{u:Value}(m:At X.K H J (.tup (ns.map .int)) v)(r:RelV v u):Ko J6 s.heap u ns:=by obtain⟨a,d,rfl,q,z⟩:=At.G3.mp m;cases r;obtain⟨its,b,⟨o,c,hc,n,hd⟩,_⟩:=I.tuple q.sq;have e:=GU.Jr z;subst e;exact⟨a,o,its.toArray,n,rfl,c,hc,hd,by simpa using pK (intsAre_of b)⟩
theorem mN (I:Inv X pins σ H s):∀ {c:List (List Int)}{vs:List V}{us:List Value},(∀ ns∈c,ns≠[])->GU X.K H J (c.map λns => .tup (ns.map .int)) vs->Vals vs us->Hs J6 s.heap us c/\us.map (Pk J6 s.heap)=c
 |[],vs,us,_,m,r=>by cases GU.G0.mp m;cases r;exact⟨.nil,rfl⟩
 |ns::c,vs,us,h0,m,r=>by
  obtain⟨v,g,rfl,m1,m2⟩:=GU.GS.mp m;cases r with
  |cons e f =>
   obtain⟨a,b⟩:=mN I (λx d=>h0 x (mem_cons_of_mem _ d)) m2 f;have t:=AG I m1 e;have ne:=h0 ns (mem_cons_self ..);cases ns with
   |nil=>exact absurd rfl ne
   |cons n ns=>exact⟨.cons t a,by rw[map_cons,vo t,b];rfl⟩
end
theorem zK {j:Type}{O:PyProof.Rows.KeyOrd}{key : j->List O.α}(inj:∀ a b,key a=key b->a=b){l f:List j}(k:f.Perm l)(o:f.Pairwise λa b=>(tm O).kle (key a) (key b)):f=l.mergeSort λa b => !dh O (key b) (key a):=by
 refine List.Perm.eq_of_pairwise (le:=λa b=>(!dh O (key b) (key a))=true) (λa b _ _ h g=>inj _ _ ?_) (o.imp λh=>?_) (List.pairwise_mergeSort (λa b c h g=>?_) (λa b=>?_) l) (k.trans (mergeSort_perm l _).symm)
 ·have n:dh O (key a) (key b)=false:=by simpa using g
  have i:dh O (key b) (key a)=false:=by simpa using h
  exact(tm O).total _ _ n i
 ·have i:dh O _ _=false:=h;rw[i];rfl
 ·have d:(tm O).kle (key a) (key b):=by show dh O (key b) (key a)=false;simpa using h
  have e:(tm O).kle (key b) (key c):=by show dh O (key c) (key b)=false;simpa using g
  have m:dh O (key c) (key a)=false:=PyProof.Rows.KeyOrd.kle_trans d e;rw[m];rfl
 cases d:dh O (key b) (key a) with
 |false=>rfl
 |true =>
  have e:dh O (key a) (key b)=false:=PyProof.Rows.KeyOrd.klt_asymm (O:=tm O) d;rw[e];rfl
theorem Af:kn X (.builtin "sorted") qD:=by
 intro G s σ H xs us Q I r h;obtain⟨J,ds,d,M,m,e,q⟩:=h;unfold qD at e;split at e
 ·rename_i ys;obtain⟨c,es,e⟩:=bind_eq_some_iff.mp e;split at e
  ·rename_i B;obtain⟨B,U⟩:=B;cases e;obtain⟨v,w,rfl,a,n⟩:=GU.GS.mp m;cases GU.G0.mp n;obtain⟨p,zs,rfl,t,z⟩:=At.G8.mp a;obtain⟨u,rfl,ru⟩:=vals1 r;cases ru;obtain⟨its,i,⟨o,nn,ho,hc,_,hd⟩,S⟩:=I.list t.sq;have V:=uw (λd a h=>(v6 h).1) es;have ne:∀ ns∈c,ns≠[]:=λns T=>let ⟨d,h⟩:=ux es ns T;(v6 h).2;subst V;have F:its.length<=sizeLine:=by rw[← i.length,← z.length];exact B
   refine AL (wpAny_collect_seq p (.inl rfl) ho hc hd (λD k=>?_) (by rw[size_toArray,← i.length];exact S));have g:=I.kept (t':=s.toks) k;obtain⟨tu,SJ⟩:=mN g ne z i;have A:dh Iz=nJ (λ(x y:Int)=>decide (x<y)):=by funext a b;exact qR Iz a b
   refine⟨by simpa using F,tm J6.O,Pk J6 D,sj (by simpa using tu),?_,λo h2 ep j hs k2 P=>?_⟩
   ·have WA : @Spec (List Iz.α) (dh Iz) c:=Eq.mpr (congrArg (λf => @Spec (List Int) f c) A) U;have Ph:List.map (Pk J6 D) its.toArray.toList=c:=by simpa using SJ
    exact Eq.mpr (congrArg (λl => @Spec (List Iz.α) (dh Iz) l) Ph) WA
   have j:o.toList.Perm its:=by simpa using j
   obtain⟨C,Uz,a1,a2,R⟩:=xB j i z;obtain⟨K,W,L⟩:=ze R;subst W;have hk:=(mN g (λx Y=>ne x (L.mem_iff.mp Y)) a2 a1).2;have Z:K.Pairwise λa b=>(tm Iz).kle a b:=by have:=pairwise_map.mpr hs;rw[hk] at this;exact this
   have A:(λ(a b:List Int) => !dh Iz b a)=vn:=by funext a b;unfold vn;exact congrArg Bool.not (qR Iz b a)
   have N:K=c.mergeSort vn:=by rw[← A];exact zK (O:=Iz) (key:=λ(a:List Int)=>a) (λa b h=>h) L Z
   subst N;have E:C.length<=sizeLine:=by rw[a1.length,j.length_eq];exact F
   exact⟨.ref _,_,g.laid (t':=s.toks) (o:=.lst C) k2 (le_refl _) ⟨E,o.toList,ep,a1,by simpa using P⟩,rfl,q _ _ (aP g.fresh _) (At.HU a2 g.fresh M E)⟩
  cases e
 cases e
end
mutual
def JS (n:Nat):D->Bool
 | .tup a=>tM n a
 | .lst a=>tM n a
 | .set a=>tM n a
 | .loc l=>decide (l<n)
 |_=>true
def tM (n:Nat):List D->Bool
 |[]=>true
 |d::ds=>JS n d&&tM n ds
end
section
variable {K:GI}{H H2:Hp}{J J2:List Addr}
theorem TQ.back {a:Addr}{b:List V}(h:TQ K H J2 a b)(p:J <+: J2):TQ K H J a b:=h.elim (λz => .inl ⟨z.1,λm=>z.2.1 (p.subset m),z.2.2⟩) .inr
theorem LQ.back {a:Addr}{b:List V}(h:LQ K H J2 a b)(p:J <+: J2):LQ K H J a b:=h.elim (λz => .inl ⟨z.1,λm=>z.2.1 (p.subset m),z.2.2⟩) .inr
theorem za {l:Nat}{a:Addr}(p:J <+: J2)(b:l<J.length)(h:J2[l]?=some a):J[l]?=some a:=by obtain⟨r,rfl⟩:=p;rwa [getElem?_append_left b] at h
mutual
theorem At.JS:∀ {d:D}{v:V},At K H J d v->L2.JS J.length d=true
 | .Hu,_,_=>rfl
 | .bl _,_,_=>rfl
 | .int _,_,_=>rfl
 | .str _,_,_=>rfl
 | .fn _ _,_,_=>rfl
 | .tup b,_,h=>by obtain⟨a,c,_,_,r⟩:=At.G3.mp h;rw[L2.JS];exact GU.JS r
 | .lst b,_,h=>by obtain⟨a,c,_,_,r⟩:=At.G8.mp h;rw[L2.JS];exact GU.JS r
 | .set b,_,h=>by obtain⟨a,e,c,_,_,_,_,r⟩:=At.Ja.mp h;rw[L2.JS];exact GU.JS r
 | .loc l,_,h=>by obtain⟨a,_,q⟩:=At.G7.mp h;exact decide_eq_true (List.getElem?_eq_some_iff.mp q).1
theorem GU.JS:∀ {ds:List D}{vs:List V},GU K H J ds vs->tM J.length ds=true
 |[],_,_=>rfl
 |d::ds,_,h=>by obtain⟨v,r,_,p,q⟩:=GU.GS.mp h;rw[tM,At.JS p,GU.JS q];rfl
end
mutual
theorem At.back (p:J <+: J2):∀ {d:D}{v:V},At K H J2 d v->L2.JS J.length d=true->At K H J d v
 | .Hu,_,h,_=>by rw[At.HG] at h ⊢;exact h
 | .bl _,_,h,_=>by rw[At.G_] at h ⊢;exact h
 | .int _,_,h,_=>by rw[At.GQ] at h ⊢;exact h
 | .str _,_,h,_=>by rw[At.G2] at h ⊢;exact h
 | .fn _ _,_,h,_=>by rw[At.Mu] at h ⊢;exact h
 | .tup c,_,h,i=>by
  obtain⟨a,b,e,q,r⟩:=At.G3.mp h;rw[L2.JS] at i;exact At.G3.mpr ⟨a,b,e,q.back p,GU.back p r i⟩
 | .lst c,_,h,i=>by
  obtain⟨a,b,e,q,r⟩:=At.G8.mp h;rw[L2.JS] at i;exact At.G8.mpr ⟨a,b,e,q.back p,GU.back p r i⟩
 | .set c,_,h,i=>by
  obtain⟨a,f,b,e,q,n,z,r⟩:=At.Ja.mp h;rw[L2.JS] at i;exact At.Ja.mpr ⟨a,f,b,e,q,λm=>n (p.subset m),z,GU.back p r i⟩
 | .loc l,_,h,i=>by
  obtain⟨a,e,q⟩:=At.G7.mp h;rw[L2.JS,decide_eq_true_eq] at i;exact At.G7.mpr ⟨a,e,za p i q⟩
theorem GU.back (p:J <+: J2):∀ {ds:List D}{vs:List V},GU K H J2 ds vs->tM J.length ds=true->GU K H J ds vs
 |[],_,h,_=>by rw[GU.G0] at h ⊢;exact h
 |d::ds,_,h,i=>by
  obtain⟨v,r,e,q,z⟩:=GU.GS.mp h;rw[tM,and_eq_true] at i;exact GU.GS.mpr ⟨v,r,e,At.back p q i.1,GU.back p z i.2⟩
end
theorem iF {α d:Type}{R R2 T : α->d->Prop}{l:List α}:∀ {m m2:List d},Paired T l m2->Paired R l m->(∀ a b c,T a c->R a b->R2 a b)->Paired R2 l m:=by
 intro m m2 t r h
 induction r generalizing m2 with
 |nil=>exact .nil
 |cons q _ e=>cases t with
  |cons f t2=>exact .cons (h _ _ _ f q) (e t2)
theorem K6.back (p:J <+: J2){o:MO}{a:Addr}(old:K6 K H J o a)(h:K6 K H2 J2 o a):K6 K H2 J o a:=by
 cases o with
 |lst P =>
  obtain⟨_,_,r0⟩:=old;obtain⟨O,q,r⟩:=h;exact⟨O,q,r.back p r0.JS⟩
 |exc c=>obtain⟨C,q,r⟩:=h;exact⟨C,q,r⟩
 |dict g =>
  obtain⟨_,_,r0⟩:=old;obtain⟨f,q,r⟩:=h;exact⟨f,q,iF r0 r λx y z t u=>⟨⟨u.1.1,u.1.2.back p t.1.2.JS⟩,u.2.back p t.2.JS⟩⟩
 |GZ g =>
  obtain⟨_,_,r0⟩:=old;obtain⟨f,q,r⟩:=h;exact⟨f,q,iF r0 r λx y z t u=>⟨⟨u.1.1,u.1.2.back p t.1.2.JS⟩,u.2.back p t.2.JS⟩⟩
 |ins c fs =>
  obtain⟨_,_,_,_,_,r0⟩:=old;obtain⟨C,E,s,n,q,r⟩:=h;exact⟨C,E,s,n,q,iF r0 r λx y z t u=>⟨u.1,u.2.back p t.2.JS⟩⟩
 |K5 F q n d =>
  obtain⟨_,_,_,_,_,_,_,_,_,_,_,_,_,_,r0⟩:=old;obtain⟨l,k,sc,po,c,i,I,N,G,u,v,m,b,w,A⟩:=h;exact⟨l,k,sc,po,c,i,I,N,G,u,v,m,⟨b.fn,λz=>b.cj (p.subset z),b.cd,λz=>b.nj (p.subset z),b.cl,b.dt⟩,w,A.back p r0.JS⟩
 |tab x q =>
  obtain⟨c,f,n,D,L,M⟩:=h;exact⟨c,f,n,D,L,λpos j e=>let ⟨i,z1,z2,B⟩:=M pos j e;⟨i,z1,λz=>z2 (p.subset z),B⟩⟩
end
def Cc (X:Cx)(q:Str)(scope:Scope)(cl:List (Str×Addr))(c:List Str)(f:Addr)(cd:Value)(a:Shared)(b:Hp):Cx:=
 { X with A:=X.A.in1.deeper (envX q scope a.heap.objs.size f cd cl),N:=c,s₀:=a,H₀:=b,env:=envX q scope a.heap.objs.size f cd cl,outer:=X.stack,stack:=envX q scope a.heap.objs.size f cd cl::X.stack,ex:=[],fn:=λ_=>false,calm:=true,pn:=[],xe:=λ_ _=>False }
section
variable {X:Cx}{pins:GK}{σ:St}{H:Hp}{s:Shared}{scope:Scope}{cl:List (Str×Addr)}{ix:List Nat}{x q:Str}
structure Qs (X:Cx) (scope:Scope) (cl:List (Str×Addr)):Prop where
 sub:∀ x c,cl.lookup x=some c->X.env.cells.lookup x=some c
 has:∀ y∈scope.names,y.2 = .free->∃ c,cl.lookup y.1=some c
def E9 (X:Cx)(k:Nat)(q:Str)(scope:Scope)(x:Str)(ix:List Nat)(body:Expr)(c:GH D):Prop:=
 ∀ (cl:List (Str×Addr)) (f:Addr) (cd:Value) (b:Shared) (a:Hp),Hg k (Cc X q scope cl (im [x] ix X.N) f cd b a).A->SE (Cc X q scope cl (im [x] ix X.N) f cd b a) W0 body c
structure MH (X:Cx) (scope:Scope) (x:Str) (ix:List Nat):Prop where
 sc:HZ scope X.env
 nc:∀ y∈scope.names,y.2≠.cell
 UC:∀ t∈ix,scope.names.lookup (X.N.getD t Str.empty)=some .free
 par:scope.names.lookup x=some .local
 co:scope.isCoroutine=false
 gen:scope.isGenerator=false
end
theorem oM {pos d:Pos}{c f:Value}(l:List Value)(h:TriplesOk l)(e:codeAmong d (l++[rawInt pos.line,rawInt pos.col,c])=some f):codeAmong d l=some f∨f=c:=by
 fun_induction TriplesOk l
 next =>
  simp only[nil_append,rawInt,codeAmong] at e;split at e
  ·cases e;exact .inr rfl
  cases e
 next a t b u x rest ih =>
  simp only[cons_append,codeAmong] at e ⊢;split at e
  ·rename_i hc;rw[if_pos hc];exact .inl e
  rename_i hc;rw[if_neg hc];exact ih h e
 next=>exact h.elim
class BmB (base:Heap) (mg:GL):Prop where
 out:∃ bm o,mg "__builtins__"=some (.ref bm)/\bm≠builtinsNs/\bm≠mainGlobals/\base.get? bm=some o/\o.cls = .type "module"/\o.dict=some builtinsNs/\o.data = .plain
section
variable {X:Cx}{pins:GK}{σ:St}{H:Hp}{s:Shared}
theorem Inv.OK {P c:Addr}{f more:Array Value}{i:Heap}{tk:Nat}{q:Str}(I:Inv X pins σ H s)(d:H P=some (.JU f))(hc:s.heap.objs.size<=c)(k:∀ b o,b≠P->s.heap.get? b=some o->i.get? b=some o)
  (m:i.get? P=some (tabObj (f++more))) (D:i.CodeRec (.ref c) q):Inv X pins σ (upd (upd H P (.JU (f++more))) c (jj c q)) { s with heap:=i,toks:=tk }:=by
 have nc:H c=none:=I.Ha.fresh hc;have j:∀ b,H b=none->b≠P:=λb n z=>by rw[z,d] at n;cases n
 have other:∀ b,b≠P->b≠c->upd (upd H P (.JU (f++more))) c (jj c q) b=H b:=λb n1 n2=>by rw[aA n2,aA n1]
 have PC:P≠c:=λz=>by rw[z,nc] at d;cases d
 have p:upd (upd H P (.JU (f++more))) c (jj c q) P=some (.JU (f++more)):=by rw[aA PC,GV]
 have g:∀ b u,H b=some u->b≠P->upd (upd H P (.JU (f++more))) c (jj c q) b=some u:=λb u e n=>by rw[other b n (λz=>by rw[z,nc] at e;cases e)];exact e
 refine I.un ⟨λb o e n _ _=>k b o (j b n) e,λb o e n _ _=>⟨o.slots,k b o (j b n) e⟩,λb o e n _=>?_,λb o e _=>?_,λb v e=>?_,λb o u e=>?_,λb v e=>?_⟩ λa o e=>?_
 ·rw[other b (j b n) (ne_of_lt (lt_of_lt_of_le (Heap.lt_size e) hc))];exact n
 ·by_cases z:b=P
  ·rw[z];exact⟨_,m⟩
  exact⟨o,k b o z e⟩
 ·exact g b _ e λz=>by rw[z,d] at e;cases e
 ·exact g b _ e λz=>by rw[z,d] at e;cases e
 ·by_cases z:b=P
  ·rw[z,d] at e;cases e;exact⟨more,by rw[z];exact p⟩
  exact⟨#[],by rw[g b _ e z];simp⟩
 by_cases z:a=c
 ·rw[z,GV] at e;cases e;obtain⟨M,o,C,t,z1,z2,E,w⟩:=D;cases z1;refine⟨⟨o,C,t,z2,E,w⟩,⟨o,by rw[z];exact z2⟩,λK L ⟨x,A,F,G,l,J⟩ r=>?_⟩;rw[z] at r;exact⟨x,A,F,r _ G,l,J⟩
 by_cases h:a=P
 ·rw[h,p] at e;cases e;rw[h];exact m
 rw[other a h z] at e;refine(I.Ha a o e).Ir (λb u hb B=>k b u ?_ B) (λb hb=>g b _ hb λy=>by rw[y,d] at hb;cases hb) λb v hb=>g b _ hb λy=>by rw[y,d] at hb;cases hb
 rcases hb with y |y
 ·rw[y];exact h
 exact λl=>by rw[l,d] at y;cases y
theorem uS {J:List Addr}{S:GO}{l:Nat}{P c d:Addr}{t ps':Array Value}{x q:Str}(so:G4 X.K J S H)(i:J[l]?=some P)(w:S[l]?=some (.tab x q))(s:tabIn X.K x=some (c,P))(h:H P=some (.JU t))(nc:H d=none)
  (ok:E7 (upd (upd H P (.JU ps')) d (jj d q)) J q ps'):Ex J H J (upd (upd H P (.JU ps')) d (jj d q))/\G4 X.K J S (upd (upd H P (.JU ps')) d (jj d q)):=by
 have PC:P≠d:=λz=>by rw[z,nc] at h;cases h
 have u:P∈J:=mem_of_getElem? i;have ex:Ex J H J (upd (upd H P (.JU ps')) d (jj d q)):=⟨prefix_refl _,λb o e n=>⟨by rw[aA (λz=>by rw[z,nc] at e;cases e),aA (λz=>n (by rw[z];exact u))];exact e,n⟩⟩;refine⟨ex,so.len,so.nd,λf a o j g=>?_⟩;have old:=so.at_ f a o j g;by_cases z:a=P
 ·have v:f=l:=by
   have p:=(List.getElem?_eq_some_iff.mp j);have B:=(List.getElem?_eq_some_iff.mp i);obtain⟨k,A⟩:=p;obtain⟨E,D⟩:=B;have r:=so.nd.idxOf_getElem f k;have m:=so.nd.idxOf_getElem l E;rw[← r,← m,A,D,z]
  subst v;rw[w] at g;cases g;subst z;exact⟨c,ps',s,by rw[aA PC,GV],ok⟩
 have C:a≠d:=λy=>old.JQ (by rw[y];exact nc);exact old.ex ex (by rw[aA C,aA z])
theorem xS {params:Arguments}{body:Expr}{scope:Scope}{pos:Pos}{J:List Addr}{S:GO}{l:Nat}{P c:Addr}{x q:Str}{Q:GJ}{E:GJ}{cl:List (Str×Addr)}(O:closureFor scope X.env=pure cl)(I:Inv X pins σ H s)(so:G4 X.K J S H)(B:J[l]?=some P)(V:S[l]?=some (.tab x q))
  (U:X.env.code = .ref c) (R:tabIn X.K x=some (c,P)) (hd:codeHdIn X.K c P=true) (bm:BmB X.base X.mg) (hq:X.env.qual++"<lambda>"=q) (Lu:defaultsOf params X.env=([],[]))
  (fin:∀ f a pm g H' s',Inv X pins σ H' s'->Ex J H J H'->G4 X.K J S H'->s'.heap.get? f=some (kla_obj "<lambda>" q params body scope cl pm a g)->f_ X pins H' f->H' a=some (jj a q)->a∉J->Q (.ref f) s') :
  wpAny (model X.prog X.w) X.A (eval (.Lambda params body scope pos) X.env) Q E s:=by
 obtain⟨c0,i,T,d,p,W⟩:=so.at_ l P _ B V;rw[R] at T;cases T;have G:s.heap.get? P=some (tabObj i):=I.Ha P _ d;have M:s.heap.Ns mainGlobals X.mg:=I.ok.mod.glob.keeps I.bk;have C:CodeHd s.heap c P:=codeHd_of_K I.Kj hd;have Z:mainGlobals≠P:=λz=>by obtain⟨o,es,ep,e,r⟩:=I.ok.mod.glob;have:=(I.bs _ o e).2;rw[z,d] at this;cases this
 obtain⟨b,o,b1,b2,b3,N,b6,b7,b8⟩:=bm.out;have hb:s.heap.BuiltinsAt X.mg P:=⟨b,o,b1,b2,b3,(λz=>by have:=(I.bs b o N).2;rw[z,d] at this;cases this),I.bk b o N,b6,b7,b8⟩;refine kla_eval Lu ?_;rw[hq];cases ha:codeAmong pos i.toList with
 |none =>
  refine kla_makeFunction O I.ok.glob M U C G p ha Z hb λa g h tk hx D L SN WD=>?_;have nc:H a=none:=I.Ha.fresh D;have F:∀ b o,b≠P->s.heap.get? b=some o->(h.push (kla_obj "<lambda>" q params body scope cl ((X.mg "__name__").getD .none) a g)).get? b=some o:=λb o n e=>Heap.get?_push_of_some _ (hx b o n e);have u:=I.OK (tk:=tk) (more:=#[rawInt pos.line,rawInt pos.col,.ref a]) d D F (Heap.get?_push_of_some _ WD) (let ⟨a1,a2,a3,a4,a5,a6,a7⟩:=SN;⟨a1,a2,a3,a4,a5,Heap.get?_push_of_some _ a6,a7⟩);have PC:P≠a:=λz=>by rw[z,nc] at d;cases d
  have Y:a∉J:=so.fresh nc
  obtain⟨ex,SQ⟩:=uS so B V R d nc (ps':=i++#[rawInt pos.line,rawInt pos.col,.ref a]) (by
   refine⟨by simpa using TriplesOk_snoc pos.line pos.col (.ref a) i.toList p,λj v e=>?_⟩;rcases oM (pos:=pos) i.toList p (by simpa using e) with z |z
   ·obtain⟨c2,z1,z2,k⟩:=W j v z;refine⟨c2,z1,z2,?_⟩;rw[aA (λy=>by rw[y,nc] at k;cases k),aA (λy=>z2 (by rw[y];exact mem_of_getElem? B))];exact k
   exact⟨a,z,Y,GV⟩)
  have t:s.heap.objs.size<=h.objs.size:=Nat.le_trans D (le_of_lt L);refine fin h.objs.size a _ g _ _ u ex SQ (Heap.get?_push_size _ rfl) ?_ GV Y;have f1:=I.JM (b:=h.objs.size) t (I.Ha.fresh t);refine⟨?_,f1.2⟩;rw[aA (ne_of_gt L),aA (λy=>by have:=I.Ha.fresh t;rw[y,d] at this;cases this)];exact I.Ha.fresh t
 |some v =>
  obtain⟨a,z1,z2,k⟩:=W pos v ha;subst z1;refine kla_makeFunctionHit O I.ok.glob M U C G p ha hb λg h tk hk m=>?_;have F:∀ b o,s.heap.get? b=some o->(h.push { cls:=.type "function",data:=.func (kla_fn "<lambda>" q params body scope cl ((X.mg "__name__").getD .none) (.ref a) g) }).get? b=some o:=λb o e=>Heap.get?_push_of_some _ (hk b o e);have u:=I.kept (t':=tk) F;exact fin h.objs.size a _ g H _ u Ex.refl so (Heap.get?_push_size _ rfl) (I.JM m (I.Ha.fresh m)) k z2
end
def di (x q:Str)(S:GO):Bool:=S.any λo=>match o with
 | .tab y r=>decide (y=x)&&decide (r=q)
 |_=>false
section
variable {X:Cx}{pins:GK}{σ:St}{scope:Scope}{cl:List (Str×Addr)}{ix:List Nat}{x q:Str}{params:Arguments}{body:Expr}{pm Hy:Value}{c' f Ia St p:Addr}{k:Nat}{gk:GH D}{ρ:GP}{S2:GO}{y:D}{zs:List V}{ds:List D}{J0:List Addr}{H0:Hp}{R:Result->Shared->Prop}
structure SU (X:Cx) (pins:GK) (scope:Scope) (cl:List (Str×Addr)) (ix:List Nat) (x q:Str) (params:Arguments) (body:Expr) (pm Hy:Value) (c' f Ia St p:Addr) (k:Nat) (gk:GH D):Prop where
 hr:Hg (k+2) X.A
 L:MH X scope x ix
 lc:Qs X scope cl
 hb:∀ u,bindArgs (kla_fn "<lambda>" q params body scope cl pm (.ref c') Hy) ⟨[u],[]⟩=pure [(x,u)]
 ok:E9 X k q scope x ix body gk
 ff:∀ H:Hp,H f=none->f_ X pins H f
 fI:∀ H:Hp,H Ia=none->f_ X pins H Ia
 fS:∀ H:Hp,H St=none->f_ X pins H St
 n1:f≠Ia
 n2:f≠St
 n3:Ia≠St
 n4:p≠Ia
 n5:p≠St
structure UG (X:Cx) (pins:GK) (σ:List (Option V)) (scope:Scope) (cl:List (Str×Addr)) (q:Str) (params:Arguments) (body:Expr) (pm Hy:Value) (c' f Ia St p:Addr) (ρ:GP) (zs:List V) (ds:List D) (J0:List Addr) (H0:Hp) (j:Nat) (s:Shared) (H:Hp) (J:List Addr) (S:GO):Prop where
 I:Inv X pins σ H s
 ex:Ex J0 H0 J H
 c:Cf X J ρ S σ H
 lq:LQ X.K H J p zs
 az:GU X.K H J ds zs
 hc:H c'=some (jj c' q)
 nc:c'∉J
 Hf:H f=none
 HI:H Ia=none
 HS:H St=none
 gf:s.heap.get? f=some (kla_obj "<lambda>" q params body scope cl pm c' Hy)
 it:s.heap.IsListIter Ia p j
end
section
variable {X:Cx}{W:WT}{e d0:Expr}{fe gk:GH D}{x z q:Str}{ix:List Nat}{params:Arguments}{body:Expr}{scope:Scope}{p pos lp kp dp:Pos}{k:Nat}{c P:Addr}
theorem yG {S:GO}(h:di z q S=true):∃ l:Nat,S[l]?=some (.tab z q):=by
 unfold di at h;obtain⟨o,b,e⟩:=any_eq_true.mp h;obtain⟨l,a⟩:=getElem?_of_mem b;cases o with
 |tab y r =>
  simp only[and_eq_true,decide_eq_true_eq] at e;obtain⟨rfl,rfl⟩:=e;exact⟨l,a⟩
 |_=>cases e
end
theorem MI {K:GI}{x:Str}{f c P:Addr}{j:Value}{g:Option Addr}{fd:FuncData}{i:Array (Option Value)}{h:Value}{cd:Option Addr}{vs:Array Value}{b:Array (Option Value)}(d:nsIn K mainGlobals x=some (some (.ref f)))(l:K.lookup f=some ⟨j,g,.func fd,i⟩)(a:fd.code = .ref c)
  (e:K.lookup c=some ⟨h,cd,.fields vs,b⟩) (k:vs[11]?=some (.ref P)):tabIn K x=some (c,P):=by
 unfold tabIn;simp only[d,l,a,e,k]
def DR (K:GI)(mg:GL)(x:Str):Prop:=∃ f d a fd b c P,mg x=some (.ref f)/\K.lookup f=some ⟨d,a,.func fd,b⟩/\fd.code = .ref c/\tabIn K x=some (c,P)/\codeHdIn K c P=true
section
variable {P:Program}{w:World}{K:GI}{mg:GL}{base:Heap}
theorem BR {x:Str}{st:Stmt}{sc:Scope}{N a:List Str}{k:Nat}{G:GH Fl}(q:bu K mg x st a)(r:DR K mg x)(p:aB st=sc)(S:GR N a sc)
  (h:∀ (f:Addr) (b:Value) (c Q:Addr),b = .ref c->tabIn K x=some (c,Q)->codeHdIn K c Q=true->∀ (A:Around) (outer:List Env) (s:Shared) (H:Hp) (E:XK),Hg k (A.deeper (envOfC x sc s.heap.objs.size f b))->Lp (l_ L0 P w K mg base N x sc f b A outer s H E).M0 W0 (bG st) G) :
  Io P w K mg base (k+1) x a (bj a.length (N.length-a.length) G):=by
 obtain⟨f,fd,d,g,hb⟩:=q;obtain⟨C,D,I,WE,u,c,Q,n,l,m,j,hd⟩:=r;have e:=g.symm.trans n;cases e;have o:fd=WE:=by obtain⟨t,J,kV,doc,F,B,b,ct,v,y,i,z⟩:=d.ex;rw[l] at i;cases i;rfl
 subst o;exact⟨f,fd,iJ d p S λA outer s H E hr=>h f fd.code c Q m j hd A outer s H E hr,g,d.kp,hb⟩
theorem tabAt {h:Heap}{x:Str}{f c Q:Addr}{b:Value}{d:Option Addr}{fd:FuncData}{a:Array (Option Value)}{k:Value}{cd:Option Addr}{vs:Array Value}{g:Array (Option Value)}(KX:K.In h)(G:h.Ns mainGlobals mg)(n:nsIn K mainGlobals x=some (some (.ref f)))(l:K.lookup f=some ⟨b,d,.func fd,a⟩)(e:fd.code = .ref c)
  (i:K.lookup c=some ⟨k,cd,.fields vs,g⟩) (j:vs[11]?=some (.ref Q)) (hd:codeHdIn K c Q=true):DR K mg x:=
 ⟨f,b,d,fd,a,c,Q,mg_of KX G n,l,e,MI n l e i j,hd⟩
def qC (K:GI)(n:Nat)(x:Str)(Q:Addr):Sp:=λb H R _ => ∃ (a:Addr) (ns:List Int),b=[.ref a]/\Ks K H a (ns.map V.int)/\ns.length<=n/\H Q=some (.JU #[])/\a≠Q/\∀ c,R (.bl true) c
theorem By {k n:Nat}{f c Q:Addr}{fd:FuncData}{i:List Str}{F:GN}{x q:Str}(h:My P w K mg base k f fd i F)(t:n<=1000)(p:tabIn K x=some (c,Q))
  (y:∀ ns:List Int,ns.length<=n->∃ b,F [.lst (ns.map .int)] [.tab x q]=some (.ok (.bl true),b)):IP P w K mg base L0 k f fd i (qC K n x Q):=by
 refine IP.imp h λD H R E A=>?_;obtain⟨a,ns,e,u,g,B,ne,s⟩:=A;subst e;obtain⟨b,eF⟩:=y ns g;refine⟨[Q],[.tab x q],[.lst (ns.map .int)],.bl true,b,.cons (At.G8.mpr ⟨a,ns.map V.int,rfl,?_,GU.ofInts ns⟩) .nil,⟨rfl,by simp,λl a o d r=>?_⟩,eF,λG j v _ _ m=>?_⟩
 ·rcases u with z |z
  ·exact .inl ⟨z,by simpa using ne,by rw[length_map];exact Nat.le_trans g (Nat.le_trans t (by decide))⟩
  exact .inr z
 ·cases l with
  |zero =>
   cases d;cases r;exact⟨c,#[],p,B,trivial,λpos C e=>by cases e⟩
  |succ l=>cases d
 rw[At.G_.mp m];exact s j
theorem xR {D:GL}{k:Nat}{E a c Q:Addr}{fd:FuncData}{x z:Str}{sb:Shared}{vs:List Value}{ns:List Int}
  (LW:K.In sb.heap) (S:sb.heap.Ns mainGlobals mg) (hb:sb.heap.Ns builtinsNs D) (WH:∀ x:Str,x≠"__name__"->D x=bootBuiltins x) (C:sb.heap.NoLimit) (hg:sb.gens = #[])
  (obj:sb.heap.get? a=some { cls:=.type "list",data:=.seq vs.toArray }) (N:IntsAre vs ns) (O:ns.length<=63) (hr:Hg k callerA) (l:sb.heap.get? Q=some (tabObj #[])) (hd:codeHdIn K c Q=true) (kQ:K.lookup Q=none)
  (WI:BmB sb.heap mg) (F:∀ base:Heap,K.In base->base.Ns mainGlobals mg->BmB base mg->IP P w K mg base L0 k E fd [x] (qC K 63 z Q)) (WJ:∀ (s:Shared) (u:Value),BindsTo s fd ⟨[u],[]⟩ [(x,u)]) :
  codeAny (model P w) callerA (.call (.ref E) ⟨[.ref a],[]⟩) (λr s'=>r = .ok (.ret (.bool true))/\OldK sb.heap s'.heap/\s'.os=sb.os/\AllBare s'.gens) sb:=by
 have X:=kz N;have f:ns.length<=sizeLine:=Nat.le_trans O (by decide);have A:a≠Q:=λe=>by rw[e,l] at obj;cases obj
 have R:∀ H:Hp,Ks K H a (ns.map V.int)->Iq P w H sb.heap->H Q=some (.JU #[])->(∀ b,H b≠none->b=Q∨b=a/\K.lookup a=none/\∃ o L,H a=some (.LC o (.lst L))) ->
   codeAny (model P w) callerA (.call (.ref E) ⟨[.ref a],[]⟩) (λr s'=>r = .ok (.ret (.bool true))/\OldK sb.heap s'.heap/\s'.os=sb.os/\AllBare s'.gens) sb:=by
  intro H hS J U B
  have T:∀ {b:Addr}{o:Obj},sb.heap.get? b=some o->o≠tabObj #[]->o≠{ cls:=.type "list",data:=.seq vs.toArray }->H b=none:=λ{b o} e n1 n2=>by
   cases q:H b with
   |none=>rfl
   |some u =>
    rcases B b (by rw[q];simp) with rfl |⟨rfl,_⟩
    ·rw[l] at e;exact absurd (Option.some.inj e).symm n1
    rw[obj] at e;exact absurd (Option.some.inj e).symm n2
  have t:∀ {b:Addr}{m:GL},sb.heap.Ns b m->(qZ sb.heap H).Ns b m:=λ{b m} ⟨o,es,ep,e,d,r⟩=>⟨o,es,ep,nQ e (T e (λz=>by rw[z] at d;cases d) (λz=>by rw[z] at d;cases d)),d,r⟩
  have M:K.In (qZ sb.heap H):=λb o e=>nQ (LW b o e) (by
   cases q:H b with
   |none=>rfl
   |some u =>
    rcases B b (by rw[q];simp) with rfl |⟨rfl,k0,_⟩
    ·rw[kQ] at e;cases e
    rw[k0] at e;cases e)
  have SX:Mod K mg (qZ sb.heap H):=⟨M,t S,⟨D,t hb,WH⟩,let ⟨mc,h1,h2⟩:=C;⟨mc,t h1,h2⟩⟩;have Nl:K1 P w K mg (qZ sb.heap H) callerA [] sb H:=⟨rfl,SX,λb o e=>Bi e,Nat.le_of_eq (xZ _ _),trivial,λb hb=>absurd (show b∈([]:List Addr) from hb) (by simp),J,.of_eq hg⟩;have hB:BmB (qZ sb.heap H) mg:=by obtain⟨bm,o,b1,b2,b3,W,b5,b6,p⟩:=WI.out;exact⟨bm,o,b1,b2,b3,nQ W (T W (λz=>by rw[z] at p;cases p) (λz=>by rw[z] at p;cases p)),b5,b6,p⟩
  refine codeAny_mono ((F _ M (t S) hB).run callerA [] sb H ⟨[.ref a],[]⟩ [.ref a] [.ref a] (λv _=>v = .bl true) (λ_ _ _=>False) hr Nl (WJ sb (.ref a)) (.cons rfl .nil) ⟨a,ns,rfl,hS,O,U,A,λ_=>rfl⟩) λr s' h=>?_;cases r with
  |error e=>exact False.elim h
  |ok fl =>
   cases fl with
   |next=>exact False.elim h
   |brk=>exact False.elim h
   |cont=>exact False.elim h
   |ret u =>
    obtain⟨v,H',SY,gens,i,Y,r',q⟩:=h;have q':v = .bl true:=q;subst q';obtain rfl:u=Value.bool true:=r'
    have Ir:∀ b o,sb.heap.get? b=some o->b≠Q->s'.heap.get? b=some o:=λb o e n=>by
     cases q:H b with
     |none=>exact i.keep b o e q (by intro z;exact absurd (show b∈([]:List Addr) from z) (by simp)) (by simp)
     |some u =>
      rcases B b (by rw[q];simp) with y |⟨y,_,ob,L,Z⟩
      ·exact absurd y n
      subst y;have z2:=i.JK _ ob _ Z;obtain⟨I,_⟩:=J _ _ Z;obtain⟨e2,_⟩:=Y _ _ z2;rw[e] at I;cases I;exact e2
    obtain⟨more,WK⟩:=i.JL Q #[] U;have G:s'.heap.get? Q=some (tabObj (#[]++more)):=Y Q _ WK;refine⟨rfl,⟨λb o e=>?_,λb o e=>?_⟩,SY,gens⟩
    ·by_cases y:b=Q
     ·subst y;rw[l] at e;cases e;exact .inr (.inl ⟨((codeHd_of_K LW hd).tab l).isCodeTable,rfl,#[],more,rfl,G⟩)
     exact .inl (Ir b o e y)
    by_cases y:b=Q
    ·subst y;exact⟨_,G⟩
    exact⟨o,Ir b o e y⟩
 have S5:=N.length;cases hk:K.lookup a with
 |some o =>
  have e:=LW a o hk;rw[obj] at e;cases e;refine R (λb=>if b=Q then some (.JU #[]) else none) (.inr ⟨_,vs.toArray,_,hk,rfl,rfl,rfl,by rw[size_toArray,S5];exact f,by simpa using X⟩) (λb u y=>?_) (if_pos rfl) λb y=>?_
  ·by_cases hb:b=Q
   ·have g:=(if_pos hb).symm.trans y;cases g;subst hb;exact l
   have g:=(if_neg hb).symm.trans y;cases g
  by_cases hb:b=Q
  ·exact .inl hb
  exact absurd (if_neg hb) y
 |none =>
  refine R (λb=>if b=Q then some (.JU #[]) else if b=a then some (.LC { cls:=.type "list",data:=.seq vs.toArray } (.lst (ns.map V.int))) else none) (.inl (.inr ⟨{ cls:=.type "list",data:=.seq vs.toArray },(if_neg A).trans (if_pos rfl)⟩)) (λb u y=>?_) (if_pos rfl) λb y=>?_
  ·by_cases hb:b=Q
   ·have g:=(if_pos hb).symm.trans y;cases g;subst hb;exact l
   have y:=(if_neg hb).symm.trans y;by_cases j:b=a
   ·have g:=(if_pos j).symm.trans y;cases g;subst j;exact⟨obj,by rw[length_map];exact f,vs,_,X,obj⟩
   have g:=(if_neg j).symm.trans y;cases g
  by_cases hb:b=Q
  ·exact .inl hb
  by_cases j:b=a
  ·exact .inr ⟨j,hk,_,_,(if_neg A).trans (if_pos rfl)⟩
  exact absurd ((if_neg hb).trans (if_neg j)) y
theorem L_ {l:PySem.W.OpenLaw}{q:Program}{loose:List Str}{B:(GL)->Heap->Prop}{m:World->Heap->Prop}{d:DefRec}{K:Params->GI}{k:Nat}{x z:Str}{Q:Addr}(D:l.most=some 63)(L:d.params.defaults=[])(hr:Hg k callerA)
  (P:∀ (w:World) (h:Heap),m w h->(K w.params).In h) (J:∀ (w:World) (h:Heap),m w h->h.get? Q=some (tabObj #[]))
  (F:∀ (w:World) (mg:GL) (i:Addr) (p:Heap),(K w.params).In p->p.Ns mainGlobals mg ->
   mg d.name=some (.ref i) ->
   (∃ c,codeHdIn (K w.params) c Q=true)/\(K w.params).lookup Q=none/\∃ fd:FuncData,(∀ (s:Shared) (u:Value),BindsTo s fd ⟨[u],[]⟩ [(x,u)])/\∀ base:Heap,(K w.params).In base->base.Ns mainGlobals mg->BmB base mg->IP l.prog w (K w.params) mg base L0 k i fd [x] (qC (K w.params) 63 z Q)) :
  PySem.W.WalkO q loose B m l.row.toRowW d [] (λf vs=>PySem.call f vs):=by
 refine Att.K3 D L λw sz sb mg S i o U cd doc a vs ns G Y _ _ _ v lst O RM E=>?_;have LW:=P w _ Y;obtain⟨⟨c,hc⟩,A,fd,hb,I⟩:=F w mg i _ LW G.T.g v;have M:BmB sb.heap mg:=by obtain⟨bm,t,r,N,n,C,H,j⟩:=G.T.bmain;refine⟨bm,t,r,N,λy=>?_,n,C,H,j⟩;obtain⟨o,es,ep,e,R,_⟩:=G.T.g;rw[y,e] at n;cases n;rw[R] at j;cases j
 exact xR LW G.T.g G.T.b G.T.builtins G.T.nolimit E lst O RM hr (J w _ Y) hc A M I hb
end
mutual
def tO:D->Bool
 | .Hu=>true
 | .bl _=>true
 | .int _=>true
 | .str _=>true
 | .tup a=>Nb a
 |_=>false
def Nb:List D->Bool
 |[]=>true
 |d::ds=>tO d&&Nb ds
end
def DQ (o:HO):Prop:=∃ a,o = .tup a∨∃ b,o = .LC b (.tup a)
section
variable {K:GI}{H H2:Hp}{J J2:List Addr}
def Mv (H:Hp)(J:List Addr)(H2:Hp)(J2:List Addr):Prop:=∀ b o,DQ o->H b=some o->b∉J->H2 b=some o/\b∉J2
theorem TQ.mv {a:Addr}{b:List V}(e:Mv H J H2 J2)(h:TQ K H J a b):TQ K H2 J2 a b:=by
 rcases h with ⟨z |⟨f,z⟩,n,l⟩ |h
 ·obtain⟨c,d⟩:=e a _ ⟨b,.inl rfl⟩ z n;exact .inl ⟨.inl c,d,l⟩
 ·obtain⟨c,d⟩:=e a _ ⟨b,.inr ⟨f,rfl⟩⟩ z n;exact .inl ⟨.inr ⟨f,c⟩,d,l⟩
 exact .inr h
mutual
theorem At.mv (e:Mv H J H2 J2):∀ {d:D}{v:V},tO d=true->At K H J d v->At K H2 J2 d v
 | .Hu,_,_,h=>by rw[At.HG] at h ⊢;exact h
 | .bl _,_,_,h=>by rw[At.G_] at h ⊢;exact h
 | .int _,_,_,h=>by rw[At.GQ] at h ⊢;exact h
 | .str _,_,_,h=>by rw[At.G2] at h ⊢;exact h
 | .tup f,_,t,h=>by
  obtain⟨a,c,b,q,r⟩:=At.G3.mp h;rw[tO] at t;exact At.G3.mpr ⟨a,c,b,q.mv e,GU.mv e t r⟩
 | .lst _,_,t,_=>by simp[tO] at t
 | .set _,_,t,_=>by simp[tO] at t
 | .loc _,_,t,_=>by simp[tO] at t
 | .fn _ _,_,t,_=>by simp[tO] at t
theorem GU.mv (e:Mv H J H2 J2):∀ {ds:List D}{vs:List V},Nb ds=true->GU K H J ds vs->GU K H2 J2 ds vs
 |[],_,_,h=>by rw[GU.G0] at h ⊢;exact h
 |d::ds,_,t,h=>by
  obtain⟨v,r,a,q,z⟩:=GU.GS.mp h;rw[Nb,and_eq_true] at t;exact GU.GS.mpr ⟨v,r,a,At.mv e t.1 q,GU.mv e t.2 z⟩
end
theorem G4.Qv {S:GO}(so:G4 K J S H){b:Addr}{o:HO}(hb:b∈J)(e:H b=some o):¬ DQ o:=by
 obtain⟨l,c⟩:=getElem?_of_mem hb;have d:l<S.length:=by rw[← so.len];exact(List.getElem?_eq_some_iff.mp c).1
 have m:=so.at_ l b _ c (getElem?_eq_getElem d);rintro⟨f,z⟩;have key:∀ u:HO,H b=some u->u=o:=λu q=>by rw[q] at e;exact Option.some.inj e
 cases hm:S[l] with
 |dict a=>rw[hm] at m;obtain⟨_,q,_⟩:=m;have:=key _ q;subst this;rcases z with z |⟨_,z⟩<;>cases z
 |lst a=>rw[hm] at m;obtain⟨_,q,_⟩:=m;have:=key _ q;subst this;rcases z with z |⟨_,z⟩<;>cases z
 |exc a=>rw[hm] at m;obtain⟨_,_,q⟩:=m;have:=key _ q;subst this;rcases z with z |⟨_,z⟩<;>cases z
 |GZ a=>rw[hm] at m;obtain⟨_,q,_⟩:=m;have:=key _ q;subst this;rcases z with z |⟨_,z⟩<;>cases z
 |ins a _=>rw[hm] at m;obtain⟨_,_,_,_,q,_⟩:=m;have:=key _ q;subst this;rcases z with z |⟨_,z⟩<;>cases z
 |tab _ _=>rw[hm] at m;obtain⟨_,_,_,q,_⟩:=m;have:=key _ q;subst this;rcases z with z |⟨_,z⟩<;>cases z
 |K5 _ _ _ _=>rw[hm] at m;obtain⟨_,_,_,_,_,_,_,_,_,_,_,_,q,_⟩:=m;have:=key _ q.fn;subst this;rcases z with z |⟨_,z⟩<;>cases z
end
def t7 (X:Cx)(q:Str)(scope:Scope)(cl:List (Str×Addr))(c:List Str)(f:Addr)(cd:Value)(a:Shared)(b:Hp):Cx:=
 { X with A:=X.A.deeper (envX q scope a.heap.objs.size f cd cl),N:=c,s₀:=a,H₀:=b,env:=envX q scope a.heap.objs.size f cd cl,outer:=X.stack,stack:=envX q scope a.heap.objs.size f cd cl::X.stack,ex:=[],fn:=λ_=>false,calm:=true,pn:=[],xe:=λ_ _=>False }
structure Jc (scope:Scope) (x n:Str):Prop where
 kind:scope.kind = .function
 nc:∀ y∈scope.names,y.2≠.cell
 par:scope.names.lookup x=some .local
 UC:scope.names.lookup n=some .free
 one:∀ y∈scope.names,y.2 = .free->y.1=n
 co:scope.isCoroutine=false
 gen:scope.isGenerator=false
def Ax (X:Cx)(k:Nat)(q:Str)(scope:Scope)(x n:Str)(body:Expr)(c:GH D):Prop:=
 ∀ (cl:List (Str×Addr)) (f:Addr) (cd:Value) (b:Shared) (a:Hp),Hg k (t7 X q scope cl [x,n] f cd b a).A->SE (t7 X q scope cl [x,n] f cd b a) W0 body c
theorem wy {n y:Str}{c a:Addr}(h:[(n,c)].lookup y=some a):y=n/\a=c:=by
 rw[lookup_cons] at h;cases hy:y==n with
 |true=>rw[hy] at h;cases h;exact⟨eq_of_beq hy,rfl⟩
 |false=>rw[hy] at h;cases h
section
variable {X:Cx}{pins:GK}{σ:St}{H:Hp}{s:Shared}{scope:Scope}{x n q:Str}{c c' f:Addr}{oc:Obj}{uc:Value}{params:Arguments}{body:Expr}{pm Hy:Value}{J:List Addr}{S:GO}
def cy (H:Hp)(c:Addr):Hp:=λb=>if b=c then none else H b
theorem gG:cy H c c=none:=if_pos rfl
theorem cD {b:Addr}(h:b≠c):cy H c b=H b:=if_neg h
theorem eY {b:Addr}(h:H b=none):cy H c b=none:=by unfold cy;split;rfl;exact h
theorem Iq.drop {P:Program}{w:World}{h d:Heap}(ok:Iq P w H h)(hc:H c=some (d6 c oc))(k:∀ b o,h.get? b=some o->d.get? b=some o):Iq P w (cy H c) d:=λa o e=>by
 have ne:a≠c:=λz=>by rw[z,gG] at e;cases e
 rw[cD ne] at e;exact(ok a o e).Ir (λb u _ f=>k b u f) (λb hb=>by rw[cD (λz=>by rw[z,hc] at hb;cases hb)];exact hb) λb g hb=>by rw[cD (λz=>by rw[z,hc] at hb;cases hb)];exact hb
theorem Inv.Qw {h:Heap}{tk:Nat}{m:GL}{v j:V}{u:Value}{cd:Value}(I:Inv X pins σ H s)(hd:X.A.handled=none)(S:Jc scope x n)(hc:H c=some (d6 c oc))(dt:oc.data = .cell (some uc))(G:RelV j uc)
  (k:∀ b o,s.heap.get? b=some o->h.get? b=some o) (E:h.Ns s.heap.objs.size m) (F:m x=some u) (C:RelV v u) :
  Inv (t7 X q scope [(n,c)] [x,n] f cd s (cy H c)) [] [some v,some j] (cy H c) { s with heap:=h,toks:=tk }:=by
 have l:∀ b:Addr,b∉(t7 X q scope [(n,c)] [x,n] f cd s (cy H c)).ex:=λb z=>absurd (show b∈([]:List Addr) from z) (by simp);have B:s.heap.get? c=some oc:=(I.Ha c _ hc).1;have r:[(n,c)].lookup n=some c:=by rw[lookup_cons,beq_self_eq_true]
 refine⟨⟨I.ok.mod,S.kind,rfl,rfl,le_refl _,λy z w d g=>(wy d).1.trans (wy g).1.symm,λy hy=>?_,(λy c a=>by cases a),λ_=>hd,Around.frames_deeper I.ok.frames,.inr ⟨rfl,rfl⟩,λb z=>absurd z (l b),λb o e=>⟨(I.bs b o e).1,eY (I.bs b o e).2⟩,Nat.le_trans I.ok.Mp I.sz,λb _ _=>l b,λb z=>absurd z (l b),I.stack,λb hb=>eY (I.IX b hb)⟩,
  rfl,I.bare,Un.kept k,⟨m,E,λi y t d g J=>?_⟩,λy w e=>?_,eY (I.Ha.fresh (le_refl _)),λy w e=>by rw[(wy e).2];exact gG,λp D=>absurd (show p∈([]:GK) from D) (by simp),I.Ha.drop hc k,rfl⟩
 ·have hy:scope.names.lookup y=some .cell∨scope.names.lookup y=some .free:=hy;rcases hy with hy |hy
  ·exact absurd rfl (S.nc _ (lookup_mem hy))
  have:=S.one _ (lookup_mem hy) rfl;have e:y=n:=this;subst e;exact⟨c,r⟩
 ·match i,d,g with
  | 0,d,g =>
   have d:some x=some y:=d;have g:some (some v)=some (some t):=g;cases d;cases g;exact⟨u,C,.inl ⟨S.par,F⟩⟩
  | 1,d,g =>
   have d:some n=some y:=d;have g:some (some j)=some (some t):=g;cases d;cases g;exact⟨uc,G,.inr ⟨.inr S.UC,c,r,⟨oc,k _ _ B,dt⟩⟩⟩
  |i+2,d,g=>exact absurd (show ([]:List Str)[i]?=some y from d) (by simp)
 rw[(wy e).2];exact⟨_,oc,k _ _ B,dt⟩
theorem Ac {k:Nat}{gk:GH D}{d E y:D}{v M:V}{u:Value}(I:Inv X pins σ H s)(hr:Hg (k+1) X.A)(p:Jc scope x n)(C:NM H J params body scope q n f c c' pm Hy oc uc)(rc:RelV M uc)(ac:At X.K H J E M)(tc:tO E=true)
  (hb:bindArgs (kla_fn "<lambda>" q params body scope [(n,c)] pm (.ref c') Hy) ⟨[u],[]⟩=pure [(x,u)]) (ok:Ax X k q scope x n body gk) (so:G4 X.K J S H) (a:At X.K H J d v) (ta:tO d=true) (rv:RelV v u) (eg:gk [some d,some E] []=some (.ok y,[])) (ty:tO y=true) :
  wpAny (model X.prog X.w) X.A (PySem.call (.ref f) [u]) (λw s' => ∃ g H',Inv X pins σ H' s'/\RelV g w/\G5 H H'/\At X.K H' J y g) (λ_ _=>False) s:=by
 obtain⟨⟨o,vs,t,e1,e2,e3⟩,_⟩:=I.Ha c' _ C.cd;have gf:=(I.Ha f _ C.fn).1;have gc:s.heap.get? c=some oc:=(I.Ha c _ C.cl).1
 have UO:Mv H J (cy H c) []:=λb o z e _=>by
  have N:b≠c:=λL=>by
   rw[L,C.cl] at e;cases e;obtain⟨Z,z1⟩:=z;rcases z1 with z1 |⟨_,z1⟩
   ·cases z1
   cases z1
  exact⟨by rw[cD N];exact e,by simp⟩
 have post:codeAny (model X.prog X.w) X.A (.call (.ref f) ⟨[u],[]⟩) (λr s'=>match r with
   | .ok (.ret w)=>CE X.stack X.prog X.w H s (λg H'=>G5 H H'/\At X.K H' J y g) w s'
   |_=>False) s:=by
  refine kla_callFunE hr.depth gf rfl p.co p.gen rfl ⟨c',o,vs,t,rfl,e1,e2,e3⟩ ?_;rw[hb];refine wpAny_pure (wpAny_newFunctionEnv p.nc (λz hz=>by rw[mem_singleton.mp hz];exact p.par) (λh1 Lv UP=>⟨I.nolimit.fresh _ UP,?_⟩) p.kind);have Ph:∀ b o,s.heap.get? b=some o->h1.get? b=some o:=λb o e=>UP.extBut b o (ne_of_lt (Heap.lt_size e)) (Heap.get?_push_of_some _ e);have I1:=I.Qw (q:=q) (f:=f) (cd:=.ref c') (tk:=s.toks+1) hr.hd p C.cl C.dt rc Ph Lv (show [(x,u)].reverse.lookup x=some u by simp) rv
  have cf:Cf (t7 X q scope [(n,c)] [x,n] f (.ref c') s (cy H c)) [] [some d,some E] [] [some v,some M] (cy H c):=by
   refine⟨rfl,λi O h=>?_,⟨rfl,.nil,λl a o h=>by simp at h⟩⟩
   match i,h with
   | 0,h=>have h:some (some d)=some (some O):=h;cases h;exact⟨v,rfl,a.mv UO ta⟩
   | 1,h=>have h:some (some E)=some (some O):=h;cases h;exact⟨M,rfl,ac.mv UO tc⟩
   |i+2,h=>exact absurd (show ([]:List (Option D))[i]?=some (some O) from h) (by simp)
  have t:=ok [(n,c)] f (.ref c') s (cy H c) (hr.deeper _) [] _ _ (cy H c) (λg H' => ∃ F,Ex [] (cy H c) F H'/\G4 X.K F [] H'/\At X.K H' F y g) I1 ⟨[],_,[],.ok y,[],cf,.nil,eg,λF H' w x' s' R=>⟨F,x',s',R⟩⟩;refine kla_codeExpr (wpAny_mono t (λw s' j=>?_) λe s' j=>False.elim j);obtain⟨g,Q,m,r9,J9,x9,WM,m9⟩:=j;have WN:J9=[]:=length_eq_zero_iff.mp WM.len;subst WN;have Ri:c∉Lk X.stack:=λz=>by have:=I.IX c z;rw[C.cl] at this;cases this
  have W:s'.heap.get? c=some oc:=m.base.keep c oc gc gG Ri (by show c∉([]:List Addr);simp);have P:Q c=none:=m.base.free c oc gc gG (by show c∉([]:List Addr);simp)
  have B:G5 H (upd Q c (d6 c oc)):=λb o e=>by
   by_cases z:b=c
   ·rw[z,GV];rw[z,C.cl] at e;exact e
   rw[aA z];exact(x9.keep b o (by rw[cD z];exact e) (by simp)).1
  refine⟨g,upd Q c (d6 c oc),m.os,m.bare,⟨λb o e n hb G=>?_,λb o e n hb G=>?_,λb o e n G=>?_,m.base.there,λb Z e=>B b _ e,λb o u e=>B b _ e,λb ps e=>⟨#[],by rw[B b _ e];simp⟩⟩,λa2 o2 e=>?_,r9,B,?_⟩
  ·exact m.base.keep b o e (eY n) hb G
  ·exact m.base.slot b o e (eY n) hb G
  ·rw[aA (λz=>by rw[z,C.cl] at n;cases n)];exact m.base.free b o e (eY n) G
  ·by_cases z:a2=c
   ·rw[z,GV] at e;cases e;refine⟨W,⟨oc,by rw[z];exact W⟩,λh1 h3 y1 Y=>?_⟩;rw[z] at Y;exact Y _ y1
   rw[aA z] at e;exact(m.Ha a2 o2 e).Ir (λb u _ eb=>eb) (λb hb=>by rw[aA (λL=>by rw[L,P] at hb;cases hb)];exact hb) λb Z hb=>by rw[aA (λL=>by rw[L,P] at hb;cases hb)];exact hb
  refine m9.mv (λb o2 tr e _=>?_) ty;have N:b≠c:=λz=>by rw[z,P] at e;cases e
  refine⟨by rw[aA N];exact e,λU=>?_⟩;obtain⟨u2,T⟩:=Option.ne_none_iff_exists'.mp (so.tracked U);have:=B b u2 T;rw[aA N,e] at this;cases this;exact so.Qv U T tr
 refine wpAny_call (codeAny_mono post λr s' j=>?_);cases r with
 |error e=>exact False.elim j
 |ok fl =>
  cases fl with
  |ret w =>
   obtain⟨g,H',I',r',sm,R⟩:=I.after j;exact⟨g,H',I',r',sm,R⟩
  |next=>exact False.elim j
  |brk=>exact False.elim j
  |cont=>exact False.elim j
end
noncomputable def vH (b:Expr) (q n:Str) (c:GH D) (l:Nat) (a:D) (S:GO):Out D:=match S[l]? with
 |some (.K5 Qx q' n' dc) => @ite _ (Qx=b/\q'=q/\n'=n/\tO dc=true/\tO a=true) (Classical.propDecidable _) (match c [some a,some dc] [] with
  |some (.ok y,[])=>if tO y=true then GW y S else none
  |_=>none) none
 |_=>none
noncomputable def um (b:Expr) (q n:Str) (e ff fe:GH D):GH D:=λc S=>ah (ff c S) λd f=>match d with
 | .loc l=>ah (fe c f) λa g=>vH b q n e l a g
 |_=>none
section
variable {X:Cx}{W:WT}{y x n q:Str}{p pos lp:Pos}{e:Expr}{ff fe gk:GH D}{params:Arguments}{body:Expr}{scope:Scope}{k:Nat}
theorem xT {M:Model}{f:Addr}(h:Heap)(P:∃ (q:Str) (params:Arguments) (body:Expr) (scope:Scope) (cl:List (Str×Addr)) (b:Value) (a:Addr) (c:Value),h.get? f=some (kla_obj "<lambda>" q params body scope cl b a c)) :
  ∃ k,(k=Keeper.frame∨k=Keeper.machine∨k=Keeper.boundFrame)/\Looks M h (keeperOf (.ref f)) k:=by
 obtain⟨q,e,d,sc,cl,b,a,c,g⟩:=P;exact⟨.frame,.inl rfl,(Looks.ld (part:=none) g).andThen .now⟩
theorem CA (hr:Hg (k+1) X.A)(hf:SE X W (.Name y p) ff)(ha:SE X W e fe)(CS:Jc scope x n)(ok:Ax X k q scope x n body gk)
  (hb:∀ cl t B o u,bindArgs (kla_fn "<lambda>" q params body scope cl t (.ref B) o) ⟨[u],[]⟩=pure [(x,u)])
  (i:starEach [e] X.env=(false,eval e X.env)::starEach [] X.env:=by rfl) :
  SE X W (.Call (.Name y p) [e] [] pos) (um (.Lambda params body scope lp) q n gk ff fe):=by
 intro b s E H Q I h;refine wpAny_Call_Name_kw (Hb (hf b s E H _ I (tG.G1 h)) λu s1 hq=>?_);obtain⟨v,V,I1,rv,d,G⟩:=hq;cases d with
 |loc l =>
  have hv:∃ f,v = .ref f:=by obtain⟨J,j,S,r,F,c,m,_⟩:=G;obtain⟨a,e1,_⟩:=At.G7.mp m.GY.1;exact⟨a,e1⟩
  obtain⟨f,rfl⟩:=hv;obtain rfl:u=Value.ref f:=rv;have h3:=tG.G1 (k:=λa j K=>vH (.Lambda params body scope lp) q n gk l a K) G;refine callWith_of (P:=λh => ∃ (q:Str) (params:Arguments) (body:Expr) (scope:Scope) (cl:List (Str×Addr)) (t:Value) (B:Addr) (o:Value),h.get? f=some (kla_obj "<lambda>" q params body scope cl t B o)) (by rw[i];rfl) xT ?_;rw[i];refine Calls.evalArgs_plain ?_;have L:=b_ ha HB i pos b s1 E V (λO D => ∃ g,O=[g]/\∃ a,tG X W (RD X) [a,.loc l] [g,.ref f] (λj K=>vH (.Lambda params body scope lp) q n gk l a K) E D Q) I1 (h3.mono λg D ⟨a,ht⟩=>⟨g,rfl,a,ht⟩);rw[i] at L;refine Hb L λus s2 Ra=>?_;obtain⟨O,D,N,r2,g,rfl,a,J,j,S,r,F,c,m,R,z⟩:=Ra;obtain⟨u2,rfl,WO⟩:=vals1 r2;obtain⟨ma,m2⟩:=m.GY;obtain⟨f2,e2,Z⟩:=At.G7.mp m2.GY.1;cases e2;have eq:vH (.Lambda params body scope lp) q n gk l a S=some (r,F):=R;clear R;unfold vH at eq;cases hS:S[l]? with
  |none=>rw[hS] at eq;cases eq
  |some mo =>
   rw[hS] at eq;cases mo with
   |K5 Qx q' n' dc =>
    simp only at eq;split at eq
    ·rename_i hc;obtain⟨rfl,rfl,rfl,Y,ta⟩:=hc;split at eq
     ·rename_i yy eg;split at eq
      ·rename_i ty;cases eq;obtain⟨X9,X_,Ya,Yb,cc,B,t,o,oc,uc,vc,el,C,rc,ac⟩:=c.Hi.at_ l f _ Z hS;cases el;refine⟨⟨_,_,_,_,_,_,_,_,(N.Ha f _ C.fn).1⟩,?_⟩;show wpAny _ X.A (PySem.call (.ref f) [u2]) _ _ s2;refine wpAny_mono (Ac N hr CS C rc ac Y (hb _ _ _ _ _) ok c.Hi ma ta WO eg ty) (λw s3 S_=>?_) λ_ _ hF=>hF.elim;obtain⟨M,U,I3,WQ,T,m3⟩:=S_;exact⟨M,U,I3,WQ,z J U M (Ex.same T) (c.Hi.same T) m3⟩
      cases eq
     cases eq
    cases eq
   |_=>cases eq
 |_ =>
  obtain⟨J,j,S,r,F,c,m,eq,_⟩:=G;cases eq
end
def dg (S:GO):Bool:=S.all λo=>match o with
 | .K5 _ _ _ _=>false
 |_=>true
noncomputable def hU (z q:Str) (c:Expr) (n:Str) (F:GN) (o:Option (Option D)) (a b:D) (S:GO):Out D:=match o with
 |some (some dc)=>(match F [a,b,.loc S.length] (S++[.K5 c q n dc]) with
  |some (.ok y,S3) => @ite _ (di z q S=true/\dg S=true/\tO y=true/\S3.take S.length=S) (Classical.propDecidable _) (GW y S) none
  |_=>none)
 |_=>none
noncomputable def mw (z q:Str) (c:Expr) (n:Str) (i:Nat) (F:GN) (e g:GH D):GH D:=λd S=>ah (e d S) λa f=>ah (g d f) λb h=>hU z q c n F (d[i]?) a b h
theorem vL {z q:Str}{c:Expr}{n:Str}{F:GN}{o:Option (Option D)}{a b:D}{S g:GO}{r:Except Str D}(h:hU z q c n F o a b S=some (r,g)) :
  ∃ f y d,o=some (some f)/\F [a,b,.loc S.length] (S++[.K5 c q n f])=some (.ok y,d)/\di z q S=true/\dg S=true/\tO y=true/\d.take S.length=S/\r = .ok y/\g=S:=by
 unfold hU at h;split at h
 ·rename_i f;split at h
  ·rename_i y d e;split at h
   ·rename_i hc;cases h;exact⟨f,y,d,rfl,e,hc.1,hc.2.1,hc.2.2.1,hc.2.2.2,rfl,rfl⟩
   cases h
  cases h
 cases h
section
variable {K:GI}{H:Hp}{J:List Addr}{c:Addr}{oc:Obj}
structure Jd (H:Hp) (c:Addr):Prop where
 st:∀ us,H c≠some (DS c us)
 tu:∀ o,DQ o->H c≠some o
 li:∀ xs,H c≠some (.lst xs)/\∀ ob,H c≠some (.LC ob (.lst xs))
 cd:∀ q,H c≠some (jj c q)
theorem Jd.of {P:Program}{w:World}{h:Heap}{u:Option Value}(ok:Iq P w H h)(hc:H c=some (d6 c oc))(dt:oc.data = .cell u):Jd H c:=by
 have g:h.get? c=some oc:=(ok c _ hc).1;refine⟨λk e=>?_,λo t e=>?_,λf=>⟨λe=>?_,λi e=>?_⟩,λq e=>?_⟩
 ·obtain⟨⟨o,es,ep,t,a,_,d,_⟩,_⟩:=ok c _ e;rw[g] at a;cases a;rw[dt] at d;cases d
 ·rw[hc] at e;cases e;obtain⟨f,z⟩:=t;rcases z with z |⟨_,z⟩<;>cases z
 ·rw[hc] at e;cases e
 ·rw[hc] at e;cases e
 obtain⟨⟨o,j,t,a,b,_⟩,_⟩:=ok c _ e;rw[g] at a;cases a;rw[dt] at b;cases b
theorem eZ {a:Addr}{o:HO}(z:H a=some o)(n:a=c->False):cy H c a=some o:=by rw[cD n];exact z
theorem TQ.let {a:Addr}{b:List V}(d:Jd H c)(h:TQ K H J a b):TQ K (cy H c) J a b:=by
 rcases h with ⟨z |⟨f,z⟩,n,l⟩ |h
 ·exact .inl ⟨.inl (eZ z (λe=>by subst e;exact d.tu _ ⟨b,.inl rfl⟩ z)),n,l⟩
 ·exact .inl ⟨.inr ⟨f,eZ z (λe=>by subst e;exact d.tu _ ⟨b,.inr ⟨f,rfl⟩⟩ z)⟩,n,l⟩
 exact .inr h
theorem LQ.let {a:Addr}{b:List V}(d:Jd H c)(h:LQ K H J a b):LQ K (cy H c) J a b:=by
 rcases h with ⟨z |⟨f,z⟩,n,l⟩ |h
 ·exact .inl ⟨.inl (eZ z (λe=>by subst e;exact(d.li b).1 z)),n,l⟩
 ·exact .inl ⟨.inr ⟨f,eZ z (λe=>by subst e;exact(d.li b).2 f z)⟩,n,l⟩
 exact .inr h
mutual
theorem At.let (b:Jd H c):∀ {d:D}{v:V},At K H J d v->At K (cy H c) J d v
 | .Hu,_,h=>by rw[At.HG] at h ⊢;exact h
 | .bl _,_,h=>by rw[At.G_] at h ⊢;exact h
 | .int _,_,h=>by rw[At.GQ] at h ⊢;exact h
 | .str _,_,h=>by rw[At.G2] at h ⊢;exact h
 | .tup i,_,h=>by obtain⟨a,f,e,q,r⟩:=At.G3.mp h;exact At.G3.mpr ⟨a,f,e,TQ.let b q,GU.let b r⟩
 | .lst i,_,h=>by obtain⟨a,f,e,q,r⟩:=At.G8.mp h;exact At.G8.mpr ⟨a,f,e,LQ.let b q,GU.let b r⟩
 | .set i,_,h=>by
  obtain⟨a,g,f,e,q,n,z,r⟩:=At.Ja.mp h;exact At.Ja.mpr ⟨a,g,f,e,eZ q (λe=>by subst e;exact b.st g q),n,z,GU.let b r⟩
 | .loc _,_,h=>by rw[At.G7] at h ⊢;exact h
 | .fn _ _,_,h=>by rw[At.Mu] at h ⊢;exact h
theorem GU.let (a:Jd H c):∀ {ds:List D}{vs:List V},GU K H J ds vs->GU K (cy H c) J ds vs
 |[],_,h=>by rw[GU.G0] at h ⊢;exact h
 |d::ds,_,h=>by obtain⟨v,r,e,p,q⟩:=GU.GS.mp h;exact GU.GS.mpr ⟨v,r,e,At.let a p,GU.let a q⟩
end
theorem K6.let {o:MO}{a:Addr}(b:Jd H c)(ne:a≠c)(nc:dg [o]=true)(h:K6 K H J o a):K6 K (cy H c) J o a:=by
 have k:cy H c a=H a:=cD ne;cases o with
 |dict f=>obtain⟨d,q,r⟩:=h;exact⟨d,k.trans q,Paired.JJ r λp q z=>⟨⟨z.1.1,At.let b z.1.2⟩,At.let b z.2⟩⟩
 |lst y=>obtain⟨w,q,r⟩:=h;exact⟨w,k.trans q,GU.let b r⟩
 |exc _=>obtain⟨C,q,r⟩:=h;exact⟨C,q,k.trans r⟩
 |GZ f=>obtain⟨d,q,r⟩:=h;exact⟨d,k.trans q,Paired.JJ r λp q z=>⟨⟨z.1.1,At.let b z.1.2⟩,At.let b z.2⟩⟩
 |ins _ fs=>obtain⟨C,s,j,n,q,r⟩:=h;exact⟨C,s,j,n,k.trans q,Paired.JJ r λp q z=>⟨z.1,At.let b z.2⟩⟩
 |K5 _ _ _ _=>cases nc
 |tab x q =>
  obtain⟨l,d,n,m,t,u⟩:=h;refine⟨l,d,n,k.trans m,t,λpos i e=>?_⟩;obtain⟨v,z1,z2,g⟩:=u pos i e;exact⟨v,z1,z2,eZ g (λe=>by subst e;exact b.cd q g)⟩
end
section
variable {X:Cx}{W:WT}{g n z q:Str}{p pos lp:Pos}{e1 e2:Expr}{f1 f2:GH D}{params:Arguments}{body:Expr}{scope:Scope}{k i:Nat}{ps:List Str}{F:GN}{c0 P:Addr}
structure Qy (X:Cx) (σ:St) (q n:Str) (params:Arguments) (body:Expr) (scope:Scope) (lp:Pos) (i:Nat) (F:GN) (Q:V->Hp->Prop) (v1 v2:V) (f c c':Addr) (pm Hy:Value) (a b dc y:D) (J:List Addr) (ρ:GP) (S S3:GO) (H0 H2:Hp):Prop where
 cf:Cf X J ρ S σ H0
 a1:At X.K H0 J a v1
 a2:At X.K H0 J b v2
 ri : ρ[i]?=some (some dc)
 eF:F [a,b,.loc S.length] (S++[.K5 (.Lambda params body scope lp) q n dc])=some (.ok y,S3)
 nc:dg S=true
 ty:tO y=true
 tk:S3.take S.length=S
 ex:Ex J H0 J H2
 so:G4 X.K J S H2
 nf:H2 f=none
 cj:c'∉J
 cd:H2 c'=some (jj c' q)
 ce:X.env.cells.lookup n=some c
 fin:∀ J' H' v,Ex J H0 J' H'->G4 X.K J' S H'->At X.K H' J' y v->Q v H'
theorem AV {H:GK}{σ:St}{s:Shared}{gf f c j:Addr}{fd:FuncData}{Q:V->Hp->Prop}{U v2:V}{R P:Value}{B t:Value}{a b dc y:D}{J:List Addr}{ρ:GP}{S S3:GO}{H0 g:Hp}
  (G:My X.prog X.w X.K X.mg X.base k gf fd ps F) (hr:Hg k X.A) (hb:Binds X.K fd ps []) (M:Qy X σ q n params body scope lp i F Q U v2 f c j B t a b dc y J ρ S S3 H0 g)
  (I:Inv X H σ (upd g f (d6 f (kla_obj "<lambda>" q params body scope [(n,c)] B j t))) s) (r1:RelV U R) (r2:RelV v2 P) (hN:X.N[i]?=some n) (MJ:X.env.kindOf n=some .cell) (Ng:X.fn n=true) :
  wpAny (model X.prog X.w) X.A (PySem.call (.ref gf) [R,P,.ref f]) (EP X H σ Q) X.xe s:=by
 obtain⟨vc,es,ac⟩:=M.cf.env i dc M.ri;obtain⟨ml,_,hl⟩:=I.loc;obtain⟨uc,rc,lk⟩:=hl i n vc hN es (.inr (.inl MJ))
 have cell:s.heap.IsCell c (some uc):=by
  rcases lk with ⟨kl,_⟩ |⟨_,c2,e2,z⟩
  ·rw[MJ] at kl;cases kl
  rw[M.ce] at e2;cases e2;exact z
 obtain⟨p,gc,dt⟩:=cell;have sc:X.s₀.heap.objs.size<=c:=I.ok.O3 n c Ng M.ce;have L:upd g f (d6 f (kla_obj "<lambda>" q params body scope [(n,c)] B j t)) c=none:=I.Ih n c M.ce;have cf:c≠f:=λe=>by rw[e,GV] at L;cases L
 have Rk:g c=none:=by rw[aA cf] at L;exact L
 have cJ:c∉J:=M.so.fresh Rk;have old:∀ b o,X.s₀.heap.get? b=some o->b≠c:=λb o e=>ne_of_lt (lt_of_lt_of_le (Heap.lt_size e) sc)
 have Ri:c∉Lk X.stack:=λhz=>by
  rcases mem_cons.mp (I.JX c hz) with e |e
  ·exact I.NG n c M.ce e
  obtain⟨_,o,ho,_⟩:=I.ok.Jo.mem e;exact old c o ho rfl
 have Qz:G5 g (upd g c (d6 c p)):=aP Rk _;have Ta:upd g c (d6 c p) f=none:=by rw[aA (Ne.symm cf)];exact M.nf
 have W:j≠f:=λe=>by have:=M.cd;rw[e,M.nf] at this;cases this
 have WR:j≠c:=λe=>by have:=M.cd;rw[e,Rk] at this;cases this
 have x1:Ex J H0 J (upd g c (d6 c p)):=M.ex.trans (Ex.same Qz)
 have LM:∀ b,b∉J->b≠f->b∉J++[f]:=λb n1 n2 Y=>by
  rcases mem_append.mp Y with h |h
  ·exact n1 h
  exact n2 (mem_singleton.mp h)
 obtain⟨WS,xp⟩:=G4.push (o:=d6 f (kla_obj "<lambda>" q params body scope [(n,c)] B j t)) (mo:=.K5 (.Lambda params body scope lp) q n dc) (M.so.same Qz) Ta
  ⟨params,body,scope,lp,c,j,B,t,p,uc,vc,rfl,⟨GV,LM j M.cj W,by rw[aA W,aA WR];exact M.cd,LM c cJ cf,by rw[aA cf,GV],dt⟩,rc,ac.ex (x1.trans ⟨⟨[f],rfl⟩,λb o e m=>⟨by rw[aA (λd=>by rw[d,Ta] at e;cases e)];exact e,LM b m (λd=>by rw[d,Ta] at e;cases e)⟩⟩)⟩
 have x2:=x1.trans xp
 have x:∀ b,b≠c->upd (upd g c (d6 c p)) f (d6 f (kla_obj "<lambda>" q params body scope [(n,c)] B j t)) b=upd g f (d6 f (kla_obj "<lambda>" q params body scope [(n,c)] B j t)) b:=λb m=>by
  by_cases y:b=f
  ·rw[y,GV,GV]
  rw[aA y,aA y,aA m]
 have QA:upd (upd g c (d6 c p)) f (d6 f (kla_obj "<lambda>" q params body scope [(n,c)] B j t)) c=some (d6 c p):=by rw[aA cf,GV]
 have Yc:=(I.Ha f _ GV).1;generalize kla_obj "<lambda>" q params body scope [(n,c)] B j t=fo at *
 generalize Yd:upd g f (d6 f fo)=H3 at *
 generalize upd (upd g c (d6 c p)) f (d6 f fo)=Hp at *
 have e0:K1 X.prog X.w X.K X.mg X.base X.A X.stack s Hp:=by
  refine⟨I.ok.frames,I.ok.mod,λb o e=>⟨(I.bs b o e).1,?_⟩,Nat.le_trans I.ok.Mp I.sz,I.stack,λb hb=>?_,λa2 o2 e=>?_,I.bare⟩
  ·rw[x b (old b o (I.ok.bs b o e).1)];exact(I.bs b o e).2
  ·rw[x b (λd=>Ri (d▸hb))];exact I.IX b hb
  by_cases d:a2=c
  ·rw[d,QA] at e;cases e;refine⟨gc,⟨p,by rw[d];exact gc⟩,λh1 h3 y1 kk=>?_⟩;rw[d] at kk;exact kk _ y1
  rw[x a2 d] at e;exact(I.Ha a2 o2 e).Ir (λb u _ eb=>eb) (λb hb=>by rw[x b (λy=>by rw[y,L] at hb;cases hb)];exact hb) λb xs hb=>by rw[x b (λy=>by rw[y,L] at hb;cases hb)];exact hb
 have len:J.length=S.length:=M.so.len
 have sp:P6 X.K F [U,v2,.ref f] Hp (λv E => ∃ C,Ex (J++[f]) Hp C E/\G4 X.K C S3 E/\At X.K E C y v) E0:=
  ⟨J++[f],S++[.K5 (.Lambda params body scope lp) q n dc],[a,b,.loc S.length],y,S3,.cons (M.a1.ex x2) (.cons (M.a2.ex x2) (.cons (At.G7.mpr ⟨f,rfl,by rw[getElem?_append_right (by omega),len];simp⟩) .nil)),WS,M.eF,λC E v T s' m'=>⟨C,T,s',m'⟩⟩
 have hl:([R,P,.ref f]++([]:List Value)).length=ps.length:=(G.len _ _ _ _ sp:([U,v2,V.ref f]:List V).length=ps.length);refine wpAny_call (codeAny_mono (G.run X.A X.stack s Hp ⟨[R,P,.ref f],[]⟩ ([R,P,.ref f]++[]) [U,v2,.ref f] _ E0 hr e0 (hb s [R,P,.ref f] I.Kj hl) (.cons r1 (.cons r2 (.cons rfl .nil))) sp) λr s' Z=>?_);cases r with
 |error e=>exact False.elim Z
 |ok fl =>
  cases fl with
  |next=>exact False.elim Z
  |brk=>exact False.elim Z
  |cont=>exact False.elim Z
  |ret w =>
   obtain⟨v,E,os,bare,un,ON,rv,C,T,Tb,m'⟩:=Z;have WU:=LM c cJ cf;have LD:=T.keep c _ QA WU;have Rj:s'.heap.get? c=some p:=(ON c _ LD.1).1;have al:Jd E c:=Jd.of ON LD.1 dt
   have MK:∀ b o,H3 b=some o->Hp b=some o/\b≠c:=λb o e=>by
    have m:b≠c:=λd=>by rw[d,L] at e;cases e
    exact⟨by rw[x b m];exact e,m⟩
   have ce:CE X.stack X.prog X.w H3 s Q w s':=by
    refine⟨v,cy E c,os,bare,⟨λb o e n hb hx=>?_,λb o e n hb hx=>?_,λb o e n hx=>?_,un.there,λb xs e=>?_,λb o u e=>?_,λb ps e=>?_⟩,ON.drop LD.1 λ_ _ e=>e,rv,M.fin J (cy E c) v ?_ ?_ ?_⟩
    ·by_cases d:b=c
     ·rw[d] at e ⊢;rw[gc] at e;cases e;exact Rj
     exact un.keep b o e (by rw[x b d];exact n) hb hx
    ·exact un.slot b o e (by rw[x b (λd=>Ri (d▸hb))];exact n) hb hx
    ·by_cases d:b=c
     ·rw[d];exact gG
     rw[cD d];exact un.free b o e (by rw[x b d];exact n) hx
    ·have q:=MK b _ e;rw[cD q.2];exact un.JW b xs q.1
    ·have q:=MK b _ e;rw[cD q.2];exact un.JK b o u q.1
    ·have q:=MK b _ e;rw[cD q.2];exact un.JL b ps q.1
    ·refine⟨prefix_refl _,λb o e m=>?_⟩;have q1:=x2.keep b o e m;have q2:=T.keep b o q1.1 q1.2;exact⟨by rw[cD (λd=>by rw[d] at e;have:=(M.ex.keep c o e cJ).1;rw[Rk] at this;cases this)];exact q2.1,m⟩
    ·have pre:J <+: C:=(List.prefix_append J [f]).trans T.pre;refine⟨M.so.len,M.so.nd,λl a3 O g1 g2=>?_⟩
     have IQ:S3[l]?=some O:=by
      have hl:l<S.length:=(List.getElem?_eq_some_iff.mp g2).1;have:(S3.take S.length)[l]?=some O:=by rw[M.tk];exact g2
      rwa [List.getElem?_take_of_lt hl] at this
     have new:=Tb.at_ l a3 O (qN pre g1) IQ;have back:=K6.back pre (M.so.at_ l a3 O g1 g2) new;refine K6.let al (λd=>cJ (d▸mem_of_getElem? g1)) ?_ back;have Y:O∈S:=mem_of_getElem? g2;have:=all_eq_true.mp M.nc O Y;unfold dg;rw[all_cons,this];rfl
    have pre:J <+: C:=(List.prefix_append J [f]).trans T.pre;refine m'.mv (λb o tr e m=>⟨?_,λY=>m (pre.subset Y)⟩) M.ty;rw[cD (λd=>by rw[d] at e;exact al.tu o tr e)];exact e
   exact I.after ce
theorem wM {env:Env}{n:Str}{c:Addr}(f:env.cells.lookup n=some c):∀ (names:List (Str×NameKind)) (a:List (Str×Addr)),(names.map (·.1)).Nodup->(∀ y∈names,y.2 = .free->y.1=n) ->
  (forIn names a λ(x:Str×NameKind) r=>(do
    let (name,kind):=x
    if kind==.free then pure (ForInStep.yield ((name,← cellOf env name)::r)) else pure (ForInStep.yield r):Sem (ForInStep (List (Str×Addr)))))=pure ((if (n,NameKind.free)∈names then [(n,c)] else [])++a)
 |[],a,_,_=>by simp
 |(m,k)::r,a,nd,one=>by
  obtain⟨n1,n2⟩:=nodup_cons.mp nd;have d:=λa=>wM f r a n2 λy j=>one y (mem_cons_of_mem _ j);rw[forIn_cons];by_cases b:k = .free
  ·subst b;have e:m=n:=one (m,.free) (mem_cons_self ..) rfl;subst e;have i:cellOf env m=pure c:=by unfold cellOf;rw[f]
   have g:(m,NameKind.free)∉r:=λh=>n1 (mem_map.mpr ⟨_,h,rfl⟩);simp only[beq_self_eq_true,if_true,i,pure_bind];rw[d,if_neg g,if_pos (mem_cons_self ..)];rfl
  have:(k==NameKind.free)=false:=by simpa using b
  simp only[this,false_eq_true,if_false,pure_bind];rw[d];have e:((n,NameKind.free)∈(m,k)::r)↔(n,NameKind.free)∈r:=by rw[mem_cons];exact⟨λh=>h.elim (λz=>by cases z;exact absurd rfl b) id,.inr⟩
  simp only[e]
theorem C9 {t:TA}(R:X.env.kindOf n=some .cell)(hex:X.ex=[])(nd:(scope.names.map (·.1)).Nodup)(one:∀ y∈scope.names,y.2 = .free->y.1=n)(M:(n,NameKind.free)∈scope.names)(D:X.env.code = .ref c0)(x:tabIn X.K z=some (c0,P))(T:codeHdIn X.K c0 P=true)(bm:BmB X.base X.mg)(hq:X.env.qual++"<lambda>"=q)(Lu:defaultsOf params X.env=([],[]))
  (hs:starEach [.Lambda params body scope lp] X.env=(false,eval (.Lambda params body scope lp) X.env)::starEach [] X.env)
  (h:∀ j H Q,t j H Q->∃ J S,G4 X.K J S H/\di z q S=true/\∀ f c d k p b,Ex J H J b->G4 X.K J S b->b f=none->d∉J->b d=some (jj d q)->X.env.cells.lookup n=some c->Q [.ref f] (upd b f (d6 f (kla_obj "<lambda>" q params body scope [(n,c)] k d p)))) :
  PA X [.Lambda params body scope lp] t:=by
 intro pos i s j H Q I G;obtain⟨J,S,so,W,fin⟩:=h j H Q G;obtain⟨c,A⟩:=I.ok.has n (.inl R);have M7:closureFor scope X.env=pure [(n,c)]:=by have e:=wM A scope.names [] nd one;rw[if_pos M] at e;unfold closureFor;exact(congrArg (λ(m:Sem (List (Str×Addr)))=>m >>= λr=>(pure r:Sem (List (Str×Addr)))) e).trans rfl
 obtain⟨l,u⟩:=yG W;obtain⟨a,w⟩:∃ a,J[l]?=some a:=⟨_,getElem?_eq_getElem (by rw[so.len];exact(List.getElem?_eq_some_iff.mp u).1)⟩;obtain⟨c1,Ye,B,_⟩:=so.at_ l a _ w u;rw[x] at B;cases B;rw[hs];show wpAny _ _ (spliced ((false,eval (.Lambda params body scope lp) X.env)::backTo pos (starEach [] X.env))) _ _ s;refine Calls.spliced_cons (xS M7 I so w u D x T bm hq Lu λf d k p b Y I2 x2 F gf g Mt Z=>?_)
 have O:=I2.OC (o:=d6 f (kla_obj "<lambda>" q params body scope [(n,c)] k d p)) g.1 (by
  rcases g.2.2.2.1 with y |y
  ·rw[hex] at y;cases y
  exact Heap.get?_none_of_le y) g.2.1 g.2.2.2.2.1 g.2.2.2.2.2 ⟨gf,⟨_,gf⟩,λh1 h3 y1 kk=>kk _ y1⟩
 exact Hb (HB pos i Y j _ (λv C=>Q (.ref f::v) C) O (fin f c d k p b x2 F g.1 Z Mt A)) λus s3 N=>by obtain⟨v,L,U,V,E⟩:=N;exact⟨.ref f::v,L,U,.cons rfl V,E⟩
theorem xk (C:Io X.prog X.w X.K X.mg X.base k g ps F)(hr:Hg k X.A)(Tc:SE X W e1 f1)(Td:SE X W e2 f2)(hN:X.N[i]?=some n)(Y:X.env.kindOf n=some .cell)(Ng:X.fn n=true)(hex:X.ex=[])(nd:(scope.names.map (·.1)).Nodup)(one:∀ y∈scope.names,y.2 = .free->y.1=n)(QB:(n,NameKind.free)∈scope.names)
  (hq:X.env.qual++"<lambda>"=q) (Lu:defaultsOf params X.env=([],[])) (JC:X.env.code = .ref c0) (ht:tabIn X.K z=some (c0,P)) (Kr:codeHdIn X.K c0 P=true) (bm:BmB X.base X.mg) (hg:Gl X g:=by rfl) (J4:(g==("__debug__":Str))=false:=by decide)
  (Z:starEach [e1,e2,.Lambda params body scope lp] X.env=(false,eval e1 X.env)::starEach [e2,.Lambda params body scope lp] X.env:=by rfl) (NJ:starEach [e2,.Lambda params body scope lp] X.env=(false,eval e2 X.env)::starEach [.Lambda params body scope lp] X.env:=by rfl)
  (Oi:starEach [.Lambda params body scope lp] X.env=(false,eval (.Lambda params body scope lp) X.env)::starEach [] X.env:=by rfl) (HE:(backTo pos (starEach [e2,.Lambda params body scope lp] X.env)).any (·.1)=false:=by rfl) :
  SE X W (.Call (.Name g p) [e1,e2,.Lambda params body scope lp] [] pos) (mw z q (.Lambda params body scope lp) n i F f1 f2):=by
 intro B s T H Q I h;obtain⟨gf,fd,G,hm,hk,hb⟩:=C;refine wpAny_Call_Name_kw (qT I hg hm ?_ J4)
 have pa:=b_ Tc (b_ Td (C9 (t:=λT H R => ∃ J S,G4 X.K J S H/\di z q S=true/\∀ f c e o j d,Ex J H J d->G4 X.K J S d->d f=none->e∉J->d e=some (jj e q)->X.env.cells.lookup n=some c->R [.ref f] (upd d f (d6 f (kla_obj "<lambda>" q params body scope [(n,c)] o e j)))) Y hex nd one QB JC ht Kr bm hq Lu Oi λ_ _ _ x=>x) NJ) Z pos B s T H
  (λvs O => ∃ v D f c e o j a b E y J u S L V d,vs=[v,D,.ref f]/\O=upd d f (d6 f (kla_obj "<lambda>" q params body scope [(n,c)] o e j))/\Qy X T q n params body scope lp i F Q v D f c e o j a b E y J u S L V d) I
  ((tG.G1 h).mono λv H1 ⟨a,h1⟩=>(tG.G1 (k:=λb u S2=>hU z q (.Lambda params body scope lp) n F (u[i]?) a b S2) h1).mono λD d Zq=>by
   obtain⟨b,h2⟩:=Zq
   obtain⟨J,u,S,r,S',cf,m,eq,zz⟩:=h2;obtain⟨E,y,L,ri,eF,hT,nc,ty,tk,rfl,rfl⟩:=vL eq;obtain⟨mb,m2⟩:=m.GY
   exact⟨J,_,cf.Hi,hT,λf c e o j O x3 Tb nf cj hc ce=>⟨v,D,f,c,e,o,j,a,b,E,y,J,u,_,L,d,O,rfl,rfl,⟨cf,m2.GY.1,mb,ri,eF,nc,ty,tk,x3,Tb,nf,cj,hc,ce,zz⟩⟩⟩)
 refine PySem.W.callWith_K (h₀:=X.base) I.ok.mod.LW hk (Hb pa λus s1 WW=>?_) Z HE;obtain⟨vs,O,U,l,v,D,f,c,e,o,j,a,b,E,y,J,u,S,L,V,d,rfl,rfl,M⟩:=WW;refine⟨U.Kj,?_⟩;cases l with
 |cons r1 l=>cases l with
  |cons r2 l=>cases l with
   |cons rf l =>
    cases l;cases rf;exact AV G hr hb M U r1 r2 hN Y Ng
def jX (st:Stmt):Expr:=match bG st with
 |[.Return (some (.Call _ [_,_,l] _ _)) _]=>l
 |_ => .Constant .none 0 ⟨0,0,0,0⟩
def Dm:Expr->Arguments
 | .Lambda a _ _ _=>a
 |_=>du (.Pass ⟨0,0,0,0⟩)
def Bz:Expr->Expr
 | .Lambda _ b _ _=>b
 |e=>e
def zL:Expr->Scope
 | .Lambda _ _ s _=>s
 |_=>aB (.Pass ⟨0,0,0,0⟩)
theorem AT {y x:Str}{e l:Expr}{ff fe a:GH D}(b:l = .Lambda (Dm l) (Bz l) (zL l) lp)(hr:Hg (k+1) X.A)(d:SE X W (.Name y p) ff)(i:SE X W e fe)(c:Jc (zL l) x n)(ok:Ax X k q (zL l) x n (Bz l) a)
  (hb:∀ cl g j m u,bindArgs (kla_fn "<lambda>" q (Dm l) (Bz l) (zL l) cl g (.ref j) m) ⟨[u],[]⟩=pure [(x,u)])
  (f:starEach [e] X.env=(false,eval e X.env)::starEach [] X.env:=by rfl):SE X W (.Call (.Name y p) [e] [] pos) (um l q n a ff fe):=by
 have h:=CA (params:=Dm l) (body:=Bz l) (scope:=zL l) (lp:=lp) (pos:=pos) hr d i c ok hb f;rwa [← b] at h
theorem uZ {l:Expr}(a:l = .Lambda params body scope lp)(C:Io X.prog X.w X.K X.mg X.base k g ps F)(hr:Hg k X.A)(f:SE X W e1 f1)(u:SE X W e2 f2)(D:X.N[i]?=some n)(m:X.env.kindOf n=some .cell)(t:X.fn n=true)(hex:X.ex=[])(nd:(scope.names.map (·.1)).Nodup)(one:∀ y∈scope.names,y.2 = .free->y.1=n)(j:(n,NameKind.free)∈scope.names)
  (x:X.env.qual++"<lambda>"=q) (v:defaultsOf params X.env=([],[])) (d:X.env.code = .ref c0) (e:tabIn X.K z=some (c0,P)) (o:codeHdIn X.K c0 P=true) (bm:BmB X.base X.mg) (s:Gl X g:=by rfl) (r:(g==("__debug__":Str))=false:=by decide)
  (b:starEach [e1,e2,.Lambda params body scope lp] X.env=(false,eval e1 X.env)::starEach [e2,.Lambda params body scope lp] X.env:=by rfl) (B:starEach [e2,.Lambda params body scope lp] X.env=(false,eval e2 X.env)::starEach [.Lambda params body scope lp] X.env:=by rfl)
  (c:starEach [.Lambda params body scope lp] X.env=(false,eval (.Lambda params body scope lp) X.env)::starEach [] X.env:=by rfl) (h:(backTo pos (starEach [e2,.Lambda params body scope lp] X.env)).any (·.1)=false:=by rfl) :
  SE X W (.Call (.Name g p) [e1,e2,.Lambda params body scope lp] [] pos) (mw z q l n i F f1 f2):=by
 subst a;exact xk C hr f u D m t hex nd one j x v d e o bm s r b B c h
end
section
variable {X:Cx}{W:WT}
theorem uO (l:Addr)(items:Array Value)(n:Nat)(a:Option Addr)(c:Array (Option Value))(t:Tok)(e:items.isEmpty=false) :
  Meets (Builtin.«tuple.__mul__» ⟨[.ref l,.int 0 t],[]⟩) (λ_ R s=>s.heap.get? l=some { cls:=.type "tuple",dict:=a,data:=.seq items n,slots:=c }/\R (.ok (.ret (Value.ref s.heap.objs.size))) { s with heap:=s.heap.push { cls:=Value.type "tuple",data:=Data.seq #[] },toks:=s.toks }):=
 .of_wp λprog w A R s h=>by
  obtain⟨f,g,d,tk,os⟩:=s;obtain⟨b,h⟩:=h;have i:=AutoSeq1.idx_int
  wp_walk using AutoSeq1.wpAny_loadPart' b
  exact⟨_,rfl,h⟩
def pF:D->D->Option D
 | .tup (x::xs),.int n=>if n=0 then some (.tup []) else sS (.tup (x::xs)) (.int n)
 |a,b=>sS a b
theorem Bj:Kk X (binaryOp .Mult) pF:=by
 intro f s B H x y v u Q I l j h;obtain⟨J,N,R,d,i,k,p,e,q⟩:=h;unfold pF at e;split at e
 ·rename_i O S n;split at e
  ·rename_i c;subst c;cases e;obtain⟨a,P,rfl,G,m⟩:=At.G3.mp k;cases At.GQ.mp p;cases l;obtain⟨t',rfl⟩:=j;obtain⟨its,r,⟨⟨cls,w,data,A⟩,g,hc,t,hd⟩,M⟩:=I.tuple G.sq;simp only at hc hd;subst hc hd;have K:=m.length;have C:=r.length;rw[length_cons] at K
   have E:its.toArray.isEmpty=false:=by
    cases its with
    |nil=>rw[List.length_nil] at C;omega
    |cons _ _=>rfl
   have z:([]:List V).length<=sizeLine:=zero_le _
   refine wpAny_binaryOp_repeat_ref (T:="tuple") (U:="int") (by decide) ⟨_,g,rfl⟩ (λD=>typeIs_int D 0 t') dJ F.fills_int_mul F.slot_int_rmul gN F.slot_int_index.lookup
    (call_meets F.slot_int_rmul (typeIs_int s 0 t') F.entry_int_rmul (F.args_int_rmul_2 _ _) (fF 0 t' a its.toArray t w A)
     ⟨g,rfl,⟨_,g,rfl⟩,call_meets F.slot_tuple_mul ⟨_,g,rfl⟩ F.entry_tuple_mul (F.args_tuple_mul_2 _ _) (uO a its.toArray t w A t' E) ⟨g,?_⟩⟩)
   exact⟨.ref s.heap.objs.size,_,I.laid (t':=s.toks) (o:=.tup []) (λb L q=>Heap.get?_push_of_some _ q) (le_refl _) ⟨z,[],.nil,JV.new _ _⟩,rfl,q _ _ (aP I.fresh _) (At.Iy .nil I.fresh i z)⟩
  exact wt f s B H x y v u Q I l j ⟨J,_,_,d,i,k,p,e,q⟩
 exact wt f s B H x y v u Q I l j ⟨J,_,_,d,i,k,p,e,q⟩
end
end L2
namespace L2
open PySem PyProof.Rows
section
variable (f g:GH D) (ρ:GP) (S:GO) (i:Nat) (k:Bool)
@[simp] theorem EV (d:D):aC d ρ S=GW d S:=rfl
@[simp] theorem Gu (a:D->D->Option D):aJ a f g ρ S=ah (f ρ S) λx b=>ah (g ρ b) λy S2=>aM (a x y) S2:=rfl
@[simp] theorem Gy (a:D->Option D):L4 a f ρ S=ah (f ρ S) λx b=>aM (a x) b:=rfl
@[simp] theorem EO:aT f ρ S=ah (f ρ S) λx a=>aM (KO x) a:=rfl
@[simp] theorem Fk (a b:D->D->Option D)(h:GH D):k9 a b f g h ρ S=ah (f ρ S) λx d=>ah (g ρ d) λy S2=>ah (aM ((a x y).bind KO) S2) λk c=>if k=true then ah (h ρ c) λz e=>aM (b y z) e else GW (.bl false) c:=rfl
@[simp] theorem F5 (a b:GH Bool):wV a b ρ S=ah (a ρ S) λk c=>if k=true then b ρ c else GW false c:=rfl
@[simp] theorem Ge (a b:GH Bool):ji a b ρ S=ah (a ρ S) λk c=>if k=true then GW true c else b ρ c:=rfl
@[simp] theorem FQ (a:GH Bool):dF a ρ S=ah (a ρ S) λk b=>GW (!k) b:=rfl
@[simp] theorem Gw:uo f g ρ S=ah (f ρ S) λx a=>ah (aM (KO x) a) λk S2=>if k=true then g ρ S2 else GW (.bl false) S2:=rfl
@[simp] theorem GA:Vz f g ρ S=ah (f ρ S) λx a=>ah (aM (KO x) a) λk S2=>if k=true then GW (.bl true) S2 else g ρ S2:=rfl
@[simp] theorem Gf:DG f ρ S=ah (f ρ S) λx a=>ah (aM (KO x) a) λk S2=>GW (.bl (!k)) S2:=rfl
@[simp] theorem Gn (t:GH Bool):ul t f g ρ S=ah (t ρ S) λk a=>if k=true then f ρ a else g ρ a:=rfl
@[simp] theorem ET:aD ρ S=GW [] S:=rfl
@[simp] theorem DB (t:GH (List D)):ag f t ρ S=ah (f ρ S) λd a=>ah (t ρ a) λds S2=>GW (d::ds) S2:=rfl
@[simp] theorem Ga (t:GH (List D)):k8 t ρ S=ah (t ρ S) λds a=>aM (JA ds (.tup ds)) a:=rfl
@[simp] theorem Gj (t:GH (List D)):oq t ρ S=ah (t ρ S) λds a=>aM (JA ds (.lst ds)) a:=rfl
@[simp] theorem F3 (h:List D->Option D)(t:GH (List D)):bz h t ρ S=ah (t ρ S) λds a=>aM (h ds) a:=rfl
@[simp] theorem FS:cg ρ S=GW (.next ρ) S:=rfl
@[simp] theorem Cb (a b:GH Fl):aO a b ρ S=ah (a ρ S) λe d=>match e with
 | .next c=>b c d
 |o=>GW o d:=rfl
@[simp] theorem EQ:bd f ρ S=ah (f ρ S) λd a=>GW (.ret d) a:=rfl
@[simp] theorem GB (t:GH Bool)(a b:GH Fl):JB t a b ρ S=ah (t ρ S) λk c=>if k=true then a ρ c else b ρ c:=rfl
@[simp] theorem Gb:bv i f ρ S=ah (f ρ S) λd a=>GW (.next (ρ.set i (some d))) a:=rfl
@[simp] theorem Gp (a:GH (List D))(u:D->GP->Option GP)(b:GH Fl):io a u b ρ S=ah (a ρ S) λds c=>gw u b ds ρ c:=rfl
@[simp] theorem Gc (h:List D->Option (List D))(t:GH (List D)):j_ h t ρ S=ah (t ρ S) λds a=>aM (h ds) a:=rfl
@[simp] theorem Fe:bK f ρ S=ah (f ρ S) λd a=>aM (bR d) a:=rfl
@[simp] theorem FM:iO ρ S=GW true S:=rfl
@[simp] theorem Gr (F:GN)(t:GH (List D)):aS F t ρ S=ah (t ρ S) λds a=>jn (F ds a):=rfl
@[simp] theorem Fi (d:D):jn (GW d S)=GW d S:=rfl
@[simp] theorem ES (d:D):jn (some (.ok d,S))=GW d S:=rfl
@[simp] theorem FY:Hv f g ρ S=ah (f ρ S) λx a=>ah (g ρ a) λy S2=>aM (Hq x y S2) S2:=rfl
@[simp] theorem FZ:KR k f g ρ S=ah (f ρ S) λx a=>ah (g ρ a) λy S2=>aM (KY k x y S2) S2:=rfl
@[simp] theorem FN:wS f ρ S=ah (f ρ S) λd a=>aM (mV d a) a:=rfl
@[simp] theorem Gg:uk ρ S=GW (.loc S.length) (S++[.dict []]):=rfl
@[simp] theorem Gd (h:GH D):vN f g h ρ S=ah (h ρ S) λv b=>ah (f ρ b) λx S2=>ah (g ρ S2) λk a=>sF x k v ρ a:=rfl
@[simp] theorem F2 (n:Nat)(ix:List Nat)(a:GH (List D))(u:D->GP->Option GP)(gt:GH Bool):eO n ix a u gt f ρ S=ah (a ρ S) λds b =>
 match cz u gt f ds (cL n ix ρ) b with
 |some (out,S2)=>GW (.lst out) S2
 |none=>none:=rfl
@[simp] theorem Gz (a:D->Option Int->Option Int->Option D)(lo b:Option (GH D)):Nr a f lo b ρ S=ah (f ρ S) λx d=>ah (kb lo ρ d) λl S2=>ah (kb b ρ S2) λu c=>aM (a x l u) c:=rfl
@[simp] theorem Fh:kb none ρ S=GW none S:=rfl
@[simp] theorem Fg:kb (some f) ρ S=ah (f ρ S) λd a=>aM (tK d) a:=rfl
@[simp] theorem Gi (b:D->Bool)(a:D->D->Option D):rG b a f g ρ S=ah (f ρ S) λx c=>if b x=true then ah (g ρ c) λy S2=>aM (a x y) S2 else none:=rfl
@[simp] theorem EL (d:D)(h : ρ[i]?=some (some d)):af i ρ S=GW d S:=by unfold af;rw[h]
@[simp] theorem Fd (d:D):aK i d ρ=some (ρ.set i (some d)):=rfl
@[simp] theorem Gs (b:Bool):KO (.bl b)=some b:=rfl
end
@[simp] theorem bY {ds:List D}{d:D}(h:ds.length<=1000):JA ds d=some d:=by
 unfold JA;rw[if_pos (Nat.le_trans h (by decide))]
theorem aE {n m:Nat}{G:GH Fl}{ds:List D}{S a:GO}{d:D}(b:ds.length=n)(h:G (ds.map some++replicate m none) S=GW (.ret d) a):bj n m G ds S=GW d a:=by unfold bj;rw[if_pos b,h];rfl
theorem fG {u:D->GP->Option GP}{gt:GH Bool}{fe:GH D}(I:GP->Prop)(g:D->Bool)(f:D->D)(S:GO) :
  ∀ (ds:List D) (ρ:GP),I ρ->(∀ d∈ds,∀ ρ,I ρ->∃ a,u d ρ=some a/\I a/\gt a S=GW (g d) S/\(g d=true->fe a S=GW (f d) S))->cz u gt fe ds ρ S=some ((ds.filter g).map f,S)
 |[],ρ,_,_=>rfl
 |d::ds,ρ,hI,h=>by
  obtain⟨a,i,e,j,k⟩:=h d (mem_cons_self ..) ρ hI;have c:=fG I g f S ds a e λx l=>h x (mem_cons_of_mem _ l);rw[cz,i,bind_some,j];simp only[GW,Oh,bind_some];by_cases b:g d=true
  ·rw[if_pos b,k b];simp only[GW,Oh,bind_some,c,map_some,filter_cons,b,if_true,map_cons]
  rw[if_neg b,c,filter_cons,if_neg b]
theorem kU {u:D->GP->Option GP}{fe:GH D}(I:GP->Prop)(f:D->D)(S:GO)(ds:List D)(ρ:GP)(b:I ρ)
  (h:∀ d∈ds,∀ ρ,I ρ->∃ a,u d ρ=some a/\I a/\fe a S=GW (f d) S):cz u iO fe ds ρ S=some (ds.map f,S):=by
 have q:=fG (u:=u) (gt:=iO) (fe:=fe) I (λ_=>true) f S ds ρ b λd hd ρ hr=>by obtain⟨a,c,g,e⟩:=h d hd ρ hr;exact⟨a,c,g,rfl,λ_=>e⟩
 rw[q,List.filter_eq_self.mpr λ_ _=>rfl]
theorem cr {u:D->GP->Option GP}{body:GH Fl}(I:Nat->GP->GO->Prop):∀ (ds:List D) (i:Nat) (ρ:GP) (S:GO),I i ρ S ->
  (∀ (j:Nat) d ρ S,ds[j]?=some d->I (i+j) ρ S->∃ k,u d ρ=some k/\∃ g l,body k S=GW (.next g) l/\I (i+j+1) g l)->∃ g l,gw u body ds ρ S=GW (.next g) l/\I (i+ds.length) g l
 |[],i,ρ,S,m,_=>⟨ρ,S,rfl,m⟩
 |d::ds,i,ρ,S,m,h=>by
  obtain⟨k,o,g,l,p,v⟩:=h 0 d ρ S rfl m
  obtain⟨n,w,q,r⟩:=cr I ds (i+1) g l v λj x ρ S t s=>by
   obtain⟨a,b,c,d,e,f⟩:=h (j+1) x ρ S (by simpa using t) (by rw[show i+(j+1)=i+1+j by omega];exact s);exact⟨a,b,c,d,e,by rw[show i+1+j+1=i+(j+1)+1 by omega];exact f⟩
  refine⟨n,w,?_,by rw[length_cons,show i+(ds.length+1)=i+1+ds.length by omega];exact r⟩;rw[gw,o];simp only[p,bA];exact q
mutual
def pl:D->Bool
 | .tup a=>OO a
 | .lst a=>OO a
 | .set _=>false
 | .loc _=>false
 | .fn _ _=>false
 |_=>true
def OO:List D->Bool
 |[]=>true
 |d::ds=>pl d&&OO ds
end
mutual
theorem qv:∀ {d:D},pl d=true->∃ p,toPy d=some p
 | .Hu,_=>⟨_,rfl⟩
 | .bl _,_=>⟨_,rfl⟩
 | .int _,_=>⟨_,rfl⟩
 | .str _,_=>⟨_,rfl⟩
 | .tup b,h=>by
  rw[pl] at h;obtain⟨a,e⟩:=iw h;exact⟨.tuple a,by rw[toPy,e];rfl⟩
 | .lst b,h=>by
  rw[pl] at h;obtain⟨a,e⟩:=iw h;exact⟨.list a,by rw[toPy,e];rfl⟩
 | .set _,h=>by simp[pl] at h
 | .loc _,h=>by simp[pl] at h
 | .fn _ _,h=>by simp[pl] at h
theorem iw:∀ {ds:List D},OO ds=true->∃ a,bX ds=some a
 |[],_=>⟨[],rfl⟩
 |d::ds,h=>by
  rw[OO,and_eq_true] at h;obtain⟨p,c⟩:=qv h.1;obtain⟨a,b⟩:=iw h.2;exact⟨p::a,by rw[bX,c,b];rfl⟩
end
theorem kD:∀ {ds:List D}{a:List PyData},bX ds=some a->a.length=ds.length
 |[],a,e=>by cases e;rfl
 |d::ds,a,e=>by
  rw[bX] at e;obtain⟨p,_,b⟩:=bind_eq_some_iff.mp e;obtain⟨r,c,f⟩:=map_eq_some_iff.mp b;subst f;rw[length_cons,length_cons,kD c]
theorem An {α:Type}[BEq α][LawfulBEq α][DecidableEq α](a b : α):(a==b)=decide (a=b):=by by_cases h:a=b<;>simp[h]
@[simp] theorem BJ (i j:Int):HP (.int i) (.int j)=some (.bl (decide (i=j))):=by simp[HP,toPy,PyData.eqv,PyData.depth,An]
@[simp] theorem Fb (i j:Int):Jn (.int i) (.int j)=some (.bl (!decide (i=j))):=by simp[Jn,toPy,PyData.eqv,PyData.depth,An]
@[simp] theorem FL (a b:Bool):HP (.bl a) (.bl b)=some (.bl (a==b)):=by simp[HP,toPy,PyData.eqv,PyData.depth]
theorem dH:∀ l:List Str,bX (l.map .str)=some (l.map .str)
 |[]=>rfl
 |a::l=>by rw[map_cons,bX,dH l];rfl
theorem mR:∀ l:List Int,bX (l.map .int)=some (l.map .int)
 |[]=>rfl
 |a::l=>by rw[map_cons,bX,mR l];rfl
theorem j0:∀ l m:List Str,PyData.eqvAll (l.map .str) (m.map .str)=decide (l=m)
 |[],[]=>rfl
 |[],b::m=>by simp[PyData.eqvAll]
 |a::l,[]=>by simp[PyData.eqvAll]
 |a::l,b::m=>by
  rw[map_cons,map_cons,PyData.eqvAll,j0 l m];simp only[PyData.eqv,List.cons.injEq];by_cases h:a=b<;>by_cases c:l=m<;>simp[h,c]
theorem tW:∀ l m:List Int,PyData.eqvAll (l.map .int) (m.map .int)=decide (l=m)
 |[],[]=>rfl
 |[],b::m=>by simp[PyData.eqvAll]
 |a::l,[]=>by simp[PyData.eqvAll]
 |a::l,b::m=>by
  rw[map_cons,map_cons,PyData.eqvAll,tW l m];simp only[PyData.eqv,List.cons.injEq];by_cases h:a=b<;>by_cases c:l=m<;>simp[h,c]
theorem g6:∀ l:List Str,PyData.depthAll (l.map .str)=0
 |[]=>rfl
 |a::l=>by rw[map_cons,PyData.depthAll,g6 l];rfl
theorem n_:∀ l:List Int,PyData.depthAll (l.map .int)=0
 |[]=>rfl
 |a::l=>by rw[map_cons,PyData.depthAll,n_ l];rfl
theorem z7 (l m:List Int):HP (.lst (l.map .int)) (.lst (m.map .int))=some (.bl (decide (l=m))):=by simp[HP,toPy,mR,PyData.eqv,PyData.depth,n_,tW]
theorem BI {ds:List D}(h:OO ds=true):HP (.lst ds) (.lst [])=some (.bl (ds.isEmpty)):=by
 obtain⟨a,e⟩:=iw h;have c:toPy (.lst ds)=some (.list a):=by rw[toPy,e];rfl
 have l:=kD e;have b:toPy (.lst [])=some (.list []):=rfl;unfold HP;rw[c,b];cases a with
 |nil=>cases ds with
  |nil=>simp[PyData.depth,PyData.depthAll,PyData.eqv,PyData.eqvAll]
  |cons _ _=>simp at l
 |cons p a=>cases ds with
  |nil=>simp at l
  |cons _ _=>simp[PyData.depth,PyData.depthAll,PyData.eqv,PyData.eqvAll]
theorem Bm {ds:List D}(h:OO ds=true):Jn (.lst ds) (.lst [])=some (.bl (!ds.isEmpty)):=by
 obtain⟨a,e⟩:=iw h;have c:toPy (.lst ds)=some (.list a):=by rw[toPy,e];rfl
 have l:=kD e;have b:toPy (.lst [])=some (.list []):=rfl;unfold Jn;rw[c,b];cases a with
 |nil=>cases ds with
  |nil=>simp[PyData.depth,PyData.depthAll,PyData.eqv,PyData.eqvAll]
  |cons _ _=>simp at l
 |cons p a=>cases ds with
  |nil=>simp at l
  |cons _ _=>simp[PyData.depth,PyData.depthAll,PyData.eqv,PyData.eqvAll]
theorem Te (x a b c:Str):inD (.str x) (.tup [.str a,.str b,.str c])=some (.bl (decide (a=x) ||(decide (b=x) ||decide (c=x)))):=by simp[inD,nR,toPy,bX,xj,PyData.eqv,PyData.depth,An]
section
variable (ρ:GP) (S:GO)
@[simp] theorem F1 (F:GN)(t:GH (List D)):EY F t ρ S=ah (t ρ S) λds a=>F ds a:=rfl
@[simp] theorem Ff (c:Str)(t:GH (List D)):DF c t ρ S=ah (t ρ S) λds a=>ah (aM (JA ds .Hu) a) λ_ S2=>some (.error c,S2):=rfl
@[simp] theorem Go (a:Str->Option Bool)(f:GH D):F7 a f ρ S=ah (f ρ S) λd b=>aM (EB a d b) b:=rfl
end
end L2
namespace G6
open PySem L2
def top (i:Nat):Stmt:=PySem.Challenge.pw_keyfold_k24_names_and_orders.main.body.getD i (.Pass ⟨0,0,0,0⟩)
abbrev fy:Stmt:=top 13
def zX:GH Fl:=
  (bd (aJ HP (bz cF (ag (af 0) aD)) (aC (.int 3))))
def fO:GN:=bj 1 0 zX
def jZ:GH Fl:=
  (bd (ul (aT (aS fO (ag (af 0) aD))) (Nr KP (af 0) (some (aC (.int 1))) none) (k8 aD)))
def dD:GN:=bj 1 0 jZ
def nU:GH Fl:=
  (bd (ul (aT (aS fO (ag (af 0) aD))) (rG fC i8 (af 1) (Hv (af 0) (aC (.int 0)))) (bz cF (ag (af 1) aD))))
def jD:GN:=bj 2 0 nU
def pQ:GH Fl:=
  (aO (bv 4 (yp (af 0) (af 1)))
  (bd (ul (aT (aJ HP (Hv (af 4) (aC (.int 0))) (af 2))) (Hv (af 4) (aJ bC (aC (.int 1)) (af 3))) (af 1))))
def ll:GN:=bj 4 1 pQ
def b9 (rec:GN):GH Fl:=
  (JB (aT (KR true (af 3) (af 2))) (kc (aS rec (ag (af 0) (ag (af 3) (ag (af 2) aD))))) cg)
def dZ (rec:GN):GH Fl:=
  (aO (io (bK (aS dD (ag (yp (af 0) (af 1)) aD))) (aK 3) (b9 rec))
  (vN (af 2) (af 1) (aC (.bl true))))
def br:Nat->GN
 | 0=>λ_ _=>none
 |n+1=>bj 3 1 (dZ (br n))
def iI:GH Fl:=
  (aO (bv 2 uk)
  (aO (kc (aS (br 10) (ag (af 0) (ag (af 1) (ag (af 2) aD)))))
  (bd (kW (af 2)))))
def fL:GN:=bj 2 1 iI
def iH:GH Fl:=
  (bd (ul (aT (aS fO (ag (af 0) aD))) (k8 (ag (Hv (af 0) (aC (.int 0))) (ag (Hv (af 1) (Hv (af 0) (aC (.int 1)))) (ag (Hv (af 1) (Hv (af 0) (aC (.int 2)))) aD)))) (af 0)))
def fK:GN:=bj 2 0 iH
def eD:GH Fl:=
  (aO (on "Rows" "order" (af 0) (af 1))
  (aO (on "Rows" "gathered" (af 0) oo)
  (aO (on "Rows" "numbers" (af 0) wT)
  (on "Rows" "choices" (af 0) wT))))
def bf:GN:=bj 2 0 eD
def cX:GH Fl:=
  (vN (af 3) (af 5) (af 4))
def bT:GH D:=
  (aS fK (ag (oP (iP "Rows" "gathered" (af 2)) (af 0)) (ag (af 1) aD)))
def gE:GH Fl:=
  (aO (bv 2 (aS fL (ag (iP "Rows" "gathered" (af 0)) (ag (af 1) aD))))
  (aO (bv 3 uk)
  (aO (io (j_ rg (ag (af 2) aD)) (oG 2 (bJ (aK 4) (bJ (aK 5) jK))) cX)
  (bd (bz kB (ag (eO 1 [3,0] (bK (af 2)) (aK 0) iO bT) aD))))))
def bN:GN:=bj 2 4 gE
def dL:GH Fl:=
  (aO (JB (aT (Al true (af 1) (iP "Rows" "numbers" (af 0)))) (aO (uj (iP "Rows" "numbers" (af 0)) (af 1) (Ae (iP "Rows" "gathered" (af 0))))
  (kc (vP (iP "Rows" "gathered" (af 0)) (af 1)))) cg)
  (bd (wU (iP "Rows" "numbers" (af 0)) (af 1))))
def aX:GN:=bj 2 0 dL
def cw:GH Fl:=
  (bd (ul (aT (aJ HP (af 2) (af 3))) (af 2) (ci "Rows" "number_of" aX (af 0) (ag (k8 (ag (af 1) (ag (af 2) (ag (af 3) aD)))) aD))))
def bt:GN:=bj 4 0 cw
def eL:GH Bool:=
  (aT (KR false (af 0) (af 1)))
def eN:GH D:=
  (af 0)
def dj:GH Fl:=
  (bd (bz kB (ag (eO 1 [1] (bK (af 0)) (aK 0) eL eN) aD)))
def dE:GN:=bj 2 0 dj
def d4:GH D:=
  (aS dE (ag (af 0) (ag (af 1) aD)))
def d5:GH Fl:=
  (JB (aT (aS fO (ag (af 5) aD))) (kc (vP (af 4) (ci "Rows" "number_of_ask" bt (af 3) (ag (Hv (af 5) (aC (.int 0))) (ag (oP (af 4) (Hv (af 5) (aC (.int 1)))) (ag (oP (af 4) (Hv (af 5) (aC (.int 2)))) aD)))))) (kc (vP (af 4) (ci "Rows" "number_of" aX (af 3) (ag (k8 (ag (aC (.str "names")) (ag (um (jX fy) "only.<locals>.<lambda>" "names" d4 (af 2) (Hv (af 5) (aC (.int 1)))) aD))) aD)))))
def pR:GH Fl:=
  (aO (bv 3 (lW "Rows" bf (ag (af 1) aD)))
  (aO (bv 4 oo)
  (aO (io (bK (af 0)) (aK 5) d5)
  (bd (ci "Rows" "fold_from" bN (af 3) (ag (oP (af 4) (L4 sP (aC (.int 1)))) aD))))))
def e_:GN:=bj 3 3 pR
def vC:GH Fl:=
  (bd (mw "only" "only.<locals>.<lambda>" (jX fy) "names" 1 e_ (af 0) (af 2)))
def iQ:GN:=bj 3 0 vC
def zV:GH Fl:=
  (bd (aS iQ (ag (af 0) (ag (k8 (ag (af 1) aD)) (ag (af 2) aD)))))
def oy:GN:=bj 3 0 zV
def bn:GH D:=
  (aS jD (ag (oP (iP "Rows" "gathered" (af 1)) (af 0)) (ag (iP "Rows" "order" (af 1)) aD)))
def dm:GH Fl:=
  (aO (bv 4 (eO 1 [0] (bK (k8 (ag (af 2) (ag (af 3) aD)))) (aK 0) iO bn))
  (bd (Hv (iP "Rows" "order" (af 0)) (bz s9 (ag (aJ bC (af 4) (oq (ag (rG fC i8 (iP "Rows" "order" (af 0)) (af 1)) aD))) aD)))))
def bW:GN:=bj 4 1 dm
def lR:GH Fl:=
  (bd (aS ll (ag (iP "Rows" "gathered" (af 0)) (ag (af 1) (ag (af 2) (ag (af 3) aD))))))
def bQ:GN:=bj 4 0 lR
def cU (rec:GN):GH Fl:=
  (aO (bv 4 (ci "Rows" "first_character" bW (af 0) (ag (af 1) (ag (af 2) (ag (af 3) aD)))))
  (aO (JB (aT (aJ HP (af 4) (af 1))) (bd (ci "Rows" "number_of_ask" bt (af 0) (ag (af 1) (ag (ci "Rows" "side" bQ (af 0) (ag (af 2) (ag (af 1) (ag (aC (.int 0)) aD)))) (ag (ci "Rows" "side" bQ (af 0) (ag (af 3) (ag (af 1) (ag (aC (.int 1)) aD)))) aD))))) cg)
  (aO (bv 5 (ci "Rows" "choose" rec (af 0) (ag (af 1) (ag (ci "Rows" "side" bQ (af 0) (ag (af 2) (ag (af 4) (ag (aC (.int 0)) aD)))) (ag (ci "Rows" "side" bQ (af 0) (ag (af 3) (ag (af 4) (ag (aC (.int 0)) aD)))) aD)))))
  (aO (bv 6 (ci "Rows" "choose" rec (af 0) (ag (af 1) (ag (ci "Rows" "side" bQ (af 0) (ag (af 2) (ag (af 4) (ag (aC (.int 1)) aD)))) (ag (ci "Rows" "side" bQ (af 0) (ag (af 3) (ag (af 4) (ag (aC (.int 1)) aD)))) aD)))))
  (bd (ci "Rows" "number_of_ask" bt (af 0) (ag (af 4) (ag (af 5) (ag (af 6) aD)))))))))
def cY (rec:GN):GN:=bj 4 3 (cU rec)
def dS (rec:GN):GH Fl:=
  (aO (bv 4 (k8 (ag (af 1) (ag (af 2) (ag (af 3) aD)))))
  (aO (JB (aT (Al true (af 4) (iP "Rows" "choices" (af 0)))) (uj (iP "Rows" "choices" (af 0)) (af 4) (ul (aT (aJ HP (af 2) (af 3))) (af 2) (ci "Rows" "choose_anew" (cY rec) (af 0) (ag (af 1) (ag (af 2) (ag (af 3) aD)))))) cg)
  (bd (wU (iP "Rows" "choices" (af 0)) (af 4)))))
def cN:Nat->GN
 | 0=>λ_ _=>none
 |n+1=>bj 4 1 (dS (cN n))
def fH:GH Fl:=
  (JB (aT (aS fO (ag (af 4) aD))) (kc (vP (af 3) (ci "Rows" "choose" (cN 9) (af 2) (ag (Hv (af 4) (aC (.int 0))) (ag (oP (af 3) (Hv (af 4) (aC (.int 1)))) (ag (oP (af 3) (Hv (af 4) (aC (.int 2)))) aD)))))) (kc (vP (af 3) (ci "Rows" "number_of" aX (af 2) (ag (af 4) aD)))))
def tQ:GH Fl:=
  (aO (bv 2 (lW "Rows" bf (ag (af 1) aD)))
  (aO (bv 3 oo)
  (aO (io (bK (af 0)) (aK 4) fH)
  (bd (ci "Rows" "fold_from" bN (af 2) (ag (oP (af 3) (L4 sP (aC (.int 1)))) aD))))))
def d8:GN:=bj 2 3 tQ
def eC (rec:GN):GH Fl:=
  (aO (JB (aT (aJ HP (Hv (af 1) (aC (.int 0))) (aC (.str "names")))) (bd (ci "Rows" "number_of" aX (af 0) (ag (af 1) aD))) cg)
  (bd (ci "Rows" "choose" (cN 9) (af 0) (ag (Hv (af 1) (aC (.int 1))) (ag (aS rec (ag (af 0) (ag (Hv (af 1) (aC (.int 2))) aD))) (ag (aS rec (ag (af 0) (ag (Hv (af 1) (aC (.int 3))) aD))) aD))))))
def cQ:Nat->GN
 | 0=>λ_ _=>none
 |n+1=>bj 2 0 (eC (cQ n))
def tU:GH Fl:=
  (aO (bv 2 (lW "Rows" bf (ag (af 1) aD)))
  (bd (ci "Rows" "fold_from" bN (af 2) (ag (aS (cQ 15) (ag (af 2) (ag (af 0) aD))) aD))))
def fN:GN:=bj 2 1 tU
def lQ:GH Fl:=
  (aO (JB (aT (aJ Ml (af 1) (bz cF (ag (af 0) aD)))) (bd (Hv (af 0) (af 1))) cg)
  (bd (aC (.int 0))))
def iR:GN:=bj 2 0 lQ
def pU:GH Fl:=
  (aO (bv 2 (aJ cC (aJ cI (aJ bC (aJ bC (aS iR (ag (af 0) (ag (af 1) aD))) (aJ cI (aC (.int 7919)) (af 1))) (aC (.int 1))) (aC (.int 48271))) (aC (.int 2147483647))))
  (bd (aJ cC (aJ bC (aJ bC (aJ cI (af 2) (af 2)) (aJ cI (aC (.int 7)) (af 2))) (af 1)) (aC (.int 2147483629)))))
def aV:GN:=bj 2 1 pU
def pV:GH Fl:=
  (aO (bv 2 (aJ cC (aJ cI (aJ bC (aJ bC (af 0) (aJ cI (aC (.int 104729)) (af 1))) (aC (.int 17))) (aC (.int 69621))) (aC (.int 2147483647))))
  (bd (aJ cC (aJ bC (aJ bC (aJ cI (af 2) (af 2)) (aJ cI (aC (.int 3)) (af 2))) (af 1)) (aC (.int 2147483629)))))
def fg:GN:=bj 2 1 pV
def fY:GH Fl:=
  (bv 5 (aJ bC (af 5) (Hv (af 1) (aJ cC (aJ gF (af 4) (aJ bC (aJ cI (aC (.int 31)) (af 6)) (aC (.int 29)))) (aC (.int 26))))))
def fX:GH Fl:=
  (aO (bv 4 (aS fg (ag (af 0) (ag (af 3) aD))))
  (aO (bv 5 (Hv (af 1) (aJ cC (af 4) (aC (.int 26)))))
  (aO (io (j_ fT (ag (aJ cI (aJ cC (aJ gF (af 4) (aC (.int 26))) (aC (.int 8))) (aJ cC (af 0) (aC (.int 2)))) aD)) (aK 6) fY)
  (vN (af 2) (aJ bC (af 5) (aJ cI (aC (.str "q")) (bz intD (ag (KR false (af 5) (aC (D.tup [(D.str "names"),(D.str "ask"),(D.str "end")]))) aD)))) (aC (.bl true))))))
def pP:GH Fl:=
  (aO (bv 1 (aC (.str "abcdefghijklmnopqrstuvwxyz")))
  (aO (bv 2 uk)
  (aO (io (j_ fT (ag (aC (.int 6)) aD)) (aK 3) fX)
  (bd (bz kB (ag (wS (af 2)) aD))))))
def lj:GN:=bj 1 6 pP
def iz:GH Bool:=
  (aT (aJ HP (aJ cC (aJ gF (af 2) (aJ bC (aJ cI (aC (.int 3)) (af 0)) (aC (.int 1)))) (aC (.int 4))) (aC (.int 0))))
def iK:GH D:=
  (af 1)
def pT:GH Fl:=
  (bd (bz kB (ag (eO 2 [0] (j_ n6 (ag (af 1) aD)) (oG 2 (bJ (aK 0) (bJ (aK 1) jK))) iz iK) aD)))
def gI:GN:=bj 2 0 pT
def q8 (rec:GN):GH Fl:=
  (aO (JB (ji (aT (aJ HP (af 3) (aC (.int 0)))) (aT (aJ HP (aJ cC (af 0) (aC (.int 7))) (aC (.int 0))))) (bd (k8 (ag (aC (.str "names")) (ag (aS gI (ag (aJ gF (af 0) (aC (.int 7))) (ag (af 1) aD))) aD)))) cg)
  (aO (bv 4 (aS rec (ag (aS fg (ag (af 0) (ag (aC (.int 1)) aD))) (ag (af 1) (ag (af 2) (ag (aJ jM (af 3) (aC (.int 1))) aD))))))
  (aO (bv 5 (aS rec (ag (aS fg (ag (af 0) (ag (aC (.int 2)) aD))) (ag (af 1) (ag (af 2) (ag (aJ jM (af 3) (aC (.int 1))) aD))))))
  (bd (k8 (ag (aC (.str "ask")) (ag (aJ cC (aJ gF (af 0) (aC (.int 7))) (af 2)) (ag (af 4) (ag (af 5) aD)))))))))
def km:Nat->GN
 | 0=>λ_ _=>none
 |n+1=>bj 4 2 (q8 (km n))
def fZ:GH Fl:=
  (aO (bv 4 (aJ cC (aS fg (ag (af 0) (ag (af 3) aD))) (aJ bC (bz cF (ag (af 2) aD)) (aC (.int 1)))))
  (bv 2 (aJ bC (aJ bC (Nr KP (af 2) none (some (af 4))) (oq (ag (af 3) aD))) (Nr KP (af 2) (some (af 4)) none))))
def pS:GH Fl:=
  (aO (bv 2 (oq aD))
  (aO (io (j_ fT (ag (af 1) aD)) (aK 3) fZ)
  (bd (bz kB (ag (af 2) aD)))))
def jc:GN:=bj 2 3 pS
def j4:GH D:=
  (aJ bC (af 0) (aC (D.tup [(D.int 0)])))
def j3:GH D:=
  (aJ bC (af 0) (aC (D.tup [(D.int 1)])))
def eU:GH Fl:=
  (bv 1 (aJ bC (eO 1 [] (bK (af 1)) (aK 0) iO j4) (eO 1 [] (bK (af 1)) (aK 0) iO j3)))
def nT:GH Fl:=
  (aO (bv 1 (aC (D.lst [(D.tup [])])))
  (aO (io (j_ fT (ag (af 0) aD)) (aK 2) eU)
  (bd (bz qD (ag (af 1) aD)))))
def hV:GN:=bj 1 2 nT
def jy (rec:GN):GH Fl:=
  (aO (JB (aT (aJ HP (Hv (af 0) (aC (.int 0))) (aC (.str "names")))) (bd (Hv (af 0) (aC (.int 1)))) cg)
  (bd (aS rec (ag (Hv (af 0) (aJ bC (aC (.int 2)) (Hv (af 1) (Hv (af 0) (aC (.int 1)))))) (ag (af 1) aD)))))
def fP:Nat->GN
 | 0=>λ_ _=>none
 |n+1=>bj 2 0 (jy (fP n))
def jL:GH Bool:=
  (aT (aJ Jn (Hv (af 2) (aC (.int 0))) (aC (.str "names"))))
def gH:GH Fl:=
  (bv 2 (Hv (af 0) (Hv (af 2) (aJ bC (aC (.int 1)) (Hv (af 1) (Hv (af 2) (aC (.int 0))))))))
def zW:GH Fl:=
  (aO (bv 2 (Hv (af 0) (L4 sP (aC (.int 1)))))
  (aO (rE 20 jL gH)
  (bd (Hv (af 2) (aC (.int 1))))))
def jF:GN:=bj 2 1 zW
def nV:GH Fl:=
  (bd (uo (L4 (ik "int") (af 0)) (uo (DG (L4 (ik "bool") (af 0))) (k9 PM PM (aC (.int 0)) (af 0) (af 1)))))
def fM:GN:=bj 2 0 nV
def cO:GH Bool:=
  (aT (aJ Ml (rG qW findD (aC (.str "abcdefghijklmnopqrstuvwxyz")) (af 0)) (aC (.int 0))))
def eE:GH D:=
  (af 0)
def cP:GH Fl:=
  (aO (JB (ji (dF (aT (L4 (ik "str") (af 2)))) (ji (dF (aT (k9 Ml Ml (aC (.int 0)) (bz cF (ag (af 2) aD)) (aC (.int 9))))) (wV (aT (aJ PN (af 1) (aC (.int 0)))) (dF (aT (aJ Ml (Hv (af 0) (aJ jM (af 1) (aC (.int 1)))) (af 2))))))) (bd (aC (.bl false))) cg)
  (aO (JB (aT (KR false (af 2) (aC (D.tup [(D.str "names"),(D.str "ask"),(D.str "end")])))) (bd (aC (.bl false))) cg)
  (JB (aT (aJ Jn (eO 1 [] (bK (af 2)) (aK 0) cO eE) (oq aD))) (bd (aC (.bl false))) cg)))
def jp:GH Fl:=
  (aO (JB (dF (aT (L4 (ik "tuple") (af 0)))) (bd (aC (.bl false))) cg)
  (aO (io (j_ n6 (ag (af 0) aD)) (oG 2 (bJ (aK 1) (bJ (aK 2) jK))) cP)
  (bd (aC (.bl true)))))
def ge:GN:=bj 1 2 jp
def c_:GH Bool:=
  (wV (aT (aJ Jn (Hv (Hv (af 2) (af 0)) (aC (.int 0))) (aC (.str "names")))) (aT (KR true (Hv (Hv (af 2) (af 0)) (aC (.int 0))) (af 1))))
def eT:GH D:=
  (af 0)
def nY:GH Fl:=
  (aO (bv 3 (Hv (af 0) (af 1)))
  (aO (JB (ji (dF (aT (L4 (ik "tuple") (af 3)))) (ji (aT (aJ HP (bz cF (ag (af 3) aD)) (aC (.int 0)))) (aT (KR false (af 3) (Nr KP (af 0) none (some (af 1))))))) (bd (aC (.bl false))) cg)
  (aO (JB (aT (L4 (ik "str") (Hv (af 3) (aC (.int 0))))) (bd (uo (aJ HP (Hv (af 3) (aC (.int 0))) (aC (.str "names"))) (uo (aJ HP (bz cF (ag (af 3) aD)) (aC (.int 2))) (aS ge (ag (Hv (af 3) (aC (.int 1))) aD))))) cg)
  (aO (JB (ji (aT (aJ Jn (bz cF (ag (af 3) aD)) (aC (.int 3)))) (dF (aT (aS fM (ag (Hv (af 3) (aC (.int 0))) (ag (aJ jM (bz cF (ag (af 2) aD)) (aC (.int 1))) aD)))))) (bd (aC (.bl false))) cg)
  (aO (JB (ji (dF (aT (aS fM (ag (Hv (af 3) (aC (.int 1))) (ag (aJ jM (af 1) (aC (.int 1))) aD))))) (ji (dF (aT (aS fM (ag (Hv (af 3) (aC (.int 2))) (ag (aJ jM (af 1) (aC (.int 1))) aD))))) (aT (aJ HP (Hv (af 3) (aC (.int 1))) (Hv (af 3) (aC (.int 2))))))) (bd (aC (.bl false))) cg)
  (aO (bv 4 (Nr KP (af 2) (some (aJ bC (rG qX nO (bz Bx (ag (af 2) aD)) (Hv (af 3) (aC (.int 0)))) (aC (.int 1)))) none))
  (bd (aJ HP (eO 1 [4,0] (bK (Nr KP (af 3) (some (aC (.int 1))) none)) (aK 0) c_ eT) (oq aD)))))))))
def jE:GN:=bj 3 2 nY
def fq (rec:GN):GH Bool:=
  (aT (KR true (af 0) (af 1)))
def g0 (rec:GN):GH D:=
  (af 0)
def fJ (rec:GN):GH Fl:=
  (bv 3 (aJ bC (af 3) (eO 1 [3] (bK (aS rec (ag (af 0) (ag (af 4) aD)))) (aK 0) (fq rec) (g0 rec))))
def nW (rec:GN):GH Fl:=
  (aO (bv 2 (Hv (af 0) (af 1)))
  (aO (bv 3 (oq aD))
  (aO (JB (aT (aJ Jn (Hv (af 2) (aC (.int 0))) (aC (.str "names")))) (io (bK (Nr KP (af 2) (some (aC (.int 1))) none)) (aK 4) (fJ rec)) cg)
  (bd (aJ bC (af 3) (oq (ag (af 1) aD)))))))
def cM:Nat->GN
 | 0=>λ_ _=>none
 |n+1=>bj 2 3 (nW (cM n))
def f9:GH Fl:=
  (JB (dF (aT (aS jE (ag (af 0) (ag (af 2) (ag (af 1) aD)))))) (bd (aC (.bl false))) cg)
def lP:GH Fl:=
  (aO (JB (ji (dF (aT (L4 (ik "tuple") (af 0)))) (aT (aJ HP (bz cF (ag (af 0) aD)) (aC (.int 0))))) (bd (aC (.bl false))) cg)
  (aO (io (j_ fT (ag (bz cF (ag (af 0) aD)) aD)) (aK 2) f9)
  (bd (aJ HP (aS (cM 11) (ag (af 0) (ag (aJ jM (bz cF (ag (af 0) aD)) (aC (.int 1))) aD))) (bz gz (ag (bz cF (ag (af 0) aD)) aD))))))
def bP:GN:=bj 2 1 lP
def tR:GH Fl:=
  (aO (bv 2 (aJ bC (aC (.int 1)) (aJ cC (aS aV (ag (af 0) (ag (aC (.int 0)) aD))) (af 1))))
  (aO (bv 3 (aS lj (ag (aS aV (ag (af 0) (ag (aC (.int 1)) aD))) aD)))
  (aO (bv 4 (aS (km 8) (ag (aS aV (ag (af 0) (ag (aC (.int 2)) aD))) (ag (af 3) (ag (af 2) (ag (aJ bC (aC (.int 1)) (aJ cC (aS aV (ag (af 0) (ag (aC (.int 3)) aD))) (aC (.int 5)))) aD))))))
  (bd (k8 (ag (af 2) (ag (af 3) (ag (af 4) (ag (aS jc (ag (aS aV (ag (af 0) (ag (aC (.int 4)) aD))) (ag (af 2) aD))) aD)))))))))
def kj:GN:=bj 2 3 tR
def qx:GH Bool:=
  (aT (KR false (af 0) (af 1)))
def rj:GH D:=
  (af 0)
def jb:GH D:=
  (aS jF (ag (af 0) (ag (af 1) aD)))
def kg:GH Fl:=
  (aO (bv 12 (aS (fP 15) (ag (af 3) (ag (af 11) aD))))
  (aO (bv 13 (vO (ag (bz kB (ag (eO 1 [6] (bK (af 12)) (aK 0) qx rj) aD)) (ag (aJ pF (k8 (ag (af 7) aD)) (bz intD (ag (KR false (af 7) (af 12)) aD))) aD))))
  (JB (ji (aT (BU (eO 1 [11] (bK (af 9)) (aK 0) iO jb) (af 13))) (aT (aJ Jn (aS jF (ag (af 10) (ag (af 11) aD))) (af 12)))) (bd (aC (.bl false))) cg)))
def B_:GH Fl:=
  (aO (rF (oG 4 (bJ (aK 1) (bJ (aK 2) (bJ (aK 3) (bJ (aK 4) jK))))) (aS kj (ag (af 0) (ag (aC (.int 6)) aD))))
  (aO (bv 5 (aS fN (ag (af 3) (ag (af 4) aD))))
  (aO (bv 6 (aS gI (ag (aS aV (ag (af 0) (ag (aC (.int 5)) aD))) (ag (af 2) aD))))
  (aO (bv 7 (Hv (aJ bC (af 2) (aC (D.tup [(D.str "zzzzzzzz")]))) (aJ cC (aS aV (ag (af 0) (ag (aC (.int 6)) aD))) (aJ bC (bz cF (ag (af 2) aD)) (aC (.int 1))))))
  (aO (bv 8 (aS jc (ag (aS aV (ag (af 0) (ag (aC (.int 7)) aD))) (ag (af 1) aD))))
  (aO (bv 9 (oq (ag (aS iQ (ag (af 5) (ag (af 6) (ag (af 4) aD)))) (ag (aS oy (ag (af 5) (ag (af 7) (ag (af 4) aD)))) aD))))
  (aO (bv 10 (aS d8 (ag (af 5) (ag (af 8) aD))))
  (aO (JB (ji (dF (aT (aS bP (ag (Hv (af 9) (aC (.int 0))) (ag (af 4) aD))))) (ji (dF (aT (aS bP (ag (Hv (af 9) (aC (.int 1))) (ag (af 4) aD))))) (dF (aT (aS bP (ag (af 10) (ag (af 8) aD))))))) (bd (aC (.bl false))) cg)
  (aO (io (bK (aS hV (ag (af 1) aD))) (aK 11) kg)
  (bd (uo (aJ HP (aS d8 (ag (af 10) (ag (af 4) aD))) (af 5)) (aJ HP (af 10) (aS fN (ag (af 3) (ag (af 8) aD)))))))))))))))
def Au:GN:=bj 1 13 B_
def BN:Stmt->List Stmt
 | .ClassDef _ _ _ b _ _ _ _ _ _ _=>b
 |_=>[]
def s_ (i j:Nat):Stmt:=(BN (top i)).getD j (.Pass ⟨0,0,0,0⟩)
abbrev yX:Stmt:=top 1
abbrev GC(s:Str):=(s,NameKind.local)
abbrev GD(s:Str):=(s,NameKind.globalImplicit)
abbrev GG(s:Str):Str×Const:=("fast",.str s)
abbrev GF(l:List (Str×NameKind))(m:List (Str×Const)):Scope:=⟨.function,l,false,false,m⟩
noncomputable abbrev yB:Scope:=GF [GC "row",GD "len"] []
abbrev jQ:Stmt:=top 2
noncomputable abbrev jI:Scope:=GF [GC "row",GD "asks"] []
abbrev nh:Stmt:=top 3
noncomputable abbrev mG:Scope:=GF [GC "row",GC "order",GD "asks",GD "len"] []
abbrev o_:Stmt:=top 4
noncomputable abbrev oS:Scope:=GF [GC "rows",GC "number",GC "character",GC "value",GC "row"] []
abbrev lB:Stmt:=top 6
noncomputable abbrev lm:Scope:=GF [GC "rows",GC "number",GC "left",GC "below",GD "rows_below",GD "leave_row"] []
abbrev iD:Stmt:=top 5
noncomputable abbrev ir:Scope:=GF [GC "rows",GC "top",GC "left",GD "leave_row",GD "list"] []
abbrev iC:Stmt:=top 7
noncomputable abbrev iq:Scope:=GF [GC "row",GC "numbers",GD "asks"] []
abbrev ig:Stmt:=s_ 8 0
noncomputable abbrev hZ:Scope:=GF [GC "self",GC "order"] []
abbrev gr:Stmt:=s_ 8 7
noncomputable abbrev Ho:Scope:=GF [("self",.cell),GC "top",GC "left",("numbers",.cell),GC "place",GC "number",GD "rows_as_left",GD "enumerate",GD "tuple"] [GG "self",GG "top",GG "left",GG "numbers",GG "place",GG "number"]
abbrev gq:Stmt:=s_ 8 1
noncomputable abbrev gh:Scope:=GF [GC "self",GC "row",GD "len"] []
abbrev dX:Stmt:=s_ 8 2
noncomputable abbrev dW:Scope:=GF [GC "self",GC "character",GC "no",GC "yes"] []
abbrev fR:Stmt:=top 11
noncomputable abbrev Hn:Scope:=GF [GC "names",("others",.cell),GD "tuple"] [GG "names",GG "others",GG "name"]
abbrev pc:Stmt:=top 9
noncomputable abbrev oT:Scope:=GF [GC "fold",GC "order",GC "names_of",GC "rows",GC "numbers",GC "row",GD "Rows",GD "asks"] []
noncomputable abbrev yz:Scope:=GF [GC "fold",("names",.cell),GC "order",GD "renamed"] []
abbrev yU:Stmt:=top 14
noncomputable abbrev yw:Scope:=GF [GC "fold",GC "name",GC "order",GD "only"] []
abbrev db:Stmt:=s_ 8 4
noncomputable abbrev He:Scope:=GF [("self",.cell),GC "character",GC "no",GC "yes",GC "places",GD "min"] [GG "self",GG "character",GG "no",GG "yes",GG "number",GG "places"]
abbrev lH:Stmt:=s_ 8 3
noncomputable abbrev lw:Scope:=GF [GC "self",GC "number",GC "character",GC "value",GD "side_of"] []
abbrev fz:Stmt:=s_ 8 6
noncomputable abbrev fj:Scope:=GF [GC "self",GC "character",GC "no",GC "yes",GC "first",GC "without",GC "having"] []
abbrev jm:Stmt:=s_ 8 5
noncomputable abbrev jk:Scope:=GF [GC "self",GC "character",GC "no",GC "yes",GC "choice"] []
abbrev sv:Stmt:=top 15
noncomputable abbrev rQ:Scope:=GF [GC "fold",GC "order",GC "rows",GC "numbers",GC "row",GD "Rows",GD "asks"] []
abbrev ie:Stmt:=top 18
noncomputable abbrev hW:Scope:=GF [GC "rows",GC "key",GD "number_of_key"] []
abbrev sy:Stmt:=top 17
noncomputable abbrev rS:Scope:=GF [GC "key",GC "order",GC "rows",GD "Rows",GD "number_of_key"] []
abbrev lG:Stmt:=top 20
noncomputable abbrev lv:Scope:=GF [GC "_law_script",GC "_law_k",GD "len"] []
abbrev pi:Stmt:=top 21
noncomputable abbrev oV:Scope:=GF [GC "_law_script",GC "_law_k",GC "_law_drawn_here",GD "_law_cell_at"] []
abbrev pp:Stmt:=top 22
noncomputable abbrev oW:Scope:=GF [GC "_law_number_here",GC "_law_k",GC "_law_drawn_here"] []
abbrev o9:Stmt:=top 23
noncomputable abbrev oR:Scope:=GF [GC "_law_number_here",GC "_law_letters",GC "_law_found",GC "_law_k",GC "_law_drawn_here",GC "_law_word",GC "_law_at_here",GD "range",GD "_law_drawn",GD "int",GD "tuple",GD "sorted"] []
abbrev ph:Stmt:=top 24
noncomputable abbrev IE:Scope:=GF [("_law_number_here",.cell),GC "_law_words_here",GD "tuple",GD "enumerate"] [GG "_law_number_here",GG "_law_words_here",GG "_law_k",GG "_law_word"]
abbrev wm:Stmt:=top 25
noncomputable abbrev v4:Scope:=GF [GC "_law_number_here",GC "_law_words_here",GC "_law_many",GC "_law_deep",GC "_law_no",GC "_law_yes",GD "_law_names",GD "_law_key",GD "_law_drawn"] []
abbrev pf:Stmt:=top 26
noncomputable abbrev oU:Scope:=GF [GC "_law_number_here",GC "_law_many",GC "_law_found",GC "_law_k",GC "_law_at_here",GD "range",GD "_law_drawn",GD "len",GD "tuple"] []
abbrev m_:Stmt:=top 28
noncomputable abbrev HC:Scope:=GF [GC "_law_many",GC "_law_found",GC "_law_k",GD "range",GD "sorted"] [GG "_law_many",GG "_law_found",GG "_law_k",GG "_law_thing"]
abbrev nr:Stmt:=top 29
noncomputable abbrev mI:Scope:=GF [GC "_law_key_here",GC "_law_thing",GD "_law_answer"] []
abbrev yW:Stmt:=top 30
noncomputable abbrev yA:Scope:=GF [GC "_law_fold",GC "_law_thing",GC "_law_row"] []
abbrev ni:Stmt:=top 31
noncomputable abbrev mH:Scope:=GF [GC "_law_thing",GC "_law_high",GD "isinstance",GD "int",GD "bool"] []
abbrev jl:Stmt:=top 32
noncomputable abbrev HD:Scope:=GF [GC "_law_thing",GC "_law_k",GC "_law_part",GD "isinstance",GD "tuple",GD "enumerate",GD "str",GD "len"] [GG "_law_thing",GG "_law_k",GG "_law_part",GG "_law_sign"]
abbrev nk:Stmt:=top 33
noncomputable abbrev Ic:Scope:=GF [("_law_fold",.cell),GC "_law_at_here",GC "_law_order_here",GC "_law_row",("_law_behind",.cell),GD "isinstance",GD "tuple",GD "len",GD "str",GD "_law_are_names",GD "_law_number",GD "list"] [GG "_law_fold",GG "_law_at_here",GG "_law_order_here",GG "_law_row",GG "_law_behind",GG "_law_goal"]
abbrev sx:Stmt:=top 34
noncomputable abbrev Je:Scope:=GF [GC "_law_fold",GC "_law_at_here",GC "_law_row",("_law_found",.cell),GC "_law_goal",GD "_law_left"] [GG "_law_fold",GG "_law_at_here",GG "_law_row",GG "_law_found",GG "_law_goal",GG "_law_one"]
abbrev lF:Stmt:=top 35
noncomputable abbrev lu:Scope:=GF [GC "_law_fold",GC "_law_order_here",GC "_law_at_here",GD "isinstance",GD "tuple",GD "len",GD "range",GD "_law_is_row",GD "_law_left",GD "list"] []
abbrev sw:Stmt:=top 36
noncomputable abbrev rR:Scope:=GF [GC "_law_script",GC "_law_most",GC "_law_many",GC "_law_words_here",GC "_law_key_here",GD "_law_mixed",GD "_law_words",GD "_law_key",GD "_law_order"] []
abbrev yV:Stmt:=top 37
noncomputable abbrev Kz:Scope:=GF [GC "_law_script",GC "_law_many",GC "_law_words_here",GC "_law_key_here",GC "_law_order_here",GC "_law_fold",("_law_some",.cell),GC "_law_name",GC "_law_other",GC "_law_found",GC "_law_way",("_law_thing",.cell),GC "_law_names_here",GC "_law_due",GD "_law_made",GD "folded",GD "_law_names",GD "_law_mixed",GD "len",GD "_law_order",GD "only",GD "told",GD "turned",GD "_law_is_fold",GD "_law_things",GD "_law_answer",GD "tuple",GD "int",GD "_law_at"] [GG "_law_script",GG "_law_many",GG "_law_words_here",GG "_law_key_here",GG "_law_order_here",GG "_law_fold",GG "_law_some",GG "_law_name",GG "_law_other",GG "_law_found",GG "_law_way",GG "_law_thing",GG "_law_names_here",GG "_law_one",GG "_law_due"]
set_option hygiene false in
local macro_rules|`(tactic|and_intros)=>`(tactic|(have hu:=a9 hr;have G9:=aZ hr;have Hz:=a8 hr;have Ig:=hr.gd))
set_option hygiene false in
local macro_rules|`(tactic|nofun)=>`(tactic|exact ⟨rfl,rfl,rfl,by decide,rfl,by decide,by decide⟩)
set_option hygiene false in
local macro_rules|`(tactic|exists $z)=>`(tactic|exact(show ∀ y∈(_:List (Str×NameKind)),y.2=NameKind.free->List.lookup y.1 ($z).names=some NameKind.cell∨List.lookup y.1 ($z).names=some NameKind.free from by decide))
set_option hygiene false in
local macro_rules|`(tactic|exists $z,$n)=>`(tactic|exact(show ∀ t∈(($z):List Nat),List.lookup ((($n):List Str).getD t Str.empty) _=some NameKind.free from by decide))
set_option hygiene false in
local macro_rules|`(tactic|symm)=>`(tactic|exact hr.mono (by omega))
set_option hygiene false in
local macro_rules|`(!$n:num)=>`(aa (i:=$n))
structure Top (K:GI) (mg:GL):Prop where
 OP:bu K mg "asks" yX ["row"]
 KU:bu K mg "rows_below" jQ ["row"]
 Lw:bu K mg "place_of" nh ["row","order"]
 Ma:bu K mg "side_of" o_ ["rows","number","character","value"]
 JD:bu K mg "leave_row" lB ["rows","number","left"]
 J_:bu K mg "rows_as_left" iD ["rows","top"]
 Ka:bu K mg "with_numbers" iC ["row","numbers"]
 JO:DT K mg "Rows" "Rows.__init__" ig ["self","order"]
 Ju:MethAt K "Rows" "fold_from" "Rows.fold_from" gr ["self","top"]
 Jv:MethAt K "Rows" "number_of" "Rows.number_of" gq ["self","row"]
 IA:MethAt K "Rows" "number_of_ask" "Rows.number_of_ask" dX ["self","character","no","yes"]
 Jf:bu K mg "names_in_common" fR ["names","others"]
 Mb:bu K mg "renamed" pc ["fold","order","names_of"]
 OQ:bu K mg "only" fy ["fold","names","order"]
 OR:bu K mg "told" yU ["fold","name","order"]
 Ie:MethAt K "Rows" "first_character" "Rows.first_character" db ["self","character","no","yes"]
 K9:MethAt K "Rows" "side" "Rows.side" lH ["self","number","character","value"]
 IT:MethAt K "Rows" "choose_anew" "Rows.choose_anew" fz ["self","character","no","yes"]
 IK:MethAt K "Rows" "choose" "Rows.choose" jm ["self","character","no","yes"]
 ML:bu K mg "turned" sv ["fold","order"]
 Ij:bu K mg "number_of_key" ie ["rows","key"]
 MM:bu K mg "folded" sy ["key","order"]
 K_:bu K mg "_law_cell_at" lG ["_law_script","_law_k"]
 Mc:bu K mg "_law_mixed" pi ["_law_script","_law_k"]
 Md:bu K mg "_law_drawn" pp ["_law_number_here","_law_k"]
 Me:bu K mg "_law_words" o9 ["_law_number_here"]
 Mf:bu K mg "_law_names" ph ["_law_number_here","_law_words_here"]
 LN:bu K mg "_law_key" wm ["_law_number_here","_law_words_here","_law_many","_law_deep"]
 Mh:bu K mg "_law_order" pf ["_law_number_here","_law_many"]
 Lx:bu K mg "_law_things" m_ ["_law_many"]
 Kb:bu K mg "_law_answer" nr ["_law_key_here","_law_thing"]
 OS:bu K mg "_law_at" yW ["_law_fold","_law_thing"]
 Ly:bu K mg "_law_number" ni ["_law_thing","_law_high"]
 Kp:bu K mg "_law_are_names" jl ["_law_thing"]
 Lz:bu K mg "_law_is_row" nk ["_law_fold","_law_at_here","_law_order_here"]
 La:bu K mg "_law_left" sx ["_law_fold","_law_at_here"]
 Lb:bu K mg "_law_is_fold" lF ["_law_fold","_law_order_here"]
 MN:bu K mg "_law_made" sw ["_law_script","_law_most"]
 QC:bu K mg "law" yV ["_law_script"]
 MP:DR K mg "only"
 HM:mg "len"=none
 LA:mg "list"=none
 IB:mg "enumerate"=none
 HH:mg "tuple"=none
 QD:mg "min"=none
 IF:mg "range"=none
 MQ:mg "int"=none
 Lc:mg "sorted"=none
 Hj:mg "isinstance"=none
 OT:mg "bool"=none
 NX:mg "str"=none
 HJ:l0 K "Rows" "order"
 Hc:l0 K "Rows" "gathered"
 Hw:l0 K "Rows" "numbers"
 Hx:l0 K "Rows" "choices"
structure Hk (K:GI) (mg:GL) (base:Heap):Prop extends Top K mg where
 bm:BmB base mg
section
variable {P:Program}{w:World}{K:GI}{mg:GL}{base:Heap}
theorem AB:aB yX=yB:=rfl
theorem LO:GR ["row"] ["row"] yB:=by nofun
theorem iM (T:Hk K mg base):Io P w K mg base 1 "asks" ["row"] fO:=
 a_ T.OP AB LO (λf Hd A outer s H E hr=>by
 and_intros;have nd:=LO.nd
 exact(au (aI (iB (df hu) (bp dz T.HM cW (ae (!0) ai)) aj))))
theorem oC:aB jQ=jI:=rfl
theorem IL:GR ["row"] ["row"] jI:=by nofun
theorem oi (T:Hk K mg base):Io P w K mg base 2 "rows_below" ["row"] dD:=
 a_ T.KU oC IL (λf Hd A outer s H E hr=>by
 and_intros;have nd:=IL.nd
 exact(au (aI (kH (ck (aG (iM T) (by symm) (ae (!0) ai))) (mY Oe (!0) aj trivial) (ej ai)))))
theorem rM:aB nh=mG:=rfl
theorem JE:GR ["row","order"] ["row","order"] mG:=by nofun
theorem rB (T:Hk K mg base):Io P w K mg base 2 "place_of" ["row","order"] jD:=
 a_ T.Lw rM JE (λf Hd A outer s H E hr=>by
 and_intros;have nd:=JE.nd
 exact(au (aI (kH (ck (aG (iM T) (by symm) (ae (!0) ai))) (pH rfl (!1) (aH G9 (!0) aj)) (bp dz T.HM cW (ae (!1) ai))))))
theorem uB:aB o_=oS:=rfl
theorem Kc:GR ["rows","number","character","value","row"] ["rows","number","character","value"] oS:=by nofun
theorem uf (T:Hk K mg base):Io P w K mg base 1 "side_of" ["rows","number","character","value"] ll:=
 a_ T.Ma uB Kc (λf Hd A outer s H E hr=>by
 and_intros;have nd:=Kc.nd
 exact(ao (aL (i:=4) nd (wl (!0) (!1)))
  (au (aI (kH (bB (df hu) (aH G9 (!4) aj) (!2)) (aH G9 (!4) (aF aY aj (!3))) (!1))))))
theorem qk:aB lB=lm:=rfl
theorem Jg:GR ["rows","number","left","below"] ["rows","number","left"] lm:=by nofun
theorem jr (T:Hk K mg base):∀ n:Nat,Io P w K mg base (n+2) "leave_row" ["rows","number","left"] (br n)
 | 0=>iL T.JD
 |n+1=>by
  have IJ:=jr T n
  exact a_ T.JD qk Jg (λf Hd A outer s H E hr=>by
   and_intros;have nd:=Jg.nd
   exact(ao (d_ PassesOwn.never rfl (cR (aG (oi T) (by symm) (ae (wl (!0) (!1)) ai))) (aR (i:=3) nd) (au (cm (kC hu G9 Hz (!3) (!2)) (au (gK (aG IJ (by symm) (ae (!0) (ae (!3) (ae (!2) ai)))))) bh)))
    (au (uV G9 (!2) (!1) fu))))
theorem l6:aB iD=ir:=rfl
theorem Ik:GR ["rows","top","left"] ["rows","top"] ir:=by nofun
theorem k7 (T:Hk K mg base):Io P w K mg base 13 "rows_as_left" ["rows","top"] fL:=
 a_ T.J_ l6 Ik (λf Hd A outer s H E hr=>by
 and_intros;have nd:=Ik.nd
 exact(ao (aL (i:=2) nd qK)
  (ao (gK (aG (jr T 10) (by symm) (ae (!0) (ae (!1) (ae (!2) ai)))))
  (au (aI (su G9 T.LA (!2)))))))
theorem l5:aB iC=iq:=rfl
theorem Il:GR ["row","numbers"] ["row","numbers"] iq:=by nofun
theorem kZ (T:Hk K mg base):Io P w K mg base 2 "with_numbers" ["row","numbers"] fK:=
 a_ T.Ka l5 Il (λf Hd A outer s H E hr=>by
 and_intros;have nd:=Il.nd
 exact(au (aI (kH (ck (aG (iM T) (by symm) (ae (!0) ai))) (ej (ae (aH G9 (!0) aj) (ae (aH G9 (!1) (aH G9 (!0) aj)) (ae (aH G9 (!1) (aH G9 (!0) aj)) ai)))) (!0)))))
theorem kr:aB ig=hZ:=rfl
theorem HW:GR ["self","order"] ["self","order"] hZ:=by nofun
theorem dA (T:Hk K mg base):DV P w K mg base 1 "Rows" ["self","order"] bf:=
 BS T.JO kr HW (λf Hd A outer s H E hr=>by
 and_intros;have nd:=HW.nd
 exact(ao (qB T.HJ (!0) (!1))
  (ao (qB T.Hc (!0) qJ)
  (ao (qB T.Hw (!0) wj)
  (au (qB T.Hx (!0) wj))))))
theorem jH:aB gr=Ho:=rfl
theorem HQ:GR ["self","top","left","numbers","place","number"] ["self","top"] Ho:=by nofun
theorem cV (T:Hk K mg base):oB P w K mg base 14 "Rows" "fold_from" ["self","top"] bN:=
 hM T.Ju jH HQ (λf Hd A outer s H E hr=>by
 and_intros;have nd:=HQ.nd
 exact(ao (aL (i:=2) nd (aG (k7 T) (by symm) (ae (cS T.Hc (!0)) (ae (!1) ai))))
  (ao (aL (i:=3) nd qK)
  (ao (d_ PassesOwn.never rfl (yO rfl T.IB (ae (!2) ai)) (qI rfl (cH (aR (i:=4) nd) (cH (aR (i:=5) nd) mf))) (au (uV G9 (!3) (!5) (!4))))
  (au (aI (cB kY T.HH dB (ae (dO (ts:=["number"]) (ix:=[3,0]) rfl ⟨rfl,by decide,by decide,by exists Ho⟩ (by exists [3,0],["self","top","left","numbers","place","number"]) (cR (!2)) (λ_ _ _ _ _=>⟨(aR (i:=0) (show (["number","numbers","self"]:List Str).Nodup from by decide)),jN,(aG (kZ T) (by symm) (ae (gM (cS T.Hc (!2)) (!0)) (ae (!1) ai)))⟩)) ai))))))))
theorem jG:aB gq=gh:=rfl
theorem HR:GR ["self","row"] ["self","row"] gh:=by nofun
theorem bV (T:Hk K mg base):oB P w K mg base 1 "Rows" "number_of" ["self","row"] aX:=
 hM T.Jv jG HR (λf Hd A outer s H E hr=>by
 and_intros;have nd:=HR.nd
 exact(ao (cm (o7 hu (!1) (cS T.Hw (!0))) (ao (we hu (cS T.Hw (!0)) (!1) (AR T.HM (cS T.Hc (!0))))
  (au (gK (mZ rfl (cS T.Hc (!0)) (!1))))) bh)
  (au (aI (wg hu (cS T.Hw (!0)) (!1))))))
theorem ij:aB dX=dW:=rfl
theorem HA:GR ["self","character","no","yes"] ["self","character","no","yes"] dW:=by nofun
theorem bU (T:Hk K mg base):oB P w K mg base 2 "Rows" "number_of_ask" ["self","character","no","yes"] bt:=
 hM T.IA ij HA (λf Hd A outer s H E hr=>by
 and_intros;have nd:=HA.nd
 exact(au (aI (kH (bB (df hu) (!2) (!3)) (!2) (bg (bV T) (by symm) (!0) (ae (ej (ae (!1) (ae (!2) (ae (!3) ai)))) ai))))))
theorem js:aB fR=Hn:=rfl
theorem HN:GR ["names","others"] ["names","others"] Hn:=by nofun
theorem jh (T:Hk K mg base):Io P w K mg base 1 "names_in_common" ["names","others"] dE:=
 a_ T.Jf js HN (λf Hd A outer s H E hr=>by
 and_intros;have nd:=HN.nd
 exact(au (aI (cB kY T.HH dB (ae (dO (ts:=["name"]) (ix:=[1]) rfl ⟨rfl,by decide,by decide,by exists Hn⟩ (by exists [1],["names","others"]) (cR (!0)) (λ_ _ _ _ _=>⟨(aR (i:=0) (show (["name","others"]:List Str).Nodup from by decide)),(iT (qu hu G9 Hz (!0) (!1))),(!0)⟩)) ai)))))
theorem uC:aB pc=oT:=rfl
theorem Kd:GR ["fold","order","names_of","rows","numbers","row"] ["fold","order","names_of"] oT:=by nofun
theorem ug (T:Hk K mg base):Io P w K mg base 17 "renamed" ["fold","order","names_of"] e_:=
 a_ T.Mb uC Kd (λf Hd A outer s H E hr=>by
 and_intros;have nd:=Kd.nd
 exact(ao (aL (i:=3) nd (qL (dA T) (by symm) (ae (!1) ai)))
  (ao (aL (i:=4) nd qJ)
  (ao (d_ PassesOwn.never rfl (cR (!0)) (aR (i:=5) nd) (au (cm (ck (aG (iM T) (by symm) (ae (!5) ai))) (au (gK (mZ rfl (!4) (bg (bU T) (by symm) (!3) (ae (aH G9 (!5) aj) (ae (gM (!4) (aH G9 (!5) aj)) (ae (gM (!4) (aH G9 (!5) aj)) ai))))))) (au (gK (mZ rfl (!4) (bg (bV T) (by symm) (!3) (ae (ej (ae dI (ae (AT (l:=jX fy) (q:="only.<locals>.<lambda>") (n:="names") (x:="held") (k:=1) rfl (by symm) (!2) (aH G9 (!5) aj) ⟨rfl,by decide,rfl,rfl,by decide,rfl,rfl⟩ (λ_ _ _ _ _ hr=>(aG (jh T) (by symm) (ae (!0) (ae (!1) ai)))) (λ_ _ _ _ _=>rfl)) ai))) ai))))))))
  (au (aI (bg (cV T) (by symm) (!3) (ae (gM (!4) (wf qr aj)) ai))))))))
theorem Az:aB fy=yz:=rfl
theorem LP:GR ["fold","names","order"] ["fold","names","order"] yz:=by nofun
theorem uh (T:Hk K mg base):Io P w K mg base 20 "only" ["fold","names","order"] iQ:=
 BR T.OQ T.MP Az LP (λf Hd _ _ Tf Tg Ti A outer s H E hr=>by
 and_intros;have nd:=LP.nd
 exact(au (aI (uZ (z:="only") (q:="only.<locals>.<lambda>") (n:="names") (i:=1) rfl (ug T) (by symm) (!0) (!2) rfl rfl rfl rfl (by decide) (by decide) (by decide) rfl rfl Tf Tg Ti T.bm))))
theorem Ay:aB yU=yw:=rfl
theorem LR:GR ["fold","name","order"] ["fold","name","order"] yw:=by nofun
theorem Aj (T:Hk K mg base):Io P w K mg base 21 "told" ["fold","name","order"] oy:=
 a_ T.OR Ay LR (λf Hd A outer s H E hr=>by
 and_intros;have nd:=LR.nd
 exact(au (aI (aG (uh T) (by symm) (ae (!0) (ae (ej (ae (!1) ai)) (ae (!2) ai)))))))
theorem gg:aB db=He:=rfl
theorem Ht:GR ["self","character","no","yes","places"] ["self","character","no","yes"] He:=by nofun
theorem f8 (T:Hk K mg base):oB P w K mg base 3 "Rows" "first_character" ["self","character","no","yes"] bW:=
 hM T.Ie gg Ht (λf Hd A outer s H E hr=>by
 and_intros;have nd:=Ht.nd
 exact(ao (uU (ts:=["number"]) (ix:=[0]) (i:=4) nd rfl ⟨rfl,by decide,by decide,by exists He⟩ (by exists [0],["self","character","no","yes","places"]) (cR (ej (ae (!2) (ae (!3) ai)))) (λ_ _ _ _ _=>⟨(aR (i:=0) (show (["number","self"]:List Str).Nodup from by decide)),jN,(aG (rB T) (by symm) (ae (gM (cS T.Hc (!1)) (!0)) (ae (cS T.HJ (!1)) ai)))⟩))
  (au (aI (aH G9 (cS T.HJ (!0)) (bp (BQ rfl) T.QD DN (ae (aF aY (!4) (gL (ae (pH rfl (cS T.HJ (!0)) (!1)) ai))) ai)))))))
theorem qo:aB lH=lw:=rfl
theorem Jh:GR ["self","number","character","value"] ["self","number","character","value"] lw:=by nofun
theorem bZ (T:Hk K mg base):oB P w K mg base 2 "Rows" "side" ["self","number","character","value"] bQ:=
 hM T.K9 qo Jh (λf Hd A outer s H E hr=>by
 and_intros;have nd:=Jh.nd
 exact(au (aI (aG (uf T) (by symm) (ae (cS T.Hc (!0)) (ae (!1) (ae (!2) (ae (!3) ai))))))))
theorem jd:aB fz=fj:=rfl
theorem HF:GR ["self","character","no","yes","first","without","having"] ["self","character","no","yes"] fj:=by nofun
theorem iN (T:Hk K mg base){n:Nat}{rec:GN}(IJ:oB P w K mg base (n*2+3) "Rows" "choose" ["self","character","no","yes"] rec):oB P w K mg base (n*2+4) "Rows" "choose_anew" ["self","character","no","yes"] (cY rec):=by
 rw[show n*2+4=(n*2+3)+1 from by omega]
 exact hM T.IT jd HF (λf Hd A outer s H E hr=>by
 and_intros;have nd:=HF.nd
 exact(ao (aL (i:=4) nd (bg (f8 T) (by symm) (!0) (ae (!1) (ae (!2) (ae (!3) ai)))))
  (ao (cm (bB (df hu) (!4) (!1)) (au (aI (bg (bU T) (by symm) (!0) (ae (!1) (ae (bg (bZ T) (by symm) (!0) (ae (!2) (ae (!1) (ae aj ai)))) (ae (bg (bZ T) (by symm) (!0) (ae (!3) (ae (!1) (ae aj ai)))) ai)))))) bh)
  (ao (aL (i:=5) nd (bg IJ (by symm) (!0) (ae (!1) (ae (bg (bZ T) (by symm) (!0) (ae (!2) (ae (!4) (ae aj ai)))) (ae (bg (bZ T) (by symm) (!0) (ae (!3) (ae (!4) (ae aj ai)))) ai)))))
  (ao (aL (i:=6) nd (bg IJ (by symm) (!0) (ae (!1) (ae (bg (bZ T) (by symm) (!0) (ae (!2) (ae (!4) (ae aj ai)))) (ae (bg (bZ T) (by symm) (!0) (ae (!3) (ae (!4) (ae aj ai)))) ai)))))
  (au (aI (bg (bU T) (by symm) (!0) (ae (!4) (ae (!5) (ae (!6) ai)))))))))))
theorem mF:aB jm=jk:=rfl
theorem IC:GR ["self","character","no","yes","choice"] ["self","character","no","yes"] jk:=by nofun
theorem eK (T:Hk K mg base):∀ n:Nat,oB P w K mg base (n*2+3) "Rows" "choose" ["self","character","no","yes"] (cN n)
 | 0=>yo T.IK
 |n+1=>by
  have IJ:=eK T n;rw[show (n+1)*2+3=(n*2+4)+1 from by omega]
  exact hM T.IK mF IC (λf Hd A outer s H E hr=>by
   and_intros;have nd:=IC.nd
   exact(ao (aL (i:=4) nd (ej (ae (!1) (ae (!2) (ae (!3) ai)))))
    (ao (cm (o7 hu (!4) (cS T.Hx (!0))) (au (we hu (cS T.Hx (!0)) (!4) (kH (bB (df hu) (!2) (!3)) (!2) (bg (iN T IJ) (by symm) (!0) (ae (!1) (ae (!2) (ae (!3) ai))))))) bh)
    (au (aI (wg hu (cS T.Hx (!0)) (!4)))))))
theorem w6:aB sv=rQ:=rfl
theorem KA:GR ["fold","order","rows","numbers","row"] ["fold","order"] rQ:=by nofun
theorem oh (T:Hk K mg base):Io P w K mg base 22 "turned" ["fold","order"] d8:=
 a_ T.ML w6 KA (λf Hd A outer s H E hr=>by
 and_intros;have nd:=KA.nd
 exact(ao (aL (i:=2) nd (qL (dA T) (by symm) (ae (!1) ai)))
  (ao (aL (i:=3) nd qJ)
  (ao (d_ PassesOwn.never rfl (cR (!0)) (aR (i:=4) nd) (au (cm (ck (aG (iM T) (by symm) (ae (!4) ai))) (au (gK (mZ rfl (!3) (bg (eK T 9) (by symm) (!2) (ae (aH G9 (!4) aj) (ae (gM (!3) (aH G9 (!4) aj)) (ae (gM (!3) (aH G9 (!4) aj)) ai))))))) (au (gK (mZ rfl (!3) (bg (bV T) (by symm) (!2) (ae (!4) ai))))))))
  (au (aI (bg (cV T) (by symm) (!2) (ae (gM (!3) (wf qr aj)) ai))))))))
theorem ko:aB ie=hW:=rfl
theorem HX:GR ["rows","key"] ["rows","key"] hW:=by nofun
theorem fV (T:Hk K mg base):∀ n:Nat,Io P w K mg base (n+21) "number_of_key" ["rows","key"] (cQ n)
 | 0=>iL T.Ij
 |n+1=>by
  have IJ:=fV T n
  exact a_ T.Ij ko HX (λf Hd A outer s H E hr=>by
   and_intros;have nd:=HX.nd
   exact(ao (cm (bB (df hu) (aH G9 (!1) aj) dI) (au (aI (bg (bV T) (by symm) (!0) (ae (!1) ai)))) bh)
    (au (aI (bg (eK T 9) (by symm) (!0) (ae (aH G9 (!1) aj) (ae (aG IJ (by symm) (ae (!0) (ae (aH G9 (!1) aj) ai))) (ae (aG IJ (by symm) (ae (!0) (ae (aH G9 (!1) aj) ai))) ai))))))))
theorem w_:aB sy=rS:=rfl
theorem KC:GR ["key","order","rows"] ["key","order"] rS:=by nofun
theorem om (T:Hk K mg base):Io P w K mg base 37 "folded" ["key","order"] fN:=
 a_ T.MM w_ KC (λf Hd A outer s H E hr=>by
 and_intros;have nd:=KC.nd
 exact(ao (aL (i:=2) nd (qL (dA T) (by symm) (ae (!1) ai)))
  (au (aI (bg (cV T) (by symm) (!2) (ae (aG (fV T 15) (by symm) (ae (!2) (ae (!0) ai))) ai))))))
theorem qm:aB lG=lv:=rfl
theorem Ji:GR ["_law_script","_law_k"] ["_law_script","_law_k"] lv:=by nofun
theorem oO (T:Hk K mg base):Io P w K mg base 1 "_law_cell_at" ["_law_script","_law_k"] iR:=
 a_ T.K_ qm Ji (λf Hd A outer s H E hr=>by
 and_intros;have nd:=Ji.nd
 exact(ao (cm (bB sK (!1) (bp dz T.HM cW (ae (!0) ai))) (au (aI (aH G9 (!0) (!1)))) bh)
  (au (aI aj))))
theorem uF:aB pi=oV:=rfl
theorem Ke:GR ["_law_script","_law_k","_law_drawn_here"] ["_law_script","_law_k"] oV:=by nofun
theorem bO (T:Hk K mg base):Io P w K mg base 2 "_law_mixed" ["_law_script","_law_k"] aV:=
 a_ T.Mc uF Ke (λf Hd A outer s H E hr=>by
 and_intros;have nd:=Ke.nd
 exact(ao (aL (i:=2) nd (aF cT (aF de (aF aY (aF aY (aG (oO T) (by symm) (ae (!0) (ae (!1) ai))) (aF de aj (!1))) aj) aj) aj))
  (au (aI (aF cT (aF aY (aF aY (aF de (!2) (!2)) (aF de aj (!2))) (!1)) aj)))))
theorem uG:aB pp=oW:=rfl
theorem Kf:GR ["_law_number_here","_law_k","_law_drawn_here"] ["_law_number_here","_law_k"] oW:=by nofun
theorem fW (T:Hk K mg base):Io P w K mg base 1 "_law_drawn" ["_law_number_here","_law_k"] fg:=
 a_ T.Md uG Kf (λf Hd A outer s H E hr=>by
 and_intros;have nd:=Kf.nd
 exact(ao (aL (i:=2) nd (aF cT (aF de (aF aY (aF aY (!0) (aF de aj (!1))) aj) aj) aj))
  (au (aI (aF cT (aF aY (aF aY (aF de (!2) (!2)) (aF de aj (!2))) (!1)) aj)))))
theorem uA:aB o9=oR:=rfl
theorem Kg:GR ["_law_number_here","_law_letters","_law_found","_law_k","_law_drawn_here","_law_word","_law_at_here"] ["_law_number_here"] oR:=by nofun
theorem ue (T:Hk K mg base):Io P w K mg base 2 "_law_words" ["_law_number_here"] lj:=
 a_ T.Me uA Kg (λf Hd A outer s H E hr=>by
 and_intros;have nd:=Kg.nd
 exact(ao (aL (i:=1) nd dI)
  (ao (aL (i:=2) nd qK)
  (ao (d_ PassesOwn.never rfl (gm rfl T.IF (ae aj ai)) (aR (i:=3) nd) (ao (aL (i:=4) nd (aG (fW T) (by symm) (ae (!0) (ae (!3) ai))))
  (ao (aL (i:=5) nd (aH G9 (!1) (aF cT (!4) aj)))
  (ao (d_ PassesOwn.never rfl (gm rfl T.IF (ae (aF de (aF cT (aF jU (!4) aj) aj) (aF cT (!0) aj)) ai)) (aR (i:=6) nd) (au (aL (i:=5) nd (aF aY (!5) (aH G9 (!1) (aF cT (aF jU (!4) (aF aY (aF de aj (!6)) aj)) aj))))))
  (au (uV G9 (!2) (aF aY (!5) (aF de dI (cB Ag T.MQ vR (ae (yS hu G9 Hz (!5) (jt (.tup (.cons (.str ⟨by decide,by decide⟩) (.cons (.str ⟨by decide,by decide⟩) (.cons (.str ⟨by decide,by decide⟩) .nil))) (by decide)))) ai)))) fu))))))
  (au (aI (cB kY T.HH dB (ae (AQ rfl rfl T.Lc (!2)) ai))))))))
theorem uE:aB ph=IE:=rfl
theorem Kh:GR ["_law_number_here","_law_words_here"] ["_law_number_here","_law_words_here"] IE:=by nofun
theorem lV (T:Hk K mg base):Io P w K mg base 1 "_law_names" ["_law_number_here","_law_words_here"] gI:=
 a_ T.Mf uE Kh (λf Hd A outer s H E hr=>by
 and_intros;have nd:=Kh.nd
 exact(au (aI (cB kY T.HH dB (ae (dO (ts:=["_law_k","_law_word"]) (ix:=[0]) rfl ⟨rfl,by decide,by decide,by exists IE⟩ (by exists [0],["_law_number_here","_law_words_here"]) (qH rfl T.IB (ae (!1) ai)) (λ_ _ _ _ _=>⟨(qI rfl (cH (aR (i:=0) (show (["_law_k","_law_word","_law_number_here"]:List Str).Nodup from by decide)) (cH (aR (i:=1) (show (["_law_k","_law_word","_law_number_here"]:List Str).Nodup from by decide)) mf))),(iT (bB (df hu) (aF cT (aF jU (!2) (aF aY (aF de aj (!0)) aj)) aj) aj)),(!1)⟩)) ai)))))
theorem yv:aB wm=v4:=rfl
theorem Ld:GR ["_law_number_here","_law_words_here","_law_many","_law_deep","_law_no","_law_yes"] ["_law_number_here","_law_words_here","_law_many","_law_deep"] v4:=by nofun
theorem qd (T:Hk K mg base):∀ n:Nat,Io P w K mg base (n+1) "_law_key" ["_law_number_here","_law_words_here","_law_many","_law_deep"] (km n)
 | 0=>iL T.LN
 |n+1=>by
  have IJ:=qd T n
  exact a_ T.LN yv Ld (λf Hd A outer s H E hr=>by
   and_intros;have nd:=Ld.nd
   exact(ao (cm (dM (h9 (bB (df hu) (!3) aj) (iA (bB (df hu) (aF cT (!0) aj) aj)))) (au (aI (ej (ae dI (ae (aG (lV T) (by symm) (ae (aF jU (!0) aj) (ae (!1) ai))) ai))))) bh)
    (ao (aL (i:=4) nd (aG IJ (by symm) (ae (aG (fW T) (by symm) (ae (!0) (ae aj ai))) (ae (!1) (ae (!2) (ae (aF jx (!3) aj) ai))))))
    (ao (aL (i:=5) nd (aG IJ (by symm) (ae (aG (fW T) (by symm) (ae (!0) (ae aj ai))) (ae (!1) (ae (!2) (ae (aF jx (!3) aj) ai))))))
    (au (aI (ej (ae dI (ae (aF cT (aF jU (!0) aj) (!2)) (ae (!4) (ae (!5) ai)))))))))))
theorem uD:aB pf=oU:=rfl
theorem Ki:GR ["_law_number_here","_law_many","_law_found","_law_k","_law_at_here"] ["_law_number_here","_law_many"] oU:=by nofun
theorem lU (T:Hk K mg base):Io P w K mg base 2 "_law_order" ["_law_number_here","_law_many"] jc:=
 a_ T.Mh uD Ki (λf Hd A outer s H E hr=>by
 and_intros;have nd:=Ki.nd
 exact(ao (aL (i:=2) nd (gL ai))
  (ao (d_ PassesOwn.never rfl (gm rfl T.IF (ae (!1) ai)) (aR (i:=3) nd) (ao (aL (i:=4) nd (aF cT (aG (fW T) (by symm) (ae (!0) (ae (!3) ai))) (aF aY (bp dz T.HM cW (ae (!2) ai)) aj)))
  (au (aL (i:=2) nd (aF aY (aF aY (mY Oe (!2) trivial (!4)) (gL (ae (!3) ai))) (mY Oe (!2) (!4) trivial))))))
  (au (aI (cB kY T.HH dB (ae (!2) ai)))))))
theorem rL:aB m_=HC:=rfl
theorem JF:GR ["_law_many","_law_found","_law_k"] ["_law_many"] HC:=by nofun
theorem rA (T:Hk K mg base):Io P w K mg base 1 "_law_things" ["_law_many"] hV:=
 a_ T.Lx rL JF (λf Hd A outer s H E hr=>by
 and_intros;have nd:=JF.nd
 exact(ao (aL (i:=1) nd (jt (.lst (.cons (.tup .nil (by decide)) .nil) (by decide))))
  (ao (d_ PassesOwn.never rfl (gm rfl T.IF (ae (!0) ai)) (aR (i:=2) nd) (au (aL (i:=1) nd (aF aY (dO (ts:=["_law_thing"]) (ix:=[]) rfl ⟨rfl,by decide,by decide,by exists HC⟩ (by exists [],["_law_many","_law_found","_law_k"]) (cR (!1)) (λ_ _ _ _ _=>⟨(aR (i:=0) (show (["_law_thing"]:List Str).Nodup from by decide)),jN,(aF aY (!0) (jt (.tup (.cons .int .nil) (by decide))))⟩)) (dO (ts:=["_law_thing"]) (ix:=[]) rfl ⟨rfl,by decide,by decide,by exists HC⟩ (by exists [],["_law_many","_law_found","_law_k"]) (cR (!1)) (λ_ _ _ _ _=>⟨(aR (i:=0) (show (["_law_thing"]:List Str).Nodup from by decide)),jN,(aF aY (!0) (jt (.tup (.cons .int .nil) (by decide))))⟩))))))
  (au (aI (bp Af T.Lc k_ (ae (!1) ai)))))))
theorem rP:aB nr=mI:=rfl
theorem JG:GR ["_law_key_here","_law_thing"] ["_law_key_here","_law_thing"] mI:=by nofun
theorem j9 (T:Hk K mg base):∀ n:Nat,Io P w K mg base (n+0) "_law_answer" ["_law_key_here","_law_thing"] (fP n)
 | 0=>iL T.Kb
 |n+1=>by
  have IJ:=j9 T n
  exact a_ T.Kb rP JG (λf Hd A outer s H E hr=>by
   and_intros;have nd:=JG.nd
   exact(ao (cm (bB (df hu) (aH G9 (!0) aj) dI) (au (aI (aH G9 (!0) aj))) bh)
    (au (aI (aG IJ (by symm) (ae (aH G9 (!0) (aF aY aj (aH G9 (!1) (aH G9 (!0) aj)))) (ae (!1) ai)))))))
theorem AA:aB yW=yA:=rfl
theorem LS:GR ["_law_fold","_law_thing","_law_row"] ["_law_fold","_law_thing"] yA:=by nofun
theorem ui (T:Hk K mg base):Io P w K mg base 1 "_law_at" ["_law_fold","_law_thing"] jF:=
 a_ T.OS AA LS (λf Hd A outer s H E hr=>by
 and_intros;have nd:=LS.nd
 exact(ao (aL (i:=2) nd (aH G9 (!0) (wf qr aj)))
  (ao (yL PassesOwn.never (bB (pB hu) (aH G9 (!2) aj) dI) (au (aL (i:=2) nd (aH G9 (!0) (aH G9 (!2) (aF aY aj (aH G9 (!1) (aH G9 (!2) aj))))))))
  (au (aI (aH G9 (!2) aj))))))
theorem rN:aB ni=mH:=rfl
theorem JH:GR ["_law_thing","_law_high"] ["_law_thing","_law_high"] mH:=by nofun
theorem g_ (T:Hk K mg base):Io P w K mg base 1 "_law_number" ["_law_thing","_law_high"] fM:=
 a_ T.Ly rN JH (λf Hd A outer s H E hr=>by
 and_intros;have nd:=JH.nd
 exact(au (aI (m5 (ju BB rfl T.Hj T.MQ vR (!0)) (m5 (Cw (ju zO rfl T.Hj T.OT BV (!0))) (uY (yT B7 B7 aj (!0) (!1))))))))
theorem mE:aB jl=HD:=rfl
theorem ID:GR ["_law_thing","_law_k","_law_part"] ["_law_thing"] HD:=by nofun
theorem me (T:Hk K mg base):Io P w K mg base 1 "_law_are_names" ["_law_thing"] ge:=
 a_ T.Kp mE ID (λf Hd A outer s H E hr=>by
 and_intros;have nd:=ID.nd
 exact(ao (cm (dG (ck (ju kit_tuple rfl T.Hj T.HH dB (!0)))) (au (aI fu)) bh)
  (ao (d_ PassesOwn.never rfl (qH rfl T.IB (ae (!0) ai)) (qI rfl (cH (aR (i:=1) nd) (cH (aR (i:=2) nd) mf))) (ao (cm (dM (h9 (dG (ck (ju wE rfl T.Hj T.NX Ap (!2)))) (h9 (dG (yE sK sK aj (bp dz T.HM cW (ae (!2) ai)) aj)) (iA (dM (yJ (bB Er (!1) aj) (wb (dG (bB sK (aH G9 (!0) (aF jx (!1) aj)) (!2)))))))))) (au (aI fu)) bh)
  (ao (cm (qu hu G9 Hz (!2) (jt (.tup (.cons (.str ⟨by decide,by decide⟩) (.cons (.str ⟨by decide,by decide⟩) (.cons (.str ⟨by decide,by decide⟩) .nil))) (by decide)))) (au (aI fu)) bh)
  (au (cm (bB (pB hu) (dO (ts:=["_law_sign"]) (ix:=[]) rfl ⟨rfl,by decide,by decide,by exists HD⟩ (by exists [],["_law_thing","_law_k","_law_part"]) (cR (!2)) (λ_ _ _ _ _=>⟨(aR (i:=0) (show (["_law_sign"]:List Str).Nodup from by decide)),(iT (bB sK (Bt rfl dI (!0)) aj)),(!0)⟩)) (gL ai)) (au (aI fu)) bh)))))
  (au (aI fu)))))
theorem rO:aB nk=Ic:=rfl
theorem JI:GR ["_law_fold","_law_at_here","_law_order_here","_law_row","_law_behind"] ["_law_fold","_law_at_here","_law_order_here"] Ic:=by nofun
theorem rC (T:Hk K mg base):Io P w K mg base 2 "_law_is_row" ["_law_fold","_law_at_here","_law_order_here"] jE:=
 a_ T.Lz rO JI (λf Hd A outer s H E hr=>by
 and_intros;have nd:=JI.nd
 exact(ao (aL (i:=3) nd (aH G9 (!0) (!1)))
  (ao (cm (dM (h9 (dG (ck (ju kit_tuple rfl T.Hj T.HH dB (!3)))) (h9 (bB (df hu) (bp dz T.HM cW (ae (!3) ai)) aj) (iA (qu hu G9 Hz (!3) (mY Oe (!0) trivial (!1))))))) (au (aI fu)) bh)
  (ao (cm (ck (ju wE rfl T.Hj T.NX Ap (aH G9 (!3) aj))) (au (aI (m5 (iB (df hu) (aH G9 (!3) aj) dI) (m5 (iB (df hu) (bp dz T.HM cW (ae (!3) ai)) aj) (uY (aG (me T) (by symm) (ae (aH G9 (!3) aj) ai))))))) bh)
  (ao (cm (dM (h9 (bB (pB hu) (bp dz T.HM cW (ae (!3) ai)) aj) (iA (dG (ck (aG (g_ T) (by symm) (ae (aH G9 (!3) aj) (ae (aF jx (bp dz T.HM cW (ae (!2) ai)) aj) ai)))))))) (au (aI fu)) bh)
  (ao (cm (dM (h9 (dG (ck (aG (g_ T) (by symm) (ae (aH G9 (!3) aj) (ae (aF jx (!1) aj) ai))))) (h9 (dG (ck (aG (g_ T) (by symm) (ae (aH G9 (!3) aj) (ae (aF jx (!1) aj) ai))))) (iA (bB (df hu) (aH G9 (!3) aj) (aH G9 (!3) aj)))))) (au (aI fu)) bh)
  (ao (aL (i:=4) nd (mY Oe (!2) (aF aY (zF rfl (cB DE T.LA rH (ae (!2) ai)) (aH G9 (!3) aj)) aj) trivial))
  (au (aI (iB (df hu) (dO (ts:=["_law_goal"]) (ix:=[4,0]) rfl ⟨rfl,by decide,by decide,by exists Ic⟩ (by exists [4,0],["_law_fold","_law_at_here","_law_order_here","_law_row","_law_behind"]) (cR (mY Oe (!3) aj trivial)) (λ_ _ _ _ _=>⟨(aR (i:=0) (show (["_law_goal","_law_behind","_law_fold"]:List Str).Nodup from by decide)),(iT (dM (yJ (bB (pB hu) (aH G9 (aH G9 (!2) (!0)) aj) dI) (wb (kC hu G9 Hz (aH G9 (aH G9 (!2) (!0)) aj) (!1)))))),(!0)⟩)) (gL ai)))))))))))
theorem w9:aB sx=Je:=rfl
theorem KD:GR ["_law_fold","_law_at_here","_law_row","_law_found","_law_goal"] ["_law_fold","_law_at_here"] Je:=by nofun
theorem oj (T:Hk K mg base):∀ n:Nat,Io P w K mg base (n+0) "_law_left" ["_law_fold","_law_at_here"] (cM n)
 | 0=>iL T.La
 |n+1=>by
  have IJ:=oj T n
  exact a_ T.La w9 KD (λf Hd A outer s H E hr=>by
   and_intros;have nd:=KD.nd
   exact(ao (aL (i:=2) nd (aH G9 (!0) (!1)))
    (ao (aL (i:=3) nd (gL ai))
    (ao (cm (bB (pB hu) (aH G9 (!2) aj) dI) (au (d_ PassesOwn.never rfl (cR (mY Oe (!2) aj trivial)) (aR (i:=4) nd) (au (aL (i:=3) nd (aF aY (!3) (dO (ts:=["_law_one"]) (ix:=[3]) rfl ⟨rfl,by decide,by decide,by exists Je⟩ (by exists [3],["_law_fold","_law_at_here","_law_row","_law_found","_law_goal"]) (cR (aG IJ (by symm) (ae (!0) (ae (!4) ai)))) (λ_ _ _ _ _=>⟨(aR (i:=0) (show (["_law_one","_law_found"]:List Str).Nodup from by decide)),(iT (kC hu G9 Hz (!0) (!1))),(!0)⟩))))))) bh)
    (au (aI (aF aY (!3) (gL (ae (!1) ai)))))))))
theorem ql:aB lF=lu:=rfl
theorem Jj:GR ["_law_fold","_law_order_here","_law_at_here"] ["_law_fold","_law_order_here"] lu:=by nofun
theorem f7 (T:Hk K mg base):Io P w K mg base 12 "_law_is_fold" ["_law_fold","_law_order_here"] bP:=
 a_ T.Lb ql Jj (λf Hd A outer s H E hr=>by
 and_intros;have nd:=Jj.nd
 exact(ao (cm (dM (h9 (dG (ck (ju kit_tuple rfl T.Hj T.HH dB (!0)))) (iA (bB (df hu) (bp dz T.HM cW (ae (!0) ai)) aj)))) (au (aI fu)) bh)
  (ao (d_ PassesOwn.never rfl (gm rfl T.IF (ae (bp dz T.HM cW (ae (!0) ai)) ai)) (aR (i:=2) nd) (au (cm (dG (ck (aG (rC T) (by symm) (ae (!0) (ae (!2) (ae (!1) ai)))))) (au (aI fu)) bh)))
  (au (aI (iB (df hu) (aG (oj T 11) (by symm) (ae (!0) (ae (aF jx (bp dz T.HM cW (ae (!0) ai)) aj) ai))) (oI rfl rfl rfl T.LA T.IF (ae (bp dz T.HM cW (ae (!0) ai)) ai))))))))
theorem w8:aB sw=rR:=rfl
theorem KG:GR ["_law_script","_law_most","_law_many","_law_words_here","_law_key_here"] ["_law_script","_law_most"] rR:=by nofun
theorem vK (T:Hk K mg base):Io P w K mg base 10 "_law_made" ["_law_script","_law_most"] kj:=
 a_ T.MN w8 KG (λf Hd A outer s H E hr=>by
 and_intros;have nd:=KG.nd
 exact(ao (aL (i:=2) nd (aF aY aj (aF cT (aG (bO T) (by symm) (ae (!0) (ae aj ai))) (!1))))
  (ao (aL (i:=3) nd (aG (ue T) (by symm) (ae (aG (bO T) (by symm) (ae (!0) (ae aj ai))) ai)))
  (ao (aL (i:=4) nd (aG (qd T 8) (by symm) (ae (aG (bO T) (by symm) (ae (!0) (ae aj ai))) (ae (!3) (ae (!2) (ae (aF aY aj (aF cT (aG (bO T) (by symm) (ae (!0) (ae aj ai))) aj)) ai))))))
  (au (aI (ej (ae (!2) (ae (!3) (ae (!4) (ae (aG (lU T) (by symm) (ae (aG (bO T) (by symm) (ae (!0) (ae aj ai))) (ae (!2) ai))) ai)))))))))))
theorem Ce:aB yV=Kz:=rfl
theorem MR:GR ["_law_script","_law_many","_law_words_here","_law_key_here","_law_order_here","_law_fold","_law_some","_law_name","_law_other","_law_found","_law_way","_law_thing","_law_names_here","_law_due"] ["_law_script"] Kz:=by nofun
theorem Dx (T:Hk K mg base){f:Addr}{fd:FuncData}(Fn:L1 K "law" "law" yV f fd):My P w K mg base 38 f fd ["_law_script"] Au:=
 nZ Fn Ce MR (λ_ Hd A outer s H E hr=>by
 and_intros;have nd:=MR.nd
 exact(ao (Cq (aG (vK T) (by symm) (ae (!0) (ae aj ai))) (qI rfl (cH (aR (i:=1) nd) (cH (aR (i:=2) nd) (cH (aR (i:=3) nd) (cH (aR (i:=4) nd) mf))))))
  (ao (aL (i:=5) nd (aG (om T) (by symm) (ae (!3) (ae (!4) ai))))
  (ao (aL (i:=6) nd (aG (lV T) (by symm) (ae (aG (bO T) (by symm) (ae (!0) (ae aj ai))) (ae (!2) ai))))
  (ao (aL (i:=7) nd (aH G9 (aF aY (!2) (jt (.tup (.cons (.str ⟨by decide,by decide⟩) .nil) (by decide)))) (aF cT (aG (bO T) (by symm) (ae (!0) (ae aj ai))) (aF aY (bp dz T.HM cW (ae (!2) ai)) aj))))
  (ao (aL (i:=8) nd (aG (lU T) (by symm) (ae (aG (bO T) (by symm) (ae (!0) (ae aj ai))) (ae (!1) ai))))
  (ao (aL (i:=9) nd (gL (ae (aG (uh T) (by symm) (ae (!5) (ae (!6) (ae (!4) ai)))) (ae (aG (Aj T) (by symm) (ae (!5) (ae (!7) (ae (!4) ai)))) ai))))
  (ao (aL (i:=10) nd (aG (oh T) (by symm) (ae (!5) (ae (!8) ai))))
  (ao (cm (dM (h9 (dG (ck (aG (f7 T) (by symm) (ae (aH G9 (!9) aj) (ae (!4) ai))))) (h9 (dG (ck (aG (f7 T) (by symm) (ae (aH G9 (!9) aj) (ae (!4) ai))))) (iA (dG (ck (aG (f7 T) (by symm) (ae (!10) (ae (!8) ai))))))))) (au (aI fu)) bh)
  (ao (d_ PassesOwn.never rfl (cR (aG (rA T) (by symm) (ae (!1) ai))) (aR (i:=11) nd) (ao (aL (i:=12) nd (aG (j9 T 15) (by symm) (ae (!3) (ae (!11) ai))))
  (ao (aL (i:=13) nd (yR (ae (cB kY T.HH dB (ae (dO (ts:=["_law_one"]) (ix:=[6]) rfl ⟨rfl,by decide,by decide,by exists Kz⟩ (by exists [6],["_law_script","_law_many","_law_words_here","_law_key_here","_law_order_here","_law_fold","_law_some","_law_name","_law_other","_law_found","_law_way","_law_thing","_law_names_here","_law_due"]) (cR (!12)) (λ_ _ _ _ _=>⟨(aR (i:=0) (show (["_law_one","_law_some"]:List Str).Nodup from by decide)),(iT (qu hu G9 Hz (!0) (!1))),(!0)⟩)) ai)) (ae (aF Bj (ej (ae (!7) ai)) (cB Ag T.MQ vR (ae (yS hu G9 Hz (!7) (!12)) ai))) ai))))
  (au (cm (dM (h9 (Ck hu (dO (ts:=["_law_one"]) (ix:=[11]) rfl ⟨rfl,by decide,by decide,by exists Kz⟩ (by exists [11],["_law_script","_law_many","_law_words_here","_law_key_here","_law_order_here","_law_fold","_law_some","_law_name","_law_other","_law_found","_law_way","_law_thing","_law_names_here","_law_due"]) (cR (!9)) (λ_ _ _ _ _=>⟨(aR (i:=0) (show (["_law_one","_law_thing"]:List Str).Nodup from by decide)),jN,(aG (ui T) (by symm) (ae (!0) (ae (!1) ai)))⟩)) (!13)) (iA (bB (pB hu) (aG (ui T) (by symm) (ae (!10) (ae (!11) ai))) (!12))))) (au (aI fu)) bh)))))
  (au (aI (m5 (iB (df hu) (aG (oh T) (by symm) (ae (!10) (ae (!4) ai))) (!5)) (uY (iB (df hu) (!10) (aG (om T) (by symm) (ae (!3) (ae (!8) ai))))))))))))))))))
end
end G6
namespace G6
open PySem L2 PyProof.Rows
def isLet (c:Nat):Bool:=decide (97<=c)&&decide (c<=122)
def lets (x:Str):Bool:=x.cps.toList.all isLet
def kept (x:Str):Bool:=decide (x="names") ||(decide (x="ask") ||decide (x="end"))
def cZ (x:Str):Bool:=!kept x&&(decide (1<=x.length)&&(decide (x.length<=8)&&lets x))
def F_:D->Bool
 | .str x=>cZ x
 |_=>false
abbrev Kl:Str:="abcdefghijklmnopqrstuvwxyz"
theorem zZ:∀ k:Nat,k<26->0<=Txt.find Kl ⟨#[97+k]⟩:=by
 intro k a;have h:∀ k:_root_.Fin 26,0<=Txt.find Kl ⟨#[97+k.val]⟩:=by decide
 exact h ⟨k,a⟩
theorem ow:Kl.cps.toList.all isLet=true:=by decide
theorem z5 (c:Nat):decide (Txt.find Kl ⟨#[c]⟩<0) = !isLet c:=by
 by_cases h : 97<=c/\c<=122
 ·have q:=zZ (c-97) (by omega);rw[show 97+(c-97)=c by omega] at q;have e:isLet c=true:=by simp[isLet,h]
  rw[e,decide_eq_false (by omega)];rfl
 have e:isLet c=false:=by simp only[isLet,Bool.and_eq_false_iff,decide_eq_false_iff_not];omega
 rw[e];rcases StrLaws.occ_head Kl ⟨#[c]⟩ 1 (le_refl _) with ⟨b,_⟩ |⟨i,r,b,j,_⟩
 ·have:Txt.find Kl ⟨#[c]⟩ = -1:=by unfold Txt.find;rw[b]
  rw[this];rfl
 exfalso;obtain⟨k,d⟩:=j;unfold Builtin.Str.subAt at d;have g:=eq_of_beq d;have f:c∈(Kl.cps.extract i (i+(⟨#[c]⟩:Str).length)).toList:=by rw[g];simp
 rw[toList_extract] at f;have a:=all_eq_true.mp ow c (mem_of_mem_drop (mem_of_mem_take f));rw[e] at a;cases a
theorem bq {α:Type}{a:List α}{i:Nat}{v : α}(h:a[i]?=some v):Jp a (i:Int)=some v:=by
 have b:i<a.length:=(List.getElem?_eq_some_iff.mp h).1;have e:M5 a.length (i:Int)=some i:=by unfold M5;rw[if_pos (by omega),if_pos (by omega)];simp
 unfold Jp;rw[e];exact h
end G6
namespace L2
open PySem PyProof.Rows
theorem xY {K:Type}[DecidableEq K]:∀ (l b:List K) (k:K),k∈l.foldl Du b↔k∈b∨k∈l
 |[],b,k=>by simp
 |a::l,b,k=>by
  rw[foldl_cons,xY l,mem_cons];unfold Du;split
  ·constructor
   ·rintro (h |h)
    ·exact .inl h
    exact .inr (.inr h)
   rintro (h |rfl |h)
   ·exact .inl h
   ·left;assumption
   exact .inr h
  simp only[mem_append,mem_singleton];constructor
  ·rintro ((h |h) |h)
   ·exact .inl h
   ·exact .inr (.inl h)
   exact .inr (.inr h)
  rintro (h |h |h)
  ·exact .inl (.inl h)
  ·exact .inl (.inr h)
  exact .inr h
theorem vm (a:Str):J5 a a=false:=by unfold J5;exact decide_eq_false (List.lt_irrefl _)
theorem xO {a b c:Str}(h:J5 a b=true)(g:J5 b c=true):J5 a c=true:=by
 unfold J5 at *
 exact decide_eq_true (List.lt_trans (of_decide_eq_true h) (of_decide_eq_true g))
theorem qP {a b:Str}(h:Ky a b=true)(n:a≠b):J5 a b=true:=by
 cases q:J5 a b with
 |true=>rfl
 |false=>exact absurd (tx h (by unfold Ky;rw[q];rfl)) n
def MS:List Str->Bool
 |a::b::r=>J5 a b&&MS (b::r)
 |_=>true
theorem eV:∀ {l:List Str},MS l=true->l.Pairwise λa b=>J5 a b=true
 |[],_ => .nil
 |[a],_=>by simp
 |a::b::r,h=>by
  rw[MS,and_eq_true] at h;have d:=eV h.2;refine .cons (λc hc=>?_) d;rcases mem_cons.mp hc with rfl |hc
  ·exact h.1
  exact xO h.1 ((pairwise_cons.mp d).1 c hc)
theorem gR:∀ {l:List Str},(l.Pairwise λa b=>J5 a b=true)->MS l=true
 |[],_=>rfl
 |[a],_=>rfl
 |a::b::r,h=>by
  obtain⟨c,d⟩:=pairwise_cons.mp h;rw[MS,and_eq_true];exact⟨c b (mem_cons_self ..),gR d⟩
theorem Bp {i j:Int}(c : -1000000000000<j)(d:j<1000000000000):lK i j=true:=by unfold lK;have b:decide (-(2 ^ 64)<j)=true:=decide_eq_true (by omega);have a:decide (j<2 ^ 64)=true:=decide_eq_true (by omega);rw[b,a];simp
theorem Bq {i j:Int}(c : -1000000000000<i)(d:i<1000000000000):lK i j=true:=by unfold lK;have b:decide (-(2 ^ 64)<i)=true:=decide_eq_true (by omega);have a:decide (i<2 ^ 64)=true:=decide_eq_true (by omega);rw[b,a];simp
theorem sU (i j:Int):cI (.int i) (.int j)=if lK i j=true then some (.int (i*j)) else none:=rfl
theorem sT (x:Str)(n:Int):cI (.str x) (.int n)=if -1000<=n/\n<1 then some (.str ⟨#[]⟩) else if 1<=n/\n<=1000/\x.length<=1000 then some (.str ⟨(replicate n.toNat x.cps.toList).flatten.toArray⟩) else none:=rfl
theorem zC (i j:Int):cC (.int i) (.int j)=if 0<j then some (.int (i % j)) else none:=rfl
theorem ye (i j:Int):gF (.int i) (.int j)=if 0<j/\j<1073741824 then some (.int (i / j)) else none:=rfl
theorem yt (x y:Str):bC (.str x) (.str y)=if x.length+y.length<=sizeLine then some (.str (x++y)) else none:=rfl
theorem qi (x y:List D):bC (.tup x) (.tup y)=if x.length+y.length<=sizeLine then some (.tup (x++y)) else none:=rfl
theorem lh (x y:List D):bC (.lst x) (.lst y)=if x.length+y.length<=sizeLine then some (.lst (x++y)) else none:=rfl
theorem xo (j:Int):fT [.int j]=if -(2 ^ 62)<=j/\j<=16777216 then some ((List.range j.toNat).map λ(k:Nat)=>D.int k) else none:=rfl
theorem zA {i j:Int}(a : -1000000000000<j)(b:j<1000000000000):cI (.int i) (.int j)=some (.int (i*j)):=by rw[sU,if_pos (Bp a b)]
theorem gS {i j:Int}(a : -1000000000000<i)(b:i<1000000000000):cI (.int i) (.int j)=some (.int (i*j)):=by rw[sU,if_pos (Bq a b)]
@[simp] theorem E6 (i j:Int):bC (.int i) (.int j)=some (.int (i+j)):=rfl
@[simp] theorem Ea (i j:Int):jM (.int i) (.int j)=some (.int (i-j)):=rfl
theorem bF {i j:Int}(h : 0<j):cC (.int i) (.int j)=some (.int (i % j)):=by rw[zC,if_pos h]
theorem ja {i j:Int}(h : 0<j)(a:j<1073741824):gF (.int i) (.int j)=some (.int (i / j)):=by rw[ye,if_pos ⟨h,a⟩]
end L2
namespace G6
open PySem L2 PyProof.Rows
theorem vI (ns:List Int)(k:Nat)(S:GO):iR [.lst (ns.map .int),.int k] S=GW (.int (ns.getD k 0)) S:=by
 refine aE rfl ?_;unfold lQ;by_cases h:k<ns.length
 ·have b:((k:Int)<ns.length):=by omega
  have a:ns[k]?=some ns[k]:=getElem?_eq_getElem h;have e:Jp (ns.map D.int) (k:Int)=some (.int ns[k]):=bq (by rw[getElem?_map,a];rfl);simp[cF,Ml,h,Hq,bw,Nq,e,List.getD,a]
 have a:ns[k]?=none:=getElem?_eq_none (by omega);simp[cF,Ml,h,List.getD,a]
def mix (ns:List Int)(k:Nat):Int:=
 let d:=(ns.getD k 0+7919*(k:Int)+1)*48271 % 2147483647
 (d*d+7*d+(k:Int)) % 2147483629
theorem vi (ns:List Int)(k:Nat) : 0<=mix ns k:=Int.emod_nonneg _ (by decide)
theorem dY (ns:List Int)(k:Nat)(S:GO):aV [.lst (ns.map .int),.int k] S=GW (.int (mix ns k)) S:=by
 refine aE rfl ?_;unfold pU;have g:=vI ns k;have f:∀ x:Int,cI (.int 7919) (.int x)=some (.int (7919*x)):=λx=>gS (by decide) (by decide);have a:∀ x:Int,cI (.int x) (.int 48271)=some (.int (x*48271)):=λx=>zA (by decide) (by decide);have c:∀ x:Int,cC (.int x) (.int 2147483647)=some (.int (x % 2147483647)):=λx=>bF (by decide);have d:∀ x:Int,cC (.int x) (.int 2147483629)=some (.int (x % 2147483629)):=λx=>bF (by decide);have e:∀ x:Int,cI (.int 7) (.int x)=some (.int (7*x)):=λx=>gS (by decide) (by decide);have b:∀ x:Int,cI (.int (x % 2147483647)) (.int (x % 2147483647))=some (.int (x % 2147483647*(x % 2147483647))):=λx=>by have h:=Int.emod_nonneg x (show (2147483647:Int)≠0 by decide);have i:=Int.emod_lt_of_pos x (show (0:Int)<2147483647 by decide);exact gS (by omega) (by omega)
 simp[g,f,a,c,d,e,b,mix]
def Jk (n k:Int):Int:=
 let d:=(n+104729*k+17)*69621 % 2147483647
 (d*d+3*d+k) % 2147483629
theorem jA (n k:Int) : 0<=Jk n k:=Int.emod_nonneg _ (by decide)
theorem j5 (n k:Int)(S:GO):fg [.int n,.int k] S=GW (.int (Jk n k)) S:=by
 refine aE rfl ?_;unfold pV;have f:∀ x:Int,cI (.int 104729) (.int x)=some (.int (104729*x)):=λx=>gS (by decide) (by decide);have a:∀ x:Int,cI (.int x) (.int 69621)=some (.int (x*69621)):=λx=>zA (by decide) (by decide);have c:∀ x:Int,cC (.int x) (.int 2147483647)=some (.int (x % 2147483647)):=λx=>bF (by decide);have d:∀ x:Int,cC (.int x) (.int 2147483629)=some (.int (x % 2147483629)):=λx=>bF (by decide);have e:∀ x:Int,cI (.int 3) (.int x)=some (.int (3*x)):=λx=>gS (by decide) (by decide);have b:∀ x:Int,cI (.int (x % 2147483647)) (.int (x % 2147483647))=some (.int (x % 2147483647*(x % 2147483647))):=λx=>by have g:=Int.emod_nonneg x (show (2147483647:Int)≠0 by decide);have h:=Int.emod_lt_of_pos x (show (0:Int)<2147483647 by decide);exact gS (by omega) (by omega)
 simp[f,a,c,d,e,b,Jk]
def Wd (n:Nat)(x:Str):Prop:=x.length<=n/\∀ c∈x.cps.toList,c<128
theorem vU (x y:Str):(x++y).cps.toList=x.cps.toList++y.cps.toList:=by show (x.cps++y.cps).toList=_;simp
theorem wY (x y:Str):(x++y).length=x.length+y.length:=by show (x.cps++y.cps).size=_;rw[Array.size_append];rfl
theorem FF (i:Int)(f : 0<=i)(d:i<26)(S:GO):∃ x:Str,Hq (.str "abcdefghijklmnopqrstuvwxyz") (.int i) S=some (.str x)/\Wd 1 x:=by
 obtain⟨k,rfl⟩:∃ k:Nat,i=k:=⟨i.toNat,by omega⟩
 have a:k<Kl.cps.toList.length:=by
  have:Kl.cps.toList.length=26:=by decide
  omega
 have e:Jp Kl.cps.toList (k:Int)=some Kl.cps.toList[k]:=bq (getElem?_eq_getElem a);refine⟨⟨#[Kl.cps.toList[k]]⟩,?_,le_refl _,λc hc=>?_⟩
 ·unfold Hq;rw[if_neg (by simp[bw])];unfold Nq;simp only[e];rfl
 have b:c=Kl.cps.toList[k]:=by simpa using hc
 have q:=all_eq_true.mp ow Kl.cps.toList[k] (getElem_mem a);rw[b];simp only[isLet,and_eq_true,decide_eq_true_eq] at q;omega
theorem AW (j:Int)(b : 0<=j)(a:j<=1000):fT [.int j]=some ((List.range j.toNat).map λ(k:Nat)=>D.int k):=by rw[xo,if_pos (by omega)]
theorem gu {n j:Nat}{d:D}(h:((List.range n).map λ(k:Nat)=>D.int k)[j]?=some d):d = .int j/\j<n:=by rw[getElem?_map] at h;obtain⟨x,c,rfl⟩:=map_eq_some_iff.mp h;obtain⟨a,b⟩:=List.getElem?_eq_some_iff.mp c;simp at a b;exact⟨by rw[← b],a⟩
theorem Ef (b:Bool):cI (.str "q") (.int (if b then 1 else 0))=some (.str (if b then "q" else ⟨#[]⟩)):=by
 cases b
 ·rw[sT,if_pos (by decide)];rfl
 rw[sT,if_neg (by decide),if_pos ⟨by decide,by decide,by decide⟩];rfl
def Mi (d:D)(s:Str):Bool:=match d with
 | .str y=>decide (y=s)
 |_=>false
theorem z6 {d:D}(h:pl d=true)(s:Str):HP d (.str s)=some (.bl (Mi d s)):=by
 obtain⟨p,e⟩:=qv h;have b:toPy (.str s)=some (.str s):=rfl;unfold HP;rw[e,b];have hd:min p.depth (PyData.str s).depth<=150:=Nat.le_trans (min_le_right _ _) (by simp[PyData.depth]);simp only[hd,if_true];cases d with
 |str y=>rw[toPy] at e;cases e;simp[PyData.eqv,Mi,An]
 |tup a=>rw[toPy] at e;obtain⟨c,_,rfl⟩:=map_eq_some_iff.mp e;simp[PyData.eqv,Mi]
 |lst a=>rw[toPy] at e;obtain⟨c,_,rfl⟩:=map_eq_some_iff.mp e;simp[PyData.eqv,Mi]
 |set _=>simp[pl] at h
 |loc _=>simp[pl] at h
 |fn _ _=>simp[pl] at h
 |_=>rw[toPy] at e;cases e;simp[PyData.eqv,Mi]
theorem sQ {d:D}(h:pl d=true)(s:Str):Jn d (.str s)=some (.bl (!Mi d s)):=by
 obtain⟨p,e⟩:=qv h;have b:toPy (.str s)=some (.str s):=rfl;unfold Jn;rw[e,b];have hd:min p.depth (PyData.str s).depth<=150:=Nat.le_trans (min_le_right _ _) (by simp[PyData.depth]);simp only[hd,if_true];cases d with
 |str y=>rw[toPy] at e;cases e;simp[PyData.eqv,Mi,An]
 |tup a=>rw[toPy] at e;obtain⟨c,_,rfl⟩:=map_eq_some_iff.mp e;simp[PyData.eqv,Mi]
 |lst a=>rw[toPy] at e;obtain⟨c,_,rfl⟩:=map_eq_some_iff.mp e;simp[PyData.eqv,Mi]
 |set _=>simp[pl] at h
 |loc _=>simp[pl] at h
 |fn _ _=>simp[pl] at h
 |_=>rw[toPy] at e;cases e;simp[PyData.eqv,Mi]
theorem Li (b:List D)(a:D)(S:GO):Hq (.tup (a::b)) (.int 0) S=some a:=by unfold Hq;rw[if_neg (by simp[bw])];exact bq (i:=0) rfl
theorem MT (c:List D)(a b:D)(S:GO):Hq (.tup (a::b::c)) (.int 1) S=some b:=by unfold Hq;rw[if_neg (by simp[bw])];exact bq (i:=1) rfl
theorem at2 (d:List D)(a b c:D)(S:GO):Hq (.tup (a::b::c::d)) (.int 2) S=some c:=by unfold Hq;rw[if_neg (by simp[bw])];exact bq (i:=2) rfl
theorem US (e:List D)(a b c d:D)(S:GO):Hq (.tup (a::b::c::d::e)) (.int 3) S=some d:=by unfold Hq;rw[if_neg (by simp[bw])];exact bq (i:=3) rfl
theorem nF (x:Int){n:Int}(h : 0<n) : 0<=x % n/\x % n<n:=⟨Int.emod_nonneg x (by omega),Int.emod_lt_of_pos x h⟩
def Wl (n:Nat)(x:Str):Prop:=1<=x.length/\x.length<=n/\lets x=true
theorem zJ (x y:Str):lets (x++y)=(lets x&&lets y):=by unfold lets;rw[vU,List.all_append]
theorem Wl.app {n m:Nat}{x y:Str}(h:Wl n x)(g:Wl m y):Wl (n+m) (x++y):=by obtain⟨a,b,c⟩:=h;obtain⟨f,e,d⟩:=g;refine⟨by rw[wY];omega,by rw[wY];omega,by rw[zJ,c,d];rfl⟩
theorem wB (i:Int)(c : 0<=i)(b:i<26)(S:GO):∃ x:Str,Hq (.str "abcdefghijklmnopqrstuvwxyz") (.int i) S=some (.str x)/\Wl 1 x:=by
 obtain⟨k,rfl⟩:∃ k:Nat,i=k:=⟨i.toNat,by omega⟩
 have a:k<Kl.cps.toList.length:=by
  have:Kl.cps.toList.length=26:=by decide
  omega
 have e:Jp Kl.cps.toList (k:Int)=some Kl.cps.toList[k]:=bq (getElem?_eq_getElem a);refine⟨⟨#[Kl.cps.toList[k]]⟩,?_,le_refl _,le_refl _,?_⟩
 ·unfold Hq;rw[if_neg (by simp[bw])];unfold Nq;simp only[e];rfl
 have q:=all_eq_true.mp ow Kl.cps.toList[k] (getElem_mem a);show ([Kl.cps.toList[k]]:List Nat).all isLet=true;rw[all_cons,q];rfl
theorem Ar {n m:Nat}{x y:Str}(h:Wl n x)(g:y.length<=m)(b:n+m<=1000):bC (.str x) (.str y)=some (.str (x++y)):=by have a:=h.2.1;rw[yt,if_pos (Nat.le_trans (show x.length+y.length<=1000 by omega) (by decide))]
theorem DJ (n:Int)(l:D)(k b:Int)(a:Str)(i:Nat)(S:GO)(c:Wl (i+1) a)(o:i<=10)(p : 0<=b):∃ e:Str,Wl (i+2) e /\
  fY [some (.int n),some (.str "abcdefghijklmnopqrstuvwxyz"),some l,some (.int k),some (.int b),some (.str a),some (.int i)] S=GW (.next [some (.int n),some (.str "abcdefghijklmnopqrstuvwxyz"),some l,some (.int k),some (.int b),some (.str e),some (.int i)]) S:=by
 have g:cI (.int 31) (.int i)=some (.int (31*i)):=gS (by decide) (by decide);have f:gF (.int b) (.int (31*(i:Int)+29))=some (.int (b / (31*(i:Int)+29))):=ja (by omega) (by omega);have h:cC (.int (b / (31*(i:Int)+29))) (.int 26)=some (.int (b / (31*(i:Int)+29) % 26)):=bF (by decide);obtain⟨x,j,d⟩:=wB (b / (31*(i:Int)+29) % 26) (Int.emod_nonneg _ (by decide)) (Int.emod_lt_of_pos _ (by decide)) S;have m:=Ar c d.2.1 (by omega);refine⟨a++x,c.app d,?_⟩;unfold fY;simp[g,f,h,j,m]
theorem FH (x:Str)(S:GO):KY false (.str x) (.tup [.str "names",.str "ask",.str "end"]) S=some (.bl (kept x)):=by have e:=Te x "names" "ask" "end";unfold KY;rw[if_neg (by simp[bw]),if_neg (by decide)];rw[e];unfold kept;simp[eq_comm]
theorem EA {x:Str}(h:kept x=true):cZ (x++("q":Str))=true:=by simp only[kept,or_eq_true,decide_eq_true_eq] at h;rcases h with rfl |rfl |rfl<;>decide
theorem Et {x:Str}(h:Wl 8 x):cZ (x++(if kept x then ("q":Str) else ⟨#[]⟩))=true:=by
 cases hk:kept x with
 |true=>exact EA hk
 |false =>
  have e:x++(⟨#[]⟩:Str)=x:=by show (⟨x.cps++#[]⟩:Str)=x;simp
  simp only[false_eq_true,if_false,e];unfold cZ;rw[hk,decide_eq_true h.1,decide_eq_true h.2.1,h.2.2];rfl
def KH (n:Nat)(kvs:List (D×D)):Prop:=kvs.length<=n/\∃ a:List Str,kvs.map (·.1)=a.map .str/\a.Nodup/\∀ x∈a,cZ x=true
theorem xn (x y:Str):fx (.str x) (.str y)=decide (x=y):=by simp[fx,fQ]
theorem KH.put {n:Nat}{kvs:List (D×D)}{x:Str}{v:D}(h:KH n kvs)(g:cZ x=true):KH (n+1) (putD kvs (.str x) v):=by
 obtain⟨l,c,e,nd,k⟩:=h;unfold putD;split
 ·refine⟨by rw[length_map];omega,c,?_,nd,k⟩;rw[map_map,← e];refine map_congr_left λp _=>?_;simp only[Function.comp];split<;>rfl
 rename_i f;refine⟨by rw[List.length_append,List.length_singleton];omega,c++[x],by simp[e],?_,λy hy=>?_⟩
 ·refine nodup_append.mpr ⟨nd,by simp,λa j b hb=>?_⟩;rw[mem_singleton.mp hb];rintro rfl;apply f;have i:D.str a∈kvs.map (·.1):=by rw[e];exact List.mem_map_of_mem j
  obtain⟨p,d,q⟩:=mem_map.mp i;rw[any_eq_true];exact⟨p,d,by rw[q,xn];simp⟩
 rcases mem_append.mp hy with hy |hy
 ·exact k y hy
 rw[mem_singleton.mp hy];exact g
theorem DI (n:Int)(k:Nat)(S:GO)(kvs:List (D×D))(b c d:Option D)(l:KH k kvs)(hk:k<6):∃ V U d' p,KH (k+1) p /\
  fX [some (.int n),some (.str "abcdefghijklmnopqrstuvwxyz"),some (.loc S.length),some (.int k),b,c,d] (S++[.dict kvs])=GW (.next [some (.int n),some (.str "abcdefghijklmnopqrstuvwxyz"),some (.loc S.length),some (.int k),V,U,d']) (S++[.dict p]):=by
 have X:=j5 n k;have I:=jA n k;have A:cC (.int (Jk n k)) (.int 26)=some (.int (Jk n k % 26)):=bF (by decide);obtain⟨x,F,R⟩:=wB (Jk n k % 26) (Int.emod_nonneg _ (by decide)) (Int.emod_lt_of_pos _ (by decide)) (S++[.dict kvs]);have G:gF (.int (Jk n k)) (.int 26)=some (.int (Jk n k / 26)):=ja (by decide) (by decide);have H:cC (.int (Jk n k / 26)) (.int 8)=some (.int (Jk n k / 26 % 8)):=bF (by decide);have L:cC (.int n) (.int 2)=some (.int (n % 2)):=bF (by decide);have Y:=Int.emod_nonneg (Jk n k / 26) (show (8:Int)≠0 by decide);have b2:=Int.emod_lt_of_pos (Jk n k / 26) (show (0:Int)<8 by decide);have b3:=Int.emod_nonneg n (show (2:Int)≠0 by decide);have b4:=Int.emod_lt_of_pos n (show (0:Int)<2 by decide);have e:cI (.int (Jk n k / 26 % 8)) (.int (n % 2))=some (.int (Jk n k / 26 % 8*(n % 2))):=gS (by omega) (by omega)
 have s : 0<=Jk n k / 26 % 8*(n % 2)/\Jk n k / 26 % 8*(n % 2)<=7:=by
  have:n % 2=0∨n % 2=1:=by omega
  rcases this with h |h<;>rw[h]<;>omega
 have g:=AW (Jk n k / 26 % 8*(n % 2)) s.1 (by omega);generalize Jk n k / 26 % 8*(n % 2)=m at e g s
 obtain⟨y,S',J,t⟩:=cr (u:=aK 6) (body:=fY) (λi v o=>o=S++[.dict kvs]/\i<=7/\∃ (w:Str) (z:Option D),Wl (i+1) w/\v=[some (.int n),some (.str "abcdefghijklmnopqrstuvwxyz"),some (.loc S.length),some (.int k),some (.int (Jk n k)),some (.str w),z])
  ((List.range m.toNat).map λ(k:Nat)=>D.int k) 0 [some (.int n),some (.str "abcdefghijklmnopqrstuvwxyz"),some (.loc S.length),some (.int k),some (.int (Jk n k)),some (.str x),d] (S++[.dict kvs]) ⟨rfl,by omega,x,d,R,rfl⟩ (by
   rintro j Z v o B ⟨rfl,O,w,z,a,rfl⟩;obtain⟨rfl,H_⟩:=gu B;simp only[zero_add] at a O ⊢;obtain⟨W,K,eq⟩:=DJ n (.loc S.length) k (Jk n k) w j (S++[.dict kvs]) a (by omega) I
   exact⟨_,rfl,_,_,eq,rfl,by omega,W,some (.int j),K,rfl⟩)
 simp only[zero_add,length_map,length_range] at t;obtain⟨rfl,Yf,w,z,a,rfl⟩:=t;have f:Wl 8 w:=⟨a.1,by have:=a.2.1;omega,a.2.2⟩;have r:=FH w (S++[.dict kvs]);have q:=Et f;generalize kept w=bb at r q;have N:=Ef bb;have C:(if bb then ("q":Str) else ⟨#[]⟩).length<=1:=by cases bb<;>decide
 have E:=Ar f C (by decide);have M:(S++[MO.dict kvs])[S.length]?=some (.dict kvs):=by simp
 have T:kvs.length<sizeLine:=lt_of_lt_of_le (show kvs.length<1000 by have:=l.1;omega) (by decide);have P:(S++[MO.dict kvs]).set S.length (.dict (putD kvs (.str (w++(if bb then ("q":Str) else ⟨#[]⟩))) (.bl true)))=S++[.dict (putD kvs (.str (w++(if bb then ("q":Str) else ⟨#[]⟩))) (.bl true))]:=by simp
 refine⟨some (.int (Jk n k)),some (.str w),z,putD kvs (.str (w++(if bb then ("q":Str) else ⟨#[]⟩))) (.bl true),l.put q,?_⟩;have Q:intD [.bl bb]=some (.int (if bb then 1 else 0)):=rfl;unfold fX;simp[X,A,F,G,H,L,e,g,J,sF,M,fQ,T,P,r,Q,N,E]
theorem xb (n:Int)(S:GO):∃ (ss:List Str) (kvs:List (D×D)),lj [.int n] S=GW (.tup (ss.map .str)) (S++[.dict kvs])/\ss.length<=6/\(∀ x∈ss,cZ x=true)/\ss.Pairwise λa b=>J5 a b=true:=by
 obtain⟨o,K,p,l⟩:=cr (u:=aK 3) (body:=fX) (λi m g=>i<=6/\∃ kvs b c d z,g=S++[.dict kvs]/\KH i kvs/\m=[some (.int n),some (.str "abcdefghijklmnopqrstuvwxyz"),some (.loc S.length),z,b,c,d])
  ((List.range 6).map λ(k:Nat)=>D.int k) 0 [some (.int n),some (.str "abcdefghijklmnopqrstuvwxyz"),some (.loc S.length),none,none,none,none] (S++[.dict []]) ⟨by omega,[],none,none,none,none,rfl,⟨le_refl _,[],rfl,nodup_nil,λx h=>by cases h⟩,rfl⟩ (by
   rintro j I m g r ⟨L,kvs,b,c,d,z,rfl,f,rfl⟩;obtain⟨rfl,E⟩:=gu r;simp only[zero_add] at f ⊢;obtain⟨H,G,A,C,s,eq⟩:=DI n j S kvs b c d f E
   exact⟨_,rfl,_,_,eq,by omega,C,H,G,A,some (.int j),rfl,s,rfl⟩)
 simp only[zero_add,length_map,length_range] at l;obtain⟨_,kvs,b,c,d,z,rfl,⟨J,ss,es,nd,v⟩,rfl⟩:=l;have M:ss.length=kvs.length:=by have:=congrArg List.length es;simpa using this.symm
 have t:h_ (kvs.map (·.1))=some ((jO ss).map .str):=by rw[es];unfold h_;rw[if_pos (by rw[length_map];first |omega |exact Nat.le_trans (show ss.length<=1000 by omega) (by decide)),kE]
 have e:(jO ss).Perm ss:=mergeSort_perm _ _;have QE:(jO ss).Nodup:=(e.nodup_iff).mpr nd;have B:(jO ss).Pairwise λa b=>Ky a b=true:=List.pairwise_mergeSort kM pJ _;refine⟨jO ss,kvs,?_,by rw[e.length_eq];omega,λx F=>v x (e.mem_iff.mp F),(B.and QE).imp λq=>qP q.1 q.2⟩;have w:fT [.int 6]=some ((List.range 6).map λ(k:Nat)=>D.int k):=AW 6 (by decide) (by decide);have y:(S++[MO.dict kvs])[S.length]?=some (.dict kvs):=by simp
 refine aE rfl ?_;unfold pP;simp[w,p,mV,y,t,kB]
theorem p7:∀ (ds:List D) (i:Nat),(cK i ds).map (λd=>match d with | .tup [_,x]=>x |_ => .Hu)=ds
 |[],_=>rfl
 |d::ds,i=>by rw[cK,map_cons,p7 ds]
theorem lJ (n:Int){ss:List Str}(t:ss.length<=100)(S:GO):∃ a:List Str,gI [.int n,.tup (ss.map .str)] S=GW (.tup (a.map .str)) S/\a.Sublist ss:=by
 have q:=fG (u:=oG 2 (bJ (aK 0) (bJ (aK 1) jK))) (gt:=iz) (fe:=iK) (λh => ∃ y z,h=[y,z,some (.int n)]) (λd=>match d with | .tup [.int k,_]=>decide (n / (3*k+1) % 4=0) |_=>false)
  (λd=>match d with | .tup [_,x]=>x |_ => .Hu) S (cK 0 (ss.map .str)) (cL 2 [0] [some (.int n),some (.tup (ss.map .str))]) ⟨none,none,rfl⟩ (by
   rintro d o h ⟨y,z,rfl⟩;obtain⟨j,c⟩:=getElem?_of_mem o;rw[eX] at c;obtain⟨x,m,rfl⟩:=map_eq_some_iff.mp c;have s:j<ss.length:=by have:=(List.getElem?_eq_some_iff.mp m).1;simpa using this
   have b:cI (.int 3) (.int ((0+j:Nat):Int))=some (.int (3*((0+j:Nat):Int))):=gS (by decide) (by decide);have f:gF (.int n) (.int (3*((0+j:Nat):Int)+1))=some (.int (n / (3*((0+j:Nat):Int)+1))):=ja (by omega) (by omega);have g:cC (.int (n / (3*((0+j:Nat):Int)+1))) (.int 4)=some (.int (n / (3*((0+j:Nat):Int)+1) % 4)):=bF (by decide);refine⟨[some (.int ((0+j:Nat):Int)),some x,some (.int n)],rfl,⟨_,_,rfl⟩,?_,λ_=>?_⟩
   ·unfold iz;simp only[zero_add] at b f g ⊢;simp[b,f,g]
   unfold iK;simp)
 have r:(((cK 0 (ss.map D.str)).filter (λd=>match d with | .tup [.int k,_]=>decide (n / (3*k+1) % 4=0) |_=>false)).map (λd=>match d with | .tup [_,x]=>x |_ => .Hu)).Sublist (ss.map D.str):=by have:=(List.filter_sublist (p:=(λd=>match d with | .tup [.int k,_]=>decide (n / (3*k+1) % 4=0) |_=>false)) (l:=cK 0 (ss.map D.str))).map (λd=>match d with | .tup [_,x]=>x |_ => .Hu);rw[p7] at this;exact this
 obtain⟨a,i,e⟩:=List.sublist_map_iff.mp r;refine⟨a,?_,i⟩;refine aE rfl ?_;unfold pT;rw[e] at q;simp[n6,q,kB]
theorem zw {x:Str}(h:cZ x=true):∀ c∈x.cps.toList,c<128:=by unfold cZ at h;rw[and_eq_true,and_eq_true,and_eq_true] at h;intro c hc;have:=all_eq_true.mp h.2.2.2 c hc;unfold isLet at this;simp at this;omega
end G6
namespace L2
open PySem PyProof.Rows
section
variable (f g:GH D) (ρ:GP) (S:GO)
@[simp] theorem Gq (c k:Str):iP c k f ρ S=ah (f ρ S) λd a=>aM (jz c k d a) a:=rfl
@[simp] theorem FO (c k:Str):on c k f g ρ S=ah (g ρ S) λv a=>ah (f ρ a) λd S2=>mX c k d v ρ S2:=rfl
@[simp] theorem F4 (c k:Str):E4 c k f g ρ S=ah (f ρ S) λd a=>ah (aM (jz c k d a) a) λv S2=>ah (g ρ S2) λy b=>E5 c k d v y ρ b:=rfl
@[simp] theorem FW (c m:Str)(F:GN)(gs:GH (List D)):ci c m F f gs ρ S=ah (f ρ S) λd a=>ah (aM (tP c m d a) a) λ_ S2=>ah (gs ρ S2) λds b=>jn (F (d::ds) b):=rfl
@[simp] theorem Fj (c m:Str)(F:GN)(gs:GH (List D)):DH c m F f gs ρ S=ah (f ρ S) λd a=>ah (aM (tP c m d a) a) λ_ S2=>ah (gs ρ S2) λds b=>F (d::ds) b:=rfl
@[simp] theorem rh:oo ρ S=GW (.loc S.length) (S++[.lst []]):=rfl
@[simp] theorem Gv:vP f g ρ S=ah (f ρ S) λd a=>ah (aM (cE d a) a) λ_ S2=>ah (g ρ S2) λv b=>ou d v b:=rfl
@[simp] theorem EN:BM f ρ S=ah (f ρ S) λd a=>aM ((cE d a).bind λb=>if b.length<=sizeLine then some (.tup b) else none) a:=rfl
@[simp] theorem F0:kc f ρ S=ah (f ρ S) λ_ a=>GW (.next ρ) a:=rfl
@[simp] theorem ER (c:Str)(q:GP->GO->Bool):BT c q ρ S=if q ρ S=true then some (.error c,S) else none:=rfl
@[simp] theorem Gx {α a:Type}(c:Str)(k : α->GO->Out a):ah (some (.error c,S):Out α) k=some (.error c,S):=rfl
end
theorem eP {S:GO}{l:Nat}{a b:MO}(h:S[l]?=some a):(S.set l b)[l]?=some b:=by have:l<S.length:=(List.getElem?_eq_some_iff.mp h).1;simp[this]
theorem bM {S:GO}{l k:Nat}{b:MO}(h:l≠k):(S.set l b)[k]?=S[k]?:=by simp[List.getElem?_set,h]
section
variable (f g:GH D) (ρ:GP) (S:GO)
@[simp] theorem Gk:oP f g ρ S=ah (f ρ S) λx a=>ah (g ρ a) λi S2=>aM (oJ x i S2) S2:=rfl
@[simp] theorem Gm:yp f g ρ S=ah (f ρ S) λx a=>ah (g ρ a) λi S2=>aM (if bw x=true then oJ x i S2 else Nq x i) S2:=rfl
@[simp] theorem Gh (neg:Bool):Al neg f g ρ S=ah (f ρ S) λk a=>ah (g ρ a) λx S2=>aM (nE neg k x S2) S2:=rfl
@[simp] theorem FV:wU f g ρ S=ah (f ρ S) λx a=>ah (g ρ a) λk S2=>aM (iG x k S2) S2:=rfl
@[simp] theorem FP (h:GH D):uj f g h ρ S=ah (h ρ S) λv b=>ah (f ρ b) λx S2=>ah (g ρ S2) λk a=>nw x k v ρ a:=rfl
@[simp] theorem FX:Ae f ρ S=ah (f ρ S) λd a=>aM ((cE d a).map λb => .int b.length) a:=rfl
@[simp] theorem DA:kW f ρ S=ah (f ρ S) λd a=>aM (gC d a) a:=rfl
@[simp] theorem FT:wT ρ S=GW (.loc S.length) (S++[.GZ []]):=rfl
@[simp] theorem EM (u:D->GP->Option GP):rF u f ρ S=ah (f ρ S) λd a=>aM ((u d ρ).map Fl.next) a:=rfl
end
end L2
namespace G6
open PySem L2 PyProof.Rows
inductive Row where
 |leaf (ss:List Str)
 |ask (c no yes:Nat)
 deriving DecidableEq
def aq:Row->D
 | .leaf a => .tup [.str "names",.tup (a.map .str)]
 | .ask c no yes => .tup [.int c,.int no,.int yes]
def eA:Row->PyData
 | .leaf a => .tuple [.str "names",.tuple (a.map .str)]
 | .ask c no yes => .tuple [.int c,.int no,.int yes]
def dC:Row->Prop
 | .leaf a => ∀ x∈a,cZ x=true
 | .ask _ _ _=>True
theorem Bn {x:Str}(h:cZ x=true):PyData.strOk x=true:=by have w:=zw h;unfold PyData.strOk;rw[← Array.all_toList,all_eq_true];intro c hc;have:=w c hc;simp;omega
theorem sR:PyData.strOk ("names":Str)=true:=by decide
theorem jR {r:Row}(h:dC r):gD (aq r)=some (eA r):=by
 unfold gD;cases r with
 |leaf b =>
  have e:toPy (aq (.leaf b))=some (eA (.leaf b)):=by simp[aq,eA,toPy,bX,dH]
  have a:(b.map PyData.str).all (keyOk 6)=true:=by rw[all_eq_true];intro p f;obtain⟨x,d,rfl⟩:=mem_map.mp f;exact Bn (h x d)
  have k:keyOk 8 (eA (.leaf b))=true:=by show ([PyData.str "names",PyData.tuple (b.map .str)]:List PyData).all (keyOk 7)=true;rw[all_cons,all_cons,List.all_nil,Bool.and_true,and_eq_true];exact⟨sR,a⟩
  rw[e,bind_some,if_pos k]
 |ask c no yes=>simp[aq,eA,toPy,bX,keyOk]
theorem qM (a b:Row):PyData.eqv (eA a) (eA b)=decide (a=b):=by
 cases a with
 |leaf s=>cases b with
  |leaf t=>simp[eA,PyData.eqv,PyData.eqvAll,j0]
  |ask c n y=>simp[eA,PyData.eqv,PyData.eqvAll]
 |ask c n y=>cases b with
  |leaf t=>simp[eA,PyData.eqv,PyData.eqvAll]
  |ask e f d =>
   rw[Bool.eq_iff_iff];simp[eA,PyData.eqv,PyData.eqvAll];omega
theorem gp {a b:Row}(c:dC a)(hb:dC b):fw (aq a) (aq b)=decide (a=b):=by unfold fw;rw[jR c,jR hb];exact qM a b
theorem dP (r:Row):fC (aq r)=true:=by cases r<;>rfl
def bx (k:Nat):List Row->List (D×D)
 |[]=>[]
 |r::G=>(aq r,.int k)::bx (k+1) G
theorem sL:∀ (G:List Row) (k:Nat),(bx k G).length=G.length
 |[],_=>rfl
 |r::G,k=>by rw[bx,length_cons,length_cons,sL G]
theorem i9 {r:Row}(hr:dC r):∀ (G:List Row) (k:Nat),(∀ x∈G,dC x)->jY (bx k G) (aq r)=if r∈G then some (.int ((k+G.idxOf r:Nat):Int)) else none
 |[],k,_=>rfl
 |x::G,k,h=>by
  have b:=i9 hr G (k+1) λy c=>h y (mem_cons_of_mem _ c);unfold jY at b ⊢;rw[bx,find?_cons];simp only[gp (h x (mem_cons_self ..)) hr];by_cases e:x=r
  ·subst e;simp
  rw[decide_eq_false e];simp only;rw[b];have d:¬ r=x:=λq=>e q.symm;have f:(x==r)=false:=by simpa using e
  by_cases a:r∈G
  ·rw[if_pos a,if_pos (mem_cons_of_mem _ a),idxOf_cons,f];simp only[cond_false];congr 2;omega
  rw[if_neg a,if_neg (by rw[mem_cons];exact λq=>q.elim d a)]
theorem any_nums {r:Row}(hr:dC r)(G:List Row)(k:Nat)(h:∀ x∈G,dC x)(a:r∉G):((bx k G).any λp=>fw p.1 (aq r))=false:=by have q:=i9 hr G k h;rw[if_neg a] at q;unfold jY at q;rw[Option.map_eq_none_iff,List.find?_eq_none] at q;rw[List.any_eq_false];exact q
theorem pC:∀ (G:List Row) (k:Nat) (r:Row),bx k (G++[r])=bx k G++[(aq r,.int ((k+G.length:Nat):Int))]
 |[],k,r=>rfl
 |x::G,k,r=>by
  rw[cons_append,bx,pC G (k+1) r,bx,cons_append,length_cons,show k+1+G.length=k+(G.length+1) by omega]
theorem xr {r:Row}(hr:dC r){G:List Row}(h:∀ x∈G,dC x)(a:r∉G):putN (bx 0 G) (aq r) (.int G.length)=bx 0 (G++[r]):=by unfold putN;rw[any_nums hr G 0 h a,if_neg (by decide),pC,zero_add]
theorem ya {kvs:List (D×D)}{k v:D}(h:fw k k=true):jY (putN kvs k v) k=some v:=by
 unfold putN;split
 ·rename_i a;unfold jY;rw[any_eq_true] at a;clear h
  induction kvs with
  |nil=>obtain⟨p,b,_⟩:=a;cases b
  |cons p r c =>
   rw[map_cons,find?_cons];cases b:fw p.1 k with
   |true=>simp[b]
   |false =>
    simp only[b,false_eq_true,if_false];obtain⟨x,hx,q⟩:=a;rcases mem_cons.mp hx with rfl |hx
    ·rw[b] at q;cases q
    exact c ⟨x,hx,q⟩
 rename_i a;unfold jY;rw[Bool.not_eq_true,List.any_eq_false] at a;rw[List.find?_append,List.find?_eq_none.mpr a];simp[h]
abbrev Th:=Nat->Bool
inductive Ev (G:List Row) (th:Th):Nat->List Str->Prop
 |leaf {i:Nat}{ss:List Str}:G[i]?=some (.leaf ss)->Ev G th i ss
 |no {i c n y:Nat}{ss:List Str}:G[i]?=some (.ask c n y)->th c=false->Ev G th n ss->Ev G th i ss
 |yes {i c n y:Nat}{ss:List Str}:G[i]?=some (.ask c n y)->th c=true->Ev G th y ss->Ev G th i ss
theorem q0 {G E:List Row}{i:Nat}{r:Row}(h:G[i]?=some r):(G++E)[i]?=some r:=by rw[getElem?_append_left (List.getElem?_eq_some_iff.mp h).1];exact h
theorem Ev.mono {G:List Row}(E:List Row){b:Th}{i:Nat}{ss:List Str}(h:Ev G b i ss):Ev (G++E) b i ss:=by
 induction h with
 |leaf h=>exact .leaf (q0 h)
 |no h t _ a=>exact .no (q0 h) t a
 |yes h t _ a=>exact .yes (q0 h) t a
theorem Ev.det {G:List Row}{f:Th}{i:Nat}{a b:List Str}(h:Ev G f i a)(g:Ev G f i b):a=b:=by
 induction h with
 |leaf h=>cases g with
  |leaf c=>rw[h] at c;cases c;rfl
  |no c=>rw[h] at c;cases c
  |yes c=>rw[h] at c;cases c
 |no h t _ e=>cases g with
  |leaf c=>rw[h] at c;cases c
  |no c d g=>rw[h] at c;cases c;exact e g
  |yes c d g=>rw[h] at c;cases c;rw[t] at d;cases d
 |yes h t _ e=>cases g with
  |leaf c=>rw[h] at c;cases c
  |no c d g=>rw[h] at c;cases c;rw[t] at d;cases d
  |yes c d g=>rw[h] at c;cases c;exact e g
def pl (o:List Nat)(G:List Row)(i:Nat):Nat:=match G[i]? with
 |some (.ask c _ _)=>o.idxOf c
 |_=>o.length
theorem cn {o:List Nat}{G E:List Row}{i:Nat}(h:i<G.length):pl o (G++E) i=pl o G i:=by unfold pl;rw[getElem?_append_left h]
theorem B5 (o:List Nat)(G:List Row)(i:Nat):pl o G i<=o.length:=by
 unfold pl;split
 ·exact List.idxOf_le_length
 exact le_refl _
def Jl (o:List Nat)(G:List Row)(i:Nat):Row->Prop
 | .leaf a=>(∀ x∈a,cZ x=true)/\MS a=true
 | .ask c n y=>c∈o/\n<i/\y<i/\o.idxOf c<G6.pl o G n/\o.idxOf c<G6.pl o G y/\n≠y
structure Wf (o:List Nat) (G:List Row):Prop where
 nd:G.Nodup
 row:∀ (i:Nat) (r:Row),G[i]?=some r->Jl o G i r
theorem Wf.ok {o:List Nat}{G:List Row}(h:Wf o G):∀ x∈G,dC x:=by
 intro x b;obtain⟨i,a⟩:=getElem?_of_mem b;have:=h.row i x a;cases x with
 |leaf d=>exact this.1
 |ask c n y=>trivial
theorem Wf.total {o:List Nat}{G:List Row}(h:Wf o G)(b:Th):∀ (i:Nat),i<G.length->∃ ss,Ev G b i ss:=by
 intro i
 induction i using Nat.strongRecOn with
 |_ i a =>
  intro g;have e:G[i]?=some G[i]:=getElem?_eq_getElem g;have q:=h.row i _ e;cases hr:G[i] with
  |leaf ss=>rw[hr] at e;exact⟨ss,.leaf e⟩
  |ask c n y =>
   rw[hr] at e q;obtain⟨_,f,d,_,_,_⟩:=q;cases ht:b c with
   |false=>obtain⟨ss,k⟩:=a n f (by omega);exact⟨ss,.no e ht k⟩
   |true=>obtain⟨ss,k⟩:=a y d (by omega);exact⟨ss,.yes e ht k⟩
theorem Wf.back {o:List Nat}{G E:List Row}(h:Wf o G){a:Th}{i:Nat}{ss:List Str}(b:i<G.length)(e:Ev (G++E) a i ss):Ev G a i ss:=by obtain⟨c,k⟩:=h.total a i b;rw[Ev.det e (k.mono E)];exact k
theorem Jl.app {o:List Nat}{G E:List Row}{i:Nat}{r:Row}(k:i<=G.length)(h:Jl o G i r):Jl o (G++E) i r:=by
 cases r with
 |leaf j=>exact h
 |ask c n y =>
  obtain⟨a,b,g,d,e,f⟩:=h;refine⟨a,b,g,?_,?_,f⟩
  ·rw[cn (by omega)];exact d
  rw[cn (by omega)];exact e
theorem Wf.snoc {o:List Nat}{G:List Row}(h:Wf o G){r:Row}(e:r∉G)(hr:Jl o G G.length r):Wf o (G++[r]):=by
 refine⟨nodup_append.mpr ⟨h.nd,by simp,λa d b hb=>?_⟩,λi x c=>?_⟩
 ·rw[mem_singleton.mp hb];rintro rfl;exact e d
 rcases Nat.lt_trichotomy i G.length with hi |hi |hi
 ·rw[getElem?_append_left hi] at c;exact(h.row i x c).app (le_of_lt hi)
 ·subst hi;have:x=r:=by simpa using c.symm
  subst this;exact hr.app (le_refl _)
 rw[getElem?_append_right (by omega)] at c;have:([r]:List Row)[i-G.length]?=none:=by rw[List.getElem?_eq_none_iff];simp;omega
 rw[this] at c;cases c
def jB (C:List (Row×Nat)):List (D×D):=C.map λp=>(aq p.1,.int p.2)
def sel (a:Th)(c n y:Nat):Nat:=if a c=true then y else n
def IU (o:List Nat)(G:List Row)(r:Row)(v:Nat):Prop:=match r with
 | .leaf _=>False
 | .ask c n y=>n<G.length/\y<G.length/\v<G.length/\min (o.idxOf c) (min (G6.pl o G n) (G6.pl o G y))<=G6.pl o G v/\∀ a b,Ev G a (sel a c n y) b->Ev G a v b
theorem IU.app {o:List Nat}{G E:List Row}(w:Wf o G){r:Row}{v:Nat}(h:IU o G r v):IU o (G++E) r v:=by
 cases r with
 |leaf _=>exact h
 |ask c n y =>
  obtain⟨a,b,i,d,e⟩:=h;refine⟨by rw[List.length_append];omega,by rw[List.length_append];omega,by rw[List.length_append];omega,?_,λf g k=>?_⟩
  ·rw[cn a,cn b,cn i];exact d
  have j:sel f c n y<G.length:=by unfold sel;split<;>assumption
  exact(e f g (w.back j k)).mono E
def l7:List (Row×Nat)->Row->Nat->List (Row×Nat):=λC r v=>if (C.any λp=>decide (p.1=r))=true then C.map (λp=>if p.1=r then (p.1,v) else p) else C++[(r,v)]
theorem wR {C:List (Row×Nat)}(h:∀ p∈C,dC p.1){r:Row}(hr:dC r)(v:Nat):putN (jB C) (aq r) (.int v)=jB (l7 C r v):=by
 have c:((jB C).any λp=>fw p.1 (aq r))=C.any λp=>decide (p.1=r):=by
  unfold jB;rw[any_map]
  have:∀ l:List (Row×Nat),(∀ p∈l,dC p.1)->(l.any ((λp=>fw p.1 (aq r)) ∘ λp=>(aq p.1,D.int p.2)))=l.any λp=>decide (p.1=r):=by
   intro l a
   induction l with
   |nil=>rfl
   |cons p l d =>
    rw[any_cons,any_cons,d λq b=>a q (mem_cons_of_mem _ b)];simp only[Function.comp,gp (a p (mem_cons_self ..)) hr]
  exact this C h
 unfold putN l7;rw[c];split
 ·unfold jB;rw[map_map,map_map];refine map_congr_left λp e=>?_;simp only[Function.comp,gp (h p e) hr,decide_eq_true_eq];split<;>rfl
 unfold jB;rw[map_append];rfl
theorem BO {C:List (Row×Nat)}(h:∀ p∈C,dC p.1){r:Row}(hr:dC r):jY (jB C) (aq r)=(C.find? λp=>decide (p.1=r)).map λp => .int p.2:=by
 unfold jY jB
 induction C with
 |nil=>rfl
 |cons p C b =>
  rw[map_cons,find?_cons,find?_cons];simp only[gp (h p (mem_cons_self ..)) hr];cases hd:decide (p.1=r) with
  |true=>rfl
  |false=>exact b λq a=>h q (mem_cons_of_mem _ a)
theorem sH {C:List (Row×Nat)}{P:Row->Nat->Prop}(h:∀ p∈C,P p.1 p.2){r:Row}{v:Nat}(hr:P r v):∀ p∈l7 C r v,P p.1 p.2:=by
 intro p hp;unfold l7 at hp;split at hp
 ·obtain⟨q,a,rfl⟩:=mem_map.mp hp;split
  ·rename_i e;rw[e];exact hr
  exact h q a
 rcases mem_append.mp hp with hp |hp
 ·exact h p hp
 rw[mem_singleton.mp hp];exact hr
theorem sG (C:List (Row×Nat))(r:Row)(v:Nat):(l7 C r v).length<=C.length+1:=by
 unfold l7;split
 ·rw[length_map];omega
 rw[List.length_append];simp
abbrev oD (o:List Nat):D:=.tup (o.map λ(c:Nat)=>D.int c)
abbrev RO (o:List Nat)(L:Nat):MO:=.ins "Rows" [("order",oD o),("gathered",.loc (L+1)),("numbers",.loc (L+2)),("choices",.loc (L+3))]
structure SR (B:Nat->Option MO) (S:GO) (L:Nat) (o:List Nat) (G:List Row) (C:List (Row×Nat)):Prop where
 obj:S[L]?=some (RO o L)
 NY:S[L+1]?=some (.lst (G.map aq))
 num:S[L+2]?=some (.GZ (bx 0 G))
 LB:S[L+3]?=some (.GZ (jB C))
 fr:∀ i,i<L∨L+3<i->S[i]?=B i
theorem UW:(("gathered":Str)=="order")=false:=by decide
theorem W6:(("numbers":Str)=="order")=false:=by decide
theorem W7:(("numbers":Str)=="gathered")=false:=by decide
theorem W8:(("choices":Str)=="order")=false:=by decide
theorem W9:(("choices":Str)=="gathered")=false:=by decide
theorem W_:(("choices":Str)=="numbers")=false:=by decide
section
variable {B:Nat->Option MO}{S:GO}{L:Nat}{o:List Nat}{G:List Row}{C:List (Row×Nat)}
theorem SR.ins (h:SR B S L o G C):vt "Rows" (.loc L) S=some ([("order",oD o),("gathered",.loc (L+1)),("numbers",.loc (L+2)),("choices",.loc (L+3))]:List (Str×D)):=by unfold vt;simp only[h.obj,if_true]
theorem SR.LU (h:SR B S L o G C):jz "Rows" "order" (.loc L) S=some (oD o):=by unfold jz;rw[h.ins];simp[List.lookup]
theorem SR.Le (h:SR B S L o G C):jz "Rows" "gathered" (.loc L) S=some (.loc (L+1)):=by unfold jz;rw[h.ins];simp[List.lookup,UW]
theorem SR.MU (h:SR B S L o G C):jz "Rows" "numbers" (.loc L) S=some (.loc (L+2)):=by unfold jz;rw[h.ins];simp[List.lookup,W6,W7]
theorem SR.KI (h:SR B S L o G C):jz "Rows" "choices" (.loc L) S=some (.loc (L+3)):=by unfold jz;rw[h.ins];simp[List.lookup,W8,W9,W_]
theorem SR.has (h:SR B S L o G C)(m:Str)(a:((m=="order") ||(m=="gathered") ||(m=="numbers") ||(m=="choices"))=false):tP "Rows" m (.loc L) S=some .Hu:=by rw[Bool.or_eq_false_iff,Bool.or_eq_false_iff,Bool.or_eq_false_iff] at a;unfold tP;rw[h.ins];simp[List.lookup,a.1.1.1,a.1.1.2,a.1.2,a.2]
theorem SR.lst (h:SR B S L o G C):cE (.loc (L+1)) S=some (G.map aq):=by unfold cE;simp only[h.NY]
theorem SR.row (h:SR B S L o G C){i:Nat}{r:Row}(a:G[i]?=some r):oJ (.loc (L+1)) (.int i) S=some (aq r):=by show ((cE (.loc (L+1)) S).bind λb=>Jp b (i:Int))=_;rw[h.lst,bind_some];exact bq (by rw[getElem?_map,a];rfl)
theorem vD (a b:Nat):HP (.int a) (.int b)=some (.bl (decide (a=b))):=by
 rw[BJ];by_cases h:a=b
 ·simp[h]
 rw[decide_eq_false h,decide_eq_false (by omega)]
theorem eq_str_int (x:Str)(i:Int):HP (.str x) (.int i)=some (.bl false):=by simp[HP,toPy,PyData.eqv,PyData.depth]
theorem kh (r:Row)(S:GO):fO [aq r] S=GW (.bl (match r with | .leaf _=>false | .ask _ _ _=>true)) S:=by refine aE rfl ?_;unfold zX;cases r<;>simp[aq,cF]
theorem idx_map (c:Nat):∀ o:List Nat,(o.map λ(c:Nat)=>(c:Int)).idxOf (c:Int)=o.idxOf c
 |[]=>rfl
 |a::o=>by
  rw[map_cons,idxOf_cons,idxOf_cons,idx_map c o];by_cases h:a=c
  ·simp[h]
  have b:(a==c)=false:=by simpa using h
  have d:((a:Int)==(c:Int))=false:=by rw[beq_eq_false_iff_ne];omega
  rw[b,d]
theorem HL:∀ l:List Int,cb (l.map .int)=some l
 |[]=>rfl
 |a::l=>by rw[map_cons,cb,HL l];rfl
theorem zQ (o:List Nat):cb (o.map λ(c:Nat)=>D.int c)=some (o.map λ(c:Nat)=>(c:Int)):=by rw[show (o.map λ(c:Nat)=>D.int c)=(o.map λ(c:Nat)=>(c:Int)).map D.int by rw[map_map];rfl,HL]
theorem pO {o:List Nat}{c:Nat}(h:c∈o):i8 (oD o) (.int c)=some (.int (o.idxOf c:Nat)):=by unfold i8 oD;simp only[zQ,bind_some];rw[if_pos (mem_map.mpr ⟨c,h,rfl⟩),idx_map]
theorem zb {i:Nat}{r:Row}(b:G[i]?=some r)(w:Jl o G i r)(S:GO):jD [aq r,oD o] S=GW (.int (G6.pl o G i:Nat)) S:=by
 have a:=kh r S;unfold G6.pl;rw[b];refine aE rfl ?_;unfold nU;cases r with
 |leaf g =>
  have:cF [oD o]=some (.int o.length):=by simp[cF]
  simp[a,this]
 |ask c n y =>
  have e:=pO w.1;have f:Hq (aq (.ask c n y)) (.int 0) S=some (.int c):=Li _ _ S;have d:fC (oD o)=true:=rfl;simp[a,f,e,d]
theorem zY (h:SR B S L o G C)(w:Wf o G)(nd:o.Nodup){c i j:Nat}(hc:c∈o)(t:i<G.length)(p:j<G.length) :
  ∃ f,f∈o/\o.idxOf f=min (o.idxOf c) (min (G6.pl o G i) (G6.pl o G j))/\bW [.loc L,.int c,.int i,.int j] S=GW (.int f) S:=by
 have z:o.idxOf c<o.length:=idxOf_lt_length_iff.mpr hc;have g:min (o.idxOf c) (min (G6.pl o G i) (G6.pl o G j))<o.length:=by omega
 have one:∀ k:Nat,k<G.length->bn [some (.int k),some (.loc L)] S=GW (.int (G6.pl o G k:Nat)) S:=by intro k r;have e:G[k]?=some G[k]:=getElem?_eq_getElem r;have q:=zb e (w.row k _ e) S;have s:=h.row e;unfold bn;simp[h.Le,h.LU,s,q]
 have q:=kU (u:=aK 0) (fe:=bn) (λl => ∃ y,l=[y,some (.loc L)]) (λd=>match d with | .int k => .int (G6.pl o G k.toNat:Nat) |_ => .Hu) S [.int i,.int j] (cL 1 [0] [some (.loc L),some (.int c),some (.int i),some (.int j),none]) ⟨none,rfl⟩ (by
  rintro d hd l ⟨y,rfl⟩;refine⟨_,rfl,⟨_,rfl⟩,?_⟩;simp only[mem_cons,List.not_mem_nil,or_false] at hd;rcases hd with rfl |rfl
  ·have:=one i t;simpa using this
  have:=one j p;simpa using this)
 have n:=pO hc;have v:fC (oD o)=true:=rfl;refine⟨o[min (o.idxOf c) (min (G6.pl o G i) (G6.pl o G j))],getElem_mem g,nd.idxOf_getElem _ g,aE rfl ?_⟩;have m:s9 [.lst [.int (G6.pl o G i:Nat),.int (G6.pl o G j:Nat),.int (o.idxOf c:Nat)]]=some (.int ((min (o.idxOf c) (min (G6.pl o G i) (G6.pl o G j)):Nat):Int)):=by simp only[s9,cb,map_some,bind_some,Dh,List.foldl];congr 2;split<;>split<;>omega
 have x:Hq (oD o) (.int ((min (o.idxOf c) (min (G6.pl o G i) (G6.pl o G j)):Nat):Int)) S=some (.int (o[min (o.idxOf c) (min (G6.pl o G i) (G6.pl o G j))]:Nat)):=by unfold Hq;rw[if_neg (by simp[bw])];show Jp (o.map λ(c:Nat)=>D.int c) _=_;exact bq (by rw[getElem?_map,getElem?_eq_getElem g];rfl)
 have z2:JA [.int i,.int j] (.tup [.int i,.int j])=some (.tup [.int i,.int j]):=bY (by simp);have z1:JA [.int (o.idxOf c:Nat)] (.lst [.int (o.idxOf c:Nat)])=some (.lst [.int (o.idxOf c:Nat)]):=bY (by simp);have ad:bC (.lst [.int (G6.pl o G i:Nat),.int (G6.pl o G j:Nat)]) (.lst [.int (o.idxOf c:Nat)])=some (.lst [.int (G6.pl o G i:Nat),.int (G6.pl o G j:Nat),.int (o.idxOf c:Nat)]):=by exact(lh _ _).trans (if_pos (show 3<=sizeLine by decide))
 unfold dm;simp only[map_cons,map_nil,Int.toNat_natCast] at q;generalize G6.pl o G i=a at *
 generalize G6.pl o G j=b at *
 generalize o.idxOf c=k at *
 simp[z2,bR,q,h.LU,v,n,z1,ad,m,x]
def sd (G:List Row)(i c:Nat)(b:Bool):Nat:=match G[i]? with
 |some (.ask c' n y)=>if c'=c then (if b=true then y else n) else i
 |_=>i
theorem iV (h:SR B S L o G C){i:Nat}(m:i<G.length)(c:Nat)(b:Bool):bQ [.loc L,.int i,.int c,.int (if b=true then 1 else 0)] S=GW (.int (sd G i c b:Nat)) S:=by
 have e:G[i]?=some G[i]:=getElem?_eq_getElem m;have d:=h.row e;unfold sd;rw[e]
 suffices ef:ll [.loc (L+1),.int i,.int c,.int (if b=true then 1 else 0)] S=GW (.int (match some G[i] with
  |some (.ask a n y)=>if a=c then (if b=true then y else n) else i
  |_=>i:Nat)) S by
  refine aE rfl ?_;unfold lR;simp[h.Le,ef]
 refine aE rfl ?_;unfold pQ;cases hr:G[i] with
 |leaf j =>
  rw[hr] at d;have g:Hq (aq (.leaf j)) (.int 0) S=some (.str "names"):=Li _ _ S;simp[d,g,eq_str_int,bw]
 |ask a n y =>
  rw[hr] at d;have g:Hq (aq (.ask a n y)) (.int 0) S=some (.int a):=Li _ _ S;have k:Hq (aq (.ask a n y)) (.int 1) S=some (.int n):=MT _ _ _ S;have l:Hq (aq (.ask a n y)) (.int 2) S=some (.int y):=at2 _ _ _ _ S;have f:=vD a c;by_cases hc:a=c
  ·subst hc;rw[decide_eq_true rfl] at f;cases b<;>simp[d,g,f,k,l,bw]
  rw[decide_eq_false hc] at f;cases b<;>simp[d,g,f,hc,bw]
theorem iU (w:Wf o G){i c:Nat}(l:i<G.length)(b:Bool)(hc:c∈o)(f:o.idxOf c<=G6.pl o G i):sd G i c b<G.length/\o.idxOf c<G6.pl o G (sd G i c b)/\∀ d ss,d c=b->Ev G d i ss->Ev G d (sd G i c b) ss:=by
 have e:G[i]?=some G[i]:=getElem?_eq_getElem l;have m:o.idxOf c<o.length:=idxOf_lt_length_iff.mpr hc;have q:=w.row i _ e;unfold sd;rw[e];cases hr:G[i] with
 |leaf ss =>
  refine⟨l,?_,λ_ _ _ k=>k⟩;unfold G6.pl;rw[e,hr];exact m
 |ask u n y =>
  rw[hr] at q e;obtain⟨r,v,x,p,s,_⟩:=q;by_cases g:u=c
  ·subst g;simp only[if_true];cases b with
   |false =>
    refine⟨by simp;omega,by simpa using p,λd ss j k=>?_⟩;cases k with
    |leaf a=>rw[e] at a;cases a
    |no a _ k=>rw[e] at a;cases a;exact k
    |yes a t k=>rw[e] at a;cases a;cases j.symm.trans t
   |true =>
    refine⟨by simp;omega,by simpa using s,λd ss j k=>?_⟩;cases k with
    |leaf a=>rw[e] at a;cases a
    |no a t k=>rw[e] at a;cases a;cases j.symm.trans t
    |yes a _ k=>rw[e] at a;cases a;exact k
  simp only[if_neg g];refine⟨l,?_,λ_ _ _ k=>k⟩;unfold G6.pl at f ⊢;rw[e] at f ⊢;simp only at f ⊢;rcases Nat.lt_or_eq_of_le f with h |h
  ·exact h
  exfalso;apply g;have a1:=getElem_idxOf (idxOf_lt_length_iff.mpr r);have a2:=getElem_idxOf m;rw[← a1,← a2];congr 1;exact h.symm
theorem i5 (h:SR B S L o G C)(w:Wf o G){r:Row}(hr:Jl o G G.length r)(hz:G.length<16000000) :
  ∃ q E i,aX [.loc L,aq r] S=GW (.int (i:Nat)) q/\SR B q L o (G++E) C/\Wf o (G++E)/\(G++E)[i]?=some r/\E.length<=1:=by
 have ok:dC r:=by cases r with
  |leaf H=>exact hr.1
  |ask c n y=>trivial
 have e:=jR ok;have b:=i9 ok G 0 w.ok;have J:sizeLine=16777216:=rfl;by_cases a:r∈G
 ·rw[if_pos a,zero_add] at b;have p:G.idxOf r<G.length:=idxOf_lt_length_iff.mpr a;refine⟨S,[],G.idxOf r,aE rfl ?_,by rw[append_nil];exact h,by rw[append_nil];exact w,?_,by simp⟩
  ·have j:nE true (aq r) (.loc (L+2)) S=some (.bl false):=by
    unfold nE;simp only[h.num,e,dP,if_true,b];rfl
   have g:iG (.loc (L+2)) (aq r) S=some (.int (G.idxOf r:Nat)):=by unfold iG;simp only[h.num,e,dP,if_true,b]
   unfold dL;simp[h.MU,j,g]
  rw[append_nil,getElem?_eq_getElem p,getElem_idxOf p]
 rw[if_neg a] at b;have j:nE true (aq r) (.loc (L+2)) S=some (.bl true):=by unfold nE;simp only[h.num,e,dP,if_true,b];rfl
 have ep:∀ l,nw (.loc (L+2)) (aq r) (.int (G.length:Nat)) l S=GW (.next l) (S.set (L+2) (.GZ (bx 0 (G++[r])))):=λl=>by unfold nw;simp only[h.num,e];rw[if_pos ⟨by rw[sL];omega,dP r⟩,xr ok w.ok a]
 generalize d:S.set (L+2) (.GZ (bx 0 (G++[r])))=S1 at ep;have a1:S1[L]?=some (RO o L):=by rw[← d,bM (by omega)];exact h.obj
 have a2:S1[L+1]?=some (.lst (G.map aq)):=by rw[← d,bM (by omega)];exact h.NY
 have A:S1[L+2]?=some (.GZ (bx 0 (G++[r]))):=by rw[← d];exact eP h.num
 have D:S1[L+3]?=some (.GZ (jB C)):=by rw[← d,bM (by omega)];exact h.LB
 have x:jz "Rows" "gathered" (.loc L) S1=some (.loc (L+1)):=by unfold jz vt;simp only[a1,if_true];simp[List.lookup,UW]
 have u:cE (.loc (L+1)) S1=some (G.map aq):=by unfold cE;simp only[a2]
 have t:ou (.loc (L+1)) (aq r) S1=GW .Hu (S1.set (L+1) (.lst ((G++[r]).map aq))):=by unfold ou;simp only[a2];rw[if_pos (by rw[length_map];omega),map_append];rfl
 have f:SR B (S1.set (L+1) (.lst ((G++[r]).map aq))) L o (G++[r]) C:=by
  refine⟨?_,eP a2,?_,?_,λk z=>by rw[bM (by omega),← d,bM (by omega)];exact h.fr k z⟩
  ·rw[bM (by omega)];exact a1
  ·rw[bM (by omega)];exact A
  rw[bM (by omega)];exact D
 generalize I:S1.set (L+1) (.lst ((G++[r]).map aq))=S2 at t f;have m:=w.snoc a hr;have s:=i9 ok (G++[r]) 0 m.ok;rw[if_pos (by simp),zero_add,idxOf_append,if_neg a] at s;have v:([r]:List Row).idxOf r+G.length=G.length:=by simp
 have F:G.length+([r]:List Row).idxOf r=G.length:=by simp
 refine⟨S2,[r],G.length,aE rfl ?_,f,m,by simp,by simp⟩
 have g:iG (.loc (L+2)) (aq r) S2=some (.int (G.length:Nat)):=by
  unfold iG;simp only[f.num,e,dP,if_true,s]
  first |rw[v] |rw[F]
 unfold dL;simp[h.MU,j,h.Le,h.lst,ep,x,u,t,f.MU,g]
end
section
variable {B:Nat->Option MO}{S:GO}{L:Nat}{o:List Nat}{G:List Row}{C:List (Row×Nat)}
theorem vT (h:SR B S L o G C)(w:Wf o G){c a b:Nat}(hc:c∈o)(l:a<G.length)(hb:b<G.length)(p:o.idxOf c<G6.pl o G a)(n:o.idxOf c<G6.pl o G b)(hz:G.length<16000000) :
  ∃ f E i,bt [.loc L,.int c,.int a,.int b] S=GW (.int (i:Nat)) f/\SR B f L o (G++E) C/\Wf o (G++E)/\i<(G++E).length/\o.idxOf c<=G6.pl o (G++E) i/\E.length<=1/\∀ d ss,Ev (G++E) d (sel d c a b) ss->Ev (G++E) d i ss:=by
 have m:=vD a b;by_cases e:a=b
 ·subst e;rw[decide_eq_true rfl] at m;refine⟨S,[],a,aE rfl ?_,by rw[append_nil];exact h,by rw[append_nil];exact w,by rw[append_nil];exact l,by rw[append_nil];omega,by simp,λd ss k=>?_⟩
  ·unfold cw;simp
  unfold sel at k;simpa using k
 rw[decide_eq_false e] at m;obtain⟨f,E,i,j,t,y,g,x⟩:=i5 h w (r:=.ask c a b) ⟨hc,l,hb,p,n,e⟩ hz;have q:=(List.getElem?_eq_some_iff.mp g).1;have v:=h.has "number_of" (by decide);have s:JA [.int c,.int a,.int b] (.tup [.int c,.int a,.int b])=some (.tup [.int c,.int a,.int b]):=bY (by simp);have j:aX [.loc L,.tup [.int c,.int a,.int b]] S=GW (.int (i:Nat)) f:=j;have u:¬ ((a:Int)=b):=by omega
 refine⟨f,E,i,aE rfl ?_,t,y,q,?_,x,λd ss k=>?_⟩
 ·unfold cw;simp[u,v,s,j]
 ·unfold G6.pl;rw[g];exact le_refl _
 unfold sel at k;cases ht:d c with
 |false=>rw[ht] at k;exact .no g ht (by simpa using k)
 |true=>rw[ht] at k;exact .yes g ht (by simpa using k)
def v3 (B:Nat->Option MO)(L:Nat)(o:List Nat)(G:List Row)(C:List (Row×Nat))(c i j N M:Nat)(out:Out D):Prop:=
 ∃ b E a r,out=GW (.int (r:Nat)) b/\SR B b L o (G++E) a/\Wf o (G++E)/\(∀ p∈a,IU o (G++E) p.1 p.2)/\IU o (G++E) (.ask c i j) r/\E.length<=N/\a.length<=C.length+M
theorem pq {r:Row}{v:Nat}(h:IU o G r v):dC r:=by
 cases r with
 |leaf _=>exact h.elim
 |ask _ _ _=>trivial
theorem SR.put (h:SR B S L o G C)(n:∀ p∈C,IU o G p.1 p.2)(c i j v:Nat)(hz:C.length<16000000)(ρ:GP) :
  ∃ d,nw (.loc (L+3)) (aq (.ask c i j)) (.int v) ρ S=GW (.next ρ) d/\SR B d L o G (l7 C (.ask c i j) v)/\iG (.loc (L+3)) (aq (.ask c i j)) d=some (.int v):=by
 have e:=jR (r:=.ask c i j) trivial;have f:∀ p∈C,dC p.1:=λp q=>pq (n p q);have m:S.set (L+3) (.GZ (putN (jB C) (aq (.ask c i j)) (.int v)))=S.set (L+3) (.GZ (jB (l7 C (.ask c i j) v))):=by rw[wR f (r:=.ask c i j) trivial]
 refine⟨S.set (L+3) (.GZ (jB (l7 C (.ask c i j) v))),?_,⟨?_,?_,?_,eP h.LB,λk l=>by rw[bM (by omega)];exact h.fr k l⟩,?_⟩
 ·unfold nw;simp only[h.LB,e];rw[if_pos ⟨by unfold jB;rw[length_map];exact lt_of_lt_of_le hz (by decide),dP _⟩,m]
 ·rw[bM (by omega)];exact h.obj
 ·rw[bM (by omega)];exact h.NY
 ·rw[bM (by omega)];exact h.num
 have g:=eP (b:=.GZ (jB (l7 C (.ask c i j) v))) h.LB;unfold iG;simp only[g,e,dP,if_true];rw[← wR f (r:=.ask c i j) trivial];exact ya (by rw[gp (a:=.ask c i j) (b:=.ask c i j) trivial trivial];simp)
theorem Eu {n x f a b:Nat}(h:x<n+1+f)(d:f<x)(e:f<a)(c:f<b):x<n+min x (min a b):=by have:f+1<=min x (min a b):=Nat.le_min.mpr ⟨d,Nat.le_min.mpr ⟨e,c⟩⟩;omega
theorem half {g p q N:Nat}(h:g+q<=N)(e:q=2*p):g+p<=N:=by omega
theorem EG {g d p q l N:Nat}(h:g+q<=N)(e:q=2*p)(k:d<=p-1)(b : 1<=p)(a:l=g+d):l+p<=N:=by omega
theorem EF {g d p q N:Nat}(h:g+q<=N)(e:q=2*p)(k:d<=g+(p-1))(a : 1<=p):d+p<=N:=by omega
theorem fB {G E:List Row}{i:Nat}(h:i<G.length):i<(G++E).length:=by rw[List.length_append];omega
theorem BY (nd:o.Nodup){F:GN}{n:Nat}(IH:∀ {S:GO}{G:List Row}{C:List (Row×Nat)}{c i j:Nat},SR B S L o G C->Wf o G->(∀ p∈C,IU o G p.1 p.2)->c∈o->i<G.length->j<G.length->o.idxOf c<n+min (o.idxOf c) (min (G6.pl o G i) (G6.pl o G j))->G.length+2 ^ n<=16000000->C.length+2 ^ n<=16000000->v3 B L o G C c i j (2 ^ n-1) (2 ^ n-1) (F [.loc L,.int c,.int i,.int j] S))
  {c i j:Nat}(h:SR B S L o G C) (w:Wf o G) (hC:∀ p∈C,IU o G p.1 p.2) (hc:c∈o) (r:i<G.length) (s:j<G.length) (t:o.idxOf c<n+1+min (o.idxOf c) (min (G6.pl o G i) (G6.pl o G j))) (hz:G.length+2 ^ (n+1)<=16000000) (OU:C.length+2 ^ (n+1)<=16000000) :
  v3 B L o G C c i j (2 ^ (n+1)-1) (2 ^ (n+1)-2) (cY F [.loc L,.int c,.int i,.int j] S):=by
 have O : 2 ^ (n+1)=2*2 ^ n:=by rw[pow_succ];omega
 have p1 : 1<=2 ^ n:=one_le_two_pow;obtain⟨f,u,I,e1⟩:=zY h w nd hc r s;have gc:o.idxOf f<=o.idxOf c:=I▸Nat.min_le_left _ _;have gi:o.idxOf f<=G6.pl o G i:=I▸Nat.le_trans (min_le_right _ _) (Nat.min_le_left _ _);have U:o.idxOf f<=G6.pl o G j:=I▸Nat.le_trans (min_le_right _ _) (min_le_right _ _);rw[← I] at t;have hq:=vD f c;have UY:=h.has "first_character" (by decide);have ME:=h.has "number_of_ask" (by decide);have UZ:=h.has "side" (by decide);have Xb:=h.has "choose" (by decide);by_cases W:f=c
 ·subst W;rw[decide_eq_true rfl] at hq;have D:=iV h r f false;have J:=iV h s f true;obtain⟨a1,a2,T⟩:=iU w r false hc gi;obtain⟨Q,P,V⟩:=iU w s true hc U;obtain⟨S',E,v,X,sr,N,Y,pv,hE,Z⟩:=vT h w hc a1 Q a2 P (by omega);refine⟨S',E,C,v,aE rfl ?_,sr,N,λp t=>(hC p t).app w,⟨fB r,fB s,Y,by omega,λd g k=>?_⟩,by omega,by omega⟩
  ·unfold cU;simp only[false_eq_true,if_false,if_true] at D J;simp[UY,ME,UZ,e1,D,J,X]
  refine Z d g ?_;have hs:sel d f i j<G.length:=by unfold sel;split<;>assumption
  have k:=w.back hs k;unfold sel at k ⊢;cases ht:d f with
  |false=>rw[ht] at k;exact(T d g ht (by simpa using k)).mono E
  |true=>rw[ht] at k;exact(V d g ht (by simpa using k)).mono E
 rw[decide_eq_false W] at hq;have Jm:¬ ((f:Int)=c):=by omega
 have M:o.idxOf f<o.idxOf c:=by
  rcases Nat.lt_or_eq_of_le gc with q |q
  ·exact q
  exfalso;apply W;have a1:=getElem_idxOf (idxOf_lt_length_iff.mpr u);have a2:=getElem_idxOf (idxOf_lt_length_iff.mpr hc);rw[← a1,← a2];congr 1
 have D:=iV h r f false;have J:=iV h s f false;obtain⟨a1,a2,T⟩:=iU w r false u gi;obtain⟨Q,P,V⟩:=iU w s false u U;obtain⟨S1,e,C1,a,X,A,R,Pn,Xc,l1,m1⟩:=IH h w hC hc a1 Q (Eu t M a2 P) (half hz O) (half OU O);obtain⟨_,_,va,pa,Tn⟩:=Xc;have U0:G6.pl o (G++e) i=G6.pl o G i:=cn r;have U1:G6.pl o (G++e) j=G6.pl o G j:=cn s;have H:i<(G++e).length:=fB r;have z:j<(G++e).length:=fB s;have Rn:(G++e).length=G.length+e.length:=List.length_append;have t1:=iV A H f true;have t2:=iV A z f true;obtain⟨c1,c2,c3⟩:=iU R H true u (U0▸gi);obtain⟨d1,d2,d3⟩:=iU R z true u (U1▸U);have Xd:=A.has "side" (by decide);have Xe:=A.has "choose" (by decide);obtain⟨S2,l,C2,b,q2,OV,N,To,Xf,l2,m2⟩:=IH A R Pn hc c1 d1 (Eu t M c2 d2) (EG hz O l1 p1 Rn) (EF OU O m1 p1);obtain⟨_,_,vb,pb,Tp⟩:=Xf;have Xg:=OV.has "number_of_ask" (by decide);have U2:(G++e++l).length=G.length+e.length+l.length:=by rw[List.length_append,Rn]
 rw[cn a1,cn Q] at pa;rw[cn c1,cn d1] at pb;have ga:o.idxOf f<G6.pl o (G++e++l) a:=by rw[cn va];exact lt_of_lt_of_le (lt_min.mpr ⟨M,lt_min.mpr ⟨a2,P⟩⟩) pa
 have gb:o.idxOf f<G6.pl o (G++e++l) b:=lt_of_lt_of_le (lt_min.mpr ⟨M,lt_min.mpr ⟨c2,d2⟩⟩) pb;obtain⟨S3,m,v,q3,JT,w3,Y,pv,l3,Z⟩:=vT OV N (c:=f) (a:=a) (b:=b) u (fB va) vb ga gb (by omega);have K:G++(e++l++m)=G++e++l++m:=by simp
 have Yh:(G++e++l++m).length=G.length+e.length+l.length+m.length:=by rw[List.length_append,U2]
 refine⟨S3,e++l++m,C2,v,aE rfl ?_,by rw[K];exact JT,by rw[K];exact w3,λp t=>by rw[K];exact(To p t).app N,?_,by rw[List.length_append,List.length_append];omega,by omega⟩
 ·unfold cU;simp only[false_eq_true,if_false,if_true] at D J t1 t2;simp[UY,UZ,Xb,e1,Jm,D,J,X,Xd,Xe,t1,t2,q2,Xg,q3]
 rw[K];have px:G6.pl o (G++e++l++m) i=G6.pl o G i:=by rw[cn (fB H),cn H,U0]
 have py:G6.pl o (G++e++l++m) j=G6.pl o G j:=by rw[cn (fB z),cn z,U1]
 refine⟨fB (fB H),fB (fB z),Y,by rw[px,py,← I];exact pv,λd g k=>?_⟩;refine Z d g ?_;have hs:sel d c i j<G.length:=by unfold sel;split<;>assumption
 have k:Ev G d (sel d c i j) g:=w.back (E:=e++l++m) hs (by rw[K];exact k);cases ht:d f with
 |false =>
  have:Ev (G++e) d (sel d c (sd G i f false) (sd G j f false)) g:=by
   unfold sel at k ⊢;by_cases x:d c=true
   ·rw[if_pos x] at k ⊢;exact(V d g ht k).mono e
   rw[if_neg x] at k ⊢;exact(T d g ht k).mono e
  have:=Tn d g this;show Ev _ d (if d f=true then b else a) g;rw[ht];exact(this.mono l).mono m
 |true =>
  have y:Ev (G++e) d (sel d c i j) g:=k.mono e
  have:Ev (G++e++l) d (sel d c (sd (G++e) i f true) (sd (G++e) j f true)) g:=by
   unfold sel at y ⊢;by_cases x:d c=true
   ·rw[if_pos x] at y ⊢;exact(d3 d g ht y).mono l
   rw[if_neg x] at y ⊢;exact(c3 d g ht y).mono l
  have:=Tp d g this;show Ev _ d (if d f=true then b else a) g;rw[ht];exact this.mono m
theorem kX (nd:o.Nodup):∀ (n:Nat) {S:GO}{G:List Row}{C:List (Row×Nat)}{c i j:Nat},SR B S L o G C->Wf o G->(∀ p∈C,IU o G p.1 p.2)->c∈o->i<G.length->j<G.length->o.idxOf c<n+min (o.idxOf c) (min (G6.pl o G i) (G6.pl o G j))->G.length+2 ^ n<=16000000->C.length+2 ^ n<=16000000->v3 B L o G C c i j (2 ^ n-1) (2 ^ n-1) (cN n [.loc L,.int c,.int i,.int j] S)
 | 0,S,G,C,c,i,j,h,w,d,hc,l,y,g,z,H=>absurd g (by omega)
 |n+1,S,G,C,c,i,j,h,w,d,hc,l,y,g,z,H=>by
  have x:=jR (r:=.ask c i j) trivial;have P:∀ p∈C,dC p.1:=λp g=>pq (d p g);have m:=BO P (r:=.ask c i j) trivial;have t:JA [.int c,.int i,.int j] (.tup [.int c,.int i,.int j])=some (.tup [.int c,.int i,.int j]):=bY (by simp);have X : 1<=2 ^ n:=one_le_two_pow;have W : 2 ^ (n+1)=2*2 ^ n:=by rw[pow_succ];omega
  have s:aq (.ask c i j) = .tup [.int c,.int i,.int j]:=rfl;cases hf:C.find? (λp=>decide (p.1=Row.ask c i j)) with
  |some p =>
   rw[hf] at m;have Q:=List.mem_of_find?_eq_some hf;have K:p.1 = .ask c i j:=by simpa using List.find?_some hf
   have b:=d p Q;rw[K] at b;have e:nE true (aq (.ask c i j)) (.loc (L+3)) S=some (.bl false):=by unfold nE;simp only[h.LB,x,dP,if_true,m];rfl
   have a:iG (.loc (L+3)) (aq (.ask c i j)) S=some (.int (p.2:Nat)):=by unfold iG;simp only[h.LB,x,dP,if_true,m];rfl
   rw[s] at e a;refine⟨S,[],C,p.2,aE rfl ?_,by rw[append_nil];exact h,by rw[append_nil];exact w,by rw[append_nil];exact d,by rw[append_nil];exact b,by simp,by omega⟩;unfold dS;simp[t,h.KI,e,a]
  |none =>
   rw[hf] at m;have e:nE true (aq (.ask c i j)) (.loc (L+3)) S=some (.bl true):=by unfold nE;simp only[h.LB,x,dP,if_true,m];rfl
   rw[s] at e;have O:=h.has "choose_anew" (by decide);by_cases I:i=j
   ·subst I;have b:IU o G (.ask c i i) i:=⟨l,l,l,by omega,λU T k=>by unfold sel at k;simpa using k⟩;obtain⟨u,ep,f,a⟩:=h.put d c i i i (by omega) [some (.loc L),some (.int c),some (.int i),some (.int i),some (.tup [.int c,.int i,.int i])];rw[s] at ep a;have pl:=sG C (.ask c i i) i;refine⟨u,[],l7 C (.ask c i i) i,i,aE rfl ?_,by rw[append_nil];exact f,by rw[append_nil];exact w,by rw[append_nil];exact sH d b,by rw[append_nil];exact b,by simp,by omega⟩;unfold dS;simp[t,h.KI,e,ep,f.KI,a]
   have N:¬ ((i:Int)=j):=by omega
   obtain⟨V,E,A,v,q,D,J,F,b,M,R⟩:=BY nd (λ{S G C c i j}=>kX nd n (S:=S) (G:=G) (C:=C) (c:=c) (i:=i) (j:=j)) h w d hc l y g z H;obtain⟨u,ep,f,a⟩:=D.put F c i j v (by omega) [some (.loc L),some (.int c),some (.int i),some (.int j),some (.tup [.int c,.int i,.int j])];rw[s] at ep a;have pl:=sG A (.ask c i j) v;refine⟨u,E,l7 A (.ask c i j) v,v,aE rfl ?_,f,J,sH F b,b,M,by omega⟩;unfold dS;simp[t,h.KI,e,N,O,q,D.KI,ep,f.KI,a]
end
inductive KQ (m:Nat):Nat->D->Prop
 |leaf {k:Nat}{ss:List Str}:(∀ x∈ss,cZ x=true)->MS ss=true->ss.length<=6->KQ m k (aq (.leaf ss))
 |ask {k c:Nat}{x y:D}:c<m->KQ m k x->KQ m k y->KQ m (k+1) (.tup [.str "ask",.int c,x,y])
inductive Kv (th:Th):D->List Str->Prop
 |leaf {ss:List Str}:Kv th (aq (.leaf ss)) ss
 |no {c:Nat}{x y:D}{ss:List Str}:th c=false->Kv th x ss->Kv th (.tup [.str "ask",.int c,x,y]) ss
 |yes {c:Nat}{x y:D}{ss:List Str}:th c=true->Kv th y ss->Kv th (.tup [.str "ask",.int c,x,y]) ss
theorem eqs (w s:Str):HP (.str w) (.str s)=some (.bl (decide (w=s))):=by rw[z6 rfl];rfl
theorem wX:¬ ("ask":Str)="names":=by decide
section
variable {B:Nat->Option MO}{L:Nat}{o:List Nat}
theorem Bk (nd:o.Nodup)(hl:o.length<=8){m:Nat}(ho:∀ c,c<m->c∈o){k:Nat}{d:D}(hd:KQ m k d):∀ (fuel:Nat) {S:GO}{G:List Row}{C:List (Row×Nat)},k<fuel->SR B S L o G C->Wf o G->(∀ p∈C,IU o G p.1 p.2)->G.length+512*2 ^ (k+1)<=16000000->C.length+512*2 ^ (k+1)<=16000000 ->
  ∃ A E O r,cQ fuel [.loc L,d] S=GW (.int (r:Nat)) A/\SR B A L o (G++E) O/\Wf o (G++E)/\(∀ p∈O,IU o (G++E) p.1 p.2)/\r<(G++E).length/\E.length+512<=512*2 ^ (k+1)/\O.length+512<=C.length+512*2 ^ (k+1)/\∀ g ss,Kv g d ss->Ev (G++E) g r ss:=by
 induction hd with
 | @leaf k ss h1 h2 _ =>
  intro fuel S G C hf h w M hz OU;obtain⟨fuel,rfl⟩:∃ f,fuel=f+1:=⟨fuel-1,by omega⟩;have p1 : 1<=2 ^ k:=one_le_two_pow;have p2 : 2 ^ (k+1)=2*2 ^ k:=by rw[pow_succ];omega
  obtain⟨A,E,i,I,sr,N,P,hE⟩:=i5 h w (r:=.leaf ss) ⟨h1,h2⟩ (by omega);have J:=h.has "number_of" (by decide);have e0:Hq (aq (.leaf ss)) (.int 0) S=some (.str "names"):=Li _ _ S;have t:=eqs "names" "names";rw[decide_eq_true rfl] at t;refine⟨A,E,C,i,aE rfl ?_,sr,N,λp hp=>(M p hp).app w,(List.getElem?_eq_some_iff.mp P).1,by omega,by omega,λg LJ k=>?_⟩
  ·unfold eC;simp[e0,t,J,I]
  generalize F:aq (.leaf ss)=D0 at k;cases k with
  |leaf =>
   have hs:ss=LJ:=by simp only[aq,D.tup.injEq,List.cons.injEq,and_true,true_and] at F;exact(List.map_inj_right (λa b h=>by cases h;rfl)).mp F
   subst hs;exact .leaf P
  |no=>simp[aq] at F
  |yes=>simp[aq] at F
 | @ask k c x y hc _ _ ix iy =>
  intro fuel S G C hf h w M hz OU;obtain⟨fuel,rfl⟩:∃ f,fuel=f+1:=⟨fuel-1,by omega⟩;have p1 : 1<=2 ^ (k+1):=one_le_two_pow;have p2 : 2 ^ (k+1+1)=2*2 ^ (k+1):=by rw[pow_succ];omega
  obtain⟨S1,l,C1,u,I,Km,W,Z,v1,l1,m1,Tq⟩:=ix fuel (by omega) h w M (by omega) (by omega);have Rn:(G++l).length=G.length+l.length:=List.length_append;obtain⟨S2,n,X,H,e2,V,N,To,v2,l2,m2,Y⟩:=iy fuel (by omega) Km W Z (by omega) (by omega);have U2:(G++l++n).length=G.length+l.length+n.length:=by rw[List.length_append,Rn]
  have T:=ho c hc;have QF:o.idxOf c<o.length:=idxOf_lt_length_iff.mpr T;have J:=h.has "choose" (by decide);obtain⟨S3,s,U,v,q3,JT,w3,QJ,ch,Q,R⟩:=kX nd 9 V N To T (i:=u) (j:=H) (by omega) v2 (by omega) (by show _+512<=_;omega) (by show _+512<=_;omega);obtain⟨_,_,vv,_,KZ⟩:=ch;have Q:s.length<=511:=Q;have R:U.length<=X.length+511:=R;have z:G++(l++n++s)=G++l++n++s:=by simp
  have a0:Hq (.tup [.str "ask",.int c,x,y]) (.int 0) S=some (.str "ask"):=Li _ _ S;have t:=eqs "ask" "names";rw[decide_eq_false wX] at t;refine⟨S3,l++n++s,U,v,aE rfl ?_,by rw[z];exact JT,by rw[z];exact w3,by rw[z];exact QJ,by rw[z];exact vv,by rw[List.length_append,List.length_append];omega,by omega,λg ss q=>?_⟩
  ·unfold eC;simp[Li,MT,at2,US,t,J,I,e2,q3]
  rw[z];refine KZ g ss ?_;cases q with
  |no K q =>
   have:Ev (G++l++n) g u ss:=(Tq g ss q).mono n;have e:sel g c u H=u:=by unfold sel;rw[K];rfl
   rw[e];exact this.mono s
  |yes K q =>
   have e:sel g c u H=H:=by unfold sel;rw[K];rfl
   rw[e];exact(Y g ss q).mono s
end
inductive Tr where
 |leaf (ss:List Str)
 |node (c:Nat) (n y:Tr)
 deriving DecidableEq
def IV:Tr->Th->List Str
 | .leaf b,_=>b
 | .node c n y,a=>if a c=true then IV y a else IV n a
def tp (o:List Nat):Tr->Nat
 | .leaf _=>o.length
 | .node c _ _=>o.idxOf c
def Ord (o:List Nat):Tr->Prop
 | .leaf _=>True
 | .node c n y=>c∈o/\Ord o n/\Ord o y/\o.idxOf c<tp o n/\o.idxOf c<tp o y/\n≠y
def Lf:Tr->Nat
 | .leaf _ => 1
 | .node _ n y=>Lf n+Lf y+1
theorem AH (t:Tr) : 1<=Lf t:=by cases t<;>simp[Lf]
noncomputable def upd (a:Th) (c:Nat) (b:Bool):Th:=λx=>if x=c then b else a x
theorem GV (a:Th)(c:Nat)(b:Bool):upd a c b c=b:=by simp[upd]
theorem iS {o:List Nat}{c:Nat}:∀ {t:Tr},Ord o t->o.idxOf c<tp o t->∀ (a:Th) (b:Bool),IV t (upd a c b)=IV t a
 | .leaf _,_,_,_,_=>rfl
 | .node d n y,h,f,a,b=>by
  obtain⟨_,l,k,q,p,_⟩:=h;have f:o.idxOf c<o.idxOf d:=f;have m:¬ d=c:=λe=>by rw[e] at f;omega
  have g:=iS l (show o.idxOf c<tp o n by omega) a b;have i:=iS k (show o.idxOf c<tp o y by omega) a b;have j:upd a c b d=a d:=by simp[upd,m]
  show (if upd a c b d=true then IV y (upd a c b) else IV n (upd a c b))=_;rw[g,i,j];rfl
theorem uP {o:List Nat}{c:Nat}{n y:Tr}(h:Ord o (.node c n y))(a:Th):IV (.node c n y) (upd a c false)=IV n a:=by show (if upd a c false c=true then _ else IV n (upd a c false))=_;rw[GV,iS h.2.1 h.2.2.2.1];rfl
theorem qw {o:List Nat}{c:Nat}{n y:Tr}(h:Ord o (.node c n y))(a:Th):IV (.node c n y) (upd a c true)=IV y a:=by show (if upd a c true c=true then IV y (upd a c true) else _)=_;rw[GV,iS h.2.2.1 h.2.2.2.2.1];rfl
theorem BG {o:List Nat}{a b:Nat}(c:a∈o)(hb:b∈o)(h:o.idxOf a=o.idxOf b):a=b:=by have a1:=getElem_idxOf (idxOf_lt_length_iff.mpr c);have a2:=getElem_idxOf (idxOf_lt_length_iff.mpr hb);rw[← a1,← a2];congr 1
theorem canon {o:List Nat}:∀ (k:Nat) {t t':Tr},Lf t+Lf t'<=k->Ord o t->Ord o t'->(∀ d,IV t d=IV t' d)->t=t'
 | 0,t,t',e,_,_,_=>absurd e (by have:=AH t;omega)
 |k+1,t,t',e,h,h',he=>by
  have apart:∀ {c:Nat}{n y s:Tr},Lf n+Lf y<=k->Ord o (.node c n y)->Ord o s->o.idxOf c<tp o s->(∀ d,IV (.node c n y) d=IV s d)->False:=by intro c n y s x f i m j;apply f.2.2.2.2.2;refine canon k x f.2.1 f.2.2.1 λd=>?_;have a:=j (upd d c false);have b:=j (upd d c true);rw[uP f,iS i m] at a;rw[qw f,iS i m] at b;rw[a,b]
  cases t with
  |leaf g=>cases t' with
   |leaf z=>have:=he (λ_=>false);simp only[IV] at this;rw[this]
   |node c n y =>
    exact(apart (s:=.leaf g) (by simp only[Lf] at e;omega) h' h (idxOf_lt_length_iff.mpr h'.1) λd=>(he d).symm).elim
  |node c n y=>cases t' with
   |leaf g =>
    exact(apart (s:=.leaf g) (by simp only[Lf] at e;omega) h h' (idxOf_lt_length_iff.mpr h.1) he).elim
   |node r l p =>
    simp only[Lf] at e;rcases Nat.lt_trichotomy (o.idxOf c) (o.idxOf r) with q |q |q
    ·exact(apart (s:=.node r l p) (by omega) h h' q he).elim
    ·have w:=BG h.1 h'.1 q;subst w;have u:n=l:=canon k (by omega) h.2.1 h'.2.1 λd=>by have:=he (upd d c false);rwa [uP h,uP h'] at this
     have v:y=p:=canon k (by omega) h.2.2.1 h'.2.2.1 λd=>by have:=he (upd d c true);rwa [qw h,qw h'] at this
     rw[u,v]
    exact(apart (s:=.node c n y) (by omega) h' h q λd=>(he d).symm).elim
inductive Un (G:List Row):Nat->Tr->Prop
 |leaf {i:Nat}{ss:List Str}:G[i]?=some (.leaf ss)->Un G i (.leaf ss)
 |node {i c n y:Nat}{s t:Tr}:G[i]?=some (.ask c n y)->Un G n s->Un G y t->Un G i (.node c s t)
theorem Un.det {G:List Row}{i:Nat}{s t:Tr}(h:Un G i s)(g:Un G i t):s=t:=by
 induction h generalizing t with
 |leaf h=>cases g with
  |leaf c=>rw[h] at c;cases c;rfl
  |node c=>rw[h] at c;cases c
 |node h _ _ d e=>cases g with
  |leaf c=>rw[h] at c;cases c
  |node c a b=>rw[h] at c;cases c;rw[d a,e b]
theorem Un.ev {G:List Row}{i:Nat}{t:Tr}(h:Un G i t)(a:Th):Ev G a i (IV t a):=by
 induction h with
 |leaf h=>exact .leaf h
 | @node i c n y s t h _ _ b d =>
  cases ht:a c with
  |false=>exact .no h ht (by rw[IV,ht];exact b)
  |true=>exact .yes h ht (by rw[IV,ht];exact d)
theorem Wf.un {o:List Nat}{G:List Row}(w:Wf o G):∀ (i:Nat),i<G.length->∃ t,Un G i t:=by
 intro i
 induction i using Nat.strongRecOn with
 |_ i a =>
  intro g;have e:G[i]?=some G[i]:=getElem?_eq_getElem g;have q:=w.row i _ e;cases hr:G[i] with
  |leaf j=>rw[hr] at e;exact⟨_,.leaf e⟩
  |ask c n y =>
   rw[hr] at e q;obtain⟨_,f,d,_⟩:=q;obtain⟨s,h⟩:=a n f (by omega);obtain⟨t,b⟩:=a y d (by omega);exact⟨_,.node e h b⟩
theorem Un.inj {G:List Row}(nd:G.Nodup){i:Nat}{t:Tr}(h:Un G i t):∀ {j:Nat},Un G j t->i=j:=by
 have key:∀ {a b:Nat}{r:Row},G[a]?=some r->G[b]?=some r->a=b:=by intro a b r f hb;have p:=(List.getElem?_eq_some_iff.mp f).1;have o:=(List.getElem?_eq_some_iff.mp hb).1;have n:=(List.getElem?_eq_some_iff.mp f).2;have k:=(List.getElem?_eq_some_iff.mp hb).2;have c:=nd.idxOf_getElem a p;have e:=nd.idxOf_getElem b o;rw[← c,← e,n,k]
 induction h with
 |leaf h=>intro j g;cases g with
  |leaf d=>exact key h d
 |node h _ _ c e=>intro j g;cases g with
  |node d a b =>
   have l:=c a;have m:=e b;subst l m;exact key h d
theorem Un.pl {o:List Nat}{G:List Row}{i:Nat}{t:Tr}(h:Un G i t):G6.pl o G i=tp o t:=by
 unfold G6.pl;cases h with
 |leaf h=>rw[h];rfl
 |node h _ _=>rw[h];rfl
def po:Tr->List Tr->List Tr
 | .leaf b,a=>if Tr.leaf b∈a then a else a++[.leaf b]
 | .node c n y,a=>if Tr.node c n y∈a then a else po y (po n a)++[.node c n y]
def yg (P:List Tr):Tr->Row
 | .leaf a => .leaf a
 | .node c n y => .ask c (P.idxOf n) (P.idxOf y)
def enc (P:List Tr):List Row:=P.map (yg P)
open Classical in
noncomputable def uT (G:List Row) (i:Nat):Tr:=if h:∃ t,Un G i t then Classical.choose h else .leaf []
theorem Un.uT {G:List Row}{i:Nat}{t:Tr}(h:Un G i t):G6.uT G i=t:=by unfold G6.uT;have e:∃ t,Un G i t:=⟨t,h⟩;rw[dif_pos e];exact(Classical.choose_spec e).det h
theorem Wf.uT {o:List Nat}{G:List Row}(w:Wf o G){i:Nat}(a:i<G.length):Un G i (G6.uT G i):=by obtain⟨t,h⟩:=w.un i a;rw[h.uT];exact h
theorem uI {o:List Nat}{G:List Row}(w:Wf o G){i j:Nat}(a:i<G.length)(b:j<G.length)(h:G6.uT G i=G6.uT G j):i=j:=
 Un.inj w.nd (w.uT a) (h▸w.uT b)
theorem yC {o:List Nat}{G:List Row}(w:Wf o G){a:List Nat}(c:∀ i∈a,i<G.length){j:Nat}(d:j<G.length)(h:G6.uT G j∈a.map (G6.uT G)):j∈a:=by obtain⟨k,b,e⟩:=mem_map.mp h;rw[← uI w (c k b) d e];exact b
theorem eB {t:Tr}{a:List Tr}(h:t∈a):po t a=a:=by cases t<;>(unfold po;rw[if_pos h])
theorem dR {ss:List Str}{a:List Tr}(h:Tr.leaf ss∉a):po (.leaf ss) a=a++[.leaf ss]:=by unfold po;rw[if_neg h]
theorem dQ {c:Nat}{n y:Tr}{a:List Tr}(h:Tr.node c n y∉a):po (.node c n y) a=po y (po n a)++[.node c n y]:=by rw[po,if_neg h]
def lf (a:List Nat):List (D×D):=a.map λ(k:Nat)=>(D.int k,D.bl true)
theorem iX (a b:Nat):fx (.int a) (.int b)=decide (a=b):=by
 unfold fx;by_cases h:a=b
 ·simp[h]
 rw[decide_eq_false h];have:¬ ((a:Int)=b):=by omega
 simp[fQ,this]
theorem wA (k:Nat):∀ b:List Nat,((lf b).find? λp=>fx p.1 (.int k)).isSome=decide (k∈b)
 |[]=>by simp[lf]
 |a::b=>by
  have c:=wA k b;unfold lf at c ⊢;rw[map_cons,find?_cons];simp only[iX];by_cases h:a=k
  ·simp[h]
  rw[decide_eq_false h];simp only;rw[c];have:¬ k=a:=λe=>h e.symm;simp[this]
theorem Dk (k:Nat)(b:List Nat):((lf b).any λp=>fx p.1 (.int k))=decide (k∈b):=by
 induction b with
 |nil=>simp[lf]
 |cons a b c =>
  unfold lf at c ⊢;rw[map_cons,any_cons,c,iX];by_cases h:a=k
  ·simp[h]
  have:¬ k=a:=λe=>h e.symm;simp[h,this]
theorem Dj {k:Nat}{a:List Nat}(h:k∉a):putD (lf a) (.int k) (.bl true)=lf (a++[k]):=by unfold putD;rw[Dk,decide_eq_false h,if_neg (by decide)];unfold lf;rw[map_append];rfl
theorem Ew {S:GO}{l:Nat}{a:List Nat}(h:S[l]?=some (.dict (lf a)))(k:Nat):KY true (.int k) (.loc l) S=some (.bl (!decide (k∈a))):=by unfold KY;rw[if_pos rfl];unfold BL;simp only[h,fQ];unfold getD;rw[isSome_map,wA];rfl
structure Cl (G:List Row) (Ls:List Nat):Prop where
 nd:Ls.Nodup
 lt:∀ i∈Ls,i<G.length
 dn:∀ (p i c n y:Nat),Ls[p]?=some i->G[i]?=some (.ask c n y)->n∈Ls.take p/\y∈Ls.take p
theorem Cl.snoc {G:List Row}{d:List Nat}(h:Cl G d){j:Nat}(g:j<G.length)(k:j∉d)(hc:∀ c n y,G[j]?=some (.ask c n y)->n∈d/\y∈d):Cl G (d++[j]):=by
 refine⟨nodup_append.mpr ⟨h.nd,by simp,λa l b hb=>?_⟩,λi hi=>?_,λp i c n y e f=>?_⟩
 ·rw[mem_singleton.mp hb];rintro rfl;exact k l
 ·rcases mem_append.mp hi with hi |hi
  ·exact h.lt i hi
  rw[mem_singleton.mp hi];exact g
 rcases Nat.lt_trichotomy p d.length with hl |hl |hl
 ·rw[getElem?_append_left hl] at e;rw[List.take_append_of_le_length (le_of_lt hl)];exact h.dn p i c n y e f
 ·subst hl;have:i=j:=by simpa using e.symm
  subst this;rw[List.take_append_of_le_length (le_refl _),List.take_length];exact hc c n y f
 rw[getElem?_append_right (by omega)] at e;have:([j]:List Nat)[p-d.length]?=none:=by rw[List.getElem?_eq_none_iff];simp;omega
 rw[this] at e;cases e
section
variable {L:Nat}{o:List Nat}{G:List Row}
theorem Ao (r:Row)(S:GO):dD [aq r] S=GW (.tup (match r with | .leaf _=>[] | .ask _ n y=>[.int n,.int y])) S:=by
 have a:=kh r S;refine aE rfl ?_;unfold jZ;cases r with
 |leaf d =>
  have b:JA [] (.tup [])=some (.tup []):=bY (by simp);simp[a,b]
 |ask c n y =>
  have:KP (aq (.ask c n y)) (some 1) none=some (.tup [.int n,.int y]):=rfl;simp[a,tK,this]
def w4 (F:GN)(w:Nat)(N:Nat)(G:List Row)(o:List Nat)(g:Nat):Prop:=
 ∀ (j:Nat) (a:List Nat) (S:GO) (l:Nat),o.length+1<=w+G6.pl o G j->j<G.length->j∉a->S[g]?=some (.lst (G.map aq))->S[l]?=some (.dict (lf a))->g≠l->Cl G a->a.length+N<=10000 ->
  ∃ X,F [.loc g,.int j,.loc l] S=GW .Hu (S.set l (.dict (lf (a++X++[j]))))/\Cl G (a++X++[j])/\(∀ x∈X,x<j)/\X.length+1<=N/\(a++X++[j]).map (G6.uT G)=po (G6.uT G j) (a.map (G6.uT G))
theorem nK {F:GN}{w N g:Nat}(p:w4 F w N G o g)(j k:Nat)(a:List Nat)(S:GO)(l:Nat)(n:o.length+1<=w+G6.pl o G k)(m:k<G.length)(r:S[g]?=some (.lst (G.map aq)))(c:S[l]?=some (.dict (lf a)))(u:g≠l)(hc:Cl G a)(v:a.length+N<=10000) :
  ∃ X,b9 F [some (.loc g),some (.int j),some (.loc l),some (.int k)] S=GW (.next [some (.loc g),some (.int j),some (.loc l),some (.int k)]) (S.set l (.dict (lf (a++X))))/\Cl G (a++X)/\(∀ x∈X,x<=k)/\k∈a++X/\X.length<=N/\(a++X).map (G6.uT G)=po (G6.uT G k) (a.map (G6.uT G)):=by
 have d:=Ew c k;by_cases b:k∈a
 ·rw[decide_eq_true b] at d
  have t:S.set l (.dict (lf (a++[])))=S:=by
   rw[append_nil];apply ext_getElem?;intro i;by_cases e:l=i
   ·subst e;rw[eP c,c]
   rw[bM e]
  refine⟨[],?_,by rw[append_nil];exact hc,(λx hx=>by cases hx),by rw[append_nil];exact b,by simp,by rw[append_nil,eB (List.mem_map_of_mem b)]⟩;rw[t];unfold b9;simp[d]
 rw[decide_eq_false b] at d;obtain⟨X,q,s,f,nx,h⟩:=p k a S l n m b r c u hc v;refine⟨X++[k],?_,by rw[← List.append_assoc];exact s,λx hx=>?_,by simp,by simpa using nx,by rw[← List.append_assoc];exact h⟩
 ·unfold b9;simp[d,q]
 rcases mem_append.mp hx with hx |hx
 ·exact le_of_lt (f x hx)
 rw[mem_singleton.mp hx];exact le_refl _
theorem tw (w:Wf o G)(g:Nat):∀ fuel:Nat,w4 (br fuel) fuel (2 ^ fuel-1) G o g
 | 0,j,a,S,l,H,_,_,_,_,_,_,_=>absurd H (by have:=B5 o G j;omega)
 |n+1,j,a,S,l,H,hj,OW,hg,hl,Mn,hc,hN=>by
  have J:=tw w g n;have p2 : 2 ^ (n+1)=2*2 ^ n:=by rw[pow_succ];omega
  have p1 : 1<=2 ^ n:=one_le_two_pow;have e:G[j]?=some G[j]:=getElem?_eq_getElem hj;have q:=w.row j _ e;have P:cE (.loc g) S=some (G.map aq):=by unfold cE;simp only[hg]
  have u:oJ (.loc g) (.int j) S=some (aq G[j]):=by show ((cE (.loc g) S).bind λY=>Jp Y (j:Int))=_;rw[P,bind_some];exact bq (by rw[getElem?_map,e];rfl)
  have t:=Ao G[j] S;have F:bw (.loc g)=true:=rfl;have W:∀ k:Nat,fQ (.int k)=some (.inl (k:Int)):=λk=>rfl
  have finish:∀ (d:List Nat) (s:GO) (z:Option D),s=S.set l (.dict (lf d))->j∉d->d.length<=20000->vN (af 2) (af 1) (aC (.bl true)) [some (.loc g),some (.int j),some (.loc l),z] s=GW (.next [some (.loc g),some (.int j),some (.loc l),z]) (S.set l (.dict (lf (d++[j])))):=by
   intro d s z M T r;have N:s[l]?=some (.dict (lf d)):=by rw[M];exact eP hl
   have Q:(lf d).length<sizeLine:=by unfold lf;rw[length_map];exact Nat.lt_of_le_of_lt r (by decide)
   have:sF (.loc l) (.int j) (.bl true) [some (.loc g),some (.int j),some (.loc l),z] s=GW (.next [some (.loc g),some (.int j),some (.loc l),z]) (S.set l (.dict (lf (d++[j])))):=by unfold sF;simp only[N,W];rw[if_pos Q,Dj T,M,List.set_set]
   simp[this]
  cases hr:G[j] with
  |leaf C =>
   rw[hr] at t u
   have fin:=finish a S none (by
    apply ext_getElem?;intro i;by_cases L:l=i
    ·subst L;rw[eP hl,hl]
    rw[bM L]) OW (by omega)
   have f:G6.uT G j = .leaf C:=(Un.leaf (by rw[e,hr])).uT;have A:Tr.leaf C∉a.map (G6.uT G):=λh=>OW (yC w hc.lt hj (by rw[f];exact h));refine⟨[],?_,?_,(λx hx=>by cases hx),by simp;omega,by rw[append_nil,f,dR A,map_append,map_cons,map_nil,f]⟩
   ·rw[append_nil];unfold br bj;rw[if_pos (show ([.loc g,.int j,.loc l]:List D).length=3 from rfl)]
    have:dZ (br n) ([.loc g,.int j,.loc l].map some++replicate 1 none) S=GW (.next [some (.loc g),some (.int j),some (.loc l),none]) (S.set l (.dict (lf (a++[j])))):=by
     unfold dZ;show aO _ _ [some (.loc g),some (.int j),some (.loc l),none] S=_;rw[Cb];have:io (bK (aS dD (ag (yp (af 0) (af 1)) aD))) (aK 3) (b9 (br n)) [some (.loc g),some (.int j),some (.loc l),none] S=GW (.next [some (.loc g),some (.int j),some (.loc l),none]) S:=by simp[F,u,t,bR,gw]
     rw[this];exact fin
    rw[this];rfl
   rw[append_nil];exact hc.snoc hj OW λc n y h=>by rw[e,hr] at h;cases h
  |ask c v m =>
   rw[hr] at t u q;obtain⟨_,b1,b2,b3,b4,_⟩:=q;have Z:G6.pl o G j=o.idxOf c:=by unfold G6.pl;rw[e,hr]
   obtain⟨b,R,V,E,m1,n1,t1⟩:=nK J j v a S l (by omega) (by omega) hg hl Mn hc (by omega);have O:(S.set l (.dict (lf (a++b))))[g]?=some (.lst (G.map aq)):=by rw[bM (Ne.symm Mn)];exact hg
   have U:(S.set l (.dict (lf (a++b))))[l]?=some (.dict (lf (a++b))):=eP hl;obtain⟨p,K,X,B,m2,n2,t2⟩:=nK J j m (a++b) _ l (by omega) (by omega) O U Mn V (by rw[List.length_append];omega);rw[List.set_set] at K
   have I:j∉a++b++p:=by
    intro hm;rcases mem_append.mp hm with hm |hm
    ·rcases mem_append.mp hm with hm |hm
     ·exact OW hm
     have:=E j hm;omega
    have:=B j hm;omega
   have fin:=finish (a++b++p) _ (some (.int m)) rfl I (by rw[List.length_append,List.length_append];omega);have f:G6.uT G j = .node c (G6.uT G v) (G6.uT G m):=(Un.node (by rw[e,hr]) (w.uT (by omega)) (w.uT (by omega))).uT;have A:Tr.node c (G6.uT G v) (G6.uT G m)∉a.map (G6.uT G):=λh=>OW (yC w hc.lt hj (by rw[f];exact h));refine⟨b++p,?_,?_,λx hx=>?_,by rw[List.length_append];omega,by rw[← List.append_assoc,map_append,t2,t1,f,dQ A,map_cons,map_nil,f]⟩
   ·unfold br bj;rw[if_pos (show ([.loc g,.int j,.loc l]:List D).length=3 from rfl)]
    have:dZ (br n) ([.loc g,.int j,.loc l].map some++replicate 1 none) S=GW (.next [some (.loc g),some (.int j),some (.loc l),some (.int m)]) (S.set l (.dict (lf (a++(b++p)++[j])))):=by
     unfold dZ;show aO _ _ [some (.loc g),some (.int j),some (.loc l),none] S=_;rw[Cb];have:io (bK (aS dD (ag (yp (af 0) (af 1)) aD))) (aK 3) (b9 (br n)) [some (.loc g),some (.int j),some (.loc l),none] S=GW (.next [some (.loc g),some (.int j),some (.loc l),some (.int m)]) (S.set l (.dict (lf (a++b++p)))):=by simp[F,u,t,bR,gw,R,K]
     rw[this];simp only[bA];rw[← List.append_assoc a b p];exact fin
    rw[this];rfl
   ·rw[← List.append_assoc];refine X.snoc hj I λc' n y h=>?_;rw[e,hr] at h;cases h;exact⟨mem_append_left _ m1,m2⟩
   rcases mem_append.mp hx with hx |hx
   ·have:=E x hx;omega
   have:=B x hx;omega
end
def aW (p:Nat):List Nat->List (D×D)
 |[]=>[]
 |k::r=>(.int k,.int p)::aW (p+1) r
theorem zo:∀ (l:List Nat) (p:Nat),(aW p l).length=l.length
 |[],_=>rfl
 |k::r,p=>by rw[aW,length_cons,length_cons,zo r]
theorem zt (k:Nat):∀ (l:List Nat) (p:Nat),((aW p l).any λq=>fx q.1 (.int k))=decide (k∈l)
 |[],_=>by simp[aW]
 |a::l,p=>by
  rw[aW,any_cons,zt k l,iX];by_cases h:a=k
  ·simp[h]
  have:¬ k=a:=λe=>h e.symm;simp[h,this]
theorem zr (k:Nat):∀ (l:List Nat) (p:Nat),getD (aW p l) (.int k)=if k∈l then some (.int ((p+l.idxOf k:Nat):Int)) else none
 |[],_=>rfl
 |a::l,p=>by
  have c:=zr k l (p+1);unfold L2.getD at c ⊢;rw[aW,find?_cons];simp only[iX];by_cases h:a=k
  ·subst h;simp
  rw[decide_eq_false h];simp only;rw[c];have d:¬ k=a:=λe=>h e.symm;have f:(a==k)=false:=by simpa using h
  by_cases b:k∈l
  ·rw[if_pos b,if_pos (mem_cons_of_mem _ b),idxOf_cons,f];simp only[cond_false];congr 2;omega
  rw[if_neg b,if_neg (by rw[mem_cons];exact λq=>q.elim d b)]
theorem ww:∀ (l:List Nat) (p k:Nat),aW p (l++[k])=aW p l++[(.int k,.int ((p+l.length:Nat):Int))]
 |[],p,k=>rfl
 |a::l,p,k=>by
  rw[cons_append,aW,ww l (p+1) k,aW,cons_append,length_cons,show p+1+l.length=p+(l.length+1) by omega]
theorem Dg {k:Nat}{l:List Nat}(h:k∉l):putD (aW 0 l) (.int k) (.int l.length)=aW 0 (l++[k]):=by unfold putD;rw[zt,decide_eq_false h,if_neg (by decide),ww,zero_add]
def N0 (a:List Nat):Row->Row
 | .leaf b => .leaf b
 | .ask c n y => .ask c (a.idxOf n) (a.idxOf y)
def FR (a:List Nat)(G:List Row):List Row:=a.map λk=>N0 a ((G[k]?).getD (.leaf []))
def Wr (o:List Nat)(G:List Row):Prop:=∀ (i:Nat) (r:Row),G[i]?=some r->Jl o G i r
section
variable {B:Nat->Option MO}{L:Nat}{o:List Nat}{G:List Row}
theorem oA {a:List Nat}(h:Cl G a){p k:Nat}(c:a[p]?=some k):∃ r,G[k]?=some r/\(FR a G)[p]?=some (N0 a r):=by have b:=h.lt k (mem_of_getElem? c);refine⟨G[k],getElem?_eq_getElem b,?_⟩;unfold FR;rw[getElem?_map,c,map_some,getElem?_eq_getElem b];rfl
theorem eS {a:List Nat}{k:Nat}(h:k∈a):a[a.idxOf k]?=some k:=by have b:=idxOf_lt_length_iff.mpr h;rw[getElem?_eq_getElem b,getElem_idxOf b]
theorem Cd {a:List Nat}(h:Cl G a){k:Nat}(b:k∈a):G6.pl o (FR a G) (a.idxOf k)=G6.pl o G k:=by obtain⟨r,d,c⟩:=oA h (eS b);unfold G6.pl;rw[d,c];cases r<;>rfl
theorem vx {a:List Nat}{k p:Nat}(h:k∈a.take p):a.idxOf k<p:=by
 have b:(a.take p).idxOf k<(a.take p).length:=idxOf_lt_length_iff.mpr h;have c:(a.take p).length<=p:=List.length_take_le ..
 have e:a.idxOf k=(a.take p).idxOf k:=by
  conv=>lhs;rw[← take_append_drop p a]
  rw[idxOf_append,if_pos h]
 omega
theorem Av {a:List Nat}(w:Wf o G)(h:Cl G a):Wr o (FR a G):=by
 intro p r b;have f:p<a.length:=by have:=(List.getElem?_eq_some_iff.mp b).1;simpa [FR] using this
 obtain⟨r0,d,k⟩:=oA h (getElem?_eq_getElem f);rw[k] at b;cases b;have q:=w.row _ _ d;cases r0 with
 |leaf u=>exact q
 |ask c n y =>
  obtain⟨a1,a2,v,s,m,l⟩:=q;obtain⟨g,j⟩:=h.dn p _ c n y (getElem?_eq_getElem f) d;have m1:=mem_of_mem_take g;have m2:=mem_of_mem_take j;refine⟨a1,vx g,vx j,by rw[Cd h m1];exact s,by rw[Cd h m2];exact m,λe=>l ?_⟩;have i:=eS m1;have t:=eS m2;rw[e,t] at i;exact(Option.some.inj i).symm
theorem Aw {g:List Nat}(h:Cl G g){l:Th}{i:Nat}{ss:List Str}(e:Ev G l i ss):i∈g->Ev (FR g G) l (g.idxOf i) ss:=by
 induction e with
 | @leaf i ss b =>
  intro d;obtain⟨r,a,f⟩:=oA h (eS d);rw[b] at a;cases a;exact .leaf f
 | @no i c n y ss b j _ k =>
  intro d;obtain⟨r,a,f⟩:=oA h (eS d);rw[b] at a;cases a;obtain⟨m,o⟩:=h.dn _ _ c n y (eS d) b;exact .no f j (k (mem_of_mem_take m))
 | @yes i c n y ss b j _ k =>
  intro d;obtain⟨r,a,f⟩:=oA h (eS d);rw[b] at a;cases a;obtain⟨m,o⟩:=h.dn _ _ c n y (eS d) b;exact .yes f j (k (mem_of_mem_take o))
theorem xQ (w:Wf o G)(r:o.length<=8){S:GO}{g i:Nat}(b:S[g]?=some (.lst (G.map aq)))(f:i<G.length):∃ X,fL [.loc g,.int i] S=GW (.lst ((X++[i]).map λ(k:Nat)=>D.int k)) (S++[.dict (lf (X++[i]))])/\Cl G (X++[i])/\X.length<=1022/\(X++[i]).map (G6.uT G)=po (G6.uT G i) []:=by
 have m:g<S.length:=(List.getElem?_eq_some_iff.mp b).1;have d:(S++[MO.dict (lf [])])[g]?=some (.lst (G.map aq)):=by rw[getElem?_append_left m];exact b
 have j:(S++[MO.dict (lf [])])[S.length]?=some (.dict (lf [])):=by simp
 obtain⟨X,q,c,_,n,a⟩:=tw w g 10 i [] (S++[.dict (lf [])]) S.length (by omega) f (by simp) d j (by omega) ⟨nodup_nil,(λi h=>by cases h),(λp i c n y h=>by simp at h)⟩ (by decide);rw[nil_append] at q c a;have es:(S++[MO.dict (lf [])]).set S.length (.dict (lf (X++[i])))=S++[.dict (lf (X++[i]))]:=by simp
 rw[es] at q;have n:X.length<=1022:=by have:X.length+1<=1023:=n;omega
 have q:br 10 [.loc g,.int i,.loc S.length] (S++[.dict []])=GW .Hu (S++[.dict (lf (X++[i]))]):=q;have e:(lf (X++[i])).length<=sizeLine:=by unfold lf;rw[length_map,List.length_append];exact Nat.le_trans (show X.length+1<=2000 by omega) (by decide)
 have l:gC (.loc S.length) (S++[.dict (lf (X++[i]))])=some (.lst ((X++[i]).map λ(k:Nat)=>D.int k)):=by unfold gC;simp only[List.getElem?_concat_length];rw[if_pos e];unfold lf;rw[map_map];rfl
 refine⟨X,aE rfl ?_,c,n,a⟩;unfold iI;simp[q,l,-map_append]
theorem AE {S:GO}{l:Nat}{a:List Nat}(e:S[l]?=some (.dict (aW 0 a)))(r:Row)(hr:∀ c n y,r = .ask c n y->n∈a/\y∈a):fK [aq r,.loc l] S=GW (aq (N0 a r)) S:=by
 have b:=kh r S;refine aE rfl ?_;unfold iH;cases r with
 |leaf o=>simp[b,N0]
 |ask c n y =>
  obtain⟨d,g⟩:=hr c n y rfl;have m:Hq (aq (.ask c n y)) (.int 0) S=some (.int c):=Li _ _ S;have f:Hq (aq (.ask c n y)) (.int 1) S=some (.int n):=MT _ _ _ S;have i:Hq (aq (.ask c n y)) (.int 2) S=some (.int y):=at2 _ _ _ _ S;have gt:∀ k,k∈a->Hq (.loc l) (.int (k:Nat)) S=some (.int (a.idxOf k:Nat)):=λk h=>by have:=zr k a 0;rw[if_pos h,zero_add] at this;unfold Hq;rw[if_pos (show bw (.loc l)=true from rfl)];unfold wP;simp only[e,fQ];exact this
  have j:JA [.int c,.int (a.idxOf n:Nat),.int (a.idxOf y:Nat)] (.tup [.int c,.int (a.idxOf n:Nat),.int (a.idxOf y:Nat)])=some (aq (N0 a (.ask c n y))):=bY (by simp);simp[b,m,f,i,gt n d,gt y g,j];rfl
theorem fold_eq {S:GO}{C:List (Row×Nat)}(h:SR B S L o G C)(w:Wf o G)(ho:o.length<=8){i:Nat}(V:i<G.length):∃ f l,bN [.loc L,.int i] S=GW (.tup ((FR (f++[i]) G).map aq)) l/\Cl G (f++[i])/\f.length<=1022/\(f++[i]).map (G6.uT G)=po (G6.uT G i) []/\∃ x y,l=S++[.dict x,.dict y]:=by
 obtain⟨X,q,c,Q,M⟩:=xQ w ho h.NY V;generalize r:X++[i]=f at *
 have Yi:f.length<=1023:=by rw[← r,List.length_append];simp;omega
 generalize E:S++[MO.dict (lf f)]=S1 at *
 have m:SR (λi=>S1[i]?) S1 L o G C:=by
  have H_:L+3<S.length:=(List.getElem?_eq_some_iff.mp h.LB).1;refine⟨?_,?_,?_,?_,λ_ _=>rfl⟩<;>rw[← E,getElem?_append_left (by omega)]
  ·exact h.obj
  ·exact h.NY
  ·exact h.num
  exact h.LB
 have Xj:L+3<S1.length:=(List.getElem?_eq_some_iff.mp m.LB).1;have Z:∀ k:Nat,fQ (.int k)=some (.inl (k:Int)):=λk=>rfl
 obtain⟨J,l,W,F⟩:=cr (u:=oG 2 (bJ (aK 4) (bJ (aK 5) jK))) (body:=cX)
  (λp g l=>p<=f.length/\l=S1++[.dict (aW 0 (f.take p))]/\∃ a b,g=[some (.loc L),some (.int i),some (.lst (f.map λ(k:Nat)=>D.int k)),some (.loc S1.length),a,b])
  (cK 0 (f.map λ(k:Nat)=>D.int k)) 0 [some (.loc L),some (.int i),some (.lst (f.map λ(k:Nat)=>D.int k)),some (.loc S1.length),none,none] (S1++[.dict []]) ⟨by omega,rfl,none,none,rfl⟩ (by
   rintro p dd g l v ⟨HE,rfl,a,b,rfl⟩;rw[eX] at v;obtain⟨x,A,rfl⟩:=map_eq_some_iff.mp v;rw[getElem?_map] at A;obtain⟨k,j,rfl⟩:=map_eq_some_iff.mp A;have OA:p<f.length:=(List.getElem?_eq_some_iff.mp j).1;simp only[zero_add] at *
   have P:k∉f.take p:=by
    intro Y;have h1:=vx Y;have h2:f.idxOf k=p:=by have:=(List.getElem?_eq_some_iff.mp j).2;rw[← this];exact c.nd.idxOf_getElem p OA
    omega
   have lt:(f.take p).length=p:=by rw[length_take];omega
   have tk:f.take (p+1)=f.take p++[k]:=by rw[List.take_succ,j];rfl
   have O:(aW 0 (f.take p)).length<sizeLine:=by rw[zo,lt];exact lt_of_lt_of_le (show p<2000 by omega) (by decide)
   have U:(S1++[MO.dict (aW 0 (f.take p))])[S1.length]?=some (.dict (aW 0 (f.take p))):=by simp
   have t:=Dg P;rw[lt] at t;have ep:∀ g,sF (.loc S1.length) (.int k) (.int p) g (S1++[.dict (aW 0 (f.take p))])=GW (.next g) (S1++[.dict (aW 0 (f.take (p+1)))]):=λg=>by unfold sF;simp only[U,Z];rw[if_pos O,t,tk];simp
   refine⟨[some (.loc L),some (.int i),some (.lst (f.map λ(k:Nat)=>D.int k)),some (.loc S1.length),some (.int p),some (.int k)],rfl,[some (.loc L),some (.int i),some (.lst (f.map λ(k:Nat)=>D.int k)),some (.loc S1.length),some (.int p),some (.int k)],S1++[.dict (aW 0 (f.take (p+1)))],?_,by omega,rfl,some (.int p),some (.int k),rfl⟩;unfold cX
   simp[ep])
 simp only[zero_add,bI,length_map,List.take_length] at F;obtain⟨_,rfl,a,b,rfl⟩:=F
 have s:SR (λi=>(S1++[MO.dict (aW 0 f)])[i]?) (S1++[.dict (aW 0 f)]) L o G C:=by
  refine⟨?_,?_,?_,?_,λ_ _=>rfl⟩<;>rw[getElem?_append_left (by omega)]
  ·exact m.obj
  ·exact m.NY
  ·exact m.num
  exact m.LB
 have T:(S1++[MO.dict (aW 0 f)])[S1.length]?=some (.dict (aW 0 f)):=by simp
 have z:=kU (u:=aK 0) (fe:=bT) (λg => ∃ y,g=[y,some (.loc S1.length),some (.loc L)]) (λd=>match d with | .int k=>aq (N0 f ((G[k.toNat]?).getD (.leaf []))) |_ => .Hu) (S1++[.dict (aW 0 f)]) (f.map λ(k:Nat)=>D.int k)
  (cL 1 [3,0] [some (.loc L),some (.int i),some (.lst (f.map λ(k:Nat)=>D.int k)),some (.loc S1.length),a,b]) ⟨none,rfl⟩ (by
   rintro d hd g ⟨y,rfl⟩;obtain⟨k,j,rfl⟩:=mem_map.mp hd;refine⟨_,rfl,⟨_,rfl⟩,?_⟩;have QK:=c.lt k j;have e:G[k]?=some G[k]:=getElem?_eq_getElem QK;have N:=s.row e;have H:=AE T G[k] λc' n y hr=>by obtain⟨d1,d2⟩:=c.dn _ k c' n y (eS j) (by rw[e,hr]);exact⟨mem_of_mem_take d1,mem_of_mem_take d2⟩
   have R:(G[(k:Int).toNat]?).getD (.leaf [])=G[k]:=by rw[Int.toNat_natCast,e];rfl
   show bT [some (.int k),some (.loc S1.length),some (.loc L)] (S1++[.dict (aW 0 f)])=GW (aq (N0 f ((G[(k:Int).toNat]?).getD (.leaf [])))) (S1++[.dict (aW 0 f)]);rw[R];unfold bT
   simp[s.Le,N,H])
 have K:(f.map λ(k:Nat)=>D.int k).map (λd=>match d with | .int k=>aq (N0 f ((G[k.toNat]?).getD (.leaf []))) |_ => .Hu)=(FR f G).map aq:=by unfold FR;rw[map_map,map_map];refine map_congr_left λk _=>?_;simp
 rw[K] at z;refine⟨X,S1++[.dict (aW 0 f)],?_,by rw[r];exact c,Q,by rw[r];exact M,lf f,aW 0 f,by rw[← E];simp⟩;rw[r];refine aE rfl ?_;have I:rg [.lst (f.map λ(k:Nat)=>D.int k)]=some (cK 0 (f.map λ(k:Nat)=>D.int k)):=rfl;unfold gE;simp[h.Le,q,I,W,bR,z,kB,-map_map]
end
theorem jP (S r:GO)(fs:List (Str×D))(f:Str)(v:D)(ρ:GP)(h:fs.length<1000):mX "Rows" f (.loc S.length) v ρ (S++MO.ins "Rows" fs::r)=GW (.next ρ) (S++MO.ins "Rows" (lI f v fs)::r):=by
 have e:(S++MO.ins "Rows" fs::r)[S.length]?=some (.ins "Rows" fs):=by simp
 unfold mX;simp only[e];rw[if_pos ⟨trivial,h⟩];simp
theorem Xl:¬ ("order":Str)="gathered":=by decide
theorem Xm:¬ ("order":Str)="numbers":=by decide
theorem Xn:¬ ("gathered":Str)="numbers":=by decide
theorem Xo:¬ ("order":Str)="choices":=by decide
theorem Xp:¬ ("gathered":Str)="choices":=by decide
theorem Xq:¬ ("numbers":Str)="choices":=by decide
theorem sC (S:GO)(o:List Nat):bf [.loc S.length,oD o] (S++[.ins "Rows" []])=GW .Hu (S++[RO o S.length,.lst [],.GZ [],.GZ []]):=by
 have d:=λa=>jP S [] [] "order" (oD o) a (by decide);have e:=λa=>jP S [.lst []] [("order",oD o)] "gathered" (.loc (S.length+1)) a (by simp);have b:=λa=>jP S [.lst [],.GZ []] [("order",oD o),("gathered",.loc (S.length+1))] "numbers" (.loc (S.length+2)) a (by simp);have c:=λa=>jP S [.lst [],.GZ [],.GZ []] [("order",oD o),("gathered",.loc (S.length+1)),("numbers",.loc (S.length+2))] "choices" (.loc (S.length+3)) a (by simp);simp only[lI,Xl,Xm,Xn,Xo,Xp,Xq,if_false] at d e b c;unfold bf bj;rw[if_pos (show ([.loc S.length,oD o]:List D).length=2 from rfl)];have:eD ([.loc S.length,oD o].map some++replicate 0 none) (S++[.ins "Rows" []])=GW (.next [some (.loc S.length),some (oD o)]) (S++[RO o S.length,.lst [],.GZ [],.GZ []]):=by unfold eD;simp[d,e,b,c]
 rw[this];rfl
def oQ (m:Nat)(ts:List Int):Prop:=ts.length=m/\∀ x∈ts,x=0∨x=1
def tv (ts:List Int):Th:=λc=>decide (ts.getD c 0=1)
abbrev IM (ts:List Int):D:=.tup (ts.map .int)
theorem yF {m:Nat}{ts:List Int}(h:oQ m ts){c:Nat}(hc:c<m)(S:GO):Hq (IM ts) (.int c) S=some (.int (if tv ts c=true then 1 else 0)):=by
 have a:c<ts.length:=by rw[h.1];exact hc
 have e:ts[c]?=some ts[c]:=getElem?_eq_getElem a;unfold Hq;rw[if_neg (by simp[bw])];show Jp (ts.map D.int) (c:Int)=_;rw[bq (v:=.int ts[c]) (by rw[getElem?_map,e];rfl)];have b:tv ts c=decide (ts[c]=1):=by unfold tv;rw[List.getD,e];rfl
 rw[b];rcases h.2 ts[c] (getElem_mem a) with q |q<;>simp[q]
theorem wD {e:Th}{ss d:List Str}(h:Kv e (aq (.leaf ss)) d):d=ss:=by
 generalize c:aq (.leaf ss)=D0 at h;cases h with
 |leaf =>
  simp only[aq,D.tup.injEq,List.cons.injEq,and_true,true_and] at c;exact((List.map_inj_right (λa b h=>by cases h;rfl)).mp c).symm
 |no=>simp[aq] at c
 |yes=>simp[aq] at c
theorem KQ.total {m k:Nat}{d:D}(h:KQ m k d)(e:Th):∃ ss,Kv e d ss:=by
 induction h with
 |leaf _ _ _=>exact⟨_,.leaf⟩
 | @ask k c x y _ _ _ f g =>
  obtain⟨a,i⟩:=f;obtain⟨b,hb⟩:=g;cases ht:e c with
  |false=>exact⟨a,.no ht i⟩
  |true=>exact⟨b,.yes ht hb⟩
section
variable {m:Nat}{ts:List Int}
theorem uu (l:oQ m ts)(S:GO){k:Nat}{d:D}(h:KQ m k d):∀ {ss:List Str}{fuel:Nat},Kv (tv ts) d ss->k<fuel->fP fuel [d,IM ts] S=GW (.tup (ss.map .str)) S:=by
 induction h with
 | @leaf k i _ _ _ =>
  intro ss fuel a p;rw[wD a];obtain⟨fuel,rfl⟩:∃ f,fuel=f+1:=⟨fuel-1,by omega⟩;have q:Hq (aq (.leaf i)) (.int 0) S=some (.str "names"):=Li _ _ S;have n:Hq (aq (.leaf i)) (.int 1) S=some (.tup (i.map .str)):=MT _ _ _ S;have b:=eqs "names" "names";rw[decide_eq_true rfl] at b;refine aE rfl ?_;unfold jy;simp[q,n,b]
 | @ask k c x y hc _ _ j o =>
  intro ss fuel a p;obtain⟨fuel,rfl⟩:∃ f,fuel=f+1:=⟨fuel-1,by omega⟩;have b:=eqs "ask" "names";rw[decide_eq_false wX] at b;have e:=yF l hc S;refine aE rfl ?_;unfold jy;cases a with
  |no g a =>
   rw[g] at e;have r:=j (fuel:=fuel) a (by omega);simp[Li,MT,at2,b,e,r]
  |yes g a =>
   rw[g] at e;have r:=o (fuel:=fuel) a (by omega);simp[Li,MT,US,b,e,r]
variable {o:List Nat}{R:List Row}
theorem i_ (S:GO){i:Nat}{r:Row}(h:R[i]?=some r):Hq (.tup (R.map aq)) (.int i) S=some (aq r):=by unfold Hq;rw[if_neg (by simp[bw])];exact bq (by rw[getElem?_map,h];rfl)
theorem yc (S:GO){r:Row}(h:R[R.length-1]?=some r):Hq (.tup (R.map aq)) (.int (-1)) S=some (aq r):=by
 have a:R.length-1<R.length:=(List.getElem?_eq_some_iff.mp h).1;unfold Hq;rw[if_neg (by simp[bw])];show Jp (R.map aq) (-1)=_;have e:M5 (R.map aq).length (-1)=some (R.length-1):=by unfold M5;rw[length_map,if_neg (by decide),if_pos (by omega)];congr 1;omega
 unfold Jp;rw[e,bind_some,getElem?_map,h];rfl
end
theorem gW {α c:Type}[DecidableEq α][DecidableEq c](f : α->c)(x : α):∀ (l:List α),(∀ a∈l,f a=f x->a=x)->(l.map f).idxOf (f x)=l.idxOf x
 |[],_=>rfl
 |a::l,h=>by
  have j:=gW f x l λb hb=>h b (mem_cons_of_mem _ hb);rw[map_cons,idxOf_cons,idxOf_cons,j];by_cases e:a=x
  ·subst e;simp
  have g:¬ f a=f x:=λq=>e (h a (mem_cons_self ..) q);have d:(a==x)=false:=by simpa using e
  have i:(f a==f x)=false:=by simpa using g
  rw[d,i]
theorem vZ {o:List Nat}{G:List Row}(w:Wf o G){d:List Nat}(c:Cl G d):FR d G=enc (d.map (G6.uT G)):=by
 unfold FR enc;rw[map_map];refine map_congr_left λk h=>?_;have i:=c.lt k h;have e:G[k]?=some G[k]:=getElem?_eq_getElem i;have q:=w.row k _ e;simp only[Function.comp,e,getD_some];cases hr:G[k] with
 |leaf g =>
  have f:G6.uT G k = .leaf g:=(Un.leaf (by rw[e,hr])).uT;rw[f];rfl
 |ask a n y =>
  rw[hr] at q;obtain⟨_,l,j,_⟩:=q;have f:G6.uT G k = .node a (G6.uT G n) (G6.uT G y):=(Un.node (by rw[e,hr]) (w.uT (by omega)) (w.uT (by omega))).uT;rw[f];show Row.ask a (d.idxOf n) (d.idxOf y)=Row.ask a ((d.map (G6.uT G)).idxOf (G6.uT G n)) ((d.map (G6.uT G)).idxOf (G6.uT G y));rw[gW (G6.uT G) n d λb hb=>uI w (c.lt b hb) (by omega),gW (G6.uT G) y d λb hb=>uI w (c.lt b hb) (by omega)]
def vW:Tr->Prop
 | .leaf a=>(∀ x∈a,cZ x=true)/\MS a=true
 | .node _ n y=>vW n/\vW y
theorem Un.ord {o:List Nat}{G:List Row}(w:Wf o G){i:Nat}{t:Tr}(h:Un G i t):Ord o t/\vW t:=by
 induction h with
 |leaf h=>exact⟨trivial,w.row _ _ h⟩
 | @node i c n y s t h f b a d =>
  obtain⟨a1,a2,l,k,j,g⟩:=w.row _ _ h;refine⟨⟨a1,a.1,d.1,by rw[← f.pl];exact k,by rw[← b.pl];exact j,λe=>g ?_⟩,a.2,d.2⟩;subst e;exact Un.inj w.nd f b
def Tv:MO->Bool
 | .K5 _ _ _ _=>false
 |_=>true
theorem MV {S:GO}:dg S=true↔∀ (i:Nat) (x:MO),S[i]?=some x->Tv x=true:=by
 unfold dg;rw[all_eq_true];constructor
 ·intro h i x e;have:=h x (mem_of_getElem? e);cases x<;>first |rfl |exact this
 intro h x a;obtain⟨i,e⟩:=getElem?_of_mem a;have:=h i x e;cases x<;>first |rfl |exact this
theorem Eb {B:Nat->Option MO}{S:GO}{L:Nat}{o:List Nat}{G:List Row}{C:List (Row×Nat)}(h:SR B S L o G C)(c:∀ (i:Nat) (x:MO),B i=some x->Tv x=true):dg S=true:=MV.mpr λi x e=>by
 by_cases d:i=L
 ·rw[d,h.obj] at e;cases e;rfl
 by_cases a:i=L+1
 ·rw[a,h.NY] at e;cases e;rfl
 by_cases f:i=L+2
 ·rw[f,h.num] at e;cases e;rfl
 by_cases b:i=L+3
 ·rw[b,h.LB] at e;cases e;rfl
 exact c i x (by rw[← h.fr i (by omega)];exact e)
theorem vf {S E:GO}(h:dg S=true)(g:dg E=true):dg (S++E)=true:=by unfold dg at *;rw[List.all_append,h,g];rfl
theorem pW {o:List Nat}(nd:o.Nodup)(u:o.length<=8){m:Nat}(M:∀ c,c<m->c∈o){k:Nat}(N:k<=12){d:D}(hd:KQ m k d)(S:GO) :
  ∃ t n,fN [d,oD o] S=GW (.tup ((enc (po t [])).map aq)) n/\Ord o t/\vW t/\Wr o (enc (po t []))/\(∀ a,Ev (enc (po t [])) a ((enc (po t [])).length-1) (IV t a))/\(∀ a ss,Kv a d ss->IV t a=ss)/\(po t []).length<=1023/\n.take S.length=S/\(dg S=true->dg n=true):=by
 have C:=sC S o
 have z:SR (λi=>(S++[RO o S.length,.lst [],.GZ [],.GZ []])[i]?) (S++[RO o S.length,.lst [],.GZ [],.GZ []]) S.length o [] []:=by
  refine⟨by simp,?_,?_,?_,λ_ _=>rfl⟩
  ·rw[getElem?_append_right (by omega)];simp
  ·rw[getElem?_append_right (by omega)];simp;rfl
  rw[getElem?_append_right (by omega)];simp;rfl
 have H:dg S=true->∀ (i:Nat) (x:MO),(S++[RO o S.length,.lst [],.GZ [],.GZ []])[i]?=some x->Tv x=true:=λq=>MV.mp (vf q rfl);have pre:∀ i,i<S.length->(S++[RO o S.length,.lst [],.GZ [],.GZ []])[i]?=S[i]?:=λi g=>getElem?_append_left g;generalize (S++[RO o S.length,.lst [],.GZ [],.GZ []])=S0 at *
 have J:Wf o ([]:List Row):=⟨nodup_nil,λi r h=>by simp at h⟩;have P : 2 ^ (k+1)<=2 ^ 13:=Nat.pow_le_pow_right (by decide) (by omega);have Q : 2 ^ 13=8192:=rfl;obtain⟨l,E,O,r,I,f,b,_,j,_,_,w⟩:=Bk nd u M hd 15 (by omega) z J (λp K=>by cases K) (by simp;omega) (by simp;omega);rw[nil_append] at f b j w;obtain⟨X,T,A,c,R,y,x2,B,rfl⟩:=fold_eq f b u j
 have fr:(l++[MO.dict x2,MO.dict B]).take S.length=S:=by
  have U:S.length+3<l.length:=(List.getElem?_eq_some_iff.mp f.LB).1;apply ext_getElem?;intro i;rw[getElem?_take];split
  ·rename_i g;rw[getElem?_append_left (by omega),f.fr i (.inl g),pre i g]
  rw[getElem?_eq_none (by omega)]
 have s:=z.has "fold_from" (by decide);have un:=b.uT j;have eF:FR (X++[r]) E=enc (po (G6.uT E r) []):=by rw[vZ b c,y]
 have v:=Av b c;rw[eF] at A v;refine⟨G6.uT E r,l++[.dict x2,.dict B],aE rfl ?_,(un.ord b).1,(un.ord b).2,v,λa=>?_,λa ss L=>?_,?_,fr,λq=>vf (Eb f λi x e=>H q i x e) rfl⟩
 ·have G:lW "Rows" bf (ag (af 1) aD) [some d,some (oD o),none] S=GW (.loc S.length) S0:=by
   unfold lW;simp only[DB,ET,bA];have:af 1 [some d,some (oD o),none] S=GW (oD o) S:=rfl;rw[this];simp only[bA];rw[C];rfl
  unfold tU;simp[G,s,I,A,-map_map]
 ·have e:=Aw c (un.ev a) (by simp);have hr:r∉X:=by have:=(nodup_append.mp c.nd).2.2;intro s;exact this r s r (by simp) rfl
  have F:(X++[r]).idxOf r=(FR (X++[r]) E).length-1:=by rw[idxOf_append,if_neg hr];simp[FR]
  rw[F,eF] at e;exact e
 ·exact Ev.det (un.ev a) (w a ss L)
 rw[← y,length_map,List.length_append];simp;omega
inductive Sub:Tr->Tr->Prop
 |refl (t:Tr):Sub t t
 |no {s:Tr}{c:Nat}{n y:Tr}:Sub s n->Sub s (.node c n y)
 |yes {s:Tr}{c:Nat}{n y:Tr}:Sub s y->Sub s (.node c n y)
def MW (a:List Tr):Prop:=∀ c n y,Tr.node c n y∈a->n∈a/\y∈a
theorem MW.sub {a:List Tr}(h:MW a){s t:Tr}(q:Sub s t):t∈a->s∈a:=by
 induction q with
 |refl=>exact id
 |no _ b=>exact λm=>b (h _ _ _ m).1
 |yes _ b=>exact λm=>b (h _ _ _ m).2
theorem u6:∀ (t:Tr) (a:List Tr),∃ X,po t a=a++X
 | .leaf b,a=>by
  by_cases h:Tr.leaf b∈a
  ·exact⟨[],by rw[eB h,append_nil]⟩
  exact⟨[.leaf b],dR h⟩
 | .node c n y,a=>by
  by_cases h:Tr.node c n y∈a
  ·exact⟨[],by rw[eB h,append_nil]⟩
  obtain⟨X,d⟩:=u6 n a;obtain⟨Y,e⟩:=u6 y (po n a);exact⟨X++Y++[.node c n y],by rw[dQ h,e,d];simp⟩
theorem qO (t:Tr)(a:List Tr):t∈po t a:=by
 by_cases h:t∈a
 ·rw[eB h];exact h
 cases t with
 |leaf b=>rw[dR h];simp
 |node c n y=>rw[dQ h];simp
theorem Ei {t s:Tr}{a:List Tr}(h:s∈a):s∈po t a:=by obtain⟨X,e⟩:=u6 t a;rw[e];exact mem_append_left _ h
theorem iZ:∀ (t:Tr) (a:List Tr) (s:Tr),s∈po t a->s∈a∨Sub s t
 | .leaf d,a,s,h=>by
  by_cases b:Tr.leaf d∈a
  ·rw[eB b] at h;exact .inl h
  rw[dR b] at h;rcases mem_append.mp h with h |h
  ·exact .inl h
  rw[mem_singleton.mp h];exact .inr (.refl _)
 | .node c n y,a,s,h=>by
  by_cases b:Tr.node c n y∈a
  ·rw[eB b] at h;exact .inl h
  rw[dQ b] at h;rcases mem_append.mp h with h |h
  ·rcases iZ y _ s h with h |h
   ·rcases iZ n _ s h with h |h
    ·exact .inl h
    exact .inr (.no h)
   exact .inr (.yes h)
  rw[mem_singleton.mp h];exact .inr (.refl _)
theorem eW:∀ (t:Tr) {a:List Tr},MW a->MW (po t a)
 | .leaf i,a,h=>by
  by_cases b:Tr.leaf i∈a
  ·rw[eB b];exact h
  rw[dR b];intro c n y q;rcases mem_append.mp q with q |q
  ·exact⟨mem_append_left _ (h c n y q).1,mem_append_left _ (h c n y q).2⟩
  cases mem_singleton.mp q
 | .node c n y,a,h=>by
  by_cases b:Tr.node c n y∈a
  ·rw[eB b];exact h
  rw[dQ b];have g:=eW y (eW n h);intro e f d q;rcases mem_append.mp q with q |q
  ·exact⟨mem_append_left _ (g e f d q).1,mem_append_left _ (g e f d q).2⟩
  cases mem_singleton.mp q;exact⟨mem_append_left _ (Ei (qO n a)),mem_append_left _ (qO y _)⟩
theorem sf {s t:Tr}(h:Sub s t):Lf s<=Lf t:=by
 induction h with
 |refl=>exact le_refl _
 |no _ a=>simp only[Lf];omega
 |yes _ a=>simp only[Lf];omega
theorem iE:∀ (t:Tr) {d:List Tr},d.Nodup->(po t d).Nodup
 | .leaf g,d,h=>by
  by_cases e:Tr.leaf g∈d
  ·rw[eB e];exact h
  rw[dR e];refine nodup_append.mpr ⟨h,by simp,λa f b hb=>?_⟩;rw[mem_singleton.mp hb];rintro rfl;exact e f
 | .node c n y,d,h=>by
  by_cases e:Tr.node c n y∈d
  ·rw[eB e];exact h
  rw[dQ e];refine nodup_append.mpr ⟨iE y (iE n h),by simp,λa f b hb=>?_⟩;rw[mem_singleton.mp hb];rintro rfl;rcases iZ y _ _ f with q |q
  ·rcases iZ n _ _ q with q |q
   ·exact e q
   have:=sf q;simp only[Lf] at this;omega
  have:=sf q;simp only[Lf] at this;omega
theorem rn:MW []:=λc n y h=>by cases h
theorem i0:∀ (t:Tr) {d:List Tr},MW d->po t d=d++(po t []).filter λs=>decide (s∉d)
 | .leaf g,d,h=>by
  have i:po (.leaf g) []=[.leaf g]:=dR (by simp);rw[i];by_cases e:Tr.leaf g∈d
  ·rw[eB e];simp[e]
  rw[dR e];simp[e]
 | .node c n y,d,h=>by
  have i:po (.node c n y) []=po y (po n [])++[.node c n y]:=dQ (by simp);by_cases e:Tr.node c n y∈d
  ·rw[eB e]
   have:(po (.node c n y) []).filter (λs=>decide (s∉d))=[]:=by
    rw[List.filter_eq_nil_iff];intro s f;rcases iZ _ _ _ f with q |q
    ·cases q
    simp[h.sub q e]
   rw[this,append_nil]
  rw[dQ e,i,i0 y (eW n h),i0 y (eW n rn),i0 n h,List.filter_append,List.filter_append,List.filter_filter];have j:([Tr.node c n y].filter λs=>decide (s∉d))=[.node c n y]:=by simp[e]
  rw[j,List.append_assoc,List.append_assoc,List.append_assoc];congr 2;congr 1;apply List.filter_congr;intro s _;rw[Bool.eq_iff_iff];simp only[decide_eq_true_eq,and_eq_true,mem_append,mem_filter];constructor
  ·intro q;refine⟨λa=>q (.inl a),λa=>?_⟩;by_cases f:s∈d
   ·exact q (.inl f)
   exact q (.inr ⟨a,f⟩)
  rintro⟨a,b⟩ (q |⟨q,_⟩)
  ·exact a q
  exact b q
theorem Bu {α:Type}[DecidableEq α]:∀ (l:List α),l.Nodup->l.map (λx=>l.idxOf x)=List.range l.length:=by
 intro l nd;apply ext_getElem?;intro i;by_cases a:i<l.length
 ·rw[getElem?_map,getElem?_eq_getElem a,map_some,nd.idxOf_getElem i a,List.getElem?_range a]
 rw[getElem?_eq_none (by simpa using a),getElem?_eq_none (by simpa using a)]
theorem pI {ar:GH (List D)}{ρ:GP}{S:GO}{o:List Nat}(h:ar ρ S=GW [oD o] S):lW "Rows" bf ar ρ S=GW (.loc S.length) (S++[RO o S.length,.lst [],.GZ [],.GZ []]):=by unfold lW;rw[h,bA];simp only[sC];rfl
abbrev Hl (ss:List Str):D:=.tup (ss.map .str)
def Rq (ss:List Str):Prop:=(∀ x∈ss,cZ x=true)/\MS ss=true
theorem tN (x:Str):∀ l:List Str,((l.map PyData.str).any λq=>PyData.eqv q (.str x))=decide (x∈l)
 |[]=>by simp
 |a::l=>by
  rw[map_cons,any_cons,tN x l];by_cases h:a=x
  ·simp[PyData.eqv,h]
  have b:¬ x=a:=λe=>h e.symm;simp[PyData.eqv,h,b]
theorem tL (neg:Bool)(x:Str)(l:List Str)(S:GO):KY neg (.str x) (.tup (l.map .str)) S=some (.bl (neg != decide (x∈l))):=by
 have e:nR (.str x) (.tup (l.map .str))=some (decide (x∈l)):=by unfold nR;simp only[toPy,xj,bind_some,dH];rw[if_pos (by simp[PyData.depth]),tN]
 unfold KY;rw[if_neg (by simp[bw])];cases neg<;>simp[inD,kL,e]
theorem EJ {neg:Bool}{gt:GH Bool}{fe:GH D}(g:gt=aT (KR neg (af 0) (af 1)))(f:fe=af 0)(a b:List Str)(S:GO)(y:Option D):cz (aK 0) gt fe (a.map .str) [y,some (.tup (b.map .str))] S=some ((a.filter λx=>neg != decide (x∈b)).map .str,S):=by
 subst g f
 have q:=fG (u:=aK 0) (gt:=aT (KR neg (af 0) (af 1))) (fe:=af 0) (λc => ∃ y,c=[y,some (.tup (b.map .str))]) (λd=>match d with | .str x=>neg != decide (x∈b) |_=>false) id S (a.map .str) [y,some (.tup (b.map .str))] ⟨y,rfl⟩ (by
  rintro d hd c ⟨z,rfl⟩;obtain⟨x,h,rfl⟩:=mem_map.mp hd;have e:=tL neg x b S;refine⟨[some (.str x),some (.tup (b.map .str))],rfl,⟨_,rfl⟩,?_,λ_=>rfl⟩;generalize D.tup (b.map .str)=bb at *
  show aT (KR neg (af 0) (af 1)) [some (.str x),some bb] S=GW (neg != decide (x∈b)) S
  simp[e,KO])
 rw[q,map_id,filter_map];rfl
def fI (a b:List Str):List Str:=a.filter λx=>false != decide (x∈b)
theorem r6 (a:List D):kB [.lst a]=some (.tup a):=rfl
theorem Bh {a b:List Str}(h:Rq a)(s:b.Sublist a):Rq b:=⟨λx c=>h.1 x (s.subset c),gR ((eV h.2).sublist s)⟩
theorem sI (a:List Str):bR (.tup (a.map .str))=some (a.map .str):=rfl
theorem yn (a b:List Str)(S:GO):dE [Hl a,Hl b] S=GW (Hl (fI a b)) S:=by
 have q:=EJ (neg:=false) (gt:=eL) (fe:=eN) rfl rfl a b S none;have c:cL 1 [1] [some (D.tup (a.map .str)),some (.tup (b.map .str))]=[none,some (.tup (b.map .str))]:=rfl;have s:=sI a;refine aE rfl ?_;show dj [some (D.tup (a.map .str)),some (.tup (b.map .str))] S=GW (Fl.ret (.tup ((fI a b).map .str))) S;unfold fI;generalize (a.filter λx=>false != decide (x∈b)).map D.str=r at *
 generalize D.tup (b.map .str)=bb at *
 generalize a.map D.str=al at *
 unfold dj;simp[s,c,q,r6]
theorem qy:∀ l:List Str,Nb (l.map .str)=true
 |[]=>rfl
 |a::l=>by rw[map_cons,Nb,qy l];rfl
theorem yI (l:List Str):tO (Hl l)=true:=by rw[tO];exact qy l
theorem v_:∀ R:List Row,Nb (R.map aq)=true
 |[]=>rfl
 |r::R=>by
  rw[map_cons,Nb,v_ R];cases r with
  |leaf a=>simp[aq,tO,Nb,qy]
  |ask c n y=>simp[aq,tO,Nb]
abbrev jW:Str:="only.<locals>.<lambda>"
abbrev Ad (W:List Str):MO:=.K5 (jX fy) jW "names" (Hl W)
theorem DD {W ss:List Str}{S:GO}{l:Nat}(b:S[l]?=some (Ad W)){ρ:GP}(f : ρ[2]?=some (some (.loc l)))(e : ρ[5]?=some (some (aq (.leaf ss)))) :
  um (jX fy) jW "names" d4 (af 2) (Hv (af 5) (aC (.int 1))) ρ S=GW (Hl (fI ss W)) S:=by
 have c:Hq (aq (.leaf ss)) (.int 1) S=some (Hl ss):=MT _ _ _ S;have d:af 2 ρ S=GW (.loc l) S:=by unfold af;rw[f]
 have a:af 5 ρ S=GW (aq (.leaf ss)) S:=by unfold af;rw[e]
 have q:=yn ss W []
 have g:d4 [some (Hl ss),some (Hl W)] []=GW (Hl (fI ss W)) []:=by
  generalize Hl ss=x1 at *
  generalize Hl W=x2 at *
  unfold d4;simp -implicitDefEqProofs [q]
 have v:vH (jX fy) jW "names" d4 l (Hl ss) S=GW (Hl (fI ss W)) S:=by unfold vH;rw[b];simp only;rw[if_pos ⟨trivial,trivial,trivial,yI W,yI ss⟩,g];simp only[GW,yI,if_true]
 unfold um;rw[d,bA];simp only[FY,a,EV,bA,c,bH,v]
abbrev Jw (ns:List Nat):List D:=ns.map λ(k:Nat)=>D.int k
theorem wv {S:GO}{Q:Nat}{ns:List Nat}(a:S[Q]?=some (.lst (Jw ns))){i v:Nat}(h:ns[i]?=some v):oJ (.loc Q) (.int i) S=some (.int v):=by
 show ((cE (.loc Q) S).bind λb=>Jp b (i:Int))=_;have:cE (.loc Q) S=some (Jw ns):=by unfold cE;simp only[a]
 rw[this,bind_some];exact bq (by rw[getElem?_map,h];rfl)
theorem wu {S:GO}{Q:Nat}{ns:List Nat}(a:S[Q]?=some (.lst (Jw ns))){v:Nat}(h:ns[ns.length-1]?=some v):oJ (.loc Q) (.int (-1)) S=some (.int v):=by
 have c:ns.length-1<ns.length:=(List.getElem?_eq_some_iff.mp h).1;show ((cE (.loc Q) S).bind λb=>Jp b (-1:Int))=_;have:cE (.loc Q) S=some (Jw ns):=by unfold cE;simp only[a]
 rw[this,bind_some];have e:M5 (Jw ns).length (-1)=some (ns.length-1):=by unfold M5;rw[length_map,if_neg (by decide),if_pos (by omega)];congr 1;omega
 unfold Jp;rw[e,bind_some,getElem?_map,h];rfl
theorem zn (ns:List Nat)(v:Nat):Jw (ns++[v])=Jw ns++[.int v]:=by unfold Jw;rw[map_append];rfl
def MX (o:List Nat)(R G:List Row)(c:List Str->List Str)(i v:Nat):Prop:=v<G.length/\G6.pl o R i<=G6.pl o G v/\∀ b a,Ev R b i a->Ev G b v (c a)
theorem MX.app {o:List Nat}{R G:List Row}{a:List Str->List Str}{i v:Nat}(E:List Row)(h:MX o R G a i v):MX o R (G++E) a i v:=
 ⟨by rw[List.length_append];have:=h.1;omega,by rw[cn h.1];exact h.2.1,λb c e=>(h.2.2 b c e).mono E⟩
theorem mK {S:GO}{o:List Nat}{P:Nat}(a:S.length=P):SR (λi=>if i=P+4 then some (.lst (Jw [])) else (S++[RO o P,.lst [],.GZ [],.GZ []]++[.lst []])[i]?) (S++[RO o P,.lst [],.GZ [],.GZ []]++[.lst []]) P o [] []:=by
 refine⟨?_,?_,?_,?_,λi _=>?_⟩
 ·rw[List.append_assoc,getElem?_append_right (by omega)];simp[a]
 ·rw[List.append_assoc,getElem?_append_right (by omega),show P+1-S.length=1 by omega];rfl
 ·rw[List.append_assoc,getElem?_append_right (by omega),show P+2-S.length=2 by omega];rfl
 ·rw[List.append_assoc,getElem?_append_right (by omega),show P+3-S.length=3 by omega];rfl
 by_cases e:i=P+4
 ·subst e;rw[if_pos rfl,List.append_assoc,getElem?_append_right (by omega),show P+4-S.length=4 by omega];rfl
 rw[if_neg e]
theorem oX {B:Nat->Option MO}{b:GO}{P:Nat}{o:List Nat}{G:List Row}{C:List (Row×Nat)}{ns:List Nat}{v:Nat}(a:SR (λi=>if i=P+4 then some (.lst (Jw ns)) else B i) b P o G C) :
  SR (λi=>if i=P+4 then some (.lst (Jw (ns++[v]))) else B i) (b.set (P+4) (.lst (Jw (ns++[v])))) P o G C:=by
 have d:b[P+4]?=some (.lst (Jw ns)):=by rw[a.fr (P+4) (.inr (by omega)),if_pos rfl]
 refine⟨?_,?_,?_,?_,λi c=>?_⟩
 ·rw[bM (by omega)];exact a.obj
 ·rw[bM (by omega)];exact a.NY
 ·rw[bM (by omega)];exact a.num
 ·rw[bM (by omega)];exact a.LB
 by_cases e:i=P+4
 ·subst e;rw[if_pos rfl];exact eP d
 rw[if_neg e,bM (λq=>e q.symm),a.fr i c,if_neg e]
theorem rX {a:GO}{Q:Nat}{ns:List Nat}{v:Nat}(b:a[Q]?=some (.lst (Jw ns)))(hz:ns.length<16000000):ou (.loc Q) (.int v) a=GW .Hu (a.set Q (.lst (Jw (ns++[v])))):=by unfold ou;simp only[b];rw[if_pos (by rw[length_map];exact lt_of_lt_of_le hz (by decide)),zn]
theorem oY {P:Nat->Nat->Prop}{ns:List Nat}{v:Nat}(b:∀ j u,ns[j]?=some u->P j u)(c:P ns.length v):∀ j u,(ns++[v])[j]?=some u->P j u:=λi u a=>by
 rcases Nat.lt_trichotomy i ns.length with hi |hi |hi
 ·rw[getElem?_append_left hi] at a;exact b i u a
 ·subst hi;rw[getElem?_append_right (le_refl _),Nat.sub_self] at a;cases a;exact c
 rw[getElem?_eq_none (by rw[List.length_append];simp;omega)] at a;cases a
theorem u4 {o:List Nat}(hl:o.length<=8){R:List Row}(w1:Wr o R)(h1 : 0<R.length)(hR:R.length<15000000){W:List Str}{S:GO}{l:Nat}(hc:S[l]?=some (Ad W)) :
  ∃ t f,e_ [.tup (R.map aq),oD o,.loc l] S=GW (.tup ((enc (po t [])).map aq)) f/\Ord o t/\vW t/\Wr o (enc (po t []))/\(∀ g,Ev (enc (po t [])) g ((enc (po t [])).length-1) (IV t g))/\(∀ g a,Ev R g (R.length-1) a->IV t g=fI a W)/\(po t []).length<=1023/\f.take S.length=S:=by
 have Xs:l<S.length:=(List.getElem?_eq_some_iff.mp hc).1;have mr:=pI (ar:=ag (af 1) aD) (ρ:=[some (.tup (R.map aq)),some (oD o),some (.loc l),none,none,none]) (S:=S) (o:=o) rfl;generalize Y:S.length=P at *
 have Po:=mK (o:=o) Y;have Tw:(S++[RO o P,.lst [],.GZ [],.GZ []]).length=P+4:=by simp[Y]
 have Xt:(S++[RO o P,.lst [],.GZ [],.GZ []]++[.lst []])[l]?=some (Ad W):=by rw[List.append_assoc,getElem?_append_left (by omega)];exact hc
 have pre:∀ i,i<P->(S++[RO o P,.lst [],.GZ [],.GZ []]++[.lst []])[i]?=S[i]?:=λi H=>by rw[List.append_assoc,getElem?_append_left (by omega)]
 generalize LK:(S++[RO o P,.lst [],.GZ [],.GZ []]++[.lst []])=S1 at *
 have I:oo [some (.tup (R.map aq)),some (oD o),some (.loc l),some (.loc P),none,none] (S++[RO o P,.lst [],.GZ [],.GZ []])=GW (.loc (P+4)) S1:=by rw[rh,Tw,LK]
 generalize (S++[RO o P,.lst [],.GZ [],.GZ []])=S0 at *
 have w0:Wf o ([]:List Row):=⟨nodup_nil,λi r h=>by simp at h⟩
 obtain⟨ρ',M,el,hI⟩:=cr (u:=aK 5) (body:=d5)
  (λi ρ f => ∃ (G:List Row) (ns:List Nat) (b:Option D),ρ=[some (.tup (R.map aq)),some (oD o),some (.loc l),some (.loc P),some (.loc (P+4)),b]/\SR (λi=>if i=P+4 then some (.lst (Jw ns)) else S1[i]?) f P o G []/\Wf o G/\ns.length=i/\G.length<=i/\∀ j v,ns[j]?=some v->MX o R G (λa=>fI a W) j v)
  (R.map aq) 0 [some (.tup (R.map aq)),some (oD o),some (.loc l),some (.loc P),some (.loc (P+4)),none] S1
  ⟨[],[],none,rfl,Po,w0,rfl,le_refl _,λj v h=>by simp at h⟩ (by
   rintro j d ρ f hd ⟨G,ns,b,rfl,m,w,z,hG,x⟩;rw[getElem?_map] at hd;obtain⟨r,hr,rfl⟩:=map_eq_some_iff.mp hd;rw[zero_add] at z hG;have hj:j<R.length:=(List.getElem?_eq_some_iff.mp hr).1;have K:f[P+4]?=some (.lst (Jw ns)):=by rw[m.fr (P+4) (.inr (by omega)),if_pos rfl]
   have Pe:cE (.loc (P+4)) f=some (Jw ns):=by unfold cE;simp only[K]
   have M7:f[l]?=some (Ad W):=by rw[m.fr l (.inl Xs),if_neg (by omega)];exact Xt
   have A:=kh r f
   have step:∃ p E v,d5 [some (.tup (R.map aq)),some (oD o),some (.loc l),some (.loc P),some (.loc (P+4)),some (aq r)] f=ah (ou (.loc (P+4)) (.int (v:Nat)) p) (λ_ S4=>GW (.next [some (.tup (R.map aq)),some (oD o),some (.loc l),some (.loc P),some (.loc (P+4)),some (aq r)]) S4) /\
     SR (λi=>if i=P+4 then some (.lst (Jw ns)) else S1[i]?) p P o (G++E) []/\Wf o (G++E)/\MX o R (G++E) (λa=>fI a W) ns.length v/\E.length<=1:=by
    have ri:=w1 _ _ hr;rw[← z] at hr;cases r with
    |leaf ss =>
     have V:Jl o G G.length (.leaf (fI ss W)):=Bh (a:=ss) ri List.filter_sublist;obtain⟨p,E,v,q,B,C,O,F⟩:=i5 m w V (by omega);have Q:=m.has "number_of" (by decide);have cv:=DD (W:=W) (ss:=ss) M7 (ρ:=[some (.tup (R.map aq)),some (oD o),some (.loc l),some (.loc P),some (.loc (P+4)),some (aq (.leaf ss))]) rfl rfl;have q9:aX [.loc P,.tup [.str "names",Hl (fI ss W)]] f=GW (.int (v:Nat)) p:=q;refine⟨p,E,v,?_,B,C,⟨(List.getElem?_eq_some_iff.mp O).1,?_,λg s2 e=>?_⟩,F⟩
     ·clear x ri V;have A:fO [aq (.leaf ss)] f=GW (.bl false) f:=A;clear q;generalize Hl (fI ss W)=x6 at *
      generalize D.tup (R.map aq)=x1 at *
      generalize oD o=x3 at *
      generalize aq (.leaf ss)=x4 at *
      unfold d5;simp -implicitDefEqProofs [A,Pe,cv,Q,q9]
     ·have:G6.pl o (G++E) v=o.length:=by unfold G6.pl;rw[O]
      rw[this];exact B5 o R _
     rw[Ev.det e (.leaf hr)];exact .leaf O
    |ask c n y =>
     obtain⟨a1,a2,a3,a4,a5,_⟩:=ri;have HE:G6.pl o R ns.length=o.idxOf c:=by unfold G6.pl;rw[hr]
     have I:ns[n]?=some (ns[n]'(by omega)):=getElem?_eq_getElem (by omega);have ey:ns[y]?=some (ns[y]'(by omega)):=getElem?_eq_getElem (by omega);obtain⟨n1,n2,n3⟩:=x _ _ I;obtain⟨y1,y2,y3⟩:=x _ _ ey;have ln:=wv K I;have ly:=wv K ey;generalize ns[n]'(by omega)=a at *
     generalize ns[y]'(by omega)=b at *
     have e0:Hq (aq (.ask c n y)) (.int 0) f=some (.int c):=Li _ _ f;have e1:Hq (aq (.ask c n y)) (.int 1) f=some (.int n):=MT _ _ _ f;have e2:Hq (aq (.ask c n y)) (.int 2) f=some (.int y):=at2 _ _ _ _ f;obtain⟨p,E,v,q,B,C,H,pv,F,J⟩:=vT m w a1 n1 y1 (by omega) (by omega) (by omega);have Q:=m.has "number_of_ask" (by decide);refine⟨p,E,v,?_,B,C,⟨H,by omega,λg s2 e=>J g _ ?_⟩,F⟩
     ·clear x;have A:fO [aq (.ask c n y)] f=GW (.bl true) f:=A;generalize D.tup (R.map aq)=x1 at *
      generalize oD o=x3 at *
      generalize aq (.ask c n y)=x4 at *
      unfold d5;simp -implicitDefEqProofs [A,Pe,e0,e1,e2,ln,ly,Q,q]
     unfold sel;cases e with
     |leaf s=>rw[hr] at s;cases s
     |no s t k=>rw[hr] at s;cases s;rw[t];exact(n3 _ _ k).mono E
     |yes s t k=>rw[hr] at s;cases s;rw[t];exact(y3 _ _ k).mono E
   obtain⟨p,E,v,q,B,C,ok,F⟩:=step;have N:p[P+4]?=some (.lst (Jw ns)):=by rw[B.fr (P+4) (.inr (by omega)),if_pos rfl]
   rw[rX N (by omega),bA] at q
   exact⟨_,rfl,_,_,q,G++E,ns++[v],some (aq r),rfl,oX B,C,by rw[List.length_append,z];simp,by rw[List.length_append];omega,oY (λi u hu=>(x i u hu).app E) ok⟩)
 obtain⟨G,ns,b,rfl,m,w,z,hG,x⟩:=hI;rw[zero_add,length_map] at z;have H_:ns.length-1<ns.length:=by omega
 have ev:ns[ns.length-1]?=some ns[ns.length-1]:=getElem?_eq_getElem H_;obtain⟨T,_,J⟩:=x _ _ ev;have N:M[P+4]?=some (.lst (Jw ns)):=by rw[m.fr (P+4) (.inr (by omega)),if_pos rfl]
 have la:=wu N ev;generalize ns[ns.length-1]=r at *
 obtain⟨X,p,U,c,lX,L,x2,y2,rfl⟩:=fold_eq m w hl T;have un:=w.uT T;have eF:FR (X++[r]) G=enc (po (G6.uT G r) []):=by rw[vZ w c,L]
 have Z:=Av w c;rw[eF] at U Z;refine⟨G6.uT G r,M++[.dict x2,.dict y2],aE rfl ?_,(un.ord w).1,(un.ord w).2,Z,λg=>?_,λg a ha=>?_,?_,?_⟩
 ·have ME:=m.has "fold_from" (by decide);have sq:bR (.tup (R.map aq))=some (R.map aq):=rfl;have ng:sP (.int 1)=some (.int (-1)):=rfl;clear J x L;generalize D.tup ((enc (po (G6.uT G r) [])).map aq)=rt at *
  generalize R.map aq=x1 at *
  generalize oD o=od at *
  unfold pR;simp -implicitDefEqProofs [mr,I,sq,el,ME,ng,la,U,-rh]
 ·have e:=Aw c (un.ev g) (by simp);have hr:r∉X:=by have:=(nodup_append.mp c.nd).2.2;intro hm;exact this r hm r (by simp) rfl
  have ix:(X++[r]).idxOf r=(FR (X++[r]) G).length-1:=by rw[idxOf_append,if_neg hr];simp[FR]
  rw[ix,eF] at e;exact e
 ·rw[← z] at ha;exact Ev.det (un.ev g) (J g a ha)
 ·rw[← L,length_map,List.length_append];simp;omega
 have l1:P+3<M.length:=(List.getElem?_eq_some_iff.mp m.LB).1;apply ext_getElem?;intro i;rw[getElem?_take];split
 ·rename_i H;rw[getElem?_append_left (by omega),m.fr i (.inl (by omega)),if_neg (by omega),pre i H]
 rw[getElem?_eq_none (by omega)]
theorem wp {o:List Nat}(g:o.length<=8){R:List Row}(h:Wr o R)(e : 0<R.length)(k:R.length<15000000)(W:List Str){S:GO}(z:di "only" jW S=true)(u:dg S=true) :
  ∃ t,iQ [.tup (R.map aq),Hl W,oD o] S=GW (.tup ((enc (po t [])).map aq)) S/\Ord o t/\vW t/\Wr o (enc (po t []))/\(∀ c,Ev (enc (po t [])) c ((enc (po t [])).length-1) (IV t c))/\(∀ c a,Ev R c (R.length-1) a->IV t c=fI a W)/\(po t []).length<=1023:=by
 obtain⟨t,r,q,i,s,f,B,E,j,F⟩:=u4 g h e k (W:=W) (S:=S++[Ad W]) (l:=S.length) (by simp);refine⟨t,aE rfl ?_,i,s,f,B,E,j⟩;have tk:r.take S.length=S:=by have:=congrArg (List.take S.length) F;rw[List.take_take,List.length_append] at this;simpa using this
 have ty:tO (.tup ((enc (po t [])).map aq))=true:=by rw[tO];exact v_ _
 have v:hU "only" jW (jX fy) "names" e_ (some (some (Hl W))) (.tup (R.map aq)) (oD o) S=GW (.tup ((enc (po t [])).map aq)) S:=by unfold hU;simp only[q,GW];exact if_pos ⟨z,u,ty,tk⟩
 have n:∀ (a b:GH D) (d:GP) S,mw "only" jW (jX fy) "names" 1 e_ a b d S=ah (a d S) λx m=>ah (b d m) λy C=>hU "only" jW (jX fy) "names" e_ (d[1]?) x y C:=λ_ _ _ _=>rfl;show vC [some (.tup (R.map aq)),some (Hl W),some (oD o)] S=_;have w:([some (.tup (R.map aq)),some (Hl W),some (oD o)]:GP)[1]?=some (some (Hl W)):=rfl;unfold vC;simp only[EQ,n,w];have p:af 0 [some (.tup (R.map aq)),some (Hl W),some (oD o)] S=GW (.tup (R.map aq)) S:=rfl;have A:af 2 [some (.tup (R.map aq)),some (Hl W),some (oD o)] S=GW (oD o) S:=rfl;rw[p,bA,A,bA,v];rfl
def MY (R G:List Row)(i v:Nat):Prop:=v<G.length/\∀ b a,Ev R b i a->Ev G b v a
theorem MY.app {R G:List Row}{i v:Nat}(E:List Row)(h:MY R G i v):MY R (G++E) i v:=
 ⟨by rw[List.length_append];have:=h.1;omega,λb a e=>(h.2 b a e).mono E⟩
theorem o6 {o o1:List Nat}(nd:o.Nodup)(hl:o.length<=8){R:List Row}(w1:Wr o1 R)(sub:∀ c∈o1,c∈o)(h1 : 0<R.length)(hR:R.length<=1023)(S:GO) :
  ∃ t f,d8 [.tup (R.map aq),oD o] S=GW (.tup ((enc (po t [])).map aq)) f/\Ord o t/\vW t/\Wr o (enc (po t []))/\(∀ g,Ev (enc (po t [])) g ((enc (po t [])).length-1) (IV t g))/\(∀ g a,Ev R g (R.length-1) a->IV t g=a)/\(po t []).length<=1023:=by
 have mr:=pI (ar:=ag (af 1) aD) (ρ:=[some (.tup (R.map aq)),some (oD o),none,none,none]) (S:=S) (o:=o) rfl;generalize hP:S.length=P at *
 have Po:=mK (o:=o) hP;have Tw:(S++[RO o P,.lst [],.GZ [],.GZ []]).length=P+4:=by simp[hP]
 generalize LK:(S++[RO o P,.lst [],.GZ [],.GZ []]++[.lst []])=S1 at *
 have I:oo [some (.tup (R.map aq)),some (oD o),some (.loc P),none,none] (S++[RO o P,.lst [],.GZ [],.GZ []])=GW (.loc (P+4)) S1:=by rw[rh,Tw,LK]
 generalize (S++[RO o P,.lst [],.GZ [],.GZ []])=S0 at *
 have w0:Wf o ([]:List Row):=⟨nodup_nil,λi r h=>by simp at h⟩
 obtain⟨ρ',S2,el,hI⟩:=cr (u:=aK 4) (body:=fH)
  (λi ρ f => ∃ (G:List Row) (C:List (Row×Nat)) (ns:List Nat) (b:Option D),ρ=[some (.tup (R.map aq)),some (oD o),some (.loc P),some (.loc (P+4)),b]/\SR (λi=>if i=P+4 then some (.lst (Jw ns)) else S1[i]?) f P o G C/\Wf o G/\(∀ p∈C,IU o G p.1 p.2)/\ns.length=i/\G.length<=512*i/\C.length<=512*i/\∀ j v,ns[j]?=some v->MY R G j v)
  (R.map aq) 0 [some (.tup (R.map aq)),some (oD o),some (.loc P),some (.loc (P+4)),none] S1
  ⟨[],[],[],none,rfl,Po,w0,(λp Q=>by cases Q),rfl,le_refl _,le_refl _,(λj v h=>by simp at h)⟩ (by
   rintro j d ρ f hd ⟨G,C,ns,b,rfl,m,w,M,A,hG,W,x⟩;rw[getElem?_map] at hd;obtain⟨r,hr,rfl⟩:=map_eq_some_iff.mp hd;rw[zero_add] at A hG W;have hj:j<R.length:=(List.getElem?_eq_some_iff.mp hr).1;have K:f[P+4]?=some (.lst (Jw ns)):=by rw[m.fr (P+4) (.inr (by omega)),if_pos rfl]
   have Pe:cE (.loc (P+4)) f=some (Jw ns):=by unfold cE;simp only[K]
   have B:=kh r f
   have step:∃ l E z v,fH [some (.tup (R.map aq)),some (oD o),some (.loc P),some (.loc (P+4)),some (aq r)] f=ah (ou (.loc (P+4)) (.int (v:Nat)) l) (λ_ S4=>GW (.next [some (.tup (R.map aq)),some (oD o),some (.loc P),some (.loc (P+4)),some (aq r)]) S4) /\
     SR (λi=>if i=P+4 then some (.lst (Jw ns)) else S1[i]?) l P o (G++E) z/\Wf o (G++E)/\(∀ p∈z,IU o (G++E) p.1 p.2)/\MY R (G++E) ns.length v/\E.length<=511/\z.length<=C.length+511:=by
    have ri:=w1 _ _ hr;rw[← A] at hr;cases r with
    |leaf L =>
     obtain⟨l,E,v,q,F,H,hv,lE⟩:=i5 m w (r:=.leaf L) ri (by omega);have U:=m.has "number_of" (by decide);refine⟨l,E,C,v,?_,F,H,λp Q=>(M p Q).app w,⟨(List.getElem?_eq_some_iff.mp hv).1,λg s2 e=>?_⟩,by omega,by omega⟩
     ·clear x ri;have B:fO [aq (.leaf L)] f=GW (.bl false) f:=B;generalize D.tup (R.map aq)=x1 at *
      generalize oD o=x3 at *
      generalize aq (.leaf L)=x4 at *
      unfold fH;simp -implicitDefEqProofs [B,Pe,U,q]
     rw[Ev.det e (.leaf hr)];exact .leaf hv
    |ask c n y =>
     obtain⟨a1,a2,a3,a4,a5,_⟩:=ri;have I:ns[n]?=some (ns[n]'(by omega)):=getElem?_eq_getElem (by omega);have ey:ns[y]?=some (ns[y]'(by omega)):=getElem?_eq_getElem (by omega);obtain⟨n1,n3⟩:=x _ _ I;obtain⟨y1,y3⟩:=x _ _ ey;have ln:=wv K I;have ly:=wv K ey;generalize ns[n]'(by omega)=a at *
     generalize ns[y]'(by omega)=b at *
     have e0:Hq (aq (.ask c n y)) (.int 0) f=some (.int c):=Li _ _ f;have e1:Hq (aq (.ask c n y)) (.int 1) f=some (.int n):=MT _ _ _ f;have e2:Hq (aq (.ask c n y)) (.int 2) f=some (.int y):=at2 _ _ _ _ f;have Y:=sub c a1;have QF:o.idxOf c<o.length:=idxOf_lt_length_iff.mpr Y;obtain⟨l,E,z,v,q,F,H,N,ch,l3,m3⟩:=kX nd 9 m w M Y (i:=a) (j:=b) n1 y1 (by omega) (by show _+512<=_;omega) (by show _+512<=_;omega);obtain⟨_,_,vv,_,J⟩:=ch;have U:=m.has "choose" (by decide);refine⟨l,E,z,v,?_,F,H,N,⟨vv,λg s2 e=>J g _ ?_⟩,l3,m3⟩
     ·clear x;have B:fO [aq (.ask c n y)] f=GW (.bl true) f:=B;generalize D.tup (R.map aq)=x1 at *
      generalize oD o=x3 at *
      generalize aq (.ask c n y)=x4 at *
      unfold fH;simp -implicitDefEqProofs [B,Pe,e0,e1,e2,ln,ly,U,q]
     unfold sel;cases e with
     |leaf s=>rw[hr] at s;cases s
     |no s t k=>rw[hr] at s;cases s;rw[t];exact(n3 _ _ k).mono E
     |yes s t k=>rw[hr] at s;cases s;rw[t];exact(y3 _ _ k).mono E
   obtain⟨l,E,z,v,q,F,H,N,ok,lE,lC⟩:=step;have T:l[P+4]?=some (.lst (Jw ns)):=by rw[F.fr (P+4) (.inr (by omega)),if_pos rfl]
   rw[rX T (by omega),bA] at q
   exact⟨_,rfl,_,_,q,G++E,z,ns++[v],some (aq r),rfl,oX F,H,N,by rw[List.length_append,A];simp,by rw[List.length_append];omega,by omega,oY (λi u hu=>(x i u hu).app E) ok⟩)
 obtain⟨G,C,ns,b,rfl,m,w,M,A,hG,W,x⟩:=hI;rw[zero_add,length_map] at A;have H_:ns.length-1<ns.length:=by omega
 have ev:ns[ns.length-1]?=some ns[ns.length-1]:=getElem?_eq_getElem H_;obtain⟨V,J⟩:=x _ _ ev;have T:S2[P+4]?=some (.lst (Jw ns)):=by rw[m.fr (P+4) (.inr (by omega)),if_pos rfl]
 have la:=wu T ev;generalize ns[ns.length-1]=r at *
 obtain⟨X,l,Z,c,lX,O,x2,y2,rfl⟩:=fold_eq m w hl V;have un:=w.uT V;have eF:FR (X++[r]) G=enc (po (G6.uT G r) []):=by rw[vZ w c,O]
 have wr:=Av w c;rw[eF] at Z wr;refine⟨G6.uT G r,S2++[.dict x2,.dict y2],aE rfl ?_,(un.ord w).1,(un.ord w).2,wr,λg=>?_,λg a ha=>?_,?_⟩
 ·have ME:=m.has "fold_from" (by decide);have sq:bR (.tup (R.map aq))=some (R.map aq):=rfl;have ng:sP (.int 1)=some (.int (-1)):=rfl;clear J x O;generalize D.tup ((enc (po (G6.uT G r) [])).map aq)=rt at *
  generalize R.map aq=x1 at *
  generalize oD o=od at *
  unfold tQ;simp -implicitDefEqProofs [mr,I,sq,el,ME,ng,la,Z,-rh]
 ·have e:=Aw c (un.ev g) (by simp);have hr:r∉X:=by have:=(nodup_append.mp c.nd).2.2;intro hm;exact this r hm r (by simp) rfl
  have ix:(X++[r]).idxOf r=(FR (X++[r]) G).length-1:=by rw[idxOf_append,if_neg hr];simp[FR]
  rw[ix,eF] at e;exact e
 ·rw[← A] at ha;exact Ev.det (un.ev g) (J g a ha)
 rw[← O,length_map,List.length_append];simp;omega
section
variable {m:Nat}{ts:List Int}{o:List Nat}{R:List Row}
theorem BX (u:oQ m ts)(w:Wr o R)(D:∀ c∈o,c<m)(S:GO){p:Nat}{ss:List Str}(e:Ev R (tv ts) p ss):∀ {r:Row}{fuel:Nat},R[p]?=some r->o.length+1<=fuel+G6.pl o R p->d9 jL gH fuel [some (.tup (R.map aq)),some (IM ts),some (aq r)] S=GW (.next [some (.tup (R.map aq)),some (IM ts),some (aq (.leaf ss))]) S:=by
 have step:∀ {p c n y:Nat}{fuel:Nat},R[p]?=some (.ask c n y)->o.length+1<=fuel+G6.pl o R p->∃ f,fuel=f+1/\o.length+1<=f+G6.pl o R n/\o.length+1<=f+G6.pl o R y/\c<m/\n<R.length/\y<R.length:=by
  intro p c n y fuel a i;have B:G6.pl o R p=o.idxOf c:=by unfold G6.pl;rw[a]
  have E:p<R.length:=(List.getElem?_eq_some_iff.mp a).1;obtain⟨a1,a2,F,H,G⟩:=w p _ a;have:o.idxOf c<o.length:=idxOf_lt_length_iff.mpr a1;exact⟨fuel-1,by omega,by omega,by omega,D c a1,by omega,by omega⟩
 have s:∀ r:Row,jL [some (.tup (R.map aq)),some (IM ts),some (aq r)] S=GW (match r with | .leaf _=>false | .ask _ _ _=>true) S:=λr=>by
  unfold jL;cases r with
  |leaf ss =>
   have g:Hq (aq (.leaf ss)) (.int 0) S=some (.str "names"):=Li _ _ S;have b:=sQ (d:=.str "names") rfl "names";have h:Mi (.str "names") "names"=true:=by simp[Mi]
   simp[g,b,h]
  |ask c n y =>
   have g:Hq (aq (.ask c n y)) (.int 0) S=some (.int c):=Li _ _ S;have b:=sQ (d:=.int c) rfl "names";have h:Mi (.int c) "names"=false:=rfl;simp[g,b,h]
 induction e with
 | @leaf p ss a =>
  intro r fuel hr i;rw[a] at hr;cases hr;have B:G6.pl o R p=o.length:=by unfold G6.pl;rw[a]
  obtain⟨fuel,rfl⟩:∃ f,fuel=f+1:=⟨fuel-1,by omega⟩;rw[d9,s];rfl
 | @no p c n y ss a k _ q =>
  intro r fuel hr i;obtain⟨fuel,rfl,z,A,hc,x,v⟩:=step a i;rw[a] at hr;cases hr;have j:=yF u hc S;rw[k] at j;have g:Hq (aq (.ask c n y)) (.int 0) S=some (.int c):=Li _ _ S;have h:Hq (aq (.ask c n y)) (.int 1) S=some (.int n):=MT _ _ _ S;have b:R[n]?=some R[n]:=getElem?_eq_getElem x;have t:=i_ S b;have l:gH [some (.tup (R.map aq)),some (IM ts),some (aq (.ask c n y))] S=GW (.next [some (.tup (R.map aq)),some (IM ts),some (aq R[n])]) S:=by unfold gH;simp[g,j,h,t,-map_map]
  rw[d9,s];simp only[bA,if_true,l];exact q b z
 | @yes p c n y ss a k _ q =>
  intro r fuel hr i;obtain⟨fuel,rfl,z,A,hc,x,v⟩:=step a i;rw[a] at hr;cases hr;have j:=yF u hc S;rw[k] at j;have g:Hq (aq (.ask c n y)) (.int 0) S=some (.int c):=Li _ _ S;have C:Hq (aq (.ask c n y)) (.int 2) S=some (.int y):=at2 _ _ _ _ S;have b:R[y]?=some R[y]:=getElem?_eq_getElem v;have t:=i_ S b;have l:gH [some (.tup (R.map aq)),some (IM ts),some (aq (.ask c n y))] S=GW (.next [some (.tup (R.map aq)),some (IM ts),some (aq R[y])]) S:=by unfold gH;simp[g,j,C,t,-map_map]
  rw[d9,s];simp only[bA,if_true,l];exact q b A
theorem rJ (d:oQ m ts)(w:Wr o R)(b:∀ c∈o,c<m)(g:o.length<=18){ss:List Str}(e:Ev R (tv ts) (R.length-1) ss)(S:GO):jF [.tup (R.map aq),IM ts] S=GW (.tup (ss.map .str)) S:=by
 obtain⟨r,hr⟩:∃ r,R[R.length-1]?=some r:=by cases e with
  |leaf h=>exact⟨_,h⟩
  |no h=>exact⟨_,h⟩
  |yes h=>exact⟨_,h⟩
 have q:=BX d w b S e (fuel:=20) hr (by omega);have f:Hq (aq (.leaf ss)) (.int 1) S=some (.tup (ss.map .str)):=MT _ _ _ S;have a:=yc S hr;refine aE rfl ?_;unfold zW;simp[sP,a,rE,q,f,-map_map]
end
theorem Aa {α:Type}(a:List α)(p:Nat):kT a none (some (p:Int))=a.take p:=by
 unfold kT;rw[HT.K4,HT.LF,drop_zero,Nat.sub_zero];rcases Nat.le_total p a.length with h |h
 ·rw[Nat.min_eq_left h]
 rw[Nat.min_eq_right h,take_of_length_le (le_refl _),take_of_length_le h]
theorem Ab {α:Type}(a:List α)(q:Nat):kT a (some (q:Int)) none=a.drop q:=by
 unfold kT;rw[HT.LF,HT.K4];rcases Nat.le_total q a.length with h |h
 ·rw[Nat.min_eq_left h,take_of_length_le (by rw[length_drop];exact le_refl _)]
 rw[Nat.min_eq_right h,List.drop_length,List.drop_of_length_le h,List.take_nil]
abbrev nD (l:List Nat):List D:=l.map λ(k:Nat)=>D.int k
theorem zI (a b:List D)(h:a.length+b.length<=1000):bC (.lst a) (.lst b)=some (.lst (a++b)):=by rw[lh,if_pos (Nat.le_trans h (by decide))]
theorem u9 (num:Int)(m:D)(k:Nat)(j:k<=20)(l:List Nat)(c:l.length=k)(z:Option D)(S:GO):∃ a:Nat,a<=k/\fZ [some (.int num),some m,some (.lst (nD l)),some (.int k),z] S=GW (.next [some (.int num),some m,some (.lst (nD (l.take a++[k]++l.drop a))),some (.int k),some (.int a)]) S:=by
 have i:=j5 num k S;have e:cF [.lst (nD l)]=some (.int (k:Nat)):=by simp[cF,c]
 have b:cC (.int (Jk num k)) (.int ((k:Int)+1))=some (.int (Jk num k % ((k:Int)+1))):=bF (by omega);have bm:=nF (Jk num k) (show (0:Int)<(k:Int)+1 by omega);obtain⟨a,h⟩:∃ a:Nat,Jk num k % ((k:Int)+1)=a:=⟨(Jk num k % ((k:Int)+1)).toNat,by omega⟩;rw[h] at b bm;have f:KP (.lst (nD l)) none (some (a:Int))=some (.lst (nD (l.take a))):=by show some (D.lst (kT (nD l) none (some (a:Int))))=_;rw[Aa];unfold nD;rw[map_take]
 have g:KP (.lst (nD l)) (some (a:Int)) none=some (.lst (nD (l.drop a))):=by show some (D.lst (kT (nD l) (some (a:Int)) none))=_;rw[Ab];unfold nD;rw[map_drop]
 have t1:(nD (l.take a)).length<=20:=by rw[length_map,length_take];omega
 have t2:(nD (l.drop a)).length<=20:=by rw[length_map,length_drop];omega
 have a1:=zI (nD (l.take a)) [.int k] (by simp at t1 ⊢;omega);have a2:=zI (nD (l.take a)++[.int k]) (nD (l.drop a)) (by rw[List.length_append];simp at t1 t2 ⊢;omega);have z1:JA [.int k] (.lst [.int k])=some (.lst [.int k]):=bY (by simp);have d:nD (l.take a++[k]++l.drop a)=nD (l.take a)++[.int k]++nD (l.drop a):=by simp
 refine⟨a,by omega,?_⟩;rw[d];unfold fZ;simp[i,e,b,f,g,z1,a1,a2,tK,-map_map,-map_append,-map_take,-map_drop,-List.append_assoc]
theorem pA (num:Int){m:Nat}(A:m<=10)(S:GO):∃ o:List Nat,jc [.int num,.int m] S=GW (oD o) S/\o.Perm (List.range m):=by
 have r:fT [.int m]=some ((List.range m).map λ(k:Nat)=>D.int k):=by have:=AW m (by omega) (by omega);simpa using this
 obtain⟨n,y,v,e⟩:=cr (u:=aK 3) (body:=fZ) (λi f d=>d=S/\i<=m/\∃ (l:List Nat) (a b:Option D),l.Perm (List.range i)/\f=[some (.int num),some (.int m),some (.lst (nD l)),a,b])
  ((List.range m).map λ(k:Nat)=>D.int k) 0 [some (.int num),some (.int m),some (.lst []),none,none] S ⟨rfl,by omega,[],none,none,.refl _,rfl⟩ (by
   rintro j x f d s ⟨rfl,t,l,a,b,c,rfl⟩;obtain⟨rfl,z⟩:=gu s;simp only[zero_add] at c t ⊢;have g:l.length=j:=by rw[c.length_eq,length_range]
   obtain⟨q,B,p⟩:=u9 num (.int m) j (by omega) l g b d;refine⟨_,rfl,_,_,p,rfl,by omega,_,_,_,?_,rfl⟩;rw[List.range_succ];have w:(l.take q++[j]++l.drop q).Perm (j::l):=by have:=List.perm_middle (a:=j) (l₁:=l.take q) (l₂:=l.drop q);rw[take_append_drop] at this;rw[List.append_assoc];exact this
   exact w.trans ((List.Perm.cons j c).trans (List.perm_append_singleton j (List.range j)).symm))
 simp only[zero_add,length_map,length_range] at e;obtain⟨rfl,_,l,a,b,c,rfl⟩:=e;refine⟨l,aE rfl ?_,c⟩;have h:JA [] (.lst [])=some (.lst []):=bY (by simp);unfold pS;simp[h,r,v,kB]
theorem vB (ss:List Str)(i:ss.length<=6)(j:∀ x∈ss,cZ x=true)(l:ss.Pairwise λa b=>J5 a b=true)(m:Nat)(o : 1<=m)(r:m<=10)(S:GO):∀ (fuel e:Nat) (num:Int),e<fuel->0<=num->∃ d,km fuel [.int num,.tup (ss.map .str),.int m,.int e] S=GW d S/\KQ m e d
 | 0,e,num,h,_=>absurd h (by omega)
 |fuel+1,e,num,h,h0=>by
  have p:cC (.int num) (.int 7)=some (.int (num % 7)):=bF (by decide);have n:gF (.int num) (.int 7)=some (.int (num / 7)):=ja (by decide) (by decide);have s:cC (.int (num / 7)) (.int m)=some (.int (num / 7 % m)):=bF (by omega);have bm:=nF (num / 7) (show (0:Int)<m by omega);obtain⟨w,q,k⟩:=lJ (num / 7) (ss:=ss) (by omega) S
  have leaf:(e=0∨num % 7=0)->∃ d,km (fuel+1) [.int num,.tup (ss.map .str),.int m,.int e] S=GW d S/\KQ m e d:=λhc=>by
   refine⟨.tup [.str "names",.tup (w.map .str)],aE rfl ?_,.leaf (λx B=>j x (k.subset B)) (gR (l.sublist k)) (Nat.le_trans k.length_le i)⟩;unfold q8;by_cases f:e=0
   ·subst f;simp[n,q]
   have g:num % 7=0:=hc.resolve_left f;simp[f,p,g,n,q]
  by_cases f:e=0
  ·exact leaf (.inl f)
  by_cases g:num % 7=0
  ·exact leaf (.inr g)
  have t:=j5 num 1 S;have v:=j5 num 2 S;obtain⟨dp,rfl⟩:∃ dp,e=dp+1:=⟨e-1,by omega⟩;obtain⟨x,ex,A⟩:=vB ss i j l m o r S fuel dp (Jk num 1) (by omega) (jA _ _);obtain⟨y,C,u⟩:=vB ss i j l m o r S fuel dp (Jk num 2) (by omega) (jA _ _);have z:¬ ((dp:Int)+1=0):=by omega
  obtain⟨c,hc⟩:∃ c:Nat,num / 7 % m=c:=⟨(num / 7 % m).toNat,by omega⟩;rw[hc] at s bm;refine⟨.tup [.str "ask",.int c,x,y],aE rfl ?_,.ask (by omega) A u⟩;unfold q8;simp[z,p,g,t,v,ex,C,n,s,jM]
abbrev JP (Ip:List (List Int)):List D:=Ip.map IM
theorem Cj (a b:List D)(h:a.length+b.length<=1000):bC (.tup a) (.tup b)=some (.tup (a++b)):=by rw[qi,if_pos (Nat.le_trans h (by decide))]
theorem lA (e:GH D)(v:Int)(c:e=aJ bC (af 0) (aC (.tup [.int v])))(a:List (List Int))(h:∀ ts∈a,ts.length<=20)(ρ:GP)(S:GO):cz (aK 0) iO e (JP a) (cL 1 [] ρ) S=some (JP (a.map λts=>ts++[v]),S):=by
 have q:=kU (u:=aK 0) (fe:=e) (λρ => ∃ y,ρ=[y]) (λd=>match d with | .tup g => .tup (g++[.int v]) |_ => .Hu) S (JP a) (cL 1 [] ρ) ⟨none,rfl⟩ (by
  rintro d hd ρ ⟨y,rfl⟩;obtain⟨ts,b,rfl⟩:=mem_map.mp hd;refine⟨_,rfl,⟨_,rfl⟩,?_⟩;have f:=Cj (ts.map D.int) [.int v] (by have:=h ts b;simp;omega);subst c
  simp[f])
 rw[q];congr 2;unfold JP;rw[map_map,map_map];refine map_congr_left λts _=>?_;simp[IM]
theorem r8 (m:D)(k:Nat)(a:List (List Int))(d:a.length<=2000)(h:∀ ts∈a,ts.length<=20)(z:Option D)(S:GO):eU [some m,some (.lst (JP a)),z] S=GW (.next [some m,some (.lst (JP ((a.map λts=>ts++[0])++(a.map λts=>ts++[1])))),z]) S:=by
 have b:=lA j4 0 rfl a h [some m,some (.lst (JP a)),z] S;have c:=lA j3 1 rfl a h [some m,some (.lst (JP a)),z] S;have ad:bC (.lst (JP (a.map λts=>ts++[0]))) (.lst (JP (a.map λts=>ts++[1])))=some (.lst (JP ((a.map λts=>ts++[0])++(a.map λts=>ts++[1])))):=by rw[lh,if_pos (by simp only[JP,length_map];exact Nat.le_trans (show _<=4000 by omega) (by decide))];unfold JP;rw[← map_append]
 unfold eU;simp[bR,b,c,ad,-map_map,-map_append]
theorem uv:∀ (b:List (List Int)),(∀ ts∈b,ts≠[])->uy tupI (JP b)=some b
 |[],_=>rfl
 |ts::b,h=>by
  have d:=uv b λt c=>h t (mem_cons_of_mem _ c)
  have e:tupI (IM ts)=some ts:=by
   unfold tupI IM;simp only[HL];cases ts with
   |nil=>exact absurd rfl (h [] (mem_cons_self ..))
   |cons a r=>rfl
  show uy tupI (IM ts::JP b)=_;rw[uy,e,bind_some,d];rfl
def KW:Nat->List (List Int)
 | 0=>[[]]
 |m+1=>((KW m).map λts=>ts++[0])++((KW m).map λts=>ts++[1])
theorem v7:∀ m,(KW m).length=2 ^ m
 | 0=>rfl
 |m+1=>by rw[KW,List.length_append,length_map,length_map,v7 m,pow_succ];omega
theorem mQ:∀ m,∀ ts∈KW m,oQ m ts
 | 0,ts,h=>by rw[mem_singleton.mp h];exact⟨rfl,λx hx=>by cases hx⟩
 |m+1,ts,h=>by
  have go:∀ {t:List Int}{b:Int},t∈KW m->(b=0∨b=1)->oQ (m+1) (t++[b]):=λ{t b} a hb=>by
   refine⟨by rw[List.length_append,(mQ m t a).1];rfl,λx hx=>?_⟩;rcases mem_append.mp hx with hx |hx
   ·exact(mQ m t a).2 x hx
   rw[mem_singleton.mp hx];exact hb
  rcases mem_append.mp h with h |h
  ·obtain⟨t,a,rfl⟩:=mem_map.mp h;exact go a (.inl rfl)
  obtain⟨t,a,rfl⟩:=mem_map.mp h;exact go a (.inr rfl)
theorem v8:∀ m ts,oQ m ts->ts∈KW m
 | 0,ts,h=>by rw[length_eq_zero_iff.mp h.1];exact mem_singleton.mpr rfl
 |m+1,ts,h=>by
  obtain⟨a,d⟩:=h;have b:ts≠[]:=by intro z;rw[z] at a;simp at a
  have e:=List.dropLast_concat_getLast b;have c:=v8 m ts.dropLast ⟨by rw[List.length_dropLast,a];rfl,λx f=>d x (List.dropLast_subset _ f)⟩;rw[KW,mem_append];rcases d _ (List.getLast_mem b) with h0 |h0
  ·exact .inl (mem_map.mpr ⟨_,c,by rw[← h0];exact e⟩)
  exact .inr (mem_map.mpr ⟨_,c,by rw[← h0];exact e⟩)
def bits (n:Nat):List Int:=[n / 32 % 2,n / 16 % 2,n / 8 % 2,n / 4 % 2,n / 2 % 2,n % 2].map λ(k:Nat)=>(k:Int)
theorem yD {m:Nat}(a : 1<=m)(b:m<=6):Spec (nJ λ(x y:Int)=>decide (x<y)) (KW m):=by
 have:m=1∨m=2∨m=3∨m=4∨m=5∨m=6:=by omega
 rcases this with rfl |rfl |rfl |rfl |rfl |rfl
 ·exact⟨_,_,_,rfl,by decide,by decide,.inl (by decide)⟩
 ·exact⟨_,_,_,rfl,by decide,by decide,.inl (by decide)⟩
 ·exact⟨_,_,_,rfl,by decide,by decide,.inl (by decide)⟩
 ·exact⟨_,_,_,rfl,by decide,by decide,.inl (by decide)⟩
 ·exact⟨_,_,_,rfl,by decide,by decide,.inl (by decide)⟩
 exact⟨_,_,_,rfl,by decide,by decide,.inr ⟨by decide,_,_,_,_,rfl,by decide,by decide,(List.range 32).map λi=>bits (2*i),(List.range 32).map λi=>bits (2*i+1),by decide,by decide,by decide,by decide,by decide,by decide,by decide,by decide⟩⟩
theorem xh {m:Nat}(p : 1<=m)(l:m<=6)(S:GO):∃ e:List (List Int),hV [.int m] S=GW (.lst (JP e)) S/\(∀ ts∈e,oQ m ts)/\∀ ts,oQ m ts->ts∈e:=by
 have s:fT [.int m]=some ((List.range m).map λ(k:Nat)=>D.int k):=by have:=AW m (by omega) (by omega);simpa using this
 have f:∀ j,j<=6->(KW j).length<=64:=λj c=>by rw[v7];exact Nat.pow_le_pow_right (by decide) c
 obtain⟨q,w,t,n⟩:=cr (u:=aK 2) (body:=eU) (λi o d=>d=S/\∃ b:Option D,o=[some (.int m),some (.lst (JP (KW i))),b])
  ((List.range m).map λ(k:Nat)=>D.int k) 0 [some (.int m),some (.lst [.tup []]),none] S ⟨rfl,none,rfl⟩ (by
   rintro j v o d c ⟨rfl,b,rfl⟩;obtain⟨rfl,x⟩:=gu c;simp only[zero_add];have r:=r8 (.int m) j (KW j) (by have:=f j (by omega);omega) (λts a=>by have:=(mQ j ts a).1;omega) (some (.int j)) d
   exact⟨_,rfl,_,_,r,rfl,_,rfl⟩)
 simp only[zero_add,length_map,length_range] at n;obtain⟨rfl,b,rfl⟩:=n;have es:qD [.lst (JP (KW m))]=some (.lst (JP ((KW m).mergeSort vn))):=by show (uy tupI (JP (KW m))).bind _=_;rw[uv (KW m) λts a h=>by have:=(mQ m ts a).1;rw[h] at this;simp at this;omega,bind_some];exact if_pos ⟨by simp only[JP,length_map];exact Nat.le_trans (f m l) (by decide),yD p l⟩
 have g:((KW m).mergeSort vn).Perm (KW m):=mergeSort_perm _ _;refine⟨(KW m).mergeSort vn,aE rfl ?_,λts a=>mQ m ts (g.mem_iff.mp a),λts a=>g.mem_iff.mpr (v8 m ts a)⟩;unfold nT;simp[s,t,es,-map_map]
theorem Bl (l:List Str):Jn (.tup (l.map .str)) (.tup (l.map .str))=some (.bl false):=by simp[Jn,toPy,dH,PyData.eqv,PyData.depth,g6,j0]
theorem yr {x:Str}(a:lets x=true)(S:GO)(ρ:GP):cz (aK 0) cO eE (x.cps.toList.map λc=>D.str ⟨#[c]⟩) (cL 1 [] ρ) S=some ([],S):=by
 have q:=fG (u:=aK 0) (gt:=cO) (fe:=eE) (λρ => ∃ y,ρ=[y]) (λ_=>false) id S (x.cps.toList.map λc=>D.str ⟨#[c]⟩) (cL 1 [] ρ) ⟨none,rfl⟩ (by
  rintro d hd ρ ⟨y,rfl⟩;obtain⟨c,hc,rfl⟩:=mem_map.mp hd;refine⟨_,rfl,⟨_,rfl⟩,?_,λh=>by cases h⟩;have e:=z5 c;rw[all_eq_true.mp a c hc] at e;simp only[Bool.not_true] at e;simp[cO,qW,findD,Ml];show GW (decide (Txt.find Kl _<0)) S=_
  rw[e])
 rw[q];simp
theorem vQ {ss:List Str}(g:∀ x∈ss,cZ x=true)(l:MS ss=true)(S:GO){j:Nat}{x:Str}(a:ss[j]?=some x):cP [some (.tup (ss.map .str)),some (.int j),some (.str x)] S=GW (.next [some (.tup (ss.map .str)),some (.int j),some (.str x)]) S:=by
 have b:=g x (mem_of_getElem? a);unfold cZ at b;rw[and_eq_true,and_eq_true,and_eq_true] at b;obtain⟨m,r,hb,hc⟩:=b
 have e:(decide (("names":Str)=x) ||(decide (("ask":Str)=x) ||decide (("end":Str)=x)))=false:=by
  have:kept x=false:=by simpa using m
  unfold kept at this;rw[← this];simp[eq_comm]
 have d:=yr hc S;have f:Jn (.lst []) (.lst [])=some (.bl false):=Bm rfl;have a1 : 0<x.length:=of_decide_eq_true r;have c:(x.length:Int)<9:=by have:=of_decide_eq_true hb;omega
 have a2:(0:Int)<x.length:=by omega
 have p:(j=0/\¬ (0:Int)<j)∨((0:Int)<j/\∃ y,Jp (ss.map D.str) ((j:Int)-1)=some (.str y)/\J5 y x=true):=by
  rcases Nat.eq_zero_or_pos j with rfl |h
  ·exact .inl ⟨rfl,by omega⟩
  have i:=(List.getElem?_eq_some_iff.mp a).1;have k:ss[j-1]?=some ss[j-1]:=getElem?_eq_getElem (by omega);refine .inr ⟨by omega,ss[j-1],?_,?_⟩
  ·have:(ss.map D.str)[j-1]?=some (.str ss[j-1]):=by rw[getElem?_map,k];rfl
   have:=bq this;rw[show ((j-1:Nat):Int)=(j:Int)-1 by omega] at this;exact this
  have:=pairwise_iff_getElem.mp (eV l) (j-1) j (by omega) i (by omega);rwa [(List.getElem?_eq_some_iff.mp a).2] at this
 unfold cP;rcases p with ⟨rfl,h⟩ |⟨h,y,q,o⟩
 ·simp[ik,lO,l8,Ml,cF,PN,a1,a2,c,KY,bw,Te,e,bR,d,f]
 have n : 0<j:=by omega
 simp[ik,lO,l8,Ml,cF,PN,jM,Hq,Nq,a1,a2,c,h,n,q,o,KY,bw,Te,e,bR,d,f]
theorem vg {ss:List Str}(g:∀ x∈ss,cZ x=true)(i:MS ss=true)(S:GO):ge [.tup (ss.map .str)] S=GW (.bl true) S:=by
 refine aE rfl ?_;unfold jp
 obtain⟨h,c,l,rfl,a,b,rfl⟩:=cr (u:=oG 2 (bJ (aK 1) (bJ (aK 2) jK))) (body:=cP) (λ_ f c=>c=S/\∃ a b,f=[some (.tup (ss.map .str)),a,b]) (cK 0 (ss.map .str)) 0 [some (.tup (ss.map .str)),none,none] S ⟨rfl,none,none,rfl⟩ (by
  rintro j d f c e ⟨rfl,a,b,rfl⟩;rw[eX,getElem?_map] at e;obtain⟨x,m,rfl⟩:=map_eq_some_iff.mp e;obtain⟨y,k,rfl⟩:=map_eq_some_iff.mp m;rw[zero_add]
  exact⟨[some (.tup (ss.map .str)),some (.int j),some (.str y)],rfl,_,c,vQ g i c k,rfl,_,_,rfl⟩)
 simp[ik,lO,l8,n6,l,-map_map]
theorem kK (i n:Int)(a : 0<=i)(b:i<n)(S:GO):fM [.int i,.int (n-1)] S=GW (.bl true) S:=by
 refine aE rfl ?_;unfold nV;have e:i<=n-1:=by omega
 simp[ik,lO,l8,PM,a,e]
abbrev IW (R:List Row):D:=.tup (R.map aq)
abbrev aU (t:Tr):D:=IW (enc (po t []))
theorem y6 (r:Row):toPy (aq r)=some (eA r):=by
 cases r with
 |leaf a=>simp[aq,eA,toPy,bX,dH]
 |ask c n y=>simp[aq,eA,toPy,bX]
theorem pz (r:Row):(eA r).depth<=2:=by
 cases r with
 |leaf a=>simp[eA,PyData.depth,PyData.depthAll,g6]
 |ask c n y=>simp[eA,PyData.depth,PyData.depthAll]
theorem iY:∀ R:List Row,bX (R.map aq)=some (R.map eA)
 |[]=>rfl
 |r::R=>by rw[map_cons,bX,y6,iY R];rfl
theorem jv:∀ R:List Row,PyData.depthAll (R.map eA)<=2
 |[]=>by simp[PyData.depthAll]
 |r::R=>by
  have a:=pz r;have b:=jv R;rw[map_cons,PyData.depthAll];omega
theorem nu:∀ R Q:List Row,PyData.eqvAll (R.map eA) (Q.map eA)=decide (R=Q)
 |[],[]=>rfl
 |[],q::Q=>by simp[PyData.eqvAll]
 |r::R,[]=>by simp[PyData.eqvAll]
 |r::R,q::Q=>by
  rw[map_cons,map_cons,PyData.eqvAll,nu R Q,qM];by_cases h:r=q<;>by_cases a:R=Q<;>simp[h,a]
theorem Fc (R Q:List Row):Jn (IW R) (IW Q)=some (.bl (!decide (R=Q))):=by
 have hd:=jv R;have b:toPy (IW R)=some (.tuple (R.map eA)):=by rw[toPy,iY];rfl
 have a:toPy (IW Q)=some (.tuple (Q.map eA)):=by rw[toPy,iY];rfl
 unfold Jn;rw[b,a];simp only[PyData.eqv,nu];rw[if_pos (by simp only[PyData.depth];omega)]
theorem tV (R Q:List Row):HP (IW R) (IW Q)=some (.bl (decide (R=Q))):=by
 have hd:=jv R;have b:toPy (IW R)=some (.tuple (R.map eA)):=by rw[toPy,iY];rfl
 have a:toPy (IW Q)=some (.tuple (Q.map eA)):=by rw[toPy,iY];rfl
 unfold HP;rw[b,a];simp only[PyData.eqv,nu];rw[if_pos (by simp only[PyData.depth];omega)]
theorem CH (neg:Bool)(r:Row)(R:List Row)(S:GO):KY neg (aq r) (IW R) S=some (.bl (neg != decide (r∈R))):=by
 have hd:=pz r
 have e:nR (aq r) (IW R)=some (decide (r∈R)):=by
  unfold nR;rw[y6];simp only[xj,bind_some,iY];rw[if_pos (by omega)];congr 1;rw[any_map]
  induction R with
  |nil=>rfl
  |cons q R b =>
   rw[any_cons,b,Function.comp,qM];by_cases h:q=r
   ·subst h;simp
   have a:¬ r=q:=λz=>h z.symm;simp[h,a]
 unfold KY;rw[if_neg (by rw[show bw (IW R)=false from rfl];decide)];cases neg<;>simp[inD,kL,e]
theorem nz:∀ o:List Nat,cb (o.map λ(c:Nat)=>D.int c)=some (o.map λ(c:Nat)=>(c:Int))
 |[]=>rfl
 |c::o=>by rw[map_cons,cb,nz o];rfl
theorem lay_ints:∀ (l:List Int),PyData.canLayAll0 (l.map .int)=true/\PyData.depthAll (l.map .int)=0/\((∀ i∈l,i.natAbs<=16)->PyData.weightAll (l.map .int)<=6*l.length)
 |[]=>⟨rfl,rfl,λ_=>le_refl _⟩
 |i::l=>by
  obtain⟨e,j,d⟩:=lay_ints l;refine⟨by rw[map_cons,PyData.canLayAll0,e];rfl,by rw[map_cons,PyData.depthAll,j];rfl,λh=>?_⟩;have a:=d λx g=>h x (mem_cons_of_mem _ g);have b:=h i (mem_cons_self ..)
  have c:PyData.weight (.int i)<=5:=by
   unfold PyData.weight;split
   ·omega
   have:i.natAbs.log2<5:=by refine(Nat.log2_lt ?_).mpr (by omega);rename_i f;simp at f;omega
   omega
  rw[map_cons,PyData.weightAll,length_cons];omega
theorem BF {o:List Nat}(l:o.length<=10)(j:∀ c∈o,c<=16){c:Nat}(hc:c∈o):nO (.lst (o.map λ(c:Nat)=>D.int c)) (.int c)=some (.int (o.idxOf c:Nat)):=by
 simp only[nO];rw[nz,bind_some];obtain⟨d,k,b⟩:=lay_ints (o.map λ(c:Nat)=>(c:Int))
 have b:=b (by
  intro i f;obtain⟨x,g,rfl⟩:=mem_map.mp f
  have:=j x g;omega)
 rw[length_map] at b;have e:(o.map λ(c:Nat)=>(c:Int)).idxOf (c:Int)=o.idxOf c:=gW (λ(c:Nat)=>(c:Int)) c o λa _ h=>by omega
 rw[if_pos ⟨mem_map.mpr ⟨c,hc,rfl⟩,by
  unfold PyData.layable0;rw[and_eq_true,and_eq_true]
  refine⟨⟨by rw[PyData.canLay0];exact d,decide_eq_true (by rw[PyData.depth,k];decide)⟩,decide_eq_true (by rw[PyData.weight];omega)⟩⟩,e]
theorem sJ (neg:Bool)(c:Nat)(o:List Nat)(S:GO):KY neg (.int c) (.tup (o.map λ(c:Nat)=>D.int c)) S=some (.bl (neg != decide (c∈o))):=by
 have e:nR (.int c) (.tup (o.map λ(c:Nat)=>D.int c))=some (decide (c∈o)):=by
  have ep:bX (o.map λ(c:Nat)=>D.int c)=some (o.map λ(c:Nat)=>PyData.int c):=by
   induction o with
   |nil=>rfl
   |cons x o a=>rw[map_cons,bX,a];rfl
  unfold nR;simp only[toPy,xj,bind_some,ep];rw[if_pos (by simp[PyData.depth])];congr 1;rw[any_map];clear ep
  induction o with
  |nil=>rfl
  |cons q R a =>
   rw[any_cons,a,Function.comp];by_cases h:q=c
   ·subst h;simp[PyData.eqv]
   have b:¬ c=q:=λz=>h z.symm;have d:¬ (q:Int)=c:=by omega
   simp[PyData.eqv,d,b]
 unfold KY;rw[if_neg (by rw[show bw (.tup _)=false from rfl];decide)];cases neg<;>simp[inD,kL,e]
theorem r0 (r:Row)(S:GO):Hq (aq r) (.int 0) S=some (match r with | .leaf _ => .str "names" | .ask c _ _ => .int c):=by cases r<;>rfl
theorem nA (r:Row):Jn (match r with | .leaf _=>D.str "names" | .ask c _ _=>D.int c) (.str "names")=some (.bl (match r with | .leaf _=>false | .ask _ _ _=>true)):=by cases r<;>simp[Jn,toPy,PyData.eqv,PyData.depth]
theorem zR {o:List Nat}(nd:o.Nodup){R:List Row}{c:Nat}(hc:c∈o){gs:List Nat}(v:∀ g∈gs,g<R.length/\o.idxOf c<G6.pl o R g)(w:Wr o R)(ρ:GP)(hb : ρ[4]?=some (some (.tup ((o.drop (o.idxOf c+1)).map λ(c:Nat)=>D.int c))))(r : ρ[0]?=some (some (IW R)))(S:GO) :
  cz (aK 0) c_ eT (gs.map λ(g:Nat)=>D.int g) (cL 1 [4,0] ρ) S=some ([],S):=by
 have s:cL 1 [4,0] ρ=[none,some (.tup ((o.drop (o.idxOf c+1)).map λ(c:Nat)=>D.int c)),some (IW R)]:=by simp[cL,hb,r]
 rw[s]
 have q:=fG (u:=aK 0) (gt:=c_) (fe:=eT) (λρ => ∃ y,ρ=[y,some (.tup ((o.drop (o.idxOf c+1)).map λ(c:Nat)=>D.int c)),some (IW R)]) (λ_=>false) id S (gs.map λ(g:Nat)=>D.int g) [none,some (.tup ((o.drop (o.idxOf c+1)).map λ(c:Nat)=>D.int c)),some (IW R)] ⟨none,rfl⟩ (by
  rintro d hd ρ ⟨y,rfl⟩;obtain⟨g,m,rfl⟩:=mem_map.mp hd;obtain⟨p,k⟩:=v g m;have e:R[g]?=some R[g]:=getElem?_eq_getElem p;have b:=i_ S e;have f:=nA R[g];have i:=G6.r0 R[g] S;refine⟨[some (.int g),some (.tup ((o.drop (o.idxOf c+1)).map λ(c:Nat)=>D.int c)),some (IW R)],rfl,⟨_,rfl⟩,?_,λh=>by cases h⟩;unfold c_;have l:=w g _ e;cases hr:R[g] with
  |leaf z =>
   rw[hr] at b f i;simp[b,i,f,-map_map]
  |ask a n A =>
   rw[hr] at b f i l e;have B:o.idxOf c<o.idxOf a:=by unfold G6.pl at k;rw[e] at k;exact k
   have t:a∈o.drop (o.idxOf c+1):=by rw[List.mem_iff_getElem?];have x:=List.idxOf_lt_length_of_mem l.1;refine⟨o.idxOf a-(o.idxOf c+1),?_⟩;rw[getElem?_drop,show o.idxOf c+1+(o.idxOf a-(o.idxOf c+1))=o.idxOf a by omega,getElem?_eq_getElem x];simp
   have j:=sJ true a (o.drop (o.idxOf c+1)) S;rw[decide_eq_true t] at j;simp only[map_drop] at j ⊢
   simp[b,i,f,j,-map_map,-map_drop])
 rw[q];simp
theorem tI {o:List Nat}(z:o.Nodup)(H:o.length<=10)(p:∀ c∈o,c<o.length){R:List Row}(nd:R.Nodup)(w:Wr o R){j:Nat}{r:Row}(b:R[j]?=some r)(S:GO):jE [IW R,.int j,oD o] S=GW (.bl true) S:=by
 have q:Hq (IW R) (.int j) S=some (aq r):=i_ S b;have K:=(List.getElem?_eq_some_iff.mp b).1;have m:kT (R.map aq) none (some (j:Int))=(R.take j).map aq:=by rw[Aa,map_take]
 have x:r∉R.take j:=by
  intro h;obtain⟨i,d⟩:=getElem?_of_mem h;rw[getElem?_take] at d;split at d
  ·rename_i L;have:=(List.getElem?_inj (by omega) nd).mp (d.trans b.symm);omega
  cases d
 have e:=CH false r (R.take j) S;rw[decide_eq_false x] at e;refine aE rfl ?_;unfold nY;have f:=w j r b;cases r with
 |leaf a =>
  have l:=vg f.1 f.2 S;have k:=G6.r0 (.leaf a) S;have x1:Hq (aq (.leaf a)) (.int 1) S=some (.tup (a.map .str)):=rfl;have u:cF [aq (.leaf a)]=some (.int 2):=rfl;have it:ik "tuple" (aq (.leaf a))=some (.bl true):=rfl;have A:HP (.str "names") (.str "names")=some (.bl true):=by simp[HP,toPy,PyData.eqv,PyData.depth]
  have is:ik "str" (.str "names")=some (.bl true):=rfl;simp[q,it,u,KP,tK,m,e,k,is,A,x1,l,-map_map,-map_take]
 |ask c n y =>
  obtain⟨a1,a2,M,E,F,N⟩:=f;have k:=G6.r0 (.ask c n y) S;have x1:Hq (aq (.ask c n y)) (.int 1) S=some (.int n):=rfl;have x2:Hq (aq (.ask c n y)) (.int 2) S=some (.int y):=rfl;have C:cF [aq (.ask c n y)]=some (.int 3):=rfl;have lo:cF [oD o]=some (.int o.length):=by simp[cF]
  have it:ik "tuple" (aq (.ask c n y))=some (.bl true):=rfl;have is:ik "str" (.int c)=some (.bl false):=rfl;have n1:=kK c o.length (by omega) (by have:=p c a1;omega) S;have n2:=kK n j (by omega) (by omega) S;have n3:=kK y j (by omega) (by omega) S;have I:¬ (n:Int)=y:=by omega
  have B:Bx [oD o]=some (.lst (o.map λ(c:Nat)=>D.int c)):=rfl;have s:=BF H (λc hc=>by have:=p c hc;omega) a1;have v:qX (.lst (o.map λ(c:Nat)=>D.int c))=true:=rfl;have t:KP (oD o) (some ((o.idxOf c:Int)+1)) none=some (.tup ((o.drop (o.idxOf c+1)).map λ(c:Nat)=>D.int c)):=by rw[show (o.idxOf c:Int)+1=((o.idxOf c+1:Nat):Int) from rfl];simp only[KP];rw[Ab,map_drop]
  have G:KP (aq (.ask c n y)) (some 1) none=some (.tup [.int n,.int y]):=rfl
  have gs:cz (aK 0) c_ eT [.int n,.int y] _ S=_:=zR z a1 (gs:=[n,y]) (by
   intro g hg;rcases mem_cons.mp hg with rfl |hg
   ·exact⟨by omega,E⟩
   rw[mem_singleton.mp hg];exact⟨by omega,F⟩) w [some (IW R),some (.int j),some (oD o),some (aq (.ask c n y)),some (.tup ((o.drop (o.idxOf c+1)).map λ(c:Nat)=>D.int c))] rfl rfl S
  have l:HP (.lst []) (.lst [])=some (.bl true):=BI rfl;generalize O:aq (.ask c n y)=rd at *
  generalize U:(.tup ((o.drop (o.idxOf c+1)).map λ(c:Nat)=>D.int c):D)=be at *
  generalize T:oD o=od at *
  generalize Q:(.lst (o.map λ(c:Nat)=>D.int c):D)=ol at *
  have st:KP (IW R) none (some (j:Int))=some (IW (R.take j)):=by simp only[KP,m]
  generalize P:IW (R.take j)=tk at *
  generalize J:IW R=rD at *
  simp[q,it,C,st,tK,e,k,is,n1,lo,jM,x1,x2,n2,n3,I,B,v,s,t,G,bR];simp[gs,l]
theorem nP {α:Type}[DecidableEq α]{l:List α}{a b : α}(d:a∈l)(hb:b∈l)(h:l.idxOf a=l.idxOf b):a=b:=by
 have e:=List.idxOf_lt_length_of_mem d;have g:=List.idxOf_lt_length_of_mem hb;have c:l[l.idxOf a]?=some a:=by rw[getElem?_eq_getElem e];simp
 have f:l[l.idxOf b]?=some b:=by rw[getElem?_eq_getElem g];simp
 rw[h,f] at c;exact(Option.some.inj c).symm
theorem yf {P:List Tr}(nd:P.Nodup)(cl:MW P):(enc P).Nodup:=by
 unfold enc List.Nodup;rw[pairwise_map];refine List.Pairwise.imp_of_mem ?_ nd;intro a b d hb g h;refine g ?_;cases a with
 |leaf s=>cases b with
  |leaf t=>simp only[yg,Row.leaf.injEq] at h;rw[h]
  |node=>simp[yg] at h
 |node c n y=>cases b with
  |leaf t=>simp[yg] at h
  |node k i j =>
   simp only[yg,Row.ask.injEq] at h;obtain⟨rfl,e,f⟩:=h;rw[nP (cl _ _ _ d).1 (cl _ _ _ hb).1 e,nP (cl _ _ _ d).2 (cl _ _ _ hb).2 f]
def L5:Tr->Nat
 | .leaf _ => 0
 | .node _ n y=>max (L5 n) (L5 y)+1
theorem vy {o:List Nat}:∀ {t:Tr},Ord o t->L5 t+tp o t<=o.length
 | .leaf _,_=>by simp[L5,tp]
 | .node c n y,h=>by
  obtain⟨i,g,d,j,k,_⟩:=h;have a:=vy g;have b:=vy d;have e:tp o (.node c n y)=o.idxOf c:=rfl;have f:L5 (.node c n y)=max (L5 n) (L5 y)+1:=rfl;rw[e,f];omega
abbrev nL (l:List Nat):D:=.lst (l.map λ(c:Nat)=>D.int c)
theorem EC (neg:Bool)(c:Nat)(o:List Nat)(S:GO):KY neg (.int c) (nL o) S=some (.bl (neg != decide (c∈o))):=by have q:=sJ neg c o S;unfold KY at q ⊢;rw[if_neg (by rw[show bw (.tup _)=false from rfl];decide)] at q;rw[if_neg (by rw[show bw (.lst _)=false from rfl];decide)];exact q
theorem EK (l:List Nat):HP (nL l) (nL l)=some (.bl true):=by have q:=z7 (l.map λ(c:Nat)=>(c:Int)) (l.map λ(c:Nat)=>(c:Int));rw[map_map,decide_eq_true rfl] at q;exact q
theorem p9 (rec:GN)(fs gs:List Nat)(a b c e:Option D)(S:GO):cz (aK 0) (fq rec) (g0 rec) (gs.map λ(g:Nat)=>D.int g) (cL 1 [3] [a,b,c,some (nL fs),e]) S=some ((gs.filter λg=>decide (g∉fs)).map λ(g:Nat)=>D.int g,S):=by
 have j:cL 1 [3] [a,b,c,some (nL fs),e]=[none,some (nL fs)]:=rfl;rw[j]
 have q:=fG (u:=aK 0) (gt:=fq rec) (fe:=g0 rec) (λf => ∃ y,f=[y,some (nL fs)]) (λd=>match d with | .int i=>decide (i.toNat∉fs) |_=>false) id S (gs.map λ(g:Nat)=>D.int g) [none,some (nL fs)] ⟨none,rfl⟩ (by
  rintro d hd f ⟨y,rfl⟩;obtain⟨g,k,rfl⟩:=mem_map.mp hd;refine⟨[some (.int g),some (nL fs)],rfl,⟨_,rfl⟩,?_,λh=>rfl⟩;have h:=EC true g fs S;unfold fq;simp only[EO,FZ,EL,List.getElem?_cons_zero,List.getElem?_cons_succ]
  simp[h,-map_map])
 rw[q,map_id,filter_map];rfl
theorem qz {P:List Tr}(cl:MW P){s x:Tr}(a:s∈P)(b:x∈po s []):x∈P:=by
 rcases iZ s [] x b with h |h
 ·cases h
 exact cl.sub h a
abbrev lD (P:List Tr)(s:Tr):List Nat:=(po s []).map λx=>P.idxOf x
theorem z8 {P:List Tr}{s:Tr}(h:s∈P):(enc P)[P.idxOf s]?=some (yg P s):=by have a:=List.idxOf_lt_length_of_mem h;unfold enc;rw[getElem?_map,getElem?_eq_getElem a];simp
theorem BA {P:List Tr}(cl:MW P){c:Nat}{n y:Tr}(f:n∈P)(d:y∈P):lD P (.node c n y)=lD P n++((lD P y).filter λg=>decide (g∉lD P n))++[P.idxOf (.node c n y)]:=by
 unfold lD;rw[dQ (by simp),i0 y (eW n rn),map_append,map_append,filter_map];congr 2;congr 1;refine List.filter_congr λx i=>?_;simp only[Function.comp,decide_eq_decide];constructor
 ·intro h b;obtain⟨z,a,e⟩:=mem_map.mp b;rw[nP (qz cl f a) (qz cl d i) e] at a;exact h a
 exact λh b=>h (mem_map.mpr ⟨x,b,rfl⟩)
theorem rK (a b:List Nat)(h:a.length+b.length<=4000):bC (nL a) (nL b)=some (nL (a++b)):=by simp only[bC,length_map,map_append];rw[if_pos (by simp only[sizeLine];omega)];simp
theorem pD {α:Type}[DecidableEq α]:∀ {l P:List α},l.Nodup->(∀ x∈l,x∈P)->l.length<=P.length
 |[],P,_,_=>zero_le _
 |a::l,P,nd,h=>by
  obtain⟨d,f⟩:=nodup_cons.mp nd;have b:=h a (mem_cons_self ..);have e:=pD (P:=P.erase a) f λx c=>(List.mem_erase_of_ne (by rintro rfl;exact d c)).mpr (h x (mem_cons_of_mem _ c));rw[List.length_erase_of_mem b] at e;have:=List.length_pos_of_mem b;rw[length_cons];omega
theorem zM {P:List Tr}(nd:P.Nodup)(cl:MW P){s:Tr}(a:s∈P):(lD P s).length<=P.length:=by unfold lD;rw[length_map];exact pD (iE s nodup_nil) λx b=>qz cl a b
theorem qS {P:List Tr}(nd:P.Nodup)(cl:MW P)(v:P.length<=1500)(S:GO):∀ (s:Tr) (fuel:Nat),s∈P->L5 s<fuel->cM fuel [IW (enc P),.int (P.idxOf s)] S=GW (nL (lD P s)) S
 | .leaf e,fuel,k,G=>by
  obtain⟨fuel,rfl⟩:∃ f,fuel=f+1:=⟨fuel-1,by omega⟩;have l:Hq (IW (enc P)) (.int (P.idxOf (.leaf e))) S=some (aq (.leaf e)):=i_ S (z8 k);have p:=G6.r0 (.leaf e) S;have u:=nA (.leaf e);have H:lD P (.leaf e)=[P.idxOf (.leaf e)]:=by unfold lD;rw[dR (by simp)];rfl
  have ad:∀ i:Nat,bC (.lst []) (.lst [.int i])=some (nL [i]):=λi=>rK [] [i] (by simp);have ad:=ad (P.idxOf (.leaf e));rw[H];refine aE rfl ?_;unfold nW;generalize IW (enc P)=rd at *
  generalize aq (.leaf e)=rw at *
  generalize nL [P.idxOf (.leaf e)]=rr at *
  generalize P.idxOf (.leaf e)=ii at *
  simp[l,p,u,ad]
 | .node c n y,fuel,k,G=>by
  obtain⟨fuel,rfl⟩:∃ f,fuel=f+1:=⟨fuel-1,by omega⟩;obtain⟨o,m⟩:=cl _ _ _ k;have M:L5 (.node c n y)=max (L5 n) (L5 y)+1:=rfl;have C:=qS nd cl v S n fuel o (by omega);have I:=qS nd cl v S y fuel m (by omega);have l:Hq (IW (enc P)) (.int (P.idxOf (.node c n y))) S=some (aq (.ask c (P.idxOf n) (P.idxOf y))):=i_ S (z8 k);have p:=G6.r0 (.ask c (P.idxOf n) (P.idxOf y)) S;have u:=nA (.ask c (P.idxOf n) (P.idxOf y));have B:KP (aq (.ask c (P.idxOf n) (P.idxOf y))) (some 1) none=some (.tup [.int (P.idxOf n),.int (P.idxOf y)]):=rfl;have N:=zM nd cl o;have L:=zM nd cl m;have lf:=List.length_filter_le (λg=>decide (g∉lD P n)) (lD P y);rw[BA cl o m];generalize lD P n=ln at *
  generalize lD P y=j at *
  have h:=p9 (cM fuel) [] ln;have t:=p9 (cM fuel) ln j;rw[List.filter_eq_self.mpr (by simp)] at h;generalize j.filter (λg=>decide (g∉ln))=lz at *
  have a1:bC (.lst []) (nL ln)=some (nL ln):=rK [] ln (by simp;omega);have a2:bC (nL ln) (nL lz)=some (nL (ln++lz)):=rK _ _ (by omega);have r:∀ i:Nat,bC (nL (ln++lz)) (.lst [.int i])=some (nL (ln++lz++[i])):=λi=>rK _ [i] (by simp;omega);have r:=r (P.idxOf (.node c n y));have E:bR (nL ln)=some (ln.map λ(g:Nat)=>D.int g):=rfl;have J:bR (nL j)=some (j.map λ(g:Nat)=>D.int g):=rfl;refine aE rfl ?_;unfold nW;generalize IW (enc P)=rd at *
  generalize aq (.ask c (P.idxOf n) (P.idxOf y))=rw at *
  generalize P.idxOf (.node c n y)=ii at *
  generalize nL (ln++lz++[ii])=rr at *
  have x:fJ (cM fuel) [some rd,some (.int ii),some rw,some (.lst []),some (.int (P.idxOf n))] S=GW (.next [some rd,some (.int ii),some rw,some (nL ln),some (.int (P.idxOf n))]) S:=by unfold fJ;have h:=h (some rd) (some (.int ii)) (some rw) (some (.int (P.idxOf n))) S;have h:cz (aK 0) (fq (cM fuel)) (g0 (cM fuel)) (ln.map λ(g:Nat)=>D.int g) (cL 1 [3] [some rd,some (.int ii),some rw,some (.lst []),some (.int (P.idxOf n))]) S=_:=h;simp[C,E,h,a1]
  have K:fJ (cM fuel) [some rd,some (.int ii),some rw,some (nL ln),some (.int (P.idxOf y))] S=GW (.next [some rd,some (.int ii),some rw,some (nL (ln++lz)),some (.int (P.idxOf y))]) S:=by unfold fJ;have t:=t (some rd) (some (.int ii)) (some rw) (some (.int (P.idxOf y))) S;simp[I,J,t,a2]
  have F:∀ (d z:D) (a b c:Option D),aK 4 d [a,b,c,some z,none]=some [a,b,c,some z,some d]:=λ_ _ _ _ _=>rfl;have A:∀ (d z w:D) (a b c:Option D),aK 4 d [a,b,c,some z,some w]=some [a,b,c,some z,some d]:=λ_ _ _ _ _ _=>rfl;have q:bR (.tup [.int (P.idxOf n),.int (P.idxOf y)])=some [.int (P.idxOf n),.int (P.idxOf y)]:=rfl;generalize nL (ln++lz)=l3 at *
  generalize nL ln=l4 at *
  simp[l,p,u,B,tK,q,gw,F,A,x,K,r]
theorem A5:∀ (t:Tr),∃ X,po t []=X++[t]
 | .leaf a=>⟨[],by rw[dR (by simp)]⟩
 | .node c n y=>⟨po y (po n []),by rw[dQ (by simp)]⟩
theorem CW (t:Tr):(po t []).idxOf t=(po t []).length-1/\t∈po t []/\0<(po t []).length:=by obtain⟨X,e⟩:=A5 t;have nd:=iE t nodup_nil;rw[e] at nd ⊢;have a:t∉X:=λh=>(nodup_append.mp nd).2.2 t h t (by simp) rfl;rw[idxOf_append,if_neg a];simp
theorem gU {o:List Nat}(x:o.Nodup)(F:o.length<=10)(G:∀ c∈o,c<o.length){t:Tr}(J:Ord o t)(w:Wr o (enc (po t [])))(i:(po t []).length<=1500)(S:GO):bP [aU t,oD o] S=GW (.bl true) S:=by
 have nd:=iE t nodup_nil;have cl:=eW t rn;obtain⟨l,s,N⟩:=CW t;have L:=vy J;have b:=qS nd cl i S t 11 s (by omega);rw[l] at b;have p:lD (po t []) t=List.range (po t []).length:=Bu _ nd;rw[p] at b;have B:=yf nd cl;have z:(enc (po t [])).length=(po t []).length:=by unfold enc;rw[length_map]
 have hr:=λ(j:Nat) (r:Row) (e:(enc (po t []))[j]?=some r)=>tI x F G B w e S;have y:∀ j:Nat,j<(po t []).length->∃ r,(enc (po t []))[j]?=some r:=λj e=>⟨_,getElem?_eq_getElem (by omega)⟩;have ln:cF [aU t]=some (.int (po t []).length):=by simp[cF,z]
 have it:ik "tuple" (aU t)=some (.bl true):=rfl;have eq:=EK (List.range (po t []).length);have I:gz [.int (po t []).length]=some (nL (List.range (po t []).length)):=by simp only[gz];rw[if_pos (by omega)];simp
 have E:fT [.int (po t []).length]=some ((List.range (po t []).length).map λ(k:Nat)=>D.int k):=by simp only[fT];rw[if_pos (by omega)];simp
 generalize M:(po t []).length=k at *
 have v:((k-1:Nat):Int)=(k:Int)-1:=by omega
 rw[v] at b;generalize m:aU t=fd at *
 have g:IW (enc (po t []))=fd:=m
 obtain⟨n,f,C,rfl,a,rfl⟩:=cr (u:=aK 2) (body:=f9) (λ_ h f=>f=S/\∃ a,h=[some fd,some (oD o),a]) ((List.range k).map λ(k:Nat)=>D.int k) 0 [some fd,some (oD o),none] S ⟨rfl,none,rfl⟩ (by
  rintro j d h f e ⟨rfl,a,rfl⟩;obtain⟨rfl,K⟩:=gu e;obtain⟨r,H⟩:=y j K;have q:=hr j r H;refine⟨[some fd,some (oD o),some (.int j)],rfl,[some fd,some (oD o),some (.int j)],f,?_,rfl,_,rfl⟩;unfold f9;rw[g] at q
  simp[q])
 have A:¬ k=0:=by omega
 refine aE rfl ?_;unfold lP;generalize oD o=od at *
 rw[g] at b;simp[it,ln,A,E,C,jM,b,I,eq]
theorem KQ.mono {m k:Nat}{d:D}(h:KQ m k d):∀ j,k<=j->KQ m j d:=by
 induction h with
 |leaf b g a=>exact λj _ => .leaf b g a
 |ask e _ _ c f =>
  intro j l;obtain⟨j,rfl⟩:∃ i,j=i+1:=⟨j-1,by omega⟩;exact .ask e (c j (by omega)) (f j (by omega))
theorem Bv (ns:List Int)(b:Nat)(hb : 1<=b)(u:b<=10)(S:GO):∃ (m:Nat) (ss:List Str) (kvs:List (D×D)) (d:D) (o:List Nat),1<=m/\m<=b/\ss.length<=6/\(∀ x∈ss,cZ x=true)/\(ss.Pairwise λa b=>J5 a b=true)/\KQ m 5 d/\o.Perm (List.range m) /\
  kj [.lst (ns.map .int),.int b] S=GW (.tup [.int m,.tup (ss.map .str),d,oD o]) (S++[.dict kvs]):=by
 have n:∀ S,aV [.lst (ns.map .int),.int 0] S=GW (.int (mix ns 0)) S:=dY ns 0;have x1:∀ S,aV [.lst (ns.map .int),.int 1] S=GW (.int (mix ns 1)) S:=dY ns 1;have x2:∀ S,aV [.lst (ns.map .int),.int 2] S=GW (.int (mix ns 2)) S:=dY ns 2;have t:∀ S,aV [.lst (ns.map .int),.int 3] S=GW (.int (mix ns 3)) S:=dY ns 3;have j:∀ S,aV [.lst (ns.map .int),.int 4] S=GW (.int (mix ns 4)) S:=dY ns 4;have bm:=nF (mix ns 0) (show (0:Int)<b by omega);have l:cC (.int (mix ns 0)) (.int b)=some (.int (mix ns 0 % b)):=bF (by omega);obtain⟨m,q⟩:∃ m:Nat,1+mix ns 0 % b=m:=⟨(1+mix ns 0 % b).toNat,by omega⟩;obtain⟨ss,kvs,h,c,e,f⟩:=xb (mix ns 1) S;have r:cC (.int (mix ns 3)) (.int 5)=some (.int (mix ns 3 % 5)):=bF (by decide);have v:=nF (mix ns 3) (show (0:Int)<5 by decide);obtain⟨dp,i⟩:∃ dp:Nat,1+mix ns 3 % 5=dp:=⟨(1+mix ns 3 % 5).toNat,by omega⟩;obtain⟨d,k,p⟩:=vB ss c e f m (by omega) (by omega) (S++[.dict kvs]) 8 dp (mix ns 2) (by omega) (vi _ _);obtain⟨o,s,po⟩:=pA (mix ns 4) (m:=m) (by omega) (S++[.dict kvs]);have g:JA [.int m,.tup (ss.map .str),d,oD o] (.tup [.int m,.tup (ss.map .str),d,oD o])=some (.tup [.int m,.tup (ss.map .str),d,oD o]):=bY (by simp);refine⟨m,ss,kvs,d,o,by omega,by omega,c,e,f,p.mono 5 (by omega),po,aE rfl ?_⟩;unfold tR;simp[n,x1,x2,t,j,l,q,h,r,i,k,s,g,-map_map]
theorem mn (t:Tr) : 0<(enc (po t [])).length:=by unfold enc;rw[length_map];exact List.length_pos_of_mem (qO t [])
theorem FD (a b:List Str):Jn (.lst [Hl a,Hl b]) (.lst [Hl a,Hl b])=some (.bl false):=by simp[Jn,toPy,bX,dH,PyData.eqv,PyData.eqvAll,PyData.depth,PyData.depthAll,g6,j0]
section
variable (ρ:GP) (S:GO)
@[simp] theorem EU (gs:GH (List D)):vO gs ρ S=ah (gs ρ S) λds a=>if ds.length<=sizeLine then GW (.loc a.length) (a++[.lst ds]) else none:=rfl
@[simp] theorem FU (a b:GH D):BU a b ρ S=ah (a ρ S) λx c=>ah (b ρ c) λy S2=>aM (ve x y S2) S2:=rfl
end
theorem xF {a:List Str}(h:Rq a):a.Nodup:=(eV h.2).imp λ{x y} q e=>by subst e;rw[vm] at q;cases q
theorem Dz {a:List Str}(x:Str)(nd:a.Nodup):fI a [x]=if x∈a then [x] else []:=by
 unfold fI
 induction a with
 |nil=>simp
 |cons b a f =>
  obtain⟨n1,n2⟩:=nodup_cons.mp nd;rw[filter_cons,f n2];by_cases h:b=x
  ·subst h;rw[if_pos (by simp),if_neg n1,if_pos (by simp)]
  have d:¬ x=b:=λe=>h e.symm;rw[if_neg (by simpa using h)];by_cases c:x∈a
  ·rw[if_pos c,if_pos (mem_cons_of_mem _ c)]
  rw[if_neg c,if_neg (by simp[d,c])]
theorem Dn {m k:Nat}{d:D}(h:KQ m k d):∀ {b:Th}{ss:List Str},Kv b d ss->Rq ss:=by
 induction h with
 | @leaf k j e g _=>intro b ss a;rw[wD a];exact⟨e,g⟩
 | @ask k c x y _ _ _ f i =>
  intro b ss a;cases a with
  |no _ a=>exact f a
  |yes _ a=>exact i a
theorem DK (sc o B f:D){m:Nat}{ts:List Int}(G:oQ m ts){d:D}(i:KQ m 5 d)(A:D){t1 t2 b:D}{a W:List Str}{nm:Str}(j:Kv (tv ts) d a)(S:GO)
  (n:∀ S,jF [t1,IM ts] S=GW (Hl (fI a W)) S) (t:∀ S,jF [t2,IM ts] S=GW (Hl (fI a [nm])) S) (e:∀ S,jF [b,IM ts] S=GW (Hl a) S) (x y:Option D) :
  ∃ T Q M,kg [some sc,some (.int m),some o,some d,some A,some B,some (Hl W),some (.str nm),some f,some (.lst [t1,t2]),some b,some (IM ts),x,y] S=GW (.next [some sc,some (.int m),some o,some d,some A,some B,some (Hl W),some (.str nm),some f,some (.lst [t1,t2]),some b,some (IM ts),T,Q]) M:=by
 have g:=uu G S i (fuel:=15) j (by decide);have g:fP 15 [d,IM ts] S=GW (Hl a) S:=g;have N:cz (aK 0) qx rj (a.map .str) [none,some (Hl W)] S=some ((fI a W).map .str,S):=EJ (neg:=false) (gt:=qx) (fe:=rj) rfl rfl a W S none;have I:∀ p q r u v w z (k l:Option D),cL 1 [6] [p,q,r,u,v,w,some (Hl W),z,some f,some (.lst [t1,t2]),some b,some (IM ts),k,l]=[none,some (Hl W)]:=λ_ _ _ _ _ _ _ _ _=>rfl;have sa:bR (Hl a)=some (a.map .str):=rfl;have X:=r6 ((fI a W).map .str);have F:KY false (.str nm) (Hl a) S=some (.bl (decide (nm∈a))):=by have:=tL false nm a S;rwa [Bool.false_bne] at this
 have Y:intD [.bl (decide (nm∈a))]=some (.int (if decide (nm∈a)=true then 1 else 0)):=rfl;have z1:JA [.str nm] (.tup [.str nm])=some (.tup [.str nm]):=bY (by simp)
 have L:pF (.tup [.str nm]) (.int (if decide (nm∈a)=true then 1 else 0))=some (Hl (fI a [nm])):=by
  rw[Dz nm (xF (Dn i j))];by_cases h:nm∈a
  ·simp[h,pF,sS]
  simp[h,pF]
 generalize s:S++[MO.lst [Hl (fI a W),Hl (fI a [nm])]]=S2;have C:S2[S.length]?=some (.lst [Hl (fI a W),Hl (fI a [nm])]):=by rw[← s];simp
 have H:bR (.lst [t1,t2])=some [t1,t2]:=rfl
 have c:cz (aK 0) iO jb [t1,t2] [none,some (IM ts)] S2=some ([Hl (fI a W),Hl (fI a [nm])],S2):=by
  have O:∀ {α:Type}(v : α),Oh (GW v S2)=some (v,S2):=λ_=>rfl;have J:∀ (v:D) (w:Option D),aK 0 v [w,some (IM ts)]=some [some v,some (IM ts)]:=λ_ _=>rfl
  have V:jb [some t1,some (IM ts)] S2=GW (Hl (fI a W)) S2:=by
   have:=n S2;generalize IM ts=td at *
   generalize Hl (fI a W)=r at *
   unfold jb;simp -implicitDefEqProofs [this]
  have P:jb [some t2,some (IM ts)] S2=GW (Hl (fI a [nm])) S2:=by
   have:=t S2;generalize IM ts=td at *
   generalize Hl (fI a [nm])=r at *
   unfold jb;simp -implicitDefEqProofs [this]
  simp[cz,J,V,P,O]
 have E:∀ p q r u v w z x1 (k l:Option D),cL 1 [11] [p,q,r,u,v,w,some (Hl W),z,x1,some (.lst [t1,t2]),some b,some (IM ts),k,l]=[none,some (IM ts)]:=λ_ _ _ _ _ _ _ _ _ _=>rfl;have R:ve (.lst [Hl (fI a W),Hl (fI a [nm])]) (.loc S.length) S2=some (.bl false):=by unfold ve cE;simp only[C,bind_some];exact FD _ _
 have K:Jn (Hl a) (Hl a)=some (.bl false):=Bl a;have U : 2<=sizeLine:=by decide
 have e:=e S2;refine⟨some (Hl a),some (.loc S.length),S2,?_⟩;clear C n t j i;unfold Hl at *
 generalize D.tup ((fI a [nm]).map D.str)=u1 at *
 generalize D.tup ((fI a W).map D.str)=dw at *
 generalize (fI a W).map D.str=u2 at *
 generalize D.tup (a.map D.str)=da at *
 generalize a.map D.str=al at *
 generalize D.tup (W.map D.str)=wW at *
 generalize IM ts=th at *
 generalize hb:(if decide (nm∈a)=true then (1:Int) else 0)=bi at *
 generalize decide (nm∈a)=bb at *
 unfold kg;simp -implicitDefEqProofs [g,sa,I,N,X,z1,F,Y,L,U,s,H,E,c,R,e,K,KO]
theorem v9 {S E:GO}{x q:Str}(h:di x q S=true):di x q (S++E)=true:=by unfold di at h ⊢;rw[List.any_append,h];rfl
theorem AI (fd a:D)(nm:Str){r:D}{S:GO}(h:iQ [fd,Hl [nm],a] S=GW r S):oy [fd,.str nm,a] S=GW r S:=by have z1:JA [.str nm] (.tup [.str nm])=some (.tup [.str nm]):=bY (by simp);have h:iQ [fd,.tup [.str nm],a] S=GW r S:=h;refine aE rfl ?_;unfold zV;simp -implicitDefEqProofs [z1,h]
theorem Cn (sc p Ox:D){m:Nat}(h1 : 1<=m)(hm:m<=6){d:D}(r:KQ m 5 d){o o2:List Nat}(B:o.Perm (List.range m))(C:o2.Perm (List.range m)){t:Tr}(ot:Ord o t)(w:Wr o (enc (po t [])))(ev:∀ b,Ev (enc (po t [])) b ((enc (po t [])).length-1) (IV t b))(Q:∀ b ss,Kv b d ss->IV t b=ss)(ln:(po t []).length<=1023)(W:List Str)(nm:Str){S:GO}(U:di "only" jW S=true)(hn:dg S=true)(Y:GH Fl)
  (hk:Y=(aO (bv 9 (oq (ag (aS iQ (ag (af 5) (ag (af 6) (ag (af 4) aD)))) (ag (aS oy (ag (af 5) (ag (af 7) (ag (af 4) aD)))) aD))))
  (aO (bv 10 (aS d8 (ag (af 5) (ag (af 8) aD))))
  (aO (JB (ji (dF (aT (aS bP (ag (Hv (af 9) (aC (.int 0))) (ag (af 4) aD))))) (ji (dF (aT (aS bP (ag (Hv (af 9) (aC (.int 1))) (ag (af 4) aD))))) (dF (aT (aS bP (ag (af 10) (ag (af 8) aD))))))) (bd (aC (.bl false))) cg)
  (aO (io (bK (aS hV (ag (af 1) aD))) (aK 11) kg)
  (bd (uo (aJ HP (aS d8 (ag (af 10) (ag (af 4) aD))) (af 5)) (aJ HP (af 10) (aS fN (ag (af 3) (ag (af 8) aD)))))))))))  :
  ∃ z,Y [some sc,some (.int m),some p,some d,some (oD o),some (aU t),some (Hl W),some (.str nm),some (oD o2),none,none,none,none,none] S=GW (.ret (.bl true)) z:=by
 subst hk;have nd:o.Nodup:=B.nodup_iff.mpr nodup_range;have QE:o2.Nodup:=C.nodup_iff.mpr nodup_range;have Mz:o.length=m:=by rw[B.length_eq,length_range]
 have TH:o2.length=m:=by rw[C.length_eq,length_range]
 have k:∀ c∈o,c<m:=λc hc=>mem_range.mp (B.mem_iff.mp hc);have N:∀ c∈o2,c<m:=λc hc=>mem_range.mp (C.mem_iff.mp hc);have Lo:∀ c,c<m->c∈o2:=λc hc=>C.mem_iff.mpr (mem_range.mpr hc);have ho:∀ c,c<m->c∈o:=λc hc=>B.mem_iff.mpr (mem_range.mpr hc);have le:(enc (po t [])).length<=1023:=by unfold enc;rw[length_map];exact ln
 obtain⟨t1,O,o1,_,G,U9,Qz,b1⟩:=wp (by omega) w (mn t) (by omega) W U hn;obtain⟨t2,n,XB,_,M,U_,Z,b2⟩:=wp (by omega) w (mn t) (by omega) [nm] U hn;have n:=AI _ _ nm n;obtain⟨g,f,H,V,_,s,I,A,b3⟩:=o6 QE (by omega) w (λc hc=>Lo c (k c hc)) (mn t) le S;have O:iQ [aU t,Hl W,oD o] S=GW (aU t1) S:=O;have n:oy [aU t,.str nm,oD o] S=GW (aU t2) S:=n;have H:d8 [aU t,oD o2] S=GW (aU g) f:=H;have i1:=gU nd (by omega) (by rw[Mz];exact k) o1 G (by omega) f;have i2:=gU nd (by omega) (by rw[Mz];exact k) XB M (by omega) f;have i3:=gU QE (by omega) (by rw[TH];exact N) V s (by omega) f;have z3:JA [aU t1,aU t2] (.lst [aU t1,aU t2])=some (.lst [aU t1,aU t2]):=bY (by simp);have x0:Hq (.lst [aU t1,aU t2]) (.int 0) f=some (aU t1):=by unfold Hq;rw[if_neg (by simp[bw])];exact bq (i:=0) rfl
 have x1:Hq (.lst [aU t1,aU t2]) (.int 1) f=some (aU t2):=by unfold Hq;rw[if_neg (by simp[bw])];exact bq (i:=1) rfl
 obtain⟨E,et,Mo,_⟩:=xh h1 (by omega) f
 obtain⟨ρ',S6,el,x,y,e,rfl⟩:=cr (u:=aK 11) (body:=kg) (λi X z => ∃ x y e,X=[some sc,some (.int m),some p,some d,some (oD o),some (aU t),some (Hl W),some (.str nm),some (oD o2),some (.lst [aU t1,aU t2]),some (aU g),e,x,y])
  (JP E) 0 [some sc,some (.int m),some p,some d,some (oD o),some (aU t),some (Hl W),some (.str nm),some (oD o2),some (.lst [aU t1,aU t2]),some (aU g),none,none,none] f ⟨none,none,none,rfl⟩ (by
   rintro j dd X z hj ⟨x,y,e,rfl⟩;obtain⟨ts,ME,rfl⟩:=mem_map.mp (mem_of_getElem? hj);have v:=Mo ts ME;obtain⟨a,ka⟩:=r.total (tv ts);have K:=Q _ _ ka;have T:=U9 (tv ts);rw[Qz _ _ (ev _),K] at T;have e2:=U_ (tv ts);rw[Z _ _ (ev _),K] at e2;have e3:=I (tv ts);rw[A _ _ (ev _),K] at e3;obtain⟨x',y',So,q⟩:=DK sc p (aU t) (oD o2) v r (oD o) (W:=W) (nm:=nm) ka z (λS=>rJ v G k (by omega) T S) (λS=>rJ v M k (by omega) e2 S) (λS=>rJ v s N (by omega) e3 S) x y
   exact⟨_,rfl,_,So,q,x',y',_,rfl⟩)
 have XC:(enc (po g [])).length<=1023:=by unfold enc;rw[length_map];exact b3
 obtain⟨l,F,P,o4,_,_,_,Vb,_⟩:=o6 nd (by omega) s (λc hc=>ho c (N c hc)) (mn g) XC S6;obtain⟨h,S8,R,o5,_,_,_,Vc,_,_,_⟩:=pW QE (by omega) Lo (by decide) r F;have q4:l=t:=canon _ (le_refl _) o4 ot λb=>by rw[Vb _ _ (I b),A _ _ (ev b)]
 have q5:h=g:=canon _ (le_refl _) o5 V λb=>by obtain⟨ss,kv⟩:=r.total b;rw[Vc b ss kv,A _ _ (ev b),Q b ss kv]
 subst q4 q5;have P:d8 [aU h,oD o] S6=GW (aU l) F:=P;have R:fN [d,oD o2] F=GW (aU h) S8:=R;have J:HP (aU l) (aU l)=some (.bl true):=by rw[tV,decide_eq_true rfl]
 have L:HP (aU h) (aU h)=some (.bl true):=by rw[tV,decide_eq_true rfl]
 have si:bR (.lst (JP E))=some (JP E):=rfl;refine⟨S8,?_⟩;clear ev U9 U_ I Q Qz Z A Vb Vc Mo w G M s;generalize aU l=x4 at *
 generalize aU t1=y1 at *
 generalize aU t2=y2 at *
 generalize aU h=y5 at *
 generalize oD o=od at *
 generalize oD o2=od2 at *
 generalize JP E=tl at *
 generalize Hl W=wW at *
 simp -implicitDefEqProofs [O,n,H,z3,x0,x1,i1,i2,i3,et,si,el,P,R,J,L,KO]
theorem Dl (ns:List Int)(_:ns.length<=63):∃ j,Au [.lst (ns.map .int)] [.tab "only" jW]=some (.ok (.bl true),j):=by
 have v:di "only" jW [.tab "only" jW]=true:=by unfold di;simp
 have A:dg [.tab "only" jW]=true:=rfl;generalize ([.tab "only" jW]:GO)=f at *
 obtain⟨m,ss,a,d,o,u,E,O,P,Q,s,h,i⟩:=Bv ns 6 (by decide) (by decide) f;have i:kj [.lst (ns.map .int),.int 6] f=GW (.tup [.int m,Hl ss,d,oD o]) (f++[.dict a]):=i;have J:∀ S,aV [.lst (ns.map .int),.int 5] S=GW (.int (mix ns 5)) S:=dY ns 5;have H:∀ S,aV [.lst (ns.map .int),.int 6] S=GW (.int (mix ns 6)) S:=dY ns 6;have C:∀ S,aV [.lst (ns.map .int),.int 7] S=GW (.int (mix ns 7)) S:=dY ns 7;have nd:o.Nodup:=h.nodup_iff.mpr nodup_range;have R:o.length=m:=by rw[h.length_eq,length_range]
 have M:∀ c,c<m->c∈o:=λc hc=>h.mem_iff.mpr (mem_range.mpr hc);obtain⟨t,b,n,N,_,w,ev,p,ln,tk,K⟩:=pW nd (by omega) M (by decide) s (f++[.dict a]);have n:fN [d,oD o] (f++[.dict a])=GW (aU t) b:=n;have t1:di "only" jW b=true:=by have e:b=b.take (f++[MO.dict a]).length++b.drop (f++[MO.dict a]).length:=(take_append_drop _ _).symm;rw[tk] at e;rw[e];exact v9 (v9 v)
 have F:dg b=true:=K (vf A rfl);obtain⟨W,l,_⟩:=lJ (mix ns 5) (ss:=ss) (by omega) b;have l:gI [.int (mix ns 5),Hl ss] b=GW (Hl W) b:=l;obtain⟨o2,G,L⟩:=pA (mix ns 7) (m:=m) (by omega) b;have ad:bC (Hl ss) (.tup [.str "zzzzzzzz"])=some (Hl (ss++[("zzzzzzzz":Str)])):=by rw[qi,if_pos (Nat.le_trans (show _<=1000 by simp;omega) (by decide)),Hl,map_append];rfl
 have ld:cF [Hl ss]=some (.int ss.length):=by unfold cF;simp
 have a1:bC (.int ss.length) (.int 1)=some (.int ((ss.length:Int)+1)):=rfl;have r:cC (.int (mix ns 6)) (.int ((ss.length:Int)+1))=some (.int (mix ns 6 % ((ss.length:Int)+1))):=bF (by omega);have bm:=nF (mix ns 6) (show (0:Int)<(ss.length:Int)+1 by omega);obtain⟨k,z⟩:∃ k:Nat,mix ns 6 % ((ss.length:Int)+1)=k:=⟨(mix ns 6 % ((ss.length:Int)+1)).toNat,by omega⟩;rw[z] at r bm;have I:k<(ss++[("zzzzzzzz":Str)]).length:=by rw[List.length_append];simp;omega
 obtain⟨g,B⟩:∃ g,(ss++[("zzzzzzzz":Str)])[k]?=some g:=⟨_,getElem?_eq_getElem I⟩;have x:Hq (Hl (ss++[("zzzzzzzz":Str)])) (.int k) b=some (.str g):=by unfold Hq;rw[if_neg (by simp[bw])];exact bq (by rw[getElem?_map,B];rfl)
 have y:oG 4 (bJ (aK 1) (bJ (aK 2) (bJ (aK 3) (bJ (aK 4) jK)))) (.tup [.int m,Hl ss,d,oD o]) [some (.lst (ns.map .int)),none,none,none,none,none,none,none,none,none,none,none,none,none]=some [some (.lst (ns.map .int)),some (.int m),some (Hl ss),some d,some (oD o),none,none,none,none,none,none,none,none,none]:=rfl;obtain⟨j,q⟩:=Cn (.lst (ns.map .int)) (Hl ss) (oD o2) u E s h L N w ev p ln W g t1 F _ rfl;refine⟨j,aE rfl ?_⟩;unfold B_;generalize (aO (bv 9 _) _:GH Fl)=kk at q ⊢;clear ev p w;generalize aU t=y1 at *
 generalize Hl (ss++[("zzzzzzzz":Str)])=wz at *
 generalize Hl ss=wd at *
 generalize Hl W=wW at *
 generalize oD o=od at *
 generalize oD o2=od2 at *
 generalize (D.lst (ns.map .int))=sd at *
 generalize f++[MO.dict a]=S9 at *
 simp -implicitDefEqProofs [i,y,n,J,l,ad,H,ld,a1,r,x,C,G,q]
end G6
namespace G6
open PySem L2
theorem XE {K:GI}{c f:Str}{C:Addr}(n:NC K c C)(g:PySem.W.findIn K (.ref C) f=some none):l0 K c f:=⟨C,n.1,n.2,g⟩
theorem all_mk {l:PySem.W.OpenLaw}{w:World}{K:GI}{h:Heap}{mg:GL}{b:Addr}{c Q:Addr}(m:mg "law"=some (.ref b))(T:Top K mg)(g:PySem.W.tabIn K "only"=some (c,Q))(o:K.lookup Q=none) :
  (∃ c,PySem.W.codeHdIn K c Q=true)/\K.lookup Q=none/\∃ fd:FuncData,(∀ (s:Shared) (v:Value),BindsTo s fd ⟨[v],[]⟩ [("_law_script",v)])/\∀ base:Heap,K.In base->base.Ns mainGlobals mg->BmB base mg->IP l.prog w K mg base L0 38 b fd ["_law_script"] (qC K 63 "only" Q):=by
 obtain⟨f,fd,i,n,hb⟩:=T.QC;have e:=m.symm.trans n;cases e;have ok:∀ (base:Heap),BmB base mg->My l.prog w K mg base 38 b fd ["_law_script"] Au:=λbase d=>Dx ⟨T,d⟩ i;obtain⟨y,B,kV,doc,z,x,q,ct,p,rfl,t,u⟩:=i.ex;obtain⟨_,_,_,_,_,A,r,_,_,_,j,a⟩:=T.MP;rw[g] at j;cases j;exact⟨⟨_,a⟩,o,_,λs v => .of_eq rfl,λbase _ _ d=>By (ok base d) (by decide) g λns k=>Dl ns k⟩
end G6
open PySem PySem.W PyProof.Rows
namespace PySem.W.Fast
def tw5175853389045686387:=0
def tw5301805468252832868:=0
def tw17992185177118539926:=0
def tw10235431852779113890:=0
def tw1752525571838765020:=0
def tw1226779353047205762:=0
def tw6042214055297222073:=0
def tw9985900815159053681:=0
def tw18358165279216502535:=0
def tw18034557256910728161:=0
def tw17143367224217681466:=0
def tw10499095528539245750:=0
def tw12229915111220492418:=0
def tw16401274449375647476:=0
def tw5694772484168304216:=0
def tw10905567204964825178:=0
def tw7981859087365704123:=0
def tw421429657298644659:=0
def tw13304988077296633923:=0
def tw12141662509517297733:=0
def tw285329638597893219:=0
def tw3854167270251284583:=0
def tw9733136743215868879:=0
def tw8444695908111362496:=0
def tw6343300080984425506:=0
def tw828904637725445203:=0
def tw13384073892755347201:=0
def tw2694663596236447799:=0
def tw760108204948481608:=0
def tw10340245358999900513:=0
def tw15819154357124532411:=0
def tw6143047596660078119:=0
def tw12593865820351184595:=0
def tw15032407143554427607:=0
def tw2997644660488386358:=0
def tw11474210531932235347:=0
def tw17222178421457499147:=0
def tw6957466484278137982:=0
def tw8779861022921051266:=0
def tw12122427240151248051:=0
def tw8969018624586010988:=0
def tw1081404809064867935:=0
def tw458370980951227370:=0
def tw8311803868510000232:=0
def tw15362219151135304144:=0
def tw8177129075765690006:=0
def tw4915142681901339712:=0
def tw9691694462934413049:=0
def tw3096244474654063944:=0
def tw16307473066887128480:=0
def tw7153734502666356257:=0
def tw2001198039824087815:=0
def tw10770765931422848848:=0
def tw4255241340196425055:=0
def tw8673067356130124650:=0
def tw4647439189243442522:=0
def tw16867879449113489547:=0
def tw6756173956713581739:=0
def tw16918914168029285252:=0
def tw12341142793216906760:=0
def tw6020121655255762267:=0
def tw5513895390483848512:=0
def tw10367365320252856389:=0
def tw1218167098328300503:=0
def tw16681658001201624234:=0
def tw15753013849306397877:=0
def tw5097739061621775446:=0
def tw4091032456451341054:=0
def tw6538089656984232800:=0
def tw17096083097130183098:=0
def tw2656549854857403634:=0
def tw16282722788045265371:=0
def tw6213206637123991688:=0
def tw8212858986890153391:=0
def tw5924881956446883653:=0
def tw2300887789905672608:=0
def tw17291416046005792316:=0
def tw4666101919237401115:=0
def tw6613741367434431847:=0
def tw13693033257796066294:=0
def tw8184238001048199331:=0
def tw2322198952012395496:=0
def tw5109085502109540477:=0
def tw8292727859021033052:=0
def tw13115563857917187062:=0
def tw7895294516163249793:=0
def tw14780852937843244854:=0
def tw15853645246492079747:=0
def tw9873583483905831940:=0
def tw14229322464056871133:=0
def tw4024737816194280246:=0
def tw15151347973443130019:=0
def tw10528121984275594245:=0
def tw5009915611044724898:=0
def tw13582854141613898493:=0
def tw17138638440108907838:=0
def tw9902704650831819692:=0
def tw17734373786152925297:=0
def tw12978439396670544131:=0
def tw4594799098921155511:=0
def tw5567890887025125187:=0
def tw7306777901267126655:=0
def tw5412155290083572137:=0
def tw7532326818944362326:=0
def tw12638960042927932069:=0
def tw6701490715993777597:=0
def tw708251662875120775:=0
def tw8474373064581982164:=0
def tw14749401538613865814:=0
def tw15737398007388944043:=0
def tw3368174749212594637:=0
def tw17703674850634195874:=0
def tw4784136537492741585:=0
def tw1387492188545716631:=0
def tw3474229654571721153:=0
def tw11406273551853986067:=0
def tw6292519891163533767:=0
def tw9452442702431258465:=0
def tw5974766343341300618:=0
def tw12977028895869712943:=0
def tw5924890529038797421:=0
def tw1536041713840483554:=0
def tw11188530209242202354:=0
def tw7736764922549338841:=0
def tw2508282994077149249:=0
def tw14120456119169474495:=0
def tw7288396262551132189:=0
def tw3663861290515920294:=0
def tw15378741779975158519:=0
def tw7390935160583769135:=0
def tw18127481295484110801:=0
def tw17284425559768642022:=0
def tw1102686429470801895:=0
def tw11938880350578820828:=0
def tw17131393777378925178:=0
def tw18241062727173616333:=0
def tw4211192257897483530:=0
def tw6106082962764875445:=0
def tw15430353691717889653:=0
def tw2298946221061982253:=0
def tw1455036876492179361:=0
def tw10469661046618362001:=0
def tw3909580953517068573:=0
def tw6193118557686001062:=0
def tw9657607392770759676:=0
def tw11603501788487098486:=0
def tw5377183974818521423:=0
def tw16387782430015090642:=0
def tw5297669731749606153:=0
def tw11590810319997465507:=0
def tw6893610817712996504:=0
def tw15346946605734628187:=0
def tw826467983503039480:=0
def tw15414828452164073255:=0
def tw11652603735251304253:=0
def tw780935170501565291:=0
def tw14130750873750504075:=0
def tw12172678968022798691:=0
def tw5371218619451503778:=0
def tw13619123044734945064:=0
def tw3417401089768211861:=0
def tw2104993912302395558:=0
def tw4494154327818141506:=0
def tw14858863443689966858:=0
def tw16234793780796778178:=0
def tw7924604693484361363:=0
def tw9260803201253778408:=0
end PySem.W.Fast
set_option maxRecDepth 100000 in
set_option maxHeartbeats 0 in
theorem PySem.Challenge.cw_keyfold_k24_names_and_orders_holds : PySem.Challenge.rw_keyfold_k24_names_and_orders.Holds := by
 w_on;o_law;k_head;(case hw=>w_witness2)
 k_fill
 refine L2.L_ (z:="only") (l:=PySem.Challenge.rw_keyfold_k24_names_and_orders) (k:=38) (x:="_law_script") rfl rfl ⟨rfl,by decide,by decide,rfl⟩ (λw h Y=>PySem.W.km_in_of Y) (λw h Y=>PySem.W.km_tabs_of Y _ (List.Mem.head _)) ?F
 case F =>
  intro w mg fa h KX G RS;refine' G6.all_mk (h:=h) RS ?T (L2.MI ?t1 ?t2 ?t3 ?t4 ?t5) ?t6
  (case t1=>k_is)
  (case t2=>k_is)
  (case t3=>rfl)
  (case t4=>k_is)
  (case t5=>rfl)
  (case t6=>kernel_rfl)
  constructor
  all_goals first
   |exact PySem.W.mg_none_of KX G (by k_is)
   |(refine' L2.Wg KX G ?a (L2.fE ?l ?c ?k) ?b;(case a=>k_is);(case l=>k_is);(case c=>k_is);(case k=>k_is);(case b=>first |exact L2.Sr λ_ _ _ _ _ _ _=>rfl |exact L2.Ss λ_ _ _ _ _ _ _ _=>rfl |exact L2.Su λ_ _ _ _ _ _ _ _ _=>rfl |exact L2.Sv λ_ _ _ _ _ _ _ _ _ _=>rfl))
   |(refine' L2.Wh ⟨?n,⟨?k0,?k1,?k2,?k3⟩⟩ ?a ?i (L2.fE ?l ?c ?k) ?b;(case n=>k_is);(case k0=>k_is);(case k1=>k_is);(case k2=>k_is);(case k3=>k_is);(case a=>k_is);(case i=>k_is);(case l=>k_is);(case c=>k_is);(case k=>k_is);(case b=>first |exact L2.Sr λ_ _ _ _ _ _ _=>rfl |exact L2.Ss λ_ _ _ _ _ _ _ _=>rfl |exact L2.Su λ_ _ _ _ _ _ _ _ _=>rfl |exact L2.Sv λ_ _ _ _ _ _ _ _ _ _=>rfl))
   |(refine' L2.Wi KX G ⟨?n,⟨?k0,?k1,?k2,?k3⟩⟩ ?k4 ?k5 ?a ?i (L2.fE ?l ?c ?k) ?b;(case n=>k_is);(case k0=>k_is);(case k1=>k_is);(case k2=>k_is);(case k3=>k_is);(case k4=>k_is);(case k5=>k_is);(case a=>k_is);(case i=>k_is);(case l=>k_is);(case c=>k_is);(case k=>k_is);(case b=>first |exact L2.Sr λ_ _ _ _ _ _ _=>rfl |exact L2.Ss λ_ _ _ _ _ _ _ _=>rfl |exact L2.Su λ_ _ _ _ _ _ _ _ _=>rfl |exact L2.Sv λ_ _ _ _ _ _ _ _ _ _=>rfl))
   |(refine' G6.XE ⟨?n,⟨?k0,?k1,?k2,?k3⟩⟩ ?g;(case n=>k_is);(case k0=>k_is);(case k1=>k_is);(case k2=>k_is);(case k3=>k_is);(case g=>k_is))
   |(refine' L2.tabAt KX G ?n ?l ?e ?l2 ?e2 ?hd;(case n=>k_is);(case l=>k_is);(case e=>rfl);(case l2=>k_is);(case e2=>rfl);(case hd=>kernel_rfl))
