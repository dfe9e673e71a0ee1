import PyProof.Rows.All
import Wide.All
import OpenK.AllK
import Wide.FinOn
import Lean
import PyProof.EqAt
import PyProof.EqKinds
import PyProof.TupleCall
import PyProof.SetRoads
import PyProof.SetNew
import PyProof.CollectIter
import PyProof.DictWalks
import PyProof.Walks
import PyProof.RulesTry
import PyProof.FactsAll.set
import PyProof.WalksMore
import PyProof.FactsAll.subtypes
import PyProof.ExcAttrAll.ValueError
import PyProof.Rows.StrJoin2
import PyProof.Rows.FStr
import PyProof.ExcBaseAll.ValueError
import PyProof.StrCalls2
import PyProof.StrBlockH
import PyProof.MeetsStr2
import PyProof.Rows.SeqMore2
import KE.KDictList
import PyProof.ZipIter
import PyProof.Draws
import PyProof.DictTruth
import PyProof.Rows.SortShellK
import PyProof.Rows.SortWalk
import PySem.Challenge.RW_keyfold_k22_known_and_forgotten
open List(all_cons all_eq_true any_cons any_map append_nil cons_append drop_eq_nil_of_le drop_zero ext_getElem? filter_map filter_sublist find?_cons flatten_cons foldl_cons forIn_cons forIn_nil getElem?_append_left getElem?_append_right getElem?_cons_succ getElem?_drop getElem?_map getElem?_of_mem getElem?_replicate getElem?_set_ne getElem?_set_self getElem?_take getElem_idxOf getElem_mem getElem_of_mem idxOf_append idxOf_cons idxOf_lt_length_iff length_cons length_drop length_eq_zero_iff length_map length_nil length_range length_replicate length_set length_singleton length_take lookup_cons mapM_cons map_append map_congr_left map_cons map_drop map_id map_map map_nil map_take mem_append mem_append_left mem_append_right mem_cons mem_cons_of_mem mem_cons_self mem_filter mem_map mem_of_getElem? mem_of_mem_drop mem_of_mem_take mem_range mem_singleton mergeSort_perm nil_append nodup_append nodup_cons nodup_nil not_mem_nil of_mem_zip pairwise_append pairwise_cons pairwise_iff_getElem pairwise_map pairwise_mergeSort prefix_refl range' range'_succ replicate replicate_succ size_toArray take_append_drop take_of_length_le zipIdx_cons)
open Nat(add_assoc le_min le_refl le_succ lt_min lt_of_lt_of_le lt_or_ge lt_succ_of_lt lt_succ_self lt_trichotomy min_le_right mul_comm ne_of_gt ne_of_lt one_le_two_pow pow_succ zero_add zero_le)
open Option(bind_eq_some_iff bind_some getD_none getD_some isSome_map map_eq_some_iff map_some pure_def)
open Bool(and_eq_true false_eq_true or_eq_false_iff or_eq_true)
open Array(getElem?_toList getElem_mem_toList getElem_toList length_toList perm_iff_toList_perm toList_append toList_extract toList_push)
local macro_rules|`(tactic|decide)=>`(tactic|decide +kernel)
set_option Elab.async false
set_option linter.all false
set_option maxRecDepth 100000
set_option maxHeartbeats 4000000
noncomputable section
abbrev JK:=PySem.W.Frag
abbrev JL:=PySem.Value->PySem.Shared->Prop
abbrev JM:=List (PySem.Addr×PySem.Obj)
abbrev JN:=PySem.Str->Option PySem.Value
namespace L2
open PySem PySem.Spec PyProof.Rows
noncomputable instance Xp:DecidableEq PyData:=λa b=>Classical.propDecidable (a=b)
def keyOk:Nat->PyData->Bool
 |_,.int _=>true
 |_,.str x=>PyData.strOk x
 |n+1,.tuple xs=>xs.all (keyOk n)
 |_,_=>false
def QX (w:World):Nat->PyData->Int
 |_,.int i=>hashInt i
 |_,.str x=>hashStr w x
 |n+1,.tuple xs=>reduceHash (Builtin.Tuple.tupleHashOf (xs.map (QX w n)))
 |_,_ => 0
def zN:Nat->PyData->Nat
 |n+1,.tuple xs=>(xs.map (zN n)).sum+1
 |_,_ => 1
theorem cI {n:Nat}{a:List PyData}(h:keyOk (n+1) (.tuple a)=true):∀ x∈a,keyOk n x=true:=by rw[keyOk,all_eq_true] at h;exact h
theorem mH:∀ {n:Nat}{p:PyData},keyOk n p=true->p.canLay0=true:=by
 intro n
 induction n with
 |zero =>
  intro p h;cases p with
  |int i=>rfl
  |str x=>rw[PyData.canLay0];simpa [keyOk] using h
  |_=>simp[keyOk] at h
 |succ n d =>
  intro p h;cases p with
  |int i=>rfl
  |str x=>rw[PyData.canLay0];simpa [keyOk] using h
  |tuple a =>
   rw[PyData.canLay0];have:=cI h;clear h
   induction a with
   |nil=>rfl
   |cons x a c=>rw[PyData.canLayAll0,d (this x (by simp)),c λy b=>this y (by simp[b])];rfl
  |_=>simp[keyOk] at h
theorem vM:∀ {n:Nat}{p:PyData},keyOk n p=true->p.depth<=n:=by
 intro n
 induction n with
 |zero =>
  intro p h;cases p<;>first |(simp[keyOk] at h;done) |simp[PyData.depth]
 |succ n d =>
  intro p h;cases p with
  |tuple a =>
   rw[PyData.depth];have:=cI h;clear h;refine Nat.succ_le_succ ?_
   induction a with
   |nil=>rw[PyData.depthAll];omega
   |cons x a c=>rw[PyData.depthAll];exact Nat.max_le.mpr ⟨d (this x (by simp)),c λy b=>this y (by simp[b])⟩
  |int i=>simp[PyData.depth]
  |str i=>simp[PyData.depth]
  |_=>simp[keyOk] at h
theorem rg:∀ {n:Nat}{p q:PyData},keyOk n p=true->keyOk n q=true->PyData.eqv p q=decide (p=q):=by
 have str:∀ x y:Str,PyData.eqv (.str x) (.str y)=decide (PyData.str x = .str y):=λx y=>by
  rw[PyData.eqv];by_cases e:x=y
  ·subst e;simp
  rw[beq_eq_false_iff_ne.mpr e,decide_eq_false (λz=>e (PyData.str.inj z))]
 have int:∀ x y:Int,PyData.eqv (.int x) (.int y)=decide (PyData.int x = .int y):=λx y=>by
  rw[PyData.eqv];by_cases e:x=y
  ·subst e;simp
  rw[beq_eq_false_iff_ne.mpr e,decide_eq_false (λz=>e (PyData.int.inj z))]
 have c:∀ p q:PyData,p≠q->false=decide (p=q):=λp q h=>(decide_eq_false h).symm;intro n
 induction n with
 |zero =>
  intro p q f b;cases p<;>first |(simp[keyOk] at f;done) |skip<;>cases q<;>first |(simp[keyOk] at b;done) |exact int _ _ |exact str _ _ |exact c _ _ (λz=>nomatch z)
 |succ n r =>
  intro p q f b;cases p with
  |tuple d =>
   cases q with
   |tuple a =>
    rw[PyData.eqv];have m:=cI f;have l:=cI b;clear f b
    have k:PyData.eqvAll d a=decide (d=a):=by
     induction d generalizing a with
     |nil=>cases a<;>simp[PyData.eqvAll]
     |cons x d o =>
      cases a with
      |nil=>simp[PyData.eqvAll]
      |cons y a =>
       rw[PyData.eqvAll,r (m x (by simp)) (l y (by simp)),o a (λz g=>m z (by simp[g])) (λz g=>l z (by simp[g]))];by_cases e:x=y
       ·subst e;simp
       simp[e]
    rw[k];by_cases e:d=a
    ·subst e;simp
    rw[decide_eq_false e,decide_eq_false (λz=>e (PyData.tuple.inj z))]
   |int i=>rw[PyData.eqv];exact c _ _ (λz=>nomatch z)
   |str i=>rw[PyData.eqv];exact c _ _ (λz=>nomatch z)
   |_=>simp[keyOk] at b
  |int i =>
   cases q with
   |int j=>exact int _ _
   |str j=>rw[PyData.eqv];exact c _ _ (λz=>nomatch z)
   |tuple j=>rw[PyData.eqv];exact c _ _ (λz=>nomatch z)
   |_=>simp[keyOk] at b
  |str i =>
   cases q with
   |int j=>rw[PyData.eqv];exact c _ _ (λz=>nomatch z)
   |str j=>exact str _ _
   |tuple j=>rw[PyData.eqv];exact c _ _ (λz=>nomatch z)
   |_=>simp[keyOk] at b
  |_=>simp[keyOk] at f
theorem vc {h h':Heap}{d:Addr}{o:Obj}{es ep}(u:h.get? d=some o)(hd:o.data = .dict es ep)(A:Heap.SameBut d h h'):∀ {n:Nat}{p:PyData}{v:Value}{as:List Addr},keyOk n p=true->Reads h v p as->Reads h' v p as:=by
 intro n
 induction n with
 |zero =>
  intro p v as b r;cases r with
  |int i t=>exact .int i t
  |str x t=>exact .str x t
  |_=>simp[keyOk] at b
 |succ n z =>
  intro p v as b r;cases r with
  |int i t=>exact .int i t
  |str x t=>exact .str x t
  | @tuple a D B m g as c j e f =>
   have s:a≠d:=by rintro rfl;rw[u] at c;cases c;rw[hd] at e;exact nomatch e
   refine .tuple ((A.2 a s).trans c) j e ?_;have it:=cI b;clear b c j e;generalize B.toList=l at f
   induction g generalizing l as with
   |nil=>cases f;exact .nil
   |cons x g w =>
    cases f with
    |cons C k=>exact .cons (z (it x (by simp)) C) (w (λy q=>it y (by simp[q])) _ k)
  |_=>simp[keyOk] at b
section
variable {prog:Program}{w:World}{A:Around}{E:JL}{s:Shared}
theorem xM:∀ {n:Nat}{p:PyData}{A:Around}{s:Shared}{v:Value}{as:List Addr}{Q:Int->Shared->Prop},keyOk n p=true->A.units+n<cLine->Reads s.heap v p as->Q (QX w n p) { s with toks:=s.toks+zN n p } ->
  wpAny (model prog w) A (pyHash v) Q E s:=by
 intro n
 induction n with
 |zero =>
  intro p A s v as Q c G r h;cases r with
  |int i t=>exact wpAny_pyHash_int h
  |str x t=>exact wpAny_pyHash_str h
  |_=>simp[keyOk] at c
 |succ n H =>
  intro p A s v as Q c G r h;cases r with
  |int i t=>exact wpAny_pyHash_int h
  |str x t=>exact wpAny_pyHash_str h
  | @tuple a o items m l as q D hd B =>
   have d:s.TypeIs (.ref a) "tuple":=⟨o,q,D⟩;have it:=cI c;unfold pyHash
   first |unfold pyHashByItsType |skip
   first |refine wpAny_bind (wpAny_cRoomFor_or (.inr (by omega)) ?_) |skip
   refine wpAny_bind (wpAny_specialOf d F.slot_tuple_hash.lookup ?_);show wpAny _ _ (if (some (Value.builtin "tuple.__hash__")==some Value.none)=true then _ else _) Q E s;rw[if_neg (by rw[beq_builtin_none];exact Bool.false_ne_true)];refine wpAny_bind (wpAny_specialOf d F.slot_tuple_hash.lookup ?_);show wpAny _ _ (callSpecialIfBoundUnlessNone? (.ref a) "__hash__" _ >>= _) Q E s;refine wpAny_bind (wpAny_callSpecialIfBoundUnlessNone?_slot d F.slot_tuple_hash (wpAny_call_entry F.slot_tuple_hash d F.entry_tuple_hash ?_ (F.args_tuple_hash_1 _)));show wpAny _ _ (Builtin.Tuple.tupleItemsOf (.ref a) >>= _) _ _ s;refine wpAny_bind (wpAny_tupleItemsOf q hd ?_);refine wpAny_bind ?_;rw[← Array.forIn_toList]
   refine wpAny_forIn_list _
    (λrest (b:Array Int) g => ∃ done left bs,l=done++left/\ReadsAll s.heap rest left bs/\b.toList=done.map (QX w n)/\g={ s with toks:=s.toks+(done.map (zN n)).sum })
    _ ?_ ?_ _ _ ⟨[],l,as,rfl,B,rfl,rfl⟩
   ·rintro x rest b g ⟨done,left,bs,rfl,j,e,rfl⟩;cases j with
    | @cons _ _ k z I y C u =>
     refine wpAny_bind (H (A:=A.in1) (it k (by simp)) (by show A.units+1+n<cLine;omega) (s:={ s with toks:=s.toks+(done.map (zN n)).sum }) C ?_)
     first
      |exact wpAny_pure ⟨done++[k],z,y,by simp,u,by simp[e],by simp[add_assoc]⟩
      |exact wpAny_bind (wpAny_pure (wpAny_pure ⟨done++[k],z,y,by simp,u,by simp[e],by simp[add_assoc]⟩))
   rintro b g ⟨done,left,bs,rfl,j,e,rfl⟩;cases j;rw[append_nil] at h;show wpAny _ _ (retInt (Builtin.Tuple.tupleHashOf b.toList)) _ _ _;rw[e];refine wpAny_ret_mkInt ?_;show wpAny _ _ (if (decide (-(2:Int) ^ 63<=Builtin.Tuple.tupleHashOf (done.map (QX w n)))&&decide (Builtin.Tuple.tupleHashOf (done.map (QX w n))<2 ^ 63))=true then _ else _) Q E _;rw[QX,zN] at h;unfold reduceHash at h;by_cases f:(decide (-(2:Int) ^ 63<=Builtin.Tuple.tupleHashOf (done.map (QX w n)))&&decide (Builtin.Tuple.tupleHashOf (done.map (QX w n))<2 ^ 63))=true
   ·rw[if_pos f];rw[if_pos f] at h;exact wpAny_pure (by simpa [add_assoc] using h)
   rw[if_neg f];rw[if_neg f] at h;exact wpAny_bind (wpAny_rule (wpAny_pure (by simpa [add_assoc] using h)))
  |_=>simp[keyOk] at c
theorem vd:∀ {n:Nat}{p:PyData}{s:Shared}{v:Value}{as:List Addr}{Q:Bool->Shared->Prop},keyOk n p=true->Reads s.heap v p as->Q true s->wpAny (model prog w) A (eqIsQuiet n v) Q E s:=by
 intro n
 induction n with
 |zero =>
  intro p s v as Q b r h;cases r with
  |int i t=>unfold eqIsQuiet;exact wpAny_pure h
  |str x t=>unfold eqIsQuiet;exact wpAny_pure h
  |_=>simp[keyOk] at b
 |succ n D =>
  intro p s v as Q b r h;cases r with
  |int i t=>unfold eqIsQuiet;exact wpAny_pure h
  |str x t=>unfold eqIsQuiet;exact wpAny_pure h
  | @tuple a o items m j as f B hd q =>
   have g:s.TypeIs (.ref a) "tuple":=⟨o,f,B⟩;have it:=cI b;unfold eqIsQuiet;refine wpAny_bind (wpAny_specialOf g F.slot_tuple_eq.lookup ?_);show wpAny _ _ (isInstance (.ref a) (.type "tuple") >>= _) _ _ s;refine wpAny_bind (wpAny_isInstance g isSubtype_tuple_tuple ?_);simp only[Bool.not_true,false_eq_true,if_false];refine wpAny_bind (wpAny_seqItems f hd ?_);refine wpAny_bind ?_;show wpAny _ _ (forIn items _ _) _ _ s;rw[← Array.forIn_toList];refine wpAny_forIn_list _ (λrest r c=>r.1=none/\c=s/\∃ left bs,ReadsAll s.heap rest left bs/\∀ x∈left,keyOk n x=true) _ ?_ ?_ _ _ ⟨rfl,rfl,j,as,q,it⟩
   ·rintro v rest r c ⟨d,rfl,left,bs,H,e⟩;cases H with
    | @cons _ _ k G J C u z =>
     refine wpAny_bind (D (e k (by simp)) u ?_);simp only[Bool.not_true,false_eq_true,if_false];exact wpAny_pure ⟨rfl,rfl,G,C,z,λy l=>e y (by simp[l])⟩
   rintro⟨K,I⟩ c ⟨d,rfl,_⟩;simp only at d;subst d;exact wpAny_pure h
  |_=>simp[keyOk] at b
end
noncomputable def lP (prog:Program) (w:World):HeapKind prog w PyData where
 is:=λh p a=>keyOk 8 p=true/\∃ e,Reads h (.ref a) p e
 hash:=QX w 8
 draws:=zN 8
 room:=λA=>A.units+8<cLine
 inj:=λ⟨c,e,d⟩ ⟨_,bs,f⟩=>SeqAt.Reads.unique _ _ _ _ _ (mH c) d f
 keeps:=λ⟨c,e,d⟩ j hd k=>⟨c,e,vc j hd k c d⟩
 pyHash:=λi ⟨c,e,d⟩ h=>xM c i d h
 eqBool:=λ{A E s x y a b Q} i ⟨c,e,d⟩ ⟨g,bs,f⟩ h=>SeqAt.eqBoolOverData prog w A E s _ _ _ _ _ _ Q d f (mH c) (mH g) (by have:=vM c;omega) (by rw[rg c g];exact h)
 quiet:=λ⟨c,e,d⟩ h=>vd c d h
abbrev Key:=Sum Int Str
def rh:Key->Value->Bool
 | .inl k,v=>Value.isInt k v
 | .inr x,v=>Value.isStrOf x v
def Iw (w:World):Key->Int
 | .inl k=>hashInt k
 | .inr x=>hashStr w x
theorem bz:∀ {k:Key}{v:Value},rh k v=true->(∃ i t,k=Sum.inl i/\v=Value.int i t)∨(∃ x t,k=Sum.inr x/\v=Value.str x t)
 | .inl i,v,h=>by
  obtain⟨t,e⟩:=Value.isInt_shape (k:=i) (v:=v) h;exact .inl ⟨i,t,rfl,e⟩
 | .inr x,v,h=>by
  obtain⟨t,e⟩:=Value.isStrOf_shape (x:=x) (v:=v) h;exact .inr ⟨x,t,rfl,e⟩
theorem Am (i:Int)(t:Tok):rh (.inl i) (.int i t)=true:=by simp[rh,Value.isInt]
theorem Al (x:Str)(t:Tok):rh (.inr x) (.str x t)=true:=by simp[rh,Value.isStrOf]
theorem Gh (a b:Int):decide ((Sum.inl a:Key)=Sum.inl b)=(a==b):=by
 by_cases e:a=b
 ·subst e;simp
 have h:¬ (Sum.inl a:Key)=Sum.inl b:=λq=>e (Sum.inl.inj q);rw[decide_eq_false h];exact(beq_eq_false_iff_ne.mpr e).symm
theorem Ge (a b:Str):decide ((Sum.inr a:Key)=Sum.inr b)=decide (a=b):=by
 by_cases e:a=b
 ·subst e;simp
 have h:¬ (Sum.inr a:Key)=Sum.inr b:=λq=>e (Sum.inr.inj q);rw[decide_eq_false h,decide_eq_false e]
theorem Gg (a:Int)(b:Str):decide ((Sum.inl a:Key)=Sum.inr b)=false:=decide_eq_false (λq=>nomatch q)
theorem Gf (a:Str)(b:Int):decide ((Sum.inr a:Key)=Sum.inl b)=false:=decide_eq_false (λq=>nomatch q)
def bD (prog:Program)(w:World):PySem.KeyKind prog w Key where
 is:=rh
 hash:=Iw w
 inj:=λv a b g f=>by
  rcases bz g with ⟨i,t,rfl,rfl⟩ |⟨x,t,rfl,rfl⟩
  ·rcases bz f with ⟨j,u,rfl,e⟩ |⟨y,u,rfl,e⟩
   ·injection e with c _;rw[c]
   exact nomatch e
  rcases bz f with ⟨j,u,rfl,e⟩ |⟨y,u,rfl,e⟩
  ·exact nomatch e
  injection e with c _;rw[c]
 byValue:=λk v h=>by
  rcases bz h with ⟨i,t,rfl,rfl⟩ |⟨x,t,rfl,rfl⟩<;>rfl
 pyHash:=λd h=>by
  rcases bz d with ⟨i,t,rfl,rfl⟩ |⟨x,t,rfl,rfl⟩
  ·exact wpAny_pyHash_int h
  exact wpAny_pyHash_str h
 eqBool:=λl d h=>by
  rcases bz l with ⟨i,t,rfl,rfl⟩ |⟨x,t,rfl,rfl⟩
  ·rcases bz d with ⟨j,u,rfl,rfl⟩ |⟨y,u,rfl,rfl⟩
   ·rw[Gh] at h;exact wpAny_eqBool_int h
   rw[Gg] at h;exact SeqAt.EqAt.int_str i t y u _ _ _ _ h
  rcases bz d with ⟨j,u,rfl,rfl⟩ |⟨y,u,rfl,rfl⟩
  ·rw[Gf] at h;exact SeqAt.EqAt.str_int x t j u _ _ _ _ h
  rw[Ge] at h;exact wpAny_eqBool_str h
 «strs»:=λk x t v h=>by
  rcases bz h with ⟨i,u,rfl,e⟩ |⟨y,u,rfl,e⟩
  ·exact nomatch e
  injection e with c _
  subst c;cases v<;>rfl
theorem vD (prog:Program)(w:World)(i:Int)(t:Tok):(bD prog w).is (.inl i) (.int i t)=true:=Am i t
theorem vC (prog:Program)(w:World)(x:Str)(t:Tok):(bD prog w).is (.inr x) (.str x t)=true:=Al x t
inductive V where
 |Kk |bl (b:Bool) |int (i:Int) |str (x:Str) |Va (b:Array UInt8) |Tg (b:UInt64) |ref (a:Addr) |ty (n:String)
 deriving DecidableEq
def RelV:V->Value->Prop
 | .Kk,u=>u=Value.none
 | .bl b,u=>u=Value.bool b
 | .int i,u => ∃ t,u=Value.int i t
 | .str x,u => ∃ t,u=Value.str x t
 | .Va b,u => ∃ t,u=Value.bytes b t
 | .Tg b,u => ∃ t,u=Value.float b t
 | .ref a,u=>u=Value.ref a
 | .ty n,u=>u=Value.type n
abbrev Vals:List V->List Value->Prop:=Paired RelV
theorem Vals.length {a:List V}{us:List Value}(r:Vals a us):a.length=us.length:=Paired.length r
theorem Vals.get:∀ {a:List V}{us:List Value}{i:Nat}{x:V},Vals a us->a[i]?=some x->∃ u,us[i]?=some u/\RelV x u
 |_,_,_,_,.nil,e=>by simp at e
 |_,_,0,_,.cons r _,e=>by simp at e;subst e;exact⟨_,rfl,r⟩
 |_,_,i+1,x,.cons _ t,e=>by
  obtain⟨u,c,b⟩:=Vals.get (i:=i) (x:=x) t (by simpa using e);exact⟨u,by simpa using c,b⟩
theorem Vals.append:∀ {a ys:List V}{us b:List Value},Vals a us->Vals ys b->Vals (a++ys) (us++b)
 |_,_,_,_,.nil,s=>s
 |_,_,_,_,.cons r t,s => .cons r (Vals.append t s)
theorem Vals.take:∀ {a:List V}{us:List Value}(n:Nat),Vals a us->Vals (a.take n) (us.take n)
 |_,_,0,_ => .nil
 |_,_,_+1,.nil => .nil
 |_,_,n+1,.cons r t => .cons r (Vals.take n t)
theorem Vals.drop:∀ {a:List V}{us:List Value}(n:Nat),Vals a us->Vals (a.drop n) (us.drop n)
 |_,_,0,r=>r
 |_,_,_+1,.nil => .nil
 |_,_,n+1,.cons _ t=>Vals.drop n t
def LF:Option V->Option Value->Prop
 |some v,some u=>RelV v u
 |none,none=>True
 |_,_=>False
def KV {a:Type}:List (a×V)->List (a×Value)->Prop:=Paired λ(p : a×V) (q : a×Value)=>p.1=q.1/\RelV p.2 q.2
def kV:Key->V
 | .inl i => .int i
 | .inr x => .str x
inductive HO where
 |lst (xs:List V)
 |tup (xs:List V)
 |dK (kvs:List (Key×V)) |dT (kvs:List (List Key×V)) |dN (kvs:List (PyData×Addr×V))
 |set (S:Int->Bool) (n:Nat)
 |ins (C dx:Addr) (fs:List (Str×V))
 |own (x:Addr)
 |xd (fs:List (Str×V))
 |met (f x:Addr)
 |Rr (lo hi:Int)
 |PY (o:Obj) (u:HO)
 |R4 (ps:Array Value)
 |ext (φ:Heap->Prop)
abbrev Hp:=Addr->Option HO
noncomputable def upd (H:Hp) (a:Addr) (o:HO):Hp:=λb=>if b=a then some o else H b
theorem J4 {H:Hp}{a:Addr}{o:HO}:upd H a o a=some o:=by unfold upd;rw[if_pos rfl]
theorem aJ {H:Hp}{a b:Addr}{o:HO}(h:b≠a):upd H a o b=H b:=by unfold upd;rw[if_neg h]
theorem Hf {H:Hp}{a b:Addr}{o u:HO}(h:H a=some o)(h':H b=some u)(d:o≠u):a≠b:=by intro e;subst e;rw[h] at h';exact d (Option.some.inj h')
theorem aO {H:Hp}{a b:Addr}{o:HO}(h:H a=some o)(h':H b=none):a≠b:=by intro e;subst e;rw[h] at h';cases h'
def Nq (h:Heap)(a:Addr)(its:Array Value):Prop:=∃ n,h.get? a=some { cls:=.type "tuple",data:=.seq its n }
theorem Nq.tup {h:Heap}{a:Addr}{its:Array Value}(x:Nq h a its):IsTup h a its:=let ⟨n,e⟩:=x;⟨_,e,rfl,n,rfl⟩
theorem Nq.new (h:Heap)(its:Array Value):Nq (h.push { cls:=.type "tuple",data:=.seq its }) h.objs.size its:=⟨_,Heap.get?_push_size _ rfl⟩
section
variable (P:Program) (w:World)
def Ku (H:Hp)(h:Heap)(a:Addr):HO->Prop
 | .lst c=>c.length<=sizeLine/\∃ (its:List Value) (n:Nat),Vals c its/\h.get? a=some { cls:=.type "list",data:=.seq its.toArray n }
 | .tup c=>c.length<=sizeLine/\∃ its:List Value,Vals c its/\Nq h a its.toArray
 | .dK b=>b.length<=sizeLine/\(a==sysModules)=false/\∃ k,KV b k/\h.DictOf (bD P w) a k
 | .dT b=>b.length<=sizeLine/\(a==sysModules)=false/\∃ c:List (List Key×Addr×Value),
   Paired (λ(p:List Key×V) (q:List Key×Addr×Value)=>p.1=q.1/\H q.2.1=some (.tup (p.1.map kV))/\RelV p.2 q.2.2) b c /\
   ∃ o es ep,h.get? a=some o/\o.ExactDict/\o.data = .dict es ep/\es.toList=c.map (entryOfKey (tupleKind (bD P w)))/\(c.map (·.1)).Nodup
 | .dN b=>b.length<=sizeLine/\(a==sysModules)=false/\∃ c:List (PyData×Addr×Value),Paired (λp q=>p.1=q.1/\p.2.1=q.2.1/\RelV p.2.2 q.2.2) b c /\
   ∃ o es ep,h.get? a=some o/\o.ExactDict/\o.data = .dict es ep/\es.toList=c.map (entryOfKey (lP P w))/\(c.map (·.1)).Nodup
 | .set S n=>h.SetOf (intKind P w) a S n
 | .ins C e fs=>H e=some (.own a)/\fs.length<=1000/\e≠a/\h.get? a=some (PySem.W.instObj C e) /\
   ∃ d,h.Ns1 e d/\(∀ f,LF (fs.lookup f) (d f))/\PySem.Within d (fs.map (·.1))
 | .own _ => ∃ o,h.get? a=some o
 | .xd fs => ∃ d,h.Ns1 a d/\∀ f,LF (fs.lookup f) (d f)
 | .Rr lo l => ∃ t u v,h.get? a=some { cls:=.type "range",data:=.fields #[.int lo t,.int l u,.int 1 v] }
 | .PY o u=>h.get? a=some o/\Ku H h a u
 | .R4 m=>h.get? a=some { cls:=.none,data:=.fields m }
 | .met f x=>h.get? a=some (PySem.W.methodObj (.ref f) (.ref x))
 | .ext g => g h/\(∃ o,h.get? a=some o)/\∀ j i:Heap,g j->(∀ o,j.get? a=some o->i.get? a=some o)->g i
def L8 (H:Hp)(h:Heap):Prop:=∀ a o,H a=some o->Ku P w H h a o
end
section
variable {P:Program}{w:World}{H H':Hp}{h h':Heap}{a:Addr}{o:HO}
theorem Ku.lt (x:Ku P w H h a o):a<h.objs.size:=by
 cases o with
 |lst c=>obtain⟨_,_,_,_,e⟩:=x;exact Heap.lt_size e
 |tup c=>obtain⟨_,_,_,_,e⟩:=x;exact Heap.lt_size e
 |dK b=>obtain⟨_,_,_,_,o,_,_,e,_⟩:=x;exact Heap.lt_size e
 |dT b=>obtain⟨_,_,_,_,o,_,_,e,_⟩:=x;exact Heap.lt_size e
 |dN b=>obtain⟨_,_,_,_,o,_,_,e,_⟩:=x;exact Heap.lt_size e
 |set S n=>obtain⟨o,_,_,_,e,_⟩:=x;exact Heap.lt_size e
 |ins C i fs=>obtain⟨_,_,_,e,_⟩:=x;exact Heap.lt_size e
 |own y=>obtain⟨_,e⟩:=x;exact Heap.lt_size e
 |xd fs=>obtain⟨_,⟨_,_,_,e,_⟩,_⟩:=x;exact Heap.lt_size e
 |Rr lo d=>obtain⟨_,_,_,e⟩:=x;exact Heap.lt_size e
 |PY g u=>obtain⟨e,_⟩:=x;exact Heap.lt_size e
 |R4 k=>exact Heap.lt_size (show h.get? a=some _ from x)
 |met f y=>exact Heap.lt_size (show h.get? a=some _ from x)
 |ext j=>obtain⟨_,⟨_,e⟩,_⟩:=x;exact Heap.lt_size e
theorem Paired.NS {α c:Type}{F G : α->c->Prop}:∀ {l₁:List α}{l₂:List c},Paired F l₁ l₂->(∀ a b,F a b->G a b)->Paired G l₁ l₂
 |_,_,.nil,_ => .nil
 |_,_,.cons r t,f => .cons (f _ _ r) (Paired.NS t f)
theorem Ku.MY (x:Ku P w H h a o)(k:∀ b u,(b=a∨H b=some (.own a))->h.get? b=some u->h'.get? b=some u)
  (B:∀ b,H b=some (.own a)->H' b=some (.own a)) (A:∀ b i,H b=some (.tup i)->H' b=some (.tup i)):Ku P w H' h' a o:=by
 induction o with
 |lst i=>obtain⟨z,its,n,r,e⟩:=x;exact⟨z,its,n,r,k _ _ (.inl rfl) e⟩
 |tup i=>obtain⟨z,its,r,n,e⟩:=x;exact⟨z,its,r,n,k _ _ (.inl rfl) e⟩
 |dK j=>obtain⟨z,y,F,r,g,es,ep,e,c⟩:=x;exact⟨z,y,F,r,g,es,ep,k _ _ (.inl rfl) e,c⟩
 |dT j =>
  obtain⟨z,y,i,r,g,es,ep,e,c⟩:=x;exact⟨z,y,i,Paired.NS r λp q z=>⟨z.1,A _ _ z.2.1,z.2.2⟩,g,es,ep,k _ _ (.inl rfl) e,c⟩
 |dN j=>obtain⟨z,y,i,r,g,es,ep,e,c⟩:=x;exact⟨z,y,i,r,g,es,ep,k _ _ (.inl rfl) e,c⟩
 |set S n=>obtain⟨g,es,ep,t,e,c⟩:=x;exact⟨g,es,ep,t,k _ _ (.inl rfl) e,c⟩
 |ins C I fs =>
  obtain⟨d,z,ne,e,l,⟨m,es,ep,E,c⟩,r⟩:=x;exact⟨B _ d,z,ne,k _ _ (.inl rfl) e,l,⟨m,es,ep,k _ _ (.inr d) E,c⟩,r⟩
 |own y=>obtain⟨g,e⟩:=x;exact⟨g,k _ _ (.inl rfl) e⟩
 |xd fs=>obtain⟨l,⟨m,es,ep,e,c⟩,r⟩:=x;exact⟨l,⟨m,es,ep,k _ _ (.inl rfl) e,c⟩,r⟩
 |Rr lo G=>obtain⟨t,u,v,e⟩:=x;exact⟨t,u,v,k _ _ (.inl rfl) e⟩
 |PY g u D=>obtain⟨e,q⟩:=x;exact⟨k _ _ (.inl rfl) e,D q⟩
 |R4 s =>
  have e:h.get? a=some { cls:=.none,data:=.fields s }:=x;show h'.get? a=some { cls:=.none,data:=.fields s };exact k a _ (.inl rfl) e
 |met f y =>
  have e:h.get? a=some (PySem.W.methodObj (.ref f) (.ref y)):=x;show h'.get? a=some (PySem.W.methodObj (.ref f) (.ref y));exact k a _ (.inl rfl) e
 |ext J=>obtain⟨p,⟨o,e⟩,st⟩:=x;exact⟨st _ _ p λo q=>k _ _ (.inl rfl) q,⟨o,k _ _ (.inl rfl) e⟩,st⟩
theorem L8.lt (x:L8 P w H h)(e:H a=some o):a<h.objs.size:=(x a o e).lt
theorem L8.fresh (x:L8 P w H h)(e:h.objs.size<=a):H a=none:=by
 cases q:H a with
 |none=>rfl
 |some u=>exact absurd (lt_of_lt_of_le (x.lt q) e) (Nat.lt_irrefl _)
theorem L8.kept (x:L8 P w H h)(k:∀ b u,h.get? b=some u->h'.get? b=some u):L8 P w H h':=λa o e =>
 (x a o e).MY (λb u _ q=>k b u q) (λ_ q=>q) λ_ _ q=>q
theorem L8.laid (x:L8 P w H h)(k:∀ b u,h.get? b=some u->h'.get? b=some u)(g:h.objs.size<=a)(new:Ku P w (upd H a o) h' a o):L8 P w (upd H a o) h':=λb u e=>by
 have d:=x.fresh g;by_cases f:b=a
 ·subst f;rw[J4] at e;cases e;exact new
 rw[aJ f] at e;exact(x b u e).MY (λc v _ q=>k c v q) (λc q=>by rw[aJ (aO q d)];exact q) λc i q=>by rw[aJ (aO q d)];exact q
end
def Rd (H:Hp)(a:Addr)(u:HO):Prop:=H a=some u∨∃ o,H a=some (.PY o u)
theorem Rd.ok {P:Program}{w:World}{H:Hp}{h:Heap}{a:Addr}{u:HO}(r:Rd H a u)(x:L8 P w H h):Ku P w H h a u:=by
 rcases r with r |⟨o,r⟩
 ·exact x a u r
 obtain⟨_,q⟩:=x a _ r;exact q
def TL:Option HO->Prop
 |some (.lst _)=>True
 |some (.dK _)=>True
 |some (.dT _)=>True
 |some (.dN _)=>True
 |some (.set _ _)=>True
 |some (.ins _ _ _)=>True
 |some (.ext _)=>True
 |_=>False
section
variable {P:Program}{w:World}{H:Hp}{h h':Heap}{x e:Addr}{o':HO}
theorem L8.write (ok:L8 P w H h)(d:TL (H x))(j:e=x∨H e=some (.own x))(k:∀ b u,b≠e->h.get? b=some u->h'.get? b=some u)(n:∃ u,h'.get? e=some u)
  (new:Ku P w (upd H x o') h' x o'):L8 P w (upd H x o') h':=λb u q=>by
 have l:∀ c y,H c=some (.own y)->c≠x:=λc y r z=>by subst z;rw[r] at d;exact d
 have o:∀ c a,H c=some (.tup a)->c≠x:=λc a r z=>by subst z;rw[r] at d;exact d
 by_cases g:b=x
 ·subst g;rw[J4] at q;cases q;exact new
 rw[aJ g] at q;by_cases f:b=e
 ·have i:H b=some (.own x):=by
   rcases j with z |z
   ·exact absurd (f.trans z) g
   rw[f];exact z
  rw[q] at i;cases i;obtain⟨v,m⟩:=n;exact⟨v,by rw[f];exact m⟩
 refine(ok b u q).MY (λc v hc r=>k c v ?_ r) (λc r=>by rw[aJ (l c b r)];exact r) λc a r=>by rw[aJ (o c a r)];exact r
 rcases hc with rfl |hc
 ·exact f
 rintro rfl;rcases j with z |z
 ·exact l c b hc z
 rw[hc] at z;cases z;exact g rfl
end
structure Un (fs ex:List Addr) (H H':Hp) (h h':Heap):Prop where
 keep:∀ b o,h.get? b=some o->H b=none->b∉fs->b∉ex->h'.get? b=some o
 slot:∀ b o,h.get? b=some o->H b=none->b∈fs->b∉ex->∃ sl,h'.get? b=some { o with slots:=sl }
 free:∀ b o,h.get? b=some o->H b=none->b∉ex->H' b=none
 there:∀ b o,h.get? b=some o->b∉ex->∃ o',h'.get? b=some o'
 NT:∀ b xs,H b=some (.tup xs)->H' b=some (.tup xs)
 Nr:∀ b o u,H b=some (.PY o u)->H' b=some (.PY o u)
 NU:∀ b ps,H b=some (.R4 ps)->∃ more,H' b=some (.R4 (ps++more))
section
variable {fs Xq ex ex':List Addr}{H H1 H2:Hp}{h h1 h2 h':Heap}{a x e:Addr}{o:HO}
theorem Un.any (u:Un fs ex H H1 h h1){b:Addr}{a:Obj}(q:h.get? b=some a)(n:H b=none)(d:b∉ex):∃ e,h1.get? b=some { a with slots:=e }:=by
 by_cases c:b∈fs
 ·exact u.slot b a q n c d
 exact⟨a.slots,u.keep b a q n c d⟩
theorem Un.kept (k:∀ b u,h.get? b=some u->h'.get? b=some u):Un fs ex H H h h':=
 ⟨λb a q _ _ _=>k b a q,λb a q _ _ _=>⟨a.slots,k b a q⟩,λ_ _ _ n _=>n,λb a q _=>⟨a,k b a q⟩,λ_ _ q=>q,λ_ _ _ q=>q,λ_ c q=>⟨#[],by rw[q];simp⟩⟩
theorem Un.refl:Un fs ex H H h h:=Un.kept λ_ _ q=>q
theorem Un.laid (k:∀ b u,h.get? b=some u->h'.get? b=some u)(e:h.objs.size<=a)(c:H a=none):Un fs ex H (upd H a o) h h' where
 keep:=λb u q _ _ _=>k b u q
 slot:=λb u q _ _ _=>⟨u.slots,k b u q⟩
 free:=λb u q n _=>by rw[aJ (ne_of_lt (lt_of_lt_of_le (Heap.lt_size q) e))];exact n
 there:=λb u q _=>⟨u,k b u q⟩
 NT:=λb d q=>by rw[aJ (aO q c)];exact q
 Nr:=λb u d q=>by rw[aJ (aO q c)];exact q
 NU:=λb f q=>⟨#[],by rw[aJ (aO q c),q];simp⟩
theorem Un.write (a:TL (H x))(l:e=x∨H e=some (.own x))(k:∀ b u,b≠e->h.get? b=some u->h'.get? b=some u)(j:∃ u,h'.get? e=some u):Un fs ex H (upd H x o) h h':=by
 have f:∀ b,H b=none->b≠x:=λb n z=>by subst z;rw[n] at a;exact a
 have d:∀ b,H b=none->b≠e:=λb n z=>by
  subst z;rcases l with r |r
  ·exact f b n r
  rw[n] at r;cases r
 have c:∀ b u,H b=some u->¬ TL (some u)->b≠x:=λb u q m z=>by subst z;rw[q] at a;exact m a
 refine⟨λb u q n _ _=>k b u (d b n) q,λb u q n _ _=>⟨u.slots,k b u (d b n) q⟩,λb u q n _=>by rw[aJ (f b n)];exact n,λb u q _=>?_,
  λb i q=>by rw[aJ (c b _ q λz=>z)];exact q,λb u i q=>by rw[aJ (c b _ q λz=>z)];exact q,λb p q=>⟨#[],by rw[aJ (c b _ q λz=>z),q];simp⟩⟩
 by_cases g:b=e
 ·subst g;exact j
 exact⟨u,k b u g q⟩
end
def Vb (h:Heap)(H:Hp):List Addr:=(List.range h.objs.size).filter λa=>(H a).isSome
def tV (h:Heap)(H:Hp):Heap:=PySem.W.hideAll h (Vb h H)
theorem Ap (h:Heap)(H:Hp):(tV h H).objs.size=h.objs.size:=PySem.W.hideAll_size _ _
theorem Cg {h:Heap}{H:Hp}{b:Addr}{o:Obj}(e:h.get? b=some o)(n:H b=none):(tV h H).get? b=some o:=
 PySem.W.hideAll_get _ e λa=>by
  have q:(H b).isSome=true:=(mem_filter.mp a).2;rw[n] at q;simp at q
theorem DU {h:Heap}{H:Hp}{b:Addr}{o:Obj}(e:(tV h H).get? b=some o):h.get? b=some o/\H b=none:=by
 have a:h.get? b=some o:=PySem.W.of_hideAll (Vb h H) e;refine⟨a,?_⟩;cases q:H b with
 |none=>rfl
 |some x =>
  have c:b∈Vb h H:=mem_filter.mpr ⟨mem_range.mpr (Heap.lt_size a),by simp[q]⟩;have z:(tV h H).get? b=none:=PySem.W.hideAll_none (Vb h H) c;rw[z] at e;cases e
def EG (g h:Heap)(L:Addr):JM:=(List.range h.objs.size).filterMap λa=>if a=L∨(g.get? a).isSome=true then none else (h.get? a).map λo=>(a,o)
def rest (g h:Heap)(L d:Addr):JM:=(EG g h L).filter λp=>decide (p.1≠d)
structure Mod (K:JK) (mg:JN) (base:Heap):Prop where
 Tj:K.In base
 glob:base.Ns mainGlobals mg
 blt:∃ mb,base.Ns builtinsNs mb/\∀ x:Str,x≠"__name__"->mb x=bootBuiltins x
 nolimit:base.NoLimit
structure Cx where
 prog:Program
 w:World
 K:JK
 mg:JN
 base:Heap
 A:Around
 N:List Str
 s₀:Shared
 H₀:Hp
 env:Env
 outer:List Env
 stack:List Env
 ex:List Addr
 fn:Str->Bool
 calm:Bool
 pn:JM
 xe:JL
def Pp (l:List Env):List Addr:=l.filterMap (·.frame)
abbrev Cx.fs (X:Cx):List Addr:=Pp X.outer
def Vc (sc:Scope)(x:Str):Prop:=sc.names.lookup x=some .local∨sc.names.lookup x=some .cell∨sc.names.lookup x=some .free
def Loc (sc:Scope)(x:Str):Prop:=sc.names.lookup x=some .local∨sc.names.lookup x=some .cell
def Look (env:Env)(h:Heap)(m:JN)(x:Str)(u:Value):Prop:=
 (env.kindOf x=some .local/\m x=some u)∨((env.kindOf x=some .cell∨env.kindOf x=some .free)/\∃ c,env.cells.lookup x=some c/\h.IsCell c (some u))
structure Cx.Ok (X:Cx):Prop where
 mod:Mod X.K X.mg X.base
 kind:X.env.scope.kind = .function
 glob:X.env.globals=mainGlobals
 blt:X.env.builtins=builtinsNs
 above:X.s₀.heap.objs.size<=X.env.locals
 inj:∀ x y c,X.env.cells.lookup x=some c->X.env.cells.lookup y=some c->x=y
 has:∀ x,(X.env.kindOf x=some .cell∨X.env.kindOf x=some .free)->∃ c,X.env.cells.lookup x=some c
 TN:∀ x c,X.fn x=true->X.env.cells.lookup x=some c->X.s₀.heap.objs.size<=c
 hd:X.calm=true->X.A.handled=none
 frames:X.A.frames=some X.stack
 Vd:X.stack=X.outer∨(X.stack=X.env::X.outer/\X.env.frame=some X.env.locals)
 Xr:∀ b∈X.ex,b≠X.env.locals/\∀ x c,X.env.cells.lookup x=some c->c≠b
 bs:∀ b o,X.base.get? b=some o->X.s₀.heap.get? b=some o/\X.H₀ b=none
 QY:X.base.objs.size<=X.s₀.heap.objs.size
 Qf:∀ b o,X.base.get? b=some o->b∉X.ex
 QZ:∀ b∈X.ex,b∉X.fs
 MQ:X.s₀.heap.FunFrames X.base X.outer
 R6:∀ b∈X.fs,X.H₀ b=none
structure Inv (X:Cx) (pins:JM) (σ:List (Option V)) (H:Hp) (s:Shared):Prop where
 ok:X.Ok
 os:s.os=X.s₀.os
 bare:AllBare s.gens
 base:Un X.fs X.ex X.H₀ H X.s₀.heap s.heap
 loc:∃ m,s.heap.Ns X.env.locals m/\∀ (i:Nat) (x:Str) (v:V),X.N[i]?=some x->σ[i]?=some (some v)->Vc X.env.scope x->∃ u,RelV v u/\Look X.env s.heap m x u
 cell:∀ x c,X.env.cells.lookup x=some c->∃ v,s.heap.IsCell c v
 free:H X.env.locals=none
 L0:∀ x c,X.env.cells.lookup x=some c->H c=none
 pin:∀ p∈X.pn++pins,s.heap.get? p.1=some p.2/\H p.1=none/\p.1≠X.env.locals/\p.1∉X.fs/\∀ v,p.2.data≠.cell v
 Kj:L8 X.prog X.w H s.heap
 len : σ.length=X.N.length
section
variable {X:Cx}{pins:JM}{σ:List (Option V)}{H H':Hp}{s:Shared}{h':Heap}
theorem Cx.Ok.VJ (ok:X.Ok){b:Addr}{o:Obj}(e:X.base.get? b=some o):b∉X.fs:=λa=>by have:=(ok.MQ.mem a).1;rw[e] at this;cases this
theorem Inv.bs (I:Inv X pins σ H s):∀ b o,X.base.get? b=some o->s.heap.get? b=some o/\H b=none:=λb o e =>
 ⟨I.base.keep b o (I.ok.bs b o e).1 (I.ok.bs b o e).2 (I.ok.VJ e) (I.ok.Qf b o e),I.base.free b o (I.ok.bs b o e).1 (I.ok.bs b o e).2 (I.ok.Qf b o e)⟩
theorem Inv.bk (I:Inv X pins σ H s):∀ b o,X.base.get? b=some o->s.heap.get? b=some o:=λb o e=>(I.bs b o e).1
theorem Inv.mod (I:Inv X pins σ H s):Mod X.K X.mg X.base:=I.ok.mod
theorem Inv.NA (I:Inv X pins σ H s):X.K.In s.heap:=I.ok.mod.Tj.keeps I.bk
theorem Inv.lt (I:Inv X pins σ H s):X.env.locals<s.heap.objs.size:=let ⟨_,a,_⟩:=I.loc;a.lt
theorem Inv.sz (I:Inv X pins σ H s):X.s₀.heap.objs.size<=s.heap.objs.size:=Nat.le_trans I.ok.above (Nat.le_of_lt I.lt)
theorem Inv.VL (I:Inv X pins σ H s){a:Addr}(h:s.heap.objs.size<=a):a∉X.fs:=λb=>by obtain⟨_,o,c,_⟩:=I.ok.MQ.mem b;exact absurd (lt_of_lt_of_le (Heap.lt_size c) (Nat.le_trans I.sz h)) (Nat.lt_irrefl _)
theorem Inv.R7 (I:Inv X pins σ H s):∀ x c,X.env.cells.lookup x=some c->c≠X.env.locals:=λx c e z=>by obtain⟨v,o,a,hd⟩:=I.cell x c e;obtain⟨m,⟨f,es,ep,b,d,_⟩,_⟩:=I.loc;rw[z,b] at a;cases a;rw[d] at hd;cases hd
theorem Inv.MQ (I:Inv X pins σ H s):s.heap.FunFrames X.base X.outer:=by
 have all:∀ (l:List Env),(∀ b∈Pp l,b∈X.fs)->X.s₀.heap.FunFrames X.base l->s.heap.FunFrames X.base l:=by
  intro l
  induction l with
  |nil=>intro _ _;trivial
  |cons env r k =>
   intro f m;obtain⟨h,⟨L,o,c,g,i,hd⟩,j⟩:=m;have a:L∈X.fs:=f L (by unfold Pp;rw[List.filterMap_cons,c];exact mem_cons_self);obtain⟨n,e⟩:=I.base.slot L o i (I.ok.R6 L a) a λz=>I.ok.QZ L z a;exact⟨h,⟨L,_,c,g,e,hd⟩,k (λb d=>f b (by unfold Pp;rw[List.filterMap_cons,c];exact mem_cons_of_mem _ d)) j⟩
 exact all X.outer (λ_ d=>d) I.ok.MQ
theorem Inv.stack (I:Inv X pins σ H s):s.heap.FunFrames X.base X.stack:=by
 rcases I.ok.Vd with e |⟨e,b⟩
 ·rw[e];exact I.MQ
 rw[e];obtain⟨m,a,_⟩:=I.loc;refine .cons (by rw[I.ok.kind];decide) b a ?_ I.MQ;exact Heap.get?_none_of_le (Nat.le_trans I.ok.QY I.ok.above)
theorem Inv.NW (I:Inv X pins σ H s):∀ b∈Pp X.stack,b∈X.env.locals::X.fs:=λb a=>by
 rcases I.ok.Vd with e |⟨e,c⟩
 ·rw[e] at a;exact mem_cons_of_mem _ a
 rw[e] at a;unfold Pp at a;rw[List.filterMap_cons,c] at a;exact a
theorem Inv.O7 (I:Inv X pins σ H s):∀ b∈Pp X.stack,H b=none:=λb hb=>by
 rcases mem_cons.mp (I.NW b hb) with e |hb
 ·rw[e];exact I.free
 obtain⟨_,o,a,_⟩:=I.ok.MQ.mem hb;exact I.base.free b o a (I.ok.R6 b hb) λz=>I.ok.QZ b z hb
theorem Inv.step {g':Array GenState}{t':Nat}{d':Drawn}{ch:List Addr}(I:Inv X pins σ H s)
  (B:∀ b∈ch,(b∈X.ex∨X.s₀.heap.objs.size<=b)/\b≠X.env.locals/\(∀ x c,X.env.cells.lookup x=some c->c≠b)/\∀ p∈X.pn++pins,p.1≠b)
  (keep:∀ b o,b≠X.env.locals->b∉X.fs->b∉ch->s.heap.get? b=some o->H b=none->h'.get? b=some o)
  (slot:∀ b o,b≠X.env.locals->b∈X.fs->b∉ch->s.heap.get? b=some o->H b=none->∃ F,h'.get? b=some { o with slots:=F }) (free:∀ b o,b∉ch->s.heap.get? b=some o->H b=none->H' b=none)
  (there:∀ b o,b∉ch->s.heap.get? b=some o->∃ y,h'.get? b=some y)
  (NT:∀ b h,H b=some (.tup h)->H' b=some (.tup h)) (Nr:∀ b o u,H b=some (.PY o u)->H' b=some (.PY o u)) (NU:∀ b E,H b=some (.R4 E)->∃ more,H' b=some (.R4 (E++more)))
  (ns:∀ m,s.heap.Ns X.env.locals m->h'.Ns X.env.locals m) (Kj:L8 X.prog X.w H' h') (Q:AllBare g') :
  Inv X pins σ H' { s with heap:=h',gens:=g',drawn:=d',toks:=t' }:=by
 have J:∀ b o,X.s₀.heap.get? b=some o->b≠X.env.locals:=λb o e=>ne_of_lt (lt_of_lt_of_le (Heap.lt_size e) I.ok.above)
 have D:∀ b o,X.s₀.heap.get? b=some o->b∉X.ex->b∉ch:=λb o e a j=>by
  rcases (B b j).1 with z |z
  ·exact a z
  exact absurd (lt_of_lt_of_le (Heap.lt_size e) z) (Nat.lt_irrefl _)
 have f:∀ x c,X.env.cells.lookup x=some c->∀ v,s.heap.IsCell c v->h'.IsCell c v:=λx c e v M=>by
  obtain⟨o,t,hd⟩:=M
  have A:c∉ch:=λz=>(B c z).2.2.1 x c e rfl;by_cases L:c∈X.fs
  ·obtain⟨F,q⟩:=slot c o (I.R7 x c e) L A t (I.L0 x c e);exact⟨_,q,hd⟩
  exact⟨o,keep c o (I.R7 x c e) L A t (I.L0 x c e),hd⟩
 refine⟨I.ok,I.os,Q,⟨λb o e n j a=>?_,λb o e n j a=>?_,λb o e n a=>?_,λb o e a=>?_,λb h e=>NT b h (I.base.NT b h e),λb o h e=>Nr b o h (I.base.Nr b o h e),λb E e=>?_⟩,?_,λx c e=>?_,?_,λx c e=>?_,λp G=>?_,Kj,I.len⟩
 ·exact keep b o (J b o e) j (D b o e a) (I.base.keep b o e n j a) (I.base.free b o e n a)
 ·obtain⟨F,g⟩:=I.base.slot b o e n j a;obtain⟨P,C⟩:=slot b _ (J b o e) j (D b o e a) g (I.base.free b o e n a);exact⟨P,C⟩
 ·obtain⟨y,g⟩:=I.base.there b o e a;exact free b y (D b o e a) g (I.base.free b o e n a)
 ·obtain⟨y,g⟩:=I.base.there b o e a;exact there b y (D b o e a) g
 ·obtain⟨m1,g⟩:=I.base.NU b E e;obtain⟨m2,C⟩:=NU b _ g;exact⟨m1++m2,by rw[C,Array.append_assoc]⟩
 ·obtain⟨m,N,R⟩:=I.loc;refine⟨m,ns m N,λi x v g C O=>?_⟩;obtain⟨u,r,l⟩:=R i x v g C O;refine⟨u,r,?_⟩;rcases l with l |⟨k,c,e,z⟩
  ·exact .inl l
  exact .inr ⟨k,c,e,f x c e _ z⟩
 ·obtain⟨v,z⟩:=I.cell x c e;exact⟨v,f x c e v z⟩
 ·obtain⟨m,⟨o,_,_,t,_⟩,_⟩:=I.loc;exact free _ o (λz=>(B _ z).2.1 rfl) t I.free
 ·obtain⟨v,o,t,hd⟩:=I.cell x c e;exact free c o (λz=>(B c z).2.2.1 x c e rfl) t (I.L0 x c e)
 obtain⟨e,n,ne,K,d⟩:=I.pin p G;have A:p.1∉ch:=λz=>(B p.1 z).2.2.2 p G rfl;exact⟨keep p.1 p.2 ne K A e n,free p.1 p.2 A e n,ne,K,d⟩
theorem Inv.un {t':Nat}(I:Inv X pins σ H s)(u:Un X.fs [] H H' s.heap h')(Kj:L8 X.prog X.w H' h'):Inv X pins σ H' { s with heap:=h',toks:=t' }:=by
 obtain⟨m,⟨o,es,ep,c,r⟩,_⟩:=id I.loc;obtain⟨l,g⟩:=u.any c I.free (by simp)
 exact I.step (g':=s.gens) (d':=s.drawn) (ch:=[]) (λ_ z=>nomatch z) (λb o _ a _ e n=>u.keep b o e n a (by simp)) (λb o _ a _ e n=>u.slot b o e n a (by simp)) (λb o _ e n=>u.free b o e n (by simp)) (λb o _ e=>u.there b o e (by simp)) u.NT u.Nr u.NU (λp j=>by
  obtain⟨k,h,i,d,f⟩:=j;rw[c] at d;cases d
  exact⟨_,h,i,g,f⟩) Kj I.bare
theorem Inv.call {g':Array GenState}{t':Nat}{d':Drawn}{ch:List Addr}(I:Inv X pins σ H s)(u:Un (Pp X.stack) ch H H' s.heap h')(Kj:L8 X.prog X.w H' h')(q:AllBare g')
  (h:∀ b∈ch,(b∈X.ex∨X.s₀.heap.objs.size<=b)/\b≠X.env.locals/\(∀ x c,X.env.cells.lookup x=some c->c≠b)/\∀ p∈X.pn++pins,p.1≠b) :
  Inv X pins σ H' { s with heap:=h',gens:=g',drawn:=d',toks:=t' }:=by
 obtain⟨m,⟨o,es,ep,f,r⟩,_⟩:=id I.loc;obtain⟨y,d⟩:=u.any f I.free λz=>(h _ z).2.1 rfl
 exact I.step (ch:=ch) h (λb o d l a e n=>u.keep b o e n (λz=>(mem_cons.mp (I.NW b z)).elim d l) a) (λb o _ _ a e n=>u.any e n a) (λb o a e n=>u.free b o e n a) (λb o a e=>u.there b o e a) u.NT u.Nr u.NU (λA t=>by
  obtain⟨v,j,k,g,i⟩:=t;rw[f] at g;cases g
  exact⟨_,j,k,d,i⟩) Kj q
theorem Inv.turned {t':Nat}{it:Addr}(I:Inv X pins σ H s)(k:∀ b o,b≠it->s.heap.get? b=some o->h'.get? b=some o)(g:H it=none)(d:it≠X.env.locals)
  (j:it∈X.ex∨X.s₀.heap.objs.size<=it) (h:∀ x c,X.env.cells.lookup x=some c->c≠it) (w:∀ p∈X.pn++pins,p.1≠it):Inv X pins σ H { s with heap:=h',toks:=t' }:=by
 have f:∀ b u,H b=some u->b≠it:=λb u e z=>by rw[z,g] at e;cases e
 refine I.step (g':=s.gens) (d':=s.drawn) (ch:=[it]) (λb l=>?_) (λb o _ _ a e _=>k b o (λz=>a (by simp[z])) e) (λb o _ _ a e _=>⟨o.slots,k b o (λz=>a (by simp[z])) e⟩) (λ_ _ _ _ n=>n)
  (λb o a e=>⟨o,k b o (λz=>a (by simp[z])) e⟩) (λ_ _ e=>e) (λ_ _ _ e=>e) (λb y e=>⟨#[],by rw[e];simp⟩) (λm t=>?_) (λb u e=>?_) I.bare
 ·have e:b=it:=by simpa using l
  subst e;exact⟨j,d,h,w⟩
 ·obtain⟨o,es,ep,i,r⟩:=t;exact⟨o,es,ep,k _ o (Ne.symm d) i,r⟩
 refine(I.Kj b u e).MY (λc v a q=>k c v ?_ q) (λ_ q=>q) λ_ _ q=>q;rcases a with z |z
 ·rw[z];exact f b u e
 exact f c _ z
theorem Inv.tok (I:Inv X pins σ H s)(t:Nat):Inv X pins σ H { s with toks:=t }:=I.un (h':=s.heap) (t':=t) Un.refl I.Kj
theorem Inv.kept {t':Nat}(I:Inv X pins σ H s)(k:∀ b u,s.heap.get? b=some u->h'.get? b=some u):Inv X pins σ H { s with heap:=h',toks:=t' }:=I.un (Un.kept k) (I.Kj.kept k)
theorem Inv.laid {a:Addr}{o:HO}{t':Nat}(I:Inv X pins σ H s)(k:∀ b u,s.heap.get? b=some u->h'.get? b=some u)(c:s.heap.objs.size<=a)(new:Ku X.prog X.w (upd H a o) h' a o) :
  Inv X pins σ (upd H a o) { s with heap:=h',toks:=t' }:=I.un (Un.laid k c (I.Kj.fresh c)) (I.Kj.laid k c new)
theorem Inv.write {x e:Addr}{o:HO}{t':Nat}(I:Inv X pins σ H s)(a:TL (H x))(d:e=x∨H e=some (.own x))(k:∀ b u,b≠e->s.heap.get? b=some u->h'.get? b=some u)(c:∃ u,h'.get? e=some u)
  (new:Ku X.prog X.w (upd H x o) h' x o):Inv X pins σ (upd H x o) { s with heap:=h',toks:=t' }:=I.un (Un.write a d k c) (I.Kj.write a d k c new)
theorem Inv.Md {a:JM}(I:Inv X pins σ H s)(h:∀ p∈a,s.heap.get? p.1=some p.2/\H p.1=none/\p.1≠X.env.locals/\p.1∉X.fs/\∀ v,p.2.data≠.cell v):Inv X a σ H s:=
 ⟨I.ok,I.os,I.bare,I.base,I.loc,I.cell,I.free,I.L0,λp b=>(mem_append.mp b).elim (λz=>I.pin p (mem_append_left _ z)) (h p),I.Kj,I.len⟩
theorem vp {N:List Str}(e:N.Nodup){i j:Nat}{x:Str}(a:N[i]?=some x)(b:N[j]?=some x):i=j:=by obtain⟨g,c⟩:=List.getElem?_eq_some_iff.mp a;obtain⟨f,d⟩:=List.getElem?_eq_some_iff.mp b;exact(List.getElem_inj e).mp (c.trans d.symm)
theorem qH {M:Model}{A:Around}{E:JL}{i:Nat}{x:Str}{v:V}{u:Value}{Q:Unit->Shared->Prop}(I:Inv X pins σ H s)(hN:X.N.Nodup)(D:X.N[i]?=some x)(l:Loc X.env.scope x)(r:RelV v u)
  (h:∀ s',Inv X pins (σ.set i (some v)) H s'->(∃ a,Heap.SameBut a s.heap s'.heap/\(a=X.env.locals∨X.env.cells.lookup x=some a))->Q () s') (hf:X.fn x=true∨X.env.scope.names.lookup x=some .local:=by first |exact .inl rfl |exact .inr rfl |assumption):wpAny M A (storeName X.env x u) Q E s:=by
 obtain⟨m,U,hl⟩:=id I.loc;have VO:(X.env.scope.kind==.class ||(X.env.scope.kind==.module&&X.env.locals != X.env.globals))=false:=by rw[I.ok.kind];rfl
 have TU:i < σ.length:=by rw[I.len];exact(List.getElem?_eq_some_iff.mp D).1
 have R7:=I.R7
 have tracked:∀ {a:Addr}{h':Heap},(∃ o,s.heap.get? a=some o/\H a=none)->Heap.SameBut a s.heap h'->L8 X.prog X.w H h':=λ{a h'} ha f b ob e=>by
  obtain⟨_,_,Oe⟩:=ha;refine(I.Kj b ob e).MY (λc F hc q=>(f.2 c ?_).trans q) (λ_ q=>q) λ_ _ q=>q;rintro rfl;rcases hc with rfl |hc
  ·rw[Oe] at e;cases e
  rw[Oe] at hc;cases hc
 rcases l with hk |hk
 ·refine wpAny_storeName_local hk U (λh' Y4 f=>?_) VO;obtain⟨oL,_,_,Pq,_⟩:=id U;refine h _ ⟨I.ok,I.os,I.bare,⟨λb o e n B l=>?_,λb o e n B l=>?_,I.base.free,λb o e l=>?_,I.base.NT,I.base.Nr,I.base.NU⟩,⟨_,Y4,λj y J g t W=>?_⟩,λy c e=>?_,I.free,I.L0,λp T=>?_,tracked ⟨oL,Pq,I.free⟩ f,by simpa using I.len⟩ ⟨_,f,.inl rfl⟩
  ·exact(f.2 b (ne_of_lt (lt_of_lt_of_le (Heap.lt_size e) I.ok.above))).trans (I.base.keep b o e n B l)
  ·obtain⟨L,g⟩:=I.base.slot b o e n B l;exact⟨L,(f.2 b (ne_of_lt (lt_of_lt_of_le (Heap.lt_size e) I.ok.above))).trans g⟩
  ·obtain⟨K,g⟩:=I.base.there b o e l;exact⟨K,(f.2 b (ne_of_lt (lt_of_lt_of_le (Heap.lt_size e) I.ok.above))).trans g⟩
  ·by_cases C:j=i
   ·subst C;rw[D] at g;cases g;rw[getElem?_set_self TU] at t;cases t;exact⟨u,r,.inl ⟨hk,by simp⟩⟩
   rw[getElem?_set_ne (Ne.symm C)] at t;obtain⟨R,P,q⟩:=hl j y J g t W;refine⟨R,P,?_⟩;rcases q with ⟨k,e⟩ |⟨k,c,e,z⟩
   ·refine .inl ⟨k,?_⟩;have:y≠x:=λe=>C (vp hN g (e▸D));simp[this,e]
   exact .inr ⟨k,c,e,z.sameBut f (R7 y c e)⟩
  ·obtain⟨F,z⟩:=I.cell y c e;exact⟨F,z.sameBut f (R7 y c e)⟩
  obtain⟨e,n,ne,O,d⟩:=I.pin p T;exact⟨(f.2 p.1 ne).trans e,n,ne,O,d⟩
 have S:X.fn x=true:=by
  rcases hf with z |z
  ·exact z
  rw[z] at hk;cases hk
 obtain⟨c,hc⟩:=I.ok.has x (.inl hk);obtain⟨F,z⟩:=I.cell x c hc;refine wpAny_storeName_cell I.ok.kind hk hc z (λh' N_ f=>?_);obtain⟨oc,Y,VQ⟩:=id z;refine h { s with heap:=h' } ⟨I.ok,I.os,I.bare,⟨λb o e n B l=>?_,λb o e n B l=>?_,I.base.free,λb o e l=>?_,I.base.NT,I.base.Nr,I.base.NU⟩,⟨m,U.sameBut f (Ne.symm (R7 x c hc)),λj y J g t W=>?_⟩,λy G e=>?_,I.free,I.L0,λp T=>?_,tracked ⟨oc,Y,I.L0 x c hc⟩ f,by simpa using I.len⟩ ⟨c,f,.inr hc⟩
 ·exact(f.2 b (ne_of_lt (lt_of_lt_of_le (Heap.lt_size e) (I.ok.TN x c S hc)))).trans (I.base.keep b o e n B l)
 ·obtain⟨L,g⟩:=I.base.slot b o e n B l;exact⟨L,(f.2 b (ne_of_lt (lt_of_lt_of_le (Heap.lt_size e) (I.ok.TN x c S hc)))).trans g⟩
 ·obtain⟨K,g⟩:=I.base.there b o e l;exact⟨K,(f.2 b (ne_of_lt (lt_of_lt_of_le (Heap.lt_size e) (I.ok.TN x c S hc)))).trans g⟩
 ·by_cases C:j=i
  ·subst C;rw[D] at g;cases g;rw[getElem?_set_self TU] at t;cases t;exact⟨u,r,.inr ⟨.inl hk,c,hc,N_⟩⟩
  rw[getElem?_set_ne (Ne.symm C)] at t;obtain⟨R,P,q⟩:=hl j y J g t W;refine⟨R,P,?_⟩;rcases q with q |⟨k,G,e,z'⟩
  ·exact .inl q
  refine .inr ⟨k,G,e,z'.sameBut f ?_⟩;rintro rfl;exact C (vp hN g (I.ok.inj _ _ _ e hc▸D))
 ·by_cases Z:G=c
  ·subst Z;exact⟨_,N_⟩
  obtain⟨w2,z2⟩:=I.cell y G e;exact⟨w2,z2.sameBut f Z⟩
 obtain⟨e,n,ne,O,d⟩:=I.pin p T;refine⟨(f.2 p.1 ?_).trans e,n,ne,O,d⟩;intro q;rw[q,Y] at e;have q':oc=p.2:=Option.some.inj e;exact d F (by rw[← q'];exact VQ)
theorem uS {M:Model}{A:Around}{E:JL}{i:Nat}{x:Str}{v:V}{u:Value}{Q:Unit->Shared->Prop}(I:Inv X pins σ H s)(e:X.N.Nodup)(b:X.N[i]?=some x)(c:Loc X.env.scope x)(r:RelV v u)
  (h:∀ s',Inv X pins (σ.set i (some v)) H s'->Q () s') (a:X.fn x=true∨X.env.scope.names.lookup x=some .local:=by first |exact .inl rfl |exact .inr rfl |assumption):wpAny M A (storeName X.env x u) Q E s:=
 qH I e b c r (λs' d _=>h s' d) a
theorem Inv.TV {s':Shared}{ch:List Addr}(I:Inv X pins σ H s)(f:s'.os=s.os)(u:Un (Pp X.stack) ch H H' s.heap s'.heap)(Kj:L8 X.prog X.w H' s'.heap)(a:AllBare s'.gens)
  (g:∀ b∈ch,(b∈X.ex∨X.s₀.heap.objs.size<=b)/\b≠X.env.locals/\(∀ x c,X.env.cells.lookup x=some c->c≠b)/\∀ p∈X.pn++pins,p.1≠b):Inv X pins σ H' s':=by
 obtain⟨h',g',d',t',d⟩:=s';have e:d=s.os:=f;subst e;exact I.call (g':=g') (t':=t') (d':=d') u Kj a g
end
abbrev XK:=Value->Option Addr->Hp->Prop
abbrev St:=List (Option V)
abbrev VK:=V->Hp->Prop
abbrev TE:=St->Hp->VK->Prop
abbrev TT:=St->Hp->(Bool->Hp->Prop)->Prop
abbrev TA:=St->Hp->(List V->Hp->Prop)->Prop
structure Ends where
 nx:St->Hp->Prop
 rt:VK
 bk:St->Hp->Prop:=λ_ _=>False
 ct:St->Hp->Prop:=λ_ _=>False
abbrev TS:=Ends->St->Hp->Prop
def EP (X:Cx)(a:JM)(c:St)(Q:VK)(u:Value)(s':Shared):Prop:=∃ v b,Inv X a c b s'/\RelV v u/\Q v b
def TP (X:Cx)(a:JM)(d:St)(Q:Bool->Hp->Prop)(b:Bool)(s':Shared):Prop:=∃ c,Inv X a d c s'/\Q b c
def AP (X:Cx)(a:JM)(d:St)(Q:List V->Hp->Prop)(us:List Value)(s':Shared):Prop:=∃ b c,Inv X a d c s'/\Vals b us/\Q b c
def SP (X:Cx)(b:JM)(D:Ends)(f:Flow)(s':Shared):Prop:=
 match f with
 | .next => ∃ a c,Inv X b a c s'/\D.nx a c
 | .brk => ∃ a c,Inv X b a c s'/\D.bk a c
 | .cont => ∃ a c,Inv X b a c s'/\D.ct a c
 | .ret u => ∃ v a c,Inv X b a c s'/\RelV v u/\D.rt v c
def PE (X:Cx)(e:Expr)(t:TE):Prop:=
 ∀ (a:JM) (s:Shared) (b:St) (H:Hp) (Q:VK),Inv X a b H s->t b H Q->wpAny (model X.prog X.w) X.A (eval e X.env) (EP X a b Q) X.xe s
def PT (X:Cx)(e:Expr)(t:TT):Prop:=
 ∀ (a:JM) (s:Shared) (b:St) (H:Hp) (Q:Bool->Hp->Prop),Inv X a b H s->t b H Q->wpAny (model X.prog X.w) X.A (isTrue e X.env (eval e X.env)) (TP X a b Q) X.xe s
def PW (X:Cx)(e:Expr)(t:TT):Prop:=
 ∀ (whole:Sem Value) (a:JM) (s:Shared) (b:St) (H:Hp) (Q:Bool->Hp->Prop),Inv X a b H s->t b H Q->wpAny (model X.prog X.w) X.A (isTrue e X.env whole) (TP X a b Q) X.xe s
theorem PW.pt {X:Cx}{e:Expr}{t:TT}(h:PW X e t):PT X e t:=h _
def PA (X:Cx)(es:List Expr)(t:TA):Prop:=
 ∀ (pos:Pos) (a:JM) (s:Shared) (b:St) (H:Hp) (Q:List V->Hp->Prop),Inv X a b H s->t b H Q->wpAny (model X.prog X.w) X.A (spliced (backTo pos (starEach es X.env))) (AP X a b Q) X.xe s
def PS (X:Cx)(st:Stmt)(t:TS):Prop:=
 ∀ (a:JM) (s:Shared) (b:St) (H:Hp) (D:Ends),Inv X a b H s->t D b H->wpAny (model X.prog X.w) X.A (exec st X.env) (SP X a D) X.xe s
def Of (X:Cx)(st:List Stmt)(t:TS):Prop:=
 ∀ (a:JM) (s:Shared) (b:St) (H:Hp) (D:Ends),Inv X a b H s->t D b H->wpAny (model X.prog X.w) X.A (execs st X.env) (SP X a D) X.xe s
theorem Kd {α:Type}{t:Sem α}{Q b : α->Shared->Prop}{M:Model}{A:Around}{E:JL}{s:Shared}(h:wpAny M A t Q E s)(c:∀ a s,Q a s->b a s):wpAny M A t b E s:=wpAny_mono h c λ_ _ x=>x
section
variable {X:Cx}
theorem bin {a b:Expr}{n m:TE}(t:PE X a n)(z:PE X b m){c:JM}{s:Shared}{e:St}{H:Hp}{R:V->V->Hp->Prop}(I:Inv X c e H s)(h:n e H λx l=>m e l λy d=>R x y d)
  {α:Type}{Q : α->Shared->Prop}{f:Value->Value->Sem α}
  (r:∀ v u j x y d,Inv X c e d j->RelV x v->RelV y u->R x y d->wpAny (model X.prog X.w) X.A (f v u) Q X.xe j) :
  wpAny (model X.prog X.w) X.A (eval a X.env) (λv i=>wpAny (model X.prog X.w) X.A (eval b X.env) (λu g=>wpAny (model X.prog X.w) X.A (f v u) Q X.xe g) X.xe i) X.xe s:=by
 refine Kd (t c s e H _ I h) λv C k=>?_;obtain⟨x,l,B,E,q⟩:=k;refine Kd (z c C e l _ B q) λu j k=>?_;obtain⟨y,d,D,o,p⟩:=k;exact r v u j x y d D E o p
def GN (i:Nat):TE:=λa H Q => ∃ v,a[i]?=some (some v)/\Q v H
def tC (v:V):TE:=λ_ H Q=>Q v H
theorem Bz {i:Nat}{x:Str}{pos:Pos}(k:X.N[i]?=some x)(g:Vc X.env.scope x)(hd:(x==("__debug__":Str))=false:=by decide)(j:(x==("__classdict__":Str))=false:=by decide):PE X (.Name x pos) (GN i):=by
 intro a s n H Q I h;obtain⟨v,e,h⟩:=h;obtain⟨m,f,p⟩:=I.loc;obtain⟨u,r,l⟩:=p i x v k e g;have fin:EP X a n Q u s:=⟨v,H,I,r,h⟩;rcases l with ⟨hk,o⟩ |⟨hk,c,d,b⟩
 ·exact wpAny_Name (wpAny_loadName_local I.ok.kind hk f o fin) hd
 rcases hk with hk |hk
 ·exact wpAny_Name (wpAny_loadName_cell I.ok.kind hk d b fin) hd
 exact wpAny_Name (wpAny_loadName_free I.ok.kind hk d b fin j) hd
theorem R8 {i j pos}:PE X (.Constant (.int i) j pos) (tC (.int i)):=λ_ _ _ H _ I h=>wpAny_Constant_int ⟨.int i,H,I.tok _,⟨_,rfl⟩,h⟩
theorem TX {b j pos}:PE X (.Constant (.bool b) j pos) (tC (.bl b)):=λ_ _ _ H _ I h=>Constant_bool ⟨.bl b,H,I,rfl,h⟩
theorem R9 {j pos}:PE X (.Constant .none j pos) (tC .Kk):=λ_ _ _ H _ I h=>Constant_none ⟨.Kk,H,I,rfl,h⟩
theorem R_ {x j pos}:PE X (.Constant (.str x) j pos) (tC (.str x)):=λ_ _ _ H _ I h=>Calls.Constant_str ⟨.str x,H,I.tok _,⟨_,rfl⟩,h⟩
def Gl (X:Cx)(x:Str):Prop:=X.env.kindOf x=some .globalImplicit
theorem tL {E:JL}{a:JM}{s:Shared}{d:St}{H:Hp}{x:Str}{u:Value}{pos:Pos}{Q:JL}(I:Inv X a d H s)(b:Gl X x)(c:X.mg x=some u)(h:Q u s)
  (hd:(x==("__debug__":Str))=false:=by decide):wpAny (model X.prog X.w) X.A (eval (.Name x pos) X.env) Q E s:=
 Calls.Name_function_global I.ok.kind b (Calls.loadGlobal_global (by rw[I.ok.glob];exact I.mod.glob.keeps I.bk) c h) hd
theorem kL {E:JL}{a:JM}{s:Shared}{f:St}{H:Hp}{x:Str}{u:Value}{pos:Pos}{Q:JL}(I:Inv X a f H s)(g:Gl X x)(i:X.mg x=none)(c:bootBuiltins x=some u)(h:Q u s)
  (b:x≠"__name__":=by decide) (hd:(x==("__debug__":Str))=false:=by decide):wpAny (model X.prog X.w) X.A (eval (.Name x pos) X.env) Q E s:=by
 obtain⟨j,e,d⟩:=I.mod.blt;exact Calls.Name_function_global I.ok.kind g (Calls.loadGlobal_builtin (by rw[I.ok.glob];exact I.mod.glob.keeps I.bk) i (by rw[I.ok.blt];exact e.keeps I.bk) ((d x b).trans c) h) hd
theorem DM {x:Str}{v:V}{u:Value}{pos:Pos}(a:Gl X x)(b:X.mg x=some u)(r:RelV v u)(hd:(x==("__debug__":Str))=false:=by decide):PE X (.Name x pos) (tC v):=
 λ_ _ _ H _ I h=>tL I a b ⟨v,H,I,r,h⟩ hd
theorem DQ {x:Str}{v:V}{u:Value}{pos:Pos}(c:Gl X x)(d:X.mg x=none)(b:bootBuiltins x=some u)(r:RelV v u)(a:x≠"__name__":=by decide)(hd:(x==("__debug__":Str))=false:=by decide):PE X (.Name x pos) (tC v):=
 λ_ _ _ H _ I h=>kL I c d b ⟨v,H,I,r,h⟩ a hd
variable {a b:Expr}{ta tb:TE}{pos:Pos}
def PC (X:Cx)(g:CmpOp)(a b:Expr)(t:TE):Prop:=
 ∀ (c:JM) (s:Shared) (f:St) (H:Hp) (Q:VK),Inv X c f H s->t f H Q ->
  wpAny (model X.prog X.w) X.A (eval a X.env) (λv e=>wpAny (model X.prog X.w) X.A (eval b X.env) (λu d=>wpAny (model X.prog X.w) X.A (compareOp g v u) (EP X c f Q) X.xe d) X.xe e) X.xe s
theorem vq (b:Expr){a:CmpOp}(h:a≠.In)(e:a≠.NotIn):behindInMarks a b=false:=by
 have c:(a==CmpOp.In)=false:=by cases a<;>first |rfl |exact absurd rfl h
 have d:(a==CmpOp.NotIn)=false:=by cases a<;>first |rfl |exact absurd rfl e
 cases b<;>simp[behindInMarks,c,d]
def tB (t:TE):TT:=λb H Q=>t b H λx a => ∃ c,x = .bl c/\Q c a
theorem FV {d:CmpOp}{t:TE}(h:PC X d a b t)(e:behindInMarks d b=false:=by first |exact vq _ (by decide) (by decide) |rfl):PE X (.Compare a [d] [b] pos) t:=λc s g H Q I f=>wpAny_Compare1 (h c s g H Q I f) e
theorem xn {g:CmpOp}{t:TE}(h:PC X g a b t)(f:behindInMarks g b=false:=by first |exact vq _ (by decide) (by decide) |rfl):PT X (.Compare a [g] [b] pos) (tB t):=by intro e s n H Q I m;refine wpAny_isTrue_Compare1 (Kd (h e s n H _ I m) λv w f=>Kd f λu y k=>Kd k λc r i=>?_) f;obtain⟨x,j,o,p,l⟩:=i;obtain⟨d,rfl,q⟩:=l;cases p;exact wpAny_truthy_bool ⟨j,o,q⟩
theorem FF {e:Expr}{t:TE}(h:PE X e t)(g:∀ whole,isTrue e X.env whole=(do let v ← whole;standAt e.pos;holding [v] (truthy v)):=by intro _;rfl):PT X e (tB t):=by intro a s j H Q I i;refine isTrue_plain (Kd (h a s j H _ I i) λv m b=>?_) (g _);obtain⟨x,c,k,l,f⟩:=b;obtain⟨d,rfl,q⟩:=f;cases l;exact wpAny_truthy_bool ⟨c,k,q⟩
variable {tA Vf:TT}{rest:List Expr}
def Ik (t u:TT):TT:=λb H Q=>t b H λc a=>if c=true then u b a Q else Q false a
def Y5 (t u:TT):TT:=λb H Q=>t b H λc a=>if c=true then Q true a else u b a Q
def Ie (t:TT):TT:=λb H Q=>t b H λc a=>Q (!c) a
theorem Dz (d:PT X a tA):PW X (.BoolOp .And [a] pos) tA:=by
 intro g b s f H Q I h;refine isTrue_and (Kd (d b s f H Q I h) λc i e=>?_);cases c with
 |true=>exact isTrue_and_nil e
 |false=>exact e
theorem Fz (d:PT X a tA):PW X (.BoolOp .Or [a] pos) tA:=by
 intro g b s f H Q I h;refine isTrue_or (Kd (d b s f H Q I h) λc i e=>?_);cases c with
 |false=>exact isTrue_or_nil e
 |true=>exact e
theorem FA (l:PT X a tA)(m:PW X (.BoolOp .And (b::rest) pos) Vf):PW X (.BoolOp .And (a::b::rest) pos) (Ik tA Vf):=by
 intro k d s g H Q I h;refine isTrue_and (Kd (l d s g H _ I h) λc n j=>?_);obtain⟨e,i,f⟩:=j;cases c with
 |true=>exact m k d n g e Q i f
 |false=>exact⟨e,i,f⟩
theorem G4 (l:PT X a tA)(m:PW X (.BoolOp .Or (b::rest) pos) Vf):PW X (.BoolOp .Or (a::b::rest) pos) (Y5 tA Vf):=by
 intro k d s g H Q I h;refine isTrue_or (Kd (l d s g H _ I h) λc n j=>?_);obtain⟨e,i,f⟩:=j;cases c with
 |true=>exact⟨e,i,f⟩
 |false=>exact m k d n g e Q i f
theorem FG (d:PT X a tA):PT X (.UnaryOp .Not a pos) (Ie tA):=by intro b s f H Q I h;exact isTrue_not (d b s f H (λc e=>Q (!c) e) I h)
def GY (ta tb:TE):TE:=λb H Q=>ta b H λx a => ∃ c,x = .bl c/\if c=true then tb b a Q else Q (.bl false) a
def GQ (ta:TE):TE:=λb H Q=>ta b H λx a => ∃ c,x = .bl c/\Q (.bl (!c)) a
theorem FQ {op}{t:TE}(h:PE X a t):PE X (.BoolOp op [a] pos) t:=λb s d H Q I c=>BoolOp_one (h b s d H Q I c)
theorem FW (k:PE X a ta)(l:PE X (.BoolOp .And (b::rest) pos) tb):PE X (.BoolOp .And (a::b::rest) pos) (GY ta tb):=by
 intro d s g H Q I h;refine BoolOp_and (Kd (k d s g H _ I h) λv m j=>?_);obtain⟨x,f,i,n,e⟩:=j;obtain⟨c,rfl,e⟩:=e;cases n;refine wpAny_truthy_bool ?_;cases c with
 |true=>exact l d m g f Q i e
 |false=>exact⟨.bl false,f,i,rfl,e⟩
theorem FS (e:PE X a ta):PE X (.UnaryOp .Not a pos) (GQ ta):=by intro b s k H Q I h;refine UnaryOp_ (Kd (e b s k H _ I h) λv l f=>?_);obtain⟨x,g,i,j,d⟩:=f;obtain⟨c,rfl,d⟩:=d;cases j;exact not_of (wpAny_truthy_bool ⟨.bl (!c),g,i,rfl,d⟩)
def Y6 (t:TT)(ta tb:TE):TE:=λa H Q=>t a H λc b=>if c=true then ta a b Q else tb a b Q
theorem BB {c:Expr}(m:PT X c tA)(n:PE X a ta)(o:PE X b tb):PE X (.IfExp c a b pos) (Y6 tA ta tb):=by
 intro e s f H Q I h;refine wpAny_IfExp (Kd (m e s f H _ I h) λd k l=>?_);obtain⟨g,j,i⟩:=l;cases d with
 |true=>exact n e k f g Q j i
 |false=>exact o e k f g Q j i
end
def M0 (K:JK)(H:Hp)(a:Addr)(b:List V):Prop:=
 Rd H a (.lst b) ∨
  ∃ (o:Obj) (its:Array Value) (n:Nat),K.lookup a=some o/\o.cls = .type "list"/\o.dict=none/\o.data = .seq its n/\its.size<=sizeLine/\Vals b its.toList
def Nm (K:JK)(H:Hp)(a:Addr)(b:List V):Prop:=
 Rd H a (.tup b) ∨
  ∃ (o:Obj) (its:Array Value) (n:Nat),K.lookup a=some o/\o.cls = .type "tuple"/\o.data = .seq its n/\its.size<=sizeLine/\Vals b its.toList
def IX:Value->Option V
 | .none=>some .Kk
 | .bool b=>some (.bl b)
 | .int i _=>some (.int i)
 | .str x _=>some (.str x)
 | .bytes b _=>some (.Va b)
 | .float b _=>some (.Tg b)
 | .ref a=>some (.ref a)
 | .type n=>some (.ty n)
 |_=>none
theorem RelV.abs {x:V}{u:Value}(r:RelV x u):IX u=some x:=by
 cases x with
 |Kk=>cases r;rfl
 |bl _=>cases r;rfl
 |int _=>obtain⟨t,rfl⟩:=r;rfl
 |str _=>obtain⟨t,rfl⟩:=r;rfl
 |Va _=>obtain⟨t,rfl⟩:=r;rfl
 |Tg _=>obtain⟨t,rfl⟩:=r;rfl
 |ref _=>cases r;rfl
 |ty _=>cases r;rfl
theorem RelV.inj {x y:V}{u:Value}(r:RelV x u)(q:RelV y u):x=y:=Option.some.inj (r.abs.symm.trans q.abs)
theorem Vals.inj:∀ {a ys:List V}{us:List Value},Vals a us->Vals ys us->a=ys
 |_,_,_,.nil,.nil=>rfl
 |_,_,_,.cons r t,.cons b c=>by rw[r.inj b,Vals.inj t c]
section
variable {X:Cx}{pins:JM}{σ:St}{H:Hp}{s:Shared}{a:Addr}{xs ys:List V}
theorem Inv.list (I:Inv X pins σ H s)(h:M0 X.K H a xs):∃ its:List Value,Vals xs its/\PlainL s.heap a its.toArray/\xs.length<=sizeLine:=by
 rcases h with h |⟨o,its,n,c,b,hd,d,f,r⟩
 ·obtain⟨z,its,n,r,e⟩:=h.ok I.Kj;exact⟨its,r,⟨_,n,e,rfl,rfl,rfl⟩,z⟩
 refine⟨its.toList,r,⟨o,n,I.NA a o c,b,hd,by simpa using d⟩,?_⟩;have e:=r.length;simp only[length_toList] at e;omega
theorem Inv.tuple (I:Inv X pins σ H s)(h:Nm X.K H a xs):∃ its:List Value,Vals xs its/\IsTup s.heap a its.toArray/\xs.length<=sizeLine:=by
 rcases h with h |⟨o,its,n,c,b,d,f,r⟩
 ·obtain⟨z,its,r,p⟩:=h.ok I.Kj;exact⟨its,r,p.tup,z⟩
 refine⟨its.toList,r,⟨o,I.NA a o c,b,n,by simpa using d⟩,?_⟩;have e:=r.length;simp only[length_toList] at e;omega
theorem Inv.M3 (I:Inv X pins σ H s)(h:M0 X.K H a xs)(h':M0 X.K H a ys):xs=ys:=by
 obtain⟨its,r,⟨o,n,e,_,_,d⟩,_⟩:=I.list h;obtain⟨b,g,⟨j,k,c,_,_,f⟩,_⟩:=I.list h';rw[e] at c;cases c;rw[d] at f;injection f with i _
 have:its=b:=by simpa using congrArg Array.toList i
 subst this;exact r.inj g
theorem Inv.Mx (I:Inv X pins σ H s)(h:Nm X.K H a xs)(h':Nm X.K H a ys):xs=ys:=by
 obtain⟨its,r,⟨o,e,_,n,d⟩,_⟩:=I.tuple h;obtain⟨b,g,⟨j,c,_,k,f⟩,_⟩:=I.tuple h';rw[e] at c;cases c;rw[d] at f;injection f with i _
 have:its=b:=by simpa using congrArg Array.toList i
 subst this;exact r.inj g
end
abbrev Cx.Nt (X:Cx)(E:JL):Cx:={ X with xe:=E }
abbrev Cx.Qg (X:Cx):Cx:=X.Nt λ_ _=>False
theorem Cx.Ok.Nt {X:Cx}(ok:X.Ok)(E:JL):(X.Nt E).Ok:=
 ⟨ok.mod,ok.kind,ok.glob,ok.blt,ok.above,ok.inj,ok.has,ok.TN,ok.hd,ok.frames,ok.Vd,ok.Xr,ok.bs,ok.QY,ok.Qf,ok.QZ,ok.MQ,ok.R6⟩
theorem Cx.Ok.LJ {X:Cx}{E:JL}(ok:(X.Nt E).Ok):X.Ok:=
 ⟨ok.mod,ok.kind,ok.glob,ok.blt,ok.above,ok.inj,ok.has,ok.TN,ok.hd,ok.frames,ok.Vd,ok.Xr,ok.bs,ok.QY,ok.Qf,ok.QZ,ok.MQ,ok.R6⟩
section
variable {X:Cx}{pins:JM}{σ:St}{H:Hp}{s:Shared}{E:JL}
theorem Inv.Nt (I:Inv X pins σ H s)(E:JL):Inv (X.Nt E) pins σ H s:=⟨I.ok.Nt E,I.os,I.bare,I.base,I.loc,I.cell,I.free,I.L0,I.pin,I.Kj,I.len⟩
theorem Inv.LJ (I:Inv (X.Nt E) pins σ H s):Inv X pins σ H s:=⟨I.ok.LJ,I.os,I.bare,I.base,I.loc,I.cell,I.free,I.L0,I.pin,I.Kj,I.len⟩
theorem SP.LJ {D:Ends}{f:Flow}{s':Shared}(h:SP (X.Nt E) pins D f s'):SP X pins D f s':=by
 cases f with
 |next=>obtain⟨a,b,I,q⟩:=h;exact⟨a,b,I.LJ,q⟩
 |brk=>obtain⟨a,b,I,q⟩:=h;exact⟨a,b,I.LJ,q⟩
 |cont=>obtain⟨a,b,I,q⟩:=h;exact⟨a,b,I.LJ,q⟩
 |ret u=>obtain⟨v,a,b,I,r,q⟩:=h;exact⟨v,a,b,I.LJ,r,q⟩
theorem Of.Qg {st:List Stmt}{t:TS}(h:Of X.Qg st t):Of X st t:=λpins s σ H D I a =>
 wpAny_mono (h pins s σ H D (I.Nt _) a) (λ_ _ q=>q.LJ) λ_ _ z=>False.elim z
end
section
variable {X:Cx}{st:Stmt}{rest:List Stmt}{t u:TS}{e:Expr}{te:TE}{pos:Pos}
def GR:TS:=λD a H=>D.nx a H
def GO (t u:TS):TS:=λD a H=>t { D with nx:=u D } a H
theorem Q0:Of X [] GR:=λ_ _ a H _ I h=>wpAny_execs_nil ⟨a,H,I,h⟩
theorem Bt (d:PS X st t)(c:Of X rest u):Of X (st::rest) (GO t u):=by
 intro a s e H D I h;refine wpAny_execs_cons (Kd (d a s e H { D with nx:=u D } I h) λf g q=>?_);cases f with
 |next =>
  obtain⟨b,i,j,q⟩:=q;exact c a g b i D j q
 |ret v=>exact q
 |brk=>exact q
 |cont=>exact q
theorem DA (b:PS X st t):Of X [st] t:=by
 intro a s c H D I h;refine wpAny_execs_cons (Kd (b a s c H D I h) λf d q=>?_);cases f with
 |next=>exact wpAny_execs_nil q
 |ret v=>exact q
 |brk=>exact q
 |cont=>exact q
theorem Inv.quiet {a:JM}{b:St}{H:Hp}{s:Shared}(I:Inv X a b H s):interactive X.env=false:=by simp[interactive,I.ok.kind]
def GU (te:TE):TS:=λD a H=>te a H λ_ b=>D.nx a b
theorem DC (f:PE X e te)(i:swapsWith e none pos.line X.env=pure false:=by rfl):PS X (.Expr e pos) (GU te):=by intro a s b H D I h;exact wpAny_Expr_any (Kd (f a s b H _ I h) λv j ⟨x,c,d,k,g⟩=>⟨b,c,d,g⟩) I.quiet i
def Id (te:TE):TS:=λD a H=>te a H D.rt
theorem FI (g:PE X e te):PS X (.Return (some e) pos) (Id te):=by intro a s b H D I h;exact wpAny_Return_some (Kd (g a s b H _ I h) λv j ⟨x,c,d,f,i⟩=>⟨x,b,c,d,f,i⟩)
def Ih (c:TT)(t u:TS):TS:=λD a H=>c a H λb d=>if b=true then t D a d else u D a d
theorem G5 {c:Expr}{a b:List Stmt}{i:TT}(n:PT X c i)(o:Of X a t)(p:Of X b u):PS X (.If c a b pos) (Ih i t u):=by
 intro e s f H D I h;refine wpAny_If (Kd (n e s f H _ I h) λd l m=>?_);obtain⟨g,k,j⟩:=m;cases d with
 |true=>exact o e l f g D k j
 |false=>exact p e l f g D k j
end
abbrev TG:=V->St->Hp->(St->Hp->Prop)->Prop
abbrev Q1:=List V->St->Hp->(St->Hp->Prop)->Prop
def PG (X:Cx)(target:Expr)(t:TG):Prop:=
 ∀ (a:JM) (s:Shared) (d:St) (H:Hp) (v:V) (u:Value) (Q:St->Hp->Prop),Inv X a d H s->RelV v u->t v d H Q ->
  wpAny (model X.prog X.w) X.A (assign target X.env u) (λ_ e => ∃ b c,Inv X a b c e/\Q b c) X.xe s
def Ru (X:Cx)(ts:List Expr)(t:Q1):Prop:=
 ∀ (a:JM) (s:Shared) (e:St) (H:Hp) (c:List V) (f:List Value) (Q:St->Hp->Prop),Inv X a e H s->Vals c f->t c e H Q ->
  wpAny (model X.prog X.w) X.A (assignInOrder ((assignEach ts X.env).map (·.2)) f) (λ_ g => ∃ b d,Inv X a b d g/\Q b d) X.xe s
section
variable {X:Cx}{pos:Pos}
def E5 (i:Nat):TG:=λv a H Q=>Q (a.set i (some v)) H
theorem DI {i:Nat}{x:Str}(d:X.N.Nodup)(b:X.N[i]?=some x)(c:Loc X.env.scope x)(e:X.fn x=true∨X.env.scope.names.lookup x=some .local:=by first |exact .inl rfl |exact .inr rfl |assumption):PG X (.Name x pos) (E5 i):=by intro a s j H v u Q I r h;exact wpAny_assign_Name (uS I d b c r (λg f=>⟨_,H,f,h⟩) e)
def IA:Q1:=λa b H Q=>a=[]/\Q b H
def Hs (t:TG)(u:Q1):Q1:=λb d H Q => ∃ v r,b=v::r/\t v d H λa c=>u r a c Q
theorem Q3:Ru X [] IA:=by intro a s b H c d Q I r h;obtain⟨e,h⟩:=h;subst e;cases r;exact assignInOrder_nil ⟨b,H,I,h⟩
theorem Bx {e:Expr}{es:List Expr}{t:TG}{u:Q1}(j:PG X e t)(f:Ru X es u)
  (o:(assignEach (e::es) X.env).map (·.2)=assign e X.env::(assignEach es X.env).map (·.2):=by rfl):Ru X (e::es) (Hs t u):=by
 intro a s k H w q Q I r h;obtain⟨v,p,l,h⟩:=h;subst l;cases r with
 |cons r g =>
  rw[o];refine assignInOrder_cons (Kd (j a s k H _ _ _ I r h) λ_ n c=>?_);obtain⟨b,d,m,i⟩:=c;exact f a n b d _ _ Q m g i
def Iz (K:JK)(n:Nat)(t:Q1):TG:=λv c H Q => ∃ a b,v = .ref a/\Nm K H a b/\b.length=n/\t b c H Q
theorem FO {es:List Expr}{k:Nat}{t:Q1}{n:Nat}(m:X.calm=true)(h:Ru X es t)
  (j:(assignEach es X.env).length=n:=by rfl) (y:(assignEach es X.env).findIdx? (·.1)=none:=by rfl):PG X (.Tuple es k pos) (Iz X.K n t):=by
 intro c s g H v u Q I r d;obtain⟨a,i,x,q,A,d⟩:=d;subst x;cases r;obtain⟨its,f,l,B⟩:=I.tuple q;refine assign_Tuple_tuple (I.ok.hd m) l (by simp[j,← A,f.length]) y λw p=>?_;have z:Inv X c g H { s with heap:=w }:=I.kept (t':=s.toks) λb o e=>p b o (ne_of_lt (Heap.lt_size e)) e;exact h c _ g H i _ Q z (by simpa using f) d
def GX (c:TE)(g:TG):TS:=λD a H=>c a H λx b=>g x a b D.nx
theorem FL {b e:Expr}{d:TE}{g:TG}(l:PE X e d)(p:PG X b g)(r:swapsWithSole [b] e pos.line X.env=pure false:=by rfl)(m:swappedStores [b] e X.env=pure none:=by rfl)
  (k:(assignEach [b] X.env).map (·.2)=[assign b X.env]:=by rfl):PS X (.Assign [b] e pos) (GX d g):=by
 intro a s c H D I h;refine wpAny_Assign_stores (Kd (l a s c H _ I h) λv o f=>?_) r m;obtain⟨x,i,n,t,j⟩:=f;rw[k];exact Kd (p a o c i x v _ n t j) λ_ u q=>q
theorem FH {i:Nat}{x:Str}{e:Expr}{c:TE}{a:Pos}(m:X.N.Nodup)(g:X.N[i]?=some x)(k:Loc X.env.scope x)(l:PE X e c)(q:swapsWith e (some (.Name x a)) pos.line X.env=pure false:=by rfl)(n:X.fn x=true∨X.env.scope.names.lookup x=some .local:=by first |exact .inl rfl |exact .inr rfl |assumption) :
  PS X (.Assign [.Name x a] e pos) (GX c (E5 i)):=by
 intro b s o H D I h;refine wpAny_Assign_Name (Kd (l b s o H _ I h) λv u d=>?_) q;obtain⟨y,f,p,t,j⟩:=d;exact uS p m g k t (λw r=>⟨_,f,r,j⟩) n
end
section
variable {X:Cx}{pos:Pos}
def AW (c:TT)(h:TS):TS:=λD a H => ∃ W:Nat->St->Hp->Prop,(∃ m,W m a H)/\∀ m a H,W m a H ->
 c a H λb e=>if b=true then ∃ N:St->Hp->Prop,(∀ d g,N d g->∃ f,f<m/\W f d g)/\h { D with nx:=N,ct:=N,bk:=D.nx } a e else D.nx a e
theorem Bu {c:Expr}{body:List Stmt}{y:TT}{B:TS}(u:PassesOwn (model X.prog X.w) X.A X.env X.xe)(J:PT X c y)(O:Of X body B):PS X (.While c body [] pos) (AW y B):=by
 intro d s M H D I h;obtain⟨W,⟨R,G⟩,i⟩:=h;refine wpAny_While (codeAny_whileLoop (λn K => ∃ g C,Inv X d g C K/\W n g C) ?_ R ⟨M,H,I,G⟩);rintro n Q ⟨e,t,P,L⟩;refine wpAny_passesOwn u (Kd (J d Q e t _ P (i n e t L)) λb S F=>?_);obtain⟨x,E,k⟩:=F;cases b with
 |true =>
  obtain⟨N,z,k⟩:=k;rw[if_pos rfl];refine wpAny_passesOwn u (Kd (O d S e x _ E k) λf T l=>?_);cases f with
  |next =>
   obtain⟨a,j,p,m⟩:=l;obtain⟨o,r,q⟩:=z a j m;exact⟨o,r,a,j,p,q⟩
  |cont =>
   obtain⟨a,j,p,m⟩:=l;obtain⟨o,r,q⟩:=z a j m;exact⟨o,r,a,j,p,q⟩
  |brk=>exact l
  |ret v=>exact l
 |false =>
  rw[if_neg Bool.false_ne_true];exact wpAny_execs_nil ⟨e,x,E,k⟩
end
structure It where
 go:Nat->Hp->Prop
 O9:Nat->Hp->V->Hp->Prop
 stop:Nat->Hp->Prop
def jx (X:Cx)(a:JM)(H:Hp)(b:Addr):Prop:=
 H b=none/\b≠X.env.locals/\b∉X.fs/\(b∈X.ex∨X.s₀.heap.objs.size<=b)/\(∀ x c,X.env.cells.lookup x=some c->c≠b)/\∀ p∈X.pn++a,p.1≠b
theorem Inv.M4 {X:Cx}{a:JM}{h:St}{H H':Hp}{s:Shared}{b:Addr}(I:Inv X a h H s)(d:s.heap.objs.size<=b)(f:H' b=none):jx X a H' b:=by
 refine⟨f,ne_of_gt (lt_of_lt_of_le I.lt d),I.VL d,.inr (Nat.le_trans I.sz d),λx c e z=>?_,λp g z=>?_⟩
 ·obtain⟨v,q⟩:=I.cell x c e;exact absurd (lt_of_lt_of_le q.lt (by rw[z];exact d)) (Nat.lt_irrefl _)
 exact absurd (lt_of_lt_of_le (Heap.lt_size (I.pin p g).1) (by rw[z];exact d)) (Nat.lt_irrefl _)
structure Turn (P:Program) (w:World) (K:JK) (tg:Expr) (J:It) (fp:List Addr) (it:Addr) (tn:Nat->Heap->Prop):Prop where
 mem:it∈fp
 obj:∀ i h,tn i h->∀ b∈fp,∃ o,h.get? b=some o/\∀ v,o.data≠.cell v
 keep:∀ i h h',tn i h->(∀ b∈fp,∀ o,h.get? b=some o->h'.get? b=some o)->tn i h'
 item:∀ (X:Cx),X.prog=P->X.w=w->X.K=K->X.calm=true->∀ (i:Nat) (pins:JM) (s:Shared) (σ:St) (H:Hp) (E:JL),Inv X pins σ H s->(∀ b∈fp,jx X pins H b)->tn i s.heap->J.go i H ->
  wpAny (model P w) X.A (pyNext (.ref it)) (λr s1 => ∃ u,r=some u /\
   wpAny (model P w) X.A (letOwnedTupleGo tg (.ref it) u) (λ_ s2 => ∃ x H',Inv X pins σ H' s2/\RelV x u/\J.O9 i H x H'/\tn (i+1) s2.heap/\∀ b∈fp,H' b=none) E s1) E s
 done:∀ (X:Cx),X.prog=P->X.w=w->X.K=K->X.calm=true->∀ (i:Nat) (pins:JM) (s:Shared) (σ:St) (H:Hp) (E:JL),Inv X pins σ H s->(∀ b∈fp,jx X pins H b)->tn i s.heap->J.stop i H ->
  wpAny (model P w) X.A (pyNext (.ref it)) (λr s1=>r=none/\Inv X pins σ H s1) E s
 self:∀ (A:Around) (i:Nat) (s:Shared) (Q:JL) (E:JL),tn i s.heap->Q (.ref it) s->wpAny (model P w) A (pyIter (.ref it)) Q E s
abbrev TI:=St->Hp->(It->Hp->Prop)->Prop
def Xv (X:Cx)(a:JM)(h:St)(g:Expr)(R:It->Hp->Prop)(f:Value)(d:Shared):Prop:=
 ∃ (it:Addr) (fp:List Addr) (e:Nat->Heap->Prop) (J:It) (c:Hp),f = .ref it/\Inv X a h c d/\Turn X.prog X.w X.K g J fp it e/\e 0 d.heap/\(∀ b∈fp,jx X a c b)/\R J c
def PI (X:Cx)(c iter:Expr)(e:TI):Prop:=
 ∀ (a:JM) (s:Shared) (b:St) (H:Hp) (R:It->Hp->Prop),Inv X a b H s->e b H R ->
  wpAny (model X.prog X.w) X.A (eval iter X.env) (λv d=>wpAny (model X.prog X.w) X.A (pyIter v) (Xv X a b c R) X.xe d) X.xe s
theorem yY {M:Model}{A:Around}{E:JL}{s:Shared}{b:Expr}{it:Addr}{u:Value}{o:Obj}{n:String}{vs:Array Value}{Q:Unit->Shared->Prop}(d:s.heap.get? it=some o)(e:o.cls = .type n)(hd:o.data = .fields vs)
  (c:["enumerate","zip","dict_itemiterator","dict_reverseitemiterator","odict_iterator","itertools.zip_longest","itertools.pairwise"].contains n=false) (a:Q () s):wpAny M A (letOwnedTupleGo b (.ref it) u) Q E s:=by
 unfold letOwnedTupleGo
 cases b<;>first
  |exact wpAny_pure a
  |(cases u<;>first
    |exact wpAny_pure a
    |(refine wpAny_bind (wpAny_load d ?_)
      rw[e,hd];show wpAny M A (if (["enumerate","zip","dict_itemiterator","dict_reverseitemiterator","odict_iterator","itertools.zip_longest","itertools.pairwise"].contains n&&vs[0]?==some (rawInt _))=true then _ else _) Q E s;rw[if_neg (by intro h;rw[c,Bool.false_and] at h;cases h)]
      exact wpAny_pure a))
def VR (K:JK)(a:Addr):It:=
 ⟨λi H => ∃ b x,M0 K H a b/\b[i]?=some x,λi H x c=>c=H/\∀ b,M0 K H a b->b[i]?=some x,λi H => ∃ b,M0 K H a b/\b.length<=i⟩
def VS (K:JK)(a:Addr):It:=
 ⟨λi H => ∃ b x,Nm K H a b/\b[i]?=some x,λi H x c=>c=H/\∀ b,Nm K H a b->b[i]?=some x,λi H => ∃ b,Nm K H a b/\b.length<=i⟩
def Vh (lo:Int)(n:Nat):It:=⟨λi _=>i<n,λi H x a=>a=H/\x = .int (lo+i),λi _=>n<=i⟩
theorem zE {P:Program}{w:World}{K:JK}{V:Expr}(a it:Addr):Turn P w K V (VR K a) [it] it (λi h=>h.IsListIter it a i) where
 mem:=by simp
 obj:=λi h st b g=>by
  have e:b=it:=by simpa using g
  subst e;obtain⟨o,e,c,d⟩:=st;exact⟨o,e,λv z=>by rw[d] at z;cases z⟩
 keep:=λi h l st k=>st.at λo e=>k it (by simp) o e
 item:=by
  intro X D A C L i f s M H E I m st B;subst D A C;obtain⟨N,x,j,t⟩:=B;obtain⟨its,q,p,Q⟩:=I.list j;obtain⟨u,U,R⟩:=q.get t;obtain⟨F,G,W,y,n,r⟩:=m it (by simp);refine wpAny_pyNext_list_item st p.isList (x:=u) (by simpa using U) λl J sb=>?_;have T:Inv X f M H { s with heap:=l }:=I.turned (t':=s.toks) (λb o g e=>(sb.2 b g).trans e) F G y n r;obtain⟨o,e,c,d⟩:=id J;exact⟨u,rfl,yY (s:={ s with heap:=l }) e c d (by decide) ⟨x,H,T,R,⟨rfl,λY O=>by rw[I.M3 O j];exact t⟩,J,λb g=>(m b g).1⟩⟩
 done:=by
  intro X D A C L i f s M H E I m st B;subst D A C;obtain⟨N,j,t⟩:=B;obtain⟨its,q,p,Q⟩:=I.list j;obtain⟨F,G,W,y,n,r⟩:=m it (by simp);have Z:=q.length;exact wpAny_pyNext_list_end (I.ok.hd L) st p.isList (by simp;omega) λl S=>⟨rfl,I.turned (t':=s.toks) (λb o g e=>S b o g e) F G y n r⟩
 self:=λ_ _ _ _ _ st h=>wpAny_pyIter_listiter st h
theorem wV {P:Program}{w:World}{K:JK}{V:Expr}(a it:Addr):Turn P w K V (VS K a) [it] it (λi h=>h.IsTupleIter it a i) where
 mem:=by simp
 obj:=λi h st b g=>by
  have e:b=it:=by simpa using g
  subst e;obtain⟨o,e,c,d⟩:=st;exact⟨o,e,λv z=>by rw[d] at z;cases z⟩
 keep:=λi h l st k=>st.at λo e=>k it (by simp) o e
 item:=by
  intro X D A C L i f s M H E I m st B;subst D A C;obtain⟨N,x,j,t⟩:=B;obtain⟨its,q,p,Q⟩:=I.tuple j;obtain⟨u,U,R⟩:=q.get t;obtain⟨F,G,W,y,n,r⟩:=m it (by simp);refine wpAny_pyNext_tuple_item st (show s.heap.IsTuple a its.toArray from p) (x:=u) (by simpa using U) λl J sb=>?_;have T:Inv X f M H { s with heap:=l }:=I.turned (t':=s.toks) (λb o g e=>(sb.2 b g).trans e) F G y n r;obtain⟨o,e,c,d⟩:=id J;exact⟨u,rfl,yY (s:={ s with heap:=l }) e c d (by decide) ⟨x,H,T,R,⟨rfl,λY O=>by rw[I.Mx O j];exact t⟩,J,λb g=>(m b g).1⟩⟩
 done:=by
  intro X D A C L i f s M H E I m st B;subst D A C;obtain⟨N,j,t⟩:=B;obtain⟨its,q,p,Q⟩:=I.tuple j;obtain⟨F,G,W,y,n,r⟩:=m it (by simp);have Z:=q.length;exact wpAny_pyNext_tuple_end (I.ok.hd L) st (show s.heap.IsTuple a its.toArray from p) (by simp;omega) λl S=>⟨rfl,I.turned (t':=s.toks) (λb o g e=>S b o g e) F G y n r⟩
 self:=λ_ _ _ _ _ st h=>wpAny_pyIter_tupleiter st h
theorem wW {P:Program}{w:World}{K:JK}{J:Expr}(it:Addr)(lo:Int)(n:Nat):Turn P w K J (Vh lo n) [it] it (λi h=>IsRangeIter h it (lo+(i:Nat)*1) ((n:Int)-(i:Nat)) 1) where
 mem:=by simp
 obj:=λi h st b c=>by
  have e:b=it:=by simpa using c
  subst e
  exact⟨_,st,λv z=>by
   have D:Data.fields _=Data.cell v:=z
   cases D⟩
 keep:=λi h d st k=>k it (by simp) _ st
 item:=by
  intro X u p r j i a s B H E I f st q;subst u p r;obtain⟨x,y,L,m,g,l⟩:=f it (by simp);have W:=Walks.range (prog:=X.prog) (w:=X.w) (I.ok.hd j) it lo 1 n;refine W.item i s _ _ q st λv d tk C A M=>?_;obtain⟨t,rfl⟩:=C;have G:Inv X a B H { s with heap:=d,toks:=tk }:=I.turned (λb o c e=>M b o (by simpa using c) e) x y m g l;refine⟨_,rfl,yY (s:={ s with heap:=d,toks:=tk }) (n:="range_iterator") A rfl rfl (by decide) ⟨.int (lo+i),H,G,⟨t,?_⟩,⟨rfl,rfl⟩,A,λb c=>(f b c).1⟩⟩;rw[Int.mul_one]
 done:=by
  intro X u p r j i a s B H E I f st q;subst u p r;obtain⟨x,y,L,m,g,l⟩:=f it (by simp);exact wpAny_pyNext_range_end (I.ok.hd j) st (by have:n<=i:=q;omega) λd F=>⟨rfl,I.turned (t':=s.toks) (λb o c e=>F b o c e) x y m g l⟩
 self:=λ_ _ _ _ _ st h=>wpAny_pyIter_rangeiter st h
section
variable {X:Cx}{tg:Expr}
def Hr (K:JK)(d:TE):TI:=λe H R=>d e H λx b => ∃ a,x = .ref a/\(∃ c,M0 K b a c)/\R (VR K a) b
def Iy (K:JK)(d:TE):TI:=λe H R=>d e H λx b => ∃ a,x = .ref a/\(∃ c,Nm K b a c)/\R (VS K a) b
theorem DH {l:Expr}{g:TE}(t:PE X l g):PI X tg l (Hr X.K g):=by
 intro c s n H R I h;refine Kd (t c s n H _ I h) λv f i=>?_;obtain⟨x,j,d,u,k⟩:=i;obtain⟨a,e,⟨w,m⟩,q⟩:=k;subst e;cases u;obtain⟨its,z,p,y⟩:=d.list m;refine wpAny_pyIter_list p.isList ?_;refine⟨f.heap.objs.size,[f.heap.objs.size],_,_,j,rfl,d.kept (t':=f.toks) λb o e=>Heap.get?_push_of_some _ e,zE a _,⟨_,Heap.get?_push_size _ rfl,rfl,rfl⟩,λb r=>?_,q⟩;have e:b=f.heap.objs.size:=by simpa using r
 subst e;exact d.M4 (le_refl _) (d.Kj.fresh (le_refl _))
theorem FN {l:Expr}{g:TE}(t:PE X l g):PI X tg l (Iy X.K g):=by
 intro d s n H R I h;refine Kd (t d s n H _ I h) λv c i=>?_;obtain⟨x,j,f,u,k⟩:=i;obtain⟨a,e,⟨w,m⟩,q⟩:=k;subst e;cases u;obtain⟨its,z,p,y⟩:=f.tuple m;refine wpAny_pyIter_tuple (show c.heap.IsTuple a its.toArray from p) ?_;refine⟨c.heap.objs.size,[c.heap.objs.size],_,_,j,rfl,f.kept (t':=c.toks) λb o e=>Heap.get?_push_of_some _ e,wV a _,⟨_,Heap.get?_push_size _ rfl,rfl,rfl⟩,λb r=>?_,q⟩;have e:b=c.heap.objs.size:=by simpa using r
 subst e;exact f.M4 (le_refl _) (f.Kj.fresh (le_refl _))
theorem Bo {c:JM}{d:St}{H:Hp}{s:Shared}{R:It->Hp->Prop}{E:JL}{lo a:Int}{t u v:Tok}{tk:Nat}(I:Inv X c d H s)(i : -(2 ^ 62)<=lo)(g:lo<2 ^ 62)(l : -(2 ^ 62)<=a)(h:a<2 ^ 62)
  (q:R (Vh lo (a-lo).toNat) H):wpAny (model X.prog X.w) X.A (pyIter (.ref s.heap.objs.size)) (Xv X c d tg R) E { s with heap:=s.heap.push { cls:=.type "range",data:=.fields #[.int lo t,.int a u,.int 1 v] },toks:=tk }:=by
 refine wpAny_pyIter_range (IsRange.new ..) (small_one i g l h) ?_;have f:Inv X c d H { s with heap:=s.heap.push { cls:=.type "range",data:=.fields #[.int lo t,.int a u,.int 1 v] },toks:=tk }:=I.kept λb o e=>Heap.get?_push_of_some _ e
 refine⟨(s.heap.push { cls:=.type "range",data:=.fields #[.int lo t,.int a u,.int 1 v] }).objs.size,[(s.heap.push { cls:=.type "range",data:=.fields #[.int lo t,.int a u,.int 1 v] }).objs.size],_,_,H,rfl,
  f.kept (t':=tk) λb o e=>Heap.get?_push_of_some _ e,wW _ lo (a-lo).toNat,?_,λb k=>?_,q⟩
 ·have j:lo+((0:Nat):Int)*1=lo:=by simp
  have m:(((a-lo).toNat:Nat):Int)-((0:Nat):Int)=Builtin.Range.rangeSize lo a 1:=by rw[rangeSize_one];split<;>omega
  show IsRangeIter _ _ (lo+((0:Nat):Int)*1) ((((a-lo).toNat:Nat):Int)-((0:Nat):Int)) 1;rw[j,m];exact Heap.get?_push_size _ rfl
 have e:b=(s.heap.push { cls:=.type "range",data:=.fields #[.int lo t,.int a u,.int 1 v] }).objs.size:=by simpa using k
 subst e;exact f.M4 (le_refl _) (f.Kj.fresh (le_refl _))
def Hq (c:TA):TI:=λd H R=>c d H λb a => ∃ j:Int,b=[.int j]/\-(2 ^ 62)<=j/\j<2 ^ 62/\R (Vh 0 j.toNat) a
theorem zV {a:Expr}{d:TA}{p pos:Pos}(n:Gl X "range")(o:X.mg "range"=none)(l:PA X [a] d)(u:starEach [a] X.env=[(false,eval a X.env)]:=by rfl):PI X tg (.Call (.Name "range" p) [a] [] pos) (Hq d):=by
 intro b s k H R I h;refine Call_ (kL I n o boot_range (PyProof.Rows.callWith_type1 (Kd (l pos b s k H _ I h) λy x f=>?_) u rfl));obtain⟨z,w,m,v,c⟩:=f;obtain⟨j,e,c,i,q⟩:=c;subst e;cases v with
 |cons r g =>
  cases g;obtain⟨t,rfl⟩:=r;exact call_range_1 (Bo m (by omega) (by omega) c i (by simpa using q))
def Ii (h:TI)(g:TG)(k:TS):TS:=λD a H=>h a H λJ f => ∃ W:Nat->Nat->St->Hp->Prop,(∃ m,W 0 m a f)/\∀ i m a H,W i m a H ->
 (J.stop i H/\D.nx a H)∨(J.go i H/\∃ N:St->Hp->Prop,(∀ b c,N b c->∃ e,e<m/\W (i+1) e b c)/\∀ x c,J.O9 i H x c->g x a c λd j=>k { D with nx:=N,ct:=N,bk:=D.nx } d j)
def mB (fp:List Addr)(h:Heap):JM:=fp.filterMap λb=>(h.get? b).map λo=>(b,o)
theorem iu {fp:List Addr}{h:Heap}{b:Addr}{o:Obj}(a:b∈fp)(e:h.get? b=some o):(b,o)∈mB fp h:=List.mem_filterMap.mpr ⟨b,a,by rw[e];rfl⟩
theorem z7 {fp:List Addr}{h:Heap}{p:Addr×Obj}(d:p∈mB fp h):p.1∈fp/\h.get? p.1=some p.2:=by
 obtain⟨b,c,e⟩:=List.mem_filterMap.mp d;cases q:h.get? b with
 |none=>rw[q] at e;cases e
 |some o =>
  rw[q] at e;have a:(b,o)=p:=Option.some.inj e;subst a;exact⟨c,q⟩
theorem Inv.pinned {a:JM}{c:St}{H:Hp}{s:Shared}{fp:List Addr}(I:Inv X a c H s)(j:∀ b∈fp,jx X a H b)(i:∀ b∈fp,∃ o,s.heap.get? b=some o/\∀ v,o.data≠.cell v):Inv X (a++mB fp s.heap) c H s:=
 I.Md λp h=>(mem_append.mp h).elim (λz=>I.pin p (mem_append_right _ z)) λz=>by
  obtain⟨f,e⟩:=z7 z;obtain⟨l,m,k,_⟩:=j p.1 f;obtain⟨o,g,d⟩:=i p.1 f;rw[e] at g;cases g;exact⟨e,l,m,k,d⟩
theorem Inv.M5 {a pl:JM}{b:St}{H:Hp}{s:Shared}(I:Inv X (a++pl) b H s):Inv X a b H s:=I.Md λp c=>I.pin p (mem_append_right _ (mem_append_left _ c))
theorem FJ {iter:Expr}{body:List Stmt}{P:TI}{g:TG}{tb:TS}{pos:Pos}(E:PassesOwn (model X.prog X.w) X.A X.env X.xe)(hc:X.calm=true)(hi:PI X tg iter P)(hg:PG X tg g)(k:Of X body tb)
  (hs:∀ x,foldedSetIterable iter X.env x=pure x:=by intro _;rfl):PS X (.For tg iter body [] pos) (Ii P g tb):=by
 intro a s V H D I h;refine wpAny_For (Kd (hi a s V H _ I h) λv s1 h1=>Kd h1 λVg s2 h2=>?_) hs;obtain⟨it,fp,S,J,H2,e,I2,T,NB,f2,W,⟨m0,w0⟩,C⟩:=h2;subst e;have O:∀ {t:Hp},(∀ b∈fp,t b=none)->∀ b∈fp,jx X a t b:=λhn b k=>⟨hn b k,(f2 b k).2⟩;refine codeAny_forLoop_any (λn s' => ∃ i j t,Inv X a j t s'/\S i s'.heap/\(∀ b∈fp,t b=none)/\W i n j t) ?_ m0 ⟨0,V,H2,I2,NB,λb k=>(f2 b k).1,w0⟩;rintro n s3 ⟨i,q,F,U,Z,Y,w3⟩;rcases C i n q F w3 with ⟨stop,qn⟩ |⟨go,N,hN,step⟩
 ·refine wpAny_passesOwn E (Kd (T.done X rfl rfl rfl hc i a s3 q F X.xe U (O Y) Z stop) λr s4 z=>?_);obtain⟨K,I4⟩:=z;subst K;exact wpAny_execs_nil ⟨q,F,I4,qn⟩
 refine wpAny_passesOwn E (Kd (T.item X rfl rfl rfl hc i a s3 q F X.xe U (O Y) Z go) λr s4 z=>?_);obtain⟨u,K,h4⟩:=z;subst K;refine wpAny_passesOwn E (Kd h4 λ_ R z=>?_);obtain⟨x,Q,I5,r5,y5,M,VU⟩:=z;have VV:=I5.pinned (O VU) (T.obj _ _ M);refine wpAny_passesOwn E (Kd (hg _ R q Q x u _ VV r5 (step x Q y5)) λ_ s6 z=>?_);obtain⟨L,H6,I6,q6⟩:=z;refine wpAny_passesOwn E (Kd (k _ s6 L H6 _ I6 q6) λf G y=>?_);have again:∀ {c:St}{p:Hp},Inv X (a++mB fp R.heap) c p G->N c p->∃ m,m<n/\∃ i j t,Inv X a j t G/\S i G.heap/\(∀ b∈fp,t b=none)/\W i m j t:=λ{c p} l B=>by obtain⟨m',hm,w7⟩:=hN c p B;refine⟨m',hm,i+1,c,p,l.M5,T.keep _ _ _ M λb k o e=>(l.pin (b,o) (mem_append_right _ (mem_append_right _ (iu k e)))).1,λb k=>?_,w7⟩;obtain⟨o,e,d⟩:=T.obj _ _ M b k;exact(l.pin (b,o) (mem_append_right _ (mem_append_right _ (iu k e)))).2.1
 cases f with
 |next=>obtain⟨c,p,l,B⟩:=y;exact again l B
 |cont=>obtain⟨c,p,l,B⟩:=y;exact again l B
 |brk=>obtain⟨c,p,l,y⟩:=y;exact⟨c,p,l.M5,y⟩
 |ret v=>obtain⟨x7,c,p,l,r7,y⟩:=y;exact⟨x7,c,p,l.M5,r7,y⟩
end
abbrev R2:=V->V->Hp->VK->Prop
def MW (X:Cx)(f:Value->Value->Sem Value)(r:R2):Prop:=
 ∀ (a:JM) (s:Shared) (b:St) (H:Hp) (x y:V) (v u:Value) (Q:VK),Inv X a b H s->RelV x v->RelV y u->r x y H Q ->
  wpAny (model X.prog X.w) X.A (f v u) (EP X a b Q) X.xe s
def Vi (X:Cx)(f:Value->Sem Value)(r:V->Hp->VK->Prop):Prop:=
 ∀ (a:JM) (s:Shared) (b:St) (H:Hp) (x:V) (v:Value) (Q:VK),Inv X a b H s->RelV x v->r x H Q ->
  wpAny (model X.prog X.w) X.A (f v) (EP X a b Q) X.xe s
def gm (X:Cx)(f:Value)(r:List V->Hp->VK->Prop):Prop:=
 ∀ (a:JM) (s:Shared) (d:St) (H:Hp) (b:List V) (c:List Value) (Q:VK),Inv X a d H s->Vals b c->r b H Q ->
  wpAny (model X.prog X.w) X.A (call f c) (EP X a d Q) X.xe s
def Tn (r:R2)(c e:TE):TE:=λa H Q=>c a H λx b=>e a b λy d=>r x y d Q
def Y7 (r:V->Hp->VK->Prop)(b:TE):TE:=λc H Q=>b c H λx a=>r x a Q
def rI (C:Int->Int->Prop)(g:Int->Int->V):R2:=λx y H Q => ∃ i j,x = .int i/\y = .int j/\C i j/\Q (g i j) H
def Sd (g:Int->Int->V):R2:=λx y H Q => ∃ i j,x = .int i/\y = .int j/\Q (g i j) H
def rU (g:Int->V):V->Hp->VK->Prop:=λx H Q => ∃ i,x = .int i/\Q (g i) H
section
variable {X:Cx}{a b c:Expr}{ta tb tc:TE}{pos:Pos}
theorem GE (q:PE X a ta)(r:PE X b tb){c:JM}{s:Shared}{e:St}{H:Hp}{R:V->V->Hp->Prop}(I:Inv X c e H s)
  (h:ta e H λx l=>tb e l λy d=>R x y d) {Q:JL}{f:Value->Value->Sem Value}
  (p:∀ v u j x y d,Inv X c e d j->RelV x v->RelV y u->R x y d->wpAny (model X.prog X.w) X.A (f v u) Q X.xe j) :
  wpAny (model X.prog X.w) X.A (eval a X.env) (λv i=>wpAny (model X.prog X.w) X.A (eval b X.env) (λu g=>wpAny (model X.prog X.w) X.A (f v u) Q X.xe g) X.xe i) X.xe s:=by
 refine Kd (q c s e H _ I h) λv z k=>?_;obtain⟨x,l,t,C,o⟩:=k;refine Kd (r c z e l _ t o) λu j k=>?_;obtain⟨y,d,B,m,n⟩:=k;exact p v u j x y d B C m n
theorem G8 {d:Operator}{r:R2}(i:MW X (binaryOp d) r)(k:PE X a ta)(l:PE X b tb):PE X (.BinOp a d b pos) (Tn r ta tb):=by intro c s j H Q I h;exact wpAny_BinOp (GE k l I h λv u n x y g m f e q=>i c n j g x y v u Q m f e q)
theorem G7 {c:UnaryOp}{r:V->Hp->VK->Prop}(l:Vi X (unaryOp c) r)(e:PE X a ta):PE X (.UnaryOp c a pos) (Y7 r ta):=by intro b s d H Q I h;exact UnaryOp_ (Kd (e b s d H _ I h) λv j ⟨x,f,i,k,g⟩=>l b j d f x v Q i k g)
theorem VW {f:Value->Value->Sem Value}{C:Int->Int->Prop}{g:Int->Int->Int}
  (rule:∀ (i j:Int) (t u:Tok) (s:Shared) (Q:JL) (E:JL),C i j->Q (.int (g i j) s.toks) { s with toks:=s.toks+1 }->wpAny (model X.prog X.w) X.A (f (.int i t) (.int j u)) Q E s) :
  MW X f (rI C λi j => .int (g i j)):=by
 intro a s k H x y v u Q I c b h;obtain⟨i,j,rfl,rfl,d,q⟩:=h;obtain⟨t,rfl⟩:=c;obtain⟨e,rfl⟩:=b;exact rule i j t e s _ _ d ⟨.int (g i j),H,I.tok _,⟨_,rfl⟩,q⟩
theorem Hc {f:Value->Value->Sem Value}{g:Int->Int->Int}
  (rule:∀ (i j:Int) (t u:Tok) (s:Shared) (Q:JL) (E:JL),Q (.int (g i j) s.toks) { s with toks:=s.toks+1 }->wpAny (model X.prog X.w) X.A (f (.int i t) (.int j u)) Q E s) :
  MW X f (Sd λi j => .int (g i j)):=by
 intro a s e H x y v u Q I c b h;obtain⟨i,j,rfl,rfl,q⟩:=h;obtain⟨t,rfl⟩:=c;obtain⟨d,rfl⟩:=b;exact rule i j t d s _ _ ⟨.int (g i j),H,I.tok _,⟨_,rfl⟩,q⟩
theorem F4 {f:Value->Value->Sem Value}{g:Int->Int->Bool}
  (rule:∀ (i j:Int) (t u:Tok) (s:Shared) (Q:JL) (E:JL),Q (.bool (g i j)) s->wpAny (model X.prog X.w) X.A (f (.int i t) (.int j u)) Q E s) :
  MW X f (Sd λi j => .bl (g i j)):=by
 intro a s e H x y v u Q I c b h;obtain⟨i,j,rfl,rfl,q⟩:=h;obtain⟨t,rfl⟩:=c;obtain⟨d,rfl⟩:=b;exact rule i j t d s _ _ ⟨.bl (g i j),H,I,rfl,q⟩
def IY (i j:Int):Prop:=0<j/\j<1073741824
def Q4 (i j:Int):Prop:=(-(2 ^ 64)<i/\i<2 ^ 64)∨(-(2 ^ 64)<j/\j<2 ^ 64)
theorem Q4.ok {i j:Int}(h:Q4 i j):IntMulOk i j:=by
 rcases h with ⟨b,a⟩ |⟨b,a⟩
 ·exact .of_left (intBits_le_64 b a)
 exact .of_right (intBits_le_64 b a)
theorem F3:MW X (binaryOp .Add) (Sd λi j => .int (i+j)):=Hc λ_ _ _ _ _ _ _ q=>add_int q
theorem FZ:MW X (binaryOp .Sub) (Sd λi j => .int (i-j)):=Hc λ_ _ _ _ _ _ _ q=>sub_int q
theorem F0:MW X (binaryOp .Mult) (rI Q4 λi j => .int (i*j)):=VW λ_ _ _ _ _ _ _ a q=>mul_int q a.ok
theorem DS:MW X (binaryOp .FloorDiv) (rI IY λi j => .int (i / j)):=VW λi j _ _ _ _ _ a q=>by have c:(0:Int)<j:=a.1;have b:j<1073741824:=a.2;exact floordiv_int (by omega) (by rw[Int.fdiv_eq_ediv_of_nonneg i (by omega)];exact q) (.inl (PyProof.noPylong_small (by omega)))
theorem F1:MW X (binaryOp .Mod) (rI (λ_ j => 0<j) λi j => .int (i % j)):=VW λi j _ _ _ _ _ a q=>by have b:(0:Int)<j:=a;exact mod_int' (by omega) (by rw[Int.fmod_eq_emod_of_nonneg i (by omega)];exact q)
theorem Y8 {f:Value->Sem Value}{g:Int->Int}
  (rule:∀ (i:Int) (t:Tok) (s:Shared) (Q:JL) (E:JL),Q (.int (g i) s.toks) { s with toks:=s.toks+1 }->wpAny (model X.prog X.w) X.A (f (.int i t)) Q E s) :
  Vi X f (rU λi => .int (g i)):=by
 intro a s c H x v Q I b h;obtain⟨i,rfl,q⟩:=h;obtain⟨t,rfl⟩:=b;exact rule i t s _ _ ⟨.int (g i),H,I.tok _,⟨_,rfl⟩,q⟩
theorem E9:Vi X (unaryOp .USub) (rU λi => .int (-i)):=Y8 λ_ _ _ _ _ q=>neg_int q
end
section
variable {X:Cx}{a b c:Expr}{ta tb tc:TE}{pos:Pos}
theorem Ct {a:JM}{c:St}{H:Hp}{s:Shared}{Q:VK}{k b:Bool}(I:Inv X a c H s)(q:Q (.bl k) H)(e:k=b):EP X a c Q (.bool b) s:=by subst e;exact⟨.bl k,H,I,rfl,q⟩
theorem G_:MW X (compareOp .Lt) (Sd λi j => .bl (decide (i<j))):=F4 λ_ _ _ _ _ _ _ q=>lt_int q
theorem Ha:MW X (compareOp .LtE) (Sd λi j => .bl (decide (i<=j))):=F4 λ_ _ _ _ _ _ _ q=>le_int q
theorem Hb:MW X (compareOp .Gt) (Sd λi j => .bl (decide (j<i))):=F4 λ_ _ _ _ _ _ _ q=>gt_int q
theorem z6:MW X (compareOp .Lt) (λx y H Q => ∃ i j,x = .str i/\y = .str j/\Q (.bl (decide (i.cps.toList<j.cps.toList))) H):=by intro a s e H x y v u Q I c b h;obtain⟨i,j,rfl,rfl,q⟩:=h;obtain⟨t,rfl⟩:=c;obtain⟨d,rfl⟩:=b;exact lt_str (Ct I q rfl)
theorem F2:MW X (compareOp .Is) (λx y H Q=>y = .Kk/\Q (.bl (decide (x = .Kk))) H):=by
 intro b s d H x y v u Q I a c h;obtain⟨rfl,q⟩:=h;cases c;refine is_none_gen (Ct I q ?_)
 cases x<;>first
  |(cases a;rfl)
  |(obtain⟨t,rfl⟩:=a;rfl)
theorem xu (b:Expr){a:CmpOp}(h:a≠.In:=by decide)(e:a≠.NotIn:=by decide):behindInMarks a b=false:=by
 have c:(a==CmpOp.In)=false:=by cases a<;>first |rfl |exact absurd rfl h
 have d:(a==CmpOp.NotIn)=false:=by cases a<;>first |rfl |exact absurd rfl e
 cases b<;>simp[behindInMarks,c,d]
theorem DO {d:CmpOp}{r:R2}(i:MW X (compareOp d) r)(k:PE X a ta)(l:PE X b tb)(m:behindInMarks d b=false):PE X (.Compare a [d] [b] pos) (Tn r ta tb):=by intro c s j H Q I h;exact wpAny_Compare1 (GE k l I h λv u o x y g n f e q=>i c o j g x y v u Q n f e q) m
def Ly (t:TE):TT:=λb H Q=>t b H λx a => ∃ k,x = .bl k/\Q k a
theorem yF {g:CmpOp}{r:R2}(o:MW X (compareOp g) r)(q:PE X a ta)(t:PE X b tb)(C:behindInMarks g b=false):PT X (.Compare a [g] [b] pos) (Ly (Tn r ta tb)):=by
 intro d s f H Q I h
 refine wpAny_isTrue_Compare1 (Kd (q d s f H _ I h) λv A ⟨x,j,w,J,n⟩=>Kd (t d A f j _ w n) λu F ⟨y,l,D,i,m⟩ =>
  Kd (o d F f l x y v u _ D J i m) λc K ⟨z,G,p,B,k,e,E⟩=>?_) C
 subst e;cases B;exact wpAny_truthy_bool ⟨G,p,E⟩
def w6 (r c:R2)(ta tb tc:TE):TE:=λa H Q=>ta a H λx d=>tb a d λy f=>r x y f λz b => ∃ k,z = .bl k /\
 (if k=true then tc a b λg e=>c y g e Q else Q (.bl false) b)
theorem BC {j i:CmpOp}{r m:R2}(C:MW X (compareOp j) r)(W:MW X (compareOp i) m)(M:PE X a ta)(N:PE X b tb)(F:PE X c tc)
  (T:lastMarks [j,i] [b,c]=false:=by with_unfolding_all rfl):PE X (.Compare a [j,i] [b,c] pos) (w6 r m ta tb tc):=by
 intro f s g H Q I h
 refine Compare_chain (Kd (M f s g H _ I h) λv P ⟨x,q,O,Y,B⟩=>chain_link (Kd (N f P g q _ O B) λu V ⟨y,w,U,l,A⟩ =>
  Kd (C f V g w x y v u _ U Y l A) λd G ⟨z,p,n,S,k,e,o⟩=>?_)) T
 subst e;cases S;refine wpAny_truthy_bool ?_;cases k with
 |false=>exact ite_ff ⟨.bl false,p,n,rfl,o⟩
 |true=>exact ite_tt (chain_last (Kd (F f G g p _ n o) λD E ⟨J,K,t,L,R⟩=>W f E g K y J u D Q t l L R))
theorem Bs {j i:CmpOp}{r m:R2}(F:MW X (compareOp j) r)(NV:MW X (compareOp i) m)(R:PE X a ta)(S:PE X b tb)(L:PE X c tc)
  (Z:lastMarks [j,i] [b,c]=false:=by with_unfolding_all rfl):PT X (.Compare a [j,i] [b,c] pos) (Ly (w6 r m ta tb tc)):=by
 intro f s g H Q I h
 refine isTrue_chain (Kd (R f s g H _ I h) λv U ⟨x,t,T,r1,E⟩=>test_link (Kd (S f U g t _ T E) λu s2 ⟨y,B,I2,l,C⟩ =>
  Kd (F f s2 g B x y v u _ I2 r1 l C) λd M ⟨z,p,n,Y,k,e,o⟩=>?_)) Z
 subst e;cases Y;refine wpAny_truthy_bool ?_;cases k with
 |false =>
  obtain⟨k',e',G⟩:=o;cases e';exact ite_ff ⟨p,n,G⟩
 |true =>
  refine ite_tt (test_last (Kd (L f M g p _ n o) λJ K ⟨N,O,w,P,W⟩=>Kd (NV f K g O y N u J _ w l P W) λd' s5 q=>?_));obtain⟨z2,D,I5,A,k2,e2,V⟩:=q;subst e2;cases A;exact wpAny_truthy_bool ⟨D,I5,V⟩
theorem pA:(sizeLine:Nat)<2 ^ 63:=by rw[sizeLine_eq];decide
theorem xt:MW X (binaryOp .Add) (λx y H Q => ∃ i j,x = .str i/\y = .str j/\i.length+j.length<=sizeLine/\Q (.str (i++j)) H):=by intro a s f H x y v u Q I d b h;obtain⟨i,j,rfl,rfl,c,q⟩:=h;obtain⟨t,rfl⟩:=d;obtain⟨e,rfl⟩:=b;exact add_str (λe tk=>⟨.str (i++j),H,I.tok _,⟨_,rfl⟩,q⟩) c
theorem vals1 {x:V}{us:List Value}(r:Vals [x] us):∃ u,us=[u]/\RelV x u:=by
 cases r with
 |cons b a=>cases a;exact⟨_,rfl,b⟩
theorem vals2 {x y:V}{us:List Value}(r:Vals [x,y] us):∃ u a,us=[u,a]/\RelV x u/\RelV y a:=by
 cases r with
 |cons c b =>
  cases b with
  |cons d e=>cases e;exact⟨_,_,rfl,c,d⟩
theorem rR:gm X (.type "int") (λa H Q=>(∃ i,a=[.int i]/\Q (.int i) H)∨∃ k,a=[.bl k]/\Q (.int (if k then 1 else 0)) H):=by
 intro b s e H a d Q I r h;rcases h with ⟨i,rfl,q⟩ |⟨k,rfl,q⟩
 ·obtain⟨u,rfl,t,rfl⟩:=vals1 r;exact call_int_int ⟨.int i,H,I,⟨_,rfl⟩,q⟩
 obtain⟨u,rfl,c⟩:=vals1 r;cases c;exact call_int_bool ⟨.int (if k then 1 else 0),H,I.tok _,⟨_,rfl⟩,q⟩
end
structure OM (h:Heap) (x dx C:Addr) (mA:JN):Prop where
 obj:h.get? x=some (PySem.W.instObj C dx)
 ns:h.Ns1 dx mA
 ne:dx≠x
theorem Ai {h:Heap}{c:Addr}{b:JN}(n:h.Ns1 c b):∃ d,h.get? c=some d/\∀ name,PySem.W.lookIn name d=some (b name):=by
 obtain⟨o,es,ep,i,hd,g,_,j⟩:=n;refine⟨o,i,λname=>?_⟩;have e:=j name;unfold nsFind findBy at e;rw[← Array.find?_toList] at e;unfold PySem.W.lookIn;rw[hd];dsimp only;split
 ·rename_i y q;rw[q] at e;exact congrArg some e
 rename_i q;rw[q] at e;have a:es.toList.any (·.refKey)=false:=by rw[List.any_eq_false];intro y f;obtain⟨z,t,l⟩:=g y (Array.mem_toList_iff.mp f);simp[DictEntry.refKey,l]
 have k:¬ es.toList.any (·.refKey)=true:=by rw[a];exact Bool.false_ne_true
 rw[if_neg k];exact congrArg some e
theorem OM.look {h:Heap}{x c C:Addr}{b:JN}(I:OM h x c C b):∃ a,PySem.W.InstAt h x (PySem.W.instObj C c) C (some a)/\∀ name,PySem.W.lookIn name a=some (b name):=
 let ⟨a,e,d⟩:=Ai I.ns
 ⟨a,⟨I.obj,rfl,rfl,e⟩,d⟩
section
variable {prog:Program}{w:World}{A:Around}{E:JL}{s:Shared}{K:JK}{x dx C f:Addr}{mA:JN}{name:Str}{v:Value}
theorem get_map {expr:Bool}{Q:JL}(X:K.In s.heap)(I:OM s.heap x dx C mA)(c:PySem.W.plainGet K C name=true)(f:PySem.W.hasDictIn K C=true)
  (a:PySem.W.findIn K (.ref C) name=some none) (b:mA name=some v) (e:PySem.W.handedIn v=true) (h:Q v { s with toks:=s.toks+1 }) :
  wpAny (model prog w) A (getAttr (.ref x) name expr) Q E s:=by
 obtain⟨g,J,d⟩:=I.look;exact PySem.W.get_value X J (PySem.W.plainGet_of c).1 (PySem.W.findObj_own f a rfl (by rw[d,b])) e h
theorem Ci {pl:Sem Bool}{Q:Value×List Value->Shared->Prop}(X:K.In s.heap)(I:OM s.heap x dx C mA)(a:PySem.W.plainGet K C name=true)
  (g:PySem.W.findIn K (.ref C) name=some (some (.ref f))) (b:PySem.W.isFn K (.ref f)=true) (d:mA name=none) (h:Q (.ref f,[.ref x]) s) :
  wpAny (model prog w) A (getMethod (.ref x) name pl) Q E s:=by
 obtain⟨c,J,e⟩:=I.look;exact PySem.W.method_fn X J (PySem.W.plainGet_of a).1 (PySem.W.plainGet_of a).2 g (beq_iff_eq.mp b) (by show (PySem.W.lookIn name c).map (·.isSome)=some false;rw[e,d];rfl) h
theorem Dq {ns:List Str}{Q:Unit->Shared->Prop}(X:K.In s.heap)(I:OM s.heap x dx C mA)
  (o:PySem.W.findIn K (.ref C) "__setattr__"=some (some (.builtin "object.__setattr__"))) (e:PySem.W.plainOver K C=true) (f:PySem.W.takerIn K C name=some none) (g:PySem.W.hasDictIn K C=true)
  (m:PySem.Within mA ns) (hsz:ns.length<=sizeLine)
  (h:∀ h',OM h' x dx C (λy=>if y=name then some v else mA y)->Heap.SameBut dx s.heap h'->Q () { s with heap:=h',toks:=s.toks+2 }) :
  wpAny (model prog w) A (setAttr (.ref x) name v) Q E s:=by
 obtain⟨z,J,B⟩:=I.look;refine PySem.W.set_plain X J o (PySem.W.osa_open (s:={ s with toks:=s.toks+1 }) (r:=none) X J e f λb=>?_);obtain⟨u,j,t⟩:=PySem.W.any_some g;have k:s.heap.get? x=some ⟨.ref C,some dx,.plain,#[]⟩:=I.obj;refine wpAny_bind (wpAny_pure (wpAny_bind (wpAny_bind (wpAny_loadPart k (wpAny_bind (PySem.W.Looks.here (s:={ s with toks:=s.toks+1 }) (PySem.W.looks_clsIn X j) ?_))))));rw[t];refine wpAny_pure (a:=some dx) (wpAny_bind (wpAny_pure (wpAny_bind ?_)));refine wpAny_nsSet1 (s:={ s with toks:=s.toks+1 }) I.ns λh' d c=>?_;obtain⟨oD,n,i,p,q,l⟩:=d.count (PySem.Within.cons name v m);refine wpAny_bind (wpAny_lookBehind p (by rw[q];exact pastItsLine_dict (Nat.le_trans l (by rw[length_cons];omega))) ?_);exact wpAny_pure (h _ ⟨(c.2 _ (Ne.symm I.ne)).trans I.obj,d,I.ne⟩ c)
theorem B2 {R:Result->Shared->Prop}{vs:List Value}{kw:List (Str×Value)}(X:K.In s.heap)(c:PySem.W.makesIn K C=true)
  (a:PySem.W.findIn K (.ref C) "__init__"=some (some (.ref f))) (b:PySem.W.typeIn K (.ref f)=some (.type "function"))
  (h:codeAny (model prog w) (A.under (.builtin "type.__call__" ⟨.ref C::vs,kw⟩)) (.call (.ref f) ⟨.ref (s.heap.objs.size+1)::vs,kw⟩) (PySem.W.InitBack (s.heap.objs.size+1) R)
   { s with heap:=(s.heap.push PySem.W.emptyDict).push (PySem.W.instObj C s.heap.objs.size) }) :
  codeAny (model prog w) A (.call (.ref C) ⟨vs,kw⟩) R s:=by
 obtain⟨e,g,d,t,os⟩:=s;exact PySem.W.make_core (PySem.W.makes_of X c) (PySem.W.looks_findIn X a) (λself=>PySem.W.bind_fn X self b) (.inl rfl) h
end
def gM (f:Str)(v:V):List (Str×V)->List (Str×V)
 |[]=>[(f,v)]
 |(g,x)::r=>if g=f then (g,v)::r else (g,x)::gM f v r
theorem nH (f g:Str)(v:V):∀ fs:List (Str×V),(gM f v fs).lookup g=if g=f then some v else fs.lookup g
 |[]=>by
  show List.lookup g [(f,v)]=_;by_cases h:g=f
  ·have a:(g==f)=true:=beq_iff_eq.mpr h;simp only[List.lookup,a,if_pos h]
  have a:(g==f)=false:=beq_eq_false_iff_ne.mpr h;simp only[List.lookup,a,if_neg h]
 |(k,x)::r=>by
  have c:=nH f g v r;rw[show gM f v ((k,x)::r)=(if k=f then (k,v)::r else (k,x)::gM f v r) from rfl];by_cases b:k=f
  ·rw[if_pos b];by_cases h:g=k
   ·have a:(g==k)=true:=beq_iff_eq.mpr h;simp only[List.lookup,a,if_pos (h.trans b)]
   have a:(g==k)=false:=beq_eq_false_iff_ne.mpr h;simp only[List.lookup,a,if_neg (λe:g=f=>h (e.trans b.symm))]
  rw[if_neg b];by_cases h:g=k
  ·have a:(g==k)=true:=beq_iff_eq.mpr h;simp only[List.lookup,a,if_neg (λe:g=f=>b (h.symm.trans e))]
  have a:(g==k)=false:=beq_eq_false_iff_ne.mpr h;simp only[List.lookup,a];exact c
theorem mG (f:Str)(v:V):∀ fs:List (Str×V),f∈(gM f v fs).map (·.1)/\∀ g,g∈fs.map (·.1)->g∈(gM f v fs).map (·.1)
 |[]=>⟨by simp[gM],λg h=>by simp at h⟩
 |(k,x)::r=>by
  obtain⟨b,c⟩:=mG f v r;rw[show gM f v ((k,x)::r)=(if k=f then (k,v)::r else (k,x)::gM f v r) from rfl];by_cases a:k=f
  ·rw[if_pos a];subst a;exact⟨by simp,λg h=>by simpa using h⟩
  rw[if_neg a];refine⟨?_,λg h=>?_⟩
  ·rw[map_cons];exact mem_cons_of_mem _ b
  rw[map_cons] at h ⊢;rcases mem_cons.mp h with e |e
  ·exact mem_cons.mpr (.inl e)
  exact mem_cons_of_mem _ (c g e)
theorem nJ (f:Str)(v:V):∀ fs:List (Str×V),(gM f v fs).length<=fs.length+1
 |[]=>by simp[gM]
 |(k,x)::r=>by
  have b:=nJ f v r;rw[show gM f v ((k,x)::r)=(if k=f then (k,v)::r else (k,x)::gM f v r) from rfl];by_cases a:k=f
  ·rw[if_pos a,length_cons,length_cons];omega
  rw[if_neg a,length_cons,length_cons];omega
theorem LF.some_of {v:V}{o:Option Value}(r:LF (some v) o):∃ u,o=some u/\RelV v u:=by
 cases o with
 |none=>exact(show False from r).elim
 |some u=>exact⟨u,rfl,r⟩
theorem LF.none_of {o:Option Value}(r:LF none o):o=none:=by
 cases o with
 |none=>rfl
 |some u=>exact(show False from r).elim
theorem Aq {v:V}{u:Value}(r:RelV v u):PySem.W.handedIn u=true:=by
 cases v with
 |Kk=>cases (show u=Value.none from r);rfl
 |bl b=>cases (show u=Value.bool b from r);rfl
 |int i=>obtain⟨t,e⟩:=(show ∃ t,u=Value.int i t from r);cases e;rfl
 |str x=>obtain⟨t,e⟩:=(show ∃ t,u=Value.str x t from r);cases e;rfl
 |Va b=>obtain⟨t,e⟩:=(show ∃ t,u=Value.bytes b t from r);cases e;rfl
 |Tg b=>obtain⟨t,e⟩:=(show ∃ t,u=Value.float b t from r);cases e;rfl
 |ref a=>cases (show u=Value.ref a from r);rfl
 |ty n=>cases (show u=Value.type n from r);rfl
section
variable {P:Program}{w:World}{H H':Hp}{h h':Heap}{a C dx:Addr}{fs Xq:List (Str×V)}
theorem tR (Kj:L8 P w H h)(e:H a=some (.ins C dx fs)):∃ b,OM h a dx C b/\(∀ f,LF (fs.lookup f) (b f))/\PySem.Within b (fs.map (·.1))/\fs.length<=1000/\H dx=some (.own a):=by obtain⟨d,z,ne,c,b,n,r,q⟩:=(show Ku P w H h a (.ins C dx fs) from Kj a _ e);exact⟨b,⟨c,n,ne⟩,r,q,z,d⟩
end
structure ON (K:JK) (C:Addr):Prop where
 pg:PySem.W.plainGet K C Str.empty=true
 hd:PySem.W.hasDictIn K C=true
 po:PySem.W.plainOver K C=true
 sa:PySem.W.findIn K (.ref C) "__setattr__"=some (some (.builtin "object.__setattr__"))
theorem ON.get {K:JK}{C:Addr}(c:ON K C)(f:Str):PySem.W.plainGet K C f=true:=c.pg
def LK (K:JK)(C:Addr)(f:Str):Prop:=PySem.W.findIn K (.ref C) f=some none
theorem LK.TY {K:JK}{C:Addr}{f:Str}(n:LK K C f):PySem.W.takerIn K C f=some none:=by unfold PySem.W.takerIn;rw[show PySem.W.findIn K (.ref C) f=some none from n];rfl
structure Con (K:JK) (C:Addr) (f:Str) (v:V) (u:Value):Prop where
 at_:PySem.W.findIn K (.ref C) f=some (some u)
 rel:RelV v u
 get:PySem.W.specialIn K u "__get__"=some none
 cp:PySem.W.copiedNames.contains f=false
structure Meth (K:JK) (C:Addr) (m:Str) (f:Addr):Prop where
 at_:PySem.W.findIn K (.ref C) m=some (some (.ref f))
 fn:PySem.W.isFn K (.ref f)=true
 kp:PySem.W.keepIn K (.ref f)=true
section
variable {X:Cx}{pins:JM}{σ:St}{H:Hp}{s:Shared}{a C dx:Addr}{fs:List (Str×V)}{f:Str}{v:V}{A:Around}{E:JL}
theorem xN {b:Bool}{Q:JL}(I:Inv X pins σ H s)(e:H a=some (.ins C dx fs))(c:ON X.K C)(n:LK X.K C f)(l:fs.lookup f=some v)
  (h:∀ u s',Inv X pins σ H s'->RelV v u->Q u s'):wpAny (model X.prog X.w) A (getAttr (.ref a) f b) Q E s:=by
 obtain⟨i,O,r,_,_,_⟩:=tR I.Kj e;obtain⟨u,g,d⟩:=LF.some_of (v:=v) (o:=i f) (by rw[← l];exact r f);exact get_map I.NA O (c.get f) c.hd n g (Aq d) (h u _ (I.tok _) d)
theorem pK {m:Str}{g:Addr}{pl:Sem Bool}{Q:Value×List Value->Shared->Prop}(I:Inv X pins σ H s)(e:H a=some (.ins C dx fs))(c:ON X.K C)(k:Meth X.K C m g)(l:fs.lookup m=none)
  (h:Q (.ref g,[.ref a]) s):wpAny (model X.prog X.w) A (getMethod (.ref a) m pl) Q E s:=by
 obtain⟨d,O,r,_,_,_⟩:=tR I.Kj e;have b:d m=none:=LF.none_of (by rw[← l];exact r m);exact Ci I.NA O (c.get m) k.at_ k.fn b h
theorem xb {y:V}{u:Value}{Q:Unit->Shared->Prop}(I:Inv X pins σ H s)(e:H a=some (.ins C dx fs))(c:ON X.K C)(n:LK X.K C f)(D:fs.length<1000)(l:RelV y u)
  (h:∀ s',Inv X pins σ (upd H a (.ins C dx (gM f y fs))) s'->Q () s'):wpAny (model X.prog X.w) A (setAttr (.ref a) f u) Q E s:=by
 obtain⟨i,O,r,j,_,k⟩:=tR I.Kj e;have m:(fs.map (·.1)).length<=sizeLine:=by rw[length_map,sizeLine_eq];omega
 refine Dq I.NA O c.sa c.po n.TY c.hd j m λp d sb=>h _ ?_;have hd:∃ o,p.get? dx=some o:=let ⟨o,_,_,B,_⟩:=d.ns;⟨o,B⟩;refine I.write (x:=a) (e:=dx) (by rw[e];exact True.intro) (.inr k) (λb q t z=>(sb.2 b t).trans z) hd ?_;refine⟨by rw[aJ O.ne];exact k,?_,O.ne,d.obj,_,d.ns,λg=>?_,λg v=>?_⟩
 ·have:=nJ f y fs;omega
 ·show LF ((gM f y fs).lookup g) (if g=f then some u else i g);rw[nH];by_cases q:g=f
  ·rw[if_pos q,if_pos q];exact l
  rw[if_neg q,if_neg q];exact r g
 by_cases q:g=f
 ·rw[q];exact(mG f y fs).1
 refine(mG f y fs).2 g (j g λz=>v ?_);show (if g=f then some u else i g)=none;rw[if_neg q];exact z
theorem Inv.made (I:Inv X pins σ H s):Inv X pins σ (upd (upd H s.heap.objs.size (.own (s.heap.objs.size+1))) (s.heap.objs.size+1) (.ins C s.heap.objs.size []))
  { s with heap:=(s.heap.push PySem.W.emptyDict).push (PySem.W.instObj C s.heap.objs.size) }:=by
 have c:(s.heap.push PySem.W.emptyDict).get? s.heap.objs.size=some PySem.W.emptyDict:=Heap.get?_push_size s.heap rfl;have i:((s.heap.push PySem.W.emptyDict).push (PySem.W.instObj C s.heap.objs.size)).get? (s.heap.objs.size+1)=some (PySem.W.instObj C s.heap.objs.size):=by have:=Heap.get?_push_size (s.heap.push PySem.W.emptyDict) (o:=PySem.W.instObj C s.heap.objs.size) rfl;rwa [Heap.size_push] at this
 have f:(s.heap.push PySem.W.emptyDict).Ns s.heap.objs.size (λ_=>none):=⟨PySem.W.emptyDict,#[],_,c,rfl,(λe g=>absurd g (by simp)),λ_=>rfl⟩;have h:=I.laid (a:=s.heap.objs.size) (o:=.own (s.heap.objs.size+1)) (h':=s.heap.push PySem.W.emptyDict) (t':=s.toks) (λb u q=>Heap.get?_push_of_some _ q) (le_refl _) ⟨_,c⟩;refine h.laid (a:=s.heap.objs.size+1) (o:=.ins C s.heap.objs.size []) (t':=s.toks) (λb u q=>Heap.get?_push_of_some _ q) (Nat.le_of_eq (Heap.size_push _ _)) ?_;have ne:s.heap.objs.size≠s.heap.objs.size+1:=ne_of_lt (lt_succ_self _);refine⟨by rw[aJ ne,J4],zero_le _,ne,i,λ_=>none,(Heap.Ns1.of_empty f).at λo q=>Heap.get?_push_of_some _ q,λ_=>True.intro,λy d=>absurd rfl d⟩
theorem ED {prog:Program}{w:World}{env:Env}{e:Expr}{f:Str}{pos:Pos}{s:Shared}{Q:JL}(b:attributeBase e f env (eval e env)=eval e env)
  (h:wpAny (model prog w) A (eval e env) (λo a=>wpAny (model prog w) A (getAttr o f true) Q E a) E s):wpAny (model prog w) A (eval (.Attribute e f pos) env) Q E s:=
 Attribute_any_ h (by rw[arm_eval_Attribute,b])
end
def Ij (K:JK)(c:TE)(f:Str):TE:=λe H Q=>c e H λx b => ∃ a C d fs v,x = .ref a/\b a=some (.ins C d fs)/\ON K C/\LK K C f/\fs.lookup f=some v/\Q v b
def Il (K:JK)(g tv:TE)(f:Str):TS:=λD b H=>tv b H λy e=>g b e λx c => ∃ a C d fs,x = .ref a/\c a=some (.ins C d fs)/\ON K C/\LK K C f/\fs.length<1000 /\
 D.nx b (upd c a (.ins C d (gM f y fs)))
section
variable {X:Cx}{o e value:Expr}{f:Str}{pos pos' TZ:Pos}{ta tv:TE}
theorem FU (m:PE X e ta)(p:attributeBase e f X.env (eval e X.env)=eval e X.env):PE X (.Attribute e f pos) (Ij X.K ta f):=by intro b s o H Q I h;refine ED p (Kd (m b s o H _ I h) λu z d=>?_);obtain⟨x,g,r,i,a,C,y,fs,v,ex,k,c,n,l,q⟩:=d;subst ex;obtain rfl:u=Value.ref a:=i;exact xN r k c n l λw A t j=>⟨v,g,t,j,q⟩
theorem FK (t:PE X o ta)(i:PE X value tv)(z:swapsWith value (some (.Attribute o f pos')) pos.line X.env=pure false):PS X (.Assign [.Attribute o f pos'] value pos) (Il X.K ta tv f):=by intro b s d H D I h;refine plainObj_wpAny_Assign_Attribute (Kd (i b s d H _ I h) λu w ⟨y,g,v,j,q⟩=>Kd (t b w d g _ v q) λov G e=>?_) z;obtain⟨x,B,A,k,a,C,F,fs,ex,p,c,n,l,m⟩:=e;subst ex;obtain rfl:ov=Value.ref a:=k;exact xb A p c n l j λE r=>⟨d,_,r,m⟩
theorem EW {pl:Sem Bool}{m:Str}{b:Pos}{args:List Expr}{d:JM}{s:Shared}{i:St}{H:Hp}{Q:JL}{p:TE}(B:PE X e p)(I:Inv X d i H s)
  (h:p i H λx n => ∃ a C o fs g,x = .ref a/\n a=some (.ins C o fs)/\ON X.K C/\Meth X.K C m g/\fs.lookup m=none /\
   ∀ j,Inv X d i n j->wpAny (model X.prog X.w) X.A (callWith pos (.ref g) [.ref a] (backTo pos (starEach args X.env)) (backToKw pos (keywordEach [] X.env))) Q X.xe j)
  (y:eval (.Call (.Attribute e m b) args [] pos) X.env=(do
   let ov ← eval e X.env
   standAt b.atName
   let (f,first) ← holding [ov] (getMethod ov m pl)
   callWith pos f first (backTo pos (starEach args X.env)) (backToKw pos (keywordEach [] X.env)))) :
  wpAny (model X.prog X.w) X.A (eval (.Call (.Attribute e m b) args [] pos) X.env) Q X.xe s:=by
 refine PySem.W.methodCall_KW (pl:=pl) (Kd (B d s i H _ I h) λu j t=>?_) y;obtain⟨x,n,r,v,a,C,o,fs,g,ex,z,c,k,l,q⟩:=t;subst ex;obtain rfl:u=Value.ref a:=v;exact pK r z c k l (q j r)
end
section
variable {X:Cx}{pins:JM}{σ:St}{H:Hp}{s:Shared}{A:Around}{E:JL}{Q:JL}{c:Value}{b:Bool}
inductive M6 (K:JK) (H:Hp):V->Value->Prop where
 |Kk:M6 K H .Kk (.type "NoneType")
 |bl (x:Bool):M6 K H (.bl x) (.type "bool")
 |int (i:Int):M6 K H (.int i) (.type "int")
 |str (x:Str):M6 K H (.str x) (.type "str")
 |Tg (x:UInt64):M6 K H (.Tg x) (.type "float")
 |lst {a:Addr}{xs:List V}(e:H a=some (.lst xs)):M6 K H (.ref a) (.type "list")
 |PY {a:Addr}{o:Obj}{xs:List V}(e:H a=some (.PY o (.lst xs))):M6 K H (.ref a) (.type "list")
 |tup {a:Addr}{xs:List V}(e:H a=some (.tup xs)):M6 K H (.ref a) (.type "tuple")
 |dK {a:Addr}{kvs:List (Key×V)}(e:H a=some (.dK kvs)):M6 K H (.ref a) (.type "dict")
 |dT {a:Addr}{kvs:List (List Key×V)}(e:H a=some (.dT kvs)):M6 K H (.ref a) (.type "dict")
 |ins {a C dx:Addr}{fs:List (Str×V)}(e:H a=some (.ins C dx fs)) (cl:ON K C) (ha:PySem.W.findIn K (.ref C) "__class__"=some (some (.builtin "object.__class__")))
   (hn:PySem.W.specialIn K (.builtin "object.__class__") "__get__"=some (some (.builtin "getset_descriptor.__get__"))) (htk:PySem.W.takesIn K (.builtin "object.__class__")=some true)
   (hm:PySem.W.mroIn K C (.type "object")=some true):M6 K H (.ref a) (.ref C)
end
structure Kn (k:Nat) (A:Around):Prop where
 hd:A.handled=none
 dp:A.depth+3*k+5<recursionLimit
 un:A.units+16*k+200<cLine
 gd:A.guards=some []
theorem Kn.mono {j k:Nat}{A:Around}(r:Kn k A)(h:j<=k):Kn j A:=⟨r.hd,by have:=r.dp;omega,by have:=r.un;omega,r.gd⟩
theorem Kn.deeper {k:Nat}{A:Around}(r:Kn (k+1) A)(env:Env):Kn k (A.deeper env):=
 ⟨r.hd,by have:=r.dp;show A.depth+1+3*k+5 < _;omega,by have:=r.un;show A.units+3+16*k+200 < _;omega,r.gd⟩
theorem xB {A:Around}{C:Addr}{us:List Value}{kw:List (Str×Value)}:(A.under (.builtin "type.__call__" ⟨.ref C::us,kw⟩)).depth=A.depth+1:=by
 first |rfl |simp[Around.under,Code.weight,Code.isCreation,Code.isGuard,Code.isCaller,Code.frames,Code.isFrame,guardIds]
theorem xA {A:Around}{C:Addr}{us:List Value}{kw:List (Str×Value)}:(A.under (.builtin "type.__call__" ⟨.ref C::us,kw⟩)).units=A.units+1:=by
 first |rfl |simp[Around.under,Code.cUnits,Code.frames,Code.isFrame]
theorem vG {A:Around}{C:Addr}{us:List Value}{kw:List (Str×Value)}:(A.under (.builtin "type.__call__" ⟨.ref C::us,kw⟩)).guards=A.guards:=by
 first |rfl |simp[Around.under,Code.guards,Code.isGuard,guardIds,pushGuards]
theorem Kn.make {k:Nat}{A:Around}(r:Kn (k+1) A)(C:Addr)(us:List Value)(kw:List (Str×Value)):Kn k (A.under (.builtin "type.__call__" ⟨.ref C::us,kw⟩)):=
 ⟨r.hd,by have:=r.dp;rw[xB];omega,by have:=r.un;rw[xA];omega,by rw[vG];exact r.gd⟩
theorem Kn.depth {k:Nat}{A:Around}(r:Kn k A):A.depth<recursionLimit:=by have:=r.dp;omega
theorem Kn.units {k:Nat}{A:Around}(r:Kn k A):A.units+64<cLine:=by have:=r.un;omega
def sK:TA:=λ_ H Q=>Q [] H
def EJ (d:TE)(e:TA):TA:=λa H Q=>d a H λx c=>e a c λb f=>Q (x::b) f
section
variable {X:Cx}{e:Expr}{es:List Expr}{te:TE}{t:TA}{pos:Pos}
theorem KS:PA X [] sK:=λ_ _ _ _ H Q I h=>Calls.spliced_nil ⟨[],H,I,.nil,h⟩
theorem cQ (l:PE X e te)(o:PA X es t)(p:starEach (e::es) X.env=(false,eval e X.env)::starEach es X.env:=by rfl):PA X (e::es) (EJ te t):=by intro pos a s b H Q I h;rw[p];show wpAny _ _ (spliced ((false,eval e X.env)::backTo pos (starEach es X.env))) _ _ s;refine Calls.spliced_cons (Kd (l a s b H _ I h) λu n c=>?_);obtain⟨x,g,m,r,k⟩:=c;exact Kd (o pos a n b g _ m k) λv w ⟨d,i,q,f,j⟩=>⟨x::d,i,q,.cons r f,j⟩
def Ic (t:TA):TE:=λc H Q=>t c H λa b=>a.length<=sizeLine/\∀ p,b p=none->Q (.ref p) (upd b p (.tup a))
def Ig (t:TA):TE:=λc H Q=>t c H λa b=>a.length<=sizeLine/\∀ p,b p=none->Q (.ref p) (upd b p (.lst a))
theorem FP {x1}(h:PA X es t):PE X (.Tuple es x1 pos) (Ic t):=by intro a s j H Q I i;refine wpAny_Tuple_spliced (Kd (h pos a s j H _ I i) λl c ⟨g,d,f,r,z,q⟩=>⟨by rw[← r.length];exact z,?_⟩);have k:d c.heap.objs.size=none:=f.Kj.fresh (le_refl _);refine⟨.ref c.heap.objs.size,upd d c.heap.objs.size (.tup g),f.laid (t':=c.toks) (λb u e=>Heap.get?_push_of_some _ e) (le_refl _) ?_,rfl,q _ k⟩;exact⟨z,l,r,Nq.new _ _⟩
theorem xq (h:PA X es t):PE X (.List es pos) (Ig t):=by intro a s j H Q I i;refine wpAny_List_spliced (Kd (h pos a s j H _ I i) λl c ⟨g,d,f,r,z,q⟩=>⟨by rw[← r.length];exact z,?_⟩);have k:d c.heap.objs.size=none:=f.Kj.fresh (le_refl _);refine⟨.ref c.heap.objs.size,upd d c.heap.objs.size (.lst g),f.laid (t':=c.toks) (λb u e=>Heap.get?_push_of_some _ e) (le_refl _) ?_,rfl,q _ k⟩;exact⟨z,l,0,r,Heap.get?_push_size _ rfl⟩
end
abbrev Sp:=List V->Hp->VK->XK->Prop
abbrev PZ:=List Env->Hp->Shared->XK->JL
structure OO (P:Program) (w:World) (K:JK) (mg:JN) (base:Heap) (A:Around) (outer:List Env) (s:Shared) (H:Hp):Prop where
 frames:A.frames=some outer
 mod:Mod K mg base
 bs:∀ b o,base.get? b=some o->s.heap.get? b=some o/\H b=none
 QY:base.objs.size<=s.heap.objs.size
 MQ:s.heap.FunFrames base outer
 R6:∀ b∈Pp outer,H b=none
 Kj:L8 P w H s.heap
 bare:AllBare s.gens
def CE (outer:List Env)(P:Program)(w:World)(H:Hp)(s:Shared)(Q:VK)(u:Value)(s':Shared):Prop:=
 ∃ v a,s'.os=s.os/\AllBare s'.gens/\Un (Pp outer) [] H a s.heap s'.heap/\L8 P w a s'.heap/\RelV v u/\Q v a
def CR (CX:PZ)(outer:List Env)(P:Program)(w:World)(H:Hp)(s:Shared)(Q:VK)(E:XK)(r:Result)(s':Shared):Prop:=
 match r with
 | .ok (.ret u)=>CE outer P w H s Q u s'
 | .ok _=>False
 | .error e=>CX outer H s E e s'
structure LG (P:Program) (w:World) (K:JK) (mg:JN) (base:Heap) (CX:PZ) (k:Nat) (f:Addr) (fd:FuncData) (ps:List Str) (sp:Sp):Prop where
 len:∀ vs H Q E,sp vs H Q E->vs.length=ps.length
 run:∀ (A:Around) (outer:List Env) (s:Shared) (H:Hp) (args:Args) (us:List Value) (vs:List V) (Q:VK) (E:XK),Kn k A->OO P w K mg base A outer s H->BindsTo s fd args (ps.zip us)->Vals vs us->sp vs H Q E ->
  codeAny (model P w) A (.call (.ref f) args) (CR CX outer P w H s Q E) s
theorem LG.imp {P:Program}{w:World}{K:JK}{mg:JN}{base:Heap}{CX:PZ}{k:Nat}{f:Addr}{fd:FuncData}{b:List Str}{sp a:Sp}(F:LG P w K mg base CX k f fd b sp)
  (h:∀ vs H Q E,a vs H Q E->sp vs H Q E):LG P w K mg base CX k f fd b a:=
 ⟨λvs H Q E q=>F.len vs H Q E (h _ _ _ _ q),λA outer s H args i vs Q E g d e c j=>F.run A outer s H args i vs Q E g d e c (h _ _ _ _ j)⟩
theorem OO.make {P:Program}{w:World}{K:JK}{mg:JN}{base:Heap}{A:Around}{outer:List Env}{s:Shared}{H:Hp}(e:OO P w K mg base A outer s H)(C:Addr)(us:List Value)(kw:List (Str×Value)) :
  OO P w K mg base (A.under (.builtin "type.__call__" ⟨.ref C::us,kw⟩)) outer s H:=⟨by first |exact e.frames |(simpa [Around.under,Code.envs,Code.isFrame,pushEnvs] using e.frames),e.mod,e.bs,e.QY,e.MQ,e.R6,e.Kj,e.bare⟩
section
variable {X:Cx}{pins:JM}{σ:St}{H:Hp}{s s':Shared}
theorem Inv.T1 (I:Inv X pins σ H s):OO X.prog X.w X.K X.mg X.base X.A X.stack s H:=
 ⟨I.ok.frames,I.ok.mod,I.bs,Nat.le_trans I.ok.QY I.sz,I.stack,I.O7,I.Kj,I.bare⟩
theorem Inv.after {Q:VK}{u:Value}(I:Inv X pins σ H s)(h:CE X.stack X.prog X.w H s Q u s'):EP X pins σ Q u s':=by obtain⟨v,c,os,bare,un,Kj,r,q⟩:=h;obtain⟨a,g,d,t,e⟩:=s';obtain rfl:e=s.os:=os;exact⟨v,c,I.call (h':=a) (g':=g) (d':=d) (t':=t) (ch:=[]) un Kj bare (λb z=>absurd z (by simp)),r,q⟩
end
def EK (sp:Sp)(b:List V)(E:XK)(t:TA):TE:=λd H Q=>t d H λc a=>sp (c++b) a Q E
def GS (C:Addr)(m:Str)(sp:Sp)(d:List V)(E:XK)(e:TE)(t:TA):TE:=λc H Q=>e c H λx b => ∃ a g fs,x = .ref a/\b a=some (.ins C g fs)/\fs.lookup m=none /\
 t c b λf h=>sp (x::(f++d)) h Q E
def GT (C:Addr)(sp:Sp)(c:List V)(E:XK)(t:TA):TE:=λf H Q=>t f H λd b => ∀ x a,b x=none->b a=none->a≠x ->
 sp (.ref x::(d++c)) (upd (upd b a (.own x)) x (.ins C a [])) (λv e=>v = .Kk/\Q (.ref x) e) E
def Binds (K:JK)(fd:FuncData)(b:List Str)(ds:List Value):Prop:=
 ∀ (s:Shared) (a:List Value),K.In s.heap->(a++ds).length=b.length->BindsTo s fd ⟨a,[]⟩ (b.zip (a++ds))
theorem Binds.all {K:JK}{fd:FuncData}{a:List Str}(h:∀ us:List Value,us.length=a.length->bindArgs fd ⟨us,[]⟩=pure (a.zip us)):Binds K fd a []:=λs us _ b=>by rw[append_nil] at b ⊢;exact .of_eq (h us b)
def Passes (CX:PZ)(X:Cx)(E:XK):Prop:=∀ (a:JM) (c:St) (H:Hp) (s:Shared) (e:Value) (b:Shared),Inv X a c H s->CX X.stack H s E e b->X.xe e b
section
variable {X:Cx}{CX:PZ}{k:Nat}{f C:Addr}{fd:FuncData}{ps:List Str}{sp:Sp}{NX:List V}{ds:List Value}{E:XK}{x m:Str}{p pos apos:Pos}{e o:Expr}{es:List Expr}{ta:TE}{t:TA}
theorem xg {a:JM}{c:St}{H:Hp}{s:Shared}{Q:VK}{us:List Value}{vs:List V}(F:LG X.prog X.w X.K X.mg X.base CX k f fd ps sp)(l:Kn k X.A)(j:Binds X.K fd ps ds)(hd:Vals NX ds)(i:Passes CX X E)
  (I:Inv X a c H s) (r:Vals vs us) (h:sp (vs++NX) H Q E):wpAny (model X.prog X.w) X.A (call (.ref f) us) (EP X a c Q) X.xe s:=by
 have d:Vals (vs++NX) (us++ds):=r.append hd;have m:(us++ds).length=ps.length:=by rw[← d.length];exact F.len _ _ _ _ h
 refine wpAny_call (codeAny_mono (F.run X.A X.stack s H ⟨us,[]⟩ (us++ds) (vs++NX) Q E l I.T1 (j s us I.NA m) d h) λr g b=>?_);cases r with
 |error e=>exact i a c H s e g I b
 |ok n =>
  cases n with
  |ret u=>exact I.after b
  |next=>exact False.elim b
  |brk=>exact False.elim b
  |cont=>exact False.elim b
theorem DP (F:LG X.prog X.w X.K X.mg X.base CX k f fd ps sp)(o:Kn k X.A)(u:Gl X x)(v:X.mg x=some (.ref f))(c:PySem.W.keepIn X.K (.ref f)=true)(n:Binds X.K fd ps ds)(hd:Vals NX ds)(i:Passes CX X E)
  (m:PA X (e::es) t) (g:(x==("__debug__":Str))=false:=by decide) (j:starEach (e::es) X.env=(false,eval e X.env)::starEach es X.env:=by rfl) (d:(backTo pos (starEach es X.env)).any (·.1)=false:=by rfl) :
  PE X (.Call (.Name x p) (e::es) [] pos) (EK sp NX E t):=by
 intro a s l H Q I h;refine wpAny_Call_Name_kw (tL I u v ?_ g);refine PySem.W.callWith_K (h₀:=X.base) I.ok.mod.Tj c (Kd (m pos a s l H _ I h) λB z ⟨C,y,b,r,q⟩=>⟨b.NA,?_⟩) j d;exact xg F o n hd i b r q
theorem DK {pl:Sem Bool}(J:PE X o ta)(c:ON X.K C)(i:Meth X.K C m f)(F:LG X.prog X.w X.K X.mg X.base CX k f fd ps sp)(P:Kn k X.A)(M:Binds X.K fd ps ds)(hd:Vals NX ds)(G:Passes CX X E)(L:PA X (e::es) t)
  (N:starEach (e::es) X.env=(false,eval e X.env)::starEach es X.env:=by rfl) (v:(backTo pos (starEach es X.env)).any (·.1)=false:=by rfl)
  (B:eval (.Call (.Attribute o m apos) (e::es) [] pos) X.env=(do
   let ov ← eval o X.env
   standAt apos.atName
   let (f,first) ← holding [ov] (getMethod ov m pl)
   callWith pos f first (backTo pos (starEach (e::es) X.env)) (backToKw pos (keywordEach [] X.env))):=by rfl) :
  PE X (.Call (.Attribute o m apos) (e::es) [] pos) (GS C m sp NX E ta t):=by
 intro b s d H Q I h;refine PySem.W.methodCall_KW (pl:=pl) (Kd (J b s d H _ I h) λu O n=>?_) B;obtain⟨x,p,g,y,a,S,fs,ex,D,l,q⟩:=n;subst ex;obtain rfl:u=Value.ref a:=y;refine pK g D c i l ?_;refine PySem.W.callWith_K (first:=[.ref a]) (h₀:=X.base) I.ok.mod.Tj i.kp (Kd (L pos b O d p _ g q) λus T ⟨vs,R,j,r,z⟩=>⟨j.NA,?_⟩) N v;exact xg (us:=.ref a::us) (vs:=.ref a::vs) F P M hd G j (.cons rfl r) z
structure Mk (K:JK) (C f:Addr):Prop where
 makes:PySem.W.makesIn K C=true
 init:PySem.W.findIn K (.ref C) "__init__"=some (some (.ref f))
 fn:PySem.W.isFn K (.ref f)=true
 kp:PySem.W.keepIn K (.ref C)=true
theorem Bl {a:JM}{g:St}{H:Hp}{s:Shared}{Q:VK}{us:List Value}{vs:List V}(M:Mk X.K C f)(F:LG X.prog X.w X.K X.mg X.base CX k f fd ps sp)(t:Kn (k+1) X.A)(q:Binds X.K fd ps ds)(hd:Vals NX ds)
  (o:Passes CX X E) (I:Inv X a g H s) (r:Vals vs us)
  (h:∀ x c,H x=none->H c=none->c≠x->sp (.ref x::(vs++NX)) (upd (upd H c (.own x)) x (.ins C c [])) (λv l=>v = .Kk/\Q (.ref x) l) E) :
  wpAny (model X.prog X.w) X.A (call (.ref C) us) (EP X a g Q) X.xe s:=by
 have j:=h (s.heap.objs.size+1) s.heap.objs.size (I.Kj.fresh (le_succ _)) (I.Kj.fresh (le_refl _)) (ne_of_lt (lt_succ_self _));have d:=Inv.made (C:=C) I;have i:Vals (V.ref (s.heap.objs.size+1)::(vs++NX)) (Value.ref (s.heap.objs.size+1)::(us++ds)):=.cons rfl (r.append hd);have B:(Value.ref (s.heap.objs.size+1)::us++ds).length=ps.length:=by have e:=i.length;rw[F.len _ _ _ _ j] at e;exact e.symm
 refine wpAny_call (B2 (f:=f) I.NA M.makes M.init (beq_iff_eq.mp M.fn) (codeAny_mono (F.run _ X.stack _ _ ⟨Value.ref (s.heap.objs.size+1)::us,[]⟩ (Value.ref (s.heap.objs.size+1)::(us++ds)) _ _ E (t.make C us [])
  (d.T1.make C us []) (q _ (Value.ref (s.heap.objs.size+1)::us) d.NA B) i j) λr n b=>?_))
 cases r with
 |error e=>exact o a g _ _ e n d b
 |ok D =>
  cases D with
  |ret u =>
   obtain⟨v,y,p,m,ev,z⟩:=d.after b;subst ev;exact⟨m,⟨V.ref (s.heap.objs.size+1),y,p,rfl,z⟩⟩
  |next=>exact False.elim b
  |brk=>exact False.elim b
  |cont=>exact False.elim b
theorem DL (M:Mk X.K C f)(F:LG X.prog X.w X.K X.mg X.base CX k f fd ps sp)(n:Kn (k+1) X.A)(o:Gl X x)(u:X.mg x=some (.ref C))(m:Binds X.K fd ps ds)(hd:Vals NX ds)(g:Passes CX X E)
  (l:PA X (e::es) t) (d:(x==("__debug__":Str))=false:=by decide) (i:starEach (e::es) X.env=(false,eval e X.env)::starEach es X.env:=by rfl) (c:(backTo pos (starEach es X.env)).any (·.1)=false:=by rfl) :
  PE X (.Call (.Name x p) (e::es) [] pos) (GT C sp NX E t):=by
 intro a s j H Q I h;refine wpAny_Call_Name_kw (tL I o u ?_ d);refine PySem.W.callWith_K (h₀:=X.base) I.ok.mod.Tj M.kp (Kd (l pos a s j H _ I h) λz y ⟨B,v,b,r,q⟩=>⟨b.NA,?_⟩) i c;exact Bl M F n m hd g b r q
end
section
variable {X:Cx}{CX:PZ}{k:Nat}{f C:Addr}{fd:FuncData}{ps ks:List Str}{sp:Sp}{E:XK}{x m:Str}{p pos apos Zb:Pos}{e o:Expr}{es:List Expr}{kws:List Keyword}{te ta:TE}{t tk:TA}{nm:Option Str}
structure VY (K:JK) (fd:FuncData) (ps ks:List Str) (g:List Value->List Value->List Value) (gV:List V->List V->List V):Prop where
 to:∀ (s:Shared) (us ws:List Value),K.In s.heap->(g us ws).length=ps.length->BindsTo s fd ⟨us,ks.zip ws⟩ (ps.zip (g us ws))
 rel:∀ {vs:List V}{us:List Value}{zs:List V}{ws:List Value},Vals vs us->Vals zs ws->Vals (gV vs zs) (g us ws)
variable {g:List Value->List Value->List Value}{gV:List V->List V->List V}
end
structure JR (N P:List Str) (sc:Scope):Prop where
 kind:sc.kind = .function
 co:sc.isCoroutine=false
 gen:sc.isGenerator=false
 nd:N.Nodup
 pre:N.take P.length=P
 par:∀ x∈P,sc.names.lookup x=some .local∨sc.names.lookup x=some .cell
 Sf:∀ y∈sc.names,y.2≠.free
theorem rZ {kindOf:Str->Option NameKind}{x:Str}:∀ {binds:List (Str×Value)}{m:JN},(∀ v,(x,v)∉binds)->bindL kindOf binds m x=m x
 |[],_,_=>rfl
 |(n,v)::r,m,h=>by
  unfold bindL;rw[rZ λw a=>h w (mem_cons_of_mem _ a)];split
  ·have:x≠n:=by rintro rfl;exact h v mem_cons_self
   simp[this]
  rfl
theorem r8 {kindOf:Str->Option NameKind}{x:Str}:∀ {binds:List (Str×Value)}{m:JN},(∀ v,(x,v)∉binds)->bindC kindOf binds m x=m x
 |[],_,_=>rfl
 |(n,v)::r,m,h=>by
  unfold bindC;rw[r8 λw a=>h w (mem_cons_of_mem _ a)];split
  ·rfl
  have:x≠n:=by rintro rfl;exact h v mem_cons_self
  simp[this]
theorem r6 {kindOf:Str->Option NameKind}{x:Str}{v:Value}:∀ {P:List Str}{vs:List Value}{i:Nat}{m:JN},P.Nodup->P[i]?=some x->vs[i]?=some v->kindOf x=some .local ->
  bindL kindOf (P.zip vs) m x=some v
 |[],_,_,_,_,h,_,_=>by simp at h
 |_::_,[],_,_,_,_,h,_=>by simp at h
 |p::P,w::vs,0,m,nd,h1,h2,hk=>by
  simp at h1 h2;subst h1;subst h2;show bindL kindOf ((p,w)::P.zip vs) m p=_;unfold bindL;rw[rZ λv a=>(nodup_cons.mp nd).1 (of_mem_zip a).1,if_pos hk];simp
 |p::P,w::vs,i+1,m,nd,h1,h2,hk=>by
  show bindL kindOf ((p,w)::P.zip vs) m x=_;unfold bindL;exact r6 (i:=i) (nodup_cons.mp nd).2 (by simpa using h1) (by simpa using h2) hk
theorem r9 {kindOf:Str->Option NameKind}{x:Str}{v:Value}:∀ {P:List Str}{vs:List Value}{i:Nat}{m:JN},P.Nodup->P[i]?=some x->vs[i]?=some v->kindOf x≠some .local ->
  bindC kindOf (P.zip vs) m x=some v
 |[],_,_,_,_,h,_,_=>by simp at h
 |_::_,[],_,_,_,_,h,_=>by simp at h
 |p::P,w::vs,0,m,nd,h1,h2,hk=>by
  simp at h1 h2;subst h1;subst h2;show bindC kindOf ((p,w)::P.zip vs) m p=_;unfold bindC;rw[r8 λv a=>(nodup_cons.mp nd).1 (of_mem_zip a).1,if_neg hk];simp
 |p::P,w::vs,i+1,m,nd,h1,h2,hk=>by
  show bindC kindOf ((p,w)::P.zip vs) m x=_;unfold bindC;exact r9 (i:=i) (nodup_cons.mp nd).2 (by simpa using h1) (by simpa using h2) hk
def start (N:List Str)(vs:List V):St:=vs.map some++replicate (N.length-vs.length) none
def mL (CX:PZ)(P:Program)(w:World)(K:JK)(mg:JN)(base:Heap)(N:List Str)(qual:Str)(scope:Scope)(f:Addr)(a:Value)(A:Around)(outer:List Env)(s:Shared)(H:Hp)(E:XK):Cx where
 prog:=P
 w:=w
 K:=K
 mg:=mg
 base:=base
 A:=A.deeper (envOfC qual scope s.heap.objs.size f a)
 N:=N
 s₀:=s
 H₀:=H
 env:=envOfC qual scope s.heap.objs.size f a
 outer:=outer
 stack:=envOfC qual scope s.heap.objs.size f a::outer
 ex:=[]
 calm:=true
 fn:=λ_=>true
 pn:=[]
 xe:=λe c=>wpAny (model P w) (A.deeper (envOfC qual scope s.heap.objs.size f a)) (leaving (envOfC qual scope s.heap.objs.size f a) e) (λ_ b=>CX outer H s E e b) (λd b=>CX outer H s E d b) c
theorem we {sc:Scope}{n:Nat}{x:Str}(h:sc.names.lookup x=some .cell):∃ c,(cellsFrom n sc.names []).lookup x=some c:=by have q:=PySem.W.cellsFrom_some sc.names n [] (.inl h);exact Option.isSome_iff_exists.mp q
theorem Ao {CX:PZ}{P:Program}{w:World}{K:JK}{mg:JN}{base:Heap}{N j:List Str}{qual:Str}{scope:Scope}{f:Addr}{t:Value}{A:Around}{outer:List Env}{s D:Shared}{H:Hp}{E:XK}{us:List Value}{vs:List V}
  (S:JR N j scope) (hd:A.handled=none) (g:OO P w K mg base A outer s H) (O:vs.length=j.length) (r:Vals vs us)
  (x:InCallC s s.heap.objs.size (bindL (envOfC qual scope s.heap.objs.size f t).kindOf (j.zip us) λ_=>none) (cellsFrom (s.heap.objs.size+1) scope.names []) (bindC (envOfC qual scope s.heap.objs.size f t).kindOf (j.zip us) λ_=>none) D) :
  Inv (mL CX P w K mg base N qual scope f t A outer s H E) [] (start N vs) H D:=by
 have L:j.length<=N.length:=by have:=congrArg List.length S.pre;rw[length_take] at this;omega
 obtain⟨o,tk,rfl,C⟩:=x.done;have B:∀ b:Addr,b∉(mL CX P w K mg base N qual scope f t A outer s H E).ex:=λb z=>absurd (show b∈([]:List Addr) from z) (by simp)
 refine⟨⟨g.mod,S.kind,rfl,rfl,le_refl _,λy z c o d=>?_,λy hy=>?_,λy c _ h=>?_,λ_=>hd,Around.frames_deeper g.frames,.inr ⟨rfl,rfl⟩,λb z=>absurd z (B b),g.bs,g.QY,λb _ _=>B b,λb z=>absurd z (B b),g.MQ,g.R6⟩,
  rfl,g.bare,Un.kept C,⟨_,x.toInCall.ns,λi y v o d M=>?_⟩,λy c h=>⟨_,x.cell y c h⟩,g.Kj.fresh (le_refl _),λy c h=>?_,λp l=>absurd (show p∈([]:JM) from l) (by simp),g.Kj.kept C,?_⟩
 ·exact name_of_addr x.apart (PySem.mem_of_lookup o) (PySem.mem_of_lookup d)
 ·have hy:scope.names.lookup y=some .cell∨scope.names.lookup y=some .free:=hy;rcases hy with hy |hy
  ·exact we hy
  exact absurd rfl (S.Sf _ (PySem.mem_of_lookup hy))
 ·exact Nat.le_of_lt (x.above y c (PySem.mem_of_lookup h))
 ·have m:i<vs.length:=by
   unfold start at d;by_cases m:i<vs.length
   ·exact m
   rw[getElem?_append_right (by simpa using m)] at d;rw[getElem?_replicate] at d;split at d<;>cases d
  have J:vs[i]?=some v:=by
   unfold start at d;rw[getElem?_append_left (by simpa using m),getElem?_map] at d;cases e:vs[i]? with
   |none=>rw[e] at d;cases d
   |some a=>rw[e] at d;cases d;rfl
  obtain⟨u,F,I⟩:=r.get J;have l:j[i]?=some y:=by rw[← S.pre,List.getElem?_take_of_lt (by omega)];exact o
  have G:j.Nodup:=by rw[← S.pre];exact S.nd.sublist (List.take_sublist _ _)
  refine⟨u,I,?_⟩;rcases S.par y (mem_of_getElem? l) with k |k
  ·exact .inl ⟨k,r6 G l F k⟩
  obtain⟨c,e⟩:=we (n:=s.heap.objs.size+1) k;refine .inr ⟨.inl k,c,e,?_⟩;have q:=x.cell y c e;rw[r9 G l F (by show scope.names.lookup y≠_;rw[k];decide)] at q;exact q
 ·exact g.Kj.fresh (Nat.le_of_lt (x.above y c (PySem.mem_of_lookup h)))
 unfold start;show _=N.length;rw[List.length_append,length_map,length_replicate];omega
theorem Hu {CX:PZ}{P:Program}{w:World}{K:JK}{mg:JN}{base:Heap}{k:Nat}{f:Addr}{name qual:Str}{params:Arguments}{body:List Stmt}{scope:Scope}{C kV doc z c ct oc:Value}{D U:Option Addr}
  {T:Array (Option Value)}{N h:List Str}{sp:Sp}(Y:K.lookup f=some ⟨oc,U,.func (PySem.W.fnOf name qual params body scope C kV doc z D c ct),T⟩) (O:PySem.W.codeIn K c qual=true) (S:JR N h scope)
  (len:∀ vs H Q E,sp vs H Q E->vs.length=h.length)
  (Og:∀ (A:Around) (outer:List Env) (s:Shared) (H:Hp) (vs:List V) (Q:VK) (E:XK),Kn k (A.deeper (envOfC qual scope s.heap.objs.size f c))->sp vs H Q E ->
   ∃ t,Of (mL CX P w K mg base N qual scope f c A outer s H E) body t/\t { nx:=λ_ H'=>Q .Kk H',rt:=Q } (start N vs) H) :
  LG P w K mg base CX (k+1) f (PySem.W.fnOf name qual params body scope C kV doc z D c ct) h sp:=by
 refine⟨len,λA outer s H args us vs Q E j g L r p=>?_⟩;have hl:=len _ _ _ _ p;have KX:K.In s.heap:=g.mod.Tj.keeps λb o e=>(g.bs b o e).1;have i:s.heap.NoLimit:=g.mod.nolimit.keeps λb o e=>(g.bs b o e).1
 have Z:∀ y∈h.zip us,scope.names.lookup y.1=some .local∨(scope.names.lookup y.1=some .cell/\((cellsFrom (s.heap.objs.size+1) scope.names []).lookup y.1).isSome=true):=λX M=>by
  obtain⟨n,v⟩:=X
  rcases S.par n (of_mem_zip M).1 with q |q
  ·exact .inl q
  exact .inr ⟨q,PySem.W.cellsFrom_some _ _ _ (.inl q)⟩
 refine codeAny_call_function j.depth (KX _ _ Y) rfl S.co S.gen rfl (PySem.W.codeRec_of KX O) (L _ _ _ _ ?_);refine wpAny_newFunctionEnv_cells S.kind Z λenv G B x=>?_;subst G;refine⟨i.keeps x.toInCall.keep,codeAny_func ?_⟩;obtain⟨t,F,R⟩:=Og A outer s H vs Q E (j.deeper _) p;have I:Inv (mL CX P w K mg base N qual scope f c A outer s H E) [] (start N vs) H B:=Ao S j.hd g hl r x;refine wpAny_mono (F [] B (start N vs) H _ I R) (λfl m d=>?_) λe m d=>d
 have fin:∀ {a:St}{H':Hp}{v:V}{u:Value},Inv (mL CX P w K mg base N qual scope f c A outer s H E) [] a H' m->RelV v u->Q v H'->CE outer P w H s Q u m:=
  λ{a H' v u} J l q=>⟨v,H',J.os,J.bare,J.base,J.Kj,l,q⟩
 cases fl with
 |ret u =>
  obtain⟨v,a,H',J,l,q⟩:=d;exact fin J l q
 |next =>
  obtain⟨a,H',J,q⟩:=d;exact fin (v:=V.Kk) (u:=Value.none) J rfl q
 |brk =>
  obtain⟨_,_,_,q⟩:=d;exact False.elim q
 |cont =>
  obtain⟨_,_,_,q⟩:=d;exact False.elim q
section
variable {X:Cx}{x:Str}{p pos:Pos}{e:Expr}{es:List Expr}{t:TA}{id T:String}{r:List V->Hp->VK->Prop}
def VZ (r:List V->Hp->VK->Prop)(t:TA):TE:=λc H Q=>t c H λb a=>r b a Q
theorem jj (k:gm X (.builtin id) r)(q:Gl X x)(v:X.mg x=none)(f:bootBuiltins x=some (.builtin id))(m:PA X (e::es) t)(c:x≠"__name__":=by decide)(j:(x==("__debug__":Str))=false:=by decide)
  (l:starEach (e::es) X.env=(false,eval e X.env)::starEach es X.env:=by rfl) (g:(backTo pos (starEach es X.env)).any (·.1)=false:=by rfl):PE X (.Call (.Name x p) (e::es) [] pos) (VZ r t):=by
 intro a s b H Q I h;refine wpAny_Call_Name_kw (kL I q v f ?_ c j);exact PyProof.Rows.callWith_builtin1 (Kd (m pos a s b H _ I h) λu o ⟨w,d,n,y,i⟩=>k a o b d w u Q n y i) l g
theorem hV (k:gm X (.type T) r)(q:Gl X x)(v:X.mg x=none)(f:bootBuiltins x=some (.type T))(m:PA X (e::es) t)(c:x≠"__name__":=by decide)(j:(x==("__debug__":Str))=false:=by decide)
  (l:starEach (e::es) X.env=(false,eval e X.env)::starEach es X.env:=by rfl) (g:(backTo pos (starEach es X.env)).any (·.1)=false:=by rfl):PE X (.Call (.Name x p) (e::es) [] pos) (VZ r t):=by
 intro a s b H Q I h;refine wpAny_Call_Name_kw (kL I q v f ?_ c j);exact PyProof.Rows.callWith_type1 (Kd (m pos a s b H _ I h) λu o ⟨w,d,n,y,i⟩=>k a o b d w u Q n y i) l g
end
section
variable {κ:Type} [DecidableEq κ]
def lc (kvs:List (κ×V))(k : κ):Option V:=(kvs.find? λa=>decide (a.1=k)).map (·.2)
def putK (kvs:List (κ×V))(k : κ)(v:V):List (κ×V):=
 if (kvs.any λa=>decide (a.1=k))=true then kvs.map (λa=>if a.1=k then (a.1,v) else a) else kvs++[(k,v)]
theorem oJ {p : κ×V}{r:List (κ×V)}{k : κ}(e:p.1=k):lc (p::r) k=some p.2:=by simp[lc,find?_cons,e]
theorem oK {p : κ×V}{r:List (κ×V)}{k : κ}(e:¬ p.1=k):lc (p::r) k=lc r k:=by simp[lc,find?_cons,e]
theorem uN (k : κ):∀ kvs:List (κ×V),(kvs.any λa=>decide (a.1=k))=(lc kvs k).isSome
 |[]=>rfl
 |p::r=>by
  rw[any_cons];by_cases e:p.1=k
  ·simp only[oJ e,decide_eq_true e,Bool.true_or,Option.isSome_some]
  rw[oK e,decide_eq_false e,Bool.false_or];exact uN k r
theorem nI (kvs:List (κ×V))(k : κ)(v:V):(putK kvs k v).length<=kvs.length+1:=by
 unfold putK;split
 ·rw[length_map];omega
 rw[List.length_append,length_cons,length_nil];omega
theorem LF.K6 {o:Option V}{u:Option Value}(r:LF o u):o.isSome=u.isSome:=by
 cases o with
 |none=>cases u with
  |none=>rfl
  |some _=>exact(show False from r).elim
 |some _=>cases u with
  |none=>exact(show False from r).elim
  |some _=>rfl
theorem KV.val {kvs:List (κ×V)}{vs:List (κ×Value)}(r:KV kvs vs)(k : κ):LF (lc kvs k) (valueAt vs k):=by
 unfold KV at r
 induction r with
 |nil=>exact True.intro
 | @cons p q i a h t g =>
  obtain⟨d,f⟩:=h;by_cases e:p.1=k
  ·have c:q.1=k:=d.symm.trans e;have b:valueAt (q::a) k=some q.2:=by simp[valueAt,find?_cons,c]
   rw[oJ e,b];exact f
  have c:¬ q.1=k:=λz=>e (d.trans z);have b:valueAt (q::a) k=valueAt a k:=by simp[valueAt,find?_cons,c]
  rw[oK e,b];exact g
theorem KV.any {kvs:List (κ×V)}{vs:List (κ×Value)}(r:KV kvs vs)(k : κ):(kvs.any λa=>decide (a.1=k))=vs.any λa=>decide (a.1=k):=by
 unfold KV at r
 induction r with
 |nil=>rfl
 |cons h t b=>rw[any_cons,any_cons,b,h.1]
theorem KV.Si {kvs:List (κ×V)}{vs:List (κ×Value)}(r:KV kvs vs)(k : κ){y:V}{u:Value}(d:RelV y u) :
  KV (kvs.map λa=>if a.1=k then (a.1,y) else a) (vs.map λa=>if a.1=k then (a.1,u) else a):=by
 unfold KV at r ⊢
 induction r with
 |nil=>exact .nil
 | @cons p q i g h t f =>
  rw[map_cons,map_cons];refine .cons ?_ f;obtain⟨b,c⟩:=h;by_cases e:p.1=k
  ·rw[if_pos e,if_pos (b.symm.trans e)];exact⟨b,d⟩
  rw[if_neg e,if_neg (λz=>e (b.trans z))];exact⟨b,c⟩
theorem KV.put {kvs:List (κ×V)}{vs:List (κ×Value)}(r:KV kvs vs)(k : κ){y:V}{u:Value}(a:RelV y u):KV (putK kvs k y) (stored vs k u):=by
 unfold putK stored;rw[r.any k];by_cases e:(vs.any λb=>decide (b.1=k))=true
 ·rw[if_pos e,if_pos e];exact r.Si k a
 rw[if_neg e,if_neg e];exact Paired.snoc r ⟨rfl,a⟩
theorem KV.length {kvs:List (κ×V)}{vs:List (κ×Value)}(r:KV kvs vs):kvs.length=vs.length:=Paired.length r
end
theorem rj {P:Program}{w:World}{k:Key}{u:Value}(r:RelV (kV k) u):(bD P w).is k u=true:=by
 cases k with
 |inl i=>obtain⟨t,e⟩:=(show ∃ t,u=Value.int i t from r);subst e;exact vD P w i t
 |inr x=>obtain⟨t,e⟩:=(show ∃ t,u=Value.str x t from r);subst e;exact vC P w x t
theorem rm {P:Program}{w:World}:∀ {a:List Key}{us:List Value},Vals (a.map kV) us->ItemsAre (bD P w) a us
 |[],_,r=>by rw[map_nil] at r;cases r;exact .nil
 |k::a,_,r=>by
  rw[map_cons] at r;cases r with
  |cons h t=>exact .cons (rj h) (rm t)
abbrev KT (H:Hp):List (List Key×V)->List (List Key×Addr×Value)->Prop:=Paired λp q=>p.1=q.1/\H q.2.1=some (.tup (p.1.map kV))/\RelV p.2 q.2.2
theorem KT.val {H:Hp}{kvs:List (List Key×V)}{d:List (List Key×Addr×Value)}(r:KT H kvs d)(k:List Key):LF (lc kvs k) ((atKey d k).map (·.2)):=by
 induction r with
 |nil=>exact True.intro
 | @cons p q j a h t i =>
  obtain⟨f,_,g⟩:=h;by_cases e:p.1=k
  ·have c:q.1=k:=f.symm.trans e;have b:atKey (q::a) k=some q.2:=by simp[atKey,find?_cons,c]
   rw[oJ e,b];exact g
  have c:¬ q.1=k:=λz=>e (f.trans z);have b:atKey (q::a) k=atKey a k:=by simp[atKey,find?_cons,c]
  rw[oK e,b];exact i
theorem KT.Si {H:Hp}{kvs:List (List Key×V)}{c:List (List Key×Addr×Value)}(r:KT H kvs c)(k:List Key){y:V}{u:Value}(f:RelV y u) :
  KT H (kvs.map λb=>if b.1=k then (b.1,y) else b) (c.map (putAt k u)):=by
 induction r with
 |nil=>exact .nil
 | @cons p q l j h t g =>
  rw[map_cons,map_cons];refine .cons ?_ g;obtain⟨a,d,i⟩:=h;unfold putAt;by_cases e:p.1=k
  ·rw[if_pos e,if_pos (a.symm.trans e)];exact⟨a,d,f⟩
  rw[if_neg e,if_neg (λz=>e (a.trans z))];exact⟨a,d,i⟩
theorem KT.put {H:Hp}{kvs:List (List Key×V)}{a:List (List Key×Addr×Value)}(r:KT H kvs a)(k:List Key){b:Addr}{y:V}{u:Value}(d:H b=some (.tup (k.map kV)))(c:RelV y u) :
  KT H (putK kvs k y) (storedH a k b u):=by
 have e:(kvs.any λf=>decide (f.1=k))=(atKey a k).isSome:=by rw[uN,(r.val k).K6,isSome_map]
 unfold putK storedH;rw[e];by_cases q:(atKey a k).isSome=true
 ·rw[if_pos q,if_pos q];exact r.Si k c
 rw[if_neg q,if_neg q];exact Paired.snoc r ⟨rfl,d,c⟩
theorem KT.keeps {H H':Hp}{kvs:List (List Key×V)}{a:List (List Key×Addr×Value)}(r:KT H kvs a)(c:∀ b ys,H b=some (.tup ys)->H' b=some (.tup ys)):KT H' kvs a:=
 Paired.NS r λ_ _ z=>⟨z.1,c _ _ z.2.1,z.2.2⟩
section
variable {P:Program}{w:World}{H:Hp}{h:Heap}{a:Addr}
theorem EO {u:HO}(ok:L8 P w H h)(e:Rd H a u):Ku P w H h a u:=e.ok ok
theorem v7 {kvs:List (Key×V)}(ok:L8 P w H h)(e:Rd H a (.dK kvs)):kvs.length<=sizeLine/\(a==sysModules)=false/\∃ vs,KV kvs vs/\h.DictOf (bD P w) a vs:=
 show Ku P w H h a (.dK kvs) from EO ok e
theorem HF {kvs:List (Key×V)}(ok:L8 P w H h)(e:H a=some (.dK kvs)):kvs.length<=sizeLine/\(a==sysModules)=false/\∃ vs,KV kvs vs/\h.DictOf (bD P w) a vs:=v7 ok (.inl e)
theorem pD {b:List Key}(ok:L8 P w H h)(e:H a=some (.tup (b.map kV))):(tupleKind (bD P w)).is h b a:=by obtain⟨_,its,r,p⟩:=(show Ku P w H h a (.tup (b.map kV)) from ok a _ e);obtain⟨o,f,c,n,d⟩:=p.tup;exact⟨o,its.toArray,n,f,c,d,by simpa using rm r⟩
theorem v6 {kvs:List (List Key×V)}(ok:L8 P w H h)(e:Rd H a (.dT kvs)):kvs.length<=sizeLine/\(a==sysModules)=false /\
  ∃ b,KT H kvs b/\h.DictOfH (tupleKind (bD P w)) a b:=by
 obtain⟨z,y,b,r,o,es,ep,i,f,k,g,d⟩:=(show Ku P w H h a (.dT kvs) from EO ok e);refine⟨z,y,b,r,o,es,ep,i,f,k,g,λx hx=>?_,d⟩
 have all:∀ {l:List (List Key×V)}{m:List (List Key×Addr×Value)},KT H l m->∀ x∈m,(tupleKind (bD P w)).is h x.1 x.2.1:=by
  intro l m q
  induction q with
  |nil=>intro x hx;exact nomatch hx
  | @cons p q s n c t j =>
   intro x hx;rcases mem_cons.mp hx with e |hx
   ·subst e;exact pD ok (by rw[← c.1];exact c.2.1)
   exact j x hx
 exact all r x hx
theorem HE {kvs:List (List Key×V)}(ok:L8 P w H h)(e:H a=some (.dT kvs)):kvs.length<=sizeLine/\(a==sysModules)=false /\
  ∃ b,KT H kvs b/\h.DictOfH (tupleKind (bD P w)) a b:=v6 ok (.inl e)
end
def MR (H:Hp)(a:Addr)(y:V)(r:Option V):Prop:=
 (∃ c k,Rd H a (.dK c)/\y=kV k/\r=lc c k)∨∃ c k b,Rd H a (.dT c)/\y = .ref b/\H b=some (.tup (k.map kV))/\r=lc c k
def Qi (H:Hp)(a:Addr)(y v:V)(H':Hp):Prop:=
 (∃ c k,H a=some (.dK c)/\y=kV k/\c.length<sizeLine/\H'=upd H a (.dK (putK c k v))) ∨
 ∃ c k b,H a=some (.dT c)/\y = .ref b/\H b=some (.tup (k.map kV))/\c.length<sizeLine/\H'=upd H a (.dT (putK c k v))
theorem MR.k {H:Hp}{a:Addr}{kvs:List (Key×V)}{k:Key}(e:H a=some (.dK kvs)):MR H a (kV k) (lc kvs k):=.inl ⟨kvs,k,.inl e,rfl,rfl⟩
theorem Qi.k {H:Hp}{a:Addr}{kvs:List (Key×V)}{k:Key}{v:V}(e:H a=some (.dK kvs))(b:kvs.length<sizeLine):Qi H a (kV k) v (upd H a (.dK (putK kvs k v))):=.inl ⟨kvs,k,e,rfl,b,rfl⟩
section
variable {X:Cx}{pins:JM}{σ:St}{H:Hp}{s:Shared}{a:Addr}{y v:V}{u r:Value}{o:Option V}{A:Around}{E:JL}
theorem Inv.big (I:Inv X pins σ H s):sysModules<s.heap.objs.size:=by have h:mainGlobals<s.heap.objs.size:=(I.mod.glob.keeps I.bk).lt;exact Nat.lt_trans (by decide) h
theorem Ay {Q:JL}(x:A.units+1<cLine)(I:Inv X pins σ H s)(g:MR H a y (some v))(n:RelV y u)(h:∀ c s',Inv X pins σ H s'->RelV v c->Q c s') :
  wpAny (model X.prog X.w) A (getItem (.ref a) u) Q E s:=by
 rcases g with ⟨f,k,e,d,l⟩ |⟨f,k,b,e,d,t,l⟩
 ·subst d;obtain⟨z,hd,B,rel,j⟩:=v7 I.Kj e;obtain⟨c,i,m⟩:=LF.some_of (v:=v) (o:=valueAt B k) (by rw[l];exact rel.val k);exact wpAny_getItem_of (rj n) j.mapOf i (h c _ (I.tok _) m)
 subst d;cases (show u=Value.ref b from n);obtain⟨z,hd,q,rel,j⟩:=v6 I.Kj e;obtain⟨c,i,m⟩:=LF.some_of (v:=v) (o:=(atKey q k).map (·.2)) (by rw[l];exact rel.val k);obtain⟨p,r,C⟩:=map_eq_some_iff.mp i;refine wpAny_getItem_heap (tupleKind_room_in1 x) (pD I.Kj t) j r ?_;rw[C];exact h c _ (I.tok _) m
theorem IV {Q:JL}(m:A.units+1<cLine)(I:Inv X pins σ H s)(g:MR H a y o)(i:RelV y u)(h:∀ s',Inv X pins σ H s'->Q (.bool o.isSome) s') :
  wpAny (model X.prog X.w) A (compareOp .In u (.ref a)) Q E s:=by
 rcases g with ⟨d,k,e,c,l⟩ |⟨d,k,b,e,c,j,l⟩
 ·subst c;obtain⟨z,hd,p,rel,f⟩:=v7 I.Kj e;refine wpAny_in_of (rj i) hd f.mapOf ?_;rw[← (rel.val k).K6,← l];exact h _ (I.tok _)
 subst c;cases (show u=Value.ref b from i);obtain⟨z,hd,n,rel,f⟩:=v6 I.Kj e;refine wpAny_in_heap (tupleKind_room_in1 m) (pD I.Kj j) hd f ?_;have q:=(rel.val k).K6;rw[isSome_map] at q;rw[← q,← l];exact h _ (I.tok _)
theorem Ep {Q:JL}(m:A.units+1<cLine)(I:Inv X pins σ H s)(g:MR H a y o)(i:RelV y u)(h:∀ s',Inv X pins σ H s'->Q (.bool (!o.isSome)) s') :
  wpAny (model X.prog X.w) A (compareOp .NotIn u (.ref a)) Q E s:=by
 rcases g with ⟨d,k,e,c,l⟩ |⟨d,k,b,e,c,j,l⟩
 ·subst c;obtain⟨z,hd,p,rel,f⟩:=v7 I.Kj e;refine wpAny_notIn_of (rj i) hd f.mapOf ?_;rw[← (rel.val k).K6,← l];exact h _ (I.tok _)
 subst c;cases (show u=Value.ref b from i);obtain⟨z,hd,n,rel,f⟩:=v6 I.Kj e;refine wpAny_notIn_heap (tupleKind_room_in1 m) (pD I.Kj j) hd f ?_;have q:=(rel.val k).K6;rw[isSome_map] at q;rw[← q,← l];exact h _ (I.tok _)
theorem ua {h':Heap}{t':Nat}{c:HO}(I:Inv X pins σ H s)(f:TL (H a))(h:Heap.SameBut a s.heap h')(g:∃ q,h'.get? a=some q)(new:Ku X.prog X.w (upd H a c) h' a c) :
  Inv X pins σ (upd H a c) { s with heap:=h',toks:=t' }:=
 I.write (x:=a) (e:=a) f (.inl rfl) (λb q d z=>(h.2 b d).trans z) g new
theorem Gr {P:Program}{w:World}{H':Hp}{h':Heap}{kvs:List (Key×V)}{vs:List (Key×Value)}(z:kvs.length<=sizeLine)(hd:(a==sysModules)=false)(rel:KV kvs vs)(b:h'.DictOf (bD P w) a vs) :
  Ku P w H' h' a (.dK kvs):=⟨z,hd,vs,rel,b⟩
theorem Ax {H':Hp}{Q:Unit->Shared->Prop}(N:A.units+1<cLine)(I:Inv X pins σ H s)(g:Qi H a y v H')(x:RelV y u)(B:RelV v r)(h:∀ s',Inv X pins σ H' s'->Q () s') :
  wpAny (model X.prog X.w) A (setItem (.ref a) u r) Q E s:=by
 rcases g with ⟨d,k,e,m,l,o⟩ |⟨d,k,b,e,m,D,l,o⟩
 ·subst m o;obtain⟨z,hd,P,rel,n⟩:=HF I.Kj e;have j:P.length<=sizeLine:=by rw[← rel.length];exact z
  have t:(putK d k v).length<=sizeLine:=by have:=nI d k v;omega
  refine wpAny_setItem_pairs (hsz:=j) (rj x) n λC i p=>h _ ?_;have M:∃ q,C.get? a=some q:=let ⟨q,_,_,f,_⟩:=i;⟨q,f⟩;exact ua I (by rw[e];exact True.intro) p M (Gr t hd (rel.put k B) i)
 subst m o;cases (show u=Value.ref b from x);obtain⟨z,hd,G,rel,n⟩:=HE I.Kj e;have j:G.length<=sizeLine:=by rw[← Paired.length rel];exact z
 have t:(putK d k v).length<=sizeLine:=by have:=nI d k v;omega
 refine wpAny_setItem_heap (hsz:=j) (tupleKind_room_in1 N) (pD I.Kj D) n λC i p=>h _ ?_;obtain⟨q,es,ep,f,K,O,L,_,J⟩:=i;refine ua I (by rw[e];exact True.intro) p ⟨q,f⟩ ⟨t,hd,_,(rel.put k D B).keeps λc R F=>?_,q,es,ep,f,K,O,L,J⟩;rw[aJ (Hf F e (λz=>nomatch z))];exact F
end
def AK (i:Expr):Prop:=∀ ov a,subscripted i false ov a=operate [ov,a] (getItem ov a)
theorem yu {prog:Program}{w:World}{A:Around}{E:JL}{s:Shared}{env:Env}{value slice:Expr}{pos:Pos}{T id:String}{Q:JL}
  (k:typeLookup (.type T) "__getitem__"=pure (some (.builtin id))) (j:AK slice)
  (h:wpAny (model prog w) A (eval value env) (λo c=>wpAny (model prog w) A (eval slice env) (λi a=>a.TypeIs o T/\wpAny (model prog w) A (getItem o i) Q E a) E c) E s) :
  wpAny (model prog w) A (eval (.Subscript value slice pos) env) Q E s:=by
 refine Subscript_ (wpAny_mono h (λo c f=>wpAny_mono f (λi a b=>?_) λ_ _ x=>x) λ_ _ x=>x);obtain⟨g,b⟩:=b;unfold subscriptTail;refine wpAny_bind ?_;rw[getitemInPython_of_ne g.not_modules];refine wpAny_bind (wpAny_specialOf g k ?_);have fin:wpAny (model prog w) A (subscripted slice false o i) (λr d=>wpAny (model prog w) A (letTemporaryGo value o r >>= λ_=>pure r) Q E d) E a:=by rw[j o i];exact wpAny_operating (wpAny_mono b (λr d e=>wpAny_bind (wpAny_letTemporaryGo (wpAny_pure e))) λ_ _ x=>x)
 first
  |exact wpAny_pure (wpAny_bind fin)
  |exact wpAny_bind (wpAny_pure (wpAny_bind fin))
  |exact wpAny_bind fin
theorem v8 {X:Cx}{c:JM}{h:St}{H:Hp}{s:Shared}{a:Addr}{y:V}{o:Option V}(I:Inv X c h H s)(g:MR H a y o):s.TypeIs (.ref a) "dict":=by
 rcases g with ⟨d,k,e,_,_⟩ |⟨d,k,b,e,_,_,_⟩
 ·obtain⟨_,_,j,_,f⟩:=v7 I.Kj e;exact f.typeIs
 obtain⟨_,_,i,_,f⟩:=v6 I.Kj e;exact f.typeIs
def GW (e ty:TE):TE:=λc H Q=>e c H λx d=>ty c d λy b => ∃ a v,x = .ref a/\MR b a y (some v)/\Q v b
def GV (ty e:TE):TE:=λc H Q=>ty c H λy d=>e c d λx b => ∃ a o,x = .ref a/\MR b a y o/\Q (.bl o.isSome) b
def yr (ty e:TE):TE:=λc H Q=>ty c H λy d=>e c d λx b => ∃ a o,x = .ref a/\MR b a y o/\Q (.bl (!o.isSome)) b
def G0 (e ty tv:TE):TS:=λD b H=>tv b H λv d=>e b d λx f=>ty b f λy g => ∃ a c,x = .ref a/\Qi g a y v c/\D.nx b c
section
variable {X:Cx}{o i e value:Expr}{pos pos' TZ:Pos}{td ty tv:TE}
theorem DN (B:X.A.units+1<cLine)(q:PE X o td)(j:PE X i ty)(C:AK i):PE X (.Subscript o i pos) (GW td ty):=by intro b s c H Q I h;refine yu PySem.F.slot_dict_getitem.lookup C (Kd (q b s c H _ I h) λu z ⟨x,f,t,l,p⟩=>Kd (j b z c f _ t p) λG J e=>?_);obtain⟨y,m,d,k,a,v,ex,g,n⟩:=e;subst ex;obtain rfl:u=Value.ref a:=l;exact⟨v8 d g,Ay B d g k λD E r w=>⟨v,m,r,w,n⟩⟩
theorem BF (v:X.A.units+1<cLine)(f:PE X i ty)(p:PE X o td):PC X .In i o (GV ty td):=by intro b s c H Q I h;refine Kd (f b s c H _ I h) λB t ⟨y,e,r,j,n⟩=>Kd (p b t c e _ r n) λu C d=>?_;obtain⟨x,l,w,k,a,ov,ex,g,m⟩:=d;subst ex;obtain rfl:u=Value.ref a:=k;exact IV v w g j λz q=>⟨.bl ov.isSome,l,q,rfl,m⟩
theorem zY (v:X.A.units+1<cLine)(f:PE X i ty)(p:PE X o td):PC X .NotIn i o (yr ty td):=by intro b s c H Q I h;refine Kd (f b s c H _ I h) λB t ⟨y,e,r,j,n⟩=>Kd (p b t c e _ r n) λu C d=>?_;obtain⟨x,l,w,k,a,ov,ex,g,m⟩:=d;subst ex;obtain rfl:u=Value.ref a:=k;exact Ep v w g j λz q=>⟨.bl (!ov.isSome),l,q,rfl,m⟩
theorem DD (F:X.A.units+1<cLine)(w:PE X o td)(k:PE X i ty)(j:PE X value tv)(G:swapsWith value (some (.Subscript o i pos')) pos.line X.env=pure false) :
  PS X (.Assign [.Subscript o i pos'] value pos) (G0 td ty tv):=by
 intro b s c H D I h;refine wpAny_Assign_Subscript (Kd (j b s c H _ I h) λr E ⟨v,e,C,p,t⟩=>Kd (w b E c e _ C t) λu L ⟨x,n,J,m,q⟩=>Kd (k b L c n _ J q) λO N d=>?_) G;obtain⟨y,P,z,l,a,B,ex,g,K⟩:=d;subst ex;obtain rfl:u=Value.ref a:=m;exact Ax F z g l p λM f=>⟨c,B,f,K⟩
end
theorem CC {P:Program}{w:World}{H:Hp}(h:Heap)(a:sysModules<h.objs.size):Ku P w H (h.push { cls:=.type "dict",data:=.dict #[] }) h.objs.size (.dK []):=
 ⟨zero_le _,beq_eq_false_iff_ne.mpr (Ne.symm (ne_of_lt a)),[],.nil,Heap.DictOf.new h⟩
def Ff:TE:=λ_ H Q => ∀ p,H p=none->Q (.ref p) (upd H p (.dK []))
section
variable {X:Cx}{pos:Pos}
theorem Qj:PE X (.Dict [] [] pos) Ff:=λb s c H Q I h =>
 wpAny_Dict_empty ⟨.ref s.heap.objs.size,_,I.laid (a:=s.heap.objs.size) (o:=.dK []) (t':=s.toks) (λ_ _ q=>Heap.get?_push_of_some _ q) (le_refl _) (CC s.heap I.big),rfl,h _ (I.Kj.fresh (le_refl _))⟩
end
structure M1 (X:Cx) (o:Expr) (m:Str) (apos:Pos) (e:Expr) (Kp:Pos):Prop where
 base:attributeBase o m X.env (eval o X.env)=eval o X.env
 Zc:((backTo Kp (starEach [e] X.env)).all (λx => !x.1)&&(backToKw Kp (keywordEach [] X.env)).all (λx=>x.1.isSome)
  && decide (([e]:List Expr).length+([]:List Keyword).length+(if ([]:List Keyword).isEmpty then 0 else 1)<30))=true
 line:(apos.endLine==Kp.line)=true
 trees:backTo Kp (starEach [e] X.env)=[(false,eval e X.env)]
structure M2 (X:Cx) (o:Expr) (m:Str) (apos:Pos) (e f:Expr) (Kp:Pos):Prop where
 base:attributeBase o m X.env (eval o X.env)=eval o X.env
 Zc:((backTo Kp (starEach [e,f] X.env)).all (λx => !x.1)&&(backToKw Kp (keywordEach [] X.env)).all (λx=>x.1.isSome)
  && decide (([e,f]:List Expr).length+([]:List Keyword).length+(if ([]:List Keyword).isEmpty then 0 else 1)<30))=true
 line:(apos.endLine==Kp.line)=true
 trees:backTo Kp (starEach [e,f] X.env)=[(false,eval e X.env),(false,eval f X.env)]
end L2
namespace Att
open PySem PySem.W PySem.Calls PyProof.Rows
theorem n8 {P:Params}{h:Heap}:∀ (ns:List Int) (vs:List Value),WellAll P h vs (ns.map WData.int)->IntsAre vs ns:=by
 intro ns
 induction ns with
 |nil =>
  intro vs w;rw[map_nil] at w;cases w;exact .nil
 |cons n ns c =>
  intro vs w;rw[map_cons] at w;cases w with
  |cons a b =>
   cases a;exact .cons _ _ (c _ b)
theorem zK {l:OpenLaw}{n:Nat}(i:l.most=some n){P:Params}{h:Heap}{args:List WData}{vals:List Value}
  (g:l.row.toRowW.claim.pre args=true) (k:WellAll P h vals args) :
  ∃ a vs ns,vals=[Value.ref a]/\args=[WData.list (ns.map WData.int)]/\h.get? a=some { cls:=.type "list",data:=.seq vs.toArray }/\IntsAre vs ns/\ns.length<=n:=by
 have w:WShape.hasAll [] args [.list .int]=true:=(pre_splitW g).1;have f:l.pre.holds [] { args:=args }=true:=(pre_splitW g).2;obtain⟨d,r,rfl,p,j⟩:=hasAllW_cons w;obtain rfl:=hasAllW_nil j;obtain⟨x,rfl,u⟩:=hasW_list p;obtain⟨ns,rfl⟩:=items_int u
 have b:ns.length<=n:=by
  unfold OpenLaw.pre at f;have e:(WTm.not (.lt (.lit (.int (n:Int))) (.len (.arg 0)))).holds [] { args:=[.list (ns.map .int)] }=true:=by have e:=(holds_andW f).1;rw[i] at e;exact e
  have c:=condW_of e (w_not (w_lt w_lit (w_len_list (w_arg rfl))));rw[length_map] at c;refine Nat.le_of_not_lt λq=>?_;have o:(n:Int)<((ns.length:Nat):Int):=by omega
  first
   |(rw[decide_eq_true o] at c;exact absurd c (by decide))
   |(simp at c;omega)
 cases k with
 |cons t v =>
  cases v;cases t with
  |list m s=>exact⟨_,_,ns,rfl,rfl,m,n8 ns _ s,b⟩
theorem zU (l:OpenLaw)(args:List WData):l.row.toRowW.claim.post args (.bool true) args=true:=
 postW_of (r:=l.row.toRowW) (X:=(true==true))
  (show WShape.has [] (.bool true) .bool=true by first |rfl |decide |simp[WShape.has,WShape.arms,WShape.armsAll])
  (show (WTm.eq .res (.lit (.bool true))).value [] { args:=args,res:=some (.bool true),after:=args }=some (.bool (true==true)) from w_eq_bool (w_res rfl) w_lit) rfl
theorem Oh {l:OpenLaw}{n:Nat}{q:Program}{loose:List Str}{k:(JN)->Heap->Prop}{p:World->Heap->Prop}{d:DefRec}
  (s:l.most=some n) (C:d.params.defaults=[])
  (call:∀ (w:World) (s₀ b:Shared) (mg j:JN) (e:Addr) (o:Obj) (i h doc:Value) (a:Addr) (vs:List Value) (ns:List Int),
   Ground q loose [] k w s₀ mg j b.heap->p w b.heap ->
   b.heap.get? e=some o->o.data = .func (docDef d.name d.params d.body d.scope i h doc)->b.heap.CodeRec h d.name->mg d.name=some (.ref e) ->
   b.heap.get? a=some { cls:=.type "list",data:=.seq vs.toArray }->IntsAre vs ns->ns.length<=n->b.gens = #[] ->
   codeAny (model l.prog w) callerA (.call (.ref e) ⟨[.ref a],[]⟩) (λr s'=>r = .ok (.ret (.bool true))/\OldK b.heap s'.heap/\s'.os=b.os/\AllBare s'.gens) b) :
  WalkO q loose k p l.row.toRowW d [] (λf vs=>PySem.call f vs):=by
 intro w s₀ b mg j G Y e o i h doc t kV z hd y m x E args vals M J L B v K;obtain rfl:t = .none:=Dflts.none m C;obtain rfl:kV = .none:=Dflts.noKw m;obtain⟨a,vs,ns,rfl,rfl,F,c,g⟩:=zK s J v;refine enter_call (codeAny_mono (call w s₀ b mg j e o i h doc a vs ns G Y z (fd_plain hd) y x F c g E) λr s' D=>?_);obtain⟨rfl,u,I,A⟩:=D;exact⟨.inl ⟨.bool true,.bool true,[],rfl,λ_=>rfl,.bool true,zU l _,λ_=>⟨List.Pairwise.nil,λ_ H=>(nomatch H)⟩⟩,u,I,A⟩
end Att
namespace L2
open PySem PySem.Spec PyProof.Rows
theorem ma:∀ {vs:List Value}{ns:List Int},IntsAre vs ns->Vals (ns.map V.int) vs
 |_,_,.nil => .nil
 |_,_,.cons n t h => .cons ⟨t,rfl⟩ (ma h)
def GI (H:Hp):Prop:=∀ b,H b=none∨∃ o a,H b=some (.PY o (.lst a))
theorem B6 {P:Program}{w:World}{K:JK}{mg p:JN}{CX:PZ}{k:Nat}{l a:Addr}{fd:FuncData}{x:Str}{sp:Sp}{c:Shared}{vs:List Value}{ns:List Int}
  (KX:K.In c.heap) (J:c.heap.Ns mainGlobals mg) (f:c.heap.Ns builtinsNs p) (S:∀ x:Str,x≠"__name__"->p x=bootBuiltins x) (V1:c.heap.NoLimit) (hg:c.gens = #[])
  (j:c.heap.get? a=some { cls:=.type "list",data:=.seq vs.toArray }) (C:IntsAre vs ns) (E:ns.length<=sizeLine) (N:Kn k callerA)
  (F:∀ base:Heap,K.In base->base.Ns mainGlobals mg->LG P w K mg base CX k l fd [x] sp) (T9:∀ (s:Shared) (u:Value),BindsTo s fd ⟨[u],[]⟩ [(x,u)])
  (L:∀ H:Hp,GI H->M0 K H a (ns.map V.int)->sp [.ref a] H (λv _=>v = .bl true) λ_ _ _=>False)
  (O:∀ H e s',CX [] H c (λ_ _ _=>False) e s'->False) :
  codeAny (model P w) callerA (.call (.ref l) ⟨[.ref a],[]⟩) (λr s'=>r = .ok (.ret (.bool true))/\OldK c.heap s'.heap/\s'.os=c.os/\AllBare s'.gens) c:=by
 have I:=ma C;have Z:=C.length
 have core:∀ H:Hp,GI H->M0 K H a (ns.map V.int)->L8 P w H c.heap->(∀ b,H b≠none->b=a)->(H a≠none->K.lookup a=none) ->
   codeAny (model P w) callerA (.call (.ref l) ⟨[.ref a],[]⟩) (λr s'=>r = .ok (.ret (.bool true))/\OldK c.heap s'.heap/\s'.os=c.os/\AllBare s'.gens) c:=by
  intro H G Q Kj y hK;have A:∀ {b:Addr}{o:Obj},c.heap.get? b=some o->H b=none->(tV c.heap H).get? b=some o:=λe n=>Cg e n
  have T4:∀ {b:Addr}{o:Obj}{es:Array DictEntry}{ep:Nat},c.heap.get? b=some o->o.data = .dict es ep->H b=none:=λ{b o es ep} e d=>by
   cases q:H b with
   |none=>rfl
   |some u =>
    have t:b=a:=y b (by rw[q];simp);subst t;rw[j] at e;cases e;have U:Data.seq vs.toArray _=Data.dict es ep:=d;cases U
  have i:∀ {b:Addr}{m:JN},c.heap.Ns b m->(tV c.heap H).Ns b m:=λ{b m} ⟨o,es,ep,e,d,r⟩=>⟨o,es,ep,A e (T4 e d),d,r⟩
  have D:K.In (tV c.heap H):=λb o e=>A (KX b o e) (by
   cases q:H b with
   |none=>rfl
   |some u =>
    have t:b=a:=y b (by rw[q];simp);subst t
    rw[hK (by rw[q];simp)] at e;cases e)
  have Y:Mod K mg (tV c.heap H):=⟨D,i J,⟨p,i f,S⟩,let ⟨W,X,h2⟩:=V1;⟨W,i X,h2⟩⟩;have T:OO P w K mg (tV c.heap H) callerA [] c H:=⟨rfl,Y,λb o e=>DU e,Nat.le_of_eq (Ap _ _),trivial,λb f=>absurd (show b∈([]:List Addr) from f) (by simp),Kj,.of_eq hg⟩;refine codeAny_mono ((F _ D (i J)).run callerA [] c H ⟨[.ref a],[]⟩ [.ref a] [.ref a] _ _ N T (T9 c (.ref a)) (.cons rfl .nil) (L H G Q)) λr s' h=>?_;cases r with
  |error e=>exact(O H e s' h).elim
  |ok fl =>
   cases fl with
   |next=>exact False.elim h
   |brk=>exact False.elim h
   |cont=>exact False.elim h
   |ret u =>
    obtain⟨v,H',os,bare,un,V4,R,q⟩:=h;have q':v = .bl true:=q;subst q';obtain rfl:u=Value.bool true:=R;refine⟨rfl,OldK.of_keep λb o e=>?_,os,bare⟩;cases q:H b with
    |none=>exact un.keep b o e q (by intro z;exact absurd (show b∈([]:List Addr) from z) (by simp)) (by simp)
    |some u =>
     rcases G b with z |⟨M,xs,z⟩
     ·rw[q] at z;cases z
     have z2:=un.Nr b M _ z;obtain⟨B,_⟩:=Kj b _ z;obtain⟨e2,_⟩:=V4 b _ z2;rw[e] at B;cases B;exact e2
 cases hk:K.lookup a with
 |some o =>
  have e:=KX a o hk;rw[j] at e;cases e;refine core (λ_=>none) (λ_ => .inl rfl) (.inr ⟨_,vs.toArray,_,hk,rfl,rfl,rfl,by rw[size_toArray,Z];exact E,by simpa using I⟩) (λb u z=>by have g:(none:Option HO)=some u:=z;cases g) (λb z=>absurd rfl z) λz=>absurd rfl z
 |none =>
  refine core (λb=>if b=a then some (.PY { cls:=.type "list",data:=.seq vs.toArray } (.lst (ns.map V.int))) else none) (λb=>?_) (.inl (.inr ⟨{ cls:=.type "list",data:=.seq vs.toArray },if_pos rfl⟩)) (λb u z=>?_) (λb z=>?_) λ_=>hk
  ·by_cases f:b=a
   ·exact .inr ⟨_,_,if_pos f⟩
   exact .inl (if_neg f)
  ·by_cases f:b=a
   ·have g:=(if_pos f).symm.trans z;cases g;subst f;exact⟨j,by rw[length_map];exact E,vs,_,I,j⟩
   have g:=(if_neg f).symm.trans z;cases g
  by_cases f:b=a
  ·exact f
  exact absurd (if_neg f) z
theorem Q7 {l:PySem.W.OpenLaw}{n k:Nat}{q:Program}{loose:List Str}{C:(JN)->Heap->Prop}{p:World->Heap->Prop}{d:DefRec}{K:Params->JK}{CX:World->PZ}{sp:World->Sp}{x:Str}
  (r:l.most=some n) (N:n<=sizeLine) (D:d.params.defaults=[]) (I:Kn k callerA)
  (t:∀ (w:World) (h:Heap),p w h->(K w.params).In h)
  (F:∀ (w:World) (mg:JN) (m:Addr) (h:Heap),(K w.params).In h->h.Ns mainGlobals mg->mg d.name=some (.ref m) ->
   ∃ fd:FuncData,(∀ (s:Shared) (u:Value),BindsTo s fd ⟨[u],[]⟩ [(x,u)]) /\
    ∀ base:Heap,(K w.params).In base->base.Ns mainGlobals mg->LG l.prog w (K w.params) mg base (CX w) k m fd [x] (sp w))
  (A:∀ (w:World) (H:Hp) (a:Addr) (ns:List Int),ns.length<=n->GI H->M0 (K w.params) H a (ns.map V.int)->sp w [.ref a] H (λv _=>v = .bl true) λ_ _ _=>False)
  (M:∀ (w:World) (H:Hp) (s:Shared) (e:Value) (s':Shared),CX w [] H s (λ_ _ _=>False) e s'->False) :
  PySem.W.WalkO q loose C p l.row.toRowW d [] (λf vs=>PySem.call f vs):=by
 refine Att.Oh r D λw s₀ j mg S m o R U doc a vs ns G Y Q hd P z L i c J=>?_;have KX:=t w _ Y;obtain⟨fd,E,B⟩:=F w mg m _ KX G.T.g z;exact B6 KX G.T.g G.T.b G.T.builtins G.T.nolimit J L i (Nat.le_trans c N) I B E (λH y O=>A w H a ns c y O) λH e s'=>M w H j e s'
def eE (s:Stmt):Arguments:=match s with
 | .FunctionDef _ a _ _ _ _ _ _ _ _=>a
 |_ => { posonlyargs:=[],args:=[],vararg:=none,kwonlyargs:=[],kw_defaults:=[],kwarg:=none,defaults:=[] }
def bO (s:Stmt):List Stmt:=match s with
 | .FunctionDef _ _ b _ _ _ _ _ _ _=>b
 |_=>[]
def au (s:Stmt):Scope:=match s with
 | .FunctionDef _ _ _ _ _ _ sc _ _ _=>sc
 |_ => { kind:=.function,names:=[],isGenerator:=false,isCoroutine:=false }
abbrev OP:PZ:=λ_ _ _ _ _ _=>False
abbrev E0:XK:=λ_ _ _=>False
theorem yJ {X:Cx}:Passes OP X E0:=λ_ _ _ _ _ _ _ h=>h.elim
structure Oi (K:JK) (x qual:Str) (st:Stmt) (f:Addr) (fd:FuncData):Prop where
 ex:∃ (oc:Value) (od:Option Addr) (kV doc pm:Value) (an:Option Addr) (Ka ct:Value) (Qh:Array (Option Value)),
  fd=PySem.W.fnOf x qual (eE st) (bO st) (au st) .none kV doc pm an Ka ct/\K.lookup f=some ⟨oc,od,.func fd,Qh⟩/\PySem.W.codeIn K Ka qual=true
 kp:PySem.W.keepIn K (.ref f)=true
section
variable {P:Program}{w:World}{K:JK}{mg:JN}{base:Heap}
theorem Oi.ok {x qual:Str}{st:Stmt}{f:Addr}{fd:FuncData}{N b:List Str}{k:Nat}{sp:Sp}(F:Oi K x qual st f fd)(S:JR N b (au st))(len:∀ vs H Q E,sp vs H Q E->vs.length=b.length)
  (i:∀ (a:Value) (A:Around) (outer:List Env) (s:Shared) (H:Hp) (vs:List V) (Q:VK) (E:XK),Kn k (A.deeper (envOfC qual (au st) s.heap.objs.size f a))->sp vs H Q E ->
   ∃ t,Of (mL OP P w K mg base N qual (au st) f a A outer s H E).Qg (bO st) t/\t { nx:=λ_ H'=>Q .Kk H',rt:=Q } (start N vs) H):LG P w K mg base OP (k+1) f fd b sp:=by
 obtain⟨j,o,kV,doc,l,n,a,ct,m,rfl,c,e⟩:=F.ex;refine Hu c e S len λA outer s H vs Q E g d=>?_;obtain⟨t,h,q⟩:=i a A outer s H vs Q E g d;exact⟨t,h.Qg,q⟩
theorem Oi.binds {x qual:Str}{st:Stmt}{f:Addr}{fd:FuncData}{d:List Str}(F:Oi K x qual st f fd)
  (h:∀ (kV doc a:Value) (c:Option Addr) (b ct:Value) (us:List Value),us.length=d.length->bindArgs (PySem.W.fnOf x qual (eE st) (bO st) (au st) .none kV doc a c b ct) ⟨us,[]⟩=pure (d.zip us)):Binds K fd d []:=by
 obtain⟨e,k,kV,doc,a,c,b,ct,j,rfl,g,i⟩:=F.ex;exact .all (h kV doc a c b ct)
theorem Gk {x qual:Str}{st:Stmt}{f:Addr}{e:Value}{g b:Option Addr}{h:Array (Option Value)}{kV doc d a ct:Value}(l:K.lookup f=some ⟨e,g,.func (PySem.W.fnOf x qual (eE st) (bO st) (au st) .none kV doc d b a ct),h⟩)
  (c:PySem.W.codeIn K a qual=true) (k:PySem.W.keepIn K (.ref f)=true):Oi K x qual st f (PySem.W.fnOf x qual (eE st) (bO st) (au st) .none kV doc d b a ct):=⟨⟨e,g,kV,doc,d,b,a,ct,h,rfl,l,c⟩,k⟩
end
theorem aS {A:Around}{k:Nat}(a:Kn k A):A.units+1<cLine:=Nat.lt_of_le_of_lt (Nat.add_le_add_left (by decide : 1<=64) _) a.units
section
variable {X:Cx}
theorem pv (i:Nat){x:Str}{pos:Pos}(c:X.N[i]?=some x:=by rfl)(a:Vc X.env.scope x:=by first |exact Or.inl rfl |exact Or.inr (Or.inl rfl) |exact Or.inr (Or.inr rfl))(hd:(x==("__debug__":Str))=false:=by decide)
  (b:(x==("__classdict__":Str))=false:=by decide):PE X (.Name x pos) (GN i):=Bz c a hd b
end
def J6 (H H':Hp):Prop:=∀ b o,H b=some o->H' b=some o
theorem J6.refl (H:Hp):J6 H H:=λ_ _ h=>h
theorem J6.trans {H d e:Hp}(a:J6 H d)(b:J6 d e):J6 H e:=λc o h=>b c o (a c o h)
end L2
namespace HT
open PySem PyProof.Rows
section
variable {prog:Program}{w:World}{A:Around}{E:JL}{s:Shared}
theorem Q8 {t b:Addr}{vs a:List Value}{Q:JL}(r:IsTup s.heap t vs.toArray)(v:IsTup s.heap b a.toArray)(i:vs≠[])
  (u:a=[]->Q (.ref t) s) (q:a≠[]->Q (.ref s.heap.objs.size) { s with heap:=s.heap.push { cls:=.type "tuple",data:=.seq (vs++a).toArray } })
  (hsz:vs.length+a.length<=sizeLine):wpAny (model prog w) A (binaryOp .Add (.ref t) (.ref b)) Q E s:=by
 obtain⟨⟨cls,m,data,j⟩,d,l,n,hd⟩:=id r;obtain⟨⟨x,k,data2,o⟩,f,p,h,c⟩:=id v;simp only at l hd p c;subst l hd p c;have e:vs.toArray++a.toArray=(vs++a).toArray:=by simp
 by_cases g:a=[]
 ·exact concat_meets ⟨_,d,rfl⟩ ⟨_,f,rfl⟩ noFill_tuple_add seq_tuple_add PySem.F.slot_tuple_add PySem.F.entry_tuple_add (PySem.F.args_tuple_add_2 _ _)
   (tuple_addW1 t b vs.toArray a.toArray n h m k j o (by simpa using i) (by simp[g])) ⟨d,f,u g⟩
 refine concat_meets ⟨_,d,rfl⟩ ⟨_,f,rfl⟩ noFill_tuple_add seq_tuple_add PySem.F.slot_tuple_add PySem.F.entry_tuple_add (PySem.F.args_tuple_add_2 _ _)
  (tuple_addW2 t b vs.toArray a.toArray n h m k j o (by simpa using i) (by simpa using g) (by rw[size_toArray,size_toArray];exact hsz)) ⟨d,f,?_⟩
 rw[e];exact q g
def Kz (n d:Nat):Option Int->Nat
 |none=>d
 |some v=>if v<0 then (v+(n:Int)).toNat else min v.toNat n
theorem Oj (n d:Nat):Kz n d none=d:=rfl
theorem Pa (n d k:Nat):Kz n d (some (k:Int))=min k n:=by show (if (k:Int)<0 then ((k:Int)+(n:Int)).toNat else min (k:Int).toNat n)=min k n;rw[if_neg (by omega),Int.toNat_natCast]
theorem Ft (n d:Nat)(hd:d<=n)(o:Option Int):Kz n d o<=n:=by
 cases o with
 |none=>exact hd
 |some v =>
  show (if v<0 then (v+(n:Int)).toNat else min v.toNat n)<=n;by_cases a:v<0
  ·rw[if_pos a];omega
  rw[if_neg a];exact min_le_right _ _
theorem zd (v:Int)(n d:Nat):(if v<0 then max (v+(n:Int)) 0 else min v (n:Int))=((Kz n d (some v):Nat):Int):=by
 show (if v<0 then max (v+(n:Int)) 0 else min v (n:Int))=(((if v<0 then (v+(n:Int)).toNat else min v.toNat n):Nat):Int);by_cases a:v<0
 ·simp only[if_pos a];omega
 simp only[if_neg a];omega
theorem yd (lo a:Option Int)(n:Nat):Builtin.Slice.sliceAdjust lo a 1 (n:Int)=(((Kz n 0 lo:Nat):Int),((Kz n n a:Nat):Int)):=by
 have b:¬ ((1:Int)<0):=by omega
 unfold Builtin.Slice.sliceAdjust;simp only[b,if_false];refine Prod.ext ?_ ?_
 ·cases lo with
  |none=>rfl
  |some v=>exact zd v n 0
 cases a with
 |none=>rfl
 |some v=>exact zd v n n
theorem xp (i j:Nat):Builtin.Slice.slicePlaces (i:Int) (j:Int) 1=j-i:=by
 unfold Builtin.Slice.slicePlaces;have a:(1:Int) > 0:=by omega
 simp only[a,if_true,Int.ediv_one];split<;>omega
theorem oU {v:Value}{o:Option Int}{Q:Option Int->Shared->Prop}(p:IsPart v o)(h:Q o s):wpAny (model prog w) A (Builtin.Slice.slicePartIndex v) Q E s:=by
 cases p with
 |none=>exact slicePart_none h
 |int i t=>exact slicePart_int h
theorem Lo {f:Addr}{e b:Value}{lo a:Option Int}{n:Nat}{Q:Int×Int×Nat->Shared->Prop}(i:s.heap.IsSliceOf f e b .none)(pl:IsPart e lo)(g:IsPart b a)
  (h:Q (((Kz n 0 lo:Nat):Int),1,Kz n n a-Kz n 0 lo) s):wpAny (model prog w) A (Builtin.Slice.sliceApplied (.ref f) (pure (n:Int))) Q E s:=by
 obtain⟨os,c,j,d⟩:=id i;unfold Builtin.Slice.sliceApplied Builtin.Slice.sliceFields;refine wpAny_bind (wpAny_bind (wpAny_field c d (x:=e) rfl (wpAny_bind (wpAny_field c d (x:=b) rfl (wpAny_bind (wpAny_field c d (x:=.none) rfl (wpAny_pure ?_)))))));refine wpAny_bind (slicePart_none ?_);show wpAny _ _ (if ((1:Int)==0)=true then _ else _) _ _ s;rw[if_neg (by decide)];refine wpAny_bind (oU pl (wpAny_bind (oU g (wpAny_bind (wpAny_pure ?_)))));show wpAny _ _ (match Builtin.Slice.sliceAdjust lo a 1 (n:Int) with |(lo,a)=>pure (lo,(1:Int),Builtin.Slice.slicePlaces lo a 1)) _ _ s;rw[yd lo a n];show wpAny _ _ (pure (((Kz n 0 lo:Nat):Int),(1:Int),Builtin.Slice.slicePlaces ((Kz n 0 lo:Nat):Int) ((Kz n n a:Nat):Int) 1)) _ _ s;rw[xp];exact wpAny_pure h
theorem Bw (a:Array Value)(i k:Nat):((List.range k).filterMap λ(m:Nat)=>a[((i:Int)+(m:Int)*1).toNat]?).toArray=((a.toList.drop i).take k).toArray:=by
 have e:(λ(m:Nat)=>a[((i:Int)+(m:Int)*1).toNat]?)=λm=>a[i+m]?:=by
  funext m;have:((i:Int)+(m:Int)*1).toNat=i+m:=by omega
  rw[this]
 rw[e];have:=pick_run a i k;rw[List.filterMap_map] at this;have b:((λx=>a[x]?) ∘ λx=>i+x)=λm=>a[i+m]?:=rfl;rw[b] at this;rw[this]
theorem Me {t d:Addr}{items:Array Value}{g e:Value}{lo a:Option Int}{Q:JL}(b:IsTup s.heap t items)(f:s.heap.IsSliceOf d g e .none)(pl:IsPart g lo)(n:IsPart e a)
  (j:¬ (Kz items.size 0 lo=0/\Kz items.size items.size a=items.size))
  (h:Q (.ref s.heap.objs.size) { s with heap:=s.heap.push { cls:=.type "tuple",data:=.seq ((items.toList.drop (Kz items.size 0 lo)).take (Kz items.size items.size a-Kz items.size 0 lo)).toArray } })
  (hsz:items.size<=sizeLine):wpAny (model prog w) A (getItem (.ref t) (.ref d)) Q E s:=by
 have c:sizeOk (.seq ((items.toList.drop (Kz items.size 0 lo)).take (Kz items.size items.size a-Kz items.size 0 lo)).toArray):=by show ((items.toList.drop (Kz items.size 0 lo)).take (Kz items.size items.size a-Kz items.size 0 lo)).toArray.size<=sizeLine;rw[size_toArray,length_take,length_drop,length_toList];omega
 have u:Kz items.size items.size a<=items.size:=Ft _ _ (le_refl _) a;obtain⟨os,i,o,v⟩:=id f;have k:s.TypeIs (.ref d) "slice":=⟨os,i,o⟩;unfold getItem
 try with_reducible refine wpAny_holding ?_
 first |refine wpAny_bind (wpAny_pure ?_) |skip
 refine wpAny_bind (wpAny_sequenceKey b.typeIs (by decide) ?_)
 refine wpAny_bind (wpAny_callSpecial?_slot (name:=Str.ofString "__getitem__") b.typeIs PyProof.Rows.slot_tuple_getitem
  (wpAny_call_entry PyProof.Rows.slot_tuple_getitem b.typeIs entry_tuple_getitem ?_ (args_tuple_getitem _ _)))
 show wpAny _ _ (Builtin.Tuple.tupleItemsOf (.ref t) >>= _) _ _ s;refine wpAny_bind (tupleItemsOf_ b ?_);refine wpAny_bind (wpAny_typeOf k ?_);rw[if_pos (by decide)];refine wpAny_bind (Lo f pl n ?_);have l:¬ ((((Kz items.size 0 lo:Nat):Int)==0&&(1:Int)==1&&(Kz items.size items.size a-Kz items.size 0 lo)==items.size)=true):=by intro q;rw[and_eq_true,and_eq_true] at q;have r:((Kz items.size 0 lo:Nat):Int)=0:=eq_of_beq q.1.1;have p:Kz items.size items.size a-Kz items.size 0 lo=items.size:=eq_of_beq q.2;exact j ⟨by omega,by omega⟩
 show wpAny _ _ (if (((Kz items.size 0 lo:Nat):Int)==0&&(1:Int)==1&&(Kz items.size items.size a-Kz items.size 0 lo)==items.size)=true then _ else _) _ _ s;rw[if_neg l,Bw]
 first
  |exact wpAny_bind (m:=Builtin.Tuple.tupleExact _) (wpAny_newObj_type (wpAny_pure ⟨_,rfl,wpAny_pure h⟩) c)
  |exact wpAny_bind (m:=Builtin.Tuple.tupleExact _) (wpAny_newObj_type (wpAny_bind (wpAny_pure (wpAny_pure ⟨_,rfl,wpAny_pure h⟩))) c)
  |exact wpAny_bind (wpAny_bind (m:=Builtin.Tuple.tupleExact _) (wpAny_newObj_type (wpAny_pure (wpAny_pure ⟨_,rfl,wpAny_pure h⟩)) c))
  |exact wpAny_bind (wpAny_bind (m:=Builtin.Tuple.tupleExact _) (wpAny_newObj_type (wpAny_pure ⟨_,rfl,wpAny_pure h⟩) c))
end
end HT
namespace L2
open PySem PySem.Spec PyProof.Rows
abbrev TO:=St->Hp->(Option Int->Hp->Prop)->Prop
def PO (X:Cx)(e:Option Expr)(t:TO):Prop:=
 ∀ (a:JM) (s:Shared) (b:St) (H:Hp) (Q:Option Int->Hp->Prop),Inv X a b H s->t b H Q ->
  wpAny (model X.prog X.w) X.A (evalPart e X.env) (λu d => ∃ o c,Inv X a b c d/\IsPart u o/\Q o c) X.xe s
def Dl:TO:=λ_ H Q=>Q none H
def GP (t:TE):TO:=λb H Q=>t b H λx a => ∃ i,x = .int i/\Q (some i) a
theorem intsAre_of {ns:List Int}:∀ {us:List Value},Vals (ns.map V.int) us->IntsAre us ns:=by
 induction ns with
 |nil=>intro us r;rw[map_nil] at r;cases r;exact .nil
 |cons n ns b =>
  intro us r;rw[map_cons] at r;cases r with
  |cons c a =>
   obtain⟨t,e⟩:=c;subst e;exact .cons n t (b a)
section
variable {X:Cx}{e:Expr}{te:TE}{lo hi:Option Expr}{tl th:TO}{pos p2:Pos}
theorem DF:PO X none Dl:=by intro a s b H Q I h;rw[evalPart_none];exact wpAny_pure ⟨none,H,I,.none,h⟩
theorem DE (h:PE X e te):PO X (some e) (GP te):=by intro a s g H Q I f;rw[evalPart_some];refine Kd (h a s g H _ I f) λu l b=>?_;obtain⟨x,c,j,k,d⟩:=b;obtain⟨i,rfl,q⟩:=d;obtain⟨t,rfl⟩:=k;exact⟨some i,c,j,.int i t,q⟩
def Vn (X:Cx)(r:V->Option Int->Option Int->Hp->VK->Prop):Prop:=
 ∀ (a:JM) (s:Shared) (e:St) (H:Hp) (x:V) (v d b:Value) (lo hi:Option Int) (c:Addr) (Q:VK),Inv X a e H s->RelV x v->s.heap.IsSliceOf c d b .none->IsPart d lo->IsPart b hi->r x lo hi H Q ->
  ∃ T id,typeLookup (.type T) "__getitem__"=pure (some (.builtin id))/\s.TypeIs v T/\wpAny (model X.prog X.w) X.A (getItem v (.ref c)) (EP X a e Q) X.xe s
def Zh (r:V->Option Int->Option Int->Hp->VK->Prop)(te:TE)(tl th:TO):TE:=λa H Q=>te a H λx b=>tl a b λl d=>th a d λu c=>r x l u c Q
theorem BA {r:V->Option Int->Option Int->Hp->VK->Prop}(E:Vn X r)(z:PE X e te)(N:PO X lo tl)(F:PO X hi th):PE X (.Subscript e (.Slice lo hi none p2) pos) (Zh r te tl th):=by intro a s d H Q I h;refine Subscript_ (Kd (z a s d H _ I h) λv D i=>?_);obtain⟨x,k,C,O,p⟩:=i;refine wpAny_Slice (Kd (N a D d k _ C p) λg M ⟨l,n,J,pl,o⟩=>Kd (F a M d n _ J o) λf c i=>?_);obtain⟨u,j,y,L,K⟩:=i;rw[evalPart_none];refine wpAny_pure ?_;have m:Inv X a d j { c with heap:=c.heap.push { cls:=.type "slice",data:=.fields #[g,f,.none] } }:=y.kept (t':=c.toks) λb P q=>Heap.get?_push_of_some _ q;obtain⟨T,id,B,t,G⟩:=E a { c with heap:=c.heap.push { cls:=.type "slice",data:=.fields #[g,f,.none] } } d j x v g f l u c.heap.objs.size Q m O (Heap.IsSliceOf.new ..) pl L K;show wpAny (model X.prog X.w) X.A (subscriptTail e (.Slice lo hi none p2) v (.ref c.heap.objs.size)) (EP X a d Q) X.xe { c with heap:=c.heap.push { cls:=.type "slice",data:=.fields #[g,f,.none] } };exact tail_any (ops:=[.ref c.heap.objs.size,v]) t B G (by with_unfolding_all rfl)
def v9 (a:List V)(lo hi:Option Int):List V:=(a.drop (HT.Kz a.length 0 lo)).take (HT.Kz a.length a.length hi-HT.Kz a.length 0 lo)
theorem gE (a:List V)(lo hi:Option Int):(v9 a lo hi).length<=a.length:=by unfold v9;rw[length_take,length_drop];omega
def Im (K:JK):V->Option Int->Option Int->Hp->VK->Prop:=λx lo hi H Q => ∃ a b,x = .ref a/\Nm K H a b /\
 ¬ (HT.Kz b.length 0 lo=0/\HT.Kz b.length b.length hi=b.length)/\∀ p,H p=none->Q (.ref p) (upd H p (.tup (v9 b lo hi)))
theorem Fj:Vn X (Im X.K):=by
 intro g s t H x v w u lo hi n Q I i l pl m h;obtain⟨a,d,rfl,j,k,q⟩:=h;cases i;obtain⟨its,r,f,e⟩:=I.tuple j;have c:its.toArray.size=d.length:=by rw[size_toArray];exact r.length.symm
 refine⟨"tuple",_,PyProof.Rows.slot_tuple_getitem.lookup,f.typeIs,?_⟩;refine HT.Me f l pl m (by rw[c];exact k) ?_ (by rw[c];exact e);rw[c];refine⟨.ref s.heap.objs.size,_,I.laid (t':=s.toks) (o:=.tup (v9 d lo hi)) (λb p q=>Heap.get?_push_of_some _ q) (le_refl _) ?_,rfl,q _ (I.Kj.fresh (le_refl _))⟩;exact⟨Nat.le_trans (gE d lo hi) e,_,(r.drop (HT.Kz d.length 0 lo)).take (HT.Kz d.length d.length hi-HT.Kz d.length 0 lo),Nq.new _ _⟩
def G2 (K:JK):R2:=λx y H Q => ∃ a b d c,x = .ref a/\y = .ref b/\Nm K H a d/\Nm K H b c/\d≠[]/\d.length+c.length<=sizeLine /\
 (c=[]->Q (.ref a) H)/\(c≠[]->∀ p,H p=none->Q (.ref p) (upd H p (.tup (d++c))))
theorem Vals.JY {a:List V}{us:List Value}(r:Vals a us):us=[]↔a=[]:=by
 cases r with
 |nil=>simp
 |cons _ _=>simp
theorem DT:MW X (binaryOp .Add) (G2 X.K):=by intro f s B H x y v u Q I j i h;obtain⟨a,b,g,r,rfl,rfl,n,p,m,e,l,k⟩:=h;cases j;cases i;obtain⟨its,d,t,_⟩:=I.tuple n;obtain⟨C,c,p2,_⟩:=I.tuple p;refine HT.Q8 t p2 (λz=>m (d.JY.mp z)) (λz=>⟨.ref a,H,I,rfl,l (c.JY.mp z)⟩) (λz=>?_) (by rw[← d.length,← c.length];exact e);refine⟨.ref s.heap.objs.size,_,I.laid (t':=s.toks) (o:=.tup (g++r)) (λb A q=>Heap.get?_push_of_some _ q) (le_refl _) ?_,rfl,k (λw=>z (c.JY.mpr w)) _ (I.Kj.fresh (le_refl _))⟩;exact⟨by rw[List.length_append];exact e,_,d.append c,Nq.new _ _⟩
end
def QN (n:Nat)(i:Int):Option Nat:=if 0<=i then (if i<n then some i.toNat else none) else if -(n:Int)<=i then some (i+n).toNat else none
def Mu {α:Type}(a:List α)(i:Int):Option α:=(QN a.length i).bind λj=>a[j]?
theorem Ee {n:Nat}{i:Int}{j:Nat}(h:QN n i=some j):seqIndex? i n=some j/\j<n/\-(n:Int)<=i/\i<n:=by
 unfold QN at h;by_cases b : 0<=i
 ·rw[if_pos b] at h;by_cases a:i<n
  ·rw[if_pos a] at h;have e:i.toNat=j:=Option.some.inj h;exact⟨by rw[seqIndex_of b a,e],by omega,by omega,a⟩
  rw[if_neg a] at h;cases h
 rw[if_neg b] at h;by_cases a : -(n:Int)<=i
 ·rw[if_pos a] at h;have e:(i+n).toNat=j:=Option.some.inj h;exact⟨by rw[seqIndex_neg (by omega) a,e],by omega,a,by omega⟩
 rw[if_neg a] at h;cases h
theorem ou {α:Type}{a:List α}{i:Int}{v : α}(h:Mu a i=some v):∃ j,seqIndex? i a.length=some j/\a[j]?=some v/\j<a.length/\-(a.length:Int)<=i/\i<a.length:=by
 unfold Mu at h;cases e:QN a.length i with
 |none=>rw[e] at h;cases h
 |some j =>
  rw[e] at h;obtain⟨f,b,d,c⟩:=Ee e;exact⟨j,f,h,b,d,c⟩
def oA (b:Expr):Prop:=∀ o i,subscripted b false o i=operate [o,i] (getItem o i)
def Ua (X:Cx)(r:R2):Prop:=
 ∀ (value slice:Expr) (a:JM) (s:Shared) (b:St) (H:Hp) (x y:V) (v u:Value) (Q:VK),Inv X a b H s->RelV x v->RelV y u->r x y H Q ->
  subscripted slice false v u=operate [v,u] (getItem v u)->wpAny (model X.prog X.w) X.A (subscriptTail value slice v u) (EP X a b Q) X.xe s
def Vo (X:Cx)(id:String)(r:V->List V->Hp->VK->Prop):Prop:=
 ∀ (a:JM) (s:Shared) (d:St) (H:Hp) (x:V) (b:List V) (v:Value) (c:List Value) (Q:VK),Inv X a d H s->RelV x v->Vals b c->r x b H Q ->
  wpAny (model X.prog X.w) X.A (call (.builtin id) (v::c)) (EP X a d Q) X.xe s
section
variable {X:Cx}{a b:Expr}{ta tb:TE}{pos:Pos}
theorem ER {r:R2}(k:Ua X r)(i:PE X a ta)(j:PE X b tb)(l:oA b):PE X (.Subscript a b pos) (Tn r ta tb):=by intro c s g H Q I h;exact Subscript_ (GE i j I h λv u n x y f m e d q=>k a b c n g f x y v u Q m e d q (l _ _))
def Ir (K:JK):R2:=λx y H Q => ∃ p a i v,x = .ref p/\y = .int i/\M0 K H p a/\Mu a i=some v/\Q v H
def Ip (K:JK):R2:=λx y H Q => ∃ p a i v,x = .ref p/\y = .int i/\Nm K H p a/\Mu a i=some v/\Q v H
def Iq:R2:=λx y H Q => ∃ z i c,x = .str z/\y = .int i/\z.length<=sizeLine/\Mu z.cps.toList i=some c/\Q (.str ⟨#[c]⟩) H
theorem yV:Ua X (Ir X.K):=by
 intro value slice a s d H x y v u Q I n m h g;obtain⟨p,F,i,z,rfl,rfl,C,B,q⟩:=h;cases n;obtain⟨t,rfl⟩:=m;obtain⟨its,r,pl,J⟩:=I.list C;obtain⟨j,b,l,L,o,k⟩:=ou B;obtain⟨w,e,D⟩:=r.get l;have E:=r.length;have G:=pA;have fin:EP X a d Q w s:=⟨z,H,I,D,q⟩;by_cases f : 0<=i
 ·have c:i.toNat=j:=by
   rw[seqIndex_of f k] at b;exact Option.some.inj b
  exact item_listR pl.isList f (by omega) (by rw[c];simpa using e) fin g
 have c:(i+(its.toArray.size:Int)).toNat=j:=by rw[seqIndex_neg (by omega) o] at b;rw[size_toArray,← E];exact Option.some.inj b
 exact subscriptTail_builtinR (x:=w) pl.isList.typeIs slot_list_getitem.lookup
  (wpAny_getItem_list_neg (Q:=λr A=>r=w/\EP X a d Q r A) pl.isList (by omega) (by rw[size_toArray]<;>omega) (by omega) (by rw[c];simpa using e) ⟨rfl,fin⟩) g
theorem Gi:Ua X (Ip X.K):=by
 intro value slice a s b H x y v u Q I e d h o;obtain⟨p,B,i,z,rfl,rfl,l,k,q⟩:=h;cases e;obtain⟨t,rfl⟩:=d;obtain⟨its,r,pl,E⟩:=I.tuple l;obtain⟨j,f,c,G,F,D⟩:=ou k;obtain⟨w,m,n⟩:=r.get c;have A:=r.length;have C:=pA;have fin:EP X a b Q w s:=⟨z,H,I,n,q⟩
 exact subscriptTail_builtinR (x:=w) pl.typeIs slot_tuple_getitem.lookup
  (getItem_tuple (j:=j) (Q:=λr g=>r=w/\EP X a b Q r g) pl (by omega) (by omega) (by rw[size_toArray,← A];exact f) (by simpa using m) ⟨rfl,fin⟩) o
theorem Gj:Ua X Iq:=by
 intro value slice b s B H x y v u Q I g f h n;obtain⟨z,i,c,rfl,rfl,w,l,q⟩:=h;obtain⟨t,rfl⟩:=g;obtain⟨A,rfl⟩:=f;obtain⟨j,a,e,C,k,d⟩:=ou l;have p:z.cps.toList.length=z.length:=by simp[Str.length]
 rw[p] at a k d;have r:=pA
 exact tail_any (typeIs_str s z t) slot_str_getitem.lookup (getItem_str (c:=c) (by
  have m:decide (i < -(2 ^ 63:Int))=false:=decide_eq_false (by omega);have o:decide (i≥2 ^ 63)=false:=decide_eq_false (by omega)
  rw[m,o,Bool.or_false]) (by rw[a];simpa using e) ⟨.str ⟨#[c]⟩,H,I.tok _,⟨_,rfl⟩,q⟩) n
theorem sR (lo a:Option Int)(n:Nat):(sliceBounds lo a none n).1=((HT.Kz n 0 lo:Nat):Int)/\(sliceBounds lo a none n).2.1=((HT.Kz n n a:Nat):Int)/\(sliceBounds lo a none n).2.2=1:=by
 refine⟨?_,?_,rfl⟩
 ·cases lo with
  |none=>simp[sliceBounds,HT.Kz]
  |some i =>
   simp only[sliceBounds,HT.Kz,getD_none,show (1:Int) > 0 by decide,if_true];by_cases h:i<0
   ·simp only[h,if_true]<;>omega
   simp only[h,if_false]<;>omega
 cases a with
 |none=>simp[sliceBounds,HT.Kz]
 |some i =>
  simp only[sliceBounds,HT.Kz,getD_none,show (1:Int) > 0 by decide,if_true];by_cases h:i<0
  ·simp only[h,if_true]<;>omega
  simp only[h,if_false]<;>omega
theorem qm (its:List Value)(lo a:Option Int):slicePick its.toArray lo a none=((its.drop (HT.Kz its.length 0 lo)).take (HT.Kz its.length its.length a-HT.Kz its.length 0 lo)).toArray:=by obtain⟨d,b,c⟩:=sR lo a its.toArray.size;unfold slicePick;rw[d,b,c];simp only[sliceRange_one,pick_run,size_toArray]<;>rfl
def Io (K:JK):V->Option Int->Option Int->Hp->VK->Prop:=λx lo c H Q => ∃ a b,x = .ref a/\M0 K H a b/\∀ p,H p=none->Q (.ref p) (upd H p (.lst (v9 b lo c)))
theorem Dp:Vn X (Io X.K):=by intro g s t H x v w u lo e n Q I j l pl m h;obtain⟨a,c,rfl,k,q⟩:=h;cases j;obtain⟨its,r,f,i⟩:=I.list k;have d:=r.length;refine⟨"list",_,slot_list_getitem.lookup,f.isList.typeIs,?_⟩;refine wpAny_getItem_list_slice f.isList l pl m .none (by simp) ?_ (by rw[size_toArray]<;>omega);rw[qm,← d];refine⟨.ref s.heap.objs.size,_,I.laid (t':=s.toks) (o:=.lst (v9 c lo e)) (λb p q=>Heap.get?_push_of_some _ q) (le_refl _) ?_,rfl,q _ (I.Kj.fresh (le_refl _))⟩;exact⟨Nat.le_trans (gE c lo e) i,_,0,(r.drop (HT.Kz c.length 0 lo)).take (HT.Kz c.length c.length e-HT.Kz c.length 0 lo),Heap.get?_push_size _ rfl⟩
theorem iC:gm X (.builtin "len") (λc H Q => ∃ p ys,c=[.ref p]/\(M0 X.K H p ys∨Nm X.K H p ys)/\Q (.int ys.length) H):=by
 intro d s i H c j Q I r h;obtain⟨p,ys,rfl,hq,q⟩:=h;obtain⟨u,rfl,f⟩:=vals1 r;cases f;have g:=pA;rcases hq with hq |hq
 ·obtain⟨its,b,pl,e⟩:=I.list hq;have a:=b.length;exact Calls.call_len_list pl.isList (by simp only[size_toArray]<;>omega) ⟨.int ys.length,H,I.tok _,⟨s.toks+1,by rw[size_toArray,a]⟩,q⟩
 obtain⟨its,b,pl,e⟩:=I.tuple hq;have a:=b.length;exact len_tuple pl (by simp only[size_toArray]<;>omega) ⟨.int ys.length,H,I.tok _,⟨s.toks+1,by rw[size_toArray,a]⟩,q⟩
theorem uh:gm X (.builtin "len") (λa H Q => ∃ z,a=[.str z]/\z.length<=sizeLine/\Q (.int z.length) H):=by intro b s f H a e Q I r h;obtain⟨z,rfl,d,q⟩:=h;obtain⟨u,rfl,t,rfl⟩:=vals1 r;have c:=pA;exact len_str (by omega) ⟨.int z.length,H,I.tok _,⟨_,rfl⟩,q⟩
theorem lQ:gm X (.type "list") (λm H Q => ∃ p ys,m=[.ref p]/\(M0 X.K H p ys∨Nm X.K H p ys)/\∀ l,H l=none->Q (.ref l) (upd H l (.lst ys))):=by
 intro i s x H m y Q I r h;obtain⟨p,ys,rfl,hq,q⟩:=h;obtain⟨u,rfl,v⟩:=vals1 r;cases v
 have fin:∀ (its:List Value),Vals ys its->ys.length<=sizeLine->∀ (a:Heap) (d:Nat),(∀ b t,s.heap.get? b=some t->a.get? b=some t) ->
   a.get? s.heap.objs.size=some { cls:=.type "list",dict:=none,data:=.seq its.toArray d,slots:=#[] }->EP X i x Q (.ref s.heap.objs.size) { s with heap:=a }:=λits c f a d kp e =>
  ⟨.ref s.heap.objs.size,_,I.laid (t':=s.toks) kp (le_refl _) (show Ku X.prog X.w _ a _ (.lst ys) from⟨f,its,d,c,e⟩),rfl,q _ (I.Kj.fresh (le_refl _))⟩
 rcases hq with hq |hq
 ·obtain⟨its,c,pl,f⟩:=I.list hq;have g:=c.length;obtain⟨o,j,k,n,hd⟩:=pl.isList;exact call_list_seq p (.inl rfl) j k hd (λa d kp e=>fin its c f a d kp e) (by simp only[size_toArray]<;>omega)
 obtain⟨its,c,pl,f⟩:=I.tuple hq;have g:=c.length;obtain⟨o,j,k,n,hd⟩:=pl;exact call_list_seq p (.inr rfl) j k hd (λa d kp e=>fin its c f a d kp e) (by simp only[size_toArray]<;>omega)
theorem km:gm X (.type "tuple") (λg H Q => ∃ p ys,g=[.ref p]/\((M0 X.K H p ys/\∀ l,H l=none->Q (.ref l) (upd H l (.tup ys)))∨(Nm X.K H p ys/\Q (.ref p) H))):=by
 intro a s j H g v Q I r h;obtain⟨p,ys,rfl,h⟩:=h;obtain⟨u,rfl,n⟩:=vals1 r;cases n;rcases h with ⟨f,q⟩ |⟨f,q⟩
 ·obtain⟨its,d,pl,i⟩:=I.list f;have m:=d.length;refine call_tuple_list pl.isList (λc kp=>?_) (by simp only[size_toArray]<;>omega);have k:Inv X a j H { s with heap:=c }:=I.kept (t':=s.toks) kp
  have t:Inv X a j (upd H c.objs.size (.tup ys)) { s with heap:=c.push { cls:=.type "tuple",data:=.seq its.toArray } }:=
   k.laid (t':=s.toks) (λb o e=>Heap.get?_push_of_some _ e) (le_refl _) (show Ku X.prog X.w _ _ _ (.tup ys) from⟨i,its,d,Nq.new _ _⟩)
  exact⟨.ref c.objs.size,_,t,rfl,q _ (k.Kj.fresh (le_refl _))⟩
 obtain⟨its,d,pl,i⟩:=I.tuple f;exact call_tuple_same pl ⟨.ref p,H,I,rfl,q⟩
def Ts (K:JK)(T:String)(x:V)(H:Hp):Prop:=match x with
 | .str _=>T="str"
 | .int _=>T="int"
 | .ref p=>(T="list"/\∃ b,M0 K H p b)∨(T="tuple"/\((∃ o,K.lookup p=some o/\o.cls = .type "tuple"/\o.dict=none)∨∃ b,Rd H p (.tup b))) ∨
   (T="dict"/\((∃ a,H p=some (.dK a))∨∃ a,H p=some (.dT a)))∨(T="set"/\∃ S n,H p=some (.set S n))
 |_=>False
theorem E_ {d:JM}{m:St}{H:Hp}{s:Shared}{T:String}{x:V}{v:Value}(I:Inv X d m H s)(r:RelV x v)(ty:Ts X.K T x H) :
  s.TypeIs v T/\∀ a,v = .ref a->∃ h,s.heap.get? a=some h/\h.dict=none:=by
 cases x with
 |str z =>
  obtain⟨t,rfl⟩:=r;cases (show T="str" from ty);exact⟨typeIs_str s z t,λ_ e=>nomatch e⟩
 |int i =>
  obtain⟨t,rfl⟩:=r;cases (show T="int" from ty);exact⟨typeIs_int s i t,λ_ e=>nomatch e⟩
 |ref p =>
  cases r;rcases ty with ⟨rfl,j,l⟩ |⟨rfl,⟨o,b,k,hd⟩ |⟨j,q⟩⟩ |⟨rfl,b⟩ |⟨rfl,S,n,b⟩
  ·obtain⟨its,_,pl,_⟩:=I.list l;refine⟨pl.isList.typeIs,λa e=>?_⟩;cases e;obtain⟨o,n,e,c,hd,_⟩:=pl;exact⟨o,e,hd⟩
  ·refine⟨⟨o,I.NA p o b,k⟩,λa e=>?_⟩;cases e;exact⟨o,I.NA _ o b,hd⟩
  ·obtain⟨_,its,_,n,e⟩:=q.ok I.Kj;refine⟨⟨_,e,rfl⟩,λa f=>?_⟩;cases f;exact⟨_,e,rfl⟩
  ·have z:∃ o,s.heap.get? p=some o/\o.ExactDict:=by
    rcases b with ⟨g,b⟩ |⟨g,b⟩
    ·obtain⟨_,_,_,_,o,_,_,e,ex,_⟩:=I.Kj p _ b;exact⟨o,e,ex⟩
    obtain⟨_,_,_,_,o,_,_,e,ex,_⟩:=I.Kj p _ b;exact⟨o,e,ex⟩
   obtain⟨o,e,ex⟩:=z;refine⟨⟨o,e,ex.1⟩,λa f=>?_⟩;cases f;exact⟨o,e,ex.2.1⟩
  obtain⟨o,_,_,_,e,ex,_⟩:=I.Kj p _ b;refine⟨⟨o,e,ex.1⟩,λa f=>?_⟩;cases f;exact⟨o,e,ex.2.1⟩
 |_=>exact False.elim ty
def XA (K:JK)(T:String)(r:V->List V->Hp->VK->Prop)(to:TE)(t:TA):TE:=λb H Q=>to b H λx a=>Ts K T x a/\t b a λc d=>r x c d Q
variable {o e:Expr}{es:List Expr}{to:TE}{t:TA}{name:Str}{apos Kp:Pos}{T id:String}{r:V->List V->Hp->VK->Prop}
theorem yI (l:PlainAttrs T)(slot:Slot T name id)(j:typeOf (.builtin id)=pure (.type "method_descriptor"))(E:Vo X id r)(q:PE X o to)(A:PA X (e::es) t)
  (C:attributeBase o name X.env (eval o X.env)=eval o X.env:=by rfl)
  (z:((backTo Kp (starEach (e::es) X.env)).all (λx => !x.1)&&(backToKw Kp (keywordEach [] X.env)).all (λx=>x.1.isSome)
   && decide ((e::es).length+([]:List Keyword).length+(if ([]:List Keyword).isEmpty then 0 else 1)<30))=true:=by rfl)
  (G:(apos.endLine==Kp.line)=true:=by rfl) (F:starEach (e::es) X.env=(false,eval e X.env)::starEach es X.env:=by rfl) (w:(backTo Kp (starEach es X.env)).any (·.1)=false:=by rfl) :
  PE X (.Call (.Attribute o name apos) (e::es) [] Kp) (XA X.K T r to t):=by
 intro a s b H Q I h;refine wpAny_Call_method_late C z G rfl (Kd (q a s b H _ I h) λv B g=>?_);obtain⟨x,k,c,f,ty,u⟩:=g;obtain⟨y,m⟩:=E_ c f ty;refine⟨T,id,l,slot,j,y,m,?_⟩;have d:=A Kp a B b k _ c u;rw[F] at d ⊢;refine Calls.callWith_builtin (by show (false ||(backTo Kp (starEach es X.env)).any (·.1))=false;rw[w]<;>rfl) (Calls.evalArgs_plain ?_);exact Kd d λD L ⟨M,n,J,i,p⟩=>E a L b n x M v D Q J f i p
end
def Zj (X:Cx)(id:String)(r:V->List V->Hp->VK->Prop):Prop:=
 ∀ (a:JM) (s:Shared) (d:St) (H:Hp) (x:V) (b:List V) (v:Value) (c:List Value) (Q:VK),Inv X a d H s->RelV x v->Vals b c->r x b H Q ->
  wpAny (model X.prog X.w) X.A (call (.builtin id) (v::c)) (EP X a d Q) X.xe s
theorem Vals.one:∀ {x:V}{us:List Value},Vals [x] us->∃ u,us=[u]/\RelV x u
 |_,_,.cons r .nil=>⟨_,rfl,r⟩
theorem Vals.rep {a:List V}{us:List Value}(h:Vals a us):∀ k:Nat,Vals (replicate k a).flatten (replicate k us).flatten
 | 0 => .nil
 |k+1=>by
  rw[replicate_succ,replicate_succ,flatten_cons,flatten_cons];exact Vals.append h (Vals.rep h k)
theorem foldl_rep (its:List Value):∀ (k:Nat) (a:List Value),
  List.foldl (λx1 x2=>x1++x2) a.toArray (replicate k its.toArray)=(a++(replicate k its).flatten).toArray
 | 0,a=>by simp
 |k+1,a=>by
  have e:a.toArray++its.toArray=(a++its).toArray:=by simp
  have b:(a++its)++(replicate k its).flatten=a++(replicate (k+1) its).flatten:=by rw[replicate_succ,flatten_cons,List.append_assoc]
  rw[← b,← foldl_rep its k (a++its),← e,replicate_succ,foldl_cons]
section
variable {X:Cx}{pins:JM}{σ:St}{H:Hp}{s:Shared}{l b:Addr}{xs ys zs:List V}
theorem Inv.V6 {its its':List Value}{n:Nat}{f:Array Value->Array Value}{t':Nat}(I:Inv X pins σ H s)(g:H l=some (.lst xs))
  (e:s.heap.get? l=some { cls:=.type "list",data:=.seq its.toArray n }) (b:f its.toArray=its'.toArray) (a:Vals ys its') (hz:ys.length<=sizeLine) :
  Inv X pins σ (upd H l (.lst ys)) { s with heap:=s.heap.update l (Obj.mapSeq f),toks:=t' }:=by
 have q:=PySem.IsL.update e f;rw[b] at q;refine I.write (x:=l) (e:=l) (by rw[g];exact trivial) (.inl rfl) (λh u c d=>(Heap.get?_update_other s.heap (Obj.mapSeq f) (Ne.symm c)).trans d) ⟨_,q⟩ ?_;exact⟨hz,its',_,a,q⟩
theorem Inv.V7 {its:List Value}{t':Nat}(I:Inv X pins σ H s)(a:Vals ys its)(hz:ys.length<=sizeLine) :
  Inv X pins σ (upd H s.heap.objs.size (.lst ys)) { s with heap:=s.heap.push { cls:=.type "list",data:=.seq its.toArray },toks:=t' }:=
 I.laid (λ_ _ q=>Heap.get?_push_of_some _ q) (le_refl _) ⟨hz,its,0,a,Heap.get?_push_size _ rfl⟩
theorem Inv.fresh (I:Inv X pins σ H s):H s.heap.objs.size=none:=I.Kj.fresh (le_refl _)
theorem Inv.V8 (I:Inv X pins σ H s)(a:H l=some (.lst xs)):xs.length<=sizeLine/\∃ (its:List Value) (n:Nat),Vals xs its/\xs.length=its.length/\s.heap.get? l=some { cls:=.type "list",data:=.seq its.toArray n }:=by obtain⟨z,its,n,r,e⟩:=I.Kj l _ a;exact⟨z,its,n,r,r.length,e⟩
end
section
variable {X:Cx}
def Dy:V->List V->Hp->VK->Prop:=λx b H Q => ∃ l a y,x = .ref l/\b=[y]/\H l=some (.lst a)/\a.length<sizeLine/\Q .Kk (upd H l (.lst (a++[y])))
theorem Ae:Zj X "list.append" Dy:=by intro b s j H x o v k Q I c d h;obtain⟨l,g,y,rfl,rfl,a,i,q⟩:=h;cases c;obtain⟨u,rfl,f⟩:=d.one;obtain⟨z,its,n,r,m,e⟩:=I.V8 a;refine call_meets F.slot_list_append ⟨_,e,rfl⟩ F.entry_list_append (F.args_list_append_2 _ _) (PySem.list_append l its.toArray n u (by rw[size_toArray];omega)) ⟨e,?_⟩;refine⟨.Kk,_,I.V6 (its':=its++[u]) a e (by simp) (r.append (.cons f .nil)) ?_,rfl,q⟩;rw[List.length_append,length_singleton];omega
theorem len_rep {α:Type}(a:List α)(k:Nat):(replicate k a).flatten.length=k*a.length:=by
 induction k with
 |zero=>simp
 |succ k b=>rw[replicate_succ,flatten_cons,List.length_append,b,Nat.succ_mul,Nat.add_comm]
end
inductive D where
 |Kk |bl (b:Bool) |int (i:Int) |str (x:Str)
 |tup (xs:List D) |lst (xs:List D) |set (xs:List D) |loc (l:Nat) |fn (x:Str) (st:Stmt)
 deriving Inhabited
def TQ (K:JK)(H:Hp)(J:List Addr)(a:Addr)(b:List V):Prop:=
 (Rd H a (.tup b)/\a∉J/\b.length<=sizeLine)∨∃ (o:Obj) (its:Array Value) (n:Nat),K.lookup a=some o/\o.cls = .type "tuple"/\o.dict=none/\o.data = .seq its n/\its.size<=sizeLine/\Vals b its.toList
def LQ (K:JK)(H:Hp)(J:List Addr)(a:Addr)(b:List V):Prop:=
 (Rd H a (.lst b)/\a∉J/\b.length<=sizeLine)∨∃ (o:Obj) (its:Array Value) (n:Nat),K.lookup a=some o/\o.cls = .type "list"/\o.dict=none/\o.data = .seq its n/\its.size<=sizeLine/\Vals b its.toList
theorem TQ.sq {K:JK}{H:Hp}{J:List Addr}{a:Addr}{d:List V}(h:TQ K H J a d):Nm K H a d:=h.elim (λz => .inl z.1) λ⟨o,its,n,a,b,_,c⟩ => .inr ⟨o,its,n,a,b,c⟩
theorem LQ.sq {K:JK}{H:Hp}{J:List Addr}{a:Addr}{b:List V}(h:LQ K H J a b):M0 K H a b:=h.elim (λz => .inl z.1) .inr
def HL (a:Addr)(us:List Value):HO:=HO.ext λh => ∃ o es ep t,h.get? a=some o/\o.ExactSet/\o.data = .set es ep t/\(es.toList.map (·.2))=us/\t.fits es.size=true/\es.size<=sizeLine
def Rx (x:Str):Prop:=x.length<=sizeLine/\PyData.strOk x=true
mutual
def At (K:JK)(H:Hp)(J:List Addr):D->V->Prop
 | .Kk,v=>v = .Kk
 | .bl b,v=>v = .bl b
 | .int i,v=>v = .int i
 | .str x,v=>v = .str x/\Rx x
 | .tup d,v => ∃ a c,v = .ref a/\TQ K H J a c/\JW K H J d c
 | .lst d,v => ∃ a c,v = .ref a/\LQ K H J a c/\JW K H J d c
 | .set d,v => ∃ a e c,v = .ref a/\H a=some (HL a e)/\a∉J/\Vals c e/\JW K H J d c
 | .loc l,v => ∃ a,v = .ref a/\J[l]?=some a
 | .fn x st,v => ∃ f fd,v = .ref f/\Oi K x x st f fd
def JW (K:JK)(H:Hp)(J:List Addr):List D->List V->Prop
 |[],vs=>vs=[]
 |d::ds,vs => ∃ v r,vs=v::r/\At K H J d v/\JW K H J ds r
end
structure Ex (J:List Addr) (H:Hp) (J':List Addr) (H':Hp):Prop where
 pre:J <+: J'
 keep:∀ b o,H b=some o->b∉J->H' b=some o/\b∉J'
theorem Ex.refl {J:List Addr}{H:Hp}:Ex J H J H:=⟨prefix_refl _,λ_ _ h n=>⟨h,n⟩⟩
theorem Ex.trans {J f e:List Addr}{H d g:Hp}(a:Ex J H f d)(b:Ex f d e g):Ex J H e g:=
 ⟨a.pre.trans b.pre,λc o h n=>let ⟨i,j⟩:=a.keep c o h n;b.keep c o i j⟩
theorem Ex.same {J:List Addr}{H H':Hp}(s:J6 H H'):Ex J H J H':=⟨prefix_refl _,λb o h n=>⟨s b o h,n⟩⟩
section
variable {K:JK}{H H':Hp}{J J':List Addr}
theorem Rd.ex {a:Addr}{u:HO}(e:Ex J H J' H')(h:Rd H a u)(n:a∉J):Rd H' a u/\a∉J':=by
 rcases h with h |⟨o,h⟩
 ·exact⟨.inl (e.keep a _ h n).1,(e.keep a _ h n).2⟩
 exact⟨.inr ⟨o,(e.keep a _ h n).1⟩,(e.keep a _ h n).2⟩
theorem TQ.ex {a:Addr}{b:List V}(e:Ex J H J' H')(h:TQ K H J a b):TQ K H' J' a b:=h.elim (λz => .inl ⟨(z.1.ex e z.2.1).1,(z.1.ex e z.2.1).2,z.2.2⟩) .inr
theorem LQ.ex {a:Addr}{b:List V}(e:Ex J H J' H')(h:LQ K H J a b):LQ K H' J' a b:=h.elim (λz => .inl ⟨(z.1.ex e z.2.1).1,(z.1.ex e z.2.1).2,z.2.2⟩) .inr
theorem TQ.len {a:Addr}{b:List V}(h:TQ K H J a b):b.length<=sizeLine:=by
 rcases h with ⟨_,_,z⟩ |⟨o,its,n,_,_,_,_,z,r⟩
 ·exact z
 have e:=Vals.length r;simp only[length_toList] at e;omega
theorem LQ.len {a:Addr}{b:List V}(h:LQ K H J a b):b.length<=sizeLine:=by
 rcases h with ⟨_,_,z⟩ |⟨o,its,n,_,_,_,_,z,r⟩
 ·exact z
 have e:=Vals.length r;simp only[length_toList] at e;omega
theorem yG {α:Type}{l a:List α}(h:l <+: a){i:Nat}{x : α}(e:l[i]?=some x):a[i]?=some x:=by obtain⟨t,rfl⟩:=h;rw[getElem?_append_left (List.getElem?_eq_some_iff.mp e).1];exact e
mutual
theorem At.ex (e:Ex J H J' H'):∀ {d:D}{v:V},At K H J d v->At K H' J' d v
 | .Kk,_,h=>by unfold At at h ⊢;exact h
 | .bl _,_,h=>by unfold At at h ⊢;exact h
 | .int _,_,h=>by unfold At at h ⊢;exact h
 | .str _,_,h=>by unfold At at h ⊢;exact h
 | .tup c,_,h=>by unfold At at h ⊢;obtain⟨a,b,rfl,q,r⟩:=h;exact⟨a,b,rfl,q.ex e,JW.ex e r⟩
 | .lst c,_,h=>by unfold At at h ⊢;obtain⟨a,b,rfl,q,r⟩:=h;exact⟨a,b,rfl,q.ex e,JW.ex e r⟩
 | .set c,_,h=>by unfold At at h ⊢;obtain⟨a,f,b,rfl,q,n,r,z⟩:=h;exact⟨a,f,b,rfl,(e.keep a _ q n).1,(e.keep a _ q n).2,r,JW.ex e z⟩
 | .loc l,_,h=>by unfold At at h ⊢;obtain⟨a,rfl,q⟩:=h;exact⟨a,rfl,yG e.pre q⟩
 | .fn _ _,_,h=>by unfold At at h ⊢;exact h
theorem JW.ex (e:Ex J H J' H'):∀ {ds:List D}{vs:List V},JW K H J ds vs->JW K H' J' ds vs
 |[],_,h=>by unfold JW at h ⊢;exact h
 |d::ds,_,h=>by unfold JW at h ⊢;obtain⟨v,r,rfl,p,q⟩:=h;exact⟨v,r,rfl,At.ex e p,JW.ex e q⟩
end
theorem At.Ld {v:V}:At K H J .Kk v↔v = .Kk:=by unfold At;exact Iff.rfl
theorem At.Kg {b:Bool}{v:V}:At K H J (.bl b) v↔v = .bl b:=by unfold At;exact Iff.rfl
theorem At.JS {i:Int}{v:V}:At K H J (.int i) v↔v = .int i:=by unfold At;exact Iff.rfl
theorem At.J9 {x:Str}{v:V}:At K H J (.str x) v↔v = .str x/\Rx x:=by unfold At;exact Iff.rfl
theorem At.Kb {ds:List D}{v:V}:At K H J (.tup ds) v↔∃ a b,v = .ref a/\TQ K H J a b/\JW K H J ds b:=by unfold At;exact Iff.rfl
theorem At.Kc {ds:List D}{v:V}:At K H J (.lst ds) v↔∃ a b,v = .ref a/\LQ K H J a b/\JW K H J ds b:=by unfold At;exact Iff.rfl
theorem At.Q9 {ds:List D}{v:V}:At K H J (.set ds) v↔∃ a us b,v = .ref a/\H a=some (HL a us)/\a∉J/\Vals b us/\JW K H J ds b:=by unfold At;exact Iff.rfl
theorem At.Ke {l:Nat}{v:V}:At K H J (.loc l) v↔∃ a,v = .ref a/\J[l]?=some a:=by unfold At;exact Iff.rfl
theorem At.OR {x:Str}{st:Stmt}{v:V}:At K H J (.fn x st) v↔∃ f fd,v = .ref f/\Oi K x x st f fd:=by unfold At;exact Iff.rfl
theorem JW.JY {vs:List V}:JW K H J [] vs↔vs=[]:=by unfold JW;exact Iff.rfl
theorem JW.JU {d:D}{ds:List D}{vs:List V}:JW K H J (d::ds) vs↔∃ v r,vs=v::r/\At K H J d v/\JW K H J ds r:=by
 constructor
 ·intro h;unfold JW at h;exact h
 intro h;unfold JW;exact h
theorem JW.nil:JW K H J [] []:=JW.JY.mpr rfl
theorem JW.cons {d:D}{v:V}{ds:List D}{vs:List V}(h:At K H J d v)(r:JW K H J ds vs):JW K H J (d::ds) (v::vs):=JW.JU.mpr ⟨v,vs,rfl,h,r⟩
theorem JW.JZ {d:D}{v:V}{ds:List D}{vs:List V}(h:JW K H J (d::ds) (v::vs)):At K H J d v/\JW K H J ds vs:=by obtain⟨_,_,e,p,q⟩:=JW.JU.mp h;cases e;exact⟨p,q⟩
theorem JW.length:∀ {ds:List D}{vs:List V},JW K H J ds vs->ds.length=vs.length
 |[],_,h=>by rw[JW.JY.mp h];rfl
 |d::ds,_,h=>by obtain⟨v,r,rfl,_,q⟩:=JW.JU.mp h;rw[length_cons,length_cons,JW.length q]
theorem JW.append:∀ {ds es:List D}{vs us:List V},JW K H J ds vs->JW K H J es us->JW K H J (ds++es) (vs++us)
 |[],_,_,_,h,k=>by rw[JW.JY.mp h];exact k
 |d::ds,_,_,_,h,k=>by obtain⟨v,r,rfl,p,q⟩:=JW.JU.mp h;exact .cons p (JW.append q k)
theorem JW.get:∀ {ds:List D}{vs:List V}{i:Nat}{d:D},JW K H J ds vs->ds[i]?=some d->∃ v,vs[i]?=some v/\At K H J d v
 |[],_,_,_,_,e=>by simp at e
 |d::ds,_,0,_,h,e=>by obtain⟨v,r,rfl,p,q⟩:=JW.JU.mp h;simp at e;subst e;exact⟨v,rfl,p⟩
 |d::ds,_,i+1,_,h,e=>by obtain⟨v,r,rfl,p,q⟩:=JW.JU.mp h;exact JW.get (i:=i) q (by simpa using e)
theorem JW.get':∀ {ds:List D}{vs:List V}{i:Nat}{v:V},JW K H J ds vs->vs[i]?=some v->∃ d,ds[i]?=some d/\At K H J d v
 |[],_,_,_,h,e=>by rw[JW.JY.mp h] at e;simp at e
 |d::ds,_,0,_,h,e=>by obtain⟨v,r,rfl,p,q⟩:=JW.JU.mp h;simp at e;subst e;exact⟨d,rfl,p⟩
 |d::ds,_,i+1,_,h,e=>by obtain⟨v,r,rfl,p,q⟩:=JW.JU.mp h;exact JW.get' (i:=i) q (by simpa using e)
theorem JW.take:∀ {ds:List D}{vs:List V}(n:Nat),JW K H J ds vs->JW K H J (ds.take n) (vs.take n)
 |_,_,0,_=>by simpa using JW.nil
 |[],_,_+1,h=>by rw[JW.JY.mp h];simpa using JW.nil
 |d::ds,_,n+1,h=>by obtain⟨v,r,rfl,p,q⟩:=JW.JU.mp h;exact .cons p (JW.take n q)
theorem JW.drop:∀ {ds:List D}{vs:List V}(n:Nat),JW K H J ds vs->JW K H J (ds.drop n) (vs.drop n)
 |_,_,0,h=>h
 |[],_,_+1,h=>by rw[JW.JY.mp h];simpa using JW.nil
 |d::ds,_,n+1,h=>by obtain⟨v,r,rfl,p,q⟩:=JW.JU.mp h;exact JW.drop n q
theorem JW.rep {ds:List D}{vs:List V}(h:JW K H J ds vs):∀ k:Nat,JW K H J (replicate k ds).flatten (replicate k vs).flatten
 | 0=>JW.nil
 |k+1=>by rw[replicate_succ,replicate_succ,flatten_cons,flatten_cons];exact h.append (JW.rep h k)
theorem JW.ofInts:∀ (ns:List Int),JW K H J (ns.map D.int) (ns.map V.int)
 |[] => .nil
 |n::ns => .cons (At.JS.mpr rfl) (JW.ofInts ns)
theorem JW.My:∀ {ns:List Int}{vs:List V},JW K H J (ns.map D.int) vs->vs=ns.map V.int
 |[],_,h=>JW.JY.mp h
 |n::ns,_,h=>by obtain⟨v,r,rfl,p,q⟩:=JW.JU.mp h;rw[At.JS.mp p,JW.My q];rfl
end
mutual
def toPy:D->Option PyData
 | .Kk=>some .none
 | .bl b=>some (.bool b)
 | .int i=>some (.int i)
 | .str x=>some (.str x)
 | .tup a=>(b6 a).map .tuple
 | .lst a=>(b6 a).map .list
 | .set _=>none
 | .loc _=>none
 | .fn _ _=>none
def b6:List D->Option (List PyData)
 |[]=>some []
 |d::ds=>(toPy d).bind λp=>(b6 ds).map λr=>p::r
end
inductive MO where
 |dict (kvs:List (D×D)) |lst (xs:List D) |exc (c:Str) |JT (kvs:List (D×D)) |ins (c:Str) (fs:List (Str×D))
 deriving Inhabited
abbrev JP:=List MO
def fy:D->Option Key
 | .int i=>some (.inl i)
 | .str x=>some (.inr x)
 |_=>none
def Zk (a C:Addr):HO:=HO.ext λh => ∃ o,h.get? a=some o/\o.cls = .ref C
def gp (d:D):Option PyData:=(toPy d).bind λp=>if keyOk 8 p=true then some p else none
abbrev Pu (K:JK)(H:Hp)(J:List Addr):(D×D)->(PyData×Addr×V)->Prop:=λp q=>(gp p.1=some q.1/\At K H J p.1 (.ref q.2.1))/\At K H J p.2 q.2.2
abbrev Vp (K:JK)(H:Hp)(J:List Addr):(Str×D)->(Str×V)->Prop:=λp q=>p.1=q.1/\At K H J p.2 q.2
def Ry (K:JK)(H:Hp)(J:List Addr):MO->Addr->Prop
 | .lst h,a => ∃ e,H a=some (.lst e)/\JW K H J h e
 | .dict b,a => ∃ d:List (Key×V),H a=some (.dK d)/\Paired (λ(p:D×D) (q:Key×V)=>(fy p.1=some q.1/\At K H J p.1 (kV q.1))/\At K H J p.2 q.2) b d
 | .exc c,a => ∃ C,PySem.W.nsIn K mainGlobals c=some (some (.ref C))/\H a=some (Zk a C)
 | .JT b,a => ∃ d:List (PyData×Addr×V),H a=some (.dN d)/\Paired (Pu K H J) b d
 | .ins c fs,a => ∃ C g f,PySem.W.nsIn K mainGlobals c=some (some (.ref C))/\H a=some (.ins C g f)/\Paired (Vp K H J) fs f
structure Km (K:JK) (J:List Addr) (S:JP) (H:Hp):Prop where
 len:J.length=S.length
 nd:J.Nodup
 at_:∀ (l:Nat) (a:Addr) (o:MO),J[l]?=some a->S[l]?=some o->Ry K H J o a
section
variable {K:JK}{H H':Hp}{J J':List Addr}{S:JP}
theorem Ry.N0 {o:MO}{a:Addr}(h:Ry K H J o a):H a≠none:=by
 cases o with
 |dict b=>obtain⟨_,e,_⟩:=h;rw[e];simp
 |lst d=>obtain⟨_,e,_⟩:=h;rw[e];simp
 |exc c=>obtain⟨_,_,e⟩:=h;rw[e];simp
 |JT b=>obtain⟨_,e,_⟩:=h;rw[e];simp
 |ins c fs=>obtain⟨_,_,_,_,e,_⟩:=h;rw[e];simp
theorem Km.tracked (s:Km K J S H){a:Addr}(h:a∈J):H a≠none:=by
 obtain⟨l,e⟩:=getElem?_of_mem h;have b:l<S.length:=by rw[← s.len];exact(List.getElem?_eq_some_iff.mp e).1
 exact(s.at_ l a _ e (List.getElem?_eq_getElem b)).N0
theorem Ry.ex {o:MO}{a:Addr}(e:Ex J H J' H')(k:H' a=H a)(h:Ry K H J o a):Ry K H' J' o a:=by
 cases o with
 |dict b=>obtain⟨d,q,r⟩:=h;exact⟨d,k.trans q,Paired.NS r λp q z=>⟨⟨z.1.1,z.1.2.ex e⟩,z.2.ex e⟩⟩
 |lst j=>obtain⟨g,q,r⟩:=h;exact⟨g,k.trans q,r.ex e⟩
 |exc c=>obtain⟨C,q,r⟩:=h;exact⟨C,q,k.trans r⟩
 |JT b=>obtain⟨d,q,r⟩:=h;exact⟨d,k.trans q,Paired.NS r λp q z=>⟨⟨z.1.1,z.1.2.ex e⟩,z.2.ex e⟩⟩
 |ins c fs=>obtain⟨C,f,i,n,q,r⟩:=h;exact⟨C,f,i,n,k.trans q,Paired.NS r λp q z=>⟨z.1,z.2.ex e⟩⟩
theorem Km.same (s:Km K J S H)(e:J6 H H'):Km K J S H':=⟨s.len,s.nd,λl a o d c=>by
 have q:=s.at_ l a o d c;refine q.ex (Ex.same e) ?_;obtain⟨u,b⟩:=Option.ne_none_iff_exists'.mp q.N0
 rw[b];exact e a u b⟩
end
theorem aQ {H:Hp}{p:Addr}(h:H p=none)(o:HO):J6 H (upd H p o):=λb u q=>by rw[aJ (aO q h)];exact q
abbrev JQ:=List (Option D)
abbrev Out (α:Type):=Option (Except Str α×JP)
abbrev JJ(α:Type):=JQ->JP->Out α
abbrev JO:=List D->JP->Out D
abbrev WT:=Str->List Addr->JP->Hp->Prop
noncomputable def ai {α b:Type}(m:Out α) (k : α->JP->Out b):Out b:=
 match m with
 |none=>none
 |some (.error c,S)=>some (.error c,S)
 |some (.ok a,S)=>k a S
noncomputable def JV {α:Type}(a : α) (S:JP):Out α:=some (.ok a,S)
@[simp] theorem cA {α b:Type}(a : α)(S:JP)(k : α->JP->Out b):ai (JV a S) k=k a S:=rfl
@[simp] theorem kU {α b:Type}(a : α)(S:JP)(k : α->JP->Out b):ai (some (.ok a,S)) k=k a S:=rfl
@[simp] theorem GL {α a:Type}(c:Str)(S:JP)(k : α->JP->Out a):ai (some (.error c,S)) k=some (.error c,S):=rfl
@[simp] theorem GD {α a:Type}(k : α->JP->Out a):ai none k=none:=rfl
noncomputable def aP {α:Type}(a:Option α) (S:JP):Out α:=a.map λa=>(.ok a,S)
@[simp] theorem bZ {α:Type}(a : α)(S:JP):aP (some a) S=JV a S:=rfl
@[simp] theorem GK {α:Type}(S:JP):aP (none:Option α) S=none:=rfl
structure Cf (X:Cx) (J:List Addr) (ρ:JQ) (S:JP) (σ:St) (H:Hp):Prop where
 len : ρ.length = σ.length
 env:∀ (i:Nat) (d:D),ρ[i]?=some (some d)->∃ v,σ[i]?=some (some v)/\At X.K H J d v
 Kr:Km X.K J S H
theorem Cf.re {X:Cx}{J a:List Addr}{ρ:JQ}{S b:JP}{f:St}{H H':Hp}(c:Cf X J ρ S f H)(e:Ex J H a H')(s:Km X.K a b H'):Cf X a ρ b f H':=
 ⟨c.len,λi d h=>let ⟨v,j,g⟩:=c.env i d h;⟨v,j,g.ex e⟩,s⟩
def HP {α g:Type}(X:Cx)(W:WT)(R:List Addr->Hp->α->g->Prop)(J:List Addr)(H:Hp)(r:Except Str α)(f:JP)(Q : g->Hp->Prop):Prop:=
 match r with
 | .ok a => ∀ e d b,Ex J H e d->Km X.K e f d->R e d a b->Q b d
 | .error c => ∀ e d,Ex J H e d->Km X.K e f d->W c e f d
def tG {α b:Type}(X:Cx)(W:WT)(R:List Addr->Hp->α->b->Prop)(ds:List D)(vs:List V)(g:JJ α):St->Hp->(b->Hp->Prop)->Prop:=λd H Q =>
 ∃ J a S r c,Cf X J a S d H/\JW X.K H J ds vs/\g a S=some (r,c)/\HP X W R J H r c Q
abbrev RD (X:Cx):List Addr->Hp->D->V->Prop:=λJ H d v=>At X.K H J d v
abbrev Zl (X:Cx):List Addr->Hp->List D->List V->Prop:=λJ H d v=>JW X.K H J d v
abbrev RB:List Addr->Hp->Bool->Bool->Prop:=λ_ _ a b=>a=b
def tE (X:Cx)(W:WT)(g:JJ D):TE:=tG X W (RD X) [] [] g
def tA (X:Cx)(W:WT)(g:JJ (List D)):TA:=tG X W (Zl X) [] [] g
def tT (X:Cx)(W:WT)(g:JJ Bool):TT:=tG X W RB [] [] g
def SE (X:Cx)(W:WT)(e:Expr)(g:JJ D):Prop:=PE X e (tE X W g)
def SA (X:Cx)(W:WT)(es:List Expr)(g:JJ (List D)):Prop:=PA X es (tA X W g)
def MH (X:Cx)(W:WT)(e:Expr)(g:JJ Bool):Prop:=PT X e (tT X W g)
def SW (X:Cx)(W:WT)(e:Expr)(g:JJ Bool):Prop:=PW X e (tT X W g)
theorem PE.imp {X:Cx}{e:Expr}{t t':TE}(h:PE X e t)(i:∀ a H Q,t' a H Q->t a H Q):PE X e t':=λb s a H Q I z=>h b s a H Q I (i a H Q z)
theorem PT.imp {X:Cx}{e:Expr}{t t':TT}(h:PT X e t)(i:∀ a H Q,t' a H Q->t a H Q):PT X e t':=λb s a H Q I z=>h b s a H Q I (i a H Q z)
theorem PW.imp {X:Cx}{e:Expr}{t t':TT}(h:PW X e t)(i:∀ a H Q,t' a H Q->t a H Q):PW X e t':=λc b s a H Q I z=>h c b s a H Q I (i a H Q z)
theorem PA.imp {X:Cx}{e:List Expr}{t t':TA}(h:PA X e t)(i:∀ a H Q,t' a H Q->t a H Q):PA X e t':=λpos b s a H Q I z=>h pos b s a H Q I (i a H Q z)
section
variable {X:Cx}{W:WT}{α β γ:Type}{R:List Addr->Hp->γ->β->Prop}
theorem tG.J5 {l:JJ D}{k:D->JJ γ}{ds:List D}{vs:List V}{n:St}{H:Hp}{Q : β->Hp->Prop}
  (h:tG X W R ds vs (λρ S=>ai (l ρ S) λd f=>k d ρ f) n H Q):tE X W l n H λv s => ∃ d,tG X W R (d::ds) (v::vs) (k d) n s Q:=by
 obtain⟨J,ρ,S,r,y,c,a,e,z⟩:=h;cases q:l ρ S with
 |none=>simp[q] at e
 |some o =>
  obtain⟨u,f⟩:=o;simp only[q] at e;cases u with
  |error x =>
   cases e;exact⟨J,ρ,S,.error x,_,c,.nil,q,z⟩
  |ok d =>
   refine⟨J,ρ,S,.ok d,f,c,.nil,q,λA s v x w m=>⟨d,A,ρ,f,r,y,c.re x w,.cons m (a.ex x),e,?_⟩⟩;cases r with
   |ok g=>exact λi j b x2 p t=>z i j b (x.trans x2) p t
   |error g=>exact λi j x2 p=>z i j (x.trans x2) p
theorem tG.L1 {l:JJ (List D)}{k:List D->JJ γ}{ds:List D}{vs:List V}{n:St}{H:Hp}{Q : β->Hp->Prop}
  (h:tG X W R ds vs (λρ S=>ai (l ρ S) λd f=>k d ρ f) n H Q):tA X W l n H λus s => ∃ es,es.length=us.length/\tG X W R (es++ds) (us++vs) (k es) n s Q:=by
 obtain⟨J,ρ,S,r,y,c,a,e,z⟩:=h;cases q:l ρ S with
 |none=>simp[q] at e
 |some o =>
  obtain⟨u,f⟩:=o;simp only[q] at e;cases u with
  |error x =>
   cases e;exact⟨J,ρ,S,.error x,_,c,.nil,q,z⟩
  |ok d =>
   refine⟨J,ρ,S,.ok d,f,c,.nil,q,λA s v x w m=>⟨d,JW.length m,A,ρ,f,r,y,c.re x w,JW.append m (a.ex x),e,?_⟩⟩;cases r with
   |ok g=>exact λi j b x2 p t=>z i j b (x.trans x2) p t
   |error g=>exact λi j x2 p=>z i j (x.trans x2) p
theorem tG.ND {l:JJ Bool}{k:Bool->JJ γ}{ds:List D}{vs:List V}{n:St}{H:Hp}{Q : β->Hp->Prop}
  (h:tG X W R ds vs (λρ S=>ai (l ρ S) λd f=>k d ρ f) n H Q):tT X W l n H λb s=>tG X W R ds vs (k b) n s Q:=by
 obtain⟨J,ρ,S,r,y,c,a,e,z⟩:=h;cases q:l ρ S with
 |none=>simp[q] at e
 |some o =>
  obtain⟨u,f⟩:=o;simp only[q] at e;cases u with
  |error x =>
   cases e;exact⟨J,ρ,S,.error x,_,c,.nil,q,z⟩
  |ok d =>
   refine⟨J,ρ,S,.ok d,f,c,.nil,q,λA s v x w m=>?_⟩;cases m;refine⟨A,ρ,f,r,y,c.re x w,a.ex x,e,?_⟩;cases r with
   |ok g=>exact λi j b x2 p t=>z i j b (x.trans x2) p t
   |error g=>exact λi j x2 p=>z i j (x.trans x2) p
end
section
variable {X:Cx}{pins:JM}{σ:St}{H:Hp}{s:Shared}{J:List Addr}
mutual
theorem At.reads (I:Inv X pins σ H s):∀ {d:D}{v:V}{u:Value}{p:PyData},At X.K H J d v->RelV v u->toPy d=some p->p.canLay0=true/\∃ as,Reads s.heap u p as
 | .Kk,_,_,_,h,r,e=>by
  have h:=At.Ld.mp h;subst h;simp[toPy] at e;subst e;cases r;exact⟨rfl,[],.none⟩
 | .bl b,_,_,_,h,r,e=>by
  have h:=At.Kg.mp h;subst h;simp[toPy] at e;subst e;cases r;exact⟨rfl,[],.bool b⟩
 | .int i,_,_,_,h,r,e=>by
  have h:=At.JS.mp h;subst h;simp[toPy] at e;subst e;obtain⟨t,rfl⟩:=r;exact⟨rfl,[],.int i t⟩
 | .str x,_,_,_,h,r,e=>by
  obtain⟨ev,y⟩:=At.J9.mp h;subst ev;simp[toPy] at e;subst e;obtain⟨t,rfl⟩:=r;exact⟨by rw[PyData.canLay0];exact y.2,[],.str x t⟩
 | .tup A,_,_,_,h,r,e=>by
  obtain⟨a,w,rfl,q,z⟩:=At.Kb.mp h;rw[toPy] at e;obtain⟨B,l,m⟩:=map_eq_some_iff.mp e;subst m;cases r;obtain⟨its,g,⟨o,j,k,n,hd⟩,_⟩:=I.tuple q.sq;obtain⟨c,as,f⟩:=JW.readsAll I z g l;exact⟨by rw[PyData.canLay0];exact c,_,.tuple j k hd (by simpa using f)⟩
 | .lst A,_,_,_,h,r,e=>by
  obtain⟨a,w,rfl,q,z⟩:=At.Kc.mp h;rw[toPy] at e;obtain⟨B,l,m⟩:=map_eq_some_iff.mp e;subst m;cases r;obtain⟨its,g,⟨o,n,j,k,_,hd⟩,_⟩:=I.list q.sq;obtain⟨c,as,f⟩:=JW.readsAll I z g l;exact⟨by rw[PyData.canLay0];exact c,_,.list j k hd (by simpa using f)⟩
 | .set _,_,_,_,_,_,e=>by simp[toPy] at e
 | .loc _,_,_,_,_,_,e=>by simp[toPy] at e
 | .fn _ _,_,_,_,_,_,e=>by simp[toPy] at e
theorem JW.readsAll (I:Inv X pins σ H s):∀ {ds:List D}{vs:List V}{us:List Value}{a:List PyData},JW X.K H J ds vs->Vals vs us->b6 ds=some a->PyData.canLayAll0 a=true/\∃ as,ReadsAll s.heap us a as
 |[],_,_,_,h,r,e=>by
  have h:=JW.JY.mp h;subst h;simp[b6] at e;subst e;cases r;exact⟨rfl,[],.nil⟩
 |d::ds,_,_,_,h,r,e=>by
  obtain⟨v,vs,rfl,p,q⟩:=JW.JU.mp h;rw[b6] at e;obtain⟨o,k,l⟩:=bind_eq_some_iff.mp e;obtain⟨t,f,m⟩:=map_eq_some_iff.mp l;subst m;cases r with
  |cons n b =>
   obtain⟨i,as,c⟩:=At.reads I p n k;obtain⟨j,bs,g⟩:=JW.readsAll I q b f;exact⟨by rw[PyData.canLayAll0,i,j];rfl,_,.cons c g⟩
end
end
section
variable {K:JK}
def V9 (K:JK)(g:D->Option D):V->Hp->VK->Prop:=λx H Q => ∃ J c d,(∀ a∈J,H a≠none)/\At K H J c x/\g c=some d/\∀ b v,J6 H b->At K b J d v->Q v b
def Sk (K:JK)(g:D->D->Option D):R2:=λx y H Q => ∃ J e c d,(∀ a∈J,H a≠none)/\At K H J e x/\At K H J c y/\g e c=some d/\∀ b v,J6 H b->At K b J d v->Q v b
def V_ (K:JK)(g:List D->Option D):List V->Hp->VK->Prop:=λe H Q => ∃ J c d,(∀ a∈J,H a≠none)/\JW K H J c e/\g c=some d/\∀ b v,J6 H b->At K b J d v->Q v b
end
theorem y7 {H:Hp}{J:List Addr}(h:∀ a∈J,H a≠none){p:Addr}(n:H p=none):p∉J:=λm=>h p m n
theorem At.LL {K:JK}{H:Hp}{J:List Addr}{p:Addr}{ds:List D}{b:List V}(h:JW K H J ds b)(n:H p=none)(c:∀ a∈J,H a≠none)(hz:b.length<=sizeLine):At K (upd H p (.tup b)) J (.tup ds) (.ref p):=
 At.Kb.mpr ⟨p,b,rfl,.inl ⟨.inl J4,y7 c n,hz⟩,h.ex (Ex.same (aQ n _))⟩
theorem At.Lj {K:JK}{H:Hp}{J:List Addr}{p:Addr}{ds:List D}{b:List V}(h:JW K H J ds b)(n:H p=none)(c:∀ a∈J,H a≠none)(hz:b.length<=sizeLine):At K (upd H p (.lst b)) J (.lst ds) (.ref p):=
 At.Kc.mpr ⟨p,b,rfl,.inl ⟨.inl J4,y7 c n,hz⟩,h.ex (Ex.same (aQ n _))⟩
section
variable {X:Cx}{W:WT}
theorem tG.mono {α f:Type}{R:List Addr->Hp->α->f->Prop}{ds:List D}{vs:List V}{g:JJ α}{j:St}{H:Hp}{Q d : f->Hp->Prop}(h:tG X W R ds vs g j H Q)(i:∀ b H',Q b H'->d b H'):tG X W R ds vs g j H d:=by
 obtain⟨J,k,S,r,l,c,a,e,z⟩:=h;refine⟨J,k,S,r,l,c,a,e,?_⟩;cases r with
 |ok g=>exact λm H' b x s r=>i _ _ (z m H' b x s r)
 |error g=>exact z
theorem Km.all {K:JK}{J:List Addr}{S:JP}{H:Hp}(s:Km K J S H):∀ a∈J,H a≠none:=λ_ m=>s.tracked m
theorem tG.Wa {g:D->Option D}{b:D}{x:V}{f:St}{H:Hp}{Q:VK}(h:tG X W (RD X) [b] [x] (λ_ S=>aP (g b) S) f H Q):V9 X.K g x H Q:=by
 obtain⟨J,k,S,r,l,c,a,e,z⟩:=h;obtain⟨j,_⟩:=a.JZ;cases q:g b with
 |none=>simp[q] at e
 |some d =>
  simp only[q,bZ,JV] at e;cases e;exact⟨J,b,d,c.Kr.all,j,q,λi v s m=>z J i v (Ex.same s) (c.Kr.same s) m⟩
theorem tG.Wb {g:D->D->Option D}{f b:D}{x y:V}{i:St}{H:Hp}{Q:VK}(h:tG X W (RD X) [b,f] [y,x] (λ_ S=>aP (g f b) S) i H Q):Sk X.K g x y H Q:=by
 obtain⟨J,n,S,r,o,c,a,e,z⟩:=h;obtain⟨l,a⟩:=a.JZ;obtain⟨k,_⟩:=a.JZ;cases q:g f b with
 |none=>simp[q] at e
 |some d =>
  simp only[q,bZ,JV] at e;cases e;exact⟨J,f,b,d,c.Kr.all,k,l,q,λj v s m=>z J j v (Ex.same s) (c.Kr.same s) m⟩
theorem tG.XB {g:List D->Option D}{ds:List D}{b:List V}{f:St}{H:Hp}{Q:VK}(h:tG X W (RD X) ds b (λ_ S=>aP (g ds) S) f H Q):V_ X.K g b H Q:=by
 obtain⟨J,j,S,r,k,c,a,e,z⟩:=h;cases q:g ds with
 |none=>simp[q] at e
 |some d =>
  simp only[q,bZ,JV] at e;cases e;exact⟨J,ds,d,c.Kr.all,a,q,λi v s m=>z J i v (Ex.same s) (c.Kr.same s) m⟩
abbrev Nu (X:Cx)(f:Value->Value->Sem Value)(g:D->D->Option D):Prop:=MW X f (Sk X.K g)
abbrev XC (X:Cx)(f:Value->Sem Value)(g:D->Option D):Prop:=Vi X f (V9 X.K g)
abbrev l6 (X:Cx)(f:Value)(g:List D->Option D):Prop:=gm X f (V_ X.K g)
noncomputable def ag (i:Nat):JJ D:=λa S=>match a[i]? with
 |some (some d)=>JV d S
 |_=>none
theorem aa {i:Nat}{x:Str}{pos:Pos}(j:X.N[i]?=some x:=by rfl)(a:Vc X.env.scope x:=by first |exact Or.inl rfl |exact Or.inr (Or.inl rfl) |exact Or.inr (Or.inr rfl))(hd:(x==("__debug__":Str))=false:=by decide)
  (f:(x==("__classdict__":Str))=false:=by decide):SE X W (.Name x pos) (ag i):=(Bz j a hd f).imp λl H Q h=>by
 obtain⟨J,k,S,r,m,c,_,e,z⟩:=h;unfold ag at e;split at e
 ·rename_i d q;obtain⟨v,g,b⟩:=c.env i d q;cases e;exact⟨v,g,z J H v Ex.refl c.Kr b⟩
 cases e
def aC (d:D):JJ D:=λ_ S=>JV d S
theorem jV {d:D}{v:V}{b:St}{H:Hp}{Q:VK}(h:tE X W (aC d) b H Q)(a:∀ J,At X.K H J d v):Q v H:=by obtain⟨J,f,S,r,g,c,_,e,z⟩:=h;cases e;exact z J H v Ex.refl c.Kr (a J)
theorem ao {i j pos}:SE X W (.Constant (.int i) j pos) (aC (.int i)):=R8.imp λa H Q h=>jV h λ_=>At.JS.mpr rfl
theorem fV {b j pos}:SE X W (.Constant (.bool b) j pos) (aC (.bl b)):=TX.imp λa H Q h=>jV h λ_=>At.Kg.mpr rfl
theorem sU {j pos}:SE X W (.Constant .none j pos) (aC .Kk):=R9.imp λa H Q h=>jV h λ_=>At.Ld.mpr rfl
theorem dZ {x j pos}(a:Rx x:=by exact⟨by decide,by decide⟩):SE X W (.Constant (.str x) j pos) (aC (.str x)):=R_.imp λb H Q h=>jV h λ_=>At.J9.mpr ⟨rfl,a⟩
def HQ (K:JK)(u:Value)(d:D):Prop:=∃ v,RelV v u/\∀ H J,At K H J d v
theorem Dv {x:Str}{d:D}{u:Value}{pos:Pos}(e:X.mg x=some u)(b:HQ X.K u d)(c:Gl X x:=by rfl)(hd:(x==("__debug__":Str))=false:=by decide):SE X W (.Name x pos) (aC d):=by obtain⟨v,r,a⟩:=b;exact(DM c e r hd).imp λf H Q h=>jV h λJ=>a H J
def aI (g:D->D->Option D)(c d:JJ D):JJ D:=λa S=>ai (c a S) λx b=>ai (d a b) λy e=>aP (g x y) e
def Pc (g:D->Option D)(c:JJ D):JJ D:=λa S=>ai (c a S) λx b=>aP (g x) b
variable {a b c:Expr}{fa fb fc:JJ D}{pos:Pos}
theorem lU {g:D->D->Option D}{a:St}{H:Hp}{Q:VK}(h:tE X W (aI g fa fb) a H Q):Tn (Sk X.K g) (tE X W fa) (tE X W fb) a H Q:=
 (tG.J5 h).mono λv f ⟨d,c⟩=>(tG.J5 c).mono λi j ⟨e,b⟩=>tG.Wb b
theorem aD {c:Operator}{g:D->D->Option D}(f:Nu X (binaryOp c) g)(d:SE X W a fa)(e:SE X W b fb):SE X W (.BinOp a c b pos) (aI g fa fb):=
 (G8 f d e).imp λi H Q h=>lU h
theorem Bc {b:UnaryOp}{g:D->Option D}(e:XC X (unaryOp b) g)(c:SE X W a fa):SE X W (.UnaryOp b a pos) (Pc g fa):=
 (G7 e c).imp λj H Q h=>(tG.J5 h).mono λv i ⟨d,f⟩=>tG.Wa f
theorem kG {c:CmpOp}{g:D->D->Option D}(f:Nu X (compareOp c) g)(d:SE X W a fa)(e:SE X W b fb)(i:behindInMarks c b=false:=by first |exact xu _ (by decide) (by decide) |with_unfolding_all rfl):SE X W (.Compare a [c] [b] pos) (aI g fa fb):=
 (DO f d e i).imp λj H Q h=>lU h
def NG:D->Option Bool
 | .bl b=>some b
 |_=>none
def aY (f:JJ D):JJ Bool:=λa S=>ai (f a S) λx b=>aP (NG x) b
theorem fO {f:JJ D}{a:St}{H:Hp}{Q:Bool->Hp->Prop}(h:tT X W (aY f) a H Q):Ly (tE X W f) a H Q:=
 (tG.J5 h).mono λv g b=>by
  obtain⟨d,i⟩:=b
  obtain⟨J,j,S,r,l,c,m,e,z⟩:=i;obtain⟨m,_⟩:=m.JZ;cases d with
  |bl k =>
   cases e;exact⟨k,At.Kg.mp m,z J g k Ex.refl c.Kr rfl⟩
  |_=>simp[NG] at e
theorem Ly.mono {t t':TE}(i:∀ a H Q,t' a H Q->t a H Q){a:St}{H:Hp}{Q:Bool->Hp->Prop}(h:Ly t' a H Q):Ly t a H Q:=i _ _ _ h
theorem bu {c:CmpOp}{g:D->D->Option D}(f:Nu X (compareOp c) g)(d:SE X W a fa)(e:SE X W b fb)(i:behindInMarks c b=false:=by first |exact xu _ (by decide) (by decide) |with_unfolding_all rfl) :
  MH X W (.Compare a [c] [b] pos) (aY (aI g fa fb)):=
 (yF f d e i).imp λj H Q h=>Ly.mono (λ_ _ _=>lU) (fO h)
theorem dA (b:SE X W a fa)(c:∀ whole,isTrue a X.env whole=(do let v ← whole;standAt a.pos;holding [v] (truthy v)):=by intro _;rfl):MH X W a (aY fa):=
 (FF b c).imp λd H Q h=>fO h
def mT (g g':D->D->Option D)(fa fb fc:JJ D):JJ D:=λa S=>ai (fa a S) λx c=>ai (fb a c) λy e=>ai (aP ((g x y).bind NG) e) λk b =>
 if k=true then ai (fc a b) λz d=>aP (g' y z) d else JV (.bl false) b
theorem pW {g g':D->D->Option D}{n:St}{H:Hp}{Q:VK}(h:tE X W (mT g g' fa fb fc) n H Q):w6 (Sk X.K g) (Sk X.K g') (tE X W fa) (tE X W fb) (tE X W fc) n H Q:=
 (tG.J5 h).mono λx T ⟨u,L⟩=>(tG.J5 L).mono λy G C=>by
  obtain⟨a,E⟩:=C
  obtain⟨J,j,S,r,B,c,m,e,z⟩:=E;obtain⟨A,M⟩:=m.JZ;obtain⟨N,_⟩:=M.JZ;cases q:g u a with
  |none=>simp[q] at e
  |some d =>
   cases d with
   |bl k =>
    simp only[q,bind_some,NG,bZ,cA] at e;refine⟨J,u,a,_,c.Kr.all,N,A,q,λi v l P=>?_⟩;cases At.Kg.mp P;refine⟨k,rfl,?_⟩;have f:Ex J G J i:=Ex.same l
    have t:HP X W (RD X) J i r B Q:=by
     cases r with
     |ok w=>exact λp o b x s r=>z p o b (f.trans x) s r
     |error w=>exact λp o x s=>z p o (f.trans x) s
    cases k with
    |true =>
     rw[if_pos rfl];rw[if_pos rfl] at e;have O:tG X W (RD X) [a] [y] (λj F=>ai (fc j F) λz R=>aP (g' a z) R) n i Q:=⟨J,j,S,r,B,c.re f (c.Kr.same l),.cons (A.ex f) .nil,e,t⟩;exact(tG.J5 O).mono λw U ⟨V,I⟩=>tG.Wb I
    |false =>
     rw[if_neg (by decide)];rw[if_neg (by decide)] at e;cases e;exact t J i _ Ex.refl (c.Kr.same l) (At.Kg.mpr rfl)
   |_=>simp[q,NG] at e
theorem Bf {e d:CmpOp}{g g':D->D->Option D}(l:Nu X (compareOp e) g)(k:Nu X (compareOp d) g')(f:SE X W a fa)(i:SE X W b fb)(j:SE X W c fc)
  (m:lastMarks [e,d] [b,c]=false:=by with_unfolding_all rfl):SE X W (.Compare a [e,d] [b,c] pos) (mT g g' fa fb fc):=
 (BC l k f i j m).imp λn H Q h=>pW h
theorem AV {e d:CmpOp}{g g':D->D->Option D}(l:Nu X (compareOp e) g)(k:Nu X (compareOp d) g')(f:SE X W a fa)(i:SE X W b fb)(j:SE X W c fc)
  (m:lastMarks [e,d] [b,c]=false:=by with_unfolding_all rfl):MH X W (.Compare a [e,d] [b,c] pos) (aY (mT g g' fa fb fc)):=
 (Bs l k f i j m).imp λn H Q h=>Ly.mono (λ_ _ _=>pW) (fO h)
def zm (f g:JJ Bool):JJ Bool:=λa S=>ai (f a S) λk b=>if k=true then g a b else JV false b
def qa (f g:JJ Bool):JJ Bool:=λa S=>ai (f a S) λk b=>if k=true then JV true b else g a b
def gG (f:JJ Bool):JJ Bool:=λa S=>ai (f a S) λk b=>JV (!k) b
variable {ga gb:JJ Bool}{rest:List Expr}
theorem on {k:Bool}{a:St}{H:Hp}{Q:Bool->Hp->Prop}(h:tG X W RB [] [] (λ_ S=>JV k S) a H Q):Q k H:=by obtain⟨J,b,S,r,d,c,_,e,z⟩:=h;cases e;exact z J H k Ex.refl c.Kr rfl
theorem yt (b:MH X W a ga):SW X W (.BoolOp .And [a] pos) ga:=Dz b
theorem mj (b:MH X W a ga):SW X W (.BoolOp .Or [a] pos) ga:=Fz b
theorem AX (d:MH X W a ga)(e:SW X W (.BoolOp .And (b::rest) pos) gb):SW X W (.BoolOp .And (a::b::rest) pos) (zm ga gb):=
 (FA d e).imp λg H Q h=>(tG.ND h).mono λk f c=>by
  cases k with
  |true=>rw[if_pos rfl];exact c
  |false=>rw[if_neg (by decide)];exact on c
theorem lj (d:MH X W a ga)(e:SW X W (.BoolOp .Or (b::rest) pos) gb):SW X W (.BoolOp .Or (a::b::rest) pos) (qa ga gb):=
 (G4 d e).imp λg H Q h=>(tG.ND h).mono λk f c=>by
  cases k with
  |true=>rw[if_pos rfl];exact on c
  |false=>rw[if_neg (by decide)];exact c
theorem gr {e:Expr}(h:SW X W e ga):MH X W e ga:=PW.pt h
theorem eU (b:MH X W a ga):MH X W (.UnaryOp .Not a pos) (gG ga):=(FG b).imp λe H Q h=>(tG.ND h).mono λk d c=>on c
def AG (f g:JJ D):JJ D:=λa S=>ai (f a S) λx c=>ai (aP (NG x) c) λk b=>if k=true then g a b else JV (.bl false) b
def Zm (f g:JJ D):JJ D:=λa S=>ai (f a S) λx c=>ai (aP (NG x) c) λk b=>if k=true then JV (.bl true) b else g a b
def Gy (f:JJ D):JJ D:=λa S=>ai (f a S) λx b=>ai (aP (NG x) b) λk c=>JV (.bl (!k)) c
theorem XD {f:JJ D}{k:Bool->JJ D}{a:St}{H:Hp}{Q:VK}(h:tE X W (λρ S=>ai (f ρ S) λx j=>ai (aP (NG x) j) λb S2=>k b ρ S2) a H Q) :
  tE X W f a H λx g => ∃ c,x = .bl c/\tE X W (k c) a g Q:=(tG.J5 h).mono λv g i=>by
 obtain⟨d,l⟩:=i
 obtain⟨J,ρ,S,r,n,c,m,e,z⟩:=l;obtain⟨m,_⟩:=m.JZ;cases d with
 |bl b=>exact⟨b,At.Kg.mp m,J,ρ,S,r,n,c,.nil,e,z⟩
 |_=>simp[NG] at e
theorem BH {k:Bool}{a:St}{H:Hp}{Q:VK}(h:tE X W (λ_ S=>JV (.bl k) S) a H Q):Q (.bl k) H:=jV (d:=.bl k) h λ_=>At.Kg.mpr rfl
theorem Bd {op}(b:SE X W a fa):SE X W (.BoolOp op [a] pos) fa:=FQ b
theorem s_ (d:SE X W a fa)(f:SE X W (.BoolOp .And (b::rest) pos) fb):SE X W (.BoolOp .And (a::b::rest) pos) (AG fa fb):=
 (FW d f).imp λj H Q h=>(XD (k:=λk g S=>if k=true then fb g S else JV (.bl false) S) h).mono λv i ⟨k,e,c⟩=>⟨k,e,by
  cases k with
  |true=>rw[if_pos rfl];exact c
  |false=>rw[if_neg (by decide)];exact BH c⟩
theorem Fq (b:SE X W a fa):SE X W (.UnaryOp .Not a pos) (Gy fa):=
 (FS b).imp λf H Q h=>(XD (k:=λk _ S=>JV (.bl (!k)) S) h).mono λv d ⟨k,e,c⟩=>⟨k,e,BH c⟩
def uo (t:JJ Bool)(f g:JJ D):JJ D:=λa S=>ai (t a S) λk b=>if k=true then f a b else g a b
theorem kE (g:MH X W c ga)(e:SE X W a fa)(f:SE X W b fb):SE X W (.IfExp c a b pos) (uo ga fa fb):=
 (BB g e f).imp λj H Q h=>(tG.ND h).mono λk i d=>by
  cases k with
  |true=>rw[if_pos rfl];exact d
  |false=>rw[if_neg (by decide)];exact d
def aA:JJ (List D):=λ_ S=>JV [] S
def af (f:JJ D)(g:JJ (List D)):JJ (List D):=λa S=>ai (f a S) λd c=>ai (g a c) λe b=>JV (d::e) b
variable {es:List Expr}{gs:JJ (List D)}
theorem ah:SA X W [] aA:=KS.imp λd H Q h=>by obtain⟨J,a,S,r,b,c,_,e,z⟩:=h;cases e;exact z J H _ Ex.refl c.Kr .nil
theorem ae {e:Expr}(o:SE X W e fa)(p:SA X W es gs)(u:starEach (e::es) X.env=(false,eval e X.env)::starEach es X.env:=by rfl):SA X W (e::es) (af fa gs):=
 (cQ o p u).imp λB H Q h=>(tG.J5 h).mono λv w ⟨d,n⟩=>(tG.L1 n).mono λa g j=>by
  obtain⟨b,f,l⟩:=j
  obtain⟨J,A,S,r,C,c,m,e,z⟩:=l;cases e;refine z J g _ Ex.refl c.Kr ?_
  have split:∀ {b:List D}{a:List V},b.length=a.length->JW X.K g J (b++[d]) (a++[v])->JW X.K g J b a/\At X.K g J d v:=by
   intro b
   induction b with
   |nil=>intro a f m;cases a with
    |nil=>exact⟨.nil,m.JZ.1⟩
    |cons _ _=>simp at f
   |cons x k t=>intro a f m;cases a with
    |nil=>simp at f
    |cons y s =>
     have q:=JW.JZ (show JW X.K g J (x::(k++[d])) (y::(s++[v])) from m);have i:=t (by simpa using f) q.2;exact⟨.cons q.1 i.1,i.2⟩
  have q:=split f m;exact .cons q.2 q.1
def Mz (ds:List D)(d:D):Option D:=if ds.length<=sizeLine then some d else none
def j4 (g:JJ (List D)):JJ D:=λb S=>ai (g b S) λa c=>aP (Mz a (.tup a)) c
def mS (g:JJ (List D)):JJ D:=λb S=>ai (g b S) λa c=>aP (Mz a (.lst a)) c
theorem dF {k}(h:SA X W es gs):SE X W (.Tuple es k pos) (j4 gs):=(FP h).imp λl H Q h=>(tG.L1 h).mono λo g f=>by
 obtain⟨j,d,b⟩:=f
 rw[append_nil,append_nil] at b;obtain⟨J,i,S,r,n,c,m,e,z⟩:=b;unfold Mz at e;split at e
 ·rename_i le;cases e;exact⟨by rw[← d];exact le,λp a=>z J _ _ (Ex.same (aQ a _)) (c.Kr.same (aQ a _)) (At.LL m a c.Kr.all (by rw[← d];exact le))⟩
 cases e
theorem gL (h:SA X W es gs):SE X W (.List es pos) (mS gs):=(xq h).imp λk H Q h=>(tG.L1 h).mono λn g f=>by
 obtain⟨j,d,b⟩:=f
 rw[append_nil,append_nil] at b;obtain⟨J,i,S,r,l,c,m,e,z⟩:=b;unfold Mz at e;split at e
 ·rename_i le;cases e;exact⟨by rw[← d];exact le,λp a=>z J _ _ (Ex.same (aQ a _)) (c.Kr.same (aQ a _)) (At.Lj m a c.Kr.all (by rw[← d];exact le))⟩
 cases e
def bf (g:List D->Option D)(t:JJ (List D)):JJ D:=λa S=>ai (t a S) λc b=>aP (g c) b
theorem pZ {g:List D->Option D}{b:St}{H:Hp}{Q:VK}(h:tE X W (bf g gs) b H Q):VZ (V_ X.K g) (tA X W gs) b H Q:=
 (tG.L1 h).mono λf d c=>by
  obtain⟨i,e,a⟩:=c
  rw[append_nil,append_nil] at a;exact tG.XB a
theorem bd {g:List D->Option D}{id:String}{x:Str}{p:Pos}{e:Expr}(c:l6 X (.builtin id) g)(l:X.mg x=none)(d:bootBuiltins x=some (.builtin id))(a:SA X W (e::es) gs)(f:Gl X x:=by rfl)
  (b:x≠"__name__":=by decide) (k:(x==("__debug__":Str))=false:=by decide) (j:starEach (e::es) X.env=(false,eval e X.env)::starEach es X.env:=by rfl) (i:(backTo pos (starEach es X.env)).any (·.1)=false:=by rfl) :
  SE X W (.Call (.Name x p) (e::es) [] pos) (bf g gs):=by
 refine PE.imp (jj c f l d a b k j i) λm H Q h=>pZ h
theorem bw {g:List D->Option D}{T:String}{x:Str}{p:Pos}{e:Expr}(c:l6 X (.type T) g)(l:X.mg x=none)(d:bootBuiltins x=some (.type T))(a:SA X W (e::es) gs)(f:Gl X x:=by rfl)
  (b:x≠"__name__":=by decide) (k:(x==("__debug__":Str))=false:=by decide) (j:starEach (e::es) X.env=(false,eval e X.env)::starEach es X.env:=by rfl) (i:(backTo pos (starEach es X.env)).any (·.1)=false:=by rfl) :
  SE X W (.Call (.Name x p) (e::es) [] pos) (bf g gs):=by
 refine PE.imp (hV c f l d a b k j i) λm H Q h=>pZ h
end
section
variable {X:Cx}
theorem sM {x y:Str}(a:PyData.strOk x=true)(b:PyData.strOk y=true):PyData.strOk (x++y)=true:=by
 unfold PyData.strOk at *
 rw[show (x++y).cps=x.cps++y.cps from rfl,Array.all_append,a,b];rfl
def bi:D->D->Option D
 | .int i,.int j=>some (.int (i+j))
 | .str x,.str y=>if x.length+y.length<=sizeLine then some (.str (x++y)) else none
 | .tup a,.tup b=>if a.length+b.length<=sizeLine then some (.tup (a++b)) else none
 | .lst a,.lst b=>if a.length+b.length<=sizeLine then some (.lst (a++b)) else none
 |_,_=>none
theorem CI {prog:Program}{w:World}{A:Around}{E:JL}{s:Shared}{t b:Addr}{vs f:List Value}{Q:JL}(k:IsTup s.heap t vs.toArray)(p:IsTup s.heap b f.toArray)(i:vs=[])
  (l:Q (.ref b) s):wpAny (model prog w) A (binaryOp .Add (.ref t) (.ref b)) Q E s:=by
 obtain⟨⟨cls,o,data,j⟩,c,d,n,hd⟩:=id k;obtain⟨⟨r,m,data2,q⟩,e,g,h,a⟩:=id p;simp only at d hd g a;subst d hd g a
 exact concat_meets ⟨_,c,rfl⟩ ⟨_,e,rfl⟩ noFill_tuple_add seq_tuple_add PySem.F.slot_tuple_add PySem.F.entry_tuple_add (PySem.F.args_tuple_add_2 _ _)
   (tuple_addW0 t b vs.toArray f.toArray n h o m j q (by simp[i])) ⟨c,e,l⟩
theorem xT {prog:Program}{w:World}{A:Around}{E:JL}{s:Shared}{t b:Addr}{vs c:Array Value}{Q:JL}(k:PlainL s.heap t vs)(o:PlainL s.heap b c)
  (h:Q (.ref s.heap.objs.size) { s with heap:=s.heap.push { cls:=.type "list",data:=.seq (vs++c) } }) (hsz:vs.size+c.size<=sizeLine):wpAny (model prog w) A (binaryOp .Add (.ref t) (.ref b)) Q E s:=by
 obtain⟨⟨cls,m,data,j⟩,n,d,e,_,hd⟩:=id k;obtain⟨⟨q,l,data2,p⟩,i,f,g,_,a⟩:=id o;simp only at e hd g a;subst e hd g a
 exact concat_meets ⟨_,d,rfl⟩ ⟨_,f,rfl⟩ noFill_list_add seq_list_add PySem.F.slot_list_add PySem.F.entry_list_add (PySem.F.args_list_add_2 _ _)
   (list_addW t b vs c n i m l j p hsz) ⟨d,f,h⟩
theorem oR (x y:Str):(x++y).length=x.length+y.length:=by show (x.cps++y.cps).size=_;rw[Array.size_append];rfl
theorem aX:Nu X (binaryOp .Add) bi:=by
 intro c s r H x y v u Q I k g h;obtain⟨J,T,S,d,F,m,n,e,q⟩:=h;unfold bi at e;split at e
 ·rename_i i j;cases e;cases At.JS.mp m;cases At.JS.mp n;exact F3 c s r H _ _ v u Q I k g ⟨i,j,rfl,rfl,q H _ (J6.refl H) (At.JS.mpr rfl)⟩
 ·rename_i a b;split at e
  ·rename_i le;cases e;obtain⟨ex,O⟩:=At.J9.mp m;obtain⟨P,R⟩:=At.J9.mp n;subst ex P;exact xt c s r H _ _ v u Q I k g ⟨a,b,rfl,rfl,le,q H _ (J6.refl H) (At.J9.mpr ⟨rfl,by rw[oR];exact le,sM O.2 R.2⟩)⟩
  cases e
 ·rename_i E L;split at e
  ·rename_i le;cases e;obtain⟨a,l,rfl,t1,m1⟩:=At.Kb.mp m;obtain⟨b,o,rfl,t2,m2⟩:=At.Kb.mp n;by_cases K:l=[]
   ·subst K;cases k;cases g;obtain⟨its,t,D,_⟩:=I.tuple t1.sq;obtain⟨C,w,B,_⟩:=I.tuple t2.sq;have N:E=[]:=length_eq_zero_iff.mp m1.length;subst N;refine CI D B (t.JY.mpr rfl) ⟨.ref b,H,I,rfl,q H _ (J6.refl H) n⟩
   refine DT c s r H _ _ v u Q I k g ⟨a,b,l,o,rfl,rfl,t1.sq,t2.sq,K,by rw[← m1.length,← m2.length];exact le,λG=>?_,λG p f=>?_⟩
   ·subst G;have M:L=[]:=length_eq_zero_iff.mp m2.length;subst M;exact q H _ (J6.refl H) (by rw[append_nil];exact m)
   exact q _ _ (aQ f _) (At.LL (m1.append m2) f F (by rw[List.length_append,← m1.length,← m2.length];exact le))
  cases e
 ·rename_i E L;split at e
  ·rename_i le;cases e;obtain⟨a,l,rfl,t1,m1⟩:=At.Kc.mp m;obtain⟨b,o,rfl,t2,m2⟩:=At.Kc.mp n;cases k;cases g;obtain⟨its,t,D,_⟩:=I.list t1.sq;obtain⟨C,w,B,_⟩:=I.list t2.sq;have A:l.length+o.length<=sizeLine:=by rw[← m1.length,← m2.length];exact le
   have f:=I.fresh;refine xT D B ?_ (by rw[size_toArray,size_toArray,← t.length,← w.length];exact A);show EP X c r Q (.ref s.heap.objs.size) { s with heap:=s.heap.push { cls:=.type "list",data:=.seq (its.toArray++C.toArray) } };refine⟨.ref s.heap.objs.size,_,?_,rfl,q _ _ (aQ f (.lst (l++o))) (At.Lj (m1.append m2) f F (by rw[List.length_append];exact A))⟩;have z:=I.V7 (its:=its++C) (t':=s.toks) (t.append w) (by rw[List.length_append];exact A);simpa using z
  cases e
 cases e
def jb:D->D->Option D
 | .int i,.int j=>some (.int (i-j))
 |_,_=>none
def nF (i j:Int):Bool:=(decide (-(2 ^ 64)<i)&&decide (i<2 ^ 64)) ||(decide (-(2 ^ 64)<j)&&decide (j<2 ^ 64))
theorem D4 {i j:Int}(h:nF i j=true):Q4 i j:=by
 unfold nF at h;rw[or_eq_true,and_eq_true,and_eq_true] at h;rcases h with ⟨a,b⟩ |⟨a,b⟩
 ·exact .inl ⟨of_decide_eq_true a,of_decide_eq_true b⟩
 exact .inr ⟨of_decide_eq_true a,of_decide_eq_true b⟩
def ig:D->D->Option D
 | .int i,.int j=>if 0<j/\j<1073741824 then some (.int (i / j)) else none
 |_,_=>none
def cG:D->D->Option D
 | .int i,.int j=>if 0<j then some (.int (i % j)) else none
 |_,_=>none
def z_:D->Option D
 | .int i=>some (.int (-i))
 |_=>none
theorem gN:Nu X (binaryOp .Sub) jb:=by
 intro a s f H x y v u Q I c b h;obtain⟨J,n,m,d,l,g,k,e,q⟩:=h;unfold jb at e;split at e
 ·rename_i i j;cases e;cases At.JS.mp g;cases At.JS.mp k;exact FZ a s f H _ _ v u Q I c b ⟨i,j,rfl,rfl,q H _ (J6.refl H) (At.JS.mpr rfl)⟩
 cases e
theorem lH:Nu X (binaryOp .FloorDiv) ig:=by
 intro a s g H x y v u Q I f b h;obtain⟨J,o,n,d,m,k,l,e,q⟩:=h;unfold ig at e;split at e
 ·rename_i i j;split at e
  ·rename_i c;cases e;cases At.JS.mp k;cases At.JS.mp l;exact DS a s g H _ _ v u Q I f b ⟨i,j,rfl,rfl,c,q H _ (J6.refl H) (At.JS.mpr rfl)⟩
  cases e
 cases e
theorem cS:Nu X (binaryOp .Mod) cG:=by
 intro a s g H x y v u Q I f b h;obtain⟨J,o,n,d,m,k,l,e,q⟩:=h;unfold cG at e;split at e
 ·rename_i i j;split at e
  ·rename_i c;cases e;cases At.JS.mp k;cases At.JS.mp l;exact F1 a s g H _ _ v u Q I f b ⟨i,j,rfl,rfl,c,q H _ (J6.refl H) (At.JS.mpr rfl)⟩
  cases e
 cases e
theorem wT:XC X (unaryOp .USub) z_:=by
 intro a s f H x v Q I c h;obtain⟨J,j,d,g,b,e,q⟩:=h;unfold z_ at e;split at e
 ·rename_i i;cases e;cases At.JS.mp b;exact E9 a s f H _ v Q I c ⟨i,rfl,q H _ (J6.refl H) (At.JS.mpr rfl)⟩
 cases e
def Lk (x y:D):Option D:=match toPy x,toPy y with
 |some p,some q=>if min p.depth q.depth<=150 then some (.bl (PyData.eqv p q)) else none
 |_,_=>none
def Mv (x y:D):Option D:=match toPy x,toPy y with
 |some p,some q=>if min p.depth q.depth<=150 then some (.bl (!PyData.eqv p q)) else none
 |_,_=>none
theorem dJ (B:X.A.units+150<cLine):Nu X (compareOp .Eq) Lk:=by
 intro a s z H x y v u Q I f c h;obtain⟨J,w,t,d,r,l,o,e,q⟩:=h;unfold Lk at e;split at e
 ·rename_i p k j m;split at e
  ·rename_i le;cases e;obtain⟨g,C,n⟩:=l.reads I f j;obtain⟨i,bs,b⟩:=o.reads I c m;exact SeqAt.compareEq_reads n b g i (by omega) ⟨.bl (PyData.eqv p k),H,I,rfl,q H _ (J6.refl H) (At.Kg.mpr rfl)⟩
  cases e
 cases e
theorem qW (B:X.A.units+150<cLine):Nu X (compareOp .NotEq) Mv:=by
 intro a s z H x y v u Q I f c h;obtain⟨J,w,t,d,r,l,o,e,q⟩:=h;unfold Mv at e;split at e
 ·rename_i p k j m;split at e
  ·rename_i le;cases e;obtain⟨g,C,n⟩:=l.reads I f j;obtain⟨i,bs,b⟩:=o.reads I c m;exact SeqAt.compareNe_reads n b g i (by omega) ⟨.bl (!PyData.eqv p k),H,I,rfl,q H _ (J6.refl H) (At.Kg.mpr rfl)⟩
  cases e
 cases e
def MX (x y:Str):Bool:=decide (x.cps.toList<y.cps.toList)
def P0:D->D->Option D
 | .int i,.int j=>some (.bl (decide (i<j)))
 | .str x,.str y=>some (.bl (MX x y))
 |_,_=>none
def Ub:D->D->Option D
 | .int i,.int j=>some (.bl (decide (i<=j)))
 | .str x,.str y=>some (.bl (!MX y x))
 |_,_=>none
def Uc:D->D->Option D
 | .int i,.int j=>some (.bl (decide (j<i)))
 | .str x,.str y=>some (.bl (MX y x))
 |_,_=>none
theorem vn:Nu X (compareOp .Lt) P0:=by
 intro c s k H x y v u Q I g f h;obtain⟨J,p,o,d,n,l,m,e,q⟩:=h;unfold P0 at e;split at e
 ·rename_i i j;cases e;cases At.JS.mp l;cases At.JS.mp m;exact G_ c s k H _ _ v u Q I g f ⟨i,j,rfl,rfl,q H _ (J6.refl H) (At.Kg.mpr rfl)⟩
 ·rename_i a b;cases e;cases (At.J9.mp l).1;cases (At.J9.mp m).1;exact z6 c s k H _ _ v u Q I g f ⟨a,b,rfl,rfl,q H _ (J6.refl H) (At.Kg.mpr rfl)⟩
 cases e
theorem ES:Nu X (compareOp .LtE) Ub:=by
 intro c s m H x y v u Q I g f h;obtain⟨J,r,p,d,n,k,l,e,q⟩:=h;unfold Ub at e;split at e
 ·rename_i i j;cases e;cases At.JS.mp k;cases At.JS.mp l;exact Ha c s m H _ _ v u Q I g f ⟨i,j,rfl,rfl,q H _ (J6.refl H) (At.Kg.mpr rfl)⟩
 ·rename_i a b;cases e;cases (At.J9.mp k).1;cases (At.J9.mp l).1;obtain⟨t,rfl⟩:=g;obtain⟨o,rfl⟩:=f;exact PySem.P.le_str ⟨.bl (!MX b a),H,I,rfl,q H _ (J6.refl H) (At.Kg.mpr rfl)⟩
 cases e
theorem He:Nu X (compareOp .Gt) Uc:=by
 intro c s m H x y v u Q I g f h;obtain⟨J,r,p,d,n,k,l,e,q⟩:=h;unfold Uc at e;split at e
 ·rename_i i j;cases e;cases At.JS.mp k;cases At.JS.mp l;exact Hb c s m H _ _ v u Q I g f ⟨i,j,rfl,rfl,q H _ (J6.refl H) (At.Kg.mpr rfl)⟩
 ·rename_i a b;cases e;cases (At.J9.mp k).1;cases (At.J9.mp l).1;obtain⟨t,rfl⟩:=g;obtain⟨o,rfl⟩:=f;exact PySem.P.gt_str ⟨.bl (MX b a),H,I,rfl,q H _ (J6.refl H) (At.Kg.mpr rfl)⟩
 cases e
def Cc:D->Bool
 | .Kk=>true
 |_=>false
def Q_:D->D->Option D
 |x,.Kk=>some (.bl (Cc x))
 |_,_=>none
theorem F5 {K:JK}{H:Hp}{J:List Addr}{d:D}{x:V}(h:At K H J d x):decide (x = .Kk)=Cc d:=by
 cases d with
 |Kk=>cases At.Ld.mp h;rfl
 |bl b=>cases At.Kg.mp h;rfl
 |int i=>cases At.JS.mp h;rfl
 |str i=>cases (At.J9.mp h).1;rfl
 |tup c=>obtain⟨a,_,rfl,_⟩:=At.Kb.mp h;rfl
 |lst c=>obtain⟨a,_,rfl,_⟩:=At.Kc.mp h;rfl
 |set c=>obtain⟨a,_,_,rfl,_⟩:=At.Q9.mp h;rfl
 |loc l=>obtain⟨a,rfl,_⟩:=At.Ke.mp h;rfl
 |fn _ _=>obtain⟨a,_,rfl,_⟩:=At.OR.mp h;rfl
theorem ET:Nu X (compareOp .Is) Q_:=by
 intro a s f H x y v u Q I c b h;obtain⟨J,l,k,d,j,g,i,e,q⟩:=h;unfold Q_ at e;split at e
 ·cases e;cases At.Ld.mp i;exact F2 a s f H _ _ v u Q I c b ⟨rfl,by rw[F5 g];exact q H _ (J6.refl H) (At.Kg.mpr rfl)⟩
 cases e
end
section
variable {X:Cx}{W:WT}
def sT:D->Option (List D)
 | .tup a=>some a
 | .lst a=>some a
 |_=>none
def pJ (x y:D):Option Bool:=match toPy x,(sT y).bind b6 with
 |some p,some a=>if p.depth<=150 then some (a.any λq=>PyData.eqv q p) else none
 |_,_=>none
def inD (x y:D):Option D:=(pJ x y).map .bl
def mE (x y:D):Option D:=(pJ x y).map λb => .bl (!b)
noncomputable def qv (h:Heap) (p:PyData) (u:Value):Bool:=by
 classical exact if H:∃ q a,Reads h u q a/\q.canLay0=true then PyData.eqv H.choose p else false
theorem y9 {h:Heap}{p q:PyData}{u:Value}{as:List Addr}(r:Reads h u q as)(c:q.canLay0=true):qv h p u=PyData.eqv q p:=by unfold qv;have H:∃ q as,Reads h u q as/\q.canLay0=true:=⟨q,as,r,c⟩;rw[dif_pos H];obtain⟨d,a,b⟩:=H.choose_spec;rw[SeqAt.Reads.unique _ _ _ _ _ c r a]
theorem zp {h:Heap}{p:PyData}:∀ {us:List Value}{a:List PyData}{as:List Addr},ReadsAll h us a as->PyData.canLayAll0 a=true->us.any (qv h p)=a.any λq=>PyData.eqv q p
 |_,_,_,.nil,_=>rfl
 |_,_,_,.cons r t,c=>by
  rw[PyData.canLayAll0,and_eq_true] at c;rw[any_cons,any_cons,y9 r c.1,zp t c.2]
theorem q0 {h:Heap}:∀ {us:List Value}{a:List PyData}{as:List Addr},ReadsAll h us a as->PyData.canLayAll0 a=true->∀ u∈us,∃ q bs,Reads h u q bs/\q.canLay0=true
 |_,_,_,.nil,_,u,m=>by simp at m
 |_,_,_,.cons r t,c,u,m=>by
  rw[PyData.canLayAll0,and_eq_true] at c;rcases mem_cons.mp m with e |m
  ·subst e;exact⟨_,_,r,c.1⟩
  exact q0 t c.2 u m
theorem yX {neg:Bool}{B:CmpOp}(hu:X.A.units+151<cLine)
  (N:∀ {s:Shared}{l:Addr}{items:Array Value}{x:Value}{Q:JL}(e:Value->Bool),s.heap.IsList l items->(∀ y∈items,SeqAt.EqAt X.A.in1 s y x (e y))->Q (.bool (if neg then !items.any e else items.any e)) s->wpAny (model X.prog X.w) X.A (compareOp B x (.ref l)) Q X.xe s)
  (T:∀ {s:Shared}{l:Addr}{items:Array Value}{x:Value}{Q:JL}(e:Value->Bool),IsTup s.heap l items->(∀ y∈items,SeqAt.EqAt X.A.in1 s y x (e y))->Q (.bool (if neg then !items.any e else items.any e)) s->wpAny (model X.prog X.w) X.A (compareOp B x (.ref l)) Q X.xe s) :
  Nu X (compareOp B) (λx y=>(pJ x y).map λb => .bl (if neg then !b else b)):=by
 intro n s S H x y v u Q I O D h;obtain⟨J,dx,R,d,Z,V,K,e,q⟩:=h;obtain⟨b,g,W⟩:=map_eq_some_iff.mp e;subst W;unfold pJ at g;split at g
 ·rename_i p o ep eq;split at g
  ·rename_i le;cases g;obtain⟨ds,es,F⟩:=bind_eq_some_iff.mp eq;obtain⟨P,i,Y⟩:=V.reads I O ep;have fin:∀ {f:List Value}{i:List Addr},ReadsAll s.heap f o i->PyData.canLayAll0 o=true->EP X n S Q (.bool (if neg then !f.toArray.any (qv s.heap p) else f.toArray.any (qv s.heap p))) s:=λ{f i} r c=>by rw[show f.toArray.any (qv s.heap p)=f.any (qv s.heap p) by simp,zp r c];exact⟨.bl _,H,I,rfl,q H _ (J6.refl H) (At.Kg.mpr rfl)⟩
   have ev:∀ {f:List Value}{i:List Addr},ReadsAll s.heap f o i->PyData.canLayAll0 o=true->∀ y∈f.toArray,SeqAt.EqAt X.A.in1 s y v (qv s.heap p y):=λ{f i} r c y M=>by obtain⟨E,bs,C,G⟩:=q0 r c y (by simpa using M);rw[y9 C G];exact SeqAt.eqAt_reads E p X.A.in1 s y v bs _ C Y G P (by show X.A.units+1+min E.depth p.depth<cLine;omega)
   cases R with
   |tup U =>
    cases es;obtain⟨a,L,rfl,t,m⟩:=At.Kb.mp K;cases D;obtain⟨its,z,pl,_⟩:=I.tuple t.sq;obtain⟨k,bs,j⟩:=JW.readsAll I m z F;exact T (qv s.heap p) pl (ev j k) (fin j k)
   |lst U =>
    cases es;obtain⟨a,L,rfl,t,m⟩:=At.Kc.mp K;cases D;obtain⟨its,z,pl,_⟩:=I.list t.sq;obtain⟨k,bs,j⟩:=JW.readsAll I m z F;exact N (qv s.heap p) pl.isList (ev j k) (fin j k)
   |_=>simp[sT] at es
  cases g
 cases g
theorem EU (c:X.A.units+151<cLine):Nu X (compareOp .In) inD:=
 yX (neg:=false) c (λe a b q=>SeqAt.in_listAt e a b q) (λe a b q=>SeqAt.in_tupleAt e a b q)
theorem BI (c:X.A.units+151<cLine):Nu X (compareOp .NotIn) mE:=
 yX (neg:=true) c (λe a b q=>SeqAt.notIn_listAt e a b q) (λe a b q=>SeqAt.notIn_tupleAt e a b q)
theorem ml {x:Str}(h:PyData.strOk x=true){c:Nat}(m:c∈x.cps.toList):c<0x110000:=by unfold PyData.strOk at h;rw[Array.all_eq_true'] at h;exact of_decide_eq_true (h c (Array.mem_toList_iff.mp m))
theorem oS {l:List Nat}(h:∀ c∈l,c<0x110000):PyData.strOk ⟨l.toArray⟩=true:=by unfold PyData.strOk;rw[Array.all_eq_true'];intro c m;exact decide_eq_true (h c (by simpa using m))
def QO:D->D->Option D
 | .tup a,.int i=>Mu a i
 | .lst a,.int i=>Mu a i
 | .str x,.int i=>(Mu x.cps.toList i).map λc => .str ⟨#[c]⟩
 |_,_=>none
theorem ya {K:JK}{H:Hp}{J:List Addr}{ds:List D}{vs:List V}{i:Int}{d:D}(m:JW K H J ds vs)(h:Mu ds i=some d):∃ v,Mu vs i=some v/\At K H J d v:=by unfold Mu at h ⊢;rw[← m.length];obtain⟨j,b,c⟩:=bind_eq_some_iff.mp h;obtain⟨v,e,a⟩:=m.get c;exact⟨v,by rw[b];exact e,a⟩
def XE (X:Cx)(g:D->D->Option D):Prop:=Ua X (Sk X.K g)
theorem XF:XE X QO:=by
 intro value slice b s n H x y v u Q I k g h p;obtain⟨J,L,K,d,G,r,A,e,q⟩:=h;unfold QO at e;split at e
 ·rename_i D i;obtain⟨a,o,rfl,t,m⟩:=At.Kb.mp r;cases At.JS.mp A;obtain⟨w,f,B⟩:=ya m e;exact Gi value slice b s n H _ _ v u Q I k g ⟨a,o,i,w,rfl,rfl,t.sq,f,q H _ (J6.refl H) B⟩ p
 ·rename_i D i;obtain⟨a,o,rfl,t,m⟩:=At.Kc.mp r;cases At.JS.mp A;obtain⟨w,f,B⟩:=ya m e;exact yV value slice b s n H _ _ v u Q I k g ⟨a,o,i,w,rfl,rfl,t.sq,f,q H _ (J6.refl H) B⟩ p
 ·rename_i z i;obtain⟨ex,C⟩:=At.J9.mp r;subst ex;cases At.JS.mp A;obtain⟨c,f,E⟩:=map_eq_some_iff.mp e;subst E;refine Gj value slice b s n H _ _ v u Q I k g ⟨z,i,c,rfl,rfl,C.1,f,q H _ (J6.refl H) (At.J9.mpr ⟨rfl,by show 1<=sizeLine;decide,oS (l:=[c]) λM m=>?_⟩)⟩ p;obtain⟨j,_,F,_⟩:=ou f;rw[mem_singleton.mp m];exact ml C.2 (mem_of_getElem? F)
 cases e
variable {a b c:Expr}{fa fb fc:JJ D}{pos:Pos}
theorem EM {g:D->D->Option D}(e:XE X g)(c:SE X W a fa)(d:SE X W b fb)(f:oA b:=by exact λ_ _=>rfl):SE X W (.Subscript a b pos) (aI g fa fb):=
 (ER e c d f).imp λi H Q h=>lU h
def jr {α:Type}(a:List α)(lo b:Option Int):List α:=(a.drop (HT.Kz a.length 0 lo)).take (HT.Kz a.length a.length b-HT.Kz a.length 0 lo)
def Mi (d:D)(lo b:Option Int):Option D:=match d with
 | .tup a=>some (.tup (jr a lo b))
 | .lst a=>some (.lst (jr a lo b))
 |_=>none
theorem JW.cut {K:JK}{H:Hp}{J:List Addr}{ds:List D}{vs:List V}(m:JW K H J ds vs)(lo a:Option Int):JW K H J (jr ds lo a) (v9 vs lo a):=by unfold jr v9;rw[← m.length];exact(m.drop _).take _
theorem xQ {α:Type}{a:List α}{lo b:Option Int}(h:HT.Kz a.length 0 lo=0/\HT.Kz a.length a.length b=a.length):jr a lo b=a:=by unfold jr;rw[h.1,h.2];simp
def Zp (K:JK)(g:D->Option Int->Option Int->Option D):V->Option Int->Option Int->Hp->VK->Prop:=λx lo e H Q => ∃ J c d,(∀ a∈J,H a≠none)/\At K H J c x/\g c lo e=some d/\∀ b v,J6 H b->At K b J d v->Q v b
theorem j1 {prog:Program}{w:World}{A:Around}{E:JL}{s:Shared}{t b:Addr}{items:Array Value}{g e:Value}{lo c:Option Int}{Q:JL}(a:IsTup s.heap t items)(f:s.heap.IsSliceOf b g e .none)(pl:IsPart g lo)(k:IsPart e c)
  (d:HT.Kz items.size 0 lo=0/\HT.Kz items.size items.size c=items.size) (h:Q (.ref t) s):wpAny (model prog w) A (getItem (.ref t) (.ref b)) Q E s:=by
 obtain⟨os,i,l,m⟩:=id f;have j:s.TypeIs (.ref b) "slice":=⟨os,i,l⟩;unfold getItem
 try with_reducible refine wpAny_holding ?_
 first |refine wpAny_bind (wpAny_pure ?_) |skip
 refine wpAny_bind (wpAny_sequenceKey a.typeIs (by decide) ?_)
 refine wpAny_bind (wpAny_callSpecial?_slot (name:=Str.ofString "__getitem__") a.typeIs PyProof.Rows.slot_tuple_getitem
  (wpAny_call_entry PyProof.Rows.slot_tuple_getitem a.typeIs entry_tuple_getitem ?_ (args_tuple_getitem _ _)))
 show wpAny _ _ (Builtin.Tuple.tupleItemsOf (.ref t) >>= _) _ _ s;refine wpAny_bind (tupleItemsOf_ a ?_);refine wpAny_bind (wpAny_typeOf j ?_);rw[if_pos (by decide)];refine wpAny_bind (HT.Lo f pl k ?_);show wpAny _ _ (if (((HT.Kz items.size 0 lo:Nat):Int)==0&&(1:Int)==1&&(HT.Kz items.size items.size c-HT.Kz items.size 0 lo)==items.size)=true then _ else _) _ _ s;rw[if_pos (by rw[d.1,d.2];simp)];unfold Builtin.Tuple.tupleIsExact;refine wpAny_bind (wpAny_bind (wpAny_typeOf a.typeIs (wpAny_pure ?_)));rw[if_pos (by decide)];exact wpAny_bind (wpAny_rule (wpAny_pure ⟨_,rfl,wpAny_pure h⟩))
def XG (X:Cx)(g:D->Option Int->Option Int->Option D):Prop:=Vn X (Zp X.K g)
theorem Ql:XG X Mi:=by
 intro c s z H x v B A lo f w Q I j l pl n h;obtain⟨J,F,d,u,o,e,q⟩:=h;unfold Mi at e;split at e
 ·rename_i C;cases e;obtain⟨a,b,rfl,t,m⟩:=At.Kb.mp o;have D:=m.length;by_cases k:HT.Kz b.length 0 lo=0/\HT.Kz b.length b.length f=b.length
  ·cases j;obtain⟨its,r,y,E⟩:=I.tuple t.sq;have i:its.toArray.size=b.length:=by rw[size_toArray];exact r.length.symm
   refine⟨"tuple",_,PyProof.Rows.slot_tuple_getitem.lookup,y.typeIs,?_⟩;refine j1 y l pl n (by rw[i];exact k) ⟨.ref a,H,I,rfl,q H _ (J6.refl H) ?_⟩;rw[xQ (by rw[D];exact k)];exact o
  exact Fj c s z H _ v B A lo f w Q I j l pl n ⟨a,b,rfl,t.sq,k,λp g=>q _ _ (aQ g _) (At.LL (m.cut lo f) g u (Nat.le_trans (gE b lo f) t.len))⟩
 ·rename_i C;cases e;obtain⟨a,b,rfl,t,m⟩:=At.Kc.mp o;exact Dp c s z H _ v B A lo f w Q I j l pl n ⟨a,b,rfl,t.sq,λp g=>q _ _ (aQ g _) (At.Lj (m.cut lo f) g u (Nat.le_trans (gE b lo f) t.len))⟩
 cases e
def qt:D->Option (Option Int)
 | .int i=>some (some i)
 |_=>none
def lT (f:Option (JJ D)):JJ (Option Int):=match f with
 |none=>λ_ S=>JV none S
 |some f=>λa S=>ai (f a S) λd b=>aP (qt d) b
def SO (X:Cx)(W:WT)(e:Option Expr)(f:Option (JJ D)):Prop:=match e,f with
 |none,none=>True
 |some e,some f=>SE X W e f
 |_,_=>False
def OS (g:D->Option Int->Option Int->Option D)(f:JJ D)(lo d:Option (JJ D)):JJ D:=λa S=>ai (f a S) λx b=>ai (lT lo a b) λl e=>ai (lT d a e) λu c=>aP (g x l u) c
def XH (X:Cx)(W:WT)(f:Option (JJ D)):TO:=tG X W (λ_ _ a b=>a=b) [] [] (lT f)
theorem tG.Rz {α t:Type}{R:List Addr->Hp->α->t->Prop}{f:Option (JJ D)}{k:Option Int->JJ α}{ds:List D}{vs:List V}{n:St}{H:Hp}{Q : t->Hp->Prop}
  (h:tG X W R ds vs (λρ S=>ai (lT f ρ S) λd i=>k d ρ i) n H Q):XH X W f n H λb s=>tG X W R ds vs (k b) n s Q:=by
 obtain⟨J,ρ,S,r,A,c,a,e,z⟩:=h;cases q:lT f ρ S with
 |none=>simp[q] at e
 |some o =>
  obtain⟨w,i⟩:=o;simp only[q] at e;cases w with
  |error x =>
   cases e;exact⟨J,ρ,S,.error x,_,c,.nil,q,z⟩
  |ok d =>
   refine⟨J,ρ,S,.ok d,i,c,.nil,q,λB s v x y m=>?_⟩;cases m;refine⟨B,ρ,i,r,A,c.re x y,a.ex x,e,?_⟩;cases r with
   |ok g=>exact λj l b x2 p u=>z j l b (x.trans x2) p u
   |error g=>exact λj l x2 p=>z j l (x.trans x2) p
theorem EQ {e:Option Expr}{f:Option (JJ D)}(h:SO X W e f):PO X e (XH X W f):=by
 cases e with
 |none =>
  cases f with
  |none =>
   intro a s b H Q I z;refine DF a s b H Q I ?_;obtain⟨J,k,S,r,l,c,_,e,z⟩:=z;cases e;exact z J H _ Ex.refl c.Kr rfl
  |some _=>exact h.elim
 |some e =>
  cases f with
  |none=>exact h.elim
  |some f =>
   intro a s b H Q I z;refine DE h a s b H Q I ?_;refine(tG.J5 z).mono λv g ⟨d,j⟩=>?_;obtain⟨J,k,S,r,l,c,m,e,z⟩:=j;obtain⟨m,_⟩:=m.JZ;cases d with
   |int i =>
    cases e;exact⟨i,At.JS.mp m,z J g _ Ex.refl c.Kr rfl⟩
   |_=>simp[qt] at e
theorem jd {g:D->Option Int->Option Int->Option D}{lo b:Option Expr}{i f:Option (JJ D)}{A:Pos}(w:XG X g)(t:SE X W a fa)(B:SO X W lo i)(o:SO X W b f):SE X W (.Subscript a (.Slice lo b none A) pos) (OS g fa i f):=
 (BA w t (EQ B) (EQ o)).imp λI H Q h=>(tG.J5 h).mono λv E ⟨d,n⟩=>(tG.Rz n).mono λl F k=>(tG.Rz k).mono λu L y=>by
  obtain⟨J,G,S,r,K,c,m,e,z⟩:=y;obtain⟨m,_⟩:=m.JZ;cases q:g d l u with
  |none=>simp[q] at e
  |some C =>
   simp only[q,bZ,JV] at e;cases e;exact⟨J,d,C,c.Kr.all,m,q,λx j s p=>z J x j (Ex.same s) (c.Kr.same s) p⟩
end
end L2
namespace L2
open PySem PySem.Spec PyProof.Rows PySem.W
section
variable {X:Cx}{W:WT}
theorem mF:fillsNumberSlot (.type "tuple") "mul"=pure false:=
 PySem.fillsNumberSlot_seq (id:="tuple.__mul__") (r:=some (.builtin "tuple.__rmul__")) F.slot_tuple_mul.lookup (by decide) F.slot_tuple_rmul.lookup (by decide)
theorem tj:seqRepeat? (.type "tuple")=pure (some (.builtin "tuple.__mul__")):=by unfold seqRepeat?;rw[PySem.seqSlot_of (T:="tuple") (name:="__mul__") (id:="tuple.__mul__") F.slot_tuple_mul.lookup (by decide),PySem.seqSlot_of (T:="tuple") (name:="__rmul__") (id:="tuple.__rmul__") F.slot_tuple_rmul.lookup (by decide)];rfl
theorem pF (a:Int)(t:Tok)(l:Addr)(items:Array Value)(n:Nat)(c:Option Addr)(b:Array (Option Value)) :
  Meets (Builtin.«int.__rmul__» ⟨[.int a t,.ref l],[]⟩) (λ_ R s=>s.heap.get? l=some { cls:=.type "tuple",dict:=c,data:=.seq items n,slots:=b }/\R (.ok (.ret Value.notImplemented)) s):=
 .of_wp λprog w A R s h=>by obtain⟨e,g,d,tk,os⟩:=s;obtain⟨f,h⟩:=h;wp_walk;exact⟨_,rfl,h⟩
theorem wY (l:Addr)(items:Array Value)(n:Nat)(r:Option Addr)(o:Array (Option Value))(k:Int)(t:Tok)(B : 2<=k)(z:k<2 ^ 30)(a:items.isEmpty=false)(hsz:items.size*k.toNat<=sizeLine) :
  Meets (Builtin.«tuple.__mul__» ⟨[.ref l,.int k t],[]⟩) (λ_ R s=>s.heap.get? l=some { cls:=.type "tuple",dict:=r,data:=.seq items n,slots:=o }/\R (.ok (.ret (Value.ref s.heap.objs.size))) { s with heap:=s.heap.push { cls:=Value.type "tuple",data:=Data.seq (List.foldl (λx1 x2=>x1++x2) #[] (replicate k.toNat items)) },toks:=s.toks }):=
 .of_wp λprog w A R s h=>by
  obtain⟨j,g,d,tk,os⟩:=s;obtain⟨f,h⟩:=h;have D:=AutoSeq1.idx_int
  wp_walk using AutoSeq1.wpAny_loadPart' f
  have y:(0:Int)<=k:=by omega
  have i:((k.toNat:Nat):Int)=k:=by omega
  have p:¬ ((decide (k < -2 ^ 63) ||decide (k≥2 ^ 63))=true):=by rw[decide_eq_false (by omega),decide_eq_false (by omega)];decide
  have q:¬ ((items.isEmpty ||k==1)=true):=by rw[a,Bool.false_or,beq_eq_false_iff_ne.mpr (by omega)];decide
  have x:¬ ((decide (k<=0) ||items.isEmpty)=true):=by rw[a,decide_eq_false (by omega)];decide
  have c:((items.size*k.toNat:Nat):Int)=(items.size:Int)*k:=by rw[Int.natCast_mul,i]
  have C:(sizeLine:Nat)=2 ^ 24:=rfl;have u:¬ ((items.size:Int)*k > (2 ^ 63-1) / 8):=by rw[← c];omega
  have v:Builtin.Tuple.tupleTooMany ((items.size:Int)*k)=false:=by unfold Builtin.Tuple.tupleTooMany;rw[← c];exact decide_eq_false (by omega)
  rw[if_neg p];refine wpAny_bind (tupleItemsOf_ (⟨_,f,rfl,n,rfl⟩:IsTup j l items) ?_);dsimp only;rw[if_neg q,if_neg x,if_neg u,if_neg (by rw[v];decide)]
  have b:sizeOk (.seq (List.foldl (λx1 x2=>x1++x2) #[] (replicate k.toNat items))):=by
   have e:List.foldl (λx1 x2=>x1++x2) #[] (replicate k.toNat items)=(replicate k.toNat items.toList).flatten.toArray:=by have:=foldl_rep items.toList k.toNat [];simpa using this
   show (List.foldl (λx1 x2=>x1++x2) #[] (replicate k.toNat items)).size<=sizeLine;rw[e,size_toArray,len_rep,length_toList,mul_comm];exact hsz
  first
   |exact wpAny_bind (m:=Builtin.Tuple.tupleExact _) (wpAny_newObj_type (wpAny_pure ⟨_,rfl,h⟩) b)
   |exact wpAny_bind (m:=Builtin.Tuple.tupleExact _) (wpAny_newObj_type (wpAny_bind (wpAny_pure (wpAny_pure ⟨_,rfl,h⟩))) b)
def du:D->D->Option D
 | .int i,.int j=>if nF i j then some (.int (i*j)) else none
 | .str x,.int n=>if -1000<=n/\n<1 then some (.str ⟨#[]⟩) else if 1<=n/\n<=1000/\x.length<=1000 then some (.str ⟨(replicate n.toNat x.cps.toList).flatten.toArray⟩) else none
 | .tup a,.int n=>if 2<=n/\n<=1000/\0<a.length/\a.length<=1000 then some (.tup (replicate n.toNat a).flatten) else none
 |_,_=>none
theorem BR (x:Str)(n:Int)(h : 1<=n):Txt.mul x n=⟨(replicate n.toNat x.cps.toList).flatten.toArray⟩:=by
 have f:∀ m:Nat,(replicate m x.cps).foldl (·++·) #[]=(replicate m x.cps.toList).flatten.toArray:=λm=>by
  have:∀ (m:Nat) (a:List Nat),(replicate m x.cps).foldl (·++·) a.toArray=(a++(replicate m x.cps.toList).flatten).toArray:=by
   intro m
   induction m with
   |zero=>intro a;simp
   |succ m b =>
    intro a;rw[replicate_succ,foldl_cons,replicate_succ,flatten_cons,← List.append_assoc];have e:a.toArray++x.cps=(a++x.cps.toList).toArray:=by simp
    rw[e];exact b _
  have:=this m [];simpa using this
 unfold Txt.mul;rw[if_neg (by omega)];split
 ·rename_i c;rw[or_eq_true] at c;rcases c with c |c
  ·have:n=1:=eq_of_beq c;subst this;show x=⟨([x.cps.toList].flatten).toArray⟩;simp
  have d:x.cps.size=0:=eq_of_beq c;have:x.cps.toList=[]:=by simpa using Array.size_eq_zero_iff.mp d
  have g:∀ m:Nat,(replicate m ([]:List Nat)).flatten=[]:=λm=>by induction m with
   |zero=>rfl
   |succ m b=>rw[replicate_succ,flatten_cons,b];rfl
  rw[this,g];cases x with
  |mk cps =>
   simp only at this;have:cps = #[]:=by simpa using this
   rw[this]
 rw[f]
theorem eX:Nu X (binaryOp .Mult) du:=by
 intro p s σ H x y v u Q I A w h;obtain⟨J,dx,dy,d,S,B,C,e,q⟩:=h;unfold du at e;split at e
 ·rename_i i j;split at e
  ·rename_i c;cases e;cases At.JS.mp B;cases At.JS.mp C;exact F0 p s σ H _ _ v u Q I A w ⟨i,j,rfl,rfl,D4 c,q H _ (J6.refl H) (At.JS.mpr rfl)⟩
  cases e
 ·rename_i z n;obtain⟨ex,W⟩:=At.J9.mp B;subst ex;cases At.JS.mp C;obtain⟨t,rfl⟩:=A;obtain⟨t',rfl⟩:=w;split at e
  ·rename_i c;cases e;refine SB.mul ⟨by rw[decide_eq_false (by omega),decide_eq_false (by omega)];rfl,λh=>absurd c.2 h,λh=>absurd c.2 h⟩ λt' k=>?_;rw[show Txt.mul z n=⟨#[]⟩ from if_pos c.2];exact⟨.str _,H,I.tok _,⟨t',rfl⟩,q H _ (J6.refl H) (At.J9.mpr ⟨rfl,by show 0<=sizeLine;decide,by decide⟩)⟩
  rename_i c;split at e
  ·rename_i c2;cases e;have G:(sizeLine:Nat)=2 ^ 24:=rfl
   have f:z.length*n.toNat<=1000000:=by
    have:n.toNat<=1000:=by omega
    exact Nat.le_trans (Nat.mul_le_mul c2.2.2 this) (by decide)
   have ok:MulOk z n:=by
    refine⟨by rw[decide_eq_false (by omega),decide_eq_false (by omega)];rfl,λ_ _ hh=>?_,λ_ _=>?_⟩
    ·have K:(2 ^ 63-1) / n≥(2 ^ 63-1) / 1000:=by
      apply Int.le_ediv_of_mul_le (by omega);have:((2 ^ 63-1) / 1000:Int)=9223372036854775:=by decide
      rw[this];omega
     have D:((2 ^ 63-1) / 1000:Int)=9223372036854775:=by decide
     omega
    unfold Builtin.Str.tooLong;exact decide_eq_false (by omega)
   refine SB.mul ok λt' k=>?_;rw[BR z n (by omega)];have hl:z.cps.toList.length=z.length:=by simp[Str.length]
   refine⟨.str _,H,I.tok _,⟨t',rfl⟩,q H _ (J6.refl H) (At.J9.mpr ⟨rfl,?_,oS λc m=>?_⟩)⟩
   ·show (List.toArray _).size<=_;rw[size_toArray,len_rep,hl,mul_comm];omega
   obtain⟨l,QP,R⟩:=List.mem_flatten.mp m;rw[(List.mem_replicate.mp QP).2] at R;exact ml W.2 R
  cases e
 ·rename_i xs n;split at e
  ·rename_i c;cases e;obtain⟨a,P,rfl,tq,m⟩:=At.Kb.mp B;cases At.JS.mp C;cases A;obtain⟨t',rfl⟩:=w;obtain⟨its,r,⟨⟨cls,O,data,E⟩,g,L,M,hd⟩,hz⟩:=I.tuple tq.sq;simp only at L hd;subst L hd;have l1:=m.length;have Z:=r.length;have G:(sizeLine:Nat)=2 ^ 24:=rfl
   have f:its.toArray.size*n.toNat<=sizeLine:=by
    rw[size_toArray];have K:its.length<=1000:=by omega
    have D:n.toNat<=1000:=by omega
    exact Nat.le_trans (Nat.mul_le_mul K D) (by rw[G];decide)
   have h0 : 0<its.length:=by omega
   have V:its.toArray.isEmpty=false:=by
    cases its with
    |nil=>simp at h0
    |cons _ _=>rfl
   refine wpAny_binaryOp_repeat_ref (T:="tuple") (U:="int") (by decide) ⟨_,g,rfl⟩ (λY=>typeIs_int Y n t') mF F.fills_int_mul F.slot_int_rmul tj F.slot_int_index.lookup
    (call_meets F.slot_int_rmul (typeIs_int s n t') F.entry_int_rmul (F.args_int_rmul_2 _ _) (pF n t' a its.toArray M O E)
     ⟨g,rfl,⟨_,g,rfl⟩,call_meets F.slot_tuple_mul ⟨_,g,rfl⟩ F.entry_tuple_mul (F.args_tuple_mul_2 _ _) (wY a its.toArray M O E n t' c.1 (by omega) V f) ⟨g,?_⟩⟩)
   have Wc:List.foldl (λx1 x2=>x1++x2) #[] (replicate n.toNat its.toArray)=(replicate n.toNat its).flatten.toArray:=by have:=foldl_rep its n.toNat [];rw[nil_append] at this;exact this
   rw[Wc];have N:(replicate n.toNat P).flatten.length<=sizeLine:=by rw[len_rep,mul_comm,Z];rw[size_toArray] at f;exact f
   exact⟨.ref s.heap.objs.size,_,I.laid (t':=s.toks) (o:=.tup (replicate n.toNat P).flatten) (λb ob q=>Heap.get?_push_of_some _ q) (le_refl _) ⟨N,_,r.rep n.toNat,Nq.new _ _⟩,rfl,q _ _ (aQ I.fresh _) (At.LL (m.rep n.toNat) I.fresh S N)⟩
  cases e
 cases e
end
section
variable {X:Cx}{W:WT}
def nK:D->Option String
 | .Kk=>some "NoneType"
 | .bl _=>some "bool"
 | .int _=>some "int"
 | .str _=>some "str"
 | .tup _=>some "tuple"
 | .lst _=>some "list"
 |_=>none
def n6 (T k:String):Bool:=k==T ||(k=="bool"&&T=="int")
def iU (T:String)(d:D):Option D:=(nK d).map λk => .bl (n6 T k)
def r_ (T:String):Prop:=∀ (K:Frag),kitOne K (.type "NoneType") (.type T)=some (n6 T "NoneType")/\kitOne K (.type "bool") (.type T)=some (n6 T "bool")/\kitOne K (.type "int") (.type T)=some (n6 T "int") /\
 kitOne K (.type "str") (.type T)=some (n6 T "str")/\kitOne K (.type "tuple") (.type T)=some (n6 T "tuple")/\kitOne K (.type "list") (.type T)=some (n6 T "list")
theorem Ed:r_ "int":=λK=>⟨rfl,rfl,rfl,rfl,rfl,rfl⟩
theorem yS:r_ "str":=λK=>⟨rfl,rfl,rfl,rfl,rfl,rfl⟩
theorem Ca:r_ "bool":=λK=>⟨rfl,rfl,rfl,rfl,rfl,rfl⟩
theorem kit_tuple:r_ "tuple":=λK=>⟨rfl,rfl,rfl,rfl,rfl,rfl⟩
theorem CJ {T:String}(w:r_ T):gm X (.builtin "isinstance") (λv H Q => ∃ x,v=[x,.ty T]/\V9 X.K (iU T) x H Q):=by
 intro j s G H v V Q I r h;obtain⟨x,rfl,J,F,d,S,g,e,q⟩:=h;obtain⟨u,U,rfl,f,M⟩:=vals2 r;cases M;obtain⟨k,c,N⟩:=map_eq_some_iff.mp e;subst N;obtain⟨D,O,P,R,C,A⟩:=w X.K;have fin:∀ tk,EP X j G Q (.bool (n6 T k)) { s with toks:=tk }:=λtk=>⟨.bl _,H,I.tok _,rfl,q H _ (J6.refl H) (At.Kg.mpr rfl)⟩;cases F with
 |Kk=>cases c;cases At.Ld.mp g;cases f;exact kia_one kitx_none I.NA True.intro D (λz=>nomatch z) fin
 |bl b=>cases c;cases At.Kg.mp g;cases f;exact kia_one kitx_bool I.NA True.intro O (λz=>nomatch z) fin
 |int i=>cases c;cases At.JS.mp g;obtain⟨t,rfl⟩:=f;exact kia_one kitx_int I.NA True.intro P (λz=>nomatch z) fin
 |str y=>cases c;cases (At.J9.mp g).1;obtain⟨t,rfl⟩:=f;exact kia_one kitx_str I.NA True.intro R (λz=>nomatch z) fin
 |tup L =>
  cases c;obtain⟨a,E,rfl,p,_⟩:=At.Kb.mp g;cases f;obtain⟨its,B,⟨o,m,l,_⟩,_⟩:=I.tuple p.sq;exact kia_one kitx_tuple I.NA ⟨o,m,l⟩ C (λz=>nomatch z) fin
 |lst L =>
  cases c;obtain⟨a,E,rfl,p,_⟩:=At.Kc.mp g;cases f;obtain⟨its,B,⟨o,n,m,l,_⟩,_⟩:=I.list p.sq;exact kia_one kitx_list I.NA ⟨o,m,l⟩ A (λz=>nomatch z) fin
 |set _=>simp[nK] at c
 |loc _=>simp[nK] at c
 |fn _ _=>simp[nK] at c
variable {a b c e:Expr}{fa fb fc:JJ D}{pos:Pos}{es:List Expr}{gs:JJ (List D)}
theorem kF {T:String}{x t:Str}{p a:Pos}(i:r_ T)(m:x="isinstance")(q:X.mg x=none)(c:X.mg t=none)(g:bootBuiltins t=some (.type T))(n:SE X W e fa)
  (o:Gl X x:=by rfl) (Pw:Gl X t:=by rfl) (f:t≠"__name__":=by decide) (k:(t==("__debug__":Str))=false:=by decide)
  (b:starEach (e::[.Name t a]) X.env=(false,eval e X.env)::starEach [.Name t a] X.env:=by rfl) (j:(backTo pos (starEach [.Name t a] X.env)).any (·.1)=false:=by rfl) :
  SE X W (.Call (.Name x p) [e,.Name t a] [] pos) (Pc (iU T) fa):=by
 subst m;refine PE.imp (jj (CJ i) o q (by decide) (cQ n (cQ (DQ (v:=.ty T) Pw c g (show RelV (.ty T) (.type T) from rfl) f k) KS (by rfl)) b) (by decide) (by decide) b j) λs H Q h=>?_;exact(tG.J5 h).mono λv r ⟨d,l⟩=>⟨v,rfl,tG.Wa l⟩
def bW:List D->Option D
 |[.tup xs]=>some (.int xs.length)
 |[.lst xs]=>some (.int xs.length)
 |[.str x]=>some (.int x.length)
 |_=>none
theorem cL:l6 X (.builtin "len") bW:=by
 intro b s f H l i Q I r h;obtain⟨J,u,d,o,m,e,q⟩:=h;unfold bW at e;split at e
 ·rename_i k;cases e;obtain⟨v,w,rfl,a,n⟩:=JW.JU.mp m;cases JW.JY.mp n;obtain⟨p,g,rfl,t,c⟩:=At.Kb.mp a;exact iC b s f H _ i Q I r ⟨p,g,rfl,.inr t.sq,by rw[← c.length];exact q H _ (J6.refl H) (At.JS.mpr rfl)⟩
 ·rename_i k;cases e;obtain⟨v,w,rfl,a,n⟩:=JW.JU.mp m;cases JW.JY.mp n;obtain⟨p,g,rfl,t,c⟩:=At.Kc.mp a;exact iC b s f H _ i Q I r ⟨p,g,rfl,.inl t.sq,by rw[← c.length];exact q H _ (J6.refl H) (At.JS.mpr rfl)⟩
 ·rename_i y;cases e;obtain⟨v,w,rfl,a,n⟩:=JW.JU.mp m;cases JW.JY.mp n;obtain⟨ex,j⟩:=At.J9.mp a;subst ex;exact uh b s f H _ i Q I r ⟨y,rfl,j.1,q H _ (J6.refl H) (At.JS.mpr rfl)⟩
 cases e
def intD:List D->Option D
 |[.int i]=>some (.int i)
 |[.bl k]=>some (.int (if k then 1 else 0))
 |_=>none
theorem Gw:l6 X (.type "int") intD:=by
 intro b s c H g f Q I r h;obtain⟨J,l,d,j,m,e,q⟩:=h;unfold intD at e;split at e
 ·rename_i i;cases e;obtain⟨v,w,rfl,a,n⟩:=JW.JU.mp m;cases JW.JY.mp n;cases At.JS.mp a;exact rR b s c H _ f Q I r (.inl ⟨i,rfl,q H _ (J6.refl H) (At.JS.mpr rfl)⟩)
 ·rename_i k;cases e;obtain⟨v,w,rfl,a,n⟩:=JW.JU.mp m;cases JW.JY.mp n;cases At.Kg.mp a;exact rR b s c H _ f Q I r (.inr ⟨k,rfl,q H _ (J6.refl H) (At.JS.mpr rfl)⟩)
 cases e
def ft:List D->Option D
 |[.tup xs]=>some (.tup xs)
 |[.lst xs]=>some (.tup xs)
 |_=>none
theorem d8:l6 X (.type "tuple") ft:=by
 intro b s g H u i Q I r h;obtain⟨J,x,d,k,m,e,q⟩:=h;unfold ft at e;split at e
 ·rename_i o;cases e;obtain⟨v,w,rfl,a,n⟩:=JW.JU.mp m;cases JW.JY.mp n;obtain⟨p,c,rfl,t,f⟩:=At.Kb.mp a;exact km b s g H _ i Q I r ⟨p,c,rfl,.inr ⟨t.sq,q H _ (J6.refl H) a⟩⟩
 ·rename_i o;cases e;obtain⟨v,w,rfl,a,n⟩:=JW.JU.mp m;cases JW.JY.mp n;obtain⟨p,c,rfl,t,f⟩:=At.Kc.mp a;exact km b s g H _ i Q I r ⟨p,c,rfl,.inl ⟨t.sq,λl j=>q _ _ (aQ j _) (At.LL f j k t.len)⟩⟩
 cases e
def Ea:List D->Option D
 |[.tup xs]=>some (.lst xs)
 |[.lst xs]=>some (.lst xs)
 |_=>none
theorem Gv:l6 X (.type "list") Ea:=by
 intro b s j H u k Q I r h;obtain⟨J,x,d,i,m,e,q⟩:=h;unfold Ea at e;split at e
 ·rename_i o;cases e;obtain⟨v,w,rfl,a,n⟩:=JW.JU.mp m;cases JW.JY.mp n;obtain⟨p,g,rfl,t,f⟩:=At.Kb.mp a;exact lQ b s j H _ k Q I r ⟨p,g,rfl,.inr t.sq,λl c=>q _ _ (aQ c _) (At.Lj f c i t.len)⟩
 ·rename_i o;cases e;obtain⟨v,w,rfl,a,n⟩:=JW.JU.mp m;cases JW.JY.mp n;obtain⟨p,g,rfl,t,f⟩:=At.Kc.mp a;exact lQ b s j H _ k Q I r ⟨p,g,rfl,.inl t.sq,λl c=>q _ _ (aQ c _) (At.Lj f c i t.len)⟩
 cases e
end
inductive Fl where
 |next (ρ:JQ) |ret (d:D) |brk (ρ:JQ) |cont (ρ:JQ)
def MA (X:Cx)(W:WT)(J:List Addr)(H:Hp)(r:Except Str Fl)(f:JP)(E:Ends):Prop:=
 match r with
 | .ok (.next ρ') => ∀ e b a,Ex J H e a->Cf X e ρ' f b a->E.nx b a
 | .ok (.brk ρ') => ∀ e b a,Ex J H e a->Cf X e ρ' f b a->E.bk b a
 | .ok (.cont ρ') => ∀ e b a,Ex J H e a->Cf X e ρ' f b a->E.ct b a
 | .ok (.ret d) => ∀ e a v,Ex J H e a->Km X.K e f a->At X.K a e d v->E.rt v a
 | .error c => ∀ e a,Ex J H e a->Km X.K e f a->W c e f a
theorem MA.ex {X:Cx}{W:WT}{J m:List Addr}{H j:Hp}{r:Except Str Fl}{l:JP}{E:Ends}(h:MA X W J H r l E)(x:Ex J H m j):MA X W m j r l E:=by
 cases r with
 |error c=>exact λi g e s=>h i g (x.trans e) s
 |ok f =>
  cases f with
  |next k=>exact λi b g e c=>h i b g (x.trans e) c
  |brk k=>exact λi b g e c=>h i b g (x.trans e) c
  |cont k=>exact λi b g e c=>h i b g (x.trans e) c
  |ret d=>exact λi g v e s a=>h i g v (x.trans e) s a
def tS (X:Cx)(W:WT)(f:JJ Fl):TS:=λE c H => ∃ J a S r b,Cf X J a S c H/\f a S=some (r,b)/\MA X W J H r b E
def SS (X:Cx)(W:WT)(st:Stmt)(f:JJ Fl):Prop:=PS X st (tS X W f)
def OT (X:Cx)(W:WT)(st:List Stmt)(f:JJ Fl):Prop:=Of X st (tS X W f)
theorem PS.imp {X:Cx}{st:Stmt}{t t':TS}(h:PS X st t)(i:∀ E b H,t' E b H->t E b H):PS X st t':=λa s b H D I z=>h a s b H D I (i _ _ _ z)
theorem Of.imp {X:Cx}{st:List Stmt}{t t':TS}(h:Of X st t)(i:∀ E b H,t' E b H->t E b H):Of X st t':=λa s b H D I z=>h a s b H D I (i _ _ _ z)
section
variable {X:Cx}{W:WT}{st:Stmt}{rest:List Stmt}{f g:JJ Fl}{e c:Expr}{fe:JJ D}{gt:JJ Bool}{pos:Pos}
def bV:JJ Fl:=λa S=>JV (.next a) S
def aN (f g:JJ Fl):JJ Fl:=λc S=>ai (f c S) λd b=>match d with
 | .next a=>g a b
 |o=>JV o b
def aW (f:JJ D):JJ Fl:=λa S=>ai (f a S) λd b=>JV (.ret d) b
def Mw (t:JJ Bool)(f g:JJ Fl):JJ Fl:=λa S=>ai (t a S) λk b=>if k=true then f a b else g a b
def bt (i:Nat)(f:JJ D):JJ Fl:=λa S=>ai (f a S) λd b=>JV (.next (a.set i (some d))) b
def rY (f:JJ D):JJ Fl:=λa S=>ai (f a S) λ_ b=>JV (.next a) b
theorem bg:OT X W [] bV:=Q0.imp λE a H h=>by obtain⟨J,b,S,r,d,c,e,z⟩:=h;cases e;exact z J a H Ex.refl c
theorem A_ {E:Ends}{j:St}{H:Hp}(h:tS X W (aN f g) E j H):GO (tS X W f) (tS X W g) E j H:=by
 obtain⟨J,b,S,r,m,c,e,z⟩:=h;unfold aN at e;cases q:f b S with
 |none=>simp[q] at e
 |some o =>
  obtain⟨k,i⟩:=o;simp only[q] at e;cases k with
  |error x =>
   cases e;exact⟨J,b,S,.error x,_,c,q,z⟩
  |ok s =>
   cases s with
   |next a=>exact⟨J,b,S,.ok (.next a),i,c,q,λn l t x p=>⟨n,a,i,r,m,p,e,z.ex x⟩⟩
   |ret d=>cases e;exact⟨J,b,S,.ok (.ret d),_,c,q,z⟩
   |brk a=>cases e;exact⟨J,b,S,.ok (.brk a),_,c,q,z⟩
   |cont a=>cases e;exact⟨J,b,S,.ok (.cont a),_,c,q,z⟩
theorem aj (b:SS X W st f)(a:OT X W rest g):OT X W (st::rest) (aN f g):=(Bt b a).imp λE c H h=>A_ h
theorem aq (a:SS X W st f):OT X W [st] f:=DA a
theorem tS.J5 {k:D->JJ Fl}{E:Ends}{g:St}{H:Hp}(h:tS X W (λρ S=>ai (fe ρ S) λd b=>k d ρ b) E g H) :
  tE X W fe g H λv a => ∃ J ρ S d r f,Cf X J ρ S g a/\At X.K a J d v/\k d ρ S=some (r,f)/\MA X W J a r f E:=by
 obtain⟨J,ρ,S,r,f,c,e,z⟩:=h;cases q:fe ρ S with
 |none=>simp[q] at e
 |some o =>
  obtain⟨i,b⟩:=o;simp only[q] at e;cases i with
  |error x =>
   cases e;exact⟨J,ρ,S,.error x,_,c,.nil,q,z⟩
  |ok d=>exact⟨J,ρ,S,.ok d,b,c,.nil,q,λl a v x j m=>⟨l,ρ,b,d,r,f,c.re x j,m,e,z.ex x⟩⟩
theorem tS.ND {k:Bool->JJ Fl}{E:Ends}{f:St}{H:Hp}(h:tS X W (λρ S=>ai (gt ρ S) λd a=>k d ρ a) E f H) :
  tT X W gt f H λb g=>tS X W (k b) E f g:=by
 obtain⟨J,ρ,S,r,l,c,e,z⟩:=h;cases q:gt ρ S with
 |none=>simp[q] at e
 |some o =>
  obtain⟨i,a⟩:=o;simp only[q] at e;cases i with
  |error x =>
   cases e;exact⟨J,ρ,S,.error x,_,c,.nil,q,z⟩
  |ok d =>
   refine⟨J,ρ,S,.ok d,a,c,.nil,q,λn g v x j m=>?_⟩;cases m;exact⟨n,ρ,a,r,l,c.re x j,e,z.ex x⟩
theorem aF (f:SE X W e fe):SS X W (.Return (some e) pos) (aW fe):=(FI f).imp λE j H h=>(tS.J5 h).mono λv b a=>by obtain⟨J,g,S,d,r,i,c,m,q,z⟩:=a;cases q;exact z J b v Ex.refl c.Kr m
theorem cv {a b:List Stmt}(j:MH X W c gt)(e:OT X W a f)(i:OT X W b g):SS X W (.If c a b pos) (Mw gt f g):=(G5 j e i).imp λE m H h=>(tS.ND h).mono λk l d=>by
 cases k with
 |true=>rw[if_pos rfl];exact d
 |false=>rw[if_neg (by decide)];exact d
theorem oh (f:SE X W e fe)(i:swapsWith e none pos.line X.env=pure false:=by rfl):SS X W (.Expr e pos) (rY fe):=(DC f i).imp λE g H h=>(tS.J5 h).mono λv b a=>by obtain⟨J,j,S,d,r,k,c,m,q,z⟩:=a;cases q;exact z J g b Ex.refl c
theorem Cf.set {J:List Addr}{ρ:JQ}{S:JP}{e:St}{H:Hp}{i:Nat}{d:D}{v:V}(c:Cf X J ρ S e H)(m:At X.K H J d v):Cf X J (ρ.set i (some d)) S (e.set i (some v)) H:=by
 refine⟨by rw[length_set,length_set];exact c.len,λj l h=>?_,c.Kr⟩;by_cases a:j=i
 ·subst a;have b:j < ρ.length:=by have:=(List.getElem?_eq_some_iff.mp h).1;rwa [length_set] at this
  rw[getElem?_set_self b] at h;cases h;exact⟨v,getElem?_set_self (by rw[← c.len];exact b),m⟩
 rw[getElem?_set_ne (Ne.symm a)] at h;obtain⟨g,f,k⟩:=c.env j l h;exact⟨g,by rw[getElem?_set_ne (Ne.symm a)];exact f,k⟩
theorem aL {i:Nat}{x:Str}{a:Pos}(l:X.N.Nodup)(k:SE X W e fe)(g:X.N[i]?=some x:=by rfl)(j:Loc X.env.scope x:=by first |exact Or.inl rfl |exact Or.inr rfl)(o:swapsWith e (some (.Name x a)) pos.line X.env=pure false:=by rfl)
  (n:X.fn x=true∨X.env.scope.names.lookup x=some .local:=by first |exact .inl rfl |exact .inr rfl |assumption) :
  SS X W (.Assign [.Name x a] e pos) (bt i fe):=(FH l g j k o n).imp λE s H h=>(tS.J5 h).mono λv f b=>by
 obtain⟨J,p,S,d,r,t,c,m,q,z⟩:=b
 cases q;exact z J _ f Ex.refl (c.set m)
def Zs (X:Cx)(u:D->JQ->Option JQ):TG:=λv e H Q => ∃ J c S d b,Cf X J c S e H/\At X.K H J d v/\u d c=some b/\∀ a,Cf X J b S a H->Q a H
def Ib (X:Cx)(u:List D->JQ->Option JQ):Q1:=λe f H Q => ∃ J c S d b,Cf X J c S f H/\JW X.K H J d e/\u d c=some b/\∀ a,Cf X J b S a H->Q a H
def SG (X:Cx)(a:Expr)(u:D->JQ->Option JQ):Prop:=PG X a (Zs X u)
def Vq (X:Cx)(a:List Expr)(u:List D->JQ->Option JQ):Prop:=Ru X a (Ib X u)
theorem PG.imp {c:Expr}{t t':TG}(h:PG X c t)(i:∀ v b H Q,t' v b H Q->t v b H Q):PG X c t':=λa s b H v u Q I r z=>h a s b H v u Q I r (i _ _ _ _ z)
theorem Ru.imp {c:List Expr}{t t':Q1}(h:Ru X c t)(i:∀ v b H Q,t' v b H Q->t v b H Q):Ru X c t':=λa s b H v u Q I r z=>h a s b H v u Q I r (i _ _ _ _ z)
noncomputable def aE (i:Nat):D->JQ->Option JQ:=λd a=>some (a.set i (some d))
def g0:List D->JQ->Option JQ:=λb a=>match b with
 |[]=>some a
 |_=>none
def bo (u:D->JQ->Option JQ)(us:List D->JQ->Option JQ):List D->JQ->Option JQ:=λc b=>match c with
 |d::r=>(u d b).bind λa=>us r a
 |[]=>none
def ld (n:Nat)(us:List D->JQ->Option JQ):D->JQ->Option JQ:=λd b=>match d with
 | .tup a=>if a.length=n then us a b else none
 |_=>none
theorem aM {i:Nat}{x:Str}(f:X.N.Nodup)(a:X.N[i]?=some x:=by rfl)(b:Loc X.env.scope x:=by first |exact Or.inl rfl |exact Or.inr rfl)(g:X.fn x=true∨X.env.scope.names.lookup x=some .local:=by first |exact .inl rfl |exact .inr rfl |assumption) :
  SG X (.Name x pos) (aE i):=(DI f a b g).imp λv l H Q h=>by
 obtain⟨J,k,S,d,j,c,m,e,z⟩:=h;cases e;exact z _ (c.set m)
theorem jJ:Vq X [] g0:=Q3.imp λv f H Q h=>by
 obtain⟨J,d,S,b,a,c,m,e,z⟩:=h;cases b with
 |nil=>cases e;exact⟨JW.JY.mp m,z _ c⟩
 |cons _ _=>cases e
theorem bQ {e:Expr}{es:List Expr}{u:D->JQ->Option JQ}{us:List D->JQ->Option JQ}(g:SG X e u)(f:Vq X es us)
  (q:(assignEach (e::es) X.env).map (·.2)=assign e X.env::(assignEach es X.env).map (·.2):=by rfl):Vq X (e::es) (bo u us):=(Bx g f q).imp λv t H Q h=>by
 obtain⟨J,i,S,l,b,c,m,e,z⟩:=h;cases l with
 |nil=>cases e
 |cons d r =>
  obtain⟨o,k,rfl,m1,m2⟩:=JW.JU.mp m;obtain⟨a,n,s⟩:=bind_eq_some_iff.mp e;exact⟨o,k,rfl,J,i,S,d,a,c,m1,n,λp j=>⟨J,a,S,r,b,j,m2,s,z⟩⟩
theorem mw {es:List Expr}{k:Nat}{us:List D->JQ->Option JQ}{n:Nat}(l:X.calm=true)(h:Vq X es us)
  (i:(assignEach es X.env).length=n:=by rfl) (p:(assignEach es X.env).findIdx? (·.1)=none:=by rfl):SG X (.Tuple es k pos) (ld n us):=(FO l h i p).imp λv r H Q h=>by
 obtain⟨J,j,S,d,b,c,m,e,z⟩:=h;cases d with
 |tup o =>
  obtain⟨a,g,rfl,t,f⟩:=At.Kb.mp m;simp only[ld] at e;split at e
  ·rename_i q;exact⟨a,g,rfl,t.sq,by rw[← f.length];exact q,J,j,S,o,b,c,f,e,z⟩
  cases e
 |_=>cases e
def ul (u:D->JQ->Option JQ)(f:JJ D):JJ Fl:=λa S=>ai (f a S) λd b=>aP ((u d a).map Fl.next) b
theorem Fi {a e:Expr}{u:D->JQ->Option JQ}(l:SE X W e fe)(o:SG X a u)(p:swapsWithSole [a] e pos.line X.env=pure false:=by rfl)(n:swappedStores [a] e X.env=pure none:=by rfl)
  (k:(assignEach [a] X.env).map (·.2)=[assign a X.env]:=by rfl):SS X W (.Assign [a] e pos) (ul u fe):=(FL l o p n k).imp λE t H h=>(tS.J5 h).mono λv j i=>by
 obtain⟨J,g,S,d,r,w,c,m,q,z⟩:=i
 cases hu:u d g with
 |none=>simp[hu] at q
 |some f =>
  simp only[hu,map_some,bZ,JV] at q;cases q;exact⟨J,g,_,d,f,c,m,hu,λb s=>z J b j Ex.refl s⟩
structure Walk (X:Cx) (Jt:It) (ds:List D) (J0:List Addr) (H0:Hp):Prop where
 len:ds.length<=sizeLine
 go:∀ J H i,Ex J0 H0 J H->i<ds.length->Jt.go i H
 O9:∀ J H (i:Nat) x H',Ex J0 H0 J H->(∀ a∈J,H a≠none)->i<ds.length->Jt.O9 i H x H'->∃ d,ds[i]?=some d/\At X.K H' J d x/\J6 H H'
 stop:∀ J H i,Ex J0 H0 J H->ds.length<=i->Jt.stop i H
def iW (X:Cx)(W:WT)(g:JJ (List D)):TI:=λi H R => ∃ J e S r d,Cf X J e S i H/\g e S=some (r,d)/\match r with
 | .ok h => ∀ b a f,Ex J H b a->Km X.K b d a->Walk X f h b a->R f a
 | .error c => ∀ b a,Ex J H b a->Km X.K b d a->W c b d a
def SI (X:Cx)(W:WT)(a iter:Expr)(b:JJ (List D)):Prop:=PI X a iter (iW X W b)
theorem PI.imp {c iter:Expr}{t t':TI}(h:PI X c iter t)(i:∀ b H R,t' b H R->t b H R):PI X c iter t':=λa s b H R I z=>h a s b H R I (i _ _ _ z)
def h8 (u:D->JQ->Option JQ)(body:JJ Fl):List D->JJ Fl
 |[],ρ,S=>JV (.next ρ) S
 |d::ds,ρ,S=>match u d ρ with
  |none=>none
  |some c=>ai (body c S) λe b=>match e with
   | .next a=>h8 u body ds a b
   | .cont a=>h8 u body ds a b
   | .brk a=>JV (.next a) b
   | .ret d=>JV (.ret d) b
def jv (b:JJ (List D))(u:D->JQ->Option JQ)(body:JJ Fl):JJ Fl:=λa S=>ai (b a S) λd c=>h8 u body d a c
theorem fS {T iter:Expr}{body:List Stmt}{V:JJ (List D)}{u:D->JQ->Option JQ}(hp:PassesOwn (model X.prog X.w) X.A X.env X.xe)(hc:X.calm=true)(B:SI X W T iter V)(hg:SG X T u)(hb:OT X W body f)
  (hs:∀ x,foldedSetIterable iter X.env x=pure x:=by intro _;rfl):SS X W (.For T iter body [] pos) (jv V u f):=(FJ hp hc B hg hb hs).imp λE σ H h=>by
 obtain⟨J,O,S,r,s,c,e,z⟩:=h;unfold jv at e;cases q:V O S with
 |none=>simp[q] at e
 |some o =>
  obtain⟨Q,S1⟩:=o;simp only[q] at e;cases Q with
  |error x =>
   cases e;exact⟨J,O,S,.error x,_,c,q,z⟩
  |ok p =>
   refine⟨J,O,S,.ok p,S1,c,q,λR H0 Jt x0 s0 w=>?_⟩
   refine⟨λi m σ H=>m=p.length-i/\∃ a k l,Ex R H0 a H/\Cf X a k l σ H/\∃ r s,h8 u f (p.drop i) k l=some (r,s)/\MA X W a H r s E,
    ⟨_,rfl,R,O,S1,Ex.refl,c.re x0 s0,r,s,by simpa using e,z.ex x0⟩,λi m Y C hw=>?_⟩
   obtain⟨hm,a,k,l,ex,M,r1,XI,j,ez⟩:=hw;by_cases B:i<p.length
   ·refine .inr ⟨w.go a C i ex B,λn t => ∃ U K Sy,Ex R H0 U t/\Cf X U K Sy n t/\∃ r s,h8 u f (p.drop (i+1)) K Sy=some (r,s)/\MA X W U t r s E,
     λn t hn=>⟨p.length-(i+1),by omega,rfl,hn⟩,λx t y=>?_⟩
    obtain⟨d,ed,ad,sm⟩:=w.O9 a C i x t ex M.Kr.all B y;have hd:p.drop i=d::p.drop (i+1):=by rw[List.drop_eq_getElem_cons B];rw[List.getElem?_eq_getElem B] at ed;cases ed;rfl
    rw[hd] at j;unfold h8 at j;cases hu:u d k with
    |none=>simp[hu] at j
    |some b =>
     simp only[hu] at j;have N:Ex a C a t:=Ex.same sm;refine⟨a,k,l,d,b,M.re N (M.Kr.same sm),ad,hu,λσ2 I=>?_⟩;cases v:f b l with
     |none=>simp[v] at j
     |some o =>
      obtain⟨Q,L⟩:=o;simp only[v] at j;have F:=ez.ex N;cases Q with
      |error x =>
       cases j;exact⟨a,b,l,.error x,_,I,v,F⟩
      |ok fl =>
       cases fl with
       |next g=>exact⟨a,b,l,.ok (.next g),L,I,v,λZ n H2 G P=>⟨Z,g,L,ex.trans (N.trans G),P,r1,XI,j,F.ex G⟩⟩
       |cont g=>exact⟨a,b,l,.ok (.cont g),L,I,v,λZ n H2 G P=>⟨Z,g,L,ex.trans (N.trans G),P,r1,XI,j,F.ex G⟩⟩
       |brk g=>cases j;exact⟨a,b,l,.ok (.brk g),_,I,v,F⟩
       |ret dd=>cases j;exact⟨a,b,l,.ok (.ret dd),_,I,v,F⟩
   refine .inl ⟨w.stop a C i ex (by omega),?_⟩;rw[drop_eq_nil_of_le (by omega)] at j;unfold h8 at j;cases j;exact ez a Y C Ex.refl M
def xY (f:JJ D):JJ (List D):=λb S=>ai (f b S) λd c=>aP (match d with | .tup a=>some a |_=>none) c
def CM (f:JJ D):JJ (List D):=λb S=>ai (f b S) λd c=>aP (match d with | .lst a=>some a |_=>none) c
theorem Walk.list {a:Addr}{ds:List D}{b:List V}{J:List Addr}{H:Hp}(t:LQ X.K H J a b)(m:JW X.K H J ds b):Walk X (VR X.K a) ds J H where
 len:=by rw[m.length];exact t.len
 go:=λg f i x c=>by
  have m1:=m.ex x;obtain⟨v,j,_⟩:=m1.get (List.getElem?_eq_getElem c);exact⟨b,v,(t.ex x).sq,j⟩
 O9:=λg f i v l x k c y=>by
  obtain⟨rfl,h⟩:=y;obtain⟨d,e,a⟩:=(m.ex x).get' (h b (t.ex x).sq);exact⟨d,e,a,J6.refl _⟩
 stop:=λg f i x c=>⟨b,(t.ex x).sq,by rw[← m.length];exact c⟩
theorem Walk.tup {a:Addr}{ds:List D}{b:List V}{J:List Addr}{H:Hp}(t:TQ X.K H J a b)(m:JW X.K H J ds b):Walk X (VS X.K a) ds J H where
 len:=by rw[m.length];exact t.len
 go:=λg f i x c=>by
  have m1:=m.ex x;obtain⟨v,j,_⟩:=m1.get (List.getElem?_eq_getElem c);exact⟨b,v,(t.ex x).sq,j⟩
 O9:=λg f i v l x k c y=>by
  obtain⟨rfl,h⟩:=y;obtain⟨d,e,a⟩:=(m.ex x).get' (h b (t.ex x).sq);exact⟨d,e,a,J6.refl _⟩
 stop:=λg f i x c=>⟨b,(t.ex x).sq,by rw[← m.length];exact c⟩
theorem tO {k:D->Option (List D)}{i:St}{H:Hp}{R:It->Hp->Prop}(h:iW X W (λρ S=>ai (fe ρ S) λd f=>aP (k d) f) i H R) :
  tE X W fe i H λv a => ∃ J S d ds,Km X.K J S a/\At X.K a J d v/\k d=some ds/\∀ H' b,J6 a H'->Walk X b ds J H'->R b H':=by
 obtain⟨J,ρ,S,r,p,c,e,z⟩:=h;cases q:fe ρ S with
 |none=>simp[q] at e
 |some o =>
  obtain⟨n,f⟩:=o;simp only[q] at e;cases n with
  |error x =>
   cases e;exact⟨J,ρ,S,.error x,_,c,.nil,q,z⟩
  |ok d =>
   refine⟨J,ρ,S,.ok d,f,c,.nil,q,λl a v x j m=>?_⟩;cases hk:k d with
   |none=>simp[hk] at e
   |some ds =>
    simp only[hk,kU,bZ,JV] at e;cases e;exact⟨l,_,d,ds,j,m,hk,λH' b g w=>z l H' b (x.trans (Ex.same g)) (j.same g) w⟩
theorem Fm {j:Expr}(g:SE X W e fe):SI X W j e (xY fe):=(FN g).imp λo H R h=>(tO h).mono λv f c=>by
 obtain⟨J,S,d,n,s,m,b,z⟩:=c
 cases d with
 |tup l =>
  cases b;obtain⟨a,i,rfl,t,k⟩:=At.Kb.mp m;exact⟨a,rfl,⟨i,t.sq⟩,z f _ (J6.refl _) (Walk.tup t k)⟩
 |_=>cases b
theorem Fp {j:Expr}(g:SE X W e fe):SI X W j e (CM fe):=(DH g).imp λo H R h=>(tO h).mono λv f c=>by
 obtain⟨J,S,d,n,s,m,b,z⟩:=c
 cases d with
 |lst l =>
  cases b;obtain⟨a,i,rfl,t,k⟩:=At.Kc.mp m;exact⟨a,rfl,⟨i,t.sq⟩,z f _ (J6.refl _) (Walk.list t k)⟩
 |_=>cases b
def dh:List D->Option (List D)
 |[.int j]=>if -(2 ^ 62)<=j/\j<=16777216 then some ((List.range j.toNat).map λ(k:Nat)=>D.int k) else none
 |_=>none
def ik (k:List D->Option (List D))(t:JJ (List D)):JJ (List D):=λa S=>ai (t a S) λc b=>aP (k c) b
theorem Walk.range {J:List Addr}{H:Hp}(lo:Int)(n:Nat)(hz:n<=sizeLine):Walk X (Vh lo n) ((List.range n).map λ(k:Nat)=>D.int (lo+k)) J H where
 len:=by rw[length_map,length_range];exact hz
 go:=λc b i x a=>by rw[length_map,length_range] at a;exact a
 O9:=λc b i v e x d a y=>by
  obtain⟨rfl,rfl⟩:=y;rw[length_map,length_range] at a;exact⟨.int (lo+i),by rw[getElem?_map,List.getElem?_range a];rfl,At.JS.mpr rfl,J6.refl _⟩
 stop:=λc b i x a=>by rw[length_map,length_range] at a;exact a
theorem lA {k:List D->Option (List D)}{t:JJ (List D)}{i:St}{H:Hp}{R:It->Hp->Prop}(h:iW X W (λρ S=>ai (t ρ S) λd f=>aP (k d) f) i H R) :
  tA X W t i H λvs a => ∃ J S es ds,Km X.K J S a/\JW X.K a J es vs/\k es=some ds/\∀ H' b,J6 a H'->Walk X b ds J H'->R b H':=by
 obtain⟨J,ρ,S,r,p,c,e,z⟩:=h;cases q:t ρ S with
 |none=>simp[q] at e
 |some o =>
  obtain⟨n,f⟩:=o;simp only[q] at e;cases n with
  |error x =>
   cases e;exact⟨J,ρ,S,.error x,_,c,.nil,q,z⟩
  |ok es =>
   refine⟨J,ρ,S,.ok es,f,c,.nil,q,λl a v x j m=>?_⟩;cases hk:k es with
   |none=>simp[hk] at e
   |some ds =>
    simp only[hk,kU,bZ,JV] at e;cases e;exact⟨l,_,es,ds,j,m,hk,λH' b g w=>z l H' b (x.trans (Ex.same g)) (j.same g) w⟩
theorem dg {o a:Expr}{t:JJ (List D)}{x:Str}{p:Pos}(f:x="range")(k:X.mg x=none)(g:SA X W [a] t)(i:Gl X x:=by rfl)(l:starEach [a] X.env=[(false,eval a X.env)]:=by rfl):SI X W o (.Call (.Name x p) [a] [] pos) (ik dh t):=by
 subst f;refine PI.imp (zV i k g l) λu H R h=>(lA h).mono λA d e=>?_;obtain⟨J,S,es,y,s,m,b,z⟩:=e;unfold dh at b;split at b
 ·rename_i j;split at b
  ·rename_i c;cases b;obtain⟨v,r,rfl,q,n⟩:=JW.JU.mp m;cases JW.JY.mp n;cases At.JS.mp q;refine⟨j,rfl,c.1,by omega,z d _ (J6.refl _) ?_⟩;have w:=Walk.range (X:=X) (J:=J) (H:=d) 0 j.toNat (by show j.toNat<=16777216;omega);simpa using w
  cases b
 cases b
end
structure Mj (scope:Scope) (env:Env):Prop where
 kind:scope.kind = .function
 OU:∀ y∈scope.names,y.2≠.cell
 names:∀ y∈scope.names,y.2 = .local->scope.names.lookup y.1=some .local
 frees:∀ y∈scope.names,y.2 = .free->env.kindOf y.1=some .cell∨env.kindOf y.1=some .free
theorem fj {env:Env}:∀ (names:List (Str×NameKind)) (a:List (Str×Addr)),(∀ y∈names,y.2 = .free->∃ c,env.cells.lookup y.1=some c)->(∀ x c,a.lookup x=some c->env.cells.lookup x=some c) ->
  ∃ d:List (Str×Addr),(forIn names a λ(x:Str×NameKind) r=>(do
    let (name,kind):=x
    if kind==.free then pure (ForInStep.yield ((name,← cellOf env name)::r)) else pure (ForInStep.yield r):Sem (ForInStep (List (Str×Addr)))))=pure d /\
   (∀ x c,d.lookup x=some c->env.cells.lookup x=some c)/\(∀ x c,a.lookup x=some c->∃ b,d.lookup x=some b)/\(∀ y∈names,y.2 = .free->∃ c,d.lookup y.1=some c)
 |[],a,_,ha=>⟨a,by simp,ha,λx c h=>⟨c,h⟩,by simp⟩
 |(n,k)::r,a,hc,ha=>by
  by_cases j:k = .free
  ·subst j;obtain⟨c,o⟩:=hc (n,.free) (mem_cons_self ..) rfl
   have q:∀ x b,((n,c)::a).lookup x=some b->env.cells.lookup x=some b:=λx b h=>by
    rw[lookup_cons] at h;cases f:x==n with
    |true =>
     rw[f] at h;cases h;have:x=n:=eq_of_beq f;rw[this];exact o
    |false=>rw[f] at h;exact ha x b h
   obtain⟨d,e,l,g,m⟩:=fj r ((n,c)::a) (λy hy=>hc y (mem_cons_of_mem _ hy)) q;have p:cellOf env n=pure c:=by unfold cellOf;rw[o]
   refine⟨d,?_,l,λx b h=>?_,λy hy i=>?_⟩
   ·rw[forIn_cons];simp only[beq_self_eq_true,if_true,p,pure_bind];exact e
   ·by_cases f:(x==n)=true
    ·exact g x c (by rw[lookup_cons,f])
    exact g x b (by rw[lookup_cons,Bool.eq_false_iff.mpr f];exact h)
   rcases mem_cons.mp hy with rfl |hy
   ·exact g n c (by rw[lookup_cons,beq_self_eq_true])
   exact m y hy i
  obtain⟨d,e,l,g,m⟩:=fj r a (λy hy=>hc y (mem_cons_of_mem _ hy)) ha;refine⟨d,?_,l,g,λy hy i=>?_⟩
  ·rw[forIn_cons];have:(k==NameKind.free)=false:=by simpa using j
   simp only[this,false_eq_true,if_false,pure_bind];exact e
  rcases mem_cons.mp hy with rfl |hy
  ·exact absurd i j
  exact m y hy i
def mM (X:Cx)(scope:Scope)(c:List (Str×Addr))(a:List Str)(C:Addr)(b:Shared)(d:Hp)(fp:List Addr):Cx:=
 { X with N:=a,s₀:=b,H₀:=d,env:=compEnvC scope c C X.env,outer:=X.stack,ex:=fp,fn:=λ_=>false,pn:=[],xe:=λ_ _=>False }
theorem dI {env:Env}{x:Str}:∀ {names:List (Str×NameKind)}{k:NameKind},(names.map λ(n,k)=>if (k==NameKind.free&&env.scope.kind==.function&&env.kindOf n==some .cell) then (n,NameKind.cell) else (n,k)).lookup x=some k->(∀ y∈names,y.2≠.cell) ->
  (k = .cell∨k = .free)->(x,NameKind.free)∈names
 |[],_,h,_,_=>by simp at h
 |(n,k0)::r,k,h,nc,hk=>by
  rw[map_cons] at h;by_cases a:(k0==NameKind.free&&env.scope.kind==.function&&env.kindOf n==some .cell)=true
  ·simp only[a,if_true,lookup_cons] at h;cases hx:x==n with
   |true =>
    have e:x=n:=eq_of_beq hx;subst e;have:k0 = .free:=by simp at a;exact a.1.1
    subst this;exact mem_cons_self ..
   |false =>
    rw[hx] at h;exact mem_cons_of_mem _ (dI h (λy b=>nc y (mem_cons_of_mem _ b)) hk)
  simp only[a,if_false,lookup_cons,false_eq_true] at h;cases hx:x==n with
  |true =>
   rw[hx] at h;have e:x=n:=eq_of_beq hx;subst e;cases h;rcases hk with rfl |rfl
   ·exact absurd rfl (nc (x,.cell) (mem_cons_self ..))
   exact mem_cons_self ..
  |false =>
   rw[hx] at h;exact mem_cons_of_mem _ (dI h (λy b=>nc y (mem_cons_of_mem _ b)) hk)
def b8 {α:Type}(ts:Nat)(ix:List Nat)(a:List (Option α)):List (Option α):=replicate ts none++ix.map λi=>(a[i]?).getD none
def j2 (ts:List Str)(ix:List Nat)(N:List Str):List Str:=ts++ix.map λi=>N.getD i Str.empty
theorem ip {env:Env}{x:Str}:∀ {names:List (Str×NameKind)},names.lookup x=some .free ->
  (names.map λ(n,k)=>if (k==NameKind.free&&env.scope.kind==.function&&env.kindOf n==some .cell) then (n,NameKind.cell) else (n,k)).lookup x=some .cell ∨
  (names.map λ(n,k)=>if (k==NameKind.free&&env.scope.kind==.function&&env.kindOf n==some .cell) then (n,NameKind.cell) else (n,k)).lookup x=some .free
 |[],h=>by simp at h
 |(n,k0)::r,h=>by
  rw[map_cons];rw[lookup_cons] at h;by_cases a:(k0==NameKind.free&&env.scope.kind==.function&&env.kindOf n==some .cell)=true
  ·simp only[a,if_true,lookup_cons];cases hx:x==n with
   |true=>exact .inl rfl
   |false=>rw[hx] at h;exact ip h
  simp only[a,if_false,lookup_cons,false_eq_true];cases hx:x==n with
  |true=>rw[hx] at h;exact .inr h
  |false=>rw[hx] at h;exact ip h
theorem lookup_mem {x:Str}{k:NameKind}:∀ {names:List (Str×NameKind)},names.lookup x=some k->(x,k)∈names
 |[],h=>by simp at h
 |(n,k0)::r,h=>by
  rw[lookup_cons] at h;cases hx:x==n with
  |true=>rw[hx] at h;cases h;rw[eq_of_beq hx];exact mem_cons_self ..
  |false=>rw[hx] at h;exact mem_cons_of_mem _ (lookup_mem h)
section
variable {X:Cx}{pins:JM}{σ:St}{H:Hp}{s:Shared}
theorem Inv.enter {scope:Scope}{F:List (Str×Addr)}{ts:List Str}{ix:List Nat}{fp:List Addr}{j:Shared}{E:Heap}{C:Hp}{m:JN}{tk:Nat}(I:Inv X pins σ C j)(S:Mj scope X.env)
  (n:∀ x c,F.lookup x=some c->X.env.cells.lookup x=some c) (G:∀ y∈scope.names,y.2 = .free->∃ c,F.lookup y.1=some c) (T:∀ t∈ix,scope.names.lookup (X.N.getD t Str.empty)=some .free)
  (f:∀ b∈fp,jx X pins C b) (fo:∀ b∈fp,∃ o,j.heap.get? b=some o) (k:∀ b o,j.heap.get? b=some o->E.get? b=some o) (R:E.Ns j.heap.objs.size m) :
  Inv (mM X scope F (j2 ts ix X.N) j.heap.objs.size j C fp) [] (b8 ts.length ix σ) C { j with heap:=E,toks:=tk }:=by
 refine⟨⟨I.ok.mod,S.kind,I.ok.glob,I.ok.blt,le_refl _,λx y c a b=>I.ok.inj x y c (n x c a) (n y c b),λx V=>?_,(λx c a=>by cases a),I.ok.hd,I.ok.frames,.inl rfl,λb s=>⟨?_,λx c e=>(f b s).2.2.2.2.1 x c (n x c e)⟩,I.bs,Nat.le_trans I.ok.QY I.sz,λb o e s=>?_,λb s z=>?_,I.stack,I.O7⟩,
  rfl,I.bare,Un.kept k,⟨m,R,λi x v Z e2 e3=>?_⟩,λx c e=>?_,I.fresh,λx c e=>I.L0 x c (n x c e),λp U=>absurd (show p∈([]:JM) from U) (by simp),I.Kj.kept k,?_⟩
 ·have q:(x,NameKind.free)∈scope.names:=by
   rcases V with z |z
   ·exact dI z S.OU (.inl rfl)
   exact dI z S.OU (.inr rfl)
  exact G _ q rfl
 ·obtain⟨o,D⟩:=fo b s;exact ne_of_lt (Heap.lt_size D)
 ·obtain⟨f0,_,_,K,_⟩:=f b s;rcases K with z |z
  ·exact I.ok.Qf b o e z
  exact absurd (lt_of_lt_of_le (Heap.lt_size e) (Nat.le_trans I.ok.QY z)) (Nat.lt_irrefl _)
 ·obtain⟨f0,f1,f2,K,_⟩:=f b s;rcases mem_cons.mp (I.NW b z) with e |e
  ·exact f1 e
  exact f2 e
 ·-- a captured name
  have d:(b8 ts.length ix σ)[i]?=some (some v):=e2;have h:(j2 ts ix X.N)[i]?=some x:=Z;unfold b8 at d;unfold j2 at h;by_cases B:i<ts.length
  ·rw[getElem?_append_left (by simpa using B),getElem?_replicate] at d;rw[if_pos B] at d;cases d
  rw[getElem?_append_right (by simpa using B)] at d;rw[getElem?_append_right (by simpa using B)] at h;rw[length_replicate] at d;rw[getElem?_map] at d h;cases et:ix[i-ts.length]? with
  |none=>rw[et] at d;cases d
  |some t =>
   rw[et] at d h;simp only[map_some,Option.some.injEq] at d h
   have P : σ[t]?=some (some v):=by
    cases q : σ[t]? with
    |none=>rw[q] at d;cases d
    |some w=>rw[q] at d;simp only[getD_some] at d;rw[d]
   have H:t<X.N.length:=by rw[← I.len];exact(List.getElem?_eq_some_iff.mp P).1
   have W:X.N[t]?=some x:=by rw[List.getD_eq_getElem?_getD,List.getElem?_eq_getElem H] at h;rw[List.getElem?_eq_getElem H];simp only[getD_some] at h;rw[h]
   have L:scope.names.lookup x=some .free:=by have:=T t (mem_of_getElem? et);rwa [h] at this
   have O:=lookup_mem L;have g:=S.frees _ O rfl;obtain⟨m0,_,hl⟩:=I.loc
   obtain⟨u,r,l⟩:=hl t x v W P (by
    rcases g with z |z
    ·exact .inr (.inl z)
    exact .inr (.inr z))
   refine⟨u,r,.inr ⟨ip L,?_⟩⟩;obtain⟨c,M⟩:=G _ O rfl;have Vr:=n x c M;rcases l with ⟨Y,_⟩ |⟨_,c',Q,cell⟩
   ·have J:X.env.kindOf x=some .local:=Y;rcases g with z |z
    ·have A:X.env.kindOf x=some .cell:=z;rw[J] at A;cases A
    have A:X.env.kindOf x=some .free:=z;rw[J] at A;cases A
   rw[Vr] at Q;cases Q;exact⟨c,M,cell.keeps k⟩
 ·obtain⟨v,o,D,hd⟩:=I.cell x c (n x c e);exact⟨v,o,k c o D,hd⟩
 show (b8 ts.length ix σ).length=(j2 ts ix X.N).length;unfold b8 j2;simp
theorem Inv.leave {scope:Scope}{B:List (Str×Addr)}{y:List Str}{p:St}{fp:List Addr}{g s':Shared}{h':Heap}{l H':Hp}{t:JM}(I:Inv X pins σ l g)(f:∀ b∈fp,jx X pins l b)
  (j:Inv (mM X scope B y g.heap.objs.size g l fp) t p H' s') (k:∀ b,b≠g.heap.objs.size->h'.get? b=s'.heap.get? b):Inv X pins σ H' { s' with heap:=h' }:=by
 have un:Un (Pp X.stack) fp l H' g.heap s'.heap:=j.base;have m:∀ b o,g.heap.get? b=some o->b≠g.heap.objs.size:=λb o e=>ne_of_lt (Heap.lt_size e)
 have x:Un (Pp X.stack) fp l H' g.heap h':=by
  refine⟨λb o e n i h=>?_,λb o e n i h=>?_,un.free,λb o e h=>?_,un.NT,un.Nr,un.NU⟩
  ·rw[k b (m b o e)];exact un.keep b o e n i h
  ·rw[k b (m b o e)];exact un.slot b o e n i h
  rw[k b (m b o e)];exact un.there b o e h
 have Kj:L8 X.prog X.w H' h':=λb u e=>by
  have A:H' g.heap.objs.size=none:=j.free;have ne:∀ c v,H' c=some v->c≠g.heap.objs.size:=λc v q z=>by rw[z,A] at q;cases q
  refine(j.Kj b u e).MY (λc v s q=>?_) (λ_ q=>q) λ_ _ q=>q;rw[k c]
  ·exact q
  rcases s with z |z
  ·rw[z];exact ne b u e
  exact ne c _ z
 have os:s'.os=g.os:=j.os;exact I.TV (s':={ s' with heap:=h' }) os x Kj j.bare λb i=>let ⟨_,a,_,r,c,d⟩:=f b i;⟨r,a,c,d⟩
end
section
variable {prog:Program}{w:World}{A:Around}{R:Result->Shared->Prop}{s:Shared}
theorem ue {elt target iter:Expr}{ifs:List Expr}{scope:Scope}{pos:Pos}{it l:Value}{env:Env}(I:Nat->Shared->Prop)
  (y:∀ n s,I n s->wpAny (model prog w) A (pyNext it) (λr a=>match r with
   |none=>R (.ok .next) a
   |some v=>wpAny (model prog w) A (letOwnedTupleGo target it v) (λ_ z=>wpAny (model prog w) A (assign target env v) (λ_ g =>
     wpAny (model prog w) A (forIn ifs true λc r=>if r=true then do let ok ← isTrue c env (eval c env);pure (ForInStep.yield ok) else pure (ForInStep.yield r)) (λok d =>
      if ok=true then wpAny (model prog w) A (eval elt env) (λx e =>
       wpAny (model prog w) A (call (.builtin "list.append") [l,x]) (λ_ j => ∃ m,m<n/\I m j) (λ_ _=>False) e) (λ_ _=>False) d
      else ∃ m,m<n/\I m d) (λ_ _=>False) g) (λ_ _=>False) z) (λ_ _=>False) a) (λ_ _=>False) s)
  (n:Nat) (h:I n s):codeAny (model prog w) A (.compLoop (.ListComp elt [⟨target,iter,ifs,0⟩] scope pos) 0 it l env) R s:=by
 have no:∀ {α:Type}{t:Sem α}{Q : α->Shared->Prop}{E:JL}{s:Shared},wpAny (model prog w) A t Q (λ_ _=>False) s->wpAny (model prog w) A t Q E s:=λh=>wpAny_mono h (λ_ _ q=>q) λ_ _ f=>f.elim;refine codeAny_loop rfl I (λn s C=>?_) n h;show wpAny _ A ((compTurn (.ListComp elt [⟨target,iter,ifs,0⟩] scope pos) 0 it l env).onRaise (λx=>do noteFrame x env;theTreesLotGoes x)) _ _ s;refine wpAny_noted ?_;rw[compTurn_list];refine wpAny_bind (wpAny_standAt (wpAny_bind (wpAny_mono (no (y n s C)) (λr a k=>?_) λ_ _ b=>b)));cases r with
 |none=>exact wpAny_pure k
 |some v =>
  refine wpAny_bind (wpAny_mono (no k) (λ_ z B=>?_) λ_ _ b=>b);refine wpAny_bind (wpAny_mono (no B) (λ_ g u=>wpAny_bind (wpAny_mono (no u) (λok d i=>?_) λ_ _ b=>b)) λ_ _ b=>b);cases ok with
  |false=>exact wpAny_pure ⟨rfl,i⟩
  |true =>
   exact wpAny_bind (wpAny_bind (wpAny_mono (no i) (λx e o=>wpAny_bind (wpAny_mono (no o) (λ_ j p=>wpAny_pure (wpAny_pure ⟨rfl,p⟩)) λ_ _ b=>b)) λ_ _ b=>b))
end
section
variable {X:Cx}{pins:JM}{σ:St}{H:Hp}{s:Shared}{D₀:Addr}
theorem Inv.adopt {ys:List V}{its:List Value}{n:Nat}(I:Inv X pins σ H s)(f:jx X pins H D₀)(e:s.heap.get? D₀=some { cls:=.type "list",data:=.seq its.toArray n })(r:Vals ys its)(hz:ys.length<=sizeLine):Inv X pins σ (upd H D₀ (.lst ys)) s:=by
 obtain⟨g,m,t,j,h,i⟩:=f;have ne:∀ b o,H b=some o->b≠D₀:=λb o q=>aO q g
 have q:=I.step (h':=s.heap) (H':=upd H D₀ (.lst ys)) (g':=s.gens) (d':=s.drawn) (t':=s.toks) (ch:=[D₀]) (λb a=>by
   have:b=D₀:=by simpa using a
   subst this
   exact⟨j,m,h,i⟩)
  (λb o _ _ _ e _=>e) (λb o _ _ _ e _=>⟨o.slots,e⟩) (λb o a _ l=>by rw[aJ (λz=>a (by simp[z]))];exact l) (λb o _ e=>⟨o,e⟩)
  (λb d q=>by rw[aJ (ne b _ q)];exact q) (λb o d q=>by rw[aJ (ne b _ q)];exact q) (λb p q=>⟨#[],by rw[aJ (ne b _ q),q];simp⟩) (λ_ k=>k) (λb u q=>?_) I.bare
 ·exact q
 by_cases a:b=D₀
 ·subst a;rw[J4] at q;cases q;exact⟨hz,its,n,r,e⟩
 rw[aJ a] at q;exact(I.Kj b u q).MY (λc v _ z=>z) (λc z=>by rw[aJ (ne c _ z)];exact z) λc d z=>by rw[aJ (ne c _ z)];exact z
end
def Ui (X:Cx)(W:WT)(ifs:List Expr)(g:JJ Bool):Prop:=
 ∀ (a:JM) (s:Shared) (b:St) (H:Hp) (Q:Bool->Hp->Prop),Inv X a b H s->tT X W g b H Q ->
  wpAny (model X.prog X.w) X.A (forIn ifs true λc r=>if r=true then do let ok ← isTrue c X.env (eval c X.env);pure (ForInStep.yield ok) else pure (ForInStep.yield r)) (TP X a b Q) X.xe s
def dS:JJ Bool:=λ_ S=>JV true S
theorem dC {X:Cx}{W:WT}:Ui X W [] dS:=by intro a s b H Q I h;rw[forIn_nil];exact wpAny_pure ⟨H,I,on h⟩
theorem gu {X:Cx}{W:WT}{c:Expr}{g:JJ Bool}(d:MH X W c g):Ui X W [c] g:=by intro a s e H Q I h;rw[forIn_cons];simp only[if_true,forIn_nil];refine wpAny_bind (wpAny_bind (Kd (d a s e H Q I h) λb f q=>wpAny_pure ?_));exact wpAny_pure q
noncomputable def Qm {α:Type}(m:Out α):Option (α×JP):=match m with
 |some (.ok a,S)=>some (a,S)
 |_=>none
def bT (u:D->JQ->Option JQ)(gt:JJ Bool)(fe:JJ D):List D->JQ->JP->Option (List D×JP)
 |[],_,S=>some ([],S)
 |d::ds,ρ,S=>(u d ρ).bind λa=>(Qm (gt a S)).bind λ(k,b) =>
  if k=true then (Qm (fe a b)).bind λ(y,f)=>(bT u gt fe ds a f).map λ(c,e)=>(y::c,e)
  else bT u gt fe ds a b
def cz (n:Nat)(ix:List Nat)(b:JJ (List D))(u:D->JQ->Option JQ)(gt:JJ Bool)(fe:JJ D):JJ D:=λa S=>ai (b a S) λd c =>
 match bT u gt fe d (b8 n ix a) c with
 |some (out,S2)=>JV (.lst out) S2
 |none=>none
abbrev W0:WT:=λ_ _ _ _=>False
section
variable {X:Cx}{W:WT}
structure CompEnd (X:Cx) (pins:JM) (σ:St) (J0:List Addr) (H0:Hp) (S2:JP) (out:List D) (a C:Addr) (s':Shared):Prop where
 ns:∃ m,s'.heap.Ns C m
 own:X.s₀.heap.objs.size<=C/\C≠X.env.locals/\(∀ x c,X.env.cells.lookup x=some c->c≠C)/\∀ p∈X.pn++pins,p.1≠C
 fin:∀ h',(∀ b,b≠C->h'.get? b=s'.heap.get? b)->∃ J' H',Inv X pins σ H' { s' with heap:=h' }/\Ex J0 H0 J' H'/\Km X.K J' S2 H'/\At X.K H' J' (.lst out) (.ref a)/\H' C=none
def yh (X':Cx)(l:Nat->Heap->Prop)(fp:List Addr)(a:Addr)(u:D->JQ->Option JQ)(gt:JJ Bool)(fe:JJ D)(ds out:List D)(m:List Addr)(k:Hp)(S2:JP)(n:Nat)(s':Shared):Prop:=
 ∃ (i:Nat) (d:St) (e:Hp) (f:List Addr) (c:JQ) (h:JP) (dn rest:List D) (g:List V) (j:List Value) (ep:Nat),
  n=ds.length-i+1/\i<=ds.length/\Inv X' [] d e s'/\l i s'.heap/\(∀ b∈a::fp,e b=none)/\Ex m k f e/\Cf X' f c h d e /\
  s'.heap.get? a=some { cls:=.type "list",data:=.seq j.toArray ep }/\Vals g j/\JW X'.K e f dn g/\dn.length<=i/\bT u gt fe (ds.drop i) c h=some (rest,S2)/\out=dn++rest
theorem AB {X':Cx}{tg elt:Expr}{ifs:List Expr}{u:D->JQ->Option JQ}{gt:JJ Bool}{fe:JJ D}{it a:Addr}{fp:List Addr}{tn:Nat->Heap->Prop}{Jt:It}{ds out:List D}{W:List Addr}{X:Hp}{S2:JP}{R:Result->Shared->Prop}
  (hx:X'.xe=λ_ _=>False) (hc:X'.calm=true) (sg:SG X' tg u) (st:Ui X' W0 ifs gt) (se:SE X' W0 elt fe) (T:Turn X'.prog X'.w X'.K tg Jt fp it tn) (wk:Walk X' Jt ds W X) (na:a∉fp) (hz:ds.length<=sizeLine)
  (fin:∀ (LI:JM) (H':Hp) (b:Addr),b∈a::fp->H' b=none->(∀ p∈LI,p.1≠b)->jx X' LI H' b)
  (We:∀ (s':Shared) (j:St) (H':Hp) (B:List Addr) (E:JQ) (ys:List V) (us:List Value) (ep:Nat),Inv X' [] j H' s'->Ex W X B H'->Cf X' B E S2 j H'->H' a=none->s'.heap.get? a=some { cls:=.type "list",data:=.seq us.toArray ep }->Vals ys us->JW X'.K H' B out ys->ys.length<=sizeLine->R (.ok .next) s') :
  ∀ n s,yh X' tn fp a u gt fe ds out W X S2 n s->wpAny (model X'.prog X'.w) X'.A (pyNext (.ref it)) (λr N=>match r with
   |none=>R (.ok .next) N
   |some v=>wpAny (model X'.prog X'.w) X'.A (letOwnedTupleGo tg (.ref it) v) (λ_ Pd=>wpAny (model X'.prog X'.w) X'.A (assign tg X'.env v) (λ_ s₂ =>
     wpAny (model X'.prog X'.w) X'.A (forIn ifs true λc r=>if r=true then do let ok ← isTrue c X'.env (eval c X'.env);pure (ForInStep.yield ok) else pure (ForInStep.yield r)) (λok O =>
      if ok=true then wpAny (model X'.prog X'.w) X'.A (eval elt X'.env) (λx s₄ =>
       wpAny (model X'.prog X'.w) X'.A (call (.builtin "list.append") [.ref a,x]) (λ_ Z => ∃ m,m<n/\yh X' tn fp a u gt fe ds out W X S2 m Z) (λ_ _=>False) s₄) (λ_ _=>False) O
      else ∃ m,m<n/\yh X' tn fp a u gt fe ds out W X S2 m O) (λ_ _=>False) s₂) (λ_ _=>False) Pd) (λ_ _=>False) N) (λ_ _=>False) s:=by
 rintro n s ⟨i,j,H',B,E,Sx,dn,rest,ys,us,ep,hn,hi,I',XM,fr,ex,cx,ga,vs,ad,dl,l,eo⟩;have fa:=fin [] H' a (mem_cons_self ..) (fr a (mem_cons_self ..)) (λp H=>by simp at H)
 have I1:Inv X' [(a,{ cls:=.type "list",data:=.seq us.toArray ep })] j H' s:=I'.Md λp H=>by
  have:p=(a,{ cls:=.type "list",data:=.seq us.toArray ep }):=by simpa using H
  subst this;exact⟨ga,fa.1,fa.2.1,fa.2.2.1,λv z=>by cases z⟩
 have Wg:∀ H1:Hp,(∀ b∈fp,H1 b=none)->∀ b∈fp,jx X' [(a,{ cls:=.type "list",data:=.seq us.toArray ep })] H1 b:=λH1 hn b hb=>fin _ H1 b (mem_cons_of_mem _ hb) (hn b hb) λp H=>by
  have:p=(a,{ cls:=.type "list",data:=.seq us.toArray ep }):=by simpa using H
  subst this;intro z;have z':a=b:=z;exact na (z'▸hb)
 by_cases Lc:i<ds.length
 ·refine Kd (T.item X' rfl rfl rfl hc i _ s j H' (λ_ _=>False) I1 (Wg H' λb hb=>fr b (mem_cons_of_mem _ hb)) XM (wk.go B H' i ex Lc)) λr s1 G=>?_;obtain⟨v,er,h1⟩:=G;subst er;refine Kd h1 λ_ s5 G=>?_;obtain⟨x,U,I5,r5,y5,Wh,VU⟩:=G;obtain⟨d,ed,Zu,sm⟩:=wk.O9 B H' i x U ex cx.Kr.all Lc y5;have x5:Ex B H' B U:=Ex.same sm;have c5:Cf X' B E Sx j U:=cx.re x5 (cx.Kr.same sm);have hd:ds.drop i=d::ds.drop (i+1):=by rw[List.drop_eq_getElem_cons Lc];rw[List.getElem?_eq_getElem Lc] at ed;cases ed;rfl
  rw[hd,bT] at l;obtain⟨h,eu,l⟩:=bind_eq_some_iff.mp l;obtain⟨⟨k,Y⟩,eg,l⟩:=bind_eq_some_iff.mp l
  have Zv:gt h Sx=some (.ok k,Y):=by
   unfold Qm at eg;split at eg
   ·rename_i q;cases eg;exact q
   cases eg
  have VV:=I5.pinned (Wg U VU) (T.obj _ _ Wh)
  have keep:∀ {f:St}{C:Hp}{I:Shared},Inv X' ([(a,{ cls:=.type "list",data:=.seq us.toArray ep })]++mB fp s5.heap) f C I->tn (i+1) I.heap/\(∀ b∈a::fp,C b=none)/\I.heap.get? a=some { cls:=.type "list",data:=.seq us.toArray ep }:=λ{f C I} S=>by
   have pa:=S.pin (a,{ cls:=.type "list",data:=.seq us.toArray ep }) (mem_append_right _ (mem_append_left _ (by simp)));refine⟨T.keep _ _ _ Wh λb hb o e=>(S.pin (b,o) (mem_append_right _ (mem_append_right _ (iu hb e)))).1,λb hb=>?_,pa.1⟩;rcases mem_cons.mp hb with rfl |hb
   ·exact pa.2.1
   obtain⟨o,e,_⟩:=T.obj _ _ Wh b hb;exact(S.pin (b,o) (mem_append_right _ (mem_append_right _ (iu hb e)))).2.1
  have XN:∀ {f:St}{C:Hp}{I:Shared},Inv X' ([(a,{ cls:=.type "list",data:=.seq us.toArray ep })]++mB fp s5.heap) f C I->Inv X' [] f C I:=λ{f C I} S=>S.Md λp H=>absurd H (by simp);have g:=sg _ s5 j U x v (λf C=>C=U/\Cf X' B h Sx f C) VV r5 ⟨B,E,Sx,d,h,c5,Zu,eu,λf c6=>⟨rfl,c6⟩⟩;rw[hx] at g;refine Kd g λ_ I G=>?_;obtain⟨f,C,S,eH,c6⟩:=G;subst eH
  have t:=st _ I f C (λb L=>b=k/\∃ J,Ex B C J L/\Cf X' J h Y f L) S ⟨B,h,Sx,.ok k,Y,c6,.nil,Zv,λJ L b x7 s7 eb=>by
   cases eb
   exact⟨rfl,J,x7,c6.re x7 s7⟩⟩
  rw[hx] at t;refine Kd t λb s7 G=>?_;obtain⟨L,I7,eb,J,x7,c7⟩:=G;subst eb;have XO:Ex W X J L:=ex.trans (x5.trans x7);have XQ:JW X'.K L J dn ys:=(ad.ex x5).ex x7;cases b with
  |false =>
   rw[if_neg (by decide)];simp only[false_eq_true,if_false] at l;obtain⟨t8,Vs,g8⟩:=keep I7;exact⟨ds.length-(i+1)+1,by omega,i+1,f,L,J,h,Y,dn,rest,ys,us,ep,rfl,by omega,XN I7,t8,Vs,XO,c7,g8,vs,XQ,by omega,l,eo⟩
  |true =>
   rw[if_pos rfl];simp only[if_true] at l;obtain⟨⟨y,Sy⟩,ey,l⟩:=bind_eq_some_iff.mp l;obtain⟨⟨ry,S3⟩,ey2,l⟩:=map_eq_some_iff.mp l
   have Zw:fe h Y=some (.ok y,Sy):=by
    unfold Qm at ey;split at ey
    ·rename_i q;cases ey;exact q
    cases ey
   simp only[Prod.mk.injEq] at l;obtain⟨er,es⟩:=l;subst es er;have t:=se _ s7 f L (λw M => ∃ P,Ex J L P M/\Cf X' P h Sy f M/\At X'.K M P y w) I7 ⟨J,h,Y,.ok y,Sy,c7,.nil,Zw,λP M w x8 Q aw=>⟨P,x8,c7.re x8 Q,aw⟩⟩;rw[hx] at t;refine Kd t λw Q G=>?_;obtain⟨vw,M,I8,Zx,P,x8,c8,aw⟩:=G;obtain⟨t8,Vs,g8⟩:=keep I8;have XR:JW X'.K M P dn ys:=XQ.ex x8;have l1:=XR.length;have l2:=vs.length;refine call_meets F.slot_list_append ⟨_,g8,rfl⟩ F.entry_list_append (F.args_list_append_2 _ _) (PySem.list_append a us.toArray ep w (by rw[size_toArray];omega)) ⟨g8,?_⟩;have Wi:=PySem.IsL.update g8 (·.push w);have Uj:=fin [] M a (mem_cons_self ..) (Vs a (mem_cons_self ..)) (λp H=>by simp at H);have I9:Inv X' [] f M { Q with heap:=Q.heap.update a (Obj.mapSeq (·.push w)),toks:=Q.toks }:=(XN I8).turned (it:=a) (λb o hb e=>(Heap.get?_update_other Q.heap (Obj.mapSeq (·.push w)) (Ne.symm hb)).trans e) Uj.1 Uj.2.1 Uj.2.2.2.1 Uj.2.2.2.2.1 Uj.2.2.2.2.2;refine⟨ds.length-(i+1)+1,by omega,i+1,f,M,P,h,Sy,dn++[y],ry,ys++[vw],us++[w],_,rfl,by omega,I9,?_,Vs,XO.trans x8,c8,by simpa using Wi,vs.append (.cons Zx .nil),XR.append (.cons aw .nil),by rw[List.length_append,length_singleton];omega,ey2,by rw[eo];simp⟩;exact T.keep _ _ _ t8 λb hb o e=>(Heap.get?_update_other Q.heap (Obj.mapSeq (·.push w)) (λz:a=b=>na (by rw[z];exact hb))).trans e
 refine Kd (T.done X' rfl rfl rfl hc i _ s j H' (λ_ _=>False) I1 (Wg H' λb hb=>fr b (mem_cons_of_mem _ hb)) XM (wk.stop B H' i ex (by omega))) λr s1 G=>?_;obtain⟨er,J1⟩:=G;subst er;rw[drop_eq_nil_of_le (by omega),bT] at l;cases l;rw[append_nil] at eo;subst eo;have l1:=ad.length;have pa:=J1.pin (a,{ cls:=.type "list",data:=.seq us.toArray ep }) (mem_append_right _ (by simp));exact We s1 j H' B E ys us ep (J1.Md λp H=>absurd H (by simp)) ex cx pa.2.1 pa.1 vs ad (by omega)
theorem rP {U iter elt:Expr}{ifs:List Expr}{scope:Scope}{pos:Pos}{u:D->JQ->Option JQ}{gt:JJ Bool}{fe:JJ D}{ts:List Str}{ix:List Nat}{n:List (Str×Addr)}
  {g:JM}{r:St}{l:Shared}{E:JL}{it:Addr}{fp:List Addr}{tn:Nat->Heap->Prop}{Jt:It}{j:Hp}{s:List Addr}{ρ:JQ}{V S2:JP}{ds out:List D}{S:Value->Addr->Result->Shared->Prop}
  (hc:X.calm=true) (Sc:Mj scope X.env) (h1:∀ x c,n.lookup x=some c->X.env.cells.lookup x=some c) (h2:∀ y∈scope.names,y.2 = .free->∃ c,n.lookup y.1=some c) (OV:∀ t∈ix,scope.names.lookup (X.N.getD t Str.empty)=some .free)
  (P4:∀ C f H3 fp,SG (mM X scope n (j2 ts ix X.N) C f H3 fp) U u/\Ui (mM X scope n (j2 ts ix X.N) C f H3 fp) W0 ifs gt/\SE (mM X scope n (j2 ts ix X.N) C f H3 fp) W0 elt fe)
  (I2:Inv X g r j l) (T:Turn X.prog X.w X.K U Jt fp it tn) (t0:tn 0 l.heap) (f2:∀ b∈fp,jx X g j b) (c2:Cf X s ρ V r j) (M:Walk X Jt ds s j)
  (ec:bT u gt fe ds (b8 ts.length ix ρ) V=some (out,S2))
  (Zy:∀ a C s',CompEnd X g r s j S2 out a C s'->S (.ref a) C (.ok .next) s') :
  wpAny (model X.prog X.w) X.A (newList []) (λI J=>wpAny (model X.prog X.w) X.A (newFunctionEnv scope X.env.globals n [] X.env.qual none .none (some X.env)) (λUk O =>
   codeAny (model X.prog X.w) X.A (.compStart (.ListComp elt [⟨U,iter,ifs,0⟩] scope pos) 0 (.ref it) I { Uk with scope:=relabel scope X.env }) (S I Uk.locals) O) E J) E l:=by
 refine wpAny_newObj_type (wpAny_newFunctionEnv Sc.OU (by intro y hy;simp at hy) (λQ Wj Sn=>?_) Sc.kind);dsimp only at Wj Sn ⊢;generalize G:l.heap.objs.size=a at *
 have W:∀ b o,l.heap.get? b=some o->(l.heap.push { cls:=.type "list",dict:=none,data:=.seq ([]:List Value).toArray }).get? b=some o:=λb o e=>Heap.get?_push_of_some _ e;obtain⟨f,Z⟩:∃ f:Shared,f={ l with heap:=l.heap.push { cls:=.type "list",dict:=none,data:=.seq ([]:List Value).toArray } }:=⟨_,rfl⟩;have H:Inv X g r j f:=by rw[Z];exact I2.kept (t':=l.toks) W
 have B:f.heap=l.heap.push { cls:=.type "list",dict:=none,data:=.seq ([]:List Value).toArray }:=by rw[Z]
 have Ul:f.heap.objs.size=a+1:=by rw[B,Heap.size_push,G]
 rw[← B] at Wj Sn;have a3:f.heap.get? a=some { cls:=.type "list",data:=.seq ([]:List Value).toArray }:=by rw[B,← G];exact Heap.get?_push_size _ rfl
 have fa:jx X g j a:=I2.M4 (by rw[G];exact le_refl _) (by rw[← G];exact I2.fresh);have Um:∀ b∈fp,∃ o,l.heap.get? b=some o:=λb hb=>let ⟨o,e,_⟩:=T.obj 0 _ t0 b hb;⟨o,e⟩;have na:a∉fp:=λhb=>by obtain⟨o,e⟩:=Um a hb;have:=Heap.lt_size e;rw[G] at this;exact absurd this (Nat.lt_irrefl _)
 have F:∀ b∈a::fp,jx X g j b:=λb hb=>by
  rcases mem_cons.mp hb with rfl |hb
  ·exact fa
  exact f2 b hb
 have fo:∀ b∈a::fp,∃ o,f.heap.get? b=some o:=λb hb=>by
  rcases mem_cons.mp hb with rfl |hb
  ·exact⟨_,a3⟩
  obtain⟨o,e⟩:=Um b hb;exact⟨o,by rw[B];exact W b o e⟩
 have Y:∀ b o,f.heap.get? b=some o->Q.get? b=some o:=λb o e=>Sn.extBut b o (ne_of_lt (Heap.lt_size e)) (Heap.get?_push_of_some _ e);have toks:∀ t,Inv (mM X scope n (j2 ts ix X.N) f.heap.objs.size f j (a::fp)) [] (b8 ts.length ix r) j { f with heap:=Q,toks:=t }:=λt=>H.enter Sc h1 h2 OV F fo Y Wj;obtain⟨sg,st,se⟩:=P4 f.heap.objs.size f j (a::fp)
 have fin:∀ (LI:JM) (H':Hp) (b:Addr),b∈a::fp->H' b=none->(∀ p∈LI,p.1≠b)->jx (mM X scope n (j2 ts ix X.N) f.heap.objs.size f j (a::fp)) LI H' b:=λLI H' b hb hn hp=>by
  refine⟨hn,?_,λz=>?_,.inl hb,λx c e=>(F b hb).2.2.2.2.1 x c (h1 x c e),λp hq=>hp p hq⟩
  ·obtain⟨o,e⟩:=fo b hb;exact ne_of_lt (Heap.lt_size e)
  obtain⟨_,f1,Zz,_⟩:=F b hb;rcases mem_cons.mp (H.NW b z) with q |q
  ·exact f1 q
  exact Zz q
 have own:X.s₀.heap.objs.size<=f.heap.objs.size/\f.heap.objs.size≠X.env.locals/\(∀ x c,X.env.cells.lookup x=some c->c≠f.heap.objs.size)/\∀ p∈X.pn++g,p.1≠f.heap.objs.size:=by obtain⟨_,g1,g2,g3,g4,g5⟩:=H.M4 (H':=λ_=>none) (le_refl f.heap.objs.size) rfl;exact⟨H.sz,g1,g4,g5⟩
 have c3:Cf (mM X scope n (j2 ts ix X.N) f.heap.objs.size f j (a::fp)) s (b8 ts.length ix ρ) V (b8 ts.length ix r) j:=by
  refine⟨by unfold b8;simp,λi d h=>?_,c2.Kr⟩;unfold b8 at h ⊢;by_cases hi:i<ts.length
  ·rw[getElem?_append_left (by simpa using hi),getElem?_replicate,if_pos hi] at h;cases h
  rw[getElem?_append_right (by simpa using hi),length_replicate,getElem?_map] at h ⊢;cases et:ix[i-ts.length]? with
  |none=>rw[et] at h;cases h
  |some t =>
   rw[et] at h;simp only[map_some,Option.some.injEq] at h ⊢
   have hr : ρ[t]?=some (some d):=by
    cases q : ρ[t]? with
    |none=>rw[q] at h;cases h
    |some w=>rw[q] at h;simp only[getD_some] at h;rw[h]
   obtain⟨v,e1,e2⟩:=c2.env t d hr;exact⟨v,by rw[e1];rfl,e2⟩
 have w3:Walk (mM X scope n (j2 ts ix X.N) f.heap.objs.size f j (a::fp)) Jt ds s j:=⟨M.len,M.go,M.O9,M.stop⟩
 have P:∀ t,codeAny (model X.prog X.w) X.A (.compLoop (.ListComp elt [⟨U,iter,ifs,0⟩] scope pos) 0 (.ref it) (.ref a) (compEnvC scope n f.heap.objs.size X.env)) (S (.ref a) f.heap.objs.size) { f with heap:=Q,toks:=t }:=by
  intro t;refine ue _ (AB (R:=S (.ref a) f.heap.objs.size) (S2:=S2) (out:=out) (X':=mM X scope n (j2 ts ix X.N) f.heap.objs.size f j (a::fp)) rfl hc sg st se T w3 na M.len fin ?_) (ds.length+1) ?_
  ·intro s' σ' H' Jx ρx ys us ep I' ex cx ha ga vs ad lz;refine Zy a f.heap.objs.size s' ⟨let ⟨m,hm,_⟩:=I'.loc;⟨m,hm⟩,own,λh' k=>?_⟩;have I4:=H.leave F I' k;have Wi:h'.get? a=some { cls:=.type "list",data:=.seq us.toArray ep }:=by rw[k a (by rw[Ul];exact ne_of_lt (lt_succ_self _))];exact ga
   have ZC:jx X g H' a:=⟨ha,fa.2⟩;have I5:=I4.adopt ZC Wi vs lz;have sm:J6 H' (upd H' a (.lst ys)):=aQ ha _;have hC:H' f.heap.objs.size=none:=I'.free;refine⟨Jx,_,I5,ex.trans (Ex.same sm),cx.Kr.same sm,At.Lj ad ha cx.Kr.all lz,?_⟩;rw[aJ (by rw[Ul];exact ne_of_gt (lt_succ_self _))];exact hC
  refine⟨0,_,j,s,b8 ts.length ix ρ,V,[],out,[],[],0,rfl,zero_le _,toks t,?_,λb hb=>(F b hb).1,Ex.refl,c3,Y a _ a3,.nil,.nil,le_refl _,by simpa using ec,rfl⟩;exact T.keep 0 _ _ t0 λb hb o e=>Y b o (by rw[B];exact W b o e)
 have L:=P (l.toks+([]:List (Str×Value)).length);have t4:tn 0 Q:=T.keep 0 _ _ t0 λb hb o e=>Y b o (by rw[B];exact W b o e);rw[Z] at L;exact codeAny_compStart_list L (T.self _ 0 _ _ _ t4 L)
def HN (X:Cx)(scope:Scope)(ts:List Str)(ix:List Nat)(d:Expr)(ifs:List Expr)(elt:Expr)(u:D->JQ->Option JQ)(gt:JJ Bool)(fe:JJ D):Prop:=
 ∀ (b:List (Str×Addr)) (C:Addr) (a:Shared) (c:Hp) (fp:List Addr),SG (mM X scope b (j2 ts ix X.N) C a c fp) d u/\Ui (mM X scope b (j2 ts ix X.N) C a c fp) W0 ifs gt/\SE (mM X scope b (j2 ts ix X.N) C a c fp) W0 elt fe
theorem pV {scope:Scope}{a:JM}{h:St}{H:Hp}{s:Shared}(I:Inv X a h H s)(Sc:Mj scope X.env):∃ b,closureFor scope X.env=pure b/\(∀ x c,b.lookup x=some c->X.env.cells.lookup x=some c)/\(∀ y∈scope.names,y.2 = .free->∃ c,b.lookup y.1=some c):=by obtain⟨b,e,f,_,i⟩:=fj (env:=X.env) scope.names [] (λy d g=>I.ok.has y.1 (Sc.frees y d g)) (by simp);refine⟨b,?_,f,i⟩;unfold closureFor;exact(congrArg (λ(m:Sem (List (Str×Addr)))=>m >>= λr=>(pure r:Sem (List (Str×Addr)))) e).trans rfl
theorem rN {i:JJ (List D)}{u:D->JQ->Option JQ}{gt:JJ Bool}{fe:JJ D}{n:Nat}{ix:List Nat}{g:St}{H:Hp}{Q:VK}(h:tE X W (cz n ix i u gt fe) g H Q) :
  iW X W i g H λk f => ∃ b ρ a S2 ds out,Cf X b ρ a g f/\Walk X k ds b f/\bT u gt fe ds (b8 n ix ρ) a=some (out,S2)/\∀ d H' v,Ex b f d H'->Km X.K d S2 H'->At X.K H' d (.lst out) v->Q v H':=by
 obtain⟨J,ρ,S,r,A,c,_,e,z⟩:=h;unfold cz at e;cases q:i ρ S with
 |none=>simp[q] at e
 |some o =>
  obtain⟨l,a⟩:=o;simp only[q] at e;cases l with
  |error x =>
   cases e;exact⟨J,ρ,S,.error x,_,c,q,z⟩
  |ok ds =>
   simp only[kU] at e;cases qc:bT u gt fe ds (b8 n ix ρ) a with
   |none=>rw[qc] at e;cases e
   |some p =>
    obtain⟨out,S2⟩:=p;rw[qc] at e;cases e;exact⟨J,ρ,S,.ok ds,a,c,q,λb f k j y w=>⟨b,ρ,a,_,ds,out,c.re j y,w,qc,λd H' v t m s=>z d H' v (j.trans t) m s⟩⟩
theorem bR {d iter elt:Expr}{ifs:List Expr}{scope:Scope}{pos:Pos}{i:JJ (List D)}{u:D->JQ->Option JQ}{gt:JJ Bool}{fe:JJ D}{ts:List Str}{ix:List Nat}
  (r:X.calm=true) (Sc:Mj scope X.env) (k:∀ t∈ix,scope.names.lookup (X.N.getD t Str.empty)=some .free) (o:SI X W d iter i) (L:HN X scope ts ix d ifs elt u gt fe)
  (M:∀ x,foldedSetIterable iter X.env x=pure x:=by intro _;rfl):SE X W (.ListComp elt [⟨d,iter,ifs,0⟩] scope pos) (cz ts.length ix i u gt fe):=by
 intro c s B H Q I h;obtain⟨Y,l,p,n⟩:=pV I Sc;rw[eval_ListComp];refine wpAny_comprehension_free (use:=none) rfl M l Sc.kind Sc.names ?_;refine Kd (o c s B H _ I (rN h)) λv s1 E=>Kd E λVg s2 P=>?_;obtain⟨it,fp,tn,Jt,H2,e,O,T,K,V,J0,ρ,S1,S2,ds,out,y,R,J,fin⟩:=P;subst e;refine rP r Sc p n k (λC w Z fp=>L Y C w Z fp) O T K V y R J λa C g f=>?_;obtain⟨m,q⟩:=f.ns;refine⟨m,q,λA sb=>?_⟩;obtain⟨S,j,U,G,g,z,_⟩:=f.fin A λb F=>sb.2 b F;exact⟨.ref a,j,U,rfl,fin S j _ G g z⟩
end
section
variable {X:Cx}{W:WT}
theorem oT {g iter elt:Expr}{ifs:List Expr}{scope:Scope}{pos p j:Pos}{w:JJ (List D)}{u:D->JQ->Option JQ}{gt:JJ Bool}{fe:JJ D}{ts:List Str}{ix:List Nat}{i:Nat}{y:Str}
  (hN:X.N.Nodup) (hc:X.calm=true) (Sc:Mj scope X.env) (Z:∀ t∈ix,scope.names.lookup (X.N.getD t Str.empty)=some .free) (hi:SI X W g iter w) (P:HN X scope ts ix g ifs elt u gt fe)
  (Y:X.N[i]?=some y:=by rfl) (hx:Loc X.env.scope y:=by first |exact Or.inl rfl |exact Or.inr rfl) (G:swapsWith (.ListComp elt [⟨g,iter,ifs,0⟩] scope pos) (some (.Name y j)) p.line X.env=pure true:=by rfl)
  (hf:X.fn y=true∨X.env.scope.names.lookup y=some .local:=by first |exact .inl rfl |exact .inr rfl |assumption)
  (R:∀ x,foldedSetIterable iter X.env x=pure x:=by intro _;rfl):SS X W (.Assign [.Name y j] (.ListComp elt [⟨g,iter,ifs,0⟩] scope pos) p) (bt i (cz ts.length ix w u gt fe)):=by
 intro c s n H E I h;obtain⟨cl,Tv,h1,h2⟩:=pV I Sc;have h:=tS.J5 h;rw[exec_Assign_Name_used _ _ _ _ G];refine wpAny_bind (wpAny_standAt (wpAny_bind ?_));show wpAny _ X.A (do let _ ← comprehension (.ListComp elt [⟨g,iter,ifs,0⟩] scope pos) scope X.env _ (newList []) false (eval iter X.env) (some (assign (.Name y j) X.env))) _ _ s;refine wpAny_bind (wpAny_mono (wpAny_comprehension_free (use:=some (assign (.Name y j) X.env)) (Q:=λ_ d=>SP X c E .next d) rfl R Tv Sc.kind Sc.names ?_) (λ_ d hq=>wpAny_pure (wpAny_pure hq)) λ_ _ e=>e);refine Kd (hi c s n H _ I (rN h)) λv s1 P5=>Kd P5 λVg s2 S=>?_;obtain⟨it,fp,tn,Jt,H2,e,I2,T,M,f2,J0,ρ,S1,S2,ds,out,c2,wk,L,fin⟩:=S;subst e;refine rP hc Sc h1 h2 Z (λC k H3 fp=>P cl C k H3 fp) I2 T M f2 c2 wk L λa C d l=>?_;obtain⟨m,O⟩:=l.ns;obtain⟨o1,o2,r,K⟩:=l.own;obtain⟨J',f,V,x',JX,m',hC⟩:=l.fin d.heap λ_ _=>rfl;have ZE:Inv X c n f d:=V;have q:=fin J' f _ x' JX m';show wpAny _ X.A (assign (.Name y j) X.env (.ref a)) _ _ d;refine wpAny_assign_Name (qH ZE hN Y hx (v:=.ref a) rfl (λk I3 Zq=>?_) hf);obtain⟨ad,sb,hd⟩:=Zq
 have ZF:C≠ad:=by
  rcases hd with z |z
  ·rw[z];exact o2
  exact(r y ad z).symm
 refine⟨m,O.sameBut sb ZF,λh' ZG=>?_⟩;have I4:Inv X c (n.set i (some (.ref a))) f { k with heap:=h' }:=I3.turned (t':=k.toks) (it:=C) (λb o J e=>(ZG.2 b J).trans e) hC o2 (.inr o1) r K;obtain⟨Jq,ρq,Sq,dq,rq,U,B,F,eq,zq⟩:=q;cases eq;exact⟨_,f,I4,zq Jq _ f Ex.refl (B.set F)⟩
def Tw (K:JK)(F:JO):Sp:=λf H Q _ => ∃ J S e d c,JW K H J e f/\Km K J S H/\F e S=some (.ok d,c)/\∀ b a v,Ex J H b a->Km K b c a->At K a b d v->Q v a
def P6 (P:Program)(w:World)(K:JK)(mg:JN)(base:Heap)(k:Nat)(f:Addr)(fd:FuncData)(a:List Str)(F:JO):Prop:=
 LG P w K mg base OP k f fd a (Tw K F)
def hW (m:Out D):Out D:=match m with
 |some (.ok d,S)=>some (.ok d,S)
 |_=>none
def aR (F:JO)(t:JJ (List D)):JJ D:=λa S=>ai (t a S) λc b=>hW (F c b)
variable {x:Str}{p pos:Pos}{e:Expr}{es:List Expr}{gs:JJ (List D)}
theorem CD {F:JO}{b:St}{H:Hp}{Q:VK}{l:XK}(h:tE X W (aR F gs) b H Q):EK (Tw X.K F) [] l (tA X W gs) b H Q:=
 (tG.L1 h).mono λu s g=>by
  obtain⟨f,x,a⟩:=g
  rw[append_nil,append_nil] at a;obtain⟨J,t,S,r,n,c,m,e,z⟩:=a;have e:hW (F f S)=some (r,n):=e;unfold hW at e;split at e
  ·rename_i d w q;cases e;exact⟨J,S,f,d,_,by rw[append_nil];exact m,c.Kr,q,λp o v k i j=>z p o v k i j⟩
  cases e
theorem Dx {k:Nat}{f:Addr}{fd:FuncData}{a:List Str}{F:JO}(G:P6 X.prog X.w X.K X.mg X.base k f fd a F)(l:Kn k X.A)(n:X.mg x=some (.ref f))(b:PySem.W.keepIn X.K (.ref f)=true)(j:Binds X.K fd a [])
  (i:SA X W (e::es) gs) (m:Gl X x:=by rfl) (d:(x==("__debug__":Str))=false:=by decide) (g:starEach (e::es) X.env=(false,eval e X.env)::starEach es X.env:=by rfl) (c:(backTo pos (starEach es X.env)).any (·.1)=false:=by rfl) :
  SE X W (.Call (.Name x p) (e::es) [] pos) (aR F gs):=
 PE.imp (DP (E:=E0) G l m n b j .nil yJ i d g c) λo H Q h=>CD h
theorem y8 {P:Program}{w:World}{K:JK}{mg:JN}{base:Heap}{x qual:Str}{st:Stmt}{f:Addr}{fd:FuncData}{N l:List Str}{k:Nat}{F:JO}(C:Oi K x qual st f fd)(S:JR N l (au st))
  (len:∀ ds S r,F ds S=some r->ds.length=l.length)
  (R:∀ (b:Value) (A:Around) (outer:List Env) (s:Shared) (H:Hp) (E:XK),Kn k (A.deeper (envOfC qual (au st) s.heap.objs.size f b)) ->
   ∃ G:JJ Fl,OT (mL OP P w K mg base N qual (au st) f b A outer s H E).Qg W0 (bO st) G /\
    ∀ ds S d a,F ds S=some (.ok d,a)->∃ r,G (ds.map some++replicate (N.length-ds.length) none) S=some (.ok r,a)/\(r = .ret d∨(d = .Kk/\∃ ρ,r = .next ρ))) :
  P6 P w K mg base (k+1) f fd l F:=by
 refine C.ok S (λI H Q E h=>?_) (λb A outer s H I Q E B h=>?_)
 ·obtain⟨J,St,ds,d,a,m,_,e,_⟩:=h;rw[← m.length];exact len ds St _ e
 obtain⟨J,St,ds,d,a,m,so,e,z⟩:=h;obtain⟨G,t,o⟩:=R b A outer s H E B;obtain⟨r,O,u⟩:=o ds St d a e;refine⟨_,t,J,_,St,.ok r,a,⟨?_,λi U hd=>?_,so⟩,O,?_⟩
 ·unfold start;rw[List.length_append,List.length_append,length_map,length_map,m.length];simp
 ·by_cases c:i<ds.length
  ·rw[getElem?_append_left (by simpa using c),getElem?_map] at hd;cases q:ds[i]? with
   |none=>rw[q] at hd;cases hd
   |some T =>
    rw[q] at hd;cases hd;obtain⟨v,ev,L⟩:=m.get q;refine⟨v,?_,L⟩;unfold start;rw[getElem?_append_left (by rw[length_map,← m.length];exact c),getElem?_map,ev];rfl
  rw[getElem?_append_right (by simpa using c),getElem?_replicate] at hd;split at hd<;>cases hd
 rcases u with rfl |⟨rfl,ρ,rfl⟩
 ·exact λn j v g p M=>z n j v g p M
 exact λn y j g D=>z n j _ g D.Kr (At.Ld.mpr rfl)
end
section
variable {X:Cx}{W:WT}
def Vt (x:Str):It:=⟨λi _=>i<x.cps.size,λi H v a=>a=H/\∃ c,x.cps[i]?=some c/\v = .str ⟨#[c]⟩,λi _=>x.cps.size<=i⟩
theorem uO {P:Program}{w:World}{K:JK}{W:Expr}{it:Addr}{x:Str}{St:Nat->Heap->Prop}
  (R:∀ (A:Around) (i:Nat) (s:Shared) (Q:JL) (E:JL),St i s.heap->Q (.ref it) s->wpAny (model P w) A (pyIter (.ref it)) Q E s) (p:∀ G:Around,G.handled=none->Walks P w G it [it] [it] x.cps.size (SignAt x) St) (M:∀ i h,St i h->∃ o n vs,h.get? it=some o/\o.cls = .type n/\o.data = .fields vs/\["enumerate","zip","dict_itemiterator","dict_reverseitemiterator","odict_iterator","itertools.zip_longest","itertools.pairwise"].contains n=false) :
  Turn P w K W (Vt x) [it] it (λi h=>i<=x.cps.size/\St i h) where
 mem:=by simp
 obj:=λi h st b a=>by
  have e:b=it:=by simpa using a
  subst e;obtain⟨o,n,vs,e,_,d,_⟩:=M i h st.2;exact⟨o,e,λv z=>by rw[d] at z;cases z⟩
 keep:=λi h g st k=>⟨st.1,(p callerA rfl).frame i h g st.2 λb a o e=>k b a o e⟩
 item:=by
  intro X C y B q i f s L H E I j st l;subst C y B;obtain⟨D,F,Y,t,m,r⟩:=j it (by simp);refine(p X.A (I.ok.hd q)).item i s _ _ l st.2 λv g tk T J k=>?_;obtain⟨c,u,V,ev⟩:=T;subst ev;have U:Inv X f L H { s with heap:=g,toks:=tk }:=I.turned (t':=tk) (λb o a e=>k b o (by simpa using a) e) D F t m r;obtain⟨o,n,vs,e,S,d,N⟩:=M _ _ J;exact⟨_,rfl,yY (s:={ s with heap:=g,toks:=tk }) e S d N ⟨.str ⟨#[c]⟩,H,U,⟨u,rfl⟩,⟨rfl,c,V,rfl⟩,⟨l,J⟩,λb a=>(j b a).1⟩⟩
 done:=by
  intro X C y B q i f s L H E I j st l;subst C y B;obtain⟨D,F,Y,t,m,r⟩:=j it (by simp);have O:i=x.cps.size:=Nat.le_antisymm st.1 l;subst O;exact(p X.A (I.ok.hd q)).done s _ _ st.2 λg tk k=>⟨rfl,I.turned (t':=tk) (λb o a e=>k b o (by simpa using a) e) D F t m r⟩
 self:=λA i s Q E st h=>R A i s Q E st.2 h
theorem Walk.str {x:Str}{J:List Addr}{H:Hp}(ok:Rx x):Walk X (Vt x) (x.cps.toList.map λc=>D.str ⟨#[c]⟩) J H where
 len:=by rw[length_map,length_toList];exact ok.1
 go:=λe b i _ a=>by rw[length_map,length_toList] at a;exact a
 O9:=λe b i v h _ g a y=>by
  obtain⟨rfl,c,f,rfl⟩:=y;rw[length_map,length_toList] at a;have d:x.cps.toList[i]?=some c:=by simpa using f
  refine⟨.str ⟨#[c]⟩,by rw[getElem?_map,d];rfl,At.J9.mpr ⟨rfl,by show 1<=sizeLine;decide,oS (l:=[c]) λj m=>?_⟩,J6.refl _⟩;rw[mem_singleton.mp m];exact ml ok.2 (mem_of_getElem? d)
 stop:=λe b i _ a=>by rw[length_map,length_toList] at a;exact a
def Fk:D->Option (List D)
 | .str x=>some (x.cps.toList.map λc=>D.str ⟨#[c]⟩)
 |_=>none
def CL (f:JJ D):JJ (List D):=λa S=>ai (f a S) λd b=>aP (Fk d) b
variable {e:Expr}{fe:JJ D}{pos:Pos}
theorem Fo {D:Expr}(w:SE X W e fe):SI X W D e (CL fe):=by
 intro c s B H R I h;refine Kd (w c s B H _ I (tO h)) λv a p=>?_;obtain⟨y,f,g,F,J,S,d,G,so,m,n,z⟩:=p;cases d with
 |str x =>
  cases n;obtain⟨u,ok⟩:=At.J9.mp m;subst u;obtain⟨t,rfl⟩:=F
  have fp:∀ b∈[a.heap.objs.size],jx X c f b:=λb C=>by
   have e:b=a.heap.objs.size:=by simpa using C
   subst e;exact g.M4 (le_refl _) g.fresh
  cases ha:x.cps.all (·<128)
  ·refine wpAny_pyIter_wide ha ?_;refine⟨a.heap.objs.size,[a.heap.objs.size],_,Vt x,f,rfl,g.kept (t':=a.toks) λb o e=>Heap.get?_push_of_some _ e,uO (St:=λi h=>h.IsStrIter a.heap.objs.size "str_iterator" x t i) (λA i s Q E st q=>wpAny_pyIter_striter_wide st q) (λr l=>Walks.strWide l _ x t) (λi h st=>?_),⟨zero_le _,_,Heap.get?_push_size _ rfl,rfl,rfl⟩,fp,z f _ (J6.refl _) (Walk.str ok)⟩;obtain⟨o,j,k,hd⟩:=st;exact⟨o,_,_,j,k,hd,by decide⟩
  refine wpAny_pyIter_ascii ha ?_;refine⟨a.heap.objs.size,[a.heap.objs.size],_,Vt x,f,rfl,g.kept (t':=a.toks) λb o e=>Heap.get?_push_of_some _ e,uO (St:=λi h=>h.IsStrIter a.heap.objs.size "str_ascii_iterator" x t i) (λA i s Q E st q=>wpAny_pyIter_striter_ascii st q) (λr l=>Walks.strAscii l _ x t) (λi h st=>?_),⟨zero_le _,_,Heap.get?_push_size _ rfl,rfl,rfl⟩,fp,z f _ (J6.refl _) (Walk.str ok)⟩;obtain⟨o,j,k,hd⟩:=st;exact⟨o,_,_,j,k,hd,by decide⟩
 |_=>cases n
theorem lI {prog:Program}{w:World}{A:Around}{E:JL}{s:Shared}{it l:Addr}{i:Nat}{items}{x:Value}{Q:JL}(a:s.heap.IsTupleIter it l i)
  (h:s.heap.IsTuple l items) (d:items[i]?=some x)
  (f:∀ h',h'.IsTupleIter it l (i+1)->Heap.SameBut it s.heap h'->Q x { s with heap:=h' }) :
  wpAny (model prog w) A (Builtin.SmallTypes.nextOf (.ref it)) Q E s:=by
 obtain⟨o,b,c,hd⟩:=id a;obtain⟨j,e,_,k,g⟩:=h;unfold Builtin.SmallTypes.nextOf
 refine wpAny_bind (wpAny_callSpecial?_slot (name:=Str.ofString "__next__") a.typeIs F.slot_tuple_iterator_next
  (wpAny_call_entry F.slot_tuple_iterator_next a.typeIs F.entry_tuple_iterator_next ?_ (F.args_tuple_iterator_next_1 _)))
 show wpAny _ _ (field (.ref it) 0 >>= _) _ _ s;refine wpAny_bind (wpAny_field b hd (x:=.ref l) rfl ?_);show wpAny _ _ (if (Value.ref l==Value.none)=true then _ else _) _ _ s;rw[if_neg (show ¬ ((Value.ref l==Value.none)=true) from Bool.false_ne_true)];show wpAny _ _ (field (.ref it) 1 >>= _) _ _ s;refine wpAny_bind (wpAny_field b hd (x:=.int i 0) rfl ?_);show wpAny _ _ (seqItems? (.ref l) >>= _) _ _ s;refine wpAny_bind (wpAny_seqItems e g ?_);simp only[Int.toNat_natCast,d];refine wpAny_bind (wpAny_setField b hd (by simp) (wpAny_pure ⟨x,rfl,wpAny_pure (f _ ?_ (Heap.SameBut.update ..))⟩))
 exact⟨_,Heap.get?_update_self _ b (Obj.isFreed_of_fields (Obj.data_mapFields hd _)),(Obj.cls_mapFields ..).trans c,by
  rw[Obj.data_mapFields hd];simp[rawInt]⟩
theorem hZ {prog:Program}{w:World}{A:Around}{E:JL}{s:Shared}{it l:Addr}{i:Nat}{items}{Q:JL}(d:A.handled=none)
  (b:s.heap.IsTupleIter it l i) (j:s.heap.IsTuple l items) (f:items[i]?=none)
  (k:∀ h' e,Heap.ExtBut it s.heap h'->(∃ o,h'.get? e=some o/\o.cls = .type "StopIteration")->E (.ref e) { s with heap:=h' }) :
  wpAny (model prog w) A (Builtin.SmallTypes.nextOf (.ref it)) Q E s:=by
 obtain⟨o,c,p,hd⟩:=id b;obtain⟨n,g,_,q,h⟩:=j;unfold Builtin.SmallTypes.nextOf
 refine wpAny_bind (wpAny_callSpecial?_slot (name:=Str.ofString "__next__") b.typeIs F.slot_tuple_iterator_next
  (wpAny_call_entry F.slot_tuple_iterator_next b.typeIs F.entry_tuple_iterator_next ?_ (F.args_tuple_iterator_next_1 _)))
 show wpAny _ _ (field (.ref it) 0 >>= _) _ _ s;refine wpAny_bind (wpAny_field c hd (x:=.ref l) rfl ?_);show wpAny _ _ (if (Value.ref l==Value.none)=true then _ else _) _ _ s;rw[if_neg (show ¬ ((Value.ref l==Value.none)=true) from Bool.false_ne_true)];show wpAny _ _ (field (.ref it) 1 >>= _) _ _ s;refine wpAny_bind (wpAny_field c hd (x:=.int i 0) rfl ?_);show wpAny _ _ (seqItems? (.ref l) >>= _) _ _ s;refine wpAny_bind (wpAny_seqItems g h ?_);simp only[Int.toNat_natCast,f];refine wpAny_bind (wpAny_rule (wpAny_bind (wpAny_setField c hd (by simp) ?_)));show wpAny _ _ (newExc (.type "StopIteration") [] >>= _) _ _ _;refine wpAny_bind ?_;simp only[newExc,newTuple];refine wpAny_bind (wpAny_newObj_type ?_ (by size_fits));refine wpAny_bind (m:=firstArgMember _ _) (wpAny_of_eq (a:=Value.none) (by first |rfl |(simp only[firstArgMember];rfl)) ?_);refine wpAny_newObj_type ?_ (by size_fits);simp only[raiseNew];refine wpAny_bind (wpAny_handled ?_)
 first |rw[show A.in1.handled=none from d] |rw[d]
 refine wpAny_bind (wpAny_pure (wpAny_throw ?_));exact k _ _ (((Heap.SameBut.update ..).extBut.push _).push _) ⟨_,Heap.get?_push_size _ rfl,rfl⟩
theorem Draws.tup {prog:Program}{w:World}{A:Around}(f:A.handled=none)(it l:Addr)(e:l≠it)(items:Array Value) :
  Draws prog w A it [it,l] items.size (λi v=>items[i]?=some v) (λi h=>h.IsTupleIter it l i/\h.IsTuple l items) where
 live:=λ_ _ st=>let ⟨o,a,_⟩:=st.1;⟨o,a⟩
 frame:=λ_ _ _ st b=>⟨let ⟨o,a,r⟩:=st.1;⟨o,b it (by simp) o a,r⟩,let ⟨o,a,r⟩:=st.2;⟨o,b l (by simp) o a,r⟩⟩
 item:=λi s Q E c st k=>by
  refine lI st.1 st.2 (x:=items[i]) (by simp[c]) λg j d=>?_;exact k _ g s.toks (by simp[c]) ⟨j,st.2.extBut d.extBut e⟩ d
 done:=λs Q E st m=>hZ f st.1 st.2 (by simp) m
theorem pz (l:Addr)(items:Array Value)(n:Nat)(i:Option Addr)(f:Array (Option Value)) :
  Meets (Builtin.«enumerate.__new__» ⟨[.type "enumerate",.ref l],[]⟩) (λ_ R s=>s.heap.get? l=some { cls:=.type "tuple",dict:=i,data:=.seq items n,slots:=f } /\
   R (.ok (.ret (.ref (s.heap.push { cls:=.type "tuple_iterator",data:=.fields #[.ref l,.int 0 0] }).objs.size)))
    { s with heap:=(s.heap.push { cls:=.type "tuple_iterator",data:=.fields #[.ref l,.int 0 0] }).push { cls:=.type "enumerate",data:=.fields #[.none,.bool false,.ref s.heap.objs.size,rawInt 0,.none,.none] } }):=
 .of_wp λprog w A R s h=>by
  obtain⟨e,g,d,tk,os⟩:=s;obtain⟨a,h⟩:=h;have j:=sub_enumerate;have b:Heap.IsTuple (Shared.heap ⟨e,g,d,tk,os⟩) l items:=⟨_,a,rfl,n,rfl⟩
  wp_walk using AutoSeq1.wpAny_loadPart' a
  refine wpAny_stack_any λst=>wpAny_pure ?_;split
  ·rename_i c _ _ _ _ _;cases (c==Value.type "enumerate")
   ·wp_walk using AutoSeq1.wpAny_loadPart' a,wpAny_pyIter_tuple b
    exact⟨_,rfl,h⟩
   wp_walk using AutoSeq1.wpAny_loadPart' a,wpAny_pyIter_tuple b
   exact⟨_,rfl,h⟩
  wp_walk using AutoSeq1.wpAny_loadPart' a,wpAny_pyIter_tuple b
  exact⟨_,rfl,h⟩
theorem qw {prog:Program}{w:World}{A:Around}{E:JL}{s:Shared}{l:Addr}{items:Array Value}{Q:JL}(f:IsTup s.heap l items)
  (h:∀ h',IsEnum h' (s.heap.objs.size+1) s.heap.objs.size 0 .none->h'.IsTupleIter s.heap.objs.size l 0->h'.objs.size=s.heap.objs.size+2 ->
   (∀ b o,s.heap.get? b=some o->h'.get? b=some o)->Q (.ref (s.heap.objs.size+1)) { s with heap:=h' }) :
  wpAny (model prog w) A (call (.type "enumerate") [.ref l]) Q E s:=by
 obtain⟨⟨c,i,j,g⟩,k,d,n,hd⟩:=f
 replace d:c = .type "tuple":=d
 replace hd:j = .seq items n:=hd
 subst d hd
 refine callType_new F.called_enumerate (by decide) (F.typeCall_enumerate_1 _) (F.newCall_enumerate_1 _) (λobj=>F.args_object_init_2 obj _) F.entry_enumerate_new
  (pz l items n i g) ⟨k,?_⟩
 have a:(s.heap.push { cls:=.type "tuple_iterator",data:=.fields #[.ref l,.int 0 0] }).objs.size=s.heap.objs.size+1:=Heap.size_push ..;show _/\_;rw[a]
 have e:IsEnum ((s.heap.push { cls:=.type "tuple_iterator",data:=.fields #[.ref l,.int 0 0] }).push
   { cls:=.type "enumerate",data:=.fields #[.none,.bool false,.ref s.heap.objs.size,rawInt 0,.none,.none] }) (s.heap.objs.size+1) s.heap.objs.size 0 .none:=by
  have:=Heap.get?_push_size (s.heap.push { cls:=.type "tuple_iterator",data:=.fields #[.ref l,.int 0 0] })
   (o:={ cls:=.type "enumerate",data:=.fields #[.none,.bool false,.ref s.heap.objs.size,rawInt 0,.none,.none] }) rfl
  rw[a] at this;exact this
 refine⟨⟨_,e,rfl⟩,h _ e ⟨_,Heap.get?_push_of_some _ (Heap.get?_push_size _ rfl),rfl,rfl⟩ (by rw[Heap.size_push,a]) λb o x=>Heap.get?_push_of_some _ (Heap.get?_push_of_some _ x)⟩
theorem jY {prog:Program}{w:World}{A:Around}{E:JL}{s:Shared}{e it l:Addr}{i:Nat}{items:Array Value}{old:Value}{Q:Option Value->Shared->Prop}(g:A.handled=none)
  (c:IsEnum s.heap e it i old) (a:s.heap.IsTupleIter it l i) (n:s.heap.IsTuple l items) (j:items[i]?=none)
  (k:∀ h',Heap.ExtBut it s.heap h'->Q none { s with heap:=h' }):wpAny (model prog w) A (pyNext (.ref e)) Q E s:=by
 have d:s.TypeIs (.ref e) "enumerate":=⟨_,c,rfl⟩;unfold pyNext
 refine wpAny_bind (wpAny_attempt (wpAny_callSpecial?_slot (name:=Str.ofString "__next__") d F.slot_enumerate_next
  (wpAny_call_entry F.slot_enumerate_next d F.entry_enumerate_next ?_ (F.args_enumerate_next_1 _))))
 show wpAny _ _ (field (.ref e) 2 >>= _) _ _ _;refine wpAny_bind (wpAny_field c rfl (x:=.ref it) rfl ?_);refine wpAny_bind (hZ g a n j λh' x m p=>?_);obtain⟨o,f,h⟩:=p;refine wpAny_bind (wpAny_isInstance (T:="StopIteration") (b:=true) ⟨o,f,h⟩ isSubtype_stop ?_);exact wpAny_pure (k _ m)
def Wq (K:JK)(a:Addr):It:=
 ⟨λi H => ∃ b x,Nm K H a b/\b[i]?=some x,λi H x c => ∃ p y,H p=none/\x = .ref p/\c=upd H p (.tup [.int i,y])/\∀ b,Nm K H a b->b[i]?=some y,λi H => ∃ b,Nm K H a b/\b.length<=i⟩
theorem zF {P:Program}{w:World}{K:JK}{es:List Expr}{k:Nat}{pt:Pos}(a e it:Addr)(O:e≠it)(Ws:a≠e)(Wt:a≠it):Turn P w K (.Tuple es k pt) (Wq K a) [e,it] e (λi h=>(∃ old,IsEnum h e it i old)/\h.IsTupleIter it a i) where
 mem:=by simp
 obj:=λi h st b hb=>by
  obtain⟨⟨old,d⟩,o,l,G,hd⟩:=st;rcases mem_cons.mp hb with rfl |hb
  ·exact⟨_,d,λv z=>by cases z⟩
  have:b=it:=by simpa using hb
  subst this;exact⟨o,l,λv z=>by rw[hd] at z;cases z⟩
 keep:=λi h h' st kp=>by
  obtain⟨⟨old,d⟩,o,l,r⟩:=st;exact⟨⟨old,kp e (by simp) _ d⟩,o,kp it (by simp) o l,r⟩
 item:=by
  intro X n V W G i j s Z H E I C st R;subst n V W;obtain⟨F,x,B,U⟩:=R;obtain⟨its,T,p,hz⟩:=I.tuple B;obtain⟨u,hu,ru⟩:=T.get U;obtain⟨⟨old,d⟩,f⟩:=st;have Lc:i<its.toArray.size:=by rw[size_toArray];exact(List.getElem?_eq_some_iff.mp hu).1
  refine wpAny_pyNext_enum_itemD (Draws.tup (A:=X.A.in1) (I.ok.hd G) it a Wt its.toArray) d ⟨f,p⟩ Lc O (by simp[O,Ne.symm Ws]) λy h' tk n l Tz hT hsz hk=>?_
  have ey:y=u:=by
   have:its.toArray[i]?=some u:=by simpa using hu
   rw[this] at n;exact(Option.some.inj n).symm
  subst ey;refine⟨_,rfl,wpAny_letOwnedTupleGo_enum (s:={ s with heap:=h',toks:=tk+1 }) l λJ Rf N=>?_⟩;have hn:H s.heap.objs.size=none:=I.fresh;obtain⟨L,Uq,ZJ,Wu,Wv,Ww⟩:=C e (by simp);obtain⟨t,D,Wx,Y,M,S⟩:=C it (by simp);have kp:∀ b o,b≠e->b≠it->s.heap.get? b=some o->J.get? b=some o:=λb o h1 Qn g=>(N.2 b h1).trans (hk b o h1 Qn g);have Ur:s.heap.objs.size≠e:=ne_of_gt (Heap.lt_size d);have Px:J.get? s.heap.objs.size=some { cls:=.type "tuple",data:=.seq #[.int i tk,y] }:=(N.2 _ Ur).trans hT;have ne:∀ b o,H b=some o->b≠s.heap.objs.size:=λb o q=>aO q hn
  have I1:Inv X j Z (upd H s.heap.objs.size (.tup [.int i,x])) { s with heap:=J,toks:=tk+1 }:=by
   refine I.step (h':=J) (g':=s.gens) (d':=s.drawn) (t':=tk+1) (ch:=[e,it]) (λb hb=>?_) (λb o _ _ hb g _=>kp b o (λz=>hb (by simp[z])) (λz=>hb (by simp[z])) g) (λb o _ _ hb g _=>⟨o.slots,kp b o (λz=>hb (by simp[z])) (λz=>hb (by simp[z])) g⟩)
    (λb o hb g n'=>by rw[aJ (ne_of_lt (Heap.lt_size g))];exact n') (λb o hb g=>⟨o,kp b o (λz=>hb (by simp[z])) (λz=>hb (by simp[z])) g⟩)
    (λb F q=>by rw[aJ (ne b _ q)];exact q) (λb o F q=>by rw[aJ (ne b _ q)];exact q) (λb ps q=>⟨#[],by rw[aJ (ne b _ q),q];simp⟩)
    (λm hm=>?_) (λb o q=>?_) I.bare
   ·rcases mem_cons.mp hb with rfl |hb
    ·exact⟨Wu,Uq,Wv,Ww⟩
    have:b=it:=by simpa using hb
    subst this;exact⟨Y,D,M,S⟩
   ·obtain⟨o,es,ep,l,r⟩:=hm;exact⟨o,es,ep,kp _ o (Ne.symm Uq) (Ne.symm D) l,r⟩
   by_cases hb:b=s.heap.objs.size
   ·subst hb;rw[J4] at q;cases q;exact⟨by show 2<=sizeLine;decide,[.int i tk,y],.cons ⟨tk,rfl⟩ (.cons ru .nil),_,Px⟩
   rw[aJ hb] at q;refine(I.Kj b o q).MY (λc v N_ z=>kp c v ?_ ?_ z) (λc z=>by rw[aJ (ne c _ z)];exact z) λc F z=>by rw[aJ (ne c _ z)];exact z
   ·rcases N_ with z' |z'
    ·rw[z'];exact aO q L
    exact aO z' L
   rcases N_ with z' |z'
   ·rw[z'];exact aO q t
   exact aO z' t
  refine⟨.ref s.heap.objs.size,_,I1,rfl,⟨_,x,hn,rfl,rfl,λys hy=>by rw[I.Mx hy B];exact U⟩,⟨⟨y,Rf⟩,Tz.1.extBut N.extBut (Ne.symm O)⟩,λb hb=>?_⟩;rcases mem_cons.mp hb with rfl |hb
  ·rw[aJ (Ne.symm Ur)];exact L
  have:b=it:=by simpa using hb
  subst this;obtain⟨o,NV,_⟩:=f;rw[aJ (ne_of_lt (Heap.lt_size NV))];exact t
 done:=by
  intro X n V W G i j s Z H E I C st R;subst n V W;obtain⟨F,B,U⟩:=R;obtain⟨its,T,p,hz⟩:=I.tuple B;obtain⟨⟨old,d⟩,f⟩:=st;obtain⟨t,D,Wx,Y,M,S⟩:=C it (by simp);have hl:=T.length;exact jY (I.ok.hd G) d f p (by simp;omega) λh' eb=>⟨rfl,I.turned (t':=s.toks) (λb o hb e=>eb b o hb e) t D Y M S⟩
 self:=by
  intro A i s Q E st h;obtain⟨⟨old,d⟩,_⟩:=st;exact wpAny_pyIter_enum d h
def cV (i:Nat):List D->List D
 |[]=>[]
 |d::ds => .tup [.int i,d]::cV (i+1) ds
theorem bS:∀ (ds:List D) (i:Nat),(cV i ds).length=ds.length
 |[],_=>rfl
 |d::ds,i=>by rw[cV,length_cons,length_cons,bS ds]
theorem fJ:∀ (ds:List D) (i j:Nat),(cV i ds)[j]?=(ds[j]?).map λd=>D.tup [.int (i+j:Nat),d]
 |[],_,_=>by simp[cV]
 |d::ds,i,0=>by simp[cV]
 |d::ds,i,j+1=>by
  rw[cV,getElem?_cons_succ,fJ ds (i+1) j,getElem?_cons_succ,show i+1+j=i+(j+1) by omega]
theorem Walk.enum {a:Addr}{ds:List D}{c:List V}{J:List Addr}{H:Hp}(t:TQ X.K H J a c)(m:JW X.K H J ds c):Walk X (Wq X.K a) (cV 0 ds) J H where
 len:=by rw[bS,m.length];exact t.len
 go:=λh g i x b=>by
  rw[bS] at b;have m1:=m.ex x;obtain⟨v,l,_⟩:=m1.get (List.getElem?_eq_getElem b);exact⟨c,v,(t.ex x).sq,l⟩
 O9:=λh g i v n x k b y=>by
  obtain⟨p,y,f,rfl,rfl,j⟩:=y;obtain⟨d,e,a⟩:=(m.ex x).get' (j c (t.ex x).sq);refine⟨.tup [.int i,d],by rw[fJ,e];simp,At.LL (.cons (At.JS.mpr rfl) (.cons a .nil)) f k (by show 2<=sizeLine;decide),aQ f _⟩
 stop:=λh g i x b=>by
  rw[bS] at b;exact⟨c,(t.ex x).sq,by rw[← m.length];exact b⟩
def pS:List D->Option (List D)
 |[.tup xs]=>some (cV 0 xs)
 |_=>none
theorem sS {es:List Expr}{k:Nat}{pt p:Pos}{a:Expr}{t:JJ (List D)}{x:Str}(B:x="enumerate")(L:X.mg x=none)(F:SA X W [a] t)(G:Gl X x:=by rfl)
  (C:starEach (a::[]) X.env=(false,eval a X.env)::starEach [] X.env:=by rfl) (w:(backTo pos (starEach [] X.env)).any (·.1)=false:=by rfl):SI X W (.Tuple es k pt) (.Call (.Name x p) [a] [] pos) (ik pS t):=by
 subst B;intro c s j H R I h;refine wpAny_Call_Name_kw (kL I G L boot_enumerate ?_ (by decide) (by decide));refine callWith_type1 (Kd (F pos c s j H _ I (lA h)) λZ d q=>?_) C w;obtain⟨vs,g,e,N,J,S,U,Y,so,m,f,z⟩:=q;unfold pS at f;split at f
 ·rename_i P;cases f;obtain⟨v,r,rfl,O,n⟩:=JW.JU.mp m;cases JW.JY.mp n;obtain⟨ad,V,rfl,o,y⟩:=At.Kb.mp O;obtain⟨u,rfl,A⟩:=vals1 N;cases A;obtain⟨its,T,pl,Q⟩:=e.tuple o.sq;have l:ad<d.heap.objs.size:=pl.lt;refine qw pl λE i it sz kp=>?_;have M:Inv X c j g { d with heap:=E }:=e.kept (t':=d.toks) kp;refine wpAny_pyIter_enum i ?_;refine⟨d.heap.objs.size+1,[d.heap.objs.size+1,d.heap.objs.size],_,Wq X.K ad,g,rfl,M,zF ad _ _ (ne_of_gt (lt_succ_self _)) (ne_of_lt (lt_succ_of_lt l)) (ne_of_lt l),⟨⟨_,i⟩,it⟩,λb hb=>?_,z g _ (J6.refl _) (Walk.enum o y)⟩;rcases mem_cons.mp hb with rfl |hb
  ·exact e.M4 (le_succ _) (e.Kj.fresh (le_succ _))
  have:b=d.heap.objs.size:=by simpa using hb
  subst this;exact e.M4 (le_refl _) e.fresh
 cases f
end
section
variable {X:Cx}{W:WT}
theorem Do {prog:Program}{w:World}{A:Around}{E:JL}{s:Shared}{g:PyProof.Rows.KeyKind}(k : g.OneLt){x:Value}{Q:JL}
  (h:wpAny (model prog w) A.in1 (collect x) (λvs d=>PyProof.Rows.KeysOf g (pairsOf vs)/\(∀ c a rest,vs=c::a::rest->keyKind' (c::a::rest).toArray=pure oneType')/\vs.length<64 /\
   ∀ (f:SortSt) h' ep,(arrOf f).Perm (pairsOf vs)->SortedToK g (arrOf f) (pairsOf vs).size->(∀ b o,d.heap.get? b=some o->h'.get? b=some o)->h'.get? d.heap.objs.size=some (seqObj "list" ((arrOf f).map (·.2)) ep) ->
    Q (.ref d.heap.objs.size) { d with heap:=h' }) E s):wpAny (model prog w) A (call (.builtin "sorted") [x]) Q E s:=by
 refine Calls.call_function_entry kind_sorted plain_sorted entry_sorted (args_sorted1 _) ?_;unfold Builtin.«sorted»;refine wpAny_bind (m:=checkCount "sorted" 1 1 _) (wpAny_pure ?_);refine wpAny_bind (Kd h λvs d j=>?_);obtain⟨p,n,r,q⟩:=j;refine wpAny_bind (wpAny_newList ?_);have i:(d.heap.push (seqObj "list" vs.toArray 0)).get? d.heap.objs.size=some (seqObj "list" vs.toArray 0):=Heap.get?_push_size _ rfl;refine wpAny_bind (wpAny_holding (wpAny_call_entry slot_list_sort ⟨_,i,rfl⟩ entry_list_sort (list_sort_treeK k i p n r λf u l=>⟨_,rfl,?_⟩) (args_list_sort _)));obtain⟨ep,t⟩:=sortedHeap_at (out:=(arrOf f).map (·.2)) i
 exact wpAny_pure ⟨_,rfl,q f _ ep u l (λb o e=>by
  rw[sortedHeap_old (ne_of_lt (Heap.lt_size e)) (by rw[size_push'];exact lt_succ_of_lt (Heap.lt_size e))]
  exact Heap.get?_push_of_some _ e) t⟩
end
def Nn (a b:Str):Bool:=!MX b a
theorem Le {a b:Str}:Nn a b=true↔a.cps.toList<=b.cps.toList:=by unfold Nn MX;rw[Bool.not_eq_true',decide_eq_false_iff_not,List.not_lt]
theorem ic (a b c:Str)(h:Nn a b=true)(g:Nn b c=true):Nn a c=true:=Le.mpr (List.le_trans (Le.mp h) (Le.mp g))
theorem jP (a b:Str):(Nn a b ||Nn b a)=true:=by rw[or_eq_true,Le,Le];exact List.le_total _ _
theorem Dm {a b:Str}(h:a.cps.toList=b.cps.toList):a=b:=by cases a;cases b;congr;exact Array.toList_inj.mp h
theorem vK {a b:Str}(h:Nn a b=true)(g:Nn b a=true):a=b:=Dm (List.le_antisymm (Le.mp h) (Le.mp g))
def fT (l:List Str):List Str:=l.mergeSort Nn
theorem fw {l c:List Str}(d:c.Perm l)(e:c.Pairwise λa b=>Nn a b=true):c=fT l:=
 List.Perm.eq_of_pairwise (le:=λa b=>Nn a b=true) (λa b _ _ h g=>vK h g) e (pairwise_mergeSort ic jP l) (d.trans (mergeSort_perm l Nn).symm)
theorem pairwise_of_rising:∀ (p:Str) (l:List Str),risingS p l=true->(p::l).Pairwise λa b=>Nn a b=true
 |p,[],_=>by simp
 |p,x::r,h=>by
  have c:(!ltCps x.cps.toList p.cps.toList&&risingS x r)=true:=h;rw[and_eq_true] at c;have d:Nn p x=true:=by unfold Nn MX;rw[← ltCps_eq];exact c.1
  have t:=pairwise_of_rising x r c.2;refine pairwise_cons.mpr ⟨λy hy=>?_,t⟩;rcases mem_cons.mp hy with rfl |hy
  ·exact d
  exact ic _ _ _ d ((pairwise_cons.mp t).1 y hy)
theorem jZ {l:List Str}(h:sortedS l=true):l.Pairwise λa b=>Nn a b=true:=by
 cases l with
 |nil=>exact .nil
 |cons x r=>exact pairwise_of_rising x r h
def Vu (a b:Int):Bool:=decide (a<=b)
def sortI (l:List Int):List Int:=l.mergeSort Vu
theorem sQ {l d:List Int}(e:d.Perm l)(f:d.Pairwise (·<=·)):d=sortI l:=by
 refine List.Perm.eq_of_pairwise (le:=λa b=>Vu a b=true) (λa b _ _ h g=>?_) (f.imp λh=>decide_eq_true h) (pairwise_mergeSort (λa b c h g=>?_) (λa b=>?_) l) (e.trans (mergeSort_perm l Vu).symm)
 ·exact Int.le_antisymm (of_decide_eq_true h) (of_decide_eq_true g)
 ·exact decide_eq_true (Int.le_trans (of_decide_eq_true h) (of_decide_eq_true g))
 unfold Vu;rw[or_eq_true,decide_eq_true_eq,decide_eq_true_eq];exact Int.le_total a b
def fR:List D->Option (List Str)
 |[]=>some []
 | .str x::r=>(fR r).map (x::·)
 |_=>none
def cw:List D->Option (List Int)
 |[]=>some []
 | .int x::r=>(cw r).map (x::·)
 |_=>none
theorem jF:∀ ss:List Str,fR (ss.map .str)=some ss
 |[]=>rfl
 |x::r=>by rw[map_cons,fR,jF r];rfl
theorem K7:∀ ss:List Int,cw (ss.map .int)=some ss
 |[]=>rfl
 |x::r=>by rw[map_cons,cw,K7 r];rfl
theorem oQ:∀ {ds:List D}{ss:List Str},fR ds=some ss->ds=ss.map .str
 |[],ss,e=>by cases e;rfl
 | .str x::r,ss,e=>by
  obtain⟨t,a,b⟩:=map_eq_some_iff.mp (show (fR r).map (x::·)=some ss from e);subst b;rw[oQ a];rfl
 | .Kk::_,_,e=>by cases e
 | .bl _::_,_,e=>by cases e
 | .int _::_,_,e=>by cases e
 | .tup _::_,_,e=>by cases e
 | .lst _::_,_,e=>by cases e
 | .set _::_,_,e=>by cases e
 | .loc _::_,_,e=>by cases e
 | .fn _ _::_,_,e=>by cases e
theorem f7:∀ {ds:List D}{ss:List Int},cw ds=some ss->ds=ss.map .int
 |[],ss,e=>by cases e;rfl
 | .int x::r,ss,e=>by
  obtain⟨t,a,b⟩:=map_eq_some_iff.mp (show (cw r).map (x::·)=some ss from e);subst b;rw[f7 a];rfl
 | .Kk::_,_,e=>by cases e
 | .bl _::_,_,e=>by cases e
 | .str _::_,_,e=>by cases e
 | .tup _::_,_,e=>by cases e
 | .lst _::_,_,e=>by cases e
 | .set _::_,_,e=>by cases e
 | .loc _::_,_,e=>by cases e
 | .fn _ _::_,_,e=>by cases e
theorem w8 {a b:List D}(p:a.Perm b):∀ {sb},fR b=some sb->∃ sa,fR a=some sa/\sa.Perm sb:=by
 induction p with
 |nil=>intro sb e;exact⟨sb,e,.refl _⟩
 |cons x p m =>
  intro sb e;cases x with
  |str z =>
   obtain⟨t,c,d⟩:=map_eq_some_iff.mp (show (fR _).map (z::·)=some sb from e);subst d;obtain⟨sa,g,h⟩:=m c;exact⟨z::sa,by rw[fR,g];rfl,.cons z h⟩
  |_=>cases e
 |swap x y l =>
  intro sb e;cases x with
  |str z =>
   cases y with
   |str f =>
    obtain⟨t,c,d⟩:=map_eq_some_iff.mp (show (fR (.str f::l)).map (z::·)=some sb from e);obtain⟨i,g,h⟩:=map_eq_some_iff.mp (show (fR l).map (f::·)=some t from c);subst d h;exact⟨f::z::i,by rw[fR,fR,g];rfl,.swap z f i⟩
   |_=>cases e
  |_=>cases e
 |trans _ _ k j =>
  intro sb e;obtain⟨q,c,o⟩:=j e;obtain⟨sa,d,n⟩:=k c;exact⟨sa,d,n.trans o⟩
theorem xJ {a b:List D}(p:a.Perm b):∀ {sb},cw b=some sb->∃ sa,cw a=some sa/\sa.Perm sb:=by
 induction p with
 |nil=>intro sb e;exact⟨sb,e,.refl _⟩
 |cons x p m =>
  intro sb e;cases x with
  |int z =>
   obtain⟨t,c,d⟩:=map_eq_some_iff.mp (show (cw _).map (z::·)=some sb from e);subst d;obtain⟨sa,g,h⟩:=m c;exact⟨z::sa,by rw[cw,g];rfl,.cons z h⟩
  |_=>cases e
 |swap x y l =>
  intro sb e;cases x with
  |int z =>
   cases y with
   |int f =>
    obtain⟨t,c,d⟩:=map_eq_some_iff.mp (show (cw (.int f::l)).map (z::·)=some sb from e);obtain⟨i,g,h⟩:=map_eq_some_iff.mp (show (cw l).map (f::·)=some t from c);subst d h;exact⟨f::z::i,by rw[cw,cw,g];rfl,.swap z f i⟩
   |_=>cases e
  |_=>cases e
 |trans _ _ k j =>
  intro sb e;obtain⟨q,c,o⟩:=j e;obtain⟨sa,d,n⟩:=k c;exact⟨sa,d,n.trans o⟩
section
variable {K:JK}{H:Hp}{J:List Addr}
theorem JW.strs:∀ {ss:List Str}{vs:List V}{us:List Value},JW K H J (ss.map .str) vs->Vals vs us->StrsAre us ss/\vs=ss.map V.str/\∀ x∈ss,Rx x
 |[],vs,us,m,r=>by
  cases JW.JY.mp m;cases r;exact⟨.nil,rfl,by simp⟩
 |x::ss,vs,us,m,r=>by
  obtain⟨v,h,rfl,a,d⟩:=JW.JU.mp m;obtain⟨ev,ok⟩:=At.J9.mp a;subst ev;cases r with
  |cons g b =>
   obtain⟨t,rfl⟩:=g;obtain⟨e,f,c⟩:=JW.strs d b;refine⟨.cons x t e,by rw[f];rfl,λy hy=>?_⟩;rcases mem_cons.mp hy with rfl |hy
   ·exact ok
   exact c y hy
theorem JW.ofStrs:∀ {ss:List Str},(∀ x∈ss,Rx x)->JW K H J (ss.map .str) (ss.map V.str)
 |[],_ => .nil
 |x::ss,h => .cons (At.J9.mpr ⟨rfl,h x (mem_cons_self ..)⟩) (JW.ofStrs λy a=>h y (mem_cons_of_mem _ a))
theorem qF:∀ {us:List Value}{ss:List Str},StrsAre us ss->Vals (ss.map V.str) us
 |_,_,.nil => .nil
 |_,_,.cons x t h => .cons ⟨t,rfl⟩ (qF h)
end
section
theorem A0 {prog:Program}{w:World}{A:Around}{E:JL}{s:Shared}{x:Value}{Q:JL}
  (h:wpAny (model prog w) A.in1 (collect x) (λvs a => ∃ ns,IntsAre vs ns/\vs.length<64 /\
   ∀ (out:Array Value) (c:List Int) h' ep,IntsAre out.toList c->c.Perm ns->c.Pairwise (·<=·)->(∀ b o,a.heap.get? b=some o->h'.get? b=some o)->h'.get? a.heap.objs.size=some (seqObj "list" out ep) ->
    Q (.ref a.heap.objs.size) { a with heap:=h' }) E s):wpAny (model prog w) A (call (.builtin "sorted") [x]) Q E s:=by
 refine Calls.call_function_entry kind_sorted plain_sorted entry_sorted (args_sorted1 _) ?_;unfold Builtin.«sorted»;refine wpAny_bind (m:=checkCount "sorted" 1 1 _) (wpAny_pure ?_);refine wpAny_bind (Kd h λvs a f=>?_);obtain⟨ns,k,j,q⟩:=f;refine wpAny_bind (wpAny_newList ?_);have d:(a.heap.push (seqObj "list" vs.toArray 0)).get? a.heap.objs.size=some (seqObj "list" vs.toArray 0):=Heap.get?_push_size _ rfl;refine wpAny_bind (wpAny_holding (wpAny_call_entry slot_list_sort ⟨_,d,rfl⟩ entry_list_sort (list_sort_tree d k j λout c n i g=>⟨_,rfl,?_⟩) (args_list_sort _)));obtain⟨ep,l⟩:=sortedHeap_at (out:=out) d
 exact wpAny_pure ⟨_,rfl,q out c _ ep n i g (λb o e=>by
  rw[sortedHeap_old (ne_of_lt (Heap.lt_size e)) (by rw[size_push'];exact lt_succ_of_lt (Heap.lt_size e))]
  exact Heap.get?_push_of_some _ e) l⟩
end
section
variable {X:Cx}{W:WT}
def dD (a:List D):Option (List D):=if a.length<64 then
  match fR a with
  |some b=>some ((fT b).map .str)
  |none=>(cw a).map λns=>(sortI ns).map .int
 else none
theorem jG {c:JM}{u:St}{H:Hp}{s:Shared}{J:List Addr}{x:Value}{ds:List D}{out:List D}{Q:VK}(S:∀ a∈J,H a≠none)(e:dD ds=some out)(q:∀ H' v,J6 H H'->At X.K H' J (.lst out) v->Q v H')
  (R:∀ (M:List Value->Shared->Prop) (E:JL),(∀ us vs d n,Inv X c u H d->Vals vs us->n.Perm ds->JW X.K H J n vs->M us d)->wpAny (model X.prog X.w) X.A.in1 (collect x) M E s) :
  wpAny (model X.prog X.w) X.A (call (.builtin "sorted") [x]) (EP X c u Q) X.xe s:=by
 unfold dD at e;split at e
 ·rename_i r
  have fin:∀ {d:Shared}{i:Heap}{ep:Nat}{us':List Value}{t:List V}(g:Inv X c u H d) (k:∀ b o,d.heap.get? b=some o->i.get? b=some o) (j:i.get? d.heap.objs.size=some (seqObj "list" us'.toArray ep)) (f:Vals t us') (m:JW X.K H J out t) (L:t.length<=sizeLine),
    EP X c u Q (.ref d.heap.objs.size) { d with heap:=i }:=λ{d i ep us' t} g k j f m L =>
   ⟨.ref d.heap.objs.size,_,g.laid (t':=d.toks) (o:=.lst t) k (le_refl _) ⟨L,us',ep,f,j⟩,rfl,q _ _ (aQ g.fresh _) (At.Lj m g.fresh S L)⟩
  split at e
  ·rename_i l es;cases e;have F:=oQ es;subst F;refine Do strKind_oneLt (R _ _ λus vs d n g f B m=>?_);have Z:∃ G,fR n=some G/\G.Perm l:=by exact w8 B (jF l)
   obtain⟨G,z,h⟩:=Z;have I:=oQ z;subst I;obtain⟨sa,ev,ok⟩:=JW.strs m f;have p:us.length=l.length:=by rw[← f.length,ev,length_map];exact h.length_eq
   refine⟨sa.keysOf,λP O rest e=>keyKind_strs (by rw[← e];exact sa),by rw[length_map] at r;omega,λY i ep T hs k j=>?_⟩;obtain⟨so,W,y,h3⟩:=sorted_out_str sa T hs;have C:so=fT l:=fw (y.trans h) (jZ h3);subst C;have ZM:∀ x∈fT l,Rx x:=λx hx=>ok x (y.mem_iff.mp hx);refine fin (us':=((arrOf Y).map (·.2)).toList) g k (by rw[Array.toArray_toList];exact j) (qF W) (JW.ofStrs ZM) ?_;rw[length_map,(y.trans h).length_eq];rw[length_map] at r;exact Nat.le_of_lt (lt_of_lt_of_le r (by decide))
  obtain⟨ns,es,eo⟩:=map_eq_some_iff.mp e;subst eo;have F:=f7 es;subst F;refine A0 (R _ _ λus vs d n g f B m=>?_);obtain⟨Sz,z,h⟩:=xJ B (K7 ns);have I:=f7 z;subst I;have ev:=JW.My m;subst ev;have hI:=intsAre_of f;have p:us.length=ns.length:=by rw[← f.length,length_map];exact h.length_eq
  rw[length_map] at r;refine⟨Sz,hI,by omega,λout no i ep a1 N U k j=>?_⟩;have C:no=sortI ns:=sQ (N.trans h) U;subst C;refine fin (us':=out.toList) g k (by rw[Array.toArray_toList];exact j) (ma a1) (JW.ofInts _) ?_;rw[length_map,(N.trans h).length_eq];exact Nat.le_of_lt (lt_of_lt_of_le r (by decide))
 cases e
def A3:List D->Option D
 |[.tup xs]=>(dD xs).map .lst
 |[.lst xs]=>(dD xs).map .lst
 |_=>none
theorem Ew:l6 X (.builtin "sorted") A3:=by
 intro C s L H K N Q I r h;obtain⟨J,M,d,B,m,e,q⟩:=h;unfold A3 at e;split at e
 ·rename_i y;obtain⟨out,l,A⟩:=map_eq_some_iff.mp e;subst A;obtain⟨v,w,rfl,a,n⟩:=JW.JU.mp m;cases JW.JY.mp n;obtain⟨p,x,rfl,t,f⟩:=At.Kb.mp a;obtain⟨u,rfl,g⟩:=vals1 r;cases g;obtain⟨its,b,⟨o,i,j,F,hd⟩,c⟩:=I.tuple t.sq;refine jG B l q λD E z=>wpAny_collect_seq p (.inr rfl) i j hd (λG k=>?_) (by rw[size_toArray,← b.length];exact c);exact z _ x _ y (I.kept (t':=s.toks) k) (by simpa using b) (.refl _) f
 ·rename_i y;obtain⟨out,l,A⟩:=map_eq_some_iff.mp e;subst A;obtain⟨v,w,rfl,a,n⟩:=JW.JU.mp m;cases JW.JY.mp n;obtain⟨p,x,rfl,t,f⟩:=At.Kc.mp a;obtain⟨u,rfl,g⟩:=vals1 r;cases g;obtain⟨its,b,⟨o,F,i,j,_,hd⟩,c⟩:=I.list t.sq;refine jG B l q λD E z=>wpAny_collect_seq p (.inl rfl) i j hd (λG k=>?_) (by rw[size_toArray,← b.length];exact c);exact z _ x _ y (I.kept (t':=s.toks) k) (by simpa using b) (.refl _) f
 cases e
end
def fW (a b:D):Bool:=decide (fy a=fy b)
def putD (kvs:List (D×D))(k v:D):List (D×D):=if (kvs.any λp=>fW p.1 k)=true then kvs.map (λp=>if fW p.1 k=true then (p.1,v) else p) else kvs++[(k,v)]
def getD (kvs:List (D×D))(k:D):Option D:=(kvs.find? λp=>fW p.1 k).map (·.2)
abbrev Ri (K:JK)(H:Hp)(J:List Addr):(D×D)->(Key×V)->Prop:=λp q=>(fy p.1=some q.1/\At K H J p.1 (kV q.1))/\At K H J p.2 q.2
section
variable {K:JK}{H H':Hp}{J J':List Addr}
theorem oX {a k:D}{x y:Key}(h:fy a=some x)(g:fy k=some y):fW a k=decide (x=y):=by
 unfold fW;rw[h,g];by_cases e:x=y
 ·subst e;simp
 rw[decide_eq_false e,decide_eq_false (λz=>e (Option.some.inj z))]
theorem GG {kvs:List (D×D)}{a:List (Key×V)}{k:D}{y:Key}(g:fy k=some y)(r:Paired (Ri K H J) kvs a):(kvs.any λp=>fW p.1 k)=a.any λq=>decide (q.1=y):=by
 induction r with
 |nil=>rfl
 |cons h t b=>rw[any_cons,any_cons,b,oX h.1.1 g]
theorem zQ {kvs:List (D×D)}{a:List (Key×V)}{k v:D}{y:Key}{w:V}(g:fy k=some y)(c:At K H J v w)(r:Paired (Ri K H J) kvs a):Paired (Ri K H J) (kvs.map λp=>if fW p.1 k=true then (p.1,v) else p) (a.map λq=>if q.1=y then (q.1,w) else q):=by
 induction r with
 |nil=>exact .nil
 | @cons p q f d h t b =>
  refine .cons ?_ b;show Ri K H J (if fW p.1 k=true then (p.1,v) else p) (if q.1=y then (q.1,w) else q);rw[oX h.1.1 g];by_cases e:q.1=y
  ·rw[if_pos (decide_eq_true e),if_pos e];exact⟨h.1,c⟩
  rw[if_neg (by rw[decide_eq_false e];decide),if_neg e];exact h
theorem zS {k v:D}{y:Key}{w:V}(g:fy k=some y)(d:At K H J k (kV y))(e:At K H J v w){b:List (D×D)}{a:List (Key×V)}(h:Paired (Ri K H J) b a):Paired (Ri K H J) (b++[(k,v)]) (a++[(y,w)]):=by
 induction h with
 |nil=>exact .cons ⟨⟨g,d⟩,e⟩ .nil
 |cons h t c=>exact .cons h c
theorem FB {kvs:List (D×D)}{a:List (Key×V)}{k v:D}{y:Key}{w:V}(g:fy k=some y)(c:At K H J k (kV y))(b:At K H J v w)(r:Paired (Ri K H J) kvs a):Paired (Ri K H J) (putD kvs k v) (putK a y w):=by
 unfold putD putK;rw[GG g r];split
 ·exact zQ g b r
 exact zS g c b r
theorem Cj {kvs:List (D×D)}{a:List (Key×V)}{k:D}{y:Key}(g:fy k=some y)(r:Paired (Ri K H J) kvs a) :
  (getD kvs k=none/\lc a y=none)∨∃ d v,getD kvs k=some d/\lc a y=some v/\At K H J d v:=by
 unfold getD lc
 induction r with
 |nil=>exact .inl ⟨rfl,rfl⟩
 | @cons p q f c h t b =>
  rw[find?_cons,find?_cons,oX h.1.1 g];by_cases e:q.1=y
  ·rw[decide_eq_true e];exact .inr ⟨p.2,q.2,rfl,rfl,h.2⟩
  rw[decide_eq_false e];exact b
theorem kJ {α a:Type}{F : α->a->Prop}{c:List α}{b:List a}(r:Paired F c b):c.length=b.length:=Paired.length r
end
section
variable {X:Cx}{W:WT}{pos pos':Pos}{o i e:Expr}{fo fi fv:JJ D}
def wt:JJ D:=λ_ S=>JV (.loc S.length) (S++[.dict []])
theorem Km.push {K:JK}{J:List Addr}{S:JP}{H:Hp}{p:Addr}{o:HO}{mo:MO}(s:Km K J S H)(f:H p=none)(m:Ry K (upd H p o) (J++[p]) mo p):Km K (J++[p]) (S++[mo]) (upd H p o)/\Ex J H (J++[p]) (upd H p o):=by
 have x:Ex J H (J++[p]) (upd H p o):=⟨⟨[p],rfl⟩,λb u e k=>⟨by rw[aJ (aO e f)];exact e,λz=>by
  rcases mem_append.mp z with z |z
  ·exact k z
  exact aO e f (by simpa using z)⟩⟩
 refine⟨⟨by rw[List.length_append,List.length_append,s.len];rfl,?_,λl a i c d=>?_⟩,x⟩
 ·rw[nodup_append];refine⟨s.nd,by simp,λa j b e z=>?_⟩;have:b=p:=by simpa using e
  subst this;exact s.tracked j (z▸f)
 by_cases h:l<J.length
 ·rw[getElem?_append_left h] at c;rw[getElem?_append_left (by rw[← s.len];exact h)] at d;have q:=s.at_ l a i c d;refine q.ex x ?_;rw[aJ];intro z;exact q.N0 (z▸f)
 rw[getElem?_append_right (by omega)] at c;rw[getElem?_append_right (by rw[← s.len];omega)] at d;have g:l-J.length=0:=by have:=(List.getElem?_eq_some_iff.mp c).1;simp at this;omega
 rw[g] at c;rw[← s.len,g] at d;simp at c d;subst c d;exact m
theorem s9:SE X W (.Dict [] [] pos) wt:=Qj.imp λf H Q h=>by obtain⟨J,b,S,r,d,c,_,e,z⟩:=h;cases e;intro p a;have q:=c.Kr.push (o:=.dK []) (mo:=.dict []) a ⟨[],J4,.nil⟩;refine z (J++[p]) _ _ q.2 q.1 (At.Ke.mpr ⟨p,rfl,?_⟩);rw[← c.Kr.len,getElem?_append_right (le_refl _)];simp
theorem Km.update {K:JK}{J:List Addr}{S:JP}{H:Hp}{l:Nat}{a:Addr}{o:HO}{mo:MO}(s:Km K J S H)(e:J[l]?=some a)(m:∀ g H',Ex J H g H'->H'=upd H a o->g=J->Ry K H' g mo a):Km K J (S.set l mo) (upd H a o)/\Ex J H J (upd H a o):=by
 have n:a∈J:=mem_of_getElem? e;have x:Ex J H J (upd H a o):=⟨prefix_refl _,λb u k h=>⟨by rw[aJ (λz:b=a=>h (by rw[z];exact n))];exact k,h⟩⟩;refine⟨⟨by rw[length_set];exact s.len,s.nd,λj b i c d=>?_⟩,x⟩;by_cases f:j=l
 ·subst f;rw[e] at c;cases c;have p:j<S.length:=by rw[← s.len];exact(List.getElem?_eq_some_iff.mp e).1
  rw[getElem?_set_self p] at d;cases d;exact m J _ x rfl rfl
 rw[getElem?_set_ne (Ne.symm f)] at d;refine(s.at_ j b i c d).ex x ?_;rw[aJ];intro z;subst z;exact f ((List.getElem?_inj (List.getElem?_eq_some_iff.mp c).1 s.nd).mp (c.trans e.symm))
def ve (x k v:D)(ρ:JQ)(S:JP):Out Fl:=match x with
 | .loc l=>match S[l]?,fy k with
  |some (.dict kvs),some _=>if kvs.length<sizeLine then JV (.next ρ) (S.set l (.dict (putD kvs k v))) else none
  |_,_=>none
 |_=>none
def xZ (fo fi fv:JJ D):JJ Fl:=λa S=>ai (fv a S) λv c=>ai (fo a c) λx b=>ai (fi a b) λk d=>ve x k v a d
def tH (X:Cx)(W:WT)(ds:List D)(vs:List V)(g:JJ Fl):TS:=λE c H => ∃ J a S r b,Cf X J a S c H/\JW X.K H J ds vs/\g a S=some (r,b)/\MA X W J H r b E
theorem tH.J5 {f:JJ D}{k:D->JJ Fl}{ds:List D}{vs:List V}{E:Ends}{g:St}{H:Hp}
  (h:tH X W ds vs (λρ S=>ai (f ρ S) λd b=>k d ρ b) E g H):tE X W f g H λv i => ∃ d,tH X W (d::ds) (v::vs) (k d) E g i:=by
 obtain⟨J,ρ,S,r,n,c,a,e,z⟩:=h;cases q:f ρ S with
 |none=>simp[q] at e
 |some o =>
  obtain⟨j,b⟩:=o;simp only[q] at e;cases j with
  |error x =>
   cases e;exact⟨J,ρ,S,.error x,_,c,.nil,q,z⟩
  |ok d=>exact⟨J,ρ,S,.ok d,b,c,.nil,q,λp i v x l m=>⟨d,p,ρ,b,r,n,c.re x l,.cons m (a.ex x),e,z.ex x⟩⟩
theorem vN {k:D}{y:Key}{K:JK}{H:Hp}{J:List Addr}{v:V}(g:fy k=some y)(a:At K H J k v):v=kV y:=by
 cases k with
 |int i=>cases g;exact At.JS.mp a
 |str x=>cases g;exact(At.J9.mp a).1
 |_=>cases g
theorem w9 (N:X.A.units+1<cLine)(C:SE X W o fo)(B:SE X W i fi)(u:SE X W e fv)(R:swapsWith e (some (.Subscript o i pos')) pos.line X.env=pure false:=by rfl):SS X W (.Assign [.Subscript o i pos'] e pos) (xZ fo fi fv):=
 (DD N C B u R).imp λE j H h=>by
  have h:tH X W [] [] (xZ fo fi fv) E j H:=let ⟨J,g,S,r,s,c,e,z⟩:=h;⟨J,g,S,r,s,c,.nil,e,z⟩;refine(tH.J5 h).mono λv Y ⟨F,D⟩=>(tH.J5 D).mono λx Z ⟨K,w⟩=>(tH.J5 w).mono λy H3 ⟨M,Q⟩=>?_;obtain⟨J,g,S,r,s,c,m,e,z⟩:=Q;obtain⟨mk,m⟩:=m.JZ;obtain⟨I,m⟩:=m.JZ;obtain⟨O,_⟩:=m.JZ;unfold ve at e;cases K with
  |loc l =>
   simp only at e;split at e
   ·rename_i d T es t;split at e
    ·rename_i lt;cases e;obtain⟨a,rfl,n⟩:=At.Ke.mp I;obtain⟨U,V,f⟩:=c.Kr.at_ l a _ n es;have G:=vN t mk;subst G;have q:=c.Kr.update (o:=.dK (putK U T v)) (mo:=.dict (putD d M F)) n λJ' H' b P L=>by subst P L;refine⟨_,J4,FB t (mk.ex b) (O.ex b) ?_⟩;exact Paired.NS f λp q z=>⟨⟨z.1.1,z.1.2.ex b⟩,z.2.ex b⟩
     exact⟨a,_,rfl,Qi.k V (by rw[← kJ f];exact lt),z J j _ q.2 (c.re q.2 q.1)⟩
    cases e
   cases e
  |_=>cases e
def Er (neg:Bool)(k x:D)(S:JP):Option D:=match x with
 | .loc l=>match S[l]?,fy k with
  |some (.dict kvs),some _=>some (.bl (if neg then !(getD kvs k).isSome else (getD kvs k).isSome))
  |_,_=>none
 |_=>none
def AF (neg:Bool)(d fd:JJ D):JJ D:=λa S=>ai (d a S) λk c=>ai (fd a c) λx b=>aP (Er neg k x b) b
theorem pT {neg:Bool}{g:St}{H:Hp}{Q:VK}(h:tE X W (AF neg fi fo) g H Q):tE X W fi g H λy j=>tE X W fo g j λx b => ∃ a o,x = .ref a/\MR b a y o/\Q (.bl (if neg then !o.isSome else o.isSome)) b:=
 (tG.J5 h).mono λy j ⟨G,u⟩=>(tG.J5 u).mono λx b p=>by
  obtain⟨C,t⟩:=p
  obtain⟨J,F,S,r,I,c,m,e,z⟩:=t;obtain⟨B,m⟩:=m.JZ;obtain⟨mk,_⟩:=m.JZ;unfold Er at e;cases C with
  |loc l =>
   simp only at e;split at e
   ·rename_i A K es n;cases e;obtain⟨a,rfl,D⟩:=At.Ke.mp B;obtain⟨L,E,s⟩:=c.Kr.at_ l a _ D es;have w:=vN n mk;subst w;refine⟨a,_,rfl,MR.k E,?_⟩;have q:=z J b _ Ex.refl c.Kr (At.Kg.mpr rfl);rcases Cj n s with ⟨i,f⟩ |⟨d,v,i,f,_⟩
    ·rw[i] at q;rw[f];exact q
    rw[i] at q;rw[f];exact q
   cases e
  |_=>cases e
theorem Fs (a:X.A.units+1<cLine)(b:SE X W i fi)(c:SE X W o fo)(d:behindInMarks .In o=false:=by with_unfolding_all rfl):SE X W (.Compare i [.In] [o] pos) (AF false fi fo):=
 (FV (BF a b c) d).imp λe H Q h=>pT (neg:=false) h
theorem Fd (a:X.A.units+1<cLine)(b:SE X W i fi)(c:SE X W o fo)(d:behindInMarks .In o=false:=by with_unfolding_all rfl):MH X W (.Compare i [.In] [o] pos) (aY (AF false fi fo)):=
 (xn (BF a b c) d).imp λe H Q h=>Ly.mono (t:=GV (tE X W fi) (tE X W fo)) (λ_ _ _=>pT (neg:=false)) (fO h)
theorem zG (a:X.A.units+1<cLine)(b:SE X W i fi)(c:SE X W o fo)(d:behindInMarks .NotIn o=false:=by with_unfolding_all rfl):MH X W (.Compare i [.NotIn] [o] pos) (aY (AF true fi fo)):=
 (xn (zY a b c) d).imp λe H Q h=>Ly.mono (t:=yr (tE X W fi) (tE X W fo)) (λ_ _ _=>pT (neg:=true)) (fO h)
def zb (x k:D)(S:JP):Option D:=match x with
 | .loc l=>match S[l]?,fy k with
  |some (.dict kvs),some _=>getD kvs k
  |_,_=>none
 |_=>none
def HH (fd d:JJ D):JJ D:=λa S=>ai (fd a S) λx c=>ai (d a c) λk b=>aP (zb x k b) b
theorem Dw (F:X.A.units+1<cLine)(t:SE X W o fo)(q:SE X W i fi)(G:AK i):SE X W (.Subscript o i pos) (HH fo fi):=(DN F t q G).imp λN H Q h =>
 (tG.J5 h).mono λx L ⟨D,u⟩=>(tG.J5 u).mono λy s j=>by
  obtain⟨O,p⟩:=j
  obtain⟨J,M,S,r,P,c,m,e,z⟩:=p;obtain⟨mk,m⟩:=m.JZ;obtain⟨C,_⟩:=m.JZ;unfold zb at e;cases D with
  |loc l =>
   simp only at e;split at e
   ·rename_i B R es g;obtain⟨a,rfl,E⟩:=At.Ke.mp C;obtain⟨T,I,n⟩:=c.Kr.at_ l a _ E es;have w:=vN g mk;subst w;rcases Cj g n with ⟨b,f⟩ |⟨d,v,b,f,K⟩
    ·rw[b] at e;cases e
    rw[b] at e;cases e;exact⟨a,v,rfl,by rw[← f];exact MR.k I,z J s _ Ex.refl c.Kr K⟩
   cases e
  |_=>cases e
end
section
variable {X:Cx}{W:WT}
theorem SE.either {e:Expr}{g g1 g2:JJ D}(j:SE X W e g1)(i:SE X W e g2)(h:∀ ρ S,g ρ S=g1 ρ S∨g ρ S=g2 ρ S):SE X W e g:=λb s d H Q I z=>by
 obtain⟨J,ρ,S,r,f,c,a,e,y⟩:=z;rcases h ρ S with q |q
 ·exact j b s d H Q I ⟨J,ρ,S,r,f,c,a,by rw[← q];exact e,y⟩
 exact i b s d H Q I ⟨J,ρ,S,r,f,c,a,by rw[← q];exact e,y⟩
theorem MH.either {e:Expr}{g g1 g2:JJ Bool}(j:MH X W e g1)(i:MH X W e g2)(h:∀ ρ S,g ρ S=g1 ρ S∨g ρ S=g2 ρ S):MH X W e g:=λb s d H Q I z=>by
 obtain⟨J,ρ,S,r,f,c,a,e,y⟩:=z;rcases h ρ S with q |q
 ·exact j b s d H Q I ⟨J,ρ,S,r,f,c,a,by rw[← q];exact e,y⟩
 exact i b s d H Q I ⟨J,ρ,S,r,f,c,a,by rw[← q];exact e,y⟩
theorem SI.either {b e:Expr}{g g1 g2:JJ (List D)}(j:SI X W b e g1)(i:SI X W b e g2)(h:∀ ρ S,g ρ S=g1 ρ S∨g ρ S=g2 ρ S):SI X W b e g:=λa s d H R I z=>by
 obtain⟨J,ρ,S,r,f,c,e,y⟩:=z;rcases h ρ S with q |q
 ·exact j a s d H R I ⟨J,ρ,S,r,f,c,by rw[← q];exact e,y⟩
 exact i a s d H R I ⟨J,ρ,S,r,f,c,by rw[← q];exact e,y⟩
theorem cN {α e:Type}(m:Out α){k b d : α->JP->Out e}(h:∀ a S,k a S=b a S∨k a S=d a S):ai m k=ai m b∨ai m k=ai m d:=by
 cases m with
 |none=>exact .inl rfl
 |some o =>
  obtain⟨r,S⟩:=o;cases r with
  |error c=>exact .inl rfl
  |ok a=>exact h a S
def bA:D->Bool
 | .loc _=>true
 |_=>false
def Ks (x i:D)(S:JP):Option D:=if bA x=true then zb x i S else QO x i
def Kw (d e:JJ D):JJ D:=λa S=>ai (d a S) λx c=>ai (e a c) λi b=>aP (Ks x i b) b
variable {a b:Expr}{fa fb:JJ D}{pos:Pos}
theorem aH (k:X.A.units+1<cLine)(c:SE X W a fa)(d:SE X W b fb)(g:AK b:=by exact λ_ _=>rfl):SE X W (.Subscript a b pos) (Kw fa fb):=
 SE.either (Dw k c d g) (EM XF c d g) λe S=>cN _ λx f=>by
  by_cases h:bA x=true
  ·refine .inl (congrArg (ai (fb e f)) (funext λi=>funext λj=>?_));unfold Ks;rw[if_pos h]
  refine .inr (congrArg (ai (fb e f)) (funext λi=>funext λj=>?_));unfold Ks;rw[if_neg h]
def Ol (neg:Bool)(k x:D)(S:JP):Option D:=if bA x=true then Er neg k x S else (if neg=true then mE k x else inD k x)
def N2 (neg:Bool)(d fd:JJ D):JJ D:=λa S=>ai (d a S) λk c=>ai (fd a c) λx b=>aP (Ol neg k x b) b
theorem mI (neg:Bool)(a fd:JJ D)(ρ:JQ)(S:JP):N2 neg a fd ρ S=AF neg a fd ρ S∨N2 neg a fd ρ S=aI (if neg=true then mE else inD) a fd ρ S:=by
 unfold N2 AF aI;refine cN _ λk b=>cN _ λx c=>?_;unfold Ol;by_cases h:bA x=true
 ·exact .inl (by rw[if_pos h])
 refine .inr ?_;rw[if_neg h];cases neg<;>rfl
variable (hu:X.A.units+150<cLine) (J_:X.A.units+1<cLine)
include hu J_
theorem Fr (g:X.A.units+151<cLine)(c:SE X W a fa)(d:SE X W b fb)(e:behindInMarks .In b=false:=by with_unfolding_all rfl):SE X W (.Compare a [.In] [b] pos) (N2 false fa fb):=
 SE.either (Fs J_ c d e) (kG (EU g) c d e) λf S=>mI false fa fb f S
theorem oN {f b a:JJ D}{ρ:JQ}{S:JP}(h:f ρ S=b ρ S∨f ρ S=a ρ S):aY f ρ S=aY b ρ S∨aY f ρ S=aY a ρ S:=by
 unfold aY;rcases h with h |h
 ·exact .inl (by rw[h])
 exact .inr (by rw[h])
theorem sF (g:X.A.units+151<cLine)(c:SE X W a fa)(d:SE X W b fb)(e:behindInMarks .In b=false:=by with_unfolding_all rfl):MH X W (.Compare a [.In] [b] pos) (aY (N2 false fa fb)):=
 MH.either (Fd J_ c d e) (bu (EU g) c d e) λf S=>oN hu J_ (mI false fa fb f S)
theorem jC (g:X.A.units+151<cLine)(c:SE X W a fa)(d:SE X W b fb)(e:behindInMarks .NotIn b=false:=by with_unfolding_all rfl):MH X W (.Compare a [.NotIn] [b] pos) (aY (N2 true fa fb)):=
 MH.either (zG J_ c d e) (bu (BI g) c d e) λf S=>oN hu J_ (mI true fa fb f S)
omit hu J_
def cg:D->Option (List D)
 | .tup a=>some a
 | .lst a=>some a
 | .str x=>some (x.cps.toList.map λc=>D.str ⟨#[c]⟩)
 |_=>none
def bM (f:JJ D):JJ (List D):=λa S=>ai (f a S) λd b=>aP (cg d) b
theorem cH {h:Expr}(b:SE X W a fa):SI X W h a (bM fa):=by
 refine SI.either (g1:=xY fa) (g2:=λe S=>ai (fa e S) λd f=>aP (match d with | .lst g=>some g | .str x=>some (x.cps.toList.map λc=>D.str ⟨#[c]⟩) |_=>none) f) (Fm b) (SI.either (Fp b) (Fo b) λe S=>?_) λe S=>?_
 ·unfold CM CL;refine cN _ λd f=>?_;cases d<;>first |exact .inl rfl |exact .inr rfl
 unfold bM xY;refine cN _ λd f=>?_;cases d<;>first |exact .inl rfl |exact .inr rfl
end
noncomputable def a9 (n m:Nat) (G:JJ Fl):JO:=λa S=>if a.length=n then
  match G (a.map some++replicate m none) S with
  |some (.ok (.ret d),S')=>some (.ok d,S')
  |some (.ok (.next _),S')=>some (.ok .Kk,S')
  |_=>none
 else none
def a_ (K:JK)(mg:JN)(x:Str)(st:Stmt)(a:List Str):Prop:=∃ f fd,Oi K x x st f fd/\mg x=some (.ref f)/\Binds K fd a []
def Lu (P:Program)(w:World)(K:JK)(mg:JN)(base:Heap)(k:Nat)(x:Str)(a:List Str)(F:JO):Prop:=
 ∃ f fd,P6 P w K mg base k f fd a F/\mg x=some (.ref f)/\PySem.W.keepIn K (.ref f)=true/\Binds K fd a []
section
variable {P:Program}{w:World}{K:JK}{mg:JN}{base:Heap}
theorem kN {x:Str}{st:Stmt}{sc:Scope}{N b:List Str}{k:Nat}{G:JJ Fl}{f:Addr}{fd:FuncData}(l:Oi K x x st f fd)(n:au st=sc)(Sc:JR N b sc)
  (h:∀ (f:Addr) (a:Value) (A:Around) (outer:List Env) (s:Shared) (H:Hp) (E:XK),Kn k (A.deeper (envOfC x sc s.heap.objs.size f a))->OT (mL OP P w K mg base N x sc f a A outer s H E).Qg W0 (bO st) G) :
  P6 P w K mg base (k+1) f fd b (a9 b.length (N.length-b.length) G):=by
 subst n;refine y8 l Sc (λi S r e=>?_) λa A outer s H E j=>⟨G,h f a A outer s H E j,λi S d p e=>?_⟩
 ·unfold a9 at e;split at e
  ·assumption
  cases e
 unfold a9 at e;split at e
 ·rename_i m;rw[m];split at e
  ·rename_i o g q;cases e;exact⟨_,q,.inl rfl⟩
  ·rename_i c g q;cases e;exact⟨_,q,.inr ⟨rfl,c,rfl⟩⟩
  cases e
 cases e
theorem aV {x:Str}{st:Stmt}{sc:Scope}{N a:List Str}{k:Nat}{G:JJ Fl}(g:a_ K mg x st a)(i:au st=sc)(Sc:JR N a sc)
  (h:∀ (f:Addr) (b:Value) (A:Around) (outer:List Env) (s:Shared) (H:Hp) (E:XK),Kn k (A.deeper (envOfC x sc s.heap.objs.size f b))->OT (mL OP P w K mg base N x sc f b A outer s H E).Qg W0 (bO st) G) :
  Lu P w K mg base (k+1) x a (a9 a.length (N.length-a.length) G):=by
 obtain⟨f,fd,c,e,d⟩:=g;exact⟨f,fd,kN c i Sc h,e,c.kp,d⟩
theorem js {x:Str}{st:Stmt}{b:List Str}{k:Nat}(j:a_ K mg x st b):Lu P w K mg base k x b (λ_ _=>none):=by
 obtain⟨f,fd,g,i,c⟩:=j;have no:∀ a H Q E,¬ Tw K (λ_ _=>none) a H Q E:=λa H Q E h=>by obtain⟨J,S,l,d,m,_,_,e,_⟩:=h;cases e
 exact⟨f,fd,⟨λa H Q E h=>absurd h (no a H Q E),λA outer s H args n a Q E _ _ _ _ h=>absurd h (no a H Q E)⟩,i,g.kp,c⟩
theorem aU {A:Around}{k:Nat}(a:Kn k A):A.units+150<cLine:=by have:=a.un;omega
theorem aT {A:Around}{k:Nat}(a:Kn k A):A.units+151<cLine:=by have:=a.un;omega
end
section
variable {X:Cx}{W:WT}{x:Str}{p pos:Pos}{e:Expr}{es:List Expr}{gs:JJ (List D)}
theorem aG {k:Nat}{d:List Str}{F:JO}(C:Lu X.prog X.w X.K X.mg X.base k x d F)(h:Kn k X.A)
  (a:SA X W (e::es) gs) (i:Gl X x:=by rfl) (m:(x==("__debug__":Str))=false:=by decide) (l:starEach (e::es) X.env=(false,eval e X.env)::starEach es X.env:=by rfl) (j:(backTo pos (starEach es X.env)).any (·.1)=false:=by rfl) :
  SE X W (.Call (.Name x p) (e::es) [] pos) (aR F gs):=by
 obtain⟨f,fd,G,c,g,b⟩:=C;exact Dx G h c g b a i m l j
end
def yv (K:JK)(n:Nat):Sp:=λb H Q _ => ∃ (a:Addr) (ns:List Int),b=[.ref a]/\M0 K H a (ns.map V.int)/\ns.length<=n/\∀ c,Q (.bl true) c
theorem Gc {P:Program}{w:World}{K:JK}{mg:JN}{base:Heap}{k n:Nat}{f:Addr}{fd:FuncData}{c:List Str}{F:JO}(h:P6 P w K mg base k f fd c F)(i:n<=1000)
  (j:∀ ns:List Int,ns.length<=n->∃ b,F [.lst (ns.map .int)] []=some (.ok (.bl true),b)):LG P w K mg base OP k f fd c (yv K n):=by
 refine LG.imp h λu H Q E g=>?_;obtain⟨a,ns,e,s,d,q⟩:=g;subst e;obtain⟨b,r⟩:=j ns d;refine⟨[],[],[.lst (ns.map .int)],.bl true,b,.cons (At.Kc.mpr ⟨a,ns.map V.int,rfl,?_,JW.ofInts ns⟩) .nil,⟨rfl,.nil,λl a o h=>by simp at h⟩,r,λt p v _ _ m=>?_⟩
 ·rcases s with z |z
  ·exact .inl ⟨z,by simp,by rw[length_map];exact Nat.le_trans d (Nat.le_trans i (by decide))⟩
  exact .inr z
 rw[At.Kg.mp m];exact q p
theorem Qq {l:PySem.W.OpenLaw}{q:Program}{loose:List Str}{i:(JN)->Heap->Prop}{c:World->Heap->Prop}{d:DefRec}{K:Params->JK}{k:Nat}{x:Str}(e:l.most=some 63)(j:d.params.defaults=[])(m:Kn k callerA)
  (g:∀ (w:World) (h:Heap),c w h->(K w.params).In h)
  (F:∀ (w:World) (mg:JN) (b:Addr) (h:Heap),(K w.params).In h->h.Ns mainGlobals mg->mg d.name=some (.ref b) ->
   ∃ fd:FuncData,(∀ (s:Shared) (u:Value),BindsTo s fd ⟨[u],[]⟩ [(x,u)])/\∀ base:Heap,(K w.params).In base->base.Ns mainGlobals mg->LG l.prog w (K w.params) mg base OP k b fd [x] (yv (K w.params) 63)) :
  PySem.W.WalkO q loose i c l.row.toRowW d [] (λf vs=>PySem.call f vs):=
 L2.Q7 (n:=63) (k:=k) (x:=x) (CX:=λ_=>OP) (sp:=λw=>yv (K w.params) 63) e (by decide) j m g F (λ_ _ a ns p _ o=>⟨a,ns,rfl,o,p,λ_=>rfl⟩) λ_ _ _ _ _ z=>z
theorem cD:bootBuiltins "len"=some (.builtin "len"):=by decide
theorem bJ:bootBuiltins "tuple"=some (.type "tuple"):=by decide
theorem ur:bootBuiltins "list"=some (.type "list"):=by decide
theorem CT:bootBuiltins "int"=some (.type "int"):=by decide
theorem CP:bootBuiltins "str"=some (.type "str"):=by decide
theorem EC:bootBuiltins "bool"=some (.type "bool"):=by decide
theorem GF:bootBuiltins "set"=some (.type "set"):=by decide
theorem CS:bootBuiltins "min"=some (.builtin "min"):=by decide
theorem jW:bootBuiltins "sorted"=some (.builtin "sorted"):=by decide
theorem CQ:bootBuiltins "range"=some (.type "range"):=by decide
end L2
namespace L2
open PySem
section
variable {prog:Program}{w:World}{K:Type} [DecidableEq K]
abbrev wH (knd:KeyKind prog w K):K->Int×Value->Prop:=λk e=>knd.is k e.2=true/\e.1=knd.hash k/\e.2.scannable=true
def Mb (a:Array Nat):Prop:=a.toList.Pairwise (· < ·)
theorem Mb.lt {a:Array Nat}(h:Mb a){i j:Nat}(c:i<j)(b:j<a.size):a[i]'(Nat.lt_trans c b)<a[j]:=by have:=pairwise_iff_getElem.mp h i j (by simpa using Nat.lt_trans c b) (by simpa using b) c;simpa using this
theorem qe (b:Array Nat)(j:Nat):∀ (fuel lo a:Nat),a-lo<=fuel->lo<=a->a<=b.size->Mb b->(∀ i (h:i<b.size),i<lo->b[i]<j)->(∀ i (h:i<b.size),a<=i->j<=b[i]) ->
  SetTable.below.go b j fuel lo a<=b.size/\(∀ i (h:i<b.size),i<SetTable.below.go b j fuel lo a->b[i]<j)/\(∀ i (h:i<b.size),SetTable.below.go b j fuel lo a<=i->j<=b[i])
 | 0,lo,a,m,o,g,_,d,c=>by
  have e:lo=a:=by omega
  subst e;unfold SetTable.below.go;exact⟨g,d,c⟩
 |fuel+1,lo,a,m,o,g,hr,d,c=>by
  unfold SetTable.below.go;by_cases h:lo<a
  ·rw[if_pos h];have l:(lo+a) / 2<b.size:=by omega
   have n:b.getD ((lo+a) / 2) j=b[(lo+a) / 2]:=by simp[Array.getD,l]
   simp only[n];by_cases f:b[(lo+a) / 2]<j
   ·rw[if_pos f];refine qe b j fuel _ a (by omega) (by omega) g hr (λi k r=>?_) c;rcases lt_or_ge i ((lo+a) / 2) with q |q
    ·exact Nat.lt_trans (hr.lt q l) f
    have e:i=(lo+a) / 2:=by omega
    subst e;exact f
   rw[if_neg f];refine qe b j fuel lo _ (by omega) (by omega) (by omega) hr d λi k p=>?_;rcases lt_or_ge ((lo+a) / 2) i with q |q
   ·have:=hr.lt q k;omega
   have e:i=(lo+a) / 2:=by omega
   subst e;omega
  rw[if_neg h];have e:lo=a:=by omega
  subst e;exact⟨g,d,c⟩
theorem qd {a:Array Nat}(b:Mb a)(j:Nat):SetTable.below a j<=a.size/\(∀ i (h:i<a.size),i<SetTable.below a j->a[i]<j)/\(∀ i (h:i<a.size),SetTable.below a j<=i->j<=a[i]):=by unfold SetTable.below;exact qe a j a.size 0 a.size (by omega) (by omega) (le_refl _) b (λi _ h=>absurd h (by omega)) λi h q=>absurd h (by omega)
theorem wy {d:Array Nat}(e:Mb d){j p:Nat}(k:p<=d.size)(g:∀ i (h:i<d.size),i<p->d[i]<j)(f:∀ i (h:i<d.size),p<=i->j<=d[i]):SetTable.below d j=p:=by
 obtain⟨a,b,c⟩:=qd e j;rcases lt_trichotomy (SetTable.below d j) p with q |q |q
 ·have x:=c _ (by omega) (le_refl _);have y:=g (SetTable.below d j) (by omega) q;omega
 ·exact q
 have x:=b p (by omega) q;have y:=f p (by omega) (le_refl _);omega
theorem kI {t:SetTable}{f:Nat->Int}{h:Int}:∀ (fuel:Nat) (p:SetTable.Probe) {j:Nat}{a:Option Nat},(∀ d,p.dummy=some d->t.slot d = .dummy)->SetTable.probe.go t f h fuel p=some (.empty j a)->t.slot j = .empty/\∀ d,a=some d->t.slot d = .dummy
 | 0,p,j,a,_,e=>by unfold SetTable.probe.go at e;cases e
 |fuel+1,p,j,a,hd,e=>by
  have c:∀ q:SetTable.Probe,(t.advance q).dummy=q.dummy:=λq=>by unfold SetTable.advance;split<;>rfl
  unfold SetTable.probe.go at e;split at e
  ·rename_i b;cases e;exact⟨b,hd⟩
  ·rename_i b;exact kI fuel _ (by rw[c];intro d q;cases q;exact b) e
  split at e
  ·cases e
  exact kI fuel _ (by rw[c];exact hd) e
theorem Ar {t:SetTable}{h:Int}{j:Nat}{c:Bool}(e:t.freeSlot h=some (j,c)):∀ i,t.slot j≠.live i:=by
 unfold SetTable.freeSlot at e;split at e
 ·rename_i k a q;obtain⟨f,b⟩:=kI _ _ (by intro d z;cases z) q;cases e;intro i;cases a with
  |none=>rw[show (none:Option Nat).getD k=k from rfl,f];intro z;cases z
  |some d=>rw[show (some d).getD k=d from rfl,b d rfl];intro z;cases z
 cases e
theorem Mb.put {t:SetTable}(f:Mb t.place){j:Nat}(r:∀ i,t.slot j≠.live i):Mb (t.put j).1.place:=by
 obtain⟨a,b,c⟩:=qd f j;have m:t.place[SetTable.below t.place j]?≠some j:=λe=>r (SetTable.below t.place j) (by unfold SetTable.slot;simp[e]);unfold SetTable.put Mb SetTable.insertAt;simp only[toList_append,toList_push,toList_extract];have v:(t.place.toList.drop 0).take (SetTable.below t.place j-0)=t.place.toList.take (SetTable.below t.place j):=by simp
 have key:∀ i,SetTable.below t.place j<=i->∀ h:i<t.place.size,j<t.place[i]:=by
  intro i d h;have n:=c i h d;rcases lt_or_ge j t.place[i] with q |q
  ·exact q
  exfalso;have g:SetTable.below t.place j<t.place.size:=by omega
  have w:=c _ g (le_refl _);rcases lt_or_ge (SetTable.below t.place j) i with z |z
  ·have:=f.lt z h;omega
  have e:SetTable.below t.place j=i:=by omega
  refine m ?_;rw[Array.getElem?_eq_getElem g];congr 1;have:t.place[SetTable.below t.place j]=t.place[i]:=by simp only[e]
  omega
 have s:(t.place.toList.drop (SetTable.below t.place j)).take (t.place.size-SetTable.below t.place j)=t.place.toList.drop (SetTable.below t.place j):=take_of_length_le (by simp);simp only[List.extract_eq_drop_take,drop_zero,Nat.sub_zero] at *
 rw[s];rw[List.append_assoc,pairwise_append,List.singleton_append,pairwise_cons];refine⟨f.sublist (List.take_sublist ..),⟨λy hy=>?_,f.sublist (List.drop_sublist ..)⟩,λx o y hy=>?_⟩
 ·obtain⟨i,d,e⟩:=getElem_of_mem hy;rw[List.getElem_drop] at e;have:=key (SetTable.below t.place j+i) (by omega) (by simp at d;omega);rw[getElem_toList] at e;omega
 obtain⟨i,d,e⟩:=getElem_of_mem o;rw[List.getElem_take,getElem_toList] at e;have p:i<SetTable.below t.place j:=by simp at d;omega
 have n:=b i (by omega) p;rcases mem_cons.mp hy with rfl |hy
 ·omega
 obtain⟨k,l,u⟩:=getElem_of_mem hy;rw[List.getElem_drop,getElem_toList] at u;have:=key (SetTable.below t.place j+k) (by omega) (by simp at l;omega);omega
theorem Mb.range (n:Nat):Mb (Array.range n):=by unfold Mb;rw[Array.toList_range];exact List.pairwise_lt_range
theorem Mb.orStandIn {t:SetTable}(n:Nat)(h:Mb t.place):Mb (t.orStandIn n).place:=by
 unfold SetTable.orStandIn;split
 ·exact h
 exact Mb.range n
theorem xE {t:SetTable}(es:Array (Int×Value))(h:Int)(x:Value)(a:Mb t.place):Mb (layNew t es h x).2.1.place:=by
 unfold layNew;split
 ·rename_i slot b e;exact Mb.orStandIn _ (a.put (Ar e))
 exact Mb.range _
theorem xi {t t':SetTable}{f:Array Int}{n:Nat}{order:Array Nat}(h:t.relaid f n=some (t',order)):Mb t'.place:=by
 unfold SetTable.relaid SetTable.laid at h;cases e:SetTable.layClean (SetTable.sizeAbove n-1) f with
 |none=>simp[e] at h
 |some o =>
  simp only[e,Option.bind_eq_bind,bind_some,pure_def,Option.some.injEq,Prod.mk.injEq] at h;obtain⟨rfl,_⟩:=h;unfold Mb;simp only[List.toList_toArray,pairwise_map];rw[List.pairwise_filterMap];refine List.pairwise_lt_range.imp λ{a b} g c e d hd=>?_;obtain⟨u,_,rfl⟩:=map_eq_some_iff.mp e;obtain⟨v,_,rfl⟩:=map_eq_some_iff.mp hd;exact g
theorem tm {t:SetTable}(es:Array (Int×Value))(n:Nat):Mb (relayAll t es n).2.1.place:=by
 unfold relayAll;split
 ·rename_i a order e;dsimp only;split
  ·exact xi e
  exact Mb.range _
 exact Mb.range _
def KU (knd:KeyKind prog w K)(pk:K->Bool)(led:Bool)(h:Heap)(a:Addr)(b:List K):Prop:=
 ∃ o es ep t,h.get? a=some o/\o.ExactSet/\o.data = .set es ep t/\(∃ l:List (Int×Value),l.Perm es.toList/\Paired (wH knd) b l) /\
  es.size<scanBound/\t.fits es.size=true/\t.led=led/\(t.plain=true->∀ k∈b,pk k=true)/\Mb t.place
theorem pc {α c:Type}{F : α->c->Prop}{l:List α}{m:List c}(r:Paired F l m):∀ b∈m,∃ a∈l,F a b:=by
 induction r with
 |nil=>intro b hb;cases hb
 |cons f t e =>
  intro b hb;rcases mem_cons.mp hb with rfl |hb
  ·exact⟨_,mem_cons_self ..,f⟩
  obtain⟨a,d,g⟩:=e b hb;exact⟨a,mem_cons_of_mem _ d,g⟩
theorem vk {α c:Type}{F : α->c->Prop}{l:List α}{m:List c}(r:Paired F l m):∀ a∈l,∃ b∈m,F a b:=by
 induction r with
 |nil=>intro b hb;cases hb
 |cons f t e =>
  intro b hb;rcases mem_cons.mp hb with rfl |hb
  ·exact⟨_,mem_cons_self ..,f⟩
  obtain⟨a,d,g⟩:=e b hb;exact⟨a,mem_cons_of_mem _ d,g⟩
theorem vj {α c:Type}{F : α->c->Prop}{l:List α}{m:List c}(r:Paired F l m){a : α}{b : c}(f:F a b):Paired F (l++[a]) (m++[b]):=by
 induction r with
 |nil=>exact .cons f .nil
 |cons g t d=>exact .cons g d
theorem nE {α a:Type}{F : α->a->Prop}{l:List α}{m:List a}(r:Paired F l m):l.length=m.length:=by
 induction r with
 |nil=>rfl
 |cons g t b=>simp[b]
variable {knd:KeyKind prog w K}{pk:K->Bool}{led:Bool}
theorem qq (t:SetTable)(n:Nat):(t.orStandIn n).led=t.led/\((t.orStandIn n).plain=true->t.plain=true):=by
 unfold SetTable.orStandIn;split
 ·exact⟨rfl,id⟩
 exact⟨rfl,λz=>by simp[SetTable.standIn] at z⟩
theorem xF (t:SetTable)(es:Array (Int×Value))(h:Int)(x:Value):(layNew t es h x).2.1.led=t.led/\((layNew t es h x).2.1.plain=true->t.plain=true):=by
 unfold layNew;split
 ·rename_i slot a _;exact qq (t.put slot).1 _
 exact⟨rfl,λz=>by simp[SetTable.standIn] at z⟩
theorem xj {t t':SetTable}{a:Array Int}{n:Nat}{order:Array Nat}(h:t.relaid a n=some (t',order)):t'.led=t.led/\t'.plain=t.plain:=by
 unfold SetTable.relaid SetTable.laid at h;cases hc:SetTable.layClean (SetTable.sizeAbove n-1) a with
 |none=>simp[hc] at h
 |some o =>
  simp only[hc,Option.bind_eq_bind,bind_some,pure_def,Option.some.injEq,Prod.mk.injEq] at h;obtain⟨rfl,_⟩:=h;exact⟨rfl,rfl⟩
theorem tw (t:SetTable)(es:Array (Int×Value))(n:Nat):(relayAll t es n).2.1.led=t.led/\((relayAll t es n).2.1.plain=true->t.plain=true):=by
 unfold relayAll;split
 ·rename_i c order e;obtain⟨b,a⟩:=xj e;dsimp only;split
  ·exact⟨b,λz=>by rw[← a];exact z⟩
  exact⟨rfl,λz=>by simp[SetTable.standIn] at z⟩
 exact⟨rfl,λz=>by simp[SetTable.standIn] at z⟩
theorem KU.elems {h:Heap}{a:Addr}{d:List K}{es:Array (Int×Value)}(c:∃ l:List (Int×Value),l.Perm es.toList/\Paired (wH knd) d l):ElemsOf knd es.toList:=λe f=>by obtain⟨l,p,r⟩:=c;obtain⟨k,_,i,b,g⟩:=pc r e (p.mem_iff.mpr f);exact⟨⟨k,i,b⟩,g⟩
theorem KU.mem {c:List K}{es:Array (Int×Value)}(h:∃ l:List (Int×Value),l.Perm es.toList/\Paired (wH knd) c l)(k:K):k∈c↔∃ e∈es.toList,knd.is k e.2=true:=by
 obtain⟨l,p,r⟩:=h;constructor
 ·intro f;obtain⟨e,a,b,_⟩:=vk r k f;exact⟨e,p.mem_iff.mp a,b⟩
 rintro⟨e,a,b⟩;obtain⟨i,d,g,_⟩:=pc r e (p.mem_iff.mpr a);rw[knd.inj e.2 k i b g];exact d
def cy (a:List K)(k:K):List K:=if k∈a then a else a++[k]
variable {A:Around}{E:JL}{s:Shared}
theorem KU.stored {h:Heap}{a:Addr}{o:Obj}{es:Array (Int×Value)}{ep:Nat}{t:SetTable}(e:h.get? a=some o)(hex:o.ExactSet)(hd:o.data = .set es ep t){b:Array (Int×Value)}{t':SetTable}{c:List K}
  (n:∃ l:List (Int×Value),l.Perm b.toList/\Paired (wH knd) c l) (j:b.size<scanBound) (i:t'.fits b.size=true) (f:t'.led=led) (d:t'.plain=true->∀ k∈c,pk k=true) (m:Mb t'.place) :
  (h.update a (Obj.putSet b t')).get? a=some { o with data:=.set b (ep+1) t' }/\KU knd pk led (h.update a (Obj.putSet b t')) a c:=by
 have g:(h.update a (Obj.putSet b t')).get? a=some { o with data:=.set b (ep+1) t' }:=by have q:=Heap.get?_update_self (Obj.putSet b t') e (by rw[putSet_of b t' hd];rfl);rw[putSet_of b t' hd] at q;exact q
 exact⟨g,_,b,ep+1,t',g,hex,rfl,n,j,i,f,d,m⟩
theorem pL (b:Bool){a:Shared}{c:Unit->Shared->Prop}(d:c () a):wpAny (model prog w) A (match b with |true=>rule "set.scan.the-table-gave-way" |false=>pure ()) c E a:=by
 cases b
 ·exact wpAny_pure d
 exact wpAny_rule d
theorem yy {g:Bool->Sem Unit}(J:∀ (b:Bool) (d:Shared) (q:Unit->Shared->Prop),q () d->wpAny (model prog w) A (g b) q E d)
  {a:Addr}{o:Obj}{es:Array (Int×Value)}{ep:Nat}{t:SetTable}(v:s.heap.get? a=some o) (hex:o.ExactSet) (hd:o.data = .set es ep t)
  {c:Array (Int×Value)}{t2:SetTable}{m:List K}(F:∃ l:List (Int×Value),l.Perm c.toList/\Paired (wH knd) m l)
  (n:c.size<scanBound) (H:t2.fits c.size=true) (x:t2.led=led) (u:t2.plain=true->∀ k∈m,pk k=true) (I:Mb t2.place) {M:Bool}{R:Option Bool->Shared->Prop}
  (h:∀ h',Heap.SameBut a s.heap h'->KU knd pk led h' a m->R (some true) { s with heap:=h' }) :
  wpAny (model prog w) A (do
    storeSet a c t2
    if (!M&&t2.tooFull)=true then do
      g (relayAll t2 c (SetTable.grown c.size)).2.2
      storeSet a (relayAll t2 c (SetTable.grown c.size)).1 (relayAll t2 c (SetTable.grown c.size)).2.1
      pure (some true)
     else pure (some true)) R E s:=by
 obtain⟨D,L⟩:=KU.stored (knd:=knd) (pk:=pk) v hex hd F n H x u I;refine wpAny_bind (wpAny_storeSet_of v hd ?_ (fits_of_scanBound n));have sb:=Heap.SameBut.update s.heap a (Obj.putSet c t2);split
 ·have e:=relayAll_perm t2 c (SetTable.grown c.size);have i:=relayAll_fits t2 c (SetTable.grown c.size);have f:=tw t2 c (SetTable.grown c.size);have j:=tm (t:=t2) c (SetTable.grown c.size);revert e i f j;generalize relayAll t2 c (SetTable.grown c.size)=Y;intro e i f j;obtain⟨C,O,N⟩:=Y;simp only at e i f j ⊢;have z:C.size=c.size:=by have:=e.length_eq;simpa using this
  obtain⟨l,p,r⟩:=F;have B:C.size<scanBound:=by rw[z];exact n
  obtain⟨_,G⟩:=KU.stored (knd:=knd) (pk:=pk) (led:=led) D hex rfl ⟨l,p.trans e.symm,r⟩ B i (f.1.trans x) (λy=>u (f.2 y)) j;exact wpAny_bind (J _ _ _ (wpAny_bind (wpAny_storeSet_of D rfl (wpAny_pure (h _ (sb.trans (Heap.SameBut.update _ a _)) G)) (fits_of_scanBound B))))
 exact wpAny_pure (h _ sb L)
theorem Dr {a:Addr}{c:List K}{k:K}{x:Value}{Q:Bool->Shared->Prop}(W:plainKind x=pk k)(L:knd.is k x=true)(B:x.scannable=true)(T:KU knd pk led s.heap a c)(XU:c.length+1<scanBound)
  (h:∀ b h',Heap.SameBut a s.heap h'->KU knd pk led h' a (cy c k)->Q b { s with heap:=h' }):wpAny (model prog w) A (setAddHashed a x (knd.hash k)) Q E s:=by
 obtain⟨o,es,ep,t,u,hex,hd,g,I,F,v,y,O⟩:=T;have H:=KU.elems (h:=s.heap) (a:=a) g;have hn:es.size=c.length:=by obtain⟨l,p,r⟩:=g;have Z:=p.length_eq;have e2:=nE r;simp only[length_toList] at Z;omega
 unfold setAddHashed setAddHashedIn;refine wpAny_holding (wpAny_bind (wpAny_setState_of u hd F ?_));simp only;rw[byScan_of B I H,if_pos rfl];unfold setAddByScan;refine wpAny_bind (wpAny_bind (wpAny_rule (wpAny_bind (wpAny_setScan_of L u hd F H ?_))));cases hr:List.findIdx? (λe=>knd.is k e.2) es.toList with
 |some j =>
  obtain⟨hj,X,_⟩:=List.findIdx?_eq_some_iff_getElem.mp hr;have J:k∈c:=(KU.mem g k).mpr ⟨es.toList[j],getElem_mem hj,X⟩;refine wpAny_pure (wpAny_pure ?_);exact h _ s.heap (Heap.SameBut.refl a s.heap) ⟨o,es,ep,t,u,hex,hd,by unfold cy;rw[if_pos J];exact g,I,F,v,by unfold cy;rw[if_pos J];exact y,O⟩
 |none =>
  have WA:k∉c:=λhk=>by obtain⟨e,S,y⟩:=(KU.mem g k).mp hk;have q:=List.findIdx?_eq_none_iff.mp hr e S;rw[y] at q;cases q
  have ek:cy c k=c++[k]:=by unfold cy;rw[if_neg WA]
  rw[ek] at h;have i:=layNew_perm t es (knd.hash k) x;have f:=layNew_fits t es (knd.hash k) x;have d:=xF t es (knd.hash k) x;have m:=xE es (knd.hash k) x O;dsimp only;revert i f d m;generalize layNew t es (knd.hash k) x=Y;intro i f d m;obtain⟨N,t1,wd,R⟩:=Y;simp only at i f d m ⊢;rw[toList_push] at i;have P:∃ l:List (Int×Value),l.Perm N.toList/\Paired (wH knd) (c++[k]) l:=by obtain⟨l,p,r⟩:=g;exact⟨l++[(knd.hash k,x)],(p.append_right _).trans i.symm,vj r ⟨L,rfl,B⟩⟩
  have M:N.size<scanBound:=by have:=i.length_eq;simp only[length_toList,List.length_append,length_singleton] at this;omega
  refine wpAny_bind (pL R ?_);split
  ·rename_i G;refine wpAny_bind ?_;rw[hashByValue_scannable 8 B];refine wpAny_pure ?_;refine yy (pk:=pk) (led:=led) (λb n U D=>pL b D) u hex hd P M ?_ ?_ ?_ ?_ λh' sb C=>?_
   ·split
    ·exact f
    exact SetTable.fits_plain_off f
   ·split
    ·exact d.1.trans v
    exact d.1.trans v
   ·split
    ·rename_i V;intro OY k' Rj;rcases mem_append.mp Rj with Rj |Rj
     ·exact y (d.2 OY) k' Rj
     rw[mem_singleton.mp Rj,← W];exact V
    intro z;cases z
   ·split<;>exact m
   exact wpAny_pure (h _ h' sb C)
  rename_i G;refine wpAny_bind (wpAny_pure ?_);rw[if_pos rfl];refine yy (pk:=pk) (led:=led) (λb n U D=>pL b D) u hex hd P M f (d.1.trans v) (λz=>absurd z G) m λh' sb C=>?_;exact wpAny_pure (h _ h' sb C)
end
namespace SF
theorem Oo:entryFor table "set.update.loop"=some Builtin.«set.update.loop»:=entryFor_of_tree (by kernel_rfl)
theorem N3:plainId "set.update.loop"=true:=by decide
theorem Uw (a:Value):checkTypeCall "set" ⟨[a],[]⟩=pure ():=by kernel_rfl
theorem Ux (a:Value):checkBuiltinCall "set.__new__" ⟨[.type "set",a],[]⟩=pure ():=by kernel_rfl
theorem Qs:entryFor table "set.__iter__"=some Builtin.«frozenset.__iter__»:=entryFor_alias (id':="frozenset.__iter__") (by kernel_rfl) rfl (by decide) (by kernel_rfl)
theorem slot_next:Slot "set_iterator" "__next__" "set_iterator.__next__":=
 .of (owner:="set_iterator") (n:="__next__") (by rw[typeLookup_type,builtinLookup_eq_fast];kernel_rfl) (by decide) (by decide) (by decide)
  (by first |exact .inl (by decide) |exact .inr (by decide)) (by rw[isSubtype_type];kernel_rfl)
theorem slot_self:Slot "set_iterator" "__iter__" "set_iterator.__iter__":=
 .of (owner:="set_iterator") (n:="__iter__") (by rw[typeLookup_type,builtinLookup_eq_fast];kernel_rfl) (by decide) (by decide) (by decide)
  (by first |exact .inl (by decide) |exact .inr (by decide)) (by rw[isSubtype_type];kernel_rfl)
theorem Oq:entryFor table "set_iterator.__next__"=some Builtin.«set_iterator.__next__»:=entryFor_of_tree (by kernel_rfl)
theorem Qt:Manifest.owners.lookup (String.ofList ['r','o','t','a','r','e','t','i','_','t','e','s'].reverse)=some Manifest.sig_set_iterator:=by kernel_rfl
theorem args_next (a:Value):argsOk "set_iterator.__next__" ⟨[a],[]⟩:=by unfold argsOk;rw[signature?_of (id:="set_iterator.__next__") (n:=['_','_','t','x','e','n','_','_']) (o:=['r','o','t','a','r','e','t','i','_','t','e','s']) (by kernel_rfl) Qt];kernel_rfl
end SF
section
variable {prog:Program}{w:World}{K:Type} [DecidableEq K] {knd:KeyKind prog w K}{pk:K->Bool}{led:Bool}
def met (val:Nat->K)(i:Nat):List K:=((List.range i).map val).foldl cy []
theorem vE (val:Nat->K)(i:Nat):met val (i+1)=cy (met val i) (val i):=by unfold met;rw[List.range_succ,map_append,List.foldl_append];rfl
theorem yN (val:Nat->K):∀ i,(met val i).length<=i
 | 0=>le_refl _
 |i+1=>by
  have a:=yN val i;rw[vE];unfold cy;split
  ·omega
  rw[List.length_append,length_singleton];omega
section
variable {A:Around}{R:Result->Shared->Prop}{I:Addr}{fp wr:List Addr}{G:Array GenState->Array GenState->Prop}{n:Nat}{P:Nat->Value->Prop}{St:Nat->Shared->Prop}
theorem KU.keep {h h':Heap}{a:Addr}{b:List K}(x:KU knd pk led h a b)(e:∀ o,h.get? a=some o->h'.get? a=some o):KU knd pk led h' a b:=by obtain⟨o,es,ep,t,c,r⟩:=x;exact⟨o,es,ep,t,e o c,r⟩
theorem A8 (W:WalksS prog w A.in1 I fp wr G n P St)(S:Addr)(l:S∉fp)(val:Nat->K)(t:∀ i v,P i v->knd.is (val i) v=true/\v.scannable=true/\plainKind v=pk (val i))(a:n+1<scanBound) :
  ∀ (k i:Nat) (s:Shared),n-i=k->i<=n->St i s->KU knd pk led s.heap S (met val i) ->
   (∀ s',Moved (S::wr) G s s'->KU knd pk led s'.heap S (met val n)->R (.ok (.ret .none)) s') ->
   codeAny (model prog w) A (.builtin "set.update.loop" ⟨[.ref S,.ref I],[]⟩) R s:=by
 have g:S∉wr:=λh=>l (W.sub _ h);intro k
 induction k with
 |zero =>
  intro i s q r st f d;obtain rfl:i=n:=by omega
  refine codeAny_builtin SF.Oo ?_;rw[Around.under_plainId SF.N3 _];show wpAny _ A.in1 (pyNext (.ref I) >>= _) _ _ s;refine wpAny_bind (W.done s _ _ st λs' c=>?_);show wpAny _ A.in1 (ret Value.none) _ _ s';exact wpAny_pure (d s' (c.mono λb a=>mem_cons_of_mem _ a) (f.keep λo e=>c.heap S o g e))
 |succ k E =>
  intro i s q r st f d;have p:i<n:=by omega
  refine codeAny_builtin SF.Oo ?_;rw[Around.under_plainId SF.N3 _];show wpAny _ A.in1 (pyNext (.ref I) >>= _) _ _ s;refine wpAny_bind (W.item i s _ _ p st λv s' J y c=>?_);obtain⟨m,H,F⟩:=t i v J;show wpAny _ A.in1 (holding [v] (setAdd S v) >>= _) _ _ s';refine wpAny_bind (wpAny_holding ?_);unfold setAdd;refine wpAny_holding (wpAny_bind (knd.pyHash m ?_));have C:(met val i).length+1<scanBound:=by have:=yN val i;omega
  refine Dr (pk:=pk) (led:=led) (s:={ s' with toks:=s'.toks+1 }) F m H (f.keep λo e=>c.heap S o g e) C λb L sb j=>?_;rw[← vE] at j;refine wpAny_pure ⟨plainId_quiet SF.N3 _,E (i+1) _ (by omega) p (W.frame _ s' _ _ y (le_succ _) λb a o e=>?_) j λB x u=>?_⟩
  ·rw[sb.2 b (λz=>l (z▸a))];exact e
  refine d B (Moved.trans W.gtrans ((c.mono λb a=>mem_cons_of_mem _ a).then_heap (le_succ _) λb o D e=>?_) x) u;rw[sb.2 b (λz=>D (z▸mem_cons_self))];exact e
end
section
variable {A:Around}{E:JL}{s:Shared}
def Ot (w:World):Bool:=w.params.followText "set-order"
abbrev nZ (w:World):Obj:={ cls:=.type "set",dict:=none,data:=.set #[] 0 (.fresh 0 0 (!Ot w)) }
theorem A7 (a:Value){Q₁:JL}(h:Q₁ (.ref s.heap.objs.size) { s with heap:=s.heap.push (nZ w) }) :
  codeAny (model prog w) A (.call (.builtin "set.__new__") ⟨[.type "set",a],[]⟩) (wants Q₁ E) s:=by
 refine codeAny_of_tree ?_;show wpAny _ A.in1 (do checkBuiltinCall "set.__new__" ⟨[.type "set",a],[]⟩;again (.builtin "set.__new__" ⟨[.type "set",a],[]⟩)) _ _ s;refine wpAny_bind (wpAny_of_eq (SF.Ux a) (wpAny_pure ⟨plainId_quiet F.plain_set_new _,codeAny_builtin F.entry_set_new ?_⟩));rw[Around.under_plainId F.plain_set_new _];unfold Builtin.«set.__new__» Builtin.Frozenset.newClass;have q:=sub_set_self;obtain⟨b,g,d,tk,os⟩:=s;dsimp only
 wp_walk
 refine wpAny_askSetting (wpAny_pure ?_);simp only[newObj];exact wpAny_bind (wpAny_alloc (wpAny_pure (wpAny_pure h)))
theorem zJ {M:Model}{self a:Value}{Q:Unit->Shared->Prop}(c:s.TypeIs self "set")(i:Q () s):wpAny M A (checkBuiltinCall "set.__init__" ⟨[self,a],[]⟩) Q E s:=by
 simp only[checkBuiltinCall,kind_set_init,split_set_init,sig_set_init];refine wpAny_bind (wpAny_isInstance c sub_set_self ?_);simp only[Bool.not_true,false_eq_true,if_false];unfold Bind.checkArgs;dsimp only;refine wpAny_bind (m:=Bind.printed "set" true _ _) (PyProof.Rows.printed_name (by decide) ?_);refine wpAny_bind (m:=Bind.printed "*" false _ _) (PyProof.Rows.printed_star (self:=self) rfl c λb=>?_);have d:(Manifest.Receiver.self==Manifest.Receiver.none)=false:=by decide
 have f:(if (Manifest.Receiver.self==Manifest.Receiver.none)=true then [self,a].length else [self,a].length-1)=1:=by simp[d]
 rw[f];simp only[map_nil];have e:(Manifest.ParamKind.posOnly==Manifest.ParamKind.posOnly)=true:=by decide
 have h:(Manifest.ParamKind.posOnly==Manifest.ParamKind.posOrKw)=false:=by decide
 have j:(Manifest.ParamKind.posOnly==Manifest.ParamKind.varPos)=false:=by decide
 have g:Bind.check ⟨.positional,"set","*",.self,[⟨"iterable",.posOnly,false⟩]⟩ "set" b 1 []=pure ():=by simp[Bind.check,Bind.checkCount,Bind.isPositional,e,h,j]
 rw[g];exact wpAny_pure i
theorem KU.start {h:Heap}{a:Addr}(e:h.get? a=some (nZ w)):KU knd pk (!Ot w) h a []:=
 ⟨nZ w,#[],0,.fresh 0 0 (!Ot w),e,⟨rfl,rfl,rfl⟩,rfl,⟨[],.refl _,.nil⟩,by decide,by rfl,rfl,(λ_ k b=>by cases b),List.Pairwise.nil⟩
set_option maxHeartbeats 3200000 in
theorem ug {l:Addr}{items:Array Value}{Q:JL}(G:A.handled=none)(P:s.heap.IsTuple l items)(val:Nat->K)(S:∀ (i:Nat) v,items[i]?=some v->knd.is (val i) v=true/\v.scannable=true/\plainKind v=pk (val i))
  (g:items.size+1<scanBound)
  (h:∀ (h':Heap) (tk:Nat),KU knd pk (!Ot w) h' s.heap.objs.size (met val items.size)->(∀ b o,b<s.heap.objs.size->s.heap.get? b=some o->h'.get? b=some o)->Q (.ref s.heap.objs.size) { s with heap:=h',toks:=tk }) :
  wpAny (model prog w) A (call (.type "set") [.ref l]) Q E s:=by
 obtain⟨c,tl,ZP⟩:=F.called_set.mro;have c1:=F.called_set.made;have c2:=F.called_set.sub;refine wpAny_call (codeAny_of_tree ?_);show wpAny _ _ (callAny (.type "set") _) _ _ _;refine wpAny_pure ⟨Code.quiet_builtin _ (by decide),codeAny_builtin F.entry_type_call ?_⟩;rw[Around.under_plain (weight_type_call_type "set" [.ref l] []) rfl];have c3:=F.called_set.notType;have c4:=F.called_set.canCreate;have c5:=SF.Uw (.ref l)
 repeat (any_goals (first |assumption |wp_step))
 refine codeAny_mono (A7 (.ref l) (E:=E) (Q₁:=λobj a=>obj = .ref s.heap.objs.size/\a={ s with heap:=s.heap.push (nZ w) }) ⟨rfl,rfl⟩) λr a j=>?_;cases r with
 |error e=>exact j
 |ok X =>
  cases X with
  |ret obj =>
   obtain⟨rfl,rfl⟩:=j;have p:(s.heap.push (nZ w)).get? s.heap.objs.size=some (nZ w):=Heap.get?_push_size _ rfl;have B:Shared.TypeIs { s with heap:=s.heap.push (nZ w) } (.ref s.heap.objs.size) "set":=⟨_,p,rfl⟩;have Z:=F.called_set.init.lookup;have i2:=F.called_set.init.bind (.ref s.heap.objs.size)
   repeat (any_goals (first |assumption |wp_step))
   refine codeAny_mono (codeAny_call_builtin (R:=wants (λr d=>r = .none/\∃ h' tk,d={ s with heap:=h',toks:=tk }/\KU knd pk (!Ot w) h' s.heap.objs.size (met val items.size) /\
     (∀ b o,b<s.heap.objs.size->s.heap.get? b=some o->h'.get? b=some o)) E) F.called_set.init.plain F.entry_set_init (zJ B ?_)) λf d m=>?_
   ·obtain⟨⟨ZQ,Y,X3,WB⟩,y,q,n,u⟩:=id P;simp only at q u;subst q u;have t:=Heap.get?_push_of_some (nZ w) y;have t1:=F.sub_tuple_set;have t2:=F.sub_tuple_frozenset;have t3:(Value.type "tuple"==Value.type "dict")=false:=by decide
    have W:(s.heap.push (nZ w)).IsTuple l items:=⟨_,t,rfl,n,rfl⟩;unfold Builtin.«set.__init__» noKeywords Builtin.Frozenset.updateFrom;generalize L:pyIter=PI
    wp_walk
    subst L;refine wpAny_pyIter_tuple W ?_;refine wpAny_bind (wpAny_runValue ?_);have x:l<s.heap.objs.size:=Heap.lt_size y;have z1:(s.heap.push (nZ w)).objs.size=s.heap.objs.size+1:=Heap.size_push ..;have M:l≠(s.heap.push (nZ w)).objs.size:=by rw[z1];exact ne_of_lt (lt_succ_of_lt x)
    have V:s.heap.objs.size∉[(s.heap.push (nZ w)).objs.size,l]:=by
     rw[z1];intro hm;rcases mem_cons.mp hm with e |hm
     ·exact ne_of_lt (lt_succ_self _) e
     exact ne_of_gt x (mem_singleton.mp hm)
    refine A8 (pk:=pk) (led:=!Ot w) ((Walks.tuple (by simp[G]) _ l M items).toS) s.heap.objs.size V val S g (items.size-0) 0 _ (by omega) (zero_le _)
     ⟨⟨_,Heap.get?_push_size _ rfl,rfl,rfl⟩,⟨_,Heap.get?_push_of_some _ t,rfl,n,rfl⟩⟩ (KU.start (Heap.get?_push_of_some _ p)) λU hm k=>?_
    obtain⟨h',C,J,I,H⟩:=U;have O:C=s.gens:=hm.gens;have D:J=s.drawn:=hm.drawn;have N:H=s.os:=hm.os;subst O D N;show wpAny _ _ _ _ _ _;refine wpAny_pure ?_;show wpAny _ _ (ret Value.none) _ _ _;refine wpAny_pure ⟨rfl,h',I,rfl,k,λb o g e=>hm.heap b o ?_ (Heap.get?_push_of_some _ (Heap.get?_push_of_some _ e))⟩;intro hm;rcases mem_cons.mp hm with e |hm
    ·exact ne_of_lt g e
    rw[z1] at hm;exact ne_of_lt (lt_succ_of_lt g) (mem_singleton.mp hm)
   cases f with
   |error e=>exact m
   |ok z =>
    cases z with
    |ret r =>
     obtain⟨rfl,h',tk,rfl,k,T⟩:=m
     repeat (any_goals (first |assumption |wp_step))
     exact h _ _ k T
    |_=>exact m.elim
  |_=>exact j.elim
end
end
end L2
namespace L2
open PySem
section
variable {prog:Program}{w:World}{A:Around}{E:JL}{s:Shared}
theorem wp_choose {a:Source}{n:Nat}{Q:Nat->Shared->Prop}(b:n≠0)(h:∀ i,i<n->Q i { s with drawn:=s.drawn.bump a }):wpAny (model prog w) A (choose a n) Q E s:=
 λ_ _ _=>⟨b,h _ (Nat.mod_lt _ (Nat.pos_of_ne_zero b))⟩
theorem kO {α:Type}:∀ {a:List α}{i:Nat}{x : α},a[i]?=some x->(x::a.eraseIdx i).Perm a
 |[],_,_,h=>by simp at h
 |y::ys,0,x,h=>by simp at h;subst h;exact .refl _
 |y::ys,i+1,x,h=>by
  rw[getElem?_cons_succ] at h;rw[List.eraseIdx_cons_succ];exact(List.Perm.swap y x _).trans ((kO h).cons y)
theorem k_ {α:Type}:∀ (n:Nat) (b:List α) {s:Shared}{Q:List α->Shared->Prop},b.length=n->(∀ ys d,ys.Perm b->Q ys { s with drawn:=d })->wpAny (model prog w) A (drawOrder n b) Q E s
 | 0,b,s,Q,a,h=>by
  obtain rfl:=length_eq_zero_iff.mp a;unfold drawOrder;exact wpAny_pure (h [] s.drawn (.refl _))
 |n+1,[],s,Q,a,h=>by simp at a
 |n+1,x::r,s,Q,a,h=>by
  unfold drawOrder;refine wpAny_bind (wp_choose (by simp) λi c=>?_);have e:=List.getElem?_eq_getElem c;rw[e];dsimp only;refine wpAny_bind (k_ n _ (by rw[List.length_eraseIdx_of_lt c,a];omega) λys d p=>?_);exact wpAny_pure (h _ d ((p.cons _).trans (kO e)))
theorem qV {α:Type}(next:Nat->Nat):∀ (m k:Nat) (left:List α) (out:Array α),left.length=m->(pickOrder.go next m k left out).toList.Perm (out.toList++left)
 | 0,k,left,out,a=>by
  obtain rfl:=length_eq_zero_iff.mp a;unfold pickOrder.go;rw[append_nil]
 |m+1,k,left,out,a=>by
  have b:next k % left.length<left.length:=Nat.mod_lt _ (by omega)
  have e:=List.getElem?_eq_getElem b;unfold pickOrder.go;rw[e];dsimp only;refine(qV next m (k+1) _ _ (by rw[List.length_eraseIdx_of_lt b,a];omega)).trans ?_;rw[toList_push,List.append_assoc];exact(kO e).append_left _
def K8 (h:Heap)(it a:Addr)(first:Value)(i n ep:Nat):Prop:=∃ o,h.get? it=some o/\o.cls = .type "set_iterator"/\o.data = .fields #[first,.int i 0,.ref a,.int n 0,.int ep 0]
inductive Way (w:World) (a it:Addr) (es:Array (Int×Value)) (ep:Nat) (t:SetTable):Array (Int×Value)->List Addr->(Nat->Value->Heap->Prop)->Prop where
 |text (hb:Ot w=true):Way w a it es ep t (pickOrder (w.params.setOrder a ep) es) [it,a] (λ_ f _ => ∃ k:Nat,f = .int k 0)
 |one (hb:Ot w=false) (hl:t.led=true) (h1:t.plain=true∨es.size<=1) (hr:Mb t.place):Way w a it es ep t es [it,a] (λi f _ => ∃ k:Nat,f = .int k 0/\SetTable.below t.place k=i)
 |drawn (hb:Ot w=false) (hp:t.plain=false) (h1 : 1<es.size) (tp:Addr) (order:List Nat) (ho:order.Perm (List.range es.size)):tp≠it ->
  Way w a it es ep t (order.filterMap λi=>es[i]?).toArray [it,a,tp] (λ_ f h=>f = .ref tp/\h.IsTuple tp (order.map λ(i:Nat)=>Value.int i 0).toArray)
theorem zZ {es:Array (Int×Value)}{order:List Nat}(d:order.Perm (List.range es.size)):(order.filterMap λi=>es[i]?).length=order.length/\∀ i:Nat,(order.filterMap λi=>es[i]?)[i]?=(order[i]?).bind λj=>es[j]?:=by
 have c:∀ j∈order,j<es.size:=λj a=>mem_range.mp (d.mem_iff.mp a);clear d
 induction order with
 |nil=>exact⟨rfl,λi=>by simp⟩
 |cons j r g =>
  have a:=c j (mem_cons_self ..);obtain⟨h,f⟩:=g λk e=>c k (mem_cons_of_mem _ e);rw[List.filterMap_cons_some (b:=es[j]) (by simp[a])];refine⟨by simp[h],λi=>?_⟩;cases i with
  |zero=>simp[a]
  |succ i=>simpa using f i
theorem Way.perm {a it:Addr}{es:Array (Int×Value)}{ep:Nat}{t:SetTable}{out:Array (Int×Value)}{fp:List Addr}{F:Nat->Value->Heap->Prop}(y:Way w a it es ep t out fp F):out.toList.Perm es.toList:=by
 cases y with
 |text c=>simpa [pickOrder] using qV (w.params.setOrder a ep) es.size 0 es.toList #[] (by simp)
 |one=>exact .refl _
 |drawn c d f tp order b e =>
  have q:=b.filterMap λi=>es[i]?;rw[filterMap_getElem?_range] at q;simpa using q
end
section
variable {prog:Program}{w:World}{A:Around}{E:JL}{s:Shared}
variable {a it:Addr}{o:Obj}{es:Array (Int×Value)}{ep:Nat}{t:SetTable}
theorem jB {Q:Bool->Shared->Prop}(h:Q (Ot w) s):wpAny (model prog w) A setsByText Q E s:=by unfold setsByText;exact wpAny_bind (wpAny_askSetting (wpAny_pure h))
theorem uK {Q:Bool->Shared->Prop}(b:s.heap.get? a=some o)(hd:o.data = .set es ep t)(c:t.fits es.size=true)(h:Q (!Ot w&&(!t.plain&&decide (es.size > 1))) s):wpAny (model prog w) A (setDrawn a) Q E s:=by unfold setDrawn;refine wpAny_bind (wpAny_setState_of b hd c ?_);dsimp only;exact wpAny_bind (jB (wpAny_pure h))
theorem xm {Q:JL}(c:s.heap.get? a=some o)(hex:o.ExactSet)(hd:o.data = .set es ep t)(j:t.fits es.size=true)(hz:es.size<=sizeLine)(q:Ot w=false->t.led=true)(n:Mb t.place)
  (h:∀ it out fp F first h' d,Way w a it es ep t out fp F->K8 h' it a first 0 es.size ep->F 0 first h'->(∀ b o,s.heap.get? b=some o->h'.get? b=some o)->s.heap.objs.size<=it->(∀ b∈fp,b=a∨s.heap.objs.size<=b) ->
   Q (.ref it) { s with heap:=h',drawn:=d }):wpAny (model prog w) A (pyIter (.ref a)) Q E s:=by
 have m:s.TypeIs (.ref a) "set":=⟨o,c,hex.1⟩;refine wpAny_pyIter_slot m F.slot_set_iter (wpAny_call_entry F.slot_set_iter m SF.Qs ?_ (F.args_set_iter_1 _));unfold Builtin.«frozenset.__iter__» Builtin.Frozenset.slot0 slotArgs;simp only[List.isEmpty_nil,Bool.not_true,false_eq_true,↓reduceIte,bind_assoc,length_nil,bne_self_eq_false];unfold Builtin.Frozenset.addrOf Builtin.Frozenset.sizeOf;refine wpAny_bind (wpAny_pure ?_)
 try dsimp only
 refine wpAny_bind (wpAny_pure ?_);refine wpAny_bind (wpAny_bind (wpAny_setEntries_of c hd j (wpAny_pure ?_)));refine wpAny_bind (uK c hd j ?_);have r:a<s.heap.objs.size:=Heap.lt_size c;cases hc:(!Ot w&&(!t.plain&&decide (es.size > 1))) with
 |true =>
  rw[and_eq_true,and_eq_true,Bool.not_eq_true',Bool.not_eq_true'] at hc;obtain⟨hb,k,f⟩:=hc;have f:=of_decide_eq_true f;rw[if_pos rfl];refine wpAny_bind (k_ es.size (List.range es.size) (by simp) λorder d p=>?_);have g:order.length=es.size:=by rw[p.length_eq,length_range]
  refine wpAny_bind (wpAny_newTuple ?_ (by rw[length_map,g];exact hz));refine wpAny_bind (wpAny_setEpoch_of (Heap.get?_push_of_some _ c) hd j ?_);refine wpAny_bind (wpAny_newObj_type (wpAny_pure ⟨_,rfl,"set_iterator",_,⟨_,Heap.get?_push_size _ rfl,rfl⟩,SF.slot_next.lookup,?_⟩))
  refine h _ _ _ _ (.ref s.heap.objs.size) _ d (Way.drawn hb k f s.heap.objs.size order p ?_) ⟨_,Heap.get?_push_size _ rfl,rfl,rfl⟩ ⟨rfl,⟨_,Heap.get?_push_of_some _ (Heap.get?_push_size _ rfl),rfl,0,?_⟩⟩
   (λb o e=>Heap.get?_push_of_some _ (Heap.get?_push_of_some _ e)) ?_ ?_
  ·rw[Heap.size_push];exact ne_of_lt (lt_succ_self _)
  ·rfl
  ·rw[Heap.size_push];exact le_succ _
  intro b hb;rcases mem_cons.mp hb with e |hb
  ·rw[e,Heap.size_push];exact .inr (le_succ _)
  rcases mem_cons.mp hb with e |hb
  ·exact .inl e
  rw[mem_singleton.mp hb];exact .inr (le_refl _)
 |false =>
  rw[if_neg (by decide)];refine wpAny_bind (wpAny_pure ?_);refine wpAny_bind (wpAny_setEpoch_of c hd j ?_);refine wpAny_bind (wpAny_newObj_type (wpAny_pure ⟨_,rfl,"set_iterator",_,⟨_,Heap.get?_push_size _ rfl,rfl⟩,SF.slot_next.lookup,?_⟩))
  have l:∀ b∈[s.heap.objs.size,a],b=a∨s.heap.objs.size<=b:=λb hb=>by
   rcases mem_cons.mp hb with e |hb
   ·rw[e];exact .inr (le_refl _)
   exact .inl (mem_singleton.mp hb)
  cases hb:Ot w with
  |true=>exact h _ _ _ _ (.int 0 0) _ s.drawn (Way.text hb) ⟨_,Heap.get?_push_size _ rfl,rfl,rfl⟩ ⟨0,rfl⟩ (λb o e=>Heap.get?_push_of_some _ e) (le_refl _) l
  |false =>
   have f:t.plain=true∨es.size<=1:=by
    cases k:t.plain with
    |true=>exact .inl rfl
    |false =>
     rw[hb,k] at hc;have:=of_decide_eq_false (show decide (es.size > 1)=false from hc);exact .inr (by omega)
   exact h _ _ _ _ (.int 0 0) _ s.drawn (Way.one hb (q hb) f n) ⟨_,Heap.get?_push_size _ rfl,rfl,rfl⟩ ⟨0,rfl,wy n (zero_le _) (λi _ z=>absurd z (by omega)) λi _ _=>zero_le _⟩ (λb o e=>Heap.get?_push_of_some _ e) (le_refl _) l
theorem K8.ty {first:Value}{i n:Nat}(x:K8 s.heap it a first i n ep):s.TypeIs (.ref it) "set_iterator":=let ⟨o,c,b,_⟩:=x;⟨o,c,b⟩
theorem iM {k i:Nat}{Q:Option (Value×Nat)->Shared->Prop}(d:s.heap.get? a=some o)(hd:o.data = .set es ep t)(c:t.fits es.size=true)(b:Ot w=true)
  (h:Q (((pickOrder (w.params.setOrder a ep) es)[i]?).map λe=>(e.2,k)) s):wpAny (model prog w) A (setNext a k i ep) Q E s:=by
 unfold setNext;refine wpAny_bind (wpAny_setState_of d hd c ?_);dsimp only;refine wpAny_bind (jB ?_);rw[b,if_pos rfl,if_neg (by simp)];refine wpAny_bind ?_;unfold setWalk;refine wpAny_bind (wpAny_setState_of d hd c ?_);dsimp only;refine wpAny_bind (jB ?_);rw[b,if_pos rfl];exact wpAny_bind (wpAny_askSetting (wpAny_pure (wpAny_pure h)))
theorem i7 {k i:Nat}{Q:Option (Value×Nat)->Shared->Prop}(f:s.heap.get? a=some o)(hd:o.data = .set es ep t)(d:t.fits es.size=true)(c:Ot w=false)(e:t.led=true)(h1:t.plain=true∨es.size<=1)
  (h:Q (match es[SetTable.below t.place k]?,t.place[SetTable.below t.place k]? with |some (_,x),some j=>some (x,j+1) |_,_=>none) s):wpAny (model prog w) A (setNext a k i ep) Q E s:=by
 unfold setNext;refine wpAny_bind (wpAny_setState_of f hd d ?_);dsimp only;refine wpAny_bind (jB ?_);rw[c,if_neg (by decide)]
 have b:(!t.plain&&decide (es.size > 1))=false:=by
  rcases h1 with h1 |h1
  ·rw[h1];rfl
  rw[decide_eq_false (by omega),Bool.and_false]
 show wpAny _ _ (if (!t.plain&&decide (es.size > 1))=true then _ else _) _ _ _;rw[b,if_neg (by decide)];refine wpAny_bind ?_;show wpAny _ _ (if (!t.led&&!es.isEmpty)=true then _ else _) _ _ _;rw[e,if_neg (by simp)];exact wpAny_pure (wpAny_pure h)
end
section
variable {prog:Program}{w:World}{A:Around}{E:JL}{s:Shared}
variable {a it:Addr}{o:Obj}{es:Array (Int×Value)}{ep:Nat}{t:SetTable}
theorem qJ {h:Heap}{first f':Value}{i n:Nat}(x:K8 h it a first i n ep) :
  K8 (h.update it (Obj.mapFields (·.setIfInBounds 0 f'))) it a f' i n ep:=by
 obtain⟨o,c,b,hd⟩:=x;exact⟨_,Heap.get?_update_self _ c (Obj.isFreed_of_fields (Obj.data_mapFields hd _)),(Obj.cls_mapFields ..).trans b,by rw[Obj.data_mapFields hd];simp⟩
theorem qK {h:Heap}{first:Value}{i n:Nat}(x:K8 h it a first i n ep) :
  K8 (h.update it (Obj.mapFields (·.setIfInBounds 1 (rawInt ((i:Int)+1))))) it a first (i+1) n ep:=by
 obtain⟨o,c,b,hd⟩:=x;exact⟨_,Heap.get?_update_self _ c (Obj.isFreed_of_fields (Obj.data_mapFields hd _)),(Obj.cls_mapFields ..).trans b,by rw[Obj.data_mapFields hd];simp[rawInt]⟩
set_option maxHeartbeats 1000000 in
theorem next_item {out:Array (Int×Value)}{fp:List Addr}{F:Nat->Value->Heap->Prop}{first:Value}{i:Nat}{x:Int×Value}{Q:Option Value->Shared->Prop}(y:Way w a it es ep t out fp F)(Lb:a≠it)(f:s.heap.get? a=some o)(hd:o.data = .set es ep t)
  (c:t.fits es.size=true) (b:K8 s.heap it a first i es.size ep) (m:F i first s.heap) (g:out[i]?=some x)
  (I:∀ f' h',K8 h' it a f' (i+1) es.size ep->F (i+1) f' h'->Heap.SameBut it s.heap h'->Q (some x.2) { s with heap:=h' }):wpAny (model prog w) A (pyNext (.ref it)) Q E s:=by
 obtain⟨oi,l,Pj,r⟩:=id b;unfold pyNext;refine wpAny_bind (wpAny_attempt (wpAny_callSpecial?_slot (name:=Str.ofString "__next__") b.ty SF.slot_next (wpAny_call_entry SF.slot_next b.ty SF.Oq ?_ (SF.args_next _))));unfold Builtin.«set_iterator.__next__»;refine wpAny_bind (wpAny_pure ?_);refine wpAny_bind (wpAny_fieldsOf l r ?_);dsimp only;refine wpAny_bind (wpAny_setEntries_of f hd c ?_);rw[if_neg (by simp)]
 have step:∀ (f':Value),F (i+1) f' ((s.heap.update it (Obj.mapFields (·.setIfInBounds 0 f'))).update it (Obj.mapFields (·.setIfInBounds 1 (rawInt ((i:Int)+1)))))->∀ (k:Nat),f'=rawInt k->∀ (G:JL),
   wpAny (model prog w) A.in1 (do setField (.ref it) 0 (rawInt k);setField (.ref it) 1 (rawInt ((i:Int)+1));ret x.2) (λfin s' => ∃ v,fin = .done (.ret v)/\Q (some v) s') G s:=by
  rintro f' P k rfl G;refine wpAny_bind (wpAny_setField l r (by simp) ?_);have z:=qJ (f':=rawInt k) b;obtain⟨o1,Ph,UA,U⟩:=id z;refine wpAny_bind (wpAny_setField Ph U (by simp) (wpAny_pure ⟨_,rfl,?_⟩));exact I _ _ (qK z) P ((Heap.SameBut.update ..).trans (Heap.SameBut.update ..))
 cases y with
 |text d =>
  obtain⟨k,rfl⟩:=m;dsimp only;refine wpAny_bind (iM f hd c d ?_);simp only[Int.toNat_natCast];rw[g];exact wpAny_mono (step (rawInt k) ⟨k,rfl⟩ k rfl _) (λ_ _ h=>let ⟨v,e,q⟩:=h;⟨v,e,wpAny_pure q⟩) λ_ _ h=>h
 |one d X B j =>
  have hi:i<es.size:=(Array.getElem?_eq_some_iff.mp g).1;have S:t.place.size=es.size:=by have:=c;simp only[SetTable.fits,and_eq_true,beq_iff_eq] at this;exact this.1
  obtain⟨k,rfl,V⟩:=m;have J:t.place[i]?=some t.place[i]:=Array.getElem?_eq_getElem (by omega)
  have Y:SetTable.below t.place (t.place[i]+1)=i+1:=wy j (by omega) (λn D Lc=>by
   rcases lt_or_ge n i with q |q
   ·have:=j.lt q (show i<t.place.size by omega);omega
   have e:n=i:=by omega
   subst e;omega) λn D Uu=>j.lt (show i<n by omega) D
  dsimp only;refine wpAny_bind (i7 f hd c d X B ?_);rw[Int.toNat_natCast,V,g,J];exact wpAny_mono (step (rawInt ((t.place[i]+1:Nat):Int)) ⟨_,rfl,Y⟩ (t.place[i]+1) rfl _) (λ_ _ h=>let ⟨v,e,q⟩:=h;⟨v,e,wpAny_pure q⟩) λ_ _ h=>h
 |drawn d hp B tp order N L =>
  obtain⟨rfl,WE⟩:=m;obtain⟨M,H,W,K,C⟩:=id WE;dsimp only;refine wpAny_bind (wpAny_seqItems H C ?_);obtain⟨g1,Z⟩:=zZ (es:=es) N;have u:(order.filterMap λi=>es[i]?)[i]?=some x:=by simpa using g
  rw[Z i] at u;obtain⟨p,O,T⟩:=bind_eq_some_iff.mp u;have R:((order.map λ(i:Nat)=>Value.int i 0).toArray)[Int.toNat (i:Int)]?=some (.int p 0):=by rw[Int.toNat_natCast,List.getElem?_toArray,getElem?_map,O];rfl
  dsimp only;rw[R];dsimp only;refine wpAny_bind ?_;unfold setNextDrawn;refine wpAny_bind (wpAny_setState_of f hd c ?_);dsimp only;rw[Int.toNat_natCast,Int.toNat_natCast,if_neg (by simp),T];refine wpAny_pure ?_;refine wpAny_bind (wpAny_setField l r (by simp) (wpAny_pure ⟨_,rfl,wpAny_pure ?_⟩));exact I _ _ (qK b) ⟨rfl,⟨M,((Heap.SameBut.update ..).2 tp L).trans H,W,K,C⟩⟩ (Heap.SameBut.update ..)
end
section
variable {prog:Program}{w:World}{A:Around}{E:JL}{s:Shared}
variable {a it:Addr}{o:Obj}{es:Array (Int×Value)}{ep:Nat}{t:SetTable}
theorem xk {α:Type}{Q : α->Shared->Prop}(c:A.handled=none)(h:∀ h' e,(∀ b o,s.heap.get? b=some o->h'.get? b=some o)->(∃ o,h'.get? e=some o/\o.cls = .type "StopIteration")->E (.ref e) { s with heap:=h' }) :
  wpAny (model prog w) A (newExc (.type "StopIteration") [] >>= λe=>(raiseNew e:Sem α)) Q E s:=by
 refine wpAny_bind ?_;simp only[newExc,newTuple];refine wpAny_bind (wpAny_newObj_type ?_ (by size_fits));refine wpAny_bind (m:=firstArgMember _ _) (wpAny_of_eq (a:=Value.none) (by first |rfl |(simp only[firstArgMember];rfl)) ?_);refine wpAny_newObj_type ?_ (by size_fits);simp only[raiseNew];refine wpAny_bind (wpAny_handled ?_);rw[c];refine wpAny_bind (wpAny_pure (wpAny_throw ?_));exact h _ _ (λb o e=>Heap.get?_push_of_some _ (Heap.get?_push_of_some _ e)) ⟨_,Heap.get?_push_size _ rfl,rfl⟩
set_option maxHeartbeats 1000000 in
theorem next_end {out:Array (Int×Value)}{fp:List Addr}{F:Nat->Value->Heap->Prop}{first:Value}{Q:Option Value->Shared->Prop}(B:A.handled=none)(y:Way w a it es ep t out fp F)(Lb:a≠it)(n:s.heap.get? a=some o)(hd:o.data = .set es ep t)
  (m:t.fits es.size=true) (c:K8 s.heap it a first es.size es.size ep) (p:F es.size first s.heap)
  (R:∀ h',(∀ b o,b≠it->s.heap.get? b=some o->h'.get? b=some o)->Q none { s with heap:=h' }):wpAny (model prog w) A (pyNext (.ref it)) Q E s:=by
 have G:out.size=es.size:=by have:=y.perm.length_eq;simpa using this
 obtain⟨U,h,Z,l⟩:=id c;unfold pyNext;refine wpAny_bind (wpAny_attempt (wpAny_callSpecial?_slot (name:=Str.ofString "__next__") c.ty SF.slot_next (wpAny_call_entry SF.slot_next c.ty SF.Oq ?_ (SF.args_next _))));unfold Builtin.«set_iterator.__next__»;refine wpAny_bind (wpAny_pure ?_);refine wpAny_bind (wpAny_fieldsOf h l ?_);dsimp only;refine wpAny_bind (wpAny_setEntries_of n hd m ?_);rw[if_neg (by simp)]
 have fin:∀ (j:Shared) (q:Fin->Shared->Prop),(∀ b o,b≠it->s.heap.get? b=some o->j.heap.get? b=some o)->(∀ h',({ s with heap:=h' }:Shared)={ j with heap:=h' }) ->
   wpAny (model prog w) A.in1 (newExc (.type "StopIteration") [] >>= λe=>(raiseNew e:Sem Fin)) q
    (λe N=>wpAny (model prog w) A (do let b ← isInstance e (.type "StopIteration");if b=true then pure none else throw e) Q E N) j:=λj q M z=>by
  refine xk (by simp[B]) λh' e k u=>?_;obtain⟨O,v,C⟩:=u;refine wpAny_bind (wpAny_isInstance (T:="StopIteration") (b:=true) ⟨O,v,C⟩ isSubtype_stop ?_);rw[if_pos rfl];refine wpAny_pure ?_;rw[← z];exact R h' λb o d e=>k b o (M b o d e)
 have up:∀ (f:Array Value->Array Value) b o,b≠it->s.heap.get? b=some o->(s.heap.update it (Obj.mapFields f)).get? b=some o:=λf b o d e=>((Heap.SameBut.update ..).2 b d).trans e;cases y with
 |text g =>
  obtain⟨k,rfl⟩:=p;dsimp only;refine wpAny_bind (iM n hd m g ?_);simp only[Int.toNat_natCast];rw[Array.getElem?_eq_none (by omega)];refine wpAny_bind (wpAny_setField h l (by simp) ?_);exact fin _ _ (up _) λ_=>rfl
 |one g L r X =>
  have key:∃ k:Nat,first = .int k 0/\es[SetTable.below t.place k]?=none:=by obtain⟨k,rfl,e⟩:=p;exact⟨k,rfl,by rw[e];exact Array.getElem?_eq_none (le_refl _)⟩
  obtain⟨k,rfl,J⟩:=key;dsimp only;refine wpAny_bind (i7 n hd m g L r ?_);rw[Int.toNat_natCast,J];refine wpAny_bind (wpAny_setField h l (by simp) ?_);exact fin _ _ (up _) λ_=>rfl
 |drawn g hp r tp order x W =>
  obtain⟨rfl,WE⟩:=p;obtain⟨Y,P,UC,V,K⟩:=id WE;dsimp only;refine wpAny_bind (wpAny_seqItems P K ?_);dsimp only;have D:((order.map λ(i:Nat)=>Value.int i 0).toArray)[Int.toNat (es.size:Int)]?=none:=by rw[Int.toNat_natCast,List.getElem?_toArray,List.getElem?_eq_none];rw[length_map,x.length_eq,length_range];exact le_refl _
  rw[D];dsimp only;refine wpAny_bind (wpAny_setField h l (by simp) ?_);have I:=qJ (f':=rawInt 0) c;obtain⟨o1,S,UA,H⟩:=id I;refine wpAny_bind (wpAny_setField S H (by simp) ?_);exact fin _ _ (λb o d e=>((Heap.SameBut.update ..).2 b d).trans (up _ b o d e)) λ_=>rfl
theorem Cy:entryFor table "set_iterator.__iter__"=some Builtin.«dict_keyiterator.__iter__»:=entryFor_alias (id':="dict_keyiterator.__iter__") (by kernel_rfl) rfl (by decide) (by kernel_rfl)
theorem args_self (a:Value):argsOk "set_iterator.__iter__" ⟨[a],[]⟩:=by unfold argsOk;rw[signature?_of (id:="set_iterator.__iter__") (n:=['_','_','r','e','t','i','_','_']) (o:=['r','o','t','a','r','e','t','i','_','t','e','s']) (by kernel_rfl) SF.Qt];kernel_rfl
theorem Bb {first:Value}{i n:Nat}{Q:JL}(b:K8 s.heap it a first i n ep)(h:Q (.ref it) s):wpAny (model prog w) A (pyIter (.ref it)) Q E s:=by refine wpAny_pyIter_slot b.ty SF.slot_self (wpAny_call_entry SF.slot_self b.ty Cy ?_ (args_self _));show wpAny _ _ (ret (.ref it)) _ _ s;exact wpAny_pure ⟨_,rfl,"set_iterator",_,b.ty,SF.slot_next.lookup,h⟩
theorem K8.keep {h h':Heap}{first:Value}{i n:Nat}(x:K8 h it a first i n ep)(e:∀ o,h.get? it=some o->h'.get? it=some o):K8 h' it a first i n ep:=let ⟨o,b,r⟩:=x;⟨o,e o b,r⟩
theorem Way.fp {out:Array (Int×Value)}{fp:List Addr}{F:Nat->Value->Heap->Prop}(y:Way w a it es ep t out fp F):it∈fp/\a∈fp/\∀ i f (h h':Heap),(∀ b∈fp,b≠it->∀ o,h.get? b=some o->h'.get? b=some o)->F i f h->F i f h':=by
 cases y with
 |text=>exact⟨by simp,by simp,λ_ _ _ _ _ x=>x⟩
 |one=>exact⟨by simp,by simp,λ_ _ _ _ _ x=>x⟩
 |drawn _ _ _ tp order _ c=>exact⟨by simp,by simp,λ_ _ h h' k x=>⟨x.1,by obtain⟨o,d,r⟩:=x.2;exact⟨o,k tp (by simp) c o d,r⟩⟩⟩
theorem Walks.set {out:Array (Int×Value)}{fp:List Addr}{F:Nat->Value->Heap->Prop}(u:A.handled=none)(y:Way w a it es ep t out fp F)(n:a≠it)(hex:o.ExactSet)(hd:o.data = .set es ep t)(q:t.fits es.size=true) :
  Walks prog w A it fp [it] es.size (λi v=>(out[i]?).map (·.2)=some v) (λi h=>h.get? a=some o/\∃ first,K8 h it a first i es.size ep/\F i first h) where
 sub:=λb d=>by rw[mem_singleton.mp d];exact y.fp.1
 frame:=λi h j st k=>⟨k a y.fp.2.1 o st.1,let ⟨f,c,g⟩:=st.2;⟨f,c.keep λo e=>k it y.fp.1 o e,y.fp.2.2 i f h j (λb d _ o e=>k b d o e) g⟩⟩
 item:=λi s Q E D st l=>by
  obtain⟨m,f,c,g⟩:=st;have B:out.size=es.size:=by have:=y.perm.length_eq;simpa using this
  have p:out[i]?=some out[i]:=Array.getElem?_eq_getElem (by omega);refine next_item y n m hd q c g p λr j x C sb=>?_;refine l _ j s.toks (by rw[p];rfl) ⟨(sb.2 a n).trans m,r,x,C⟩ λb o d e=>(sb.2 b (λz=>d (by simp[z]))).trans e
 done:=λs Q E st l=>by
  obtain⟨m,f,c,g⟩:=st;exact next_end u y n m hd q c g λj k=>l j s.toks λb o d e=>k b o (λz=>d (by simp[z])) e
 self:=λi s Q E st l=>let ⟨f,c,_⟩:=st.2;Bb c l
end
section
variable {prog:Program}{w:World}{A:Around}{E:JL}{s:Shared}
set_option maxHeartbeats 1000000 in
theorem nR {x:Addr}{T:String}(ZV:T="set"∨T="dict")(hT:s.TypeIs (.ref x) T){Q:List Value->Shared->Prop}(C:List Value->Prop)
  (RG:∀ (M:Heap) (Q':JL) (E':JL),(∀ b o,s.heap.get? b=some o->M.get? b=some o) ->
   (∀ (I:Addr) (fp i:List Addr) (n:Nat) (P:Nat->Value->Prop) (St:Nat->Shared->Prop) (g:Shared),WalksS prog w A.in1 I fp i (λa b=>b=a) n P St->St 0 g->n<=sizeLine->(∀ b∈fp,b=x∨M.objs.size<=b)->(∀ b∈i,M.objs.size<=b) ->
    (∀ b o,M.get? b=some o->g.heap.get? b=some o)->g.gens=s.gens->g.os=s.os->(∀ d,ItemsOf P d n->C d.toList)->Q' (.ref I) g)->wpAny (model prog w) A.in1 (pyIter (.ref x)) Q' E' { s with heap:=M })
  (hQ:∀ s' d,C d->(∀ b o,s.heap.get? b=some o->s'.heap.get? b=some o)->s'.gens=s.gens->s'.os=s.os->Q d s'):wpAny (model prog w) A (collect (.ref x)) Q E s:=by
 obtain⟨V,S,X⟩:=id hT;have X8:x<s.heap.objs.size:=Heap.lt_size S;unfold collect;refine wpAny_bind (wpAny_runValue (codeAny_builtin F.entry_proto_collect ?_));rw[Around.under_plainId F.plain_proto_collect _];show wpAny _ A.in1 (newList [] >>= λl=>again (.builtin "list.__iadd__" ⟨[l,.ref x],[]⟩)) _ _ s;refine wpAny_bind (wpAny_newObj_type ?_);refine wpAny_pure ⟨plainId_quiet F.plain_list_iadd _,codeAny_builtin F.entry_list_iadd ?_⟩;rw[Around.under_plainId F.plain_list_iadd _];have Om:(s.heap.push { cls:=.type "list",data:=.seq ([]:List Value).toArray }).get? s.heap.objs.size=some { cls:=.type "list",data:=.seq ([]:List Value).toArray }:=Heap.get?_push_size _ rfl;have ZW:Shared.TypeIs { s with heap:=s.heap.push { cls:=.type "list",data:=.seq ([]:List Value).toArray } } (.ref x) T:=⟨V,Heap.get?_push_of_some _ S,X⟩;have n1:Builtin.List.listSameRef (.ref s.heap.objs.size) (.ref x)=false:=by simp[Builtin.List.listSameRef,ne_of_gt X8]
 show wpAny _ A.in1 (Builtin.List.listExtendWith (.ref s.heap.objs.size) (.ref x) (.ref s.heap.objs.size)) _ _ _;unfold Builtin.List.listExtendWith;refine wpAny_bind (wpAny_typeOf ZW ?_);have kp:∀ b o,s.heap.get? b=some o->(s.heap.push { cls:=.type "list",data:=.seq ([]:List Value).toArray }).get? b=some o:=λb o e=>Heap.get?_push_of_some _ e;have sz:(s.heap.push { cls:=.type "list",data:=.seq ([]:List Value).toArray }).objs.size=s.heap.objs.size+1:=Heap.size_push ..
 have main:∀ (I:Addr) (fp i:List Addr) (n:Nat) (P:Nat->Value->Prop) (St:Nat->Shared->Prop) (g:Shared),WalksS prog w A.in1 I fp i (λa b=>b=a) n P St->St 0 g->n<=sizeLine ->
   (∀ b∈fp,b=x∨(s.heap.push { cls:=.type "list",data:=.seq ([]:List Value).toArray }).objs.size<=b)->(∀ b∈i,(s.heap.push { cls:=.type "list",data:=.seq ([]:List Value).toArray }).objs.size<=b) ->
   (∀ b o,(s.heap.push { cls:=.type "list",data:=.seq ([]:List Value).toArray }).get? b=some o->g.heap.get? b=some o)->g.gens=s.gens->g.os=s.os->(∀ d,ItemsOf P d n->C d.toList) ->
   ∀ (R:Result->Shared->Prop),(∀ s' d c,C d.toList->(∀ b o,s.heap.get? b=some o->s'.heap.get? b=some o)->s'.gens=s.gens->s'.os=s.os->s'.heap.get? s.heap.objs.size=some { cls:=.type "list",dict:=none,data:=.seq d c,slots:=#[] }->R (.ok (.ret (.ref s.heap.objs.size))) s') ->
   wpAny (model prog w) A.in1 (rule "list.extend.makes-room" >>= λ_=>Builtin.List.listTouch (.ref s.heap.objs.size) >>= λ_=>again (.builtin "list.extend.loop" ⟨[.ref s.heap.objs.size,.ref I,.ref s.heap.objs.size],[]⟩))
    (λfin s'=>match fin with | .done f=>R (.ok f) s' | .again O=>O.quiet=true/\codeAny (model prog w) A O R s') (λe s'=>R (.error e) s') g:=by
  intro I fp i n P St g W st H B K k p o1 N R hR
  have SH:s.heap.objs.size∉fp:=λt=>by
   rcases B _ t with e |e
   ·exact ne_of_gt X8 e
   rw[sz] at e;exact Nat.not_succ_le_self _ e
  refine wpAny_bind (wpAny_rule ?_);refine wpAny_bind ?_;have hS:g.heap.get? s.heap.objs.size=some { cls:=.type "list",data:=.seq ([]:List Value).toArray }:=k _ _ Om;show wpAny _ A.in1 (updateSeq s.heap.objs.size (·.push .none) >>= λ_=>updateSeq s.heap.objs.size (·.pop)) _ _ _;refine wpAny_bind (wpAny_updateSeq hS rfl ?_);have Z:=Heap.get?_update_self (Obj.mapSeq (·.push Value.none)) hS rfl;refine wpAny_updateSeq (hz:=by seq_fits) Z rfl ?_;have L9:=Heap.get?_update_self (Obj.mapSeq (·.pop)) Z rfl
  have X9:∀ b o,b≠s.heap.objs.size->g.heap.get? b=some o->((g.heap.update s.heap.objs.size (Obj.mapSeq (·.push Value.none))).update s.heap.objs.size (Obj.mapSeq (·.pop))).get? b=some o:=
   λb o j e=>(Heap.get?_update_other _ _ (Ne.symm j)).trans ((Heap.get?_update_other _ _ (Ne.symm j)).trans e)
  refine wpAny_pure ⟨plainId_quiet F.plain_extend_loop _,codeAny_extend_loopS W H _ SH _ n 0 _ _ _ rfl (zero_le _) (W.frame 0 g _ g.toks st (le_refl _) λb j o e=>X9 b o (λh=>SH (h▸j)) e) L9 (ItemsOf.nil P) λs' UG O t Ob SK=>?_⟩;refine hR s' UG O (N UG SK) (λb o e=>?_) (t.gens.trans p) (t.os.trans o1) Ob;have j:b<s.heap.objs.size:=Heap.lt_size e;refine t.heap b o (λz=>?_) (X9 b o (ne_of_lt j) (k b o (kp b o e)));rcases mem_cons.mp z with z |z
  ·exact ne_of_lt j z
  have:=K b z;rw[sz] at this;exact Nat.not_succ_le_self _ (Nat.le_trans this (Nat.le_of_lt j))
 have last:∀ (s':Shared) (d:Array Value) (c:Nat),C d.toList->(∀ b o,s.heap.get? b=some o->s'.heap.get? b=some o)->s'.gens=s.gens->s'.os=s.os->s'.heap.get? s.heap.objs.size=some { cls:=.type "list",dict:=none,data:=.seq d c,slots:=#[] } ->
   wpAny (model prog w) A (load s.heap.objs.size >>= λo=>match o.data with | .seq D _=>pure D.toList |_=>unsupported "internal:collect") Q E s':=λs' d c G L u y J=>wpAny_bind (wpAny_load J (wpAny_pure (hQ s' d.toList G L u y)))
 rcases ZV with rfl |rfl
 ·rw[if_neg (by rw[n1];decide)];refine wpAny_bind (RG _ _ _ kp λI fp i n P St g W st H B K k p o1 N=>?_);have m:g.TypeIs (.ref x) "set":=⟨V,k _ _ (kp _ _ S),X⟩;refine wpAny_bind (wpAny_holding ?_);unfold Builtin.List.listLengthHint;refine wpAny_bind (wpAny_specialOf m F.slot_set_len.lookup ?_)
  (generalize q:("set.__len__":String)=id0;wp_delta;rw[show splitId id0=some ("set","__len__") from by subst q;decide];subst q)
  refine wpAny_bind (wpAny_isInstance (b:=true) m (by rw[isSubtype_type];kernel_rfl) ?_);refine wpAny_bind (wpAny_typeOf m ?_);refine wpAny_pure ?_;dsimp only;split
  ·refine main I fp i n P St g W st H B K k p o1 N (λr s'=>match r with
    | .ok (.ret v)=>wpAny (model prog w) A (match v with
     | .ref a=>do
      let o ← load a
      match o.data with
       | .seq D _=>pure D.toList
       |_=>unsupported "internal:collect"
     |_=>unsupported "internal:collect") Q E s'
    | .ok _=>False
    | .error e=>E e s') ?_
   exact λU d c G L u y J=>last U d c G L u y J
  rename_i Y;exact absurd (by decide) Y
 rw[if_neg (by rw[n1];decide)];refine wpAny_bind (RG _ _ _ kp λI fp i n P St g W st H B K k p o1 N=>?_);have m:g.TypeIs (.ref x) "dict":=⟨V,k _ _ (kp _ _ S),X⟩;refine wpAny_bind (wpAny_holding ?_);unfold Builtin.List.listLengthHint;refine wpAny_bind (wpAny_specialOf m F.slot_dict_len.lookup ?_)
 (generalize q:("dict.__len__":String)=id0;wp_delta;rw[show splitId id0=some ("dict","__len__") from by subst q;decide];subst q)
 refine wpAny_bind (wpAny_isInstance (b:=true) m (by rw[isSubtype_type];kernel_rfl) ?_);refine wpAny_bind (wpAny_typeOf m ?_);refine wpAny_pure ?_;dsimp only;split
 ·refine main I fp i n P St g W st H B K k p o1 N (λr s'=>match r with
   | .ok (.ret v)=>wpAny (model prog w) A (match v with
    | .ref a=>do
     let o ← load a
     match o.data with
      | .seq D _=>pure D.toList
      |_=>unsupported "internal:collect"
    |_=>unsupported "internal:collect") Q E s'
   | .ok _=>False
   | .error e=>E e s') ?_
  exact λU d c G L u y J=>last U d c G L u y J
 rename_i Y;exact absurd (by decide) Y
end
end L2
namespace L2
open PySem PySem.Spec PyProof.Rows PySem.W
def jk:List D->Option (List Key)
 |[]=>some []
 |d::ds=>(fy d).bind λk=>(jk ds).map (k::·)
def ll (d:D)(S:JP):Option D:=match d with
 | .tup a=>(dD a).map .lst
 | .lst a=>(dD a).map .lst
 | .loc l=>match S[l]? with
  |some (.dict kvs)=>(dD (kvs.map (·.1))).map .lst
  |_=>none
 |_=>none
def wn (f:JJ D):JJ D:=λb S=>ai (f b S) λd a=>aP (ll d a) a
def h9:List D->Option D
 |[.int j]=>if -(2 ^ 62)<=j/\j<=16777216 then some (.lst ((List.range j.toNat).map λ(k:Nat)=>D.int k)) else none
 |_=>none
def Ia:D->Option D
 | .str x=>if x.cps.all (·<128)=true then some (.str ⟨x.cps.map up1⟩) else none
 |_=>none
def tP:D->Bool
 | .str _=>true
 |_=>false
def um (k:D->Bool)(g:D->D->Option D)(fe c:JJ D):JJ D:=λa S=>ai (fe a S) λx b=>if k x=true then ai (c a b) λy d=>aP (g x y) d else none
def findD:D->D->Option D
 | .str x,.str y=>some (.int (Txt.find x y))
 |_,_=>none
section
variable {X:Cx}{W:WT}
theorem Az:gm X (.type "range") (λa H Q => ∃ j:Int,a=[.int j]/\∀ p,H p=none->Q (.ref p) (upd H p (.Rr 0 j))):=by intro c s f H a g Q I r h;obtain⟨j,rfl,q⟩:=h;obtain⟨u,rfl,d⟩:=vals1 r;obtain⟨t,rfl⟩:=d;refine call_range_1 ?_;exact⟨.ref s.heap.objs.size,_,I.laid (t':=s.toks+1+1) (λb o e=>Heap.get?_push_of_some _ e) (le_refl _) (show Ku X.prog X.w _ _ _ (.Rr 0 j) from⟨_,_,_,Heap.get?_push_size _ rfl⟩),rfl,q _ I.fresh⟩
theorem xI {a:Array Value}{n:Nat}(h:ItemsOf (λi v => ∃ t,v = .int (0+(i:Int)*1) t) a n):Vals ((List.range n).map λ(k:Nat)=>V.int k) a.toList:=by
 obtain⟨f,d⟩:=h
 have key:∀ (l:List Value) (i:Nat),(∀ (j:Nat) v,l[j]?=some v->∃ t,v = .int (((i+j:Nat):Int)) t)->Vals ((range' i l.length).map λ(k:Nat)=>V.int k) l:=by
  intro l
  induction l with
  |nil=>intro i _;exact .nil
  |cons v r g =>
   intro i c;rw[length_cons,range'_succ,map_cons];refine .cons (by obtain⟨t,e⟩:=c 0 v rfl;exact⟨t,by simpa using e⟩) (g (i+1) λj v b=>?_);obtain⟨t,e⟩:=c (j+1) v (by simpa using b);exact⟨t,by rw[e];congr 2;omega⟩
 have q:=key a.toList 0 λj v b=>by obtain⟨t,e⟩:=d j v (by rw[← getElem?_toList];exact b);exact⟨t,by rw[e];congr 1;simp⟩
 rw[length_toList,f,← List.range_eq_range'] at q;exact q
theorem xR (y:X.calm=true):gm X (.type "list") (λe H Q => ∃ (p:Addr) (j:Int),e=[.ref p]/\H p=some (.Rr 0 j)/\-(2 ^ 62)<=j/\j<=16777216/\∀ l,H l=none->Q (.ref l) (upd H l (.lst ((List.range j.toNat).map λ(k:Nat)=>V.int k)))):=by intro f s C H e E Q I r h;obtain⟨p,j,rfl,g,x,B,q⟩:=h;obtain⟨u,rfl,m⟩:=vals1 r;cases m;obtain⟨t,u,v,z⟩:∃ t u v,s.heap.get? p=some { cls:=.type "range",data:=.fields #[.int 0 t,.int j u,.int 1 v] }:=I.Kj p _ g;refine call_list_range (a:=0) (b:=j) (c:=1) (t:=t) (u:=u) (v:=v) (n:=j.toNat) (I.ok.hd y) z (small_one (by omega) (by omega) x (by omega)) (by rw[rangeSize_one];split<;>omega) (by omega) λD tk d c k A w=>?_;have i:=xI w;refine⟨.ref s.heap.objs.size,_,I.laid (t':=tk) (o:=.lst ((List.range j.toNat).map λ(k:Nat)=>V.int k)) k (le_refl _) ⟨?_,d.toList,c,i,by simpa using A⟩,rfl,q _ I.fresh⟩;rw[length_map,length_range];show j.toNat<=16777216;omega
variable {e:Expr}{fe:JJ D}{gs:JJ (List D)}{pos M7 p p2:Pos}{x y:Str}
theorem qo {a:Expr}(F:x="list")(s:y="range")(C:X.calm=true)(M:X.mg x=none)(B:X.mg y=none)(f:SA X W [a] gs)(L:Gl X x:=by rfl)(E:Gl X y:=by rfl)
  (G:starEach [a] X.env=(false,eval a X.env)::starEach [] X.env:=by rfl)
  (o:starEach [(.Call (.Name y p2) [a] [] M7)] X.env=(false,eval (.Call (.Name y p2) [a] [] M7) X.env)::starEach [] X.env:=by rfl)
  (w:(backTo M7 (starEach [] X.env)).any (·.1)=false:=by rfl) (A:(backTo pos (starEach [] X.env)).any (·.1)=false:=by rfl) :
  SE X W (.Call (.Name x p) [.Call (.Name y p2) [a] [] M7] [] pos) (bf h9 gs):=by
 subst F s;have inner:=hV (X:=X) (p:=p2) (pos:=M7) Az E B CQ f (by decide) (by decide) G w;refine PE.imp (hV (xR C) L M ur (cQ inner KS o) (by decide) (by decide) o A) λT H Q h=>?_;refine(tG.L1 h).mono λU e ⟨ds,b,i⟩=>?_;rw[append_nil,append_nil] at i;obtain⟨J,S,d,u,m,eq,q⟩:=tG.XB i;unfold h9 at eq;split at eq
 ·rename_i j;split at eq
  ·rename_i c;cases eq;obtain⟨v,r,rfl,P,n⟩:=JW.JU.mp m;cases JW.JY.mp n;cases At.JS.mp P;refine⟨j,rfl,λp t=>?_⟩;show sK _ _ _;refine⟨p,j,rfl,J4,c.1,c.2,λl b=>?_⟩;have N:p≠l:=λz=>by rw[z,J4] at b;cases b
   have R:e l=none:=by rw[aJ N.symm] at b;exact b
   have I:J6 e (upd e p (.Rr 0 j)):=aQ t _;have O:=I.trans (aQ b (.lst ((List.range j.toNat).map λ(k:Nat)=>V.int k)));refine q _ _ O ?_;have g:=JW.ofInts (K:=X.K) (H:=upd e p (.Rr 0 j)) (J:=J) ((List.range j.toNat).map λ(k:Nat)=>(k:Int));rw[map_map,map_map] at g
   exact At.Lj (ds:=(List.range j.toNat).map λ(k:Nat)=>D.int k) g b (λa f=>by
    by_cases z:a=p
    ·rw[z,J4];simp
    rw[aJ z];exact u a f) (by rw[length_map,length_range];show j.toNat<=16777216;omega)
  cases eq
 cases eq
theorem D5:Vo X "str.find" (λx a H Q => ∃ z y,x = .str z/\a=[.str y]/\Q (.int (Txt.find z y)) H):=by intro b s f H x a v g Q I c e h;obtain⟨z,y,rfl,rfl,q⟩:=h;obtain⟨t,rfl⟩:=c;obtain⟨u,rfl,d⟩:=vals1 e;obtain⟨t2,rfl⟩:=d;exact SC.find ⟨.int (Txt.find z y),H,I.tok _,⟨_,rfl⟩,q⟩
theorem pq {k:D->Bool}{g:D->D->Option D}{j:JJ D}{T:String}{r:V->List V->Hp->VK->Prop}{l:St}{H:Hp}{Q:VK}(p:∀ J a d v,k d=true->At X.K a J d v->Ts X.K T v a)
  (q:∀ (v v2:V) (b:Hp) (Q:VK),Sk X.K g v v2 b Q->r v [v2] b Q) (h:tE X W (um k g fe j) l H Q):XA X.K T r (tE X W fe) (EJ (tE X W j) sK) l H Q:=
 (tG.J5 h).mono λv a n=>by
  obtain⟨d,f⟩:=n
  by_cases i:k d=true
  ·simp only[i,if_true] at f;refine⟨?_,(tG.J5 f).mono λv2 b ⟨s,o⟩=>q v v2 b Q (tG.Wb o)⟩;obtain⟨J,_,_,_,_,_,m,_,_⟩:=f;exact p J a d v i m.JZ.1
  obtain⟨J,t,S,r,u,c,m,e,z⟩:=f;simp only[i,false_eq_true,if_false] at e;cases e
theorem Fh {J:List Addr}{a:Hp}{d:D}{v:V}(b:tP d=true)(m:At X.K a J d v):Ts X.K "str" v a:=by
 cases d<;>first |(cases b;done) |skip
 rename_i z;cases (At.J9.mp m).1;rfl
theorem D7 {o:Expr}{name:Str}{b c:Pos}{a:Expr}{e:JJ D}(g:name="find")(k:SE X W o fe)(p:SE X W a e)(r:attributeBase o name X.env (eval o X.env)=eval o X.env:=by rfl)
  (n:((backTo c (starEach [a] X.env)).all (λx => !x.1)&&(backToKw c (keywordEach [] X.env)).all (λx=>x.1.isSome)
   && decide ([a].length+([]:List Keyword).length+(if ([]:List Keyword).isEmpty then 0 else 1)<30))=true:=by rfl)
  (s:(b.endLine==c.line)=true:=by rfl) (f:starEach [a] X.env=(false,eval a X.env)::starEach [] X.env:=by rfl) (l:(backTo c (starEach [] X.env)).any (·.1)=false:=by rfl) :
  SE X W (.Call (.Attribute o name b) [a] [] c) (um tP findD fe e):=by
 subst g;refine PE.imp (yI F.plainAttrs_str F.slot_str_find F.type_str_find D5 k (cQ p KS f) r n s f l) λE H Q h=>pq (λJ w d v i m=>Fh i m) (λv G j Q q=>?_) h;obtain⟨J,C,B,I,A,t,u,eq,q⟩:=q;unfold findD at eq;split at eq
 ·rename_i z y;cases eq;cases (At.J9.mp t).1;cases (At.J9.mp u).1;exact⟨z,y,rfl,rfl,q j _ (J6.refl _) (At.JS.mpr rfl)⟩
 cases eq
def WJ:Key->Bool
 | .inl _=>true
 | .inr _=>false
def wG (P:Program)(w:World)(p:Addr)(a:List Key):HO:=HO.ext λh=>KU (bD P w) WJ (!Ot w) h p a
theorem Cb {k:Key}{u:Value}(r:RelV (kV k) u):u.scannable=true/\plainKind u=WJ k:=by
 cases k with
 |inl i=>obtain⟨t,e⟩:=(show ∃ t,u=Value.int i t from r);subst e;exact⟨rfl,rfl⟩
 |inr x=>obtain⟨t,e⟩:=(show ∃ t,u=Value.str x t from r);subst e;exact⟨rfl,rfl⟩
theorem BW (a:List Key):met (λi=>a.getD i (.inl 0)) a.length=a.foldl cy []:=by unfold met;congr 1;apply List.ext_getElem (by simp);intro i b c;simp at b;simp[List.getD,b]
theorem Gu (G:X.calm=true):gm X (.type "set") (λj H Q => ∃ (a:Addr) (c:List Key),j=[.ref a]/\Nm X.K H a (c.map kV)/\c.length+1<4096/\∀ p,H p=none->Q (.ref p) (upd H p (wG X.prog X.w p (c.foldl cy [])))):=by
 intro A s R H j S Q I r h;obtain⟨a,c,rfl,J,L,q⟩:=h;obtain⟨u,rfl,E⟩:=vals1 r;cases E;obtain⟨its,n,tp,N⟩:=I.tuple J;have g:its.length=c.length:=by rw[← n.length,length_map]
 refine ug (knd:=bD X.prog X.w) (pk:=WJ) (I.ok.hd G) (show s.heap.IsTuple a its.toArray from tp) (λi=>c.getD i (.inl 0)) (λi v C=>?_) (by rw[size_toArray,g];exact L) λP tk d k=>?_
 ·have l:its[i]?=some v:=by simpa using C
  have m:i<c.length:=by rw[← g];exact(List.getElem?_eq_some_iff.mp l).1
  obtain⟨u,y,f⟩:=n.get (i:=i) (x:=kV c[i]) (by rw[getElem?_map,List.getElem?_eq_getElem m];rfl);rw[l] at y;cases y;have D:c.getD i (.inl 0)=c[i]:=by simp[List.getD,m]
  simp only[D];exact⟨rj f,(Cb f).1,(Cb f).2⟩
 have B:its.toArray.size=c.length:=by rw[size_toArray,g]
 rw[B,BW] at d;refine⟨.ref s.heap.objs.size,_,I.laid (t':=tk) (o:=wG X.prog X.w s.heap.objs.size (c.foldl cy [])) (λb o e=>k b o (Heap.lt_size e) e) (le_refl _) ⟨d,?_,λO M z k=>z.keep k⟩,rfl,q _ I.fresh⟩;obtain⟨o,es,ep,t,F,_⟩:=d;exact⟨o,F⟩
theorem KU.len {h:Heap}{p:Addr}{a:List Key}{P:Program}{w:World}{es:Array (Int×Value)}(d:∃ l:List (Int×Value),l.Perm es.toList/\Paired (wH (bD P w)) a l):es.size=a.length:=by obtain⟨l,c,r⟩:=d;have b:=c.length_eq;have e:=nE r;simp only[length_toList] at b;omega
theorem yT {K:JK}{H:Hp}{J:List Addr}:∀ {ds:List D}{b:List Key}{vs:List V},jk ds=some b->JW K H J ds vs->vs=b.map kV
 |[],b,vs,e,m=>by cases e;exact JW.JY.mp m
 |d::ds,b,vs,e,m=>by
  obtain⟨v,r,rfl,a,n⟩:=JW.JU.mp m;rw[jk] at e;obtain⟨k,c,f⟩:=bind_eq_some_iff.mp e;obtain⟨i,g,h⟩:=map_eq_some_iff.mp f;subst h;rw[map_cons,vN c a,yT g n]
theorem rf:∀ {ds:List D}{a:List Key},jk ds=some a->a.length=ds.length
 |[],a,e=>by cases e;rfl
 |d::ds,a,e=>by
  rw[jk] at e;obtain⟨k,g,b⟩:=bind_eq_some_iff.mp e;obtain⟨h,c,f⟩:=map_eq_some_iff.mp b;subst f;rw[length_cons,length_cons,rf c]
theorem KU.vals {P:Program}{w:World}{a:List Key}{l:List (Int×Value)}(r:Paired (wH (bD P w)) a l):Vals (a.map kV) (l.map (·.2)):=by
 induction r with
 |nil=>exact .nil
 |cons f t b =>
  rename_i k e a l;refine .cons ?_ b;obtain⟨c,_,_⟩:=f;rcases bz c with ⟨i,t,rfl,e⟩ |⟨x,t,rfl,e⟩
  ·exact⟨t,e⟩
  exact⟨t,e⟩
theorem zD:∀ {us us':List Value},us'.Perm us->∀ {vs:List V},Vals vs us->∃ c:List V,c.Perm vs/\Vals c us':=by
 intro us us' g
 induction g with
 |nil=>intro vs r;exact⟨vs,.refl _,r⟩
 |cons x _ k =>
  intro vs r;cases r with
  |cons b a=>obtain⟨w,p,q⟩:=k a;exact⟨_::w,p.cons _,.cons b q⟩
 |swap x y l =>
  intro vs r;cases r with
  |cons b a=>cases a with
   |cons m i=>exact⟨_::_::_,.swap ..,.cons m (.cons b i)⟩
 |trans _ _ h f =>
  intro vs r;obtain⟨w,p,q⟩:=f r;obtain⟨e,j,d⟩:=h q;exact⟨e,j.trans p,d⟩
theorem CU {K:JK}{H:Hp}{J:List Addr}{e vs:List V}(k:e.Perm vs):∀ {ds:List D},JW K H J ds vs->∃ c:List D,c.Perm ds/\JW K H J c e:=by
 induction k with
 |nil=>intro ds m;exact⟨ds,.refl _,m⟩
 |cons x _ s =>
  intro ds m;cases ds with
  |nil=>cases JW.JY.mp m
  |cons d ds=>obtain⟨a,b⟩:=m.JZ;obtain⟨w,p,q⟩:=s b;exact⟨d::w,p.cons _,.cons a q⟩
 |swap x y l =>
  intro ds m;cases ds with
  |nil=>cases JW.JY.mp m
  |cons d ds=>cases ds with
   |nil=>cases JW.JY.mp m.JZ.2
   |cons j ds=>obtain⟨a,b⟩:=m.JZ;obtain⟨f,r⟩:=b.JZ;exact⟨j::d::ds,.swap ..,.cons f (.cons a r)⟩
 |trans _ _ n i =>
  intro ds m;obtain⟨w,p,q⟩:=i m;obtain⟨h,o,g⟩:=n q;exact⟨h,o.trans p,g⟩
theorem vQ {K:Type}[DecidableEq K]:∀ (l b:List K) (k:K),k∈l.foldl cy b↔k∈b∨k∈l
 |[],b,k=>by simp
 |a::l,b,k=>by
  rw[foldl_cons,vQ l,mem_cons];unfold cy;split
  ·constructor
   ·rintro (h |h)
    ·exact .inl h
    exact .inr (.inr h)
   rintro (h |rfl |h)
   ·exact .inl h
   ·left;assumption
   exact .inr h
  simp only[mem_append,mem_singleton];constructor
  ·rintro ((h |h) |h)
   ·exact .inl h
   ·exact .inr (.inl h)
   exact .inr (.inr h)
  rintro (h |h |h)
  ·exact .inl (.inl h)
  ·exact .inl (.inr h)
  exact .inr h
theorem Inv.moved {a:JM}{c:St}{H:Hp}{s s':Shared}(I:Inv X a c H s)(k:∀ b o,s.heap.get? b=some o->s'.heap.get? b=some o)(g:s'.gens=s.gens)(o:s'.os=s.os):Inv X a c H s':=by obtain⟨e,g',d',t',d⟩:=s';cases g;cases o;exact I.call (d':=d') (t':=t') (g':=s.gens) (ch:=[]) (Un.kept k) (I.Kj.kept k) I.bare λb z=>absurd z (by simp)
theorem ud (hc:X.calm=true):gm X (.builtin "sorted") (λL H Q => ∃ (p:Addr) (n:List Key) (J:List Addr) (ds out:List D),L=[.ref p]/\H p=some (wG X.prog X.w p n)/\(∀ a∈J,H a≠none)/\JW X.K H J ds (n.map kV)/\dD ds=some out/\∀ H' v,J6 H H'->At X.K H' J (.lst out) v->Q v H'):=by
 intro O s σ H L N Q I r h;obtain⟨p,n,J,ds,out,rfl,hp,U,m0,e,q⟩:=h;obtain⟨u,rfl,ru⟩:=vals1 r;cases ru;obtain⟨⟨o,es,ep,t,m,hex,hd,P,f,G,MB,_,Y⟩,_,_⟩:=I.Kj p _ hp;obtain⟨l,V,rl⟩:=id P;have ez:=KU.len (h:=s.heap) (p:=p) P;have B:es.size<=sizeLine:=Nat.le_of_lt (lt_of_lt_of_le f (by decide));refine jG U e q λQ' E hQ=>?_;have hh:X.A.in1.handled=none:=I.ok.hd hc;refine nR (.inl rfl) ⟨o,m,hex.1⟩ (λN=>N.Perm (l.map (·.2))) (λS Q2 E2 x Z=>?_) λs' c UI k g os=>?_
 ·refine xm (s:={ s with heap:=S }) (x _ _ m) hex hd G B (λf=>by rw[MB,f];rfl) Y λit T fp F first h' d y W hF R j QS=>?_
  have Lb:p≠it:=λz=>by have M:p<S.objs.size:=Heap.lt_size (x _ _ m);rw[z] at M;exact absurd (lt_of_lt_of_le M j) (Nat.lt_irrefl _)
  refine Z it fp [it] es.size _ _ _ ((Walks.set (A:=X.A.in1.in1) hh y Lb hex hd G).toS) ⟨R _ _ (x _ _ m),first,W,hF⟩ B QS (λb f=>by rw[mem_singleton.mp f];exact j) R rfl rfl λc ha=>?_;obtain⟨a1,a2⟩:=ha;have osz:T.size=es.size:=by have:=y.perm.length_eq;simpa using this
  have e3:c.toList=T.toList.map (·.2):=by
   apply ext_getElem?;intro i;by_cases hi:i<es.size
   ·have C:c[i]?=some c[i]:=Array.getElem?_eq_getElem (by omega);have:=a2 i _ C;rw[getElem?_map,getElem?_toList,getElem?_toList,C,this]
   rw[getElem?_map,getElem?_toList,getElem?_toList,Array.getElem?_eq_none (by omega),Array.getElem?_eq_none (by omega)];rfl
  rw[e3];exact(y.perm.trans V.symm).map _
 have rv:=KU.vals rl;obtain⟨Nv,p1,r1⟩:=zD UI rv;obtain⟨N1,p2,m2⟩:=CU p1 m0;exact hQ c Nv s' N1 (I.moved k g os) r1 p2 m2
theorem mC {α c:Type}{R : α->c->Prop}:∀ {l:List α}{m:List c},l.length=m.length->(∀ (i:Nat) a b,l[i]?=some a->m[i]?=some b->R a b)->Paired R l m
 |[],[],_,_ => .nil
 |a::l,b::m,h,k => .cons (k 0 a b rfl rfl) (mC (by simpa using h) λi x y e d=>k (i+1) x y (by simpa using e) (by simpa using d))
 |[],_::_,h,_=>by simp at h
 |_::_,[],h,_=>by simp at h
theorem pf {α e:Type}{R : α->e->Prop}{l:List α}{m:List e}(r:Paired R l m):∀ (i:Nat) a b,l[i]?=some a->m[i]?=some b->R a b:=by
 induction r with
 |nil=>intro i a b h;simp at h
 |cons f t g =>
  intro i a b d c;cases i with
  |zero=>simp at d c;subst d c;exact f
  |succ i=>exact g i a b (by simpa using d) (by simpa using c)
theorem yU {P:Program}{w:World}{k:Key}{u:Value}(h:(bD P w).is k u=true):RelV (kV k) u:=by
 rcases bz h with ⟨i,t,rfl,e⟩ |⟨x,t,rfl,e⟩
 ·exact⟨t,e⟩
 exact⟨t,e⟩
theorem v_ (Y:X.calm=true):gm X (.builtin "sorted") (λB H Q => ∃ (p:Addr) (j:List (Key×V)) (J:List Addr) (ds out:List D),B=[.ref p]/\H p=some (.dK j)/\(∀ a∈J,H a≠none)/\JW X.K H J ds (j.map λq=>kV q.1)/\dD ds=some out/\∀ H' v,J6 H H'->At X.K H' J (.lst out) v->Q v H'):=by
 intro L s σ H B G Q I r h;obtain⟨p,j,J,ds,out,rfl,M,N,m,e,q⟩:=h;obtain⟨u,rfl,T⟩:=vals1 r;cases T;obtain⟨R,SN,n,C,hd⟩:=I.Kj p _ M;obtain⟨ep,WK⟩:=hd.dictAt;have d:n.length=j.length:=(KV.length C).symm;refine jG N e q λQ' E hQ=>?_;have W:X.A.in1.handled=none:=I.ok.hd Y;refine nR (.inr rfl) hd.typeIs (λG=>Vals (j.map λq=>kV q.1) G) (λf Q2 E2 k0 Vx=>?_) λZ c l k g os=>?_
 ·have y:f.DictAt (bD X.prog X.w) p n ep:=WK.keep k0;refine wpAny_pyIter_dict (s:={ s with heap:=f }) SN y ?_;have O:p<f.objs.size:=y.lt_size
  refine Vx f.objs.size [f.objs.size,p] [f.objs.size] n.length _ _ _ ((Walks.dictKeys (A:=X.A.in1.in1) W f.objs.size p (ne_of_lt O) n ep).toS) ⟨⟨_,Heap.get?_push_size _ rfl,rfl,rfl⟩,y.push _⟩ (by rw[d];exact R)
   (λb hb=>by
    rcases mem_cons.mp hb with z |hb
    ·rw[z];exact .inr (le_refl _)
    exact .inl (mem_singleton.mp hb))
   (λb hb=>by rw[mem_singleton.mp hb];exact le_refl _) (λb o e=>Heap.get?_push_of_some _ e) rfl rfl λc ha=>?_
  obtain⟨a1,S⟩:=ha;refine mC (by have t:c.toList.length=c.size:=length_toList;rw[length_map,t,a1,d]) λi v u l F=>?_;rw[getElem?_toList] at F;obtain⟨k,x,t,e2⟩:=S i u F;rw[getElem?_map] at l;obtain⟨q,P,e4⟩:=map_eq_some_iff.mp l;have U:=(pf C i q (k,x) P t).1;rw[← e4,U];exact yU e2
 exact hQ c _ Z ds (I.moved k g os) l (.refl _) m
theorem yz (E:x="sorted")(C:X.calm=true)(y:X.mg x=none)(u:SE X W e fe)(w:Gl X x:=by rfl)(i:starEach [e] X.env=(false,eval e X.env)::starEach [] X.env:=by rfl)(n:(backTo pos (starEach [] X.env)).any (·.1)=false:=by rfl) :
  SE X W (.Call (.Name x p) [e] [] pos) (wn fe):=by
 subst E
 refine SE.either (g1:=bf A3 (af fe aA)) (g2:=λg S=>ai (fe g S) λd j=>aP (match d with | .loc l=>(match j[l]? with |some (.dict b)=>(dD (b.map (·.1))).map .lst |_=>none) |_=>none) j)
  (bd Ew y jW (ae u ah i) w (by decide) (by decide) i n) ?_ λg S=>?_
 ·refine PE.imp (jj (v_ C) w y jW (cQ u KS i) (by decide) (by decide) i n) λP H Q h=>?_;refine(tG.J5 h).mono λv O ⟨d,A⟩=>?_;obtain⟨J,g,S,r,R,c,m,eq,z⟩:=A;obtain⟨m,_⟩:=m.JZ;show sK _ _ _;cases d with
  |loc l =>
   obtain⟨a,rfl,M⟩:=At.Ke.mp m;cases hS:S[l]? with
   |none=>simp[hS] at eq
   |some F =>
    cases F with
    |lst N=>simp[hS] at eq
    |exc c=>simp[hS] at eq
    |JT _=>simp[hS] at eq
    |ins _ _=>simp[hS] at eq
    |dict b =>
     simp only[hS] at eq;cases hq:dD (b.map (·.1)) with
     |none=>simp[hq] at eq
     |some out =>
      simp only[hq,map_some,bZ,JV] at eq;cases eq;obtain⟨L,k,G⟩:=c.Kr.at_ l a _ M hS;refine⟨a,L,J,b.map (·.1),out,rfl,k,c.Kr.all,?_,hq,λK v s D=>z J K v (Ex.same s) (c.Kr.same s) D⟩;clear hq hS z k
      induction G with
      |nil=>exact .nil
      |cons f t I=>exact .cons f.1.2 I
  |_=>simp at eq
 unfold wn bf af aA;cases q:fe g S with
 |none=>exact .inl rfl
 |some o =>
  obtain⟨B,j⟩:=o;cases B with
  |error c=>exact .inl rfl
  |ok d=>cases d<;>first |exact .inl rfl |exact .inr rfl
end
mutual
inductive Lit:Expr->D->Prop
 |int {i:Int}{j p}:Lit (.Constant (.int i) j p) (.int i)
 |bl {b:Bool}{j p}:Lit (.Constant (.bool b) j p) (.bl b)
 |Kk {j p}:Lit (.Constant .none j p) .Kk
 |str {x:Str}{j p} (hx:Rx x):Lit (.Constant (.str x) j p) (.str x)
 |neg {i:Int}{j p q}:Lit (.UnaryOp .USub (.Constant (.int i) j p) q) (.int (-i))
 |tup {es:List Expr}{ds:List D}{k p} (h:Py es ds) (n:ds.length<=1000):Lit (.Tuple es k p) (.tup ds)
 |lst {es:List Expr}{ds:List D}{p} (h:Py es ds) (n:ds.length<=1000):Lit (.List es p) (.lst ds)
inductive Py:List Expr->List D->Prop
 |nil:Py [] []
 |cons {e:Expr}{d:D}{es:List Expr}{ds:List D}(h:Lit e d) (r:Py es ds):Py (e::es) (d::ds)
end
section
variable {X:Cx}{W:WT}
theorem SE.eq {e:Expr}{g g':JJ D}(h:SE X W e g)(q:g=g'):SE X W e g':=q▸h
theorem SA.eq {e:List Expr}{g g':JJ (List D)}(h:SA X W e g)(q:g=g'):SA X W e g':=q▸h
theorem AY {e:Expr}{d:D}(h:Lit e d)(es:List Expr):starEach (e::es) X.env=(false,eval e X.env)::starEach es X.env:=by cases h<;>rfl
mutual
theorem kC:∀ {e:Expr}{d:D},Lit e d->SE X W e (aC d)
 |_,_,.int=>ao
 |_,_,.bl=>fV
 |_,_,.Kk=>sU
 |_,_,.str a=>dZ a
 |_,_,.neg=>SE.eq (Bc wT ao) rfl
 |_,_,.tup (ds:=ds) h n=>SE.eq (dF (xf h)) (by
   funext ρ S;show aP (Mz ds (.tup ds)) S=JV (.tup ds) S;unfold Mz
   rw[if_pos (Nat.le_trans n (by decide))];rfl)
 |_,_,.lst (ds:=ds) h n=>SE.eq (gL (xf h)) (by
   funext ρ S;show aP (Mz ds (.lst ds)) S=JV (.lst ds) S;unfold Mz
   rw[if_pos (Nat.le_trans n (by decide))];rfl)
theorem xf:∀ {es:List Expr}{ds:List D},Py es ds->SA X W es (λ_ S=>JV ds S)
 |_,_,.nil=>ah
 |_,_,.cons h r=>SA.eq (ae (kC h) (xf r) (AY h _)) rfl
end
end
def HG (F:JO)(t:JJ (List D)):JJ D:=λa S=>ai (t a S) λc b=>F c b
def Gx (c:Str)(t:JJ (List D)):JJ Fl:=λa S=>ai (t a S) λe d=>ai (aP (Mz e .Kk) d) λ_ b=>some (.error c,b)
end L2
namespace L2
open PySem PySem.Spec PySem.Calls PyProof.Rows PySem.W
structure Ya (K:Frag) (C:Addr):Prop where
 cls:findIn K (.ref C) "__class__"=some (some (.builtin "object.__class__"))
 ga:findIn K (.ref C) "__getattribute__"=some (some (.builtin "BaseException.__getattribute__"))
 gn:findIn K (.ref C) "__getattr__"=some none
 so:subIn K (.ref C) (.type "object")=some true
 sb:subIn K (.ref C) (.type "BaseException")=some true
 is:(clsIn K C).isSome=true
end L2
namespace L2
open PySem PySem.Spec PyProof.Rows PySem.W
section
variable {X:Cx}{W:WT}{e:Expr}{fe fa:JJ D}{pos p p2:Pos}
def Hn (a:Str->Option Bool)(d:D)(S:JP):Option D:=match d with
 | .loc l=>(match S[l]? with
  |some (.exc c)=>(a c).map .bl
  |_=>none)
 |_=>none
def IW (a:Str->Option Bool)(fe:JJ D):JJ D:=λc S=>ai (fe c S) λd b=>aP (Hn a d b) b
end
def eT (gt:JJ Bool)(e:JJ Fl):Nat->JJ Fl
 | 0,_,_=>none
 |n+1,ρ,S=>ai (gt ρ S) λb g=>if b=true then ai (e ρ g) λf c=>(match f with
   | .next a=>eT gt e n a c
   | .cont a=>eT gt e n a c
   | .brk a=>JV (.next a) c
   | .ret d=>JV (.ret d) c) else JV (.next ρ) g
def uk (n:Nat)(gt:JJ Bool)(a:JJ Fl):JJ Fl:=eT gt a n
section
variable {X:Cx}{W:WT}{pos:Pos}
theorem wR {gt:JJ Bool}{t:JJ Fl}{n:Nat}{D:Ends}{w:St}{H:Hp}(h:tS X W (uk n gt t) D w H):AW (tT X W gt) (tS X W t) D w H:=by
 refine⟨λm w H=>tS X W (eT gt t m) D w H,⟨n,h⟩,λm w H h=>?_⟩;obtain⟨J,i,S,r,B,c,e,z⟩:=h;cases m with
 |zero=>cases e
 |succ m =>
  unfold eT at e;cases q:gt i S with
  |none=>simp[q] at e
  |some o =>
   obtain⟨I,j⟩:=o;simp only[q] at e;cases I with
   |error y =>
    cases e;exact⟨J,i,S,.error y,_,c,.nil,q,z⟩
   |ok b =>
    refine⟨J,i,S,.ok b,j,c,.nil,q,λu E N x L m1=>?_⟩;cases m1;have A:Cf X u i j w E:=c.re x L;have z1:MA X W u E r B D:=MA.ex z x;cases b with
    |false =>
     have e:(JV (.next i) j:Out Fl)=some (r,B):=e;cases e;exact z1 u w E Ex.refl A
    |true =>
     refine⟨λg k=>tS X W (eT gt t m) D g k,λg k K=>⟨m,lt_succ_self m,K⟩,?_⟩
     have e:ai (t i j) (λf p=>(match f with
       | .next a=>eT gt t m a p
       | .cont a=>eT gt t m a p
       | .brk a=>JV (.next a) p
       | .ret d=>JV (.ret d) p:Out Fl))=some (r,B):=e
     cases q2:t i j with
     |none=>simp[q2] at e
     |some o2 =>
      obtain⟨G,p⟩:=o2;rw[q2] at e;cases G with
      |error y =>
       cases e;exact⟨u,i,j,.error y,_,A,q2,λs k l F=>z1 s k l F⟩
      |ok f =>
       cases f with
       |next a=>exact⟨u,i,j,_,p,A,q2,λs g k l C=>⟨s,a,p,r,B,C,e,MA.ex z1 l⟩⟩
       |cont a=>exact⟨u,i,j,_,p,A,q2,λs g k l C=>⟨s,a,p,r,B,C,e,MA.ex z1 l⟩⟩
       |brk a =>
        cases e;exact⟨u,i,j,_,_,A,q2,λs g k l C=>z1 s g k l C⟩
       |ret d =>
        cases e;exact⟨u,i,j,_,_,A,q2,λs k v l F M=>z1 s k v l F M⟩
theorem AZ {t:Expr}{body:List Stmt}{gt:JJ Bool}{a:JJ Fl}{n:Nat}(c:PassesOwn (model X.prog X.w) X.A X.env X.xe)(d:MH X W t gt)(b:OT X W body a):SS X W (.While t body [] pos) (uk n gt a):=
 PS.imp (Bu c d b) λE e H h=>wR h
end
section
variable {X:Cx}{W:WT}{fe fa:JJ D}
theorem fz:∀ {us:List Value}{ns:List Int},Vals (ns.map V.int) us->IntsAre us ns
 |_,[],r=>by cases r;exact .nil
 |_,n::ns,r=>by
  cases r with
  |cons a b =>
   obtain⟨t,rfl⟩:=a;exact .cons n t (fz b)
theorem BT:Vo X "list.index" (λx b H Q => ∃ (a:Addr) (ns:List Int) (k:Int),x = .ref a/\b=[.int k]/\M0 X.K H a (ns.map V.int)/\PyData.layable0 (.list (ns.map .int))=true/\k∈ns/\Q (.int (ns.idxOf k:Nat)) H):=by intro c s t H x b v w Q I g m h;obtain⟨a,ns,k,rfl,rfl,r,d,e,q⟩:=h;cases g;obtain⟨u,rfl,j⟩:=vals1 m;obtain⟨t2,rfl⟩:=j;obtain⟨its,i,⟨o,n,l,f,_,p⟩,_⟩:=I.list r;exact index_list_ints (vs:=its) ⟨o,l,f,n,p⟩ (fz i) d e ⟨.int _,H,I.tok _,⟨_,rfl⟩,q⟩
def tQ:D->Bool
 | .lst _=>true
 |_=>false
def pH:D->D->Option D
 | .lst a,.int k=>(cw a).bind λns=>if k∈ns/\PyData.layable0 (.list (ns.map .int))=true then some (.int (ns.idxOf k:Nat)) else none
 |_,_=>none
theorem F_ {J:List Addr}{b:Hp}{d:D}{v:V}(c:tQ d=true)(m:At X.K b J d v):Ts X.K "list" v b:=by
 cases d<;>first |(cases c;done) |skip
 rename_i g;obtain⟨a,f,rfl,e,_⟩:=At.Kc.mp m;exact .inl ⟨rfl,f,e.sq⟩
theorem B0 {o:Expr}{name:Str}{b c:Pos}{a:Expr}(i:name="index")(p:SE X W o fe)(u:SE X W a fa)(z:attributeBase o name X.env (eval o X.env)=eval o X.env:=by rfl)
  (s:((backTo c (starEach [a] X.env)).all (λx => !x.1)&&(backToKw c (keywordEach [] X.env)).all (λx=>x.1.isSome)
   && decide ([a].length+([]:List Keyword).length+(if ([]:List Keyword).isEmpty then 0 else 1)<30))=true:=by rfl)
  (A:(b.endLine==c.line)=true:=by rfl) (g:starEach [a] X.env=(false,eval a X.env)::starEach [] X.env:=by rfl) (r:(backTo c (starEach [] X.env)).any (·.1)=false:=by rfl) :
  SE X W (.Call (.Attribute o name b) [a] [] c) (um tQ pH fe fa):=by
 subst i;refine PE.imp (yI F.plainAttrs_list F.slot_list_index F.type_list_index BT p (cQ u KS g) z s A g r) λM H Q h=>pq (λJ G d v j m=>F_ j m) (λv O n Q q=>?_) h;obtain⟨J,L,K,P,I,B,E,eq,q⟩:=q;unfold pH at eq;split at eq
 ·rename_i N k;obtain⟨ns,w,e⟩:=bind_eq_some_iff.mp eq;split at e
  ·rename_i f;cases e;cases At.JS.mp E;obtain⟨a,D,rfl,l,t⟩:=At.Kc.mp B;have y:=f7 w;subst y;have C:D=ns.map V.int:=JW.My t;subst C;exact⟨a,ns,k,rfl,rfl,l.sq,f.2,f.1,q n _ (J6.refl _) (At.JS.mpr rfl)⟩
  cases e
 cases eq
end
section
variable {X:Cx}{W:WT}{e:Expr}{fe:JJ D}{pos p:Pos}{x:Str}
def Hk (d:D)(S:JP):Option D:=match d with
 | .loc l=>(match S[l]? with
  |some (.dict kvs)=>some (.int kvs.length)
  |_=>none)
 |_=>none
theorem wc (F:X.calm=true):gm X (.type "list") (λf H Q => ∃ (p:Addr) (d:List (Key×V)),f=[.ref p]/\H p=some (.dK d)/\∀ l,H l=none->Q (.ref l) (upd H l (.lst (d.map λq=>kV q.1)))):=by
 intro t s R H f S Q I r h;obtain⟨p,d,rfl,z,q⟩:=h;obtain⟨u,rfl,D⟩:=vals1 r;cases D;obtain⟨j,J,y,m,hd⟩:=I.Kj p _ z;obtain⟨ep,N⟩:=hd.dictAt;have b:y.length=d.length:=(KV.length m).symm;refine kdl_call (kdl_dict (kvs:=y) (ep:=ep) (knd:=bD X.prog X.w) J) (I.ok.hd F) N (by rw[b];exact j) λP tk a c k K G=>?_;obtain⟨O,B⟩:=G;have C:Vals (d.map λq=>kV q.1) a.toList:=by refine mC (by have e:a.toList.length=a.size:=length_toList;rw[length_map,e,O,b]) λi v u g n=>?_;rw[getElem?_toList] at n;obtain⟨k,x,e,L⟩:=B i u n;rw[getElem?_map] at g;obtain⟨q,A,M⟩:=map_eq_some_iff.mp g;have E:=(pf m i q (k,x) A e).1;rw[← M,E];exact yU L
 exact⟨.ref s.heap.objs.size,_,I.laid (t':=tk) (o:=.lst (d.map λq=>kV q.1)) k (le_refl _) ⟨by rw[length_map];exact j,a.toList,c,C,by simpa using K⟩,rfl,q _ I.fresh⟩
def h_ (d:D)(S:JP):Option D:=match d with
 | .loc l=>(match S[l]? with
  |some (.dict kvs)=>if kvs.length<=sizeLine then some (.lst (kvs.map (·.1))) else none
  |_=>none)
 |_=>none
def mN (fe:JJ D):JJ D:=λb S=>ai (fe b S) λd a=>aP (h_ d a) a
theorem uY (R:X.A.units+1<cLine)(I:X.mg x=none)(g:SE X W e fe)(B:X.calm=true:=by rfl)(D:x="list":=by rfl)(F:Gl X x:=by rfl)(o:starEach [e] X.env=(false,eval e X.env)::starEach [] X.env:=by rfl)(w:(backTo pos (starEach [] X.env)).any (·.1)=false:=by rfl) :
  SE X W (.Call (.Name x p) [e] [] pos) (mN fe):=by
 subst D;refine PE.imp (hV (wc B) F I ur (cQ g KS o) (by decide) (by decide) o w) λO H Q h=>?_;refine(tG.J5 h).mono λv u ⟨d,y⟩=>?_;obtain⟨J,M,S,r,P,c,m,eq,z⟩:=y;obtain⟨m,_⟩:=m.JZ;show sK _ _ _;unfold h_ at eq;cases d with
 |loc l =>
  obtain⟨a,rfl,L⟩:=At.Ke.mp m;cases hS:S[l]? with
  |none=>simp[hS] at eq
  |some E =>
   cases E with
   |dict b =>
    simp only[hS] at eq;split at eq
    ·rename_i k;cases eq;obtain⟨s,j,n⟩:=c.Kr.at_ l a _ L hS;refine⟨a,s,rfl,j,λN i=>?_⟩
     have C:JW X.K u J (b.map (·.1)) (s.map λq=>kV q.1):=by
      clear hS z j k
      induction n with
      |nil=>exact .nil
      |cons f t G=>exact .cons f.1.2 G
     refine z J _ _ (Ex.same (aQ i _)) (c.Kr.same (aQ i _)) (At.Lj C i (λa g=>c.Kr.tracked g) ?_);rw[length_map,← n.length];exact k
    cases eq
   |_=>simp[hS] at eq
 |_=>simp at eq
end
def dY (a b:D):Bool:=match gp a,gp b with
 |some p,some q=>PyData.eqv p q
 |_,_=>false
def putN (kvs:List (D×D))(k v:D):List (D×D):=if (kvs.any λp=>dY p.1 k)=true then kvs.map (λp=>if dY p.1 k=true then (p.1,v) else p) else kvs++[(k,v)]
def j0 (kvs:List (D×D))(k:D):Option D:=(kvs.find? λp=>dY p.1 k).map (·.2)
noncomputable def lB (b:List (PyData×Addr×V)) (k:PyData) (a:Addr) (v:V):List (PyData×Addr×V):=if (b.any λp=>decide (p.1=k))=true then b.map (λp=>if p.1=k then (p.1,p.2.1,v) else p) else b++[(k,a,v)]
noncomputable def qG (a:List (PyData×Addr×V)) (k:PyData):Option V:=(a.find? λp=>decide (p.1=k)).map (·.2.2)
abbrev RQ:(PyData×Addr×V)->(PyData×Addr×Value)->Prop:=λp q=>p.1=q.1/\p.2.1=q.2.1/\RelV p.2.2 q.2.2
theorem tN {d:D}{p:PyData}(h:gp d=some p):toPy d=some p/\keyOk 8 p=true:=by
 unfold gp at h;obtain⟨q,c,a⟩:=bind_eq_some_iff.mp h;split at a
 ·rename_i b;cases a;exact⟨c,b⟩
 cases a
section
variable {K:JK}{H H':Hp}{J J':List Addr}
theorem oW {a k:D}{x y:PyData}(h:gp a=some x)(g:gp k=some y):dY a k=decide (x=y):=by unfold dY;rw[h,g];exact rg (tN h).2 (tN g).2
theorem GH {kvs:List (D×D)}{a:List (PyData×Addr×V)}{k:D}{y:PyData}(g:gp k=some y)(r:Paired (Pu K H J) kvs a):(kvs.any λp=>dY p.1 k)=a.any λq=>decide (q.1=y):=by
 induction r with
 |nil=>rfl
 |cons h t b=>rw[any_cons,any_cons,b,oW h.1.1 g]
theorem zR {kvs:List (D×D)}{a:List (PyData×Addr×V)}{k v:D}{y:PyData}{w:V}(g:gp k=some y)(c:At K H J v w)(r:Paired (Pu K H J) kvs a) :
  Paired (Pu K H J) (kvs.map λp=>if dY p.1 k=true then (p.1,v) else p) (a.map λq=>if q.1=y then (q.1,q.2.1,w) else q):=by
 induction r with
 |nil=>exact .nil
 | @cons p q f d h t b =>
  refine .cons ?_ b;show Pu K H J (if dY p.1 k=true then (p.1,v) else p) (if q.1=y then (q.1,q.2.1,w) else q);rw[oW h.1.1 g];by_cases e:q.1=y
  ·rw[if_pos (decide_eq_true e),if_pos e];exact⟨h.1,c⟩
  rw[if_neg (by rw[decide_eq_false e];decide),if_neg e];exact h
theorem zT {k v:D}{y:PyData}{b:Addr}{w:V}(g:gp k=some y)(e:At K H J k (.ref b))(f:At K H J v w){c:List (D×D)}{a:List (PyData×Addr×V)}(h:Paired (Pu K H J) c a):Paired (Pu K H J) (c++[(k,v)]) (a++[(y,b,w)]):=by
 induction h with
 |nil=>exact .cons ⟨⟨g,e⟩,f⟩ .nil
 |cons h t d=>exact .cons h d
theorem FC {kvs:List (D×D)}{a:List (PyData×Addr×V)}{k v:D}{y:PyData}{b:Addr}{w:V}(g:gp k=some y)(d:At K H J k (.ref b))(c:At K H J v w)(r:Paired (Pu K H J) kvs a):Paired (Pu K H J) (putN kvs k v) (lB a y b w):=by
 unfold putN lB;rw[GH g r];split
 ·exact zR g c r
 exact zT g d c r
theorem Ck {kvs:List (D×D)}{a:List (PyData×Addr×V)}{k:D}{y:PyData}(g:gp k=some y)(r:Paired (Pu K H J) kvs a) :
  (j0 kvs k=none/\qG a y=none)∨∃ d v,j0 kvs k=some d/\qG a y=some v/\At K H J d v:=by
 unfold j0 qG
 induction r with
 |nil=>exact .inl ⟨rfl,rfl⟩
 | @cons p q f c h t b =>
  rw[find?_cons,find?_cons,oW h.1.1 g];by_cases e:q.1=y
  ·rw[decide_eq_true e];exact .inr ⟨p.2,q.2.2,rfl,rfl,h.2⟩
  rw[decide_eq_false e];exact b
end
theorem Fx {b:List (PyData×Addr×V)}{a:List (PyData×Addr×Value)}(r:Paired RQ b a)(k:PyData):(b.any λp=>decide (p.1=k))=(atKey a k).isSome:=by
 unfold atKey;rw[isSome_map]
 induction r with
 |nil=>rfl
 | @cons p q f d h t c =>
  rw[any_cons,find?_cons,c,h.1];by_cases e:q.1=k
  ·rw[decide_eq_true e];rfl
  rw[decide_eq_false e];rfl
theorem Bm {b:List (PyData×Addr×V)}{a:List (PyData×Addr×Value)}(r:Paired RQ b a)(k:PyData):LF (qG b k) ((atKey a k).map (·.2)):=by
 unfold qG atKey
 induction r with
 |nil=>exact True.intro
 | @cons p q f d h t c =>
  rw[find?_cons,find?_cons,h.1];by_cases e:q.1=k
  ·rw[decide_eq_true e];exact h.2.2
  rw[decide_eq_false e];exact c
theorem Fv {b:List (PyData×Addr×V)}{a:List (PyData×Addr×Value)}(r:Paired RQ b a)(k:PyData){v:V}{u:Value}(d:RelV v u):Paired RQ (b.map λp=>if p.1=k then (p.1,p.2.1,v) else p) (a.map (putAt k u)):=by
 induction r with
 |nil=>exact .nil
 | @cons p q g f h t c =>
  refine .cons ?_ c;show RQ (if p.1=k then (p.1,p.2.1,v) else p) (putAt k u q);unfold putAt;by_cases e:p.1=k
  ·rw[if_pos e,if_pos (h.1.symm.trans e)];exact⟨h.1,h.2.1,d⟩
  rw[if_neg e,if_neg (λz=>e (h.1.trans z))];exact h
theorem Fw {c:List (PyData×Addr×V)}{a:List (PyData×Addr×Value)}(r:Paired RQ c a)(k:PyData)(b:Addr){v:V}{u:Value}(e:RelV v u):Paired RQ (c++[(k,b,v)]) (a++[(k,b,u)]):=by
 induction r with
 |nil=>exact .cons ⟨rfl,rfl,e⟩ .nil
 |cons h t d=>exact .cons h d
theorem Fu {c:List (PyData×Addr×V)}{a:List (PyData×Addr×Value)}(r:Paired RQ c a)(k:PyData)(b:Addr){v:V}{u:Value}(d:RelV v u):Paired RQ (lB c k b v) (storedH a k b u):=by
 unfold lB storedH;rw[Fx r k];split
 ·exact Fv r k d
 exact Fw r k b d
theorem zP (a:List (PyData×Addr×V))(k:PyData)(b:Addr)(v:V):(lB a k b v).length<=a.length+1:=by
 unfold lB;split
 ·rw[length_map];omega
 rw[List.length_append];simp
section
variable {X:Cx}{pins:JM}{σ:St}{H:Hp}{s:Shared}{J:List Addr}{a:Addr}
theorem oo (I:Inv X pins σ H s){d:D}{y:PyData}{b:Addr}(g:gp d=some y)(m:At X.K H J d (.ref b)):(lP X.prog X.w).is s.heap y b:=by obtain⟨a,c⟩:=tN g;exact⟨c,(At.reads I m (show RelV (.ref b) (.ref b) from rfl) a).2⟩
theorem y_ {kvs:List (D×D)}{c:List (PyData×Addr×V)}(I:Inv X pins σ H s)(e:H a=some (.dN c))(r:Paired (Pu X.K H J) kvs c) :
  c.length<=sizeLine/\(a==sysModules)=false/\∃ b,Paired RQ c b/\s.heap.DictOfH (lP X.prog X.w) a b:=by
 obtain⟨z,y,b,q,o,es,ep,i,f,k,g,d⟩:=I.Kj a _ e;refine⟨z,y,b,q,o,es,ep,i,f,k,g,?_,d⟩;clear i f k g d z e
 induction r generalizing b with
 |nil=>cases q;intro x hx;exact nomatch hx
 | @cons p n v u h t l =>
  cases q with
  |cons j m =>
   intro x hx;rcases mem_cons.mp hx with e |hx
   ·subst e;rw[← j.1,← j.2.1];exact oo I h.1.1 h.1.2
   exact l _ m x hx
end
def yf (K:JK)(H:Hp)(a:Addr)(y:V)(r:Option V):Prop:=∃ J d c e f b,H a=some (.dN c)/\Paired (Pu K H J) d c/\gp e=some f/\At K H J e (.ref b)/\y = .ref b/\r=qG c f
def HM (K:JK)(H:Hp)(a:Addr)(y v:V)(H':Hp):Prop:=∃ J d c e f b,H a=some (.dN c)/\Paired (Pu K H J) d c/\gp e=some f/\At K H J e (.ref b)/\y = .ref b/\c.length<sizeLine/\H'=upd H a (.dN (lB c f b v))
section
variable {X:Cx}{pins:JM}{σ:St}{H:Hp}{s:Shared}{a:Addr}{y v:V}{u r:Value}{o:Option V}{A:Around}{E:JL}
theorem xx (a:A.units+150<cLine):(lP X.prog X.w).room A.in1:=by show A.units+1+8<cLine;omega
theorem Ac {Q:JL}(t:A.units+150<cLine)(I:Inv X pins σ H s)(g:yf X.K H a y (some v))(j:RelV y u)(h:∀ c s',Inv X pins σ H s'->RelV v c->Q c s') :
  wpAny (model X.prog X.w) A (getItem (.ref a) u) Q E s:=by
 obtain⟨J,m,F,D,d,b,e,q,B,mk,k,l⟩:=g;subst k;cases (show u=Value.ref b from j);obtain⟨z,hd,f,rel,r⟩:=y_ I e q;obtain⟨c,n,x⟩:=LF.some_of (v:=v) (o:=(atKey f d).map (·.2)) (by rw[l];exact Bm rel d);obtain⟨p,i,C⟩:=map_eq_some_iff.mp n;refine wpAny_getItem_heap (xx t) (oo I B mk) r i ?_;rw[C];exact h c _ (I.tok _) x
theorem D1 {Q:JL}(k:A.units+150<cLine)(I:Inv X pins σ H s)(g:yf X.K H a y o)(c:RelV y u)(h:∀ s',Inv X pins σ H s'->Q (.bool (!o.isSome)) s') :
  wpAny (model X.prog X.w) A (compareOp .NotIn u (.ref a)) Q E s:=by
 obtain⟨J,f,t,r,m,b,e,i,n,mk,d,l⟩:=g;subst d;cases (show u=Value.ref b from c);obtain⟨z,hd,p,rel,j⟩:=y_ I e i;refine wpAny_notIn_heap (xx k) (oo I n mk) hd j ?_;have q:=(Bm rel m).K6;rw[isSome_map] at q;rw[← q,← l];exact h _ (I.tok _)
theorem Ab {H':Hp}{Q:Unit->Shared->Prop}(D:A.units+150<cLine)(I:Inv X pins σ H s)(g:HM X.K H a y v H')(m:RelV y u)(o:RelV v r)(h:∀ s',Inv X pins σ H' s'->Q () s') :
  wpAny (model X.prog X.w) A (setItem (.ref a) u r) Q E s:=by
 obtain⟨J,x,f,R,c,b,e,B,O,mk,t,l,F⟩:=g;subst t F;cases (show u=Value.ref b from m);obtain⟨z,hd,i,rel,C⟩:=y_ I e B;have n:i.length<=sizeLine:=by rw[← Paired.length rel];exact z
 have N:(lB f c b v).length<=sizeLine:=by have:=zP f c b v;omega
 refine wpAny_setItem_heap (hsz:=n) (xx D) (oo I O mk) C λP M L=>h _ ?_;obtain⟨q,es,ep,d,k,G,p,_,j⟩:=M;exact ua I (by rw[e];exact True.intro) L ⟨q,d⟩ ⟨N,hd,_,Fu rel c b o,q,es,ep,d,k,G,p,j⟩
theorem BQ (I:Inv X pins σ H s)(g:yf X.K H a y o):s.TypeIs (.ref a) "dict":=by obtain⟨J,c,i,j,n,b,e,d,m,mk,k,l⟩:=g;obtain⟨_,_,h,_,f⟩:=y_ I e d;exact f.typeIs
end
section
variable {X:Cx}{o i e value:Expr}{pos pos' TZ:Pos}{td ty tv:TE}
theorem DJ (B:X.A.units+150<cLine)(q:PE X o td)(k:PE X i ty)(C:AK i):PE X (.Subscript o i pos) (λc H Q=>td c H λx e=>ty c e λy d => ∃ a v,x = .ref a/\yf X.K d a y (some v)/\Q v d):=by intro b s c H Q I h;refine yu PySem.F.slot_dict_getitem.lookup C (Kd (q b s c H _ I h) λu z ⟨x,e,t,m,p⟩=>Kd (k b z c e _ t p) λG J j=>?_);obtain⟨y,d,f,l,a,v,ex,g,n⟩:=j;subst ex;obtain rfl:u=Value.ref a:=m;exact⟨BQ f g,Ac B f g l λD E r w=>⟨v,d,r,w,n⟩⟩
theorem zX (v:X.A.units+150<cLine)(j:PE X i ty)(p:PE X o td):PC X .NotIn i o (λc H Q=>ty c H λy e=>td c e λx d => ∃ a o,x = .ref a/\yf X.K d a y o/\Q (.bl (!o.isSome)) d):=by intro b s c H Q I h;refine Kd (j b s c H _ I h) λB t ⟨y,e,r,k,n⟩=>Kd (p b t c e _ r n) λu C f=>?_;obtain⟨x,d,w,l,a,ov,ex,g,m⟩:=f;subst ex;obtain rfl:u=Value.ref a:=l;exact D1 v w g k λz q=>⟨.bl (!ov.isSome),d,q,rfl,m⟩
theorem DB (G:X.A.units+150<cLine)(B:PE X o td)(n:PE X i ty)(m:PE X value tv)(J:swapsWith value (some (.Subscript o i pos')) pos.line X.env=pure false) :
  PS X (.Assign [.Subscript o i pos'] value pos) (λD c H=>tv c H λv e=>td c e λx f=>ty c f λy j => ∃ a d,x = .ref a/\HM X.K j a y v d/\D.nx c d):=by
 intro b s c H D I h;refine wpAny_Assign_Subscript (Kd (m b s c H _ I h) λr F ⟨v,e,E,t,z⟩=>Kd (B b F c e _ E z) λu N ⟨x,f,L,q,w⟩=>Kd (n b N c f _ L w) λQ P k=>?_) J;obtain⟨y,j,C,p,a,d,ex,g,M⟩:=k;subst ex;obtain rfl:u=Value.ref a:=q;exact Ab G C g p t λO l=>⟨c,d,l,M⟩
end
def d4:D->Bool
 | .tup _=>true
 |_=>false
section
variable {X:Cx}{W:WT}{pos pos':Pos}{o i e:Expr}{fo fi fv:JJ D}
def wo:JJ D:=λ_ S=>JV (.loc S.length) (S++[.JT []])
theorem Qv:PE X (.Dict [] [] pos) (λ_ H Q => ∀ p,H p=none->Q (.ref p) (upd H p (.dN []))):=λb s c H Q I h =>
 wpAny_Dict_empty ⟨.ref s.heap.objs.size,_,I.laid (a:=s.heap.objs.size) (o:=.dN []) (t':=s.toks) (λ_ _ q=>Heap.get?_push_of_some _ q) (le_refl _)
  ⟨zero_le _,beq_eq_false_iff_ne.mpr (Ne.symm (ne_of_lt I.big)),[],.nil,_,#[],0,Heap.get?_push_size _ rfl,⟨rfl,rfl,rfl⟩,rfl,rfl,nodup_nil⟩,rfl,h _ (I.Kj.fresh (le_refl _))⟩
theorem sW:SE X W (.Dict [] [] pos) wo:=Qv.imp λf H Q h=>by obtain⟨J,b,S,r,d,c,_,e,z⟩:=h;cases e;intro p a;have q:=c.Kr.push (o:=.dN []) (mo:=.JT []) a ⟨[],J4,.nil⟩;refine z (J++[p]) _ _ q.2 q.1 (At.Ke.mpr ⟨p,rfl,?_⟩);rw[← c.Kr.len,getElem?_append_right (le_refl _)];simp
def lF (x k v:D)(ρ:JQ)(S:JP):Out Fl:=match x with
 | .loc l=>match S[l]?,gp k with
  |some (.JT kvs),some _=>if kvs.length<sizeLine/\d4 k=true then JV (.next ρ) (S.set l (.JT (putN kvs k v))) else none
  |_,_=>none
 |_=>none
def rX (fo fi fv:JJ D):JJ Fl:=λa S=>ai (fv a S) λv c=>ai (fo a c) λx b=>ai (fi a b) λk d=>lF x k v a d
theorem sE {K:JK}{H:Hp}{J:List Addr}{d:D}{v:V}(h:d4 d=true)(m:At K H J d v):∃ b,v = .ref b:=by
 cases d with
 |tup a=>obtain⟨b,_,e,_⟩:=At.Kb.mp m;exact⟨b,e⟩
 |_=>cases h
theorem sN (O:X.A.units+150<cLine)(G:SE X W o fo)(F:SE X W i fi)(C:SE X W e fv)(T:swapsWith e (some (.Subscript o i pos')) pos.line X.env=pure false:=by rfl):SS X W (.Assign [.Subscript o i pos'] e pos) (rX fo fi fv):=
 (DB O G F C T).imp λE k H h=>by
  have h:tH X W [] [] (rX fo fi fv) E k H:=let ⟨J,j,S,r,t,c,e,z⟩:=h;⟨J,j,S,r,t,c,.nil,e,z⟩;refine(tH.J5 h).mono λv V ⟨K,I⟩=>(tH.J5 I).mono λx Y ⟨M,D⟩=>(tH.J5 D).mono λy H3 ⟨s,R⟩=>?_;obtain⟨J,j,S,r,t,c,m,e,z⟩:=R;obtain⟨mk,m⟩:=m.JZ;obtain⟨L,m⟩:=m.JZ;obtain⟨P,_⟩:=m.JZ;unfold lF at e;cases M with
  |loc l =>
   simp only at e;split at e
   ·rename_i d u es B;split at e
    ·rename_i lt;cases e;obtain⟨a,rfl,n⟩:=At.Ke.mp L;obtain⟨w,U,g⟩:=c.Kr.at_ l a _ n es;obtain⟨b,rfl⟩:=sE lt.2 mk;have q:=c.Kr.update (o:=.dN (lB w u b v)) (mo:=.JT (putN d s K)) n λJ' Z f Q N=>by subst Q N;refine⟨_,J4,FC B (mk.ex f) (P.ex f) ?_⟩;exact Paired.NS g λp q z=>⟨⟨z.1.1,z.1.2.ex f⟩,z.2.ex f⟩
     exact⟨a,_,rfl,⟨J,d,w,s,u,b,U,g,B,mk,rfl,by rw[← kJ g];exact lt.1,rfl⟩,z J k _ q.2 (c.re q.2 q.1)⟩
    cases e
   cases e
  |_=>cases e
def kK (neg:Bool)(k x:D)(S:JP):Option D:=match x with
 | .loc l=>match S[l]?,gp k with
  |some (.JT kvs),some _=>if d4 k=true then some (.bl (if neg then !(j0 kvs k).isSome else (j0 kvs k).isSome)) else none
  |_,_=>none
 |_=>none
def AD (neg:Bool)(d fd:JJ D):JJ D:=λa S=>ai (d a S) λk c=>ai (fd a c) λx b=>aP (kK neg k x b) b
theorem BN {neg:Bool}{j:St}{H:Hp}{Q:VK}(h:tE X W (AD neg fi fo) j H Q):tE X W fi j H λy p=>tE X W fo j p λx f => ∃ a o,x = .ref a/\yf X.K f a y o/\Q (.bl (if neg then !o.isSome else o.isSome)) f:=
 (tG.J5 h).mono λy p ⟨E,A⟩=>(tG.J5 A).mono λx f t=>by
  obtain⟨C,u⟩:=t
  obtain⟨J,L,S,r,M,c,m,e,z⟩:=u;obtain⟨B,m⟩:=m.JZ;obtain⟨mk,_⟩:=m.JZ;unfold kK at e;cases C with
  |loc l =>
   simp only at e;split at e
   ·rename_i i F es s;split at e
    ·rename_i w;cases e;obtain⟨a,rfl,D⟩:=At.Ke.mp B;obtain⟨G,I,n⟩:=c.Kr.at_ l a _ D es;obtain⟨b,rfl⟩:=sE w mk;refine⟨a,_,rfl,⟨J,i,G,E,F,b,I,n,s,mk,rfl,rfl⟩,?_⟩;have q:=z J f _ Ex.refl c.Kr (At.Kg.mpr rfl);rcases Ck s n with ⟨k,g⟩ |⟨d,v,k,g,_⟩
     ·rw[k] at q;rw[g];exact q
     rw[k] at q;rw[g];exact q
    cases e
   cases e
  |_=>cases e
theorem mf (e:X.A.units+150<cLine)(f:SE X W i fi)(g:SE X W o fo)(j:behindInMarks .NotIn o=false:=by with_unfolding_all rfl):MH X W (.Compare i [.NotIn] [o] pos) (aY (AD true fi fo)):=
 (xn (zX e f g) j).imp λb H Q h=>Ly.mono (t:=λb H Q=>tE X W fi b H λy d=>tE X W fo b d λx c => ∃ a o,x = .ref a/\yf X.K c a y o/\Q (.bl (!o.isSome)) c) (λ_ _ _=>BN (neg:=true)) (fO h)
def fY (x k:D)(S:JP):Option D:=match x with
 | .loc l=>match S[l]?,gp k with
  |some (.JT kvs),some _=>if d4 k=true then j0 kvs k else none
  |_,_=>none
 |_=>none
def wu (fd d:JJ D):JJ D:=λa S=>ai (fd a S) λx c=>ai (d a c) λk b=>aP (fY x k b) b
theorem sV (G:X.A.units+150<cLine)(u:SE X W o fo)(s:SE X W i fi)(I:AK i:=by exact λ_ _=>rfl):SE X W (.Subscript o i pos) (wu fo fi):=(DJ G u s I).imp λR H Q h =>
 (tG.J5 h).mono λx O ⟨D,B⟩=>(tG.J5 B).mono λy t p=>by
  obtain⟨F,q⟩:=p
  obtain⟨J,P,S,r,T,c,m,e,z⟩:=q;obtain⟨mk,m⟩:=m.JZ;obtain⟨C,_⟩:=m.JZ;unfold fY at e;cases D with
  |loc l =>
   simp only at e;split at e
   ·rename_i f K es n;split at e
    ·rename_i w;obtain⟨a,rfl,E⟩:=At.Ke.mp C;obtain⟨L,M,j⟩:=c.Kr.at_ l a _ E es;obtain⟨b,rfl⟩:=sE w mk;rcases Ck n j with ⟨g,k⟩ |⟨d,v,g,k,N⟩
     ·rw[g] at e;cases e
     rw[g] at e;cases e;exact⟨a,v,rfl,⟨J,f,L,F,K,b,M,j,n,mk,rfl,k.symm⟩,z J t _ Ex.refl c.Kr N⟩
    cases e
   cases e
  |_=>cases e
end
def jy (K:JK)(c f:Str):Prop:=∃ C,PySem.W.nsIn K mainGlobals c=some (some (.ref C))/\ON K C/\LK K C f
def MethAt (K:JK)(c m qual:Str)(st:Stmt)(a:List Str):Prop:=∃ C f fd,PySem.W.nsIn K mainGlobals c=some (some (.ref C))/\ON K C/\Meth K C m f/\Oi K m qual st f fd/\Binds K fd a []
def EH (K:JK)(mg:JN)(c qual:Str)(st:Stmt)(a:List Str):Prop:=∃ C f fd,PySem.W.nsIn K mainGlobals c=some (some (.ref C))/\mg c=some (.ref C)/\Mk K C f/\Oi K "__init__" qual st f fd/\Binds K fd a []
def j9 (f:Str)(v:D):List (Str×D)->List (Str×D)
 |[]=>[(f,v)]
 |(k,x)::r=>if k=f then (k,v)::r else (k,x)::j9 f v r
section
variable {K:JK}{H H':Hp}{J J':List Addr}
theorem y6 {fs:List (Str×D)}{vs:List (Str×V)}(r:Paired (Vp K H J) fs vs)(f:Str):(fs.lookup f=none/\vs.lookup f=none)∨∃ d v,fs.lookup f=some d/\vs.lookup f=some v/\At K H J d v:=by
 induction r with
 |nil=>exact .inl ⟨rfl,rfl⟩
 | @cons p q m l h t j =>
  obtain⟨a,k⟩:=p;obtain⟨g,c⟩:=q;have i:a=g:=h.1;subst i;by_cases e:f=a
  ·have b:(f==a)=true:=beq_iff_eq.mpr e;refine .inr ⟨k,c,?_,?_,h.2⟩<;>simp only[List.lookup,b]
  have b:(f==a)=false:=beq_eq_false_iff_ne.mpr e;simp only[List.lookup,b];exact j
theorem Gm {fs:List (Str×D)}{vs:List (Str×V)}(r:Paired (Vp K H J) fs vs)(f:Str){d:D}{v:V}(a:At K H J d v):Paired (Vp K H J) (j9 f d fs) (gM f v vs):=by
 induction r with
 |nil=>exact .cons ⟨rfl,a⟩ .nil
 | @cons p q g c h t m =>
  obtain⟨b,j⟩:=p;obtain⟨k,i⟩:=q;have l:b=k:=h.1;subst l;rw[show j9 f d ((b,j)::g)=(if b=f then (b,d)::g else (b,j)::j9 f d g) from rfl,show gM f v ((b,i)::c)=(if b=f then (b,v)::c else (b,i)::gM f v c) from rfl];by_cases e:b=f
  ·rw[if_pos e,if_pos e];exact .cons ⟨rfl,a⟩ t
  rw[if_neg e,if_neg e];exact .cons h m
theorem JW.split:∀ {es ds:List D}{us vs:List V},es.length=us.length->JW K H J (es++ds) (us++vs)->JW K H J es us/\JW K H J ds vs
 |[],_,[],_,_,h=>⟨.nil,h⟩
 |e::es,ds,u::us,vs,hl,h=>by
  obtain⟨f,a⟩:=JW.JZ (d:=e) (v:=u) (ds:=es++ds) (vs:=us++vs) h;obtain⟨c,b⟩:=JW.split (es:=es) (us:=us) (by simpa using hl) a;exact⟨.cons f c,b⟩
 |[],_,_::_,_,hl,_=>by simp at hl
 |_::_,_,[],_,hl,_=>by simp at hl
end
def tU (c:Str)(d:D)(S:JP):Option (List (Str×D)):=match d with
 | .loc l=>(match S[l]? with
  |some (.ins c' fs)=>if c'=c then some fs else none
  |_=>none)
 |_=>none
theorem yW {c:Str}{d:D}{S:JP}{fs:List (Str×D)}(h:tU c d S=some fs):∃ l,d = .loc l/\S[l]?=some (.ins c fs):=by
 unfold tU at h;split at h
 ·rename_i l;split at h
  ·rename_i f b e;split at h
   ·rename_i a;cases h;subst a;exact⟨l,rfl,e⟩
   cases h
  cases h
 cases h
section
variable {X:Cx}{W:WT}{pos pos' apos p:Pos}{o e value:Expr}{es:List Expr}{fo fv:JJ D}{gs:JJ (List D)}{c f m x:Str}
def gO (c f:Str)(d:D)(S:JP):Option D:=(tU c d S).bind λfs=>fs.lookup f
def d9 (c f:Str)(fo:JJ D):JJ D:=λb S=>ai (fo b S) λd a=>aP (gO c f d a) a
theorem bF (T:jy X.K c f)(w:SE X W o fo)(E:attributeBase o f X.env (eval o X.env)=eval o X.env:=by rfl):SE X W (.Attribute o f pos) (d9 c f fo):=
 (FU w E).imp λO H Q h=>(tG.J5 h).mono λx t p=>by
  obtain⟨i,g⟩:=p
  obtain⟨J,N,S,r,P,k,A,b,z⟩:=g
  try dsimp only at b
  obtain⟨B,_⟩:=A.JZ;cases q:gO c f i S with
  |none=>rw[q] at b;cases b
  |some d =>
   rw[q] at b;cases b;obtain⟨fs,g,e⟩:=bind_eq_some_iff.mp q;obtain⟨l,rfl,es⟩:=yW g;obtain⟨a,rfl,D⟩:=At.Ke.mp B;obtain⟨C,i,F,n,G,s⟩:=k.Kr.at_ l a _ D es;obtain⟨M,m,I,y⟩:=T;rw[n] at m;cases m;rcases y6 s f with ⟨j,_⟩ |⟨R,v,j,u,L⟩
   ·rw[j] at e;cases e
   rw[j] at e;cases e;exact⟨a,C,i,F,v,rfl,G,I,y,u,z J t v Ex.refl k.Kr L⟩
def lp (c f:Str)(d v:D)(ρ:JQ)(S:JP):Out Fl:=match d with
 | .loc l=>(match S[l]? with
  |some (.ins c' fs)=>if c'=c/\fs.length<1000 then JV (.next ρ) (S.set l (.ins c (j9 f v fs))) else none
  |_=>none)
 |_=>none
theorem A9 {T:jy X.K c f}{i:St}{H:Hp}{J:List Addr}{ρ:JQ}{S s:JP}{r:Except Str Fl}{E:Ends}{d h:D}{x y:V}(g:Cf X J ρ S i H)(A:At X.K H J d x)(F:At X.K H J h y)
  (b:lp c f d h ρ S=some (r,s)) (z:MA X W J H r s E):∃ a C e fs,x = .ref a/\H a=some (.ins C e fs)/\ON X.K C/\LK X.K C f/\fs.length<1000/\E.nx i (upd H a (.ins C e (gM f y fs))):=by
 unfold lp at b;split at b
 ·rename_i l;split at b
  ·rename_i L fs es;split at b
   ·rename_i w;obtain⟨I,M⟩:=w;subst I;cases b;obtain⟨a,rfl,m⟩:=At.Ke.mp A;obtain⟨C,e,t,n,N,j⟩:=g.Kr.at_ l a _ m es;obtain⟨P,u,O,v⟩:=T;rw[n] at u;cases u;have q:=g.Kr.update (o:=.ins C e (gM f y t)) (mo:=.ins L (j9 f h fs)) m λR Q k G B=>by subst G B;refine⟨C,e,_,n,J4,Gm (Paired.NS j λp q z=>⟨z.1,z.2.ex k⟩) f (F.ex k)⟩
    exact⟨a,C,e,t,rfl,N,O,v,by rw[← kJ j];exact M,z J i _ q.2 (g.re q.2 q.1)⟩
   cases b
  cases b
 cases b
def kr (c f:Str)(fo fv:JJ D):JJ Fl:=λa S=>ai (fv a S) λv e=>ai (fo a e) λd b=>lp c f d v a b
theorem kB (T:jy X.K c f)(l:SE X W o fo)(j:SE X W value fv)(t:swapsWith value (some (.Attribute o f pos')) pos.line X.env=pure false:=by rfl):SS X W (.Assign [.Attribute o f pos'] value pos) (kr c f fo fv):=
 (FK l j t).imp λE q H h=>by
  have h:tH X W [] [] (kr c f fo fv) E q H:=let ⟨J,g,S,r,i,c,e,z⟩:=h;⟨J,g,S,r,i,c,.nil,e,z⟩;refine(tH.J5 h).mono λy u ⟨w,m⟩=>(tH.J5 m).mono λx v ⟨d,k⟩=>?_;obtain⟨J,g,S,r,i,n,a,b,z⟩:=k
  try dsimp only at b
  obtain⟨p,a⟩:=a.JZ;obtain⟨s,_⟩:=a.JZ;exact A9 (T:=T) n p s b z
def HJ (c f:Str)(d v y:D)(ρ:JQ)(S:JP):Out Fl:=match v,y with
 | .int i,.int j=>lp c f d (.int (i+j)) ρ S
 |_,_=>none
def HI (c f:Str)(fo fv:JJ D):JJ Fl:=λa S=>ai (fo a S) λd b=>ai (aP (gO c f d b) b) λv e=>ai (fv a e) λy g=>HJ c f d v y a g
def kX (P:Program)(w:World)(K:JK)(mg:JN)(base:Heap)(k:Nat)(c m:Str)(a:List Str)(F:JO):Prop:=
 ∃ C f fd,PySem.W.nsIn K mainGlobals c=some (some (.ref C))/\ON K C/\Meth K C m f/\P6 P w K mg base k f fd a F/\Binds K fd a []
def EI (P:Program)(w:World)(K:JK)(mg:JN)(base:Heap)(k:Nat)(c:Str)(a:List Str)(F:JO):Prop:=
 ∃ C f fd,PySem.W.nsIn K mainGlobals c=some (some (.ref C))/\mg c=some (.ref C)/\Mk K C f/\P6 P w K mg base k f fd a F/\Binds K fd a []
def qu (c m:Str)(d:D)(S:JP):Option D:=(tU c d S).bind λfs=>if fs.lookup m=none then some .Kk else none
def bP (c m:Str)(F:JO)(fo:JJ D)(gs:JJ (List D)):JJ D:=λa S=>ai (fo a S) λd b=>ai (aP (qu c m d b) b) λ_ g=>ai (gs a g) λf e=>hW (F (d::f) e)
def Gz (c m:Str)(F:JO)(fo:JJ D)(gs:JJ (List D)):JJ D:=λa S=>ai (fo a S) λd b=>ai (aP (qu c m d b) b) λ_ g=>ai (gs a g) λf e=>F (d::f) e
theorem BV {C:Addr}(n:PySem.W.nsIn X.K mainGlobals c=some (some (.ref C))){k:JJ D}{d:D}{x:V}{o:St}{H:Hp}{Q:VK}(h:tG X W (RD X) [d] [x] (λρ g=>ai (aP (qu c m d g) g) λ_ S2=>k ρ S2) o H Q) :
  ∃ a e fs,x = .ref a/\H a=some (.ins C e fs)/\fs.lookup m=none/\tG X W (RD X) [d] [x] k o H Q:=by
 obtain⟨J,ρ,S,r,E,i,A,b,z⟩:=h
 try dsimp only at b
 obtain⟨j,N⟩:=A.JZ;cases q:qu c m d S with
 |none=>rw[q] at b;cases b
 |some M =>
  rw[q,bZ,cA] at b;obtain⟨fs,y,f⟩:=bind_eq_some_iff.mp q;obtain⟨l,rfl,es⟩:=yW y;have F:=j;obtain⟨a,rfl,B⟩:=At.Ke.mp j;obtain⟨L,e,G,s,I,t⟩:=i.Kr.at_ l a _ B es;rw[n] at s;cases s;split at f
  ·rename_i u;rcases y6 t m with ⟨_,w⟩ |⟨O,v,p,_⟩
   ·exact⟨a,e,G,rfl,I,w,J,ρ,S,r,E,i,.cons F .nil,b,z⟩
   rw[u] at p;cases p
  cases f
theorem aZ {k:Nat}{ps:List Str}{F:JO}{pl:Sem Bool}(G:kX X.prog X.w X.K X.mg X.base k c m ps F)(V:Kn k X.A)(s:SE X W o fo)(O:SA X W (e::es) gs)
  (R:starEach (e::es) X.env=(false,eval e X.env)::starEach es X.env:=by rfl) (p:(backTo pos (starEach es X.env)).any (·.1)=false:=by rfl)
  (t:eval (.Call (.Attribute o m apos) (e::es) [] pos) X.env=(do
   let ov ← eval o X.env
   standAt apos.atName
   let (f,first) ← holding [ov] (getMethod ov m pl)
   callWith pos f first (backTo pos (starEach (e::es) X.env)) (backToKw pos (keywordEach [] X.env))):=by rfl) :
  SE X W (.Call (.Attribute o m apos) (e::es) [] pos) (bP c m F fo gs):=by
 obtain⟨C,f,fd,n,cl,mt,fn,T⟩:=G;refine PE.imp (DK (E:=E0) s cl mt fn V T .nil yJ O R p t) λσ H Q h=>(tG.J5 h).mono λx H1 g=>?_;obtain⟨d,u⟩:=g;obtain⟨a,M,fs,P,e2,l,j⟩:=BV n u;refine⟨a,M,fs,P,e2,l,(tG.L1 j).mono λus H2 g=>?_⟩;obtain⟨i,hl,Z⟩:=g;obtain⟨J,ρ,S,r,U,B,L,b,z⟩:=Z
 try dsimp only at b
 obtain⟨m1,m2⟩:=JW.split hl L;obtain⟨m3,_⟩:=m2.JZ;have b:hW (F (d::i) S)=some (r,U):=b;unfold hW at b;split at b
 ·rename_i y S2 q;cases b;exact⟨J,S,d::i,y,_,.cons m3 (by rw[append_nil];exact m1),B.Kr,q,λJ' Y v N D I=>z J' Y v N D I⟩
 cases b
def ju (c:Str)(F:JO)(gs:JJ (List D)):JJ D:=λb S=>ai (gs b S) λd a=>(match F (.loc a.length::d) (a++[.ins c []]) with
 |some (.ok .Kk,S2)=>JV (.loc a.length) S2
 |_=>none)
theorem oj {k:Nat}{ps:List Str}{F:JO}(G:EI X.prog X.w X.K X.mg X.base k c ps F)(V:Kn (k+1) X.A)(P:SA X W (e::es) gs)(Y:Gl X c:=by rfl)
  (B:(c==("__debug__":Str))=false:=by decide) (O:starEach (e::es) X.env=(false,eval e X.env)::starEach es X.env:=by rfl) (y:(backTo pos (starEach es X.env)).any (·.1)=false:=by rfl) :
  SE X W (.Call (.Name c p) (e::es) [] pos) (ju c F gs):=by
 obtain⟨C,f,fd,n,hm,mk,fn,R⟩:=G;refine PE.imp (DL (E:=E0) mk fn V Y hm R .nil yJ P B O y) λσ H Q h=>(tG.L1 h).mono λus d u=>?_;obtain⟨l,hl,g⟩:=u;rw[append_nil,append_nil] at g;obtain⟨J,ρ,S,r,T,i,N,a,z⟩:=g
 try dsimp only at a
 intro x b M j ne;have Rc:(upd d b (.own x)) x=none:=by rw[aJ (Ne.symm ne)];exact M
 have U:=i.Kr.same (aQ j (.own x));have x1:Ex J d J (upd d b (.own x)):=Ex.same (aQ j _);have q:=U.push (o:=.ins C b []) (mo:=.ins c []) Rc ⟨C,b,[],n,J4,.nil⟩;have x2:=x1.trans q.2;have s:(J++[x])[S.length]?=some x:=by rw[← i.Kr.len,getElem?_append_right (le_refl _)];simp
 have a:(match F (.loc S.length::l) (S++[.ins c []]) with
  |some (.ok .Kk,t)=>JV (.loc S.length) t
  |_=>none)=some (r,T):=a
 split at a
 ·rename_i t D;cases a;refine⟨J++[x],_,.loc S.length::l,.Kk,_,.cons (At.Ke.mpr ⟨x,rfl,s⟩) (by rw[append_nil];exact N.ex x2),q.1,D,λJ' Z v m I L=>⟨At.Ld.mp L,?_⟩⟩;exact z J' Z (.ref x) (x2.trans m) I (At.Ke.mpr ⟨x,rfl,yG m.pre s⟩)
 cases a
end
section
variable {P:Program}{w:World}{K:JK}{mg:JN}{base:Heap}
theorem nP {x qual:Str}{st:Stmt}{sc:Scope}{N b:List Str}{k:Nat}{G:JJ Fl}{f:Addr}{fd:FuncData}(l:Oi K x qual st f fd)(n:au st=sc)(Sc:JR N b sc)
  (h:∀ (f:Addr) (a:Value) (A:Around) (outer:List Env) (s:Shared) (H:Hp) (E:XK),Kn k (A.deeper (envOfC qual sc s.heap.objs.size f a))->OT (mL OP P w K mg base N qual sc f a A outer s H E).Qg W0 (bO st) G) :
  P6 P w K mg base (k+1) f fd b (a9 b.length (N.length-b.length) G):=by
 subst n;refine y8 l Sc (λi S r e=>?_) λa A outer s H E j=>⟨G,h f a A outer s H E j,λi S d p e=>?_⟩
 ·unfold a9 at e;split at e
  ·assumption
  cases e
 unfold a9 at e;split at e
 ·rename_i m;rw[m];split at e
  ·rename_i o g q;cases e;exact⟨_,q,.inl rfl⟩
  ·rename_i c g q;cases e;exact⟨_,q,.inr ⟨rfl,c,rfl⟩⟩
  cases e
 cases e
theorem eI {c m qual:Str}{st:Stmt}{sc:Scope}{N a:List Str}{k:Nat}{G:JJ Fl}(g:MethAt K c m qual st a)(i:au st=sc)(Sc:JR N a sc)
  (h:∀ (f:Addr) (b:Value) (A:Around) (outer:List Env) (s:Shared) (H:Hp) (E:XK),Kn k (A.deeper (envOfC qual sc s.heap.objs.size f b))->OT (mL OP P w K mg base N qual sc f b A outer s H E).Qg W0 (bO st) G) :
  kX P w K mg base (k+1) c m a (a9 a.length (N.length-a.length) G):=by
 obtain⟨C,f,fd,n,j,mt,e,d⟩:=g;exact⟨C,f,fd,n,j,mt,nP e i Sc h,d⟩
theorem zk {c qual:Str}{st:Stmt}{sc:Scope}{N a:List Str}{k:Nat}{G:JJ Fl}(i:EH K mg c qual st a)(j:au st=sc)(Sc:JR N a sc)
  (h:∀ (f:Addr) (b:Value) (A:Around) (outer:List Env) (s:Shared) (H:Hp) (E:XK),Kn k (A.deeper (envOfC qual sc s.heap.objs.size f b))->OT (mL OP P w K mg base N qual sc f b A outer s H E).Qg W0 (bO st) G) :
  EI P w K mg base (k+1) c a (a9 a.length (N.length-a.length) G):=by
 obtain⟨C,f,fd,n,g,mt,e,d⟩:=i;exact⟨C,f,fd,n,g,mt,nP e j Sc h,d⟩
theorem rW {c m qual:Str}{st:Stmt}{b:List Str}{k:Nat}(i:MethAt K c m qual st b):kX P w K mg base k c m b (λ_ _=>none):=by
 obtain⟨C,f,fd,n,j,mt,q,g⟩:=i;have no:∀ a H Q E,¬ Tw K (λ_ _=>none) a H Q E:=λa H Q E h=>by obtain⟨J,S,l,d,o,_,_,e,_⟩:=h;cases e
 exact⟨C,f,fd,n,j,mt,⟨λa H Q E h=>absurd h (no a H Q E),λA outer s H args p a Q E _ _ _ _ h=>absurd h (no a H Q E)⟩,g⟩
end
def da (d:D)(S:JP):Option (List D):=match d with
 | .loc l=>(match S[l]? with
  |some (.lst xs)=>some xs
  |_=>none)
 |_=>none
theorem D_ {d:D}{S:JP}{a:List D}(h:da d S=some a):∃ l,d = .loc l/\S[l]?=some (.lst a):=by
 unfold da at h;split at h
 ·rename_i l;split at h
  ·rename_i b e;cases h;exact⟨l,rfl,e⟩
  cases h
 cases h
section
variable {X:Cx}{W:WT}{pos Kp apos p:Pos}{o e a b:Expr}{fo fe fa fb:JJ D}{x:Str}
theorem tI {J:List Addr}{S:JP}{H:Hp}{d:D}{v:V}{a:List D}(so:Km X.K J S H)(m:At X.K H J d v)(h:da d S=some a):∃ l q us,d = .loc l/\v = .ref q/\J[l]?=some q/\S[l]?=some (.lst a)/\H q=some (.lst us)/\JW X.K H J a us:=by obtain⟨l,rfl,es⟩:=D_ h;obtain⟨q,rfl,b⟩:=At.Ke.mp m;obtain⟨us,e,c⟩:=so.at_ l q _ b es;exact⟨l,q,us,rfl,rfl,b,es,e,c⟩
def wp:JJ D:=λ_ S=>JV (.loc S.length) (S++[.lst []])
theorem yA:SE X W (.List [] pos) wp:=(xq KS).imp λb H Q h=>by
 obtain⟨J,d,S,r,f,c,_,e,z⟩:=h
 try dsimp only at e
 cases e;show sK b H _;refine⟨zero_le _,λp a=>?_⟩;have q:=c.Kr.push (o:=.lst []) (mo:=.lst []) a ⟨[],J4,.nil⟩;refine z (J++[p]) _ _ q.2 q.1 (At.Ke.mpr ⟨p,rfl,?_⟩);rw[← c.Kr.len,getElem?_append_right (le_refl _)];simp
def uw (d v:D)(S:JP):Out D:=match d with
 | .loc l=>(match S[l]? with
  |some (.lst xs)=>if xs.length<sizeLine then JV .Kk (S.set l (.lst (xs++[v]))) else none
  |_=>none)
 |_=>none
def EA (fo fe:JJ D):JJ D:=λa S=>ai (fo a S) λd b=>ai (aP (da d b) b) λ_ e=>ai (fe a e) λv c=>uw d v c
theorem Bh {name:Str}(A:name="append")(N:SE X W o fo)(V:SE X W a fe)(Mf:attributeBase o name X.env (eval o X.env)=eval o X.env:=by rfl)
  (R:((backTo Kp (starEach [a] X.env)).all (λx => !x.1)&&(backToKw Kp (keywordEach [] X.env)).all (λx=>x.1.isSome)
   && decide ([a].length+([]:List Keyword).length+(if ([]:List Keyword).isEmpty then 0 else 1)<30))=true:=by rfl)
  (Mh:(apos.endLine==Kp.line)=true:=by rfl) (u:starEach [a] X.env=(false,eval a X.env)::starEach [] X.env:=by rfl) (O:(backTo Kp (starEach [] X.env)).any (·.1)=false:=by rfl) :
  SE X W (.Call (.Attribute o name apos) [a] [] Kp) (EA fo fe):=by
 subst A;refine PE.imp (yI F.plainAttrs_list F.slot_list_append F.type_list_append Ae N (cQ V KS u) Mf R Mh u O) λU H Q h=>(tG.J5 h).mono λx B w=>?_;obtain⟨d,P⟩:=w;obtain⟨J,g,S,r,S',c,m,e,z⟩:=P
 try dsimp only at e
 obtain⟨p,_⟩:=m.JZ;cases q:da d S with
 |none=>rw[q] at e;cases e
 |some xs =>
  rw[q,bZ,cA] at e;obtain⟨l,f,us,rfl,rfl,hq,es,eh,mu⟩:=tI c.Kr p q;refine⟨.inl ⟨rfl,us,.inl (.inl eh)⟩,?_⟩;have E:tG X W (RD X) [.loc l] [.ref f] (λg i=>ai (fe g i) λv I=>uw (.loc l) v I) U B Q:=⟨J,g,S,r,S',c,.cons p .nil,e,z⟩;refine(tG.J5 E).mono λy H2 ⟨k,h3⟩=>?_;show sK _ _ _;obtain⟨D,G,i,C,Y,j,m2,b,z2⟩:=h3
  try dsimp only at b
  obtain⟨Z,m2⟩:=m2.JZ;obtain⟨K,_⟩:=m2.JZ;have b:uw (.loc l) k i=some (C,Y):=b;unfold uw at b;simp only at b;split at b
  ·rename_i M Vv;split at b
   ·rename_i lt;cases b;obtain⟨q2,L,n⟩:=At.Ke.mp K;cases L;obtain⟨UK,Z1,t⟩:=j.Kr.at_ l f _ n Vv;have up:=j.Kr.update (o:=.lst (UK++[y])) (mo:=.lst (M++[k])) n λJ' H' s eH T=>by subst eH T;exact⟨_,J4,(t.ex s).append (.cons (Z.ex s) .nil)⟩
    exact⟨f,UK,y,rfl,rfl,Z1,by rw[← t.length];exact lt,z2 D _ _ up.2 up.1 (At.Ld.mpr rfl)⟩
   cases b
  cases b
def qr (x i:D)(S:JP):Option D:=match i with
 | .int k=>(da x S).bind λa=>Mu a k
 |_=>none
def wv (fa fb:JJ D):JJ D:=λa S=>ai (fa a S) λx c=>ai (fb a c) λi b=>aP (qr x i b) b
theorem kD (u:SE X W a fa)(y:SE X W b fb)(B:oA b:=by exact λ_ _=>rfl):SE X W (.Subscript a b pos) (wv fa fb):=
 (ER yV u y B).imp λK H Q h=>(tG.J5 h).mono λv F ⟨d,g⟩=>(tG.J5 g).mono λM p i=>by
  obtain⟨s,f⟩:=i
  obtain⟨J,G,S,r,L,c,m,e,z⟩:=f
  try dsimp only at e
  obtain⟨o,m⟩:=m.JZ;obtain⟨t,_⟩:=m.JZ;cases q:qr d s S with
  |none=>rw[q] at e;cases e
  |some N =>
   rw[q] at e;cases e;unfold qr at q;split at q
   ·rename_i k;obtain⟨E,g,f⟩:=bind_eq_some_iff.mp q;obtain⟨l,j,A,rfl,rfl,I,es,C,n⟩:=tI c.Kr t g;cases At.JS.mp o;obtain⟨w,x,D⟩:=ya n f;exact⟨j,A,k,w,rfl,rfl,.inl (.inl C),x,z J p w Ex.refl c.Kr D⟩
   cases q
def AE (fa fb:JJ D):JJ D:=λa S=>ai (fa a S) λx c=>ai (fb a c) λi b=>aP (if bA x=true then qr x i b else QO x i) b
theorem yB (c:SE X W a fa)(e:SE X W b fb)(g:oA b:=by exact λ_ _=>rfl):SE X W (.Subscript a b pos) (AE fa fb):=
 SE.either (kD c e g) (EM XF c e g) λd S=>cN _ λx f=>by
  by_cases h:bA x=true
  ·refine .inl (congrArg (ai (fb d f)) (funext λi=>funext λj=>?_));rw[if_pos h]
  refine .inr (congrArg (ai (fb d f)) (funext λi=>funext λj=>?_));rw[if_neg h]
def CG (fe:JJ D):JJ D:=λc S=>ai (fe c S) λd a=>aP ((da d a).map λb => .int b.length) a
theorem Du (u:X.mg x=none)(o:SE X W e fe)(k:x="len":=by rfl)(s:Gl X x:=by rfl)(a:starEach [e] X.env=(false,eval e X.env)::starEach [] X.env:=by rfl)(i:(backTo pos (starEach [] X.env)).any (·.1)=false:=by rfl) :
  SE X W (.Call (.Name x p) [e] [] pos) (CG fe):=by
 subst k;refine PE.imp (jj iC s u cD (cQ o KS a) (by decide) (by decide) a i) λC H Q h=>?_;refine(tG.J5 h).mono λv b ⟨d,j⟩=>?_;obtain⟨J,A,S,r,D,c,m,eq,z⟩:=j
 try dsimp only at eq
 obtain⟨n,_⟩:=m.JZ;show sK _ _ _;cases q:da d S with
 |none=>rw[q] at eq;cases eq
 |some y =>
  rw[q] at eq;cases eq;obtain⟨l,f,t,rfl,rfl,B,es,w,g⟩:=tI c.Kr n q;refine⟨f,t,rfl,.inl (.inl (.inl w)),?_⟩;rw[← g.length];exact z J b _ Ex.refl c.Kr (At.JS.mpr rfl)
def Es (fe:JJ D):JJ D:=λc S=>ai (fe c S) λd b=>aP ((da d b).bind λa=>if a.length<=sizeLine then some (.tup a) else none) b
end
theorem ints_get:∀ {vs:List Value}{ns:List Int}(i:Nat) {n:Int},IntsAre vs ns->ns[i]?=some n->∃ t,vs[i]?=some (.int n t)
 |_,_,_,_,.nil,e=>by simp at e
 |_,_,0,_,.cons n t r,e=>by simp at e;subst e;exact⟨t,rfl⟩
 |_,_,i+1,_,.cons n t r,e=>by
  obtain⟨a,h⟩:=ints_get i r (by simpa using e);exact⟨a,by simpa using h⟩
theorem vP:∀ {vs:List Value}{ns:List Int},IntsAre vs ns->vs.length=ns.length
 |_,_,.nil=>rfl
 |_,_,.cons n t r=>by simp[vP r]
theorem qZ {k:Int}:∀ {ns:List Int}{j:Nat},j<ns.idxOf k->∀ (a:j<ns.length),ns[j]≠k
 |n::r,0,h,_=>by
  intro e;have e:n=k:=e;subst e;simp at h
 |n::r,j+1,h,a=>by
  by_cases e:n=k
  ·subst e;simp at h
  have b:(n==k)=false:=by simpa using e
  rw[idxOf_cons,b] at h;exact qZ (ns:=r) (j:=j) (by simpa using h) (by simpa using a)
theorem me {prog:Program}{w:World}{A:Around}{E:JL}{s:Shared}{l:Addr}{o:Obj}{n:Nat}{vs:List Value}{ns:List Int}{k:Int}{t:Tok}{Q:JL}(u:s.heap.get? l=some o)(J:o.cls = .type "tuple")(hd:o.data = .seq vs.toArray n)(q:IntsAre vs ns)
  (G:k∈ns) (h:∀ t' s',s'={ s with toks:=s.toks+1 }->Q (.int (ns.idxOf k:Nat) t') s'):wpAny (model prog w) A (call (.builtin "tuple.index") [.ref l,.int k t]) Q E s:=by
 have K:s.TypeIs (.ref l) "tuple":=⟨o,u,J⟩;refine wpAny_call_entry F.slot_tuple_index K F.entry_tuple_index ?_ (F.args_tuple_index_2 _ _);show wpAny _ _ (Builtin.Tuple.tupleItemsOf (.ref l) >>= _) _ _ s;refine wpAny_bind (wpAny_tupleItemsOf u hd ?_);have B:=vP q;have C:ns.idxOf k<ns.length:=idxOf_lt_length_iff.mpr G;show wpAny _ _ (forIn [0:min vs.toArray.size vs.toArray.size] _ _ >>= _) _ _ s;refine wpAny_bind ?_;rw[Std.Legacy.Range.forIn_eq_forIn_range'];have g:([0:min vs.toArray.size vs.toArray.size]:Std.Legacy.Range).size=vs.length:=by simp[Std.Legacy.Range.size]
 show wpAny _ _ (forIn (range' 0 ([0:min vs.toArray.size vs.toArray.size]:Std.Legacy.Range).size 1) _ _) _ _ _;rw[g];refine wpAny_forIn_list _ (λrest r s'=>r.1=none/\s'=s/\∃ i,i<=ns.idxOf k/\rest=range' i (vs.length-i) 1) _ ?_ ?_ _ _ ⟨rfl,rfl,0,zero_le _,by simp⟩
 ·rintro x rest r s' ⟨N,rfl,i,I,c⟩;have S:i<vs.length:=by omega
  obtain⟨m,j⟩:∃ m,vs.length-i=m+1:=⟨vs.length-i-1,by omega⟩;rw[j,range'_succ] at c;obtain⟨rfl,rfl⟩:=List.cons.inj c;obtain⟨a,b⟩:∃ a,ns[x]?=some a:=⟨ns[x]'(by omega),List.getElem?_eq_getElem _⟩;obtain⟨t',H⟩:=ints_get x q b;have L:vs.toArray[x]?=some (.int a t'):=by simpa using H
  rw[L];show wpAny _ _ (eqBool (.int a t') (.int k t) >>= _) _ _ _;refine wpAny_bind (wpAny_eqBool_int ?_);by_cases e:a=k
  ·subst e
   have ex:ns.idxOf a=x:=by
    have R:ns.idxOf a<=x:=by
     have f:x<ns.length:=by omega
     have:ns[x]=a:=by rw[List.getElem?_eq_getElem f] at b;exact Option.some.inj b
     rcases lt_or_ge x (ns.idxOf a) with h2 |h2
     ·exact absurd this (qZ h2 f)
     exact h2
    omega
   rw[beq_self_eq_true];simp only[if_true];refine wpAny_bind (wpAny_mono (show wpAny _ _ (retInt (x:Int)) _ _ _ from wpAny_ret_mkInt (Q:=λv p => ∃ t',v = .int (x:Int) t'/\p={ s' with toks:=s'.toks+1 }) ⟨_,rfl,rfl⟩) (λfin p D=>?_) λ_ _ z=>z);obtain⟨v,M,t',O,d⟩:=D;subst M O;refine wpAny_pure (wpAny_pure ⟨_,rfl,?_⟩);have y:=h t' p d;rw[ex] at y;exact y
  rw[beq_eq_false_iff_ne.mpr e];simp only[false_eq_true,if_false];refine wpAny_pure ⟨rfl,rfl,x+1,?_,?_⟩
  ·have f:x<ns.length:=by omega
   rcases lt_or_ge x (ns.idxOf k) with h2 |h2
   ·exact h2
   exfalso;have d:x=ns.idxOf k:=by omega
   rw[d,List.getElem?_eq_getElem C,getElem_idxOf C] at b;exact e (Option.some.inj b).symm
  congr 1;omega
 rintro⟨T,P⟩ s' ⟨N,rfl,i,I,c⟩;exfalso;obtain⟨m,j⟩:∃ m,vs.length-i=m+1:=⟨vs.length-i-1,by omega⟩;rw[j,range'_succ] at c;cases c
section
variable {X:Cx}{W:WT}{fe fa:JJ D}
theorem Ad:Vo X "tuple.index" (λx b H Q => ∃ (a:Addr) (ns:List Int) (k:Int),x = .ref a/\b=[.int k]/\Nm X.K H a (ns.map V.int)/\k∈ns/\Q (.int (ns.idxOf k:Nat)) H):=by intro c s y H x b v z Q I g m h;obtain⟨a,ns,k,rfl,rfl,r,d,q⟩:=h;cases g;obtain⟨u,rfl,j⟩:=vals1 m;obtain⟨t2,rfl⟩:=j;obtain⟨its,i,⟨o,l,f,n,p⟩,_⟩:=I.tuple r;refine me (vs:=its) l f p (fz i) d λt w e=>?_;subst e;exact⟨.int _,H,I.tok _,⟨_,rfl⟩,q⟩
def jS:D->D->Option D
 | .tup a,.int k=>(cw a).bind λns=>if k∈ns then some (.int (ns.idxOf k:Nat)) else none
 |_,_=>none
theorem Fa {J:List Addr}{b:Hp}{d:D}{v:V}(c:d4 d=true)(m:At X.K b J d v):Ts X.K "tuple" v b:=by
 cases d<;>first |(cases c;done) |skip
 rename_i j;obtain⟨a,i,rfl,h,_⟩:=At.Kb.mp m;rcases h with z |⟨o,its,n,f,e,g,_⟩
 ·exact .inr (.inl ⟨rfl,.inr ⟨i,z.1⟩⟩)
 exact .inr (.inl ⟨rfl,.inl ⟨o,f,e,g⟩⟩)
theorem q8 {o:Expr}{name:Str}{b c:Pos}{a:Expr}(g:name="index")(l:SE X W o fe)(t:SE X W a fa)(y:attributeBase o name X.env (eval o X.env)=eval o X.env:=by rfl)
  (p:((backTo c (starEach [a] X.env)).all (λx => !x.1)&&(backToKw c (keywordEach [] X.env)).all (λx=>x.1.isSome)
   && decide ([a].length+([]:List Keyword).length+(if ([]:List Keyword).isEmpty then 0 else 1)<30))=true:=by rfl)
  (z:(b.endLine==c.line)=true:=by rfl) (f:starEach [a] X.env=(false,eval a X.env)::starEach [] X.env:=by rfl) (n:(backTo c (starEach [] X.env)).any (·.1)=false:=by rfl) :
  SE X W (.Call (.Attribute o name b) [a] [] c) (um d4 jS fe fa):=by
 subst g;refine PE.imp (yI F.plainAttrs_tuple F.slot_tuple_index F.type_tuple_index Ad l (cQ t KS f) y p z f n) λM H Q h=>pq (λJ G d v i m=>Fa i m) (λv O j Q q=>?_) h;obtain⟨J,L,K,P,I,B,E,eq,q⟩:=q;unfold jS at eq;split at eq
 ·rename_i N k;obtain⟨ns,u,e⟩:=bind_eq_some_iff.mp eq;split at e
  ·rename_i r;cases e;cases At.JS.mp E;obtain⟨a,D,rfl,A,s⟩:=At.Kb.mp B;have w:=f7 u;subst w;have C:D=ns.map V.int:=JW.My s;subst C;exact⟨a,ns,k,rfl,rfl,A.sq,r,q j _ (J6.refl _) (At.JS.mpr rfl)⟩
  cases e
 cases eq
end
def D6:List Int->Option Int
 |[]=>none
 |n::r=>some (r.foldl (λa b=>if b<a then b else a) n)
theorem tZ:∀ (r:List Int) (n:Int),(r.foldl (λa b=>if b<a then b else a) n∈n::r)/\∀ a∈n::r,r.foldl (λa b=>if b<a then b else a) n<=a
 |[],n=>by simp
 |x::r,n=>by
  rw[foldl_cons];by_cases f:x<n
  ·rw[if_pos f];obtain⟨d,c⟩:=tZ r x;refine⟨mem_cons_of_mem _ d,λa ha=>?_⟩;rcases mem_cons.mp ha with e |ha
   ·have g:=c x (mem_cons_self ..);omega
   exact c a ha
  rw[if_neg f];obtain⟨d,c⟩:=tZ r n;have g:=c n (mem_cons_self ..);refine⟨?_,λa ha=>?_⟩
  ·rcases mem_cons.mp d with e |h
   ·rw[e];exact mem_cons_self ..
   exact mem_cons_of_mem _ (mem_cons_of_mem _ h)
  rcases mem_cons.mp ha with e |ha
  ·omega
  rcases mem_cons.mp ha with e |ha
  ·omega
  exact c a (mem_cons_of_mem _ ha)
theorem Af {ns:List Int}{M:Int}(c:M∈ns)(d:∀ a∈ns,M<=a):D6 ns=some M:=by
 cases ns with
 |nil=>simp at c
 |cons n r =>
  obtain⟨a,b⟩:=tZ r n;exact congrArg some (Int.le_antisymm (b M c) (d _ a))
theorem pE:∀ {vs:List Value}{ns:List Int},IntsAre vs ns->∃ a:List (Int×Tok),vs=a.map (λp => .int p.1 p.2)/\ns=a.map (·.1)
 |_,_,.nil=>⟨[],rfl,rfl⟩
 |_,_,.cons n t r=>by
  obtain⟨a,b,c⟩:=pE r;exact⟨(n,t)::a,by rw[b];rfl,by rw[c];rfl⟩
section
variable {X:Cx}{W:WT}
def nG:List D->Option D
 |[.lst ds]=>(cw ds).bind λns=>(D6 ns).map .int
 |_=>none
theorem zj (K:X.calm=true):l6 X (.builtin "min") nG:=by
 intro o s Z H b us Q I r h;obtain⟨J,ds,d,V,m,e,q⟩:=h;unfold nG at e;split at e
 ·rename_i ys;obtain⟨ns,N,S⟩:=bind_eq_some_iff.mp e;obtain⟨M,f,U⟩:=map_eq_some_iff.mp S;subst U;obtain⟨v,w,rfl,a,n⟩:=JW.JU.mp m;cases JW.JY.mp n;obtain⟨p,zs,rfl,t,D⟩:=At.Kc.mp a;obtain⟨u,rfl,E⟩:=vals1 r;cases E;have O:=f7 N;subst O;have ev:=JW.My D;subst ev;obtain⟨its,C,pl,W⟩:=I.list t.sq;obtain⟨b,ex,c⟩:=pE (fz C)
  have B : 0<b.length:=by
   cases b with
   |nil=>subst c;cases f
   |cons x b=>simp
  have T:s.heap.IsList p (intItems b.toArray):=by have:=pl.isList;rw[ex] at this;simpa [intItems] using this
  refine min_intList (I.ok.hd K) T (by simpa using B) λv h' tk z y=>?_;obtain⟨G,rfl⟩:=intItems_at z;obtain⟨Y,A⟩:=argBest_lt (numAt b.toArray) (b.toArray.size-1)
  have mem:numAt b.toArray (argBest (λi j=>decide (numAt b.toArray i<numAt b.toArray j)) (b.toArray.size-1))∈ns:=by
   have k:argBest (λi j=>decide (numAt b.toArray i<numAt b.toArray j)) (b.toArray.size-1)<b.length:=by
    have:b.toArray.size=b.length:=by simp
    omega
   rw[numAt_eq,c];simp only[List.getD_eq_getElem?_getD,getElem?_map,List.toList_toArray,List.getElem?_eq_getElem k,map_some,getD_some];exact mem_map.mpr ⟨_,getElem_mem k,rfl⟩
  have low:∀ a∈ns,numAt b.toArray (argBest (λi j=>decide (numAt b.toArray i<numAt b.toArray j)) (b.toArray.size-1))<=a:=by
   intro a g;rw[c] at g;obtain⟨x,L,rfl⟩:=mem_map.mp g;obtain⟨j,P,rfl⟩:=getElem_of_mem L
   have R:=A j (by
    have:b.toArray.size=b.length:=by simp
    omega)
   refine Int.le_trans R (Int.le_of_eq ?_);simp[numAt,P]
  have l:=Af mem low;rw[f] at l;have F:=Option.some.inj l;refine⟨.int M,H,I.kept (t':=tk) y,⟨G,by rw[F]⟩,q H _ (J6.refl H) (At.JS.mpr rfl)⟩
 cases e
end
section
variable {X:Cx}{W:WT}{pos:Pos}
def GJ (K:JK)(a:Addr):It:=
 ⟨λi H => ∃ b x,M0 K H a b/\b[i]?=some x,λi H x c => ∃ p y,H p=none/\x = .ref p/\c=upd H p (.tup [.int i,y])/\∀ b,M0 K H a b->b[i]?=some y,λi H => ∃ b,M0 K H a b/\b.length<=i⟩
theorem wX {P:Program}{w:World}{K:JK}{es:List Expr}{k:Nat}{pt:Pos}(a e it:Addr)(O:e≠it)(Ws:a≠e)(Wt:a≠it):Turn P w K (.Tuple es k pt) (GJ K a) [e,it] e (λi h=>(∃ old,IsEnum h e it i old)/\h.IsListIter it a i) where
 mem:=by simp
 obj:=λi h st b hb=>by
  obtain⟨⟨old,d⟩,o,l,G,hd⟩:=st;rcases mem_cons.mp hb with rfl |hb
  ·exact⟨_,d,λv z=>by cases z⟩
  have:b=it:=by simpa using hb
  subst this;exact⟨o,l,λv z=>by rw[hd] at z;cases z⟩
 keep:=λi h h' st kp=>by
  obtain⟨⟨old,d⟩,o,l,r⟩:=st;exact⟨⟨old,kp e (by simp) _ d⟩,o,kp it (by simp) o l,r⟩
 item:=by
  intro X n V W G i j s Z H E I C st R;subst n V W;obtain⟨F,x,B,U⟩:=R;obtain⟨its,T,p,hz⟩:=I.list B;obtain⟨u,hu,ru⟩:=T.get U;obtain⟨⟨old,d⟩,f⟩:=st;have Lc:i<its.toArray.size:=by rw[size_toArray];exact(List.getElem?_eq_some_iff.mp hu).1
  refine wpAny_pyNext_enum_itemD (Draws.list (A:=X.A.in1) (I.ok.hd G) it a Wt its.toArray) d ⟨f,p.isList⟩ Lc O (by simp[O,Ne.symm Ws]) λy h' tk n l Tz hT hsz hk=>?_
  have ey:y=u:=by
   have:its.toArray[i]?=some u:=by simpa using hu
   rw[this] at n;exact(Option.some.inj n).symm
  subst ey;refine⟨_,rfl,wpAny_letOwnedTupleGo_enum (s:={ s with heap:=h',toks:=tk+1 }) l λJ Rf N=>?_⟩;have hn:H s.heap.objs.size=none:=I.fresh;obtain⟨L,Uq,ZJ,Wu,Wv,Ww⟩:=C e (by simp);obtain⟨t,D,Wx,Y,M,S⟩:=C it (by simp);have kp:∀ b o,b≠e->b≠it->s.heap.get? b=some o->J.get? b=some o:=λb o h1 Qn g=>(N.2 b h1).trans (hk b o h1 Qn g);have Ur:s.heap.objs.size≠e:=ne_of_gt (Heap.lt_size d);have Px:J.get? s.heap.objs.size=some { cls:=.type "tuple",data:=.seq #[.int i tk,y] }:=(N.2 _ Ur).trans hT;have ne:∀ b o,H b=some o->b≠s.heap.objs.size:=λb o q=>aO q hn
  have I1:Inv X j Z (upd H s.heap.objs.size (.tup [.int i,x])) { s with heap:=J,toks:=tk+1 }:=by
   refine I.step (h':=J) (g':=s.gens) (d':=s.drawn) (t':=tk+1) (ch:=[e,it]) (λb hb=>?_) (λb o _ _ hb g _=>kp b o (λz=>hb (by simp[z])) (λz=>hb (by simp[z])) g) (λb o _ _ hb g _=>⟨o.slots,kp b o (λz=>hb (by simp[z])) (λz=>hb (by simp[z])) g⟩)
    (λb o hb g n'=>by rw[aJ (ne_of_lt (Heap.lt_size g))];exact n') (λb o hb g=>⟨o,kp b o (λz=>hb (by simp[z])) (λz=>hb (by simp[z])) g⟩)
    (λb F q=>by rw[aJ (ne b _ q)];exact q) (λb o F q=>by rw[aJ (ne b _ q)];exact q) (λb ps q=>⟨#[],by rw[aJ (ne b _ q),q];simp⟩)
    (λm hm=>?_) (λb o q=>?_) I.bare
   ·rcases mem_cons.mp hb with rfl |hb
    ·exact⟨Wu,Uq,Wv,Ww⟩
    have:b=it:=by simpa using hb
    subst this;exact⟨Y,D,M,S⟩
   ·obtain⟨o,es,ep,l,r⟩:=hm;exact⟨o,es,ep,kp _ o (Ne.symm Uq) (Ne.symm D) l,r⟩
   by_cases hb:b=s.heap.objs.size
   ·subst hb;rw[J4] at q;cases q;exact⟨by show 2<=sizeLine;decide,[.int i tk,y],.cons ⟨tk,rfl⟩ (.cons ru .nil),_,Px⟩
   rw[aJ hb] at q;refine(I.Kj b o q).MY (λc v N_ z=>kp c v ?_ ?_ z) (λc z=>by rw[aJ (ne c _ z)];exact z) λc F z=>by rw[aJ (ne c _ z)];exact z
   ·rcases N_ with z' |z'
    ·rw[z'];exact aO q L
    exact aO z' L
   rcases N_ with z' |z'
   ·rw[z'];exact aO q t
   exact aO z' t
  refine⟨.ref s.heap.objs.size,_,I1,rfl,⟨_,x,hn,rfl,rfl,λys hy=>by rw[I.M3 hy B];exact U⟩,⟨⟨y,Rf⟩,Tz.1.extBut N.extBut (Ne.symm O)⟩,λb hb=>?_⟩;rcases mem_cons.mp hb with rfl |hb
  ·rw[aJ (Ne.symm Ur)];exact L
  have:b=it:=by simpa using hb
  subst this;obtain⟨o,NV,_⟩:=f;rw[aJ (ne_of_lt (Heap.lt_size NV))];exact t
 done:=by
  intro X n V W G i j s Z H E I C st R;subst n V W;obtain⟨F,B,U⟩:=R;obtain⟨its,T,p,hz⟩:=I.list B;obtain⟨⟨old,d⟩,f⟩:=st;obtain⟨t,D,Wx,Y,M,S⟩:=C it (by simp);have hl:=T.length;exact wpAny_pyNext_enum_end (I.ok.hd G) d f p.isList (by simp;omega) λh' eb=>⟨rfl,I.turned (t':=s.toks) (λb o hb e=>eb b o hb e) t D Y M S⟩
 self:=by
  intro A i s Q E st h;obtain⟨⟨old,d⟩,_⟩:=st;exact wpAny_pyIter_enum d h
theorem Walk.Rn {a:Addr}{ds:List D}{c:List V}{J:List Addr}{H:Hp}(t:LQ X.K H J a c)(m:JW X.K H J ds c):Walk X (GJ X.K a) (cV 0 ds) J H where
 len:=by rw[bS,m.length];exact t.len
 go:=λh g i x b=>by
  rw[bS] at b;have m1:=m.ex x;obtain⟨v,l,_⟩:=m1.get (List.getElem?_eq_getElem b);exact⟨c,v,(t.ex x).sq,l⟩
 O9:=λh g i v n x k b y=>by
  obtain⟨p,y,f,rfl,rfl,j⟩:=y;obtain⟨d,e,a⟩:=(m.ex x).get' (j c (t.ex x).sq);refine⟨.tup [.int i,d],by rw[fJ,e];simp,At.LL (.cons (At.JS.mpr rfl) (.cons a .nil)) f k (by show 2<=sizeLine;decide),aQ f _⟩
 stop:=λh g i x b=>by
  rw[bS] at b;exact⟨c,(t.ex x).sq,by rw[← m.length];exact b⟩
def xP:List D->Option (List D)
 |[.lst xs]=>some (cV 0 xs)
 |_=>none
theorem w_ {es:List Expr}{k:Nat}{pt p:Pos}{a:Expr}{t:JJ (List D)}{x:Str}(E:x="enumerate")(N:X.mg x=none)(L:SA X W [a] t)(M:Gl X x:=by rfl)
  (F:starEach (a::[]) X.env=(false,eval a X.env)::starEach [] X.env:=by rfl) (A:(backTo pos (starEach [] X.env)).any (·.1)=false:=by rfl):SI X W (.Tuple es k pt) (.Call (.Name x p) [a] [] pos) (ik xP t):=by
 subst E;intro c s l H R I h;refine wpAny_Call_Name_kw (kL I M N boot_enumerate ?_ (by decide) (by decide));refine callWith_type1 (Kd (L pos c s l H _ I (lA h)) λus d y=>?_) F A;obtain⟨vs,i,f,P,J,S,Y,ds,so,m,g,z⟩:=y;unfold xP at g;split at g
 ·rename_i T;cases g;obtain⟨v,r,rfl,Q,n⟩:=JW.JU.mp m;cases JW.JY.mp n;obtain⟨ad,Z,rfl,w,B⟩:=At.Kc.mp Q;obtain⟨u,rfl,C⟩:=vals1 P;cases C;obtain⟨its,V,pl,U⟩:=f.list w.sq;have q:ad<d.heap.objs.size:=by obtain⟨o,n,e,_⟩:=pl;exact Heap.lt_size e
  refine call_enumerate_list pl.isList λG j it sz kp=>?_;have O:Inv X c l i { d with heap:=G }:=f.kept (t':=d.toks) kp;refine wpAny_pyIter_enum j ?_;refine⟨d.heap.objs.size+1,[d.heap.objs.size+1,d.heap.objs.size],_,GJ X.K ad,i,rfl,O,wX ad _ _ (ne_of_gt (lt_succ_self _)) (ne_of_lt (lt_succ_of_lt q)) (ne_of_lt q),⟨⟨_,j⟩,it⟩,λb hb=>?_,z i _ (J6.refl _) (Walk.Rn w B)⟩;rcases mem_cons.mp hb with rfl |hb
  ·exact f.M4 (le_succ _) (f.Kj.fresh (le_succ _))
  have:b=d.heap.objs.size:=by simpa using hb
  subst this;exact f.M4 (le_refl _) f.fresh
 cases g
def t6:List D->Option (List D)
 |[.tup xs]=>some (cV 0 xs)
 |[.lst xs]=>some (cV 0 xs)
 |_=>none
theorem A5 {es:List Expr}{k:Nat}{pt p:Pos}{a:Expr}{t:JJ (List D)}{x:Str}(f:x="enumerate")(h:X.mg x=none)(c:SA X W [a] t)(d:Gl X x:=by rfl)
  (g:starEach (a::[]) X.env=(false,eval a X.env)::starEach [] X.env:=by rfl) (e:(backTo pos (starEach [] X.env)).any (·.1)=false:=by rfl):SI X W (.Tuple es k pt) (.Call (.Name x p) [a] [] pos) (ik t6 t):=by
 refine SI.either (sS f h c d g e) (w_ f h c d g e) λj S=>?_;unfold ik;refine cN _ λi l=>?_;unfold t6 pS xP
 match i with
 |[.tup xs]=>exact .inl rfl
 |[.lst xs]=>exact .inr rfl
 |[]=>exact .inl rfl
 |[.Kk]=>exact .inl rfl
 |[.bl _]=>exact .inl rfl
 |[.int _]=>exact .inl rfl
 |[.str _]=>exact .inl rfl
 |[.set _]=>exact .inl rfl
 |[.loc _]=>exact .inl rfl
 |[.fn _ _]=>exact .inl rfl
 |a::b::r=>cases a<;>exact .inl rfl
end
section
variable {X:Cx}{W:WT}{pos p:Pos}{e:Expr}
def Ey (c:Str)(g:JQ->JP->Bool):JJ Fl:=λa S=>if g a S=true then some (.error c,S) else none
end
section
variable {X:Cx}{W:WT}{pos pos' p:Pos}{o i e:Expr}{es:List Expr}{gs:JJ (List D)}{fo fi fv fe:JJ D}{x:Str}
def x9 (gs:JJ (List D)):JJ D:=λc S=>ai (gs c S) λb a=>if b.length<=sizeLine then JV (.loc a.length) (a++[.lst b]) else none
theorem Be (h:SA X W es gs):SE X W (.List es pos) (x9 gs):=(xq h).imp λt H Q h=>(tG.L1 h).mono λf g j=>by
 obtain⟨k,n,i⟩:=j
 rw[append_nil,append_nil] at i;obtain⟨J,s,S,r,v,c,m,e,z⟩:=i;split at e
 ·rename_i le;cases e;refine⟨by rw[← n];exact le,λp a=>?_⟩
  have x:Ex J g (J++[p]) (upd g p (.lst f)):=⟨⟨[p],rfl⟩,λb u d l=>⟨by rw[aJ (aO d a)];exact d,λz=>by
   rcases mem_append.mp z with z |z
   ·exact l z
   exact aO d a (by simpa using z)⟩⟩
  have q:=c.Kr.push (o:=.lst f) (mo:=.lst k) a ⟨f,J4,m.ex x⟩;refine z (J++[p]) _ _ q.2 q.1 (At.Ke.mpr ⟨p,rfl,?_⟩);rw[← c.Kr.len,getElem?_append_right (le_refl _)];simp
 cases e
end
def FE (K:JK)(x qual:Str)(st:Stmt)(f:Addr):Prop:=∃ fd,Oi K x qual st f fd
def BD (x qual:Str)(st:Stmt)(b:List Str):Prop:=∀ (kV doc c:Value) (d:Option Addr) (e ct:Value) (a:List Value),a.length=b.length->bindArgs (PySem.W.fnOf x qual (eE st) (bO st) (au st) .none kV doc c d e ct) ⟨a,[]⟩=pure (b.zip a)
section
variable {P:List Value->Prop}{us:List Value}
theorem Z3 (h:us.length=0)(k:P []):P us:=by rw[length_eq_zero_iff.mp h];exact k
theorem De {n:Nat}(h:us.length=n+1)(k:∀ a r,r.length=n->P (a::r)):P us:=by
 cases us with
 |nil=>cases h
 |cons a r=>exact k a r (Nat.succ.inj h)
theorem Yf (h:us.length=1)(k:∀ a,P [a]):P us:=De h λa _ h=>Z3 (P:=λr=>P (a::r)) h (k a)
theorem UK (h:us.length=2)(k:∀ a b,P [a,b]):P us:=De h λa _ h=>Yf (P:=λr=>P (a::r)) h (k a)
theorem Yg (h:us.length=3)(k:∀ a b c,P [a,b,c]):P us:=De h λa _ h=>UK (P:=λr=>P (a::r)) h (k a)
theorem Z4 (h:us.length=4)(k:∀ a b c d,P [a,b,c,d]):P us:=De h λa _ h=>Yg (P:=λr=>P (a::r)) h (k a)
end
section
variable {x qual:Str}{st:Stmt}{p1 p2 p3 p4 p5 p6:Str}
theorem WN (h:∀ (kV doc b:Value) (c:Option Addr) (d ct:Value) (a:Value),bindArgs (PySem.W.fnOf x qual (eE st) (bO st) (au st) .none kV doc b c d ct) ⟨[a],[]⟩=pure [(p1,a)]):BD x qual st [p1]:=λkV doc b c d ct e f=>Yf (P:=λe=>bindArgs _ ⟨e,[]⟩=pure (List.zip [p1] e)) f λa=>(h kV doc b c d ct a)
theorem UL (h:∀ (kV doc c:Value) (d:Option Addr) (e ct:Value) (a b:Value),bindArgs (PySem.W.fnOf x qual (eE st) (bO st) (au st) .none kV doc c d e ct) ⟨[a,b],[]⟩=pure [(p1,a),(p2,b)]):BD x qual st [p1,p2]:=λkV doc c d e ct f g=>UK (P:=λf=>bindArgs _ ⟨f,[]⟩=pure (List.zip [p1,p2] f)) g λa b=>(h kV doc c d e ct a b)
theorem WO (h:∀ (kV doc d:Value) (e:Option Addr) (f ct:Value) (a b c:Value),bindArgs (PySem.W.fnOf x qual (eE st) (bO st) (au st) .none kV doc d e f ct) ⟨[a,b,c],[]⟩=pure [(p1,a),(p2,b),(p3,c)]):BD x qual st [p1,p2,p3]:=λkV doc d e f ct g i=>Yg (P:=λg=>bindArgs _ ⟨g,[]⟩=pure (List.zip [p1,p2,p3] g)) i λa b c=>(h kV doc d e f ct a b c)
theorem WQ (h:∀ (kV doc e:Value) (f:Option Addr) (g ct:Value) (a b c d:Value),bindArgs (PySem.W.fnOf x qual (eE st) (bO st) (au st) .none kV doc e f g ct) ⟨[a,b,c,d],[]⟩=pure [(p1,a),(p2,b),(p3,c),(p4,d)]):BD x qual st [p1,p2,p3,p4]:=λkV doc e f g ct i j=>Z4 (P:=λi=>bindArgs _ ⟨i,[]⟩=pure (List.zip [p1,p2,p3,p4] i)) j λa b c d=>(h kV doc e f g ct a b c d)
end
section
variable {K:JK}{h:Heap}{mg:JN}{x m c qual:Str}{st:Stmt}{ps:List Str}{f C:Addr}
theorem fE {b:Value}{g d:Option Addr}{h:Array (Option Value)}{kV doc e a ct:Value}(l:K.lookup f=some ⟨b,g,.func (PySem.W.fnOf x qual (eE st) (bO st) (au st) .none kV doc e d a ct),h⟩)
  (c:PySem.W.codeIn K a qual=true) (k:PySem.W.keepIn K (.ref f)=true):FE K x qual st f:=⟨_,Gk l c k⟩
theorem Z5 (X:K.In h)(G:h.Ns mainGlobals mg)(a:PySem.W.nsIn K mainGlobals x=some (some (.ref f)))(q:FE K x x st f)(b:BD x x st ps):a_ K mg x st ps:=
 Exists.elim q λfd F=>⟨f,fd,F,PySem.W.mg_of X G a,F.binds b⟩
abbrev NC (K:JK)(c:Str)(C:Addr):Prop:=PySem.W.nsIn K mainGlobals c=some (some (.ref C))/\ON K C
theorem Z6 (n:NC K c C)(a:PySem.W.findIn K (.ref C) m=some (some (.ref f)))(i:PySem.W.isFn K (.ref f)=true)(q:FE K m qual st f)(b:BD m qual st ps):MethAt K c m qual st ps:=
 Exists.elim q λfd F=>⟨C,f,fd,n.1,n.2,⟨a,i,F.kp⟩,F,F.binds b⟩
theorem Z7 (X:K.In h)(G:h.Ns mainGlobals mg)(n:NC K c C)(e:PySem.W.makesIn K C=true)(d:PySem.W.keepIn K (.ref C)=true)(a:PySem.W.findIn K (.ref C) "__init__"=some (some (.ref f)))(i:PySem.W.isFn K (.ref f)=true)(q:FE K "__init__" qual st f)(b:BD "__init__" qual st ps):EH K mg c qual st ps:=
 Exists.elim q λfd F=>⟨C,f,fd,n.1,PySem.W.mg_of X G n.1,⟨e,a,i,d⟩,F,F.binds b⟩
end
def RI:Key->D
 | .inl i => .int i
 | .inr x => .str x
def jc:D->Option D
 | .tup a=>if a.length<64 then (jk a).bind λb=>(dD ((b.foldl cy []).map RI)).map .lst else none
 |_=>none
section
variable {X:Cx}{W:WT}{x y:Str}{p p2 pos M7:Pos}{fe:JJ D}
theorem An {d:D}{k:Key}(h:fy d=some k):d=RI k:=by
 cases d with
 |int i=>cases h;rfl
 |str x=>cases h;rfl
 |_=>cases h
theorem vL {K:JK}{H:Hp}{J:List Addr}:∀ {ds:List D}{b:List Key}{vs:List V},jk ds=some b->JW K H J ds vs->∀ k∈b,At K H J (RI k) (kV k)
 |[],b,vs,e,m=>by cases e;intro k hk;cases hk
 |d::ds,b,vs,e,m=>by
  obtain⟨v,r,rfl,a,n⟩:=JW.JU.mp m;rw[jk] at e;obtain⟨k,c,h⟩:=bind_eq_some_iff.mp e;obtain⟨j,f,i⟩:=map_eq_some_iff.mp h;subst i;intro g hk;rcases mem_cons.mp hk with rfl |hk
  ·rw[← An c,← vN c a];exact a
  exact vL f n g hk
theorem wz {K:JK}{H:Hp}{J:List Addr}:∀ {a:List Key},(∀ k∈a,At K H J (RI k) (kV k))->JW K H J (a.map RI) (a.map kV)
 |[],_ => .nil
 |k::a,h => .cons (h k (mem_cons_self ..)) (wz λx b=>h x (mem_cons_of_mem _ b))
theorem xc {a:Expr}(T:x="sorted")(F:y="set")(t:X.calm=true)(hm:X.mg x=none)(P:X.mg y=none)(n:SE X W a fe)(Z:Gl X x:=by rfl)(R:Gl X y:=by rfl)
  (B:starEach [a] X.env=(false,eval a X.env)::starEach [] X.env:=by rfl)
  (A:starEach [(.Call (.Name y p2) [a] [] M7)] X.env=(false,eval (.Call (.Name y p2) [a] [] M7) X.env)::starEach [] X.env:=by rfl)
  (M:(backTo M7 (starEach [] X.env)).any (·.1)=false:=by rfl) (N:(backTo pos (starEach [] X.env)).any (·.1)=false:=by rfl) :
  SE X W (.Call (.Name x p) [.Call (.Name y p2) [a] [] M7] [] pos) (Pc jc fe):=by
 subst T F;have inner:=hV (X:=X) (p:=p2) (pos:=M7) (Gu t) R P GF (cQ n KS B) (by decide) (by decide) B M;refine PE.imp (jj (ud t) Z hm jW (cQ inner KS A) (by decide) (by decide) A N) λσ H Q h=>?_;refine(tG.J5 h).mono λv e ⟨d,O⟩=>?_;obtain⟨J,Y,d',I,ax,eq,q⟩:=tG.Wa O
 have go:∀ (f:List D) (j:List V) (c:List Key),JW X.K e J f j->f.length<64->jk f=some c->(dD ((c.foldl cy []).map RI)).map D.lst=some d'->j=c.map kV/\c.length+1<4096/\∀ p,e p=none->∃ (o:Addr) (E:List Key) (r:List Addr) (u out:List D),[V.ref p]=[V.ref o]/\(upd e p (wG X.prog X.w p (c.foldl cy []))) o=some (wG X.prog X.w o E)/\(∀ a∈r,(upd e p (wG X.prog X.w p (c.foldl cy []))) a≠none)/\JW X.K (upd e p (wG X.prog X.w p (c.foldl cy []))) r u (E.map kV)/\dD u=some out/\∀ i v,J6 (upd e p (wG X.prog X.w p (c.foldl cy []))) i->At X.K i r (.lst out) v->Q v i:=by
  intro f j c m C g s;obtain⟨out,L,e4⟩:=map_eq_some_iff.mp s;subst e4;refine⟨yT g m,by rw[rf g];omega,λp l=>?_⟩;refine⟨p,c.foldl cy [],J,(c.foldl cy []).map RI,out,rfl,J4,λa n=>?_,wz λk G=>?_,L,λi v U S=>q i v ((aQ l _).trans U) S⟩
  ·by_cases z:a=p
   ·rw[z,J4];simp
   rw[aJ z];exact I a n
  rcases (vQ c [] k).mp G with h |h
  ·cases h
  exact(vL g m k h).ex (Ex.same (aQ l _))
 cases Y with
 |tup f =>
  unfold jc at eq;simp only at eq;split at eq
  ·rename_i C;obtain⟨c,g,s⟩:=bind_eq_some_iff.mp eq;obtain⟨b,j,rfl,tq,m⟩:=At.Kb.mp ax;obtain⟨ev,hl,k⟩:=go f j c m C g s;subst ev;show sK _ _ _;exact⟨b,c,rfl,tq.sq,hl,λp l=>k p l⟩
  cases eq
 |_=>cases eq
end
section
variable {prog:Program}{w:World}{A:Around}{E:JL}{s:Shared}
structure ZA (z TI TO i1 i2:Addr) (f1 f2:List Addr):Prop where
 m1:i1∈f1
 m2:i2∈f2
 z1:z∉f1
 z2:z∉f2
 o1:TO∉f1
 o2:TO∉f2
 x1:i2∉f1
 x2:i1∉f2
 oz:TO≠z
 tz:TI≠z
 to:TI≠TO
 t1:TI∉f1
 t2:TI∉f2
variable {z TI TO i1 i2:Addr}{f1 f2:List Addr}{n1 n2:Nat}{P1 P2:Nat->Value->Prop}{S1 S2:Nat->Heap->Prop}{a b:Value}
theorem ZA.ne1 (D:ZA z TI TO i1 i2 f1 f2):i1≠z/\i1≠TO/\i1≠i2/\i2≠z/\i2≠TO/\TI≠i1/\TI≠i2:=
 ⟨λe=>D.z1 (e▸D.m1),λe=>D.o1 (e▸D.m1),λe=>D.x1 (e▸D.m1),λe=>D.z2 (e▸D.m2),λe=>D.o2 (e▸D.m2),λe=>D.t1 (e▸D.m1),λe=>D.t2 (e▸D.m2)⟩
theorem dL {x y:Addr}{l:List Addr}(h:x∉l)(g:y∈l):y≠x:=λe=>h (e▸g)
theorem AN (D:ZA z TI TO i1 i2 f1 f2)(p:Draws prog w A i1 f1 n1 P1 S1)(C:Draws prog w A i2 f2 n2 P2 S2){j k:Nat}(hj:j<n1)(hk:k<n2){Q:JL}
  (hz:IsZip s.heap z TI TO .none) (WR:IsPair s.heap TI (.ref i1) (.ref i2)) (S:IsPair s.heap TO a b) (t1:S1 j s.heap) (t2:S2 k s.heap)
  (hQ:∀ x y h' tk,P1 j x->P2 k y->IsZip h' z TI TO (rawInt s.heap.objs.size)->IsPair h' TO x y->S1 (j+1) h'->S2 (k+1) h'->IsPair h' s.heap.objs.size x y->h'.objs.size=s.heap.objs.size+1 ->
   (∀ c o,c≠z->c≠TO->c≠i1->c≠i2->s.heap.get? c=some o->h'.get? c=some o)->Q (.ref s.heap.objs.size) { s with heap:=h',toks:=tk }) :
  wpAny (model prog w) A (Builtin.«zip.__next__» ⟨[.ref z],[]⟩) (λfin s' => ∃ v,fin = .done (.ret v)/\Q v s') E s:=by
 obtain⟨e1,e2,e3,V,e5,e6,e7⟩:=D.ne1;show wpAny _ _ (field (.ref z) 2 >>= _) _ _ _;refine wpAny_bind (wpAny_field (x:=.bool false) hz rfl rfl ?_);show wpAny _ _ (field (.ref z) 3 >>= _) _ _ _;refine wpAny_bind (wpAny_field (x:=.ref TI) hz rfl rfl (wpAny_bind (wpAny_seqItems WR rfl ?_)));show wpAny _ _ (Builtin.SmallTypes.ownedTupleIsFree (.ref z) >>= _) _ _ _;unfold Builtin.SmallTypes.ownedTupleIsFree;refine wpAny_bind (wpAny_bind (wpAny_field (x:=.none) hz rfl rfl (wpAny_pure ?_)));simp only[if_true];refine wpAny_bind (wpAny_rule (wpAny_bind (wpAny_field (x:=.ref TO) hz rfl rfl (wpAny_bind (wpAny_setField_rec hz (by simp) λZ J m=>wpAny_bind ?_)))));have J:IsZip Z z TI TO .ellipsis:=J;simp only[zipIdx_cons,List.zipIdx_nil,forIn_cons,forIn_nil];refine wpAny_bind (wpAny_bind (wpAny_onRaise ?_));show wpAny _ _ (Builtin.SmallTypes.nextOf (.ref i1) >>= _) _ _ _;refine wpAny_bind (p.item j _ _ _ hj (p.frame _ _ _ t1 λc u o e=>m.extBut _ _ (dL D.z1 u) e) λx T tb px X h=>wpAny_pure ?_);have M:IsPair T TO a b:=h.extBut _ _ (Ne.symm e2) (m.extBut _ _ D.oz S);refine wpAny_bind (wpAny_seqItems M rfl (wpAny_bind (wpAny_updateSeq_pair M λu K n=>wpAny_bind (wpAny_letGo (wpAny_pure ?_)))));have K:IsPair u TO x b:=K;refine wpAny_bind (wpAny_bind (wpAny_onRaise ?_));show wpAny _ _ (Builtin.SmallTypes.nextOf (.ref i2) >>= _) _ _ _;have U:S2 k u:=C.frame _ _ _ t2 λc f o e=>n.extBut _ _ (dL D.o2 f) (h.extBut _ _ (dL D.x2 f) (m.extBut _ _ (dL D.z2 f) e));refine wpAny_bind (C.item k _ _ _ hk U λy hd td py R i=>wpAny_pure ?_);have P:IsPair hd TO x b:=i.extBut _ _ (Ne.symm e5) K;refine wpAny_bind (wpAny_seqItems P rfl (wpAny_bind (wpAny_updateSeq_pair P λd F l=>wpAny_bind (wpAny_letGo (wpAny_pure (wpAny_pure ?_))))));have F:IsPair d TO x y:=F;refine wpAny_bind (wpAny_seqItems F rfl (wpAny_bind (wpAny_newTuple ?_)));have sz:d.objs.size=s.heap.objs.size:=by rw[l.1,i.1,n.1,h.1,m.1]
 have all:∀ c o,c≠z->c≠TO->c≠i1->c≠i2->s.heap.get? c=some o->d.get? c=some o:=λc o B t I H e=>l.extBut _ _ t (i.extBut _ _ H (n.extBut _ _ t (h.extBut _ _ I (m.extBut _ _ B e))));have N:IsZip d z TI TO .ellipsis:=l.extBut _ _ (Ne.symm D.oz) (i.extBut _ _ (Ne.symm V) (n.extBut _ _ (Ne.symm D.oz) (h.extBut _ _ (Ne.symm e1) J)));have Y:S1 (j+1) d:=p.frame _ _ _ X λc f o e=>l.extBut _ _ (dL D.o1 f) (i.extBut _ _ (dL D.x1 f) (n.extBut _ _ (dL D.o1 f) e));have Z_:S2 (k+1) d:=C.frame _ _ _ R λc f o e=>l.extBut _ _ (dL D.o2 f) e;have O:z<d.objs.size:=Heap.lt_size N;show wpAny _ _ (Builtin.SmallTypes.ownedTupleHandOut (.ref z) (.ref d.objs.size) >>= _) _ _ _;unfold Builtin.SmallTypes.ownedTupleHandOut;have zf:IsZip (d.push { cls:=.type "tuple",data:=.seq #[x,y] }) z TI TO .ellipsis:=Heap.get?_push_of_some _ N;refine wpAny_bind (wpAny_bind (wpAny_setField_rec zf (by simp) λhg W L=>wpAny_setField_rec (show IsZip hg z TI TO (rawInt d.objs.size) from W) (by simp) λg r G=>wpAny_pure ⟨_,rfl,?_⟩));have r:IsZip g z TI TO (rawInt d.objs.size):=r;have up:∀ c o,c≠z->d.get? c=some o->g.get? c=some o:=λc o q e=>G.extBut _ _ q (L.extBut _ _ q (Heap.get?_push_of_some _ e));have new:IsPair g d.objs.size x y:=G.extBut _ _ (ne_of_gt O) (L.extBut _ _ (ne_of_gt O) (Heap.get?_push_size _ rfl));have size:g.objs.size=d.objs.size+1:=by rw[G.1,L.1,Heap.size_push]
 show Q (.ref d.objs.size) _;rw[sz] at r new size ⊢;exact hQ x y g _ px py r (up _ _ D.oz F) (p.frame _ _ _ Y λc f o e=>up c o (dL D.z1 f) e) (C.frame _ _ _ Z_ λc f o e=>up c o (dL D.z2 f) e) new size λc o B t I H e=>up c o B (all c o B t I H e)
theorem C9 (D:ZA z TI TO i1 i2 f1 f2)(v:Draws prog w A i1 f1 n1 P1 S1)(J:Draws prog w A i2 f2 n2 P2 S2){j k:Nat}(U:j=n1∨(j<n1/\k=n2)){Q:Fin->Shared->Prop}
  (hz:IsZip s.heap z TI TO .none) (WR:IsPair s.heap TI (.ref i1) (.ref i2)) (V:IsPair s.heap TO a b) (t1:S1 j s.heap) (t2:S2 k s.heap)
  (hE:∀ h' e tk,(∀ c o,c≠z->c≠TO->c≠i1->c≠i2->s.heap.get? c=some o->h'.get? c=some o)->(∃ o,h'.get? e=some o/\o.cls = .type "StopIteration")->E (.ref e) { s with heap:=h',toks:=tk }) :
  wpAny (model prog w) A (Builtin.«zip.__next__» ⟨[.ref z],[]⟩) Q E s:=by
 obtain⟨L,e2,e3,e4,e5,e6,e7⟩:=D.ne1;show wpAny _ _ (field (.ref z) 2 >>= _) _ _ _;refine wpAny_bind (wpAny_field (x:=.bool false) hz rfl rfl ?_);show wpAny _ _ (field (.ref z) 3 >>= _) _ _ _;refine wpAny_bind (wpAny_field (x:=.ref TI) hz rfl rfl (wpAny_bind (wpAny_seqItems WR rfl ?_)));show wpAny _ _ (Builtin.SmallTypes.ownedTupleIsFree (.ref z) >>= _) _ _ _;unfold Builtin.SmallTypes.ownedTupleIsFree;refine wpAny_bind (wpAny_bind (wpAny_field (x:=.none) hz rfl rfl (wpAny_pure ?_)));simp only[if_true];refine wpAny_bind (wpAny_rule (wpAny_bind (wpAny_field (x:=.ref TO) hz rfl rfl (wpAny_bind (wpAny_setField_rec hz (by simp) λK t g=>wpAny_bind ?_)))));have t:IsZip K z TI TO .ellipsis:=t
 have stop:∀ (h:Heap) (M:IsZip h z TI TO .ellipsis) (e:Addr) (tk:Nat) (d:Heap) (B:Addr),z≠B->Heap.ExtBut B h d->(∃ o,d.get? e=some o/\o.cls = .type "StopIteration")->(∀ c o,c≠z->c≠TO->c≠i1->c≠i2->s.heap.get? c=some o->d.get? c=some o) ->
   wpAny (model prog w) A (setField (.ref z) 0 .none) (λ_ T=>E (.ref e) T) E { s with heap:=d,toks:=tk }:=by
  rintro h M e tk d B R S ⟨Y,C,I⟩ kk;have z2:IsZip d z TI TO .ellipsis:=S _ _ R M;have u:e≠z:=λq=>by subst q;rw[z2] at C;cases C;simp at I
  exact wpAny_setField_rec z2 (by simp) λh3 _ O=>hE h3 e tk (λc o f m i r x=>O.extBut _ _ f (kk c o f m i r x)) ⟨Y,O.extBut _ _ u C,I⟩
 simp only[zipIdx_cons,List.zipIdx_nil,forIn_cons,forIn_nil];refine wpAny_bind (wpAny_bind (wpAny_onRaise ?_));show wpAny _ _ (Builtin.SmallTypes.nextOf (.ref i1) >>= _) _ _ _;have N:=v.frame _ _ _ t1 λc p o e=>g.extBut c o (dL D.z1 p) e;rcases U with rfl |⟨Z,rfl⟩
 ·refine wpAny_bind (v.done _ _ _ N λd e l y=>?_);exact stop K t e s.toks d i1 (Ne.symm L) l y λc o f m i r x=>l _ _ i (g.extBut _ _ f x)
 refine wpAny_bind (v.item j _ _ _ Z N λx X W px Yh n=>wpAny_pure ?_);have H:IsPair X TO a b:=n.extBut _ _ (Ne.symm e2) (g.extBut _ _ D.oz V);refine wpAny_bind (wpAny_seqItems H rfl (wpAny_bind (wpAny_updateSeq_pair H λp oc G=>wpAny_bind (wpAny_letGo (wpAny_pure ?_)))));refine wpAny_bind (wpAny_bind (wpAny_onRaise ?_));show wpAny _ _ (Builtin.SmallTypes.nextOf (.ref i2) >>= _) _ _ _;have WU:=J.frame _ _ _ t2 λc F o e=>G.extBut c o (dL D.o2 F) (n.extBut _ _ (dL D.x2 F) (g.extBut _ _ (dL D.z2 F) e));have P:IsZip p z TI TO .ellipsis:=G.extBut _ _ (Ne.symm D.oz) (n.extBut _ _ (Ne.symm L) t);refine wpAny_bind (J.done _ _ _ WU λd e l y=>?_);exact stop p P e W d i2 (Ne.symm e4) l y λc o f m i r x=>l _ _ r (G.extBut _ _ m (n.extBut _ _ i (g.extBut _ _ f x)))
end
def Oc (k:Bool)(h:Heap)(a:Addr)(items:Array Value):Prop:=match k with
 |true=>h.IsTuple a items
 |false=>h.IsList a items
def P8 (k:Bool)(h:Heap)(it a:Addr)(i:Nat):Prop:=match k with
 |true=>h.IsTupleIter it a i
 |false=>h.IsListIter it a i
def RJ (k:Bool)(a:Addr):Obj:=match k with
 |true => { cls:=.type "tuple_iterator",data:=.fields #[.ref a,.int 0 0] }
 |false => { cls:=.type "list_iterator",data:=.fields #[.ref a,.int 0 0] }
section
variable {prog:Program}{w:World}{A:Around}{E:JL}{s:Shared}
theorem Oc.keep {k:Bool}{h h':Heap}{a:Addr}{items:Array Value}(x:Oc k h a items)(e:∀ o,h.get? a=some o->h'.get? a=some o):Oc k h' a items:=by
 cases k with
 |true=>obtain⟨o,b,r⟩:=(x:h.IsTuple a items);exact⟨o,e o b,r⟩
 |false=>obtain⟨o,b,r⟩:=(x:h.IsList a items);exact⟨o,e o b,r⟩
theorem P8.keep {k:Bool}{h h':Heap}{it a:Addr}{i:Nat}(x:P8 k h it a i)(e:∀ o,h.get? it=some o->h'.get? it=some o):P8 k h' it a i:=by
 cases k with
 |true=>obtain⟨o,b,r⟩:=(x:h.IsTupleIter it a i);exact⟨o,e o b,r⟩
 |false=>obtain⟨o,b,r⟩:=(x:h.IsListIter it a i);exact⟨o,e o b,r⟩
theorem P8.obj {k:Bool}{h:Heap}{it a:Addr}{i:Nat}(x:P8 k h it a i):∃ o,h.get? it=some o/\∀ v,o.data≠.cell v:=by
 cases k with
 |true=>obtain⟨o,b,_,hd⟩:=(x:h.IsTupleIter it a i);exact⟨o,b,λv z=>by rw[hd] at z;cases z⟩
 |false=>obtain⟨o,b,_,hd⟩:=(x:h.IsListIter it a i);exact⟨o,b,λv z=>by rw[hd] at z;cases z⟩
theorem Oc.lt {k:Bool}{h:Heap}{a:Addr}{items:Array Value}(x:Oc k h a items):a<h.objs.size:=by
 cases k with
 |true=>obtain⟨o,b,_⟩:=(x:h.IsTuple a items);exact Heap.lt_size b
 |false=>obtain⟨o,b,_⟩:=(x:h.IsList a items);exact Heap.lt_size b
theorem Draws.seq (k:Bool)(c:A.handled=none)(it a:Addr)(b:a≠it)(items:Array Value):Draws prog w A it [it,a] items.size (λi v=>items[i]?=some v) (λi h=>P8 k h it a i/\Oc k h a items):=by
 cases k with
 |true=>exact Draws.tup c it a b items
 |false=>exact Draws.list c it a b items
theorem yE {k:Bool}{a:Addr}{items:Array Value}{Q:JL}(x:Oc k s.heap a items)(h:Q (.ref s.heap.objs.size) { s with heap:=s.heap.push (RJ k a) }):wpAny (model prog w) A (pyIter (.ref a)) Q E s:=by
 cases k with
 |true=>exact wpAny_pyIter_tuple (show s.heap.IsTuple a items from x) h
 |false=>exact wpAny_pyIter_list (show s.heap.IsList a items from x) h
end
abbrev UM (k1:Bool)(h:Heap)(a:Addr):Heap:=h.push (RJ k1 a)
abbrev UN (k1 k2:Bool)(h:Heap)(a b:Addr):Heap:=(UM k1 h a).push (RJ k2 b)
abbrev UO (k1 k2:Bool)(h:Heap)(a b:Addr):Heap:=(UN k1 k2 h a b).push { cls:=.type "tuple",data:=.seq #[.ref h.objs.size,.ref (UM k1 h a).objs.size] }
abbrev UP (k1 k2:Bool)(h:Heap)(a b:Addr):Heap:=(UO k1 k2 h a b).push { cls:=.type "tuple",data:=.seq #[.none,.none] }
abbrev P9 (k1 k2:Bool)(h:Heap)(a b:Addr):Heap:=(UP k1 k2 h a b).push { cls:=.type "zip",data:=.fields #[.none,.bool false,.bool false,.ref (UN k1 k2 h a b).objs.size,.ref (UO k1 k2 h a b).objs.size] }
theorem C8 (c f:Bool)(a b:Addr)(j ys:Array Value):Meets (Builtin.«zip.__new__» ⟨[.type "zip",.ref a,.ref b],[]⟩) (λ_ R s=>Oc c s.heap a j/\Oc f s.heap b ys /\
   R (.ok (.ret (.ref (UP c f s.heap a b).objs.size))) { s with heap:=P9 c f s.heap a b }):=
 .of_wp λprog w A R s h=>by
  obtain⟨i,g,d,tk,os⟩:=s;obtain⟨k,l,h⟩:=h;have n:=sub_zip;have ga:Oc c (Shared.heap ⟨i,g,d,tk,os⟩) a j:=k;have m:Oc f (Shared.heap ⟨i.push (RJ c a),g,d,tk,os⟩) b ys:=Oc.keep (show Oc f i b ys from l) λo e=>Heap.get?_push_of_some _ e
  wp_walk using yE ga,yE m
  exact⟨_,rfl,h⟩
section
variable {prog:Program}{w:World}{A:Around}{E:JL}{s:Shared}
theorem AC {d f:Bool}{a b:Addr}{l ys:Array Value}{Q:JL}(y:Oc d s.heap a l)(z:Oc f s.heap b ys)
  (h:∀ h',IsZip h' (s.heap.objs.size+4) (s.heap.objs.size+2) (s.heap.objs.size+3) .none->IsPair h' (s.heap.objs.size+2) (.ref s.heap.objs.size) (.ref (s.heap.objs.size+1)) ->
   IsPair h' (s.heap.objs.size+3) .none .none->P8 d h' s.heap.objs.size a 0->P8 f h' (s.heap.objs.size+1) b 0->(∀ c o,s.heap.get? c=some o->h'.get? c=some o)->Q (.ref (s.heap.objs.size+4)) { s with heap:=h' }) :
  wpAny (model prog w) A (call (.type "zip") [.ref a,.ref b]) Q E s:=by
 refine callType_new F.called_zip (by decide) (F.typeCall_zip_2 _ _) (F.newCall_zip_2 _ _) (λobj=>F.args_object_init_3 obj _ _) F.entry_zip_new (C8 d f a b l ys) ⟨y,z,?_⟩;have n:(UM d s.heap a).objs.size=s.heap.objs.size+1:=Heap.size_push ..;have q:(UN d f s.heap a b).objs.size=s.heap.objs.size+2:=by rw[Heap.size_push,n]
 have v:(UO d f s.heap a b).objs.size=s.heap.objs.size+3:=by rw[Heap.size_push,q]
 have C:(UP d f s.heap a b).objs.size=s.heap.objs.size+4:=by rw[Heap.size_push,v]
 have up1:∀ c o,(UP d f s.heap a b).get? c=some o->(P9 d f s.heap a b).get? c=some o:=λc o e=>Heap.get?_push_of_some _ e;have u:∀ c o,(UO d f s.heap a b).get? c=some o->(P9 d f s.heap a b).get? c=some o:=λc o e=>up1 _ _ (Heap.get?_push_of_some _ e);have r:∀ c o,(UN d f s.heap a b).get? c=some o->(P9 d f s.heap a b).get? c=some o:=λc o e=>u _ _ (Heap.get?_push_of_some _ e);have p:∀ c o,(UM d s.heap a).get? c=some o->(P9 d f s.heap a b).get? c=some o:=λc o e=>r _ _ (Heap.get?_push_of_some _ e);have g:(P9 d f s.heap a b).get? (UP d f s.heap a b).objs.size=some _:=Heap.get?_push_size _ rfl;have t:(P9 d f s.heap a b).get? (UO d f s.heap a b).objs.size=some _:=up1 _ _ (Heap.get?_push_size _ rfl);have j:(P9 d f s.heap a b).get? (UN d f s.heap a b).objs.size=some _:=u _ _ (Heap.get?_push_size _ rfl);have fr:∀ k c,(RJ k c).isFreed=false:=λk c=>by cases k<;>rfl
 have m:(P9 d f s.heap a b).get? (UM d s.heap a).objs.size=some (RJ f b):=r _ _ (Heap.get?_push_size _ (fr f b));have B:(P9 d f s.heap a b).get? s.heap.objs.size=some (RJ d a):=p _ _ (Heap.get?_push_size _ (fr d a))
 have it:∀ (k:Bool) (c i:Addr),(P9 d f s.heap a b).get? i=some (RJ k c)->P8 k (P9 d f s.heap a b) i c 0:=λk c i e=>by
  cases k with
  |true=>exact⟨_,e,rfl,rfl⟩
  |false=>exact⟨_,e,rfl,rfl⟩
 show _/\_;rw[C] at g ⊢;rw[v] at t g;rw[q] at j g;rw[n] at m j;exact⟨⟨_,g,rfl⟩,h _ g j t (it _ _ _ B) (it _ _ _ m) λc o x=>p _ _ (Heap.get?_push_of_some _ x)⟩
end
def P_ (k:Bool)(K:JK)(H:Hp)(a:Addr)(b:List V):Prop:=match k with
 |true=>Nm K H a b
 |false=>M0 K H a b
section
variable {X:Cx}{pins:JM}{σ:St}{H:Hp}{s:Shared}
theorem Inv.Pz {k:Bool}{a:Addr}{b:List V}(I:Inv X pins σ H s)(h:P_ k X.K H a b):∃ its:List Value,Vals b its/\Oc k s.heap a its.toArray:=by
 cases k with
 |true=>obtain⟨its,r,p,_⟩:=I.tuple h;exact⟨its,r,p⟩
 |false=>obtain⟨its,r,⟨o,n,d,c,_,hd⟩,_⟩:=I.list h;exact⟨its,r,o,d,c,n,hd⟩
theorem Inv.Ou {k:Bool}{a:Addr}{b ys:List V}(I:Inv X pins σ H s)(h:P_ k X.K H a b)(h':P_ k X.K H a ys):b=ys:=by
 cases k with
 |true=>exact I.Mx h h'
 |false=>exact I.M3 h h'
end
theorem Oc.ne {k:Bool}{h:Heap}{a it c:Addr}{items:Array Value}{i:Nat}(x:Oc k h a items)(y:P8 k h it c i):a≠it:=λe=>by
 subst e;cases k with
 |true =>
  obtain⟨o1,g,f,_⟩:=(x:h.IsTuple a items);obtain⟨o2,b,d,_⟩:=(y:h.IsTupleIter a c i);rw[g] at b;cases b;rw[f] at d;exact absurd d (by simp)
 |false =>
  obtain⟨o1,g,f,_⟩:=(x:h.IsList a items);obtain⟨o2,b,d,_⟩:=(y:h.IsListIter a c i);rw[g] at b;cases b;rw[f] at d;exact absurd d (by simp)
def WW (K:JK)(g h:Bool)(a b:Addr)(f e:Nat):It:=
 ⟨λi H=>i<f/\i<e/\∃ c d,P_ g K H a c/\P_ h K H b d/\c.length=f/\d.length=e,
  λi H v j => ∃ p x y,H p=none/\v = .ref p/\j=upd H p (.tup [x,y])/\(∀ c,P_ g K H a c->c[i]?=some x)/\∀ d,P_ h K H b d->d[i]?=some y,
  λi H=>(f<=i∨e<=i)/\∃ c d,P_ g K H a c/\P_ h K H b d/\c.length=f/\d.length=e⟩
structure ZSt (k1 k2:Bool) (a b z TI TO i1 i2:Addr) (n1 n2 i:Nat) (h:Heap):Prop where
 zip:IsZip h z TI TO .none
 its:IsPair h TI (.ref i1) (.ref i2)
 out:∃ u v,IsPair h TO u v
 fst:P8 k1 h i1 a i
 snd:P8 k2 h i2 b i
 Ym:i<=n1
 Yn:i<=n2
theorem AT {P:Program}{w:World}{K:JK}{es:List Expr}{kk:Nat}{pt:Pos}(k1 C:Bool)(a b z TI TO g l:Addr)(n1 Z:Nat)(D:ZA z TI TO g l [g,a] [l,b]) :
  Turn P w K (.Tuple es kk pt) (WW K k1 C a b n1 Z) [z,TI,TO,g,l] z (ZSt k1 C a b z TI TO g l n1 Z) where
 mem:=by simp
 obj:=λi h st c f=>by
  simp only[mem_cons,not_mem_nil,or_false] at f;rcases f with rfl |rfl |rfl |rfl |rfl
  ·exact⟨_,st.zip,λv q=>by cases q⟩
  ·exact⟨_,st.its,λv q=>by cases q⟩
  ·obtain⟨u,v,e⟩:=st.out;exact⟨_,e,λv q=>by cases q⟩
  ·exact st.fst.obj
  exact st.snd.obj
 keep:=λi h h' st kp=>by
  obtain⟨u,v,e⟩:=st.out;exact⟨kp _ (by simp) _ st.zip,kp _ (by simp) _ st.its,⟨u,v,kp _ (by simp) _ e⟩,st.fst.keep λo e=>kp _ (by simp) o e,st.snd.keep λo e=>kp _ (by simp) o e,st.Ym,st.Yn⟩
 item:=by
  intro X hP hw hK f i G s σ H E I p st hg;subst hP hw hK;obtain⟨l1,l2,L,ys,hx,Y,lx,ly⟩:=hg;obtain⟨M,ru,V⟩:=I.Pz hx;obtain⟨N,rv,pv⟩:=I.Pz Y;obtain⟨u0,v0,eo⟩:=st.out;have su:M.toArray.size=n1:=by rw[size_toArray,← ru.length,lx]
  have sv:N.toArray.size=Z:=by rw[size_toArray,← rv.length,ly]
  have ne1:a≠g:=V.ne st.fst;have J:b≠l:=pv.ne st.snd;have S:s.TypeIs (.ref z) "zip":=⟨_,st.zip,rfl⟩;unfold pyNext;refine wpAny_bind (wpAny_attempt (wpAny_callSpecial?_slot (name:=Str.ofString "__next__") S F.slot_zip_next (wpAny_call_entry F.slot_zip_next S F.entry_zip_next ?_ (F.args_zip_next_1 _))))
  refine AN D (Draws.seq (A:=X.A.in1) k1 (I.ok.hd f) g a ne1 M.toArray) (Draws.seq (A:=X.A.in1) C (I.ok.hd f) l b J N.toArray) (j:=i) (k:=i) (by omega) (by omega) st.zip st.its eo ⟨st.fst,V⟩ ⟨st.snd,pv⟩
   λu v h' tk hu hv z' o' f' g' new size kp=>wpAny_pure ⟨_,rfl,wpAny_letOwnedTupleGo_zip (s:={ s with heap:=h',toks:=tk }) z' λO z2 C=>?_⟩
  have hu:M[i]?=some u:=by simpa using hu
  have hv:N[i]?=some v:=by simpa using hv
  obtain⟨x,ex⟩:∃ x,L[i]?=some x:=⟨_,List.getElem?_eq_getElem (by omega)⟩;obtain⟨y,ey⟩:∃ y,ys[i]?=some y:=⟨_,List.getElem?_eq_getElem (by omega)⟩;obtain⟨u',e1,rx⟩:=ru.get ex;rw[hu] at e1;cases e1;obtain⟨W,e2,ry⟩:=rv.get ey;rw[hv] at e2;cases e2;have hn:H s.heap.objs.size=none:=I.fresh;have kq:∀ c o,c≠z->c≠TO->c≠g->c≠l->s.heap.get? c=some o->O.get? c=some o:=λc o q1 q2 q3 q4 e=>(C.2 c q1).trans (kp c o q1 q2 q3 q4 e);have nz:s.heap.objs.size≠z:=ne_of_gt (Heap.lt_size st.zip);have Px:IsPair O s.heap.objs.size u v:=(C.2 _ nz).trans new;have R:∀ c o,H c=some o->c≠s.heap.objs.size:=λc o q=>aO q hn
  have U:∀ c∈[z,TO,g,l],c∈[z,TI,TO,g,l]:=λc f=>by
   simp only[mem_cons,not_mem_nil,or_false] at f ⊢;rcases f with h |h |h |h
   ·exact .inl h
   ·exact .inr (.inr (.inl h))
   ·exact .inr (.inr (.inr (.inl h)))
   exact .inr (.inr (.inr (.inr h)))
  have nm:∀ {c:Addr},c∉[z,TO,g,l]->c≠z/\c≠TO/\c≠g/\c≠l:=λ{c} h=>by simpa using h
  have B:∀ c o,c∉[z,TO,g,l]->s.heap.get? c=some o->O.get? c=some o:=λc o h e=>kq c o (nm h).1 (nm h).2.1 (nm h).2.2.1 (nm h).2.2.2 e;have out:∀ c o,H c=some o->c∉[z,TO,g,l]:=λc o q f=>by have:=(p c (U c f)).1;rw[this] at q;cases q
  have I1:Inv X G σ (upd H s.heap.objs.size (.tup [x,y])) { s with heap:=O,toks:=tk }:=by
   refine I.step (h':=O) (g':=s.gens) (d':=s.drawn) (t':=tk) (ch:=[z,TO,g,l]) (λc f=>?_) (λc o _ _ f e _=>B c o f e) (λc o _ _ f e _=>⟨o.slots,B c o f e⟩)
    (λc o _ e n'=>by rw[aJ (ne_of_lt (Heap.lt_size e))];exact n') (λc o f e=>⟨o,B c o f e⟩)
    (λc L q=>by rw[aJ (R c _ q)];exact q) (λc o L q=>by rw[aJ (R c _ q)];exact q) (λc ps q=>⟨#[],by rw[aJ (R c _ q),q];simp⟩)
    (λm hm=>?_) (λc o q=>?_) I.bare
   ·obtain⟨_,g1,_,g3,g4,g5⟩:=p c (U c f);exact⟨g3,g1,g4,g5⟩
   ·obtain⟨o,es,ep,t,r⟩:=hm;exact⟨o,es,ep,kq _ o (Ne.symm (p z (by simp)).2.1) (Ne.symm (p TO (by simp)).2.1) (Ne.symm (p g (by simp)).2.1) (Ne.symm (p l (by simp)).2.1) t,r⟩
   by_cases hb:c=s.heap.objs.size
   ·subst hb;rw[J4] at q;cases q;exact⟨by show 2<=sizeLine;decide,[u,v],.cons rx (.cons ry .nil),_,Px⟩
   rw[aJ hb] at q;refine(I.Kj c o q).MY (λd W N_ e=>B d W ?_ e) (λd e=>by rw[aJ (R d _ e)];exact e) λd L e=>by rw[aJ (R d _ e)];exact e
   rcases N_ with rfl |N_
   ·exact out _ _ q
   exact out _ _ N_
  refine⟨.ref s.heap.objs.size,_,I1,rfl,⟨_,x,y,hn,rfl,rfl,λRH h'=>by rw[I.Ou h' hx];exact ex,λSQ h'=>by rw[I.Ou h' Y];exact ey⟩,?_,λc f=>?_⟩
  ·have kz:∀ c o,c≠z->h'.get? c=some o->O.get? c=some o:=λc o q e=>(C.2 c q).trans e;obtain⟨n1',n2',n3',n4',n5',n6',n7'⟩:=D.ne1;exact⟨z2,kq _ _ D.tz D.to n6' n7' st.its,⟨u,v,kz _ _ D.oz o'⟩,f'.1.keep λo e=>kz _ o n1' e,g'.1.keep λo e=>kz _ o n4' e,by omega,by omega⟩
  have Lc:c<s.heap.objs.size:=by
   have q:∃ o,s.heap.get? c=some o:=by
    simp only[mem_cons,not_mem_nil,or_false] at f;rcases f with rfl |rfl |rfl |rfl |rfl
    ·exact⟨_,st.zip⟩
    ·exact⟨_,st.its⟩
    ·exact⟨_,eo⟩
    ·obtain⟨o,t,_⟩:=st.fst.obj;exact⟨o,t⟩
    obtain⟨o,t,_⟩:=st.snd.obj;exact⟨o,t⟩
   obtain⟨o,t⟩:=q;exact Heap.lt_size t
  rw[aJ (ne_of_lt Lc)];exact(p c f).1
 done:=by
  intro X hP hw hK f i G s σ H E I p st hg;subst hP hw hK;obtain⟨le,L,ys,hx,Y,lx,ly⟩:=hg;obtain⟨M,ru,V⟩:=I.Pz hx;obtain⟨N,rv,pv⟩:=I.Pz Y;obtain⟨u0,v0,eo⟩:=st.out;have su:M.toArray.size=n1:=by rw[size_toArray,← ru.length,lx]
  have sv:N.toArray.size=Z:=by rw[size_toArray,← rv.length,ly]
  have ne1:a≠g:=V.ne st.fst;have J:b≠l:=pv.ne st.snd;have S:s.TypeIs (.ref z) "zip":=⟨_,st.zip,rfl⟩;have e1:=st.Ym;have e2:=st.Yn;unfold pyNext;refine wpAny_bind (wpAny_attempt (wpAny_callSpecial?_slot (name:=Str.ofString "__next__") S F.slot_zip_next (wpAny_call_entry F.slot_zip_next S F.entry_zip_next ?_ (F.args_zip_next_1 _))));refine C9 D (Draws.seq (A:=X.A.in1) k1 (I.ok.hd f) g a ne1 M.toArray) (Draws.seq (A:=X.A.in1) C (I.ok.hd f) l b J N.toArray) (j:=i) (k:=i) (by omega) st.zip st.its eo ⟨st.fst,V⟩ ⟨st.snd,pv⟩ λh' e tk kp he=>?_;obtain⟨o,t,TB⟩:=he;refine wpAny_bind (wpAny_isInstance (T:="StopIteration") (b:=true) ⟨o,t,TB⟩ isSubtype_stop ?_);refine wpAny_pure ⟨rfl,?_⟩
  have U:∀ c∈[z,TO,g,l],c∈[z,TI,TO,g,l]:=λc f=>by
   simp only[mem_cons,not_mem_nil,or_false] at f ⊢;rcases f with h |h |h |h
   ·exact .inl h
   ·exact .inr (.inr (.inl h))
   ·exact .inr (.inr (.inr (.inl h)))
   exact .inr (.inr (.inr (.inr h)))
  have B:∀ c o,c∉[z,TO,g,l]->s.heap.get? c=some o->h'.get? c=some o:=λc o h e=>by
   have h:c≠z/\c≠TO/\c≠g/\c≠l:=by simpa using h
   exact kp c o h.1 h.2.1 h.2.2.1 h.2.2.2 e
  have out:∀ c o,H c=some o->c∉[z,TO,g,l]:=λc o q f=>by have:=(p c (U c f)).1;rw[this] at q;cases q
  refine I.step (h':=h') (g':=s.gens) (d':=s.drawn) (t':=tk) (ch:=[z,TO,g,l]) (λc f=>?_) (λc o _ _ f e _=>B c o f e) (λc o _ _ f e _=>⟨o.slots,B c o f e⟩)
   (λ_ _ _ _ n=>n) (λc o f e=>⟨o,B c o f e⟩) (λ_ _ e=>e) (λ_ _ _ e=>e) (λc ps e=>⟨#[],by rw[e];simp⟩) (λm hm=>?_) (λc o q=>?_) I.bare
  ·obtain⟨_,g1,_,g3,g4,g5⟩:=p c (U c f);exact⟨g3,g1,g4,g5⟩
  ·obtain⟨o,es,ep,t,r⟩:=hm;exact⟨o,es,ep,kp _ o (Ne.symm (p z (by simp)).2.1) (Ne.symm (p TO (by simp)).2.1) (Ne.symm (p g (by simp)).2.1) (Ne.symm (p l (by simp)).2.1) t,r⟩
  refine(I.Kj c o q).MY (λd W N_ e=>B d W ?_ e) (λd e=>e) λd L e=>e;rcases N_ with rfl |N_
  ·exact out _ _ q
  exact out _ _ N_
 self:=by
  intro A i s Q E st h;exact wpAny_pyIter_zip st.zip h
def sC:List D->List D->List D
 |d::ds,e::es => .tup [d,e]::sC ds es
 |_,_=>[]
theorem gq:∀ ds es:List D,(sC ds es).length=min ds.length es.length
 |[],es=>by simp[sC]
 |d::ds,[]=>by simp[sC]
 |d::ds,e::es=>by simp only[sC,length_cons,gq ds es];omega
theorem uD:∀ (ds es:List D) (i:Nat) {d e:D},ds[i]?=some d->es[i]?=some e->(sC ds es)[i]?=some (.tup [d,e])
 |[],_,_,_,_,h,_=>by simp at h
 |_::_,[],_,_,_,_,h=>by simp at h
 |a::ds,b::es,0,d,e,h,g=>by
  have h:a=d:=by simpa using h
  have g:b=e:=by simpa using g
  subst h g;rfl
 |a::ds,b::es,i+1,d,e,h,g=>by
  rw[sC,getElem?_cons_succ];exact uD ds es i (by simpa using h) (by simpa using g)
def AO:List D->Option (List D)
 |[x,y]=>(sT x).bind λa=>(sT y).map λb=>sC a b
 |_=>none
section
variable {X:Cx}{W:WT}
theorem Ba {H:Hp}{J:List Addr}{d:D}{v:V}{e:List D}(m:At X.K H J d v)(h:sT d=some e):∃ (k:Bool) (a:Addr) (vs:List V),v = .ref a/\JW X.K H J e vs/\vs.length<=sizeLine/\∀ c H',Ex J H c H'->P_ k X.K H' a vs:=by
 cases d with
 |tup f=>cases h;obtain⟨a,vs,rfl,b,m⟩:=At.Kb.mp m;exact⟨true,a,vs,rfl,m,b.len,λc H' x=>(b.ex x).sq⟩
 |lst f=>cases h;obtain⟨a,vs,rfl,b,m⟩:=At.Kc.mp m;exact⟨false,a,vs,rfl,m,b.len,λc H' x=>(b.ex x).sq⟩
 |_=>cases h
theorem Walk.zip {m o:Bool}{a b:Addr}{ds es:List D}{c ys:List V}{J:List Addr}{H:Hp}(m1:JW X.K H J ds c)(m2:JW X.K H J es ys)(C:c.length<=sizeLine)(h:∀ j H',Ex J H j H'->P_ m X.K H' a c)(g:∀ j H',Ex J H j H'->P_ o X.K H' b ys) :
  Walk X (WW X.K m o a b c.length ys.length) (sC ds es) J H where
 len:=by rw[gq,m1.length];omega
 go:=λn l i x f=>by
  rw[gq,m1.length,m2.length] at f;exact⟨by omega,by omega,c,ys,h _ _ x,g _ _ x,rfl,rfl⟩
 O9:=λn l i v H' x q f y=>by
  obtain⟨p,u,w,k,rfl,rfl,z,s⟩:=y;obtain⟨d,t,B⟩:=(m1.ex x).get' (z c (h _ _ x));obtain⟨e,A,r⟩:=(m2.ex x).get' (s ys (g _ _ x));exact⟨.tup [d,e],uD ds es i t A,At.LL (.cons B (.cons r .nil)) k q (by show 2<=sizeLine;decide),aQ k _⟩
 stop:=λn l i x f=>by
  rw[gq,m1.length,m2.length] at f;exact⟨by omega,c,ys,h _ _ x,g _ _ x,rfl,rfl⟩
theorem QU {x a b:Nat}(d:x≠a)(c:x≠b):(x:Addr)∉([a,b]:List Addr):=λh=>by
 rcases mem_cons.mp h with e |h
 ·exact d e
 exact c (mem_singleton.mp h)
theorem GM (N A B:Nat)(b:A<N)(a:B<N):ZA (N+4) (N+2) (N+3) N (N+1) [N,A] [N+1,B]:=
 ⟨mem_cons_self ..,mem_cons_self ..,QU (by omega) (by omega),QU (by omega) (by omega),QU (by omega) (by omega),QU (by omega) (by omega),QU (by omega) (by omega),QU (by omega) (by omega),
  (by omega:(N+3:Nat)≠N+4),(by omega:(N+2:Nat)≠N+4),(by omega:(N+2:Nat)≠N+3),QU (by omega) (by omega),QU (by omega) (by omega)⟩
theorem Iu {N b:Nat}(h:(b:Addr)∈([N+4,N+2,N+3,N,N+1]:List Addr)):N<=b:=by simp only[mem_cons,not_mem_nil,or_false] at h;have h:b=N+4∨b=N+2∨b=N+3∨b=N∨b=N+1:=h;omega
theorem boot_zip:bootBuiltins "zip"=some (.type "zip"):=by decide
theorem A4 {es:List Expr}{k:Nat}{pt p pos:Pos}{a b:Expr}{t:JJ (List D)}{x:Str}(hx:x="zip")(Y:X.mg x=none)(ha:SA X W [a,b] t)(hg:Gl X x:=by rfl)
  (T:starEach (a::[b]) X.env=(false,eval a X.env)::starEach [b] X.env:=by rfl) (P:(backTo pos (starEach [b] X.env)).any (·.1)=false:=by rfl):SI X W (.Tuple es k pt) (.Call (.Name x p) [a,b] [] pos) (ik AO t):=by
 subst hx;intro c s C H R I h;refine wpAny_Call_Name_kw (kL I hg Y boot_zip ?_ (by decide) (by decide));refine callWith_type1 (Kd (ha pos c s C H _ I (lA h)) λus i Zq=>?_) T P;obtain⟨vs,l,d,r1,J,S,MZ,ds,so,m,e,z⟩:=Zq;unfold AO at e;split at e
 ·rename_i dx dy;obtain⟨xs,h1,h2⟩:=bind_eq_some_iff.mp e;obtain⟨ys,Z,h4⟩:=map_eq_some_iff.mp h2;subst h4;obtain⟨v1,r,rfl,a1,n⟩:=JW.JU.mp m;obtain⟨v2,r',rfl,a2,n⟩:=JW.JU.mp n;cases JW.JY.mp n;obtain⟨O,g,A,rfl,m1,f,M⟩:=Ba a1 h1;obtain⟨y,o,L,rfl,m2,lw2,G⟩:=Ba a2 Z;obtain⟨u1,u2,rfl,q,j⟩:=vals2 r1;cases q;cases j;obtain⟨v,rv1,F⟩:=d.Pz (M _ _ Ex.refl);obtain⟨Qk,V,E⟩:=d.Pz (G _ _ Ex.refl);have l1:=F.lt;have l2:=E.lt;refine AC F E λh' u g2 Q g4 g5 kp=>?_;have I2:Inv X c C l { i with heap:=h' }:=d.kept (t':=i.toks) kp;refine wpAny_pyIter_zip u ?_;generalize B:i.heap.objs.size=N at *
  refine⟨N+4,[N+4,N+2,N+3,N,N+1],_,WW X.K O y g o A.length L.length,l,rfl,I2,AT O y g o (N+4) (N+2) (N+3) N (N+1) A.length L.length ?_,⟨u,g2,⟨_,_,Q⟩,g4,g5,zero_le _,zero_le _⟩,λb U=>?_,z l _ (J6.refl _) (Walk.zip m1 m2 f M G)⟩
  ·exact GM N g o l1 l2
  have w:N<=b:=Iu U;exact d.M4 (by rw[B];exact w) (d.Kj.fresh (by rw[B];exact w))
 cases e
end
section
variable {P:Program}{w:World}{K:JK}{mg:JN}{base:Heap}{x:Str}{st:Stmt}{ps:List Str}{k:Nat}{F:JO}
def C5 (P:Program)(w:World)(K:JK)(mg:JN)(base:Heap)(k:Nat)(x:Str)(st:Stmt)(ps:List Str)(F:JO):Prop:=
 ∀ f fd,Oi K x x st f fd->P6 P w K mg base k f fd ps F/\Binds K fd ps []
theorem zl {sc:Scope}{N:List Str}{G:JJ Fl}(b:BD x x st ps)(d:au st=sc)(Sc:JR N ps sc)
  (h:∀ (f:Addr) (a:Value) (A:Around) (outer:List Env) (s:Shared) (H:Hp) (E:XK),Kn k (A.deeper (envOfC x sc s.heap.objs.size f a))->OT (mL OP P w K mg base N x sc f a A outer s H E).Qg W0 (bO st) G) :
  C5 P w K mg base (k+1) x st ps (a9 ps.length (N.length-ps.length) G):=λ_ _ c=>⟨kN c d Sc h,c.binds b⟩
end
section
variable {X:Cx}{W:WT}{x y:Str}{st:Stmt}{ps:List Str}{p pos:Pos}{e:Expr}{es:List Expr}{gs:JJ (List D)}{ff:JJ D}
theorem EN (h:a_ X.K X.mg x st ps)(b:Gl X x:=by rfl)(hd:(x==("__debug__":Str))=false:=by decide):SE X W (.Name x pos) (aC (.fn x st)):=by obtain⟨f,fd,c,a,_⟩:=h;exact Dv a ⟨.ref f,rfl,λH J=>At.OR.mpr ⟨f,fd,rfl,c⟩⟩ b hd
def Fg (ok:Addr->Sp->Prop)(E:XK)(d:TE)(t:TA):TE:=λb H Q=>d b H λv c => ∃ f a,v = .ref f/\ok f a/\t b c λe g=>a (e++[]) g Q E
theorem BE {CX:_}{E:XK}{ok:Addr->Sp->Prop}{c:TE}{t:TA}(Kj:∀ f sp,ok f sp->∃ k fd ps,LG X.prog X.w X.K X.mg X.base CX k f fd ps sp/\Kn k X.A/\PySem.W.keepIn X.K (.ref f)=true/\Binds X.K fd ps [])(o:Passes CX X E)
  (z:PE X (.Name x p) c) (B:PA X (e::es) t) (y:starEach (e::es) X.env=(false,eval e X.env)::starEach es X.env:=by rfl) (l:(backTo pos (starEach es X.env)).any (·.1)=false:=by rfl) :
  PE X (.Call (.Name x p) (e::es) [] pos) (Fg ok E c t):=by
 intro a s b H Q I h;refine wpAny_Call_Name_kw (Kd (z a s b H _ I h) λu D g=>?_);obtain⟨v,i,G,n,f,sp,ev,j,q⟩:=g;subst ev;obtain rfl:u=Value.ref f:=n;obtain⟨k,fd,ps,F,J,kp,C⟩:=Kj f sp j;refine PySem.W.callWith_K (h₀:=X.base) I.ok.mod.Tj kp (Kd (B pos a D b i _ G q) λM N ⟨O,L,d,r,m⟩=>⟨d.NA,?_⟩) y l;exact xg F J C .nil o d r m
abbrev FT:=List (Str×Stmt×(JO))
noncomputable def lG:FT->D->Option (JO)
 |[],_=>none
 |(x,st,F)::r,d => @ite _ (d = .fn x st) (Classical.propDecidable _) (some F) (lG r d)
noncomputable def uq (a:FT) (ff:JJ D) (gs:JJ (List D)):JJ D:=λb S=>ai (ff b S) λd e=>match lG a d with
 |some F=>ai (gs b e) λf c=>hW (F f c)
 |none=>none
theorem vi:∀ {a:FT}{d:D}{F:JO},lG a d=some F->∃ x st,(x,st,F)∈a/\d = .fn x st
 |[],_,_,h=>by cases h
 |(x,st,G)::r,d,F,h=>by
  unfold lG at h;split at h
  ·rename_i e;cases h;exact⟨x,st,mem_cons_self ..,e⟩
  obtain⟨y,b,m,e⟩:=vi h;exact⟨y,b,mem_cons_of_mem _ m,e⟩
def zr (X:Cx)(a:FT):Prop:=∀ z∈a,∃ k ps,C5 X.prog X.w X.K X.mg X.base k z.1 z.2.1 ps z.2.2/\Kn k X.A
theorem Dk:zr X []:=λ_ h=>by cases h
theorem uQ {k:Nat}{F:JO}{a:FT}(c:C5 X.prog X.w X.K X.mg X.base k y st ps F)(b:Kn k X.A)(t:zr X a):zr X ((y,st,F)::a):=by
 intro z hz;rcases mem_cons.mp hz with rfl |hz
 ·exact⟨k,ps,c,b⟩
 exact t z hz
theorem Bg {b:FT}(L:zr X b)(I:SE X W (.Name x p) ff)(M:SA X W (e::es) gs)
  (G:starEach (e::es) X.env=(false,eval e X.env)::starEach es X.env:=by rfl) (u:(backTo pos (starEach es X.env)).any (·.1)=false:=by rfl) :
  SE X W (.Call (.Name x p) (e::es) [] pos) (uq b ff gs):=by
 refine PE.imp (BE (E:=E0) (ok:=λf m => ∃ k fd ps F,m=Tw X.K F/\P6 X.prog X.w X.K X.mg X.base k f fd ps F/\Kn k X.A/\PySem.W.keepIn X.K (.ref f)=true/\Binds X.K fd ps [])
  (λf m h=>by obtain⟨k,fd,ps,F,rfl,h⟩:=h;exact⟨k,fd,ps,h⟩) yJ I M G u) λσ H Q h=>(tG.J5 h).mono λv H1 ⟨d,c⟩=>?_
 cases hp:lG b d with
 |none =>
  obtain⟨J,l,S,r,j,i,g,a,z⟩:=c;simp only[hp] at a;cases a
 |some F =>
  simp only[hp] at c;obtain⟨y,st,T,rfl⟩:=vi hp;obtain⟨k,ps,Z,P⟩:=L _ T;have t:∃ f fd,v = .ref f/\Oi X.K y y st f fd:=by obtain⟨J,l,S,r,j,i,g,a,z⟩:=c;exact At.OR.mp g.JZ.1
  obtain⟨f,fd,rfl,o⟩:=t;obtain⟨fn,O⟩:=Z f fd o;refine⟨f,Tw X.K F,rfl,⟨k,fd,ps,F,rfl,fn,P,o.kp,O⟩,(tG.L1 c).mono λus H2 s=>?_⟩;obtain⟨n,Y,U⟩:=s;obtain⟨J,l,S,r,j,i,g,a,z⟩:=U;obtain⟨m1,_⟩:=JW.split Y g;have a:hW (F n S)=some (r,j):=a;unfold hW at a;split at a
  ·rename_i B S2 q;cases a;exact⟨J,S,n,B,_,by rw[append_nil];exact m1,i.Kr,q,λV R v N C D=>z V R v N C D⟩
  cases a
end
section
variable {X:Cx}{W:WT}{a b:Expr}{fa fb:JJ D}{pos:Pos}
def G1 (K:JK):R2:=λx y H Q => ∃ J b c d q a,At K H J b x/\y = .ref q/\H q=some (.lst a)/\JW K H J c a/\Mv b (.lst c)=some d/\∀ v,At K H J d v->Q v H
theorem FY (O:X.A.units+150<cLine):MW X (compareOp .NotEq) (G1 X.K):=by
 intro a s L H x y v u Q I j i h;obtain⟨J,G,M,d,q,P,w,rfl,D,F,e,z⟩:=h;unfold Mv at e;split at e
 ·rename_i p N t b;split at e
  ·rename_i le;cases e;obtain⟨m,R,E⟩:=w.reads I j t;rw[toPy] at b;obtain⟨B,g,C⟩:=map_eq_some_iff.mp b;subst C;cases i;obtain⟨its,k,⟨o,n,l,r,_,hd⟩,_⟩:=I.list (.inl (.inl D));obtain⟨c,bs,f⟩:=JW.readsAll I F k g;exact SeqAt.compareNe_reads E (.list l r hd (by simpa using f)) m (by rw[PyData.canLay0];exact c) (by omega) ⟨.bl (!PyData.eqv p (.list B)),H,I,rfl,z _ (At.Kg.mpr rfl)⟩
  cases e
 cases e
def xv (x y:D)(S:JP):Option D:=(da y S).bind λa=>Mv x (.lst a)
def Ez (fa fb:JJ D):JJ D:=λa S=>ai (fa a S) λx c=>ai (fb a c) λy b=>aP (xv x y b) b
theorem BO {g:St}{H:Hp}{Q:VK}(h:tE X W (Ez fa fb) g H Q):Tn (G1 X.K) (tE X W fa) (tE X W fb) g H Q:=
 (tG.J5 h).mono λv A ⟨d,p⟩=>(tG.J5 p).mono λD o i=>by
  obtain⟨f,n⟩:=i
  obtain⟨J,B,S,r,s,c,m,e,z⟩:=n;obtain⟨y,m⟩:=m.JZ;obtain⟨w,_⟩:=m.JZ;have a:aP (xv d f S) S=some (r,s):=e;clear e;cases q:da f S with
  |none=>rw[xv,q] at a;cases a
  |some b =>
   rw[xv,q,bind_some] at a;obtain⟨l,j,u,rfl,rfl,C,es,x,k⟩:=tI c.Kr y q;cases q2:Mv d (.lst b) with
   |none=>rw[q2] at a;cases a
   |some t =>
    rw[q2] at a;cases a;exact⟨J,d,b,t,j,u,w,rfl,x,k,q2,λv m=>z J o v Ex.refl c.Kr m⟩
theorem Fc (e:X.A.units+150<cLine)(c:SE X W a fa)(d:SE X W b fb)(f:behindInMarks .NotEq b=false:=by first |exact xu _ (by decide) (by decide) |with_unfolding_all rfl):MH X W (.Compare a [.NotEq] [b] pos) (aY (Ez fa fb)):=
 (yF (FY e) c d f).imp λg H Q h=>Ly.mono (λ_ _ _=>BO) (fO h)
end
end L2
namespace L2
open PySem PyProof.Rows
abbrev Ei:Bool->Keyed->Array Keyed->Nat->Nat->Nat->StateT SortSt Sem (Option Nat):=sortPriv% PySem.Builtin.gallop
abbrev BX:Array Keyed->Array Keyed->StateT SortSt Sem (Array Keyed):=sortPriv% PySem.Builtin.mergeLo
abbrev mergeAt':Nat->StateT SortSt Sem Bool:=sortPriv% PySem.Builtin.mergeAt
def wI (prog:Program)(w:World)(A:Around)(E:JL)(s:Shared)(kd:SortKind)(O:KeyOrd)(kf:Value->O.α)(G:Keyed->Prop):Prop:=
 ∀ x y:Keyed,G x->G y->∀ (st:SortSt) (Q:Option Bool->SortSt->Prop),kindOf st=kd->Q (some (O.blt (kf x.1) (kf y.1))) st->wpS (model prog w) A E s (lt' x y) Q st
section
variable {prog:Program}{w:World}{A:Around}{E:JL}{s:Shared}{kd:SortKind}{O:KeyOrd}{kf:Value->O.α}{G:Keyed->Prop}
theorem cT {arr:Array Keyed}{i:Nat}(h:i<arr.size){Q:Keyed->SortSt->Prop}{st:SortSt}(q:Q arr[i] st):wpS (model prog w) A E s (elem' arr i) Q st:=by rw[elem'_eq,getElem?_pos arr i h];exact wpS_pure q
def RK (O:KeyOrd)(kf:Value->O.α)(left:Bool)(key x:Keyed):Bool:=if left then O.blt (kf x.1) (kf key.1) else !O.blt (kf key.1) (kf x.1)
theorem iA {e:Type}{b:Nat}{f:Nat->e->StateT SortSt Sem (ForInStep e)}{Q : e->SortSt->Prop}{c : e}{st:SortSt}(j : 0<b)(h:wpS (model prog w) A E s (f 0 c) (λr a=>match r with | .done d=>Q d a | .yield _=>False) st):wpS (model prog w) A E s (forIn [0:b] c f) Q st:=by
 refine wpS_forRange (I:=λx d a=>x=0/\d=c/\a=st) (λi d a _ _ z=>?_) (λd a z=>?_) ⟨rfl,rfl,rfl⟩
 ·obtain⟨rfl,rfl,rfl⟩:=z
  exact wpS_mono h λr k q=>by
   cases r with
   |done g=>exact q
   |yield g=>exact q.elim
 have:=z.1;omega
theorem ym (L:wI prog w A E s kd O kf G){left:Bool}{key:Keyed}{arr:Array Keyed}{base n a k:Nat}{st:SortSt}{Q:Option Nat->SortSt->Prop}(m:kindOf st=kd)(o:G key)(ga:∀ x∈arr.toList,G x)
  (u:base+n<=arr.size) (t : 2<=n) (B:Nat->Bool) (p:∀ i (h:base+i<arr.size),i<n->B i=RK O kf left key arr[base+i])
  (c:(a=0/\k=1/\B 0=true/\B 1=false)∨(a=n-1/\k=n-1/\B (n-1)=false/\B (n-2)=true))
  (h:Q (some k) st):wpS (model prog w) A E s (Ei left key arr base n a) Q st:=by
 have d:∀ i,i<n->∀ {b:Option Bool->SortSt->Prop},b (some (B i)) st->wpS (model prog w) A E s (do let x ← elem' arr (base+i);if left=true then lt' x key else return (← lt' key x).map (!·)) b st:=by
  intro i r b q;have j:base+i<arr.size:=by omega
  refine wpS_bind (cT j ?_);have l:G arr[base+i]:=ga _ (getElem_mem_toList j);have e:=p i j r;unfold RK at e;cases left with
  |true =>
   rw[if_pos rfl];rw[if_pos rfl] at e;exact L _ _ l o st _ m (by rw[← e];exact q)
  |false =>
   rw[if_neg (by decide)];rw[if_neg (by decide)] at e;refine wpS_bind (L _ _ o l st _ m (wpS_pure ?_));show b (some (!O.blt (kf key.1) (kf arr[base+i].1))) st;rw[← e];exact q
 rcases c with ⟨rfl,rfl,f,g⟩ |⟨rfl,rfl,f,g⟩
 ·refine wpS_bind (d 0 (by omega) ?_);rw[f];dsimp only;rw[if_pos rfl];refine wpS_bind (iA (by omega) ?_);dsimp only;rw[if_neg (by omega)];refine wpS_bind (d (0+1) (by omega) ?_);rw[show 0+1=1 from rfl,g];refine wpS_pure ?_;dsimp only;refine wpS_bind (iA (by omega) ?_);dsimp only;rw[if_pos (by omega)];refine wpS_pure (wpS_pure ?_);rw[show 0+min 1 (n-0)=1 by omega];exact h
 refine wpS_bind (d (n-1) (by omega) ?_);rw[f];dsimp only;rw[if_neg (by decide)];refine wpS_bind (iA (by omega) ?_);dsimp only;rw[if_neg (by omega)];refine wpS_bind (d (n-1-1) (by omega) ?_);rw[show n-1-1=n-2 from by omega,g];refine wpS_pure ?_;dsimp only;refine wpS_bind (iA (by omega) ?_);dsimp only;rw[if_pos (by omega)];exact wpS_pure (wpS_pure h)
end
section
variable {O:KeyOrd}{kf:Value->O.α}
def LZ (O:KeyOrd)(kf:Value->O.α)(x y:Keyed):Prop:=O.kle (kf x.1) (kf y.1)
theorem jQ {x y z:Keyed}(h:LZ O kf x y)(g:LZ O kf y z):LZ O kf x z:=KeyOrd.kle_trans h g
structure Mg (O:KeyOrd) (kf:Value->O.α) (T out A B:List Keyed):Prop where
 perm:(out++(A++B)).Perm T
 so:out.Pairwise (LZ O kf)
 sa:A.Pairwise (LZ O kf)
 sb:B.Pairwise (LZ O kf)
 low:∀ x∈out,∀ y∈A++B,LZ O kf x y
def Res (O:KeyOrd)(kf:Value->O.α)(T r:List Keyed):Prop:=r.Perm T/\r.Pairwise (LZ O kf)
theorem Mg.US {T out p A B:List Keyed}(h:Mg O kf T out (p++A) B)(l:∀ x∈p,∀ y∈B,LZ O kf x y):Mg O kf T (out++p) A B:=by
 have sa:=pairwise_append.mp h.sa;refine⟨by have:=h.perm;simpa [List.append_assoc] using this,pairwise_append.mpr ⟨h.so,sa.1,λx hx y hy=>h.low x hx y (by simp[hy])⟩,sa.2.1,h.sb,λx hx y hy=>?_⟩;rcases mem_append.mp hx with hx |hx
 ·exact h.low x hx y (by
   rcases mem_append.mp hy with hy |hy
   ·simp[hy]
   simp[hy])
 rcases mem_append.mp hy with hy |hy
 ·exact sa.2.2 x hx y hy
 exact l x hx y hy
theorem Mg.UT {T out p A B:List Keyed}(h:Mg O kf T out A (p++B))(l:∀ x∈p,∀ y∈A,LZ O kf x y):Mg O kf T (out++p) A B:=by
 have sb:=pairwise_append.mp h.sb;refine⟨?_,pairwise_append.mpr ⟨h.so,sb.1,λx hx y hy=>h.low x hx y (by simp[hy])⟩,h.sa,sb.2.1,λx hx y hy=>?_⟩
 ·refine List.Perm.trans ?_ h.perm;rw[List.append_assoc];refine List.Perm.append_left out ?_;rw[← List.append_assoc,← List.append_assoc];exact List.Perm.append_right B List.perm_append_comm
 rcases mem_append.mp hx with hx |hx
 ·exact h.low x hx y (by
   rcases mem_append.mp hy with hy |hy
   ·simp[hy]
   simp[hy])
 rcases mem_append.mp hy with hy |hy
 ·exact l x hx y hy
 exact sb.2.2 x hx y hy
theorem Mg.last {T out B:List Keyed}{z:Keyed}(h:Mg O kf T out [z] B)(l:∀ y∈B,LZ O kf y z):Res O kf T (out++B++[z]):=by
 refine⟨?_,pairwise_append.mpr ⟨pairwise_append.mpr ⟨h.so,h.sb,λx hx y a=>h.low x hx y (by simp[a])⟩,List.pairwise_singleton _ _,λx hx y a=>?_⟩⟩
 ·refine List.Perm.trans ?_ h.perm;rw[List.append_assoc];exact List.Perm.append_left out List.perm_append_comm
 have b:y=z:=by simpa using a
 subst b;rcases mem_append.mp hx with hx |hx
 ·exact h.low x hx y (by simp)
 exact l x hx
theorem drop_cons {a:Array Keyed}{i:Nat}(h:i<a.size):a.toList.drop i=a[i]::a.toList.drop (i+1):=by rw[List.drop_eq_getElem_cons (by simpa using h)];simp
theorem nQ {a:Array Keyed}(i:Nat):(a.extract i).toList=a.toList.drop i:=by rw[toList_extract,List.extract_eq_drop_take];exact take_of_length_le (by simp)
theorem yR {l:List Keyed}{x y:Keyed}(a:(y::l).Pairwise (LZ O kf))(h:LZ O kf x y):∀ z∈y::l,LZ O kf x z:=by
 intro z hz;rcases mem_cons.mp hz with e |hz
 ·rw[e];exact h
 exact jQ h ((pairwise_cons.mp a).1 z hz)
end
structure Yp (st JX:SortSt):Prop where
 kind:kindOf JX=kindOf st
 arr:arrOf JX=arrOf st
 pend:pendingOf JX=pendingOf st
 fail:failedOf JX=failedOf st
section
variable {prog:Program}{w:World}{A:Around}{E:JL}{s:Shared}{kd:SortKind}{O:KeyOrd}{kf:Value->O.α}{G:Keyed->Prop}
theorem uL (L:wI prog w A E s kd O kf G){a b:Array Keyed}{st:SortSt}{Q:Array Keyed->SortSt->Prop}(Z:kindOf st=kd)(ga:∀ x∈a.toList,G x)(gb:∀ x∈b.toList,G x)(X:b.size=a.size)(q : 2<=a.size)
  (sa:a.toList.Pairwise (LZ O kf)) (sb:b.toList.Pairwise (LZ O kf)) (H:∀ i (h:i<a.size),O.blt (kf (b[i]'(by omega)).1) (kf a[i].1)=true) (ab:∀ i (h:i+1<a.size),O.blt (kf (b[i+1]'(by omega)).1) (kf a[i].1)=false) (hg : 2<=gallopOf st)
  (h:∀ r,Res O kf (a.toList++b.toList) r.toList->Q r st):wpS (model prog w) A E s (BX a b) Q st:=by
 have N : 0<a.size:=by omega
 have R : 0<b.size:=by omega
 let T:=a.toList++b.toList;let I:Array Keyed->Nat->Nat->Prop:=λout d f=>Mg O kf T out.toList (a.toList.drop d) (b.toList.drop f);have gA:∀ i (m:i<a.size),G a[i]:=λi m=>ga _ (getElem_mem_toList m);have gB:∀ i (m:i<b.size),G b[i]:=λi m=>gb _ (getElem_mem_toList m)
 have K:∀ i j (m:i<a.size) (D:j<a.size),i<=j->LZ O kf a[i] a[j]:=by
  intro i j m D P7;rcases lt_or_ge i j with Lc |Uu
  ·have:=pairwise_iff_getElem.mp sa i j (by simpa using m) (by simpa using D) Lc;simpa using this
  have e:i=j:=by omega
  subst e;exact KeyOrd.kle_refl _
 have first:LZ O kf b[0] a[0]:=KeyOrd.kle_of_klt (H 0 N)
 have last:∀ y∈b.toList,LZ O kf y a[a.size-1]:=λy l=>by
  obtain⟨j,D,rfl⟩:=getElem_of_mem l;have W:j<a.size:=by rw[← X];simpa using D
  have:=jQ (KeyOrd.kle_of_klt (H j W)) (K j (a.size-1) W (by omega) (by omega));simpa using this
 have Y:∀ {out:Array Keyed}{d f:Nat},I out d f->d+1=a.size->Res O kf T (out++b.extract f++a.extract d).toList:=by
  intro out d f g e;have g:Mg O kf T out.toList (a.toList.drop d) (b.toList.drop f):=g;have P:a.toList.drop d=[a[a.size-1]]:=by rw[drop_cons (by omega),drop_eq_nil_of_le (by simp[e])];congr 2;omega
  rw[toList_append,toList_append,nQ,nQ,P];rw[P] at g;exact g.last λy l=>last y (mem_of_mem_drop l)
 have S:∀ {out:Array Keyed}{d f:Nat}(n:d<a.size) (q:f<b.size),I out d f->LZ O kf b[f] a[d]->I (out.push b[f]) d (f+1):=by
  intro out d f n q g M;have g:Mg O kf T out.toList (a.toList.drop d) (b.toList.drop f):=g;have z:=g;rw[drop_cons q] at g;show Mg O kf T (out.push b[f]).toList _ _;rw[toList_push];refine Mg.UT (p:=[b[f]]) g λx v y l=>?_;have ex:x=b[f]:=by simpa using v
  subst ex;have V:=z.sa;rw[drop_cons n] at V l;exact yR V M y l
 have UX:∀ {out:Array Keyed}{d f:Nat}(n:d<a.size) (q:f<b.size),I out d f->LZ O kf a[d] b[f]->I (out.push a[d]) (d+1) f:=by
  intro out d f n q g M;have g:Mg O kf T out.toList (a.toList.drop d) (b.toList.drop f):=g;have z:=g;rw[drop_cons n] at g;show Mg O kf T (out.push a[d]).toList _ _;rw[toList_push];refine Mg.US (p:=[a[d]]) g λx v y l=>?_;have ex:x=a[d]:=by simpa using v
  subst ex;have U:=z.sb;rw[drop_cons q] at U l;exact yR U M y l
 have start:I #[b[0]] 0 1:=by
  have g:Mg O kf T [] a.toList b.toList:=⟨by simp[T],List.Pairwise.nil,sa,sb,λx v=>by simp at v⟩;have z:I #[] 0 0:=by show Mg O kf T [] (a.toList.drop 0) (b.toList.drop 0);simpa using g
  exact S N R z first
 refine wpS_bind (wpS_lift (wpAny_rule ⟨rfl,?_⟩));refine wpS_bind (cT R ?_);dsimp only;rw[if_neg (by simp;omega),if_neg (by simp;omega)];refine wpS_bind (wpS_get ?_);refine wpS_bind (wpS_mono (Q:=λc k=>k=st/\∃ r rest,c=(some r,rest)/\Res O kf T r.toList) (iA (by omega) ?_) ?post)
 case post =>
  rintro c k ⟨rfl,r,rest,rfl,J⟩;exact wpS_pure (h r J)
 dsimp only
 refine wpS_bind (wpS_mono (wpS_forRange (I:=λy c k=>k=st/\∃ out d f B C,c=(none,out,d,f,B,C)/\I out d f/\d+1<a.size/\f<b.size/\d+f=y+1/\(f=d+1/\B=0∨f=d/\C=0))
  (Q:=λc k=>k=st/\∃ r rest,c=(some r,rest)/\Res O kf T r.toList) ?step ?fin ⟨rfl,_,_,_,_,_,rfl,start,by omega,by omega,rfl,.inl ⟨rfl,rfl⟩⟩) ?post1)
 case post1 =>
  rintro c k ⟨rfl,r,rest,rfl,J⟩;exact wpS_pure ⟨rfl,r,_,rfl,J⟩
 case fin =>
  rintro c k ⟨rfl,out,d,f,B,C,rfl,g,n,o,h4,_⟩;omega
 case step =>
  rintro y c k _ l ⟨rfl,out,d,f,B,C,rfl,g,n,o,h4,h5⟩;dsimp only;have u:d<a.size:=by omega
  refine wpS_bind (cT o (wpS_bind (cT u (wpS_bind (L _ _ (gB _ o) (gA _ u) k _ Z ?_)))));dsimp only;rcases h5 with ⟨rfl,rfl⟩ |⟨rfl,rfl⟩
  ·have e:=ab d (by omega);rw[e,if_neg (by decide)];refine wpS_bind (cT u ?_);have F:=UX u o g (show O.kle _ _ from e)
   try dsimp only
   by_cases t:(d+1+1==a.size)=true
   ·rw[if_pos t];exact wpS_pure ⟨rfl,_,_,rfl,Y F (by simpa using t)⟩
   rw[if_neg t];have e3':d+1+1≠a.size:=by simpa using t
   rw[if_neg (show ¬ (0+1≥gallopOf k) by omega)];exact wpS_pure ⟨rfl,_,_,_,_,_,rfl,F,by omega,o,by omega,.inr ⟨rfl,rfl⟩⟩
  have e:=H f u;rw[e,if_pos rfl];refine wpS_bind (cT o ?_);have F:=S u o g (KeyOrd.kle_of_klt e)
  try dsimp only
  have t:¬ (f+1==b.size)=true:=by simp;omega
  rw[if_neg t,if_neg (show ¬ (0+1≥gallopOf k) by omega)];exact wpS_pure ⟨rfl,_,_,_,_,_,rfl,F,n,by omega,by omega,.inl ⟨rfl,rfl⟩⟩
end
abbrev AA:Nat->Nat->StateT SortSt Sem (Option Nat):=sortPriv% PySem.Builtin.countRun
abbrev ww:Nat->Nat->Nat->StateT SortSt Sem Bool:=sortPriv% PySem.Builtin.binarySort
section
variable {prog:Program}{w:World}{A:Around}{E:JL}{s:Shared}{kd:SortKind}{O:KeyOrd}{kf:Value->O.α}{G:Keyed->Prop}
def KX (kf:Value->O.α)(a:Array Keyed)(i:Nat):O.α:=match a[i]? with
 |some p=>kf p.1
 |none=>kf .none
theorem zu {a ys:Array Keyed}{i j:Nat}(h:a[i]?=ys[j]?):KX kf a i=KX kf ys j:=by unfold KX;rw[h]
theorem nT {a:Array Keyed}{i:Nat}(h:i<a.size):KX kf a i=kf a[i].1:=by unfold KX;rw[getElem?_pos a i h]
structure Sg (G:Keyed->Prop) (kd:SortKind) (lo hi:Nat) (st JX:SortSt):Prop where
 kind:kindOf JX=kd
 good:∀ x∈(arrOf JX).toList,G x
 perm:(arrOf JX).Perm (arrOf st)
 pend:pendingOf JX=pendingOf st
 fail:failedOf JX=failedOf st
 TC:gallopOf JX=gallopOf st
 same:∀ k,(k<lo∨hi<=k)->(arrOf JX)[k]?=(arrOf st)[k]?
theorem Sg.size {lo b:Nat}{st a:SortSt}(h:Sg G kd lo b st a):(arrOf a).size=(arrOf st).size:=h.perm.size_eq
theorem Sg.set {lo b:Nat}{st a:SortSt}(h:Sg G kd lo b st a){ys:Array Keyed}(c:ys.Perm (arrOf a))(f:∀ k,(k<lo∨b<=k)->ys[k]?=(arrOf a)[k]?):Sg G kd lo b st (setArr a ys):=
 ⟨h.kind,λx e=>h.good x ((perm_iff_toList_perm.mp c).mem_iff.mp e),c.trans h.perm,h.pend,h.fail,h.TC,λk d=>(f k d).trans (h.same k d)⟩
theorem l_ (L:wI prog w A E s kd O kf G){lo b:Nat}{st0 st:SortSt}(a:Sg G kd lo b st0 st){i j:Nat}(b:i<(arrOf st0).size)(e:j<(arrOf st0).size){Q:Option Bool->SortSt->Prop}
  (q:Q (some (O.blt (KX kf (arrOf st) i) (KX kf (arrOf st) j))) st):wpS (model prog w) A E s (ltAt' i j) Q st:=by
 have d:i<(arrOf st).size:=by rw[a.size];exact b
 have c:j<(arrOf st).size:=by rw[a.size];exact e
 rw[nT d,nT c] at q;rw[ltAt'_eq];refine wpS_bind (wpS_get (wpS_bind (cT d (wpS_bind (cT c ?_)))));exact L _ _ (a.good _ (getElem_mem_toList d)) (a.good _ (getElem_mem_toList c)) st _ a.kind q
theorem Db {i j:Nat}{st:SortSt}{Q:Unit->SortSt->Prop}(q:Q () (setArr st (bubble (arrOf st) i (i-j)))):wpS (model prog w) A E s (moveDown' i j) Q st:=by rw[moveDown'_eq];exact wpS_modify q
def PB (kf:Value->O.α)(a:Array Keyed)(lo b:Nat):Prop:=∀ i j,lo<=i->i<=j->j<b->O.kle (KX kf a i) (KX kf a j)
theorem oI (L:wI prog w A E s kd O kf G){lo b:Nat}{st:SortSt}{Q:Option Nat->SortSt->Prop}(f:kindOf st=kd)(i:∀ x∈(arrOf st).toList,G x)(l:lo+b<=(arrOf st).size)(m : 2<=b)
  (u:O.blt (KX kf (arrOf st) lo) (KX kf (arrOf st) (lo+1))=true) (d:b=2∨O.blt (KX kf (arrOf st) (lo+2)) (KX kf (arrOf st) (lo+1))=true) (h:Q (some 2) st):wpS (model prog w) A E s (AA lo b) Q st:=by
 have e:Sg G kd lo lo st st:=⟨f,i,Array.Perm.refl _,rfl,rfl,rfl,λ_ _=>rfl⟩;refine wpS_bind (wpS_mono (wpS_forRange (I:=λx c a=>a=st/\c=(none,x)/\x<=2) (Q:=λc a=>a=st/\c=(none,2)) ?s1 ?f1 ⟨rfl,rfl,by omega⟩) ?p1)
 case s1 =>
  rintro x c a j k ⟨rfl,rfl,g⟩
  try dsimp only
  refine wpS_bind (l_ L e (by omega) (by omega) ?_);have:x=1∨x=2:=by omega
  rcases this with rfl |rfl
  ·rw[show lo+1-1=lo by omega,show O.blt (KX kf (arrOf a) (lo+1)) (KX kf (arrOf a) lo)=false from KeyOrd.klt_asymm u];exact wpS_pure ⟨rfl,rfl,by omega⟩
  rw[show lo+2-1=lo+1 by omega,d.resolve_left (by omega)];exact wpS_pure ⟨rfl,rfl⟩
 case f1 =>
  rintro c a ⟨rfl,rfl,g⟩;exact⟨rfl,by rw[show max 1 b=2 by omega]⟩
 case p1 =>
  rintro c a ⟨rfl,rfl⟩
  try dsimp only
  split
  ·exact wpS_pure h
  rw[if_pos (by decide)];refine wpS_bind (l_ L e (by omega) (by omega) ?_);rw[show lo+2-1=lo+1 by omega,u];exact wpS_pure h
theorem CY {b:Array Keyed}{a d:Nat}(g:a<b.size)(hd:d<=a)(k:Nat):KX kf (bubble b a d) k=if k=a-d then KX kf b a else if a-d<k/\k<=a then KX kf b (k-1) else KX kf b k:=by
 have e:=getElem?_bubble g d hd k;split
 ·rename_i c;rw[if_pos c] at e;exact zu e
 rename_i c;rw[if_neg c] at e;split
 ·rename_i f;rw[if_pos f] at e;exact zu e
 rename_i f;rw[if_neg f] at e;exact zu e
theorem i8 (L:wI prog w A E s kd O kf G){lo n ok:Nat}{st0 st:SortSt}{Q:Bool->SortSt->Prop}(J:Sg G kd lo (lo+n) st0 st)(B:lo+n<=(arrOf st0).size)(Kj:ok<=n)(F:PB kf (arrOf st) lo (lo+ok))
  (h:∀ d,Sg G kd lo (lo+n) st0 d->PB kf (arrOf d) lo (lo+n)->Q true d):wpS (model prog w) A E s (ww lo n ok) Q st:=by
 refine wpS_bind (wpS_mono (wpS_forRange (I:=λk c d=>c=(none,())/\Sg G kd lo (lo+n) st0 d/\PB kf (arrOf d) lo (lo+min k n)) (Q:=λc d=>c=(none,())/\Sg G kd lo (lo+n) st0 d/\PB kf (arrOf d) lo (lo+n)) ?s1 ?f1 ⟨rfl,J,λi j z y C=>?i1⟩) ?p1)
 case i1 =>
  by_cases e:j<lo+ok
  ·exact F i j z y e
  have:i=j:=by omega
  subst this;exact KeyOrd.kle_refl _
 case f1 =>
  rintro c d ⟨N,m,o⟩;refine⟨N,m,?_⟩;rwa [show min (max (max ok 1) n) n=n by omega] at o
 case p1 =>
  rintro c d ⟨rfl,m,o⟩;exact wpS_pure (h d m o)
 case s1 =>
  rintro k c d D H ⟨rfl,m,o⟩;rw[show min k n=k by omega] at o
  try dsimp only
  refine wpS_bind (wpS_mono (wpS_forRange (I:=λx c f=>f=d/\∃ l r,c=(none,l,r)/\l<=r/\r<=k/\r-l<=k-x/\(∀ i,i<l->O.kle (KX kf (arrOf d) (lo+i)) (KX kf (arrOf d) (lo+k)))/\∀ i,r<=i->i<k->O.klt (KX kf (arrOf d) (lo+k)) (KX kf (arrOf d) (lo+i)))
   (Q:=λc f=>f=d/\∃ l r,c=(none,l,r)/\l<=k/\(∀ i,i<l->O.kle (KX kf (arrOf d) (lo+i)) (KX kf (arrOf d) (lo+k)))/\∀ i,l<=i->i<k->O.klt (KX kf (arrOf d) (lo+k)) (KX kf (arrOf d) (lo+i))) ?s2 ?f2 ⟨rfl,0,k,rfl,by omega,by omega,by omega,λi P=>by omega,λi a b=>by omega⟩) ?p2)
  case f2 =>
   rintro c f ⟨rfl,l,r,rfl,z,y,C,t,p⟩;exact⟨rfl,l,r,rfl,by omega,t,λi v u=>p i (by omega) u⟩
  case s2 =>
   rintro x c f _ R ⟨rfl,l,r,rfl,z,y,C,t,p⟩
   try dsimp only
   by_cases e:l≥r
   ·rw[if_pos e];exact wpS_pure ⟨rfl,l,r,rfl,by omega,t,λi v u=>p i (by omega) u⟩
   rw[if_neg e];refine wpS_bind (l_ L m (by omega) (by omega) ?_);clear B Kj D H;have m1:l<=(l+r) / 2:=by omega
   have m2:(l+r) / 2<r:=by omega
   generalize (l+r) / 2=md at *
   cases hb:O.blt (KX kf (arrOf f) (lo+k)) (KX kf (arrOf f) (lo+md)) with
   |true=>exact wpS_pure ⟨rfl,l,md,rfl,m1,by omega,by omega,t,λi v u=>KeyOrd.klt_of_klt_of_kle hb (o _ _ (by omega) (by omega) (by omega))⟩
   |false=>exact wpS_pure ⟨rfl,md+1,r,rfl,m2,y,by omega,λi v=>KeyOrd.kle_trans (o _ _ (by omega) (by omega) (by omega)) (show O.kle _ _ from hb),p⟩
  case p2 =>
   rintro c f ⟨rfl,l,r,rfl,z,t,p⟩
   try dsimp only
   have g:lo+k<(arrOf f).size:=by rw[m.size];omega
   refine wpS_bind (Db (wpS_pure ⟨rfl,m.set (bubble_perm _ _ _) (λq hq=>?_),?_⟩))
   ·rw[getElem?_bubble g _ (by omega),if_neg (by rcases hq with hq |hq<;>omega),if_neg (by rcases hq with hq |hq<;>omega)]
   rw[show min (k+1) n=k+1 by omega];intro i j v u S;show O.kle (KX kf (bubble (arrOf f) (lo+k) (lo+k-(lo+l))) i) (KX kf (bubble (arrOf f) (lo+k) (lo+k-(lo+l))) j);rw[CY g (by omega),CY g (by omega),show lo+k-(lo+k-(lo+l))=lo+l by omega];have up:∀ q,lo<=q->q<lo+l->O.kle (KX kf (arrOf f) q) (KX kf (arrOf f) (lo+k)):=λq M K=>by have:=t (q-lo) (by omega);rwa [show lo+(q-lo)=q by omega] at this
   have dn:∀ q,lo+l<=q->q<lo+k->O.klt (KX kf (arrOf f) (lo+k)) (KX kf (arrOf f) q):=λq M K=>by have:=p (q-lo) (by omega) (by omega);rwa [show lo+(q-lo)=q by omega] at this
   clear B Kj D H g t p J m F h
   repeat' split
   all_goals first
    |(exfalso;omega)
    |exact KeyOrd.kle_refl _
    |exact up _ (by omega) (by omega)
    |exact KeyOrd.kle_of_klt (dn _ (by omega) (by omega))
    |exact o _ _ (by omega) (by omega) (by omega)
theorem writes:∀ (m:List Keyed) (c:Array Keyed) (b o:Nat),b+o+m.length<=c.size->((m.zipIdx o).foldl (λa (d:Keyed×Nat)=>a.setIfInBounds (b+d.2) d.1) c).toList=c.toList.take (b+o)++(m++c.toList.drop (b+o+m.length))
 |[],c,b,o,h=>by simp
 |p::m,c,b,o,h=>by
  rw[length_cons] at h;have g:=writes m (c.setIfInBounds (b+o) p) b (o+1) (by rw[Array.size_setIfInBounds];omega);rw[zipIdx_cons,foldl_cons];show ((m.zipIdx (o+1)).foldl _ (c.setIfInBounds (b+o) p)).toList=_;rw[g,Array.toList_setIfInBounds,← add_assoc,length_cons];have e:(c.toList.set (b+o) p).take (b+o+1)=c.toList.take (b+o)++[p]:=by rw[List.take_succ,List.take_set_of_le (le_refl _),getElem?_set_self (by simpa using (by omega:b+o<c.size))];rfl
  have f:(c.toList.set (b+o) p).drop (b+o+1+m.length)=c.toList.drop (b+o+(m.length+1)):=by rw[List.drop_set_of_lt (by omega)];congr 1;omega
  rw[e,f];simp
end
section
variable {prog:Program}{w:World}{A:Around}{E:JL}{s:Shared}{kd:SortKind}{O:KeyOrd}{kf:Value->O.α}{G:Keyed->Prop}
theorem Da {st a:SortSt}{Q:PUnit->SortSt->Prop}(q:Q ⟨⟩ a):wpS (model prog w) A E s (set a:StateT SortSt Sem PUnit) Q st:=by unfold wpS;rw[StateT.run_set];exact wpAny_pure ⟨rfl,q⟩
theorem uM (L:wI prog w A E s kd O kf G){st:SortSt}{f o:Nat}{X Y:List Keyed}{Q:Bool->SortSt->Prop}(D:kindOf st=kd)(n:∀ x∈(arrOf st).toList,G x)(hf:failedOf st=none)(Qa : 2<=gallopOf st)
  (p:pendingOf st = #[(0,32,f),(32,32,o)]) (e:(arrOf st).toList=X++Y) (d:X.length=32) (H:Y.length=32) (N:X.Pairwise (LZ O kf)) (J:Y.Pairwise (LZ O kf))
  (k:∀ i (h:i<32),O.blt (kf (X[i]'(by omega)).1) (kf (Y[i]'(by omega)).1)=true) (I:∀ i (h:i+1<32),O.blt (kf (Y[i]'(by omega)).1) (kf (X[i+1]'(by omega)).1)=true)
  (h:∀ t,failedOf t=none->(pendingOf t).size=1->Res O kf (X++Y) (arrOf t).toList->Q true t) :
  wpS (model prog w) A E s (mergeAt' 0) Q st:=by
 have M:(arrOf st).size=32+32:=by have:=congrArg List.length e;simpa [d,H] using this
 have T:∀ j (U:j<(arrOf st).size),(arrOf st)[j]=(X++Y)[j]'(by rw[List.length_append];omega):=λj U=>by
  have h2:(arrOf st)[j]=(arrOf st).toList[j]'(by simpa using U):=by simp
  rw[h2];congr 1
 have q:∀ j (c:j<32),(arrOf st)[j]'(by omega)=X[j]'(by omega):=λj c=>by rw[T,List.getElem_append_left]
 have C:∀ j (c:j<32),(arrOf st)[32+j]'(by omega)=Y[j]'(by omega):=λj c=>by rw[T,List.getElem_append_right (by omega)];congr 1;omega
 have gd:∀ j (c:j<(arrOf st).size),G (arrOf st)[j]:=λj c=>n _ (getElem_mem_toList c);refine wpS_bind (wpS_get ?_);rw[show (sortPriv% PySem.Builtin.SortState.pending) st=pendingOf st from rfl,p,show (#[(0,32,f),(32,32,o)]:Array (Nat×Nat×Nat))[0]?=some (0,32,f) from rfl,show (#[(0,32,f),(32,32,o)]:Array (Nat×Nat×Nat))[0+1]?=some (32,32,o) from rfl];dsimp only;refine wpS_bind (Da ?_);refine wpS_bind (cT (show 32<(arrOf st).size by omega) ?_);have P:(arrOf st)[32]'(by omega)=Y[0]'(by omega):=C 0 (by omega);refine wpS_bind (ym L (by exact D) (gd 32 (by omega)) n (by show 0+32<=(arrOf st).size;omega) (by omega) (λj=>if c : 0+j<(arrOf st).size then RK O kf false ((arrOf st)[32]'(by omega)) (arrOf st)[0+j] else false) (λj c _=>by rw[dif_pos c]) (.inl ⟨rfl,rfl,?_,?_⟩) ?_)
 ·rw[dif_pos (by omega),P];unfold RK;rw[if_neg (by decide)];have:=KeyOrd.klt_asymm (k 0 (by omega));rw[show (arrOf st)[0+0]'(by omega)=X[0]'(by omega) from q 0 (by omega)];rw[show O.blt (kf (Y[0]'(by omega)).1) (kf (X[0]'(by omega)).1)=false from this];rfl
 ·rw[dif_pos (by omega),P];unfold RK;rw[if_neg (by decide)];simp only[zero_add];rw[show (arrOf st)[1]'(by omega)=X[1]'(by omega) from q 1 (by omega),show O.blt (kf (Y[0]'(by omega)).1) (kf (X[1]'(by omega)).1)=true from I 0 (by omega)];rfl
 try dsimp only
 rw[if_neg (by simp)];refine wpS_bind (cT (show 0+1+(32-1)-1<(arrOf st).size by omega) ?_);have W:(arrOf st)[0+1+(32-1)-1]'(by omega)=X[32-1]'(by omega):=by have:=q (32-1) (by omega);rw[← this]
 refine wpS_bind (ym L (by exact D) (gd _ (by omega)) n (by show 32+32<=(arrOf st).size;omega) (by omega) (λj=>if c : 32+j<(arrOf st).size then RK O kf true ((arrOf st)[0+1+(32-1)-1]'(by omega)) (arrOf st)[32+j] else false) (λj c _=>by rw[dif_pos c]) (.inr ⟨rfl,rfl,?_,?_⟩) ?_)
 ·rw[dif_pos (by omega),W];unfold RK;rw[if_pos rfl,C (32-1) (by omega)];exact KeyOrd.klt_asymm (k (32-1) (by omega))
 ·rw[dif_pos (by omega),W];unfold RK;rw[if_pos rfl,C (32-2) (by omega)];have:=I (32-2) (by omega);simp only[show 32-2+1=32-1 by omega] at this;exact this
 try dsimp only
 rw[if_neg (by simp),if_pos (by omega)];have ex:((arrOf st).extract (0+1) 32).toList=X.drop 1:=by rw[toList_extract,List.extract_eq_drop_take,e,List.drop_append_of_le_length (by omega),List.take_append_of_le_length (by rw[length_drop];omega)];exact take_of_length_le (by rw[length_drop];omega)
 have y:((arrOf st).extract 32 (32+(32-1))).toList=Y.take (32-1):=by rw[toList_extract,List.extract_eq_drop_take,e,List.drop_append,drop_eq_nil_of_le (by omega),nil_append,d,Nat.sub_self,drop_zero,Nat.add_sub_cancel_left]
 have lx:((arrOf st).extract (0+1) 32).size=32-1:=by rw[← length_toList,ex,length_drop,d]
 have ly:((arrOf st).extract 32 (32+(32-1))).size=32-1:=by rw[← length_toList,y,length_take,H];omega
 have xa:∀ i (g:i<32-1),((arrOf st).extract (0+1) 32)[i]'(by omega)=X[i+1]'(by omega):=λi g=>by rw[Array.getElem_extract,← q (i+1) (by omega)];congr 1;omega
 have V:∀ i (g:i<32-1),((arrOf st).extract 32 (32+(32-1)))[i]'(by omega)=Y[i]'(by omega):=λi g=>by rw[Array.getElem_extract];exact C i (by omega)
 refine wpS_bind (uL (a:=(arrOf st).extract (0+1) 32) (b:=(arrOf st).extract 32 (32+(32-1))) L (by exact D) (λz hz=>by rw[ex] at hz;exact n z (by rw[e];simp[mem_of_mem_drop hz])) (λz hz=>by rw[y] at hz;exact n z (by rw[e];simp[mem_of_mem_take hz])) (by omega) (by omega)
  (by rw[ex];exact N.sublist (List.drop_sublist _ _)) (by rw[y];exact J.sublist (List.take_sublist _ _)) (λi g=>by rw[xa i (by omega),V i (by omega)];exact I i (by omega)) (λi g=>by rw[xa i (by omega),V (i+1) (by omega)];exact KeyOrd.klt_asymm (k (i+1) (by omega))) (by exact Qa) λr m=>?_)
 refine wpS_bind (wpS_modify (wpS_bind (wpS_get (wpS_pure ?_))));rw[ex,y] at m;have R:r.toList.length=(32-1)+(32-1):=by rw[m.1.length_eq,List.length_append,length_drop,length_take,d,H];omega
 have S:=writes r.toList (arrOf st) (0+1) 0 (by rw[R,M];omega);have e1:(arrOf st).toList.take (0+1)=X.take 1:=by rw[e,List.take_append_of_le_length (by omega)]
 have e2:(arrOf st).toList.drop (0+1+((32-1)+(32-1)))=Y.drop (32-1):=by rw[e,List.drop_append,drop_eq_nil_of_le (by omega),nil_append,d]
 rw[Nat.add_zero,R,e1,e2] at S;show Q (failedOf st).isNone _;rw[hf];have WG:(((#[(0,32,f),(32,32,o)]:Array (Nat×Nat×Nat)).setIfInBounds 0 (0,32+32,f)).eraseIdxIfInBounds (0+1)).size=1:=by rw[← length_toList,Array.toList_eraseIdxIfInBounds,Array.toList_setIfInBounds];rfl
 refine h _ hf WG ?_;show Res O kf (X++Y) (List.foldl (λa (x:Keyed×Nat)=>a.setIfInBounds (0+1+x.2) x.1) (arrOf st) r.toList.zipIdx).toList;rw[S]
 have B:∀ {Z:List Keyed},Z.Pairwise (LZ O kf)->∀ a b (ha:a<Z.length) (hb:b<Z.length),a<=b->LZ O kf Z[a] Z[b]:=by
  intro Z sZ a b ha hb XT;rcases lt_or_ge a b with Lc |Uu
  ·exact pairwise_iff_getElem.mp sZ a b ha hb Lc
  have e:a=b:=by omega
  subst e;exact KeyOrd.kle_refl _
 have F:∀ z∈X++Y,LZ O kf (X[0]'(by omega)) z/\LZ O kf z (Y[32-1]'(by omega)):=λz hz=>by
  rcases mem_append.mp hz with hz |hz
  ·obtain⟨j,c,rfl⟩:=getElem_of_mem hz;exact⟨B N 0 j (by omega) c (zero_le _),jQ (B N j (32-1) c (by omega) (by omega)) (KeyOrd.kle_of_klt (k (32-1) (by omega)))⟩
  obtain⟨j,c,rfl⟩:=getElem_of_mem hz;exact⟨jQ (KeyOrd.kle_of_klt (k 0 (by omega))) (B J 0 j (by omega) c (zero_le _)),B J j (32-1) c (by omega) (by omega)⟩
 have UY:∀ z∈r.toList,z∈X++Y:=λz hz=>by
  rcases mem_append.mp (m.1.mem_iff.mp hz) with hz |hz
  ·exact mem_append_left _ (mem_of_mem_drop hz)
  exact mem_append_right _ (mem_of_mem_take hz)
 have x1:X.take 1=[X[0]'(by omega)]:=by
  cases X with
  |nil=>simp at d
  |cons a l=>rfl
 have y1:Y.drop (32-1)=[Y[32-1]'(by omega)]:=by rw[List.drop_eq_getElem_cons (by omega),drop_eq_nil_of_le (by omega)]
 refine⟨?_,?_⟩
 ·refine List.Perm.trans (List.Perm.append_left _ (List.Perm.append_right _ m.1)) ?_;have q1:X.take 1++((X.drop 1++Y.take (32-1))++Y.drop (32-1))=(X.take 1++X.drop 1)++(Y.take (32-1)++Y.drop (32-1)):=by simp only[List.append_assoc]
  rw[q1,take_append_drop,take_append_drop]
 rw[x1,y1];refine pairwise_append.mpr ⟨List.pairwise_singleton _ _,pairwise_append.mpr ⟨m.2,List.pairwise_singleton _ _,λu K v hv=>?_⟩,λu K v hv=>?_⟩
 ·rw[mem_singleton.mp hv];exact(F u (UY u K)).2
 rw[mem_singleton.mp K];rcases mem_append.mp hv with hv |hv
 ·exact(F v (UY v hv)).1
 rw[mem_singleton.mp hv];exact(F _ (mem_append_right _ (getElem_mem _))).1
end
abbrev zI:StateT SortSt Sem Unit:=sortPriv% PySem.Builtin.sortRuns
abbrev cE:Nat->Nat->Nat->Nat:=sortPriv% PySem.Builtin.minRun
section
variable {prog:Program}{w:World}{A:Around}{E:JL}{s:Shared}{kd:SortKind}{O:KeyOrd}{kf:Value->O.α}{G:Keyed->Prop}
def Spec {α:Type}(lt : α->α->Bool)(d:List α):Prop:=∃ a b r,d=a::b::r/\lt a b=true/\(∀ c∈r.head?,lt c b=true)/\(d.length<64∨d.length=64/\∃ a b c r,d.drop 32=a::b::c::r/\lt a b=true/\lt c b=true/\∃ X Y:List α,X.length=32/\Y.length=32 /\
 (d.take 32).Perm X/\(d.drop 32).Perm Y/\X.Pairwise (λa b=>lt b a=false)/\Y.Pairwise (λa b=>lt b a=false)/\(∀ p∈X.zip Y,lt p.1 p.2=true)/\∀ p∈Y.zip X.tail,lt p.1 p.2=true)
def j_ (kf:Value->O.α)(a:Array Keyed):List O.α:=a.toList.map λp=>kf p.1
theorem lW {b:Array Keyed}{i:Nat}{a:O.α}(h:(j_ kf b)[i]?=some a):KX kf b i=a:=by unfold j_ at h;rw[getElem?_map] at h;obtain⟨p,c,rfl⟩:=map_eq_some_iff.mp h;unfold KX;rw[show b[i]?=some p by simpa using c]
theorem wA {a:Array Keyed}{lo n:Nat}(h:PB kf a lo (lo+n))(d:lo+n<=a.size):((a.toList.drop lo).take n).Pairwise (LZ O kf):=by rw[pairwise_iff_getElem];intro i j b c e;rw[length_take,length_drop,length_toList] at b c;have q:=h (lo+i) (lo+j) (by omega) (by omega) (by omega);rw[nT (by omega),nT (by omega)] at q;show O.kle _ _;simpa using q
theorem B_ {a b:O.α}(d:O.kle a b)(c:O.kle b a):a=b:=O.total _ _ c d
structure SV (G:Keyed->Prop) (kd:SortKind) (kf:Value->O.α) (st JX:SortSt) (p:Array (Nat×Nat×Nat)):Prop where
 kind:kindOf JX=kd
 good:∀ x∈(arrOf JX).toList,G x
 fail:failedOf JX=none
 TC : 2<=gallopOf JX
 perm:(arrOf JX).Perm (arrOf st)
 pend:pendingOf JX=p
 tk:((arrOf JX).toList.take 32).Perm ((arrOf st).toList.take 32)
 ts:((arrOf JX).toList.take 32).Pairwise (LZ O kf)
theorem uX {a ys:Array Keyed}{lo n:Nat}(g:ys.Perm a)(j:lo+n<=a.size)(same:∀ k,(k<lo∨lo+n<=k)->ys[k]?=a[k]?):ys.toList.take lo=a.toList.take lo/\ys.toList.drop (lo+n)=a.toList.drop (lo+n)/\((ys.toList.drop lo).take n).Perm ((a.toList.drop lo).take n):=by
 have f:ys.toList.take lo=a.toList.take lo:=by
  apply ext_getElem?;intro i;rw[getElem?_take,getElem?_take];split
  ·rename_i h;simpa using same i (.inl h)
  rfl
 have e:ys.toList.drop (lo+n)=a.toList.drop (lo+n):=by apply ext_getElem?;intro i;rw[getElem?_drop,getElem?_drop];simpa using same (lo+n+i) (.inr (by omega))
 have d:∀ b:Array Keyed,b.toList=b.toList.take lo++((b.toList.drop lo).take n++b.toList.drop (lo+n)):=λb=>by rw[← List.drop_drop,take_append_drop,take_append_drop]
 have c:=perm_iff_toList_perm.mp g;rw[d ys,d a,f,e] at c;exact⟨f,e,(List.perm_append_right_iff _).mp ((List.perm_append_left_iff _).mp c)⟩
theorem oy {a:Array Keyed}{lo:Nat}(u:O.blt (KX kf a lo) (KX kf a (lo+1))=true):PB kf a lo (lo+2):=λi j d b c=>by
 have:i=j∨i=lo/\j=lo+1:=by omega
 rcases this with rfl |⟨rfl,rfl⟩
 ·exact KeyOrd.kle_refl _
 exact KeyOrd.kle_of_klt u
theorem ql (L:wI prog w A E s kd O kf G){st:SortSt}{Q:Unit->SortSt->Prop}(hk:kindOf st=kd)(hg:∀ x∈(arrOf st).toList,G x)(hf:failedOf st=none)(S:pendingOf st = #[])(Qa : 2<=gallopOf st)(sp:Spec O.blt (j_ kf (arrOf st)))
  (h:∀ d,(arrOf d).Perm (arrOf st)->failedOf d=none->PB kf (arrOf d) 0 (arrOf st).size->Q () d):wpS (model prog w) A E s zI Q st:=by
 obtain⟨a,b,r,P,F,d0,sp⟩:=sp;have q:(j_ kf (arrOf st)).length=(arrOf st).size:=by unfold j_;rw[length_map,length_toList]
 have n2 : 2<=(arrOf st).size:=by rw[← q,P];simp
 have F:O.blt (KX kf (arrOf st) 0) (KX kf (arrOf st) 1)=true:=by rw[lW (i:=0) (by rw[P];rfl),lW (i:=1) (by rw[P];rfl)];exact F
 have d0:(arrOf st).size=2∨O.blt (KX kf (arrOf st) 2) (KX kf (arrOf st) 1)=true:=by
  cases r with
  |nil=>exact .inl (by rw[← q,P];rfl)
  |cons c r=>exact .inr (by rw[lW (i:=2) (by rw[P];rfl),lW (i:=1) (by rw[P];rfl)];exact d0 c rfl)
 rw[q] at sp;have S0:∀ lo m,Sg G kd lo m st st:=λlo m=>⟨hk,hg,Array.Perm.refl _,rfl,rfl,rfl,λ_ _=>rfl⟩;refine wpS_bind (wpS_get ?_);dsimp only;rcases sp with sp |⟨n64,R,b1,c1,r1,ek1,u1,d1,X,Y,lX,lY,pX,pY,sX,sY,xy,yx⟩
 ·refine wpS_bind (wpS_mono (wpS_forRange (I:=λx c d=>x=0/\c=(none,0)/\d=st∨0<x/\c=(none,(arrOf st).size)/\(arrOf d).Perm (arrOf st)/\failedOf d=none/\PB kf (arrOf d) 0 (arrOf st).size/\(pendingOf d).size<=1)
   (Q:=λc d=>c=(none,(arrOf st).size)/\(arrOf d).Perm (arrOf st)/\failedOf d=none/\PB kf (arrOf d) 0 (arrOf st).size/\(pendingOf d).size<=1) ?s1 ?f1 (.inl ⟨rfl,rfl,rfl⟩)) ?p1)
  case f1 =>
   rintro c d (⟨u,_⟩ |⟨_,v⟩)
   ·have u:max 0 (arrOf st).size=0:=u;omega
   exact v
  case p1 =>
   rintro c d ⟨rfl,R,a2,a3,a4⟩;dsimp only;refine wpS_bind (iA (show 0<(arrOf st).size by omega) ?_);refine wpS_bind (wpS_get ?_);rw[show (sortPriv% PySem.Builtin.SortState.pending) d=pendingOf d from rfl,if_pos a4];exact wpS_pure (wpS_pure (h d R a2 a3))
  case s1 =>
   rintro x c d _ hx (⟨rfl,rfl,rfl⟩ |⟨_,rfl,R,a2,a3,a4⟩)
   ·dsimp only;rw[if_neg (by omega)]
    refine wpS_bind (oI L hk hg (by show 0+((arrOf d).size-0)<=(arrOf d).size;omega) (by show 2<=(arrOf d).size-0;omega) (by simpa using F) (by
     rcases d0 with d0 |d0
     ·exact .inl (by show (arrOf d).size-0=2;omega)
     exact .inr (by simpa using d0)) ?_)
    dsimp only
    have U:cE (arrOf d).size (arrOf d).size 0=(arrOf d).size:=by
     cases hsz:(arrOf d).size with
     |zero=>omega
     |succ k=>exact if_pos (by omega)
    have done:∀ (e:SortSt) (n:Nat),n=(arrOf d).size->Sg G kd 0 (0+n) d e->PB kf (arrOf e) 0 (0+n)->∀ B,arrOf B=arrOf e->failedOf B=failedOf e->pendingOf B=(pendingOf e).push (0,n,0)->0<0+1/\((none:Option Unit),0+n)=(none,(arrOf d).size)/\(arrOf B).Perm (arrOf d)/\failedOf B=none/\PB kf (arrOf B) 0 (arrOf d).size/\(pendingOf B).size<=1:=λe n hn g ha B V e2 e3=>by refine⟨by omega,by rw[hn,zero_add],by rw[V];exact g.perm,by rw[e2,g.fail];exact hf,by rw[V,← hn];simpa using ha,by rw[e3,g.pend,S];exact le_refl _⟩
    by_cases v : 2<cE (arrOf d).size (arrOf d).size 0
    ·rw[if_pos v];refine wpS_bind (wpS_lift (wpAny_rule ⟨rfl,?_⟩));refine wpS_bind (i8 (n:=min ((arrOf d).size-0) (cE (arrOf d).size (arrOf d).size 0)) L (S0 0 _) (by rw[U];omega) (by rw[U];omega) (oy (by simpa using F)) λe f C=>?_);rw[if_neg (by decide)];refine wpS_bind (wpS_get ?_);have D:(pendingOf e).back?=none:=by rw[f.pend,S];rfl
     rw[show (sortPriv% PySem.Builtin.SortState.pending) e=pendingOf e from rfl,D];dsimp only;exact wpS_bind (wpS_modify (wpS_pure (.inr (done e _ (by rw[U];omega) f C _ rfl rfl rfl))))
    rw[if_neg v];refine wpS_bind (wpS_get ?_);have D:(pendingOf d).back?=none:=by rw[S];rfl
    rw[show (sortPriv% PySem.Builtin.SortState.pending) d=pendingOf d from rfl,D];dsimp only;exact wpS_bind (wpS_modify (wpS_pure (.inr (done d 2 (by rw[U] at v;omega) (S0 _ _) (oy (by simpa using F)) _ rfl rfl rfl))))
   dsimp only;rw[if_pos (le_refl _)];exact wpS_pure ⟨rfl,R,a2,a3,a4⟩
 have m64:cE (arrOf st).size (arrOf st).size 0=32:=by rw[n64];rfl
 refine wpS_bind (wpS_mono (wpS_forRange (I:=λx c d=>x=0/\c=(none,0)/\d=st∨x=1/\c=(none,32)/\SV G kd kf st d #[(0,32,0)]/\(arrOf d).toList.drop 32=(arrOf st).toList.drop 32∨2<=x/\c=(none,64)/\∃ t,SV G kd kf st d #[(0,32,t),(32,32,0)]/\((arrOf d).toList.drop 32).Perm ((arrOf st).toList.drop 32)/\((arrOf d).toList.drop 32).Pairwise (LZ O kf))
  (Q:=λc d=>c=(none,64)/\∃ t,SV G kd kf st d #[(0,32,t),(32,32,0)]/\((arrOf d).toList.drop 32).Perm ((arrOf st).toList.drop 32)/\((arrOf d).toList.drop 32).Pairwise (LZ O kf)) ?s1 ?f1 (.inl ⟨rfl,rfl,rfl⟩)) ?p1)
 case f1 =>
  rintro c d (⟨u,_⟩ |⟨u,_⟩ |⟨_,v⟩)
  ·have u:max 0 (arrOf st).size=0:=u;omega
  ·have u:max 0 (arrOf st).size=1:=u;omega
  exact v
 case s1 =>
  rintro x c d _ hx (⟨rfl,rfl,rfl⟩ |⟨rfl,rfl,H,hd⟩ |⟨v,rfl,t,H,hd⟩)
  ·dsimp only;rw[if_neg (by omega)];refine wpS_bind (oI L hk hg (by show 0+((arrOf d).size-0)<=(arrOf d).size;omega) (by show 2<=(arrOf d).size-0;omega) (by simpa using F) (.inr (by simpa using d0.resolve_left (by omega))) ?_);dsimp only;rw[if_pos (show 2<cE (arrOf d).size (arrOf d).size 0 by omega)];refine wpS_bind (wpS_lift (wpAny_rule ⟨rfl,?_⟩));refine wpS_bind (i8 (n:=min ((arrOf d).size-0) (cE (arrOf d).size (arrOf d).size 0)) L (S0 0 _) (by omega) (by omega) (oy (by simpa using F)) λe f C=>?_);rw[if_neg (by decide)];refine wpS_bind (wpS_get ?_);have D:(pendingOf e).back?=none:=by rw[f.pend,S];rfl
   rw[show (sortPriv% PySem.Builtin.SortState.pending) e=pendingOf e from rfl,D];dsimp only;have J:min ((arrOf d).size-0) (cE (arrOf d).size (arrOf d).size 0)=32:=by omega
   have ap:(pendingOf e).push (0,min ((arrOf d).size-0) (cE (arrOf d).size (arrOf d).size 0),0) = #[(0,32,0)]:=by rw[f.pend,S,J];rfl
   have ec:((none:Option Unit),0+min ((arrOf d).size-0) (cE (arrOf d).size (arrOf d).size 0))=(none,32):=by rw[J]
   rw[J] at f C;have Ul:=f.size;obtain⟨_,q2,K⟩:=uX f.perm (by omega) f.same;have T:=wA C (by omega);rw[drop_zero] at K T;rw[drop_zero] at K;exact wpS_bind (wpS_modify (wpS_pure (.inr (.inl ⟨rfl,ec,⟨f.kind,f.good,f.fail.trans hf,by show 2<=gallopOf e;rw[f.TC];exact Qa,f.perm,ap,K,T⟩,by simpa using q2⟩))))
  ·dsimp only;have sz':(arrOf d).size=(arrOf st).size:=H.perm.size_eq
   have k1:∀ {k:Nat}{z:O.α},(R::b1::c1::r1)[k]?=some z->KX kf (arrOf d) (32+k)=z:=λ{k z} hz=>by
    have V:(arrOf d).toList[32+k]?=(arrOf st).toList[32+k]?:=by rw[← getElem?_drop,← getElem?_drop,hd]
    rw[zu (ys:=arrOf st) (j:=32+k) (by simpa using V)];exact lW (by rw[← getElem?_drop,ek1];exact hz)
   have u':O.blt (KX kf (arrOf d) 32) (KX kf (arrOf d) (32+1))=true:=by have:=k1 (k:=0) rfl;rw[Nat.add_zero] at this;rw[this,k1 (k:=1) rfl];exact u1
   rw[if_neg (show ¬ 32≥(arrOf st).size by omega)];refine wpS_bind (oI L H.kind H.good (by show 32+((arrOf st).size-32)<=(arrOf d).size;omega) (by show 2<=(arrOf st).size-32;omega) u' (.inr (by rw[k1 (k:=2) rfl,k1 (k:=1) rfl];exact d1)) ?_);dsimp only;rw[if_pos (show 2<cE (arrOf st).size (arrOf st).size 0 by omega)];refine wpS_bind (wpS_lift (wpAny_rule ⟨rfl,?_⟩));refine wpS_bind (i8 (n:=min ((arrOf st).size-32) (cE (arrOf st).size (arrOf st).size 0)) (st0:=d) L ⟨H.kind,H.good,Array.Perm.refl _,rfl,rfl,rfl,λ_ _=>rfl⟩ (by omega) (by omega) (oy u') λe f C=>?_);rw[if_neg (by decide)];refine wpS_bind (wpS_get ?_);have J:min ((arrOf st).size-32) (cE (arrOf st).size (arrOf st).size 0)=32:=by omega
   have D:(pendingOf e).back?=some (0,32,0):=by rw[f.pend,H.pend];rfl
   rw[show (sortPriv% PySem.Builtin.SortState.pending) e=pendingOf e from rfl,D];dsimp only;refine wpS_bind (iA (show 0<(arrOf st).size by omega) ?_);refine wpS_bind (wpS_get ?_);rw[show (sortPriv% PySem.Builtin.SortState.pending) e=pendingOf e from rfl,if_neg (show ¬ (pendingOf e).size > 1 by rw[f.pend,H.pend];decide)];refine wpS_pure ?_;dsimp only;have ap:∀ t,((pendingOf e).modify ((pendingOf e).size-1) λx=>(x.1,x.2.1,t)).push (32,min ((arrOf st).size-32) (cE (arrOf st).size (arrOf st).size 0),0) = #[(0,32,t),(32,32,0)]:=λt=>by rw[f.pend,H.pend,J];rfl
   have ec:((none:Option Unit),32+min ((arrOf st).size-32) (cE (arrOf st).size (arrOf st).size 0))=(none,64):=by rw[J]
   rw[J] at f C;have Ul:=f.size;obtain⟨q1,_,K⟩:=uX f.perm (by omega) f.same;have T:=wA C (by omega);have full:∀ W:Array Keyed,W.size=64->(W.toList.drop 32).take 32=W.toList.drop 32:=λW hz=>take_of_length_le (by rw[length_drop,length_toList];omega);rw[full _ (by omega),full _ (by omega),hd] at K;rw[full _ (by omega)] at T;exact wpS_bind (wpS_modify (wpS_bind (wpS_modify (wpS_pure (.inr (.inr ⟨by omega,ec,_,⟨f.kind,f.good,f.fail.trans H.fail,by show 2<=gallopOf e;rw[f.TC];exact H.TC,f.perm.trans H.perm,ap _,by rw[show (arrOf e).toList.take 32=(arrOf d).toList.take 32 from q1];exact H.tk,by rw[show (arrOf e).toList.take 32=(arrOf d).toList.take 32 from q1];exact H.ts⟩,K,T⟩))))))
  dsimp only;rw[if_pos (show 64≥(arrOf st).size by omega)];exact wpS_pure ⟨rfl,t,H,hd⟩
 case p1 =>
  rintro c d ⟨rfl,t,H,hd,Rw⟩;dsimp only;have sz':(arrOf d).size=(arrOf st).size:=H.perm.size_eq
  have Yt:∀ {M N:List Keyed}{Z:List O.α},M.Perm N->(N.map λp=>kf p.1).Perm Z->M.Pairwise (LZ O kf)->Z.Pairwise O.kle->M.map (λp=>kf p.1)=Z:=λ{M N Z} p1 p2 s1 s2 =>
   List.Perm.eq_of_pairwise (λ_ _ _ _=>B_) (pairwise_map.mpr s1) s2 ((p1.map _).trans p2)
  have hX:=Yt H.tk (by unfold j_ at pX;rw[← map_take] at pX;exact pX) H.ts sX;have hY:=Yt hd (by unfold j_ at pY;rw[← map_drop] at pY;exact pY) Rw sY;have l1:((arrOf d).toList.take 32).length=32:=by rw[length_take,length_toList];omega
  have l2:((arrOf d).toList.drop 32).length=32:=by rw[length_drop,length_toList];omega
  have gX:∀ i (m:i<32),kf (((arrOf d).toList.take 32)[i]'(by omega)).1=X[i]'(by omega):=λi m=>by simp only[← hX,List.getElem_map]
  have gY:∀ i (m:i<32),kf (((arrOf d).toList.drop 32)[i]'(by omega)).1=Y[i]'(by omega):=λi m=>by simp only[← hY,List.getElem_map]
  have xy':∀ i (m:i<32),O.blt (X[i]'(by omega)) (Y[i]'(by omega))=true:=λi m=>by have:=xy _ (getElem_mem (l:=X.zip Y) (n:=i) (by rw[List.length_zip];omega));rw[List.getElem_zip] at this;exact this
  have yx':∀ i (m:i+1<32),O.blt (Y[i]'(by omega)) (X[i+1]'(by omega))=true:=λi m=>by have:=yx _ (getElem_mem (l:=Y.zip X.tail) (n:=i) (by rw[List.length_zip,List.length_tail];omega));rw[List.getElem_zip,List.getElem_tail] at this;exact this
  refine wpS_bind (wpS_mono (wpS_forRange (I:=λy c o=>y=0/\c=(none,())/\o=d∨0<y/\c=(none,())/\failedOf o=none/\(pendingOf o).size=1/\Res O kf (arrOf d).toList (arrOf o).toList)
   (Q:=λc o=>c=(none,())/\failedOf o=none/\(pendingOf o).size=1/\Res O kf (arrOf d).toList (arrOf o).toList) ?s2 ?f2 (.inl ⟨rfl,rfl,rfl⟩)) ?p2)
  case f2 =>
   rintro c o (⟨u,_⟩ |⟨_,v⟩)
   ·have u:max 0 (arrOf st).size=0:=u;omega
   exact v
  case p2 =>
   rintro c o ⟨rfl,f2,_,r2⟩;refine wpS_pure (h o ((perm_iff_toList_perm.mpr r2.1).trans H.perm) f2 λi j _ P7 hj=>?_);have sz2:(arrOf o).size=(arrOf d).size:=by have:=r2.1.length_eq;simpa using this
   rw[nT (by omega),nT (by omega)];rcases lt_or_ge i j with Lc |Uu
   ·have:=pairwise_iff_getElem.mp r2.2 i j (by rw[length_toList];omega) (by rw[length_toList];omega) Lc;simpa [LZ] using this
   obtain rfl:i=j:=by omega
   exact KeyOrd.kle_refl _
  case s2 =>
   rintro y c o _ hy (⟨rfl,rfl,rfl⟩ |⟨_,rfl,z⟩)
   ·refine wpS_bind (wpS_get ?_);rw[show (sortPriv% PySem.Builtin.SortState.pending) o=pendingOf o from rfl,H.pend,if_neg (show ¬ (#[(0,32,t),(32,32,0)]:Array (Nat×Nat×Nat)).size<=1 by show ¬ 2<=1;decide)];refine wpS_bind (uM L H.kind H.good H.fail H.TC H.pend (take_append_drop 32 _).symm l1 l2 H.ts Rw (λi m=>by rw[gX i m,gY i m];exact xy' i m) (λi m=>by rw[gX (i+1) m,gY i (by omega)];exact yx' i m) λe f3 p3 r3=>?_);rw[take_append_drop] at r3;exact wpS_pure (.inr ⟨by omega,rfl,f3,p3,r3⟩)
   refine wpS_bind (wpS_get ?_);rw[show (sortPriv% PySem.Builtin.SortState.pending) o=pendingOf o from rfl,if_pos (Nat.le_of_eq z.2.1)];exact wpS_pure ⟨rfl,z⟩
end
def ye (prog:Program)(w:World)(e:Shared)(vs:List Value)(O:KeyOrd)(kf:Value->O.α):Prop:=∃ d:SortKind,∀ (A:Around) (E:JL) (a:Shared),(∀ b o,e.heap.get? b=some o->a.heap.get? b=some o) ->
 (2<=vs.length->∀ c:SortKind->Shared->Prop,c d a->wpAny (model prog w) A (keyKind' vs.toArray) c E a)/\wI prog w A E a d O kf (λp=>p.1∈vs)
theorem iV:∀ {vs:List Value}{p:Value×Value},p∈vs.zip vs->p.1=p.2/\p.1∈vs
 |[],_,h=>by simp at h
 |v::vs,p,h=>by
  rw[List.zip_cons_cons] at h;rcases mem_cons.mp h with e |h
  ·subst e;exact⟨rfl,by simp⟩
  obtain⟨a,b⟩:=iV h;exact⟨a,mem_cons_of_mem _ b⟩
theorem sy:∀ (vs:List Value),(vs.zip vs).map (·.2)=vs
 |[]=>rfl
 |v::vs=>by rw[List.zip_cons_cons,map_cons,sy vs]
section
variable {prog:Program}{w:World}{A:Around}{E:JL}{s:Shared}{O:KeyOrd}{kf:Value->O.α}
theorem DR {vs:List Value}{c:Array Keyed}(f:c.Perm (pairsOf vs))(h:PB kf c 0 (pairsOf vs).size):(c.map (·.2)).toList.Perm vs/\(c.map (·.2)).toList.Pairwise λa b=>O.kle (kf a) (kf b):=by
 have d:=perm_iff_toList_perm.mp f;rw[pairsOf_toList] at d;refine⟨?_,?_⟩
 ·have:=d.map (·.2);rw[sy] at this;rw[Array.toList_map];exact this
 rw[Array.toList_map,pairwise_map,pairwise_iff_getElem];intro i j m n o;have g:i<c.size:=by simpa using m
 have e:j<c.size:=by simpa using n
 have q:=h i j (zero_le _) (Nat.le_of_lt o) (by rw[← f.size_eq];exact e);rw[nT g,nT e] at q;have k:=(iV (d.mem_iff.mp (getElem_mem_toList g))).1;have l:=(iV (d.mem_iff.mp (getElem_mem_toList e))).1;rw[k,l] at q;simpa using q
theorem vH {a:Addr}{vs:List Value}{n:Nat}{P:Fin->Shared->Prop}{k:Shared}(i:s.heap.get? a=some (seqObj "list" vs.toArray n))(K:vs.length<=sizeLine)(j:ye prog w k vs O kf)(sp:Spec O.blt (vs.map kf))(y:∀ b o,k.heap.get? b=some o->b≠a/\s.heap.get? b=some o)
  (h:∀ out:Array Value,out.toList.Perm vs->(out.toList.Pairwise λa b=>O.kle (kf a) (kf b))->P (.done (.ret .none)) { s with heap:=sortedHeap s.heap a vs out }) :
  wpAny (model prog w) A (Builtin.«list.sort» ⟨[.ref a],[]⟩) P E s:=by
 have R:a<s.heap.objs.size:=Heap.lt_size i;have z:vs.toArray.size<=sizeLine:=by simpa using K
 rw[list_sort_plain];refine wpAny_bind (listItems_at i rfl ?_);refine wpAny_bind (listUpdate_at i rfl ?_ (hsz:=z));have l:=get?_update_seq i (λ_ => #[]);refine wpAny_bind (seqEpoch_at l rfl ?_);refine wpAny_bind (wpAny_newTuple ?_);refine wpAny_bind (wpAny_newList ?_);refine wpAny_holding ?_;generalize M:(if (#[]:Array Value).size==vs.toArray.size then n else n+1)=e1 at l;have t:∀ b o,k.heap.get? b=some o->(((s.heap.update a (Obj.mapSeq λ_ => #[])).push (seqObj "tuple" vs.toArray 0)).push (seqObj "list" #[] 0)).get? b=some o:=by intro b o H;obtain⟨C,m⟩:=y b o H;refine Heap.get?_push_of_some _ (Heap.get?_push_of_some _ ?_);rw[Heap.get?_update_ne _ _ _ _ C];exact m
 have v:(((s.heap.update a (Obj.mapSeq λ_ => #[])).push (seqObj "tuple" vs.toArray 0)).push (seqObj "list" #[] 0)).get? a=some (seqObj "list" #[] e1):=Heap.get?_push_of_some _ (Heap.get?_push_of_some _ l);show wpAny (model prog w) A _ P E { s with heap:=((s.heap.update a (Obj.mapSeq λ_ => #[])).push (seqObj "tuple" vs.toArray 0)).push (seqObj "list" #[] 0) };dsimp only;have J : 2<=vs.length:=by obtain⟨a,b,r,e,_⟩:=sp;have:=congrArg List.length e;rw[length_map] at this;rw[this];simp
 have q:¬ vs.toArray.size<2:=by simp;omega
 rw[if_neg q,if_neg q];obtain⟨kd,j⟩:=j;refine wpAny_bind ((j A _ _ t).1 J _ ?_)
 refine wpAny_bind (wpAny_mono (ql (O:=O) (kf:=kf) (kd:=kd) (st:=SortSt.mk' kd (vs.toArray.zip vs.toArray) #[] 7 none) (Q:=λ_ c=>(arrOf c).Perm (pairsOf vs)/\failedOf c=none/\PB kf (arrOf c) 0 (pairsOf vs).size)
  (j A _ _ t).2 rfl (λx F=>?_) rfl rfl (show 2<=7 by decide) ?_ λc L D B=>⟨L,D,B⟩) ?_ λ_ _ e=>e)
 ·have u:x∈(pairsOf vs).toList:=F;rw[pairsOf_toList] at u;exact(iV u).2
 ·have:j_ kf (pairsOf vs)=vs.map kf:=by
   unfold j_;rw[pairsOf_toList];exact(map_congr_left λp d=>by rw[(iV d).1];rfl).trans ((map_map (g:=kf) (f:=λp:Value×Value=>p.2)).symm.trans (by rw[sy]))
  show Spec O.blt (j_ kf (pairsOf vs));rw[this];exact sp
 rintro⟨⟨⟩,c⟩ N ⟨rfl,d,G,I⟩;dsimp only;obtain⟨o1,o2⟩:=DR d I;refine wpAny_bind (seqEpoch_at v rfl ?_);refine wpAny_bind (listUpdate_at v rfl ?_ (hsz2:=by refine Nat.le_trans (Nat.le_of_eq ((Array.size_map ..).trans (d.size_eq.trans (pairsOf_size _)))) ?_;omega));rw[G];simp only[bne_self_eq_false,false_eq_true,if_false];exact wpAny_pure (h _ o1 o2)
theorem Dn {x:Value}{Q:JL}
  (h:wpAny (model prog w) A.in1 (collect x) (λvs c=>vs.length<=sizeLine/\∃ (O:KeyOrd) (kf:Value->O.α),ye prog w c vs O kf/\Spec O.blt (vs.map kf) /\
   ∀ (out:Array Value) h' ep,out.toList.Perm vs->(out.toList.Pairwise λa b=>O.kle (kf a) (kf b))->(∀ b o,c.heap.get? b=some o->h'.get? b=some o)->h'.get? c.heap.objs.size=some (seqObj "list" out ep) ->
    Q (.ref c.heap.objs.size) { c with heap:=h' }) E s):wpAny (model prog w) A (call (.builtin "sorted") [x]) Q E s:=by
 refine Calls.call_function_entry kind_sorted plain_sorted entry_sorted (args_sorted1 _) ?_;unfold Builtin.«sorted»;refine wpAny_bind (m:=checkCount "sorted" 1 1 _) (wpAny_pure ?_);refine wpAny_bind (wpAny_mono h (λvs c f=>?_) λ_ _ z=>z);obtain⟨k,O,kf,j,i,q⟩:=f;refine wpAny_bind (wpAny_newList ?_);have d:(c.heap.push (seqObj "list" vs.toArray 0)).get? c.heap.objs.size=some (seqObj "list" vs.toArray 0):=Heap.get?_push_size _ rfl;refine wpAny_bind (wpAny_holding (wpAny_call_entry slot_list_sort ⟨_,d,rfl⟩ entry_list_sort (vH d k j i (λb o e=>⟨ne_of_lt (Heap.lt_size e),Heap.get?_push_of_some _ e⟩) λout n g=>⟨_,rfl,?_⟩) (args_list_sort _)));obtain⟨ep,l⟩:=sortedHeap_at (out:=out) d
 exact wpAny_pure ⟨_,rfl,q out _ ep n g (λb o e=>by
  rw[sortedHeap_old (ne_of_lt (Heap.lt_size e)) (by rw[size_push'];exact lt_succ_of_lt (Heap.lt_size e))]
  exact Heap.get?_push_of_some _ e) l⟩
end
structure S8 where
 O:KeyOrd
 keyOf:Value->Option O.α
 dflt:O.α
 ty:String
 nt:(Value.type ty != Value.type "tuple")=true
 typ:∀ v a,keyOf v=some a->typeOf v=pure (.type ty)
 fst:∀ v a,keyOf v=some a->firstOfTuple' v=pure none
 eqB:∀ {prog:Program}{w:World}{A:Around}{E:JL}{s:Shared}{x y:Value}{a b:O.α}{Q:Bool->Shared->Prop},keyOf x=some a->keyOf y=some b->Q (!O.blt a b&&!O.blt b a) s->wpAny (model prog w) A (eqBool x y) Q E s
 lt:∀ {prog:Program}{w:World}{A:Around}{E:JL}{s:Shared}{x y:Value}{a b:O.α}{Q:Bool->Shared->Prop}(o:Bool),keyOf x=some a->keyOf y=some b->Q (O.blt a b) s->wpAny (model prog w) A (oneLt' o x y) Q E s
def LM:KeyOrd where
 α:=Int
 blt a b:=decide (a<b)
 irrefl a:=by simp
 trans a b c h1 h2:=by simp only[decide_eq_true_eq] at *;omega
 negTrans a b c h:=by simp only[decide_eq_true_eq] at *;omega
 total a b h1 h2:=by simp only[decide_eq_false_iff_not] at *;omega
theorem Ef (i j:Int):(i==j)=(!decide (i<j)&&!decide (j<i)):=by
 by_cases a:i=j
 ·subst a;simp
 have:i<j∨j<i:=by omega
 rcases this with h1 |h1<;>simp[a,h1]
def Hl (v:Value):Option Int:=match v with | .int i _=>some i |_=>none
theorem jR {v:Value}{i:Int}(h:Hl v=some i):∃ t,v = .int i t:=by
 cases v<;>first |(cases h;done) |skip
 cases h;exact⟨_,rfl⟩
def M8:S8 where
 O:=LM
 keyOf:=Hl
 dflt:=(0:Int)
 ty:="int"
 nt:=by decide
 typ v a h:=by obtain⟨t,rfl⟩:=jR h;rfl
 fst v a h:=by obtain⟨t,rfl⟩:=jR h;rfl
 eqB {prog w A E s x y a b Q} ha hb h:=by
  obtain⟨t,rfl⟩:=jR ha;obtain⟨u,rfl⟩:=jR hb;exact wpAny_eqBool_int (Eq.mpr (congrArg (λz=>Q z s) (Ef a b)) h)
 lt {prog w A E s x y a b Q} o ha hb h:=by
  obtain⟨t,rfl⟩:=jR ha;obtain⟨u,rfl⟩:=jR hb;cases o with
  |true=>exact oneLt_int h
  |false =>
   rw[oneLt'_eq];simp only[false_eq_true,if_false];exact wpAny_bind (show wpAny _ _ (compareOp .Lt (.int _ t) (.int _ u)) _ _ _ from PyProof.Rows.lt_int (wpAny_truthy_bool h))
def dM (O:KeyOrd):List O.α->List O.α->Bool
 |[],[]=>false
 |[],_::_=>true
 |_::_,[]=>false
 |a::as,b::bs=>if (!O.blt a b&&!O.blt b a)=true then dM O as bs else O.blt a b
theorem rL {O:KeyOrd}{a b:O.α}(h:(!O.blt a b&&!O.blt b a)=true):a=b:=by rw[and_eq_true] at h;exact O.total _ _ (by simpa using h.1) (by simpa using h.2)
theorem vt {O:KeyOrd}(a:O.α):(!O.blt a a&&!O.blt a a)=true:=by rw[O.irrefl];rfl
theorem dj {O:KeyOrd}(a:O.α)(as bs:List O.α):dM O (a::as) (a::bs)=dM O as bs:=by rw[dM,if_pos (vt a)]
theorem cj {O:KeyOrd}{a b:O.α}(as bs:List O.α)(h:a≠b):dM O (a::as) (b::bs)=O.blt a b:=by rw[dM,if_neg (λz=>h (rL z))]
theorem Aa {O:KeyOrd}{a b:O.α}(h:O.blt a b=true):a≠b:=λz=>by subst z;rw[O.irrefl] at h;cases h
def vI (O:KeyOrd):KeyOrd where
 α:=List O.α
 blt:=dM O
 irrefl a:=by
  induction a with
  |nil=>rfl
  |cons x a j=>rw[dj];exact j
 trans a:=by
  induction a with
  |nil =>
   intro b c f d;cases b with
   |nil=>cases f
   |cons y b=>cases c with
    |nil=>cases d
    |cons z c=>rfl
  |cons x a j =>
   intro b c f d;cases b with
   |nil=>cases f
   |cons y b=>cases c with
    |nil=>cases d
    |cons z c =>
     by_cases i:x=y
     ·subst i;rw[dj] at f;by_cases g:x=z
      ·subst g;rw[dj] at d ⊢;exact j b c f d
      rw[cj _ _ g] at d ⊢;exact d
     rw[cj _ _ i] at f;by_cases g:y=z
     ·subst g;rw[cj _ _ i];exact f
     rw[cj _ _ g] at d;have l:=O.trans _ _ _ f d;rw[cj _ _ (Aa l)];exact l
 negTrans a:=by
  induction a with
  |nil =>
   intro b c h;cases c with
   |nil=>cases h
   |cons z c=>cases b with
    |nil=>exact .inr rfl
    |cons y b=>exact .inl rfl
  |cons x a j =>
   intro b c h;cases c with
   |nil=>cases h
   |cons z c=>cases b with
    |nil=>exact .inr rfl
    |cons y b =>
     by_cases i:x=z
     ·subst i;rw[dj] at h;by_cases g:x=y
      ·subst g;rw[dj,dj];exact j b c h
      rw[cj _ _ g,cj _ _ (Ne.symm g)];cases f:O.blt x y with
      |true=>exact .inl rfl
      |false=>cases d:O.blt y x with
       |true=>exact .inr rfl
       |false=>exact absurd (O.total _ _ f d) g
     rw[cj _ _ i] at h;by_cases g:x=y
     ·subst g;rw[cj _ _ i];exact .inr h
     by_cases k:y=z
     ·subst k;rw[cj _ _ g];exact .inl h
     rw[cj _ _ g,cj _ _ k];exact O.negTrans _ _ _ h
 total a:=by
  induction a with
  |nil =>
   intro b f d;cases b with
   |nil=>rfl
   |cons y b=>cases f
  |cons x a j =>
   intro b f d;cases b with
   |nil=>cases d
   |cons y b =>
    by_cases e:x=y
    ·subst e;rw[dj] at f d;rw[j b f d]
    rw[cj _ _ e] at f;rw[cj _ _ (Ne.symm e)] at d;exact absurd (O.total _ _ f d) e
inductive KeysAre (κ:S8):List Value->List κ.O.α->Prop
 |nil:KeysAre κ [] []
 |cons {v:Value}{a : κ.O.α}{vs:List Value}{as:List κ.O.α} : κ.keyOf v=some a->KeysAre κ vs as->KeysAre κ (v::vs) (a::as)
def Nw (b:S8)(h:Heap)(v:Value)(as:List b.O.α):Prop:=∃ a o its n,v = .ref a/\h.get? a=some o/\o.cls = .type "tuple"/\o.data = .seq its n/\KeysAre b its.toList as
theorem Nw.keeps {c:S8}{h h':Heap}{v:Value}{as:List c.O.α}(t:Nw c h v as)(k:∀ b o,h.get? b=some o->h'.get? b=some o):Nw c h' v as:=by obtain⟨a,o,its,n,e,d,f,hd,g⟩:=t;exact⟨a,o,its,n,e,k _ _ d,f,hd,g⟩
section
variable {prog:Program}{w:World}{A:Around}{E:JL}{s:Shared}{κ:S8}
theorem sD {f:Bool}{x y:Value}{as bs:List κ.O.α}{Q:Bool->Shared->Prop}(S:Nw κ s.heap x as)(L:Nw κ s.heap y bs)(q:Q (dM κ.O as bs) s):wpAny (model prog w) A (keyLt' (tuples' f) x y) Q E s:=by
 obtain⟨a,o,C,n,rfl,N,hc,hd,V⟩:=S;obtain⟨b,o2,H,n2,rfl,R,OQ,I,F⟩:=L;refine wpAny_bind (listItems_at N hd ?_);refine wpAny_bind (listItems_at R I ?_);refine wpAny_bind ?_;refine wpAny_forIn_list _ (λrest r B=>r.1=none/\B=s/\∃ k j h l p,rest=(List.zip j h).zipIdx k/\KeysAre κ j l/\KeysAre κ h p/\dM κ.O l p=dM κ.O as bs/\decide (j.length<h.length)=decide (C.size<H.size)) _ ?_ ?_ _ _ ⟨rfl,rfl,0,C.toList,H.toList,as,bs,rfl,V,F,rfl,by simp⟩
 ·rintro⟨⟨u,v⟩,i⟩ rest r B ⟨G,rfl,k,j,h,l,p,d,D,z,g,c⟩;cases D with
  |nil=>simp at d
  | @cons u' t W M J T =>
   cases z with
   |nil=>simp at d
   | @cons v' m X U K Y =>
    rw[List.zip_cons_cons,zipIdx_cons] at d;simp only[List.cons.injEq,Prod.mk.injEq] at d;obtain⟨⟨⟨rfl,rfl⟩,rfl⟩,rfl⟩:=d;refine wpAny_bind (κ.eqB J K ?_);by_cases e:t=m
    ·subst e;rw[vt];simp only[Bool.not_true,false_eq_true,if_false];rw[dj] at g;exact wpAny_pure ⟨rfl,rfl,i+1,W,X,M,U,rfl,T,Y,g,by rw[← c];simp⟩
    have P:(!κ.O.blt t m&&!κ.O.blt m t)=false:=by
     cases hb:(!κ.O.blt t m&&!κ.O.blt m t) with
     |false=>rfl
     |true=>exact absurd (rL hb) e
    rw[P];simp only[Bool.not_false,if_true];rw[cj _ _ e] at g;refine wpAny_bind (κ.lt _ J K ?_);rw[g];exact wpAny_pure (wpAny_pure q)
 rintro⟨r1,Z⟩ B ⟨G,rfl,k,j,h,l,p,d,D,z,g,c⟩;simp only at G;subst G;refine wpAny_pure ?_;show Q (decide (C.size<H.size)) B;rw[← c]
 have e:decide (j.length<h.length)=dM κ.O l p:=by
  cases D with
  |nil=>cases z with
   |nil=>rfl
   |cons _ _=>simp[dM]
  |cons _ _=>cases z with
   |nil=>simp[dM]
   |cons _ _=>simp at d
 rw[e,g];exact q
theorem B1:∀ {vs:List Value}{as:List κ.O.α},KeysAre κ vs as->vs.mapM firstOfTuple'=pure (vs.map λ_=>none)
 |_,_,.nil=>by simp
 |_,_,.cons h r=>by rw[mapM_cons,κ.fst _ _ h,B1 r];simp
theorem vF:∀ {vs:List Value}{as:List κ.O.α},KeysAre κ vs as->vs.mapM typeOf=pure (vs.map λ_=>Value.type κ.ty)
 |_,_,.nil=>by simp
 |_,_,.cons h r=>by rw[mapM_cons,κ.typ _ _ h,vF r];simp
theorem Hd {vs:List Value}{as:List κ.O.α}(h:KeysAre κ vs as)(c : 0<vs.length):oneTypeOnly' vs.toArray=pure (some (.type κ.ty)):=by
 rw[oneTypeOnly'_eq,List.mapM_toArray,vF h];simp only[map_pure,pure_bind];have b:((List.map (λ_=>Value.type κ.ty) vs).toArray.all λx=>x==Value.type κ.ty)=true:=by simp only[List.all_toArray,List.all_map,all_eq_true];intro _ _;simp
 have a:(List.map (λ_=>Value.type κ.ty) vs).toArray[0]?=some (Value.type κ.ty):=by
  cases vs with
  |nil=>simp at c
  |cons v vs=>simp
 rw[a];simp only[b,if_true]
inductive KA (κ:S8) (h:Heap):List Value->List (List κ.O.α)->Prop
 |nil:KA κ h [] []
 |cons {v:Value}{a : κ.O.α}{as:List κ.O.α}{vs:List Value}{PD:List (List κ.O.α)}:Nw κ h v (a::as)->KA κ h vs PD->KA κ h (v::vs) ((a::as)::PD)
theorem KA.keeps {h h':Heap}{vs:List Value}{a:List (List κ.O.α)}(t:KA κ h vs a)(k:∀ b o,h.get? b=some o->h'.get? b=some o):KA κ h' vs a:=by
 induction t with
 |nil=>exact .nil
 |cons q _ c=>exact .cons (q.keeps k) c
theorem KA.mem {h:Heap}{vs:List Value}{a:List (List κ.O.α)}(t:KA κ h vs a){v:Value}(hv:v∈vs):∃ as,Nw κ h v as:=by
 induction t with
 |nil=>simp at hv
 |cons q _ b =>
  rcases mem_cons.mp hv with e |hv
  ·subst e;exact⟨_,q⟩
  exact b hv
theorem Au {v:Value}{a : κ.O.α}{as:List κ.O.α}{Q:Option Value->Shared->Prop}(t:Nw κ s.heap v (a::as))(q:∀ u,κ.keyOf u=some a->Q (some u) s):wpAny (model prog w) A (firstOfTuple' v) Q E s:=by
 obtain⟨b,o,its,n,rfl,c,f,hd,d⟩:=t;generalize g:its.toList=l at d;cases d with
 | @cons u _ h _ k r =>
  refine wpAny_bind (wpAny_typeOf ⟨o,c,f⟩ ?_);rw[if_neg (by decide)];refine wpAny_bind (listItems_at c hd (wpAny_pure ?_));have e:its[0]?=some u:=by rw[← getElem?_toList,g];rfl
  rw[e];exact q u k
theorem Ag {vs:List Value}{a:List (List κ.O.α)}(t:KA κ s.heap vs a):∀ {Q:List (Option Value)->Shared->Prop},(∀ us as,KeysAre κ us as->us.length=vs.length->Q (us.map some) s)->wpAny (model prog w) A (vs.mapM firstOfTuple') Q E s:=by
 induction t with
 |nil=>intro Q q;exact wpAny_pure (q [] [] .nil rfl)
 |cons h _ d =>
  intro Q q;rw[mapM_cons];refine wpAny_bind (Au h λu e=>wpAny_bind (d λus as c b=>wpAny_pure ?_));exact q (u::us) (_::as) (.cons e c) (by simp[b])
theorem filterMap_some:∀ (us:List Value),((us.map some).toArray.filterMap id)=us.toArray:=by
 intro us;rw[List.filterMap_toArray];congr 1
 induction us with
 |nil=>rfl
 |cons u us a=>simp[a]
theorem Ak {vs:List Value}{b:List (List κ.O.α)}(t:KA κ s.heap vs b)(d : 0<vs.length){Q:SortKind->Shared->Prop}(q:Q (tuples' true) s):wpAny (model prog w) A (keyKind' vs.toArray) Q E s:=by
 rw[keyKind'_eq,List.mapM_toArray];refine wpAny_bind (wpAny_bind (Ag t λa g c f=>wpAny_pure ?_));have e:((a.map some).toArray.all λx=>x.isSome)=true:=by simp
 show wpAny _ _ (if ((a.map some).toArray.all λx=>x.isSome)=true then _ else _) _ _ _;rw[if_pos e];refine wpAny_bind (wpAny_rule ?_);rw[filterMap_some,Hd c (by omega)];refine wpAny_bind (wpAny_pure (wpAny_pure ?_));show Q (tuples' (Value.type κ.ty != Value.type "tuple")) s;rw[κ.nt];exact q
def TF (κ:S8)(h:Heap)(v:Value):List κ.O.α:=match v with
 | .ref a=>(match h.get? a with
  |some o=>(match o.data with
   | .seq its _=>its.toList.map λu=>(κ.keyOf u).getD κ.dflt
   |_=>[])
  |none=>[])
 |_=>[]
theorem KeysAre.Ro {vs:List Value}{as:List κ.O.α}(h:KeysAre κ vs as):vs.map (λu=>(κ.keyOf u).getD κ.dflt)=as:=by
 induction h with
 |nil=>rfl
 |cons k _ a=>rw[map_cons,k,a];rfl
theorem xH {h:Heap}{v:Value}{as:List κ.O.α}(t:Nw κ h v as):TF κ h v=as:=by obtain⟨b,o,its,n,rfl,a,d,hd,c⟩:=t;unfold TF;dsimp only;rw[a];dsimp only;rw[hd];exact c.Ro
theorem uU {a:Shared}{vs:List Value}{g:List (List κ.O.α)}(t:KA κ a.heap vs g):ye prog w a vs (vI κ.O) (TF κ a.heap):=by refine⟨tuples' true,λA E i k=>⟨λj h q=>Ak (t.keeps k) (by omega) q,λx y d f st Q e q=>?_⟩⟩;obtain⟨l,c⟩:=t.mem d;obtain⟨bs,b⟩:=t.mem f;rw[xH c,xH b] at q;rw[lt'_eq];refine wpS_bind (wpS_get ?_);rw[e];exact wpS_bind (wpS_lift (wpAny_attempt (sD (c.keeps k) (b.keeps k) ⟨rfl,wpS_pure q⟩)))
end
end L2
namespace L2
open PySem PySem.Spec PyProof.Rows PySem.W
section
variable {X:Cx}{W:WT}
def tupI:D->Option (List Int)
 | .tup a=>match cw a with
  |some (n::ns)=>some (n::ns)
  |_=>none
 |_=>none
def wE {α:Type}(f:D->Option α):List D->Option (List α)
 |[]=>some []
 |d::r=>(f d).bind λa=>(wE f r).map (a::·)
def pB {α:Type}(lt : α->α->Bool):List α->List α->Bool
 |[],[]=>false
 |[],_::_=>true
 |_::_,[]=>false
 |a::as,b::bs=>if (!lt a b&&!lt b a)=true then pB lt as bs else lt a b
def xD (a b:List Int):Bool:=!pB (λx y=>decide (x<y)) b a
noncomputable def sO:List D->Option D
 |[.lst xs]=>(wE tupI xs).bind λa => @ite _ (xs.length<=sizeLine/\Spec (pB λ(x y:Int)=>decide (x<y)) a) (Classical.propDecidable _) (some (.lst ((a.mergeSort xD).map λns => .tup (ns.map .int)))) none
 |_=>none
theorem tJ (O:PyProof.Rows.KeyOrd):∀ as bs:List O.α,dM O as bs=pB O.blt as bs
 |[],[]=>rfl
 |[],_::_=>rfl
 |_::_,[]=>rfl
 |a::as,b::bs=>by rw[dM,pB,tJ O as bs]
theorem zW {K:JK}{H:Hp}{J:List Addr}{out us:List Value}(p:out.Perm us):∀ {vs:List V}{ds:List D},Vals vs us->JW K H J ds vs->∃ f e,Vals f out/\JW K H J e f/\e.Perm ds:=by
 induction p with
 |nil=>intro vs ds r m;exact⟨vs,ds,r,m,.refl _⟩
 |cons x p B =>
  intro vs ds r m;cases r with
  | @cons v _ t _ j g =>
   cases ds with
   |nil=>cases JW.JY.mp m
   |cons d ds =>
    obtain⟨m1,m2⟩:=m.JZ;obtain⟨f,e,a,b,c⟩:=B g m2;exact⟨v::f,d::e,.cons j a,.cons m1 b,.cons d c⟩
 |swap x y l =>
  intro vs ds r m;cases r with
  | @cons v _ t _ j g=>cases g with
   | @cons E _ i _ C z =>
    cases ds with
    |nil=>cases JW.JY.mp m
    |cons d ds=>cases ds with
     |nil=>obtain⟨_,m2⟩:=m.JZ;cases JW.JY.mp m2
     |cons k ds =>
      obtain⟨m1,m2⟩:=m.JZ;obtain⟨F,n⟩:=m2.JZ;exact⟨E::v::i,k::d::ds,.cons C (.cons j z),.cons F (.cons m1 n),.swap d k ds⟩
 |trans _ _ w s =>
  intro vs ds r m;obtain⟨G,o,a,b,c⟩:=s r m;obtain⟨h,I,q,A,u⟩:=w a b;exact⟨h,I,q,A,u.trans c⟩
theorem wC {α:Type}{f:D->Option α}{g : α->D}(b:∀ d a,f d=some a->d=g a):∀ {ds:List D}{as:List α},wE f ds=some as->ds=as.map g
 |[],as,h=>by cases h;rfl
 |d::ds,as,h=>by
  obtain⟨a,c,e⟩:=bind_eq_some_iff.mp (show (f d).bind _=some as from h);obtain⟨r,i,j⟩:=map_eq_some_iff.mp e;subst j;rw[map_cons,b d a c,wC b i]
theorem wD {α:Type}{f:D->Option α}:∀ {ds:List D}{as:List α},wE f ds=some as->∀ a∈as,∃ d,f d=some a
 |[],as,h,a,ha=>by cases h;simp at ha
 |d::ds,as,h,a,ha=>by
  obtain⟨b,c,g⟩:=bind_eq_some_iff.mp (show (f d).bind _=some as from h);obtain⟨r,i,j⟩:=map_eq_some_iff.mp g;subst j;rcases mem_cons.mp ha with e |ha
  ·subst e;exact⟨d,c⟩
  exact wD i a ha
theorem yn {d:D}{ns:List Int}(h:tupI d=some ns):d = .tup (ns.map .int)/\ns≠[]:=by
 unfold tupI at h;split at h
 ·split at h
  ·rename_i e;cases h;rw[f7 e];exact⟨rfl,by simp⟩
  cases h
 cases h
theorem By {α:Type}{g : α->D}{l:List D}{as:List α}(h:l.Perm (as.map g)):∃ bs:List α,l=bs.map g/\bs.Perm as:=by
 generalize e:as.map g=l2 at h
 induction h generalizing as with
 |nil=>cases as with
  |nil=>exact⟨[],rfl,.refl _⟩
  |cons a as=>cases e
 |cons x p n=>cases as with
  |nil=>cases e
  |cons a as =>
   rw[map_cons] at e;obtain⟨rfl,o⟩:=List.cons.inj e;obtain⟨bs,c,d⟩:=n o;exact⟨a::bs,by rw[map_cons,c],.cons a d⟩
 |swap x y l=>cases as with
  |nil=>cases e
  |cons a as=>cases as with
   |nil=>simp at e
   |cons b as =>
    simp only[map_cons,List.cons.injEq] at e;obtain⟨rfl,rfl,rfl⟩:=e;exact⟨b::a::as,rfl,.swap a b as⟩
 |trans _ _ m i =>
  obtain⟨bs,c,d⟩:=i e;obtain⟨k,f,j⟩:=m (as:=bs) c.symm;exact⟨k,f,j.trans d⟩
theorem rc:∀ {us:List Value}{ns:List Int},IntsAre us ns->KeysAre M8 us ns
 |_,_,.nil => .nil
 |_,_,.cons n t r => .cons rfl (rc r)
section
variable {X:Cx}{pins:JM}{σ:St}{H:Hp}{s:Shared}{J:List Addr}
theorem Di (I:Inv X pins σ H s){ns:List Int}{v:V}{u:Value}(m:At X.K H J (.tup (ns.map .int)) v)(r:RelV v u):Nw M8 s.heap u ns:=by obtain⟨a,f,rfl,q,z⟩:=At.Kb.mp m;cases r;obtain⟨its,b,⟨o,c,d,n,hd⟩,_⟩:=I.tuple q.sq;have e:=JW.My z;subst e;exact⟨a,o,its.toArray,n,rfl,c,d,hd,by simpa using rc (intsAre_of b)⟩
theorem oM (I:Inv X pins σ H s):∀ {c:List (List Int)}{vs:List V}{us:List Value},(∀ ns∈c,ns≠[])->JW X.K H J (c.map λns => .tup (ns.map .int)) vs->Vals vs us->KA M8 s.heap us c/\us.map (TF M8 s.heap)=c
 |[],vs,us,_,m,r=>by cases JW.JY.mp m;cases r;exact⟨.nil,rfl⟩
 |ns::c,vs,us,h0,m,r=>by
  obtain⟨v,g,rfl,m1,m2⟩:=JW.JU.mp m;cases r with
  |cons f d =>
   obtain⟨a,b⟩:=oM I (λx e=>h0 x (mem_cons_of_mem _ e)) m2 d;have t:=Di I m1 f;have ne:=h0 ns (mem_cons_self ..);cases ns with
   |nil=>exact absurd rfl ne
   |cons n ns=>exact⟨.cons t a,by rw[map_cons,xH t,b];rfl⟩
end
theorem B5 {j:Type}{O:PyProof.Rows.KeyOrd}{key : j->List O.α}(inj:∀ a b,key a=key b->a=b){l e:List j}(k:e.Perm l)(o:e.Pairwise λa b=>(vI O).kle (key a) (key b)):e=l.mergeSort λa b => !dM O (key b) (key a):=by
 refine List.Perm.eq_of_pairwise (le:=λa b=>(!dM O (key b) (key a))=true) (λa b _ _ h g=>inj _ _ ?_) (o.imp λh=>?_) (pairwise_mergeSort (λa b c h g=>?_) (λa b=>?_) l) (k.trans (mergeSort_perm l _).symm)
 ·have m:dM O (key a) (key b)=false:=by simpa using g
  have i:dM O (key b) (key a)=false:=by simpa using h
  exact(vI O).total _ _ m i
 ·have i:dM O _ _=false:=h;rw[i];rfl
 ·have f:(vI O).kle (key a) (key b):=by show dM O (key b) (key a)=false;simpa using h
  have d:(vI O).kle (key b) (key c):=by show dM O (key c) (key b)=false;simpa using g
  have n:dM O (key c) (key a)=false:=PyProof.Rows.KeyOrd.kle_trans f d;rw[n];rfl
 cases f:dM O (key b) (key a) with
 |false=>rfl
 |true =>
  have d:dM O (key a) (key b)=false:=PyProof.Rows.KeyOrd.klt_asymm (O:=vI O) f;rw[d];rfl
theorem CH:l6 X (.builtin "sorted") sO:=by
 intro L s σ H xs us Q I r h;obtain⟨J,ds,d,R,m,e,q⟩:=h;unfold sO at e;split at e
 ·rename_i ys;obtain⟨c,es,e⟩:=bind_eq_some_iff.mp e;split at e
  ·rename_i A;obtain⟨A,sp⟩:=A;cases e;obtain⟨v,w,rfl,a,n⟩:=JW.JU.mp m;cases JW.JY.mp n;obtain⟨p,zs,rfl,t,C⟩:=At.Kc.mp a;obtain⟨u,rfl,ru⟩:=vals1 r;cases ru;obtain⟨its,j,⟨o,nn,ho,hc,_,hd⟩,Y⟩:=I.list t.sq;have S:=wC (λd a h=>(yn h).1) es;have ne:∀ ns∈c,ns≠[]:=λns hn=>let ⟨d,h⟩:=wD es ns hn;(yn h).2;subst S;have K:its.length<=sizeLine:=by rw[← j.length,← C.length];exact A
   refine Dn (wpAny_collect_seq p (.inl rfl) ho hc hd (λP k=>?_) (by rw[size_toArray,← j.length];exact Y));have g:=I.kept (t':=s.toks) k;obtain⟨tu,W⟩:=oM g ne C j;have D:dM LM=pB (λ(x y:Int)=>decide (x<y)):=by funext a b;exact tJ LM a b
   refine⟨by simpa using K,vI M8.O,TF M8 P,uU (by simpa using tu),?_,λo h2 ep i T U V=>?_⟩
   ·have z : @Spec (List LM.α) (dM LM) c:=Eq.mpr (congrArg (λf => @Spec (List Int) f c) D) sp;have Vz:List.map (TF M8 P) its.toArray.toList=c:=by simpa using W
    exact Eq.mpr (congrArg (λl => @Spec (List LM.α) (dM LM) l) Vz) z
   have i:o.toList.Perm its:=by simpa using i
   obtain⟨N,Yv,B,F,Z⟩:=zW i j C;obtain⟨E,e2,G⟩:=By Z;subst e2;have hk:=(oM g (λx hx=>ne x (G.mem_iff.mp hx)) F B).2;have Vk:E.Pairwise λa b=>(vI LM).kle a b:=by have:=pairwise_map.mpr T;rw[hk] at this;exact this
   have D:(λ(a b:List Int) => !dM LM b a)=xD:=by funext a b;unfold xD;exact congrArg Bool.not (tJ LM b a)
   have Ut:E=c.mergeSort xD:=by rw[← D];exact B5 (O:=LM) (key:=λ(a:List Int)=>a) (λa b h=>h) G Vk
   subst Ut;have M:N.length<=sizeLine:=by rw[B.length,i.length_eq];exact K
   exact⟨.ref _,_,g.laid (t':=s.toks) (o:=.lst N) U (le_refl _) ⟨M,o.toList,ep,B,by simpa using V⟩,rfl,q _ _ (aQ g.fresh _) (At.Lj F g.fresh R M)⟩
  cases e
 cases e
end
end L2
namespace L2
open PySem PyProof.Rows
section
variable (f g:JJ D) (ρ:JQ) (S:JP) (i:Nat) (k:Bool)
@[simp] theorem Jr (d:D):aC d ρ S=JV d S:=rfl
@[simp] theorem Ju (a:D->D->Option D):aI a f g ρ S=ai (f ρ S) λx b=>ai (g ρ b) λy S2=>aP (a x y) S2:=rfl
@[simp] theorem JA (a:D->Option D):Pc a f ρ S=ai (f ρ S) λx b=>aP (a x) b:=rfl
@[simp] theorem Hz:aY f ρ S=ai (f ρ S) λx a=>aP (NG x) a:=rfl
@[simp] theorem H_ (a b:D->D->Option D)(h:JJ D):mT a b f g h ρ S=ai (f ρ S) λx d=>ai (g ρ d) λy S2=>ai (aP ((a x y).bind NG) S2) λk c=>if k=true then ai (h ρ c) λz e=>aP (b y z) e else JV (.bl false) c:=rfl
@[simp] theorem IU (a b:JJ Bool):zm a b ρ S=ai (a ρ S) λk c=>if k=true then b ρ c else JV false c:=rfl
@[simp] theorem Jd (a b:JJ Bool):qa a b ρ S=ai (a ρ S) λk c=>if k=true then JV true c else b ρ c:=rfl
@[simp] theorem IG (a:JJ Bool):gG a ρ S=ai (a ρ S) λk b=>JV (!k) b:=rfl
@[simp] theorem Jw:AG f g ρ S=ai (f ρ S) λx a=>ai (aP (NG x) a) λk S2=>if k=true then g ρ S2 else JV (.bl false) S2:=rfl
@[simp] theorem JC:Zm f g ρ S=ai (f ρ S) λx a=>ai (aP (NG x) a) λk S2=>if k=true then JV (.bl true) S2 else g ρ S2:=rfl
@[simp] theorem Je:Gy f ρ S=ai (f ρ S) λx a=>ai (aP (NG x) a) λk S2=>JV (.bl (!k)) S2:=rfl
@[simp] theorem Jl (t:JJ Bool):uo t f g ρ S=ai (t ρ S) λk a=>if k=true then f ρ a else g ρ a:=rfl
@[simp] theorem HC:aA ρ S=JV [] S:=rfl
@[simp] theorem Gq (t:JJ (List D)):af f t ρ S=ai (f ρ S) λd a=>ai (t ρ a) λds S2=>JV (d::ds) S2:=rfl
@[simp] theorem I0 (t:JJ (List D)):j4 t ρ S=ai (t ρ S) λds a=>aP (Mz ds (.tup ds)) a:=rfl
@[simp] theorem Ji (t:JJ (List D)):mS t ρ S=ai (t ρ S) λds a=>aP (Mz ds (.lst ds)) a:=rfl
@[simp] theorem IS (h:List D->Option D)(t:JJ (List D)):bf h t ρ S=ai (t ρ S) λds a=>aP (h ds) a:=rfl
@[simp] theorem II:bV ρ S=JV (.next ρ) S:=rfl
@[simp] theorem E6 (a b:JJ Fl):aN a b ρ S=ai (a ρ S) λe d=>match e with
 | .next c=>b c d
 |o=>JV o d:=rfl
@[simp] theorem Jb:aW f ρ S=ai (f ρ S) λd a=>JV (.ret d) a:=rfl
@[simp] theorem JE (t:JJ Bool)(a b:JJ Fl):Mw t a b ρ S=ai (t ρ S) λk c=>if k=true then a ρ c else b ρ c:=rfl
@[simp] theorem I_:bt i f ρ S=ai (f ρ S) λd a=>JV (.next (ρ.set i (some d))) a:=rfl
@[simp] theorem Jn (a:JJ (List D))(u:D->JQ->Option JQ)(b:JJ Fl):jv a u b ρ S=ai (a ρ S) λds c=>h8 u b ds ρ c:=rfl
@[simp] theorem Ja (h:List D->Option (List D))(t:JJ (List D)):ik h t ρ S=ai (t ρ S) λds a=>aP (h ds) a:=rfl
@[simp] theorem HV:bM f ρ S=ai (f ρ S) λd a=>aP (cg d) a:=rfl
@[simp] theorem IC:dS ρ S=JV true S:=rfl
@[simp] theorem Jp (F:JO)(t:JJ (List D)):aR F t ρ S=ai (t ρ S) λds a=>hW (F ds a):=rfl
@[simp] theorem HZ (d:D):hW (JV d S)=JV d S:=rfl
@[simp] theorem HB (d:D):hW (some (.ok d,S))=JV d S:=rfl
@[simp] theorem JD:Kw f g ρ S=ai (f ρ S) λx a=>ai (g ρ a) λy S2=>aP (Ks x y S2) S2:=rfl
@[simp] theorem ak:N2 k f g ρ S=ai (f ρ S) λx a=>ai (g ρ a) λy S2=>aP (Ol k x y S2) S2:=rfl
@[simp] theorem ID:wn f ρ S=ai (f ρ S) λd a=>aP (ll d a) a:=rfl
@[simp] theorem Jf:wt ρ S=JV (.loc S.length) (S++[.dict []]):=rfl
@[simp] theorem Jc (h:JJ D):xZ f g h ρ S=ai (h ρ S) λv a=>ai (f ρ a) λx S2=>ai (g ρ S2) λk b=>ve x k v ρ b:=rfl
@[simp] theorem IR (n:Nat)(ix:List Nat)(a:JJ (List D))(u:D->JQ->Option JQ)(gt:JJ Bool):cz n ix a u gt f ρ S=ai (a ρ S) λds b =>
 match bT u gt f ds (b8 n ix ρ) b with
 |some (out,S2)=>JV (.lst out) S2
 |none=>none:=rfl
@[simp] theorem JB (b:D->Option Int->Option Int->Option D)(lo a:Option (JJ D)):OS b f lo a ρ S=ai (f ρ S) λx c=>ai (lT lo ρ c) λl S2=>ai (lT a ρ S2) λu d=>aP (b x l u) d:=rfl
@[simp] theorem HY:lT none ρ S=JV none S:=rfl
@[simp] theorem HX:lT (some f) ρ S=ai (f ρ S) λd a=>aP (qt d) a:=rfl
@[simp] theorem Jh (b:D->Bool)(a:D->D->Option D):um b a f g ρ S=ai (f ρ S) λx c=>if b x=true then ai (g ρ c) λy S2=>aP (a x y) S2 else none:=rfl
@[simp] theorem Hw (d:D)(h : ρ[i]?=some (some d)):ag i ρ S=JV d S:=by unfold ag;rw[h]
@[simp] theorem HU (d:D):aE i d ρ=some (ρ.set i (some d)):=rfl
@[simp] theorem Js (b:Bool):NG (.bl b)=some b:=rfl
end
@[simp] theorem b7 {ds:List D}{d:D}(h:ds.length<=1000):Mz ds d=some d:=by
 unfold Mz;rw[if_pos (Nat.le_trans h (by decide))]
theorem aB {n m:Nat}{G:JJ Fl}{ds:List D}{S a:JP}{d:D}(b:ds.length=n)(h:G (ds.map some++replicate m none) S=JV (.ret d) a):a9 n m G ds S=JV d a:=by unfold a9;rw[if_pos b,h];rfl
theorem f8 {u:D->JQ->Option JQ}{gt:JJ Bool}{fe:JJ D}(I:JQ->Prop)(g:D->Bool)(f:D->D)(S:JP) :
  ∀ (ds:List D) (ρ:JQ),I ρ->(∀ d∈ds,∀ ρ,I ρ->∃ ρ1,u d ρ=some ρ1/\I ρ1/\gt ρ1 S=JV (g d) S/\(g d=true->fe ρ1 S=JV (f d) S))->bT u gt fe ds ρ S=some ((ds.filter g).map f,S)
 |[],ρ,_,_=>rfl
 |d::ds,ρ,hI,h=>by
  obtain⟨ρ1,i,j,k,c⟩:=h d (mem_cons_self ..) ρ hI;have b:=f8 I g f S ds ρ1 j λx e=>h x (mem_cons_of_mem _ e);rw[bT,i,bind_some,k];simp only[JV,Qm,bind_some];by_cases a:g d=true
  ·rw[if_pos a,c a];simp only[JV,Qm,bind_some,b,map_some,List.filter_cons,a,if_true,map_cons]
  rw[if_neg a,b,List.filter_cons,if_neg a]
theorem fK {u:D->JQ->Option JQ}{fe:JJ D}(I:JQ->Prop)(f:D->D)(S:JP)(ds:List D)(ρ:JQ)(e:I ρ)
  (h:∀ d∈ds,∀ ρ,I ρ->∃ ρ1,u d ρ=some ρ1/\I ρ1/\fe ρ1 S=JV (f d) S):bT u dS fe ds ρ S=some (ds.map f,S):=by
 have q:=f8 (u:=u) (gt:=dS) (fe:=fe) I (λ_=>true) f S ds ρ e λd hd ρ c=>by obtain⟨ρ1,a,g,b⟩:=h d hd ρ c;exact⟨ρ1,a,g,rfl,λ_=>b⟩
 rw[q,List.filter_eq_self.mpr λ_ _=>rfl]
theorem cU {u:D->JQ->Option JQ}{body:JJ Fl}(I:Nat->JQ->JP->Prop):∀ (ds:List D) (i:Nat) (ρ:JQ) (S:JP),I i ρ S ->
  (∀ (j:Nat) d ρ S,ds[j]?=some d->I (i+j) ρ S->∃ ρ1,u d ρ=some ρ1/\∃ g k,body ρ1 S=JV (.next g) k/\I (i+j+1) g k)->∃ g k,h8 u body ds ρ S=JV (.next g) k/\I (i+ds.length) g k
 |[],i,ρ,S,m,_=>⟨ρ,S,rfl,m⟩
 |d::ds,i,ρ,S,m,h=>by
  obtain⟨ρ1,r,g,k,t,v⟩:=h 0 d ρ S rfl m
  obtain⟨l,s,n,q⟩:=cU I ds (i+1) g k v λj x ρ S p o=>by
   obtain⟨a,b,c,d,e,f⟩:=h (j+1) x ρ S (by simpa using p) (by rw[show i+(j+1)=i+1+j by omega];exact o);exact⟨a,b,c,d,e,by rw[show i+1+j+1=i+(j+1)+1 by omega];exact f⟩
  refine⟨l,s,?_,by rw[length_cons,show i+(ds.length+1)=i+1+ds.length by omega];exact q⟩;rw[h8,r];simp only[t,cA];exact n
mutual
def pl:D->Bool
 | .tup a=>S9 a
 | .lst a=>S9 a
 | .set _=>false
 | .loc _=>false
 | .fn _ _=>false
 |_=>true
def S9:List D->Bool
 |[]=>true
 |d::ds=>pl d&&S9 ds
end
mutual
theorem sG:∀ {d:D},pl d=true->∃ p,toPy d=some p
 | .Kk,_=>⟨_,rfl⟩
 | .bl _,_=>⟨_,rfl⟩
 | .int _,_=>⟨_,rfl⟩
 | .str _,_=>⟨_,rfl⟩
 | .tup b,h=>by
  rw[pl] at h;obtain⟨a,e⟩:=i9 h;exact⟨.tuple a,by rw[toPy,e];rfl⟩
 | .lst b,h=>by
  rw[pl] at h;obtain⟨a,e⟩:=i9 h;exact⟨.list a,by rw[toPy,e];rfl⟩
 | .set _,h=>by simp[pl] at h
 | .loc _,h=>by simp[pl] at h
 | .fn _ _,h=>by simp[pl] at h
theorem i9:∀ {ds:List D},S9 ds=true->∃ a,b6 ds=some a
 |[],_=>⟨[],rfl⟩
 |d::ds,h=>by
  rw[S9,and_eq_true] at h;obtain⟨p,b⟩:=sG h.1;obtain⟨a,c⟩:=i9 h.2;exact⟨p::a,by rw[b6,b,c];rfl⟩
end
theorem mh:∀ {ds:List D}{a:List PyData},b6 ds=some a->a.length=ds.length
 |[],a,e=>by cases e;rfl
 |d::ds,a,e=>by
  rw[b6] at e;obtain⟨p,_,b⟩:=bind_eq_some_iff.mp e;obtain⟨r,c,f⟩:=map_eq_some_iff.mp b;subst f;rw[length_cons,length_cons,mh c]
theorem CN {α:Type}[BEq α][LawfulBEq α][DecidableEq α](a b : α):(a==b)=decide (a=b):=by by_cases h:a=b<;>simp[h]
@[simp] theorem Eo (i j:Int):Lk (.int i) (.int j)=some (.bl (decide (i=j))):=by simp[Lk,toPy,PyData.eqv,PyData.depth,CN]
@[simp] theorem HR (i j:Int):Mv (.int i) (.int j)=some (.bl (!decide (i=j))):=by simp[Mv,toPy,PyData.eqv,PyData.depth,CN]
@[simp] theorem IB (a b:Bool):Lk (.bl a) (.bl b)=some (.bl (a==b)):=by simp[Lk,toPy,PyData.eqv,PyData.depth]
theorem fP:∀ l:List Str,b6 (l.map .str)=some (l.map .str)
 |[]=>rfl
 |a::l=>by rw[map_cons,b6,fP l];rfl
theorem oP:∀ l:List Int,b6 (l.map .int)=some (l.map .int)
 |[]=>rfl
 |a::l=>by rw[map_cons,b6,oP l];rfl
theorem pR:∀ l m:List Str,PyData.eqvAll (l.map .str) (m.map .str)=decide (l=m)
 |[],[]=>rfl
 |[],b::m=>by simp[PyData.eqvAll]
 |a::l,[]=>by simp[PyData.eqvAll]
 |a::l,b::m=>by
  rw[map_cons,map_cons,PyData.eqvAll,pR l m];simp only[PyData.eqv,List.cons.injEq];by_cases h:a=b<;>by_cases c:l=m<;>simp[h,c]
theorem v4:∀ l m:List Int,PyData.eqvAll (l.map .int) (m.map .int)=decide (l=m)
 |[],[]=>rfl
 |[],b::m=>by simp[PyData.eqvAll]
 |a::l,[]=>by simp[PyData.eqvAll]
 |a::l,b::m=>by
  rw[map_cons,map_cons,PyData.eqvAll,v4 l m];simp only[PyData.eqv,List.cons.injEq];by_cases h:a=b<;>by_cases c:l=m<;>simp[h,c]
theorem kQ:∀ l:List Str,PyData.depthAll (l.map .str)=0
 |[]=>rfl
 |a::l=>by rw[map_cons,PyData.depthAll,kQ l];rfl
theorem pU:∀ l:List Int,PyData.depthAll (l.map .int)=0
 |[]=>rfl
 |a::l=>by rw[map_cons,PyData.depthAll,pU l];rfl
theorem Cw (l m:List Int):Lk (.lst (l.map .int)) (.lst (m.map .int))=some (.bl (decide (l=m))):=by simp[Lk,toPy,oP,PyData.eqv,PyData.depth,pU,v4]
theorem En {ds:List D}(h:S9 ds=true):Lk (.lst ds) (.lst [])=some (.bl (ds.isEmpty)):=by
 obtain⟨a,e⟩:=i9 h;have b:toPy (.lst ds)=some (.list a):=by rw[toPy,e];rfl
 have l:=mh e;have c:toPy (.lst [])=some (.list []):=rfl;unfold Lk;rw[b,c];cases a with
 |nil=>cases ds with
  |nil=>simp[PyData.depth,PyData.depthAll,PyData.eqv,PyData.eqvAll]
  |cons _ _=>simp at l
 |cons p a=>cases ds with
  |nil=>simp at l
  |cons _ _=>simp[PyData.depth,PyData.depthAll,PyData.eqv,PyData.eqvAll]
theorem DY {ds:List D}(h:S9 ds=true):Mv (.lst ds) (.lst [])=some (.bl (!ds.isEmpty)):=by
 obtain⟨a,e⟩:=i9 h;have b:toPy (.lst ds)=some (.list a):=by rw[toPy,e];rfl
 have l:=mh e;have c:toPy (.lst [])=some (.list []):=rfl;unfold Mv;rw[b,c];cases a with
 |nil=>cases ds with
  |nil=>simp[PyData.depth,PyData.depthAll,PyData.eqv,PyData.eqvAll]
  |cons _ _=>simp at l
 |cons p a=>cases ds with
  |nil=>simp at l
  |cons _ _=>simp[PyData.depth,PyData.depthAll,PyData.eqv,PyData.eqvAll]
theorem W6 (x a b c:Str):inD (.str x) (.tup [.str a,.str b,.str c])=some (.bl (decide (a=x) ||(decide (b=x) ||decide (c=x)))):=by simp[inD,pJ,toPy,b6,sT,PyData.eqv,PyData.depth,CN]
section
variable (ρ:JQ) (S:JP)
@[simp] theorem IQ (F:JO)(t:JJ (List D)):HG F t ρ S=ai (t ρ S) λds a=>F ds a:=rfl
@[simp] theorem HW (c:Str)(t:JJ (List D)):Gx c t ρ S=ai (t ρ S) λds a=>ai (aP (Mz ds .Kk) a) λ_ S2=>some (.error c,S2):=rfl
@[simp] theorem Jm (a:Str->Option Bool)(f:JJ D):IW a f ρ S=ai (f ρ S) λd b=>aP (Hn a d b) b:=rfl
end
end L2
namespace J3
open PySem L2
def top (i:Nat):Stmt:=PySem.Challenge.pw_keyfold_k22_known_and_forgotten.main.body.getD i (.Pass ⟨0,0,0,0⟩)
abbrev bG:Stmt:=top 12
abbrev bp:Stmt:=top 13
def Cn:JJ Fl:=
  (aW (aI Lk (bf bW (af (ag 0) aA)) (aC (.int 3))))
def m9:JO:=a9 1 0 Cn
def lK:JJ Fl:=
  (aW (uo (aY (aR m9 (af (ag 0) aA))) (OS Mi (ag 0) (some (aC (.int 1))) none) (j4 aA)))
def dW:JO:=a9 1 0 lK
def pN:JJ Fl:=
  (aW (uo (aY (aR m9 (af (ag 0) aA))) (um d4 jS (ag 1) (Kw (ag 0) (aC (.int 0)))) (bf bW (af (ag 1) aA))))
def iH:JO:=a9 2 0 pN
def mJ:JJ Fl:=
  (aN (bt 4 (AE (ag 0) (ag 1)))
  (aW (uo (aY (aI Lk (Kw (ag 4) (aC (.int 0))) (ag 2))) (Kw (ag 4) (aI bi (aC (.int 1)) (ag 3))) (ag 1))))
def io:JO:=a9 4 1 mJ
def cC (rec:JO):JJ Fl:=
  (Mw (aY (N2 true (ag 3) (ag 2))) (rY (aR rec (af (ag 0) (af (ag 3) (af (ag 2) aA))))) bV)
def eP (rec:JO):JJ Fl:=
  (aN (jv (bM (aR dW (af (AE (ag 0) (ag 1)) aA))) (aE 3) (cC rec))
  (xZ (ag 2) (ag 1) (aC (.bl true))))
def bC:Nat->JO
 | 0=>λ_ _=>none
 |n+1=>a9 3 1 (eP (bC n))
def jm:JJ Fl:=
  (aN (bt 2 wt)
  (aN (rY (aR (bC 10) (af (ag 0) (af (ag 1) (af (ag 2) aA)))))
  (aW (mN (ag 2)))))
def ge:JO:=a9 2 1 jm
def jl:JJ Fl:=
  (aW (uo (aY (aR m9 (af (ag 0) aA))) (j4 (af (Kw (ag 0) (aC (.int 0))) (af (Kw (ag 1) (Kw (ag 0) (aC (.int 1)))) (af (Kw (ag 1) (Kw (ag 0) (aC (.int 2)))) aA)))) (ag 0)))
def f_:JO:=a9 2 0 jl
def e_:JJ Fl:=
  (aN (kr "Rows" "order" (ag 0) (ag 1))
  (aN (kr "Rows" "gathered" (ag 0) wp)
  (aN (kr "Rows" "numbers" (ag 0) wo)
  (kr "Rows" "choices" (ag 0) wo))))
def br:JO:=a9 2 0 e_
def d6:JJ Fl:=
  (aN (kr "Pairs" "folds" (ag 0) (j4 (af (ag 1) (af (ag 2) aA))))
  (aN (kr "Pairs" "rows" (ag 0) (ju "Rows" br (af (ag 3) aA)))
  (kr "Pairs" "made" (ag 0) wo)))
def b_:JO:=a9 4 0 d6
def de:JJ Fl:=
  (xZ (ag 3) (ag 5) (ag 4))
def cm:JJ D:=
  (aR f_ (af (wv (d9 "Rows" "gathered" (ag 2)) (ag 0)) (af (ag 1) aA)))
def ie:JJ Fl:=
  (aN (bt 2 (aR ge (af (d9 "Rows" "gathered" (ag 0)) (af (ag 1) aA))))
  (aN (bt 3 wt)
  (aN (jv (ik t6 (af (ag 2) aA)) (ld 2 (bo (aE 4) (bo (aE 5) g0))) de)
  (aW (bf ft (af (cz 1 [3,0] (bM (ag 2)) (aE 0) dS cm) aA))))))
def b9:JO:=a9 2 4 ie
def d5:JJ Fl:=
  (aN (Mw (aY (AD true (ag 1) (d9 "Rows" "numbers" (ag 0)))) (aN (rX (d9 "Rows" "numbers" (ag 0)) (ag 1) (CG (d9 "Rows" "gathered" (ag 0))))
  (rY (EA (d9 "Rows" "gathered" (ag 0)) (ag 1)))) bV)
  (aW (wu (d9 "Rows" "numbers" (ag 0)) (ag 1))))
def bn:JO:=a9 2 0 d5
def cK:JJ Fl:=
  (aW (uo (aY (aI Lk (ag 2) (ag 3))) (ag 2) (bP "Rows" "number_of" bn (ag 0) (af (j4 (af (ag 1) (af (ag 2) (af (ag 3) aA)))) aA))))
def bj:JO:=a9 4 0 cK
def bK:JJ D:=
  (aR io (af (ag 0) (af (ag 1) (af (ag 2) (af (ag 3) aA)))))
def eQ:JJ Fl:=
  (aW (bf ft (af (cz 2 [2,3] (ik AO (af (d9 "Pairs" "folds" (ag 0)) (af (ag 1) aA))) (ld 2 (bo (aE 0) (bo (aE 1) g0))) dS bK) aA)))
def bU:JO:=a9 4 0 eQ
def iP:JJ Fl:=
  (aW (bf ft (af (Pc jc (aI bi (ag 0) (ag 1))) aA)))
def c_:JO:=a9 2 0 iP
def fm:JJ Bool:=
  (aY (N2 false (ag 0) (ag 1)))
def fq:JJ D:=
  (ag 0)
def gz:JJ Fl:=
  (aW (bf ft (af (cz 1 [1] (bM (ag 0)) (aE 0) fm fq) aA)))
def cF:JO:=a9 2 0 gz
def bY (rec:JO):JJ D:=
  (Kw (ag 0) (ag 1))
def bX (rec:JO):JJ D:=
  (aR iH (af (ag 0) (af (ag 1) aA)))
def dP (rec:JO):JJ Fl:=
  (aN (bt 3 (d9 "Rows" "order" (d9 "Pairs" "rows" (ag 0))))
  (aN (bt 4 (cz 2 [] (ik AO (af (d9 "Pairs" "folds" (ag 0)) (af (ag 1) aA))) (ld 2 (bo (aE 0) (bo (aE 1) g0))) dS (bY rec)))
  (aN (bt 5 (bf nG (af (cz 1 [3] (bM (ag 4)) (aE 0) dS (bX rec)) aA)))
  (aN (Mw (aY (aI Lk (ag 5) (bf bW (af (ag 3) aA)))) (aW (bP "Rows" "number_of" bn (d9 "Pairs" "rows" (ag 0)) (af (j4 (af (aC (.str "names")) (af (uq (("names_of_both",bG,c_)::("names_in_common",bp,cF)::[]) (ag 2) (af (Kw (Kw (ag 4) (aC (.int 0))) (aC (.int 1))) (af (Kw (Kw (ag 4) (aC (.int 1))) (aC (.int 1))) aA))) aA))) aA))) bV)
  (aN (bt 6 (bP "Pairs" "number_of_pair" rec (ag 0) (af (bP "Pairs" "side_of_pair" bU (ag 0) (af (ag 1) (af (Kw (ag 3) (ag 5)) (af (aC (.int 0)) aA)))) (af (ag 2) aA))))
  (aN (bt 7 (bP "Pairs" "number_of_pair" rec (ag 0) (af (bP "Pairs" "side_of_pair" bU (ag 0) (af (ag 1) (af (Kw (ag 3) (ag 5)) (af (aC (.int 1)) aA)))) (af (ag 2) aA))))
  (aW (bP "Rows" "number_of_ask" bj (d9 "Pairs" "rows" (ag 0)) (af (Kw (ag 3) (ag 5)) (af (ag 6) (af (ag 7) aA)))))))))))
def dX (rec:JO):JO:=a9 3 5 (dP rec)
def ck (rec:JO):JJ Fl:=
  (aN (Mw (aY (AD true (ag 1) (d9 "Pairs" "made" (ag 0)))) (rX (d9 "Pairs" "made" (ag 0)) (ag 1) (bP "Pairs" "pair_anew" (dX rec) (ag 0) (af (ag 1) (af (ag 2) aA)))) bV)
  (aW (wu (d9 "Pairs" "made" (ag 0)) (ag 1))))
def bN:Nat->JO
 | 0=>λ_ _=>none
 |n+1=>a9 3 0 (ck (bN n))
def jn:JJ Fl:=
  (aN (bt 4 (ju "Pairs" b_ (af (ag 0) (af (ag 1) (af (ag 2) aA)))))
  (aW (bP "Rows" "fold_from" b9 (d9 "Pairs" "rows" (ag 4)) (af (bP "Pairs" "number_of_pair" (bN 9) (ag 4) (af (j4 (af (aI jb (bf bW (af (ag 0) aA)) (aC (.int 1))) (af (aI jb (bf bW (af (ag 1) aA)) (aC (.int 1))) aA))) (af (ag 3) aA))) aA))))
def cO:JO:=a9 4 1 jn
def vU:JJ Fl:=
  (aW (aR cO (af (ag 0) (af (ag 1) (af (ag 2) (af (aC (.fn "names_of_both" bG)) aA))))))
def qg:JO:=a9 3 0 vU
def vY:JJ Fl:=
  (aW (aR cO (af (ag 0) (af (ag 1) (af (ag 2) (af (aC (.fn "names_in_common" bp)) aA))))))
def qh:JO:=a9 3 0 vY
def iQ:JJ D:=
  (aC .Kk)
def ki:JJ Fl:=
  (aW (bf ft (af (cz 1 [] (ik dh (af (ag 0) aA)) (aE 0) dS iQ) aA)))
def gR:JO:=a9 1 0 ki
def tX:JJ Fl:=
  (aW (aI bi (aI bi (OS Mi (ag 0) none (some (ag 1))) (j4 (af (ag 2) aA))) (OS Mi (ag 0) (some (aI bi (ag 1) (aC (.int 1)))) none)))
def fG:JO:=a9 3 0 tX
def cJ:JJ Fl:=
  (aN (Mw (gG (aY (aR m9 (af (ag 1) aA)))) (aW (bP "Rows" "number_of" bn (ag 0) (af (ag 1) aA))) bV)
  (aN (bt 4 (Kw (ag 3) (Kw (ag 1) (aC (.int 0)))))
  (aN (Mw (aY (aI Q_ (ag 4) (aC .Kk))) (aW (bP "Rows" "number_of_ask" bj (ag 0) (af (Kw (ag 1) (aC (.int 0))) (af (wv (ag 2) (Kw (ag 1) (aC (.int 1)))) (af (wv (ag 2) (Kw (ag 1) (aC (.int 2)))) aA))))) bV)
  (aW (wv (ag 2) (Kw (ag 1) (aI bi (aC (.int 1)) (ag 4))))))))
def gf:JO:=a9 4 1 cJ
def mU:JJ Fl:=
  (rY (EA (ag 4) (aR gf (af (ag 3) (af (ag 5) (af (ag 4) (af (ag 1) aA)))))))
def yZ:JJ Fl:=
  (aN (bt 3 (ju "Rows" br (af (ag 2) aA)))
  (aN (bt 4 wp)
  (aN (jv (bM (ag 0)) (aE 5) mU)
  (aW (bP "Rows" "fold_from" b9 (ag 3) (af (wv (ag 4) (Pc z_ (aC (.int 1)))) aA))))))
def iI:JO:=a9 3 3 yZ
def vX:JJ Fl:=
  (aW (aR iI (af (ag 0) (af (aR fG (af (aR gR (af (bf bW (af (ag 3) aA)) aA)) (af (ag 1) (af (ag 2) aA)))) (af (ag 3) aA)))))
def cP:JO:=a9 4 0 vX
def vV:JJ Fl:=
  (aW (aR qg (af (aR cP (af (ag 0) (af (ag 1) (af (aC (.int 0)) (af (ag 2) aA))))) (af (aR cP (af (ag 0) (af (ag 1) (af (aC (.int 1)) (af (ag 2) aA))))) (af (ag 2) aA)))))
def gK:JO:=a9 3 0 vV
def Co:JJ Fl:=
  (aW (aR qh (af (aR cP (af (ag 0) (af (ag 1) (af (aC (.int 0)) (af (ag 2) aA))))) (af (aR cP (af (ag 0) (af (ag 1) (af (aC (.int 1)) (af (ag 2) aA))))) (af (ag 2) aA)))))
def l5:JO:=a9 3 0 Co
def bx:JJ D:=
  (aR iH (af (wv (d9 "Rows" "gathered" (ag 1)) (ag 0)) (af (d9 "Rows" "order" (ag 1)) aA)))
def dO:JJ Fl:=
  (aN (bt 4 (cz 1 [0] (bM (j4 (af (ag 2) (af (ag 3) aA)))) (aE 0) dS bx))
  (aW (Kw (d9 "Rows" "order" (ag 0)) (bf nG (af (aI bi (ag 4) (mS (af (um d4 jS (d9 "Rows" "order" (ag 0)) (ag 1)) aA))) aA)))))
def cr:JO:=a9 4 1 dO
def nO:JJ Fl:=
  (aW (aR io (af (d9 "Rows" "gathered" (ag 0)) (af (ag 1) (af (ag 2) (af (ag 3) aA))))))
def cb:JO:=a9 4 0 nO
def db (rec:JO):JJ Fl:=
  (aN (bt 4 (bP "Rows" "first_character" cr (ag 0) (af (ag 1) (af (ag 2) (af (ag 3) aA)))))
  (aN (Mw (aY (aI Lk (ag 4) (ag 1))) (aW (bP "Rows" "number_of_ask" bj (ag 0) (af (ag 1) (af (bP "Rows" "side" cb (ag 0) (af (ag 2) (af (ag 1) (af (aC (.int 0)) aA)))) (af (bP "Rows" "side" cb (ag 0) (af (ag 3) (af (ag 1) (af (aC (.int 1)) aA)))) aA))))) bV)
  (aN (bt 5 (bP "Rows" "choose" rec (ag 0) (af (ag 1) (af (bP "Rows" "side" cb (ag 0) (af (ag 2) (af (ag 4) (af (aC (.int 0)) aA)))) (af (bP "Rows" "side" cb (ag 0) (af (ag 3) (af (ag 4) (af (aC (.int 0)) aA)))) aA)))))
  (aN (bt 6 (bP "Rows" "choose" rec (ag 0) (af (ag 1) (af (bP "Rows" "side" cb (ag 0) (af (ag 2) (af (ag 4) (af (aC (.int 1)) aA)))) (af (bP "Rows" "side" cb (ag 0) (af (ag 3) (af (ag 4) (af (aC (.int 1)) aA)))) aA)))))
  (aW (bP "Rows" "number_of_ask" bj (ag 0) (af (ag 4) (af (ag 5) (af (ag 6) aA)))))))))
def df (rec:JO):JO:=a9 4 3 (db rec)
def eD (rec:JO):JJ Fl:=
  (aN (bt 4 (j4 (af (ag 1) (af (ag 2) (af (ag 3) aA)))))
  (aN (Mw (aY (AD true (ag 4) (d9 "Rows" "choices" (ag 0)))) (rX (d9 "Rows" "choices" (ag 0)) (ag 4) (uo (aY (aI Lk (ag 2) (ag 3))) (ag 2) (bP "Rows" "choose_anew" (df rec) (ag 0) (af (ag 1) (af (ag 2) (af (ag 3) aA)))))) bV)
  (aW (wu (d9 "Rows" "choices" (ag 0)) (ag 4)))))
def eK:Nat->JO
 | 0=>λ_ _=>none
 |n+1=>a9 4 1 (eD (eK n))
def eZ (rec:JO):JJ Fl:=
  (aN (Mw (aY (aI Lk (Kw (ag 1) (aC (.int 0))) (aC (.str "names")))) (aW (bP "Rows" "number_of" bn (ag 0) (af (ag 1) aA))) bV)
  (aW (bP "Rows" "choose" (eK 9) (ag 0) (af (Kw (ag 1) (aC (.int 1))) (af (aR rec (af (ag 0) (af (Kw (ag 1) (aC (.int 2))) aA))) (af (aR rec (af (ag 0) (af (Kw (ag 1) (aC (.int 3))) aA))) aA))))))
def c0:Nat->JO
 | 0=>λ_ _=>none
 |n+1=>a9 2 0 (eZ (c0 n))
def vW:JJ Fl:=
  (aN (bt 2 (ju "Rows" br (af (ag 1) aA)))
  (aW (bP "Rows" "fold_from" b9 (ag 2) (af (aR (c0 15) (af (ag 2) (af (ag 0) aA))) aA))))
def gh:JO:=a9 2 1 vW
def nN:JJ Fl:=
  (aN (Mw (aY (aI P0 (ag 1) (bf bW (af (ag 0) aA)))) (aW (Kw (ag 0) (ag 1))) bV)
  (aW (aC (.int 0))))
def jA:JO:=a9 2 0 nN
def rH:JJ Fl:=
  (aN (bt 2 (aI cG (aI du (aI bi (aI bi (aR jA (af (ag 0) (af (ag 1) aA))) (aI du (aC (.int 7919)) (ag 1))) (aC (.int 1))) (aC (.int 48271))) (aC (.int 2147483647))))
  (aW (aI cG (aI bi (aI bi (aI du (ag 2) (ag 2)) (aI du (aC (.int 7)) (ag 2))) (ag 1)) (aC (.int 2147483629)))))
def bq:JO:=a9 2 1 rH
def rJ:JJ Fl:=
  (aN (bt 2 (aI cG (aI du (aI bi (aI bi (ag 0) (aI du (aC (.int 104729)) (ag 1))) (aC (.int 17))) (aC (.int 69621))) (aC (.int 2147483647))))
  (aW (aI cG (aI bi (aI bi (aI du (ag 2) (ag 2)) (aI du (aC (.int 3)) (ag 2))) (ag 1)) (aC (.int 2147483629)))))
def d_:JO:=a9 2 1 rJ
def gI:JJ Fl:=
  (bt 5 (aI bi (ag 5) (Kw (ag 1) (aI cG (aI ig (ag 4) (aI bi (aI du (aC (.int 31)) (ag 6)) (aC (.int 29)))) (aC (.int 26))))))
def gH:JJ Fl:=
  (aN (bt 4 (aR d_ (af (ag 0) (af (ag 3) aA))))
  (aN (bt 5 (Kw (ag 1) (aI cG (ag 4) (aC (.int 26)))))
  (aN (jv (ik dh (af (aI du (aI cG (aI ig (ag 4) (aC (.int 26))) (aC (.int 8))) (aI cG (ag 0) (aC (.int 2)))) aA)) (aE 6) gI)
  (xZ (ag 2) (aI bi (ag 5) (aI du (aC (.str "q")) (bf intD (af (N2 false (ag 5) (aC (D.tup [(D.str "names"),(D.str "ask"),(D.str "end")]))) aA)))) (aC (.bl true))))))
def rB:JJ Fl:=
  (aN (bt 1 (aC (.str "abcdefghijklmnopqrstuvwxyz")))
  (aN (bt 2 wt)
  (aN (jv (ik dh (af (aC (.int 6)) aA)) (aE 3) gH)
  (aW (bf ft (af (wn (ag 2)) aA))))))
def mW:JO:=a9 1 6 rB
def ja:JJ Bool:=
  (aY (aI Lk (aI cG (aI ig (ag 2) (aI bi (aI du (aC (.int 3)) (ag 0)) (aC (.int 1)))) (aC (.int 4))) (aC (.int 0))))
def jp:JJ D:=
  (ag 1)
def rG:JJ Fl:=
  (aW (bf ft (af (cz 2 [0] (ik pS (af (ag 1) aA)) (ld 2 (bo (aE 0) (bo (aE 1) g0))) ja jp) aA)))
def m5:JO:=a9 2 0 rG
def tY (rec:JO):JJ Fl:=
  (aN (Mw (qa (aY (aI Lk (ag 3) (aC (.int 0)))) (aY (aI Lk (aI cG (ag 0) (aC (.int 7))) (aC (.int 0))))) (aW (j4 (af (aC (.str "names")) (af (aR m5 (af (aI ig (ag 0) (aC (.int 7))) (af (ag 1) aA))) aA)))) bV)
  (aN (bt 4 (aR rec (af (aR d_ (af (ag 0) (af (aC (.int 1)) aA))) (af (ag 1) (af (ag 2) (af (aI jb (ag 3) (aC (.int 1))) aA))))))
  (aN (bt 5 (aR rec (af (aR d_ (af (ag 0) (af (aC (.int 2)) aA))) (af (ag 1) (af (ag 2) (af (aI jb (ag 3) (aC (.int 1))) aA))))))
  (aW (j4 (af (aC (.str "ask")) (af (aI cG (aI ig (ag 0) (aC (.int 7))) (ag 2)) (af (ag 4) (af (ag 5) aA)))))))))
def l0:Nat->JO
 | 0=>λ_ _=>none
 |n+1=>a9 4 2 (tY (l0 n))
def gJ:JJ Fl:=
  (aN (bt 4 (aI cG (aR d_ (af (ag 0) (af (ag 3) aA))) (aI bi (bf bW (af (ag 2) aA)) (aC (.int 1)))))
  (bt 2 (aI bi (aI bi (OS Mi (ag 2) none (some (ag 4))) (mS (af (ag 3) aA))) (OS Mi (ag 2) (some (ag 4)) none))))
def rF:JJ Fl:=
  (aN (bt 2 (mS aA))
  (aN (jv (ik dh (af (ag 1) aA)) (aE 3) gJ)
  (aW (bf ft (af (ag 2) aA)))))
def mZ:JO:=a9 2 3 rF
def gC:JJ D:=
  (Kw (aC (D.tup [D.Kk,(D.int 0),(D.int 1),D.Kk])) (aI cG (aR d_ (af (ag 1) (af (ag 0) aA))) (aC (.int 4))))
def rE:JJ Fl:=
  (aW (bf ft (af (cz 1 [0] (ik dh (af (ag 1) aA)) (aE 0) dS gC) aA)))
def mY:JO:=a9 2 0 rE
def lN:JJ D:=
  (aI bi (ag 0) (aC (D.tup [(D.int 0)])))
def lL:JJ D:=
  (aI bi (ag 0) (aC (D.tup [(D.int 1)])))
def fF:JJ Fl:=
  (bt 1 (aI bi (cz 1 [] (bM (ag 1)) (aE 0) dS lN) (cz 1 [] (bM (ag 1)) (aE 0) dS lL)))
def pM:JJ Fl:=
  (aN (bt 1 (aC (D.lst [(D.tup [])])))
  (aN (jv (ik dh (af (ag 0) aA)) (aE 2) fF)
  (aW (bf sO (af (ag 1) aA)))))
def iG:JO:=a9 1 2 pM
def kM (rec:JO):JJ Fl:=
  (aN (Mw (aY (aI Lk (Kw (ag 0) (aC (.int 0))) (aC (.str "names")))) (aW (Kw (ag 0) (aC (.int 1)))) bV)
  (aW (aR rec (af (Kw (ag 0) (aI bi (aC (.int 2)) (Kw (ag 1) (Kw (ag 0) (aC (.int 1)))))) (af (ag 1) aA)))))
def ej:Nat->JO
 | 0=>λ_ _=>none
 |n+1=>a9 2 0 (kM (ej n))
def li:JJ Bool:=
  (aY (aI Mv (Kw (ag 2) (aC (.int 0))) (aC (.str "names"))))
def im:JJ Fl:=
  (bt 2 (Kw (ag 0) (Kw (ag 2) (aI bi (aC (.int 1)) (Kw (ag 1) (Kw (ag 2) (aC (.int 0))))))))
def Cm:JJ Fl:=
  (aN (bt 2 (Kw (ag 0) (Pc z_ (aC (.int 1)))))
  (aN (uk 20 li im)
  (aW (Kw (ag 2) (aC (.int 1))))))
def m8:JO:=a9 2 1 Cm
def pO:JJ Fl:=
  (aW (AG (Pc (iU "int") (ag 0)) (AG (Gy (Pc (iU "bool") (ag 0))) (mT Ub Ub (aC (.int 0)) (ag 0) (ag 1)))))
def gg:JO:=a9 2 0 pO
def cY:JJ Bool:=
  (aY (aI P0 (um tP findD (aC (.str "abcdefghijklmnopqrstuvwxyz")) (ag 0)) (aC (.int 0))))
def fg:JJ D:=
  (ag 0)
def cZ:JJ Fl:=
  (aN (Mw (qa (gG (aY (Pc (iU "str") (ag 2)))) (qa (gG (aY (mT P0 P0 (aC (.int 0)) (bf bW (af (ag 2) aA)) (aC (.int 9))))) (zm (aY (aI Uc (ag 1) (aC (.int 0)))) (gG (aY (aI P0 (Kw (ag 0) (aI jb (ag 1) (aC (.int 1)))) (ag 2))))))) (aW (aC (.bl false))) bV)
  (aN (Mw (aY (N2 false (ag 2) (aC (D.tup [(D.str "names"),(D.str "ask"),(D.str "end")])))) (aW (aC (.bl false))) bV)
  (Mw (aY (aI Mv (cz 1 [] (bM (ag 2)) (aE 0) cY fg) (mS aA))) (aW (aC (.bl false))) bV)))
def kj:JJ Fl:=
  (aN (Mw (gG (aY (Pc (iU "tuple") (ag 0)))) (aW (aC (.bl false))) bV)
  (aN (jv (ik pS (af (ag 0) aA)) (ld 2 (bo (aE 1) (bo (aE 2) g0))) cZ)
  (aW (aC (.bl true)))))
def gS:JO:=a9 1 2 kj
def dB:JJ Bool:=
  (zm (aY (aI Mv (Kw (Kw (ag 2) (ag 0)) (aC (.int 0))) (aC (.str "names")))) (aY (N2 true (Kw (Kw (ag 2) (ag 0)) (aC (.int 0))) (ag 1))))
def fC:JJ D:=
  (ag 0)
def pQ:JJ Fl:=
  (aN (bt 3 (Kw (ag 0) (ag 1)))
  (aN (Mw (qa (gG (aY (Pc (iU "tuple") (ag 3)))) (qa (aY (aI Lk (bf bW (af (ag 3) aA)) (aC (.int 0)))) (aY (N2 false (ag 3) (OS Mi (ag 0) none (some (ag 1))))))) (aW (aC (.bl false))) bV)
  (aN (Mw (aY (Pc (iU "str") (Kw (ag 3) (aC (.int 0))))) (aW (AG (aI Lk (Kw (ag 3) (aC (.int 0))) (aC (.str "names"))) (AG (aI Lk (bf bW (af (ag 3) aA)) (aC (.int 2))) (aR gS (af (Kw (ag 3) (aC (.int 1))) aA))))) bV)
  (aN (Mw (qa (aY (aI Mv (bf bW (af (ag 3) aA)) (aC (.int 3)))) (gG (aY (aR gg (af (Kw (ag 3) (aC (.int 0))) (af (aI jb (bf bW (af (ag 2) aA)) (aC (.int 1))) aA)))))) (aW (aC (.bl false))) bV)
  (aN (Mw (qa (gG (aY (aR gg (af (Kw (ag 3) (aC (.int 1))) (af (aI jb (ag 1) (aC (.int 1))) aA))))) (qa (gG (aY (aR gg (af (Kw (ag 3) (aC (.int 2))) (af (aI jb (ag 1) (aC (.int 1))) aA))))) (aY (aI Lk (Kw (ag 3) (aC (.int 1))) (Kw (ag 3) (aC (.int 2))))))) (aW (aC (.bl false))) bV)
  (aN (bt 4 (OS Mi (ag 2) (some (aI bi (um tQ pH (bf Ea (af (ag 2) aA)) (Kw (ag 3) (aC (.int 0)))) (aC (.int 1)))) none))
  (aW (aI Lk (cz 1 [4,0] (bM (OS Mi (ag 3) (some (aC (.int 1))) none)) (aE 0) dB fC) (mS aA)))))))))
def kW:JO:=a9 3 2 pQ
def fQ (rec:JO):JJ Bool:=
  (aY (N2 true (ag 0) (ag 1)))
def iB (rec:JO):JJ D:=
  (ag 0)
def f9 (rec:JO):JJ Fl:=
  (bt 3 (aI bi (ag 3) (cz 1 [3] (bM (aR rec (af (ag 0) (af (ag 4) aA)))) (aE 0) (fQ rec) (iB rec))))
def pP (rec:JO):JJ Fl:=
  (aN (bt 2 (Kw (ag 0) (ag 1)))
  (aN (bt 3 (mS aA))
  (aN (Mw (aY (aI Mv (Kw (ag 2) (aC (.int 0))) (aC (.str "names")))) (jv (bM (OS Mi (ag 2) (some (aC (.int 1))) none)) (aE 4) (f9 rec)) bV)
  (aW (aI bi (ag 3) (mS (af (ag 1) aA)))))))
def cX:Nat->JO
 | 0=>λ_ _=>none
 |n+1=>a9 2 3 (pP (cX n))
def gQ:JJ Fl:=
  (Mw (gG (aY (aR kW (af (ag 0) (af (ag 2) (af (ag 1) aA)))))) (aW (aC (.bl false))) bV)
def nM:JJ Fl:=
  (aN (Mw (qa (gG (aY (Pc (iU "tuple") (ag 0)))) (aY (aI Lk (bf bW (af (ag 0) aA)) (aC (.int 0))))) (aW (aC (.bl false))) bV)
  (aN (jv (ik dh (af (bf bW (af (ag 0) aA)) aA)) (aE 2) gQ)
  (aW (aI Lk (aR (cX 11) (af (ag 0) (af (aI jb (bf bW (af (ag 0) aA)) (aC (.int 1))) aA))) (bf h9 (af (bf bW (af (ag 0) aA)) aA))))))
def jz:JO:=a9 2 1 nM
def vT:JJ Fl:=
  (aN (bt 2 (aI bi (aC (.int 1)) (aI cG (aR bq (af (ag 0) (af (aC (.int 0)) aA))) (ag 1))))
  (aN (bt 3 (aR mW (af (aR bq (af (ag 0) (af (aC (.int 1)) aA))) aA)))
  (aN (bt 4 (aR (l0 8) (af (aR bq (af (ag 0) (af (aC (.int 2)) aA))) (af (ag 3) (af (ag 2) (af (aI bi (aC (.int 1)) (aI cG (aR bq (af (ag 0) (af (aC (.int 3)) aA))) (aC (.int 5)))) aA))))))
  (aW (j4 (af (ag 2) (af (ag 3) (af (ag 4) (af (aR mZ (af (aR bq (af (ag 0) (af (aC (.int 4)) aA))) (af (ag 2) aA))) aA)))))))))
def lZ:JO:=a9 2 3 vT
def i_:JJ Bool:=
  (aY (N2 true (ag 0) (ag 1)))
def jo:JJ D:=
  (ag 0)
def rC:JJ Fl:=
  (aW (bf ft (af (wn (aI bi (ag 0) (bf ft (af (cz 1 [0] (bM (ag 1)) (aE 0) i_ jo) aA)))) aA)))
def mX:JO:=a9 2 0 rC
def fu:JJ Bool:=
  (gG (aY (aR jz (af (ag 0) (af (ag 1) aA)))))
def t_:JJ D:=
  (ag 0)
def lO:JJ D:=
  (uo (aY (aI Q_ (Kw (ag 2) (ag 0)) (aC .Kk))) (Kw (ag 1) (ag 0)) (Kw (ag 2) (ag 0)))
def sJ:JJ Bool:=
  (aY (N2 false (ag 0) (ag 1)))
def t9:JJ D:=
  (ag 0)
def gD:JJ D:=
  (aR m8 (af (ag 0) (af (ag 1) aA)))
def lV:JJ Fl:=
  (aN (bt 10 (bf ft (af (cz 1 [9,6] (ik dh (af (ag 1) aA)) (aE 0) dS lO) aA)))
  (aN (bt 11 (aI bi (aI bi (OS Mi (ag 9) none (some (ag 7))) (j4 (af (aI jb (aC (.int 1)) (Kw (ag 9) (ag 7))) aA))) (OS Mi (ag 9) (some (aI bi (ag 7) (aC (.int 1)))) none)))
  (aN (bt 12 (aR (ej 15) (af (ag 3) (af (ag 9) aA))))
  (aN (bt 13 (aR (ej 15) (af (ag 3) (af (ag 11) aA))))
  (aN (bt 14 (x9 (af (aR (ej 15) (af (ag 3) (af (ag 10) aA))) (af (aR mX (af (ag 12) (af (ag 13) aA))) (af (bf ft (af (cz 1 [13] (bM (ag 12)) (aE 0) sJ t9) aA)) aA)))))
  (Mw (aY (Ez (cz 1 [9] (bM (ag 8)) (aE 0) dS gD) (ag 14))) (aW (aC (.bl false))) bV))))))
def E4:JJ Fl:=
  (aN (ul (ld 4 (bo (aE 1) (bo (aE 2) (bo (aE 3) (bo (aE 4) g0))))) (aR lZ (af (ag 0) (af (aC (.int 6)) aA))))
  (aN (bt 5 (aR gh (af (ag 3) (af (ag 4) aA))))
  (aN (bt 6 (aR mY (af (aR bq (af (ag 0) (af (aC (.int 5)) aA))) (af (ag 1) aA))))
  (aN (bt 7 (aI cG (aR bq (af (ag 0) (af (aC (.int 6)) aA))) (ag 1)))
  (aN (bt 8 (mS (af (aR iI (af (ag 5) (af (ag 6) (af (ag 4) aA)))) (af (aR gK (af (ag 5) (af (ag 7) (af (ag 4) aA)))) (af (aR l5 (af (ag 5) (af (ag 7) (af (ag 4) aA)))) aA)))))
  (aN (Mw (aY (aI Mv (cz 1 [4] (bM (ag 8)) (aE 0) fu t_) (mS aA))) (aW (aC (.bl false))) bV)
  (aN (jv (bM (aR iG (af (ag 1) aA))) (aE 9) lV)
  (aW (aI Lk (ag 5) (aR gh (af (ag 3) (af (ag 4) aA))))))))))))
def CZ:JO:=a9 1 14 E4
def Et:Stmt->List Stmt
 | .ClassDef _ _ _ b _ _ _ _ _ _ _=>b
 |_=>[]
def n5 (i j:Nat):Stmt:=(Et (top i)).getD j (.Pass ⟨0,0,0,0⟩)
abbrev Bk:Stmt:=top 1
abbrev JF(s:Str):=(s,NameKind.local)
abbrev JG(s:Str):=(s,NameKind.globalImplicit)
abbrev JI(s:Str):Str×Const:=("fast",.str s)
abbrev JH(l:List (Str×NameKind))(m:List (Str×Const)):Scope:=⟨.function,l,false,false,m⟩
noncomputable abbrev AR:Scope:=JH [JF "row",JG "len"] []
abbrev lv:Stmt:=top 2
noncomputable abbrev k9:Scope:=JH [JF "row",JG "asks"] []
abbrev oZ:Stmt:=top 3
noncomputable abbrev oF:Scope:=JH [JF "row",JF "order",JG "asks",JG "len"] []
abbrev qN:Stmt:=top 4
noncomputable abbrev qB:Scope:=JH [JF "rows",JF "number",JF "character",JF "value",JF "row"] []
abbrev nv:Stmt:=top 6
noncomputable abbrev m_:Scope:=JH [JF "rows",JF "number",JF "left",JF "below",JG "rows_below",JG "leave_row"] []
abbrev jf:Stmt:=top 5
noncomputable abbrev iY:Scope:=JH [JF "rows",JF "top",JF "left",JG "leave_row",JG "list"] []
abbrev je:Stmt:=top 7
noncomputable abbrev iX:Scope:=JH [JF "row",JF "numbers",JG "asks"] []
abbrev iO:Stmt:=n5 8 0
noncomputable abbrev iL:Scope:=JH [JF "self",JF "order"] []
abbrev g_:Stmt:=n5 15 0
noncomputable abbrev gZ:Scope:=JH [JF "self",JF "one",JF "other",JF "order",JG "Rows"] []
abbrev g9:Stmt:=n5 8 7
noncomputable abbrev Kx:Scope:=JH [("self",.cell),JF "top",JF "left",("numbers",.cell),JF "place",JF "number",JG "rows_as_left",JG "enumerate",JG "tuple"] [JI "self",JI "top",JI "left",JI "numbers",JI "place",JI "number"]
abbrev g7:Stmt:=n5 8 1
noncomputable abbrev gW:Scope:=JH [JF "self",JF "row",JG "len"] []
abbrev eN:Stmt:=n5 8 2
noncomputable abbrev eL:Scope:=JH [JF "self",JF "character",JF "no",JF "yes"] []
abbrev eO:Stmt:=n5 15 3
noncomputable abbrev Kl:Scope:=JH [JF "self",JF "pair",("character",.cell),("value",.cell),JG "tuple",JG "zip"] [JI "self",JI "pair",JI "character",JI "value",JI "fold",JI "number"]
noncomputable abbrev iK:Scope:=JH [JF "names",JF "others",JG "tuple",JG "sorted",JG "set"] []
noncomputable abbrev Kt:Scope:=JH [JF "names",("others",.cell),JG "tuple"] [JI "names",JI "others",JI "name"]
abbrev gw:Stmt:=n5 15 2
noncomputable abbrev Kf:Scope:=JH [JF "self",JF "pair",JF "names_of",("order",.cell),JF "rows",JF "first",JF "no",JF "yes",JG "zip",JG "min",JG "len"] [JI "self",JI "pair",JI "names_of",JI "order",JI "fold",JI "number",JI "rows",JI "row",JI "first",JI "no",JI "yes"]
abbrev dH:Stmt:=n5 15 1
noncomputable abbrev dz:Scope:=JH [JF "self",JF "pair",JF "names_of"] []
abbrev jg:Stmt:=top 14
noncomputable abbrev iZ:Scope:=JH [JF "one",JF "other",JF "order",JF "names_of",JF "pairs",JG "Pairs",JG "len"] []
abbrev u5:Stmt:=top 10
noncomputable abbrev uF:Scope:=JH [JF "one",JF "other",JF "order",JG "put_together",JG "names_of_both"] []
abbrev u8:Stmt:=top 11
noncomputable abbrev uI:Scope:=JH [JF "one",JF "other",JF "order",JG "put_together",JG "names_in_common"] []
abbrev j6:Stmt:=top 17
noncomputable abbrev KY:Scope:=JH [JF "many",JG "tuple",JG "range"] [JI "many",JI "character"]
abbrev lu:Stmt:=top 18
noncomputable abbrev k8:Scope:=JH [JF "sheet",JF "character",JF "value"] []
abbrev jh:Stmt:=top 21
noncomputable abbrev i0:Scope:=JH [JF "rows",JF "row",JF "numbers",JF "sheet",JF "value",JG "asks"] []
abbrev yC:Stmt:=top 20
noncomputable abbrev yj:Scope:=JH [JF "fold",JF "sheet",JF "order",JF "rows",JF "numbers",JF "row",JG "Rows",JG "number_known"] []
abbrev u7:Stmt:=top 24
noncomputable abbrev uH:Scope:=JH [JF "fold",JF "character",JF "value",JF "order",JG "known",JG "with_value",JG "blank_sheet",JG "len"] []
abbrev ny:Stmt:=top 22
noncomputable abbrev ni:Scope:=JH [JF "fold",JF "character",JF "order",JG "joined",JG "cut_at"] []
abbrev u9:Stmt:=top 23
noncomputable abbrev uJ:Scope:=JH [JF "fold",JF "character",JF "order",JG "common",JG "cut_at"] []
abbrev dG:Stmt:=n5 8 4
noncomputable abbrev Ki:Scope:=JH [("self",.cell),JF "character",JF "no",JF "yes",JF "places",JG "min"] [JI "self",JI "character",JI "no",JI "yes",JI "number",JI "places"]
abbrev nB:Stmt:=n5 8 3
noncomputable abbrev nk:Scope:=JH [JF "self",JF "number",JF "character",JF "value",JG "side_of"] []
abbrev fX:Stmt:=n5 8 6
noncomputable abbrev fN:Scope:=JH [JF "self",JF "character",JF "no",JF "yes",JF "first",JF "without",JF "having"] []
abbrev j8:Stmt:=n5 8 5
noncomputable abbrev j5:Scope:=JH [JF "self",JF "character",JF "no",JF "yes",JF "choice"] []
abbrev iN:Stmt:=top 27
noncomputable abbrev iJ:Scope:=JH [JF "rows",JF "key",JG "number_of_key"] []
abbrev u6:Stmt:=top 26
noncomputable abbrev uG:Scope:=JH [JF "key",JF "order",JF "rows",JG "Rows",JG "number_of_key"] []
abbrev nA:Stmt:=top 29
noncomputable abbrev nj:Scope:=JH [JF "_law_script",JF "_law_k",JG "len"] []
abbrev qR:Stmt:=top 30
noncomputable abbrev qD:Scope:=JH [JF "_law_script",JF "_law_k",JF "_law_drawn_here",JG "_law_cell_at"] []
abbrev qS:Stmt:=top 31
noncomputable abbrev qE:Scope:=JH [JF "_law_number_here",JF "_law_k",JF "_law_drawn_here"] []
abbrev qL:Stmt:=top 32
noncomputable abbrev qA:Scope:=JH [JF "_law_number_here",JF "_law_letters",JF "_law_found",JF "_law_k",JF "_law_drawn_here",JF "_law_word",JF "_law_at_here",JG "range",JG "_law_drawn",JG "int",JG "tuple",JG "sorted"] []
abbrev qQ:Stmt:=top 33
noncomputable abbrev LV:Scope:=JH [("_law_number_here",.cell),JF "_law_words_here",JG "tuple",JG "enumerate"] [JI "_law_number_here",JI "_law_words_here",JI "_law_k",JI "_law_word"]
abbrev yD:Stmt:=top 34
noncomputable abbrev yl:Scope:=JH [JF "_law_number_here",JF "_law_words_here",JF "_law_many",JF "_law_deep",JF "_law_no",JF "_law_yes",JG "_law_names",JG "_law_key",JG "_law_drawn"] []
abbrev qP:Stmt:=top 35
noncomputable abbrev qC:Scope:=JH [JF "_law_number_here",JF "_law_many",JF "_law_found",JF "_law_k",JF "_law_at_here",JG "range",JG "_law_drawn",JG "len",JG "tuple"] []
abbrev qO:Stmt:=top 36
noncomputable abbrev LW:Scope:=JH [("_law_number_here",.cell),JF "_law_many",JG "tuple",JG "range"] [JI "_law_number_here",JI "_law_many",JI "_law_k"]
abbrev oY:Stmt:=top 37
noncomputable abbrev KW:Scope:=JH [JF "_law_many",JF "_law_found",JF "_law_k",JG "range",JG "sorted"] [JI "_law_many",JI "_law_found",JI "_law_k",JI "_law_thing"]
abbrev o8:Stmt:=top 38
noncomputable abbrev oH:Scope:=JH [JF "_law_key_here",JF "_law_thing",JG "_law_answer"] []
abbrev Bj:Stmt:=top 39
noncomputable abbrev AQ:Scope:=JH [JF "_law_fold",JF "_law_thing",JF "_law_row"] []
abbrev o6:Stmt:=top 40
noncomputable abbrev oG:Scope:=JH [JF "_law_thing",JF "_law_high",JG "isinstance",JG "int",JG "bool"] []
abbrev j7:Stmt:=top 41
noncomputable abbrev KZ:Scope:=JH [JF "_law_thing",JF "_law_k",JF "_law_part",JG "isinstance",JG "tuple",JG "enumerate",JG "str",JG "len"] [JI "_law_thing",JI "_law_k",JI "_law_part",JI "_law_sign"]
abbrev o7:Stmt:=top 42
noncomputable abbrev Lw:Scope:=JH [("_law_fold",.cell),JF "_law_at_here",JF "_law_order_here",JF "_law_row",("_law_behind",.cell),JG "isinstance",JG "tuple",JG "len",JG "str",JG "_law_are_names",JG "_law_number",JG "list"] [JI "_law_fold",JI "_law_at_here",JI "_law_order_here",JI "_law_row",JI "_law_behind",JI "_law_goal"]
abbrev u3:Stmt:=top 43
noncomputable abbrev Ml:Scope:=JH [JF "_law_fold",JF "_law_at_here",JF "_law_row",("_law_found",.cell),JF "_law_goal",JG "_law_left"] [JI "_law_fold",JI "_law_at_here",JI "_law_row",JI "_law_found",JI "_law_goal",JI "_law_one"]
abbrev nw:Stmt:=top 44
noncomputable abbrev nh:Scope:=JH [JF "_law_fold",JF "_law_order_here",JF "_law_at_here",JG "isinstance",JG "tuple",JG "len",JG "range",JG "_law_is_row",JG "_law_left",JG "list"] []
abbrev uZ:Stmt:=top 45
noncomputable abbrev uE:Scope:=JH [JF "_law_script",JF "_law_most",JF "_law_many",JF "_law_words_here",JF "_law_key_here",JG "_law_mixed",JG "_law_words",JG "_law_key",JG "_law_order"] []
abbrev qM:Stmt:=top 46
noncomputable abbrev LX:Scope:=JH [("_law_ones",.cell),JF "_law_others",JG "tuple",JG "sorted"] [JI "_law_ones",JI "_law_others",JI "_law_name"]
abbrev Bi:Stmt:=top 47
noncomputable abbrev L3:Scope:=JH [JF "_law_script",JF "_law_many",JF "_law_words_here",JF "_law_key_here",("_law_order_here",.cell),JF "_law_fold",("_law_sheet_here",.cell),JF "_law_character",JF "_law_found",("_law_thing",.cell),JF "_law_seen",JF "_law_other",JF "_law_ones",("_law_others",.cell),JF "_law_due",JG "_law_made",JG "folded",JG "_law_sheet",JG "_law_mixed",JG "known",JG "forgotten",JG "always",JG "_law_things",JG "tuple",JG "range",JG "_law_answer",JG "_law_union"] [JI "_law_script",JI "_law_many",JI "_law_words_here",JI "_law_key_here",JI "_law_order_here",JI "_law_fold",JI "_law_sheet_here",JI "_law_character",JI "_law_found",JI "_law_one",JI "_law_thing",JI "_law_k",JI "_law_seen",JI "_law_other",JI "_law_ones",JI "_law_others",JI "_law_name",JI "_law_due"]
set_option hygiene false in
local macro_rules|`(tactic|and_intros)=>`(tactic|(have hu:=aU hr;have J_:=aS hr;have Ky:=aT hr;have K1:=hr.gd))
set_option hygiene false in
local macro_rules|`(tactic|nofun)=>`(tactic|exact ⟨rfl,rfl,rfl,by decide,rfl,by decide,by decide⟩)
set_option hygiene false in
local macro_rules|`(tactic|exists $z)=>`(tactic|exact(show ∀ y∈(_:List (Str×NameKind)),y.2=NameKind.free->List.lookup y.1 ($z).names=some NameKind.cell∨List.lookup y.1 ($z).names=some NameKind.free from by decide))
set_option hygiene false in
local macro_rules|`(tactic|exists $z,$n)=>`(tactic|exact(show ∀ t∈(($z):List Nat),List.lookup ((($n):List Str).getD t Str.empty) _=some NameKind.free from by decide))
set_option hygiene false in
local macro_rules|`(tactic|symm)=>`(tactic|exact hr.mono (by omega))
set_option hygiene false in
local macro_rules|`(!$n:num)=>`(aa (i:=$n))
structure Top (K:JK) (mg:JN):Prop where
 S_:a_ K mg "asks" Bk ["row"]
 N4:a_ K mg "rows_below" lv ["row"]
 O0:a_ K mg "place_of" oZ ["row","order"]
 PF:a_ K mg "side_of" qN ["rows","number","character","value"]
 MI:a_ K mg "leave_row" nv ["rows","number","left"]
 M9:a_ K mg "rows_as_left" jf ["rows","top"]
 M_:a_ K mg "with_numbers" je ["row","numbers"]
 MT:EH K mg "Rows" "Rows.__init__" iO ["self","order"]
 MC:EH K mg "Pairs" "Pairs.__init__" g_ ["self","one","other","order"]
 MD:MethAt K "Rows" "fold_from" "Rows.fold_from" g9 ["self","top"]
 ME:MethAt K "Rows" "number_of" "Rows.number_of" g7 ["self","row"]
 LN:MethAt K "Rows" "number_of_ask" "Rows.number_of_ask" eN ["self","character","no","yes"]
 LO:MethAt K "Pairs" "side_of_pair" "Pairs.side_of_pair" eO ["self","pair","character","value"]
 MU:a_ K mg "names_of_both" bG ["names","others"]
 Mm:a_ K mg "names_in_common" bp ["names","others"]
 Mn:MethAt K "Pairs" "pair_anew" "Pairs.pair_anew" gw ["self","pair","names_of"]
 KH:MethAt K "Pairs" "number_of_pair" "Pairs.number_of_pair" dH ["self","pair","names_of"]
 Na:a_ K mg "put_together" jg ["one","other","order","names_of"]
 Qy:a_ K mg "joined" u5 ["one","other","order"]
 Qz:a_ K mg "common" u8 ["one","other","order"]
 Nx:a_ K mg "blank_sheet" j6 ["many"]
 N5:a_ K mg "with_value" lu ["sheet","character","value"]
 Nb:a_ K mg "number_known" jh ["rows","row","numbers","sheet"]
 Rp:a_ K mg "known" yC ["fold","sheet","order"]
 QA:a_ K mg "cut_at" u7 ["fold","character","value","order"]
 Ov:a_ K mg "forgotten" ny ["fold","character","order"]
 QB:a_ K mg "always" u9 ["fold","character","order"]
 Lx:MethAt K "Rows" "first_character" "Rows.first_character" dG ["self","character","no","yes"]
 Ow:MethAt K "Rows" "side" "Rows.side" nB ["self","number","character","value"]
 Ma:MethAt K "Rows" "choose_anew" "Rows.choose_anew" fX ["self","character","no","yes"]
 L4:MethAt K "Rows" "choose" "Rows.choose" j8 ["self","character","no","yes"]
 Lz:a_ K mg "number_of_key" iN ["rows","key"]
 QC:a_ K mg "folded" u6 ["key","order"]
 Ox:a_ K mg "_law_cell_at" nA ["_law_script","_law_k"]
 PH:a_ K mg "_law_mixed" qR ["_law_script","_law_k"]
 PJ:a_ K mg "_law_drawn" qS ["_law_number_here","_law_k"]
 PK:a_ K mg "_law_words" qL ["_law_number_here"]
 PL:a_ K mg "_law_names" qQ ["_law_number_here","_law_words_here"]
 Pl:a_ K mg "_law_key" yD ["_law_number_here","_law_words_here","_law_many","_law_deep"]
 PN:a_ K mg "_law_order" qP ["_law_number_here","_law_many"]
 PQ:a_ K mg "_law_sheet" qO ["_law_number_here","_law_many"]
 O1:a_ K mg "_law_things" oY ["_law_many"]
 Nc:a_ K mg "_law_answer" o8 ["_law_key_here","_law_thing"]
 Ta:a_ K mg "_law_at" Bj ["_law_fold","_law_thing"]
 O2:a_ K mg "_law_number" o6 ["_law_thing","_law_high"]
 Ny:a_ K mg "_law_are_names" j7 ["_law_thing"]
 O3:a_ K mg "_law_is_row" o7 ["_law_fold","_law_at_here","_law_order_here"]
 Oy:a_ K mg "_law_left" u3 ["_law_fold","_law_at_here"]
 Oz:a_ K mg "_law_is_fold" nw ["_law_fold","_law_order_here"]
 QD:a_ K mg "_law_made" uZ ["_law_script","_law_most"]
 PR:a_ K mg "_law_union" qM ["_law_ones","_law_others"]
 U2:a_ K mg "law" Bi ["_law_script"]
 KO:mg "len"=none
 O4:mg "list"=none
 LP:mg "enumerate"=none
 Ko:mg "tuple"=none
 RP:mg "zip"=none
 Mo:mg "sorted"=none
 U3:mg "set"=none
 RS:mg "min"=none
 K3:mg "range"=none
 RT:mg "int"=none
 Kq:mg "isinstance"=none
 Tb:mg "bool"=none
 RU:mg "str"=none
 KI:jy K "Rows" "order"
 Kh:jy K "Rows" "gathered"
 KJ:jy K "Rows" "numbers"
 KL:jy K "Rows" "choices"
 Ll:jy K "Pairs" "folds"
 KN:jy K "Pairs" "rows"
 K4:jy K "Pairs" "made"
section
variable {P:Program}{w:World}{K:JK}{mg:JN}{base:Heap}
theorem C7:au Bk=AR:=rfl
theorem Pm:JR ["row"] ["row"] AR:=by nofun
theorem lS (T:Top K mg):Lu P w K mg base 1 "asks" ["row"] m9:=
 aV T.S_ C7 Pm (λf Ka A outer s H E hr=>by
 and_intros;have nd:=Pm.nd
 exact(aq (aF (kG (dJ hu) (bd cL T.KO cD (ae (!0) ah)) ao))))
theorem qk:au lv=k9:=rfl
theorem L5:JR ["row"] ["row"] k9:=by nofun
theorem p8 (T:Top K mg):Lu P w K mg base 2 "rows_below" ["row"] dW:=
 aV T.N4 qk L5 (λf Ka A outer s H E hr=>by
 and_intros;have nd:=L5.nd
 exact(aq (aF (kE (dA (aG (lS T) (by symm) (ae (!0) ah))) (jd Ql (!0) ao trivial) (dF ah)))))
theorem uz:au oZ=oF:=rfl
theorem MJ:JR ["row","order"] ["row","order"] oF:=by nofun
theorem lR (T:Top K mg):Lu P w K mg base 2 "place_of" ["row","order"] iH:=
 aV T.O0 uz MJ (λf Ka A outer s H E hr=>by
 and_intros;have nd:=MJ.nd
 exact(aq (aF (kE (dA (aG (lS T) (by symm) (ae (!0) ah))) (q8 rfl (!1) (aH J_ (!0) ao)) (bd cL T.KO cD (ae (!1) ah))))))
theorem wL:au qN=qB:=rfl
theorem Nd:JR ["rows","number","character","value","row"] ["rows","number","character","value"] qB:=by nofun
theorem nS (T:Top K mg):Lu P w K mg base 1 "side_of" ["rows","number","character","value"] io:=
 aV T.PF wL Nd (λf Ka A outer s H E hr=>by
 and_intros;have nd:=Nd.nd
 exact(aj (aL (i:=4) nd (yB (!0) (!1)))
  (aq (aF (kE (bu (dJ hu) (aH J_ (!4) ao) (!2)) (aH J_ (!4) (aD aX ao (!3))) (!1))))))
theorem sf:au nv=m_:=rfl
theorem Mp:JR ["rows","number","left","below"] ["rows","number","left"] m_:=by nofun
theorem ko (T:Top K mg):∀ n:Nat,Lu P w K mg base (n+2) "leave_row" ["rows","number","left"] (bC n)
 | 0=>js T.MI
 |n+1=>by
  have Lm:=ko T n
  exact aV T.MI sf Mp (λf Ka A outer s H E hr=>by
   and_intros;have nd:=Mp.nd
   exact(aj (fS PassesOwn.never rfl (cH (aG (p8 T) (by symm) (ae (yB (!0) (!1)) ah))) (aM (i:=3) nd) (aq (cv (jC hu J_ Ky (!3) (!2)) (aq (oh (aG Lm (by symm) (ae (!0) (ae (!3) (ae (!2) ah)))))) bg)))
    (aq (w9 J_ (!2) (!1) fV))))
theorem nV:au jf=iY:=rfl
theorem LA:JR ["rows","top","left"] ["rows","top"] iY:=by nofun
theorem mP (T:Top K mg):Lu P w K mg base 13 "rows_as_left" ["rows","top"] ge:=
 aV T.M9 nV LA (λf Ka A outer s H E hr=>by
 and_intros;have nd:=LA.nd
 exact(aj (aL (i:=2) nd s9)
  (aj (oh (aG (ko T 10) (by symm) (ae (!0) (ae (!1) (ae (!2) ah)))))
  (aq (aF (uY J_ T.O4 (!2)))))))
theorem nU:au je=iX:=rfl
theorem LB:JR ["row","numbers"] ["row","numbers"] iX:=by nofun
theorem mO (T:Top K mg):Lu P w K mg base 2 "with_numbers" ["row","numbers"] f_:=
 aV T.M_ nU LB (λf Ka A outer s H E hr=>by
 and_intros;have nd:=LB.nd
 exact(aq (aF (kE (dA (aG (lS T) (by symm) (ae (!0) ah))) (dF (ae (aH J_ (!0) ao) (ae (aH J_ (!1) (aH J_ (!0) ao)) (ae (aH J_ (!1) (aH J_ (!0) ao)) ah)))) (!0)))))
theorem l9:au iO=iL:=rfl
theorem Lp:JR ["self","order"] ["self","order"] iL:=by nofun
theorem dQ (T:Top K mg):EI P w K mg base 1 "Rows" ["self","order"] br:=
 zk T.MT l9 Lp (λf Ka A outer s H E hr=>by
 and_intros;have nd:=Lp.nd
 exact(aj (kB T.KI (!0) (!1))
  (aj (kB T.Kh (!0) yA)
  (aj (kB T.KJ (!0) sW)
  (aq (kB T.KL (!0) sW))))))
theorem k7:au g_=gZ:=rfl
theorem Lg:JR ["self","one","other","order"] ["self","one","other","order"] gZ:=by nofun
theorem kS (T:Top K mg):EI P w K mg base 3 "Pairs" ["self","one","other","order"] b_:=
 zk T.MC k7 Lg (λf Ka A outer s H E hr=>by
 and_intros;have nd:=Lg.nd
 exact(aj (kB T.Ll (!0) (dF (ae (!1) (ae (!2) ah))))
  (aj (kB T.KN (!0) (oj (dQ T) (by symm) (ae (!3) ah)))
  (aq (kB T.K4 (!0) sW)))))
theorem kZ:au g9=Kx:=rfl
theorem Lh:JR ["self","top","left","numbers","place","number"] ["self","top"] Kx:=by nofun
theorem dc (T:Top K mg):kX P w K mg base 14 "Rows" "fold_from" ["self","top"] b9:=
 eI T.MD kZ Lh (λf Ka A outer s H E hr=>by
 and_intros;have nd:=Lh.nd
 exact(aj (aL (i:=2) nd (aG (mP T) (by symm) (ae (bF T.Kh (!0)) (ae (!1) ah))))
  (aj (aL (i:=3) nd s9)
  (aj (fS PassesOwn.never rfl (A5 rfl T.LP (ae (!2) ah)) (mw rfl (bQ (aM (i:=4) nd) (bQ (aM (i:=5) nd) jJ))) (aq (w9 J_ (!3) (!5) (!4))))
  (aq (aF (bw d8 T.Ko bJ (ae (bR (ts:=["number"]) (ix:=[3,0]) rfl ⟨rfl,by decide,by decide,by exists Kx⟩ (by exists [3,0],["self","top","left","numbers","place","number"]) (cH (!2)) (λ_ _ _ _ _=>⟨(aM (i:=0) (show (["number","numbers","self"]:List Str).Nodup from by decide)),dC,(aG (mO T) (by symm) (ae (kD (bF T.Kh (!2)) (!0)) (ae (!1) ah)))⟩)) ah))))))))
theorem kY:au g7=gW:=rfl
theorem Li:JR ["self","row"] ["self","row"] gW:=by nofun
theorem cn (T:Top K mg):kX P w K mg base 1 "Rows" "number_of" ["self","row"] bn:=
 eI T.ME kY Li (λf Ka A outer s H E hr=>by
 and_intros;have nd:=Li.nd
 exact(aj (cv (mf hu (!1) (bF T.KJ (!0))) (aj (sN hu (bF T.KJ (!0)) (!1) (Du T.KO (bF T.Kh (!0))))
  (aq (oh (Bh rfl (bF T.Kh (!0)) (!1))))) bg)
  (aq (aF (sV hu (bF T.KJ (!0)) (!1))))))
theorem iS:au eN=eL:=rfl
theorem KP:JR ["self","character","no","yes"] ["self","character","no","yes"] eL:=by nofun
theorem bL (T:Top K mg):kX P w K mg base 2 "Rows" "number_of_ask" ["self","character","no","yes"] bj:=
 eI T.LN iS KP (λf Ka A outer s H E hr=>by
 and_intros;have nd:=KP.nd
 exact(aq (aF (kE (bu (dJ hu) (!2) (!3)) (!2) (aZ (cn T) (by symm) (!0) (ae (dF (ae (!1) (ae (!2) (ae (!3) ah)))) ah))))))
theorem iT:au eO=Kl:=rfl
theorem KR:JR ["self","pair","character","value"] ["self","pair","character","value"] Kl:=by nofun
theorem dR (T:Top K mg):kX P w K mg base 2 "Pairs" "side_of_pair" ["self","pair","character","value"] bU:=
 eI T.LO iT KR (λf Ka A outer s H E hr=>by
 and_intros;have nd:=KR.nd
 exact(aq (aF (bw d8 T.Ko bJ (ae (bR (ts:=["fold","number"]) (ix:=[2,3]) rfl ⟨rfl,by decide,by decide,by exists Kl⟩ (by exists [2,3],["self","pair","character","value"]) (A4 rfl T.RP (ae (bF T.Ll (!0)) (ae (!1) ah))) (λ_ _ _ _ _=>⟨(mw rfl (bQ (aM (i:=0) (show (["fold","number","character","value"]:List Str).Nodup from by decide)) (bQ (aM (i:=1) (show (["fold","number","character","value"]:List Str).Nodup from by decide)) jJ))),dC,(aG (nS T) (by symm) (ae (!0) (ae (!1) (ae (!2) (ae (!3) ah)))))⟩)) ah)))))
theorem l8:au bG=iK:=rfl
theorem Lq:JR ["names","others"] ["names","others"] iK:=by nofun
theorem mR (T:Top K mg):C5 P w K mg base 1 "names_of_both" bG ["names","others"] c_:=
 zl (UL λ_ _ _ _ _ _ _ _=>rfl) l8 Lq (λf Ka A outer s H E hr=>by
 and_intros;have nd:=Lq.nd
 exact(aq (aF (bw d8 T.Ko bJ (ae (xc rfl rfl rfl T.Mo T.U3 (aD aX (!0) (!1))) ah)))))
theorem kt:au bp=Kt:=rfl
theorem K9:JR ["names","others"] ["names","others"] Kt:=by nofun
theorem kT (T:Top K mg):C5 P w K mg base 1 "names_in_common" bp ["names","others"] cF:=
 zl (UL λ_ _ _ _ _ _ _ _=>rfl) kt K9 (λf Ka A outer s H E hr=>by
 and_intros;have nd:=K9.nd
 exact(aq (aF (bw d8 T.Ko bJ (ae (bR (ts:=["name"]) (ix:=[1]) rfl ⟨rfl,by decide,by decide,by exists Kt⟩ (by exists [1],["names","others"]) (cH (!0)) (λ_ _ _ _ _=>⟨(aM (i:=0) (show (["name","others"]:List Str).Nodup from by decide)),(gu (sF hu J_ Ky (!0) (!1))),(!0)⟩)) ah)))))
theorem kA:au gw=Kf:=rfl
theorem K_:JR ["self","pair","names_of","order","rows","first","no","yes"] ["self","pair","names_of"] Kf:=by nofun
theorem j3 (T:Top K mg){n:Nat}{rec:JO}(Lm:kX P w K mg base (n*2+2) "Pairs" "number_of_pair" ["self","pair","names_of"] rec):kX P w K mg base (n*2+3) "Pairs" "pair_anew" ["self","pair","names_of"] (dX rec):=by
 rw[show n*2+3=(n*2+2)+1 from by omega]
 exact eI T.Mn kA K_ (λf Ka A outer s H E hr=>by
 and_intros;have nd:=K_.nd
 exact(aj (aL (i:=3) nd (bF T.KI (bF T.KN (!0))))
  (aj (oT (ts:=["fold","number"]) (ix:=[]) (i:=4) nd rfl ⟨rfl,by decide,by decide,by exists Kf⟩ (by exists [],["self","pair","names_of","order","rows","first","no","yes"]) (A4 rfl T.RP (ae (bF T.Ll (!0)) (ae (!1) ah))) (λ_ _ _ _ _=>⟨(mw rfl (bQ (aM (i:=0) (show (["fold","number"]:List Str).Nodup from by decide)) (bQ (aM (i:=1) (show (["fold","number"]:List Str).Nodup from by decide)) jJ))),dC,(aH J_ (!0) (!1))⟩))
  (aj (aL (i:=5) nd (bd (zj rfl) T.RS CS (ae (bR (ts:=["row"]) (ix:=[3]) rfl ⟨rfl,by decide,by decide,by exists Kf⟩ (by exists [3],["self","pair","names_of","order","rows","first","no","yes"]) (cH (!4)) (λ_ _ _ _ _=>⟨(aM (i:=0) (show (["row","order"]:List Str).Nodup from by decide)),dC,(aG (lR T) (by symm) (ae (!0) (ae (!1) ah)))⟩)) ah)))
  (aj (cv (bu (dJ hu) (!5) (bd cL T.KO cD (ae (!3) ah))) (aq (aF (aZ (cn T) (by symm) (bF T.KN (!0)) (ae (dF (ae dZ (ae (Bg (uQ (mR T) (by symm) (uQ (kT T) (by symm) Dk)) (!2) (ae (aH J_ (aH J_ (!4) ao) ao) (ae (aH J_ (aH J_ (!4) ao) ao) ah))) ah))) ah)))) bg)
  (aj (aL (i:=6) nd (aZ Lm (by symm) (!0) (ae (aZ (dR T) (by symm) (!0) (ae (!1) (ae (aH J_ (!3) (!5)) (ae ao ah)))) (ae (!2) ah))))
  (aj (aL (i:=7) nd (aZ Lm (by symm) (!0) (ae (aZ (dR T) (by symm) (!0) (ae (!1) (ae (aH J_ (!3) (!5)) (ae ao ah)))) (ae (!2) ah))))
  (aq (aF (aZ (bL T) (by symm) (bF T.KN (!0)) (ae (aH J_ (!3) (!5)) (ae (!6) (ae (!7) ah)))))))))))))
theorem gU:au dH=dz:=rfl
theorem KC:JR ["self","pair","names_of"] ["self","pair","names_of"] dz:=by nofun
theorem cW (T:Top K mg):∀ n:Nat,kX P w K mg base (n*2+2) "Pairs" "number_of_pair" ["self","pair","names_of"] (bN n)
 | 0=>rW T.KH
 |n+1=>by
  have Lm:=cW T n;rw[show (n+1)*2+2=(n*2+3)+1 from by omega]
  exact eI T.KH gU KC (λf Ka A outer s H E hr=>by
   and_intros;have nd:=KC.nd
   exact(aj (cv (mf hu (!1) (bF T.K4 (!0))) (aq (sN hu (bF T.K4 (!0)) (!1) (aZ (j3 T Lm) (by symm) (!0) (ae (!1) (ae (!2) ah))))) bg)
    (aq (aF (sV hu (bF T.K4 (!0)) (!1))))))
theorem nW:au jg=iZ:=rfl
theorem LC:JR ["one","other","order","names_of","pairs"] ["one","other","order","names_of"] iZ:=by nofun
theorem ij (T:Top K mg):Lu P w K mg base 21 "put_together" ["one","other","order","names_of"] cO:=
 aV T.Na nW LC (λf Ka A outer s H E hr=>by
 and_intros;have nd:=LC.nd
 exact(aj (aL (i:=4) nd (oj (kS T) (by symm) (ae (!0) (ae (!1) (ae (!2) ah)))))
  (aq (aF (aZ (dc T) (by symm) (bF T.KN (!4)) (ae (aZ (cW T 9) (by symm) (!4) (ae (dF (ae (aD gN (bd cL T.KO cD (ae (!0) ah)) ao) (ae (aD gN (bd cL T.KO cD (ae (!1) ah)) ao) ah))) (ae (!3) ah))) ah))))))
theorem zx:au u5=uF:=rfl
theorem NH:JR ["one","other","order"] ["one","other","order"] uF:=by nofun
theorem xV (T:Top K mg):Lu P w K mg base 22 "joined" ["one","other","order"] qg:=
 aV T.Qy zx NH (λf Ka A outer s H E hr=>by
 and_intros;have nd:=NH.nd
 exact(aq (aF (aG (ij T) (by symm) (ae (!0) (ae (!1) (ae (!2) (ae (EN T.MU) ah))))))))
theorem zA:au u8=uI:=rfl
theorem NI:JR ["one","other","order"] ["one","other","order"] uI:=by nofun
theorem xW (T:Top K mg):Lu P w K mg base 22 "common" ["one","other","order"] qh:=
 aV T.Qz zA NI (λf Ka A outer s H E hr=>by
 and_intros;have nd:=NI.nd
 exact(aq (aF (aG (ij T) (by symm) (ae (!0) (ae (!1) (ae (!2) (ae (EN T.Mm) ah))))))))
theorem oB:au j6=KY:=rfl
theorem LR:JR ["many"] ["many"] KY:=by nofun
theorem n9 (T:Top K mg):Lu P w K mg base 1 "blank_sheet" ["many"] gR:=
 aV T.Nx oB LR (λf Ka A outer s H E hr=>by
 and_intros;have nd:=LR.nd
 exact(aq (aF (bw d8 T.Ko bJ (ae (bR (ts:=["character"]) (ix:=[]) rfl ⟨rfl,by decide,by decide,by exists KY⟩ (by exists [],["many"]) (dg rfl T.K3 (ae (!0) ah)) (λ_ _ _ _ _=>⟨(aM (i:=0) (show (["character"]:List Str).Nodup from by decide)),dC,sU⟩)) ah)))))
theorem qj:au lu=k8:=rfl
theorem L6:JR ["sheet","character","value"] ["sheet","character","value"] k8:=by nofun
theorem p7 (T:Top K mg):Lu P w K mg base 1 "with_value" ["sheet","character","value"] fG:=
 aV T.N5 qj L6 (λf Ka A outer s H E hr=>by
 and_intros;have nd:=L6.nd
 exact(aq (aF (aD aX (aD aX (jd Ql (!0) trivial (!1)) (dF (ae (!2) ah))) (jd Ql (!0) (aD aX (!1) ao) trivial)))))
theorem nY:au jh=i0:=rfl
theorem LD:JR ["rows","row","numbers","sheet","value"] ["rows","row","numbers","sheet"] i0:=by nofun
theorem mQ (T:Top K mg):Lu P w K mg base 3 "number_known" ["rows","row","numbers","sheet"] gf:=
 aV T.Nb nY LD (λf Ka A outer s H E hr=>by
 and_intros;have nd:=LD.nd
 exact(aj (cv (eU (dA (aG (lS T) (by symm) (ae (!1) ah)))) (aq (aF (aZ (cn T) (by symm) (!0) (ae (!1) ah)))) bg)
  (aj (aL (i:=4) nd (aH J_ (!3) (aH J_ (!1) ao)))
  (aj (cv (bu ET (!4) sU) (aq (aF (aZ (bL T) (by symm) (!0) (ae (aH J_ (!1) ao) (ae (kD (!2) (aH J_ (!1) ao)) (ae (kD (!2) (aH J_ (!1) ao)) ah)))))) bg)
  (aq (aF (kD (!2) (aH J_ (!1) (aD aX ao (!4))))))))))
theorem AL:au yC=yj:=rfl
theorem OA:JR ["fold","sheet","order","rows","numbers","row"] ["fold","sheet","order"] yj:=by nofun
theorem rS (T:Top K mg):Lu P w K mg base 15 "known" ["fold","sheet","order"] iI:=
 aV T.Rp AL OA (λf Ka A outer s H E hr=>by
 and_intros;have nd:=OA.nd
 exact(aj (aL (i:=3) nd (oj (dQ T) (by symm) (ae (!2) ah)))
  (aj (aL (i:=4) nd yA)
  (aj (fS PassesOwn.never rfl (cH (!0)) (aM (i:=5) nd) (aq (oh (Bh rfl (!4) (aG (mQ T) (by symm) (ae (!3) (ae (!5) (ae (!4) (ae (!1) ah)))))))))
  (aq (aF (aZ (dc T) (by symm) (!3) (ae (kD (!4) (Bc wT ao)) ah))))))))
theorem zz:au u7=uH:=rfl
theorem NJ:JR ["fold","character","value","order"] ["fold","character","value","order"] uH:=by nofun
theorem iE (T:Top K mg):Lu P w K mg base 16 "cut_at" ["fold","character","value","order"] cP:=
 aV T.QA zz NJ (λf Ka A outer s H E hr=>by
 and_intros;have nd:=NJ.nd
 exact(aq (aF (aG (rS T) (by symm) (ae (!0) (ae (aG (p7 T) (by symm) (ae (aG (n9 T) (by symm) (ae (bd cL T.KO cD (ae (!3) ah)) ah)) (ae (!1) (ae (!2) ah)))) (ae (!3) ah)))))))
theorem sk:au ny=ni:=rfl
theorem Mq:JR ["fold","character","order"] ["fold","character","order"] ni:=by nofun
theorem qy (T:Top K mg):Lu P w K mg base 23 "forgotten" ["fold","character","order"] gK:=
 aV T.Ov sk Mq (λf Ka A outer s H E hr=>by
 and_intros;have nd:=Mq.nd
 exact(aq (aF (aG (xV T) (by symm) (ae (aG (iE T) (by symm) (ae (!0) (ae (!1) (ae ao (ae (!2) ah))))) (ae (aG (iE T) (by symm) (ae (!0) (ae (!1) (ae ao (ae (!2) ah))))) (ae (!2) ah)))))))
theorem zB:au u9=uJ:=rfl
theorem NK:JR ["fold","character","order"] ["fold","character","order"] uJ:=by nofun
theorem xX (T:Top K mg):Lu P w K mg base 23 "always" ["fold","character","order"] l5:=
 aV T.QB zB NK (λf Ka A outer s H E hr=>by
 and_intros;have nd:=NK.nd
 exact(aq (aF (aG (xW T) (by symm) (ae (aG (iE T) (by symm) (ae (!0) (ae (!1) (ae ao (ae (!2) ah))))) (ae (aG (iE T) (by symm) (ae (!0) (ae (!1) (ae ao (ae (!2) ah))))) (ae (!2) ah)))))))
theorem gT:au dG=Ki:=rfl
theorem KD:JR ["self","character","no","yes","places"] ["self","character","no","yes"] Ki:=by nofun
theorem gP (T:Top K mg):kX P w K mg base 3 "Rows" "first_character" ["self","character","no","yes"] cr:=
 eI T.Lx gT KD (λf Ka A outer s H E hr=>by
 and_intros;have nd:=KD.nd
 exact(aj (oT (ts:=["number"]) (ix:=[0]) (i:=4) nd rfl ⟨rfl,by decide,by decide,by exists Ki⟩ (by exists [0],["self","character","no","yes","places"]) (cH (dF (ae (!2) (ae (!3) ah)))) (λ_ _ _ _ _=>⟨(aM (i:=0) (show (["number","self"]:List Str).Nodup from by decide)),dC,(aG (lR T) (by symm) (ae (kD (bF T.Kh (!1)) (!0)) (ae (bF T.KI (!1)) ah)))⟩))
  (aq (aF (aH J_ (bF T.KI (!0)) (bd (zj rfl) T.RS CS (ae (aD aX (!4) (gL (ae (q8 rfl (bF T.KI (!0)) (!1)) ah))) ah)))))))
theorem sx:au nB=nk:=rfl
theorem Mr:JR ["self","number","character","value"] ["self","number","character","value"] nk:=by nofun
theorem cB (T:Top K mg):kX P w K mg base 2 "Rows" "side" ["self","number","character","value"] cb:=
 eI T.Ow sx Mr (λf Ka A outer s H E hr=>by
 and_intros;have nd:=Mr.nd
 exact(aq (aF (aG (nS T) (by symm) (ae (bF T.Kh (!0)) (ae (!1) (ae (!2) (ae (!3) ah))))))))
theorem jX:au fX=fN:=rfl
theorem K2:JR ["self","character","no","yes","first","without","having"] ["self","character","no","yes"] fN:=by nofun
theorem jt (T:Top K mg){n:Nat}{rec:JO}(Lm:kX P w K mg base (n*2+3) "Rows" "choose" ["self","character","no","yes"] rec):kX P w K mg base (n*2+4) "Rows" "choose_anew" ["self","character","no","yes"] (df rec):=by
 rw[show n*2+4=(n*2+3)+1 from by omega]
 exact eI T.Ma jX K2 (λf Ka A outer s H E hr=>by
 and_intros;have nd:=K2.nd
 exact(aj (aL (i:=4) nd (aZ (gP T) (by symm) (!0) (ae (!1) (ae (!2) (ae (!3) ah)))))
  (aj (cv (bu (dJ hu) (!4) (!1)) (aq (aF (aZ (bL T) (by symm) (!0) (ae (!1) (ae (aZ (cB T) (by symm) (!0) (ae (!2) (ae (!1) (ae ao ah)))) (ae (aZ (cB T) (by symm) (!0) (ae (!3) (ae (!1) (ae ao ah)))) ah)))))) bg)
  (aj (aL (i:=5) nd (aZ Lm (by symm) (!0) (ae (!1) (ae (aZ (cB T) (by symm) (!0) (ae (!2) (ae (!4) (ae ao ah)))) (ae (aZ (cB T) (by symm) (!0) (ae (!3) (ae (!4) (ae ao ah)))) ah)))))
  (aj (aL (i:=6) nd (aZ Lm (by symm) (!0) (ae (!1) (ae (aZ (cB T) (by symm) (!0) (ae (!2) (ae (!4) (ae ao ah)))) (ae (aZ (cB T) (by symm) (!0) (ae (!3) (ae (!4) (ae ao ah)))) ah)))))
  (aq (aF (aZ (bL T) (by symm) (!0) (ae (!4) (ae (!5) (ae (!6) ah)))))))))))
theorem oE:au j8=j5:=rfl
theorem LS:JR ["self","character","no","yes","choice"] ["self","character","no","yes"] j5:=by nofun
theorem iR (T:Top K mg):∀ n:Nat,kX P w K mg base (n*2+3) "Rows" "choose" ["self","character","no","yes"] (eK n)
 | 0=>rW T.L4
 |n+1=>by
  have Lm:=iR T n;rw[show (n+1)*2+3=(n*2+4)+1 from by omega]
  exact eI T.L4 oE LS (λf Ka A outer s H E hr=>by
   and_intros;have nd:=LS.nd
   exact(aj (aL (i:=4) nd (dF (ae (!1) (ae (!2) (ae (!3) ah)))))
    (aj (cv (mf hu (!4) (bF T.KL (!0))) (aq (sN hu (bF T.KL (!0)) (!4) (kE (bu (dJ hu) (!2) (!3)) (!2) (aZ (jt T Lm) (by symm) (!0) (ae (!1) (ae (!2) (ae (!3) ah))))))) bg)
    (aq (aF (sV hu (bF T.KL (!0)) (!4)))))))
theorem l7:au iN=iJ:=rfl
theorem Lr:JR ["rows","key"] ["rows","key"] iJ:=by nofun
theorem gF (T:Top K mg):∀ n:Nat,Lu P w K mg base (n+21) "number_of_key" ["rows","key"] (c0 n)
 | 0=>js T.Lz
 |n+1=>by
  have Lm:=gF T n
  exact aV T.Lz l7 Lr (λf Ka A outer s H E hr=>by
   and_intros;have nd:=Lr.nd
   exact(aj (cv (bu (dJ hu) (aH J_ (!1) ao) dZ) (aq (aF (aZ (cn T) (by symm) (!0) (ae (!1) ah)))) bg)
    (aq (aF (aZ (iR T 9) (by symm) (!0) (ae (aH J_ (!1) ao) (ae (aG Lm (by symm) (ae (!0) (ae (aH J_ (!1) ao) ah))) (ae (aG Lm (by symm) (ae (!0) (ae (aH J_ (!1) ao) ah))) ah))))))))
theorem zy:au u6=uG:=rfl
theorem NL:JR ["key","order","rows"] ["key","order"] uG:=by nofun
theorem p_ (T:Top K mg):Lu P w K mg base 37 "folded" ["key","order"] gh:=
 aV T.QC zy NL (λf Ka A outer s H E hr=>by
 and_intros;have nd:=NL.nd
 exact(aj (aL (i:=2) nd (oj (dQ T) (by symm) (ae (!1) ah)))
  (aq (aF (aZ (dc T) (by symm) (!2) (ae (aG (gF T 15) (by symm) (ae (!2) (ae (!0) ah))) ah))))))
theorem sw:au nA=nj:=rfl
theorem Ms:JR ["_law_script","_law_k"] ["_law_script","_law_k"] nj:=by nofun
theorem qz (T:Top K mg):Lu P w K mg base 1 "_law_cell_at" ["_law_script","_law_k"] jA:=
 aV T.Ox sw Ms (λf Ka A outer s H E hr=>by
 and_intros;have nd:=Ms.nd
 exact(aj (cv (bu vn (!1) (bd cL T.KO cD (ae (!0) ah))) (aq (aF (aH J_ (!0) (!1)))) bg)
  (aq (aF ao))))
theorem wP:au qR=qD:=rfl
theorem Nf:JR ["_law_script","_law_k","_law_drawn_here"] ["_law_script","_law_k"] qD:=by nofun
theorem cM (T:Top K mg):Lu P w K mg base 2 "_law_mixed" ["_law_script","_law_k"] bq:=
 aV T.PH wP Nf (λf Ka A outer s H E hr=>by
 and_intros;have nd:=Nf.nd
 exact(aj (aL (i:=2) nd (aD cS (aD eX (aD aX (aD aX (aG (qz T) (by symm) (ae (!0) (ae (!1) ah))) (aD eX ao (!1))) ao) ao) ao))
  (aq (aF (aD cS (aD aX (aD aX (aD eX (!2) (!2)) (aD eX ao (!2))) (!1)) ao)))))
theorem wQ:au qS=qE:=rfl
theorem Ng:JR ["_law_number_here","_law_k","_law_drawn_here"] ["_law_number_here","_law_k"] qE:=by nofun
theorem eS (T:Top K mg):Lu P w K mg base 1 "_law_drawn" ["_law_number_here","_law_k"] d_:=
 aV T.PJ wQ Ng (λf Ka A outer s H E hr=>by
 and_intros;have nd:=Ng.nd
 exact(aj (aL (i:=2) nd (aD cS (aD eX (aD aX (aD aX (!0) (aD eX ao (!1))) ao) ao) ao))
  (aq (aF (aD cS (aD aX (aD aX (aD eX (!2) (!2)) (aD eX ao (!2))) (!1)) ao)))))
theorem wJ:au qL=qA:=rfl
theorem Nh:JR ["_law_number_here","_law_letters","_law_found","_law_k","_law_drawn_here","_law_word","_law_at_here"] ["_law_number_here"] qA:=by nofun
theorem wf (T:Top K mg):Lu P w K mg base 2 "_law_words" ["_law_number_here"] mW:=
 aV T.PK wJ Nh (λf Ka A outer s H E hr=>by
 and_intros;have nd:=Nh.nd
 exact(aj (aL (i:=1) nd dZ)
  (aj (aL (i:=2) nd s9)
  (aj (fS PassesOwn.never rfl (dg rfl T.K3 (ae ao ah)) (aM (i:=3) nd) (aj (aL (i:=4) nd (aG (eS T) (by symm) (ae (!0) (ae (!3) ah))))
  (aj (aL (i:=5) nd (aH J_ (!1) (aD cS (!4) ao)))
  (aj (fS PassesOwn.never rfl (dg rfl T.K3 (ae (aD eX (aD cS (aD lH (!4) ao) ao) (aD cS (!0) ao)) ah)) (aM (i:=6) nd) (aq (aL (i:=5) nd (aD aX (!5) (aH J_ (!1) (aD cS (aD lH (!4) (aD aX (aD eX ao (!6)) ao)) ao))))))
  (aq (w9 J_ (!2) (aD aX (!5) (aD eX dZ (bw Gw T.RT CT (ae (Fr hu J_ Ky (!5) (kC (.tup (.cons (.str ⟨by decide,by decide⟩) (.cons (.str ⟨by decide,by decide⟩) (.cons (.str ⟨by decide,by decide⟩) .nil))) (by decide)))) ah)))) fV))))))
  (aq (aF (bw d8 T.Ko bJ (ae (yz rfl rfl T.Mo (!2)) ah))))))))
theorem wO:au qQ=LV:=rfl
theorem Ni:JR ["_law_number_here","_law_words_here"] ["_law_number_here","_law_words_here"] LV:=by nofun
theorem wm (T:Top K mg):Lu P w K mg base 1 "_law_names" ["_law_number_here","_law_words_here"] m5:=
 aV T.PL wO Ni (λf Ka A outer s H E hr=>by
 and_intros;have nd:=Ni.nd
 exact(aq (aF (bw d8 T.Ko bJ (ae (bR (ts:=["_law_k","_law_word"]) (ix:=[0]) rfl ⟨rfl,by decide,by decide,by exists LV⟩ (by exists [0],["_law_number_here","_law_words_here"]) (sS rfl T.LP (ae (!1) ah)) (λ_ _ _ _ _=>⟨(mw rfl (bQ (aM (i:=0) (show (["_law_k","_law_word","_law_number_here"]:List Str).Nodup from by decide)) (bQ (aM (i:=1) (show (["_law_k","_law_word","_law_number_here"]:List Str).Nodup from by decide)) jJ))),(gu (bu (dJ hu) (aD cS (aD lH (!2) (aD aX (aD eX ao (!0)) ao)) ao) ao)),(!1)⟩)) ah)))))
theorem AM:au yD=yl:=rfl
theorem OB:JR ["_law_number_here","_law_words_here","_law_many","_law_deep","_law_no","_law_yes"] ["_law_number_here","_law_words_here","_law_many","_law_deep"] yl:=by nofun
theorem rV (T:Top K mg):∀ n:Nat,Lu P w K mg base (n+1) "_law_key" ["_law_number_here","_law_words_here","_law_many","_law_deep"] (l0 n)
 | 0=>js T.Pl
 |n+1=>by
  have Lm:=rV T n
  exact aV T.Pl AM OB (λf Ka A outer s H E hr=>by
   and_intros;have nd:=OB.nd
   exact(aj (cv (gr (lj (bu (dJ hu) (!3) ao) (mj (bu (dJ hu) (aD cS (!0) ao) ao)))) (aq (aF (dF (ae dZ (ae (aG (wm T) (by symm) (ae (aD lH (!0) ao) (ae (!1) ah))) ah))))) bg)
    (aj (aL (i:=4) nd (aG Lm (by symm) (ae (aG (eS T) (by symm) (ae (!0) (ae ao ah))) (ae (!1) (ae (!2) (ae (aD gN (!3) ao) ah))))))
    (aj (aL (i:=5) nd (aG Lm (by symm) (ae (aG (eS T) (by symm) (ae (!0) (ae ao ah))) (ae (!1) (ae (!2) (ae (aD gN (!3) ao) ah))))))
    (aq (aF (dF (ae dZ (ae (aD cS (aD lH (!0) ao) (!2)) (ae (!4) (ae (!5) ah)))))))))))
theorem wN:au qP=qC:=rfl
theorem Nj:JR ["_law_number_here","_law_many","_law_found","_law_k","_law_at_here"] ["_law_number_here","_law_many"] qC:=by nofun
theorem wl (T:Top K mg):Lu P w K mg base 2 "_law_order" ["_law_number_here","_law_many"] mZ:=
 aV T.PN wN Nj (λf Ka A outer s H E hr=>by
 and_intros;have nd:=Nj.nd
 exact(aj (aL (i:=2) nd (gL ah))
  (aj (fS PassesOwn.never rfl (dg rfl T.K3 (ae (!1) ah)) (aM (i:=3) nd) (aj (aL (i:=4) nd (aD cS (aG (eS T) (by symm) (ae (!0) (ae (!3) ah))) (aD aX (bd cL T.KO cD (ae (!2) ah)) ao)))
  (aq (aL (i:=2) nd (aD aX (aD aX (jd Ql (!2) trivial (!4)) (gL (ae (!3) ah))) (jd Ql (!2) (!4) trivial))))))
  (aq (aF (bw d8 T.Ko bJ (ae (!2) ah)))))))
theorem wM:au qO=LW:=rfl
theorem Nk:JR ["_law_number_here","_law_many"] ["_law_number_here","_law_many"] LW:=by nofun
theorem wj (T:Top K mg):Lu P w K mg base 2 "_law_sheet" ["_law_number_here","_law_many"] mY:=
 aV T.PQ wM Nk (λf Ka A outer s H E hr=>by
 and_intros;have nd:=Nk.nd
 exact(aq (aF (bw d8 T.Ko bJ (ae (bR (ts:=["_law_k"]) (ix:=[0]) rfl ⟨rfl,by decide,by decide,by exists LW⟩ (by exists [0],["_law_number_here","_law_many"]) (dg rfl T.K3 (ae (!1) ah)) (λ_ _ _ _ _=>⟨(aM (i:=0) (show (["_law_k","_law_number_here"]:List Str).Nodup from by decide)),dC,(aH J_ (kC (.tup (.cons .Kk (.cons .int (.cons .int (.cons .Kk .nil)))) (by decide))) (aD cS (aG (eS T) (by symm) (ae (!1) (ae (!0) ah))) ao))⟩)) ah)))))
theorem uy:au oY=KW:=rfl
theorem MK:JR ["_law_many","_law_found","_law_k"] ["_law_many"] KW:=by nofun
theorem ui (T:Top K mg):Lu P w K mg base 1 "_law_things" ["_law_many"] iG:=
 aV T.O1 uy MK (λf Ka A outer s H E hr=>by
 and_intros;have nd:=MK.nd
 exact(aj (aL (i:=1) nd (kC (.lst (.cons (.tup .nil (by decide)) .nil) (by decide))))
  (aj (fS PassesOwn.never rfl (dg rfl T.K3 (ae (!0) ah)) (aM (i:=2) nd) (aq (aL (i:=1) nd (aD aX (bR (ts:=["_law_thing"]) (ix:=[]) rfl ⟨rfl,by decide,by decide,by exists KW⟩ (by exists [],["_law_many","_law_found","_law_k"]) (cH (!1)) (λ_ _ _ _ _=>⟨(aM (i:=0) (show (["_law_thing"]:List Str).Nodup from by decide)),dC,(aD aX (!0) (kC (.tup (.cons .int .nil) (by decide))))⟩)) (bR (ts:=["_law_thing"]) (ix:=[]) rfl ⟨rfl,by decide,by decide,by exists KW⟩ (by exists [],["_law_many","_law_found","_law_k"]) (cH (!1)) (λ_ _ _ _ _=>⟨(aM (i:=0) (show (["_law_thing"]:List Str).Nodup from by decide)),dC,(aD aX (!0) (kC (.tup (.cons .int .nil) (by decide))))⟩))))))
  (aq (aF (bd CH T.Mo jW (ae (!1) ah)))))))
theorem uC:au o8=oH:=rfl
theorem ML:JR ["_law_key_here","_law_thing"] ["_law_key_here","_law_thing"] oH:=by nofun
theorem fD (T:Top K mg):∀ n:Nat,Lu P w K mg base (n+0) "_law_answer" ["_law_key_here","_law_thing"] (ej n)
 | 0=>js T.Nc
 |n+1=>by
  have Lm:=fD T n
  exact aV T.Nc uC ML (λf Ka A outer s H E hr=>by
   and_intros;have nd:=ML.nd
   exact(aj (cv (bu (dJ hu) (aH J_ (!0) ao) dZ) (aq (aF (aH J_ (!0) ao))) bg)
    (aq (aF (aG Lm (by symm) (ae (aH J_ (!0) (aD aX ao (aH J_ (!1) (aH J_ (!0) ao)))) (ae (!1) ah)))))))
theorem C6:au Bj=AQ:=rfl
theorem Pn:JR ["_law_fold","_law_thing","_law_row"] ["_law_fold","_law_thing"] AQ:=by nofun
theorem CK (T:Top K mg):Lu P w K mg base 1 "_law_at" ["_law_fold","_law_thing"] m8:=
 aV T.Ta C6 Pn (λf Ka A outer s H E hr=>by
 and_intros;have nd:=Pn.nd
 exact(aj (aL (i:=2) nd (aH J_ (!0) (Bc wT ao)))
  (aj (AZ PassesOwn.never (bu (qW hu) (aH J_ (!2) ao) dZ) (aq (aL (i:=2) nd (aH J_ (!0) (aH J_ (!2) (aD aX ao (aH J_ (!1) (aH J_ (!2) ao))))))))
  (aq (aF (aH J_ (!2) ao))))))
theorem uA:au o6=oG:=rfl
theorem MM:JR ["_law_thing","_law_high"] ["_law_thing","_law_high"] oG:=by nofun
theorem iD (T:Top K mg):Lu P w K mg base 1 "_law_number" ["_law_thing","_law_high"] gg:=
 aV T.O2 uA MM (λf Ka A outer s H E hr=>by
 and_intros;have nd:=MM.nd
 exact(aq (aF (s_ (kF Ed rfl T.Kq T.RT CT (!0)) (s_ (Fq (kF Ca rfl T.Kq T.Tb EC (!0))) (Bd (Bf ES ES ao (!0) (!1))))))))
theorem oC:au j7=KZ:=rfl
theorem LU:JR ["_law_thing","_law_k","_law_part"] ["_law_thing"] KZ:=by nofun
theorem n_ (T:Top K mg):Lu P w K mg base 1 "_law_are_names" ["_law_thing"] gS:=
 aV T.Ny oC LU (λf Ka A outer s H E hr=>by
 and_intros;have nd:=LU.nd
 exact(aj (cv (eU (dA (kF kit_tuple rfl T.Kq T.Ko bJ (!0)))) (aq (aF fV)) bg)
  (aj (fS PassesOwn.never rfl (sS rfl T.LP (ae (!0) ah)) (mw rfl (bQ (aM (i:=1) nd) (bQ (aM (i:=2) nd) jJ))) (aj (cv (gr (lj (eU (dA (kF yS rfl T.Kq T.RU CP (!2)))) (lj (eU (AV vn vn ao (bd cL T.KO cD (ae (!2) ah)) ao)) (mj (gr (AX (bu He (!1) ao) (yt (eU (bu vn (aH J_ (!0) (aD gN (!1) ao)) (!2)))))))))) (aq (aF fV)) bg)
  (aj (cv (sF hu J_ Ky (!2) (kC (.tup (.cons (.str ⟨by decide,by decide⟩) (.cons (.str ⟨by decide,by decide⟩) (.cons (.str ⟨by decide,by decide⟩) .nil))) (by decide)))) (aq (aF fV)) bg)
  (aq (cv (bu (qW hu) (bR (ts:=["_law_sign"]) (ix:=[]) rfl ⟨rfl,by decide,by decide,by exists KZ⟩ (by exists [],["_law_thing","_law_k","_law_part"]) (cH (!2)) (λ_ _ _ _ _=>⟨(aM (i:=0) (show (["_law_sign"]:List Str).Nodup from by decide)),(gu (bu vn (D7 rfl dZ (!0)) ao)),(!0)⟩)) (gL ah)) (aq (aF fV)) bg)))))
  (aq (aF fV)))))
theorem uB:au o7=Lw:=rfl
theorem MN:JR ["_law_fold","_law_at_here","_law_order_here","_law_row","_law_behind"] ["_law_fold","_law_at_here","_law_order_here"] Lw:=by nofun
theorem uj (T:Top K mg):Lu P w K mg base 2 "_law_is_row" ["_law_fold","_law_at_here","_law_order_here"] kW:=
 aV T.O3 uB MN (λf Ka A outer s H E hr=>by
 and_intros;have nd:=MN.nd
 exact(aj (aL (i:=3) nd (aH J_ (!0) (!1)))
  (aj (cv (gr (lj (eU (dA (kF kit_tuple rfl T.Kq T.Ko bJ (!3)))) (lj (bu (dJ hu) (bd cL T.KO cD (ae (!3) ah)) ao) (mj (sF hu J_ Ky (!3) (jd Ql (!0) trivial (!1))))))) (aq (aF fV)) bg)
  (aj (cv (dA (kF yS rfl T.Kq T.RU CP (aH J_ (!3) ao))) (aq (aF (s_ (kG (dJ hu) (aH J_ (!3) ao) dZ) (s_ (kG (dJ hu) (bd cL T.KO cD (ae (!3) ah)) ao) (Bd (aG (n_ T) (by symm) (ae (aH J_ (!3) ao) ah))))))) bg)
  (aj (cv (gr (lj (bu (qW hu) (bd cL T.KO cD (ae (!3) ah)) ao) (mj (eU (dA (aG (iD T) (by symm) (ae (aH J_ (!3) ao) (ae (aD gN (bd cL T.KO cD (ae (!2) ah)) ao) ah)))))))) (aq (aF fV)) bg)
  (aj (cv (gr (lj (eU (dA (aG (iD T) (by symm) (ae (aH J_ (!3) ao) (ae (aD gN (!1) ao) ah))))) (lj (eU (dA (aG (iD T) (by symm) (ae (aH J_ (!3) ao) (ae (aD gN (!1) ao) ah))))) (mj (bu (dJ hu) (aH J_ (!3) ao) (aH J_ (!3) ao)))))) (aq (aF fV)) bg)
  (aj (aL (i:=4) nd (jd Ql (!2) (aD aX (B0 rfl (bw Gv T.O4 ur (ae (!2) ah)) (aH J_ (!3) ao)) ao) trivial))
  (aq (aF (kG (dJ hu) (bR (ts:=["_law_goal"]) (ix:=[4,0]) rfl ⟨rfl,by decide,by decide,by exists Lw⟩ (by exists [4,0],["_law_fold","_law_at_here","_law_order_here","_law_row","_law_behind"]) (cH (jd Ql (!3) ao trivial)) (λ_ _ _ _ _=>⟨(aM (i:=0) (show (["_law_goal","_law_behind","_law_fold"]:List Str).Nodup from by decide)),(gu (gr (AX (bu (qW hu) (aH J_ (aH J_ (!2) (!0)) ao) dZ) (yt (jC hu J_ Ky (aH J_ (aH J_ (!2) (!0)) ao) (!1)))))),(!0)⟩)) (gL ah)))))))))))
theorem zw:au u3=Ml:=rfl
theorem NM:JR ["_law_fold","_law_at_here","_law_row","_law_found","_law_goal"] ["_law_fold","_law_at_here"] Ml:=by nofun
theorem p9 (T:Top K mg):∀ n:Nat,Lu P w K mg base (n+0) "_law_left" ["_law_fold","_law_at_here"] (cX n)
 | 0=>js T.Oy
 |n+1=>by
  have Lm:=p9 T n
  exact aV T.Oy zw NM (λf Ka A outer s H E hr=>by
   and_intros;have nd:=NM.nd
   exact(aj (aL (i:=2) nd (aH J_ (!0) (!1)))
    (aj (aL (i:=3) nd (gL ah))
    (aj (cv (bu (qW hu) (aH J_ (!2) ao) dZ) (aq (fS PassesOwn.never rfl (cH (jd Ql (!2) ao trivial)) (aM (i:=4) nd) (aq (aL (i:=3) nd (aD aX (!3) (bR (ts:=["_law_one"]) (ix:=[3]) rfl ⟨rfl,by decide,by decide,by exists Ml⟩ (by exists [3],["_law_fold","_law_at_here","_law_row","_law_found","_law_goal"]) (cH (aG Lm (by symm) (ae (!0) (ae (!4) ah)))) (λ_ _ _ _ _=>⟨(aM (i:=0) (show (["_law_one","_law_found"]:List Str).Nodup from by decide)),(gu (jC hu J_ Ky (!0) (!1))),(!0)⟩))))))) bg)
    (aq (aF (aD aX (!3) (gL (ae (!1) ah)))))))))
theorem sj:au nw=nh:=rfl
theorem Mt:JR ["_law_fold","_law_order_here","_law_at_here"] ["_law_fold","_law_order_here"] nh:=by nofun
theorem qx (T:Top K mg):Lu P w K mg base 12 "_law_is_fold" ["_law_fold","_law_order_here"] jz:=
 aV T.Oz sj Mt (λf Ka A outer s H E hr=>by
 and_intros;have nd:=Mt.nd
 exact(aj (cv (gr (lj (eU (dA (kF kit_tuple rfl T.Kq T.Ko bJ (!0)))) (mj (bu (dJ hu) (bd cL T.KO cD (ae (!0) ah)) ao)))) (aq (aF fV)) bg)
  (aj (fS PassesOwn.never rfl (dg rfl T.K3 (ae (bd cL T.KO cD (ae (!0) ah)) ah)) (aM (i:=2) nd) (aq (cv (eU (dA (aG (uj T) (by symm) (ae (!0) (ae (!2) (ae (!1) ah)))))) (aq (aF fV)) bg)))
  (aq (aF (kG (dJ hu) (aG (p9 T 11) (by symm) (ae (!0) (ae (aD gN (bd cL T.KO cD (ae (!0) ah)) ao) ah))) (qo rfl rfl rfl T.O4 T.K3 (ae (bd cL T.KO cD (ae (!0) ah)) ah))))))))
theorem zv:au uZ=uE:=rfl
theorem NN:JR ["_law_script","_law_most","_law_many","_law_words_here","_law_key_here"] ["_law_script","_law_most"] uE:=by nofun
theorem xU (T:Top K mg):Lu P w K mg base 10 "_law_made" ["_law_script","_law_most"] lZ:=
 aV T.QD zv NN (λf Ka A outer s H E hr=>by
 and_intros;have nd:=NN.nd
 exact(aj (aL (i:=2) nd (aD aX ao (aD cS (aG (cM T) (by symm) (ae (!0) (ae ao ah))) (!1))))
  (aj (aL (i:=3) nd (aG (wf T) (by symm) (ae (aG (cM T) (by symm) (ae (!0) (ae ao ah))) ah)))
  (aj (aL (i:=4) nd (aG (rV T 8) (by symm) (ae (aG (cM T) (by symm) (ae (!0) (ae ao ah))) (ae (!3) (ae (!2) (ae (aD aX ao (aD cS (aG (cM T) (by symm) (ae (!0) (ae ao ah))) ao)) ah))))))
  (aq (aF (dF (ae (!2) (ae (!3) (ae (!4) (ae (aG (wl T) (by symm) (ae (aG (cM T) (by symm) (ae (!0) (ae ao ah))) (ae (!2) ah))) ah)))))))))))
theorem wK:au qM=LX:=rfl
theorem Nl:JR ["_law_ones","_law_others"] ["_law_ones","_law_others"] LX:=by nofun
theorem wg (T:Top K mg):Lu P w K mg base 1 "_law_union" ["_law_ones","_law_others"] mX:=
 aV T.PR wK Nl (λf Ka A outer s H E hr=>by
 and_intros;have nd:=Nl.nd
 exact(aq (aF (bw d8 T.Ko bJ (ae (yz rfl rfl T.Mo (aD aX (!0) (bw d8 T.Ko bJ (ae (bR (ts:=["_law_name"]) (ix:=[0]) rfl ⟨rfl,by decide,by decide,by exists LX⟩ (by exists [0],["_law_ones","_law_others"]) (cH (!1)) (λ_ _ _ _ _=>⟨(aM (i:=0) (show (["_law_name","_law_ones"]:List Str).Nodup from by decide)),(gu (jC hu J_ Ky (!0) (!1))),(!0)⟩)) ah)))) ah)))))
theorem E8:au Bi=L3:=rfl
theorem QE:JR ["_law_script","_law_many","_law_words_here","_law_key_here","_law_order_here","_law_fold","_law_sheet_here","_law_character","_law_found","_law_thing","_law_seen","_law_other","_law_ones","_law_others","_law_due"] ["_law_script"] L3:=by nofun
theorem Gn (T:Top K mg){f:Addr}{fd:FuncData}(Fn:Oi K "law" "law" Bi f fd):P6 P w K mg base 38 f fd ["_law_script"] CZ:=
 kN Fn E8 QE (λ_ Ka A outer s H E hr=>by
 and_intros;have nd:=QE.nd
 exact(aj (Fi (aG (xU T) (by symm) (ae (!0) (ae ao ah))) (mw rfl (bQ (aM (i:=1) nd) (bQ (aM (i:=2) nd) (bQ (aM (i:=3) nd) (bQ (aM (i:=4) nd) jJ))))))
  (aj (aL (i:=5) nd (aG (p_ T) (by symm) (ae (!3) (ae (!4) ah))))
  (aj (aL (i:=6) nd (aG (wj T) (by symm) (ae (aG (cM T) (by symm) (ae (!0) (ae ao ah))) (ae (!1) ah))))
  (aj (aL (i:=7) nd (aD cS (aG (cM T) (by symm) (ae (!0) (ae ao ah))) (!1)))
  (aj (aL (i:=8) nd (gL (ae (aG (rS T) (by symm) (ae (!5) (ae (!6) (ae (!4) ah)))) (ae (aG (qy T) (by symm) (ae (!5) (ae (!7) (ae (!4) ah)))) (ae (aG (xX T) (by symm) (ae (!5) (ae (!7) (ae (!4) ah)))) ah)))))
  (aj (cv (bu (qW hu) (bR (ts:=["_law_one"]) (ix:=[4]) rfl ⟨rfl,by decide,by decide,by exists L3⟩ (by exists [4],["_law_script","_law_many","_law_words_here","_law_key_here","_law_order_here","_law_fold","_law_sheet_here","_law_character","_law_found","_law_thing","_law_seen","_law_other","_law_ones","_law_others","_law_due"]) (cH (!8)) (λ_ _ _ _ _=>⟨(aM (i:=0) (show (["_law_one","_law_order_here"]:List Str).Nodup from by decide)),(gu (eU (dA (aG (qx T) (by symm) (ae (!0) (ae (!1) ah)))))),(!0)⟩)) (gL ah)) (aq (aF fV)) bg)
  (aj (fS PassesOwn.never rfl (cH (aG (ui T) (by symm) (ae (!1) ah))) (aM (i:=9) nd) (aj (aL (i:=10) nd (bw d8 T.Ko bJ (ae (bR (ts:=["_law_k"]) (ix:=[9,6]) rfl ⟨rfl,by decide,by decide,by exists L3⟩ (by exists [9,6],["_law_script","_law_many","_law_words_here","_law_key_here","_law_order_here","_law_fold","_law_sheet_here","_law_character","_law_found","_law_thing","_law_seen","_law_other","_law_ones","_law_others","_law_due"]) (dg rfl T.K3 (ae (!1) ah)) (λ_ _ _ _ _=>⟨(aM (i:=0) (show (["_law_k","_law_thing","_law_sheet_here"]:List Str).Nodup from by decide)),dC,(kE (bu ET (aH J_ (!2) (!0)) sU) (aH J_ (!1) (!0)) (aH J_ (!2) (!0)))⟩)) ah)))
  (aj (aL (i:=11) nd (aD aX (aD aX (jd Ql (!9) trivial (!7)) (dF (ae (aD gN ao (aH J_ (!9) (!7))) ah))) (jd Ql (!9) (aD aX (!7) ao) trivial)))
  (aj (aL (i:=12) nd (aG (fD T 15) (by symm) (ae (!3) (ae (!9) ah))))
  (aj (aL (i:=13) nd (aG (fD T 15) (by symm) (ae (!3) (ae (!11) ah))))
  (aj (aL (i:=14) nd (Be (ae (aG (fD T 15) (by symm) (ae (!3) (ae (!10) ah))) (ae (aG (wg T) (by symm) (ae (!12) (ae (!13) ah))) (ae (bw d8 T.Ko bJ (ae (bR (ts:=["_law_name"]) (ix:=[13]) rfl ⟨rfl,by decide,by decide,by exists L3⟩ (by exists [13],["_law_script","_law_many","_law_words_here","_law_key_here","_law_order_here","_law_fold","_law_sheet_here","_law_character","_law_found","_law_thing","_law_seen","_law_other","_law_ones","_law_others","_law_due"]) (cH (!12)) (λ_ _ _ _ _=>⟨(aM (i:=0) (show (["_law_name","_law_others"]:List Str).Nodup from by decide)),(gu (sF hu J_ Ky (!0) (!1))),(!0)⟩)) ah)) ah)))))
  (aq (cv (Fc hu (bR (ts:=["_law_one"]) (ix:=[9]) rfl ⟨rfl,by decide,by decide,by exists L3⟩ (by exists [9],["_law_script","_law_many","_law_words_here","_law_key_here","_law_order_here","_law_fold","_law_sheet_here","_law_character","_law_found","_law_thing","_law_seen","_law_other","_law_ones","_law_others","_law_due"]) (cH (!8)) (λ_ _ _ _ _=>⟨(aM (i:=0) (show (["_law_one","_law_thing"]:List Str).Nodup from by decide)),dC,(aG (CK T) (by symm) (ae (!0) (ae (!1) ah)))⟩)) (!14)) (aq (aF fV)) bg))))))))
  (aq (aF (kG (dJ hu) (!5) (aG (p_ T) (by symm) (ae (!3) (ae (!4) ah))))))))))))))
end
end J3
namespace J3
open PySem L2 PyProof.Rows
def isLet (c:Nat):Bool:=decide (97<=c)&&decide (c<=122)
def lets (x:Str):Bool:=x.cps.toList.all isLet
def kept (x:Str):Bool:=decide (x="names") ||(decide (x="ask") ||decide (x="end"))
def di (x:Str):Bool:=!kept x&&(decide (1<=x.length)&&(decide (x.length<=8)&&lets x))
def IZ:D->Bool
 | .str x=>di x
 |_=>false
abbrev Np:Str:="abcdefghijklmnopqrstuvwxyz"
theorem Cr:∀ k:Nat,k<26->0<=Txt.find Np ⟨#[97+k]⟩:=by
 intro k a;have h:∀ k:_root_.Fin 26,0<=Txt.find Np ⟨#[97+k.val]⟩:=by decide
 exact h ⟨k,a⟩
theorem qf:Np.cps.toList.all isLet=true:=by decide
theorem Cs (c:Nat):decide (Txt.find Np ⟨#[c]⟩<0) = !isLet c:=by
 by_cases h : 97<=c/\c<=122
 ·have q:=Cr (c-97) (by omega);rw[show 97+(c-97)=c by omega] at q;have e:isLet c=true:=by simp[isLet,h]
  rw[e,decide_eq_false (by omega)];rfl
 have e:isLet c=false:=by simp only[isLet,Bool.and_eq_false_iff,decide_eq_false_iff_not];omega
 rw[e];rcases StrLaws.occ_head Np ⟨#[c]⟩ 1 (le_refl _) with ⟨d,_⟩ |⟨i,r,d,j,_⟩
 ·have:Txt.find Np ⟨#[c]⟩ = -1:=by unfold Txt.find;rw[d]
  rw[this];rfl
 exfalso;obtain⟨k,b⟩:=j;unfold Builtin.Str.subAt at b;have g:=eq_of_beq b;have f:c∈(Np.cps.extract i (i+(⟨#[c]⟩:Str).length)).toList:=by rw[g];simp
 rw[toList_extract] at f;have a:=all_eq_true.mp qf c (mem_of_mem_drop (mem_of_mem_take f));rw[e] at a;cases a
theorem bB {α:Type}{a:List α}{i:Nat}{v : α}(h:a[i]?=some v):Mu a (i:Int)=some v:=by
 have b:i<a.length:=(List.getElem?_eq_some_iff.mp h).1;have e:QN a.length (i:Int)=some i:=by unfold QN;rw[if_pos (by omega),if_pos (by omega)];simp
 unfold Mu;rw[e];exact h
end J3
namespace L2
open PySem PyProof.Rows
theorem pG {K:Type}[DecidableEq K]:∀ (l b:List K),b.Nodup->(l.foldl cy b).Nodup
 |[],b,h=>h
 |a::l,b,h=>by
  rw[foldl_cons];refine pG l _ ?_;unfold cy;split
  ·exact h
  rename_i d;refine nodup_append.mpr ⟨h,by simp,λx e y c=>?_⟩;rw[mem_singleton.mp c];rintro rfl;exact d e
theorem rn {K:Type}[DecidableEq K]:∀ (l b:List K) (k:K),k∈l.foldl cy b↔k∈b∨k∈l
 |[],b,k=>by simp
 |a::l,b,k=>by
  rw[foldl_cons,rn l,mem_cons];unfold cy;split
  ·constructor
   ·rintro (h |h)
    ·exact .inl h
    exact .inr (.inr h)
   rintro (h |rfl |h)
   ·exact .inl h
   ·left;assumption
   exact .inr h
  simp only[mem_append,mem_singleton];constructor
  ·rintro ((h |h) |h)
   ·exact .inl h
   ·exact .inr (.inl h)
   exact .inr (.inr h)
  rintro (h |h |h)
  ·exact .inl (.inl h)
  ·exact .inl (.inr h)
  exact .inr h
theorem yO {a b:Str}(h:MX a b=true):Nn a b=true:=by have c:a.cps.toList<b.cps.toList:=of_decide_eq_true h;exact Le.mpr (List.le_of_lt c)
theorem xC (a:Str):MX a a=false:=by unfold MX;exact decide_eq_false (List.lt_irrefl _)
theorem Ah {a b c:Str}(h:MX a b=true)(g:MX b c=true):MX a c=true:=by
 unfold MX at *
 exact decide_eq_true (List.lt_trans (of_decide_eq_true h) (of_decide_eq_true g))
theorem lJ {a b:Str}(h:Nn a b=true)(n:a≠b):MX a b=true:=by
 cases q:MX a b with
 |true=>rfl
 |false=>exact absurd (vK h (by unfold Nn;rw[q];rfl)) n
def QF:List Str->Bool
 |a::b::r=>MX a b&&QF (b::r)
 |_=>true
theorem cR:∀ {l:List Str},QF l=true->l.Pairwise λa b=>MX a b=true
 |[],_ => .nil
 |[a],_=>by simp
 |a::b::r,h=>by
  rw[QF,and_eq_true] at h;have d:=cR h.2;refine .cons (λc hc=>?_) d;rcases mem_cons.mp hc with rfl |hc
  ·exact h.1
  exact Ah h.1 ((pairwise_cons.mp d).1 c hc)
theorem fx:∀ {l:List Str},(l.Pairwise λa b=>MX a b=true)->QF l=true
 |[],_=>rfl
 |[a],_=>rfl
 |a::b::r,h=>by
  obtain⟨d,c⟩:=pairwise_cons.mp h;rw[QF,and_eq_true];exact⟨d b (mem_cons_self ..),fx c⟩
theorem D2 {i j:Int}(d : -1000000000000<j)(c:j<1000000000000):nF i j=true:=by unfold nF;have a:decide (-(2 ^ 64)<j)=true:=decide_eq_true (by omega);have b:decide (j<2 ^ 64)=true:=decide_eq_true (by omega);rw[a,b];simp
theorem D3 {i j:Int}(d : -1000000000000<i)(c:i<1000000000000):nF i j=true:=by unfold nF;have a:decide (-(2 ^ 64)<i)=true:=decide_eq_true (by omega);have b:decide (i<2 ^ 64)=true:=decide_eq_true (by omega);rw[a,b];simp
theorem vB (i j:Int):du (.int i) (.int j)=if nF i j=true then some (.int (i*j)) else none:=rfl
theorem vA (x:Str)(n:Int):du (.str x) (.int n)=if -1000<=n/\n<1 then some (.str ⟨#[]⟩) else if 1<=n/\n<=1000/\x.length<=1000 then some (.str ⟨(replicate n.toNat x.cps.toList).flatten.toArray⟩) else none:=rfl
theorem BU (i j:Int):cG (.int i) (.int j)=if 0<j then some (.int (i % j)) else none:=rfl
theorem Av (i j:Int):ig (.int i) (.int j)=if 0<j/\j<1073741824 then some (.int (i / j)) else none:=rfl
theorem AI (x y:Str):bi (.str x) (.str y)=if x.length+y.length<=sizeLine then some (.str (x++y)) else none:=rfl
theorem fM (x y:List D):bi (.tup x) (.tup y)=if x.length+y.length<=sizeLine then some (.tup (x++y)) else none:=rfl
theorem mV (x y:List D):bi (.lst x) (.lst y)=if x.length+y.length<=sizeLine then some (.lst (x++y)) else none:=rfl
theorem zM (j:Int):dh [.int j]=if -(2 ^ 62)<=j/\j<=16777216 then some ((List.range j.toNat).map λ(k:Nat)=>D.int k) else none:=rfl
theorem BS {i j:Int}(b : -1000000000000<j)(a:j<1000000000000):du (.int i) (.int j)=some (.int (i*j)):=by rw[vB,if_pos (D2 b a)]
theorem ir {i j:Int}(b : -1000000000000<i)(a:i<1000000000000):du (.int i) (.int j)=some (.int (i*j)):=by rw[vB,if_pos (D3 b a)]
@[simp] theorem HK (i j:Int):bi (.int i) (.int j)=some (.int (i+j)):=rfl
@[simp] theorem GZ (i j:Int):jb (.int i) (.int j)=some (.int (i-j)):=rfl
theorem bI {i j:Int}(h : 0<j):cG (.int i) (.int j)=some (.int (i % j)):=by rw[BU,if_pos h]
theorem jU {i j:Int}(h : 0<j)(a:j<1073741824):ig (.int i) (.int j)=some (.int (i / j)):=by rw[Av,if_pos ⟨h,a⟩]
end L2
namespace J3
open PySem L2 PyProof.Rows
theorem xS (ns:List Int)(k:Nat)(S:JP):jA [.lst (ns.map .int),.int k] S=JV (.int (ns.getD k 0)) S:=by
 refine aB rfl ?_;unfold nN;by_cases h:k<ns.length
 ·have b:((k:Int)<ns.length):=by omega
  have a:ns[k]?=some ns[k]:=List.getElem?_eq_getElem h;have e:Mu (ns.map D.int) (k:Int)=some (.int ns[k]):=bB (by rw[getElem?_map,a];rfl);simp[bW,P0,h,Ks,bA,QO,e,List.getD,a]
 have a:ns[k]?=none:=List.getElem?_eq_none (by omega);simp[bW,P0,h,List.getD,a]
def mix (ns:List Int)(k:Nat):Int:=
 let d:=(ns.getD k 0+7919*(k:Int)+1)*48271 % 2147483647
 (d*d+7*d+(k:Int)) % 2147483629
theorem xz (ns:List Int)(k:Nat) : 0<=mix ns k:=Int.emod_nonneg _ (by decide)
theorem fZ (ns:List Int)(k:Nat)(S:JP):bq [.lst (ns.map .int),.int k] S=JV (.int (mix ns k)) S:=by
 refine aB rfl ?_;unfold rH;have g:=xS ns k;have a:∀ x:Int,du (.int 7919) (.int x)=some (.int (7919*x)):=λx=>ir (by decide) (by decide);have c:∀ x:Int,du (.int x) (.int 48271)=some (.int (x*48271)):=λx=>BS (by decide) (by decide);have d:∀ x:Int,cG (.int x) (.int 2147483647)=some (.int (x % 2147483647)):=λx=>bI (by decide);have e:∀ x:Int,cG (.int x) (.int 2147483629)=some (.int (x % 2147483629)):=λx=>bI (by decide);have f:∀ x:Int,du (.int 7) (.int x)=some (.int (7*x)):=λx=>ir (by decide) (by decide);have b:∀ x:Int,du (.int (x % 2147483647)) (.int (x % 2147483647))=some (.int (x % 2147483647*(x % 2147483647))):=λx=>by have i:=Int.emod_nonneg x (show (2147483647:Int)≠0 by decide);have h:=Int.emod_lt_of_pos x (show (0:Int)<2147483647 by decide);exact ir (by omega) (by omega)
 simp[g,a,c,d,e,f,b,mix]
def Ln (n k:Int):Int:=
 let d:=(n+104729*k+17)*69621 % 2147483647
 (d*d+3*d+k) % 2147483629
theorem kP (n k:Int) : 0<=Ln n k:=Int.emod_nonneg _ (by decide)
theorem jq (n k:Int)(S:JP):d_ [.int n,.int k] S=JV (.int (Ln n k)) S:=by
 refine aB rfl ?_;unfold rJ;have a:∀ x:Int,du (.int 104729) (.int x)=some (.int (104729*x)):=λx=>ir (by decide) (by decide);have c:∀ x:Int,du (.int x) (.int 69621)=some (.int (x*69621)):=λx=>BS (by decide) (by decide);have d:∀ x:Int,cG (.int x) (.int 2147483647)=some (.int (x % 2147483647)):=λx=>bI (by decide);have e:∀ x:Int,cG (.int x) (.int 2147483629)=some (.int (x % 2147483629)):=λx=>bI (by decide);have f:∀ x:Int,du (.int 3) (.int x)=some (.int (3*x)):=λx=>ir (by decide) (by decide);have b:∀ x:Int,du (.int (x % 2147483647)) (.int (x % 2147483647))=some (.int (x % 2147483647*(x % 2147483647))):=λx=>by have h:=Int.emod_nonneg x (show (2147483647:Int)≠0 by decide);have g:=Int.emod_lt_of_pos x (show (0:Int)<2147483647 by decide);exact ir (by omega) (by omega)
 simp[a,c,d,e,f,b,Ln]
def Wd (n:Nat)(x:Str):Prop:=x.length<=n/\∀ c∈x.cps.toList,c<128
theorem yc (x y:Str):(x++y).cps.toList=x.cps.toList++y.cps.toList:=by show (x.cps++y.cps).toList=_;simp
theorem zo (x y:Str):(x++y).length=x.length+y.length:=by show (x.cps++y.cps).size=_;rw[Array.size_append];rfl
theorem Iv (i:Int)(f : 0<=i)(g:i<26)(S:JP):∃ x:Str,Ks (.str "abcdefghijklmnopqrstuvwxyz") (.int i) S=some (.str x)/\Wd 1 x:=by
 obtain⟨k,rfl⟩:∃ k:Nat,i=k:=⟨i.toNat,by omega⟩
 have a:k<Np.cps.toList.length:=by
  have:Np.cps.toList.length=26:=by decide
  omega
 have e:Mu Np.cps.toList (k:Int)=some Np.cps.toList[k]:=bB (List.getElem?_eq_getElem a);refine⟨⟨#[Np.cps.toList[k]]⟩,?_,le_refl _,λc b=>?_⟩
 ·unfold Ks;rw[if_neg (by simp[bA])];unfold QO;simp only[e];rfl
 have d:c=Np.cps.toList[k]:=by simpa using b
 have q:=all_eq_true.mp qf Np.cps.toList[k] (getElem_mem a);rw[d];simp only[isLet,and_eq_true,decide_eq_true_eq] at q;omega
theorem xh (j:Int)(a : 0<=j)(b:j<=1000):dh [.int j]=some ((List.range j.toNat).map λ(k:Nat)=>D.int k):=by rw[zM,if_pos (by omega)]
theorem hU {n j:Nat}{d:D}(h:((List.range n).map λ(k:Nat)=>D.int k)[j]?=some d):d = .int j/\j<n:=by rw[getElem?_map] at h;obtain⟨x,c,rfl⟩:=map_eq_some_iff.mp h;obtain⟨b,a⟩:=List.getElem?_eq_some_iff.mp c;simp at b a;exact⟨by rw[← a],b⟩
theorem G3 (b:Bool):du (.str "q") (.int (if b then 1 else 0))=some (.str (if b then "q" else ⟨#[]⟩)):=by
 cases b
 ·rw[vA,if_pos (by decide)];rfl
 rw[vA,if_neg (by decide),if_pos ⟨by decide,by decide,by decide⟩];rfl
def PU (d:D)(s:Str):Bool:=match d with
 | .str y=>decide (y=s)
 |_=>false
theorem Cv {d:D}(h:pl d=true)(s:Str):Lk d (.str s)=some (.bl (PU d s)):=by
 obtain⟨p,e⟩:=sG h;have b:toPy (.str s)=some (.str s):=rfl;unfold Lk;rw[e,b];have hd:min p.depth (PyData.str s).depth<=150:=Nat.le_trans (min_le_right _ _) (by simp[PyData.depth]);simp only[hd,if_true];cases d with
 |str y=>rw[toPy] at e;cases e;simp[PyData.eqv,PU,CN]
 |tup c=>rw[toPy] at e;obtain⟨a,_,rfl⟩:=map_eq_some_iff.mp e;simp[PyData.eqv,PU]
 |lst c=>rw[toPy] at e;obtain⟨a,_,rfl⟩:=map_eq_some_iff.mp e;simp[PyData.eqv,PU]
 |set _=>simp[pl] at h
 |loc _=>simp[pl] at h
 |fn _ _=>simp[pl] at h
 |_=>rw[toPy] at e;cases e;simp[PyData.eqv,PU]
theorem vx {d:D}(h:pl d=true)(s:Str):Mv d (.str s)=some (.bl (!PU d s)):=by
 obtain⟨p,e⟩:=sG h;have b:toPy (.str s)=some (.str s):=rfl;unfold Mv;rw[e,b];have hd:min p.depth (PyData.str s).depth<=150:=Nat.le_trans (min_le_right _ _) (by simp[PyData.depth]);simp only[hd,if_true];cases d with
 |str y=>rw[toPy] at e;cases e;simp[PyData.eqv,PU,CN]
 |tup c=>rw[toPy] at e;obtain⟨a,_,rfl⟩:=map_eq_some_iff.mp e;simp[PyData.eqv,PU]
 |lst c=>rw[toPy] at e;obtain⟨a,_,rfl⟩:=map_eq_some_iff.mp e;simp[PyData.eqv,PU]
 |set _=>simp[pl] at h
 |loc _=>simp[pl] at h
 |fn _ _=>simp[pl] at h
 |_=>rw[toPy] at e;cases e;simp[PyData.eqv,PU]
theorem OC (b:List D)(a:D)(S:JP):Ks (.tup (a::b)) (.int 0) S=some a:=by unfold Ks;rw[if_neg (by simp[bA])];exact bB (i:=0) rfl
theorem Qb (c:List D)(a b:D)(S:JP):Ks (.tup (a::b::c)) (.int 1) S=some b:=by unfold Ks;rw[if_neg (by simp[bA])];exact bB (i:=1) rfl
theorem at2 (d:List D)(a b c:D)(S:JP):Ks (.tup (a::b::c::d)) (.int 2) S=some c:=by unfold Ks;rw[if_neg (by simp[bA])];exact bB (i:=2) rfl
theorem Yy (e:List D)(a b c d:D)(S:JP):Ks (.tup (a::b::c::d::e)) (.int 3) S=some d:=by unfold Ks;rw[if_neg (by simp[bA])];exact bB (i:=3) rfl
theorem pp (x:Int){n:Int}(h : 0<n) : 0<=x % n/\x % n<n:=⟨Int.emod_nonneg x (by omega),Int.emod_lt_of_pos x h⟩
def Wl (n:Nat)(x:Str):Prop:=1<=x.length/\x.length<=n/\lets x=true
theorem B4 (x y:Str):lets (x++y)=(lets x&&lets y):=by unfold lets;rw[yc,List.all_append]
theorem Wl.app {n m:Nat}{x y:Str}(h:Wl n x)(g:Wl m y):Wl (n+m) (x++y):=by obtain⟨a,b,c⟩:=h;obtain⟨e,f,d⟩:=g;refine⟨by rw[zo];omega,by rw[zo];omega,by rw[B4,c,d];rfl⟩
theorem yQ (i:Int)(b : 0<=i)(c:i<26)(S:JP):∃ x:Str,Ks (.str "abcdefghijklmnopqrstuvwxyz") (.int i) S=some (.str x)/\Wl 1 x:=by
 obtain⟨k,rfl⟩:∃ k:Nat,i=k:=⟨i.toNat,by omega⟩
 have a:k<Np.cps.toList.length:=by
  have:Np.cps.toList.length=26:=by decide
  omega
 have e:Mu Np.cps.toList (k:Int)=some Np.cps.toList[k]:=bB (List.getElem?_eq_getElem a);refine⟨⟨#[Np.cps.toList[k]]⟩,?_,le_refl _,le_refl _,?_⟩
 ·unfold Ks;rw[if_neg (by simp[bA])];unfold QO;simp only[e];rfl
 have q:=all_eq_true.mp qf Np.cps.toList[k] (getElem_mem a);show ([Np.cps.toList[k]]:List Nat).all isLet=true;rw[all_cons,q];rfl
theorem CV {n m:Nat}{x y:Str}(h:Wl n x)(g:y.length<=m)(a:n+m<=1000):bi (.str x) (.str y)=some (.str (x++y)):=by have b:=h.2.1;rw[AI,if_pos (Nat.le_trans (show x.length+y.length<=1000 by omega) (by decide))]
theorem GB (n:Int)(l:D)(k b:Int)(a:Str)(i:Nat)(S:JP)(e:Wl (i+1) a)(p:i<=10)(o : 0<=b):∃ c:Str,Wl (i+2) c /\
  gI [some (.int n),some (.str "abcdefghijklmnopqrstuvwxyz"),some l,some (.int k),some (.int b),some (.str a),some (.int i)] S=JV (.next [some (.int n),some (.str "abcdefghijklmnopqrstuvwxyz"),some l,some (.int k),some (.int b),some (.str c),some (.int i)]) S:=by
 have f:du (.int 31) (.int i)=some (.int (31*i)):=ir (by decide) (by decide);have g:ig (.int b) (.int (31*(i:Int)+29))=some (.int (b / (31*(i:Int)+29))):=jU (by omega) (by omega);have h:cG (.int (b / (31*(i:Int)+29))) (.int 26)=some (.int (b / (31*(i:Int)+29) % 26)):=bI (by decide);obtain⟨x,j,d⟩:=yQ (b / (31*(i:Int)+29) % 26) (Int.emod_nonneg _ (by decide)) (Int.emod_lt_of_pos _ (by decide)) S;have m:=CV e d.2.1 (by omega);refine⟨a++x,e.app d,?_⟩;unfold gI;simp[f,g,h,j,m]
theorem Ix (x:Str)(S:JP):Ol false (.str x) (.tup [.str "names",.str "ask",.str "end"]) S=some (.bl (kept x)):=by have e:=W6 x "names" "ask" "end";unfold Ol;rw[if_neg (by simp[bA]),if_neg (by decide)];rw[e];unfold kept;simp[eq_comm]
theorem Hm {x:Str}(h:kept x=true):di (x++("q":Str))=true:=by simp only[kept,or_eq_true,decide_eq_true_eq] at h;rcases h with rfl |rfl |rfl<;>decide
theorem Hg {x:Str}(h:Wl 8 x):di (x++(if kept x then ("q":Str) else ⟨#[]⟩))=true:=by
 cases hk:kept x with
 |true=>exact Hm hk
 |false =>
  have e:x++(⟨#[]⟩:Str)=x:=by show (⟨x.cps++#[]⟩:Str)=x;simp
  simp only[false_eq_true,if_false,e];unfold di;rw[hk,decide_eq_true h.1,decide_eq_true h.2.1,h.2.2];rfl
def NO (n:Nat)(kvs:List (D×D)):Prop:=kvs.length<=n/\∃ a:List Str,kvs.map (·.1)=a.map .str/\a.Nodup/\∀ x∈a,di x=true
theorem zL (x y:Str):fW (.str x) (.str y)=decide (x=y):=by simp[fW,fy]
theorem NO.put {n:Nat}{kvs:List (D×D)}{x:Str}{v:D}(h:NO n kvs)(g:di x=true):NO (n+1) (putD kvs (.str x) v):=by
 obtain⟨m,c,e,nd,k⟩:=h;unfold putD;split
 ·refine⟨by rw[length_map];omega,c,?_,nd,k⟩;rw[map_map,← e];refine map_congr_left λp _=>?_;simp only[Function.comp];split<;>rfl
 rename_i d;refine⟨by rw[List.length_append,length_singleton];omega,c++[x],by simp[e],?_,λy hy=>?_⟩
 ·refine nodup_append.mpr ⟨nd,by simp,λa i b j=>?_⟩;rw[mem_singleton.mp j];rintro rfl;apply d;have l:D.str a∈kvs.map (·.1):=by rw[e];exact List.mem_map_of_mem i
  obtain⟨p,f,q⟩:=mem_map.mp l;rw[List.any_eq_true];exact⟨p,f,by rw[q,zL];simp⟩
 rcases mem_append.mp hy with hy |hy
 ·exact k y hy
 rw[mem_singleton.mp hy];exact g
theorem GA (n:Int)(k:Nat)(S:JP)(kvs:List (D×D))(b c d:Option D)(A:NO k kvs)(Z:k<6):∃ K U d' y,NO (k+1) y /\
  gH [some (.int n),some (.str "abcdefghijklmnopqrstuvwxyz"),some (.loc S.length),some (.int k),b,c,d] (S++[.dict kvs])=JV (.next [some (.int n),some (.str "abcdefghijklmnopqrstuvwxyz"),some (.loc S.length),some (.int k),K,U,d']) (S++[.dict y]):=by
 have L:=jq n k;have M:=kP n k;have O:cG (.int (Ln n k)) (.int 26)=some (.int (Ln n k % 26)):=bI (by decide);obtain⟨x,V,X⟩:=yQ (Ln n k % 26) (Int.emod_nonneg _ (by decide)) (Int.emod_lt_of_pos _ (by decide)) (S++[.dict kvs]);have G:ig (.int (Ln n k)) (.int 26)=some (.int (Ln n k / 26)):=jU (by decide) (by decide);have W:cG (.int (Ln n k / 26)) (.int 8)=some (.int (Ln n k / 26 % 8)):=bI (by decide);have J:cG (.int n) (.int 2)=some (.int (n % 2)):=bI (by decide);have b1:=Int.emod_nonneg (Ln n k / 26) (show (8:Int)≠0 by decide);have b2:=Int.emod_lt_of_pos (Ln n k / 26) (show (0:Int)<8 by decide);have b3:=Int.emod_nonneg n (show (2:Int)≠0 by decide);have b4:=Int.emod_lt_of_pos n (show (0:Int)<2 by decide);have t:du (.int (Ln n k / 26 % 8)) (.int (n % 2))=some (.int (Ln n k / 26 % 8*(n % 2))):=ir (by omega) (by omega)
 have B : 0<=Ln n k / 26 % 8*(n % 2)/\Ln n k / 26 % 8*(n % 2)<=7:=by
  have:n % 2=0∨n % 2=1:=by omega
  rcases this with h |h<;>rw[h]<;>omega
 have C:=xh (Ln n k / 26 % 8*(n % 2)) B.1 (by omega);generalize Ln n k / 26 % 8*(n % 2)=m at t C B
 obtain⟨R,S',P,E⟩:=cU (u:=aE 6) (body:=gI) (λi s r=>r=S++[.dict kvs]/\i<=7/\∃ (w:Str) (z:Option D),Wl (i+1) w/\s=[some (.int n),some (.str "abcdefghijklmnopqrstuvwxyz"),some (.loc S.length),some (.int k),some (.int (Ln n k)),some (.str w),z])
  ((List.range m.toNat).map λ(k:Nat)=>D.int k) 0 [some (.int n),some (.str "abcdefghijklmnopqrstuvwxyz"),some (.loc S.length),some (.int k),some (.int (Ln n k)),some (.str x),d] (S++[.dict kvs]) ⟨rfl,by omega,x,d,X,rfl⟩ (by
   rintro j dd s r Q ⟨rfl,H,w,z,a,rfl⟩;obtain⟨rfl,Lc⟩:=hU Q;simp only[zero_add] at a H ⊢;obtain⟨Y,g,eq⟩:=GB n (.loc S.length) k (Ln n k) w j (S++[.dict kvs]) a (by omega) M
   exact⟨_,rfl,_,_,eq,rfl,by omega,Y,some (.int j),g,rfl⟩)
 simp only[zero_add,length_map,length_range] at E;obtain⟨rfl,I,w,z,a,rfl⟩:=E;have v:Wl 8 w:=⟨a.1,by have:=a.2.1;omega,a.2.2⟩;have q:=Ix w (S++[.dict kvs]);have F:=Hg v;generalize kept w=bb at q F;have o:=G3 bb;have T:(if bb then ("q":Str) else ⟨#[]⟩).length<=1:=by cases bb<;>decide
 have p:=CV v T (by decide);have f:(S++[MO.dict kvs])[S.length]?=some (.dict kvs):=by simp
 have N:kvs.length<sizeLine:=lt_of_lt_of_le (show kvs.length<1000 by have:=A.1;omega) (by decide);have e:(S++[MO.dict kvs]).set S.length (.dict (putD kvs (.str (w++(if bb then ("q":Str) else ⟨#[]⟩))) (.bl true)))=S++[.dict (putD kvs (.str (w++(if bb then ("q":Str) else ⟨#[]⟩))) (.bl true))]:=by simp
 refine⟨some (.int (Ln n k)),some (.str w),z,putD kvs (.str (w++(if bb then ("q":Str) else ⟨#[]⟩))) (.bl true),A.put F,?_⟩;have l:intD [.bl bb]=some (.int (if bb then 1 else 0)):=rfl;unfold gH;simp[L,O,V,G,W,J,t,C,P,ve,f,fy,N,e,q,l,o,p]
theorem zC (n:Int)(S:JP):∃ (ss:List Str) (kvs:List (D×D)),mW [.int n] S=JV (.tup (ss.map .str)) (S++[.dict kvs])/\ss.length<=6/\(∀ x∈ss,di x=true)/\ss.Pairwise λa b=>MX a b=true:=by
 obtain⟨B,L,y,p⟩:=cU (u:=aE 3) (body:=gH) (λi m l=>i<=6/\∃ kvs b c d z,l=S++[.dict kvs]/\NO i kvs/\m=[some (.int n),some (.str "abcdefghijklmnopqrstuvwxyz"),some (.loc S.length),z,b,c,d])
  ((List.range 6).map λ(k:Nat)=>D.int k) 0 [some (.int n),some (.str "abcdefghijklmnopqrstuvwxyz"),some (.loc S.length),none,none,none,none] (S++[.dict []]) ⟨by omega,[],none,none,none,none,rfl,⟨le_refl _,[],rfl,nodup_nil,λx h=>by cases h⟩,rfl⟩ (by
   rintro j K m l A ⟨J,kvs,b,c,d,z,rfl,o,rfl⟩;obtain⟨rfl,G⟩:=hU A;simp only[zero_add] at o ⊢;obtain⟨s,E,I,v,g,eq⟩:=GA n j S kvs b c d o G
   exact⟨_,rfl,_,_,eq,by omega,v,s,E,I,some (.int j),rfl,g,rfl⟩)
 simp only[zero_add,length_map,length_range] at p;obtain⟨_,kvs,b,c,d,z,rfl,⟨M,ss,es,nd,w⟩,rfl⟩:=p;have N:ss.length=kvs.length:=by have:=congrArg List.length es;simpa using this.symm
 have F:dD (kvs.map (·.1))=some ((fT ss).map .str):=by rw[es];unfold dD;rw[if_pos (by rw[length_map];first |omega |exact Nat.le_trans (show ss.length<=1000 by omega) (by decide)),jF]
 have f:(fT ss).Perm ss:=mergeSort_perm _ _;have e:(fT ss).Nodup:=(f.nodup_iff).mpr nd;have C:(fT ss).Pairwise λa b=>Nn a b=true:=pairwise_mergeSort ic jP _;refine⟨fT ss,kvs,?_,by rw[f.length_eq];omega,λx t=>w x (f.mem_iff.mp t),(C.and e).imp λq=>lJ q.1 q.2⟩;have r:dh [.int 6]=some ((List.range 6).map λ(k:Nat)=>D.int k):=xh 6 (by decide) (by decide);have H:(S++[MO.dict kvs])[S.length]?=some (.dict kvs):=by simp
 refine aB rfl ?_;unfold rB;simp[r,y,ll,H,F,ft]
theorem rM:∀ (ds:List D) (i:Nat),(cV i ds).map (λd=>match d with | .tup [_,x]=>x |_ => .Kk)=ds
 |[],_=>rfl
 |d::ds,i=>by rw[cV,map_cons,rM ds]
theorem vz (n:Int){ss:List Str}(t:ss.length<=100)(S:JP):∃ a:List Str,m5 [.int n,.tup (ss.map .str)] S=JV (.tup (a.map .str)) S/\a.Sublist ss:=by
 have q:=f8 (u:=ld 2 (bo (aE 0) (bo (aE 1) g0))) (gt:=ja) (fe:=jp) (λc => ∃ y z,c=[y,z,some (.int n)]) (λd=>match d with | .tup [.int k,_]=>decide (n / (3*k+1) % 4=0) |_=>false)
  (λd=>match d with | .tup [_,x]=>x |_ => .Kk) S (cV 0 (ss.map .str)) (b8 2 [0] [some (.int n),some (.tup (ss.map .str))]) ⟨none,none,rfl⟩ (by
   rintro d r c ⟨y,z,rfl⟩;obtain⟨j,g⟩:=getElem?_of_mem r;rw[fJ] at g;obtain⟨x,o,rfl⟩:=map_eq_some_iff.mp g;have m:j<ss.length:=by have:=(List.getElem?_eq_some_iff.mp o).1;simpa using this
   have f:du (.int 3) (.int ((0+j:Nat):Int))=some (.int (3*((0+j:Nat):Int))):=ir (by decide) (by decide);have h:ig (.int n) (.int (3*((0+j:Nat):Int)+1))=some (.int (n / (3*((0+j:Nat):Int)+1))):=jU (by omega) (by omega);have b:cG (.int (n / (3*((0+j:Nat):Int)+1))) (.int 4)=some (.int (n / (3*((0+j:Nat):Int)+1) % 4)):=bI (by decide);refine⟨[some (.int ((0+j:Nat):Int)),some x,some (.int n)],rfl,⟨_,_,rfl⟩,?_,λ_=>?_⟩
   ·unfold ja;simp only[zero_add] at f h b ⊢;simp[f,h,b]
   unfold jp;simp)
 have s:(((cV 0 (ss.map D.str)).filter (λd=>match d with | .tup [.int k,_]=>decide (n / (3*k+1) % 4=0) |_=>false)).map (λd=>match d with | .tup [_,x]=>x |_ => .Kk)).Sublist (ss.map D.str):=by have:=(filter_sublist (p:=(λd=>match d with | .tup [.int k,_]=>decide (n / (3*k+1) % 4=0) |_=>false)) (l:=cV 0 (ss.map D.str))).map (λd=>match d with | .tup [_,x]=>x |_ => .Kk);rw[rM] at this;exact this
 obtain⟨a,i,e⟩:=List.sublist_map_iff.mp s;refine⟨a,?_,i⟩;refine aB rfl ?_;unfold rG;rw[e] at q;simp[pS,q,ft]
theorem BP {x:Str}(h:di x=true):∀ c∈x.cps.toList,c<128:=by unfold di at h;rw[and_eq_true,and_eq_true,and_eq_true] at h;intro c a;have:=all_eq_true.mp h.2.2.2 c a;unfold isLet at this;simp at this;omega
end J3
namespace L2
open PySem PyProof.Rows
section
variable (f g:JJ D) (ρ:JQ) (S:JP)
@[simp] theorem Jo (c k:Str):d9 c k f ρ S=ai (f ρ S) λd a=>aP (gO c k d a) a:=rfl
@[simp] theorem IE (c k:Str):kr c k f g ρ S=ai (g ρ S) λv a=>ai (f ρ a) λd S2=>lp c k d v ρ S2:=rfl
@[simp] theorem IT (c k:Str):HI c k f g ρ S=ai (f ρ S) λd a=>ai (aP (gO c k d a) a) λv S2=>ai (g ρ S2) λy b=>HJ c k d v y ρ b:=rfl
@[simp] theorem IM (c m:Str)(F:JO)(gs:JJ (List D)):bP c m F f gs ρ S=ai (f ρ S) λd a=>ai (aP (qu c m d a) a) λ_ S2=>ai (gs ρ S2) λds b=>hW (F (d::ds) b):=rfl
@[simp] theorem H9 (c m:Str)(F:JO)(gs:JJ (List D)):Gz c m F f gs ρ S=ai (f ρ S) λd a=>ai (aP (qu c m d a) a) λ_ S2=>ai (gs ρ S2) λds b=>F (d::ds) b:=rfl
@[simp] theorem CB:wp ρ S=JV (.loc S.length) (S++[.lst []]):=rfl
@[simp] theorem Jv:EA f g ρ S=ai (f ρ S) λd a=>ai (aP (da d a) a) λ_ S2=>ai (g ρ S2) λv b=>uw d v b:=rfl
@[simp] theorem Hy:Es f ρ S=ai (f ρ S) λd b=>aP ((da d b).bind λa=>if a.length<=sizeLine then some (.tup a) else none) b:=rfl
@[simp] theorem IP:rY f ρ S=ai (f ρ S) λ_ a=>JV (.next ρ) a:=rfl
@[simp] theorem HA (c:Str)(q:JQ->JP->Bool):Ey c q ρ S=if q ρ S=true then some (.error c,S) else none:=rfl
@[simp] theorem Jz {α a:Type}(c:Str)(k : α->JP->Out a):ai (some (.error c,S):Out α) k=some (.error c,S):=rfl
end
theorem dE {S:JP}{l:Nat}{a b:MO}(h:S[l]?=some a):(S.set l b)[l]?=some b:=by have:l<S.length:=(List.getElem?_eq_some_iff.mp h).1;simp[this]
theorem bE {S:JP}{l k:Nat}{b:MO}(h:l≠k):(S.set l b)[k]?=S[k]?:=by simp[List.getElem?_set,h]
section
variable (f g:JJ D) (ρ:JQ) (S:JP)
@[simp] theorem Jj:wv f g ρ S=ai (f ρ S) λx a=>ai (g ρ a) λi S2=>aP (qr x i S2) S2:=rfl
@[simp] theorem Jk:AE f g ρ S=ai (f ρ S) λx a=>ai (g ρ a) λi S2=>aP (if bA x=true then qr x i S2 else QO x i) S2:=rfl
@[simp] theorem Jg (neg:Bool):AD neg f g ρ S=ai (f ρ S) λk a=>ai (g ρ a) λx S2=>aP (kK neg k x S2) S2:=rfl
@[simp] theorem IL:wu f g ρ S=ai (f ρ S) λx a=>ai (g ρ a) λk S2=>aP (fY x k S2) S2:=rfl
@[simp] theorem IF (h:JJ D):rX f g h ρ S=ai (h ρ S) λv a=>ai (f ρ a) λx S2=>ai (g ρ S2) λk b=>lF x k v ρ b:=rfl
@[simp] theorem IN:CG f ρ S=ai (f ρ S) λd a=>aP ((da d a).map λb => .int b.length) a:=rfl
@[simp] theorem Gp:mN f ρ S=ai (f ρ S) λd a=>aP (h_ d a) a:=rfl
@[simp] theorem IJ:wo ρ S=JV (.loc S.length) (S++[.JT []]):=rfl
@[simp] theorem Hx (u:D->JQ->Option JQ):ul u f ρ S=ai (f ρ S) λd a=>aP ((u d ρ).map Fl.next) a:=rfl
end
end L2
namespace J3
open PySem L2 PyProof.Rows
inductive Row where
 |leaf (ss:List Str)
 |ask (c no yes:Nat)
 deriving DecidableEq
def az:Row->D
 | .leaf a => .tup [.str "names",.tup (a.map .str)]
 | .ask c no yes => .tup [.int c,.int no,.int yes]
def eV:Row->PyData
 | .leaf a => .tuple [.str "names",.tuple (a.map .str)]
 | .ask c no yes => .tuple [.int c,.int no,.int yes]
def dU:Row->Prop
 | .leaf a => ∀ x∈a,di x=true
 | .ask _ _ _=>True
theorem DZ {x:Str}(h:di x=true):PyData.strOk x=true:=by have w:=BP h;unfold PyData.strOk;rw[← Array.all_toList,all_eq_true];intro c a;have:=w c a;simp;omega
theorem vy:PyData.strOk ("names":Str)=true:=by decide
theorem lw {r:Row}(h:dU r):gp (az r)=some (eV r):=by
 unfold gp;cases r with
 |leaf b =>
  have e:toPy (az (.leaf b))=some (eV (.leaf b)):=by simp[az,eV,toPy,b6,fP]
  have a:(b.map PyData.str).all (keyOk 6)=true:=by rw[all_eq_true];intro p d;obtain⟨x,f,rfl⟩:=mem_map.mp d;exact DZ (h x f)
  have k:keyOk 8 (eV (.leaf b))=true:=by show ([PyData.str "names",PyData.tuple (b.map .str)]:List PyData).all (keyOk 7)=true;rw[all_cons,all_cons,List.all_nil,Bool.and_true,and_eq_true];exact⟨vy,a⟩
  rw[e,bind_some,if_pos k]
 |ask c no yes=>simp[az,eV,toPy,b6,keyOk]
theorem ti (a b:Row):PyData.eqv (eV a) (eV b)=decide (a=b):=by
 cases a with
 |leaf s=>cases b with
  |leaf t=>simp[eV,PyData.eqv,PyData.eqvAll,pR]
  |ask c n y=>simp[eV,PyData.eqv,PyData.eqvAll]
 |ask c n y=>cases b with
  |leaf t=>simp[eV,PyData.eqv,PyData.eqvAll]
  |ask e f d =>
   rw[Bool.eq_iff_iff];simp[eV,PyData.eqv,PyData.eqvAll];omega
theorem g6 {a b:Row}(d:dU a)(c:dU b):dY (az a) (az b)=decide (a=b):=by unfold dY;rw[lw d,lw c];exact ti a b
theorem eA (r:Row):d4 (az r)=true:=by cases r<;>rfl
def bH (k:Nat):List Row->List (D×D)
 |[]=>[]
 |r::G=>(az r,.int k)::bH (k+1) G
theorem vo:∀ (G:List Row) (k:Nat),(bH k G).length=G.length
 |[],_=>rfl
 |r::G,k=>by rw[bH,length_cons,length_cons,vo G]
theorem jT {r:Row}(b:dU r):∀ (G:List Row) (k:Nat),(∀ x∈G,dU x)->j0 (bH k G) (az r)=if r∈G then some (.int ((k+G.idxOf r:Nat):Int)) else none
 |[],k,_=>rfl
 |x::G,k,h=>by
  have c:=jT b G (k+1) λy d=>h y (mem_cons_of_mem _ d);unfold j0 at c ⊢;rw[bH,find?_cons];simp only[g6 (h x (mem_cons_self ..)) b];by_cases e:x=r
  ·subst e;simp
  rw[decide_eq_false e];simp only;rw[c];have f:¬ r=x:=λq=>e q.symm;have g:(x==r)=false:=by simpa using e
  by_cases a:r∈G
  ·rw[if_pos a,if_pos (mem_cons_of_mem _ a),idxOf_cons,g];simp only[cond_false];congr 2;omega
  rw[if_neg a,if_neg (by rw[mem_cons];exact λq=>q.elim f a)]
theorem any_nums {r:Row}(b:dU r)(G:List Row)(k:Nat)(h:∀ x∈G,dU x)(a:r∉G):((bH k G).any λp=>dY p.1 (az r))=false:=by have q:=jT b G k h;rw[if_neg a] at q;unfold j0 at q;rw[Option.map_eq_none_iff,List.find?_eq_none] at q;rw[List.any_eq_false];exact q
theorem qX:∀ (G:List Row) (k:Nat) (r:Row),bH k (G++[r])=bH k G++[(az r,.int ((k+G.length:Nat):Int))]
 |[],k,r=>rfl
 |x::G,k,r=>by
  rw[cons_append,bH,qX G (k+1) r,bH,cons_append,length_cons,show k+1+G.length=k+(G.length+1) by omega]
theorem zO {r:Row}(b:dU r){G:List Row}(h:∀ x∈G,dU x)(a:r∉G):putN (bH 0 G) (az r) (.int G.length)=bH 0 (G++[r]):=by unfold putN;rw[any_nums b G 0 h a,if_neg (by decide),qX,zero_add]
theorem rA {kvs:List (D×D)}{k v:D}(h:dY k k=true):j0 (putN kvs k v) k=some v:=by
 unfold putN;split
 ·rename_i a;unfold j0;rw[List.any_eq_true] at a;clear h
  induction kvs with
  |nil=>obtain⟨p,b,_⟩:=a;cases b
  |cons p r c =>
   rw[map_cons,find?_cons];cases b:dY p.1 k with
   |true=>simp[b]
   |false =>
    simp only[b,false_eq_true,if_false];obtain⟨x,hx,q⟩:=a;rcases mem_cons.mp hx with rfl |hx
    ·rw[b] at q;cases q
    exact c ⟨x,hx,q⟩
 rename_i a;unfold j0;rw[Bool.not_eq_true,List.any_eq_false] at a;rw[List.find?_append,List.find?_eq_none.mpr a];simp[h]
abbrev Th:=Nat->Bool
inductive Ev (G:List Row) (th:Th):Nat->List Str->Prop
 |leaf {i:Nat}{ss:List Str}:G[i]?=some (.leaf ss)->Ev G th i ss
 |no {i c n y:Nat}{ss:List Str}:G[i]?=some (.ask c n y)->th c=false->Ev G th n ss->Ev G th i ss
 |yes {i c n y:Nat}{ss:List Str}:G[i]?=some (.ask c n y)->th c=true->Ev G th y ss->Ev G th i ss
theorem tW {G E:List Row}{i:Nat}{r:Row}(h:G[i]?=some r):(G++E)[i]?=some r:=by rw[getElem?_append_left (List.getElem?_eq_some_iff.mp h).1];exact h
theorem Ev.mono {G:List Row}(E:List Row){b:Th}{i:Nat}{ss:List Str}(h:Ev G b i ss):Ev (G++E) b i ss:=by
 induction h with
 |leaf h=>exact .leaf (tW h)
 |no h t _ a=>exact .no (tW h) t a
 |yes h t _ a=>exact .yes (tW h) t a
theorem Ev.det {G:List Row}{f:Th}{i:Nat}{a b:List Str}(h:Ev G f i a)(g:Ev G f i b):a=b:=by
 induction h with
 |leaf h=>cases g with
  |leaf c=>rw[h] at c;cases c;rfl
  |no c=>rw[h] at c;cases c
  |yes c=>rw[h] at c;cases c
 |no h t _ e=>cases g with
  |leaf c=>rw[h] at c;cases c
  |no c d g=>rw[h] at c;cases c;exact e g
  |yes c d g=>rw[h] at c;cases c;rw[t] at d;cases d
 |yes h t _ e=>cases g with
  |leaf c=>rw[h] at c;cases c
  |no c d g=>rw[h] at c;cases c;rw[t] at d;cases d
  |yes c d g=>rw[h] at c;cases c;exact e g
def pl (o:List Nat)(G:List Row)(i:Nat):Nat:=match G[i]? with
 |some (.ask c _ _)=>o.idxOf c
 |_=>o.length
theorem ci {o:List Nat}{G E:List Row}{i:Nat}(h:i<G.length):pl o (G++E) i=pl o G i:=by unfold pl;rw[getElem?_append_left h]
theorem vh (o:List Nat)(G:List Row)(i:Nat):pl o G i<=o.length:=by
 unfold pl;split
 ·exact List.idxOf_le_length
 exact le_refl _
def MP (o:List Nat)(G:List Row)(i:Nat):Row->Prop
 | .leaf a=>(∀ x∈a,di x=true)/\QF a=true
 | .ask c n y=>c∈o/\n<i/\y<i/\o.idxOf c<J3.pl o G n/\o.idxOf c<J3.pl o G y/\n≠y
structure Wf (o:List Nat) (G:List Row):Prop where
 nd:G.Nodup
 row:∀ (i:Nat) (r:Row),G[i]?=some r->MP o G i r
theorem Wf.ok {o:List Nat}{G:List Row}(h:Wf o G):∀ x∈G,dU x:=by
 intro x a;obtain⟨i,b⟩:=getElem?_of_mem a;have:=h.row i x b;cases x with
 |leaf d=>exact this.1
 |ask c n y=>trivial
theorem Wf.total {o:List Nat}{G:List Row}(h:Wf o G)(a:Th):∀ (i:Nat),i<G.length->∃ ss,Ev G a i ss:=by
 intro i
 induction i using Nat.strongRecOn with
 |_ i b =>
  intro g;have e:G[i]?=some G[i]:=List.getElem?_eq_getElem g;have q:=h.row i _ e;cases hr:G[i] with
  |leaf ss=>rw[hr] at e;exact⟨ss,.leaf e⟩
  |ask c n y =>
   rw[hr] at e q;obtain⟨_,d,f,_,_,_⟩:=q;cases ht:a c with
   |false=>obtain⟨ss,k⟩:=b n d (by omega);exact⟨ss,.no e ht k⟩
   |true=>obtain⟨ss,k⟩:=b y f (by omega);exact⟨ss,.yes e ht k⟩
theorem Wf.back {o:List Nat}{G E:List Row}(h:Wf o G){a:Th}{i:Nat}{ss:List Str}(b:i<G.length)(e:Ev (G++E) a i ss):Ev G a i ss:=by obtain⟨c,k⟩:=h.total a i b;rw[Ev.det e (k.mono E)];exact k
theorem MP.app {o:List Nat}{G E:List Row}{i:Nat}{r:Row}(k:i<=G.length)(h:MP o G i r):MP o (G++E) i r:=by
 cases r with
 |leaf j=>exact h
 |ask c n y =>
  obtain⟨a,b,g,d,e,f⟩:=h;refine⟨a,b,g,?_,?_,f⟩
  ·rw[ci (by omega)];exact d
  rw[ci (by omega)];exact e
theorem Wf.snoc {o:List Nat}{G:List Row}(h:Wf o G){r:Row}(e:r∉G)(g:MP o G G.length r):Wf o (G++[r]):=by
 refine⟨nodup_append.mpr ⟨h.nd,by simp,λa d b f=>?_⟩,λi x c=>?_⟩
 ·rw[mem_singleton.mp f];rintro rfl;exact e d
 rcases lt_trichotomy i G.length with hi |hi |hi
 ·rw[getElem?_append_left hi] at c;exact(h.row i x c).app (Nat.le_of_lt hi)
 ·subst hi;have:x=r:=by simpa using c.symm
  subst this;exact g.app (le_refl _)
 rw[getElem?_append_right (by omega)] at c;have:([r]:List Row)[i-G.length]?=none:=by rw[List.getElem?_eq_none_iff];simp;omega
 rw[this] at c;cases c
def kR (C:List (Row×Nat)):List (D×D):=C.map λp=>(az p.1,.int p.2)
def sel (a:Th)(c n y:Nat):Nat:=if a c=true then y else n
def MF (o:List Nat)(G:List Row)(r:Row)(v:Nat):Prop:=match r with
 | .leaf _=>False
 | .ask c n y=>n<G.length/\y<G.length/\v<G.length/\min (o.idxOf c) (min (J3.pl o G n) (J3.pl o G y))<=J3.pl o G v/\∀ a b,Ev G a (sel a c n y) b->Ev G a v b
theorem MF.app {o:List Nat}{G E:List Row}(w:Wf o G){r:Row}{v:Nat}(h:MF o G r v):MF o (G++E) r v:=by
 cases r with
 |leaf _=>exact h
 |ask c n y =>
  obtain⟨a,b,j,d,e⟩:=h;refine⟨by rw[List.length_append];omega,by rw[List.length_append];omega,by rw[List.length_append];omega,?_,λf g k=>?_⟩
  ·rw[ci a,ci b,ci j];exact d
  have i:sel f c n y<G.length:=by unfold sel;split<;>assumption
  exact(e f g (w.back i k)).mono E
def n4:List (Row×Nat)->Row->Nat->List (Row×Nat):=λC r v=>if (C.any λp=>decide (p.1=r))=true then C.map (λp=>if p.1=r then (p.1,v) else p) else C++[(r,v)]
theorem zi {C:List (Row×Nat)}(h:∀ p∈C,dU p.1){r:Row}(a:dU r)(v:Nat):putN (kR C) (az r) (.int v)=kR (n4 C r v):=by
 have c:((kR C).any λp=>dY p.1 (az r))=C.any λp=>decide (p.1=r):=by
  unfold kR;rw[any_map]
  have:∀ l:List (Row×Nat),(∀ p∈l,dU p.1)->(l.any ((λp=>dY p.1 (az r)) ∘ λp=>(az p.1,D.int p.2)))=l.any λp=>decide (p.1=r):=by
   intro l b
   induction l with
   |nil=>rfl
   |cons p l e =>
    rw[any_cons,any_cons,e λq f=>b q (mem_cons_of_mem _ f)];simp only[Function.comp,g6 (b p (mem_cons_self ..)) a]
  exact this C h
 unfold putN n4;rw[c];split
 ·unfold kR;rw[map_map,map_map];refine map_congr_left λp d=>?_;simp only[Function.comp,g6 (h p d) a,decide_eq_true_eq];split<;>rfl
 unfold kR;rw[map_append];rfl
theorem Eu {C:List (Row×Nat)}(h:∀ p∈C,dU p.1){r:Row}(a:dU r):j0 (kR C) (az r)=(C.find? λp=>decide (p.1=r)).map λp => .int p.2:=by
 unfold j0 kR
 induction C with
 |nil=>rfl
 |cons p C b =>
  rw[map_cons,find?_cons,find?_cons];simp only[g6 (h p (mem_cons_self ..)) a];cases hd:decide (p.1=r) with
  |true=>rfl
  |false=>exact b λq c=>h q (mem_cons_of_mem _ c)
theorem vg {C:List (Row×Nat)}{P:Row->Nat->Prop}(h:∀ p∈C,P p.1 p.2){r:Row}{v:Nat}(a:P r v):∀ p∈n4 C r v,P p.1 p.2:=by
 intro p hp;unfold n4 at hp;split at hp
 ·obtain⟨q,b,rfl⟩:=mem_map.mp hp;split
  ·rename_i e;rw[e];exact a
  exact h q b
 rcases mem_append.mp hp with hp |hp
 ·exact h p hp
 rw[mem_singleton.mp hp];exact a
theorem vf (C:List (Row×Nat))(r:Row)(v:Nat):(n4 C r v).length<=C.length+1:=by
 unfold n4;split
 ·rw[length_map];omega
 rw[List.length_append];simp
abbrev oD (o:List Nat):D:=.tup (o.map λ(c:Nat)=>D.int c)
abbrev RO (o:List Nat)(L:Nat):MO:=.ins "Rows" [("order",oD o),("gathered",.loc (L+1)),("numbers",.loc (L+2)),("choices",.loc (L+3))]
structure SR (B:Nat->Option MO) (S:JP) (L:Nat) (o:List Nat) (G:List Row) (C:List (Row×Nat)):Prop where
 obj:S[L]?=some (RO o L)
 RV:S[L+1]?=some (.lst (G.map az))
 num:S[L+2]?=some (.JT (bH 0 G))
 O5:S[L+3]?=some (.JT (kR C))
 fr:∀ i,i<L∨L+3<i->S[i]?=B i
theorem YB:(("gathered":Str)=="order")=false:=by decide
theorem rq2:(("numbers":Str)=="order")=false:=by decide
theorem rq3:(("numbers":Str)=="gathered")=false:=by decide
theorem rq4:(("choices":Str)=="order")=false:=by decide
theorem rq5:(("choices":Str)=="gathered")=false:=by decide
theorem rq6:(("choices":Str)=="numbers")=false:=by decide
section
variable {B:Nat->Option MO}{S:JP}{L:Nat}{o:List Nat}{G:List Row}{C:List (Row×Nat)}
theorem SR.ins (h:SR B S L o G C):tU "Rows" (.loc L) S=some ([("order",oD o),("gathered",.loc (L+1)),("numbers",.loc (L+2)),("choices",.loc (L+3))]:List (Str×D)):=by unfold tU;simp only[h.obj,if_true]
theorem SR.N6 (h:SR B S L o G C):gO "Rows" "order" (.loc L) S=some (oD o):=by unfold gO;rw[h.ins];simp[List.lookup]
theorem SR.OD (h:SR B S L o G C):gO "Rows" "gathered" (.loc L) S=some (.loc (L+1)):=by unfold gO;rw[h.ins];simp[List.lookup,YB]
theorem SR.QG (h:SR B S L o G C):gO "Rows" "numbers" (.loc L) S=some (.loc (L+2)):=by unfold gO;rw[h.ins];simp[List.lookup,rq2,rq3]
theorem SR.NP (h:SR B S L o G C):gO "Rows" "choices" (.loc L) S=some (.loc (L+3)):=by unfold gO;rw[h.ins];simp[List.lookup,rq4,rq5,rq6]
theorem SR.has (h:SR B S L o G C)(m:Str)(a:((m=="order") ||(m=="gathered") ||(m=="numbers") ||(m=="choices"))=false):qu "Rows" m (.loc L) S=some .Kk:=by rw[or_eq_false_iff,or_eq_false_iff,or_eq_false_iff] at a;unfold qu;rw[h.ins];simp[List.lookup,a.1.1.1,a.1.1.2,a.1.2,a.2]
theorem SR.lst (h:SR B S L o G C):da (.loc (L+1)) S=some (G.map az):=by unfold da;simp only[h.RV]
theorem SR.row (h:SR B S L o G C){i:Nat}{r:Row}(b:G[i]?=some r):qr (.loc (L+1)) (.int i) S=some (az r):=by show ((da (.loc (L+1)) S).bind λa=>Mu a (i:Int))=_;rw[h.lst,bind_some];exact bB (by rw[getElem?_map,b];rfl)
theorem mK (a b:Nat):Lk (.int a) (.int b)=some (.bl (decide (a=b))):=by
 rw[Eo];by_cases h:a=b
 ·simp[h]
 rw[decide_eq_false h,decide_eq_false (by omega)]
theorem eq_str_int (x:Str)(i:Int):Lk (.str x) (.int i)=some (.bl false):=by simp[Lk,toPy,PyData.eqv,PyData.depth]
theorem ow (r:Row)(S:JP):m9 [az r] S=JV (.bl (match r with | .leaf _=>false | .ask _ _ _=>true)) S:=by refine aB rfl ?_;unfold Cn;cases r<;>simp[az,bW]
theorem idx_map (c:Nat):∀ o:List Nat,(o.map λ(c:Nat)=>(c:Int)).idxOf (c:Int)=o.idxOf c
 |[]=>rfl
 |a::o=>by
  rw[map_cons,idxOf_cons,idxOf_cons,idx_map c o];by_cases h:a=c
  ·simp[h]
  have d:(a==c)=false:=by simpa using h
  have b:((a:Int)==(c:Int))=false:=by rw[beq_eq_false_iff_ne];omega
  rw[d,b]
theorem K7:∀ l:List Int,cw (l.map .int)=some l
 |[]=>rfl
 |a::l=>by rw[map_cons,cw,K7 l];rfl
theorem Cd (o:List Nat):cw (o.map λ(c:Nat)=>D.int c)=some (o.map λ(c:Nat)=>(c:Int)):=by rw[show (o.map λ(c:Nat)=>D.int c)=(o.map λ(c:Nat)=>(c:Int)).map D.int by rw[map_map];rfl,K7]
theorem rz {o:List Nat}{c:Nat}(h:c∈o):jS (oD o) (.int c)=some (.int (o.idxOf c:Nat)):=by unfold jS oD;simp only[Cd,bind_some];rw[if_pos (mem_map.mpr ⟨c,h,rfl⟩),idx_map]
theorem o_ {i:Nat}{r:Row}(d:G[i]?=some r)(w:MP o G i r)(S:JP):iH [az r,oD o] S=JV (.int (J3.pl o G i:Nat)) S:=by
 have a:=ow r S;unfold J3.pl;rw[d];refine aB rfl ?_;unfold pN;cases r with
 |leaf g =>
  have:bW [oD o]=some (.int o.length):=by simp[bW]
  simp[a,this]
 |ask c n y =>
  have b:=rz w.1;have f:Ks (az (.ask c n y)) (.int 0) S=some (.int c):=OC _ _ S;have e:d4 (oD o)=true:=rfl;simp[a,f,b,e]
theorem Cq (h:SR B S L o G C)(w:Wf o G)(nd:o.Nodup){c i j:Nat}(m:c∈o)(p:i<G.length)(x:j<G.length) :
  ∃ f,f∈o/\o.idxOf f=min (o.idxOf c) (min (J3.pl o G i) (J3.pl o G j))/\cr [.loc L,.int c,.int i,.int j] S=JV (.int f) S:=by
 have A:o.idxOf c<o.length:=idxOf_lt_length_iff.mpr m;have g:min (o.idxOf c) (min (J3.pl o G i) (J3.pl o G j))<o.length:=by omega
 have one:∀ k:Nat,k<G.length->bx [some (.int k),some (.loc L)] S=JV (.int (J3.pl o G k:Nat)) S:=by intro k n;have e:G[k]?=some G[k]:=List.getElem?_eq_getElem n;have q:=o_ e (w.row k _ e) S;have r:=h.row e;unfold bx;simp[h.OD,h.N6,r,q]
 have q:=fK (u:=aE 0) (fe:=bx) (λl => ∃ y,l=[y,some (.loc L)]) (λd=>match d with | .int k => .int (J3.pl o G k.toNat:Nat) |_ => .Kk) S [.int i,.int j] (b8 1 [0] [some (.loc L),some (.int c),some (.int i),some (.int j),none]) ⟨none,rfl⟩ (by
  rintro d hd l ⟨y,rfl⟩;refine⟨_,rfl,⟨_,rfl⟩,?_⟩;simp only[mem_cons,not_mem_nil,or_false] at hd;rcases hd with rfl |rfl
  ·have:=one i p;simpa using this
  have:=one j x;simpa using this)
 have s:=rz m;have z:d4 (oD o)=true:=rfl;refine⟨o[min (o.idxOf c) (min (J3.pl o G i) (J3.pl o G j))],getElem_mem g,nd.idxOf_getElem _ g,aB rfl ?_⟩;have v:nG [.lst [.int (J3.pl o G i:Nat),.int (J3.pl o G j:Nat),.int (o.idxOf c:Nat)]]=some (.int ((min (o.idxOf c) (min (J3.pl o G i) (J3.pl o G j)):Nat):Int)):=by simp only[nG,cw,map_some,bind_some,D6,List.foldl];congr 2;split<;>split<;>omega
 have t:Ks (oD o) (.int ((min (o.idxOf c) (min (J3.pl o G i) (J3.pl o G j)):Nat):Int)) S=some (.int (o[min (o.idxOf c) (min (J3.pl o G i) (J3.pl o G j))]:Nat)):=by unfold Ks;rw[if_neg (by simp[bA])];show Mu (o.map λ(c:Nat)=>D.int c) _=_;exact bB (by rw[getElem?_map,List.getElem?_eq_getElem g];rfl)
 have z2:Mz [.int i,.int j] (.tup [.int i,.int j])=some (.tup [.int i,.int j]):=b7 (by simp);have z1:Mz [.int (o.idxOf c:Nat)] (.lst [.int (o.idxOf c:Nat)])=some (.lst [.int (o.idxOf c:Nat)]):=b7 (by simp);have ad:bi (.lst [.int (J3.pl o G i:Nat),.int (J3.pl o G j:Nat)]) (.lst [.int (o.idxOf c:Nat)])=some (.lst [.int (J3.pl o G i:Nat),.int (J3.pl o G j:Nat),.int (o.idxOf c:Nat)]):=by exact(mV _ _).trans (if_pos (show 3<=sizeLine by decide))
 unfold dO;simp only[map_cons,map_nil,Int.toNat_natCast] at q;generalize J3.pl o G i=a at *
 generalize J3.pl o G j=b at *
 generalize o.idxOf c=k at *
 simp[z2,cg,q,h.N6,z,s,z1,ad,v,t]
def sd (G:List Row)(i c:Nat)(b:Bool):Nat:=match G[i]? with
 |some (.ask c' n y)=>if c'=c then (if b=true then y else n) else i
 |_=>i
theorem jI (h:SR B S L o G C){i:Nat}(l:i<G.length)(c:Nat)(b:Bool):cb [.loc L,.int i,.int c,.int (if b=true then 1 else 0)] S=JV (.int (sd G i c b:Nat)) S:=by
 have e:G[i]?=some G[i]:=List.getElem?_eq_getElem l;have d:=h.row e;unfold sd;rw[e]
 suffices ef:io [.loc (L+1),.int i,.int c,.int (if b=true then 1 else 0)] S=JV (.int (match some G[i] with
  |some (.ask a n y)=>if a=c then (if b=true then y else n) else i
  |_=>i:Nat)) S by
  refine aB rfl ?_;unfold nO;simp[h.OD,ef]
 refine aB rfl ?_;unfold mJ;cases hr:G[i] with
 |leaf k =>
  rw[hr] at d;have f:Ks (az (.leaf k)) (.int 0) S=some (.str "names"):=OC _ _ S;simp[d,f,eq_str_int,bA]
 |ask a n y =>
  rw[hr] at d;have f:Ks (az (.ask a n y)) (.int 0) S=some (.int a):=OC _ _ S;have m:Ks (az (.ask a n y)) (.int 1) S=some (.int n):=Qb _ _ _ S;have p:Ks (az (.ask a n y)) (.int 2) S=some (.int y):=at2 _ _ _ _ S;have g:=mK a c;by_cases j:a=c
  ·subst j;rw[decide_eq_true rfl] at g;cases b<;>simp[d,f,g,m,p,bA]
  rw[decide_eq_false j] at g;cases b<;>simp[d,f,g,j,bA]
theorem jH (w:Wf o G){i c:Nat}(g:i<G.length)(b:Bool)(s:c∈o)(f:o.idxOf c<=J3.pl o G i):sd G i c b<G.length/\o.idxOf c<J3.pl o G (sd G i c b)/\∀ d ss,d c=b->Ev G d i ss->Ev G d (sd G i c b) ss:=by
 have e:G[i]?=some G[i]:=List.getElem?_eq_getElem g;have m:o.idxOf c<o.length:=idxOf_lt_length_iff.mpr s;have q:=w.row i _ e;unfold sd;rw[e];cases hr:G[i] with
 |leaf ss =>
  refine⟨g,?_,λ_ _ _ k=>k⟩;unfold J3.pl;rw[e,hr];exact m
 |ask x n y =>
  rw[hr] at q e;obtain⟨r,A,B,v,u,_⟩:=q;by_cases l:x=c
  ·subst l;simp only[if_true];cases b with
   |false =>
    refine⟨by simp;omega,by simpa using v,λd ss j k=>?_⟩;cases k with
    |leaf a=>rw[e] at a;cases a
    |no a _ k=>rw[e] at a;cases a;exact k
    |yes a t k=>rw[e] at a;cases a;cases j.symm.trans t
   |true =>
    refine⟨by simp;omega,by simpa using u,λd ss j k=>?_⟩;cases k with
    |leaf a=>rw[e] at a;cases a
    |no a t k=>rw[e] at a;cases a;cases j.symm.trans t
    |yes a _ k=>rw[e] at a;cases a;exact k
  simp only[if_neg l];refine⟨g,?_,λ_ _ _ k=>k⟩;unfold J3.pl at f ⊢;rw[e] at f ⊢;simp only at f ⊢;rcases Nat.lt_or_eq_of_le f with h |h
  ·exact h
  exfalso;apply l;have z:=getElem_idxOf (idxOf_lt_length_iff.mpr r);have p:=getElem_idxOf m;rw[← z,← p];congr 1;exact h.symm
theorem jO (h:SR B S L o G C)(w:Wf o G){r:Row}(s:MP o G G.length r)(hz:G.length<16000000) :
  ∃ q E i,bn [.loc L,az r] S=JV (.int (i:Nat)) q/\SR B q L o (G++E) C/\Wf o (G++E)/\(G++E)[i]?=some r/\E.length<=1:=by
 have ok:dU r:=by cases r with
  |leaf J=>exact s.1
  |ask c n y=>trivial
 have e:=lw ok;have b:=jT ok G 0 w.ok;have K:sizeLine=16777216:=rfl;by_cases a:r∈G
 ·rw[if_pos a,zero_add] at b;have u:G.idxOf r<G.length:=idxOf_lt_length_iff.mpr a;refine⟨S,[],G.idxOf r,aB rfl ?_,by rw[append_nil];exact h,by rw[append_nil];exact w,?_,by simp⟩
  ·have f:kK true (az r) (.loc (L+2)) S=some (.bl false):=by
    unfold kK;simp only[h.num,e,eA,if_true,b];rfl
   have l:fY (.loc (L+2)) (az r) S=some (.int (G.idxOf r:Nat)):=by unfold fY;simp only[h.num,e,eA,if_true,b]
   unfold d5;simp[h.QG,f,l]
  rw[append_nil,List.getElem?_eq_getElem u,getElem_idxOf u]
 rw[if_neg a] at b;have f:kK true (az r) (.loc (L+2)) S=some (.bl true):=by unfold kK;simp only[h.num,e,eA,if_true,b];rfl
 have ep:∀ j,lF (.loc (L+2)) (az r) (.int (G.length:Nat)) j S=JV (.next j) (S.set (L+2) (.JT (bH 0 (G++[r])))):=λj=>by unfold lF;simp only[h.num,e];rw[if_pos ⟨by rw[vo];omega,eA r⟩,zO ok w.ok a]
 generalize d:S.set (L+2) (.JT (bH 0 (G++[r])))=S1 at ep;have x:S1[L]?=some (RO o L):=by rw[← d,bE (by omega)];exact h.obj
 have g:S1[L+1]?=some (.lst (G.map az)):=by rw[← d,bE (by omega)];exact h.RV
 have F:S1[L+2]?=some (.JT (bH 0 (G++[r]))):=by rw[← d];exact dE h.num
 have I:S1[L+3]?=some (.JT (kR C)):=by rw[← d,bE (by omega)];exact h.O5
 have H:gO "Rows" "gathered" (.loc L) S1=some (.loc (L+1)):=by unfold gO tU;simp only[x,if_true];simp[List.lookup,YB]
 have D:da (.loc (L+1)) S1=some (G.map az):=by unfold da;simp only[g]
 have t:uw (.loc (L+1)) (az r) S1=JV .Kk (S1.set (L+1) (.lst ((G++[r]).map az))):=by unfold uw;simp only[g];rw[if_pos (by rw[length_map];omega),map_append];rfl
 have sr:SR B (S1.set (L+1) (.lst ((G++[r]).map az))) L o (G++[r]) C:=by
  refine⟨?_,dE g,?_,?_,λk z=>by rw[bE (by omega),← d,bE (by omega)];exact h.fr k z⟩
  ·rw[bE (by omega)];exact x
  ·rw[bE (by omega)];exact F
  rw[bE (by omega)];exact I
 generalize M:S1.set (L+1) (.lst ((G++[r]).map az))=S2 at t sr;have v:=w.snoc a s;have p:=jT ok (G++[r]) 0 v.ok;rw[if_pos (by simp),zero_add,idxOf_append,if_neg a] at p;have A:([r]:List Row).idxOf r+G.length=G.length:=by simp
 have m:G.length+([r]:List Row).idxOf r=G.length:=by simp
 refine⟨S2,[r],G.length,aB rfl ?_,sr,v,by simp,by simp⟩
 have l:fY (.loc (L+2)) (az r) S2=some (.int (G.length:Nat)):=by
  unfold fY;simp only[sr.num,e,eA,if_true,p]
  first |rw[A] |rw[m]
 unfold d5;simp[h.QG,f,h.OD,h.lst,ep,H,D,t,sr.QG,l]
end
section
variable {B:Nat->Option MO}{S:JP}{L:Nat}{o:List Nat}{G:List Row}{C:List (Row×Nat)}
theorem uv (h:SR B S L o G C)(w:Wf o G){c a b:Nat}(t:c∈o)(m:a<G.length)(v:b<G.length)(n:o.idxOf c<J3.pl o G a)(y:o.idxOf c<J3.pl o G b)(hz:G.length<16000000) :
  ∃ f E i,bj [.loc L,.int c,.int a,.int b] S=JV (.int (i:Nat)) f/\SR B f L o (G++E) C/\Wf o (G++E)/\i<(G++E).length/\o.idxOf c<=J3.pl o (G++E) i/\E.length<=1/\∀ d ss,Ev (G++E) d (sel d c a b) ss->Ev (G++E) d i ss:=by
 have l:=mK a b;by_cases e:a=b
 ·subst e;rw[decide_eq_true rfl] at l;refine⟨S,[],a,aB rfl ?_,by rw[append_nil];exact h,by rw[append_nil];exact w,by rw[append_nil];exact m,by rw[append_nil];omega,by simp,λd ss k=>?_⟩
  ·unfold cK;simp
  unfold sel at k;simpa using k
 rw[decide_eq_false e] at l;obtain⟨f,E,i,j,sr,z,g,p⟩:=jO h w (r:=.ask c a b) ⟨t,m,v,n,y,e⟩ hz;have u:=(List.getElem?_eq_some_iff.mp g).1;have x:=h.has "number_of" (by decide);have s:Mz [.int c,.int a,.int b] (.tup [.int c,.int a,.int b])=some (.tup [.int c,.int a,.int b]):=b7 (by simp);have j:bn [.loc L,.tup [.int c,.int a,.int b]] S=JV (.int (i:Nat)) f:=j;have q:¬ ((a:Int)=b):=by omega
 refine⟨f,E,i,aB rfl ?_,sr,z,u,?_,p,λd ss k=>?_⟩
 ·unfold cK;simp[q,x,s,j]
 ·unfold J3.pl;rw[g];exact le_refl _
 unfold sel at k;cases ht:d c with
 |false=>rw[ht] at k;exact .no g ht (by simpa using k)
 |true=>rw[ht] at k;exact .yes g ht (by simpa using k)
def yi (B:Nat->Option MO)(L:Nat)(o:List Nat)(G:List Row)(C:List (Row×Nat))(c i j N M:Nat)(out:Out D):Prop:=
 ∃ b E a r,out=JV (.int (r:Nat)) b/\SR B b L o (G++E) a/\Wf o (G++E)/\(∀ p∈a,MF o (G++E) p.1 p.2)/\MF o (G++E) (.ask c i j) r/\E.length<=N/\a.length<=C.length+M
theorem qT {r:Row}{v:Nat}(h:MF o G r v):dU r:=by
 cases r with
 |leaf _=>exact h.elim
 |ask _ _ _=>trivial
theorem SR.put (h:SR B S L o G C)(n:∀ p∈C,MF o G p.1 p.2)(c i j v:Nat)(hz:C.length<16000000)(ρ:JQ) :
  ∃ d,lF (.loc (L+3)) (az (.ask c i j)) (.int v) ρ S=JV (.next ρ) d/\SR B d L o G (n4 C (.ask c i j) v)/\fY (.loc (L+3)) (az (.ask c i j)) d=some (.int v):=by
 have f:=lw (r:=.ask c i j) trivial;have e:∀ p∈C,dU p.1:=λp l=>qT (n p l);have q:S.set (L+3) (.JT (putN (kR C) (az (.ask c i j)) (.int v)))=S.set (L+3) (.JT (kR (n4 C (.ask c i j) v))):=by rw[zi e (r:=.ask c i j) trivial]
 refine⟨S.set (L+3) (.JT (kR (n4 C (.ask c i j) v))),?_,⟨?_,?_,?_,dE h.O5,λk m=>by rw[bE (by omega)];exact h.fr k m⟩,?_⟩
 ·unfold lF;simp only[h.O5,f];rw[if_pos ⟨by unfold kR;rw[length_map];exact lt_of_lt_of_le hz (by decide),eA _⟩,q]
 ·rw[bE (by omega)];exact h.obj
 ·rw[bE (by omega)];exact h.RV
 ·rw[bE (by omega)];exact h.num
 have g:=dE (b:=.JT (kR (n4 C (.ask c i j) v))) h.O5;unfold fY;simp only[g,f,eA,if_true];rw[← zi e (r:=.ask c i j) trivial];exact rA (by rw[g6 (a:=.ask c i j) (b:=.ask c i j) trivial trivial];simp)
theorem Hh {n x f a b:Nat}(h:x<n+1+f)(e:f<x)(c:f<a)(d:f<b):x<n+min x (min a b):=by have:f+1<=min x (min a b):=le_min.mpr ⟨e,le_min.mpr ⟨c,d⟩⟩;omega
theorem half {g p q N:Nat}(h:g+q<=N)(e:q=2*p):g+p<=N:=by omega
theorem EZ {g d p q l N:Nat}(h:g+q<=N)(e:q=2*p)(k:d<=p-1)(b : 1<=p)(a:l=g+d):l+p<=N:=by omega
theorem EY {g d p q N:Nat}(h:g+q<=N)(e:q=2*p)(k:d<=g+(p-1))(a : 1<=p):d+p<=N:=by omega
theorem eY {G E:List Row}{i:Nat}(h:i<G.length):i<(G++E).length:=by rw[List.length_append];omega
theorem EF (nd:o.Nodup){F:JO}{n:Nat}(IH:∀ {S:JP}{G:List Row}{C:List (Row×Nat)}{c i j:Nat},SR B S L o G C->Wf o G->(∀ p∈C,MF o G p.1 p.2)->c∈o->i<G.length->j<G.length->o.idxOf c<n+min (o.idxOf c) (min (J3.pl o G i) (J3.pl o G j))->G.length+2 ^ n<=16000000->C.length+2 ^ n<=16000000->yi B L o G C c i j (2 ^ n-1) (2 ^ n-1) (F [.loc L,.int c,.int i,.int j] S))
  {c i j:Nat}(h:SR B S L o G C) (w:Wf o G) (hC:∀ p∈C,MF o G p.1 p.2) (u:c∈o) (r:i<G.length) (s:j<G.length) (t:o.idxOf c<n+1+min (o.idxOf c) (min (J3.pl o G i) (J3.pl o G j))) (hz:G.length+2 ^ (n+1)<=16000000) (PV:C.length+2 ^ (n+1)<=16000000) :
  yi B L o G C c i j (2 ^ (n+1)-1) (2 ^ (n+1)-2) (df F [.loc L,.int c,.int i,.int j] S):=by
 have P : 2 ^ (n+1)=2*2 ^ n:=by rw[pow_succ];omega
 have p1 : 1<=2 ^ n:=one_le_two_pow;obtain⟨f,y,K,e1⟩:=Cq h w nd u r s;have gc:o.idxOf f<=o.idxOf c:=K▸Nat.min_le_left _ _;have gi:o.idxOf f<=J3.pl o G i:=K▸Nat.le_trans (min_le_right _ _) (Nat.min_le_left _ _);have V:o.idxOf f<=J3.pl o G j:=K▸Nat.le_trans (min_le_right _ _) (min_le_right _ _);rw[← K] at t;have hq:=mK f c;have VD:=h.has "first_character" (by decide);have OZ:=h.has "number_of_ask" (by decide);have YD:=h.has "side" (by decide);have Z:=h.has "choose" (by decide);by_cases W7:f=c
 ·subst W7;rw[decide_eq_true rfl] at hq;have I:=jI h r f false;have D:=jI h s f true;obtain⟨z,x,Y⟩:=jH w r false u gi;obtain⟨R,T,b3⟩:=jH w s true u V;obtain⟨S',E,v,q1,sr,U,X,pv,hE,NQ⟩:=uv h w u z R x T (by omega);refine⟨S',E,C,v,aB rfl ?_,sr,U,λp t=>(hC p t).app w,⟨eY r,eY s,X,by omega,λd g k=>?_⟩,by omega,by omega⟩
  ·unfold db;simp only[false_eq_true,if_false,if_true] at I D;simp[VD,OZ,YD,e1,I,D,q1]
  refine NQ d g ?_;have W:sel d f i j<G.length:=by unfold sel;split<;>assumption
  have k:=w.back W k;unfold sel at k ⊢;cases ht:d f with
  |false=>rw[ht] at k;exact(Y d g ht (by simpa using k)).mono E
  |true=>rw[ht] at k;exact(b3 d g ht (by simpa using k)).mono E
 rw[decide_eq_false W7] at hq;have Lb:¬ ((f:Int)=c):=by omega
 have Q:o.idxOf f<o.idxOf c:=by
  rcases Nat.lt_or_eq_of_le gc with q |q
  ·exact q
  exfalso;apply W7;have z:=getElem_idxOf (idxOf_lt_length_iff.mpr y);have x:=getElem_idxOf (idxOf_lt_length_iff.mpr u);rw[← z,← x];congr 1
 have I:=jI h r f false;have D:=jI h s f false;obtain⟨z,x,Y⟩:=jH w r false y gi;obtain⟨R,T,b3⟩:=jH w s false y V;obtain⟨S1,e,C1,a,q1,M,w1,TH,ch1,l1,m1⟩:=IH h w hC u z R (Hh t Q x T) (half hz P) (half PV P);obtain⟨_,_,va,pa,W8⟩:=ch1;have YE:J3.pl o (G++e) i=J3.pl o G i:=ci r;have YF:J3.pl o (G++e) j=J3.pl o G j:=ci s;have H:i<(G++e).length:=eY r;have J:j<(G++e).length:=eY s;have Tc:(G++e).length=G.length+e.length:=List.length_append;have t1:=jI M H f true;have t2:=jI M J f true;obtain⟨c1,c2,c3⟩:=jH w1 H true y (YE▸gi);obtain⟨d1,d2,d3⟩:=jH w1 J true y (YF▸V);have W9:=M.has "side" (by decide);have nm4:=M.has "choose" (by decide);obtain⟨S2,l,C2,b,q2,Td,U,W_,ch2,l2,m2⟩:=IH M w1 TH u c1 d1 (Hh t Q c2 d2) (EZ hz P l1 p1 Tc) (EY PV P m1 p1);obtain⟨_,_,vb,pb,Xa⟩:=ch2;have nm5:=Td.has "number_of_ask" (by decide);have Xb:(G++e++l).length=G.length+e.length+l.length:=by rw[List.length_append,Tc]
 rw[ci z,ci R] at pa;rw[ci c1,ci d1] at pb;have ga:o.idxOf f<J3.pl o (G++e++l) a:=by rw[ci va];exact lt_of_lt_of_le (lt_min.mpr ⟨Q,lt_min.mpr ⟨x,T⟩⟩) pa
 have gb:o.idxOf f<J3.pl o (G++e++l) b:=lt_of_lt_of_le (lt_min.mpr ⟨Q,lt_min.mpr ⟨c2,d2⟩⟩) pb;obtain⟨S3,m,v,q3,Qc,w3,X,pv,l3,NQ⟩:=uv Td U (c:=f) (a:=a) (b:=b) y (eY va) vb ga gb (by omega);have O:G++(e++l++m)=G++e++l++m:=by simp
 have lG3:(G++e++l++m).length=G.length+e.length+l.length+m.length:=by rw[List.length_append,Xb]
 refine⟨S3,e++l++m,C2,v,aB rfl ?_,by rw[O];exact Qc,by rw[O];exact w3,λp t=>by rw[O];exact(W_ p t).app U,?_,by rw[List.length_append,List.length_append];omega,by omega⟩
 ·unfold db;simp only[false_eq_true,if_false,if_true] at I D t1 t2;simp[VD,YD,Z,e1,Lb,I,D,q1,W9,nm4,t1,t2,q2,nm5,q3]
 rw[O];have px:J3.pl o (G++e++l++m) i=J3.pl o G i:=by rw[ci (eY H),ci H,YE]
 have py:J3.pl o (G++e++l++m) j=J3.pl o G j:=by rw[ci (eY J),ci J,YF]
 refine⟨eY (eY H),eY (eY J),X,by rw[px,py,← K];exact pv,λd g k=>?_⟩;refine NQ d g ?_;have W:sel d c i j<G.length:=by unfold sel;split<;>assumption
 have k:Ev G d (sel d c i j) g:=w.back (E:=e++l++m) W (by rw[O];exact k);cases ht:d f with
 |false =>
  have:Ev (G++e) d (sel d c (sd G i f false) (sd G j f false)) g:=by
   unfold sel at k ⊢;by_cases A:d c=true
   ·rw[if_pos A] at k ⊢;exact(b3 d g ht k).mono e
   rw[if_neg A] at k ⊢;exact(Y d g ht k).mono e
  have:=W8 d g this;show Ev _ d (if d f=true then b else a) g;rw[ht];exact(this.mono l).mono m
 |true =>
  have N:Ev (G++e) d (sel d c i j) g:=k.mono e
  have:Ev (G++e++l) d (sel d c (sd (G++e) i f true) (sd (G++e) j f true)) g:=by
   unfold sel at N ⊢;by_cases A:d c=true
   ·rw[if_pos A] at N ⊢;exact(d3 d g ht N).mono l
   rw[if_neg A] at N ⊢;exact(c3 d g ht N).mono l
  have:=Xa d g this;show Ev _ d (if d f=true then b else a) g;rw[ht];exact this.mono m
theorem rQ (nd:o.Nodup):∀ (n:Nat) {S:JP}{G:List Row}{C:List (Row×Nat)}{c i j:Nat},SR B S L o G C->Wf o G->(∀ p∈C,MF o G p.1 p.2)->c∈o->i<G.length->j<G.length->o.idxOf c<n+min (o.idxOf c) (min (J3.pl o G i) (J3.pl o G j))->G.length+2 ^ n<=16000000->C.length+2 ^ n<=16000000->yi B L o G C c i j (2 ^ n-1) (2 ^ n-1) (eK n [.loc L,.int c,.int i,.int j] S)
 | 0,S,G,C,c,i,j,h,w,d,y,g,D,f,x,z=>absurd f (by omega)
 |n+1,S,G,C,c,i,j,h,w,d,y,g,D,f,x,z=>by
  have u:=lw (r:=.ask c i j) trivial;have J:∀ p∈C,dU p.1:=λp f=>qT (d p f);have l:=Eu J (r:=.ask c i j) trivial;have s:Mz [.int c,.int i,.int j] (.tup [.int c,.int i,.int j])=some (.tup [.int c,.int i,.int j]):=b7 (by simp);have X : 1<=2 ^ n:=one_le_two_pow;have V : 2 ^ (n+1)=2*2 ^ n:=by rw[pow_succ];omega
  have m:az (.ask c i j) = .tup [.int c,.int i,.int j]:=rfl;cases hf:C.find? (λp=>decide (p.1=Row.ask c i j)) with
  |some p =>
   rw[hf] at l;have Q:=List.mem_of_find?_eq_some hf;have I:p.1 = .ask c i j:=by simpa using List.find?_some hf
   have b:=d p Q;rw[I] at b;have e:kK true (az (.ask c i j)) (.loc (L+3)) S=some (.bl false):=by unfold kK;simp only[h.O5,u,eA,if_true,l];rfl
   have a:fY (.loc (L+3)) (az (.ask c i j)) S=some (.int (p.2:Nat)):=by unfold fY;simp only[h.O5,u,eA,if_true,l];rfl
   rw[m] at e a;refine⟨S,[],C,p.2,aB rfl ?_,by rw[append_nil];exact h,by rw[append_nil];exact w,by rw[append_nil];exact d,by rw[append_nil];exact b,by simp,by omega⟩;unfold eD;simp[s,h.NP,e,a]
  |none =>
   rw[hf] at l;have e:kK true (az (.ask c i j)) (.loc (L+3)) S=some (.bl true):=by unfold kK;simp only[h.O5,u,eA,if_true,l];rfl
   rw[m] at e;have P:=h.has "choose_anew" (by decide);by_cases M:i=j
   ·subst M;have b:MF o G (.ask c i i) i:=⟨g,g,g,by omega,λU R k=>by unfold sel at k;simpa using k⟩;obtain⟨t,ep,sr,a⟩:=h.put d c i i i (by omega) [some (.loc L),some (.int c),some (.int i),some (.int i),some (.tup [.int c,.int i,.int i])];rw[m] at ep a;have pl:=vf C (.ask c i i) i;refine⟨t,[],n4 C (.ask c i i) i,i,aB rfl ?_,by rw[append_nil];exact sr,by rw[append_nil];exact w,by rw[append_nil];exact vg d b,by rw[append_nil];exact b,by simp,by omega⟩;unfold eD;simp[s,h.NP,e,ep,sr.NP,a]
   have K:¬ ((i:Int)=j):=by omega
   obtain⟨T,E,H,v,q,A,N,F,b,O,W⟩:=EF nd (λ{S G C c i j}=>rQ nd n (S:=S) (G:=G) (C:=C) (c:=c) (i:=i) (j:=j)) h w d y g D f x z;obtain⟨t,ep,sr,a⟩:=A.put F c i j v (by omega) [some (.loc L),some (.int c),some (.int i),some (.int j),some (.tup [.int c,.int i,.int j])];rw[m] at ep a;have pl:=vf H (.ask c i j) v;refine⟨t,E,n4 H (.ask c i j) v,v,aB rfl ?_,sr,N,vg F b,b,O,by omega⟩;unfold eD;simp[s,h.NP,e,K,P,q,A.NP,ep,sr.NP,a]
end
inductive KQ (m:Nat):Nat->D->Prop
 |leaf {k:Nat}{ss:List Str}:(∀ x∈ss,di x=true)->QF ss=true->ss.length<=6->KQ m k (az (.leaf ss))
 |ask {k c:Nat}{x y:D}:c<m->KQ m k x->KQ m k y->KQ m (k+1) (.tup [.str "ask",.int c,x,y])
inductive Kv (th:Th):D->List Str->Prop
 |leaf {ss:List Str}:Kv th (az (.leaf ss)) ss
 |no {c:Nat}{x y:D}{ss:List Str}:th c=false->Kv th x ss->Kv th (.tup [.str "ask",.int c,x,y]) ss
 |yes {c:Nat}{x y:D}{ss:List Str}:th c=true->Kv th y ss->Kv th (.tup [.str "ask",.int c,x,y]) ss
theorem eqs (w s:Str):Lk (.str w) (.str s)=some (.bl (decide (w=s))):=by rw[Cv rfl];rfl
theorem zn:¬ ("ask":Str)="names":=by decide
section
variable {B:Nat->Option MO}{L:Nat}{o:List Nat}
theorem DW (nd:o.Nodup)(hl:o.length<=8){m:Nat}(ho:∀ c,c<m->c∈o){k:Nat}{d:D}(hd:KQ m k d):∀ (fuel:Nat) {S:JP}{G:List Row}{C:List (Row×Nat)},k<fuel->SR B S L o G C->Wf o G->(∀ p∈C,MF o G p.1 p.2)->G.length+512*2 ^ (k+1)<=16000000->C.length+512*2 ^ (k+1)<=16000000 ->
  ∃ H E O r,c0 fuel [.loc L,d] S=JV (.int (r:Nat)) H/\SR B H L o (G++E) O/\Wf o (G++E)/\(∀ p∈O,MF o (G++E) p.1 p.2)/\r<(G++E).length/\E.length+512<=512*2 ^ (k+1)/\O.length+512<=C.length+512*2 ^ (k+1)/\∀ g ss,Kv g d ss->Ev (G++E) g r ss:=by
 induction hd with
 | @leaf k ss h1 h2 _ =>
  intro fuel S G C hf h w N Y PV;obtain⟨fuel,rfl⟩:∃ f,fuel=f+1:=⟨fuel-1,by omega⟩;have p1 : 1<=2 ^ k:=one_le_two_pow;have p2 : 2 ^ (k+1)=2*2 ^ k:=by rw[pow_succ];omega
  obtain⟨H,E,i,M,sr,P,T,hE⟩:=jO h w (r:=.leaf ss) ⟨h1,h2⟩ (by omega);have J:=h.has "number_of" (by decide);have e0:Ks (az (.leaf ss)) (.int 0) S=some (.str "names"):=OC _ _ S;have t:=eqs "names" "names";rw[decide_eq_true rfl] at t;refine⟨H,E,C,i,aB rfl ?_,sr,P,λp hp=>(N p hp).app w,(List.getElem?_eq_some_iff.mp T).1,by omega,by omega,λg Pg k=>?_⟩
  ·unfold eZ;simp[e0,t,J,M]
  generalize F:az (.leaf ss)=D0 at k;cases k with
  |leaf =>
   have hs:ss=Pg:=by simp only[az,D.tup.injEq,List.cons.injEq,and_true,true_and] at F;exact(List.map_inj_right (λa b h=>by cases h;rfl)).mp F
   subst hs;exact .leaf T
  |no=>simp[az] at F
  |yes=>simp[az] at F
 | @ask k c x y hc _ _ W iy =>
  intro fuel S G C hf h w N Y PV;obtain⟨fuel,rfl⟩:∃ f,fuel=f+1:=⟨fuel-1,by omega⟩;have p1 : 1<=2 ^ (k+1):=one_le_two_pow;have p2 : 2 ^ (k+1+1)=2*2 ^ (k+1):=by rw[pow_succ];omega
  obtain⟨S1,l,C1,u,M,Nz,w1,TH,v1,l1,m1,Xd⟩:=W fuel (by omega) h w N (by omega) (by omega);have Tc:(G++l).length=G.length+l.length:=List.length_append;obtain⟨S2,n,C2,A,e2,Td,P,W_,v2,l2,m2,Xe⟩:=iy fuel (by omega) Nz w1 TH (by omega) (by omega);have Xb:(G++l++n).length=G.length+l.length+n.length:=by rw[List.length_append,Tc]
  have Q:=ho c hc;have Pj:o.idxOf c<o.length:=idxOf_lt_length_iff.mpr Q;have J:=h.has "choose" (by decide);obtain⟨X,s,R,v,q3,Qc,w3,K,ch,U,V⟩:=rQ nd 9 Td P W_ Q (i:=u) (j:=A) (by omega) v2 (by omega) (by show _+512<=_;omega) (by show _+512<=_;omega);obtain⟨_,_,Z,_,NQ⟩:=ch;have U:s.length<=511:=U;have V:R.length<=C2.length+511:=V;have z:G++(l++n++s)=G++l++n++s:=by simp
  have a0:Ks (.tup [.str "ask",.int c,x,y]) (.int 0) S=some (.str "ask"):=OC _ _ S;have t:=eqs "ask" "names";rw[decide_eq_false zn] at t;refine⟨X,l++n++s,R,v,aB rfl ?_,by rw[z];exact Qc,by rw[z];exact w3,by rw[z];exact K,by rw[z];exact Z,by rw[List.length_append,List.length_append];omega,by omega,λg ss q=>?_⟩
  ·unfold eZ;simp[OC,Qb,at2,Yy,t,J,M,e2,q3]
  rw[z];refine NQ g ss ?_;cases q with
  |no I q =>
   have:Ev (G++l++n) g u ss:=(Xd g ss q).mono n;have e:sel g c u A=u:=by unfold sel;rw[I];rfl
   rw[e];exact this.mono s
  |yes I q =>
   have e:sel g c u A=A:=by unfold sel;rw[I];rfl
   rw[e];exact(Xe g ss q).mono s
end
inductive Tr where
 |leaf (ss:List Str)
 |node (c:Nat) (n y:Tr)
 deriving DecidableEq
def K0:Tr->Th->List Str
 | .leaf b,_=>b
 | .node c n y,a=>if a c=true then K0 y a else K0 n a
def tp (o:List Nat):Tr->Nat
 | .leaf _=>o.length
 | .node c _ _=>o.idxOf c
def Ord (o:List Nat):Tr->Prop
 | .leaf _=>True
 | .node c n y=>c∈o/\Ord o n/\Ord o y/\o.idxOf c<tp o n/\o.idxOf c<tp o y/\n≠y
def OE:Tr->Nat
 | .leaf _ => 1
 | .node _ n y=>OE n+OE y+1
theorem Dj (t:Tr) : 1<=OE t:=by cases t<;>simp[OE]
noncomputable def upd (a:Th) (c:Nat) (b:Bool):Th:=λx=>if x=c then b else a x
theorem J4 (a:Th)(c:Nat)(b:Bool):upd a c b c=b:=by simp[upd]
theorem jD {o:List Nat}{c:Nat}:∀ {t:Tr},Ord o t->o.idxOf c<tp o t->∀ (a:Th) (b:Bool),K0 t (upd a c b)=K0 t a
 | .leaf _,_,_,_,_=>rfl
 | .node d n y,h,f,a,b=>by
  obtain⟨_,g,i,q,p,_⟩:=h;have f:o.idxOf c<o.idxOf d:=f;have k:¬ d=c:=λe=>by rw[e] at f;omega
  have l:=jD g (show o.idxOf c<tp o n by omega) a b;have m:=jD i (show o.idxOf c<tp o y by omega) a b;have j:upd a c b d=a d:=by simp[upd,k]
  show (if upd a c b d=true then K0 y (upd a c b) else K0 n (upd a c b))=_;rw[l,m,j];rfl
theorem wZ {o:List Nat}{c:Nat}{n y:Tr}(h:Ord o (.node c n y))(a:Th):K0 (.node c n y) (upd a c false)=K0 n a:=by show (if upd a c false c=true then _ else K0 n (upd a c false))=_;rw[J4,jD h.2.1 h.2.2.2.1];rfl
theorem sH {o:List Nat}{c:Nat}{n y:Tr}(h:Ord o (.node c n y))(a:Th):K0 (.node c n y) (upd a c true)=K0 y a:=by show (if upd a c true c=true then K0 y (upd a c true) else _)=_;rw[J4,jD h.2.2.1 h.2.2.2.2.1];rfl
theorem Eh {o:List Nat}{a b:Nat}(c:a∈o)(d:b∈o)(h:o.idxOf a=o.idxOf b):a=b:=by have f:=getElem_idxOf (idxOf_lt_length_iff.mpr c);have e:=getElem_idxOf (idxOf_lt_length_iff.mpr d);rw[← f,← e];congr 1
theorem canon {o:List Nat}:∀ (k:Nat) {t t':Tr},OE t+OE t'<=k->Ord o t->Ord o t'->(∀ d,K0 t d=K0 t' d)->t=t'
 | 0,t,t',e,_,_,_=>absurd e (by have:=Dj t;omega)
 |k+1,t,t',e,h,h',he=>by
  have apart:∀ {c:Nat}{n y s:Tr},OE n+OE y<=k->Ord o (.node c n y)->Ord o s->o.idxOf c<tp o s->(∀ d,K0 (.node c n y) d=K0 s d)->False:=by intro c n y s w f l i j;apply f.2.2.2.2.2;refine canon k w f.2.1 f.2.2.1 λd=>?_;have a:=j (upd d c false);have b:=j (upd d c true);rw[wZ f,jD l i] at a;rw[sH f,jD l i] at b;rw[a,b]
  cases t with
  |leaf g=>cases t' with
   |leaf z=>have:=he (λ_=>false);simp only[K0] at this;rw[this]
   |node c n y =>
    exact(apart (s:=.leaf g) (by simp only[OE] at e;omega) h' h (idxOf_lt_length_iff.mpr h'.1) λd=>(he d).symm).elim
  |node c n y=>cases t' with
   |leaf g =>
    exact(apart (s:=.leaf g) (by simp only[OE] at e;omega) h h' (idxOf_lt_length_iff.mpr h.1) he).elim
   |node p r m =>
    simp only[OE] at e;rcases lt_trichotomy (o.idxOf c) (o.idxOf p) with q |q |q
    ·exact(apart (s:=.node p r m) (by omega) h h' q he).elim
    ·have v:=Eh h.1 h'.1 q;subst v;have u:n=r:=canon k (by omega) h.2.1 h'.2.1 λd=>by have:=he (upd d c false);rwa [wZ h,wZ h'] at this
     have x:y=m:=canon k (by omega) h.2.2.1 h'.2.2.1 λd=>by have:=he (upd d c true);rwa [sH h,sH h'] at this
     rw[u,x]
    exact(apart (s:=.node c n y) (by omega) h' h q λd=>(he d).symm).elim
inductive Un (G:List Row):Nat->Tr->Prop
 |leaf {i:Nat}{ss:List Str}:G[i]?=some (.leaf ss)->Un G i (.leaf ss)
 |node {i c n y:Nat}{s t:Tr}:G[i]?=some (.ask c n y)->Un G n s->Un G y t->Un G i (.node c s t)
theorem Un.det {G:List Row}{i:Nat}{s t:Tr}(h:Un G i s)(g:Un G i t):s=t:=by
 induction h generalizing t with
 |leaf h=>cases g with
  |leaf c=>rw[h] at c;cases c;rfl
  |node c=>rw[h] at c;cases c
 |node h _ _ e d=>cases g with
  |leaf c=>rw[h] at c;cases c
  |node c a b=>rw[h] at c;cases c;rw[e a,d b]
theorem Un.ev {G:List Row}{i:Nat}{t:Tr}(h:Un G i t)(a:Th):Ev G a i (K0 t a):=by
 induction h with
 |leaf h=>exact .leaf h
 | @node i c n y s t h _ _ d b =>
  cases ht:a c with
  |false=>exact .no h ht (by rw[K0,ht];exact d)
  |true=>exact .yes h ht (by rw[K0,ht];exact b)
theorem Wf.un {o:List Nat}{G:List Row}(w:Wf o G):∀ (i:Nat),i<G.length->∃ t,Un G i t:=by
 intro i
 induction i using Nat.strongRecOn with
 |_ i a =>
  intro f;have e:G[i]?=some G[i]:=List.getElem?_eq_getElem f;have q:=w.row i _ e;cases hr:G[i] with
  |leaf j=>rw[hr] at e;exact⟨_,.leaf e⟩
  |ask c n y =>
   rw[hr] at e q;obtain⟨_,b,d,_⟩:=q;obtain⟨s,h⟩:=a n b (by omega);obtain⟨t,g⟩:=a y d (by omega);exact⟨_,.node e h g⟩
theorem Un.inj {G:List Row}(nd:G.Nodup){i:Nat}{t:Tr}(h:Un G i t):∀ {j:Nat},Un G j t->i=j:=by
 have key:∀ {a b:Nat}{r:Row},G[a]?=some r->G[b]?=some r->a=b:=by intro a b r f k;have n:=(List.getElem?_eq_some_iff.mp f).1;have l:=(List.getElem?_eq_some_iff.mp k).1;have m:=(List.getElem?_eq_some_iff.mp f).2;have p:=(List.getElem?_eq_some_iff.mp k).2;have d:=nd.idxOf_getElem a n;have e:=nd.idxOf_getElem b l;rw[← d,← e,m,p]
 induction h with
 |leaf h=>intro j g;cases g with
  |leaf c=>exact key h c
 |node h _ _ d e=>intro j g;cases g with
  |node c a b =>
   have o:=d a;have q:=e b;subst o q;exact key h c
theorem Un.pl {o:List Nat}{G:List Row}{i:Nat}{t:Tr}(h:Un G i t):J3.pl o G i=tp o t:=by
 unfold J3.pl;cases h with
 |leaf h=>rw[h];rfl
 |node h _ _=>rw[h];rfl
def po:Tr->List Tr->List Tr
 | .leaf b,a=>if Tr.leaf b∈a then a else a++[.leaf b]
 | .node c n y,a=>if Tr.node c n y∈a then a else po y (po n a)++[.node c n y]
def v5 (P:List Tr):Tr->Row
 | .leaf a => .leaf a
 | .node c n y => .ask c (P.idxOf n) (P.idxOf y)
def enc (P:List Tr):List Row:=P.map (v5 P)
open Classical in
noncomputable def uT (G:List Row) (i:Nat):Tr:=if h:∃ t,Un G i t then Classical.choose h else .leaf []
theorem Un.uT {G:List Row}{i:Nat}{t:Tr}(h:Un G i t):J3.uT G i=t:=by unfold J3.uT;have e:∃ t,Un G i t:=⟨t,h⟩;rw[dif_pos e];exact(Classical.choose_spec e).det h
theorem Wf.uT {o:List Nat}{G:List Row}(w:Wf o G){i:Nat}(a:i<G.length):Un G i (J3.uT G i):=by obtain⟨t,h⟩:=w.un i a;rw[h.uT];exact h
theorem wU {o:List Nat}{G:List Row}(w:Wf o G){i j:Nat}(a:i<G.length)(b:j<G.length)(h:J3.uT G i=J3.uT G j):i=j:=
 Un.inj w.nd (w.uT a) (h▸w.uT b)
theorem AS {o:List Nat}{G:List Row}(w:Wf o G){a:List Nat}(c:∀ i∈a,i<G.length){j:Nat}(d:j<G.length)(h:J3.uT G j∈a.map (J3.uT G)):j∈a:=by obtain⟨k,b,e⟩:=mem_map.mp h;rw[← wU w (c k b) d e];exact b
theorem eW {t:Tr}{a:List Tr}(h:t∈a):po t a=a:=by cases t<;>(unfold po;rw[if_pos h])
theorem eC {ss:List Str}{a:List Tr}(h:Tr.leaf ss∉a):po (.leaf ss) a=a++[.leaf ss]:=by unfold po;rw[if_neg h]
theorem eB {c:Nat}{n y:Tr}{a:List Tr}(h:Tr.node c n y∉a):po (.node c n y) a=po y (po n a)++[.node c n y]:=by rw[po,if_neg h]
def lf (a:List Nat):List (D×D):=a.map λ(k:Nat)=>(D.int k,D.bl true)
theorem jK (a b:Nat):fW (.int a) (.int b)=decide (a=b):=by
 unfold fW;by_cases h:a=b
 ·simp[h]
 rw[decide_eq_false h];have:¬ ((a:Int)=b):=by omega
 simp[fy,this]
theorem yP (k:Nat):∀ b:List Nat,((lf b).find? λp=>fW p.1 (.int k)).isSome=decide (k∈b)
 |[]=>by simp[lf]
 |a::b=>by
  have c:=yP k b;unfold lf at c ⊢;rw[map_cons,find?_cons];simp only[jK];by_cases h:a=k
  ·simp[h]
  rw[decide_eq_false h];simp only;rw[c];have:¬ k=a:=λe=>h e.symm;simp[this]
theorem Gb (k:Nat)(b:List Nat):((lf b).any λp=>fW p.1 (.int k))=decide (k∈b):=by
 induction b with
 |nil=>simp[lf]
 |cons a b c =>
  unfold lf at c ⊢;rw[map_cons,any_cons,c,jK];by_cases h:a=k
  ·simp[h]
  have:¬ k=a:=λe=>h e.symm;simp[h,this]
theorem Ga {k:Nat}{a:List Nat}(h:k∉a):putD (lf a) (.int k) (.bl true)=lf (a++[k]):=by unfold putD;rw[Gb,decide_eq_false h,if_neg (by decide)];unfold lf;rw[map_append];rfl
theorem Hj {S:JP}{l:Nat}{a:List Nat}(h:S[l]?=some (.dict (lf a)))(k:Nat):Ol true (.int k) (.loc l) S=some (.bl (!decide (k∈a))):=by unfold Ol;rw[if_pos rfl];unfold Er;simp only[h,fy];unfold getD;rw[isSome_map,yP];rfl
structure Cl (G:List Row) (Ls:List Nat):Prop where
 nd:Ls.Nodup
 lt:∀ i∈Ls,i<G.length
 dn:∀ (p i c n y:Nat),Ls[p]?=some i->G[i]?=some (.ask c n y)->n∈Ls.take p/\y∈Ls.take p
theorem Cl.snoc {G:List Row}{d:List Nat}(h:Cl G d){j:Nat}(o:j<G.length)(g:j∉d)(k:∀ c n y,G[j]?=some (.ask c n y)->n∈d/\y∈d):Cl G (d++[j]):=by
 refine⟨nodup_append.mpr ⟨h.nd,by simp,λa l b m=>?_⟩,λi hi=>?_,λp i c n y e f=>?_⟩
 ·rw[mem_singleton.mp m];rintro rfl;exact g l
 ·rcases mem_append.mp hi with hi |hi
  ·exact h.lt i hi
  rw[mem_singleton.mp hi];exact o
 rcases lt_trichotomy p d.length with hl |hl |hl
 ·rw[getElem?_append_left hl] at e;rw[List.take_append_of_le_length (Nat.le_of_lt hl)];exact h.dn p i c n y e f
 ·subst hl;have:i=j:=by simpa using e.symm
  subst this;rw[List.take_append_of_le_length (le_refl _),List.take_length];exact k c n y f
 rw[getElem?_append_right (by omega)] at e;have:([j]:List Nat)[p-d.length]?=none:=by rw[List.getElem?_eq_none_iff];simp;omega
 rw[this] at e;cases e
section
variable {L:Nat}{o:List Nat}{G:List Row}
theorem CO (r:Row)(S:JP):dW [az r] S=JV (.tup (match r with | .leaf _=>[] | .ask _ n y=>[.int n,.int y])) S:=by
 have a:=ow r S;refine aB rfl ?_;unfold lK;cases r with
 |leaf d =>
  have b:Mz [] (.tup [])=some (.tup []):=b7 (by simp);simp[a,b]
 |ask c n y =>
  have:Mi (az (.ask c n y)) (some 1) none=some (.tup [.int n,.int y]):=rfl;simp[a,qt,this]
def zt (F:JO)(w:Nat)(N:Nat)(G:List Row)(o:List Nat)(g:Nat):Prop:=
 ∀ (j:Nat) (a:List Nat) (S:JP) (l:Nat),o.length+1<=w+J3.pl o G j->j<G.length->j∉a->S[g]?=some (.lst (G.map az))->S[l]?=some (.dict (lf a))->g≠l->Cl G a->a.length+N<=10000 ->
  ∃ X,F [.loc g,.int j,.loc l] S=JV .Kk (S.set l (.dict (lf (a++X++[j]))))/\Cl G (a++X++[j])/\(∀ x∈X,x<j)/\X.length+1<=N/\(a++X++[j]).map (J3.uT G)=po (J3.uT G j) (a.map (J3.uT G))
theorem pC {F:JO}{w N g:Nat}(m:zt F w N G o g)(j k:Nat)(a:List Nat)(S:JP)(l:Nat)(r:o.length+1<=w+J3.pl o G k)(h:k<G.length)(t:S[g]?=some (.lst (G.map az)))(d:S[l]?=some (.dict (lf a)))(y:g≠l)(f:Cl G a)(p:a.length+N<=10000) :
  ∃ X,cC F [some (.loc g),some (.int j),some (.loc l),some (.int k)] S=JV (.next [some (.loc g),some (.int j),some (.loc l),some (.int k)]) (S.set l (.dict (lf (a++X))))/\Cl G (a++X)/\(∀ x∈X,x<=k)/\k∈a++X/\X.length<=N/\(a++X).map (J3.uT G)=po (J3.uT G k) (a.map (J3.uT G)):=by
 have c:=Hj d k;by_cases b:k∈a
 ·rw[decide_eq_true b] at c
  have u:S.set l (.dict (lf (a++[])))=S:=by
   rw[append_nil];apply ext_getElem?;intro i;by_cases e:l=i
   ·subst e;rw[dE d,d]
   rw[bE e]
  refine⟨[],?_,by rw[append_nil];exact f,(λx hx=>by cases hx),by rw[append_nil];exact b,by simp,by rw[append_nil,eW (List.mem_map_of_mem b)]⟩;rw[u];unfold cC;simp[c]
 rw[decide_eq_false b] at c;obtain⟨X,q,n,v,nx,s⟩:=m k a S l r h b t d y f p;refine⟨X++[k],?_,by rw[← List.append_assoc];exact n,λx hx=>?_,by simp,by simpa using nx,by rw[← List.append_assoc];exact s⟩
 ·unfold cC;simp[c,q]
 rcases mem_append.mp hx with hx |hx
 ·exact Nat.le_of_lt (v x hx)
 rw[mem_singleton.mp hx];exact le_refl _
theorem vJ (w:Wf o G)(g:Nat):∀ fuel:Nat,zt (bC fuel) fuel (2 ^ fuel-1) G o g
 | 0,j,a,S,l,I,_,_,_,_,_,_,_=>absurd I (by have:=vh o G j;omega)
 |n+1,j,a,S,l,I,hj,hnm,hg,hl,Qa,hc,hN=>by
  have H:=vJ w g n;have p2 : 2 ^ (n+1)=2*2 ^ n:=by rw[pow_succ];omega
  have p1 : 1<=2 ^ n:=one_le_two_pow;have e:G[j]?=some G[j]:=List.getElem?_eq_getElem hj;have q:=w.row j _ e;have X:da (.loc g) S=some (G.map az):=by unfold da;simp only[hg]
  have t:qr (.loc g) (.int j) S=some (az G[j]):=by show ((da (.loc g) S).bind λN=>Mu N (j:Int))=_;rw[X,bind_some];exact bB (by rw[getElem?_map,e];rfl)
  have u:=CO G[j] S;have K:bA (.loc g)=true:=rfl;have V:∀ k:Nat,fy (.int k)=some (.inl (k:Int)):=λk=>rfl
  have finish:∀ (d:List Nat) (r:JP) (z:Option D),r=S.set l (.dict (lf d))->j∉d->d.length<=20000->xZ (ag 2) (ag 1) (aC (.bl true)) [some (.loc g),some (.int j),some (.loc l),z] r=JV (.next [some (.loc g),some (.int j),some (.loc l),z]) (S.set l (.dict (lf (d++[j])))):=by
   intro d r z M O s;have R:r[l]?=some (.dict (lf d)):=by rw[M];exact dE hl
   have P:(lf d).length<sizeLine:=by unfold lf;rw[length_map];exact Nat.lt_of_le_of_lt s (by decide)
   have:ve (.loc l) (.int j) (.bl true) [some (.loc g),some (.int j),some (.loc l),z] r=JV (.next [some (.loc g),some (.int j),some (.loc l),z]) (S.set l (.dict (lf (d++[j])))):=by unfold ve;simp only[R,V];rw[if_pos P,Ga O,M,List.set_set]
   simp[this]
  cases hr:G[j] with
  |leaf B =>
   rw[hr] at u t
   have fin:=finish a S none (by
    apply ext_getElem?;intro i;by_cases C:l=i
    ·subst C;rw[dE hl,hl]
    rw[bE C]) hnm (by omega)
   have f:J3.uT G j = .leaf B:=(Un.leaf (by rw[e,hr])).uT;have v:Tr.leaf B∉a.map (J3.uT G):=λh=>hnm (AS w hc.lt hj (by rw[f];exact h));refine⟨[],?_,?_,(λx hx=>by cases hx),by simp;omega,by rw[append_nil,f,eC v,map_append,map_cons,map_nil,f]⟩
   ·rw[append_nil];unfold bC a9;rw[if_pos (show ([.loc g,.int j,.loc l]:List D).length=3 from rfl)]
    have:eP (bC n) ([.loc g,.int j,.loc l].map some++replicate 1 none) S=JV (.next [some (.loc g),some (.int j),some (.loc l),none]) (S.set l (.dict (lf (a++[j])))):=by
     unfold eP;show aN _ _ [some (.loc g),some (.int j),some (.loc l),none] S=_;rw[E6];have:jv (bM (aR dW (af (AE (ag 0) (ag 1)) aA))) (aE 3) (cC (bC n)) [some (.loc g),some (.int j),some (.loc l),none] S=JV (.next [some (.loc g),some (.int j),some (.loc l),none]) S:=by simp[K,t,u,cg,h8]
     rw[this];exact fin
    rw[this];rfl
   rw[append_nil];exact hc.snoc hj hnm λc n y h=>by rw[e,hr] at h;cases h
  |ask c A m =>
   rw[hr] at u t q;obtain⟨_,b1,b2,b3,b4,_⟩:=q;have pj:J3.pl o G j=o.idxOf c:=by unfold J3.pl;rw[e,hr]
   obtain⟨b,Q,T,J,m1,n1,t1⟩:=pC H j A a S l (by omega) (by omega) hg hl Qa hc (by omega);have Y:(S.set l (.dict (lf (a++b))))[g]?=some (.lst (G.map az)):=by rw[bE (Ne.symm Qa)];exact hg
   have W:(S.set l (.dict (lf (a++b))))[l]?=some (.dict (lf (a++b))):=dE hl;obtain⟨p,F,U,E,m2,Z,t2⟩:=pC H j m (a++b) _ l (by omega) (by omega) Y W Qa T (by rw[List.length_append];omega);rw[List.set_set] at F
   have L:j∉a++b++p:=by
    intro hm;rcases mem_append.mp hm with hm |hm
    ·rcases mem_append.mp hm with hm |hm
     ·exact hnm hm
     have:=J j hm;omega
    have:=E j hm;omega
   have fin:=finish (a++b++p) _ (some (.int m)) rfl L (by rw[List.length_append,List.length_append];omega);have f:J3.uT G j = .node c (J3.uT G A) (J3.uT G m):=(Un.node (by rw[e,hr]) (w.uT (by omega)) (w.uT (by omega))).uT;have v:Tr.node c (J3.uT G A) (J3.uT G m)∉a.map (J3.uT G):=λh=>hnm (AS w hc.lt hj (by rw[f];exact h));refine⟨b++p,?_,?_,λx hx=>?_,by rw[List.length_append];omega,by rw[← List.append_assoc,map_append,t2,t1,f,eB v,map_cons,map_nil,f]⟩
   ·unfold bC a9;rw[if_pos (show ([.loc g,.int j,.loc l]:List D).length=3 from rfl)]
    have:eP (bC n) ([.loc g,.int j,.loc l].map some++replicate 1 none) S=JV (.next [some (.loc g),some (.int j),some (.loc l),some (.int m)]) (S.set l (.dict (lf (a++(b++p)++[j])))):=by
     unfold eP;show aN _ _ [some (.loc g),some (.int j),some (.loc l),none] S=_;rw[E6];have:jv (bM (aR dW (af (AE (ag 0) (ag 1)) aA))) (aE 3) (cC (bC n)) [some (.loc g),some (.int j),some (.loc l),none] S=JV (.next [some (.loc g),some (.int j),some (.loc l),some (.int m)]) (S.set l (.dict (lf (a++b++p)))):=by simp[K,t,u,cg,h8,Q,F]
     rw[this];simp only[cA];rw[← List.append_assoc a b p];exact fin
    rw[this];rfl
   ·rw[← List.append_assoc];refine U.snoc hj L λc' n y h=>?_;rw[e,hr] at h;cases h;exact⟨mem_append_left _ m1,m2⟩
   rcases mem_append.mp hx with hx |hx
   ·have:=J x hx;omega
   have:=E x hx;omega
end
def bh (p:Nat):List Nat->List (D×D)
 |[]=>[]
 |k::r=>(.int k,.int p)::bh (p+1) r
theorem BK:∀ (l:List Nat) (p:Nat),(bh p l).length=l.length
 |[],_=>rfl
 |k::r,p=>by rw[bh,length_cons,length_cons,BK r]
theorem BM (k:Nat):∀ (l:List Nat) (p:Nat),((bh p l).any λq=>fW q.1 (.int k))=decide (k∈l)
 |[],_=>by simp[bh]
 |a::l,p=>by
  rw[bh,any_cons,BM k l,jK];by_cases h:a=k
  ·simp[h]
  have:¬ k=a:=λe=>h e.symm;simp[h,this]
theorem BL (k:Nat):∀ (l:List Nat) (p:Nat),getD (bh p l) (.int k)=if k∈l then some (.int ((p+l.idxOf k:Nat):Int)) else none
 |[],_=>rfl
 |a::l,p=>by
  have c:=BL k l (p+1);unfold L2.getD at c ⊢;rw[bh,find?_cons];simp only[jK];by_cases h:a=k
  ·subst h;simp
  rw[decide_eq_false h];simp only;rw[c];have f:¬ k=a:=λe=>h e.symm;have d:(a==k)=false:=by simpa using h
  by_cases b:k∈l
  ·rw[if_pos b,if_pos (mem_cons_of_mem _ b),idxOf_cons,d];simp only[cond_false];congr 2;omega
  rw[if_neg b,if_neg (by rw[mem_cons];exact λq=>q.elim f b)]
theorem yM:∀ (l:List Nat) (p k:Nat),bh p (l++[k])=bh p l++[(.int k,.int ((p+l.length:Nat):Int))]
 |[],p,k=>rfl
 |a::l,p,k=>by
  rw[cons_append,bh,yM l (p+1) k,bh,cons_append,length_cons,show p+1+l.length=p+(l.length+1) by omega]
theorem F6 {k:Nat}{l:List Nat}(h:k∉l):putD (bh 0 l) (.int k) (.int l.length)=bh 0 (l++[k]):=by unfold putD;rw[BM,decide_eq_false h,if_neg (by decide),yM,zero_add]
def RY (a:List Nat):Row->Row
 | .leaf b => .leaf b
 | .ask c n y => .ask c (a.idxOf n) (a.idxOf y)
def FR (a:List Nat)(G:List Row):List Row:=a.map λk=>RY a ((G[k]?).getD (.leaf []))
def Wr (o:List Nat)(G:List Row):Prop:=∀ (i:Nat) (r:Row),G[i]?=some r->MP o G i r
section
variable {B:Nat->Option MO}{L:Nat}{o:List Nat}{G:List Row}
theorem qi {a:List Nat}(h:Cl G a){p k:Nat}(b:a[p]?=some k):∃ r,G[k]?=some r/\(FR a G)[p]?=some (RY a r):=by have c:=h.lt k (mem_of_getElem? b);refine⟨G[k],List.getElem?_eq_getElem c,?_⟩;unfold FR;rw[getElem?_map,b,map_some,List.getElem?_eq_getElem c];rfl
theorem fA {a:List Nat}{k:Nat}(h:k∈a):a[a.idxOf k]?=some k:=by have b:=idxOf_lt_length_iff.mpr h;rw[List.getElem?_eq_getElem b,getElem_idxOf b]
theorem E7 {a:List Nat}(h:Cl G a){k:Nat}(c:k∈a):J3.pl o (FR a G) (a.idxOf k)=J3.pl o G k:=by obtain⟨r,b,d⟩:=qi h (fA c);unfold J3.pl;rw[b,d];cases r<;>rfl
theorem xK {a:List Nat}{k p:Nat}(h:k∈a.take p):a.idxOf k<p:=by
 have c:(a.take p).idxOf k<(a.take p).length:=idxOf_lt_length_iff.mpr h;have b:(a.take p).length<=p:=List.length_take_le ..
 have e:a.idxOf k=(a.take p).idxOf k:=by
  conv=>lhs;rw[← take_append_drop p a]
  rw[idxOf_append,if_pos h]
 omega
theorem C0 {b:List Nat}(w:Wf o G)(h:Cl G b):Wr o (FR b G):=by
 intro p r a;have f:p<b.length:=by have:=(List.getElem?_eq_some_iff.mp a).1;simpa [FR] using this
 obtain⟨r0,i,t⟩:=qi h (List.getElem?_eq_getElem f);rw[t] at a;cases a;have q:=w.row _ _ i;cases r0 with
 |leaf v=>exact q
 |ask c n y =>
  obtain⟨u,z,x,s,m,k⟩:=q;obtain⟨d,g⟩:=h.dn p _ c n y (List.getElem?_eq_getElem f) i;have m1:=mem_of_mem_take d;have m2:=mem_of_mem_take g;refine⟨u,xK d,xK g,by rw[E7 h m1];exact s,by rw[E7 h m2];exact m,λe=>k ?_⟩;have j:=fA m1;have l:=fA m2;rw[e,l] at j;exact(Option.some.inj j).symm
theorem C4 {g:List Nat}(h:Cl G g){o:Th}{i:Nat}{ss:List Str}(e:Ev G o i ss):i∈g->Ev (FR g G) o (g.idxOf i) ss:=by
 induction e with
 | @leaf i ss d =>
  intro b;obtain⟨r,a,f⟩:=qi h (fA b);rw[d] at a;cases a;exact .leaf f
 | @no i c n y ss d j _ k =>
  intro b;obtain⟨r,a,f⟩:=qi h (fA b);rw[d] at a;cases a;obtain⟨l,m⟩:=h.dn _ _ c n y (fA b) d;exact .no f j (k (mem_of_mem_take l))
 | @yes i c n y ss d j _ k =>
  intro b;obtain⟨r,a,f⟩:=qi h (fA b);rw[d] at a;cases a;obtain⟨l,m⟩:=h.dn _ _ c n y (fA b) d;exact .yes f j (k (mem_of_mem_take m))
theorem Aj (w:Wf o G)(r:o.length<=8){S:JP}{g i:Nat}(b:S[g]?=some (.lst (G.map az)))(d:i<G.length):∃ X,ge [.loc g,.int i] S=JV (.lst ((X++[i]).map λ(k:Nat)=>D.int k)) (S++[.dict (lf (X++[i]))])/\Cl G (X++[i])/\X.length<=1022/\(X++[i]).map (J3.uT G)=po (J3.uT G i) []:=by
 have m:g<S.length:=(List.getElem?_eq_some_iff.mp b).1;have l:(S++[MO.dict (lf [])])[g]?=some (.lst (G.map az)):=by rw[getElem?_append_left m];exact b
 have j:(S++[MO.dict (lf [])])[S.length]?=some (.dict (lf [])):=by simp
 obtain⟨X,q,c,_,n,a⟩:=vJ w g 10 i [] (S++[.dict (lf [])]) S.length (by omega) d (by simp) l j (by omega) ⟨nodup_nil,(λi h=>by cases h),(λp i c n y h=>by simp at h)⟩ (by decide);rw[nil_append] at q c a;have es:(S++[MO.dict (lf [])]).set S.length (.dict (lf (X++[i])))=S++[.dict (lf (X++[i]))]:=by simp
 rw[es] at q;have n:X.length<=1022:=by have:X.length+1<=1023:=n;omega
 have q:bC 10 [.loc g,.int i,.loc S.length] (S++[.dict []])=JV .Kk (S++[.dict (lf (X++[i]))]):=q;have e:(lf (X++[i])).length<=sizeLine:=by unfold lf;rw[length_map,List.length_append];exact Nat.le_trans (show X.length+1<=2000 by omega) (by decide)
 have f:h_ (.loc S.length) (S++[.dict (lf (X++[i]))])=some (.lst ((X++[i]).map λ(k:Nat)=>D.int k)):=by unfold h_;simp only[List.getElem?_concat_length];rw[if_pos e];unfold lf;rw[map_map];rfl
 refine⟨X,aB rfl ?_,c,n,a⟩;unfold jm;simp[q,f,-map_append]
theorem Dc {S:JP}{l:Nat}{a:List Nat}(o:S[l]?=some (.dict (bh 0 a)))(r:Row)(j:∀ c n y,r = .ask c n y->n∈a/\y∈a):f_ [az r,.loc l] S=JV (az (RY a r)) S:=by
 have b:=ow r S;refine aB rfl ?_;unfold jl;cases r with
 |leaf p=>simp[b,RY]
 |ask c n y =>
  obtain⟨f,e⟩:=j c n y rfl;have h:Ks (az (.ask c n y)) (.int 0) S=some (.int c):=OC _ _ S;have i:Ks (az (.ask c n y)) (.int 1) S=some (.int n):=Qb _ _ _ S;have m:Ks (az (.ask c n y)) (.int 2) S=some (.int y):=at2 _ _ _ _ S;have gt:∀ k,k∈a->Ks (.loc l) (.int (k:Nat)) S=some (.int (a.idxOf k:Nat)):=λk d=>by have:=BL k a 0;rw[if_pos d,zero_add] at this;unfold Ks;rw[if_pos (show bA (.loc l)=true from rfl)];unfold zb;simp only[o,fy];exact this
  have g:Mz [.int c,.int (a.idxOf n:Nat),.int (a.idxOf y:Nat)] (.tup [.int c,.int (a.idxOf n:Nat),.int (a.idxOf y:Nat)])=some (az (RY a (.ask c n y))):=b7 (by simp);simp[b,h,i,m,gt n f,gt y e,g];rfl
theorem fold_eq {S:JP}{C:List (Row×Nat)}(h:SR B S L o G C)(w:Wf o G)(R:o.length<=8){i:Nat}(M:i<G.length):∃ f l,b9 [.loc L,.int i] S=JV (.tup ((FR (f++[i]) G).map az)) l/\Cl G (f++[i])/\f.length<=1022/\(f++[i]).map (J3.uT G)=po (J3.uT G i) []/\∃ x y,l=S++[x,y]:=by
 obtain⟨X,q,c,Q,px⟩:=Aj w R h.RV M;generalize r:X++[i]=f at *
 have lLs:f.length<=1023:=by rw[← r,List.length_append];simp;omega
 generalize I:S++[MO.dict (lf f)]=S1 at *
 have m:SR (λi=>S1[i]?) S1 L o G C:=by
  have Lc:L+3<S.length:=(List.getElem?_eq_some_iff.mp h.O5).1;refine⟨?_,?_,?_,?_,λ_ _=>rfl⟩<;>rw[← I,getElem?_append_left (by omega)]
  ·exact h.obj
  ·exact h.RV
  ·exact h.num
  exact h.O5
 have F:L+3<S1.length:=(List.getElem?_eq_some_iff.mp m.O5).1;have V:∀ k:Nat,fy (.int k)=some (.inl (k:Int)):=λk=>rfl
 obtain⟨ρ',l,U,H⟩:=cU (u:=ld 2 (bo (aE 4) (bo (aE 5) g0))) (body:=de)
  (λp g l=>p<=f.length/\l=S1++[.dict (bh 0 (f.take p))]/\∃ a b,g=[some (.loc L),some (.int i),some (.lst (f.map λ(k:Nat)=>D.int k)),some (.loc S1.length),a,b])
  (cV 0 (f.map λ(k:Nat)=>D.int k)) 0 [some (.loc L),some (.int i),some (.lst (f.map λ(k:Nat)=>D.int k)),some (.loc S1.length),none,none] (S1++[.dict []]) ⟨by omega,rfl,none,none,rfl⟩ (by
   rintro p dd g l v ⟨KG,rfl,a,b,rfl⟩;rw[fJ] at v;obtain⟨x,E,rfl⟩:=map_eq_some_iff.mp v;rw[getElem?_map] at E;obtain⟨k,j,rfl⟩:=map_eq_some_iff.mp E;have O:p<f.length:=(List.getElem?_eq_some_iff.mp j).1;simp only[zero_add] at *
   have t:k∉f.take p:=by
    intro hm;have h1:=xK hm;have h2:f.idxOf k=p:=by have:=(List.getElem?_eq_some_iff.mp j).2;rw[← this];exact c.nd.idxOf_getElem p O
    omega
   have lt:(f.take p).length=p:=by rw[length_take];omega
   have tk:f.take (p+1)=f.take p++[k]:=by rw[List.take_succ,j];rfl
   have N:(bh 0 (f.take p)).length<sizeLine:=by rw[BK,lt];exact lt_of_lt_of_le (show p<2000 by omega) (by decide)
   have hg:(S1++[MO.dict (bh 0 (f.take p))])[S1.length]?=some (.dict (bh 0 (f.take p))):=by simp
   have J:=F6 t;rw[lt] at J;have ep:∀ g,ve (.loc S1.length) (.int k) (.int p) g (S1++[.dict (bh 0 (f.take p))])=JV (.next g) (S1++[.dict (bh 0 (f.take (p+1)))]):=λg=>by unfold ve;simp only[hg,V];rw[if_pos N,J,tk];simp
   refine⟨[some (.loc L),some (.int i),some (.lst (f.map λ(k:Nat)=>D.int k)),some (.loc S1.length),some (.int p),some (.int k)],rfl,[some (.loc L),some (.int i),some (.lst (f.map λ(k:Nat)=>D.int k)),some (.loc S1.length),some (.int p),some (.int k)],S1++[.dict (bh 0 (f.take (p+1)))],?_,by omega,rfl,some (.int p),some (.int k),rfl⟩;unfold de
   simp[ep])
 simp only[zero_add,bS,length_map,List.take_length] at H;obtain⟨_,rfl,a,b,rfl⟩:=H
 have z:SR (λi=>(S1++[MO.dict (bh 0 f)])[i]?) (S1++[.dict (bh 0 f)]) L o G C:=by
  refine⟨?_,?_,?_,?_,λ_ _=>rfl⟩<;>rw[getElem?_append_left (by omega)]
  ·exact m.obj
  ·exact m.RV
  ·exact m.num
  exact m.O5
 have s:(S1++[MO.dict (bh 0 f)])[S1.length]?=some (.dict (bh 0 f)):=by simp
 have A:=fK (u:=aE 0) (fe:=cm) (λg => ∃ y,g=[y,some (.loc S1.length),some (.loc L)]) (λd=>match d with | .int k=>az (RY f ((G[k.toNat]?).getD (.leaf []))) |_ => .Kk) (S1++[.dict (bh 0 f)]) (f.map λ(k:Nat)=>D.int k)
  (b8 1 [3,0] [some (.loc L),some (.int i),some (.lst (f.map λ(k:Nat)=>D.int k)),some (.loc S1.length),a,b]) ⟨none,rfl⟩ (by
   rintro d hd g ⟨y,rfl⟩;obtain⟨k,j,rfl⟩:=mem_map.mp hd;refine⟨_,rfl,⟨_,rfl⟩,?_⟩;have Xh:=c.lt k j;have e:G[k]?=some G[k]:=List.getElem?_eq_getElem Xh;have W:=z.row e;have Y:=Dc s G[k] λc' n y Z=>by obtain⟨K,T⟩:=c.dn _ k c' n y (fA j) (by rw[e,Z]);exact⟨mem_of_mem_take K,mem_of_mem_take T⟩
   have eR:(G[(k:Int).toNat]?).getD (.leaf [])=G[k]:=by rw[Int.toNat_natCast,e];rfl
   show cm [some (.int k),some (.loc S1.length),some (.loc L)] (S1++[.dict (bh 0 f)])=JV (az (RY f ((G[(k:Int).toNat]?).getD (.leaf [])))) (S1++[.dict (bh 0 f)]);rw[eR];unfold cm
   simp[z.OD,W,Y])
 have em:(f.map λ(k:Nat)=>D.int k).map (λd=>match d with | .int k=>az (RY f ((G[k.toNat]?).getD (.leaf []))) |_ => .Kk)=(FR f G).map az:=by unfold FR;rw[map_map,map_map];refine map_congr_left λk _=>?_;simp
 rw[em] at A;refine⟨X,S1++[.dict (bh 0 f)],?_,by rw[r];exact c,Q,by rw[r];exact px,.dict (lf f),.dict (bh 0 f),by rw[← I];simp⟩;rw[r];refine aB rfl ?_;have P:t6 [.lst (f.map λ(k:Nat)=>D.int k)]=some (cV 0 (f.map λ(k:Nat)=>D.int k)):=rfl;unfold ie;simp[h.OD,q,P,U,cg,A,ft,-map_map]
end
theorem lm (S r:JP)(fs:List (Str×D))(f:Str)(v:D)(ρ:JQ)(h:fs.length<1000):lp "Rows" f (.loc S.length) v ρ (S++MO.ins "Rows" fs::r)=JV (.next ρ) (S++MO.ins "Rows" (j9 f v fs)::r):=by
 have e:(S++MO.ins "Rows" fs::r)[S.length]?=some (.ins "Rows" fs):=by simp
 unfold lp;simp only[e];rw[if_pos ⟨trivial,h⟩];simp
theorem rn1:¬ ("order":Str)="gathered":=by decide
theorem rn2:¬ ("order":Str)="numbers":=by decide
theorem rn3:¬ ("gathered":Str)="numbers":=by decide
theorem rn4:¬ ("order":Str)="choices":=by decide
theorem rn5:¬ ("gathered":Str)="choices":=by decide
theorem rn6:¬ ("numbers":Str)="choices":=by decide
theorem u_ (S:JP)(o:List Nat):br [.loc S.length,oD o] (S++[.ins "Rows" []])=JV .Kk (S++[RO o S.length,.lst [],.JT [],.JT []]):=by
 have c:=λa=>lm S [] [] "order" (oD o) a (by decide);have b:=λa=>lm S [.lst []] [("order",oD o)] "gathered" (.loc (S.length+1)) a (by simp);have d:=λa=>lm S [.lst [],.JT []] [("order",oD o),("gathered",.loc (S.length+1))] "numbers" (.loc (S.length+2)) a (by simp);have e:=λa=>lm S [.lst [],.JT [],.JT []] [("order",oD o),("gathered",.loc (S.length+1)),("numbers",.loc (S.length+2))] "choices" (.loc (S.length+3)) a (by simp);simp only[j9,rn1,rn2,rn3,rn4,rn5,rn6,if_false] at c b d e;unfold br a9;rw[if_pos (show ([.loc S.length,oD o]:List D).length=2 from rfl)];have:e_ ([.loc S.length,oD o].map some++replicate 0 none) (S++[.ins "Rows" []])=JV (.next [some (.loc S.length),some (oD o)]) (S++[RO o S.length,.lst [],.JT [],.JT []]):=by unfold e_;simp[c,b,d,e]
 rw[this];rfl
def iF (m:Nat)(ts:List Int):Prop:=ts.length=m/\∀ x∈ts,x=0∨x=1
def tv (ts:List Int):Th:=λc=>decide (ts.getD c 0=1)
abbrev La (ts:List Int):D:=.tup (ts.map .int)
theorem yq {m:Nat}{ts:List Int}(h:iF m ts){c:Nat}(b:c<m)(S:JP):Ks (La ts) (.int c) S=some (.int (if tv ts c=true then 1 else 0)):=by
 have a:c<ts.length:=by rw[h.1];exact b
 have e:ts[c]?=some ts[c]:=List.getElem?_eq_getElem a;unfold Ks;rw[if_neg (by simp[bA])];show Mu (ts.map D.int) (c:Int)=_;rw[bB (v:=.int ts[c]) (by rw[getElem?_map,e];rfl)];have d:tv ts c=decide (ts[c]=1):=by unfold tv;rw[List.getD,e];rfl
 rw[d];rcases h.2 ts[c] (getElem_mem a) with q |q<;>simp[q]
theorem tM {e:Th}{ss d:List Str}(h:Kv e (az (.leaf ss)) d):d=ss:=by
 generalize c:az (.leaf ss)=D0 at h;cases h with
 |leaf =>
  simp only[az,D.tup.injEq,List.cons.injEq,and_true,true_and] at c;exact((List.map_inj_right (λa b h=>by cases h;rfl)).mp c).symm
 |no=>simp[az] at c
 |yes=>simp[az] at c
theorem KQ.total {m k:Nat}{d:D}(h:KQ m k d)(e:Th):∃ ss,Kv e d ss:=by
 induction h with
 |leaf _ _ _=>exact⟨_,.leaf⟩
 | @ask k c x y _ _ _ f g =>
  obtain⟨a,i⟩:=f;obtain⟨b,j⟩:=g;cases ht:e c with
  |false=>exact⟨a,.no ht i⟩
  |true=>exact⟨b,.yes ht j⟩
section
variable {m:Nat}{ts:List Int}
theorem jw (l:iF m ts)(S:JP){k:Nat}{d:D}(h:KQ m k d):∀ {ss:List Str}{fuel:Nat},Kv (tv ts) d ss->k<fuel->ej fuel [d,La ts] S=JV (.tup (ss.map .str)) S:=by
 induction h with
 | @leaf k i _ _ _ =>
  intro ss fuel a q;rw[tM a];obtain⟨fuel,rfl⟩:∃ f,fuel=f+1:=⟨fuel-1,by omega⟩;have n:Ks (az (.leaf i)) (.int 0) S=some (.str "names"):=OC _ _ S;have s:Ks (az (.leaf i)) (.int 1) S=some (.tup (i.map .str)):=Qb _ _ _ S;have b:=eqs "names" "names";rw[decide_eq_true rfl] at b;refine aB rfl ?_;unfold kM;simp[n,s,b]
 | @ask k c x y o _ _ j p =>
  intro ss fuel a q;obtain⟨fuel,rfl⟩:∃ f,fuel=f+1:=⟨fuel-1,by omega⟩;have b:=eqs "ask" "names";rw[decide_eq_false zn] at b;have e:=yq l o S;refine aB rfl ?_;unfold kM;cases a with
  |no g a =>
   rw[g] at e;have r:=j (fuel:=fuel) a (by omega);simp[OC,Qb,at2,b,e,r]
  |yes g a =>
   rw[g] at e;have r:=p (fuel:=fuel) a (by omega);simp[OC,Qb,Yy,b,e,r]
variable {o:List Nat}{R:List Row}
theorem fB (S:JP){i:Nat}{r:Row}(h:R[i]?=some r):Ks (.tup (R.map az)) (.int i) S=some (az r):=by unfold Ks;rw[if_neg (by simp[bA])];exact bB (by rw[getElem?_map,h];rfl)
theorem As (S:JP){r:Row}(h:R[R.length-1]?=some r):Ks (.tup (R.map az)) (.int (-1)) S=some (az r):=by
 have a:R.length-1<R.length:=(List.getElem?_eq_some_iff.mp h).1;unfold Ks;rw[if_neg (by simp[bA])];show Mu (R.map az) (-1)=_;have e:QN (R.map az).length (-1)=some (R.length-1):=by unfold QN;rw[length_map,if_neg (by decide),if_pos (by omega)];congr 1;omega
 unfold Mu;rw[e,bind_some,getElem?_map,h];rfl
end
theorem iz {α c:Type}[DecidableEq α][DecidableEq c](f : α->c)(x : α):∀ (l:List α),(∀ a∈l,f a=f x->a=x)->(l.map f).idxOf (f x)=l.idxOf x
 |[],_=>rfl
 |a::l,h=>by
  have k:=iz f x l λb d=>h b (mem_cons_of_mem _ d);rw[map_cons,idxOf_cons,idxOf_cons,k];by_cases e:a=x
  ·subst e;simp
  have g:¬ f a=f x:=λq=>e (h a (mem_cons_self ..) q);have j:(a==x)=false:=by simpa using e
  have i:(f a==f x)=false:=by simpa using g
  rw[j,i]
theorem yg {o:List Nat}{G:List Row}(w:Wf o G){d:List Nat}(c:Cl G d):FR d G=enc (d.map (J3.uT G)):=by
 unfold FR enc;rw[map_map];refine map_congr_left λk i=>?_;have j:=c.lt k i;have e:G[k]?=some G[k]:=List.getElem?_eq_getElem j;have q:=w.row k _ e;simp only[Function.comp,e,getD_some];cases hr:G[k] with
 |leaf h =>
  have f:J3.uT G k = .leaf h:=(Un.leaf (by rw[e,hr])).uT;rw[f];rfl
 |ask a n y =>
  rw[hr] at q;obtain⟨_,l,m,_⟩:=q;have f:J3.uT G k = .node a (J3.uT G n) (J3.uT G y):=(Un.node (by rw[e,hr]) (w.uT (by omega)) (w.uT (by omega))).uT;rw[f];show Row.ask a (d.idxOf n) (d.idxOf y)=Row.ask a ((d.map (J3.uT G)).idxOf (J3.uT G n)) ((d.map (J3.uT G)).idxOf (J3.uT G y));rw[iz (J3.uT G) n d λb g=>wU w (c.lt b g) (by omega),iz (J3.uT G) y d λb g=>wU w (c.lt b g) (by omega)]
def AJ:Tr->Prop
 | .leaf a=>(∀ x∈a,di x=true)/\QF a=true
 | .node _ n y=>AJ n/\AJ y
theorem Un.ord {o:List Nat}{G:List Row}(w:Wf o G){i:Nat}{t:Tr}(h:Un G i t):Ord o t/\AJ t:=by
 induction h with
 |leaf h=>exact⟨trivial,w.row _ _ h⟩
 | @node i c n y s t h d a b f =>
  obtain⟨l,p,m,k,j,g⟩:=w.row _ _ h;refine⟨⟨l,b.1,f.1,by rw[← d.pl];exact k,by rw[← a.pl];exact j,λe=>g ?_⟩,b.2,f.2⟩;subst e;exact Un.inj w.nd d a
theorem rK {o:List Nat}(nd:o.Nodup)(A:o.length<=8){m:Nat}(G:∀ c,c<m->c∈o){k:Nat}(N:k<=12){d:D}(hd:KQ m k d)(S:JP) :
  ∃ t w,gh [d,oD o] S=JV (.tup ((enc (po t [])).map az)) w/\Ord o t/\AJ t/\Wr o (enc (po t []))/\(∀ a,Ev (enc (po t [])) a ((enc (po t [])).length-1) (K0 t a))/\(∀ a ss,Kv a d ss->K0 t a=ss)/\(po t []).length<=1023/\w.take S.length=S:=by
 have C:=u_ S o
 have z:SR (λi=>(S++[RO o S.length,.lst [],.JT [],.JT []])[i]?) (S++[RO o S.length,.lst [],.JT [],.JT []]) S.length o [] []:=by
  refine⟨by simp,?_,?_,?_,λ_ _=>rfl⟩
  ·rw[getElem?_append_right (by omega)];simp
  ·rw[getElem?_append_right (by omega)];simp;rfl
  rw[getElem?_append_right (by omega)];simp;rfl
 have pre:∀ i,i<S.length->(S++[RO o S.length,.lst [],.JT [],.JT []])[i]?=S[i]?:=λi f=>getElem?_append_left f;generalize (S++[RO o S.length,.lst [],.JT [],.JT []])=S0 at *
 have I:Wf o ([]:List Row):=⟨nodup_nil,λi r h=>by simp at h⟩;have K : 2 ^ (k+1)<=2 ^ 13:=Nat.pow_le_pow_right (by decide) (by omega);have O : 2 ^ 13=8192:=rfl;obtain⟨j,E,T,r,H,g,b,_,l,_,_,u⟩:=DW nd A G hd 15 (by omega) z I (λp B=>by cases B) (by simp;omega) (by simp;omega);rw[nil_append] at g b l u;obtain⟨X,Q,s,c,R,x,x2,v,rfl⟩:=fold_eq g b A l
 have fr:(j++[x2,v]).take S.length=S:=by
  have P:S.length+3<j.length:=(List.getElem?_eq_some_iff.mp g.O5).1;apply ext_getElem?;intro i;rw[getElem?_take];split
  ·rename_i f;rw[getElem?_append_left (by omega),g.fr i (.inl f),pre i f]
  rw[List.getElem?_eq_none (by omega)]
 have n:=z.has "fold_from" (by decide);have un:=b.uT l;have y:FR (X++[r]) E=enc (po (J3.uT E r) []):=by rw[yg b c,x]
 have q:=C0 b c;rw[y] at s q;refine⟨J3.uT E r,j++[x2,v],aB rfl ?_,(un.ord b).1,(un.ord b).2,q,λa=>?_,λa ss J=>?_,?_,fr⟩
 ·have M:ju "Rows" br (af (ag 1) aA) [some d,some (oD o),none] S=JV (.loc S.length) S0:=by
   unfold ju;simp only[Gq,HC,cA];have:ag 1 [some d,some (oD o),none] S=JV (oD o) S:=rfl;rw[this];simp only[cA];rw[C];rfl
  unfold vW;simp[M,n,H,s,-map_map]
 ·have e:=C4 c (un.ev a) (by simp);have L:r∉X:=by have:=(nodup_append.mp c.nd).2.2;intro n;exact this r n r (by simp) rfl
  have F:(X++[r]).idxOf r=(FR (X++[r]) E).length-1:=by rw[idxOf_append,if_neg L];simp[FR]
  rw[F,y] at e;exact e
 ·exact Ev.det (un.ev a) (u a ss J)
 rw[← x,length_map,List.length_append];simp;omega
inductive Sub:Tr->Tr->Prop
 |refl (t:Tr):Sub t t
 |no {s:Tr}{c:Nat}{n y:Tr}:Sub s n->Sub s (.node c n y)
 |yes {s:Tr}{c:Nat}{n y:Tr}:Sub s y->Sub s (.node c n y)
def QH (a:List Tr):Prop:=∀ c n y,Tr.node c n y∈a->n∈a/\y∈a
theorem QH.sub {a:List Tr}(h:QH a){s t:Tr}(q:Sub s t):t∈a->s∈a:=by
 induction q with
 |refl=>exact id
 |no _ b=>exact λm=>b (h _ _ _ m).1
 |yes _ b=>exact λm=>b (h _ _ _ m).2
theorem xo:∀ (t:Tr) (a:List Tr),∃ X,po t a=a++X
 | .leaf b,a=>by
  by_cases h:Tr.leaf b∈a
  ·exact⟨[],by rw[eW h,append_nil]⟩
  exact⟨[.leaf b],eC h⟩
 | .node c n y,a=>by
  by_cases h:Tr.node c n y∈a
  ·exact⟨[],by rw[eW h,append_nil]⟩
  obtain⟨X,d⟩:=xo n a;obtain⟨Y,e⟩:=xo y (po n a);exact⟨X++Y++[.node c n y],by rw[eB h,e,d];simp⟩
theorem tx (t:Tr)(a:List Tr):t∈po t a:=by
 by_cases h:t∈a
 ·rw[eW h];exact h
 cases t with
 |leaf b=>rw[eC h];simp
 |node c n y=>rw[eB h];simp
theorem G6 {t s:Tr}{a:List Tr}(h:s∈a):s∈po t a:=by obtain⟨X,e⟩:=xo t a;rw[e];exact mem_append_left _ h
theorem iq:∀ (t:Tr) (a:List Tr) (s:Tr),s∈po t a->s∈a∨Sub s t
 | .leaf d,a,s,h=>by
  by_cases b:Tr.leaf d∈a
  ·rw[eW b] at h;exact .inl h
  rw[eC b] at h;rcases mem_append.mp h with h |h
  ·exact .inl h
  rw[mem_singleton.mp h];exact .inr (.refl _)
 | .node c n y,a,s,h=>by
  by_cases b:Tr.node c n y∈a
  ·rw[eW b] at h;exact .inl h
  rw[eB b] at h;rcases mem_append.mp h with h |h
  ·rcases iq y _ s h with h |h
   ·rcases iq n _ s h with h |h
    ·exact .inl h
    exact .inr (.no h)
   exact .inr (.yes h)
  rw[mem_singleton.mp h];exact .inr (.refl _)
theorem fH:∀ (t:Tr) {a:List Tr},QH a->QH (po t a)
 | .leaf i,a,h=>by
  by_cases b:Tr.leaf i∈a
  ·rw[eW b];exact h
  rw[eC b];intro c n y q;rcases mem_append.mp q with q |q
  ·exact⟨mem_append_left _ (h c n y q).1,mem_append_left _ (h c n y q).2⟩
  cases mem_singleton.mp q
 | .node c n y,a,h=>by
  by_cases b:Tr.node c n y∈a
  ·rw[eW b];exact h
  rw[eB b];have f:=fH y (fH n h);intro e g d q;rcases mem_append.mp q with q |q
  ·exact⟨mem_append_left _ (f e g d q).1,mem_append_left _ (f e g d q).2⟩
  cases mem_singleton.mp q;exact⟨mem_append_left _ (G6 (tx n a)),mem_append_left _ (tx y _)⟩
theorem uR {s t:Tr}(h:Sub s t):OE s<=OE t:=by
 induction h with
 |refl=>exact le_refl _
 |no _ a=>simp only[OE];omega
 |yes _ a=>simp only[OE];omega
theorem ji:∀ (t:Tr) {d:List Tr},d.Nodup->(po t d).Nodup
 | .leaf i,d,h=>by
  by_cases e:Tr.leaf i∈d
  ·rw[eW e];exact h
  rw[eC e];refine nodup_append.mpr ⟨h,by simp,λa f b g=>?_⟩;rw[mem_singleton.mp g];rintro rfl;exact e f
 | .node c n y,d,h=>by
  by_cases e:Tr.node c n y∈d
  ·rw[eW e];exact h
  rw[eB e];refine nodup_append.mpr ⟨ji y (ji n h),by simp,λa f b g=>?_⟩;rw[mem_singleton.mp g];rintro rfl;rcases iq y _ _ f with q |q
  ·rcases iq n _ _ q with q |q
   ·exact e q
   have:=uR q;simp only[OE] at this;omega
  have:=uR q;simp only[OE] at this;omega
theorem uf:QH []:=λc n y h=>by cases h
theorem jM:∀ (t:Tr) {d:List Tr},QH d->po t d=d++(po t []).filter λs=>decide (s∉d)
 | .leaf g,d,h=>by
  have i:po (.leaf g) []=[.leaf g]:=eC (by simp);rw[i];by_cases e:Tr.leaf g∈d
  ·rw[eW e];simp[e]
  rw[eC e];simp[e]
 | .node c n y,d,h=>by
  have i:po (.node c n y) []=po y (po n [])++[.node c n y]:=eB (by simp);by_cases e:Tr.node c n y∈d
  ·rw[eW e]
   have:(po (.node c n y) []).filter (λs=>decide (s∉d))=[]:=by
    rw[List.filter_eq_nil_iff];intro s f;rcases iq _ _ _ f with q |q
    ·cases q
    simp[h.sub q e]
   rw[this,append_nil]
  rw[eB e,i,jM y (fH n h),jM y (fH n uf),jM n h,List.filter_append,List.filter_append,List.filter_filter];have j:([Tr.node c n y].filter λs=>decide (s∉d))=[.node c n y]:=by simp[e]
  rw[j,List.append_assoc,List.append_assoc,List.append_assoc];congr 2;congr 1;apply List.filter_congr;intro s _;rw[Bool.eq_iff_iff];simp only[decide_eq_true_eq,and_eq_true,mem_append,mem_filter];constructor
  ·intro q;refine⟨λa=>q (.inl a),λa=>?_⟩;by_cases f:s∈d
   ·exact q (.inl f)
   exact q (.inr ⟨a,f⟩)
  rintro⟨a,b⟩ (q |⟨q,_⟩)
  ·exact a q
  exact b q
theorem D8 {α:Type}[DecidableEq α]:∀ (l:List α),l.Nodup->l.map (λx=>l.idxOf x)=List.range l.length:=by
 intro l nd;apply ext_getElem?;intro i;by_cases a:i<l.length
 ·rw[getElem?_map,List.getElem?_eq_getElem a,map_some,nd.idxOf_getElem i a,List.getElem?_range a]
 rw[List.getElem?_eq_none (by simpa using a),List.getElem?_eq_none (by simpa using a)]
theorem CF {u:D->JQ->Option JQ}{fe:JJ D}{d1 d2 v1 v2:D}{ρ0 ρ1 ρ2:JQ}{S:JP}(a:u d1 ρ0=some ρ1)(b:fe ρ1 S=JV v1 S)(c:u d2 ρ1=some ρ2)(d:fe ρ2 S=JV v2 S):bT u dS fe [d1,d2] ρ0 S=some ([v1,v2],S):=by have t:Qm (JV true S)=some (true,S):=rfl;have k:∀ v:D,Qm (JV v S)=some (v,S):=λ_=>rfl;simp[bT,a,b,c,d,t,k]
abbrev MG (i j:Nat):D:=.tup [.int i,.int j]
theorem tD (i j:Nat):gp (MG i j)=some (.tuple [.int i,.int j]):=by simp[MG,gp,toPy,b6,keyOk]
theorem om (i j a b:Nat):dY (MG i j) (MG a b)=decide ((i,j)=(a,b)):=by unfold dY;rw[tD,tD,Bool.eq_iff_iff];simp[PyData.eqv,PyData.eqvAll];omega
abbrev PM:=List ((Nat×Nat)×Nat)
def PX (M:PM):List (D×D):=M.map λp=>(MG p.1.1 p.1.2,.int p.2)
def qp (M:PM)(r:Nat×Nat)(v:Nat):PM:=if (M.any λp=>decide (p.1=r))=true then M.map (λp=>if p.1=r then (p.1,v) else p) else M++[(r,v)]
theorem F8 (M:PM)(r:Nat×Nat)(v:Nat):putN (PX M) (MG r.1 r.2) (.int v)=PX (qp M r v):=by
 have a:((PX M).any λp=>dY p.1 (MG r.1 r.2))=M.any λp=>decide (p.1=r):=by unfold PX;rw[any_map];congr 1;funext p;simp only[Function.comp,om]
 unfold putN qp;rw[a];split
 ·unfold PX;rw[map_map,map_map];refine map_congr_left λp b=>?_;simp only[Function.comp,om,decide_eq_true_eq];split<;>rfl
 unfold PX;rw[map_append];rfl
theorem F9 (M:PM)(r:Nat×Nat):j0 (PX M) (MG r.1 r.2)=(M.find? λp=>decide (p.1=r)).map λp => .int p.2:=by
 unfold j0 PX
 induction M with
 |nil=>rfl
 |cons p C a =>
  rw[map_cons,find?_cons,find?_cons];simp only[om];cases hd:decide (p.1=r) with
  |true=>rfl
  |false=>exact a
theorem Br {M:PM}{P:Nat×Nat->Nat->Prop}(h:∀ p∈M,P p.1 p.2){r:Nat×Nat}{v:Nat}(a:P r v):∀ p∈qp M r v,P p.1 p.2:=by
 intro p hp;unfold qp at hp;split at hp
 ·obtain⟨q,b,rfl⟩:=mem_map.mp hp;split
  ·rename_i e;rw[e];exact a
  exact h q b
 rcases mem_append.mp hp with hp |hp
 ·exact h p hp
 rw[mem_singleton.mp hp];exact a
theorem Bq (M:PM)(r:Nat×Nat)(v:Nat):(qp M r v).length<=M.length+1:=by
 unfold qp;split
 ·rw[length_map];omega
 rw[List.length_append];simp
theorem og {o:List Nat}{R:List Row}(w:Wr o R){i c:Nat}(g:i<R.length)(b:Bool)(s:c∈o)(f:o.idxOf c<=J3.pl o R i):sd R i c b<R.length/\o.idxOf c<J3.pl o R (sd R i c b)/\∀ d ss,d c=b->Ev R d i ss->Ev R d (sd R i c b) ss:=by
 have e:R[i]?=some R[i]:=List.getElem?_eq_getElem g;have m:o.idxOf c<o.length:=idxOf_lt_length_iff.mpr s;have q:=w i _ e;unfold sd;rw[e];cases hr:R[i] with
 |leaf ss =>
  refine⟨g,?_,λ_ _ _ k=>k⟩;unfold J3.pl;rw[e,hr];exact m
 |ask x n y =>
  rw[hr] at q e;obtain⟨r,A,B,v,u,_⟩:=q;by_cases l:x=c
  ·subst l;simp only[if_true];cases b with
   |false =>
    refine⟨by simp;omega,by simpa using v,λd ss j k=>?_⟩;cases k with
    |leaf a=>rw[e] at a;cases a
    |no a _ k=>rw[e] at a;cases a;exact k
    |yes a t k=>rw[e] at a;cases a;cases j.symm.trans t
   |true =>
    refine⟨by simp;omega,by simpa using u,λd ss j k=>?_⟩;cases k with
    |leaf a=>rw[e] at a;cases a
    |no a t k=>rw[e] at a;cases a;cases j.symm.trans t
    |yes a _ k=>rw[e] at a;cases a;exact k
  simp only[if_neg l];refine⟨g,?_,λ_ _ _ k=>k⟩;unfold J3.pl at f ⊢;rw[e] at f ⊢;simp only at f ⊢;rcases Nat.lt_or_eq_of_le f with h |h
  ·exact h
  exfalso;apply l;have z:=getElem_idxOf (idxOf_lt_length_iff.mpr r);have p:=getElem_idxOf m;rw[← z,← p];congr 1;exact h.symm
theorem uW {R:List Row}{i:Nat}(l:i<R.length)(c:Nat)(b:Bool)(S:JP):io [.tup (R.map az),.int i,.int c,.int (if b=true then 1 else 0)] S=JV (.int (sd R i c b:Nat)) S:=by
 have e:R[i]?=some R[i]:=List.getElem?_eq_getElem l;have a:=fB S e;unfold sd;rw[e];refine aB rfl ?_;have h:bA (.tup (R.map az))=false:=rfl;have a:QO (.tup (R.map az)) (.int i)=some (az R[i]):=by unfold Ks at a;rw[h] at a;simpa using a
 generalize (D.tup (R.map az))=rr at *
 unfold mJ;cases hr:R[i] with
 |leaf k =>
  rw[hr] at a;have f:Ks (az (.leaf k)) (.int 0) S=some (.str "names"):=OC _ _ S;simp[a,f,eq_str_int,h]
 |ask d n y =>
  rw[hr] at a;have f:Ks (az (.ask d n y)) (.int 0) S=some (.int d):=OC _ _ S;have m:Ks (az (.ask d n y)) (.int 1) S=some (.int n):=Qb _ _ _ S;have o:Ks (az (.ask d n y)) (.int 2) S=some (.int y):=at2 _ _ _ _ S;have g:=mK d c;by_cases j:d=c
  ·subst j;rw[decide_eq_true rfl] at g;cases b<;>simp[a,f,g,m,o,h]
  rw[decide_eq_false j] at g;cases b<;>simp[a,f,g,j,h]
abbrev PO (R1 R2:List Row)(P:Nat):MO:=.ins "Pairs" [("folds",.tup [.tup (R1.map az),.tup (R2.map az)]),("rows",.loc (P+1)),("made",.loc (P+5))]
theorem pq1:(("rows":Str)=="folds")=false:=by decide
theorem pq2:(("made":Str)=="folds")=false:=by decide
theorem pq3:(("made":Str)=="rows")=false:=by decide
structure PS (B:Nat->Option MO) (R1 R2:List Row) (S:JP) (P:Nat) (o:List Nat) (G:List Row) (M:PM):Prop where
 sr:SR (λi=>if i=P+5 then some (.JT (PX M)) else if i=P then some (PO R1 R2 P) else B i) S (P+1) o G []
section
variable {B:Nat->Option MO}{R1 R2:List Row}{S:JP}{P:Nat}{o:List Nat}{G:List Row}{M:PM}
theorem PS.obj (h:PS B R1 R2 S P o G M):S[P]?=some (PO R1 R2 P):=by rw[h.sr.fr P (.inl (by omega)),if_neg (by omega),if_pos rfl]
theorem PS.md (h:PS B R1 R2 S P o G M):S[P+5]?=some (.JT (PX M)):=by rw[h.sr.fr (P+5) (.inr (by omega)),if_pos rfl]
theorem PS.ins (h:PS B R1 R2 S P o G M):tU "Pairs" (.loc P) S=some ([("folds",.tup [.tup (R1.map az),.tup (R2.map az)]),("rows",.loc (P+1)),("made",.loc (P+5))]:List (Str×D)):=by unfold tU;simp only[h.obj,if_true]
theorem PS.Po (h:PS B R1 R2 S P o G M):gO "Pairs" "folds" (.loc P) S=some (.tup [.tup (R1.map az),.tup (R2.map az)]):=by unfold gO;rw[h.ins];simp[List.lookup]
theorem PS.O6 (h:PS B R1 R2 S P o G M):gO "Pairs" "rows" (.loc P) S=some (.loc (P+1)):=by unfold gO;rw[h.ins];simp[List.lookup,pq1]
theorem PS.N7 (h:PS B R1 R2 S P o G M):gO "Pairs" "made" (.loc P) S=some (.loc (P+5)):=by unfold gO;rw[h.ins];simp[List.lookup,pq2,pq3]
theorem PS.has (h:PS B R1 R2 S P o G M)(m:Str)(a:((m=="folds") ||(m=="rows") ||(m=="made"))=false):qu "Pairs" m (.loc P) S=some .Kk:=by rw[or_eq_false_iff,or_eq_false_iff] at a;unfold qu;rw[h.ins];simp[List.lookup,a.1.1,a.1.2,a.2]
theorem zip2 (a b:D)(i j:Nat):AO [.tup [a,b],MG i j]=some [.tup [a,.int i],.tup [b,.int j]]:=rfl
theorem uV (h:PS B R1 R2 S P o G M){i j:Nat}(e:i<R1.length)(g:j<R2.length)(c:Nat)(b:Bool):bU [.loc P,MG i j,.int c,.int (if b=true then 1 else 0)] S=JV (MG (sd R1 i c b) (sd R2 j c b)) S:=by
 have a:=uW e c b S;have d:=uW g c b S;have f:=h.Po;generalize D.tup (R1.map az)=r1 at *
 generalize D.tup (R2.map az)=r2 at *
 generalize (if b=true then (1:Int) else 0)=bv at *
 have k:=CF (u:=ld 2 (bo (aE 0) (bo (aE 1) g0))) (fe:=bK) (d1:=.tup [r1,.int i]) (d2:=.tup [r2,.int j]) (v1:=.int (sd R1 i c b:Nat)) (v2:=.int (sd R2 j c b:Nat)) (ρ0:=b8 2 [2,3] [some (.loc P),some (MG i j),some (.int c),some (.int bv)]) (ρ1:=[some r1,some (.int i),some (.int c),some (.int bv)]) (ρ2:=[some r2,some (.int j),some (.int c),some (.int bv)]) (S:=S) rfl (by unfold bK;simp[a]) rfl (by unfold bK;simp[d]);have z:=zip2 r1 r2 i j;refine aB rfl ?_;unfold eQ;simp[f,z,k,ft]
def OF (o:List Nat)(R1 R2:List Row)(f:List Str->List Str->List Str)(G:List Row)(p:Nat×Nat)(v:Nat):Prop:=p.1<R1.length/\p.2<R2.length/\v<G.length/\min (J3.pl o R1 p.1) (J3.pl o R2 p.2)<=J3.pl o G v/\∀ c a b,Ev R1 c p.1 a->Ev R2 c p.2 b->Ev G c v (f a b)
theorem OF.app {f:List Str->List Str->List Str}{p:Nat×Nat}{v:Nat}(E:List Row)(h:OF o R1 R2 f G p v):OF o R1 R2 f (G++E) p v:=by obtain⟨a,b,c,d,e⟩:=h;exact⟨a,b,by rw[List.length_append];omega,by rw[ci c];exact d,λj x y i g=>(e j x y i g).mono E⟩
theorem PS.put (h:PS B R1 R2 S P o G M)(i j v:Nat)(hz:M.length<16000000)(ρ:JQ) :
  ∃ a,lF (.loc (P+5)) (MG i j) (.int v) ρ S=JV (.next ρ) a/\PS B R1 R2 a P o G (qp M (i,j) v)/\fY (.loc (P+5)) (MG i j) a=some (.int v):=by
 have d:=tD i j;have c:=F8 M (i,j) v;have it:d4 (MG i j)=true:=rfl;have md:=h.md;refine⟨S.set (P+5) (.JT (PX (qp M (i,j) v))),?_,⟨⟨?_,?_,?_,?_,λk f=>?_⟩⟩,?_⟩
 ·unfold lF;simp only[md,d];rw[if_pos ⟨by unfold PX;rw[length_map];exact lt_of_lt_of_le hz (by decide),it⟩,← c]
 ·rw[bE (by omega)];exact h.sr.obj
 ·rw[bE (by omega)];exact h.sr.RV
 ·rw[bE (by omega)];exact h.sr.num
 ·rw[bE (by omega)];exact h.sr.O5
 ·by_cases e:k=P+5
  ·subst e;rw[if_pos rfl];exact dE md
  rw[if_neg e,bE (λq=>e q.symm),h.sr.fr k f,if_neg e]
 have g:=dE (b:=.JT (PX (qp M (i,j) v))) md;unfold fY;simp only[g,d,it,if_true];rw[← c];exact rA (by rw[om];simp)
end
def N8 (ss:List Str):Prop:=(∀ x∈ss,di x=true)/\QF ss=true
abbrev Ht:FT:=("names_of_both",bG,c_)::("names_in_common",bp,cF)::[]
def NF (c:D)(f:List Str->List Str->List Str):Prop:=∃ F,lG Ht c=some F/\∀ a b S,N8 a->N8 b->a.length<=6->b.length<=6->F [.tup (a.map .str),.tup (b.map .str)] S=JV (.tup ((f a b).map .str)) S/\N8 (f a b)
theorem yH {o:List Nat}{R:List Row}(w:Wr o R){i:Nat}(a:i<R.length)(h:J3.pl o R i=o.length):∃ ss,R[i]?=some (.leaf ss)/\N8 ss:=by
 have e:R[i]?=some R[i]:=List.getElem?_eq_getElem a;have q:=w i _ e;cases hr:R[i] with
 |leaf ss=>rw[hr] at e q;exact⟨ss,e,q⟩
 |ask c n y =>
  rw[hr] at e q;unfold J3.pl at h;rw[e] at h;have:=idxOf_lt_length_iff.mpr q.1;simp only at h;omega
section
variable {B:Nat->Option MO}{R1 R2:List Row}{P:Nat}{o:List Nat}{nf:D}{f:List Str->List Str->List Str}
def CW (B:Nat->Option MO)(R1 R2:List Row)(P:Nat)(o:List Nat)(f:List Str->List Str->List Str)(G:List Row)(M:PM)(i j N K:Nat)(out:Out D):Prop:=
 ∃ b E a v,out=JV (.int (v:Nat)) b/\PS B R1 R2 b P o (G++E) a/\Wf o (G++E)/\(∀ p∈a,OF o R1 R2 f (G++E) p.1 p.2)/\OF o R1 R2 f (G++E) (i,j) v/\E.length<=N/\a.length<=M.length+K
def Lf (R:List Row):Prop:=∀ (i:Nat) (a:List Str),R[i]?=some (Row.leaf a)->a.length<=6
theorem Hi {n x f a b:Nat}(h:x<n+1+f)(c:f<a)(d:f<b):x<n+min a b:=by have:f+1<=min a b:=le_min.mpr ⟨c,d⟩;omega
theorem BG (nd:o.Nodup)(N:Wr o R1)(U:Wr o R2)(TJ:Lf R1)(TK:Lf R2)(hn:NF nf f){F:JO}{n:Nat}
  (IH:∀ {S:JP}{G:List Row}{M:PM}{i j:Nat},PS B R1 R2 S P o G M->Wf o G->(∀ p∈M,OF o R1 R2 f G p.1 p.2)->i<R1.length->j<R2.length->o.length<n+min (J3.pl o R1 i) (J3.pl o R2 j)->G.length+2 ^ n<=16000000->M.length+2 ^ n<=16000000->CW B R1 R2 P o f G M i j (2 ^ n-1) (2 ^ n-1) (F [.loc P,MG i j,nf] S))
  {S:JP}{G:List Row}{M:PM}{i j:Nat}(h:PS B R1 R2 S P o G M) (w:Wf o G) (hM:∀ p∈M,OF o R1 R2 f G p.1 p.2) (m:i<R1.length) (s:j<R2.length) (K:o.length<n+1+min (J3.pl o R1 i) (J3.pl o R2 j)) (hz:G.length+2 ^ (n+1)<=16000000) (PV:M.length+2 ^ (n+1)<=16000000) :
  CW B R1 R2 P o f G M i j (2 ^ (n+1)-1) (2 ^ (n+1)-2) (dX F [.loc P,MG i j,nf] S):=by
 have R : 2 ^ (n+1)=2*2 ^ n:=by rw[pow_succ];omega
 have p1 : 1<=2 ^ n:=one_le_two_pow;have A:R1[i]?=some R1[i]:=List.getElem?_eq_getElem m;have C:R2[j]?=some R2[j]:=List.getElem?_eq_getElem s;have a1:=fB S A;have a2:=fB S C;have pe1:=o_ A (N i _ A) S;have pe2:=o_ C (U j _ C) S;have fo:=h.sr.N6;have fr:=h.O6;have ff:=h.Po;have z:=zip2 (.tup (R1.map az)) (.tup (R2.map az)) i j;have VD:=h.has "number_of_pair" (by decide);have OZ:=h.has "side_of_pair" (by decide);have c1:=CF (u:=ld 2 (bo (aE 0) (bo (aE 1) g0))) (fe:=bY F) (d1:=.tup [.tup (R1.map az),.int i]) (d2:=.tup [.tup (R2.map az),.int j]) (v1:=az R1[i]) (v2:=az R2[j]) (ρ0:=b8 2 [] [some (.loc P),some (MG i j),some nf,some (oD o),none,none,none,none]) (ρ1:=[some (.tup (R1.map az)),some (.int i)]) (ρ2:=[some (.tup (R2.map az)),some (.int j)]) (S:=S) rfl (by unfold bY;simp[a1,-map_map]) rfl (by unfold bY;simp[a2,-map_map]);have c2:=CF (u:=aE 0) (fe:=bX F) (d1:=az R1[i]) (d2:=az R2[j]) (v1:=.int (J3.pl o R1 i:Nat)) (v2:=.int (J3.pl o R2 j:Nat)) (ρ0:=b8 1 [3] [some (.loc P),some (MG i j),some nf,some (oD o),some (.lst [az R1[i],az R2[j]]),none,none,none]) (ρ1:=[some (az R1[i]),some (oD o)]) (ρ2:=[some (az R2[j]),some (oD o)]) (S:=S) rfl (by unfold bX;simp[pe1]) rfl (by unfold bX;simp[pe2]);have em:nG [.lst [.int (J3.pl o R1 i:Nat),.int (J3.pl o R2 j:Nat)]]=some (.int ((min (J3.pl o R1 i) (J3.pl o R2 j):Nat):Int)):=by simp only[nG,cw,map_some,bind_some,D6,List.foldl];congr 2;split<;>omega
 have lo:bW [oD o]=some (.int o.length):=by simp[bW]
 have hle1:=vh o R1 i;have hle2:=vh o R2 j;have sq:cg (.lst [az R1[i],az R2[j]])=some [az R1[i],az R2[j]]:=rfl;by_cases RZ:min (J3.pl o R1 i) (J3.pl o R2 j)=o.length
 ·obtain⟨l,x,o1⟩:=yH N m (by omega);obtain⟨k,H,o2⟩:=yH U s (by omega);rw[A] at x;rw[C] at H;have x:=Option.some.inj x;have H:=Option.some.inj H;obtain⟨Fn,pk,cl⟩:=hn;obtain⟨cl1,ok⟩:=cl l k S o1 o2 (TJ i l (by rw[A,x])) (TK j k (by rw[C,H]));obtain⟨S',E,v,q,sr,w',I,hE⟩:=jO h.sr w (r:=.leaf (f l k)) ok (by omega);have hmn:=h.sr.has "number_of" (by decide);have b1:Ks (.lst [az R1[i],az R2[j]]) (.int 0) S=some (az R1[i]):=rfl;have b2:Ks (.lst [az R1[i],az R2[j]]) (.int 1) S=some (az R2[j]):=rfl;have b3:Ks (az R1[i]) (.int 1) S=some (.tup (l.map .str)):=by rw[x];exact Qb _ _ _ S
  have b4:Ks (az R2[j]) (.int 1) S=some (.tup (k.map .str)):=by rw[H];exact Qb _ _ _ S
  have g:=mK (min (J3.pl o R1 i) (J3.pl o R2 j)) o.length;rw[decide_eq_true RZ] at g;have q:bn [.loc (P+1),.tup [.str "names",.tup ((f l k).map .str)]] S=JV (.int (v:Nat)) S':=q;refine⟨S',E,M,v,aB rfl ?_,⟨sr⟩,w',λp K=>(hM p K).app E,⟨m,s,(List.getElem?_eq_some_iff.mp I).1,?_,λe a b O L=>?_⟩,by omega,by omega⟩
  ·generalize D.tup (R1.map az)=r1 at *
   generalize D.tup (R2.map az)=r2 at *
   generalize az R1[i]=x1 at *
   generalize az R2[j]=x2 at *
   generalize D.tup (l.map .str)=y1 at *
   generalize D.tup (k.map .str)=y2 at *
   generalize D.tup ((f l k).map .str)=y3 at *
   generalize min (J3.pl o R1 i) (J3.pl o R2 j)=mn at *
   generalize J3.pl o R1 i=k1 at *
   generalize J3.pl o R2 j=k2 at *
   generalize oD o=od at *
   have ev:uq Ht (ag 2) (af (Kw (Kw (ag 4) (aC (.int 0))) (aC (.int 1))) (af (Kw (Kw (ag 4) (aC (.int 1))) (aC (.int 1))) aA)) [some (.loc P),some (MG i j),some nf,some od,some (.lst [x1,x2]),some (.int mn),none,none] S=JV y3 S:=by unfold uq;have v2:ag 2 [some (.loc P),some (MG i j),some nf,some od,some (.lst [x1,x2]),some (.int mn),none,none] S=JV nf S:=rfl;rw[v2,cA];simp only[pk];simp[b1,b2,b3,b4,cl1]
   unfold dP;simp -implicitDefEqProofs [fr,fo,ff,z,c1,sq,c2,em,lo,g,hmn,ev,q]
  ·have hpv:J3.pl o (G++E) v=o.length:=by unfold J3.pl;rw[I]
   simp only;omega
  have h1:a=l:=Ev.det O (.leaf (by rw[A,x]));have h2:b=k:=Ev.det L (.leaf (by rw[C,H]));rw[h1,h2];exact .leaf I
 have Lc:min (J3.pl o R1 i) (J3.pl o R2 j)<o.length:=by omega
 have g:=mK (min (J3.pl o R1 i) (J3.pl o R2 j)) o.length;rw[decide_eq_false RZ] at g;have J:o[min (J3.pl o R1 i) (J3.pl o R2 j)]∈o:=getElem_mem Lc;have Q:o.idxOf o[min (J3.pl o R1 i) (J3.pl o R2 j)]=min (J3.pl o R1 i) (J3.pl o R2 j):=nd.idxOf_getElem _ Lc;have T:∀ S:JP,Ks (oD o) (.int ((min (J3.pl o R1 i) (J3.pl o R2 j):Nat):Int)) S=some (.int (o[min (J3.pl o R1 i) (J3.pl o R2 j)]:Nat)):=λS=>by unfold Ks;rw[if_neg (by simp[bA])];show Mu (o.map λ(c:Nat)=>D.int c) _=_;exact bB (by rw[getElem?_map,List.getElem?_eq_getElem Lc];rfl)
 generalize o[min (J3.pl o R1 i) (J3.pl o R2 j)]=c at *
 have Lb:¬ ((min (J3.pl o R1 i) (J3.pl o R2 j):Nat):Int)=o.length:=by omega
 have YJ:=uV h m s c false;have gi:o.idxOf c<=J3.pl o R1 i:=Q▸Nat.min_le_left _ _;have gj:o.idxOf c<=J3.pl o R2 j:=Q▸min_le_right _ _;have Qx:o.length<n+1+o.idxOf c:=Q▸K;obtain⟨a1',YK,YL⟩:=og N m false J gi;obtain⟨b1',YM,YN⟩:=og U s false J gj;obtain⟨S1,d,M1,v1,q1,W,QI,VG,ok1,l1,m1⟩:=IH h w hM a1' b1' (Hi Qx YK YM) (half hz R) (half PV R);have Tc:(G++d).length=G.length+d.length:=List.length_append;have YO:=uV W m s c true;obtain⟨c1',YQ,YR⟩:=og N m true J gi;obtain⟨d1',YS,YT⟩:=og U s true J gj;obtain⟨S2,t,M2,v2,q2,Xi,w2',YU,ok2,l2,m2⟩:=IH W QI VG c1' d1' (Hi Qx YQ YS) (EZ hz R l1 p1 Tc) (EY PV R m1 p1);have Xb:(G++d++t).length=G.length+d.length+t.length:=by rw[List.length_append,Tc]
 obtain⟨_,_,x3,x4,x5⟩:=ok1;obtain⟨_,_,y3,y4,y5⟩:=ok2;simp only at x4 x5 y4 y5;have px:J3.pl o (G++d++t) v1=J3.pl o (G++d) v1:=ci x3;obtain⟨S3,y,v,q3,Qc,Y,I,pv,l3,NQ⟩:=uv Xi.sr w2' (c:=c) (a:=v1) (b:=v2) J (eY x3) y3 (by rw[px];exact lt_of_lt_of_le (lt_min.mpr ⟨YK,YM⟩) x4) (lt_of_lt_of_le (lt_min.mpr ⟨YQ,YS⟩) y4) (by omega);have V:G++(d++t++y)=G++d++t++y:=by simp
 have nm1:=W.has "number_of_pair" (by decide);have QU:=W.has "side_of_pair" (by decide);have nr:=Xi.O6;have W9:=Xi.sr.has "number_of_ask" (by decide);have X:=T S;have eo1:=T S1;have Z:=T S2;refine⟨S3,d++t++y,M2,v,aB rfl ?_,by rw[V];exact⟨Qc⟩,by rw[V];exact Y,λp K=>by rw[V];exact(YU p K).app y,?_,by rw[List.length_append,List.length_append];omega,by omega⟩
 ·simp only[false_eq_true,if_false,if_true] at YJ YO;clear T hn x5 y5 YL YN YR YT NQ IH hM VG YU;generalize D.tup (R1.map az)=r1 at *
  generalize D.tup (R2.map az)=r2 at *
  generalize az R1[i]=x1 at *
  generalize az R2[j]=x2 at *
  generalize min (J3.pl o R1 i) (J3.pl o R2 j)=mn at *
  generalize J3.pl o R1 i=k1 at *
  generalize J3.pl o R2 j=k2 at *
  generalize oD o=od at *
  unfold dP;simp -implicitDefEqProofs [fr,fo,ff,z,c1,sq,c2,em,lo,Lb,VD,OZ,X,YJ,q1,nm1,QU,eo1,YO,q2,nr,W9,Z,q3]
 rw[V];refine⟨m,s,I,by simp only;rw[← Q];exact pv,λe a b O L=>NQ e _ ?_⟩;unfold sel;cases ht:e c with
 |false =>
  have:=x5 e a b (YL e a ht O) (YN e b ht L);exact(this.mono t).mono y
 |true =>
  have:=y5 e a b (YR e a ht O) (YT e b ht L);exact this.mono y
end
section
variable {B:Nat->Option MO}{R1 R2:List Row}{P:Nat}{o:List Nat}{nf:D}{f:List Str->List Str->List Str}
theorem yK (nd:o.Nodup)(t:Wr o R1)(C:Wr o R2)(y:Lf R1)(A:Lf R2)(k:NF nf f):∀ (n:Nat) {S:JP}{G:List Row}{M:PM}{i j:Nat},PS B R1 R2 S P o G M->Wf o G->(∀ p∈M,OF o R1 R2 f G p.1 p.2)->i<R1.length->j<R2.length->o.length<n+min (J3.pl o R1 i) (J3.pl o R2 j)->G.length+2 ^ n<=16000000->M.length+2 ^ n<=16000000->CW B R1 R2 P o f G M i j (2 ^ n-1) (2 ^ n-1) (bN n [.loc P,MG i j,nf] S)
 | 0,S,G,M,i,j,h,w,c,r,x,l,s,u=>absurd l (by have:=vh o R1 i;omega)
 |n+1,S,G,M,i,j,h,w,c,r,x,l,s,u=>by
  have g:=tD i j;have a:=F9 M (i,j);have it:d4 (MG i j)=true:=rfl;have R : 1<=2 ^ n:=one_le_two_pow;have Q : 2 ^ (n+1)=2*2 ^ n:=by rw[pow_succ];omega
  have md:=h.md;cases hf:M.find? (λp=>decide (p.1=(i,j))) with
  |some p =>
   rw[hf] at a;have L:=List.mem_of_find?_eq_some hf;have H:p.1=(i,j):=by simpa using List.find?_some hf
   have b:=c p L;rw[H] at b;have d:kK true (MG i j) (.loc (P+5)) S=some (.bl false):=by unfold kK;simp only[md,g,it,if_true,a];rfl
   have e:fY (.loc (P+5)) (MG i j) S=some (.int (p.2:Nat)):=by unfold fY;simp only[md,g,it,if_true,a];rfl
   refine⟨S,[],M,p.2,aB rfl ?_,by rw[append_nil];exact h,by rw[append_nil];exact w,by rw[append_nil];exact c,by rw[append_nil];exact b,by simp,by omega⟩;unfold ck;simp[h.N7,d,e]
  |none =>
   rw[hf] at a;have d:kK true (MG i j) (.loc (P+5)) S=some (.bl true):=by unfold kK;simp only[md,g,it,if_true,a];rfl
   have K:=h.has "pair_anew" (by decide);obtain⟨N,E,M1,v,q,m,D,F,b,J,O⟩:=BG nd t C y A k (λ{S G M i j}=>yK nd t C y A k n (S:=S) (G:=G) (M:=M) (i:=i) (j:=j)) h w c r x (by omega) s u;obtain⟨I,ep,z,e⟩:=m.put i j v (by omega) [some (.loc P),some (MG i j),some nf];have pl:=Bq M1 (i,j) v;refine⟨I,E,qp M1 (i,j) v,v,aB rfl ?_,z,D,Br F b,b,J,by omega⟩;unfold ck;simp[h.N7,d,K,q,m.N7,ep,z.N7,e]
end
theorem oV (S r:JP)(fs:List (Str×D))(f:Str)(v:D)(ρ:JQ)(h:fs.length<1000):lp "Pairs" f (.loc S.length) v ρ (S++MO.ins "Pairs" fs::r)=JV (.next ρ) (S++MO.ins "Pairs" (j9 f v fs)::r):=by
 have e:(S++MO.ins "Pairs" fs::r)[S.length]?=some (.ins "Pairs" fs):=by simp
 unfold lp;simp only[e];rw[if_pos ⟨trivial,h⟩];simp
theorem q9 {ar:JJ (List D)}{ρ:JQ}{S:JP}{o:List Nat}(h:ar ρ S=JV [oD o] S):ju "Rows" br ar ρ S=JV (.loc S.length) (S++[RO o S.length,.lst [],.JT [],.JT []]):=by unfold ju;rw[h,cA];simp only[u_];rfl
theorem pn1:¬ ("folds":Str)="rows":=by decide
theorem pn2:¬ ("folds":Str)="made":=by decide
theorem pn3:¬ ("rows":Str)="made":=by decide
theorem Bv (S:JP)(a b:D)(o:List Nat):b_ [.loc S.length,a,b,oD o] (S++[.ins "Pairs" []])=JV .Kk (S++[.ins "Pairs" [("folds",.tup [a,b]),("rows",.loc (S.length+1)),("made",.loc (S.length+5))],RO o (S.length+1),.lst [],.JT [],.JT [],.JT []]):=by
 have c:=λρ=>oV S [] [] "folds" (.tup [a,b]) ρ (by decide);have f:=q9 (ar:=af (ag 3) aA) (ρ:=[some (.loc S.length),some a,some b,some (oD o)]) (S:=S++[.ins "Pairs" [("folds",.tup [a,b])]]) (o:=o) rfl;have d:=λρ=>oV S [RO o (S.length+1),.lst [],.JT [],.JT []] [("folds",.tup [a,b])] "rows" (.loc (S.length+1)) ρ (by simp);have e:=λρ=>oV S [RO o (S.length+1),.lst [],.JT [],.JT [],.JT []] [("folds",.tup [a,b]),("rows",.loc (S.length+1))] "made" (.loc (S.length+5)) ρ (by simp);simp only[j9,pn1,pn2,pn3,if_false] at c d e;simp only[List.length_append,length_cons,length_nil,zero_add,List.append_assoc,cons_append,nil_append] at f;unfold b_ a9;rw[if_pos (show ([.loc S.length,a,b,oD o]:List D).length=4 from rfl)];have z2:Mz [a,b] (.tup [a,b])=some (.tup [a,b]):=b7 (by simp);have:d6 ([.loc S.length,a,b,oD o].map some++replicate 0 none) (S++[.ins "Pairs" []])=JV (.next [some (.loc S.length),some a,some b,some (oD o)]) (S++[.ins "Pairs" [("folds",.tup [a,b]),("rows",.loc (S.length+1)),("made",.loc (S.length+5))],RO o (S.length+1),.lst [],.JT [],.JT [],.JT []]):=by unfold d6;simp[z2,c,f,d,e]
 rw[this];rfl
theorem FD {o:List Nat}(nd:o.Nodup)(hl:o.length<=8){d R2:List Row}(R:Wr o d)(w2:Wr o R2)(Z:Lf d)(TK:Lf R2)(h1 : 0<d.length)(h2 : 0<R2.length){m:D}{f:List Str->List Str->List Str}(I:NF m f)(S:JP) :
  ∃ t C,cO [.tup (d.map az),.tup (R2.map az),oD o,m] S=JV (.tup ((enc (po t [])).map az)) C/\Ord o t/\AJ t/\Wr o (enc (po t []))/\(∀ g,Ev (enc (po t [])) g ((enc (po t [])).length-1) (K0 t g))/\(∀ g a b,Ev d g (d.length-1) a->Ev R2 g (R2.length-1) b->K0 t g=f a b)/\(po t []).length<=1023/\C.take S.length=S:=by
 have K:=Bv S (.tup (d.map az)) (.tup (R2.map az)) o;have pre:∀ i,i<S.length->(S++[PO d R2 S.length,RO o (S.length+1),.lst [],.JT [],.JT [],.JT []])[i]?=S[i]?:=λi l=>getElem?_append_left l
 have k:PS (λi=>(S++[PO d R2 S.length,RO o (S.length+1),.lst [],.JT [],.JT [],.JT []])[i]?) d R2 (S++[PO d R2 S.length,RO o (S.length+1),.lst [],.JT [],.JT [],.JT []]) S.length o [] []:=by
  refine⟨⟨?_,?_,?_,?_,λi l=>?_⟩⟩
  ·rw[getElem?_append_right (by omega)];simp
  ·rw[getElem?_append_right (by omega),show S.length+1+1-S.length=2 by omega];rfl
  ·rw[getElem?_append_right (by omega),show S.length+1+2-S.length=3 by omega];rfl
  ·rw[getElem?_append_right (by omega),show S.length+1+3-S.length=4 by omega];rfl
  by_cases z:i=S.length+5
  ·subst z;rw[if_pos rfl,getElem?_append_right (by omega),show S.length+5-S.length=5 by omega];rfl
  rw[if_neg z];by_cases A:i=S.length
  ·subst A;rw[if_pos rfl,getElem?_append_right (by omega)];simp
  rw[if_neg A]
 generalize (S++[PO d R2 S.length,RO o (S.length+1),.lst [],.JT [],.JT [],.JT []])=S0 at *
 have P:Wf o ([]:List Row):=⟨nodup_nil,λi r h=>by simp at h⟩;obtain⟨q,E,M1,r,N,n,j,_,⟨_,_,u,_,s⟩,_,_⟩:=yK nd R w2 Z TK I 9 k P (λp J=>by cases J) (show d.length-1<d.length by omega) (show R2.length-1<R2.length by omega) (by omega) (by decide) (by decide);rw[nil_append] at n j u s;simp only at s;obtain⟨X,S2,y,c,lX,G,x2,B,rfl⟩:=fold_eq n.sr j hl u
 have fr:(q++[x2,B]).take S.length=S:=by
  have F:S.length+1+3<q.length:=(List.getElem?_eq_some_iff.mp n.sr.O5).1;apply ext_getElem?;intro i;rw[getElem?_take];split
  ·rename_i l;rw[getElem?_append_left (by omega),n.sr.fr i (.inl (by omega)),if_neg (by omega),if_neg (by omega),pre i l]
  rw[List.getElem?_eq_none (by omega)]
 have un:=j.uT u;have H:FR (X++[r]) E=enc (po (J3.uT E r) []):=by rw[yg j c,G]
 have x:=C0 j c;rw[H] at y x;refine⟨J3.uT E r,q++[x2,B],aB rfl ?_,(un.ord j).1,(un.ord j).2,x,λg=>?_,λg a b T U=>?_,?_,fr⟩
 ·have W:ju "Pairs" b_ (af (ag 0) (af (ag 1) (af (ag 2) aA))) [some (.tup (d.map az)),some (.tup (R2.map az)),some (oD o),some m,none] S=JV (.loc S.length) S0:=by
   unfold ju;have:af (ag 0) (af (ag 1) (af (ag 2) aA)) [some (.tup (d.map az)),some (.tup (R2.map az)),some (oD o),some m,none] S=JV [.tup (d.map az),.tup (R2.map az),oD o] S:=rfl;rw[this,cA];rw[K];rfl
  have F:bW [.tup (d.map az)]=some (.int d.length):=by simp[bW]
  have Q:bW [.tup (R2.map az)]=some (.int R2.length):=by simp[bW]
  have Y:(d.length:Int)-1=((d.length-1:Nat):Int):=by omega
  have L:(R2.length:Int)-1=((R2.length-1:Nat):Int):=by omega
  have v:=k.O6;have w:=k.has "number_of_pair" (by decide);have O:=k.sr.has "fold_from" (by decide);generalize D.tup (d.map az)=r1 at *
  generalize D.tup (R2.map az)=r2 at *
  generalize D.tup ((enc (po (J3.uT E r) [])).map az)=rt at *
  generalize oD o=od at *
  unfold jn;simp -implicitDefEqProofs [W,v,w,O,F,Q,Y,L,N,y]
 ·have e:=C4 c (un.ev g) (by simp);have V:r∉X:=by have:=(nodup_append.mp c.nd).2.2;intro w;exact this r w r (by simp) rfl
  have M:(X++[r]).idxOf r=(FR (X++[r]) E).length-1:=by rw[idxOf_append,if_neg V];simp[FR]
  rw[M,H] at e;exact e
 ·exact Ev.det (un.ev g) (s g a b T U)
 rw[← G,length_map,List.length_append];simp;omega
theorem vS (x:Str):∀ l:List Str,((l.map PyData.str).any λq=>PyData.eqv q (.str x))=decide (x∈l)
 |[]=>by simp
 |a::l=>by
  rw[map_cons,any_cons,vS x l];by_cases h:a=x
  ·simp[PyData.eqv,h]
  have b:¬ x=a:=λe=>h e.symm;simp[PyData.eqv,h,b]
theorem Ce (neg:Bool)(x:Str)(l:List Str)(S:JP):Ol neg (.str x) (.tup (l.map .str)) S=some (.bl (neg != decide (x∈l))):=by
 have e:pJ (.str x) (.tup (l.map .str))=some (decide (x∈l)):=by unfold pJ;simp only[toPy,sT,bind_some,fP];rw[if_pos (by simp[PyData.depth]),vS]
 unfold Ol;rw[if_neg (by simp[bA])];cases neg<;>simp[inD,mE,e]
theorem Go {neg:Bool}{gt:JJ Bool}{fe:JJ D}(g:gt=aY (N2 neg (ag 0) (ag 1)))(f:fe=ag 0)(a b:List Str)(S:JP)(y:Option D):bT (aE 0) gt fe (a.map .str) [y,some (.tup (b.map .str))] S=some ((a.filter λx=>neg != decide (x∈b)).map .str,S):=by
 subst g f
 have q:=f8 (u:=aE 0) (gt:=aY (N2 neg (ag 0) (ag 1))) (fe:=ag 0) (λc => ∃ y,c=[y,some (.tup (b.map .str))]) (λd=>match d with | .str x=>neg != decide (x∈b) |_=>false) id S (a.map .str) [y,some (.tup (b.map .str))] ⟨y,rfl⟩ (by
  rintro d hd c ⟨z,rfl⟩;obtain⟨x,h,rfl⟩:=mem_map.mp hd;have e:=Ce neg x b S;refine⟨[some (.str x),some (.tup (b.map .str))],rfl,⟨_,rfl⟩,?_,λ_=>rfl⟩;generalize D.tup (b.map .str)=bb at *
  show aY (N2 neg (ag 0) (ag 1)) [some (.str x),some bb] S=JV (neg != decide (x∈b)) S
  simp[e,NG])
 rw[q,map_id,filter_map];rfl
def fI (a b:List Str):List Str:=a.filter λx=>false != decide (x∈b)
def fL (a b:List Str):List Str:=a.filter λx=>true != decide (x∈b)
def fU (a b:List Str):List Str:=fT (a++fL b a)
theorem lh (a:List D):ft [.lst a]=some (.tup a):=rfl
theorem tF {a b:List Str}(h:N8 a)(s:b.Sublist a):N8 b:=⟨λx c=>h.1 x (s.subset c),fx ((cR h.2).sublist s)⟩
theorem sI (a:List Str):cg (.tup (a.map .str))=some (a.map .str):=rfl
theorem z9:NF (.fn "names_in_common" bp) fI:=by
 refine⟨cF,?_,λa b S d f _ _=>⟨aB rfl ?_,tF d filter_sublist⟩⟩
 ·unfold lG;rw[if_neg (λe=>absurd (D.fn.inj e).1 (by decide))];unfold lG;exact if_pos rfl
 have q:=Go (neg:=false) (gt:=fm) (fe:=fq) rfl rfl a b S none;have c:b8 1 [1] [some (D.tup (a.map .str)),some (.tup (b.map .str))]=[none,some (.tup (b.map .str))]:=rfl;have s:=sI a;unfold fI;generalize (a.filter λx=>false != decide (x∈b)).map D.str=r at *
 generalize D.tup (b.map .str)=bb at *
 generalize a.map D.str=al at *
 unfold gz;simp[s,c,q,lh]
theorem jN {a:List Str}(h:N8 a):a.Nodup:=(cR h.2).imp λ{x y} q e=>by subst e;rw[xC] at q;cases q
theorem vZ {a b:List Str}(c:N8 a)(d:N8 b):(a++fL b a).Nodup:=by refine nodup_append.mpr ⟨jN c,(jN d).sublist filter_sublist,λx g y f e=>?_⟩;subst e;have:=(mem_filter.mp f).2;simp[g] at this
theorem Cu {a b:List Str}(c:N8 a)(d:N8 b):N8 (fU a b):=by
 have e:(fU a b).Perm (a++fL b a):=mergeSort_perm _ _;have nd:=vZ c d;refine⟨λx f=>?_,fx ?_⟩
 ·rcases mem_append.mp (e.mem_iff.mp f) with h |h
  ·exact c.1 x h
  exact d.1 x (mem_filter.mp h).1
 have g:(fU a b).Pairwise λx y=>Nn x y=true:=pairwise_mergeSort ic jP _;have i:(fU a b).Pairwise λx y=>x≠y:=e.nodup_iff.mpr nd;exact(g.and i).imp λ{x y} h=>lJ h.1 h.2
theorem qI (ss:List Str)(h:ss.length<=60):dD (ss.map D.str)=some ((fT ss).map D.str):=by unfold dD;rw[if_pos (by rw[length_map];first |exact Nat.le_trans h (by decide) |omega),jF]
theorem q_:∀ a:List Str,jk (a.map D.str)=some (a.map λc=>(Sum.inr c:Key))
 |[]=>rfl
 |c::a=>by rw[map_cons,jk,q_ a];rfl
theorem vR:∀ (l b:List Str),(l.map λc=>(Sum.inr c:Key)).foldl cy (b.map Sum.inr)=(l.foldl cy b).map Sum.inr
 |[],b=>rfl
 |a::l,b=>by
  rw[map_cons,foldl_cons,foldl_cons,← vR l (cy b a)];congr 1;unfold cy;by_cases h:a∈b
  ·rw[if_pos h,if_pos (mem_map.mpr ⟨a,h,rfl⟩)]
  rw[if_neg h,if_neg (λq=>by obtain⟨x,d,e⟩:=mem_map.mp q;cases e;exact h d),map_append];rfl
theorem sP {l r:List Str}(j:l.length<=60)(nd:r.Nodup)(f:∀ x,x∈l↔x∈r):jc (.tup (l.map .str))=some (.lst ((fT r).map .str)):=by
 unfold jc;simp only;rw[if_pos (by rw[length_map];omega),q_,bind_some];have e:=vR l [];rw[map_nil] at e;rw[e,map_map];have h:(l.foldl cy []).map (RI ∘ Sum.inr)=(l.foldl cy []).map D.str:=rfl;rw[h];have g:=pG l [] nodup_nil;have c:(l.foldl cy []).Perm r:=(List.perm_ext_iff_of_nodup g nd).mpr λx=>by rw[rn,f];simp
 have ln:(l.foldl cy []).length<=60:=by
  have:∀ (l b:List Str),(l.foldl cy b).length<=b.length+l.length:=by
   intro l
   induction l with
   |nil=>intro b;simp
   |cons a l d =>
    intro b;rw[foldl_cons];have:=d (cy b a)
    have i:(cy b a).length<=b.length+1:=by
     unfold cy;split
     ·omega
     rw[List.length_append];simp
    rw[length_cons];omega
  have:=this l [];rw[length_nil] at this;omega
 rw[qI _ ln,map_some];have:fT (l.foldl cy [])=fT r:=fw ((mergeSort_perm _ _).trans c) (pairwise_mergeSort ic jP _);rw[this]
theorem wF {a b:List Str}(h:a.length+b.length<=1000):bi (.tup (a.map .str)) (.tup (b.map .str))=some (.tup ((a++b).map .str)):=by rw[fM,if_pos (by rw[length_map,length_map];exact Nat.le_trans h (by decide)),map_append]
theorem DX:NF (.fn "names_of_both" bG) fU:=by
 refine⟨c_,by unfold lG;exact if_pos rfl,λa b S c d e f=>⟨aB rfl ?_,Cu c d⟩⟩;have ad:=wF (a:=a) (b:=b) (by omega);have q:=sP (l:=a++b) (r:=a++fL b a) (by rw[List.length_append];omega) (vZ c d) λx=>by unfold fL;rw[mem_append,mem_append,mem_filter];by_cases h:x∈a<;>simp[h]
 unfold fU;generalize D.tup (a.map .str)=x1 at *
 generalize D.tup (b.map .str)=x2 at *
 generalize D.tup ((a++b).map .str)=x3 at *
 generalize (fT (a++fL b a)).map D.str=x4 at *
 unfold iP;simp[ad,q,lh]
theorem wS {a b:List Str}(d:a.length<=6)(e:b.length<=6)(S:JP):mX [.tup (a.map .str),.tup (b.map .str)] S=JV (.tup ((fU a b).map .str)) S:=by
 have q:=Go (neg:=true) (gt:=i_) (fe:=jo) rfl rfl b a S none;have c:b8 1 [0] [some (D.tup (a.map .str)),some (.tup (b.map .str))]=[none,some (.tup (a.map .str))]:=rfl;have s:=sI b;have lf:(fL b a).length<=b.length:=List.length_filter_le _ _;have ad:=wF (a:=a) (b:=fL b a) (by omega);have so:ll (.tup ((a++fL b a).map .str)) S=some (.lst ((fU a b).map .str)):=by show (dD ((a++fL b a).map D.str)).map D.lst=_;rw[qI _ (by rw[List.length_append];omega)];rfl
 have q:bT (aE 0) i_ jo (b.map .str) [none,some (.tup (a.map .str))] S=some ((fL b a).map .str,S):=q;refine aB rfl ?_;generalize D.tup (a.map .str)=x1 at *
 generalize b.map D.str=x2 at *
 generalize D.tup ((a++fL b a).map .str)=x3 at *
 generalize (fU a b).map D.str=x4 at *
 generalize (fL b a).map D.str=x5 at *
 unfold rC;simp[s,c,q,lh,ad,so]
section
variable {m:Nat}{ts:List Int}{o:List Nat}{R:List Row}
theorem EE (B:iF m ts)(w:Wr o R)(E:∀ c∈o,c<m)(S:JP){p:Nat}{ss:List Str}(e:Ev R (tv ts) p ss):∀ {r:Row}{fuel:Nat},R[p]?=some r->o.length+1<=fuel+J3.pl o R p->eT li im fuel [some (.tup (R.map az)),some (La ts),some (az r)] S=JV (.next [some (.tup (R.map az)),some (La ts),some (az (.leaf ss))]) S:=by
 have step:∀ {p c n y:Nat}{fuel:Nat},R[p]?=some (.ask c n y)->o.length+1<=fuel+J3.pl o R p->∃ f,fuel=f+1/\o.length+1<=f+J3.pl o R n/\o.length+1<=f+J3.pl o R y/\c<m/\n<R.length/\y<R.length:=by
  intro p c n y fuel a j;have F:J3.pl o R p=o.idxOf c:=by unfold J3.pl;rw[a]
  have H:p<R.length:=(List.getElem?_eq_some_iff.mp a).1;obtain⟨D,J,I,L,K⟩:=w p _ a;have:o.idxOf c<o.length:=idxOf_lt_length_iff.mpr D;exact⟨fuel-1,by omega,by omega,by omega,E c D,by omega,by omega⟩
 have v:∀ r:Row,li [some (.tup (R.map az)),some (La ts),some (az r)] S=JV (match r with | .leaf _=>false | .ask _ _ _=>true) S:=λr=>by
  unfold li;cases r with
  |leaf ss =>
   have h:Ks (az (.leaf ss)) (.int 0) S=some (.str "names"):=OC _ _ S;have b:=vx (d:=.str "names") rfl "names";have k:PU (.str "names") "names"=true:=by simp[PU]
   simp[h,b,k]
  |ask c n y =>
   have h:Ks (az (.ask c n y)) (.int 0) S=some (.int c):=OC _ _ S;have b:=vx (d:=.int c) rfl "names";have k:PU (.int c) "names"=false:=rfl;simp[h,b,k]
 induction e with
 | @leaf p ss a =>
  intro r fuel g j;rw[a] at g;cases g;have F:J3.pl o R p=o.length:=by unfold J3.pl;rw[a]
  obtain⟨fuel,rfl⟩:∃ f,fuel=f+1:=⟨fuel-1,by omega⟩;rw[eT,v];rfl
 | @no p c n y ss a l _ u =>
  intro r fuel g j;obtain⟨fuel,rfl,C,A,q,x,z⟩:=step a j;rw[a] at g;cases g;have i:=yq B q S;rw[l] at i;have h:Ks (az (.ask c n y)) (.int 0) S=some (.int c):=OC _ _ S;have k:Ks (az (.ask c n y)) (.int 1) S=some (.int n):=Qb _ _ _ S;have b:R[n]?=some R[n]:=List.getElem?_eq_getElem x;have t:=fB S b;have s:im [some (.tup (R.map az)),some (La ts),some (az (.ask c n y))] S=JV (.next [some (.tup (R.map az)),some (La ts),some (az R[n])]) S:=by unfold im;simp[h,i,k,t,-map_map]
  rw[eT,v];simp only[cA,if_true,s];exact u b C
 | @yes p c n y ss a l _ u =>
  intro r fuel g j;obtain⟨fuel,rfl,C,A,q,x,z⟩:=step a j;rw[a] at g;cases g;have i:=yq B q S;rw[l] at i;have h:Ks (az (.ask c n y)) (.int 0) S=some (.int c):=OC _ _ S;have G:Ks (az (.ask c n y)) (.int 2) S=some (.int y):=at2 _ _ _ _ S;have b:R[y]?=some R[y]:=List.getElem?_eq_getElem z;have t:=fB S b;have s:im [some (.tup (R.map az)),some (La ts),some (az (.ask c n y))] S=JV (.next [some (.tup (R.map az)),some (La ts),some (az R[y])]) S:=by unfold im;simp[h,i,G,t,-map_map]
  rw[eT,v];simp only[cA,if_true,s];exact u b A
theorem uu (g:iF m ts)(w:Wr o R)(d:∀ c∈o,c<m)(i:o.length<=18){ss:List Str}(e:Ev R (tv ts) (R.length-1) ss)(S:JP):m8 [.tup (R.map az),La ts] S=JV (.tup (ss.map .str)) S:=by
 obtain⟨r,a⟩:∃ r,R[R.length-1]?=some r:=by cases e with
  |leaf h=>exact⟨_,h⟩
  |no h=>exact⟨_,h⟩
  |yes h=>exact⟨_,h⟩
 have q:=EE g w d S e (fuel:=20) a (by omega);have b:Ks (az (.leaf ss)) (.int 1) S=some (.tup (ss.map .str)):=Qb _ _ _ S;have f:=As S a;refine aB rfl ?_;unfold Cm;simp[z_,f,uk,q,b,-map_map]
end
theorem ub {α:Type}(a:List α)(p:Nat):jr a none (some (p:Int))=a.take p:=by
 unfold jr;rw[HT.Oj,HT.Pa,drop_zero,Nat.sub_zero];rcases Nat.le_total p a.length with h |h
 ·rw[Nat.min_eq_left h]
 rw[Nat.min_eq_right h,take_of_length_le (le_refl _),take_of_length_le h]
theorem uc {α:Type}(a:List α)(q:Nat):jr a (some (q:Int)) none=a.drop q:=by
 unfold jr;rw[HT.Pa,HT.Oj];rcases Nat.le_total q a.length with h |h
 ·rw[Nat.min_eq_left h,take_of_length_le (by rw[length_drop];exact le_refl _)]
 rw[Nat.min_eq_right h,List.drop_length,List.drop_of_length_le h,List.take_nil]
abbrev nD (l:List Nat):List D:=l.map λ(k:Nat)=>D.int k
theorem B3 (a b:List D)(h:a.length+b.length<=1000):bi (.lst a) (.lst b)=some (.lst (a++b)):=by rw[mV,if_pos (Nat.le_trans h (by decide))]
theorem xr (num:Int)(m:D)(k:Nat)(p:k<=20)(l:List Nat)(n:l.length=k)(z:Option D)(S:JP):∃ a:Nat,a<=k/\gJ [some (.int num),some m,some (.lst (nD l)),some (.int k),z] S=JV (.next [some (.int num),some m,some (.lst (nD (l.take a++[k]++l.drop a))),some (.int k),some (.int a)]) S:=by
 have e:=jq num k S;have h:bW [.lst (nD l)]=some (.int (k:Nat)):=by simp[bW,n]
 have b:cG (.int (Ln num k)) (.int ((k:Int)+1))=some (.int (Ln num k % ((k:Int)+1))):=bI (by omega);have d:=pp (Ln num k) (show (0:Int)<(k:Int)+1 by omega);obtain⟨a,j⟩:∃ a:Nat,Ln num k % ((k:Int)+1)=a:=⟨(Ln num k % ((k:Int)+1)).toNat,by omega⟩;rw[j] at b d;have f:Mi (.lst (nD l)) none (some (a:Int))=some (.lst (nD (l.take a))):=by show some (D.lst (jr (nD l) none (some (a:Int))))=_;rw[ub];unfold nD;rw[map_take]
 have g:Mi (.lst (nD l)) (some (a:Int)) none=some (.lst (nD (l.drop a))):=by show some (D.lst (jr (nD l) (some (a:Int)) none))=_;rw[uc];unfold nD;rw[map_drop]
 have t1:(nD (l.take a)).length<=20:=by rw[length_map,length_take];omega
 have t2:(nD (l.drop a)).length<=20:=by rw[length_map,length_drop];omega
 have o:=B3 (nD (l.take a)) [.int k] (by simp at t1 ⊢;omega);have c:=B3 (nD (l.take a)++[.int k]) (nD (l.drop a)) (by rw[List.length_append];simp at t1 t2 ⊢;omega);have z1:Mz [.int k] (.lst [.int k])=some (.lst [.int k]):=b7 (by simp);have i:nD (l.take a++[k]++l.drop a)=nD (l.take a)++[.int k]++nD (l.drop a):=by simp
 refine⟨a,by omega,?_⟩;rw[i];unfold gJ;simp[e,h,b,f,g,z1,o,c,qt,-map_map,-map_append,-map_take,-map_drop,-List.append_assoc]
theorem z5 (num:Int){m:Nat}(A:m<=10)(S:JP):∃ o:List Nat,mZ [.int num,.int m] S=JV (oD o) S/\o.Perm (List.range m):=by
 have n:dh [.int m]=some ((List.range m).map λ(k:Nat)=>D.int k):=by have:=xh m (by omega) (by omega);simpa using this
 obtain⟨t,z,h,f⟩:=cU (u:=aE 3) (body:=gJ) (λi e d=>d=S/\i<=m/\∃ (l:List Nat) (a b:Option D),l.Perm (List.range i)/\e=[some (.int num),some (.int m),some (.lst (nD l)),a,b])
  ((List.range m).map λ(k:Nat)=>D.int k) 0 [some (.int num),some (.int m),some (.lst []),none,none] S ⟨rfl,by omega,[],none,none,.refl _,rfl⟩ (by
   rintro j y e d s ⟨rfl,g,l,a,b,c,rfl⟩;obtain⟨rfl,B⟩:=hU s;simp only[zero_add] at c g ⊢;have v:l.length=j:=by rw[c.length_eq,length_range]
   obtain⟨q,x,p⟩:=xr num (.int m) j (by omega) l v b d;refine⟨_,rfl,_,_,p,rfl,by omega,_,_,_,?_,rfl⟩;rw[List.range_succ];have w:(l.take q++[j]++l.drop q).Perm (j::l):=by have:=List.perm_middle (a:=j) (l₁:=l.take q) (l₂:=l.drop q);rw[take_append_drop] at this;rw[List.append_assoc];exact this
   exact w.trans ((List.Perm.cons j c).trans (List.perm_append_singleton j (List.range j)).symm))
 simp only[zero_add,length_map,length_range] at f;obtain⟨rfl,_,l,a,b,c,rfl⟩:=f;refine⟨l,aB rfl ?_,c⟩;have r:Mz [] (.lst [])=some (.lst []):=b7 (by simp);unfold rF;simp[r,n,h,ft]
theorem xO (ss:List Str)(o:ss.length<=6)(n:∀ x∈ss,di x=true)(i:ss.Pairwise λa b=>MX a b=true)(m:Nat)(q : 1<=m)(t:m<=10)(S:JP):∀ (fuel e:Nat) (num:Int),e<fuel->0<=num->∃ d,l0 fuel [.int num,.tup (ss.map .str),.int m,.int e] S=JV d S/\KQ m e d
 | 0,e,num,h,_=>absurd h (by omega)
 |fuel+1,e,num,h,h0=>by
  have r:cG (.int num) (.int 7)=some (.int (num % 7)):=bI (by decide);have k:ig (.int num) (.int 7)=some (.int (num / 7)):=jU (by decide) (by decide);have s:cG (.int (num / 7)) (.int m)=some (.int (num / 7 % m)):=bI (by omega);have v:=pp (num / 7) (show (0:Int)<m by omega);obtain⟨D,p,j⟩:=vz (num / 7) (ss:=ss) (by omega) S
  have leaf:(e=0∨num % 7=0)->∃ d,l0 (fuel+1) [.int num,.tup (ss.map .str),.int m,.int e] S=JV d S/\KQ m e d:=λl=>by
   refine⟨.tup [.str "names",.tup (D.map .str)],aB rfl ?_,.leaf (λx A=>n x (j.subset A)) (fx (i.sublist j)) (Nat.le_trans j.length_le o)⟩;unfold tY;by_cases f:e=0
   ·subst f;simp[k,p]
   have g:num % 7=0:=l.resolve_left f;simp[f,r,g,k,p]
  by_cases f:e=0
  ·exact leaf (.inl f)
  by_cases g:num % 7=0
  ·exact leaf (.inr g)
  have B:=jq num 1 S;have E:=jq num 2 S;obtain⟨dp,rfl⟩:∃ dp,e=dp+1:=⟨e-1,by omega⟩;obtain⟨x,ex,w⟩:=xO ss o n i m q t S fuel dp (Ln num 1) (by omega) (kP _ _);obtain⟨y,z,C⟩:=xO ss o n i m q t S fuel dp (Ln num 2) (by omega) (kP _ _);have u:¬ ((dp:Int)+1=0):=by omega
  obtain⟨c,l⟩:∃ c:Nat,num / 7 % m=c:=⟨(num / 7 % m).toNat,by omega⟩;rw[l] at s v;refine⟨.tup [.str "ask",.int c,x,y],aB rfl ?_,.ask (by omega) w C⟩;unfold tY;simp[u,r,g,B,E,ex,z,k,s,jb]
abbrev MV (LH:List (List Int)):List D:=LH.map La
theorem Fb (a b:List D)(h:a.length+b.length<=1000):bi (.tup a) (.tup b)=some (.tup (a++b)):=by rw[fM,if_pos (Nat.le_trans h (by decide))]
theorem nu (e:JJ D)(v:Int)(f:e=aI bi (ag 0) (aC (.tup [.int v])))(a:List (List Int))(h:∀ ts∈a,ts.length<=20)(ρ:JQ)(S:JP):bT (aE 0) dS e (MV a) (b8 1 [] ρ) S=some (MV (a.map λts=>ts++[v]),S):=by
 have q:=fK (u:=aE 0) (fe:=e) (λρ => ∃ y,ρ=[y]) (λd=>match d with | .tup b => .tup (b++[.int v]) |_ => .Kk) S (MV a) (b8 1 [] ρ) ⟨none,rfl⟩ (by
  rintro d hd ρ ⟨y,rfl⟩;obtain⟨ts,g,rfl⟩:=mem_map.mp hd;refine⟨_,rfl,⟨_,rfl⟩,?_⟩;have c:=Fb (ts.map D.int) [.int v] (by have:=h ts g;simp;omega);subst f
  simp[c])
 rw[q];congr 2;unfold MV;rw[map_map,map_map];refine map_congr_left λts _=>?_;simp[La]
theorem uP (m:D)(k:Nat)(a:List (List Int))(d:a.length<=2000)(h:∀ ts∈a,ts.length<=20)(z:Option D)(S:JP):fF [some m,some (.lst (MV a)),z] S=JV (.next [some m,some (.lst (MV ((a.map λts=>ts++[0])++(a.map λts=>ts++[1])))),z]) S:=by
 have b:=nu lN 0 rfl a h [some m,some (.lst (MV a)),z] S;have c:=nu lL 1 rfl a h [some m,some (.lst (MV a)),z] S;have ad:bi (.lst (MV (a.map λts=>ts++[0]))) (.lst (MV (a.map λts=>ts++[1])))=some (.lst (MV ((a.map λts=>ts++[0])++(a.map λts=>ts++[1])))):=by rw[mV,if_pos (by simp only[MV,length_map];exact Nat.le_trans (show _<=4000 by omega) (by decide))];unfold MV;rw[← map_append]
 unfold fF;simp[cg,b,c,ad,-map_map,-map_append]
theorem wB:∀ (b:List (List Int)),(∀ ts∈b,ts≠[])->wE tupI (MV b)=some b
 |[],_=>rfl
 |ts::b,h=>by
  have c:=wB b λt d=>h t (mem_cons_of_mem _ d)
  have e:tupI (La ts)=some ts:=by
   unfold tupI La;simp only[K7];cases ts with
   |nil=>exact absurd rfl (h [] (mem_cons_self ..))
   |cons a r=>rfl
  show wE tupI (La ts::MV b)=_;rw[wE,e,bind_some,c];rfl
def N9:Nat->List (List Int)
 | 0=>[[]]
 |m+1=>((N9 m).map λts=>ts++[0])++((N9 m).map λts=>ts++[1])
theorem yo:∀ m,(N9 m).length=2 ^ m
 | 0=>rfl
 |m+1=>by rw[N9,List.length_append,length_map,length_map,yo m,pow_succ];omega
theorem oO:∀ m,∀ ts∈N9 m,iF m ts
 | 0,ts,h=>by rw[mem_singleton.mp h];exact⟨rfl,λx hx=>by cases hx⟩
 |m+1,ts,h=>by
  have go:∀ {t:List Int}{b:Int},t∈N9 m->(b=0∨b=1)->iF (m+1) (t++[b]):=λ{t b} a c=>by
   refine⟨by rw[List.length_append,(oO m t a).1];rfl,λx hx=>?_⟩;rcases mem_append.mp hx with hx |hx
   ·exact(oO m t a).2 x hx
   rw[mem_singleton.mp hx];exact c
  rcases mem_append.mp h with h |h
  ·obtain⟨t,a,rfl⟩:=mem_map.mp h;exact go a (.inl rfl)
  obtain⟨t,a,rfl⟩:=mem_map.mp h;exact go a (.inr rfl)
theorem yp:∀ m ts,iF m ts->ts∈N9 m
 | 0,ts,h=>by rw[length_eq_zero_iff.mp h.1];exact mem_singleton.mpr rfl
 |m+1,ts,h=>by
  obtain⟨a,b⟩:=h;have c:ts≠[]:=by intro z;rw[z] at a;simp at a
  have e:=List.dropLast_concat_getLast c;have d:=yp m ts.dropLast ⟨by rw[List.length_dropLast,a];rfl,λx f=>b x (List.dropLast_subset _ f)⟩;rw[N9,mem_append];rcases b _ (List.getLast_mem c) with h0 |h0
  ·exact .inl (mem_map.mpr ⟨_,d,by rw[← h0];exact e⟩)
  exact .inr (mem_map.mpr ⟨_,d,by rw[← h0];exact e⟩)
def bits (n:Nat):List Int:=[n / 32 % 2,n / 16 % 2,n / 8 % 2,n / 4 % 2,n / 2 % 2,n % 2].map λ(k:Nat)=>(k:Int)
theorem AU {m:Nat}(a : 1<=m)(b:m<=6):Spec (pB λ(x y:Int)=>decide (x<y)) (N9 m):=by
 have:m=1∨m=2∨m=3∨m=4∨m=5∨m=6:=by omega
 rcases this with rfl |rfl |rfl |rfl |rfl |rfl
 ·exact⟨_,_,_,rfl,by decide,by decide,.inl (by decide)⟩
 ·exact⟨_,_,_,rfl,by decide,by decide,.inl (by decide)⟩
 ·exact⟨_,_,_,rfl,by decide,by decide,.inl (by decide)⟩
 ·exact⟨_,_,_,rfl,by decide,by decide,.inl (by decide)⟩
 ·exact⟨_,_,_,rfl,by decide,by decide,.inl (by decide)⟩
 exact⟨_,_,_,rfl,by decide,by decide,.inr ⟨by decide,_,_,_,_,rfl,by decide,by decide,(List.range 32).map λi=>bits (2*i),(List.range 32).map λi=>bits (2*i+1),by decide,by decide,by decide,by decide,by decide,by decide,by decide,by decide⟩⟩
theorem zH {m:Nat}(p : 1<=m)(n:m<=6)(S:JP):∃ c:List (List Int),iG [.int m] S=JV (.lst (MV c)) S/\(∀ ts∈c,iF m ts)/\∀ ts,iF m ts->ts∈c:=by
 have r:dh [.int m]=some ((List.range m).map λ(k:Nat)=>D.int k):=by have:=xh m (by omega) (by omega);simpa using this
 have o:∀ j,j<=6->(N9 j).length<=64:=λj e=>by rw[yo];exact Nat.pow_le_pow_right (by decide) e
 obtain⟨t,w,q,l⟩:=cU (u:=aE 2) (body:=fF) (λi f d=>d=S/\∃ b:Option D,f=[some (.int m),some (.lst (MV (N9 i))),b])
  ((List.range m).map λ(k:Nat)=>D.int k) 0 [some (.int m),some (.lst [.tup []]),none] S ⟨rfl,none,rfl⟩ (by
   rintro j v f d e ⟨rfl,b,rfl⟩;obtain⟨rfl,x⟩:=hU e;simp only[zero_add];have s:=uP (.int m) j (N9 j) (by have:=o j (by omega);omega) (λts a=>by have:=(oO j ts a).1;omega) (some (.int j)) d
   exact⟨_,rfl,_,_,s,rfl,_,rfl⟩)
 simp only[zero_add,length_map,length_range] at l;obtain⟨rfl,b,rfl⟩:=l;have es:sO [.lst (MV (N9 m))]=some (.lst (MV ((N9 m).mergeSort xD))):=by show (wE tupI (MV (N9 m))).bind _=_;rw[wB (N9 m) λts a h=>by have:=(oO m ts a).1;rw[h] at this;simp at this;omega,bind_some];exact if_pos ⟨by simp only[MV,length_map];exact Nat.le_trans (o m n) (by decide),AU p n⟩
 have g:((N9 m).mergeSort xD).Perm (N9 m):=mergeSort_perm _ _;refine⟨(N9 m).mergeSort xD,aB rfl ?_,λts a=>oO m ts (g.mem_iff.mp a),λts a=>g.mem_iff.mpr (yp m ts a)⟩;unfold pM;simp[r,q,es,-map_map]
theorem AH {x:Str}(b:lets x=true)(S:JP)(ρ:JQ):bT (aE 0) cY fg (x.cps.toList.map λc=>D.str ⟨#[c]⟩) (b8 1 [] ρ) S=some ([],S):=by
 have q:=f8 (u:=aE 0) (gt:=cY) (fe:=fg) (λρ => ∃ y,ρ=[y]) (λ_=>false) id S (x.cps.toList.map λc=>D.str ⟨#[c]⟩) (b8 1 [] ρ) ⟨none,rfl⟩ (by
  rintro d hd ρ ⟨y,rfl⟩;obtain⟨c,a,rfl⟩:=mem_map.mp hd;refine⟨_,rfl,⟨_,rfl⟩,?_,λh=>by cases h⟩;have e:=Cs c;rw[all_eq_true.mp b c a] at e;simp only[Bool.not_true] at e;simp[cY,tP,findD,P0];show JV (decide (Txt.find Np _<0)) S=_
  rw[e])
 rw[q];simp
theorem x_ {ss:List Str}(o:∀ x∈ss,di x=true)(n:QF ss=true)(S:JP){j:Nat}{x:Str}(b:ss[j]?=some x):cZ [some (.tup (ss.map .str)),some (.int j),some (.str x)] S=JV (.next [some (.tup (ss.map .str)),some (.int j),some (.str x)]) S:=by
 have a:=o x (mem_of_getElem? b);unfold di at a;rw[and_eq_true,and_eq_true,and_eq_true] at a;obtain⟨m,r,t,p⟩:=a
 have g:(decide (("names":Str)=x) ||(decide (("ask":Str)=x) ||decide (("end":Str)=x)))=false:=by
  have:kept x=false:=by simpa using m
  unfold kept at this;rw[← this];simp[eq_comm]
 have f:=AH p S;have d:Mv (.lst []) (.lst [])=some (.bl false):=DY rfl;have i : 0<x.length:=of_decide_eq_true r;have c:(x.length:Int)<9:=by have:=of_decide_eq_true t;omega
 have e:(0:Int)<x.length:=by omega
 have l:(j=0/\¬ (0:Int)<j)∨((0:Int)<j/\∃ y,Mu (ss.map D.str) ((j:Int)-1)=some (.str y)/\MX y x=true):=by
  rcases Nat.eq_zero_or_pos j with rfl |h
  ·exact .inl ⟨rfl,by omega⟩
  have v:=(List.getElem?_eq_some_iff.mp b).1;have s:ss[j-1]?=some ss[j-1]:=List.getElem?_eq_getElem (by omega);refine .inr ⟨by omega,ss[j-1],?_,?_⟩
  ·have:(ss.map D.str)[j-1]?=some (.str ss[j-1]):=by rw[getElem?_map,s];rfl
   have:=bB this;rw[show ((j-1:Nat):Int)=(j:Int)-1 by omega] at this;exact this
  have:=pairwise_iff_getElem.mp (cR n) (j-1) j (by omega) v (by omega);rwa [(List.getElem?_eq_some_iff.mp b).2] at this
 unfold cZ;rcases l with ⟨rfl,h⟩ |⟨h,y,k,u⟩
 ·simp[iU,nK,n6,P0,bW,Uc,i,e,c,Ol,bA,W6,g,cg,f,d]
 have q : 0<j:=by omega
 simp[iU,nK,n6,P0,bW,Uc,jb,Ks,QO,i,e,c,h,q,k,u,Ol,bA,W6,g,cg,f,d]
theorem xw {ss:List Str}(i:∀ x∈ss,di x=true)(h:QF ss=true)(S:JP):gS [.tup (ss.map .str)] S=JV (.bl true) S:=by
 refine aB rfl ?_;unfold kj
 obtain⟨m,c,k,rfl,a,b,rfl⟩:=cU (u:=ld 2 (bo (aE 1) (bo (aE 2) g0))) (body:=cZ) (λ_ e c=>c=S/\∃ a b,e=[some (.tup (ss.map .str)),a,b]) (cV 0 (ss.map .str)) 0 [some (.tup (ss.map .str)),none,none] S ⟨rfl,none,none,rfl⟩ (by
  rintro j d e c f ⟨rfl,a,b,rfl⟩;rw[fJ,getElem?_map] at f;obtain⟨x,l,rfl⟩:=map_eq_some_iff.mp f;obtain⟨y,g,rfl⟩:=map_eq_some_iff.mp l;rw[zero_add]
  exact⟨[some (.tup (ss.map .str)),some (.int j),some (.str y)],rfl,_,c,x_ i h c g,rfl,_,_,rfl⟩)
 simp[iU,nK,n6,pS,k,-map_map]
theorem mD (i n:Int)(a : 0<=i)(b:i<n)(S:JP):gg [.int i,.int (n-1)] S=JV (.bl true) S:=by
 refine aB rfl ?_;unfold pO;have e:i<=n-1:=by omega
 simp[iU,nK,n6,Ub,a,e]
abbrev Mc (R:List Row):D:=.tup (R.map az)
abbrev aK (t:Tr):D:=Mc (enc (po t []))
theorem Bn (r:Row):toPy (az r)=some (eV r):=by
 cases r with
 |leaf a=>simp[az,eV,toPy,b6,fP]
 |ask c n y=>simp[az,eV,toPy,b6]
theorem qU (r:Row):(eV r).depth<=2:=by
 cases r with
 |leaf a=>simp[eV,PyData.depth,PyData.depthAll,kQ]
 |ask c n y=>simp[eV,PyData.depth,PyData.depthAll]
theorem jL:∀ R:List Row,b6 (R.map az)=some (R.map eV)
 |[]=>rfl
 |r::R=>by rw[map_cons,b6,Bn,jL R];rfl
theorem kH:∀ R:List Row,PyData.depthAll (R.map eV)<=2
 |[]=>by simp[PyData.depthAll]
 |r::R=>by
  have b:=qU r;have a:=kH R;rw[map_cons,PyData.depthAll];omega
theorem o9:∀ R Q:List Row,PyData.eqvAll (R.map eV) (Q.map eV)=decide (R=Q)
 |[],[]=>rfl
 |[],q::Q=>by simp[PyData.eqvAll]
 |r::R,[]=>by simp[PyData.eqvAll]
 |r::R,q::Q=>by
  rw[map_cons,map_cons,PyData.eqvAll,o9 R Q,ti];by_cases h:r=q<;>by_cases a:R=Q<;>simp[h,a]
theorem HS (R Q:List Row):Mv (Mc R) (Mc Q)=some (.bl (!decide (R=Q))):=by
 have hd:=kH R;have a:toPy (Mc R)=some (.tuple (R.map eV)):=by rw[toPy,jL];rfl
 have b:toPy (Mc Q)=some (.tuple (Q.map eV)):=by rw[toPy,jL];rfl
 unfold Mv;rw[a,b];simp only[PyData.eqv,o9];rw[if_pos (by simp only[PyData.depth];omega)]
theorem Cp (R Q:List Row):Lk (Mc R) (Mc Q)=some (.bl (decide (R=Q))):=by
 have hd:=kH R;have a:toPy (Mc R)=some (.tuple (R.map eV)):=by rw[toPy,jL];rfl
 have b:toPy (Mc Q)=some (.tuple (Q.map eV)):=by rw[toPy,jL];rfl
 unfold Lk;rw[a,b];simp only[PyData.eqv,o9];rw[if_pos (by simp only[PyData.depth];omega)]
theorem Fy (neg:Bool)(r:Row)(R:List Row)(S:JP):Ol neg (az r) (Mc R) S=some (.bl (neg != decide (r∈R))):=by
 have hd:=qU r
 have e:pJ (az r) (Mc R)=some (decide (r∈R)):=by
  unfold pJ;rw[Bn];simp only[sT,bind_some,jL];rw[if_pos (by omega)];congr 1;rw[any_map]
  induction R with
  |nil=>rfl
  |cons q R a =>
   rw[any_cons,a,Function.comp,ti];by_cases h:q=r
   ·subst h;simp
   have b:¬ r=q:=λz=>h z.symm;simp[h,b]
 unfold Ol;rw[if_neg (by rw[show bA (Mc R)=false from rfl];decide)];cases neg<;>simp[inD,mE,e]
theorem ph:∀ o:List Nat,cw (o.map λ(c:Nat)=>D.int c)=some (o.map λ(c:Nat)=>(c:Int))
 |[]=>rfl
 |c::o=>by rw[map_cons,cw,ph o];rfl
theorem lay_ints:∀ (l:List Int),PyData.canLayAll0 (l.map .int)=true/\PyData.depthAll (l.map .int)=0/\((∀ i∈l,i.natAbs<=16)->PyData.weightAll (l.map .int)<=6*l.length)
 |[]=>⟨rfl,rfl,λ_=>le_refl _⟩
 |i::l=>by
  obtain⟨j,d,g⟩:=lay_ints l;refine⟨by rw[map_cons,PyData.canLayAll0,j];rfl,by rw[map_cons,PyData.depthAll,d];rfl,λh=>?_⟩;have a:=g λx e=>h x (mem_cons_of_mem _ e);have b:=h i (mem_cons_self ..)
  have c:PyData.weight (.int i)<=5:=by
   unfold PyData.weight;split
   ·omega
   have:i.natAbs.log2<5:=by refine(Nat.log2_lt ?_).mpr (by omega);rename_i f;simp at f;omega
   omega
  rw[map_cons,PyData.weightAll,length_cons];omega
theorem Eg {o:List Nat}(m:o.length<=10)(k:∀ c∈o,c<=16){c:Nat}(d:c∈o):pH (.lst (o.map λ(c:Nat)=>D.int c)) (.int c)=some (.int (o.idxOf c:Nat)):=by
 simp only[pH];rw[ph,bind_some];obtain⟨l,f,b⟩:=lay_ints (o.map λ(c:Nat)=>(c:Int))
 have b:=b (by
  intro i g;obtain⟨x,j,rfl⟩:=mem_map.mp g
  have:=k x j;omega)
 rw[length_map] at b;have e:(o.map λ(c:Nat)=>(c:Int)).idxOf (c:Int)=o.idxOf c:=iz (λ(c:Nat)=>(c:Int)) c o λa _ h=>by omega
 rw[if_pos ⟨mem_map.mpr ⟨c,d,rfl⟩,by
  unfold PyData.layable0;rw[and_eq_true,and_eq_true]
  refine⟨⟨by rw[PyData.canLay0];exact l,decide_eq_true (by rw[PyData.depth,f];decide)⟩,decide_eq_true (by rw[PyData.weight];omega)⟩⟩,e]
theorem vm (neg:Bool)(c:Nat)(o:List Nat)(S:JP):Ol neg (.int c) (.tup (o.map λ(c:Nat)=>D.int c)) S=some (.bl (neg != decide (c∈o))):=by
 have e:pJ (.int c) (.tup (o.map λ(c:Nat)=>D.int c))=some (decide (c∈o)):=by
  have ep:b6 (o.map λ(c:Nat)=>D.int c)=some (o.map λ(c:Nat)=>PyData.int c):=by
   induction o with
   |nil=>rfl
   |cons x o a=>rw[map_cons,b6,a];rfl
  unfold pJ;simp only[toPy,sT,bind_some,ep];rw[if_pos (by simp[PyData.depth])];congr 1;rw[any_map];clear ep
  induction o with
  |nil=>rfl
  |cons q R a =>
   rw[any_cons,a,Function.comp];by_cases h:q=c
   ·subst h;simp[PyData.eqv]
   have d:¬ c=q:=λz=>h z.symm;have b:¬ (q:Int)=c:=by omega
   simp[PyData.eqv,b,d]
 unfold Ol;rw[if_neg (by rw[show bA (.tup _)=false from rfl];decide)];cases neg<;>simp[inD,mE,e]
theorem r0 (r:Row)(S:JP):Ks (az r) (.int 0) S=some (match r with | .leaf _ => .str "names" | .ask c _ _ => .int c):=by cases r<;>rfl
theorem pi (r:Row):Mv (match r with | .leaf _=>D.str "names" | .ask c _ _=>D.int c) (.str "names")=some (.bl (match r with | .leaf _=>false | .ask _ _ _=>true)):=by cases r<;>simp[Mv,toPy,PyData.eqv,PyData.depth]
theorem Ch {o:List Nat}(nd:o.Nodup){R:List Row}{c:Nat}(B:c∈o){gs:List Nat}(r:∀ g∈gs,g<R.length/\o.idxOf c<J3.pl o R g)(w:Wr o R)(ρ:JQ)(p : ρ[4]?=some (some (.tup ((o.drop (o.idxOf c+1)).map λ(c:Nat)=>D.int c))))(s : ρ[0]?=some (some (Mc R)))(S:JP) :
  bT (aE 0) dB fC (gs.map λ(g:Nat)=>D.int g) (b8 1 [4,0] ρ) S=some ([],S):=by
 have t:b8 1 [4,0] ρ=[none,some (.tup ((o.drop (o.idxOf c+1)).map λ(c:Nat)=>D.int c)),some (Mc R)]:=by simp[b8,p,s]
 rw[t]
 have q:=f8 (u:=aE 0) (gt:=dB) (fe:=fC) (λρ => ∃ y,ρ=[y,some (.tup ((o.drop (o.idxOf c+1)).map λ(c:Nat)=>D.int c)),some (Mc R)]) (λ_=>false) id S (gs.map λ(g:Nat)=>D.int g) [none,some (.tup ((o.drop (o.idxOf c+1)).map λ(c:Nat)=>D.int c)),some (Mc R)] ⟨none,rfl⟩ (by
  rintro d hd ρ ⟨y,rfl⟩;obtain⟨g,z,rfl⟩:=mem_map.mp hd;obtain⟨x,j⟩:=r g z;have e:R[g]?=some R[g]:=List.getElem?_eq_getElem x;have f:=fB S e;have i:=pi R[g];have b:=J3.r0 R[g] S;refine⟨[some (.int g),some (.tup ((o.drop (o.idxOf c+1)).map λ(c:Nat)=>D.int c)),some (Mc R)],rfl,⟨_,rfl⟩,?_,λh=>by cases h⟩;unfold dB;have l:=w g _ e;cases hr:R[g] with
  |leaf A =>
   rw[hr] at f i b;simp[f,b,i,-map_map]
  |ask a n E =>
   rw[hr] at f i b l e;have C:o.idxOf c<o.idxOf a:=by unfold J3.pl at j;rw[e] at j;exact j
   have v:a∈o.drop (o.idxOf c+1):=by rw[List.mem_iff_getElem?];have m:=List.idxOf_lt_length_of_mem l.1;refine⟨o.idxOf a-(o.idxOf c+1),?_⟩;rw[getElem?_drop,show o.idxOf c+1+(o.idxOf a-(o.idxOf c+1))=o.idxOf a by omega,List.getElem?_eq_getElem m];simp
   have k:=vm true a (o.drop (o.idxOf c+1)) S;rw[decide_eq_true v] at k;simp only[map_drop] at k ⊢
   simp[f,b,i,k,-map_map,-map_drop])
 rw[q];simp
theorem vO {o:List Nat}(N:o.Nodup)(J:o.length<=10)(s:∀ c∈o,c<o.length){R:List Row}(nd:R.Nodup)(w:Wr o R){j:Nat}{r:Row}(d:R[j]?=some r)(S:JP):kW [Mc R,.int j,oD o] S=JV (.bl true) S:=by
 have t:Ks (Mc R) (.int j) S=some (az r):=fB S d;have Y:=(List.getElem?_eq_some_iff.mp d).1;have u:jr (R.map az) none (some (j:Int))=(R.take j).map az:=by rw[ub,map_take]
 have f:r∉R.take j:=by
  intro h;obtain⟨i,b⟩:=getElem?_of_mem h;rw[getElem?_take] at b;split at b
  ·rename_i X;have:=(List.getElem?_inj (by omega) nd).mp (b.trans d.symm);omega
  cases b
 have m:=Fy false r (R.take j) S;rw[decide_eq_false f] at m;refine aB rfl ?_;unfold pQ;have l:=w j r d;cases r with
 |leaf a =>
  have k:=xw l.1 l.2 S;have e:=J3.r0 (.leaf a) S;have x1:Ks (az (.leaf a)) (.int 1) S=some (.tup (a.map .str)):=rfl;have H:bW [az (.leaf a)]=some (.int 2):=rfl;have it:iU "tuple" (az (.leaf a))=some (.bl true):=rfl;have C:Lk (.str "names") (.str "names")=some (.bl true):=by simp[Lk,toPy,PyData.eqv,PyData.depth]
  have is:iU "str" (.str "names")=some (.bl true):=rfl;simp[t,it,H,Mi,qt,u,m,e,is,C,x1,k,-map_map,-map_take]
 |ask c n y =>
  obtain⟨q,U,T,M,F,Q⟩:=l;have e:=J3.r0 (.ask c n y) S;have x1:Ks (az (.ask c n y)) (.int 1) S=some (.int n):=rfl;have x2:Ks (az (.ask c n y)) (.int 2) S=some (.int y):=rfl;have E:bW [az (.ask c n y)]=some (.int 3):=rfl;have lo:bW [oD o]=some (.int o.length):=by simp[bW]
  have it:iU "tuple" (az (.ask c n y))=some (.bl true):=rfl;have is:iU "str" (.int c)=some (.bl false):=rfl;have K:=mD c o.length (by omega) (by have:=s c q;omega) S;have x:=mD n j (by omega) (by omega) S;have v:=mD y j (by omega) (by omega) S;have p:¬ (n:Int)=y:=by omega
  have z:Ea [oD o]=some (.lst (o.map λ(c:Nat)=>D.int c)):=rfl;have A:=Eg J (λc G=>by have:=s c G;omega) q;have L:tQ (.lst (o.map λ(c:Nat)=>D.int c))=true:=rfl;have B:Mi (oD o) (some ((o.idxOf c:Int)+1)) none=some (.tup ((o.drop (o.idxOf c+1)).map λ(c:Nat)=>D.int c)):=by rw[show (o.idxOf c:Int)+1=((o.idxOf c+1:Nat):Int) from rfl];simp only[Mi];rw[uc,map_drop]
  have O:Mi (az (.ask c n y)) (some 1) none=some (.tup [.int n,.int y]):=rfl
  have gs:bT (aE 0) dB fC [.int n,.int y] _ S=_:=Ch N q (gs:=[n,y]) (by
   intro g hg;rcases mem_cons.mp hg with rfl |hg
   ·exact⟨by omega,M⟩
   rw[mem_singleton.mp hg];exact⟨by omega,F⟩) w [some (Mc R),some (.int j),some (oD o),some (az (.ask c n y)),some (.tup ((o.drop (o.idxOf c+1)).map λ(c:Nat)=>D.int c))] rfl rfl S
  have k:Lk (.lst []) (.lst [])=some (.bl true):=En rfl;generalize W:az (.ask c n y)=rd at *
  generalize V:(.tup ((o.drop (o.idxOf c+1)).map λ(c:Nat)=>D.int c):D)=be at *
  generalize Z:oD o=od at *
  generalize Qa:(.lst (o.map λ(c:Nat)=>D.int c):D)=ol at *
  have st:Mi (Mc R) none (some (j:Int))=some (Mc (R.take j)):=by simp only[Mi,u]
  generalize P:Mc (R.take j)=tk at *
  generalize I:Mc R=rD at *
  simp[t,it,E,st,qt,m,e,is,K,lo,jb,x1,x2,x,v,p,z,L,A,B,O,cg];simp[gs,k]
theorem pI {α:Type}[DecidableEq α]{l:List α}{a b : α}(d:a∈l)(e:b∈l)(h:l.idxOf a=l.idxOf b):a=b:=by
 have i:=List.idxOf_lt_length_of_mem d;have g:=List.idxOf_lt_length_of_mem e;have c:l[l.idxOf a]?=some a:=by rw[List.getElem?_eq_getElem i];simp
 have f:l[l.idxOf b]?=some b:=by rw[List.getElem?_eq_getElem g];simp
 rw[h,f] at c;exact(Option.some.inj c).symm
theorem Aw {P:List Tr}(nd:P.Nodup)(d:QH P):(enc P).Nodup:=by
 unfold enc List.Nodup;rw[pairwise_map];refine List.Pairwise.imp_of_mem ?_ nd;intro a b e f i h;refine i ?_;cases a with
 |leaf s=>cases b with
  |leaf t=>simp only[v5,Row.leaf.injEq] at h;rw[h]
  |node=>simp[v5] at h
 |node c n y=>cases b with
  |leaf t=>simp[v5] at h
  |node l m k =>
   simp only[v5,Row.ask.injEq] at h;obtain⟨rfl,g,j⟩:=h;rw[pI (d _ _ _ e).1 (d _ _ _ f).1 g,pI (d _ _ _ e).2 (d _ _ _ f).2 j]
def Pw:Tr->Nat
 | .leaf _ => 0
 | .node _ n y=>max (Pw n) (Pw y)+1
theorem xL {o:List Nat}:∀ {t:Tr},Ord o t->Pw t+tp o t<=o.length
 | .leaf _,_=>by simp[Pw,tp]
 | .node c n y,h=>by
  obtain⟨k,f,g,j,i,_⟩:=h;have a:=xL f;have b:=xL g;have e:tp o (.node c n y)=o.idxOf c:=rfl;have d:Pw (.node c n y)=max (Pw n) (Pw y)+1:=rfl;rw[e,d];omega
abbrev nL (l:List Nat):D:=.lst (l.map λ(c:Nat)=>D.int c)
theorem Ho (neg:Bool)(c:Nat)(o:List Nat)(S:JP):Ol neg (.int c) (nL o) S=some (.bl (neg != decide (c∈o))):=by have q:=vm neg c o S;unfold Ol at q ⊢;rw[if_neg (by rw[show bA (.tup _)=false from rfl];decide)] at q;rw[if_neg (by rw[show bA (.lst _)=false from rfl];decide)];exact q
theorem Hv (l:List Nat):Lk (nL l) (nL l)=some (.bl true):=by have q:=Cw (l.map λ(c:Nat)=>(c:Int)) (l.map λ(c:Nat)=>(c:Int));rw[map_map,decide_eq_true rfl] at q;exact q
theorem rO (rec:JO)(fs gs:List Nat)(a b c e:Option D)(S:JP):bT (aE 0) (fQ rec) (iB rec) (gs.map λ(g:Nat)=>D.int g) (b8 1 [3] [a,b,c,some (nL fs),e]) S=some ((gs.filter λg=>decide (g∉fs)).map λ(g:Nat)=>D.int g,S):=by
 have j:b8 1 [3] [a,b,c,some (nL fs),e]=[none,some (nL fs)]:=rfl;rw[j]
 have q:=f8 (u:=aE 0) (gt:=fQ rec) (fe:=iB rec) (λf => ∃ y,f=[y,some (nL fs)]) (λd=>match d with | .int i=>decide (i.toNat∉fs) |_=>false) id S (gs.map λ(g:Nat)=>D.int g) [none,some (nL fs)] ⟨none,rfl⟩ (by
  rintro d hd f ⟨y,rfl⟩;obtain⟨g,k,rfl⟩:=mem_map.mp hd;refine⟨[some (.int g),some (nL fs)],rfl,⟨_,rfl⟩,?_,λh=>rfl⟩;have h:=Ho true g fs S;unfold fQ;simp only[Hz,ak,Hw,List.getElem?_cons_zero,getElem?_cons_succ]
  simp[h,-map_map])
 rw[q,map_id,filter_map];rfl
theorem sL {P:List Tr}(b:QH P){s x:Tr}(c:s∈P)(a:x∈po s []):x∈P:=by
 rcases iq s [] x a with h |h
 ·cases h
 exact b.sub h c
abbrev lD (P:List Tr)(s:Tr):List Nat:=(po s []).map λx=>P.idxOf x
theorem CA {P:List Tr}{s:Tr}(h:s∈P):(enc P)[P.idxOf s]?=some (v5 P s):=by have a:=List.idxOf_lt_length_of_mem h;unfold enc;rw[getElem?_map,List.getElem?_eq_getElem a];simp
theorem Ec {P:List Tr}(d:QH P){c:Nat}{n y:Tr}(f:n∈P)(i:y∈P):lD P (.node c n y)=lD P n++((lD P y).filter λg=>decide (g∉lD P n))++[P.idxOf (.node c n y)]:=by
 unfold lD;rw[eB (by simp),jM y (fH n uf),map_append,map_append,filter_map];congr 2;congr 1;refine List.filter_congr λx j=>?_;simp only[Function.comp,decide_eq_decide];constructor
 ·intro h a;obtain⟨z,b,e⟩:=mem_map.mp a;rw[pI (sL d f b) (sL d i j) e] at b;exact h b
 exact λh a=>h (mem_map.mpr ⟨x,a,rfl⟩)
theorem ux (a b:List Nat)(h:a.length+b.length<=4000):bi (nL a) (nL b)=some (nL (a++b)):=by simp only[bi,length_map,map_append];rw[if_pos (by simp only[sizeLine];omega)];simp
theorem qY {α:Type}[DecidableEq α]:∀ {l P:List α},l.Nodup->(∀ x∈l,x∈P)->l.length<=P.length
 |[],P,_,_=>zero_le _
 |a::l,P,nd,h=>by
  obtain⟨f,d⟩:=nodup_cons.mp nd;have b:=h a (mem_cons_self ..);have e:=qY (P:=P.erase a) d λx c=>(List.mem_erase_of_ne (by rintro rfl;exact f c)).mpr (h x (mem_cons_of_mem _ c));rw[List.length_erase_of_mem b] at e;have:=List.length_pos_of_mem b;rw[length_cons];omega
theorem B7 {P:List Tr}(nd:P.Nodup)(b:QH P){s:Tr}(c:s∈P):(lD P s).length<=P.length:=by unfold lD;rw[length_map];exact qY (ji s nodup_nil) λx a=>sL b c a
theorem tK {P:List Tr}(nd:P.Nodup)(j:QH P)(x:P.length<=1500)(S:JP):∀ (s:Tr) (fuel:Nat),s∈P->Pw s<fuel->cX fuel [Mc (enc P),.int (P.idxOf s)] S=JV (nL (lD P s)) S
 | .leaf e,fuel,l,G=>by
  obtain⟨fuel,rfl⟩:∃ f,fuel=f+1:=⟨fuel-1,by omega⟩;have u:Ks (Mc (enc P)) (.int (P.idxOf (.leaf e))) S=some (az (.leaf e)):=fB S (CA l);have m:=J3.r0 (.leaf e) S;have v:=pi (.leaf e);have F:lD P (.leaf e)=[P.idxOf (.leaf e)]:=by unfold lD;rw[eC (by simp)];rfl
  have ad:∀ i:Nat,bi (.lst []) (.lst [.int i])=some (nL [i]):=λi=>ux [] [i] (by simp);have ad:=ad (P.idxOf (.leaf e));rw[F];refine aB rfl ?_;unfold pP;generalize Mc (enc P)=rd at *
  generalize az (.leaf e)=rw at *
  generalize nL [P.idxOf (.leaf e)]=rr at *
  generalize P.idxOf (.leaf e)=ii at *
  simp[u,m,v,ad]
 | .node c n y,fuel,l,G=>by
  obtain⟨fuel,rfl⟩:∃ f,fuel=f+1:=⟨fuel-1,by omega⟩;obtain⟨o,p⟩:=j _ _ _ l;have R:Pw (.node c n y)=max (Pw n) (Pw y)+1:=rfl;have K:=tK nd j x S n fuel o (by omega);have M:=tK nd j x S y fuel p (by omega);have u:Ks (Mc (enc P)) (.int (P.idxOf (.node c n y))) S=some (az (.ask c (P.idxOf n) (P.idxOf y))):=fB S (CA l);have m:=J3.r0 (.ask c (P.idxOf n) (P.idxOf y)) S;have v:=pi (.ask c (P.idxOf n) (P.idxOf y));have C:Mi (az (.ask c (P.idxOf n) (P.idxOf y))) (some 1) none=some (.tup [.int (P.idxOf n),.int (P.idxOf y)]):=rfl;have Q:=B7 nd j o;have O:=B7 nd j p;have lf:=List.length_filter_le (λg=>decide (g∉lD P n)) (lD P y);rw[Ec j o p];generalize lD P n=ln at *
  generalize lD P y=k at *
  have h:=rO (cX fuel) [] ln;have t:=rO (cX fuel) ln k;rw[List.filter_eq_self.mpr (by simp)] at h;generalize k.filter (λg=>decide (g∉ln))=lz at *
  have N:bi (.lst []) (nL ln)=some (nL ln):=ux [] ln (by simp;omega);have E:bi (nL ln) (nL lz)=some (nL (ln++lz)):=ux _ _ (by omega);have r:∀ i:Nat,bi (nL (ln++lz)) (.lst [.int i])=some (nL (ln++lz++[i])):=λi=>ux _ [i] (by simp;omega);have r:=r (P.idxOf (.node c n y));have I:cg (nL ln)=some (ln.map λ(g:Nat)=>D.int g):=rfl;have L:cg (nL k)=some (k.map λ(g:Nat)=>D.int g):=rfl;refine aB rfl ?_;unfold pP;generalize Mc (enc P)=rd at *
  generalize az (.ask c (P.idxOf n) (P.idxOf y))=rw at *
  generalize P.idxOf (.node c n y)=ii at *
  generalize nL (ln++lz++[ii])=rr at *
  have B:f9 (cX fuel) [some rd,some (.int ii),some rw,some (.lst []),some (.int (P.idxOf n))] S=JV (.next [some rd,some (.int ii),some rw,some (nL ln),some (.int (P.idxOf n))]) S:=by unfold f9;have h:=h (some rd) (some (.int ii)) (some rw) (some (.int (P.idxOf n))) S;have h:bT (aE 0) (fQ (cX fuel)) (iB (cX fuel)) (ln.map λ(g:Nat)=>D.int g) (b8 1 [3] [some rd,some (.int ii),some rw,some (.lst []),some (.int (P.idxOf n))]) S=_:=h;simp[K,I,h,N]
  have J:f9 (cX fuel) [some rd,some (.int ii),some rw,some (nL ln),some (.int (P.idxOf y))] S=JV (.next [some rd,some (.int ii),some rw,some (nL (ln++lz)),some (.int (P.idxOf y))]) S:=by unfold f9;have t:=t (some rd) (some (.int ii)) (some rw) (some (.int (P.idxOf y))) S;simp[M,L,t,E]
  have A:∀ (d z:D) (a b c:Option D),aE 4 d [a,b,c,some z,none]=some [a,b,c,some z,some d]:=λ_ _ _ _ _=>rfl;have H:∀ (d z w:D) (a b c:Option D),aE 4 d [a,b,c,some z,some w]=some [a,b,c,some z,some d]:=λ_ _ _ _ _ _=>rfl;have q:cg (.tup [.int (P.idxOf n),.int (P.idxOf y)])=some [.int (P.idxOf n),.int (P.idxOf y)]:=rfl;generalize nL (ln++lz)=l3 at *
  generalize nL ln=l4 at *
  simp[u,m,v,C,qt,q,h8,A,H,B,J,r]
theorem DG:∀ (t:Tr),∃ X,po t []=X++[t]
 | .leaf a=>⟨[],by rw[eC (by simp)]⟩
 | .node c n y=>⟨po y (po n []),by rw[eB (by simp)]⟩
theorem FM (t:Tr):(po t []).idxOf t=(po t []).length-1/\t∈po t []/\0<(po t []).length:=by obtain⟨X,e⟩:=DG t;have nd:=ji t nodup_nil;rw[e] at nd ⊢;have a:t∉X:=λh=>(nodup_append.mp nd).2.2 t h t (by simp) rfl;rw[idxOf_append,if_neg a];simp
theorem iw {o:List Nat}(K:o.Nodup)(C:o.length<=10)(p:∀ c∈o,c<o.length){t:Tr}(I:Ord o t)(w:Wr o (enc (po t [])))(J:(po t []).length<=1500)(S:JP):jz [aK t,oD o] S=JV (.bl true) S:=by
 have nd:=ji t nodup_nil;have n:=fH t uf;obtain⟨z,v,P⟩:=FM t;have O:=xL I;have b:=tK nd n J S t 11 v (by omega);rw[z] at b;have E:lD (po t []) t=List.range (po t []).length:=D8 _ nd;rw[E] at b;have x:=Aw nd n;have A:(enc (po t [])).length=(po t []).length:=by unfold enc;rw[length_map]
 have B:=λ(j:Nat) (r:Row) (f:(enc (po t []))[j]?=some r)=>vO K C p x w f S;have L:∀ j:Nat,j<(po t []).length->∃ r,(enc (po t []))[j]?=some r:=λj f=>⟨_,List.getElem?_eq_getElem (by omega)⟩;have ln:bW [aK t]=some (.int (po t []).length):=by simp[bW,A]
 have it:iU "tuple" (aK t)=some (.bl true):=rfl;have eq:=Hv (List.range (po t []).length);have y:h9 [.int (po t []).length]=some (nL (List.range (po t []).length)):=by simp only[h9];rw[if_pos (by omega)];simp
 have M:dh [.int (po t []).length]=some ((List.range (po t []).length).map λ(k:Nat)=>D.int k):=by simp only[dh];rw[if_pos (by omega)];simp
 generalize N:(po t []).length=k at *
 have F:((k-1:Nat):Int)=(k:Int)-1:=by omega
 rw[F] at b;generalize h:aK t=fd at *
 have m:Mc (enc (po t []))=fd:=h
 obtain⟨G,e,i,rfl,a,rfl⟩:=cU (u:=aE 2) (body:=gQ) (λ_ l e=>e=S/\∃ a,l=[some fd,some (oD o),a]) ((List.range k).map λ(k:Nat)=>D.int k) 0 [some fd,some (oD o),none] S ⟨rfl,none,rfl⟩ (by
  rintro j d l e f ⟨rfl,a,rfl⟩;obtain⟨rfl,H⟩:=hU f;obtain⟨r,g⟩:=L j H;have q:=B j r g;refine⟨[some fd,some (oD o),some (.int j)],rfl,[some fd,some (oD o),some (.int j)],e,?_,rfl,_,rfl⟩;unfold gQ;rw[m] at q
  simp[q])
 have s:¬ k=0:=by omega
 refine aB rfl ?_;unfold nM;generalize oD o=od at *
 rw[m] at b;simp[it,ln,s,M,i,jb,b,y,eq]
theorem KQ.mono {m k:Nat}{d:D}(h:KQ m k d):∀ j,k<=j->KQ m j d:=by
 induction h with
 |leaf a b g=>exact λj _ => .leaf a b g
 |ask c _ _ e f =>
  intro j l;obtain⟨j,rfl⟩:∃ i,j=i+1:=⟨j-1,by omega⟩;exact .ask c (e j (by omega)) (f j (by omega))
theorem D9 (ns:List Int)(b:Nat)(y : 1<=b)(i:b<=10)(S:JP):∃ (m:Nat) (ss:List Str) (kvs:List (D×D)) (d:D) (o:List Nat),1<=m/\m<=b/\ss.length<=6/\(∀ x∈ss,di x=true)/\(ss.Pairwise λa b=>MX a b=true)/\KQ m 5 d/\o.Perm (List.range m) /\
  lZ [.lst (ns.map .int),.int b] S=JV (.tup [.int m,.tup (ss.map .str),d,oD o]) (S++[.dict kvs]):=by
 have h:∀ S,bq [.lst (ns.map .int),.int 0] S=JV (.int (mix ns 0)) S:=fZ ns 0;have x1:∀ S,bq [.lst (ns.map .int),.int 1] S=JV (.int (mix ns 1)) S:=fZ ns 1;have x2:∀ S,bq [.lst (ns.map .int),.int 2] S=JV (.int (mix ns 2)) S:=fZ ns 2;have t:∀ S,bq [.lst (ns.map .int),.int 3] S=JV (.int (mix ns 3)) S:=fZ ns 3;have k:∀ S,bq [.lst (ns.map .int),.int 4] S=JV (.int (mix ns 4)) S:=fZ ns 4;have v:=pp (mix ns 0) (show (0:Int)<b by omega);have q:cG (.int (mix ns 0)) (.int b)=some (.int (mix ns 0 % b)):=bI (by omega);obtain⟨m,r⟩:∃ m:Nat,1+mix ns 0 % b=m:=⟨(1+mix ns 0 % b).toNat,by omega⟩;obtain⟨ss,kvs,l,e,f,g⟩:=zC (mix ns 1) S;have j:cG (.int (mix ns 3)) (.int 5)=some (.int (mix ns 3 % 5)):=bI (by decide);have w:=pp (mix ns 3) (show (0:Int)<5 by decide);obtain⟨dp,c⟩:∃ dp:Nat,1+mix ns 3 % 5=dp:=⟨(1+mix ns 3 % 5).toNat,by omega⟩;obtain⟨d,p,u⟩:=xO ss e f g m (by omega) (by omega) (S++[.dict kvs]) 8 dp (mix ns 2) (by omega) (xz _ _);obtain⟨o,n,po⟩:=z5 (mix ns 4) (m:=m) (by omega) (S++[.dict kvs]);have s:Mz [.int m,.tup (ss.map .str),d,oD o] (.tup [.int m,.tup (ss.map .str),d,oD o])=some (.tup [.int m,.tup (ss.map .str),d,oD o]):=b7 (by simp);refine⟨m,ss,kvs,d,o,by omega,by omega,e,f,g,u.mono 5 (by omega),po,aB rfl ?_⟩;unfold vT;simp[h,x1,x2,t,k,q,r,l,j,c,p,n,s,-map_map]
theorem xG {m k:Nat}{d:D}(h:KQ m k d):∀ {b:Th}{ss:List Str},Kv b d ss->ss.length<=6:=by
 induction h with
 | @leaf k i _ _ g=>intro b ss a;rw[tM a];exact g
 | @ask k c x y _ _ _ e f =>
  intro b ss a;cases a with
  |no _ a=>exact e a
  |yes _ a=>exact f a
theorem jE {o:List Nat}{a b:Th}:∀ {t:Tr},Ord o t->(∀ c,tp o t<=o.idxOf c->a c=b c)->K0 t a=K0 t b
 | .leaf _,_,_=>rfl
 | .node c n y,h,q=>by
  obtain⟨_,d,g,j,i,_⟩:=h;have e:a c=b c:=q c (le_refl _);have q:∀ x,o.idxOf c<=o.idxOf x->a x=b x:=q;rw[K0,K0,e,jE d λx f=>q x (by omega),jE g λx f=>q x (by omega)]
theorem Eb {o:List Nat}{s t:Tr}(h:Sub s t):∀ {ss:List Str},s = .leaf ss->Ord o t->∃ a,K0 t a=ss:=by
 induction h with
 |refl=>intro ss e _;subst e;exact⟨λ_=>false,rfl⟩
 | @no c n y _ b =>
  intro ss e d;obtain⟨_,f,_,k,_,_⟩:=d;obtain⟨a,q⟩:=b e f;refine⟨λx=>if x=c then false else a x,?_⟩;rw[K0,if_neg (by simp),← q];refine jE f λx i=>if_neg λe=>?_;subst e;omega
 | @yes c n y _ b =>
  intro ss e d;obtain⟨_,_,g,_,j,_⟩:=d;obtain⟨a,q⟩:=b e g;refine⟨λx=>if x=c then true else a x,?_⟩;rw[K0,if_pos (by simp),← q];refine jE g λx i=>if_neg λe=>?_;subst e;omega
theorem Cz {t:Tr}{i:Nat}{ss:List Str}(h:(enc (po t []))[i]?=some (.leaf ss)):Sub (.leaf ss) t:=by
 unfold enc at h;rw[getElem?_map] at h;obtain⟨s,a,e⟩:=map_eq_some_iff.mp h;cases s with
 |leaf b =>
  simp only[v5,Row.leaf.injEq] at e;subst e;exact(iq t [] _ (mem_of_getElem? a)).elim (λq=>by cases q) id
 |node c n y=>simp[v5] at e
theorem t7 (t:Tr) : 0<(enc (po t [])).length:=by unfold enc;rw[length_map];exact List.length_pos_of_mem (tx t [])
abbrev Sh:=List (Option Bool)
def L7:Option Bool->D
 |none => .Kk
 |some b => .int (if b=true then 1 else 0)
abbrev K5 (sh:Sh):D:=.tup (sh.map L7)
def ov (sh:Sh)(a:Th):Th:=λc=>match sh[c]? with
 |some (some b)=>b
 |_=>a c
abbrev Od (ns:List Nat):List D:=ns.map λ(k:Nat)=>D.int k
def OG (o:List Nat)(R G:List Row)(sh:Sh)(i v:Nat):Prop:=v<G.length/\J3.pl o R i<=J3.pl o G v/\∀ b a,Ev R (ov sh b) i a->Ev G b v a
section
variable {B:Nat->Option MO}{o:List Nat}{R G:List Row}{sh:Sh}{S:JP}{L Q:Nat}{C:List (Row×Nat)}{ns:List Nat}
theorem OG.app {i v:Nat}(E:List Row)(h:OG o R G sh i v):OG o R (G++E) sh i v:=
 ⟨by rw[List.length_append];have:=h.1;omega,by rw[ci h.1];exact h.2.1,λb a e=>(h.2.2 b a e).mono E⟩
theorem EV (b:S[Q]?=some (.lst (Od ns))){i v:Nat}(h:ns[i]?=some v):qr (.loc Q) (.int i) S=some (.int v):=by
 show ((da (.loc Q) S).bind λa=>Mu a (i:Int))=_;have:da (.loc Q) S=some (Od ns):=by unfold da;simp only[b]
 rw[this,bind_some];exact bB (by rw[getElem?_map,h];rfl)
theorem EL {c:Nat}{x:Option Bool}(h:sh[c]?=some x)(S:JP):Ks (K5 sh) (.int c) S=some (L7 x):=by unfold Ks;rw[if_neg (by simp[bA])];exact bB (by rw[getElem?_map,h];rfl)
theorem z8 (w1:Wr o R)(hm:∀ c∈o,c<sh.length)(h:SR B S L o G C)(w:Wf o G)(hQ:B Q=some (.lst (Od ns)))(F:Q<L∨L+3<Q)(I:∀ i v,ns[i]?=some v->OG o R G sh i v){r:Row}(g:R[ns.length]?=some r)(hz:G.length<16000000) :
  ∃ m E v,gf [.loc L,az r,.loc Q,K5 sh] S=JV (.int (v:Nat)) m/\SR B m L o (G++E) C/\Wf o (G++E)/\OG o R (G++E) sh ns.length v/\E.length<=1:=by
 have X:=w1 _ _ g;have u:=ow r S;cases r with
 |leaf ss =>
  obtain⟨m,E,v,q,sr,A,j,H⟩:=jO h w (r:=.leaf ss) X hz;have z:=h.has "number_of" (by decide);refine⟨m,E,v,aB rfl ?_,sr,A,⟨(List.getElem?_eq_some_iff.mp j).1,?_,λf x e=>?_⟩,H⟩
  ·unfold cJ;simp[u,z,q]
  ·have:J3.pl o (G++E) v=o.length:=by unfold J3.pl;rw[j]
   rw[this];exact vh o R _
  rw[Ev.det e (.leaf g)];exact .leaf j
 |ask c n y =>
  obtain⟨M,a2,a3,a4,a5,_⟩:=X;have KG:J3.pl o R ns.length=o.idxOf c:=by unfold J3.pl;rw[g]
  have K:ns[n]?=some ns[n]:=List.getElem?_eq_getElem a2;have N:ns[y]?=some ns[y]:=List.getElem?_eq_getElem a3;obtain⟨V,n2,J⟩:=I _ _ K;obtain⟨Z,y2,y3⟩:=I _ _ N;have W:S[Q]?=some (.lst (Od ns)):=by rw[h.fr Q F,hQ]
  have ln:=EV W K;have O:=EV W N;generalize ns[n]=a at *
  generalize ns[y]=b at *
  have hc:=hm c M;have es:sh[c]?=some sh[c]:=List.getElem?_eq_getElem hc;have s:=EL es S;have D:Ks (az (.ask c n y)) (.int 0) S=some (.int c):=OC _ _ S;have P:Ks (az (.ask c n y)) (.int 1) S=some (.int n):=Qb _ _ _ S;have Y:Ks (az (.ask c n y)) (.int 2) S=some (.int y):=at2 _ _ _ _ S;have U:∀ f:Th,ov sh f c=sh[c].getD (f c):=λf=>by unfold ov;rw[es];cases sh[c]<;>rfl
  cases j:sh[c] with
  |none =>
   rw[j] at s;obtain⟨m,E,v,q,sr,A,hi,pv,H,NQ⟩:=uv h w M V Z (by omega) (by omega) hz;have z:=h.has "number_of_ask" (by decide);refine⟨m,E,v,aB rfl ?_,sr,A,⟨hi,by omega,λf x e=>NQ f x ?_⟩,H⟩
   ·unfold cJ;have p:Q_ .Kk .Kk=some (.bl true):=rfl;simp[u,D,s,L7,p,z,P,Y,ln,O,q]
   unfold sel;have l:=U f;rw[j] at l;have l:ov sh f c=f c:=l;cases e with
   |leaf d=>rw[g] at d;cases d
   |no d t k=>rw[g] at d;cases d;rw[l] at t;rw[t];exact(J _ _ k).mono E
   |yes d t k=>rw[g] at d;cases d;rw[l] at t;rw[t];exact(y3 _ _ k).mono E
  |some T =>
   rw[j] at s;have l:∀ f,ov sh f c=T:=λf=>by rw[U,j];rfl
   cases T with
   |false =>
    have ok:OG o R G sh ns.length a:=by
     refine⟨V,by omega,λf x e=>?_⟩;cases e with
     |leaf d=>rw[g] at d;cases d
     |no d t k=>rw[g] at d;cases d;exact J _ _ k
     |yes d t k=>rw[g] at d;cases d;rw[l] at t;cases t
    refine⟨S,[],a,aB rfl ?_,by rw[append_nil];exact h,by rw[append_nil];exact w,by rw[append_nil];exact ok,by simp⟩;unfold cJ;have p:Q_ (.int 0) .Kk=some (.bl false):=rfl;simp[u,D,s,L7,p,P,ln]
   |true =>
    have ok:OG o R G sh ns.length b:=by
     refine⟨Z,by omega,λf x e=>?_⟩;cases e with
     |leaf d=>rw[g] at d;cases d
     |no d t k=>rw[g] at d;cases d;rw[l] at t;cases t
     |yes d t k=>rw[g] at d;cases d;exact y3 _ _ k
    refine⟨S,[],b,aB rfl ?_,by rw[append_nil];exact h,by rw[append_nil];exact w,by rw[append_nil];exact ok,by simp⟩;unfold cJ;have p:Q_ (.int 1) .Kk=some (.bl false):=rfl;simp[u,D,s,L7,p,Y,O]
end
theorem DV {S:JP}{Q:Nat}{ns:List Nat}(b:S[Q]?=some (.lst (Od ns))){v:Nat}(h:ns[ns.length-1]?=some v):qr (.loc Q) (.int (-1)) S=some (.int v):=by
 have c:ns.length-1<ns.length:=(List.getElem?_eq_some_iff.mp h).1;show ((da (.loc Q) S).bind λa=>Mu a (-1:Int))=_;have:da (.loc Q) S=some (Od ns):=by unfold da;simp only[b]
 rw[this,bind_some];have e:QN (Od ns).length (-1)=some (ns.length-1):=by unfold QN;rw[length_map,if_neg (by decide),if_pos (by omega)];congr 1;omega
 unfold Mu;rw[e,bind_some,getElem?_map,h];rfl
theorem BJ (ns:List Nat)(v:Nat):Od (ns++[v])=Od ns++[.int v]:=by unfold Od;rw[map_append];rfl
theorem B9 {o:List Nat}(hl:o.length<=8){R:List Row}(Z:Wr o R)(h1 : 0<R.length)(hR:R.length<16000000){sh:Sh}(z:∀ c∈o,c<sh.length)(S:JP) :
  ∃ t k,iI [.tup (R.map az),K5 sh,oD o] S=JV (.tup ((enc (po t [])).map az)) k/\Ord o t/\AJ t/\Wr o (enc (po t []))/\(∀ f,Ev (enc (po t [])) f ((enc (po t [])).length-1) (K0 t f))/\(∀ f a,Ev R (ov sh f) (R.length-1) a->K0 t f=a)/\(po t []).length<=1023:=by
 have mr:=q9 (ar:=af (ag 2) aA) (ρ:=[some (.tup (R.map az)),some (K5 sh),some (oD o),none,none,none]) (S:=S) (o:=o) rfl;generalize N:S.length=P at *
 have A:(S++[RO o P,.lst [],.JT [],.JT []]).length=P+4:=by simp[N]
 have VF:SR (λi=>if i=P+4 then some (.lst (Od [])) else (S++[RO o P,.lst [],.JT [],.JT []]++[.lst []])[i]?) (S++[RO o P,.lst [],.JT [],.JT []]++[.lst []]) P o [] []:=by
  refine⟨?_,?_,?_,?_,λi _=>?_⟩
  ·rw[List.append_assoc,getElem?_append_right (by omega)];simp[N]
  ·rw[List.append_assoc,getElem?_append_right (by omega),show P+1-S.length=1 by omega];rfl
  ·rw[List.append_assoc,getElem?_append_right (by omega),show P+2-S.length=2 by omega];rfl
  ·rw[List.append_assoc,getElem?_append_right (by omega),show P+3-S.length=3 by omega];rfl
  by_cases e:i=P+4
  ·subst e;rw[if_pos rfl,List.append_assoc,getElem?_append_right (by omega),show P+4-S.length=4 by omega];rfl
  rw[if_neg e]
 generalize Om:(S++[RO o P,.lst [],.JT [],.JT []]++[.lst []])=S1 at *
 have Y:wp [some (.tup (R.map az)),some (K5 sh),some (oD o),some (.loc P),none,none] (S++[RO o P,.lst [],.JT [],.JT []])=JV (.loc (P+4)) S1:=by rw[CB,A,Om]
 generalize (S++[RO o P,.lst [],.JT [],.JT []])=S0 at *
 have U:Wf o ([]:List Row):=⟨nodup_nil,λi r h=>by simp at h⟩
 obtain⟨ρ',F,el,V⟩:=cU (u:=aE 5) (body:=mU)
  (λi ρ k => ∃ (G:List Row) (ns:List Nat) (b:Option D),ρ=[some (.tup (R.map az)),some (K5 sh),some (oD o),some (.loc P),some (.loc (P+4)),b]/\SR (λi=>if i=P+4 then some (.lst (Od ns)) else S1[i]?) k P o G []/\Wf o G/\ns.length=i/\G.length<=i/\∀ j v,ns[j]?=some v->OG o R G sh j v)
  (R.map az) 0 [some (.tup (R.map az)),some (K5 sh),some (oD o),some (.loc P),some (.loc (P+4)),none] S1
  ⟨[],[],none,rfl,VF,U,rfl,le_refl _,λj v h=>by simp at h⟩ (by
   rintro j d ρ k hd ⟨G,ns,b,rfl,sr,w,g,M,n⟩;rw[getElem?_map] at hd;obtain⟨r,s,rfl⟩:=map_eq_some_iff.mp hd;rw[zero_add] at g M;have hj:j<R.length:=(List.getElem?_eq_some_iff.mp s).1;obtain⟨p,E,v,q,l,W,ok,lE⟩:=z8 Z z sr w (Q:=P+4) (ns:=ns) (if_pos rfl) (.inr (by omega)) n (by rw[g];exact s) (by omega);have x:p[P+4]?=some (.lst (Od ns)):=by rw[l.fr (P+4) (.inr (by omega)),if_pos rfl]
   have y:k[P+4]?=some (.lst (Od ns)):=by rw[sr.fr (P+4) (.inr (by omega)),if_pos rfl]
   have X_:da (.loc (P+4)) k=some (Od ns):=by unfold da;simp only[y]
   have ap:uw (.loc (P+4)) (.int v) p=JV .Kk (p.set (P+4) (.lst (Od (ns++[v])))):=by unfold uw;simp only[x];rw[if_pos (by rw[length_map,g];exact lt_of_lt_of_le (show j<16000000 by omega) (by decide)),BJ]
   refine⟨_,rfl,_,p.set (P+4) (.lst (Od (ns++[v]))),?_,G++E,ns++[v],some (az r),rfl,⟨?_,?_,?_,?_,λi hi=>?_⟩,W,by rw[List.length_append,g];simp,by rw[List.length_append];omega,λi u m=>?_⟩
   ·unfold mU;clear n ok;generalize D.tup (R.map az)=x1 at *
    generalize K5 sh=x2 at *
    generalize oD o=x3 at *
    generalize az r=x4 at *
    simp[X_,q,ap]
   ·rw[bE (by omega)];exact l.obj
   ·rw[bE (by omega)];exact l.RV
   ·rw[bE (by omega)];exact l.num
   ·rw[bE (by omega)];exact l.O5
   ·by_cases e:i=P+4
    ·subst e;rw[if_pos rfl];exact dE x
    rw[if_neg e,bE (λq=>e q.symm),l.fr i hi,if_neg e]
   rcases lt_trichotomy i ns.length with hi |hi |hi
   ·rw[getElem?_append_left hi] at m;exact(n i u m).app E
   ·subst hi;rw[getElem?_append_right (le_refl _),Nat.sub_self] at m;cases m;exact ok
   rw[List.getElem?_eq_none (by rw[List.length_append];simp;omega)] at m;cases m)
 obtain⟨G,ns,b,rfl,sr,w,g,M,n⟩:=V;rw[zero_add,length_map] at g;have Lc:ns.length-1<ns.length:=by omega
 have ev:ns[ns.length-1]?=some ns[ns.length-1]:=List.getElem?_eq_getElem Lc;obtain⟨K,_,J⟩:=n _ _ ev;have x:F[P+4]?=some (.lst (Od ns)):=by rw[sr.fr (P+4) (.inr (by omega)),if_pos rfl]
 have la:=DV x ev;generalize ns[ns.length-1]=r at *
 obtain⟨X,p,I,c,lX,B,x2,y2,rfl⟩:=fold_eq sr w hl K;have un:=w.uT K;have L:FR (X++[r]) G=enc (po (J3.uT G r) []):=by rw[yg w c,B]
 have H:=C0 w c;rw[L] at I H;refine⟨J3.uT G r,F++[x2,y2],aB rfl ?_,(un.ord w).1,(un.ord w).2,H,λf=>?_,λf a C=>?_,?_⟩
 ·have T:=sr.has "fold_from" (by decide);have sq:cg (.tup (R.map az))=some (R.map az):=rfl;have ng:z_ (.int 1)=some (.int (-1)):=rfl;clear J n B;generalize D.tup ((enc (po (J3.uT G r) [])).map az)=rt at *
  generalize R.map az=x1 at *
  generalize K5 sh=xs at *
  generalize oD o=od at *
  unfold yZ;simp -implicitDefEqProofs [mr,Y,sq,el,T,ng,la,I,-CB]
 ·have e:=C4 c (un.ev f) (by simp);have s:r∉X:=by have:=(nodup_append.mp c.nd).2.2;intro z;exact this r z r (by simp) rfl
  have O:(X++[r]).idxOf r=(FR (X++[r]) G).length-1:=by rw[idxOf_append,if_neg s];simp[FR]
  rw[O,L] at e;exact e
 ·rw[← g] at C;exact Ev.det (un.ev f) (J f a C)
 rw[← B,length_map,List.length_append];simp;omega
def blank (m:Nat):Sh:=replicate m none
def QW (m k:Nat)(v:Option Bool):Sh:=(blank m).set k v
theorem EB (m:Nat):K5 (blank m) = .tup (replicate m .Kk):=by unfold blank;rw[K5,List.map_replicate];rfl
theorem yw (m k:Nat)(v:Option Bool):(QW m k v).length=m:=by unfold QW blank;rw[length_set,length_replicate]
theorem FX {m k:Nat}(d:k<m)(v:Option Bool)(a:Th):ov (QW m k v) a=λc=>if c=k then v.getD (a c) else a c:=by
 funext c;unfold ov QW blank;rw[List.getElem?_set,length_replicate,getElem?_replicate];by_cases h:c=k
 ·subst h;rw[if_pos rfl,if_pos d,if_pos rfl];cases v<;>rfl
 rw[if_neg (λe=>h e.symm),if_neg h];by_cases b:c<m
 ·rw[if_pos b]
 rw[if_neg b]
theorem blank_eq {m:Nat}(e:m<=8)(S:JP):gR [.int m] S=JV (K5 (blank m)) S:=by
 have b:dh [.int m]=some ((List.range m).map λ(k:Nat)=>D.int k):=by have:=xh m (by omega) (by omega);simpa using this
 have q:=fK (u:=aE 0) (fe:=iQ) (λa => ∃ y,a=[y]) (λ_ => .Kk) S ((List.range m).map λ(k:Nat)=>D.int k) (b8 1 [] [some (.int m)]) ⟨none,rfl⟩ (by
  rintro d hd a ⟨y,rfl⟩
  exact⟨_,rfl,⟨_,rfl⟩,rfl⟩)
 have c:((List.range m).map λ(k:Nat)=>D.int k).map (λ_=>D.Kk)=replicate m .Kk:=by rw[map_map];exact(List.map_const' ..).trans (by rw[length_range])
 rw[c] at q;rw[EB];refine aB rfl ?_;unfold ki;simp[b,q,ft]
theorem Bp {m k:Nat}(h:m<=8){sh:Sh}(i:sh.length=m)(f:k<m)(v:Option Bool)(S:JP)(g:JJ Fl)
  (b:g=aW (aI bi (aI bi (OS Mi (ag 0) none (some (ag 1))) (j4 (af (ag 2) aA))) (OS Mi (ag 0) (some (aI bi (ag 1) (aC (.int 1)))) none))) :
  a9 3 0 g [K5 sh,.int k,L7 v] S=JV (K5 (sh.set k v)) S:=by
 subst b;have a:Mi (K5 sh) none (some (k:Int))=some (.tup ((sh.take k).map L7)):=by show some (D.tup (jr (sh.map L7) none (some (k:Int))))=_;rw[ub,map_take]
 have c:Mi (K5 sh) (some ((k:Int)+1)) none=some (.tup ((sh.drop (k+1)).map L7)):=by show some (D.tup (jr (sh.map L7) (some (((k+1:Nat)):Int)) none))=_;rw[uc,map_drop]
 have z1:Mz [L7 v] (.tup [L7 v])=some (.tup [L7 v]):=b7 (by simp);have e:bi (.tup ((sh.take k).map L7)) (.tup [L7 v])=some (.tup ((sh.take k).map L7++[L7 v])):=by rw[fM,if_pos (Nat.le_trans (show _<=1000 by simp;omega) (by decide))]
 have d:bi (.tup ((sh.take k).map L7++[L7 v])) (.tup ((sh.drop (k+1)).map L7))=some (K5 (sh.set k v)):=by rw[fM,if_pos (Nat.le_trans (show _<=1000 by simp;omega) (by decide)),List.set_eq_take_append_cons_drop,if_pos (by omega)];simp[K5]
 refine aB rfl ?_;generalize K5 (sh.set k v)=r at *
 generalize (sh.take k).map L7=x1 at *
 generalize (sh.drop (k+1)).map L7=x2 at *
 generalize K5 sh=x3 at *
 generalize L7 v=x4 at *
 simp[a,c,z1,e,d,qt]
theorem C_ {m k:Nat}(b:m<=8){sh:Sh}(c:sh.length=m)(a:k<m)(v:Option Bool)(S:JP):fG [K5 sh,.int k,L7 v] S=JV (K5 (sh.set k v)) S:=Bp b c a v S _ rfl
theorem A6 (x:Int){m:Nat}(n:m<=8)(S:JP):∃ sh:Sh,mY [.int x,.int m] S=JV (K5 sh) S/\sh.length=m:=by
 have e:dh [.int m]=some ((List.range m).map λ(k:Nat)=>D.int k):=by have:=xh m (by omega) (by omega);simpa using this
 let f:Int->Option Bool:=λk=>if Ln x k % 4=1 then some false else if Ln x k % 4=2 then some true else none
 have q:=fK (u:=aE 0) (fe:=gC) (λa => ∃ y,a=[y,some (.int x)]) (λd=>match d with | .int k=>L7 (f k) |_ => .Kk) S ((List.range m).map λ(k:Nat)=>D.int k) (b8 1 [0] [some (.int x),some (.int m)]) ⟨none,rfl⟩ (by
  rintro d hd a ⟨y,rfl⟩;obtain⟨k,_,rfl⟩:=mem_map.mp hd;refine⟨_,rfl,⟨_,rfl⟩,?_⟩;have g:=jq x k S;have i:cG (.int (Ln x k)) (.int 4)=some (.int (Ln x k % 4)):=bI (by decide)
  have b:Ks (D.tup [D.Kk,(D.int 0),(D.int 1),D.Kk]) (.int (Ln x k % 4)) S=some (L7 (f k)):=by
   have l:=Int.emod_nonneg (Ln x k) (show (4:Int)≠0 by decide);have j:=Int.emod_lt_of_pos (Ln x k) (show (0:Int)<4 by decide);show Ks _ _ _=some (L7 (if Ln x k % 4=1 then some false else if Ln x k % 4=2 then some true else none));have:Ln x k % 4=0∨Ln x k % 4=1∨Ln x k % 4=2∨Ln x k % 4=3:=by omega
   rcases this with h |h |h |h<;>rw[h]<;>rfl
  show gC [some (.int k),some (.int x)] S=JV (L7 (f k)) S;generalize f k=fk at *
  unfold gC
  simp[g,i,b])
 rw[map_map] at q;refine⟨(List.range m).map λ(k:Nat)=>f k,aB rfl ?_,by rw[length_map,length_range]⟩;have c:K5 ((List.range m).map λ(k:Nat)=>f k) = .tup ((List.range m).map ((λd=>match d with |D.int k=>L7 (f k) |_ => .Kk) ∘ λ(k:Nat)=>D.int k)):=by rw[K5,map_map];rfl
 rw[c];generalize (List.range m).map ((λd=>match d with |D.int k=>L7 (f k) |_ => .Kk) ∘ λ(k:Nat)=>D.int k)=r at *
 unfold rE;simp[e,q,ft]
theorem Gs {m c:Nat}{x y:D}{o:List Nat}(k:o.length=m)(e:m<=8)(g:c<m)(b:Bool)(h:∀ S,∃ a,iI [x,K5 (QW m c (some b)),oD o] S=JV y a):∀ S,∃ a,cP [x,.int c,.int (if b=true then 1 else 0),oD o] S=JV y a:=λS=>by
 have i:bW [oD o]=some (.int m):=by simp[bW,k]
 have f:=blank_eq e S;have d:=C_ e (sh:=blank m) (by unfold blank;rw[length_replicate]) g (some b) S;obtain⟨a,j⟩:=h S;refine⟨a,aB rfl ?_⟩;have d:fG [K5 (blank m),.int c,.int (if b=true then 1 else 0)] S=JV (K5 (QW m c (some b))) S:=d;generalize K5 (QW m c (some b))=x1 at *
 generalize K5 (blank m)=x2 at *
 generalize oD o=x3 at *
 generalize (if b=true then (1:Int) else 0)=x4 at *
 unfold vX;simp[i,f,d,j]
def up (k:Nat)(b:Bool)(a:Th):Th:=λc=>if c=k then b else a c
theorem G9 {m k:Nat}(c:k<m)(b:Bool)(a:Th):ov (QW m k (some b)) a=up k b a:=FX c _ a
theorem Df (k:Nat)(b:Th):up k (b k) b=b:=by
 funext c;unfold up;by_cases a:c=k
 ·rw[if_pos a,a]
 rw[if_neg a]
theorem BZ (a b:List Str)(x:Str):x∈fI a b↔x∈a/\x∈b:=by unfold fI;rw[mem_filter];by_cases h:x∈b<;>simp[h]
theorem F7 (a b:List Str)(x:Str):x∈fL a b↔x∈a/\¬ x∈b:=by unfold fL;rw[mem_filter];by_cases h:x∈b<;>simp[h]
theorem BY (a b:List Str)(x:Str):x∈fU a b↔x∈a∨x∈b:=by have c:(fU a b).Perm (a++fL b a):=mergeSort_perm _ _;rw[c.mem_iff,mem_append,F7];by_cases h:x∈a<;>simp[h]
theorem yL {a b:List Str}(c:N8 a)(d:N8 b)(h:∀ x,x∈a↔x∈b):a=b:=by have e:a.Perm b:=(List.perm_ext_iff_of_nodup (jN c) (jN d)).mpr h;have f:=(cR c.2).imp λ{x y} q=>yO q;have g:=(cR d.2).imp λ{x y} q=>yO q;rw[fw e f,← fw (List.Perm.refl b) g]
theorem ne3 (a b c:List Str):Mv (.lst [.tup (a.map .str),.tup (b.map .str),.tup (c.map .str)]) (.lst [.tup (a.map .str),.tup (b.map .str),.tup (c.map .str)])=some (.bl false):=by simp[Mv,toPy,b6,fP,PyData.eqv,PyData.eqvAll,PyData.depth,PyData.depthAll,kQ,pR]
theorem ne0:Mv (.lst []) (.lst [])=some (.bl false):=by simp[Mv,toPy,b6,PyData.eqv,PyData.eqvAll,PyData.depth,PyData.depthAll]
section
variable (ρ:JQ) (S:JP)
@[simp] theorem HD (gs:JJ (List D)):x9 gs ρ S=ai (gs ρ S) λds a=>if ds.length<=sizeLine then JV (.loc a.length) (a++[.lst ds]) else none:=rfl
@[simp] theorem IK (a b:JJ D):Ez a b ρ S=ai (a ρ S) λx c=>ai (b ρ c) λy S2=>aP (xv x y S2) S2:=rfl
end
theorem sz2 : 2<=sizeLine:=by decide
theorem Ul : 2<sizeLine:=by decide
theorem EX {o:List Nat}{t:Tr}(c:Ord o t)(h:∀ a,(K0 t a).length<=6):Lf (enc (po t [])):=λi d b=>by obtain⟨a,e⟩:=Eb (Cz b) rfl c;rw[← e];exact h a
theorem El {a b:List Str}(c:N8 a)(d:N8 b):fU a b=fU b a:=yL (Cu c d) (Cu d c) λx=>by rw[BY,BY];exact Or.comm
theorem Em {a b:List Str}(c:N8 a)(d:N8 b):fI a b=fI b a:=yL (tF c filter_sublist) (tF d filter_sublist) λx=>by rw[BZ,BZ];exact And.comm
theorem B8 {m k:Nat}{d:D}(h:KQ m k d):∀ {b:Th}{ss:List Str},Kv b d ss->N8 ss:=by
 induction h with
 | @leaf k j g e _=>intro b ss a;rw[tM a];exact⟨g,e⟩
 | @ask k c x y _ _ _ f i =>
  intro b ss a;cases a with
  |no _ a=>exact f a
  |yes _ a=>exact i a
def R0 (sh:Sh)(ts:List Int)(k:Nat):Int:=match sh[k]? with
 |some (some b)=>if b=true then 1 else 0
 |_=>ts.getD k 0
def seen (sh:Sh)(ts:List Int):List Int:=(List.range ts.length).map (R0 sh ts)
theorem oq {m:Nat}{ts:List Int}(a:iF m ts)(k:Nat):ts.getD k 0=0∨ts.getD k 0=1:=by
 rw[List.getD];cases h:ts[k]? with
 |none=>exact .inl rfl
 |some x=>exact a.2 x (mem_of_getElem? h)
theorem Ds {m:Nat}{ts:List Int}(a:iF m ts)(sh:Sh):iF m (seen sh ts):=by
 refine⟨by unfold seen;rw[length_map,length_range,a.1],λx b=>?_⟩;obtain⟨k,_,rfl⟩:=mem_map.mp b;unfold R0;split
 ·split<;>simp
 exact oq a k
theorem Dg {m:Nat}{ts:List Int}(a:iF m ts){sh:Sh}(d:sh.length=m):tv (seen sh ts)=ov sh (tv ts):=by
 funext c;unfold tv ov seen;rw[List.getD,getElem?_map];by_cases h:c<m
 ·rw[List.getElem?_range (by rw[a.1];exact h)];show decide (R0 sh ts c=1)=_;unfold R0;cases hv:sh[c]? with
  |none=>rfl
  |some v=>cases v with
   |none=>rfl
   |some b=>cases b<;>simp
 rw[List.getElem?_eq_none (by rw[length_range,a.1];omega),List.getElem?_eq_none (show sh.length<=c by omega)];show decide ((0:Int)=1)=decide (ts.getD c 0=1);rw[List.getD,List.getElem?_eq_none (by rw[a.1];omega)];rfl
def flip (ts:List Int)(c:Nat):List Int:=ts.set c (1-ts.getD c 0)
theorem Ej {m:Nat}{ts:List Int}(a:iF m ts)(c:Nat):iF m (flip ts c):=by
 refine⟨by unfold flip;rw[length_set,a.1],λx b=>?_⟩;rcases List.mem_or_eq_of_mem_set b with h |h
 ·exact a.2 x h
 rcases oq a c with q |q<;>rw[h,q]<;>simp
theorem Dh {m:Nat}{ts:List Int}(a:iF m ts){c:Nat}(b:c<m):tv (flip ts c)=up c (!tv ts c) (tv ts):=by
 funext k;unfold tv flip up;rw[List.getD,List.getElem?_set];by_cases h:k=c
 ·subst h;rw[if_pos rfl,if_pos (by rw[a.1];exact b),if_pos rfl];rcases oq a k with q |q<;>simp only[getD_some,q]<;>decide
 rw[if_neg (λe=>h e.symm),if_neg h];rfl
theorem Dt {m:Nat}(o:m<=8){ts:List Int}(e:iF m ts){sh:Sh}(p:sh.length=m){a0 a2 a3 a4 a5 a7 a8 x y z u v:Option D}(S:JP) :
  bT (aE 0) dS lO ((List.range m).map λ(k:Nat)=>D.int k) (b8 1 [9,6] [a0,some (.int m),a2,a3,a4,a5,some (K5 sh),a7,a8,some (La ts),x,y,z,u,v]) S=some ((seen sh ts).map .int,S):=by
 have q:=fK (u:=aE 0) (fe:=lO) (λh => ∃ y,h=[y,some (La ts),some (K5 sh)]) (λd=>match d with | .int k => .int (R0 sh ts k.toNat) |_ => .Kk) S ((List.range m).map λ(k:Nat)=>D.int k) [none,some (La ts),some (K5 sh)] ⟨none,rfl⟩ (by
  rintro d hd h ⟨y,rfl⟩;obtain⟨k,c,rfl⟩:=mem_map.mp hd;have c:=mem_range.mp c;refine⟨_,rfl,⟨_,rfl⟩,?_⟩;have es:sh[k]?=some sh[k]:=List.getElem?_eq_getElem (by omega);have a:=EL es S;have i:=yq e c S;have j:R0 sh ts k=match sh[k] with |some b=>(if b=true then 1 else 0) |none=>ts.getD k 0:=by unfold R0;rw[es];cases sh[k]<;>rfl
  show lO [some (.int k),some (La ts),some (K5 sh)] S=JV (.int (R0 sh ts ((k:Int).toNat))) S;rw[Int.toNat_natCast,j];have n:(if tv ts k=true then (1:Int) else 0)=ts.getD k 0:=by unfold tv;rcases oq e k with q |q<;>rw[q]<;>rfl
  rw[n] at i;generalize ts.getD k 0=g at *
  generalize La ts=td at *
  generalize K5 sh=sd at *
  unfold lO;cases hv:sh[k] with
  |none =>
   rw[hv] at a;have f:Q_ .Kk .Kk=some (.bl true):=rfl;simp[a,i,L7,f]
  |some b =>
   rw[hv] at a;have f:∀ z:Int,Q_ (.int z) .Kk=some (.bl false):=λ_=>rfl
   simp[a,L7,f])
 have l:b8 1 [9,6] [a0,some (.int m),a2,a3,a4,a5,some (K5 sh),a7,a8,some (La ts),x,y,z,u,v]=[none,some (La ts),some (K5 sh)]:=rfl;rw[l,q,map_map,seen,map_map,e.1];rfl
theorem Ek {m c:Nat}(e:m<=8){ts:List Int}(a:iF m ts)(b:c<m)(S:JP) :
  Mi (La ts) none (some (c:Int))=some (.tup ((ts.take c).map .int))/\Ks (La ts) (.int c) S=some (.int (ts.getD c 0))/\Mi (La ts) (some ((c:Int)+1)) none=some (.tup ((ts.drop (c+1)).map .int)) /\
  bi (.tup ((ts.take c).map .int)) (.tup [.int (1-ts.getD c 0)])=some (.tup ((ts.take c).map .int++[.int (1-ts.getD c 0)]))/\bi (.tup ((ts.take c).map .int++[.int (1-ts.getD c 0)])) (.tup ((ts.drop (c+1)).map .int))=some (La (flip ts c)):=by
 have d:=a.1;refine⟨?_,?_,?_,?_,?_⟩
 ·show some (D.tup (jr (ts.map .int) none (some (c:Int))))=_;rw[ub,map_take]
 ·unfold Ks;rw[if_neg (by simp[bA])];refine bB ?_;rw[getElem?_map,List.getElem?_eq_getElem (by omega),List.getD,List.getElem?_eq_getElem (by omega)];rfl
 ·show some (D.tup (jr (ts.map .int) (some (((c+1:Nat)):Int)) none))=_;rw[uc,map_drop]
 ·rw[fM,if_pos (Nat.le_trans (show _<=1000 by simp;omega) (by decide))]
 rw[fM,if_pos (Nat.le_trans (show _<=1000 by simp;omega) (by decide)),flip,List.set_eq_take_append_cons_drop,if_pos (by omega)];simp[La]
theorem GC (s l o:D){m c:Nat}(hm:m<=6)(hc:c<m){ts:List Int}(j:iF m ts){sh:Sh}(V:sh.length=m){d:D}(i:KQ m 5 d)(n:D){h e f:D}{a b g:List Str}(C:Kv (tv ts) d a)(B:Kv (tv (flip ts c)) d b)(K:Kv (tv (seen sh ts)) d g)
  (S:JP) (I:∀ S,m8 [h,La ts] S=JV (.tup (g.map .str)) S) (F:∀ S,m8 [e,La ts] S=JV (.tup ((fU a b).map .str)) S) (G:∀ S,m8 [f,La ts] S=JV (.tup ((fI a b).map .str)) S) (x y z u v:Option D) :
  ∃ x' y' z' X N R,lV [some s,some (.int m),some l,some d,some n,some o,some (K5 sh),some (.int c),some (.lst [h,e,f]),some (La ts),x,y,z,u,v] S=JV (.next [some s,some (.int m),some l,some d,some n,some o,some (K5 sh),some (.int c),some (.lst [h,e,f]),some (La ts),x',y',z',X,N]) R:=by
 have Y:dh [.int m]=some ((List.range m).map λ(k:Nat)=>D.int k):=by have:=xh m (by omega) (by omega);simpa using this
 have W:=λ(x y z u v:Option D)=>Dt (show m<=8 by omega) j V (a0:=some s) (a2:=some l) (a3:=some d) (a4:=some n) (a5:=some o) (a7:=some (.int c)) (a8:=some (.lst [h,e,f])) (x:=x) (y:=y) (z:=z) (u:=u) (v:=v) S;obtain⟨p1,Z,p3,p4,p5⟩:=Ek (show m<=8 by omega) j hc S;have z1:Mz [.int (1-ts.getD c 0)] (.tup [.int (1-ts.getD c 0)])=some (.tup [.int (1-ts.getD c 0)]):=b7 (by simp);have a1:=jw j S i (fuel:=15) C (by decide);have a2:=jw (Ej j c) S i (fuel:=15) B (by decide);have a3:=jw (Ds j sh) S i (fuel:=15) K (by decide);have un:=wS (xG i C) (xG i B) S;have q1:bT (aE 0) sJ t9 (a.map .str) [none,some (.tup (b.map .str))] S=some ((fI a b).map .str,S):=Go (neg:=false) (gt:=sJ) (fe:=t9) rfl rfl a b S none;have A:∀ w x2 y2 z2:Option D,b8 1 [13] [some s,some (.int m),some l,some d,some n,some o,some (K5 sh),some (.int c),some (.lst [h,e,f]),some (La ts),x2,y2,z2,some (.tup (b.map .str)),w]=[none,some (.tup (b.map .str))]:=λ_ _ _ _=>rfl;have sa:=sI a;have M:cg (.lst [h,e,f])=some [h,e,f]:=rfl;have H:=ne3 g (fU a b) (fI a b);generalize L:S++[MO.lst [.tup (g.map .str),.tup ((fU a b).map .str),.tup ((fI a b).map .str)]]=S2;have J:S2[S.length]?=some (.lst [.tup (g.map .str),.tup ((fU a b).map .str),.tup ((fI a b).map .str)]):=by rw[← L];simp
 have E:bT (aE 0) dS gD [h,e,f] [none,some (La ts)] S2=some ([.tup (g.map .str),.tup ((fU a b).map .str),.tup ((fI a b).map .str)],S2):=by
  have t:Qm (JV true S2)=some (true,S2):=rfl;have k:∀ v:D,Qm (JV v S2)=some (v,S2):=λ_=>rfl;have Q:gD [some h,some (La ts)] S2=JV (.tup (g.map .str)) S2:=by unfold gD;simp[I S2,-map_map]
  have O:gD [some e,some (La ts)] S2=JV (.tup ((fU a b).map .str)) S2:=by unfold gD;simp[F S2,-map_map]
  have P:gD [some f,some (La ts)] S2=JV (.tup ((fI a b).map .str)) S2:=by unfold gD;simp[G S2,-map_map]
  have U:∀ (v:D) (w:Option D),aE 0 v [w,some (La ts)]=some [some v,some (La ts)]:=λ_ _=>rfl;simp[bT,U,Q,O,P,t,k]
 have c9:∀ p q r t w:Option D,b8 1 [9] [some s,some (.int m),some l,some d,some n,some o,some (K5 sh),some (.int c),some (.lst [h,e,f]),some (La ts),p,q,r,t,w]=[none,some (La ts)]:=λ_ _ _ _ _=>rfl;have T:xv (.lst [.tup (g.map .str),.tup ((fU a b).map .str),.tup ((fI a b).map .str)]) (.loc S.length) S2=some (.bl false):=by unfold xv da;simp only[J,bind_some];exact H
 have s3 : 3<=sizeLine:=by decide
 have td:ft [.lst ((seen sh ts).map .int)]=some (La (seen sh ts)):=rfl;refine⟨some (La (seen sh ts)),some (La (flip ts c)),some (.tup (a.map .str)),some (.tup (b.map .str)),some (.loc S.length),S2,?_⟩;clear H J I F G C B K i;generalize D.tup ((fU a b).map .str)=u1 at *
 generalize D.tup (g.map .str)=u4 at *
 generalize (fI a b).map D.str=u2 at *
 generalize D.tup (b.map .str)=bb at *
 generalize a.map D.str=al at *
 generalize La (flip ts c)=tf at *
 generalize La (seen sh ts)=tz at *
 generalize (seen sh ts).map D.int=tl at *
 generalize La ts=th at *
 generalize (ts.take c).map D.int=k1 at *
 generalize (ts.drop (c+1)).map D.int=k2 at *
 generalize ts.getD c 0=gc at *
 generalize K5 sh=sd at *
 generalize (List.range m).map (λ(k:Nat)=>D.int k)=rl at *
 unfold lV;simp -implicitDefEqProofs [Y,W,td,p1,Z,p3,p4,p5,z1,qt,a1,a2,a3,un,sa,A,q1,lh,s3,L,M,c9,E,T]
theorem Fe (sc Q:D){m c:Nat}(h1 : 1<=m)(hm:m<=6)(I:c<m){d:D}(H:KQ m 5 d){o:List Nat}(W:o.Perm (List.range m)){sh:Sh}(hs:sh.length=m){t:Tr}(ot:Ord o t)(w:Wr o (enc (po t [])))(ev:∀ l,Ev (enc (po t [])) l ((enc (po t [])).length-1) (K0 t l))(O:∀ l ss,Kv l d ss->K0 t l=ss)(ln:(po t []).length<=1023)(S:JP)(kk:JJ Fl)
  (hk:kk=(aN (bt 8 (mS (af (aR iI (af (ag 5) (af (ag 6) (af (ag 4) aA)))) (af (aR gK (af (ag 5) (af (ag 7) (af (ag 4) aA)))) (af (aR l5 (af (ag 5) (af (ag 7) (af (ag 4) aA)))) aA)))))
  (aN (Mw (aY (aI Mv (cz 1 [4] (bM (ag 8)) (aE 0) fu t_) (mS aA))) (aW (aC (.bl false))) bV)
  (aN (jv (bM (aR iG (af (ag 1) aA))) (aE 9) lV)
  (aW (aI Lk (ag 5) (aR gh (af (ag 3) (af (ag 4) aA))))))))) :
  ∃ s,kk [some sc,some (.int m),some Q,some d,some (oD o),some (aK t),some (K5 sh),some (.int c),none,none,none,none,none,none,none] S=JV (.ret (.bl true)) s:=by
 subst hk;have nd:o.Nodup:=W.nodup_iff.mpr List.nodup_range;have OJ:o.length=m:=by rw[W.length_eq,length_range]
 have ho:∀ c,c<m->c∈o:=λc I=>W.mem_iff.mpr (mem_range.mpr I);have J:∀ c∈o,c<m:=λc I=>mem_range.mp (W.mem_iff.mp I);have hR:(enc (po t [])).length<16000000:=by unfold enc;rw[length_map];omega
 have kn:∀ (Z:Sh),Z.length=m->∀ S,∃ n s,iI [aK t,K5 Z,oD o] S=JV (aK n) s/\Ord o n/\Wr o (enc (po n []))/\(∀ l,Ev (enc (po n [])) l ((enc (po n [])).length-1) (K0 n l))/\(∀ l,K0 n l=K0 t (ov Z l))/\(po n []).length<=1023:=λZ h2 S=>by obtain⟨n,s,q,P,_,w',e',U,l'⟩:=B9 (by omega) w (t7 t) hR (λc I=>by rw[h2];exact J c I) S;exact⟨n,s,q,P,w',e',λl=>U l _ (ev _),l'⟩
 have Xo:∀ l,(K0 t l).length<=6:=λl=>by obtain⟨ss,R⟩:=H.total l;rw[O l ss R];exact xG H R
 have cu:∀ (b:Bool) S,∃ n s,cP [aK t,.int c,.int (if b=true then 1 else 0),oD o] S=JV (aK n) s/\Ord o n/\Wr o (enc (po n []))/\(∀ l,Ev (enc (po n [])) l ((enc (po n [])).length-1) (K0 n l))/\(∀ l,K0 n l=K0 t (up c b l)):=λb S=>by
  obtain⟨t0,_,_,o0,w0,e0,s0,_⟩:=kn (QW m c (some b)) (yw _ _ _) []
  obtain⟨s,q⟩:=Gs OJ (by omega) I b (y:=aK t0) (λS=>by
   obtain⟨n,s,q,P,_,_,U,_⟩:=kn (QW m c (some b)) (yw _ _ _) S;have:n=t0:=canon _ (le_refl _) P o0 λl=>by rw[U,s0]
   subst this
   exact⟨s,q⟩) S
  exact⟨t0,s,q,o0,w0,e0,λl=>by rw[s0,G9 I]⟩
 have L:∀ {F G:JO}{g:JJ Fl}{nf:D}{f:List Str->List Str->List Str},F=a9 3 0 g->g=aW (aR G (af (aR cP (af (ag 0) (af (ag 1) (af (aC (.int 0)) (af (ag 2) aA))))) (af (aR cP (af (ag 0) (af (ag 1) (af (aC (.int 1)) (af (ag 2) aA))))) (af (ag 2) aA))))->NF nf f->(∀ {a b c d S s},cO [a,b,c,nf] S=JV d s->∃ s,G [a,b,c] S=JV d s) ->
   ∀ S,∃ n s,F [aK t,.int c,oD o] S=JV (aK n) s/\Ord o n/\Wr o (enc (po n []))/\(∀ l,Ev (enc (po n [])) l ((enc (po n [])).length-1) (K0 n l))/\(∀ l,K0 n l=f (K0 t (up c false l)) (K0 t (up c true l)))/\(po n []).length<=1023:=λ{F G g nf f} hF hg hn hG S=>by
  obtain⟨ta,S1,T,Y,wa,X,sa⟩:=cu false S;obtain⟨tb,S2,q2,V,wb,K,sb⟩:=cu true S1;obtain⟨n,S3,q3,P,_,w',e',U,l',_⟩:=FD nd (by omega) wa wb (EX Y λl=>by rw[sa];exact Xo _) (EX V λl=>by rw[sb];exact Xo _) (t7 ta) (t7 tb) hn S2;obtain⟨S4,N⟩:=hG q3;have T:cP [aK t,.int c,.int 0,oD o] S=JV (aK ta) S1:=T;have q2:cP [aK t,.int c,.int 1,oD o] S1=JV (aK tb) S2:=q2;have N:G [aK ta,aK tb,oD o] S2=JV (aK n) S4:=N;refine⟨n,S4,?_,P,w',e',λl=>by rw[U l _ _ (X l) (K l),sa,sb],l'⟩;subst hF hg;generalize aK n=y1 at *
  generalize aK ta=y2 at *
  generalize aK tb=y3 at *
  generalize aK t=y4 at *
  generalize oD o=y5 at *
  exact aB rfl (by simp[T,q2,N])
 obtain⟨E,S3,f3,o3,w3,YW,YX,b3⟩:=kn sh hs S;obtain⟨B,S4,f4,o4,w4,YY,YZ,b4⟩:=L (F:=gK) (G:=qg) rfl rfl DX (λ{a b c d S s} h=>⟨s,aB rfl (by unfold vU;simp[h])⟩) S3;obtain⟨C,A,f5,o5,w5,Y0,Y1,b5⟩:=L (F:=l5) (G:=qh) rfl rfl z9 (λ{a b c d S s} h=>⟨s,aB rfl (by unfold vY;simp[h])⟩) S4;clear L cu;have i3:=iw nd (by omega) (by rw[OJ];exact J) o3 w3 (by omega) A;have i4:=iw nd (by omega) (by rw[OJ];exact J) o4 w4 (by omega) A;have i5:=iw nd (by omega) (by rw[OJ];exact J) o5 w5 (by omega) A;have z3:Mz [aK E,aK B,aK C] (.lst [aK E,aK B,aK C])=some (.lst [aK E,aK B,aK C]):=b7 (by simp);have s8:cg (.lst [aK E,aK B,aK C])=some [aK E,aK B,aK C]:=rfl
 have cf:bT (aE 0) fu t_ [aK E,aK B,aK C] [none,some (oD o)] A=some ([],A):=by
  have k:Qm (JV false A)=some (false,A):=rfl;have u0:∀ (v:D) (w:Option D),aE 0 v [w,some (oD o)]=some [some v,some (oD o)]:=λ_ _=>rfl;have g3:fu [some (aK E),some (oD o)] A=JV false A:=by generalize aK E=x at *;generalize oD o=y at *;unfold fu;simp[i3,NG]
  have g4:fu [some (aK B),some (oD o)] A=JV false A:=by generalize aK B=x at *;generalize oD o=y at *;unfold fu;simp[i4,NG]
  have g5:fu [some (aK C),some (oD o)] A=JV false A:=by generalize aK C=x at *;generalize oD o=y at *;unfold fu;simp[i5,NG]
  simp[bT,u0,g3,g4,g5,k]
 obtain⟨LH,et,Qe,_⟩:=zH h1 (by omega) A
 obtain⟨ρ',S6,el,x,y,z,u,v,e,rfl⟩:=cU (u:=aE 9) (body:=lV) (λi ρ s => ∃ x y z u v e,ρ=[some sc,some (.int m),some Q,some d,some (oD o),some (aK t),some (K5 sh),some (.int c),some (.lst [aK E,aK B,aK C]),e,x,y,z,u,v])
  (MV LH) 0 [some sc,some (.int m),some Q,some d,some (oD o),some (aK t),some (K5 sh),some (.int c),some (.lst [aK E,aK B,aK C]),none,none,none,none,none,none] A ⟨none,none,none,none,none,none,rfl⟩ (by
   rintro j dd ρ s hj ⟨x,y,z,u,v,e,rfl⟩;obtain⟨ts,OZ,rfl⟩:=mem_map.mp (mem_of_getElem? hj);have M:=Qe ts OZ;obtain⟨a,ka⟩:=H.total (tv ts);obtain⟨b,kb⟩:=H.total (tv (flip ts c));obtain⟨g,kg⟩:=H.total (tv (seen sh ts));have e3:=YW (tv ts);rw[YX,← Dg M hs,O _ _ kg] at e3;have X:=O _ _ ka;have K:=O _ _ kb;rw[Dh M I] at K;have us:=Df c (tv ts);have Y:=B8 H ka;have V:=B8 H kb;have e4:=YY (tv ts);have e5:=Y0 (tv ts);rw[YZ] at e4;rw[Y1] at e5
   have N:fU (K0 t (up c false (tv ts))) (K0 t (up c true (tv ts)))=fU a b/\fI (K0 t (up c false (tv ts))) (K0 t (up c true (tv ts)))=fI a b:=by
    cases hv:tv ts c with
    |false =>
     rw[hv] at K us;rw[us,X,show K0 t (up c true (tv ts))=b from K];exact⟨rfl,rfl⟩
    |true =>
     rw[hv] at K us;rw[us,X,show K0 t (up c false (tv ts))=b from K];exact⟨El V Y,Em V Y⟩
   rw[N.1] at e4;rw[N.2] at e5;obtain⟨x',y',z',u',v',WM,q⟩:=GC sc Q (aK t) hm I M hs H (oD o) ka kb kg s (λS=>uu M w3 J (by omega) e3 S) (λS=>uu M w4 J (by omega) e4 S) (λS=>uu M w5 J (by omega) e5 S) x y z u v
   exact⟨_,rfl,_,WM,q,x',y',z',u',v',_,rfl⟩)
 obtain⟨n,S7,f6,o1',_,_,_,U9,_,_⟩:=rK nd (by omega) ho (by decide) H S6;have T:n=t:=by refine canon _ (le_refl _) o1' ot λl=>?_;obtain⟨ss,R⟩:=H.total l;rw[O l ss R,U9 l ss R]
 subst T;have f6:gh [d,oD o] S6=JV (aK n) S7:=f6;have eq1:Lk (aK n) (aK n)=some (.bl true):=by rw[Cp,decide_eq_true rfl]
 have c4:∀ p q r u v x:Option D,b8 1 [4] [some sc,some (.int m),some Q,some d,some (oD o),some (aK n),some (K5 sh),some (.int c),some (.lst [aK E,aK B,aK C]),p,q,r,u,v,x]=[none,some (oD o)]:=λ_ _ _ _ _ _=>rfl;have si:cg (.lst (MV LH))=some (MV LH):=rfl;have n0:=ne0;refine⟨S7,?_⟩;clear ev YW YY Y0 O YX YZ Y1 U9 Qe i3 i4 i5 w w3 w4 w5 kn Xo;generalize aK n=x1 at *
 generalize aK E=x3 at *
 generalize aK B=x4 at *
 generalize aK C=x5 at *
 generalize oD o=od at *
 generalize MV LH=tl at *
 generalize K5 sh=sd at *
 simp -implicitDefEqProofs [f3,f4,f5,s8,c4,cf,n0,et,si,el,f6,eq1]
theorem Gd (ns:List Int)(_:ns.length<=63):∃ i,CZ [.lst (ns.map .int)] []=some (.ok (.bl true),i):=by
 obtain⟨m,b,a,d,o,u,x,B,C,G,n,e,f⟩:=D9 ns 6 (by decide) (by decide) [];rw[nil_append] at f;have f:lZ [.lst (ns.map .int),.int 6] []=JV (.tup [.int m,.tup (b.map .str),d,oD o]) [.dict a]:=f;have A:∀ S,bq [.lst (ns.map .int),.int 5] S=JV (.int (mix ns 5)) S:=fZ ns 5;have v:∀ S,bq [.lst (ns.map .int),.int 6] S=JV (.int (mix ns 6)) S:=fZ ns 6;have k:cG (.int (mix ns 6)) (.int m)=some (.int (mix ns 6 % m)):=bI (by omega);have E:=pp (mix ns 6) (show (0:Int)<m by omega);obtain⟨c,h⟩:∃ c:Nat,mix ns 6 % m=c:=⟨(mix ns 6 % m).toNat,by omega⟩;rw[h] at k;have nd:o.Nodup:=e.nodup_iff.mpr List.nodup_range;have F:o.length=m:=by rw[e.length_eq,length_range]
 have s:∀ c,c<m->c∈o:=λc h=>e.mem_iff.mpr (mem_range.mpr h);obtain⟨t,g,j,y,_,w,ev,l,ln,_⟩:=rK nd (by omega) s (by decide) n [.dict a];have j:gh [d,oD o] [.dict a]=JV (aK t) g:=j;obtain⟨r,es,z⟩:=A6 (mix ns 5) (m:=m) (by omega) g;have p:ld 4 (bo (aE 1) (bo (aE 2) (bo (aE 3) (bo (aE 4) g0)))) (.tup [.int m,.tup (b.map .str),d,oD o]) [some (.lst (ns.map .int)),none,none,none,none,none,none,none,none,none,none,none,none,none,none]=some [some (.lst (ns.map .int)),some (.int m),some (.tup (b.map .str)),some d,some (oD o),none,none,none,none,none,none,none,none,none,none]:=rfl;obtain⟨i,q⟩:=Fe (.lst (ns.map .int)) (.tup (b.map .str)) u x (c:=c) (by omega) n e z y w ev l ln g _ rfl;refine⟨i,aB rfl ?_⟩;unfold E4;generalize (aN (bt 8 _) _:JJ Fl)=kk at q ⊢;clear ev l w;generalize aK t=y1 at *
 generalize K5 r=y3 at *
 generalize D.tup (b.map .str)=wd at *
 generalize oD o=od at *
 generalize (D.lst (ns.map .int))=sc at *
 simp -implicitDefEqProofs [f,p,j,A,es,v,k,q]
end J3
namespace J3
open PySem L2
theorem fAt {K:JK}{c f:Str}{C:Addr}(n:NC K c C)(g:PySem.W.findIn K (.ref C) f=some none):jy K c f:=⟨C,n.1,n.2,g⟩
theorem all_mk {l:PySem.W.OpenLaw}{w:World}{K:JK}{h:Heap}{mg:JN}{b:Addr}(a:mg "law"=some (.ref b))(T:Top K mg) :
  ∃ fd:FuncData,(∀ (s:Shared) (v:Value),BindsTo s fd ⟨[v],[]⟩ [("_law_script",v)])/\∀ base:Heap,K.In base->base.Ns mainGlobals mg->LG l.prog w K mg base OP 38 b fd ["_law_script"] (yv K 63):=by
 obtain⟨f,fd,c,d,o⟩:=T.U2;have e:=a.symm.trans d;cases e;have ok:∀ base:Heap,P6 l.prog w K mg base 38 b fd ["_law_script"] CZ:=λbase=>Gn T c;obtain⟨i,r,kV,doc,m,q,n,ct,p,rfl,j,k⟩:=c.ex;exact⟨_,λs v => .of_eq rfl,λbase _ _=>Gc (ok base) (by decide) λns g=>Gd ns g⟩
end J3
open PySem PySem.W PyProof.Rows
namespace PySem.W.Fast
def tw9701283083657308749:=0
def tw5938007270877937643:=0
def tw14097651699046914659:=0
def tw18143705176034130177:=0
def tw5303182675048337945:=0
def tw6975444993909982005:=0
def tw18432753407496676463:=0
def tw11744191056958335807:=0
def tw8007147937129298335:=0
def tw4385131020933957931:=0
def tw16463557577209075526:=0
def tw17214176596886978381:=0
def tw15672853149062438078:=0
def tw11160336699197712648:=0
def tw6245380228213824113:=0
def tw15907171797458251768:=0
def tw14621039821006071590:=0
def tw1421457077102625769:=0
def tw6145773222353918171:=0
def tw16678290174155588879:=0
def tw5049803511115173091:=0
def tw2168008099477042502:=0
def tw9276433672943052454:=0
def tw6592973540631280206:=0
def tw459840185508720151:=0
def tw9825467914205562542:=0
def tw8364535602919001781:=0
def tw15084973891961076443:=0
def tw4423635091770874119:=0
def tw6226886578911331755:=0
def tw2865303771281213701:=0
def tw7248077100043998185:=0
def tw6917197848493866355:=0
def tw2297721796469546254:=0
def tw15267144856253515450:=0
def tw13551705399836806435:=0
def tw14277884466212152529:=0
def tw12705842411753437843:=0
def tw7344304115790767607:=0
def tw2707811136532147363:=0
def tw7141413998267922279:=0
def tw6159828441791834522:=0
def tw10700431452107052940:=0
def tw5243977393241727969:=0
def tw2693138188045032571:=0
def tw16552902772342920245:=0
def tw17358321557297199447:=0
def tw16008742511371861241:=0
def tw6248943570563486273:=0
def tw6516677154877993699:=0
def tw12062702676901920930:=0
def tw7816373276957848896:=0
def tw16229103942387622860:=0
def tw9575838606553723830:=0
def tw113964389810297508:=0
def tw15957525526066725040:=0
def tw5283205470296503036:=0
def tw4913193993723012562:=0
def tw14774583174662512460:=0
def tw4270177450375168307:=0
def tw9177093129051018471:=0
def tw13533795075303957170:=0
def tw17748212691415455414:=0
def tw3740824294721421656:=0
def tw10828419094224064728:=0
def tw3300286938469019665:=0
def tw8477366553383990935:=0
def tw14527088539290326279:=0
def tw15817642809658744148:=0
def tw2804826921340201674:=0
def tw1136096683099827574:=0
def tw7237736585507588679:=0
def tw15620772665810113575:=0
def tw6372934680820721870:=0
def tw15589084387555786040:=0
def tw8957825989165841887:=0
def tw14018761952578156409:=0
def tw13014816822254011489:=0
def tw18130816712371355219:=0
def tw3114591810952404125:=0
def tw9702181427371279958:=0
def tw3547923212717731773:=0
def tw93281098407382529:=0
def tw15248138817289301927:=0
def tw10198990651321376175:=0
def tw403707936252956420:=0
def tw6383820396439175962:=0
def tw6224141737882524946:=0
def tw7619362434395255554:=0
def tw17677962816471932875:=0
def tw15487842366038507890:=0
def tw7596275726523191298:=0
def tw3342841887128268299:=0
def tw4442090730652846752:=0
def tw491129273804730075:=0
def tw7209036436830104305:=0
def tw6048150866315333447:=0
def tw13825600387018432234:=0
def tw11580174518246642474:=0
def tw7376625634718187327:=0
def tw8399957315732878317:=0
def tw13523903592525460797:=0
def tw13404525700135948601:=0
def tw9862608313964538176:=0
def tw13916822630269565845:=0
def tw1162779776914744540:=0
def tw10846367208337739281:=0
def tw4887617769682784288:=0
def tw13283598283591753378:=0
def tw3250707219582506309:=0
def tw14413586300746835834:=0
def tw2534477238138237850:=0
def tw17233199746547211044:=0
def tw14976826143083395107:=0
def tw11396264008131519625:=0
def tw14838115369582976518:=0
def tw13000978070461346671:=0
def tw3835089688345640112:=0
def tw4976287018335046716:=0
def tw159173141897145953:=0
def tw11815981949472719051:=0
def tw17183740916010704859:=0
def tw6566813128146695846:=0
def tw13259556904761141593:=0
def tw14837231044487340152:=0
def tw2062060104169067031:=0
def tw4641928041302837872:=0
def tw1319305874877944650:=0
def tw5469938595029113937:=0
def tw14078451988563324060:=0
def tw6371357607243137018:=0
def tw8124759435547801638:=0
def tw10594141211174309134:=0
def tw17792771696858510403:=0
def tw6795270620184204376:=0
def tw17770066634032488639:=0
def tw12830874166868277732:=0
def tw3364632120278742470:=0
def tw12270188978808658790:=0
def tw14256303044680071619:=0
def tw6192678244381690355:=0
def tw3355349338515568515:=0
def tw250676829801752095:=0
def tw3610620848383677531:=0
def tw11680151722912752403:=0
def tw12346637889029249997:=0
def tw2270749819508915079:=0
def tw2586852959176237939:=0
def tw18131153513141375551:=0
def tw10502712453030192274:=0
def tw15206477268965606697:=0
def tw10987380908514161947:=0
def tw4351344899084812978:=0
def tw7060482877972710395:=0
def tw17236672599287897397:=0
def tw2341550903614828345:=0
def tw1926161884426756869:=0
def tw10561362333525446559:=0
def tw4051018600292985510:=0
def tw7377515719455173018:=0
def tw6051038726259343696:=0
def tw14290734865345597361:=0
def tw5796515251593375891:=0
def tw15400182226996917826:=0
def tw9068282525613925479:=0
def tw13057035803474574130:=0
def tw2489463630155991756:=0
def tw8371796266701023814:=0
def tw9415383917627564873:=0
def tw10348719633090794925:=0
def tw11875161020079041462:=0
def tw14127735119326165921:=0
def tw5324283947142911187:=0
def tw16055085363539339178:=0
def tw16288954530025792946:=0
def tw6953973472799301713:=0
def tw9534238768841677726:=0
def tw11855068203126989069:=0
def tw8650170170868149764:=0
def tw15153197853275807380:=0
def tw2775343734167888826:=0
def tw11218917943222051122:=0
def tw14788162689799702284:=0
def tw13868916315342380872:=0
def tw5498790928659665938:=0
def tw17306040166534650766:=0
def tw15811077490627469253:=0
def tw17049430838291904258:=0
def tw870628556107811283:=0
def tw10439947986318485031:=0
def tw10295290046723040729:=0
def tw9214005920757274011:=0
def tw16045540041521617640:=0
def tw211536826252964279:=0
def tw9437058463363638553:=0
def tw17111417116000060397:=0
def tw14756388759629756986:=0
def tw12839772887751540787:=0
def tw17730352680402806790:=0
def tw13045009432571465589:=0
def tw3292551088454150308:=0
def tw16878319677290579766:=0
def tw7685454470666822502:=0
def tw5641375670087798904:=0
def tw17422878381017466416:=0
def tw16445452379575508165:=0
def tw9407246360597419884:=0
def tw11565019350917011273:=0
def tw565452677417982437:=0
def tw402322134358284568:=0
def tw16919719116848537256:=0
def tw17947917661004775152:=0
def tw464942734283041372:=0
def tw16275224783343216907:=0
def tw9736891376586208714:=0
def tw12243745323489746333:=0
def tw5184956055188307347:=0
def tw12096597633343401435:=0
def tw11913167697339689713:=0
def tw9712837431890369845:=0
def tw8954469600173961330:=0
end PySem.W.Fast
set_option maxRecDepth 100000 in
set_option maxHeartbeats 0 in
theorem PySem.Challenge.cw_keyfold_k22_known_and_forgotten_holds : PySem.Challenge.rw_keyfold_k22_known_and_forgotten.Holds := by
 w_on;o_law;k_head;(case hw=>w_witness2)
 k_fill
 refine L2.Qq (l:=PySem.Challenge.rw_keyfold_k22_known_and_forgotten) (k:=38) (x:="_law_script") rfl rfl ⟨rfl,by decide,by decide,rfl⟩ (λw h Y=>PySem.W.kIn_of Y) ?F
 case F =>
  intro w mg fa h KX G T8;refine' J3.all_mk (h:=h) T8 ?T;constructor
  all_goals first
   |exact PySem.W.mg_none_of KX G (by k_is)
   |(refine' L2.Z5 KX G ?a (L2.fE ?l ?c ?k) ?b;(case a=>k_is);(case l=>k_is);(case c=>k_is);(case k=>k_is);(case b=>first |exact L2.WN λ_ _ _ _ _ _ _=>rfl |exact L2.UL λ_ _ _ _ _ _ _ _=>rfl |exact L2.WO λ_ _ _ _ _ _ _ _ _=>rfl |exact L2.WQ λ_ _ _ _ _ _ _ _ _ _=>rfl))
   |(refine' L2.Z6 ⟨?n,⟨?k0,?k1,?k2,?k3⟩⟩ ?a ?i (L2.fE ?l ?c ?k) ?b;(case n=>k_is);(case k0=>k_is);(case k1=>k_is);(case k2=>k_is);(case k3=>k_is);(case a=>k_is);(case i=>k_is);(case l=>k_is);(case c=>k_is);(case k=>k_is);(case b=>first |exact L2.WN λ_ _ _ _ _ _ _=>rfl |exact L2.UL λ_ _ _ _ _ _ _ _=>rfl |exact L2.WO λ_ _ _ _ _ _ _ _ _=>rfl |exact L2.WQ λ_ _ _ _ _ _ _ _ _ _=>rfl))
   |(refine' L2.Z7 KX G ⟨?n,⟨?k0,?k1,?k2,?k3⟩⟩ ?k4 ?k5 ?a ?i (L2.fE ?l ?c ?k) ?b;(case n=>k_is);(case k0=>k_is);(case k1=>k_is);(case k2=>k_is);(case k3=>k_is);(case k4=>k_is);(case k5=>k_is);(case a=>k_is);(case i=>k_is);(case l=>k_is);(case c=>k_is);(case k=>k_is);(case b=>first |exact L2.WN λ_ _ _ _ _ _ _=>rfl |exact L2.UL λ_ _ _ _ _ _ _ _=>rfl |exact L2.WO λ_ _ _ _ _ _ _ _ _=>rfl |exact L2.WQ λ_ _ _ _ _ _ _ _ _ _=>rfl))
   |(refine' J3.fAt ⟨?n,⟨?k0,?k1,?k2,?k3⟩⟩ ?g;(case n=>k_is);(case k0=>k_is);(case k1=>k_is);(case k2=>k_is);(case k3=>k_is);(case g=>k_is))
