import PyProof.Rows.All
import Wide.All
import OpenK.AllK
import Wide.FinOn
import Lean
import PyProof.EqAt
import PyProof.EqKinds
import PyProof.TupleCall
import KE.KNest
import PyProof.SetRoads
import PyProof.SetNew
import PyProof.CollectIter
import PyProof.DictWalks
import PyProof.Walks
import PyProof.RulesTry
import PyProof.FactsAll.set
import PyProof.WalksMore
import PyProof.FactsAll.subtypes
import PyProof.ExcAttrAll.ValueError
import PyProof.Rows.StrJoin2
import PyProof.Rows.FStr
import PyProof.ExcBaseAll.ValueError
import PyProof.StrCalls2
import PyProof.StrBlockH
import PyProof.MeetsStr2
import PyProof.Rows.SeqMore2
import KE.KDictList
import PyProof.ZipIter
import PyProof.Draws
import PyProof.DictTruth
import PyProof.Rows.SortShellK
import PyProof.Rows.SortWalk
import PyProof.Rows.Range3
import KE.KLam
import KE.KNestM
import KE.KMinKey
import PySem.Challenge.RW_keyfold_k33_whole_next
open List(all_cons all_eq_true any_cons any_eq_true any_map append_nil cons_append drop_eq_getElem_cons drop_eq_nil_of_le drop_zero ext_getElem? filter_cons find?_cons flatten_cons foldl_cons forIn_cons forIn_nil getD_eq_getElem?_getD getElem?_append_left getElem?_append_right getElem?_cons_succ getElem?_drop getElem?_map getElem?_of_mem getElem?_range getElem?_replicate getElem?_set_ne getElem?_set_self getElem?_take getElem_idxOf getElem_mem getElem_of_mem idxOf_cons idxOf_lt_length_iff length_cons length_drop length_eq_zero_iff length_filter_le length_map length_nil length_range length_replicate length_set length_singleton length_take lookup_append lookup_cons mapM_cons map_append map_congr_left map_cons map_drop map_id map_map map_nil map_take mem_append mem_append_left mem_append_right mem_cons mem_cons_of_mem mem_cons_self mem_filter mem_map mem_of_getElem? mem_of_mem_take mem_range mem_singleton mergeSort_perm nil_append nodup_append nodup_cons nodup_nil not_mem_nil of_mem_zip pairwise_append pairwise_cons pairwise_iff_getElem pairwise_map prefix_refl range' replicate replicate_succ size_toArray take_append_drop take_length take_of_length_le zipIdx_cons)
open Nat(add_assoc le_refl le_succ lt_min lt_of_lt_of_le lt_or_ge lt_succ_of_lt lt_succ_self min_le_right mul_comm ne_of_gt ne_of_lt one_le_two_pow pow_le_pow_right pow_succ sub_self zero_add zero_le)
open Option(bind_eq_some_iff bind_some getD_none getD_some isSome_map map_eq_some_iff map_some pure_def)
open Bool(and_eq_true false_eq_true or_eq_true)
open Array(getElem?_toList getElem_mem_toList getElem_toList length_toList perm_iff_toList_perm size_append toList_append toList_extract toList_push)
local macro_rules|`(tactic|decide)=>`(tactic|decide +kernel)
set_option Elab.async false
set_option linter.all false
set_option maxRecDepth 100000
set_option maxHeartbeats 4000000
noncomputable section
abbrev IF:=PySem.W.Frag
abbrev IG:=PySem.Value->PySem.Shared->Prop
abbrev II:=List (PySem.Addr×PySem.Obj)
abbrev IJ:=PySem.Str->Option PySem.Value
namespace L2
open PySem PySem.Spec PyProof.Rows
noncomputable instance WH:DecidableEq PyData:=λa b=>Classical.propDecidable (a=b)
def keyOk:Nat->PyData->Bool
 |_,.int _=>true
 |_,.str x=>PyData.strOk x
 |n+1,.tuple xs=>xs.all (keyOk n)
 |_,_=>false
def Pz (w:World):Nat->PyData->Int
 |_,.int i=>hashInt i
 |_,.str x=>hashStr w x
 |n+1,.tuple xs=>reduceHash (Builtin.Tuple.tupleHashOf (xs.map (Pz w n)))
 |_,_ => 0
def yp:Nat->PyData->Nat
 |n+1,.tuple xs=>(xs.map (yp n)).sum+1
 |_,_ => 1
theorem b9 {n:Nat}{xs:List PyData}(h:keyOk (n+1) (.tuple xs)=true):∀ x∈xs,keyOk n x=true:=by rw[keyOk,all_eq_true] at h;exact h
theorem lw:∀ {n:Nat}{p:PyData},keyOk n p=true->p.canLay0=true:=by
 intro n
 induction n with
 |zero =>
  intro p h;cases p with
  |int i=>rfl
  |str x=>rw[PyData.canLay0];simpa [keyOk] using h
  |_=>simp[keyOk] at h
 |succ n b =>
  intro p h;cases p with
  |int i=>rfl
  |str x=>rw[PyData.canLay0];simpa [keyOk] using h
  |tuple a =>
   rw[PyData.canLay0];have:=b9 h;clear h
   induction a with
   |nil=>rfl
   |cons x a d=>rw[PyData.canLayAll0,b (this x (by simp)),d λy c=>this y (by simp[c])];rfl
  |_=>simp[keyOk] at h
theorem ue:∀ {n:Nat}{p:PyData},keyOk n p=true->p.depth<=n:=by
 intro n
 induction n with
 |zero =>
  intro p h;cases p<;>first |(simp[keyOk] at h;done) |simp[PyData.depth]
 |succ n b =>
  intro p h;cases p with
  |tuple a =>
   rw[PyData.depth];have:=b9 h;clear h;refine Nat.succ_le_succ ?_
   induction a with
   |nil=>rw[PyData.depthAll];omega
   |cons x a d=>rw[PyData.depthAll];exact Nat.max_le.mpr ⟨b (this x (by simp)),d λy c=>this y (by simp[c])⟩
  |int i=>simp[PyData.depth]
  |str i=>simp[PyData.depth]
  |_=>simp[keyOk] at h
theorem qe:∀ {n:Nat}{p q:PyData},keyOk n p=true->keyOk n q=true->PyData.eqv p q=decide (p=q):=by
 have str:∀ x y:Str,PyData.eqv (.str x) (.str y)=decide (PyData.str x = .str y):=λx y=>by
  rw[PyData.eqv];by_cases e:x=y
  ·subst e;simp
  rw[beq_eq_false_iff_ne.mpr e,decide_eq_false (λz=>e (PyData.str.inj z))]
 have int:∀ x y:Int,PyData.eqv (.int x) (.int y)=decide (PyData.int x = .int y):=λx y=>by
  rw[PyData.eqv];by_cases e:x=y
  ·subst e;simp
  rw[beq_eq_false_iff_ne.mpr e,decide_eq_false (λz=>e (PyData.int.inj z))]
 have b:∀ p q:PyData,p≠q->false=decide (p=q):=λp q h=>(decide_eq_false h).symm;intro n
 induction n with
 |zero =>
  intro p q f c;cases p<;>first |(simp[keyOk] at f;done) |skip<;>cases q<;>first |(simp[keyOk] at c;done) |exact int _ _ |exact str _ _ |exact b _ _ (λz=>nomatch z)
 |succ n o =>
  intro p q f c;cases p with
  |tuple d =>
   cases q with
   |tuple a =>
    rw[PyData.eqv];have m:=b9 f;have l:=b9 c;clear f c
    have g:PyData.eqvAll d a=decide (d=a):=by
     induction d generalizing a with
     |nil=>cases a<;>simp[PyData.eqvAll]
     |cons x d r =>
      cases a with
      |nil=>simp[PyData.eqvAll]
      |cons y a =>
       rw[PyData.eqvAll,o (m x (by simp)) (l y (by simp)),r a (λz k=>m z (by simp[k])) (λz k=>l z (by simp[k]))];by_cases e:x=y
       ·subst e;simp
       simp[e]
    rw[g];by_cases e:d=a
    ·subst e;simp
    rw[decide_eq_false e,decide_eq_false (λz=>e (PyData.tuple.inj z))]
   |int i=>rw[PyData.eqv];exact b _ _ (λz=>nomatch z)
   |str i=>rw[PyData.eqv];exact b _ _ (λz=>nomatch z)
   |_=>simp[keyOk] at c
  |int i =>
   cases q with
   |int j=>exact int _ _
   |str j=>rw[PyData.eqv];exact b _ _ (λz=>nomatch z)
   |tuple j=>rw[PyData.eqv];exact b _ _ (λz=>nomatch z)
   |_=>simp[keyOk] at c
  |str i =>
   cases q with
   |int j=>rw[PyData.eqv];exact b _ _ (λz=>nomatch z)
   |str j=>exact str _ _
   |tuple j=>rw[PyData.eqv];exact b _ _ (λz=>nomatch z)
   |_=>simp[keyOk] at c
  |_=>simp[keyOk] at f
theorem tj {h h':Heap}{d:Addr}{o:Obj}{es ep}(w:h.get? d=some o)(hd:o.data = .dict es ep)(C:Heap.SameBut d h h'):∀ {n:Nat}{p:PyData}{v:Value}{as:List Addr},keyOk n p=true->Reads h v p as->Reads h' v p as:=by
 intro n
 induction n with
 |zero =>
  intro p v as b r;cases r with
  |int i t=>exact .int i t
  |str x t=>exact .str x t
  |_=>simp[keyOk] at b
 |succ n q =>
  intro p v as b r;cases r with
  |int i t=>exact .int i t
  |str x t=>exact .str x t
  | @tuple a D B m g as c j e f =>
   have u:a≠d:=by rintro rfl;rw[w] at c;cases c;rw[hd] at e;exact nomatch e
   refine .tuple ((C.2 a u).trans c) j e ?_;have it:=b9 b;clear b c j e;generalize B.toList=l at f
   induction g generalizing l as with
   |nil=>cases f;exact .nil
   |cons x g A =>
    cases f with
    |cons k z=>exact .cons (q (it x (by simp)) k) (A (λy s=>it y (by simp[s])) _ z)
  |_=>simp[keyOk] at b
section
variable {prog:Program}{w:World}{A:Around}{E:IG}{s:Shared}
theorem wc:∀ {n:Nat}{p:PyData}{A:Around}{s:Shared}{v:Value}{as:List Addr}{Q:Int->Shared->Prop},keyOk n p=true->A.units+n<cLine->Reads s.heap v p as->Q (Pz w n p) { s with toks:=s.toks+yp n p } ->
  wpAny (model prog w) A (pyHash v) Q E s:=by
 intro n
 induction n with
 |zero =>
  intro p A s v as Q c B r h;cases r with
  |int i t=>exact wpAny_pyHash_int h
  |str x t=>exact wpAny_pyHash_str h
  |_=>simp[keyOk] at c
 |succ n y =>
  intro p A s v as Q c B r h;cases r with
  |int i t=>exact wpAny_pyHash_int h
  |str x t=>exact wpAny_pyHash_str h
  | @tuple a o items m g as l hc hd C =>
   have d:s.TypeIs (.ref a) "tuple":=⟨o,l,hc⟩;have it:=b9 c;unfold pyHash
   first |unfold pyHashByItsType |skip
   first |refine wpAny_bind (wpAny_cRoomFor_or (.inr (by omega)) ?_) |skip
   refine wpAny_bind (wpAny_specialOf d F.slot_tuple_hash.lookup ?_);show wpAny _ _ (if (some (Value.builtin "tuple.__hash__")==some Value.none)=true then _ else _) Q E s;rw[if_neg (by rw[beq_builtin_none];exact Bool.false_ne_true)];refine wpAny_bind (wpAny_specialOf d F.slot_tuple_hash.lookup ?_);show wpAny _ _ (callSpecialIfBoundUnlessNone? (.ref a) "__hash__" _ >>= _) Q E s;refine wpAny_bind (wpAny_callSpecialIfBoundUnlessNone?_slot d F.slot_tuple_hash (wpAny_call_entry F.slot_tuple_hash d F.entry_tuple_hash ?_ (F.args_tuple_hash_1 _)));show wpAny _ _ (Builtin.Tuple.tupleItemsOf (.ref a) >>= _) _ _ s;refine wpAny_bind (wpAny_tupleItemsOf l hd ?_);refine wpAny_bind ?_;rw[← Array.forIn_toList]
   refine wpAny_forIn_list _
    (λrest (b:Array Int) e => ∃ done left bs,g=done++left/\ReadsAll s.heap rest left bs/\b.toList=done.map (Pz w n)/\e={ s with toks:=s.toks+(done.map (yp n)).sum })
    _ ?_ ?_ _ _ ⟨[],g,as,rfl,C,rfl,rfl⟩
   ·rintro x rest b e ⟨done,left,bs,rfl,f,hb,rfl⟩;cases f with
    | @cons _ _ k u D j z q =>
     refine wpAny_bind (y (A:=A.in1) (it k (by simp)) (by show A.units+1+n<cLine;omega) (s:={ s with toks:=s.toks+(done.map (yp n)).sum }) z ?_)
     first
      |exact wpAny_pure ⟨done++[k],u,j,by simp,q,by simp[hb],by simp[add_assoc]⟩
      |exact wpAny_bind (wpAny_pure (wpAny_pure ⟨done++[k],u,j,by simp,q,by simp[hb],by simp[add_assoc]⟩))
   rintro b e ⟨done,left,bs,rfl,f,hb,rfl⟩;cases f;rw[append_nil] at h;show wpAny _ _ (retInt (Builtin.Tuple.tupleHashOf b.toList)) _ _ _;rw[hb];refine wpAny_ret_mkInt ?_;show wpAny _ _ (if (decide (-(2:Int) ^ 63<=Builtin.Tuple.tupleHashOf (done.map (Pz w n)))&&decide (Builtin.Tuple.tupleHashOf (done.map (Pz w n))<2 ^ 63))=true then _ else _) Q E _;rw[Pz,yp] at h;unfold reduceHash at h;by_cases hr:(decide (-(2:Int) ^ 63<=Builtin.Tuple.tupleHashOf (done.map (Pz w n)))&&decide (Builtin.Tuple.tupleHashOf (done.map (Pz w n))<2 ^ 63))=true
   ·rw[if_pos hr];rw[if_pos hr] at h;exact wpAny_pure (by simpa [add_assoc] using h)
   rw[if_neg hr];rw[if_neg hr] at h;exact wpAny_bind (wpAny_rule (wpAny_pure (by simpa [add_assoc] using h)))
  |_=>simp[keyOk] at c
theorem tm:∀ {n:Nat}{p:PyData}{s:Shared}{v:Value}{as:List Addr}{Q:Bool->Shared->Prop},keyOk n p=true->Reads s.heap v p as->Q true s->wpAny (model prog w) A (eqIsQuiet n v) Q E s:=by
 intro n
 induction n with
 |zero =>
  intro p s v as Q b r h;cases r with
  |int i t=>unfold eqIsQuiet;exact wpAny_pure h
  |str x t=>unfold eqIsQuiet;exact wpAny_pure h
  |_=>simp[keyOk] at b
 |succ n j =>
  intro p s v as Q b r h;cases r with
  |int i t=>unfold eqIsQuiet;exact wpAny_pure h
  |str x t=>unfold eqIsQuiet;exact wpAny_pure h
  | @tuple a o items m g as e hc hd D =>
   have f:s.TypeIs (.ref a) "tuple":=⟨o,e,hc⟩;have it:=b9 b;unfold eqIsQuiet;refine wpAny_bind (wpAny_specialOf f F.slot_tuple_eq.lookup ?_);show wpAny _ _ (isInstance (.ref a) (.type "tuple") >>= _) _ _ s;refine wpAny_bind (wpAny_isInstance f isSubtype_tuple_tuple ?_);simp only[Bool.not_true,false_eq_true,if_false];refine wpAny_bind (wpAny_seqItems e hd ?_);refine wpAny_bind ?_;show wpAny _ _ (forIn items _ _) _ _ s;rw[← Array.forIn_toList];refine wpAny_forIn_list _ (λrest r c=>r.1=none/\c=s/\∃ left bs,ReadsAll s.heap rest left bs/\∀ x∈left,keyOk n x=true) _ ?_ ?_ _ _ ⟨rfl,rfl,g,as,D,it⟩
   ·rintro v rest r c ⟨hr,rfl,left,bs,B,d⟩;cases B with
    | @cons _ _ k C H q u z =>
     refine wpAny_bind (j (d k (by simp)) u ?_);simp only[Bool.not_true,false_eq_true,if_false];exact wpAny_pure ⟨rfl,rfl,C,q,z,λy l=>d y (by simp[l])⟩
   rintro⟨G,I⟩ c ⟨hr,rfl,_⟩;simp only at hr;subst hr;exact wpAny_pure h
  |_=>simp[keyOk] at b
end
noncomputable def kB (prog:Program) (w:World):HeapKind prog w PyData where
 is:=λh p a=>keyOk 8 p=true/\∃ e,Reads h (.ref a) p e
 hash:=Pz w 8
 draws:=yp 8
 room:=λA=>A.units+8<cLine
 inj:=λ⟨c,e,d⟩ ⟨_,bs,f⟩=>SeqAt.Reads.unique _ _ _ _ _ (lw c) d f
 keeps:=λ⟨c,e,d⟩ j hd k=>⟨c,e,tj j hd k c d⟩
 pyHash:=λi ⟨c,e,d⟩ h=>wc c i d h
 eqBool:=λ{A E s x y a b Q} i ⟨c,e,d⟩ ⟨g,bs,f⟩ h=>SeqAt.eqBoolOverData prog w A E s _ _ _ _ _ _ Q d f (lw c) (lw g) (by have:=ue c;omega) (by rw[qe c g];exact h)
 quiet:=λ⟨c,e,d⟩ h=>tm c d h
abbrev Key:=Sum Int Str
def qf:Key->Value->Bool
 | .inl k,v=>Value.isInt k v
 | .inr x,v=>Value.isStrOf x v
def Hh (w:World):Key->Int
 | .inl k=>hashInt k
 | .inr x=>hashStr w x
theorem bg:∀ {k:Key}{v:Value},qf k v=true->(∃ i t,k=Sum.inl i/\v=Value.int i t)∨(∃ x t,k=Sum.inr x/\v=Value.str x t)
 | .inl i,v,h=>by
  obtain⟨t,e⟩:=Value.isInt_shape (k:=i) (v:=v) h;exact .inl ⟨i,t,rfl,e⟩
 | .inr x,v,h=>by
  obtain⟨t,e⟩:=Value.isStrOf_shape (x:=x) (v:=v) h;exact .inr ⟨x,t,rfl,e⟩
theorem y8 (i:Int)(t:Tok):qf (.inl i) (.int i t)=true:=by simp[qf,Value.isInt]
theorem y7 (x:Str)(t:Tok):qf (.inr x) (.str x t)=true:=by simp[qf,Value.isStrOf]
theorem EY (a b:Int):decide ((Sum.inl a:Key)=Sum.inl b)=(a==b):=by
 by_cases e:a=b
 ·subst e;simp
 have h:¬ (Sum.inl a:Key)=Sum.inl b:=λq=>e (Sum.inl.inj q);rw[decide_eq_false h];exact(beq_eq_false_iff_ne.mpr e).symm
theorem EV (a b:Str):decide ((Sum.inr a:Key)=Sum.inr b)=decide (a=b):=by
 by_cases e:a=b
 ·subst e;simp
 have h:¬ (Sum.inr a:Key)=Sum.inr b:=λq=>e (Sum.inr.inj q);rw[decide_eq_false h,decide_eq_false e]
theorem EX (a:Int)(b:Str):decide ((Sum.inl a:Key)=Sum.inr b)=false:=decide_eq_false (λq=>nomatch q)
theorem EW (a:Str)(b:Int):decide ((Sum.inr a:Key)=Sum.inl b)=false:=decide_eq_false (λq=>nomatch q)
def bn (prog:Program)(w:World):PySem.KeyKind prog w Key where
 is:=qf
 hash:=Hh w
 inj:=λv a b g hb=>by
  rcases bg g with ⟨i,t,rfl,rfl⟩ |⟨x,t,rfl,rfl⟩
  ·rcases bg hb with ⟨j,u,rfl,e⟩ |⟨y,u,rfl,e⟩
   ·injection e with c _;rw[c]
   exact nomatch e
  rcases bg hb with ⟨j,u,rfl,e⟩ |⟨y,u,rfl,e⟩
  ·exact nomatch e
  injection e with c _;rw[c]
 byValue:=λk v h=>by
  rcases bg h with ⟨i,t,rfl,rfl⟩ |⟨x,t,rfl,rfl⟩<;>rfl
 pyHash:=λd h=>by
  rcases bg d with ⟨i,t,rfl,rfl⟩ |⟨x,t,rfl,rfl⟩
  ·exact wpAny_pyHash_int h
  exact wpAny_pyHash_str h
 eqBool:=λf d h=>by
  rcases bg f with ⟨i,t,rfl,rfl⟩ |⟨x,t,rfl,rfl⟩
  ·rcases bg d with ⟨j,u,rfl,rfl⟩ |⟨y,u,rfl,rfl⟩
   ·rw[EY] at h;exact wpAny_eqBool_int h
   rw[EX] at h;exact SeqAt.EqAt.int_str i t y u _ _ _ _ h
  rcases bg d with ⟨j,u,rfl,rfl⟩ |⟨y,u,rfl,rfl⟩
  ·rw[EW] at h;exact SeqAt.EqAt.str_int x t j u _ _ _ _ h
  rw[EV] at h;exact wpAny_eqBool_str h
 «strs»:=λk x t v h=>by
  rcases bg h with ⟨i,u,rfl,e⟩ |⟨y,u,rfl,e⟩
  ·exact nomatch e
  injection e with c _
  subst c;cases v<;>rfl
theorem tW (prog:Program)(w:World)(i:Int)(t:Tok):(bn prog w).is (.inl i) (.int i t)=true:=y8 i t
theorem tV (prog:Program)(w:World)(x:Str)(t:Tok):(bn prog w).is (.inr x) (.str x t)=true:=y7 x t
inductive V where
 |Ji |bl (b:Bool) |int (i:Int) |str (x:Str) |Ul (b:Array UInt8) |RF (b:UInt64) |ref (a:Addr) |ty (n:String)
 deriving DecidableEq
def RelV:V->Value->Prop
 | .Ji,u=>u=Value.none
 | .bl b,u=>u=Value.bool b
 | .int i,u => ∃ t,u=Value.int i t
 | .str x,u => ∃ t,u=Value.str x t
 | .Ul b,u => ∃ t,u=Value.bytes b t
 | .RF b,u => ∃ t,u=Value.float b t
 | .ref a,u=>u=Value.ref a
 | .ty n,u=>u=Value.type n
abbrev Vals:List V->List Value->Prop:=Paired RelV
theorem Vals.length {xs:List V}{us:List Value}(r:Vals xs us):xs.length=us.length:=Paired.length r
theorem Vals.get:∀ {xs:List V}{us:List Value}{i:Nat}{x:V},Vals xs us->xs[i]?=some x->∃ u,us[i]?=some u/\RelV x u
 |_,_,_,_,.nil,e=>by simp at e
 |_,_,0,_,.cons r _,e=>by simp at e;subst e;exact⟨_,rfl,r⟩
 |_,_,i+1,x,.cons _ t,e=>by
  obtain⟨u,a,b⟩:=Vals.get (i:=i) (x:=x) t (by simpa using e);exact⟨u,by simpa using a,b⟩
theorem Vals.set {x:V}{u:Value}(r:RelV x u):∀ {xs:List V}{us:List Value}(i:Nat),Vals xs us->Vals (xs.set i x) (us.set i u)
 |_,_,_,.nil => .nil
 |_,_,0,.cons _ t => .cons r t
 |_,_,i+1,.cons q t => .cons q (Vals.set r i t)
theorem Vals.append:∀ {xs ys:List V}{us ws:List Value},Vals xs us->Vals ys ws->Vals (xs++ys) (us++ws)
 |_,_,_,_,.nil,s=>s
 |_,_,_,_,.cons r t,s => .cons r (Vals.append t s)
theorem Vals.take:∀ {xs:List V}{us:List Value}(n:Nat),Vals xs us->Vals (xs.take n) (us.take n)
 |_,_,0,_ => .nil
 |_,_,_+1,.nil => .nil
 |_,_,n+1,.cons r t => .cons r (Vals.take n t)
theorem Vals.drop:∀ {xs:List V}{us:List Value}(n:Nat),Vals xs us->Vals (xs.drop n) (us.drop n)
 |_,_,0,r=>r
 |_,_,_+1,.nil => .nil
 |_,_,n+1,.cons _ t=>Vals.drop n t
def Kt:Option V->Option Value->Prop
 |some v,some u=>RelV v u
 |none,none=>True
 |_,_=>False
def KV {a:Type}:List (a×V)->List (a×Value)->Prop:=Paired λ(p : a×V) (q : a×Value)=>p.1=q.1/\RelV p.2 q.2
def kV:Key->V
 | .inl i => .int i
 | .inr x => .str x
inductive HO where
 |lst (xs:List V)
 |tup (xs:List V)
 |dK (kvs:List (Key×V)) |dT (kvs:List (List Key×V)) |dN (kvs:List (PyData×Addr×V))
 |set (S:Int->Bool) (n:Nat)
 |ins (C dx:Addr) (fs:List (Str×V))
 |own (x:Addr)
 |xd (fs:List (Str×V))
 |met (f x:Addr)
 |U0 (lo hi:Int)
 |OC (o:Obj) (u:HO)
 |LS (ps:Array Value)
 |ext (φ:Heap->Prop)
abbrev Hp:=Addr->Option HO
noncomputable def upd (H:Hp) (a:Addr) (o:HO):Hp:=λb=>if b=a then some o else H b
theorem IY {H:Hp}{a:Addr}{o:HO}:upd H a o a=some o:=by unfold upd;rw[if_pos rfl]
theorem aA {H:Hp}{a b:Addr}{o:HO}(h:b≠a):upd H a o b=H b:=by unfold upd;rw[if_neg h]
theorem Gg {H:Hp}{a b:Addr}{o u:HO}(h:H a=some o)(h':H b=some u)(d:o≠u):a≠b:=by intro e;subst e;rw[h] at h';exact d (Option.some.inj h')
theorem aK {H:Hp}{a b:Addr}{o:HO}(h:H a=some o)(h':H b=none):a≠b:=by intro e;subst e;rw[h] at h';cases h'
def Mp (h:Heap)(a:Addr)(its:Array Value):Prop:=∃ n,h.get? a=some { cls:=.type "tuple",data:=.seq its n }
theorem Mp.tup {h:Heap}{a:Addr}{its:Array Value}(x:Mp h a its):IsTup h a its:=let ⟨n,e⟩:=x;⟨_,e,rfl,n,rfl⟩
theorem Mp.new (h:Heap)(its:Array Value):Mp (h.push { cls:=.type "tuple",data:=.seq its }) h.objs.size its:=⟨_,Heap.get?_push_size _ rfl⟩
section
variable (P:Program) (w:World)
def JC (H:Hp)(h:Heap)(a:Addr):HO->Prop
 | .lst c=>c.length<=sizeLine/\∃ (its:List Value) (n:Nat),Vals c its/\h.get? a=some { cls:=.type "list",data:=.seq its.toArray n }
 | .tup c=>c.length<=sizeLine/\∃ its:List Value,Vals c its/\Mp h a its.toArray
 | .dK b=>b.length<=sizeLine/\(a==sysModules)=false/\∃ k,KV b k/\h.DictOf (bn P w) a k
 | .dT b=>b.length<=sizeLine/\(a==sysModules)=false/\∃ c:List (List Key×Addr×Value),
   Paired (λ(p:List Key×V) (q:List Key×Addr×Value)=>p.1=q.1/\H q.2.1=some (.tup (p.1.map kV))/\RelV p.2 q.2.2) b c /\
   ∃ o es ep,h.get? a=some o/\o.ExactDict/\o.data = .dict es ep/\es.toList=c.map (entryOfKey (tupleKind (bn P w)))/\(c.map (·.1)).Nodup
 | .dN b=>b.length<=sizeLine/\(a==sysModules)=false/\∃ c:List (PyData×Addr×Value),Paired (λp q=>p.1=q.1/\p.2.1=q.2.1/\RelV p.2.2 q.2.2) b c /\
   ∃ o es ep,h.get? a=some o/\o.ExactDict/\o.data = .dict es ep/\es.toList=c.map (entryOfKey (kB P w))/\(c.map (·.1)).Nodup
 | .set S n=>h.SetOf (intKind P w) a S n
 | .ins C e fs=>H e=some (.own a)/\fs.length<=1000/\e≠a/\h.get? a=some (PySem.W.instObj C e) /\
   ∃ d,h.Ns1 e d/\(∀ f,Kt (fs.lookup f) (d f))/\PySem.Within d (fs.map (·.1))
 | .own _ => ∃ o,h.get? a=some o
 | .xd fs => ∃ d,h.Ns1 a d/\∀ f,Kt (fs.lookup f) (d f)
 | .U0 lo m => ∃ t u v,h.get? a=some { cls:=.type "range",data:=.fields #[.int lo t,.int m u,.int 1 v] }
 | .OC o u=>h.get? a=some o/\JC H h a u
 | .LS l=>h.get? a=some { cls:=.none,data:=.fields l }
 | .met f x=>h.get? a=some (PySem.W.methodObj (.ref f) (.ref x))
 | .ext g => g h/\(∃ o,h.get? a=some o)/\∀ j i:Heap,g j->(∀ o,j.get? a=some o->i.get? a=some o)->g i
def K7 (H:Hp)(h:Heap):Prop:=∀ a o,H a=some o->JC P w H h a o
end
section
variable {P:Program}{w:World}{H H':Hp}{h h':Heap}{a:Addr}{o:HO}
theorem JC.lt (x:JC P w H h a o):a<h.objs.size:=by
 cases o with
 |lst c=>obtain⟨_,_,_,_,e⟩:=x;exact Heap.lt_size e
 |tup c=>obtain⟨_,_,_,_,e⟩:=x;exact Heap.lt_size e
 |dK b=>obtain⟨_,_,_,_,o,_,_,e,_⟩:=x;exact Heap.lt_size e
 |dT b=>obtain⟨_,_,_,_,o,_,_,e,_⟩:=x;exact Heap.lt_size e
 |dN b=>obtain⟨_,_,_,_,o,_,_,e,_⟩:=x;exact Heap.lt_size e
 |set S n=>obtain⟨o,_,_,_,e,_⟩:=x;exact Heap.lt_size e
 |ins C j fs=>obtain⟨_,_,_,e,_⟩:=x;exact Heap.lt_size e
 |own y=>obtain⟨_,e⟩:=x;exact Heap.lt_size e
 |xd fs=>obtain⟨_,⟨_,_,_,e,_⟩,_⟩:=x;exact Heap.lt_size e
 |U0 lo k=>obtain⟨_,_,_,e⟩:=x;exact Heap.lt_size e
 |OC i u=>obtain⟨e,_⟩:=x;exact Heap.lt_size e
 |LS d=>exact Heap.lt_size (show h.get? a=some _ from x)
 |met f y=>exact Heap.lt_size (show h.get? a=some _ from x)
 |ext g=>obtain⟨_,⟨_,e⟩,_⟩:=x;exact Heap.lt_size e
theorem Paired.MN {α c:Type}{F G : α->c->Prop}:∀ {l₁:List α}{l₂:List c},Paired F l₁ l₂->(∀ a b,F a b->G a b)->Paired G l₁ l₂
 |_,_,.nil,_ => .nil
 |_,_,.cons r t,f => .cons (f _ _ r) (Paired.MN t f)
theorem JC.K8 (x:JC P w H h a o)(k:∀ b u,(b=a∨H b=some (.own a))->h.get? b=some u->h'.get? b=some u)
  (B:∀ b,H b=some (.own a)->H' b=some (.own a)) (s:∀ b xs,H b=some (.tup xs)->H' b=some (.tup xs)):JC P w H' h' a o:=by
 induction o with
 |lst xs=>obtain⟨z,its,n,r,e⟩:=x;exact⟨z,its,n,r,k _ _ (.inl rfl) e⟩
 |tup xs=>obtain⟨z,its,r,n,e⟩:=x;exact⟨z,its,r,n,k _ _ (.inl rfl) e⟩
 |dK i=>obtain⟨z,y,D,r,g,es,ep,e,c⟩:=x;exact⟨z,y,D,r,g,es,ep,k _ _ (.inl rfl) e,c⟩
 |dT i =>
  obtain⟨z,y,xs,r,g,es,ep,e,c⟩:=x;exact⟨z,y,xs,Paired.MN r λp q z=>⟨z.1,s _ _ z.2.1,z.2.2⟩,g,es,ep,k _ _ (.inl rfl) e,c⟩
 |dN i=>obtain⟨z,y,xs,r,g,es,ep,e,c⟩:=x;exact⟨z,y,xs,r,g,es,ep,k _ _ (.inl rfl) e,c⟩
 |set S n=>obtain⟨g,es,ep,t,e,c⟩:=x;exact⟨g,es,ep,t,k _ _ (.inl rfl) e,c⟩
 |ins C G fs =>
  obtain⟨d,z,ne,e,l,⟨j,es,ep,E,c⟩,r⟩:=x;exact⟨B _ d,z,ne,k _ _ (.inl rfl) e,l,⟨j,es,ep,k _ _ (.inr d) E,c⟩,r⟩
 |own y=>obtain⟨g,e⟩:=x;exact⟨g,k _ _ (.inl rfl) e⟩
 |xd fs=>obtain⟨l,⟨j,es,ep,e,c⟩,r⟩:=x;exact⟨l,⟨j,es,ep,k _ _ (.inl rfl) e,c⟩,r⟩
 |U0 lo I=>obtain⟨t,u,v,e⟩:=x;exact⟨t,u,v,k _ _ (.inl rfl) e⟩
 |OC g u A=>obtain⟨e,q⟩:=x;exact⟨k _ _ (.inl rfl) e,A q⟩
 |LS m =>
  have e:h.get? a=some { cls:=.none,data:=.fields m }:=x;show h'.get? a=some { cls:=.none,data:=.fields m };exact k a _ (.inl rfl) e
 |met f y =>
  have e:h.get? a=some (PySem.W.methodObj (.ref f) (.ref y)):=x;show h'.get? a=some (PySem.W.methodObj (.ref f) (.ref y));exact k a _ (.inl rfl) e
 |ext F=>obtain⟨p,⟨o,e⟩,st⟩:=x;exact⟨st _ _ p λo q=>k _ _ (.inl rfl) q,⟨o,k _ _ (.inl rfl) e⟩,st⟩
theorem K7.lt (x:K7 P w H h)(e:H a=some o):a<h.objs.size:=(x a o e).lt
theorem K7.fresh (x:K7 P w H h)(e:h.objs.size<=a):H a=none:=by
 cases q:H a with
 |none=>rfl
 |some u=>exact absurd (lt_of_lt_of_le (x.lt q) e) (Nat.lt_irrefl _)
theorem K7.kept (x:K7 P w H h)(k:∀ b u,h.get? b=some u->h'.get? b=some u):K7 P w H h':=λa o e =>
 (x a o e).K8 (λb u _ q=>k b u q) (λ_ q=>q) λ_ _ q=>q
theorem K7.laid (x:K7 P w H h)(k:∀ b u,h.get? b=some u->h'.get? b=some u)(f:h.objs.size<=a)(new:JC P w (upd H a o) h' a o):K7 P w (upd H a o) h':=λb u e=>by
 have d:=x.fresh f;by_cases hb:b=a
 ·subst hb;rw[IY] at e;cases e;exact new
 rw[aA hb] at e;exact(x b u e).K8 (λc v _ q=>k c v q) (λc q=>by rw[aA (aK q d)];exact q) λc g q=>by rw[aA (aK q d)];exact q
end
def Rd (H:Hp)(a:Addr)(u:HO):Prop:=H a=some u∨∃ o,H a=some (.OC o u)
theorem Rd.ok {P:Program}{w:World}{H:Hp}{h:Heap}{a:Addr}{u:HO}(r:Rd H a u)(x:K7 P w H h):JC P w H h a u:=by
 rcases r with r |⟨o,r⟩
 ·exact x a u r
 obtain⟨_,q⟩:=x a _ r;exact q
def R9:Option HO->Prop
 |some (.lst _)=>True
 |some (.dK _)=>True
 |some (.dT _)=>True
 |some (.dN _)=>True
 |some (.set _ _)=>True
 |some (.ins _ _ _)=>True
 |some (.ext _)=>True
 |_=>False
section
variable {P:Program}{w:World}{H:Hp}{h h':Heap}{x e:Addr}{o':HO}
theorem K7.write (ok:K7 P w H h)(d:R9 (H x))(g:e=x∨H e=some (.own x))(k:∀ b u,b≠e->h.get? b=some u->h'.get? b=some u)(n:∃ u,h'.get? e=some u)
  (new:JC P w (upd H x o') h' x o'):K7 P w (upd H x o') h':=λb u q=>by
 have i:∀ c y,H c=some (.own y)->c≠x:=λc y r z=>by subst z;rw[r] at d;exact d
 have m:∀ c a,H c=some (.tup a)->c≠x:=λc a r z=>by subst z;rw[r] at d;exact d
 by_cases hb:b=x
 ·subst hb;rw[IY] at q;cases q;exact new
 rw[aA hb] at q;by_cases f:b=e
 ·have j:H b=some (.own x):=by
   rcases g with z |z
   ·exact absurd (f.trans z) hb
   rw[f];exact z
  rw[q] at j;cases j;obtain⟨v,l⟩:=n;exact⟨v,by rw[f];exact l⟩
 refine(ok b u q).K8 (λc v hc r=>k c v ?_ r) (λc r=>by rw[aA (i c b r)];exact r) λc a r=>by rw[aA (m c a r)];exact r
 rcases hc with rfl |hc
 ·exact f
 rintro rfl;rcases g with z |z
 ·exact i c b hc z
 rw[hc] at z;cases z;exact hb rfl
end
structure Un (fs ex:List Addr) (H H':Hp) (h h':Heap):Prop where
 keep:∀ b o,h.get? b=some o->H b=none->b∉fs->b∉ex->h'.get? b=some o
 slot:∀ b o,h.get? b=some o->H b=none->b∈fs->b∉ex->∃ sl,h'.get? b=some { o with slots:=sl }
 free:∀ b o,h.get? b=some o->H b=none->b∉ex->H' b=none
 there:∀ b o,h.get? b=some o->b∉ex->∃ o',h'.get? b=some o'
 MP:∀ b xs,H b=some (.tup xs)->H' b=some (.tup xs)
 Mq:∀ b o u,H b=some (.OC o u)->H' b=some (.OC o u)
 Mr:∀ b ps,H b=some (.LS ps)->∃ more,H' b=some (.LS (ps++more))
section
variable {fs WI ex ex':List Addr}{H H1 H2:Hp}{h h1 h2 h':Heap}{a x e:Addr}{o:HO}
theorem Un.any (u:Un fs ex H H1 h h1){b:Addr}{a:Obj}(q:h.get? b=some a)(n:H b=none)(c:b∉ex):∃ d,h1.get? b=some { a with slots:=d }:=by
 by_cases hb:b∈fs
 ·exact u.slot b a q n hb c
 exact⟨a.slots,u.keep b a q n hb c⟩
theorem Un.kept (k:∀ b u,h.get? b=some u->h'.get? b=some u):Un fs ex H H h h':=
 ⟨λb a q _ _ _=>k b a q,λb a q _ _ _=>⟨a.slots,k b a q⟩,λ_ _ _ n _=>n,λb a q _=>⟨a,k b a q⟩,λ_ _ q=>q,λ_ _ _ q=>q,λ_ c q=>⟨#[],by rw[q];simp⟩⟩
theorem Un.refl:Un fs ex H H h h:=Un.kept λ_ _ q=>q
theorem Un.laid (k:∀ b u,h.get? b=some u->h'.get? b=some u)(e:h.objs.size<=a)(c:H a=none):Un fs ex H (upd H a o) h h' where
 keep:=λb u q _ _ _=>k b u q
 slot:=λb u q _ _ _=>⟨u.slots,k b u q⟩
 free:=λb u q n _=>by rw[aA (ne_of_lt (lt_of_lt_of_le (Heap.lt_size q) e))];exact n
 there:=λb u q _=>⟨u,k b u q⟩
 MP:=λb d q=>by rw[aA (aK q c)];exact q
 Mq:=λb u d q=>by rw[aA (aK q c)];exact q
 Mr:=λb f q=>⟨#[],by rw[aA (aK q c),q];simp⟩
theorem Un.write (a:R9 (H x))(i:e=x∨H e=some (.own x))(k:∀ b u,b≠e->h.get? b=some u->h'.get? b=some u)(l:∃ u,h'.get? e=some u):Un fs ex H (upd H x o) h h':=by
 have d:∀ b,H b=none->b≠x:=λb n z=>by subst z;rw[n] at a;exact a
 have hb:∀ b,H b=none->b≠e:=λb n z=>by
  subst z;rcases i with r |r
  ·exact d b n r
  rw[n] at r;cases r
 have c:∀ b u,H b=some u->¬ R9 (some u)->b≠x:=λb u q j z=>by subst z;rw[q] at a;exact j a
 refine⟨λb u q n _ _=>k b u (hb b n) q,λb u q n _ _=>⟨u.slots,k b u (hb b n) q⟩,λb u q n _=>by rw[aA (d b n)];exact n,λb u q _=>?_,
  λb g q=>by rw[aA (c b _ q λz=>z)];exact q,λb u g q=>by rw[aA (c b _ q λz=>z)];exact q,λb m q=>⟨#[],by rw[aA (c b _ q λz=>z),q];simp⟩⟩
 by_cases f:b=e
 ·subst f;exact l
 exact⟨u,k b u f q⟩
end
def Um (h:Heap)(H:Hp):List Addr:=(List.range h.objs.size).filter λa=>(H a).isSome
def rJ (h:Heap)(H:Hp):Heap:=PySem.W.hideAll h (Um h H)
theorem zb (h:Heap)(H:Hp):(rJ h H).objs.size=h.objs.size:=PySem.W.hideAll_size _ _
theorem oq {h:Heap}{H:Hp}{b:Addr}{o:Obj}(e:h.get? b=some o)(n:H b=none):(rJ h H).get? b=some o:=
 PySem.W.hideAll_get _ e λa=>by
  have q:(H b).isSome=true:=(mem_filter.mp a).2;rw[n] at q;simp at q
theorem CS {h:Heap}{H:Hp}{b:Addr}{o:Obj}(e:(rJ h H).get? b=some o):h.get? b=some o/\H b=none:=by
 have a:h.get? b=some o:=PySem.W.of_hideAll (Um h H) e;refine⟨a,?_⟩;cases q:H b with
 |none=>rfl
 |some x =>
  have c:b∈Um h H:=mem_filter.mpr ⟨mem_range.mpr (Heap.lt_size a),by simp[q]⟩;have z:(rJ h H).get? b=none:=PySem.W.hideAll_none (Um h H) c;rw[z] at e;cases e
def DC (g h:Heap)(L:Addr):II:=(List.range h.objs.size).filterMap λa=>if a=L∨(g.get? a).isSome=true then none else (h.get? a).map λo=>(a,o)
def rest (g h:Heap)(L d:Addr):II:=(DC g h L).filter λp=>decide (p.1≠d)
structure Mod (K:IF) (mg:IJ) (base:Heap):Prop where
 OD:K.In base
 glob:base.Ns mainGlobals mg
 blt:∃ mb,base.Ns builtinsNs mb/\∀ x:Str,x≠"__name__"->mb x=bootBuiltins x
 nolimit:base.NoLimit
structure Cx where
 prog:Program
 w:World
 K:IF
 mg:IJ
 base:Heap
 A:Around
 N:List Str
 s₀:Shared
 H₀:Hp
 env:Env
 outer:List Env
 stack:List Env
 ex:List Addr
 fn:Str->Bool
 calm:Bool
 pn:II
 xe:IG
def N8 (l:List Env):List Addr:=l.filterMap (·.frame)
abbrev Cx.fs (X:Cx):List Addr:=N8 X.outer
def Sa (sc:Scope)(x:Str):Prop:=sc.names.lookup x=some .local∨sc.names.lookup x=some .cell∨sc.names.lookup x=some .free
def Loc (sc:Scope)(x:Str):Prop:=sc.names.lookup x=some .local∨sc.names.lookup x=some .cell
def Look (env:Env)(h:Heap)(m:IJ)(x:Str)(u:Value):Prop:=
 (env.kindOf x=some .local/\m x=some u)∨((env.kindOf x=some .cell∨env.kindOf x=some .free)/\∃ c,env.cells.lookup x=some c/\h.IsCell c (some u))
structure Cx.Ok (X:Cx):Prop where
 mod:Mod X.K X.mg X.base
 kind:X.env.scope.kind = .function
 glob:X.env.globals=mainGlobals
 blt:X.env.builtins=builtinsNs
 above:X.s₀.heap.objs.size<=X.env.locals
 inj:∀ x y c,X.env.cells.lookup x=some c->X.env.cells.lookup y=some c->x=y
 has:∀ x,(X.env.kindOf x=some .cell∨X.env.kindOf x=some .free)->∃ c,X.env.cells.lookup x=some c
 Sb:∀ x c,X.fn x=true->X.env.cells.lookup x=some c->X.s₀.heap.objs.size<=c
 hd:X.calm=true->X.A.handled=none
 frames:X.A.frames=some X.stack
 Uo:X.stack=X.outer∨(X.stack=X.env::X.outer/\X.env.frame=some X.env.locals)
 WJ:∀ b∈X.ex,b≠X.env.locals/\∀ x c,X.env.cells.lookup x=some c->c≠b
 bs:∀ b o,X.base.get? b=some o->X.s₀.heap.get? b=some o/\X.H₀ b=none
 Pj:X.base.objs.size<=X.s₀.heap.objs.size
 OQ:∀ b o,X.base.get? b=some o->b∉X.ex
 PB:∀ b∈X.ex,b∉X.fs
 LG:X.s₀.heap.FunFrames X.base X.outer
 QM:∀ b∈X.fs,X.H₀ b=none
structure Inv (X:Cx) (pins:II) (σ:List (Option V)) (H:Hp) (s:Shared):Prop where
 ok:X.Ok
 os:s.os=X.s₀.os
 bare:AllBare s.gens
 base:Un X.fs X.ex X.H₀ H X.s₀.heap s.heap
 loc:∃ m,s.heap.Ns X.env.locals m/\∀ (i:Nat) (x:Str) (v:V),X.N[i]?=some x->σ[i]?=some (some v)->Sa X.env.scope x->∃ u,RelV v u/\Look X.env s.heap m x u
 cell:∀ x c,X.env.cells.lookup x=some c->∃ v,s.heap.IsCell c v
 free:H X.env.locals=none
 Kx:∀ x c,X.env.cells.lookup x=some c->H c=none
 pin:∀ p∈X.pn++pins,s.heap.get? p.1=some p.2/\H p.1=none/\p.1≠X.env.locals/\p.1∉X.fs/\∀ v,p.2.data≠.cell v
 Jk:K7 X.prog X.w H s.heap
 len : σ.length=X.N.length
section
variable {X:Cx}{pins:II}{σ:List (Option V)}{H H':Hp}{s:Shared}{h':Heap}
theorem Cx.Ok.U2 (ok:X.Ok){b:Addr}{o:Obj}(e:X.base.get? b=some o):b∉X.fs:=λhb=>by have:=(ok.LG.mem hb).1;rw[e] at this;cases this
theorem Inv.bs (I:Inv X pins σ H s):∀ b o,X.base.get? b=some o->s.heap.get? b=some o/\H b=none:=λb o e =>
 ⟨I.base.keep b o (I.ok.bs b o e).1 (I.ok.bs b o e).2 (I.ok.U2 e) (I.ok.OQ b o e),I.base.free b o (I.ok.bs b o e).1 (I.ok.bs b o e).2 (I.ok.OQ b o e)⟩
theorem Inv.bk (I:Inv X pins σ H s):∀ b o,X.base.get? b=some o->s.heap.get? b=some o:=λb o e=>(I.bs b o e).1
theorem Inv.mod (I:Inv X pins σ H s):Mod X.K X.mg X.base:=I.ok.mod
theorem Inv.Mz (I:Inv X pins σ H s):X.K.In s.heap:=I.ok.mod.OD.keeps I.bk
theorem Inv.nolimit (I:Inv X pins σ H s):s.heap.NoLimit:=I.ok.mod.nolimit.keeps I.bk
theorem Inv.lt (I:Inv X pins σ H s):X.env.locals<s.heap.objs.size:=let ⟨_,a,_⟩:=I.loc;a.lt
theorem Inv.sz (I:Inv X pins σ H s):X.s₀.heap.objs.size<=s.heap.objs.size:=Nat.le_trans I.ok.above (Nat.le_of_lt I.lt)
theorem Inv.U3 (I:Inv X pins σ H s){a:Addr}(h:s.heap.objs.size<=a):a∉X.fs:=λhb=>by obtain⟨_,o,b,_⟩:=I.ok.LG.mem hb;exact absurd (lt_of_lt_of_le (Heap.lt_size b) (Nat.le_trans I.sz h)) (Nat.lt_irrefl _)
theorem Inv.QN (I:Inv X pins σ H s):∀ x c,X.env.cells.lookup x=some c->c≠X.env.locals:=λx c e z=>by obtain⟨v,o,a,hd⟩:=I.cell x c e;obtain⟨m,⟨f,es,ep,d,b,_⟩,_⟩:=I.loc;rw[z,d] at a;cases a;rw[b] at hd;cases hd
theorem Inv.LG (I:Inv X pins σ H s):s.heap.FunFrames X.base X.outer:=by
 have all:∀ (l:List Env),(∀ b∈N8 l,b∈X.fs)->X.s₀.heap.FunFrames X.base l->s.heap.FunFrames X.base l:=by
  intro l
  induction l with
  |nil=>intro _ _;trivial
  |cons env r g =>
   intro d i;obtain⟨f,⟨L,o,c,j,h,hd⟩,hr⟩:=i;have a:L∈X.fs:=d L (by unfold N8;rw[List.filterMap_cons,c];exact mem_cons_self);obtain⟨k,e⟩:=I.base.slot L o h (I.ok.QM L a) a λz=>I.ok.PB L z a;exact⟨f,⟨L,_,c,j,e,hd⟩,g (λb hb=>d b (by unfold N8;rw[List.filterMap_cons,c];exact mem_cons_of_mem _ hb)) hr⟩
 exact all X.outer (λ_ hb=>hb) I.ok.LG
theorem Inv.stack (I:Inv X pins σ H s):s.heap.FunFrames X.base X.stack:=by
 rcases I.ok.Uo with e |⟨e,a⟩
 ·rw[e];exact I.LG
 rw[e];obtain⟨m,b,_⟩:=I.loc;refine .cons (by rw[I.ok.kind];decide) a b ?_ I.LG;exact Heap.get?_none_of_le (Nat.le_trans I.ok.Pj I.ok.above)
theorem Inv.MQ (I:Inv X pins σ H s):∀ b∈N8 X.stack,b∈X.env.locals::X.fs:=λb hb=>by
 rcases I.ok.Uo with e |⟨e,a⟩
 ·rw[e] at hb;exact mem_cons_of_mem _ hb
 rw[e] at hb;unfold N8 at hb;rw[List.filterMap_cons,a] at hb;exact hb
theorem Inv.MR (I:Inv X pins σ H s):∀ b∈N8 X.stack,H b=none:=λb hb=>by
 rcases mem_cons.mp (I.MQ b hb) with e |hb
 ·rw[e];exact I.free
 obtain⟨_,o,a,_⟩:=I.ok.LG.mem hb;exact I.base.free b o a (I.ok.QM b hb) λz=>I.ok.PB b z hb
theorem Inv.step {g':Array GenState}{t':Nat}{d':Drawn}{ch:List Addr}(I:Inv X pins σ H s)
  (j:∀ b∈ch,(b∈X.ex∨X.s₀.heap.objs.size<=b)/\b≠X.env.locals/\(∀ x c,X.env.cells.lookup x=some c->c≠b)/\∀ p∈X.pn++pins,p.1≠b)
  (keep:∀ b o,b≠X.env.locals->b∉X.fs->b∉ch->s.heap.get? b=some o->H b=none->h'.get? b=some o)
  (slot:∀ b o,b≠X.env.locals->b∈X.fs->b∉ch->s.heap.get? b=some o->H b=none->∃ D,h'.get? b=some { o with slots:=D }) (free:∀ b o,b∉ch->s.heap.get? b=some o->H b=none->H' b=none)
  (there:∀ b o,b∉ch->s.heap.get? b=some o->∃ y,h'.get? b=some y)
  (MP:∀ b xs,H b=some (.tup xs)->H' b=some (.tup xs)) (Mq:∀ b o u,H b=some (.OC o u)->H' b=some (.OC o u)) (Mr:∀ b B,H b=some (.LS B)->∃ more,H' b=some (.LS (B++more)))
  (ns:∀ m,s.heap.Ns X.env.locals m->h'.Ns X.env.locals m) (Jk:K7 X.prog X.w H' h') (J:AllBare g') :
  Inv X pins σ H' { s with heap:=h',gens:=g',drawn:=d',toks:=t' }:=by
 have E:∀ b o,X.s₀.heap.get? b=some o->b≠X.env.locals:=λb o e=>ne_of_lt (lt_of_lt_of_le (Heap.lt_size e) I.ok.above)
 have C:∀ b o,X.s₀.heap.get? b=some o->b∉X.ex->b∉ch:=λb o e a hb=>by
  rcases (j b hb).1 with z |z
  ·exact a z
  exact absurd (lt_of_lt_of_le (Heap.lt_size e) z) (Nat.lt_irrefl _)
 have f:∀ x c,X.env.cells.lookup x=some c->∀ v,s.heap.IsCell c v->h'.IsCell c v:=λx c e v N=>by
  obtain⟨o,h,hd⟩:=N
  have t:c∉ch:=λz=>(j c z).2.2.1 x c e rfl;by_cases hc:c∈X.fs
  ·obtain⟨D,q⟩:=slot c o (I.QN x c e) hc t h (I.Kx x c e);exact⟨_,q,hd⟩
  exact⟨o,keep c o (I.QN x c e) hc t h (I.Kx x c e),hd⟩
 refine⟨I.ok,I.os,J,⟨λb o e n hb a=>?_,λb o e n hb a=>?_,λb o e n a=>?_,λb o e a=>?_,λb xs e=>MP b xs (I.base.MP b xs e),λb o xs e=>Mq b o xs (I.base.Mq b o xs e),λb B e=>?_⟩,?_,λx c e=>?_,?_,λx c e=>?_,λp F=>?_,Jk,I.len⟩
 ·exact keep b o (E b o e) hb (C b o e a) (I.base.keep b o e n hb a) (I.base.free b o e n a)
 ·obtain⟨D,g⟩:=I.base.slot b o e n hb a;obtain⟨L,A⟩:=slot b _ (E b o e) hb (C b o e a) g (I.base.free b o e n a);exact⟨L,A⟩
 ·obtain⟨y,g⟩:=I.base.there b o e a;exact free b y (C b o e a) g (I.base.free b o e n a)
 ·obtain⟨y,g⟩:=I.base.there b o e a;exact there b y (C b o e a) g
 ·obtain⟨m1,g⟩:=I.base.Mr b B e;obtain⟨m2,A⟩:=Mr b _ g;exact⟨m1++m2,by rw[A,Array.append_assoc]⟩
 ·obtain⟨m,O,M⟩:=I.loc;refine⟨m,ns m O,λi x v g A K=>?_⟩;obtain⟨u,r,l⟩:=M i x v g A K;refine⟨u,r,?_⟩;rcases l with l |⟨k,c,e,z⟩
  ·exact .inl l
  exact .inr ⟨k,c,e,f x c e _ z⟩
 ·obtain⟨v,z⟩:=I.cell x c e;exact⟨v,f x c e v z⟩
 ·obtain⟨m,⟨o,_,_,h,_⟩,_⟩:=I.loc;exact free _ o (λz=>(j _ z).2.1 rfl) h I.free
 ·obtain⟨v,o,h,hd⟩:=I.cell x c e;exact free c o (λz=>(j c z).2.2.1 x c e rfl) h (I.Kx x c e)
 obtain⟨e,n,ne,G,d⟩:=I.pin p F;have t:p.1∉ch:=λz=>(j p.1 z).2.2.2 p F rfl;exact⟨keep p.1 p.2 ne G t e n,free p.1 p.2 t e n,ne,G,d⟩
theorem Inv.un {t':Nat}(I:Inv X pins σ H s)(u:Un X.fs [] H H' s.heap h')(Jk:K7 X.prog X.w H' h'):Inv X pins σ H' { s with heap:=h',toks:=t' }:=by
 obtain⟨m,⟨o,es,ep,a,r⟩,_⟩:=id I.loc;obtain⟨j,f⟩:=u.any a I.free (by simp)
 exact I.step (g':=s.gens) (d':=s.drawn) (ch:=[]) (λ_ z=>nomatch z) (λb o _ hb _ e n=>u.keep b o e n hb (by simp)) (λb o _ hb _ e n=>u.slot b o e n hb (by simp)) (λb o _ e n=>u.free b o e n (by simp)) (λb o _ e=>u.there b o e (by simp)) u.MP u.Mq u.Mr (λl i=>by
  obtain⟨k,g,h,c,d⟩:=i;rw[a] at c;cases c
  exact⟨_,g,h,f,d⟩) Jk I.bare
theorem Inv.call {g':Array GenState}{t':Nat}{d':Drawn}{ch:List Addr}(I:Inv X pins σ H s)(u:Un (N8 X.stack) ch H H' s.heap h')(Jk:K7 X.prog X.w H' h')(i:AllBare g')
  (d:∀ b∈ch,(b∈X.ex∨X.s₀.heap.objs.size<=b)/\b≠X.env.locals/\(∀ x c,X.env.cells.lookup x=some c->c≠b)/\∀ p∈X.pn++pins,p.1≠b) :
  Inv X pins σ H' { s with heap:=h',gens:=g',drawn:=d',toks:=t' }:=by
 obtain⟨m,⟨o,es,ep,f,r⟩,_⟩:=id I.loc;obtain⟨q,a⟩:=u.any f I.free λz=>(d _ z).2.1 rfl
 exact I.step (ch:=ch) d (λb o a hb hc e n=>u.keep b o e n (λz=>(mem_cons.mp (I.MQ b z)).elim a hb) hc) (λb o _ _ hc e n=>u.any e n hc) (λb o hc e n=>u.free b o e n hc) (λb o hc e=>u.there b o e hc) u.MP u.Mq u.Mr (λv l=>by
  obtain⟨t,j,k,g,h⟩:=l;rw[f] at g;cases g
  exact⟨_,j,k,a,h⟩) Jk i
theorem Inv.turned {t':Nat}{it:Addr}(I:Inv X pins σ H s)(k:∀ b o,b≠it->s.heap.get? b=some o->h'.get? b=some o)(l:H it=none)(d:it≠X.env.locals)
  (g:it∈X.ex∨X.s₀.heap.objs.size<=it) (f:∀ x c,X.env.cells.lookup x=some c->c≠it) (i:∀ p∈X.pn++pins,p.1≠it):Inv X pins σ H { s with heap:=h',toks:=t' }:=by
 have a:∀ b u,H b=some u->b≠it:=λb u e z=>by rw[z,l] at e;cases e
 refine I.step (g':=s.gens) (d':=s.drawn) (ch:=[it]) (λb hb=>?_) (λb o _ _ hc e _=>k b o (λz=>hc (by simp[z])) e) (λb o _ _ hc e _=>⟨o.slots,k b o (λz=>hc (by simp[z])) e⟩) (λ_ _ _ _ n=>n)
  (λb o hc e=>⟨o,k b o (λz=>hc (by simp[z])) e⟩) (λ_ _ e=>e) (λ_ _ _ e=>e) (λb t e=>⟨#[],by rw[e];simp⟩) (λm j=>?_) (λb u e=>?_) I.bare
 ·have e:b=it:=by simpa using hb
  subst e;exact⟨g,d,f,i⟩
 ·obtain⟨o,es,ep,h,r⟩:=j;exact⟨o,es,ep,k _ o (Ne.symm d) h,r⟩
 refine(I.Jk b u e).K8 (λc v hc q=>k c v ?_ q) (λ_ q=>q) λ_ _ q=>q;rcases hc with z |z
 ·rw[z];exact a b u e
 exact a c _ z
theorem Inv.tok (I:Inv X pins σ H s)(t:Nat):Inv X pins σ H { s with toks:=t }:=I.un (h':=s.heap) (t':=t) Un.refl I.Jk
theorem Inv.kept {t':Nat}(I:Inv X pins σ H s)(k:∀ b u,s.heap.get? b=some u->h'.get? b=some u):Inv X pins σ H { s with heap:=h',toks:=t' }:=I.un (Un.kept k) (I.Jk.kept k)
theorem Inv.laid {a:Addr}{o:HO}{t':Nat}(I:Inv X pins σ H s)(k:∀ b u,s.heap.get? b=some u->h'.get? b=some u)(c:s.heap.objs.size<=a)(new:JC X.prog X.w (upd H a o) h' a o) :
  Inv X pins σ (upd H a o) { s with heap:=h',toks:=t' }:=I.un (Un.laid k c (I.Jk.fresh c)) (I.Jk.laid k c new)
theorem Inv.write {x e:Addr}{o:HO}{t':Nat}(I:Inv X pins σ H s)(c:R9 (H x))(a:e=x∨H e=some (.own x))(k:∀ b u,b≠e->s.heap.get? b=some u->h'.get? b=some u)(d:∃ u,h'.get? e=some u)
  (new:JC X.prog X.w (upd H x o) h' x o):Inv X pins σ (upd H x o) { s with heap:=h',toks:=t' }:=I.un (Un.write c a k d) (I.Jk.write c a k d new)
theorem Inv.Kj {a:II}(I:Inv X pins σ H s)(h:∀ p∈a,s.heap.get? p.1=some p.2/\H p.1=none/\p.1≠X.env.locals/\p.1∉X.fs/\∀ v,p.2.data≠.cell v):Inv X a σ H s:=
 ⟨I.ok,I.os,I.bare,I.base,I.loc,I.cell,I.free,I.Kx,λp b=>(mem_append.mp b).elim (λz=>I.pin p (mem_append_left _ z)) (h p),I.Jk,I.len⟩
theorem tM {N:List Str}(c:N.Nodup){i j:Nat}{x:Str}(a:N[i]?=some x)(b:N[j]?=some x):i=j:=by obtain⟨f,d⟩:=List.getElem?_eq_some_iff.mp a;obtain⟨g,e⟩:=List.getElem?_eq_some_iff.mp b;exact(List.getElem_inj c).mp (d.trans e.symm)
theorem k7 {M:Model}{A:Around}{E:IG}{i:Nat}{x:Str}{v:V}{u:Value}{Q:Unit->Shared->Prop}(I:Inv X pins σ H s)(Z:X.N.Nodup)(C:X.N[i]?=some x)(l:Loc X.env.scope x)(r:RelV v u)
  (h:∀ s',Inv X pins (σ.set i (some v)) H s'->(∃ a,Heap.SameBut a s.heap s'.heap/\(a=X.env.locals∨X.env.cells.lookup x=some a))->Q () s') (hf:X.fn x=true∨X.env.scope.names.lookup x=some .local:=by first |exact .inl rfl |exact .inr rfl |assumption):wpAny M A (storeName X.env x u) Q E s:=by
 obtain⟨m,L,Y⟩:=id I.loc;have U5:(X.env.scope.kind==.class ||(X.env.scope.kind==.module&&X.env.locals != X.env.globals))=false:=by rw[I.ok.kind];rfl
 have Sf:i < σ.length:=by rw[I.len];exact(List.getElem?_eq_some_iff.mp C).1
 have QN:=I.QN
 have tracked:∀ {a:Addr}{h':Heap},(∃ o,s.heap.get? a=some o/\H a=none)->Heap.SameBut a s.heap h'->K7 X.prog X.w H h':=λ{a h'} ha f b ob e=>by
  obtain⟨_,_,Lf⟩:=ha;refine(I.Jk b ob e).K8 (λc D hc q=>(f.2 c ?_).trans q) (λ_ q=>q) λ_ _ q=>q;rintro rfl;rcases hc with rfl |hc
  ·rw[Lf] at e;cases e
  rw[Lf] at hc;cases hc
 rcases l with hk |hk
 ·refine wpAny_storeName_local hk L (λh' Yo f=>?_) U5;obtain⟨oL,_,_,N9,_⟩:=id L;refine h _ ⟨I.ok,I.os,I.bare,⟨λb o e n hb l=>?_,λb o e n hb l=>?_,I.base.free,λb o e l=>?_,I.base.MP,I.base.Mq,I.base.Mr⟩,⟨_,Yo,λj y S g t G=>?_⟩,λy c e=>?_,I.free,I.Kx,λp J=>?_,tracked ⟨oL,N9,I.free⟩ f,by simpa using I.len⟩ ⟨_,f,.inl rfl⟩
  ·exact(f.2 b (ne_of_lt (lt_of_lt_of_le (Heap.lt_size e) I.ok.above))).trans (I.base.keep b o e n hb l)
  ·obtain⟨O,g⟩:=I.base.slot b o e n hb l;exact⟨O,(f.2 b (ne_of_lt (lt_of_lt_of_le (Heap.lt_size e) I.ok.above))).trans g⟩
  ·obtain⟨P,g⟩:=I.base.there b o e l;exact⟨P,(f.2 b (ne_of_lt (lt_of_lt_of_le (Heap.lt_size e) I.ok.above))).trans g⟩
  ·by_cases B:j=i
   ·subst B;rw[C] at g;cases g;rw[getElem?_set_self Sf] at t;cases t;exact⟨u,r,.inl ⟨hk,by simp⟩⟩
   rw[getElem?_set_ne (Ne.symm B)] at t;obtain⟨U,T,q⟩:=Y j y S g t G;refine⟨U,T,?_⟩;rcases q with ⟨k,e⟩ |⟨k,c,e,z⟩
   ·refine .inl ⟨k,?_⟩;have:y≠x:=λe=>B (tM Z g (e▸C));simp[this,e]
   exact .inr ⟨k,c,e,z.sameBut f (QN y c e)⟩
  ·obtain⟨D,z⟩:=I.cell y c e;exact⟨D,z.sameBut f (QN y c e)⟩
  obtain⟨e,n,ne,K,d⟩:=I.pin p J;exact⟨(f.2 p.1 ne).trans e,n,ne,K,d⟩
 have R:X.fn x=true:=by
  rcases hf with z |z
  ·exact z
  rw[z] at hk;cases hk
 obtain⟨c,hc⟩:=I.ok.has x (.inl hk);obtain⟨D,z⟩:=I.cell x c hc;refine wpAny_storeName_cell I.ok.kind hk hc z (λh' W f=>?_);obtain⟨oc,WM,U7⟩:=id z;refine h { s with heap:=h' } ⟨I.ok,I.os,I.bare,⟨λb o e n hb l=>?_,λb o e n hb l=>?_,I.base.free,λb o e l=>?_,I.base.MP,I.base.Mq,I.base.Mr⟩,⟨m,L.sameBut f (Ne.symm (QN x c hc)),λj y S g t G=>?_⟩,λy F e=>?_,I.free,I.Kx,λp J=>?_,tracked ⟨oc,WM,I.Kx x c hc⟩ f,by simpa using I.len⟩ ⟨c,f,.inr hc⟩
 ·exact(f.2 b (ne_of_lt (lt_of_lt_of_le (Heap.lt_size e) (I.ok.Sb x c R hc)))).trans (I.base.keep b o e n hb l)
 ·obtain⟨O,g⟩:=I.base.slot b o e n hb l;exact⟨O,(f.2 b (ne_of_lt (lt_of_lt_of_le (Heap.lt_size e) (I.ok.Sb x c R hc)))).trans g⟩
 ·obtain⟨P,g⟩:=I.base.there b o e l;exact⟨P,(f.2 b (ne_of_lt (lt_of_lt_of_le (Heap.lt_size e) (I.ok.Sb x c R hc)))).trans g⟩
 ·by_cases B:j=i
  ·subst B;rw[C] at g;cases g;rw[getElem?_set_self Sf] at t;cases t;exact⟨u,r,.inr ⟨.inl hk,c,hc,W⟩⟩
  rw[getElem?_set_ne (Ne.symm B)] at t;obtain⟨U,T,q⟩:=Y j y S g t G;refine⟨U,T,?_⟩;rcases q with q |⟨k,F,e,z'⟩
  ·exact .inl q
  refine .inr ⟨k,F,e,z'.sameBut f ?_⟩;rintro rfl;exact B (tM Z g (I.ok.inj _ _ _ e hc▸C))
 ·by_cases OE:F=c
  ·subst OE;exact⟨_,W⟩
  obtain⟨w2,z2⟩:=I.cell y F e;exact⟨w2,z2.sameBut f OE⟩
 obtain⟨e,n,ne,K,d⟩:=I.pin p J;refine⟨(f.2 p.1 ?_).trans e,n,ne,K,d⟩;intro q;rw[q,WM] at e;have q':oc=p.2:=Option.some.inj e;exact d D (by rw[← q'];exact U7)
theorem nF {M:Model}{A:Around}{E:IG}{i:Nat}{x:Str}{v:V}{u:Value}{Q:Unit->Shared->Prop}(I:Inv X pins σ H s)(b:X.N.Nodup)(e:X.N[i]?=some x)(c:Loc X.env.scope x)(r:RelV v u)
  (h:∀ s',Inv X pins (σ.set i (some v)) H s'->Q () s') (d:X.fn x=true∨X.env.scope.names.lookup x=some .local:=by first |exact .inl rfl |exact .inr rfl |assumption):wpAny M A (storeName X.env x u) Q E s:=
 k7 I b e c r (λs' a _=>h s' a) d
theorem Inv.Si {s':Shared}{ch:List Addr}(I:Inv X pins σ H s)(g:s'.os=s.os)(u:Un (N8 X.stack) ch H H' s.heap s'.heap)(Jk:K7 X.prog X.w H' s'.heap)(d:AllBare s'.gens)
  (a:∀ b∈ch,(b∈X.ex∨X.s₀.heap.objs.size<=b)/\b≠X.env.locals/\(∀ x c,X.env.cells.lookup x=some c->c≠b)/\∀ p∈X.pn++pins,p.1≠b):Inv X pins σ H' s':=by
 obtain⟨h',g',d',t',f⟩:=s';have e:f=s.os:=g;subst e;exact I.call (g':=g') (t':=t') (d':=d') u Jk d a
end
abbrev XK:=Value->Option Addr->Hp->Prop
abbrev St:=List (Option V)
abbrev VK:=V->Hp->Prop
abbrev TE:=St->Hp->VK->Prop
abbrev TT:=St->Hp->(Bool->Hp->Prop)->Prop
abbrev TA:=St->Hp->(List V->Hp->Prop)->Prop
structure Ends where
 nx:St->Hp->Prop
 rt:VK
 bk:St->Hp->Prop:=λ_ _=>False
 ct:St->Hp->Prop:=λ_ _=>False
abbrev TS:=Ends->St->Hp->Prop
def EP (X:Cx)(a:II)(c:St)(Q:VK)(u:Value)(s':Shared):Prop:=∃ v b,Inv X a c b s'/\RelV v u/\Q v b
def TP (X:Cx)(a:II)(d:St)(Q:Bool->Hp->Prop)(b:Bool)(s':Shared):Prop:=∃ c,Inv X a d c s'/\Q b c
def AP (X:Cx)(a:II)(d:St)(Q:List V->Hp->Prop)(us:List Value)(s':Shared):Prop:=∃ b c,Inv X a d c s'/\Vals b us/\Q b c
def SP (X:Cx)(b:II)(D:Ends)(f:Flow)(s':Shared):Prop:=
 match f with
 | .next => ∃ a c,Inv X b a c s'/\D.nx a c
 | .brk => ∃ a c,Inv X b a c s'/\D.bk a c
 | .cont => ∃ a c,Inv X b a c s'/\D.ct a c
 | .ret u => ∃ v a c,Inv X b a c s'/\RelV v u/\D.rt v c
def PE (X:Cx)(e:Expr)(t:TE):Prop:=
 ∀ (a:II) (s:Shared) (b:St) (H:Hp) (Q:VK),Inv X a b H s->t b H Q->wpAny (model X.prog X.w) X.A (eval e X.env) (EP X a b Q) X.xe s
def PT (X:Cx)(e:Expr)(t:TT):Prop:=
 ∀ (a:II) (s:Shared) (b:St) (H:Hp) (Q:Bool->Hp->Prop),Inv X a b H s->t b H Q->wpAny (model X.prog X.w) X.A (isTrue e X.env (eval e X.env)) (TP X a b Q) X.xe s
def PW (X:Cx)(e:Expr)(t:TT):Prop:=
 ∀ (whole:Sem Value) (a:II) (s:Shared) (b:St) (H:Hp) (Q:Bool->Hp->Prop),Inv X a b H s->t b H Q->wpAny (model X.prog X.w) X.A (isTrue e X.env whole) (TP X a b Q) X.xe s
theorem PW.pt {X:Cx}{e:Expr}{t:TT}(h:PW X e t):PT X e t:=h _
def PA (X:Cx)(es:List Expr)(t:TA):Prop:=
 ∀ (pos:Pos) (a:II) (s:Shared) (b:St) (H:Hp) (Q:List V->Hp->Prop),Inv X a b H s->t b H Q->wpAny (model X.prog X.w) X.A (spliced (backTo pos (starEach es X.env))) (AP X a b Q) X.xe s
def PS (X:Cx)(st:Stmt)(t:TS):Prop:=
 ∀ (a:II) (s:Shared) (b:St) (H:Hp) (D:Ends),Inv X a b H s->t D b H->wpAny (model X.prog X.w) X.A (exec st X.env) (SP X a D) X.xe s
def Ny (X:Cx)(st:List Stmt)(t:TS):Prop:=
 ∀ (a:II) (s:Shared) (b:St) (H:Hp) (D:Ends),Inv X a b H s->t D b H->wpAny (model X.prog X.w) X.A (execs st X.env) (SP X a D) X.xe s
theorem Jj {α:Type}{t:Sem α}{Q b : α->Shared->Prop}{M:Model}{A:Around}{E:IG}{s:Shared}(h:wpAny M A t Q E s)(c:∀ a s,Q a s->b a s):wpAny M A t b E s:=wpAny_mono h c λ_ _ x=>x
section
variable {X:Cx}
theorem bin {a b:Expr}{n m:TE}(D:PE X a n)(hb:PE X b m){c:II}{s:Shared}{e:St}{H:Hp}{R:V->V->Hp->Prop}(I:Inv X c e H s)(h:n e H λx k=>m e k λy d=>R x y d)
  {α:Type}{Q : α->Shared->Prop}{f:Value->Value->Sem α}
  (z:∀ v u j x y d,Inv X c e d j->RelV x v->RelV y u->R x y d->wpAny (model X.prog X.w) X.A (f v u) Q X.xe j) :
  wpAny (model X.prog X.w) X.A (eval a X.env) (λv i=>wpAny (model X.prog X.w) X.A (eval b X.env) (λu g=>wpAny (model X.prog X.w) X.A (f v u) Q X.xe g) X.xe i) X.xe s:=by
 refine Jj (D c s e H _ I h) λv q l=>?_;obtain⟨x,k,B,o,r⟩:=l;refine Jj (hb c q e k _ B r) λu j l=>?_;obtain⟨y,d,p,t,C⟩:=l;exact z v u j x y d p o t C
def FJ (i:Nat):TE:=λa H Q => ∃ v,a[i]?=some (some v)/\Q v H
def tC (v:V):TE:=λ_ H Q=>Q v H
theorem Ax {i:Nat}{x:Str}{pos:Pos}(g:X.N[i]?=some x)(d:Sa X.env.scope x)(hd:(x==("__debug__":Str))=false:=by decide)(n:(x==("__classdict__":Str))=false:=by decide):PE X (.Name x pos) (FJ i):=by
 intro a s f H Q I h;obtain⟨v,e,h⟩:=h;obtain⟨m,o,j⟩:=I.loc;obtain⟨u,r,l⟩:=j i x v g e d;have fin:EP X a f Q u s:=⟨v,H,I,r,h⟩;rcases l with ⟨hk,k⟩ |⟨hk,c,hc,b⟩
 ·exact wpAny_Name (wpAny_loadName_local I.ok.kind hk o k fin) hd
 rcases hk with hk |hk
 ·exact wpAny_Name (wpAny_loadName_cell I.ok.kind hk hc b fin) hd
 exact wpAny_Name (wpAny_loadName_free I.ok.kind hk hc b fin n) hd
theorem QO {i j pos}:PE X (.Constant (.int i) j pos) (tC (.int i)):=λ_ _ _ H _ I h=>wpAny_Constant_int ⟨.int i,H,I.tok _,⟨_,rfl⟩,h⟩
theorem Sj {b j pos}:PE X (.Constant (.bool b) j pos) (tC (.bl b)):=λ_ _ _ H _ I h=>Constant_bool ⟨.bl b,H,I,rfl,h⟩
theorem QP {j pos}:PE X (.Constant .none j pos) (tC .Ji):=λ_ _ _ H _ I h=>Constant_none ⟨.Ji,H,I,rfl,h⟩
theorem QQ {x j pos}:PE X (.Constant (.str x) j pos) (tC (.str x)):=λ_ _ _ H _ I h=>Calls.Constant_str ⟨.str x,H,I.tok _,⟨_,rfl⟩,h⟩
def Gl (X:Cx)(x:Str):Prop:=X.env.kindOf x=some .globalImplicit
theorem xo {E:IG}{a:II}{s:Shared}{b:St}{H:Hp}{x:Str}{u:Value}{pos:Pos}{Q:IG}(I:Inv X a b H s)(c:Gl X x)(d:X.mg x=some u)(h:Q u s)
  (hd:(x==("__debug__":Str))=false:=by decide):wpAny (model X.prog X.w) X.A (eval (.Name x pos) X.env) Q E s:=
 Calls.Name_function_global I.ok.kind c (Calls.loadGlobal_global (by rw[I.ok.glob];exact I.mod.glob.keeps I.bk) d h) hd
theorem gH {E:IG}{a:II}{s:Shared}{f:St}{H:Hp}{x:Str}{u:Value}{pos:Pos}{Q:IG}(I:Inv X a f H s)(b:Gl X x)(g:X.mg x=none)(c:bootBuiltins x=some u)(h:Q u s)
  (i:x≠"__name__":=by decide) (hd:(x==("__debug__":Str))=false:=by decide):wpAny (model X.prog X.w) X.A (eval (.Name x pos) X.env) Q E s:=by
 obtain⟨j,e,d⟩:=I.mod.blt;exact Calls.Name_function_global I.ok.kind b (Calls.loadGlobal_builtin (by rw[I.ok.glob];exact I.mod.glob.keeps I.bk) g (by rw[I.ok.blt];exact e.keeps I.bk) ((d x i).trans c) h) hd
theorem CL {x:Str}{v:V}{u:Value}{pos:Pos}(a:Gl X x)(b:X.mg x=none)(c:bootBuiltins x=some u)(r:RelV v u)(d:x≠"__name__":=by decide)(hd:(x==("__debug__":Str))=false:=by decide):PE X (.Name x pos) (tC v):=
 λ_ _ _ H _ I h=>gH I a b c ⟨v,H,I,r,h⟩ d hd
variable {a b:Expr}{ta tb:TE}{pos:Pos}
def PC (X:Cx)(op:CmpOp)(a b:Expr)(t:TE):Prop:=
 ∀ (c:II) (s:Shared) (f:St) (H:Hp) (Q:VK),Inv X c f H s->t f H Q ->
  wpAny (model X.prog X.w) X.A (eval a X.env) (λv e=>wpAny (model X.prog X.w) X.A (eval b X.env) (λu d=>wpAny (model X.prog X.w) X.A (compareOp op v u) (EP X c f Q) X.xe d) X.xe e) X.xe s
theorem tN (b:Expr){op:CmpOp}(h:op≠.In)(d:op≠.NotIn):behindInMarks op b=false:=by
 have a:(op==CmpOp.In)=false:=by cases op<;>first |rfl |exact absurd rfl h
 have c:(op==CmpOp.NotIn)=false:=by cases op<;>first |rfl |exact absurd rfl d
 cases b<;>simp[behindInMarks,a,c]
def tB (t:TE):TT:=λa H Q=>t a H λx b => ∃ c,x = .bl c/\Q c b
theorem EF {op:CmpOp}{t:TE}(h:PC X op a b t)(e:behindInMarks op b=false:=by first |exact tN _ (by decide) (by decide) |rfl):PE X (.Compare a [op] [b] pos) t:=λc s d H Q I f=>wpAny_Compare1 (h c s d H Q I f) e
theorem Am {op:CmpOp}{t:TE}(h:PC X op a b t)(f:behindInMarks op b=false:=by first |exact tN _ (by decide) (by decide) |rfl):PT X (.Compare a [op] [b] pos) (tB t):=by intro e s l H Q I j;refine wpAny_isTrue_Compare1 (Jj (h e s l H _ I j) λv p f=>Jj f λu w i=>Jj i λc r n=>?_) f;obtain⟨x,m,o,g,k⟩:=n;obtain⟨d,rfl,q⟩:=k;cases g;exact wpAny_truthy_bool ⟨m,o,q⟩
theorem En {e:Expr}{t:TE}(h:PE X e t)(c:∀ whole,isTrue e X.env whole=(do let v ← whole;standAt e.pos;holding [v] (truthy v)):=by intro _;rfl):PT X e (tB t):=by intro a s i H Q I f;refine isTrue_plain (Jj (h a s i H _ I f) λv m k=>?_) (c _);obtain⟨x,j,l,b,g⟩:=k;obtain⟨d,rfl,q⟩:=g;cases b;exact wpAny_truthy_bool ⟨j,l,q⟩
variable {tA Uq:TT}{rest:List Expr}
def G9 (t u:TT):TT:=λa H Q=>t a H λc b=>if c=true then u a b Q else Q false b
def Yp (t u:TT):TT:=λa H Q=>t a H λc b=>if c=true then Q true b else u a b Q
def G2 (t:TT):TT:=λa H Q=>t a H λc b=>Q (!c) b
theorem Co (f:PT X a tA):PW X (.BoolOp .And [a] pos) tA:=by
 intro i b s d H Q I h;refine isTrue_and (Jj (f b s d H Q I h) λc g e=>?_);cases c with
 |true=>exact isTrue_and_nil e
 |false=>exact e
theorem Ej (f:PT X a tA):PW X (.BoolOp .Or [a] pos) tA:=by
 intro i b s d H Q I h;refine isTrue_or (Jj (f b s d H Q I h) λc g e=>?_);cases c with
 |false=>exact isTrue_or_nil e
 |true=>exact e
theorem Ek (m:PT X a tA)(hb:PW X (.BoolOp .And (b::rest) pos) Uq):PW X (.BoolOp .And (a::b::rest) pos) (G9 tA Uq):=by
 intro k d s f H Q I h;refine isTrue_and (Jj (m d s f H _ I h) λc j l=>?_);obtain⟨g,i,e⟩:=l;cases c with
 |true=>exact hb k d j f g Q i e
 |false=>exact⟨g,i,e⟩
theorem F3 (m:PT X a tA)(hb:PW X (.BoolOp .Or (b::rest) pos) Uq):PW X (.BoolOp .Or (a::b::rest) pos) (Yp tA Uq):=by
 intro k d s f H Q I h;refine isTrue_or (Jj (m d s f H _ I h) λc j l=>?_);obtain⟨g,i,e⟩:=l;cases c with
 |true=>exact⟨g,i,e⟩
 |false=>exact hb k d j f g Q i e
theorem Eo (f:PT X a tA):PT X (.UnaryOp .Not a pos) (G2 tA):=by intro b s d H Q I h;exact isTrue_not (f b s d H (λc e=>Q (!c) e) I h)
def FV (ta tb:TE):TE:=λa H Q=>ta a H λx b => ∃ c,x = .bl c/\if c=true then tb a b Q else Q (.bl false) b
def FM (ta:TE):TE:=λa H Q=>ta a H λx b => ∃ c,x = .bl c/\Q (.bl (!c)) b
theorem EC {op}{t:TE}(h:PE X a t):PE X (.BoolOp op [a] pos) t:=λb s c H Q I d=>BoolOp_one (h b s c H Q I d)
theorem EG (m:PE X a ta)(hb:PE X (.BoolOp .And (b::rest) pos) tb):PE X (.BoolOp .And (a::b::rest) pos) (FV ta tb):=by
 intro d s f H Q I h;refine BoolOp_and (Jj (m d s f H _ I h) λv k l=>?_);obtain⟨x,g,i,j,e⟩:=l;obtain⟨c,rfl,e⟩:=e;cases j;refine wpAny_truthy_bool ?_;cases c with
 |true=>exact hb d k f g Q i e
 |false=>exact⟨.bl false,g,i,rfl,e⟩
theorem ED (k:PE X a ta):PE X (.UnaryOp .Not a pos) (FM ta):=by intro b s e H Q I h;refine UnaryOp_ (Jj (k b s e H _ I h) λv l j=>?_);obtain⟨x,f,i,g,d⟩:=j;obtain⟨c,rfl,d⟩:=d;cases g;exact not_of (wpAny_truthy_bool ⟨.bl (!c),f,i,rfl,d⟩)
def Yq (t:TT)(ta tb:TE):TE:=λa H Q=>t a H λc b=>if c=true then ta a b Q else tb a b Q
theorem AA {c:Expr}(hc:PT X c tA)(m:PE X a ta)(hb:PE X b tb):PE X (.IfExp c a b pos) (Yq tA ta tb):=by
 intro e s f H Q I h;refine wpAny_IfExp (Jj (hc e s f H _ I h) λd g l=>?_);obtain⟨j,k,i⟩:=l;cases d with
 |true=>exact m e g f j Q k i
 |false=>exact hb e g f j Q k i
end
def MA (K:IF)(H:Hp)(a:Addr)(xs:List V):Prop:=
 Rd H a (.lst xs) ∨
  ∃ (o:Obj) (its:Array Value) (n:Nat),K.lookup a=some o/\o.cls = .type "list"/\o.dict=none/\o.data = .seq its n/\its.size<=sizeLine/\Vals xs its.toList
def Ms (K:IF)(H:Hp)(a:Addr)(xs:List V):Prop:=
 Rd H a (.tup xs) ∨
  ∃ (o:Obj) (its:Array Value) (n:Nat),K.lookup a=some o/\o.cls = .type "tuple"/\o.data = .seq its n/\its.size<=sizeLine/\Vals xs its.toList
def HJ:Value->Option V
 | .none=>some .Ji
 | .bool b=>some (.bl b)
 | .int i _=>some (.int i)
 | .str x _=>some (.str x)
 | .bytes b _=>some (.Ul b)
 | .float b _=>some (.RF b)
 | .ref a=>some (.ref a)
 | .type n=>some (.ty n)
 |_=>none
theorem RelV.abs {x:V}{u:Value}(r:RelV x u):HJ u=some x:=by
 cases x with
 |Ji=>cases r;rfl
 |bl _=>cases r;rfl
 |int _=>obtain⟨t,rfl⟩:=r;rfl
 |str _=>obtain⟨t,rfl⟩:=r;rfl
 |Ul _=>obtain⟨t,rfl⟩:=r;rfl
 |RF _=>obtain⟨t,rfl⟩:=r;rfl
 |ref _=>cases r;rfl
 |ty _=>cases r;rfl
theorem RelV.inj {x y:V}{u:Value}(r:RelV x u)(q:RelV y u):x=y:=Option.some.inj (r.abs.symm.trans q.abs)
theorem Vals.inj:∀ {xs ys:List V}{us:List Value},Vals xs us->Vals ys us->xs=ys
 |_,_,_,.nil,.nil=>rfl
 |_,_,_,.cons r t,.cons a b=>by rw[r.inj a,Vals.inj t b]
section
variable {X:Cx}{pins:II}{σ:St}{H:Hp}{s:Shared}{a:Addr}{xs ys:List V}
theorem Inv.list (I:Inv X pins σ H s)(h:MA X.K H a xs):∃ its:List Value,Vals xs its/\PlainL s.heap a its.toArray/\xs.length<=sizeLine:=by
 rcases h with h |⟨o,its,n,b,hc,hd,c,d,r⟩
 ·obtain⟨z,its,n,r,e⟩:=h.ok I.Jk;exact⟨its,r,⟨_,n,e,rfl,rfl,rfl⟩,z⟩
 refine⟨its.toList,r,⟨o,n,I.Mz a o b,hc,hd,by simpa using c⟩,?_⟩;have e:=r.length;simp only[length_toList] at e;omega
theorem Inv.tuple (I:Inv X pins σ H s)(h:Ms X.K H a xs):∃ its:List Value,Vals xs its/\IsTup s.heap a its.toArray/\xs.length<=sizeLine:=by
 rcases h with h |⟨o,its,n,b,hc,c,d,r⟩
 ·obtain⟨z,its,r,p⟩:=h.ok I.Jk;exact⟨its,r,p.tup,z⟩
 refine⟨its.toList,r,⟨o,I.Mz a o b,hc,n,by simpa using c⟩,?_⟩;have e:=r.length;simp only[length_toList] at e;omega
theorem Inv.LV (I:Inv X pins σ H s)(h:MA X.K H a xs)(h':MA X.K H a ys):xs=ys:=by
 obtain⟨its,r,⟨o,n,e,_,_,d⟩,_⟩:=I.list h;obtain⟨b,g,⟨k,j,c,_,_,f⟩,_⟩:=I.list h';rw[e] at c;cases c;rw[d] at f;injection f with i _
 have:its=b:=by simpa using congrArg Array.toList i
 subst this;exact r.inj g
theorem Inv.Lo (I:Inv X pins σ H s)(h:Ms X.K H a xs)(h':Ms X.K H a ys):xs=ys:=by
 obtain⟨its,r,⟨o,e,_,n,d⟩,_⟩:=I.tuple h;obtain⟨b,g,⟨k,c,_,j,f⟩,_⟩:=I.tuple h';rw[e] at c;cases c;rw[d] at f;injection f with i _
 have:its=b:=by simpa using congrArg Array.toList i
 subst this;exact r.inj g
end
abbrev Cx.Mt (X:Cx)(E:IG):Cx:={ X with xe:=E }
abbrev Cx.Pl (X:Cx):Cx:=X.Mt λ_ _=>False
theorem Cx.Ok.Mt {X:Cx}(ok:X.Ok)(E:IG):(X.Mt E).Ok:=
 ⟨ok.mod,ok.kind,ok.glob,ok.blt,ok.above,ok.inj,ok.has,ok.Sb,ok.hd,ok.frames,ok.Uo,ok.WJ,ok.bs,ok.Pj,ok.OQ,ok.PB,ok.LG,ok.QM⟩
theorem Cx.Ok.Kz {X:Cx}{E:IG}(ok:(X.Mt E).Ok):X.Ok:=
 ⟨ok.mod,ok.kind,ok.glob,ok.blt,ok.above,ok.inj,ok.has,ok.Sb,ok.hd,ok.frames,ok.Uo,ok.WJ,ok.bs,ok.Pj,ok.OQ,ok.PB,ok.LG,ok.QM⟩
section
variable {X:Cx}{pins:II}{σ:St}{H:Hp}{s:Shared}{E:IG}
theorem Inv.Mt (I:Inv X pins σ H s)(E:IG):Inv (X.Mt E) pins σ H s:=⟨I.ok.Mt E,I.os,I.bare,I.base,I.loc,I.cell,I.free,I.Kx,I.pin,I.Jk,I.len⟩
theorem Inv.Kz (I:Inv (X.Mt E) pins σ H s):Inv X pins σ H s:=⟨I.ok.Kz,I.os,I.bare,I.base,I.loc,I.cell,I.free,I.Kx,I.pin,I.Jk,I.len⟩
theorem SP.Kz {D:Ends}{f:Flow}{s':Shared}(h:SP (X.Mt E) pins D f s'):SP X pins D f s':=by
 cases f with
 |next=>obtain⟨a,b,I,q⟩:=h;exact⟨a,b,I.Kz,q⟩
 |brk=>obtain⟨a,b,I,q⟩:=h;exact⟨a,b,I.Kz,q⟩
 |cont=>obtain⟨a,b,I,q⟩:=h;exact⟨a,b,I.Kz,q⟩
 |ret u=>obtain⟨v,a,b,I,r,q⟩:=h;exact⟨v,a,b,I.Kz,r,q⟩
theorem Ny.Pl {st:List Stmt}{t:TS}(h:Ny X.Pl st t):Ny X st t:=λpins s σ H D I a =>
 wpAny_mono (h pins s σ H D (I.Mt _) a) (λ_ _ q=>q.Kz) λ_ _ z=>False.elim z
end
section
variable {X:Cx}{st:Stmt}{rest:List Stmt}{t u:TS}{e:Expr}{te:TE}{pos:Pos}
def FN:TS:=λD a H=>D.nx a H
def FK (t u:TS):TS:=λD a H=>t { D with nx:=u D } a H
theorem PD:Ny X [] FN:=λ_ _ a H _ I h=>wpAny_execs_nil ⟨a,H,I,h⟩
theorem An (g:PS X st t)(d:Ny X rest u):Ny X (st::rest) (FK t u):=by
 intro a s i H D I h;refine wpAny_execs_cons (Jj (g a s i H { D with nx:=u D } I h) λf c q=>?_);cases f with
 |next =>
  obtain⟨b,e,j,q⟩:=q;exact d a c b e D j q
 |ret v=>exact q
 |brk=>exact q
 |cont=>exact q
theorem Cq (c:PS X st t):Ny X [st] t:=by
 intro a s b H D I h;refine wpAny_execs_cons (Jj (c a s b H D I h) λf d q=>?_);cases f with
 |next=>exact wpAny_execs_nil q
 |ret v=>exact q
 |brk=>exact q
 |cont=>exact q
theorem Inv.quiet {a:II}{b:St}{H:Hp}{s:Shared}(I:Inv X a b H s):interactive X.env=false:=by simp[interactive,I.ok.kind]
def FQ (te:TE):TS:=λD a H=>te a H λ_ b=>D.nx a b
theorem Cs (g:PE X e te)(i:swapsWith e none pos.line X.env=pure false:=by rfl):PS X (.Expr e pos) (FQ te):=by intro a s b H D I h;exact wpAny_Expr_any (Jj (g a s b H _ I h) λv k ⟨x,c,f,j,d⟩=>⟨b,c,f,d⟩) I.quiet i
def G1 (te:TE):TS:=λD a H=>te a H D.rt
theorem Es (i:PE X e te):PS X (.Return (some e) pos) (G1 te):=by intro a s b H D I h;exact wpAny_Return_some (Jj (i a s b H _ I h) λv j ⟨x,c,g,f,d⟩=>⟨x,b,c,g,f,d⟩)
def G4 (c:TT)(t u:TS):TS:=λD a H=>c a H λb d=>if b=true then t D a d else u D a d
theorem F4 {c:Expr}{a b:List Stmt}{k:TT}(hc:PT X c k)(n:Ny X a t)(hb:Ny X b u):PS X (.If c a b pos) (G4 k t u):=by
 intro e s f H D I h;refine wpAny_If (Jj (hc e s f H _ I h) λd g m=>?_);obtain⟨j,l,i⟩:=m;cases d with
 |true=>exact n e g f j D l i
 |false=>exact hb e g f j D l i
end
abbrev TG:=V->St->Hp->(St->Hp->Prop)->Prop
abbrev PF:=List V->St->Hp->(St->Hp->Prop)->Prop
def PG (X:Cx)(target:Expr)(t:TG):Prop:=
 ∀ (a:II) (s:Shared) (c:St) (H:Hp) (v:V) (u:Value) (Q:St->Hp->Prop),Inv X a c H s->RelV v u->t v c H Q ->
  wpAny (model X.prog X.w) X.A (assign target X.env u) (λ_ e => ∃ b d,Inv X a b d e/\Q b d) X.xe s
def Qe (X:Cx)(ts:List Expr)(t:PF):Prop:=
 ∀ (a:II) (s:Shared) (d:St) (H:Hp) (c:List V) (e:List Value) (Q:St->Hp->Prop),Inv X a d H s->Vals c e->t c d H Q ->
  wpAny (model X.prog X.w) X.A (assignInOrder ((assignEach ts X.env).map (·.2)) e) (λ_ g => ∃ b f,Inv X a b f g/\Q b f) X.xe s
abbrev BO:=V->V->V->Hp->(Hp->Prop)->Prop
def Fz (X:Cx)(t:BO):Prop:=
 ∀ (a:II) (s:Shared) (b:St) (H:Hp) (o i v:V) (c d u:Value) (Q:Hp->Prop),Inv X a b H s->RelV o c->RelV i d->RelV v u->t o i v H Q ->
  wpAny (model X.prog X.w) X.A (setItem c d u) (λ_ f => ∃ e,Inv X a b e f/\Q e) X.xe s
abbrev QR:=V->V->Hp->VK->Prop
def Ur (X:Cx)(op:Operator)(t:QR):Prop:=
 ∀ (a:II) (s:Shared) (b:St) (H:Hp) (x y:V) (v u:Value) (Q:VK),Inv X a b H s->RelV x v->RelV y u->t x y H Q ->
  wpAny (model X.prog X.w) X.A (inplaceOp op v u) (EP X a b Q) X.xe s
section
variable {X:Cx}{pos:Pos}
def DO (i:Nat):TG:=λv a H Q=>Q (a.set i (some v)) H
theorem CC {i:Nat}{x:Str}(c:X.N.Nodup)(f:X.N[i]?=some x)(b:Loc X.env.scope x)(d:X.fn x=true∨X.env.scope.names.lookup x=some .local:=by first |exact .inl rfl |exact .inr rfl |assumption):PG X (.Name x pos) (DO i):=by intro a s j H v u Q I r h;exact wpAny_assign_Name (nF I c f b r (λg e=>⟨_,H,e,h⟩) d)
def Hm:PF:=λa b H Q=>a=[]/\Q b H
def Gw (t:TG)(u:PF):PF:=λb c H Q => ∃ v r,b=v::r/\t v c H λa d=>u r a d Q
theorem PH:Qe X [] Hm:=by intro a s b H c d Q I r h;obtain⟨e,h⟩:=h;subst e;cases r;exact assignInOrder_nil ⟨b,H,I,h⟩
theorem Av {e:Expr}{es:List Expr}{t:TG}{u:PF}(i:PG X e t)(f:Qe X es u)
  (o:(assignEach (e::es) X.env).map (·.2)=assign e X.env::(assignEach es X.env).map (·.2):=by rfl):Qe X (e::es) (Gw t u):=by
 intro a s j H q w Q I r h;obtain⟨v,p,c,h⟩:=h;subst c;cases r with
 |cons r l =>
  rw[o];refine assignInOrder_cons (Jj (i a s j H _ _ _ I r h) λ_ d m=>?_);obtain⟨b,k,n,g⟩:=m;exact f a d b k _ _ Q n l g
def Hk (K:IF)(n:Nat)(t:PF):TG:=λv c H Q => ∃ a b,v = .ref a/\Ms K H a b/\b.length=n/\t b c H Q
theorem Ez {es:List Expr}{k:Nat}{t:PF}{n:Nat}(hc:X.calm=true)(h:Qe X es t)
  (z:(assignEach es X.env).length=n:=by rfl) (p:(assignEach es X.env).findIdx? (·.1)=none:=by rfl):PG X (.Tuple es k pos) (Hk X.K n t):=by
 intro c s f H v u Q I r d;obtain⟨a,i,l,x,q,d⟩:=d;subst l;cases r;obtain⟨its,g,m,A⟩:=I.tuple x;refine assign_Tuple_tuple (I.ok.hd hc) m (by simp[z,← q,g.length]) p λw j=>?_;have y:Inv X c f H { s with heap:=w }:=I.kept (t':=s.toks) λb o e=>j b o (ne_of_lt (Heap.lt_size e)) e;exact h c _ f H i _ Q y (by simpa using g) d
def Hl (to d:TE)(t:BO):TG:=λv a H Q=>to a H λo b=>d a b λi c=>t o i v c λe=>Q a e
theorem EA {o i:Expr}{to f:TE}{t:BO}(p:PE X o to)(E:PE X i f)(D:Fz X t)
  (G:∀ v,assign (.Subscript o i pos) X.env v=(do
   let b ← holding [v] (eval o X.env);let c ← holding [v,b] (eval i X.env)
   standAt pos
   holding [v,b,c] (setItem b c v)
   release [v,b,c] []):=by intro _;rfl):PG X (.Subscript o i pos) (Hl to f t):=by
 intro a s e H v u Q I r h;rw[G];refine wpAny_bind (wpAny_holding (Jj (p a s e H _ I h) λb l d=>?_));obtain⟨x,w,B,j,n⟩:=d;refine wpAny_bind (wpAny_holding (Jj (E a l e w _ B n) λc A d=>?_));obtain⟨y,g,k,z,F⟩:=d;refine wpAny_bind (wpAny_standAt (wpAny_bind (wpAny_holding (Jj (D a A e g x y v b c u _ k j z r F) λ_ J d=>?_))));obtain⟨m,C,q⟩:=d;exact wpAny_release ⟨e,m,C,q⟩
def FU (c:TE)(g:TG):TS:=λD a H=>c a H λx b=>g x a b D.nx
theorem Ao {b e:Expr}{d:TE}{g:TG}(j:PE X e d)(i:PG X b g)(t:swapsWithSole [b] e pos.line X.env=pure false:=by rfl)(l:swappedStores [b] e X.env=pure none:=by rfl)
  (n:(assignEach [b] X.env).map (·.2)=[assign b X.env]:=by rfl):PS X (.Assign [b] e pos) (FU d g):=by
 intro a s c H D I h;refine wpAny_Assign_stores (Jj (j a s c H _ I h) λv k p=>?_) t l;obtain⟨x,o,r,f,m⟩:=p;rw[n];exact Jj (i a k c o x v _ r f m) λ_ u q=>q
theorem Er {i:Nat}{x:Str}{e:Expr}{c:TE}{a:Pos}(m:X.N.Nodup)(t:X.N[i]?=some x)(d:Loc X.env.scope x)(j:PE X e c)(r:swapsWith e (some (.Name x a)) pos.line X.env=pure false:=by rfl)(o:X.fn x=true∨X.env.scope.names.lookup x=some .local:=by first |exact .inl rfl |exact .inr rfl |assumption) :
  PS X (.Assign [.Name x a] e pos) (FU c (DO i)):=by
 intro b s l H D I h;refine wpAny_Assign_Name (Jj (j b s l H _ I h) λv u p=>?_) r;obtain⟨y,n,q,f,k⟩:=p;exact nF q m t d f (λw g=>⟨_,n,g,k⟩) o
def G8 (i:Nat)(e:TE)(d:QR):TS:=λD a H => ∃ x,a[i]?=some (some x)/\e a H λy b=>d x y b λz c=>D.nx (a.set i (some z)) c
theorem Ew {i:Nat}{x:Str}{e:Expr}{q:TE}{op:Operator}{n:QR}{d:Pos}(O:X.N.Nodup)(p:X.N[i]?=some x)(g:Loc X.env.scope x)(F:PE X e q)(M:Ur X op n)(R:X.fn x=true∨X.env.scope.names.lookup x=some .local:=by first |exact .inl rfl |exact .inr rfl |assumption) :
  PS X (.AugAssign (.Name x d) op e pos) (G8 i q n):=by
 intro a s o H D I h;obtain⟨v,B,h⟩:=h;obtain⟨m,T,S⟩:=I.loc;have L:Sa X.env.scope x:=by rcases g with k |k;exact .inl k;exact .inr (.inl k)
 obtain⟨u,r,l⟩:=S i x v p B L;refine wpAny_AugAssign_Name ?_;have go:wpAny (model X.prog X.w) X.A (eval e X.env) (λw f=>wpAny (model X.prog X.w) X.A (inplaceOp op u w) (λr b=>wpAny (model X.prog X.w) X.A (storeName X.env x r) (λ_=>SP X a D .next) X.xe b) X.xe f) X.xe s:=by refine Jj (F a s o H _ I h) λw J j=>?_;obtain⟨y,P,U,C,K⟩:=j;refine Jj (M a J o P v y u w _ U r C K) λz s2 j=>?_;obtain⟨Z,t,E,Q,Y⟩:=j;exact nF E O p g Q (λs3 W=>⟨_,t,W,Y⟩) R
 rcases l with ⟨hk,V⟩ |⟨hk,c,hc,G⟩
 ·exact wpAny_loadName_local I.ok.kind hk T V go
 rcases hk with hk |hk
 ·exact wpAny_loadName_cell I.ok.kind hk hc G go
 rcases g with k |k
 ·have:X.env.scope.names.lookup x=some .free:=hk;rw[k] at this;cases this
 have:X.env.scope.names.lookup x=some .free:=hk;rw[k] at this;cases this
def FT (to d l:TE)(k:V->V->Hp->VK->Prop)(j:QR)(PK:BO):TS:=λD a H=>to a H λo g=>d a g λi b=>k o i b λx f=>l a f λy c=>j x y c λz h=>PK o i z h λe=>D.nx a e
def GO (X:Cx)(t:V->V->Hp->VK->Prop):Prop:=
 ∀ (a:II) (s:Shared) (b:St) (H:Hp) (o i:V) (c d:Value) (Q:VK),Inv X a b H s->RelV o c->RelV i d->t o i H Q ->
  wpAny (model X.prog X.w) X.A (getItem c d) (EP X a b Q) X.xe s
theorem Cu {o i e:Expr}{to j k:TE}{n:V->V->Hp->VK->Prop}{m:QR}{PK:BO}{op:Operator}{U:Pos}(G:PE X o to)(hi:PE X i j)(q:GO X n)(r:PE X e k)(K:Ur X op m)(hs:Fz X PK)
  (ha:∀ c d new,augStore i c d new=(do holding [new,c,d] (setItem c d new);release [new,c,d] [];pure .next):=by intros;rfl):PS X (.AugAssign (.Subscript o i U) op e pos) (FT to j k n m PK):=by
 intro a s f H D I h;refine wpAny_AugAssign_SubscriptAny (Jj (G a s f H _ I h) λc x b=>?_) ha;obtain⟨x1,M,I1,g,E⟩:=b;refine Jj (hi a x f M _ I1 E) λd s2 b=>?_;obtain⟨x2,p,t,l,Y⟩:=b;refine Jj (q a s2 f p x1 x2 c d _ t g l Y) λold J b=>?_;obtain⟨A,y,I3,r3,L⟩:=b;refine Jj (r a J f y _ I3 L) λv W b=>?_;obtain⟨z,u,R,O,S⟩:=b;refine Jj (K a W f u A z old v _ R r3 O S) λnew Q b=>?_;obtain⟨C,T,B,Z,P⟩:=b;exact Jj (hs a Q f T x1 x2 C c d new _ B g l Z P) λ_ s6 ⟨w,F,N⟩=>⟨f,w,F,N⟩
def Ys (f:Int->Int->Int):QR:=λx y H Q => ∃ i j,x = .int i/\y = .int j/\Q (.int (f i j)) H
theorem E6:Ur X .Add (Ys λi j=>i+j):=by intro a s f H x y v u Q I c d h;obtain⟨i,j,b,e,q⟩:=h;subst b;subst e;obtain⟨t,rfl⟩:=c;obtain⟨g,rfl⟩:=d;exact iadd_int ⟨.int _,H,I.tok _,⟨_,rfl⟩,q⟩
end
structure It where
 go:Nat->Hp->Prop
 Nz:Nat->Hp->V->Hp->Prop
 stop:Nat->Hp->Prop
def f8 (X:Cx)(a:II)(H:Hp)(b:Addr):Prop:=
 H b=none/\b≠X.env.locals/\b∉X.fs/\(b∈X.ex∨X.s₀.heap.objs.size<=b)/\(∀ x c,X.env.cells.lookup x=some c->c≠b)/\∀ p∈X.pn++a,p.1≠b
theorem Inv.KY {X:Cx}{a:II}{d:St}{H H':Hp}{s:Shared}{b:Addr}(I:Inv X a d H s)(hb:s.heap.objs.size<=b)(g:H' b=none):f8 X a H' b:=by
 refine⟨g,ne_of_gt (lt_of_lt_of_le I.lt hb),I.U3 hb,.inr (Nat.le_trans I.sz hb),λx c e z=>?_,λp f z=>?_⟩
 ·obtain⟨v,q⟩:=I.cell x c e;exact absurd (lt_of_lt_of_le q.lt (by rw[z];exact hb)) (Nat.lt_irrefl _)
 exact absurd (lt_of_lt_of_le (Heap.lt_size (I.pin p f).1) (by rw[z];exact hb)) (Nat.lt_irrefl _)
structure Turn (P:Program) (w:World) (K:IF) (tg:Expr) (J:It) (fp:List Addr) (it:Addr) (tn:Nat->Heap->Prop):Prop where
 mem:it∈fp
 obj:∀ i h,tn i h->∀ b∈fp,∃ o,h.get? b=some o/\∀ v,o.data≠.cell v
 keep:∀ i h h',tn i h->(∀ b∈fp,∀ o,h.get? b=some o->h'.get? b=some o)->tn i h'
 item:∀ (X:Cx),X.prog=P->X.w=w->X.K=K->X.calm=true->∀ (i:Nat) (pins:II) (s:Shared) (σ:St) (H:Hp) (E:IG),Inv X pins σ H s->(∀ b∈fp,f8 X pins H b)->tn i s.heap->J.go i H ->
  wpAny (model P w) X.A (pyNext (.ref it)) (λr s1 => ∃ u,r=some u /\
   wpAny (model P w) X.A (letOwnedTupleGo tg (.ref it) u) (λ_ s2 => ∃ x H',Inv X pins σ H' s2/\RelV x u/\J.Nz i H x H'/\tn (i+1) s2.heap/\∀ b∈fp,H' b=none) E s1) E s
 done:∀ (X:Cx),X.prog=P->X.w=w->X.K=K->X.calm=true->∀ (i:Nat) (pins:II) (s:Shared) (σ:St) (H:Hp) (E:IG),Inv X pins σ H s->(∀ b∈fp,f8 X pins H b)->tn i s.heap->J.stop i H ->
  wpAny (model P w) X.A (pyNext (.ref it)) (λr s1=>r=none/\Inv X pins σ H s1) E s
 self:∀ (A:Around) (i:Nat) (s:Shared) (Q:IG) (E:IG),tn i s.heap->Q (.ref it) s->wpAny (model P w) A (pyIter (.ref it)) Q E s
abbrev TI:=St->Hp->(It->Hp->Prop)->Prop
def U8 (X:Cx)(a:II)(f:St)(h:Expr)(R:It->Hp->Prop)(g:Value)(d:Shared):Prop:=
 ∃ (it:Addr) (fp:List Addr) (e:Nat->Heap->Prop) (J:It) (c:Hp),g = .ref it/\Inv X a f c d/\Turn X.prog X.w X.K h J fp it e/\e 0 d.heap/\(∀ b∈fp,f8 X a c b)/\R J c
def PI (X:Cx)(e iter:Expr)(d:TI):Prop:=
 ∀ (a:II) (s:Shared) (b:St) (H:Hp) (R:It->Hp->Prop),Inv X a b H s->d b H R ->
  wpAny (model X.prog X.w) X.A (eval iter X.env) (λv c=>wpAny (model X.prog X.w) X.A (pyIter v) (U8 X a b e R) X.xe c) X.xe s
theorem uo {M:Model}{A:Around}{E:IG}{s:Shared}{b:Expr}{it:Addr}{u:Value}{o:Obj}{n:String}{vs:Array Value}{Q:Unit->Shared->Prop}(c:s.heap.get? it=some o)(hc:o.cls = .type n)(hd:o.data = .fields vs)
  (d:["enumerate","zip","dict_itemiterator","dict_reverseitemiterator","odict_iterator","itertools.zip_longest","itertools.pairwise"].contains n=false) (a:Q () s):wpAny M A (letOwnedTupleGo b (.ref it) u) Q E s:=by
 unfold letOwnedTupleGo
 cases b<;>first
  |exact wpAny_pure a
  |(cases u<;>first
    |exact wpAny_pure a
    |(refine wpAny_bind (wpAny_load c ?_)
      rw[hc,hd];show wpAny M A (if (["enumerate","zip","dict_itemiterator","dict_reverseitemiterator","odict_iterator","itertools.zip_longest","itertools.pairwise"].contains n&&vs[0]?==some (rawInt _))=true then _ else _) Q E s;rw[if_neg (by intro h;rw[d,Bool.false_and] at h;cases h)]
      exact wpAny_pure a))
def U9 (K:IF)(a:Addr):It:=
 ⟨λi H => ∃ b x,MA K H a b/\b[i]?=some x,λi H x c=>c=H/\∀ b,MA K H a b->b[i]?=some x,λi H => ∃ b,MA K H a b/\b.length<=i⟩
def U_ (K:IF)(a:Addr):It:=
 ⟨λi H => ∃ b x,Ms K H a b/\b[i]?=some x,λi H x c=>c=H/\∀ b,Ms K H a b->b[i]?=some x,λi H => ∃ b,Ms K H a b/\b.length<=i⟩
def Ut (lo:Int)(n:Nat):It:=⟨λi _=>i<n,λi H x a=>a=H/\x = .int (lo+i),λi _=>n<=i⟩
theorem xZ {P:Program}{w:World}{K:IF}{Q:Expr}(a it:Addr):Turn P w K Q (U9 K a) [it] it (λi h=>h.IsListIter it a i) where
 mem:=by simp
 obj:=λi h st b hb=>by
  have e:b=it:=by simpa using hb
  subst e;obtain⟨o,e,c,d⟩:=st;exact⟨o,e,λv z=>by rw[d] at z;cases z⟩
 keep:=λi h j st k=>st.at λo e=>k it (by simp) o e
 item:=by
  intro X D t y hc i f s J H E I g st n;subst D t y;obtain⟨L,x,l,m⟩:=n;obtain⟨its,C,p,R⟩:=I.list l;obtain⟨u,T,O⟩:=C.get m;obtain⟨q,r,U,A,F,B⟩:=g it (by simp);refine wpAny_pyNext_list_item st p.isList (x:=u) (by simpa using T) λj G sb=>?_;have S:Inv X f J H { s with heap:=j }:=I.turned (t':=s.toks) (λb o hb e=>(sb.2 b hb).trans e) q r A F B;obtain⟨o,e,c,d⟩:=id G;exact⟨u,rfl,uo (s:={ s with heap:=j }) e c d (by decide) ⟨x,H,S,O,⟨rfl,λV N=>by rw[I.LV N l];exact m⟩,G,λb hb=>(g b hb).1⟩⟩
 done:=by
  intro X D t y hc i f s J H E I g st n;subst D t y;obtain⟨L,l,m⟩:=n;obtain⟨its,C,p,R⟩:=I.list l;obtain⟨q,r,U,A,F,B⟩:=g it (by simp);have W:=C.length;exact wpAny_pyNext_list_end (I.ok.hd hc) st p.isList (by simp;omega) λj M=>⟨rfl,I.turned (t':=s.toks) (λb o hb e=>M b o hb e) q r A F B⟩
 self:=λ_ _ _ _ _ st h=>wpAny_pyIter_listiter st h
theorem vt {P:Program}{w:World}{K:IF}{Q:Expr}(a it:Addr):Turn P w K Q (U_ K a) [it] it (λi h=>h.IsTupleIter it a i) where
 mem:=by simp
 obj:=λi h st b hb=>by
  have e:b=it:=by simpa using hb
  subst e;obtain⟨o,e,c,d⟩:=st;exact⟨o,e,λv z=>by rw[d] at z;cases z⟩
 keep:=λi h j st k=>st.at λo e=>k it (by simp) o e
 item:=by
  intro X D t y hc i f s J H E I g st n;subst D t y;obtain⟨L,x,l,m⟩:=n;obtain⟨its,C,p,R⟩:=I.tuple l;obtain⟨u,T,O⟩:=C.get m;obtain⟨q,r,U,A,F,B⟩:=g it (by simp);refine wpAny_pyNext_tuple_item st (show s.heap.IsTuple a its.toArray from p) (x:=u) (by simpa using T) λj G sb=>?_;have S:Inv X f J H { s with heap:=j }:=I.turned (t':=s.toks) (λb o hb e=>(sb.2 b hb).trans e) q r A F B;obtain⟨o,e,c,d⟩:=id G;exact⟨u,rfl,uo (s:={ s with heap:=j }) e c d (by decide) ⟨x,H,S,O,⟨rfl,λV N=>by rw[I.Lo N l];exact m⟩,G,λb hb=>(g b hb).1⟩⟩
 done:=by
  intro X D t y hc i f s J H E I g st n;subst D t y;obtain⟨L,l,m⟩:=n;obtain⟨its,C,p,R⟩:=I.tuple l;obtain⟨q,r,U,A,F,B⟩:=g it (by simp);have W:=C.length;exact wpAny_pyNext_tuple_end (I.ok.hd hc) st (show s.heap.IsTuple a its.toArray from p) (by simp;omega) λj M=>⟨rfl,I.turned (t':=s.toks) (λb o hb e=>M b o hb e) q r A F B⟩
 self:=λ_ _ _ _ _ st h=>wpAny_pyIter_tupleiter st h
theorem vx {P:Program}{w:World}{K:IF}{D:Expr}(it:Addr)(lo:Int)(n:Nat):Turn P w K D (Ut lo n) [it] it (λi h=>IsRangeIter h it (lo+(i:Nat)*1) ((n:Int)-(i:Nat)) 1) where
 mem:=by simp
 obj:=λi h st b hb=>by
  have e:b=it:=by simpa using hb
  subst e
  exact⟨_,st,λv z=>by
   have C:Data.fields _=Data.cell v:=z
   cases C⟩
 keep:=λi h d st k=>k it (by simp) _ st
 item:=by
  intro X r l m hc i a s y H E I c st f;subst r l m;obtain⟨g,j,J,p,u,q⟩:=c it (by simp);have W:=Walks.range (prog:=X.prog) (w:=X.w) (I.ok.hd hc) it lo 1 n;refine W.item i s _ _ f st λv d tk B x F=>?_;obtain⟨t,rfl⟩:=B;have G:Inv X a y H { s with heap:=d,toks:=tk }:=I.turned (λb o hb e=>F b o (by simpa using hb) e) g j p u q;refine⟨_,rfl,uo (s:={ s with heap:=d,toks:=tk }) (n:="range_iterator") x rfl rfl (by decide) ⟨.int (lo+i),H,G,⟨t,?_⟩,⟨rfl,rfl⟩,x,λb hb=>(c b hb).1⟩⟩;rw[Int.mul_one]
 done:=by
  intro X r l m hc i a s y H E I c st f;subst r l m;obtain⟨g,j,J,p,u,q⟩:=c it (by simp);exact wpAny_pyNext_range_end (I.ok.hd hc) st (by have:n<=i:=f;omega) λd A=>⟨rfl,I.turned (t':=s.toks) (λb o hb e=>A b o hb e) g j p u q⟩
 self:=λ_ _ _ _ _ st h=>wpAny_pyIter_rangeiter st h
section
variable {X:Cx}{tg:Expr}
def Gs (K:IF)(e:TE):TI:=λd H R=>e d H λx b => ∃ a,x = .ref a/\(∃ c,MA K b a c)/\R (U9 K a) b
def Hj (K:IF)(e:TE):TI:=λd H R=>e d H λx b => ∃ a,x = .ref a/\(∃ c,Ms K b a c)/\R (U_ K a) b
theorem CB {l:Expr}{g:TE}(n:PE X l g):PI X tg l (Gs X.K g):=by
 intro c s k H R I h;refine Jj (n c s k H _ I h) λv d r=>?_;obtain⟨x,m,f,i,j⟩:=r;obtain⟨a,e,⟨u,t⟩,q⟩:=j;subst e;cases i;obtain⟨its,w,p,y⟩:=f.list t;refine wpAny_pyIter_list p.isList ?_;refine⟨d.heap.objs.size,[d.heap.objs.size],_,_,m,rfl,f.kept (t':=d.toks) λb o e=>Heap.get?_push_of_some _ e,xZ a _,⟨_,Heap.get?_push_size _ rfl,rfl,rfl⟩,λb hb=>?_,q⟩;have e:b=d.heap.objs.size:=by simpa using hb
 subst e;exact f.KY (le_refl _) (f.Jk.fresh (le_refl _))
theorem Ey {l:Expr}{g:TE}(n:PE X l g):PI X tg l (Hj X.K g):=by
 intro d s k H R I h;refine Jj (n d s k H _ I h) λv c r=>?_;obtain⟨x,m,f,i,j⟩:=r;obtain⟨a,e,⟨u,t⟩,q⟩:=j;subst e;cases i;obtain⟨its,w,p,y⟩:=f.tuple t;refine wpAny_pyIter_tuple (show c.heap.IsTuple a its.toArray from p) ?_;refine⟨c.heap.objs.size,[c.heap.objs.size],_,_,m,rfl,f.kept (t':=c.toks) λb o e=>Heap.get?_push_of_some _ e,vt a _,⟨_,Heap.get?_push_size _ rfl,rfl,rfl⟩,λb hb=>?_,q⟩;have e:b=c.heap.objs.size:=by simpa using hb
 subst e;exact f.KY (le_refl _) (f.Jk.fresh (le_refl _))
theorem Ak {c:II}{d:St}{H:Hp}{s:Shared}{R:It->Hp->Prop}{E:IG}{lo a:Int}{t u v:Tok}{tk:Nat}(I:Inv X c d H s)(i : -(2 ^ 62)<=lo)(h:lo<2 ^ 62)(k : -(2 ^ 62)<=a)(j:a<2 ^ 62)
  (q:R (Ut lo (a-lo).toNat) H):wpAny (model X.prog X.w) X.A (pyIter (.ref s.heap.objs.size)) (U8 X c d tg R) E { s with heap:=s.heap.push { cls:=.type "range",data:=.fields #[.int lo t,.int a u,.int 1 v] },toks:=tk }:=by
 refine wpAny_pyIter_range (IsRange.new ..) (small_one i h k j) ?_;have f:Inv X c d H { s with heap:=s.heap.push { cls:=.type "range",data:=.fields #[.int lo t,.int a u,.int 1 v] },toks:=tk }:=I.kept λb o e=>Heap.get?_push_of_some _ e
 refine⟨(s.heap.push { cls:=.type "range",data:=.fields #[.int lo t,.int a u,.int 1 v] }).objs.size,[(s.heap.push { cls:=.type "range",data:=.fields #[.int lo t,.int a u,.int 1 v] }).objs.size],_,_,H,rfl,
  f.kept (t':=tk) λb o e=>Heap.get?_push_of_some _ e,vx _ lo (a-lo).toNat,?_,λb hb=>?_,q⟩
 ·have g:lo+((0:Nat):Int)*1=lo:=by simp
  have l:(((a-lo).toNat:Nat):Int)-((0:Nat):Int)=Builtin.Range.rangeSize lo a 1:=by rw[rangeSize_one];split<;>omega
  show IsRangeIter _ _ (lo+((0:Nat):Int)*1) ((((a-lo).toNat:Nat):Int)-((0:Nat):Int)) 1;rw[g,l];exact Heap.get?_push_size _ rfl
 have e:b=(s.heap.push { cls:=.type "range",data:=.fields #[.int lo t,.int a u,.int 1 v] }).objs.size:=by simpa using hb
 subst e;exact f.KY (le_refl _) (f.Jk.fresh (le_refl _))
def Gr (d:TA):TI:=λb H R=>d b H λa c => ∃ j:Int,a=[.int j]/\-(2 ^ 62)<=j/\j<2 ^ 62/\R (Ut 0 j.toNat) c
theorem yC {a:Expr}{d:TA}{p pos:Pos}(g:Gl X "range")(m:X.mg "range"=none)(v:PA X [a] d)(o:starEach [a] X.env=[(false,eval a X.env)]:=by rfl):PI X tg (.Call (.Name "range" p) [a] [] pos) (Gr d):=by
 intro b s i H R I h;refine Call_ (gH I g m boot_range (PyProof.Rows.callWith_type1 (Jj (v pos b s i H _ I h) λz w l=>?_) o rfl));obtain⟨y,x,n,f,c⟩:=l;obtain⟨j,e,c,u,q⟩:=c;subst e;cases f with
 |cons r k =>
  cases k;obtain⟨t,rfl⟩:=r;exact call_range_1 (Ak n (by omega) (by omega) c u (by simpa using q))
def G5 (k:TI)(g:TG)(j:TS):TS:=λD a H=>k a H λJ h => ∃ W:Nat->Nat->St->Hp->Prop,(∃ m,W 0 m a h)/\∀ i m a H,W i m a H ->
 (J.stop i H/\D.nx a H)∨(J.go i H/\∃ N:St->Hp->Prop,(∀ c b,N c b->∃ e,e<m/\W (i+1) e c b)/\∀ x b,J.Nz i H x b->g x a b λd f=>j { D with nx:=N,ct:=N,bk:=D.nx } d f)
def k9 (fp:List Addr)(h:Heap):II:=fp.filterMap λb=>(h.get? b).map λo=>(b,o)
theorem gG {fp:List Addr}{h:Heap}{b:Addr}{o:Obj}(hb:b∈fp)(e:h.get? b=some o):(b,o)∈k9 fp h:=List.mem_filterMap.mpr ⟨b,hb,by rw[e];rfl⟩
theorem yK {fp:List Addr}{h:Heap}{p:Addr×Obj}(c:p∈k9 fp h):p.1∈fp/\h.get? p.1=some p.2:=by
 obtain⟨b,hb,e⟩:=List.mem_filterMap.mp c;cases q:h.get? b with
 |none=>rw[q] at e;cases e
 |some o =>
  rw[q] at e;have a:(b,o)=p:=Option.some.inj e;subst a;exact⟨hb,q⟩
theorem Inv.pinned {a:II}{c:St}{H:Hp}{s:Shared}{fp:List Addr}(I:Inv X a c H s)(k:∀ b∈fp,f8 X a H b)(i:∀ b∈fp,∃ o,s.heap.get? b=some o/\∀ v,o.data≠.cell v):Inv X (a++k9 fp s.heap) c H s:=
 I.Kj λp j=>(mem_append.mp j).elim (λz=>I.pin p (mem_append_right _ z)) λz=>by
  obtain⟨hb,e⟩:=yK z;obtain⟨g,h,l,_⟩:=k p.1 hb;obtain⟨o,f,d⟩:=i p.1 hb;rw[e] at f;cases f;exact⟨e,g,h,l,d⟩
theorem Inv.KA {a pl:II}{b:St}{H:Hp}{s:Shared}(I:Inv X (a++pl) b H s):Inv X a b H s:=I.Kj λp c=>I.pin p (mem_append_right _ (mem_append_left _ c))
theorem Et {iter:Expr}{body:List Stmt}{wi:TI}{g:TG}{S:TS}{pos:Pos}(B:PassesOwn (model X.prog X.w) X.A X.env X.xe)(hc:X.calm=true)(hi:PI X tg iter wi)(hg:PG X tg g)(hb:Ny X body S)
  (hs:∀ x,foldedSetIterable iter X.env x=pure x:=by intro _;rfl):PS X (.For tg iter body [] pos) (G5 wi g S):=by
 intro c s O H D I h;refine wpAny_For (Jj (hi c s O H _ I h) λv s1 h1=>Jj h1 λSk s2 h2=>?_) hs;obtain⟨it,fp,P,J,H2,e,I2,T,MB,R,W,⟨m0,w0⟩,z⟩:=h2;subst e;have G:∀ {q:Hp},(∀ b∈fp,q b=none)->∀ b∈fp,f8 X c q b:=λhn b hb=>⟨hn b hb,(R b hb).2⟩;refine codeAny_forLoop_any (λn U => ∃ i p q,Inv X c p q U/\P i U.heap/\(∀ b∈fp,q b=none)/\W i n p q) ?_ m0 ⟨0,O,H2,I2,MB,λb hb=>(R b hb).1,w0⟩;rintro n Y ⟨i,l,E,I3,V,Z,w3⟩;rcases z i n l E w3 with ⟨stop,qn⟩ |⟨go,N,hN,step⟩
 ·refine wpAny_passesOwn B (Jj (T.done X rfl rfl rfl hc i c Y l E X.xe I3 (G Z) V stop) λr s4 y=>?_);obtain⟨hr,I4⟩:=y;subst hr;exact wpAny_execs_nil ⟨l,E,I4,qn⟩
 refine wpAny_passesOwn B (Jj (T.item X rfl rfl rfl hc i c Y l E X.xe I3 (G Z) V go) λr s4 y=>?_);obtain⟨u,hr,h4⟩:=y;subst hr;refine wpAny_passesOwn B (Jj h4 λ_ Q y=>?_);obtain⟨x,M,I5,r5,y5,K,Vb⟩:=y;have Vc:=I5.pinned (G Vb) (T.obj _ _ K);refine wpAny_passesOwn B (Jj (hg _ Q l M x u _ Vc r5 (step x M y5)) λ_ s6 y=>?_);obtain⟨F,H6,I6,q6⟩:=y;refine wpAny_passesOwn B (Jj (hb _ s6 F H6 _ I6 q6) λf L t=>?_);have again:∀ {a:St}{j:Hp},Inv X (c++k9 fp Q.heap) a j L->N a j->∃ m,m<n/\∃ i p q,Inv X c p q L/\P i L.heap/\(∀ b∈fp,q b=none)/\W i m p q:=λ{a j} k C=>by obtain⟨m',hm,w7⟩:=hN a j C;refine⟨m',hm,i+1,a,j,k.KA,T.keep _ _ _ K λb hb o e=>(k.pin (b,o) (mem_append_right _ (mem_append_right _ (gG hb e)))).1,λb hb=>?_,w7⟩;obtain⟨o,e,d⟩:=T.obj _ _ K b hb;exact(k.pin (b,o) (mem_append_right _ (mem_append_right _ (gG hb e)))).2.1
 cases f with
 |next=>obtain⟨a,j,k,C⟩:=t;exact again k C
 |cont=>obtain⟨a,j,k,C⟩:=t;exact again k C
 |brk=>obtain⟨a,j,k,t⟩:=t;exact⟨a,j,k.KA,t⟩
 |ret v=>obtain⟨x7,a,j,k,r7,t⟩:=t;exact⟨x7,a,j,k.KA,r7,t⟩
end
abbrev R2:=V->V->Hp->VK->Prop
def MS (X:Cx)(f:Value->Value->Sem Value)(r:R2):Prop:=
 ∀ (a:II) (s:Shared) (b:St) (H:Hp) (x y:V) (v u:Value) (Q:VK),Inv X a b H s->RelV x v->RelV y u->r x y H Q ->
  wpAny (model X.prog X.w) X.A (f v u) (EP X a b Q) X.xe s
def Uu (X:Cx)(f:Value->Sem Value)(r:V->Hp->VK->Prop):Prop:=
 ∀ (a:II) (s:Shared) (b:St) (H:Hp) (x:V) (v:Value) (Q:VK),Inv X a b H s->RelV x v->r x H Q ->
  wpAny (model X.prog X.w) X.A (f v) (EP X a b Q) X.xe s
def hZ (X:Cx)(f:Value)(r:List V->Hp->VK->Prop):Prop:=
 ∀ (a:II) (s:Shared) (c:St) (H:Hp) (b:List V) (d:List Value) (Q:VK),Inv X a c H s->Vals b d->r b H Q ->
  wpAny (model X.prog X.w) X.A (call f d) (EP X a c Q) X.xe s
def Sl (r:R2)(e d:TE):TE:=λa H Q=>e a H λx b=>d a b λy c=>r x y c Q
def Yt (r:V->Hp->VK->Prop)(c:TE):TE:=λa H Q=>c a H λx b=>r x b Q
def rI (C:Int->Int->Prop)(g:Int->Int->V):R2:=λx y H Q => ∃ i j,x = .int i/\y = .int j/\C i j/\Q (g i j) H
def RH (g:Int->Int->V):R2:=λx y H Q => ∃ i j,x = .int i/\y = .int j/\Q (g i j) H
def rU (g:Int->V):V->Hp->VK->Prop:=λx H Q => ∃ i,x = .int i/\Q (g i) H
section
variable {X:Cx}{a b c:Expr}{ta tb tc:TE}{pos:Pos}
theorem Fr (B:PE X a ta)(hb:PE X b tb){c:II}{s:Shared}{e:St}{H:Hp}{R:V->V->Hp->Prop}(I:Inv X c e H s)
  (h:ta e H λx k=>tb e k λy d=>R x y d) {Q:IG}{f:Value->Value->Sem Value}
  (r:∀ v u j x y d,Inv X c e d j->RelV x v->RelV y u->R x y d->wpAny (model X.prog X.w) X.A (f v u) Q X.xe j) :
  wpAny (model X.prog X.w) X.A (eval a X.env) (λv i=>wpAny (model X.prog X.w) X.A (eval b X.env) (λu g=>wpAny (model X.prog X.w) X.A (f v u) Q X.xe g) X.xe i) X.xe s:=by
 refine Jj (B c s e H _ I h) λv o l=>?_;obtain⟨x,k,t,m,p⟩:=l;refine Jj (hb c o e k _ t p) λu j l=>?_;obtain⟨y,d,n,q,z⟩:=l;exact r v u j x y d n m q z
theorem F7 {op:Operator}{r:R2}(g:MS X (binaryOp op) r)(l:PE X a ta)(hb:PE X b tb):PE X (.BinOp a op b pos) (Sl r ta tb):=by intro c s j H Q I h;exact wpAny_BinOp (Fr l hb I h λv u k x y d f e i q=>g c k j d x y v u Q f e i q)
theorem F6 {op:UnaryOp}{r:V->Hp->VK->Prop}(i:Uu X (unaryOp op) r)(k:PE X a ta):PE X (.UnaryOp op a pos) (Yt r ta):=by intro b s c H Q I h;exact UnaryOp_ (Jj (k b s c H _ I h) λv j ⟨x,d,g,f,e⟩=>i b j c d x v Q g f e)
theorem Vd {f:Value->Value->Sem Value}{C:Int->Int->Prop}{g:Int->Int->Int}
  (rule:∀ (i j:Int) (t u:Tok) (s:Shared) (Q:IG) (E:IG),C i j->Q (.int (g i j) s.toks) { s with toks:=s.toks+1 }->wpAny (model X.prog X.w) X.A (f (.int i t) (.int j u)) Q E s) :
  MS X f (rI C λi j => .int (g i j)):=by
 intro a s e H x y v u Q I b c h;obtain⟨i,j,rfl,rfl,hc,q⟩:=h;obtain⟨t,rfl⟩:=b;obtain⟨d,rfl⟩:=c;exact rule i j t d s _ _ hc ⟨.int (g i j),H,I.tok _,⟨_,rfl⟩,q⟩
theorem F_ {f:Value->Value->Sem Value}{g:Int->Int->Int}
  (rule:∀ (i j:Int) (t u:Tok) (s:Shared) (Q:IG) (E:IG),Q (.int (g i j) s.toks) { s with toks:=s.toks+1 }->wpAny (model X.prog X.w) X.A (f (.int i t) (.int j u)) Q E s) :
  MS X f (RH λi j => .int (g i j)):=by
 intro a s e H x y v u Q I b c h;obtain⟨i,j,rfl,rfl,q⟩:=h;obtain⟨t,rfl⟩:=b;obtain⟨d,rfl⟩:=c;exact rule i j t d s _ _ ⟨.int (g i j),H,I.tok _,⟨_,rfl⟩,q⟩
theorem Ga {f:Value->Value->Sem Value}{g:Int->Int->Bool}
  (rule:∀ (i j:Int) (t u:Tok) (s:Shared) (Q:IG) (E:IG),Q (.bool (g i j)) s->wpAny (model X.prog X.w) X.A (f (.int i t) (.int j u)) Q E s) :
  MS X f (RH λi j => .bl (g i j)):=by
 intro a s e H x y v u Q I b c h;obtain⟨i,j,rfl,rfl,q⟩:=h;obtain⟨t,rfl⟩:=b;obtain⟨d,rfl⟩:=c;exact rule i j t d s _ _ ⟨.bl (g i j),H,I,rfl,q⟩
def HL (i j:Int):Prop:=0<j/\j<1073741824
def PM (i j:Int):Prop:=(-(2 ^ 64)<i/\i<2 ^ 64)∨(-(2 ^ 64)<j/\j<2 ^ 64)
theorem PM.ok {i j:Int}(h:PM i j):IntMulOk i j:=by
 rcases h with ⟨a,b⟩ |⟨a,b⟩
 ·exact .of_left (intBits_le_64 a b)
 exact .of_right (intBits_le_64 a b)
theorem EM:MS X (binaryOp .Add) (RH λi j => .int (i+j)):=F_ λ_ _ _ _ _ _ _ q=>add_int q
theorem EI:MS X (binaryOp .Sub) (RH λi j => .int (i-j)):=F_ λ_ _ _ _ _ _ _ q=>sub_int q
theorem EJ:MS X (binaryOp .Mult) (rI PM λi j => .int (i*j)):=Vd λ_ _ _ _ _ _ _ hc q=>mul_int q hc.ok
theorem CO:MS X (binaryOp .FloorDiv) (rI HL λi j => .int (i / j)):=Vd λi j _ _ _ _ _ hc q=>by have a:(0:Int)<j:=hc.1;have b:j<1073741824:=hc.2;exact floordiv_int (by omega) (by rw[Int.fdiv_eq_ediv_of_nonneg i (by omega)];exact q) (.inl (PyProof.noPylong_small (by omega)))
theorem EK:MS X (binaryOp .Mod) (rI (λ_ j => 0<j) λi j => .int (i % j)):=Vd λi j _ _ _ _ _ hc q=>by have a:(0:Int)<j:=hc;exact mod_int' (by omega) (by rw[Int.fmod_eq_emod_of_nonneg i (by omega)];exact q)
theorem Yu {f:Value->Sem Value}{g:Int->Int}
  (rule:∀ (i:Int) (t:Tok) (s:Shared) (Q:IG) (E:IG),Q (.int (g i) s.toks) { s with toks:=s.toks+1 }->wpAny (model X.prog X.w) X.A (f (.int i t)) Q E s) :
  Uu X f (rU λi => .int (g i)):=by
 intro a s c H x v Q I b h;obtain⟨i,rfl,q⟩:=h;obtain⟨t,rfl⟩:=b;exact rule i t s _ _ ⟨.int (g i),H,I.tok _,⟨_,rfl⟩,q⟩
theorem DT:Uu X (unaryOp .USub) (rU λi => .int (-i)):=Yu λ_ _ _ _ _ q=>neg_int q
end
section
variable {X:Cx}{a b c:Expr}{ta tb tc:TE}{pos:Pos}
theorem wj {a:II}{b:St}{H:Hp}{s:Shared}{Q:VK}{k c:Bool}(I:Inv X a b H s)(q:Q (.bl k) H)(e:k=c):EP X a b Q (.bool c) s:=by subst e;exact⟨.bl k,H,I,rfl,q⟩
theorem F8:MS X (compareOp .Lt) (RH λi j => .bl (decide (i<j))):=Ga λ_ _ _ _ _ _ _ q=>lt_int q
theorem F9:MS X (compareOp .Gt) (RH λi j => .bl (decide (j<i))):=Ga λ_ _ _ _ _ _ _ q=>gt_int q
theorem yI:MS X (compareOp .Lt) (λx y H Q => ∃ i j,x = .str i/\y = .str j/\Q (.bl (decide (i.cps.toList<j.cps.toList))) H):=by intro a s d H x y v u Q I b c h;obtain⟨i,j,rfl,rfl,q⟩:=h;obtain⟨t,rfl⟩:=b;obtain⟨e,rfl⟩:=c;exact lt_str (wj I q rfl)
theorem EL:MS X (compareOp .Is) (λx y H Q=>y = .Ji/\Q (.bl (decide (x = .Ji))) H):=by
 intro b s d H x y v u Q I a c h;obtain⟨rfl,q⟩:=h;cases c;refine is_none_gen (wj I q ?_)
 cases x<;>first
  |(cases a;rfl)
  |(obtain⟨t,rfl⟩:=a;rfl)
theorem CN:MS X (compareOp .IsNot) (λx y H Q=>y = .Ji/\Q (.bl (!decide (x = .Ji))) H):=by
 intro b s d H x y v u Q I a c h;obtain⟨rfl,q⟩:=h;cases c;refine isnot_none_gen (wj I q ?_)
 cases x<;>first
  |(cases a;rfl)
  |(obtain⟨t,rfl⟩:=a;rfl)
theorem AK (b:Expr){op:CmpOp}(h:op≠.In:=by decide)(d:op≠.NotIn:=by decide):behindInMarks op b=false:=by
 have a:(op==CmpOp.In)=false:=by cases op<;>first |rfl |exact absurd rfl h
 have c:(op==CmpOp.NotIn)=false:=by cases op<;>first |rfl |exact absurd rfl d
 cases b<;>simp[behindInMarks,a,c]
theorem CJ {op:CmpOp}{r:R2}(g:MS X (compareOp op) r)(m:PE X a ta)(hb:PE X b tb)(l:behindInMarks op b=false):PE X (.Compare a [op] [b] pos) (Sl r ta tb):=by intro c s j H Q I h;exact wpAny_Compare1 (Fr m hb I h λv u k x y d f e i q=>g c k j d x y v u Q f e i q) l
def Lw (t:TE):TT:=λa H Q=>t a H λx b => ∃ k,x = .bl k/\Q k b
theorem Cp {op:CmpOp}{r:R2}(o:MS X (compareOp op) r)(F:PE X a ta)(hb:PE X b tb)(B:behindInMarks op b=false):PT X (.Compare a [op] [b] pos) (Lw (Sl r ta tb)):=by
 intro d s f H Q I h
 refine wpAny_isTrue_Compare1 (Jj (F d s f H _ I h) λv l ⟨x,q,C,i,n⟩=>Jj (hb d l f q _ C n) λu A ⟨y,g,j,t,E⟩ =>
  Jj (o d A f g x y v u _ j i t E) λc G ⟨z,m,D,w,k,e,p⟩=>?_) B
 subst e;cases w;exact wpAny_truthy_bool ⟨m,D,p⟩
theorem jE:(sizeLine:Nat)<2 ^ 63:=by rw[sizeLine_eq];decide
theorem vQ:MS X (binaryOp .Add) (λx y H Q => ∃ i j,x = .str i/\y = .str j/\i.length+j.length<=sizeLine/\Q (.str (i++j)) H):=by intro a s f H x y v u Q I b c h;obtain⟨i,j,rfl,rfl,e,q⟩:=h;obtain⟨t,rfl⟩:=b;obtain⟨d,rfl⟩:=c;exact add_str (λd tk=>⟨.str (i++j),H,I.tok _,⟨_,rfl⟩,q⟩) e
theorem vals1 {x:V}{us:List Value}(r:Vals [x] us):∃ u,us=[u]/\RelV x u:=by
 cases r with
 |cons b a=>cases a;exact⟨_,rfl,b⟩
theorem vals2 {x y:V}{us:List Value}(r:Vals [x,y] us):∃ u a,us=[u,a]/\RelV x u/\RelV y a:=by
 cases r with
 |cons e d =>
  cases d with
  |cons b c=>cases c;exact⟨_,_,rfl,e,b⟩
theorem qA:hZ X (.type "int") (λxs H Q=>(∃ i,xs=[.int i]/\Q (.int i) H)∨∃ k,xs=[.bl k]/\Q (.int (if k then 1 else 0)) H):=by
 intro a s c H xs d Q I r h;rcases h with ⟨i,rfl,q⟩ |⟨k,rfl,q⟩
 ·obtain⟨u,rfl,t,rfl⟩:=vals1 r;exact call_int_int ⟨.int i,H,I,⟨_,rfl⟩,q⟩
 obtain⟨u,rfl,b⟩:=vals1 r;cases b;exact call_int_bool ⟨.int (if k then 1 else 0),H,I.tok _,⟨_,rfl⟩,q⟩
end
structure NA (h:Heap) (x dx C:Addr) (mA:IJ):Prop where
 obj:h.get? x=some (PySem.W.instObj C dx)
 ns:h.Ns1 dx mA
 ne:dx≠x
theorem yX {h:Heap}{c:Addr}{b:IJ}(n:h.Ns1 c b):∃ od,h.get? c=some od/\∀ name,PySem.W.lookIn name od=some (b name):=by
 obtain⟨o,es,ep,g,hd,d,_,j⟩:=n;refine⟨o,g,λname=>?_⟩;have e:=j name;unfold nsFind findBy at e;rw[← Array.find?_toList] at e;unfold PySem.W.lookIn;rw[hd];dsimp only;split
 ·rename_i y q;rw[q] at e;exact congrArg some e
 rename_i q;rw[q] at e;have a:es.toList.any (·.refKey)=false:=by rw[List.any_eq_false];intro y f;obtain⟨z,t,k⟩:=d y (Array.mem_toList_iff.mp f);simp[DictEntry.refKey,k]
 have i:¬ es.toList.any (·.refKey)=true:=by rw[a];exact Bool.false_ne_true
 rw[if_neg i];exact congrArg some e
theorem NA.look {h:Heap}{x a C:Addr}{b:IJ}(I:NA h x a C b):∃ od,PySem.W.InstAt h x (PySem.W.instObj C a) C (some od)/\∀ name,PySem.W.lookIn name od=some (b name):=
 let ⟨od,c,d⟩:=yX I.ns
 ⟨od,⟨I.obj,rfl,rfl,c⟩,d⟩
section
variable {prog:Program}{w:World}{A:Around}{E:IG}{s:Shared}{K:IF}{x dx C f:Addr}{mA:IJ}{name:Str}{v:Value}
theorem get_map {expr:Bool}{Q:IG}(X:K.In s.heap)(I:NA s.heap x dx C mA)(a:PySem.W.plainGet K C name=true)(e:PySem.W.hasDictIn K C=true)
  (f:PySem.W.findIn K (.ref C) name=some none) (b:mA name=some v) (d:PySem.W.handedIn v=true) (h:Q v { s with toks:=s.toks+1 }) :
  wpAny (model prog w) A (getAttr (.ref x) name expr) Q E s:=by
 obtain⟨g,J,c⟩:=I.look;exact PySem.W.get_value X J (PySem.W.plainGet_of a).1 (PySem.W.findObj_own e f rfl (by rw[c,b])) d h
theorem Bg {pl:Sem Bool}{Q:Value×List Value->Shared->Prop}(X:K.In s.heap)(I:NA s.heap x dx C mA)(a:PySem.W.plainGet K C name=true)
  (e:PySem.W.findIn K (.ref C) name=some (some (.ref f))) (d:PySem.W.isFn K (.ref f)=true) (c:mA name=none) (h:Q (.ref f,[.ref x]) s) :
  wpAny (model prog w) A (getMethod (.ref x) name pl) Q E s:=by
 obtain⟨b,J,g⟩:=I.look;exact PySem.W.method_fn X J (PySem.W.plainGet_of a).1 (PySem.W.plainGet_of a).2 e (beq_iff_eq.mp d) (by show (PySem.W.lookIn name b).map (·.isSome)=some false;rw[g,c];rfl) h
theorem Cc {ns:List Str}{Q:Unit->Shared->Prop}(X:K.In s.heap)(I:NA s.heap x dx C mA)
  (q:PySem.W.findIn K (.ref C) "__setattr__"=some (some (.builtin "object.__setattr__"))) (m:PySem.W.plainOver K C=true) (g:PySem.W.takerIn K C name=some none) (l:PySem.W.hasDictIn K C=true)
  (i:PySem.Within mA ns) (hsz:ns.length<=sizeLine)
  (h:∀ h',NA h' x dx C (λy=>if y=name then some v else mA y)->Heap.SameBut dx s.heap h'->Q () { s with heap:=h',toks:=s.toks+2 }) :
  wpAny (model prog w) A (setAttr (.ref x) name v) Q E s:=by
 obtain⟨t,J,z⟩:=I.look;refine PySem.W.set_plain X J q (PySem.W.osa_open (s:={ s with toks:=s.toks+1 }) (r:=none) X J m g λb=>?_);obtain⟨u,hc,j⟩:=PySem.W.any_some l;have e:s.heap.get? x=some ⟨.ref C,some dx,.plain,#[]⟩:=I.obj;refine wpAny_bind (wpAny_pure (wpAny_bind (wpAny_bind (wpAny_loadPart e (wpAny_bind (PySem.W.Looks.here (s:={ s with toks:=s.toks+1 }) (PySem.W.looks_clsIn X hc) ?_))))));rw[j];refine wpAny_pure (a:=some dx) (wpAny_bind (wpAny_pure (wpAny_bind ?_)));refine wpAny_nsSet1 (s:={ s with toks:=s.toks+1 }) I.ns λh' c d=>?_;obtain⟨oD,n,o,f,p,k⟩:=c.count (PySem.Within.cons name v i);refine wpAny_bind (wpAny_lookBehind f (by rw[p];exact pastItsLine_dict (Nat.le_trans k (by rw[length_cons];omega))) ?_);exact wpAny_pure (h _ ⟨(d.2 _ (Ne.symm I.ne)).trans I.obj,c,I.ne⟩ d)
theorem A0 {R:Result->Shared->Prop}{vs:List Value}{kw:List (Str×Value)}(X:K.In s.heap)(c:PySem.W.makesIn K C=true)
  (b:PySem.W.findIn K (.ref C) "__init__"=some (some (.ref f))) (a:PySem.W.typeIn K (.ref f)=some (.type "function"))
  (h:codeAny (model prog w) (A.under (.builtin "type.__call__" ⟨.ref C::vs,kw⟩)) (.call (.ref f) ⟨.ref (s.heap.objs.size+1)::vs,kw⟩) (PySem.W.InitBack (s.heap.objs.size+1) R)
   { s with heap:=(s.heap.push PySem.W.emptyDict).push (PySem.W.instObj C s.heap.objs.size) }) :
  codeAny (model prog w) A (.call (.ref C) ⟨vs,kw⟩) R s:=by
 obtain⟨e,g,d,t,os⟩:=s;exact PySem.W.make_core (PySem.W.makes_of X c) (PySem.W.looks_findIn X b) (λself=>PySem.W.bind_fn X self a) (.inl rfl) h
end
def fY (f:Str)(v:V):List (Str×V)->List (Str×V)
 |[]=>[(f,v)]
 |(g,x)::r=>if g=f then (g,v)::r else (g,x)::fY f v r
theorem ml (f g:Str)(v:V):∀ fs:List (Str×V),(fY f v fs).lookup g=if g=f then some v else fs.lookup g
 |[]=>by
  show List.lookup g [(f,v)]=_;by_cases h:g=f
  ·have hb:(g==f)=true:=beq_iff_eq.mpr h;simp only[List.lookup,hb,if_pos h]
  have hb:(g==f)=false:=beq_eq_false_iff_ne.mpr h;simp only[List.lookup,hb,if_neg h]
 |(k,x)::r=>by
  have b:=ml f g v r;rw[show fY f v ((k,x)::r)=(if k=f then (k,v)::r else (k,x)::fY f v r) from rfl];by_cases a:k=f
  ·rw[if_pos a];by_cases h:g=k
   ·have hb:(g==k)=true:=beq_iff_eq.mpr h;simp only[List.lookup,hb,if_pos (h.trans a)]
   have hb:(g==k)=false:=beq_eq_false_iff_ne.mpr h;simp only[List.lookup,hb,if_neg (λe:g=f=>h (e.trans a.symm))]
  rw[if_neg a];by_cases h:g=k
  ·have hb:(g==k)=true:=beq_iff_eq.mpr h;simp only[List.lookup,hb,if_neg (λe:g=f=>a (h.symm.trans e))]
  have hb:(g==k)=false:=beq_eq_false_iff_ne.mpr h;simp only[List.lookup,hb];exact b
theorem lv (f:Str)(v:V):∀ fs:List (Str×V),f∈(fY f v fs).map (·.1)/\∀ g,g∈fs.map (·.1)->g∈(fY f v fs).map (·.1)
 |[]=>⟨by simp[fY],λg h=>by simp at h⟩
 |(k,x)::r=>by
  obtain⟨c,b⟩:=lv f v r;rw[show fY f v ((k,x)::r)=(if k=f then (k,v)::r else (k,x)::fY f v r) from rfl];by_cases a:k=f
  ·rw[if_pos a];subst a;exact⟨by simp,λg h=>by simpa using h⟩
  rw[if_neg a];refine⟨?_,λg h=>?_⟩
  ·rw[map_cons];exact mem_cons_of_mem _ c
  rw[map_cons] at h ⊢;rcases mem_cons.mp h with e |e
  ·exact mem_cons.mpr (.inl e)
  exact mem_cons_of_mem _ (b g e)
theorem mr (f:Str)(v:V):∀ fs:List (Str×V),(fY f v fs).length<=fs.length+1
 |[]=>by simp[fY]
 |(k,x)::r=>by
  have b:=mr f v r;rw[show fY f v ((k,x)::r)=(if k=f then (k,v)::r else (k,x)::fY f v r) from rfl];by_cases a:k=f
  ·rw[if_pos a,length_cons,length_cons];omega
  rw[if_neg a,length_cons,length_cons];omega
theorem Kt.some_of {v:V}{o:Option Value}(r:Kt (some v) o):∃ u,o=some u/\RelV v u:=by
 cases o with
 |none=>exact(show False from r).elim
 |some u=>exact⟨u,rfl,r⟩
theorem Kt.none_of {o:Option Value}(r:Kt none o):o=none:=by
 cases o with
 |none=>rfl
 |some u=>exact(show False from r).elim
theorem zi {v:V}{u:Value}(r:RelV v u):PySem.W.handedIn u=true:=by
 cases v with
 |Ji=>cases (show u=Value.none from r);rfl
 |bl b=>cases (show u=Value.bool b from r);rfl
 |int i=>obtain⟨t,e⟩:=(show ∃ t,u=Value.int i t from r);cases e;rfl
 |str x=>obtain⟨t,e⟩:=(show ∃ t,u=Value.str x t from r);cases e;rfl
 |Ul b=>obtain⟨t,e⟩:=(show ∃ t,u=Value.bytes b t from r);cases e;rfl
 |RF b=>obtain⟨t,e⟩:=(show ∃ t,u=Value.float b t from r);cases e;rfl
 |ref a=>cases (show u=Value.ref a from r);rfl
 |ty n=>cases (show u=Value.type n from r);rfl
section
variable {P:Program}{w:World}{H H':Hp}{h h':Heap}{a C dx:Addr}{fs WI:List (Str×V)}
theorem rH (Jk:K7 P w H h)(e:H a=some (.ins C dx fs)):∃ b,NA h a dx C b/\(∀ f,Kt (fs.lookup f) (b f))/\PySem.Within b (fs.map (·.1))/\fs.length<=1000/\H dx=some (.own a):=by obtain⟨d,z,ne,c,b,n,r,q⟩:=(show JC P w H h a (.ins C dx fs) from Jk a _ e);exact⟨b,⟨c,n,ne⟩,r,q,z,d⟩
end
structure NB (K:IF) (C:Addr):Prop where
 pg:PySem.W.plainGet K C Str.empty=true
 hd:PySem.W.hasDictIn K C=true
 po:PySem.W.plainOver K C=true
 sa:PySem.W.findIn K (.ref C) "__setattr__"=some (some (.builtin "object.__setattr__"))
theorem NB.get {K:IF}{C:Addr}(c:NB K C)(f:Str):PySem.W.plainGet K C f=true:=c.pg
def KC (K:IF)(C:Addr)(f:Str):Prop:=PySem.W.findIn K (.ref C) f=some none
theorem KC.Sn {K:IF}{C:Addr}{f:Str}(n:KC K C f):PySem.W.takerIn K C f=some none:=by unfold PySem.W.takerIn;rw[show PySem.W.findIn K (.ref C) f=some none from n];rfl
structure Con (K:IF) (C:Addr) (f:Str) (v:V) (u:Value):Prop where
 at_:PySem.W.findIn K (.ref C) f=some (some u)
 rel:RelV v u
 get:PySem.W.specialIn K u "__get__"=some none
 cp:PySem.W.copiedNames.contains f=false
structure Meth (K:IF) (C:Addr) (m:Str) (f:Addr):Prop where
 at_:PySem.W.findIn K (.ref C) m=some (some (.ref f))
 fn:PySem.W.isFn K (.ref f)=true
 kp:PySem.W.keepIn K (.ref f)=true
section
variable {X:Cx}{pins:II}{σ:St}{H:Hp}{s:Shared}{a C dx:Addr}{fs:List (Str×V)}{f:Str}{v:V}{A:Around}{E:IG}
theorem wf {b:Bool}{Q:IG}(I:Inv X pins σ H s)(e:H a=some (.ins C dx fs))(c:NB X.K C)(n:KC X.K C f)(l:fs.lookup f=some v)
  (h:∀ u s',Inv X pins σ H s'->RelV v u->Q u s'):wpAny (model X.prog X.w) A (getAttr (.ref a) f b) Q E s:=by
 obtain⟨i,O,r,_,_,_⟩:=rH I.Jk e;obtain⟨u,g,d⟩:=Kt.some_of (v:=v) (o:=i f) (by rw[← l];exact r f);exact get_map I.Mz O (c.get f) c.hd n g (zi d) (h u _ (I.tok _) d)
theorem ow {m:Str}{g:Addr}{pl:Sem Bool}{Q:Value×List Value->Shared->Prop}(I:Inv X pins σ H s)(e:H a=some (.ins C dx fs))(c:NB X.K C)(k:Meth X.K C m g)(l:fs.lookup m=none)
  (h:Q (.ref g,[.ref a]) s):wpAny (model X.prog X.w) A (getMethod (.ref a) m pl) Q E s:=by
 obtain⟨b,O,r,_,_,_⟩:=rH I.Jk e;have d:b m=none:=Kt.none_of (by rw[← l];exact r m);exact Bg I.Mz O (c.get m) k.at_ k.fn d h
theorem vF {y:V}{u:Value}{Q:Unit->Shared->Prop}(I:Inv X pins σ H s)(e:H a=some (.ins C dx fs))(c:NB X.K C)(n:KC X.K C f)(B:fs.length<1000)(m:RelV y u)
  (h:∀ s',Inv X pins σ (upd H a (.ins C dx (fY f y fs))) s'->Q () s'):wpAny (model X.prog X.w) A (setAttr (.ref a) f u) Q E s:=by
 obtain⟨j,O,r,k,_,i⟩:=rH I.Jk e;have v:(fs.map (·.1)).length<=sizeLine:=by rw[length_map,sizeLine_eq];omega
 refine Cc I.Mz O c.sa c.po n.Sn c.hd k v λt d sb=>h _ ?_;have hd:∃ o,t.get? dx=some o:=let ⟨o,_,_,p,_⟩:=d.ns;⟨o,p⟩;refine I.write (x:=a) (e:=dx) (by rw[e];exact True.intro) (.inr i) (λb q hb z=>(sb.2 b hb).trans z) hd ?_;refine⟨by rw[aA O.ne];exact i,?_,O.ne,d.obj,_,d.ns,λg=>?_,λg l=>?_⟩
 ·have:=mr f y fs;omega
 ·show Kt ((fY f y fs).lookup g) (if g=f then some u else j g);rw[ml];by_cases q:g=f
  ·rw[if_pos q,if_pos q];exact m
  rw[if_neg q,if_neg q];exact r g
 by_cases q:g=f
 ·rw[q];exact(lv f y fs).1
 refine(lv f y fs).2 g (k g λz=>l ?_);show (if g=f then some u else j g)=none;rw[if_neg q];exact z
theorem Inv.made (I:Inv X pins σ H s):Inv X pins σ (upd (upd H s.heap.objs.size (.own (s.heap.objs.size+1))) (s.heap.objs.size+1) (.ins C s.heap.objs.size []))
  { s with heap:=(s.heap.push PySem.W.emptyDict).push (PySem.W.instObj C s.heap.objs.size) }:=by
 have c:(s.heap.push PySem.W.emptyDict).get? s.heap.objs.size=some PySem.W.emptyDict:=Heap.get?_push_size s.heap rfl;have i:((s.heap.push PySem.W.emptyDict).push (PySem.W.instObj C s.heap.objs.size)).get? (s.heap.objs.size+1)=some (PySem.W.instObj C s.heap.objs.size):=by have:=Heap.get?_push_size (s.heap.push PySem.W.emptyDict) (o:=PySem.W.instObj C s.heap.objs.size) rfl;rwa [Heap.size_push] at this
 have d:(s.heap.push PySem.W.emptyDict).Ns s.heap.objs.size (λ_=>none):=⟨PySem.W.emptyDict,#[],_,c,rfl,(λe f=>absurd f (by simp)),λ_=>rfl⟩;have h:=I.laid (a:=s.heap.objs.size) (o:=.own (s.heap.objs.size+1)) (h':=s.heap.push PySem.W.emptyDict) (t':=s.toks) (λb u q=>Heap.get?_push_of_some _ q) (le_refl _) ⟨_,c⟩;refine h.laid (a:=s.heap.objs.size+1) (o:=.ins C s.heap.objs.size []) (t':=s.toks) (λb u q=>Heap.get?_push_of_some _ q) (Nat.le_of_eq (Heap.size_push _ _)) ?_;have ne:s.heap.objs.size≠s.heap.objs.size+1:=ne_of_lt (lt_succ_self _);refine⟨by rw[aA ne,IY],zero_le _,ne,i,λ_=>none,(Heap.Ns1.of_empty d).at λo q=>Heap.get?_push_of_some _ q,λ_=>True.intro,λy g=>absurd rfl g⟩
theorem Dz {prog:Program}{w:World}{env:Env}{e:Expr}{f:Str}{pos:Pos}{s:Shared}{Q:IG}(hb:attributeBase e f env (eval e env)=eval e env)
  (h:wpAny (model prog w) A (eval e env) (λo a=>wpAny (model prog w) A (getAttr o f true) Q E a) E s):wpAny (model prog w) A (eval (.Attribute e f pos) env) Q E s:=
 Attribute_any_ h (by rw[arm_eval_Attribute,hb])
end
def G6 (K:IF)(d:TE)(f:Str):TE:=λc H Q=>d c H λx b => ∃ a C e fs v,x = .ref a/\b a=some (.ins C e fs)/\NB K C/\KC K C f/\fs.lookup f=some v/\Q v b
def G_ (K:IF)(g tv:TE)(f:Str):TS:=λD b H=>tv b H λy e=>g b e λx c => ∃ a C d fs,x = .ref a/\c a=some (.ins C d fs)/\NB K C/\KC K C f/\fs.length<1000 /\
 D.nx b (upd c a (.ins C d (fY f y fs)))
section
variable {X:Cx}{o e value:Expr}{f:Str}{pos pos' PL:Pos}{ta tv:TE}
theorem EE (i:PE X e ta)(hb:attributeBase e f X.env (eval e X.env)=eval e X.env):PE X (.Attribute e f pos) (G6 X.K ta f):=by intro b s m H Q I h;refine Dz hb (Jj (i b s m H _ I h) λu t p=>?_);obtain⟨x,o,r,d,a,C,z,fs,v,ex,k,c,n,l,q⟩:=p;subst ex;obtain rfl:u=Value.ref a:=d;exact wf r k c n l λw y g j=>⟨v,o,g,j,q⟩
theorem Eu (B:PE X o ta)(i:PE X value tv)(z:swapsWith value (some (.Attribute o f pos')) pos.line X.env=pure false):PS X (.Assign [.Attribute o f pos'] value pos) (G_ X.K ta tv f):=by intro b s d H D I h;refine plainObj_wpAny_Assign_Attribute (Jj (i b s d H _ I h) λu j ⟨y,p,v,r,q⟩=>Jj (B b j d p _ v q) λk G t=>?_) z;obtain⟨x,E,g,e,a,C,J,fs,ex,m,c,n,l,A⟩:=t;subst ex;obtain rfl:k=Value.ref a:=e;exact vF g m c n l r λF w=>⟨d,_,w,A⟩
theorem DN {pl:Sem Bool}{m:Str}{b:Pos}{args:List Expr}{d:II}{s:Shared}{j:St}{H:Hp}{Q:IG}{t:TE}(y:PE X e t)(I:Inv X d j H s)
  (h:t j H λx n => ∃ a C r fs g,x = .ref a/\n a=some (.ins C r fs)/\NB X.K C/\Meth X.K C m g/\fs.lookup m=none /\
   ∀ i,Inv X d j n i->wpAny (model X.prog X.w) X.A (callWith pos (.ref g) [.ref a] (backTo pos (starEach args X.env)) (backToKw pos (keywordEach [] X.env))) Q X.xe i)
  (z:eval (.Call (.Attribute e m b) args [] pos) X.env=(do
   let o ← eval e X.env
   standAt b.atName
   let (f,first) ← holding [o] (getMethod o m pl)
   callWith pos f first (backTo pos (starEach args X.env)) (backToKw pos (keywordEach [] X.env)))) :
  wpAny (model X.prog X.w) X.A (eval (.Call (.Attribute e m b) args [] pos) X.env) Q X.xe s:=by
 refine PySem.W.methodCall_KW (pl:=pl) (Jj (y d s j H _ I h) λu i D=>?_) z;obtain⟨x,n,p,v,a,C,r,fs,g,ex,B,c,k,l,q⟩:=D;subst ex;obtain rfl:u=Value.ref a:=v;exact ow p B c k l (q i p)
end
section
variable {X:Cx}{pins:II}{σ:St}{H:Hp}{s:Shared}{A:Around}{E:IG}{Q:IG}{c:Value}{b:Bool}
inductive LW (K:IF) (H:Hp):V->Value->Prop where
 |Ji:LW K H .Ji (.type "NoneType")
 |bl (x:Bool):LW K H (.bl x) (.type "bool")
 |int (i:Int):LW K H (.int i) (.type "int")
 |str (x:Str):LW K H (.str x) (.type "str")
 |RF (x:UInt64):LW K H (.RF x) (.type "float")
 |lst {a:Addr}{xs:List V}(e:H a=some (.lst xs)):LW K H (.ref a) (.type "list")
 |OC {a:Addr}{o:Obj}{xs:List V}(e:H a=some (.OC o (.lst xs))):LW K H (.ref a) (.type "list")
 |tup {a:Addr}{xs:List V}(e:H a=some (.tup xs)):LW K H (.ref a) (.type "tuple")
 |dK {a:Addr}{kvs:List (Key×V)}(e:H a=some (.dK kvs)):LW K H (.ref a) (.type "dict")
 |dT {a:Addr}{kvs:List (List Key×V)}(e:H a=some (.dT kvs)):LW K H (.ref a) (.type "dict")
 |ins {a C dx:Addr}{fs:List (Str×V)}(e:H a=some (.ins C dx fs)) (cl:NB K C) (ha:PySem.W.findIn K (.ref C) "__class__"=some (some (.builtin "object.__class__")))
   (hn:PySem.W.specialIn K (.builtin "object.__class__") "__get__"=some (some (.builtin "getset_descriptor.__get__"))) (htk:PySem.W.takesIn K (.builtin "object.__class__")=some true)
   (hm:PySem.W.mroIn K C (.type "object")=some true):LW K H (.ref a) (.ref C)
end
structure Jp (k:Nat) (A:Around):Prop where
 hd:A.handled=none
 dp:A.depth+3*k+5<recursionLimit
 un:A.units+16*k+200<cLine
 gd:A.guards=some []
theorem Jp.mono {j k:Nat}{A:Around}(r:Jp k A)(h:j<=k):Jp j A:=⟨r.hd,by have:=r.dp;omega,by have:=r.un;omega,r.gd⟩
theorem Jp.deeper {k:Nat}{A:Around}(r:Jp (k+1) A)(env:Env):Jp k (A.deeper env):=
 ⟨r.hd,by have:=r.dp;show A.depth+1+3*k+5 < _;omega,by have:=r.un;show A.units+3+16*k+200 < _;omega,r.gd⟩
theorem Jp.in1 {k:Nat}{A:Around}(r:Jp (k+1) A):Jp k A.in1:=
 ⟨r.hd,by have:=r.dp;show A.depth+3*k+5 < _;omega,by have:=r.un;show A.units+1+16*k+200 < _;omega,r.gd⟩
theorem vY {A:Around}{C:Addr}{us:List Value}{kw:List (Str×Value)}:(A.under (.builtin "type.__call__" ⟨.ref C::us,kw⟩)).depth=A.depth+1:=by
 first |rfl |simp[Around.under,Code.weight,Code.isCreation,Code.isGuard,Code.isCaller,Code.frames,Code.isFrame,guardIds]
theorem vX {A:Around}{C:Addr}{us:List Value}{kw:List (Str×Value)}:(A.under (.builtin "type.__call__" ⟨.ref C::us,kw⟩)).units=A.units+1:=by
 first |rfl |simp[Around.under,Code.cUnits,Code.frames,Code.isFrame]
theorem t9 {A:Around}{C:Addr}{us:List Value}{kw:List (Str×Value)}:(A.under (.builtin "type.__call__" ⟨.ref C::us,kw⟩)).guards=A.guards:=by
 first |rfl |simp[Around.under,Code.guards,Code.isGuard,guardIds,pushGuards]
theorem Jp.make {k:Nat}{A:Around}(r:Jp (k+1) A)(C:Addr)(us:List Value)(kw:List (Str×Value)):Jp k (A.under (.builtin "type.__call__" ⟨.ref C::us,kw⟩)):=
 ⟨r.hd,by have:=r.dp;rw[vY];omega,by have:=r.un;rw[vX];omega,by rw[t9];exact r.gd⟩
theorem Jp.depth {k:Nat}{A:Around}(r:Jp k A):A.depth<recursionLimit:=by have:=r.dp;omega
theorem Jp.units {k:Nat}{A:Around}(r:Jp k A):A.units+64<cLine:=by have:=r.un;omega
def qR:TA:=λ_ H Q=>Q [] H
def DG (e:TE)(f:TA):TA:=λa H Q=>e a H λx c=>f a c λb d=>Q (x::b) d
section
variable {X:Cx}{e:Expr}{es:List Expr}{te:TE}{t:TA}{pos:Pos}
theorem JR:PA X [] qR:=λ_ _ _ _ H Q I h=>Calls.spliced_nil ⟨[],H,I,.nil,h⟩
theorem cE (q:PE X e te)(hr:PA X es t)(o:starEach (e::es) X.env=(false,eval e X.env)::starEach es X.env:=by rfl):PA X (e::es) (DG te t):=by intro pos a s b H Q I h;rw[o];show wpAny _ _ (spliced ((false,eval e X.env)::backTo pos (starEach es X.env))) _ _ s;refine Calls.spliced_cons (Jj (q a s b H _ I h) λu i m=>?_);obtain⟨x,k,n,f,j⟩:=m;exact Jj (hr pos a i b k _ n j) λv r ⟨c,d,g,l,p⟩=>⟨x::c,d,g,.cons f l,p⟩
def G0 (t:TA):TE:=λc H Q=>t c H λa b=>a.length<=sizeLine/\∀ p,b p=none->Q (.ref p) (upd b p (.tup a))
def G3 (t:TA):TE:=λc H Q=>t c H λa b=>a.length<=sizeLine/\∀ p,b p=none->Q (.ref p) (upd b p (.lst a))
theorem EB {x1}(h:PA X es t):PE X (.Tuple es x1 pos) (G0 t):=by intro a s i H Q I k;refine wpAny_Tuple_spliced (Jj (h pos a s i H _ I k) λl c ⟨g,d,f,r,z,q⟩=>⟨by rw[← r.length];exact z,?_⟩);have j:d c.heap.objs.size=none:=f.Jk.fresh (le_refl _);refine⟨.ref c.heap.objs.size,upd d c.heap.objs.size (.tup g),f.laid (t':=c.toks) (λb u e=>Heap.get?_push_of_some _ e) (le_refl _) ?_,rfl,q _ j⟩;exact⟨z,l,r,Mp.new _ _⟩
theorem Az (h:PA X es t):PE X (.List es pos) (G3 t):=by intro a s i H Q I k;refine wpAny_List_spliced (Jj (h pos a s i H _ I k) λl c ⟨g,d,f,r,z,q⟩=>⟨by rw[← r.length];exact z,?_⟩);have j:d c.heap.objs.size=none:=f.Jk.fresh (le_refl _);refine⟨.ref c.heap.objs.size,upd d c.heap.objs.size (.lst g),f.laid (t':=c.toks) (λb u e=>Heap.get?_push_of_some _ e) (le_refl _) ?_,rfl,q _ j⟩;exact⟨z,l,0,r,Heap.get?_push_size _ rfl⟩
end
abbrev Sp:=List V->Hp->VK->XK->Prop
abbrev Pm:=List Env->Hp->Shared->XK->IG
structure ND (P:Program) (w:World) (K:IF) (mg:IJ) (base:Heap) (A:Around) (outer:List Env) (s:Shared) (H:Hp):Prop where
 frames:A.frames=some outer
 mod:Mod K mg base
 bs:∀ b o,base.get? b=some o->s.heap.get? b=some o/\H b=none
 Pj:base.objs.size<=s.heap.objs.size
 LG:s.heap.FunFrames base outer
 QM:∀ b∈N8 outer,H b=none
 Jk:K7 P w H s.heap
 bare:AllBare s.gens
def CE (outer:List Env)(P:Program)(w:World)(H:Hp)(s:Shared)(Q:VK)(u:Value)(s':Shared):Prop:=
 ∃ v a,s'.os=s.os/\AllBare s'.gens/\Un (N8 outer) [] H a s.heap s'.heap/\K7 P w a s'.heap/\RelV v u/\Q v a
def CR (a:Pm)(outer:List Env)(P:Program)(w:World)(H:Hp)(s:Shared)(Q:VK)(E:XK)(r:Result)(s':Shared):Prop:=
 match r with
 | .ok (.ret u)=>CE outer P w H s Q u s'
 | .ok _=>False
 | .error e=>a outer H s E e s'
structure K9 (P:Program) (w:World) (K:IF) (mg:IJ) (base:Heap) (CX:Pm) (k:Nat) (f:Addr) (fd:FuncData) (ps:List Str) (sp:Sp):Prop where
 len:∀ vs H Q E,sp vs H Q E->vs.length=ps.length
 run:∀ (A:Around) (outer:List Env) (s:Shared) (H:Hp) (args:Args) (us:List Value) (vs:List V) (Q:VK) (E:XK),Jp k A->ND P w K mg base A outer s H->BindsTo s fd args (ps.zip us)->Vals vs us->sp vs H Q E ->
  codeAny (model P w) A (.call (.ref f) args) (CR CX outer P w H s Q E) s
theorem K9.imp {P:Program}{w:World}{K:IF}{mg:IJ}{base:Heap}{b:Pm}{k:Nat}{f:Addr}{fd:FuncData}{c:List Str}{a d:Sp}(F:K9 P w K mg base b k f fd c a)
  (h:∀ vs H Q E,d vs H Q E->a vs H Q E):K9 P w K mg base b k f fd c d:=
 ⟨λvs H Q E q=>F.len vs H Q E (h _ _ _ _ q),λA outer s H args i vs Q E hr e hb g j=>F.run A outer s H args i vs Q E hr e hb g (h _ _ _ _ j)⟩
theorem ND.make {P:Program}{w:World}{K:IF}{mg:IJ}{base:Heap}{A:Around}{outer:List Env}{s:Shared}{H:Hp}(e:ND P w K mg base A outer s H)(C:Addr)(us:List Value)(kw:List (Str×Value)) :
  ND P w K mg base (A.under (.builtin "type.__call__" ⟨.ref C::us,kw⟩)) outer s H:=⟨by first |exact e.frames |(simpa [Around.under,Code.envs,Code.isFrame,pushEnvs] using e.frames),e.mod,e.bs,e.Pj,e.LG,e.QM,e.Jk,e.bare⟩
section
variable {X:Cx}{pins:II}{σ:St}{H:Hp}{s s':Shared}
theorem Inv.PQ (I:Inv X pins σ H s):ND X.prog X.w X.K X.mg X.base X.A X.stack s H:=
 ⟨I.ok.frames,I.ok.mod,I.bs,Nat.le_trans I.ok.Pj I.sz,I.stack,I.MR,I.Jk,I.bare⟩
theorem Inv.after {Q:VK}{u:Value}(I:Inv X pins σ H s)(h:CE X.stack X.prog X.w H s Q u s'):EP X pins σ Q u s':=by obtain⟨v,a,os,bare,un,Jk,r,q⟩:=h;obtain⟨c,g,d,t,e⟩:=s';obtain rfl:e=s.os:=os;exact⟨v,a,I.call (h':=c) (g':=g) (d':=d) (t':=t) (ch:=[]) un Jk bare (λb z=>absurd z (by simp)),r,q⟩
end
def DH (a:Sp)(e:List V)(E:XK)(t:TA):TE:=λb H Q=>t b H λc d=>a (c++e) d Q E
def FO (C:Addr)(m:Str)(d:Sp)(g:List V)(E:XK)(h:TE)(t:TA):TE:=λb H Q=>h b H λx c => ∃ a i fs,x = .ref a/\c a=some (.ins C i fs)/\fs.lookup m=none /\
 t b c λe f=>d (x::(e++g)) f Q E
def FP (C:Addr)(c:Sp)(g:List V)(E:XK)(t:TA):TE:=λd H Q=>t d H λe b => ∀ x a,b x=none->b a=none->a≠x ->
 c (.ref x::(e++g)) (upd (upd b a (.own x)) x (.ins C a [])) (λv f=>v = .Ji/\Q (.ref x) f) E
def Binds (K:IF)(fd:FuncData)(b:List Str)(ds:List Value):Prop:=
 ∀ (s:Shared) (a:List Value),K.In s.heap->(a++ds).length=b.length->BindsTo s fd ⟨a,[]⟩ (b.zip (a++ds))
theorem Binds.all {K:IF}{fd:FuncData}{a:List Str}(h:∀ us:List Value,us.length=a.length->bindArgs fd ⟨us,[]⟩=pure (a.zip us)):Binds K fd a []:=λs us _ b=>by rw[append_nil] at b ⊢;exact .of_eq (h us b)
def Passes (d:Pm)(X:Cx)(E:XK):Prop:=∀ (a:II) (c:St) (H:Hp) (s:Shared) (e:Value) (b:Shared),Inv X a c H s->d X.stack H s E e b->X.xe e b
section
variable {X:Cx}{CX:Pm}{k:Nat}{f C:Addr}{fd:FuncData}{ps:List Str}{sp:Sp}{MT:List V}{ds:List Value}{E:XK}{x m:Str}{p pos apos:Pos}{e o:Expr}{es:List Expr}{ta:TE}{t:TA}
theorem Ag {a:II}{c:St}{H:Hp}{s:Shared}{Q:VK}{us:List Value}{vs:List V}(F:K9 X.prog X.w X.K X.mg X.base CX k f fd ps sp)(hr:Jp k X.A)(hb:Binds X.K fd ps ds)(hd:Vals MT ds)(g:Passes CX X E)
  (I:Inv X a c H s) (r:Vals vs us) (h:sp (vs++MT) H Q E):wpAny (model X.prog X.w) X.A (call (.ref f) us) (EP X a c Q) X.xe s:=by
 have d:Vals (vs++MT) (us++ds):=r.append hd;have l:(us++ds).length=ps.length:=by rw[← d.length];exact F.len _ _ _ _ h
 refine wpAny_call (codeAny_mono (F.run X.A X.stack s H ⟨us,[]⟩ (us++ds) (vs++MT) Q E hr I.PQ (hb s us I.Mz l) d h) λr i b=>?_);cases r with
 |error e=>exact g a c H s e i I b
 |ok j =>
  cases j with
  |ret u=>exact I.after b
  |next=>exact False.elim b
  |brk=>exact False.elim b
  |cont=>exact False.elim b
theorem CK (F:K9 X.prog X.w X.K X.mg X.base CX k f fd ps sp)(hr:Jp k X.A)(g:Gl X x)(l:X.mg x=some (.ref f))(d:PySem.W.keepIn X.K (.ref f)=true)(hb:Binds X.K fd ps ds)(hd:Vals MT ds)(c:Passes CX X E)
  (n:PA X (e::es) t) (m:(x==("__debug__":Str))=false:=by decide) (i:starEach (e::es) X.env=(false,eval e X.env)::starEach es X.env:=by rfl) (JQ:(backTo pos (starEach es X.env)).any (·.1)=false:=by rfl) :
  PE X (.Call (.Name x p) (e::es) [] pos) (DH sp MT E t):=by
 intro a s j H Q I h;refine wpAny_Call_Name_kw (xo I g l ?_ m);refine PySem.W.callWith_K (h₀:=X.base) I.ok.mod.OD d (Jj (n pos a s j H _ I h) λy o ⟨v,u,b,r,q⟩=>⟨b.Mz,?_⟩) i JQ;exact Ag F hr hb hd c b r q
theorem CF {pl:Sem Bool}(y:PE X o ta)(c:NB X.K C)(j:Meth X.K C m f)(F:K9 X.prog X.w X.K X.mg X.base CX k f fd ps sp)(hr:Jp k X.A)(hb:Binds X.K fd ps ds)(hd:Vals MT ds)(p:Passes CX X E)(N:PA X (e::es) t)
  (D:starEach (e::es) X.env=(false,eval e X.env)::starEach es X.env:=by rfl) (JQ:(backTo pos (starEach es X.env)).any (·.1)=false:=by rfl)
  (z:eval (.Call (.Attribute o m apos) (e::es) [] pos) X.env=(do
   let g ← eval o X.env
   standAt apos.atName
   let (f,first) ← holding [g] (getMethod g m pl)
   callWith pos f first (backTo pos (starEach (e::es) X.env)) (backToKw pos (keywordEach [] X.env))):=by rfl) :
  PE X (.Call (.Attribute o m apos) (e::es) [] pos) (FO C m sp MT E ta t):=by
 intro b s i H Q I h;refine PySem.W.methodCall_KW (pl:=pl) (Jj (y b s i H _ I h) λu B L=>?_) z;obtain⟨x,J,n,v,a,R,fs,ex,G,l,q⟩:=L;subst ex;obtain rfl:u=Value.ref a:=v;refine ow n G c j l ?_;refine PySem.W.callWith_K (first:=[.ref a]) (h₀:=X.base) I.ok.mod.OD j.kp (Jj (N pos b B i J _ n q) λus P ⟨vs,O,d,r,M⟩=>⟨d.Mz,?_⟩) D JQ;exact Ag (us:=.ref a::us) (vs:=.ref a::vs) F hr hb hd p d (.cons rfl r) M
structure Mk (K:IF) (C f:Addr):Prop where
 makes:PySem.W.makesIn K C=true
 init:PySem.W.findIn K (.ref C) "__init__"=some (some (.ref f))
 fn:PySem.W.isFn K (.ref f)=true
 kp:PySem.W.keepIn K (.ref C)=true
theorem Af {a:II}{g:St}{H:Hp}{s:Shared}{Q:VK}{us:List Value}{vs:List V}(M:Mk X.K C f)(F:K9 X.prog X.w X.K X.mg X.base CX k f fd ps sp)(hr:Jp (k+1) X.A)(hb:Binds X.K fd ps ds)(hd:Vals MT ds)
  (l:Passes CX X E) (I:Inv X a g H s) (r:Vals vs us)
  (h:∀ x d,H x=none->H d=none->d≠x->sp (.ref x::(vs++MT)) (upd (upd H d (.own x)) x (.ins C d [])) (λv m=>v = .Ji/\Q (.ref x) m) E) :
  wpAny (model X.prog X.w) X.A (call (.ref C) us) (EP X a g Q) X.xe s:=by
 have j:=h (s.heap.objs.size+1) s.heap.objs.size (I.Jk.fresh (le_succ _)) (I.Jk.fresh (le_refl _)) (ne_of_lt (lt_succ_self _));have c:=Inv.made (C:=C) I;have i:Vals (V.ref (s.heap.objs.size+1)::(vs++MT)) (Value.ref (s.heap.objs.size+1)::(us++ds)):=.cons rfl (r.append hd);have y:(Value.ref (s.heap.objs.size+1)::us++ds).length=ps.length:=by have e:=i.length;rw[F.len _ _ _ _ j] at e;exact e.symm
 refine wpAny_call (A0 (f:=f) I.Mz M.makes M.init (beq_iff_eq.mp M.fn) (codeAny_mono (F.run _ X.stack _ _ ⟨Value.ref (s.heap.objs.size+1)::us,[]⟩ (Value.ref (s.heap.objs.size+1)::(us++ds)) _ _ E (hr.make C us [])
  (c.PQ.make C us []) (hb _ (Value.ref (s.heap.objs.size+1)::us) c.Mz y) i j) λr n b=>?_))
 cases r with
 |error e=>exact l a g _ _ e n c b
 |ok p =>
  cases p with
  |ret u =>
   obtain⟨v,o,z,t,ev,q⟩:=c.after b;subst ev;exact⟨t,⟨V.ref (s.heap.objs.size+1),o,z,rfl,q⟩⟩
  |next=>exact False.elim b
  |brk=>exact False.elim b
  |cont=>exact False.elim b
theorem CG (M:Mk X.K C f)(F:K9 X.prog X.w X.K X.mg X.base CX k f fd ps sp)(hr:Jp (k+1) X.A)(d:Gl X x)(j:X.mg x=some (.ref C))(hb:Binds X.K fd ps ds)(hd:Vals MT ds)(c:Passes CX X E)
  (m:PA X (e::es) t) (l:(x==("__debug__":Str))=false:=by decide) (g:starEach (e::es) X.env=(false,eval e X.env)::starEach es X.env:=by rfl) (JQ:(backTo pos (starEach es X.env)).any (·.1)=false:=by rfl) :
  PE X (.Call (.Name x p) (e::es) [] pos) (FP C sp MT E t):=by
 intro a s i H Q I h;refine wpAny_Call_Name_kw (xo I d j ?_ l);refine PySem.W.callWith_K (h₀:=X.base) I.ok.mod.OD M.kp (Jj (m pos a s i H _ I h) λv n ⟨u,o,b,r,q⟩=>⟨b.Mz,?_⟩) g JQ;exact Af M F hr hb hd c b r q
end
section
variable {X:Cx}{CX:Pm}{k:Nat}{f C:Addr}{fd:FuncData}{ps ks:List Str}{sp:Sp}{E:XK}{x m:Str}{p pos apos Yy:Pos}{e o:Expr}{es:List Expr}{kws:List Keyword}{te ta:TE}{t tk:TA}{nm:Option Str}
structure Vf (K:IF) (fd:FuncData) (ps ks:List Str) (g:List Value->List Value->List Value) (gV:List V->List V->List V):Prop where
 to:∀ (s:Shared) (us ws:List Value),K.In s.heap->(g us ws).length=ps.length->BindsTo s fd ⟨us,ks.zip ws⟩ (ps.zip (g us ws))
 rel:∀ {vs:List V}{us:List Value}{zs:List V}{ws:List Value},Vals vs us->Vals zs ws->Vals (gV vs zs) (g us ws)
variable {g:List Value->List Value->List Value}{gV:List V->List V->List V}
end
structure IS (N P:List Str) (sc:Scope):Prop where
 kind:sc.kind = .function
 co:sc.isCoroutine=false
 gen:sc.isGenerator=false
 nd:N.Nodup
 pre:N.take P.length=P
 par:∀ x∈P,sc.names.lookup x=some .local∨sc.names.lookup x=some .cell
 QU:∀ y∈sc.names,y.2≠.free
theorem qC {kindOf:Str->Option NameKind}{x:Str}:∀ {binds:List (Str×Value)}{m:IJ},(∀ v,(x,v)∉binds)->bindL kindOf binds m x=m x
 |[],_,_=>rfl
 |(n,v)::r,m,h=>by
  unfold bindL;rw[qC λw a=>h w (mem_cons_of_mem _ a)];split
  ·have:x≠n:=by rintro rfl;exact h v mem_cons_self
   simp[this]
  rfl
theorem qE {kindOf:Str->Option NameKind}{x:Str}:∀ {binds:List (Str×Value)}{m:IJ},(∀ v,(x,v)∉binds)->bindC kindOf binds m x=m x
 |[],_,_=>rfl
 |(n,v)::r,m,h=>by
  unfold bindC;rw[qE λw a=>h w (mem_cons_of_mem _ a)];split
  ·rfl
  have:x≠n:=by rintro rfl;exact h v mem_cons_self
  simp[this]
theorem qD {kindOf:Str->Option NameKind}{x:Str}{v:Value}:∀ {P:List Str}{vs:List Value}{i:Nat}{m:IJ},P.Nodup->P[i]?=some x->vs[i]?=some v->kindOf x=some .local ->
  bindL kindOf (P.zip vs) m x=some v
 |[],_,_,_,_,h,_,_=>by simp at h
 |_::_,[],_,_,_,_,h,_=>by simp at h
 |p::P,w::vs,0,m,nd,h1,h2,hk=>by
  simp at h1 h2;subst h1;subst h2;show bindL kindOf ((p,w)::P.zip vs) m p=_;unfold bindL;rw[qC λv a=>(nodup_cons.mp nd).1 (of_mem_zip a).1,if_pos hk];simp
 |p::P,w::vs,i+1,m,nd,h1,h2,hk=>by
  show bindL kindOf ((p,w)::P.zip vs) m x=_;unfold bindL;exact qD (i:=i) (nodup_cons.mp nd).2 (by simpa using h1) (by simpa using h2) hk
theorem qF {kindOf:Str->Option NameKind}{x:Str}{v:Value}:∀ {P:List Str}{vs:List Value}{i:Nat}{m:IJ},P.Nodup->P[i]?=some x->vs[i]?=some v->kindOf x≠some .local ->
  bindC kindOf (P.zip vs) m x=some v
 |[],_,_,_,_,h,_,_=>by simp at h
 |_::_,[],_,_,_,_,h,_=>by simp at h
 |p::P,w::vs,0,m,nd,h1,h2,hk=>by
  simp at h1 h2;subst h1;subst h2;show bindC kindOf ((p,w)::P.zip vs) m p=_;unfold bindC;rw[qE λv a=>(nodup_cons.mp nd).1 (of_mem_zip a).1,if_neg hk];simp
 |p::P,w::vs,i+1,m,nd,h1,h2,hk=>by
  show bindC kindOf ((p,w)::P.zip vs) m x=_;unfold bindC;exact qF (i:=i) (nodup_cons.mp nd).2 (by simpa using h1) (by simpa using h2) hk
def start (N:List Str)(vs:List V):St:=vs.map some++replicate (N.length-vs.length) none
def mS (b:Pm)(P:Program)(w:World)(K:IF)(mg:IJ)(base:Heap)(N:List Str)(qual:Str)(scope:Scope)(f:Addr)(cd:Value)(A:Around)(outer:List Env)(s:Shared)(H:Hp)(E:XK):Cx where
 prog:=P
 w:=w
 K:=K
 mg:=mg
 base:=base
 A:=A.deeper (envOfC qual scope s.heap.objs.size f cd)
 N:=N
 s₀:=s
 H₀:=H
 env:=envOfC qual scope s.heap.objs.size f cd
 outer:=outer
 stack:=envOfC qual scope s.heap.objs.size f cd::outer
 ex:=[]
 calm:=true
 fn:=λ_=>true
 pn:=[]
 xe:=λe c=>wpAny (model P w) (A.deeper (envOfC qual scope s.heap.objs.size f cd)) (leaving (envOfC qual scope s.heap.objs.size f cd) e) (λ_ a=>b outer H s E e a) (λd a=>b outer H s E d a) c
theorem uF {sc:Scope}{n:Nat}{x:Str}(h:sc.names.lookup x=some .cell):∃ c,(cellsFrom n sc.names []).lookup x=some c:=by have q:=PySem.W.cellsFrom_some sc.names n [] (.inl h);exact Option.isSome_iff_exists.mp q
theorem y_ {D:Pm}{P:Program}{w:World}{K:IF}{mg:IJ}{base:Heap}{N j:List Str}{qual:Str}{scope:Scope}{f:Addr}{cd:Value}{A:Around}{outer:List Env}{s C:Shared}{H:Hp}{E:XK}{us:List Value}{vs:List V}
  (S:IS N j scope) (hd:A.handled=none) (g:ND P w K mg base A outer s H) (L:vs.length=j.length) (r:Vals vs us)
  (x:InCallC s s.heap.objs.size (bindL (envOfC qual scope s.heap.objs.size f cd).kindOf (j.zip us) λ_=>none) (cellsFrom (s.heap.objs.size+1) scope.names []) (bindC (envOfC qual scope s.heap.objs.size f cd).kindOf (j.zip us) λ_=>none) C) :
  Inv (mS D P w K mg base N qual scope f cd A outer s H E) [] (start N vs) H C:=by
 have JQ:j.length<=N.length:=by have:=congrArg List.length S.pre;rw[length_take] at this;omega
 obtain⟨m,tk,rfl,B⟩:=x.done;have t:∀ b:Addr,b∉(mS D P w K mg base N qual scope f cd A outer s H E).ex:=λb z=>absurd (show b∈([]:List Addr) from z) (by simp)
 refine⟨⟨g.mod,S.kind,rfl,rfl,le_refl _,λy z c m d=>?_,λy hy=>?_,λy c _ h=>?_,λ_=>hd,Around.frames_deeper g.frames,.inr ⟨rfl,rfl⟩,λb z=>absurd z (t b),g.bs,g.Pj,λb _ _=>t b,λb z=>absurd z (t b),g.LG,g.QM⟩,
  rfl,g.bare,Un.kept B,⟨_,x.toInCall.ns,λi y v m d M=>?_⟩,λy c h=>⟨_,x.cell y c h⟩,g.Jk.fresh (le_refl _),λy c h=>?_,λp l=>absurd (show p∈([]:II) from l) (by simp),g.Jk.kept B,?_⟩
 ·exact name_of_addr x.apart (PySem.mem_of_lookup m) (PySem.mem_of_lookup d)
 ·have hy:scope.names.lookup y=some .cell∨scope.names.lookup y=some .free:=hy;rcases hy with hy |hy
  ·exact uF hy
  exact absurd rfl (S.QU _ (PySem.mem_of_lookup hy))
 ·exact Nat.le_of_lt (x.above y c (PySem.mem_of_lookup h))
 ·have o:i<vs.length:=by
   unfold start at d;by_cases o:i<vs.length
   ·exact o
   rw[getElem?_append_right (by simpa using o)] at d;rw[getElem?_replicate] at d;split at d<;>cases d
  have J:vs[i]?=some v:=by
   unfold start at d;rw[getElem?_append_left (by simpa using o),getElem?_map] at d;cases e:vs[i]? with
   |none=>rw[e] at d;cases d
   |some a=>rw[e] at d;cases d;rfl
  obtain⟨u,G,I⟩:=r.get J;have l:j[i]?=some y:=by rw[← S.pre,List.getElem?_take_of_lt (by omega)];exact m
  have F:j.Nodup:=by rw[← S.pre];exact S.nd.sublist (List.take_sublist _ _)
  refine⟨u,I,?_⟩;rcases S.par y (mem_of_getElem? l) with k |k
  ·exact .inl ⟨k,qD F l G k⟩
  obtain⟨c,e⟩:=uF (n:=s.heap.objs.size+1) k;refine .inr ⟨.inl k,c,e,?_⟩;have q:=x.cell y c e;rw[qF F l G (by show scope.names.lookup y≠_;rw[k];decide)] at q;exact q
 ·exact g.Jk.fresh (Nat.le_of_lt (x.above y c (PySem.mem_of_lookup h)))
 unfold start;show _=N.length;rw[List.length_append,length_map,length_replicate];omega
theorem Gx {h:Pm}{P:Program}{w:World}{K:IF}{mg:IJ}{base:Heap}{k:Nat}{f:Addr}{name qual:Str}{params:Arguments}{body:List Stmt}{scope:Scope}{B kV doc F c ct oc:Value}{C od:Option Addr}
  {U:Array (Option Value)}{N i:List Str}{j:Sp}(R:K.lookup f=some ⟨oc,od,.func (PySem.W.fnOf name qual params body scope B kV doc F C c ct),U⟩) (X:PySem.W.codeIn K c qual=true) (S:IS N i scope)
  (len:∀ vs H Q E,j vs H Q E->vs.length=i.length)
  (T:∀ (A:Around) (outer:List Env) (s:Shared) (H:Hp) (vs:List V) (Q:VK) (E:XK),Jp k (A.deeper (envOfC qual scope s.heap.objs.size f c))->j vs H Q E ->
   ∃ t,Ny (mS h P w K mg base N qual scope f c A outer s H E) body t/\t { nx:=λ_ H'=>Q .Ji H',rt:=Q } (start N vs) H) :
  K9 P w K mg base h (k+1) f (PySem.W.fnOf name qual params body scope B kV doc F C c ct) i j:=by
 refine⟨len,λA outer s H args us vs Q E hr g hb r D=>?_⟩;have L:=len _ _ _ _ D;have KX:K.In s.heap:=g.mod.OD.keeps λb o e=>(g.bs b o e).1;have l:s.heap.NoLimit:=g.mod.nolimit.keeps λb o e=>(g.bs b o e).1
 have G:∀ y∈i.zip us,scope.names.lookup y.1=some .local∨(scope.names.lookup y.1=some .cell/\((cellsFrom (s.heap.objs.size+1) scope.names []).lookup y.1).isSome=true):=λM O=>by
  obtain⟨n,v⟩:=M
  rcases S.par n (of_mem_zip O).1 with q |q
  ·exact .inl q
  exact .inr ⟨q,PySem.W.cellsFrom_some _ _ _ (.inl q)⟩
 refine codeAny_call_function hr.depth (KX _ _ R) rfl S.co S.gen rfl (PySem.W.codeRec_of KX X) (hb _ _ _ _ ?_);refine wpAny_newFunctionEnv_cells S.kind G λenv Y z x=>?_;subst Y;refine⟨l.keeps x.toInCall.keep,codeAny_func ?_⟩;obtain⟨t,Z,hq⟩:=T A outer s H vs Q E (hr.deeper _) D;have I:Inv (mS h P w K mg base N qual scope f c A outer s H E) [] (start N vs) H z:=y_ S hr.hd g L r x;refine wpAny_mono (Z [] z (start N vs) H _ I hq) (λfl p d=>?_) λe p d=>d
 have fin:∀ {a:St}{H':Hp}{v:V}{u:Value},Inv (mS h P w K mg base N qual scope f c A outer s H E) [] a H' p->RelV v u->Q v H'->CE outer P w H s Q u p:=
  λ{a H' v u} J m q=>⟨v,H',J.os,J.bare,J.base,J.Jk,m,q⟩
 cases fl with
 |ret u =>
  obtain⟨v,a,H',J,m,q⟩:=d;exact fin J m q
 |next =>
  obtain⟨a,H',J,q⟩:=d;exact fin (v:=V.Ji) (u:=Value.none) J rfl q
 |brk =>
  obtain⟨_,_,_,q⟩:=d;exact False.elim q
 |cont =>
  obtain⟨_,_,_,q⟩:=d;exact False.elim q
section
variable {X:Cx}{x:Str}{p pos:Pos}{e:Expr}{es:List Expr}{t:TA}{id T:String}{r:List V->Hp->VK->Prop}
def Vg (r:List V->Hp->VK->Prop)(t:TA):TE:=λb H Q=>t b H λa c=>r a c Q
theorem iC (hc:hZ X (.builtin id) r)(d:Gl X x)(o:X.mg x=none)(g:bootBuiltins x=some (.builtin id))(k:PA X (e::es) t)(v:x≠"__name__":=by decide)(u:(x==("__debug__":Str))=false:=by decide)
  (f:starEach (e::es) X.env=(false,eval e X.env)::starEach es X.env:=by rfl) (JQ:(backTo pos (starEach es X.env)).any (·.1)=false:=by rfl):PE X (.Call (.Name x p) (e::es) [] pos) (Vg r t):=by
 intro a s b H Q I h;refine wpAny_Call_Name_kw (gH I d o g ?_ v u);exact PyProof.Rows.callWith_builtin1 (Jj (k pos a s b H _ I h) λn i ⟨m,l,q,c,j⟩=>hc a i b l m n Q q c j) f JQ
theorem k_ (hc:hZ X (.type T) r)(d:Gl X x)(o:X.mg x=none)(g:bootBuiltins x=some (.type T))(k:PA X (e::es) t)(v:x≠"__name__":=by decide)(u:(x==("__debug__":Str))=false:=by decide)
  (f:starEach (e::es) X.env=(false,eval e X.env)::starEach es X.env:=by rfl) (JQ:(backTo pos (starEach es X.env)).any (·.1)=false:=by rfl):PE X (.Call (.Name x p) (e::es) [] pos) (Vg r t):=by
 intro a s b H Q I h;refine wpAny_Call_Name_kw (gH I d o g ?_ v u);exact PyProof.Rows.callWith_type1 (Jj (k pos a s b H _ I h) λn i ⟨m,l,q,c,j⟩=>hc a i b l m n Q q c j) f JQ
end
section
variable {κ:Type} [DecidableEq κ]
def jZ (kvs:List (κ×V))(k : κ):Option V:=(kvs.find? λa=>decide (a.1=k)).map (·.2)
def putK (kvs:List (κ×V))(k : κ)(v:V):List (κ×V):=
 if (kvs.any λa=>decide (a.1=k))=true then kvs.map (λa=>if a.1=k then (a.1,v) else a) else kvs++[(k,v)]
theorem nr {p : κ×V}{r:List (κ×V)}{k : κ}(e:p.1=k):jZ (p::r) k=some p.2:=by simp[jZ,find?_cons,e]
theorem nu {p : κ×V}{r:List (κ×V)}{k : κ}(e:¬ p.1=k):jZ (p::r) k=jZ r k:=by simp[jZ,find?_cons,e]
theorem sL (k : κ):∀ kvs:List (κ×V),(kvs.any λa=>decide (a.1=k))=(jZ kvs k).isSome
 |[]=>rfl
 |p::r=>by
  rw[any_cons];by_cases e:p.1=k
  ·simp only[nr e,decide_eq_true e,Bool.true_or,Option.isSome_some]
  rw[nu e,decide_eq_false e,Bool.false_or];exact sL k r
theorem mn (kvs:List (κ×V))(k : κ)(v:V):(putK kvs k v).length<=kvs.length+1:=by
 unfold putK;split
 ·rw[length_map];omega
 rw[List.length_append,length_cons,length_nil];omega
theorem Kt.JW {o:Option V}{u:Option Value}(r:Kt o u):o.isSome=u.isSome:=by
 cases o with
 |none=>cases u with
  |none=>rfl
  |some _=>exact(show False from r).elim
 |some _=>cases u with
  |none=>exact(show False from r).elim
  |some _=>rfl
theorem KV.val {kvs:List (κ×V)}{vs:List (κ×Value)}(r:KV kvs vs)(k : κ):Kt (jZ kvs k) (valueAt vs k):=by
 unfold KV at r
 induction r with
 |nil=>exact True.intro
 | @cons p q i c h t f =>
  obtain⟨d,g⟩:=h;by_cases e:p.1=k
  ·have a:q.1=k:=d.symm.trans e;have b:valueAt (q::c) k=some q.2:=by simp[valueAt,find?_cons,a]
   rw[nr e,b];exact g
  have a:¬ q.1=k:=λz=>e (d.trans z);have b:valueAt (q::c) k=valueAt c k:=by simp[valueAt,find?_cons,a]
  rw[nu e,b];exact f
theorem KV.any {kvs:List (κ×V)}{vs:List (κ×Value)}(r:KV kvs vs)(k : κ):(kvs.any λa=>decide (a.1=k))=vs.any λa=>decide (a.1=k):=by
 unfold KV at r
 induction r with
 |nil=>rfl
 |cons h t b=>rw[any_cons,any_cons,b,h.1]
theorem KV.QW {kvs:List (κ×V)}{vs:List (κ×Value)}(r:KV kvs vs)(k : κ){y:V}{u:Value}(f:RelV y u) :
  KV (kvs.map λa=>if a.1=k then (a.1,y) else a) (vs.map λa=>if a.1=k then (a.1,u) else a):=by
 unfold KV at r ⊢
 induction r with
 |nil=>exact .nil
 | @cons p q g i h t c =>
  rw[map_cons,map_cons];refine .cons ?_ c;obtain⟨b,d⟩:=h;by_cases e:p.1=k
  ·rw[if_pos e,if_pos (b.symm.trans e)];exact⟨b,f⟩
  rw[if_neg e,if_neg (λz=>e (b.trans z))];exact⟨b,d⟩
theorem KV.put {kvs:List (κ×V)}{vs:List (κ×Value)}(r:KV kvs vs)(k : κ){y:V}{u:Value}(a:RelV y u):KV (putK kvs k y) (stored vs k u):=by
 unfold putK stored;rw[r.any k];by_cases e:(vs.any λb=>decide (b.1=k))=true
 ·rw[if_pos e,if_pos e];exact r.QW k a
 rw[if_neg e,if_neg e];exact Paired.snoc r ⟨rfl,a⟩
theorem KV.length {kvs:List (κ×V)}{vs:List (κ×Value)}(r:KV kvs vs):kvs.length=vs.length:=Paired.length r
end
theorem qg {P:Program}{w:World}{k:Key}{u:Value}(r:RelV (kV k) u):(bn P w).is k u=true:=by
 cases k with
 |inl i=>obtain⟨t,e⟩:=(show ∃ t,u=Value.int i t from r);subst e;exact tW P w i t
 |inr x=>obtain⟨t,e⟩:=(show ∃ t,u=Value.str x t from r);subst e;exact tV P w x t
theorem qh {P:Program}{w:World}:∀ {a:List Key}{us:List Value},Vals (a.map kV) us->ItemsAre (bn P w) a us
 |[],_,r=>by rw[map_nil] at r;cases r;exact .nil
 |k::a,_,r=>by
  rw[map_cons] at r;cases r with
  |cons h t=>exact .cons (qg h) (qh t)
abbrev KT (H:Hp):List (List Key×V)->List (List Key×Addr×Value)->Prop:=Paired λp q=>p.1=q.1/\H q.2.1=some (.tup (p.1.map kV))/\RelV p.2 q.2.2
theorem KT.val {H:Hp}{kvs:List (List Key×V)}{xs:List (List Key×Addr×Value)}(r:KT H kvs xs)(k:List Key):Kt (jZ kvs k) ((atKey xs k).map (·.2)):=by
 induction r with
 |nil=>exact True.intro
 | @cons p q i c h t f =>
  obtain⟨d,_,g⟩:=h;by_cases e:p.1=k
  ·have a:q.1=k:=d.symm.trans e;have b:atKey (q::c) k=some q.2:=by simp[atKey,find?_cons,a]
   rw[nr e,b];exact g
  have a:¬ q.1=k:=λz=>e (d.trans z);have b:atKey (q::c) k=atKey c k:=by simp[atKey,find?_cons,a]
  rw[nu e,b];exact f
theorem KT.QW {H:Hp}{kvs:List (List Key×V)}{xs:List (List Key×Addr×Value)}(r:KT H kvs xs)(k:List Key){y:V}{u:Value}(f:RelV y u) :
  KT H (kvs.map λb=>if b.1=k then (b.1,y) else b) (xs.map (putAt k u)):=by
 induction r with
 |nil=>exact .nil
 | @cons p q i j h t d =>
  rw[map_cons,map_cons];refine .cons ?_ d;obtain⟨a,c,g⟩:=h;unfold putAt;by_cases e:p.1=k
  ·rw[if_pos e,if_pos (a.symm.trans e)];exact⟨a,c,f⟩
  rw[if_neg e,if_neg (λz=>e (a.trans z))];exact⟨a,c,g⟩
theorem KT.put {H:Hp}{kvs:List (List Key×V)}{xs:List (List Key×Addr×Value)}(r:KT H kvs xs)(k:List Key){b:Addr}{y:V}{u:Value}(hb:H b=some (.tup (k.map kV)))(a:RelV y u) :
  KT H (putK kvs k y) (storedH xs k b u):=by
 have e:(kvs.any λc=>decide (c.1=k))=(atKey xs k).isSome:=by rw[sL,(r.val k).JW,isSome_map]
 unfold putK storedH;rw[e];by_cases q:(atKey xs k).isSome=true
 ·rw[if_pos q,if_pos q];exact r.QW k a
 rw[if_neg q,if_neg q];exact Paired.snoc r ⟨rfl,hb,a⟩
theorem KT.keeps {H H':Hp}{kvs:List (List Key×V)}{xs:List (List Key×Addr×Value)}(r:KT H kvs xs)(a:∀ b ys,H b=some (.tup ys)->H' b=some (.tup ys)):KT H' kvs xs:=
 Paired.MN r λ_ _ z=>⟨z.1,a _ _ z.2.1,z.2.2⟩
section
variable {P:Program}{w:World}{H:Hp}{h:Heap}{a:Addr}
theorem DJ {u:HO}(ok:K7 P w H h)(e:Rd H a u):JC P w H h a u:=e.ok ok
theorem ux {kvs:List (Key×V)}(ok:K7 P w H h)(e:Rd H a (.dK kvs)):kvs.length<=sizeLine/\(a==sysModules)=false/\∃ vs,KV kvs vs/\h.DictOf (bn P w) a vs:=
 show JC P w H h a (.dK kvs) from DJ ok e
theorem GF {kvs:List (Key×V)}(ok:K7 P w H h)(e:H a=some (.dK kvs)):kvs.length<=sizeLine/\(a==sysModules)=false/\∃ vs,KV kvs vs/\h.DictOf (bn P w) a vs:=ux ok (.inl e)
theorem oj {b:List Key}(ok:K7 P w H h)(e:H a=some (.tup (b.map kV))):(tupleKind (bn P w)).is h b a:=by obtain⟨_,its,r,p⟩:=(show JC P w H h a (.tup (b.map kV)) from ok a _ e);obtain⟨o,c,f,n,d⟩:=p.tup;exact⟨o,its.toArray,n,c,f,d,by simpa using qh r⟩
theorem uw {kvs:List (List Key×V)}(ok:K7 P w H h)(e:Rd H a (.dT kvs)):kvs.length<=sizeLine/\(a==sysModules)=false /\
  ∃ xs,KT H kvs xs/\h.DictOfH (tupleKind (bn P w)) a xs:=by
 obtain⟨z,y,xs,r,o,es,ep,f,d,j,i,g⟩:=(show JC P w H h a (.dT kvs) from DJ ok e);refine⟨z,y,xs,r,o,es,ep,f,d,j,i,λx hx=>?_,g⟩
 have all:∀ {l:List (List Key×V)}{m:List (List Key×Addr×Value)},KT H l m->∀ x∈m,(tupleKind (bn P w)).is h x.1 x.2.1:=by
  intro l m q
  induction q with
  |nil=>intro x hx;exact nomatch hx
  | @cons p q k n b t c =>
   intro x hx;rcases mem_cons.mp hx with e |hx
   ·subst e;exact oj ok (by rw[← b.1];exact b.2.1)
   exact c x hx
 exact all r x hx
theorem GE {kvs:List (List Key×V)}(ok:K7 P w H h)(e:H a=some (.dT kvs)):kvs.length<=sizeLine/\(a==sysModules)=false /\
  ∃ xs,KT H kvs xs/\h.DictOfH (tupleKind (bn P w)) a xs:=uw ok (.inl e)
end
def LH (H:Hp)(a:Addr)(y:V)(r:Option V):Prop:=
 (∃ c k,Rd H a (.dK c)/\y=kV k/\r=jZ c k)∨∃ c k b,Rd H a (.dT c)/\y = .ref b/\H b=some (.tup (k.map kV))/\r=jZ c k
def OS (H:Hp)(a:Addr)(y v:V)(H':Hp):Prop:=
 (∃ c k,H a=some (.dK c)/\y=kV k/\c.length<sizeLine/\H'=upd H a (.dK (putK c k v))) ∨
 ∃ c k b,H a=some (.dT c)/\y = .ref b/\H b=some (.tup (k.map kV))/\c.length<sizeLine/\H'=upd H a (.dT (putK c k v))
theorem LH.k {H:Hp}{a:Addr}{kvs:List (Key×V)}{k:Key}(e:H a=some (.dK kvs)):LH H a (kV k) (jZ kvs k):=.inl ⟨kvs,k,.inl e,rfl,rfl⟩
theorem OS.k {H:Hp}{a:Addr}{kvs:List (Key×V)}{k:Key}{v:V}(e:H a=some (.dK kvs))(b:kvs.length<sizeLine):OS H a (kV k) v (upd H a (.dK (putK kvs k v))):=.inl ⟨kvs,k,e,rfl,b,rfl⟩
section
variable {X:Cx}{pins:II}{σ:St}{H:Hp}{s:Shared}{a:Addr}{y v:V}{u r:Value}{o:Option V}{A:Around}{E:IG}
theorem Inv.big (I:Inv X pins σ H s):sysModules<s.heap.objs.size:=by have h:mainGlobals<s.heap.objs.size:=(I.mod.glob.keeps I.bk).lt;exact Nat.lt_trans (by decide) h
theorem zu {Q:IG}(C:A.units+1<cLine)(I:Inv X pins σ H s)(g:LH H a y (some v))(n:RelV y u)(h:∀ c s',Inv X pins σ H s'->RelV v c->Q c s') :
  wpAny (model X.prog X.w) A (getItem (.ref a) u) Q E s:=by
 rcases g with ⟨j,k,e,f,l⟩ |⟨j,k,b,e,f,r,l⟩
 ·subst f;obtain⟨z,hd,B,rel,m⟩:=ux I.Jk e;obtain⟨c,d,i⟩:=Kt.some_of (v:=v) (o:=valueAt B k) (by rw[l];exact rel.val k);exact wpAny_getItem_of (qg n) m.mapOf d (h c _ (I.tok _) i)
 subst f;cases (show u=Value.ref b from n);obtain⟨z,hd,q,rel,m⟩:=uw I.Jk e;obtain⟨c,d,i⟩:=Kt.some_of (v:=v) (o:=(atKey q k).map (·.2)) (by rw[l];exact rel.val k);obtain⟨p,x,t⟩:=map_eq_some_iff.mp d;refine wpAny_getItem_heap (tupleKind_room_in1 C) (oj I.Jk r) m x ?_;rw[t];exact h c _ (I.tok _) i
theorem HG {Q:IG}(m:A.units+1<cLine)(I:Inv X pins σ H s)(g:LH H a y o)(i:RelV y u)(h:∀ s',Inv X pins σ H s'->Q (.bool o.isSome) s') :
  wpAny (model X.prog X.w) A (compareOp .In u (.ref a)) Q E s:=by
 rcases g with ⟨d,k,e,c,l⟩ |⟨d,k,b,e,c,j,l⟩
 ·subst c;obtain⟨z,hd,p,rel,f⟩:=ux I.Jk e;refine wpAny_in_of (qg i) hd f.mapOf ?_;rw[← (rel.val k).JW,← l];exact h _ (I.tok _)
 subst c;cases (show u=Value.ref b from i);obtain⟨z,hd,n,rel,f⟩:=uw I.Jk e;refine wpAny_in_heap (tupleKind_room_in1 m) (oj I.Jk j) hd f ?_;have q:=(rel.val k).JW;rw[isSome_map] at q;rw[← q,← l];exact h _ (I.tok _)
theorem Dk {Q:IG}(m:A.units+1<cLine)(I:Inv X pins σ H s)(g:LH H a y o)(i:RelV y u)(h:∀ s',Inv X pins σ H s'->Q (.bool (!o.isSome)) s') :
  wpAny (model X.prog X.w) A (compareOp .NotIn u (.ref a)) Q E s:=by
 rcases g with ⟨d,k,e,c,l⟩ |⟨d,k,b,e,c,j,l⟩
 ·subst c;obtain⟨z,hd,p,rel,f⟩:=ux I.Jk e;refine wpAny_notIn_of (qg i) hd f.mapOf ?_;rw[← (rel.val k).JW,← l];exact h _ (I.tok _)
 subst c;cases (show u=Value.ref b from i);obtain⟨z,hd,n,rel,f⟩:=uw I.Jk e;refine wpAny_notIn_heap (tupleKind_room_in1 m) (oj I.Jk j) hd f ?_;have q:=(rel.val k).JW;rw[isSome_map] at q;rw[← q,← l];exact h _ (I.tok _)
theorem rR {h':Heap}{t':Nat}{c:HO}(I:Inv X pins σ H s)(d:R9 (H a))(g:Heap.SameBut a s.heap h')(f:∃ q,h'.get? a=some q)(new:JC X.prog X.w (upd H a c) h' a c) :
  Inv X pins σ (upd H a c) { s with heap:=h',toks:=t' }:=
 I.write (x:=a) (e:=a) d (.inl rfl) (λb q hb z=>(g.2 b hb).trans z) f new
theorem Fc {P:Program}{w:World}{H':Hp}{h':Heap}{kvs:List (Key×V)}{vs:List (Key×Value)}(z:kvs.length<=sizeLine)(hd:(a==sysModules)=false)(rel:KV kvs vs)(b:h'.DictOf (bn P w) a vs) :
  JC P w H' h' a (.dK kvs):=⟨z,hd,vs,rel,b⟩
theorem zt {H':Hp}{Q:Unit->Shared->Prop}(P:A.units+1<cLine)(I:Inv X pins σ H s)(g:OS H a y v H')(C:RelV y u)(D:RelV v r)(h:∀ s',Inv X pins σ H' s'->Q () s') :
  wpAny (model X.prog X.w) A (setItem (.ref a) u r) Q E s:=by
 rcases g with ⟨d,k,e,m,l,j⟩ |⟨d,k,b,e,m,B,l,j⟩
 ·subst m j;obtain⟨z,hd,N,rel,p⟩:=GF I.Jk e;have o:N.length<=sizeLine:=by rw[← rel.length];exact z
  have n:(putK d k v).length<=sizeLine:=by have:=mn d k v;omega
  refine wpAny_setItem_pairs (hsz:=o) (qg C) p λF f t=>h _ ?_;have J:∃ q,F.get? a=some q:=let ⟨q,_,_,i,_⟩:=f;⟨q,i⟩;exact rR I (by rw[e];exact True.intro) t J (Fc n hd (rel.put k D) f)
 subst m j;cases (show u=Value.ref b from C);obtain⟨z,hd,G,rel,p⟩:=GE I.Jk e;have o:G.length<=sizeLine:=by rw[← Paired.length rel];exact z
 have n:(putK d k v).length<=sizeLine:=by have:=mn d k v;omega
 refine wpAny_setItem_heap (hsz:=o) (tupleKind_room_in1 P) (oj I.Jk B) p λF f t=>h _ ?_;obtain⟨q,es,ep,i,K,O,M,_,L⟩:=f;refine rR I (by rw[e];exact True.intro) t ⟨q,i⟩ ⟨n,hd,_,(rel.put k B D).keeps λc R x=>?_,q,es,ep,i,K,O,M,L⟩;rw[aA (Gg x e (λz=>nomatch z))];exact x
end
def zJ (i:Expr):Prop:=∀ b a,subscripted i false b a=operate [b,a] (getItem b a)
theorem wX {prog:Program}{w:World}{A:Around}{E:IG}{s:Shared}{env:Env}{value slice:Expr}{pos:Pos}{T id:String}{Q:IG}
  (j:typeLookup (.type T) "__getitem__"=pure (some (.builtin id))) (k:zJ slice)
  (h:wpAny (model prog w) A (eval value env) (λo d=>wpAny (model prog w) A (eval slice env) (λi a=>a.TypeIs o T/\wpAny (model prog w) A (getItem o i) Q E a) E d) E s) :
  wpAny (model prog w) A (eval (.Subscript value slice pos) env) Q E s:=by
 refine Subscript_ (wpAny_mono h (λo d f=>wpAny_mono f (λi a b=>?_) λ_ _ x=>x) λ_ _ x=>x);obtain⟨g,b⟩:=b;unfold subscriptTail;refine wpAny_bind ?_;rw[getitemInPython_of_ne g.not_modules];refine wpAny_bind (wpAny_specialOf g j ?_);have fin:wpAny (model prog w) A (subscripted slice false o i) (λr c=>wpAny (model prog w) A (letTemporaryGo value o r >>= λ_=>pure r) Q E c) E a:=by rw[k o i];exact wpAny_operating (wpAny_mono b (λr c e=>wpAny_bind (wpAny_letTemporaryGo (wpAny_pure e))) λ_ _ x=>x)
 first
  |exact wpAny_pure (wpAny_bind fin)
  |exact wpAny_bind (wpAny_pure (wpAny_bind fin))
  |exact wpAny_bind fin
theorem uz {X:Cx}{c:II}{h:St}{H:Hp}{s:Shared}{a:Addr}{y:V}{o:Option V}(I:Inv X c h H s)(g:LH H a y o):s.TypeIs (.ref a) "dict":=by
 rcases g with ⟨d,k,e,_,_⟩ |⟨d,k,b,e,_,_,_⟩
 ·obtain⟨_,_,i,_,f⟩:=ux I.Jk e;exact f.typeIs
 obtain⟨_,_,j,_,f⟩:=uw I.Jk e;exact f.typeIs
def FS (e ty:TE):TE:=λb H Q=>e b H λx d=>ty b d λy c => ∃ a v,x = .ref a/\LH c a y (some v)/\Q v c
def G7 (ty e:TE):TE:=λb H Q=>ty b H λy d=>e b d λx c => ∃ a o,x = .ref a/\LH c a y o/\Q (.bl o.isSome) c
def wW (ty e:TE):TE:=λb H Q=>ty b H λy d=>e b d λx c => ∃ a o,x = .ref a/\LH c a y o/\Q (.bl (!o.isSome)) c
def FY (f ty tv:TE):TS:=λD b H=>tv b H λv d=>f b d λx e=>ty b e λy g => ∃ a c,x = .ref a/\OS g a y v c/\D.nx b c
section
variable {X:Cx}{o i e value:Expr}{pos pos' PL:Pos}{td ty tv:TE}
theorem CH (t:X.A.units+1<cLine)(l:PE X o td)(B:PE X i ty)(z:zJ i):PE X (.Subscript o i pos) (FS td ty):=by intro b s d H Q I h;refine wX PySem.F.slot_dict_getitem.lookup z (Jj (l b s d H _ I h) λu j ⟨x,m,r,f,k⟩=>Jj (B b j d m _ r k) λD G q=>?_);obtain⟨y,e,c,n,a,v,ex,g,C⟩:=q;subst ex;obtain rfl:u=Value.ref a:=f;exact⟨uz c g,zu t c g n λJ E w p=>⟨v,e,w,p,C⟩⟩
theorem EH (t:X.A.units+1<cLine)(w:PE X i ty)(m:PE X o td):PC X .In i o (G7 ty td):=by intro b s c H Q I h;refine Jj (w b s c H _ I h) λB j ⟨y,n,r,p,l⟩=>Jj (m b j c n _ r l) λu D q=>?_;obtain⟨x,d,f,e,a,k,ex,g,z⟩:=q;subst ex;obtain rfl:u=Value.ref a:=e;exact HG t f g p λC v=>⟨.bl k.isSome,d,v,rfl,z⟩
theorem yF (t:X.A.units+1<cLine)(w:PE X i ty)(m:PE X o td):PC X .NotIn i o (wW ty td):=by intro b s c H Q I h;refine Jj (w b s c H _ I h) λB j ⟨y,n,r,p,l⟩=>Jj (m b j c n _ r l) λu D q=>?_;obtain⟨x,d,f,e,a,k,ex,g,z⟩:=q;subst ex;obtain rfl:u=Value.ref a:=e;exact Dk t f g p λC v=>⟨.bl (!k.isSome),d,v,rfl,z⟩
theorem Ct (F:X.A.units+1<cLine)(n:PE X o td)(K:PE X i ty)(k:PE X value tv)(J:swapsWith value (some (.Subscript o i pos')) pos.line X.env=pure false) :
  PS X (.Assign [.Subscript o i pos'] value pos) (FY td ty tv):=by
 intro b s c H D I h;refine wpAny_Assign_Subscript (Jj (k b s c H _ I h) λr l ⟨v,q,E,z,m⟩=>Jj (n b l c q _ E m) λu C ⟨x,d,j,e,L⟩=>Jj (K b C c d _ j L) λM O B=>?_) J;obtain⟨y,N,G,t,a,f,ex,g,p⟩:=B;subst ex;obtain rfl:u=Value.ref a:=e;exact zt F G g t z λP w=>⟨c,f,w,p⟩
end
theorem Bs {P:Program}{w:World}{H:Hp}(h:Heap)(hb:sysModules<h.objs.size):JC P w H (h.push { cls:=.type "dict",data:=.dict #[] }) h.objs.size (.dK []):=
 ⟨zero_le _,beq_eq_false_iff_ne.mpr (Ne.symm (ne_of_lt hb)),[],.nil,Heap.DictOf.new h⟩
def DY:TE:=λ_ H Q => ∀ p,H p=none->Q (.ref p) (upd H p (.dK []))
section
variable {X:Cx}{pos:Pos}
theorem OT:PE X (.Dict [] [] pos) DY:=λb s c H Q I h =>
 wpAny_Dict_empty ⟨.ref s.heap.objs.size,_,I.laid (a:=s.heap.objs.size) (o:=.dK []) (t':=s.toks) (λ_ _ q=>Heap.get?_push_of_some _ q) (le_refl _) (Bs s.heap I.big),rfl,h _ (I.Jk.fresh (le_refl _))⟩
end
structure M1 (X:Cx) (o:Expr) (m:Str) (apos:Pos) (e:Expr) (Jv:Pos):Prop where
 base:attributeBase o m X.env (eval o X.env)=eval o X.env
 Vh:((backTo Jv (starEach [e] X.env)).all (λx => !x.1)&&(backToKw Jv (keywordEach [] X.env)).all (λx=>x.1.isSome)
  && decide (([e]:List Expr).length+([]:List Keyword).length+(if ([]:List Keyword).isEmpty then 0 else 1)<30))=true
 line:(apos.endLine==Jv.line)=true
 trees:backTo Jv (starEach [e] X.env)=[(false,eval e X.env)]
structure M2 (X:Cx) (o:Expr) (m:Str) (apos:Pos) (e f:Expr) (Jv:Pos):Prop where
 base:attributeBase o m X.env (eval o X.env)=eval o X.env
 Vh:((backTo Jv (starEach [e,f] X.env)).all (λx => !x.1)&&(backToKw Jv (keywordEach [] X.env)).all (λx=>x.1.isSome)
  && decide (([e,f]:List Expr).length+([]:List Keyword).length+(if ([]:List Keyword).isEmpty then 0 else 1)<30))=true
 line:(apos.endLine==Jv.line)=true
 trees:backTo Jv (starEach [e,f] X.env)=[(false,eval e X.env),(false,eval f X.env)]
end L2
namespace Att
open PySem PySem.W PySem.Calls PyProof.Rows
theorem mQ {P:Params}{h:Heap}:∀ (ns:List Int) (vs:List Value),WellAll P h vs (ns.map WData.int)->IntsAre vs ns:=by
 intro ns
 induction ns with
 |nil =>
  intro vs w;rw[map_nil] at w;cases w;exact .nil
 |cons n ns c =>
  intro vs w;rw[map_cons] at w;cases w with
  |cons a b =>
   cases a;exact .cons _ _ (c _ b)
theorem yl {l:OpenLaw}{n:Nat}(v:l.most=some n){P:Params}{h:Heap}{args:List WData}{vals:List Value}
  (f:l.row.toRowW.claim.pre args=true) (o:WellAll P h vals args) :
  ∃ a vs ns,vals=[Value.ref a]/\args=[WData.list (ns.map WData.int)]/\h.get? a=some { cls:=.type "list",data:=.seq vs.toArray }/\IntsAre vs ns/\ns.length<=n:=by
 have g:WShape.hasAll [] args [.list .int]=true:=(pre_splitW f).1;have hc:l.pre.holds [] { args:=args }=true:=(pre_splitW f).2;obtain⟨d,r,rfl,j,i⟩:=hasAllW_cons g;obtain rfl:=hasAllW_nil i;obtain⟨w,rfl,u⟩:=hasW_list j;obtain⟨ns,rfl⟩:=items_int u
 have b:ns.length<=n:=by
  unfold OpenLaw.pre at hc;have e:(WTm.not (.lt (.lit (.int (n:Int))) (.len (.arg 0)))).holds [] { args:=[.list (ns.map .int)] }=true:=by have e:=(holds_andW hc).1;rw[v] at e;exact e
  have c:=condW_of e (w_not (w_lt w_lit (w_len_list (w_arg rfl))));rw[length_map] at c;refine Nat.le_of_not_lt λq=>?_;have k:(n:Int)<((ns.length:Nat):Int):=by omega
  first
   |(rw[decide_eq_true k] at c;exact absurd c (by decide))
   |(simp at c;omega)
 cases o with
 |cons s t =>
  cases t;cases s with
  |list m p=>exact⟨_,_,ns,rfl,rfl,m,mQ ns _ p,b⟩
theorem yA (l:OpenLaw)(args:List WData):l.row.toRowW.claim.post args (.bool true) args=true:=
 postW_of (r:=l.row.toRowW) (X:=(true==true))
  (show WShape.has [] (.bool true) .bool=true by first |rfl |decide |simp[WShape.has,WShape.arms,WShape.armsAll])
  (show (WTm.eq .res (.lit (.bool true))).value [] { args:=args,res:=some (.bool true),after:=args }=some (.bool (true==true)) from w_eq_bool (w_res rfl) w_lit) rfl
theorem Nd {l:OpenLaw}{n:Nat}{q:Program}{loose:List Str}{k:(IJ)->Heap->Prop}{m:World->Heap->Prop}{d:DefRec}
  (J:l.most=some n) (F:d.params.defaults=[])
  (call:∀ (w:World) (s₀ b:Shared) (mg h:IJ) (g:Addr) (o:Obj) (i cd doc:Value) (a:Addr) (vs:List Value) (ns:List Int),
   Ground q loose [] k w s₀ mg h b.heap->m w b.heap ->
   b.heap.get? g=some o->o.data = .func (docDef d.name d.params d.body d.scope i cd doc)->b.heap.CodeRec cd d.name->mg d.name=some (.ref g) ->
   b.heap.get? a=some { cls:=.type "list",data:=.seq vs.toArray }->IntsAre vs ns->ns.length<=n->b.gens = #[] ->
   codeAny (model l.prog w) callerA (.call (.ref g) ⟨[.ref a],[]⟩) (λr s'=>r = .ok (.ret (.bool true))/\OldK b.heap s'.heap/\s'.os=b.os/\AllBare s'.gens) b) :
  WalkO q loose k m l.row.toRowW d [] (λf vs=>PySem.call f vs):=by
 intro w s₀ b mg h G Y g o i cd doc C kV z hd I j p s args vals L x K v A u;obtain rfl:C = .none:=Dflts.none j F;obtain rfl:kV = .none:=Dflts.noKw j;obtain⟨a,vs,ns,rfl,rfl,y,c,e⟩:=yl J x A;refine enter_call (codeAny_mono (call w s₀ b mg h g o i cd doc a vs ns G Y z (fd_plain hd) I p y c e s) λr s' D=>?_);obtain⟨rfl,t,E,B⟩:=D;exact⟨.inl ⟨.bool true,.bool true,[],rfl,λ_=>rfl,.bool true,yA l _,λ_=>⟨List.Pairwise.nil,λ_ H=>(nomatch H)⟩⟩,t,E,B⟩
end Att
namespace L2
open PySem PySem.Spec PyProof.Rows
theorem kW:∀ {vs:List Value}{ns:List Int},IntsAre vs ns->Vals (ns.map V.int) vs
 |_,_,.nil => .nil
 |_,_,.cons n t h => .cons ⟨t,rfl⟩ (kW h)
def dJ (s:Stmt):Arguments:=match s with
 | .FunctionDef _ a _ _ _ _ _ _ _ _=>a
 |_ => { posonlyargs:=[],args:=[],vararg:=none,kwonlyargs:=[],kw_defaults:=[],kwarg:=none,defaults:=[] }
def bC (s:Stmt):List Stmt:=match s with
 | .FunctionDef _ _ b _ _ _ _ _ _ _=>b
 |_=>[]
def aq (s:Stmt):Scope:=match s with
 | .FunctionDef _ _ _ _ _ _ sc _ _ _=>sc
 |_ => { kind:=.function,names:=[],isGenerator:=false,isCoroutine:=false }
abbrev Oa:Pm:=λ_ _ _ _ _ _=>False
abbrev E0:XK:=λ_ _ _=>False
theorem AC {X:Cx}:Passes Oa X E0:=λ_ _ _ _ _ _ _ h=>h.elim
structure Ob (K:IF) (x qual:Str) (st:Stmt) (f:Addr) (fd:FuncData):Prop where
 ex:∃ (oc:Value) (od:Option Addr) (kV doc pm:Value) (an:Option Addr) (Jl ct:Value) (MV:Array (Option Value)),
  fd=PySem.W.fnOf x qual (dJ st) (bC st) (aq st) .none kV doc pm an Jl ct/\K.lookup f=some ⟨oc,od,.func fd,MV⟩/\PySem.W.codeIn K Jl qual=true
 kp:PySem.W.keepIn K (.ref f)=true
section
variable {P:Program}{w:World}{K:IF}{mg:IJ}{base:Heap}
theorem Ob.binds {x qual:Str}{st:Stmt}{f:Addr}{fd:FuncData}{a:List Str}(F:Ob K x qual st f fd)
  (h:∀ (kV doc d:Value) (c:Option Addr) (b ct:Value) (us:List Value),us.length=a.length->bindArgs (PySem.W.fnOf x qual (dJ st) (bC st) (aq st) .none kV doc d c b ct) ⟨us,[]⟩=pure (a.zip us)):Binds K fd a []:=by
 obtain⟨i,e,kV,doc,d,c,b,ct,j,rfl,g,k⟩:=F.ex;exact .all (h kV doc d c b ct)
theorem E7 {x qual:Str}{st:Stmt}{f:Addr}{e:Value}{od b:Option Addr}{g:Array (Option Value)}{kV doc d a ct:Value}(l:K.lookup f=some ⟨e,od,.func (PySem.W.fnOf x qual (dJ st) (bC st) (aq st) .none kV doc d b a ct),g⟩)
  (c:PySem.W.codeIn K a qual=true) (k:PySem.W.keepIn K (.ref f)=true):Ob K x qual st f (PySem.W.fnOf x qual (dJ st) (bC st) (aq st) .none kV doc d b a ct):=⟨⟨e,od,kV,doc,d,b,a,ct,g,rfl,l,c⟩,k⟩
end
theorem aU {A:Around}{k:Nat}(hr:Jp k A):A.units+1<cLine:=Nat.lt_of_le_of_lt (Nat.add_le_add_left (by decide : 1<=64) _) hr.units
section
variable {X:Cx}
theorem pv (i:Nat){x:Str}{pos:Pos}(a:X.N[i]?=some x:=by rfl)(b:Sa X.env.scope x:=by first |exact Or.inl rfl |exact Or.inr (Or.inl rfl) |exact Or.inr (Or.inr rfl))(hd:(x==("__debug__":Str))=false:=by decide)
  (c:(x==("__classdict__":Str))=false:=by decide):PE X (.Name x pos) (FJ i):=Ax a b hd c
end
def I0 (H H':Hp):Prop:=∀ b o,H b=some o->H' b=some o
theorem I0.refl (H:Hp):I0 H H:=λ_ _ h=>h
theorem I0.trans {H d e:Hp}(a:I0 H d)(b:I0 d e):I0 H e:=λc o h=>b c o (a c o h)
end L2
namespace HT
open PySem PyProof.Rows
section
variable {prog:Program}{w:World}{A:Around}{E:IG}{s:Shared}
theorem PU {t b:Addr}{vs ws:List Value}{Q:IG}(m:IsTup s.heap t vs.toArray)(hb:IsTup s.heap b ws.toArray)(g:vs≠[])
  (p:ws=[]->Q (.ref t) s) (o:ws≠[]->Q (.ref s.heap.objs.size) { s with heap:=s.heap.push { cls:=.type "tuple",data:=.seq (vs++ws).toArray } })
  (hsz:vs.length+ws.length<=sizeLine):wpAny (model prog w) A (binaryOp .Add (.ref t) (.ref b)) Q E s:=by
 obtain⟨⟨cls,l,data,i⟩,d,hc,n,hd⟩:=id m;obtain⟨⟨q,h,data2,k⟩,f,j,n2,a⟩:=id hb;simp only at hc hd j a;subst hc hd j a;have e:vs.toArray++ws.toArray=(vs++ws).toArray:=by simp
 by_cases c:ws=[]
 ·exact concat_meets ⟨_,d,rfl⟩ ⟨_,f,rfl⟩ noFill_tuple_add seq_tuple_add PySem.F.slot_tuple_add PySem.F.entry_tuple_add (PySem.F.args_tuple_add_2 _ _)
   (tuple_addW1 t b vs.toArray ws.toArray n n2 l h i k (by simpa using g) (by simp[c])) ⟨d,f,p c⟩
 refine concat_meets ⟨_,d,rfl⟩ ⟨_,f,rfl⟩ noFill_tuple_add seq_tuple_add PySem.F.slot_tuple_add PySem.F.entry_tuple_add (PySem.F.args_tuple_add_2 _ _)
  (tuple_addW2 t b vs.toArray ws.toArray n n2 l h i k (by simpa using g) (by simpa using c) (by rw[size_toArray,size_toArray];exact hsz)) ⟨d,f,?_⟩
 rw[e];exact o c
def JD (n d:Nat):Option Int->Nat
 |none=>d
 |some v=>if v<0 then (v+(n:Int)).toNat else min v.toNat n
theorem Nf (n d:Nat):JD n d none=d:=rfl
theorem NT (n d k:Nat):JD n d (some (k:Int))=min k n:=by show (if (k:Int)<0 then ((k:Int)+(n:Int)).toNat else min (k:Int).toNat n)=min k n;rw[if_neg (by omega),Int.toNat_natCast]
theorem Ee (n d:Nat)(hd:d<=n)(o:Option Int):JD n d o<=n:=by
 cases o with
 |none=>exact hd
 |some v =>
  show (if v<0 then (v+(n:Int)).toNat else min v.toNat n)<=n;by_cases a:v<0
  ·rw[if_pos a];omega
  rw[if_neg a];exact min_le_right _ _
theorem xG (v:Int)(n d:Nat):(if v<0 then max (v+(n:Int)) 0 else min v (n:Int))=((JD n d (some v):Nat):Int):=by
 show (if v<0 then max (v+(n:Int)) 0 else min v (n:Int))=(((if v<0 then (v+(n:Int)).toNat else min v.toNat n):Nat):Int);by_cases a:v<0
 ·simp only[if_pos a];omega
 simp only[if_neg a];omega
theorem wJ (lo a:Option Int)(n:Nat):Builtin.Slice.sliceAdjust lo a 1 (n:Int)=(((JD n 0 lo:Nat):Int),((JD n n a:Nat):Int)):=by
 have b:¬ ((1:Int)<0):=by omega
 unfold Builtin.Slice.sliceAdjust;simp only[b,if_false];refine Prod.ext ?_ ?_
 ·cases lo with
  |none=>rfl
  |some v=>exact xG v n 0
 cases a with
 |none=>rfl
 |some v=>exact xG v n n
theorem vO (i j:Nat):Builtin.Slice.slicePlaces (i:Int) (j:Int) 1=j-i:=by
 unfold Builtin.Slice.slicePlaces;have a:(1:Int) > 0:=by omega
 simp only[a,if_true,Int.ediv_one];split<;>omega
theorem nI {v:Value}{o:Option Int}{Q:Option Int->Shared->Prop}(p:IsPart v o)(h:Q o s):wpAny (model prog w) A (Builtin.Slice.slicePartIndex v) Q E s:=by
 cases p with
 |none=>exact slicePart_none h
 |int i t=>exact slicePart_int h
theorem Kd {f:Addr}{d b:Value}{lo a:Option Int}{n:Nat}{Q:Int×Int×Nat->Shared->Prop}(i:s.heap.IsSliceOf f d b .none)(pl:IsPart d lo)(g:IsPart b a)
  (h:Q (((JD n 0 lo:Nat):Int),1,JD n n a-JD n 0 lo) s):wpAny (model prog w) A (Builtin.Slice.sliceApplied (.ref f) (pure (n:Int))) Q E s:=by
 obtain⟨os,e,j,c⟩:=id i;unfold Builtin.Slice.sliceApplied Builtin.Slice.sliceFields;refine wpAny_bind (wpAny_bind (wpAny_field e c (x:=d) rfl (wpAny_bind (wpAny_field e c (x:=b) rfl (wpAny_bind (wpAny_field e c (x:=.none) rfl (wpAny_pure ?_)))))));refine wpAny_bind (slicePart_none ?_);show wpAny _ _ (if ((1:Int)==0)=true then _ else _) _ _ s;rw[if_neg (by decide)];refine wpAny_bind (nI pl (wpAny_bind (nI g (wpAny_bind (wpAny_pure ?_)))));show wpAny _ _ (match Builtin.Slice.sliceAdjust lo a 1 (n:Int) with |(lo,a)=>pure (lo,(1:Int),Builtin.Slice.slicePlaces lo a 1)) _ _ s;rw[wJ lo a n];show wpAny _ _ (pure (((JD n 0 lo:Nat):Int),(1:Int),Builtin.Slice.slicePlaces ((JD n 0 lo:Nat):Int) ((JD n n a:Nat):Int) 1)) _ _ s;rw[vO];exact wpAny_pure h
theorem Au (xs:Array Value)(i k:Nat):((List.range k).filterMap λ(m:Nat)=>xs[((i:Int)+(m:Int)*1).toNat]?).toArray=((xs.toList.drop i).take k).toArray:=by
 have e:(λ(m:Nat)=>xs[((i:Int)+(m:Int)*1).toNat]?)=λm=>xs[i+m]?:=by
  funext m;have:((i:Int)+(m:Int)*1).toNat=i+m:=by omega
  rw[this]
 rw[e];have:=pick_run xs i k;rw[List.filterMap_map] at this;have a:((λx=>xs[x]?) ∘ λx=>i+x)=λm=>xs[i+m]?:=rfl;rw[a] at this;rw[this]
theorem Lg {t d:Addr}{items:Array Value}{f e:Value}{lo a:Option Int}{Q:IG}(b:IsTup s.heap t items)(g:s.heap.IsSliceOf d f e .none)(pl:IsPart f lo)(k:IsPart e a)
  (i:¬ (JD items.size 0 lo=0/\JD items.size items.size a=items.size))
  (h:Q (.ref s.heap.objs.size) { s with heap:=s.heap.push { cls:=.type "tuple",data:=.seq ((items.toList.drop (JD items.size 0 lo)).take (JD items.size items.size a-JD items.size 0 lo)).toArray } })
  (hsz:items.size<=sizeLine):wpAny (model prog w) A (getItem (.ref t) (.ref d)) Q E s:=by
 have c:sizeOk (.seq ((items.toList.drop (JD items.size 0 lo)).take (JD items.size items.size a-JD items.size 0 lo)).toArray):=by show ((items.toList.drop (JD items.size 0 lo)).take (JD items.size items.size a-JD items.size 0 lo)).toArray.size<=sizeLine;rw[size_toArray,length_take,length_drop,length_toList];omega
 have r:JD items.size items.size a<=items.size:=Ee _ _ (le_refl _) a;obtain⟨os,l,n,u⟩:=id g;have j:s.TypeIs (.ref d) "slice":=⟨os,l,n⟩;unfold getItem
 try with_reducible refine wpAny_holding ?_
 first |refine wpAny_bind (wpAny_pure ?_) |skip
 refine wpAny_bind (wpAny_sequenceKey b.typeIs (by decide) ?_)
 refine wpAny_bind (wpAny_callSpecial?_slot (name:=Str.ofString "__getitem__") b.typeIs PyProof.Rows.slot_tuple_getitem
  (wpAny_call_entry PyProof.Rows.slot_tuple_getitem b.typeIs entry_tuple_getitem ?_ (args_tuple_getitem _ _)))
 show wpAny _ _ (Builtin.Tuple.tupleItemsOf (.ref t) >>= _) _ _ s;refine wpAny_bind (tupleItemsOf_ b ?_);refine wpAny_bind (wpAny_typeOf j ?_);rw[if_pos (by decide)];refine wpAny_bind (Kd g pl k ?_);have o:¬ ((((JD items.size 0 lo:Nat):Int)==0&&(1:Int)==1&&(JD items.size items.size a-JD items.size 0 lo)==items.size)=true):=by intro q;rw[and_eq_true,and_eq_true] at q;have p:((JD items.size 0 lo:Nat):Int)=0:=eq_of_beq q.1.1;have v:JD items.size items.size a-JD items.size 0 lo=items.size:=eq_of_beq q.2;exact i ⟨by omega,by omega⟩
 show wpAny _ _ (if (((JD items.size 0 lo:Nat):Int)==0&&(1:Int)==1&&(JD items.size items.size a-JD items.size 0 lo)==items.size)=true then _ else _) _ _ s;rw[if_neg o,Au]
 first
  |exact wpAny_bind (m:=Builtin.Tuple.tupleExact _) (wpAny_newObj_type (wpAny_pure ⟨_,rfl,wpAny_pure h⟩) c)
  |exact wpAny_bind (m:=Builtin.Tuple.tupleExact _) (wpAny_newObj_type (wpAny_bind (wpAny_pure (wpAny_pure ⟨_,rfl,wpAny_pure h⟩))) c)
  |exact wpAny_bind (wpAny_bind (m:=Builtin.Tuple.tupleExact _) (wpAny_newObj_type (wpAny_pure (wpAny_pure ⟨_,rfl,wpAny_pure h⟩)) c))
  |exact wpAny_bind (wpAny_bind (m:=Builtin.Tuple.tupleExact _) (wpAny_newObj_type (wpAny_pure ⟨_,rfl,wpAny_pure h⟩) c))
end
end HT
namespace L2
open PySem PySem.Spec PyProof.Rows
abbrev TO:=St->Hp->(Option Int->Hp->Prop)->Prop
def PO (X:Cx)(e:Option Expr)(t:TO):Prop:=
 ∀ (a:II) (s:Shared) (b:St) (H:Hp) (Q:Option Int->Hp->Prop),Inv X a b H s->t b H Q ->
  wpAny (model X.prog X.w) X.A (evalPart e X.env) (λu d => ∃ o c,Inv X a b c d/\IsPart u o/\Q o c) X.xe s
def B4:TO:=λ_ H Q=>Q none H
def FL (t:TE):TO:=λa H Q=>t a H λx b => ∃ i,x = .int i/\Q (some i) b
theorem intsAre_of {ns:List Int}:∀ {us:List Value},Vals (ns.map V.int) us->IntsAre us ns:=by
 induction ns with
 |nil=>intro us r;rw[map_nil] at r;cases r;exact .nil
 |cons n ns c =>
  intro us r;rw[map_cons] at r;cases r with
  |cons b a =>
   obtain⟨t,e⟩:=b;subst e;exact .cons n t (c a)
section
variable {X:Cx}{e:Expr}{te:TE}{lo hi:Option Expr}{tl th:TO}{pos p2:Pos}
theorem CA:PO X none B4:=by intro a s b H Q I h;rw[evalPart_none];exact wpAny_pure ⟨none,H,I,.none,h⟩
theorem Cy (h:PE X e te):PO X (some e) (FL te):=by intro a s f H Q I c;rw[evalPart_some];refine Jj (h a s f H _ I c) λu l j=>?_;obtain⟨x,g,k,b,d⟩:=j;obtain⟨i,rfl,q⟩:=d;obtain⟨t,rfl⟩:=b;exact⟨some i,g,k,.int i t,q⟩
def Ux (X:Cx)(r:V->Option Int->Option Int->Hp->VK->Prop):Prop:=
 ∀ (a:II) (s:Shared) (b:St) (H:Hp) (x:V) (v e c:Value) (lo hi:Option Int) (d:Addr) (Q:VK),Inv X a b H s->RelV x v->s.heap.IsSliceOf d e c .none->IsPart e lo->IsPart c hi->r x lo hi H Q ->
  ∃ T id,typeLookup (.type T) "__getitem__"=pure (some (.builtin id))/\s.TypeIs v T/\wpAny (model X.prog X.w) X.A (getItem v (.ref d)) (EP X a b Q) X.xe s
def YC (r:V->Option Int->Option Int->Hp->VK->Prop)(te:TE)(tl th:TO):TE:=λa H Q=>te a H λx b=>tl a b λl c=>th a c λu d=>r x l u d Q
theorem Ay {r:V->Option Int->Option Int->Hp->VK->Prop}(hr:Ux X r)(p:PE X e te)(F:PO X lo tl)(L:PO X hi th):PE X (.Subscript e (.Slice lo hi none p2) pos) (YC r te tl th):=by intro a s d H Q I h;refine Subscript_ (Jj (p a s d H _ I h) λv y i=>?_);obtain⟨x,C,K,m,z⟩:=i;refine wpAny_Slice (Jj (F a y d C _ K z) λg G ⟨l,k,o,pl,N⟩=>Jj (L a G d k _ o N) λf c i=>?_);obtain⟨u,j,M,E,B⟩:=i;rw[evalPart_none];refine wpAny_pure ?_;have D:Inv X a d j { c with heap:=c.heap.push { cls:=.type "slice",data:=.fields #[g,f,.none] } }:=M.kept (t':=c.toks) λb O q=>Heap.get?_push_of_some _ q;obtain⟨T,id,J,t,n⟩:=hr a { c with heap:=c.heap.push { cls:=.type "slice",data:=.fields #[g,f,.none] } } d j x v g f l u c.heap.objs.size Q D m (Heap.IsSliceOf.new ..) pl E B;show wpAny (model X.prog X.w) X.A (subscriptTail e (.Slice lo hi none p2) v (.ref c.heap.objs.size)) (EP X a d Q) X.xe { c with heap:=c.heap.push { cls:=.type "slice",data:=.fields #[g,f,.none] } };exact tail_any (ops:=[.ref c.heap.objs.size,v]) t J n (by with_unfolding_all rfl)
def uB (xs:List V)(lo hi:Option Int):List V:=(xs.drop (HT.JD xs.length 0 lo)).take (HT.JD xs.length xs.length hi-HT.JD xs.length 0 lo)
theorem fT (xs:List V)(lo hi:Option Int):(uB xs lo hi).length<=xs.length:=by unfold uB;rw[length_take,length_drop];omega
def Ha (K:IF):V->Option Int->Option Int->Hp->VK->Prop:=λx lo hi H Q => ∃ a b,x = .ref a/\Ms K H a b /\
 ¬ (HT.JD b.length 0 lo=0/\HT.JD b.length b.length hi=b.length)/\∀ p,H p=none->Q (.ref p) (upd H p (.tup (uB b lo hi)))
theorem D3:Ux X (Ha X.K):=by
 intro g s t H x v w n lo hi p Q I j m pl l h;obtain⟨a,d,rfl,i,k,q⟩:=h;cases j;obtain⟨its,r,e,f⟩:=I.tuple i;have c:its.toArray.size=d.length:=by rw[size_toArray];exact r.length.symm
 refine⟨"tuple",_,PyProof.Rows.slot_tuple_getitem.lookup,e.typeIs,?_⟩;refine HT.Lg e m pl l (by rw[c];exact k) ?_ (by rw[c];exact f);rw[c];refine⟨.ref s.heap.objs.size,_,I.laid (t':=s.toks) (o:=.tup (uB d lo hi)) (λb u q=>Heap.get?_push_of_some _ q) (le_refl _) ?_,rfl,q _ (I.Jk.fresh (le_refl _))⟩;exact⟨Nat.le_trans (fT d lo hi) f,_,(r.drop (HT.JD d.length 0 lo)).take (HT.JD d.length d.length hi-HT.JD d.length 0 lo),Mp.new _ _⟩
def F1 (K:IF):R2:=λx y H Q => ∃ a b d c,x = .ref a/\y = .ref b/\Ms K H a d/\Ms K H b c/\d≠[]/\d.length+c.length<=sizeLine /\
 (c=[]->Q (.ref a) H)/\(c≠[]->∀ p,H p=none->Q (.ref p) (upd H p (.tup (d++c))))
theorem Vals.IV {xs:List V}{us:List Value}(r:Vals xs us):us=[]↔xs=[]:=by
 cases r with
 |nil=>simp
 |cons _ _=>simp
theorem CP:MS X (binaryOp .Add) (F1 X.K):=by intro f s A H x y v u Q I j m h;obtain⟨a,b,g,k,rfl,rfl,r,hb,i,e,l,p⟩:=h;cases j;cases m;obtain⟨its,d,n,_⟩:=I.tuple r;obtain⟨t,c,p2,_⟩:=I.tuple hb;refine HT.PU n p2 (λz=>i (d.IV.mp z)) (λz=>⟨.ref a,H,I,rfl,l (c.IV.mp z)⟩) (λz=>?_) (by rw[← d.length,← c.length];exact e);refine⟨.ref s.heap.objs.size,_,I.laid (t':=s.toks) (o:=.tup (g++k)) (λb B q=>Heap.get?_push_of_some _ q) (le_refl _) ?_,rfl,p (λw=>z (c.IV.mpr w)) _ (I.Jk.fresh (le_refl _))⟩;exact⟨by rw[List.length_append];exact e,_,d.append c,Mp.new _ _⟩
end
def OF (n:Nat)(i:Int):Option Nat:=if 0<=i then (if i<n then some i.toNat else none) else if -(n:Int)<=i then some (i+n).toNat else none
def Mo {α:Type}(xs:List α)(i:Int):Option α:=(OF xs.length i).bind λj=>xs[j]?
theorem xu {n:Nat}{i:Int}{j:Nat}(h:OF n i=some j):seqIndex? i n=some j/\j<n/\-(n:Int)<=i/\i<n:=by
 unfold OF at h;by_cases b : 0<=i
 ·rw[if_pos b] at h;by_cases a:i<n
  ·rw[if_pos a] at h;have e:i.toNat=j:=Option.some.inj h;exact⟨by rw[seqIndex_of b a,e],by omega,by omega,a⟩
  rw[if_neg a] at h;cases h
 rw[if_neg b] at h;by_cases a : -(n:Int)<=i
 ·rw[if_pos a] at h;have e:(i+n).toNat=j:=Option.some.inj h;exact⟨by rw[seqIndex_neg (by omega) a,e],by omega,a,by omega⟩
 rw[if_neg a] at h;cases h
theorem kK {α:Type}{xs:List α}{i:Int}{v : α}(h:Mo xs i=some v):∃ j,seqIndex? i xs.length=some j/\xs[j]?=some v/\j<xs.length/\-(xs.length:Int)<=i/\i<xs.length:=by
 unfold Mo at h;cases e:OF xs.length i with
 |none=>rw[e] at h;cases h
 |some j =>
  rw[e] at h;obtain⟨b,d,c,a⟩:=xu e;exact⟨j,b,h,d,c,a⟩
def m8 (b:Expr):Prop:=∀ o i,subscripted b false o i=operate [o,i] (getItem o i)
def Sz (X:Cx)(r:R2):Prop:=
 ∀ (value slice:Expr) (a:II) (s:Shared) (b:St) (H:Hp) (x y:V) (v u:Value) (Q:VK),Inv X a b H s->RelV x v->RelV y u->r x y H Q ->
  subscripted slice false v u=operate [v,u] (getItem v u)->wpAny (model X.prog X.w) X.A (subscriptTail value slice v u) (EP X a b Q) X.xe s
def WR (X:Cx)(id:String)(r:V->List V->Hp->VK->Prop):Prop:=
 ∀ (a:II) (s:Shared) (c:St) (H:Hp) (x:V) (b:List V) (v:Value) (d:List Value) (Q:VK),Inv X a c H s->RelV x v->Vals b d->r x b H Q ->
  wpAny (model X.prog X.w) X.A (call (.builtin id) (v::d)) (EP X a c Q) X.xe s
section
variable {X:Cx}{a b:Expr}{ta tb:TE}{pos:Pos}
theorem DL {r:R2}(hr:Sz X r)(l:PE X a ta)(hb:PE X b tb)(k:m8 b):PE X (.Subscript a b pos) (Sl r ta tb):=by intro c s i H Q I h;exact Subscript_ (Fr l hb I h λv u j x y d f e g q=>hr a b c j i d x y v u Q f e g q (k _ _))
def F0 (K:IF):R2:=λx y H Q => ∃ p a i v,x = .ref p/\y = .int i/\MA K H p a/\Mo a i=some v/\Q v H
def Hc (K:IF):R2:=λx y H Q => ∃ p a i v,x = .ref p/\y = .int i/\Ms K H p a/\Mo a i=some v/\Q v H
def Hd:R2:=λx y H Q => ∃ z i c,x = .str z/\y = .int i/\z.length<=sizeLine/\Mo z.cps.toList i=some c/\Q (.str ⟨#[c]⟩) H
theorem xt:Sz X (F0 X.K):=by
 intro value slice a s e H x y v u Q I l A h g;obtain⟨p,F,i,z,rfl,rfl,E,m,q⟩:=h;cases l;obtain⟨t,rfl⟩:=A;obtain⟨its,r,pl,G⟩:=I.list E;obtain⟨j,b,n,J,B,o⟩:=kK m;obtain⟨w,f,C⟩:=r.get n;have D:=r.length;have L:=jE;have fin:EP X a e Q w s:=⟨z,H,I,C,q⟩;by_cases d : 0<=i
 ·have c:i.toNat=j:=by
   rw[seqIndex_of d o] at b;exact Option.some.inj b
  exact item_listR pl.isList d (by omega) (by rw[c];simpa using f) fin g
 have c:(i+(its.toArray.size:Int)).toNat=j:=by rw[seqIndex_neg (by omega) B] at b;rw[size_toArray,← D];exact Option.some.inj b
 exact subscriptTail_builtinR (x:=w) pl.isList.typeIs slot_list_getitem.lookup
  (wpAny_getItem_list_neg (Q:=λr k=>r=w/\EP X a e Q r k) pl.isList (by omega) (by rw[size_toArray]<;>omega) (by omega) (by rw[c];simpa using f) ⟨rfl,fin⟩) g
theorem EZ:Sz X (Hc X.K):=by
 intro value slice a s b H x y v u Q I d k h A;obtain⟨p,B,i,z,rfl,rfl,o,e,q⟩:=h;cases d;obtain⟨t,rfl⟩:=k;obtain⟨its,r,pl,E⟩:=I.tuple o;obtain⟨j,g,f,F,D,C⟩:=kK e;obtain⟨w,l,m⟩:=r.get f;have n:=r.length;have G:=jE;have fin:EP X a b Q w s:=⟨z,H,I,m,q⟩
 exact subscriptTail_builtinR (x:=w) pl.typeIs slot_tuple_getitem.lookup
  (getItem_tuple (j:=j) (Q:=λr c=>r=w/\EP X a b Q r c) pl (by omega) (by omega) (by rw[size_toArray,← n];exact g) (by simpa using l) ⟨rfl,fin⟩) A
theorem E4:Sz X Hd:=by
 intro value slice b s r H x y v u Q I e l h p;obtain⟨z,i,c,rfl,rfl,A,f,q⟩:=h;obtain⟨t,rfl⟩:=e;obtain⟨w,rfl⟩:=l;obtain⟨j,a,g,B,m,k⟩:=kK f;have n:z.cps.toList.length=z.length:=by simp[Str.length]
 rw[n] at a m k;have C:=jE
 exact tail_any (typeIs_str s z t) slot_str_getitem.lookup (getItem_str (c:=c) (by
  have d:decide (i < -(2 ^ 63:Int))=false:=decide_eq_false (by omega);have o:decide (i≥2 ^ 63)=false:=decide_eq_false (by omega)
  rw[d,o,Bool.or_false]) (by rw[a];simpa using g) ⟨.str ⟨#[c]⟩,H,I.tok _,⟨_,rfl⟩,q⟩) p
theorem vW (its:List Value)(n j:Nat)(u:Value):Obj.mapSeq (·.setIfInBounds j u) { cls:=.type "list",data:=.seq its.toArray n }={ cls:=.type "list",data:=.seq (its.set j u).toArray n }:=by simp[Obj.mapSeq]
theorem Inv.lst {a:II}{b:St}{H:Hp}{s:Shared}{p:Addr}{xs:List V}(I:Inv X a b H s)(h:H p=some (.lst xs)) :
  ∃ (its:List Value) (n:Nat),Vals xs its/\s.heap.get? p=some { cls:=.type "list",data:=.seq its.toArray n }/\xs.length<=sizeLine:=by
 obtain⟨z,its,n,r,e⟩:=I.Jk p _ h;exact⟨its,n,r,e,z⟩
theorem Inv.QZ {a:II}{d:St}{H:Hp}{s:Shared}{p:Addr}{xs ys:List V}{its its':List Value}{n c:Nat}{f:Obj->Obj}(I:Inv X a d H s)(h:H p=some (.lst xs))
  (i:s.heap.get? p=some { cls:=.type "list",data:=.seq its.toArray n }) (g:f { cls:=.type "list",data:=.seq its.toArray n }={ cls:=.type "list",data:=.seq its'.toArray c }) (r:Vals ys its') (hz:ys.length<=sizeLine) (t:Nat) :
  Inv X a d (upd H p (.lst ys)) { s with heap:=s.heap.update p f,toks:=t }:=by
 have e:(s.heap.update p f).get? p=some { cls:=.type "list",data:=.seq its'.toArray c }:=by rw[Heap.get?_update_self f i (by rw[g]<;>rfl),g]
 refine I.write (x:=p) (e:=p) (by rw[h];trivial) (.inl rfl) (λb u hb q=>(Heap.get?_update_other _ _ (Ne.symm hb)).trans q) ⟨_,e⟩ ?_;exact⟨hz,its',c,r,e⟩
def FZ:V->V->V->Hp->(Hp->Prop)->Prop:=λo i v H Q => ∃ p a k j,o = .ref p/\i = .int k/\H p=some (.lst a)/\OF a.length k=some j/\Q (upd H p (.lst (a.set j v)))
theorem set_list:Fz X FZ:=by
 intro a s z H o i v F E u Q I A D B h;obtain⟨p,x,k,j,rfl,rfl,g,y,q⟩:=h;cases A;obtain⟨t,rfl⟩:=D;obtain⟨its,n,r,d,C⟩:=I.lst g;obtain⟨b,G,w,l⟩:=xu y;have e:=r.length;have J:=jE
 have m:Inv X a z (upd H p (.lst (x.set j v))) { s with heap:=s.heap.update p (Obj.mapSeq (·.setIfInBounds j u)) }:=
  I.QZ g d (vW its n j u) (r.set B j) (by rw[length_set];exact C) s.toks
 by_cases f : 0<=k
 ·have c:k.toNat=j:=by
   rw[seqIndex_of f l] at b;exact Option.some.inj b
  exact PySem.W.ki_setAt d f (by omega) (by rw[size_toArray,← e];exact l) (by rw[c];exact⟨_,m,q⟩)
 have c:(k+(its.toArray.size:Int)).toNat=j:=by rw[seqIndex_neg (by omega) w] at b;rw[size_toArray,← e];exact Option.some.inj b
 exact PySem.W.ki_setBack d (by omega) (by rw[size_toArray,← e];exact w) (by omega) (by rw[c];exact⟨_,m,q⟩)
theorem qX (lo a:Option Int)(n:Nat):(sliceBounds lo a none n).1=((HT.JD n 0 lo:Nat):Int)/\(sliceBounds lo a none n).2.1=((HT.JD n n a:Nat):Int)/\(sliceBounds lo a none n).2.2=1:=by
 refine⟨?_,?_,rfl⟩
 ·cases lo with
  |none=>simp[sliceBounds,HT.JD]
  |some i =>
   simp only[sliceBounds,HT.JD,getD_none,show (1:Int) > 0 by decide,if_true];by_cases h:i<0
   ·simp only[h,if_true]<;>omega
   simp only[h,if_false]<;>omega
 cases a with
 |none=>simp[sliceBounds,HT.JD]
 |some i =>
  simp only[sliceBounds,HT.JD,getD_none,show (1:Int) > 0 by decide,if_true];by_cases h:i<0
  ·simp only[h,if_true]<;>omega
  simp only[h,if_false]<;>omega
theorem oY (its:List Value)(lo a:Option Int):slicePick its.toArray lo a none=((its.drop (HT.JD its.length 0 lo)).take (HT.JD its.length its.length a-HT.JD its.length 0 lo)).toArray:=by obtain⟨b,d,c⟩:=qX lo a its.toArray.size;unfold slicePick;rw[b,d,c];simp only[sliceRange_one,pick_run,size_toArray]<;>rfl
def Hb (K:IF):V->Option Int->Option Int->Hp->VK->Prop:=λx lo c H Q => ∃ a b,x = .ref a/\MA K H a b/\∀ p,H p=none->Q (.ref p) (upd H p (.lst (uB b lo c)))
theorem Cb:Ux X (Hb X.K):=by intro g s t H x v w n lo e p Q I j m pl k h;obtain⟨a,c,rfl,i,q⟩:=h;cases j;obtain⟨its,r,f,l⟩:=I.list i;have d:=r.length;refine⟨"list",_,slot_list_getitem.lookup,f.isList.typeIs,?_⟩;refine wpAny_getItem_list_slice f.isList m pl k .none (by simp) ?_ (by rw[size_toArray]<;>omega);rw[oY,← d];refine⟨.ref s.heap.objs.size,_,I.laid (t':=s.toks) (o:=.lst (uB c lo e)) (λb u q=>Heap.get?_push_of_some _ q) (le_refl _) ?_,rfl,q _ (I.Jk.fresh (le_refl _))⟩;exact⟨Nat.le_trans (fT c lo e) l,_,0,(r.drop (HT.JD c.length 0 lo)).take (HT.JD c.length c.length e-HT.JD c.length 0 lo),Heap.get?_push_size _ rfl⟩
theorem gO:hZ X (.builtin "len") (λxs H Q => ∃ p ys,xs=[.ref p]/\(MA X.K H p ys∨Ms X.K H p ys)/\Q (.int ys.length) H):=by
 intro c s f H xs g Q I r h;obtain⟨p,ys,rfl,hq,q⟩:=h;obtain⟨u,rfl,d⟩:=vals1 r;cases d;have i:=jE;rcases hq with hq |hq
 ·obtain⟨its,b,pl,e⟩:=I.list hq;have a:=b.length;exact Calls.call_len_list pl.isList (by simp only[size_toArray]<;>omega) ⟨.int ys.length,H,I.tok _,⟨s.toks+1,by rw[size_toArray,a]⟩,q⟩
 obtain⟨its,b,pl,e⟩:=I.tuple hq;have a:=b.length;exact len_tuple pl (by simp only[size_toArray]<;>omega) ⟨.int ys.length,H,I.tok _,⟨s.toks+1,by rw[size_toArray,a]⟩,q⟩
theorem rY:hZ X (.builtin "len") (λxs H Q => ∃ z,xs=[.str z]/\z.length<=sizeLine/\Q (.int z.length) H):=by intro a s b H xs d Q I r h;obtain⟨z,rfl,c,q⟩:=h;obtain⟨u,rfl,t,rfl⟩:=vals1 r;have e:=jE;exact len_str (by omega) ⟨.int z.length,H,I.tok _,⟨_,rfl⟩,q⟩
theorem ju:hZ X (.type "tuple") (λxs H Q => ∃ p ys,xs=[.ref p]/\((MA X.K H p ys/\∀ l,H l=none->Q (.ref l) (upd H l (.tup ys)))∨(Ms X.K H p ys/\Q (.ref p) H))):=by
 intro a s i H xs t Q I r h;obtain⟨p,ys,rfl,h⟩:=h;obtain⟨u,rfl,m⟩:=vals1 r;cases m;rcases h with ⟨f,q⟩ |⟨f,q⟩
 ·obtain⟨its,d,pl,j⟩:=I.list f;have g:=d.length;refine call_tuple_list pl.isList (λc kp=>?_) (by simp only[size_toArray]<;>omega);have k:Inv X a i H { s with heap:=c }:=I.kept (t':=s.toks) kp
  have n:Inv X a i (upd H c.objs.size (.tup ys)) { s with heap:=c.push { cls:=.type "tuple",data:=.seq its.toArray } }:=
   k.laid (t':=s.toks) (λb o e=>Heap.get?_push_of_some _ e) (le_refl _) (show JC X.prog X.w _ _ _ (.tup ys) from⟨j,its,d,Mp.new _ _⟩)
  exact⟨.ref c.objs.size,_,n,rfl,q _ (k.Jk.fresh (le_refl _))⟩
 obtain⟨its,d,pl,j⟩:=I.tuple f;exact call_tuple_same pl ⟨.ref p,H,I,rfl,q⟩
def Uy (K:IF)(T:String)(x:V)(H:Hp):Prop:=match x with
 | .str _=>T="str"
 | .int _=>T="int"
 | .ref p=>(T="list"/\∃ b,MA K H p b)∨(T="tuple"/\((∃ o,K.lookup p=some o/\o.cls = .type "tuple"/\o.dict=none)∨∃ b,Rd H p (.tup b))) ∨
   (T="dict"/\((∃ a,H p=some (.dK a))∨∃ a,H p=some (.dT a)))∨(T="set"/\∃ S n,H p=some (.set S n))
 |_=>False
theorem DU {f:II}{k:St}{H:Hp}{s:Shared}{T:String}{x:V}{v:Value}(I:Inv X f k H s)(r:RelV x v)(ty:Uy X.K T x H) :
  s.TypeIs v T/\∀ a,v = .ref a->∃ h,s.heap.get? a=some h/\h.dict=none:=by
 cases x with
 |str z =>
  obtain⟨t,rfl⟩:=r;cases (show T="str" from ty);exact⟨typeIs_str s z t,λ_ e=>nomatch e⟩
 |int i =>
  obtain⟨t,rfl⟩:=r;cases (show T="int" from ty);exact⟨typeIs_int s i t,λ_ e=>nomatch e⟩
 |ref p =>
  cases r;rcases ty with ⟨rfl,j,l⟩ |⟨rfl,⟨o,b,hc,hd⟩ |⟨j,hr⟩⟩ |⟨rfl,b⟩ |⟨rfl,S,n,b⟩
  ·obtain⟨its,_,pl,_⟩:=I.list l;refine⟨pl.isList.typeIs,λa e=>?_⟩;cases e;obtain⟨o,n,e,c,hd,_⟩:=pl;exact⟨o,e,hd⟩
  ·refine⟨⟨o,I.Mz p o b,hc⟩,λa e=>?_⟩;cases e;exact⟨o,I.Mz _ o b,hd⟩
  ·obtain⟨_,its,_,n,e⟩:=hr.ok I.Jk;refine⟨⟨_,e,rfl⟩,λa d=>?_⟩;cases d;exact⟨_,e,rfl⟩
  ·have z:∃ o,s.heap.get? p=some o/\o.ExactDict:=by
    rcases b with ⟨g,b⟩ |⟨g,b⟩
    ·obtain⟨_,_,_,_,o,_,_,e,ex,_⟩:=I.Jk p _ b;exact⟨o,e,ex⟩
    obtain⟨_,_,_,_,o,_,_,e,ex,_⟩:=I.Jk p _ b;exact⟨o,e,ex⟩
   obtain⟨o,e,ex⟩:=z;refine⟨⟨o,e,ex.1⟩,λa d=>?_⟩;cases d;exact⟨o,e,ex.2.1⟩
  obtain⟨o,_,_,_,e,ex,_⟩:=I.Jk p _ b;refine⟨⟨o,e,ex.1⟩,λa d=>?_⟩;cases d;exact⟨o,e,ex.2.1⟩
 |_=>exact False.elim ty
def WS (K:IF)(T:String)(r:V->List V->Hp->VK->Prop)(to:TE)(t:TA):TE:=λa H Q=>to a H λx b=>Uy K T x b/\t a b λc d=>r x c d Q
variable {o e:Expr}{es:List Expr}{to:TE}{t:TA}{name:Str}{apos Jv:Pos}{T id:String}{r:V->List V->Hp->VK->Prop}
theorem AB (C:PlainAttrs T)(slot:Slot T name id)(k:typeOf (.builtin id)=pure (.type "method_descriptor"))(G:WR X id r)(y:PE X o to)(M:PA X (e::es) t)
  (n:attributeBase o name X.env (eval o X.env)=eval o X.env:=by rfl)
  (j:((backTo Jv (starEach (e::es) X.env)).all (λx => !x.1)&&(backToKw Jv (keywordEach [] X.env)).all (λx=>x.1.isSome)
   && decide ((e::es).length+([]:List Keyword).length+(if ([]:List Keyword).isEmpty then 0 else 1)<30))=true:=by rfl)
  (w:(apos.endLine==Jv.line)=true:=by rfl) (J:starEach (e::es) X.env=(false,eval e X.env)::starEach es X.env:=by rfl) (i:(backTo Jv (starEach es X.env)).any (·.1)=false:=by rfl) :
  PE X (.Call (.Attribute o name apos) (e::es) [] Jv) (WS X.K T r to t):=by
 intro a s b H Q I h;refine wpAny_Call_method_late n j w rfl (Jj (y a s b H _ I h) λv m B=>?_);obtain⟨x,z,f,d,ty,q⟩:=B;obtain⟨u,p⟩:=DU f d ty;refine⟨T,id,C,slot,k,u,p,?_⟩;have c:=M Jv a m b z _ f q;rw[J] at c ⊢;refine Calls.callWith_builtin (by show (false ||(backTo Jv (starEach es X.env)).any (·.1))=false;rw[i]<;>rfl) (Calls.evalArgs_plain ?_);exact Jj c λF E ⟨D,g,l,A,L⟩=>G a E b g x D v F Q l d A L
end
def WU (X:Cx)(id:String)(r:V->List V->Hp->VK->Prop):Prop:=
 ∀ (a:II) (s:Shared) (c:St) (H:Hp) (x:V) (b:List V) (v:Value) (d:List Value) (Q:VK),Inv X a c H s->RelV x v->Vals b d->r x b H Q ->
  wpAny (model X.prog X.w) X.A (call (.builtin id) (v::d)) (EP X a c Q) X.xe s
theorem Vals.one:∀ {x:V}{us:List Value},Vals [x] us->∃ u,us=[u]/\RelV x u
 |_,_,.cons r .nil=>⟨_,rfl,r⟩
theorem Vals.rep {xs:List V}{us:List Value}(h:Vals xs us):∀ k:Nat,Vals (replicate k xs).flatten (replicate k us).flatten
 | 0 => .nil
 |k+1=>by
  rw[replicate_succ,replicate_succ,flatten_cons,flatten_cons];exact Vals.append h (Vals.rep h k)
theorem foldl_rep (its:List Value):∀ (k:Nat) (a:List Value),
  List.foldl (λx1 x2=>x1++x2) a.toArray (replicate k its.toArray)=(a++(replicate k its).flatten).toArray
 | 0,a=>by simp
 |k+1,a=>by
  have e:a.toArray++its.toArray=(a++its).toArray:=by simp
  have b:(a++its)++(replicate k its).flatten=a++(replicate (k+1) its).flatten:=by rw[replicate_succ,flatten_cons,List.append_assoc]
  rw[← b,← foldl_rep its k (a++its),← e,replicate_succ,foldl_cons]
section
variable {X:Cx}{pins:II}{σ:St}{H:Hp}{s:Shared}{l b:Addr}{xs ys zs:List V}
theorem Inv.SD {its its':List Value}{n:Nat}{f:Array Value->Array Value}{t':Nat}(I:Inv X pins σ H s)(a:H l=some (.lst xs))
  (e:s.heap.get? l=some { cls:=.type "list",data:=.seq its.toArray n }) (c:f its.toArray=its'.toArray) (b:Vals ys its') (hz:ys.length<=sizeLine) :
  Inv X pins σ (upd H l (.lst ys)) { s with heap:=s.heap.update l (Obj.mapSeq f),toks:=t' }:=by
 have q:=PySem.IsL.update e f;rw[c] at q;refine I.write (x:=l) (e:=l) (by rw[a];exact trivial) (.inl rfl) (λg u hb d=>(Heap.get?_update_other s.heap (Obj.mapSeq f) (Ne.symm hb)).trans d) ⟨_,q⟩ ?_;exact⟨hz,its',_,b,q⟩
theorem Inv.Vn {its:List Value}{t':Nat}(I:Inv X pins σ H s)(a:Vals ys its)(hz:ys.length<=sizeLine) :
  Inv X pins σ (upd H s.heap.objs.size (.lst ys)) { s with heap:=s.heap.push { cls:=.type "list",data:=.seq its.toArray },toks:=t' }:=
 I.laid (λ_ _ q=>Heap.get?_push_of_some _ q) (le_refl _) ⟨hz,its,0,a,Heap.get?_push_size _ rfl⟩
theorem Inv.fresh (I:Inv X pins σ H s):H s.heap.objs.size=none:=I.Jk.fresh (le_refl _)
theorem Inv.SH (I:Inv X pins σ H s)(a:H l=some (.lst xs)):xs.length<=sizeLine/\∃ (its:List Value) (n:Nat),Vals xs its/\xs.length=its.length/\s.heap.get? l=some { cls:=.type "list",data:=.seq its.toArray n }:=by obtain⟨z,its,n,r,e⟩:=I.Jk l _ a;exact⟨z,its,n,r,r.length,e⟩
theorem AI {n:Nat}(h:n<=sizeLine):Builtin.List.listTooLong n=false:=by unfold Builtin.List.listTooLong;exact decide_eq_false (by omega)
end
section
variable {X:Cx}
def Cn:V->List V->Hp->VK->Prop:=λx b H Q => ∃ l a y,x = .ref l/\b=[y]/\H l=some (.lst a)/\a.length<sizeLine/\Q .Ji (upd H l (.lst (a++[y])))
theorem yQ:WU X "list.append" Cn:=by intro b s i H x m v o Q I c f h;obtain⟨l,g,y,rfl,rfl,a,k,q⟩:=h;cases c;obtain⟨u,rfl,d⟩:=f.one;obtain⟨z,its,n,r,j,e⟩:=I.SH a;refine call_meets F.slot_list_append ⟨_,e,rfl⟩ F.entry_list_append (F.args_list_append_2 _ _) (PySem.list_append l its.toArray n u (by rw[size_toArray];omega)) ⟨e,?_⟩;refine⟨.Ji,_,I.SD (its':=its++[u]) a e (by simp) (r.append (.cons d .nil)) ?_,rfl,q⟩;rw[List.length_append,length_singleton];omega
theorem len_rep {α:Type}(xs:List α)(k:Nat):(replicate k xs).flatten.length=k*xs.length:=by
 induction k with
 |zero=>simp
 |succ k a=>rw[replicate_succ,flatten_cons,List.length_append,a,Nat.succ_mul,Nat.add_comm]
end
inductive D where
 |Ji |bl (b:Bool) |int (i:Int) |str (x:Str)
 |tup (xs:List D) |lst (xs:List D) |set (xs:List D) |loc (l:Nat) |fn (x:Str) (st:Stmt)
 deriving Inhabited
def TQ (K:IF)(H:Hp)(J:List Addr)(a:Addr)(xs:List V):Prop:=
 (Rd H a (.tup xs)/\a∉J/\xs.length<=sizeLine)∨∃ (o:Obj) (its:Array Value) (n:Nat),K.lookup a=some o/\o.cls = .type "tuple"/\o.dict=none/\o.data = .seq its n/\its.size<=sizeLine/\Vals xs its.toList
def LQ (K:IF)(H:Hp)(J:List Addr)(a:Addr)(xs:List V):Prop:=
 (Rd H a (.lst xs)/\a∉J/\xs.length<=sizeLine)∨∃ (o:Obj) (its:Array Value) (n:Nat),K.lookup a=some o/\o.cls = .type "list"/\o.dict=none/\o.data = .seq its n/\its.size<=sizeLine/\Vals xs its.toList
theorem TQ.sq {K:IF}{H:Hp}{J:List Addr}{a:Addr}{xs:List V}(h:TQ K H J a xs):Ms K H a xs:=h.elim (λz => .inl z.1) λ⟨o,its,n,a,b,_,c⟩ => .inr ⟨o,its,n,a,b,c⟩
theorem LQ.sq {K:IF}{H:Hp}{J:List Addr}{a:Addr}{xs:List V}(h:LQ K H J a xs):MA K H a xs:=h.elim (λz => .inl z.1) .inr
def GN (a:Addr)(us:List Value):HO:=HO.ext λh => ∃ o es ep t,h.get? a=some o/\o.ExactSet/\o.data = .set es ep t/\(es.toList.map (·.2))=us/\t.fits es.size=true/\es.size<=sizeLine
def Qg (x:Str):Prop:=x.length<=sizeLine/\PyData.strOk x=true
mutual
def At (K:IF)(H:Hp)(J:List Addr):D->V->Prop
 | .Ji,v=>v = .Ji
 | .bl b,v=>v = .bl b
 | .int i,v=>v = .int i
 | .str x,v=>v = .str x/\Qg x
 | .tup d,v => ∃ a c,v = .ref a/\TQ K H J a c/\IT K H J d c
 | .lst d,v => ∃ a c,v = .ref a/\LQ K H J a c/\IT K H J d c
 | .set d,v => ∃ a e c,v = .ref a/\H a=some (GN a e)/\a∉J/\Vals c e/\IT K H J d c
 | .loc l,v => ∃ a,v = .ref a/\J[l]?=some a
 | .fn x st,v => ∃ f fd,v = .ref f/\Ob K x x st f fd
def IT (K:IF)(H:Hp)(J:List Addr):List D->List V->Prop
 |[],vs=>vs=[]
 |d::ds,vs => ∃ v r,vs=v::r/\At K H J d v/\IT K H J ds r
end
structure Ex (J:List Addr) (H:Hp) (J':List Addr) (H':Hp):Prop where
 pre:J <+: J'
 keep:∀ b o,H b=some o->b∉J->H' b=some o/\b∉J'
theorem Ex.refl {J:List Addr}{H:Hp}:Ex J H J H:=⟨prefix_refl _,λ_ _ h n=>⟨h,n⟩⟩
theorem Ex.trans {J f g:List Addr}{H d e:Hp}(a:Ex J H f d)(b:Ex f d g e):Ex J H g e:=
 ⟨a.pre.trans b.pre,λc o h n=>let ⟨i,n1⟩:=a.keep c o h n;b.keep c o i n1⟩
theorem Ex.same {J:List Addr}{H H':Hp}(s:I0 H H'):Ex J H J H':=⟨prefix_refl _,λb o h n=>⟨s b o h,n⟩⟩
section
variable {K:IF}{H H':Hp}{J J':List Addr}
theorem Rd.ex {a:Addr}{u:HO}(e:Ex J H J' H')(h:Rd H a u)(n:a∉J):Rd H' a u/\a∉J':=by
 rcases h with h |⟨o,h⟩
 ·exact⟨.inl (e.keep a _ h n).1,(e.keep a _ h n).2⟩
 exact⟨.inr ⟨o,(e.keep a _ h n).1⟩,(e.keep a _ h n).2⟩
theorem TQ.ex {a:Addr}{xs:List V}(e:Ex J H J' H')(h:TQ K H J a xs):TQ K H' J' a xs:=h.elim (λz => .inl ⟨(z.1.ex e z.2.1).1,(z.1.ex e z.2.1).2,z.2.2⟩) .inr
theorem LQ.ex {a:Addr}{xs:List V}(e:Ex J H J' H')(h:LQ K H J a xs):LQ K H' J' a xs:=h.elim (λz => .inl ⟨(z.1.ex e z.2.1).1,(z.1.ex e z.2.1).2,z.2.2⟩) .inr
theorem TQ.len {a:Addr}{xs:List V}(h:TQ K H J a xs):xs.length<=sizeLine:=by
 rcases h with ⟨_,_,z⟩ |⟨o,its,n,_,_,_,_,z,r⟩
 ·exact z
 have e:=Vals.length r;simp only[length_toList] at e;omega
theorem LQ.len {a:Addr}{xs:List V}(h:LQ K H J a xs):xs.length<=sizeLine:=by
 rcases h with ⟨_,_,z⟩ |⟨o,its,n,_,_,_,_,z,r⟩
 ·exact z
 have e:=Vals.length r;simp only[length_toList] at e;omega
theorem mX {α:Type}{l a:List α}(h:l <+: a){i:Nat}{x : α}(e:l[i]?=some x):a[i]?=some x:=by obtain⟨t,rfl⟩:=h;rw[getElem?_append_left (List.getElem?_eq_some_iff.mp e).1];exact e
mutual
theorem At.ex (e:Ex J H J' H'):∀ {d:D}{v:V},At K H J d v->At K H' J' d v
 | .Ji,_,h=>by unfold At at h ⊢;exact h
 | .bl _,_,h=>by unfold At at h ⊢;exact h
 | .int _,_,h=>by unfold At at h ⊢;exact h
 | .str _,_,h=>by unfold At at h ⊢;exact h
 | .tup c,_,h=>by unfold At at h ⊢;obtain⟨a,b,rfl,q,r⟩:=h;exact⟨a,b,rfl,q.ex e,IT.ex e r⟩
 | .lst c,_,h=>by unfold At at h ⊢;obtain⟨a,b,rfl,q,r⟩:=h;exact⟨a,b,rfl,q.ex e,IT.ex e r⟩
 | .set c,_,h=>by unfold At at h ⊢;obtain⟨a,f,b,rfl,q,n,r,z⟩:=h;exact⟨a,f,b,rfl,(e.keep a _ q n).1,(e.keep a _ q n).2,r,IT.ex e z⟩
 | .loc l,_,h=>by unfold At at h ⊢;obtain⟨a,rfl,q⟩:=h;exact⟨a,rfl,mX e.pre q⟩
 | .fn _ _,_,h=>by unfold At at h ⊢;exact h
theorem IT.ex (e:Ex J H J' H'):∀ {ds:List D}{vs:List V},IT K H J ds vs->IT K H' J' ds vs
 |[],_,h=>by unfold IT at h ⊢;exact h
 |d::ds,_,h=>by unfold IT at h ⊢;obtain⟨v,r,rfl,p,q⟩:=h;exact⟨v,r,rfl,At.ex e p,IT.ex e q⟩
end
theorem At.Jw {v:V}:At K H J .Ji v↔v = .Ji:=by unfold At;exact Iff.rfl
theorem At.Jn {b:Bool}{v:V}:At K H J (.bl b) v↔v = .bl b:=by unfold At;exact Iff.rfl
theorem At.IP {i:Int}{v:V}:At K H J (.int i) v↔v = .int i:=by unfold At;exact Iff.rfl
theorem At.Je {x:Str}{v:V}:At K H J (.str x) v↔v = .str x/\Qg x:=by unfold At;exact Iff.rfl
theorem At.Jb {ds:List D}{v:V}:At K H J (.tup ds) v↔∃ a xs,v = .ref a/\TQ K H J a xs/\IT K H J ds xs:=by unfold At;exact Iff.rfl
theorem At.Jc {ds:List D}{v:V}:At K H J (.lst ds) v↔∃ a xs,v = .ref a/\LQ K H J a xs/\IT K H J ds xs:=by unfold At;exact Iff.rfl
theorem At.LM {ds:List D}{v:V}:At K H J (.set ds) v↔∃ a us xs,v = .ref a/\H a=some (GN a us)/\a∉J/\Vals xs us/\IT K H J ds xs:=by unfold At;exact Iff.rfl
theorem At.I_ {l:Nat}{v:V}:At K H J (.loc l) v↔∃ a,v = .ref a/\J[l]?=some a:=by unfold At;exact Iff.rfl
theorem At.OU {x:Str}{st:Stmt}{v:V}:At K H J (.fn x st) v↔∃ f fd,v = .ref f/\Ob K x x st f fd:=by unfold At;exact Iff.rfl
theorem IT.IV {vs:List V}:IT K H J [] vs↔vs=[]:=by unfold IT;exact Iff.rfl
theorem IT.IQ {d:D}{ds:List D}{vs:List V}:IT K H J (d::ds) vs↔∃ v r,vs=v::r/\At K H J d v/\IT K H J ds r:=by
 constructor
 ·intro h;unfold IT at h;exact h
 intro h;unfold IT;exact h
theorem IT.nil:IT K H J [] []:=IT.IV.mpr rfl
theorem IT.cons {d:D}{v:V}{ds:List D}{vs:List V}(h:At K H J d v)(r:IT K H J ds vs):IT K H J (d::ds) (v::vs):=IT.IQ.mpr ⟨v,vs,rfl,h,r⟩
theorem IT.IU {d:D}{v:V}{ds:List D}{vs:List V}(h:IT K H J (d::ds) (v::vs)):At K H J d v/\IT K H J ds vs:=by obtain⟨_,_,e,p,q⟩:=IT.IQ.mp h;cases e;exact⟨p,q⟩
theorem IT.length:∀ {ds:List D}{vs:List V},IT K H J ds vs->ds.length=vs.length
 |[],_,h=>by rw[IT.IV.mp h];rfl
 |d::ds,_,h=>by obtain⟨v,r,rfl,_,q⟩:=IT.IQ.mp h;rw[length_cons,length_cons,IT.length q]
theorem IT.append:∀ {ds es:List D}{vs us:List V},IT K H J ds vs->IT K H J es us->IT K H J (ds++es) (vs++us)
 |[],_,_,_,h,k=>by rw[IT.IV.mp h];exact k
 |d::ds,_,_,_,h,k=>by obtain⟨v,r,rfl,p,q⟩:=IT.IQ.mp h;exact .cons p (IT.append q k)
theorem IT.get:∀ {ds:List D}{vs:List V}{i:Nat}{d:D},IT K H J ds vs->ds[i]?=some d->∃ v,vs[i]?=some v/\At K H J d v
 |[],_,_,_,_,e=>by simp at e
 |d::ds,_,0,_,h,e=>by obtain⟨v,r,rfl,p,q⟩:=IT.IQ.mp h;simp at e;subst e;exact⟨v,rfl,p⟩
 |d::ds,_,i+1,_,h,e=>by obtain⟨v,r,rfl,p,q⟩:=IT.IQ.mp h;exact IT.get (i:=i) q (by simpa using e)
theorem IT.get':∀ {ds:List D}{vs:List V}{i:Nat}{v:V},IT K H J ds vs->vs[i]?=some v->∃ d,ds[i]?=some d/\At K H J d v
 |[],_,_,_,h,e=>by rw[IT.IV.mp h] at e;simp at e
 |d::ds,_,0,_,h,e=>by obtain⟨v,r,rfl,p,q⟩:=IT.IQ.mp h;simp at e;subst e;exact⟨d,rfl,p⟩
 |d::ds,_,i+1,_,h,e=>by obtain⟨v,r,rfl,p,q⟩:=IT.IQ.mp h;exact IT.get' (i:=i) q (by simpa using e)
theorem IT.take:∀ {ds:List D}{vs:List V}(n:Nat),IT K H J ds vs->IT K H J (ds.take n) (vs.take n)
 |_,_,0,_=>by simpa using IT.nil
 |[],_,_+1,h=>by rw[IT.IV.mp h];simpa using IT.nil
 |d::ds,_,n+1,h=>by obtain⟨v,r,rfl,p,q⟩:=IT.IQ.mp h;exact .cons p (IT.take n q)
theorem IT.drop:∀ {ds:List D}{vs:List V}(n:Nat),IT K H J ds vs->IT K H J (ds.drop n) (vs.drop n)
 |_,_,0,h=>h
 |[],_,_+1,h=>by rw[IT.IV.mp h];simpa using IT.nil
 |d::ds,_,n+1,h=>by obtain⟨v,r,rfl,p,q⟩:=IT.IQ.mp h;exact IT.drop n q
theorem IT.rep {ds:List D}{vs:List V}(h:IT K H J ds vs):∀ k:Nat,IT K H J (replicate k ds).flatten (replicate k vs).flatten
 | 0=>IT.nil
 |k+1=>by rw[replicate_succ,replicate_succ,flatten_cons,flatten_cons];exact h.append (IT.rep h k)
theorem IT.ofInts:∀ (ns:List Int),IT K H J (ns.map D.int) (ns.map V.int)
 |[] => .nil
 |n::ns => .cons (At.IP.mpr rfl) (IT.ofInts ns)
theorem IT.Lp:∀ {ns:List Int}{vs:List V},IT K H J (ns.map D.int) vs->vs=ns.map V.int
 |[],_,h=>IT.IV.mp h
 |n::ns,_,h=>by obtain⟨v,r,rfl,p,q⟩:=IT.IQ.mp h;rw[At.IP.mp p,IT.Lp q];rfl
end
mutual
def toPy:D->Option PyData
 | .Ji=>some .none
 | .bl b=>some (.bool b)
 | .int i=>some (.int i)
 | .str x=>some (.str x)
 | .tup a=>(dZ a).map .tuple
 | .lst a=>(dZ a).map .list
 | .set _=>none
 | .loc _=>none
 | .fn _ _=>none
def dZ:List D->Option (List PyData)
 |[]=>some []
 |d::ds=>(toPy d).bind λp=>(dZ ds).map λr=>p::r
end
inductive MO where
 |dict (kvs:List (D×D)) |lst (xs:List D) |exc (c:Str) |Jf (kvs:List (D×D)) |ins (c:Str) (fs:List (Str×D)) |tab (x q:Str)
 deriving Inhabited
abbrev IL:=List MO
def eA:D->Option Key
 | .int i=>some (.inl i)
 | .str x=>some (.inr x)
 |_=>none
def YE (a C:Addr):HO:=HO.ext λh => ∃ o,h.get? a=some o/\o.cls = .ref C
def mU (c:Addr)(q:Str):HO:=HO.ext λh => ∃ o a t,h.get? c=some o/\o.data = .fields a/\a[1]?=some (.str q t)
def GM (H:Hp)(J:List Addr)(q:Str)(b:Array Value):Prop:=TriplesOk b.toList/\∀ pos a,codeAmong pos b.toList=some a->∃ c,a = .ref c/\c∉J/\H c=some (mU c q)
def gu (d:D):Option PyData:=(toPy d).bind λp=>if keyOk 8 p=true then some p else none
abbrev Oc (K:IF)(H:Hp)(J:List Addr):(D×D)->(PyData×Addr×V)->Prop:=λp q=>(gu p.1=some q.1/\At K H J p.1 (.ref q.2.1))/\At K H J p.2 q.2.2
abbrev Uz (K:IF)(H:Hp)(J:List Addr):(Str×D)->(Str×V)->Prop:=λp q=>p.1=q.1/\At K H J p.2 q.2
def OG (K:IF)(H:Hp)(J:List Addr):MO->Addr->Prop
 | .lst g,a => ∃ e,H a=some (.lst e)/\IT K H J g e
 | .dict d,a => ∃ b:List (Key×V),H a=some (.dK b)/\Paired (λ(p:D×D) (q:Key×V)=>(eA p.1=some q.1/\At K H J p.1 (kV q.1))/\At K H J p.2 q.2) d b
 | .exc c,a => ∃ C,PySem.W.nsIn K mainGlobals c=some (some (.ref C))/\H a=some (YE a C)
 | .Jf d,a => ∃ b:List (PyData×Addr×V),H a=some (.dN b)/\Paired (Oc K H J) d b
 | .ins c fs,a => ∃ C h f,PySem.W.nsIn K mainGlobals c=some (some (.ref C))/\H a=some (.ins C h f)/\Paired (Uz K H J) fs f
 | .tab x q,a => ∃ c b,PySem.W.tabIn K x=some (c,a)/\H a=some (.LS b)/\GM H J q b
structure Jg (K:IF) (J:List Addr) (S:IL) (H:Hp):Prop where
 len:J.length=S.length
 nd:J.Nodup
 at_:∀ (l:Nat) (a:Addr) (o:MO),J[l]?=some a->S[l]?=some o->OG K H J o a
section
variable {K:IF}{H H':Hp}{J J':List Addr}{S:IL}
theorem OG.LN {o:MO}{a:Addr}(h:OG K H J o a):H a≠none:=by
 cases o with
 |dict b=>obtain⟨_,e,_⟩:=h;rw[e];simp
 |lst d=>obtain⟨_,e,_⟩:=h;rw[e];simp
 |exc c=>obtain⟨_,_,e⟩:=h;rw[e];simp
 |Jf b=>obtain⟨_,e,_⟩:=h;rw[e];simp
 |ins c fs=>obtain⟨_,_,_,_,e,_⟩:=h;rw[e];simp
 |tab x q=>obtain⟨_,_,_,e,_⟩:=h;rw[e];simp
theorem Jg.tracked (s:Jg K J S H){a:Addr}(h:a∈J):H a≠none:=by
 obtain⟨l,e⟩:=getElem?_of_mem h;have b:l<S.length:=by rw[← s.len];exact(List.getElem?_eq_some_iff.mp e).1
 exact(s.at_ l a _ e (List.getElem?_eq_getElem b)).LN
theorem Jg.fresh (s:Jg K J S H){a:Addr}(h:H a=none):a∉J:=λm=>s.tracked m h
theorem OG.ex {o:MO}{a:Addr}(e:Ex J H J' H')(k:H' a=H a)(h:OG K H J o a):OG K H' J' o a:=by
 cases o with
 |dict f=>obtain⟨b,q,r⟩:=h;exact⟨b,k.trans q,Paired.MN r λp q z=>⟨⟨z.1.1,z.1.2.ex e⟩,z.2.ex e⟩⟩
 |lst w=>obtain⟨l,q,r⟩:=h;exact⟨l,k.trans q,r.ex e⟩
 |exc c=>obtain⟨C,q,r⟩:=h;exact⟨C,q,k.trans r⟩
 |Jf f=>obtain⟨b,q,r⟩:=h;exact⟨b,k.trans q,Paired.MN r λp q z=>⟨⟨z.1.1,z.1.2.ex e⟩,z.2.ex e⟩⟩
 |ins c fs=>obtain⟨C,v,t,n,q,r⟩:=h;exact⟨C,v,t,n,k.trans q,Paired.MN r λp q z=>⟨z.1,z.2.ex e⟩⟩
 |tab x q =>
  obtain⟨c,b,n,m,i,s⟩:=h;exact⟨c,b,n,k.trans m,i,λpos j u=>let ⟨d,z1,z2,g⟩:=s pos j u;⟨d,z1,(e.keep d _ g z2).2,(e.keep d _ g z2).1⟩⟩
theorem Jg.same (s:Jg K J S H)(e:I0 H H'):Jg K J S H':=⟨s.len,s.nd,λl a o c d=>by
 have q:=s.at_ l a o c d;refine q.ex (Ex.same e) ?_;obtain⟨u,b⟩:=Option.ne_none_iff_exists'.mp q.LN
 rw[b];exact e a u b⟩
end
theorem aN {H:Hp}{p:Addr}(h:H p=none)(o:HO):I0 H (upd H p o):=λb u q=>by rw[aA (aK q h)];exact q
abbrev IM:=List (Option D)
abbrev Out (α:Type):=Option (Except Str α×IL)
abbrev IE(α:Type):=IM->IL->Out α
abbrev IK:=List D->IL->Out D
abbrev WT:=Str->List Addr->IL->Hp->Prop
noncomputable def ai {α b:Type}(m:Out α) (k : α->IL->Out b):Out b:=
 match m with
 |none=>none
 |some (.error c,S)=>some (.error c,S)
 |some (.ok a,S)=>k a S
noncomputable def IX {α:Type}(a : α) (S:IL):Out α:=some (.ok a,S)
@[simp] theorem cD {α b:Type}(a : α)(S:IL)(k : α->IL->Out b):ai (IX a S) k=k a S:=rfl
@[simp] theorem fC {α b:Type}(a : α)(S:IL)(k : α->IL->Out b):ai (some (.ok a,S)) k=k a S:=rfl
@[simp] theorem FH {α a:Type}(c:Str)(S:IL)(k : α->IL->Out a):ai (some (.error c,S)) k=some (.error c,S):=rfl
@[simp] theorem Fq {α a:Type}(k : α->IL->Out a):ai none k=none:=rfl
noncomputable def aJ {α:Type}(a:Option α) (S:IL):Out α:=a.map λa=>(.ok a,S)
@[simp] theorem bA {α:Type}(a : α)(S:IL):aJ (some a) S=IX a S:=rfl
@[simp] theorem FG {α:Type}(S:IL):aJ (none:Option α) S=none:=rfl
structure Cf (X:Cx) (J:List Addr) (ρ:IM) (S:IL) (σ:St) (H:Hp):Prop where
 len : ρ.length = σ.length
 env:∀ (i:Nat) (d:D),ρ[i]?=some (some d)->∃ v,σ[i]?=some (some v)/\At X.K H J d v
 Jr:Jg X.K J S H
theorem Cf.re {X:Cx}{J a:List Addr}{ρ:IM}{S f:IL}{b:St}{H H':Hp}(c:Cf X J ρ S b H)(e:Ex J H a H')(s:Jg X.K a f H'):Cf X a ρ f b H':=
 ⟨c.len,λi d h=>let ⟨v,g,j⟩:=c.env i d h;⟨v,g,j.ex e⟩,s⟩
def HK {α g:Type}(X:Cx)(W:WT)(R:List Addr->Hp->α->g->Prop)(J:List Addr)(H:Hp)(r:Except Str α)(f:IL)(Q : g->Hp->Prop):Prop:=
 match r with
 | .ok a => ∀ e d b,Ex J H e d->Jg X.K e f d->R e d a b->Q b d
 | .error c => ∀ e d,Ex J H e d->Jg X.K e f d->W c e f d
def tG {α c:Type}(X:Cx)(W:WT)(R:List Addr->Hp->α->c->Prop)(ds:List D)(vs:List V)(g:IE α):St->Hp->(c->Hp->Prop)->Prop:=λd H Q =>
 ∃ J a S r b,Cf X J a S d H/\IT X.K H J ds vs/\g a S=some (r,b)/\HK X W R J H r b Q
abbrev RD (X:Cx):List Addr->Hp->D->V->Prop:=λJ H d v=>At X.K H J d v
abbrev YF (X:Cx):List Addr->Hp->List D->List V->Prop:=λJ H d v=>IT X.K H J d v
abbrev RB:List Addr->Hp->Bool->Bool->Prop:=λ_ _ a b=>a=b
def tE (X:Cx)(W:WT)(g:IE D):TE:=tG X W (RD X) [] [] g
def tA (X:Cx)(W:WT)(g:IE (List D)):TA:=tG X W (YF X) [] [] g
def tT (X:Cx)(W:WT)(g:IE Bool):TT:=tG X W RB [] [] g
def SE (X:Cx)(W:WT)(e:Expr)(g:IE D):Prop:=PE X e (tE X W g)
def SA (X:Cx)(W:WT)(es:List Expr)(g:IE (List D)):Prop:=PA X es (tA X W g)
def MC (X:Cx)(W:WT)(e:Expr)(g:IE Bool):Prop:=PT X e (tT X W g)
def SW (X:Cx)(W:WT)(e:Expr)(g:IE Bool):Prop:=PW X e (tT X W g)
theorem PE.imp {X:Cx}{e:Expr}{t t':TE}(h:PE X e t)(i:∀ a H Q,t' a H Q->t a H Q):PE X e t':=λb s a H Q I z=>h b s a H Q I (i a H Q z)
theorem PT.imp {X:Cx}{e:Expr}{t t':TT}(h:PT X e t)(i:∀ a H Q,t' a H Q->t a H Q):PT X e t':=λb s a H Q I z=>h b s a H Q I (i a H Q z)
theorem PW.imp {X:Cx}{e:Expr}{t t':TT}(h:PW X e t)(i:∀ a H Q,t' a H Q->t a H Q):PW X e t':=λc b s a H Q I z=>h c b s a H Q I (i a H Q z)
theorem PA.imp {X:Cx}{e:List Expr}{t t':TA}(h:PA X e t)(i:∀ a H Q,t' a H Q->t a H Q):PA X e t':=λpos b s a H Q I z=>h pos b s a H Q I (i a H Q z)
section
variable {X:Cx}{W:WT}{α β γ:Type}{R:List Addr->Hp->γ->β->Prop}
theorem tG.IZ {n:IE D}{k:D->IE γ}{ds:List D}{vs:List V}{l:St}{H:Hp}{Q : β->Hp->Prop}
  (h:tG X W R ds vs (λρ S=>ai (n ρ S) λd f=>k d ρ f) l H Q):tE X W n l H λv s => ∃ d,tG X W R (d::ds) (v::vs) (k d) l s Q:=by
 obtain⟨J,ρ,S,r,w,c,a,e,z⟩:=h;cases q:n ρ S with
 |none=>simp[q] at e
 |some o =>
  obtain⟨y,f⟩:=o;simp only[q] at e;cases y with
  |error x =>
   cases e;exact⟨J,ρ,S,.error x,_,c,.nil,q,z⟩
  |ok d =>
   refine⟨J,ρ,S,.ok d,f,c,.nil,q,λA s v x t m=>⟨d,A,ρ,f,r,w,c.re x t,.cons m (a.ex x),e,?_⟩⟩;cases r with
   |ok g=>exact λj i b x2 p u=>z j i b (x.trans x2) p u
   |error g=>exact λj i x2 p=>z j i (x.trans x2) p
theorem tG.LZ {n:IE (List D)}{k:List D->IE γ}{ds:List D}{vs:List V}{l:St}{H:Hp}{Q : β->Hp->Prop}
  (h:tG X W R ds vs (λρ S=>ai (n ρ S) λd f=>k d ρ f) l H Q):tA X W n l H λus s => ∃ es,es.length=us.length/\tG X W R (es++ds) (us++vs) (k es) l s Q:=by
 obtain⟨J,ρ,S,r,w,c,a,e,z⟩:=h;cases q:n ρ S with
 |none=>simp[q] at e
 |some o =>
  obtain⟨y,f⟩:=o;simp only[q] at e;cases y with
  |error x =>
   cases e;exact⟨J,ρ,S,.error x,_,c,.nil,q,z⟩
  |ok d =>
   refine⟨J,ρ,S,.ok d,f,c,.nil,q,λA s v x t m=>⟨d,IT.length m,A,ρ,f,r,w,c.re x t,IT.append m (a.ex x),e,?_⟩⟩;cases r with
   |ok g=>exact λj i b x2 p u=>z j i b (x.trans x2) p u
   |error g=>exact λj i x2 p=>z j i (x.trans x2) p
theorem tG.MD {n:IE Bool}{k:Bool->IE γ}{ds:List D}{vs:List V}{l:St}{H:Hp}{Q : β->Hp->Prop}
  (h:tG X W R ds vs (λρ S=>ai (n ρ S) λd f=>k d ρ f) l H Q):tT X W n l H λb s=>tG X W R ds vs (k b) l s Q:=by
 obtain⟨J,ρ,S,r,w,c,a,e,z⟩:=h;cases q:n ρ S with
 |none=>simp[q] at e
 |some o =>
  obtain⟨y,f⟩:=o;simp only[q] at e;cases y with
  |error x =>
   cases e;exact⟨J,ρ,S,.error x,_,c,.nil,q,z⟩
  |ok d =>
   refine⟨J,ρ,S,.ok d,f,c,.nil,q,λA s v x t m=>?_⟩;cases m;refine⟨A,ρ,f,r,w,c.re x t,a.ex x,e,?_⟩;cases r with
   |ok g=>exact λj i b x2 p u=>z j i b (x.trans x2) p u
   |error g=>exact λj i x2 p=>z j i (x.trans x2) p
end
section
variable {X:Cx}{pins:II}{σ:St}{H:Hp}{s:Shared}{J:List Addr}
mutual
theorem At.reads (I:Inv X pins σ H s):∀ {d:D}{v:V}{u:Value}{p:PyData},At X.K H J d v->RelV v u->toPy d=some p->p.canLay0=true/\∃ as,Reads s.heap u p as
 | .Ji,_,_,_,h,r,e=>by
  have h:=At.Jw.mp h;subst h;simp[toPy] at e;subst e;cases r;exact⟨rfl,[],.none⟩
 | .bl b,_,_,_,h,r,e=>by
  have h:=At.Jn.mp h;subst h;simp[toPy] at e;subst e;cases r;exact⟨rfl,[],.bool b⟩
 | .int i,_,_,_,h,r,e=>by
  have h:=At.IP.mp h;subst h;simp[toPy] at e;subst e;obtain⟨t,rfl⟩:=r;exact⟨rfl,[],.int i t⟩
 | .str x,_,_,_,h,r,e=>by
  obtain⟨ev,w⟩:=At.Je.mp h;subst ev;simp[toPy] at e;subst e;obtain⟨t,rfl⟩:=r;exact⟨by rw[PyData.canLay0];exact w.2,[],.str x t⟩
 | .tup A,_,_,_,h,r,e=>by
  obtain⟨a,m,rfl,q,z⟩:=At.Jb.mp h;rw[toPy] at e;obtain⟨y,f,l⟩:=map_eq_some_iff.mp e;subst l;cases r;obtain⟨its,k,⟨o,g,hc,n,hd⟩,_⟩:=I.tuple q.sq;obtain⟨c,as,j⟩:=IT.readsAll I z k f;exact⟨by rw[PyData.canLay0];exact c,_,.tuple g hc hd (by simpa using j)⟩
 | .lst A,_,_,_,h,r,e=>by
  obtain⟨a,m,rfl,q,z⟩:=At.Jc.mp h;rw[toPy] at e;obtain⟨y,f,l⟩:=map_eq_some_iff.mp e;subst l;cases r;obtain⟨its,k,⟨o,n,g,hc,_,hd⟩,_⟩:=I.list q.sq;obtain⟨c,as,j⟩:=IT.readsAll I z k f;exact⟨by rw[PyData.canLay0];exact c,_,.list g hc hd (by simpa using j)⟩
 | .set _,_,_,_,_,_,e=>by simp[toPy] at e
 | .loc _,_,_,_,_,_,e=>by simp[toPy] at e
 | .fn _ _,_,_,_,_,_,e=>by simp[toPy] at e
theorem IT.readsAll (I:Inv X pins σ H s):∀ {ds:List D}{vs:List V}{us:List Value}{a:List PyData},IT X.K H J ds vs->Vals vs us->dZ ds=some a->PyData.canLayAll0 a=true/\∃ as,ReadsAll s.heap us a as
 |[],_,_,_,h,r,e=>by
  have h:=IT.IV.mp h;subst h;simp[dZ] at e;subst e;cases r;exact⟨rfl,[],.nil⟩
 |d::ds,_,_,_,h,r,e=>by
  obtain⟨v,vs,rfl,p,q⟩:=IT.IQ.mp h;rw[dZ] at e;obtain⟨o,c,n⟩:=bind_eq_some_iff.mp e;obtain⟨t,f,i⟩:=map_eq_some_iff.mp n;subst i;cases r with
  |cons g m =>
   obtain⟨k,as,l⟩:=At.reads I p g c;obtain⟨b,bs,j⟩:=IT.readsAll I q m f;exact⟨by rw[PyData.canLayAll0,k,b];rfl,_,.cons l j⟩
end
end
section
variable {K:IF}
def Vo (K:IF)(g:D->Option D):V->Hp->VK->Prop:=λx H Q => ∃ J c d,(∀ a∈J,H a≠none)/\At K H J c x/\g c=some d/\∀ b v,I0 H b->At K b J d v->Q v b
def SJ (K:IF)(g:D->D->Option D):R2:=λx y H Q => ∃ J e c d,(∀ a∈J,H a≠none)/\At K H J e x/\At K H J c y/\g e c=some d/\∀ b v,I0 H b->At K b J d v->Q v b
def Vp (K:IF)(g:List D->Option D):List V->Hp->VK->Prop:=λe H Q => ∃ J c d,(∀ a∈J,H a≠none)/\IT K H J c e/\g c=some d/\∀ b v,I0 H b->At K b J d v->Q v b
end
theorem xB {H:Hp}{J:List Addr}(h:∀ a∈J,H a≠none){p:Addr}(n:H p=none):p∉J:=λm=>h p m n
theorem At.KD {K:IF}{H:Hp}{J:List Addr}{p:Addr}{ds:List D}{xs:List V}(h:IT K H J ds xs)(n:H p=none)(b:∀ a∈J,H a≠none)(hz:xs.length<=sizeLine):At K (upd H p (.tup xs)) J (.tup ds) (.ref p):=
 At.Jb.mpr ⟨p,xs,rfl,.inl ⟨.inl IY,xB b n,hz⟩,h.ex (Ex.same (aN n _))⟩
theorem At.La {K:IF}{H:Hp}{J:List Addr}{p:Addr}{ds:List D}{xs:List V}(h:IT K H J ds xs)(n:H p=none)(b:∀ a∈J,H a≠none)(hz:xs.length<=sizeLine):At K (upd H p (.lst xs)) J (.lst ds) (.ref p):=
 At.Jc.mpr ⟨p,xs,rfl,.inl ⟨.inl IY,xB b n,hz⟩,h.ex (Ex.same (aN n _))⟩
section
variable {X:Cx}{W:WT}
theorem tG.mono {α d:Type}{R:List Addr->Hp->α->d->Prop}{ds:List D}{vs:List V}{g:IE α}{f:St}{H:Hp}{Q j : d->Hp->Prop}(h:tG X W R ds vs g f H Q)(i:∀ b H',Q b H'->j b H'):tG X W R ds vs g f H j:=by
 obtain⟨J,k,S,r,l,c,a,e,z⟩:=h;refine⟨J,k,S,r,l,c,a,e,?_⟩;cases r with
 |ok g=>exact λm H' b x s r=>i _ _ (z m H' b x s r)
 |error g=>exact z
theorem Jg.all {K:IF}{J:List Addr}{S:IL}{H:Hp}(s:Jg K J S H):∀ a∈J,H a≠none:=λ_ m=>s.tracked m
theorem tG.WV {g:D->Option D}{b:D}{x:V}{i:St}{H:Hp}{Q:VK}(h:tG X W (RD X) [b] [x] (λ_ S=>aJ (g b) S) i H Q):Vo X.K g x H Q:=by
 obtain⟨J,k,S,r,l,c,a,e,z⟩:=h;obtain⟨j,_⟩:=a.IU;cases q:g b with
 |none=>simp[q] at e
 |some d =>
  simp only[q,bA,IX] at e;cases e;exact⟨J,b,d,c.Jr.all,j,q,λf v s m=>z J f v (Ex.same s) (c.Jr.same s) m⟩
theorem tG.WW {g:D->D->Option D}{f b:D}{x y:V}{j:St}{H:Hp}{Q:VK}(h:tG X W (RD X) [b,f] [y,x] (λ_ S=>aJ (g f b) S) j H Q):SJ X.K g x y H Q:=by
 obtain⟨J,n,S,r,o,c,a,e,z⟩:=h;obtain⟨k,a⟩:=a.IU;obtain⟨l,_⟩:=a.IU;cases q:g f b with
 |none=>simp[q] at e
 |some d =>
  simp only[q,bA,IX] at e;cases e;exact⟨J,f,b,d,c.Jr.all,l,k,q,λi v s m=>z J i v (Ex.same s) (c.Jr.same s) m⟩
theorem tG.YG {g:List D->Option D}{ds:List D}{xs:List V}{f:St}{H:Hp}{Q:VK}(h:tG X W (RD X) ds xs (λ_ S=>aJ (g ds) S) f H Q):Vp X.K g xs H Q:=by
 obtain⟨J,i,S,r,j,c,a,e,z⟩:=h;cases q:g ds with
 |none=>simp[q] at e
 |some d =>
  simp only[q,bA,IX] at e;cases e;exact⟨J,ds,d,c.Jr.all,a,q,λb v s m=>z J b v (Ex.same s) (c.Jr.same s) m⟩
abbrev Ng (X:Cx)(f:Value->Value->Sem Value)(g:D->D->Option D):Prop:=MS X f (SJ X.K g)
abbrev WX (X:Cx)(f:Value->Sem Value)(g:D->Option D):Prop:=Uu X f (Vo X.K g)
abbrev jw (X:Cx)(f:Value)(g:List D->Option D):Prop:=hZ X f (Vp X.K g)
noncomputable def af (i:Nat):IE D:=λa S=>match a[i]? with
 |some (some d)=>IX d S
 |_=>none
theorem aa {i:Nat}{x:Str}{pos:Pos}(g:X.N[i]?=some x:=by rfl)(a:Sa X.env.scope x:=by first |exact Or.inl rfl |exact Or.inr (Or.inl rfl) |exact Or.inr (Or.inr rfl))(hd:(x==("__debug__":Str))=false:=by decide)
  (j:(x==("__classdict__":Str))=false:=by decide):SE X W (.Name x pos) (af i):=(Ax g a hd j).imp λl H Q h=>by
 obtain⟨J,k,S,r,m,c,_,e,z⟩:=h;unfold af at e;split at e
 ·rename_i d q;obtain⟨v,f,b⟩:=c.env i d q;cases e;exact⟨v,f,z J H v Ex.refl c.Jr b⟩
 cases e
def aF (d:D):IE D:=λ_ S=>IX d S
theorem kC {d:D}{v:V}{b:St}{H:Hp}{Q:VK}(h:tE X W (aF d) b H Q)(a:∀ J,At X.K H J d v):Q v H:=by obtain⟨J,f,S,r,g,c,_,e,z⟩:=h;cases e;exact z J H v Ex.refl c.Jr (a J)
theorem ao {i j pos}:SE X W (.Constant (.int i) j pos) (aF (.int i)):=QO.imp λa H Q h=>kC h λ_=>At.IP.mpr rfl
theorem Ab {b j pos}:SE X W (.Constant (.bool b) j pos) (aF (.bl b)):=Sj.imp λa H Q h=>kC h λ_=>At.Jn.mpr rfl
theorem iq {j pos}:SE X W (.Constant .none j pos) (aF .Ji):=QP.imp λa H Q h=>kC h λ_=>At.Jw.mpr rfl
theorem jB {x j pos}(a:Qg x:=by exact⟨by decide,by decide⟩):SE X W (.Constant (.str x) j pos) (aF (.str x)):=QQ.imp λb H Q h=>kC h λ_=>At.Je.mpr ⟨rfl,a⟩
def aH (g:D->D->Option D)(c b:IE D):IE D:=λa S=>ai (c a S) λx e=>ai (b a e) λy d=>aJ (g x y) d
def Qh (g:D->Option D)(b:IE D):IE D:=λa S=>ai (b a S) λx c=>aJ (g x) c
variable {a b c:Expr}{fa fb fc:IE D}{pos:Pos}
theorem kJ {g:D->D->Option D}{a:St}{H:Hp}{Q:VK}(h:tE X W (aH g fa fb) a H Q):Sl (SJ X.K g) (tE X W fa) (tE X W fb) a H Q:=
 (tG.IZ h).mono λv e ⟨d,b⟩=>(tG.IZ b).mono λi f ⟨j,c⟩=>tG.WW c
theorem aC {op:Operator}{g:D->D->Option D}(c:Ng X (binaryOp op) g)(d:SE X W a fa)(hb:SE X W b fb):SE X W (.BinOp a op b pos) (aH g fa fb):=
 (F7 c d hb).imp λe H Q h=>kJ h
theorem w4 {op:UnaryOp}{g:D->Option D}(c:WX X (unaryOp op) g)(e:SE X W a fa):SE X W (.UnaryOp op a pos) (Qh g fa):=
 (F6 c e).imp λf H Q h=>(tG.IZ h).mono λv i ⟨d,b⟩=>tG.WV b
theorem k8 {op:CmpOp}{g:D->D->Option D}(d:Ng X (compareOp op) g)(e:SE X W a fa)(hb:SE X W b fb)(c:behindInMarks op b=false:=by first |exact AK _ (by decide) (by decide) |with_unfolding_all rfl):SE X W (.Compare a [op] [b] pos) (aH g fa fb):=
 (CJ d e hb c).imp λf H Q h=>kJ h
def NG:D->Option Bool
 | .bl b=>some b
 |_=>none
def bF (f:IE D):IE Bool:=λa S=>ai (f a S) λx b=>aJ (NG x) b
theorem j0 {f:IE D}{a:St}{H:Hp}{Q:Bool->Hp->Prop}(h:tT X W (bF f) a H Q):Lw (tE X W f) a H Q:=
 (tG.IZ h).mono λv g i=>by
  obtain⟨d,b⟩:=i
  obtain⟨J,j,S,r,l,c,m,e,z⟩:=b;obtain⟨m,_⟩:=m.IU;cases d with
  |bl k =>
   cases e;exact⟨k,At.Jn.mp m,z J g k Ex.refl c.Jr rfl⟩
  |_=>simp[NG] at e
theorem Lw.mono {t t':TE}(i:∀ a H Q,t' a H Q->t a H Q){a:St}{H:Hp}{Q:Bool->Hp->Prop}(h:Lw t' a H Q):Lw t a H Q:=i _ _ _ h
theorem bK {op:CmpOp}{g:D->D->Option D}(d:Ng X (compareOp op) g)(e:SE X W a fa)(hb:SE X W b fb)(c:behindInMarks op b=false:=by first |exact AK _ (by decide) (by decide) |with_unfolding_all rfl) :
  MC X W (.Compare a [op] [b] pos) (bF (aH g fa fb)):=
 (Cp d e hb c).imp λf H Q h=>Lw.mono (λ_ _ _=>kJ) (j0 h)
theorem jz (c:SE X W a fa)(b:∀ whole,isTrue a X.env whole=(do let v ← whole;standAt a.pos;holding [v] (truthy v)):=by intro _;rfl):MC X W a (bF fa):=
 (En c b).imp λd H Q h=>j0 h
def Fj (g g':D->D->Option D)(fa fb fc:IE D):IE D:=λa S=>ai (fa a S) λx e=>ai (fb a e) λy d=>ai (aJ ((g x y).bind NG) d) λk b =>
 if k=true then ai (fc a b) λz c=>aJ (g' y z) c else IX (.bl false) b
def BH (f g:IE Bool):IE Bool:=λa S=>ai (f a S) λk b=>if k=true then g a b else IX false b
def Fg (f g:IE Bool):IE Bool:=λa S=>ai (f a S) λk b=>if k=true then IX true b else g a b
def BA (f:IE Bool):IE Bool:=λa S=>ai (f a S) λk b=>IX (!k) b
variable {ga gb:IE Bool}{rest:List Expr}
theorem mY {k:Bool}{a:St}{H:Hp}{Q:Bool->Hp->Prop}(h:tG X W RB [] [] (λ_ S=>IX k S) a H Q):Q k H:=by obtain⟨J,b,S,r,d,c,_,e,z⟩:=h;cases e;exact z J H k Ex.refl c.Jr rfl
theorem B5 (b:MC X W a ga):SW X W (.BoolOp .And [a] pos) ga:=Co b
theorem DZ (b:MC X W a ga):SW X W (.BoolOp .Or [a] pos) ga:=Ej b
theorem D1 (d:MC X W a ga)(hb:SW X W (.BoolOp .And (b::rest) pos) gb):SW X W (.BoolOp .And (a::b::rest) pos) (BH ga gb):=
 (Ek d hb).imp λe H Q h=>(tG.MD h).mono λk f c=>by
  cases k with
  |true=>rw[if_pos rfl];exact c
  |false=>rw[if_neg (by decide)];exact mY c
theorem FW (d:MC X W a ga)(hb:SW X W (.BoolOp .Or (b::rest) pos) gb):SW X W (.BoolOp .Or (a::b::rest) pos) (Fg ga gb):=
 (F3 d hb).imp λe H Q h=>(tG.MD h).mono λk f c=>by
  cases k with
  |true=>rw[if_pos rfl];exact mY c
  |false=>rw[if_neg (by decide)];exact c
theorem wU {e:Expr}(h:SW X W e ga):MC X W e ga:=PW.pt h
theorem DX (c:MC X W a ga):MC X W (.UnaryOp .Not a pos) (BA ga):=(Eo c).imp λd H Q h=>(tG.MD h).mono λk e b=>mY b
def zF (f g:IE D):IE D:=λa S=>ai (f a S) λx c=>ai (aJ (NG x) c) λk b=>if k=true then g a b else IX (.bl false) b
def YH (f g:IE D):IE D:=λa S=>ai (f a S) λx c=>ai (aJ (NG x) c) λk b=>if k=true then IX (.bl true) b else g a b
def Dv (f:IE D):IE D:=λa S=>ai (f a S) λx c=>ai (aJ (NG x) c) λk b=>IX (.bl (!k)) b
theorem WY {f:IE D}{k:Bool->IE D}{a:St}{H:Hp}{Q:VK}(h:tE X W (λρ S=>ai (f ρ S) λx j=>ai (aJ (NG x) j) λb S2=>k b ρ S2) a H Q) :
  tE X W f a H λx g => ∃ c,x = .bl c/\tE X W (k c) a g Q:=(tG.IZ h).mono λv g n=>by
 obtain⟨d,i⟩:=n
 obtain⟨J,ρ,S,r,l,c,m,e,z⟩:=i;obtain⟨m,_⟩:=m.IU;cases d with
 |bl b=>exact⟨b,At.Jn.mp m,J,ρ,S,r,l,c,.nil,e,z⟩
 |_=>simp[NG] at e
theorem AD {k:Bool}{a:St}{H:Hp}{Q:VK}(h:tE X W (λ_ S=>IX (.bl k) S) a H Q):Q (.bl k) H:=kC (d:=.bl k) h λ_=>At.Jn.mpr rfl
theorem D9 {op}(b:SE X W a fa):SE X W (.BoolOp op [a] pos) fa:=EC b
theorem Ac (f:SE X W a fa)(hb:SE X W (.BoolOp .And (b::rest) pos) fb):SE X W (.BoolOp .And (a::b::rest) pos) (zF fa fb):=
 (EG f hb).imp λg H Q h=>(WY (k:=λk d S=>if k=true then fb d S else IX (.bl false) S) h).mono λv i ⟨k,e,c⟩=>⟨k,e,by
  cases k with
  |true=>rw[if_pos rfl];exact c
  |false=>rw[if_neg (by decide)];exact AD c⟩
theorem D_ (c:SE X W a fa):SE X W (.UnaryOp .Not a pos) (Dv fa):=
 (ED c).imp λd H Q h=>(WY (k:=λk _ S=>IX (.bl (!k)) S) h).mono λv f ⟨k,e,b⟩=>⟨k,e,AD b⟩
def o9 (t:IE Bool)(f g:IE D):IE D:=λa S=>ai (t a S) λk b=>if k=true then f a b else g a b
theorem iu (hc:MC X W c ga)(e:SE X W a fa)(hb:SE X W b fb):SE X W (.IfExp c a b pos) (o9 ga fa fb):=
 (AA hc e hb).imp λf H Q h=>(tG.MD h).mono λk g d=>by
  cases k with
  |true=>rw[if_pos rfl];exact d
  |false=>rw[if_neg (by decide)];exact d
def aB:IE (List D):=λ_ S=>IX [] S
def ah (f:IE D)(g:IE (List D)):IE (List D):=λa S=>ai (f a S) λd e=>ai (g a e) λb c=>IX (d::b) c
variable {es:List Expr}{gs:IE (List D)}
theorem aj:SA X W [] aB:=JR.imp λa H Q h=>by obtain⟨J,b,S,r,d,c,_,e,z⟩:=h;cases e;exact z J H _ Ex.refl c.Jr .nil
theorem ae {e:Expr}(t:SE X W e fa)(hr:SA X W es gs)(s:starEach (e::es) X.env=(false,eval e X.env)::starEach es X.env:=by rfl):SA X W (e::es) (ah fa gs):=
 (cE t hr s).imp λw H Q h=>(tG.IZ h).mono λv A ⟨d,o⟩=>(tG.LZ o).mono λa g p=>by
  obtain⟨b,f,l⟩:=p
  obtain⟨J,u,S,r,B,c,m,e,z⟩:=l;cases e;refine z J g _ Ex.refl c.Jr ?_
  have split:∀ {b:List D}{a:List V},b.length=a.length->IT X.K g J (b++[d]) (a++[v])->IT X.K g J b a/\At X.K g J d v:=by
   intro b
   induction b with
   |nil=>intro a f m;cases a with
    |nil=>exact⟨.nil,m.IU.1⟩
    |cons _ _=>simp at f
   |cons x j k=>intro a f m;cases a with
    |nil=>simp at f
    |cons y n =>
     have q:=IT.IU (show IT X.K g J (x::(j++[d])) (y::(n++[v])) from m);have i:=k (by simpa using f) q.2;exact⟨.cons q.1 i.1,i.2⟩
  have q:=split f m;exact .cons q.2 q.1
def Ln (ds:List D)(d:D):Option D:=if ds.length<=sizeLine then some d else none
def jQ (g:IE (List D)):IE D:=λb S=>ai (g b S) λa c=>aJ (Ln a (.tup a)) c
def zD (g:IE (List D)):IE D:=λb S=>ai (g b S) λa c=>aJ (Ln a (.lst a)) c
theorem dw {k}(h:SA X W es gs):SE X W (.Tuple es k pos) (jQ gs):=(EB h).imp λj H Q h=>(tG.LZ h).mono λo l f=>by
 obtain⟨g,d,b⟩:=f
 rw[append_nil,append_nil] at b;obtain⟨J,i,S,r,n,c,m,e,z⟩:=b;unfold Ln at e;split at e
 ·rename_i le;cases e;exact⟨by rw[← d];exact le,λp a=>z J _ _ (Ex.same (aN a _)) (c.Jr.same (aN a _)) (At.KD m a c.Jr.all (by rw[← d];exact le))⟩
 cases e
theorem nM (h:SA X W es gs):SE X W (.List es pos) (zD gs):=(Az h).imp λj H Q h=>(tG.LZ h).mono λn k f=>by
 obtain⟨g,d,b⟩:=f
 rw[append_nil,append_nil] at b;obtain⟨J,i,S,r,l,c,m,e,z⟩:=b;unfold Ln at e;split at e
 ·rename_i le;cases e;exact⟨by rw[← d];exact le,λp a=>z J _ _ (Ex.same (aN a _)) (c.Jr.same (aN a _)) (At.La m a c.Jr.all (by rw[← d];exact le))⟩
 cases e
def bh (g:List D->Option D)(t:IE (List D)):IE D:=λa S=>ai (t a S) λb c=>aJ (g b) c
theorem oF {g:List D->Option D}{a:St}{H:Hp}{Q:VK}(h:tE X W (bh g gs) a H Q):Vg (Vp X.K g) (tA X W gs) a H Q:=
 (tG.LZ h).mono λf d c=>by
  obtain⟨e,i,b⟩:=c
  rw[append_nil,append_nil] at b;exact tG.YG b
theorem bf {g:List D->Option D}{id:String}{x:Str}{p:Pos}{e:Expr}(hc:jw X (.builtin id) g)(b:X.mg x=none)(d:bootBuiltins x=some (.builtin id))(j:SA X W (e::es) gs)(a:Gl X x:=by rfl)
  (f:x≠"__name__":=by decide) (i:(x==("__debug__":Str))=false:=by decide) (c:starEach (e::es) X.env=(false,eval e X.env)::starEach es X.env:=by rfl) (JQ:(backTo pos (starEach es X.env)).any (·.1)=false:=by rfl) :
  SE X W (.Call (.Name x p) (e::es) [] pos) (bh g gs):=by
 refine PE.imp (iC hc a b d j f i c JQ) λk H Q h=>oF h
theorem ck {g:List D->Option D}{T:String}{x:Str}{p:Pos}{e:Expr}(hc:jw X (.type T) g)(b:X.mg x=none)(d:bootBuiltins x=some (.type T))(j:SA X W (e::es) gs)(a:Gl X x:=by rfl)
  (f:x≠"__name__":=by decide) (i:(x==("__debug__":Str))=false:=by decide) (c:starEach (e::es) X.env=(false,eval e X.env)::starEach es X.env:=by rfl) (JQ:(backTo pos (starEach es X.env)).any (·.1)=false:=by rfl) :
  SE X W (.Call (.Name x p) (e::es) [] pos) (bh g gs):=by
 refine PE.imp (k_ hc a b d j f i c JQ) λk H Q h=>oF h
end
section
variable {X:Cx}
theorem qS {x y:Str}(a:PyData.strOk x=true)(b:PyData.strOk y=true):PyData.strOk (x++y)=true:=by
 unfold PyData.strOk at *
 rw[show (x++y).cps=x.cps++y.cps from rfl,Array.all_append,a,b];rfl
def br:D->D->Option D
 | .int i,.int j=>some (.int (i+j))
 | .str x,.str y=>if x.length+y.length<=sizeLine then some (.str (x++y)) else none
 | .tup a,.tup b=>if a.length+b.length<=sizeLine then some (.tup (a++b)) else none
 | .lst a,.lst b=>if a.length+b.length<=sizeLine then some (.lst (a++b)) else none
 |_,_=>none
theorem Bx {prog:Program}{w:World}{A:Around}{E:IG}{s:Shared}{t b:Addr}{vs ws:List Value}{Q:IG}(g:IsTup s.heap t vs.toArray)(hb:IsTup s.heap b ws.toArray)(f:vs=[])
  (h:Q (.ref b) s):wpAny (model prog w) A (binaryOp .Add (.ref t) (.ref b)) Q E s:=by
 obtain⟨⟨cls,l,data,j⟩,d,hc,n,hd⟩:=id g;obtain⟨⟨m,i,data2,k⟩,e,c,n2,a⟩:=id hb;simp only at hc hd c a;subst hc hd c a
 exact concat_meets ⟨_,d,rfl⟩ ⟨_,e,rfl⟩ noFill_tuple_add seq_tuple_add PySem.F.slot_tuple_add PySem.F.entry_tuple_add (PySem.F.args_tuple_add_2 _ _)
   (tuple_addW0 t b vs.toArray ws.toArray n n2 l i j k (by simp[f])) ⟨d,e,h⟩
theorem wz {prog:Program}{w:World}{A:Around}{E:IG}{s:Shared}{t b:Addr}{vs ws:Array Value}{Q:IG}(f:PlainL s.heap t vs)(hb:PlainL s.heap b ws)
  (h:Q (.ref s.heap.objs.size) { s with heap:=s.heap.push { cls:=.type "list",data:=.seq (vs++ws) } }) (hsz:vs.size+ws.size<=sizeLine):wpAny (model prog w) A (binaryOp .Add (.ref t) (.ref b)) Q E s:=by
 obtain⟨⟨cls,k,data,i⟩,n,d,hc,_,hd⟩:=id f;obtain⟨⟨l,g,data2,j⟩,n2,e,c,_,a⟩:=id hb;simp only at hc hd c a;subst hc hd c a
 exact concat_meets ⟨_,d,rfl⟩ ⟨_,e,rfl⟩ noFill_list_add seq_list_add PySem.F.slot_list_add PySem.F.entry_list_add (PySem.F.args_list_add_2 _ _)
   (list_addW t b vs ws n n2 k g i j hsz) ⟨d,e,h⟩
theorem nB (x y:Str):(x++y).length=x.length+y.length:=by show (x.cps++y.cps).size=_;rw[size_append];rfl
theorem aX:Ng X (binaryOp .Add) br:=by
 intro c s r H x y v u Q I f l h;obtain⟨J,T,S,d,K,k,m,e,q⟩:=h;unfold br at e;split at e
 ·rename_i i j;cases e;cases At.IP.mp k;cases At.IP.mp m;exact EM c s r H _ _ v u Q I f l ⟨i,j,rfl,rfl,q H _ (I0.refl H) (At.IP.mpr rfl)⟩
 ·rename_i a b;split at e
  ·rename_i le;cases e;obtain⟨ex,M⟩:=At.Je.mp k;obtain⟨P,O⟩:=At.Je.mp m;subst ex P;exact vQ c s r H _ _ v u Q I f l ⟨a,b,rfl,rfl,le,q H _ (I0.refl H) (At.Je.mpr ⟨rfl,by rw[nB];exact le,qS M.2 O.2⟩)⟩
  cases e
 ·rename_i E G;split at e
  ·rename_i le;cases e;obtain⟨a,n,rfl,t1,m1⟩:=At.Jb.mp k;obtain⟨b,t,rfl,t2,m2⟩:=At.Jb.mp m;by_cases L:n=[]
   ·subst L;cases f;cases l;obtain⟨its,o,D,_⟩:=I.tuple t1.sq;obtain⟨w,B,A,_⟩:=I.tuple t2.sq;have R:E=[]:=length_eq_zero_iff.mp m1.length;subst R;refine Bx D A (o.IV.mpr rfl) ⟨.ref b,H,I,rfl,q H _ (I0.refl H) m⟩
   refine CP c s r H _ _ v u Q I f l ⟨a,b,n,t,rfl,rfl,t1.sq,t2.sq,L,by rw[← m1.length,← m2.length];exact le,λF=>?_,λF p g=>?_⟩
   ·subst F;have N:G=[]:=length_eq_zero_iff.mp m2.length;subst N;exact q H _ (I0.refl H) (by rw[append_nil];exact k)
   exact q _ _ (aN g _) (At.KD (m1.append m2) g K (by rw[List.length_append,← m1.length,← m2.length];exact le))
  cases e
 ·rename_i E G;split at e
  ·rename_i le;cases e;obtain⟨a,n,rfl,t1,m1⟩:=At.Jc.mp k;obtain⟨b,t,rfl,t2,m2⟩:=At.Jc.mp m;cases f;cases l;obtain⟨its,o,D,_⟩:=I.list t1.sq;obtain⟨w,B,A,_⟩:=I.list t2.sq;have C:n.length+t.length<=sizeLine:=by rw[← m1.length,← m2.length];exact le
   have g:=I.fresh;refine wz D A ?_ (by rw[size_toArray,size_toArray,← o.length,← B.length];exact C);show EP X c r Q (.ref s.heap.objs.size) { s with heap:=s.heap.push { cls:=.type "list",data:=.seq (its.toArray++w.toArray) } };refine⟨.ref s.heap.objs.size,_,?_,rfl,q _ _ (aN g (.lst (n++t))) (At.La (m1.append m2) g K (by rw[List.length_append];exact C))⟩;have z:=I.Vn (its:=its++w) (t':=s.toks) (o.append B) (by rw[List.length_append];exact C);simpa using z
  cases e
 cases e
def sR:D->D->Option D
 | .int i,.int j=>some (.int (i-j))
 |_,_=>none
def gq (i j:Int):Bool:=(decide (-(2 ^ 64)<i)&&decide (i<2 ^ 64)) ||(decide (-(2 ^ 64)<j)&&decide (j<2 ^ 64))
theorem xh {i j:Int}(h:gq i j=true):PM i j:=by
 unfold gq at h;rw[or_eq_true,and_eq_true,and_eq_true] at h;rcases h with ⟨a,b⟩ |⟨a,b⟩
 ·exact .inl ⟨of_decide_eq_true a,of_decide_eq_true b⟩
 exact .inr ⟨of_decide_eq_true a,of_decide_eq_true b⟩
def d5:D->D->Option D
 | .int i,.int j=>if 0<j/\j<1073741824 then some (.int (i / j)) else none
 |_,_=>none
def bY:D->D->Option D
 | .int i,.int j=>if 0<j then some (.int (i % j)) else none
 |_,_=>none
def yL:D->Option D
 | .int i=>some (.int (-i))
 |_=>none
theorem vR:Ng X (binaryOp .Sub) sR:=by
 intro a s f H x y v u Q I b g h;obtain⟨J,n,m,d,l,c,k,e,q⟩:=h;unfold sR at e;split at e
 ·rename_i i j;cases e;cases At.IP.mp c;cases At.IP.mp k;exact EI a s f H _ _ v u Q I b g ⟨i,j,rfl,rfl,q H _ (I0.refl H) (At.IP.mpr rfl)⟩
 cases e
theorem i9:Ng X (binaryOp .FloorDiv) d5:=by
 intro a s g H x y v u Q I b k h;obtain⟨J,o,n,d,m,f,l,e,q⟩:=h;unfold d5 at e;split at e
 ·rename_i i j;split at e
  ·rename_i c;cases e;cases At.IP.mp f;cases At.IP.mp l;exact CO a s g H _ _ v u Q I b k ⟨i,j,rfl,rfl,c,q H _ (I0.refl H) (At.IP.mpr rfl)⟩
  cases e
 cases e
theorem cA:Ng X (binaryOp .Mod) bY:=by
 intro a s g H x y v u Q I b k h;obtain⟨J,o,n,d,m,f,l,e,q⟩:=h;unfold bY at e;split at e
 ·rename_i i j;split at e
  ·rename_i c;cases e;cases At.IP.mp f;cases At.IP.mp l;exact EK a s g H _ _ v u Q I b k ⟨i,j,rfl,rfl,c,q H _ (I0.refl H) (At.IP.mpr rfl)⟩
  cases e
 cases e
theorem qO:WX X (unaryOp .USub) yL:=by
 intro a s b H x v Q I c h;obtain⟨J,j,d,g,f,e,q⟩:=h;unfold yL at e;split at e
 ·rename_i i;cases e;cases At.IP.mp f;exact DT a s b H _ v Q I c ⟨i,rfl,q H _ (I0.refl H) (At.IP.mpr rfl)⟩
 cases e
def K0 (x y:D):Option D:=match toPy x,toPy y with
 |some p,some q=>if min p.depth q.depth<=150 then some (.bl (PyData.eqv p q)) else none
 |_,_=>none
def RM (x y:D):Option D:=match toPy x,toPy y with
 |some p,some q=>if min p.depth q.depth<=150 then some (.bl (!PyData.eqv p q)) else none
 |_,_=>none
theorem eY (B:X.A.units+150<cLine):Ng X (compareOp .Eq) K0:=by
 intro a s r H x y v u Q I f l h;obtain⟨J,C,z,d,w,k,m,e,q⟩:=h;unfold K0 at e;split at e
 ·rename_i p i c o;split at e
  ·rename_i le;cases e;obtain⟨j,t,g⟩:=k.reads I f c;obtain⟨b,bs,n⟩:=m.reads I l o;exact SeqAt.compareEq_reads g n j b (by omega) ⟨.bl (PyData.eqv p i),H,I,rfl,q H _ (I0.refl H) (At.Jn.mpr rfl)⟩
  cases e
 cases e
theorem Gc (B:X.A.units+150<cLine):Ng X (compareOp .NotEq) RM:=by
 intro a s r H x y v u Q I f l h;obtain⟨J,C,z,d,w,k,m,e,q⟩:=h;unfold RM at e;split at e
 ·rename_i p i c o;split at e
  ·rename_i le;cases e;obtain⟨j,t,g⟩:=k.reads I f c;obtain⟨b,bs,n⟩:=m.reads I l o;exact SeqAt.compareNe_reads g n j b (by omega) ⟨.bl (!PyData.eqv p i),H,I,rfl,q H _ (I0.refl H) (At.Jn.mpr rfl)⟩
  cases e
 cases e
def Mv (x y:Str):Bool:=decide (x.cps.toList<y.cps.toList)
def Q0:D->D->Option D
 | .int i,.int j=>some (.bl (decide (i<j)))
 | .str x,.str y=>some (.bl (Mv x y))
 |_,_=>none
def UA:D->D->Option D
 | .int i,.int j=>some (.bl (decide (j<i)))
 | .str x,.str y=>some (.bl (Mv y x))
 |_,_=>none
theorem DM:Ng X (compareOp .Lt) Q0:=by
 intro c s k H x y v u Q I f l h;obtain⟨J,p,o,d,n,g,m,e,q⟩:=h;unfold Q0 at e;split at e
 ·rename_i i j;cases e;cases At.IP.mp g;cases At.IP.mp m;exact F8 c s k H _ _ v u Q I f l ⟨i,j,rfl,rfl,q H _ (I0.refl H) (At.Jn.mpr rfl)⟩
 ·rename_i a b;cases e;cases (At.Je.mp g).1;cases (At.Je.mp m).1;exact yI c s k H _ _ v u Q I f l ⟨a,b,rfl,rfl,q H _ (I0.refl H) (At.Jn.mpr rfl)⟩
 cases e
theorem Ge:Ng X (compareOp .Gt) UA:=by
 intro c s m H x y v u Q I f k h;obtain⟨J,r,p,d,o,g,l,e,q⟩:=h;unfold UA at e;split at e
 ·rename_i i j;cases e;cases At.IP.mp g;cases At.IP.mp l;exact F9 c s m H _ _ v u Q I f k ⟨i,j,rfl,rfl,q H _ (I0.refl H) (At.Jn.mpr rfl)⟩
 ·rename_i a b;cases e;cases (At.Je.mp g).1;cases (At.Je.mp l).1;obtain⟨t,rfl⟩:=f;obtain⟨n,rfl⟩:=k;exact PySem.P.gt_str ⟨.bl (Mv b a),H,I,rfl,q H _ (I0.refl H) (At.Jn.mpr rfl)⟩
 cases e
def lB:D->Bool
 | .Ji=>true
 |_=>false
def PV:D->D->Option D
 |x,.Ji=>some (.bl (lB x))
 |_,_=>none
def om:D->D->Option D
 |x,.Ji=>some (.bl (!lB x))
 |_,_=>none
theorem AJ {K:IF}{H:Hp}{J:List Addr}{d:D}{x:V}(h:At K H J d x):decide (x = .Ji)=lB d:=by
 cases d with
 |Ji=>cases At.Jw.mp h;rfl
 |bl b=>cases At.Jn.mp h;rfl
 |int i=>cases At.IP.mp h;rfl
 |str i=>cases (At.Je.mp h).1;rfl
 |tup c=>obtain⟨a,_,rfl,_⟩:=At.Jb.mp h;rfl
 |lst c=>obtain⟨a,_,rfl,_⟩:=At.Jc.mp h;rfl
 |set c=>obtain⟨a,_,_,rfl,_⟩:=At.LM.mp h;rfl
 |loc l=>obtain⟨a,rfl,_⟩:=At.I_.mp h;rfl
 |fn _ _=>obtain⟨a,_,rfl,_⟩:=At.OU.mp h;rfl
theorem AG:Ng X (compareOp .Is) PV:=by
 intro a s f H x y v u Q I b g h;obtain⟨J,l,k,d,j,c,i,e,q⟩:=h;unfold PV at e;split at e
 ·cases e;cases At.Jw.mp i;exact EL a s f H _ _ v u Q I b g ⟨rfl,by rw[AJ c];exact q H _ (I0.refl H) (At.Jn.mpr rfl)⟩
 cases e
theorem AF:Ng X (compareOp .IsNot) om:=by
 intro a s f H x y v u Q I b g h;obtain⟨J,l,k,d,j,c,i,e,q⟩:=h;unfold om at e;split at e
 ·cases e;cases At.Jw.mp i;exact CN a s f H _ _ v u Q I b g ⟨rfl,by rw[AJ c];exact q H _ (I0.refl H) (At.Jn.mpr rfl)⟩
 cases e
end
section
variable {X:Cx}{W:WT}
def vG:D->Option (List D)
 | .tup a=>some a
 | .lst a=>some a
 |_=>none
def we (x y:D):Option Bool:=match toPy x,(vG y).bind dZ with
 |some p,some a=>if p.depth<=150 then some (a.any λq=>PyData.eqv q p) else none
 |_,_=>none
def inD (x y:D):Option D:=(we x y).map .bl
def rn (x y:D):Option D:=(we x y).map λb => .bl (!b)
noncomputable def o0 (h:Heap) (p:PyData) (u:Value):Bool:=by
 classical exact if H:∃ q a,Reads h u q a/\q.canLay0=true then PyData.eqv H.choose p else false
theorem xC {h:Heap}{p q:PyData}{u:Value}{as:List Addr}(r:Reads h u q as)(c:q.canLay0=true):o0 h p u=PyData.eqv q p:=by unfold o0;have H:∃ q as,Reads h u q as/\q.canLay0=true:=⟨q,as,r,c⟩;rw[dif_pos H];obtain⟨d,a,b⟩:=H.choose_spec;rw[SeqAt.Reads.unique _ _ _ _ _ c r a]
theorem xR {h:Heap}{p:PyData}:∀ {us:List Value}{a:List PyData}{as:List Addr},ReadsAll h us a as->PyData.canLayAll0 a=true->us.any (o0 h p)=a.any λq=>PyData.eqv q p
 |_,_,_,.nil,_=>rfl
 |_,_,_,.cons r t,c=>by
  rw[PyData.canLayAll0,and_eq_true] at c;rw[any_cons,any_cons,xC r c.1,xR t c.2]
theorem p7 {h:Heap}:∀ {us:List Value}{a:List PyData}{as:List Addr},ReadsAll h us a as->PyData.canLayAll0 a=true->∀ u∈us,∃ q bs,Reads h u q bs/\q.canLay0=true
 |_,_,_,.nil,_,u,m=>by simp at m
 |_,_,_,.cons r t,c,u,m=>by
  rw[PyData.canLayAll0,and_eq_true] at c;rcases mem_cons.mp m with e |m
  ·subst e;exact⟨_,_,r,c.1⟩
  exact p7 t c.2 u m
theorem xw {neg:Bool}{op:CmpOp}(hu:X.A.units+151<cLine)
  (R:∀ {s:Shared}{l:Addr}{items:Array Value}{x:Value}{Q:IG}(e:Value->Bool),s.heap.IsList l items->(∀ y∈items,SeqAt.EqAt X.A.in1 s y x (e y))->Q (.bool (if neg then !items.any e else items.any e)) s->wpAny (model X.prog X.w) X.A (compareOp op x (.ref l)) Q X.xe s)
  (U:∀ {s:Shared}{l:Addr}{items:Array Value}{x:Value}{Q:IG}(e:Value->Bool),IsTup s.heap l items->(∀ y∈items,SeqAt.EqAt X.A.in1 s y x (e y))->Q (.bool (if neg then !items.any e else items.any e)) s->wpAny (model X.prog X.w) X.A (compareOp op x (.ref l)) Q X.xe s) :
  Ng X (compareOp op) (λx y=>(we x y).map λb => .bl (if neg then !b else b)):=by
 intro n s T H x y v u Q I L E h;obtain⟨J,dx,V,d,Z,S,F,e,q⟩:=h;obtain⟨b,g,W⟩:=map_eq_some_iff.mp e;subst W;unfold we at g;split at g
 ·rename_i p o ep eq;split at g
  ·rename_i le;cases g;obtain⟨Y,es,D⟩:=bind_eq_some_iff.mp eq;obtain⟨O,i,M⟩:=S.reads I L ep;have fin:∀ {f:List Value}{i:List Addr},ReadsAll s.heap f o i->PyData.canLayAll0 o=true->EP X n T Q (.bool (if neg then !f.toArray.any (o0 s.heap p) else f.toArray.any (o0 s.heap p))) s:=λ{f i} r c=>by rw[show f.toArray.any (o0 s.heap p)=f.any (o0 s.heap p) by simp,xR r c];exact⟨.bl _,H,I,rfl,q H _ (I0.refl H) (At.Jn.mpr rfl)⟩
   have ev:∀ {f:List Value}{i:List Addr},ReadsAll s.heap f o i->PyData.canLayAll0 o=true->∀ y∈f.toArray,SeqAt.EqAt X.A.in1 s y v (o0 s.heap p y):=λ{f i} r c y N=>by obtain⟨C,bs,B,G⟩:=p7 r c y (by simpa using N);rw[xC B G];exact SeqAt.eqAt_reads C p X.A.in1 s y v bs _ B M G O (by show X.A.units+1+min C.depth p.depth<cLine;omega)
   cases V with
   |tup P =>
    cases es;obtain⟨a,K,rfl,t,m⟩:=At.Jb.mp F;cases E;obtain⟨its,z,pl,_⟩:=I.tuple t.sq;obtain⟨j,bs,k⟩:=IT.readsAll I m z D;exact U (o0 s.heap p) pl (ev k j) (fin k j)
   |lst P =>
    cases es;obtain⟨a,K,rfl,t,m⟩:=At.Jc.mp F;cases E;obtain⟨its,z,pl,_⟩:=I.list t.sq;obtain⟨j,bs,k⟩:=IT.readsAll I m z D;exact R (o0 s.heap p) pl.isList (ev k j) (fin k j)
   |_=>simp[vG] at es
  cases g
 cases g
theorem Gd (c:X.A.units+151<cLine):Ng X (compareOp .In) inD:=
 xw (neg:=false) c (λe b a q=>SeqAt.in_listAt e b a q) (λe b a q=>SeqAt.in_tupleAt e b a q)
theorem AE (c:X.A.units+151<cLine):Ng X (compareOp .NotIn) rn:=
 xw (neg:=true) c (λe b a q=>SeqAt.notIn_listAt e b a q) (λe b a q=>SeqAt.notIn_tupleAt e b a q)
theorem kZ {x:Str}(h:PyData.strOk x=true){c:Nat}(m:c∈x.cps.toList):c<0x110000:=by unfold PyData.strOk at h;rw[Array.all_eq_true'] at h;exact of_decide_eq_true (h c (Array.mem_toList_iff.mp m))
theorem nE {l:List Nat}(h:∀ c∈l,c<0x110000):PyData.strOk ⟨l.toArray⟩=true:=by unfold PyData.strOk;rw[Array.all_eq_true'];intro c m;exact decide_eq_true (h c (by simpa using m))
def Qi:D->D->Option D
 | .tup a,.int i=>Mo a i
 | .lst a,.int i=>Mo a i
 | .str x,.int i=>(Mo x.cps.toList i).map λc => .str ⟨#[c]⟩
 |_,_=>none
theorem sj {K:IF}{H:Hp}{J:List Addr}{ds:List D}{vs:List V}{i:Int}{d:D}(m:IT K H J ds vs)(h:Mo ds i=some d):∃ v,Mo vs i=some v/\At K H J d v:=by unfold Mo at h ⊢;rw[← m.length];obtain⟨j,b,e⟩:=bind_eq_some_iff.mp h;obtain⟨v,c,a⟩:=m.get e;exact⟨v,by rw[b];exact c,a⟩
def WZ (X:Cx)(g:D->D->Option D):Prop:=Sz X (SJ X.K g)
theorem W3:WZ X Qi:=by
 intro value slice b s o H x y v u Q I k p h B;obtain⟨J,M,L,d,G,n,r,e,q⟩:=h;unfold Qi at e;split at e
 ·rename_i D i;obtain⟨a,A,rfl,t,m⟩:=At.Jb.mp n;cases At.IP.mp r;obtain⟨w,f,g⟩:=sj m e;exact EZ value slice b s o H _ _ v u Q I k p ⟨a,A,i,w,rfl,rfl,t.sq,f,q H _ (I0.refl H) g⟩ B
 ·rename_i D i;obtain⟨a,A,rfl,t,m⟩:=At.Jc.mp n;cases At.IP.mp r;obtain⟨w,f,g⟩:=sj m e;exact xt value slice b s o H _ _ v u Q I k p ⟨a,A,i,w,rfl,rfl,t.sq,f,q H _ (I0.refl H) g⟩ B
 ·rename_i z i;obtain⟨ex,C⟩:=At.Je.mp n;subst ex;cases At.IP.mp r;obtain⟨c,f,F⟩:=map_eq_some_iff.mp e;subst F;refine E4 value slice b s o H _ _ v u Q I k p ⟨z,i,c,rfl,rfl,C.1,f,q H _ (I0.refl H) (At.Je.mpr ⟨rfl,by show 1<=sizeLine;decide,nE (l:=[c]) λK m=>?_⟩)⟩ B;obtain⟨j,_,E,_⟩:=kK f;rw[mem_singleton.mp m];exact kZ C.2 (mem_of_getElem? E)
 cases e
variable {a b c:Expr}{fa fb fc:IE D}{pos:Pos}
theorem DI {g:D->D->Option D}(hr:WZ X g)(d:SE X W a fa)(hb:SE X W b fb)(c:m8 b:=by exact λ_ _=>rfl):SE X W (.Subscript a b pos) (aH g fa fb):=
 (DL hr d hb c).imp λe H Q h=>kJ h
def jm {α:Type}(xs:List α)(lo a:Option Int):List α:=(xs.drop (HT.JD xs.length 0 lo)).take (HT.JD xs.length xs.length a-HT.JD xs.length 0 lo)
def M8 (d:D)(lo b:Option Int):Option D:=match d with
 | .tup a=>some (.tup (jm a lo b))
 | .lst a=>some (.lst (jm a lo b))
 |_=>none
theorem IT.cut {K:IF}{H:Hp}{J:List Addr}{ds:List D}{vs:List V}(m:IT K H J ds vs)(lo a:Option Int):IT K H J (jm ds lo a) (uB vs lo a):=by unfold jm uB;rw[← m.length];exact(m.drop _).take _
theorem wt {α:Type}{xs:List α}{lo a:Option Int}(h:HT.JD xs.length 0 lo=0/\HT.JD xs.length xs.length a=xs.length):jm xs lo a=xs:=by unfold jm;rw[h.1,h.2];simp
def YK (K:IF)(g:D->Option Int->Option Int->Option D):V->Option Int->Option Int->Hp->VK->Prop:=λx lo e H Q => ∃ J c d,(∀ a∈J,H a≠none)/\At K H J c x/\g c lo e=some d/\∀ b v,I0 H b->At K b J d v->Q v b
theorem jk {prog:Program}{w:World}{A:Around}{E:IG}{s:Shared}{t b:Addr}{items:Array Value}{f d:Value}{lo c:Option Int}{Q:IG}(a:IsTup s.heap t items)(g:s.heap.IsSliceOf b f d .none)(pl:IsPart f lo)(j:IsPart d c)
  (e:HT.JD items.size 0 lo=0/\HT.JD items.size items.size c=items.size) (h:Q (.ref t) s):wpAny (model prog w) A (getItem (.ref t) (.ref b)) Q E s:=by
 obtain⟨os,k,l,m⟩:=id g;have i:s.TypeIs (.ref b) "slice":=⟨os,k,l⟩;unfold getItem
 try with_reducible refine wpAny_holding ?_
 first |refine wpAny_bind (wpAny_pure ?_) |skip
 refine wpAny_bind (wpAny_sequenceKey a.typeIs (by decide) ?_)
 refine wpAny_bind (wpAny_callSpecial?_slot (name:=Str.ofString "__getitem__") a.typeIs PyProof.Rows.slot_tuple_getitem
  (wpAny_call_entry PyProof.Rows.slot_tuple_getitem a.typeIs entry_tuple_getitem ?_ (args_tuple_getitem _ _)))
 show wpAny _ _ (Builtin.Tuple.tupleItemsOf (.ref t) >>= _) _ _ s;refine wpAny_bind (tupleItemsOf_ a ?_);refine wpAny_bind (wpAny_typeOf i ?_);rw[if_pos (by decide)];refine wpAny_bind (HT.Kd g pl j ?_);show wpAny _ _ (if (((HT.JD items.size 0 lo:Nat):Int)==0&&(1:Int)==1&&(HT.JD items.size items.size c-HT.JD items.size 0 lo)==items.size)=true then _ else _) _ _ s;rw[if_pos (by rw[e.1,e.2];simp)];unfold Builtin.Tuple.tupleIsExact;refine wpAny_bind (wpAny_bind (wpAny_typeOf a.typeIs (wpAny_pure ?_)));rw[if_pos (by decide)];exact wpAny_bind (wpAny_rule (wpAny_pure ⟨_,rfl,wpAny_pure h⟩))
def W4 (X:Cx)(g:D->Option Int->Option Int->Option D):Prop:=Ux X (YK X.K g)
theorem Q1:W4 X M8:=by
 intro c s z H x v B u lo f y Q I j o pl n h;obtain⟨J,F,d,A,l,e,q⟩:=h;unfold M8 at e;split at e
 ·rename_i C;cases e;obtain⟨a,b,rfl,t,m⟩:=At.Jb.mp l;have D:=m.length;by_cases k:HT.JD b.length 0 lo=0/\HT.JD b.length b.length f=b.length
  ·cases j;obtain⟨its,r,w,E⟩:=I.tuple t.sq;have g:its.toArray.size=b.length:=by rw[size_toArray];exact r.length.symm
   refine⟨"tuple",_,PyProof.Rows.slot_tuple_getitem.lookup,w.typeIs,?_⟩;refine jk w o pl n (by rw[g];exact k) ⟨.ref a,H,I,rfl,q H _ (I0.refl H) ?_⟩;rw[wt (by rw[D];exact k)];exact l
  exact D3 c s z H _ v B u lo f y Q I j o pl n ⟨a,b,rfl,t.sq,k,λp i=>q _ _ (aN i _) (At.KD (m.cut lo f) i A (Nat.le_trans (fT b lo f) t.len))⟩
 ·rename_i C;cases e;obtain⟨a,b,rfl,t,m⟩:=At.Jc.mp l;exact Cb c s z H _ v B u lo f y Q I j o pl n ⟨a,b,rfl,t.sq,λp i=>q _ _ (aN i _) (At.La (m.cut lo f) i A (Nat.le_trans (fT b lo f) t.len))⟩
 cases e
def v_:D->Option (Option Int)
 | .int i=>some (some i)
 |_=>none
def kH (f:Option (IE D)):IE (Option Int):=match f with
 |none=>λ_ S=>IX none S
 |some f=>λa S=>ai (f a S) λd b=>aJ (v_ d) b
def SO (X:Cx)(W:WT)(e:Option Expr)(f:Option (IE D)):Prop:=match e,f with
 |none,none=>True
 |some e,some f=>SE X W e f
 |_,_=>False
def OV (g:D->Option Int->Option Int->Option D)(f:IE D)(lo b:Option (IE D)):IE D:=λa S=>ai (f a S) λx e=>ai (kH lo a e) λl c=>ai (kH b a c) λu d=>aJ (g x l u) d
def W5 (X:Cx)(W:WT)(f:Option (IE D)):TO:=tG X W (λ_ _ a b=>a=b) [] [] (kH f)
theorem tG.Qj {α s:Type}{R:List Addr->Hp->α->s->Prop}{f:Option (IE D)}{k:Option Int->IE α}{ds:List D}{vs:List V}{n:St}{H:Hp}{Q : s->Hp->Prop}
  (h:tG X W R ds vs (λρ S=>ai (kH f ρ S) λd i=>k d ρ i) n H Q):W5 X W f n H λb t=>tG X W R ds vs (k b) n t Q:=by
 obtain⟨J,ρ,S,r,y,c,a,e,z⟩:=h;cases q:kH f ρ S with
 |none=>simp[q] at e
 |some o =>
  obtain⟨A,i⟩:=o;simp only[q] at e;cases A with
  |error x =>
   cases e;exact⟨J,ρ,S,.error x,_,c,.nil,q,z⟩
  |ok d =>
   refine⟨J,ρ,S,.ok d,i,c,.nil,q,λB t v x u m=>?_⟩;cases m;refine⟨B,ρ,i,r,y,c.re x u,a.ex x,e,?_⟩;cases r with
   |ok g=>exact λl j b x2 p w=>z l j b (x.trans x2) p w
   |error g=>exact λl j x2 p=>z l j (x.trans x2) p
theorem DK {e:Option Expr}{f:Option (IE D)}(h:SO X W e f):PO X e (W5 X W f):=by
 cases e with
 |none =>
  cases f with
  |none =>
   intro a s b H Q I z;refine CA a s b H Q I ?_;obtain⟨J,g,S,r,l,c,_,e,z⟩:=z;cases e;exact z J H _ Ex.refl c.Jr rfl
  |some _=>exact h.elim
 |some e =>
  cases f with
  |none=>exact h.elim
  |some f =>
   intro a s b H Q I z;refine Cy h a s b H Q I ?_;refine(tG.IZ z).mono λv k ⟨d,j⟩=>?_;obtain⟨J,g,S,r,l,c,m,e,z⟩:=j;obtain⟨m,_⟩:=m.IU;cases d with
   |int i =>
    cases e;exact⟨i,At.IP.mp m,z J k _ Ex.refl c.Jr rfl⟩
   |_=>simp[v_] at e
theorem nL {g:D->Option Int->Option Int->Option D}{lo i:Option Expr}{f b:Option (IE D)}{p:Pos}(hr:W4 X g)(B:SE X W a fa)(t:SO X W lo f)(o:SO X W i b):SE X W (.Subscript a (.Slice lo i none p) pos) (OV g fa f b):=
 (Ay hr B (DK t) (DK o)).imp λG H Q h=>(tG.IZ h).mono λv I ⟨d,n⟩=>(tG.Qj n).mono λl C j=>(tG.Qj j).mono λu E y=>by
  obtain⟨J,F,S,r,K,c,m,e,z⟩:=y;obtain⟨m,_⟩:=m.IU;cases q:g d l u with
  |none=>simp[q] at e
  |some A =>
   simp only[q,bA,IX] at e;cases e;exact⟨J,d,A,c.Jr.all,m,q,λk w s x=>z J k w (Ex.same s) (c.Jr.same s) x⟩
end
end L2
namespace L2
open PySem PySem.Spec PyProof.Rows PySem.W
section
variable {X:Cx}{W:WT}
theorem lj:fillsNumberSlot (.type "tuple") "mul"=pure false:=
 PySem.fillsNumberSlot_seq (id:="tuple.__mul__") (r:=some (.builtin "tuple.__rmul__")) F.slot_tuple_mul.lookup (by decide) F.slot_tuple_rmul.lookup (by decide)
theorem q9:seqRepeat? (.type "tuple")=pure (some (.builtin "tuple.__mul__")):=by unfold seqRepeat?;rw[PySem.seqSlot_of (T:="tuple") (name:="__mul__") (id:="tuple.__mul__") F.slot_tuple_mul.lookup (by decide),PySem.seqSlot_of (T:="tuple") (name:="__rmul__") (id:="tuple.__rmul__") F.slot_tuple_rmul.lookup (by decide)];rfl
theorem on (a:Int)(t:Tok)(l:Addr)(items:Array Value)(n:Nat)(c:Option Addr)(b:Array (Option Value)) :
  Meets (Builtin.«int.__rmul__» ⟨[.int a t,.ref l],[]⟩) (λ_ R s=>s.heap.get? l=some { cls:=.type "tuple",dict:=c,data:=.seq items n,slots:=b }/\R (.ok (.ret Value.notImplemented)) s):=
 .of_wp λprog w A R s h=>by obtain⟨e,g,d,tk,os⟩:=s;obtain⟨f,h⟩:=h;wp_walk;exact⟨_,rfl,h⟩
theorem vz (l:Addr)(items:Array Value)(n:Nat)(x:Option Addr)(q:Array (Option Value))(k:Int)(t:Tok)(B : 2<=k)(z:k<2 ^ 30)(a:items.isEmpty=false)(hsz:items.size*k.toNat<=sizeLine) :
  Meets (Builtin.«tuple.__mul__» ⟨[.ref l,.int k t],[]⟩) (λ_ R s=>s.heap.get? l=some { cls:=.type "tuple",dict:=x,data:=.seq items n,slots:=q }/\R (.ok (.ret (Value.ref s.heap.objs.size))) { s with heap:=s.heap.push { cls:=Value.type "tuple",data:=Data.seq (List.foldl (λx1 x2=>x1++x2) #[] (replicate k.toNat items)) },toks:=s.toks }):=
 .of_wp λprog w A R s h=>by
  obtain⟨r,g,d,tk,os⟩:=s;obtain⟨c,h⟩:=h;have y:=AutoSeq1.idx_int
  wp_walk using AutoSeq1.wpAny_loadPart' c
  have D:(0:Int)<=k:=by omega
  have j:((k.toNat:Nat):Int)=k:=by omega
  have p:¬ ((decide (k < -2 ^ 63) ||decide (k≥2 ^ 63))=true):=by rw[decide_eq_false (by omega),decide_eq_false (by omega)];decide
  have i:¬ ((items.isEmpty ||k==1)=true):=by rw[a,Bool.false_or,beq_eq_false_iff_ne.mpr (by omega)];decide
  have v:¬ ((decide (k<=0) ||items.isEmpty)=true):=by rw[a,decide_eq_false (by omega)];decide
  have f:((items.size*k.toNat:Nat):Int)=(items.size:Int)*k:=by rw[Int.natCast_mul,j]
  have C:(sizeLine:Nat)=2 ^ 24:=rfl;have u:¬ ((items.size:Int)*k > (2 ^ 63-1) / 8):=by rw[← f];omega
  have o:Builtin.Tuple.tupleTooMany ((items.size:Int)*k)=false:=by unfold Builtin.Tuple.tupleTooMany;rw[← f];exact decide_eq_false (by omega)
  rw[if_neg p];refine wpAny_bind (tupleItemsOf_ (⟨_,c,rfl,n,rfl⟩:IsTup r l items) ?_);dsimp only;rw[if_neg i,if_neg v,if_neg u,if_neg (by rw[o];decide)]
  have b:sizeOk (.seq (List.foldl (λx1 x2=>x1++x2) #[] (replicate k.toNat items))):=by
   have e:List.foldl (λx1 x2=>x1++x2) #[] (replicate k.toNat items)=(replicate k.toNat items.toList).flatten.toArray:=by have:=foldl_rep items.toList k.toNat [];simpa using this
   show (List.foldl (λx1 x2=>x1++x2) #[] (replicate k.toNat items)).size<=sizeLine;rw[e,size_toArray,len_rep,length_toList,mul_comm];exact hsz
  first
   |exact wpAny_bind (m:=Builtin.Tuple.tupleExact _) (wpAny_newObj_type (wpAny_pure ⟨_,rfl,h⟩) b)
   |exact wpAny_bind (m:=Builtin.Tuple.tupleExact _) (wpAny_newObj_type (wpAny_bind (wpAny_pure (wpAny_pure ⟨_,rfl,h⟩))) b)
def cS:D->D->Option D
 | .int i,.int j=>if gq i j then some (.int (i*j)) else none
 | .str x,.int n=>if -1000<=n/\n<1 then some (.str ⟨#[]⟩) else if 1<=n/\n<=1000/\x.length<=1000 then some (.str ⟨(replicate n.toNat x.cps.toList).flatten.toArray⟩) else none
 | .tup a,.int n=>if 2<=n/\n<=1000/\0<a.length/\a.length<=1000 then some (.tup (replicate n.toNat a).flatten) else none
 |_,_=>none
theorem AS (x:Str)(n:Int)(h : 1<=n):Txt.mul x n=⟨(replicate n.toNat x.cps.toList).flatten.toArray⟩:=by
 have f:∀ m:Nat,(replicate m x.cps).foldl (·++·) #[]=(replicate m x.cps.toList).flatten.toArray:=λm=>by
  have:∀ (m:Nat) (a:List Nat),(replicate m x.cps).foldl (·++·) a.toArray=(a++(replicate m x.cps.toList).flatten).toArray:=by
   intro m
   induction m with
   |zero=>intro a;simp
   |succ m b =>
    intro a;rw[replicate_succ,foldl_cons,replicate_succ,flatten_cons,← List.append_assoc];have e:a.toArray++x.cps=(a++x.cps.toList).toArray:=by simp
    rw[e];exact b _
  have:=this m [];simpa using this
 unfold Txt.mul;rw[if_neg (by omega)];split
 ·rename_i c;rw[or_eq_true] at c;rcases c with c |c
  ·have:n=1:=eq_of_beq c;subst this;show x=⟨([x.cps.toList].flatten).toArray⟩;simp
  have d:x.cps.size=0:=eq_of_beq c;have:x.cps.toList=[]:=by simpa using Array.size_eq_zero_iff.mp d
  have g:∀ m:Nat,(replicate m ([]:List Nat)).flatten=[]:=λm=>by induction m with
   |zero=>rfl
   |succ m b=>rw[replicate_succ,flatten_cons,b];rfl
  rw[this,g];cases x with
  |mk cps =>
   simp only at this;have:cps = #[]:=by simpa using this
   rw[this]
 rw[f]
theorem dU:Ng X (binaryOp .Mult) cS:=by
 intro p s σ H x y v u Q I w B h;obtain⟨J,dx,dy,d,hJ,A,C,e,q⟩:=h;unfold cS at e;split at e
 ·rename_i i j;split at e
  ·rename_i c;cases e;cases At.IP.mp A;cases At.IP.mp C;exact EJ p s σ H _ _ v u Q I w B ⟨i,j,rfl,rfl,xh c,q H _ (I0.refl H) (At.IP.mpr rfl)⟩
  cases e
 ·rename_i z n;obtain⟨ex,W⟩:=At.Je.mp A;subst ex;cases At.IP.mp C;obtain⟨t,rfl⟩:=w;obtain⟨t',rfl⟩:=B;split at e
  ·rename_i c;cases e;refine SB.mul ⟨by rw[decide_eq_false (by omega),decide_eq_false (by omega)];rfl,λh=>absurd c.2 h,λh=>absurd c.2 h⟩ λt' k=>?_;rw[show Txt.mul z n=⟨#[]⟩ from if_pos c.2];exact⟨.str _,H,I.tok _,⟨t',rfl⟩,q H _ (I0.refl H) (At.Je.mpr ⟨rfl,by show 0<=sizeLine;decide,by decide⟩)⟩
  rename_i c;split at e
  ·rename_i S;cases e;have L:(sizeLine:Nat)=2 ^ 24:=rfl
   have f:z.length*n.toNat<=1000000:=by
    have:n.toNat<=1000:=by omega
    exact Nat.le_trans (Nat.mul_le_mul S.2.2 this) (by decide)
   have ok:MulOk z n:=by
    refine⟨by rw[decide_eq_false (by omega),decide_eq_false (by omega)];rfl,λ_ _ hh=>?_,λ_ _=>?_⟩
    ·have E:(2 ^ 63-1) / n≥(2 ^ 63-1) / 1000:=by
      apply Int.le_ediv_of_mul_le (by omega);have:((2 ^ 63-1) / 1000:Int)=9223372036854775:=by decide
      rw[this];omega
     have D:((2 ^ 63-1) / 1000:Int)=9223372036854775:=by decide
     omega
    unfold Builtin.Str.tooLong;exact decide_eq_false (by omega)
   refine SB.mul ok λt' k=>?_;rw[AS z n (by omega)];have hl:z.cps.toList.length=z.length:=by simp[Str.length]
   refine⟨.str _,H,I.tok _,⟨t',rfl⟩,q H _ (I0.refl H) (At.Je.mpr ⟨rfl,?_,nE λc m=>?_⟩)⟩
   ·show (List.toArray _).size<=_;rw[size_toArray,len_rep,hl,mul_comm];omega
   obtain⟨l,Pn,M⟩:=List.mem_flatten.mp m;rw[(List.mem_replicate.mp Pn).2] at M;exact kZ W.2 M
  cases e
 ·rename_i xs n;split at e
  ·rename_i c;cases e;obtain⟨a,O,rfl,Z,m⟩:=At.Jb.mp A;cases At.IP.mp C;cases w;obtain⟨t',rfl⟩:=B;obtain⟨its,r,⟨⟨cls,P,data,G⟩,g,hc,K,hd⟩,hz⟩:=I.tuple Z.sq;simp only at hc hd;subst hc hd;have l1:=m.length;have l2:=r.length;have L:(sizeLine:Nat)=2 ^ 24:=rfl
   have f:its.toArray.size*n.toNat<=sizeLine:=by
    rw[size_toArray];have E:its.length<=1000:=by omega
    have D:n.toNat<=1000:=by omega
    exact Nat.le_trans (Nat.mul_le_mul E D) (by rw[L];decide)
   have h0 : 0<its.length:=by omega
   have Y:its.toArray.isEmpty=false:=by
    cases its with
    |nil=>simp at h0
    |cons _ _=>rfl
   refine wpAny_binaryOp_repeat_ref (T:="tuple") (U:="int") (by decide) ⟨_,g,rfl⟩ (λR=>typeIs_int R n t') lj F.fills_int_mul F.slot_int_rmul q9 F.slot_int_index.lookup
    (call_meets F.slot_int_rmul (typeIs_int s n t') F.entry_int_rmul (F.args_int_rmul_2 _ _) (on n t' a its.toArray K P G)
     ⟨g,rfl,⟨_,g,rfl⟩,call_meets F.slot_tuple_mul ⟨_,g,rfl⟩ F.entry_tuple_mul (F.args_tuple_mul_2 _ _) (vz a its.toArray K P G n t' c.1 (by omega) Y f) ⟨g,?_⟩⟩)
   have V:List.foldl (λx1 x2=>x1++x2) #[] (replicate n.toNat its.toArray)=(replicate n.toNat its).flatten.toArray:=by have:=foldl_rep its n.toNat [];rw[nil_append] at this;exact this
   rw[V];have N:(replicate n.toNat O).flatten.length<=sizeLine:=by rw[len_rep,mul_comm,l2];rw[size_toArray] at f;exact f
   exact⟨.ref s.heap.objs.size,_,I.laid (t':=s.toks) (o:=.tup (replicate n.toNat O).flatten) (λb ob q=>Heap.get?_push_of_some _ q) (le_refl _) ⟨N,_,r.rep n.toNat,Mp.new _ _⟩,rfl,q _ _ (aN I.fresh _) (At.KD (m.rep n.toNat) I.fresh hJ N)⟩
  cases e
 cases e
end
section
variable {X:Cx}{W:WT}
def xp:D->Option String
 | .Ji=>some "NoneType"
 | .bl _=>some "bool"
 | .int _=>some "int"
 | .str _=>some "str"
 | .tup _=>some "tuple"
 | .lst _=>some "list"
 |_=>none
def ug (T k:String):Bool:=k==T ||(k=="bool"&&T=="int")
def Bb (T:String)(d:D):Option D:=(xp d).map λk => .bl (ug T k)
def BQ (T:String):Prop:=∀ (K:Frag),kitOne K (.type "NoneType") (.type T)=some (ug T "NoneType")/\kitOne K (.type "bool") (.type T)=some (ug T "bool")/\kitOne K (.type "int") (.type T)=some (ug T "int") /\
 kitOne K (.type "str") (.type T)=some (ug T "str")/\kitOne K (.type "tuple") (.type T)=some (ug T "tuple")/\kitOne K (.type "list") (.type T)=some (ug T "list")
theorem A_:BQ "bool":=λK=>⟨rfl,rfl,rfl,rfl,rfl,rfl⟩
theorem By {T:String}(w:BQ T):hZ X (.builtin "isinstance") (λxs H Q => ∃ x,xs=[x,.ty T]/\Vo X.K (Bb T) x H Q):=by
 intro j s D H xs S Q I r h;obtain⟨x,rfl,J,P,d,R,g,e,q⟩:=h;obtain⟨u,U,rfl,f,E⟩:=vals2 r;cases E;obtain⟨k,c,N⟩:=map_eq_some_iff.mp e;subst N;obtain⟨v,O,B,M,L,A⟩:=w X.K;have fin:∀ tk,EP X j D Q (.bool (ug T k)) { s with toks:=tk }:=λtk=>⟨.bl _,H,I.tok _,rfl,q H _ (I0.refl H) (At.Jn.mpr rfl)⟩;cases P with
 |Ji=>cases c;cases At.Jw.mp g;cases f;exact kia_one kitx_none I.Mz True.intro v (λz=>nomatch z) fin
 |bl b=>cases c;cases At.Jn.mp g;cases f;exact kia_one kitx_bool I.Mz True.intro O (λz=>nomatch z) fin
 |int i=>cases c;cases At.IP.mp g;obtain⟨t,rfl⟩:=f;exact kia_one kitx_int I.Mz True.intro B (λz=>nomatch z) fin
 |str y=>cases c;cases (At.Je.mp g).1;obtain⟨t,rfl⟩:=f;exact kia_one kitx_str I.Mz True.intro M (λz=>nomatch z) fin
 |tup C =>
  cases c;obtain⟨a,F,rfl,p,_⟩:=At.Jb.mp g;cases f;obtain⟨its,G,⟨o,m,l,_⟩,_⟩:=I.tuple p.sq;exact kia_one kitx_tuple I.Mz ⟨o,m,l⟩ L (λz=>nomatch z) fin
 |lst C =>
  cases c;obtain⟨a,F,rfl,p,_⟩:=At.Jc.mp g;cases f;obtain⟨its,G,⟨o,n,m,l,_⟩,_⟩:=I.list p.sq;exact kia_one kitx_list I.Mz ⟨o,m,l⟩ A (λz=>nomatch z) fin
 |set _=>simp[xp] at c
 |loc _=>simp[xp] at c
 |fn _ _=>simp[xp] at c
variable {a b c e:Expr}{fa fb fc:IE D}{pos:Pos}{es:List Expr}{gs:IE (List D)}
theorem Ea {T:String}{x t:Str}{p a:Pos}(f:BQ T)(c:x="isinstance")(n:X.mg x=none)(m:X.mg t=none)(i:bootBuiltins t=some (.type T))(k:SE X W e fa)
  (g:Gl X x:=by rfl) (l:Gl X t:=by rfl) (q:t≠"__name__":=by decide) (o:(t==("__debug__":Str))=false:=by decide)
  (b:starEach (e::[.Name t a]) X.env=(false,eval e X.env)::starEach [.Name t a] X.env:=by rfl) (JQ:(backTo pos (starEach [.Name t a] X.env)).any (·.1)=false:=by rfl) :
  SE X W (.Call (.Name x p) [e,.Name t a] [] pos) (Qh (Bb T) fa):=by
 subst c;refine PE.imp (iC (By f) g n (by decide) (cE k (cE (CL (v:=.ty T) l m i (show RelV (.ty T) (.type T) from rfl) q o) JR (by rfl)) b) (by decide) (by decide) b JQ) λr H Q h=>?_;exact(tG.IZ h).mono λv s ⟨d,j⟩=>⟨v,rfl,tG.WV j⟩
def cm:List D->Option D
 |[.tup xs]=>some (.int xs.length)
 |[.lst xs]=>some (.int xs.length)
 |[.str x]=>some (.int x.length)
 |_=>none
theorem fZ:jw X (.builtin "len") cm:=by
 intro b s g H l i Q I r h;obtain⟨J,o,d,u,m,e,q⟩:=h;unfold cm at e;split at e
 ·rename_i k;cases e;obtain⟨v,w,rfl,a,n⟩:=IT.IQ.mp m;cases IT.IV.mp n;obtain⟨p,c,rfl,t,f⟩:=At.Jb.mp a;exact gO b s g H _ i Q I r ⟨p,c,rfl,.inr t.sq,by rw[← f.length];exact q H _ (I0.refl H) (At.IP.mpr rfl)⟩
 ·rename_i k;cases e;obtain⟨v,w,rfl,a,n⟩:=IT.IQ.mp m;cases IT.IV.mp n;obtain⟨p,c,rfl,t,f⟩:=At.Jc.mp a;exact gO b s g H _ i Q I r ⟨p,c,rfl,.inl t.sq,by rw[← f.length];exact q H _ (I0.refl H) (At.IP.mpr rfl)⟩
 ·rename_i y;cases e;obtain⟨v,w,rfl,a,n⟩:=IT.IQ.mp m;cases IT.IV.mp n;obtain⟨ex,j⟩:=At.Je.mp a;subst ex;exact rY b s g H _ i Q I r ⟨y,rfl,j.1,q H _ (I0.refl H) (At.IP.mpr rfl)⟩
 cases e
def intD:List D->Option D
 |[.int i]=>some (.int i)
 |[.bl k]=>some (.int (if k then 1 else 0))
 |_=>none
theorem Bw:jw X (.type "int") intD:=by
 intro b s c H g f Q I r h;obtain⟨J,j,d,l,m,e,q⟩:=h;unfold intD at e;split at e
 ·rename_i i;cases e;obtain⟨v,w,rfl,a,n⟩:=IT.IQ.mp m;cases IT.IV.mp n;cases At.IP.mp a;exact qA b s c H _ f Q I r (.inl ⟨i,rfl,q H _ (I0.refl H) (At.IP.mpr rfl)⟩)
 ·rename_i k;cases e;obtain⟨v,w,rfl,a,n⟩:=IT.IQ.mp m;cases IT.IV.mp n;cases At.Jn.mp a;exact qA b s c H _ f Q I r (.inr ⟨k,rfl,q H _ (I0.refl H) (At.IP.mpr rfl)⟩)
 cases e
def jy:List D->Option D
 |[.tup xs]=>some (.tup xs)
 |[.lst xs]=>some (.tup xs)
 |_=>none
theorem jO:jw X (.type "tuple") jy:=by
 intro b s g H u j Q I r h;obtain⟨J,x,d,o,m,e,q⟩:=h;unfold jy at e;split at e
 ·rename_i k;cases e;obtain⟨v,w,rfl,a,n⟩:=IT.IQ.mp m;cases IT.IV.mp n;obtain⟨p,c,rfl,t,f⟩:=At.Jb.mp a;exact ju b s g H _ j Q I r ⟨p,c,rfl,.inr ⟨t.sq,q H _ (I0.refl H) a⟩⟩
 ·rename_i k;cases e;obtain⟨v,w,rfl,a,n⟩:=IT.IQ.mp m;cases IT.IV.mp n;obtain⟨p,c,rfl,t,f⟩:=At.Jc.mp a;exact ju b s g H _ j Q I r ⟨p,c,rfl,.inl ⟨t.sq,λl i=>q _ _ (aN i _) (At.KD f i o t.len)⟩⟩
 cases e
end
inductive Fl where
 |next (ρ:IM) |ret (d:D) |brk (ρ:IM) |cont (ρ:IM)
def MW (X:Cx)(W:WT)(J:List Addr)(H:Hp)(r:Except Str Fl)(f:IL)(E:Ends):Prop:=
 match r with
 | .ok (.next ρ') => ∀ e b a,Ex J H e a->Cf X e ρ' f b a->E.nx b a
 | .ok (.brk ρ') => ∀ e b a,Ex J H e a->Cf X e ρ' f b a->E.bk b a
 | .ok (.cont ρ') => ∀ e b a,Ex J H e a->Cf X e ρ' f b a->E.ct b a
 | .ok (.ret d) => ∀ e a v,Ex J H e a->Jg X.K e f a->At X.K a e d v->E.rt v a
 | .error c => ∀ e a,Ex J H e a->Jg X.K e f a->W c e f a
theorem MW.ex {X:Cx}{W:WT}{J m:List Addr}{H k:Hp}{r:Except Str Fl}{l:IL}{E:Ends}(h:MW X W J H r l E)(x:Ex J H m k):MW X W m k r l E:=by
 cases r with
 |error c=>exact λi e g s=>h i e (x.trans g) s
 |ok f =>
  cases f with
  |next j=>exact λi b e g c=>h i b e (x.trans g) c
  |brk j=>exact λi b e g c=>h i b e (x.trans g) c
  |cont j=>exact λi b e g c=>h i b e (x.trans g) c
  |ret d=>exact λi e v g s a=>h i e v (x.trans g) s a
def tS (X:Cx)(W:WT)(f:IE Fl):TS:=λE c H => ∃ J a S r b,Cf X J a S c H/\f a S=some (r,b)/\MW X W J H r b E
def SS (X:Cx)(W:WT)(st:Stmt)(f:IE Fl):Prop:=PS X st (tS X W f)
def NV (X:Cx)(W:WT)(st:List Stmt)(f:IE Fl):Prop:=Ny X st (tS X W f)
theorem PS.imp {X:Cx}{st:Stmt}{t t':TS}(h:PS X st t)(i:∀ E b H,t' E b H->t E b H):PS X st t':=λa s b H D I z=>h a s b H D I (i _ _ _ z)
theorem Ny.imp {X:Cx}{st:List Stmt}{t t':TS}(h:Ny X st t)(i:∀ E b H,t' E b H->t E b H):Ny X st t':=λa s b H D I z=>h a s b H D I (i _ _ _ z)
section
variable {X:Cx}{W:WT}{st:Stmt}{rest:List Stmt}{f g:IE Fl}{e c:Expr}{fe:IE D}{gt:IE Bool}{pos:Pos}
def gz:IE Fl:=λa S=>IX (.next a) S
def aO (f g:IE Fl):IE Fl:=λc S=>ai (f c S) λd b=>match d with
 | .next a=>g a b
 |o=>IX o b
def bw (f:IE D):IE Fl:=λa S=>ai (f a S) λd b=>IX (.ret d) b
def Od (t:IE Bool)(f g:IE Fl):IE Fl:=λa S=>ai (t a S) λk b=>if k=true then f a b else g a b
def bo (i:Nat)(f:IE D):IE Fl:=λa S=>ai (f a S) λd b=>IX (.next (a.set i (some d))) b
def oK (f:IE D):IE Fl:=λa S=>ai (f a S) λ_ b=>IX (.next a) b
theorem cU:NV X W [] gz:=PD.imp λE a H h=>by obtain⟨J,b,S,r,d,c,e,z⟩:=h;cases e;exact z J a H Ex.refl c
theorem z8 {E:Ends}{j:St}{H:Hp}(h:tS X W (aO f g) E j H):FK (tS X W f) (tS X W g) E j H:=by
 obtain⟨J,b,S,r,m,c,e,z⟩:=h;unfold aO at e;cases q:f b S with
 |none=>simp[q] at e
 |some o =>
  obtain⟨n,i⟩:=o;simp only[q] at e;cases n with
  |error x =>
   cases e;exact⟨J,b,S,.error x,_,c,q,z⟩
  |ok k =>
   cases k with
   |next a=>exact⟨J,b,S,.ok (.next a),i,c,q,λp l t x s=>⟨p,a,i,r,m,s,e,z.ex x⟩⟩
   |ret d=>cases e;exact⟨J,b,S,.ok (.ret d),_,c,q,z⟩
   |brk a=>cases e;exact⟨J,b,S,.ok (.brk a),_,c,q,z⟩
   |cont a=>cases e;exact⟨J,b,S,.ok (.cont a),_,c,q,z⟩
theorem al (a:SS X W st f)(b:NV X W rest g):NV X W (st::rest) (aO f g):=(An a b).imp λE c H h=>z8 h
theorem ar (a:SS X W st f):NV X W [st] f:=Cq a
theorem tS.IZ {k:D->IE Fl}{E:Ends}{g:St}{H:Hp}(h:tS X W (λρ S=>ai (fe ρ S) λd a=>k d ρ a) E g H) :
  tE X W fe g H λv b => ∃ J ρ S d r f,Cf X J ρ S g b/\At X.K b J d v/\k d ρ S=some (r,f)/\MW X W J b r f E:=by
 obtain⟨J,ρ,S,r,f,c,e,z⟩:=h;cases q:fe ρ S with
 |none=>simp[q] at e
 |some o =>
  obtain⟨j,a⟩:=o;simp only[q] at e;cases j with
  |error x =>
   cases e;exact⟨J,ρ,S,.error x,_,c,.nil,q,z⟩
  |ok d=>exact⟨J,ρ,S,.ok d,a,c,.nil,q,λl b v x i m=>⟨l,ρ,a,d,r,f,c.re x i,m,e,z.ex x⟩⟩
theorem tS.MD {k:Bool->IE Fl}{E:Ends}{f:St}{H:Hp}(h:tS X W (λρ S=>ai (gt ρ S) λd a=>k d ρ a) E f H) :
  tT X W gt f H λb g=>tS X W (k b) E f g:=by
 obtain⟨J,ρ,S,r,j,c,e,z⟩:=h;cases q:gt ρ S with
 |none=>simp[q] at e
 |some o =>
  obtain⟨l,a⟩:=o;simp only[q] at e;cases l with
  |error x =>
   cases e;exact⟨J,ρ,S,.error x,_,c,.nil,q,z⟩
  |ok d =>
   refine⟨J,ρ,S,.ok d,a,c,.nil,q,λn g v x i m=>?_⟩;cases m;exact⟨n,ρ,a,r,j,c.re x i,e,z.ex x⟩
theorem aL (b:SE X W e fe):SS X W (.Return (some e) pos) (bw fe):=(Es b).imp λE g H h=>(tS.IZ h).mono λv a f=>by obtain⟨J,i,S,d,r,j,c,m,q,z⟩:=f;cases q;exact z J a v Ex.refl c.Jr m
theorem io {a b:List Stmt}(hc:MC X W c gt)(e:NV X W a f)(hb:NV X W b g):SS X W (.If c a b pos) (Od gt f g):=(F4 hc e hb).imp λE i H h=>(tS.MD h).mono λk j d=>by
 cases k with
 |true=>rw[if_pos rfl];exact d
 |false=>rw[if_neg (by decide)];exact d
theorem mW (a:SE X W e fe)(i:swapsWith e none pos.line X.env=pure false:=by rfl):SS X W (.Expr e pos) (oK fe):=(Cs a i).imp λE b H h=>(tS.IZ h).mono λv f g=>by obtain⟨J,j,S,d,r,k,c,m,q,z⟩:=g;cases q;exact z J b f Ex.refl c
theorem Cf.set {J:List Addr}{ρ:IM}{S:IL}{b:St}{H:Hp}{i:Nat}{d:D}{v:V}(c:Cf X J ρ S b H)(m:At X.K H J d v):Cf X J (ρ.set i (some d)) S (b.set i (some v)) H:=by
 refine⟨by rw[length_set,length_set];exact c.len,λj g h=>?_,c.Jr⟩;by_cases a:j=i
 ·subst a;have e:j < ρ.length:=by have:=(List.getElem?_eq_some_iff.mp h).1;rwa [length_set] at this
  rw[getElem?_set_self e] at h;cases h;exact⟨v,getElem?_set_self (by rw[← c.len];exact e),m⟩
 rw[getElem?_set_ne (Ne.symm a)] at h;obtain⟨f,k,l⟩:=c.env j g h;exact⟨f,by rw[getElem?_set_ne (Ne.symm a)];exact k,l⟩
theorem aM {i:Nat}{x:Str}{a:Pos}(g:X.N.Nodup)(f:SE X W e fe)(o:X.N[i]?=some x:=by rfl)(b:Loc X.env.scope x:=by first |exact Or.inl rfl |exact Or.inr rfl)(n:swapsWith e (some (.Name x a)) pos.line X.env=pure false:=by rfl)
  (k:X.fn x=true∨X.env.scope.names.lookup x=some .local:=by first |exact .inl rfl |exact .inr rfl |assumption) :
  SS X W (.Assign [.Name x a] e pos) (bo i fe):=(Er g o b f n k).imp λE s H h=>(tS.IZ h).mono λv j l=>by
 obtain⟨J,p,S,d,r,t,c,m,q,z⟩:=l
 cases q;exact z J _ j Ex.refl (c.set m)
def YO (X:Cx)(u:D->IM->Option IM):TG:=λv e H Q => ∃ J c S d b,Cf X J c S e H/\At X.K H J d v/\u d c=some b/\∀ a,Cf X J b S a H->Q a H
def GZ (X:Cx)(u:List D->IM->Option IM):PF:=λe f H Q => ∃ J c S d b,Cf X J c S f H/\IT X.K H J d e/\u d c=some b/\∀ a,Cf X J b S a H->Q a H
def SG (X:Cx)(a:Expr)(u:D->IM->Option IM):Prop:=PG X a (YO X u)
def UB (X:Cx)(a:List Expr)(u:List D->IM->Option IM):Prop:=Qe X a (GZ X u)
theorem PG.imp {c:Expr}{t t':TG}(h:PG X c t)(i:∀ v b H Q,t' v b H Q->t v b H Q):PG X c t':=λa s b H v u Q I r z=>h a s b H v u Q I r (i _ _ _ _ z)
theorem Qe.imp {c:List Expr}{t t':PF}(h:Qe X c t)(i:∀ v b H Q,t' v b H Q->t v b H Q):Qe X c t':=λa s b H v u Q I r z=>h a s b H v u Q I r (i _ _ _ _ z)
noncomputable def aD (i:Nat):D->IM->Option IM:=λd a=>some (a.set i (some d))
def g9:List D->IM->Option IM:=λa b=>match a with
 |[]=>some b
 |_=>none
def a_ (u:D->IM->Option IM)(us:List D->IM->Option IM):List D->IM->Option IM:=λc b=>match c with
 |d::r=>(u d b).bind λa=>us r a
 |[]=>none
def kX (n:Nat)(us:List D->IM->Option IM):D->IM->Option IM:=λd b=>match d with
 | .tup a=>if a.length=n then us a b else none
 |_=>none
theorem aI {i:Nat}{x:Str}(f:X.N.Nodup)(j:X.N[i]?=some x:=by rfl)(a:Loc X.env.scope x:=by first |exact Or.inl rfl |exact Or.inr rfl)(g:X.fn x=true∨X.env.scope.names.lookup x=some .local:=by first |exact .inl rfl |exact .inr rfl |assumption) :
  SG X (.Name x pos) (aD i):=(CC f j a g).imp λv l H Q h=>by
 obtain⟨J,k,S,d,b,c,m,e,z⟩:=h;cases e;exact z _ (c.set m)
theorem j5:UB X [] g9:=PH.imp λv d H Q h=>by
 obtain⟨J,f,S,a,b,c,m,e,z⟩:=h;cases a with
 |nil=>cases e;exact⟨IT.IV.mp m,z _ c⟩
 |cons _ _=>cases e
theorem bO {e:Expr}{es:List Expr}{u:D->IM->Option IM}{us:List D->IM->Option IM}(l:SG X e u)(g:UB X es us)
  (q:(assignEach (e::es) X.env).map (·.2)=assign e X.env::(assignEach es X.env).map (·.2):=by rfl):UB X (e::es) (a_ u us):=(Av l g q).imp λv t H Q h=>by
 obtain⟨J,j,S,k,b,c,m,e,z⟩:=h;cases k with
 |nil=>cases e
 |cons d r =>
  obtain⟨s,n,rfl,m1,m2⟩:=IT.IQ.mp m;obtain⟨a,f,p⟩:=bind_eq_some_iff.mp e;exact⟨s,n,rfl,J,j,S,d,a,c,m1,f,λo i=>⟨J,a,S,r,b,i,m2,p,z⟩⟩
theorem nJ {es:List Expr}{k:Nat}{us:List D->IM->Option IM}{n:Nat}(hc:X.calm=true)(h:UB X es us)
  (p:(assignEach es X.env).length=n:=by rfl) (l:(assignEach es X.env).findIdx? (·.1)=none:=by rfl):SG X (.Tuple es k pos) (kX n us):=(Ez hc h p l).imp λv q H Q h=>by
 obtain⟨J,j,S,d,b,c,m,e,z⟩:=h;cases d with
 |tup i =>
  obtain⟨a,g,rfl,t,f⟩:=At.Jb.mp m;simp only[kX] at e;split at e
  ·rename_i o;exact⟨a,g,rfl,t.sq,by rw[← f.length];exact o,J,j,S,i,b,c,f,e,z⟩
  cases e
 |_=>cases e
def r_ (u:D->IM->Option IM)(f:IE D):IE Fl:=λa S=>ai (f a S) λd b=>aJ ((u d a).map Fl.next) b
theorem D2 {a e:Expr}{u:D->IM->Option IM}(j:SE X W e fe)(i:SG X a u)(s:swapsWithSole [a] e pos.line X.env=pure false:=by rfl)(k:swappedStores [a] e X.env=pure none:=by rfl)
  (l:(assignEach [a] X.env).map (·.2)=[assign a X.env]:=by rfl):SS X W (.Assign [a] e pos) (r_ u fe):=(Ao j i s k l).imp λE t H h=>(tS.IZ h).mono λv n o=>by
 obtain⟨J,g,S,d,r,w,c,m,q,z⟩:=o
 cases hu:u d g with
 |none=>simp[hu] at q
 |some b =>
  simp only[hu,map_some,bA,IX] at q;cases q;exact⟨J,g,_,d,b,c,m,hu,λf p=>z J f n Ex.refl p⟩
structure Walk (X:Cx) (Jt:It) (ds:List D) (J0:List Addr) (H0:Hp):Prop where
 len:ds.length<=sizeLine
 go:∀ J H i,Ex J0 H0 J H->i<ds.length->Jt.go i H
 Nz:∀ J H (i:Nat) x H',Ex J0 H0 J H->(∀ a∈J,H a≠none)->i<ds.length->Jt.Nz i H x H'->∃ d,ds[i]?=some d/\At X.K H' J d x/\I0 H H'
 stop:∀ J H i,Ex J0 H0 J H->ds.length<=i->Jt.stop i H
def iW (X:Cx)(W:WT)(fi:IE (List D)):TI:=λg H R => ∃ J e S r d,Cf X J e S g H/\fi e S=some (r,d)/\match r with
 | .ok h => ∀ b a f,Ex J H b a->Jg X.K b d a->Walk X f h b a->R f a
 | .error c => ∀ b a,Ex J H b a->Jg X.K b d a->W c b d a
def SI (X:Cx)(W:WT)(a iter:Expr)(fi:IE (List D)):Prop:=PI X a iter (iW X W fi)
theorem PI.imp {c iter:Expr}{t t':TI}(h:PI X c iter t)(i:∀ b H R,t' b H R->t b H R):PI X c iter t':=λa s b H R I z=>h a s b H R I (i _ _ _ z)
def fO (u:D->IM->Option IM)(body:IE Fl):List D->IE Fl
 |[],ρ,S=>IX (.next ρ) S
 |d::ds,ρ,S=>match u d ρ with
  |none=>none
  |some c=>ai (body c S) λe b=>match e with
   | .next a=>fO u body ds a b
   | .cont a=>fO u body ds a b
   | .brk a=>IX (.next a) b
   | .ret d=>IX (.ret d) b
def iU (fi:IE (List D))(u:D->IM->Option IM)(body:IE Fl):IE Fl:=λa S=>ai (fi a S) λb c=>fO u body b a c
theorem eT {P iter:Expr}{body:List Stmt}{fi:IE (List D)}{u:D->IM->Option IM}(hp:PassesOwn (model X.prog X.w) X.A X.env X.xe)(hc:X.calm=true)(B:SI X W P iter fi)(hg:SG X P u)(hb:NV X W body f)
  (hs:∀ x,foldedSetIterable iter X.env x=pure x:=by intro _;rfl):SS X W (.For P iter body [] pos) (iU fi u f):=(Et hp hc B hg hb hs).imp λE Z H h=>by
 obtain⟨J,N,S,r,v,c,e,z⟩:=h;unfold iU at e;cases q:fi N S with
 |none=>simp[q] at e
 |some o =>
  obtain⟨T,S1⟩:=o;simp only[q] at e;cases T with
  |error x =>
   cases e;exact⟨J,N,S,.error x,_,c,q,z⟩
  |ok p =>
   refine⟨J,N,S,.ok p,S1,c,q,λU H0 Jt x0 s0 w=>?_⟩
   refine⟨λi m Z H=>m=p.length-i/\∃ a k l,Ex U H0 a H/\Cf X a k l Z H/\∃ r v,fO u f (p.drop i) k l=some (r,v)/\MW X W a H r v E,
    ⟨_,rfl,U,N,S1,Ex.refl,c.re x0 s0,r,v,by simpa using e,z.ex x0⟩,λi m Y C hw=>?_⟩
   obtain⟨hm,a,k,l,ex,L,r1,W6,j,ez⟩:=hw;by_cases B:i<p.length
   ·refine .inr ⟨w.go a C i ex B,λn s => ∃ R F Sy,Ex U H0 R s/\Cf X R F Sy n s/\∃ r v,fO u f (p.drop (i+1)) F Sy=some (r,v)/\MW X W R s r v E,
     λn s hn=>⟨p.length-(i+1),by omega,rfl,hn⟩,λx s y=>?_⟩
    obtain⟨d,ed,ad,sm⟩:=w.Nz a C i x s ex L.Jr.all B y;have hd:p.drop i=d::p.drop (i+1):=by rw[drop_eq_getElem_cons B];rw[List.getElem?_eq_getElem B] at ed;cases ed;rfl
    rw[hd] at j;unfold fO at j;cases hu:u d k with
    |none=>simp[hu] at j
    |some b =>
     simp only[hu] at j;have M:Ex a C a s:=Ex.same sm;refine⟨a,k,l,d,b,L.re M (L.Jr.same sm),ad,hu,λσ2 I=>?_⟩;cases t:f b l with
     |none=>simp[t] at j
     |some o =>
      obtain⟨T,O⟩:=o;simp only[t] at j;have K:=ez.ex M;cases T with
      |error x =>
       cases j;exact⟨a,b,l,.error x,_,I,t,K⟩
      |ok fl =>
       cases fl with
       |next g=>exact⟨a,b,l,.ok (.next g),O,I,t,λQ n H2 G V=>⟨Q,g,O,ex.trans (M.trans G),V,r1,W6,j,K.ex G⟩⟩
       |cont g=>exact⟨a,b,l,.ok (.cont g),O,I,t,λQ n H2 G V=>⟨Q,g,O,ex.trans (M.trans G),V,r1,W6,j,K.ex G⟩⟩
       |brk g=>cases j;exact⟨a,b,l,.ok (.brk g),_,I,t,K⟩
       |ret dd=>cases j;exact⟨a,b,l,.ok (.ret dd),_,I,t,K⟩
   refine .inl ⟨w.stop a C i ex (by omega),?_⟩;rw[drop_eq_nil_of_le (by omega)] at j;unfold fO at j;cases j;exact ez a Y C Ex.refl L
def wC (f:IE D):IE (List D):=λb S=>ai (f b S) λd c=>aJ (match d with | .tup a=>some a |_=>none) c
def BF (f:IE D):IE (List D):=λb S=>ai (f b S) λd c=>aJ (match d with | .lst a=>some a |_=>none) c
theorem Walk.list {a:Addr}{ds:List D}{xs:List V}{J:List Addr}{H:Hp}(t:LQ X.K H J a xs)(m:IT X.K H J ds xs):Walk X (U9 X.K a) ds J H where
 len:=by rw[m.length];exact t.len
 go:=λf c i x b=>by
  have m1:=m.ex x;obtain⟨v,g,_⟩:=m1.get (List.getElem?_eq_getElem b);exact⟨xs,v,(t.ex x).sq,g⟩
 Nz:=λf c i v j x k b y=>by
  obtain⟨rfl,h⟩:=y;obtain⟨d,e,a⟩:=(m.ex x).get' (h xs (t.ex x).sq);exact⟨d,e,a,I0.refl _⟩
 stop:=λf c i x b=>⟨xs,(t.ex x).sq,by rw[← m.length];exact b⟩
theorem Walk.tup {a:Addr}{ds:List D}{xs:List V}{J:List Addr}{H:Hp}(t:TQ X.K H J a xs)(m:IT X.K H J ds xs):Walk X (U_ X.K a) ds J H where
 len:=by rw[m.length];exact t.len
 go:=λf c i x b=>by
  have m1:=m.ex x;obtain⟨v,g,_⟩:=m1.get (List.getElem?_eq_getElem b);exact⟨xs,v,(t.ex x).sq,g⟩
 Nz:=λf c i v j x k b y=>by
  obtain⟨rfl,h⟩:=y;obtain⟨d,e,a⟩:=(m.ex x).get' (h xs (t.ex x).sq);exact⟨d,e,a,I0.refl _⟩
 stop:=λf c i x b=>⟨xs,(t.ex x).sq,by rw[← m.length];exact b⟩
theorem rG {k:D->Option (List D)}{i:St}{H:Hp}{R:It->Hp->Prop}(h:iW X W (λρ S=>ai (fe ρ S) λd f=>aJ (k d) f) i H R) :
  tE X W fe i H λv a => ∃ J S d ds,Jg X.K J S a/\At X.K a J d v/\k d=some ds/\∀ H' b,I0 a H'->Walk X b ds J H'->R b H':=by
 obtain⟨J,ρ,S,r,p,c,e,z⟩:=h;cases q:fe ρ S with
 |none=>simp[q] at e
 |some o =>
  obtain⟨n,f⟩:=o;simp only[q] at e;cases n with
  |error x =>
   cases e;exact⟨J,ρ,S,.error x,_,c,.nil,q,z⟩
  |ok d =>
   refine⟨J,ρ,S,.ok d,f,c,.nil,q,λl a v x g m=>?_⟩;cases hk:k d with
   |none=>simp[hk] at e
   |some ds =>
    simp only[hk,fC,bA,IX] at e;cases e;exact⟨l,_,d,ds,g,m,hk,λH' b j w=>z l H' b (x.trans (Ex.same j)) (g.same j) w⟩
theorem D6 {g:Expr}(c:SE X W e fe):SI X W g e (wC fe):=(Ey c).imp λo H R h=>(rG h).mono λv i j=>by
 obtain⟨J,S,d,n,s,m,b,z⟩:=j
 cases d with
 |tup l =>
  cases b;obtain⟨a,k,rfl,t,f⟩:=At.Jb.mp m;exact⟨a,rfl,⟨k,t.sq⟩,z i _ (I0.refl _) (Walk.tup t f)⟩
 |_=>cases b
theorem D8 {g:Expr}(c:SE X W e fe):SI X W g e (BF fe):=(CB c).imp λo H R h=>(rG h).mono λv i j=>by
 obtain⟨J,S,d,n,s,m,b,z⟩:=j
 cases d with
 |lst l =>
  cases b;obtain⟨a,k,rfl,t,f⟩:=At.Jc.mp m;exact⟨a,rfl,⟨k,t.sq⟩,z i _ (I0.refl _) (Walk.list t f)⟩
 |_=>cases b
def di:List D->Option (List D)
 |[.int j]=>if -(2 ^ 62)<=j/\j<=16777216 then some ((List.range j.toNat).map λ(k:Nat)=>D.int k) else none
 |_=>none
def f7 (k:List D->Option (List D))(t:IE (List D)):IE (List D):=λa S=>ai (t a S) λb c=>aJ (k b) c
theorem Walk.range {J:List Addr}{H:Hp}(lo:Int)(n:Nat)(hz:n<=sizeLine):Walk X (Ut lo n) ((List.range n).map λ(k:Nat)=>D.int (lo+k)) J H where
 len:=by rw[length_map,length_range];exact hz
 go:=λc b i x a=>by rw[length_map,length_range] at a;exact a
 Nz:=λc b i v e x d a y=>by
  obtain⟨rfl,rfl⟩:=y;rw[length_map,length_range] at a;exact⟨.int (lo+i),by rw[getElem?_map,getElem?_range a];rfl,At.IP.mpr rfl,I0.refl _⟩
 stop:=λc b i x a=>by rw[length_map,length_range] at a;exact a
theorem iB {k:List D->Option (List D)}{t:IE (List D)}{i:St}{H:Hp}{R:It->Hp->Prop}(h:iW X W (λρ S=>ai (t ρ S) λd f=>aJ (k d) f) i H R) :
  tA X W t i H λvs a => ∃ J S es ds,Jg X.K J S a/\IT X.K a J es vs/\k es=some ds/\∀ H' b,I0 a H'->Walk X b ds J H'->R b H':=by
 obtain⟨J,ρ,S,r,p,c,e,z⟩:=h;cases q:t ρ S with
 |none=>simp[q] at e
 |some o =>
  obtain⟨n,f⟩:=o;simp only[q] at e;cases n with
  |error x =>
   cases e;exact⟨J,ρ,S,.error x,_,c,.nil,q,z⟩
  |ok es =>
   refine⟨J,ρ,S,.ok es,f,c,.nil,q,λl a v x g m=>?_⟩;cases hk:k es with
   |none=>simp[hk] at e
   |some ds =>
    simp only[hk,fC,bA,IX] at e;cases e;exact⟨l,_,es,ds,g,m,hk,λH' b j w=>z l H' b (x.trans (Ex.same j)) (g.same j) w⟩
theorem du {i a:Expr}{t:IE (List D)}{x:Str}{p:Pos}(f:x="range")(l:X.mg x=none)(q:SA X W [a] t)(g:Gl X x:=by rfl)(o:starEach [a] X.env=[(false,eval a X.env)]:=by rfl):SI X W i (.Call (.Name x p) [a] [] pos) (f7 di t):=by
 subst f;refine PI.imp (yC g l q o) λy H R h=>(iB h).mono λA d k=>?_;obtain⟨J,S,es,u,s,m,b,z⟩:=k;unfold di at b;split at b
 ·rename_i j;split at b
  ·rename_i c;cases b;obtain⟨v,r,rfl,e,n⟩:=IT.IQ.mp m;cases IT.IV.mp n;cases At.IP.mp e;refine⟨j,rfl,c.1,by omega,z d _ (I0.refl _) ?_⟩;have w:=Walk.range (X:=X) (J:=J) (H:=d) 0 j.toNat (by show j.toNat<=16777216;omega);simpa using w
  cases b
 cases b
end
structure JP (scope:Scope) (env:Env):Prop where
 kind:scope.kind = .function
 nd:(scope.names.map (·.1)).Nodup
 names:∀ y∈scope.names,y.2 = .local->scope.names.lookup y.1=some .local
 frees:∀ y∈scope.names,y.2 = .free->env.kindOf y.1=some .cell∨env.kindOf y.1=some .free
theorem dY {env:Env}:∀ (names:List (Str×NameKind)) (a:List (Str×Addr)),(∀ y∈names,y.2 = .free->∃ c,env.cells.lookup y.1=some c)->(∀ x c,a.lookup x=some c->env.cells.lookup x=some c) ->
  ∃ d:List (Str×Addr),(forIn names a λ(x:Str×NameKind) r=>(do
    let (name,kind):=x
    if kind==.free then pure (ForInStep.yield ((name,← cellOf env name)::r)) else pure (ForInStep.yield r):Sem (ForInStep (List (Str×Addr)))))=pure d /\
   (∀ x c,d.lookup x=some c->env.cells.lookup x=some c)/\(∀ x c,a.lookup x=some c->∃ b,d.lookup x=some b)/\(∀ y∈names,y.2 = .free->∃ c,d.lookup y.1=some c)
 |[],a,_,ha=>⟨a,by simp,ha,λx c h=>⟨c,h⟩,by simp⟩
 |(n,k)::r,a,hc,ha=>by
  by_cases j:k = .free
  ·subst j;obtain⟨c,o⟩:=hc (n,.free) (mem_cons_self ..) rfl
   have q:∀ x b,((n,c)::a).lookup x=some b->env.cells.lookup x=some b:=λx b h=>by
    rw[lookup_cons] at h;cases f:x==n with
    |true =>
     rw[f] at h;cases h;have:x=n:=eq_of_beq f;rw[this];exact o
    |false=>rw[f] at h;exact ha x b h
   obtain⟨d,e,l,g,m⟩:=dY r ((n,c)::a) (λy hy=>hc y (mem_cons_of_mem _ hy)) q;have p:cellOf env n=pure c:=by unfold cellOf;rw[o]
   refine⟨d,?_,l,λx b h=>?_,λy hy i=>?_⟩
   ·rw[forIn_cons];simp only[beq_self_eq_true,if_true,p,pure_bind];exact e
   ·by_cases f:(x==n)=true
    ·exact g x c (by rw[lookup_cons,f])
    exact g x b (by rw[lookup_cons,Bool.eq_false_iff.mpr f];exact h)
   rcases mem_cons.mp hy with rfl |hy
   ·exact g n c (by rw[lookup_cons,beq_self_eq_true])
   exact m y hy i
  obtain⟨d,e,l,g,m⟩:=dY r a (λy hy=>hc y (mem_cons_of_mem _ hy)) ha;refine⟨d,?_,l,g,λy hy i=>?_⟩
  ·rw[forIn_cons];have:(k==NameKind.free)=false:=by simpa using j
   simp only[this,false_eq_true,if_false,pure_bind];exact e
  rcases mem_cons.mp hy with rfl |hy
  ·exact absurd i j
  exact m y hy i
def lG (X:Cx)(scope:Scope)(d:List (Str×Addr))(a:List Str)(C:Addr)(c:Shared)(b:Hp)(fp:List Addr):Cx:=
 { X with N:=a,s₀:=c,H₀:=b,env:=compEnvC scope d C X.env,outer:=X.stack,ex:=fp,fn:=λx=>scope.names.lookup x==some .cell,pn:=[],xe:=λ_ _=>False }
theorem eX {env:Env}{x:Str}:∀ {names:List (Str×NameKind)}{k:NameKind},(names.map λ(n,k)=>if (k==NameKind.free&&env.scope.kind==.function&&env.kindOf n==some .cell) then (n,NameKind.cell) else (n,k)).lookup x=some k ->
  (k = .cell∨k = .free)->(x,NameKind.free)∈names∨(x,NameKind.cell)∈names
 |[],_,h,_=>by simp at h
 |(n,k0)::r,k,h,a=>by
  have b:∀ {k'},(r.map λ(n,k)=>if (k==NameKind.free&&env.scope.kind==.function&&env.kindOf n==some .cell) then (n,NameKind.cell) else (n,k)).lookup x=some k'->(k' = .cell∨k' = .free)->(x,NameKind.free)∈(n,k0)::r∨(x,NameKind.cell)∈(n,k0)::r:=λh a=>(eX h a).imp (mem_cons_of_mem _) (mem_cons_of_mem _);rw[map_cons] at h;by_cases hc:(k0==NameKind.free&&env.scope.kind==.function&&env.kindOf n==some .cell)=true
  ·simp only[hc,if_true,lookup_cons] at h;cases hx:x==n with
   |true =>
    have e:x=n:=eq_of_beq hx;subst e;have:k0 = .free:=by simp at hc;exact hc.1.1
    subst this;exact .inl (mem_cons_self ..)
   |false=>rw[hx] at h;exact b h a
  simp only[hc,if_false,lookup_cons,false_eq_true] at h;cases hx:x==n with
  |true =>
   rw[hx] at h;have e:x=n:=eq_of_beq hx;subst e;cases h;rcases a with rfl |rfl
   ·exact .inr (mem_cons_self ..)
   exact .inl (mem_cons_self ..)
  |false=>rw[hx] at h;exact b h a
def aY {α:Type}(ts:Nat)(ix:List Nat)(a:List (Option α)):List (Option α):=replicate ts none++ix.map λi=>(a[i]?).getD none
def fA (ts:List Str)(ix:List Nat)(N:List Str):List Str:=ts++ix.map λi=>N.getD i Str.empty
theorem d9 {env:Env}{x:Str}:∀ {names:List (Str×NameKind)},names.lookup x=some .free ->
  (names.map λ(n,k)=>if (k==NameKind.free&&env.scope.kind==.function&&env.kindOf n==some .cell) then (n,NameKind.cell) else (n,k)).lookup x=some .cell ∨
  (names.map λ(n,k)=>if (k==NameKind.free&&env.scope.kind==.function&&env.kindOf n==some .cell) then (n,NameKind.cell) else (n,k)).lookup x=some .free
 |[],h=>by simp at h
 |(n,k0)::r,h=>by
  rw[map_cons];rw[lookup_cons] at h;by_cases hc:(k0==NameKind.free&&env.scope.kind==.function&&env.kindOf n==some .cell)=true
  ·simp only[hc,if_true,lookup_cons];cases hx:x==n with
   |true=>exact .inl rfl
   |false=>rw[hx] at h;exact d9 h
  simp only[hc,if_false,lookup_cons,false_eq_true];cases hx:x==n with
  |true=>rw[hx] at h;exact .inr h
  |false=>rw[hx] at h;exact d9 h
theorem lookup_mem {x:Str}{k:NameKind}:∀ {names:List (Str×NameKind)},names.lookup x=some k->(x,k)∈names
 |[],h=>by simp at h
 |(n,k0)::r,h=>by
  rw[lookup_cons] at h;cases hx:x==n with
  |true=>rw[hx] at h;cases h;rw[eq_of_beq hx];exact mem_cons_self ..
  |false=>rw[hx] at h;exact mem_cons_of_mem _ (lookup_mem h)
theorem bu:∀ (names:List (Str×NameKind)) (n:Nat) (a:List (Str×Addr)),cellsFrom n names a=cellsFrom n names []++a
 |[],_,_=>rfl
 |(x,k)::r,n,a=>by
  unfold cellsFrom;split
  ·rw[bu r _ ((x,n)::a),bu r _ [(x,n)],List.append_assoc];rfl
  exact bu r n a
theorem gN {x:Str}{c:Addr}:∀ {names:List (Str×NameKind)}{n:Nat},(x,c)∈cellsFrom n names []->(x,NameKind.cell)∈names
 |[],_,h=>by cases h
 |(y,k)::r,n,h=>by
  unfold cellsFrom at h;split at h
  ·rename_i a;rw[bu] at h;rcases mem_append.mp h with h |h
   ·exact mem_cons_of_mem _ (gN h)
   have:=mem_singleton.mp h;cases this;rw[eq_of_beq a];exact mem_cons_self ..
  exact mem_cons_of_mem _ (gN h)
theorem dL {x:Str}:∀ {names:List (Str×NameKind)}{n:Nat},(x,NameKind.cell)∈names->∃ c,(cellsFrom n names []).lookup x=some c
 |(y,k)::r,n,h=>by
  unfold cellsFrom;rcases mem_cons.mp h with e |h
  ·cases e;rw[if_pos (by rfl),bu,lookup_append];cases q:(cellsFrom (n+1) r []).lookup x with
   |some c=>exact⟨c,rfl⟩
   |none=>exact⟨n,by simp⟩
  split
  ·obtain⟨c,e⟩:=dL (n:=n+1) h;rw[bu,lookup_append,e];exact⟨c,rfl⟩
  exact dL h
theorem n6 {x:Str}{k a:NameKind}:∀ {names:List (Str×NameKind)},(names.map (·.1)).Nodup->(x,k)∈names->(x,a)∈names->k=a
 |(y,k0)::r,nd,h,h'=>by
  obtain⟨n1,n2⟩:=nodup_cons.mp nd;rcases mem_cons.mp h with e |p<;>rcases mem_cons.mp h' with b |q
  ·cases e;cases b;rfl
  ·cases e;exact absurd (mem_map.mpr ⟨_,q,rfl⟩) n1
  ·cases b;exact absurd (mem_map.mpr ⟨_,p,rfl⟩) n1
  exact n6 n2 p q
structure LO (X:Cx) (scope:Scope) (cl:List (Str×Addr)) (s3:Shared) (h4:Heap):Prop where
 out:∀ x c,cl.lookup x=some c->X.env.cells.lookup x=some c∨(s3.heap.objs.size<c/\h4.IsCell c none)
 inj:∀ x y c,cl.lookup x=some c->cl.lookup y=some c->x=y
 has:∀ x,(x,NameKind.free)∈scope.names∨(x,NameKind.cell)∈scope.names->∃ c,cl.lookup x=some c
 frees:∀ x c,scope.names.lookup x=some .free->cl.lookup x=some c->X.env.cells.lookup x=some c
 own:∀ x c,scope.names.lookup x=some .cell->cl.lookup x=some c->s3.heap.objs.size<c
theorem LO.of {X:Cx}{j:II}{s:St}{m:Hp}{scope:Scope}{i:List (Str×Addr)}{b:Shared}{o:Obj}(I:Inv X j s m b)(S:JP scope X.env)(f:∀ x c,i.lookup x=some c->X.env.cells.lookup x=some c)(p:∀ y∈scope.names,y.2 = .free->∃ c,i.lookup y.1=some c) :
  LO X scope (cellsFrom (b.heap.objs.size+1) scope.names i) b (pushCells (b.heap.push o) scope.names):=by
 have ok:=cellsFrom_ok scope.names (b.heap.push o) (b.heap.objs.size+1) [] ⟨λ_ _ t=>(nomatch t),List.Pairwise.nil⟩ (by rw[Heap.size_push];exact le_refl _);rw[Heap.size_push] at ok
 have g:∀ x c,(cellsFrom (b.heap.objs.size+1) scope.names i).lookup x=some c->((cellsFrom (b.heap.objs.size+1) scope.names []).lookup x=some c)∨((cellsFrom (b.heap.objs.size+1) scope.names []).lookup x=none/\i.lookup x=some c):=λx c h=>by
  rw[bu,lookup_append] at h;cases q:(cellsFrom (b.heap.objs.size+1) scope.names []).lookup x with
  |some d=>rw[q] at h;exact .inl h
  |none=>rw[q] at h;exact .inr ⟨rfl,h⟩
 have old:∀ x c,X.env.cells.lookup x=some c->c<b.heap.objs.size:=λx c h=>let ⟨v,q⟩:=I.cell x c h;q.lt;refine⟨λx c h=>?_,λx y c hx l=>?_,λx hx=>?_,λx c k h=>?_,λx c k h=>?_⟩
 ·rcases g x c h with q |⟨_,q⟩
  ·have:=ok.empty x c (mem_of_lookup q);exact .inr ⟨this.2,this.1⟩
  exact .inl (f x c q)
 ·rcases g x c hx with q |⟨_,q⟩<;>rcases g y c l with r |⟨_,r⟩
  ·exact name_of_addr ok.apart (mem_of_lookup q) (mem_of_lookup r)
  ·have a:=(ok.empty x c (mem_of_lookup q)).2;exact absurd (lt_of_lt_of_le (lt_succ_of_lt (old y c (f y c r))) a) (Nat.lt_irrefl _)
  ·have a:=(ok.empty y c (mem_of_lookup r)).2;exact absurd (lt_of_lt_of_le (lt_succ_of_lt (old x c (f x c q))) a) (Nat.lt_irrefl _)
  exact I.ok.inj x y c (f x c q) (f y c r)
 ·rw[bu,lookup_append];cases q:(cellsFrom (b.heap.objs.size+1) scope.names []).lookup x with
  |some d=>exact⟨d,rfl⟩
  |none =>
   rcases hx with hx |hx
   ·exact p _ hx rfl
   obtain⟨c,e⟩:=dL (n:=b.heap.objs.size+1) hx;rw[q] at e;cases e
 ·rcases g x c h with q |⟨_,q⟩
  ·have:=n6 S.nd (lookup_mem k) (gN (mem_of_lookup q));cases this
  exact f x c q
 rcases g x c h with q |⟨q,_⟩
 ·exact(ok.empty x c (mem_of_lookup q)).2
 obtain⟨d,e⟩:=dL (n:=b.heap.objs.size+1) (lookup_mem k);rw[q] at e;cases e
theorem oX {M:Model}{A:Around}{E:IG}{s:Shared}{scope:Scope}{globals:Addr}{a:List (Str×Addr)}{qual:Str}{env:Env}{Q:Env->Shared->Prop}
  (b:Q (newEnv scope s.heap.objs.size globals (cellsFrom (s.heap.objs.size+1) scope.names a) qual none .none (some env) builtinsNs) { s with heap:=pushCells (s.heap.push { cls:=.type "dict",data:=.dict #[] }) scope.names }) :
  wpAny M A (newFunctionEnv scope globals a [] qual none .none (some env)) Q E s:=by
 simp only[newFunctionEnv,Option.isSome_some,if_true];refine wpAny_bind (wpAny_alloc ?_);refine wpAny_bind (wpAny_layCells _ (λname kind cells=>by cases YQ:kind==NameKind.cell<;>simp[YQ]) _ _ _ _ ?_);rw[show ({ s with heap:=s.heap.push { cls:=.type "dict",data:=.dict #[] } }:Shared).heap.objs.size=s.heap.objs.size+1 from Heap.size_push ..];rw[forIn_nil];exact wpAny_bind (wpAny_pure (wpAny_pure b))
section
variable {X:Cx}{pins:II}{σ:St}{H:Hp}{s:Shared}
theorem Inv.enter {scope:Scope}{L:List (Str×Addr)}{ts:List Str}{ix:List Nat}{fp:List Addr}{j:Shared}{C:Heap}{B:Hp}{m:IJ}{tk:Nat}(I:Inv X pins σ B j)(S:JP scope X.env)(s:LO X scope L j C)
  (Z:∀ t∈ix,scope.names.lookup (X.N.getD t Str.empty)=some .free)
  (f:∀ b∈fp,f8 X pins B b) (P:∀ b∈fp,∃ o,j.heap.get? b=some o) (k:∀ b o,j.heap.get? b=some o->C.get? b=some o) (hn:C.Ns j.heap.objs.size m) :
  Inv (lG X scope L (fA ts ix X.N) j.heap.objs.size j B fp) [] (aY ts.length ix σ) B { j with heap:=C,toks:=tk }:=by
 have own:∀ b o,j.heap.get? b=some o->∀ c,j.heap.objs.size<c->c≠b:=λb o e c h z=>Nat.lt_irrefl _ (Nat.lt_trans h (z▸Heap.lt_size e))
 refine⟨⟨I.ok.mod,S.kind,I.ok.glob,I.ok.blt,le_refl _,s.inj,λx Q=>?_,(λx c a e=>Nat.le_of_lt (s.own x c (eq_of_beq a) e)),I.ok.hd,I.ok.frames,.inl rfl,λb hb=>⟨?_,λx c e=>?_⟩,I.bs,Nat.le_trans I.ok.Pj I.sz,λb o e hb=>?_,λb hb z=>?_,I.stack,I.MR⟩,
  rfl,I.bare,Un.kept k,⟨m,hn,λi x v R e2 e3=>?_⟩,λx c e=>?_,I.fresh,λx c e=>?_,λp W=>absurd (show p∈([]:II) from W) (by simp),I.Jk.kept k,?_⟩
 ·rcases Q with z |z
  ·exact s.has x (eX z (.inl rfl))
  exact s.has x (eX z (.inr rfl))
 ·obtain⟨o,y⟩:=P b hb;exact ne_of_lt (Heap.lt_size y)
 ·rcases s.out x c e with q |q
  ·exact(f b hb).2.2.2.2.1 x c q
  obtain⟨o,y⟩:=P b hb;exact own b o y c q.1
 ·obtain⟨T,_,_,H,_⟩:=f b hb;rcases H with z |z
  ·exact I.ok.OQ b o e z
  exact absurd (lt_of_lt_of_le (Heap.lt_size e) (Nat.le_trans I.ok.Pj z)) (Nat.lt_irrefl _)
 ·obtain⟨T,U,f2,H,_⟩:=f b hb;rcases mem_cons.mp (I.MQ b z) with e |e
  ·exact U e
  exact f2 e
 ·-- a captured name
  have d:(aY ts.length ix σ)[i]?=some (some v):=e2;have n:(fA ts ix X.N)[i]?=some x:=R;unfold aY at d;unfold fA at n;by_cases D:i<ts.length
  ·rw[getElem?_append_left (by simpa using D),getElem?_replicate] at d;rw[if_pos D] at d;cases d
  rw[getElem?_append_right (by simpa using D)] at d;rw[getElem?_append_right (by simpa using D)] at n;rw[length_replicate] at d;rw[getElem?_map] at d n;cases et:ix[i-ts.length]? with
  |none=>rw[et] at d;cases d
  |some t =>
   rw[et] at d n;simp only[map_some,Option.some.injEq] at d n
   have O : σ[t]?=some (some v):=by
    cases q : σ[t]? with
    |none=>rw[q] at d;cases d
    |some w=>rw[q] at d;simp only[getD_some] at d;rw[d]
   have G:t<X.N.length:=by rw[← I.len];exact(List.getElem?_eq_some_iff.mp O).1
   have Y:X.N[t]?=some x:=by rw[getD_eq_getElem?_getD,List.getElem?_eq_getElem G] at n;rw[List.getElem?_eq_getElem G];simp only[getD_some] at n;rw[n]
   have E:scope.names.lookup x=some .free:=by have:=Z t (mem_of_getElem? et);rwa [n] at this
   have M:=lookup_mem E;have g:=S.frees _ M rfl;obtain⟨m0,_,hl⟩:=I.loc
   obtain⟨u,r,l⟩:=hl t x v Y O (by
    rcases g with z |z
    ·exact .inr (.inl z)
    exact .inr (.inr z))
   refine⟨u,r,.inr ⟨d9 E,?_⟩⟩;obtain⟨c,F⟩:=s.has x (.inl M);have RP:=s.frees x c E F;rcases l with ⟨V,_⟩ |⟨_,c',K,cell⟩
   ·have J:X.env.kindOf x=some .local:=V;rcases g with z |z
    ·have A:X.env.kindOf x=some .cell:=z;rw[J] at A;cases A
    have A:X.env.kindOf x=some .free:=z;rw[J] at A;cases A
   rw[RP] at K;cases K;exact⟨c,F,cell.keeps k⟩
 ·rcases s.out x c e with q |q
  ·obtain⟨v,o,y,hd⟩:=I.cell x c q;exact⟨v,o,k c o y,hd⟩
  exact⟨_,q.2⟩
 ·rcases s.out x c e with q |q
  ·exact I.Kx x c q
  exact I.Jk.fresh (Nat.le_of_lt q.1)
 show (aY ts.length ix σ).length=(fA ts ix X.N).length;unfold aY fA;simp
theorem Inv.leave {scope:Scope}{x:List (Str×Addr)}{p:List Str}{m:St}{fp:List Addr}{g s':Shared}{h':Heap}{i H':Hp}{r:II}(I:Inv X pins σ i g)(f:∀ b∈fp,f8 X pins i b)
  (j:Inv (lG X scope x p g.heap.objs.size g i fp) r m H' s') (k:∀ b,b≠g.heap.objs.size->h'.get? b=s'.heap.get? b):Inv X pins σ H' { s' with heap:=h' }:=by
 have un:Un (N8 X.stack) fp i H' g.heap s'.heap:=j.base;have l:∀ b o,g.heap.get? b=some o->b≠g.heap.objs.size:=λb o e=>ne_of_lt (Heap.lt_size e)
 have y:Un (N8 X.stack) fp i H' g.heap h':=by
  refine⟨λb o e n hb h=>?_,λb o e n hb h=>?_,un.free,λb o e h=>?_,un.MP,un.Mq,un.Mr⟩
  ·rw[k b (l b o e)];exact un.keep b o e n hb h
  ·rw[k b (l b o e)];exact un.slot b o e n hb h
  rw[k b (l b o e)];exact un.there b o e h
 have Jk:K7 X.prog X.w H' h':=λb u e=>by
  have s:H' g.heap.objs.size=none:=j.free;have ne:∀ c v,H' c=some v->c≠g.heap.objs.size:=λc v q z=>by rw[z,s] at q;cases q
  refine(j.Jk b u e).K8 (λc v hc q=>?_) (λ_ q=>q) λ_ _ q=>q;rw[k c]
  ·exact q
  rcases hc with z |z
  ·rw[z];exact ne b u e
  exact ne c _ z
 have os:s'.os=g.os:=j.os;exact I.Si (s':={ s' with heap:=h' }) os y Jk j.bare λb hb=>let ⟨_,a,_,t,c,d⟩:=f b hb;⟨t,a,c,d⟩
end
section
variable {prog:Program}{w:World}{A:Around}{R:Result->Shared->Prop}{s:Shared}
theorem rV {elt target iter:Expr}{ifs:List Expr}{scope:Scope}{pos:Pos}{it l:Value}{env:Env}(I:Nat->Shared->Prop)
  (o:∀ n s,I n s->wpAny (model prog w) A (pyNext it) (λr b=>match r with
   |none=>R (.ok .next) b
   |some v=>wpAny (model prog w) A (letOwnedTupleGo target it v) (λ_ z=>wpAny (model prog w) A (assign target env v) (λ_ e =>
     wpAny (model prog w) A (forIn ifs true λc r=>if r=true then do let ok ← isTrue c env (eval c env);pure (ForInStep.yield ok) else pure (ForInStep.yield r)) (λok a =>
      if ok=true then wpAny (model prog w) A (eval elt env) (λx i =>
       wpAny (model prog w) A (call (.builtin "list.append") [l,x]) (λ_ j => ∃ m,m<n/\I m j) (λ_ _=>False) i) (λ_ _=>False) a
      else ∃ m,m<n/\I m a) (λ_ _=>False) e) (λ_ _=>False) z) (λ_ _=>False) b) (λ_ _=>False) s)
  (n:Nat) (h:I n s):codeAny (model prog w) A (.compLoop (.ListComp elt [⟨target,iter,ifs,0⟩] scope pos) 0 it l env) R s:=by
 have no:∀ {α:Type}{t:Sem α}{Q : α->Shared->Prop}{E:IG}{s:Shared},wpAny (model prog w) A t Q (λ_ _=>False) s->wpAny (model prog w) A t Q E s:=λh=>wpAny_mono h (λ_ _ q=>q) λ_ _ f=>f.elim;refine codeAny_loop rfl I (λn s C=>?_) n h;show wpAny _ A ((compTurn (.ListComp elt [⟨target,iter,ifs,0⟩] scope pos) 0 it l env).onRaise (λx=>do noteFrame x env;theTreesLotGoes x)) _ _ s;refine wpAny_noted ?_;rw[compTurn_list];refine wpAny_bind (wpAny_standAt (wpAny_bind (wpAny_mono (no (o n s C)) (λr b k=>?_) λ_ _ d=>d)));cases r with
 |none=>exact wpAny_pure k
 |some v =>
  refine wpAny_bind (wpAny_mono (no k) (λ_ z B=>?_) λ_ _ d=>d);refine wpAny_bind (wpAny_mono (no B) (λ_ e u=>wpAny_bind (wpAny_mono (no u) (λok a g=>?_) λ_ _ d=>d)) λ_ _ d=>d);cases ok with
  |false=>exact wpAny_pure ⟨rfl,g⟩
  |true =>
   exact wpAny_bind (wpAny_bind (wpAny_mono (no g) (λx i p=>wpAny_bind (wpAny_mono (no p) (λ_ j y=>wpAny_pure (wpAny_pure ⟨rfl,y⟩)) λ_ _ d=>d)) λ_ _ d=>d))
end
section
variable {X:Cx}{pins:II}{σ:St}{H:Hp}{s:Shared}{D₀:Addr}
theorem Inv.adopt {ys:List V}{its:List Value}{n:Nat}(I:Inv X pins σ H s)(f:f8 X pins H D₀)(e:s.heap.get? D₀=some { cls:=.type "list",data:=.seq its.toArray n })(r:Vals ys its)(hz:ys.length<=sizeLine):Inv X pins σ (upd H D₀ (.lst ys)) s:=by
 obtain⟨l,d,p,g,k,h⟩:=f;have ne:∀ b o,H b=some o->b≠D₀:=λb o q=>aK q l
 have q:=I.step (h':=s.heap) (H':=upd H D₀ (.lst ys)) (g':=s.gens) (d':=s.drawn) (t':=s.toks) (ch:=[D₀]) (λb hb=>by
   have:b=D₀:=by simpa using hb
   subst this
   exact⟨g,d,k,h⟩)
  (λb o _ _ _ e _=>e) (λb o _ _ _ e _=>⟨o.slots,e⟩) (λb o hb _ i=>by rw[aA (λz=>hb (by simp[z]))];exact i) (λb o _ e=>⟨o,e⟩)
  (λb a q=>by rw[aA (ne b _ q)];exact q) (λb o a q=>by rw[aA (ne b _ q)];exact q) (λb m q=>⟨#[],by rw[aA (ne b _ q),q];simp⟩) (λ_ j=>j) (λb u q=>?_) I.bare
 ·exact q
 by_cases hb:b=D₀
 ·subst hb;rw[IY] at q;cases q;exact⟨hz,its,n,r,e⟩
 rw[aA hb] at q;exact(I.Jk b u q).K8 (λc v _ z=>z) (λc z=>by rw[aA (ne c _ z)];exact z) λc a z=>by rw[aA (ne c _ z)];exact z
end
def SV (X:Cx)(W:WT)(ifs:List Expr)(g:IE Bool):Prop:=
 ∀ (a:II) (s:Shared) (b:St) (H:Hp) (Q:Bool->Hp->Prop),Inv X a b H s->tT X W g b H Q ->
  wpAny (model X.prog X.w) X.A (forIn ifs true λc r=>if r=true then do let ok ← isTrue c X.env (eval c X.env);pure (ForInStep.yield ok) else pure (ForInStep.yield r)) (TP X a b Q) X.xe s
def cw:IE Bool:=λ_ S=>IX true S
theorem dF {X:Cx}{W:WT}:SV X W [] cw:=by intro a s b H Q I h;rw[forIn_nil];exact wpAny_pure ⟨H,I,mY h⟩
theorem gD {X:Cx}{W:WT}{c:Expr}{g:IE Bool}(hc:MC X W c g):SV X W [c] g:=by intro a s d H Q I h;rw[forIn_cons];simp only[if_true,forIn_nil];refine wpAny_bind (wpAny_bind (Jj (hc a s d H Q I h) λb e q=>wpAny_pure ?_));exact wpAny_pure q
noncomputable def PY {α:Type}(m:Out α):Option (α×IL):=match m with
 |some (.ok a,S)=>some (a,S)
 |_=>none
def bz (u:D->IM->Option IM)(gt:IE Bool)(fe:IE D):List D->IM->IL->Option (List D×IL)
 |[],_,S=>some ([],S)
 |d::ds,ρ,S=>(u d ρ).bind λa=>(PY (gt a S)).bind λ(k,b) =>
  if k=true then (PY (fe a b)).bind λ(y,e)=>(bz u gt fe ds a e).map λ(c,f)=>(y::c,f)
  else bz u gt fe ds a b
def bX (n:Nat)(ix:List Nat)(fi:IE (List D))(u:D->IM->Option IM)(gt:IE Bool)(fe:IE D):IE D:=λa S=>ai (fi a S) λb c =>
 match bz u gt fe b (aY n ix a) c with
 |some (out,S2)=>IX (.lst out) S2
 |none=>none
abbrev W0:WT:=λ_ _ _ _=>False
section
variable {X:Cx}{W:WT}
structure CompEnd (X:Cx) (pins:II) (σ:St) (J0:List Addr) (H0:Hp) (S2:IL) (out:List D) (a C:Addr) (s':Shared):Prop where
 ns:∃ m,s'.heap.Ns C m
 own:X.s₀.heap.objs.size<=C/\C≠X.env.locals/\(∀ x c,X.env.cells.lookup x=some c->c≠C)/\∀ p∈X.pn++pins,p.1≠C
 fin:∀ h',(∀ b,b≠C->h'.get? b=s'.heap.get? b)->∃ J' H1 ys,Inv X pins σ (upd H1 a (.lst ys)) { s' with heap:=h' }/\Ex J0 H0 J' H1/\Jg X.K J' S2 H1/\IT X.K H1 J' out ys/\H1 a=none/\ys.length<=sizeLine/\upd H1 a (.lst ys) C=none
theorem CompEnd.SX {c:II}{f:St}{g:List Addr}{h:Hp}{S2:IL}{out:List D}{a C:Addr}{s':Shared}(i:CompEnd X c f g h S2 out a C s')(h':Heap)(k:∀ b,b≠C->h'.get? b=s'.heap.get? b) :
  ∃ d H',Inv X c f H' { s' with heap:=h' }/\Ex g h d H'/\Jg X.K d S2 H'/\At X.K H' d (.lst out) (.ref a)/\H' C=none:=by
 obtain⟨d,p,o,n,m,st,ad,e,j,l⟩:=i.fin h' k;exact⟨d,_,n,m.trans (Ex.same (aN e _)),st.same (aN e _),At.La ad e st.all j,l⟩
def wM (X':Cx)(l:Nat->Heap->Prop)(fp:List Addr)(a:Addr)(u:D->IM->Option IM)(gt:IE Bool)(fe:IE D)(ds out:List D)(m:List Addr)(k:Hp)(S2:IL)(n:Nat)(s':Shared):Prop:=
 ∃ (i:Nat) (e:St) (d:Hp) (f:List Addr) (c:IM) (h:IL) (dn rest:List D) (g:List V) (j:List Value) (ep:Nat),
  n=ds.length-i+1/\i<=ds.length/\Inv X' [] e d s'/\l i s'.heap/\(∀ b∈a::fp,d b=none)/\Ex m k f d/\Cf X' f c h e d /\
  s'.heap.get? a=some { cls:=.type "list",data:=.seq j.toArray ep }/\Vals g j/\IT X'.K d f dn g/\dn.length<=i/\bz u gt fe (ds.drop i) c h=some (rest,S2)/\out=dn++rest
theorem zx {X':Cx}{tg elt:Expr}{ifs:List Expr}{u:D->IM->Option IM}{gt:IE Bool}{fe:IE D}{it a:Addr}{fp:List Addr}{tn:Nat->Heap->Prop}{Jt:It}{ds out:List D}{Y:List Addr}{W:Hp}{S2:IL}{R:Result->Shared->Prop}
  (hx:X'.xe=λ_ _=>False) (hc:X'.calm=true) (sg:SG X' tg u) (st:SV X' W0 ifs gt) (se:SE X' W0 elt fe) (T:Turn X'.prog X'.w X'.K tg Jt fp it tn) (wk:Walk X' Jt ds Y W) (na:a∉fp) (hz:ds.length<=sizeLine)
  (fin:∀ (Ky:II) (H':Hp) (b:Addr),b∈a::fp->H' b=none->(∀ p∈Ky,p.1≠b)->f8 X' Ky H' b)
  (Vr:∀ (s':Shared) (j:St) (H':Hp) (B:List Addr) (E:IM) (ys:List V) (us:List Value) (ep:Nat),Inv X' [] j H' s'->Ex Y W B H'->Cf X' B E S2 j H'->H' a=none->s'.heap.get? a=some { cls:=.type "list",data:=.seq us.toArray ep }->Vals ys us->IT X'.K H' B out ys->ys.length<=sizeLine->R (.ok .next) s') :
  ∀ n s,wM X' tn fp a u gt fe ds out Y W S2 n s->wpAny (model X'.prog X'.w) X'.A (pyNext (.ref it)) (λr O=>match r with
   |none=>R (.ok .next) O
   |some v=>wpAny (model X'.prog X'.w) X'.A (letOwnedTupleGo tg (.ref it) v) (λ_ NW=>wpAny (model X'.prog X'.w) X'.A (assign tg X'.env v) (λ_ s₂ =>
     wpAny (model X'.prog X'.w) X'.A (forIn ifs true λc r=>if r=true then do let ok ← isTrue c X'.env (eval c X'.env);pure (ForInStep.yield ok) else pure (ForInStep.yield r)) (λok N =>
      if ok=true then wpAny (model X'.prog X'.w) X'.A (eval elt X'.env) (λx s₄ =>
       wpAny (model X'.prog X'.w) X'.A (call (.builtin "list.append") [.ref a,x]) (λ_ s₅ => ∃ m,m<n/\wM X' tn fp a u gt fe ds out Y W S2 m s₅) (λ_ _=>False) s₄) (λ_ _=>False) N
      else ∃ m,m<n/\wM X' tn fp a u gt fe ds out Y W S2 m N) (λ_ _=>False) s₂) (λ_ _=>False) NW) (λ_ _=>False) O) (λ_ _=>False) s:=by
 rintro n s ⟨i,j,H',B,E,Sx,dn,rest,ys,us,ep,hn,hi,I',W7,fr,ex,cx,ga,vs,ad,dl,l,eo⟩;have fa:=fin [] H' a (mem_cons_self ..) (fr a (mem_cons_self ..)) (λp G=>by simp at G)
 have I1:Inv X' [(a,{ cls:=.type "list",data:=.seq us.toArray ep })] j H' s:=I'.Kj λp G=>by
  have:p=(a,{ cls:=.type "list",data:=.seq us.toArray ep }):=by simpa using G
  subst this;exact⟨ga,fa.1,fa.2.1,fa.2.2.1,λv z=>by cases z⟩
 have Vs:∀ H1:Hp,(∀ b∈fp,H1 b=none)->∀ b∈fp,f8 X' [(a,{ cls:=.type "list",data:=.seq us.toArray ep })] H1 b:=λH1 hn b hb=>fin _ H1 b (mem_cons_of_mem _ hb) (hn b hb) λp G=>by
  have:p=(a,{ cls:=.type "list",data:=.seq us.toArray ep }):=by simpa using G
  subst this;intro z;have z':a=b:=z;exact na (z'▸hb)
 by_cases JL:i<ds.length
 ·refine Jj (T.item X' rfl rfl rfl hc i _ s j H' (λ_ _=>False) I1 (Vs H' λb hb=>fr b (mem_cons_of_mem _ hb)) W7 (wk.go B H' i ex JL)) λr s1 H=>?_;obtain⟨v,Z,h1⟩:=H;subst Z;refine Jj h1 λ_ s5 H=>?_;obtain⟨x,U,I5,r5,y5,Vt,Vb⟩:=H;obtain⟨d,ed,YS,sm⟩:=wk.Nz B H' i x U ex cx.Jr.all JL y5;have x5:Ex B H' B U:=Ex.same sm;have c5:Cf X' B E Sx j U:=cx.re x5 (cx.Jr.same sm);have hd:ds.drop i=d::ds.drop (i+1):=by rw[drop_eq_getElem_cons JL];rw[List.getElem?_eq_getElem JL] at ed;cases ed;rfl
  rw[hd,bz] at l;obtain⟨h,eu,l⟩:=bind_eq_some_iff.mp l;obtain⟨⟨k,X⟩,eg,l⟩:=bind_eq_some_iff.mp l
  have YT:gt h Sx=some (.ok k,X):=by
   unfold PY at eg;split at eg
   ·rename_i q;cases eg;exact q
   cases eg
  have Vc:=I5.pinned (Vs U Vb) (T.obj _ _ Vt)
  have keep:∀ {f:St}{C:Hp}{I:Shared},Inv X' ([(a,{ cls:=.type "list",data:=.seq us.toArray ep })]++k9 fp s5.heap) f C I->tn (i+1) I.heap/\(∀ b∈a::fp,C b=none)/\I.heap.get? a=some { cls:=.type "list",data:=.seq us.toArray ep }:=λ{f C I} Q=>by
   have pa:=Q.pin (a,{ cls:=.type "list",data:=.seq us.toArray ep }) (mem_append_right _ (mem_append_left _ (by simp)));refine⟨T.keep _ _ _ Vt λb hb o e=>(Q.pin (b,o) (mem_append_right _ (mem_append_right _ (gG hb e)))).1,λb hb=>?_,pa.1⟩;rcases mem_cons.mp hb with rfl |hb
   ·exact pa.2.1
   obtain⟨o,e,_⟩:=T.obj _ _ Vt b hb;exact(Q.pin (b,o) (mem_append_right _ (mem_append_right _ (gG hb e)))).2.1
  have W8:∀ {f:St}{C:Hp}{I:Shared},Inv X' ([(a,{ cls:=.type "list",data:=.seq us.toArray ep })]++k9 fp s5.heap) f C I->Inv X' [] f C I:=λ{f C I} Q=>Q.Kj λp G=>absurd G (by simp);have g:=sg _ s5 j U x v (λf C=>C=U/\Cf X' B h Sx f C) Vc r5 ⟨B,E,Sx,d,h,c5,YS,eu,λf c6=>⟨rfl,c6⟩⟩;rw[hx] at g;refine Jj g λ_ I H=>?_;obtain⟨f,C,Q,eH,c6⟩:=H;subst eH
  have t:=st _ I f C (λb M=>b=k/\∃ J,Ex B C J M/\Cf X' J h X f M) Q ⟨B,h,Sx,.ok k,X,c6,.nil,YT,λJ M b x7 s7 eb=>by
   cases eb
   exact⟨rfl,J,x7,c6.re x7 s7⟩⟩
  rw[hx] at t;refine Jj t λb s7 H=>?_;obtain⟨M,I7,eb,J,x7,c7⟩:=H;subst eb;have W9:Ex Y W J M:=ex.trans (x5.trans x7);have W_:IT X'.K M J dn ys:=(ad.ex x5).ex x7;cases b with
  |false =>
   rw[if_neg (by decide)];simp only[false_eq_true,if_false] at l;obtain⟨t8,UC,g8⟩:=keep I7;exact⟨ds.length-(i+1)+1,by omega,i+1,f,M,J,h,X,dn,rest,ys,us,ep,rfl,by omega,W8 I7,t8,UC,W9,c7,g8,vs,W_,by omega,l,eo⟩
  |true =>
   rw[if_pos rfl];simp only[if_true] at l;obtain⟨⟨y,Sy⟩,ey,l⟩:=bind_eq_some_iff.mp l;obtain⟨⟨ry,S3⟩,ey2,l⟩:=map_eq_some_iff.mp l
   have YU:fe h X=some (.ok y,Sy):=by
    unfold PY at ey;split at ey
    ·rename_i q;cases ey;exact q
    cases ey
   simp only[Prod.mk.injEq] at l;obtain⟨Z,es⟩:=l;subst es Z;have t:=se _ s7 f M (λw L => ∃ P,Ex J M P L/\Cf X' P h Sy f L/\At X'.K L P y w) I7 ⟨J,h,X,.ok y,Sy,c7,.nil,YU,λP L w x8 S aw=>⟨P,x8,c7.re x8 S,aw⟩⟩;rw[hx] at t;refine Jj t λw S H=>?_;obtain⟨vw,L,I8,YV,P,x8,c8,aw⟩:=H;obtain⟨t8,UC,g8⟩:=keep I8;have Xa:IT X'.K L P dn ys:=W_.ex x8;have l1:=Xa.length;have l2:=vs.length;refine call_meets F.slot_list_append ⟨_,g8,rfl⟩ F.entry_list_append (F.args_list_append_2 _ _) (PySem.list_append a us.toArray ep w (by rw[size_toArray];omega)) ⟨g8,?_⟩;have Vu:=PySem.IsL.update g8 (·.push w);have SY:=fin [] L a (mem_cons_self ..) (UC a (mem_cons_self ..)) (λp G=>by simp at G);have I9:Inv X' [] f L { S with heap:=S.heap.update a (Obj.mapSeq (·.push w)),toks:=S.toks }:=(W8 I8).turned (it:=a) (λb o hb e=>(Heap.get?_update_other S.heap (Obj.mapSeq (·.push w)) (Ne.symm hb)).trans e) SY.1 SY.2.1 SY.2.2.2.1 SY.2.2.2.2.1 SY.2.2.2.2.2;refine⟨ds.length-(i+1)+1,by omega,i+1,f,L,P,h,Sy,dn++[y],ry,ys++[vw],us++[w],_,rfl,by omega,I9,?_,UC,W9.trans x8,c8,by simpa using Vu,vs.append (.cons YV .nil),Xa.append (.cons aw .nil),by rw[List.length_append,length_singleton];omega,ey2,by rw[eo];simp⟩;exact T.keep _ _ _ t8 λb hb o e=>(Heap.get?_update_other S.heap (Obj.mapSeq (·.push w)) (λz:a=b=>na (by rw[z];exact hb))).trans e
 refine Jj (T.done X' rfl rfl rfl hc i _ s j H' (λ_ _=>False) I1 (Vs H' λb hb=>fr b (mem_cons_of_mem _ hb)) W7 (wk.stop B H' i ex (by omega))) λr s1 H=>?_;obtain⟨Z,J1⟩:=H;subst Z;rw[drop_eq_nil_of_le (by omega),bz] at l;cases l;rw[append_nil] at eo;subst eo;have l1:=ad.length;have pa:=J1.pin (a,{ cls:=.type "list",data:=.seq us.toArray ep }) (mem_append_right _ (by simp));exact Vr s1 j H' B E ys us ep (J1.Kj λp G=>absurd G (by simp)) ex cx pa.2.1 pa.1 vs ad (by omega)
theorem lH {U iter elt:Expr}{ifs:List Expr}{scope:Scope}{pos:Pos}{u:D->IM->Option IM}{gt:IE Bool}{fe:IE D}{ts:List Str}{ix:List Nat}{n:List (Str×Addr)}
  {g:II}{s:St}{l:Shared}{E:IG}{it:Addr}{fp:List Addr}{tn:Nat->Heap->Prop}{Jt:It}{j:Hp}{B:List Addr}{ρ:IM}{Y S2:IL}{ds out:List D}{W:Value->Addr->Result->Shared->Prop}
  (hc:X.calm=true) (Sc:JP scope X.env) (h1:∀ x c,n.lookup x=some c->X.env.cells.lookup x=some c) (h2:∀ y∈scope.names,y.2 = .free->∃ c,n.lookup y.1=some c) (L0:∀ t∈ix,scope.names.lookup (X.N.getD t Str.empty)=some .free)
  (OH:∀ n C f H3 fp,SG (lG X scope n (fA ts ix X.N) C f H3 fp) U u/\SV (lG X scope n (fA ts ix X.N) C f H3 fp) W0 ifs gt/\SE (lG X scope n (fA ts ix X.N) C f H3 fp) W0 elt fe)
  (I2:Inv X g s j l) (T:Turn X.prog X.w X.K U Jt fp it tn) (t0:tn 0 l.heap) (f2:∀ b∈fp,f8 X g j b) (c2:Cf X B ρ Y s j) (J:Walk X Jt ds B j)
  (ec:bz u gt fe ds (aY ts.length ix ρ) Y=some (out,S2))
  (YW:∀ a C s',CompEnd X g s B j S2 out a C s'->W (.ref a) C (.ok .next) s') :
  wpAny (model X.prog X.w) X.A (newList []) (λQ G=>wpAny (model X.prog X.w) X.A (newFunctionEnv scope X.env.globals n [] X.env.qual none .none (some X.env)) (λS5 M =>
   codeAny (model X.prog X.w) X.A (.compStart (.ListComp elt [⟨U,iter,ifs,0⟩] scope pos) 0 (.ref it) Q { S5 with scope:=relabel scope X.env }) (W Q S5.locals) M) E G) E l:=by
 refine wpAny_newObj_type (oX ?_);dsimp only;generalize O:l.heap.objs.size=a at *
 have S:∀ b o,l.heap.get? b=some o->(l.heap.push { cls:=.type "list",dict:=none,data:=.seq ([]:List Value).toArray }).get? b=some o:=λb o e=>Heap.get?_push_of_some _ e;obtain⟨f,Vv⟩:∃ f:Shared,f={ l with heap:=l.heap.push { cls:=.type "list",dict:=none,data:=.seq ([]:List Value).toArray } }:=⟨_,rfl⟩;have F:Inv X g s j f:=by rw[Vv];exact I2.kept (t':=l.toks) S
 have r:f.heap=l.heap.push { cls:=.type "list",dict:=none,data:=.seq ([]:List Value).toArray }:=by rw[Vv]
 have UD:f.heap.objs.size=a+1:=by rw[r,Heap.size_push,O]
 rw[← r];have ic:=LO.of (o:={ cls:=.type "dict",data:=.dict #[] }) F Sc h1 h2;have YX:(pushCells (f.heap.push { cls:=.type "dict",data:=.dict #[] }) scope.names).Ns f.heap.objs.size (λ_=>none):=(Heap.Ns.new f.heap (.type "dict")).keeps (pushCells_keeps _ _);have V:∀ b o,f.heap.get? b=some o->(pushCells (f.heap.push { cls:=.type "dict",data:=.dict #[] }) scope.names).get? b=some o:=λb o e=>pushCells_keeps _ _ b o (Heap.get?_push_of_some _ e);generalize YY:cellsFrom (f.heap.objs.size+1) scope.names n=cl' at *
 generalize hh4:pushCells (f.heap.push { cls:=.type "dict",data:=.dict #[] }) scope.names=I at *
 have a3:f.heap.get? a=some { cls:=.type "list",data:=.seq ([]:List Value).toArray }:=by rw[r,← O];exact Heap.get?_push_size _ rfl
 have fa:f8 X g j a:=I2.KY (by rw[O];exact le_refl _) (by rw[← O];exact I2.fresh);have S6:∀ b∈fp,∃ o,l.heap.get? b=some o:=λb hb=>let ⟨o,e,_⟩:=T.obj 0 _ t0 b hb;⟨o,e⟩;have na:a∉fp:=λhb=>by obtain⟨o,e⟩:=S6 a hb;have:=Heap.lt_size e;rw[O] at this;exact absurd this (Nat.lt_irrefl _)
 have P:∀ b∈a::fp,f8 X g j b:=λb hb=>by
  rcases mem_cons.mp hb with rfl |hb
  ·exact fa
  exact f2 b hb
 have fo:∀ b∈a::fp,∃ o,f.heap.get? b=some o:=λb hb=>by
  rcases mem_cons.mp hb with rfl |hb
  ·exact⟨_,a3⟩
  obtain⟨o,e⟩:=S6 b hb;exact⟨o,by rw[r];exact S b o e⟩
 have toks:∀ t,Inv (lG X scope cl' (fA ts ix X.N) f.heap.objs.size f j (a::fp)) [] (aY ts.length ix s) j { f with heap:=I,toks:=t }:=λt=>F.enter Sc ic L0 P fo V YX;obtain⟨sg,st,se⟩:=OH cl' f.heap.objs.size f j (a::fp)
 have fin:∀ (Z:II) (H':Hp) (b:Addr),b∈a::fp->H' b=none->(∀ p∈Z,p.1≠b)->f8 (lG X scope cl' (fA ts ix X.N) f.heap.objs.size f j (a::fp)) Z H' b:=λZ H' b hb hn hp=>by
  refine⟨hn,?_,λz=>?_,.inl hb,λx c e=>?_,λp hq=>hp p hq⟩
  ·obtain⟨o,e⟩:=fo b hb;exact ne_of_lt (Heap.lt_size e)
  ·obtain⟨_,f1,YZ,_⟩:=P b hb;rcases mem_cons.mp (F.MQ b z) with q |q
   ·exact f1 q
   exact YZ q
  rcases ic.out x c e with q |q
  ·exact(P b hb).2.2.2.2.1 x c q
  obtain⟨o,ho⟩:=fo b hb;intro z;exact Nat.lt_irrefl _ (Nat.lt_trans q.1 (z▸Heap.lt_size ho))
 have own:X.s₀.heap.objs.size<=f.heap.objs.size/\f.heap.objs.size≠X.env.locals/\(∀ x c,X.env.cells.lookup x=some c->c≠f.heap.objs.size)/\∀ p∈X.pn++g,p.1≠f.heap.objs.size:=by obtain⟨_,g1,g2,g3,g4,g5⟩:=F.KY (H':=λ_=>none) (le_refl f.heap.objs.size) rfl;exact⟨F.sz,g1,g4,g5⟩
 have c3:Cf (lG X scope cl' (fA ts ix X.N) f.heap.objs.size f j (a::fp)) B (aY ts.length ix ρ) Y (aY ts.length ix s) j:=by
  refine⟨by unfold aY;simp,λi d h=>?_,c2.Jr⟩;unfold aY at h ⊢;by_cases hi:i<ts.length
  ·rw[getElem?_append_left (by simpa using hi),getElem?_replicate,if_pos hi] at h;cases h
  rw[getElem?_append_right (by simpa using hi),length_replicate,getElem?_map] at h ⊢;cases et:ix[i-ts.length]? with
  |none=>rw[et] at h;cases h
  |some t =>
   rw[et] at h;simp only[map_some,Option.some.injEq] at h ⊢
   have hr : ρ[t]?=some (some d):=by
    cases q : ρ[t]? with
    |none=>rw[q] at h;cases h
    |some w=>rw[q] at h;simp only[getD_some] at h;rw[h]
   obtain⟨v,e1,e2⟩:=c2.env t d hr;exact⟨v,by rw[e1];rfl,e2⟩
 have w3:Walk (lG X scope cl' (fA ts ix X.N) f.heap.objs.size f j (a::fp)) Jt ds B j:=⟨J.len,J.go,J.Nz,J.stop⟩
 have H:∀ t,codeAny (model X.prog X.w) X.A (.compLoop (.ListComp elt [⟨U,iter,ifs,0⟩] scope pos) 0 (.ref it) (.ref a) (compEnvC scope cl' f.heap.objs.size X.env)) (W (.ref a) f.heap.objs.size) { f with heap:=I,toks:=t }:=by
  intro t;refine rV _ (zx (R:=W (.ref a) f.heap.objs.size) (S2:=S2) (out:=out) (X':=lG X scope cl' (fA ts ix X.N) f.heap.objs.size f j (a::fp)) rfl hc sg st se T w3 na J.len fin ?_) (ds.length+1) ?_
  ·intro s' σ' H' Jx ρx ys us ep I' ex cx ha ga vs ad lz;refine YW a f.heap.objs.size s' ⟨let ⟨m,hm,_⟩:=I'.loc;⟨m,hm⟩,own,λh' k=>?_⟩;have I4:=F.leave P I' k;have Vu:h'.get? a=some { cls:=.type "list",data:=.seq us.toArray ep }:=by rw[k a (by rw[UD];exact ne_of_lt (lt_succ_self _))];exact ga
   have Y0:f8 X g H' a:=⟨ha,fa.2⟩;have I5:=I4.adopt Y0 Vu vs lz;have hC:H' f.heap.objs.size=none:=I'.free;refine⟨Jx,H',ys,I5,ex,cx.Jr,ad,ha,lz,?_⟩;rw[aA (by rw[UD];exact ne_of_gt (lt_succ_self _))];exact hC
  refine⟨0,_,j,B,aY ts.length ix ρ,Y,[],out,[],[],0,rfl,zero_le _,toks t,?_,λb hb=>(P b hb).1,Ex.refl,c3,V a _ a3,.nil,.nil,le_refl _,by simpa using ec,rfl⟩;exact T.keep 0 _ _ t0 λb hb o e=>V b o (by rw[r];exact S b o e)
 have L:=H l.toks;have t4:tn 0 I:=T.keep 0 _ _ t0 λb hb o e=>V b o (by rw[r];exact S b o e);rw[show ({ f with heap:=I,toks:=l.toks }:Shared)={ l with heap:=I } by rw[Vv]] at L;exact codeAny_compStart_list L (T.self _ 0 _ _ _ t4 L)
def FC (X:Cx)(scope:Scope)(ts:List Str)(ix:List Nat)(d:Expr)(ifs:List Expr)(elt:Expr)(u:D->IM->Option IM)(gt:IE Bool)(fe:IE D):Prop:=
 ∀ (a:List (Str×Addr)) (C:Addr) (c:Shared) (b:Hp) (fp:List Addr),SG (lG X scope a (fA ts ix X.N) C c b fp) d u/\SV (lG X scope a (fA ts ix X.N) C c b fp) W0 ifs gt/\SE (lG X scope a (fA ts ix X.N) C c b fp) W0 elt fe
theorem gM {scope:Scope}{b:II}{g:St}{H:Hp}{s:Shared}(I:Inv X b g H s)(Sc:JP scope X.env):∃ a,closureFor scope X.env=pure a/\(∀ x c,a.lookup x=some c->X.env.cells.lookup x=some c)/\(∀ y∈scope.names,y.2 = .free->∃ c,a.lookup y.1=some c):=by obtain⟨a,e,f,_,i⟩:=dY (env:=X.env) scope.names [] (λy d h=>I.ok.has y.1 (Sc.frees y d h)) (by simp);refine⟨a,?_,f,i⟩;unfold closureFor;exact(congrArg (λ(m:Sem (List (Str×Addr)))=>m >>= λr=>(pure r:Sem (List (Str×Addr)))) e).trans rfl
theorem qy {fi:IE (List D)}{u:D->IM->Option IM}{gt:IE Bool}{fe:IE D}{n:Nat}{ix:List Nat}{g:St}{H:Hp}{Q:VK}(h:tE X W (bX n ix fi u gt fe) g H Q) :
  iW X W fi g H λj f => ∃ b ρ a S2 ds out,Cf X b ρ a g f/\Walk X j ds b f/\bz u gt fe ds (aY n ix ρ) a=some (out,S2)/\∀ d H' v,Ex b f d H'->Jg X.K d S2 H'->At X.K H' d (.lst out) v->Q v H':=by
 obtain⟨J,ρ,S,r,y,c,_,e,z⟩:=h;unfold bX at e;cases q:fi ρ S with
 |none=>simp[q] at e
 |some o =>
  obtain⟨l,a⟩:=o;simp only[q] at e;cases l with
  |error x =>
   cases e;exact⟨J,ρ,S,.error x,_,c,q,z⟩
  |ok ds =>
   simp only[fC] at e;cases qc:bz u gt fe ds (aY n ix ρ) a with
   |none=>rw[qc] at e;cases e
   |some p =>
    obtain⟨out,S2⟩:=p;rw[qc] at e;cases e;exact⟨J,ρ,S,.ok ds,a,c,q,λb f j i t w=>⟨b,ρ,a,_,ds,out,c.re i t,w,qc,λd H' v m k s=>z d H' v (i.trans m) k s⟩⟩
theorem bV {d iter elt:Expr}{ifs:List Expr}{scope:Scope}{pos:Pos}{fi:IE (List D)}{u:D->IM->Option IM}{gt:IE Bool}{fe:IE D}{ts:List Str}{ix:List Nat}
  (hc:X.calm=true) (Sc:JP scope X.env) (y:∀ t∈ix,scope.names.lookup (X.N.getD t Str.empty)=some .free) (O:SI X W d iter fi) (M:FC X scope ts ix d ifs elt u gt fe)
  (L:∀ x,foldedSetIterable iter X.env x=pure x:=by intro _;rfl):SE X W (.ListComp elt [⟨d,iter,ifs,0⟩] scope pos) (bX ts.length ix fi u gt fe):=by
 intro c s q H Q I h;obtain⟨cl,B,p,o⟩:=gM I Sc;rw[eval_ListComp];refine wpAny_comprehension_free (use:=none) rfl L B Sc.kind Sc.names ?_;refine Jj (O c s q H _ I (qy h)) λv S J=>Jj J λSk s2 P=>?_;obtain⟨it,fp,V,Jt,R,e,l,T,r,w,J0,U,S1,Z,Y,out,j,n,k,fin⟩:=P;subst e;refine lH hc Sc p o y M l T r w j n k λa C f i=>?_;obtain⟨m,K⟩:=i.ns;refine⟨m,K,λA sb=>?_⟩;obtain⟨G,g,E,z,f,F,_⟩:=i.SX A λb hb=>sb.2 b hb;exact⟨.ref a,g,E,rfl,fin G g _ z f F⟩
end
section
variable {X:Cx}{W:WT}
theorem nG {g iter elt:Expr}{ifs:List Expr}{scope:Scope}{pos p j:Pos}{fi:IE (List D)}{u:D->IM->Option IM}{gt:IE Bool}{fe:IE D}{ts:List Str}{ix:List Nat}{i:Nat}{y:Str}
  (R:X.N.Nodup) (hc:X.calm=true) (Sc:JP scope X.env) (L0:∀ t∈ix,scope.names.lookup (X.N.getD t Str.empty)=some .free) (hi:SI X W g iter fi) (OH:FC X scope ts ix g ifs elt u gt fe)
  (M:X.N[i]?=some y:=by rfl) (hx:Loc X.env.scope y:=by first |exact Or.inl rfl |exact Or.inr rfl) (Vw:swapsWith (.ListComp elt [⟨g,iter,ifs,0⟩] scope pos) (some (.Name y j)) p.line X.env=pure true:=by rfl)
  (F:X.fn y=true∨X.env.scope.names.lookup y=some .local:=by first |exact .inl rfl |exact .inr rfl |assumption)
  (hs:∀ x,foldedSetIterable iter X.env x=pure x:=by intro _;rfl):SS X W (.Assign [.Name y j] (.ListComp elt [⟨g,iter,ifs,0⟩] scope pos) p) (bo i (bX ts.length ix fi u gt fe)):=by
 intro c s l H E I h;obtain⟨cl,NH,w,P⟩:=gM I Sc;have h:=tS.IZ h;rw[exec_Assign_Name_used _ _ _ _ Vw];refine wpAny_bind (wpAny_standAt (wpAny_bind ?_));show wpAny _ X.A (do let _ ← comprehension (.ListComp elt [⟨g,iter,ifs,0⟩] scope pos) scope X.env _ (newList []) false (eval iter X.env) (some (assign (.Name y j) X.env))) _ _ s;refine wpAny_bind (wpAny_mono (wpAny_comprehension_free (use:=some (assign (.Name y j) X.env)) (Q:=λ_ d=>SP X c E .next d) rfl hs NH Sc.kind Sc.names ?_) (λ_ d hq=>wpAny_pure (wpAny_pure hq)) λ_ _ e=>e);refine Jj (hi c s l H _ I (qy h)) λv s1 Z=>Jj Z λSk s2 Oe=>?_;obtain⟨it,fp,tn,Jt,H2,e,I2,T,S,f2,J0,ρ,S1,S2,ds,out,c2,wk,ec,fin⟩:=Oe;subst e;refine lH hc Sc w P L0 OH I2 T S f2 c2 wk ec λa C d k=>?_;obtain⟨m,hm⟩:=k.ns;obtain⟨o1,o2,n,J⟩:=k.own;obtain⟨J',f,V,U,IW,Y,B⟩:=k.SX d.heap λ_ _=>rfl;have Vx:Inv X c l f d:=V;have q:=fin J' f _ U IW Y;show wpAny _ X.A (assign (.Name y j) X.env (.ref a)) _ _ d;refine wpAny_assign_Name (k7 Vx R M hx (v:=.ref a) rfl (λr I3 G=>?_) F);obtain⟨ad,sb,hd⟩:=G
 have Vy:C≠ad:=by
  rcases hd with z |z
  ·rw[z];exact o2
  exact(n y ad z).symm
 refine⟨m,hm.sameBut sb Vy,λh' Vz=>?_⟩;have I4:Inv X c (l.set i (some (.ref a))) f { r with heap:=h' }:=I3.turned (t':=r.toks) (it:=C) (λb o hb e=>(Vz.2 b hb).trans e) B o2 (.inr o1) n J;obtain⟨Jq,O,Sq,dq,rq,Y1,K,L,eq,zq⟩:=q;cases eq;exact⟨_,f,I4,zq Jq _ f Ex.refl (K.set L)⟩
def UE (K:IF)(F:IK):Sp:=λf H Q _ => ∃ J S c d e,IT K H J c f/\Jg K J S H/\F c S=some (.ok d,e)/\∀ b a v,Ex J H b a->Jg K b e a->At K a b d v->Q v a
def Pq (P:Program)(w:World)(K:IF)(mg:IJ)(base:Heap)(k:Nat)(f:Addr)(fd:FuncData)(a:List Str)(F:IK):Prop:=
 K9 P w K mg base Oa k f fd a (UE K F)
def eZ (m:Out D):Out D:=match m with
 |some (.ok d,S)=>some (.ok d,S)
 |_=>none
def aR (F:IK)(t:IE (List D)):IE D:=λa S=>ai (t a S) λb c=>eZ (F b c)
variable {x:Str}{p pos:Pos}{e:Expr}{es:List Expr}{gs:IE (List D)}
theorem Bt {F:IK}{f:St}{H:Hp}{Q:VK}{j:XK}(h:tE X W (aR F gs) f H Q):DH (UE X.K F) [] j (tA X W gs) f H Q:=
 (tG.LZ h).mono λx u n=>by
  obtain⟨a,w,b⟩:=n
  rw[append_nil,append_nil] at b;obtain⟨J,s,S,r,k,c,m,e,z⟩:=b;have e:eZ (F a S)=some (r,k):=e;unfold eZ at e;split at e
  ·rename_i d t q;cases e;exact⟨J,S,a,d,_,by rw[append_nil];exact m,c.Jr,q,λp i v l g o=>z p i v l g o⟩
  cases e
theorem Ck {k:Nat}{f:Addr}{fd:FuncData}{a:List Str}{F:IK}(G:Pq X.prog X.w X.K X.mg X.base k f fd a F)(hr:Jp k X.A)(g:X.mg x=some (.ref f))(b:PySem.W.keepIn X.K (.ref f)=true)(hb:Binds X.K fd a [])
  (j:SA X W (e::es) gs) (c:Gl X x:=by rfl) (i:(x==("__debug__":Str))=false:=by decide) (d:starEach (e::es) X.env=(false,eval e X.env)::starEach es X.env:=by rfl) (JQ:(backTo pos (starEach es X.env)).any (·.1)=false:=by rfl) :
  SE X W (.Call (.Name x p) (e::es) [] pos) (aR F gs):=
 PE.imp (CK (E:=E0) G hr c g b hb .nil AC j i d JQ) λl H Q h=>Bt h
end
section
variable {X:Cx}{W:WT}
def UG (x:Str):It:=⟨λi _=>i<x.cps.size,λi H v a=>a=H/\∃ c,x.cps[i]?=some c/\v = .str ⟨#[c]⟩,λi _=>x.cps.size<=i⟩
theorem sN {P:Program}{w:World}{K:IF}{R:Expr}{it:Addr}{x:Str}{St:Nat->Heap->Prop}
  (L:∀ (A:Around) (i:Nat) (s:Shared) (Q:IG) (E:IG),St i s.heap->Q (.ref it) s->wpAny (model P w) A (pyIter (.ref it)) Q E s) (y:∀ F:Around,F.handled=none->Walks P w F it [it] [it] x.cps.size (SignAt x) St) (J:∀ i h,St i h->∃ o n vs,h.get? it=some o/\o.cls = .type n/\o.data = .fields vs/\["enumerate","zip","dict_itemiterator","dict_reverseitemiterator","odict_iterator","itertools.zip_longest","itertools.pairwise"].contains n=false) :
  Turn P w K R (UG x) [it] it (λi h=>i<=x.cps.size/\St i h) where
 mem:=by simp
 obj:=λi h st b hb=>by
  have e:b=it:=by simpa using hb
  subst e;obtain⟨o,n,vs,e,_,d,_⟩:=J i h st.2;exact⟨o,e,λv z=>by rw[d] at z;cases z⟩
 keep:=λi h f st k=>⟨st.1,(y callerA rfl).frame i h f st.2 λb hb o e=>k b hb o e⟩
 item:=by
  intro X B m q hc i a s G H E I j st g;subst B m q;obtain⟨l,p,U,r,C,t⟩:=j it (by simp);refine(y X.A (I.ok.hd hc)).item i s _ _ g st.2 λv f tk N D k=>?_;obtain⟨c,u,M,ev⟩:=N;subst ev;have T:Inv X a G H { s with heap:=f,toks:=tk }:=I.turned (t':=tk) (λb o hb e=>k b o (by simpa using hb) e) l p r C t;obtain⟨o,n,vs,e,S,d,V⟩:=J _ _ D;exact⟨_,rfl,uo (s:={ s with heap:=f,toks:=tk }) e S d V ⟨.str ⟨#[c]⟩,H,T,⟨u,rfl⟩,⟨rfl,c,M,rfl⟩,⟨g,D⟩,λb hb=>(j b hb).1⟩⟩
 done:=by
  intro X B m q hc i a s G H E I j st g;subst B m q;obtain⟨l,p,U,r,C,t⟩:=j it (by simp);have O:i=x.cps.size:=Nat.le_antisymm st.1 g;subst O;exact(y X.A (I.ok.hd hc)).done s _ _ st.2 λf tk k=>⟨rfl,I.turned (t':=tk) (λb o hb e=>k b o (by simpa using hb) e) l p r C t⟩
 self:=λA i s Q E st h=>L A i s Q E st.2 h
theorem Walk.str {x:Str}{J:List Addr}{H:Hp}(ok:Qg x):Walk X (UG x) (x.cps.toList.map λc=>D.str ⟨#[c]⟩) J H where
 len:=by rw[length_map,length_toList];exact ok.1
 go:=λe b i _ a=>by rw[length_map,length_toList] at a;exact a
 Nz:=λe b i v g _ h a y=>by
  obtain⟨rfl,c,f,rfl⟩:=y;rw[length_map,length_toList] at a;have d:x.cps.toList[i]?=some c:=by simpa using f
  refine⟨.str ⟨#[c]⟩,by rw[getElem?_map,d];rfl,At.Je.mpr ⟨rfl,by show 1<=sizeLine;decide,nE (l:=[c]) λj m=>?_⟩,I0.refl _⟩;rw[mem_singleton.mp m];exact kZ ok.2 (mem_of_getElem? d)
 stop:=λe b i _ a=>by rw[length_map,length_toList] at a;exact a
def D4:D->Option (List D)
 | .str x=>some (x.cps.toList.map λc=>D.str ⟨#[c]⟩)
 |_=>none
def Bz (f:IE D):IE (List D):=λa S=>ai (f a S) λd b=>aJ (D4 d) b
variable {e:Expr}{fe:IE D}{pos:Pos}
theorem D7 {u:Expr}(p:SE X W e fe):SI X W u e (Bz fe):=by
 intro c s w H R I h;refine Jj (p c s w H _ I (rG h)) λv a C=>?_;obtain⟨y,f,g,n,J,S,d,D,so,m,l,z⟩:=C;cases d with
 |str x =>
  cases l;obtain⟨B,ok⟩:=At.Je.mp m;subst B;obtain⟨t,rfl⟩:=n
  have fp:∀ b∈[a.heap.objs.size],f8 X c f b:=λb hb=>by
   have e:b=a.heap.objs.size:=by simpa using hb
   subst e;exact g.KY (le_refl _) g.fresh
  cases ha:x.cps.all (·<128)
  ·refine wpAny_pyIter_wide ha ?_;refine⟨a.heap.objs.size,[a.heap.objs.size],_,UG x,f,rfl,g.kept (t':=a.toks) λb o e=>Heap.get?_push_of_some _ e,sN (St:=λi h=>h.IsStrIter a.heap.objs.size "str_iterator" x t i) (λA i s Q E st q=>wpAny_pyIter_striter_wide st q) (λr j=>Walks.strWide j _ x t) (λi h st=>?_),⟨zero_le _,_,Heap.get?_push_size _ rfl,rfl,rfl⟩,fp,z f _ (I0.refl _) (Walk.str ok)⟩;obtain⟨o,k,hc,hd⟩:=st;exact⟨o,_,_,k,hc,hd,by decide⟩
  refine wpAny_pyIter_ascii ha ?_;refine⟨a.heap.objs.size,[a.heap.objs.size],_,UG x,f,rfl,g.kept (t':=a.toks) λb o e=>Heap.get?_push_of_some _ e,sN (St:=λi h=>h.IsStrIter a.heap.objs.size "str_ascii_iterator" x t i) (λA i s Q E st q=>wpAny_pyIter_striter_ascii st q) (λr j=>Walks.strAscii j _ x t) (λi h st=>?_),⟨zero_le _,_,Heap.get?_push_size _ rfl,rfl,rfl⟩,fp,z f _ (I0.refl _) (Walk.str ok)⟩;obtain⟨o,k,hc,hd⟩:=st;exact⟨o,_,_,k,hc,hd,by decide⟩
 |_=>cases l
theorem km {prog:Program}{w:World}{A:Around}{E:IG}{s:Shared}{it l:Addr}{i:Nat}{items}{x:Value}{Q:IG}(a:s.heap.IsTupleIter it l i)
  (f:s.heap.IsTuple l items) (c:items[i]?=some x)
  (e:∀ h',h'.IsTupleIter it l (i+1)->Heap.SameBut it s.heap h'->Q x { s with heap:=h' }) :
  wpAny (model prog w) A (Builtin.SmallTypes.nextOf (.ref it)) Q E s:=by
 obtain⟨o,b,hc,hd⟩:=id a;obtain⟨h,d,_,j,g⟩:=f;unfold Builtin.SmallTypes.nextOf
 refine wpAny_bind (wpAny_callSpecial?_slot (name:=Str.ofString "__next__") a.typeIs F.slot_tuple_iterator_next
  (wpAny_call_entry F.slot_tuple_iterator_next a.typeIs F.entry_tuple_iterator_next ?_ (F.args_tuple_iterator_next_1 _)))
 show wpAny _ _ (field (.ref it) 0 >>= _) _ _ s;refine wpAny_bind (wpAny_field b hd (x:=.ref l) rfl ?_);show wpAny _ _ (if (Value.ref l==Value.none)=true then _ else _) _ _ s;rw[if_neg (show ¬ ((Value.ref l==Value.none)=true) from Bool.false_ne_true)];show wpAny _ _ (field (.ref it) 1 >>= _) _ _ s;refine wpAny_bind (wpAny_field b hd (x:=.int i 0) rfl ?_);show wpAny _ _ (seqItems? (.ref l) >>= _) _ _ s;refine wpAny_bind (wpAny_seqItems d g ?_);simp only[Int.toNat_natCast,c];refine wpAny_bind (wpAny_setField b hd (by simp) (wpAny_pure ⟨x,rfl,wpAny_pure (e _ ?_ (Heap.SameBut.update ..))⟩))
 exact⟨_,Heap.get?_update_self _ b (Obj.isFreed_of_fields (Obj.data_mapFields hd _)),(Obj.cls_mapFields ..).trans hc,by
  rw[Obj.data_mapFields hd];simp[rawInt]⟩
theorem gp {prog:Program}{w:World}{A:Around}{E:IG}{s:Shared}{it l:Addr}{i:Nat}{items}{Q:IG}(d:A.handled=none)
  (b:s.heap.IsTupleIter it l i) (j:s.heap.IsTuple l items) (f:items[i]?=none)
  (h:∀ h' e,Heap.ExtBut it s.heap h'->(∃ o,h'.get? e=some o/\o.cls = .type "StopIteration")->E (.ref e) { s with heap:=h' }) :
  wpAny (model prog w) A (Builtin.SmallTypes.nextOf (.ref it)) Q E s:=by
 obtain⟨o,c,hc,hd⟩:=id b;obtain⟨n,g,_,p,k⟩:=j;unfold Builtin.SmallTypes.nextOf
 refine wpAny_bind (wpAny_callSpecial?_slot (name:=Str.ofString "__next__") b.typeIs F.slot_tuple_iterator_next
  (wpAny_call_entry F.slot_tuple_iterator_next b.typeIs F.entry_tuple_iterator_next ?_ (F.args_tuple_iterator_next_1 _)))
 show wpAny _ _ (field (.ref it) 0 >>= _) _ _ s;refine wpAny_bind (wpAny_field c hd (x:=.ref l) rfl ?_);show wpAny _ _ (if (Value.ref l==Value.none)=true then _ else _) _ _ s;rw[if_neg (show ¬ ((Value.ref l==Value.none)=true) from Bool.false_ne_true)];show wpAny _ _ (field (.ref it) 1 >>= _) _ _ s;refine wpAny_bind (wpAny_field c hd (x:=.int i 0) rfl ?_);show wpAny _ _ (seqItems? (.ref l) >>= _) _ _ s;refine wpAny_bind (wpAny_seqItems g k ?_);simp only[Int.toNat_natCast,f];refine wpAny_bind (wpAny_rule (wpAny_bind (wpAny_setField c hd (by simp) ?_)));show wpAny _ _ (newExc (.type "StopIteration") [] >>= _) _ _ _;refine wpAny_bind ?_;simp only[newExc,newTuple];refine wpAny_bind (wpAny_newObj_type ?_ (by size_fits));refine wpAny_bind (m:=firstArgMember _ _) (wpAny_of_eq (a:=Value.none) (by first |rfl |(simp only[firstArgMember];rfl)) ?_);refine wpAny_newObj_type ?_ (by size_fits);simp only[raiseNew];refine wpAny_bind (wpAny_handled ?_)
 first |rw[show A.in1.handled=none from d] |rw[d]
 refine wpAny_bind (wpAny_pure (wpAny_throw ?_));exact h _ _ (((Heap.SameBut.update ..).extBut.push _).push _) ⟨_,Heap.get?_push_size _ rfl,rfl⟩
theorem Draws.tup {prog:Program}{w:World}{A:Around}(j:A.handled=none)(it l:Addr)(f:l≠it)(items:Array Value) :
  Draws prog w A it [it,l] items.size (λi v=>items[i]?=some v) (λi h=>h.IsTupleIter it l i/\h.IsTuple l items) where
 live:=λ_ _ st=>let ⟨o,a,_⟩:=st.1;⟨o,a⟩
 frame:=λ_ _ _ st b=>⟨let ⟨o,a,r⟩:=st.1;⟨o,b it (by simp) o a,r⟩,let ⟨o,a,r⟩:=st.2;⟨o,b l (by simp) o a,r⟩⟩
 item:=λi s Q E d st k=>by
  refine km st.1 st.2 (x:=items[i]) (by simp[d]) λm e c=>?_;exact k _ m s.toks (by simp[d]) ⟨e,st.2.extBut c.extBut f⟩ c
 done:=λs Q E st g=>gp j st.1 st.2 (by simp) g
theorem n_ (l:Addr)(items:Array Value)(n:Nat)(i:Option Addr)(e:Array (Option Value)) :
  Meets (Builtin.«enumerate.__new__» ⟨[.type "enumerate",.ref l],[]⟩) (λ_ R s=>s.heap.get? l=some { cls:=.type "tuple",dict:=i,data:=.seq items n,slots:=e } /\
   R (.ok (.ret (.ref (s.heap.push { cls:=.type "tuple_iterator",data:=.fields #[.ref l,.int 0 0] }).objs.size)))
    { s with heap:=(s.heap.push { cls:=.type "tuple_iterator",data:=.fields #[.ref l,.int 0 0] }).push { cls:=.type "enumerate",data:=.fields #[.none,.bool false,.ref s.heap.objs.size,rawInt 0,.none,.none] } }):=
 .of_wp λprog w A R s h=>by
  obtain⟨f,g,d,tk,os⟩:=s;obtain⟨a,h⟩:=h;have j:=sub_enumerate;have b:Heap.IsTuple (Shared.heap ⟨f,g,d,tk,os⟩) l items:=⟨_,a,rfl,n,rfl⟩
  wp_walk using AutoSeq1.wpAny_loadPart' a
  refine wpAny_stack_any λst=>wpAny_pure ?_;split
  ·rename_i c _ _ _ _ _;cases (c==Value.type "enumerate")
   ·wp_walk using AutoSeq1.wpAny_loadPart' a,wpAny_pyIter_tuple b
    exact⟨_,rfl,h⟩
   wp_walk using AutoSeq1.wpAny_loadPart' a,wpAny_pyIter_tuple b
   exact⟨_,rfl,h⟩
  wp_walk using AutoSeq1.wpAny_loadPart' a,wpAny_pyIter_tuple b
  exact⟨_,rfl,h⟩
theorem o6 {prog:Program}{w:World}{A:Around}{E:IG}{s:Shared}{l:Addr}{items:Array Value}{Q:IG}(f:IsTup s.heap l items)
  (h:∀ h',IsEnum h' (s.heap.objs.size+1) s.heap.objs.size 0 .none->h'.IsTupleIter s.heap.objs.size l 0->h'.objs.size=s.heap.objs.size+2 ->
   (∀ b o,s.heap.get? b=some o->h'.get? b=some o)->Q (.ref (s.heap.objs.size+1)) { s with heap:=h' }) :
  wpAny (model prog w) A (call (.type "enumerate") [.ref l]) Q E s:=by
 obtain⟨⟨c,i,j,e⟩,g,hc,n,hd⟩:=f
 replace hc:c = .type "tuple":=hc
 replace hd:j = .seq items n:=hd
 subst hc hd
 refine callType_new F.called_enumerate (by decide) (F.typeCall_enumerate_1 _) (F.newCall_enumerate_1 _) (λobj=>F.args_object_init_2 obj _) F.entry_enumerate_new
  (n_ l items n i e) ⟨g,?_⟩
 have a:(s.heap.push { cls:=.type "tuple_iterator",data:=.fields #[.ref l,.int 0 0] }).objs.size=s.heap.objs.size+1:=Heap.size_push ..;show _/\_;rw[a]
 have d:IsEnum ((s.heap.push { cls:=.type "tuple_iterator",data:=.fields #[.ref l,.int 0 0] }).push
   { cls:=.type "enumerate",data:=.fields #[.none,.bool false,.ref s.heap.objs.size,rawInt 0,.none,.none] }) (s.heap.objs.size+1) s.heap.objs.size 0 .none:=by
  have:=Heap.get?_push_size (s.heap.push { cls:=.type "tuple_iterator",data:=.fields #[.ref l,.int 0 0] })
   (o:={ cls:=.type "enumerate",data:=.fields #[.none,.bool false,.ref s.heap.objs.size,rawInt 0,.none,.none] }) rfl
  rw[a] at this;exact this
 refine⟨⟨_,d,rfl⟩,h _ d ⟨_,Heap.get?_push_of_some _ (Heap.get?_push_size _ rfl),rfl,rfl⟩ (by rw[Heap.size_push,a]) λb o x=>Heap.get?_push_of_some _ (Heap.get?_push_of_some _ x)⟩
theorem ji {prog:Program}{w:World}{A:Around}{E:IG}{s:Shared}{e it l:Addr}{i:Nat}{items:Array Value}{old:Value}{Q:Option Value->Shared->Prop}(k:A.handled=none)
  (c:IsEnum s.heap e it i old) (a:s.heap.IsTupleIter it l i) (n:s.heap.IsTuple l items) (f:items[i]?=none)
  (m:∀ h',Heap.ExtBut it s.heap h'->Q none { s with heap:=h' }):wpAny (model prog w) A (pyNext (.ref e)) Q E s:=by
 have d:s.TypeIs (.ref e) "enumerate":=⟨_,c,rfl⟩;unfold pyNext
 refine wpAny_bind (wpAny_attempt (wpAny_callSpecial?_slot (name:=Str.ofString "__next__") d F.slot_enumerate_next
  (wpAny_call_entry F.slot_enumerate_next d F.entry_enumerate_next ?_ (F.args_enumerate_next_1 _))))
 show wpAny _ _ (field (.ref e) 2 >>= _) _ _ _;refine wpAny_bind (wpAny_field c rfl (x:=.ref it) rfl ?_);refine wpAny_bind (gp k a n f λh' x g h=>?_);obtain⟨o,j,hc⟩:=h;refine wpAny_bind (wpAny_isInstance (T:="StopIteration") (b:=true) ⟨o,j,hc⟩ isSubtype_stop ?_);exact wpAny_pure (m _ g)
def VC (K:IF)(a:Addr):It:=
 ⟨λi H => ∃ b x,Ms K H a b/\b[i]?=some x,λi H x c => ∃ p y,H p=none/\x = .ref p/\c=upd H p (.tup [.int i,y])/\∀ b,Ms K H a b->b[i]?=some y,λi H => ∃ b,Ms K H a b/\b.length<=i⟩
theorem x_ {P:Program}{w:World}{K:IF}{es:List Expr}{k:Nat}{pt:Pos}(a e it:Addr)(L:e≠it)(VD:a≠e)(VE:a≠it):Turn P w K (.Tuple es k pt) (VC K a) [e,it] e (λi h=>(∃ old,IsEnum h e it i old)/\h.IsTupleIter it a i) where
 mem:=by simp
 obj:=λi h st b hb=>by
  obtain⟨⟨old,d⟩,o,l,hc,hd⟩:=st;rcases mem_cons.mp hb with rfl |hb
  ·exact⟨_,d,λv z=>by cases z⟩
  have:b=it:=by simpa using hb
  subst this;exact⟨o,l,λv z=>by rw[hd] at z;cases z⟩
 keep:=λi h h' st kp=>by
  obtain⟨⟨old,d⟩,o,l,r⟩:=st;exact⟨⟨old,kp e (by simp) _ d⟩,o,kp it (by simp) o l,r⟩
 item:=by
  intro X n V S hc i j s σ H E I B st O;subst n V S;obtain⟨D,x,G,U⟩:=O;obtain⟨its,N,p,hz⟩:=I.tuple G;obtain⟨u,hu,ru⟩:=N.get U;obtain⟨⟨old,d⟩,f⟩:=st;have JL:i<its.toArray.size:=by rw[size_toArray];exact(List.getElem?_eq_some_iff.mp hu).1
  refine wpAny_pyNext_enum_itemD (Draws.tup (A:=X.A.in1) (I.ok.hd hc) it a VE its.toArray) d ⟨f,p⟩ JL L (by simp[L,Ne.symm VD]) λy h' tk n l RU hT hsz hk=>?_
  have ey:y=u:=by
   have:its.toArray[i]?=some u:=by simpa using hu
   rw[this] at n;exact(Option.some.inj n).symm
  subst ey;refine⟨_,rfl,wpAny_letOwnedTupleGo_enum (s:={ s with heap:=h',toks:=tk+1 }) l λC RV M=>?_⟩;have hn:H s.heap.objs.size=none:=I.fresh;obtain⟨W,S8,Y4,VF,VG,VH⟩:=B e (by simp);obtain⟨t,F,VI,J,R,T⟩:=B it (by simp);have kp:∀ b o,b≠e->b≠it->s.heap.get? b=some o->C.get? b=some o:=λb o Z Oe g=>(M.2 b Z).trans (hk b o Z Oe g);have S_:s.heap.objs.size≠e:=ne_of_gt (Heap.lt_size d);have Of:C.get? s.heap.objs.size=some { cls:=.type "tuple",data:=.seq #[.int i tk,y] }:=(M.2 _ S_).trans hT;have ne:∀ b o,H b=some o->b≠s.heap.objs.size:=λb o q=>aK q hn
  have I1:Inv X j σ (upd H s.heap.objs.size (.tup [.int i,x])) { s with heap:=C,toks:=tk+1 }:=by
   refine I.step (h':=C) (g':=s.gens) (d':=s.drawn) (t':=tk+1) (ch:=[e,it]) (λb hb=>?_) (λb o _ _ hb g _=>kp b o (λz=>hb (by simp[z])) (λz=>hb (by simp[z])) g) (λb o _ _ hb g _=>⟨o.slots,kp b o (λz=>hb (by simp[z])) (λz=>hb (by simp[z])) g⟩)
    (λb o hb g n'=>by rw[aA (ne_of_lt (Heap.lt_size g))];exact n') (λb o hb g=>⟨o,kp b o (λz=>hb (by simp[z])) (λz=>hb (by simp[z])) g⟩)
    (λb D q=>by rw[aA (ne b _ q)];exact q) (λb o D q=>by rw[aA (ne b _ q)];exact q) (λb ps q=>⟨#[],by rw[aA (ne b _ q),q];simp⟩)
    (λm hm=>?_) (λb o q=>?_) I.bare
   ·rcases mem_cons.mp hb with rfl |hb
    ·exact⟨VF,S8,VG,VH⟩
    have:b=it:=by simpa using hb
    subst this;exact⟨J,F,R,T⟩
   ·obtain⟨o,es,ep,l,r⟩:=hm;exact⟨o,es,ep,kp _ o (Ne.symm S8) (Ne.symm F) l,r⟩
   by_cases hb:b=s.heap.objs.size
   ·subst hb;rw[IY] at q;cases q;exact⟨by show 2<=sizeLine;decide,[.int i tk,y],.cons ⟨tk,rfl⟩ (.cons ru .nil),_,Of⟩
   rw[aA hb] at q;refine(I.Jk b o q).K8 (λc v Y z=>kp c v ?_ ?_ z) (λc z=>by rw[aA (ne c _ z)];exact z) λc D z=>by rw[aA (ne c _ z)];exact z
   ·rcases Y with z' |z'
    ·rw[z'];exact aK q W
    exact aK z' W
   rcases Y with z' |z'
   ·rw[z'];exact aK q t
   exact aK z' t
  refine⟨.ref s.heap.objs.size,_,I1,rfl,⟨_,x,hn,rfl,rfl,λys hy=>by rw[I.Lo hy G];exact U⟩,⟨⟨y,RV⟩,RU.1.extBut M.extBut (Ne.symm L)⟩,λb hb=>?_⟩;rcases mem_cons.mp hb with rfl |hb
  ·rw[aA (Ne.symm S_)];exact W
  have:b=it:=by simpa using hb
  subst this;obtain⟨o,OR,_⟩:=f;rw[aA (ne_of_lt (Heap.lt_size OR))];exact t
 done:=by
  intro X n V S hc i j s σ H E I B st O;subst n V S;obtain⟨D,G,U⟩:=O;obtain⟨its,N,p,hz⟩:=I.tuple G;obtain⟨⟨old,d⟩,f⟩:=st;obtain⟨t,F,VI,J,R,T⟩:=B it (by simp);have hl:=N.length;exact ji (I.ok.hd hc) d f p (by simp;omega) λh' eb=>⟨rfl,I.turned (t':=s.toks) (λb o hb e=>eb b o hb e) t F J R T⟩
 self:=by
  intro A i s Q E st h;obtain⟨⟨old,d⟩,_⟩:=st;exact wpAny_pyIter_enum d h
def bx (i:Nat):List D->List D
 |[]=>[]
 |d::ds => .tup [.int i,d]::bx (i+1) ds
theorem bB:∀ (ds:List D) (i:Nat),(bx i ds).length=ds.length
 |[],_=>rfl
 |d::ds,i=>by rw[bx,length_cons,length_cons,bB ds]
theorem dB:∀ (ds:List D) (i j:Nat),(bx i ds)[j]?=(ds[j]?).map λd=>D.tup [.int (i+j:Nat),d]
 |[],_,_=>by simp[bx]
 |d::ds,i,0=>by simp[bx]
 |d::ds,i,j+1=>by
  rw[bx,getElem?_cons_succ,dB ds (i+1) j,getElem?_cons_succ,show i+1+j=i+(j+1) by omega]
theorem Walk.enum {a:Addr}{ds:List D}{xs:List V}{J:List Addr}{H:Hp}(t:TQ X.K H J a xs)(m:IT X.K H J ds xs):Walk X (VC X.K a) (bx 0 ds) J H where
 len:=by rw[bB,m.length];exact t.len
 go:=λf c i x b=>by
  rw[bB] at b;have m1:=m.ex x;obtain⟨v,h,_⟩:=m1.get (List.getElem?_eq_getElem b);exact⟨xs,v,(t.ex x).sq,h⟩
 Nz:=λf c i v l x k b y=>by
  obtain⟨p,y,g,rfl,rfl,j⟩:=y;obtain⟨d,e,a⟩:=(m.ex x).get' (j xs (t.ex x).sq);refine⟨.tup [.int i,d],by rw[dB,e];simp,At.KD (.cons (At.IP.mpr rfl) (.cons a .nil)) g k (by show 2<=sizeLine;decide),aN g _⟩
 stop:=λf c i x b=>by
  rw[bB] at b;exact⟨xs,(t.ex x).sq,by rw[← m.length];exact b⟩
def mF:List D->Option (List D)
 |[.tup xs]=>some (bx 0 xs)
 |_=>none
theorem qY {es:List Expr}{k:Nat}{pt p:Pos}{a:Expr}{t:IE (List D)}{x:Str}(w:x="enumerate")(M:X.mg x=none)(N:SA X W [a] t)(A:Gl X x:=by rfl)
  (C:starEach (a::[]) X.env=(false,eval a X.env)::starEach [] X.env:=by rfl) (JQ:(backTo pos (starEach [] X.env)).any (·.1)=false:=by rfl):SI X W (.Tuple es k pt) (.Call (.Name x p) [a] [] pos) (f7 mF t):=by
 subst w;intro c s l H R I h;refine wpAny_Call_Name_kw (gH I A M boot_enumerate ?_ (by decide) (by decide));refine callWith_type1 (Jj (N pos c s l H _ I (iB h)) λZ d L=>?_) C JQ;obtain⟨Y,g,e,y,J,S,Q,P,so,m,f,z⟩:=L;unfold mF at f;split at f
 ·rename_i O;cases f;obtain⟨v,r,rfl,q,n⟩:=IT.IQ.mp m;cases IT.IV.mp n;obtain⟨ad,T,rfl,j,F⟩:=At.Jb.mp q;obtain⟨u,rfl,E⟩:=vals1 y;cases E;obtain⟨its,U,pl,V⟩:=e.tuple j.sq;have i:ad<d.heap.objs.size:=pl.lt;refine o6 pl λG o it sz kp=>?_;have B:Inv X c l g { d with heap:=G }:=e.kept (t':=d.toks) kp;refine wpAny_pyIter_enum o ?_;refine⟨d.heap.objs.size+1,[d.heap.objs.size+1,d.heap.objs.size],_,VC X.K ad,g,rfl,B,x_ ad _ _ (ne_of_gt (lt_succ_self _)) (ne_of_lt (lt_succ_of_lt i)) (ne_of_lt i),⟨⟨_,o⟩,it⟩,λb hb=>?_,z g _ (I0.refl _) (Walk.enum j F)⟩;rcases mem_cons.mp hb with rfl |hb
  ·exact e.KY (le_succ _) (e.Jk.fresh (le_succ _))
  have:b=d.heap.objs.size:=by simpa using hb
  subst this;exact e.KY (le_refl _) e.fresh
 cases f
end
section
variable {X:Cx}{W:WT}
def wF:List D->Option (List Bool)
 |[]=>some []
 | .bl b::r=>(wF r).map (b::·)
 |_=>none
def Iz:List D->Option D
 |[.lst xs]=>(wF xs).map λbs => .bl (bs.all id)
 |_=>none
def zG:List D->Option D
 |[.lst xs]=>(wF xs).map λbs => .bl (bs.any id)
 |_=>none
theorem uS {K:IF}{H:Hp}{J:List Addr}:∀ {ds:List D}{bs:List Bool}{vs:List V}{us:List Value},wF ds=some bs->IT K H J ds vs->Vals vs us->us=bs.map Value.bool
 |[],bs,vs,us,e,m,r=>by
  cases e;cases IT.IV.mp m;cases r;rfl
 | .bl b::ds,bs,vs,us,e,m,r=>by
  obtain⟨i,c,h⟩:=map_eq_some_iff.mp (show (wF ds).map (b::·)=some bs from e);subst h;obtain⟨v,j,rfl,a,g⟩:=IT.IQ.mp m;cases At.Jn.mp a;cases r with
  |cons d f =>
   cases d;rw[uS c g f];rfl
 | .Ji::_,_,_,_,e,_,_=>by cases e
 | .int _::_,_,_,_,e,_,_=>by cases e
 | .str _::_,_,_,_,e,_,_=>by cases e
 | .tup _::_,_,_,_,e,_,_=>by cases e
 | .lst _::_,_,_,_,e,_,_=>by cases e
 | .set _::_,_,_,_,e,_,_=>by cases e
 | .loc _::_,_,_,_,e,_,_=>by cases e
 | .fn _ _::_,_,_,_,e,_,_=>by cases e
theorem sP {prog:Program}{w:World}{A:Around}(bs:List Bool):TruthOf prog w A (λi v=>(bs.map Value.bool).toArray[i]?=some v) (λi=>bs.getD i false):=by
 intro i v s Q E d a;have c:(bs.map Value.bool)[i]?=some v:=by simpa using d
 rw[getElem?_map] at c;obtain⟨b,e,f⟩:=map_eq_some_iff.mp c;subst f;have:bs.getD i false=b:=by rw[getD_eq_getElem?_getD,e];rfl
 have a:Q (bs.getD i false) s:=a;rw[this] at a;exact wpAny_truthy_bool a
theorem range_any (bs:List Bool):(List.range bs.length).any (λi=>bs.getD i false)=bs.any id:=by
 rw[Bool.eq_iff_iff,any_eq_true,any_eq_true];constructor
 ·rintro⟨i,a,h⟩;have a:=mem_range.mp a;rw[getD_eq_getElem?_getD,List.getElem?_eq_getElem a] at h;exact⟨_,getElem_mem a,h⟩
 rintro⟨x,b,h⟩;obtain⟨i,a,e⟩:=List.mem_iff_getElem.mp b;refine⟨i,mem_range.mpr a,?_⟩;rw[getD_eq_getElem?_getD,List.getElem?_eq_getElem a,e];exact h
theorem Fe (hc:X.calm=true):jw X (.builtin "any") zG:=by
 intro c s G H C N Q I r h;obtain⟨J,F,d,M,m,e,q⟩:=h;unfold zG at e;split at e
 ·rename_i E;obtain⟨bs,f,B⟩:=map_eq_some_iff.mp e;subst B;obtain⟨v,w,rfl,a,n⟩:=IT.IQ.mp m;cases IT.IV.mp n;obtain⟨p,D,rfl,t,l⟩:=At.Jc.mp a;obtain⟨u,rfl,j⟩:=vals1 r;cases j;obtain⟨its,y,pl,L⟩:=I.list t.sq;have g:=uS f l y;subst g;have x:p<s.heap.objs.size:=by obtain⟨o,n,e,_⟩:=pl;exact Heap.lt_size e
  refine call_any_walk (wpAny_pyIter_list pl.isList ?_);refine⟨s.heap.objs.size,_,_,_,_,_,λi=>bs.getD i false,rfl,Walks.list (A:=X.A.in1) (I.ok.hd hc) s.heap.objs.size p (ne_of_lt x) (bs.map Value.bool).toArray,⟨⟨_,Heap.get?_push_size _ rfl,rfl,rfl⟩,pl.isList.push _⟩,sP bs,λK tk k=>?_⟩;rw[size_toArray,length_map,range_any];refine⟨.bl _,H,I.kept λb o e=>k b o (λz=>?_) (Heap.get?_push_of_some _ e),rfl,q H _ (I0.refl H) (At.Jn.mpr rfl)⟩;have:b=s.heap.objs.size:=by simpa using z
  exact absurd (Heap.lt_size e) (by rw[this];exact Nat.lt_irrefl _)
 cases e
theorem Ca {prog:Program}{w:World}{A:Around}{E:IG}{s:Shared}{i:PyProof.Rows.KeyKind}(k : i.OneLt){x:Value}{Q:IG}
  (h:wpAny (model prog w) A.in1 (collect x) (λvs d=>PyProof.Rows.KeysOf i (pairsOf vs)/\(∀ a c rest,vs=a::c::rest->keyKind' (a::c::rest).toArray=pure oneType')/\vs.length<64 /\
   ∀ (f:SortSt) h' ep,(arrOf f).Perm (pairsOf vs)->SortedToK i (arrOf f) (pairsOf vs).size->(∀ b o,d.heap.get? b=some o->h'.get? b=some o)->h'.get? d.heap.objs.size=some (seqObj "list" ((arrOf f).map (·.2)) ep) ->
    Q (.ref d.heap.objs.size) { d with heap:=h' }) E s):wpAny (model prog w) A (call (.builtin "sorted") [x]) Q E s:=by
 refine Calls.call_function_entry kind_sorted plain_sorted entry_sorted (args_sorted1 _) ?_;unfold Builtin.«sorted»;refine wpAny_bind (m:=checkCount "sorted" 1 1 _) (wpAny_pure ?_);refine wpAny_bind (Jj h λvs d p=>?_);obtain⟨u,r,n,q⟩:=p;refine wpAny_bind (wpAny_newList ?_);have g:(d.heap.push (seqObj "list" vs.toArray 0)).get? d.heap.objs.size=some (seqObj "list" vs.toArray 0):=Heap.get?_push_size _ rfl;refine wpAny_bind (wpAny_holding (wpAny_call_entry slot_list_sort ⟨_,g,rfl⟩ entry_list_sort (list_sort_treeK k g u r n λf j l=>⟨_,rfl,?_⟩) (args_list_sort _)));obtain⟨ep,t⟩:=sortedHeap_at (out:=(arrOf f).map (·.2)) g
 exact wpAny_pure ⟨_,rfl,q f _ ep j l (λb o e=>by
  rw[sortedHeap_old (ne_of_lt (Heap.lt_size e)) (by rw[size_push'];exact lt_succ_of_lt (Heap.lt_size e))]
  exact Heap.get?_push_of_some _ e) t⟩
end
def Mw (a b:Str):Bool:=!Mv b a
theorem J6 {a b:Str}:Mw a b=true↔a.cps.toList<=b.cps.toList:=by unfold Mw Mv;rw[Bool.not_eq_true',decide_eq_false_iff_not,List.not_lt]
theorem lu (a b c:Str)(h:Mw a b=true)(g:Mw b c=true):Mw a c=true:=J6.mpr (List.le_trans (J6.mp h) (J6.mp g))
theorem p9 (a b:Str):(Mw a b ||Mw b a)=true:=by rw[or_eq_true,J6,J6];exact List.le_total _ _
theorem B6 {a b:Str}(h:a.cps.toList=b.cps.toList):a=b:=by cases a;cases b;congr;exact Array.toList_inj.mp h
theorem uc {a b:Str}(h:Mw a b=true)(g:Mw b a=true):a=b:=B6 (List.le_antisymm (J6.mp h) (J6.mp g))
def jp (l:List Str):List Str:=l.mergeSort Mw
theorem j4 {l c:List Str}(e:c.Perm l)(d:c.Pairwise λa b=>Mw a b=true):c=jp l:=
 List.Perm.eq_of_pairwise (le:=λa b=>Mw a b=true) (λa b _ _ h g=>uc h g) d (List.pairwise_mergeSort lu p9 l) (e.trans (mergeSort_perm l Mw).symm)
theorem pairwise_of_rising:∀ (p:Str) (l:List Str),risingS p l=true->(p::l).Pairwise λa b=>Mw a b=true
 |p,[],_=>by simp
 |p,x::r,h=>by
  have c:(!ltCps x.cps.toList p.cps.toList&&risingS x r)=true:=h;rw[and_eq_true] at c;have d:Mw p x=true:=by unfold Mw Mv;rw[← ltCps_eq];exact c.1
  have t:=pairwise_of_rising x r c.2;refine pairwise_cons.mpr ⟨λy hy=>?_,t⟩;rcases mem_cons.mp hy with rfl |hy
  ·exact d
  exact lu _ _ _ d ((pairwise_cons.mp t).1 y hy)
theorem jj {l:List Str}(h:sortedS l=true):l.Pairwise λa b=>Mw a b=true:=by
 cases l with
 |nil=>exact .nil
 |cons x r=>exact pairwise_of_rising x r h
def UH (a b:Int):Bool:=decide (a<=b)
def sortI (l:List Int):List Int:=l.mergeSort UH
theorem qW {l d:List Int}(f:d.Perm l)(e:d.Pairwise (·<=·)):d=sortI l:=by
 refine List.Perm.eq_of_pairwise (le:=λa b=>UH a b=true) (λa b _ _ h g=>?_) (e.imp λh=>decide_eq_true h) (List.pairwise_mergeSort (λa b c h g=>?_) (λa b=>?_) l) (f.trans (mergeSort_perm l UH).symm)
 ·exact Int.le_antisymm (of_decide_eq_true h) (of_decide_eq_true g)
 ·exact decide_eq_true (Int.le_trans (of_decide_eq_true h) (of_decide_eq_true g))
 unfold UH;rw[or_eq_true,decide_eq_true_eq,decide_eq_true_eq];exact Int.le_total a b
def eS:List D->Option (List Str)
 |[]=>some []
 | .str x::r=>(eS r).map (x::·)
 |_=>none
def cu:List D->Option (List Int)
 |[]=>some []
 | .int x::r=>(cu r).map (x::·)
 |_=>none
theorem i4:∀ ss:List Str,eS (ss.map .str)=some ss
 |[]=>rfl
 |x::r=>by rw[map_cons,eS,i4 r];rfl
theorem JX:∀ ss:List Int,cu (ss.map .int)=some ss
 |[]=>rfl
 |x::r=>by rw[map_cons,cu,JX r];rfl
theorem nA:∀ {ds:List D}{ss:List Str},eS ds=some ss->ds=ss.map .str
 |[],ss,e=>by cases e;rfl
 | .str x::r,ss,e=>by
  obtain⟨t,a,b⟩:=map_eq_some_iff.mp (show (eS r).map (x::·)=some ss from e);subst b;rw[nA a];rfl
 | .Ji::_,_,e=>by cases e
 | .bl _::_,_,e=>by cases e
 | .int _::_,_,e=>by cases e
 | .tup _::_,_,e=>by cases e
 | .lst _::_,_,e=>by cases e
 | .set _::_,_,e=>by cases e
 | .loc _::_,_,e=>by cases e
 | .fn _ _::_,_,e=>by cases e
theorem fq:∀ {ds:List D}{ss:List Int},cu ds=some ss->ds=ss.map .int
 |[],ss,e=>by cases e;rfl
 | .int x::r,ss,e=>by
  obtain⟨t,a,b⟩:=map_eq_some_iff.mp (show (cu r).map (x::·)=some ss from e);subst b;rw[fq a];rfl
 | .Ji::_,_,e=>by cases e
 | .bl _::_,_,e=>by cases e
 | .str _::_,_,e=>by cases e
 | .tup _::_,_,e=>by cases e
 | .lst _::_,_,e=>by cases e
 | .set _::_,_,e=>by cases e
 | .loc _::_,_,e=>by cases e
 | .fn _ _::_,_,e=>by cases e
theorem vB {a b:List D}(p:a.Perm b):∀ {sb},eS b=some sb->∃ sa,eS a=some sa/\sa.Perm sb:=by
 induction p with
 |nil=>intro sb e;exact⟨sb,e,.refl _⟩
 |cons x p j =>
  intro sb e;cases x with
  |str z =>
   obtain⟨t,c,d⟩:=map_eq_some_iff.mp (show (eS _).map (z::·)=some sb from e);subst d;obtain⟨sa,g,h⟩:=j c;exact⟨z::sa,by rw[eS,g];rfl,.cons z h⟩
  |_=>cases e
 |swap x y l =>
  intro sb e;cases x with
  |str z =>
   cases y with
   |str f =>
    obtain⟨t,c,d⟩:=map_eq_some_iff.mp (show (eS (.str f::l)).map (z::·)=some sb from e);obtain⟨i,g,h⟩:=map_eq_some_iff.mp (show (eS l).map (f::·)=some t from c);subst d h;exact⟨f::z::i,by rw[eS,eS,g];rfl,.swap z f i⟩
   |_=>cases e
  |_=>cases e
 |trans _ _ m n =>
  intro sb e;obtain⟨q,c,o⟩:=n e;obtain⟨sa,d,k⟩:=m c;exact⟨sa,d,k.trans o⟩
theorem v9 {a b:List D}(p:a.Perm b):∀ {sb},cu b=some sb->∃ sa,cu a=some sa/\sa.Perm sb:=by
 induction p with
 |nil=>intro sb e;exact⟨sb,e,.refl _⟩
 |cons x p j =>
  intro sb e;cases x with
  |int z =>
   obtain⟨t,c,d⟩:=map_eq_some_iff.mp (show (cu _).map (z::·)=some sb from e);subst d;obtain⟨sa,g,h⟩:=j c;exact⟨z::sa,by rw[cu,g];rfl,.cons z h⟩
  |_=>cases e
 |swap x y l =>
  intro sb e;cases x with
  |int z =>
   cases y with
   |int f =>
    obtain⟨t,c,d⟩:=map_eq_some_iff.mp (show (cu (.int f::l)).map (z::·)=some sb from e);obtain⟨i,g,h⟩:=map_eq_some_iff.mp (show (cu l).map (f::·)=some t from c);subst d h;exact⟨f::z::i,by rw[cu,cu,g];rfl,.swap z f i⟩
   |_=>cases e
  |_=>cases e
 |trans _ _ m n =>
  intro sb e;obtain⟨q,c,o⟩:=n e;obtain⟨sa,d,k⟩:=m c;exact⟨sa,d,k.trans o⟩
section
variable {K:IF}{H:Hp}{J:List Addr}
theorem IT.strs:∀ {ss:List Str}{vs:List V}{us:List Value},IT K H J (ss.map .str) vs->Vals vs us->StrsAre us ss/\vs=ss.map V.str/\∀ x∈ss,Qg x
 |[],vs,us,m,r=>by
  cases IT.IV.mp m;cases r;exact⟨.nil,rfl,by simp⟩
 |x::ss,vs,us,m,r=>by
  obtain⟨v,h,rfl,a,f⟩:=IT.IQ.mp m;obtain⟨ev,ok⟩:=At.Je.mp a;subst ev;cases r with
  |cons b e =>
   obtain⟨t,rfl⟩:=b;obtain⟨c,g,d⟩:=IT.strs f e;refine⟨.cons x t c,by rw[g];rfl,λy hy=>?_⟩;rcases mem_cons.mp hy with rfl |hy
   ·exact ok
   exact d y hy
theorem IT.ofStrs:∀ {ss:List Str},(∀ x∈ss,Qg x)->IT K H J (ss.map .str) (ss.map V.str)
 |[],_ => .nil
 |x::ss,h => .cons (At.Je.mpr ⟨rfl,h x (mem_cons_self ..)⟩) (IT.ofStrs λy a=>h y (mem_cons_of_mem _ a))
theorem pz:∀ {us:List Value}{ss:List Str},StrsAre us ss->Vals (ss.map V.str) us
 |_,_,.nil => .nil
 |_,_,.cons x t h => .cons ⟨t,rfl⟩ (pz h)
end
section
theorem zV {prog:Program}{w:World}{A:Around}{E:IG}{s:Shared}{x:Value}{Q:IG}
  (h:wpAny (model prog w) A.in1 (collect x) (λvs a => ∃ ns,IntsAre vs ns/\vs.length<64 /\
   ∀ (out:Array Value) (c:List Int) h' ep,IntsAre out.toList c->c.Perm ns->c.Pairwise (·<=·)->(∀ b o,a.heap.get? b=some o->h'.get? b=some o)->h'.get? a.heap.objs.size=some (seqObj "list" out ep) ->
    Q (.ref a.heap.objs.size) { a with heap:=h' }) E s):wpAny (model prog w) A (call (.builtin "sorted") [x]) Q E s:=by
 refine Calls.call_function_entry kind_sorted plain_sorted entry_sorted (args_sorted1 _) ?_;unfold Builtin.«sorted»;refine wpAny_bind (m:=checkCount "sorted" 1 1 _) (wpAny_pure ?_);refine wpAny_bind (Jj h λvs a k=>?_);obtain⟨ns,l,j,q⟩:=k;refine wpAny_bind (wpAny_newList ?_);have d:(a.heap.push (seqObj "list" vs.toArray 0)).get? a.heap.objs.size=some (seqObj "list" vs.toArray 0):=Heap.get?_push_size _ rfl;refine wpAny_bind (wpAny_holding (wpAny_call_entry slot_list_sort ⟨_,d,rfl⟩ entry_list_sort (list_sort_tree d l j λout c f g i=>⟨_,rfl,?_⟩) (args_list_sort _)));obtain⟨ep,n⟩:=sortedHeap_at (out:=out) d
 exact wpAny_pure ⟨_,rfl,q out c _ ep f g i (λb o e=>by
  rw[sortedHeap_old (ne_of_lt (Heap.lt_size e)) (by rw[size_push'];exact lt_succ_of_lt (Heap.lt_size e))]
  exact Heap.get?_push_of_some _ e) n⟩
end
section
variable {X:Cx}{W:WT}
def d4 (xs:List D):Option (List D):=if xs.length<64 then
  match eS xs with
  |some a=>some ((jp a).map .str)
  |none=>(cu xs).map λns=>(sortI ns).map .int
 else none
theorem i5 {c:II}{u:St}{H:Hp}{s:Shared}{J:List Addr}{x:Value}{ds:List D}{out:List D}{Q:VK}(hJ:∀ a∈J,H a≠none)(e:d4 ds=some out)(q:∀ H' v,I0 H H'->At X.K H' J (.lst out) v->Q v H')
  (O:∀ (P:List Value->Shared->Prop) (E:IG),(∀ us vs d r,Inv X c u H d->Vals vs us->r.Perm ds->IT X.K H J r vs->P us d)->wpAny (model X.prog X.w) X.A.in1 (collect x) P E s) :
  wpAny (model X.prog X.w) X.A (call (.builtin "sorted") [x]) (EP X c u Q) X.xe s:=by
 unfold d4 at e;split at e
 ·rename_i p
  have fin:∀ {d:Shared}{i:Heap}{ep:Nat}{us':List Value}{t:List V}(g:Inv X c u H d) (k:∀ b o,d.heap.get? b=some o->i.get? b=some o) (j:i.get? d.heap.objs.size=some (seqObj "list" us'.toArray ep)) (f:Vals t us') (m:IT X.K H J out t) (F:t.length<=sizeLine),
    EP X c u Q (.ref d.heap.objs.size) { d with heap:=i }:=λ{d i ep us' t} g k j f m F =>
   ⟨.ref d.heap.objs.size,_,g.laid (t':=d.toks) (o:=.lst t) k (le_refl _) ⟨F,us',ep,f,j⟩,rfl,q _ _ (aN g.fresh _) (At.La m g.fresh hJ F)⟩
  split at e
  ·rename_i n es;cases e;have B:=nA es;subst B;refine Ca strKind_oneLt (O _ _ λus vs d r g f G m=>?_);have Y6:∃ I,eS r=some I/\I.Perm n:=by exact vB G (i4 n)
   obtain⟨I,C,h⟩:=Y6;have y:=nA C;subst y;obtain⟨sa,ev,ok⟩:=IT.strs m f;have l:us.length=n.length:=by rw[← f.length,ev,length_map];exact h.length_eq
   refine⟨sa.keysOf,λM R rest e=>keyKind_strs (by rw[← e];exact sa),by rw[length_map] at p;omega,λU i ep hp hs k j=>?_⟩;obtain⟨so,Y,z,h3⟩:=sorted_out_str sa hp hs;have L:so=jp n:=j4 (z.trans h) (jj h3);subst L;have Y7:∀ x∈jp n,Qg x:=λx T=>ok x (z.mem_iff.mp T);refine fin (us':=((arrOf U).map (·.2)).toList) g k (by rw[Array.toArray_toList];exact j) (pz Y) (IT.ofStrs Y7) ?_;rw[length_map,(z.trans h).length_eq];rw[length_map] at p;exact Nat.le_of_lt (lt_of_lt_of_le p (by decide))
  obtain⟨ns,es,eo⟩:=map_eq_some_iff.mp e;subst eo;have B:=fq es;subst B;refine zV (O _ _ λus vs d r g f G m=>?_);obtain⟨W,C,h⟩:=v9 G (JX ns);have y:=fq C;subst y;have ev:=IT.Lp m;subst ev;have hI:=intsAre_of f;have l:us.length=ns.length:=by rw[← f.length,length_map];exact h.length_eq
  rw[length_map] at p;refine⟨W,hI,by omega,λout no i ep S N Z k j=>?_⟩;have L:no=sortI ns:=qW (N.trans h) Z;subst L;refine fin (us':=out.toList) g k (by rw[Array.toArray_toList];exact j) (kW S) (IT.ofInts _) ?_;rw[length_map,(N.trans h).length_eq];exact Nat.le_of_lt (lt_of_lt_of_le p (by decide))
 cases e
def zW:List D->Option D
 |[.tup xs]=>(d4 xs).map .lst
 |[.lst xs]=>(d4 xs).map .lst
 |_=>none
theorem Dq:jw X (.builtin "sorted") zW:=by
 intro B s L H G M Q I r h;obtain⟨J,K,d,A,m,e,q⟩:=h;unfold zW at e;split at e
 ·rename_i i;obtain⟨out,c,z⟩:=map_eq_some_iff.mp e;subst z;obtain⟨v,w,rfl,a,n⟩:=IT.IQ.mp m;cases IT.IV.mp n;obtain⟨p,f,rfl,t,j⟩:=At.Jb.mp a;obtain⟨u,rfl,g⟩:=vals1 r;cases g;obtain⟨its,b,⟨o,l,hc,C,hd⟩,y⟩:=I.tuple t.sq;refine i5 A c q λF E x=>wpAny_collect_seq p (.inr rfl) l hc hd (λD k=>?_) (by rw[size_toArray,← b.length];exact y);exact x _ f _ i (I.kept (t':=s.toks) k) (by simpa using b) (.refl _) j
 ·rename_i i;obtain⟨out,c,z⟩:=map_eq_some_iff.mp e;subst z;obtain⟨v,w,rfl,a,n⟩:=IT.IQ.mp m;cases IT.IV.mp n;obtain⟨p,f,rfl,t,j⟩:=At.Jc.mp a;obtain⟨u,rfl,g⟩:=vals1 r;cases g;obtain⟨its,b,⟨o,C,l,hc,_,hd⟩,y⟩:=I.list t.sq;refine i5 A c q λF E x=>wpAny_collect_seq p (.inl rfl) l hc hd (λD k=>?_) (by rw[size_toArray,← b.length];exact y);exact x _ f _ i (I.kept (t':=s.toks) k) (by simpa using b) (.refl _) j
 cases e
end
def eV (a b:D):Bool:=decide (eA a=eA b)
def putD (kvs:List (D×D))(k v:D):List (D×D):=if (kvs.any λp=>eV p.1 k)=true then kvs.map (λp=>if eV p.1 k=true then (p.1,v) else p) else kvs++[(k,v)]
def getD (kvs:List (D×D))(k:D):Option D:=(kvs.find? λp=>eV p.1 k).map (·.2)
abbrev P5 (K:IF)(H:Hp)(J:List Addr):(D×D)->(Key×V)->Prop:=λp q=>(eA p.1=some q.1/\At K H J p.1 (kV q.1))/\At K H J p.2 q.2
section
variable {K:IF}{H H':Hp}{J J':List Addr}
theorem nO {a k:D}{x y:Key}(h:eA a=some x)(g:eA k=some y):eV a k=decide (x=y):=by
 unfold eV;rw[h,g];by_cases e:x=y
 ·subst e;simp
 rw[decide_eq_false e,decide_eq_false (λz=>e (Option.some.inj z))]
theorem Fu {kvs:List (D×D)}{a:List (Key×V)}{k:D}{y:Key}(g:eA k=some y)(r:Paired (P5 K H J) kvs a):(kvs.any λp=>eV p.1 k)=a.any λq=>decide (q.1=y):=by
 induction r with
 |nil=>rfl
 |cons h t b=>rw[any_cons,any_cons,b,nO h.1.1 g]
theorem yu {kvs:List (D×D)}{a:List (Key×V)}{k v:D}{y:Key}{w:V}(g:eA k=some y)(b:At K H J v w)(r:Paired (P5 K H J) kvs a):Paired (P5 K H J) (kvs.map λp=>if eV p.1 k=true then (p.1,v) else p) (a.map λq=>if q.1=y then (q.1,w) else q):=by
 induction r with
 |nil=>exact .nil
 | @cons p q d f h t c =>
  refine .cons ?_ c;show P5 K H J (if eV p.1 k=true then (p.1,v) else p) (if q.1=y then (q.1,w) else q);rw[nO h.1.1 g];by_cases e:q.1=y
  ·rw[if_pos (decide_eq_true e),if_pos e];exact⟨h.1,b⟩
  rw[if_neg (by rw[decide_eq_false e];decide),if_neg e];exact h
theorem yw {k v:D}{y:Key}{w:V}(g:eA k=some y)(e:At K H J k (kV y))(c:At K H J v w){a:List (D×D)}{b:List (Key×V)}(h:Paired (P5 K H J) a b):Paired (P5 K H J) (a++[(k,v)]) (b++[(y,w)]):=by
 induction h with
 |nil=>exact .cons ⟨⟨g,e⟩,c⟩ .nil
 |cons h t d=>exact .cons h d
theorem El {kvs:List (D×D)}{b:List (Key×V)}{k v:D}{y:Key}{w:V}(g:eA k=some y)(c:At K H J k (kV y))(a:At K H J v w)(r:Paired (P5 K H J) kvs b):Paired (P5 K H J) (putD kvs k v) (putK b y w):=by
 unfold putD putK;rw[Fu g r];split
 ·exact yu g a r
 exact yw g c a r
theorem Bi {kvs:List (D×D)}{a:List (Key×V)}{k:D}{y:Key}(g:eA k=some y)(r:Paired (P5 K H J) kvs a) :
  (getD kvs k=none/\jZ a y=none)∨∃ d v,getD kvs k=some d/\jZ a y=some v/\At K H J d v:=by
 unfold getD jZ
 induction r with
 |nil=>exact .inl ⟨rfl,rfl⟩
 | @cons p q c f h t b =>
  rw[find?_cons,find?_cons,nO h.1.1 g];by_cases e:q.1=y
  ·rw[decide_eq_true e];exact .inr ⟨p.2,q.2,rfl,rfl,h.2⟩
  rw[decide_eq_false e];exact b
theorem jD {α b:Type}{F : α->b->Prop}{a:List α}{c:List b}(r:Paired F a c):a.length=c.length:=Paired.length r
end
section
variable {X:Cx}{W:WT}{pos pos':Pos}{o i e:Expr}{fo fi fv:IE D}
def uP:IE D:=λ_ S=>IX (.loc S.length) (S++[.dict []])
theorem Jg.push {K:IF}{J:List Addr}{S:IL}{H:Hp}{p:Addr}{o:HO}{mo:MO}(s:Jg K J S H)(e:H p=none)(i:OG K (upd H p o) (J++[p]) mo p):Jg K (J++[p]) (S++[mo]) (upd H p o)/\Ex J H (J++[p]) (upd H p o):=by
 have x:Ex J H (J++[p]) (upd H p o):=⟨⟨[p],rfl⟩,λb u hb j=>⟨by rw[aA (aK hb e)];exact hb,λz=>by
  rcases mem_append.mp z with z |z
  ·exact j z
  exact aK hb e (by simpa using z)⟩⟩
 refine⟨⟨by rw[List.length_append,List.length_append,s.len];rfl,?_,λl a h c d=>?_⟩,x⟩
 ·rw[nodup_append];refine⟨s.nd,by simp,λa k b hb z=>?_⟩;have:b=p:=by simpa using hb
  subst this;exact s.tracked k (z▸e)
 by_cases g:l<J.length
 ·rw[getElem?_append_left g] at c;rw[getElem?_append_left (by rw[← s.len];exact g)] at d;have q:=s.at_ l a h c d;refine q.ex x ?_;rw[aA];intro z;exact q.LN (z▸e)
 rw[getElem?_append_right (by omega)] at c;rw[getElem?_append_right (by rw[← s.len];omega)] at d;have f:l-J.length=0:=by have:=(List.getElem?_eq_some_iff.mp c).1;simp at this;omega
 rw[f] at c;rw[← s.len,f] at d;simp at c d;subst c d;exact i
theorem qZ:SE X W (.Dict [] [] pos) uP:=OT.imp λb H Q h=>by obtain⟨J,d,S,r,f,c,_,e,z⟩:=h;cases e;intro p a;have q:=c.Jr.push (o:=.dK []) (mo:=.dict []) a ⟨[],IY,.nil⟩;refine z (J++[p]) _ _ q.2 q.1 (At.I_.mpr ⟨p,rfl,?_⟩);rw[← c.Jr.len,getElem?_append_right (le_refl _)];simp
theorem Jg.update {K:IF}{J:List Addr}{S:IL}{H:Hp}{l:Nat}{a:Addr}{o:HO}{mo:MO}(s:Jg K J S H)(e:J[l]?=some a)(m:∀ g H',Ex J H g H'->H'=upd H a o->g=J->OG K H' g mo a):Jg K J (S.set l mo) (upd H a o)/\Ex J H J (upd H a o):=by
 have n:a∈J:=mem_of_getElem? e;have x:Ex J H J (upd H a o):=⟨prefix_refl _,λb u hb h=>⟨by rw[aA (λz:b=a=>h (by rw[z];exact n))];exact hb,h⟩⟩;refine⟨⟨by rw[length_set];exact s.len,s.nd,λj b i c d=>?_⟩,x⟩;by_cases f:j=l
 ·subst f;rw[e] at c;cases c;have k:j<S.length:=by rw[← s.len];exact(List.getElem?_eq_some_iff.mp e).1
  rw[getElem?_set_self k] at d;cases d;exact m J _ x rfl rfl
 rw[getElem?_set_ne (Ne.symm f)] at d;refine(s.at_ j b i c d).ex x ?_;rw[aA];intro z;subst z;exact f ((List.getElem?_inj (List.getElem?_eq_some_iff.mp c).1 s.nd).mp (c.trans e.symm))
def tx (x k v:D)(ρ:IM)(S:IL):Out Fl:=match x with
 | .loc l=>match S[l]?,eA k with
  |some (.dict kvs),some _=>if kvs.length<sizeLine then IX (.next ρ) (S.set l (.dict (putD kvs k v))) else none
  |_,_=>none
 |_=>none
def wD (fo fi fv:IE D):IE Fl:=λa S=>ai (fv a S) λv d=>ai (fo a d) λx b=>ai (fi a b) λk c=>tx x k v a c
def tH (X:Cx)(W:WT)(ds:List D)(vs:List V)(g:IE Fl):TS:=λE c H => ∃ J a S r b,Cf X J a S c H/\IT X.K H J ds vs/\g a S=some (r,b)/\MW X W J H r b E
theorem tH.IZ {g:IE D}{k:D->IE Fl}{ds:List D}{vs:List V}{E:Ends}{f:St}{H:Hp}
  (h:tH X W ds vs (λρ S=>ai (g ρ S) λd b=>k d ρ b) E f H):tE X W g f H λv i => ∃ d,tH X W (d::ds) (v::vs) (k d) E f i:=by
 obtain⟨J,ρ,S,r,l,c,a,e,z⟩:=h;cases q:g ρ S with
 |none=>simp[q] at e
 |some o =>
  obtain⟨n,b⟩:=o;simp only[q] at e;cases n with
  |error x =>
   cases e;exact⟨J,ρ,S,.error x,_,c,.nil,q,z⟩
  |ok d=>exact⟨J,ρ,S,.ok d,b,c,.nil,q,λp i v x j m=>⟨d,p,ρ,b,r,l,c.re x j,.cons m (a.ex x),e,z.ex x⟩⟩
theorem uf {k:D}{y:Key}{K:IF}{H:Hp}{J:List Addr}{v:V}(g:eA k=some y)(a:At K H J k v):v=kV y:=by
 cases k with
 |int i=>cases g;exact At.IP.mp a
 |str x=>cases g;exact(At.Je.mp a).1
 |_=>cases g
theorem vD (Q:X.A.units+1<cLine)(K:SE X W o fo)(U:SE X W i fi)(B:SE X W e fv)(T:swapsWith e (some (.Subscript o i pos')) pos.line X.env=pure false:=by rfl):SS X W (.Assign [.Subscript o i pos'] e pos) (wD fo fi fv):=
 (Ct Q K U B T).imp λE j H h=>by
  have h:tH X W [] [] (wD fo fi fv) E j H:=let ⟨J,g,S,r,n,c,e,z⟩:=h;⟨J,g,S,r,n,c,.nil,e,z⟩;refine(tH.IZ h).mono λv H1 ⟨w,G⟩=>(tH.IZ G).mono λx Y ⟨R,D⟩=>(tH.IZ D).mono λy Z ⟨L,P⟩=>?_;obtain⟨J,g,S,r,n,c,m,e,z⟩:=P;obtain⟨mk,m⟩:=m.IU;obtain⟨V,m⟩:=m.IU;obtain⟨C,_⟩:=m.IU;unfold tx at e;cases R with
  |loc l =>
   simp only at e;split at e
   ·rename_i d N es f;split at e
    ·rename_i lt;cases e;obtain⟨a,rfl,t⟩:=At.I_.mp V;obtain⟨F,u,s⟩:=c.Jr.at_ l a _ t es;have M:=uf f mk;subst M;have q:=c.Jr.update (o:=.dK (putK F N v)) (mo:=.dict (putD d L w)) t λJ' H' b I O=>by subst I O;refine⟨_,IY,El f (mk.ex b) (C.ex b) ?_⟩;exact Paired.MN s λp q z=>⟨⟨z.1.1,z.1.2.ex b⟩,z.2.ex b⟩
     exact⟨a,_,rfl,OS.k u (by rw[← jD s];exact lt),z J j _ q.2 (c.re q.2 q.1)⟩
    cases e
   cases e
  |_=>cases e
def Dl (neg:Bool)(k x:D)(S:IL):Option D:=match x with
 | .loc l=>match S[l]?,eA k with
  |some (.dict kvs),some _=>some (.bl (if neg then !(getD kvs k).isSome else (getD kvs k).isSome))
  |_,_=>none
 |_=>none
def BG (neg:Bool)(c fd:IE D):IE D:=λa S=>ai (c a S) λk d=>ai (fd a d) λx b=>aJ (Dl neg k x b) b
theorem uy {neg:Bool}{f:St}{H:Hp}{Q:VK}(h:tE X W (BG neg fi fo) f H Q):tE X W fi f H λy n=>tE X W fo f n λx b => ∃ a o,x = .ref a/\LH b a y o/\Q (.bl (if neg then !o.isSome else o.isSome)) b:=
 (tG.IZ h).mono λy n ⟨K,t⟩=>(tG.IZ t).mono λx b w=>by
  obtain⟨B,s⟩:=w
  obtain⟨J,G,S,r,I,c,m,e,z⟩:=s;obtain⟨D,m⟩:=m.IU;obtain⟨mk,_⟩:=m.IU;unfold Dl at e;cases B with
  |loc l =>
   simp only at e;split at e
   ·rename_i A L es j;cases e;obtain⟨a,rfl,E⟩:=At.I_.mp D;obtain⟨F,p,C⟩:=c.Jr.at_ l a _ E es;have u:=uf j mk;subst u;refine⟨a,_,rfl,LH.k p,?_⟩;have q:=z J b _ Ex.refl c.Jr (At.Jn.mpr rfl);rcases Bi j C with ⟨g,i⟩ |⟨d,v,g,i,_⟩
    ·rw[g] at q;rw[i];exact q
    rw[g] at q;rw[i];exact q
   cases e
  |_=>cases e
theorem Ec (b:X.A.units+1<cLine)(d:SE X W i fi)(c:SE X W o fo)(a:behindInMarks .In o=false:=by with_unfolding_all rfl):SE X W (.Compare i [.In] [o] pos) (BG false fi fo):=
 (EF (EH b d c) a).imp λe H Q h=>uy (neg:=false) h
theorem yd (b:X.A.units+1<cLine)(d:SE X W i fi)(c:SE X W o fo)(a:behindInMarks .NotIn o=false:=by with_unfolding_all rfl):MC X W (.Compare i [.NotIn] [o] pos) (bF (BG true fi fo)):=
 (Am (yF b d c) a).imp λe H Q h=>Lw.mono (t:=wW (tE X W fi) (tE X W fo)) (λ_ _ _=>uy (neg:=true)) (j0 h)
def xF (x k:D)(S:IL):Option D:=match x with
 | .loc l=>match S[l]?,eA k with
  |some (.dict kvs),some _=>getD kvs k
  |_,_=>none
 |_=>none
def GH (fd c:IE D):IE D:=λa S=>ai (fd a S) λx d=>ai (c a d) λk b=>aJ (xF x k b) b
theorem Cj (C:X.A.units+1<cLine)(t:SE X W o fo)(G:SE X W i fi)(E:zJ i):SE X W (.Subscript o i pos) (GH fo fi):=(CH C t G E).imp λN H Q h =>
 (tG.IZ h).mono λx O ⟨D,s⟩=>(tG.IZ s).mono λy p w=>by
  obtain⟨R,q⟩:=w
  obtain⟨J,M,S,r,P,c,m,e,z⟩:=q;obtain⟨mk,m⟩:=m.IU;obtain⟨I,_⟩:=m.IU;unfold xF at e;cases D with
  |loc l =>
   simp only at e;split at e
   ·rename_i B T es f;obtain⟨a,rfl,K⟩:=At.I_.mp I;obtain⟨L,j,F⟩:=c.Jr.at_ l a _ K es;have u:=uf f mk;subst u;rcases Bi f F with ⟨b,g⟩ |⟨d,v,b,g,n⟩
    ·rw[b] at e;cases e
    rw[b] at e;cases e;exact⟨a,v,rfl,by rw[← g];exact LH.k j,z J p _ Ex.refl c.Jr n⟩
   cases e
  |_=>cases e
end
section
variable {X:Cx}{W:WT}
theorem SE.either {e:Expr}{g g1 g2:IE D}(j:SE X W e g1)(i:SE X W e g2)(h:∀ ρ S,g ρ S=g1 ρ S∨g ρ S=g2 ρ S):SE X W e g:=λb s d H Q I z=>by
 obtain⟨J,ρ,S,r,f,c,a,e,y⟩:=z;rcases h ρ S with q |q
 ·exact j b s d H Q I ⟨J,ρ,S,r,f,c,a,by rw[← q];exact e,y⟩
 exact i b s d H Q I ⟨J,ρ,S,r,f,c,a,by rw[← q];exact e,y⟩
theorem MC.either {e:Expr}{g g1 g2:IE Bool}(j:MC X W e g1)(i:MC X W e g2)(h:∀ ρ S,g ρ S=g1 ρ S∨g ρ S=g2 ρ S):MC X W e g:=λb s d H Q I z=>by
 obtain⟨J,ρ,S,r,f,c,a,e,y⟩:=z;rcases h ρ S with q |q
 ·exact j b s d H Q I ⟨J,ρ,S,r,f,c,a,by rw[← q];exact e,y⟩
 exact i b s d H Q I ⟨J,ρ,S,r,f,c,a,by rw[← q];exact e,y⟩
theorem SI.either {b e:Expr}{g g1 g2:IE (List D)}(j:SI X W b e g1)(i:SI X W b e g2)(h:∀ ρ S,g ρ S=g1 ρ S∨g ρ S=g2 ρ S):SI X W b e g:=λa s d H R I z=>by
 obtain⟨J,ρ,S,r,f,c,e,y⟩:=z;rcases h ρ S with q |q
 ·exact j a s d H R I ⟨J,ρ,S,r,f,c,by rw[← q];exact e,y⟩
 exact i a s d H R I ⟨J,ρ,S,r,f,c,by rw[← q];exact e,y⟩
theorem cb {α e:Type}(m:Out α){k b d : α->IL->Out e}(h:∀ a S,k a S=b a S∨k a S=d a S):ai m k=ai m b∨ai m k=ai m d:=by
 cases m with
 |none=>exact .inl rfl
 |some o =>
  obtain⟨r,S⟩:=o;cases r with
  |error c=>exact .inl rfl
  |ok a=>exact h a S
def bP:D->Bool
 | .loc _=>true
 |_=>false
def JT (x i:D)(S:IL):Option D:=if bP x=true then xF x i S else Qi x i
def KG (d c:IE D):IE D:=λa S=>ai (d a S) λx e=>ai (c a e) λi b=>aJ (JT x i b) b
variable {a b:Expr}{fa fb:IE D}{pos:Pos}
theorem aP (g:X.A.units+1<cLine)(f:SE X W a fa)(hb:SE X W b fb)(d:zJ b:=by exact λ_ _=>rfl):SE X W (.Subscript a b pos) (KG fa fb):=
 SE.either (Cj g f hb d) (DI W3 f hb d) λc S=>cb _ λx e=>by
  by_cases h:bP x=true
  ·refine .inl (congrArg (ai (fb c e)) (funext λi=>funext λj=>?_));unfold JT;rw[if_pos h]
  refine .inr (congrArg (ai (fb c e)) (funext λi=>funext λj=>?_));unfold JT;rw[if_neg h]
def Pr (neg:Bool)(k x:D)(S:IL):Option D:=if bP x=true then Dl neg k x S else (if neg=true then rn k x else inD k x)
def OI (neg:Bool)(c fd:IE D):IE D:=λa S=>ai (c a S) λk d=>ai (fd a d) λx b=>aJ (Pr neg k x b) b
theorem qk (neg:Bool)(a fd:IE D)(ρ:IM)(S:IL):OI neg a fd ρ S=BG neg a fd ρ S∨OI neg a fd ρ S=aH (if neg=true then rn else inD) a fd ρ S:=by
 unfold OI BG aH;refine cb _ λk c=>cb _ λx b=>?_;unfold Pr;by_cases h:bP x=true
 ·exact .inl (by rw[if_pos h])
 refine .inr ?_;rw[if_neg h];cases neg<;>rfl
variable (hu:X.A.units+150<cLine) (Js:X.A.units+1<cLine)
include hu Js
theorem Aa (e:X.A.units+151<cLine)(d:SE X W a fa)(hb:SE X W b fb)(c:behindInMarks .In b=false:=by with_unfolding_all rfl):SE X W (.Compare a [.In] [b] pos) (OI false fa fb):=
 SE.either (Ec Js d hb c) (k8 (Gd e) d hb c) λf S=>qk false fa fb f S
theorem vA {f a b:IE D}{ρ:IM}{S:IL}(h:f ρ S=a ρ S∨f ρ S=b ρ S):bF f ρ S=bF a ρ S∨bF f ρ S=bF b ρ S:=by
 unfold bF;rcases h with h |h
 ·exact .inl (by rw[h])
 exact .inr (by rw[h])
theorem yc (e:X.A.units+151<cLine)(d:SE X W a fa)(hb:SE X W b fb)(c:behindInMarks .NotIn b=false:=by with_unfolding_all rfl):MC X W (.Compare a [.NotIn] [b] pos) (bF (OI true fa fb)):=
 MC.either (yd Js d hb c) (bK (AE e) d hb c) λf S=>vA hu Js (qk true fa fb f S)
omit hu Js
def bU:D->Option (List D)
 | .tup a=>some a
 | .lst a=>some a
 | .str x=>some (x.cps.toList.map λc=>D.str ⟨#[c]⟩)
 |_=>none
def bt (f:IE D):IE (List D):=λa S=>ai (f a S) λd b=>aJ (bU d) b
theorem cy {h:Expr}(f:SE X W a fa):SI X W h a (bt fa):=by
 refine SI.either (g1:=wC fa) (g2:=λb S=>ai (fa b S) λd e=>aJ (match d with | .lst g=>some g | .str x=>some (x.cps.toList.map λc=>D.str ⟨#[c]⟩) |_=>none) e) (D6 f) (SI.either (D8 f) (D7 f) λb S=>?_) λb S=>?_
 ·unfold BF Bz;refine cb _ λd e=>?_;cases d<;>first |exact .inl rfl |exact .inr rfl
 unfold bt wC;refine cb _ λd e=>?_;cases d<;>first |exact .inl rfl |exact .inr rfl
end
noncomputable def a8 (n m:Nat) (G:IE Fl):IK:=λa S=>if a.length=n then
  match G (a.map some++replicate m none) S with
  |some (.ok (.ret d),S')=>some (.ok d,S')
  |some (.ok (.next _),S')=>some (.ok .Ji,S')
  |_=>none
 else none
def a9 (K:IF)(mg:IJ)(x:Str)(st:Stmt)(a:List Str):Prop:=∃ f fd,Ob K x x st f fd/\mg x=some (.ref f)/\Binds K fd a []
def Ku (P:Program)(w:World)(K:IF)(mg:IJ)(base:Heap)(k:Nat)(x:Str)(a:List Str)(F:IK):Prop:=
 ∃ f fd,Pq P w K mg base k f fd a F/\mg x=some (.ref f)/\PySem.W.keepIn K (.ref f)=true/\Binds K fd a []
section
variable {P:Program}{w:World}{K:IF}{mg:IJ}{base:Heap}
theorem iL {x qual:Str}{st:Stmt}{sc:Scope}{N b:List Str}{k:Nat}{G:IE Fl}{f:Addr}{fd:FuncData}(I:Ob K x qual st f fd)(C:aq st=sc)(S:IS N b sc)
  (h:∀ (A:Around) (outer:List Env) (s:Shared) (H:Hp) (E:XK),Jp k (A.deeper (envOfC qual sc s.heap.objs.size f fd.code))->NV (mS Oa P w K mg base N qual sc f fd.code A outer s H E).Pl W0 (bC st) G) :
  Pq P w K mg base (k+1) f fd b (a8 b.length (N.length-b.length) G):=by
 subst C;obtain⟨oc,Y,kV,doc,pm,an,Z,ct,MV,rfl,M,X⟩:=I.ex
 have len:∀ a St r,a8 b.length (N.length-b.length) G a St=some r->a.length=b.length:=λa St r e=>by
  unfold a8 at e;split at e
  ·assumption
  cases e
 refine Gx M X S (λT H Q E h=>?_) λA outer s H T Q E hr V=>?_
 ·obtain⟨J,St,a,d,j,m,_,e,_⟩:=h;rw[← m.length];exact len a St _ e
 obtain⟨J,St,a,d,j,m,so,e,z⟩:=V;have t:=len a St _ e
 have W:∃ r,G (a.map some++replicate (N.length-b.length) none) St=some (.ok r,j)/\(r = .ret d∨(d = .Ji/\∃ p,r = .next p)):=by
  unfold a8 at e;rw[if_pos t] at e;split at e
  ·rename_i R D q;cases e;exact⟨_,q,.inl rfl⟩
  ·rename_i c D q;cases e;exact⟨_,q,.inr ⟨rfl,c,rfl⟩⟩
  cases e
 obtain⟨r,F,u⟩:=W;refine⟨_,(h A outer s H E hr).Pl,J,_,St,.ok r,j,⟨?_,λi d' hd=>?_,so⟩,F,?_⟩
 ·unfold start;rw[List.length_append,List.length_append,length_map,length_map,← m.length,t];simp
 ·by_cases o:i<a.length
  ·rw[getElem?_append_left (by simpa using o),getElem?_map] at hd;cases q:a[i]? with
   |none=>rw[q] at hd;cases hd
   |some R =>
    rw[q] at hd;cases hd;obtain⟨v,ev,y⟩:=m.get q;refine⟨v,?_,y⟩;unfold start;rw[getElem?_append_left (by rw[length_map,← m.length];exact o),getElem?_map,ev];rfl
  rw[getElem?_append_right (by simpa using o),getElem?_replicate] at hd;split at hd<;>cases hd
 rcases u with rfl |⟨rfl,p,rfl⟩
 ·exact λn g v l B L=>z n g v l B L
 exact λn O g l U=>z n g _ l U.Jr (At.Jw.mpr rfl)
theorem oE {x:Str}{st:Stmt}{sc:Scope}{N a:List Str}{k:Nat}{G:IE Fl}{f:Addr}{fd:FuncData}(d:Ob K x x st f fd)(c:aq st=sc)(Sc:IS N a sc)
  (h:∀ (f:Addr) (b:Value) (A:Around) (outer:List Env) (s:Shared) (H:Hp) (E:XK),Jp k (A.deeper (envOfC x sc s.heap.objs.size f b))->NV (mS Oa P w K mg base N x sc f b A outer s H E).Pl W0 (bC st) G) :
  Pq P w K mg base (k+1) f fd a (a8 a.length (N.length-a.length) G):=iL d c Sc λA outer s H E hr=>h f fd.code A outer s H E hr
theorem aT {x:Str}{st:Stmt}{sc:Scope}{N a:List Str}{k:Nat}{G:IE Fl}(e:a9 K mg x st a)(d:aq st=sc)(Sc:IS N a sc)
  (h:∀ (f:Addr) (c:Value) (A:Around) (outer:List Env) (s:Shared) (H:Hp) (E:XK),Jp k (A.deeper (envOfC x sc s.heap.objs.size f c))->NV (mS Oa P w K mg base N x sc f c A outer s H E).Pl W0 (bC st) G) :
  Ku P w K mg base (k+1) x a (a8 a.length (N.length-a.length) G):=by
 obtain⟨f,fd,b,g,hb⟩:=e;exact⟨f,fd,oE b d Sc h,g,b.kp,hb⟩
theorem kD {x:Str}{st:Stmt}{b:List Str}{k:Nat}(g:a9 K mg x st b):Ku P w K mg base k x b (λ_ _=>none):=by
 obtain⟨f,fd,c,i,hb⟩:=g;have no:∀ a H Q E,¬ UE K (λ_ _=>none) a H Q E:=λa H Q E h=>by obtain⟨J,S,j,d,l,_,_,e,_⟩:=h;cases e
 exact⟨f,fd,⟨λa H Q E h=>absurd h (no a H Q E),λA outer s H args m a Q E _ _ _ _ h=>absurd h (no a H Q E)⟩,i,c.kp,hb⟩
theorem aW {A:Around}{k:Nat}(hr:Jp k A):A.units+150<cLine:=by have:=hr.un;omega
theorem aV {A:Around}{k:Nat}(hr:Jp k A):A.units+151<cLine:=by have:=hr.un;omega
end
section
variable {X:Cx}{W:WT}{x:Str}{p pos:Pos}{e:Expr}{es:List Expr}{gs:IE (List D)}
theorem aG {k:Nat}{h:List Str}{F:IK}(C:Ku X.prog X.w X.K X.mg X.base k x h F)(hr:Jp k X.A)
  (i:SA X W (e::es) gs) (c:Gl X x:=by rfl) (a:(x==("__debug__":Str))=false:=by decide) (g:starEach (e::es) X.env=(false,eval e X.env)::starEach es X.env:=by rfl) (JQ:(backTo pos (starEach es X.env)).any (·.1)=false:=by rfl) :
  SE X W (.Call (.Name x p) (e::es) [] pos) (aR F gs):=by
 obtain⟨f,fd,G,d,b,hb⟩:=C;exact Ck G hr d b hb i c a g JQ
end
theorem fF:bootBuiltins "len"=some (.builtin "len"):=by decide
theorem fD:bootBuiltins "tuple"=some (.type "tuple"):=by decide
theorem Dx:bootBuiltins "list"=some (.type "list"):=by decide
theorem BJ:bootBuiltins "int"=some (.type "int"):=by decide
theorem Dy:bootBuiltins "bool"=some (.type "bool"):=by decide
theorem Fs:bootBuiltins "set"=some (.type "set"):=by decide
theorem wG:bootBuiltins "max"=some (.builtin "max"):=by decide
theorem BI:bootBuiltins "min"=some (.builtin "min"):=by decide
theorem Ft:bootBuiltins "any"=some (.builtin "any"):=by decide
theorem jg:bootBuiltins "sorted"=some (.builtin "sorted"):=by decide
end L2
namespace L2
open PySem
section
variable {prog:Program}{w:World}{K:Type} [DecidableEq K]
abbrev u9 (knd:KeyKind prog w K):K->Int×Value->Prop:=λk e=>knd.is k e.2=true/\e.1=knd.hash k/\e.2.scannable=true
def Le (xs:Array Nat):Prop:=xs.toList.Pairwise (· < ·)
theorem Le.lt {xs:Array Nat}(h:Le xs){i j:Nat}(a:i<j)(b:j<xs.size):xs[i]'(Nat.lt_trans a b)<xs[j]:=by have:=pairwise_iff_getElem.mp h i j (by simpa using Nat.lt_trans a b) (by simpa using b) a;simpa using this
theorem oP (xs:Array Nat)(j:Nat):∀ (fuel lo a:Nat),a-lo<=fuel->lo<=a->a<=xs.size->Le xs->(∀ i (h:i<xs.size),i<lo->xs[i]<j)->(∀ i (h:i<xs.size),a<=i->j<=xs[i]) ->
  SetTable.below.go xs j fuel lo a<=xs.size/\(∀ i (h:i<xs.size),i<SetTable.below.go xs j fuel lo a->xs[i]<j)/\(∀ i (h:i<xs.size),SetTable.below.go xs j fuel lo a<=i->j<=xs[i])
 | 0,lo,a,l,m,d,_,c,b=>by
  have e:lo=a:=by omega
  subst e;unfold SetTable.below.go;exact⟨d,c,b⟩
 |fuel+1,lo,a,l,m,d,hr,c,b=>by
  unfold SetTable.below.go;by_cases h:lo<a
  ·rw[if_pos h];have g:(lo+a) / 2<xs.size:=by omega
   have k:xs.getD ((lo+a) / 2) j=xs[(lo+a) / 2]:=by simp[Array.getD,g]
   simp only[k];by_cases hc:xs[(lo+a) / 2]<j
   ·rw[if_pos hc];refine oP xs j fuel _ a (by omega) (by omega) d hr (λi f o=>?_) b;rcases lt_or_ge i ((lo+a) / 2) with q |q
    ·exact Nat.lt_trans (hr.lt q g) hc
    have e:i=(lo+a) / 2:=by omega
    subst e;exact hc
   rw[if_neg hc];refine oP xs j fuel lo _ (by omega) (by omega) (by omega) hr c λi f n=>?_;rcases lt_or_ge ((lo+a) / 2) i with q |q
   ·have:=hr.lt q f;omega
   have e:i=(lo+a) / 2:=by omega
   subst e;omega
  rw[if_neg h];have e:lo=a:=by omega
  subst e;exact⟨d,c,b⟩
theorem oO {xs:Array Nat}(hr:Le xs)(j:Nat):SetTable.below xs j<=xs.size/\(∀ i (h:i<xs.size),i<SetTable.below xs j->xs[i]<j)/\(∀ i (h:i<xs.size),SetTable.below xs j<=i->j<=xs[i]):=by unfold SetTable.below;exact oP xs j xs.size 0 xs.size (by omega) (by omega) (le_refl _) hr (λi _ h=>absurd h (by omega)) λi h q=>absurd h (by omega)
theorem uV {xs:Array Nat}(hr:Le xs){j p:Nat}(f:p<=xs.size)(d:∀ i (h:i<xs.size),i<p->xs[i]<j)(e:∀ i (h:i<xs.size),p<=i->j<=xs[i]):SetTable.below xs j=p:=by
 obtain⟨a,b,c⟩:=oO hr j;rcases Nat.lt_trichotomy (SetTable.below xs j) p with q |q |q
 ·have x:=c _ (by omega) (le_refl _);have y:=d (SetTable.below xs j) (by omega) q;omega
 ·exact q
 have x:=b p (by omega) q;have y:=e p (by omega) (le_refl _);omega
theorem jC {t:SetTable}{f:Nat->Int}{h:Int}:∀ (fuel:Nat) (p:SetTable.Probe) {j:Nat}{a:Option Nat},(∀ d,p.dummy=some d->t.slot d = .dummy)->SetTable.probe.go t f h fuel p=some (.empty j a)->t.slot j = .empty/\∀ d,a=some d->t.slot d = .dummy
 | 0,p,j,a,_,e=>by unfold SetTable.probe.go at e;cases e
 |fuel+1,p,j,a,hd,e=>by
  have c:∀ q:SetTable.Probe,(t.advance q).dummy=q.dummy:=λq=>by unfold SetTable.advance;split<;>rfl
  unfold SetTable.probe.go at e;split at e
  ·rename_i b;cases e;exact⟨b,hd⟩
  ·rename_i b;exact jC fuel _ (by rw[c];intro d q;cases q;exact b) e
  split at e
  ·cases e
  exact jC fuel _ (by rw[c];exact hd) e
theorem zk {t:SetTable}{h:Int}{j:Nat}{a:Bool}(e:t.freeSlot h=some (j,a)):∀ i,t.slot j≠.live i:=by
 unfold SetTable.freeSlot at e;split at e
 ·rename_i k f q;obtain⟨b,c⟩:=jC _ _ (by intro d z;cases z) q;cases e;intro i;cases f with
  |none=>rw[show (none:Option Nat).getD k=k from rfl,b];intro z;cases z
  |some d=>rw[show (some d).getD k=d from rfl,c d rfl];intro z;cases z
 cases e
theorem Le.put {t:SetTable}(hr:Le t.place){j:Nat}(o:∀ i,t.slot j≠.live i):Le (t.put j).1.place:=by
 obtain⟨a,b,c⟩:=oO hr j;have n:t.place[SetTable.below t.place j]?≠some j:=λe=>o (SetTable.below t.place j) (by unfold SetTable.slot;simp[e]);unfold SetTable.put Le SetTable.insertAt;simp only[toList_append,toList_push,toList_extract];have s:(t.place.toList.drop 0).take (SetTable.below t.place j-0)=t.place.toList.take (SetTable.below t.place j):=by simp
 have key:∀ i,SetTable.below t.place j<=i->∀ h:i<t.place.size,j<t.place[i]:=by
  intro i d h;have m:=c i h d;rcases lt_or_ge j t.place[i] with q |q
  ·exact q
  exfalso;have hb:SetTable.below t.place j<t.place.size:=by omega
  have u:=c _ hb (le_refl _);rcases lt_or_ge (SetTable.below t.place j) i with z |z
  ·have:=hr.lt z h;omega
  have e:SetTable.below t.place j=i:=by omega
  refine n ?_;rw[Array.getElem?_eq_getElem hb];congr 1;have:t.place[SetTable.below t.place j]=t.place[i]:=by simp only[e]
  omega
 have p:(t.place.toList.drop (SetTable.below t.place j)).take (t.place.size-SetTable.below t.place j)=t.place.toList.drop (SetTable.below t.place j):=take_of_length_le (by simp);simp only[List.extract_eq_drop_take,drop_zero,Nat.sub_zero] at *
 rw[p];rw[List.append_assoc,pairwise_append,List.singleton_append,pairwise_cons];refine⟨hr.sublist (List.take_sublist ..),⟨λy hy=>?_,hr.sublist (List.drop_sublist ..)⟩,λx f y hy=>?_⟩
 ·obtain⟨i,d,e⟩:=getElem_of_mem hy;rw[List.getElem_drop] at e;have:=key (SetTable.below t.place j+i) (by omega) (by simp at d;omega);rw[getElem_toList] at e;omega
 obtain⟨i,d,e⟩:=getElem_of_mem f;rw[List.getElem_take,getElem_toList] at e;have l:i<SetTable.below t.place j:=by simp at d;omega
 have m:=b i (by omega) l;rcases mem_cons.mp hy with rfl |hy
 ·omega
 obtain⟨k,g,r⟩:=getElem_of_mem hy;rw[List.getElem_drop,getElem_toList] at r;have:=key (SetTable.below t.place j+k) (by omega) (by simp at g;omega);omega
theorem Le.range (n:Nat):Le (Array.range n):=by unfold Le;rw[Array.toList_range];exact List.pairwise_lt_range
theorem Le.orStandIn {t:SetTable}(n:Nat)(h:Le t.place):Le (t.orStandIn n).place:=by
 unfold SetTable.orStandIn;split
 ·exact h
 exact Le.range n
theorem v6 {t:SetTable}(es:Array (Int×Value))(h:Int)(x:Value)(hr:Le t.place):Le (layNew t es h x).2.1.place:=by
 unfold layNew;split
 ·rename_i slot a e;exact Le.orStandIn _ (hr.put (zk e))
 exact Le.range _
theorem vJ {t t':SetTable}{e:Array Int}{n:Nat}{order:Array Nat}(h:t.relaid e n=some (t',order)):Le t'.place:=by
 unfold SetTable.relaid SetTable.laid at h;cases hc:SetTable.layClean (SetTable.sizeAbove n-1) e with
 |none=>simp[hc] at h
 |some o =>
  simp only[hc,Option.bind_eq_bind,bind_some,pure_def,Option.some.injEq,Prod.mk.injEq] at h;obtain⟨rfl,_⟩:=h;unfold Le;simp only[List.toList_toArray,pairwise_map];rw[List.pairwise_filterMap];refine List.pairwise_lt_range.imp λ{a b} f c hc d hd=>?_;obtain⟨u,_,rfl⟩:=map_eq_some_iff.mp hc;obtain⟨v,_,rfl⟩:=map_eq_some_iff.mp hd;exact f
theorem q_ {t:SetTable}(es:Array (Int×Value))(n:Nat):Le (relayAll t es n).2.1.place:=by
 unfold relayAll;split
 ·rename_i a order e;dsimp only;split
  ·exact vJ e
  exact Le.range _
 exact Le.range _
def JN (knd:KeyKind prog w K)(pk:K->Bool)(led:Bool)(h:Heap)(a:Addr)(b:List K):Prop:=
 ∃ o es ep t,h.get? a=some o/\o.ExactSet/\o.data = .set es ep t/\(∃ l:List (Int×Value),l.Perm es.toList/\Paired (u9 knd) b l) /\
  es.size<scanBound/\t.fits es.size=true/\t.led=led/\(t.plain=true->∀ k∈b,pk k=true)/\Le t.place
theorem nW {α c:Type}{F : α->c->Prop}{l:List α}{m:List c}(r:Paired F l m):∀ b∈m,∃ a∈l,F a b:=by
 induction r with
 |nil=>intro b hb;cases hb
 |cons f t d =>
  intro b hb;rcases mem_cons.mp hb with rfl |hb
  ·exact⟨_,mem_cons_self ..,f⟩
  obtain⟨a,g,e⟩:=d b hb;exact⟨a,mem_cons_of_mem _ g,e⟩
theorem tK {α c:Type}{F : α->c->Prop}{l:List α}{m:List c}(r:Paired F l m):∀ a∈l,∃ b∈m,F a b:=by
 induction r with
 |nil=>intro b hb;cases hb
 |cons f t d =>
  intro b hb;rcases mem_cons.mp hb with rfl |hb
  ·exact⟨_,mem_cons_self ..,f⟩
  obtain⟨a,g,e⟩:=d b hb;exact⟨a,mem_cons_of_mem _ g,e⟩
theorem tJ {α c:Type}{F : α->c->Prop}{l:List α}{m:List c}(r:Paired F l m){a : α}{b : c}(f:F a b):Paired F (l++[a]) (m++[b]):=by
 induction r with
 |nil=>exact .cons f .nil
 |cons g t d=>exact .cons g d
theorem mj {α a:Type}{F : α->a->Prop}{l:List α}{m:List a}(r:Paired F l m):l.length=m.length:=by
 induction r with
 |nil=>rfl
 |cons g t b=>simp[b]
variable {knd:KeyKind prog w K}{pk:K->Bool}{led:Bool}
theorem oZ (t:SetTable)(n:Nat):(t.orStandIn n).led=t.led/\((t.orStandIn n).plain=true->t.plain=true):=by
 unfold SetTable.orStandIn;split
 ·exact⟨rfl,id⟩
 exact⟨rfl,λz=>by simp[SetTable.standIn] at z⟩
theorem v7 (t:SetTable)(es:Array (Int×Value))(h:Int)(x:Value):(layNew t es h x).2.1.led=t.led/\((layNew t es h x).2.1.plain=true->t.plain=true):=by
 unfold layNew;split
 ·rename_i slot a _;exact oZ (t.put slot).1 _
 exact⟨rfl,λz=>by simp[SetTable.standIn] at z⟩
theorem vK {t t':SetTable}{a:Array Int}{n:Nat}{order:Array Nat}(h:t.relaid a n=some (t',order)):t'.led=t.led/\t'.plain=t.plain:=by
 unfold SetTable.relaid SetTable.laid at h;cases hc:SetTable.layClean (SetTable.sizeAbove n-1) a with
 |none=>simp[hc] at h
 |some o =>
  simp only[hc,Option.bind_eq_bind,bind_some,pure_def,Option.some.injEq,Prod.mk.injEq] at h;obtain⟨rfl,_⟩:=h;exact⟨rfl,rfl⟩
theorem rf (t:SetTable)(es:Array (Int×Value))(n:Nat):(relayAll t es n).2.1.led=t.led/\((relayAll t es n).2.1.plain=true->t.plain=true):=by
 unfold relayAll;split
 ·rename_i c order e;obtain⟨a,b⟩:=vK e;dsimp only;split
  ·exact⟨a,λz=>by rw[← b];exact z⟩
  exact⟨rfl,λz=>by simp[SetTable.standIn] at z⟩
 exact⟨rfl,λz=>by simp[SetTable.standIn] at z⟩
theorem JN.elems {h:Heap}{a:Addr}{b:List K}{es:Array (Int×Value)}(g:∃ l:List (Int×Value),l.Perm es.toList/\Paired (u9 knd) b l):ElemsOf knd es.toList:=λe f=>by obtain⟨l,p,r⟩:=g;obtain⟨k,_,c,i,d⟩:=nW r e (p.mem_iff.mpr f);exact⟨⟨k,c,i⟩,d⟩
theorem JN.mem {c:List K}{es:Array (Int×Value)}(g:∃ l:List (Int×Value),l.Perm es.toList/\Paired (u9 knd) c l)(k:K):k∈c↔∃ e∈es.toList,knd.is k e.2=true:=by
 obtain⟨l,p,r⟩:=g;constructor
 ·intro f;obtain⟨e,b,a,_⟩:=tK r k f;exact⟨e,p.mem_iff.mp b,a⟩
 rintro⟨e,b,a⟩;obtain⟨d,i,h,_⟩:=nW r e (p.mem_iff.mpr b);rw[knd.inj e.2 k d a h];exact i
def dz (a:List K)(k:K):List K:=if k∈a then a else a++[k]
variable {A:Around}{E:IG}{s:Shared}
theorem JN.stored {h:Heap}{a:Addr}{o:Obj}{es:Array (Int×Value)}{ep:Nat}{t:SetTable}(d:h.get? a=some o)(hex:o.ExactSet)(hd:o.data = .set es ep t){b:Array (Int×Value)}{t':SetTable}{c:List K}
  (i:∃ l:List (Int×Value),l.Perm b.toList/\Paired (u9 knd) c l) (hb:b.size<scanBound) (f:t'.fits b.size=true) (j:t'.led=led) (e:t'.plain=true->∀ k∈c,pk k=true) (hr:Le t'.place) :
  (h.update a (Obj.putSet b t')).get? a=some { o with data:=.set b (ep+1) t' }/\JN knd pk led (h.update a (Obj.putSet b t')) a c:=by
 have g:(h.update a (Obj.putSet b t')).get? a=some { o with data:=.set b (ep+1) t' }:=by have q:=Heap.get?_update_self (Obj.putSet b t') d (by rw[putSet_of b t' hd];rfl);rw[putSet_of b t' hd] at q;exact q
 exact⟨g,_,b,ep+1,t',g,hex,rfl,i,hb,f,j,e,hr⟩
theorem oy (b:Bool){a:Shared}{c:Unit->Shared->Prop}(d:c () a):wpAny (model prog w) A (match b with |true=>rule "set.scan.the-table-gave-way" |false=>pure ()) c E a:=by
 cases b
 ·exact wpAny_pure d
 exact wpAny_rule d
theorem wZ {g:Bool->Sem Unit}(F:∀ (b:Bool) (d:Shared) (B:Unit->Shared->Prop),B () d->wpAny (model prog w) A (g b) B E d)
  {a:Addr}{o:Obj}{es:Array (Int×Value)}{ep:Nat}{t:SetTable}(q:s.heap.get? a=some o) (hex:o.ExactSet) (hd:o.data = .set es ep t)
  {c:Array (Int×Value)}{t2:SetTable}{m:List K}(v:∃ l:List (Int×Value),l.Perm c.toList/\Paired (u9 knd) m l)
  (hb:c.size<scanBound) (I:t2.fits c.size=true) (D:t2.led=led) (u:t2.plain=true->∀ k∈m,pk k=true) (hr:Le t2.place) {G:Bool}{R:Option Bool->Shared->Prop}
  (h:∀ h',Heap.SameBut a s.heap h'->JN knd pk led h' a m->R (some true) { s with heap:=h' }) :
  wpAny (model prog w) A (do
    storeSet a c t2
    if (!G&&t2.tooFull)=true then do
      g (relayAll t2 c (SetTable.grown c.size)).2.2
      storeSet a (relayAll t2 c (SetTable.grown c.size)).1 (relayAll t2 c (SetTable.grown c.size)).2.1
      pure (some true)
     else pure (some true)) R E s:=by
 obtain⟨x,J⟩:=JN.stored (knd:=knd) (pk:=pk) q hex hd v hb I D u hr;refine wpAny_bind (wpAny_storeSet_of q hd ?_ (fits_of_scanBound hb));have sb:=Heap.SameBut.update s.heap a (Obj.putSet c t2);split
 ·have e:=relayAll_perm t2 c (SetTable.grown c.size);have j:=relayAll_fits t2 c (SetTable.grown c.size);have f:=rf t2 c (SetTable.grown c.size);have i:=q_ (t:=t2) c (SetTable.grown c.size);revert e j f i;generalize relayAll t2 c (SetTable.grown c.size)=Y;intro e j f i;obtain⟨C,L,M⟩:=Y;simp only at e j f i ⊢;have z:C.size=c.size:=by have:=e.length_eq;simpa using this
  obtain⟨l,p,r⟩:=v;have n:C.size<scanBound:=by rw[z];exact hb
  obtain⟨_,H⟩:=JN.stored (knd:=knd) (pk:=pk) (led:=led) x hex rfl ⟨l,p.trans e.symm,r⟩ n j (f.1.trans D) (λy=>u (f.2 y)) i;exact wpAny_bind (F _ _ _ (wpAny_bind (wpAny_storeSet_of x rfl (wpAny_pure (h _ (sb.trans (Heap.SameBut.update _ a _)) H)) (fits_of_scanBound n))))
 exact wpAny_pure (h _ sb J)
theorem Cd {a:Addr}{c:List K}{k:K}{x:Value}{Q:Bool->Shared->Prop}(O:plainKind x=pk k)(G:knd.is k x=true)(C:x.scannable=true)(V:JN knd pk led s.heap a c)(Xe:c.length+1<scanBound)
  (h:∀ b h',Heap.SameBut a s.heap h'->JN knd pk led h' a (dz c k)->Q b { s with heap:=h' }):wpAny (model prog w) A (setAddHashed a x (knd.hash k)) Q E s:=by
 obtain⟨o,es,ep,t,n,hex,hd,g,hb,B,y,v,H⟩:=V;have N:=JN.elems (h:=s.heap) (a:=a) g;have hn:es.size=c.length:=by obtain⟨l,p,r⟩:=g;have X:=p.length_eq;have e2:=mj r;simp only[length_toList] at X;omega
 unfold setAddHashed setAddHashedIn;refine wpAny_holding (wpAny_bind (wpAny_setState_of n hd B ?_));simp only;rw[byScan_of C hb N,if_pos rfl];unfold setAddByScan;refine wpAny_bind (wpAny_bind (wpAny_rule (wpAny_bind (wpAny_setScan_of G n hd B N ?_))));cases hr:List.findIdx? (λe=>knd.is k e.2) es.toList with
 |some j =>
  obtain⟨P,Y9,_⟩:=List.findIdx?_eq_some_iff_getElem.mp hr;have L:k∈c:=(JN.mem g k).mpr ⟨es.toList[j],getElem_mem P,Y9⟩;refine wpAny_pure (wpAny_pure ?_);exact h _ s.heap (Heap.SameBut.refl a s.heap) ⟨o,es,ep,t,n,hex,hd,by unfold dz;rw[if_pos L];exact g,hb,B,y,by unfold dz;rw[if_pos L];exact v,H⟩
 |none =>
  have U:k∉c:=λZ=>by obtain⟨e,T,v⟩:=(JN.mem g k).mp Z;have q:=List.findIdx?_eq_none_iff.mp hr e T;rw[v] at q;cases q
  have ek:dz c k=c++[k]:=by unfold dz;rw[if_neg U]
  rw[ek] at h;have f:=layNew_perm t es (knd.hash k) x;have i:=layNew_fits t es (knd.hash k) x;have d:=v7 t es (knd.hash k) x;have u:=v6 es (knd.hash k) x H;dsimp only;revert f i d u;generalize layNew t es (knd.hash k) x=Y;intro f i d u;obtain⟨I,t1,wd,gv⟩:=Y;simp only at f i d u ⊢;rw[toList_push] at f;have M:∃ l:List (Int×Value),l.Perm I.toList/\Paired (u9 knd) (c++[k]) l:=by obtain⟨l,p,r⟩:=g;exact⟨l++[(knd.hash k,x)],(p.append_right _).trans f.symm,tJ r ⟨G,rfl,C⟩⟩
  have J:I.size<scanBound:=by have:=f.length_eq;simp only[length_toList,List.length_append,length_singleton] at this;omega
  refine wpAny_bind (oy gv ?_);split
  ·rename_i JQ;refine wpAny_bind ?_;rw[hashByValue_scannable 8 C];refine wpAny_pure ?_;refine wZ (pk:=pk) (led:=led) (λb m Q' F=>oy b F) n hex hd M J ?_ ?_ ?_ ?_ λh' sb D=>?_
   ·split
    ·exact i
    exact SetTable.fits_plain_off i
   ·split
    ·exact d.1.trans y
    exact d.1.trans y
   ·split
    ·rename_i R;intro W S M9;rcases mem_append.mp M9 with M9 |M9
     ·exact v (d.2 W) S M9
     rw[mem_singleton.mp M9,← O];exact R
    intro z;cases z
   ·split<;>exact u
   exact wpAny_pure (h _ h' sb D)
  rename_i JQ;refine wpAny_bind (wpAny_pure ?_);rw[if_pos rfl];refine wZ (pk:=pk) (led:=led) (λb m Q' F=>oy b F) n hex hd M J i (d.1.trans y) (λz=>absurd z JQ) u λh' sb D=>?_;exact wpAny_pure (h _ h' sb D)
end
namespace SF
theorem Ni:entryFor table "set.update.loop"=some Builtin.«set.update.loop»:=entryFor_of_tree (by kernel_rfl)
theorem MX:plainId "set.update.loop"=true:=by decide
theorem Td (a:Value):checkTypeCall "set" ⟨[a],[]⟩=pure ():=by kernel_rfl
theorem Te (a:Value):checkBuiltinCall "set.__new__" ⟨[.type "set",a],[]⟩=pure ():=by kernel_rfl
theorem O2:entryFor table "set.__iter__"=some Builtin.«frozenset.__iter__»:=entryFor_alias (id':="frozenset.__iter__") (by kernel_rfl) rfl (by decide) (by kernel_rfl)
theorem slot_next:Slot "set_iterator" "__next__" "set_iterator.__next__":=
 .of (owner:="set_iterator") (n:="__next__") (by rw[typeLookup_type,builtinLookup_eq_fast];kernel_rfl) (by decide) (by decide) (by decide)
  (by first |exact .inl (by decide) |exact .inr (by decide)) (by rw[isSubtype_type];kernel_rfl)
theorem slot_self:Slot "set_iterator" "__iter__" "set_iterator.__iter__":=
 .of (owner:="set_iterator") (n:="__iter__") (by rw[typeLookup_type,builtinLookup_eq_fast];kernel_rfl) (by decide) (by decide) (by decide)
  (by first |exact .inl (by decide) |exact .inr (by decide)) (by rw[isSubtype_type];kernel_rfl)
theorem Nj:entryFor table "set_iterator.__next__"=some Builtin.«set_iterator.__next__»:=entryFor_of_tree (by kernel_rfl)
theorem O3:Manifest.owners.lookup (String.ofList ['r','o','t','a','r','e','t','i','_','t','e','s'].reverse)=some Manifest.sig_set_iterator:=by kernel_rfl
theorem args_next (a:Value):argsOk "set_iterator.__next__" ⟨[a],[]⟩:=by unfold argsOk;rw[signature?_of (id:="set_iterator.__next__") (n:=['_','_','t','x','e','n','_','_']) (o:=['r','o','t','a','r','e','t','i','_','t','e','s']) (by kernel_rfl) O3];kernel_rfl
end SF
section
variable {prog:Program}{w:World}{K:Type} [DecidableEq K] {knd:KeyKind prog w K}{pk:K->Bool}{led:Bool}
def met (val:Nat->K)(i:Nat):List K:=((List.range i).map val).foldl dz []
theorem tZ (val:Nat->K)(i:Nat):met val (i+1)=dz (met val i) (val i):=by unfold met;rw[List.range_succ,map_append,List.foldl_append];rfl
theorem xj (val:Nat->K):∀ i,(met val i).length<=i
 | 0=>le_refl _
 |i+1=>by
  have a:=xj val i;rw[tZ];unfold dz;split
  ·omega
  rw[List.length_append,length_singleton];omega
section
variable {A:Around}{R:Result->Shared->Prop}{I:Addr}{fp wr:List Addr}{G:Array GenState->Array GenState->Prop}{n:Nat}{P:Nat->Value->Prop}{St:Nat->Shared->Prop}
theorem JN.keep {h h':Heap}{a:Addr}{b:List K}(x:JN knd pk led h a b)(e:∀ o,h.get? a=some o->h'.get? a=some o):JN knd pk led h' a b:=by obtain⟨o,es,ep,t,c,r⟩:=x;exact⟨o,es,ep,t,e o c,r⟩
theorem z6 (W:WalksS prog w A.in1 I fp wr G n P St)(S:Addr)(m:S∉fp)(val:Nat->K)(y:∀ i v,P i v->knd.is (val i) v=true/\v.scannable=true/\plainKind v=pk (val i))(hb:n+1<scanBound) :
  ∀ (k i:Nat) (s:Shared),n-i=k->i<=n->St i s->JN knd pk led s.heap S (met val i) ->
   (∀ s',Moved (S::wr) G s s'->JN knd pk led s'.heap S (met val n)->R (.ok (.ret .none)) s') ->
   codeAny (model prog w) A (.builtin "set.update.loop" ⟨[.ref S,.ref I],[]⟩) R s:=by
 have g:S∉wr:=λh=>m (W.sub _ h);intro k
 induction k with
 |zero =>
  intro i s r F st c d;obtain rfl:i=n:=by omega
  refine codeAny_builtin SF.Ni ?_;rw[Around.under_plainId SF.MX _];show wpAny _ A.in1 (pyNext (.ref I) >>= _) _ _ s;refine wpAny_bind (W.done s _ _ st λs' a=>?_);show wpAny _ A.in1 (ret Value.none) _ _ s';exact wpAny_pure (d s' (a.mono λb hb=>mem_cons_of_mem _ hb) (c.keep λo e=>a.heap S o g e))
 |succ k t =>
  intro i s r F st c d;have j:i<n:=by omega
  refine codeAny_builtin SF.Ni ?_;rw[Around.under_plainId SF.MX _];show wpAny _ A.in1 (pyNext (.ref I) >>= _) _ _ s;refine wpAny_bind (W.item i s _ _ j st λv s' C q a=>?_);obtain⟨l,B,E⟩:=y i v C;show wpAny _ A.in1 (holding [v] (setAdd S v) >>= _) _ _ s';refine wpAny_bind (wpAny_holding ?_);unfold setAdd;refine wpAny_holding (wpAny_bind (knd.pyHash l ?_));have hr:(met val i).length+1<scanBound:=by have:=xj val i;omega
  refine Cd (pk:=pk) (led:=led) (s:={ s' with toks:=s'.toks+1 }) E l B (c.keep λo e=>a.heap S o g e) hr λb H sb f=>?_;rw[← tZ] at f;refine wpAny_pure ⟨plainId_quiet SF.MX _,t (i+1) _ (by omega) j (W.frame _ s' _ _ q (le_succ _) λb hb o e=>?_) f λx p u=>?_⟩
  ·rw[sb.2 b (λz=>m (z▸hb))];exact e
  refine d x (Moved.trans W.gtrans ((a.mono λb hb=>mem_cons_of_mem _ hb).then_heap (le_succ _) λb o D e=>?_) p) u;rw[sb.2 b (λz=>D (z▸mem_cons_self))];exact e
end
section
variable {A:Around}{E:IG}{s:Shared}
def Nk (w:World):Bool:=w.params.followText "set-order"
abbrev mN (w:World):Obj:={ cls:=.type "set",dict:=none,data:=.set #[] 0 (.fresh 0 0 (!Nk w)) }
theorem z5 (a:Value){Q₁:IG}(h:Q₁ (.ref s.heap.objs.size) { s with heap:=s.heap.push (mN w) }) :
  codeAny (model prog w) A (.call (.builtin "set.__new__") ⟨[.type "set",a],[]⟩) (wants Q₁ E) s:=by
 refine codeAny_of_tree ?_;show wpAny _ A.in1 (do checkBuiltinCall "set.__new__" ⟨[.type "set",a],[]⟩;again (.builtin "set.__new__" ⟨[.type "set",a],[]⟩)) _ _ s;refine wpAny_bind (wpAny_of_eq (SF.Te a) (wpAny_pure ⟨plainId_quiet F.plain_set_new _,codeAny_builtin F.entry_set_new ?_⟩));rw[Around.under_plainId F.plain_set_new _];unfold Builtin.«set.__new__» Builtin.Frozenset.newClass;have q:=sub_set_self;obtain⟨b,g,d,tk,os⟩:=s;dsimp only
 wp_walk
 refine wpAny_askSetting (wpAny_pure ?_);simp only[newObj];exact wpAny_bind (wpAny_alloc (wpAny_pure (wpAny_pure h)))
theorem yi {M:Model}{self a:Value}{Q:Unit->Shared->Prop}(c:s.TypeIs self "set")(d:Q () s):wpAny M A (checkBuiltinCall "set.__init__" ⟨[self,a],[]⟩) Q E s:=by
 simp only[checkBuiltinCall,kind_set_init,split_set_init,sig_set_init];refine wpAny_bind (wpAny_isInstance c sub_set_self ?_);simp only[Bool.not_true,false_eq_true,if_false];unfold Bind.checkArgs;dsimp only;refine wpAny_bind (m:=Bind.printed "set" true _ _) (PyProof.Rows.printed_name (by decide) ?_);refine wpAny_bind (m:=Bind.printed "*" false _ _) (PyProof.Rows.printed_star (self:=self) rfl c λb=>?_);have f:(Manifest.Receiver.self==Manifest.Receiver.none)=false:=by decide
 have h:(if (Manifest.Receiver.self==Manifest.Receiver.none)=true then [self,a].length else [self,a].length-1)=1:=by simp[f]
 rw[h];simp only[map_nil];have e:(Manifest.ParamKind.posOnly==Manifest.ParamKind.posOnly)=true:=by decide
 have i:(Manifest.ParamKind.posOnly==Manifest.ParamKind.posOrKw)=false:=by decide
 have j:(Manifest.ParamKind.posOnly==Manifest.ParamKind.varPos)=false:=by decide
 have g:Bind.check ⟨.positional,"set","*",.self,[⟨"iterable",.posOnly,false⟩]⟩ "set" b 1 []=pure ():=by simp[Bind.check,Bind.checkCount,Bind.isPositional,e,i,j]
 rw[g];exact wpAny_pure d
theorem JN.start {h:Heap}{a:Addr}(e:h.get? a=some (mN w)):JN knd pk (!Nk w) h a []:=
 ⟨mN w,#[],0,.fresh 0 0 (!Nk w),e,⟨rfl,rfl,rfl⟩,rfl,⟨[],.refl _,.nil⟩,by decide,by rfl,rfl,(λ_ k b=>by cases b),List.Pairwise.nil⟩
end
end
end L2
namespace L2
open PySem
section
variable {prog:Program}{w:World}{A:Around}{E:IG}{s:Shared}
theorem wp_choose {a:Source}{n:Nat}{Q:Nat->Shared->Prop}(b:n≠0)(h:∀ i,i<n->Q i { s with drawn:=s.drawn.bump a }):wpAny (model prog w) A (choose a n) Q E s:=
 λ_ _ _=>⟨b,h _ (Nat.mod_lt _ (Nat.pos_of_ne_zero b))⟩
theorem jL {α:Type}:∀ {xs:List α}{i:Nat}{x : α},xs[i]?=some x->(x::xs.eraseIdx i).Perm xs
 |[],_,_,h=>by simp at h
 |y::ys,0,x,h=>by simp at h;subst h;exact .refl _
 |y::ys,i+1,x,h=>by
  rw[getElem?_cons_succ] at h;rw[List.eraseIdx_cons_succ];exact(List.Perm.swap y x _).trans ((jL h).cons y)
theorem jY {α:Type}:∀ (n:Nat) (xs:List α) {s:Shared}{Q:List α->Shared->Prop},xs.length=n->(∀ ys d,ys.Perm xs->Q ys { s with drawn:=d })->wpAny (model prog w) A (drawOrder n xs) Q E s
 | 0,xs,s,Q,a,h=>by
  obtain rfl:=length_eq_zero_iff.mp a;unfold drawOrder;exact wpAny_pure (h [] s.drawn (.refl _))
 |n+1,[],s,Q,a,h=>by simp at a
 |n+1,x::r,s,Q,a,h=>by
  unfold drawOrder;refine wpAny_bind (wp_choose (by simp) λi b=>?_);have e:=List.getElem?_eq_getElem b;rw[e];dsimp only;refine wpAny_bind (jY n _ (by rw[List.length_eraseIdx_of_lt b,a];omega) λys d p=>?_);exact wpAny_pure (h _ d ((p.cons _).trans (jL e)))
theorem pT {α:Type}(next:Nat->Nat):∀ (m k:Nat) (left:List α) (out:Array α),left.length=m->(pickOrder.go next m k left out).toList.Perm (out.toList++left)
 | 0,k,left,out,a=>by
  obtain rfl:=length_eq_zero_iff.mp a;unfold pickOrder.go;rw[append_nil]
 |m+1,k,left,out,a=>by
  have b:next k % left.length<left.length:=Nat.mod_lt _ (by omega)
  have e:=List.getElem?_eq_getElem b;unfold pickOrder.go;rw[e];dsimp only;refine(pT next m (k+1) _ _ (by rw[List.length_eraseIdx_of_lt b,a];omega)).trans ?_;rw[toList_push,List.append_assoc];exact(jL e).append_left _
def J4 (h:Heap)(it a:Addr)(first:Value)(i n ep:Nat):Prop:=∃ o,h.get? it=some o/\o.cls = .type "set_iterator"/\o.data = .fields #[first,.int i 0,.ref a,.int n 0,.int ep 0]
inductive Way (w:World) (a it:Addr) (es:Array (Int×Value)) (ep:Nat) (t:SetTable):Array (Int×Value)->List Addr->(Nat->Value->Heap->Prop)->Prop where
 |text (hb:Nk w=true):Way w a it es ep t (pickOrder (w.params.setOrder a ep) es) [it,a] (λ_ f _ => ∃ k:Nat,f = .int k 0)
 |one (hb:Nk w=false) (hl:t.led=true) (h1:t.plain=true∨es.size<=1) (hr:Le t.place):Way w a it es ep t es [it,a] (λi f _ => ∃ k:Nat,f = .int k 0/\SetTable.below t.place k=i)
 |drawn (hb:Nk w=false) (hp:t.plain=false) (h1 : 1<es.size) (tp:Addr) (order:List Nat) (ho:order.Perm (List.range es.size)):tp≠it ->
  Way w a it es ep t (order.filterMap λi=>es[i]?).toArray [it,a,tp] (λ_ f h=>f = .ref tp/\h.IsTuple tp (order.map λ(i:Nat)=>Value.int i 0).toArray)
theorem yG {es:Array (Int×Value)}{order:List Nat}(d:order.Perm (List.range es.size)):(order.filterMap λi=>es[i]?).length=order.length/\∀ i:Nat,(order.filterMap λi=>es[i]?)[i]?=(order[i]?).bind λj=>es[j]?:=by
 have c:∀ j∈order,j<es.size:=λj a=>mem_range.mp (d.mem_iff.mp a);clear d
 induction order with
 |nil=>exact⟨rfl,λi=>by simp⟩
 |cons j r h =>
  have a:=c j (mem_cons_self ..);obtain⟨f,g⟩:=h λk e=>c k (mem_cons_of_mem _ e);rw[List.filterMap_cons_some (b:=es[j]) (by simp[a])];refine⟨by simp[f],λi=>?_⟩;cases i with
  |zero=>simp[a]
  |succ i=>simpa using g i
theorem Way.perm {a it:Addr}{es:Array (Int×Value)}{ep:Nat}{t:SetTable}{out:Array (Int×Value)}{fp:List Addr}{F:Nat->Value->Heap->Prop}(y:Way w a it es ep t out fp F):out.toList.Perm es.toList:=by
 cases y with
 |text hb=>simpa [pickOrder] using pT (w.params.setOrder a ep) es.size 0 es.toList #[] (by simp)
 |one=>exact .refl _
 |drawn hb e c tp order b d =>
  have q:=b.filterMap λi=>es[i]?;rw[filterMap_getElem?_range] at q;simpa using q
end
section
variable {prog:Program}{w:World}{A:Around}{E:IG}{s:Shared}
variable {a it:Addr}{o:Obj}{es:Array (Int×Value)}{ep:Nat}{t:SetTable}
theorem i0 {Q:Bool->Shared->Prop}(h:Q (Nk w) s):wpAny (model prog w) A setsByText Q E s:=by unfold setsByText;exact wpAny_bind (wpAny_askSetting (wpAny_pure h))
theorem sI {Q:Bool->Shared->Prop}(c:s.heap.get? a=some o)(hd:o.data = .set es ep t)(b:t.fits es.size=true)(h:Q (!Nk w&&(!t.plain&&decide (es.size > 1))) s):wpAny (model prog w) A (setDrawn a) Q E s:=by unfold setDrawn;refine wpAny_bind (wpAny_setState_of c hd b ?_);dsimp only;exact wpAny_bind (i0 (wpAny_pure h))
theorem vM {Q:IG}(c:s.heap.get? a=some o)(hex:o.ExactSet)(hd:o.data = .set es ep t)(j:t.fits es.size=true)(hz:es.size<=sizeLine)(p:Nk w=false->t.led=true)(hr:Le t.place)
  (h:∀ it out fp F first h' d,Way w a it es ep t out fp F->J4 h' it a first 0 es.size ep->F 0 first h'->(∀ b o,s.heap.get? b=some o->h'.get? b=some o)->s.heap.objs.size<=it->(∀ b∈fp,b=a∨s.heap.objs.size<=b) ->
   Q (.ref it) { s with heap:=h',drawn:=d }):wpAny (model prog w) A (pyIter (.ref a)) Q E s:=by
 have n:s.TypeIs (.ref a) "set":=⟨o,c,hex.1⟩;refine wpAny_pyIter_slot n F.slot_set_iter (wpAny_call_entry F.slot_set_iter n SF.O2 ?_ (F.args_set_iter_1 _));unfold Builtin.«frozenset.__iter__» Builtin.Frozenset.slot0 slotArgs;simp only[List.isEmpty_nil,Bool.not_true,false_eq_true,↓reduceIte,bind_assoc,length_nil,bne_self_eq_false];unfold Builtin.Frozenset.addrOf Builtin.Frozenset.sizeOf;refine wpAny_bind (wpAny_pure ?_)
 try dsimp only
 refine wpAny_bind (wpAny_pure ?_);refine wpAny_bind (wpAny_bind (wpAny_setEntries_of c hd j (wpAny_pure ?_)));refine wpAny_bind (sI c hd j ?_);have q:a<s.heap.objs.size:=Heap.lt_size c;cases hc:(!Nk w&&(!t.plain&&decide (es.size > 1))) with
 |true =>
  rw[and_eq_true,and_eq_true,Bool.not_eq_true',Bool.not_eq_true'] at hc;obtain⟨hb,k,g⟩:=hc;have g:=of_decide_eq_true g;rw[if_pos rfl];refine wpAny_bind (jY es.size (List.range es.size) (by simp) λorder d m=>?_);have f:order.length=es.size:=by rw[m.length_eq,length_range]
  refine wpAny_bind (wpAny_newTuple ?_ (by rw[length_map,f];exact hz));refine wpAny_bind (wpAny_setEpoch_of (Heap.get?_push_of_some _ c) hd j ?_);refine wpAny_bind (wpAny_newObj_type (wpAny_pure ⟨_,rfl,"set_iterator",_,⟨_,Heap.get?_push_size _ rfl,rfl⟩,SF.slot_next.lookup,?_⟩))
  refine h _ _ _ _ (.ref s.heap.objs.size) _ d (Way.drawn hb k g s.heap.objs.size order m ?_) ⟨_,Heap.get?_push_size _ rfl,rfl,rfl⟩ ⟨rfl,⟨_,Heap.get?_push_of_some _ (Heap.get?_push_size _ rfl),rfl,0,?_⟩⟩
   (λb o e=>Heap.get?_push_of_some _ (Heap.get?_push_of_some _ e)) ?_ ?_
  ·rw[Heap.size_push];exact ne_of_lt (lt_succ_self _)
  ·rfl
  ·rw[Heap.size_push];exact le_succ _
  intro b hb;rcases mem_cons.mp hb with e |hb
  ·rw[e,Heap.size_push];exact .inr (le_succ _)
  rcases mem_cons.mp hb with e |hb
  ·exact .inl e
  rw[mem_singleton.mp hb];exact .inr (le_refl _)
 |false =>
  rw[if_neg (by decide)];refine wpAny_bind (wpAny_pure ?_);refine wpAny_bind (wpAny_setEpoch_of c hd j ?_);refine wpAny_bind (wpAny_newObj_type (wpAny_pure ⟨_,rfl,"set_iterator",_,⟨_,Heap.get?_push_size _ rfl,rfl⟩,SF.slot_next.lookup,?_⟩))
  have l:∀ b∈[s.heap.objs.size,a],b=a∨s.heap.objs.size<=b:=λb hb=>by
   rcases mem_cons.mp hb with e |hb
   ·rw[e];exact .inr (le_refl _)
   exact .inl (mem_singleton.mp hb)
  cases hb:Nk w with
  |true=>exact h _ _ _ _ (.int 0 0) _ s.drawn (Way.text hb) ⟨_,Heap.get?_push_size _ rfl,rfl,rfl⟩ ⟨0,rfl⟩ (λb o e=>Heap.get?_push_of_some _ e) (le_refl _) l
  |false =>
   have g:t.plain=true∨es.size<=1:=by
    cases k:t.plain with
    |true=>exact .inl rfl
    |false =>
     rw[hb,k] at hc;have:=of_decide_eq_false (show decide (es.size > 1)=false from hc);exact .inr (by omega)
   exact h _ _ _ _ (.int 0 0) _ s.drawn (Way.one hb (p hb) g hr) ⟨_,Heap.get?_push_size _ rfl,rfl,rfl⟩ ⟨0,rfl,uV hr (zero_le _) (λi _ z=>absurd z (by omega)) λi _ _=>zero_le _⟩ (λb o e=>Heap.get?_push_of_some _ e) (le_refl _) l
theorem J4.ty {first:Value}{i n:Nat}(x:J4 s.heap it a first i n ep):s.TypeIs (.ref it) "set_iterator":=let ⟨o,b,hc,_⟩:=x;⟨o,b,hc⟩
theorem g7 {k i:Nat}{Q:Option (Value×Nat)->Shared->Prop}(b:s.heap.get? a=some o)(hd:o.data = .set es ep t)(c:t.fits es.size=true)(hb:Nk w=true)
  (h:Q (((pickOrder (w.params.setOrder a ep) es)[i]?).map λe=>(e.2,k)) s):wpAny (model prog w) A (setNext a k i ep) Q E s:=by
 unfold setNext;refine wpAny_bind (wpAny_setState_of b hd c ?_);dsimp only;refine wpAny_bind (i0 ?_);rw[hb,if_pos rfl,if_neg (by simp)];refine wpAny_bind ?_;unfold setWalk;refine wpAny_bind (wpAny_setState_of b hd c ?_);dsimp only;refine wpAny_bind (i0 ?_);rw[hb,if_pos rfl];exact wpAny_bind (wpAny_askSetting (wpAny_pure (wpAny_pure h)))
theorem ii {k i:Nat}{Q:Option (Value×Nat)->Shared->Prop}(c:s.heap.get? a=some o)(hd:o.data = .set es ep t)(d:t.fits es.size=true)(hb:Nk w=false)(e:t.led=true)(h1:t.plain=true∨es.size<=1)
  (h:Q (match es[SetTable.below t.place k]?,t.place[SetTable.below t.place k]? with |some (_,x),some j=>some (x,j+1) |_,_=>none) s):wpAny (model prog w) A (setNext a k i ep) Q E s:=by
 unfold setNext;refine wpAny_bind (wpAny_setState_of c hd d ?_);dsimp only;refine wpAny_bind (i0 ?_);rw[hb,if_neg (by decide)]
 have b:(!t.plain&&decide (es.size > 1))=false:=by
  rcases h1 with h1 |h1
  ·rw[h1];rfl
  rw[decide_eq_false (by omega),Bool.and_false]
 show wpAny _ _ (if (!t.plain&&decide (es.size > 1))=true then _ else _) _ _ _;rw[b,if_neg (by decide)];refine wpAny_bind ?_;show wpAny _ _ (if (!t.led&&!es.isEmpty)=true then _ else _) _ _ _;rw[e,if_neg (by simp)];exact wpAny_pure (wpAny_pure h)
end
section
variable {prog:Program}{w:World}{A:Around}{E:IG}{s:Shared}
variable {a it:Addr}{o:Obj}{es:Array (Int×Value)}{ep:Nat}{t:SetTable}
theorem pE {h:Heap}{first f':Value}{i n:Nat}(x:J4 h it a first i n ep) :
  J4 (h.update it (Obj.mapFields (·.setIfInBounds 0 f'))) it a f' i n ep:=by
 obtain⟨o,b,hc,hd⟩:=x;exact⟨_,Heap.get?_update_self _ b (Obj.isFreed_of_fields (Obj.data_mapFields hd _)),(Obj.cls_mapFields ..).trans hc,by rw[Obj.data_mapFields hd];simp⟩
theorem pF {h:Heap}{first:Value}{i n:Nat}(x:J4 h it a first i n ep) :
  J4 (h.update it (Obj.mapFields (·.setIfInBounds 1 (rawInt ((i:Int)+1))))) it a first (i+1) n ep:=by
 obtain⟨o,b,hc,hd⟩:=x;exact⟨_,Heap.get?_update_self _ b (Obj.isFreed_of_fields (Obj.data_mapFields hd _)),(Obj.cls_mapFields ..).trans hc,by rw[Obj.data_mapFields hd];simp[rawInt]⟩
set_option maxHeartbeats 1000000 in
theorem next_item {out:Array (Int×Value)}{fp:List Addr}{F:Nat->Value->Heap->Prop}{first:Value}{i:Nat}{x:Int×Value}{Q:Option Value->Shared->Prop}(y:Way w a it es ep t out fp F)(Kh:a≠it)(d:s.heap.get? a=some o)(hd:o.data = .set es ep t)
  (c:t.fits es.size=true) (b:J4 s.heap it a first i es.size ep) (l:F i first s.heap) (f:out[i]?=some x)
  (B:∀ f' h',J4 h' it a f' (i+1) es.size ep->F (i+1) f' h'->Heap.SameBut it s.heap h'->Q (some x.2) { s with heap:=h' }):wpAny (model prog w) A (pyNext (.ref it)) Q E s:=by
 obtain⟨oi,g,RX,j⟩:=id b;unfold pyNext;refine wpAny_bind (wpAny_attempt (wpAny_callSpecial?_slot (name:=Str.ofString "__next__") b.ty SF.slot_next (wpAny_call_entry SF.slot_next b.ty SF.Nj ?_ (SF.args_next _))));unfold Builtin.«set_iterator.__next__»;refine wpAny_bind (wpAny_pure ?_);refine wpAny_bind (wpAny_fieldsOf g j ?_);dsimp only;refine wpAny_bind (wpAny_setEntries_of d hd c ?_);rw[if_neg (by simp)]
 have step:∀ (f':Value),F (i+1) f' ((s.heap.update it (Obj.mapFields (·.setIfInBounds 0 f'))).update it (Obj.mapFields (·.setIfInBounds 1 (rawInt ((i:Int)+1)))))->∀ (k:Nat),f'=rawInt k->∀ (D:IG),
   wpAny (model prog w) A.in1 (do setField (.ref it) 0 (rawInt k);setField (.ref it) 1 (rawInt ((i:Int)+1));ret x.2) (λfin T => ∃ v,fin = .done (.ret v)/\Q (some v) T) D s:=by
  rintro f' R k rfl D;refine wpAny_bind (wpAny_setField g j (by simp) ?_);have z:=pE (f':=rawInt k) b;obtain⟨o1,NZ,Tf,O⟩:=id z;refine wpAny_bind (wpAny_setField NZ O (by simp) (wpAny_pure ⟨_,rfl,?_⟩));exact B _ _ (pF z) R ((Heap.SameBut.update ..).trans (Heap.SameBut.update ..))
 cases y with
 |text hb =>
  obtain⟨k,rfl⟩:=l;dsimp only;refine wpAny_bind (g7 d hd c hb ?_);simp only[Int.toNat_natCast];rw[f];exact wpAny_mono (step (rawInt k) ⟨k,rfl⟩ k rfl _) (λ_ _ h=>let ⟨v,e,q⟩:=h;⟨v,e,wpAny_pure q⟩) λ_ _ h=>h
 |one hb I m hr =>
  have hi:i<es.size:=(Array.getElem?_eq_some_iff.mp f).1;have K:t.place.size=es.size:=by have:=c;simp only[SetTable.fits,and_eq_true,beq_iff_eq] at this;exact this.1
  obtain⟨k,rfl,V⟩:=l;have S:t.place[i]?=some t.place[i]:=Array.getElem?_eq_getElem (by omega)
  have M:SetTable.below t.place (t.place[i]+1)=i+1:=uV hr (by omega) (λn u JL=>by
   rcases lt_or_ge n i with q |q
   ·have:=hr.lt q (show i<t.place.size by omega);omega
   have e:n=i:=by omega
   subst e;omega) λn u Qm=>hr.lt (show i<n by omega) u
  dsimp only;refine wpAny_bind (ii d hd c hb I m ?_);rw[Int.toNat_natCast,V,f,S];exact wpAny_mono (step (rawInt ((t.place[i]+1:Nat):Int)) ⟨_,rfl,M⟩ (t.place[i]+1) rfl _) (λ_ _ h=>let ⟨v,e,q⟩:=h;⟨v,e,wpAny_pure q⟩) λ_ _ h=>h
 |drawn hb hp m tp order X L =>
  obtain⟨rfl,P⟩:=l;obtain⟨N,G,W,J,r⟩:=id P;dsimp only;refine wpAny_bind (wpAny_seqItems G r ?_);obtain⟨g1,Z⟩:=yG (es:=es) X;have C:(order.filterMap λi=>es[i]?)[i]?=some x:=by simpa using f
  rw[Z i] at C;obtain⟨p,Y,H⟩:=bind_eq_some_iff.mp C;have U:((order.map λ(i:Nat)=>Value.int i 0).toArray)[Int.toNat (i:Int)]?=some (.int p 0):=by rw[Int.toNat_natCast,List.getElem?_toArray,getElem?_map,Y];rfl
  dsimp only;rw[U];dsimp only;refine wpAny_bind ?_;unfold setNextDrawn;refine wpAny_bind (wpAny_setState_of d hd c ?_);dsimp only;rw[Int.toNat_natCast,Int.toNat_natCast,if_neg (by simp),H];refine wpAny_pure ?_;refine wpAny_bind (wpAny_setField g j (by simp) (wpAny_pure ⟨_,rfl,wpAny_pure ?_⟩));exact B _ _ (pF b) ⟨rfl,⟨N,((Heap.SameBut.update ..).2 tp L).trans G,W,J,r⟩⟩ (Heap.SameBut.update ..)
end
section
variable {prog:Program}{w:World}{A:Around}{E:IG}{s:Shared}
variable {a it:Addr}{o:Obj}{es:Array (Int×Value)}{ep:Nat}{t:SetTable}
theorem vL {α:Type}{Q : α->Shared->Prop}(c:A.handled=none)(h:∀ h' e,(∀ b o,s.heap.get? b=some o->h'.get? b=some o)->(∃ o,h'.get? e=some o/\o.cls = .type "StopIteration")->E (.ref e) { s with heap:=h' }) :
  wpAny (model prog w) A (newExc (.type "StopIteration") [] >>= λe=>(raiseNew e:Sem α)) Q E s:=by
 refine wpAny_bind ?_;simp only[newExc,newTuple];refine wpAny_bind (wpAny_newObj_type ?_ (by size_fits));refine wpAny_bind (m:=firstArgMember _ _) (wpAny_of_eq (a:=Value.none) (by first |rfl |(simp only[firstArgMember];rfl)) ?_);refine wpAny_newObj_type ?_ (by size_fits);simp only[raiseNew];refine wpAny_bind (wpAny_handled ?_);rw[c];refine wpAny_bind (wpAny_pure (wpAny_throw ?_));exact h _ _ (λb o e=>Heap.get?_push_of_some _ (Heap.get?_push_of_some _ e)) ⟨_,Heap.get?_push_size _ rfl,rfl⟩
set_option maxHeartbeats 1000000 in
theorem next_end {out:Array (Int×Value)}{fp:List Addr}{F:Nat->Value->Heap->Prop}{first:Value}{Q:Option Value->Shared->Prop}(u:A.handled=none)(y:Way w a it es ep t out fp F)(U:a≠it)(m:s.heap.get? a=some o)(hd:o.data = .set es ep t)
  (l:t.fits es.size=true) (c:J4 s.heap it a first es.size es.size ep) (n:F es.size first s.heap)
  (G:∀ h',(∀ b o,b≠it->s.heap.get? b=some o->h'.get? b=some o)->Q none { s with heap:=h' }):wpAny (model prog w) A (pyNext (.ref it)) Q E s:=by
 have D:out.size=es.size:=by have:=y.perm.length_eq;simpa using this
 obtain⟨oi,g,Y,j⟩:=id c;unfold pyNext;refine wpAny_bind (wpAny_attempt (wpAny_callSpecial?_slot (name:=Str.ofString "__next__") c.ty SF.slot_next (wpAny_call_entry SF.slot_next c.ty SF.Nj ?_ (SF.args_next _))));unfold Builtin.«set_iterator.__next__»;refine wpAny_bind (wpAny_pure ?_);refine wpAny_bind (wpAny_fieldsOf g j ?_);dsimp only;refine wpAny_bind (wpAny_setEntries_of m hd l ?_);rw[if_neg (by simp)]
 have fin:∀ (h:Shared) (q:Fin->Shared->Prop),(∀ b o,b≠it->s.heap.get? b=some o->h.heap.get? b=some o)->(∀ h',({ s with heap:=h' }:Shared)={ h with heap:=h' }) ->
   wpAny (model prog w) A.in1 (newExc (.type "StopIteration") [] >>= λe=>(raiseNew e:Sem Fin)) q
    (λe K=>wpAny (model prog w) A (do let b ← isInstance e (.type "StopIteration");if b=true then pure none else throw e) Q E K) h:=λh q B R=>by
  refine vL (by simp[u]) λh' e k H=>?_;obtain⟨r,z,S⟩:=H;refine wpAny_bind (wpAny_isInstance (T:="StopIteration") (b:=true) ⟨r,z,S⟩ isSubtype_stop ?_);rw[if_pos rfl];refine wpAny_pure ?_;rw[← R];exact G h' λb o d e=>k b o (B b o d e)
 have up:∀ (f:Array Value->Array Value) b o,b≠it->s.heap.get? b=some o->(s.heap.update it (Obj.mapFields f)).get? b=some o:=λf b o d e=>((Heap.SameBut.update ..).2 b d).trans e;cases y with
 |text hb =>
  obtain⟨k,rfl⟩:=n;dsimp only;refine wpAny_bind (g7 m hd l hb ?_);simp only[Int.toNat_natCast];rw[Array.getElem?_eq_none (by omega)];refine wpAny_bind (wpAny_setField g j (by simp) ?_);exact fin _ _ (up _) λ_=>rfl
 |one hb x p hr =>
  have key:∃ k:Nat,first = .int k 0/\es[SetTable.below t.place k]?=none:=by obtain⟨k,rfl,e⟩:=n;exact⟨k,rfl,by rw[e];exact Array.getElem?_eq_none (le_refl _)⟩
  obtain⟨k,rfl,M⟩:=key;dsimp only;refine wpAny_bind (ii m hd l hb x p ?_);rw[Int.toNat_natCast,M];refine wpAny_bind (wpAny_setField g j (by simp) ?_);exact fin _ _ (up _) λ_=>rfl
 |drawn hb V p tp order N Z =>
  obtain⟨rfl,J⟩:=n;obtain⟨Xk,O,Ti,X,v⟩:=id J;dsimp only;refine wpAny_bind (wpAny_seqItems O v ?_);dsimp only;have L:((order.map λ(i:Nat)=>Value.int i 0).toArray)[Int.toNat (es.size:Int)]?=none:=by rw[Int.toNat_natCast,List.getElem?_toArray,List.getElem?_eq_none];rw[length_map,N.length_eq,length_range];exact le_refl _
  rw[L];dsimp only;refine wpAny_bind (wpAny_setField g j (by simp) ?_);have C:=pE (f':=rawInt 0) c;obtain⟨o1,P,W,I⟩:=id C;refine wpAny_bind (wpAny_setField P I (by simp) ?_);exact fin _ _ (λb o d e=>((Heap.SameBut.update ..).2 b d).trans (up _ b o d e)) λ_=>rfl
theorem Bp:entryFor table "set_iterator.__iter__"=some Builtin.«dict_keyiterator.__iter__»:=entryFor_alias (id':="dict_keyiterator.__iter__") (by kernel_rfl) rfl (by decide) (by kernel_rfl)
theorem args_self (a:Value):argsOk "set_iterator.__iter__" ⟨[a],[]⟩:=by unfold argsOk;rw[signature?_of (id:="set_iterator.__iter__") (n:=['_','_','r','e','t','i','_','_']) (o:=['r','o','t','a','r','e','t','i','_','t','e','s']) (by kernel_rfl) SF.O3];kernel_rfl
theorem z_ {first:Value}{i n:Nat}{Q:IG}(b:J4 s.heap it a first i n ep)(h:Q (.ref it) s):wpAny (model prog w) A (pyIter (.ref it)) Q E s:=by refine wpAny_pyIter_slot b.ty SF.slot_self (wpAny_call_entry SF.slot_self b.ty Bp ?_ (args_self _));show wpAny _ _ (ret (.ref it)) _ _ s;exact wpAny_pure ⟨_,rfl,"set_iterator",_,b.ty,SF.slot_next.lookup,h⟩
theorem J4.keep {h h':Heap}{first:Value}{i n:Nat}(x:J4 h it a first i n ep)(e:∀ o,h.get? it=some o->h'.get? it=some o):J4 h' it a first i n ep:=let ⟨o,b,r⟩:=x;⟨o,e o b,r⟩
theorem Way.fp {out:Array (Int×Value)}{fp:List Addr}{F:Nat->Value->Heap->Prop}(y:Way w a it es ep t out fp F):it∈fp/\a∈fp/\∀ i f (h h':Heap),(∀ b∈fp,b≠it->∀ o,h.get? b=some o->h'.get? b=some o)->F i f h->F i f h':=by
 cases y with
 |text=>exact⟨by simp,by simp,λ_ _ _ _ _ x=>x⟩
 |one=>exact⟨by simp,by simp,λ_ _ _ _ _ x=>x⟩
 |drawn _ _ _ tp order _ c=>exact⟨by simp,by simp,λ_ _ h h' k x=>⟨x.1,by obtain⟨o,d,r⟩:=x.2;exact⟨o,k tp (by simp) c o d,r⟩⟩⟩
theorem Walks.set {out:Array (Int×Value)}{fp:List Addr}{F:Nat->Value->Heap->Prop}(x:A.handled=none)(y:Way w a it es ep t out fp F)(m:a≠it)(hex:o.ExactSet)(hd:o.data = .set es ep t)(p:t.fits es.size=true) :
  Walks prog w A it fp [it] es.size (λi v=>(out[i]?).map (·.2)=some v) (λi h=>h.get? a=some o/\∃ first,J4 h it a first i es.size ep/\F i first h) where
 sub:=λb hb=>by rw[mem_singleton.mp hb];exact y.fp.1
 frame:=λi h j st k=>⟨k a y.fp.2.1 o st.1,let ⟨f,c,d⟩:=st.2;⟨f,c.keep λo e=>k it y.fp.1 o e,y.fp.2.2 i f h j (λb hb _ o e=>k b hb o e) d⟩⟩
 item:=λi s Q E C st g=>by
  obtain⟨l,f,c,d⟩:=st;have u:out.size=es.size:=by have:=y.perm.length_eq;simpa using this
  have n:out[i]?=some out[i]:=Array.getElem?_eq_getElem (by omega);refine next_item y m l hd p c d n λq j r B sb=>?_;refine g _ j s.toks (by rw[n];rfl) ⟨(sb.2 a m).trans l,q,r,B⟩ λb o hb e=>(sb.2 b (λz=>hb (by simp[z]))).trans e
 done:=λs Q E st g=>by
  obtain⟨l,f,c,d⟩:=st;exact next_end x y m l hd p c d λj k=>g j s.toks λb o hb e=>k b o (λz=>hb (by simp[z])) e
 self:=λi s Q E st g=>let ⟨f,c,_⟩:=st.2;z_ c g
end
section
variable {prog:Program}{w:World}{A:Around}{E:IG}{s:Shared}
set_option maxHeartbeats 1000000 in
theorem mG {x:Addr}{T:String}(Zb:T="set"∨T="dict")(hT:s.TypeIs (.ref x) T){Q:List Value->Shared->Prop}(m:List Value->Prop)
  (Qs:∀ (H:Heap) (Q':IG) (E':IG),(∀ b o,s.heap.get? b=some o->H.get? b=some o) ->
   (∀ (I:Addr) (fp i:List Addr) (n:Nat) (P:Nat->Value->Prop) (St:Nat->Shared->Prop) (g:Shared),WalksS prog w A.in1 I fp i (λa b=>b=a) n P St->St 0 g->n<=sizeLine->(∀ b∈fp,b=x∨H.objs.size<=b)->(∀ b∈i,H.objs.size<=b) ->
    (∀ b o,H.get? b=some o->g.heap.get? b=some o)->g.gens=s.gens->g.os=s.os->(∀ d,ItemsOf P d n->m d.toList)->Q' (.ref I) g)->wpAny (model prog w) A.in1 (pyIter (.ref x)) Q' E' { s with heap:=H })
  (hQ:∀ s' d,m d->(∀ b o,s.heap.get? b=some o->s'.heap.get? b=some o)->s'.gens=s.gens->s'.os=s.os->Q d s'):wpAny (model prog w) A (collect (.ref x)) Q E s:=by
 obtain⟨S,N,V⟩:=id hT;have Z:x<s.heap.objs.size:=Heap.lt_size N;unfold collect;refine wpAny_bind (wpAny_runValue (codeAny_builtin F.entry_proto_collect ?_));rw[Around.under_plainId F.plain_proto_collect _];show wpAny _ A.in1 (newList [] >>= λl=>again (.builtin "list.__iadd__" ⟨[l,.ref x],[]⟩)) _ _ s;refine wpAny_bind (wpAny_newObj_type ?_);refine wpAny_pure ⟨plainId_quiet F.plain_list_iadd _,codeAny_builtin F.entry_list_iadd ?_⟩;rw[Around.under_plainId F.plain_list_iadd _];have OK:(s.heap.push { cls:=.type "list",data:=.seq ([]:List Value).toArray }).get? s.heap.objs.size=some { cls:=.type "list",data:=.seq ([]:List Value).toArray }:=Heap.get?_push_size _ rfl;have Zc:Shared.TypeIs { s with heap:=s.heap.push { cls:=.type "list",data:=.seq ([]:List Value).toArray } } (.ref x) T:=⟨S,Heap.get?_push_of_some _ N,V⟩;have n1:Builtin.List.listSameRef (.ref s.heap.objs.size) (.ref x)=false:=by simp[Builtin.List.listSameRef,ne_of_gt Z]
 show wpAny _ A.in1 (Builtin.List.listExtendWith (.ref s.heap.objs.size) (.ref x) (.ref s.heap.objs.size)) _ _ _;unfold Builtin.List.listExtendWith;refine wpAny_bind (wpAny_typeOf Zc ?_);have kp:∀ b o,s.heap.get? b=some o->(s.heap.push { cls:=.type "list",data:=.seq ([]:List Value).toArray }).get? b=some o:=λb o e=>Heap.get?_push_of_some _ e;have sz:(s.heap.push { cls:=.type "list",data:=.seq ([]:List Value).toArray }).objs.size=s.heap.objs.size+1:=Heap.size_push ..
 have main:∀ (I:Addr) (fp i:List Addr) (n:Nat) (P:Nat->Value->Prop) (St:Nat->Shared->Prop) (g:Shared),WalksS prog w A.in1 I fp i (λa b=>b=a) n P St->St 0 g->n<=sizeLine ->
   (∀ b∈fp,b=x∨(s.heap.push { cls:=.type "list",data:=.seq ([]:List Value).toArray }).objs.size<=b)->(∀ b∈i,(s.heap.push { cls:=.type "list",data:=.seq ([]:List Value).toArray }).objs.size<=b) ->
   (∀ b o,(s.heap.push { cls:=.type "list",data:=.seq ([]:List Value).toArray }).get? b=some o->g.heap.get? b=some o)->g.gens=s.gens->g.os=s.os->(∀ d,ItemsOf P d n->m d.toList) ->
   ∀ (R:Result->Shared->Prop),(∀ s' d c,m d.toList->(∀ b o,s.heap.get? b=some o->s'.heap.get? b=some o)->s'.gens=s.gens->s'.os=s.os->s'.heap.get? s.heap.objs.size=some { cls:=.type "list",dict:=none,data:=.seq d c,slots:=#[] }->R (.ok (.ret (.ref s.heap.objs.size))) s') ->
   wpAny (model prog w) A.in1 (rule "list.extend.makes-room" >>= λ_=>Builtin.List.listTouch (.ref s.heap.objs.size) >>= λ_=>again (.builtin "list.extend.loop" ⟨[.ref s.heap.objs.size,.ref I,.ref s.heap.objs.size],[]⟩))
    (λfin s'=>match fin with | .done f=>R (.ok f) s' | .again O=>O.quiet=true/\codeAny (model prog w) A O R s') (λe s'=>R (.error e) s') g:=by
  intro I fp i n P St g W st u L D j K o1 M R hR
  have Rb:s.heap.objs.size∉fp:=λG=>by
   rcases L _ G with e |e
   ·exact ne_of_gt Z e
   rw[sz] at e;exact Nat.not_succ_le_self _ e
  refine wpAny_bind (wpAny_rule ?_);refine wpAny_bind ?_;have hS:g.heap.get? s.heap.objs.size=some { cls:=.type "list",data:=.seq ([]:List Value).toArray }:=j _ _ OK;show wpAny _ A.in1 (updateSeq s.heap.objs.size (·.push .none) >>= λ_=>updateSeq s.heap.objs.size (·.pop)) _ _ _;refine wpAny_bind (wpAny_updateSeq hS rfl ?_);have Y:=Heap.get?_update_self (Obj.mapSeq (·.push Value.none)) hS rfl;refine wpAny_updateSeq (hz:=by seq_fits) Y rfl ?_;have Lb:=Heap.get?_update_self (Obj.mapSeq (·.pop)) Y rfl
  have Xn:∀ b o,b≠s.heap.objs.size->g.heap.get? b=some o->((g.heap.update s.heap.objs.size (Obj.mapSeq (·.push Value.none))).update s.heap.objs.size (Obj.mapSeq (·.pop))).get? b=some o:=
   λb o hb e=>(Heap.get?_update_other _ _ (Ne.symm hb)).trans ((Heap.get?_update_other _ _ (Ne.symm hb)).trans e)
  refine wpAny_pure ⟨plainId_quiet F.plain_extend_loop _,codeAny_extend_loopS W u _ Rb _ n 0 _ _ _ rfl (zero_le _) (W.frame 0 g _ g.toks st (le_refl _) λb hb o e=>Xn b o (λh=>Rb (h▸hb)) e) Lb (ItemsOf.nil P) λs' To O G M_ VR=>?_⟩;refine hR s' To O (M To VR) (λb o e=>?_) (G.gens.trans K) (G.os.trans o1) M_;have hb:b<s.heap.objs.size:=Heap.lt_size e;refine G.heap b o (λz=>?_) (Xn b o (ne_of_lt hb) (j b o (kp b o e)));rcases mem_cons.mp z with z |z
  ·exact ne_of_lt hb z
  have:=D b z;rw[sz] at this;exact Nat.not_succ_le_self _ (Nat.le_trans this (Nat.le_of_lt hb))
 have last:∀ (s':Shared) (d:Array Value) (c:Nat),m d.toList->(∀ b o,s.heap.get? b=some o->s'.heap.get? b=some o)->s'.gens=s.gens->s'.os=s.os->s'.heap.get? s.heap.objs.size=some { cls:=.type "list",dict:=none,data:=.seq d c,slots:=#[] } ->
   wpAny (model prog w) A (load s.heap.objs.size >>= λo=>match o.data with | .seq J _=>pure J.toList |_=>unsupported "internal:collect") Q E s':=λs' d c p y t C q=>wpAny_bind (wpAny_load q (wpAny_pure (hQ s' d.toList p y t C)))
 rcases Zb with rfl |rfl
 ·rw[if_neg (by rw[n1];decide)];refine wpAny_bind (Qs _ _ _ kp λI fp i n P St g W st u L D j K o1 M=>?_);have k:g.TypeIs (.ref x) "set":=⟨S,j _ _ (kp _ _ N),V⟩;refine wpAny_bind (wpAny_holding ?_);unfold Builtin.List.listLengthHint;refine wpAny_bind (wpAny_specialOf k F.slot_set_len.lookup ?_)
  (generalize B:("set.__len__":String)=id0;wp_delta;rw[show splitId id0=some ("set","__len__") from by subst B;decide];subst B)
  refine wpAny_bind (wpAny_isInstance (b:=true) k (by rw[isSubtype_type];kernel_rfl) ?_);refine wpAny_bind (wpAny_typeOf k ?_);refine wpAny_pure ?_;dsimp only;split
  ·refine main I fp i n P St g W st u L D j K o1 M (λr s'=>match r with
    | .ok (.ret v)=>wpAny (model prog w) A (match v with
     | .ref a=>do
      let o ← load a
      match o.data with
       | .seq J _=>pure J.toList
       |_=>unsupported "internal:collect"
     |_=>unsupported "internal:collect") Q E s'
    | .ok _=>False
    | .error e=>E e s') ?_
   exact λU d c p y t C q=>last U d c p y t C q
  rename_i X;exact absurd (by decide) X
 rw[if_neg (by rw[n1];decide)];refine wpAny_bind (Qs _ _ _ kp λI fp i n P St g W st u L D j K o1 M=>?_);have k:g.TypeIs (.ref x) "dict":=⟨S,j _ _ (kp _ _ N),V⟩;refine wpAny_bind (wpAny_holding ?_);unfold Builtin.List.listLengthHint;refine wpAny_bind (wpAny_specialOf k F.slot_dict_len.lookup ?_)
 (generalize B:("dict.__len__":String)=id0;wp_delta;rw[show splitId id0=some ("dict","__len__") from by subst B;decide];subst B)
 refine wpAny_bind (wpAny_isInstance (b:=true) k (by rw[isSubtype_type];kernel_rfl) ?_);refine wpAny_bind (wpAny_typeOf k ?_);refine wpAny_pure ?_;dsimp only;split
 ·refine main I fp i n P St g W st u L D j K o1 M (λr s'=>match r with
   | .ok (.ret v)=>wpAny (model prog w) A (match v with
    | .ref a=>do
     let o ← load a
     match o.data with
      | .seq J _=>pure J.toList
      |_=>unsupported "internal:collect"
    |_=>unsupported "internal:collect") Q E s'
   | .ok _=>False
   | .error e=>E e s') ?_
  exact λU d c p y t C q=>last U d c p y t C q
 rename_i X;exact absurd (by decide) X
end
end L2
namespace L2
open PySem PySem.Spec PyProof.Rows PySem.W
def js:List D->Option (List Key)
 |[]=>some []
 |d::ds=>(eA d).bind λk=>(js ds).map (k::·)
def nH (d:D)(S:IL):Option D:=match d with
 | .tup a=>(d4 a).map .lst
 | .lst a=>(d4 a).map .lst
 | .loc l=>match S[l]? with
  |some (.dict kvs)=>(d4 (kvs.map (·.1))).map .lst
  |_=>none
 |_=>none
def xI (f:IE D):IE D:=λb S=>ai (f b S) λd a=>aJ (nH d a) a
def BE (k:D->Bool)(g:D->D->Option D)(fe b:IE D):IE D:=λa S=>ai (fe a S) λx d=>if k x=true then ai (b a d) λy c=>aJ (g x y) c else none
section
variable {X:Cx}{W:WT}
variable {e:Expr}{fe:IE D}{gs:IE (List D)}{pos NK p p2:Pos}{x y:Str}
theorem AW {k:D->Bool}{g:D->D->Option D}{n:IE D}{T:String}{r:V->List V->Hp->VK->Prop}{l:St}{H:Hp}{Q:VK}(q:∀ J f d v,k d=true->At X.K f J d v->Uy X.K T v f)
  (hr:∀ (v i:V) (a:Hp) (Q:VK),SJ X.K g v i a Q->r v [i] a Q) (h:tE X W (BE k g fe n) l H Q):WS X.K T r (tE X W fe) (DG (tE X W n) qR) l H Q:=
 (tG.IZ h).mono λv f p=>by
  obtain⟨d,b⟩:=p
  by_cases j:k d=true
  ·simp only[j,if_true] at b;refine⟨?_,(tG.IZ b).mono λi a ⟨u,o⟩=>hr v i a Q (tG.WW o)⟩;obtain⟨J,_,_,_,_,_,m,_,_⟩:=b;exact q J f d v j m.IU.1
  obtain⟨J,s,S,r,t,c,m,e,z⟩:=b;simp only[j,false_eq_true,if_false] at e;cases e
def VS:Key->Bool
 | .inl _=>true
 | .inr _=>false
def Fy (P:Program)(w:World)(p:Addr)(a:List Key):HO:=HO.ext λh=>JN (bn P w) VS (!Nk w) h p a
theorem Ba {k:Key}{u:Value}(r:RelV (kV k) u):u.scannable=true/\plainKind u=VS k:=by
 cases k with
 |inl i=>obtain⟨t,e⟩:=(show ∃ t,u=Value.int i t from r);subst e;exact⟨rfl,rfl⟩
 |inr x=>obtain⟨t,e⟩:=(show ∃ t,u=Value.str x t from r);subst e;exact⟨rfl,rfl⟩
theorem AX (a:List Key):met (λi=>a.getD i (.inl 0)) a.length=a.foldl dz []:=by unfold met;congr 1;apply List.ext_getElem (by simp);intro i b c;simp at b;simp[List.getD,b]
theorem JN.len {h:Heap}{p:Addr}{a:List Key}{P:Program}{w:World}{es:Array (Int×Value)}(d:∃ l:List (Int×Value),l.Perm es.toList/\Paired (u9 (bn P w)) a l):es.size=a.length:=by obtain⟨l,c,r⟩:=d;have b:=c.length_eq;have e:=mj r;simp only[length_toList] at b;omega
theorem xq {K:IF}{H:Hp}{J:List Addr}:∀ {ds:List D}{b:List Key}{vs:List V},js ds=some b->IT K H J ds vs->vs=b.map kV
 |[],b,vs,e,m=>by cases e;exact IT.IV.mp m
 |d::ds,b,vs,e,m=>by
  obtain⟨v,r,rfl,a,n⟩:=IT.IQ.mp m;rw[js] at e;obtain⟨k,c,h⟩:=bind_eq_some_iff.mp e;obtain⟨i,f,g⟩:=map_eq_some_iff.mp h;subst g;rw[map_cons,uf c a,xq f n]
theorem qd:∀ {ds:List D}{a:List Key},js ds=some a->a.length=ds.length
 |[],a,e=>by cases e;rfl
 |d::ds,a,e=>by
  rw[js] at e;obtain⟨k,g,f⟩:=bind_eq_some_iff.mp e;obtain⟨h,b,c⟩:=map_eq_some_iff.mp f;subst c;rw[length_cons,length_cons,qd b]
theorem JN.vals {P:Program}{w:World}{a:List Key}{l:List (Int×Value)}(r:Paired (u9 (bn P w)) a l):Vals (a.map kV) (l.map (·.2)):=by
 induction r with
 |nil=>exact .nil
 |cons f t b =>
  rename_i k e a l;refine .cons ?_ b;obtain⟨c,_,_⟩:=f;rcases bg c with ⟨i,t,rfl,e⟩ |⟨x,t,rfl,e⟩
  ·exact⟨t,e⟩
  exact⟨t,e⟩
theorem xY:∀ {us us':List Value},us'.Perm us->∀ {vs:List V},Vals vs us->∃ c:List V,c.Perm vs/\Vals c us':=by
 intro us us' m
 induction m with
 |nil=>intro vs r;exact⟨vs,.refl _,r⟩
 |cons x _ e =>
  intro vs r;cases r with
  |cons a b=>obtain⟨w,p,q⟩:=e b;exact⟨_::w,p.cons _,.cons a q⟩
 |swap x y l =>
  intro vs r;cases r with
  |cons a b=>cases b with
   |cons j g=>exact⟨_::_::_,.swap ..,.cons j (.cons a g)⟩
 |trans _ _ h i =>
  intro vs r;obtain⟨w,p,q⟩:=i r;obtain⟨k,d,f⟩:=h q;exact⟨k,d.trans p,f⟩
theorem BK {K:IF}{H:Hp}{J:List Addr}{e vs:List V}(s:e.Perm vs):∀ {ds:List D},IT K H J ds vs->∃ c:List D,c.Perm ds/\IT K H J c e:=by
 induction s with
 |nil=>intro ds m;exact⟨ds,.refl _,m⟩
 |cons x _ h =>
  intro ds m;cases ds with
  |nil=>cases IT.IV.mp m
  |cons d ds=>obtain⟨a,b⟩:=m.IU;obtain⟨w,p,q⟩:=h b;exact⟨d::w,p.cons _,.cons a q⟩
 |swap x y l =>
  intro ds m;cases ds with
  |nil=>cases IT.IV.mp m
  |cons d ds=>cases ds with
   |nil=>cases IT.IV.mp m.IU.2
   |cons n ds=>obtain⟨a,b⟩:=m.IU;obtain⟨f,i⟩:=b.IU;exact⟨n::d::ds,.swap ..,.cons f (.cons a i)⟩
 |trans _ _ k o =>
  intro ds m;obtain⟨w,p,q⟩:=o m;obtain⟨r,g,j⟩:=k q;exact⟨r,g.trans p,j⟩
theorem ui {K:Type}[DecidableEq K]:∀ (l b:List K) (k:K),k∈l.foldl dz b↔k∈b∨k∈l
 |[],b,k=>by simp
 |a::l,b,k=>by
  rw[foldl_cons,ui l,mem_cons];unfold dz;split
  ·constructor
   ·rintro (h |h)
    ·exact .inl h
    exact .inr (.inr h)
   rintro (h |rfl |h)
   ·exact .inl h
   ·left;assumption
   exact .inr h
  simp only[mem_append,mem_singleton];constructor
  ·rintro ((h |h) |h)
   ·exact .inl h
   ·exact .inr (.inl h)
   exact .inr (.inr h)
  rintro (h |h |h)
  ·exact .inl (.inl h)
  ·exact .inl (.inr h)
  exact .inr h
theorem Inv.moved {a:II}{c:St}{H:Hp}{s s':Shared}(I:Inv X a c H s)(k:∀ b o,s.heap.get? b=some o->s'.heap.get? b=some o)(g:s'.gens=s.gens)(o:s'.os=s.os):Inv X a c H s':=by obtain⟨e,g',d',t',d⟩:=s';cases g;cases o;exact I.call (d':=d') (t':=t') (g':=s.gens) (ch:=[]) (Un.kept k) (I.Jk.kept k) I.bare λb z=>absurd z (by simp)
theorem rS (hc:X.calm=true):hZ X (.builtin "sorted") (λxs H Q => ∃ (p:Addr) (m:List Key) (J:List Addr) (ds out:List D),xs=[.ref p]/\H p=some (Fy X.prog X.w p m)/\(∀ a∈J,H a≠none)/\IT X.K H J ds (m.map kV)/\d4 ds=some out/\∀ H' v,I0 H H'->At X.K H' J (.lst out) v->Q v H'):=by
 intro N s σ H xs R Q I r h;obtain⟨p,m,J,ds,out,rfl,Y,hJ,T,e,q⟩:=h;obtain⟨u,rfl,U⟩:=vals1 r;cases U;obtain⟨⟨o,es,ep,t,j,hex,hd,B,hb,C,Lq,_,hr⟩,_,_⟩:=I.Jk p _ Y;obtain⟨l,pm,rl⟩:=id B;have ez:=JN.len (h:=s.heap) (p:=p) B;have P:es.size<=sizeLine:=Nat.le_of_lt (lt_of_lt_of_le hb (by decide));refine i5 hJ e q λQ' E hQ=>?_;have W:X.A.in1.handled=none:=I.ok.hd hc;refine mG (.inl rfl) ⟨o,j,hex.1⟩ (λR=>R.Perm (l.map (·.2))) (λO Q2 E2 n VT=>?_) λs' c Tq k g os=>?_
 ·refine vM (s:={ s with heap:=O }) (n _ _ j) hex hd C P (λhb=>by rw[Lq,hb];rfl) hr λit L fp F first h' d y si hF G f Pt=>?_
  have V:p≠it:=λz=>by have x:p<O.objs.size:=Heap.lt_size (n _ _ j);rw[z] at x;exact absurd (lt_of_lt_of_le x f) (Nat.lt_irrefl _)
  refine VT it fp [it] es.size _ _ _ ((Walks.set (A:=X.A.in1.in1) W y V hex hd C).toS) ⟨G _ _ (n _ _ j),first,si,hF⟩ P Pt (λb hb=>by rw[mem_singleton.mp hb];exact f) G rfl rfl λc ha=>?_;obtain⟨a1,a2⟩:=ha;have osz:L.size=es.size:=by have:=y.perm.length_eq;simpa using this
  have S:c.toList=L.toList.map (·.2):=by
   apply ext_getElem?;intro i;by_cases hi:i<es.size
   ·have M:c[i]?=some c[i]:=Array.getElem?_eq_getElem (by omega);have:=a2 i _ M;rw[getElem?_map,getElem?_toList,getElem?_toList,M,this]
   rw[getElem?_map,getElem?_toList,getElem?_toList,Array.getElem?_eq_none (by omega),Array.getElem?_eq_none (by omega)];rfl
  rw[S];exact(y.perm.trans pm.symm).map _
 have Z:=JN.vals rl;obtain⟨L3,p1,r1⟩:=xY Tq Z;obtain⟨NI,p2,m2⟩:=BK p1 T;exact hQ c L3 s' NI (I.moved k g os) r1 p2 m2
theorem lh {α c:Type}{R : α->c->Prop}:∀ {l:List α}{m:List c},l.length=m.length->(∀ (i:Nat) a b,l[i]?=some a->m[i]?=some b->R a b)->Paired R l m
 |[],[],_,_ => .nil
 |a::l,b::m,h,k => .cons (k 0 a b rfl rfl) (lh (by simpa using h) λi x y d e=>k (i+1) x y (by simpa using d) (by simpa using e))
 |[],_::_,h,_=>by simp at h
 |_::_,[],h,_=>by simp at h
theorem nY {α e:Type}{R : α->e->Prop}{l:List α}{m:List e}(r:Paired R l m):∀ (i:Nat) a b,l[i]?=some a->m[i]?=some b->R a b:=by
 induction r with
 |nil=>intro i a b h;simp at h
 |cons f t g =>
  intro i a b d c;cases i with
  |zero=>simp at d c;subst d c;exact f
  |succ i=>exact g i a b (by simpa using d) (by simpa using c)
theorem xr {P:Program}{w:World}{k:Key}{u:Value}(h:(bn P w).is k u=true):RelV (kV k) u:=by
 rcases bg h with ⟨i,t,rfl,e⟩ |⟨x,t,rfl,e⟩
 ·exact⟨t,e⟩
 exact⟨t,e⟩
theorem uC (hc:X.calm=true):hZ X (.builtin "sorted") (λxs H Q => ∃ (p:Addr) (j:List (Key×V)) (J:List Addr) (ds out:List D),xs=[.ref p]/\H p=some (.dK j)/\(∀ a∈J,H a≠none)/\IT X.K H J ds (j.map λq=>kV q.1)/\d4 ds=some out/\∀ H' v,I0 H H'->At X.K H' J (.lst out) v->Q v H'):=by
 intro G s σ H xs C Q I r h;obtain⟨p,j,J,ds,out,rfl,W,hJ,m,e,q⟩:=h;obtain⟨u,rfl,R⟩:=vals1 r;cases R;obtain⟨hz,Y,n,B,hd⟩:=I.Jk p _ W;obtain⟨ep,S⟩:=hd.dictAt;have d:n.length=j.length:=(KV.length B).symm;refine i5 hJ e q λQ' E hQ=>?_;have U:X.A.in1.handled=none:=I.ok.hd hc;refine mG (.inr rfl) hd.typeIs (λC=>Vals (j.map λq=>kV q.1) C) (λf Q2 E2 k0 T=>?_) λM c l k g os=>?_
 ·have y:f.DictAt (bn X.prog X.w) p n ep:=S.keep k0;refine wpAny_pyIter_dict (s:={ s with heap:=f }) Y y ?_;have JQ:p<f.objs.size:=y.lt_size
  refine T f.objs.size [f.objs.size,p] [f.objs.size] n.length _ _ _ ((Walks.dictKeys (A:=X.A.in1.in1) U f.objs.size p (ne_of_lt JQ) n ep).toS) ⟨⟨_,Heap.get?_push_size _ rfl,rfl,rfl⟩,y.push _⟩ (by rw[d];exact hz)
   (λb hb=>by
    rcases mem_cons.mp hb with z |hb
    ·rw[z];exact .inr (le_refl _)
    exact .inl (mem_singleton.mp hb))
   (λb hb=>by rw[mem_singleton.mp hb];exact le_refl _) (λb o e=>Heap.get?_push_of_some _ e) rfl rfl λc Z=>?_
  obtain⟨L,O⟩:=Z;refine lh (by have t:c.toList.length=c.size:=length_toList;rw[length_map,t,L,d]) λi v u l F=>?_;rw[getElem?_toList] at F;obtain⟨k,x,t,e2⟩:=O i u F;rw[getElem?_map] at l;obtain⟨q,N,P⟩:=map_eq_some_iff.mp l;have e5:=(nY B i q (k,x) N t).1;rw[← P,e5];exact xr e2
 exact hQ c _ M ds (I.moved k g os) l (.refl _) m
theorem Ce (y:x="sorted")(hc:X.calm=true)(u:X.mg x=none)(w:SE X W e fe)(k:Gl X x:=by rfl)(g:starEach [e] X.env=(false,eval e X.env)::starEach [] X.env:=by rfl)(JQ:(backTo pos (starEach [] X.env)).any (·.1)=false:=by rfl) :
  SE X W (.Call (.Name x p) [e] [] pos) (xI fe):=by
 subst y
 refine SE.either (g1:=bh zW (ah fe aB)) (g2:=λi S=>ai (fe i S) λd j=>aJ (match d with | .loc l=>(match j[l]? with |some (.dict b)=>(d4 (b.map (·.1))).map .lst |_=>none) |_=>none) j)
  (bf Dq u jg (ae w aj g) k (by decide) (by decide) g JQ) ?_ λi S=>?_
 ·refine PE.imp (iC (uC hc) k u jg (cE w JR g) (by decide) (by decide) g JQ) λM H Q h=>?_;refine(tG.IZ h).mono λv N ⟨d,D⟩=>?_;obtain⟨J,i,S,r,O,c,m,eq,z⟩:=D;obtain⟨m,_⟩:=m.IU;show qR _ _ _;cases d with
  |loc l =>
   obtain⟨a,rfl,G⟩:=At.I_.mp m;cases hS:S[l]? with
   |none=>simp[hS] at eq
   |some F =>
    cases F with
    |lst L=>simp[hS] at eq
    |exc c=>simp[hS] at eq
    |Jf _=>simp[hS] at eq
    |ins _ _=>simp[hS] at eq
    |tab _ _=>simp[hS] at eq
    |dict b =>
     simp only[hS] at eq;cases hq:d4 (b.map (·.1)) with
     |none=>simp[hq] at eq
     |some out =>
      simp only[hq,map_some,bA,IX] at eq;cases eq;obtain⟨C,n,I⟩:=c.Jr.at_ l a _ G hS;refine⟨a,C,J,b.map (·.1),out,rfl,n,c.Jr.all,?_,hq,λB v s K=>z J B v (Ex.same s) (c.Jr.same s) K⟩;clear hq hS z n
      induction I with
      |nil=>exact .nil
      |cons f t A=>exact .cons f.1.2 A
  |_=>simp at eq
 unfold xI bh ah aB;cases q:fe i S with
 |none=>exact .inl rfl
 |some o =>
  obtain⟨E,j⟩:=o;cases E with
  |error c=>exact .inl rfl
  |ok d=>cases d<;>first |exact .inl rfl |exact .inr rfl
end
mutual
inductive Lit:Expr->D->Prop
 |int {i:Int}{j p}:Lit (.Constant (.int i) j p) (.int i)
 |bl {b:Bool}{j p}:Lit (.Constant (.bool b) j p) (.bl b)
 |Ji {j p}:Lit (.Constant .none j p) .Ji
 |str {x:Str}{j p} (hx:Qg x):Lit (.Constant (.str x) j p) (.str x)
 |neg {i:Int}{j p q}:Lit (.UnaryOp .USub (.Constant (.int i) j p) q) (.int (-i))
 |tup {es:List Expr}{ds:List D}{k p} (h:Oh es ds) (n:ds.length<=1000):Lit (.Tuple es k p) (.tup ds)
 |lst {es:List Expr}{ds:List D}{p} (h:Oh es ds) (n:ds.length<=1000):Lit (.List es p) (.lst ds)
inductive Oh:List Expr->List D->Prop
 |nil:Oh [] []
 |cons {e:Expr}{d:D}{es:List Expr}{ds:List D}(h:Lit e d) (r:Oh es ds):Oh (e::es) (d::ds)
end
section
variable {X:Cx}{W:WT}
theorem SE.eq {e:Expr}{g g':IE D}(h:SE X W e g)(q:g=g'):SE X W e g':=q▸h
theorem SA.eq {e:List Expr}{g g':IE (List D)}(h:SA X W e g)(q:g=g'):SA X W e g':=q▸h
theorem zU {e:Expr}{d:D}(h:Lit e d)(es:List Expr):starEach (e::es) X.env=(false,eval e X.env)::starEach es X.env:=by cases h<;>rfl
mutual
theorem ir:∀ {e:Expr}{d:D},Lit e d->SE X W e (aF d)
 |_,_,.int=>ao
 |_,_,.bl=>Ab
 |_,_,.Ji=>iq
 |_,_,.str a=>jB a
 |_,_,.neg=>SE.eq (w4 qO ao) rfl
 |_,_,.tup (ds:=ds) h n=>SE.eq (dw (vH h)) (by
   funext ρ S;show aJ (Ln ds (.tup ds)) S=IX (.tup ds) S;unfold Ln
   rw[if_pos (Nat.le_trans n (by decide))];rfl)
 |_,_,.lst (ds:=ds) h n=>SE.eq (nM (vH h)) (by
   funext ρ S;show aJ (Ln ds (.lst ds)) S=IX (.lst ds) S;unfold Ln
   rw[if_pos (Nat.le_trans n (by decide))];rfl)
theorem vH:∀ {es:List Expr}{ds:List D},Oh es ds->SA X W es (λ_ S=>IX ds S)
 |_,_,.nil=>aj
 |_,_,.cons h r=>SA.eq (ae (ir h) (vH r) (zU h _)) rfl
end
end
def GG (F:IK)(t:IE (List D)):IE D:=λa S=>ai (t a S) λb c=>F b c
def Ff (c:Str)(t:IE (List D)):IE Fl:=λa S=>ai (t a S) λb e=>ai (aJ (Ln b .Ji) e) λ_ d=>some (.error c,d)
end L2
namespace L2
open PySem PySem.Spec PySem.Calls PyProof.Rows PySem.W
structure Xo (K:Frag) (C:Addr):Prop where
 cls:findIn K (.ref C) "__class__"=some (some (.builtin "object.__class__"))
 ga:findIn K (.ref C) "__getattribute__"=some (some (.builtin "BaseException.__getattribute__"))
 gn:findIn K (.ref C) "__getattr__"=some none
 so:subIn K (.ref C) (.type "object")=some true
 sb:subIn K (.ref C) (.type "BaseException")=some true
 is:(clsIn K C).isSome=true
end L2
namespace L2
open PySem PySem.Spec PyProof.Rows PySem.W
section
variable {X:Cx}{W:WT}{e:Expr}{fe fa:IE D}{pos p p2:Pos}
def Gq (a:Str->Option Bool)(d:D)(S:IL):Option D:=match d with
 | .loc l=>(match S[l]? with
  |some (.exc c)=>(a c).map .bl
  |_=>none)
 |_=>none
def HH (a:Str->Option Bool)(fe:IE D):IE D:=λc S=>ai (fe c S) λd b=>aJ (Gq a d b) b
end
section
variable {X:Cx}{W:WT}{fe fa:IE D}
theorem eB:∀ {us:List Value}{ns:List Int},Vals (ns.map V.int) us->IntsAre us ns
 |_,[],r=>by cases r;exact .nil
 |_,n::ns,r=>by
  cases r with
  |cons a b =>
   obtain⟨t,rfl⟩:=a;exact .cons n t (eB b)
end
section
variable {X:Cx}{W:WT}{e:Expr}{fe:IE D}{pos p:Pos}{x:Str}
def Gm (d:D)(S:IL):Option D:=match d with
 | .loc l=>(match S[l]? with
  |some (.dict kvs)=>some (.int kvs.length)
  |_=>none)
 |_=>none
theorem uD (hc:X.calm=true):hZ X (.type "list") (λxs H Q => ∃ (p:Addr) (d:List (Key×V)),xs=[.ref p]/\H p=some (.dK d)/\∀ l,H l=none->Q (.ref l) (upd H l (.lst (d.map λq=>kV q.1)))):=by
 intro t s N H xs P Q I r h;obtain⟨p,d,rfl,F,q⟩:=h;obtain⟨u,rfl,C⟩:=vals1 r;cases C;obtain⟨j,E,m,g,hd⟩:=I.Jk p _ F;obtain⟨ep,D⟩:=hd.dictAt;have b:m.length=d.length:=(KV.length g).symm;refine kdl_call (kdl_dict (kvs:=m) (ep:=ep) (knd:=bn X.prog X.w) E) (I.ok.hd hc) D (by rw[b];exact j) λO tk a c k G M=>?_;obtain⟨y,A⟩:=M;have J:Vals (d.map λq=>kV q.1) a.toList:=by refine lh (by have e:a.toList.length=a.size:=length_toList;rw[length_map,e,y,b]) λi v u f n=>?_;rw[getElem?_toList] at n;obtain⟨k,x,e,L⟩:=A i u n;rw[getElem?_map] at f;obtain⟨q,z,B⟩:=map_eq_some_iff.mp f;have K:=(nY g i q (k,x) z e).1;rw[← B,K];exact xr L
 exact⟨.ref s.heap.objs.size,_,I.laid (t':=tk) (o:=.lst (d.map λq=>kV q.1)) k (le_refl _) ⟨by rw[length_map];exact j,a.toList,c,J,by simpa using G⟩,rfl,q _ I.fresh⟩
def gr (d:D)(S:IL):Option D:=match d with
 | .loc l=>(match S[l]? with
  |some (.dict kvs)=>if kvs.length<=sizeLine then some (.lst (kvs.map (·.1))) else none
  |_=>none)
 |_=>none
def lI (fe:IE D):IE D:=λb S=>ai (fe b S) λd a=>aJ (gr d a) a
theorem sW (O:X.A.units+1<cLine)(F:X.mg x=none)(i:SE X W e fe)(hc:X.calm=true:=by rfl)(u:x="list":=by rfl)(w:Gl X x:=by rfl)(j:starEach [e] X.env=(false,eval e X.env)::starEach [] X.env:=by rfl)(JQ:(backTo pos (starEach [] X.env)).any (·.1)=false:=by rfl) :
  SE X W (.Call (.Name x p) [e] [] pos) (lI fe):=by
 subst u;refine PE.imp (k_ (uD hc) w F Dx (cE i JR j) (by decide) (by decide) j JQ) λM H Q h=>?_;refine(tG.IZ h).mono λv C ⟨d,B⟩=>?_;obtain⟨J,I,S,r,N,c,m,eq,z⟩:=B;obtain⟨m,_⟩:=m.IU;show qR _ _ _;unfold gr at eq;cases d with
 |loc l =>
  obtain⟨a,rfl,E⟩:=At.I_.mp m;cases hS:S[l]? with
  |none=>simp[hS] at eq
  |some D =>
   cases D with
   |dict g =>
    simp only[hS] at eq;split at eq
    ·rename_i s;cases eq;obtain⟨k,n,o⟩:=c.Jr.at_ l a _ E hS;refine⟨a,k,rfl,n,λL b=>?_⟩
     have G:IT X.K C J (g.map (·.1)) (k.map λq=>kV q.1):=by
      clear hS z n s
      induction o with
      |nil=>exact .nil
      |cons f t y=>exact .cons f.1.2 y
     refine z J _ _ (Ex.same (aN b _)) (c.Jr.same (aN b _)) (At.La G b (λa i=>c.Jr.tracked i) ?_);rw[length_map,← o.length];exact s
    cases eq
   |_=>simp[hS] at eq
 |_=>simp at eq
end
def eU (a b:D):Bool:=match gu a,gu b with
 |some p,some q=>PyData.eqv p q
 |_,_=>false
def putN (kvs:List (D×D))(k v:D):List (D×D):=if (kvs.any λp=>eU p.1 k)=true then kvs.map (λp=>if eU p.1 k=true then (p.1,v) else p) else kvs++[(k,v)]
def kn (kvs:List (D×D))(k:D):Option D:=(kvs.find? λp=>eU p.1 k).map (·.2)
noncomputable def kj (b:List (PyData×Addr×V)) (k:PyData) (a:Addr) (v:V):List (PyData×Addr×V):=if (b.any λp=>decide (p.1=k))=true then b.map (λp=>if p.1=k then (p.1,p.2.1,v) else p) else b++[(k,a,v)]
noncomputable def pA (a:List (PyData×Addr×V)) (k:PyData):Option V:=(a.find? λp=>decide (p.1=k)).map (·.2.2)
abbrev RQ:(PyData×Addr×V)->(PyData×Addr×Value)->Prop:=λp q=>p.1=q.1/\p.2.1=q.2.1/\RelV p.2.2 q.2.2
theorem rF {d:D}{p:PyData}(h:gu d=some p):toPy d=some p/\keyOk 8 p=true:=by
 unfold gu at h;obtain⟨q,b,a⟩:=bind_eq_some_iff.mp h;split at a
 ·rename_i c;cases a;exact⟨b,c⟩
 cases a
section
variable {K:IF}{H H':Hp}{J J':List Addr}
theorem nN {a k:D}{x y:PyData}(h:gu a=some x)(g:gu k=some y):eU a k=decide (x=y):=by unfold eU;rw[h,g];exact qe (rF h).2 (rF g).2
theorem Fv {kvs:List (D×D)}{a:List (PyData×Addr×V)}{k:D}{y:PyData}(g:gu k=some y)(r:Paired (Oc K H J) kvs a):(kvs.any λp=>eU p.1 k)=a.any λq=>decide (q.1=y):=by
 induction r with
 |nil=>rfl
 |cons h t b=>rw[any_cons,any_cons,b,nN h.1.1 g]
theorem yv {kvs:List (D×D)}{a:List (PyData×Addr×V)}{k v:D}{y:PyData}{w:V}(g:gu k=some y)(b:At K H J v w)(r:Paired (Oc K H J) kvs a) :
  Paired (Oc K H J) (kvs.map λp=>if eU p.1 k=true then (p.1,v) else p) (a.map λq=>if q.1=y then (q.1,q.2.1,w) else q):=by
 induction r with
 |nil=>exact .nil
 | @cons p q d f h t c =>
  refine .cons ?_ c;show Oc K H J (if eU p.1 k=true then (p.1,v) else p) (if q.1=y then (q.1,q.2.1,w) else q);rw[nN h.1.1 g];by_cases e:q.1=y
  ·rw[if_pos (decide_eq_true e),if_pos e];exact⟨h.1,b⟩
  rw[if_neg (by rw[decide_eq_false e];decide),if_neg e];exact h
theorem yz {k v:D}{y:PyData}{b:Addr}{w:V}(g:gu k=some y)(f:At K H J k (.ref b))(d:At K H J v w){a:List (D×D)}{c:List (PyData×Addr×V)}(h:Paired (Oc K H J) a c):Paired (Oc K H J) (a++[(k,v)]) (c++[(y,b,w)]):=by
 induction h with
 |nil=>exact .cons ⟨⟨g,f⟩,d⟩ .nil
 |cons h t e=>exact .cons h e
theorem Em {kvs:List (D×D)}{c:List (PyData×Addr×V)}{k v:D}{y:PyData}{b:Addr}{w:V}(g:gu k=some y)(d:At K H J k (.ref b))(a:At K H J v w)(r:Paired (Oc K H J) kvs c):Paired (Oc K H J) (putN kvs k v) (kj c y b w):=by
 unfold putN kj;rw[Fv g r];split
 ·exact yv g a r
 exact yz g d a r
theorem Bj {kvs:List (D×D)}{a:List (PyData×Addr×V)}{k:D}{y:PyData}(g:gu k=some y)(r:Paired (Oc K H J) kvs a) :
  (kn kvs k=none/\pA a y=none)∨∃ d v,kn kvs k=some d/\pA a y=some v/\At K H J d v:=by
 unfold kn pA
 induction r with
 |nil=>exact .inl ⟨rfl,rfl⟩
 | @cons p q c f h t b =>
  rw[find?_cons,find?_cons,nN h.1.1 g];by_cases e:q.1=y
  ·rw[decide_eq_true e];exact .inr ⟨p.2,q.2.2,rfl,rfl,h.2⟩
  rw[decide_eq_false e];exact b
end
theorem Ei {a:List (PyData×Addr×V)}{xs:List (PyData×Addr×Value)}(r:Paired RQ a xs)(k:PyData):(a.any λp=>decide (p.1=k))=(atKey xs k).isSome:=by
 unfold atKey;rw[isSome_map]
 induction r with
 |nil=>rfl
 | @cons p q c d h t b =>
  rw[any_cons,find?_cons,b,h.1];by_cases e:q.1=k
  ·rw[decide_eq_true e];rfl
  rw[decide_eq_false e];rfl
theorem Ah {a:List (PyData×Addr×V)}{xs:List (PyData×Addr×Value)}(r:Paired RQ a xs)(k:PyData):Kt (pA a k) ((atKey xs k).map (·.2)):=by
 unfold pA atKey
 induction r with
 |nil=>exact True.intro
 | @cons p q c d h t b =>
  rw[find?_cons,find?_cons,h.1];by_cases e:q.1=k
  ·rw[decide_eq_true e];exact h.2.2
  rw[decide_eq_false e];exact b
theorem Eg {a:List (PyData×Addr×V)}{xs:List (PyData×Addr×Value)}(r:Paired RQ a xs)(k:PyData){v:V}{u:Value}(b:RelV v u):Paired RQ (a.map λp=>if p.1=k then (p.1,p.2.1,v) else p) (xs.map (putAt k u)):=by
 induction r with
 |nil=>exact .nil
 | @cons p q d f h t c =>
  refine .cons ?_ c;show RQ (if p.1=k then (p.1,p.2.1,v) else p) (putAt k u q);unfold putAt;by_cases e:p.1=k
  ·rw[if_pos e,if_pos (h.1.symm.trans e)];exact⟨h.1,h.2.1,b⟩
  rw[if_neg e,if_neg (λz=>e (h.1.trans z))];exact h
theorem Eh {a:List (PyData×Addr×V)}{xs:List (PyData×Addr×Value)}(r:Paired RQ a xs)(k:PyData)(b:Addr){v:V}{u:Value}(d:RelV v u):Paired RQ (a++[(k,b,v)]) (xs++[(k,b,u)]):=by
 induction r with
 |nil=>exact .cons ⟨rfl,rfl,d⟩ .nil
 |cons h t c=>exact .cons h c
theorem Ef {c:List (PyData×Addr×V)}{xs:List (PyData×Addr×Value)}(r:Paired RQ c xs)(k:PyData)(b:Addr){v:V}{u:Value}(a:RelV v u):Paired RQ (kj c k b v) (storedH xs k b u):=by
 unfold kj storedH;rw[Ei r k];split
 ·exact Eg r k a
 exact Eh r k b a
theorem yt (a:List (PyData×Addr×V))(k:PyData)(b:Addr)(v:V):(kj a k b v).length<=a.length+1:=by
 unfold kj;split
 ·rw[length_map];omega
 rw[List.length_append];simp
section
variable {X:Cx}{pins:II}{σ:St}{H:Hp}{s:Shared}{J:List Addr}{a:Addr}
theorem mZ (I:Inv X pins σ H s){d:D}{y:PyData}{b:Addr}(g:gu d=some y)(m:At X.K H J d (.ref b)):(kB X.prog X.w).is s.heap y b:=by obtain⟨a,c⟩:=rF g;exact⟨c,(At.reads I m (show RelV (.ref b) (.ref b) from rfl) a).2⟩
theorem xE {kvs:List (D×D)}{b:List (PyData×Addr×V)}(I:Inv X pins σ H s)(e:H a=some (.dN b))(r:Paired (Oc X.K H J) kvs b) :
  b.length<=sizeLine/\(a==sysModules)=false/\∃ xs,Paired RQ b xs/\s.heap.DictOfH (kB X.prog X.w) a xs:=by
 obtain⟨z,y,xs,q,o,es,ep,d,c,j,g,f⟩:=I.Jk a _ e;refine⟨z,y,xs,q,o,es,ep,d,c,j,g,?_,f⟩;clear d c j g f z e
 induction r generalizing xs with
 |nil=>cases q;intro x hx;exact nomatch hx
 | @cons p n m u h t k =>
  cases q with
  |cons i l =>
   intro x hx;rcases mem_cons.mp hx with e |hx
   ·subst e;rw[← i.1,← i.2.1];exact mZ I h.1.1 h.1.2
   exact k _ l x hx
end
def wL (K:IF)(H:Hp)(a:Addr)(y:V)(r:Option V):Prop:=∃ J c d e f b,H a=some (.dN d)/\Paired (Oc K H J) c d/\gu e=some f/\At K H J e (.ref b)/\y = .ref b/\r=pA d f
def GP (K:IF)(H:Hp)(a:Addr)(y v:V)(H':Hp):Prop:=∃ J d c e f b,H a=some (.dN c)/\Paired (Oc K H J) d c/\gu e=some f/\At K H J e (.ref b)/\y = .ref b/\c.length<sizeLine/\H'=upd H a (.dN (kj c f b v))
section
variable {X:Cx}{pins:II}{σ:St}{H:Hp}{s:Shared}{a:Addr}{y v:V}{u r:Value}{o:Option V}{A:Around}{E:IG}
theorem vS (a:A.units+150<cLine):(kB X.prog X.w).room A.in1:=by show A.units+1+8<cLine;omega
theorem yO {Q:IG}(B:A.units+150<cLine)(I:Inv X pins σ H s)(g:wL X.K H a y (some v))(n:RelV y u)(h:∀ c s',Inv X pins σ H s'->RelV v c->Q c s') :
  wpAny (model X.prog X.w) A (getItem (.ref a) u) Q E s:=by
 obtain⟨J,x,D,F,d,b,e,k,q,mk,r,l⟩:=g;subst r;cases (show u=Value.ref b from n);obtain⟨z,hd,f,rel,C⟩:=xE I e k;obtain⟨c,i,t⟩:=Kt.some_of (v:=v) (o:=(atKey f d).map (·.2)) (by rw[l];exact Ah rel d);obtain⟨p,m,j⟩:=map_eq_some_iff.mp i;refine wpAny_getItem_heap (vS B) (mZ I q mk) C m ?_;rw[j];exact h c _ (I.tok _) t
theorem CZ {Q:IG}(m:A.units+150<cLine)(I:Inv X pins σ H s)(g:wL X.K H a y o)(d:RelV y u)(h:∀ s',Inv X pins σ H s'->Q (.bool (!o.isSome)) s') :
  wpAny (model X.prog X.w) A (compareOp .NotIn u (.ref a)) Q E s:=by
 obtain⟨J,k,r,t,j,b,e,c,f,mk,i,l⟩:=g;subst i;cases (show u=Value.ref b from d);obtain⟨z,hd,p,rel,n⟩:=xE I e c;refine wpAny_notIn_heap (vS m) (mZ I f mk) hd n ?_;have q:=(Ah rel j).JW;rw[isSome_map] at q;rw[← q,← l];exact h _ (I.tok _)
theorem yN {H':Hp}{Q:Unit->Shared->Prop}(M:A.units+150<cLine)(I:Inv X pins σ H s)(g:GP X.K H a y v H')(p:RelV y u)(C:RelV v r)(h:∀ s',Inv X pins σ H' s'->Q () s') :
  wpAny (model X.prog X.w) A (setItem (.ref a) u r) Q E s:=by
 obtain⟨J,G,d,P,c,b,e,n,x,mk,B,l,m⟩:=g;subst B m;cases (show u=Value.ref b from p);obtain⟨z,hd,i,rel,N⟩:=xE I e n;have F:i.length<=sizeLine:=by rw[← Paired.length rel];exact z
 have D:(kj d c b v).length<=sizeLine:=by have:=yt d c b v;omega
 refine wpAny_setItem_heap (hsz:=F) (vS M) (mZ I x mk) N λR j O=>h _ ?_;obtain⟨q,es,ep,f,k,L,t,_,o⟩:=j;exact rR I (by rw[e];exact True.intro) O ⟨q,f⟩ ⟨D,hd,_,Ef rel c b C,q,es,ep,f,k,L,t,o⟩
theorem AR (I:Inv X pins σ H s)(g:wL X.K H a y o):s.TypeIs (.ref a) "dict":=by obtain⟨J,c,n,j,k,b,e,f,i,mk,m,l⟩:=g;obtain⟨_,_,h,_,d⟩:=xE I e f;exact d.typeIs
end
section
variable {X:Cx}{o i e value:Expr}{pos pos' PL:Pos}{td ty tv:TE}
theorem CD (t:X.A.units+150<cLine)(m:PE X o td)(B:PE X i ty)(z:zJ i):PE X (.Subscript o i pos) (λc H Q=>td c H λx e=>ty c e λy d => ∃ a v,x = .ref a/\wL X.K d a y (some v)/\Q v d):=by intro b s c H Q I h;refine wX PySem.F.slot_dict_getitem.lookup z (Jj (m b s c H _ I h) λu k ⟨x,e,r,j,l⟩=>Jj (B b k c e _ r l) λD G q=>?_);obtain⟨y,d,f,n,a,v,ex,g,C⟩:=q;subst ex;obtain rfl:u=Value.ref a:=j;exact⟨AR f g,yO t f g n λJ E w p=>⟨v,d,w,p,C⟩⟩
theorem yE (t:X.A.units+150<cLine)(w:PE X i ty)(n:PE X o td):PC X .NotIn i o (λc H Q=>ty c H λy e=>td c e λx d => ∃ a o,x = .ref a/\wL X.K d a y o/\Q (.bl (!o.isSome)) d):=by intro b s c H Q I h;refine Jj (w b s c H _ I h) λB k ⟨y,e,r,p,m⟩=>Jj (n b k c e _ r m) λu D q=>?_;obtain⟨x,d,j,f,a,l,ex,g,z⟩:=q;subst ex;obtain rfl:u=Value.ref a:=f;exact CZ t j g p λC v=>⟨.bl (!l.isSome),d,v,rfl,z⟩
theorem Cr (G:X.A.units+150<cLine)(q:PE X o td)(M:PE X i ty)(m:PE X value tv)(L:swapsWith value (some (.Subscript o i pos')) pos.line X.env=pure false) :
  PS X (.Assign [.Subscript o i pos'] value pos) (λD c H=>tv c H λv f=>td c f λx e=>ty c e λy j => ∃ a d,x = .ref a/\GP X.K j a y v d/\D.nx c d):=by
 intro b s c H D I h;refine wpAny_Assign_Subscript (Jj (m b s c H _ I h) λr n ⟨v,f,F,B,p⟩=>Jj (q b n c f _ F p) λu E ⟨x,e,l,k,N⟩=>Jj (M b E c e _ l N) λO P C=>?_) L;obtain⟨y,j,J,w,a,d,ex,g,t⟩:=C;subst ex;obtain rfl:u=Value.ref a:=k;exact yN G J g w B λQ z=>⟨c,d,z,t⟩
end
def fm:D->Bool
 | .tup _=>true
 |_=>false
section
variable {X:Cx}{W:WT}{pos pos':Pos}{o i e:Expr}{fo fi fv:IE D}
def xJ:IE D:=λ_ S=>IX (.loc S.length) (S++[.Jf []])
theorem O6:PE X (.Dict [] [] pos) (λ_ H Q => ∀ p,H p=none->Q (.ref p) (upd H p (.dN []))):=λb s c H Q I h =>
 wpAny_Dict_empty ⟨.ref s.heap.objs.size,_,I.laid (a:=s.heap.objs.size) (o:=.dN []) (t':=s.toks) (λ_ _ q=>Heap.get?_push_of_some _ q) (le_refl _)
  ⟨zero_le _,beq_eq_false_iff_ne.mpr (Ne.symm (ne_of_lt I.big)),[],.nil,_,#[],0,Heap.get?_push_size _ rfl,⟨rfl,rfl,rfl⟩,rfl,rfl,nodup_nil⟩,rfl,h _ (I.Jk.fresh (le_refl _))⟩
theorem w6:SE X W (.Dict [] [] pos) xJ:=O6.imp λb H Q h=>by obtain⟨J,d,S,r,f,c,_,e,z⟩:=h;cases e;intro p a;have q:=c.Jr.push (o:=.dN []) (mo:=.Jf []) a ⟨[],IY,.nil⟩;refine z (J++[p]) _ _ q.2 q.1 (At.I_.mpr ⟨p,rfl,?_⟩);rw[← c.Jr.len,getElem?_append_right (le_refl _)];simp
def nV (x k v:D)(ρ:IM)(S:IL):Out Fl:=match x with
 | .loc l=>match S[l]?,gu k with
  |some (.Jf kvs),some _=>if kvs.length<sizeLine/\fm k=true then IX (.next ρ) (S.set l (.Jf (putN kvs k v))) else none
  |_,_=>none
 |_=>none
def uN (fo fi fv:IE D):IE Fl:=λa S=>ai (fv a S) λv d=>ai (fo a d) λx b=>ai (fi a b) λk c=>nV x k v a c
theorem qP {K:IF}{H:Hp}{J:List Addr}{d:D}{v:V}(h:fm d=true)(m:At K H J d v):∃ b,v = .ref b:=by
 cases d with
 |tup a=>obtain⟨b,_,e,_⟩:=At.Jb.mp m;exact⟨b,e⟩
 |_=>cases h
theorem wY (P:X.A.units+150<cLine)(M:SE X W o fo)(T:SE X W i fi)(F:SE X W e fv)(R:swapsWith e (some (.Subscript o i pos')) pos.line X.env=pure false:=by rfl):SS X W (.Assign [.Subscript o i pos'] e pos) (uN fo fi fv):=
 (Cr P M T F R).imp λE s H h=>by
  have h:tH X W [] [] (uN fo fi fv) E s H:=let ⟨J,n,S,r,t,c,e,z⟩:=h;⟨J,n,S,r,t,c,.nil,e,z⟩;refine(tH.IZ h).mono λv H1 ⟨D,K⟩=>(tH.IZ K).mono λx V ⟨Q,I⟩=>(tH.IZ I).mono λy Y ⟨u,O⟩=>?_;obtain⟨J,n,S,r,t,c,m,e,z⟩:=O;obtain⟨mk,m⟩:=m.IU;obtain⟨U,m⟩:=m.IU;obtain⟨G,_⟩:=m.IU;unfold nV at e;cases Q with
  |loc l =>
   simp only at e;split at e
   ·rename_i d w es j;split at e
    ·rename_i lt;cases e;obtain⟨a,rfl,B⟩:=At.I_.mp U;obtain⟨k,C,g⟩:=c.Jr.at_ l a _ B es;obtain⟨b,rfl⟩:=qP lt.2 mk;have q:=c.Jr.update (o:=.dN (kj k w b v)) (mo:=.Jf (putN d u D)) B λJ' Z f L N=>by subst L N;refine⟨_,IY,Em j (mk.ex f) (G.ex f) ?_⟩;exact Paired.MN g λp q z=>⟨⟨z.1.1,z.1.2.ex f⟩,z.2.ex f⟩
     exact⟨a,_,rfl,⟨J,d,k,u,w,b,C,g,j,mk,rfl,by rw[← jD g];exact lt.1,rfl⟩,z J s _ q.2 (c.re q.2 q.1)⟩
    cases e
   cases e
  |_=>cases e
def n8 (neg:Bool)(k x:D)(S:IL):Option D:=match x with
 | .loc l=>match S[l]?,gu k with
  |some (.Jf kvs),some _=>if fm k=true then some (.bl (if neg then !(kn kvs k).isSome else (kn kvs k).isSome)) else none
  |_,_=>none
 |_=>none
def BB (neg:Bool)(c fd:IE D):IE D:=λa S=>ai (c a S) λk d=>ai (fd a d) λx b=>aJ (n8 neg k x b) b
theorem AO {neg:Bool}{g:St}{H:Hp}{Q:VK}(h:tE X W (BB neg fi fo) g H Q):tE X W fi g H λy p=>tE X W fo g p λx f => ∃ a o,x = .ref a/\wL X.K f a y o/\Q (.bl (if neg then !o.isSome else o.isSome)) f:=
 (tG.IZ h).mono λy p ⟨C,B⟩=>(tG.IZ B).mono λx f E=>by
  obtain⟨F,w⟩:=E
  obtain⟨J,L,S,r,M,c,m,e,z⟩:=w;obtain⟨G,m⟩:=m.IU;obtain⟨mk,_⟩:=m.IU;unfold n8 at e;cases F with
  |loc l =>
   simp only at e;split at e
   ·rename_i k D es n;split at e
    ·rename_i u;cases e;obtain⟨a,rfl,I⟩:=At.I_.mp G;obtain⟨A,t,s⟩:=c.Jr.at_ l a _ I es;obtain⟨b,rfl⟩:=qP u mk;refine⟨a,_,rfl,⟨J,k,A,C,D,b,t,s,n,mk,rfl,rfl⟩,?_⟩;have q:=z J f _ Ex.refl c.Jr (At.Jn.mpr rfl);rcases Bj n s with ⟨i,j⟩ |⟨d,v,i,j,_⟩
     ·rw[i] at q;rw[j];exact q
     rw[i] at q;rw[j];exact q
    cases e
   cases e
  |_=>cases e
theorem pB (f:X.A.units+150<cLine)(j:SE X W i fi)(g:SE X W o fo)(e:behindInMarks .NotIn o=false:=by with_unfolding_all rfl):MC X W (.Compare i [.NotIn] [o] pos) (bF (BB true fi fo)):=
 (Am (yE f j g) e).imp λb H Q h=>Lw.mono (t:=λb H Q=>tE X W fi b H λy d=>tE X W fo b d λx c => ∃ a o,x = .ref a/\wL X.K c a y o/\Q (.bl (!o.isSome)) c) (λ_ _ _=>AO (neg:=true)) (j0 h)
def iF (x k:D)(S:IL):Option D:=match x with
 | .loc l=>match S[l]?,gu k with
  |some (.Jf kvs),some _=>if fm k=true then kn kvs k else none
  |_,_=>none
 |_=>none
def xK (fd c:IE D):IE D:=λa S=>ai (fd a S) λx d=>ai (c a d) λk b=>aJ (iF x k b) b
theorem w5 (G:X.A.units+150<cLine)(C:SE X W o fo)(L:SE X W i fi)(K:zJ i:=by exact λ_ _=>rfl):SE X W (.Subscript o i pos) (xK fo fi):=(CD G C L K).imp λP H Q h =>
 (tG.IZ h).mono λx R ⟨I,B⟩=>(tG.IZ B).mono λy s F=>by
  obtain⟨D,u⟩:=F
  obtain⟨J,O,S,r,T,c,m,e,z⟩:=u;obtain⟨mk,m⟩:=m.IU;obtain⟨M,_⟩:=m.IU;unfold iF at e;cases I with
  |loc l =>
   simp only at e;split at e
   ·rename_i g E es j;split at e
    ·rename_i t;obtain⟨a,rfl,N⟩:=At.I_.mp M;obtain⟨w,p,n⟩:=c.Jr.at_ l a _ N es;obtain⟨b,rfl⟩:=qP t mk;rcases Bj j n with ⟨f,k⟩ |⟨d,v,f,k,q⟩
     ·rw[f] at e;cases e
     rw[f] at e;cases e;exact⟨a,v,rfl,⟨J,g,w,D,E,b,p,n,j,mk,rfl,k.symm⟩,z J s _ Ex.refl c.Jr q⟩
    cases e
   cases e
  |_=>cases e
end
def mJ (K:IF)(c f:Str):Prop:=∃ C,PySem.W.nsIn K mainGlobals c=some (some (.ref C))/\NB K C/\KC K C f
def MethAt (K:IF)(c m qual:Str)(st:Stmt)(a:List Str):Prop:=∃ C f fd,PySem.W.nsIn K mainGlobals c=some (some (.ref C))/\NB K C/\Meth K C m f/\Ob K m qual st f fd/\Binds K fd a []
def FA (K:IF)(mg:IJ)(c qual:Str)(st:Stmt)(a:List Str):Prop:=∃ C f fd,PySem.W.nsIn K mainGlobals c=some (some (.ref C))/\mg c=some (.ref C)/\Mk K C f/\Ob K "__init__" qual st f fd/\Binds K fd a []
def mh (f:Str)(v:D):List (Str×D)->List (Str×D)
 |[]=>[(f,v)]
 |(k,x)::r=>if k=f then (k,v)::r else (k,x)::mh f v r
section
variable {K:IF}{H H':Hp}{J J':List Addr}
theorem xA {fs:List (Str×D)}{vs:List (Str×V)}(r:Paired (Uz K H J) fs vs)(f:Str):(fs.lookup f=none/\vs.lookup f=none)∨∃ d v,fs.lookup f=some d/\vs.lookup f=some v/\At K H J d v:=by
 induction r with
 |nil=>exact .inl ⟨rfl,rfl⟩
 | @cons p q k l h t c =>
  obtain⟨a,i⟩:=p;obtain⟨g,j⟩:=q;have b:a=g:=h.1;subst b;by_cases e:f=a
  ·have hb:(f==a)=true:=beq_iff_eq.mpr e;refine .inr ⟨i,j,?_,?_,h.2⟩<;>simp only[List.lookup,hb]
  have hb:(f==a)=false:=beq_eq_false_iff_ne.mpr e;simp only[List.lookup,hb];exact c
theorem E8 {fs:List (Str×D)}{vs:List (Str×V)}(r:Paired (Uz K H J) fs vs)(f:Str){d:D}{v:V}(a:At K H J d v):Paired (Uz K H J) (mh f d fs) (fY f v vs):=by
 induction r with
 |nil=>exact .cons ⟨rfl,a⟩ .nil
 | @cons p q c g h t l =>
  obtain⟨b,i⟩:=p;obtain⟨m,j⟩:=q;have k:b=m:=h.1;subst k;rw[show mh f d ((b,i)::c)=(if b=f then (b,d)::c else (b,i)::mh f d c) from rfl,show fY f v ((b,j)::g)=(if b=f then (b,v)::g else (b,j)::fY f v g) from rfl];by_cases e:b=f
  ·rw[if_pos e,if_pos e];exact .cons ⟨rfl,a⟩ t
  rw[if_neg e,if_neg e];exact .cons h l
theorem IT.split:∀ {es ds:List D}{us vs:List V},es.length=us.length->IT K H J (es++ds) (us++vs)->IT K H J es us/\IT K H J ds vs
 |[],_,[],_,_,h=>⟨.nil,h⟩
 |e::es,ds,u::us,vs,hl,h=>by
  obtain⟨b,f⟩:=IT.IU (d:=e) (v:=u) (ds:=es++ds) (vs:=us++vs) h;obtain⟨c,a⟩:=IT.split (es:=es) (us:=us) (by simpa using hl) f;exact⟨.cons b c,a⟩
 |[],_,_::_,_,hl,_=>by simp at hl
 |_::_,_,[],_,hl,_=>by simp at hl
end
def wa (c:Str)(d:D)(S:IL):Option (List (Str×D)):=match d with
 | .loc l=>(match S[l]? with
  |some (.ins c' fs)=>if c'=c then some fs else none
  |_=>none)
 |_=>none
theorem xv {c:Str}{d:D}{S:IL}{fs:List (Str×D)}(h:wa c d S=some fs):∃ l,d = .loc l/\S[l]?=some (.ins c fs):=by
 unfold wa at h;split at h
 ·rename_i l;split at h
  ·rename_i b f e;split at h
   ·rename_i a;cases h;subst a;exact⟨l,rfl,e⟩
   cases h
  cases h
 cases h
section
variable {X:Cx}{W:WT}{pos pos' apos p:Pos}{o e value:Expr}{es:List Expr}{fo fv:IE D}{gs:IE (List D)}{c f m x:Str}
def jK (c f:Str)(d:D)(S:IL):Option D:=(wa c d S).bind λfs=>fs.lookup f
def iV (c f:Str)(fo:IE D):IE D:=λb S=>ai (fo b S) λd a=>aJ (jK c f d a) a
theorem cK (T:mJ X.K c f)(t:SE X W o fo)(hb:attributeBase o f X.env (eval o X.env)=eval o X.env:=by rfl):SE X W (.Attribute o f pos) (iV c f fo):=
 (EE t hb).imp λM H Q h=>(tG.IZ h).mono λx w A=>by
  obtain⟨j,g⟩:=A
  obtain⟨J,L,S,r,N,m,u,b,z⟩:=g
  try dsimp only at b
  obtain⟨G,_⟩:=u.IU;cases q:jK c f j S with
  |none=>rw[q] at b;cases b
  |some d =>
   rw[q] at b;cases b;obtain⟨fs,g,e⟩:=bind_eq_some_iff.mp q;obtain⟨l,rfl,es⟩:=xv g;obtain⟨a,rfl,I⟩:=At.I_.mp G;obtain⟨C,j,B,n,p,E⟩:=m.Jr.at_ l a _ I es;obtain⟨O,k,D,F⟩:=T;rw[n] at k;cases k;rcases xA E f with ⟨i,_⟩ |⟨P,v,i,y,s⟩
   ·rw[i] at e;cases e
   rw[i] at e;cases e;exact⟨a,C,j,B,v,rfl,p,D,F,y,z J w v Ex.refl m.Jr s⟩
def nK (c f:Str)(d v:D)(ρ:IM)(S:IL):Out Fl:=match d with
 | .loc l=>(match S[l]? with
  |some (.ins c' fs)=>if c'=c/\fs.length<1000 then IX (.next ρ) (S.set l (.ins c (mh f v fs))) else none
  |_=>none)
 |_=>none
theorem z7 {T:mJ X.K c f}{h:St}{H:Hp}{J:List Addr}{ρ:IM}{S j:IL}{r:Except Str Fl}{E:Ends}{d g:D}{x y:V}(i:Cf X J ρ S h H)(N:At X.K H J d x)(B:At X.K H J g y)
  (b:nK c f d g ρ S=some (r,j)) (z:MW X W J H r j E):∃ a C e fs,x = .ref a/\H a=some (.ins C e fs)/\NB X.K C/\KC X.K C f/\fs.length<1000/\E.nx h (upd H a (.ins C e (fY f y fs))):=by
 unfold nK at b;split at b
 ·rename_i l;split at b
  ·rename_i I fs es;split at b
   ·rename_i hc;obtain⟨w,F⟩:=hc;subst w;cases b;obtain⟨a,rfl,u⟩:=At.I_.mp N;obtain⟨C,e,m,n,v,t⟩:=i.Jr.at_ l a _ u es;obtain⟨P,s,L,M⟩:=T;rw[n] at s;cases s;have q:=i.Jr.update (o:=.ins C e (fY f y m)) (mo:=.ins I (mh f g fs)) u λQ O k A G=>by subst A G;refine⟨C,e,_,n,IY,E8 (Paired.MN t λp q z=>⟨z.1,z.2.ex k⟩) f (B.ex k)⟩
    exact⟨a,C,e,m,rfl,v,L,M,by rw[← jD t];exact F,z J h _ q.2 (i.re q.2 q.1)⟩
   cases b
  cases b
 cases b
def oJ (c f:Str)(fo fv:IE D):IE Fl:=λa S=>ai (fv a S) λv e=>ai (fo a e) λd b=>nK c f d v a b
theorem qT (T:mJ X.K c f)(n:SE X W o fo)(j:SE X W value fv)(s:swapsWith value (some (.Attribute o f pos')) pos.line X.env=pure false:=by rfl):SS X W (.Assign [.Attribute o f pos'] value pos) (oJ c f fo fv):=
 (Eu n j s).imp λE p H h=>by
  have h:tH X W [] [] (oJ c f fo fv) E p H:=let ⟨J,b,S,r,i,c,e,z⟩:=h;⟨J,b,S,r,i,c,.nil,e,z⟩;refine(tH.IZ h).mono λy w ⟨u,l⟩=>(tH.IZ l).mono λx v ⟨d,k⟩=>?_;obtain⟨J,b,S,r,i,q,a,g,z⟩:=k
  try dsimp only at g
  obtain⟨t,a⟩:=a.IU;obtain⟨m,_⟩:=a.IU;exact z7 (T:=T) q t m g z
def GK (c f:Str)(d v y:D)(ρ:IM)(S:IL):Out Fl:=match v,y with
 | .int i,.int j=>nK c f d (.int (i+j)) ρ S
 |_,_=>none
def GI (c f:Str)(fo fv:IE D):IE Fl:=λa S=>ai (fo a S) λd b=>ai (aJ (jK c f d b) b) λv e=>ai (fv a e) λy g=>GK c f d v y a g
def oR (P:Program)(w:World)(K:IF)(mg:IJ)(base:Heap)(k:Nat)(c m:Str)(a:List Str)(F:IK):Prop:=
 ∃ C f fd,PySem.W.nsIn K mainGlobals c=some (some (.ref C))/\NB K C/\Meth K C m f/\Pq P w K mg base k f fd a F/\Binds K fd a []
def FF (P:Program)(w:World)(K:IF)(mg:IJ)(base:Heap)(k:Nat)(c:Str)(a:List Str)(F:IK):Prop:=
 ∃ C f fd,PySem.W.nsIn K mainGlobals c=some (some (.ref C))/\mg c=some (.ref C)/\Mk K C f/\Pq P w K mg base k f fd a F/\Binds K fd a []
def um (c m:Str)(d:D)(S:IL):Option D:=(wa c d S).bind λfs=>if fs.lookup m=none then some .Ji else none
def dj (c m:Str)(F:IK)(fo:IE D)(gs:IE (List D)):IE D:=λa S=>ai (fo a S) λd b=>ai (aJ (um c m d b) b) λ_ g=>ai (gs a g) λf e=>eZ (F (d::f) e)
def Fh (c m:Str)(F:IK)(fo:IE D)(gs:IE (List D)):IE D:=λa S=>ai (fo a S) λd b=>ai (aJ (um c m d b) b) λ_ g=>ai (gs a g) λf e=>F (d::f) e
theorem AV {C:Addr}(n:PySem.W.nsIn X.K mainGlobals c=some (some (.ref C))){k:IE D}{d:D}{x:V}{i:St}{H:Hp}{Q:VK}(h:tG X W (RD X) [d] [x] (λρ g=>ai (aJ (um c m d g) g) λ_ S2=>k ρ S2) i H Q) :
  ∃ a e fs,x = .ref a/\H a=some (.ins C e fs)/\fs.lookup m=none/\tG X W (RD X) [d] [x] k i H Q:=by
 obtain⟨J,ρ,S,r,B,p,y,b,z⟩:=h
 try dsimp only at b
 obtain⟨s,L⟩:=y.IU;cases q:um c m d S with
 |none=>rw[q] at b;cases b
 |some N =>
  rw[q,bA,cD] at b;obtain⟨fs,u,f⟩:=bind_eq_some_iff.mp q;obtain⟨l,rfl,es⟩:=xv u;have w:=s;obtain⟨a,rfl,A⟩:=At.I_.mp s;obtain⟨M,e,F,o,t,G⟩:=p.Jr.at_ l a _ A es;rw[n] at o;cases o;split at f
  ·rename_i I;rcases xA G m with ⟨_,E⟩ |⟨O,v,j,_⟩
   ·exact⟨a,e,F,rfl,t,E,J,ρ,S,r,B,p,.cons w .nil,b,z⟩
   rw[I] at j;cases j
  cases f
theorem bG {k:Nat}{B:List Str}{F:IK}{pl:Sem Bool}(G:oR X.prog X.w X.K X.mg X.base k c m B F)(hr:Jp k X.A)(L:SE X W o fo)(ha:SA X W (e::es) gs)
  (D:starEach (e::es) X.env=(false,eval e X.env)::starEach es X.env:=by rfl) (JQ:(backTo pos (starEach es X.env)).any (·.1)=false:=by rfl)
  (t:eval (.Call (.Attribute o m apos) (e::es) [] pos) X.env=(do
   let i ← eval o X.env
   standAt apos.atName
   let (f,first) ← holding [i] (getMethod i m pl)
   callWith pos f first (backTo pos (starEach (e::es) X.env)) (backToKw pos (keywordEach [] X.env))):=by rfl) :
  SE X W (.Call (.Attribute o m apos) (e::es) [] pos) (dj c m F fo gs):=by
 obtain⟨C,f,fd,n,V,mt,fn,hb⟩:=G;refine PE.imp (CF (E:=E0) L V mt fn hr hb .nil AC ha D JQ t) λσ H Q h=>(tG.IZ h).mono λx H1 g=>?_;obtain⟨d,I⟩:=g;obtain⟨a,dx,fs,p,Z,s,u⟩:=AV n I;refine⟨a,dx,fs,p,Z,s,(tG.LZ u).mono λus H2 g=>?_⟩;obtain⟨j,P,Y⟩:=g;obtain⟨J,ρ,S,r,N,cf,M,b,z⟩:=Y
 try dsimp only at b
 obtain⟨m1,m2⟩:=IT.split P M;obtain⟨m3,_⟩:=m2.IU;have b:eZ (F (d::j) S)=some (r,N):=b;unfold eZ at b;split at b
 ·rename_i R S2 q;cases b;exact⟨J,S,d::j,R,_,.cons m3 (by rw[append_nil];exact m1),cf.Jr,q,λU y v O l T=>z U y v O l T⟩
 cases b
def xL (c:Str)(F:IK)(gs:IE (List D)):IE D:=λb S=>ai (gs b S) λd a=>(match F (.loc a.length::d) (a++[.ins c []]) with
 |some (.ok .Ji,S2)=>IX (.loc a.length) S2
 |_=>none)
theorem Ch {k:Nat}{M:List Str}{F:IK}(G:FF X.prog X.w X.K X.mg X.base k c M F)(hr:Jp (k+1) X.A)(ha:SA X W (e::es) gs)(B:Gl X c:=by rfl)
  (Z:(c==("__debug__":Str))=false:=by decide) (D:starEach (e::es) X.env=(false,eval e X.env)::starEach es X.env:=by rfl) (JQ:(backTo pos (starEach es X.env)).any (·.1)=false:=by rfl) :
  SE X W (.Call (.Name c p) (e::es) [] pos) (xL c F gs):=by
 obtain⟨C,f,fd,n,Y,mk,fn,hb⟩:=G;refine PE.imp (CG (E:=E0) mk fn hr B Y hb .nil AC ha Z D JQ) λσ H Q h=>(tG.LZ h).mono λus d T=>?_;obtain⟨g,hl,i⟩:=T;rw[append_nil,append_nil] at i;obtain⟨J,ρ,S,r,R,t,P,a,z⟩:=i
 try dsimp only at a
 intro x b y m ne;have N:(upd d b (.own x)) x=none:=by rw[aA (Ne.symm ne)];exact y
 have I:=t.Jr.same (aN m (.own x));have x1:Ex J d J (upd d b (.own x)):=Ex.same (aN m _);have q:=I.push (o:=.ins C b []) (mo:=.ins c []) N ⟨C,b,[],n,IY,.nil⟩;have x2:=x1.trans q.2;have s:(J++[x])[S.length]?=some x:=by rw[← t.Jr.len,getElem?_append_right (le_refl _)];simp
 have a:(match F (.loc S.length::g) (S++[.ins c []]) with
  |some (.ok .Ji,j)=>IX (.loc S.length) j
  |_=>none)=some (r,R):=a
 split at a
 ·rename_i j O;cases a;refine⟨J++[x],_,.loc S.length::g,.Ji,_,.cons (At.I_.mpr ⟨x,rfl,s⟩) (by rw[append_nil];exact P.ex x2),q.1,O,λV L v l u U=>⟨At.Jw.mp U,?_⟩⟩;exact z V L (.ref x) (x2.trans l) u (At.I_.mpr ⟨x,rfl,mX l.pre s⟩)
 cases a
end
section
variable {P:Program}{w:World}{K:IF}{mg:IJ}{base:Heap}
theorem mD {x qual:Str}{st:Stmt}{sc:Scope}{N a:List Str}{k:Nat}{G:IE Fl}{f:Addr}{fd:FuncData}(d:Ob K x qual st f fd)(c:aq st=sc)(Sc:IS N a sc)
  (h:∀ (f:Addr) (b:Value) (A:Around) (outer:List Env) (s:Shared) (H:Hp) (E:XK),Jp k (A.deeper (envOfC qual sc s.heap.objs.size f b))->NV (mS Oa P w K mg base N qual sc f b A outer s H E).Pl W0 (bC st) G) :
  Pq P w K mg base (k+1) f fd a (a8 a.length (N.length-a.length) G):=iL d c Sc λA outer s H E hr=>h f fd.code A outer s H E hr
theorem gR {c m qual:Str}{st:Stmt}{sc:Scope}{N a:List Str}{k:Nat}{G:IE Fl}(g:MethAt K c m qual st a)(d:aq st=sc)(Sc:IS N a sc)
  (h:∀ (f:Addr) (b:Value) (A:Around) (outer:List Env) (s:Shared) (H:Hp) (E:XK),Jp k (A.deeper (envOfC qual sc s.heap.objs.size f b))->NV (mS Oa P w K mg base N qual sc f b A outer s H E).Pl W0 (bC st) G) :
  oR P w K mg base (k+1) c m a (a8 a.length (N.length-a.length) G):=by
 obtain⟨C,f,fd,n,i,mt,e,hb⟩:=g;exact⟨C,f,fd,n,i,mt,mD e d Sc h,hb⟩
theorem Dt {c qual:Str}{st:Stmt}{sc:Scope}{N a:List Str}{k:Nat}{G:IE Fl}(g:FA K mg c qual st a)(d:aq st=sc)(Sc:IS N a sc)
  (h:∀ (f:Addr) (b:Value) (A:Around) (outer:List Env) (s:Shared) (H:Hp) (E:XK),Jp k (A.deeper (envOfC qual sc s.heap.objs.size f b))->NV (mS Oa P w K mg base N qual sc f b A outer s H E).Pl W0 (bC st) G) :
  FF P w K mg base (k+1) c a (a8 a.length (N.length-a.length) G):=by
 obtain⟨C,f,fd,n,i,mt,e,hb⟩:=g;exact⟨C,f,fd,n,i,mt,mD e d Sc h,hb⟩
theorem zC {c m qual:Str}{st:Stmt}{b:List Str}{k:Nat}(g:MethAt K c m qual st b):oR P w K mg base k c m b (λ_ _=>none):=by
 obtain⟨C,f,fd,n,i,mt,l,hb⟩:=g;have no:∀ a H Q E,¬ UE K (λ_ _=>none) a H Q E:=λa H Q E h=>by obtain⟨J,S,j,d,o,_,_,e,_⟩:=h;cases e
 exact⟨C,f,fd,n,i,mt,⟨λa H Q E h=>absurd h (no a H Q E),λA outer s H args p a Q E _ _ _ _ h=>absurd h (no a H Q E)⟩,hb⟩
end
def cL (d:D)(S:IL):Option (List D):=match d with
 | .loc l=>(match S[l]? with
  |some (.lst xs)=>some xs
  |_=>none)
 |_=>none
theorem C8 {d:D}{S:IL}{xs:List D}(h:cL d S=some xs):∃ l,d = .loc l/\S[l]?=some (.lst xs):=by
 unfold cL at h;split at h
 ·rename_i l;split at h
  ·rename_i a e;cases h;exact⟨l,rfl,e⟩
  cases h
 cases h
section
variable {X:Cx}{W:WT}{pos Jv apos p:Pos}{o e a b:Expr}{fo fe fa fb:IE D}{x:Str}
theorem lm {J:List Addr}{S:IL}{H:Hp}{d:D}{v:V}{xs:List D}(so:Jg X.K J S H)(m:At X.K H J d v)(h:cL d S=some xs):∃ l q us,d = .loc l/\v = .ref q/\J[l]?=some q/\S[l]?=some (.lst xs)/\H q=some (.lst us)/\IT X.K H J xs us:=by obtain⟨l,rfl,es⟩:=C8 h;obtain⟨q,rfl,a⟩:=At.I_.mp m;obtain⟨us,b,c⟩:=so.at_ l q _ a es;exact⟨l,q,us,rfl,rfl,a,es,b,c⟩
def uO:IE D:=λ_ S=>IX (.loc S.length) (S++[.lst []])
theorem w8:SE X W (.List [] pos) uO:=(Az JR).imp λa H Q h=>by
 obtain⟨J,d,S,r,f,c,_,e,z⟩:=h
 try dsimp only at e
 cases e;show qR a H _;refine⟨zero_le _,λp b=>?_⟩;have q:=c.Jr.push (o:=.lst []) (mo:=.lst []) b ⟨[],IY,.nil⟩;refine z (J++[p]) _ _ q.2 q.1 (At.I_.mpr ⟨p,rfl,?_⟩);rw[← c.Jr.len,getElem?_append_right (le_refl _)];simp
def wI (d v:D)(S:IL):Out D:=match d with
 | .loc l=>(match S[l]? with
  |some (.lst xs)=>if xs.length<sizeLine then IX .Ji (S.set l (.lst (xs++[v]))) else none
  |_=>none)
 |_=>none
def Fk (fo fe:IE D):IE D:=λa S=>ai (fo a S) λd b=>ai (aJ (cL d b) b) λ_ e=>ai (fe a e) λv c=>wI d v c
theorem Ed {name:Str}(hn:name="append")(O:SE X W o fo)(T:SE X W a fe)(E:attributeBase o name X.env (eval o X.env)=eval o X.env:=by rfl)
  (B:((backTo Jv (starEach [a] X.env)).all (λx => !x.1)&&(backToKw Jv (keywordEach [] X.env)).all (λx=>x.1.isSome)
   && decide ([a].length+([]:List Keyword).length+(if ([]:List Keyword).isEmpty then 0 else 1)<30))=true:=by rfl)
  (M:(apos.endLine==Jv.line)=true:=by rfl) (t:starEach [a] X.env=(false,eval a X.env)::starEach [] X.env:=by rfl) (A:(backTo Jv (starEach [] X.env)).any (·.1)=false:=by rfl) :
  SE X W (.Call (.Attribute o name apos) [a] [] Jv) (Fk fo fe):=by
 subst hn;refine PE.imp (AB F.plainAttrs_list F.slot_list_append F.type_list_append yQ O (cE T JR t) E B M t A) λU H Q h=>(tG.IZ h).mono λx V Zq=>?_;obtain⟨d,K⟩:=Zq;obtain⟨J,f,S,r,Z,c,m,e,z⟩:=K
 try dsimp only at e
 obtain⟨u,_⟩:=m.IU;cases q:cL d S with
 |none=>rw[q] at e;cases e
 |some xs =>
  rw[q,bA,cD] at e;obtain⟨l,i,us,rfl,rfl,hq,es,w,mu⟩:=lm c.Jr u q;refine⟨.inl ⟨rfl,us,.inl (.inl w)⟩,?_⟩;have G:tG X W (RD X) [.loc l] [.ref i] (λf g=>ai (fe f g) λv S3=>wI (.loc l) v S3) U V Q:=⟨J,f,S,r,Z,c,.cons u .nil,e,z⟩;refine(tG.IZ G).mono λy H2 ⟨s,h3⟩=>?_;show qR _ _ _;obtain⟨P,D,g,Y,I,j,m2,b,z2⟩:=h3
  try dsimp only at b
  obtain⟨N,m2⟩:=m2.IU;obtain⟨Tu,_⟩:=m2.IU;have b:wI (.loc l) s g=some (Y,I):=b;unfold wI at b;simp only at b;split at b
  ·rename_i R Qn;split at b
   ·rename_i lt;cases b;obtain⟨q2,C,p⟩:=At.I_.mp Tu;cases C;obtain⟨O7,Tx,k⟩:=j.Jr.at_ l i _ p Qn;have up:=j.Jr.update (o:=.lst (O7++[y])) (mo:=.lst (R++[s])) p λJ' H' n L eJ=>by subst L eJ;exact⟨_,IY,(k.ex n).append (.cons (N.ex n) .nil)⟩
    exact⟨i,O7,y,rfl,rfl,Tx,by rw[← k.length];exact lt,z2 P _ _ up.2 up.1 (At.Jw.mpr rfl)⟩
   cases b
  cases b
def lA (x i:D)(S:IL):Option D:=match i with
 | .int k=>(cL x S).bind λa=>Mo a k
 |_=>none
def wE (fa fb:IE D):IE D:=λa S=>ai (fa a S) λx c=>ai (fb a c) λi b=>aJ (lA x i b) b
theorem q8 (C:SE X W a fa)(hb:SE X W b fb)(A:m8 b:=by exact λ_ _=>rfl):SE X W (.Subscript a b pos) (wE fa fb):=
 (DL xt C hb A).imp λF H Q h=>(tG.IZ h).mono λv G ⟨d,g⟩=>(tG.IZ g).mono λK n u=>by
  obtain⟨t,f⟩:=u
  obtain⟨J,E,S,r,I,c,m,e,z⟩:=f
  try dsimp only at e
  obtain⟨p,m⟩:=m.IU;obtain⟨B,_⟩:=m.IU;cases q:lA d t S with
  |none=>rw[q] at e;cases e
  |some M =>
   rw[q] at e;cases e;unfold lA at q;split at q
   ·rename_i k;obtain⟨D,g,f⟩:=bind_eq_some_iff.mp q;obtain⟨l,x,y,rfl,rfl,L,es,i,s⟩:=lm c.Jr B g;cases At.IP.mp p;obtain⟨w,o,j⟩:=sj s f;exact⟨x,y,k,w,rfl,rfl,.inl (.inl i),o,z J n w Ex.refl c.Jr j⟩
   cases q
def zE (fa fb:IE D):IE D:=λa S=>ai (fa a S) λx c=>ai (fb a c) λi b=>aJ (if bP x=true then lA x i b else Qi x i) b
theorem w9 (f:SE X W a fa)(hb:SE X W b fb)(d:m8 b:=by exact λ_ _=>rfl):SE X W (.Subscript a b pos) (zE fa fb):=
 SE.either (q8 f hb d) (DI W3 f hb d) λc S=>cb _ λx e=>by
  by_cases h:bP x=true
  ·refine .inl (congrArg (ai (fb c e)) (funext λi=>funext λg=>?_));rw[if_pos h]
  refine .inr (congrArg (ai (fb c e)) (funext λi=>funext λg=>?_));rw[if_neg h]
def Bu (fe:IE D):IE D:=λc S=>ai (fe c S) λd a=>aJ ((cL d a).map λb => .int b.length) a
theorem Ci (s:X.mg x=none)(u:SE X W e fe)(f:x="len":=by rfl)(g:Gl X x:=by rfl)(a:starEach [e] X.env=(false,eval e X.env)::starEach [] X.env:=by rfl)(JQ:(backTo pos (starEach [] X.env)).any (·.1)=false:=by rfl) :
  SE X W (.Call (.Name x p) [e] [] pos) (Bu fe):=by
 subst f;refine PE.imp (iC gO g s fF (cE u JR a) (by decide) (by decide) a JQ) λA H Q h=>?_;refine(tG.IZ h).mono λv k ⟨d,i⟩=>?_;obtain⟨J,y,S,r,B,c,m,eq,z⟩:=i
 try dsimp only at eq
 obtain⟨t,_⟩:=m.IU;show qR _ _ _;cases q:cL d S with
 |none=>rw[q] at eq;cases eq
 |some w =>
  rw[q] at eq;cases eq;obtain⟨l,n,o,rfl,rfl,C,es,b,j⟩:=lm c.Jr t q;refine⟨n,o,rfl,.inl (.inl (.inl b)),?_⟩;rw[← j.length];exact z J k _ Ex.refl c.Jr (At.IP.mpr rfl)
def Dm (fe:IE D):IE D:=λc S=>ai (fe c S) λd b=>aJ ((cL d b).bind λa=>if a.length<=sizeLine then some (.tup a) else none) b
end
theorem ints_get:∀ {vs:List Value}{ns:List Int}(i:Nat) {n:Int},IntsAre vs ns->ns[i]?=some n->∃ t,vs[i]?=some (.int n t)
 |_,_,_,_,.nil,e=>by simp at e
 |_,_,0,_,.cons n t r,e=>by simp at e;subst e;exact⟨t,rfl⟩
 |_,_,i+1,_,.cons n t r,e=>by
  obtain⟨a,h⟩:=ints_get i r (by simpa using e);exact⟨a,by simpa using h⟩
theorem uh:∀ {vs:List Value}{ns:List Int},IntsAre vs ns->vs.length=ns.length
 |_,_,.nil=>rfl
 |_,_,.cons n t r=>by simp[uh r]
theorem pW {k:Int}:∀ {ns:List Int}{j:Nat},j<ns.idxOf k->∀ (a:j<ns.length),ns[j]≠k
 |n::r,0,h,_=>by
  intro e;have e:n=k:=e;subst e;simp at h
 |n::r,j+1,h,a=>by
  by_cases e:n=k
  ·subst e;simp at h
  have hb:(n==k)=false:=by simpa using e
  rw[idxOf_cons,hb] at h;exact pW (ns:=r) (j:=j) (by simpa using h) (by simpa using a)
theorem kY {prog:Program}{w:World}{A:Around}{E:IG}{s:Shared}{l:Addr}{o:Obj}{n:Nat}{vs:List Value}{ns:List Int}{k:Int}{t:Tok}{Q:IG}(u:s.heap.get? l=some o)(hc:o.cls = .type "tuple")(hd:o.data = .seq vs.toArray n)(C:IntsAre vs ns)
  (D:k∈ns) (h:∀ t' s',s'={ s with toks:=s.toks+1 }->Q (.int (ns.idxOf k:Nat) t') s'):wpAny (model prog w) A (call (.builtin "tuple.index") [.ref l,.int k t]) Q E s:=by
 have J:s.TypeIs (.ref l) "tuple":=⟨o,u,hc⟩;refine wpAny_call_entry F.slot_tuple_index J F.entry_tuple_index ?_ (F.args_tuple_index_2 _ _);show wpAny _ _ (Builtin.Tuple.tupleItemsOf (.ref l) >>= _) _ _ s;refine wpAny_bind (wpAny_tupleItemsOf u hd ?_);have q:=uh C;have y:ns.idxOf k<ns.length:=idxOf_lt_length_iff.mpr D;show wpAny _ _ (forIn [0:min vs.toArray.size vs.toArray.size] _ _ >>= _) _ _ s;refine wpAny_bind ?_;rw[Std.Legacy.Range.forIn_eq_forIn_range'];have g:([0:min vs.toArray.size vs.toArray.size]:Std.Legacy.Range).size=vs.length:=by simp[Std.Legacy.Range.size]
 show wpAny _ _ (forIn (range' 0 ([0:min vs.toArray.size vs.toArray.size]:Std.Legacy.Range).size 1) _ _) _ _ _;rw[g];refine wpAny_forIn_list _ (λrest r s'=>r.1=none/\s'=s/\∃ i,i<=ns.idxOf k/\rest=range' i (vs.length-i) 1) _ ?_ ?_ _ _ ⟨rfl,rfl,0,zero_le _,by simp⟩
 ·rintro x rest r s' ⟨hr,rfl,i,K,b⟩;have R:i<vs.length:=by omega
  obtain⟨m,p⟩:∃ m,vs.length-i=m+1:=⟨vs.length-i-1,by omega⟩;rw[p,List.range'_succ] at b;obtain⟨rfl,rfl⟩:=List.cons.inj b;obtain⟨a,c⟩:∃ a,ns[x]?=some a:=⟨ns[x]'(by omega),List.getElem?_eq_getElem _⟩;obtain⟨t',H⟩:=ints_get x C c;have M:vs.toArray[x]?=some (.int a t'):=by simpa using H
  rw[M];show wpAny _ _ (eqBool (.int a t') (.int k t) >>= _) _ _ _;refine wpAny_bind (wpAny_eqBool_int ?_);by_cases e:a=k
  ·subst e
   have ex:ns.idxOf a=x:=by
    have O:ns.idxOf a<=x:=by
     have d:x<ns.length:=by omega
     have:ns[x]=a:=by rw[List.getElem?_eq_getElem d] at c;exact Option.some.inj c
     rcases lt_or_ge x (ns.idxOf a) with h2 |h2
     ·exact absurd this (pW h2 d)
     exact h2
    omega
   rw[beq_self_eq_true];simp only[if_true];refine wpAny_bind (wpAny_mono (show wpAny _ _ (retInt (x:Int)) _ _ _ from wpAny_ret_mkInt (Q:=λv j => ∃ t',v = .int (x:Int) t'/\j={ s' with toks:=s'.toks+1 }) ⟨_,rfl,rfl⟩) (λfin j I=>?_) λ_ _ z=>z);obtain⟨v,G,t',L,f⟩:=I;subst G L;refine wpAny_pure (wpAny_pure ⟨_,rfl,?_⟩);have B:=h t' j f;rw[ex] at B;exact B
  rw[beq_eq_false_iff_ne.mpr e];simp only[false_eq_true,if_false];refine wpAny_pure ⟨rfl,rfl,x+1,?_,?_⟩
  ·have d:x<ns.length:=by omega
   rcases lt_or_ge x (ns.idxOf k) with h2 |h2
   ·exact h2
   exfalso;have f:x=ns.idxOf k:=by omega
   rw[f,List.getElem?_eq_getElem y,getElem_idxOf y] at c;exact e (Option.some.inj c).symm
  congr 1;omega
 rintro⟨N,P⟩ s' ⟨hr,rfl,i,K,b⟩;exfalso;obtain⟨m,p⟩:∃ m,vs.length-i=m+1:=⟨vs.length-i-1,by omega⟩;rw[p,List.range'_succ] at b;cases b
section
variable {X:Cx}{W:WT}{fe fa:IE D}
theorem yP:WR X "tuple.index" (λx xs H Q => ∃ (a:Addr) (ns:List Int) (k:Int),x = .ref a/\xs=[.int k]/\Ms X.K H a (ns.map V.int)/\k∈ns/\Q (.int (ns.idxOf k:Nat)) H):=by intro b s t H x xs v y Q I c j h;obtain⟨a,ns,k,rfl,rfl,m,d,q⟩:=h;cases c;obtain⟨u,rfl,g⟩:=vals1 j;obtain⟨t2,rfl⟩:=g;obtain⟨its,l,⟨o,i,f,n,p⟩,_⟩:=I.tuple m;refine kY (vs:=its) i f p (eB l) d λw r e=>?_;subst e;exact⟨.int _,H,I.tok _,⟨_,rfl⟩,q⟩
def jc:D->D->Option D
 | .tup a,.int k=>(cu a).bind λns=>if k∈ns then some (.int (ns.idxOf k:Nat)) else none
 |_,_=>none
theorem DV {J:List Addr}{b:Hp}{d:D}{v:V}(c:fm d=true)(m:At X.K b J d v):Uy X.K "tuple" v b:=by
 cases d<;>first |(cases c;done) |skip
 rename_i j;obtain⟨a,h,rfl,g,_⟩:=At.Jb.mp m;rcases g with z |⟨o,its,n,f,e,i,_⟩
 ·exact .inr (.inl ⟨rfl,.inr ⟨h,z.1⟩⟩)
 exact .inr (.inl ⟨rfl,.inl ⟨o,f,e,i⟩⟩)
theorem p8 {o:Expr}{name:Str}{b c:Pos}{a:Expr}(y:name="index")(t:SE X W o fe)(D:SE X W a fa)(p:attributeBase o name X.env (eval o X.env)=eval o X.env:=by rfl)
  (i:((backTo c (starEach [a] X.env)).all (λx => !x.1)&&(backToKw c (keywordEach [] X.env)).all (λx=>x.1.isSome)
   && decide ([a].length+([]:List Keyword).length+(if ([]:List Keyword).isEmpty then 0 else 1)<30))=true:=by rfl)
  (r:(b.endLine==c.line)=true:=by rfl) (f:starEach [a] X.env=(false,eval a X.env)::starEach [] X.env:=by rfl) (g:(backTo c (starEach [] X.env)).any (·.1)=false:=by rfl) :
  SE X W (.Call (.Attribute o name b) [a] [] c) (BE fm jc fe fa):=by
 subst y;refine PE.imp (AB F.plainAttrs_tuple F.slot_tuple_index F.type_tuple_index yP t (cE D JR f) p i r f g) λG H Q h=>AW (λJ I d v l m=>DV l m) (λv K j Q q=>?_) h;obtain⟨J,O,M,N,L,B,w,eq,q⟩:=q;unfold jc at eq;split at eq
 ·rename_i E k;obtain⟨ns,n,e⟩:=bind_eq_some_iff.mp eq;split at e
  ·rename_i hc;cases e;cases At.IP.mp w;obtain⟨a,z,rfl,s,C⟩:=At.Jb.mp B;have u:=fq n;subst u;have A:z=ns.map V.int:=IT.Lp C;subst A;exact⟨a,ns,k,rfl,rfl,s.sq,hc,q j _ (I0.refl _) (At.IP.mpr rfl)⟩
  cases e
 cases eq
end
def EO:List Int->Option Int
 |[]=>none
 |n::r=>some (r.foldl (λa b=>if b<a then b else a) n)
def Gi:List Int->Option Int
 |[]=>none
 |n::r=>some (r.foldl (λa b=>if a<b then b else a) n)
theorem rN:∀ (r:List Int) (n:Int),(r.foldl (λa b=>if b<a then b else a) n∈n::r)/\∀ a∈n::r,r.foldl (λa b=>if b<a then b else a) n<=a
 |[],n=>by simp
 |x::r,n=>by
  rw[foldl_cons];by_cases f:x<n
  ·rw[if_pos f];obtain⟨d,c⟩:=rN r x;refine⟨mem_cons_of_mem _ d,λa ha=>?_⟩;rcases mem_cons.mp ha with e |ha
   ·have g:=c x (mem_cons_self ..);omega
   exact c a ha
  rw[if_neg f];obtain⟨d,c⟩:=rN r n;have g:=c n (mem_cons_self ..);refine⟨?_,λa ha=>?_⟩
  ·rcases mem_cons.mp d with e |h
   ·rw[e];exact mem_cons_self ..
   exact mem_cons_of_mem _ (mem_cons_of_mem _ h)
  rcases mem_cons.mp ha with e |ha
  ·omega
  rcases mem_cons.mp ha with e |ha
  ·omega
  exact c a (mem_cons_of_mem _ ha)
theorem rO:∀ (r:List Int) (n:Int),(r.foldl (λa b=>if a<b then b else a) n∈n::r)/\∀ a∈n::r,a<=r.foldl (λa b=>if a<b then b else a) n
 |[],n=>by simp
 |x::r,n=>by
  rw[foldl_cons];by_cases f:n<x
  ·rw[if_pos f];obtain⟨d,c⟩:=rO r x;refine⟨mem_cons_of_mem _ d,λa ha=>?_⟩;rcases mem_cons.mp ha with e |ha
   ·have g:=c x (mem_cons_self ..);omega
   exact c a ha
  rw[if_neg f];obtain⟨d,c⟩:=rO r n;have g:=c n (mem_cons_self ..);refine⟨?_,λa ha=>?_⟩
  ·rcases mem_cons.mp d with e |h
   ·rw[e];exact mem_cons_self ..
   exact mem_cons_of_mem _ (mem_cons_of_mem _ h)
  rcases mem_cons.mp ha with e |ha
  ·omega
  rcases mem_cons.mp ha with e |ha
  ·omega
  exact c a (mem_cons_of_mem _ ha)
theorem yT {ns:List Int}{M:Int}(c:M∈ns)(d:∀ a∈ns,M<=a):EO ns=some M:=by
 cases ns with
 |nil=>simp at c
 |cons n r =>
  obtain⟨a,b⟩:=rN r n;exact congrArg some (Int.le_antisymm (b M c) (d _ a))
theorem yU {ns:List Int}{M:Int}(c:M∈ns)(d:∀ a∈ns,a<=M):Gi ns=some M:=by
 cases ns with
 |nil=>simp at c
 |cons n r =>
  obtain⟨a,b⟩:=rO r n;exact congrArg some (Int.le_antisymm (d _ a) (b M c))
theorem jF:∀ {vs:List Value}{ns:List Int},IntsAre vs ns->∃ xs:List (Int×Tok),vs=xs.map (λp => .int p.1 p.2)/\ns=xs.map (·.1)
 |_,_,.nil=>⟨[],rfl,rfl⟩
 |_,_,.cons n t r=>by
  obtain⟨xs,a,b⟩:=jF r;exact⟨(n,t)::xs,by rw[a];rfl,by rw[b];rfl⟩
section
variable {X:Cx}{W:WT}
def tX:List D->Option D
 |[.lst ds]=>(cu ds).bind λns=>(EO ns).map .int
 |_=>none
def oa:List D->Option D
 |[.lst ds]=>(cu ds).bind λns=>(Gi ns).map .int
 |_=>none
theorem Dr (hc:X.calm=true):jw X (.builtin "min") tX:=by
 intro k s W H b us Q I r h;obtain⟨J,U,d,hJ,m,e,q⟩:=h;unfold tX at e;split at e
 ·rename_i T;obtain⟨ns,y,R⟩:=bind_eq_some_iff.mp e;obtain⟨M,f,B⟩:=map_eq_some_iff.mp R;subst B;obtain⟨v,w,rfl,a,n⟩:=IT.IQ.mp m;cases IT.IV.mp n;obtain⟨p,S,rfl,t,F⟩:=At.Jc.mp a;obtain⟨u,rfl,D⟩:=vals1 r;cases D;have G:=fq y;subst G;have ev:=IT.Lp F;subst ev;obtain⟨its,L,pl,Z⟩:=I.list t.sq;obtain⟨b,ex,c⟩:=jF (eB L)
  have E : 0<b.length:=by
   cases b with
   |nil=>subst c;cases f
   |cons x b=>simp
  have N:s.heap.IsList p (intItems b.toArray):=by have:=pl.isList;rw[ex] at this;simpa [intItems] using this
  refine min_intList (I.ok.hd hc) N (by simpa using E) λv Y tk A z=>?_;obtain⟨P,rfl⟩:=intItems_at A;obtain⟨V,C⟩:=argBest_lt (numAt b.toArray) (b.toArray.size-1)
  have mem:numAt b.toArray (argBest (λi j=>decide (numAt b.toArray i<numAt b.toArray j)) (b.toArray.size-1))∈ns:=by
   have hb:argBest (λi j=>decide (numAt b.toArray i<numAt b.toArray j)) (b.toArray.size-1)<b.length:=by
    have:b.toArray.size=b.length:=by simp
    omega
   rw[numAt_eq,c];simp only[getD_eq_getElem?_getD,getElem?_map,List.toList_toArray,List.getElem?_eq_getElem hb,map_some,getD_some];exact mem_map.mpr ⟨_,getElem_mem hb,rfl⟩
  have low:∀ a∈ns,numAt b.toArray (argBest (λi j=>decide (numAt b.toArray i<numAt b.toArray j)) (b.toArray.size-1))<=a:=by
   intro a l;rw[c] at l;obtain⟨x,o,rfl⟩:=mem_map.mp l;obtain⟨j,K,rfl⟩:=getElem_of_mem o
   have O:=C j (by
    have:b.toArray.size=b.length:=by simp
    omega)
   refine Int.le_trans O (Int.le_of_eq ?_);simp[numAt,K]
  have g:=yT mem low;rw[f] at g;have VV:=Option.some.inj g;refine⟨.int M,H,I.kept (t':=tk) z,⟨P,by rw[VV]⟩,q H _ (I0.refl H) (At.IP.mpr rfl)⟩
 cases e
end
section
variable {X:Cx}{W:WT}{pos:Pos}
def FB (K:IF)(a:Addr):It:=
 ⟨λi H => ∃ b x,MA K H a b/\b[i]?=some x,λi H x c => ∃ p y,H p=none/\x = .ref p/\c=upd H p (.tup [.int i,y])/\∀ b,MA K H a b->b[i]?=some y,λi H => ∃ b,MA K H a b/\b.length<=i⟩
theorem vy {P:Program}{w:World}{K:IF}{es:List Expr}{k:Nat}{pt:Pos}(a e it:Addr)(L:e≠it)(VD:a≠e)(VE:a≠it):Turn P w K (.Tuple es k pt) (FB K a) [e,it] e (λi h=>(∃ old,IsEnum h e it i old)/\h.IsListIter it a i) where
 mem:=by simp
 obj:=λi h st b hb=>by
  obtain⟨⟨old,d⟩,o,l,hc,hd⟩:=st;rcases mem_cons.mp hb with rfl |hb
  ·exact⟨_,d,λv z=>by cases z⟩
  have:b=it:=by simpa using hb
  subst this;exact⟨o,l,λv z=>by rw[hd] at z;cases z⟩
 keep:=λi h h' st kp=>by
  obtain⟨⟨old,d⟩,o,l,r⟩:=st;exact⟨⟨old,kp e (by simp) _ d⟩,o,kp it (by simp) o l,r⟩
 item:=by
  intro X n V S hc i j s σ H E I B st O;subst n V S;obtain⟨D,x,G,U⟩:=O;obtain⟨its,N,p,hz⟩:=I.list G;obtain⟨u,hu,ru⟩:=N.get U;obtain⟨⟨old,d⟩,f⟩:=st;have JL:i<its.toArray.size:=by rw[size_toArray];exact(List.getElem?_eq_some_iff.mp hu).1
  refine wpAny_pyNext_enum_itemD (Draws.list (A:=X.A.in1) (I.ok.hd hc) it a VE its.toArray) d ⟨f,p.isList⟩ JL L (by simp[L,Ne.symm VD]) λy h' tk n l RU hT hsz hk=>?_
  have ey:y=u:=by
   have:its.toArray[i]?=some u:=by simpa using hu
   rw[this] at n;exact(Option.some.inj n).symm
  subst ey;refine⟨_,rfl,wpAny_letOwnedTupleGo_enum (s:={ s with heap:=h',toks:=tk+1 }) l λC RV M=>?_⟩;have hn:H s.heap.objs.size=none:=I.fresh;obtain⟨W,S8,Y4,VF,VG,VH⟩:=B e (by simp);obtain⟨t,F,VI,J,R,T⟩:=B it (by simp);have kp:∀ b o,b≠e->b≠it->s.heap.get? b=some o->C.get? b=some o:=λb o Z Oe g=>(M.2 b Z).trans (hk b o Z Oe g);have S_:s.heap.objs.size≠e:=ne_of_gt (Heap.lt_size d);have Of:C.get? s.heap.objs.size=some { cls:=.type "tuple",data:=.seq #[.int i tk,y] }:=(M.2 _ S_).trans hT;have ne:∀ b o,H b=some o->b≠s.heap.objs.size:=λb o q=>aK q hn
  have I1:Inv X j σ (upd H s.heap.objs.size (.tup [.int i,x])) { s with heap:=C,toks:=tk+1 }:=by
   refine I.step (h':=C) (g':=s.gens) (d':=s.drawn) (t':=tk+1) (ch:=[e,it]) (λb hb=>?_) (λb o _ _ hb g _=>kp b o (λz=>hb (by simp[z])) (λz=>hb (by simp[z])) g) (λb o _ _ hb g _=>⟨o.slots,kp b o (λz=>hb (by simp[z])) (λz=>hb (by simp[z])) g⟩)
    (λb o hb g n'=>by rw[aA (ne_of_lt (Heap.lt_size g))];exact n') (λb o hb g=>⟨o,kp b o (λz=>hb (by simp[z])) (λz=>hb (by simp[z])) g⟩)
    (λb D q=>by rw[aA (ne b _ q)];exact q) (λb o D q=>by rw[aA (ne b _ q)];exact q) (λb ps q=>⟨#[],by rw[aA (ne b _ q),q];simp⟩)
    (λm hm=>?_) (λb o q=>?_) I.bare
   ·rcases mem_cons.mp hb with rfl |hb
    ·exact⟨VF,S8,VG,VH⟩
    have:b=it:=by simpa using hb
    subst this;exact⟨J,F,R,T⟩
   ·obtain⟨o,es,ep,l,r⟩:=hm;exact⟨o,es,ep,kp _ o (Ne.symm S8) (Ne.symm F) l,r⟩
   by_cases hb:b=s.heap.objs.size
   ·subst hb;rw[IY] at q;cases q;exact⟨by show 2<=sizeLine;decide,[.int i tk,y],.cons ⟨tk,rfl⟩ (.cons ru .nil),_,Of⟩
   rw[aA hb] at q;refine(I.Jk b o q).K8 (λc v Y z=>kp c v ?_ ?_ z) (λc z=>by rw[aA (ne c _ z)];exact z) λc D z=>by rw[aA (ne c _ z)];exact z
   ·rcases Y with z' |z'
    ·rw[z'];exact aK q W
    exact aK z' W
   rcases Y with z' |z'
   ·rw[z'];exact aK q t
   exact aK z' t
  refine⟨.ref s.heap.objs.size,_,I1,rfl,⟨_,x,hn,rfl,rfl,λys hy=>by rw[I.LV hy G];exact U⟩,⟨⟨y,RV⟩,RU.1.extBut M.extBut (Ne.symm L)⟩,λb hb=>?_⟩;rcases mem_cons.mp hb with rfl |hb
  ·rw[aA (Ne.symm S_)];exact W
  have:b=it:=by simpa using hb
  subst this;obtain⟨o,OR,_⟩:=f;rw[aA (ne_of_lt (Heap.lt_size OR))];exact t
 done:=by
  intro X n V S hc i j s σ H E I B st O;subst n V S;obtain⟨D,G,U⟩:=O;obtain⟨its,N,p,hz⟩:=I.list G;obtain⟨⟨old,d⟩,f⟩:=st;obtain⟨t,F,VI,J,R,T⟩:=B it (by simp);have hl:=N.length;exact wpAny_pyNext_enum_end (I.ok.hd hc) d f p.isList (by simp;omega) λh' eb=>⟨rfl,I.turned (t':=s.toks) (λb o hb e=>eb b o hb e) t F J R T⟩
 self:=by
  intro A i s Q E st h;obtain⟨⟨old,d⟩,_⟩:=st;exact wpAny_pyIter_enum d h
theorem Walk.P8 {a:Addr}{ds:List D}{xs:List V}{J:List Addr}{H:Hp}(t:LQ X.K H J a xs)(m:IT X.K H J ds xs):Walk X (FB X.K a) (bx 0 ds) J H where
 len:=by rw[bB,m.length];exact t.len
 go:=λf c i x b=>by
  rw[bB] at b;have m1:=m.ex x;obtain⟨v,h,_⟩:=m1.get (List.getElem?_eq_getElem b);exact⟨xs,v,(t.ex x).sq,h⟩
 Nz:=λf c i v l x k b y=>by
  obtain⟨p,y,g,rfl,rfl,j⟩:=y;obtain⟨d,e,a⟩:=(m.ex x).get' (j xs (t.ex x).sq);refine⟨.tup [.int i,d],by rw[dB,e];simp,At.KD (.cons (At.IP.mpr rfl) (.cons a .nil)) g k (by show 2<=sizeLine;decide),aN g _⟩
 stop:=λf c i x b=>by
  rw[bB] at b;exact⟨xs,(t.ex x).sq,by rw[← m.length];exact b⟩
def wn:List D->Option (List D)
 |[.lst xs]=>some (bx 0 xs)
 |_=>none
theorem vE {es:List Expr}{k:Nat}{pt p:Pos}{a:Expr}{t:IE (List D)}{x:Str}(A:x="enumerate")(O:X.mg x=none)(P:SA X W [a] t)(C:Gl X x:=by rfl)
  (F:starEach (a::[]) X.env=(false,eval a X.env)::starEach [] X.env:=by rfl) (JQ:(backTo pos (starEach [] X.env)).any (·.1)=false:=by rfl):SI X W (.Tuple es k pt) (.Call (.Name x p) [a] [] pos) (f7 wn t):=by
 subst A;intro c s q H R I h;refine wpAny_Call_Name_kw (gH I C O boot_enumerate ?_ (by decide) (by decide));refine callWith_type1 (Jj (P pos c s q H _ I (iB h)) λus d N=>?_) F JQ;obtain⟨vs,i,f,B,J,S,U,T,so,m,g,z⟩:=N;unfold wn at g;split at g
 ·rename_i Q;cases g;obtain⟨v,r,rfl,y,n⟩:=IT.IQ.mp m;cases IT.IV.mp n;obtain⟨ad,V,rfl,l,L⟩:=At.Jc.mp y;obtain⟨u,rfl,G⟩:=vals1 B;cases G;obtain⟨its,Y,pl,Z⟩:=f.list l.sq;have j:ad<d.heap.objs.size:=by obtain⟨o,n,e,_⟩:=pl;exact Heap.lt_size e
  refine call_enumerate_list pl.isList λM w it sz kp=>?_;have E:Inv X c q i { d with heap:=M }:=f.kept (t':=d.toks) kp;refine wpAny_pyIter_enum w ?_;refine⟨d.heap.objs.size+1,[d.heap.objs.size+1,d.heap.objs.size],_,FB X.K ad,i,rfl,E,vy ad _ _ (ne_of_gt (lt_succ_self _)) (ne_of_lt (lt_succ_of_lt j)) (ne_of_lt j),⟨⟨_,w⟩,it⟩,λb hb=>?_,z i _ (I0.refl _) (Walk.P8 l L)⟩;rcases mem_cons.mp hb with rfl |hb
  ·exact f.KY (le_succ _) (f.Jk.fresh (le_succ _))
  have:b=d.heap.objs.size:=by simpa using hb
  subst this;exact f.KY (le_refl _) f.fresh
 cases g
def rP:List D->Option (List D)
 |[.tup xs]=>some (bx 0 xs)
 |[.lst xs]=>some (bx 0 xs)
 |_=>none
theorem zX {es:List Expr}{k:Nat}{pt p:Pos}{a:Expr}{t:IE (List D)}{x:Str}(c:x="enumerate")(e:X.mg x=none)(g:SA X W [a] t)(d:Gl X x:=by rfl)
  (f:starEach (a::[]) X.env=(false,eval a X.env)::starEach [] X.env:=by rfl) (JQ:(backTo pos (starEach [] X.env)).any (·.1)=false:=by rfl):SI X W (.Tuple es k pt) (.Call (.Name x p) [a] [] pos) (f7 rP t):=by
 refine SI.either (qY c e g d f JQ) (vE c e g d f JQ) λi S=>?_;unfold f7;refine cb _ λh j=>?_;unfold rP mF wn
 match h with
 |[.tup xs]=>exact .inl rfl
 |[.lst xs]=>exact .inr rfl
 |[]=>exact .inl rfl
 |[.Ji]=>exact .inl rfl
 |[.bl _]=>exact .inl rfl
 |[.int _]=>exact .inl rfl
 |[.str _]=>exact .inl rfl
 |[.set _]=>exact .inl rfl
 |[.loc _]=>exact .inl rfl
 |[.fn _ _]=>exact .inl rfl
 |a::b::r=>cases a<;>exact .inl rfl
end
section
variable {X:Cx}{W:WT}{pos p:Pos}{e:Expr}
def Du (c:Str)(g:IM->IL->Bool):IE Fl:=λa S=>if g a S=true then some (.error c,S) else none
end
section
variable {X:Cx}{W:WT}{pos pos' p:Pos}{o i e:Expr}{es:List Expr}{gs:IE (List D)}{fo fi fv fe:IE D}{x:Str}
def jr (x k v:D)(ρ:IM)(S:IL):Out Fl:=match k with
 | .int i=>(match x with
  | .loc l=>(match S[l]? with
   |some (.lst xs)=>(match OF xs.length i with
    |some j=>IX (.next ρ) (S.set l (.lst (xs.set j v)))
    |none=>none)
   |_=>none)
  |_=>none)
 |_=>none
def xM (fo fi fv:IE D):IE Fl:=λa S=>ai (fv a S) λv d=>ai (fo a d) λx b=>ai (fi a b) λk c=>jr x k v a c
theorem IT.set {K:IF}{H:Hp}{J:List Addr}{d:D}{v:V}(a:At K H J d v):∀ {ds:List D}{vs:List V}(j:Nat),IT K H J ds vs->IT K H J (ds.set j d) (vs.set j v)
 |[],vs,j,m=>by cases IT.IV.mp m;exact m
 |e::ds,vs,j,m=>by
  obtain⟨u,r,rfl,m1,m2⟩:=IT.IQ.mp m;cases j with
  |zero=>exact .cons a m2
  |succ j=>exact .cons m1 (IT.set a j m2)
theorem B7 (M:SE X W o fo)(R:SE X W i fi)(F:SE X W e fv)(Q:swapsWithSole [.Subscript o i pos'] e pos.line X.env=pure false:=by rfl)(I:swappedStores [.Subscript o i pos'] e X.env=pure none:=by rfl)
  (n:(assignEach [.Subscript o i pos'] X.env).map (·.2)=[assign (.Subscript o i pos') X.env]:=by rfl)
  (d:∀ v,assign (.Subscript o i pos') X.env v=(do
   let b ← holding [v] (eval o X.env);let f ← holding [v,b] (eval i X.env)
   standAt pos'
   holding [v,b,f] (setItem b f v)
   release [v,b,f] []):=by intro _;rfl):SS X W (.Assign [.Subscript o i pos'] e pos) (xM fo fi fv):=
 (Ao F (EA M R set_list d) Q I n).imp λE t H h=>by
  have h:tH X W [] [] (xM fo fi fv) E t H:=let ⟨J,g,S,r,p,c,e,z⟩:=h;⟨J,g,S,r,p,c,.nil,e,z⟩;refine(tH.IZ h).mono λv Z ⟨q,n⟩=>(tH.IZ n).mono λx U ⟨B,G⟩=>(tH.IZ G).mono λy V ⟨u,P⟩=>?_;obtain⟨J,g,S,r,p,c,m,e,z⟩:=P;obtain⟨mk,m⟩:=m.IU;obtain⟨T,m⟩:=m.IU;obtain⟨K,_⟩:=m.IU;have e:jr B u q g S=some (r,p):=e;unfold jr at e;cases u with
  |int k =>
   cases B with
   |loc l =>
    simp only at e;split at e
    ·rename_i C es;split at e
     ·rename_i j N;cases e;obtain⟨a,rfl,d⟩:=At.I_.mp T;obtain⟨A,D,s⟩:=c.Jr.at_ l a _ d es;cases At.IP.mp mk;have up:=c.Jr.update (o:=.lst (A.set j v)) (mo:=.lst (C.set j q)) d λJ' Y w L O=>by subst L O;exact⟨_,IY,IT.set (K.ex w) j (s.ex w)⟩
      exact⟨a,A,k,j,rfl,rfl,D,by rw[← s.length];exact N,z J t _ up.2 (c.re up.2 up.1)⟩
     cases e
    cases e
   |_=>cases e
  |_=>cases e
end
def FE (K:IF)(x qual:Str)(st:Stmt)(f:Addr):Prop:=∃ fd,Ob K x qual st f fd
def BD (x qual:Str)(st:Stmt)(b:List Str):Prop:=∀ (kV doc e:Value) (d:Option Addr) (c ct:Value) (a:List Value),a.length=b.length->bindArgs (PySem.W.fnOf x qual (dJ st) (bC st) (aq st) .none kV doc e d c ct) ⟨a,[]⟩=pure (b.zip a)
section
variable {P:List Value->Prop}{us:List Value}
theorem Zf (h:us.length=0)(k:P []):P us:=by rw[length_eq_zero_iff.mp h];exact k
theorem B1 {n:Nat}(h:us.length=n+1)(k:∀ a r,r.length=n->P (a::r)):P us:=by
 cases us with
 |nil=>cases h
 |cons a r=>exact k a r (Nat.succ.inj h)
theorem Xq (h:us.length=1)(k:∀ a,P [a]):P us:=B1 h λa _ h=>Zf (P:=λr=>P (a::r)) h (k a)
theorem O7 (h:us.length=2)(k:∀ a b,P [a,b]):P us:=B1 h λa _ h=>Xq (P:=λr=>P (a::r)) h (k a)
theorem Xr (h:us.length=3)(k:∀ a b c,P [a,b,c]):P us:=B1 h λa _ h=>O7 (P:=λr=>P (a::r)) h (k a)
theorem Zg (h:us.length=4)(k:∀ a b c d,P [a,b,c,d]):P us:=B1 h λa _ h=>Xr (P:=λr=>P (a::r)) h (k a)
end
section
variable {x qual:Str}{st:Stmt}{p1 p2 p3 p4 p5 p6:Str}
theorem VW (h:∀ (kV doc e:Value) (c:Option Addr) (b ct:Value) (a:Value),bindArgs (PySem.W.fnOf x qual (dJ st) (bC st) (aq st) .none kV doc e c b ct) ⟨[a],[]⟩=pure [(p1,a)]):BD x qual st [p1]:=λkV doc e c b ct d f=>Xq (P:=λd=>bindArgs _ ⟨d,[]⟩=pure (List.zip [p1] d)) f λa=>(h kV doc e c b ct a)
theorem VX (h:∀ (kV doc f:Value) (d:Option Addr) (c ct:Value) (a b:Value),bindArgs (PySem.W.fnOf x qual (dJ st) (bC st) (aq st) .none kV doc f d c ct) ⟨[a,b],[]⟩=pure [(p1,a),(p2,b)]):BD x qual st [p1,p2]:=λkV doc f d c ct e g=>O7 (P:=λe=>bindArgs _ ⟨e,[]⟩=pure (List.zip [p1,p2] e)) g λa b=>(h kV doc f d c ct a b)
theorem VY (h:∀ (kV doc g:Value) (e:Option Addr) (d ct:Value) (a b c:Value),bindArgs (PySem.W.fnOf x qual (dJ st) (bC st) (aq st) .none kV doc g e d ct) ⟨[a,b,c],[]⟩=pure [(p1,a),(p2,b),(p3,c)]):BD x qual st [p1,p2,p3]:=λkV doc g e d ct f i=>Xr (P:=λf=>bindArgs _ ⟨f,[]⟩=pure (List.zip [p1,p2,p3] f)) i λa b c=>(h kV doc g e d ct a b c)
theorem VZ (h:∀ (kV doc i:Value) (f:Option Addr) (e ct:Value) (a b c d:Value),bindArgs (PySem.W.fnOf x qual (dJ st) (bC st) (aq st) .none kV doc i f e ct) ⟨[a,b,c,d],[]⟩=pure [(p1,a),(p2,b),(p3,c),(p4,d)]):BD x qual st [p1,p2,p3,p4]:=λkV doc i f e ct g j=>Zg (P:=λg=>bindArgs _ ⟨g,[]⟩=pure (List.zip [p1,p2,p3,p4] g)) j λa b c d=>(h kV doc i f e ct a b c d)
end
section
variable {K:IF}{h:Heap}{mg:IJ}{x m c qual:Str}{st:Stmt}{ps:List Str}{f C:Addr}
theorem fE {g:Value}{od b:Option Addr}{e:Array (Option Value)}{kV doc d a ct:Value}(l:K.lookup f=some ⟨g,od,.func (PySem.W.fnOf x qual (dJ st) (bC st) (aq st) .none kV doc d b a ct),e⟩)
  (c:PySem.W.codeIn K a qual=true) (k:PySem.W.keepIn K (.ref f)=true):FE K x qual st f:=⟨_,E7 l c k⟩
theorem Zh (X:K.In h)(G:h.Ns mainGlobals mg)(a:PySem.W.nsIn K mainGlobals x=some (some (.ref f)))(q:FE K x x st f)(b:BD x x st ps):a9 K mg x st ps:=
 Exists.elim q λfd F=>⟨f,fd,F,PySem.W.mg_of X G a,F.binds b⟩
abbrev NC (K:IF)(c:Str)(C:Addr):Prop:=PySem.W.nsIn K mainGlobals c=some (some (.ref C))/\NB K C
theorem Zi (n:NC K c C)(a:PySem.W.findIn K (.ref C) m=some (some (.ref f)))(i:PySem.W.isFn K (.ref f)=true)(q:FE K m qual st f)(b:BD m qual st ps):MethAt K c m qual st ps:=
 Exists.elim q λfd F=>⟨C,f,fd,n.1,n.2,⟨a,i,F.kp⟩,F,F.binds b⟩
theorem Zj (X:K.In h)(G:h.Ns mainGlobals mg)(n:NC K c C)(e:PySem.W.makesIn K C=true)(d:PySem.W.keepIn K (.ref C)=true)(a:PySem.W.findIn K (.ref C) "__init__"=some (some (.ref f)))(i:PySem.W.isFn K (.ref f)=true)(q:FE K "__init__" qual st f)(b:BD "__init__" qual st ps):FA K mg c qual st ps:=
 Exists.elim q λfd F=>⟨C,f,fd,n.1,PySem.W.mg_of X G n.1,⟨e,a,i,d⟩,F,F.binds b⟩
end
end L2
namespace L2
open PySem
section
variable {prog:Program}{w:World}{K:Type} [DecidableEq K] {knd:KeyKind prog w K}{pk:K->Bool}{led:Bool}{A:Around}{E:IG}{s:Shared}
set_option maxHeartbeats 3200000 in
theorem rX {l:Addr}{items:Array Value}{Q:IG}(z:A.handled=none)(C:s.heap.IsList l items)(val:Nat->K)(L:∀ (i:Nat) v,items[i]?=some v->knd.is (val i) v=true/\v.scannable=true/\plainKind v=pk (val i))
  (hb:items.size+1<scanBound)
  (h:∀ (h':Heap) (tk:Nat),JN knd pk (!Nk w) h' s.heap.objs.size (met val items.size)->(∀ b o,b<s.heap.objs.size->s.heap.get? b=some o->h'.get? b=some o)->Q (.ref s.heap.objs.size) { s with heap:=h',toks:=tk }) :
  wpAny (model prog w) A (call (.type "set") [.ref l]) Q E s:=by
 obtain⟨c,tl,Zk⟩:=F.called_set.mro;have c1:=F.called_set.made;have c2:=F.called_set.sub;refine wpAny_call (codeAny_of_tree ?_);show wpAny _ _ (callAny (.type "set") _) _ _ _;refine wpAny_pure ⟨Code.quiet_builtin _ (by decide),codeAny_builtin F.entry_type_call ?_⟩;rw[Around.under_plain (weight_type_call_type "set" [.ref l] []) rfl];have c3:=F.called_set.notType;have Z:=F.called_set.canCreate;have c5:=SF.Td (.ref l)
 repeat (any_goals (first |assumption |wp_step))
 refine codeAny_mono (z5 (.ref l) (E:=E) (Q₁:=λobj d=>obj = .ref s.heap.objs.size/\d={ s with heap:=s.heap.push (mN w) }) ⟨rfl,rfl⟩) λr d hr=>?_;cases r with
 |error e=>exact hr
 |ok T =>
  cases T with
  |ret obj =>
   obtain⟨rfl,rfl⟩:=hr;have q:(s.heap.push (mN w)).get? s.heap.objs.size=some (mN w):=Heap.get?_push_size _ rfl;have N:Shared.TypeIs { s with heap:=s.heap.push (mN w) } (.ref s.heap.objs.size) "set":=⟨_,q,rfl⟩;have i1:=F.called_set.init.lookup;have W:=F.called_set.init.bind (.ref s.heap.objs.size)
   repeat (any_goals (first |assumption |wp_step))
   refine codeAny_mono (codeAny_call_builtin (R:=wants (λr a=>r = .none/\∃ h' tk,a={ s with heap:=h',toks:=tk }/\JN knd pk (!Nk w) h' s.heap.objs.size (met val items.size) /\
     (∀ b o,b<s.heap.objs.size->s.heap.get? b=some o->h'.get? b=some o)) E) F.called_set.init.plain F.entry_set_init (yi N ?_)) λf a g=>?_
   ·obtain⟨⟨Y,Xs,Xt,X⟩,p,t,n,k⟩:=id C;simp only at t k;subst t k;have u:=Heap.get?_push_of_some (mN w) p;have t1:=F.sub_list_set;have t2:=F.sub_list_frozenset;have t3:(Value.type "list"==Value.type "dict")=false:=by decide
    have U:(s.heap.push (mN w)).IsList l items:=⟨_,u,rfl,n,rfl⟩;unfold Builtin.«set.__init__» noKeywords Builtin.Frozenset.updateFrom;generalize y:pyIter=PI
    wp_walk
    subst y;refine wpAny_pyIter_list U ?_;refine wpAny_bind (wpAny_runValue ?_);have m:l<s.heap.objs.size:=Heap.lt_size p;have z1:(s.heap.push (mN w)).objs.size=s.heap.objs.size+1:=Heap.size_push ..;have B:l≠(s.heap.push (mN w)).objs.size:=by rw[z1];exact ne_of_lt (lt_succ_of_lt m)
    have P:s.heap.objs.size∉[(s.heap.push (mN w)).objs.size,l]:=by
     rw[z1];intro hm;rcases mem_cons.mp hm with e |hm
     ·exact ne_of_lt (lt_succ_self _) e
     exact ne_of_gt m (mem_singleton.mp hm)
    refine z6 (pk:=pk) (led:=!Nk w) ((Walks.list (by simp[z]) _ l B items).toS) s.heap.objs.size P val L hb (items.size-0) 0 _ (by omega) (zero_le _)
     ⟨⟨_,Heap.get?_push_size _ rfl,rfl,rfl⟩,⟨_,Heap.get?_push_of_some _ u,rfl,n,rfl⟩⟩ (JN.start (Heap.get?_push_of_some _ q)) λS hm j=>?_
    obtain⟨h',G,O,x,M⟩:=S;have H:G=s.gens:=hm.gens;have I:O=s.drawn:=hm.drawn;have V:M=s.os:=hm.os;subst H I V;show wpAny _ _ _ _ _ _;refine wpAny_pure ?_;show wpAny _ _ (ret Value.none) _ _ _;refine wpAny_pure ⟨rfl,h',x,rfl,j,λb o hb e=>hm.heap b o ?_ (Heap.get?_push_of_some _ (Heap.get?_push_of_some _ e))⟩;intro hm;rcases mem_cons.mp hm with e |hm
    ·exact ne_of_lt hb e
    rw[z1] at hm;exact ne_of_lt (lt_succ_of_lt hb) (mem_singleton.mp hm)
   cases f with
   |error e=>exact g
   |ok J =>
    cases J with
    |ret r =>
     obtain⟨rfl,h',tk,rfl,j,D⟩:=g
     repeat (any_goals (first |assumption |wp_step))
     exact h _ _ j D
    |_=>exact g.elim
  |_=>exact hr.elim
end
end L2
namespace L2
open PySem PySem.Spec PyProof.Rows PySem.W
def Ri:Key->D
 | .inl i => .int i
 | .inr x => .str x
section
variable {X:Cx}{W:WT}{x y:Str}{p p2 pos NK:Pos}{fe:IE D}
theorem y9 {d:D}{k:Key}(h:eA d=some k):d=Ri k:=by
 cases d with
 |int i=>cases h;rfl
 |str x=>cases h;rfl
 |_=>cases h
theorem ud {K:IF}{H:Hp}{J:List Addr}:∀ {ds:List D}{b:List Key}{vs:List V},js ds=some b->IT K H J ds vs->∀ k∈b,At K H J (Ri k) (kV k)
 |[],b,vs,e,m=>by cases e;intro k hk;cases hk
 |d::ds,b,vs,e,m=>by
  obtain⟨v,r,rfl,a,n⟩:=IT.IQ.mp m;rw[js] at e;obtain⟨k,c,i⟩:=bind_eq_some_iff.mp e;obtain⟨j,g,h⟩:=map_eq_some_iff.mp i;subst h;intro f hk;rcases mem_cons.mp hk with rfl |hk
  ·rw[← y9 c,← uf c a];exact a
  exact ud g n f hk
theorem uX {K:IF}{H:Hp}{J:List Addr}:∀ {a:List Key},(∀ k∈a,At K H J (Ri k) (kV k))->IT K H J (a.map Ri) (a.map kV)
 |[],_ => .nil
 |k::a,h => .cons (h k (mem_cons_self ..)) (uX λx b=>h x (mem_cons_of_mem _ b))
theorem Dn (hc:X.calm=true):hZ X (.type "set") (λxs H Q => ∃ (a:Addr) (c:List Key),xs=[.ref a]/\MA X.K H a (c.map kV)/\c.length+1<4096/\∀ p,H p=none->Q (.ref p) (upd H p (Fy X.prog X.w p (c.foldl dz [])))):=by
 intro B s O H xs S Q I r h;obtain⟨a,c,rfl,L,hb,q⟩:=h;obtain⟨u,rfl,F⟩:=vals1 r;cases F;obtain⟨its,m,⟨o,n,d,J,_,G⟩,R⟩:=I.list L;have tp:s.heap.IsList a its.toArray:=⟨o,d,J,n,G⟩;have g:its.length=c.length:=by rw[← m.length,length_map]
 refine rX (knd:=bn X.prog X.w) (pk:=VS) (I.ok.hd hc) tp (λi=>c.getD i (.inl 0)) (λi v D=>?_) (by rw[size_toArray,g];exact hb) λP tk f k=>?_
 ·have y:its[i]?=some v:=by simpa using D
  have A:i<c.length:=by rw[← g];exact(List.getElem?_eq_some_iff.mp y).1
  obtain⟨u,l,j⟩:=m.get (i:=i) (x:=kV c[i]) (by rw[getElem?_map,List.getElem?_eq_getElem A];rfl);rw[y] at l;cases l;have C:c.getD i (.inl 0)=c[i]:=by simp[List.getD,A]
  simp only[C];exact⟨qg j,(Ba j).1,(Ba j).2⟩
 have E:its.toArray.size=c.length:=by rw[size_toArray,g]
 rw[E,AX] at f;refine⟨.ref s.heap.objs.size,_,I.laid (t':=tk) (o:=Fy X.prog X.w s.heap.objs.size (c.foldl dz [])) (λb o e=>k b o (Heap.lt_size e) e) (le_refl _) ⟨f,?_,λN M z k=>z.keep k⟩,rfl,q _ I.fresh⟩;obtain⟨o,es,ep,t,d,_⟩:=f;exact⟨o,d⟩
end
section
variable {prog:Program}{w:World}{A:Around}{E:IG}{s:Shared}
structure ZA (z TI TO i1 i2:Addr) (f1 f2:List Addr):Prop where
 m1:i1∈f1
 m2:i2∈f2
 z1:z∉f1
 z2:z∉f2
 o1:TO∉f1
 o2:TO∉f2
 x1:i2∉f1
 x2:i1∉f2
 oz:TO≠z
 tz:TI≠z
 to:TI≠TO
 t1:TI∉f1
 t2:TI∉f2
variable {z TI TO i1 i2:Addr}{f1 f2:List Addr}{n1 n2:Nat}{P1 P2:Nat->Value->Prop}{S1 S2:Nat->Heap->Prop}{a b:Value}
theorem ZA.ne1 (D:ZA z TI TO i1 i2 f1 f2):i1≠z/\i1≠TO/\i1≠i2/\i2≠z/\i2≠TO/\TI≠i1/\TI≠i2:=
 ⟨λe=>D.z1 (e▸D.m1),λe=>D.o1 (e▸D.m1),λe=>D.x1 (e▸D.m1),λe=>D.z2 (e▸D.m2),λe=>D.o2 (e▸D.m2),λe=>D.t1 (e▸D.m1),λe=>D.t2 (e▸D.m2)⟩
theorem cW {x y:Addr}{l:List Addr}(h:x∉l)(g:y∈l):y≠x:=λe=>h (e▸g)
theorem zL (D:ZA z TI TO i1 i2 f1 f2)(u:Draws prog w A i1 f1 n1 P1 S1)(B:Draws prog w A i2 f2 n2 P2 S2){j k:Nat}(P:j<n1)(hk:k<n2){Q:IG}
  (hz:IsZip s.heap z TI TO .none) (Y:IsPair s.heap TI (.ref i1) (.ref i2)) (W:IsPair s.heap TO a b) (t1:S1 j s.heap) (t2:S2 k s.heap)
  (V:∀ x y h' tk,P1 j x->P2 k y->IsZip h' z TI TO (rawInt s.heap.objs.size)->IsPair h' TO x y->S1 (j+1) h'->S2 (k+1) h'->IsPair h' s.heap.objs.size x y->h'.objs.size=s.heap.objs.size+1 ->
   (∀ c o,c≠z->c≠TO->c≠i1->c≠i2->s.heap.get? c=some o->h'.get? c=some o)->Q (.ref s.heap.objs.size) { s with heap:=h',toks:=tk }) :
  wpAny (model prog w) A (Builtin.«zip.__next__» ⟨[.ref z],[]⟩) (λfin s' => ∃ v,fin = .done (.ret v)/\Q v s') E s:=by
 obtain⟨e1,e2,e3,U,e5,e6,e7⟩:=D.ne1;show wpAny _ _ (field (.ref z) 2 >>= _) _ _ _;refine wpAny_bind (wpAny_field (x:=.bool false) hz rfl rfl ?_);show wpAny _ _ (field (.ref z) 3 >>= _) _ _ _;refine wpAny_bind (wpAny_field (x:=.ref TI) hz rfl rfl (wpAny_bind (wpAny_seqItems Y rfl ?_)));show wpAny _ _ (Builtin.SmallTypes.ownedTupleIsFree (.ref z) >>= _) _ _ _;unfold Builtin.SmallTypes.ownedTupleIsFree;refine wpAny_bind (wpAny_bind (wpAny_field (x:=.none) hz rfl rfl (wpAny_pure ?_)));simp only[if_true];refine wpAny_bind (wpAny_rule (wpAny_bind (wpAny_field (x:=.ref TO) hz rfl rfl (wpAny_bind (wpAny_setField_rec hz (by simp) λS I m=>wpAny_bind ?_)))));have I:IsZip S z TI TO .ellipsis:=I;simp only[zipIdx_cons,List.zipIdx_nil,forIn_cons,forIn_nil];refine wpAny_bind (wpAny_bind (wpAny_onRaise ?_));show wpAny _ _ (Builtin.SmallTypes.nextOf (.ref i1) >>= _) _ _ _;refine wpAny_bind (u.item j _ _ _ P (u.frame _ _ _ t1 λc hc o e=>m.extBut _ _ (cW D.z1 hc) e) λx hb tb X Xv i=>wpAny_pure ?_);have O:IsPair hb TO a b:=i.extBut _ _ (Ne.symm e2) (m.extBut _ _ D.oz W);refine wpAny_bind (wpAny_seqItems O rfl (wpAny_bind (wpAny_updateSeq_pair O λhc K n=>wpAny_bind (wpAny_letGo (wpAny_pure ?_)))));have K:IsPair hc TO x b:=K;refine wpAny_bind (wpAny_bind (wpAny_onRaise ?_));show wpAny _ _ (Builtin.SmallTypes.nextOf (.ref i2) >>= _) _ _ _;have V5:S2 k hc:=B.frame _ _ _ t2 λc f o e=>n.extBut _ _ (cW D.o2 f) (i.extBut _ _ (cW D.x2 f) (m.extBut _ _ (cW D.z2 f) e));refine wpAny_bind (B.item k _ _ _ hk V5 λy hd td py Zo l=>wpAny_pure ?_);have L:IsPair hd TO x b:=l.extBut _ _ (Ne.symm e5) K;refine wpAny_bind (wpAny_seqItems L rfl (wpAny_bind (wpAny_updateSeq_pair L λd p h=>wpAny_bind (wpAny_letGo (wpAny_pure (wpAny_pure ?_))))));have p:IsPair d TO x y:=p;refine wpAny_bind (wpAny_seqItems p rfl (wpAny_bind (wpAny_newTuple ?_)));have sz:d.objs.size=s.heap.objs.size:=by rw[h.1,l.1,n.1,i.1,m.1]
 have all:∀ c o,c≠z->c≠TO->c≠i1->c≠i2->s.heap.get? c=some o->d.get? c=some o:=λc o t C F J e=>h.extBut _ _ C (l.extBut _ _ J (n.extBut _ _ C (i.extBut _ _ F (m.extBut _ _ t e))));have N:IsZip d z TI TO .ellipsis:=h.extBut _ _ (Ne.symm D.oz) (l.extBut _ _ (Ne.symm U) (n.extBut _ _ (Ne.symm D.oz) (i.extBut _ _ (Ne.symm e1) I)));have Zp:S1 (j+1) d:=u.frame _ _ _ Xv λc f o e=>h.extBut _ _ (cW D.o1 f) (l.extBut _ _ (cW D.x1 f) (n.extBut _ _ (cW D.o1 f) e));have R:S2 (k+1) d:=B.frame _ _ _ Zo λc f o e=>h.extBut _ _ (cW D.o2 f) e;have M:z<d.objs.size:=Heap.lt_size N;show wpAny _ _ (Builtin.SmallTypes.ownedTupleHandOut (.ref z) (.ref d.objs.size) >>= _) _ _ _;unfold Builtin.SmallTypes.ownedTupleHandOut;have zf:IsZip (d.push { cls:=.type "tuple",data:=.seq #[x,y] }) z TI TO .ellipsis:=Heap.get?_push_of_some _ N;refine wpAny_bind (wpAny_bind (wpAny_setField_rec zf (by simp) λT Z H=>wpAny_setField_rec (show IsZip T z TI TO (rawInt d.objs.size) from Z) (by simp) λg r G=>wpAny_pure ⟨_,rfl,?_⟩));have r:IsZip g z TI TO (rawInt d.objs.size):=r;have up:∀ c o,c≠z->d.get? c=some o->g.get? c=some o:=λc o q e=>G.extBut _ _ q (H.extBut _ _ q (Heap.get?_push_of_some _ e));have new:IsPair g d.objs.size x y:=G.extBut _ _ (ne_of_gt M) (H.extBut _ _ (ne_of_gt M) (Heap.get?_push_size _ rfl));have size:g.objs.size=d.objs.size+1:=by rw[G.1,H.1,Heap.size_push]
 show Q (.ref d.objs.size) _;rw[sz] at r new size ⊢;exact V x y g _ X py r (up _ _ D.oz p) (u.frame _ _ _ Zp λc f o e=>up c o (cW D.z1 f) e) (B.frame _ _ _ R λc f o e=>up c o (cW D.z2 f) e) new size λc o t C F J e=>up c o t (all c o t C F J e)
theorem BV (D:ZA z TI TO i1 i2 f1 f2)(C:Draws prog w A i1 f1 n1 P1 S1)(K:Draws prog w A i2 f2 n2 P2 S2){j k:Nat}(V6:j=n1∨(j<n1/\k=n2)){Q:Fin->Shared->Prop}
  (hz:IsZip s.heap z TI TO .none) (X:IsPair s.heap TI (.ref i1) (.ref i2)) (O:IsPair s.heap TO a b) (t1:S1 j s.heap) (t2:S2 k s.heap)
  (U:∀ h' e tk,(∀ c o,c≠z->c≠TO->c≠i1->c≠i2->s.heap.get? c=some o->h'.get? c=some o)->(∃ o,h'.get? e=some o/\o.cls = .type "StopIteration")->E (.ref e) { s with heap:=h',toks:=tk }) :
  wpAny (model prog w) A (Builtin.«zip.__next__» ⟨[.ref z],[]⟩) Q E s:=by
 obtain⟨F,e2,e3,R,e5,e6,e7⟩:=D.ne1;show wpAny _ _ (field (.ref z) 2 >>= _) _ _ _;refine wpAny_bind (wpAny_field (x:=.bool false) hz rfl rfl ?_);show wpAny _ _ (field (.ref z) 3 >>= _) _ _ _;refine wpAny_bind (wpAny_field (x:=.ref TI) hz rfl rfl (wpAny_bind (wpAny_seqItems X rfl ?_)));show wpAny _ _ (Builtin.SmallTypes.ownedTupleIsFree (.ref z) >>= _) _ _ _;unfold Builtin.SmallTypes.ownedTupleIsFree;refine wpAny_bind (wpAny_bind (wpAny_field (x:=.none) hz rfl rfl (wpAny_pure ?_)));simp only[if_true];refine wpAny_bind (wpAny_rule (wpAny_bind (wpAny_field (x:=.ref TO) hz rfl rfl (wpAny_bind (wpAny_setField_rec hz (by simp) λI n g=>wpAny_bind ?_)))));have n:IsZip I z TI TO .ellipsis:=n
 have stop:∀ (h:Heap) (H:IsZip h z TI TO .ellipsis) (e:Addr) (tk:Nat) (d:Heap) (v:Addr),z≠v->Heap.ExtBut v h d->(∃ o,d.get? e=some o/\o.cls = .type "StopIteration")->(∀ c o,c≠z->c≠TO->c≠i1->c≠i2->s.heap.get? c=some o->d.get? c=some o) ->
   wpAny (model prog w) A (setField (.ref z) 0 .none) (λ_ N=>E (.ref e) N) E { s with heap:=d,toks:=tk }:=by
  rintro h H e tk d v T S ⟨P,t,M⟩ Z;have z2:IsZip d z TI TO .ellipsis:=S _ _ T H;have Zr:e≠z:=λq=>by subst q;rw[z2] at t;cases t;simp at M
  exact wpAny_setField_rec z2 (by simp) λh3 _ G=>U h3 e tk (λc o f r i p x=>G.extBut _ _ f (Z c o f r i p x)) ⟨P,G.extBut _ _ Zr t,M⟩
 simp only[zipIdx_cons,List.zipIdx_nil,forIn_cons,forIn_nil];refine wpAny_bind (wpAny_bind (wpAny_onRaise ?_));show wpAny _ _ (Builtin.SmallTypes.nextOf (.ref i1) >>= _) _ _ _;have J:=C.frame _ _ _ t1 λc hc o e=>g.extBut c o (cW D.z1 hc) e;rcases V6 with rfl |⟨V,rfl⟩
 ·refine wpAny_bind (C.done _ _ _ J λd e l u=>?_);exact stop I n e s.toks d i1 (Ne.symm F) l u λc o f r i p x=>l _ _ i (g.extBut _ _ f x)
 refine wpAny_bind (C.item j _ _ _ V J λx hb Y px Xv m=>wpAny_pure ?_);have L:IsPair hb TO a b:=m.extBut _ _ (Ne.symm e2) (g.extBut _ _ D.oz O);refine wpAny_bind (wpAny_seqItems L rfl (wpAny_bind (wpAny_updateSeq_pair L λhc oc y=>wpAny_bind (wpAny_letGo (wpAny_pure ?_)))));refine wpAny_bind (wpAny_bind (wpAny_onRaise ?_));show wpAny _ _ (Builtin.SmallTypes.nextOf (.ref i2) >>= _) _ _ _;have V5:=K.frame _ _ _ t2 λc B o e=>y.extBut c o (cW D.o2 B) (m.extBut _ _ (cW D.x2 B) (g.extBut _ _ (cW D.z2 B) e));have W:IsZip hc z TI TO .ellipsis:=y.extBut _ _ (Ne.symm D.oz) (m.extBut _ _ (Ne.symm F) n);refine wpAny_bind (K.done _ _ _ V5 λd e l u=>?_);exact stop hc W e Y d i2 (Ne.symm R) l u λc o f r i p x=>l _ _ p (y.extBut _ _ r (m.extBut _ _ i (g.extBut _ _ f x)))
end
def Na (k:Bool)(h:Heap)(a:Addr)(items:Array Value):Prop:=match k with
 |true=>h.IsTuple a items
 |false=>h.IsList a items
def OM (k:Bool)(h:Heap)(it a:Addr)(i:Nat):Prop:=match k with
 |true=>h.IsTupleIter it a i
 |false=>h.IsListIter it a i
def Qv (k:Bool)(a:Addr):Obj:=match k with
 |true => { cls:=.type "tuple_iterator",data:=.fields #[.ref a,.int 0 0] }
 |false => { cls:=.type "list_iterator",data:=.fields #[.ref a,.int 0 0] }
section
variable {prog:Program}{w:World}{A:Around}{E:IG}{s:Shared}
theorem Na.keep {k:Bool}{h h':Heap}{a:Addr}{items:Array Value}(x:Na k h a items)(e:∀ o,h.get? a=some o->h'.get? a=some o):Na k h' a items:=by
 cases k with
 |true=>obtain⟨o,b,r⟩:=(x:h.IsTuple a items);exact⟨o,e o b,r⟩
 |false=>obtain⟨o,b,r⟩:=(x:h.IsList a items);exact⟨o,e o b,r⟩
theorem OM.keep {k:Bool}{h h':Heap}{it a:Addr}{i:Nat}(x:OM k h it a i)(e:∀ o,h.get? it=some o->h'.get? it=some o):OM k h' it a i:=by
 cases k with
 |true=>obtain⟨o,b,r⟩:=(x:h.IsTupleIter it a i);exact⟨o,e o b,r⟩
 |false=>obtain⟨o,b,r⟩:=(x:h.IsListIter it a i);exact⟨o,e o b,r⟩
theorem OM.obj {k:Bool}{h:Heap}{it a:Addr}{i:Nat}(x:OM k h it a i):∃ o,h.get? it=some o/\∀ v,o.data≠.cell v:=by
 cases k with
 |true=>obtain⟨o,b,_,hd⟩:=(x:h.IsTupleIter it a i);exact⟨o,b,λv z=>by rw[hd] at z;cases z⟩
 |false=>obtain⟨o,b,_,hd⟩:=(x:h.IsListIter it a i);exact⟨o,b,λv z=>by rw[hd] at z;cases z⟩
theorem Na.lt {k:Bool}{h:Heap}{a:Addr}{items:Array Value}(x:Na k h a items):a<h.objs.size:=by
 cases k with
 |true=>obtain⟨o,b,_⟩:=(x:h.IsTuple a items);exact Heap.lt_size b
 |false=>obtain⟨o,b,_⟩:=(x:h.IsList a items);exact Heap.lt_size b
theorem Draws.seq (k:Bool)(c:A.handled=none)(it a:Addr)(b:a≠it)(items:Array Value):Draws prog w A it [it,a] items.size (λi v=>items[i]?=some v) (λi h=>OM k h it a i/\Na k h a items):=by
 cases k with
 |true=>exact Draws.tup c it a b items
 |false=>exact Draws.list c it a b items
theorem xb {k:Bool}{a:Addr}{items:Array Value}{Q:IG}(x:Na k s.heap a items)(h:Q (.ref s.heap.objs.size) { s with heap:=s.heap.push (Qv k a) }):wpAny (model prog w) A (pyIter (.ref a)) Q E s:=by
 cases k with
 |true=>exact wpAny_pyIter_tuple (show s.heap.IsTuple a items from x) h
 |false=>exact wpAny_pyIter_list (show s.heap.IsList a items from x) h
end
abbrev TF (k1:Bool)(h:Heap)(a:Addr):Heap:=h.push (Qv k1 a)
abbrev TH (k1 k2:Bool)(h:Heap)(a b:Addr):Heap:=(TF k1 h a).push (Qv k2 b)
abbrev TJ (k1 k2:Bool)(h:Heap)(a b:Addr):Heap:=(TH k1 k2 h a b).push { cls:=.type "tuple",data:=.seq #[.ref h.objs.size,.ref (TF k1 h a).objs.size] }
abbrev TK (k1 k2:Bool)(h:Heap)(a b:Addr):Heap:=(TJ k1 k2 h a b).push { cls:=.type "tuple",data:=.seq #[.none,.none] }
abbrev ON (k1 k2:Bool)(h:Heap)(a b:Addr):Heap:=(TK k1 k2 h a b).push { cls:=.type "zip",data:=.fields #[.none,.bool false,.bool false,.ref (TH k1 k2 h a b).objs.size,.ref (TJ k1 k2 h a b).objs.size] }
theorem BU (c f:Bool)(a b:Addr)(xs ys:Array Value):Meets (Builtin.«zip.__new__» ⟨[.type "zip",.ref a,.ref b],[]⟩) (λ_ R s=>Na c s.heap a xs/\Na f s.heap b ys /\
   R (.ok (.ret (.ref (TK c f s.heap a b).objs.size))) { s with heap:=ON c f s.heap a b }):=
 .of_wp λprog w A R s h=>by
  obtain⟨i,g,d,tk,os⟩:=s;obtain⟨k,hb,h⟩:=h;have l:=sub_zip;have ga:Na c (Shared.heap ⟨i,g,d,tk,os⟩) a xs:=k;have j:Na f (Shared.heap ⟨i.push (Qv c a),g,d,tk,os⟩) b ys:=Na.keep (show Na f i b ys from hb) λo e=>Heap.get?_push_of_some _ e
  wp_walk using xb ga,xb j
  exact⟨_,rfl,h⟩
section
variable {prog:Program}{w:World}{A:Around}{E:IG}{s:Shared}
theorem zB {d f:Bool}{a b:Addr}{xs ys:Array Value}{Q:IG}(z:Na d s.heap a xs)(hb:Na f s.heap b ys)
  (h:∀ h',IsZip h' (s.heap.objs.size+4) (s.heap.objs.size+2) (s.heap.objs.size+3) .none->IsPair h' (s.heap.objs.size+2) (.ref s.heap.objs.size) (.ref (s.heap.objs.size+1)) ->
   IsPair h' (s.heap.objs.size+3) .none .none->OM d h' s.heap.objs.size a 0->OM f h' (s.heap.objs.size+1) b 0->(∀ c o,s.heap.get? c=some o->h'.get? c=some o)->Q (.ref (s.heap.objs.size+4)) { s with heap:=h' }) :
  wpAny (model prog w) A (call (.type "zip") [.ref a,.ref b]) Q E s:=by
 refine callType_new F.called_zip (by decide) (F.typeCall_zip_2 _ _) (F.newCall_zip_2 _ _) (λobj=>F.args_object_init_3 obj _ _) F.entry_zip_new (BU d f a b xs ys) ⟨z,hb,?_⟩;have p:(TF d s.heap a).objs.size=s.heap.objs.size+1:=Heap.size_push ..;have m:(TH d f s.heap a b).objs.size=s.heap.objs.size+2:=by rw[Heap.size_push,p]
 have r:(TJ d f s.heap a b).objs.size=s.heap.objs.size+3:=by rw[Heap.size_push,m]
 have y:(TK d f s.heap a b).objs.size=s.heap.objs.size+4:=by rw[Heap.size_push,r]
 have up1:∀ c o,(TK d f s.heap a b).get? c=some o->(ON d f s.heap a b).get? c=some o:=λc o e=>Heap.get?_push_of_some _ e;have t:∀ c o,(TJ d f s.heap a b).get? c=some o->(ON d f s.heap a b).get? c=some o:=λc o e=>up1 _ _ (Heap.get?_push_of_some _ e);have l:∀ c o,(TH d f s.heap a b).get? c=some o->(ON d f s.heap a b).get? c=some o:=λc o e=>t _ _ (Heap.get?_push_of_some _ e);have n:∀ c o,(TF d s.heap a).get? c=some o->(ON d f s.heap a b).get? c=some o:=λc o e=>l _ _ (Heap.get?_push_of_some _ e);have g:(ON d f s.heap a b).get? (TK d f s.heap a b).objs.size=some _:=Heap.get?_push_size _ rfl;have u:(ON d f s.heap a b).get? (TJ d f s.heap a b).objs.size=some _:=up1 _ _ (Heap.get?_push_size _ rfl);have j:(ON d f s.heap a b).get? (TH d f s.heap a b).objs.size=some _:=t _ _ (Heap.get?_push_size _ rfl);have fr:∀ k c,(Qv k c).isFreed=false:=λk c=>by cases k<;>rfl
 have q:(ON d f s.heap a b).get? (TF d s.heap a).objs.size=some (Qv f b):=l _ _ (Heap.get?_push_size _ (fr f b));have v:(ON d f s.heap a b).get? s.heap.objs.size=some (Qv d a):=n _ _ (Heap.get?_push_size _ (fr d a))
 have it:∀ (k:Bool) (c i:Addr),(ON d f s.heap a b).get? i=some (Qv k c)->OM k (ON d f s.heap a b) i c 0:=λk c i e=>by
  cases k with
  |true=>exact⟨_,e,rfl,rfl⟩
  |false=>exact⟨_,e,rfl,rfl⟩
 show _/\_;rw[y] at g ⊢;rw[r] at u g;rw[m] at j g;rw[p] at q j;exact⟨⟨_,g,rfl⟩,h _ g j u (it _ _ _ v) (it _ _ _ q) λc o x=>n _ _ (Heap.get?_push_of_some _ x)⟩
end
def OO (k:Bool)(K:IF)(H:Hp)(a:Addr)(xs:List V):Prop:=match k with
 |true=>Ms K H a xs
 |false=>MA K H a xs
section
variable {X:Cx}{pins:II}{σ:St}{H:Hp}{s:Shared}
theorem Inv.Oi {k:Bool}{a:Addr}{xs:List V}(I:Inv X pins σ H s)(h:OO k X.K H a xs):∃ its:List Value,Vals xs its/\Na k s.heap a its.toArray:=by
 cases k with
 |true=>obtain⟨its,r,p,_⟩:=I.tuple h;exact⟨its,r,p⟩
 |false=>obtain⟨its,r,⟨o,n,b,hc,_,hd⟩,_⟩:=I.list h;exact⟨its,r,o,b,hc,n,hd⟩
theorem Inv.Nl {k:Bool}{a:Addr}{xs ys:List V}(I:Inv X pins σ H s)(h:OO k X.K H a xs)(h':OO k X.K H a ys):xs=ys:=by
 cases k with
 |true=>exact I.Lo h h'
 |false=>exact I.LV h h'
end
theorem Na.ne {k:Bool}{h:Heap}{a it c:Addr}{items:Array Value}{i:Nat}(x:Na k h a items)(y:OM k h it c i):a≠it:=λe=>by
 subst e;cases k with
 |true =>
  obtain⟨o1,g,f,_⟩:=(x:h.IsTuple a items);obtain⟨o2,d,b,_⟩:=(y:h.IsTupleIter a c i);rw[g] at d;cases d;rw[f] at b;exact absurd b (by simp)
 |false =>
  obtain⟨o1,g,f,_⟩:=(x:h.IsList a items);obtain⟨o2,d,b,_⟩:=(y:h.IsListIter a c i);rw[g] at d;cases d;rw[f] at b;exact absurd b (by simp)
def V7 (K:IF)(e f:Bool)(a b:Addr)(n1 n2:Nat):It:=
 ⟨λi H=>i<n1/\i<n2/\∃ c d,OO e K H a c/\OO f K H b d/\c.length=n1/\d.length=n2,
  λi H v g => ∃ p x y,H p=none/\v = .ref p/\g=upd H p (.tup [x,y])/\(∀ c,OO e K H a c->c[i]?=some x)/\∀ d,OO f K H b d->d[i]?=some y,
  λi H=>(n1<=i∨n2<=i)/\∃ c d,OO e K H a c/\OO f K H b d/\c.length=n1/\d.length=n2⟩
structure Zs (k1 k2:Bool) (a b z TI TO i1 i2:Addr) (n1 n2 i:Nat) (h:Heap):Prop where
 zip:IsZip h z TI TO .none
 its:IsPair h TI (.ref i1) (.ref i2)
 out:∃ u v,IsPair h TO u v
 fst:OM k1 h i1 a i
 snd:OM k2 h i2 b i
 XA:i<=n1
 XB:i<=n2
theorem zQ {P:Program}{w:World}{K:IF}{es:List Expr}{kk:Nat}{pt:Pos}(Z C:Bool)(a b z TI TO g f:Addr)(n1 n2:Nat)(D:ZA z TI TO g f [g,a] [f,b]) :
  Turn P w K (.Tuple es kk pt) (V7 K Z C a b n1 n2) [z,TI,TO,g,f] z (Zs Z C a b z TI TO g f n1 n2) where
 mem:=by simp
 obj:=λi h st c hc=>by
  simp only[mem_cons,not_mem_nil,or_false] at hc;rcases hc with rfl |rfl |rfl |rfl |rfl
  ·exact⟨_,st.zip,λv q=>by cases q⟩
  ·exact⟨_,st.its,λv q=>by cases q⟩
  ·obtain⟨u,v,e⟩:=st.out;exact⟨_,e,λv q=>by cases q⟩
  ·exact st.fst.obj
  exact st.snd.obj
 keep:=λi h h' st kp=>by
  obtain⟨u,v,e⟩:=st.out;exact⟨kp _ (by simp) _ st.zip,kp _ (by simp) _ st.its,⟨u,v,kp _ (by simp) _ e⟩,st.fst.keep λo e=>kp _ (by simp) o e,st.snd.keep λo e=>kp _ (by simp) o e,st.XA,st.XB⟩
 item:=by
  intro X hP hw hK hc i B s σ H E I l st hg;subst hP hw hK;obtain⟨l1,l2,M,ys,hx,hy,lx,ly⟩:=hg;obtain⟨N,V,S⟩:=I.Oi hx;obtain⟨J,W,pv⟩:=I.Oi hy;obtain⟨u0,v0,eo⟩:=st.out;have su:N.toArray.size=n1:=by rw[size_toArray,← V.length,lx]
  have sv:J.toArray.size=n2:=by rw[size_toArray,← W.length,ly]
  have ne1:a≠g:=S.ne st.fst;have G:b≠f:=pv.ne st.snd;have U:s.TypeIs (.ref z) "zip":=⟨_,st.zip,rfl⟩;unfold pyNext;refine wpAny_bind (wpAny_attempt (wpAny_callSpecial?_slot (name:=Str.ofString "__next__") U F.slot_zip_next (wpAny_call_entry F.slot_zip_next U F.entry_zip_next ?_ (F.args_zip_next_1 _))))
  refine zL D (Draws.seq (A:=X.A.in1) Z (I.ok.hd hc) g a ne1 N.toArray) (Draws.seq (A:=X.A.in1) C (I.ok.hd hc) f b G J.toArray) (j:=i) (k:=i) (by omega) (by omega) st.zip st.its eo ⟨st.fst,S⟩ ⟨st.snd,pv⟩
   λu v h' tk hu hv z' o' f' g' new size kp=>wpAny_pure ⟨_,rfl,wpAny_letOwnedTupleGo_zip (s:={ s with heap:=h',toks:=tk }) z' λL z2 C=>?_⟩
  have hu:N[i]?=some u:=by simpa using hu
  have hv:J[i]?=some v:=by simpa using hv
  obtain⟨x,ex⟩:∃ x,M[i]?=some x:=⟨_,List.getElem?_eq_getElem (by omega)⟩;obtain⟨y,ey⟩:∃ y,ys[i]?=some y:=⟨_,List.getElem?_eq_getElem (by omega)⟩;obtain⟨u',e1,rx⟩:=V.get ex;rw[hu] at e1;cases e1;obtain⟨v',e2,ry⟩:=W.get ey;rw[hv] at e2;cases e2;have hn:H s.heap.objs.size=none:=I.fresh;have kq:∀ c o,c≠z->c≠TO->c≠g->c≠f->s.heap.get? c=some o->L.get? c=some o:=λc o q1 q2 q3 q4 e=>(C.2 c q1).trans (kp c o q1 q2 q3 q4 e);have nz:s.heap.objs.size≠z:=ne_of_gt (Heap.lt_size st.zip);have Of:IsPair L s.heap.objs.size u v:=(C.2 _ nz).trans new;have O:∀ c o,H c=some o->c≠s.heap.objs.size:=λc o q=>aK q hn
  have R:∀ c∈[z,TO,g,f],c∈[z,TI,TO,g,f]:=λc hc=>by
   simp only[mem_cons,not_mem_nil,or_false] at hc ⊢;rcases hc with h |h |h |h
   ·exact .inl h
   ·exact .inr (.inr (.inl h))
   ·exact .inr (.inr (.inr (.inl h)))
   exact .inr (.inr (.inr (.inr h)))
  have Y:∀ {c:Addr},c∉[z,TO,g,f]->c≠z/\c≠TO/\c≠g/\c≠f:=λ{c} h=>by simpa using h
  have t:∀ c o,c∉[z,TO,g,f]->s.heap.get? c=some o->L.get? c=some o:=λc o h e=>kq c o (Y h).1 (Y h).2.1 (Y h).2.2.1 (Y h).2.2.2 e;have out:∀ c o,H c=some o->c∉[z,TO,g,f]:=λc o q hc=>by have:=(l c (R c hc)).1;rw[this] at q;cases q
  have I1:Inv X B σ (upd H s.heap.objs.size (.tup [x,y])) { s with heap:=L,toks:=tk }:=by
   refine I.step (h':=L) (g':=s.gens) (d':=s.drawn) (t':=tk) (ch:=[z,TO,g,f]) (λc hc=>?_) (λc o _ _ hc e _=>t c o hc e) (λc o _ _ hc e _=>⟨o.slots,t c o hc e⟩)
    (λc o _ e n'=>by rw[aA (ne_of_lt (Heap.lt_size e))];exact n') (λc o hc e=>⟨o,t c o hc e⟩)
    (λc M q=>by rw[aA (O c _ q)];exact q) (λc o M q=>by rw[aA (O c _ q)];exact q) (λc ps q=>⟨#[],by rw[aA (O c _ q),q];simp⟩)
    (λm hm=>?_) (λc o q=>?_) I.bare
   ·obtain⟨_,g1,_,g3,g4,g5⟩:=l c (R c hc);exact⟨g3,g1,g4,g5⟩
   ·obtain⟨o,es,ep,p,r⟩:=hm;exact⟨o,es,ep,kq _ o (Ne.symm (l z (by simp)).2.1) (Ne.symm (l TO (by simp)).2.1) (Ne.symm (l g (by simp)).2.1) (Ne.symm (l f (by simp)).2.1) p,r⟩
   by_cases hb:c=s.heap.objs.size
   ·subst hb;rw[IY] at q;cases q;exact⟨by show 2<=sizeLine;decide,[u,v],.cons rx (.cons ry .nil),_,Of⟩
   rw[aA hb] at q;refine(I.Jk c o q).K8 (λd v' M6 e=>t d v' ?_ e) (λd e=>by rw[aA (O d _ e)];exact e) λd M e=>by rw[aA (O d _ e)];exact e
   rcases M6 with rfl |M6
   ·exact out _ _ q
   exact out _ _ M6
  refine⟨.ref s.heap.objs.size,_,I1,rfl,⟨_,x,y,hn,rfl,rfl,λQt h'=>by rw[I.Nl h' hx];exact ex,λRj h'=>by rw[I.Nl h' hy];exact ey⟩,?_,λc hc=>?_⟩
  ·have kz:∀ c o,c≠z->h'.get? c=some o->L.get? c=some o:=λc o q e=>(C.2 c q).trans e;obtain⟨Zt,n2',n3',Zu,n5',Zv,Zw⟩:=D.ne1;exact⟨z2,kq _ _ D.tz D.to Zv Zw st.its,⟨u,v,kz _ _ D.oz o'⟩,f'.1.keep λo e=>kz _ o Zt e,g'.1.keep λo e=>kz _ o Zu e,by omega,by omega⟩
  have JL:c<s.heap.objs.size:=by
   have q:∃ o,s.heap.get? c=some o:=by
    simp only[mem_cons,not_mem_nil,or_false] at hc;rcases hc with rfl |rfl |rfl |rfl |rfl
    ·exact⟨_,st.zip⟩
    ·exact⟨_,st.its⟩
    ·exact⟨_,eo⟩
    ·obtain⟨o,p,_⟩:=st.fst.obj;exact⟨o,p⟩
    obtain⟨o,p,_⟩:=st.snd.obj;exact⟨o,p⟩
   obtain⟨o,p⟩:=q;exact Heap.lt_size p
  rw[aA (ne_of_lt JL)];exact(l c hc).1
 done:=by
  intro X hP hw hK hc i B s σ H E I l st hg;subst hP hw hK;obtain⟨le,M,ys,hx,hy,lx,ly⟩:=hg;obtain⟨N,V,S⟩:=I.Oi hx;obtain⟨J,W,pv⟩:=I.Oi hy;obtain⟨u0,v0,eo⟩:=st.out;have su:N.toArray.size=n1:=by rw[size_toArray,← V.length,lx]
  have sv:J.toArray.size=n2:=by rw[size_toArray,← W.length,ly]
  have ne1:a≠g:=S.ne st.fst;have G:b≠f:=pv.ne st.snd;have U:s.TypeIs (.ref z) "zip":=⟨_,st.zip,rfl⟩;have e1:=st.XA;have e2:=st.XB;unfold pyNext;refine wpAny_bind (wpAny_attempt (wpAny_callSpecial?_slot (name:=Str.ofString "__next__") U F.slot_zip_next (wpAny_call_entry F.slot_zip_next U F.entry_zip_next ?_ (F.args_zip_next_1 _))));refine BV D (Draws.seq (A:=X.A.in1) Z (I.ok.hd hc) g a ne1 N.toArray) (Draws.seq (A:=X.A.in1) C (I.ok.hd hc) f b G J.toArray) (j:=i) (k:=i) (by omega) st.zip st.its eo ⟨st.fst,S⟩ ⟨st.snd,pv⟩ λh' e tk kp he=>?_;obtain⟨o,p,RY⟩:=he;refine wpAny_bind (wpAny_isInstance (T:="StopIteration") (b:=true) ⟨o,p,RY⟩ isSubtype_stop ?_);refine wpAny_pure ⟨rfl,?_⟩
  have R:∀ c∈[z,TO,g,f],c∈[z,TI,TO,g,f]:=λc hc=>by
   simp only[mem_cons,not_mem_nil,or_false] at hc ⊢;rcases hc with h |h |h |h
   ·exact .inl h
   ·exact .inr (.inr (.inl h))
   ·exact .inr (.inr (.inr (.inl h)))
   exact .inr (.inr (.inr (.inr h)))
  have t:∀ c o,c∉[z,TO,g,f]->s.heap.get? c=some o->h'.get? c=some o:=λc o h e=>by
   have h:c≠z/\c≠TO/\c≠g/\c≠f:=by simpa using h
   exact kp c o h.1 h.2.1 h.2.2.1 h.2.2.2 e
  have out:∀ c o,H c=some o->c∉[z,TO,g,f]:=λc o q hc=>by have:=(l c (R c hc)).1;rw[this] at q;cases q
  refine I.step (h':=h') (g':=s.gens) (d':=s.drawn) (t':=tk) (ch:=[z,TO,g,f]) (λc hc=>?_) (λc o _ _ hc e _=>t c o hc e) (λc o _ _ hc e _=>⟨o.slots,t c o hc e⟩)
   (λ_ _ _ _ n=>n) (λc o hc e=>⟨o,t c o hc e⟩) (λ_ _ e=>e) (λ_ _ _ e=>e) (λc ps e=>⟨#[],by rw[e];simp⟩) (λm hm=>?_) (λc o q=>?_) I.bare
  ·obtain⟨_,g1,_,g3,g4,g5⟩:=l c (R c hc);exact⟨g3,g1,g4,g5⟩
  ·obtain⟨o,es,ep,p,r⟩:=hm;exact⟨o,es,ep,kp _ o (Ne.symm (l z (by simp)).2.1) (Ne.symm (l TO (by simp)).2.1) (Ne.symm (l g (by simp)).2.1) (Ne.symm (l f (by simp)).2.1) p,r⟩
  refine(I.Jk c o q).K8 (λd v' M6 e=>t d v' ?_ e) (λd e=>e) λd M e=>e;rcases M6 with rfl |M6
  ·exact out _ _ q
  exact out _ _ M6
 self:=by
  intro A i s Q E st h;exact wpAny_pyIter_zip st.zip h
def h9:List D->List D->List D
 |d::ds,e::es => .tup [d,e]::h9 ds es
 |_,_=>[]
theorem cP:∀ ds es:List D,(h9 ds es).length=min ds.length es.length
 |[],es=>by simp[h9]
 |d::ds,[]=>by simp[h9]
 |d::ds,e::es=>by simp only[h9,length_cons,cP ds es];omega
theorem m_:∀ (ds es:List D) (i:Nat) {d e:D},ds[i]?=some d->es[i]?=some e->(h9 ds es)[i]?=some (.tup [d,e])
 |[],_,_,_,_,h,_=>by simp at h
 |_::_,[],_,_,_,_,h=>by simp at h
 |a::ds,b::es,0,d,e,h,g=>by
  have h:a=d:=by simpa using h
  have g:b=e:=by simpa using g
  subst h g;rfl
 |a::ds,b::es,i+1,d,e,h,g=>by
  rw[h9,getElem?_cons_succ];exact m_ ds es i (by simpa using h) (by simpa using g)
def BW:List D->Option (List D)
 |[x,y]=>(vG x).bind λa=>(vG y).map λb=>h9 a b
 |_=>none
section
variable {X:Cx}{W:WT}
theorem z9 {H:Hp}{J:List Addr}{d:D}{v:V}{xs:List D}(m:At X.K H J d v)(h:vG d=some xs):∃ (k:Bool) (a:Addr) (vs:List V),v = .ref a/\IT X.K H J xs vs/\vs.length<=sizeLine/\∀ c H',Ex J H c H'->OO k X.K H' a vs:=by
 cases d with
 |tup e=>cases h;obtain⟨a,vs,rfl,b,m⟩:=At.Jb.mp m;exact⟨true,a,vs,rfl,m,b.len,λc H' x=>(b.ex x).sq⟩
 |lst e=>cases h;obtain⟨a,vs,rfl,b,m⟩:=At.Jc.mp m;exact⟨false,a,vs,rfl,m,b.len,λc H' x=>(b.ex x).sq⟩
 |_=>cases h
theorem Walk.zip {j l:Bool}{a b:Addr}{ds es:List D}{xs ys:List V}{J:List Addr}{H:Hp}(m1:IT X.K H J ds xs)(m2:IT X.K H J es ys)(B:xs.length<=sizeLine)(f:∀ g H',Ex J H g H'->OO j X.K H' a xs)(h:∀ g H',Ex J H g H'->OO l X.K H' b ys) :
  Walk X (V7 X.K j l a b xs.length ys.length) (h9 ds es) J H where
 len:=by rw[cP,m1.length];omega
 go:=λm k i x c=>by
  rw[cP,m1.length,m2.length] at c;exact⟨by omega,by omega,xs,ys,f _ _ x,h _ _ x,rfl,rfl⟩
 Nz:=λm k i v H' x t c y=>by
  obtain⟨p,u,w,n,rfl,rfl,z,s⟩:=y;obtain⟨d,q,o⟩:=(m1.ex x).get' (z xs (f _ _ x));obtain⟨e,A,r⟩:=(m2.ex x).get' (s ys (h _ _ x));exact⟨.tup [d,e],m_ ds es i q A,At.KD (.cons o (.cons r .nil)) n t (by show 2<=sizeLine;decide),aN n _⟩
 stop:=λm k i x c=>by
  rw[cP,m1.length,m2.length] at c;exact⟨by omega,xs,ys,f _ _ x,h _ _ x,rfl,rfl⟩
theorem Qw {x a b:Nat}(c:x≠a)(d:x≠b):(x:Addr)∉([a,b]:List Addr):=λh=>by
 rcases mem_cons.mp h with e |h
 ·exact c e
 exact d (mem_singleton.mp h)
theorem FI (N A B:Nat)(a:A<N)(b:B<N):ZA (N+4) (N+2) (N+3) N (N+1) [N,A] [N+1,B]:=
 ⟨mem_cons_self ..,mem_cons_self ..,Qw (by omega) (by omega),Qw (by omega) (by omega),Qw (by omega) (by omega),Qw (by omega) (by omega),Qw (by omega) (by omega),Qw (by omega) (by omega),
  (by omega:(N+3:Nat)≠N+4),(by omega:(N+2:Nat)≠N+4),(by omega:(N+2:Nat)≠N+3),Qw (by omega) (by omega),Qw (by omega) (by omega)⟩
theorem He {N b:Nat}(h:(b:Addr)∈([N+4,N+2,N+3,N,N+1]:List Addr)):N<=b:=by simp only[mem_cons,not_mem_nil,or_false] at h;have h:b=N+4∨b=N+2∨b=N+3∨b=N∨b=N+1:=h;omega
theorem boot_zip:bootBuiltins "zip"=some (.type "zip"):=by decide
theorem D5 {es:List Expr}{k:Nat}{pt p pos:Pos}{a b:Expr}{t:IE (List D)}{x:Str}(hx:x="zip")(Z:X.mg x=none)(P:SA X W [a,b] t)(Q:Gl X x:=by rfl)
  (he:starEach (a::[b]) X.env=(false,eval a X.env)::starEach [b] X.env:=by rfl) (JQ:(backTo pos (starEach [b] X.env)).any (·.1)=false:=by rfl):SI X W (.Tuple es k pt) (.Call (.Name x p) [a,b] [] pos) (f7 BW t):=by
 subst hx;intro c s q H R I h;refine wpAny_Call_Name_kw (gH I Q Z boot_zip ?_ (by decide) (by decide));refine callWith_type1 (Jj (P pos c s q H _ I (iB h)) λus g M=>?_) he JQ;obtain⟨vs,i,d,r1,J,S,LU,ds,so,m,e,z⟩:=M;unfold BW at e;split at e
 ·rename_i dx dy;obtain⟨xs,G,T⟩:=bind_eq_some_iff.mp e;obtain⟨ys,O,V⟩:=map_eq_some_iff.mp T;subst V;obtain⟨v1,r,rfl,a1,n⟩:=IT.IQ.mp m;obtain⟨v2,r',rfl,a2,n⟩:=IT.IQ.mp n;cases IT.IV.mp n;obtain⟨o,j,v,rfl,m1,Zx,l⟩:=z9 a1 G;obtain⟨F,f,w,rfl,m2,Y,C⟩:=z9 a2 O;obtain⟨u1,u2,rfl,Zy,Zz⟩:=vals2 r1;cases Zy;cases Zz;obtain⟨ZC,L,B⟩:=d.Oi (l _ _ Ex.refl);obtain⟨Mu,rv2,y⟩:=d.Oi (C _ _ Ex.refl);have l1:=B.lt;have U:=y.lt;refine zB B y λh' A g2 g3 g4 g5 kp=>?_;have I2:Inv X c q i { g with heap:=h' }:=d.kept (t':=g.toks) kp;refine wpAny_pyIter_zip A ?_;generalize u:g.heap.objs.size=N at *
  refine⟨N+4,[N+4,N+2,N+3,N,N+1],_,V7 X.K o F j f v.length w.length,i,rfl,I2,zQ o F j f (N+4) (N+2) (N+3) N (N+1) v.length w.length ?_,⟨A,g2,⟨_,_,g3⟩,g4,g5,zero_le _,zero_le _⟩,λb hb=>?_,z i _ (I0.refl _) (Walk.zip m1 m2 Zx l C)⟩
  ·exact FI N j f l1 U
  have E:N<=b:=He hb;exact d.KY (by rw[u];exact E) (d.Jk.fresh (by rw[u];exact E))
 cases e
end
end L2
namespace L2
open PySem PyProof.Rows
abbrev De:Bool->Keyed->Array Keyed->Nat->Nat->Nat->StateT SortSt Sem (Option Nat):=sortPriv% PySem.Builtin.gallop
abbrev AY:Array Keyed->Array Keyed->StateT SortSt Sem (Array Keyed):=sortPriv% PySem.Builtin.mergeLo
abbrev mergeAt':Nat->StateT SortSt Sem Bool:=sortPriv% PySem.Builtin.mergeAt
def u_ (prog:Program)(w:World)(A:Around)(E:IG)(s:Shared)(kd:SortKind)(O:KeyOrd)(kf:Value->O.α)(G:Keyed->Prop):Prop:=
 ∀ x y:Keyed,G x->G y->∀ (st:SortSt) (Q:Option Bool->SortSt->Prop),kindOf st=kd->Q (some (O.blt (kf x.1) (kf y.1))) st->wpS (model prog w) A E s (lt' x y) Q st
section
variable {prog:Program}{w:World}{A:Around}{E:IG}{s:Shared}{kd:SortKind}{O:KeyOrd}{kf:Value->O.α}{G:Keyed->Prop}
theorem cB {arr:Array Keyed}{i:Nat}(h:i<arr.size){Q:Keyed->SortSt->Prop}{st:SortSt}(q:Q arr[i] st):wpS (model prog w) A E s (elem' arr i) Q st:=by rw[elem'_eq,getElem?_pos arr i h];exact wpS_pure q
def Qx (O:KeyOrd)(kf:Value->O.α)(left:Bool)(key x:Keyed):Bool:=if left then O.blt (kf x.1) (kf key.1) else !O.blt (kf key.1) (kf x.1)
theorem gL {e:Type}{b:Nat}{f:Nat->e->StateT SortSt Sem (ForInStep e)}{Q : e->SortSt->Prop}{c : e}{st:SortSt}(hb : 0<b)(h:wpS (model prog w) A E s (f 0 c) (λr a=>match r with | .done d=>Q d a | .yield _=>False) st):wpS (model prog w) A E s (forIn [0:b] c f) Q st:=by
 refine wpS_forRange (I:=λx d a=>x=0/\d=c/\a=st) (λi d a _ _ z=>?_) (λd a z=>?_) ⟨rfl,rfl,rfl⟩
 ·obtain⟨rfl,rfl,rfl⟩:=z
  exact wpS_mono h λr j q=>by
   cases r with
   |done g=>exact q
   |yield g=>exact q.elim
 have:=z.1;omega
theorem wP (L:u_ prog w A E s kd O kf G){left:Bool}{key:Keyed}{arr:Array Keyed}{base n a k:Nat}{st:SortSt}{Q:Option Nat->SortSt->Prop}(m:kindOf st=kd)(o:G key)(ga:∀ x∈arr.toList,G x)
  (hb:base+n<=arr.size) (t : 2<=n) (B:Nat->Bool) (r:∀ i (h:base+i<arr.size),i<n->B i=Qx O kf left key arr[base+i])
  (c:(a=0/\k=1/\B 0=true/\B 1=false)∨(a=n-1/\k=n-1/\B (n-1)=false/\B (n-2)=true))
  (h:Q (some k) st):wpS (model prog w) A E s (De left key arr base n a) Q st:=by
 have d:∀ i,i<n->∀ {b:Option Bool->SortSt->Prop},b (some (B i)) st->wpS (model prog w) A E s (do let x ← elem' arr (base+i);if left=true then lt' x key else return (← lt' key x).map (!·)) b st:=by
  intro i p b q;have g:base+i<arr.size:=by omega
  refine wpS_bind (cB g ?_);have l:G arr[base+i]:=ga _ (getElem_mem_toList g);have e:=r i g p;unfold Qx at e;cases left with
  |true =>
   rw[if_pos rfl];rw[if_pos rfl] at e;exact L _ _ l o st _ m (by rw[← e];exact q)
  |false =>
   rw[if_neg (by decide)];rw[if_neg (by decide)] at e;refine wpS_bind (L _ _ o l st _ m (wpS_pure ?_));show b (some (!O.blt (kf key.1) (kf arr[base+i].1))) st;rw[← e];exact q
 rcases c with ⟨rfl,rfl,j,f⟩ |⟨rfl,rfl,j,f⟩
 ·refine wpS_bind (d 0 (by omega) ?_);rw[j];dsimp only;rw[if_pos rfl];refine wpS_bind (gL (by omega) ?_);dsimp only;rw[if_neg (by omega)];refine wpS_bind (d (0+1) (by omega) ?_);rw[show 0+1=1 from rfl,f];refine wpS_pure ?_;dsimp only;refine wpS_bind (gL (by omega) ?_);dsimp only;rw[if_pos (by omega)];refine wpS_pure (wpS_pure ?_);rw[show 0+min 1 (n-0)=1 by omega];exact h
 refine wpS_bind (d (n-1) (by omega) ?_);rw[j];dsimp only;rw[if_neg (by decide)];refine wpS_bind (gL (by omega) ?_);dsimp only;rw[if_neg (by omega)];refine wpS_bind (d (n-1-1) (by omega) ?_);rw[show n-1-1=n-2 from by omega,f];refine wpS_pure ?_;dsimp only;refine wpS_bind (gL (by omega) ?_);dsimp only;rw[if_pos (by omega)];exact wpS_pure (wpS_pure h)
end
section
variable {O:KeyOrd}{kf:Value->O.α}
def K1 (O:KeyOrd)(kf:Value->O.α)(x y:Keyed):Prop:=O.kle (kf x.1) (kf y.1)
theorem i_ {x y z:Keyed}(h:K1 O kf x y)(g:K1 O kf y z):K1 O kf x z:=KeyOrd.kle_trans h g
structure Mg (O:KeyOrd) (kf:Value->O.α) (T out A B:List Keyed):Prop where
 perm:(out++(A++B)).Perm T
 so:out.Pairwise (K1 O kf)
 sa:A.Pairwise (K1 O kf)
 sb:B.Pairwise (K1 O kf)
 low:∀ x∈out,∀ y∈A++B,K1 O kf x y
def Res (O:KeyOrd)(kf:Value->O.α)(T r:List Keyed):Prop:=r.Perm T/\r.Pairwise (K1 O kf)
theorem Mg.TN {T out p A B:List Keyed}(h:Mg O kf T out (p++A) B)(l:∀ x∈p,∀ y∈B,K1 O kf x y):Mg O kf T (out++p) A B:=by
 have sa:=pairwise_append.mp h.sa;refine⟨by have:=h.perm;simpa [List.append_assoc] using this,pairwise_append.mpr ⟨h.so,sa.1,λx hx y hy=>h.low x hx y (by simp[hy])⟩,sa.2.1,h.sb,λx hx y hy=>?_⟩;rcases mem_append.mp hx with hx |hx
 ·exact h.low x hx y (by
   rcases mem_append.mp hy with hy |hy
   ·simp[hy]
   simp[hy])
 rcases mem_append.mp hy with hy |hy
 ·exact sa.2.2 x hx y hy
 exact l x hx y hy
theorem Mg.TR {T out p A B:List Keyed}(h:Mg O kf T out A (p++B))(l:∀ x∈p,∀ y∈A,K1 O kf x y):Mg O kf T (out++p) A B:=by
 have sb:=pairwise_append.mp h.sb;refine⟨?_,pairwise_append.mpr ⟨h.so,sb.1,λx hx y hy=>h.low x hx y (by simp[hy])⟩,h.sa,sb.2.1,λx hx y hy=>?_⟩
 ·refine List.Perm.trans ?_ h.perm;rw[List.append_assoc];refine List.Perm.append_left out ?_;rw[← List.append_assoc,← List.append_assoc];exact List.Perm.append_right B List.perm_append_comm
 rcases mem_append.mp hx with hx |hx
 ·exact h.low x hx y (by
   rcases mem_append.mp hy with hy |hy
   ·simp[hy]
   simp[hy])
 rcases mem_append.mp hy with hy |hy
 ·exact l x hx y hy
 exact sb.2.2 x hx y hy
theorem Mg.last {T out B:List Keyed}{z:Keyed}(h:Mg O kf T out [z] B)(l:∀ y∈B,K1 O kf y z):Res O kf T (out++B++[z]):=by
 refine⟨?_,pairwise_append.mpr ⟨pairwise_append.mpr ⟨h.so,h.sb,λx hx y a=>h.low x hx y (by simp[a])⟩,List.pairwise_singleton _ _,λx hx y a=>?_⟩⟩
 ·refine List.Perm.trans ?_ h.perm;rw[List.append_assoc];exact List.Perm.append_left out List.perm_append_comm
 have b:y=z:=by simpa using a
 subst b;rcases mem_append.mp hx with hx |hx
 ·exact h.low x hx y (by simp)
 exact l x hx
theorem drop_cons {a:Array Keyed}{i:Nat}(h:i<a.size):a.toList.drop i=a[i]::a.toList.drop (i+1):=by rw[drop_eq_getElem_cons (by simpa using h)];simp
theorem mE {a:Array Keyed}(i:Nat):(a.extract i).toList=a.toList.drop i:=by rw[toList_extract,List.extract_eq_drop_take];exact take_of_length_le (by simp)
theorem xn {l:List Keyed}{x y:Keyed}(a:(y::l).Pairwise (K1 O kf))(h:K1 O kf x y):∀ z∈y::l,K1 O kf x z:=by
 intro z hz;rcases mem_cons.mp hz with e |hz
 ·rw[e];exact h
 exact i_ h ((pairwise_cons.mp a).1 z hz)
end
structure XC (st IW:SortSt):Prop where
 kind:kindOf IW=kindOf st
 arr:arrOf IW=arrOf st
 pend:pendingOf IW=pendingOf st
 fail:failedOf IW=failedOf st
section
variable {prog:Program}{w:World}{A:Around}{E:IG}{s:Shared}{kd:SortKind}{O:KeyOrd}{kf:Value->O.α}{G:Keyed->Prop}
theorem sJ (L:u_ prog w A E s kd O kf G){a b:Array Keyed}{st:SortSt}{Q:Array Keyed->SortSt->Prop}(W:kindOf st=kd)(ga:∀ x∈a.toList,G x)(gb:∀ x∈b.toList,G x)(hn:b.size=a.size)(t : 2<=a.size)
  (sa:a.toList.Pairwise (K1 O kf)) (sb:b.toList.Pairwise (K1 O kf)) (J:∀ i (h:i<a.size),O.blt (kf (b[i]'(by omega)).1) (kf a[i].1)=true) (U:∀ i (h:i+1<a.size),O.blt (kf (b[i+1]'(by omega)).1) (kf a[i].1)=false) (hg : 2<=gallopOf st)
  (h:∀ r,Res O kf (a.toList++b.toList) r.toList->Q r st):wpS (model prog w) A E s (AY a b) Q st:=by
 have P : 0<a.size:=by omega
 have hb : 0<b.size:=by omega
 let T:=a.toList++b.toList;let I:Array Keyed->Nat->Nat->Prop:=λout d f=>Mg O kf T out.toList (a.toList.drop d) (b.toList.drop f);have X:∀ i (n:i<a.size),G a[i]:=λi n=>ga _ (getElem_mem_toList n);have Y:∀ i (n:i<b.size),G b[i]:=λi n=>gb _ (getElem_mem_toList n)
 have V:∀ i j (n:i<a.size) (D:j<a.size),i<=j->K1 O kf a[i] a[j]:=by
  intro i j n D OJ;rcases lt_or_ge i j with JL |Qm
  ·have:=pairwise_iff_getElem.mp sa i j (by simpa using n) (by simpa using D) JL;simpa using this
  have e:i=j:=by omega
  subst e;exact KeyOrd.kle_refl _
 have first:K1 O kf b[0] a[0]:=KeyOrd.kle_of_klt (J 0 P)
 have last:∀ y∈b.toList,K1 O kf y a[a.size-1]:=λy l=>by
  obtain⟨j,D,rfl⟩:=getElem_of_mem l;have K:j<a.size:=by rw[← hn];simpa using D
  have:=i_ (KeyOrd.kle_of_klt (J j K)) (V j (a.size-1) K (by omega) (by omega));simpa using this
 have TU:∀ {out:Array Keyed}{d f:Nat},I out d f->d+1=a.size->Res O kf T (out++b.extract f++a.extract d).toList:=by
  intro out d f g e;have g:Mg O kf T out.toList (a.toList.drop d) (b.toList.drop f):=g;have M:a.toList.drop d=[a[a.size-1]]:=by rw[drop_cons (by omega),drop_eq_nil_of_le (by simp[e])];congr 2;omega
  rw[toList_append,toList_append,mE,mE,M];rw[M] at g;exact g.last λy l=>last y (List.mem_of_mem_drop l)
 have S:∀ {out:Array Keyed}{d f:Nat}(m:d<a.size) (t:f<b.size),I out d f->K1 O kf b[f] a[d]->I (out.push b[f]) d (f+1):=by
  intro out d f m t g H;have g:Mg O kf T out.toList (a.toList.drop d) (b.toList.drop f):=g;have z:=g;rw[drop_cons t] at g;show Mg O kf T (out.push b[f]).toList _ _;rw[toList_push];refine Mg.TR (p:=[b[f]]) g λx v y l=>?_;have ex:x=b[f]:=by simpa using v
  subst ex;have N:=z.sa;rw[drop_cons m] at N l;exact xn N H y l
 have TX:∀ {out:Array Keyed}{d f:Nat}(m:d<a.size) (t:f<b.size),I out d f->K1 O kf a[d] b[f]->I (out.push a[d]) (d+1) f:=by
  intro out d f m t g H;have g:Mg O kf T out.toList (a.toList.drop d) (b.toList.drop f):=g;have z:=g;rw[drop_cons m] at g;show Mg O kf T (out.push a[d]).toList _ _;rw[toList_push];refine Mg.TN (p:=[a[d]]) g λx v y l=>?_;have ex:x=a[d]:=by simpa using v
  subst ex;have R:=z.sb;rw[drop_cons t] at R l;exact xn R H y l
 have start:I #[b[0]] 0 1:=by
  have g:Mg O kf T [] a.toList b.toList:=⟨by simp[T],List.Pairwise.nil,sa,sb,λx v=>by simp at v⟩;have z:I #[] 0 0:=by show Mg O kf T [] (a.toList.drop 0) (b.toList.drop 0);simpa using g
  exact S P hb z first
 refine wpS_bind (wpS_lift (wpAny_rule ⟨rfl,?_⟩));refine wpS_bind (cB hb ?_);dsimp only;rw[if_neg (by simp;omega),if_neg (by simp;omega)];refine wpS_bind (wpS_get ?_);refine wpS_bind (wpS_mono (Q:=λc k=>k=st/\∃ r rest,c=(some r,rest)/\Res O kf T r.toList) (gL (by omega) ?_) ?post)
 case post =>
  rintro c k ⟨rfl,r,rest,rfl,hr⟩;exact wpS_pure (h r hr)
 dsimp only
 refine wpS_bind (wpS_mono (wpS_forRange (I:=λy c k=>k=st/\∃ out d f C F,c=(none,out,d,f,C,F)/\I out d f/\d+1<a.size/\f<b.size/\d+f=y+1/\(f=d+1/\C=0∨f=d/\F=0))
  (Q:=λc k=>k=st/\∃ r rest,c=(some r,rest)/\Res O kf T r.toList) ?step ?fin ⟨rfl,_,_,_,_,_,rfl,start,by omega,by omega,rfl,.inl ⟨rfl,rfl⟩⟩) ?post1)
 case post1 =>
  rintro c k ⟨rfl,r,rest,rfl,hr⟩;exact wpS_pure ⟨rfl,r,_,rfl,hr⟩
 case fin =>
  rintro c k ⟨rfl,out,d,f,C,F,rfl,g,m,o,h4,_⟩;omega
 case step =>
  rintro y c k _ l ⟨rfl,out,d,f,C,F,rfl,g,m,o,h4,Z⟩;dsimp only;have u:d<a.size:=by omega
  refine wpS_bind (cB o (wpS_bind (cB u (wpS_bind (L _ _ (Y _ o) (X _ u) k _ W ?_)))));dsimp only;rcases Z with ⟨rfl,rfl⟩ |⟨rfl,rfl⟩
  ·have e:=U d (by omega);rw[e,if_neg (by decide)];refine wpS_bind (cB u ?_);have B:=TX u o g (show O.kle _ _ from e)
   try dsimp only
   by_cases q:(d+1+1==a.size)=true
   ·rw[if_pos q];exact wpS_pure ⟨rfl,_,_,rfl,TU B (by simpa using q)⟩
   rw[if_neg q];have e3':d+1+1≠a.size:=by simpa using q
   rw[if_neg (show ¬ (0+1≥gallopOf k) by omega)];exact wpS_pure ⟨rfl,_,_,_,_,_,rfl,B,by omega,o,by omega,.inr ⟨rfl,rfl⟩⟩
  have e:=J f u;rw[e,if_pos rfl];refine wpS_bind (cB o ?_);have B:=S u o g (KeyOrd.kle_of_klt e)
  try dsimp only
  have q:¬ (f+1==b.size)=true:=by simp;omega
  rw[if_neg q,if_neg (show ¬ (0+1≥gallopOf k) by omega)];exact wpS_pure ⟨rfl,_,_,_,_,_,rfl,B,m,by omega,by omega,.inl ⟨rfl,rfl⟩⟩
end
abbrev zw:Nat->Nat->StateT SortSt Sem (Option Nat):=sortPriv% PySem.Builtin.countRun
abbrev uU:Nat->Nat->Nat->StateT SortSt Sem Bool:=sortPriv% PySem.Builtin.binarySort
section
variable {prog:Program}{w:World}{A:Around}{E:IG}{s:Shared}{kd:SortKind}{O:KeyOrd}{kf:Value->O.α}{G:Keyed->Prop}
def KX (kf:Value->O.α)(xs:Array Keyed)(i:Nat):O.α:=match xs[i]? with
 |some p=>kf p.1
 |none=>kf .none
theorem xU {xs ys:Array Keyed}{i j:Nat}(h:xs[i]?=ys[j]?):KX kf xs i=KX kf ys j:=by unfold KX;rw[h]
theorem mI {xs:Array Keyed}{i:Nat}(h:i<xs.size):KX kf xs i=kf xs[i].1:=by unfold KX;rw[getElem?_pos xs i h]
structure Sg (G:Keyed->Prop) (kd:SortKind) (lo hi:Nat) (st IW:SortSt):Prop where
 kind:kindOf IW=kd
 good:∀ x∈(arrOf IW).toList,G x
 perm:(arrOf IW).Perm (arrOf st)
 pend:pendingOf IW=pendingOf st
 fail:failedOf IW=failedOf st
 RZ:gallopOf IW=gallopOf st
 same:∀ k,(k<lo∨hi<=k)->(arrOf IW)[k]?=(arrOf st)[k]?
theorem Sg.size {lo b:Nat}{st a:SortSt}(h:Sg G kd lo b st a):(arrOf a).size=(arrOf st).size:=h.perm.size_eq
theorem Sg.set {lo b:Nat}{st a:SortSt}(h:Sg G kd lo b st a){ys:Array Keyed}(d:ys.Perm (arrOf a))(f:∀ k,(k<lo∨b<=k)->ys[k]?=(arrOf a)[k]?):Sg G kd lo b st (setArr a ys):=
 ⟨h.kind,λx e=>h.good x ((perm_iff_toList_perm.mp d).mem_iff.mp e),d.trans h.perm,h.pend,h.fail,h.RZ,λk c=>(f k c).trans (h.same k c)⟩
theorem kU (L:u_ prog w A E s kd O kf G){lo d:Nat}{st0 st:SortSt}(a:Sg G kd lo d st0 st){i j:Nat}(d:i<(arrOf st0).size)(e:j<(arrOf st0).size){Q:Option Bool->SortSt->Prop}
  (q:Q (some (O.blt (KX kf (arrOf st) i) (KX kf (arrOf st) j))) st):wpS (model prog w) A E s (ltAt' i j) Q st:=by
 have c:i<(arrOf st).size:=by rw[a.size];exact d
 have b:j<(arrOf st).size:=by rw[a.size];exact e
 rw[mI c,mI b] at q;rw[ltAt'_eq];refine wpS_bind (wpS_get (wpS_bind (cB c (wpS_bind (cB b ?_)))));exact L _ _ (a.good _ (getElem_mem_toList c)) (a.good _ (getElem_mem_toList b)) st _ a.kind q
theorem BY {i j:Nat}{st:SortSt}{Q:Unit->SortSt->Prop}(q:Q () (setArr st (bubble (arrOf st) i (i-j)))):wpS (model prog w) A E s (moveDown' i j) Q st:=by rw[moveDown'_eq];exact wpS_modify q
def Oj (kf:Value->O.α)(xs:Array Keyed)(lo a:Nat):Prop:=∀ i j,lo<=i->i<=j->j<a->O.kle (KX kf xs i) (KX kf xs j)
theorem nk (L:u_ prog w A E s kd O kf G){lo b:Nat}{st:SortSt}{Q:Option Nat->SortSt->Prop}(g:kindOf st=kd)(i:∀ x∈(arrOf st).toList,G x)(m:lo+b<=(arrOf st).size)(l : 2<=b)
  (u:O.blt (KX kf (arrOf st) lo) (KX kf (arrOf st) (lo+1))=true) (d:b=2∨O.blt (KX kf (arrOf st) (lo+2)) (KX kf (arrOf st) (lo+1))=true) (h:Q (some 2) st):wpS (model prog w) A E s (zw lo b) Q st:=by
 have e:Sg G kd lo lo st st:=⟨g,i,Array.Perm.refl _,rfl,rfl,rfl,λ_ _=>rfl⟩;refine wpS_bind (wpS_mono (wpS_forRange (I:=λx c a=>a=st/\c=(none,x)/\x<=2) (Q:=λc a=>a=st/\c=(none,2)) ?s1 ?f1 ⟨rfl,rfl,by omega⟩) ?p1)
 case s1 =>
  rintro x c a j k ⟨rfl,rfl,f⟩
  try dsimp only
  refine wpS_bind (kU L e (by omega) (by omega) ?_);have:x=1∨x=2:=by omega
  rcases this with rfl |rfl
  ·rw[show lo+1-1=lo by omega,show O.blt (KX kf (arrOf a) (lo+1)) (KX kf (arrOf a) lo)=false from KeyOrd.klt_asymm u];exact wpS_pure ⟨rfl,rfl,by omega⟩
  rw[show lo+2-1=lo+1 by omega,d.resolve_left (by omega)];exact wpS_pure ⟨rfl,rfl⟩
 case f1 =>
  rintro c a ⟨rfl,rfl,f⟩;exact⟨rfl,by rw[show max 1 b=2 by omega]⟩
 case p1 =>
  rintro c a ⟨rfl,rfl⟩
  try dsimp only
  split
  ·exact wpS_pure h
  rw[if_pos (by decide)];refine wpS_bind (kU L e (by omega) (by omega) ?_);rw[show lo+2-1=lo+1 by omega,u];exact wpS_pure h
theorem BR {xs:Array Keyed}{a d:Nat}(f:a<xs.size)(hd:d<=a)(k:Nat):KX kf (bubble xs a d) k=if k=a-d then KX kf xs a else if a-d<k/\k<=a then KX kf xs (k-1) else KX kf xs k:=by
 have e:=getElem?_bubble f d hd k;split
 ·rename_i b;rw[if_pos b] at e;exact xU e
 rename_i b;rw[if_neg b] at e;split
 ·rename_i c;rw[if_pos c] at e;exact xU e
 rename_i c;rw[if_neg c] at e;exact xU e
theorem ij (L:u_ prog w A E s kd O kf G){lo n ok:Nat}{st0 st:SortSt}{Q:Bool->SortSt->Prop}(F:Sg G kd lo (lo+n) st0 st)(H:lo+n<=(arrOf st0).size)(Jk:ok<=n)(J:Oj kf (arrOf st) lo (lo+ok))
  (h:∀ d,Sg G kd lo (lo+n) st0 d->Oj kf (arrOf d) lo (lo+n)->Q true d):wpS (model prog w) A E s (uU lo n ok) Q st:=by
 refine wpS_bind (wpS_mono (wpS_forRange (I:=λk c d=>c=(none,())/\Sg G kd lo (lo+n) st0 d/\Oj kf (arrOf d) lo (lo+min k n)) (Q:=λc d=>c=(none,())/\Sg G kd lo (lo+n) st0 d/\Oj kf (arrOf d) lo (lo+n)) ?s1 ?f1 ⟨rfl,F,λi j v y D=>?i1⟩) ?p1)
 case i1 =>
  by_cases e:j<lo+ok
  ·exact J i j v y e
  have:i=j:=by omega
  subst this;exact KeyOrd.kle_refl _
 case f1 =>
  rintro c d ⟨hc,o,m⟩;refine⟨hc,o,?_⟩;rwa [show min (max (max ok 1) n) n=n by omega] at m
 case p1 =>
  rintro c d ⟨rfl,o,m⟩;exact wpS_pure (h d o m)
 case s1 =>
  rintro k c d B C ⟨rfl,o,m⟩;rw[show min k n=k by omega] at m
  try dsimp only
  refine wpS_bind (wpS_mono (wpS_forRange (I:=λx c f=>f=d/\∃ l r,c=(none,l,r)/\l<=r/\r<=k/\r-l<=k-x/\(∀ i,i<l->O.kle (KX kf (arrOf d) (lo+i)) (KX kf (arrOf d) (lo+k)))/\∀ i,r<=i->i<k->O.klt (KX kf (arrOf d) (lo+k)) (KX kf (arrOf d) (lo+i)))
   (Q:=λc f=>f=d/\∃ l r,c=(none,l,r)/\l<=k/\(∀ i,i<l->O.kle (KX kf (arrOf d) (lo+i)) (KX kf (arrOf d) (lo+k)))/\∀ i,l<=i->i<k->O.klt (KX kf (arrOf d) (lo+k)) (KX kf (arrOf d) (lo+i))) ?s2 ?f2 ⟨rfl,0,k,rfl,by omega,by omega,by omega,λi R=>by omega,λi a b=>by omega⟩) ?p2)
  case f2 =>
   rintro c f ⟨rfl,l,r,rfl,v,y,D,p,t⟩;exact⟨rfl,l,r,rfl,by omega,p,λi z u=>t i (by omega) u⟩
  case s2 =>
   rintro x c f _ N ⟨rfl,l,r,rfl,v,y,D,p,t⟩
   try dsimp only
   by_cases e:l≥r
   ·rw[if_pos e];exact wpS_pure ⟨rfl,l,r,rfl,by omega,p,λi z u=>t i (by omega) u⟩
   rw[if_neg e];refine wpS_bind (kU L o (by omega) (by omega) ?_);clear H Jk B C;have m1:l<=(l+r) / 2:=by omega
   have m2:(l+r) / 2<r:=by omega
   generalize (l+r) / 2=md at *
   cases hb:O.blt (KX kf (arrOf f) (lo+k)) (KX kf (arrOf f) (lo+md)) with
   |true=>exact wpS_pure ⟨rfl,l,md,rfl,m1,by omega,by omega,p,λi z u=>KeyOrd.klt_of_klt_of_kle hb (m _ _ (by omega) (by omega) (by omega))⟩
   |false=>exact wpS_pure ⟨rfl,md+1,r,rfl,m2,y,by omega,λi z=>KeyOrd.kle_trans (m _ _ (by omega) (by omega) (by omega)) (show O.kle _ _ from hb),t⟩
  case p2 =>
   rintro c f ⟨rfl,l,r,rfl,v,p,t⟩
   try dsimp only
   have g:lo+k<(arrOf f).size:=by rw[o.size];omega
   refine wpS_bind (BY (wpS_pure ⟨rfl,o.set (bubble_perm _ _ _) (λq hq=>?_),?_⟩))
   ·rw[getElem?_bubble g _ (by omega),if_neg (by rcases hq with hq |hq<;>omega),if_neg (by rcases hq with hq |hq<;>omega)]
   rw[show min (k+1) n=k+1 by omega];intro i j z u P;show O.kle (KX kf (bubble (arrOf f) (lo+k) (lo+k-(lo+l))) i) (KX kf (bubble (arrOf f) (lo+k) (lo+k-(lo+l))) j);rw[BR g (by omega),BR g (by omega),show lo+k-(lo+k-(lo+l))=lo+l by omega];have up:∀ q,lo<=q->q<lo+l->O.kle (KX kf (arrOf f) q) (KX kf (arrOf f) (lo+k)):=λq M K=>by have:=p (q-lo) (by omega);rwa [show lo+(q-lo)=q by omega] at this
   have dn:∀ q,lo+l<=q->q<lo+k->O.klt (KX kf (arrOf f) (lo+k)) (KX kf (arrOf f) q):=λq M K=>by have:=t (q-lo) (by omega) (by omega);rwa [show lo+(q-lo)=q by omega] at this
   clear H Jk B C g p t F o J h
   repeat' split
   all_goals first
    |(exfalso;omega)
    |exact KeyOrd.kle_refl _
    |exact up _ (by omega) (by omega)
    |exact KeyOrd.kle_of_klt (dn _ (by omega) (by omega))
    |exact m _ _ (by omega) (by omega) (by omega)
theorem writes:∀ (m:List Keyed) (xs:Array Keyed) (b o:Nat),b+o+m.length<=xs.size->((m.zipIdx o).foldl (λa (c:Keyed×Nat)=>a.setIfInBounds (b+c.2) c.1) xs).toList=xs.toList.take (b+o)++(m++xs.toList.drop (b+o+m.length))
 |[],xs,b,o,h=>by simp
 |p::m,xs,b,o,h=>by
  rw[length_cons] at h;have e:=writes m (xs.setIfInBounds (b+o) p) b (o+1) (by rw[Array.size_setIfInBounds];omega);rw[zipIdx_cons,foldl_cons];show ((m.zipIdx (o+1)).foldl _ (xs.setIfInBounds (b+o) p)).toList=_;rw[e,Array.toList_setIfInBounds,← add_assoc,length_cons];have d:(xs.toList.set (b+o) p).take (b+o+1)=xs.toList.take (b+o)++[p]:=by rw[List.take_succ,List.take_set_of_le (le_refl _),getElem?_set_self (by simpa using (by omega:b+o<xs.size))];rfl
  have f:(xs.toList.set (b+o) p).drop (b+o+1+m.length)=xs.toList.drop (b+o+(m.length+1)):=by rw[List.drop_set_of_lt (by omega)];congr 1;omega
  rw[d,f];simp
end
section
variable {prog:Program}{w:World}{A:Around}{E:IG}{s:Shared}{kd:SortKind}{O:KeyOrd}{kf:Value->O.α}{G:Keyed->Prop}
theorem BX {st a:SortSt}{Q:PUnit->SortSt->Prop}(q:Q ⟨⟩ a):wpS (model prog w) A E s (set a:StateT SortSt Sem PUnit) Q st:=by unfold wpS;rw[StateT.run_set];exact wpAny_pure ⟨rfl,q⟩
theorem sK (L:u_ prog w A E s kd O kf G){st:SortSt}{f k:Nat}{X Y:List Keyed}{Q:Bool->SortSt->Prop}(C:kindOf st=kd)(g:∀ x∈(arrOf st).toList,G x)(W:failedOf st=none)(O_ : 2<=gallopOf st)
  (p:pendingOf st = #[(0,32,f),(32,32,k)]) (e:(arrOf st).toList=X++Y) (d:X.length=32) (H:Y.length=32) (I:X.Pairwise (K1 O kf)) (J:Y.Pairwise (K1 O kf))
  (m:∀ i (h:i<32),O.blt (kf (X[i]'(by omega)).1) (kf (Y[i]'(by omega)).1)=true) (K:∀ i (h:i+1<32),O.blt (kf (Y[i]'(by omega)).1) (kf (X[i+1]'(by omega)).1)=true)
  (h:∀ o,failedOf o=none->(pendingOf o).size=1->Res O kf (X++Y) (arrOf o).toList->Q true o) :
  wpS (model prog w) A E s (mergeAt' 0) Q st:=by
 have F:(arrOf st).size=32+32:=by have:=congrArg List.length e;simpa [d,H] using this
 have T:∀ j (S:j<(arrOf st).size),(arrOf st)[j]=(X++Y)[j]'(by rw[List.length_append];omega):=λj S=>by
  have h2:(arrOf st)[j]=(arrOf st).toList[j]'(by simpa using S):=by simp
  rw[h2];congr 1
 have y:∀ j (c:j<32),(arrOf st)[j]'(by omega)=X[j]'(by omega):=λj c=>by rw[T,List.getElem_append_left]
 have t:∀ j (c:j<32),(arrOf st)[32+j]'(by omega)=Y[j]'(by omega):=λj c=>by rw[T,List.getElem_append_right (by omega)];congr 1;omega
 have gd:∀ j (c:j<(arrOf st).size),G (arrOf st)[j]:=λj c=>g _ (getElem_mem_toList c);refine wpS_bind (wpS_get ?_);rw[show (sortPriv% PySem.Builtin.SortState.pending) st=pendingOf st from rfl,p,show (#[(0,32,f),(32,32,k)]:Array (Nat×Nat×Nat))[0]?=some (0,32,f) from rfl,show (#[(0,32,f),(32,32,k)]:Array (Nat×Nat×Nat))[0+1]?=some (32,32,k) from rfl];dsimp only;refine wpS_bind (BX ?_);refine wpS_bind (cB (show 32<(arrOf st).size by omega) ?_);have y0:(arrOf st)[32]'(by omega)=Y[0]'(by omega):=t 0 (by omega);refine wpS_bind (wP L (by exact C) (gd 32 (by omega)) g (by show 0+32<=(arrOf st).size;omega) (by omega) (λj=>if c : 0+j<(arrOf st).size then Qx O kf false ((arrOf st)[32]'(by omega)) (arrOf st)[0+j] else false) (λj c _=>by rw[dif_pos c]) (.inl ⟨rfl,rfl,?_,?_⟩) ?_)
 ·rw[dif_pos (by omega),y0];unfold Qx;rw[if_neg (by decide)];have:=KeyOrd.klt_asymm (m 0 (by omega));rw[show (arrOf st)[0+0]'(by omega)=X[0]'(by omega) from y 0 (by omega)];rw[show O.blt (kf (Y[0]'(by omega)).1) (kf (X[0]'(by omega)).1)=false from this];rfl
 ·rw[dif_pos (by omega),y0];unfold Qx;rw[if_neg (by decide)];simp only[zero_add];rw[show (arrOf st)[1]'(by omega)=X[1]'(by omega) from y 1 (by omega),show O.blt (kf (Y[0]'(by omega)).1) (kf (X[1]'(by omega)).1)=true from K 0 (by omega)];rfl
 try dsimp only
 rw[if_neg (by simp)];refine wpS_bind (cB (show 0+1+(32-1)-1<(arrOf st).size by omega) ?_);have V:(arrOf st)[0+1+(32-1)-1]'(by omega)=X[32-1]'(by omega):=by have:=y (32-1) (by omega);rw[← this]
 refine wpS_bind (wP L (by exact C) (gd _ (by omega)) g (by show 32+32<=(arrOf st).size;omega) (by omega) (λj=>if c : 32+j<(arrOf st).size then Qx O kf true ((arrOf st)[0+1+(32-1)-1]'(by omega)) (arrOf st)[32+j] else false) (λj c _=>by rw[dif_pos c]) (.inr ⟨rfl,rfl,?_,?_⟩) ?_)
 ·rw[dif_pos (by omega),V];unfold Qx;rw[if_pos rfl,t (32-1) (by omega)];exact KeyOrd.klt_asymm (m (32-1) (by omega))
 ·rw[dif_pos (by omega),V];unfold Qx;rw[if_pos rfl,t (32-2) (by omega)];have:=K (32-2) (by omega);simp only[show 32-2+1=32-1 by omega] at this;exact this
 try dsimp only
 rw[if_neg (by simp),if_pos (by omega)];have ex:((arrOf st).extract (0+1) 32).toList=X.drop 1:=by rw[toList_extract,List.extract_eq_drop_take,e,List.drop_append_of_le_length (by omega),List.take_append_of_le_length (by rw[length_drop];omega)];exact take_of_length_le (by rw[length_drop];omega)
 have B:((arrOf st).extract 32 (32+(32-1))).toList=Y.take (32-1):=by rw[toList_extract,List.extract_eq_drop_take,e,List.drop_append,drop_eq_nil_of_le (by omega),nil_append,d,sub_self,drop_zero,Nat.add_sub_cancel_left]
 have lx:((arrOf st).extract (0+1) 32).size=32-1:=by rw[← length_toList,ex,length_drop,d]
 have ly:((arrOf st).extract 32 (32+(32-1))).size=32-1:=by rw[← length_toList,B,length_take,H];omega
 have P:∀ i (n:i<32-1),((arrOf st).extract (0+1) 32)[i]'(by omega)=X[i+1]'(by omega):=λi n=>by rw[Array.getElem_extract,← y (i+1) (by omega)];congr 1;omega
 have U:∀ i (n:i<32-1),((arrOf st).extract 32 (32+(32-1)))[i]'(by omega)=Y[i]'(by omega):=λi n=>by rw[Array.getElem_extract];exact t i (by omega)
 refine wpS_bind (sJ (a:=(arrOf st).extract (0+1) 32) (b:=(arrOf st).extract 32 (32+(32-1))) L (by exact C) (λz hz=>by rw[ex] at hz;exact g z (by rw[e];simp[List.mem_of_mem_drop hz])) (λz hz=>by rw[B] at hz;exact g z (by rw[e];simp[mem_of_mem_take hz])) (by omega) (by omega)
  (by rw[ex];exact I.sublist (List.drop_sublist _ _)) (by rw[B];exact J.sublist (List.take_sublist _ _)) (λi n=>by rw[P i (by omega),U i (by omega)];exact K i (by omega)) (λi n=>by rw[P i (by omega),U (i+1) (by omega)];exact KeyOrd.klt_asymm (m (i+1) (by omega))) (by exact O_) λr hr=>?_)
 refine wpS_bind (wpS_modify (wpS_bind (wpS_get (wpS_pure ?_))));rw[ex,B] at hr;have R:r.toList.length=(32-1)+(32-1):=by rw[hr.1.length_eq,List.length_append,length_drop,length_take,d,H];omega
 have N:=writes r.toList (arrOf st) (0+1) 0 (by rw[R,F];omega);have e1:(arrOf st).toList.take (0+1)=X.take 1:=by rw[e,List.take_append_of_le_length (by omega)]
 have e2:(arrOf st).toList.drop (0+1+((32-1)+(32-1)))=Y.drop (32-1):=by rw[e,List.drop_append,drop_eq_nil_of_le (by omega),nil_append,d]
 rw[Nat.add_zero,R,e1,e2] at N;show Q (failedOf st).isNone _;rw[W];have VP:(((#[(0,32,f),(32,32,k)]:Array (Nat×Nat×Nat)).setIfInBounds 0 (0,32+32,f)).eraseIdxIfInBounds (0+1)).size=1:=by rw[← length_toList,Array.toList_eraseIdxIfInBounds,Array.toList_setIfInBounds];rfl
 refine h _ W VP ?_;show Res O kf (X++Y) (List.foldl (λa (x:Keyed×Nat)=>a.setIfInBounds (0+1+x.2) x.1) (arrOf st) r.toList.zipIdx).toList;rw[N]
 have q:∀ {Z:List Keyed},Z.Pairwise (K1 O kf)->∀ a b (ha:a<Z.length) (hb:b<Z.length),a<=b->K1 O kf Z[a] Z[b]:=by
  intro Z sZ a b ha hb Xd;rcases lt_or_ge a b with JL |Qm
  ·exact pairwise_iff_getElem.mp sZ a b ha hb JL
  have e:a=b:=by omega
  subst e;exact KeyOrd.kle_refl _
 have D:∀ z∈X++Y,K1 O kf (X[0]'(by omega)) z/\K1 O kf z (Y[32-1]'(by omega)):=λz hz=>by
  rcases mem_append.mp hz with hz |hz
  ·obtain⟨j,c,rfl⟩:=getElem_of_mem hz;exact⟨q I 0 j (by omega) c (zero_le _),i_ (q I j (32-1) c (by omega) (by omega)) (KeyOrd.kle_of_klt (m (32-1) (by omega)))⟩
  obtain⟨j,c,rfl⟩:=getElem_of_mem hz;exact⟨i_ (KeyOrd.kle_of_klt (m 0 (by omega))) (q J 0 j (by omega) c (zero_le _)),q J j (32-1) c (by omega) (by omega)⟩
 have TZ:∀ z∈r.toList,z∈X++Y:=λz hz=>by
  rcases mem_append.mp (hr.1.mem_iff.mp hz) with hz |hz
  ·exact mem_append_left _ (List.mem_of_mem_drop hz)
  exact mem_append_right _ (mem_of_mem_take hz)
 have x1:X.take 1=[X[0]'(by omega)]:=by
  cases X with
  |nil=>simp at d
  |cons a l=>rfl
 have y1:Y.drop (32-1)=[Y[32-1]'(by omega)]:=by rw[drop_eq_getElem_cons (by omega),drop_eq_nil_of_le (by omega)]
 refine⟨?_,?_⟩
 ·refine List.Perm.trans (List.Perm.append_left _ (List.Perm.append_right _ hr.1)) ?_;have q1:X.take 1++((X.drop 1++Y.take (32-1))++Y.drop (32-1))=(X.take 1++X.drop 1)++(Y.take (32-1)++Y.drop (32-1)):=by simp only[List.append_assoc]
  rw[q1,take_append_drop,take_append_drop]
 rw[x1,y1];refine pairwise_append.mpr ⟨List.pairwise_singleton _ _,pairwise_append.mpr ⟨hr.2,List.pairwise_singleton _ _,λu M v hv=>?_⟩,λu M v hv=>?_⟩
 ·rw[mem_singleton.mp hv];exact(D u (TZ u M)).2
 rw[mem_singleton.mp M];rcases mem_append.mp hv with hv |hv
 ·exact(D v (TZ v hv)).1
 rw[mem_singleton.mp hv];exact(D _ (mem_append_right _ (getElem_mem _))).1
end
abbrev yg:StateT SortSt Sem Unit:=sortPriv% PySem.Builtin.sortRuns
abbrev bW:Nat->Nat->Nat->Nat:=sortPriv% PySem.Builtin.minRun
section
variable {prog:Program}{w:World}{A:Around}{E:IG}{s:Shared}{kd:SortKind}{O:KeyOrd}{kf:Value->O.α}{G:Keyed->Prop}
def Spec {α:Type}(lt : α->α->Bool)(d:List α):Prop:=∃ a b r,d=a::b::r/\lt a b=true/\(∀ c∈r.head?,lt c b=true)/\(d.length<64∨d.length=64/\∃ a b c r,d.drop 32=a::b::c::r/\lt a b=true/\lt c b=true/\∃ X Y:List α,X.length=32/\Y.length=32 /\
 (d.take 32).Perm X/\(d.drop 32).Perm Y/\X.Pairwise (λa b=>lt b a=false)/\Y.Pairwise (λa b=>lt b a=false)/\(∀ p∈X.zip Y,lt p.1 p.2=true)/\∀ p∈Y.zip X.tail,lt p.1 p.2=true)
def jt (kf:Value->O.α)(xs:Array Keyed):List O.α:=xs.toList.map λp=>kf p.1
theorem kM {xs:Array Keyed}{i:Nat}{a:O.α}(h:(jt kf xs)[i]?=some a):KX kf xs i=a:=by unfold jt at h;rw[getElem?_map] at h;obtain⟨p,b,rfl⟩:=map_eq_some_iff.mp h;unfold KX;rw[show xs[i]?=some p by simpa using b]
theorem uY {xs:Array Keyed}{lo n:Nat}(h:Oj kf xs lo (lo+n))(d:lo+n<=xs.size):((xs.toList.drop lo).take n).Pairwise (K1 O kf):=by rw[pairwise_iff_getElem];intro i j a b c;rw[length_take,length_drop,length_toList] at a b;have q:=h (lo+i) (lo+j) (by omega) (by omega) (by omega);rw[mI (by omega),mI (by omega)] at q;show O.kle _ _;simpa using q
theorem A9 {a b:O.α}(d:O.kle a b)(c:O.kle b a):a=b:=O.total _ _ c d
structure Rm (G:Keyed->Prop) (kd:SortKind) (kf:Value->O.α) (st IW:SortSt) (p:Array (Nat×Nat×Nat)):Prop where
 kind:kindOf IW=kd
 good:∀ x∈(arrOf IW).toList,G x
 fail:failedOf IW=none
 RZ : 2<=gallopOf IW
 perm:(arrOf IW).Perm (arrOf st)
 pend:pendingOf IW=p
 tk:((arrOf IW).toList.take 32).Perm ((arrOf st).toList.take 32)
 ts:((arrOf IW).toList.take 32).Pairwise (K1 O kf)
theorem sU {xs ys:Array Keyed}{lo n:Nat}(g:ys.Perm xs)(h:lo+n<=xs.size)(same:∀ k,(k<lo∨lo+n<=k)->ys[k]?=xs[k]?):ys.toList.take lo=xs.toList.take lo/\ys.toList.drop (lo+n)=xs.toList.drop (lo+n)/\((ys.toList.drop lo).take n).Perm ((xs.toList.drop lo).take n):=by
 have c:ys.toList.take lo=xs.toList.take lo:=by
  apply ext_getElem?;intro i;rw[getElem?_take,getElem?_take];split
  ·rename_i f;simpa using same i (.inl f)
  rfl
 have d:ys.toList.drop (lo+n)=xs.toList.drop (lo+n):=by apply ext_getElem?;intro i;rw[getElem?_drop,getElem?_drop];simpa using same (lo+n+i) (.inr (by omega))
 have b:∀ a:Array Keyed,a.toList=a.toList.take lo++((a.toList.drop lo).take n++a.toList.drop (lo+n)):=λa=>by rw[← List.drop_drop,take_append_drop,take_append_drop]
 have e:=perm_iff_toList_perm.mp g;rw[b ys,b xs,c,d] at e;exact⟨c,d,(List.perm_append_right_iff _).mp ((List.perm_append_left_iff _).mp e)⟩
theorem m5 {xs:Array Keyed}{lo:Nat}(u:O.blt (KX kf xs lo) (KX kf xs (lo+1))=true):Oj kf xs lo (lo+2):=λi j a c b=>by
 have:i=j∨i=lo/\j=lo+1:=by omega
 rcases this with rfl |⟨rfl,rfl⟩
 ·exact KeyOrd.kle_refl _
 exact KeyOrd.kle_of_klt u
theorem oW (L:u_ prog w A E s kd O kf G){st:SortSt}{Q:Unit->SortSt->Prop}(hk:kindOf st=kd)(hg:∀ x∈(arrOf st).toList,G x)(hf:failedOf st=none)(R:pendingOf st = #[])(O_ : 2<=gallopOf st)(P:Spec O.blt (jt kf (arrOf st)))
  (h:∀ d,(arrOf d).Perm (arrOf st)->failedOf d=none->Oj kf (arrOf d) 0 (arrOf st).size->Q () d):wpS (model prog w) A E s yg Q st:=by
 obtain⟨a,b,r,K,F,d0,P⟩:=P;have q:(jt kf (arrOf st)).length=(arrOf st).size:=by unfold jt;rw[length_map,length_toList]
 have n2 : 2<=(arrOf st).size:=by rw[← q,K];simp
 have F:O.blt (KX kf (arrOf st) 0) (KX kf (arrOf st) 1)=true:=by rw[kM (i:=0) (by rw[K];rfl),kM (i:=1) (by rw[K];rfl)];exact F
 have d0:(arrOf st).size=2∨O.blt (KX kf (arrOf st) 2) (KX kf (arrOf st) 1)=true:=by
  cases r with
  |nil=>exact .inl (by rw[← q,K];rfl)
  |cons c r=>exact .inr (by rw[kM (i:=2) (by rw[K];rfl),kM (i:=1) (by rw[K];rfl)];exact d0 c rfl)
 rw[q] at P;have S0:∀ lo o,Sg G kd lo o st st:=λlo o=>⟨hk,hg,Array.Perm.refl _,rfl,rfl,rfl,λ_ _=>rfl⟩;refine wpS_bind (wpS_get ?_);dsimp only;rcases P with P |⟨ZE,T,b1,c1,r1,ZF,u1,d1,X,Y,lX,lY,pX,pY,sX,sY,xy,yx⟩
 ·refine wpS_bind (wpS_mono (wpS_forRange (I:=λx c d=>x=0/\c=(none,0)/\d=st∨0<x/\c=(none,(arrOf st).size)/\(arrOf d).Perm (arrOf st)/\failedOf d=none/\Oj kf (arrOf d) 0 (arrOf st).size/\(pendingOf d).size<=1)
   (Q:=λc d=>c=(none,(arrOf st).size)/\(arrOf d).Perm (arrOf st)/\failedOf d=none/\Oj kf (arrOf d) 0 (arrOf st).size/\(pendingOf d).size<=1) ?s1 ?f1 (.inl ⟨rfl,rfl,rfl⟩)) ?p1)
  case f1 =>
   rintro c d (⟨t,_⟩ |⟨_,v⟩)
   ·have t:max 0 (arrOf st).size=0:=t;omega
   exact v
  case p1 =>
   rintro c d ⟨rfl,T,a2,a3,a4⟩;dsimp only;refine wpS_bind (gL (show 0<(arrOf st).size by omega) ?_);refine wpS_bind (wpS_get ?_);rw[show (sortPriv% PySem.Builtin.SortState.pending) d=pendingOf d from rfl,if_pos a4];exact wpS_pure (wpS_pure (h d T a2 a3))
  case s1 =>
   rintro x c d _ hx (⟨rfl,rfl,rfl⟩ |⟨_,rfl,T,a2,a3,a4⟩)
   ·dsimp only;rw[if_neg (by omega)]
    refine wpS_bind (nk L hk hg (by show 0+((arrOf d).size-0)<=(arrOf d).size;omega) (by show 2<=(arrOf d).size-0;omega) (by simpa using F) (by
     rcases d0 with d0 |d0
     ·exact .inl (by show (arrOf d).size-0=2;omega)
     exact .inr (by simpa using d0)) ?_)
    dsimp only
    have V:bW (arrOf d).size (arrOf d).size 0=(arrOf d).size:=by
     cases hsz:(arrOf d).size with
     |zero=>omega
     |succ k=>exact if_pos (by omega)
    have done:∀ (e:SortSt) (n:Nat),n=(arrOf d).size->Sg G kd 0 (0+n) d e->Oj kf (arrOf e) 0 (0+n)->∀ B,arrOf B=arrOf e->failedOf B=failedOf e->pendingOf B=(pendingOf e).push (0,n,0)->0<0+1/\((none:Option Unit),0+n)=(none,(arrOf d).size)/\(arrOf B).Perm (arrOf d)/\failedOf B=none/\Oj kf (arrOf B) 0 (arrOf d).size/\(pendingOf B).size<=1:=λe n hn g ha B e1 e2 e3=>by refine⟨by omega,by rw[hn,zero_add],by rw[e1];exact g.perm,by rw[e2,g.fail];exact hf,by rw[e1,← hn];simpa using ha,by rw[e3,g.pend,R];exact le_refl _⟩
    by_cases v : 2<bW (arrOf d).size (arrOf d).size 0
    ·rw[if_pos v];refine wpS_bind (wpS_lift (wpAny_rule ⟨rfl,?_⟩));refine wpS_bind (ij (n:=min ((arrOf d).size-0) (bW (arrOf d).size (arrOf d).size 0)) L (S0 0 _) (by rw[V];omega) (by rw[V];omega) (m5 (by simpa using F)) λe f D=>?_);rw[if_neg (by decide)];refine wpS_bind (wpS_get ?_);have hb:(pendingOf e).back?=none:=by rw[f.pend,R];rfl
     rw[show (sortPriv% PySem.Builtin.SortState.pending) e=pendingOf e from rfl,hb];dsimp only;exact wpS_bind (wpS_modify (wpS_pure (.inr (done e _ (by rw[V];omega) f D _ rfl rfl rfl))))
    rw[if_neg v];refine wpS_bind (wpS_get ?_);have hb:(pendingOf d).back?=none:=by rw[R];rfl
    rw[show (sortPriv% PySem.Builtin.SortState.pending) d=pendingOf d from rfl,hb];dsimp only;exact wpS_bind (wpS_modify (wpS_pure (.inr (done d 2 (by rw[V] at v;omega) (S0 _ _) (m5 (by simpa using F)) _ rfl rfl rfl))))
   dsimp only;rw[if_pos (le_refl _)];exact wpS_pure ⟨rfl,T,a2,a3,a4⟩
 have m64:bW (arrOf st).size (arrOf st).size 0=32:=by rw[ZE];rfl
 refine wpS_bind (wpS_mono (wpS_forRange (I:=λx c d=>x=0/\c=(none,0)/\d=st∨x=1/\c=(none,32)/\Rm G kd kf st d #[(0,32,0)]/\(arrOf d).toList.drop 32=(arrOf st).toList.drop 32∨2<=x/\c=(none,64)/\∃ u,Rm G kd kf st d #[(0,32,u),(32,32,0)]/\((arrOf d).toList.drop 32).Perm ((arrOf st).toList.drop 32)/\((arrOf d).toList.drop 32).Pairwise (K1 O kf))
  (Q:=λc d=>c=(none,64)/\∃ u,Rm G kd kf st d #[(0,32,u),(32,32,0)]/\((arrOf d).toList.drop 32).Perm ((arrOf st).toList.drop 32)/\((arrOf d).toList.drop 32).Pairwise (K1 O kf)) ?s1 ?f1 (.inl ⟨rfl,rfl,rfl⟩)) ?p1)
 case f1 =>
  rintro c d (⟨t,_⟩ |⟨t,_⟩ |⟨_,v⟩)
  ·have t:max 0 (arrOf st).size=0:=t;omega
  ·have t:max 0 (arrOf st).size=1:=t;omega
  exact v
 case s1 =>
  rintro x c d _ hx (⟨rfl,rfl,rfl⟩ |⟨rfl,rfl,H,hd⟩ |⟨v,rfl,u,H,hd⟩)
  ·dsimp only;rw[if_neg (by omega)];refine wpS_bind (nk L hk hg (by show 0+((arrOf d).size-0)<=(arrOf d).size;omega) (by show 2<=(arrOf d).size-0;omega) (by simpa using F) (.inr (by simpa using d0.resolve_left (by omega))) ?_);dsimp only;rw[if_pos (show 2<bW (arrOf d).size (arrOf d).size 0 by omega)];refine wpS_bind (wpS_lift (wpAny_rule ⟨rfl,?_⟩));refine wpS_bind (ij (n:=min ((arrOf d).size-0) (bW (arrOf d).size (arrOf d).size 0)) L (S0 0 _) (by omega) (by omega) (m5 (by simpa using F)) λe f D=>?_);rw[if_neg (by decide)];refine wpS_bind (wpS_get ?_);have hb:(pendingOf e).back?=none:=by rw[f.pend,R];rfl
   rw[show (sortPriv% PySem.Builtin.SortState.pending) e=pendingOf e from rfl,hb];dsimp only;have C:min ((arrOf d).size-0) (bW (arrOf d).size (arrOf d).size 0)=32:=by omega
   have ap:(pendingOf e).push (0,min ((arrOf d).size-0) (bW (arrOf d).size (arrOf d).size 0),0) = #[(0,32,0)]:=by rw[f.pend,R,C];rfl
   have ec:((none:Option Unit),0+min ((arrOf d).size-0) (bW (arrOf d).size (arrOf d).size 0))=(none,32):=by rw[C]
   rw[C] at f D;have UD:=f.size;obtain⟨_,q2,J⟩:=sU f.perm (by omega) f.same;have S:=uY D (by omega);rw[drop_zero] at J S;rw[drop_zero] at J;exact wpS_bind (wpS_modify (wpS_pure (.inr (.inl ⟨rfl,ec,⟨f.kind,f.good,f.fail.trans hf,by show 2<=gallopOf e;rw[f.RZ];exact O_,f.perm,ap,J,S⟩,by simpa using q2⟩))))
  ·dsimp only;have ZG:(arrOf d).size=(arrOf st).size:=H.perm.size_eq
   have U:∀ {k:Nat}{z:O.α},(T::b1::c1::r1)[k]?=some z->KX kf (arrOf d) (32+k)=z:=λ{k z} hz=>by
    have e1:(arrOf d).toList[32+k]?=(arrOf st).toList[32+k]?:=by rw[← getElem?_drop,← getElem?_drop,hd]
    rw[xU (ys:=arrOf st) (j:=32+k) (by simpa using e1)];exact kM (by rw[← getElem?_drop,ZF];exact hz)
   have u':O.blt (KX kf (arrOf d) 32) (KX kf (arrOf d) (32+1))=true:=by have:=U (k:=0) rfl;rw[Nat.add_zero] at this;rw[this,U (k:=1) rfl];exact u1
   rw[if_neg (show ¬ 32≥(arrOf st).size by omega)];refine wpS_bind (nk L H.kind H.good (by show 32+((arrOf st).size-32)<=(arrOf d).size;omega) (by show 2<=(arrOf st).size-32;omega) u' (.inr (by rw[U (k:=2) rfl,U (k:=1) rfl];exact d1)) ?_);dsimp only;rw[if_pos (show 2<bW (arrOf st).size (arrOf st).size 0 by omega)];refine wpS_bind (wpS_lift (wpAny_rule ⟨rfl,?_⟩));refine wpS_bind (ij (n:=min ((arrOf st).size-32) (bW (arrOf st).size (arrOf st).size 0)) (st0:=d) L ⟨H.kind,H.good,Array.Perm.refl _,rfl,rfl,rfl,λ_ _=>rfl⟩ (by omega) (by omega) (m5 u') λe f D=>?_);rw[if_neg (by decide)];refine wpS_bind (wpS_get ?_);have C:min ((arrOf st).size-32) (bW (arrOf st).size (arrOf st).size 0)=32:=by omega
   have hb:(pendingOf e).back?=some (0,32,0):=by rw[f.pend,H.pend];rfl
   rw[show (sortPriv% PySem.Builtin.SortState.pending) e=pendingOf e from rfl,hb];dsimp only;refine wpS_bind (gL (show 0<(arrOf st).size by omega) ?_);refine wpS_bind (wpS_get ?_);rw[show (sortPriv% PySem.Builtin.SortState.pending) e=pendingOf e from rfl,if_neg (show ¬ (pendingOf e).size > 1 by rw[f.pend,H.pend];decide)];refine wpS_pure ?_;dsimp only;have ap:∀ u,((pendingOf e).modify ((pendingOf e).size-1) λx=>(x.1,x.2.1,u)).push (32,min ((arrOf st).size-32) (bW (arrOf st).size (arrOf st).size 0),0) = #[(0,32,u),(32,32,0)]:=λu=>by rw[f.pend,H.pend,C];rfl
   have ec:((none:Option Unit),32+min ((arrOf st).size-32) (bW (arrOf st).size (arrOf st).size 0))=(none,64):=by rw[C]
   rw[C] at f D;have UD:=f.size;obtain⟨q1,_,J⟩:=sU f.perm (by omega) f.same;have S:=uY D (by omega);have full:∀ W:Array Keyed,W.size=64->(W.toList.drop 32).take 32=W.toList.drop 32:=λW hz=>take_of_length_le (by rw[length_drop,length_toList];omega);rw[full _ (by omega),full _ (by omega),hd] at J;rw[full _ (by omega)] at S;exact wpS_bind (wpS_modify (wpS_bind (wpS_modify (wpS_pure (.inr (.inr ⟨by omega,ec,_,⟨f.kind,f.good,f.fail.trans H.fail,by show 2<=gallopOf e;rw[f.RZ];exact H.RZ,f.perm.trans H.perm,ap _,by rw[show (arrOf e).toList.take 32=(arrOf d).toList.take 32 from q1];exact H.tk,by rw[show (arrOf e).toList.take 32=(arrOf d).toList.take 32 from q1];exact H.ts⟩,J,S⟩))))))
  dsimp only;rw[if_pos (show 64≥(arrOf st).size by omega)];exact wpS_pure ⟨rfl,u,H,hd⟩
 case p1 =>
  rintro c d ⟨rfl,u,H,hd,Qf⟩;dsimp only;have ZG:(arrOf d).size=(arrOf st).size:=H.perm.size_eq
  have XF:∀ {M N:List Keyed}{Z:List O.α},M.Perm N->(N.map λp=>kf p.1).Perm Z->M.Pairwise (K1 O kf)->Z.Pairwise O.kle->M.map (λp=>kf p.1)=Z:=λ{M N Z} p1 p2 s1 s2 =>
   List.Perm.eq_of_pairwise (λ_ _ _ _=>A9) (pairwise_map.mpr s1) s2 ((p1.map _).trans p2)
  have hX:=XF H.tk (by unfold jt at pX;rw[← map_take] at pX;exact pX) H.ts sX;have hY:=XF hd (by unfold jt at pY;rw[← map_drop] at pY;exact pY) Qf sY;have l1:((arrOf d).toList.take 32).length=32:=by rw[length_take,length_toList];omega
  have l2:((arrOf d).toList.drop 32).length=32:=by rw[length_drop,length_toList];omega
  have gX:∀ i (o:i<32),kf (((arrOf d).toList.take 32)[i]'(by omega)).1=X[i]'(by omega):=λi o=>by simp only[← hX,List.getElem_map]
  have gY:∀ i (o:i<32),kf (((arrOf d).toList.drop 32)[i]'(by omega)).1=Y[i]'(by omega):=λi o=>by simp only[← hY,List.getElem_map]
  have ZH:∀ i (o:i<32),O.blt (X[i]'(by omega)) (Y[i]'(by omega))=true:=λi o=>by have:=xy _ (getElem_mem (l:=X.zip Y) (n:=i) (by rw[List.length_zip];omega));rw[List.getElem_zip] at this;exact this
  have ZI:∀ i (o:i+1<32),O.blt (Y[i]'(by omega)) (X[i+1]'(by omega))=true:=λi o=>by have:=yx _ (getElem_mem (l:=Y.zip X.tail) (n:=i) (by rw[List.length_zip,List.length_tail];omega));rw[List.getElem_zip,List.getElem_tail] at this;exact this
  refine wpS_bind (wpS_mono (wpS_forRange (I:=λy c m=>y=0/\c=(none,())/\m=d∨0<y/\c=(none,())/\failedOf m=none/\(pendingOf m).size=1/\Res O kf (arrOf d).toList (arrOf m).toList)
   (Q:=λc m=>c=(none,())/\failedOf m=none/\(pendingOf m).size=1/\Res O kf (arrOf d).toList (arrOf m).toList) ?s2 ?f2 (.inl ⟨rfl,rfl,rfl⟩)) ?p2)
  case f2 =>
   rintro c m (⟨t,_⟩ |⟨_,v⟩)
   ·have t:max 0 (arrOf st).size=0:=t;omega
   exact v
  case p2 =>
   rintro c m ⟨rfl,f2,_,r2⟩;refine wpS_pure (h m ((perm_iff_toList_perm.mpr r2.1).trans H.perm) f2 λi j _ OJ hj=>?_);have sz2:(arrOf m).size=(arrOf d).size:=by have:=r2.1.length_eq;simpa using this
   rw[mI (by omega),mI (by omega)];rcases lt_or_ge i j with JL |Qm
   ·have:=pairwise_iff_getElem.mp r2.2 i j (by rw[length_toList];omega) (by rw[length_toList];omega) JL;simpa [K1] using this
   obtain rfl:i=j:=by omega
   exact KeyOrd.kle_refl _
  case s2 =>
   rintro y c m _ hy (⟨rfl,rfl,rfl⟩ |⟨_,rfl,z⟩)
   ·refine wpS_bind (wpS_get ?_);rw[show (sortPriv% PySem.Builtin.SortState.pending) m=pendingOf m from rfl,H.pend,if_neg (show ¬ (#[(0,32,u),(32,32,0)]:Array (Nat×Nat×Nat)).size<=1 by show ¬ 2<=1;decide)];refine wpS_bind (sK L H.kind H.good H.fail H.RZ H.pend (take_append_drop 32 _).symm l1 l2 H.ts Qf (λi o=>by rw[gX i o,gY i o];exact ZH i o) (λi o=>by rw[gX (i+1) o,gY i (by omega)];exact ZI i o) λe f3 p3 r3=>?_);rw[take_append_drop] at r3;exact wpS_pure (.inr ⟨by omega,rfl,f3,p3,r3⟩)
   refine wpS_bind (wpS_get ?_);rw[show (sortPriv% PySem.Builtin.SortState.pending) m=pendingOf m from rfl,if_pos (Nat.le_of_eq z.2.1)];exact wpS_pure ⟨rfl,z⟩
end
def wK (prog:Program)(w:World)(e:Shared)(vs:List Value)(O:KeyOrd)(kf:Value->O.α):Prop:=∃ d:SortKind,∀ (A:Around) (E:IG) (a:Shared),(∀ b o,e.heap.get? b=some o->a.heap.get? b=some o) ->
 (2<=vs.length->∀ c:SortKind->Shared->Prop,c d a->wpAny (model prog w) A (keyKind' vs.toArray) c E a)/\u_ prog w A E a d O kf (λp=>p.1∈vs)
theorem h_:∀ {vs:List Value}{p:Value×Value},p∈vs.zip vs->p.1=p.2/\p.1∈vs
 |[],_,h=>by simp at h
 |v::vs,p,h=>by
  rw[List.zip_cons_cons] at h;rcases mem_cons.mp h with e |h
  ·subst e;exact⟨rfl,by simp⟩
  obtain⟨a,b⟩:=h_ h;exact⟨a,mem_cons_of_mem _ b⟩
theorem qK:∀ (vs:List Value),(vs.zip vs).map (·.2)=vs
 |[]=>rfl
 |v::vs=>by rw[List.zip_cons_cons,map_cons,qK vs]
section
variable {prog:Program}{w:World}{A:Around}{E:IG}{s:Shared}{O:KeyOrd}{kf:Value->O.α}
theorem CM {vs:List Value}{xs:Array Keyed}(f:xs.Perm (pairsOf vs))(n:Oj kf xs 0 (pairsOf vs).size):(xs.map (·.2)).toList.Perm vs/\(xs.map (·.2)).toList.Pairwise λa b=>O.kle (kf a) (kf b):=by
 have c:=perm_iff_toList_perm.mp f;rw[pairsOf_toList] at c;refine⟨?_,?_⟩
 ·have:=c.map (·.2);rw[qK] at this;rw[Array.toList_map];exact this
 rw[Array.toList_map,pairwise_map,pairwise_iff_getElem];intro i j l m g;have e:i<xs.size:=by simpa using l
 have d:j<xs.size:=by simpa using m
 have q:=n i j (zero_le _) (Nat.le_of_lt g) (by rw[← f.size_eq];exact d);rw[mI e,mI d] at q;have h:=(h_ (c.mem_iff.mp (getElem_mem_toList e))).1;have k:=(h_ (c.mem_iff.mp (getElem_mem_toList d))).1;rw[h,k] at q;simpa using q
theorem t_ {a:Addr}{vs:List Value}{n:Nat}{P:Fin->Shared->Prop}{k:Shared}(d:s.heap.get? a=some (seqObj "list" vs.toArray n))(J:vs.length<=sizeLine)(j:wK prog w k vs O kf)(m:Spec O.blt (vs.map kf))(B:∀ b o,k.heap.get? b=some o->b≠a/\s.heap.get? b=some o)
  (h:∀ out:Array Value,out.toList.Perm vs->(out.toList.Pairwise λa b=>O.kle (kf a) (kf b))->P (.done (.ret .none)) { s with heap:=sortedHeap s.heap a vs out }) :
  wpAny (model prog w) A (Builtin.«list.sort» ⟨[.ref a],[]⟩) P E s:=by
 have S:a<s.heap.objs.size:=Heap.lt_size d;have K:vs.toArray.size<=sizeLine:=by simpa using J
 rw[list_sort_plain];refine wpAny_bind (listItems_at d rfl ?_);refine wpAny_bind (listUpdate_at d rfl ?_ (hsz:=K));have l:=get?_update_seq d (λ_ => #[]);refine wpAny_bind (seqEpoch_at l rfl ?_);refine wpAny_bind (wpAny_newTuple ?_);refine wpAny_bind (wpAny_newList ?_);refine wpAny_holding ?_;generalize R:(if (#[]:Array Value).size==vs.toArray.size then n else n+1)=e1 at l;have u:∀ b o,k.heap.get? b=some o->(((s.heap.update a (Obj.mapSeq λ_ => #[])).push (seqObj "tuple" vs.toArray 0)).push (seqObj "list" #[] 0)).get? b=some o:=by intro b o D;obtain⟨G,H⟩:=B b o D;refine Heap.get?_push_of_some _ (Heap.get?_push_of_some _ ?_);rw[Heap.get?_update_ne _ _ _ _ G];exact H
 have v:(((s.heap.update a (Obj.mapSeq λ_ => #[])).push (seqObj "tuple" vs.toArray 0)).push (seqObj "list" #[] 0)).get? a=some (seqObj "list" #[] e1):=Heap.get?_push_of_some _ (Heap.get?_push_of_some _ l);show wpAny (model prog w) A _ P E { s with heap:=((s.heap.update a (Obj.mapSeq λ_ => #[])).push (seqObj "tuple" vs.toArray 0)).push (seqObj "list" #[] 0) };dsimp only;have M : 2<=vs.length:=by obtain⟨a,b,r,e,_⟩:=m;have:=congrArg List.length e;rw[length_map] at this;rw[this];simp
 have q:¬ vs.toArray.size<2:=by simp;omega
 rw[if_neg q,if_neg q];obtain⟨kd,j⟩:=j;refine wpAny_bind ((j A _ _ u).1 M _ ?_)
 refine wpAny_bind (wpAny_mono (oW (O:=O) (kf:=kf) (kd:=kd) (st:=SortSt.mk' kd (vs.toArray.zip vs.toArray) #[] 7 none) (Q:=λ_ c=>(arrOf c).Perm (pairsOf vs)/\failedOf c=none/\Oj kf (arrOf c) 0 (pairsOf vs).size)
  (j A _ _ u).2 rfl (λx z=>?_) rfl rfl (show 2<=7 by decide) ?_ λc y C F=>⟨y,C,F⟩) ?_ λ_ _ e=>e)
 ·have t:x∈(pairsOf vs).toList:=z;rw[pairsOf_toList] at t;exact(h_ t).2
 ·have:jt kf (pairsOf vs)=vs.map kf:=by
   unfold jt;rw[pairsOf_toList];exact(map_congr_left λp i=>by rw[(h_ i).1];rfl).trans ((map_map (g:=kf) (f:=λp:Value×Value=>p.2)).symm.trans (by rw[qK]))
  show Spec O.blt (jt kf (pairsOf vs));rw[this];exact m
 rintro⟨⟨⟩,c⟩ N ⟨rfl,i,I,L⟩;dsimp only;obtain⟨o1,o2⟩:=CM i L;refine wpAny_bind (seqEpoch_at v rfl ?_);refine wpAny_bind (listUpdate_at v rfl ?_ (hsz2:=by refine Nat.le_trans (Nat.le_of_eq ((Array.size_map ..).trans (i.size_eq.trans (pairsOf_size _)))) ?_;omega));rw[I];simp only[bne_self_eq_false,false_eq_true,if_false];exact wpAny_pure (h _ o1 o2)
theorem B_ {x:Value}{Q:IG}
  (h:wpAny (model prog w) A.in1 (collect x) (λvs c=>vs.length<=sizeLine/\∃ (O:KeyOrd) (kf:Value->O.α),wK prog w c vs O kf/\Spec O.blt (vs.map kf) /\
   ∀ (out:Array Value) h' ep,out.toList.Perm vs->(out.toList.Pairwise λa b=>O.kle (kf a) (kf b))->(∀ b o,c.heap.get? b=some o->h'.get? b=some o)->h'.get? c.heap.objs.size=some (seqObj "list" out ep) ->
    Q (.ref c.heap.objs.size) { c with heap:=h' }) E s):wpAny (model prog w) A (call (.builtin "sorted") [x]) Q E s:=by
 refine Calls.call_function_entry kind_sorted plain_sorted entry_sorted (args_sorted1 _) ?_;unfold Builtin.«sorted»;refine wpAny_bind (m:=checkCount "sorted" 1 1 _) (wpAny_pure ?_);refine wpAny_bind (wpAny_mono h (λvs c l=>?_) λ_ _ z=>z);obtain⟨k,O,kf,j,g,q⟩:=l;refine wpAny_bind (wpAny_newList ?_);have d:(c.heap.push (seqObj "list" vs.toArray 0)).get? c.heap.objs.size=some (seqObj "list" vs.toArray 0):=Heap.get?_push_size _ rfl;refine wpAny_bind (wpAny_holding (wpAny_call_entry slot_list_sort ⟨_,d,rfl⟩ entry_list_sort (t_ d k j g (λb o e=>⟨ne_of_lt (Heap.lt_size e),Heap.get?_push_of_some _ e⟩) λout f i=>⟨_,rfl,?_⟩) (args_list_sort _)));obtain⟨ep,n⟩:=sortedHeap_at (out:=out) d
 exact wpAny_pure ⟨_,rfl,q out _ ep f i (λb o e=>by
  rw[sortedHeap_old (ne_of_lt (Heap.lt_size e)) (by rw[size_push'];exact lt_succ_of_lt (Heap.lt_size e))]
  exact Heap.get?_push_of_some _ e) n⟩
end
structure Rq where
 O:KeyOrd
 keyOf:Value->Option O.α
 dflt:O.α
 ty:String
 nt:(Value.type ty != Value.type "tuple")=true
 typ:∀ v a,keyOf v=some a->typeOf v=pure (.type ty)
 fst:∀ v a,keyOf v=some a->firstOfTuple' v=pure none
 eqB:∀ {prog:Program}{w:World}{A:Around}{E:IG}{s:Shared}{x y:Value}{a b:O.α}{Q:Bool->Shared->Prop},keyOf x=some a->keyOf y=some b->Q (!O.blt a b&&!O.blt b a) s->wpAny (model prog w) A (eqBool x y) Q E s
 lt:∀ {prog:Program}{w:World}{A:Around}{E:IG}{s:Shared}{x y:Value}{a b:O.α}{Q:Bool->Shared->Prop}(o:Bool),keyOf x=some a->keyOf y=some b->Q (O.blt a b) s->wpAny (model prog w) A (oneLt' o x y) Q E s
def KH:KeyOrd where
 α:=Int
 blt a b:=decide (a<b)
 irrefl a:=by simp
 trans a b c h1 h2:=by simp only[decide_eq_true_eq] at *;omega
 negTrans a b c h:=by simp only[decide_eq_true_eq] at *;omega
 total a b h1 h2:=by simp only[decide_eq_false_iff_not] at *;omega
theorem Dc (i j:Int):(i==j)=(!decide (i<j)&&!decide (j<i)):=by
 by_cases a:i=j
 ·subst a;simp
 have:i<j∨j<i:=by omega
 rcases this with h1 |h1<;>simp[a,h1]
def Go (v:Value):Option Int:=match v with | .int i _=>some i |_=>none
theorem jb {v:Value}{i:Int}(h:Go v=some i):∃ t,v = .int i t:=by
 cases v<;>first |(cases h;done) |skip
 cases h;exact⟨_,rfl⟩
def L4:Rq where
 O:=KH
 keyOf:=Go
 dflt:=(0:Int)
 ty:="int"
 nt:=by decide
 typ v a h:=by obtain⟨t,rfl⟩:=jb h;rfl
 fst v a h:=by obtain⟨t,rfl⟩:=jb h;rfl
 eqB {prog w A E s x y a b Q} ha hb h:=by
  obtain⟨t,rfl⟩:=jb ha;obtain⟨u,rfl⟩:=jb hb;exact wpAny_eqBool_int (Eq.mpr (congrArg (λz=>Q z s) (Dc a b)) h)
 lt {prog w A E s x y a b Q} o ha hb h:=by
  obtain⟨t,rfl⟩:=jb ha;obtain⟨u,rfl⟩:=jb hb;cases o with
  |true=>exact oneLt_int h
  |false =>
   rw[oneLt'_eq];simp only[false_eq_true,if_false];exact wpAny_bind (show wpAny _ _ (compareOp .Lt (.int _ t) (.int _ u)) _ _ _ from PyProof.Rows.lt_int (wpAny_truthy_bool h))
def cX (O:KeyOrd):List O.α->List O.α->Bool
 |[],[]=>false
 |[],_::_=>true
 |_::_,[]=>false
 |a::as,b::bs=>if (!O.blt a b&&!O.blt b a)=true then cX O as bs else O.blt a b
theorem qw {O:KeyOrd}{a b:O.α}(h:(!O.blt a b&&!O.blt b a)=true):a=b:=by rw[and_eq_true] at h;exact O.total _ _ (by simpa using h.1) (by simpa using h.2)
theorem tO {O:KeyOrd}(a:O.α):(!O.blt a a&&!O.blt a a)=true:=by rw[O.irrefl];rfl
theorem cQ {O:KeyOrd}(a:O.α)(as bs:List O.α):cX O (a::as) (a::bs)=cX O as bs:=by rw[cX,if_pos (tO a)]
theorem bL {O:KeyOrd}{a b:O.α}(as bs:List O.α)(h:a≠b):cX O (a::as) (b::bs)=O.blt a b:=by rw[cX,if_neg (λz=>h (qw z))]
theorem yM {O:KeyOrd}{a b:O.α}(h:O.blt a b=true):a≠b:=λz=>by subst z;rw[O.irrefl] at h;cases h
def ua (O:KeyOrd):KeyOrd where
 α:=List O.α
 blt:=cX O
 irrefl a:=by
  induction a with
  |nil=>rfl
  |cons x a j=>rw[cQ];exact j
 trans a:=by
  induction a with
  |nil =>
   intro b c f d;cases b with
   |nil=>cases f
   |cons y b=>cases c with
    |nil=>cases d
    |cons z c=>rfl
  |cons x a j =>
   intro b c f d;cases b with
   |nil=>cases f
   |cons y b=>cases c with
    |nil=>cases d
    |cons z c =>
     by_cases i:x=y
     ·subst i;rw[cQ] at f;by_cases g:x=z
      ·subst g;rw[cQ] at d ⊢;exact j b c f d
      rw[bL _ _ g] at d ⊢;exact d
     rw[bL _ _ i] at f;by_cases g:y=z
     ·subst g;rw[bL _ _ i];exact f
     rw[bL _ _ g] at d;have l:=O.trans _ _ _ f d;rw[bL _ _ (yM l)];exact l
 negTrans a:=by
  induction a with
  |nil =>
   intro b c h;cases c with
   |nil=>cases h
   |cons z c=>cases b with
    |nil=>exact .inr rfl
    |cons y b=>exact .inl rfl
  |cons x a j =>
   intro b c h;cases c with
   |nil=>cases h
   |cons z c=>cases b with
    |nil=>exact .inr rfl
    |cons y b =>
     by_cases i:x=z
     ·subst i;rw[cQ] at h;by_cases g:x=y
      ·subst g;rw[cQ,cQ];exact j b c h
      rw[bL _ _ g,bL _ _ (Ne.symm g)];cases f:O.blt x y with
      |true=>exact .inl rfl
      |false=>cases d:O.blt y x with
       |true=>exact .inr rfl
       |false=>exact absurd (O.total _ _ f d) g
     rw[bL _ _ i] at h;by_cases g:x=y
     ·subst g;rw[bL _ _ i];exact .inr h
     by_cases k:y=z
     ·subst k;rw[bL _ _ g];exact .inl h
     rw[bL _ _ g,bL _ _ k];exact O.negTrans _ _ _ h
 total a:=by
  induction a with
  |nil =>
   intro b f d;cases b with
   |nil=>rfl
   |cons y b=>cases f
  |cons x a j =>
   intro b f d;cases b with
   |nil=>cases d
   |cons y b =>
    by_cases e:x=y
    ·subst e;rw[cQ] at f d;rw[j b f d]
    rw[bL _ _ e] at f;rw[bL _ _ (Ne.symm e)] at d;exact absurd (O.total _ _ f d) e
inductive KeysAre (κ:Rq):List Value->List κ.O.α->Prop
 |nil:KeysAre κ [] []
 |cons {v:Value}{a : κ.O.α}{vs:List Value}{as:List κ.O.α} : κ.keyOf v=some a->KeysAre κ vs as->KeysAre κ (v::vs) (a::as)
def Mx (b:Rq)(h:Heap)(v:Value)(as:List b.O.α):Prop:=∃ a o its n,v = .ref a/\h.get? a=some o/\o.cls = .type "tuple"/\o.data = .seq its n/\KeysAre b its.toList as
theorem Mx.keeps {c:Rq}{h h':Heap}{v:Value}{as:List c.O.α}(t:Mx c h v as)(k:∀ b o,h.get? b=some o->h'.get? b=some o):Mx c h' v as:=by obtain⟨a,o,its,n,e,f,hc,hd,d⟩:=t;exact⟨a,o,its,n,e,k _ _ f,hc,hd,d⟩
section
variable {prog:Program}{w:World}{A:Around}{E:IG}{s:Shared}{κ:Rq}
theorem qM {f:Bool}{x y:Value}{as bs:List κ.O.α}{Q:Bool->Shared->Prop}(J:Mx κ s.heap x as)(L:Mx κ s.heap y bs)(q:Q (cX κ.O as bs) s):wpAny (model prog w) A (keyLt' (tuples' f) x y) Q E s:=by
 obtain⟨a,o,C,n,rfl,R,hc,hd,P⟩:=J;obtain⟨b,o2,D,n2,rfl,S,Z,G,M⟩:=L;refine wpAny_bind (listItems_at R hd ?_);refine wpAny_bind (listItems_at S G ?_);refine wpAny_bind ?_;refine wpAny_forIn_list _ (λrest r z=>r.1=none/\z=s/\∃ k g h m l,rest=(List.zip g h).zipIdx k/\KeysAre κ g m/\KeysAre κ h l/\cX κ.O m l=cX κ.O as bs/\decide (g.length<h.length)=decide (C.size<D.size)) _ ?_ ?_ _ _ ⟨rfl,rfl,0,C.toList,D.toList,as,bs,rfl,P,M,rfl,by simp⟩
 ·rintro⟨⟨u,v⟩,i⟩ rest r z ⟨hr,rfl,k,g,h,m,l,d,F,B,j,c⟩;cases F with
  |nil=>simp at d
  | @cons u' p T U H W =>
   cases B with
   |nil=>simp at d
   | @cons v' t V K I X =>
    rw[List.zip_cons_cons,zipIdx_cons] at d;simp only[List.cons.injEq,Prod.mk.injEq] at d;obtain⟨⟨⟨rfl,rfl⟩,rfl⟩,rfl⟩:=d;refine wpAny_bind (κ.eqB H I ?_);by_cases e:p=t
    ·subst e;rw[tO];simp only[Bool.not_true,false_eq_true,if_false];rw[cQ] at j;exact wpAny_pure ⟨rfl,rfl,i+1,T,V,U,K,rfl,W,X,j,by rw[← c];simp⟩
    have N:(!κ.O.blt p t&&!κ.O.blt t p)=false:=by
     cases hb:(!κ.O.blt p t&&!κ.O.blt t p) with
     |false=>rfl
     |true=>exact absurd (qw hb) e
    rw[N];simp only[Bool.not_false,if_true];rw[bL _ _ e] at j;refine wpAny_bind (κ.lt _ H I ?_);rw[j];exact wpAny_pure (wpAny_pure q)
 rintro⟨Y,r2⟩ z ⟨hr,rfl,k,g,h,m,l,d,F,B,j,c⟩;simp only at hr;subst hr;refine wpAny_pure ?_;show Q (decide (C.size<D.size)) z;rw[← c]
 have e:decide (g.length<h.length)=cX κ.O m l:=by
  cases F with
  |nil=>cases B with
   |nil=>rfl
   |cons _ _=>simp[cX]
  |cons _ _=>cases B with
   |nil=>simp[cX]
   |cons _ _=>simp at d
 rw[e,j];exact q
theorem AZ:∀ {vs:List Value}{as:List κ.O.α},KeysAre κ vs as->vs.mapM firstOfTuple'=pure (vs.map λ_=>none)
 |_,_,.nil=>by simp
 |_,_,.cons h r=>by rw[mapM_cons,κ.fst _ _ h,AZ r];simp
theorem t7:∀ {vs:List Value}{as:List κ.O.α},KeysAre κ vs as->vs.mapM typeOf=pure (vs.map λ_=>Value.type κ.ty)
 |_,_,.nil=>by simp
 |_,_,.cons h r=>by rw[mapM_cons,κ.typ _ _ h,t7 r];simp
theorem Gb {vs:List Value}{as:List κ.O.α}(h:KeysAre κ vs as)(c : 0<vs.length):oneTypeOnly' vs.toArray=pure (some (.type κ.ty)):=by
 rw[oneTypeOnly'_eq,List.mapM_toArray,t7 h];simp only[map_pure,pure_bind];have b:((List.map (λ_=>Value.type κ.ty) vs).toArray.all λx=>x==Value.type κ.ty)=true:=by simp only[List.all_toArray,List.all_map,all_eq_true];intro _ _;simp
 have a:(List.map (λ_=>Value.type κ.ty) vs).toArray[0]?=some (Value.type κ.ty):=by
  cases vs with
  |nil=>simp at c
  |cons v vs=>simp
 rw[a];simp only[b,if_true]
inductive JE (κ:Rq) (h:Heap):List Value->List (List κ.O.α)->Prop
 |nil:JE κ h [] []
 |cons {v:Value}{a : κ.O.α}{as:List κ.O.α}{vs:List Value}{Ol:List (List κ.O.α)}:Mx κ h v (a::as)->JE κ h vs Ol->JE κ h (v::vs) ((a::as)::Ol)
theorem JE.keeps {h h':Heap}{vs:List Value}{a:List (List κ.O.α)}(t:JE κ h vs a)(k:∀ b o,h.get? b=some o->h'.get? b=some o):JE κ h' vs a:=by
 induction t with
 |nil=>exact .nil
 |cons q _ c=>exact .cons (q.keeps k) c
theorem JE.mem {h:Heap}{vs:List Value}{a:List (List κ.O.α)}(t:JE κ h vs a){v:Value}(hv:v∈vs):∃ as,Mx κ h v as:=by
 induction t with
 |nil=>simp at hv
 |cons q _ b =>
  rcases mem_cons.mp hv with e |hv
  ·subst e;exact⟨_,q⟩
  exact b hv
theorem zn {v:Value}{a : κ.O.α}{as:List κ.O.α}{Q:Option Value->Shared->Prop}(t:Mx κ s.heap v (a::as))(q:∀ u,κ.keyOf u=some a->Q (some u) s):wpAny (model prog w) A (firstOfTuple' v) Q E s:=by
 obtain⟨b,o,its,n,rfl,d,hc,hd,c⟩:=t;generalize f:its.toList=l at c;cases c with
 | @cons u _ g _ k r =>
  refine wpAny_bind (wpAny_typeOf ⟨o,d,hc⟩ ?_);rw[if_neg (by decide)];refine wpAny_bind (listItems_at d hd (wpAny_pure ?_));have e:its[0]?=some u:=by rw[← getElem?_toList,f];rfl
  rw[e];exact q u k
theorem yV {vs:List Value}{a:List (List κ.O.α)}(t:JE κ s.heap vs a):∀ {Q:List (Option Value)->Shared->Prop},(∀ us as,KeysAre κ us as->us.length=vs.length->Q (us.map some) s)->wpAny (model prog w) A (vs.mapM firstOfTuple') Q E s:=by
 induction t with
 |nil=>intro Q q;exact wpAny_pure (q [] [] .nil rfl)
 |cons h _ d =>
  intro Q q;rw[mapM_cons];refine wpAny_bind (zn h λu b=>wpAny_bind (d λus as c e=>wpAny_pure ?_));exact q (u::us) (_::as) (.cons b c) (by simp[e])
theorem filterMap_some:∀ (us:List Value),((us.map some).toArray.filterMap id)=us.toArray:=by
 intro us;rw[List.filterMap_toArray];congr 1
 induction us with
 |nil=>rfl
 |cons u us a=>simp[a]
theorem y6 {vs:List Value}{b:List (List κ.O.α)}(t:JE κ s.heap vs b)(g : 0<vs.length){Q:SortKind->Shared->Prop}(q:Q (tuples' true) s):wpAny (model prog w) A (keyKind' vs.toArray) Q E s:=by
 rw[keyKind'_eq,List.mapM_toArray];refine wpAny_bind (wpAny_bind (yV t λa f c d=>wpAny_pure ?_));have e:((a.map some).toArray.all λx=>x.isSome)=true:=by simp
 show wpAny _ _ (if ((a.map some).toArray.all λx=>x.isSome)=true then _ else _) _ _ _;rw[if_pos e];refine wpAny_bind (wpAny_rule ?_);rw[filterMap_some,Gb c (by omega)];refine wpAny_bind (wpAny_pure (wpAny_pure ?_));show Q (tuples' (Value.type κ.ty != Value.type "tuple")) s;rw[κ.nt];exact q
def R1 (κ:Rq)(h:Heap)(v:Value):List κ.O.α:=match v with
 | .ref a=>(match h.get? a with
  |some o=>(match o.data with
   | .seq its _=>its.toList.map λu=>(κ.keyOf u).getD κ.dflt
   |_=>[])
  |none=>[])
 |_=>[]
theorem KeysAre.P9 {vs:List Value}{as:List κ.O.α}(h:KeysAre κ vs as):vs.map (λu=>(κ.keyOf u).getD κ.dflt)=as:=by
 induction h with
 |nil=>rfl
 |cons k _ a=>rw[map_cons,k,a];rfl
theorem v8 {h:Heap}{v:Value}{as:List κ.O.α}(t:Mx κ h v as):R1 κ h v=as:=by obtain⟨b,o,its,n,rfl,c,hc,hd,a⟩:=t;unfold R1;dsimp only;rw[c];dsimp only;rw[hd];exact a.P9
theorem sT {a:Shared}{vs:List Value}{g:List (List κ.O.α)}(t:JE κ a.heap vs g):wK prog w a vs (ua κ.O) (R1 κ a.heap):=by refine⟨tuples' true,λA E h k=>⟨λi j q=>y6 (t.keeps k) (by omega) q,λx y d f st Q e q=>?_⟩⟩;obtain⟨l,b⟩:=t.mem d;obtain⟨bs,c⟩:=t.mem f;rw[v8 b,v8 c] at q;rw[lt'_eq];refine wpS_bind (wpS_get ?_);rw[e];exact wpS_bind (wpS_lift (wpAny_attempt (qM (b.keeps k) (c.keeps k) ⟨rfl,wpS_pure q⟩)))
end
end L2
namespace L2
open PySem PySem.Spec PyProof.Rows PySem.W
section
variable {X:Cx}{W:WT}
def tupI:D->Option (List Int)
 | .tup a=>match cu a with
  |some (n::ns)=>some (n::ns)
  |_=>none
 |_=>none
def u6 {α:Type}(f:D->Option α):List D->Option (List α)
 |[]=>some []
 |d::r=>(f d).bind λa=>(u6 f r).map (a::·)
def og {α:Type}(lt : α->α->Bool):List α->List α->Bool
 |[],[]=>false
 |[],_::_=>true
 |_::_,[]=>false
 |a::as,b::bs=>if (!lt a b&&!lt b a)=true then og lt as bs else lt a b
def v5 (a b:List Int):Bool:=!og (λx y=>decide (x<y)) b a
noncomputable def qV:List D->Option D
 |[.lst xs]=>(u6 tupI xs).bind λa => @ite _ (xs.length<=sizeLine/\Spec (og λ(x y:Int)=>decide (x<y)) a) (Classical.propDecidable _) (some (.lst ((a.mergeSort v5).map λns => .tup (ns.map .int)))) none
 |_=>none
theorem rD (O:PyProof.Rows.KeyOrd):∀ as bs:List O.α,cX O as bs=og O.blt as bs
 |[],[]=>rfl
 |[],_::_=>rfl
 |_::_,[]=>rfl
 |a::as,b::bs=>by rw[cX,og,rD O as bs]
theorem yD {K:IF}{H:Hp}{J:List Addr}{out us:List Value}(p:out.Perm us):∀ {vs:List V}{ds:List D},Vals vs us->IT K H J ds vs->∃ f e,Vals f out/\IT K H J e f/\e.Perm ds:=by
 induction p with
 |nil=>intro vs ds r m;exact⟨vs,ds,r,m,.refl _⟩
 |cons x p o =>
  intro vs ds r m;cases r with
  | @cons v _ w _ g h =>
   cases ds with
   |nil=>cases IT.IV.mp m
   |cons d ds =>
    obtain⟨m1,m2⟩:=m.IU;obtain⟨f,e,a,b,c⟩:=o h m2;exact⟨v::f,d::e,.cons g a,.cons m1 b,.cons d c⟩
 |swap x y l =>
  intro vs ds r m;cases r with
  | @cons v _ w _ g h=>cases h with
   | @cons B _ F _ G u =>
    cases ds with
    |nil=>cases IT.IV.mp m
    |cons d ds=>cases ds with
     |nil=>obtain⟨_,m2⟩:=m.IU;cases IT.IV.mp m2
     |cons i ds =>
      obtain⟨m1,m2⟩:=m.IU;obtain⟨I,j⟩:=m2.IU;exact⟨B::v::F,i::d::ds,.cons G (.cons g u),.cons I (.cons m1 j),.swap d i ds⟩
 |trans _ _ z C =>
  intro vs ds r m;obtain⟨E,t,a,b,c⟩:=C r m;obtain⟨A,s,n,q,k⟩:=z a b;exact⟨A,s,n,q,k.trans c⟩
theorem u4 {α:Type}{f:D->Option α}{g : α->D}(b:∀ d a,f d=some a->d=g a):∀ {ds:List D}{as:List α},u6 f ds=some as->ds=as.map g
 |[],as,h=>by cases h;rfl
 |d::ds,as,h=>by
  obtain⟨a,c,j⟩:=bind_eq_some_iff.mp (show (f d).bind _=some as from h);obtain⟨r,e,i⟩:=map_eq_some_iff.mp j;subst i;rw[map_cons,b d a c,u4 b e]
theorem u5 {α:Type}{f:D->Option α}:∀ {ds:List D}{as:List α},u6 f ds=some as->∀ a∈as,∃ d,f d=some a
 |[],as,h,a,ha=>by cases h;simp at ha
 |d::ds,as,h,a,ha=>by
  obtain⟨b,c,j⟩:=bind_eq_some_iff.mp (show (f d).bind _=some as from h);obtain⟨r,g,i⟩:=map_eq_some_iff.mp j;subst i;rcases mem_cons.mp ha with e |ha
  ·subst e;exact⟨d,c⟩
  exact u5 g a ha
theorem wR {d:D}{ns:List Int}(h:tupI d=some ns):d = .tup (ns.map .int)/\ns≠[]:=by
 unfold tupI at h;split at h
 ·split at h
  ·rename_i e;cases h;rw[fq e];exact⟨rfl,by simp⟩
  cases h
 cases h
theorem Aw {α:Type}{g : α->D}{l:List D}{as:List α}(h:l.Perm (as.map g)):∃ bs:List α,l=bs.map g/\bs.Perm as:=by
 generalize e:as.map g=l2 at h
 induction h generalizing as with
 |nil=>cases as with
  |nil=>exact⟨[],rfl,.refl _⟩
  |cons a as=>cases e
 |cons x p i=>cases as with
  |nil=>cases e
  |cons a as =>
   rw[map_cons] at e;obtain⟨rfl,n⟩:=List.cons.inj e;obtain⟨bs,c,d⟩:=i n;exact⟨a::bs,by rw[map_cons,c],.cons a d⟩
 |swap x y l=>cases as with
  |nil=>cases e
  |cons a as=>cases as with
   |nil=>simp at e
   |cons b as =>
    simp only[map_cons,List.cons.injEq] at e;obtain⟨rfl,rfl,rfl⟩:=e;exact⟨b::a::as,rfl,.swap a b as⟩
 |trans _ _ j k =>
  obtain⟨bs,c,d⟩:=k e;obtain⟨o,m,f⟩:=j (as:=bs) c.symm;exact⟨o,m,f.trans d⟩
theorem qa:∀ {us:List Value}{ns:List Int},IntsAre us ns->KeysAre L4 us ns
 |_,_,.nil => .nil
 |_,_,.cons n t r => .cons rfl (qa r)
section
variable {X:Cx}{pins:II}{σ:St}{H:Hp}{s:Shared}{J:List Addr}
theorem B3 (I:Inv X pins σ H s){ns:List Int}{v:V}{u:Value}(m:At X.K H J (.tup (ns.map .int)) v)(r:RelV v u):Mx L4 s.heap u ns:=by obtain⟨a,d,rfl,q,z⟩:=At.Jb.mp m;cases r;obtain⟨its,c,⟨o,b,hc,n,hd⟩,_⟩:=I.tuple q.sq;have e:=IT.Lp z;subst e;exact⟨a,o,its.toArray,n,rfl,b,hc,hd,by simpa using qa (intsAre_of c)⟩
theorem nw (I:Inv X pins σ H s):∀ {c:List (List Int)}{vs:List V}{us:List Value},(∀ ns∈c,ns≠[])->IT X.K H J (c.map λns => .tup (ns.map .int)) vs->Vals vs us->JE L4 s.heap us c/\us.map (R1 L4 s.heap)=c
 |[],vs,us,_,m,r=>by cases IT.IV.mp m;cases r;exact⟨.nil,rfl⟩
 |ns::c,vs,us,h0,m,r=>by
  obtain⟨v,g,rfl,m1,m2⟩:=IT.IQ.mp m;cases r with
  |cons e f =>
   obtain⟨a,b⟩:=nw I (λx d=>h0 x (mem_cons_of_mem _ d)) m2 f;have t:=B3 I m1 e;have ne:=h0 ns (mem_cons_self ..);cases ns with
   |nil=>exact absurd rfl ne
   |cons n ns=>exact⟨.cons t a,by rw[map_cons,v8 t,b];rfl⟩
end
theorem A6 {j:Type}{O:PyProof.Rows.KeyOrd}{key : j->List O.α}(inj:∀ a b,key a=key b->a=b){l f:List j}(m:f.Perm l)(o:f.Pairwise λa b=>(ua O).kle (key a) (key b)):f=l.mergeSort λa b => !cX O (key b) (key a):=by
 refine List.Perm.eq_of_pairwise (le:=λa b=>(!cX O (key b) (key a))=true) (λa b _ _ h g=>inj _ _ ?_) (o.imp λh=>?_) (List.pairwise_mergeSort (λa b c h g=>?_) (λa b=>?_) l) (m.trans (mergeSort_perm l _).symm)
 ·have k:cX O (key a) (key b)=false:=by simpa using g
  have i:cX O (key b) (key a)=false:=by simpa using h
  exact(ua O).total _ _ k i
 ·have i:cX O _ _=false:=h;rw[i];rfl
 ·have e:(ua O).kle (key a) (key b):=by show cX O (key b) (key a)=false;simpa using h
  have d:(ua O).kle (key b) (key c):=by show cX O (key c) (key b)=false;simpa using g
  have n:cX O (key c) (key a)=false:=PyProof.Rows.KeyOrd.kle_trans e d;rw[n];rfl
 cases e:cX O (key b) (key a) with
 |false=>rfl
 |true =>
  have d:cX O (key a) (key b)=false:=PyProof.Rows.KeyOrd.klt_asymm (O:=ua O) e;rw[d];rfl
theorem Bv:jw X (.builtin "sorted") qV:=by
 intro G s σ H xs us Q I r h;obtain⟨J,ds,d,hJ,m,e,q⟩:=h;unfold qV at e;split at e
 ·rename_i ys;obtain⟨c,es,e⟩:=bind_eq_some_iff.mp e;split at e
  ·rename_i C;obtain⟨C,P⟩:=C;cases e;obtain⟨v,w,rfl,a,n⟩:=IT.IQ.mp m;cases IT.IV.mp n;obtain⟨p,zs,rfl,t,A⟩:=At.Jc.mp a;obtain⟨u,rfl,R⟩:=vals1 r;cases R;obtain⟨its,j,⟨o,nn,ho,hc,_,hd⟩,T⟩:=I.list t.sq;have ed:=u4 (λd a h=>(wR h).1) es;have ne:∀ ns∈c,ns≠[]:=λns W=>let ⟨d,h⟩:=u5 es ns W;(wR h).2;subst ed;have D:its.length<=sizeLine:=by rw[← j.length,← A.length];exact C
   refine B_ (wpAny_collect_seq p (.inl rfl) ho hc hd (λN k=>?_) (by rw[size_toArray,← j.length];exact T));have g:=I.kept (t':=s.toks) k;obtain⟨S,ZO⟩:=nw g ne A j;have B:cX KH=og (λ(x y:Int)=>decide (x<y)):=by funext a b;exact rD KH a b
   refine⟨by simpa using D,ua L4.O,R1 L4 N,sT (by simpa using S),?_,λo h2 ep i Y k2 NY=>?_⟩
   ·have ZP : @Spec (List KH.α) (cX KH) c:=Eq.mpr (congrArg (λf => @Spec (List Int) f c) B) P;have Z:List.map (R1 L4 N) its.toArray.toList=c:=by simpa using ZO
    exact Eq.mpr (congrArg (λl => @Spec (List KH.α) (cX KH) l) Z) ZP
   have i:o.toList.Perm its:=by simpa using i
   obtain⟨F,XH,z,K,a3⟩:=yD i j A;obtain⟨L,e2,M⟩:=Aw a3;subst e2;have hk:=(nw g (λx hx=>ne x (M.mem_iff.mp hx)) K z).2;have V:L.Pairwise λa b=>(ua KH).kle a b:=by have:=pairwise_map.mpr Y;rw[hk] at this;exact this
   have B:(λ(a b:List Int) => !cX KH b a)=v5:=by funext a b;unfold v5;exact congrArg Bool.not (rD KH b a)
   have U:L=c.mergeSort v5:=by rw[← B];exact A6 (O:=KH) (key:=λ(a:List Int)=>a) (λa b h=>h) M V
   subst U;have E:F.length<=sizeLine:=by rw[z.length,i.length_eq];exact D
   exact⟨.ref _,_,g.laid (t':=s.toks) (o:=.lst F) k2 (le_refl _) ⟨E,o.toList,ep,z,by simpa using NY⟩,rfl,q _ _ (aN g.fresh _) (At.La K g.fresh hJ E)⟩
  cases e
 cases e
end
mutual
def LP (n:Nat):D->Bool
 | .tup a=>mR n a
 | .lst a=>mR n a
 | .set a=>mR n a
 | .loc l=>decide (l<n)
 |_=>true
def mR (n:Nat):List D->Bool
 |[]=>true
 |d::ds=>LP n d&&mR n ds
end
section
variable {K:IF}{H H2:Hp}{J J2:List Addr}
theorem TQ.back {a:Addr}{xs:List V}(h:TQ K H J2 a xs)(p:J <+: J2):TQ K H J a xs:=h.elim (λz => .inl ⟨z.1,λm=>z.2.1 (p.subset m),z.2.2⟩) .inr
theorem LQ.back {a:Addr}{xs:List V}(h:LQ K H J2 a xs)(p:J <+: J2):LQ K H J a xs:=h.elim (λz => .inl ⟨z.1,λm=>z.2.1 (p.subset m),z.2.2⟩) .inr
theorem Ap {l:Nat}{a:Addr}(p:J <+: J2)(b:l<J.length)(h:J2[l]?=some a):J[l]?=some a:=by obtain⟨r,rfl⟩:=p;rwa [getElem?_append_left b] at h
mutual
theorem At.LP:∀ {d:D}{v:V},At K H J d v->L2.LP J.length d=true
 | .Ji,_,_=>rfl
 | .bl _,_,_=>rfl
 | .int _,_,_=>rfl
 | .str _,_,_=>rfl
 | .fn _ _,_,_=>rfl
 | .tup c,_,h=>by obtain⟨a,b,_,_,r⟩:=At.Jb.mp h;rw[L2.LP];exact IT.LP r
 | .lst c,_,h=>by obtain⟨a,b,_,_,r⟩:=At.Jc.mp h;rw[L2.LP];exact IT.LP r
 | .set c,_,h=>by obtain⟨a,e,b,_,_,_,_,r⟩:=At.LM.mp h;rw[L2.LP];exact IT.LP r
 | .loc l,_,h=>by obtain⟨a,_,q⟩:=At.I_.mp h;exact decide_eq_true (List.getElem?_eq_some_iff.mp q).1
theorem IT.LP:∀ {ds:List D}{vs:List V},IT K H J ds vs->mR J.length ds=true
 |[],_,_=>rfl
 |d::ds,_,h=>by obtain⟨v,r,_,p,q⟩:=IT.IQ.mp h;rw[mR,At.LP p,IT.LP q];rfl
end
mutual
theorem At.back (p:J <+: J2):∀ {d:D}{v:V},At K H J2 d v->L2.LP J.length d=true->At K H J d v
 | .Ji,_,h,_=>by rw[At.Jw] at h ⊢;exact h
 | .bl _,_,h,_=>by rw[At.Jn] at h ⊢;exact h
 | .int _,_,h,_=>by rw[At.IP] at h ⊢;exact h
 | .str _,_,h,_=>by rw[At.Je] at h ⊢;exact h
 | .fn _ _,_,h,_=>by rw[At.OU] at h ⊢;exact h
 | .tup c,_,h,i=>by
  obtain⟨a,b,e,q,r⟩:=At.Jb.mp h;rw[L2.LP] at i;exact At.Jb.mpr ⟨a,b,e,q.back p,IT.back p r i⟩
 | .lst c,_,h,i=>by
  obtain⟨a,b,e,q,r⟩:=At.Jc.mp h;rw[L2.LP] at i;exact At.Jc.mpr ⟨a,b,e,q.back p,IT.back p r i⟩
 | .set c,_,h,i=>by
  obtain⟨a,f,b,e,q,n,z,r⟩:=At.LM.mp h;rw[L2.LP] at i;exact At.LM.mpr ⟨a,f,b,e,q,λm=>n (p.subset m),z,IT.back p r i⟩
 | .loc l,_,h,i=>by
  obtain⟨a,e,q⟩:=At.I_.mp h;rw[L2.LP,decide_eq_true_eq] at i;exact At.I_.mpr ⟨a,e,Ap p i q⟩
theorem IT.back (p:J <+: J2):∀ {ds:List D}{vs:List V},IT K H J2 ds vs->mR J.length ds=true->IT K H J ds vs
 |[],_,h,_=>by rw[IT.IV] at h ⊢;exact h
 |d::ds,_,h,i=>by
  obtain⟨v,r,e,q,z⟩:=IT.IQ.mp h;rw[mR,and_eq_true] at i;exact IT.IQ.mpr ⟨v,r,e,At.back p q i.1,IT.back p z i.2⟩
end
theorem iD {α d:Type}{R R2 T : α->d->Prop}{l:List α}:∀ {m m2:List d},Paired T l m2->Paired R l m->(∀ a b c,T a c->R a b->R2 a b)->Paired R2 l m:=by
 intro m m2 t r h
 induction r generalizing m2 with
 |nil=>exact .nil
 |cons q _ e=>cases t with
  |cons f t2=>exact .cons (h _ _ _ f q) (e t2)
theorem OG.back (p:J <+: J2){o:MO}{a:Addr}(old:OG K H J o a)(h:OG K H2 J2 o a):OG K H2 J o a:=by
 cases o with
 |lst A =>
  obtain⟨_,_,b⟩:=old;obtain⟨j,q,r⟩:=h;exact⟨j,q,r.back p b.LP⟩
 |exc c=>obtain⟨C,q,r⟩:=h;exact⟨C,q,r⟩
 |dict f =>
  obtain⟨_,_,b⟩:=old;obtain⟨d,q,r⟩:=h;exact⟨d,q,iD b r λx y z t u=>⟨⟨u.1.1,u.1.2.back p t.1.2.LP⟩,u.2.back p t.2.LP⟩⟩
 |Jf f =>
  obtain⟨_,_,b⟩:=old;obtain⟨d,q,r⟩:=h;exact⟨d,q,iD b r λx y z t u=>⟨⟨u.1.1,u.1.2.back p t.1.2.LP⟩,u.2.back p t.2.LP⟩⟩
 |ins c fs =>
  obtain⟨_,_,_,_,_,b⟩:=old;obtain⟨C,v,m,n,q,r⟩:=h;exact⟨C,v,m,n,q,iD b r λx y z t u=>⟨u.1,u.2.back p t.2.LP⟩⟩
 |tab x q =>
  obtain⟨c,d,n,k,g,l⟩:=h;exact⟨c,d,n,k,g,λpos i e=>let ⟨s,z1,z2,w⟩:=l pos i e;⟨s,z1,λz=>z2 (p.subset z),w⟩⟩
end
section
variable {X:Cx}{W:WT}{e:Expr}{f:IE D}
noncomputable def kI (f:IE D):IE D:=λa S=>match f a S with
 |some (.ok (.loc l),S2)=>(match S2[l]? with
  |some (.lst xs) => @ite _ (S.length<=l/\S2.take S.length=S/\mR S.length xs=true/\xs.length<=sizeLine) (Classical.propDecidable _) (IX (.lst xs) S) none
  |_=>none)
 |_=>none
theorem yj (h:SE X W e f):SE X W e (kI f):=PE.imp h λM H Q t=>by
 obtain⟨J,A,S,r,N,c,m,eq,z⟩:=t;unfold kI at eq;split at eq
 ·rename_i l p C;split at eq
  ·rename_i L ex;split at eq
   ·rename_i hc;obtain⟨O,w,G,D⟩:=hc;cases eq;refine⟨J,A,S,_,p,c,m,C,λB v b x so at_=>?_⟩;have i:=c.Jr.len;obtain⟨a,rfl,s⟩:=At.I_.mp at_;obtain⟨E,K,n⟩:=so.at_ l a _ s ex;have I:a∉J:=λF=>by obtain⟨k,d⟩:=getElem?_of_mem F;have q:=(List.getElem?_eq_some_iff.mp d).1;have j:B[k]?=some a:=mX x.pre d;have:=(List.getElem?_inj (List.getElem?_eq_some_iff.mp j).1 so.nd).mp (j.trans s.symm);omega
    refine z J v (.ref a) ⟨prefix_refl _,λb o hb u=>⟨(x.keep b o hb u).1,u⟩⟩ ⟨i,c.Jr.nd,λk b o d g=>?_⟩ (At.Jc.mpr ⟨a,E,rfl,?_,n.back x.pre (by rw[i];exact G)⟩)
    ·have q:k<S.length:=(List.getElem?_eq_some_iff.mp g).1;have y:p[k]?=some o:=by rw[← g,← w,getElem?_take,if_pos q]
     exact(c.Jr.at_ k b o d g).back x.pre (so.at_ k b o (mX x.pre d) y)
    exact .inl ⟨.inl K,I,by rw[← n.length];exact D⟩
   cases eq
  cases eq
 cases eq
end
section
variable {X:Cx}{W:WT}{pos pos':Pos}{o i e:Expr}{fo fi fv:IE D}{x:Str}
def xi:D->D->Option D
 | .int a,.int b=>if gq a b then some (.int (a*b)) else none
 |_,_=>none
def ZQ:QR:=λx y H Q => ∃ i j,x = .int i/\y = .int j/\gq i j=true/\Q (.int (i*j)) H
theorem E5:Ur X .Mult ZQ:=by intro a s f H x y v u Q I c d h;obtain⟨i,j,b,e,k,q⟩:=h;subst b;subst e;obtain⟨t,rfl⟩:=c;obtain⟨g,rfl⟩:=d;exact PyProof.Rows.imul_int ⟨.int _,H,I.tok _,⟨_,rfl⟩,q⟩ (xh k).ok
def uQ (n:Nat)(fv:IE D):IE Fl:=λa S=>match a[n]? with
 |some (some d)=>ai (fv a S) λy b=>aJ ((xi d y).map λz=>Fl.next (a.set n (some z))) b
 |_=>none
theorem B8 {n:Nat}(t:X.N.Nodup)(m:SE X W e fv)(B:X.N[n]?=some x:=by rfl)(i:Loc X.env.scope x:=by first |exact Or.inl rfl |exact Or.inr rfl)
  (u:X.fn x=true∨X.env.scope.names.lookup x=some .local:=by first |exact .inl rfl |exact .inr rfl |assumption) :
  SS X W (.AugAssign (.Name x pos') .Mult e pos) (uQ n fv):=(Ew t B i m E5 u).imp λE G H h=>by
 obtain⟨J,f,S,r,I,c,eq,z⟩:=h;unfold uQ at eq;split at eq
 ·rename_i d hd;obtain⟨v,o,g⟩:=c.env n d hd;refine⟨v,o,?_⟩;cases q:fv f S with
  |none=>rw[q] at eq;cases eq
  |some p =>
   obtain⟨l,D⟩:=p;rw[q] at eq;cases l with
   |error C=>cases eq;exact⟨J,f,S,_,_,c,.nil,q,z⟩
   |ok y =>
    simp only[fC] at eq;cases hg:xi d y with
    |none=>rw[hg] at eq;cases eq
    |some F =>
     rw[hg] at eq;cases eq;refine⟨J,f,S,_,_,c,.nil,q,λs j b x2 A m2=>?_⟩;unfold xi at hg;split at hg
     ·split at hg
      ·rename_i a w k;cases hg;cases At.IP.mp g;cases At.IP.mp m2;exact⟨a,w,rfl,rfl,k,z s _ j x2 ((c.re x2 A).set (At.IP.mpr rfl))⟩
      cases hg
     cases hg
 cases eq
end
section
variable {X:Cx}{W:WT}{pos pos':Pos}{o i e:Expr}{fo fi fv:IE D}{x:Str}
theorem Bh:GO X (F0 X.K):=by
 intro a s m H x y v u Q I f n h;obtain⟨p,D,i,z,rfl,rfl,C,g,q⟩:=h;cases f;obtain⟨t,rfl⟩:=n;obtain⟨its,r,pl,F⟩:=I.list C;obtain⟨j,b,k,G,o,l⟩:=kK g;obtain⟨w,d,A⟩:=r.get k;have B:=r.length;have E:=jE;have fin:EP X a m Q w s:=⟨z,H,I,A,q⟩;by_cases e : 0<=i
 ·have c:i.toNat=j:=by
   rw[seqIndex_of e l] at b;exact Option.some.inj b
  exact wpAny_getItem_list pl.isList e (by omega) (by rw[c];simpa using d) fin
 have c:(i+(its.toArray.size:Int)).toNat=j:=by rw[seqIndex_neg (by omega) o] at b;rw[size_toArray,← B];exact Option.some.inj b
 exact wpAny_getItem_list_neg pl.isList (by omega) (by rw[size_toArray]<;>omega) (by omega) (by rw[c];simpa using d) fin
def xS:D->D->Option D
 | .int a,.int b=>some (.int (a+b))
 |_,_=>none
def uR (fo fi fv:IE D):IE Fl:=λb S=>ai (fo b S) λx f=>ai (fi b f) λk c=>ai (aJ (lA x k c) c) λa e=>ai (fv b e) λy d=>match xS a y with
 |some z=>jr x k z b d
 |none=>none
theorem B9 (ho:SE X W o fo)(hi:SE X W i fi)(P:SE X W e fv)
  (N:∀ p n new,augStore i p n new=(do holding [new,p,n] (setItem p n new);release [new,p,n] [];pure .next):=by intros;rfl):SS X W (.AugAssign (.Subscript o i pos') .Add e pos) (uR fo fi fv):=
 (Cu ho hi Bh P E6 set_list N).imp λE s H h=>by
  have h:tH X W [] [] (uR fo fi fv) E s H:=let ⟨J,f,S,r,t,c,e,z⟩:=h;⟨J,f,S,r,t,c,.nil,e,z⟩;refine(tH.IZ h).mono λox H1 ⟨dx,G⟩=>(tH.IZ G).mono λik O ⟨dk,Q⟩=>?_;obtain⟨J,f,S,r,t,c,m,e,z⟩:=Q;obtain⟨mk,m1⟩:=m.IU;obtain⟨mx,_⟩:=m1.IU
  try dsimp only at e
  cases q:lA dx dk S with
  |none=>rw[q] at e;cases e
  |some g =>
   rw[q,bA,cD] at e;have q0:=q;unfold lA at q;split at q
   ·rename_i k;obtain⟨xs,g1,g2⟩:=bind_eq_some_iff.mp q;obtain⟨l,B,us,rfl,rfl,hq,es,D,I⟩:=lm c.Jr mx g1;cases At.IP.mp mk;obtain⟨w,e1,a1⟩:=sj I g2;refine⟨B,us,k,w,rfl,rfl,.inl (.inl D),e1,?_⟩
    have M:tH X W [g,.int k,.loc l] [w,.int k,.ref B] (λf L=>ai (fv f L) λy S4=>match xS g y with
     |some z=>jr (.loc l) (.int k) z f S4
     |none=>none) E s O:=⟨J,f,S,r,t,c,.cons a1 m,e,z⟩
    refine(tH.IZ M).mono λy H3 ⟨u,V⟩=>?_;obtain⟨J2,x,S2,Y,F,v,m2,d,z2⟩:=V;obtain⟨T,m2⟩:=m2.IU;obtain⟨K,m2⟩:=m2.IU;obtain⟨_,m2⟩:=m2.IU;obtain⟨Tu,_⟩:=m2.IU
    try dsimp only at d
    cases hz:xS g u with
    |none=>rw[hz] at d;cases d
    |some U =>
     rw[hz] at d
     obtain⟨a,b,rfl,rfl,rfl⟩:∃ a b,g = .int a/\u = .int b/\U = .int (a+b):=by
      cases g<;>first |(cases hz;done) |(cases u<;>first |(cases hz;done) |(cases hz;exact⟨_,_,rfl,rfl,rfl⟩))
     cases At.IP.mp K;cases At.IP.mp T;refine⟨a,b,rfl,rfl,?_⟩;have d:jr (.loc l) (.int k) (.int (a+b)) x S2=some (Y,F):=d;unfold jr at d;simp only at d;split at d
     ·rename_i Tv Qn;split at d
      ·rename_i j ej;cases d;obtain⟨a',ea,C⟩:=At.I_.mp Tu;cases ea;obtain⟨O7,Tx,A⟩:=v.Jr.at_ l _ _ C Qn;have up:=v.Jr.update (o:=.lst (O7.set j (.int (a+b)))) (mo:=.lst (Tv.set j (.int (a+b)))) C λJ' H' Z R eJ=>by subst R eJ;exact⟨_,IY,IT.set (At.IP.mpr rfl) j (A.ex Z)⟩
       exact⟨_,O7,k,j,rfl,rfl,Tx,by rw[← A.length];exact ej,z2 J2 s _ up.2 (v.re up.2 up.1)⟩
      cases d
     cases d
   cases q
end
def UM (lo:Int)(n:Nat):It:=⟨λi _=>i<n,λi H x a=>a=H/\x = .int (lo-i),λi _=>n<=i⟩
theorem ya {P:Program}{w:World}{K:IF}{D:Expr}(it:Addr)(lo:Int)(n:Nat):Turn P w K D (UM lo n) [it] it (λi h=>IsRangeIter h it (lo+(i:Nat)*(-1)) ((n:Int)-(i:Nat)) (-1)) where
 mem:=by simp
 obj:=λi h st b hb=>by
  have e:b=it:=by simpa using hb
  subst e
  exact⟨_,st,λv z=>by
   have C:Data.fields _=Data.cell v:=z
   cases C⟩
 keep:=λi h d st k=>k it (by simp) _ st
 item:=by
  intro X r l m hc i a s y H E I c st f;subst r l m;obtain⟨g,j,J,p,u,q⟩:=c it (by simp);have W:=Walks.range (prog:=X.prog) (w:=X.w) (I.ok.hd hc) it lo (-1) n;refine W.item i s _ _ f st λv d tk B x F=>?_;obtain⟨t,rfl⟩:=B;have G:Inv X a y H { s with heap:=d,toks:=tk }:=I.turned (λb o hb e=>F b o (by simpa using hb) e) g j p u q;refine⟨_,rfl,uo (s:={ s with heap:=d,toks:=tk }) (n:="range_iterator") x rfl rfl (by decide) ⟨.int (lo-i),H,G,⟨t,?_⟩,⟨rfl,rfl⟩,x,λb hb=>(c b hb).1⟩⟩;rw[show lo+(i:Int) * -1=lo-i by omega]
 done:=by
  intro X r l m hc i a s y H E I c st f;subst r l m;obtain⟨g,j,J,p,u,q⟩:=c it (by simp);exact wpAny_pyNext_range_end (I.ok.hd hc) st (by have:n<=i:=f;omega) λd A=>⟨rfl,I.turned (t':=s.toks) (λb o hb e=>A b o hb e) g j p u q⟩
 self:=λ_ _ _ _ _ st h=>wpAny_pyIter_rangeiter st h
theorem pD (a b:Int):Builtin.Range.rangeSize a b (-1)=if b<a then a-b else 0:=by unfold Builtin.Range.rangeSize;simp only[show ¬ (-1:Int) > 0 by decide,if_false,Int.neg_neg,Int.ediv_one];split<;>omega
section
variable {X:Cx}{tg:Expr}{W:WT}{pos:Pos}
theorem yo {c:II}{d:St}{H:Hp}{s:Shared}{R:It->Hp->Prop}{E:IG}{lo a:Int}{t u v:Tok}{tk:Nat}(I:Inv X c d H s)(j : -(2 ^ 62)<=lo)(i:lo<2 ^ 62)(l : -(2 ^ 62)<=a)(k:a<2 ^ 62)
  (q:R (UM lo (lo-a).toNat) H):wpAny (model X.prog X.w) X.A (pyIter (.ref s.heap.objs.size)) (U8 X c d tg R) E { s with heap:=s.heap.push { cls:=.type "range",data:=.fields #[.int lo t,.int a u,.int (-1) v] },toks:=tk }:=by
 refine wpAny_pyIter_range (IsRange.new ..) ?_ ?_
 ·unfold Builtin.Range.small;rw[pD];simp only[Builtin.Range.rangeFitsLong,and_eq_true,or_eq_true,decide_eq_true_eq,beq_iff_eq,show ¬ (-1:Int) > 0 by decide,if_false];split<;>omega
 have f:Inv X c d H { s with heap:=s.heap.push { cls:=.type "range",data:=.fields #[.int lo t,.int a u,.int (-1) v] },toks:=tk }:=I.kept λb o e=>Heap.get?_push_of_some _ e
 refine⟨(s.heap.push { cls:=.type "range",data:=.fields #[.int lo t,.int a u,.int (-1) v] }).objs.size,[(s.heap.push { cls:=.type "range",data:=.fields #[.int lo t,.int a u,.int (-1) v] }).objs.size],_,_,H,rfl,
  f.kept (t':=tk) λb o e=>Heap.get?_push_of_some _ e,ya _ lo (lo-a).toNat,?_,λb hb=>?_,q⟩
 ·have g:lo+((0:Nat):Int)*(-1)=lo:=by simp
  have h:(((lo-a).toNat:Nat):Int)-((0:Nat):Int)=Builtin.Range.rangeSize lo a (-1):=by rw[pD];split<;>omega
  show IsRangeIter _ _ (lo+((0:Nat):Int)*(-1)) ((((lo-a).toNat:Nat):Int)-((0:Nat):Int)) (-1);rw[g,h];exact Heap.get?_push_size _ rfl
 have e:b=(s.heap.push { cls:=.type "range",data:=.fields #[.int lo t,.int a u,.int (-1) v] }).objs.size:=by simpa using hb
 subst e;exact f.KY (le_refl _) (f.Jk.fresh (le_refl _))
theorem yB {a b c:Expr}{m:TA}{p pos:Pos}(u:Gl X "range")(y:X.mg "range"=none)(B:PA X [a,b,c] m)(A:starEach [a,b,c] X.env=(false,eval a X.env)::starEach [b,c] X.env:=by rfl)(v:(backTo pos (starEach [b,c] X.env)).any (·.1)=false:=by rfl) :
  PI X tg (.Call (.Name "range" p) [a,b,c] [] pos) (λg H R=>m g H λvs l => ∃ i j:Int,vs=[.int i,.int j,.int (-1)]/\(-1000<=i/\i<2 ^ 25/\-1000<=j/\j<2 ^ 25)/\R (UM i (i-j).toNat) l):=by
 intro f s g H R I h;refine Call_ (gH I u y boot_range (PyProof.Rows.callWith_type1 (Jj (B pos f s g H _ I h) λG C x=>?_) A v));obtain⟨vs,l,z,o,k⟩:=x;obtain⟨i,j,e,⟨k,J,D,E⟩,q⟩:=k;subst e;cases o with
 |cons r d =>
  cases d with
  |cons n d =>
   cases d with
   |cons w d =>
    cases d;obtain⟨t,rfl⟩:=r;obtain⟨F,rfl⟩:=n;obtain⟨t2,rfl⟩:=w;exact call_range_3 (by decide) (yo z (by omega) (by omega) (by omega) (by omega) q)
def tf:List D->Option (List D)
 |[.int i,.int j,.int k]=>if -1000<=i/\i<16000000/\-1000<=j/\j<2 ^ 25/\k = -1 then some ((List.range (i-j).toNat).map λ(k:Nat)=>D.int (i-k)) else none
 |_=>none
theorem Walk.down {J:List Addr}{H:Hp}(lo:Int)(n:Nat)(hz:n<=sizeLine):Walk X (UM lo n) ((List.range n).map λ(k:Nat)=>D.int (lo-k)) J H where
 len:=by rw[length_map,length_range];exact hz
 go:=λc b i x a=>by rw[length_map,length_range] at a;exact a
 Nz:=λc b i v e x d a y=>by
  obtain⟨rfl,rfl⟩:=y;rw[length_map,length_range] at a;exact⟨.int (lo-i),by rw[getElem?_map,getElem?_range a];rfl,At.IP.mpr rfl,I0.refl _⟩
 stop:=λc b i x a=>by rw[length_map,length_range] at a;exact a
theorem yh {tg a b c:Expr}{t:IE (List D)}{x:Str}{p:Pos}(f:x="range")(y:X.mg x=none)(B:SA X W [a,b,c] t)(g:Gl X x:=by rfl)(A:starEach [a,b,c] X.env=(false,eval a X.env)::starEach [b,c] X.env:=by rfl)(q:(backTo pos (starEach [b,c] X.env)).any (·.1)=false:=by rfl) :
  SI X W tg (.Call (.Name x p) [a,b,c] [] pos) (f7 tf t):=by
 subst f;refine PI.imp (yB g y B A q) λG H R h=>(iB h).mono λM u w=>?_;obtain⟨J,S,es,F,s,m,d,z⟩:=w;unfold tf at d;split at d
 ·rename_i i j k;split at d
  ·rename_i c;obtain⟨E,C,N,L,rfl⟩:=c;cases d;obtain⟨v,r,rfl,e,n⟩:=IT.IQ.mp m;obtain⟨K,I,rfl,l,n⟩:=IT.IQ.mp n;obtain⟨P,O,rfl,o,n⟩:=IT.IQ.mp n;cases IT.IV.mp n;cases At.IP.mp e;cases At.IP.mp l;cases At.IP.mp o;exact⟨i,j,rfl,⟨by omega,by omega,by omega,by omega⟩,z u _ (I0.refl _) (Walk.down i (i-j).toNat (by show (i-j).toNat<=16777216;omega))⟩
  cases d
 cases d
end
theorem Bn (l:Addr)(items:Array Value)(n:Nat)(b:Addr)(a:Array Value)(n2:Nat)(od:Option Addr)(e:Array (Option Value))(f:¬(!items.isEmpty&&Builtin.List.listTooLong (items.size+a.size))=true)(j:items.size<=sizeLine)(k:items.size+a.size<=sizeLine+1) :
  Meets (Builtin.«list.extend» ⟨[.ref l,.ref b],[]⟩) (λ_ R s=>s.heap.get? l=some { cls:=.type "list",data:=.seq items n }/\s.heap.get? b=some { cls:=.type "tuple",dict:=od,data:=.seq a n2,slots:=e }/\R (.ok (.ret Value.none)) { s with heap:=s.heap.update l (Obj.mapSeq λx=>x++a) }):=
 .of_wp λprog w A R s h=>by
  obtain⟨o,g,d,tk,os⟩:=s;obtain⟨c,hb,h⟩:=h;have q:=AutoSeq1.sub_tuple_tuple;have m:=AutoSeq1.sub_list_list;have r:=AutoSeq1.sub_tuple_list;have p:=AutoSeq1.sub_list_tuple;have i:(items++a).size<=sizeLine+1:=by rw[size_append];exact k
  wp_walk using (wpAny_updateSeq c rfl (hz:=j) (_hz':=i)),AutoSeq1.wpAny_loadPart' c,AutoSeq1.wpAny_loadPart' hb;exact⟨_,rfl,h⟩
section
variable {X:Cx}{W:WT}{Jv apos:Pos}{o a:Expr}{fo fe:IE D}
theorem vT:WU X "list.extend" λx vs H Q => ∃ l b xs a,x = .ref l/\vs=[.ref b]/\H l=some (.lst xs)/\Ms X.K H b a/\xs.length+a.length<=sizeLine/\Q .Ji (upd H l (.lst (xs++a))):=by
 intro i s G H x vs v M Q I k p h;obtain⟨l,b,xs,a,rfl,rfl,f,C,L,q⟩:=h;cases k;obtain⟨u,rfl,m⟩:=p.one;cases m;obtain⟨z,its,n,r,J,e⟩:=I.SH f;obtain⟨c,g,⟨⟨N,j,w,B⟩,y,t,n2,o⟩,E⟩:=I.tuple C;cases t;cases o;have D:=g.length;have d:its.toArray.size+c.toArray.size<=sizeLine:=by rw[size_toArray,size_toArray];omega
 have A:¬ (!its.toArray.isEmpty&&Builtin.List.listTooLong (its.toArray.size+c.toArray.size))=true:=by rw[AI d,Bool.and_false];exact Bool.false_ne_true
 refine call_meets F.slot_list_extend ⟨_,e,rfl⟩ F.entry_list_extend (F.args_list_extend_2 _ _)
  (Bn l its.toArray n b c.toArray n2 j B A (by rw[size_toArray];omega) (by omega)) ⟨e,y,?_⟩
 refine⟨.Ji,_,I.SD (its':=its++c) f e (by simp) (r.append g) ?_,rfl,q⟩;rw[List.length_append];omega
def zr (d v:D)(S:IL):Out D:=match d,v with
 | .loc l,.tup a=>(match S[l]? with
  |some (.lst xs)=>if xs.length+a.length<=sizeLine then IX .Ji (S.set l (.lst (xs++a))) else none
  |_=>none)
 |_,_=>none
def Fi (fo fe:IE D):IE D:=λa S=>ai (fo a S) λd b=>ai (aJ (cL d b) b) λ_ e=>ai (fe a e) λv c=>zr d v c
theorem Eb {name:Str}(O:name="extend")(ho:SE X W o fo)(N:SE X W a fe)(E:attributeBase o name X.env (eval o X.env)=eval o X.env:=by rfl)
  (P:((backTo Jv (starEach [a] X.env)).all (λx => !x.1)&&(backToKw Jv (keywordEach [] X.env)).all (λx=>x.1.isSome)
   && decide ([a].length+([]:List Keyword).length+(if ([]:List Keyword).isEmpty then 0 else 1)<30))=true:=by rfl)
  (LY:(apos.endLine==Jv.line)=true:=by rfl) (s:starEach [a] X.env=(false,eval a X.env)::starEach [] X.env:=by rfl) (K_:(backTo Jv (starEach [] X.env)).any (·.1)=false:=by rfl) :
  SE X W (.Call (.Attribute o name apos) [a] [] Jv) (Fi fo fe):=by
 subst O;refine PE.imp (AB F.plainAttrs_list F.slot_list_extend F.type_list_extend vT ho (cE N JR s) E P LY s K_) λV H Q h=>(tG.IZ h).mono λx Y L=>?_;obtain⟨d,I⟩:=L;obtain⟨J,i,S,r,S',c,m,f,z⟩:=I
 try dsimp only at f
 obtain⟨A,_⟩:=m.IU;cases q:cL d S with
 |none=>rw[q] at f;cases f
 |some xs =>
  rw[q,bA,cD] at f;obtain⟨l,g,us,rfl,rfl,hq,es,C,mu⟩:=lm c.Jr A q;refine⟨.inl ⟨rfl,us,.inl (.inl C)⟩,?_⟩;have R:tG X W (RD X) [.loc l] [.ref g] (λi j=>ai (fe i j) λv K=>zr (.loc l) v K) V Y Q:=⟨J,i,S,r,S',c,.cons A .nil,f,z⟩;refine(tG.IZ R).mono λy H2 ⟨p,M⟩=>?_;show qR _ _ _;obtain⟨J2,ρ2,j,Z,G,t,m2,e,z2⟩:=M;obtain⟨U,m2⟩:=m2.IU;obtain⟨Tu,_⟩:=m2.IU;have e:zr (.loc l) p j=some (Z,G):=e;cases p with
  |tup ys =>
   unfold zr at e;simp only at e;split at e
   ·rename_i Tv Qn;split at e
    ·rename_i lt;cases e;obtain⟨q2,D,w⟩:=At.I_.mp Tu;cases D;obtain⟨O7,Tx,k⟩:=t.Jr.at_ l g _ w Qn;obtain⟨b,u,rfl,tq,B⟩:=At.Jb.mp U;have up:=t.Jr.update (o:=.lst (O7++u)) (mo:=.lst (Tv++ys)) w λJ' H' n T eJ=>by subst T eJ;exact⟨_,IY,(k.ex n).append (B.ex n)⟩
     exact⟨g,b,O7,u,rfl,rfl,Tx,tq.sq,by rw[← k.length,← B.length];exact lt,z2 J2 _ _ up.2 up.1 (At.Jw.mpr rfl)⟩
    cases e
   cases e
  |_=>cases e
end
section
variable {X:Cx}{W:WT}
def oM (n:Nat)(ix:List Nat)(fi:IE (List D))(u:D->IM->Option IM)(gt:IE Bool)(fe:IE D):IE D:=λa S=>ai (fi a S) λb c =>
 match bz u gt fe b (aY n ix a) c with
 |some (out,S2)=>IX (.loc S2.length) (S2++[.lst out])
 |none=>none
theorem wu {fi:IE (List D)}{u:D->IM->Option IM}{gt:IE Bool}{fe:IE D}{n:Nat}{ix:List Nat}{g:St}{H:Hp}{Q:VK}(h:tE X W (oM n ix fi u gt fe) g H Q) :
  iW X W fi g H λj f => ∃ b ρ a S2 ds out,Cf X b ρ a g f/\Walk X j ds b f/\bz u gt fe ds (aY n ix ρ) a=some (out,S2)/\∀ d H' v,Ex b f d H'->Jg X.K d (S2++[.lst out]) H'->At X.K H' d (.loc S2.length) v->Q v H':=by
 obtain⟨J,ρ,S,r,y,c,_,e,z⟩:=h;unfold oM at e;cases q:fi ρ S with
 |none=>simp[q] at e
 |some o =>
  obtain⟨l,a⟩:=o;simp only[q] at e;cases l with
  |error x =>
   cases e;exact⟨J,ρ,S,.error x,_,c,q,z⟩
  |ok ds =>
   simp only[fC] at e;cases qc:bz u gt fe ds (aY n ix ρ) a with
   |none=>rw[qc] at e;cases e
   |some p =>
    obtain⟨out,S2⟩:=p;rw[qc] at e;cases e;exact⟨J,ρ,S,.ok ds,a,c,q,λb f j i t w=>⟨b,ρ,a,_,ds,out,c.re i t,w,qc,λd H' v m k s=>z d H' v (i.trans m) k s⟩⟩
theorem sS {g iter elt:Expr}{ifs:List Expr}{scope:Scope}{pos F j:Pos}{fi:IE (List D)}{u:D->IM->Option IM}{gt:IE Bool}{fe:IE D}{ts:List Str}{ix:List Nat}{i:Nat}{y:Str}
  (hN:X.N.Nodup) (hc:X.calm=true) (Sc:JP scope X.env) (L0:∀ t∈ix,scope.names.lookup (X.N.getD t Str.empty)=some .free) (hi:SI X W g iter fi) (OH:FC X scope ts ix g ifs elt u gt fe)
  (V:X.N[i]?=some y:=by rfl) (hx:Loc X.env.scope y:=by first |exact Or.inl rfl |exact Or.inr rfl) (Vw:swapsWith (.ListComp elt [⟨g,iter,ifs,0⟩] scope pos) (some (.Name y j)) F.line X.env=pure true:=by rfl)
  (M:X.fn y=true∨X.env.scope.names.lookup y=some .local:=by first |exact .inl rfl |exact .inr rfl |assumption)
  (hs:∀ x,foldedSetIterable iter X.env x=pure x:=by intro _;rfl):SS X W (.Assign [.Name y j] (.ListComp elt [⟨g,iter,ifs,0⟩] scope pos) F) (bo i (oM ts.length ix fi u gt fe)):=by
 intro c s p H E I h;obtain⟨cl,NH,K,Z⟩:=gM I Sc;have h:=tS.IZ h;rw[exec_Assign_Name_used _ _ _ _ Vw];refine wpAny_bind (wpAny_standAt (wpAny_bind ?_));show wpAny _ X.A (do let _ ← comprehension (.ListComp elt [⟨g,iter,ifs,0⟩] scope pos) scope X.env _ (newList []) false (eval iter X.env) (some (assign (.Name y j) X.env))) _ _ s;refine wpAny_bind (wpAny_mono (wpAny_comprehension_free (use:=some (assign (.Name y j) X.env)) (Q:=λ_ d=>SP X c E .next d) rfl hs NH Sc.kind Sc.names ?_) (λ_ d hq=>wpAny_pure (wpAny_pure hq)) λ_ _ e=>e);refine Jj (hi c s p H _ I (wu h)) λv s1 NX=>Jj NX λSk s2 Oe=>?_;obtain⟨it,fp,tn,Jt,H2,e,I2,T,t0,f2,J0,ρ,S1,S2,ds,out,c2,wk,ec,fin⟩:=Oe;subst e;refine lH hc Sc K Z L0 OH I2 T t0 f2 c2 wk ec λa C d n=>?_;obtain⟨m,hm⟩:=n.ns;obtain⟨o1,o2,B,R⟩:=n.own;obtain⟨r,k,f,I',x',G,ad,l,lz,L⟩:=n.fin d.heap λ_ _=>rfl;have Vx:Inv X c p (upd k a (.lst f)) d:=I'
 have x2:Ex r k (r++[a]) (upd k a (.lst f)):=⟨⟨[a],rfl⟩,λb u hb P=>⟨by rw[aA (aK hb l)];exact hb,λz=>by
   rcases mem_append.mp z with z |z
   ·exact P z
   exact aK hb l (by simpa using z)⟩⟩
 have w:=G.push (o:=.lst f) (mo:=.lst out) l ⟨f,IY,ad.ex x2⟩;have q:=fin (r++[a]) _ (.ref a) (x'.trans w.2) w.1 (At.I_.mpr ⟨a,rfl,by rw[← G.len,getElem?_append_right (le_refl _)];simp⟩);show wpAny _ X.A (assign (.Name y j) X.env (.ref a)) _ _ d;refine wpAny_assign_Name (k7 Vx hN V hx (v:=.ref a) rfl (λJ I3 O=>?_) M);obtain⟨ad,sb,hd⟩:=O
 have Vy:C≠ad:=by
  rcases hd with z |z
  ·rw[z];exact o2
  exact(B y ad z).symm
 refine⟨m,hm.sameBut sb Vy,λh' Vz=>?_⟩;have I4:Inv X c (p.set i (some (.ref a))) (upd k a (.lst f)) { J with heap:=h' }:=I3.turned (t':=J.toks) (it:=C) (λb o hb e=>(Vz.2 b hb).trans e) L o2 (.inr o1) B R;obtain⟨Jq,Y,Sq,dq,rq,Y1,S,U,eq,zq⟩:=q;cases eq;exact⟨_,_,I4,zq Jq _ _ Ex.refl (S.set U)⟩
end
def ip (xs:List D):Option D:=if xs.length<4000 then (js xs).bind λa=>(d4 ((a.foldl dz []).map Ri)).map .lst else none
section
variable {X:Cx}{W:WT}{x y:Str}{p p2 pos NK:Pos}{fe:IE D}
def lM (fe:IE D):IE D:=λb S=>ai (fe b S) λd a=>aJ ((cL d a).bind ip) a
theorem sV {a:Expr}(A:x="sorted")(F:y="set")(hc:X.calm=true)(P:X.mg x=none)(w:X.mg y=none)(f:SE X W a fe)(C:Gl X x:=by rfl)(G:Gl X y:=by rfl)
  (g:starEach [a] X.env=(false,eval a X.env)::starEach [] X.env:=by rfl)
  (s:starEach [(.Call (.Name y p2) [a] [] NK)] X.env=(false,eval (.Call (.Name y p2) [a] [] NK) X.env)::starEach [] X.env:=by rfl)
  (JQ:(backTo NK (starEach [] X.env)).any (·.1)=false:=by rfl) (L:(backTo pos (starEach [] X.env)).any (·.1)=false:=by rfl) :
  SE X W (.Call (.Name x p) [.Call (.Name y p2) [a] [] NK] [] pos) (lM fe):=by
 subst A F;have inner:=k_ (X:=X) (p:=p2) (pos:=NK) (Dn hc) G w Fs (cE f JR g) (by decide) (by decide) g JQ;refine PE.imp (iC (rS hc) C P jg (cE inner JR s) (by decide) (by decide) s L) λV H Q h=>?_;refine(tG.IZ h).mono λv K ⟨d,I⟩=>?_;obtain⟨J,U,S,r,Y,c,m,eq,z⟩:=I;dsimp only at eq;obtain⟨T,_⟩:=m.IU;show qR _ _ _;cases q:cL d S with
 |none=>rw[q] at eq;cases eq
 |some t =>
  rw[q,bind_some] at eq;cases qs:ip t with
  |none=>rw[qs] at eq;cases eq
  |some dr =>
   rw[qs] at eq;cases eq;obtain⟨l,N,us,rfl,rfl,Z,es,u,j⟩:=lm c.Jr T q;unfold ip at qs;split at qs
   ·rename_i hb;obtain⟨b,e,R⟩:=bind_eq_some_iff.mp qs;obtain⟨out,D,E⟩:=map_eq_some_iff.mp R;subst E;have ev:=xq e j;subst ev;refine⟨N,b,rfl,.inl (.inl u),by rw[qd e];omega,λp o=>?_⟩;refine⟨p,b.foldl dz [],J,(b.foldl dz []).map Ri,out,rfl,IY,λa f=>?_,uX λk B=>?_,D,λi v M O=>?_⟩
    ·by_cases z:a=p
     ·rw[z,IY];simp
     rw[aA z];exact c.Jr.all a f
    ·rcases (ui b [] k).mp B with h |h
     ·cases h
     exact(ud e j k h).ex (Ex.same (aN o _))
    have n:I0 K i:=(aN o _).trans M;exact z J i v (Ex.same n) (c.Jr.same n) O
   cases qs
end
theorem gE {env:Env}{x:Str}:∀ {names:List (Str×NameKind)},names.lookup x=some .cell ->
  (names.map λ(n,k)=>if (k==NameKind.free&&env.scope.kind==.function&&env.kindOf n==some .cell) then (n,NameKind.cell) else (n,k)).lookup x=some .cell
 |[],h=>by simp at h
 |(n,k0)::r,h=>by
  rw[map_cons];rw[lookup_cons] at h;by_cases hc:(k0==NameKind.free&&env.scope.kind==.function&&env.kindOf n==some .cell)=true
  ·simp only[hc,if_true,lookup_cons];cases hx:x==n with
   |true=>rfl
   |false=>rw[hx] at h;exact gE h
  simp only[hc,if_false,lookup_cons,false_eq_true];cases hx:x==n with
  |true=>rw[hx] at h;exact h
  |false=>rw[hx] at h;exact gE h
theorem Ai {names:List (Str×NameKind)}{outer:Scope}{a:List (Str×Addr)}{C:Addr}{env:Env}(h:∀ y∈names,y.2=NameKind.free->outer.names.lookup y.1=some .cell∨outer.names.lookup y.1=some .free) :
  ∀ y∈names,y.2=NameKind.free->(compEnvC outer a C env).kindOf y.1=some .cell∨(compEnvC outer a C env).kindOf y.1=some .free:=λy b c=>by
 rcases h y b c with q |q
 ·exact .inl (gE q)
 exact d9 q
def uA (X:Cx)(q:Str)(scope:Scope)(b:List (Str×Addr))(c:List Str)(f:Addr)(cd:Value)(a:Shared)(d:Hp):Cx:=
 { X with A:=X.A.in1.deeper (envX q scope a.heap.objs.size f cd b),N:=c,s₀:=a,H₀:=d,env:=envX q scope a.heap.objs.size f cd b,outer:=X.stack,stack:=envX q scope a.heap.objs.size f cd b::X.stack,ex:=[],fn:=λ_=>false,calm:=true,pn:=[],xe:=λ_ _=>False }
section
variable {X:Cx}{pins:II}{σ:St}{H:Hp}{s:Shared}{scope:Scope}{cl:List (Str×Addr)}{ix:List Nat}{x q:Str}
structure N1 (X:Cx) (scope:Scope) (cl:List (Str×Addr)):Prop where
 sub:∀ x c,cl.lookup x=some c->X.env.cells.lookup x=some c
 has:∀ y∈scope.names,y.2 = .free->∃ c,cl.lookup y.1=some c
theorem Inv.T4 {j:Heap}{tk:Nat}{m:IJ}{v:V}{u:Value}{f:Addr}{cd:Value}(I:Inv X pins σ H s)(hd:X.A.handled=none)(S:JP scope X.env)(nc:∀ y∈scope.names,y.2≠.cell)(lc:N1 X scope cl)
  (U:∀ t∈ix,scope.names.lookup (X.N.getD t Str.empty)=some .free) (M:scope.names.lookup x=some .local) (k:∀ b o,s.heap.get? b=some o->j.get? b=some o) (hn:j.Ns s.heap.objs.size m) (C:m x=some u) (W:RelV v u) :
  Inv (uA X q scope cl (fA [x] ix X.N) f cd s H) [] ((aY 1 ix σ).set 0 (some v)) H { s with heap:=j,toks:=tk }:=by
 have D:∀ b:Addr,b∉(uA X q scope cl (fA [x] ix X.N) f cd s H).ex:=λb z=>absurd (show b∈([]:List Addr) from z) (by simp)
 refine⟨⟨I.ok.mod,S.kind,rfl,rfl,le_refl _,λy z c j O=>I.ok.inj y z c (lc.sub _ _ j) (lc.sub _ _ O),λy hy=>?_,(λy c a=>by cases a),λ_=>hd,Around.frames_deeper I.ok.frames,.inr ⟨rfl,rfl⟩,λb z=>absurd z (D b),I.bs,Nat.le_trans I.ok.Pj I.sz,λb _ _=>D b,λb z=>absurd z (D b),I.stack,I.MR⟩,
  rfl,I.bare,Un.kept k,⟨m,hn,λi y B g d e3=>?_⟩,λy c e=>?_,I.Jk.fresh (le_refl _),λy c e=>I.Kx y c (lc.sub _ _ e),λp Q=>absurd (show p∈([]:II) from Q) (by simp),I.Jk.kept k,?_⟩
 ·have hy:scope.names.lookup y=some .cell∨scope.names.lookup y=some .free:=hy;rcases hy with hy |hy
  ·exact absurd rfl (nc _ (lookup_mem hy))
  exact lc.has _ (lookup_mem hy) rfl
 ·cases i with
  |zero =>
   have g:some x=some y:=g;have d:some (some v)=some (some B):=d;cases g;cases d;exact⟨u,W,.inl ⟨M,C⟩⟩
  |succ i =>
   have g:(ix.map λi=>X.N.getD i Str.empty)[i]?=some y:=g;have d:(ix.map λi=>(σ[i]?).getD none)[i]?=some (some B):=d;rw[getElem?_map] at g d;cases et:ix[i]? with
   |none=>rw[et] at d;cases d
   |some t =>
    rw[et] at d g;simp only[map_some,Option.some.injEq] at d g
    have L : σ[t]?=some (some B):=by
     cases q : σ[t]? with
     |none=>rw[q] at d;cases d
     |some w=>rw[q] at d;simp only[getD_some] at d;rw[d]
    have F:t<X.N.length:=by rw[← I.len];exact(List.getElem?_eq_some_iff.mp L).1
    have T:X.N[t]?=some y:=by rw[getD_eq_getElem?_getD,List.getElem?_eq_getElem F] at g;rw[List.getElem?_eq_getElem F];simp only[getD_some] at g;rw[g]
    have K:scope.names.lookup y=some .free:=by have:=U t (mem_of_getElem? et);rwa [g] at this
    have C:=lookup_mem K;have h:=S.frees _ C rfl;obtain⟨m0,_,Y⟩:=I.loc
    obtain⟨R,r,l⟩:=Y t y B T L (by
     rcases h with z |z
     ·exact .inr (.inl z)
     exact .inr (.inr z))
    refine⟨R,r,.inr ⟨.inr K,?_⟩⟩;obtain⟨c,E⟩:=lc.has _ C rfl;have Z:=lc.sub _ _ E;rcases l with ⟨P,_⟩ |⟨_,c',J,cell⟩
    ·have G:X.env.kindOf y=some .local:=P;rcases h with z |z
     ·have n:X.env.kindOf y=some .cell:=z;rw[G] at n;cases n
     have n:X.env.kindOf y=some .free:=z;rw[G] at n;cases n
    rw[Z] at J;cases J;exact⟨c,E,cell.keeps k⟩
 ·obtain⟨v,z⟩:=I.cell y c (lc.sub _ _ e);exact⟨v,z.keeps k⟩
 show ((aY 1 ix σ).set 0 (some v)).length=(fA [x] ix X.N).length;unfold aY fA;simp
theorem Fd {J:List Addr}{ρ:IM}{S:IL}{d:D}{v:V}{f:Addr}{cd:Value}(c:Cf X J ρ S σ H)(a:At X.K H J d v):Cf (uA X q scope cl (fA [x] ix X.N) f cd s H) J ((aY 1 ix ρ).set 0 (some d)) S ((aY 1 ix σ).set 0 (some v)) H:=by
 refine⟨by unfold aY;simp,λi b h=>?_,c.Jr⟩;cases i with
 |zero =>
  have h:some (some d)=some (some b):=h;cases h;exact⟨v,rfl,a⟩
 |succ i =>
  have h:(ix.map λi=>(ρ[i]?).getD none)[i]?=some (some b):=h;show ∃ v,(ix.map λi=>(σ[i]?).getD none)[i]?=some (some v)/\_;rw[getElem?_map] at h ⊢;cases et:ix[i]? with
  |none=>rw[et] at h;cases h
  |some t =>
   rw[et] at h;simp only[map_some,Option.some.injEq] at h ⊢
   have hr : ρ[t]?=some (some b):=by
    cases q : ρ[t]? with
    |none=>rw[q] at h;cases h
    |some w=>rw[q] at h;simp only[getD_some] at h;rw[h]
   obtain⟨v,e,g⟩:=c.env t b hr;exact⟨v,by rw[e];rfl,g⟩
def BP (X:Cx)(k:Nat)(q:Str)(scope:Scope)(x:Str)(ix:List Nat)(body:Expr)(d:IE D):Prop:=
 ∀ (cl:List (Str×Addr)) (f:Addr) (a:Value) (c:Shared) (b:Hp),Jp k (uA X q scope cl (fA [x] ix X.N) f a c b).A->SE (uA X q scope cl (fA [x] ix X.N) f a c b) W0 body d
structure L6 (X:Cx) (scope:Scope) (x:Str) (ix:List Nat):Prop where
 sc:JP scope X.env
 nc:∀ y∈scope.names,y.2≠.cell
 ZU:∀ t∈ix,scope.names.lookup (X.N.getD t Str.empty)=some .free
 par:scope.names.lookup x=some .local
 co:scope.isCoroutine=false
 gen:scope.isGenerator=false
theorem A8 {params:Arguments}{body:Expr}{G F:Value}{j f:Addr}{k:Nat}{C:IE D}{J:List Addr}{ρ:IM}{S S2:IL}{d y:D}{v:V}{u:Value}(I:Inv X pins σ H s)(hr:Jp (k+2) X.A)(L:L6 X scope x ix)(lc:N1 X scope cl)
  (Y:s.heap.get? f=some (kla_obj "<lambda>" q params body scope cl G j F)) (M:H j=some (mU j q)) (hb:bindArgs (kla_fn "<lambda>" q params body scope cl G (.ref j) F) ⟨[u],[]⟩=pure [(x,u)])
  (ok:BP X k q scope x ix body C) (c:Cf X J ρ S σ H) (a:At X.K H J d v) (Z:RelV v u) (Q:C ((aY 1 ix ρ).set 0 (some d)) S=some (.ok y,S2)) :
  wpAny (model X.prog X.w) X.A.in1 (call (.ref f) [u]) (λw s' => ∃ h H' g,Inv X pins σ H' s'/\RelV h w/\Ex J H g H'/\Cf X g ρ S2 σ H'/\At X.K H' g y h) (λ_ _=>False) s:=by
 obtain⟨⟨o,vs,t,O,e2,P⟩,_⟩:=I.Jk j _ M;have B:Jp (k+1) X.A.in1:=hr.in1
 have post:codeAny (model X.prog X.w) X.A.in1 (.call (.ref f) ⟨[u],[]⟩) (λr s'=>match r with
   | .ok (.ret w)=>CE X.stack X.prog X.w H s (λh H' => ∃ g,Ex J H g H'/\Jg X.K g S2 H'/\At X.K H' g y h) w s'
   |_=>False) s:=by
  refine kla_callFunE B.depth Y rfl L.co L.gen rfl ⟨j,o,vs,t,rfl,O,e2,P⟩ ?_;rw[hb];refine wpAny_pure (wpAny_newFunctionEnv L.nc (λz hz=>by rw[mem_singleton.mp hz];exact L.par) (λR T E=>⟨I.nolimit.fresh _ E,?_⟩) L.sc.kind);have N:∀ b o,s.heap.get? b=some o->R.get? b=some o:=λb o e=>E.extBut b o (ne_of_lt (Heap.lt_size e)) (Heap.get?_push_of_some _ e);have I1:=I.T4 (q:=q) (f:=f) (cd:=.ref j) (tk:=s.toks+1) hr.hd L.sc L.nc lc L.ZU L.par N T (show [(x,u)].reverse.lookup x=some u by simp) Z;have t:=ok cl f (.ref j) s H (B.deeper _) [] _ _ H (λh H' => ∃ g,Ex J H g H'/\Jg X.K g S2 H'/\At X.K H' g y h) I1 ⟨J,_,S,.ok y,S2,Fd c a,.nil,Q,λg H' w m s' p=>⟨g,m,s',p⟩⟩;refine kla_codeExpr (wpAny_mono t (λw s' i=>?_) λe s' i=>False.elim i);obtain⟨h,H',l,n,U⟩:=i;exact⟨h,H',l.os,l.bare,l.base,l.Jk,n,U⟩
 refine wpAny_call (codeAny_mono post λr s' i=>?_);cases r with
 |error e=>exact False.elim i
 |ok W =>
  cases W with
  |ret w =>
   obtain⟨h,H',l,n,g,m,ZW,p⟩:=I.after i;exact⟨h,H',g,l,n,m,c.re m ZW,p⟩
  |next=>exact False.elim i
  |brk=>exact False.elim i
  |cont=>exact False.elim i
end
theorem o5 {pos d:Pos}{c f:Value}(l:List Value)(h:TriplesOk l)(e:codeAmong d (l++[rawInt pos.line,rawInt pos.col,c])=some f):codeAmong d l=some f∨f=c:=by
 fun_induction TriplesOk l
 next =>
  simp only[nil_append,rawInt,codeAmong] at e;split at e
  ·cases e;exact .inr rfl
  cases e
 next a t b u x rest ih =>
  simp only[cons_append,codeAmong] at e ⊢;split at e
  ·rename_i hc;rw[if_pos hc];exact .inl e
  rename_i hc;rw[if_neg hc];exact ih h e
 next=>exact h.elim
class BmB (base:Heap) (mg:IJ):Prop where
 out:∃ bm o,mg "__builtins__"=some (.ref bm)/\bm≠builtinsNs/\bm≠mainGlobals/\base.get? bm=some o/\o.cls = .type "module"/\o.dict=some builtinsNs/\o.data = .plain
section
variable {X:Cx}{pins:II}{σ:St}{H:Hp}{s:Shared}
theorem Inv.Rr {P c:Addr}{f more:Array Value}{h:Heap}{tk:Nat}{q:Str}(I:Inv X pins σ H s)(d:H P=some (.LS f))(hc:s.heap.objs.size<=c)(k:∀ b o,b≠P->s.heap.get? b=some o->h.get? b=some o)
  (r:h.get? P=some (tabObj (f++more))) (E:h.CodeRec (.ref c) q):Inv X pins σ (upd (upd H P (.LS (f++more))) c (mU c q)) { s with heap:=h,toks:=tk }:=by
 have nc:H c=none:=I.Jk.fresh hc;have j:∀ b,H b=none->b≠P:=λb n z=>by rw[z,d] at n;cases n
 have other:∀ b,b≠P->b≠c->upd (upd H P (.LS (f++more))) c (mU c q) b=H b:=λb n1 n2=>by rw[aA n2,aA n1]
 have PC:P≠c:=λz=>by rw[z,nc] at d;cases d
 have p:upd (upd H P (.LS (f++more))) c (mU c q) P=some (.LS (f++more)):=by rw[aA PC,IY]
 have g:∀ b u,H b=some u->b≠P->upd (upd H P (.LS (f++more))) c (mU c q) b=some u:=λb u e n=>by rw[other b n (λz=>by rw[z,nc] at e;cases e)];exact e
 refine I.un ⟨λb o e n _ _=>k b o (j b n) e,λb o e n _ _=>⟨o.slots,k b o (j b n) e⟩,λb o e n _=>?_,λb o e _=>?_,λb m e=>?_,λb o u e=>?_,λb m e=>?_⟩ λa o e=>?_
 ·rw[other b (j b n) (ne_of_lt (lt_of_lt_of_le (Heap.lt_size e) hc))];exact n
 ·by_cases z:b=P
  ·rw[z];exact⟨_,r⟩
  exact⟨o,k b o z e⟩
 ·exact g b _ e λz=>by rw[z,d] at e;cases e
 ·exact g b _ e λz=>by rw[z,d] at e;cases e
 ·by_cases z:b=P
  ·rw[z,d] at e;cases e;exact⟨more,by rw[z];exact p⟩
  exact⟨#[],by rw[g b _ e z];simp⟩
 by_cases z:a=c
 ·rw[z,IY] at e;cases e;obtain⟨K,o,D,t,z1,z2,J,B⟩:=E;cases z1;refine⟨⟨o,D,t,z2,J,B⟩,⟨o,by rw[z];exact z2⟩,λL M ⟨x,G,C,F,l,A⟩ v=>?_⟩;rw[z] at v;exact⟨x,G,C,v _ F,l,A⟩
 by_cases i:a=P
 ·rw[i,p] at e;cases e;rw[i];exact r
 rw[other a i z] at e;refine(I.Jk a o e).K8 (λb u hb w=>k b u ?_ w) (λb hb=>g b _ hb λy=>by rw[y,d] at hb;cases hb) λb m hb=>g b _ hb λy=>by rw[y,d] at hb;cases hb
 rcases hb with y |y
 ·rw[y];exact i
 exact λl=>by rw[l,d] at y;cases y
theorem vC {J:List Addr}{S:IL}{l:Nat}{P c d:Addr}{v ps':Array Value}{x q:Str}(so:Jg X.K J S H)(i:J[l]?=some P)(C:S[l]?=some (.tab x q))(r:tabIn X.K x=some (c,P))(j:H P=some (.LS v))(nc:H d=none)
  (ok:GM (upd (upd H P (.LS ps')) d (mU d q)) J q ps'):Ex J H J (upd (upd H P (.LS ps')) d (mU d q))/\Jg X.K J S (upd (upd H P (.LS ps')) d (mU d q)):=by
 have PC:P≠d:=λz=>by rw[z,nc] at j;cases j
 have s:P∈J:=mem_of_getElem? i;have ex:Ex J H J (upd (upd H P (.LS ps')) d (mU d q)):=⟨prefix_refl _,λb o e n=>⟨by rw[aA (λz=>by rw[z,nc] at e;cases e),aA (λz=>n (by rw[z];exact s))];exact e,n⟩⟩;refine⟨ex,so.len,so.nd,λf a o h g=>?_⟩;have old:=so.at_ f a o h g;by_cases z:a=P
 ·have m:f=l:=by
   have E:=(List.getElem?_eq_some_iff.mp h);have k:=(List.getElem?_eq_some_iff.mp i);obtain⟨D,u⟩:=E;obtain⟨t,p⟩:=k;have w:=so.nd.idxOf_getElem f D;have A:=so.nd.idxOf_getElem l t;rw[← w,← A,u,p,z]
  subst m;rw[C] at g;cases g;subst z;exact⟨c,ps',r,by rw[aA PC,IY],ok⟩
 have B:a≠d:=λy=>old.LN (by rw[y];exact nc);exact old.ex ex (by rw[aA B,aA z])
theorem A7 {params:Arguments}{body:Expr}{scope:Scope}{pos:Pos}{J:List Addr}{S:IL}{l:Nat}{P c:Addr}{x q:Str}{Q:IG}{E:IG}(I:Inv X pins σ H s)(so:Jg X.K J S H)(v:J[l]?=some P)(Y:S[l]?=some (.tab x q))
  (Z:X.env.code = .ref c) (W:tabIn X.K x=some (c,P)) (hd:codeHdIn X.K c P=true) (bm:BmB X.base X.mg) (hq:X.env.qual++"<lambda>"=q) (Rt:defaultsOf params X.env=([],[])) (Sc:JP scope X.env)
  (fin:∀ f a g pm h H' s',Inv X pins σ H' s'->Ex J H J H'->Jg X.K J S H'->s'.heap.get? f=some (kla_obj "<lambda>" q params body scope g pm a h)->f8 X pins H' f->H' a=some (mU a q)->a∉J->N1 X scope g->Q (.ref f) s') :
  wpAny (model X.prog X.w) X.A (eval (.Lambda params body scope pos) X.env) Q E s:=by
 obtain⟨g,NH,L,V⟩:=gM I Sc;obtain⟨c0,j,R,d,t,N⟩:=so.at_ l P _ v Y;rw[W] at R;cases R;have M:s.heap.get? P=some (tabObj j):=I.Jk P _ d;have T:s.heap.Ns mainGlobals X.mg:=I.ok.mod.glob.keeps I.bk;have C:CodeHd s.heap c P:=codeHd_of_K I.Mz hd;have ZY:mainGlobals≠P:=λz=>by obtain⟨o,es,ep,e,r⟩:=I.ok.mod.glob;have:=(I.bs _ o e).2;rw[z,d] at this;cases this
 obtain⟨b,o,b1,b2,b3,U,b6,b7,b8⟩:=bm.out;have hb:s.heap.BuiltinsAt X.mg P:=⟨b,o,b1,b2,b3,(λz=>by have:=(I.bs b o U).2;rw[z,d] at this;cases this),I.bk b o U,b6,b7,b8⟩;refine kla_eval Rt ?_;rw[hq];cases ha:codeAmong pos j.toList with
 |none =>
  refine kla_makeFunction NH I.ok.glob T Z C M t ha ZY hb λa h i tk hx F JL We ZZ=>?_;have nc:H a=none:=I.Jk.fresh F;have G:∀ b o,b≠P->s.heap.get? b=some o->(i.push (kla_obj "<lambda>" q params body scope g ((X.mg "__name__").getD .none) a h)).get? b=some o:=λb o n e=>Heap.get?_push_of_some _ (hx b o n e);have D:=I.Rr (tk:=tk) (more:=#[rawInt pos.line,rawInt pos.col,.ref a]) d F G (Heap.get?_push_of_some _ ZZ) (let ⟨a1,a2,a3,a4,a5,a6,a7⟩:=We;⟨a1,a2,a3,a4,a5,Heap.get?_push_of_some _ a6,a7⟩);have PC:P≠a:=λz=>by rw[z,nc] at d;cases d
  have O:a∉J:=so.fresh nc
  obtain⟨ex,UN⟩:=vC so v Y W d nc (ps':=j++#[rawInt pos.line,rawInt pos.col,.ref a]) (by
   refine⟨by simpa using TriplesOk_snoc pos.line pos.col (.ref a) j.toList t,λp B e=>?_⟩;rcases o5 (pos:=pos) j.toList t (by simpa using e) with z |z
   ·obtain⟨c2,z1,z2,m⟩:=N p B z;refine⟨c2,z1,z2,?_⟩;rw[aA (λy=>by rw[y,nc] at m;cases m),aA (λy=>z2 (by rw[y];exact mem_of_getElem? v))];exact m
   exact⟨a,z,O,IY⟩)
  have u:s.heap.objs.size<=i.objs.size:=Nat.le_trans F (Nat.le_of_lt JL);refine fin i.objs.size a g _ h _ _ D ex UN (Heap.get?_push_size _ rfl) ?_ IY O ⟨L,V⟩;have f1:=I.KY (b:=i.objs.size) u (I.Jk.fresh u);refine⟨?_,f1.2⟩;rw[aA (ne_of_gt JL),aA (λy=>by have:=I.Jk.fresh u;rw[y,d] at this;cases this)];exact I.Jk.fresh u
 |some B =>
  obtain⟨a,z1,z2,m⟩:=N pos B ha;subst z1;refine kla_makeFunctionHit NH I.ok.glob T Z C M t ha hb λh i tk hk k=>?_;have G:∀ b o,s.heap.get? b=some o->(i.push { cls:=.type "function",data:=.func (kla_fn "<lambda>" q params body scope g ((X.mg "__name__").getD .none) (.ref a) h) }).get? b=some o:=λb o e=>Heap.get?_push_of_some _ (hk b o e);have D:=I.kept (t':=tk) G;exact fin i.objs.size a g _ h H _ D Ex.refl so (Heap.get?_push_size _ rfl) (I.KY k (I.Jk.fresh k)) m z2 ⟨L,V⟩
end
def iG (g:D->IL->Out D):List D->D->Int->IL->Out D
 |[],b,_,S=>IX b S
 |d::ds,b,k,S=>ai (eZ (g d S)) λv a=>match v with
  | .int n=>if n<k then iG g ds d n a else iG g ds b k a
  |_=>none
def ft (x q:Str)(S:IL):Bool:=S.any λo=>match o with
 | .tab y r=>decide (y=x)&&decide (r=q)
 |_=>false
def pZ (x q:Str)(ix:List Nat)(c:IE D)(d:D):IE D:=λb a=>if ft x q a=true then (match d with
 | .lst []=>IX .Ji a
 | .lst (e::ds)=>ai (eZ (c ((aY 1 ix b).set 0 (some e)) a)) λv f=>(match v with
  | .int n=>eZ (iG (λd S=>c ((aY 1 ix b).set 0 (some d)) S) ds e n f)
  |_=>none)
 |_=>none) else none
def BC (x q:Str)(ix:List Nat)(fe b:IE D):IE D:=λa S=>ai (fe a S) λd c=>pZ x q ix b d a c
theorem DA (a v d:Value):argsOk "min" ⟨[a],[(Str.ofString "key",v),(Str.ofString "default",d)]⟩:=by unfold argsOk;kernel_rfl
section
variable {X:Cx}{pins:II}{σ:St}{scope:Scope}{cl:List (Str×Addr)}{ix:List Nat}{x q:Str}{params:Arguments}{body:Expr}{pm Kn:Value}{c' f Ia St p:Addr}{k:Nat}{gk:IE D}{ρ:IM}{S2:IL}{y:D}{zs:List V}{ds:List D}{J0:List Addr}{H0:Hp}{R:Result->Shared->Prop}
structure L7 (X:Cx) (pins:II) (scope:Scope) (cl:List (Str×Addr)) (ix:List Nat) (x q:Str) (params:Arguments) (body:Expr) (pm Kn:Value) (c' f Ia St p:Addr) (k:Nat) (gk:IE D):Prop where
 hr:Jp (k+2) X.A
 L:L6 X scope x ix
 lc:N1 X scope cl
 hb:∀ u,bindArgs (kla_fn "<lambda>" q params body scope cl pm (.ref c') Kn) ⟨[u],[]⟩=pure [(x,u)]
 ok:BP X k q scope x ix body gk
 ff:∀ H:Hp,H f=none->f8 X pins H f
 fI:∀ H:Hp,H Ia=none->f8 X pins H Ia
 fS:∀ H:Hp,H St=none->f8 X pins H St
 n1:f≠Ia
 n2:f≠St
 n3:Ia≠St
 n4:p≠Ia
 n5:p≠St
structure KI (X:Cx) (pins:II) (σ:List (Option V)) (scope:Scope) (cl:List (Str×Addr)) (q:Str) (params:Arguments) (body:Expr) (pm Kn:Value) (c' f Ia St p:Addr) (ρ:IM) (zs:List V) (ds:List D) (J0:List Addr) (H0:Hp) (j:Nat) (s:Shared) (H:Hp) (J:List Addr) (S:IL):Prop where
 I:Inv X pins σ H s
 ex:Ex J0 H0 J H
 c:Cf X J ρ S σ H
 lq:LQ X.K H J p zs
 az:IT X.K H J ds zs
 hc:H c'=some (mU c' q)
 nc:c'∉J
 Hf:H f=none
 HI:H Ia=none
 HS:H St=none
 gf:s.heap.get? f=some (kla_obj "<lambda>" q params body scope cl pm c' Kn)
 it:s.heap.IsListIter Ia p j
theorem KI.call {s:Shared}{H:Hp}{J:List Addr}{S y:IL}{j n:Nat}{d:D}{v:V}{u:Value}{arr:Array Value}{ep:Nat}{num:Int}(F:L7 X pins scope cl ix x q params body pm Kn c' f Ia St p k gk)(M:KI X pins σ scope cl q params body pm Kn c' f Ia St p ρ zs ds J0 H0 j s H J S)
  (N:s.heap.get? St=some (seqObj "list" arr ep)) (a:At X.K H J d v) (R:RelV v u) (O:gk ((aY 1 ix ρ).set 0 (some d)) S=some (.ok (.int num),y)) {Q:IG}
  (h:∀ t s' H' g,KI X pins σ scope cl q params body pm Kn c' f Ia St p ρ zs ds J0 H0 j s' H' g y->s'.heap.get? St=some (seqObj "list" arr ep)->Ex J H g H'->Q (.int num t) s') :
  wpAny (model X.prog X.w) X.A.in1 (PySem.call (.ref f) [u]) Q (λ_ _=>False) s:=by
 obtain⟨i,E,G,r⟩:=id M.it;have ff:=F.ff H M.Hf;have fI:=F.fI H M.HI;have fS:=F.fS H M.HS
 have W:Inv X (pins++[(f,kla_obj "<lambda>" q params body scope cl pm c' Kn),(Ia,i),(St,seqObj "list" arr ep)]) σ H s:=M.I.Kj λz hz=>by
  rcases mem_append.mp hz with hz |hz
  ·exact M.I.pin z (mem_append_right _ hz)
  simp only[mem_cons,not_mem_nil,or_false] at hz;rcases hz with rfl |rfl |rfl
  ·exact⟨M.gf,M.Hf,ff.2.1,ff.2.2.1,λv z=>by cases z⟩
  ·exact⟨E,M.HI,fI.2.1,fI.2.2.1,λv z=>by rw[r] at z;cases z⟩
  exact⟨N,M.HS,fS.2.1,fS.2.2.1,λv z=>by cases z⟩
 refine wpAny_mono (A8 W F.hr F.L F.lc M.gf M.hc (F.hb u) F.ok M.c a R O) (λw s' T=>?_) λ_ _ z=>z;obtain⟨Y,H',g,e,l,b,P,U⟩:=T;rw[At.IP.mp U] at l;obtain⟨t,rfl⟩:=l;have m:=e.pin (f,kla_obj "<lambda>" q params body scope cl pm c' Kn) (mem_append_right _ (mem_append_right _ (by simp)));have B:=e.pin (Ia,i) (mem_append_right _ (mem_append_right _ (by simp)));have C:=e.pin (St,seqObj "list" arr ep) (mem_append_right _ (mem_append_right _ (by simp)));have o:=b.keep c' _ M.hc M.nc;exact h t s' H' g ⟨e.KA,M.ex.trans b,P,M.lq.ex b,M.az.ex b,o.1,o.2,m.2.1,B.2.1,C.2.1,m.1,⟨i,B.1,G,r⟩⟩ C.1 b
theorem yS (F:L7 X pins scope cl ix x q params body pm Kn c' f Ia St p k gk)
  (hR:∀ w vw H' l s',Inv X pins σ H' s'->RelV vw w->Ex J0 H0 l H'->Cf X l ρ S2 σ H'->At X.K H' l y vw->R (.ok (.ret w)) s') :
  ∀ (r:List D) (j:Nat) (s:Shared) (H:Hp) (J:List Addr) (S:IL) (b:D) (E:V) (B:Value) (a:Int) (C:Tok) (ep:Nat),ds.drop j=r->j<=ds.length->KI X pins σ scope cl q params body pm Kn c' f Ia St p ρ zs ds J0 H0 j s H J S ->
   s.heap.get? St=some (seqObj "list" #[B,.int a C] ep)->At X.K H J b E->RelV E B->iG (λd S=>gk ((aY 1 ix ρ).set 0 (some d)) S) r b a S=some (.ok y,S2) ->
   codeAny (model X.prog X.w) X.A (.builtin "min.loop" ⟨[.ref Ia,.ref f,.ref St],[(Str.ofString "default",.none)]⟩) R s:=by
 have ME:(toString "min"++toString ".loop":String)="min.loop":=by decide
 have hh:X.A.in1.handled=none:=F.hr.hd;intro r
 induction r with
 |nil =>
  intro j s H J S b E B a C ep hr hj M O ab rb e;have L:j=ds.length:=Nat.le_antisymm hj (List.drop_eq_nil_iff.mp hr);obtain⟨its,Y,pl,hz⟩:=M.I.list M.lq.sq;have il:its.toArray.size=ds.length:=by rw[size_toArray,← Y.length,← M.az.length]
  have W:=Walks.list (prog:=X.prog) (w:=X.w) (A:=X.A.in1) hh Ia p F.n4 its.toArray;refine codeAny_builtin PySem.F.entry_min_loop ?_;rw[Around.under_plainId PySem.F.plain_min_loop _];show wpAny _ X.A.in1 (seqItems? (.ref St) >>= _) _ _ _;refine wpAny_bind (wpAny_seqItems O rfl ?_);show wpAny _ X.A.in1 (tryCatch (pyNext (.ref Ia)) _ >>= _) _ _ _;refine wpAny_bind (wpAny_tryCatch (W.done _ _ _ ⟨by rw[il,← L];exact M.it,pl.isList⟩ λh' N Z=>?_));have Z0:=Z St _ (λz=>F.n3 (mem_singleton.mp z).symm) O;show wpAny _ X.A.in1 (updateSeq St (λ_ => #[]) >>= _) _ _ _;refine wpAny_bind (wpAny_updateSeq Z0 rfl (wpAny_bind (wpAny_letGo (wpAny_pure ?_))));have fI:=F.fI H M.HI;have fS:=F.fS H M.HS;have I1:=M.I.turned (t':=N) (it:=Ia) (λb o n e=>Z b o (λz=>n (mem_singleton.mp z)) e) M.HI fI.2.1 fI.2.2.2.1 fI.2.2.2.2.1 fI.2.2.2.2.2;have I2:=I1.turned (t':=N) (h':=h'.update St (Obj.mapSeq λ_ => #[])) (it:=St) (λb o n e=>(Heap.get?_update_other h' (Obj.mapSeq λ_ => #[]) (Ne.symm n)).trans e) M.HS fS.2.1 fS.2.2.2.1 fS.2.2.2.2.1 fS.2.2.2.2.2;have e:some (Except.ok b,S)=some (Except.ok y,S2):=e;cases e;exact hR B E H J _ I2 rb M.ex M.c ab
 |cons d r ih =>
  intro j s H J S b E B a C ep hr hj M O ab rb e
  have U:j<ds.length:=by
   rcases lt_or_ge j ds.length with z |z
   ·exact z
   rw[drop_eq_nil_of_le z] at hr;cases hr
  have hd:ds[j]?=some d/\ds.drop (j+1)=r:=by rw[drop_eq_getElem_cons U] at hr;cases hr;exact⟨List.getElem?_eq_getElem U,rfl⟩
  obtain⟨its,Y,pl,hz⟩:=M.I.list M.lq.sq;have il:its.toArray.size=ds.length:=by rw[size_toArray,← Y.length,← M.az.length]
  have W:=Walks.list (prog:=X.prog) (w:=X.w) (A:=X.A.in1) hh Ia p F.n4 its.toArray;refine codeAny_builtin PySem.F.entry_min_loop ?_;rw[Around.under_plainId PySem.F.plain_min_loop _];show wpAny _ X.A.in1 (seqItems? (.ref St) >>= _) _ _ _;refine wpAny_bind (wpAny_seqItems O rfl ?_);show wpAny _ X.A.in1 (tryCatch (pyNext (.ref Ia)) _ >>= _) _ _ _;refine wpAny_bind (wpAny_tryCatch (W.item j _ _ _ (by rw[il];exact U) ⟨M.it,pl.isList⟩ λu h' N hP Ru Z=>?_));have kk:∀ b o,b≠Ia->s.heap.get? b=some o->h'.get? b=some o:=λb o n e=>Z b o (λz=>n (mem_singleton.mp z)) e;have hu:its[j]?=some u:=by simpa using hP
  have fI:=F.fI H M.HI;have fS:=F.fS H M.HS;obtain⟨v,ev,av⟩:=M.az.get hd.1;obtain⟨u',eu,ru⟩:=Y.get ev;rw[hu] at eu;cases eu;have I1:=M.I.turned (t':=N) (it:=Ia) kk M.HI fI.2.1 fI.2.2.2.1 fI.2.2.2.2.1 fI.2.2.2.2.2;have M1:KI X pins σ scope cl q params body pm Kn c' f Ia St p ρ zs ds J0 H0 (j+1) { s with heap:=h',toks:=N } H J S:=⟨I1,M.ex,M.c,M.lq,M.az,M.hc,M.nc,M.Hf,M.HI,M.HS,kk f _ F.n1 M.gf,Ru.1⟩;have Wh:=kk St _ (Ne.symm F.n3) O;unfold iG at e;cases eg:gk ((aY 1 ix ρ).set 0 (some d)) S with
  |none=>rw[eg] at e;cases e
  |some o =>
   obtain⟨ro,T⟩:=o;rw[eg] at e;cases ro with
   |error z=>cases e
   |ok v1 =>
    cases v1 with
    |int n =>
     have e:(if n<a then iG (λd S=>gk ((aY 1 ix ρ).set 0 (some d)) S) r d n T else iG (λd S=>gk ((aY 1 ix ρ).set 0 (some d)) S) r b a T)=some (.ok y,S2):=e;show wpAny _ X.A.in1 (tryCatch (holding [u] (PySem.call (.ref f) [u])) _ >>= _) _ _ _;refine wpAny_bind (wpAny_tryCatch (wpAny_holding (wpAny_mono (M1.call (n:=0) F Wh av ru eg (Q:=λw s' => ∃ t H' l,w = .int n t/\KI X pins σ scope cl q params body pm Kn c' f Ia St p ρ zs ds J0 H0 (j+1) s' H' l T/\s'.heap.get? St=some (seqObj "list" #[B,.int a C] ep)/\Ex J H l H') λt s' H' l m g z=>⟨t,H',l,rfl,m,g,z⟩) (λw G hq=>?_) λ_ _ hF=>hF.elim)));obtain⟨t2,H2,J2,rfl,M2,R4,x2⟩:=hq;show wpAny _ X.A.in1 (tryCatch (holding [u,.int n t2] (richCompare .Lt (.int n t2) (.int a C) >>= _)) _ >>= _) _ _ _;refine wpAny_bind (wpAny_tryCatch (wpAny_holding (wpAny_bind (CmpOf.ints_lt (prog:=X.prog) (w:=X.w) (A:=X.A.in1) (P:=λ(i:Nat) v => ∃ t,v = .int (if i=0 then n else a) t) (λi=>if i=0 then n else a) (λi v h=>h) 0 1 _ _ _ _ _ ⟨t2,rfl⟩ ⟨C,rfl⟩ ?_))));refine wpAny_bind (wpAny_holding (wpAny_truthy_bool ?_));refine wpAny_bind (wpAny_letGo (wpAny_pure ?_));show wpAny _ X.A.in1 (if (decide (n<a))=true then _ else _) _ _ _;by_cases Rk:n<a
     ·rw[if_pos Rk] at e;have P_:=F.fS H2 M2.HS;have sb:=Heap.SameBut.update G.heap St (Obj.mapSeq λ_ => #[u,.int n t2]);obtain⟨c2,LI⟩:∃ c2,(G.heap.update St (Obj.mapSeq λ_ => #[u,.int n t2])).get? St=some (seqObj "list" #[u,.int n t2] c2):=⟨_,get?_update_seq R4 λ_ => #[u,.int n t2]⟩;rw[if_pos (by simpa using Rk)];refine wpAny_bind (wpAny_updateSeq R4 rfl (wpAny_bind (wpAny_letGo ?_)));rw[ME];have ku:∀ b o,b≠St->G.heap.get? b=some o->(G.heap.update St (Obj.mapSeq λ_ => #[u,.int n t2])).get? b=some o:=λb o n e=>(sb.2 b n).trans e;have I3:=M2.I.turned (t':=G.toks) (it:=St) ku M2.HS P_.2.1 P_.2.2.2.1 P_.2.2.2.2.1 P_.2.2.2.2.2;obtain⟨oI,gI,cI,dI⟩:=M2.it;exact wpAny_pure ⟨plainId_quiet PySem.F.plain_min_loop _,ih (j+1) _ H2 J2 T d v u n t2 c2 hd.2 U ⟨I3,M2.ex,M2.c,M2.lq,M2.az,M2.hc,M2.nc,M2.Hf,M2.HI,M2.HS,ku f _ F.n2 M2.gf,⟨oI,ku Ia _ F.n3 gI,cI,dI⟩⟩ LI (av.ex x2) ru e⟩
     rw[if_neg Rk] at e;rw[if_neg (by simpa using Rk)];refine wpAny_bind (wpAny_letGo ?_);rw[ME];exact wpAny_pure ⟨plainId_quiet PySem.F.plain_min_loop _,ih (j+1) G H2 J2 T b E B a C ep hd.2 U M2 R4 (ab.ex x2) rb e⟩
    |_=>cases e
theorem vV {s:Shared}{H:Hp}{J:List Addr}{S l:IL}{h:D}{r:List D}{n:Int}(F:L7 X pins scope cl ix x q params body pm Kn c' f Ia St p k gk)
  (hR:∀ w V H' a s',Inv X pins σ H' s'->RelV V w->Ex J0 H0 a H'->Cf X a ρ S2 σ H'->At X.K H' a y V->R (.ok (.ret w)) s') (M:KI X pins σ scope cl q params body pm Kn c' f Ia St p ρ zs ds J0 H0 0 s H J S)
  (Y:s.heap.get? St=some (seqObj "list" #[] 0)) (hd:ds=h::r) (eg:gk ((aY 1 ix ρ).set 0 (some h)) S=some (.ok (.int n),l)) (e:iG (λd S=>gk ((aY 1 ix ρ).set 0 (some d)) S) r h n l=some (.ok y,S2)) :
  codeAny (model X.prog X.w) X.A (.builtin "min.loop" ⟨[.ref Ia,.ref f,.ref St],[(Str.ofString "default",.none)]⟩) R s:=by
 have ME:(toString "min"++toString ".loop":String)="min.loop":=by decide
 have hh:X.A.in1.handled=none:=F.hr.hd;have h0:ds[0]?=some h:=by rw[hd];rfl
 have JL : 0<ds.length:=by rw[hd];exact Nat.zero_lt_succ _
 obtain⟨its,P,pl,hz⟩:=M.I.list M.lq.sq;have il:its.toArray.size=ds.length:=by rw[size_toArray,← P.length,← M.az.length]
 have W:=Walks.list (prog:=X.prog) (w:=X.w) (A:=X.A.in1) hh Ia p F.n4 its.toArray;refine codeAny_builtin PySem.F.entry_min_loop ?_;rw[Around.under_plainId PySem.F.plain_min_loop _];show wpAny _ X.A.in1 (seqItems? (.ref St) >>= _) _ _ _;refine wpAny_bind (wpAny_seqItems Y rfl ?_);show wpAny _ X.A.in1 (tryCatch (pyNext (.ref Ia)) _ >>= _) _ _ _;refine wpAny_bind (wpAny_tryCatch (W.item 0 _ _ _ (by rw[il];exact JL) ⟨M.it,pl.isList⟩ λu Z L hP Ru M9=>?_));have C:∀ b o,b≠Ia->s.heap.get? b=some o->Z.get? b=some o:=λb o n e=>M9 b o (λz=>n (mem_singleton.mp z)) e;have hu:its[0]?=some u:=by simpa using hP
 have fI:=F.fI H M.HI;obtain⟨v,ev,G⟩:=M.az.get h0;obtain⟨u',U,N⟩:=P.get ev;rw[hu] at U;cases U;have I1:=M.I.turned (t':=L) (it:=Ia) C M.HI fI.2.1 fI.2.2.2.1 fI.2.2.2.2.1 fI.2.2.2.2.2;have M1:KI X pins σ scope cl q params body pm Kn c' f Ia St p ρ zs ds J0 H0 (0+1) { s with heap:=Z,toks:=L } H J S:=⟨I1,M.ex,M.c,M.lq,M.az,M.hc,M.nc,M.Hf,M.HI,M.HS,C f _ F.n1 M.gf,Ru.1⟩;have Wh:=C St _ (Ne.symm F.n3) Y;show wpAny _ X.A.in1 (tryCatch (holding [u] (PySem.call (.ref f) [u])) _ >>= _) _ _ _;refine wpAny_bind (wpAny_tryCatch (wpAny_holding (wpAny_mono (M1.call (n:=0) F Wh G N eg (Q:=λw s' => ∃ t H' a,w = .int n t/\KI X pins σ scope cl q params body pm Kn c' f Ia St p ρ zs ds J0 H0 (0+1) s' H' a l/\s'.heap.get? St=some (seqObj "list" #[] 0)/\Ex J H a H') λt s' H' a m g z=>⟨t,H',a,rfl,m,g,z⟩) (λw i hq=>?_) λ_ _ hF=>hF.elim)));obtain⟨t2,T,J2,rfl,M2,O,x2⟩:=hq;have j:=F.fS T M2.HS;have sb:=Heap.SameBut.update i.heap St (Obj.mapSeq λ_ => #[u,.int n t2]);obtain⟨B,LI⟩:∃ B,(i.heap.update St (Obj.mapSeq λ_ => #[u,.int n t2])).get? St=some (seqObj "list" #[u,.int n t2] B):=⟨_,get?_update_seq O λ_ => #[u,.int n t2]⟩;show wpAny _ X.A.in1 (updateSeq St (λ_ => #[u,.int n t2]) >>= _) _ _ _;refine wpAny_bind (wpAny_updateSeq O rfl ?_);rw[ME];have E:∀ b o,b≠St->i.heap.get? b=some o->(i.heap.update St (Obj.mapSeq λ_ => #[u,.int n t2])).get? b=some o:=λb o n e=>(sb.2 b n).trans e;have I3:=M2.I.turned (t':=i.toks) (it:=St) E M2.HS j.2.1 j.2.2.2.1 j.2.2.2.2.1 j.2.2.2.2.2;obtain⟨oI,gI,cI,dI⟩:=M2.it;exact wpAny_pure ⟨plainId_quiet PySem.F.plain_min_loop _,yS F hR r 1 _ T J2 l h v u n t2 B (by rw[hd];rfl) JL ⟨I3,M2.ex,M2.c,M2.lq,M2.az,M2.hc,M2.nc,M2.Hf,M2.HI,M2.HS,E f _ F.n2 M2.gf,⟨oI,E Ia _ F.n3 gI,cI,dI⟩⟩ LI (G.ex x2) N e⟩
theorem yR {s:Shared}{H:Hp}{J:List Addr}{S:IL}(F:L7 X pins scope cl ix x q params body pm Kn c' f Ia St p k gk)
  (j:∀ H' s',Inv X pins σ H' s'->H'=H->R (.ok (.ret .none)) s') (M:KI X pins σ scope cl q params body pm Kn c' f Ia St p ρ zs ds J0 H0 0 s H J S)
  (c:s.heap.get? St=some (seqObj "list" #[] 0)) (hd:ds=[]) :
  codeAny (model X.prog X.w) X.A (.builtin "min.loop" ⟨[.ref Ia,.ref f,.ref St],[(Str.ofString "default",.none)]⟩) R s:=by
 have d:X.A.in1.handled=none:=F.hr.hd;obtain⟨its,h,pl,r⟩:=M.I.list M.lq.sq;have g:its.toArray.size=0:=by rw[size_toArray,← h.length,← M.az.length,hd];rfl
 have W:=Walks.list (prog:=X.prog) (w:=X.w) (A:=X.A.in1) d Ia p F.n4 its.toArray;refine codeAny_builtin PySem.F.entry_min_loop ?_;rw[Around.under_plainId PySem.F.plain_min_loop _];show wpAny _ X.A.in1 (seqItems? (.ref St) >>= _) _ _ _;refine wpAny_bind (wpAny_seqItems c rfl ?_);show wpAny _ X.A.in1 (tryCatch (pyNext (.ref Ia)) _ >>= _) _ _ _;refine wpAny_bind (wpAny_tryCatch (W.done _ _ _ ⟨by rw[g];exact M.it,pl.isList⟩ λm a l=>?_));have fI:=F.fI H M.HI;have i:=M.I.turned (t':=a) (it:=Ia) (λb o n e=>l b o (λz=>n (mem_singleton.mp z)) e) M.HI fI.2.1 fI.2.2.2.1 fI.2.2.2.2.1 fI.2.2.2.2.2;show wpAny _ X.A.in1 (rule _ >>= _) _ _ _;exact wpAny_bind (wpAny_rule (wpAny_pure (j H _ i rfl)))
end
section
variable {X:Cx}{W:WT}{e d0:Expr}{fe gk:IE D}{x z q:Str}{ix:List Nat}{params:Arguments}{body:Expr}{scope:Scope}{p pos lp kp dp:Pos}{k:Nat}{c P:Addr}
theorem zT {S:IL}(h:ft z q S=true):∃ l:Nat,S[l]?=some (.tab z q):=by
 unfold ft at h;obtain⟨o,a,e⟩:=any_eq_true.mp h;obtain⟨l,b⟩:=getElem?_of_mem a;cases o with
 |tab y r =>
  simp only[and_eq_true,decide_eq_true_eq] at e;obtain⟨rfl,rfl⟩:=e;exact⟨l,b⟩
 |_=>cases e
theorem Cg (hr:Jp (k+2) X.A)(hm:X.mg "min"=none)(ha:SE X W e fe)(O5:SE X W d0 (aF .Ji))(L:L6 X scope x ix)(ok:BP X k q scope x ix body gk)
  (hb:∀ B D t C u,bindArgs (kla_fn "<lambda>" q params body scope B D (.ref t) C) ⟨[u],[]⟩=pure [(x,u)]) (Rt:defaultsOf params X.env=([],[])) (hq:X.env.qual++"<lambda>"=q)
  (N2:X.env.code = .ref c) (ht:tabIn X.K z=some (c,P)) (Nu:codeHdIn X.K c P=true) (bm:BmB X.base X.mg)
  (hg:Gl X "min":=by rfl) (he:backTo pos (starEach [e] X.env)=(false,eval e X.env)::backTo pos (starEach [] X.env):=by rfl) (JQ:(backTo pos (starEach [e] X.env)).any (·.1)=false:=by rfl) (Z1:starEach [e] X.env=(false,eval e X.env)::starEach [] X.env:=by rfl) :
  SE X W (.Call (.Name "min" p) [e] [⟨some "key",.Lambda params body scope lp,kp⟩,⟨some "default",d0,dp⟩] pos) (BC z q ix fe gk):=by
 intro i s E H Q I h;refine wpAny_Call_Name_kw (gH I hg hm BI ?_ (by decide) (by decide));refine PyProof.Rows.callWith_kw ?_ he JQ rfl rfl;refine Jj (cE ha JR Z1 pos i s E H (λvs T => ∃ v,vs=[v]/\∃ d,tG X W (RD X) [d] [v] (pZ z q ix gk d) E T Q) I ((tG.IZ h).mono λv T ⟨d,h1⟩=>⟨v,rfl,d,h1⟩)) λus s1 Z2=>?_;obtain⟨vs,T,I1,r1,v,rfl,d,J,V,S,rr,S',Y,m,eq,zz⟩:=Z2;have ME:(toString "min"++toString ".loop":String)="min.loop":=by decide
 obtain⟨m,_⟩:=m.IU;unfold pZ at eq;split at eq
 case isFalse=>cases eq
 rename_i hT;obtain⟨l,hS⟩:=zT hT;obtain⟨a,hJ⟩:∃ a,J[l]?=some a:=⟨_,List.getElem?_eq_getElem (by rw[Y.Jr.len];exact(List.getElem?_eq_some_iff.mp hS).1)⟩;obtain⟨c0,ps,XT,_⟩:=Y.Jr.at_ l a _ hJ hS;rw[ht] at XT;cases XT;cases d with
 |lst ds =>
  obtain⟨pl,zs,rfl,lq,az⟩:=At.Jc.mp m;obtain⟨u,rfl,ru⟩:=vals1 r1;cases ru;show wpAny _ X.A (evalAll [(do let v ← eval (.Lambda params body scope lp) X.env;standAt pos;pure v),(do let v ← eval d0 X.env;standAt pos;pure v)]) _ _ s1;refine wpAny_evalAll_cons (wpAny_bind (A7 I1 Y.Jr hJ hS N2 ht Nu bm hq Rt L.sc λf t B D C H2 s2 I2 Wi UN gf UO LI cJ lc=>wpAny_bind (wpAny_standAt (wpAny_pure ?_))))
  have Z3:Inv X (i++[(f,kla_obj "<lambda>" q params body scope B D t C)]) E H2 s2:=I2.Kj λy hy=>by
   rcases mem_append.mp hy with hy |hy
   ·exact I2.pin y (mem_append_right _ hy)
   rw[mem_singleton.mp hy];exact⟨gf,UO.1,UO.2.1,UO.2.2.1,λv z=>by cases z⟩
  refine wpAny_evalAll_cons (wpAny_bind (Jj (O5 _ s2 E H2 (λU N=>U = .Ji/\∃ G,Ex J H2 G N/\Cf X G V S E N) Z3 ⟨J,V,S,.ok .Ji,S,Y.re Wi UN,.nil,rfl,λJ' j w Z s' m'=>⟨At.Jw.mp m',J',Z,(Y.re Wi UN).re Z s'⟩⟩) λw g Z4=>wpAny_bind (wpAny_standAt (wpAny_pure (wpAny_evalAll_nil ?_)))));obtain⟨U,N,I3,Z5,Z6,G,x3,c3⟩:=Z4;subst Z6;obtain rfl:w=Value.none:=Z5;have R:Ex J T G N:=Wi.trans x3;have pf:=I3.pin (f,kla_obj "<lambda>" q params body scope B D t C) (mem_append_right _ (mem_append_right _ (by simp)));have O:=I3.KA;obtain⟨its,rv,XU,hz⟩:=O.list (lq.ex R).sq;have kc:=x3.keep t _ LI cJ;show wpAny _ X.A (PySem.call (.builtin "min") [.ref pl] [(Str.ofString "key",.ref f),(Str.ofString "default",.none)]) _ _ g;refine kmk_tree PySem.F.kind_min PySem.F.plain_min PySem.F.entry_min (DA _ _ _) ?_;show wpAny _ X.A.in1 (Builtin.Builtins.bindParams "min" ["key","default"] 0 ⟨[],[(Str.ofString "key",.ref f),(Str.ofString "default",.none)]⟩ >>= _) _ _ g;refine wpAny_bind (wpAny_of_eq (show Builtin.Builtins.bindParams "min" ["key","default"] 0 ⟨[],[(Str.ofString "key",.ref f),(Str.ofString "default",.none)]⟩=pure [some (.ref f),some .none] from rfl) ?_);refine wpAny_bind (wpAny_pure (wpAny_bind (wpAny_pyIter_list XU.isList (wpAny_bind (wpAny_newList ?_ (zero_le _))))));rw[ME];refine wpAny_pure ⟨plainId_quiet PySem.F.plain_min_loop _,?_⟩;have sz:(g.heap.push { cls:=.type "list_iterator",data:=.fields #[.ref pl,.int 0 0] }).objs.size=g.heap.objs.size+1:=Heap.size_push ..;have k4:∀ b o,g.heap.get? b=some o->((g.heap.push { cls:=.type "list_iterator",data:=.fields #[.ref pl,.int 0 0] }).push (seqObj "list" #[] 0)).get? b=some o:=λb o e=>Heap.get?_push_of_some _ (Heap.get?_push_of_some _ e);have I5:=O.kept (t':=g.toks) k4;have lf:f<g.heap.objs.size:=Heap.lt_size pf.1;have lp:pl<g.heap.objs.size:=by obtain⟨o,e,_⟩:=XU.isList;exact Heap.lt_size e
  have gS:((g.heap.push { cls:=.type "list_iterator",data:=.fields #[.ref pl,.int 0 0] }).push (seqObj "list" #[] 0)).get? (g.heap.push { cls:=.type "list_iterator",data:=.fields #[.ref pl,.int 0 0] }).objs.size=some (seqObj "list" #[] 0):=Heap.get?_push_size _ rfl;have gI:((g.heap.push { cls:=.type "list_iterator",data:=.fields #[.ref pl,.int 0 0] }).push (seqObj "list" #[] 0)).get? g.heap.objs.size=some { cls:=.type "list_iterator",data:=.fields #[.ref pl,.int 0 0] }:=Heap.get?_push_of_some _ (Heap.get?_push_size _ rfl);rw[sz] at gS ⊢
  have F:L7 X i scope B ix x q params body D C t f g.heap.objs.size (g.heap.objs.size+1) pl k gk:=
   ⟨hr,L,lc,λu=>hb B D t C u,ok,λj h=>⟨h,UO.2⟩,λj h=>O.KY (le_refl _) h,λj h=>O.KY (le_succ _) h,ne_of_lt lf,ne_of_lt (lt_succ_of_lt lf),ne_of_lt (lt_succ_self _),ne_of_lt lp,ne_of_lt (lt_succ_of_lt lp)⟩
  have M:KI X i E scope B q params body D C t f g.heap.objs.size (g.heap.objs.size+1) pl V zs ds J T 0 { g with heap:=(g.heap.push { cls:=.type "list_iterator",data:=.fields #[.ref pl,.int 0 0] }).push (seqObj "list" #[] 0) } N G S:=
   ⟨I5,R,c3,lq.ex R,az.ex R,kc.1,kc.2,pf.2.1,O.Jk.fresh (le_refl _),O.Jk.fresh (le_succ _),k4 _ _ pf.1,⟨_,gI,rfl,rfl⟩⟩
  cases ds with
  |nil =>
   cases eq;exact yR F (λj s' I' e=>⟨.Ji,j,I',rfl,by rw[e];exact zz G N .Ji R c3.Jr (At.Jw.mpr rfl)⟩) M gS rfl
  |cons d1 r =>
   simp only at eq;cases eg:gk ((aY 1 ix V).set 0 (some d1)) S with
   |none=>rw[eg] at eq;cases eq
   |some o =>
    obtain⟨ro,S1⟩:=o;rw[eg] at eq;cases ro with
    |error z=>cases eq
    |ok v1 =>
     cases v1 with
     |int n =>
      have eq:eZ (iG (λd S=>gk ((aY 1 ix V).set 0 (some d)) S) r d1 n S1)=some (rr,S'):=eq;unfold eZ at eq;split at eq
      ·rename_i yy S9 Z7;cases eq;exact vV F (λw U j J' s' I' Nc Z Wg m'=>⟨U,j,I',Nc,zz J' j U Z Wg.Jr m'⟩) M gS rfl eg Z7
      cases eq
     |_=>cases eq
 |_=>cases eq
end
theorem Pa {K:IF}{x:Str}{f c P:Addr}{h:Value}{od:Option Addr}{fd:FuncData}{e:Array (Option Value)}{d:Value}{cd:Option Addr}{vs:Array Value}{i:Array (Option Value)}(b:nsIn K mainGlobals x=some (some (.ref f)))(j:K.lookup f=some ⟨h,od,.func fd,e⟩)(g:fd.code = .ref c)
  (a:K.lookup c=some ⟨d,cd,.fields vs,i⟩) (k:vs[11]?=some (.ref P)):tabIn K x=some (c,P):=by
 unfold tabIn;simp only[b,j,g,a,k]
def Fx (K:IF)(mg:IJ)(x:Str):Prop:=∃ f b a fd d c P,mg x=some (.ref f)/\K.lookup f=some ⟨b,a,.func fd,d⟩/\fd.code = .ref c/\tabIn K x=some (c,P)/\codeHdIn K c P=true
section
variable {P:Program}{w:World}{K:IF}{mg:IJ}{base:Heap}
theorem Ds {x:Str}{st:Stmt}{sc:Scope}{N a:List Str}{k:Nat}{G:IE Fl}(r:a9 K mg x st a)(t:Fx K mg x)(n:aq st=sc)(S:IS N a sc)
  (h:∀ (f:Addr) (b:Value) (c Q:Addr),b = .ref c->tabIn K x=some (c,Q)->codeHdIn K c Q=true->∀ (A:Around) (outer:List Env) (s:Shared) (H:Hp) (E:XK),Jp k (A.deeper (envOfC x sc s.heap.objs.size f b))->NV (mS Oa P w K mg base N x sc f b A outer s H E).Pl W0 (bC st) G) :
  Ku P w K mg base (k+1) x a (a8 a.length (N.length-a.length) G):=by
 obtain⟨f,fd,d,i,hb⟩:=r;obtain⟨J,F,y,o,I,c,Q,j,q,l,m,hd⟩:=t;have e:=i.symm.trans j;cases e;have p:fd=o:=by obtain⟨v,u,kV,doc,D,C,b,ct,B,z,g,L⟩:=d.ex;rw[q] at g;cases g;rfl
 subst p;exact⟨f,fd,iL d n S λA outer s H E hr=>h f fd.code c Q l m hd A outer s H E hr,i,d.kp,hb⟩
theorem tabAt {h:Heap}{x:Str}{f c Q:Addr}{a:Value}{od:Option Addr}{fd:FuncData}{b:Array (Option Value)}{i:Value}{cd:Option Addr}{vs:Array Value}{d:Array (Option Value)}(KX:K.In h)(G:h.Ns mainGlobals mg)(n:nsIn K mainGlobals x=some (some (.ref f)))(l:K.lookup f=some ⟨a,od,.func fd,b⟩)(e:fd.code = .ref c)
  (g:K.lookup c=some ⟨i,cd,.fields vs,d⟩) (j:vs[11]?=some (.ref Q)) (hd:codeHdIn K c Q=true):Fx K mg x:=
 ⟨f,a,od,fd,b,c,Q,mg_of KX G n,l,e,Pa n l e g j,hd⟩
def qU (K:IF)(n:Nat)(x:Str)(Q:Addr):Sp:=λb H R _ => ∃ (a:Addr) (ns:List Int),b=[.ref a]/\MA K H a (ns.map V.int)/\ns.length<=n/\H Q=some (.LS #[])/\a≠Q/\∀ c,R (.bl true) c
theorem Da {k n:Nat}{f c Q:Addr}{fd:FuncData}{d:List Str}{F:IK}{x q:Str}(h:Pq P w K mg base k f fd d F)(C:n<=1000)(j:tabIn K x=some (c,Q))
  (s:∀ ns:List Int,ns.length<=n->∃ b,F [.lst (ns.map .int)] [.tab x q]=some (.ok (.bl true),b)):K9 P w K mg base Oa k f fd d (qU K n x Q):=by
 refine K9.imp h λG H R E A=>?_;obtain⟨a,ns,e,y,i,u,ne,B⟩:=A;subst e;obtain⟨b,t⟩:=s ns i;refine⟨[Q],[.tab x q],[.lst (ns.map .int)],.bl true,b,.cons (At.Jc.mpr ⟨a,ns.map V.int,rfl,?_,IT.ofInts ns⟩) .nil,⟨rfl,by simp,λl a o g p=>?_⟩,t,λI r v _ _ m=>?_⟩
 ·rcases y with z |z
  ·exact .inl ⟨z,by simpa using ne,by rw[length_map];exact Nat.le_trans i (Nat.le_trans C (by decide))⟩
  exact .inr z
 ·cases l with
  |zero =>
   cases g;cases p;exact⟨c,#[],j,u,trivial,λpos D e=>by cases e⟩
  |succ l=>cases g
 rw[At.Jn.mp m];exact B r
theorem yZ {B:IJ}{k:Nat}{C a c Q:Addr}{fd:FuncData}{x z:Str}{sb:Shared}{vs:List Value}{ns:List Int}
  (OD:K.In sb.heap) (XX:sb.heap.Ns mainGlobals mg) (hb:sb.heap.Ns builtinsNs B) (Z_:∀ x:Str,x≠"__name__"->B x=bootBuiltins x) (A:sb.heap.NoLimit) (hg:sb.gens = #[])
  (obj:sb.heap.get? a=some { cls:=.type "list",data:=.seq vs.toArray }) (L:IntsAre vs ns) (W:ns.length<=63) (hr:Jp k callerA) (j:sb.heap.get? Q=some (tabObj #[])) (hd:codeHdIn K c Q=true) (kQ:K.lookup Q=none)
  (E:BmB sb.heap mg) (F:∀ base:Heap,K.In base->base.Ns mainGlobals mg->BmB base mg->K9 P w K mg base Oa k C fd [x] (qU K 63 z Q)) (I:∀ (s:Shared) (u:Value),BindsTo s fd ⟨[u],[]⟩ [(x,u)]) :
  codeAny (model P w) callerA (.call (.ref C) ⟨[.ref a],[]⟩) (λr s'=>r = .ok (.ret (.bool true))/\OldK sb.heap s'.heap/\s'.os=sb.os/\AllBare s'.gens) sb:=by
 have X:=kW L;have f:ns.length<=sizeLine:=Nat.le_trans W (by decide);have J:a≠Q:=λe=>by rw[e,j] at obj;cases obj
 have N:∀ H:Hp,MA K H a (ns.map V.int)->K7 P w H sb.heap->H Q=some (.LS #[])->(∀ b,H b≠none->b=Q∨b=a/\K.lookup a=none/\∃ o U,H a=some (.OC o (.lst U))) ->
   codeAny (model P w) callerA (.call (.ref C) ⟨[.ref a],[]⟩) (λr s'=>r = .ok (.ret (.bool true))/\OldK sb.heap s'.heap/\s'.os=sb.os/\AllBare s'.gens) sb:=by
  intro H hS XZ O G
  have Y:∀ {b:Addr}{o:Obj},sb.heap.get? b=some o->o≠tabObj #[]->o≠{ cls:=.type "list",data:=.seq vs.toArray }->H b=none:=λ{b o} e n1 n2=>by
   cases q:H b with
   |none=>rfl
   |some u =>
    rcases G b (by rw[q];simp) with rfl |⟨rfl,_⟩
    ·rw[j] at e;exact absurd (Option.some.inj e).symm n1
    rw[obj] at e;exact absurd (Option.some.inj e).symm n2
  have t:∀ {b:Addr}{m:IJ},sb.heap.Ns b m->(rJ sb.heap H).Ns b m:=λ{b m} ⟨o,es,ep,e,d,r⟩=>⟨o,es,ep,oq e (Y e (λz=>by rw[z] at d;cases d) (λz=>by rw[z] at d;cases d)),d,r⟩
  have M:K.In (rJ sb.heap H):=λb o e=>oq (OD b o e) (by
   cases q:H b with
   |none=>rfl
   |some u =>
    rcases G b (by rw[q];simp) with rfl |⟨rfl,k0,_⟩
    ·rw[kQ] at e;cases e
    rw[k0] at e;cases e)
  have Wm:Mod K mg (rJ sb.heap H):=⟨M,t XX,⟨B,t hb,Z_⟩,let ⟨mc,h1,h2⟩:=A;⟨mc,t h1,h2⟩⟩;have PQ:ND P w K mg (rJ sb.heap H) callerA [] sb H:=⟨rfl,Wm,λb o e=>CS e,Nat.le_of_eq (zb _ _),trivial,λb hb=>absurd (show b∈([]:List Addr) from hb) (by simp),XZ,.of_eq hg⟩;have hB:BmB (rJ sb.heap H) mg:=by obtain⟨bm,o,b1,b2,b3,T,b5,b6,p⟩:=E.out;exact⟨bm,o,b1,b2,b3,oq T (Y T (λz=>by rw[z] at p;cases p) (λz=>by rw[z] at p;cases p)),b5,b6,p⟩
  refine codeAny_mono ((F _ M (t XX) hB).run callerA [] sb H ⟨[.ref a],[]⟩ [.ref a] [.ref a] (λv _=>v = .bl true) (λ_ _ _=>False) hr PQ (I sb (.ref a)) (.cons rfl .nil) ⟨a,ns,rfl,hS,W,O,J,λ_=>rfl⟩) λr s' h=>?_;cases r with
  |error e=>exact False.elim h
  |ok fl =>
   cases fl with
   |next=>exact False.elim h
   |brk=>exact False.elim h
   |cont=>exact False.elim h
   |ret u =>
    obtain⟨v,H',Wn,gens,i,R,r',q⟩:=h;have q':v = .bl true:=q;subst q';obtain rfl:u=Value.bool true:=r'
    have K8:∀ b o,sb.heap.get? b=some o->b≠Q->s'.heap.get? b=some o:=λb o e n=>by
     cases q:H b with
     |none=>exact i.keep b o e q (by intro z;exact absurd (show b∈([]:List Addr) from z) (by simp)) (by simp)
     |some u =>
      rcases G b (by rw[q];simp) with y |⟨y,_,ob,U,S⟩
      ·exact absurd y n
      subst y;have z2:=i.Mq _ ob _ S;obtain⟨e1,_⟩:=XZ _ _ S;obtain⟨e2,_⟩:=R _ _ z2;rw[e] at e1;cases e1;exact e2
    obtain⟨more,D⟩:=i.Mr Q #[] O;have Z:s'.heap.get? Q=some (tabObj (#[]++more)):=R Q _ D;refine⟨rfl,⟨λb o e=>?_,λb o e=>?_⟩,Wn,gens⟩
    ·by_cases y:b=Q
     ·subst y;rw[j] at e;cases e;exact .inr (.inl ⟨((codeHd_of_K OD hd).tab j).isCodeTable,rfl,#[],more,rfl,Z⟩)
     exact .inl (K8 b o e y)
    by_cases y:b=Q
    ·subst y;exact⟨_,Z⟩
    exact⟨o,K8 b o e y⟩
 have Wo:=L.length;cases hk:K.lookup a with
 |some o =>
  have e:=OD a o hk;rw[obj] at e;cases e;refine N (λb=>if b=Q then some (.LS #[]) else none) (.inr ⟨_,vs.toArray,_,hk,rfl,rfl,rfl,by rw[size_toArray,Wo];exact f,by simpa using X⟩) (λb u y=>?_) (if_pos rfl) λb y=>?_
  ·by_cases hb:b=Q
   ·have g:=(if_pos hb).symm.trans y;cases g;subst hb;exact j
   have g:=(if_neg hb).symm.trans y;cases g
  by_cases hb:b=Q
  ·exact .inl hb
  exact absurd (if_neg hb) y
 |none =>
  refine N (λb=>if b=Q then some (.LS #[]) else if b=a then some (.OC { cls:=.type "list",data:=.seq vs.toArray } (.lst (ns.map V.int))) else none) (.inl (.inr ⟨{ cls:=.type "list",data:=.seq vs.toArray },(if_neg J).trans (if_pos rfl)⟩)) (λb u y=>?_) (if_pos rfl) λb y=>?_
  ·by_cases hb:b=Q
   ·have g:=(if_pos hb).symm.trans y;cases g;subst hb;exact j
   have y:=(if_neg hb).symm.trans y;by_cases l:b=a
   ·have g:=(if_pos l).symm.trans y;cases g;subst l;exact⟨obj,by rw[length_map];exact f,vs,_,X,obj⟩
   have g:=(if_neg l).symm.trans y;cases g
  by_cases hb:b=Q
  ·exact .inl hb
  by_cases l:b=a
  ·exact .inr ⟨l,hk,_,_,(if_neg J).trans (if_pos rfl)⟩
  exact absurd ((if_neg hb).trans (if_neg l)) y
theorem Om {l:PySem.W.OpenLaw}{q:Program}{loose:List Str}{B:(IJ)->Heap->Prop}{p:World->Heap->Prop}{d:DefRec}{K:Params->IF}{k:Nat}{x z:Str}{Q:Addr}(R:l.most=some 63)(M:d.params.defaults=[])(hr:Jp k callerA)
  (E:∀ (w:World) (h:Heap),p w h->(K w.params).In h) (L:∀ (w:World) (h:Heap),p w h->h.get? Q=some (tabObj #[]))
  (F:∀ (w:World) (mg:IJ) (i:Addr) (r:Heap),(K w.params).In r->r.Ns mainGlobals mg ->
   mg d.name=some (.ref i) ->
   (∃ c,codeHdIn (K w.params) c Q=true)/\(K w.params).lookup Q=none/\∃ fd:FuncData,(∀ (s:Shared) (u:Value),BindsTo s fd ⟨[u],[]⟩ [(x,u)])/\∀ base:Heap,(K w.params).In base->base.Ns mainGlobals mg->BmB base mg->K9 l.prog w (K w.params) mg base Oa k i fd [x] (qU (K w.params) 63 z Q)) :
  PySem.W.WalkO q loose B p l.row.toRowW d [] (λf vs=>PySem.call f vs):=by
 refine Att.Nd R M λw sz sb mg S i o V U doc a vs ns G Y _ _ _ m lst H Vh J=>?_;have OD:=E w _ Y;obtain⟨⟨c,hc⟩,t,fd,hb,D⟩:=F w mg i _ OD G.T.g m;have P:BmB sb.heap mg:=by obtain⟨bm,O,I,A,j,N,v,n⟩:=G.T.bmain;refine⟨bm,O,I,A,λy=>?_,j,N,v,n⟩;obtain⟨o,es,ep,e,C,_⟩:=G.T.g;rw[y,e] at j;cases j;rw[C] at n;cases n
 exact yZ OD G.T.g G.T.b G.T.builtins G.T.nolimit J lst H Vh hr (L w _ Y) hc t P D hb
end
section
variable {X:Cx}{W:WT}
theorem rW (hc:X.calm=true):jw X (.builtin "max") oa:=by
 intro k s W H b us Q I r h;obtain⟨J,U,d,hJ,m,e,q⟩:=h;unfold oa at e;split at e
 ·rename_i T;obtain⟨ns,y,P⟩:=bind_eq_some_iff.mp e;obtain⟨M,f,B⟩:=map_eq_some_iff.mp P;subst B;obtain⟨v,w,rfl,a,n⟩:=IT.IQ.mp m;cases IT.IV.mp n;obtain⟨p,R,rfl,t,F⟩:=At.Jc.mp a;obtain⟨u,rfl,D⟩:=vals1 r;cases D;have G:=fq y;subst G;have ev:=IT.Lp F;subst ev;obtain⟨its,L,pl,Z⟩:=I.list t.sq;obtain⟨b,ex,c⟩:=jF (eB L)
  have E : 0<b.length:=by
   cases b with
   |nil=>subst c;cases f
   |cons x b=>simp
  have N:s.heap.IsList p (intItems b.toArray):=by have:=pl.isList;rw[ex] at this;simpa [intItems] using this
  have S:b.toArray.size=b.length:=by simp
  refine max_intList (I.ok.hd hc) N (by simpa using E) λv Y tk A z=>?_;obtain⟨O,rfl⟩:=intItems_at A;obtain⟨V,C⟩:=argBest_gt (numAt b.toArray) (b.toArray.size-1);have hb:argBest (λi j=>decide (numAt b.toArray i > numAt b.toArray j)) (b.toArray.size-1)<b.length:=by omega
  have mem:numAt b.toArray (argBest (λi j=>decide (numAt b.toArray i > numAt b.toArray j)) (b.toArray.size-1))∈ns:=by rw[numAt_eq,c];simp only[getD_eq_getElem?_getD,getElem?_map,List.toList_toArray,List.getElem?_eq_getElem hb,map_some,getD_some];exact mem_map.mpr ⟨_,getElem_mem hb,rfl⟩
  have up:∀ a∈ns,a<=numAt b.toArray (argBest (λi j=>decide (numAt b.toArray i > numAt b.toArray j)) (b.toArray.size-1)):=by intro a l;rw[c] at l;obtain⟨x,o,rfl⟩:=mem_map.mp l;obtain⟨j,K,rfl⟩:=getElem_of_mem o;refine Int.le_trans (Int.le_of_eq ?_) (C j (by omega));simp[numAt,K]
  have g:=yU mem up;rw[f] at g;have VV:=Option.some.inj g;refine⟨.int M,H,I.kept (t':=tk) z,⟨O,by rw[VV]⟩,q H _ (I0.refl H) (At.IP.mpr rfl)⟩
 cases e
end
end L2
namespace L2
open PySem PyProof.Rows
section
variable (f g:IE D) (ρ:IM) (S:IL) (i:Nat) (k:Bool)
@[simp] theorem Ik (d:D):aF d ρ S=IX d S:=rfl
@[simp] theorem Im (op:D->D->Option D):aH op f g ρ S=ai (f ρ S) λx a=>ai (g ρ a) λy S2=>aJ (op x y) S2:=rfl
@[simp] theorem Ir (op:D->Option D):Qh op f ρ S=ai (f ρ S) λx a=>aJ (op x) a:=rfl
@[simp] theorem HQ:bF f ρ S=ai (f ρ S) λx a=>aJ (NG x) a:=rfl
@[simp] theorem GY (a b:D->D->Option D)(h:IE D):Fj a b f g h ρ S=ai (f ρ S) λx e=>ai (g ρ e) λy S2=>ai (aJ ((a x y).bind NG) S2) λk c=>if k=true then ai (h ρ c) λz d=>aJ (b y z) d else IX (.bl false) c:=rfl
@[simp] theorem HF (a b:IE Bool):BH a b ρ S=ai (a ρ S) λk c=>if k=true then b ρ c else IX false c:=rfl
@[simp] theorem HX (a b:IE Bool):Fg a b ρ S=ai (a ρ S) λk c=>if k=true then IX true c else b ρ c:=rfl
@[simp] theorem Hu (a:IE Bool):BA a ρ S=ai (a ρ S) λk b=>IX (!k) b:=rfl
@[simp] theorem Ip:zF f g ρ S=ai (f ρ S) λx a=>ai (aJ (NG x) a) λk S2=>if k=true then g ρ S2 else IX (.bl false) S2:=rfl
@[simp] theorem Iv:YH f g ρ S=ai (f ρ S) λx a=>ai (aJ (NG x) a) λk S2=>if k=true then IX (.bl true) S2 else g ρ S2:=rfl
@[simp] theorem HY:Dv f ρ S=ai (f ρ S) λx a=>ai (aJ (NG x) a) λk S2=>IX (.bl (!k)) S2:=rfl
@[simp] theorem Ie (t:IE Bool):o9 t f g ρ S=ai (t ρ S) λk a=>if k=true then f ρ a else g ρ a:=rfl
@[simp] theorem GD:aB ρ S=IX [] S:=rfl
@[simp] theorem Fb (t:IE (List D)):ah f t ρ S=ai (f ρ S) λd a=>ai (t ρ a) λds S2=>IX (d::ds) S2:=rfl
@[simp] theorem HP (t:IE (List D)):jQ t ρ S=ai (t ρ S) λds a=>aJ (Ln ds (.tup ds)) a:=rfl
@[simp] theorem Ib (t:IE (List D)):zD t ρ S=ai (t ρ S) λds a=>aJ (Ln ds (.lst ds)) a:=rfl
@[simp] theorem HD (h:List D->Option D)(t:IE (List D)):bh h t ρ S=ai (t ρ S) λds a=>aJ (h ds) a:=rfl
@[simp] theorem Hv:gz ρ S=IX (.next ρ) S:=rfl
@[simp] theorem DP (a b:IE Fl):aO a b ρ S=ai (a ρ S) λe d=>match e with
 | .next c=>b c d
 |o=>IX o d:=rfl
@[simp] theorem HV:bw f ρ S=ai (f ρ S) λd a=>IX (.ret d) a:=rfl
@[simp] theorem Iy (t:IE Bool)(a b:IE Fl):Od t a b ρ S=ai (t ρ S) λk c=>if k=true then a ρ c else b ρ c:=rfl
@[simp] theorem HR:bo i f ρ S=ai (f ρ S) λd a=>IX (.next (ρ.set i (some d))) a:=rfl
@[simp] theorem Ih (fi:IE (List D))(u:D->IM->Option IM)(b:IE Fl):iU fi u b ρ S=ai (fi ρ S) λds a=>fO u b ds ρ a:=rfl
@[simp] theorem HU (h:List D->Option (List D))(t:IE (List D)):f7 h t ρ S=ai (t ρ S) λds a=>aJ (h ds) a:=rfl
@[simp] theorem GT:bt f ρ S=ai (f ρ S) λd a=>aJ (bU d) a:=rfl
@[simp] theorem Hq:cw ρ S=IX true S:=rfl
@[simp] theorem Ij (F:IK)(t:IE (List D)):aR F t ρ S=ai (t ρ S) λds a=>eZ (F ds a):=rfl
@[simp] theorem xD (d:D):eZ (IX d S)=IX d S:=rfl
@[simp] theorem GC (d:D):eZ (some (.ok d,S))=IX d S:=rfl
@[simp] theorem Iw:KG f g ρ S=ai (f ρ S) λx a=>ai (g ρ a) λy S2=>aJ (JT x y S2) S2:=rfl
@[simp] theorem Ix:OI k f g ρ S=ai (f ρ S) λx a=>ai (g ρ a) λy S2=>aJ (Pr k x y S2) S2:=rfl
@[simp] theorem Hr:xI f ρ S=ai (f ρ S) λd a=>aJ (nH d a) a:=rfl
@[simp] theorem HZ:uP ρ S=IX (.loc S.length) (S++[.dict []]):=rfl
@[simp] theorem HW (h:IE D):wD f g h ρ S=ai (h ρ S) λv b=>ai (f ρ b) λx S2=>ai (g ρ S2) λk a=>tx x k v ρ a:=rfl
@[simp] theorem HC (n:Nat)(ix:List Nat)(fi:IE (List D))(u:D->IM->Option IM)(gt:IE Bool):bX n ix fi u gt f ρ S=ai (fi ρ S) λds a =>
 match bz u gt f ds (aY n ix ρ) a with
 |some (out,S2)=>IX (.lst out) S2
 |none=>none:=rfl
@[simp] theorem Iu (op:D->Option Int->Option Int->Option D)(lo a:Option (IE D)):OV op f lo a ρ S=ai (f ρ S) λx c=>ai (kH lo ρ c) λl S2=>ai (kH a ρ S2) λu b=>aJ (op x l u) b:=rfl
@[simp] theorem GW:kH none ρ S=IX none S:=rfl
@[simp] theorem GV:kH (some f) ρ S=ai (f ρ S) λd a=>aJ (v_ d) a:=rfl
@[simp] theorem H_ (a:D->Bool)(op:D->D->Option D):BE a op f g ρ S=ai (f ρ S) λx b=>if a x=true then ai (g ρ b) λy S2=>aJ (op x y) S2 else none:=rfl
@[simp] theorem HN (d:D)(h : ρ[i]?=some (some d)):af i ρ S=IX d S:=by unfold af;rw[h]
@[simp] theorem GS (d:D):aD i d ρ=some (ρ.set i (some d)):=rfl
@[simp] theorem Il (b:Bool):NG (.bl b)=some b:=rfl
end
@[simp] theorem bH {ds:List D}{d:D}(h:ds.length<=1000):Ln ds d=some d:=by
 unfold Ln;rw[if_pos (Nat.le_trans h (by decide))]
theorem au {n m:Nat}{G:IE Fl}{ds:List D}{S a:IL}{d:D}(b:ds.length=n)(h:G (ds.map some++replicate m none) S=IX (.ret d) a):a8 n m G ds S=IX d a:=by unfold a8;rw[if_pos b,h];rfl
theorem c9 {u:D->IM->Option IM}{gt:IE Bool}{fe:IE D}(I:IM->Prop)(g:D->Bool)(f:D->D)(S:IL) :
  ∀ (ds:List D) (ρ:IM),I ρ->(∀ d∈ds,∀ ρ,I ρ->∃ a,u d ρ=some a/\I a/\gt a S=IX (g d) S/\(g d=true->fe a S=IX (f d) S))->bz u gt fe ds ρ S=some ((ds.filter g).map f,S)
 |[],ρ,_,_=>rfl
 |d::ds,ρ,hI,h=>by
  obtain⟨a,i,k,l,j⟩:=h d (mem_cons_self ..) ρ hI;have c:=c9 I g f S ds a k λx e=>h x (mem_cons_of_mem _ e);rw[bz,i,bind_some,l];simp only[IX,PY,bind_some];by_cases b:g d=true
  ·rw[if_pos b,j b];simp only[IX,PY,bind_some,c,map_some,filter_cons,b,if_true,map_cons]
  rw[if_neg b,c,filter_cons,if_neg b]
theorem dC {u:D->IM->Option IM}{fe:IE D}(I:IM->Prop)(f:D->D)(S:IL)(ds:List D)(ρ:IM)(c:I ρ)
  (h:∀ d∈ds,∀ ρ,I ρ->∃ a,u d ρ=some a/\I a/\fe a S=IX (f d) S):bz u cw fe ds ρ S=some (ds.map f,S):=by
 have q:=c9 (u:=u) (gt:=cw) (fe:=fe) I (λ_=>true) f S ds ρ c λd hd ρ hr=>by obtain⟨a,b,e,g⟩:=h d hd ρ hr;exact⟨a,b,e,rfl,λ_=>g⟩
 rw[q,List.filter_eq_self.mpr λ_ _=>rfl]
theorem bZ {u:D->IM->Option IM}{body:IE Fl}(I:Nat->IM->IL->Prop):∀ (ds:List D) (i:Nat) (ρ:IM) (S:IL),I i ρ S ->
  (∀ (j:Nat) d ρ S,ds[j]?=some d->I (i+j) ρ S->∃ l,u d ρ=some l/\∃ g k,body l S=IX (.next g) k/\I (i+j+1) g k)->∃ g k,fO u body ds ρ S=IX (.next g) k/\I (i+ds.length) g k
 |[],i,ρ,S,n,_=>⟨ρ,S,rfl,n⟩
 |d::ds,i,ρ,S,n,h=>by
  obtain⟨l,q,g,k,v,o⟩:=h 0 d ρ S rfl n
  obtain⟨m,s,r,t⟩:=bZ I ds (i+1) g k o λj x ρ S p w=>by
   obtain⟨a,b,c,d,e,f⟩:=h (j+1) x ρ S (by simpa using p) (by rw[show i+(j+1)=i+1+j by omega];exact w);exact⟨a,b,c,d,e,by rw[show i+1+j+1=i+(j+1)+1 by omega];exact f⟩
  refine⟨m,s,?_,by rw[length_cons,show i+(ds.length+1)=i+1+ds.length by omega];exact t⟩;rw[fO,q];simp only[v,cD];exact r
mutual
def pl:D->Bool
 | .tup a=>Px a
 | .lst a=>Px a
 | .set _=>false
 | .loc _=>false
 | .fn _ _=>false
 |_=>true
def Px:List D->Bool
 |[]=>true
 |d::ds=>pl d&&Px ds
end
theorem xc:∀ {ds:List D},Px ds=true↔∀ d∈ds,pl d=true
 |[]=>by simp[Px]
 |d::ds=>by rw[Px,and_eq_true,xc (ds:=ds)];simp
mutual
theorem wV:∀ {d:D},pl d=true->∃ p,toPy d=some p
 | .Ji,_=>⟨_,rfl⟩
 | .bl _,_=>⟨_,rfl⟩
 | .int _,_=>⟨_,rfl⟩
 | .str _,_=>⟨_,rfl⟩
 | .tup b,h=>by
  rw[pl] at h;obtain⟨a,e⟩:=j3 h;exact⟨.tuple a,by rw[toPy,e];rfl⟩
 | .lst b,h=>by
  rw[pl] at h;obtain⟨a,e⟩:=j3 h;exact⟨.list a,by rw[toPy,e];rfl⟩
 | .set _,h=>by simp[pl] at h
 | .loc _,h=>by simp[pl] at h
 | .fn _ _,h=>by simp[pl] at h
theorem j3:∀ {ds:List D},Px ds=true->∃ a,dZ ds=some a
 |[],_=>⟨[],rfl⟩
 |d::ds,h=>by
  rw[Px,and_eq_true] at h;obtain⟨p,b⟩:=wV h.1;obtain⟨a,c⟩:=j3 h.2;exact⟨p::a,by rw[dZ,b,c];rfl⟩
end
theorem pC:∀ {ds:List D}{a:List PyData},dZ ds=some a->a.length=ds.length
 |[],a,e=>by cases e;rfl
 |d::ds,a,e=>by
  rw[dZ] at e;obtain⟨p,_,f⟩:=bind_eq_some_iff.mp e;obtain⟨r,b,c⟩:=map_eq_some_iff.mp f;subst c;rw[length_cons,length_cons,pC b]
theorem Dw {α:Type}[BEq α][LawfulBEq α][DecidableEq α](a b : α):(a==b)=decide (a=b):=by by_cases h:a=b<;>simp[h]
@[simp] theorem Dh (i j:Int):K0 (.int i) (.int j)=some (.bl (decide (i=j))):=by simp[K0,toPy,PyData.eqv,PyData.depth,Dw]
@[simp] theorem CW (i j:Int):RM (.int i) (.int j)=some (.bl (!decide (i=j))):=by simp[RM,toPy,PyData.eqv,PyData.depth,Dw]
@[simp] theorem Hn (a b:Bool):K0 (.bl a) (.bl b)=some (.bl (a==b)):=by simp[K0,toPy,PyData.eqv,PyData.depth]
theorem jA:∀ l:List Str,dZ (l.map .str)=some (l.map .str)
 |[]=>rfl
 |a::l=>by rw[map_cons,dZ,jA l];rfl
theorem uv:∀ l m:List Str,PyData.eqvAll (l.map .str) (m.map .str)=decide (l=m)
 |[],[]=>rfl
 |[],b::m=>by simp[PyData.eqvAll]
 |a::l,[]=>by simp[PyData.eqvAll]
 |a::l,b::m=>by
  rw[map_cons,map_cons,PyData.eqvAll,uv l m];simp only[PyData.eqv,List.cons.injEq];by_cases h:a=b<;>by_cases c:l=m<;>simp[h,c]
theorem Dg {ds:List D}(h:Px ds=true):K0 (.lst ds) (.lst [])=some (.bl (ds.isEmpty)):=by
 obtain⟨a,e⟩:=j3 h;have b:toPy (.lst ds)=some (.list a):=by rw[toPy,e];rfl
 have l:=pC e;have c:toPy (.lst [])=some (.list []):=rfl;unfold K0;rw[b,c];cases a with
 |nil=>cases ds with
  |nil=>simp[PyData.depth,PyData.depthAll,PyData.eqv,PyData.eqvAll]
  |cons _ _=>simp at l
 |cons p a=>cases ds with
  |nil=>simp at l
  |cons _ _=>simp[PyData.depth,PyData.depthAll,PyData.eqv,PyData.eqvAll]
theorem in3 (x a b c:Str):inD (.str x) (.tup [.str a,.str b,.str c])=some (.bl (decide (a=x) ||(decide (b=x) ||decide (c=x)))):=by simp[inD,we,toPy,dZ,vG,PyData.eqv,PyData.depth,Dw]
theorem xO (f:D->Bool):∀ ds:List D,wF (ds.map λd => .bl (f d))=some (ds.map f)
 |[]=>rfl
 |d::ds=>by rw[map_cons,wF,xO f ds];rfl
section
variable (ρ:IM) (S:IL)
@[simp] theorem HB (F:IK)(t:IE (List D)):GG F t ρ S=ai (t ρ S) λds a=>F ds a:=rfl
@[simp] theorem GU (c:Str)(t:IE (List D)):Ff c t ρ S=ai (t ρ S) λds a=>ai (aJ (Ln ds .Ji) a) λ_ S2=>some (.error c,S2):=rfl
@[simp] theorem Ig (a:Str->Option Bool)(f:IE D):HH a f ρ S=ai (f ρ S) λd b=>aJ (Gq a d b) b:=rfl
end
end L2
namespace Jd
open PySem L2
def Bl:IE Fl:=
  (bw (aH K0 (bh cm (ah (af 0) aB)) (aF (.int 3))))
def iZ:IK:=a8 1 0 Bl
def ko:IE Fl:=
  (bw (o9 (bF (aR iZ (ah (af 0) aB))) (OV M8 (af 0) (some (aF (.int 1))) none) (jQ aB)))
def cr:IK:=a8 1 0 ko
def oB:IE Fl:=
  (bw (o9 (bF (aR iZ (ah (af 0) aB))) (BE fm jc (af 1) (KG (af 0) (aF (.int 0)))) (bh cm (ah (af 1) aB))))
def jS:IK:=a8 2 0 oB
def qp:IE Fl:=
  (aO (bo 4 (zE (af 0) (af 1)))
  (bw (o9 (bF (aH K0 (KG (af 4) (aF (.int 0))) (af 2))) (KG (af 4) (aH br (aF (.int 1)) (af 3))) (af 1))))
def lQ:IK:=a8 4 1 qp
def bT (rec:IK):IE Fl:=
  (Od (bF (OI true (af 3) (af 2))) (oK (aR rec (ah (af 0) (ah (af 3) (ah (af 2) aB))))) gz)
def dR (rec:IK):IE Fl:=
  (aO (iU (bt (aR cr (ah (zE (af 0) (af 1)) aB))) (aD 3) (bT rec))
  (wD (af 2) (af 1) (aF (.bl true))))
def bj:Nat->IK
 | 0=>λ_ _=>none
 |n+1=>a8 3 1 (dR (bj n))
def iJ:IE Fl:=
  (aO (bo 2 uP)
  (aO (oK (aR (bj 10) (ah (af 0) (ah (af 1) (ah (af 2) aB)))))
  (bw (lI (af 2)))))
def fH:IK:=a8 2 1 iJ
def iI:IE Fl:=
  (bw (o9 (bF (aR iZ (ah (af 0) aB))) (jQ (ah (KG (af 0) (aF (.int 0))) (ah (KG (af 1) (KG (af 0) (aF (.int 1)))) (ah (KG (af 1) (KG (af 0) (aF (.int 2)))) aB)))) (af 0)))
def fG:IK:=a8 2 0 iI
def rL:IE Fl:=
  (bw (aH br (aH br (OV M8 (af 0) none (some (af 1))) (jQ (ah (af 2) aB))) (OV M8 (af 0) (some (aH br (af 1) (aF (.int 1)))) none)))
def eK:IK:=a8 3 0 rL
def eP:IE Bool:=
  (bF (aH PV (af 1) (aF .Ji)))
def fy:IE D:=
  (af 0)
def gJ:IE Fl:=
  (bw (bX 2 [] (f7 mF (ah (af 0) aB)) (kX 2 (a_ (aD 0) (a_ (aD 1) g9))) eP fy))
def df:IK:=a8 1 0 gJ
def d6:IE Fl:=
  (uQ 1 (aF (.int 2)))
def fP:IE Fl:=
  (aO (bo 1 (aF (.int 1)))
  (aO (iU (bt (aR df (ah (af 0) aB))) (aD 2) d6)
  (bw (af 1))))
def dg:IK:=a8 1 2 fP
def qm:IE Fl:=
  (aO (bo 2 (o9 (bF (aR iZ (ah (af 0) aB))) (KG (af 1) (KG (af 0) (aF (.int 0)))) (aF .Ji)))
  (bw (o9 (bF (aH PV (af 2) (aF .Ji))) (aR cr (ah (af 0) aB)) (jQ (ah (KG (af 0) (aH br (aF (.int 1)) (af 2))) aB)))))
def lP:IK:=a8 2 1 qm
def fQ:IE D:=
  (aF (.int 0))
def dc:IE Fl:=
  (uR (af 2) (af 5) (aH d5 (wE (af 2) (af 3)) (bh cm (ah (af 4) aB))))
def db:IE Fl:=
  (aO (bo 4 (aR lP (ah (KG (af 0) (af 3)) (ah (af 1) aB))))
  (iU (bt (af 4)) (aD 5) dc))
def hU:IE Fl:=
  (aO (bo 2 (oM 1 [] (bt (af 0)) (aD 0) cw fQ))
  (aO (xM (af 2) (Qh yL (aF (.int 1))) (aR dg (ah (af 1) aB)))
  (aO (iU (f7 tf (ah (aH sR (bh cm (ah (af 0) aB)) (aF (.int 1))) (ah (Qh yL (aF (.int 1))) (ah (Qh yL (aF (.int 1))) aB)))) (aD 3) db)
  (bw (af 2)))))
def cF:IK:=a8 2 4 hU
def fL:IE Bool:=
  (BA (bF (aR iZ (ah (af 0) aB))))
def iO:IE D:=
  (jQ (ah (KG (af 0) (aF (.int 1))) (ah (af 1) aB)))
def lF:IE Fl:=
  (bw (bX 2 [] (f7 BW (ah (af 0) (ah (kI (aR cF (ah (af 0) (ah (af 1) aB)))) aB))) (kX 2 (a_ (aD 0) (a_ (aD 1) g9))) fL iO))
def lU:IK:=a8 2 0 lF
def cj:IE Bool:=
  (bF (aH UA (KG (af 0) (aF (.int 1))) (aF (.int 0))))
def cn:IE D:=
  (KG (af 0) (aF (.int 0)))
def fw:IE Fl:=
  (bw (bX 1 [] (bt (aR lU (ah (af 0) (ah (af 1) aB)))) (aD 0) cj cn))
def cg:IK:=a8 2 0 fw
def gT:IE Fl:=
  (oK (Fi (af 2) (af 3)))
def jH:IE Fl:=
  (aO (bo 2 uO)
  (aO (iU (bt (aR cg (ah (af 0) (ah (af 1) aB)))) (aD 3) gT)
  (bw (bh jy (ah (lM (af 2)) aB)))))
def gU:IK:=a8 2 2 jH
def bR:IE D:=
  (bh cm (ah (aR gU (ah (af 1) (ah (aR eK (ah (af 2) (ah (af 3) (ah (af 0) aB)))) aB))) aB))
def iK:IE Fl:=
  (bw (bh oa (ah (bX 1 [0,1,2] (bt (aF (D.tup [(D.int 0),(D.int 1)]))) (aD 0) cw bR) aB)))
def iX:IK:=a8 3 0 iK
def cR:IE D:=
  (aR iX (ah (af 1) (ah (af 2) (ah (af 0) aB))))
def lD:IE Fl:=
  (bw (BC "next_of" "next_of.<locals>.<lambda>" [0,1] (aR df (ah (af 1) aB)) cR))
def eN:IK:=a8 2 0 lD
def dX:IE Fl:=
  (aO (oJ "Rows" "order" (af 0) (af 1))
  (aO (oJ "Rows" "gathered" (af 0) uO)
  (aO (oJ "Rows" "numbers" (af 0) xJ)
  (oJ "Rows" "choices" (af 0) xJ))))
def bQ:IK:=a8 2 0 dX
def cN:IE Fl:=
  (wD (af 3) (af 5) (af 4))
def bM:IE D:=
  (aR fG (ah (wE (iV "Rows" "gathered" (af 2)) (af 0)) (ah (af 1) aB)))
def gw:IE Fl:=
  (aO (bo 2 (aR fH (ah (iV "Rows" "gathered" (af 0)) (ah (af 1) aB))))
  (aO (bo 3 uP)
  (aO (iU (f7 rP (ah (af 2) aB)) (kX 2 (a_ (aD 4) (a_ (aD 5) g9))) cN)
  (bw (bh jy (ah (bX 1 [3,0] (bt (af 2)) (aD 0) cw bM) aB))))))
def dE:IK:=a8 2 4 gw
def bd:IE D:=
  (aR jS (ah (wE (iV "Rows" "gathered" (af 1)) (af 0)) (ah (iV "Rows" "order" (af 1)) aB)))
def cY:IE Fl:=
  (aO (bo 4 (bX 1 [0] (bt (jQ (ah (af 2) (ah (af 3) aB)))) (aD 0) cw bd))
  (bw (KG (iV "Rows" "order" (af 0)) (bh tX (ah (aH br (af 4) (zD (ah (BE fm jc (iV "Rows" "order" (af 0)) (af 1)) aB))) aB)))))
def bN:IK:=a8 4 1 cY
def dA:IE Fl:=
  (aO (Od (bF (BB true (af 1) (iV "Rows" "numbers" (af 0)))) (aO (uN (iV "Rows" "numbers" (af 0)) (af 1) (Bu (iV "Rows" "gathered" (af 0))))
  (oK (Fk (iV "Rows" "gathered" (af 0)) (af 1)))) gz)
  (bw (xK (iV "Rows" "numbers" (af 0)) (af 1))))
def bI:IK:=a8 2 0 dA
def b_:IE Fl:=
  (bw (o9 (bF (aH K0 (af 2) (af 3))) (af 2) (dj "Rows" "number_of" bI (af 0) (ah (jQ (ah (af 1) (ah (af 2) (ah (af 3) aB)))) aB))))
def bE:IK:=a8 4 0 b_
def mC:IE Fl:=
  (bw (aR lQ (ah (iV "Rows" "gathered" (af 0)) (ah (af 1) (ah (af 2) (ah (af 3) aB))))))
def bJ:IK:=a8 4 0 mC
def cM (rec:IK):IE Fl:=
  (aO (bo 4 (dj "Rows" "first_character" bN (af 0) (ah (af 1) (ah (af 2) (ah (af 3) aB)))))
  (aO (Od (bF (aH K0 (af 4) (af 1))) (bw (dj "Rows" "number_of_ask" bE (af 0) (ah (af 1) (ah (dj "Rows" "side" bJ (af 0) (ah (af 2) (ah (af 1) (ah (aF (.int 0)) aB)))) (ah (dj "Rows" "side" bJ (af 0) (ah (af 3) (ah (af 1) (ah (aF (.int 1)) aB)))) aB))))) gz)
  (aO (bo 5 (dj "Rows" "choose" rec (af 0) (ah (af 1) (ah (dj "Rows" "side" bJ (af 0) (ah (af 2) (ah (af 4) (ah (aF (.int 0)) aB)))) (ah (dj "Rows" "side" bJ (af 0) (ah (af 3) (ah (af 4) (ah (aF (.int 0)) aB)))) aB)))))
  (aO (bo 6 (dj "Rows" "choose" rec (af 0) (ah (af 1) (ah (dj "Rows" "side" bJ (af 0) (ah (af 2) (ah (af 4) (ah (aF (.int 1)) aB)))) (ah (dj "Rows" "side" bJ (af 0) (ah (af 3) (ah (af 4) (ah (aF (.int 1)) aB)))) aB)))))
  (bw (dj "Rows" "number_of_ask" bE (af 0) (ah (af 4) (ah (af 5) (ah (af 6) aB)))))))))
def cO (rec:IK):IK:=a8 4 3 (cM rec)
def dH (rec:IK):IE Fl:=
  (aO (bo 4 (jQ (ah (af 1) (ah (af 2) (ah (af 3) aB)))))
  (aO (Od (bF (BB true (af 4) (iV "Rows" "choices" (af 0)))) (uN (iV "Rows" "choices" (af 0)) (af 4) (o9 (bF (aH K0 (af 2) (af 3))) (af 2) (dj "Rows" "choose_anew" (cO rec) (af 0) (ah (af 1) (ah (af 2) (ah (af 3) aB)))))) gz)
  (bw (xK (iV "Rows" "choices" (af 0)) (af 4)))))
def dM:Nat->IK
 | 0=>λ_ _=>none
 |n+1=>a8 4 1 (dH (dM n))
def dW (rec:IK):IE Fl:=
  (aO (Od (bF (aH K0 (KG (af 1) (aF (.int 0))) (aF (.str "names")))) (bw (dj "Rows" "number_of" bI (af 0) (ah (af 1) aB))) gz)
  (bw (dj "Rows" "choose" (dM 9) (af 0) (ah (KG (af 1) (aF (.int 1))) (ah (aR rec (ah (af 0) (ah (KG (af 1) (aF (.int 2))) aB))) (ah (aR rec (ah (af 0) (ah (KG (af 1) (aF (.int 3))) aB))) aB))))))
def cG:Nat->IK
 | 0=>λ_ _=>none
 |n+1=>a8 2 0 (dW (cG n))
def ur:IE Fl:=
  (aO (bo 2 (xL "Rows" bQ (ah (af 1) aB)))
  (bw (dj "Rows" "fold_from" dE (af 2) (ah (aR (cG 15) (ah (af 2) (ah (af 0) aB))) aB))))
def kP:IK:=a8 2 1 ur
def mB:IE Fl:=
  (aO (Od (bF (aH Q0 (af 1) (bh cm (ah (af 0) aB)))) (bw (KG (af 0) (af 1))) gz)
  (bw (aF (.int 0))))
def iY:IK:=a8 2 0 mB
def qu:IE Fl:=
  (aO (bo 2 (aH bY (aH cS (aH br (aH br (aR iY (ah (af 0) (ah (af 1) aB))) (aH cS (aF (.int 7919)) (af 1))) (aF (.int 1))) (aF (.int 48271))) (aF (.int 2147483647))))
  (bw (aH bY (aH br (aH br (aH cS (af 2) (af 2)) (aH cS (aF (.int 7)) (af 2))) (af 1)) (aF (.int 2147483629)))))
def aZ:IK:=a8 2 1 qu
def qv:IE Fl:=
  (aO (bo 2 (aH bY (aH cS (aH br (aH br (af 0) (aH cS (aF (.int 104729)) (af 1))) (aF (.int 17))) (aF (.int 69621))) (aF (.int 2147483647))))
  (bw (aH bY (aH br (aH br (aH cS (af 2) (af 2)) (aH cS (aF (.int 3)) (af 2))) (af 1)) (aF (.int 2147483629)))))
def dD:IK:=a8 2 1 qv
def fW:IE Fl:=
  (bo 5 (aH br (af 5) (KG (af 1) (aH bY (aH d5 (af 4) (aH br (aH cS (aF (.int 31)) (af 6)) (aF (.int 29)))) (aF (.int 26))))))
def fV:IE Fl:=
  (aO (bo 4 (aR dD (ah (af 0) (ah (af 3) aB))))
  (aO (bo 5 (KG (af 1) (aH bY (af 4) (aF (.int 26)))))
  (aO (iU (f7 di (ah (aH cS (aH bY (aH d5 (af 4) (aF (.int 26))) (aF (.int 8))) (aH bY (af 0) (aF (.int 2)))) aB)) (aD 6) fW)
  (wD (af 2) (aH br (af 5) (aH cS (aF (.str "q")) (bh intD (ah (OI false (af 5) (aF (D.tup [(D.str "names"),(D.str "ask"),(D.str "end")]))) aB)))) (aF (.bl true))))))
def ql:IE Fl:=
  (aO (bo 1 (aF (.str "abcdefghijklmnopqrstuvwxyz")))
  (aO (bo 2 uP)
  (aO (iU (f7 di (ah (aF (.int 6)) aB)) (aD 3) fV)
  (bw (bh jy (ah (xI (af 2)) aB))))))
def lO:IK:=a8 1 6 ql
def im:IE Bool:=
  (bF (aH K0 (aH bY (aH d5 (af 2) (aH br (aH cS (aF (.int 3)) (af 0)) (aF (.int 1)))) (aF (.int 4))) (aF (.int 0))))
def iN:IE D:=
  (af 1)
def qt:IE Fl:=
  (bw (bh jy (ah (bX 2 [0] (f7 mF (ah (af 1) aB)) (kX 2 (a_ (aD 0) (a_ (aD 1) g9))) im iN) aB)))
def lT:IK:=a8 2 0 qt
def rM (rec:IK):IE Fl:=
  (aO (Od (Fg (bF (aH K0 (af 3) (aF (.int 0)))) (bF (aH K0 (aH bY (af 0) (aF (.int 7))) (aF (.int 0))))) (bw (jQ (ah (aF (.str "names")) (ah (aR lT (ah (aH d5 (af 0) (aF (.int 7))) (ah (af 1) aB))) aB)))) gz)
  (aO (bo 4 (aR rec (ah (aR dD (ah (af 0) (ah (aF (.int 1)) aB))) (ah (af 1) (ah (af 2) (ah (aH sR (af 3) (aF (.int 1))) aB))))))
  (aO (bo 5 (aR rec (ah (aR dD (ah (af 0) (ah (aF (.int 2)) aB))) (ah (af 1) (ah (af 2) (ah (aH sR (af 3) (aF (.int 1))) aB))))))
  (bw (jQ (ah (aF (.str "ask")) (ah (aH bY (aH d5 (af 0) (aF (.int 7))) (af 2)) (ah (af 4) (ah (af 5) aB)))))))))
def kO:Nat->IK
 | 0=>λ_ _=>none
 |n+1=>a8 4 2 (rM (kO n))
def fX:IE Fl:=
  (aO (bo 4 (aH bY (aR dD (ah (af 0) (ah (af 3) aB))) (aH br (bh cm (ah (af 2) aB)) (aF (.int 1)))))
  (bo 2 (aH br (aH br (OV M8 (af 2) none (some (af 4))) (zD (ah (af 3) aB))) (OV M8 (af 2) (some (af 4)) none))))
def qr:IE Fl:=
  (aO (bo 2 (zD aB))
  (aO (iU (f7 di (ah (af 1) aB)) (aD 3) fX)
  (bw (bh jy (ah (af 2) aB)))))
def lS:IK:=a8 2 3 qr
def fR:IE D:=
  (KG (aF (D.tup [D.Ji,(D.int 0),(D.int 1),D.Ji])) (aH bY (aR dD (ah (af 1) (ah (af 0) aB))) (aF (.int 4))))
def qq:IE Fl:=
  (bw (bh jy (ah (bX 1 [0] (f7 di (ah (af 1) aB)) (aD 0) cw fR) aB)))
def lR:IK:=a8 2 0 qq
def kt:IE D:=
  (aH br (af 0) (aF (D.tup [(D.int 0)])))
def kr:IE D:=
  (aH br (af 0) (aF (D.tup [(D.int 1)])))
def eD:IE Fl:=
  (bo 1 (aH br (bX 1 [] (bt (af 1)) (aD 0) cw kt) (bX 1 [] (bt (af 1)) (aD 0) cw kr)))
def oA:IE Fl:=
  (aO (bo 1 (aF (D.lst [(D.tup [])])))
  (aO (iU (f7 di (ah (af 0) aB)) (aD 2) eD)
  (bw (bh qV (ah (af 1) aB)))))
def jR:IK:=a8 1 2 oA
def jI (rec:IK):IE Fl:=
  (aO (Od (bF (aH K0 (KG (af 0) (aF (.int 0))) (aF (.str "names")))) (bw (KG (af 0) (aF (.int 1)))) gz)
  (bw (aR rec (ah (KG (af 0) (aH br (aF (.int 2)) (KG (af 1) (KG (af 0) (aF (.int 1)))))) (ah (af 1) aB)))))
def gW:Nat->IK
 | 0=>λ_ _=>none
 |n+1=>a8 2 0 (jI (gW n))
def uq:IE Fl:=
  (aO (bo 2 (aH br (aF (.int 1)) (aH bY (aR aZ (ah (af 0) (ah (aF (.int 0)) aB))) (af 1))))
  (aO (bo 3 (aR lO (ah (aR aZ (ah (af 0) (ah (aF (.int 1)) aB))) aB)))
  (aO (bo 4 (aR (kO 8) (ah (aR aZ (ah (af 0) (ah (aF (.int 2)) aB))) (ah (af 3) (ah (af 2) (ah (aH br (aF (.int 1)) (aH bY (aR aZ (ah (af 0) (ah (aF (.int 3)) aB))) (aF (.int 5)))) aB))))))
  (bw (jQ (ah (af 2) (ah (af 3) (ah (af 4) (ah (aR lS (ah (aR aZ (ah (af 0) (ah (aF (.int 4)) aB))) (ah (af 2) aB))) aB)))))))))
def kN:IK:=a8 2 3 uq
def d8:IE Bool:=
  (BH (bF (aH om (KG (af 1) (af 0)) (aF .Ji))) (bF (aH RM (KG (af 1) (af 0)) (KG (af 2) (af 0)))))
def kA:IE D:=
  (af 0)
def jJ:IE Fl:=
  (bw (aH K0 (bX 1 [1,0] (f7 di (ah (bh cm (ah (af 1) aB)) aB)) (aD 0) d8 kA) (zD aB)))
def jT:IK:=a8 2 0 jJ
def cT:IE Bool:=
  (bF (aR jT (ah (af 0) (ah (af 2) aB))))
def cZ:IE D:=
  (aR (gW 15) (ah (af 1) (ah (af 0) aB)))
def iM:IE D:=
  (OI false (af 1) (af 0))
def eQ:IE Bool:=
  (bF (bh zG (ah (bX 1 [0] (bt (af 1)) (aD 0) cw iM) aB)))
def fz:IE D:=
  (af 0)
def gK:IE Fl:=
  (aO (bo 3 (bX 1 [0,1] (bt (aR jR (ah (bh cm (ah (af 1) aB)) aB))) (aD 0) cT cZ))
  (bw (bh cm (ah (bX 1 [3] (bt (af 2)) (aD 0) eQ fz) aB))))
def eL:IK:=a8 3 1 gK
def rQ:IE D:=
  (bh intD (ah (aH K0 (af 0) (aF (.int 1))) aB))
def jf:IE D:=
  (aR eL (ah (af 1) (ah (aH br (aH br (OV M8 (af 3) none (some (af 4))) (jQ (ah (af 0) aB))) (OV M8 (af 3) (some (aH br (af 4) (aF (.int 1)))) none)) (ah (af 2) aB))))
def eE:IE Fl:=
  (Od (bF (aH PV (KG (af 6) (af 9)) (aF .Ji))) (aO (bo 10 (bX 1 [3,2,6,9] (bt (aF (D.tup [(D.int 0),(D.int 1)]))) (aD 0) cw jf))
  (Od (bF (aH Q0 (bh oa (ah (af 10) aB)) (af 8))) (aO (bo 7 (af 9))
  (bo 8 (bh oa (ah (af 10) aB)))) gz)) gz)
def Bk:IE Fl:=
  (aO (r_ (kX 4 (a_ (aD 1) (a_ (aD 2) (a_ (aD 3) (a_ (aD 4) g9))))) (aR kN (ah (af 0) (ah (aF (.int 6)) aB))))
  (aO (bo 5 (aR kP (ah (af 3) (ah (af 4) aB))))
  (aO (bo 6 (aR lR (ah (aR aZ (ah (af 0) (ah (aF (.int 5)) aB))) (ah (af 1) aB))))
  (aO (Od (bF (aH K0 (aH bY (aR aZ (ah (af 0) (ah (aF (.int 6)) aB))) (aF (.int 6))) (aF (.int 1)))) (bo 6 (bh jy (ah (bX 1 [] (bt (af 6)) (aD 0) cw rQ) aB))) gz)
  (aO (bo 7 (aF .Ji))
  (aO (bo 8 (aF (.int 99)))
  (aO (iU (f7 di (ah (af 1) aB)) (aD 9) eE)
  (aO (bo 11 (aR eN (ah (af 5) (ah (af 6) aB))))
  (bw (zF (Dv (Qh (Bb "bool") (af 11))) (zF (aH K0 (af 11) (af 7)) (aH K0 (aR eN (ah (af 5) (ah (af 6) aB))) (af 7)))))))))))))
def BS:IK:=a8 1 11 Bk
def top (i:Nat):Stmt:=PySem.Challenge.pw_keyfold_k33_whole_next.main.body.getD i (.Pass ⟨0,0,0,0⟩)
def Do:Stmt->List Stmt
 | .ClassDef _ _ _ b _ _ _ _ _ _ _=>b
 |_=>[]
def tY (i j:Nat):Stmt:=(Do (top i)).getD j (.Pass ⟨0,0,0,0⟩)
abbrev Ae:Stmt:=top 1
abbrev IA(s:Str):=(s,NameKind.local)
abbrev IB(s:Str):=(s,NameKind.globalImplicit)
abbrev ID(s:Str):Str×Const:=("fast",.str s)
abbrev IC(l:List (Str×NameKind))(m:List (Str×Const)):Scope:=⟨.function,l,false,false,m⟩
noncomputable abbrev zM:Scope:=IC [IA "row",IB "len"] []
abbrev j9:Stmt:=top 2
noncomputable abbrev jX:Scope:=IC [IA "row",IB "asks"] []
abbrev nR:Stmt:=top 3
noncomputable abbrev ni:Scope:=IC [IA "row",IA "order",IB "asks",IB "len"] []
abbrev pJ:Stmt:=top 4
noncomputable abbrev pe:Scope:=IC [IA "rows",IA "number",IA "character",IA "value",IA "row"] []
abbrev ma:Stmt:=top 6
noncomputable abbrev lV:Scope:=IC [IA "rows",IA "number",IA "left",IA "below",IB "rows_below",IB "leave_row"] []
abbrev iz:Stmt:=top 5
noncomputable abbrev ig:Scope:=IC [IA "rows",IA "top",IA "left",IB "leave_row",IB "list"] []
abbrev iw:Stmt:=top 7
noncomputable abbrev ie:Scope:=IC [IA "row",IA "numbers",IB "asks"] []
abbrev j7:Stmt:=top 10
noncomputable abbrev jW:Scope:=IC [IA "sheet",IA "character",IA "value"] []
abbrev j8:Stmt:=top 11
noncomputable abbrev JU:Scope:=IC [IA "sheet",IB "enumerate"] [ID "sheet",ID "character",ID "value"]
abbrev fN:Stmt:=top 14
noncomputable abbrev fK:Scope:=IC [IA "sheet",IA "things",IA "character",IB "unknown_in"] []
abbrev pH:Stmt:=top 15
noncomputable abbrev pc:Scope:=IC [IA "row",IA "sheet",IA "value",IB "asks",IB "rows_below"] []
abbrev g_:Stmt:=top 13
noncomputable abbrev JF:Scope:=IC [IA "fold",IA "sheet",IA "coming",IA "number",IA "ways",IA "below",IB "things_agreeing",IB "range",IB "len",IB "ways_on"] [ID "fold",ID "sheet",ID "row",ID "coming",ID "number",ID "ways",ID "below"]
abbrev pQ:Stmt:=top 17
noncomputable abbrev KP:Scope:=IC [IA "fold",IA "sheet",IB "zip",IB "things_coming"] [ID "fold",ID "sheet",ID "row",ID "coming"]
abbrev iA:Stmt:=top 18
noncomputable abbrev JI:Scope:=IC [IA "fold",IA "sheet",IB "counted"] [ID "fold",ID "sheet",ID "pair"]
abbrev nQ:Stmt:=top 19
noncomputable abbrev nh:Scope:=IC [IA "fold",IA "sheet",IA "found",IA "names",IB "answers_left",IB "tuple",IB "sorted",IB "set"] []
abbrev l_:Stmt:=top 21
noncomputable abbrev J9:Scope:=IC [("fold",.cell),("sheet",.cell),("character",.cell),IB "max"] [ID "fold",ID "sheet",ID "character",ID "value"]
abbrev pM:Stmt:=top 20
noncomputable abbrev KR:Scope:=IC [("fold",.cell),("sheet",.cell),IB "min",IB "unknown_in"] []
abbrev hM:Stmt:=tY 8 0
noncomputable abbrev g6:Scope:=IC [IA "self",IA "order"] []
abbrev gh:Stmt:=tY 8 7
noncomputable abbrev Jz:Scope:=IC [("self",.cell),IA "top",IA "left",("numbers",.cell),IA "place",IA "number",IB "rows_as_left",IB "enumerate",IB "tuple"] [ID "self",ID "top",ID "left",ID "numbers",ID "place",ID "number"]
abbrev cV:Stmt:=tY 8 4
noncomputable abbrev Jo:Scope:=IC [("self",.cell),IA "character",IA "no",IA "yes",IA "places",IB "min"] [ID "self",ID "character",ID "no",ID "yes",ID "number",ID "places"]
abbrev gg:Stmt:=tY 8 1
noncomputable abbrev f_:Scope:=IC [IA "self",IA "row",IB "len"] []
abbrev dP:Stmt:=tY 8 2
noncomputable abbrev dO:Scope:=IC [IA "self",IA "character",IA "no",IA "yes"] []
abbrev mf:Stmt:=tY 8 3
noncomputable abbrev lZ:Scope:=IC [IA "self",IA "number",IA "character",IA "value",IB "side_of"] []
abbrev eW:Stmt:=tY 8 6
noncomputable abbrev eO:Scope:=IC [IA "self",IA "character",IA "no",IA "yes",IA "first",IA "without",IA "having"] []
abbrev jq:Stmt:=tY 8 5
noncomputable abbrev jo:Scope:=IC [IA "self",IA "character",IA "no",IA "yes",IA "choice"] []
abbrev hG:Stmt:=top 24
noncomputable abbrev gZ:Scope:=IC [IA "rows",IA "key",IB "number_of_key"] []
abbrev s_:Stmt:=top 23
noncomputable abbrev sH:Scope:=IC [IA "key",IA "order",IA "rows",IB "Rows",IB "number_of_key"] []
abbrev me:Stmt:=top 26
noncomputable abbrev lW:Scope:=IC [IA "_law_script",IA "_law_k",IB "len"] []
abbrev pO:Stmt:=top 27
noncomputable abbrev pi:Scope:=IC [IA "_law_script",IA "_law_k",IA "_law_drawn_here",IB "_law_cell_at"] []
abbrev pP:Stmt:=top 28
noncomputable abbrev pp:Scope:=IC [IA "_law_number",IA "_law_k",IA "_law_drawn_here"] []
abbrev pG:Stmt:=top 29
noncomputable abbrev o_:Scope:=IC [IA "_law_number",IA "_law_letters",IA "_law_found",IA "_law_k",IA "_law_drawn_here",IA "_law_word",IA "_law_at",IB "range",IB "_law_drawn",IB "int",IB "tuple",IB "sorted"] []
abbrev pN:Stmt:=top 30
noncomputable abbrev KS:Scope:=IC [("_law_number",.cell),IA "_law_words_here",IB "tuple",IB "enumerate"] [ID "_law_number",ID "_law_words_here",ID "_law_k",ID "_law_word"]
abbrev w_:Stmt:=top 31
noncomputable abbrev wO:Scope:=IC [IA "_law_number",IA "_law_words_here",IA "_law_many",IA "_law_deep",IA "_law_no",IA "_law_yes",IB "_law_names",IB "_law_key",IB "_law_drawn"] []
abbrev pL:Stmt:=top 32
noncomputable abbrev ph:Scope:=IC [IA "_law_number",IA "_law_many",IA "_law_found",IA "_law_k",IA "_law_at",IB "range",IB "_law_drawn",IB "len",IB "tuple"] []
abbrev pK:Stmt:=top 33
noncomputable abbrev KU:Scope:=IC [("_law_number",.cell),IA "_law_many",IB "tuple",IB "range"] [ID "_law_number",ID "_law_many",ID "_law_k"]
abbrev nP:Stmt:=top 34
noncomputable abbrev JO:Scope:=IC [IA "_law_many",IA "_law_found",IA "_law_k",IB "range",IB "sorted"] [ID "_law_many",ID "_law_found",ID "_law_k",ID "_law_thing"]
abbrev nS:Stmt:=top 35
noncomputable abbrev nj:Scope:=IC [IA "_law_key_here",IA "_law_thing",IB "_law_answer"] []
abbrev s9:Stmt:=top 36
noncomputable abbrev sG:Scope:=IC [IA "_law_script",IA "_law_most",IA "_law_many",IA "_law_words_here",IA "_law_key_here",IB "_law_mixed",IB "_law_words",IB "_law_key",IB "_law_order"] []
abbrev nT:Stmt:=top 37
noncomputable abbrev Kk:Scope:=IC [("_law_thing",.cell),("_law_sheet_here",.cell),IB "range",IB "len"] [ID "_law_thing",ID "_law_sheet_here",ID "_law_k"]
abbrev j_:Stmt:=top 38
noncomputable abbrev JA:Scope:=IC [("_law_key_here",.cell),("_law_sheet_here",.cell),IA "_law_words_here",("_law_answers",.cell),IB "_law_things",IB "len"] [ID "_law_key_here",ID "_law_sheet_here",ID "_law_words_here",ID "_law_thing",ID "_law_answers",ID "_law_word",ID "_law_names_here"]
abbrev Ad:Stmt:=top 39
noncomputable abbrev MF:Scope:=IC [IA "_law_script",IA "_law_many",("_law_words_here",.cell),("_law_key_here",.cell),IA "_law_order_here",IA "_law_fold",("_law_sheet_here",.cell),IA "_law_due",IA "_law_least",("_law_k",.cell),IA "_law_sizes",IA "_law_found",IB "_law_made",IB "folded",IB "_law_sheet",IB "_law_mixed",IB "tuple",IB "range",IB "max",IB "next_of",IB "isinstance",IB "bool"] [ID "_law_script",ID "_law_many",ID "_law_words_here",ID "_law_key_here",ID "_law_order_here",ID "_law_fold",ID "_law_sheet_here",ID "_law_part",ID "_law_due",ID "_law_least",ID "_law_k",ID "_law_value",ID "_law_sizes",ID "_law_found"]
set_option hygiene false in
local macro_rules|`(tactic|and_intros)=>`(tactic|(have hu:=aW hr;have Js:=aU hr;have JZ:=aV hr;have Ki:=hr.gd))
set_option hygiene false in
local macro_rules|`(tactic|nofun)=>`(tactic|exact ⟨rfl,rfl,rfl,by decide,rfl,by decide,by decide⟩)
set_option hygiene false in
local macro_rules|`(tactic|exists $z)=>`(tactic|exact(show ∀ y∈(_:List (Str×NameKind)),y.2=NameKind.free->List.lookup y.1 ($z).names=some NameKind.cell∨List.lookup y.1 ($z).names=some NameKind.free from by decide))
set_option hygiene false in
local macro_rules|`(tactic|exists $z,$n)=>`(tactic|exact(show ∀ t∈(($z):List Nat),List.lookup ((($n):List Str).getD t Str.empty) _=some NameKind.free from by decide))
set_option hygiene false in
local macro_rules|`(tactic|symm)=>`(tactic|exact hr.mono (by omega))
set_option hygiene false in
local macro_rules|`(!$n:num)=>`(aa (i:=$n))
structure Top (K:IF) (mg:IJ):Prop where
 Rw:a9 K mg "asks" Ae ["row"]
 MY:a9 K mg "rows_below" j9 ["row"]
 NL:a9 K mg "place_of" nR ["row","order"]
 Oo:a9 K mg "side_of" pJ ["rows","number","character","value"]
 Lx:a9 K mg "leave_row" ma ["rows","number","left"]
 L8:a9 K mg "rows_as_left" iz ["rows","top"]
 L9:a9 K mg "with_numbers" iw ["row","numbers"]
 MZ:a9 K mg "with_value" j7 ["sheet","character","value"]
 M0:a9 K mg "unknown_in" j8 ["sheet"]
 Lh:a9 K mg "things_agreeing" fN ["sheet"]
 Oq:a9 K mg "ways_on" pH ["row","sheet"]
 LK:a9 K mg "things_coming" g_ ["fold","sheet"]
 Ot:a9 K mg "counted" pQ ["fold","sheet"]
 L_:a9 K mg "answers_left" iA ["fold","sheet"]
 NM:a9 K mg "possible" nQ ["fold","sheet"]
 Nn:a9 K mg "most_left" l_ ["fold","sheet","character"]
 Ou:a9 K mg "next_of" pM ["fold","sheet"]
 LL:FA K mg "Rows" "Rows.__init__" hM ["self","order"]
 Lr:MethAt K "Rows" "fold_from" "Rows.fold_from" gh ["self","top"]
 Kl:MethAt K "Rows" "first_character" "Rows.first_character" cV ["self","character","no","yes"]
 Lu:MethAt K "Rows" "number_of" "Rows.number_of" gg ["self","row"]
 KJ:MethAt K "Rows" "number_of_ask" "Rows.number_of_ask" dP ["self","character","no","yes"]
 Np:MethAt K "Rows" "side" "Rows.side" mf ["self","number","character","value"]
 Ld:MethAt K "Rows" "choose_anew" "Rows.choose_anew" eW ["self","character","no","yes"]
 K2:MethAt K "Rows" "choose" "Rows.choose" jq ["self","character","no","yes"]
 Ko:a9 K mg "number_of_key" hG ["rows","key"]
 Pb:a9 K mg "folded" s_ ["key","order"]
 Nq:a9 K mg "_law_cell_at" me ["_law_script","_law_k"]
 Ov:a9 K mg "_law_mixed" pO ["_law_script","_law_k"]
 Ow:a9 K mg "_law_drawn" pP ["_law_number","_law_k"]
 Ox:a9 K mg "_law_words" pG ["_law_number"]
 Oy:a9 K mg "_law_names" pN ["_law_number","_law_words_here"]
 N3:a9 K mg "_law_key" w_ ["_law_number","_law_words_here","_law_many","_law_deep"]
 Oz:a9 K mg "_law_order" pL ["_law_number","_law_many"]
 OA:a9 K mg "_law_sheet" pK ["_law_number","_law_many"]
 NN:a9 K mg "_law_things" nP ["_law_many"]
 Ma:a9 K mg "_law_answer" nS ["_law_key_here","_law_thing"]
 Pc:a9 K mg "_law_made" s9 ["_law_script","_law_most"]
 NO:a9 K mg "_law_agrees" nT ["_law_thing","_law_sheet_here"]
 M3:a9 K mg "_law_possible" j_ ["_law_key_here","_law_sheet_here","_law_words_here"]
 T8:a9 K mg "law" Ad ["_law_script"]
 MG:Fx K mg "next_of"
 KL:mg "len"=none
 Rx:mg "list"=none
 KN:mg "enumerate"=none
 J_:mg "range"=none
 T9:mg "zip"=none
 Mb:mg "sorted"=none
 T_:mg "set"=none
 Km:mg "tuple"=none
 Pd:mg "max"=none
 QD:mg "min"=none
 QE:mg "int"=none
 Ua:mg "any"=none
 M4:mg "isinstance"=none
 Ry:mg "bool"=none
 JV:mJ K "Rows" "order"
 Jm:mJ K "Rows" "gathered"
 JJ:mJ K "Rows" "numbers"
 JK:mJ K "Rows" "choices"
structure Ju (K:IF) (mg:IJ) (base:Heap):Prop extends Top K mg where
 bm:BmB base mg
section
variable {P:Program}{w:World}{K:IF}{mg:IJ}{base:Heap}
theorem BT:aq Ae=zM:=rfl
theorem N4:IS ["row"] ["row"] zM:=by nofun
theorem iS (T:Ju K mg base):Ku P w K mg base 1 "asks" ["row"] iZ:=
 aT T.Rw BT N4 (λf Jl A outer s H E hr=>by
 and_intros;have nd:=N4.nd
 exact(ar (aL (k8 (eY hu) (bf fZ T.KL fF (ae (!0) aj)) ao))))
theorem oU:aq j9=jX:=rfl
theorem K3:IS ["row"] ["row"] jX:=by nofun
theorem iR (T:Ju K mg base):Ku P w K mg base 2 "rows_below" ["row"] cr:=
 aT T.MY oU K3 (λf Jl A outer s H E hr=>by
 and_intros;have nd:=K3.nd
 exact(ar (aL (iu (jz (aG (iS T) (by symm) (ae (!0) aj))) (nL Q1 (!0) ao trivial) (dw aj)))))
theorem sD:aq nR=ni:=rfl
theorem Ly:IS ["row","order"] ["row","order"] ni:=by nofun
theorem r8 (T:Ju K mg base):Ku P w K mg base 2 "place_of" ["row","order"] jS:=
 aT T.NL sD Ly (λf Jl A outer s H E hr=>by
 and_intros;have nd:=Ly.nd
 exact(ar (aL (iu (jz (aG (iS T) (by symm) (ae (!0) aj))) (p8 rfl (!1) (aP Js (!0) ao)) (bf fZ T.KL fF (ae (!1) aj))))))
theorem ve:aq pJ=pe:=rfl
theorem Mc:IS ["rows","number","character","value","row"] ["rows","number","character","value"] pe:=by nofun
theorem uI (T:Ju K mg base):Ku P w K mg base 1 "side_of" ["rows","number","character","value"] lQ:=
 aT T.Oo ve Mc (λf Jl A outer s H E hr=>by
 and_intros;have nd:=Mc.nd
 exact(al (aM (i:=4) nd (w9 (!0) (!1)))
  (ar (aL (iu (bK (eY hu) (aP Js (!4) ao) (!2)) (aP Js (!4) (aC aX ao (!3))) (!1))))))
theorem qH:aq ma=lV:=rfl
theorem Li:IS ["rows","number","left","below"] ["rows","number","left"] lV:=by nofun
theorem jv (T:Ju K mg base):∀ n:Nat,Ku P w K mg base (n+2) "leave_row" ["rows","number","left"] (bj n)
 | 0=>kD T.Lx
 |n+1=>by
  have Lj:=jv T n
  exact aT T.Lx qH Li (λf Jl A outer s H E hr=>by
   and_intros;have nd:=Li.nd
   exact(al (eT PassesOwn.never rfl (cy (aG (iR T) (by symm) (ae (w9 (!0) (!1)) aj))) (aI (i:=3) nd) (ar (io (yc hu Js JZ (!3) (!2)) (ar (mW (aG Lj (by symm) (ae (!0) (ae (!3) (ae (!2) aj)))))) cU)))
    (ar (vD Js (!2) (!1) Ab))))
theorem mL:aq iz=ig:=rfl
theorem Kp:IS ["rows","top","left"] ["rows","top"] ig:=by nofun
theorem lK (T:Ju K mg base):Ku P w K mg base 13 "rows_as_left" ["rows","top"] fH:=
 aT T.L8 mL Kp (λf Jl A outer s H E hr=>by
 and_intros;have nd:=Kp.nd
 exact(al (aM (i:=2) nd qZ)
  (al (mW (aG (jv T 10) (by symm) (ae (!0) (ae (!1) (ae (!2) aj)))))
  (ar (aL (sW Js T.Rx (!2)))))))
theorem mK:aq iw=ie:=rfl
theorem Kq:IS ["row","numbers"] ["row","numbers"] ie:=by nofun
theorem lJ (T:Ju K mg base):Ku P w K mg base 2 "with_numbers" ["row","numbers"] fG:=
 aT T.L9 mK Kq (λf Jl A outer s H E hr=>by
 and_intros;have nd:=Kq.nd
 exact(ar (aL (iu (jz (aG (iS T) (by symm) (ae (!0) aj))) (dw (ae (aP Js (!0) ao) (ae (aP Js (!1) (aP Js (!0) ao)) (ae (aP Js (!1) (aP Js (!0) ao)) aj)))) (!0)))))
theorem oS:aq j7=jW:=rfl
theorem K4:IS ["sheet","character","value"] ["sheet","character","value"] jW:=by nofun
theorem oG (T:Ju K mg base):Ku P w K mg base 1 "with_value" ["sheet","character","value"] eK:=
 aT T.MZ oS K4 (λf Jl A outer s H E hr=>by
 and_intros;have nd:=K4.nd
 exact(ar (aL (aC aX (aC aX (nL Q1 (!0) trivial (!1)) (dw (ae (!2) aj))) (nL Q1 (!0) (aC aX (!1) ao) trivial)))))
theorem oT:aq j8=JU:=rfl
theorem K5:IS ["sheet"] ["sheet"] JU:=by nofun
theorem iQ (T:Ju K mg base):Ku P w K mg base 1 "unknown_in" ["sheet"] df:=
 aT T.M0 oT K5 (λf Jl A outer s H E hr=>by
 and_intros;have nd:=K5.nd
 exact(ar (aL (bV (ts:=["character","value"]) (ix:=[]) rfl ⟨rfl,by decide,by decide,by exists JU⟩ (by exists [],["sheet"]) (qY rfl T.KN (ae (!0) aj)) (λ_ _ _ _ _=>⟨(nJ rfl (bO (aI (i:=0) (show (["character","value"]:List Str).Nodup from by decide)) (bO (aI (i:=1) (show (["character","value"]:List Str).Nodup from by decide)) j5))),(gD (bK AG (!1) iq)),(!0)⟩)))))
theorem jx:aq fN=fK:=rfl
theorem J5:IS ["sheet","things","character"] ["sheet"] fK:=by nofun
theorem jn (T:Ju K mg base):Ku P w K mg base 2 "things_agreeing" ["sheet"] dg:=
 aT T.Lh jx J5 (λf Jl A outer s H E hr=>by
 and_intros;have nd:=J5.nd
 exact(al (aM (i:=1) nd ao)
  (al (eT PassesOwn.never rfl (cy (aG (iQ T) (by symm) (ae (!0) aj))) (aI (i:=2) nd) (ar (B8 (n:=1) nd ao)))
  (ar (aL (!1))))))
theorem vd:aq pH=pc:=rfl
theorem Md:IS ["row","sheet","value"] ["row","sheet"] pc:=by nofun
theorem uH (T:Ju K mg base):Ku P w K mg base 3 "ways_on" ["row","sheet"] lP:=
 aT T.Oq vd Md (λf Jl A outer s H E hr=>by
 and_intros;have nd:=Md.nd
 exact(al (aM (i:=2) nd (iu (jz (aG (iS T) (by symm) (ae (!0) aj))) (aP Js (!1) (aP Js (!0) ao)) iq))
  (ar (aL (iu (bK AG (!2) iq) (aG (iR T) (by symm) (ae (!0) aj)) (dw (ae (aP Js (!0) (aC aX ao (!2))) aj)))))))
theorem kR:aq g_=JF:=rfl
theorem Ke:IS ["fold","sheet","coming","number","ways","below"] ["fold","sheet"] JF:=by nofun
theorem kE (T:Ju K mg base):Ku P w K mg base 4 "things_coming" ["fold","sheet"] cF:=
 aT T.LK kR Ke (λf Jl A outer s H E hr=>by
 and_intros;have nd:=Ke.nd
 exact(al (sS (ts:=["row"]) (ix:=[]) (i:=2) nd rfl ⟨rfl,by decide,by decide,by exists JF⟩ (by exists [],["fold","sheet","coming","number","ways","below"]) (cy (!0)) (λ_ _ _ _ _=>⟨(aI (i:=0) (show (["row"]:List Str).Nodup from by decide)),dF,ao⟩))
  (al (B7 (!2) (w4 qO ao) (aG (jn T) (by symm) (ae (!1) aj)))
  (al (eT PassesOwn.never rfl (yh rfl T.J_ (ae (aC vR (bf fZ T.KL fF (ae (!0) aj)) ao) (ae (w4 qO ao) (ae (w4 qO ao) aj)))) (aI (i:=3) nd) (al (aM (i:=4) nd (aG (uH T) (by symm) (ae (aP Js (!0) (!3)) (ae (!1) aj))))
  (ar (eT PassesOwn.never rfl (cy (!4)) (aI (i:=5) nd) (ar (B9 (!2) (!5) (aC i9 (q8 (!2) (!3)) (bf fZ T.KL fF (ae (!4) aj)))))))))
  (ar (aL (!2)))))))
theorem vm:aq pQ=KP:=rfl
theorem Me:IS ["fold","sheet"] ["fold","sheet"] KP:=by nofun
theorem uM (T:Ju K mg base):Ku P w K mg base 5 "counted" ["fold","sheet"] lU:=
 aT T.Ot vm Me (λf Jl A outer s H E hr=>by
 and_intros;have nd:=Me.nd
 exact(ar (aL (bV (ts:=["row","coming"]) (ix:=[]) rfl ⟨rfl,by decide,by decide,by exists KP⟩ (by exists [],["fold","sheet"]) (D5 rfl T.T9 (ae (!0) (ae (yj (aG (kE T) (by symm) (ae (!0) (ae (!1) aj)))) aj))) (λ_ _ _ _ _=>⟨(nJ rfl (bO (aI (i:=0) (show (["row","coming"]:List Str).Nodup from by decide)) (bO (aI (i:=1) (show (["row","coming"]:List Str).Nodup from by decide)) j5))),(gD (DX (jz (aG (iS T) (by symm) (ae (!0) aj))))),(dw (ae (aP Js (!0) ao) (ae (!1) aj)))⟩)))))
theorem mM:aq iA=JI:=rfl
theorem Kr:IS ["fold","sheet"] ["fold","sheet"] JI:=by nofun
theorem lL (T:Ju K mg base):Ku P w K mg base 6 "answers_left" ["fold","sheet"] cg:=
 aT T.L_ mM Kr (λf Jl A outer s H E hr=>by
 and_intros;have nd:=Kr.nd
 exact(ar (aL (bV (ts:=["pair"]) (ix:=[]) rfl ⟨rfl,by decide,by decide,by exists JI⟩ (by exists [],["fold","sheet"]) (cy (aG (uM T) (by symm) (ae (!0) (ae (!1) aj)))) (λ_ _ _ _ _=>⟨(aI (i:=0) (show (["pair"]:List Str).Nodup from by decide)),(gD (bK Ge (aP Js (!0) ao) ao)),(aP Js (!0) ao)⟩)))))
theorem sC:aq nQ=nh:=rfl
theorem Lz:IS ["fold","sheet","found","names"] ["fold","sheet"] nh:=by nofun
theorem r6 (T:Ju K mg base):Ku P w K mg base 7 "possible" ["fold","sheet"] gU:=
 aT T.NM sC Lz (λf Jl A outer s H E hr=>by
 and_intros;have nd:=Lz.nd
 exact(al (aM (i:=2) nd w8)
  (al (eT PassesOwn.never rfl (cy (aG (lL T) (by symm) (ae (!0) (ae (!1) aj)))) (aI (i:=3) nd) (ar (mW (Eb rfl (!2) (!3)))))
  (ar (aL (ck jO T.Km fD (ae (sV rfl rfl rfl T.Mb T.T_ (!2)) aj)))))))
theorem qG:aq l_=J9:=rfl
theorem Lk:IS ["fold","sheet","character"] ["fold","sheet","character"] J9:=by nofun
theorem o7 (T:Ju K mg base):Ku P w K mg base 8 "most_left" ["fold","sheet","character"] iX:=
 aT T.Nn qG Lk (λf Jl A outer s H E hr=>by
 and_intros;have nd:=Lk.nd
 exact(ar (aL (bf (rW rfl) T.Pd wG (ae (bV (ts:=["value"]) (ix:=[0,1,2]) rfl ⟨rfl,by decide,by decide,by exists J9⟩ (by exists [0,1,2],["fold","sheet","character"]) (cy (ir (.tup (.cons .int (.cons .int .nil)) (by decide)))) (λ_ _ _ _ _=>⟨(aI (i:=0) (show (["value","fold","sheet","character"]:List Str).Nodup from by decide)),dF,(bf fZ T.KL fF (ae (aG (r6 T) (by symm) (ae (!1) (ae (aG (oG T) (by symm) (ae (!2) (ae (!3) (ae (!0) aj)))) aj))) aj))⟩)) aj)))))
theorem vh:aq pM=KR:=rfl
theorem Mf:IS ["fold","sheet"] ["fold","sheet"] KR:=by nofun
theorem mH (T:Ju K mg base):Ku P w K mg base 11 "next_of" ["fold","sheet"] eN:=
 Ds T.Ou T.MG vh Mf (λf Jl _ _ Wq Ws Wt A outer s H E hr=>by
 and_intros;have nd:=Mf.nd
 exact(ar (aL (Cg (z:="next_of") (q:="next_of.<locals>.<lambda>") (x:="character") (ix:=[0,1]) (k:=8) (by symm) T.QD (aG (iQ T) (by symm) (ae (!1) aj)) iq ⟨⟨rfl,by decide,by decide,by exists KR⟩,by decide,by exact(show ∀ t∈([0,1]:List Nat),List.lookup ((["fold","sheet"]:List Str).getD t Str.empty) _=some NameKind.free from by decide),rfl,rfl,rfl⟩ (λ_ _ _ _ _ hr=>(aG (o7 T) (by symm) (ae (!1) (ae (!2) (ae (!0) aj))))) (λ_ _ _ _ _=>rfl) rfl rfl Wq Ws Wt T.bm))))
theorem kT:aq hM=g6:=rfl
theorem Kf:IS ["self","order"] ["self","order"] g6:=by nofun
theorem kG (T:Ju K mg base):FF P w K mg base 1 "Rows" ["self","order"] bQ:=
 Dt T.LL kT Kf (λf Jl A outer s H E hr=>by
 and_intros;have nd:=Kf.nd
 exact(al (qT T.JV (!0) (!1))
  (al (qT T.Jm (!0) w8)
  (al (qT T.JJ (!0) w6)
  (ar (qT T.JK (!0) w6))))))
theorem jV:aq gh=Jz:=rfl
theorem Ka:IS ["self","top","left","numbers","place","number"] ["self","top"] Jz:=by nofun
theorem jP (T:Ju K mg base):oR P w K mg base 14 "Rows" "fold_from" ["self","top"] dE:=
 gR T.Lr jV Ka (λf Jl A outer s H E hr=>by
 and_intros;have nd:=Ka.nd
 exact(al (aM (i:=2) nd (aG (lK T) (by symm) (ae (cK T.Jm (!0)) (ae (!1) aj))))
  (al (aM (i:=3) nd qZ)
  (al (eT PassesOwn.never rfl (zX rfl T.KN (ae (!2) aj)) (nJ rfl (bO (aI (i:=4) nd) (bO (aI (i:=5) nd) j5))) (ar (vD Js (!3) (!5) (!4))))
  (ar (aL (ck jO T.Km fD (ae (bV (ts:=["number"]) (ix:=[3,0]) rfl ⟨rfl,by decide,by decide,by exists Jz⟩ (by exists [3,0],["self","top","left","numbers","place","number"]) (cy (!2)) (λ_ _ _ _ _=>⟨(aI (i:=0) (show (["number","numbers","self"]:List Str).Nodup from by decide)),dF,(aG (lJ T) (by symm) (ae (q8 (cK T.Jm (!2)) (!0)) (ae (!1) aj)))⟩)) aj))))))))
theorem f9:aq cV=Jo:=rfl
theorem JH:IS ["self","character","no","yes","places"] ["self","character","no","yes"] Jo:=by nofun
theorem f6 (T:Ju K mg base):oR P w K mg base 3 "Rows" "first_character" ["self","character","no","yes"] bN:=
 gR T.Kl f9 JH (λf Jl A outer s H E hr=>by
 and_intros;have nd:=JH.nd
 exact(al (nG (ts:=["number"]) (ix:=[0]) (i:=4) nd rfl ⟨rfl,by decide,by decide,by exists Jo⟩ (by exists [0],["self","character","no","yes","places"]) (cy (dw (ae (!2) (ae (!3) aj)))) (λ_ _ _ _ _=>⟨(aI (i:=0) (show (["number","self"]:List Str).Nodup from by decide)),dF,(aG (r8 T) (by symm) (ae (q8 (cK T.Jm (!1)) (!0)) (ae (cK T.JV (!1)) aj)))⟩))
  (ar (aL (aP Js (cK T.JV (!0)) (bf (Dr rfl) T.QD BI (ae (aC aX (!4) (nM (ae (p8 rfl (cK T.JV (!0)) (!1)) aj))) aj)))))))
theorem jU:aq gg=f_:=rfl
theorem Kb:IS ["self","row"] ["self","row"] f_:=by nofun
theorem fB (T:Ju K mg base):oR P w K mg base 1 "Rows" "number_of" ["self","row"] bI:=
 gR T.Lu jU Kb (λf Jl A outer s H E hr=>by
 and_intros;have nd:=Kb.nd
 exact(al (io (pB hu (!1) (cK T.JJ (!0))) (al (wY hu (cK T.JJ (!0)) (!1) (Ci T.KL (cK T.Jm (!0))))
  (ar (mW (Ed rfl (cK T.Jm (!0)) (!1))))) cU)
  (ar (aL (w5 hu (cK T.JJ (!0)) (!1))))))
theorem h8:aq dP=dO:=rfl
theorem JM:IS ["self","character","no","yes"] ["self","character","no","yes"] dO:=by nofun
theorem c_ (T:Ju K mg base):oR P w K mg base 2 "Rows" "number_of_ask" ["self","character","no","yes"] bE:=
 gR T.KJ h8 JM (λf Jl A outer s H E hr=>by
 and_intros;have nd:=JM.nd
 exact(ar (aL (iu (bK (eY hu) (!2) (!3)) (!2) (bG (fB T) (by symm) (!0) (ae (dw (ae (!1) (ae (!2) (ae (!3) aj)))) aj))))))
theorem qJ:aq mf=lZ:=rfl
theorem Ll:IS ["self","number","character","value"] ["self","number","character","value"] lZ:=by nofun
theorem bS (T:Ju K mg base):oR P w K mg base 2 "Rows" "side" ["self","number","character","value"] bJ:=
 gR T.Np qJ Ll (λf Jl A outer s H E hr=>by
 and_intros;have nd:=Ll.nd
 exact(ar (aL (aG (uI T) (by symm) (ae (cK T.Jm (!0)) (ae (!1) (ae (!2) (ae (!3) aj))))))))
theorem jh:aq eW=eO:=rfl
theorem JS:IS ["self","character","no","yes","first","without","having"] ["self","character","no","yes"] eO:=by nofun
theorem iT (T:Ju K mg base){n:Nat}{rec:IK}(Lj:oR P w K mg base (n*2+3) "Rows" "choose" ["self","character","no","yes"] rec):oR P w K mg base (n*2+4) "Rows" "choose_anew" ["self","character","no","yes"] (cO rec):=by
 rw[show n*2+4=(n*2+3)+1 from by omega]
 exact gR T.Ld jh JS (λf Jl A outer s H E hr=>by
 and_intros;have nd:=JS.nd
 exact(al (aM (i:=4) nd (bG (f6 T) (by symm) (!0) (ae (!1) (ae (!2) (ae (!3) aj)))))
  (al (io (bK (eY hu) (!4) (!1)) (ar (aL (bG (c_ T) (by symm) (!0) (ae (!1) (ae (bG (bS T) (by symm) (!0) (ae (!2) (ae (!1) (ae ao aj)))) (ae (bG (bS T) (by symm) (!0) (ae (!3) (ae (!1) (ae ao aj)))) aj)))))) cU)
  (al (aM (i:=5) nd (bG Lj (by symm) (!0) (ae (!1) (ae (bG (bS T) (by symm) (!0) (ae (!2) (ae (!4) (ae ao aj)))) (ae (bG (bS T) (by symm) (!0) (ae (!3) (ae (!4) (ae ao aj)))) aj)))))
  (al (aM (i:=6) nd (bG Lj (by symm) (!0) (ae (!1) (ae (bG (bS T) (by symm) (!0) (ae (!2) (ae (!4) (ae ao aj)))) (ae (bG (bS T) (by symm) (!0) (ae (!3) (ae (!4) (ae ao aj)))) aj)))))
  (ar (aL (bG (c_ T) (by symm) (!0) (ae (!4) (ae (!5) (ae (!6) aj)))))))))))
theorem m9:aq jq=jo:=rfl
theorem KO:IS ["self","character","no","yes","choice"] ["self","character","no","yes"] jo:=by nofun
theorem hV (T:Ju K mg base):∀ n:Nat,oR P w K mg base (n*2+3) "Rows" "choose" ["self","character","no","yes"] (dM n)
 | 0=>zC T.K2
 |n+1=>by
  have Lj:=hV T n;rw[show (n+1)*2+3=(n*2+4)+1 from by omega]
  exact gR T.K2 m9 KO (λf Jl A outer s H E hr=>by
   and_intros;have nd:=KO.nd
   exact(al (aM (i:=4) nd (dw (ae (!1) (ae (!2) (ae (!3) aj)))))
    (al (io (pB hu (!4) (cK T.JK (!0))) (ar (wY hu (cK T.JK (!0)) (!4) (iu (bK (eY hu) (!2) (!3)) (!2) (bG (iT T Lj) (by symm) (!0) (ae (!1) (ae (!2) (ae (!3) aj))))))) cU)
    (ar (aL (w5 hu (cK T.JK (!0)) (!4)))))))
theorem kS:aq hG=gZ:=rfl
theorem Kg:IS ["rows","key"] ["rows","key"] gZ:=by nofun
theorem fU (T:Ju K mg base):∀ n:Nat,Ku P w K mg base (n+21) "number_of_key" ["rows","key"] (cG n)
 | 0=>kD T.Ko
 |n+1=>by
  have Lj:=fU T n
  exact aT T.Ko kS Kg (λf Jl A outer s H E hr=>by
   and_intros;have nd:=Kg.nd
   exact(al (io (bK (eY hu) (aP Js (!1) ao) jB) (ar (aL (bG (fB T) (by symm) (!0) (ae (!1) aj)))) cU)
    (ar (aL (bG (hV T 9) (by symm) (!0) (ae (aP Js (!1) ao) (ae (aG Lj (by symm) (ae (!0) (ae (aP Js (!1) ao) aj))) (ae (aG Lj (by symm) (ae (!0) (ae (aP Js (!1) ao) aj))) aj))))))))
theorem xW:aq s_=sH:=rfl
theorem MH:IS ["key","order","rows"] ["key","order"] sH:=by nofun
theorem wB (T:Ju K mg base):Ku P w K mg base 37 "folded" ["key","order"] kP:=
 aT T.Pb xW MH (λf Jl A outer s H E hr=>by
 and_intros;have nd:=MH.nd
 exact(al (aM (i:=2) nd (Ch (kG T) (by symm) (ae (!1) aj)))
  (ar (aL (bG (jP T) (by symm) (!2) (ae (aG (fU T 15) (by symm) (ae (!2) (ae (!0) aj))) aj))))))
theorem qI:aq me=lW:=rfl
theorem Lm:IS ["_law_script","_law_k"] ["_law_script","_law_k"] lW:=by nofun
theorem o8 (T:Ju K mg base):Ku P w K mg base 1 "_law_cell_at" ["_law_script","_law_k"] iY:=
 aT T.Nq qI Lm (λf Jl A outer s H E hr=>by
 and_intros;have nd:=Lm.nd
 exact(al (io (bK DM (!1) (bf fZ T.KL fF (ae (!0) aj))) (ar (aL (aP Js (!0) (!1)))) cU)
  (ar (aL ao))))
theorem vj:aq pO=pi:=rfl
theorem Mh:IS ["_law_script","_law_k","_law_drawn_here"] ["_law_script","_law_k"] pi:=by nofun
theorem ca (T:Ju K mg base):Ku P w K mg base 2 "_law_mixed" ["_law_script","_law_k"] aZ:=
 aT T.Ov vj Mh (λf Jl A outer s H E hr=>by
 and_intros;have nd:=Mh.nd
 exact(al (aM (i:=2) nd (aC cA (aC dU (aC aX (aC aX (aG (o8 T) (by symm) (ae (!0) (ae (!1) aj))) (aC dU ao (!1))) ao) ao) ao))
  (ar (aL (aC cA (aC aX (aC aX (aC dU (!2) (!2)) (aC dU ao (!2))) (!1)) ao)))))
theorem vk:aq pP=pp:=rfl
theorem Mi:IS ["_law_number","_law_k","_law_drawn_here"] ["_law_number","_law_k"] pp:=by nofun
theorem dS (T:Ju K mg base):Ku P w K mg base 1 "_law_drawn" ["_law_number","_law_k"] dD:=
 aT T.Ow vk Mi (λf Jl A outer s H E hr=>by
 and_intros;have nd:=Mi.nd
 exact(al (aM (i:=2) nd (aC cA (aC dU (aC aX (aC aX (!0) (aC dU ao (!1))) ao) ao) ao))
  (ar (aL (aC cA (aC aX (aC aX (aC dU (!2) (!2)) (aC dU ao (!2))) (!1)) ao)))))
theorem vc:aq pG=o_:=rfl
theorem Mj:IS ["_law_number","_law_letters","_law_found","_law_k","_law_drawn_here","_law_word","_law_at"] ["_law_number"] o_:=by nofun
theorem uG (T:Ju K mg base):Ku P w K mg base 2 "_law_words" ["_law_number"] lO:=
 aT T.Ox vc Mj (λf Jl A outer s H E hr=>by
 and_intros;have nd:=Mj.nd
 exact(al (aM (i:=1) nd jB)
  (al (aM (i:=2) nd qZ)
  (al (eT PassesOwn.never rfl (du rfl T.J_ (ae ao aj)) (aI (i:=3) nd) (al (aM (i:=4) nd (aG (dS T) (by symm) (ae (!0) (ae (!3) aj))))
  (al (aM (i:=5) nd (aP Js (!1) (aC cA (!4) ao)))
  (al (eT PassesOwn.never rfl (du rfl T.J_ (ae (aC dU (aC cA (aC i9 (!4) ao) ao) (aC cA (!0) ao)) aj)) (aI (i:=6) nd) (ar (aM (i:=5) nd (aC aX (!5) (aP Js (!1) (aC cA (aC i9 (!4) (aC aX (aC dU ao (!6)) ao)) ao))))))
  (ar (vD Js (!2) (aC aX (!5) (aC dU jB (ck Bw T.QE BJ (ae (Aa hu Js JZ (!5) (ir (.tup (.cons (.str ⟨by decide,by decide⟩) (.cons (.str ⟨by decide,by decide⟩) (.cons (.str ⟨by decide,by decide⟩) .nil))) (by decide)))) aj)))) Ab))))))
  (ar (aL (ck jO T.Km fD (ae (Ce rfl rfl T.Mb (!2)) aj))))))))
theorem vi:aq pN=KS:=rfl
theorem Ml:IS ["_law_number","_law_words_here"] ["_law_number","_law_words_here"] KS:=by nofun
theorem uL (T:Ju K mg base):Ku P w K mg base 1 "_law_names" ["_law_number","_law_words_here"] lT:=
 aT T.Oy vi Ml (λf Jl A outer s H E hr=>by
 and_intros;have nd:=Ml.nd
 exact(ar (aL (ck jO T.Km fD (ae (bV (ts:=["_law_k","_law_word"]) (ix:=[0]) rfl ⟨rfl,by decide,by decide,by exists KS⟩ (by exists [0],["_law_number","_law_words_here"]) (qY rfl T.KN (ae (!1) aj)) (λ_ _ _ _ _=>⟨(nJ rfl (bO (aI (i:=0) (show (["_law_k","_law_word","_law_number"]:List Str).Nodup from by decide)) (bO (aI (i:=1) (show (["_law_k","_law_word","_law_number"]:List Str).Nodup from by decide)) j5))),(gD (bK (eY hu) (aC cA (aC i9 (!2) (aC aX (aC dU ao (!0)) ao)) ao) ao)),(!1)⟩)) aj)))))
theorem zK:aq w_=wO:=rfl
theorem Nr:IS ["_law_number","_law_words_here","_law_many","_law_deep","_law_no","_law_yes"] ["_law_number","_law_words_here","_law_many","_law_deep"] wO:=by nofun
theorem qB (T:Ju K mg base):∀ n:Nat,Ku P w K mg base (n+1) "_law_key" ["_law_number","_law_words_here","_law_many","_law_deep"] (kO n)
 | 0=>kD T.N3
 |n+1=>by
  have Lj:=qB T n
  exact aT T.N3 zK Nr (λf Jl A outer s H E hr=>by
   and_intros;have nd:=Nr.nd
   exact(al (io (wU (FW (bK (eY hu) (!3) ao) (DZ (bK (eY hu) (aC cA (!0) ao) ao)))) (ar (aL (dw (ae jB (ae (aG (uL T) (by symm) (ae (aC i9 (!0) ao) (ae (!1) aj))) aj))))) cU)
    (al (aM (i:=4) nd (aG Lj (by symm) (ae (aG (dS T) (by symm) (ae (!0) (ae ao aj))) (ae (!1) (ae (!2) (ae (aC vR (!3) ao) aj))))))
    (al (aM (i:=5) nd (aG Lj (by symm) (ae (aG (dS T) (by symm) (ae (!0) (ae ao aj))) (ae (!1) (ae (!2) (ae (aC vR (!3) ao) aj))))))
    (ar (aL (dw (ae jB (ae (aC cA (aC i9 (!0) ao) (!2)) (ae (!4) (ae (!5) aj)))))))))))
theorem vg:aq pL=ph:=rfl
theorem Mm:IS ["_law_number","_law_many","_law_found","_law_k","_law_at"] ["_law_number","_law_many"] ph:=by nofun
theorem uK (T:Ju K mg base):Ku P w K mg base 2 "_law_order" ["_law_number","_law_many"] lS:=
 aT T.Oz vg Mm (λf Jl A outer s H E hr=>by
 and_intros;have nd:=Mm.nd
 exact(al (aM (i:=2) nd (nM aj))
  (al (eT PassesOwn.never rfl (du rfl T.J_ (ae (!1) aj)) (aI (i:=3) nd) (al (aM (i:=4) nd (aC cA (aG (dS T) (by symm) (ae (!0) (ae (!3) aj))) (aC aX (bf fZ T.KL fF (ae (!2) aj)) ao)))
  (ar (aM (i:=2) nd (aC aX (aC aX (nL Q1 (!2) trivial (!4)) (nM (ae (!3) aj))) (nL Q1 (!2) (!4) trivial))))))
  (ar (aL (ck jO T.Km fD (ae (!2) aj)))))))
theorem vf:aq pK=KU:=rfl
theorem Mn:IS ["_law_number","_law_many"] ["_law_number","_law_many"] KU:=by nofun
theorem uJ (T:Ju K mg base):Ku P w K mg base 2 "_law_sheet" ["_law_number","_law_many"] lR:=
 aT T.OA vf Mn (λf Jl A outer s H E hr=>by
 and_intros;have nd:=Mn.nd
 exact(ar (aL (ck jO T.Km fD (ae (bV (ts:=["_law_k"]) (ix:=[0]) rfl ⟨rfl,by decide,by decide,by exists KU⟩ (by exists [0],["_law_number","_law_many"]) (du rfl T.J_ (ae (!1) aj)) (λ_ _ _ _ _=>⟨(aI (i:=0) (show (["_law_k","_law_number"]:List Str).Nodup from by decide)),dF,(aP Js (ir (.tup (.cons .Ji (.cons .int (.cons .int (.cons .Ji .nil)))) (by decide))) (aC cA (aG (dS T) (by symm) (ae (!1) (ae (!0) aj))) ao))⟩)) aj)))))
theorem sy:aq nP=JO:=rfl
theorem LA:IS ["_law_many","_law_found","_law_k"] ["_law_many"] JO:=by nofun
theorem rZ (T:Ju K mg base):Ku P w K mg base 1 "_law_things" ["_law_many"] jR:=
 aT T.NN sy LA (λf Jl A outer s H E hr=>by
 and_intros;have nd:=LA.nd
 exact(al (aM (i:=1) nd (ir (.lst (.cons (.tup .nil (by decide)) .nil) (by decide))))
  (al (eT PassesOwn.never rfl (du rfl T.J_ (ae (!0) aj)) (aI (i:=2) nd) (ar (aM (i:=1) nd (aC aX (bV (ts:=["_law_thing"]) (ix:=[]) rfl ⟨rfl,by decide,by decide,by exists JO⟩ (by exists [],["_law_many","_law_found","_law_k"]) (cy (!1)) (λ_ _ _ _ _=>⟨(aI (i:=0) (show (["_law_thing"]:List Str).Nodup from by decide)),dF,(aC aX (!0) (ir (.tup (.cons .int .nil) (by decide))))⟩)) (bV (ts:=["_law_thing"]) (ix:=[]) rfl ⟨rfl,by decide,by decide,by exists JO⟩ (by exists [],["_law_many","_law_found","_law_k"]) (cy (!1)) (λ_ _ _ _ _=>⟨(aI (i:=0) (show (["_law_thing"]:List Str).Nodup from by decide)),dF,(aC aX (!0) (ir (.tup (.cons .int .nil) (by decide))))⟩))))))
  (ar (aL (bf Bv T.Mb jg (ae (!1) aj)))))))
theorem sE:aq nS=nj:=rfl
theorem LB:IS ["_law_key_here","_law_thing"] ["_law_key_here","_law_thing"] nj:=by nofun
theorem kF (T:Ju K mg base):∀ n:Nat,Ku P w K mg base (n+0) "_law_answer" ["_law_key_here","_law_thing"] (gW n)
 | 0=>kD T.Ma
 |n+1=>by
  have Lj:=kF T n
  exact aT T.Ma sE LB (λf Jl A outer s H E hr=>by
   and_intros;have nd:=LB.nd
   exact(al (io (bK (eY hu) (aP Js (!0) ao) jB) (ar (aL (aP Js (!0) ao))) cU)
    (ar (aL (aG Lj (by symm) (ae (aP Js (!0) (aC aX ao (aP Js (!1) (aP Js (!0) ao)))) (ae (!1) aj)))))))
theorem xV:aq s9=sG:=rfl
theorem MI:IS ["_law_script","_law_most","_law_many","_law_words_here","_law_key_here"] ["_law_script","_law_most"] sG:=by nofun
theorem wA (T:Ju K mg base):Ku P w K mg base 10 "_law_made" ["_law_script","_law_most"] kN:=
 aT T.Pc xV MI (λf Jl A outer s H E hr=>by
 and_intros;have nd:=MI.nd
 exact(al (aM (i:=2) nd (aC aX ao (aC cA (aG (ca T) (by symm) (ae (!0) (ae ao aj))) (!1))))
  (al (aM (i:=3) nd (aG (uG T) (by symm) (ae (aG (ca T) (by symm) (ae (!0) (ae ao aj))) aj)))
  (al (aM (i:=4) nd (aG (qB T 8) (by symm) (ae (aG (ca T) (by symm) (ae (!0) (ae ao aj))) (ae (!3) (ae (!2) (ae (aC aX ao (aC cA (aG (ca T) (by symm) (ae (!0) (ae ao aj))) ao)) aj))))))
  (ar (aL (dw (ae (!2) (ae (!3) (ae (!4) (ae (aG (uK T) (by symm) (ae (aG (ca T) (by symm) (ae (!0) (ae ao aj))) (ae (!2) aj))) aj)))))))))))
theorem sF:aq nT=Kk:=rfl
theorem LC:IS ["_law_thing","_law_sheet_here"] ["_law_thing","_law_sheet_here"] Kk:=by nofun
theorem r9 (T:Ju K mg base):Ku P w K mg base 1 "_law_agrees" ["_law_thing","_law_sheet_here"] jT:=
 aT T.NO sF LC (λf Jl A outer s H E hr=>by
 and_intros;have nd:=LC.nd
 exact(ar (aL (k8 (eY hu) (bV (ts:=["_law_k"]) (ix:=[1,0]) rfl ⟨rfl,by decide,by decide,by exists Kk⟩ (by exists [1,0],["_law_thing","_law_sheet_here"]) (du rfl T.J_ (ae (bf fZ T.KL fF (ae (!1) aj)) aj)) (λ_ _ _ _ _=>⟨(aI (i:=0) (show (["_law_k","_law_sheet_here","_law_thing"]:List Str).Nodup from by decide)),(gD (wU (D1 (bK AF (aP Js (!1) (!0)) iq) (B5 (bK (Gc hu) (aP Js (!1) (!0)) (aP Js (!2) (!0))))))),(!0)⟩)) (nM aj)))))
theorem oV:aq j_=JA:=rfl
theorem K6:IS ["_law_key_here","_law_sheet_here","_law_words_here","_law_answers"] ["_law_key_here","_law_sheet_here","_law_words_here"] JA:=by nofun
theorem oH (T:Ju K mg base):Ku P w K mg base 16 "_law_possible" ["_law_key_here","_law_sheet_here","_law_words_here"] eL:=
 aT T.M3 oV K6 (λf Jl A outer s H E hr=>by
 and_intros;have nd:=K6.nd
 exact(al (aM (i:=3) nd (bV (ts:=["_law_thing"]) (ix:=[0,1]) rfl ⟨rfl,by decide,by decide,by exists JA⟩ (by exists [0,1],["_law_key_here","_law_sheet_here","_law_words_here","_law_answers"]) (cy (aG (rZ T) (by symm) (ae (bf fZ T.KL fF (ae (!1) aj)) aj))) (λ_ _ _ _ _=>⟨(aI (i:=0) (show (["_law_thing","_law_key_here","_law_sheet_here"]:List Str).Nodup from by decide)),(gD (jz (aG (r9 T) (by symm) (ae (!0) (ae (!2) aj))))),(aG (kF T 15) (by symm) (ae (!1) (ae (!0) aj)))⟩)))
  (ar (aL (bf fZ T.KL fF (ae (bV (ts:=["_law_word"]) (ix:=[3]) rfl ⟨rfl,by decide,by decide,by exists JA⟩ (by exists [3],["_law_key_here","_law_sheet_here","_law_words_here","_law_answers"]) (cy (!2)) (λ_ _ _ _ _=>⟨(aI (i:=0) (show (["_law_word","_law_answers"]:List Str).Nodup from by decide)),(gD (jz (bf (Fe rfl) T.Ua Ft (ae (bV (ts:=["_law_names_here"]) (ix:=[0]) rfl ⟨rfl,by decide,by decide,Ai (by decide)⟩ (by exists [0],["_law_word","_law_answers"]) (cy (!1)) (λ_ _ _ _ _=>⟨(aI (i:=0) (show (["_law_names_here","_law_word"]:List Str).Nodup from by decide)),dF,(Aa hu Js JZ (!1) (!0))⟩)) aj)))),(!0)⟩)) aj))))))
theorem DS:aq Ad=MF:=rfl
theorem Pe:IS ["_law_script","_law_many","_law_words_here","_law_key_here","_law_order_here","_law_fold","_law_sheet_here","_law_due","_law_least","_law_k","_law_sizes","_law_found"] ["_law_script"] MF:=by nofun
theorem E9 (T:Ju K mg base){f:Addr}{fd:FuncData}(Fn:Ob K "law" "law" Ad f fd):Pq P w K mg base 38 f fd ["_law_script"] BS:=
 oE Fn DS Pe (λ_ Jl A outer s H E hr=>by
 and_intros;have nd:=Pe.nd
 exact(al (D2 (aG (wA T) (by symm) (ae (!0) (ae ao aj))) (nJ rfl (bO (aI (i:=1) nd) (bO (aI (i:=2) nd) (bO (aI (i:=3) nd) (bO (aI (i:=4) nd) j5))))))
  (al (aM (i:=5) nd (aG (wB T) (by symm) (ae (!3) (ae (!4) aj))))
  (al (aM (i:=6) nd (aG (uJ T) (by symm) (ae (aG (ca T) (by symm) (ae (!0) (ae ao aj))) (ae (!1) aj))))
  (al (io (bK (eY hu) (aC cA (aG (ca T) (by symm) (ae (!0) (ae ao aj))) ao) ao) (ar (aM (i:=6) nd (ck jO T.Km fD (ae (bV (ts:=["_law_part"]) (ix:=[]) rfl ⟨rfl,by decide,by decide,by exists MF⟩ (by exists [],["_law_script","_law_many","_law_words_here","_law_key_here","_law_order_here","_law_fold","_law_sheet_here","_law_due","_law_least","_law_k","_law_sizes","_law_found"]) (cy (!6)) (λ_ _ _ _ _=>⟨(aI (i:=0) (show (["_law_part"]:List Str).Nodup from by decide)),dF,(ck Bw T.QE BJ (ae (k8 (eY hu) (!0) ao) aj))⟩)) aj)))) cU)
  (al (aM (i:=7) nd iq)
  (al (aM (i:=8) nd ao)
  (al (eT PassesOwn.never rfl (du rfl T.J_ (ae (!1) aj)) (aI (i:=9) nd) (ar (io (bK AG (aP Js (!6) (!9)) iq) (al (nG (ts:=["_law_value"]) (ix:=[3,2,6,9]) (i:=10) nd rfl ⟨rfl,by decide,by decide,by exists MF⟩ (by exists [3,2,6,9],["_law_script","_law_many","_law_words_here","_law_key_here","_law_order_here","_law_fold","_law_sheet_here","_law_due","_law_least","_law_k","_law_sizes","_law_found"]) (cy (ir (.tup (.cons .int (.cons .int .nil)) (by decide)))) (λ_ _ _ _ _=>⟨(aI (i:=0) (show (["_law_value","_law_key_here","_law_words_here","_law_sheet_here","_law_k"]:List Str).Nodup from by decide)),dF,(aG (oH T) (by symm) (ae (!1) (ae (aC aX (aC aX (nL Q1 (!3) trivial (!4)) (dw (ae (!0) aj))) (nL Q1 (!3) (aC aX (!4) ao) trivial)) (ae (!2) aj))))⟩))
  (ar (io (bK DM (bf (rW rfl) T.Pd wG (ae (!10) aj)) (!8)) (al (aM (i:=7) nd (!9))
  (ar (aM (i:=8) nd (bf (rW rfl) T.Pd wG (ae (!10) aj))))) cU))) cU)))
  (al (aM (i:=11) nd (aG (mH T) (by symm) (ae (!5) (ae (!6) aj))))
  (ar (aL (Ac (D_ (Ea A_ rfl T.M4 T.Ry Dy (!11))) (Ac (k8 (eY hu) (!11) (!7)) (D9 (k8 (eY hu) (aG (mH T) (by symm) (ae (!5) (ae (!6) aj))) (!7))))))))))))))))
end
end Jd
namespace Jd
open PySem L2 PyProof.Rows
def isLet (c:Nat):Bool:=decide (97<=c)&&decide (c<=122)
def lets (x:Str):Bool:=x.cps.toList.all isLet
def kept (x:Str):Bool:=decide (x="names") ||(decide (x="ask") ||decide (x="end"))
def dQ (x:Str):Bool:=!kept x&&(decide (1<=x.length)&&(decide (x.length<=8)&&lets x))
def HM:D->Bool
 | .str x=>dQ x
 |_=>false
abbrev NP:Str:="abcdefghijklmnopqrstuvwxyz"
theorem u8:NP.cps.toList.all isLet=true:=by decide
theorem bD {α:Type}{xs:List α}{i:Nat}{v : α}(h:xs[i]?=some v):Mo xs (i:Int)=some v:=by
 have a:i<xs.length:=(List.getElem?_eq_some_iff.mp h).1;have e:OF xs.length (i:Int)=some i:=by unfold OF;rw[if_pos (by omega),if_pos (by omega)];simp
 unfold Mo;rw[e];exact h
end Jd
namespace L2
open PySem PyProof.Rows
theorem oo {K:Type}[DecidableEq K]:∀ (l b:List K),b.Nodup->(l.foldl dz b).Nodup
 |[],b,h=>h
 |a::l,b,h=>by
  rw[foldl_cons];refine oo l _ ?_;unfold dz;split
  ·exact h
  rename_i e;refine nodup_append.mpr ⟨h,by simp,λx c y d=>?_⟩;rw[mem_singleton.mp d];rintro rfl;exact e c
theorem qi {K:Type}[DecidableEq K]:∀ (l b:List K) (k:K),k∈l.foldl dz b↔k∈b∨k∈l
 |[],b,k=>by simp
 |a::l,b,k=>by
  rw[foldl_cons,qi l,mem_cons];unfold dz;split
  ·constructor
   ·rintro (h |h)
    ·exact .inl h
    exact .inr (.inr h)
   rintro (h |rfl |h)
   ·exact .inl h
   ·left;assumption
   exact .inr h
  simp only[mem_append,mem_singleton];constructor
  ·rintro ((h |h) |h)
   ·exact .inl h
   ·exact .inr (.inl h)
   exact .inr (.inr h)
  rintro (h |h |h)
  ·exact .inl (.inl h)
  ·exact .inl (.inr h)
  exact .inr h
theorem C7 {a b:Str}(h:Mv a b=true):Mw a b=true:=by have c:a.cps.toList<b.cps.toList:=of_decide_eq_true h;exact J6.mpr (List.le_of_lt c)
theorem vZ (a:Str):Mv a a=false:=by unfold Mv;exact decide_eq_false (List.lt_irrefl _)
theorem yW {a b c:Str}(h:Mv a b=true)(g:Mv b c=true):Mv a c=true:=by
 unfold Mv at *
 exact decide_eq_true (List.lt_trans (of_decide_eq_true h) (of_decide_eq_true g))
theorem rC {a b:Str}(h:Mw a b=true)(n:a≠b):Mv a b=true:=by
 cases q:Mv a b with
 |true=>rfl
 |false=>exact absurd (uc h (by unfold Mw;rw[q];rfl)) n
def Qa:List Str->Bool
 |a::b::r=>Mv a b&&Qa (b::r)
 |_=>true
theorem eI:∀ {l:List Str},Qa l=true->l.Pairwise λa b=>Mv a b=true
 |[],_ => .nil
 |[a],_=>by simp
 |a::b::r,h=>by
  rw[Qa,and_eq_true] at h;have d:=eI h.2;refine .cons (λc hc=>?_) d;rcases mem_cons.mp hc with rfl |hc
  ·exact h.1
  exact yW h.1 ((pairwise_cons.mp d).1 c hc)
theorem d_:∀ {l:List Str},(l.Pairwise λa b=>Mv a b=true)->Qa l=true
 |[],_=>rfl
 |[a],_=>rfl
 |a::b::r,h=>by
  obtain⟨c,d⟩:=pairwise_cons.mp h;rw[Qa,and_eq_true];exact⟨c b (mem_cons_self ..),d_ d⟩
theorem C0 {i j:Int}(c : -1000000000000<j)(d:j<1000000000000):gq i j=true:=by unfold gq;have a:decide (-(2 ^ 64)<j)=true:=decide_eq_true (by omega);have b:decide (j<2 ^ 64)=true:=decide_eq_true (by omega);rw[a,b];simp
theorem C4 {i j:Int}(c : -1000000000000<i)(d:i<1000000000000):gq i j=true:=by unfold gq;have a:decide (-(2 ^ 64)<i)=true:=decide_eq_true (by omega);have b:decide (i<2 ^ 64)=true:=decide_eq_true (by omega);rw[a,b];simp
theorem tU (i j:Int):cS (.int i) (.int j)=if gq i j=true then some (.int (i*j)) else none:=rfl
theorem tR (x:Str)(n:Int):cS (.str x) (.int n)=if -1000<=n/\n<1 then some (.str ⟨#[]⟩) else if 1<=n/\n<=1000/\x.length<=1000 then some (.str ⟨(replicate n.toNat x.cps.toList).flatten.toArray⟩) else none:=rfl
theorem AU (i j:Int):bY (.int i) (.int j)=if 0<j then some (.int (i % j)) else none:=rfl
theorem zo (i j:Int):d5 (.int i) (.int j)=if 0<j/\j<1073741824 then some (.int (i / j)) else none:=rfl
theorem zI (x y:Str):br (.str x) (.str y)=if x.length+y.length<=sizeLine then some (.str (x++y)) else none:=rfl
theorem gC (x y:List D):br (.tup x) (.tup y)=if x.length+y.length<=sizeLine then some (.tup (x++y)) else none:=rfl
theorem lN (x y:List D):br (.lst x) (.lst y)=if x.length+y.length<=sizeLine then some (.lst (x++y)) else none:=rfl
theorem yn (j:Int):di [.int j]=if -(2 ^ 62)<=j/\j<=16777216 then some ((List.range j.toNat).map λ(k:Nat)=>D.int k) else none:=rfl
theorem AT {i j:Int}(b : -1000000000000<j)(a:j<1000000000000):cS (.int i) (.int j)=some (.int (i*j)):=by rw[tU,if_pos (C0 b a)]
theorem gF {i j:Int}(b : -1000000000000<i)(a:i<1000000000000):cS (.int i) (.int j)=some (.int (i*j)):=by rw[tU,if_pos (C4 b a)]
@[simp] theorem GL (i j:Int):br (.int i) (.int j)=some (.int (i+j)):=rfl
@[simp] theorem FX (i j:Int):sR (.int i) (.int j)=some (.int (i-j)):=rfl
theorem bq {i j:Int}(h : 0<j):bY (.int i) (.int j)=some (.int (i % j)):=by rw[AU,if_pos h]
theorem je {i j:Int}(h : 0<j)(a:j<1073741824):d5 (.int i) (.int j)=some (.int (i / j)):=by rw[zo,if_pos ⟨h,a⟩]
end L2
namespace Jd
open PySem L2 PyProof.Rows
theorem ww (ns:List Int)(k:Nat)(S:IL):iY [.lst (ns.map .int),.int k] S=IX (.int (ns.getD k 0)) S:=by
 refine au rfl ?_;unfold mB;by_cases h:k<ns.length
 ·have b:((k:Int)<ns.length):=by omega
  have a:ns[k]?=some ns[k]:=List.getElem?_eq_getElem h;have e:Mo (ns.map D.int) (k:Int)=some (.int ns[k]):=bD (by rw[getElem?_map,a];rfl);simp[cm,Q0,h,JT,bP,Qi,e,List.getD,a]
 have a:ns[k]?=none:=List.getElem?_eq_none (by omega);simp[cm,Q0,h,List.getD,a]
def mix (ns:List Int)(k:Nat):Int:=
 let d:=(ns.getD k 0+7919*(k:Int)+1)*48271 % 2147483647
 (d*d+7*d+(k:Int)) % 2147483629
theorem vU (ns:List Int)(k:Nat) : 0<=mix ns k:=Int.emod_nonneg _ (by decide)
theorem e_ (ns:List Int)(k:Nat)(S:IL):aZ [.lst (ns.map .int),.int k] S=IX (.int (mix ns k)) S:=by
 refine au rfl ?_;unfold qu;have g:=ww ns k;have b:∀ x:Int,cS (.int 7919) (.int x)=some (.int (7919*x)):=λx=>gF (by decide) (by decide);have e:∀ x:Int,cS (.int x) (.int 48271)=some (.int (x*48271)):=λx=>AT (by decide) (by decide);have c:∀ x:Int,bY (.int x) (.int 2147483647)=some (.int (x % 2147483647)):=λx=>bq (by decide);have d:∀ x:Int,bY (.int x) (.int 2147483629)=some (.int (x % 2147483629)):=λx=>bq (by decide);have f:∀ x:Int,cS (.int 7) (.int x)=some (.int (7*x)):=λx=>gF (by decide) (by decide);have a:∀ x:Int,cS (.int (x % 2147483647)) (.int (x % 2147483647))=some (.int (x % 2147483647*(x % 2147483647))):=λx=>by have h:=Int.emod_nonneg x (show (2147483647:Int)≠0 by decide);have i:=Int.emod_lt_of_pos x (show (0:Int)<2147483647 by decide);exact gF (by omega) (by omega)
 simp[g,b,e,c,d,f,a,mix]
def Kc (n k:Int):Int:=
 let d:=(n+104729*k+17)*69621 % 2147483647
 (d*d+3*d+k) % 2147483629
theorem jM (n k:Int) : 0<=Kc n k:=Int.emod_nonneg _ (by decide)
theorem iP (n k:Int)(S:IL):dD [.int n,.int k] S=IX (.int (Kc n k)) S:=by
 refine au rfl ?_;unfold qv;have b:∀ x:Int,cS (.int 104729) (.int x)=some (.int (104729*x)):=λx=>gF (by decide) (by decide);have e:∀ x:Int,cS (.int x) (.int 69621)=some (.int (x*69621)):=λx=>AT (by decide) (by decide);have c:∀ x:Int,bY (.int x) (.int 2147483647)=some (.int (x % 2147483647)):=λx=>bq (by decide);have d:∀ x:Int,bY (.int x) (.int 2147483629)=some (.int (x % 2147483629)):=λx=>bq (by decide);have f:∀ x:Int,cS (.int 3) (.int x)=some (.int (3*x)):=λx=>gF (by decide) (by decide);have a:∀ x:Int,cS (.int (x % 2147483647)) (.int (x % 2147483647))=some (.int (x % 2147483647*(x % 2147483647))):=λx=>by have g:=Int.emod_nonneg x (show (2147483647:Int)≠0 by decide);have h:=Int.emod_lt_of_pos x (show (0:Int)<2147483647 by decide);exact gF (by omega) (by omega)
 simp[b,e,c,d,f,a,Kc]
def Wd (n:Nat)(x:Str):Prop:=x.length<=n/\∀ c∈x.cps.toList,c<128
theorem wH (x y:Str):(x++y).cps.toList=x.cps.toList++y.cps.toList:=by show (x.cps++y.cps).toList=_;simp
theorem xQ (x y:Str):(x++y).length=x.length+y.length:=by show (x.cps++y.cps).size=_;rw[size_append];rfl
theorem Hg (i:Int)(f : 0<=i)(d:i<26)(S:IL):∃ x:Str,JT (.str "abcdefghijklmnopqrstuvwxyz") (.int i) S=some (.str x)/\Wd 1 x:=by
 obtain⟨k,rfl⟩:∃ k:Nat,i=k:=⟨i.toNat,by omega⟩
 have a:k<NP.cps.toList.length:=by
  have:NP.cps.toList.length=26:=by decide
  omega
 have e:Mo NP.cps.toList (k:Int)=some NP.cps.toList[k]:=bD (List.getElem?_eq_getElem a);refine⟨⟨#[NP.cps.toList[k]]⟩,?_,le_refl _,λc hc=>?_⟩
 ·unfold JT;rw[if_neg (by simp[bP])];unfold Qi;simp only[e];rfl
 have b:c=NP.cps.toList[k]:=by simpa using hc
 have q:=all_eq_true.mp u8 NP.cps.toList[k] (getElem_mem a);rw[b];simp only[isLet,and_eq_true,decide_eq_true_eq] at q;omega
theorem vI (j:Int)(b : 0<=j)(a:j<=1000):di [.int j]=some ((List.range j.toNat).map λ(k:Nat)=>D.int k):=by rw[yn,if_pos (by omega)]
theorem gm {n j:Nat}{d:D}(h:((List.range n).map λ(k:Nat)=>D.int k)[j]?=some d):d = .int j/\j<n:=by rw[getElem?_map] at h;obtain⟨x,c,rfl⟩:=map_eq_some_iff.mp h;obtain⟨a,b⟩:=List.getElem?_eq_some_iff.mp c;simp at a b;exact⟨by rw[← b],a⟩
theorem F2 (b:Bool):cS (.str "q") (.int (if b then 1 else 0))=some (.str (if b then "q" else ⟨#[]⟩)):=by
 cases b
 ·rw[tR,if_pos (by decide)];rfl
 rw[tR,if_neg (by decide),if_pos ⟨by decide,by decide,by decide⟩];rfl
def Ub (d:D)(s:Str):Bool:=match d with
 | .str y=>decide (y=s)
 |_=>false
theorem Bo {d:D}(h:pl d=true)(s:Str):K0 d (.str s)=some (.bl (Ub d s)):=by
 obtain⟨p,e⟩:=wV h;have b:toPy (.str s)=some (.str s):=rfl;unfold K0;rw[e,b];have hd:min p.depth (PyData.str s).depth<=150:=Nat.le_trans (min_le_right _ _) (by simp[PyData.depth]);simp only[hd,if_true];cases d with
 |str y=>rw[toPy] at e;cases e;simp[PyData.eqv,Ub,Dw]
 |tup a=>rw[toPy] at e;obtain⟨c,_,rfl⟩:=map_eq_some_iff.mp e;simp[PyData.eqv,Ub]
 |lst a=>rw[toPy] at e;obtain⟨c,_,rfl⟩:=map_eq_some_iff.mp e;simp[PyData.eqv,Ub]
 |set _=>simp[pl] at h
 |loc _=>simp[pl] at h
 |fn _ _=>simp[pl] at h
 |_=>rw[toPy] at e;cases e;simp[PyData.eqv,Ub]
theorem OP (xs:List D)(a:D)(S:IL):JT (.tup (a::xs)) (.int 0) S=some a:=by unfold JT;rw[if_neg (by simp[bP])];exact bD (i:=0) rfl
theorem Qb (xs:List D)(a b:D)(S:IL):JT (.tup (a::b::xs)) (.int 1) S=some b:=by unfold JT;rw[if_neg (by simp[bP])];exact bD (i:=1) rfl
theorem at2 (xs:List D)(a b c:D)(S:IL):JT (.tup (a::b::c::xs)) (.int 2) S=some c:=by unfold JT;rw[if_neg (by simp[bP])];exact bD (i:=2) rfl
theorem X5 (xs:List D)(a b c d:D)(S:IL):JT (.tup (a::b::c::d::xs)) (.int 3) S=some d:=by unfold JT;rw[if_neg (by simp[bP])];exact bD (i:=3) rfl
theorem rB (x:Int){n:Int}(h : 0<n) : 0<=x % n/\x % n<n:=⟨Int.emod_nonneg x (by omega),Int.emod_lt_of_pos x h⟩
def Wl (n:Nat)(x:Str):Prop:=1<=x.length/\x.length<=n/\lets x=true
theorem A4 (x y:Str):lets (x++y)=(lets x&&lets y):=by unfold lets;rw[wH,List.all_append]
theorem Wl.app {n m:Nat}{x y:Str}(h:Wl n x)(g:Wl m y):Wl (n+m) (x++y):=by obtain⟨a,b,c⟩:=h;obtain⟨e,f,d⟩:=g;refine⟨by rw[xQ];omega,by rw[xQ];omega,by rw[A4,c,d];rfl⟩
theorem xm (i:Int)(c : 0<=i)(b:i<26)(S:IL):∃ x:Str,JT (.str "abcdefghijklmnopqrstuvwxyz") (.int i) S=some (.str x)/\Wl 1 x:=by
 obtain⟨k,rfl⟩:∃ k:Nat,i=k:=⟨i.toNat,by omega⟩
 have a:k<NP.cps.toList.length:=by
  have:NP.cps.toList.length=26:=by decide
  omega
 have e:Mo NP.cps.toList (k:Int)=some NP.cps.toList[k]:=bD (List.getElem?_eq_getElem a);refine⟨⟨#[NP.cps.toList[k]]⟩,?_,le_refl _,le_refl _,?_⟩
 ·unfold JT;rw[if_neg (by simp[bP])];unfold Qi;simp only[e];rfl
 have q:=all_eq_true.mp u8 NP.cps.toList[k] (getElem_mem a);show ([NP.cps.toList[k]]:List Nat).all isLet=true;rw[all_cons,q];rfl
theorem BN {n m:Nat}{x y:Str}(h:Wl n x)(g:y.length<=m)(b:n+m<=1000):br (.str x) (.str y)=some (.str (x++y)):=by have a:=h.2.1;rw[zI,if_pos (Nat.le_trans (show x.length+y.length<=1000 by omega) (by decide))]
theorem Fo (n:Int)(l:D)(k b:Int)(a:Str)(i:Nat)(S:IL)(e:Wl (i+1) a)(o:i<=10)(p : 0<=b):∃ c:Str,Wl (i+2) c /\
  fW [some (.int n),some (.str "abcdefghijklmnopqrstuvwxyz"),some l,some (.int k),some (.int b),some (.str a),some (.int i)] S=IX (.next [some (.int n),some (.str "abcdefghijklmnopqrstuvwxyz"),some l,some (.int k),some (.int b),some (.str c),some (.int i)]) S:=by
 have f:cS (.int 31) (.int i)=some (.int (31*i)):=gF (by decide) (by decide);have j:d5 (.int b) (.int (31*(i:Int)+29))=some (.int (b / (31*(i:Int)+29))):=je (by omega) (by omega);have g:bY (.int (b / (31*(i:Int)+29))) (.int 26)=some (.int (b / (31*(i:Int)+29) % 26)):=bq (by decide);obtain⟨x,h,d⟩:=xm (b / (31*(i:Int)+29) % 26) (Int.emod_nonneg _ (by decide)) (Int.emod_lt_of_pos _ (by decide)) S;have m:=BN e d.2.1 (by omega);refine⟨a++x,e.app d,?_⟩;unfold fW;simp[f,j,g,h,m]
theorem Hi (x:Str)(S:IL):Pr false (.str x) (.tup [.str "names",.str "ask",.str "end"]) S=some (.bl (kept x)):=by have e:=in3 x "names" "ask" "end";unfold Pr;rw[if_neg (by simp[bP]),if_neg (by decide)];rw[e];unfold kept;simp[eq_comm]
theorem Gp {x:Str}(h:kept x=true):dQ (x++("q":Str))=true:=by simp only[kept,or_eq_true,decide_eq_true_eq] at h;rcases h with rfl |rfl |rfl<;>decide
theorem Gh {x:Str}(h:Wl 8 x):dQ (x++(if kept x then ("q":Str) else ⟨#[]⟩))=true:=by
 cases hk:kept x with
 |true=>exact Gp hk
 |false =>
  have e:x++(⟨#[]⟩:Str)=x:=by show (⟨x.cps++#[]⟩:Str)=x;simp
  simp only[false_eq_true,if_false,e];unfold dQ;rw[hk,decide_eq_true h.1,decide_eq_true h.2.1,h.2.2];rfl
def MJ (n:Nat)(kvs:List (D×D)):Prop:=kvs.length<=n/\∃ a:List Str,kvs.map (·.1)=a.map .str/\a.Nodup/\∀ x∈a,dQ x=true
theorem ym (x y:Str):eV (.str x) (.str y)=decide (x=y):=by simp[eV,eA]
theorem MJ.put {n:Nat}{kvs:List (D×D)}{x:Str}{v:D}(h:MJ n kvs)(d:dQ x=true):MJ (n+1) (putD kvs (.str x) v):=by
 obtain⟨l,c,e,nd,k⟩:=h;unfold putD;split
 ·refine⟨by rw[length_map];omega,c,?_,nd,k⟩;rw[map_map,← e];refine map_congr_left λp _=>?_;simp only[Function.comp];split<;>rfl
 rename_i j;refine⟨by rw[List.length_append,length_singleton];omega,c++[x],by simp[e],?_,λy hy=>?_⟩
 ·refine nodup_append.mpr ⟨nd,by simp,λa g b hb=>?_⟩;rw[mem_singleton.mp hb];rintro rfl;apply j;have i:D.str a∈kvs.map (·.1):=by rw[e];exact List.mem_map_of_mem g
  obtain⟨p,f,q⟩:=mem_map.mp i;rw[any_eq_true];exact⟨p,f,by rw[q,ym];simp⟩
 rcases mem_append.mp hy with hy |hy
 ·exact k y hy
 rw[mem_singleton.mp hy];exact d
theorem Fm (n:Int)(k:Nat)(S:IL)(kvs:List (D×D))(b c d:Option D)(s:MJ k kvs)(hk:k<6):∃ R W d' q,MJ (k+1) q /\
  fV [some (.int n),some (.str "abcdefghijklmnopqrstuvwxyz"),some (.loc S.length),some (.int k),b,c,d] (S++[.dict kvs])=IX (.next [some (.int n),some (.str "abcdefghijklmnopqrstuvwxyz"),some (.loc S.length),some (.int k),R,W,d']) (S++[.dict q]):=by
 have J:=iP n k;have V:=jM n k;have F:bY (.int (Kc n k)) (.int 26)=some (.int (Kc n k % 26)):=bq (by decide);obtain⟨x,X,M⟩:=xm (Kc n k % 26) (Int.emod_nonneg _ (by decide)) (Int.emod_lt_of_pos _ (by decide)) (S++[.dict kvs]);have G:d5 (.int (Kc n k)) (.int 26)=some (.int (Kc n k / 26)):=je (by decide) (by decide);have I:bY (.int (Kc n k / 26)) (.int 8)=some (.int (Kc n k / 26 % 8)):=bq (by decide);have T:bY (.int n) (.int 2)=some (.int (n % 2)):=bq (by decide);have b1:=Int.emod_nonneg (Kc n k / 26) (show (8:Int)≠0 by decide);have b2:=Int.emod_lt_of_pos (Kc n k / 26) (show (0:Int)<8 by decide);have Z:=Int.emod_nonneg n (show (2:Int)≠0 by decide);have b4:=Int.emod_lt_of_pos n (show (0:Int)<2 by decide);have p:cS (.int (Kc n k / 26 % 8)) (.int (n % 2))=some (.int (Kc n k / 26 % 8*(n % 2))):=gF (by omega) (by omega)
 have r : 0<=Kc n k / 26 % 8*(n % 2)/\Kc n k / 26 % 8*(n % 2)<=7:=by
  have:n % 2=0∨n % 2=1:=by omega
  rcases this with h |h<;>rw[h]<;>omega
 have E:=vI (Kc n k / 26 % 8*(n % 2)) r.1 (by omega);generalize Kc n k / 26 % 8*(n % 2)=m at p E r
 obtain⟨N,S',K,B⟩:=bZ (u:=aD 6) (body:=fW) (λi t v=>v=S++[.dict kvs]/\i<=7/\∃ (w:Str) (z:Option D),Wl (i+1) w/\t=[some (.int n),some (.str "abcdefghijklmnopqrstuvwxyz"),some (.loc S.length),some (.int k),some (.int (Kc n k)),some (.str w),z])
  ((List.range m.toNat).map λ(k:Nat)=>D.int k) 0 [some (.int n),some (.str "abcdefghijklmnopqrstuvwxyz"),some (.loc S.length),some (.int k),some (.int (Kc n k)),some (.str x),d] (S++[.dict kvs]) ⟨rfl,by omega,x,d,M,rfl⟩ (by
   rintro j dd t v P ⟨rfl,Y,w,z,a,rfl⟩;obtain⟨rfl,JL⟩:=gm P;simp only[zero_add] at a Y ⊢;obtain⟨Q,U,eq⟩:=Fo n (.loc S.length) k (Kc n k) w j (S++[.dict kvs]) a (by omega) V
   exact⟨_,rfl,_,_,eq,rfl,by omega,Q,some (.int j),U,rfl⟩)
 simp only[zero_add,length_map,length_range] at B;obtain⟨rfl,O,w,z,a,rfl⟩:=B;have y:Wl 8 w:=⟨a.1,by have:=a.2.1;omega,a.2.2⟩;have A:=Hi w (S++[.dict kvs]);have C:=Gh y;generalize kept w=bb at A C;have f:=F2 bb;have H:(if bb then ("q":Str) else ⟨#[]⟩).length<=1:=by cases bb<;>decide
 have g:=BN y H (by decide);have l:(S++[MO.dict kvs])[S.length]?=some (.dict kvs):=by simp
 have L:kvs.length<sizeLine:=lt_of_lt_of_le (show kvs.length<1000 by have:=s.1;omega) (by decide);have o:(S++[MO.dict kvs]).set S.length (.dict (putD kvs (.str (w++(if bb then ("q":Str) else ⟨#[]⟩))) (.bl true)))=S++[.dict (putD kvs (.str (w++(if bb then ("q":Str) else ⟨#[]⟩))) (.bl true))]:=by simp
 refine⟨some (.int (Kc n k)),some (.str w),z,putD kvs (.str (w++(if bb then ("q":Str) else ⟨#[]⟩))) (.bl true),s.put C,?_⟩;have e:intD [.bl bb]=some (.int (if bb then 1 else 0)):=rfl;unfold fV;simp[J,F,X,G,I,T,p,E,K,tx,l,eA,L,o,A,e,f,g]
theorem xX (n:Int)(S:IL):∃ (ss:List Str) (kvs:List (D×D)),lO [.int n] S=IX (.tup (ss.map .str)) (S++[.dict kvs])/\ss.length<=6/\(∀ x∈ss,dQ x=true)/\ss.Pairwise λa b=>Mv a b=true:=by
 obtain⟨A,K,v,p⟩:=bZ (u:=aD 3) (body:=fV) (λi m o=>i<=6/\∃ kvs b c d z,o=S++[.dict kvs]/\MJ i kvs/\m=[some (.int n),some (.str "abcdefghijklmnopqrstuvwxyz"),some (.loc S.length),z,b,c,d])
  ((List.range 6).map λ(k:Nat)=>D.int k) 0 [some (.int n),some (.str "abcdefghijklmnopqrstuvwxyz"),some (.loc S.length),none,none,none,none] (S++[.dict []]) ⟨by omega,[],none,none,none,none,rfl,⟨le_refl _,[],rfl,nodup_nil,λx h=>by cases h⟩,rfl⟩ (by
   rintro j M m o B ⟨N,kvs,b,c,d,z,rfl,l,rfl⟩;obtain⟨rfl,F⟩:=gm B;simp only[zero_add] at l ⊢;obtain⟨C,G,H,s,e,eq⟩:=Fm n j S kvs b c d l F
   exact⟨_,rfl,_,_,eq,by omega,s,C,G,H,some (.int j),rfl,e,rfl⟩)
 simp only[zero_add,length_map,length_range] at p;obtain⟨_,kvs,b,c,d,z,rfl,⟨L,ss,es,nd,y⟩,rfl⟩:=p;have J:ss.length=kvs.length:=by have:=congrArg List.length es;simpa using this.symm
 have I:d4 (kvs.map (·.1))=some ((jp ss).map .str):=by rw[es];unfold d4;rw[if_pos (by rw[length_map];first |omega |exact Nat.le_trans (show ss.length<=1000 by omega) (by decide)),i4]
 have f:(jp ss).Perm ss:=mergeSort_perm _ _;have g:(jp ss).Nodup:=(f.nodup_iff).mpr nd;have E:(jp ss).Pairwise λa b=>Mw a b=true:=List.pairwise_mergeSort lu p9 _;refine⟨jp ss,kvs,?_,by rw[f.length_eq];omega,λx r=>y x (f.mem_iff.mp r),(E.and g).imp λq=>rC q.1 q.2⟩;have t:di [.int 6]=some ((List.range 6).map λ(k:Nat)=>D.int k):=vI 6 (by decide) (by decide);have w:(S++[MO.dict kvs])[S.length]?=some (.dict kvs):=by simp
 refine au rfl ?_;unfold ql;simp[t,v,nH,w,I,jy]
theorem qx:∀ (ds:List D) (i:Nat),(bx i ds).map (λd=>match d with | .tup [_,x]=>x |_ => .Ji)=ds
 |[],_=>rfl
 |d::ds,i=>by rw[bx,map_cons,qx ds]
theorem tQ (n:Int){ss:List Str}(t:ss.length<=100)(S:IL):∃ a:List Str,lT [.int n,.tup (ss.map .str)] S=IX (.tup (a.map .str)) S/\a.Sublist ss:=by
 have q:=c9 (u:=kX 2 (a_ (aD 0) (a_ (aD 1) g9))) (gt:=im) (fe:=iN) (λf => ∃ y z,f=[y,z,some (.int n)]) (λd=>match d with | .tup [.int k,_]=>decide (n / (3*k+1) % 4=0) |_=>false)
  (λd=>match d with | .tup [_,x]=>x |_ => .Ji) S (bx 0 (ss.map .str)) (aY 2 [0] [some (.int n),some (.tup (ss.map .str))]) ⟨none,none,rfl⟩ (by
   rintro d o f ⟨y,z,rfl⟩;obtain⟨j,g⟩:=getElem?_of_mem o;rw[dB] at g;obtain⟨x,i,rfl⟩:=map_eq_some_iff.mp g;have s:j<ss.length:=by have:=(List.getElem?_eq_some_iff.mp i).1;simpa using this
   have b:cS (.int 3) (.int ((0+j:Nat):Int))=some (.int (3*((0+j:Nat):Int))):=gF (by decide) (by decide);have h:d5 (.int n) (.int (3*((0+j:Nat):Int)+1))=some (.int (n / (3*((0+j:Nat):Int)+1))):=je (by omega) (by omega);have c:bY (.int (n / (3*((0+j:Nat):Int)+1))) (.int 4)=some (.int (n / (3*((0+j:Nat):Int)+1) % 4)):=bq (by decide);refine⟨[some (.int ((0+j:Nat):Int)),some x,some (.int n)],rfl,⟨_,_,rfl⟩,?_,λ_=>?_⟩
   ·unfold im;simp only[zero_add] at b h c ⊢;simp[b,h,c]
   unfold iN;simp)
 have r:(((bx 0 (ss.map D.str)).filter (λd=>match d with | .tup [.int k,_]=>decide (n / (3*k+1) % 4=0) |_=>false)).map (λd=>match d with | .tup [_,x]=>x |_ => .Ji)).Sublist (ss.map D.str):=by have:=(List.filter_sublist (p:=(λd=>match d with | .tup [.int k,_]=>decide (n / (3*k+1) % 4=0) |_=>false)) (l:=bx 0 (ss.map D.str))).map (λd=>match d with | .tup [_,x]=>x |_ => .Ji);rw[qx] at this;exact this
 obtain⟨a,m,e⟩:=List.sublist_map_iff.mp r;refine⟨a,?_,m⟩;refine au rfl ?_;unfold qt;rw[e] at q;simp[mF,q,jy]
theorem AQ {x:Str}(h:dQ x=true):∀ c∈x.cps.toList,c<128:=by unfold dQ at h;rw[and_eq_true,and_eq_true,and_eq_true] at h;intro c hc;have:=all_eq_true.mp h.2.2.2 c hc;unfold isLet at this;simp at this;omega
end Jd
namespace L2
open PySem PyProof.Rows
section
variable (f g:IE D) (ρ:IM) (S:IL)
@[simp] theorem Ii (c k:Str):iV c k f ρ S=ai (f ρ S) λd a=>aJ (jK c k d a) a:=rfl
@[simp] theorem Hs (c k:Str):oJ c k f g ρ S=ai (g ρ S) λv a=>ai (f ρ a) λd S2=>nK c k d v ρ S2:=rfl
@[simp] theorem HE (c k:Str):GI c k f g ρ S=ai (f ρ S) λd a=>ai (aJ (jK c k d a) a) λv S2=>ai (g ρ S2) λy b=>GK c k d v y ρ b:=rfl
@[simp] theorem Hz (c m:Str)(F:IK)(a:IE (List D)):dj c m F f a ρ S=ai (f ρ S) λd b=>ai (aJ (um c m d b) b) λ_ S2=>ai (a ρ S2) λds e=>eZ (F (d::ds) e):=rfl
@[simp] theorem GX (c m:Str)(F:IK)(a:IE (List D)):Fh c m F f a ρ S=ai (f ρ S) λd b=>ai (aJ (um c m d b) b) λ_ S2=>ai (a ρ S2) λds e=>F (d::ds) e:=rfl
@[simp] theorem Hx:uO ρ S=IX (.loc S.length) (S++[.lst []]):=rfl
@[simp] theorem Io:Fk f g ρ S=ai (f ρ S) λd a=>ai (aJ (cL d a) a) λ_ S2=>ai (g ρ S2) λv b=>wI d v b:=rfl
@[simp] theorem GA:Dm f ρ S=ai (f ρ S) λd a=>aJ ((cL d a).bind λxs=>if xs.length<=sizeLine then some (.tup xs) else none) a:=rfl
@[simp] theorem Br:oK f ρ S=ai (f ρ S) λ_ a=>IX (.next ρ) a:=rfl
@[simp] theorem GB (c:Str)(q:IM->IL->Bool):Du c q ρ S=if q ρ S=true then some (.error c,S) else none:=rfl
@[simp] theorem Iq {α a:Type}(c:Str)(k : α->IL->Out a):ai (some (.error c,S):Out α) k=some (.error c,S):=rfl
end
theorem fM {S:IL}{l:Nat}{a b:MO}(h:S[l]?=some a):(S.set l b)[l]?=some b:=by have:l<S.length:=(List.getElem?_eq_some_iff.mp h).1;simp[this]
theorem cH {S:IL}{l k:Nat}{b:MO}(h:l≠k):(S.set l b)[k]?=S[k]?:=by simp[List.getElem?_set,h]
section
variable (f g:IE D) (ρ:IM) (S:IL)
@[simp] theorem DQ:wE f g ρ S=ai (f ρ S) λx a=>ai (g ρ a) λi S2=>aJ (lA x i S2) S2:=rfl
@[simp] theorem Ic:zE f g ρ S=ai (f ρ S) λx a=>ai (g ρ a) λi S2=>aJ (if bP x=true then lA x i S2 else Qi x i) S2:=rfl
@[simp] theorem H9 (neg:Bool):BB neg f g ρ S=ai (f ρ S) λk a=>ai (g ρ a) λx S2=>aJ (n8 neg k x S2) S2:=rfl
@[simp] theorem Hy:xK f g ρ S=ai (f ρ S) λx a=>ai (g ρ a) λk S2=>aJ (iF x k S2) S2:=rfl
@[simp] theorem Ht (h:IE D):uN f g h ρ S=ai (h ρ S) λv b=>ai (f ρ b) λx S2=>ai (g ρ S2) λk a=>nV x k v ρ a:=rfl
@[simp] theorem HA:Bu f ρ S=ai (f ρ S) λd a=>aJ ((cL d a).map λxs => .int xs.length) a:=rfl
@[simp] theorem Fa:lI f ρ S=ai (f ρ S) λd a=>aJ (gr d a) a:=rfl
@[simp] theorem Hw:xJ ρ S=IX (.loc S.length) (S++[.Jf []]):=rfl
@[simp] theorem Gz (u:D->IM->Option IM):r_ u f ρ S=ai (f ρ S) λd a=>aJ ((u d ρ).map Fl.next) a:=rfl
end
end L2
namespace Jd
open PySem L2 PyProof.Rows
inductive Row where
 |leaf (ss:List Str)
 |ask (c no yes:Nat)
 deriving DecidableEq
def aE:Row->D
 | .leaf a => .tup [.str "names",.tup (a.map .str)]
 | .ask c no yes => .tup [.int c,.int no,.int yes]
def nU:Row->PyData
 | .leaf a => .tuple [.str "names",.tuple (a.map .str)]
 | .ask c no yes => .tuple [.int c,.int no,.int yes]
def de:Row->Prop
 | .leaf a => ∀ x∈a,dQ x=true
 | .ask _ _ _=>True
theorem CY {x:Str}(h:dQ x=true):PyData.strOk x=true:=by have w:=AQ h;unfold PyData.strOk;rw[← Array.all_toList,all_eq_true];intro c hc;have:=w c hc;simp;omega
theorem tP:PyData.strOk ("names":Str)=true:=by decide
theorem ki {r:Row}(h:de r):gu (aE r)=some (nU r):=by
 unfold gu;cases r with
 |leaf b =>
  have e:toPy (aE (.leaf b))=some (nU (.leaf b)):=by simp[aE,nU,toPy,dZ,jA]
  have a:(b.map PyData.str).all (keyOk 6)=true:=by rw[all_eq_true];intro p f;obtain⟨x,d,rfl⟩:=mem_map.mp f;exact CY (h x d)
  have k:keyOk 8 (nU (.leaf b))=true:=by show ([PyData.str "names",PyData.tuple (b.map .str)]:List PyData).all (keyOk 7)=true;rw[all_cons,all_cons,List.all_nil,Bool.and_true,and_eq_true];exact⟨tP,a⟩
  rw[e,bind_some,if_pos k]
 |ask c no yes=>simp[aE,nU,toPy,dZ,keyOk]
theorem Cm (a b:Row):PyData.eqv (nU a) (nU b)=decide (a=b):=by
 cases a with
 |leaf s=>cases b with
  |leaf t=>simp[nU,PyData.eqv,PyData.eqvAll,uv]
  |ask c n y=>simp[nU,PyData.eqv,PyData.eqvAll]
 |ask c n y=>cases b with
  |leaf t=>simp[nU,PyData.eqv,PyData.eqvAll]
  |ask e f d =>
   rw[Bool.eq_iff_iff];simp[nU,PyData.eqv,PyData.eqvAll];omega
theorem ge {a b:Row}(c:de a)(hb:de b):eU (aE a) (aE b)=decide (a=b):=by unfold eU;rw[ki c,ki hb];exact Cm a b
theorem dG (r:Row):fm (aE r)=true:=by cases r<;>rfl
def bp (k:Nat):List Row->List (D×D)
 |[]=>[]
 |r::G=>(aE r,.int k)::bp (k+1) G
theorem tL:∀ (G:List Row) (k:Nat),(bp k G).length=G.length
 |[],_=>rfl
 |r::G,k=>by rw[bp,length_cons,length_cons,tL G]
theorem jd {r:Row}(hr:de r):∀ (G:List Row) (k:Nat),(∀ x∈G,de x)->kn (bp k G) (aE r)=if r∈G then some (.int ((k+G.idxOf r:Nat):Int)) else none
 |[],k,_=>rfl
 |x::G,k,h=>by
  have b:=jd hr G (k+1) λy f=>h y (mem_cons_of_mem _ f);unfold kn at b ⊢;rw[bp,find?_cons];simp only[ge (h x (mem_cons_self ..)) hr];by_cases e:x=r
  ·subst e;simp
  rw[decide_eq_false e];simp only;rw[b];have c:¬ r=x:=λq=>e q.symm;have d:(x==r)=false:=by simpa using e
  by_cases a:r∈G
  ·rw[if_pos a,if_pos (mem_cons_of_mem _ a),idxOf_cons,d];simp only[cond_false];congr 2;omega
  rw[if_neg a,if_neg (by rw[mem_cons];exact λq=>q.elim c a)]
theorem any_nums {r:Row}(hr:de r)(G:List Row)(k:Nat)(h:∀ x∈G,de x)(a:r∉G):((bp k G).any λp=>eU p.1 (aE r))=false:=by have q:=jd hr G k h;rw[if_neg a] at q;unfold kn at q;rw[Option.map_eq_none_iff,List.find?_eq_none] at q;rw[List.any_eq_false];exact q
theorem pU:∀ (G:List Row) (k:Nat) (r:Row),bp k (G++[r])=bp k G++[(aE r,.int ((k+G.length:Nat):Int))]
 |[],k,r=>rfl
 |x::G,k,r=>by
  rw[cons_append,bp,pU G (k+1) r,bp,cons_append,length_cons,show k+1+G.length=k+(G.length+1) by omega]
theorem yr {r:Row}(hr:de r){G:List Row}(h:∀ x∈G,de x)(a:r∉G):putN (bp 0 G) (aE r) (.int G.length)=bp 0 (G++[r]):=by unfold putN;rw[any_nums hr G 0 h a,if_neg (by decide),pU,zero_add]
theorem zj {kvs:List (D×D)}{k v:D}(h:eU k k=true):kn (putN kvs k v) k=some v:=by
 unfold putN;split
 ·rename_i a;unfold kn;rw[any_eq_true] at a;clear h
  induction kvs with
  |nil=>obtain⟨p,b,_⟩:=a;cases b
  |cons p r c =>
   rw[map_cons,find?_cons];cases b:eU p.1 k with
   |true=>simp[b]
   |false =>
    simp only[b,false_eq_true,if_false];obtain⟨x,hx,q⟩:=a;rcases mem_cons.mp hx with rfl |hx
    ·rw[b] at q;cases q
    exact c ⟨x,hx,q⟩
 rename_i a;unfold kn;rw[Bool.not_eq_true,List.any_eq_false] at a;rw[List.find?_append,List.find?_eq_none.mpr a];simp[h]
abbrev Th:=Nat->Bool
inductive Ev (G:List Row) (th:Th):Nat->List Str->Prop
 |leaf {i:Nat}{ss:List Str}:G[i]?=some (.leaf ss)->Ev G th i ss
 |no {i c n y:Nat}{ss:List Str}:G[i]?=some (.ask c n y)->th c=false->Ev G th n ss->Ev G th i ss
 |yes {i c n y:Nat}{ss:List Str}:G[i]?=some (.ask c n y)->th c=true->Ev G th y ss->Ev G th i ss
theorem rK {G E:List Row}{i:Nat}{r:Row}(h:G[i]?=some r):(G++E)[i]?=some r:=by rw[getElem?_append_left (List.getElem?_eq_some_iff.mp h).1];exact h
theorem Ev.mono {G:List Row}(E:List Row){th:Th}{i:Nat}{ss:List Str}(h:Ev G th i ss):Ev (G++E) th i ss:=by
 induction h with
 |leaf h=>exact .leaf (rK h)
 |no h t _ a=>exact .no (rK h) t a
 |yes h t _ a=>exact .yes (rK h) t a
theorem Ev.det {G:List Row}{th:Th}{i:Nat}{a b:List Str}(h:Ev G th i a)(g:Ev G th i b):a=b:=by
 induction h with
 |leaf h=>cases g with
  |leaf c=>rw[h] at c;cases c;rfl
  |no c=>rw[h] at c;cases c
  |yes c=>rw[h] at c;cases c
 |no h t _ e=>cases g with
  |leaf c=>rw[h] at c;cases c
  |no c d g=>rw[h] at c;cases c;exact e g
  |yes c d g=>rw[h] at c;cases c;rw[t] at d;cases d
 |yes h t _ e=>cases g with
  |leaf c=>rw[h] at c;cases c
  |no c d g=>rw[h] at c;cases c;rw[t] at d;cases d
  |yes c d g=>rw[h] at c;cases c;exact e g
def pl (o:List Nat)(G:List Row)(i:Nat):Nat:=match G[i]? with
 |some (.ask c _ _)=>o.idxOf c
 |_=>o.length
theorem cz {o:List Nat}{G E:List Row}{i:Nat}(h:i<G.length):pl o (G++E) i=pl o G i:=by unfold pl;rw[getElem?_append_left h]
theorem F5 (o:List Nat)(G:List Row)(i:Nat):pl o G i<=o.length:=by
 unfold pl;split
 ·exact List.idxOf_le_length
 exact le_refl _
def LD (o:List Nat)(G:List Row)(i:Nat):Row->Prop
 | .leaf a=>(∀ x∈a,dQ x=true)/\Qa a=true
 | .ask c n y=>c∈o/\n<i/\y<i/\o.idxOf c<Jd.pl o G n/\o.idxOf c<Jd.pl o G y/\n≠y
structure Wf (o:List Nat) (G:List Row):Prop where
 nd:G.Nodup
 row:∀ (i:Nat) (r:Row),G[i]?=some r->LD o G i r
theorem Wf.ok {o:List Nat}{G:List Row}(h:Wf o G):∀ x∈G,de x:=by
 intro x a;obtain⟨i,b⟩:=getElem?_of_mem a;have:=h.row i x b;cases x with
 |leaf d=>exact this.1
 |ask c n y=>trivial
theorem Wf.total {o:List Nat}{G:List Row}(h:Wf o G)(th:Th):∀ (i:Nat),i<G.length->∃ ss,Ev G th i ss:=by
 intro i
 induction i using Nat.strongRecOn with
 |_ i a =>
  intro d;have e:G[i]?=some G[i]:=List.getElem?_eq_getElem d;have q:=h.row i _ e;cases hr:G[i] with
  |leaf ss=>rw[hr] at e;exact⟨ss,.leaf e⟩
  |ask c n y =>
   rw[hr] at e q;obtain⟨_,f,b,_,_,_⟩:=q;cases ht:th c with
   |false=>obtain⟨ss,k⟩:=a n f (by omega);exact⟨ss,.no e ht k⟩
   |true=>obtain⟨ss,k⟩:=a y b (by omega);exact⟨ss,.yes e ht k⟩
theorem Wf.back {o:List Nat}{G E:List Row}(h:Wf o G){th:Th}{i:Nat}{ss:List Str}(a:i<G.length)(e:Ev (G++E) th i ss):Ev G th i ss:=by obtain⟨b,k⟩:=h.total th i a;rw[Ev.det e (k.mono E)];exact k
theorem LD.app {o:List Nat}{G E:List Row}{i:Nat}{r:Row}(k:i<=G.length)(h:LD o G i r):LD o (G++E) i r:=by
 cases r with
 |leaf j=>exact h
 |ask c n y =>
  obtain⟨a,b,g,d,e,f⟩:=h;refine⟨a,b,g,?_,?_,f⟩
  ·rw[cz (by omega)];exact d
  rw[cz (by omega)];exact e
theorem Wf.snoc {o:List Nat}{G:List Row}(h:Wf o G){r:Row}(e:r∉G)(hr:LD o G G.length r):Wf o (G++[r]):=by
 refine⟨nodup_append.mpr ⟨h.nd,by simp,λa d b hb=>?_⟩,λi x c=>?_⟩
 ·rw[mem_singleton.mp hb];rintro rfl;exact e d
 rcases Nat.lt_trichotomy i G.length with hi |hi |hi
 ·rw[getElem?_append_left hi] at c;exact(h.row i x c).app (Nat.le_of_lt hi)
 ·subst hi;have:x=r:=by simpa using c.symm
  subst this;exact hr.app (le_refl _)
 rw[getElem?_append_right (by omega)] at c;have:([r]:List Row)[i-G.length]?=none:=by rw[List.getElem?_eq_none_iff];simp;omega
 rw[this] at c;cases c
def jN (C:List (Row×Nat)):List (D×D):=C.map λp=>(aE p.1,.int p.2)
def sel (th:Th)(c n y:Nat):Nat:=if th c=true then y else n
def Lv (o:List Nat)(G:List Row)(r:Row)(v:Nat):Prop:=match r with
 | .leaf _=>False
 | .ask c n y=>n<G.length/\y<G.length/\v<G.length/\min (o.idxOf c) (min (Jd.pl o G n) (Jd.pl o G y))<=Jd.pl o G v/\∀ th a,Ev G th (sel th c n y) a->Ev G th v a
theorem Lv.app {o:List Nat}{G E:List Row}(w:Wf o G){r:Row}{v:Nat}(h:Lv o G r v):Lv o (G++E) r v:=by
 cases r with
 |leaf _=>exact h
 |ask c n y =>
  obtain⟨a,b,g,d,e⟩:=h;refine⟨by rw[List.length_append];omega,by rw[List.length_append];omega,by rw[List.length_append];omega,?_,λth f k=>?_⟩
  ·rw[cz a,cz b,cz g];exact d
  have i:sel th c n y<G.length:=by unfold sel;split<;>assumption
  exact(e th f (w.back i k)).mono E
def mO:List (Row×Nat)->Row->Nat->List (Row×Nat):=λC r v=>if (C.any λp=>decide (p.1=r))=true then C.map (λp=>if p.1=r then (p.1,v) else p) else C++[(r,v)]
theorem xH {C:List (Row×Nat)}(h:∀ p∈C,de p.1){r:Row}(hr:de r)(v:Nat):putN (jN C) (aE r) (.int v)=jN (mO C r v):=by
 have b:((jN C).any λp=>eU p.1 (aE r))=C.any λp=>decide (p.1=r):=by
  unfold jN;rw[any_map]
  have:∀ l:List (Row×Nat),(∀ p∈l,de p.1)->(l.any ((λp=>eU p.1 (aE r)) ∘ λp=>(aE p.1,D.int p.2)))=l.any λp=>decide (p.1=r):=by
   intro l a
   induction l with
   |nil=>rfl
   |cons p l c =>
    rw[any_cons,any_cons,c λq e=>a q (mem_cons_of_mem _ e)];simp only[Function.comp,ge (a p (mem_cons_self ..)) hr]
  exact this C h
 unfold putN mO;rw[b];split
 ·unfold jN;rw[map_map,map_map];refine map_congr_left λp d=>?_;simp only[Function.comp,ge (h p d) hr,decide_eq_true_eq];split<;>rfl
 unfold jN;rw[map_append];rfl
theorem Dp {C:List (Row×Nat)}(h:∀ p∈C,de p.1){r:Row}(hr:de r):kn (jN C) (aE r)=(C.find? λp=>decide (p.1=r)).map λp => .int p.2:=by
 unfold kn jN
 induction C with
 |nil=>rfl
 |cons p C a =>
  rw[map_cons,find?_cons,find?_cons];simp only[ge (h p (mem_cons_self ..)) hr];cases hd:decide (p.1=r) with
  |true=>rfl
  |false=>exact a λq b=>h q (mem_cons_of_mem _ b)
theorem tF {C:List (Row×Nat)}{P:Row->Nat->Prop}(h:∀ p∈C,P p.1 p.2){r:Row}{v:Nat}(hr:P r v):∀ p∈mO C r v,P p.1 p.2:=by
 intro p hp;unfold mO at hp;split at hp
 ·obtain⟨q,a,rfl⟩:=mem_map.mp hp;split
  ·rename_i e;rw[e];exact hr
  exact h q a
 rcases mem_append.mp hp with hp |hp
 ·exact h p hp
 rw[mem_singleton.mp hp];exact hr
theorem tD (C:List (Row×Nat))(r:Row)(v:Nat):(mO C r v).length<=C.length+1:=by
 unfold mO;split
 ·rw[length_map];omega
 rw[List.length_append];simp
abbrev oD (o:List Nat):D:=.tup (o.map λ(c:Nat)=>D.int c)
abbrev RO (o:List Nat)(L:Nat):MO:=.ins "Rows" [("order",oD o),("gathered",.loc (L+1)),("numbers",.loc (L+2)),("choices",.loc (L+3))]
structure SR (B:Nat->Option MO) (S:IL) (L:Nat) (o:List Nat) (G:List Row) (C:List (Row×Nat)):Prop where
 obj:S[L]?=some (RO o L)
 R5:S[L+1]?=some (.lst (G.map aE))
 num:S[L+2]?=some (.Jf (bp 0 G))
 N5:S[L+3]?=some (.Jf (jN C))
 fr:∀ i,i<L∨L+3<i->S[i]?=B i
theorem X9:(("gathered":Str)=="order")=false:=by decide
theorem rq2:(("numbers":Str)=="order")=false:=by decide
theorem rq3:(("numbers":Str)=="gathered")=false:=by decide
theorem rq4:(("choices":Str)=="order")=false:=by decide
theorem rq5:(("choices":Str)=="gathered")=false:=by decide
theorem rq6:(("choices":Str)=="numbers")=false:=by decide
section
variable {B:Nat->Option MO}{S:IL}{L:Nat}{o:List Nat}{G:List Row}{C:List (Row×Nat)}
theorem SR.ins (h:SR B S L o G C):wa "Rows" (.loc L) S=some ([("order",oD o),("gathered",.loc (L+1)),("numbers",.loc (L+2)),("choices",.loc (L+3))]:List (Str×D)):=by unfold wa;simp only[h.obj,if_true]
theorem SR.N6 (h:SR B S L o G C):jK "Rows" "order" (.loc L) S=some (oD o):=by unfold jK;rw[h.ins];simp[List.lookup]
theorem SR.Nt (h:SR B S L o G C):jK "Rows" "gathered" (.loc L) S=some (.loc (L+1)):=by unfold jK;rw[h.ins];simp[List.lookup,X9]
theorem SR.Pg (h:SR B S L o G C):jK "Rows" "numbers" (.loc L) S=some (.loc (L+2)):=by unfold jK;rw[h.ins];simp[List.lookup,rq2,rq3]
theorem SR.MK (h:SR B S L o G C):jK "Rows" "choices" (.loc L) S=some (.loc (L+3)):=by unfold jK;rw[h.ins];simp[List.lookup,rq4,rq5,rq6]
theorem SR.has (h:SR B S L o G C)(m:Str)(a:((m=="order") ||(m=="gathered") ||(m=="numbers") ||(m=="choices"))=false):um "Rows" m (.loc L) S=some .Ji:=by rw[Bool.or_eq_false_iff,Bool.or_eq_false_iff,Bool.or_eq_false_iff] at a;unfold um;rw[h.ins];simp[List.lookup,a.1.1.1,a.1.1.2,a.1.2,a.2]
theorem SR.lst (h:SR B S L o G C):cL (.loc (L+1)) S=some (G.map aE):=by unfold cL;simp only[h.R5]
theorem SR.row (h:SR B S L o G C){i:Nat}{r:Row}(b:G[i]?=some r):lA (.loc (L+1)) (.int i) S=some (aE r):=by show ((cL (.loc (L+1)) S).bind λa=>Mo a (i:Int))=_;rw[h.lst,bind_some];exact bD (by rw[getElem?_map,b];rfl)
theorem wm (a b:Nat):K0 (.int a) (.int b)=some (.bl (decide (a=b))):=by
 rw[Dh];by_cases h:a=b
 ·simp[h]
 rw[decide_eq_false h,decide_eq_false (by omega)]
theorem eq_str_int (x:Str)(i:Int):K0 (.str x) (.int i)=some (.bl false):=by simp[K0,toPy,PyData.eqv,PyData.depth]
theorem kL (r:Row)(S:IL):iZ [aE r] S=IX (.bl (match r with | .leaf _=>false | .ask _ _ _=>true)) S:=by refine au rfl ?_;unfold Bl;cases r<;>simp[aE,cm]
theorem idx_map (c:Nat):∀ o:List Nat,(o.map λ(c:Nat)=>(c:Int)).idxOf (c:Int)=o.idxOf c
 |[]=>rfl
 |a::o=>by
  rw[map_cons,idxOf_cons,idxOf_cons,idx_map c o];by_cases h:a=c
  ·simp[h]
  have b:(a==c)=false:=by simpa using h
  have d:((a:Int)==(c:Int))=false:=by rw[beq_eq_false_iff_ne];omega
  rw[b,d]
theorem JX:∀ l:List Int,cu (l.map .int)=some l
 |[]=>rfl
 |a::l=>by rw[map_cons,cu,JX l];rfl
theorem Bc (o:List Nat):cu (o.map λ(c:Nat)=>D.int c)=some (o.map λ(c:Nat)=>(c:Int)):=by rw[show (o.map λ(c:Nat)=>D.int c)=(o.map λ(c:Nat)=>(c:Int)).map D.int by rw[map_map];rfl,JX]
theorem qj {o:List Nat}{c:Nat}(h:c∈o):jc (oD o) (.int c)=some (.int (o.idxOf c:Nat)):=by unfold jc oD;simp only[Bc,bind_some];rw[if_pos (mem_map.mpr ⟨c,h,rfl⟩),idx_map]
theorem As {i:Nat}{r:Row}(f:G[i]?=some r)(w:LD o G i r)(S:IL):jS [aE r,oD o] S=IX (.int (Jd.pl o G i:Nat)) S:=by
 have a:=kL r S;unfold Jd.pl;rw[f];refine au rfl ?_;unfold oB;cases r with
 |leaf g =>
  have:cm [oD o]=some (.int o.length):=by simp[cm]
  simp[a,this]
 |ask c n y =>
  have d:=qj w.1;have e:JT (aE (.ask c n y)) (.int 0) S=some (.int c):=OP _ _ S;have b:fm (oD o)=true:=rfl;simp[a,e,d,b]
theorem Bm (h:SR B S L o G C)(w:Wf o G)(nd:o.Nodup){c i j:Nat}(hc:c∈o)(x:i<G.length)(t:j<G.length) :
  ∃ f,f∈o/\o.idxOf f=min (o.idxOf c) (min (Jd.pl o G i) (Jd.pl o G j))/\bN [.loc L,.int c,.int i,.int j] S=IX (.int f) S:=by
 have z:o.idxOf c<o.length:=idxOf_lt_length_iff.mpr hc;have g:min (o.idxOf c) (min (Jd.pl o G i) (Jd.pl o G j))<o.length:=by omega
 have one:∀ k:Nat,k<G.length->bd [some (.int k),some (.loc L)] S=IX (.int (Jd.pl o G k:Nat)) S:=by intro k r;have e:G[k]?=some G[k]:=List.getElem?_eq_getElem r;have q:=As e (w.row k _ e) S;have m:=h.row e;unfold bd;simp[h.Nt,h.N6,m,q]
 have q:=dC (u:=aD 0) (fe:=bd) (λl => ∃ y,l=[y,some (.loc L)]) (λd=>match d with | .int k => .int (Jd.pl o G k.toNat:Nat) |_ => .Ji) S [.int i,.int j] (aY 1 [0] [some (.loc L),some (.int c),some (.int i),some (.int j),none]) ⟨none,rfl⟩ (by
  rintro d hd l ⟨y,rfl⟩;refine⟨_,rfl,⟨_,rfl⟩,?_⟩;simp only[mem_cons,not_mem_nil,or_false] at hd;rcases hd with rfl |rfl
  ·have:=one i x;simpa using this
  have:=one j t;simpa using this)
 have p:=qj hc;have n:fm (oD o)=true:=rfl;refine⟨o[min (o.idxOf c) (min (Jd.pl o G i) (Jd.pl o G j))],getElem_mem g,nd.idxOf_getElem _ g,au rfl ?_⟩;have s:tX [.lst [.int (Jd.pl o G i:Nat),.int (Jd.pl o G j:Nat),.int (o.idxOf c:Nat)]]=some (.int ((min (o.idxOf c) (min (Jd.pl o G i) (Jd.pl o G j)):Nat):Int)):=by simp only[tX,cu,map_some,bind_some,EO,List.foldl];congr 2;split<;>split<;>omega
 have v:JT (oD o) (.int ((min (o.idxOf c) (min (Jd.pl o G i) (Jd.pl o G j)):Nat):Int)) S=some (.int (o[min (o.idxOf c) (min (Jd.pl o G i) (Jd.pl o G j))]:Nat)):=by unfold JT;rw[if_neg (by simp[bP])];show Mo (o.map λ(c:Nat)=>D.int c) _=_;exact bD (by rw[getElem?_map,List.getElem?_eq_getElem g];rfl)
 have z2:Ln [.int i,.int j] (.tup [.int i,.int j])=some (.tup [.int i,.int j]):=bH (by simp);have z1:Ln [.int (o.idxOf c:Nat)] (.lst [.int (o.idxOf c:Nat)])=some (.lst [.int (o.idxOf c:Nat)]):=bH (by simp);have ad:br (.lst [.int (Jd.pl o G i:Nat),.int (Jd.pl o G j:Nat)]) (.lst [.int (o.idxOf c:Nat)])=some (.lst [.int (Jd.pl o G i:Nat),.int (Jd.pl o G j:Nat),.int (o.idxOf c:Nat)]):=by exact(lN _ _).trans (if_pos (show 3<=sizeLine by decide))
 unfold cY;simp only[map_cons,map_nil,Int.toNat_natCast] at q;generalize Jd.pl o G i=a at *
 generalize Jd.pl o G j=b at *
 generalize o.idxOf c=k at *
 simp[z2,bU,q,h.N6,n,p,z1,ad,s,v]
def sd (G:List Row)(i c:Nat)(b:Bool):Nat:=match G[i]? with
 |some (.ask c' n y)=>if c'=c then (if b=true then y else n) else i
 |_=>i
theorem i7 (h:SR B S L o G C){i:Nat}(m:i<G.length)(c:Nat)(b:Bool):bJ [.loc L,.int i,.int c,.int (if b=true then 1 else 0)] S=IX (.int (sd G i c b:Nat)) S:=by
 have e:G[i]?=some G[i]:=List.getElem?_eq_getElem m;have d:=h.row e;unfold sd;rw[e]
 suffices ef:lQ [.loc (L+1),.int i,.int c,.int (if b=true then 1 else 0)] S=IX (.int (match some G[i] with
  |some (.ask a n y)=>if a=c then (if b=true then y else n) else i
  |_=>i:Nat)) S by
  refine au rfl ?_;unfold mC;simp[h.Nt,ef]
 refine au rfl ?_;unfold qp;cases hr:G[i] with
 |leaf k =>
  rw[hr] at d;have f:JT (aE (.leaf k)) (.int 0) S=some (.str "names"):=OP _ _ S;simp[d,f,eq_str_int,bP]
 |ask a n y =>
  rw[hr] at d;have f:JT (aE (.ask a n y)) (.int 0) S=some (.int a):=OP _ _ S;have j:JT (aE (.ask a n y)) (.int 1) S=some (.int n):=Qb _ _ _ S;have l:JT (aE (.ask a n y)) (.int 2) S=some (.int y):=at2 _ _ _ _ S;have g:=wm a c;by_cases hc:a=c
  ·subst hc;rw[decide_eq_true rfl] at g;cases b<;>simp[d,f,g,j,l,bP]
  rw[decide_eq_false hc] at g;cases b<;>simp[d,f,g,hc,bP]
theorem i6 (w:Wf o G){i c:Nat}(j:i<G.length)(b:Bool)(hc:c∈o)(d:o.idxOf c<=Jd.pl o G i):sd G i c b<G.length/\o.idxOf c<Jd.pl o G (sd G i c b)/\∀ th ss,th c=b->Ev G th i ss->Ev G th (sd G i c b) ss:=by
 have e:G[i]?=some G[i]:=List.getElem?_eq_getElem j;have l:o.idxOf c<o.length:=idxOf_lt_length_iff.mpr hc;have q:=w.row i _ e;unfold sd;rw[e];cases hr:G[i] with
 |leaf ss =>
  refine⟨j,?_,λ_ _ _ k=>k⟩;unfold Jd.pl;rw[e,hr];exact l
 |ask v n y =>
  rw[hr] at q e;obtain⟨s,z,x,u,p,_⟩:=q;by_cases g:v=c
  ·subst g;simp only[if_true];cases b with
   |false =>
    refine⟨by simp;omega,by simpa using u,λth ss f k=>?_⟩;cases k with
    |leaf a=>rw[e] at a;cases a
    |no a _ k=>rw[e] at a;cases a;exact k
    |yes a t k=>rw[e] at a;cases a;cases f.symm.trans t
   |true =>
    refine⟨by simp;omega,by simpa using p,λth ss f k=>?_⟩;cases k with
    |leaf a=>rw[e] at a;cases a
    |no a t k=>rw[e] at a;cases a;cases f.symm.trans t
    |yes a _ k=>rw[e] at a;cases a;exact k
  simp only[if_neg g];refine⟨j,?_,λ_ _ _ k=>k⟩;unfold Jd.pl at d ⊢;rw[e] at d ⊢;simp only at d ⊢;rcases Nat.lt_or_eq_of_le d with h |h
  ·exact h
  exfalso;apply g;have m:=getElem_idxOf (idxOf_lt_length_iff.mpr s);have r:=getElem_idxOf l;rw[← m,← r];congr 1;exact h.symm
theorem pV (h:SR B S L o G C)(w:Wf o G){r:Row}(hr:LD o G G.length r)(hz:G.length<16000000) :
  ∃ u E i,bI [.loc L,aE r] S=IX (.int (i:Nat)) u/\SR B u L o (G++E) C/\Wf o (G++E)/\(G++E)[i]?=some r/\E.length<=1:=by
 have ok:de r:=by cases r with
  |leaf J=>exact hr.1
  |ask c n y=>trivial
 have d:=ki ok;have b:=jd ok G 0 w.ok;have M:sizeLine=16777216:=rfl;by_cases a:r∈G
 ·rw[if_pos a,zero_add] at b;have x:G.idxOf r<G.length:=idxOf_lt_length_iff.mpr a;refine⟨S,[],G.idxOf r,au rfl ?_,by rw[append_nil];exact h,by rw[append_nil];exact w,?_,by simp⟩
  ·have p:n8 true (aE r) (.loc (L+2)) S=some (.bl false):=by
    unfold n8;simp only[h.num,d,dG,if_true,b];rfl
   have l:iF (.loc (L+2)) (aE r) S=some (.int (G.idxOf r:Nat)):=by unfold iF;simp only[h.num,d,dG,if_true,b]
   unfold dA;simp[h.Pg,p,l]
  rw[append_nil,List.getElem?_eq_getElem x,getElem_idxOf x]
 rw[if_neg a] at b;have p:n8 true (aE r) (.loc (L+2)) S=some (.bl true):=by unfold n8;simp only[h.num,d,dG,if_true,b];rfl
 have ep:∀ j,nV (.loc (L+2)) (aE r) (.int (G.length:Nat)) j S=IX (.next j) (S.set (L+2) (.Jf (bp 0 (G++[r])))):=λj=>by unfold nV;simp only[h.num,d];rw[if_pos ⟨by rw[tL];omega,dG r⟩,yr ok w.ok a]
 generalize e:S.set (L+2) (.Jf (bp 0 (G++[r])))=S1 at ep;have q:S1[L]?=some (RO o L):=by rw[← e,cH (by omega)];exact h.obj
 have g:S1[L+1]?=some (.lst (G.map aE)):=by rw[← e,cH (by omega)];exact h.R5
 have F:S1[L+2]?=some (.Jf (bp 0 (G++[r]))):=by rw[← e];exact fM h.num
 have A:S1[L+3]?=some (.Jf (jN C)):=by rw[← e,cH (by omega)];exact h.N5
 have D:jK "Rows" "gathered" (.loc L) S1=some (.loc (L+1)):=by unfold jK wa;simp only[q,if_true];simp[List.lookup,X9]
 have I:cL (.loc (L+1)) S1=some (G.map aE):=by unfold cL;simp only[g]
 have s:wI (.loc (L+1)) (aE r) S1=IX .Ji (S1.set (L+1) (.lst ((G++[r]).map aE))):=by unfold wI;simp only[g];rw[if_pos (by rw[length_map];omega),map_append];rfl
 have f:SR B (S1.set (L+1) (.lst ((G++[r]).map aE))) L o (G++[r]) C:=by
  refine⟨?_,fM g,?_,?_,λk z=>by rw[cH (by omega),← e,cH (by omega)];exact h.fr k z⟩
  ·rw[cH (by omega)];exact q
  ·rw[cH (by omega)];exact F
  rw[cH (by omega)];exact A
 generalize K:S1.set (L+1) (.lst ((G++[r]).map aE))=S2 at s f;have v:=w.snoc a hr;have t:=jd ok (G++[r]) 0 v.ok;rw[if_pos (by simp),zero_add,List.idxOf_append,if_neg a] at t;have H:([r]:List Row).idxOf r+G.length=G.length:=by simp
 have m:G.length+([r]:List Row).idxOf r=G.length:=by simp
 refine⟨S2,[r],G.length,au rfl ?_,f,v,by simp,by simp⟩
 have l:iF (.loc (L+2)) (aE r) S2=some (.int (G.length:Nat)):=by
  unfold iF;simp only[f.num,d,dG,if_true,t]
  first |rw[H] |rw[m]
 unfold dA;simp[h.Pg,p,h.Nt,h.lst,ep,D,I,s,f.Pg,l]
end
section
variable {B:Nat->Option MO}{S:IL}{L:Nat}{o:List Nat}{G:List Row}{C:List (Row×Nat)}
theorem BL (h:SR B S L o G C)(w:Wf o G){c a b:Nat}(hc:c∈o)(l:a<G.length)(hb:b<G.length)(t:o.idxOf c<Jd.pl o G a)(q:o.idxOf c<Jd.pl o G b)(hz:G.length<16000000) :
  ∃ d E i,bE [.loc L,.int c,.int a,.int b] S=IX (.int (i:Nat)) d/\SR B d L o (G++E) C/\Wf o (G++E)/\i<(G++E).length/\o.idxOf c<=Jd.pl o (G++E) i/\E.length<=1/\∀ th ss,Ev (G++E) th (sel th c a b) ss->Ev (G++E) th i ss:=by
 have j:=wm a b;by_cases e:a=b
 ·subst e;rw[decide_eq_true rfl] at j;refine⟨S,[],a,au rfl ?_,by rw[append_nil];exact h,by rw[append_nil];exact w,by rw[append_nil];exact l,by rw[append_nil];omega,by simp,λth ss k=>?_⟩
  ·unfold b_;simp
  unfold sel at k;simpa using k
 rw[decide_eq_false e] at j;obtain⟨d,E,i,g,m,s,f,p⟩:=pV h w (r:=.ask c a b) ⟨hc,l,hb,t,q,e⟩ hz;have u:=(List.getElem?_eq_some_iff.mp f).1;have v:=h.has "number_of" (by decide);have x:Ln [.int c,.int a,.int b] (.tup [.int c,.int a,.int b])=some (.tup [.int c,.int a,.int b]):=bH (by simp);have g:bI [.loc L,.tup [.int c,.int a,.int b]] S=IX (.int (i:Nat)) d:=g;have n:¬ ((a:Int)=b):=by omega
 refine⟨d,E,i,au rfl ?_,m,s,u,?_,p,λth ss k=>?_⟩
 ·unfold b_;simp[n,v,x,g]
 ·unfold Jd.pl;rw[f];exact le_refl _
 unfold sel at k;cases ht:th c with
 |false=>rw[ht] at k;exact .no f ht (by simpa using k)
 |true=>rw[ht] at k;exact .yes f ht (by simpa using k)
def wN (B:Nat->Option MO)(L:Nat)(o:List Nat)(G:List Row)(C:List (Row×Nat))(c i j N M:Nat)(out:Out D):Prop:=
 ∃ b E a r,out=IX (.int (r:Nat)) b/\SR B b L o (G++E) a/\Wf o (G++E)/\(∀ p∈a,Lv o (G++E) p.1 p.2)/\Lv o (G++E) (.ask c i j) r/\E.length<=N/\a.length<=C.length+M
theorem pR {r:Row}{v:Nat}(h:Lv o G r v):de r:=by
 cases r with
 |leaf _=>exact h.elim
 |ask _ _ _=>trivial
theorem SR.put (h:SR B S L o G C)(m:∀ p∈C,Lv o G p.1 p.2)(c i j v:Nat)(hz:C.length<16000000)(ρ:IM) :
  ∃ d,nV (.loc (L+3)) (aE (.ask c i j)) (.int v) ρ S=IX (.next ρ) d/\SR B d L o G (mO C (.ask c i j) v)/\iF (.loc (L+3)) (aE (.ask c i j)) d=some (.int v):=by
 have e:=ki (r:=.ask c i j) trivial;have f:∀ p∈C,de p.1:=λp q=>pR (m p q);have n:S.set (L+3) (.Jf (putN (jN C) (aE (.ask c i j)) (.int v)))=S.set (L+3) (.Jf (jN (mO C (.ask c i j) v))):=by rw[xH f (r:=.ask c i j) trivial]
 refine⟨S.set (L+3) (.Jf (jN (mO C (.ask c i j) v))),?_,⟨?_,?_,?_,fM h.N5,λk l=>by rw[cH (by omega)];exact h.fr k l⟩,?_⟩
 ·unfold nV;simp only[h.N5,e];rw[if_pos ⟨by unfold jN;rw[length_map];exact lt_of_lt_of_le hz (by decide),dG _⟩,n]
 ·rw[cH (by omega)];exact h.obj
 ·rw[cH (by omega)];exact h.R5
 ·rw[cH (by omega)];exact h.num
 have g:=fM (b:=.Jf (jN (mO C (.ask c i j) v))) h.N5;unfold iF;simp only[g,e,dG,if_true];rw[← xH f (r:=.ask c i j) trivial];exact zj (by rw[ge (a:=.ask c i j) (b:=.ask c i j) trivial trivial];simp)
theorem Gj {n x f a b:Nat}(h:x<n+1+f)(c:f<x)(e:f<a)(d:f<b):x<n+min x (min a b):=by have:f+1<=min x (min a b):=Nat.le_min.mpr ⟨c,Nat.le_min.mpr ⟨e,d⟩⟩;omega
theorem half {g p q N:Nat}(h:g+q<=N)(e:q=2*p):g+p<=N:=by omega
theorem Gv {g d p q l N:Nat}(h:g+q<=N)(e:q=2*p)(k:d<=p-1)(a : 1<=p)(b:l=g+d):l+p<=N:=by omega
theorem Gu {g d p q N:Nat}(h:g+q<=N)(e:q=2*p)(k:d<=g+(p-1))(a : 1<=p):d+p<=N:=by omega
theorem fj {G E:List Row}{i:Nat}(h:i<G.length):i<(G++E).length:=by rw[List.length_append];omega
theorem DB (nd:o.Nodup){F:IK}{n:Nat}(IH:∀ {S:IL}{G:List Row}{C:List (Row×Nat)}{c i j:Nat},SR B S L o G C->Wf o G->(∀ p∈C,Lv o G p.1 p.2)->c∈o->i<G.length->j<G.length->o.idxOf c<n+min (o.idxOf c) (min (Jd.pl o G i) (Jd.pl o G j))->G.length+2 ^ n<=16000000->C.length+2 ^ n<=16000000->wN B L o G C c i j (2 ^ n-1) (2 ^ n-1) (F [.loc L,.int c,.int i,.int j] S))
  {c i j:Nat}(h:SR B S L o G C) (w:Wf o G) (hC:∀ p∈C,Lv o G p.1 p.2) (hc:c∈o) (r:i<G.length) (m:j<G.length) (s:o.idxOf c<n+1+min (o.idxOf c) (min (Jd.pl o G i) (Jd.pl o G j))) (hz:G.length+2 ^ (n+1)<=16000000) (Rz:C.length+2 ^ (n+1)<=16000000) :
  wN B L o G C c i j (2 ^ (n+1)-1) (2 ^ (n+1)-2) (cO F [.loc L,.int c,.int i,.int j] S):=by
 have P : 2 ^ (n+1)=2*2 ^ n:=by rw[pow_succ];omega
 have p1 : 1<=2 ^ n:=one_le_two_pow;obtain⟨f,t,I,e1⟩:=Bm h w nd hc r m;have gc:o.idxOf f<=o.idxOf c:=I▸Nat.min_le_left _ _;have gi:o.idxOf f<=Jd.pl o G i:=I▸Nat.le_trans (min_le_right _ _) (Nat.min_le_left _ _);have gj:o.idxOf f<=Jd.pl o G j:=I▸Nat.le_trans (min_le_right _ _) (min_le_right _ _);rw[← I] at s;have hq:=wm f c;have RA:=h.has "first_character" (by decide);have O4:=h.has "number_of_ask" (by decide);have Ya:=h.has "side" (by decide);have hm4:=h.has "choose" (by decide);by_cases W:f=c
 ·subst W;rw[decide_eq_true rfl] at hq;have z:=i7 h r f false;have D:=i7 h m f true;obtain⟨x,u,a3⟩:=i6 w r false hc gi;obtain⟨Q,N,b3⟩:=i6 w m true hc gj;obtain⟨S',E,v,U,sr,O,X,pv,hE,QF⟩:=BL h w hc x Q u N (by omega);refine⟨S',E,C,v,au rfl ?_,sr,O,λp s=>(hC p s).app w,⟨fj r,fj m,X,by omega,λth e k=>?_⟩,by omega,by omega⟩
  ·unfold cM;simp only[false_eq_true,if_false,if_true] at z D;simp[RA,O4,Ya,e1,z,D,U]
  refine QF th e ?_;have Z:sel th f i j<G.length:=by unfold sel;split<;>assumption
  have k:=w.back Z k;unfold sel at k ⊢;cases ht:th f with
  |false=>rw[ht] at k;exact(a3 th e ht (by simpa using k)).mono E
  |true=>rw[ht] at k;exact(b3 th e ht (by simpa using k)).mono E
 rw[decide_eq_false W] at hq;have Kh:¬ ((f:Int)=c):=by omega
 have R:o.idxOf f<o.idxOf c:=by
  rcases Nat.lt_or_eq_of_le gc with q |q
  ·exact q
  exfalso;apply W;have x:=getElem_idxOf (idxOf_lt_length_iff.mpr t);have u:=getElem_idxOf (idxOf_lt_length_iff.mpr hc);rw[← x,← u];congr 1
 have z:=i7 h r f false;have D:=i7 h m f false;obtain⟨x,u,a3⟩:=i6 w r false t gi;obtain⟨Q,N,b3⟩:=i6 w m false t gj;obtain⟨S1,d,C1,a,U,A,Y,R6,T,l1,m1⟩:=IH h w hC hc x Q (Gj s R u N) (half hz P) (half Rz P);obtain⟨_,_,va,pa,Wv⟩:=T;have Yb:Jd.pl o (G++d) i=Jd.pl o G i:=cz r;have Yc:Jd.pl o (G++d) j=Jd.pl o G j:=cz m;have J:i<(G++d).length:=fj r;have M:j<(G++d).length:=fj m;have UT:(G++d).length=G.length+d.length:=List.length_append;have t1:=i7 A J f true;have t2:=i7 A M f true;obtain⟨c1,c2,c3⟩:=i6 Y J true t (Yb▸gi);obtain⟨d1,d2,d3⟩:=i6 Y M true t (Yc▸gj);have nm3:=A.has "side" (by decide);have nm4:=A.has "choose" (by decide);obtain⟨S2,g,C2,b,q2,RC,O,Ww,V,l2,m2⟩:=IH A Y R6 hc c1 d1 (Gj s R c2 d2) (Gv hz P l1 p1 UT) (Gu Rz P m1 p1);obtain⟨_,_,vb,pb,Wx⟩:=V;have nm5:=RC.has "number_of_ask" (by decide);have Yd:(G++d++g).length=G.length+d.length+g.length:=by rw[List.length_append,UT]
 rw[cz x,cz Q] at pa;rw[cz c1,cz d1] at pb;have ga:o.idxOf f<Jd.pl o (G++d++g) a:=by rw[cz va];exact lt_of_lt_of_le (lt_min.mpr ⟨R,lt_min.mpr ⟨u,N⟩⟩) pa
 have gb:o.idxOf f<Jd.pl o (G++d++g) b:=lt_of_lt_of_le (lt_min.mpr ⟨R,lt_min.mpr ⟨c2,d2⟩⟩) pb;obtain⟨S3,l,v,q3,Wy,w3,X,pv,l3,QF⟩:=BL RC O (c:=f) (a:=a) (b:=b) t (fj va) vb ga gb (by omega);have H:G++(d++g++l)=G++d++g++l:=by simp
 have lG3:(G++d++g++l).length=G.length+d.length+g.length+l.length:=by rw[List.length_append,Yd]
 refine⟨S3,d++g++l,C2,v,au rfl ?_,by rw[H];exact Wy,by rw[H];exact w3,λp s=>by rw[H];exact(Ww p s).app O,?_,by rw[List.length_append,List.length_append];omega,by omega⟩
 ·unfold cM;simp only[false_eq_true,if_false,if_true] at z D t1 t2;simp[RA,Ya,hm4,e1,Kh,z,D,U,nm3,nm4,t1,t2,q2,nm5,q3]
 rw[H];have px:Jd.pl o (G++d++g++l) i=Jd.pl o G i:=by rw[cz (fj J),cz J,Yb]
 have py:Jd.pl o (G++d++g++l) j=Jd.pl o G j:=by rw[cz (fj M),cz M,Yc]
 refine⟨fj (fj J),fj (fj M),X,by rw[px,py,← I];exact pv,λth e k=>?_⟩;refine QF th e ?_;have Z:sel th c i j<G.length:=by unfold sel;split<;>assumption
 have k:Ev G th (sel th c i j) e:=w.back (E:=d++g++l) Z (by rw[H];exact k);cases ht:th f with
 |false =>
  have:Ev (G++d) th (sel th c (sd G i f false) (sd G j f false)) e:=by
   unfold sel at k ⊢;by_cases K:th c=true
   ·rw[if_pos K] at k ⊢;exact(b3 th e ht k).mono d
   rw[if_neg K] at k ⊢;exact(a3 th e ht k).mono d
  have:=Wv th e this;show Ev _ th (if th f=true then b else a) e;rw[ht];exact(this.mono g).mono l
 |true =>
  have y:Ev (G++d) th (sel th c i j) e:=k.mono d
  have:Ev (G++d++g) th (sel th c (sd (G++d) i f true) (sd (G++d) j f true)) e:=by
   unfold sel at y ⊢;by_cases K:th c=true
   ·rw[if_pos K] at y ⊢;exact(d3 th e ht y).mono g
   rw[if_neg K] at y ⊢;exact(c3 th e ht y).mono g
  have:=Wx th e this;show Ev _ th (if th f=true then b else a) e;rw[ht];exact this.mono l
theorem qz (nd:o.Nodup):∀ (n:Nat) {S:IL}{G:List Row}{C:List (Row×Nat)}{c i j:Nat},SR B S L o G C->Wf o G->(∀ p∈C,Lv o G p.1 p.2)->c∈o->i<G.length->j<G.length->o.idxOf c<n+min (o.idxOf c) (min (Jd.pl o G i) (Jd.pl o G j))->G.length+2 ^ n<=16000000->C.length+2 ^ n<=16000000->wN B L o G C c i j (2 ^ n-1) (2 ^ n-1) (dM n [.loc L,.int c,.int i,.int j] S)
 | 0,S,G,C,c,i,j,h,w,d,hc,m,D,g,H,F=>absurd g (by omega)
 |n+1,S,G,C,c,i,j,h,w,d,hc,m,D,g,H,F=>by
  have u:=ki (r:=.ask c i j) trivial;have N:∀ p∈C,de p.1:=λp g=>pR (d p g);have l:=Dp N (r:=.ask c i j) trivial;have y:Ln [.int c,.int i,.int j] (.tup [.int c,.int i,.int j])=some (.tup [.int c,.int i,.int j]):=bH (by simp);have V : 1<=2 ^ n:=one_le_two_pow;have U : 2 ^ (n+1)=2*2 ^ n:=by rw[pow_succ];omega
  have s:aE (.ask c i j) = .tup [.int c,.int i,.int j]:=rfl;cases hf:C.find? (λp=>decide (p.1=Row.ask c i j)) with
  |some p =>
   rw[hf] at l;have M:=List.mem_of_find?_eq_some hf;have x:p.1 = .ask c i j:=by simpa using List.find?_some hf
   have b:=d p M;rw[x] at b;have e:n8 true (aE (.ask c i j)) (.loc (L+3)) S=some (.bl false):=by unfold n8;simp only[h.N5,u,dG,if_true,l];rfl
   have a:iF (.loc (L+3)) (aE (.ask c i j)) S=some (.int (p.2:Nat)):=by unfold iF;simp only[h.N5,u,dG,if_true,l];rfl
   rw[s] at e a;refine⟨S,[],C,p.2,au rfl ?_,by rw[append_nil];exact h,by rw[append_nil];exact w,by rw[append_nil];exact d,by rw[append_nil];exact b,by simp,by omega⟩;unfold dH;simp[y,h.MK,e,a]
  |none =>
   rw[hf] at l;have e:n8 true (aE (.ask c i j)) (.loc (L+3)) S=some (.bl true):=by unfold n8;simp only[h.N5,u,dG,if_true,l];rfl
   rw[s] at e;have Q:=h.has "choose_anew" (by decide);by_cases P:i=j
   ·subst P;have b:Lv o G (.ask c i i) i:=⟨m,m,m,by omega,λth R k=>by unfold sel at k;simpa using k⟩;obtain⟨t,ep,f,a⟩:=h.put d c i i i (by omega) [some (.loc L),some (.int c),some (.int i),some (.int i),some (.tup [.int c,.int i,.int i])];rw[s] at ep a;have pl:=tD C (.ask c i i) i;refine⟨t,[],mO C (.ask c i i) i,i,au rfl ?_,by rw[append_nil];exact f,by rw[append_nil];exact w,by rw[append_nil];exact tF d b,by rw[append_nil];exact b,by simp,by omega⟩;unfold dH;simp[y,h.MK,e,ep,f.MK,a]
   have K:¬ ((i:Int)=j):=by omega
   obtain⟨T,E,I,v,q,A,O,z,b,J,W⟩:=DB nd (λ{S G C c i j}=>qz nd n (S:=S) (G:=G) (C:=C) (c:=c) (i:=i) (j:=j)) h w d hc m D g H F;obtain⟨t,ep,f,a⟩:=A.put z c i j v (by omega) [some (.loc L),some (.int c),some (.int i),some (.int j),some (.tup [.int c,.int i,.int j])];rw[s] at ep a;have pl:=tD I (.ask c i j) v;refine⟨t,E,mO I (.ask c i j) v,v,au rfl ?_,f,O,tF z b,b,J,by omega⟩;unfold dH;simp[y,h.MK,e,K,Q,q,A.MK,ep,f.MK,a]
end
inductive KQ (m:Nat):Nat->D->Prop
 |leaf {k:Nat}{ss:List Str}:(∀ x∈ss,dQ x=true)->Qa ss=true->ss.length<=6->KQ m k (aE (.leaf ss))
 |ask {k c:Nat}{x y:D}:c<m->KQ m k x->KQ m k y->KQ m (k+1) (.tup [.str "ask",.int c,x,y])
inductive Kv (th:Th):D->List Str->Prop
 |leaf {ss:List Str}:Kv th (aE (.leaf ss)) ss
 |no {c:Nat}{x y:D}{ss:List Str}:th c=false->Kv th x ss->Kv th (.tup [.str "ask",.int c,x,y]) ss
 |yes {c:Nat}{x y:D}{ss:List Str}:th c=true->Kv th y ss->Kv th (.tup [.str "ask",.int c,x,y]) ss
theorem eqs (w s:Str):K0 (.str w) (.str s)=some (.bl (decide (w=s))):=by rw[Bo rfl];rfl
theorem xP:¬ ("ask":Str)="names":=by decide
section
variable {B:Nat->Option MO}{L:Nat}{o:List Nat}
theorem CV (nd:o.Nodup)(hl:o.length<=8){m:Nat}(ho:∀ c,c<m->c∈o){k:Nat}{d:D}(hd:KQ m k d):∀ (fuel:Nat) {S:IL}{G:List Row}{C:List (Row×Nat)},k<fuel->SR B S L o G C->Wf o G->(∀ p∈C,Lv o G p.1 p.2)->G.length+512*2 ^ (k+1)<=16000000->C.length+512*2 ^ (k+1)<=16000000 ->
  ∃ F E N r,cG fuel [.loc L,d] S=IX (.int (r:Nat)) F/\SR B F L o (G++E) N/\Wf o (G++E)/\(∀ p∈N,Lv o (G++E) p.1 p.2)/\r<(G++E).length/\E.length+512<=512*2 ^ (k+1)/\N.length+512<=C.length+512*2 ^ (k+1)/\∀ th ss,Kv th d ss->Ev (G++E) th r ss:=by
 induction hd with
 | @leaf k ss X h2 _ =>
  intro fuel S G C hf h w H hz Rz;obtain⟨fuel,rfl⟩:∃ f,fuel=f+1:=⟨fuel-1,by omega⟩;have p1 : 1<=2 ^ k:=one_le_two_pow;have p2 : 2 ^ (k+1)=2*2 ^ k:=by rw[pow_succ];omega
  obtain⟨F,E,i,O,V,J,T,hE⟩:=pV h w (r:=.leaf ss) ⟨X,h2⟩ (by omega);have K:=h.has "number_of" (by decide);have W:JT (aE (.leaf ss)) (.int 0) S=some (.str "names"):=OP _ _ S;have s:=eqs "names" "names";rw[decide_eq_true rfl] at s;refine⟨F,E,C,i,au rfl ?_,V,J,λp Z=>(H p Z).app w,(List.getElem?_eq_some_iff.mp T).1,by omega,by omega,λth Og k=>?_⟩
  ·unfold dW;simp[W,s,K,O]
  generalize z:aE (.leaf ss)=D0 at k;cases k with
  |leaf =>
   have hs:ss=Og:=by simp only[aE,D.tup.injEq,List.cons.injEq,and_true,true_and] at z;exact(List.map_inj_right (λa b h=>by cases h;rfl)).mp z
   subst hs;exact .leaf T
  |no=>simp[aE] at z
  |yes=>simp[aE] at z
 | @ask k c x y hc _ _ ix iy =>
  intro fuel S G C hf h w H hz Rz;obtain⟨fuel,rfl⟩:∃ f,fuel=f+1:=⟨fuel-1,by omega⟩;have p1 : 1<=2 ^ (k+1):=one_le_two_pow;have p2 : 2 ^ (k+1+1)=2*2 ^ (k+1):=by rw[pow_succ];omega
  obtain⟨S1,g,C1,u,O,My,w1,R6,v1,l1,m1,Wz⟩:=ix fuel (by omega) h w H (by omega) (by omega);have UT:(G++g).length=G.length+g.length:=List.length_append;obtain⟨S2,l,C2,A,e2,RC,J,Ww,v2,l2,m2,WA⟩:=iy fuel (by omega) My w1 R6 (by omega) (by omega);have Yd:(G++g++l).length=G.length+g.length+l.length:=by rw[List.length_append,UT]
  have Q:=ho c hc;have RX:o.idxOf c<o.length:=idxOf_lt_length_iff.mpr Q;have K:=h.has "choose" (by decide);obtain⟨S3,n,R,v,q3,Wy,w3,I,Y,U,P⟩:=qz nd 9 RC J Ww Q (i:=u) (j:=A) (by omega) v2 (by omega) (by show _+512<=_;omega) (by show _+512<=_;omega);obtain⟨_,_,vv,_,QF⟩:=Y;have U:n.length<=511:=U;have P:R.length<=C2.length+511:=P;have t:G++(g++l++n)=G++g++l++n:=by simp
  have a0:JT (.tup [.str "ask",.int c,x,y]) (.int 0) S=some (.str "ask"):=OP _ _ S;have s:=eqs "ask" "names";rw[decide_eq_false xP] at s;refine⟨S3,g++l++n,R,v,au rfl ?_,by rw[t];exact Wy,by rw[t];exact w3,by rw[t];exact I,by rw[t];exact vv,by rw[List.length_append,List.length_append];omega,by omega,λth ss q=>?_⟩
  ·unfold dW;simp[OP,Qb,at2,X5,s,K,O,e2,q3]
  rw[t];refine QF th ss ?_;cases q with
  |no M q =>
   have:Ev (G++g++l) th u ss:=(Wz th ss q).mono l;have e:sel th c u A=u:=by unfold sel;rw[M];rfl
   rw[e];exact this.mono n
  |yes M q =>
   have e:sel th c u A=A:=by unfold sel;rw[M];rfl
   rw[e];exact(WA th ss q).mono n
end
inductive Tr where
 |leaf (ss:List Str)
 |node (c:Nat) (n y:Tr)
 deriving DecidableEq
def Nw:Tr->Th->List Str
 | .leaf a,_=>a
 | .node c n y,th=>if th c=true then Nw y th else Nw n th
def tp (o:List Nat):Tr->Nat
 | .leaf _=>o.length
 | .node c _ _=>o.idxOf c
def Ord (o:List Nat):Tr->Prop
 | .leaf _=>True
 | .node c n y=>c∈o/\Ord o n/\Ord o y/\o.idxOf c<tp o n/\o.idxOf c<tp o y/\n≠y
def QG:Tr->Nat
 | .leaf _ => 1
 | .node _ n y=>QG n+QG y+1
noncomputable def upd (th:Th) (c:Nat) (b:Bool):Th:=λx=>if x=c then b else th x
theorem IY (th:Th)(c:Nat)(b:Bool):upd th c b c=b:=by simp[upd]
inductive Un (G:List Row):Nat->Tr->Prop
 |leaf {i:Nat}{ss:List Str}:G[i]?=some (.leaf ss)->Un G i (.leaf ss)
 |node {i c n y:Nat}{s t:Tr}:G[i]?=some (.ask c n y)->Un G n s->Un G y t->Un G i (.node c s t)
theorem Un.det {G:List Row}{i:Nat}{s t:Tr}(h:Un G i s)(g:Un G i t):s=t:=by
 induction h generalizing t with
 |leaf h=>cases g with
  |leaf c=>rw[h] at c;cases c;rfl
  |node c=>rw[h] at c;cases c
 |node h _ _ e d=>cases g with
  |leaf c=>rw[h] at c;cases c
  |node c a b=>rw[h] at c;cases c;rw[e a,d b]
theorem Un.ev {G:List Row}{i:Nat}{t:Tr}(h:Un G i t)(th:Th):Ev G th i (Nw t th):=by
 induction h with
 |leaf h=>exact .leaf h
 | @node i c n y s t h _ _ b a =>
  cases ht:th c with
  |false=>exact .no h ht (by rw[Nw,ht];exact b)
  |true=>exact .yes h ht (by rw[Nw,ht];exact a)
theorem Wf.un {o:List Nat}{G:List Row}(w:Wf o G):∀ (i:Nat),i<G.length->∃ t,Un G i t:=by
 intro i
 induction i using Nat.strongRecOn with
 |_ i a =>
  intro g;have e:G[i]?=some G[i]:=List.getElem?_eq_getElem g;have q:=w.row i _ e;cases hr:G[i] with
  |leaf j=>rw[hr] at e;exact⟨_,.leaf e⟩
  |ask c n y =>
   rw[hr] at e q;obtain⟨_,h,b,_⟩:=q;obtain⟨s,f⟩:=a n h (by omega);obtain⟨t,d⟩:=a y b (by omega);exact⟨_,.node e f d⟩
theorem Un.inj {G:List Row}(nd:G.Nodup){i:Nat}{t:Tr}(h:Un G i t):∀ {j:Nat},Un G j t->i=j:=by
 have key:∀ {a b:Nat}{r:Row},G[a]?=some r->G[b]?=some r->a=b:=by intro a b r f hb;have m:=(List.getElem?_eq_some_iff.mp f).1;have n:=(List.getElem?_eq_some_iff.mp hb).1;have o:=(List.getElem?_eq_some_iff.mp f).2;have l:=(List.getElem?_eq_some_iff.mp hb).2;have d:=nd.idxOf_getElem a m;have c:=nd.idxOf_getElem b n;rw[← d,← c,o,l]
 induction h with
 |leaf h=>intro j g;cases g with
  |leaf e=>exact key h e
 |node h _ _ d c=>intro j g;cases g with
  |node e a b =>
   have k:=d a;have p:=c b;subst k p;exact key h e
theorem Un.pl {o:List Nat}{G:List Row}{i:Nat}{t:Tr}(h:Un G i t):Jd.pl o G i=tp o t:=by
 unfold Jd.pl;cases h with
 |leaf h=>rw[h];rfl
 |node h _ _=>rw[h];rfl
def po:Tr->List Tr->List Tr
 | .leaf b,a=>if Tr.leaf b∈a then a else a++[.leaf b]
 | .node c n y,a=>if Tr.node c n y∈a then a else po y (po n a)++[.node c n y]
def Ho (P:List Tr):Tr->Row
 | .leaf a => .leaf a
 | .node c n y => .ask c (P.idxOf n) (P.idxOf y)
def enc (P:List Tr):List Row:=P.map (Ho P)
open Classical in
noncomputable def uT (G:List Row) (i:Nat):Tr:=if h:∃ t,Un G i t then Classical.choose h else .leaf []
theorem Un.uT {G:List Row}{i:Nat}{t:Tr}(h:Un G i t):Jd.uT G i=t:=by unfold Jd.uT;have e:∃ t,Un G i t:=⟨t,h⟩;rw[dif_pos e];exact(Classical.choose_spec e).det h
theorem Wf.uT {o:List Nat}{G:List Row}(w:Wf o G){i:Nat}(a:i<G.length):Un G i (Jd.uT G i):=by obtain⟨t,h⟩:=w.un i a;rw[h.uT];exact h
theorem vq {o:List Nat}{G:List Row}(w:Wf o G){i j:Nat}(a:i<G.length)(b:j<G.length)(h:Jd.uT G i=Jd.uT G j):i=j:=
 Un.inj w.nd (w.uT a) (h▸w.uT b)
theorem zP {o:List Nat}{G:List Row}(w:Wf o G){a:List Nat}(c:∀ i∈a,i<G.length){j:Nat}(d:j<G.length)(h:Jd.uT G j∈a.map (Jd.uT G)):j∈a:=by obtain⟨k,b,e⟩:=mem_map.mp h;rw[← vq w (c k b) d e];exact b
theorem rj {t:Tr}{a:List Tr}(h:t∈a):po t a=a:=by cases t<;>(unfold po;rw[if_pos h])
theorem rm {ss:List Str}{a:List Tr}(h:Tr.leaf ss∉a):po (.leaf ss) a=a++[.leaf ss]:=by unfold po;rw[if_neg h]
theorem rh {c:Nat}{n y:Tr}{a:List Tr}(h:Tr.node c n y∉a):po (.node c n y) a=po y (po n a)++[.node c n y]:=by rw[po,if_neg h]
def lf (a:List Nat):List (D×D):=a.map λ(k:Nat)=>(D.int k,D.bl true)
theorem i8 (a b:Nat):eV (.int a) (.int b)=decide (a=b):=by
 unfold eV;by_cases h:a=b
 ·simp[h]
 rw[decide_eq_false h];have:¬ ((a:Int)=b):=by omega
 simp[eA,this]
theorem xk (k:Nat):∀ b:List Nat,((lf b).find? λp=>eV p.1 (.int k)).isSome=decide (k∈b)
 |[]=>by simp[lf]
 |a::b=>by
  have c:=xk k b;unfold lf at c ⊢;rw[map_cons,find?_cons];simp only[i8];by_cases h:a=k
  ·simp[h]
  rw[decide_eq_false h];simp only;rw[c];have:¬ k=a:=λe=>h e.symm;simp[this]
theorem ES (k:Nat)(b:List Nat):((lf b).any λp=>eV p.1 (.int k))=decide (k∈b):=by
 induction b with
 |nil=>simp[lf]
 |cons a b c =>
  unfold lf at c ⊢;rw[map_cons,any_cons,c,i8];by_cases h:a=k
  ·simp[h]
  have:¬ k=a:=λe=>h e.symm;simp[h,this]
theorem ER {k:Nat}{a:List Nat}(h:k∉a):putD (lf a) (.int k) (.bl true)=lf (a++[k]):=by unfold putD;rw[ES,decide_eq_false h,if_neg (by decide)];unfold lf;rw[map_append];rfl
theorem Gk {S:IL}{l:Nat}{a:List Nat}(h:S[l]?=some (.dict (lf a)))(k:Nat):Pr true (.int k) (.loc l) S=some (.bl (!decide (k∈a))):=by unfold Pr;rw[if_pos rfl];unfold Dl;simp only[h,eA];unfold getD;rw[isSome_map,xk];rfl
structure Cl (G:List Row) (Ls:List Nat):Prop where
 nd:Ls.Nodup
 lt:∀ i∈Ls,i<G.length
 dn:∀ (p i c n y:Nat),Ls[p]?=some i->G[i]?=some (.ask c n y)->n∈Ls.take p/\y∈Ls.take p
theorem Cl.snoc {G:List Row}{d:List Nat}(h:Cl G d){j:Nat}(g:j<G.length)(k:j∉d)(hc:∀ c n y,G[j]?=some (.ask c n y)->n∈d/\y∈d):Cl G (d++[j]):=by
 refine⟨nodup_append.mpr ⟨h.nd,by simp,λa l b hb=>?_⟩,λi hi=>?_,λp i c n y e f=>?_⟩
 ·rw[mem_singleton.mp hb];rintro rfl;exact k l
 ·rcases mem_append.mp hi with hi |hi
  ·exact h.lt i hi
  rw[mem_singleton.mp hi];exact g
 rcases Nat.lt_trichotomy p d.length with hl |hl |hl
 ·rw[getElem?_append_left hl] at e;rw[List.take_append_of_le_length (Nat.le_of_lt hl)];exact h.dn p i c n y e f
 ·subst hl;have:i=j:=by simpa using e.symm
  subst this;rw[List.take_append_of_le_length (le_refl _),take_length];exact hc c n y f
 rw[getElem?_append_right (by omega)] at e;have:([j]:List Nat)[p-d.length]?=none:=by rw[List.getElem?_eq_none_iff];simp;omega
 rw[this] at e;cases e
section
variable {L:Nat}{o:List Nat}{G:List Row}
theorem uW (r:Row)(S:IL):cr [aE r] S=IX (.tup (match r with | .leaf _=>[] | .ask _ n y=>[.int n,.int y])) S:=by
 have a:=kL r S;refine au rfl ?_;unfold ko;cases r with
 |leaf d =>
  have b:Ln [] (.tup [])=some (.tup []):=bH (by simp);simp[a,b]
 |ask c n y =>
  have:M8 (aE (.ask c n y)) (some 1) none=some (.tup [.int n,.int y]):=rfl;simp[a,v_,this]
def xT (F:IK)(w:Nat)(N:Nat)(G:List Row)(o:List Nat)(g:Nat):Prop:=
 ∀ (j:Nat) (a:List Nat) (S:IL) (l:Nat),o.length+1<=w+Jd.pl o G j->j<G.length->j∉a->S[g]?=some (.lst (G.map aE))->S[l]?=some (.dict (lf a))->g≠l->Cl G a->a.length+N<=10000 ->
  ∃ X,F [.loc g,.int j,.loc l] S=IX .Ji (S.set l (.dict (lf (a++X++[j]))))/\Cl G (a++X++[j])/\(∀ x∈X,x<j)/\X.length+1<=N/\(a++X++[j]).map (Jd.uT G)=po (Jd.uT G j) (a.map (Jd.uT G))
theorem oh {F:IK}{w N g:Nat}(f:xT F w N G o g)(j k:Nat)(a:List Nat)(S:IL)(l:Nat)(r:o.length+1<=w+Jd.pl o G k)(m:k<G.length)(n:S[g]?=some (.lst (G.map aE)))(d:S[l]?=some (.dict (lf a)))(p:g≠l)(hc:Cl G a)(t:a.length+N<=10000) :
  ∃ X,bT F [some (.loc g),some (.int j),some (.loc l),some (.int k)] S=IX (.next [some (.loc g),some (.int j),some (.loc l),some (.int k)]) (S.set l (.dict (lf (a++X))))/\Cl G (a++X)/\(∀ x∈X,x<=k)/\k∈a++X/\X.length<=N/\(a++X).map (Jd.uT G)=po (Jd.uT G k) (a.map (Jd.uT G)):=by
 have c:=Gk d k;by_cases b:k∈a
 ·rw[decide_eq_true b] at c
  have v:S.set l (.dict (lf (a++[])))=S:=by
   rw[append_nil];apply ext_getElem?;intro i;by_cases e:l=i
   ·subst e;rw[fM d,d]
   rw[cH e]
  refine⟨[],?_,by rw[append_nil];exact hc,(λx hx=>by cases hx),by rw[append_nil];exact b,by simp,by rw[append_nil,rj (List.mem_map_of_mem b)]⟩;rw[v];unfold bT;simp[c]
 rw[decide_eq_false b] at c;obtain⟨X,q,h,s,nx,u⟩:=f k a S l r m b n d p hc t;refine⟨X++[k],?_,by rw[← List.append_assoc];exact h,λx hx=>?_,by simp,by simpa using nx,by rw[← List.append_assoc];exact u⟩
 ·unfold bT;simp[c,q]
 rcases mem_append.mp hx with hx |hx
 ·exact Nat.le_of_lt (s x hx)
 rw[mem_singleton.mp hx];exact le_refl _
theorem ub (w:Wf o G)(g:Nat):∀ fuel:Nat,xT (bj fuel) fuel (2 ^ fuel-1) G o g
 | 0,j,a,S,l,C,_,_,_,_,_,_,_=>absurd C (by have:=F5 o G j;omega)
 |n+1,j,a,S,l,C,hj,hnm,hg,hl,O_,hc,hN=>by
  have B:=ub w g n;have p2 : 2 ^ (n+1)=2*2 ^ n:=by rw[pow_succ];omega
  have p1 : 1<=2 ^ n:=one_le_two_pow;have e:G[j]?=some G[j]:=List.getElem?_eq_getElem hj;have q:=w.row j _ e;have Q:cL (.loc g) S=some (G.map aE):=by unfold cL;simp only[hg]
  have t:lA (.loc g) (.int j) S=some (aE G[j]):=by show ((cL (.loc g) S).bind λN=>Mo N (j:Int))=_;rw[Q,bind_some];exact bD (by rw[getElem?_map,e];rfl)
  have u:=uW G[j] S;have I:bP (.loc g)=true:=rfl;have X:∀ k:Nat,eA (.int k)=some (.inl (k:Int)):=λk=>rfl
  have finish:∀ (d:List Nat) (s:IL) (z:Option D),s=S.set l (.dict (lf d))->j∉d->d.length<=20000->wD (af 2) (af 1) (aF (.bl true)) [some (.loc g),some (.int j),some (.loc l),z] s=IX (.next [some (.loc g),some (.int j),some (.loc l),z]) (S.set l (.dict (lf (d++[j])))):=by
   intro d s z F Y r;have T:s[l]?=some (.dict (lf d)):=by rw[F];exact fM hl
   have W:(lf d).length<sizeLine:=by unfold lf;rw[length_map];exact Nat.lt_of_le_of_lt r (by decide)
   have:tx (.loc l) (.int j) (.bl true) [some (.loc g),some (.int j),some (.loc l),z] s=IX (.next [some (.loc g),some (.int j),some (.loc l),z]) (S.set l (.dict (lf (d++[j])))):=by unfold tx;simp only[T,X];rw[if_pos W,ER Y,F,List.set_set]
   simp[this]
  cases hr:G[j] with
  |leaf E =>
   rw[hr] at u t
   have fin:=finish a S none (by
    apply ext_getElem?;intro i;by_cases J:l=i
    ·subst J;rw[fM hl,hl]
    rw[cH J]) hnm (by omega)
   have f:Jd.uT G j = .leaf E:=(Un.leaf (by rw[e,hr])).uT;have A:Tr.leaf E∉a.map (Jd.uT G):=λh=>hnm (zP w hc.lt hj (by rw[f];exact h));refine⟨[],?_,?_,(λx hx=>by cases hx),by simp;omega,by rw[append_nil,f,rm A,map_append,map_cons,map_nil,f]⟩
   ·rw[append_nil];unfold bj a8;rw[if_pos (show ([.loc g,.int j,.loc l]:List D).length=3 from rfl)]
    have:dR (bj n) ([.loc g,.int j,.loc l].map some++replicate 1 none) S=IX (.next [some (.loc g),some (.int j),some (.loc l),none]) (S.set l (.dict (lf (a++[j])))):=by
     unfold dR;show aO _ _ [some (.loc g),some (.int j),some (.loc l),none] S=_;rw[DP];have:iU (bt (aR cr (ah (zE (af 0) (af 1)) aB))) (aD 3) (bT (bj n)) [some (.loc g),some (.int j),some (.loc l),none] S=IX (.next [some (.loc g),some (.int j),some (.loc l),none]) S:=by simp[I,t,u,bU,fO]
     rw[this];exact fin
    rw[this];rfl
   rw[append_nil];exact hc.snoc hj hnm λc n y h=>by rw[e,hr] at h;cases h
  |ask c v p =>
   rw[hr] at u t q;obtain⟨_,b1,b2,Z,b4,_⟩:=q;have pj:Jd.pl o G j=o.idxOf c:=by unfold Jd.pl;rw[e,hr]
   obtain⟨b,R,P,K,m1,n1,t1⟩:=oh B j v a S l (by omega) (by omega) hg hl O_ hc (by omega);have U:(S.set l (.dict (lf (a++b))))[g]?=some (.lst (G.map aE)):=by rw[cH (Ne.symm O_)];exact hg
   have V:(S.set l (.dict (lf (a++b))))[l]?=some (.dict (lf (a++b))):=fM hl;obtain⟨m,L,O,M,m2,n2,t2⟩:=oh B j p (a++b) _ l (by omega) (by omega) U V O_ P (by rw[List.length_append];omega);rw[List.set_set] at L
   have H:j∉a++b++m:=by
    intro hm;rcases mem_append.mp hm with hm |hm
    ·rcases mem_append.mp hm with hm |hm
     ·exact hnm hm
     have:=K j hm;omega
    have:=M j hm;omega
   have fin:=finish (a++b++m) _ (some (.int p)) rfl H (by rw[List.length_append,List.length_append];omega);have f:Jd.uT G j = .node c (Jd.uT G v) (Jd.uT G p):=(Un.node (by rw[e,hr]) (w.uT (by omega)) (w.uT (by omega))).uT;have A:Tr.node c (Jd.uT G v) (Jd.uT G p)∉a.map (Jd.uT G):=λh=>hnm (zP w hc.lt hj (by rw[f];exact h));refine⟨b++m,?_,?_,λx hx=>?_,by rw[List.length_append];omega,by rw[← List.append_assoc,map_append,t2,t1,f,rh A,map_cons,map_nil,f]⟩
   ·unfold bj a8;rw[if_pos (show ([.loc g,.int j,.loc l]:List D).length=3 from rfl)]
    have:dR (bj n) ([.loc g,.int j,.loc l].map some++replicate 1 none) S=IX (.next [some (.loc g),some (.int j),some (.loc l),some (.int p)]) (S.set l (.dict (lf (a++(b++m)++[j])))):=by
     unfold dR;show aO _ _ [some (.loc g),some (.int j),some (.loc l),none] S=_;rw[DP];have:iU (bt (aR cr (ah (zE (af 0) (af 1)) aB))) (aD 3) (bT (bj n)) [some (.loc g),some (.int j),some (.loc l),none] S=IX (.next [some (.loc g),some (.int j),some (.loc l),some (.int p)]) (S.set l (.dict (lf (a++b++m)))):=by simp[I,t,u,bU,fO,R,L]
     rw[this];simp only[cD];rw[← List.append_assoc a b m];exact fin
    rw[this];rfl
   ·rw[← List.append_assoc];refine O.snoc hj H λc' n y h=>?_;rw[e,hr] at h;cases h;exact⟨mem_append_left _ m1,m2⟩
   rcases mem_append.mp hx with hx |hx
   ·have:=K x hx;omega
   have:=M x hx;omega
end
def aS (p:Nat):List Nat->List (D×D)
 |[]=>[]
 |k::r=>(.int k,.int p)::aS (p+1) r
theorem AL:∀ (l:List Nat) (p:Nat),(aS p l).length=l.length
 |[],_=>rfl
 |k::r,p=>by rw[aS,length_cons,length_cons,AL r]
theorem AN (k:Nat):∀ (l:List Nat) (p:Nat),((aS p l).any λq=>eV q.1 (.int k))=decide (k∈l)
 |[],_=>by simp[aS]
 |a::l,p=>by
  rw[aS,any_cons,AN k l,i8];by_cases h:a=k
  ·simp[h]
  have:¬ k=a:=λe=>h e.symm;simp[h,this]
theorem AM (k:Nat):∀ (l:List Nat) (p:Nat),getD (aS p l) (.int k)=if k∈l then some (.int ((p+l.idxOf k:Nat):Int)) else none
 |[],_=>rfl
 |a::l,p=>by
  have c:=AM k l (p+1);unfold L2.getD at c ⊢;rw[aS,find?_cons];simp only[i8];by_cases h:a=k
  ·subst h;simp
  rw[decide_eq_false h];simp only;rw[c];have f:¬ k=a:=λe=>h e.symm;have d:(a==k)=false:=by simpa using h
  by_cases b:k∈l
  ·rw[if_pos b,if_pos (mem_cons_of_mem _ b),idxOf_cons,d];simp only[cond_false];congr 2;omega
  rw[if_neg b,if_neg (by rw[mem_cons];exact λq=>q.elim f b)]
theorem xf:∀ (l:List Nat) (p k:Nat),aS p (l++[k])=aS p l++[(.int k,.int ((p+l.length:Nat):Int))]
 |[],p,k=>rfl
 |a::l,p,k=>by
  rw[cons_append,aS,xf l (p+1) k,aS,cons_append,length_cons,show p+1+l.length=p+(l.length+1) by omega]
theorem EN {k:Nat}{l:List Nat}(h:k∉l):putD (aS 0 l) (.int k) (.int l.length)=aS 0 (l++[k]):=by unfold putD;rw[AN,decide_eq_false h,if_neg (by decide),xf,zero_add]
def QI (a:List Nat):Row->Row
 | .leaf b => .leaf b
 | .ask c n y => .ask c (a.idxOf n) (a.idxOf y)
def FR (a:List Nat)(G:List Row):List Row:=a.map λk=>QI a ((G[k]?).getD (.leaf []))
def Wr (o:List Nat)(G:List Row):Prop:=∀ (i:Nat) (r:Row),G[i]?=some r->LD o G i r
section
variable {B:Nat->Option MO}{L:Nat}{o:List Nat}{G:List Row}
theorem oQ {a:List Nat}(h:Cl G a){p k:Nat}(c:a[p]?=some k):∃ r,G[k]?=some r/\(FR a G)[p]?=some (QI a r):=by have b:=h.lt k (mem_of_getElem? c);refine⟨G[k],List.getElem?_eq_getElem b,?_⟩;unfold FR;rw[getElem?_map,c,map_some,List.getElem?_eq_getElem b];rfl
theorem eC {a:List Nat}{k:Nat}(h:k∈a):a[a.idxOf k]?=some k:=by have b:=idxOf_lt_length_iff.mpr h;rw[List.getElem?_eq_getElem b,getElem_idxOf b]
theorem DR {a:List Nat}(h:Cl G a){k:Nat}(c:k∈a):Jd.pl o (FR a G) (a.idxOf k)=Jd.pl o G k:=by obtain⟨r,b,d⟩:=oQ h (eC c);unfold Jd.pl;rw[b,d];cases r<;>rfl
theorem wb {a:List Nat}{k p:Nat}(h:k∈a.take p):a.idxOf k<p:=by
 have b:(a.take p).idxOf k<(a.take p).length:=idxOf_lt_length_iff.mpr h;have c:(a.take p).length<=p:=List.length_take_le ..
 have e:a.idxOf k=(a.take p).idxOf k:=by
  conv=>lhs;rw[← take_append_drop p a]
  rw[List.idxOf_append,if_pos h]
 omega
theorem GQ {a:List Nat}(w:Wf o G)(h:Cl G a):Wr o (FR a G):=by
 intro p r b;have JQ:p<a.length:=by have:=(List.getElem?_eq_some_iff.mp b).1;simpa [FR] using this
 obtain⟨l,d,u⟩:=oQ h (List.getElem?_eq_getElem JQ);rw[u] at b;cases b;have q:=w.row _ _ d;cases l with
 |leaf x=>exact q
 |ask c n y =>
  obtain⟨j,v,z,k,t,m⟩:=q;obtain⟨f,i⟩:=h.dn p _ c n y (List.getElem?_eq_getElem JQ) d;have m1:=mem_of_mem_take f;have m2:=mem_of_mem_take i;refine⟨j,wb f,wb i,by rw[DR h m1];exact k,by rw[DR h m2];exact t,λe=>m ?_⟩;have g:=eC m1;have s:=eC m2;rw[e,s] at g;exact(Option.some.inj g).symm
theorem GR {g:List Nat}(h:Cl G g){th:Th}{i:Nat}{ss:List Str}(e:Ev G th i ss):i∈g->Ev (FR g G) th (g.idxOf i) ss:=by
 induction e with
 | @leaf i ss b =>
  intro d;obtain⟨r,a,f⟩:=oQ h (eC d);rw[b] at a;cases a;exact .leaf f
 | @no i c n y ss b j _ k =>
  intro d;obtain⟨r,a,f⟩:=oQ h (eC d);rw[b] at a;cases a;obtain⟨l,m⟩:=h.dn _ _ c n y (eC d) b;exact .no f j (k (mem_of_mem_take l))
 | @yes i c n y ss b j _ k =>
  intro d;obtain⟨r,a,f⟩:=oQ h (eC d);rw[b] at a;cases a;obtain⟨l,m⟩:=h.dn _ _ c n y (eC d) b;exact .yes f j (k (mem_of_mem_take m))
theorem yY (w:Wf o G)(r:o.length<=8){S:IL}{g i:Nat}(a:S[g]?=some (.lst (G.map aE)))(m:i<G.length):∃ X,fH [.loc g,.int i] S=IX (.lst ((X++[i]).map λ(k:Nat)=>D.int k)) (S++[.dict (lf (X++[i]))])/\Cl G (X++[i])/\X.length<=1022/\(X++[i]).map (Jd.uT G)=po (Jd.uT G i) []:=by
 have e:g<S.length:=(List.getElem?_eq_some_iff.mp a).1;have f:(S++[MO.dict (lf [])])[g]?=some (.lst (G.map aE)):=by rw[getElem?_append_left e];exact a
 have j:(S++[MO.dict (lf [])])[S.length]?=some (.dict (lf [])):=by simp
 obtain⟨X,q,c,_,n,b⟩:=ub w g 10 i [] (S++[.dict (lf [])]) S.length (by omega) m (by simp) f j (by omega) ⟨nodup_nil,(λi h=>by cases h),(λp i c n y h=>by simp at h)⟩ (by decide);rw[nil_append] at q c b;have es:(S++[MO.dict (lf [])]).set S.length (.dict (lf (X++[i])))=S++[.dict (lf (X++[i]))]:=by simp
 rw[es] at q;have n:X.length<=1022:=by have:X.length+1<=1023:=n;omega
 have q:bj 10 [.loc g,.int i,.loc S.length] (S++[.dict []])=IX .Ji (S++[.dict (lf (X++[i]))]):=q;have l:(lf (X++[i])).length<=sizeLine:=by unfold lf;rw[length_map,List.length_append];exact Nat.le_trans (show X.length+1<=2000 by omega) (by decide)
 have d:gr (.loc S.length) (S++[.dict (lf (X++[i]))])=some (.lst ((X++[i]).map λ(k:Nat)=>D.int k)):=by unfold gr;simp only[List.getElem?_concat_length];rw[if_pos l];unfold lf;rw[map_map];rfl
 refine⟨X,au rfl ?_,c,n,b⟩;unfold iJ;simp[q,d,-map_append]
theorem BZ {S:IL}{l:Nat}{a:List Nat}(i:S[l]?=some (.dict (aS 0 a)))(r:Row)(hr:∀ c n y,r = .ask c n y->n∈a/\y∈a):fG [aE r,.loc l] S=IX (aE (QI a r)) S:=by
 have b:=kL r S;refine au rfl ?_;unfold iI;cases r with
 |leaf o=>simp[b,QI]
 |ask c n y =>
  obtain⟨h,g⟩:=hr c n y rfl;have f:JT (aE (.ask c n y)) (.int 0) S=some (.int c):=OP _ _ S;have d:JT (aE (.ask c n y)) (.int 1) S=some (.int n):=Qb _ _ _ S;have j:JT (aE (.ask c n y)) (.int 2) S=some (.int y):=at2 _ _ _ _ S;have gt:∀ k,k∈a->JT (.loc l) (.int (k:Nat)) S=some (.int (a.idxOf k:Nat)):=λk e=>by have:=AM k a 0;rw[if_pos e,zero_add] at this;unfold JT;rw[if_pos (show bP (.loc l)=true from rfl)];unfold xF;simp only[i,eA];exact this
  have m:Ln [.int c,.int (a.idxOf n:Nat),.int (a.idxOf y:Nat)] (.tup [.int c,.int (a.idxOf n:Nat),.int (a.idxOf y:Nat)])=some (aE (QI a (.ask c n y))):=bH (by simp);simp[b,f,d,j,gt n h,gt y g,m];rfl
theorem fold_eq {S:IL}{C:List (Row×Nat)}(h:SR B S L o G C)(w:Wf o G)(Q:o.length<=8){i:Nat}(hi:i<G.length):∃ f l,dE [.loc L,.int i] S=IX (.tup ((FR (f++[i]) G).map aE)) l/\Cl G (f++[i])/\f.length<=1022/\(f++[i]).map (Jd.uT G)=po (Jd.uT G i) []/\∃ x y,l=S++[x,y]:=by
 obtain⟨X,q,c,nX,U⟩:=yY w Q h.R5 hi;generalize r:X++[i]=f at *
 have lLs:f.length<=1023:=by rw[← r,List.length_append];simp;omega
 generalize J:S++[MO.dict (lf f)]=S1 at *
 have m:SR (λi=>S1[i]?) S1 L o G C:=by
  have JL:L+3<S.length:=(List.getElem?_eq_some_iff.mp h.N5).1;refine⟨?_,?_,?_,?_,λ_ _=>rfl⟩<;>rw[← J,getElem?_append_left (by omega)]
  ·exact h.obj
  ·exact h.R5
  ·exact h.num
  exact h.N5
 have F:L+3<S1.length:=(List.getElem?_eq_some_iff.mp m.N5).1;have kd:∀ k:Nat,eA (.int k)=some (.inl (k:Int)):=λk=>rfl
 obtain⟨R,l,M,I⟩:=bZ (u:=kX 2 (a_ (aD 4) (a_ (aD 5) g9))) (body:=cN)
  (λp g l=>p<=f.length/\l=S1++[.dict (aS 0 (f.take p))]/\∃ a b,g=[some (.loc L),some (.int i),some (.lst (f.map λ(k:Nat)=>D.int k)),some (.loc S1.length),a,b])
  (bx 0 (f.map λ(k:Nat)=>D.int k)) 0 [some (.loc L),some (.int i),some (.lst (f.map λ(k:Nat)=>D.int k)),some (.loc S1.length),none,none] (S1++[.dict []]) ⟨by omega,rfl,none,none,rfl⟩ (by
   rintro p dd g l A ⟨JQ,rfl,a,b,rfl⟩;rw[dB] at A;obtain⟨x,z,rfl⟩:=map_eq_some_iff.mp A;rw[getElem?_map] at z;obtain⟨k,j,rfl⟩:=map_eq_some_iff.mp z;have W:p<f.length:=(List.getElem?_eq_some_iff.mp j).1;simp only[zero_add] at *
   have t:k∉f.take p:=by
    intro hm;have h1:=wb hm;have h2:f.idxOf k=p:=by have:=(List.getElem?_eq_some_iff.mp j).2;rw[← this];exact c.nd.idxOf_getElem p W
    omega
   have lt:(f.take p).length=p:=by rw[length_take];omega
   have tk:f.take (p+1)=f.take p++[k]:=by rw[List.take_succ,j];rfl
   have hz:(aS 0 (f.take p)).length<sizeLine:=by rw[AL,lt];exact lt_of_lt_of_le (show p<2000 by omega) (by decide)
   have N:(S1++[MO.dict (aS 0 (f.take p))])[S1.length]?=some (.dict (aS 0 (f.take p))):=by simp
   have H:=EN t;rw[lt] at H;have ep:∀ g,tx (.loc S1.length) (.int k) (.int p) g (S1++[.dict (aS 0 (f.take p))])=IX (.next g) (S1++[.dict (aS 0 (f.take (p+1)))]):=λg=>by unfold tx;simp only[N,kd];rw[if_pos hz,H,tk];simp
   refine⟨[some (.loc L),some (.int i),some (.lst (f.map λ(k:Nat)=>D.int k)),some (.loc S1.length),some (.int p),some (.int k)],rfl,[some (.loc L),some (.int i),some (.lst (f.map λ(k:Nat)=>D.int k)),some (.loc S1.length),some (.int p),some (.int k)],S1++[.dict (aS 0 (f.take (p+1)))],?_,by omega,rfl,some (.int p),some (.int k),rfl⟩;unfold cN
   simp[ep])
 simp only[zero_add,bB,length_map,take_length] at I;obtain⟨_,rfl,a,b,rfl⟩:=I
 have E:SR (λi=>(S1++[MO.dict (aS 0 f)])[i]?) (S1++[.dict (aS 0 f)]) L o G C:=by
  refine⟨?_,?_,?_,?_,λ_ _=>rfl⟩<;>rw[getElem?_append_left (by omega)]
  ·exact m.obj
  ·exact m.R5
  ·exact m.num
  exact m.N5
 have s:(S1++[MO.dict (aS 0 f)])[S1.length]?=some (.dict (aS 0 f)):=by simp
 have v:=dC (u:=aD 0) (fe:=bM) (λg => ∃ y,g=[y,some (.loc S1.length),some (.loc L)]) (λd=>match d with | .int k=>aE (QI f ((G[k.toNat]?).getD (.leaf []))) |_ => .Ji) (S1++[.dict (aS 0 f)]) (f.map λ(k:Nat)=>D.int k)
  (aY 1 [3,0] [some (.loc L),some (.int i),some (.lst (f.map λ(k:Nat)=>D.int k)),some (.loc S1.length),a,b]) ⟨none,rfl⟩ (by
   rintro d hd g ⟨y,rfl⟩;obtain⟨k,j,rfl⟩:=mem_map.mp hd;refine⟨_,rfl,⟨_,rfl⟩,?_⟩;have R3:=c.lt k j;have e:G[k]?=some G[k]:=List.getElem?_eq_getElem R3;have K:=E.row e;have Y:=BZ s G[k] λc' n y hr=>by obtain⟨T,Z⟩:=c.dn _ k c' n y (eC j) (by rw[e,hr]);exact⟨mem_of_mem_take T,mem_of_mem_take Z⟩
   have V:(G[(k:Int).toNat]?).getD (.leaf [])=G[k]:=by rw[Int.toNat_natCast,e];rfl
   show bM [some (.int k),some (.loc S1.length),some (.loc L)] (S1++[.dict (aS 0 f)])=IX (aE (QI f ((G[(k:Int).toNat]?).getD (.leaf [])))) (S1++[.dict (aS 0 f)]);rw[V];unfold bM
   simp[E.Nt,K,Y])
 have O:(f.map λ(k:Nat)=>D.int k).map (λd=>match d with | .int k=>aE (QI f ((G[k.toNat]?).getD (.leaf []))) |_ => .Ji)=(FR f G).map aE:=by unfold FR;rw[map_map,map_map];refine map_congr_left λk _=>?_;simp
 rw[O] at v;refine⟨X,S1++[.dict (aS 0 f)],?_,by rw[r];exact c,nX,by rw[r];exact U,.dict (lf f),.dict (aS 0 f),by rw[← J];simp⟩;rw[r];refine au rfl ?_;have P:rP [.lst (f.map λ(k:Nat)=>D.int k)]=some (bx 0 (f.map λ(k:Nat)=>D.int k)):=rfl;unfold gw;simp[h.Nt,q,P,M,bU,v,jy,-map_map]
end
theorem j6 (S r:IL)(fs:List (Str×D))(f:Str)(v:D)(ρ:IM)(h:fs.length<1000):nK "Rows" f (.loc S.length) v ρ (S++MO.ins "Rows" fs::r)=IX (.next ρ) (S++MO.ins "Rows" (mh f v fs)::r):=by
 have e:(S++MO.ins "Rows" fs::r)[S.length]?=some (.ins "Rows" fs):=by simp
 unfold nK;simp only[e];rw[if_pos ⟨trivial,h⟩];simp
theorem rn1:¬ ("order":Str)="gathered":=by decide
theorem rn2:¬ ("order":Str)="numbers":=by decide
theorem rn3:¬ ("gathered":Str)="numbers":=by decide
theorem rn4:¬ ("order":Str)="choices":=by decide
theorem rn5:¬ ("gathered":Str)="choices":=by decide
theorem rn6:¬ ("numbers":Str)="choices":=by decide
theorem Aj (S:IL)(o:List Nat):bQ [.loc S.length,oD o] (S++[.ins "Rows" []])=IX .Ji (S++[RO o S.length,.lst [],.Jf [],.Jf []]):=by
 have d:=λa=>j6 S [] [] "order" (oD o) a (by decide);have b:=λa=>j6 S [.lst []] [("order",oD o)] "gathered" (.loc (S.length+1)) a (by simp);have e:=λa=>j6 S [.lst [],.Jf []] [("order",oD o),("gathered",.loc (S.length+1))] "numbers" (.loc (S.length+2)) a (by simp);have c:=λa=>j6 S [.lst [],.Jf [],.Jf []] [("order",oD o),("gathered",.loc (S.length+1)),("numbers",.loc (S.length+2))] "choices" (.loc (S.length+3)) a (by simp);simp only[mh,rn1,rn2,rn3,rn4,rn5,rn6,if_false] at d b e c;unfold bQ a8;rw[if_pos (show ([.loc S.length,oD o]:List D).length=2 from rfl)];have:dX ([.loc S.length,oD o].map some++replicate 0 none) (S++[.ins "Rows" []])=IX (.next [some (.loc S.length),some (oD o)]) (S++[RO o S.length,.lst [],.Jf [],.Jf []]):=by unfold dX;simp[d,b,e,c]
 rw[this];rfl
def mT (m:Nat)(ts:List Int):Prop:=ts.length=m/\∀ x∈ts,x=0∨x=1
def tv (ts:List Int):Th:=λc=>decide (ts.getD c 0=1)
abbrev ML (ts:List Int):D:=.tup (ts.map .int)
theorem DF {m:Nat}{ts:List Int}(h:mT m ts){c:Nat}(hc:c<m)(S:IL):JT (ML ts) (.int c) S=some (.int (if tv ts c=true then 1 else 0)):=by
 have a:c<ts.length:=by rw[h.1];exact hc
 have e:ts[c]?=some ts[c]:=List.getElem?_eq_getElem a;unfold JT;rw[if_neg (by simp[bP])];show Mo (ts.map D.int) (c:Int)=_;rw[bD (v:=.int ts[c]) (by rw[getElem?_map,e];rfl)];have b:tv ts c=decide (ts[c]=1):=by unfold tv;rw[List.getD,e];rfl
 rw[b];rcases h.2 ts[c] (getElem_mem a) with q |q<;>simp[q]
theorem rE {th:Th}{ss d:List Str}(h:Kv th (aE (.leaf ss)) d):d=ss:=by
 generalize c:aE (.leaf ss)=D0 at h;cases h with
 |leaf =>
  simp only[aE,D.tup.injEq,List.cons.injEq,and_true,true_and] at c;exact((List.map_inj_right (λa b h=>by cases h;rfl)).mp c).symm
 |no=>simp[aE] at c
 |yes=>simp[aE] at c
theorem KQ.total {m k:Nat}{d:D}(h:KQ m k d)(th:Th):∃ ss,Kv th d ss:=by
 induction h with
 |leaf _ _ _=>exact⟨_,.leaf⟩
 | @ask k c x y _ _ _ e f =>
  obtain⟨a,g⟩:=e;obtain⟨b,hb⟩:=f;cases ht:th c with
  |false=>exact⟨a,.no ht g⟩
  |true=>exact⟨b,.yes ht hb⟩
section
variable {m:Nat}{ts:List Int}
theorem uZ (l:mT m ts)(S:IL){k:Nat}{d:D}(h:KQ m k d):∀ {ss:List Str}{fuel:Nat},Kv (tv ts) d ss->k<fuel->gW fuel [d,ML ts] S=IX (.tup (ss.map .str)) S:=by
 induction h with
 | @leaf k i _ _ _ =>
  intro ss fuel a q;rw[rE a];obtain⟨fuel,rfl⟩:∃ f,fuel=f+1:=⟨fuel-1,by omega⟩;have n:JT (aE (.leaf i)) (.int 0) S=some (.str "names"):=OP _ _ S;have j:JT (aE (.leaf i)) (.int 1) S=some (.tup (i.map .str)):=Qb _ _ _ S;have b:=eqs "names" "names";rw[decide_eq_true rfl] at b;refine au rfl ?_;unfold jI;simp[n,j,b]
 | @ask k c x y hc _ _ o p =>
  intro ss fuel a q;obtain⟨fuel,rfl⟩:∃ f,fuel=f+1:=⟨fuel-1,by omega⟩;have b:=eqs "ask" "names";rw[decide_eq_false xP] at b;have e:=DF l hc S;refine au rfl ?_;unfold jI;cases a with
  |no g a =>
   rw[g] at e;have r:=o (fuel:=fuel) a (by omega);simp[OP,Qb,at2,b,e,r]
  |yes g a =>
   rw[g] at e;have r:=p (fuel:=fuel) a (by omega);simp[OP,Qb,X5,b,e,r]
variable {o:List Nat}{R:List Row}
end
theorem jG {α c:Type}[DecidableEq α][DecidableEq c](f : α->c)(x : α):∀ (l:List α),(∀ a∈l,f a=f x->a=x)->(l.map f).idxOf (f x)=l.idxOf x
 |[],_=>rfl
 |a::l,h=>by
  have g:=jG f x l λb hb=>h b (mem_cons_of_mem _ hb);rw[map_cons,idxOf_cons,idxOf_cons,g];by_cases e:a=x
  ·subst e;simp
  have i:¬ f a=f x:=λq=>e (h a (mem_cons_self ..) q);have d:(a==x)=false:=by simpa using e
  have j:(f a==f x)=false:=by simpa using i
  rw[d,j]
theorem FD {o:List Nat}{G:List Row}(w:Wf o G){d:List Nat}(c:Cl G d):FR d G=enc (d.map (Jd.uT G)):=by
 unfold FR enc;rw[map_map];refine map_congr_left λk g=>?_;have i:=c.lt k g;have e:G[k]?=some G[k]:=List.getElem?_eq_getElem i;have q:=w.row k _ e;simp only[Function.comp,e,getD_some];cases hr:G[k] with
 |leaf h =>
  have f:Jd.uT G k = .leaf h:=(Un.leaf (by rw[e,hr])).uT;rw[f];rfl
 |ask a n y =>
  rw[hr] at q;obtain⟨_,l,j,_⟩:=q;have f:Jd.uT G k = .node a (Jd.uT G n) (Jd.uT G y):=(Un.node (by rw[e,hr]) (w.uT (by omega)) (w.uT (by omega))).uT;rw[f];show Row.ask a (d.idxOf n) (d.idxOf y)=Row.ask a ((d.map (Jd.uT G)).idxOf (Jd.uT G n)) ((d.map (Jd.uT G)).idxOf (Jd.uT G y));rw[jG (Jd.uT G) n d λb hb=>vq w (c.lt b hb) (by omega),jG (Jd.uT G) y d λb hb=>vq w (c.lt b hb) (by omega)]
def DE:Tr->Prop
 | .leaf a=>(∀ x∈a,dQ x=true)/\Qa a=true
 | .node _ n y=>DE n/\DE y
theorem Un.ord {o:List Nat}{G:List Row}(w:Wf o G){i:Nat}{t:Tr}(h:Un G i t):Ord o t/\DE t:=by
 induction h with
 |leaf h=>exact⟨trivial,w.row _ _ h⟩
 | @node i c n y s t h f b d a =>
  obtain⟨g,m,p,j,l,k⟩:=w.row _ _ h;refine⟨⟨g,d.1,a.1,by rw[← f.pl];exact j,by rw[← b.pl];exact l,λe=>k ?_⟩,d.2,a.2⟩;subst e;exact Un.inj w.nd f b
theorem zm {o:List Nat}(nd:o.Nodup)(w:o.length<=8){m:Nat}(F:∀ c,c<m->c∈o){k:Nat}(L:k<=12){d:D}(hd:KQ m k d)(S:IL) :
  ∃ t v,kP [d,oD o] S=IX (.tup ((enc (po t [])).map aE)) v/\Ord o t/\DE t/\Wr o (enc (po t []))/\(∀ th,Ev (enc (po t [])) th ((enc (po t [])).length-1) (Nw t th))/\(∀ th ss,Kv th d ss->Nw t th=ss)/\(po t []).length<=1023/\v.take S.length=S:=by
 have G:=Aj S o
 have y:SR (λi=>(S++[RO o S.length,.lst [],.Jf [],.Jf []])[i]?) (S++[RO o S.length,.lst [],.Jf [],.Jf []]) S.length o [] []:=by
  refine⟨by simp,?_,?_,?_,λ_ _=>rfl⟩
  ·rw[getElem?_append_right (by omega)];simp
  ·rw[getElem?_append_right (by omega)];simp;rfl
  rw[getElem?_append_right (by omega)];simp;rfl
 have pre:∀ i,i<S.length->(S++[RO o S.length,.lst [],.Jf [],.Jf []])[i]?=S[i]?:=λi f=>getElem?_append_left f;generalize (S++[RO o S.length,.lst [],.Jf [],.Jf []])=S0 at *
 have J:Wf o ([]:List Row):=⟨nodup_nil,λi r h=>by simp at h⟩;have K : 2 ^ (k+1)<=2 ^ 13:=pow_le_pow_right (by decide) (by omega);have O : 2 ^ 13=8192:=rfl;obtain⟨g,E,Q,r,C,b,a,_,l,_,_,q⟩:=CV nd w F hd 15 (by omega) y J (λp H=>by cases H) (by simp;omega) (by simp;omega);rw[nil_append] at b a l q;obtain⟨X,P,x,c,M,u,x2,z,rfl⟩:=fold_eq b a w l
 have fr:(g++[x2,z]).take S.length=S:=by
  have N:S.length+3<g.length:=(List.getElem?_eq_some_iff.mp b.N5).1;apply ext_getElem?;intro i;rw[getElem?_take];split
  ·rename_i f;rw[getElem?_append_left (by omega),b.fr i (.inl f),pre i f]
  rw[List.getElem?_eq_none (by omega)]
 have j:=y.has "fold_from" (by decide);have un:=a.uT l;have s:FR (X++[r]) E=enc (po (Jd.uT E r) []):=by rw[FD a c,u]
 have n:=GQ a c;rw[s] at x n;refine⟨Jd.uT E r,g++[x2,z],au rfl ?_,(un.ord a).1,(un.ord a).2,n,λth=>?_,λth ss I=>?_,?_,fr⟩
 ·have A:xL "Rows" bQ (ah (af 1) aB) [some d,some (oD o),none] S=IX (.loc S.length) S0:=by
   unfold xL;simp only[Fb,GD,cD];have:af 1 [some d,some (oD o),none] S=IX (oD o) S:=rfl;rw[this];simp only[cD];rw[G];rfl
  unfold ur;simp[A,j,C,x,-map_map]
 ·have e:=GR c (un.ev th) (by simp);have hr:r∉X:=by have:=(nodup_append.mp c.nd).2.2;intro j;exact this r j r (by simp) rfl
  have B:(X++[r]).idxOf r=(FR (X++[r]) E).length-1:=by rw[List.idxOf_append,if_neg hr];simp[FR]
  rw[B,s] at e;exact e
 ·exact Ev.det (un.ev th) (q th ss I)
 rw[← u,length_map,List.length_append];simp;omega
inductive Sub:Tr->Tr->Prop
 |refl (t:Tr):Sub t t
 |no {s:Tr}{c:Nat}{n y:Tr}:Sub s n->Sub s (.node c n y)
 |yes {s:Tr}{c:Nat}{n y:Tr}:Sub s y->Sub s (.node c n y)
theorem Ar:∀ (t:Tr) (a:List Tr),∃ X,po t a=a++X
 | .leaf b,a=>by
  by_cases h:Tr.leaf b∈a
  ·exact⟨[],by rw[rj h,append_nil]⟩
  exact⟨[.leaf b],rm h⟩
 | .node c n y,a=>by
  by_cases h:Tr.node c n y∈a
  ·exact⟨[],by rw[rj h,append_nil]⟩
  obtain⟨X,d⟩:=Ar n a;obtain⟨Y,e⟩:=Ar y (po n a);exact⟨X++Y++[.node c n y],by rw[rh h,e,d];simp⟩
theorem Cz (t:Tr)(a:List Tr):t∈po t a:=by
 by_cases h:t∈a
 ·rw[rj h];exact h
 cases t with
 |leaf b=>rw[rm h];simp
 |node c n y=>rw[rh h];simp
theorem wo {α:Type}(xs:List α)(p:Nat):jm xs none (some (p:Int))=xs.take p:=by
 unfold jm;rw[HT.Nf,HT.NT,drop_zero,Nat.sub_zero];rcases Nat.le_total p xs.length with h |h
 ·rw[Nat.min_eq_left h]
 rw[Nat.min_eq_right h,take_of_length_le (le_refl _),take_of_length_le h]
theorem wp {α:Type}(xs:List α)(q:Nat):jm xs (some (q:Int)) none=xs.drop q:=by
 unfold jm;rw[HT.NT,HT.Nf];rcases Nat.le_total q xs.length with h |h
 ·rw[Nat.min_eq_left h,take_of_length_le (by rw[length_drop];exact le_refl _)]
 rw[Nat.min_eq_right h,List.drop_length,List.drop_of_length_le h,List.take_nil]
abbrev nD (l:List Nat):List D:=l.map λ(k:Nat)=>D.int k
theorem A3 (a b:List D)(h:a.length+b.length<=1000):br (.lst a) (.lst b)=some (.lst (a++b)):=by rw[lN,if_pos (Nat.le_trans h (by decide))]
theorem vP (num:Int)(m:D)(k:Nat)(o:k<=20)(l:List Nat)(j:l.length=k)(z:Option D)(S:IL):∃ a:Nat,a<=k/\fX [some (.int num),some m,some (.lst (nD l)),some (.int k),z] S=IX (.next [some (.int num),some m,some (.lst (nD (l.take a++[k]++l.drop a))),some (.int k),some (.int a)]) S:=by
 have h:=iP num k S;have e:cm [.lst (nD l)]=some (.int (k:Nat)):=by simp[cm,j]
 have b:bY (.int (Kc num k)) (.int ((k:Int)+1))=some (.int (Kc num k % ((k:Int)+1))):=bq (by omega);have bm:=rB (Kc num k) (show (0:Int)<(k:Int)+1 by omega);obtain⟨a,n⟩:∃ a:Nat,Kc num k % ((k:Int)+1)=a:=⟨(Kc num k % ((k:Int)+1)).toNat,by omega⟩;rw[n] at b bm;have i:M8 (.lst (nD l)) none (some (a:Int))=some (.lst (nD (l.take a))):=by show some (D.lst (jm (nD l) none (some (a:Int))))=_;rw[wo];unfold nD;rw[map_take]
 have f:M8 (.lst (nD l)) (some (a:Int)) none=some (.lst (nD (l.drop a))):=by show some (D.lst (jm (nD l) (some (a:Int)) none))=_;rw[wp];unfold nD;rw[map_drop]
 have t1:(nD (l.take a)).length<=20:=by rw[length_map,length_take];omega
 have t2:(nD (l.drop a)).length<=20:=by rw[length_map,length_drop];omega
 have c:=A3 (nD (l.take a)) [.int k] (by simp at t1 ⊢;omega);have g:=A3 (nD (l.take a)++[.int k]) (nD (l.drop a)) (by rw[List.length_append];simp at t1 t2 ⊢;omega);have z1:Ln [.int k] (.lst [.int k])=some (.lst [.int k]):=bH (by simp);have d:nD (l.take a++[k]++l.drop a)=nD (l.take a)++[.int k]++nD (l.drop a):=by simp
 refine⟨a,by omega,?_⟩;rw[d];unfold fX;simp[h,e,b,i,f,z1,c,g,v_,-map_map,-map_append,-map_take,-map_drop,-List.append_assoc]
theorem yH (num:Int){m:Nat}(A:m<=10)(S:IL):∃ o:List Nat,lS [.int num,.int m] S=IX (oD o) S/\o.Perm (List.range m):=by
 have h:di [.int m]=some ((List.range m).map λ(k:Nat)=>D.int k):=by have:=vI m (by omega) (by omega);simpa using this
 obtain⟨p,x,g,f⟩:=bZ (u:=aD 3) (body:=fX) (λi e d=>d=S/\i<=m/\∃ (l:List Nat) (a b:Option D),l.Perm (List.range i)/\e=[some (.int num),some (.int m),some (.lst (nD l)),a,b])
  ((List.range m).map λ(k:Nat)=>D.int k) 0 [some (.int num),some (.int m),some (.lst []),none,none] S ⟨rfl,by omega,[],none,none,.refl _,rfl⟩ (by
   rintro j B e d r ⟨rfl,w,l,a,b,c,rfl⟩;obtain⟨rfl,y⟩:=gm r;simp only[zero_add] at c w ⊢;have t:l.length=j:=by rw[c.length_eq,length_range]
   obtain⟨q,z,n⟩:=vP num (.int m) j (by omega) l t b d;refine⟨_,rfl,_,_,n,rfl,by omega,_,_,_,?_,rfl⟩;rw[List.range_succ];have v:(l.take q++[j]++l.drop q).Perm (j::l):=by have:=List.perm_middle (a:=j) (l₁:=l.take q) (l₂:=l.drop q);rw[take_append_drop] at this;rw[List.append_assoc];exact this
   exact v.trans ((List.Perm.cons j c).trans (List.perm_append_singleton j (List.range j)).symm))
 simp only[zero_add,length_map,length_range] at f;obtain⟨rfl,_,l,a,b,c,rfl⟩:=f;refine⟨l,au rfl ?_,c⟩;have s:Ln [] (.lst [])=some (.lst []):=bH (by simp);unfold qr;simp[s,h,g,jy]
inductive KW (W:List Str):D->Prop
 |leaf {ss:List Str}:(∀ x∈ss,x∈W)->KW W (aE (.leaf ss))
 |ask {c:Nat}{x y:D}:KW W x->KW W y->KW W (.tup [.str "ask",.int c,x,y])
theorem Gn {W:List Str}{d:D}(h:KW W d):∀ {th:Th}{ss:List Str},Kv th d ss->∀ x∈ss,x∈W:=by
 induction h with
 | @leaf f h=>intro th ss a;rw[rE a];exact h
 | @ask c x y _ _ b e =>
  intro th ss a;cases a with
  |no _ a=>exact b a
  |yes _ a=>exact e a
theorem wg (ss:List Str)(o:ss.length<=6)(l:∀ x∈ss,dQ x=true)(n:ss.Pairwise λa b=>Mv a b=true)(m:Nat)(p : 1<=m)(s:m<=10)(S:IL):∀ (fuel e:Nat) (num:Int),e<fuel->0<=num->∃ d,kO fuel [.int num,.tup (ss.map .str),.int m,.int e] S=IX d S/\KQ m e d/\KW ss d
 | 0,e,num,h,_=>absurd h (by omega)
 |fuel+1,e,num,h,h0=>by
  have t:bY (.int num) (.int 7)=some (.int (num % 7)):=bq (by decide);have j:d5 (.int num) (.int 7)=some (.int (num / 7)):=je (by decide) (by decide);have q:bY (.int (num / 7)) (.int m)=some (.int (num / 7 % m)):=bq (by omega);have bm:=rB (num / 7) (show (0:Int)<m by omega);obtain⟨A,r,i⟩:=tQ (num / 7) (ss:=ss) (by omega) S
  have leaf:(e=0∨num % 7=0)->∃ d,kO (fuel+1) [.int num,.tup (ss.map .str),.int m,.int e] S=IX d S/\KQ m e d/\KW ss d:=λhc=>by
   refine⟨.tup [.str "names",.tup (A.map .str)],au rfl ?_,.leaf (λx k=>l x (i.subset k)) (d_ (n.sublist i)) (Nat.le_trans i.length_le o),.leaf (λx k=>i.subset k)⟩;unfold rM;by_cases f:e=0
   ·subst f;simp[j,r]
   have g:num % 7=0:=hc.resolve_left f;simp[f,t,g,j,r]
  by_cases f:e=0
  ·exact leaf (.inl f)
  by_cases g:num % 7=0
  ·exact leaf (.inr g)
  have u:=iP num 1 S;have E:=iP num 2 S;obtain⟨dp,rfl⟩:∃ dp,e=dp+1:=⟨e-1,by omega⟩;obtain⟨x,ex,w,C⟩:=wg ss o l n m p s S fuel dp (Kc num 1) (by omega) (jM _ _);obtain⟨y,D,B,v⟩:=wg ss o l n m p s S fuel dp (Kc num 2) (by omega) (jM _ _);have z:¬ ((dp:Int)+1=0):=by omega
  obtain⟨c,hc⟩:∃ c:Nat,num / 7 % m=c:=⟨(num / 7 % m).toNat,by omega⟩;rw[hc] at q bm;refine⟨.tup [.str "ask",.int c,x,y],au rfl ?_,.ask (by omega) w B,.ask C v⟩;unfold rM;simp[z,t,g,u,E,ex,D,j,q,sR]
abbrev LF (Ks:List (List Int)):List D:=Ks.map ML
theorem DW (a b:List D)(h:a.length+b.length<=1000):br (.tup a) (.tup b)=some (.tup (a++b)):=by rw[gC,if_pos (Nat.le_trans h (by decide))]
theorem l9 (e:IE D)(v:Int)(c:e=aH br (af 0) (aF (.tup [.int v])))(a:List (List Int))(h:∀ ts∈a,ts.length<=20)(ρ:IM)(S:IL):bz (aD 0) cw e (LF a) (aY 1 [] ρ) S=some (LF (a.map λts=>ts++[v]),S):=by
 have q:=dC (u:=aD 0) (fe:=e) (λρ => ∃ y,ρ=[y]) (λd=>match d with | .tup b => .tup (b++[.int v]) |_ => .Ji) S (LF a) (aY 1 [] ρ) ⟨none,rfl⟩ (by
  rintro d hd ρ ⟨y,rfl⟩;obtain⟨ts,g,rfl⟩:=mem_map.mp hd;refine⟨_,rfl,⟨_,rfl⟩,?_⟩;have f:=DW (ts.map D.int) [.int v] (by have:=h ts g;simp;omega);subst c
  simp[f])
 rw[q];congr 2;unfold LF;rw[map_map,map_map];refine map_congr_left λts _=>?_;simp[ML]
theorem sQ (m:D)(k:Nat)(a:List (List Int))(d:a.length<=2000)(h:∀ ts∈a,ts.length<=20)(z:Option D)(S:IL):eD [some m,some (.lst (LF a)),z] S=IX (.next [some m,some (.lst (LF ((a.map λts=>ts++[0])++(a.map λts=>ts++[1])))),z]) S:=by
 have c:=l9 kt 0 rfl a h [some m,some (.lst (LF a)),z] S;have b:=l9 kr 1 rfl a h [some m,some (.lst (LF a)),z] S;have ad:br (.lst (LF (a.map λts=>ts++[0]))) (.lst (LF (a.map λts=>ts++[1])))=some (.lst (LF ((a.map λts=>ts++[0])++(a.map λts=>ts++[1])))):=by rw[lN,if_pos (by simp only[LF,length_map];exact Nat.le_trans (show _<=4000 by omega) (by decide))];unfold LF;rw[← map_append]
 unfold eD;simp[bU,c,b,ad,-map_map,-map_append]
theorem u3:∀ (b:List (List Int)),(∀ ts∈b,ts≠[])->u6 tupI (LF b)=some b
 |[],_=>rfl
 |ts::b,h=>by
  have d:=u3 b λt c=>h t (mem_cons_of_mem _ c)
  have e:tupI (ML ts)=some ts:=by
   unfold tupI ML;simp only[JX];cases ts with
   |nil=>exact absurd rfl (h [] (mem_cons_self ..))
   |cons a r=>rfl
  show u6 tupI (ML ts::LF b)=_;rw[u6,e,bind_some,d];rfl
def M5:Nat->List (List Int)
 | 0=>[[]]
 |m+1=>((M5 m).map λts=>ts++[0])++((M5 m).map λts=>ts++[1])
theorem wS:∀ m,(M5 m).length=2 ^ m
 | 0=>rfl
 |m+1=>by rw[M5,List.length_append,length_map,length_map,wS m,pow_succ];omega
theorem ny:∀ m,∀ ts∈M5 m,mT m ts
 | 0,ts,h=>by rw[mem_singleton.mp h];exact⟨rfl,λx hx=>by cases hx⟩
 |m+1,ts,h=>by
  have go:∀ {t:List Int}{b:Int},t∈M5 m->(b=0∨b=1)->mT (m+1) (t++[b]):=λ{t b} a hb=>by
   refine⟨by rw[List.length_append,(ny m t a).1];rfl,λx hx=>?_⟩;rcases mem_append.mp hx with hx |hx
   ·exact(ny m t a).2 x hx
   rw[mem_singleton.mp hx];exact hb
  rcases mem_append.mp h with h |h
  ·obtain⟨t,a,rfl⟩:=mem_map.mp h;exact go a (.inl rfl)
  obtain⟨t,a,rfl⟩:=mem_map.mp h;exact go a (.inr rfl)
theorem wT:∀ m ts,mT m ts->ts∈M5 m
 | 0,ts,h=>by rw[length_eq_zero_iff.mp h.1];exact mem_singleton.mpr rfl
 |m+1,ts,h=>by
  obtain⟨a,d⟩:=h;have b:ts≠[]:=by intro z;rw[z] at a;simp at a
  have e:=List.dropLast_concat_getLast b;have c:=wT m ts.dropLast ⟨by rw[List.length_dropLast,a];rfl,λx f=>d x (List.dropLast_subset _ f)⟩;rw[M5,mem_append];rcases d _ (List.getLast_mem b) with h0 |h0
  ·exact .inl (mem_map.mpr ⟨_,c,by rw[← h0];exact e⟩)
  exact .inr (mem_map.mpr ⟨_,c,by rw[← h0];exact e⟩)
def bits (n:Nat):List Int:=[n / 32 % 2,n / 16 % 2,n / 8 % 2,n / 4 % 2,n / 2 % 2,n % 2].map λ(k:Nat)=>(k:Int)
theorem zR {m:Nat}(a : 1<=m)(b:m<=6):Spec (og λ(x y:Int)=>decide (x<y)) (M5 m):=by
 have:m=1∨m=2∨m=3∨m=4∨m=5∨m=6:=by omega
 rcases this with rfl |rfl |rfl |rfl |rfl |rfl
 ·exact⟨_,_,_,rfl,by decide,by decide,.inl (by decide)⟩
 ·exact⟨_,_,_,rfl,by decide,by decide,.inl (by decide)⟩
 ·exact⟨_,_,_,rfl,by decide,by decide,.inl (by decide)⟩
 ·exact⟨_,_,_,rfl,by decide,by decide,.inl (by decide)⟩
 ·exact⟨_,_,_,rfl,by decide,by decide,.inl (by decide)⟩
 exact⟨_,_,_,rfl,by decide,by decide,.inr ⟨by decide,_,_,_,_,rfl,by decide,by decide,(List.range 32).map λi=>bits (2*i),(List.range 32).map λi=>bits (2*i+1),by decide,by decide,by decide,by decide,by decide,by decide,by decide,by decide⟩⟩
theorem ye {m:Nat}(s : 1<=m)(l:m<=6)(S:IL):∃ c:List (List Int),jR [.int m] S=IX (.lst (LF c)) S/\(∀ ts∈c,mT m ts)/\∀ ts,mT m ts->ts∈c:=by
 have q:di [.int m]=some ((List.range m).map λ(k:Nat)=>D.int k):=by have:=vI m (by omega) (by omega);simpa using this
 have g:∀ j,j<=6->(M5 j).length<=64:=λj e=>by rw[wS];exact pow_le_pow_right (by decide) e
 obtain⟨t,v,p,o⟩:=bZ (u:=aD 2) (body:=eD) (λi f d=>d=S/\∃ b:Option D,f=[some (.int m),some (.lst (LF (M5 i))),b])
  ((List.range m).map λ(k:Nat)=>D.int k) 0 [some (.int m),some (.lst [.tup []]),none] S ⟨rfl,none,rfl⟩ (by
   rintro j x f d e ⟨rfl,b,rfl⟩;obtain⟨rfl,w⟩:=gm e;simp only[zero_add];have r:=sQ (.int m) j (M5 j) (by have:=g j (by omega);omega) (λts a=>by have:=(ny j ts a).1;omega) (some (.int j)) d
   exact⟨_,rfl,_,_,r,rfl,_,rfl⟩)
 simp only[zero_add,length_map,length_range] at o;obtain⟨rfl,b,rfl⟩:=o;have es:qV [.lst (LF (M5 m))]=some (.lst (LF ((M5 m).mergeSort v5))):=by show (u6 tupI (LF (M5 m))).bind _=_;rw[u3 (M5 m) λts a h=>by have:=(ny m ts a).1;rw[h] at this;simp at this;omega,bind_some];exact if_pos ⟨by simp only[LF,length_map];exact Nat.le_trans (g m l) (by decide),zR s l⟩
 have n:((M5 m).mergeSort v5).Perm (M5 m):=mergeSort_perm _ _;refine⟨(M5 m).mergeSort v5,au rfl ?_,λts a=>ny m ts (n.mem_iff.mp a),λts a=>n.mem_iff.mpr (wT m ts a)⟩;unfold oA;simp[q,p,es,-map_map]
theorem KQ.mono {m k:Nat}{d:D}(h:KQ m k d):∀ j,k<=j->KQ m j d:=by
 induction h with
 |leaf c g e=>exact λj _ => .leaf c g e
 |ask a _ _ b f =>
  intro j l;obtain⟨j,rfl⟩:∃ i,j=i+1:=⟨j-1,by omega⟩;exact .ask a (b j (by omega)) (f j (by omega))
theorem C6 (ns:List Int)(b:Nat)(hb : 1<=b)(v:b<=10)(S:IL):∃ (m:Nat) (ss:List Str) (kvs:List (D×D)) (d:D) (o:List Nat),1<=m/\m<=b/\ss.length<=6/\(∀ x∈ss,dQ x=true)/\(ss.Pairwise λa b=>Mv a b=true)/\KQ m 5 d/\KW ss d/\o.Perm (List.range m) /\
  kN [.lst (ns.map .int),.int b] S=IX (.tup [.int m,.tup (ss.map .str),d,oD o]) (S++[.dict kvs]):=by
 have h:∀ S,aZ [.lst (ns.map .int),.int 0] S=IX (.int (mix ns 0)) S:=e_ ns 0;have x1:∀ S,aZ [.lst (ns.map .int),.int 1] S=IX (.int (mix ns 1)) S:=e_ ns 1;have x2:∀ S,aZ [.lst (ns.map .int),.int 2] S=IX (.int (mix ns 2)) S:=e_ ns 2;have j:∀ S,aZ [.lst (ns.map .int),.int 3] S=IX (.int (mix ns 3)) S:=e_ ns 3;have i:∀ S,aZ [.lst (ns.map .int),.int 4] S=IX (.int (mix ns 4)) S:=e_ ns 4;have bm:=rB (mix ns 0) (show (0:Int)<b by omega);have n:bY (.int (mix ns 0)) (.int b)=some (.int (mix ns 0 % b)):=bq (by omega);obtain⟨m,t⟩:∃ m:Nat,1+mix ns 0 % b=m:=⟨(1+mix ns 0 % b).toNat,by omega⟩;obtain⟨ss,kvs,q,f,e,g⟩:=xX (mix ns 1) S;have r:bY (.int (mix ns 3)) (.int 5)=some (.int (mix ns 3 % 5)):=bq (by decide);have u:=rB (mix ns 3) (show (0:Int)<5 by decide);obtain⟨dp,c⟩:∃ dp:Nat,1+mix ns 3 % 5=dp:=⟨(1+mix ns 3 % 5).toNat,by omega⟩;obtain⟨d,k,l,kw⟩:=wg ss f e g m (by omega) (by omega) (S++[.dict kvs]) 8 dp (mix ns 2) (by omega) (vU _ _);obtain⟨o,s,po⟩:=yH (mix ns 4) (m:=m) (by omega) (S++[.dict kvs]);have p:Ln [.int m,.tup (ss.map .str),d,oD o] (.tup [.int m,.tup (ss.map .str),d,oD o])=some (.tup [.int m,.tup (ss.map .str),d,oD o]):=bH (by simp);refine⟨m,ss,kvs,d,o,by omega,by omega,f,e,g,l.mono 5 (by omega),kw,po,au rfl ?_⟩;unfold uq;simp[h,x1,x2,j,i,n,t,q,r,c,k,s,p,-map_map]
abbrev NQ (R:List Row):D:=.tup (R.map aE)
abbrev oC (t:Tr):D:=NQ (enc (po t []))
abbrev Sh:=List (Option Bool)
def JB:Option Bool->D
 |none => .Ji
 |some b => .int (if b=true then 1 else 0)
abbrev Ja (sh:Sh):D:=.tup (sh.map JB)
theorem zZ {sh:Sh}{c:Nat}{x:Option Bool}(h:sh[c]?=some x)(S:IL):JT (Ja sh) (.int c) S=some (JB x):=by unfold JT;rw[if_neg (by simp[bP])];exact bD (by rw[getElem?_map,h];rfl)
theorem tw {m k:Nat}(h:m<=8){sh:Sh}(i:sh.length=m)(f:k<m)(v:Option Bool)(S:IL)(g:IE Fl)
  (c:g=bw (aH br (aH br (OV M8 (af 0) none (some (af 1))) (jQ (ah (af 2) aB))) (OV M8 (af 0) (some (aH br (af 1) (aF (.int 1)))) none))) :
  a8 3 0 g [Ja sh,.int k,JB v] S=IX (Ja (sh.set k v)) S:=by
 subst c;have e:M8 (Ja sh) none (some (k:Int))=some (.tup ((sh.take k).map JB)):=by show some (D.tup (jm (sh.map JB) none (some (k:Int))))=_;rw[wo,map_take]
 have b:M8 (Ja sh) (some ((k:Int)+1)) none=some (.tup ((sh.drop (k+1)).map JB)):=by show some (D.tup (jm (sh.map JB) (some (((k+1:Nat)):Int)) none))=_;rw[wp,map_drop]
 have z1:Ln [JB v] (.tup [JB v])=some (.tup [JB v]):=bH (by simp);have a:br (.tup ((sh.take k).map JB)) (.tup [JB v])=some (.tup ((sh.take k).map JB++[JB v])):=by rw[gC,if_pos (Nat.le_trans (show _<=1000 by simp;omega) (by decide))]
 have d:br (.tup ((sh.take k).map JB++[JB v])) (.tup ((sh.drop (k+1)).map JB))=some (Ja (sh.set k v)):=by rw[gC,if_pos (Nat.le_trans (show _<=1000 by simp;omega) (by decide)),List.set_eq_take_append_cons_drop,if_pos (by omega)];simp[Ja]
 refine au rfl ?_;generalize Ja (sh.set k v)=r at *
 generalize (sh.take k).map JB=x1 at *
 generalize (sh.drop (k+1)).map JB=x2 at *
 generalize Ja sh=x3 at *
 generalize JB v=x4 at *
 simp[e,b,z1,a,d,v_]
theorem zY (x:Int){m:Nat}(l:m<=8)(S:IL):∃ sh:Sh,lR [.int x,.int m] S=IX (Ja sh) S/\sh.length=m:=by
 have c:di [.int m]=some ((List.range m).map λ(k:Nat)=>D.int k):=by have:=vI m (by omega) (by omega);simpa using this
 let f:Int->Option Bool:=λk=>if Kc x k % 4=1 then some false else if Kc x k % 4=2 then some true else none
 have q:=dC (u:=aD 0) (fe:=fR) (λa => ∃ y,a=[y,some (.int x)]) (λd=>match d with | .int k=>JB (f k) |_ => .Ji) S ((List.range m).map λ(k:Nat)=>D.int k) (aY 1 [0] [some (.int x),some (.int m)]) ⟨none,rfl⟩ (by
  rintro d hd a ⟨y,rfl⟩;obtain⟨k,_,rfl⟩:=mem_map.mp hd;refine⟨_,rfl,⟨_,rfl⟩,?_⟩;have i:=iP x k S;have e:bY (.int (Kc x k)) (.int 4)=some (.int (Kc x k % 4)):=bq (by decide)
  have g:JT (D.tup [D.Ji,(D.int 0),(D.int 1),D.Ji]) (.int (Kc x k % 4)) S=some (JB (f k)):=by
   have n:=Int.emod_nonneg (Kc x k) (show (4:Int)≠0 by decide);have j:=Int.emod_lt_of_pos (Kc x k) (show (0:Int)<4 by decide);show JT _ _ _=some (JB (if Kc x k % 4=1 then some false else if Kc x k % 4=2 then some true else none));have:Kc x k % 4=0∨Kc x k % 4=1∨Kc x k % 4=2∨Kc x k % 4=3:=by omega
   rcases this with h |h |h |h<;>rw[h]<;>rfl
  show fR [some (.int k),some (.int x)] S=IX (JB (f k)) S;generalize f k=fk at *
  unfold fR
  simp[i,e,g])
 rw[map_map] at q;refine⟨(List.range m).map λ(k:Nat)=>f k,au rfl ?_,by rw[length_map,length_range]⟩;have b:Ja ((List.range m).map λ(k:Nat)=>f k) = .tup ((List.range m).map ((λd=>match d with |D.int k=>JB (f k) |_ => .Ji) ∘ λ(k:Nat)=>D.int k)):=by rw[Ja,map_map];rfl
 rw[b];generalize (List.range m).map ((λd=>match d with |D.int k=>JB (f k) |_ => .Ji) ∘ λ(k:Nat)=>D.int k)=r at *
 unfold qq;simp[c,q,jy]
def R7 (ss:List Str):Prop:=(∀ x∈ss,dQ x=true)/\Qa ss=true
theorem uk (x:Str):∀ l:List Str,((l.map PyData.str).any λq=>PyData.eqv q (.str x))=decide (x∈l)
 |[]=>by simp
 |a::l=>by
  rw[map_cons,any_cons,uk x l];by_cases h:a=x
  ·simp[PyData.eqv,h]
  have b:¬ x=a:=λe=>h e.symm;simp[PyData.eqv,h,b]
theorem Bf (neg:Bool)(x:Str)(l:List Str)(S:IL):Pr neg (.str x) (.tup (l.map .str)) S=some (.bl (neg != decide (x∈l))):=by
 have e:we (.str x) (.tup (l.map .str))=some (decide (x∈l)):=by unfold we;simp only[toPy,vG,bind_some,jA];rw[if_pos (by simp[PyData.depth]),uk]
 unfold Pr;rw[if_neg (by simp[bP])];cases neg<;>simp[inD,rn,e]
theorem sO (xs:List D):jy [.lst xs]=some (.tup xs):=rfl
theorem CQ {a b:List Str}(h:R7 a)(s:b.Sublist a):R7 b:=⟨λx c=>h.1 x (s.subset c),d_ ((eI h.2).sublist s)⟩
theorem yJ {a:List Str}(h:R7 a):a.Nodup:=(eI h.2).imp λ{x y} q e=>by subst e;rw[vZ] at q;cases q
theorem yf (ss:List Str)(h:ss.length<=60):d4 (ss.map D.str)=some ((jp ss).map D.str):=by unfold d4;rw[if_pos (by rw[length_map];first |exact Nat.le_trans h (by decide) |omega),i4]
theorem p_:∀ cs:List Str,js (cs.map D.str)=some (cs.map λc=>(Sum.inr c:Key))
 |[]=>rfl
 |c::cs=>by rw[map_cons,js,p_ cs];rfl
theorem uj:∀ (l b:List Str),(l.map λc=>(Sum.inr c:Key)).foldl dz (b.map Sum.inr)=(l.foldl dz b).map Sum.inr
 |[],b=>rfl
 |a::l,b=>by
  rw[map_cons,foldl_cons,foldl_cons,← uj l (dz b a)];congr 1;unfold dz;by_cases h:a∈b
  ·rw[if_pos h,if_pos (mem_map.mpr ⟨a,h,rfl⟩)]
  rw[if_neg h,if_neg (λq=>by obtain⟨x,d,e⟩:=mem_map.mp q;cases e;exact h d),map_append];rfl
theorem EU {m k:Nat}{d:D}(h:KQ m k d):∀ {th:Th}{ss:List Str},Kv th d ss->ss.length<=6:=by
 induction h with
 | @leaf k g _ _ f=>intro th ss a;rw[rE a];exact f
 | @ask k c x y _ _ _ b e =>
  intro th ss a;cases a with
  |no _ a=>exact b a
  |yes _ a=>exact e a
theorem Di (t:Tr) : 0<(enc (po t [])).length:=by unfold enc;rw[length_map];exact List.length_pos_of_mem (Cz t [])
abbrev JG (ns:List Nat):List D:=ns.map λ(k:Nat)=>D.int k
def dh (sh:Sh):Row->List Nat
 | .leaf _=>[]
 | .ask c n y=>match sh[c]? with
  |some (some b)=>[if b=true then y else n]
  |_=>[n,y]
theorem B0 {o:List Nat}{R:List Row}(w:Wr o R){sh:Sh}(q:∀ c∈o,c<sh.length){i:Nat}{r:Row}(hr:R[i]?=some r)(S:IL):lP [aE r,Ja sh] S=IX (.tup (JG (dh sh r))) S:=by
 have p:=w _ _ hr;have e:=kL r S;have f:=uW r S;have h:PV .Ji .Ji=some (.bl true):=rfl;refine au rfl ?_;unfold qm;cases r with
 |leaf m =>
  have a:JG (dh sh (.leaf m))=[]:=rfl;rw[a];simp[e,f,h]
 |ask c n y =>
  have hc:=q c p.1;have es:sh[c]?=some sh[c]:=List.getElem?_eq_getElem hc;have d:=zZ es S;have g:JT (aE (.ask c n y)) (.int 0) S=some (.int c):=OP _ _ S;have l:JT (aE (.ask c n y)) (.int 1) S=some (.int n):=Qb _ _ _ S;have s:JT (aE (.ask c n y)) (.int 2) S=some (.int y):=at2 _ _ _ _ S;have j:∀ z:Int,PV (.int z) .Ji=some (.bl false):=λ_=>rfl;cases hv:sh[c] with
  |none =>
   rw[hv] at d es;have a:dh sh (.ask c n y)=[n,y]:=by simp only[dh,es]
   rw[a];simp[e,f,g,d,JB,h,JG]
  |some b =>
   rw[hv] at d es;have a:dh sh (.ask c n y)=[if b=true then y else n]:=by simp only[dh,es]
   rw[a];have z1:∀ k:Nat,Ln [D.int k] (.tup [.int k])=some (.tup [.int k]):=λ_=>bH (by simp);cases b<;>simp[e,g,l,s,d,JB,j,z1,JG]
def iE (sh:Sh):Nat:=(sh.filter Option.isNone).length
def qN:D->Bool
 | .tup [_,x]=>lB x
 |_=>false
def B2:D->D
 | .tup [k,_]=>k
 |_ => .Ji
theorem wQ:∀ (sh:Sh) (k:Nat),((bx k (sh.map JB)).filter qN).length=iE sh
 |[],k=>rfl
 |v::sh,k=>by
  have a:=wQ sh (k+1);unfold iE at a ⊢;rw[map_cons,bx,filter_cons,filter_cons];cases v with
  |none=>rw[if_pos (show qN (D.tup [D.int k,JB none])=true from rfl),if_pos (show (none:Option Bool).isNone=true from rfl),length_cons,length_cons,a]
  |some b=>rw[if_neg (by simp[qN,JB,lB]),if_neg (by simp),a]
theorem vp (sh:Sh)(S:IL):∃ ds:List D,df [Ja sh] S=IX (.lst ds) S/\ds.length=iE sh:=by
 have q:=c9 (u:=kX 2 (a_ (aD 0) (a_ (aD 1) g9))) (gt:=eP) (fe:=fy) (λc => ∃ x y,c=[x,y]) qN B2 S (bx 0 (sh.map JB)) (aY 2 [] [some (Ja sh)]) ⟨none,none,rfl⟩ (by
  rintro d hd c ⟨x,y,rfl⟩;obtain⟨i,f⟩:=getElem?_of_mem hd;rw[dB] at f;obtain⟨v,a,rfl⟩:=map_eq_some_iff.mp f;rw[getElem?_map] at a;obtain⟨b,_,rfl⟩:=map_eq_some_iff.mp a;refine⟨_,rfl,⟨_,_,rfl⟩,?_,λ_=>rfl⟩;cases b with
  |none=>rfl
  |some b=>rfl)
 refine⟨((bx 0 (sh.map JB)).filter qN).map B2,au rfl ?_,by rw[length_map,wQ]⟩;have e:mF [Ja sh]=some (bx 0 (sh.map JB)):=rfl;generalize bx 0 (sh.map JB)=l at *
 generalize Ja sh=sd at *
 unfold gJ;simp[e,q]
theorem u7 (sh:Sh)(S:IL):dg [Ja sh] S=IX (.int ((2 ^ iE sh:Nat):Int)) S:=by
 obtain⟨f,q,n⟩:=vp sh S
 obtain⟨m,c,g,x,rfl,rfl⟩:=bZ (u:=aD 2) (body:=d6) (λi h c => ∃ x,h=[some (Ja sh),some (.int ((2 ^ i:Nat):Int)),x]/\c=S) f 0 [some (Ja sh),some (.int 1),none] S ⟨none,rfl,rfl⟩ (by
  rintro j d h c hd ⟨x,rfl,rfl⟩;refine⟨_,rfl,[some (Ja sh),some (.int ((2 ^ (0+j+1):Nat):Int)),some d],_,?_,_,rfl,rfl⟩
  have e:xi (.int ((2 ^ (0+j):Nat):Int)) (.int 2)=some (.int ((2 ^ (0+j+1):Nat):Int)):=by
   have k:gq ((2 ^ (0+j):Nat):Int) 2=true:=by generalize ((2 ^ (0+j):Nat):Int)=a;unfold gq;rw[show (decide (-(2 ^ 64)<(2:Int))&&decide ((2:Int)<2 ^ 64))=true by decide,Bool.or_true]
   have o:((2 ^ (0+j):Nat):Int)*2=((2 ^ (0+j+1):Nat):Int):=by rw[pow_succ];exact(Int.natCast_mul _ _).symm
   rw[← o];generalize ((2 ^ (0+j):Nat):Int)=a at *
   show (if gq a 2=true then _ else _)=_;rw[if_pos k]
  generalize ((2 ^ (0+j):Nat):Int)=a at *
  generalize ((2 ^ (0+j+1):Nat):Int)=b at *
  show uQ 1 (aF (.int 2)) [some (Ja sh),some (.int a),some d] c=_;unfold uQ
  simp -implicitDefEqProofs [e])
 rw[zero_add,n] at g;have l:bU (.lst f)=some f:=rfl;refine au rfl ?_;generalize ((2 ^ iE sh:Nat):Int)=b at *
 generalize Ja sh=sd at *
 unfold fP;simp -implicitDefEqProofs [q,l,g]
inductive Rc (R:List Row) (sh:Sh):Nat->Prop
 |top:Rc R sh (R.length-1)
 |go {i b:Nat}{r:Row}:Rc R sh i->R[i]?=some r->b∈dh sh r->Rc R sh b
def Uk (o:List Nat)(sh:Sh)(p:Nat):Nat:=((o.drop p).filter λc=>decide (sh[c]?=some none)).length
theorem sk (o:List Nat)(sh:Sh){p q:Nat}(h:p<=q):Uk o sh q<=Uk o sh p:=by unfold Uk;refine(List.Sublist.filter _ ?_).length_le;rw[show q=p+(q-p) by omega,← List.drop_drop];exact List.drop_sublist _ _
theorem DD {o:List Nat}{sh:Sh}{c q:Nat}(hc:c∈o)(b:sh[c]?=some none)(h:o.idxOf c<q):Uk o sh q+1<=Uk o sh (o.idxOf c):=by
 have a:o.idxOf c<o.length:=idxOf_lt_length_iff.mpr hc;have e:o.drop (o.idxOf c)=c::o.drop (o.idxOf c+1):=by rw[drop_eq_getElem_cons a,getElem_idxOf]
 have m:=sk o sh (show o.idxOf c+1<=q by omega);unfold Uk at m ⊢;rw[e,filter_cons,if_pos (by simpa using b),length_cons];omega
theorem Fw {o:List Nat}{sh:Sh}(a:o.Perm (List.range sh.length))(p:Nat):Uk o sh p<=iE sh:=by
 refine Nat.le_trans (sk o sh (zero_le p)) ?_;unfold Uk iE;rw[drop_zero,(a.filter _).length_eq]
 have e:sh=(List.range sh.length).map λc=>(sh[c]?).getD none:=by
  refine ext_getElem? λi=>?_;rw[getElem?_map];by_cases h:i<sh.length
  ·rw[getElem?_range h,map_some,List.getElem?_eq_getElem h];rfl
  rw[List.getElem?_eq_none (by omega),List.getElem?_eq_none (by simp;omega)];rfl
 have b:(sh.filter Option.isNone).length=((List.range sh.length).filter λc=>((sh[c]?).getD none).isNone).length:=by have:(sh.filter Option.isNone)=(((List.range sh.length).map λc=>(sh[c]?).getD none).filter Option.isNone):=congrArg _ e;rw[this,List.filter_map,length_map];rfl
 rw[b,← List.countP_eq_length_filter,← List.countP_eq_length_filter];refine List.countP_mono_left λc _ h=>?_;have h:sh[c]?=some none:=by simpa using h
 rw[h];rfl
section
variable {o:List Nat}{R:List Row}{sh:Sh}
theorem mV (w:Wr o R){i b:Nat}{r:Row}(hr:R[i]?=some r)(hb:b∈dh sh r):b<i/\∃ c n y,r = .ask c n y/\c∈o/\Jd.pl o R i=o.idxOf c/\o.idxOf c<Jd.pl o R b:=by
 have j:=w _ _ hr;cases r with
 |leaf k=>simp[dh] at hb
 |ask c n y =>
  obtain⟨a,f,g,e,h,_⟩:=j;have d:Jd.pl o R i=o.idxOf c:=by unfold Jd.pl;rw[hr]
  have:b=n∨b=y:=by
   have hb:b∈(match sh[c]? with |some (some b)=>[if b=true then y else n] |_=>[n,y]):=hb;split at hb
   ·rename_i v _;have:=mem_singleton.mp hb;cases v with
    |true=>exact .inr this
    |false=>exact .inl this
   simpa using hb
  rcases this with rfl |rfl
  ·exact⟨f,c,_,_,rfl,a,d,e⟩
  exact⟨g,c,_,_,rfl,a,d,h⟩
theorem zN (w:Wr o R)(e:∀ c∈o,c<sh.length){i b x:Nat}{r:Row}(hr:R[i]?=some r)(hb:b∈dh sh r)(a : 2 ^ Uk o sh (Jd.pl o R i)<=x) : 2 ^ Uk o sh (Jd.pl o R b)<=x / (dh sh r).length:=by
 obtain⟨_,c,n,y,rfl,hc,g,f⟩:=mV w hr hb;rw[g] at a;have es:sh[c]?=some (sh[c]'(e c hc)):=List.getElem?_eq_getElem (e c hc);cases hv:sh[c]'(e c hc) with
 |none =>
  rw[hv] at es;have d:(dh sh (.ask c n y)).length=2:=by simp only[dh,es];rfl
  rw[d,Nat.le_div_iff_mul_le (by decide),← pow_succ];exact Nat.le_trans (pow_le_pow_right (by decide) (DD hc es f)) a
 |some v =>
  rw[hv] at es;have d:(dh sh (.ask c n y)).length=1:=by simp only[dh,es];rfl
  rw[d,Nat.div_one];exact Nat.le_trans (pow_le_pow_right (by decide) (sk o sh (Nat.le_of_lt f))) a
theorem zO (r:Row):(dh sh r).length<=2:=by
 cases r with
 |leaf _=>simp[dh]
 |ask c n y =>
  show (match sh[c]? with |some (some b)=>[if b=true then y else n] |_=>[n,y]).length<=2;split<;>simp
end
theorem iH (l:List Nat){b:Nat}(v:Nat)(hb:b<l.length)(k:Nat):(l.set b v).getD k 0=if k=b then v else l.getD k 0:=by
 rw[List.getD,List.getElem?_set];by_cases h:k=b
 ·subst h;rw[if_pos rfl,if_pos hb,if_pos rfl];rfl
 rw[if_neg (λe=>h e.symm),if_neg h];rfl
theorem AH {cs:List Nat}{S:IL}{b:Nat}(hb:b<cs.length):lA (.loc S.length) (.int b) (S++[.lst (JG cs)])=some (.int ((cs.getD b 0:Nat):Int)):=by
 show ((cL (.loc S.length) (S++[.lst (JG cs)])).bind λa=>Mo a (b:Int))=_;have:cL (.loc S.length) (S++[.lst (JG cs)])=some (JG cs):=by unfold cL;simp
 rw[this,bind_some];refine bD ?_;rw[getElem?_map,List.getElem?_eq_getElem hb,List.getD,List.getElem?_eq_getElem hb];rfl
theorem CU (cs:List Nat)(b v:Nat):(JG cs).set b (.int (v:Nat))=JG (cs.set b v):=(List.map_set ..).symm
theorem Al {cs:List Nat}{S:IL}{b:Nat}(hb:b<cs.length){i:Int}(a:OF cs.length i=some b)(v:Nat)(ρ:IM):jr (.loc S.length) (.int i) (.int (v:Nat)) ρ (S++[.lst (JG cs)])=IX (.next ρ) (S++[.lst (JG (cs.set b v))]):=by
 unfold jr;have g:(S++[MO.lst (JG cs)])[S.length]?=some (.lst (JG cs)):=by simp
 simp only[g,length_map,a,CU];congr 2;rw[List.set_append_right _ _ (le_refl _),sub_self];rfl
theorem Db {n b:Nat}(h:b<n):OF n (b:Int)=some b:=by unfold OF;rw[if_pos (by omega),if_pos (by omega)];simp
theorem Be {i:Nat}{ws cs:List Nat}(L:i<cs.length)(B:∀ b∈ws,b<i)(K:ws.length<=2)(S:IL)(m sd r:Option D) :
  ∃ c x,fO (aD 5) dc (JG ws) [m,sd,some (.loc S.length),some (.int i),some (.tup (JG ws)),r] (S++[.lst (JG cs)])=IX (.next [m,sd,some (.loc S.length),some (.int i),some (.tup (JG ws)),x]) (S++[.lst (JG c)]) /\
   c.length=cs.length/\(∀ b,cs.getD b 0<=c.getD b 0)/\(∀ b,0<c.getD b 0->0<cs.getD b 0∨b∈ws/\0<cs.getD i 0)/\∀ b∈ws,cs.getD i 0 / ws.length<=c.getD b 0:=by
 obtain⟨E,w,A,c,x,rfl,rfl,s,o,p,n,_⟩:=bZ (u:=aD 5) (body:=dc)
  (λj l w => ∃ c x,l=[m,sd,some (.loc S.length),some (.int i),some (.tup (JG ws)),x]/\w=S++[.lst (JG c)]/\c.length=cs.length/\(∀ b,cs.getD b 0<=c.getD b 0)/\(∀ b,0<c.getD b 0->0<cs.getD b 0∨b∈ws/\0<cs.getD i 0)/\(∀ b∈ws.take j,cs.getD i 0 / ws.length<=c.getD b 0)/\c.getD i 0=cs.getD i 0)
  (JG ws) 0 [m,sd,some (.loc S.length),some (.int i),some (.tup (JG ws)),r] (S++[.lst (JG cs)]) ⟨cs,r,rfl,rfl,rfl,λ_=>le_refl _,λ_ h => .inl h,λb h=>by simp at h,rfl⟩ (by
   rintro j d l w hd ⟨c,x,rfl,rfl,s,o,p,n,v⟩;rw[zero_add] at n ⊢;rw[getElem?_map] at hd;obtain⟨b,hb,rfl⟩:=map_eq_some_iff.mp hd;have y:b∈ws:=mem_of_getElem? hb;have G:=B b y;have f:b<c.length:=by omega
   have C:=AH (S:=S) f;have I:=AH (S:=S) (show i<c.length by omega);have J : 0<ws.length:=List.length_pos_of_mem y;have ld:cm [.tup (JG ws)]=some (.int ws.length):=by unfold cm;simp
   have fd:d5 (.int ((c.getD i 0:Nat):Int)) (.int ws.length)=some (.int ((c.getD i 0 / ws.length:Nat):Int)):=by show (if 0<(ws.length:Int)/\(ws.length:Int)<1073741824 then _ else _)=_;rw[if_pos (by omega)];rfl
   have ad:xS (.int ((c.getD b 0:Nat):Int)) (.int ((c.getD i 0 / ws.length:Nat):Int))=some (.int ((c.getD b 0+c.getD i 0 / ws.length:Nat):Int)):=rfl;have F:=Al (S:=S) f (Db f) (c.getD b 0+c.getD i 0 / ws.length) [m,sd,some (.loc S.length),some (.int i),some (.tup (JG ws)),some (.int b)];refine⟨[m,sd,some (.loc S.length),some (.int i),some (.tup (JG ws)),some (.int b)],rfl,_,_,?_,c.set b (c.getD b 0+c.getD i 0 / ws.length),some (.int b),rfl,rfl,by rw[length_set];exact s,λk=>?_,λk g=>?_,λk g=>?_,?_⟩
   ·generalize S++[MO.lst (JG (c.set b (c.getD b 0+c.getD i 0 / ws.length)))]=t at *
    generalize S++[MO.lst (JG c)]=z at *
    generalize ((c.getD b 0+c.getD i 0 / ws.length:Nat):Int)=z1 at *
    generalize ((c.getD i 0 / ws.length:Nat):Int)=z2 at *
    generalize ((c.getD i 0:Nat):Int)=z3 at *
    generalize ((c.getD b 0:Nat):Int)=z4 at *
    generalize D.tup (JG ws)=wd at *
    show uR (af 2) (af 5) (aH d5 (wE (af 2) (af 3)) (bh cm (ah (af 4) aB))) _ _=_;have DQ:∀ (a b:IE D) l S,wE a b l S=ai (a l S) λx z=>ai (b l z) λi t=>aJ (lA x i t) t:=λ_ _ _ _=>rfl;unfold uR;simp -implicitDefEqProofs [C,I,ld,fd,ad,F,DQ]
   ·rw[iH _ _ f];split
    ·rename_i e;subst e;exact Nat.le_trans (o k) (Nat.le_add_right _ _)
    exact o k
   ·rw[iH _ _ f] at g;split at g
    ·rename_i e;subst e;by_cases H : 0<c.getD k 0
     ·exact p k H
     refine .inr ⟨y,?_⟩;rw[← v];have : 0<c.getD i 0 / ws.length:=by omega
     exact Nat.pos_of_ne_zero λe=>by rw[e,Nat.zero_div] at this;omega
    exact p k g
   ·rw[iH _ _ f];rw[List.take_add_one,hb] at g;split
    ·rw[v];omega
    rename_i ne;rcases mem_append.mp g with q |q
    ·exact n k q
    exact absurd (by simpa using q) ne
   rw[iH _ _ f,if_neg (by omega)];exact v)
 rw[zero_add,length_map,take_length] at n;exact⟨c,x,A,s,o,p,n⟩
structure CI (o:List Nat) (R:List Row) (sh:Sh) (k:Nat) (cs:List Nat):Prop where
 len:cs.length=R.length
 snd:∀ i,0<cs.getD i 0->Rc R sh i
 low:∀ i,(i=R.length-1∨∃ j r,R.length-k<=j/\R[j]?=some r/\Rc R sh j/\i∈dh sh r)->2 ^ Uk o sh (Jd.pl o R i)<=cs.getD i 0
section
variable {o:List Nat}{R:List Row}{sh:Sh}
theorem CI.step (w:Wr o R)(y:∀ c∈o,c<sh.length){k i:Nat}{cs a:List Nat}{r:Row}(h:CI o R sh k cs)(B:i+k+1=R.length)(hr:R[i]?=some r)(s:a.length=cs.length)(l:∀ b,cs.getD b 0<=a.getD b 0)
  (x:∀ b,0<a.getD b 0->0<cs.getD b 0∨b∈dh sh r/\0<cs.getD i 0) (u:∀ b∈dh sh r,cs.getD i 0 / (dh sh r).length<=a.getD b 0):CI o R sh (k+1) a:=by
 refine⟨s.trans h.len,λb hb=>?_,λb hb=>?_⟩
 ·rcases x b hb with q |⟨q,z⟩
  ·exact h.snd b q
  exact .go (h.snd i z) hr q
 rcases hb with q |⟨j,p,A,WE,rc,f⟩
 ·exact Nat.le_trans (h.low b (.inl q)) (l b)
 by_cases g:R.length-k<=j
 ·exact Nat.le_trans (h.low b (.inr ⟨j,p,g,WE,rc,f⟩)) (l b)
 have e:j=i:=by omega
 subst e;rw[hr] at WE;cases WE;refine Nat.le_trans (zN w y hr f ?_) (u b f);cases rc with
 |top=>exact h.low _ (.inl rfl)
 | @go t _ v d m n =>
  have:=(mV w m n).1;exact h.low _ (.inr ⟨t,v,by omega,m,d,n⟩)
theorem CI.done (w:Wr o R){cs:List Nat}(h:CI o R sh R.length cs)(i:Nat) : 0<cs.getD i 0↔Rc R sh i:=by
 refine⟨h.snd i,λrc=>lt_of_lt_of_le (Nat.pow_pos (by decide : 0<2)) (h.low i ?_)⟩;cases rc with
 |top=>exact .inl rfl
 | @go j _ r rc hr a=>exact .inr ⟨j,r,by omega,hr,rc,a⟩
end
theorem vn (n i:Nat):(replicate n 0).getD i 0=0:=by rw[List.getD,getElem?_replicate];split<;>rfl
theorem Dj (n:Nat)(ix:List Nat)(fi:IE (List D))(u:D->IM->Option IM)(gt:IE Bool)(fe:IE D)(ρ:IM)(S:IL):oM n ix fi u gt fe ρ S=ai (fi ρ S) λds a =>
 match bz u gt fe ds (aY n ix ρ) a with
 |some (out,S2)=>IX (.loc S2.length) (S2++[.lst out])
 |none=>none:=rfl
theorem E_ (b fi a:IE D)(ρ:IM)(S:IL):xM b fi a ρ S=ai (a ρ S) λv d=>ai (b ρ d) λx S2=>ai (fi ρ S2) λk c=>jr x k v ρ c:=rfl
theorem zy {o:List Nat}{R:List Row}{sh:Sh}(w:Wr o R)(L:o.Perm (List.range sh.length))(h1 : 0<R.length)(hR:R.length<15000000)(S:IL) :
  ∃ cs,cF [.tup (R.map aE),Ja sh] S=IX (.loc S.length) (S++[.lst (JG cs)])/\cs.length=R.length/\∀ i,0<cs.getD i 0↔Rc R sh i:=by
 have M:∀ c∈o,c<sh.length:=λc hc=>mem_range.mp (L.mem_iff.mp hc)
 have E:=dC (u:=aD 0) (fe:=fQ) (λh => ∃ y,h=[y]) (λ_ => .int 0) S (R.map aE) (aY 1 [] [some (.tup (R.map aE)),some (Ja sh),none,none,none,none]) ⟨none,rfl⟩ (by
  rintro d hd h ⟨y,rfl⟩
  exact⟨_,rfl,⟨_,rfl⟩,rfl⟩)
 have s:(R.map aE).map (λ_=>D.int 0)=JG (replicate R.length 0):=by rw[map_map,JG,List.map_replicate];exact List.map_const' ..
 rw[s] at E;have F:bU (.tup (R.map aE))=some (R.map aE):=rfl;have v:=λS=>u7 sh S
 have A:=Al (S:=S) (cs:=replicate R.length 0) (b:=R.length-1) (by rw[length_replicate];omega) (i:=-1) (by
  rw[length_replicate];unfold OF;rw[if_neg (by decide),if_pos (by omega)]
  congr 1;omega) (2 ^ iE sh) [some (.tup (R.map aE)),some (Ja sh),some (.loc S.length),none,none,none]
 generalize O:(replicate R.length 0).set (R.length-1) (2 ^ iE sh)=l at A;have m:∀ i,l.getD i 0=if i=R.length-1 then 2 ^ iE sh else 0:=λi=>by rw[← O,iH _ _ (by rw[length_replicate];omega),vn]
 have N:CI o R sh 0 l:=by
  refine⟨by rw[← O,length_set,length_replicate],λi f=>?_,λi f=>?_⟩
  ·rw[m] at f;split at f
   ·rename_i e;rw[e];exact .top
   omega
  rcases f with e |⟨j,r,q,hr,_⟩
  ·rw[m,if_pos e];exact pow_le_pow_right (by decide) (Fw L _)
  have:=(List.getElem?_eq_some_iff.mp hr).1;omega
 have ln:cm [.tup (R.map aE)]=some (.int R.length):=by unfold cm;simp
 have Q:tf [.int ((R.length:Int)-1),.int (-1),.int (-1)]=some ((List.range R.length).map λ(k:Nat)=>D.int ((R.length:Int)-1-k)):=by unfold tf;simp only;rw[if_pos ⟨by omega,by omega,by decide,by decide,trivial⟩,show ((R.length:Int)-1 - -1).toNat=R.length by omega]
 obtain⟨W,B,T,cs,t,n,g,rfl,rfl,a⟩:=bZ (u:=aD 3) (body:=db)
  (λk h B => ∃ cs t n g,h=[some (.tup (R.map aE)),some (Ja sh),some (.loc S.length),t,n,g]/\B=S++[.lst (JG cs)]/\CI o R sh k cs)
  ((List.range R.length).map λ(k:Nat)=>D.int ((R.length:Int)-1-k)) 0 [some (.tup (R.map aE)),some (Ja sh),some (.loc S.length),none,none,none] (S++[.lst (JG l)]) ⟨l,none,none,none,rfl,rfl,N⟩ (by
   rintro j d h B hd ⟨cs,t,n,g,rfl,rfl,a⟩;rw[zero_add] at a ⊢;rw[getElem?_map] at hd;obtain⟨p,q,rfl⟩:=map_eq_some_iff.mp hd;have V:j<R.length:=by have:=(List.getElem?_eq_some_iff.mp q).1;simpa using this
   have ej:p=j:=by rw[getElem?_range V] at q;exact(Option.some.inj q).symm
   subst ej;obtain⟨i,f⟩:∃ i,i+p+1=R.length:=⟨R.length-p-1,by omega⟩;have K:i<R.length:=by omega
   have hr:R[i]?=some R[i]:=List.getElem?_eq_getElem K;have Y:(R.length:Int)-1-p=i:=by omega
   rw[Y];have U:=B0 w M hr (S++[.lst (JG cs)]);have Z:JT (.tup (R.map aE)) (.int i) (S++[.lst (JG cs)])=some (aE R[i]):=by unfold JT;rw[if_neg (by simp[bP])];exact bD (by rw[getElem?_map,hr];rfl)
   obtain⟨J,x,lp,H,I,G,P⟩:=Be (i:=i) (ws:=dh sh R[i]) (cs:=cs) (by rw[a.len];exact K) (λb hb=>(mV w hr hb).1) (zO _) S (some (.tup (R.map aE))) (some (Ja sh)) g;refine⟨[some (.tup (R.map aE)),some (Ja sh),some (.loc S.length),some (.int i),n,g],rfl,_,_,?_,J,some (.int i),some (.tup (JG (dh sh R[i]))),x,rfl,rfl,a.step w M f hr H I G P⟩;have sw:bU (.tup (JG (dh sh R[i])))=some (JG (dh sh R[i])):=rfl;clear A v E s F m Q ln H I G P;generalize S++[MO.lst (JG J)]=S2 at *
   generalize S++[MO.lst (JG cs)]=S1 at *
   generalize D.tup (JG (dh sh R[i]))=wd at *
   generalize JG (dh sh R[i])=wl at *
   generalize aE R[i]=rd at *
   generalize D.tup (R.map aE)=fo at *
   generalize Ja sh=sd at *
   unfold db
   simp -implicitDefEqProofs [Z,U,sw,lp])
 rw[zero_add,length_map,length_range] at a;refine⟨cs,au rfl ?_,a.len,a.done w⟩;have X:yL (.int 1)=some (.int (-1)):=rfl;have sb:sR (.int R.length) (.int 1)=some (.int ((R.length:Int)-1)):=rfl;have C:=v (S++[.lst (JG (replicate R.length 0))]);clear v a N m s;generalize ((2 ^ iE sh:Nat):Int)=z at *
 generalize (List.range R.length).map (λ(k:Nat)=>D.int ((R.length:Int)-1-k))=rl at *
 generalize S++[MO.lst (JG cs)]=S3 at *
 generalize S++[MO.lst (JG l)]=S2 at *
 generalize JG (replicate R.length 0)=zs at *
 generalize R.map aE=rr at *
 generalize Ja sh=sd at *
 unfold hU;simp -implicitDefEqProofs [Dj,E_,E,F,C,X,A,ln,sb,Q,T]
abbrev Jh (ss:List Str):D:=.tup (ss.map .str)
theorem xx (n:Nat):∀ cs:List Nat,mR n (JG cs)=true
 |[]=>rfl
 |c::cs=>by
  show (LP n (.int c)&&mR n (JG cs))=true;rw[xx n cs];rfl
theorem forget_eq {f:IE D}{ρ:IM}{S:IL}{xs:List D}(h:f ρ S=IX (.loc S.length) (S++[.lst xs]))(b:mR S.length xs=true)(a:xs.length<=sizeLine):kI f ρ S=IX (.lst xs) S:=by
 unfold kI;rw[h];have g:(S++[MO.lst xs])[S.length]?=some (.lst xs):=by simp
 simp only[IX,g];exact if_pos ⟨le_refl _,by simp,b,a⟩
def wv:D->Bool
 | .tup [.tup [_,_],_]=>true
 |_=>false
def zA:D->D
 | .tup [.tup [_,x],k] => .tup [x,k]
 |_ => .Ji
def A5:D->Bool
 | .tup [_,.int k]=>decide (k > 0)
 |_=>false
def C_:D->D
 | .tup [x,_]=>x
 |_ => .Ji
theorem rz:∀ ds:List D,(∀ d∈ds,∃ ss,d=Jh ss)->∃ a:List (List Str),ds=a.map Jh
 |[],_=>⟨[],rfl⟩
 |d::ds,h=>by
  obtain⟨a,e⟩:=rz ds λx b=>h x (mem_cons_of_mem _ b);obtain⟨ss,c⟩:=h d (mem_cons_self ..);exact⟨ss::a,by rw[e,c];rfl⟩
theorem str_inj:∀ {a b:List Str},a.map D.str=b.map D.str->a=b
 |[],[],_=>rfl
 |[],_::_,h=>by simp at h
 |_::_,[],h=>by simp at h
 |x::a,y::b,h=>by
  rw[map_cons,map_cons,List.cons.injEq,D.str.injEq] at h;rw[h.1,str_inj h.2]
theorem rA {a b:List Str}(h:Jh a=Jh b):a=b:=str_inj (D.tup.inj h)
theorem qL {R:List Row}{cs:List Nat}(c:cs.length=R.length){d:D}:d∈h9 (R.map aE) (JG cs)↔∃ i r,R[i]?=some r/\d = .tup [aE r,.int ((cs.getD i 0:Nat):Int)]:=by
 have go:∀ {i:Nat}{r:Row},R[i]?=some r->(h9 (R.map aE) (JG cs))[i]?=some (.tup [aE r,.int ((cs.getD i 0:Nat):Int)]):=λ{i r} h=>by
  have a:=(List.getElem?_eq_some_iff.mp h).1;have hc:i<cs.length:=by omega
  exact m_ _ _ i (by rw[getElem?_map,h];rfl) (by rw[getElem?_map,List.getElem?_eq_getElem hc,List.getD,List.getElem?_eq_getElem hc];rfl)
 constructor
 ·intro h;obtain⟨i,a⟩:=getElem?_of_mem h;have b:=(List.getElem?_eq_some_iff.mp a).1;rw[cP,length_map,length_map] at b;have hr:R[i]?=some (R[i]'(by omega)):=List.getElem?_eq_getElem (by omega);rw[go hr] at a;exact⟨i,_,hr,(Option.some.inj a).symm⟩
 rintro⟨i,r,h,rfl⟩;exact mem_of_getElem? (go h)
theorem C9 {o:List Nat}{R:List Row}{sh:Sh}(w:Wr o R)(U:o.Perm (List.range sh.length))(N : 0<R.length)(V:R.length<2000)(S:IL) :
  ∃ b:List (List Str),cg [NQ R,Ja sh] S=IX (.lst (b.map Jh)) S/\b.length<=R.length/\∀ ss,ss∈b↔∃ i,R[i]?=some (.leaf ss)/\Rc R sh i:=by
 obtain⟨a,A,E,hc⟩:=zy w U N (by omega) S;have Q:BW [.tup (R.map aE),.lst (JG a)]=some (h9 (R.map aE) (JG a)):=rfl
 have F:=c9 (u:=kX 2 (a_ (aD 0) (a_ (aD 1) g9))) (gt:=fL) (fe:=iO) (λρ => ∃ x y,ρ=[x,y]) wv zA S (h9 (R.map aE) (JG a)) (aY 2 [] [some (.tup (R.map aE)),some (Ja sh)]) ⟨none,none,rfl⟩ (by
  rintro d hd ρ ⟨x,y,rfl⟩;obtain⟨i,r,hr,rfl⟩:=(qL E).mp hd;have q:=kL r S;refine⟨[some (aE r),some (.int ((a.getD i 0:Nat):Int))],rfl,⟨_,_,rfl⟩,?_,λl=>?_⟩
  ·have:∀ (k:Bool) (j:D),iZ [j] S=IX (.bl k) S->∀ z,fL [some j,some z] S=IX (!k) S:=λk j q z=>by
    unfold fL;simp -implicitDefEqProofs [q]
   cases r with
   |leaf ss=>exact this false _ q _
   |ask c n y=>exact this true _ q _
  cases r with
  |ask c n y=>exact absurd l (by simp[wv,aE])
  |leaf ss =>
   generalize ((a.getD i 0:Nat):Int)=z at *
   have v:JT (aE (.leaf ss)) (.int 1) S=some (Jh ss):=Qb _ _ _ S;have C:zA (.tup [aE (.leaf ss),.int z]) = .tup [Jh ss,.int z]:=rfl;have z1:Ln [Jh ss,.int z] (.tup [Jh ss,.int z])=some (.tup [Jh ss,.int z]):=bH (by simp);rw[C];generalize aE (.leaf ss)=j at *
   generalize Jh ss=nd at *
   unfold iO
   simp -implicitDefEqProofs [v,z1])
 have O:lU [NQ R,Ja sh] S=IX (.lst (((h9 (R.map aE) (JG a)).filter wv).map zA)) S:=by
  have K:=forget_eq (f:=aR cF (ah (af 0) (ah (af 1) aB))) (ρ:=[some (.tup (R.map aE)),some (Ja sh)]) (S:=S) (xs:=JG a) (by
   generalize S++[MO.lst (JG a)]=S2 at *
   generalize D.tup (R.map aE)=j at *
   generalize Ja sh=sd at *
   simp -implicitDefEqProofs [A]) (xx _ _) (Nat.le_trans (show (JG a).length<=2000 by rw[length_map];omega) (by decide))
  refine au rfl ?_;clear A;generalize h9 (R.map aE) (JG a)=zl at *
  generalize JG a=nc at *
  show lF [some (.tup (R.map aE)),some (Ja sh)] S=_;generalize D.tup (R.map aE)=j at *
  generalize Ja sh=sd at *
  unfold lF;simp -implicitDefEqProofs [K,Q,F]
 have m:∀ {d:D},d∈((h9 (R.map aE) (JG a)).filter wv).map zA↔∃ i ss,R[i]?=some (.leaf ss)/\d = .tup [Jh ss,.int ((a.getD i 0:Nat):Int)]:=λ{d}=>by
  rw[mem_map];constructor
  ·rintro⟨x,g,rfl⟩;obtain⟨g,l⟩:=mem_filter.mp g;obtain⟨i,r,hr,rfl⟩:=(qL E).mp g;cases r with
   |ask c n y=>exact absurd l (by simp[wv,aE])
   |leaf ss=>exact⟨i,ss,hr,rfl⟩
  rintro⟨i,ss,hr,rfl⟩;exact⟨_,mem_filter.mpr ⟨(qL E).mpr ⟨i,_,hr,rfl⟩,rfl⟩,rfl⟩
 have L:(((h9 (R.map aE) (JG a)).filter wv).map zA).length<=R.length:=by rw[length_map];refine Nat.le_trans (length_filter_le ..) ?_;rw[cP,length_map];omega
 clear F;generalize ((h9 (R.map aE) (JG a)).filter wv).map zA=L1 at *
 have H:=c9 (u:=aD 0) (gt:=cj) (fe:=cn) (λρ => ∃ x,ρ=[x]) A5 C_ S L1 (aY 1 [] [some (NQ R),some (Ja sh)]) ⟨none,rfl⟩ (by
  rintro d hd ρ ⟨x,rfl⟩;obtain⟨i,ss,hr,rfl⟩:=m.mp hd;generalize ((a.getD i 0:Nat):Int)=z at *
  have v:JT (.tup [Jh ss,.int z]) (.int 1) S=some (.int z):=Qb _ _ _ S;have I:JT (.tup [Jh ss,.int z]) (.int 0) S=some (Jh ss):=OP _ _ S;have M:UA (.int z) (.int 0)=some (.bl (A5 (.tup [Jh ss,.int z]))):=rfl;have C:C_ (.tup [Jh ss,.int z])=Jh ss:=rfl;rw[C];refine⟨_,rfl,⟨_,rfl⟩,?_,λ_=>?_⟩
  ·generalize A5 (.tup [Jh ss,.int z])=k at *
   show cj [some (.tup [Jh ss,.int z])] S=_;generalize D.tup [Jh ss,.int z]=p at *
   unfold cj;simp -implicitDefEqProofs [v,M]
  show cn [some (.tup [Jh ss,.int z])] S=_;generalize D.tup [Jh ss,.int z]=p at *
  generalize Jh ss=nd at *
  unfold cn
  simp -implicitDefEqProofs [I])
 have s:∀ {d:D},d∈(L1.filter A5).map C_↔∃ i ss,R[i]?=some (.leaf ss)/\0<a.getD i 0/\d=Jh ss:=λ{d}=>by
  rw[mem_map];constructor
  ·rintro⟨x,g,rfl⟩;obtain⟨g,l⟩:=mem_filter.mp g;obtain⟨i,ss,hr,rfl⟩:=m.mp g;have l:((a.getD i 0:Nat):Int) > 0:=of_decide_eq_true l;exact⟨i,ss,hr,by omega,rfl⟩
  rintro⟨i,ss,hr,G,rfl⟩;exact⟨_,mem_filter.mpr ⟨m.mpr ⟨i,_,hr,rfl⟩,decide_eq_true (by omega)⟩,rfl⟩
 have B:((L1.filter A5).map C_).length<=R.length:=by rw[length_map];exact Nat.le_trans (length_filter_le ..) L
 obtain⟨b,t⟩:=rz _ λd hd=>by
  obtain⟨i,ss,_,_,e⟩:=s.mp hd;exact⟨ss,e⟩
 rw[t] at H B;refine⟨b,au rfl ?_,by rw[length_map] at B;exact B,λss=>?_⟩
 ·have P:bU (.lst L1)=some L1:=rfl;clear A m s t;show fw [some (NQ R),some (Ja sh)] S=_;generalize b.map Jh=out at *
  generalize NQ R=j at *
  generalize Ja sh=sd at *
  unfold fw;simp -implicitDefEqProofs [O,P,H]
 have:ss∈b↔Jh ss∈b.map Jh:=⟨λh=>mem_map.mpr ⟨ss,h,rfl⟩,λh=>by
  obtain⟨T,J,e⟩:=mem_map.mp h
  rw[← rA e];exact J⟩
 rw[this,← t,s];constructor
 ·rintro⟨i,T,hr,G,e⟩;rw[rA e];exact⟨i,hr,(hc i).mp G⟩
 rintro⟨i,hr,rc⟩;exact⟨i,ss,hr,(hc i).mpr rc,rfl⟩
def ou (x:Str):D->Bool
 | .tup a=>a.any λd=>match d with | .str y=>decide (y=x) |_=>false
 |_=>false
theorem xz (x:Str)(ss:List Str):ou x (Jh ss)=decide (x∈ss):=by
 show ((ss.map D.str).any _)=_;rw[any_map]
 induction ss with
 |nil=>simp
 |cons a ss b =>
  rw[any_cons,b];by_cases h:a=x
  ·simp[h]
  have c:¬ x=a:=λe=>h e.symm;simp[h,c]
theorem BM (f:D->Bool)(ds:List D):zG [.lst (ds.map λd => .bl (f d))]=some (.bl (ds.any f)):=by rw[zG,xO];simp[any_map]
theorem Bd {fe:IE D}(f:fe=OI false (af 1) (af 0))(x:Str)(b:List (List Str))(S:IL)(y:Option D):bz (aD 0) cw fe (b.map Jh) [y,some (.str x)] S=some ((b.map Jh).map λd => .bl (ou x d),S):=by
 subst f;refine dC (λc => ∃ y,c=[y,some (.str x)]) (λd => .bl (ou x d)) S (b.map Jh) _ ⟨y,rfl⟩ ?_;rintro d hd c ⟨z,rfl⟩;obtain⟨a,_,rfl⟩:=mem_map.mp hd;have e:Pr false (.str x) (Jh a) S=_:=Bf false x a S;rw[Bool.false_bne,← xz] at e;refine⟨_,rfl,⟨_,rfl⟩,?_⟩;show OI false (af 1) (af 0) [some (Jh a),some (.str x)] S=_;generalize ou x (Jh a)=k at *
 generalize Jh a=nd at *
 simp -implicitDefEqProofs [e]
def GJ (q:(D->Bool)->List D->Bool)(op:List D->Option D):Prop:=∀ (f:D->Bool) (a:List D),op [.lst (a.map λd => .bl (f d))]=some (.bl (q f a))
theorem Gy {op:List D->Option D}{q:(D->Bool)->List D->Bool}(j:GJ q op){gt:IE Bool}{fe fi:IE D}(f:gt=bF (bh op (ah (bX 1 [0] (bt (af 1)) (aD 0) cw fi) aB)))(m:fi=OI false (af 1) (af 0))(i:fe=af 0)(a:List Str)(b:List (List Str))(S:IL)(y:Option D) :
  bz (aD 0) gt fe (a.map .str) [y,some (.lst (b.map Jh))] S=some ((a.filter λx=>q (ou x) (b.map Jh)).map .str,S):=by
 subst f i
 have h:=c9 (u:=aD 0) (gt:=bF (bh op (ah (bX 1 [0] (bt (af 1)) (aD 0) cw fi) aB))) (fe:=af 0) (λc => ∃ y,c=[y,some (.lst (b.map Jh))]) (λd=>match d with | .str x=>q (ou x) (b.map Jh) |_=>false) id S (a.map .str) [y,some (.lst (b.map Jh))] ⟨y,rfl⟩ (by
  rintro d hd c ⟨z,rfl⟩;obtain⟨x,n,rfl⟩:=mem_map.mp hd;have e:=Bd m x b S none;have l:=j (ou x) (b.map Jh);have g:bU (.lst (b.map Jh))=some (b.map Jh):=rfl;refine⟨[some (.str x),some (.lst (b.map Jh))],rfl,⟨_,rfl⟩,?_,λ_=>rfl⟩;show bF (bh op (ah (bX 1 [0] (bt (af 1)) (aD 0) cw fi) aB)) [some (.str x),some (.lst (b.map Jh))] S=IX (q (ou x) (b.map Jh)) S;have cp:aY 1 [0] [some (D.str x),some (D.lst (b.map Jh))]=[none,some (D.str x)]:=rfl;generalize q (ou x) (b.map Jh)=k at *
  generalize (b.map Jh).map (λd=>D.bl (ou x d))=l1 at *
  generalize D.lst (b.map Jh)=l2 at *
  generalize b.map Jh=l3 at *
  simp -implicitDefEqProofs [g,cp,e,l])
 rw[h,map_id,List.filter_map];rfl
def fJ (W:List Str)(a:List (List Str)):List Str:=W.filter λx=>(a.map Jh).any (ou x)
theorem Cv {W:List Str}{a:List (List Str)}{x:Str}:x∈fJ W a↔x∈W/\∃ ss∈a,x∈ss:=by unfold fJ;rw[mem_filter,any_map,any_eq_true];simp only[Function.comp,xz,decide_eq_true_eq]
theorem uu:∀ (b:List (List Str)) (n:Nat),(∀ ss∈b,ss.length<=n)->b.flatten.length<=n*b.length
 |[],n,_=>by simp
 |a::b,n,h=>by
  have:=uu b n λs c=>h s (mem_cons_of_mem _ c);have:=h a (mem_cons_self ..);rw[flatten_cons,List.length_append,length_cons,Nat.mul_succ];omega
theorem tI {R:List Row}{sh:Sh}{S:IL}{a:List (List Str)}(q:cg [NQ R,Ja sh] (S++[.lst []])=IX (.lst (a.map Jh)) (S++[.lst []]))(H:a.length<=600){W:List Str}(o:R7 W)(C:W.length<=6)(r:∀ ss∈a,ss.length<=6/\∀ x∈ss,x∈W):gU [NQ R,Ja sh] S=IX (Jh (fJ W a)) (S++[.lst (a.flatten.map .str)]):=by
 have lf:∀ j,(a.take j).flatten.length<=3600:=λj=>by have:=uu (a.take j) 6 λss c=>(r ss (mem_of_mem_take c)).1;rw[length_take] at this;omega
 obtain⟨z,i,k,x,rfl,rfl⟩:=bZ (u:=aD 3) (body:=gT) (λj b i => ∃ x,b=[some (NQ R),some (Ja sh),some (.loc S.length),x]/\i=S++[.lst ((a.take j).flatten.map .str)])
  (a.map Jh) 0 [some (NQ R),some (Ja sh),some (.loc S.length),none] (S++[.lst []]) ⟨none,rfl,rfl⟩ (by
   rintro j d b i hd ⟨x,rfl,rfl⟩;rw[zero_add];rw[getElem?_map] at hd;obtain⟨ss,c,rfl⟩:=map_eq_some_iff.mp hd;have m:a.take (j+1)=a.take j++[ss]:=by rw[List.take_add_one,c];rfl
   have n:=lf (j+1);rw[m,List.flatten_append,List.length_append,show [ss].flatten=ss by simp] at n;refine⟨[some (NQ R),some (Ja sh),some (.loc S.length),some (Jh ss)],rfl,[some (NQ R),some (Ja sh),some (.loc S.length),some (Jh ss)],_,?_,_,rfl,rfl⟩;rw[m,List.flatten_append,show [ss].flatten=ss by simp];have lo:cL (.loc S.length) (S++[.lst ((a.take j).flatten.map .str)])=some ((a.take j).flatten.map .str):=by unfold cL;simp
   have ex:zr (.loc S.length) (Jh ss) (S++[.lst ((a.take j).flatten.map .str)])=IX .Ji (S++[.lst (((a.take j).flatten++ss).map .str)]):=by
    unfold zr;have g:(S++[MO.lst ((a.take j).flatten.map .str)])[S.length]?=some (.lst ((a.take j).flatten.map .str)):=by simp
    simp only[g];rw[if_pos (Nat.le_trans (show _<=3600 by rw[length_map,length_map];exact n) (by decide)),List.set_append_right _ _ (le_refl _),sub_self,map_append];rfl
   generalize S++[MO.lst (((a.take j).flatten++ss).map .str)]=S2 at *
   generalize S++[MO.lst ((a.take j).flatten.map .str)]=p at *
   generalize Jh ss=sd at *
   generalize NQ R=rd at *
   generalize Ja sh=hd at *
   have Br:∀ (f:IE D) b S,oK f b S=ai (f b S) λ_ p=>IX (.next b) p:=λ_ _ _=>rfl;unfold gT Fi
   simp -implicitDefEqProofs [Br,lo,ex])
 rw[zero_add,length_map,take_length] at k;have t:=lf a.length;rw[take_length] at t;have nd:(fJ W a).Nodup:=(yJ o).sublist List.filter_sublist;have G:(fJ W a).length<=6:=Nat.le_trans (length_filter_le ..) C;have n1:=oo a.flatten [] nodup_nil
 have s:(a.flatten.foldl dz []).Perm (fJ W a):=(List.perm_ext_iff_of_nodup n1 nd).mpr λx=>by
  rw[qi,Cv,List.mem_flatten];refine⟨λh=>?_,λh => .inr h.2⟩;rcases h with h |⟨ss,c,l⟩
  ·cases h
  exact⟨(r ss c).2 x l,ss,c,l⟩
 have A:ip (a.flatten.map .str)=some (.lst ((fJ W a).map .str)):=by unfold ip;rw[if_pos (by rw[length_map];omega),p_,bind_some];have e:=uj a.flatten [];rw[map_nil] at e;rw[e,map_map];have E:(a.flatten.foldl dz []).map (Ri ∘ Sum.inr)=(a.flatten.foldl dz []).map D.str:=rfl;rw[E,yf _ (by rw[s.length_eq];omega)];have B:=(eI (CQ o (show (fJ W a).Sublist W from List.filter_sublist)).2).imp λ{x y} q=>C7 q;rw[← j4 s.symm B];rfl
 have lo:cL (.loc S.length) (S++[.lst (a.flatten.map .str)])=some (a.flatten.map .str):=by unfold cL;simp
 have w:=sO ((fJ W a).map .str);have v:bU (.lst (a.map Jh))=some (a.map Jh):=rfl;refine au rfl ?_;show jH [some (NQ R),some (Ja sh),none,none] S=_;show _=IX (Fl.ret (.tup ((fJ W a).map .str))) _;generalize D.lst (a.map Jh)=ld at *
 generalize a.map Jh=l3 at *
 generalize (fJ W a).map D.str=out at *
 generalize S++[MO.lst (a.flatten.map .str)]=S2 at *
 generalize a.flatten.map D.str=fl at *
 have F:∀ b,uO b S=IX (.loc S.length) (S++[.lst []]):=λ_=>rfl;generalize NQ R=rd at *
 generalize Ja sh=sd at *
 unfold jH lM;simp -implicitDefEqProofs [F,q,v,k,lo,A,w]
def Qd (sh:Sh)(th:Th):Prop:=∀ c b,sh[c]?=some (some b)->th c=b
section
variable {o:List Nat}{R:List Row}{sh:Sh}
theorem Ev.rc {th:Th}(a:Qd sh th){i:Nat}{ss:List Str}(e:Ev R th i ss):Rc R sh i->∃ j,R[j]?=some (.leaf ss)/\Rc R sh j:=by
 have go:∀ {c n y:Nat},(if th c=true then y else n)∈dh sh (.ask c n y):=λ{c n y}=>by
  show _∈(match sh[c]? with |some (some b)=>[if b=true then y else n] |_=>[n,y]);split
  ·rename_i b hb;rw[a c b hb];exact mem_singleton.mpr rfl
  split<;>simp
 induction e with
 |leaf h=>exact λrc=>⟨_,h,rc⟩
 | @no i c n y ss h t _ d =>
  refine λrc=>d (.go rc h ?_);have:=go (c:=c) (n:=n) (y:=y);rw[t] at this;exact this
 | @yes i c n y ss h t _ d =>
  refine λrc=>d (.go rc h ?_);have:=go (c:=c) (n:=n) (y:=y);rw[t] at this;exact this
theorem Rc.th (w:Wr o R){i:Nat}(rc:Rc R sh i):∃ th,Qd sh th/\∀ d ss,(∀ c,o.idxOf c<Jd.pl o R i->d c=th c)->Ev R d i ss->Ev R d (R.length-1) ss:=by
 induction rc with
 |top=>exact⟨λc=>(sh[c]?.getD none).getD false,λc b h=>by simp only[h];rfl,λd ss _ e=>e⟩
 | @go i b r rc hr hb p =>
  obtain⟨th,a,h⟩:=p;obtain⟨_,c,n,y,rfl,hc,q,s⟩:=mV w hr hb;have hb:b∈(match sh[c]? with |some (some b)=>[if b=true then y else n] |_=>[n,y]):=hb
  have fin:∀ v:Bool,b=(if v=true then y else n)->(∀ u,sh[c]?=some (some u)->u=v)->∃ th,Qd sh th/\∀ d ss,(∀ c,o.idxOf c<Jd.pl o R b->d c=th c)->Ev R d b ss->Ev R d (R.length-1) ss:=λv k g=>by
   refine⟨upd th c v,λx u f=>?_,λd ss l e=>?_⟩
   ·unfold upd;split
    ·rename_i ex;rw[ex] at f;exact(g u f).symm
    exact a x u f
   have m:d c=v:=by rw[l c s,IY]
   refine h d ss (λx f=>?_) ?_
   ·rw[q] at f;rw[l x (by omega)];unfold upd;rw[if_neg (λex=>by rw[ex] at f;omega)]
   cases v with
   |true=>exact .yes hr m (by rw[k] at e;exact e)
   |false=>exact .no hr m (by rw[k] at e;exact e)
  split at hb
  ·rename_i v g;exact fin v (mem_singleton.mp hb) λu j=>by rw[g] at j;cases j;rfl
  rename_i g;rcases mem_cons.mp hb with e |e
  ·exact fin false e λu j=>absurd j (g u)
  exact fin true (mem_singleton.mp e) λu j=>absurd j (g u)
theorem Ev.congr (w:Wr o R){th b:Th}(d:∀ c∈o,th c=b c){i:Nat}{ss:List Str}(e:Ev R th i ss):Ev R b i ss:=by
 induction e with
 |leaf h=>exact .leaf h
 |no h t _ a=>exact .no h (by rw[← d _ (w _ _ h).1];exact t) a
 |yes h t _ a=>exact .yes h (by rw[← d _ (w _ _ h).1];exact t) a
theorem v4 (w:Wr o R)(f:o.Perm (List.range sh.length))(ss:List Str):(∃ i,R[i]?=some (.leaf ss)/\Rc R sh i)↔∃ ts,mT sh.length ts/\Qd sh (tv ts)/\Ev R (tv ts) (R.length-1) ss:=by
 constructor
 ·rintro⟨i,g,rc⟩;obtain⟨th,a,h⟩:=rc.th w;have e:=h th ss (λ_ _=>rfl) (.leaf g);have ev:∀ c,c<sh.length->tv ((List.range sh.length).map λc=>if th c=true then 1 else 0) c=th c:=λc hc=>by unfold tv;rw[List.getD,getElem?_map,getElem?_range hc];cases hv:th c<;>simp[hv]
  refine⟨(List.range sh.length).map λc=>if th c=true then 1 else 0,⟨by simp,λx d=>?_⟩,λc b hb=>?_,e.congr w λc hc=>(ev c (mem_range.mp (f.mem_iff.mp hc))).symm⟩
  ·obtain⟨c,_,rfl⟩:=mem_map.mp d;split
   ·exact .inr rfl
   exact .inl rfl
  rw[ev c (List.getElem?_eq_some_iff.mp hb).1];exact a c b hb
 rintro⟨ts,_,a,e⟩;exact e.rc a .top
end
theorem vN:∀ (t:Tr) (a:List Tr),(po t a).length<=a.length+QG t
 | .leaf e,a=>by
  unfold po;split
  ·omega
  simp[QG]
 | .node c n y,a=>by
  rw[po];split
  ·omega
  have b:=vN n a;have d:=vN y (po n a);rw[List.length_append];simp only[QG,length_cons,length_nil];omega
theorem nZ {o:List Nat}:∀ (t:Tr) (k:Nat),Ord o t->o.length<=tp o t+k->QG t+1<=2 ^ (k+1)
 | .leaf _,k,_,_=>by
  have : 2 ^ 1<=2 ^ (k+1):=pow_le_pow_right (by decide) (by omega);simpa [QG] using this
 | .node c n y,k,h,a=>by
  obtain⟨hc,d,b,i,g,_⟩:=h;have a:o.length<=o.idxOf c+k:=a;have:=idxOf_lt_length_iff.mpr hc;obtain⟨k,rfl⟩:∃ j,k=j+1:=⟨k-1,by omega⟩;have e:=nZ n k d (by omega);have f:=nZ y k b (by omega);rw[pow_succ];simp only[QG];omega
theorem Bq {o:List Nat}{t:Tr}(h:Ord o t)(c:o.length<=6):(enc (po t [])).length<=127:=by have a:=vN t [];have b:=nZ t 6 h (by omega);unfold enc;rw[length_map];rw[length_nil] at a;have : 2 ^ (6+1)=128:=rfl;omega
theorem uE {α:Type}{u:D->IM->Option IM}{gt:IE Bool}{fe:IE D}(k : α->D)(I:IM->Prop)(Q : α->Prop)(P : α->D->Prop)(S:IL) :
  ∀ (as:List α) (ρ:IM),I ρ->(∀ a∈as,∀ ρ,I ρ->∃ c b,u (k a) ρ=some c/\I c/\gt c S=IX b S/\(b=true↔Q a)/\∃ x,fe c S=IX x S/\P a x)->∃ out,bz u gt fe (as.map k) ρ S=some (out,S)/\(∀ x∈out,∃ a∈as,Q a/\P a x)/\∀ a∈as,Q a->∃ x∈out,P a x
 |[],ρ,_,_=>⟨[],rfl,(λx hx=>by cases hx),(λa s=>by cases s)⟩
 |a::as,ρ,hI,h=>by
  obtain⟨c,b,g,p,n,i,y,o,m⟩:=h a (mem_cons_self ..) ρ hI;obtain⟨out,q,l,j⟩:=uE k I Q P S as c p λx hx=>h x (mem_cons_of_mem _ hx);have f:∀ {α:Type}(v : α),PY (IX v S)=some (v,S):=λ_=>rfl;cases b with
  |true =>
   refine⟨y::out,?_,λx hx=>?_,λx hx e=>?_⟩
   ·rw[map_cons,bz,g,bind_some,n,f,bind_some];simp only[if_true];rw[o,f,bind_some];simp only[q,map_some]
   ·rcases mem_cons.mp hx with rfl |hx
    ·exact⟨a,mem_cons_self ..,i.mp rfl,m⟩
    obtain⟨z,d,r⟩:=l x hx;exact⟨z,mem_cons_of_mem _ d,r⟩
   rcases mem_cons.mp hx with rfl |hx
   ·exact⟨y,mem_cons_self ..,m⟩
   obtain⟨z,d,r⟩:=j x hx e;exact⟨z,mem_cons_of_mem _ d,r⟩
  |false =>
   refine⟨out,?_,λx hx=>?_,λx hx e=>?_⟩
   ·rw[map_cons,bz,g,bind_some,n,f,bind_some];simp only[false_eq_true,if_false,q]
   ·obtain⟨z,d,r⟩:=l x hx;exact⟨z,mem_cons_of_mem _ d,r⟩
   rcases mem_cons.mp hx with rfl |hx
   ·exact absurd (i.mpr e) (by decide)
   exact j x hx e
section
variable {sh:Sh}{ts:List Int}
def R8 (sh:Sh)(th:Th):D->Bool
 | .int k=>match sh[k.toNat]? with
  |some (some b)=>b != th k.toNat
  |_=>false
 |_=>false
theorem zH (m:mT sh.length ts)(s:sh.length<=8)(S:IL):∃ b,jT [ML ts,Ja sh] S=IX (.bl b) S/\(b=true↔Qd sh (tv ts)):=by
 have l:di [.int sh.length]=some ((List.range sh.length).map λ(k:Nat)=>D.int k):=by have:=vI sh.length (by omega) (by omega);simpa using this
 have n:om .Ji .Ji=some (.bl false):=rfl;have j:∀ z:Int,om (.int z) .Ji=some (.bl true):=λ_=>rfl
 have q:=c9 (u:=aD 0) (gt:=d8) (fe:=kA) (λg => ∃ y,g=[y,some (Ja sh),some (ML ts)]) (R8 sh (tv ts)) id S ((List.range sh.length).map λ(k:Nat)=>D.int k) (aY 1 [1,0] [some (ML ts),some (Ja sh)]) ⟨none,rfl⟩ (by
  rintro d hd g ⟨y,rfl⟩;obtain⟨k,a,rfl⟩:=mem_map.mp hd;have a:=mem_range.mp a;have es:sh[k]?=some sh[k]:=List.getElem?_eq_getElem a;have e:=zZ es S;have t1:=DF m a S;refine⟨[some (.int k),some (Ja sh),some (ML ts)],rfl,⟨_,rfl⟩,?_,λ_=>rfl⟩;have i:R8 sh (tv ts) (.int k)=match sh[k] with |some b=>b != tv ts k |_=>false:=by show (match sh[((k:Int)).toNat]? with |some (some b)=>b != tv ts ((k:Int)).toNat |_=>false)=_;rw[show ((k:Int)).toNat=k by simp,es];cases sh[k]<;>rfl
  rw[i];clear i hd;generalize Ja sh=sd at *
  generalize ML ts=td at *
  cases hv:sh[k] with
  |none =>
   rw[hv] at e;unfold d8;simp -implicitDefEqProofs [e,JB,n]
  |some b =>
   rw[hv] at e;have n1:RM (.int (if b=true then 1 else 0)) (.int (if tv ts k=true then 1 else 0))=some (.bl (b != tv ts k)):=by rw[CW];cases b<;>cases tv ts k<;>rfl
   unfold d8
   simp -implicitDefEqProofs [e,t1,JB,j,n1])
 rw[map_id] at q;have f:Px (((List.range sh.length).map λ(k:Nat)=>D.int k).filter (R8 sh (tv ts)))=true:=by rw[xc];intro d hd;obtain⟨k,_,rfl⟩:=mem_map.mp (mem_filter.mp hd).1;rfl
 have p:=Dg f;refine⟨(((List.range sh.length).map λ(k:Nat)=>D.int k).filter (R8 sh (tv ts))).isEmpty,au rfl ?_,?_⟩
 ·have ld:cm [Ja sh]=some (.int sh.length):=by unfold cm;simp
  have o:Ln [] (.lst [])=some (.lst []):=rfl;have cp:aY 1 [1,0] [some (ML ts),some (Ja sh)]=[none,some (Ja sh),some (ML ts)]:=rfl;show jJ [some (ML ts),some (Ja sh)] S=_;rw[cp] at q;clear f;generalize (((List.range sh.length).map λ(k:Nat)=>D.int k).filter (R8 sh (tv ts))).isEmpty=r at *
  generalize ((List.range sh.length).map λ(k:Nat)=>D.int k).filter (R8 sh (tv ts))=fl at *
  generalize (List.range sh.length).map (λ(k:Nat)=>D.int k)=rl at *
  generalize ML ts=td at *
  generalize Ja sh=sd at *
  unfold jJ;simp -implicitDefEqProofs [ld,l,cp,q,o,p]
 rw[List.isEmpty_iff,List.filter_eq_nil_iff];constructor
 ·intro h c b hb;have hc:=(List.getElem?_eq_some_iff.mp hb).1;have:=h (.int c) (mem_map.mpr ⟨c,mem_range.mpr hc,rfl⟩);have this:¬ (match sh[((c:Int)).toNat]? with |some (some b)=>b != tv ts ((c:Int)).toNat |_=>false)=true:=this;rw[show ((c:Int)).toNat=c by simp,hb] at this;revert this;cases b<;>cases tv ts c<;>decide
 intro h d hd;obtain⟨k,_,rfl⟩:=mem_map.mp hd;show ¬ (match sh[((k:Int)).toNat]? with |some (some b)=>b != tv ts ((k:Int)).toNat |_=>false)=true;rw[show ((k:Int)).toNat=k by simp];split
 ·rename_i b hb;rw[h k b hb];cases b<;>decide
 decide
end
theorem Cw {W:List Str}{a b:List (List Str)}(h:∀ ss,ss∈a↔ss∈b):fJ W a=fJ W b:=by refine List.filter_congr λx _=>?_;rw[Bool.eq_iff_iff,any_map,any_map,any_eq_true,any_eq_true];simp only[h]
def cC (k:Nat):Sh->List Nat
 |[]=>[]
 |none::r=>k::cC (k+1) r
 |some _::r=>cC (k+1) r
theorem sM:∀ (sh:Sh) (k:Nat),((bx k (sh.map JB)).filter qN).map B2=(cC k sh).map λ(c:Nat)=>D.int c
 |[],k=>rfl
 |v::sh,k=>by
  have a:=sM sh (k+1);rw[map_cons,bx,filter_cons];cases v with
  |none=>rw[if_pos (show qN (D.tup [D.int k,JB none])=true from rfl),map_cons,a];rfl
  |some b=>rw[if_neg (by simp[qN,JB,lB]),a];rfl
theorem LR:∀ {sh:Sh}{k c:Nat},c∈cC k sh↔k<=c/\sh[c-k]?=some none
 |[],k,c=>by simp[cC]
 |none::sh,k,c=>by
  rw[cC,mem_cons,LR];constructor
  ·rintro (rfl |⟨d,a⟩)
   ·exact⟨le_refl _,by simp⟩
   exact⟨by omega,by rw[show c-k=(c-(k+1))+1 by omega,getElem?_cons_succ];exact a⟩
  rintro⟨d,a⟩;by_cases e:c=k
  ·exact .inl e
  exact .inr ⟨by omega,by rw[show c-k=(c-(k+1))+1 by omega,getElem?_cons_succ] at a;exact a⟩
 |some b::sh,k,c=>by
  rw[cC,LR];constructor
  ·rintro⟨d,a⟩;exact⟨by omega,by rw[show c-k=(c-(k+1))+1 by omega,getElem?_cons_succ];exact a⟩
  rintro⟨d,a⟩;have e:¬ c=k:=λe=>by subst e;simp at a
  exact⟨by omega,by rw[show c-k=(c-(k+1))+1 by omega,getElem?_cons_succ] at a;exact a⟩
theorem vo (sh:Sh)(S:IL):df [Ja sh] S=IX (.lst ((cC 0 sh).map λ(c:Nat)=>D.int c)) S:=by
 have q:=c9 (u:=kX 2 (a_ (aD 0) (a_ (aD 1) g9))) (gt:=eP) (fe:=fy) (λf => ∃ x y,f=[x,y]) qN B2 S (bx 0 (sh.map JB)) (aY 2 [] [some (Ja sh)]) ⟨none,none,rfl⟩ (by
  rintro d hd f ⟨x,y,rfl⟩;obtain⟨i,g⟩:=getElem?_of_mem hd;rw[dB] at g;obtain⟨v,a,rfl⟩:=map_eq_some_iff.mp g;rw[getElem?_map] at a;obtain⟨b,_,rfl⟩:=map_eq_some_iff.mp a;refine⟨_,rfl,⟨_,_,rfl⟩,?_,λ_=>rfl⟩;cases b with
  |none=>rfl
  |some b=>rfl)
 rw[sM] at q;refine au rfl ?_;have e:mF [Ja sh]=some (bx 0 (sh.map JB)):=rfl;generalize (cC 0 sh).map (λ(c:Nat)=>D.int c)=out at *
 generalize bx 0 (sh.map JB)=l at *
 generalize Ja sh=sd at *
 unfold gJ;simp[e,q]
def Nx (M:Nat->Int):List Nat->Option Nat->Int->Option Nat
 |[],b,_=>b
 |d::ds,b,k=>if M d<k then Nx M ds (some d) (M d) else Nx M ds b k
theorem oN (M:Nat->Int):∀ (ds:List Nat) (b:Nat) (k:Int),∃ a,Nx M ds (some b) k=some a
 |[],b,k=>⟨b,rfl⟩
 |d::ds,b,k=>by
  rw[Nx];split
  ·exact oN M ds d _
  exact oN M ds b k
theorem n9 {M:Nat->Int}{g:D->IL->Out D}:∀ (ds:List Nat) (b a:Nat) (k:Int) (S:IL),(∀ c∈ds,∀ S,∃ E,g (.int c) S=IX (.int (M c)) (S++E))->Nx M ds (some b) k=some a->∃ E,iG g (ds.map λ(c:Nat)=>D.int c) (.int b) k S=IX (.int a) (S++E)
 |[],b,a,k,S,_,e=>⟨[],by cases e;rw[append_nil];rfl⟩
 |d::ds,b,a,k,S,h,e=>by
  obtain⟨f,n⟩:=h d (mem_cons_self ..) S;have l:=λc hc=>h c (mem_cons_of_mem _ hc);rw[map_cons,iG,n];rw[Nx] at e;simp only[xD,cD];by_cases m:M d<k
  ·rw[if_pos m] at e ⊢;obtain⟨j,i⟩:=n9 ds d a (M d) (S++f) l e;exact⟨f++j,by rw[i,List.append_assoc]⟩
  rw[if_neg m] at e ⊢;obtain⟨j,i⟩:=n9 ds b a k (S++f) l e;exact⟨f++j,by rw[i,List.append_assoc]⟩
theorem max2 (a b:Int):oa [.lst [.int a,.int b]]=some (.int (if a<b then b else a)):=rfl
def Nb:Option Nat->D
 |none => .Ji
 |some c => .int c
structure Py (W:List Str) (fd kd:D) (sh:Sh) (n:Nat):Prop where
 pos:∀ S,∃ p E,gU [fd,Ja sh] S=IX (Jh p) (S++E)/\p.length=n
 law:∀ S,eL [kd,Ja sh,Jh W] S=IX (.int n) S
 low:n<=6
def Kw (f:Nat->Bool->Nat)(c:Nat):Int:=if (f c false:Int)<f c true then f c true else f c false
theorem C5 {W:List Str}{fd kd:D}{sh:Sh}{m c:Nat}(p:m<=8)(q:sh.length=m)(hc:c<m){f:Nat->Bool->Nat}(h:∀ b,Py W fd kd (sh.set c (some b)) (f c b))(S:IL) :
  ∃ E,iX [fd,Ja sh,.int c] S=IX (.int (Kw f c)) (S++E):=by
 have e:∀ S,eK [Ja sh,.int c,.int 0] S=IX (Ja (sh.set c (some false))) S:=λS=>tw p q hc (some false) S _ rfl;have d:∀ S,eK [Ja sh,.int c,.int 1] S=IX (Ja (sh.set c (some true))) S:=λS=>tw p q hc (some true) S _ rfl;obtain⟨o,E0,n,x⟩:=(h false).pos S;obtain⟨l,a,g,t⟩:=(h true).pos (S++E0);have i:cm [Jh o]=some (.int (f c false:Nat)):=by unfold cm;simp[x]
 have n1:cm [Jh l]=some (.int (f c true:Nat)):=by unfold cm;simp[t]
 have A:=max2 (f c false:Nat) (f c true:Nat)
 have k:bR [some (.int 0),some fd,some (Ja sh),some (.int c)] S=IX (.int (f c false:Nat)) (S++E0):=by
  generalize Jh o=x0 at *
  generalize Ja (sh.set c (some false))=y0 at *
  generalize Ja sh=sd at *
  generalize ((f c false:Nat):Int)=z0 at *
  generalize S++E0=S1 at *
  unfold bR;simp -implicitDefEqProofs [e,n,i]
 have j:bR [some (.int 1),some fd,some (Ja sh),some (.int c)] (S++E0)=IX (.int (f c true:Nat)) (S++E0++a):=by
  generalize Jh l=x0 at *
  generalize Ja (sh.set c (some true))=y0 at *
  generalize Ja sh=sd at *
  generalize ((f c true:Nat):Int)=z0 at *
  generalize S++E0++a=S2 at *
  generalize S++E0=S1 at *
  unfold bR;simp -implicitDefEqProofs [d,g,n1]
 have z:bz (aD 0) cw bR [.int 0,.int 1] [none,some fd,some (Ja sh),some (.int c)] S=some ([.int (f c false:Nat),.int (f c true:Nat)],S++E0++a):=by have s:∀ {α:Type}(v : α) (S:IL),PY (IX v S)=some (v,S):=λ_ _=>rfl;have y:∀ (v:D) (w:Option D),aD 0 v [w,some fd,some (Ja sh),some (.int c)]=some [some v,some fd,some (Ja sh),some (.int c)]:=λ_ _=>rfl;simp[bz,y,k,j,s]
 refine⟨E0++a,?_⟩;rw[← List.append_assoc];refine au rfl ?_;have u:bU (.tup [.int 0,.int 1])=some [.int 0,.int 1]:=rfl;have cp:aY 1 [0,1,2] [some fd,some (Ja sh),some (.int c)]=[none,some fd,some (Ja sh),some (.int c)]:=rfl;clear k j n g e d i n1;show iK [some fd,some (Ja sh),some (.int c)] S=IX (Fl.ret (.int (if ((f c false:Nat):Int)<(f c true:Nat) then ((f c true:Nat):Int) else (f c false:Nat)))) _;generalize (if ((f c false:Nat):Int)<(f c true:Nat) then ((f c true:Nat):Int) else (f c false:Nat))=r at *
 generalize ((f c false:Nat):Int)=z0 at *
 generalize ((f c true:Nat):Int)=z1 at *
 generalize S++E0++a=S2 at *
 generalize Ja sh=sd at *
 unfold iK;simp -implicitDefEqProofs [u,cp,z,A]
theorem xg {W:List Str}{fd kd:D}{sh:Sh}{m:Nat}(v:m<=8)(n:sh.length=m){f:Nat->Bool->Nat}(h:∀ c,c<m->∀ b,Py W fd kd (sh.set c (some b)) (f c b)){S:IL}(u:ft "next_of" "next_of.<locals>.<lambda>" S=true) :
  ∃ E,eN [fd,Ja sh] S=IX (Nb (Nx (Kw f) (cC 0 sh) none 99)) (S++E):=by
 have ex:=vo sh S
 have g:∀ c∈cC 0 sh,∀ S,∃ E,cR [some (.int c),some fd,some (Ja sh)] S=IX (.int (Kw f c)) (S++E):=λc hc S=>by
  have j:sh[c]?=some none:=by have:=(LR.mp hc).2;simpa using this
  have e:c<m:=by rw[← n];exact(List.getElem?_eq_some_iff.mp j).1
  obtain⟨E,q⟩:=C5 v n e (h c e) S;refine⟨E,?_⟩;generalize Ja sh=sd at *
  generalize S++E=k at *
  generalize Kw f c=r at *
  unfold cR;simp -implicitDefEqProofs [q]
 have low:∀ c∈cC 0 sh,Kw f c<99:=λc hc=>by
  have j:sh[c]?=some none:=by have:=(LR.mp hc).2;simpa using this
  have e:c<m:=by rw[← n];exact(List.getElem?_eq_some_iff.mp j).1
  have a:=(h c e false).low;have b:=(h c e true).low;unfold Kw;split<;>omega
 have fin:∃ E,pZ "next_of" "next_of.<locals>.<lambda>" [0,1] cR (.lst ((cC 0 sh).map λ(c:Nat)=>D.int c)) [some fd,some (Ja sh)] S=IX (Nb (Nx (Kw f) (cC 0 sh) none 99)) (S++E):=by
  unfold pZ;rw[if_pos u];cases hu:cC 0 sh with
  |nil=>exact⟨[],by rw[append_nil];rfl⟩
  |cons c r =>
   rw[hu] at g low;obtain⟨l,i⟩:=g c (mem_cons_self ..) S;obtain⟨s,hb⟩:=oN (Kw f) r c (Kw f c);obtain⟨p,t⟩:=n9 (M:=Kw f) (g:=λd S=>cR ((aY 1 [0,1] [some fd,some (Ja sh)]).set 0 (some d)) S) r c s (Kw f c) (S++l) (λc hc S=>g c (mem_cons_of_mem _ hc) S) hb;refine⟨l++p,?_⟩;have i:cR ((aY 1 [0,1] [some fd,some (Ja sh)]).set 0 (some (.int c))) S=IX (.int (Kw f c)) (S++l):=i;rw[map_cons,Nx,if_pos (low c (mem_cons_self ..)),hb,← List.append_assoc];simp only[i,xD,cD,t];rfl
 obtain⟨E,q⟩:=fin;refine⟨E,au rfl ?_⟩;have o:∀ (a b:IE D) ρ S,BC "next_of" "next_of.<locals>.<lambda>" [0,1] a b ρ S=ai (a ρ S) λd k=>pZ "next_of" "next_of.<locals>.<lambda>" [0,1] b d ρ k:=λ_ _ _ _=>rfl;generalize (cC 0 sh).map (λ(c:Nat)=>D.int c)=ul at *
 generalize Nb (Nx (Kw f) (cC 0 sh) none 99)=r at *
 show lD [some fd,some (Ja sh)] S=_;generalize Ja sh=sd at *
 generalize S++E=k at *
 unfold lD;simp -implicitDefEqProofs [o,ex,q]
theorem Aq {sh:Sh}(K : 1<=sh.length)(N:sh.length<=6){d:D}(m:KQ sh.length 5 d){t:Tr}(z:∀ th ss,Kv th d ss->Nw t th=ss)(W:List Str)(S:IL) :
  ∃ g:List (List Str),eL [d,Ja sh,Jh W] S=IX (.int ((fJ W g).length:Nat)) S/\∀ ss,ss∈g↔∃ ts,mT sh.length ts/\Qd sh (tv ts)/\ss=Nw t (tv ts):=by
 obtain⟨i,E,A,M⟩:=ye K N S
 obtain⟨out,o,o1,o2⟩:=uE (u:=aD 0) (gt:=cT) (fe:=cZ) (k:=ML) (λs => ∃ y,s=[y,some d,some (Ja sh)]) (λts=>Qd sh (tv ts)) (λts x=>x=Jh (Nw t (tv ts))) S i [none,some d,some (Ja sh)] ⟨none,rfl⟩ (by
  rintro ts n s ⟨y,rfl⟩;have j:=A ts n;obtain⟨b,F,hb⟩:=zH j (by omega) S;obtain⟨ss,w⟩:=m.total (tv ts);have v:=uZ j S m (fuel:=15) w (by decide);rw[← z _ _ w] at v;refine⟨[some (ML ts),some d,some (Ja sh)],b,rfl,⟨_,rfl⟩,?_,hb,_,?_,rfl⟩
  ·generalize ML ts=td at *
   generalize Ja sh=sd at *
   unfold cT;simp -implicitDefEqProofs [F]
  generalize ML ts=td at *
  generalize Ja sh=sd at *
  show _=IX (D.tup ((Nw t (tv ts)).map .str)) S;generalize D.tup ((Nw t (tv ts)).map .str)=r at *
  unfold cZ
  simp -implicitDefEqProofs [v])
 obtain⟨g,B⟩:=rz out λx l=>by
  obtain⟨ts,_,_,e⟩:=o1 x l;exact⟨_,e⟩
 subst B;refine⟨g,au rfl ?_,λss=>?_⟩
 ·have p:=Gy (op:=zG) (q:=λf I=>I.any f) BM (gt:=eQ) (fe:=fz) (fi:=iM) rfl rfl rfl W g S none;have L:bz (aD 0) eQ fz (W.map .str) [none,some (.lst (g.map Jh))] S=some ((fJ W g).map D.str,S):=p;clear p;have n1:cm [.lst ((fJ W g).map .str)]=some (.int ((fJ W g).length:Nat)):=by unfold cm;simp
  have G:bU (.lst (LF i))=some (LF i):=rfl;have sw:bU (Jh W)=some (W.map .str):=rfl;have ld:cm [Ja sh]=some (.int sh.length):=by unfold cm;simp
  have cp:∀ (a b c:Option D),aY 1 [3] [a,b,c,some (.lst (g.map Jh))]=[none,some (.lst (g.map Jh))]:=λ_ _ _=>rfl;have J:bz (aD 0) cT cZ (LF i) [none,some d,some (Ja sh)] S=some (g.map Jh,S):=o;have C:∀ (b x:Option D),aY 1 [0,1] [some d,some (Ja sh),b,x]=[none,some d,some (Ja sh)]:=λ_ _=>rfl;show gK [some d,some (Ja sh),some (Jh W),none] S=_;clear o1 o2 z m o;generalize (fJ W g).map D.str=l1 at *
  generalize (((fJ W g).length:Nat):Int)=ln at *
  generalize D.lst (LF i)=l4 at *
  generalize LF i=l5 at *
  generalize W.map D.str=l6 at *
  generalize Jh W=l7 at *
  generalize Ja sh=sd at *
  generalize (g.map Jh)=l8 at *
  unfold gK;simp -implicitDefEqProofs [ld,E,G,C,J,sw,cp,L,n1]
 have:ss∈g↔Jh ss∈g.map Jh:=⟨λh=>mem_map.mpr ⟨ss,h,rfl⟩,λh=>by
  obtain⟨O,H,e⟩:=mem_map.mp h
  rw[← rA e];exact H⟩
 rw[this];constructor
 ·intro h;obtain⟨ts,n,a,e⟩:=o1 _ h;exact⟨ts,A ts n,a,rA e⟩
 rintro⟨ts,j,a,rfl⟩;obtain⟨x,l,e⟩:=o2 ts (M ts j) a;rw[← e];exact l
theorem Ep {o:List Nat}{sh:Sh}(x : 1<=sh.length)(y:sh.length<=6)(j:o.Perm (List.range sh.length)){W:List Str}(v:R7 W)(p:W.length<=6){d:D}(g:KQ sh.length 5 d)(kw:KW W d){t:Tr}(r:Ord o t)(w:Wr o (enc (po t [])))(ev:∀ th,Ev (enc (po t [])) th ((enc (po t [])).length-1) (Nw t th))(m:∀ th ss,Kv th d ss->Nw t th=ss) :
  ∃ n,Py W (oC t) d sh n:=by
 have A:o.length=sh.length:=by rw[j.length_eq,length_range]
 have sz:=Bq r (by omega);have u:=Di t;have lf:∀ S,∃ e:List (List Str),cg [oC t,Ja sh] S=IX (.lst (e.map Jh)) S/\e.length<=127/\(∀ ss,ss∈e↔∃ ts,mT sh.length ts/\Qd sh (tv ts)/\ss=Nw t (tv ts)):=λS=>by obtain⟨e,q,l,h⟩:=C9 w j u (by omega) S;refine⟨e,q,by omega,λss=>?_⟩;rw[h ss,v4 w j ss];exact⟨λ⟨ts,a,b,c⟩=>⟨ts,a,b,c.det (ev _)⟩,λ⟨ts,a,b,c⟩=>⟨ts,a,b,by rw[c];exact ev _⟩⟩
 obtain⟨e,C,B,s⟩:=lf [];have ex:∀ k:List (List Str),(∀ ss,ss∈k↔∃ ts,mT sh.length ts/\Qd sh (tv ts)/\ss=Nw t (tv ts))->fJ W k=fJ W e:=λk h=>Cw λss=>(h ss).trans (s ss).symm;refine⟨(fJ W e).length,⟨λS=>?_,λS=>?_,Nat.le_trans (length_filter_le ..) p⟩⟩
 ·obtain⟨f,q,ln,h⟩:=lf (S++[.lst []]);have:=tI q (by omega) v p λss z=>by obtain⟨ts,_,_,rfl⟩:=(h ss).mp z;obtain⟨ss,i⟩:=g.total (tv ts);rw[m _ ss i];exact⟨EU g i,Gn kw i⟩
  exact⟨_,_,this,by rw[ex f h]⟩
 obtain⟨f,q,h⟩:=Aq x y g m W S;rw[ex f h] at q;exact q
theorem yq {m k:Nat}(b:m<=8){sh:Sh}(c:sh.length=m)(a:k<m)(v:Option Bool) :
  M8 (Ja sh) none (some (k:Int))=some (.tup ((sh.take k).map JB))/\M8 (Ja sh) (some ((k:Int)+1)) none=some (.tup ((sh.drop (k+1)).map JB))/\br (.tup ((sh.take k).map JB)) (.tup [JB v])=some (.tup ((sh.take k).map JB++[JB v])) /\
  br (.tup ((sh.take k).map JB++[JB v])) (.tup ((sh.drop (k+1)).map JB))=some (Ja (sh.set k v)):=by
 refine⟨?_,?_,?_,?_⟩
 ·show some (D.tup (jm (sh.map JB) none (some (k:Int))))=_;rw[wo,map_take]
 ·show some (D.tup (jm (sh.map JB) (some (((k+1:Nat)):Int)) none))=_;rw[wp,map_drop]
 ·rw[gC,if_pos (Nat.le_trans (show _<=1000 by simp;omega) (by decide))]
 rw[gC,if_pos (Nat.le_trans (show _<=1000 by simp;omega) (by decide)),List.set_eq_take_append_cons_drop,if_pos (by omega)];simp[Ja]
theorem nv:∀ (l:Sh) (k:Nat) (v:Option Bool),cC k (l++[v])=cC k l++if v=none then [k+l.length] else []
 |[],k,none=>rfl
 |[],k,some b=>rfl
 |none::l,k,v=>by rw[cons_append,cC,nv l (k+1) v,cC,cons_append,length_cons,show k+1+l.length=k+(l.length+1) by omega]
 |some b::l,k,v=>by rw[cons_append,cC,nv l (k+1) v,cC,length_cons,show k+1+l.length=k+(l.length+1) by omega]
def NR (M:Nat->Int):List Nat->Option Nat×Int->Option Nat×Int
 |[],r=>r
 |d::ds,r=>NR M ds (if M d<r.2 then (some d,M d) else r)
theorem xN (M:Nat->Int):∀ (a b:List Nat) (r:Option Nat×Int),NR M (a++b) r=NR M b (NR M a r)
 |[],b,r=>rfl
 |d::a,b,r=>by rw[cons_append,NR,xN M a b];rfl
theorem sf (M:Nat->Int):∀ (l:List Nat) (b:Option Nat) (k:Int),Nx M l b k=(NR M l (b,k)).1
 |[],b,k=>rfl
 |d::l,b,k=>by
  rw[Nx,NR];by_cases h:M d<k
  ·rw[if_pos h,if_pos h,sf M l]
  rw[if_neg h,if_neg h,sf M l]
theorem CT (o:Option Nat):Bb "bool" (Nb o)=some (.bl false):=by cases o<;>rfl
theorem Gf (o:Option Nat):K0 (Nb o) (Nb o)=some (.bl true):=by
 cases o with
 |none=>simp[Nb,K0,toPy,PyData.eqv,PyData.depth]
 |some c=>simp[Nb]
theorem size_eq {W:List Str}{fd kd:D}{sh:Sh}{m c:Nat}(n:m<=8)(o:sh.length=m)(hc:c<m){f:Nat->Bool->Nat}(h:∀ b,Py W fd kd (sh.set c (some b)) (f c b))(S:IL)(y:Option D) :
  bz (aD 0) cw jf [.int 0,.int 1] [y,some kd,some (Jh W),some (Ja sh),some (.int c)] S=some ([.int (f c false:Nat),.int (f c true:Nat)],S):=by
 have key:∀ b:Bool,jf [some (JB (some b)),some kd,some (Jh W),some (Ja sh),some (.int c)] S=IX (.int (f c b:Nat)) S:=λb=>by
  obtain⟨i,e,a,g⟩:=yq n o hc (some b);have q:=(h b).law S;have z1:Ln [JB (some b)] (.tup [JB (some b)])=some (.tup [JB (some b)]):=bH (by simp);have ad:br (.int c) (.int 1)=some (.int ((c:Int)+1)):=rfl;generalize Ja (sh.set c (some b))=y2 at *
  generalize Ja sh=y3 at *
  generalize (sh.take c).map JB=y4 at *
  generalize (sh.drop (c+1)).map JB=y5 at *
  generalize Jh W=wd at *
  generalize JB (some b)=vb at *
  generalize ((f c b:Nat):Int)=r at *
  unfold jf;simp -implicitDefEqProofs [i,e,z1,a,g,ad,v_,q]
 have k:jf [some (.int 0),some kd,some (Jh W),some (Ja sh),some (.int c)] S=IX (.int (f c false:Nat)) S:=key false;have j:jf [some (.int 1),some kd,some (Jh W),some (Ja sh),some (.int c)] S=IX (.int (f c true:Nat)) S:=key true;have d:∀ {α:Type}(v : α) (S:IL),PY (IX v S)=some (v,S):=λ_ _=>rfl;have l:∀ (v:D) (w:Option D),aD 0 v [w,some kd,some (Jh W),some (Ja sh),some (.int c)]=some [some v,some kd,some (Jh W),some (Ja sh),some (.int c)]:=λ_ _=>rfl;simp[bz,l,k,j,d]
theorem Fp (sc od fd:D){W:List Str}{kd:D}{sh:Sh}{m c:Nat}(t:m<=8)(u:sh.length=m)(hc:c<m){f:Nat->Bool->Nat}(h:∀ b,Py W fd kd (sh.set c (some b)) (f c b))(r:Option Nat×Int)(l:Option D)(S:IL) :
  ∃ x,eE [some sc,some (.int m),some (Jh W),some kd,some od,some fd,some (Ja sh),some (Nb r.1),some (.int r.2),some (.int c),l,none] S =
   IX (.next [some sc,some (.int m),some (Jh W),some kd,some od,some fd,some (Ja sh),some (Nb (NR (Kw f) (if sh[c]?=some none then [c] else []) r).1),some (.int (NR (Kw f) (if sh[c]?=some none then [c] else []) r).2),some (.int c),x,none]) S:=by
 have es:sh[c]?=some (sh[c]'(by omega)):=List.getElem?_eq_getElem (by omega);have j:=zZ es S;have o:PV .Ji .Ji=some (.bl true):=rfl;have s:∀ z:Int,PV (.int z) .Ji=some (.bl false):=λ_=>rfl;cases hv:sh[c]'(by omega) with
 |some b =>
  rw[hv] at j es;have j:JT (Ja sh) (.int c) S=some (.int (if b=true then 1 else 0)):=j;refine⟨l,?_⟩;rw[es,if_neg (by simp)];show eE _ S=IX (.next [some sc,some (.int m),some (Jh W),some kd,some od,some fd,some (Ja sh),some (Nb r.1),some (.int r.2),some (.int c),l,none]) S;generalize Ja sh=sd at *
  generalize Jh W=wd at *
  generalize Nb r.1=n1 at *
  generalize (if b=true then (1:Int) else 0)=bi at *
  unfold eE;simp -implicitDefEqProofs [j,s]
 |none =>
  rw[hv] at j es;have j:JT (Ja sh) (.int c) S=some .Ji:=j;rw[es,if_pos rfl];have p:=size_eq t u hc h S none;have n:bU (.tup [.int 0,.int 1])=some [.int 0,.int 1]:=rfl;have q:oa [.lst [.int (f c false:Nat),.int (f c true:Nat)]]=some (.int (Kw f c)):=max2 _ _;have cp:∀ a b d e g i (x y:Option D),aY 1 [3,2,6,9] [a,b,some (Jh W),some kd,d,e,some (Ja sh),g,i,some (.int c),x,y]=[none,some kd,some (Jh W),some (Ja sh),some (.int c)]:=λ_ _ _ _ _ _ _ _=>rfl;have lt:Q0 (.int (Kw f c)) (.int r.2)=some (.bl (decide (Kw f c<r.2))):=rfl;refine⟨some (.lst [.int (f c false:Nat),.int (f c true:Nat)]),?_⟩;show _=IX (Fl.next [some sc,some (.int m),some (Jh W),some kd,some od,some fd,some (Ja sh),some (Nb (if Kw f c<r.2 then (some c,Kw f c) else r).1),some (.int (if Kw f c<r.2 then (some c,Kw f c) else r).2),some (.int c),some (.lst [.int (f c false:Nat),.int (f c true:Nat)]),none]) S;by_cases k:Kw f c<r.2
  ·rw[if_pos k];rw[decide_eq_true k] at lt;show _=IX (Fl.next [some sc,some (.int m),some (Jh W),some kd,some od,some fd,some (Ja sh),some (.int c),some (.int (Kw f c)),some (.int c),some (.lst [.int (f c false:Nat),.int (f c true:Nat)]),none]) S;clear h;generalize Kw f c=mc at *
   generalize [D.int (f c false:Nat),.int (f c true:Nat)]=zl at *
   generalize Ja sh=sd at *
   generalize Jh W=wd at *
   generalize Nb r.1=n1 at *
   unfold eE;simp -implicitDefEqProofs [j,o,n,cp,p,q,lt]
  rw[if_neg k];rw[decide_eq_false k] at lt;clear h;generalize Kw f c=mc at *
  generalize [D.int (f c false:Nat),.int (f c true:Nat)]=zl at *
  generalize Ja sh=sd at *
  generalize Jh W=wd at *
  generalize Nb r.1=n1 at *
  unfold eE;simp -implicitDefEqProofs [j,o,n,cp,p,q,lt]
theorem EQ (sc od fd:D){W:List Str}{kd:D}{sh:Sh}{m:Nat}(y:m<=8)(g:sh.length=m){f:Nat->Bool->Nat}(h:∀ c,c<m->∀ b,Py W fd kd (sh.set c (some b)) (f c b))(S:IL) :
  ∃ l d a,fO (aD 9) eE ((List.range m).map λ(k:Nat)=>D.int k) [some sc,some (.int m),some (Jh W),some kd,some od,some fd,some (Ja sh),some .Ji,some (.int 99),none,none,none] S =
   IX (.next [some sc,some (.int m),some (Jh W),some kd,some od,some fd,some (Ja sh),some (Nb (Nx (Kw f) (cC 0 sh) none 99)),l,d,a,none]) S:=by
 obtain⟨s,e,n,v,d,a,rfl⟩:=bZ (u:=aD 9) (body:=eE)
  (λi o e=>e=S/\∃ d a,o=[some sc,some (.int m),some (Jh W),some kd,some od,some fd,some (Ja sh),some (Nb (NR (Kw f) (cC 0 (sh.take i)) (none,99)).1),some (.int (NR (Kw f) (cC 0 (sh.take i)) (none,99)).2),d,a,none])
  ((List.range m).map λ(k:Nat)=>D.int k) 0 [some sc,some (.int m),some (Jh W),some kd,some od,some fd,some (Ja sh),some .Ji,some (.int 99),none,none,none] S ⟨rfl,none,none,rfl⟩ (by
   rintro j z o e t ⟨rfl,d,a,rfl⟩;obtain⟨rfl,p⟩:=gm t;rw[zero_add];obtain⟨x,q⟩:=Fp sc od fd y g p (h j p) (NR (Kw f) (cC 0 (sh.take j)) (none,99)) a e;refine⟨_,rfl,_,_,q,rfl,some (.int j),x,?_⟩;have w:sh[j]?=some (sh[j]'(by omega)):=List.getElem?_eq_getElem (by omega);have r:NR (Kw f) (cC 0 (sh.take (j+1))) (none,99)=NR (Kw f) (if sh[j]?=some none then [j] else []) (NR (Kw f) (cC 0 (sh.take j)) (none,99)):=by rw[List.take_add_one,w,← xN];have:(some (sh[j]'(by omega))).toList=[sh[j]'(by omega)]:=rfl;rw[this,nv,length_take,Nat.min_eq_left (by omega),zero_add];simp only[Option.some.injEq]
   rw[r])
 subst v;rw[zero_add,length_map,length_range,← g,take_length] at n;rw[← g];exact⟨_,_,_,by rw[sf];exact n⟩
theorem qQ {S E:IL}{x q:Str}(h:ft x q S=true):ft x q (S++E)=true:=by unfold ft at h ⊢;rw[List.any_append,h];rfl
theorem Df (sh:Sh)(S:IL)(y:Option D):bz (aD 0) cw rQ (sh.map JB) [y] S=some ((sh.map λv=>some (v==some true)).map JB,S):=by
 have q:=dC (u:=aD 0) (fe:=rQ) (λa => ∃ y,a=[y]) (λd=>match d with | .int 1 => .int 1 |_ => .int 0) S (sh.map JB) [y] ⟨y,rfl⟩ (by
  rintro d hd a ⟨y,rfl⟩;obtain⟨v,_,rfl⟩:=mem_map.mp hd;refine⟨_,rfl,⟨_,rfl⟩,?_⟩;cases v with
  |none=>rfl
  |some b=>cases b<;>rfl)
 rw[q];congr 2;rw[map_map,map_map];refine map_congr_left λv _=>?_;cases v with
 |none=>rfl
 |some b=>cases b<;>rfl
theorem zS (sc u:D){m:Nat}(z : 1<=m)(B:m<=6){W:List Str}{fd kd od:D}{sh:Sh}(e:sh.length=m)(ask:∀ j:Sh,j.length=m->∃ n,Py W fd kd j n){S:IL}(o:ft "next_of" "next_of.<locals>.<lambda>" S=true)(i:IE Fl)
  (s:i=(aO (bo 7 (aF .Ji))
  (aO (bo 8 (aF (.int 99)))
  (aO (iU (f7 di (ah (af 1) aB)) (aD 9) eE)
  (aO (bo 11 (aR eN (ah (af 5) (ah (af 6) aB))))
  (bw (zF (Dv (Qh (Bb "bool") (af 11))) (zF (aH K0 (af 11) (af 7)) (aH K0 (aR eN (ah (af 5) (ah (af 6) aB))) (af 7)))))))))) :
  ∃ v,i [some sc,some (.int m),some (Jh W),some kd,some od,some fd,some (Ja sh),none,none,none,none,none] S=IX (.ret (.bl true)) v:=by
 subst s
 have N5:∃ f:Nat->Bool->Nat,∀ c,c<m->∀ b,Py W fd kd (sh.set c (some b)) (f c b):=by
  have:∀ c b,∃ n,c<m->Py W fd kd (sh.set c (some b)) n:=λc b=>by obtain⟨n,h⟩:=ask (sh.set c (some b)) (by rw[length_set];exact e);exact⟨n,λ_=>h⟩
  exact⟨λc b=>(this c b).choose,λc hc b=>(this c b).choose_spec hc⟩
 obtain⟨f,a⟩:=N5;obtain⟨l,y,A,p⟩:=EQ sc od fd (show m<=8 by omega) e a S;obtain⟨d,t⟩:=xg (show m<=8 by omega) e a o;obtain⟨g,w⟩:=xg (S:=S++d) (show m<=8 by omega) e a (qQ o);have q:di [.int m]=some ((List.range m).map λ(k:Nat)=>D.int k):=by have:=vI m (by omega) (by omega);simpa using this
 have x:=CT (Nx (Kw f) (cC 0 sh) none 99);have ne:=Gf (Nx (Kw f) (cC 0 sh) none 99);refine⟨S++d++g,?_⟩;clear a ask;generalize Nb (Nx (Kw f) (cC 0 sh) none 99)=r at *
 generalize (List.range m).map (λ(k:Nat)=>D.int k)=rl at *
 generalize S++d++g=S2 at *
 generalize S++d=S1 at *
 generalize Ja sh=sd at *
 generalize Jh W=wd at *
 simp -implicitDefEqProofs [q,p,t,w,x,ne,NG]
theorem ET (ns:List Int)(_:ns.length<=63):∃ h,BS [.lst (ns.map .int)] [.tab "next_of" "next_of.<locals>.<lambda>"]=some (.ok (.bl true),h):=by
 have O:ft "next_of" "next_of.<locals>.<lambda>" [.tab "next_of" "next_of.<locals>.<lambda>"]=true:=by unfold ft;simp
 generalize ([.tab "next_of" "next_of.<locals>.<lambda>"]:IL)=b at *
 obtain⟨m,f,a,d,o,z,C,K,L,P,A,kw,k,i⟩:=C6 ns 6 (by decide) (by decide) b;have i:kN [.lst (ns.map .int),.int 6] b=IX (.tup [.int m,Jh f,d,oD o]) (b++[.dict a]):=i;have x:∀ S,aZ [.lst (ns.map .int),.int 5] S=IX (.int (mix ns 5)) S:=e_ ns 5;have y:∀ S,aZ [.lst (ns.map .int),.int 6] S=IX (.int (mix ns 6)) S:=e_ ns 6;have l:bY (.int (mix ns 6)) (.int 6)=some (.int (mix ns 6 % 6)):=bq (by decide);have nd:o.Nodup:=k.nodup_iff.mpr List.nodup_range;have Q:o.length=m:=by rw[k.length_eq,length_range]
 have M:∀ c,c<m->c∈o:=λc hc=>k.mem_iff.mpr (mem_range.mpr hc);obtain⟨t,g,j,G,_,w,ev,p,ln,tk⟩:=zm nd (by omega) M (by decide) A (b++[.dict a]);have j:kP [d,oD o] (b++[.dict a])=IX (oC t) g:=j;have t1:ft "next_of" "next_of.<locals>.<lambda>" g=true:=by have e:g=g.take (b++[MO.dict a]).length++g.drop (b++[MO.dict a]).length:=(take_append_drop _ _).symm;rw[tk] at e;rw[e];exact qQ (qQ O)
 obtain⟨sh,es,E⟩:=zY (mix ns 5) (m:=m) (by omega) g;have J:R7 f:=⟨L,d_ P⟩;have ask:∀ r:Sh,r.length=m->∃ n,Py f (oC t) d r n:=λr u=>Ep (by omega) (by omega) (by rw[u];exact k) J K (by rw[u];exact A) kw G w ev p;have s:kX 4 (a_ (aD 1) (a_ (aD 2) (a_ (aD 3) (a_ (aD 4) g9)))) (.tup [.int m,Jh f,d,oD o]) [some (.lst (ns.map .int)),none,none,none,none,none,none,none,none,none,none,none]=some [some (.lst (ns.map .int)),some (.int m),some (Jh f),some d,some (oD o),none,none,none,none,none,none,none]:=rfl;by_cases B:mix ns 6 % 6=1
 ·rw[B] at l;obtain⟨h,q⟩:=zS (.lst (ns.map .int)) .Ji z C (sh:=sh.map λv=>some (v==some true)) (od:=oD o) (by rw[length_map];exact E) ask t1 _ rfl;have F:=Df sh g none;have H:bU (Ja sh)=some (sh.map JB):=rfl;have N:=sO ((sh.map λv=>some (v==some true)).map JB);have cp:∀ I:IM,aY 1 [] I=[none]:=λ_=>rfl;refine⟨h,au rfl ?_⟩;unfold Bk;generalize (aO (bo 7 _) _:IE Fl)=kk at q ⊢;clear ev p w ask;show _=IX (Fl.ret (.bl true)) h;have q:kk [some (.lst (ns.map .int)),some (.int m),some (Jh f),some d,some (oD o),some (oC t),some (.tup ((sh.map λv=>some (v==some true)).map JB)),none,none,none,none,none] g=IX (Fl.ret (.bl true)) h:=q;generalize oC t=y1 at *
  generalize (sh.map λv=>some (v==some true)).map JB=y2 at *
  generalize sh.map JB=y4 at *
  generalize Jh f=wd at *
  generalize oD o=od at *
  generalize (D.lst (ns.map .int))=sd at *
  generalize b++[MO.dict a]=S9 at *
  simp -implicitDefEqProofs [i,s,j,x,es,y,l,H,cp,F,N,q]
 obtain⟨h,q⟩:=zS (.lst (ns.map .int)) .Ji z C (od:=oD o) E ask t1 _ rfl;refine⟨h,au rfl ?_⟩;unfold Bk;generalize (aO (bo 7 _) _:IE Fl)=kk at q ⊢;clear ev p w ask;generalize oC t=y1 at *
 generalize Ja sh=y3 at *
 generalize Jh f=wd at *
 generalize oD o=od at *
 generalize (D.lst (ns.map .int))=sd at *
 generalize b++[MO.dict a]=S9 at *
 simp -implicitDefEqProofs [i,s,j,x,es,y,l,B,q]
end Jd
namespace Jd
open PySem L2
theorem fAt {K:IF}{c f:Str}{C:Addr}(n:NC K c C)(g:PySem.W.findIn K (.ref C) f=some none):mJ K c f:=⟨C,n.1,n.2,g⟩
theorem all_mk {l:PySem.W.OpenLaw}{w:World}{K:IF}{h:Heap}{mg:IJ}{a:Addr}{c Q:Addr}(b:mg "law"=some (.ref a))(T:Top K mg)(i:PySem.W.tabIn K "next_of"=some (c,Q))(o:K.lookup Q=none) :
  (∃ c,PySem.W.codeHdIn K c Q=true)/\K.lookup Q=none/\∃ fd:FuncData,(∀ (s:Shared) (v:Value),BindsTo s fd ⟨[v],[]⟩ [("_law_script",v)])/\∀ base:Heap,K.In base->base.Ns mainGlobals mg->BmB base mg->K9 l.prog w K mg base Oa 38 a fd ["_law_script"] (qU K 63 "next_of" Q):=by
 obtain⟨f,fd,j,n,hb⟩:=T.T8;have e:=b.symm.trans n;cases e;have ok:∀ (base:Heap),BmB base mg->Pq l.prog w K mg base 38 a fd ["_law_script"] BS:=λbase g=>E9 ⟨T,g⟩ j;obtain⟨z,p,kV,doc,y,x,u,ct,A,rfl,t,B⟩:=j.ex;obtain⟨_,_,_,_,_,q,r,_,_,_,k,d⟩:=T.MG;rw[i] at k;cases k;exact⟨⟨_,d⟩,o,_,λs v => .of_eq rfl,λbase _ _ g=>Da (ok base g) (by decide) i λns m=>ET ns m⟩
end Jd
open PySem PySem.W PyProof.Rows
namespace PySem.W.Fast
def tw16814065143361761064:=0
def tw7486155745526697326:=0
def tw12617004043756644595:=0
def tw1258269397401702461:=0
def tw18089216263169618508:=0
def tw4728862973122907742:=0
def tw5380664288172618788:=0
def tw4791697835162706074:=0
def tw16606110478866174247:=0
def tw6373037341879835521:=0
def tw15643037521701920314:=0
def tw2436578583347210794:=0
def tw9776559797559410584:=0
def tw10563246628594949642:=0
def tw11384794387902251645:=0
def tw4720205302479582060:=0
def tw17322750707525211314:=0
def tw10452084209870556495:=0
def tw7461034664765395008:=0
def tw7428412534165587929:=0
def tw2979979786404119079:=0
def tw531846950514904175:=0
def tw2822743372734975947:=0
def tw2783613524818946135:=0
def tw2841881163798930615:=0
def tw8633953479702973725:=0
def tw6738519318331789062:=0
def tw15216667402860021888:=0
def tw6897596052227129255:=0
def tw16477706884978037928:=0
def tw12839043447880009834:=0
def tw9471894132857274743:=0
def tw15462150925018038396:=0
def tw14567076702934326172:=0
def tw5912936735672000094:=0
def tw3564612997703657240:=0
def tw3401169845869348597:=0
def tw11857411374372469796:=0
def tw15875964201917314491:=0
def tw7244281111687897348:=0
def tw12969884641255723661:=0
def tw7583585552975997265:=0
def tw8680718813387855228:=0
def tw9633144259585700460:=0
def tw2181381803416931894:=0
def tw17132034406307421825:=0
def tw3743219905686950260:=0
def tw17869111577769916143:=0
def tw2279272128914803677:=0
def tw7381380548812218265:=0
def tw8653424349593576357:=0
def tw13384723436963859479:=0
def tw5559316368795232341:=0
def tw13958111644911760504:=0
def tw10359691656912060135:=0
def tw945801897145347536:=0
def tw6683667704713290982:=0
def tw15404381134104035000:=0
def tw5654699175308150308:=0
def tw16620711082805552325:=0
def tw16051384360773683306:=0
def tw14495271732252169082:=0
def tw7959777945221571027:=0
def tw4544836398698598216:=0
def tw3738608045071170397:=0
def tw9095710680615329900:=0
def tw1130930547694711719:=0
def tw8654268740219814340:=0
def tw11569861786262100355:=0
def tw15621496268988690493:=0
def tw14789426823554483972:=0
def tw625921354430934159:=0
def tw15353511724339454855:=0
def tw11308635823309359221:=0
def tw12895930351186669617:=0
def tw5059633306180067774:=0
def tw14028618021539180730:=0
def tw16483979132993998149:=0
def tw12091579904932536363:=0
def tw8999340416632302732:=0
def tw11208300482814287697:=0
def tw10104706025476688643:=0
def tw13848432777797647061:=0
def tw7544129202394711858:=0
def tw5104683524415692377:=0
def tw1619331638680904613:=0
def tw7214685792372966932:=0
def tw14777537641904918150:=0
def tw11379688755767807156:=0
def tw5112450886159210571:=0
def tw9990940677260377013:=0
def tw12554043270261723161:=0
def tw14083541416129688181:=0
def tw10520474937854408918:=0
def tw7326256246382793688:=0
def tw4485882559668826894:=0
def tw14740774552344649798:=0
def tw5852118133432418015:=0
def tw1376777311460190900:=0
def tw9798765791171839200:=0
def tw6743972991034464642:=0
def tw15122562822746322879:=0
def tw4691235239097360866:=0
def tw5009448623085484731:=0
def tw6295557721840187804:=0
def tw18288644455818955091:=0
def tw15711275139344296764:=0
def tw8739871103472350706:=0
def tw792993727147539345:=0
def tw14711341205032587130:=0
def tw9804894785789196249:=0
def tw14155527454012935236:=0
def tw2372200997388264983:=0
def tw9871677990067574812:=0
def tw15026149028908563551:=0
def tw15602055355067306346:=0
def tw2396558688146259918:=0
def tw9509848471885929131:=0
def tw17170114827915392558:=0
def tw4760991969382762704:=0
def tw17916018980028938290:=0
def tw11786413312218133422:=0
def tw6534887976418580027:=0
def tw14030977727212844756:=0
def tw9439291113109210993:=0
def tw536307790637355142:=0
def tw5893032407911097537:=0
def tw1145153484115094528:=0
def tw9842398028334286771:=0
def tw17562712582513195861:=0
def tw10813029291808904485:=0
def tw7737847802870297591:=0
def tw10492818157532987962:=0
def tw3984585533529639914:=0
def tw8098340284362681238:=0
def tw17932402373599099190:=0
def tw2943032975596588433:=0
def tw14846973019788801212:=0
def tw18272270761800653567:=0
def tw8154960435657487660:=0
def tw12259647855033756989:=0
def tw9246605244006571622:=0
def tw1282677581927021949:=0
def tw11168966145559068418:=0
def tw10478632947813989062:=0
def tw4867224223763645884:=0
def tw1316599171884753373:=0
def tw8286578123979098845:=0
def tw1812378170209504227:=0
def tw11618259720022259768:=0
def tw15629516523740168612:=0
def tw14181013121994172208:=0
def tw6255656388498121252:=0
def tw12209287933678094786:=0
def tw12528615010923212943:=0
def tw15581740177916395075:=0
def tw16475697593947041054:=0
def tw16784672005826742708:=0
def tw4511950910154346336:=0
def tw12925812034069745828:=0
def tw999570241494234056:=0
def tw8067953493222185720:=0
def tw10853678569624627307:=0
def tw15059106583133810317:=0
def tw7477424337392711519:=0
def tw13747402268880850646:=0
def tw6433317375372023030:=0
def tw702201738472598449:=0
end PySem.W.Fast
set_option maxRecDepth 100000 in
set_option maxHeartbeats 0 in
theorem PySem.Challenge.cw_keyfold_k33_whole_next_holds : PySem.Challenge.rw_keyfold_k33_whole_next.Holds := by
 w_on;o_law;k_head;(case hw=>w_witness2)
 k_fill
 refine L2.Om (z:="next_of") (l:=PySem.Challenge.rw_keyfold_k33_whole_next) (k:=38) (x:="_law_script") rfl rfl ⟨rfl,by decide,by decide,rfl⟩ (λw h Y=>PySem.W.km_in_of Y) (λw h Y=>PySem.W.km_tabs_of Y _ (List.Mem.head _)) ?F
 case F =>
  intro w mg fa h KX G Vk;refine' Jd.all_mk (h:=h) Vk ?T (L2.Pa ?t1 ?t2 ?t3 ?t4 ?t5) ?t6
  (case t1=>k_is)
  (case t2=>k_is)
  (case t3=>rfl)
  (case t4=>k_is)
  (case t5=>rfl)
  (case t6=>kernel_rfl)
  constructor
  all_goals first
   |exact PySem.W.mg_none_of KX G (by k_is)
   |(refine' L2.Zh KX G ?a (L2.fE ?l ?c ?k) ?b;(case a=>k_is);(case l=>k_is);(case c=>k_is);(case k=>k_is);(case b=>first |exact L2.VW λ_ _ _ _ _ _ _=>rfl |exact L2.VX λ_ _ _ _ _ _ _ _=>rfl |exact L2.VY λ_ _ _ _ _ _ _ _ _=>rfl |exact L2.VZ λ_ _ _ _ _ _ _ _ _ _=>rfl))
   |(refine' L2.Zi ⟨?n,⟨?k0,?k1,?k2,?k3⟩⟩ ?a ?i (L2.fE ?l ?c ?k) ?b;(case n=>k_is);(case k0=>k_is);(case k1=>k_is);(case k2=>k_is);(case k3=>k_is);(case a=>k_is);(case i=>k_is);(case l=>k_is);(case c=>k_is);(case k=>k_is);(case b=>first |exact L2.VW λ_ _ _ _ _ _ _=>rfl |exact L2.VX λ_ _ _ _ _ _ _ _=>rfl |exact L2.VY λ_ _ _ _ _ _ _ _ _=>rfl |exact L2.VZ λ_ _ _ _ _ _ _ _ _ _=>rfl))
   |(refine' L2.Zj KX G ⟨?n,⟨?k0,?k1,?k2,?k3⟩⟩ ?k4 ?k5 ?a ?i (L2.fE ?l ?c ?k) ?b;(case n=>k_is);(case k0=>k_is);(case k1=>k_is);(case k2=>k_is);(case k3=>k_is);(case k4=>k_is);(case k5=>k_is);(case a=>k_is);(case i=>k_is);(case l=>k_is);(case c=>k_is);(case k=>k_is);(case b=>first |exact L2.VW λ_ _ _ _ _ _ _=>rfl |exact L2.VX λ_ _ _ _ _ _ _ _=>rfl |exact L2.VY λ_ _ _ _ _ _ _ _ _=>rfl |exact L2.VZ λ_ _ _ _ _ _ _ _ _ _=>rfl))
   |(refine' Jd.fAt ⟨?n,⟨?k0,?k1,?k2,?k3⟩⟩ ?g;(case n=>k_is);(case k0=>k_is);(case k1=>k_is);(case k2=>k_is);(case k3=>k_is);(case g=>k_is))
   |(refine' L2.tabAt KX G ?n ?l ?e ?l2 ?e2 ?hd;(case n=>k_is);(case l=>k_is);(case e=>rfl);(case l2=>k_is);(case e2=>rfl);(case hd=>kernel_rfl))
