import PyProof.Rows.All
import Wide.All
import OpenK.AllK
import Wide.FinOn
import Lean
import PyProof.EqAt
import PyProof.EqKinds
import PyProof.TupleCall
import PyProof.SetRoads
import PyProof.SetNew
import PyProof.CollectIter
import PyProof.DictWalks
import PyProof.Walks
import PyProof.RulesTry
import PyProof.FactsAll.set
import PyProof.WalksMore
import PyProof.FactsAll.subtypes
import PyProof.ExcAttrAll.ValueError
import PyProof.Rows.StrJoin2
import PyProof.Rows.FStr
import PyProof.ExcBaseAll.ValueError
import PyProof.StrCalls2
import PyProof.StrBlockH
import PyProof.MeetsStr2
import PyProof.Rows.SeqMore2
import KE.KDictList
import PyProof.ZipIter
import PyProof.Draws
import PyProof.DictTruth
import PySem.Challenge.RW_keyfold_k23_whole_cuts_meet
set_option Elab.async false
set_option linter.all false
set_option maxRecDepth 100000
set_option maxHeartbeats 4000000
noncomputable section
namespace L2
open PySem PySem.Spec PyProof.Rows
noncomputable instance pyDec:DecidableEq PyData:=λa b=>Classical.propDecidable (a=b)
def keyOk:Nat->PyData->Bool
 |_,.int _=>true
 |_,.str x=>PyData.strOk x
 |n+1,.tuple xs=>xs.all (keyOk n)
 |_,_=>false
def pyH (w:World):Nat->PyData->Int
 |_,.int i=>hashInt i
 |_,.str x=>hashStr w x
 |n+1,.tuple xs=>reduceHash (Builtin.Tuple.tupleHashOf (xs.map (pyH w n)))
 |_,_ => 0
def wt:Nat->PyData->Nat
 |n+1,.tuple xs=>(xs.map (wt n)).sum+1
 |_,_ => 1
theorem cI {n:Nat}{xs:List PyData}(h:keyOk (n+1) (.tuple xs)=true):∀ x∈xs,keyOk n x=true:=by
 rw[keyOk,List.all_eq_true] at h;exact h
theorem li:∀ {n:Nat}{p:PyData},keyOk n p=true->p.canLay0=true:=by
 intro n
 induction n with
 |zero =>
  intro p h
  cases p with
  |int i=>rfl
  |str x=>rw[PyData.canLay0];simpa [keyOk] using h
  |_=>simp[keyOk] at h
 |succ n ih =>
  intro p h
  cases p with
  |int i=>rfl
  |str x=>rw[PyData.canLay0];simpa [keyOk] using h
  |tuple xs =>
   rw[PyData.canLay0]
   have:=cI h
   clear h
   induction xs with
   |nil=>rfl
   |cons x xs ih2=>rw[PyData.canLayAll0,ih (this x (by simp)),ih2 λy hy=>this y (by simp[hy])];rfl
  |_=>simp[keyOk] at h
theorem sD:∀ {n:Nat}{p:PyData},keyOk n p=true->p.depth<=n:=by
 intro n
 induction n with
 |zero =>
  intro p h
  cases p<;>first |(simp[keyOk] at h;done) |simp[PyData.depth]
 |succ n ih =>
  intro p h
  cases p with
  |tuple xs =>
   rw[PyData.depth]
   have:=cI h
   clear h
   refine Nat.succ_le_succ ?_
   induction xs with
   |nil=>rw[PyData.depthAll];omega
   |cons x xs ih2=>rw[PyData.depthAll];exact Nat.max_le.mpr ⟨ih (this x (by simp)),ih2 λy hy=>this y (by simp[hy])⟩
  |int i=>simp[PyData.depth]
  |str i=>simp[PyData.depth]
  |_=>simp[keyOk] at h
theorem o0:∀ {n:Nat}{p q:PyData},keyOk n p=true->keyOk n q=true->PyData.eqv p q=decide (p=q):=by
 have str:∀ x y:Str,PyData.eqv (.str x) (.str y)=decide (PyData.str x = .str y):=λx y=>by
  rw[PyData.eqv]
  by_cases e:x=y
  ·subst e;simp
  ·rw[beq_eq_false_iff_ne.mpr e,decide_eq_false (λz=>e (PyData.str.inj z))]
 have int:∀ x y:Int,PyData.eqv (.int x) (.int y)=decide (PyData.int x = .int y):=λx y=>by
  rw[PyData.eqv]
  by_cases e:x=y
  ·subst e;simp
  ·rw[beq_eq_false_iff_ne.mpr e,decide_eq_false (λz=>e (PyData.int.inj z))]
 have dif:∀ p q:PyData,p≠q->false=decide (p=q):=λp q h=>(decide_eq_false h).symm
 intro n
 induction n with
 |zero =>
  intro p q hp hq
  cases p<;>first |(simp[keyOk] at hp;done) |skip<;>cases q<;>first |(simp[keyOk] at hq;done) |exact int _ _ |exact str _ _ |exact dif _ _ (λz=>nomatch z)
 |succ n ih =>
  intro p q hp hq
  cases p with
  |tuple xs =>
   cases q with
   |tuple ys =>
    rw[PyData.eqv]
    have h1:=cI hp
    have h2:=cI hq
    clear hp hq
    have aux:PyData.eqvAll xs ys=decide (xs=ys):=by
     induction xs generalizing ys with
     |nil=>cases ys<;>simp[PyData.eqvAll]
     |cons x xs ih2 =>
      cases ys with
      |nil=>simp[PyData.eqvAll]
      |cons y ys =>
       rw[PyData.eqvAll,ih (h1 x (by simp)) (h2 y (by simp)),ih2 ys (λz hz=>h1 z (by simp[hz])) (λz hz=>h2 z (by simp[hz]))]
       by_cases e:x=y
       ·subst e;simp
       ·simp[e]
    rw[aux]
    by_cases e:xs=ys
    ·subst e;simp
    ·rw[decide_eq_false e,decide_eq_false (λz=>e (PyData.tuple.inj z))]
   |int i=>rw[PyData.eqv];exact dif _ _ (λz=>nomatch z)
   |str i=>rw[PyData.eqv];exact dif _ _ (λz=>nomatch z)
   |_=>simp[keyOk] at hq
  |int i =>
   cases q with
   |int j=>exact int _ _
   |str j=>rw[PyData.eqv];exact dif _ _ (λz=>nomatch z)
   |tuple j=>rw[PyData.eqv];exact dif _ _ (λz=>nomatch z)
   |_=>simp[keyOk] at hq
  |str i =>
   cases q with
   |int j=>rw[PyData.eqv];exact dif _ _ (λz=>nomatch z)
   |str j=>exact str _ _
   |tuple j=>rw[PyData.eqv];exact dif _ _ (λz=>nomatch z)
   |_=>simp[keyOk] at hq
  |_=>simp[keyOk] at hp
theorem rM {h h':Heap}{d:Addr}{o:Obj}{es ep}(ho:h.get? d=some o)(hd:o.data = .dict es ep)(hs:Heap.SameBut d h h'):∀ {n:Nat}{p:PyData}{v:Value}{as:List Addr},keyOk n p=true->Reads h v p as->Reads h' v p as:=by
 intro n
 induction n with
 |zero =>
  intro p v as hp r
  cases r with
  |int i t=>exact .int i t
  |str x t=>exact .str x t
  |_=>simp[keyOk] at hp
 |succ n ih =>
  intro p v as hp r
  cases r with
  |int i t=>exact .int i t
  |str x t=>exact .str x t
  | @tuple a o' vs m xs as h1 h2 h3 h4 =>
   have hne:a≠d:=by
    rintro rfl
    rw[ho] at h1;cases h1
    rw[hd] at h3;exact nomatch h3
   refine .tuple ((hs.2 a hne).trans h1) h2 h3 ?_
   have it:=cI hp
   clear hp h1 h2 h3
   generalize vs.toList=l at h4
   induction xs generalizing l as with
   |nil=>cases h4;exact .nil
   |cons x xs ih2 =>
    cases h4 with
    |cons r1 r2=>exact .cons (ih (it x (by simp)) r1) (ih2 (λy hy=>it y (by simp[hy])) _ r2)
  |_=>simp[keyOk] at hp
section
variable {prog:Program}{w:World}{A:Around}{E:Value->Shared->Prop}{s:Shared}
theorem uC:∀ {n:Nat}{p:PyData}{A:Around}{s:Shared}{v:Value}{as:List Addr}{Q:Int->Shared->Prop},keyOk n p=true->A.units+n<cLine->Reads s.heap v p as->Q (pyH w n p) { s with toks:=s.toks+wt n p } ->
  wpAny (model prog w) A (pyHash v) Q E s:=by
 intro n
 induction n with
 |zero =>
  intro p A s v as Q hp hu r h
  cases r with
  |int i t=>exact wpAny_pyHash_int h
  |str x t=>exact wpAny_pyHash_str h
  |_=>simp[keyOk] at hp
 |succ n ih =>
  intro p A s v as Q hp hu r h
  cases r with
  |int i t=>exact wpAny_pyHash_int h
  |str x t=>exact wpAny_pyHash_str h
  | @tuple a o items m xs as ho hc hd hi =>
   have hT:s.TypeIs (.ref a) "tuple":=⟨o,ho,hc⟩
   have it:=cI hp
   unfold pyHash
   first |unfold pyHashByItsType |skip
   first |refine wpAny_bind (wpAny_cRoomFor_or (.inr (by omega)) ?_) |skip
   refine wpAny_bind (wpAny_specialOf hT F.slot_tuple_hash.lookup ?_)
   show wpAny _ _ (if (some (Value.builtin "tuple.__hash__")==some Value.none)=true then _ else _) Q E s
   rw[if_neg (by rw[beq_builtin_none];exact Bool.false_ne_true)]
   refine wpAny_bind (wpAny_specialOf hT F.slot_tuple_hash.lookup ?_)
   show wpAny _ _ (callSpecialIfBoundUnlessNone? (.ref a) "__hash__" _ >>= _) Q E s
   refine wpAny_bind (wpAny_callSpecialIfBoundUnlessNone?_slot hT F.slot_tuple_hash (wpAny_call_entry F.slot_tuple_hash hT F.entry_tuple_hash ?_ (F.args_tuple_hash_1 _)))
   show wpAny _ _ (Builtin.Tuple.tupleItemsOf (.ref a) >>= _) _ _ s
   refine wpAny_bind (wpAny_tupleItemsOf ho hd ?_)
   refine wpAny_bind ?_
   rw[← Array.forIn_toList]
   refine wpAny_forIn_list _
    (λrest (b:Array Int) s' => ∃ done left bs,xs=done++left/\ReadsAll s.heap rest left bs/\b.toList=done.map (pyH w n)/\s'={ s with toks:=s.toks+(done.map (wt n)).sum })
    _ ?_ ?_ _ _ ⟨[],xs,as,rfl,hi,rfl,rfl⟩
   ·rintro x rest b s' ⟨done,left,bs,rfl,hl,hb,rfl⟩
    cases hl with
    | @cons _ _ k ks' as1 bs1 h1 hl' =>
     refine wpAny_bind (ih (A:=A.in1) (it k (by simp)) (by show A.units+1+n<cLine;omega) (s:={ s with toks:=s.toks+(done.map (wt n)).sum }) h1 ?_)
     first
      |exact wpAny_pure ⟨done++[k],ks',bs1,by simp,hl',by simp[hb],by simp[Nat.add_assoc]⟩
      |exact wpAny_bind (wpAny_pure (wpAny_pure ⟨done++[k],ks',bs1,by simp,hl',by simp[hb],by simp[Nat.add_assoc]⟩))
   ·rintro b s' ⟨done,left,bs,rfl,hl,hb,rfl⟩
    cases hl
    rw[List.append_nil] at h
    show wpAny _ _ (retInt (Builtin.Tuple.tupleHashOf b.toList)) _ _ _
    rw[hb]
    refine wpAny_ret_mkInt ?_
    show wpAny _ _ (if (decide (-(2:Int) ^ 63<=Builtin.Tuple.tupleHashOf (done.map (pyH w n)))&&decide (Builtin.Tuple.tupleHashOf (done.map (pyH w n))<2 ^ 63))=true then _ else _) Q E _
    rw[pyH,wt] at h
    unfold reduceHash at h
    by_cases hr:(decide (-(2:Int) ^ 63<=Builtin.Tuple.tupleHashOf (done.map (pyH w n)))&&decide (Builtin.Tuple.tupleHashOf (done.map (pyH w n))<2 ^ 63))=true
    ·rw[if_pos hr]
     rw[if_pos hr] at h
     exact wpAny_pure (by simpa [Nat.add_assoc] using h)
    ·rw[if_neg hr]
     rw[if_neg hr] at h
     exact wpAny_bind (wpAny_rule (wpAny_pure (by simpa [Nat.add_assoc] using h)))
  |_=>simp[keyOk] at hp
theorem rN:∀ {n:Nat}{p:PyData}{s:Shared}{v:Value}{as:List Addr}{Q:Bool->Shared->Prop},keyOk n p=true->Reads s.heap v p as->Q true s->wpAny (model prog w) A (eqIsQuiet n v) Q E s:=by
 intro n
 induction n with
 |zero =>
  intro p s v as Q hp r h
  cases r with
  |int i t=>unfold eqIsQuiet;exact wpAny_pure h
  |str x t=>unfold eqIsQuiet;exact wpAny_pure h
  |_=>simp[keyOk] at hp
 |succ n ih =>
  intro p s v as Q hp r h
  cases r with
  |int i t=>unfold eqIsQuiet;exact wpAny_pure h
  |str x t=>unfold eqIsQuiet;exact wpAny_pure h
  | @tuple a o items m xs as ho hc hd hi =>
   have hT:s.TypeIs (.ref a) "tuple":=⟨o,ho,hc⟩
   have it:=cI hp
   unfold eqIsQuiet
   refine wpAny_bind (wpAny_specialOf hT F.slot_tuple_eq.lookup ?_)
   show wpAny _ _ (isInstance (.ref a) (.type "tuple") >>= _) _ _ s
   refine wpAny_bind (wpAny_isInstance hT isSubtype_tuple_tuple ?_)
   simp only[Bool.not_true,Bool.false_eq_true,if_false]
   refine wpAny_bind (wpAny_seqItems ho hd ?_)
   refine wpAny_bind ?_
   show wpAny _ _ (forIn items _ _) _ _ s
   rw[← Array.forIn_toList]
   refine wpAny_forIn_list _ (λrest r s'=>r.1=none/\s'=s/\∃ left bs,ReadsAll s.heap rest left bs/\∀ x∈left,keyOk n x=true) _ ?_ ?_ _ _ ⟨rfl,rfl,xs,as,hi,it⟩
   ·rintro v rest r s' ⟨hr,rfl,left,bs,hl,hk⟩
    cases hl with
    | @cons _ _ k ks' as1 bs1 h1 hl' =>
     refine wpAny_bind (ih (hk k (by simp)) h1 ?_)
     simp only[Bool.not_true,Bool.false_eq_true,if_false]
     exact wpAny_pure ⟨rfl,rfl,ks',bs1,hl',λy hy=>hk y (by simp[hy])⟩
   ·rintro⟨r1,r2⟩ s' ⟨hr,rfl,_⟩
    simp only at hr
    subst hr
    exact wpAny_pure h
  |_=>simp[keyOk] at hp
end
noncomputable def kF (prog:Program) (w:World):HeapKind prog w PyData where
 is:=λh p a=>keyOk 8 p=true/\∃ as,Reads h (.ref a) p as
 hash:=pyH w 8
 draws:=wt 8
 room:=λA=>A.units+8<cLine
 inj:=λ⟨h1,as,r1⟩ ⟨_,bs,r2⟩=>SeqAt.Reads.unique _ _ _ _ _ (li h1) r1 r2
 keeps:=λ⟨h1,as,r1⟩ ho hd hs=>⟨h1,as,rM ho hd hs h1 r1⟩
 pyHash:=λhu ⟨h1,as,r1⟩ h=>uC h1 hu r1 h
 eqBool:=λ{A E s x y a b Q} hu ⟨h1,as,r1⟩ ⟨h2,bs,r2⟩ h=>SeqAt.eqBoolOverData prog w A E s _ _ _ _ _ _ Q r1 r2 (li h1) (li h2) (by have:=sD h1;omega) (by rw[o0 h1 h2];exact h)
 quiet:=λ⟨h1,as,r1⟩ h=>rN h1 r1 h
abbrev Key:=Sum Int Str
def o5:Key->Value->Bool
 | .inl k,v=>Value.isInt k v
 | .inr x,v=>Value.isStrOf x v
def Ee (w:World):Key->Int
 | .inl k=>hashInt k
 | .inr x=>hashStr w x
theorem bt:∀ {k:Key}{v:Value},o5 k v=true->(∃ i t,k=Sum.inl i/\v=Value.int i t)∨(∃ x t,k=Sum.inr x/\v=Value.str x t)
 | .inl i,v,h=>by
  obtain⟨t,e⟩:=Value.isInt_shape (k:=i) (v:=v) h
  exact .inl ⟨i,t,rfl,e⟩
 | .inr x,v,h=>by
  obtain⟨t,e⟩:=Value.isStrOf_shape (x:=x) (v:=v) h
  exact .inr ⟨x,t,rfl,e⟩
theorem wV (i:Int)(t:Tok):o5 (.inl i) (.int i t)=true:=by simp[o5,Value.isInt]
theorem wU (x:Str)(t:Tok):o5 (.inr x) (.str x t)=true:=by simp[o5,Value.isStrOf]
theorem Ci (a b:Int):decide ((Sum.inl a:Key)=Sum.inl b)=(a==b):=by
 by_cases e:a=b
 ·subst e;simp
 ·have h:¬ (Sum.inl a:Key)=Sum.inl b:=λq=>e (Sum.inl.inj q)
  rw[decide_eq_false h]
  exact (beq_eq_false_iff_ne.mpr e).symm
theorem Ce (a b:Str):decide ((Sum.inr a:Key)=Sum.inr b)=decide (a=b):=by
 by_cases e:a=b
 ·subst e;simp
 ·have h:¬ (Sum.inr a:Key)=Sum.inr b:=λq=>e (Sum.inr.inj q)
  rw[decide_eq_false h,decide_eq_false e]
theorem Ch (a:Int)(b:Str):decide ((Sum.inl a:Key)=Sum.inr b)=false:=decide_eq_false (λq=>nomatch q)
theorem Cg (a:Str)(b:Int):decide ((Sum.inr a:Key)=Sum.inl b)=false:=decide_eq_false (λq=>nomatch q)
def bq (prog:Program)(w:World):PySem.KeyKind prog w Key where
 is:=o5
 hash:=Ee w
 inj:=λv a b ha hb=>by
  rcases bt ha with ⟨i,t,rfl,rfl⟩ |⟨x,t,rfl,rfl⟩
  ·rcases bt hb with ⟨j,u,rfl,e⟩ |⟨y,u,rfl,e⟩
   ·injection e with e1 _;rw[e1]
   ·exact nomatch e
  ·rcases bt hb with ⟨j,u,rfl,e⟩ |⟨y,u,rfl,e⟩
   ·exact nomatch e
   ·injection e with e1 _;rw[e1]
 byValue:=λk v h=>by
  rcases bt h with ⟨i,t,rfl,rfl⟩ |⟨x,t,rfl,rfl⟩<;>rfl
 pyHash:=λhv h=>by
  rcases bt hv with ⟨i,t,rfl,rfl⟩ |⟨x,t,rfl,rfl⟩
  ·exact wpAny_pyHash_int h
  ·exact wpAny_pyHash_str h
 eqBool:=λhu hv h=>by
  rcases bt hu with ⟨i,t,rfl,rfl⟩ |⟨x,t,rfl,rfl⟩
  ·rcases bt hv with ⟨j,u,rfl,rfl⟩ |⟨y,u,rfl,rfl⟩
   ·rw[Ci] at h;exact wpAny_eqBool_int h
   ·rw[Ch] at h;exact SeqAt.EqAt.int_str i t y u _ _ _ _ h
  ·rcases bt hv with ⟨j,u,rfl,rfl⟩ |⟨y,u,rfl,rfl⟩
   ·rw[Cg] at h;exact SeqAt.EqAt.str_int x t j u _ _ _ _ h
   ·rw[Ce] at h;exact wpAny_eqBool_str h
 «strs»:=λk x t v h=>by
  rcases bt h with ⟨i,u,rfl,e⟩ |⟨y,u,rfl,e⟩
  ·exact nomatch e
  ·injection e with e1 _
   subst e1
   cases v<;>rfl
theorem sk (prog:Program)(w:World)(i:Int)(t:Tok):(bq prog w).is (.inl i) (.int i t)=true:=wV i t
theorem sj (prog:Program)(w:World)(x:Str)(t:Tok):(bq prog w).is (.inr x) (.str x t)=true:=wU x t
inductive V where
 |non |bl (b:Bool) |int (i:Int) |str (x:Str) |byt (b:Array UInt8) |flt (b:UInt64) |ref (a:Addr) |ty (n:String)
 deriving DecidableEq
def RelV:V->Value->Prop
 | .non,u=>u=Value.none
 | .bl b,u=>u=Value.bool b
 | .int i,u => ∃ t,u=Value.int i t
 | .str x,u => ∃ t,u=Value.str x t
 | .byt b,u => ∃ t,u=Value.bytes b t
 | .flt b,u => ∃ t,u=Value.float b t
 | .ref a,u=>u=Value.ref a
 | .ty n,u=>u=Value.type n
abbrev Vals:List V->List Value->Prop:=Paired RelV
theorem Vals.length {xs:List V}{us:List Value}(r:Vals xs us):xs.length=us.length:=Paired.length r
theorem Vals.get:∀ {xs:List V}{us:List Value}{i:Nat}{x:V},Vals xs us->xs[i]?=some x->∃ u,us[i]?=some u/\RelV x u
 |_,_,_,_,.nil,e=>by simp at e
 |_,_,0,_,.cons r _,e=>by simp at e;subst e;exact⟨_,rfl,r⟩
 |_,_,i+1,x,.cons _ t,e=>by
  obtain⟨u,h1,h2⟩:=Vals.get (i:=i) (x:=x) t (by simpa using e)
  exact⟨u,by simpa using h1,h2⟩
theorem Vals.append:∀ {xs ys:List V}{us ws:List Value},Vals xs us->Vals ys ws->Vals (xs++ys) (us++ws)
 |_,_,_,_,.nil,s=>s
 |_,_,_,_,.cons r t,s => .cons r (Vals.append t s)
theorem Vals.take:∀ {xs:List V}{us:List Value}(n:Nat),Vals xs us->Vals (xs.take n) (us.take n)
 |_,_,0,_ => .nil
 |_,_,_+1,.nil => .nil
 |_,_,n+1,.cons r t => .cons r (Vals.take n t)
theorem Vals.drop:∀ {xs:List V}{us:List Value}(n:Nat),Vals xs us->Vals (xs.drop n) (us.drop n)
 |_,_,0,r=>r
 |_,_,_+1,.nil => .nil
 |_,_,n+1,.cons _ t=>Vals.drop n t
def RelO:Option V->Option Value->Prop
 |some v,some u=>RelV v u
 |none,none=>True
 |_,_=>False
def KV {κ:Type}:List (κ×V)->List (κ×Value)->Prop:=Paired λ(p : κ×V) (q : κ×Value)=>p.1=q.1/\RelV p.2 q.2
def kV:Key->V
 | .inl i => .int i
 | .inr x => .str x
inductive HO where
 |lst (xs:List V)
 |tup (xs:List V)
 |dK (kvs:List (Key×V)) |dT (kvs:List (List Key×V)) |dN (kvs:List (PyData×Addr×V))
 |set (S:Int->Bool) (n:Nat)
 |ins (C dx:Addr) (fs:List (Str×V))
 |own (x:Addr)
 |xd (fs:List (Str×V))
 |met (f x:Addr)
 |rng (lo hi:Int)
 |frz (o:Obj) (u:HO)
 |tbl (ps:Array Value)
 |ext (φ:Heap->Prop)
abbrev Hp:=Addr->Option HO
noncomputable def upd (H:Hp) (a:Addr) (o:HO):Hp:=λb=>if b=a then some o else H b
theorem upd_same {H:Hp}{a:Addr}{o:HO}:upd H a o a=some o:=by unfold upd;rw[if_pos rfl]
theorem aF {H:Hp}{a b:Addr}{o:HO}(h:b≠a):upd H a o b=H b:=by unfold upd;rw[if_neg h]
theorem Dl {H:Hp}{a b:Addr}{o u:HO}(h:H a=some o)(h':H b=some u)(d:o≠u):a≠b:=by
 intro e;subst e;rw[h] at h';exact d (Option.some.inj h')
theorem aN {H:Hp}{a b:Addr}{o:HO}(h:H a=some o)(h':H b=none):a≠b:=by
 intro e;subst e;rw[h] at h';cases h'
def TupN (h:Heap)(a:Addr)(its:Array Value):Prop:=∃ n,h.get? a=some { cls:=.type "tuple",data:=.seq its n }
theorem TupN.tup {h:Heap}{a:Addr}{its:Array Value}(x:TupN h a its):IsTup h a its:=let ⟨n,e⟩:=x;⟨_,e,rfl,n,rfl⟩
theorem TupN.new (h:Heap)(its:Array Value):TupN (h.push { cls:=.type "tuple",data:=.seq its }) h.objs.size its:=⟨_,Heap.get?_push_size _ rfl⟩
section
variable (P:Program) (w:World)
def ObjOk (H:Hp)(h:Heap)(a:Addr):HO->Prop
 | .lst xs=>xs.length<=sizeLine/\∃ (its:List Value) (n:Nat),Vals xs its/\h.get? a=some { cls:=.type "list",data:=.seq its.toArray n }
 | .tup xs=>xs.length<=sizeLine/\∃ its:List Value,Vals xs its/\TupN h a its.toArray
 | .dK kvs=>kvs.length<=sizeLine/\(a==sysModules)=false/\∃ vs,KV kvs vs/\h.DictOf (bq P w) a vs
 | .dT kvs=>kvs.length<=sizeLine/\(a==sysModules)=false/\∃ xs:List (List Key×Addr×Value),
   Paired (λ(p:List Key×V) (q:List Key×Addr×Value)=>p.1=q.1/\H q.2.1=some (.tup (p.1.map kV))/\RelV p.2 q.2.2) kvs xs /\
   ∃ o es ep,h.get? a=some o/\o.ExactDict/\o.data = .dict es ep/\es.toList=xs.map (entryOfKey (tupleKind (bq P w)))/\(xs.map (·.1)).Nodup
 | .dN kvs=>kvs.length<=sizeLine/\(a==sysModules)=false/\∃ xs:List (PyData×Addr×Value),Paired (λp q=>p.1=q.1/\p.2.1=q.2.1/\RelV p.2.2 q.2.2) kvs xs /\
   ∃ o es ep,h.get? a=some o/\o.ExactDict/\o.data = .dict es ep/\es.toList=xs.map (entryOfKey (kF P w))/\(xs.map (·.1)).Nodup
 | .set S n=>h.SetOf (intKind P w) a S n
 | .ins C dx fs=>H dx=some (.own a)/\fs.length<=1000/\dx≠a/\h.get? a=some (PySem.W.instObj C dx) /\
   ∃ mA,h.Ns1 dx mA/\(∀ f,RelO (fs.lookup f) (mA f))/\PySem.Within mA (fs.map (·.1))
 | .own _ => ∃ o,h.get? a=some o
 | .xd fs => ∃ mA,h.Ns1 a mA/\∀ f,RelO (fs.lookup f) (mA f)
 | .rng lo hi => ∃ t u v,h.get? a=some { cls:=.type "range",data:=.fields #[.int lo t,.int hi u,.int 1 v] }
 | .frz o u=>h.get? a=some o/\ObjOk H h a u
 | .tbl ps=>h.get? a=some { cls:=.none,data:=.fields ps }
 | .met f x=>h.get? a=some (PySem.W.methodObj (.ref f) (.ref x))
 | .ext φ => φ h/\(∃ o,h.get? a=some o)/\∀ h1 h2:Heap,φ h1->(∀ o,h1.get? a=some o->h2.get? a=some o)->φ h2
def HOk (H:Hp)(h:Heap):Prop:=∀ a o,H a=some o->ObjOk P w H h a o
end
section
variable {P:Program}{w:World}{H H':Hp}{h h':Heap}{a:Addr}{o:HO}
theorem ObjOk.lt (x:ObjOk P w H h a o):a<h.objs.size:=by
 cases o with
 |lst xs=>obtain⟨_,_,_,_,e⟩:=x;exact Heap.lt_size e
 |tup xs=>obtain⟨_,_,_,_,e⟩:=x;exact Heap.lt_size e
 |dK kvs=>obtain⟨_,_,_,_,o,_,_,e,_⟩:=x;exact Heap.lt_size e
 |dT kvs=>obtain⟨_,_,_,_,o,_,_,e,_⟩:=x;exact Heap.lt_size e
 |dN kvs=>obtain⟨_,_,_,_,o,_,_,e,_⟩:=x;exact Heap.lt_size e
 |set S n=>obtain⟨o,_,_,_,e,_⟩:=x;exact Heap.lt_size e
 |ins C dx fs=>obtain⟨_,_,_,e,_⟩:=x;exact Heap.lt_size e
 |own y=>obtain⟨_,e⟩:=x;exact Heap.lt_size e
 |xd fs=>obtain⟨_,⟨_,_,_,e,_⟩,_⟩:=x;exact Heap.lt_size e
 |rng lo hi=>obtain⟨_,_,_,e⟩:=x;exact Heap.lt_size e
 |frz ob u=>obtain⟨e,_⟩:=x;exact Heap.lt_size e
 |tbl ps=>exact Heap.lt_size (show h.get? a=some _ from x)
 |met f y=>exact Heap.lt_size (show h.get? a=some _ from x)
 |ext φ=>obtain⟨_,⟨_,e⟩,_⟩:=x;exact Heap.lt_size e
theorem Paired.mapP {α β:Type}{F G : α->β->Prop}:∀ {l₁:List α}{l₂:List β},Paired F l₁ l₂->(∀ a b,F a b->G a b)->Paired G l₁ l₂
 |_,_,.nil,_ => .nil
 |_,_,.cons r t,f => .cons (f _ _ r) (Paired.mapP t f)
theorem ObjOk.stay (x:ObjOk P w H h a o)(k:∀ b u,(b=a∨H b=some (.own a))->h.get? b=some u->h'.get? b=some u)
  (ho:∀ b,H b=some (.own a)->H' b=some (.own a)) (ht:∀ b xs,H b=some (.tup xs)->H' b=some (.tup xs)):ObjOk P w H' h' a o:=by
 induction o with
 |lst xs=>obtain⟨z,its,n,r,e⟩:=x;exact⟨z,its,n,r,k _ _ (.inl rfl) e⟩
 |tup xs=>obtain⟨z,its,r,n,e⟩:=x;exact⟨z,its,r,n,k _ _ (.inl rfl) e⟩
 |dK kvs=>obtain⟨z,y,vs,r,ob,es,ep,e,c⟩:=x;exact⟨z,y,vs,r,ob,es,ep,k _ _ (.inl rfl) e,c⟩
 |dT kvs =>
  obtain⟨z,y,xs,r,ob,es,ep,e,c⟩:=x
  exact⟨z,y,xs,Paired.mapP r λp q z=>⟨z.1,ht _ _ z.2.1,z.2.2⟩,ob,es,ep,k _ _ (.inl rfl) e,c⟩
 |dN kvs=>obtain⟨z,y,xs,r,ob,es,ep,e,c⟩:=x;exact⟨z,y,xs,r,ob,es,ep,k _ _ (.inl rfl) e,c⟩
 |set S n=>obtain⟨ob,es,ep,t,e,c⟩:=x;exact⟨ob,es,ep,t,k _ _ (.inl rfl) e,c⟩
 |ins C dx fs =>
  obtain⟨d,z,ne,e,mA,⟨od,es,ep,e2,c⟩,r⟩:=x
  exact⟨ho _ d,z,ne,k _ _ (.inl rfl) e,mA,⟨od,es,ep,k _ _ (.inr d) e2,c⟩,r⟩
 |own y=>obtain⟨ob,e⟩:=x;exact⟨ob,k _ _ (.inl rfl) e⟩
 |xd fs=>obtain⟨mA,⟨od,es,ep,e,c⟩,r⟩:=x;exact⟨mA,⟨od,es,ep,k _ _ (.inl rfl) e,c⟩,r⟩
 |rng lo hi=>obtain⟨t,u,v,e⟩:=x;exact⟨t,u,v,k _ _ (.inl rfl) e⟩
 |frz ob u ih=>obtain⟨e,q⟩:=x;exact⟨k _ _ (.inl rfl) e,ih q⟩
 |tbl ps =>
  have e:h.get? a=some { cls:=.none,data:=.fields ps }:=x
  show h'.get? a=some { cls:=.none,data:=.fields ps }
  exact k a _ (.inl rfl) e
 |met f y =>
  have e:h.get? a=some (PySem.W.methodObj (.ref f) (.ref y)):=x
  show h'.get? a=some (PySem.W.methodObj (.ref f) (.ref y))
  exact k a _ (.inl rfl) e
 |ext φ=>obtain⟨p,⟨o,e⟩,st⟩:=x;exact⟨st _ _ p λo q=>k _ _ (.inl rfl) q,⟨o,k _ _ (.inl rfl) e⟩,st⟩
theorem HOk.lt (x:HOk P w H h)(e:H a=some o):a<h.objs.size:=(x a o e).lt
theorem HOk.fresh (x:HOk P w H h)(e:h.objs.size<=a):H a=none:=by
 cases q:H a with
 |none=>rfl
 |some u=>exact absurd (Nat.lt_of_lt_of_le (x.lt q) e) (Nat.lt_irrefl _)
theorem HOk.kept (x:HOk P w H h)(k:∀ b u,h.get? b=some u->h'.get? b=some u):HOk P w H h':=λa o e =>
 (x a o e).stay (λb u _ q=>k b u q) (λ_ q=>q) λ_ _ q=>q
theorem HOk.laid (x:HOk P w H h)(k:∀ b u,h.get? b=some u->h'.get? b=some u)(hp:h.objs.size<=a)(new:ObjOk P w (upd H a o) h' a o):HOk P w (upd H a o) h':=λb u e=>by
 have hn:=x.fresh hp
 by_cases hb:b=a
 ·subst hb;rw[upd_same] at e;cases e;exact new
 ·rw[aF hb] at e
  exact (x b u e).stay (λc v _ q=>k c v q) (λc q=>by rw[aF (aN q hn)];exact q) λc xs q=>by rw[aF (aN q hn)];exact q
end
def Rd (H:Hp)(a:Addr)(u:HO):Prop:=H a=some u∨∃ o,H a=some (.frz o u)
theorem Rd.ok {P:Program}{w:World}{H:Hp}{h:Heap}{a:Addr}{u:HO}(r:Rd H a u)(x:HOk P w H h):ObjOk P w H h a u:=by
 rcases r with r |⟨o,r⟩
 ·exact x a u r
 ·obtain⟨_,q⟩:=x a _ r
  exact q
def Mut:Option HO->Prop
 |some (.lst _)=>True
 |some (.dK _)=>True
 |some (.dT _)=>True
 |some (.dN _)=>True
 |some (.set _ _)=>True
 |some (.ins _ _ _)=>True
 |some (.ext _)=>True
 |_=>False
section
variable {P:Program}{w:World}{H:Hp}{h h':Heap}{x e:Addr}{o':HO}
theorem HOk.write (ok:HOk P w H h)(mu:Mut (H x))(he:e=x∨H e=some (.own x))(k:∀ b u,b≠e->h.get? b=some u->h'.get? b=some u)(heo:∃ u,h'.get? e=some u)
  (new:ObjOk P w (upd H x o') h' x o'):HOk P w (upd H x o') h':=λb u q=>by
 have nown:∀ c y,H c=some (.own y)->c≠x:=λc y r z=>by subst z;rw[r] at mu;exact mu
 have ntup:∀ c xs,H c=some (.tup xs)->c≠x:=λc xs r z=>by subst z;rw[r] at mu;exact mu
 by_cases hb:b=x
 ·subst hb;rw[upd_same] at q;cases q;exact new
 ·rw[aF hb] at q
  by_cases hbe:b=e
  ·have q':H b=some (.own x):=by
    rcases he with z |z
    ·exact absurd (hbe.trans z) hb
    ·rw[hbe];exact z
   rw[q] at q';cases q'
   obtain⟨v,hv⟩:=heo
   exact⟨v,by rw[hbe];exact hv⟩
  ·refine (ok b u q).stay (λc v hc r=>k c v ?_ r) (λc r=>by rw[aF (nown c b r)];exact r) λc xs r=>by rw[aF (ntup c xs r)];exact r
   rcases hc with rfl |hc
   ·exact hbe
   ·rintro rfl
    rcases he with z |z
    ·exact nown c b hc z
    ·rw[hc] at z;cases z;exact hb rfl
end
structure Un (fs ex:List Addr) (H H':Hp) (h h':Heap):Prop where
 keep:∀ b o,h.get? b=some o->H b=none->b∉fs->b∉ex->h'.get? b=some o
 slot:∀ b o,h.get? b=some o->H b=none->b∈fs->b∉ex->∃ sl,h'.get? b=some { o with slots:=sl }
 free:∀ b o,h.get? b=some o->H b=none->b∉ex->H' b=none
 there:∀ b o,h.get? b=some o->b∉ex->∃ o',h'.get? b=some o'
 tups:∀ b xs,H b=some (.tup xs)->H' b=some (.tup xs)
 frzs:∀ b o u,H b=some (.frz o u)->H' b=some (.frz o u)
 tbls:∀ b ps,H b=some (.tbl ps)->∃ more,H' b=some (.tbl (ps++more))
section
variable {fs fs' ex ex':List Addr}{H H1 H2:Hp}{h h1 h2 h':Heap}{a x e:Addr}{o:HO}
theorem Un.any (u:Un fs ex H H1 h h1){b:Addr}{ob:Obj}(q:h.get? b=some ob)(n:H b=none)(hx:b∉ex):∃ sl,h1.get? b=some { ob with slots:=sl }:=by
 by_cases hb:b∈fs
 ·exact u.slot b ob q n hb hx
 ·exact⟨ob.slots,u.keep b ob q n hb hx⟩
theorem Un.kept (k:∀ b u,h.get? b=some u->h'.get? b=some u):Un fs ex H H h h':=
 ⟨λb ob q _ _ _=>k b ob q,λb ob q _ _ _=>⟨ob.slots,k b ob q⟩,λ_ _ _ n _=>n,λb ob q _=>⟨ob,k b ob q⟩,λ_ _ q=>q,λ_ _ _ q=>q,λ_ ps q=>⟨#[],by rw[q];simp⟩⟩
theorem Un.refl:Un fs ex H H h h:=Un.kept λ_ _ q=>q
theorem Un.laid (k:∀ b u,h.get? b=some u->h'.get? b=some u)(hp:h.objs.size<=a)(hn:H a=none):Un fs ex H (upd H a o) h h' where
 keep:=λb u q _ _ _=>k b u q
 slot:=λb u q _ _ _=>⟨u.slots,k b u q⟩
 free:=λb u q n _=>by rw[aF (Nat.ne_of_lt (Nat.lt_of_lt_of_le (Heap.lt_size q) hp))];exact n
 there:=λb u q _=>⟨u,k b u q⟩
 tups:=λb xs q=>by rw[aF (aN q hn)];exact q
 frzs:=λb u xs q=>by rw[aF (aN q hn)];exact q
 tbls:=λb ps q=>⟨#[],by rw[aF (aN q hn),q];simp⟩
theorem Un.write (mu:Mut (H x))(he:e=x∨H e=some (.own x))(k:∀ b u,b≠e->h.get? b=some u->h'.get? b=some u)(heo:∃ u,h'.get? e=some u):Un fs ex H (upd H x o) h h':=by
 have hx:∀ b,H b=none->b≠x:=λb n z=>by subst z;rw[n] at mu;exact mu
 have hb:∀ b,H b=none->b≠e:=λb n z=>by
  subst z
  rcases he with r |r
  ·exact hx b n r
  ·rw[n] at r;cases r
 have hm:∀ b u,H b=some u->¬ Mut (some u)->b≠x:=λb u q nm z=>by subst z;rw[q] at mu;exact nm mu
 refine⟨λb u q n _ _=>k b u (hb b n) q,λb u q n _ _=>⟨u.slots,k b u (hb b n) q⟩,λb u q n _=>by rw[aF (hx b n)];exact n,λb u q _=>?_,
  λb xs q=>by rw[aF (hm b _ q λz=>z)];exact q,λb u xs q=>by rw[aF (hm b _ q λz=>z)];exact q,λb ps q=>⟨#[],by rw[aF (hm b _ q λz=>z),q];simp⟩⟩
 by_cases hbe:b=e
 ·subst hbe;exact heo
 ·exact⟨u,k b u hbe q⟩
end
def trk (h:Heap)(H:Hp):List Addr:=(List.range h.objs.size).filter λa=>(H a).isSome
def qC (h:Heap)(H:Hp):Heap:=PySem.W.hideAll h (trk h H)
theorem wZ (h:Heap)(H:Hp):(qC h H).objs.size=h.objs.size:=PySem.W.hideAll_size _ _
theorem yG {h:Heap}{H:Hp}{b:Addr}{o:Obj}(e:h.get? b=some o)(n:H b=none):(qC h H).get? b=some o:=
 PySem.W.hideAll_get _ e λhm=>by
  have q:(H b).isSome=true:=(List.mem_filter.mp hm).2
  rw[n] at q;simp at q
theorem Af {h:Heap}{H:Hp}{b:Addr}{o:Obj}(e:(qC h H).get? b=some o):h.get? b=some o/\H b=none:=by
 have e':h.get? b=some o:=PySem.W.of_hideAll (trk h H) e
 refine⟨e',?_⟩
 cases q:H b with
 |none=>rfl
 |some x =>
  have hm:b∈trk h H:=List.mem_filter.mpr ⟨List.mem_range.mpr (Heap.lt_size e'),by simp[q]⟩
  have z:(qC h H).get? b=none:=PySem.W.hideAll_none (trk h H) hm
  rw[z] at e;cases e
def AR (g h:Heap)(L:Addr):List (Addr×Obj):=(List.range h.objs.size).filterMap λa=>if a=L∨(g.get? a).isSome=true then none else (h.get? a).map λo=>(a,o)
def rest (g h:Heap)(L d:Addr):List (Addr×Obj):=(AR g h L).filter λp=>decide (p.1≠d)
structure Mod (K:PySem.W.Frag) (mg:Str->Option Value) (base:Heap):Prop where
 kin:K.In base
 glob:base.Ns mainGlobals mg
 blt:∃ mb,base.Ns builtinsNs mb/\∀ x:Str,x≠"__name__"->mb x=bootBuiltins x
 nolimit:base.NoLimit
structure Cx where
 prog:Program
 w:World
 K:PySem.W.Frag
 mg:Str->Option Value
 base:Heap
 A:Around
 N:List Str
 s₀:Shared
 H₀:Hp
 env:Env
 outer:List Env
 stack:List Env
 ex:List Addr
 fn:Str->Bool
 calm:Bool
 pn:List (Addr×Obj)
 xe:Value->Shared->Prop
def frs (l:List Env):List Addr:=l.filterMap (·.frame)
abbrev Cx.fs (X:Cx):List Addr:=frs X.outer
def Vis (sc:Scope)(x:Str):Prop:=sc.names.lookup x=some .local∨sc.names.lookup x=some .cell∨sc.names.lookup x=some .free
def Loc (sc:Scope)(x:Str):Prop:=sc.names.lookup x=some .local∨sc.names.lookup x=some .cell
def Look (env:Env)(h:Heap)(m:Str->Option Value)(x:Str)(u:Value):Prop:=
 (env.kindOf x=some .local/\m x=some u)∨((env.kindOf x=some .cell∨env.kindOf x=some .free)/\∃ c,env.cells.lookup x=some c/\h.IsCell c (some u))
structure Cx.Ok (X:Cx):Prop where
 mod:Mod X.K X.mg X.base
 kind:X.env.scope.kind = .function
 glob:X.env.globals=mainGlobals
 blt:X.env.builtins=builtinsNs
 above:X.s₀.heap.objs.size<=X.env.locals
 inj:∀ x y c,X.env.cells.lookup x=some c->X.env.cells.lookup y=some c->x=y
 has:∀ x,(X.env.kindOf x=some .cell∨X.env.kindOf x=some .free)->∃ c,X.env.cells.lookup x=some c
 cab:∀ x c,X.fn x=true->X.env.cells.lookup x=some c->X.s₀.heap.objs.size<=c
 hd:X.calm=true->X.A.handled=none
 frames:X.A.frames=some X.stack
 stk:X.stack=X.outer∨(X.stack=X.env::X.outer/\X.env.frame=some X.env.locals)
 exf:∀ b∈X.ex,b≠X.env.locals/\∀ x c,X.env.cells.lookup x=some c->c≠b
 bs:∀ b o,X.base.get? b=some o->X.s₀.heap.get? b=some o/\X.H₀ b=none
 bsz:X.base.objs.size<=X.s₀.heap.objs.size
 noex:∀ b o,X.base.get? b=some o->b∉X.ex
 exfs:∀ b∈X.ex,b∉X.fs
 funs:X.s₀.heap.FunFrames X.base X.outer
 frf:∀ b∈X.fs,X.H₀ b=none
structure Inv (X:Cx) (pins:List (Addr×Obj)) (σ:List (Option V)) (H:Hp) (s:Shared):Prop where
 ok:X.Ok
 os:s.os=X.s₀.os
 bare:AllBare s.gens
 base:Un X.fs X.ex X.H₀ H X.s₀.heap s.heap
 loc:∃ m,s.heap.Ns X.env.locals m/\∀ (i:Nat) (x:Str) (v:V),X.N[i]?=some x->σ[i]?=some (some v)->Vis X.env.scope x->∃ u,RelV v u/\Look X.env s.heap m x u
 cell:∀ x c,X.env.cells.lookup x=some c->∃ v,s.heap.IsCell c v
 free:H X.env.locals=none
 freeC:∀ x c,X.env.cells.lookup x=some c->H c=none
 pin:∀ p∈X.pn++pins,s.heap.get? p.1=some p.2/\H p.1=none/\p.1≠X.env.locals/\p.1∉X.fs/\∀ v,p.2.data≠.cell v
 hok:HOk X.prog X.w H s.heap
 len : σ.length=X.N.length
section
variable {X:Cx}{pins:List (Addr×Obj)}{σ:List (Option V)}{H H':Hp}{s:Shared}{h':Heap}
theorem Cx.Ok.nofr (ok:X.Ok){b:Addr}{o:Obj}(e:X.base.get? b=some o):b∉X.fs:=λhb=>by
 have:=(ok.funs.mem hb).1
 rw[e] at this;cases this
theorem Inv.bs (I:Inv X pins σ H s):∀ b o,X.base.get? b=some o->s.heap.get? b=some o/\H b=none:=λb o e =>
 ⟨I.base.keep b o (I.ok.bs b o e).1 (I.ok.bs b o e).2 (I.ok.nofr e) (I.ok.noex b o e),I.base.free b o (I.ok.bs b o e).1 (I.ok.bs b o e).2 (I.ok.noex b o e)⟩
theorem Inv.bk (I:Inv X pins σ H s):∀ b o,X.base.get? b=some o->s.heap.get? b=some o:=λb o e=>(I.bs b o e).1
theorem Inv.mod (I:Inv X pins σ H s):Mod X.K X.mg X.base:=I.ok.mod
theorem Inv.kIn (I:Inv X pins σ H s):X.K.In s.heap:=I.ok.mod.kin.keeps I.bk
theorem Inv.lt (I:Inv X pins σ H s):X.env.locals<s.heap.objs.size:=let ⟨_,hn,_⟩:=I.loc;hn.lt
theorem Inv.sz (I:Inv X pins σ H s):X.s₀.heap.objs.size<=s.heap.objs.size:=Nat.le_trans I.ok.above (Nat.le_of_lt I.lt)
theorem Inv.nofs (I:Inv X pins σ H s){a:Addr}(h:s.heap.objs.size<=a):a∉X.fs:=λhb=>by
 obtain⟨_,o,ho,_⟩:=I.ok.funs.mem hb
 exact absurd (Nat.lt_of_lt_of_le (Heap.lt_size ho) (Nat.le_trans I.sz h)) (Nat.lt_irrefl _)
theorem Inv.cne (I:Inv X pins σ H s):∀ x c,X.env.cells.lookup x=some c->c≠X.env.locals:=λx c e z=>by
 obtain⟨v,o,ho,hd⟩:=I.cell x c e
 obtain⟨m,⟨o',es,ep,ho',hd',_⟩,_⟩:=I.loc
 rw[z,ho'] at ho;cases ho;rw[hd'] at hd;cases hd
theorem Inv.funs (I:Inv X pins σ H s):s.heap.FunFrames X.base X.outer:=by
 have all:∀ (l:List Env),(∀ b∈frs l,b∈X.fs)->X.s₀.heap.FunFrames X.base l->s.heap.FunFrames X.base l:=by
  intro l
  induction l with
  |nil=>intro _ _;trivial
  |cons env r ih =>
   intro hs hl
   obtain⟨hk,⟨L,o,hf,hn,ho,hd⟩,hr⟩:=hl
   have hL:L∈X.fs:=hs L (by unfold frs;rw[List.filterMap_cons,hf];exact List.mem_cons_self)
   obtain⟨sl,e⟩:=I.base.slot L o ho (I.ok.frf L hL) hL λz=>I.ok.exfs L z hL
   exact⟨hk,⟨L,_,hf,hn,e,hd⟩,ih (λb hb=>hs b (by unfold frs;rw[List.filterMap_cons,hf];exact List.mem_cons_of_mem _ hb)) hr⟩
 exact all X.outer (λ_ hb=>hb) I.ok.funs
theorem Inv.stack (I:Inv X pins σ H s):s.heap.FunFrames X.base X.stack:=by
 rcases I.ok.stk with e |⟨e,hf⟩
 ·rw[e];exact I.funs
 ·rw[e]
  obtain⟨m,hn,_⟩:=I.loc
  refine .cons (by rw[I.ok.kind];decide) hf hn ?_ I.funs
  exact Heap.get?_none_of_le (Nat.le_trans I.ok.bsz I.ok.above)
theorem Inv.stkSub (I:Inv X pins σ H s):∀ b∈frs X.stack,b∈X.env.locals::X.fs:=λb hb=>by
 rcases I.ok.stk with e |⟨e,hf⟩
 ·rw[e] at hb;exact List.mem_cons_of_mem _ hb
 ·rw[e] at hb
  unfold frs at hb
  rw[List.filterMap_cons,hf] at hb
  exact hb
theorem Inv.stkFree (I:Inv X pins σ H s):∀ b∈frs X.stack,H b=none:=λb hb=>by
 rcases List.mem_cons.mp (I.stkSub b hb) with e |hb
 ·rw[e];exact I.free
 ·obtain⟨_,o,ho,_⟩:=I.ok.funs.mem hb
  exact I.base.free b o ho (I.ok.frf b hb) λz=>I.ok.exfs b z hb
theorem Inv.step {g':Array GenState}{t':Nat}{d':Drawn}{ch:List Addr}(I:Inv X pins σ H s)
  (hch:∀ b∈ch,(b∈X.ex∨X.s₀.heap.objs.size<=b)/\b≠X.env.locals/\(∀ x c,X.env.cells.lookup x=some c->c≠b)/\∀ p∈X.pn++pins,p.1≠b)
  (keep:∀ b o,b≠X.env.locals->b∉X.fs->b∉ch->s.heap.get? b=some o->H b=none->h'.get? b=some o)
  (slot:∀ b o,b≠X.env.locals->b∈X.fs->b∉ch->s.heap.get? b=some o->H b=none->∃ sl,h'.get? b=some { o with slots:=sl }) (free:∀ b o,b∉ch->s.heap.get? b=some o->H b=none->H' b=none)
  (there:∀ b o,b∉ch->s.heap.get? b=some o->∃ o',h'.get? b=some o')
  (tups:∀ b xs,H b=some (.tup xs)->H' b=some (.tup xs)) (frzs:∀ b o u,H b=some (.frz o u)->H' b=some (.frz o u)) (tbls:∀ b ps,H b=some (.tbl ps)->∃ more,H' b=some (.tbl (ps++more)))
  (ns:∀ m,s.heap.Ns X.env.locals m->h'.Ns X.env.locals m) (hok:HOk X.prog X.w H' h') (hg:AllBare g') :
  Inv X pins σ H' { s with heap:=h',gens:=g',drawn:=d',toks:=t' }:=by
 have neL:∀ b o,X.s₀.heap.get? b=some o->b≠X.env.locals:=λb o e=>Nat.ne_of_lt (Nat.lt_of_lt_of_le (Heap.lt_size e) I.ok.above)
 have neC:∀ b o,X.s₀.heap.get? b=some o->b∉X.ex->b∉ch:=λb o e hx hb=>by
  rcases (hch b hb).1 with z |z
  ·exact hx z
  ·exact absurd (Nat.lt_of_lt_of_le (Heap.lt_size e) z) (Nat.lt_irrefl _)
 have cellK:∀ x c,X.env.cells.lookup x=some c->∀ v,s.heap.IsCell c v->h'.IsCell c v:=λx c e v ⟨o,ho,hd⟩=>by
  have nch:c∉ch:=λz=>(hch c z).2.2.1 x c e rfl
  by_cases hc:c∈X.fs
  ·obtain⟨sl,q⟩:=slot c o (I.cne x c e) hc nch ho (I.freeC x c e)
   exact⟨_,q,hd⟩
  ·exact⟨o,keep c o (I.cne x c e) hc nch ho (I.freeC x c e),hd⟩
 refine⟨I.ok,I.os,hg,⟨λb o e n hb hx=>?_,λb o e n hb hx=>?_,λb o e n hx=>?_,λb o e hx=>?_,λb xs e=>tups b xs (I.base.tups b xs e),λb o xs e=>frzs b o xs (I.base.frzs b o xs e),λb ps e=>?_⟩,?_,λx c e=>?_,?_,λx c e=>?_,λp hp=>?_,hok,I.len⟩
 ·exact keep b o (neL b o e) hb (neC b o e hx) (I.base.keep b o e n hb hx) (I.base.free b o e n hx)
 ·obtain⟨sl,e1⟩:=I.base.slot b o e n hb hx
  obtain⟨sl',e2⟩:=slot b _ (neL b o e) hb (neC b o e hx) e1 (I.base.free b o e n hx)
  exact⟨sl',e2⟩
 ·obtain⟨o',e1⟩:=I.base.there b o e hx
  exact free b o' (neC b o e hx) e1 (I.base.free b o e n hx)
 ·obtain⟨o',e1⟩:=I.base.there b o e hx
  exact there b o' (neC b o e hx) e1
 ·obtain⟨m1,e1⟩:=I.base.tbls b ps e
  obtain⟨m2,e2⟩:=tbls b _ e1
  exact⟨m1++m2,by rw[e2,Array.append_assoc]⟩
 ·obtain⟨m,hn,hl⟩:=I.loc
  refine⟨m,ns m hn,λi x v e1 e2 e3=>?_⟩
  obtain⟨u,r,l⟩:=hl i x v e1 e2 e3
  refine⟨u,r,?_⟩
  rcases l with l |⟨k,c,e,z⟩
  ·exact .inl l
  ·exact .inr ⟨k,c,e,cellK x c e _ z⟩
 ·obtain⟨v,z⟩:=I.cell x c e
  exact⟨v,cellK x c e v z⟩
 ·obtain⟨m,⟨o,_,_,ho,_⟩,_⟩:=I.loc
  exact free _ o (λz=>(hch _ z).2.1 rfl) ho I.free
 ·obtain⟨v,o,ho,hd⟩:=I.cell x c e
  exact free c o (λz=>(hch c z).2.2.1 x c e rfl) ho (I.freeC x c e)
 ·obtain⟨e,n,ne,nf,d⟩:=I.pin p hp
  have nch:p.1∉ch:=λz=>(hch p.1 z).2.2.2 p hp rfl
  exact⟨keep p.1 p.2 ne nf nch e n,free p.1 p.2 nch e n,ne,nf,d⟩
theorem Inv.un {t':Nat}(I:Inv X pins σ H s)(u:Un X.fs [] H H' s.heap h')(hok:HOk X.prog X.w H' h'):Inv X pins σ H' { s with heap:=h',toks:=t' }:=by
 obtain⟨m,⟨o,es,ep,ho,r⟩,_⟩:=id I.loc
 obtain⟨sl,hL⟩:=u.any ho I.free (by simp)
 exact I.step (g':=s.gens) (d':=s.drawn) (ch:=[]) (λ_ z=>nomatch z) (λb o _ hb _ e n=>u.keep b o e n hb (by simp)) (λb o _ hb _ e n=>u.slot b o e n hb (by simp)) (λb o _ e n=>u.free b o e n (by simp)) (λb o _ e=>u.there b o e (by simp)) u.tups u.frzs u.tbls (λm' hm=>by
  obtain⟨o',es',ep',ho',r'⟩:=hm
  rw[ho] at ho';cases ho'
  exact⟨_,es',ep',hL,r'⟩) hok I.bare
theorem Inv.call {g':Array GenState}{t':Nat}{d':Drawn}{ch:List Addr}(I:Inv X pins σ H s)(u:Un (frs X.stack) ch H H' s.heap h')(hok:HOk X.prog X.w H' h')(hg:AllBare g')
  (hch:∀ b∈ch,(b∈X.ex∨X.s₀.heap.objs.size<=b)/\b≠X.env.locals/\(∀ x c,X.env.cells.lookup x=some c->c≠b)/\∀ p∈X.pn++pins,p.1≠b) :
  Inv X pins σ H' { s with heap:=h',gens:=g',drawn:=d',toks:=t' }:=by
 obtain⟨m,⟨o,es,ep,ho,r⟩,_⟩:=id I.loc
 obtain⟨sl,hL⟩:=u.any ho I.free λz=>(hch _ z).2.1 rfl
 exact I.step (ch:=ch) hch (λb o hL hb hc e n=>u.keep b o e n (λz=>(List.mem_cons.mp (I.stkSub b z)).elim hL hb) hc) (λb o _ _ hc e n=>u.any e n hc) (λb o hc e n=>u.free b o e n hc) (λb o hc e=>u.there b o e hc) u.tups u.frzs u.tbls (λm' hm=>by
  obtain⟨o',es',ep',ho',r'⟩:=hm
  rw[ho] at ho';cases ho'
  exact⟨_,es',ep',hL,r'⟩) hok hg
theorem Inv.turned {t':Nat}{it:Addr}(I:Inv X pins σ H s)(k:∀ b o,b≠it->s.heap.get? b=some o->h'.get? b=some o)(hn:H it=none)(hL:it≠X.env.locals)
  (h1:it∈X.ex∨X.s₀.heap.objs.size<=it) (h2:∀ x c,X.env.cells.lookup x=some c->c≠it) (h3:∀ p∈X.pn++pins,p.1≠it):Inv X pins σ H { s with heap:=h',toks:=t' }:=by
 have nit:∀ b u,H b=some u->b≠it:=λb u e z=>by rw[z,hn] at e;cases e
 refine I.step (g':=s.gens) (d':=s.drawn) (ch:=[it]) (λb hb=>?_) (λb o _ _ hc e _=>k b o (λz=>hc (by simp[z])) e) (λb o _ _ hc e _=>⟨o.slots,k b o (λz=>hc (by simp[z])) e⟩) (λ_ _ _ _ n=>n)
  (λb o hc e=>⟨o,k b o (λz=>hc (by simp[z])) e⟩) (λ_ _ e=>e) (λ_ _ _ e=>e) (λb ps e=>⟨#[],by rw[e];simp⟩) (λm hm=>?_) (λb u e=>?_) I.bare
 ·have e:b=it:=by simpa using hb
  subst e
  exact⟨h1,hL,h2,h3⟩
 ·obtain⟨o,es,ep,ho,r⟩:=hm
  exact⟨o,es,ep,k _ o (Ne.symm hL) ho,r⟩
 ·refine (I.hok b u e).stay (λc v hc q=>k c v ?_ q) (λ_ q=>q) λ_ _ q=>q
  rcases hc with z |z
  ·rw[z];exact nit b u e
  ·exact nit c _ z
theorem Inv.tok (I:Inv X pins σ H s)(t:Nat):Inv X pins σ H { s with toks:=t }:=I.un (h':=s.heap) (t':=t) Un.refl I.hok
theorem Inv.kept {t':Nat}(I:Inv X pins σ H s)(k:∀ b u,s.heap.get? b=some u->h'.get? b=some u):Inv X pins σ H { s with heap:=h',toks:=t' }:=I.un (Un.kept k) (I.hok.kept k)
theorem Inv.laid {a:Addr}{o:HO}{t':Nat}(I:Inv X pins σ H s)(k:∀ b u,s.heap.get? b=some u->h'.get? b=some u)(hp:s.heap.objs.size<=a)(new:ObjOk X.prog X.w (upd H a o) h' a o) :
  Inv X pins σ (upd H a o) { s with heap:=h',toks:=t' }:=I.un (Un.laid k hp (I.hok.fresh hp)) (I.hok.laid k hp new)
theorem Inv.write {x e:Addr}{o:HO}{t':Nat}(I:Inv X pins σ H s)(mu:Mut (H x))(he:e=x∨H e=some (.own x))(k:∀ b u,b≠e->s.heap.get? b=some u->h'.get? b=some u)(heo:∃ u,h'.get? e=some u)
  (new:ObjOk X.prog X.w (upd H x o) h' x o):Inv X pins σ (upd H x o) { s with heap:=h',toks:=t' }:=I.un (Un.write mu he k heo) (I.hok.write mu he k heo new)
theorem Inv.pins_of {pins':List (Addr×Obj)}(I:Inv X pins σ H s)(h:∀ p∈pins',s.heap.get? p.1=some p.2/\H p.1=none/\p.1≠X.env.locals/\p.1∉X.fs/\∀ v,p.2.data≠.cell v):Inv X pins' σ H s:=
 ⟨I.ok,I.os,I.bare,I.base,I.loc,I.cell,I.free,I.freeC,λp hp=>(List.mem_append.mp hp).elim (λz=>I.pin p (List.mem_append_left _ z)) (h p),I.hok,I.len⟩
theorem rZ {N:List Str}(hN:N.Nodup){i j:Nat}{x:Str}(a:N[i]?=some x)(b:N[j]?=some x):i=j:=by
 obtain⟨h1,e1⟩:=List.getElem?_eq_some_iff.mp a
 obtain⟨h2,e2⟩:=List.getElem?_eq_some_iff.mp b
 exact (List.getElem_inj hN).mp (e1.trans e2.symm)
theorem oJ {M:Model}{A:Around}{E:Value->Shared->Prop}{i:Nat}{x:Str}{v:V}{u:Value}{Q:Unit->Shared->Prop}(I:Inv X pins σ H s)(hN:X.N.Nodup)(hi:X.N[i]?=some x)(hx:Loc X.env.scope x)(r:RelV v u)
  (h:∀ s',Inv X pins (σ.set i (some v)) H s'->(∃ a,Heap.SameBut a s.heap s'.heap/\(a=X.env.locals∨X.env.cells.lookup x=some a))->Q () s') (hf:X.fn x=true∨X.env.scope.names.lookup x=some .local:=by first |exact .inl rfl |exact .inr rfl |assumption):wpAny M A (storeName X.env x u) Q E s:=by
 obtain⟨m,hn,hl⟩:=id I.loc
 have hcls:(X.env.scope.kind==.class ||(X.env.scope.kind==.module&&X.env.locals != X.env.globals))=false:=by rw[I.ok.kind];rfl
 have hiσ:i < σ.length:=by rw[I.len];exact (List.getElem?_eq_some_iff.mp hi).1
 have cne:=I.cne
 have tracked:∀ {a:Addr}{h':Heap},(∃ o,s.heap.get? a=some o/\H a=none)->Heap.SameBut a s.heap h'->HOk X.prog X.w H h':=λ{a h'} ha hs b ob e=>by
  obtain⟨_,_,hfree⟩:=ha
  refine (I.hok b ob e).stay (λc w' hc q=>(hs.2 c ?_).trans q) (λ_ q=>q) λ_ _ q=>q
  rintro rfl
  rcases hc with rfl |hc
  ·rw[hfree] at e;cases e
  ·rw[hfree] at hc;cases hc
 rcases hx with hk |hk
 ·refine wpAny_storeName_local hk hn (λh' hn' hs=>?_) hcls
  obtain⟨oL,_,_,hoL,_⟩:=id hn
  refine h _ ⟨I.ok,I.os,I.bare,⟨λb o e n hb hx=>?_,λb o e n hb hx=>?_,I.base.free,λb o e hx=>?_,I.base.tups,I.base.frzs,I.base.tbls⟩,⟨_,hn',λj y v' e1 e2 e3=>?_⟩,λy c e=>?_,I.free,I.freeC,λp hp=>?_,tracked ⟨oL,hoL,I.free⟩ hs,by simpa using I.len⟩ ⟨_,hs,.inl rfl⟩
  ·exact (hs.2 b (Nat.ne_of_lt (Nat.lt_of_lt_of_le (Heap.lt_size e) I.ok.above))).trans (I.base.keep b o e n hb hx)
  ·obtain⟨sl,e1⟩:=I.base.slot b o e n hb hx
   exact⟨sl,(hs.2 b (Nat.ne_of_lt (Nat.lt_of_lt_of_le (Heap.lt_size e) I.ok.above))).trans e1⟩
  ·obtain⟨o',e1⟩:=I.base.there b o e hx
   exact⟨o',(hs.2 b (Nat.ne_of_lt (Nat.lt_of_lt_of_le (Heap.lt_size e) I.ok.above))).trans e1⟩
  ·by_cases hj:j=i
   ·subst hj
    rw[hi] at e1;cases e1
    rw[List.getElem?_set_self hiσ] at e2
    cases e2
    exact⟨u,r,.inl ⟨hk,by simp⟩⟩
   ·rw[List.getElem?_set_ne (Ne.symm hj)] at e2
    obtain⟨u',r',q⟩:=hl j y v' e1 e2 e3
    refine⟨u',r',?_⟩
    rcases q with ⟨k,e⟩ |⟨k,c,e,z⟩
    ·refine .inl ⟨k,?_⟩
     have:y≠x:=λe=>hj (rZ hN e1 (e▸hi))
     simp[this,e]
    ·exact .inr ⟨k,c,e,z.sameBut hs (cne y c e)⟩
  ·obtain⟨w',z⟩:=I.cell y c e
   exact⟨w',z.sameBut hs (cne y c e)⟩
  ·obtain⟨e,n,ne,nf,d⟩:=I.pin p hp
   exact⟨(hs.2 p.1 ne).trans e,n,ne,nf,d⟩
 ·have hfn:X.fn x=true:=by
   rcases hf with z |z
   ·exact z
   ·rw[z] at hk;cases hk
  obtain⟨c,hc⟩:=I.ok.has x (.inl hk)
  obtain⟨w',z⟩:=I.cell x c hc
  refine wpAny_storeName_cell I.ok.kind hk hc z (λh' hc' hs=>?_)
  obtain⟨oc,hoc,hocd⟩:=id z
  refine h { s with heap:=h' } ⟨I.ok,I.os,I.bare,⟨λb o e n hb hx=>?_,λb o e n hb hx=>?_,I.base.free,λb o e hx=>?_,I.base.tups,I.base.frzs,I.base.tbls⟩,⟨m,hn.sameBut hs (Ne.symm (cne x c hc)),λj y v' e1 e2 e3=>?_⟩,λy c' e=>?_,I.free,I.freeC,λp hp=>?_,tracked ⟨oc,hoc,I.freeC x c hc⟩ hs,by simpa using I.len⟩ ⟨c,hs,.inr hc⟩
  ·exact (hs.2 b (Nat.ne_of_lt (Nat.lt_of_lt_of_le (Heap.lt_size e) (I.ok.cab x c hfn hc)))).trans (I.base.keep b o e n hb hx)
  ·obtain⟨sl,e1⟩:=I.base.slot b o e n hb hx
   exact⟨sl,(hs.2 b (Nat.ne_of_lt (Nat.lt_of_lt_of_le (Heap.lt_size e) (I.ok.cab x c hfn hc)))).trans e1⟩
  ·obtain⟨o',e1⟩:=I.base.there b o e hx
   exact⟨o',(hs.2 b (Nat.ne_of_lt (Nat.lt_of_lt_of_le (Heap.lt_size e) (I.ok.cab x c hfn hc)))).trans e1⟩
  ·by_cases hj:j=i
   ·subst hj
    rw[hi] at e1;cases e1
    rw[List.getElem?_set_self hiσ] at e2
    cases e2
    exact⟨u,r,.inr ⟨.inl hk,c,hc,hc'⟩⟩
   ·rw[List.getElem?_set_ne (Ne.symm hj)] at e2
    obtain⟨u',r',q⟩:=hl j y v' e1 e2 e3
    refine⟨u',r',?_⟩
    rcases q with q |⟨k,c',e,z'⟩
    ·exact .inl q
    ·refine .inr ⟨k,c',e,z'.sameBut hs ?_⟩
     rintro rfl
     exact hj (rZ hN e1 (I.ok.inj _ _ _ e hc▸hi))
  ·by_cases hcc:c'=c
   ·subst hcc;exact⟨_,hc'⟩
   ·obtain⟨w2,z2⟩:=I.cell y c' e
    exact⟨w2,z2.sameBut hs hcc⟩
  ·obtain⟨e,n,ne,nf,d⟩:=I.pin p hp
   refine⟨(hs.2 p.1 ?_).trans e,n,ne,nf,d⟩
   intro q
   rw[q,hoc] at e
   have q':oc=p.2:=Option.some.inj e
   exact d w' (by rw[← q'];exact hocd)
theorem rE {M:Model}{A:Around}{E:Value->Shared->Prop}{i:Nat}{x:Str}{v:V}{u:Value}{Q:Unit->Shared->Prop}(I:Inv X pins σ H s)(hN:X.N.Nodup)(hi:X.N[i]?=some x)(hx:Loc X.env.scope x)(r:RelV v u)
  (h:∀ s',Inv X pins (σ.set i (some v)) H s'->Q () s') (hf:X.fn x=true∨X.env.scope.names.lookup x=some .local:=by first |exact .inl rfl |exact .inr rfl |assumption):wpAny M A (storeName X.env x u) Q E s:=
 oJ I hN hi hx r (λs' I' _=>h s' I') hf
theorem Inv.call' {s':Shared}{ch:List Addr}(I:Inv X pins σ H s)(ho:s'.os=s.os)(u:Un (frs X.stack) ch H H' s.heap s'.heap)(hok:HOk X.prog X.w H' s'.heap)(hg:AllBare s'.gens)
  (hch:∀ b∈ch,(b∈X.ex∨X.s₀.heap.objs.size<=b)/\b≠X.env.locals/\(∀ x c,X.env.cells.lookup x=some c->c≠b)/\∀ p∈X.pn++pins,p.1≠b):Inv X pins σ H' s':=by
 obtain⟨h',g',d',t',o'⟩:=s'
 have e:o'=s.os:=ho
 subst e
 exact I.call (g':=g') (t':=t') (d':=d') u hok hg hch
end
abbrev XK:=Value->Option Addr->Hp->Prop
abbrev St:=List (Option V)
abbrev VK:=V->Hp->Prop
abbrev TE:=St->Hp->VK->Prop
abbrev TT:=St->Hp->(Bool->Hp->Prop)->Prop
abbrev TA:=St->Hp->(List V->Hp->Prop)->Prop
structure Ends where
 nx:St->Hp->Prop
 rt:VK
 bk:St->Hp->Prop:=λ_ _=>False
 ct:St->Hp->Prop:=λ_ _=>False
abbrev TS:=Ends->St->Hp->Prop
def EP (X:Cx)(pins:List (Addr×Obj))(σ:St)(Q:VK)(u:Value)(s':Shared):Prop:=∃ v H',Inv X pins σ H' s'/\RelV v u/\Q v H'
def TP (X:Cx)(pins:List (Addr×Obj))(σ:St)(Q:Bool->Hp->Prop)(b:Bool)(s':Shared):Prop:=∃ H',Inv X pins σ H' s'/\Q b H'
def AP (X:Cx)(pins:List (Addr×Obj))(σ:St)(Q:List V->Hp->Prop)(us:List Value)(s':Shared):Prop:=∃ vs H',Inv X pins σ H' s'/\Vals vs us/\Q vs H'
def SP (X:Cx)(pins:List (Addr×Obj))(D:Ends)(f:Flow)(s':Shared):Prop:=
 match f with
 | .next => ∃ σ' H',Inv X pins σ' H' s'/\D.nx σ' H'
 | .brk => ∃ σ' H',Inv X pins σ' H' s'/\D.bk σ' H'
 | .cont => ∃ σ' H',Inv X pins σ' H' s'/\D.ct σ' H'
 | .ret u => ∃ v σ' H',Inv X pins σ' H' s'/\RelV v u/\D.rt v H'
def PE (X:Cx)(e:Expr)(t:TE):Prop:=
 ∀ (pins:List (Addr×Obj)) (s:Shared) (σ:St) (H:Hp) (Q:VK),Inv X pins σ H s->t σ H Q->wpAny (model X.prog X.w) X.A (eval e X.env) (EP X pins σ Q) X.xe s
def PT (X:Cx)(e:Expr)(t:TT):Prop:=
 ∀ (pins:List (Addr×Obj)) (s:Shared) (σ:St) (H:Hp) (Q:Bool->Hp->Prop),Inv X pins σ H s->t σ H Q->wpAny (model X.prog X.w) X.A (isTrue e X.env (eval e X.env)) (TP X pins σ Q) X.xe s
def PW (X:Cx)(e:Expr)(t:TT):Prop:=
 ∀ (whole:Sem Value) (pins:List (Addr×Obj)) (s:Shared) (σ:St) (H:Hp) (Q:Bool->Hp->Prop),Inv X pins σ H s->t σ H Q->wpAny (model X.prog X.w) X.A (isTrue e X.env whole) (TP X pins σ Q) X.xe s
theorem PW.pt {X:Cx}{e:Expr}{t:TT}(h:PW X e t):PT X e t:=h _
def PA (X:Cx)(es:List Expr)(t:TA):Prop:=
 ∀ (pos:Pos) (pins:List (Addr×Obj)) (s:Shared) (σ:St) (H:Hp) (Q:List V->Hp->Prop),Inv X pins σ H s->t σ H Q->wpAny (model X.prog X.w) X.A (spliced (backTo pos (starEach es X.env))) (AP X pins σ Q) X.xe s
def PS (X:Cx)(st:Stmt)(t:TS):Prop:=
 ∀ (pins:List (Addr×Obj)) (s:Shared) (σ:St) (H:Hp) (D:Ends),Inv X pins σ H s->t D σ H->wpAny (model X.prog X.w) X.A (exec st X.env) (SP X pins D) X.xe s
def PSs (X:Cx)(st:List Stmt)(t:TS):Prop:=
 ∀ (pins:List (Addr×Obj)) (s:Shared) (σ:St) (H:Hp) (D:Ends),Inv X pins σ H s->t D σ H->wpAny (model X.prog X.w) X.A (execs st X.env) (SP X pins D) X.xe s
theorem thn {α:Type}{t:Sem α}{Q Q' : α->Shared->Prop}{M:Model}{A:Around}{E:Value->Shared->Prop}{s:Shared}(h:wpAny M A t Q E s)(hQ:∀ a s,Q a s->Q' a s):wpAny M A t Q' E s:=wpAny_mono h hQ λ_ _ x=>x
section
variable {X:Cx}
theorem bin {a b:Expr}{ta tb:TE}(ha:PE X a ta)(hb:PE X b tb){pins:List (Addr×Obj)}{s:Shared}{σ:St}{H:Hp}{R:V->V->Hp->Prop}(I:Inv X pins σ H s)(h:ta σ H λx H1=>tb σ H1 λy H2=>R x y H2)
  {α:Type}{Q : α->Shared->Prop}{f:Value->Value->Sem α}
  (hf:∀ v u s2 x y H2,Inv X pins σ H2 s2->RelV x v->RelV y u->R x y H2->wpAny (model X.prog X.w) X.A (f v u) Q X.xe s2) :
  wpAny (model X.prog X.w) X.A (eval a X.env) (λv s₁=>wpAny (model X.prog X.w) X.A (eval b X.env) (λu s₂=>wpAny (model X.prog X.w) X.A (f v u) Q X.xe s₂) X.xe s₁) X.xe s:=by
 refine thn (ha pins s σ H _ I h) λv s1 ⟨x,H1,I1,r1,q1⟩=>?_
 refine thn (hb pins s1 σ H1 _ I1 q1) λu s2 ⟨y,H2,I2,r2,q2⟩=>?_
 exact hf v u s2 x y H2 I2 r1 r2 q2
def CN (i:Nat):TE:=λσ H Q => ∃ v,σ[i]?=some (some v)/\Q v H
def tC (v:V):TE:=λ_ H Q=>Q v H
theorem xX {i:Nat}{x:Str}{pos:Pos}(hN:X.N[i]?=some x)(hv:Vis X.env.scope x)(hd:(x==("__debug__":Str))=false:=by decide)(hcd:(x==("__classdict__":Str))=false:=by decide):PE X (.Name x pos) (CN i):=by
 intro pins s σ H Q I h
 obtain⟨v,e,h⟩:=h
 obtain⟨m,hn,hl⟩:=I.loc
 obtain⟨u,r,l⟩:=hl i x v hN e hv
 have fin:EP X pins σ Q u s:=⟨v,H,I,r,h⟩
 rcases l with ⟨hk,hm⟩ |⟨hk,c,hc,hcell⟩
 ·exact wpAny_Name (wpAny_loadName_local I.ok.kind hk hn hm fin) hd
 ·rcases hk with hk |hk
  ·exact wpAny_Name (wpAny_loadName_cell I.ok.kind hk hc hcell fin) hd
  ·exact wpAny_Name (wpAny_loadName_free I.ok.kind hk hc hcell fin hcd) hd
theorem pe_int {i j pos}:PE X (.Constant (.int i) j pos) (tC (.int i)):=λ_ _ _ H _ I h=>wpAny_Constant_int ⟨.int i,H,I.tok _,⟨_,rfl⟩,h⟩
theorem pe_bl {b j pos}:PE X (.Constant (.bool b) j pos) (tC (.bl b)):=λ_ _ _ H _ I h=>Constant_bool ⟨.bl b,H,I,rfl,h⟩
theorem pe_non {j pos}:PE X (.Constant .none j pos) (tC .non):=λ_ _ _ H _ I h=>Constant_none ⟨.non,H,I,rfl,h⟩
theorem pe_str {x j pos}:PE X (.Constant (.str x) j pos) (tC (.str x)):=λ_ _ _ H _ I h=>Calls.Constant_str ⟨.str x,H,I.tok _,⟨_,rfl⟩,h⟩
def Gl (X:Cx)(x:Str):Prop:=X.env.kindOf x=some .globalImplicit
theorem qw {E:Value->Shared->Prop}{pins:List (Addr×Obj)}{s:Shared}{σ:St}{H:Hp}{x:Str}{u:Value}{pos:Pos}{Q:Value->Shared->Prop}(I:Inv X pins σ H s)(hg:Gl X x)(hm:X.mg x=some u)(h:Q u s)
  (hd:(x==("__debug__":Str))=false:=by decide):wpAny (model X.prog X.w) X.A (eval (.Name x pos) X.env) Q E s:=
 Calls.Name_function_global I.ok.kind hg (Calls.loadGlobal_global (by rw[I.ok.glob];exact I.mod.glob.keeps I.bk) hm h) hd
theorem lg {E:Value->Shared->Prop}{pins:List (Addr×Obj)}{s:Shared}{σ:St}{H:Hp}{x:Str}{u:Value}{pos:Pos}{Q:Value->Shared->Prop}(I:Inv X pins σ H s)(hg:Gl X x)(hm:X.mg x=none)(hv:bootBuiltins x=some u)(h:Q u s)
  (hn:x≠"__name__":=by decide) (hd:(x==("__debug__":Str))=false:=by decide):wpAny (model X.prog X.w) X.A (eval (.Name x pos) X.env) Q E s:=by
 obtain⟨mb,h1,h2⟩:=I.mod.blt
 exact Calls.Name_function_global I.ok.kind hg (Calls.loadGlobal_builtin (by rw[I.ok.glob];exact I.mod.glob.keeps I.bk) hm (by rw[I.ok.blt];exact h1.keeps I.bk) ((h2 x hn).trans hv) h) hd
theorem z8 {x:Str}{v:V}{u:Value}{pos:Pos}(hg:Gl X x)(hm:X.mg x=some u)(r:RelV v u)(hd:(x==("__debug__":Str))=false:=by decide):PE X (.Name x pos) (tC v):=
 λ_ _ _ H _ I h=>qw I hg hm ⟨v,H,I,r,h⟩ hd
variable {a b:Expr}{ta tb:TE}{pos:Pos}
def PC (X:Cx)(op:CmpOp)(a b:Expr)(t:TE):Prop:=
 ∀ (pins:List (Addr×Obj)) (s:Shared) (σ:St) (H:Hp) (Q:VK),Inv X pins σ H s->t σ H Q ->
  wpAny (model X.prog X.w) X.A (eval a X.env) (λv s₁=>wpAny (model X.prog X.w) X.A (eval b X.env) (λu s₂=>wpAny (model X.prog X.w) X.A (compareOp op v u) (EP X pins σ Q) X.xe s₂) X.xe s₁) X.xe s
theorem r6 (b:Expr){op:CmpOp}(h:op≠.In)(h2:op≠.NotIn):behindInMarks op b=false:=by
 have e1:(op==CmpOp.In)=false:=by cases op<;>first |rfl |exact absurd rfl h
 have e2:(op==CmpOp.NotIn)=false:=by cases op<;>first |rfl |exact absurd rfl h2
 cases b<;>simp[behindInMarks,e1,e2]
def tB (t:TE):TT:=λσ H Q=>t σ H λx H1 => ∃ c,x = .bl c/\Q c H1
theorem BX {op:CmpOp}{t:TE}(h:PC X op a b t)(h1:behindInMarks op b=false:=by first |exact r6 _ (by decide) (by decide) |rfl):PE X (.Compare a [op] [b] pos) t:=λpins s σ H Q I hw=>wpAny_Compare1 (h pins s σ H Q I hw) h1
theorem ul {op:CmpOp}{t:TE}(h:PC X op a b t)(h1:behindInMarks op b=false:=by first |exact r6 _ (by decide) (by decide) |rfl):PT X (.Compare a [op] [b] pos) (tB t):=by
 intro pins s σ H Q I hw
 refine wpAny_isTrue_Compare1 (thn (h pins s σ H _ I hw) λv s1 h1=>thn h1 λu s2 h2=>thn h2 λc s3 ⟨x,H1,I1,r1,q1⟩=>?_) h1
 obtain⟨d,rfl,q⟩:=q1
 cases r1
 exact wpAny_truthy_bool ⟨H1,I1,q⟩
theorem BL {e:Expr}{t:TE}(h:PE X e t)(he:∀ whole,isTrue e X.env whole=(do let v ← whole;standAt e.pos;holding [v] (truthy v)):=by intro _;rfl):PT X e (tB t):=by
 intro pins s σ H Q I hw
 refine isTrue_plain (thn (h pins s σ H _ I hw) λv s1 ⟨x,H1,I1,r1,q1⟩=>?_) (he _)
 obtain⟨d,rfl,q⟩:=q1
 cases r1
 exact wpAny_truthy_bool ⟨H1,I1,q⟩
variable {tA tB':TT}{rest:List Expr}
def tOr (t u:TT):TT:=λσ H Q=>t σ H λc H1=>if c=true then Q true H1 else u σ H1 Q
def D1 (t:TT):TT:=λσ H Q=>t σ H λc H1=>Q (!c) H1
theorem BH (ha:PT X a tA):PW X (.BoolOp .Or [a] pos) tA:=by
 intro wh pins s σ H Q I h
 refine isTrue_or (thn (ha pins s σ H Q I h) λc s1 e=>?_)
 cases c with
 |false=>exact isTrue_or_nil e
 |true=>exact e
theorem C9 (ha:PT X a tA)(hb:PW X (.BoolOp .Or (b::rest) pos) tB'):PW X (.BoolOp .Or (a::b::rest) pos) (tOr tA tB'):=by
 intro wh pins s σ H Q I h
 refine isTrue_or (thn (ha pins s σ H _ I h) λc s1 ⟨H1,I1,q1⟩=>?_)
 cases c with
 |true=>exact⟨H1,I1,q1⟩
 |false=>exact hb wh pins s1 σ H1 Q I1 q1
theorem BM (ha:PT X a tA):PT X (.UnaryOp .Not a pos) (D1 tA):=by
 intro pins s σ H Q I h
 exact isTrue_not (ha pins s σ H (λc H1=>Q (!c) H1) I h)
def CZ (ta tb:TE):TE:=λσ H Q=>ta σ H λx H1 => ∃ c,x = .bl c/\if c=true then tb σ H1 Q else Q (.bl false) H1
theorem BV {op}{t:TE}(h:PE X a t):PE X (.BoolOp op [a] pos) t:=λpins s σ H Q I hw=>BoolOp_one (h pins s σ H Q I hw)
theorem BY (ha:PE X a ta)(hb:PE X (.BoolOp .And (b::rest) pos) tb):PE X (.BoolOp .And (a::b::rest) pos) (CZ ta tb):=by
 intro pins s σ H Q I h
 refine BoolOp_and (thn (ha pins s σ H _ I h) λv s1 ⟨x,H1,I1,r1,q1⟩=>?_)
 obtain⟨c,rfl,q1⟩:=q1
 cases r1
 refine wpAny_truthy_bool ?_
 cases c with
 |true=>exact hb pins s1 σ H1 Q I1 q1
 |false=>exact⟨.bl false,H1,I1,rfl,q1⟩
def tIf (t:TT)(ta tb:TE):TE:=λσ H Q=>t σ H λc H1=>if c=true then ta σ H1 Q else tb σ H1 Q
theorem x9 {c:Expr}(hc:PT X c tA)(ha:PE X a ta)(hb:PE X b tb):PE X (.IfExp c a b pos) (tIf tA ta tb):=by
 intro pins s σ H Q I h
 refine wpAny_IfExp (thn (hc pins s σ H _ I h) λd s1 ⟨H1,I1,q1⟩=>?_)
 cases d with
 |true=>exact ha pins s1 σ H1 Q I1 q1
 |false=>exact hb pins s1 σ H1 Q I1 q1
end
def SqL (K:PySem.W.Frag)(H:Hp)(a:Addr)(xs:List V):Prop:=
 Rd H a (.lst xs) ∨
  ∃ (o:Obj) (its:Array Value) (n:Nat),K.lookup a=some o/\o.cls = .type "list"/\o.dict=none/\o.data = .seq its n/\its.size<=sizeLine/\Vals xs its.toList
def SqT (K:PySem.W.Frag)(H:Hp)(a:Addr)(xs:List V):Prop:=
 Rd H a (.tup xs) ∨
  ∃ (o:Obj) (its:Array Value) (n:Nat),K.lookup a=some o/\o.cls = .type "tuple"/\o.data = .seq its n/\its.size<=sizeLine/\Vals xs its.toList
def EJ:Value->Option V
 | .none=>some .non
 | .bool b=>some (.bl b)
 | .int i _=>some (.int i)
 | .str x _=>some (.str x)
 | .bytes b _=>some (.byt b)
 | .float b _=>some (.flt b)
 | .ref a=>some (.ref a)
 | .type n=>some (.ty n)
 |_=>none
theorem RelV.abs {x:V}{u:Value}(r:RelV x u):EJ u=some x:=by
 cases x with
 |non=>cases r;rfl
 |bl _=>cases r;rfl
 |int _=>obtain⟨t,rfl⟩:=r;rfl
 |str _=>obtain⟨t,rfl⟩:=r;rfl
 |byt _=>obtain⟨t,rfl⟩:=r;rfl
 |flt _=>obtain⟨t,rfl⟩:=r;rfl
 |ref _=>cases r;rfl
 |ty _=>cases r;rfl
theorem RelV.inj {x y:V}{u:Value}(r:RelV x u)(q:RelV y u):x=y:=Option.some.inj (r.abs.symm.trans q.abs)
theorem Vals.inj:∀ {xs ys:List V}{us:List Value},Vals xs us->Vals ys us->xs=ys
 |_,_,_,.nil,.nil=>rfl
 |_,_,_,.cons r t,.cons r' t'=>by rw[r.inj r',Vals.inj t t']
section
variable {X:Cx}{pins:List (Addr×Obj)}{σ:St}{H:Hp}{s:Shared}{a:Addr}{xs ys:List V}
theorem Inv.list (I:Inv X pins σ H s)(h:SqL X.K H a xs):∃ its:List Value,Vals xs its/\PlainL s.heap a its.toArray/\xs.length<=sizeLine:=by
 rcases h with h |⟨o,its,n,hk,hc,hd,hs,hz,r⟩
 ·obtain⟨z,its,n,r,e⟩:=h.ok I.hok
  exact⟨its,r,⟨_,n,e,rfl,rfl,rfl⟩,z⟩
 ·refine⟨its.toList,r,⟨o,n,I.kIn a o hk,hc,hd,by simpa using hs⟩,?_⟩
  have e:=r.length
  simp only[Array.length_toList] at e
  omega
theorem Inv.tuple (I:Inv X pins σ H s)(h:SqT X.K H a xs):∃ its:List Value,Vals xs its/\IsTup s.heap a its.toArray/\xs.length<=sizeLine:=by
 rcases h with h |⟨o,its,n,hk,hc,hs,hz,r⟩
 ·obtain⟨z,its,r,p⟩:=h.ok I.hok
  exact⟨its,r,p.tup,z⟩
 ·refine⟨its.toList,r,⟨o,I.kIn a o hk,hc,n,by simpa using hs⟩,?_⟩
  have e:=r.length
  simp only[Array.length_toList] at e
  omega
theorem Inv.list_inj (I:Inv X pins σ H s)(h:SqL X.K H a xs)(h':SqL X.K H a ys):xs=ys:=by
 obtain⟨its,r,⟨o,n,e,_,_,d⟩,_⟩:=I.list h
 obtain⟨its',r',⟨o',n',e',_,_,d'⟩,_⟩:=I.list h'
 rw[e] at e';cases e'
 rw[d] at d'
 injection d' with d1 _
 have:its=its':=by simpa using congrArg Array.toList d1
 subst this
 exact r.inj r'
theorem Inv.tuple_inj (I:Inv X pins σ H s)(h:SqT X.K H a xs)(h':SqT X.K H a ys):xs=ys:=by
 obtain⟨its,r,⟨o,e,_,n,d⟩,_⟩:=I.tuple h
 obtain⟨its',r',⟨o',e',_,n',d'⟩,_⟩:=I.tuple h'
 rw[e] at e';cases e'
 rw[d] at d'
 injection d' with d1 _
 have:its=its':=by simpa using congrArg Array.toList d1
 subst this
 exact r.inj r'
end
abbrev Cx.wish (X:Cx)(E:Value->Shared->Prop):Cx:={ X with xe:=E }
abbrev Cx.nox (X:Cx):Cx:=X.wish λ_ _=>False
theorem Cx.Ok.wish {X:Cx}(ok:X.Ok)(E:Value->Shared->Prop):(X.wish E).Ok:=
 ⟨ok.mod,ok.kind,ok.glob,ok.blt,ok.above,ok.inj,ok.has,ok.cab,ok.hd,ok.frames,ok.stk,ok.exf,ok.bs,ok.bsz,ok.noex,ok.exfs,ok.funs,ok.frf⟩
theorem Cx.Ok.unwish {X:Cx}{E:Value->Shared->Prop}(ok:(X.wish E).Ok):X.Ok:=
 ⟨ok.mod,ok.kind,ok.glob,ok.blt,ok.above,ok.inj,ok.has,ok.cab,ok.hd,ok.frames,ok.stk,ok.exf,ok.bs,ok.bsz,ok.noex,ok.exfs,ok.funs,ok.frf⟩
section
variable {X:Cx}{pins:List (Addr×Obj)}{σ:St}{H:Hp}{s:Shared}{E:Value->Shared->Prop}
theorem Inv.wish (I:Inv X pins σ H s)(E:Value->Shared->Prop):Inv (X.wish E) pins σ H s:=⟨I.ok.wish E,I.os,I.bare,I.base,I.loc,I.cell,I.free,I.freeC,I.pin,I.hok,I.len⟩
theorem Inv.unwish (I:Inv (X.wish E) pins σ H s):Inv X pins σ H s:=⟨I.ok.unwish,I.os,I.bare,I.base,I.loc,I.cell,I.free,I.freeC,I.pin,I.hok,I.len⟩
theorem SP.unwish {D:Ends}{f:Flow}{s':Shared}(h:SP (X.wish E) pins D f s'):SP X pins D f s':=by
 cases f with
 |next=>obtain⟨σ',H',I,q⟩:=h;exact⟨σ',H',I.unwish,q⟩
 |brk=>obtain⟨σ',H',I,q⟩:=h;exact⟨σ',H',I.unwish,q⟩
 |cont=>obtain⟨σ',H',I,q⟩:=h;exact⟨σ',H',I.unwish,q⟩
 |ret u=>obtain⟨v,σ',H',I,r,q⟩:=h;exact⟨v,σ',H',I.unwish,r,q⟩
theorem PSs.nox {st:List Stmt}{t:TS}(h:PSs X.nox st t):PSs X st t:=λpins s σ H D I hw =>
 wpAny_mono (h pins s σ H D (I.wish _) hw) (λ_ _ q=>q.unwish) λ_ _ z=>False.elim z
end
section
variable {X:Cx}{st:Stmt}{rest:List Stmt}{t u:TS}{e:Expr}{te:TE}{pos:Pos}
def CQ:TS:=λD σ H=>D.nx σ H
def CO (t u:TS):TS:=λD σ H=>t { D with nx:=u D } σ H
theorem pss_nil:PSs X [] CQ:=λ_ _ σ H _ I h=>wpAny_execs_nil ⟨σ,H,I,h⟩
theorem xT (h1:PS X st t)(h2:PSs X rest u):PSs X (st::rest) (CO t u):=by
 intro pins s σ H D I h
 refine wpAny_execs_cons (thn (h1 pins s σ H { D with nx:=u D } I h) λf s1 q=>?_)
 cases f with
 |next =>
  obtain⟨σ',H',I',q⟩:=q
  exact h2 pins s1 σ' H' D I' q
 |ret v=>exact q
 |brk=>exact q
 |cont=>exact q
theorem zR (h1:PS X st t):PSs X [st] t:=by
 intro pins s σ H D I h
 refine wpAny_execs_cons (thn (h1 pins s σ H D I h) λf s1 q=>?_)
 cases f with
 |next=>exact wpAny_execs_nil q
 |ret v=>exact q
 |brk=>exact q
 |cont=>exact q
theorem Inv.quiet {pins:List (Addr×Obj)}{σ:St}{H:Hp}{s:Shared}(I:Inv X pins σ H s):interactive X.env=false:=by simp[interactive,I.ok.kind]
def CU (te:TE):TS:=λD σ H=>te σ H λ_ H1=>D.nx σ H1
theorem zT (he:PE X e te)(hs:swapsWith e none pos.line X.env=pure false:=by rfl):PS X (.Expr e pos) (CU te):=by
 intro pins s σ H D I h
 exact wpAny_Expr_any (thn (he pins s σ H _ I h) λv s1 ⟨x,H1,I1,r1,q1⟩=>⟨σ,H1,I1,q1⟩) I.quiet hs
def DZ (te:TE):TS:=λD σ H=>te σ H D.rt
theorem BO (he:PE X e te):PS X (.Return (some e) pos) (DZ te):=by
 intro pins s σ H D I h
 exact wpAny_Return_some (thn (he pins s σ H _ I h) λv s1 ⟨x,H1,I1,r1,q1⟩=>⟨x,σ,H1,I1,r1,q1⟩)
def D3 (c:TT)(t u:TS):TS:=λD σ H=>c σ H λb H1=>if b=true then t D σ H1 else u D σ H1
theorem C_ {c:Expr}{a b:List Stmt}{tc:TT}(hc:PT X c tc)(ha:PSs X a t)(hb:PSs X b u):PS X (.If c a b pos) (D3 tc t u):=by
 intro pins s σ H D I h
 refine wpAny_If (thn (hc pins s σ H _ I h) λd s1 ⟨H1,I1,q1⟩=>?_)
 cases d with
 |true=>exact ha pins s1 σ H1 D I1 q1
 |false=>exact hb pins s1 σ H1 D I1 q1
end
abbrev TG:=V->St->Hp->(St->Hp->Prop)->Prop
abbrev TGs:=List V->St->Hp->(St->Hp->Prop)->Prop
def PG (X:Cx)(target:Expr)(t:TG):Prop:=
 ∀ (pins:List (Addr×Obj)) (s:Shared) (σ:St) (H:Hp) (v:V) (u:Value) (Q:St->Hp->Prop),Inv X pins σ H s->RelV v u->t v σ H Q ->
  wpAny (model X.prog X.w) X.A (assign target X.env u) (λ_ s' => ∃ σ' H',Inv X pins σ' H' s'/\Q σ' H') X.xe s
def PGs (X:Cx)(ts:List Expr)(t:TGs):Prop:=
 ∀ (pins:List (Addr×Obj)) (s:Shared) (σ:St) (H:Hp) (vs:List V) (us:List Value) (Q:St->Hp->Prop),Inv X pins σ H s->Vals vs us->t vs σ H Q ->
  wpAny (model X.prog X.w) X.A (assignInOrder ((assignEach ts X.env).map (·.2)) us) (λ_ s' => ∃ σ' H',Inv X pins σ' H' s'/\Q σ' H') X.xe s
section
variable {X:Cx}{pos:Pos}
def A9 (i:Nat):TG:=λv σ H Q=>Q (σ.set i (some v)) H
theorem zZ {i:Nat}{x:Str}(hN:X.N.Nodup)(hi:X.N[i]?=some x)(hx:Loc X.env.scope x)(hf:X.fn x=true∨X.env.scope.names.lookup x=some .local:=by first |exact .inl rfl |exact .inr rfl |assumption):PG X (.Name x pos) (A9 i):=by
 intro pins s σ H v u Q I r h
 exact wpAny_assign_Name (rE I hN hi hx r (λs' I'=>⟨_,H,I',h⟩) hf)
def Ei:TGs:=λvs σ H Q=>vs=[]/\Q σ H
def Dv (t:TG)(u:TGs):TGs:=λvs σ H Q => ∃ v r,vs=v::r/\t v σ H λσ' H'=>u r σ' H' Q
theorem pgs_nil:PGs X [] Ei:=by
 intro pins s σ H vs us Q I r h
 obtain⟨e,h⟩:=h
 subst e
 cases r
 exact assignInOrder_nil ⟨σ,H,I,h⟩
theorem xW {e:Expr}{es:List Expr}{t:TG}{u:TGs}(h1:PG X e t)(h2:PGs X es u)
  (hs:(assignEach (e::es) X.env).map (·.2)=assign e X.env::(assignEach es X.env).map (·.2):=by rfl):PGs X (e::es) (Dv t u):=by
 intro pins s σ H vs us Q I r h
 obtain⟨v,vr,e1,h⟩:=h
 subst e1
 cases r with
 |cons r rr =>
  rw[hs]
  refine assignInOrder_cons (thn (h1 pins s σ H _ _ _ I r h) λ_ s1 ⟨σ1,H1,I1,q1⟩=>?_)
  exact h2 pins s1 σ1 H1 _ _ Q I1 rr q1
def Eh (K:PySem.W.Frag)(n:Nat)(t:TGs):TG:=λv σ H Q => ∃ a xs,v = .ref a/\SqT K H a xs/\xs.length=n/\t xs σ H Q
theorem BT {es:List Expr}{k:Nat}{t:TGs}{n:Nat}(hc:X.calm=true)(h:PGs X es t)
  (hn:(assignEach es X.env).length=n:=by rfl) (hst:(assignEach es X.env).findIdx? (·.1)=none:=by rfl):PG X (.Tuple es k pos) (Eh X.K n t):=by
 intro pins s σ H v u Q I r hw
 obtain⟨a,xs,e1,hq,hl,hw⟩:=hw
 subst e1
 cases r
 obtain⟨its,rv,ht,hz⟩:=I.tuple hq
 refine assign_Tuple_tuple (I.ok.hd hc) ht (by simp[hn,← hl,rv.length]) hst λh' hx=>?_
 have I1:Inv X pins σ H { s with heap:=h' }:=I.kept (t':=s.toks) λb o e=>hx b o (Nat.ne_of_lt (Heap.lt_size e)) e
 exact h pins _ σ H xs _ Q I1 (by simpa using rv) hw
def CY (te:TE)(g:TG):TS:=λD σ H=>te σ H λx H1=>g x σ H1 D.nx
theorem BR {tg e:Expr}{te:TE}{g:TG}(he:PE X e te)(hg:PG X tg g)(hs:swapsWithSole [tg] e pos.line X.env=pure false:=by rfl)(hw:swappedStores [tg] e X.env=pure none:=by rfl)
  (h1:(assignEach [tg] X.env).map (·.2)=[assign tg X.env]:=by rfl):PS X (.Assign [tg] e pos) (CY te g):=by
 intro pins s σ H D I h
 refine wpAny_Assign_stores (thn (he pins s σ H _ I h) λv s1 ⟨x,H1,I1,r1,q1⟩=>?_) hs hw
 rw[h1]
 exact thn (hg pins s1 σ H1 x v _ I1 r1 q1) λ_ s2 q=>q
theorem BN {i:Nat}{x:Str}{e:Expr}{te:TE}{pos':Pos}(hN:X.N.Nodup)(hi:X.N[i]?=some x)(hx:Loc X.env.scope x)(he:PE X e te)(hs:swapsWith e (some (.Name x pos')) pos.line X.env=pure false:=by rfl)(hf:X.fn x=true∨X.env.scope.names.lookup x=some .local:=by first |exact .inl rfl |exact .inr rfl |assumption) :
  PS X (.Assign [.Name x pos'] e pos) (CY te (A9 i)):=by
 intro pins s σ H D I h
 refine wpAny_Assign_Name (thn (he pins s σ H _ I h) λv s1 ⟨y,H1,I1,r1,q1⟩=>?_) hs
 exact rE I1 hN hi hx r1 (λs2 I2=>⟨_,H1,I2,q1⟩) hf
end
structure It where
 go:Nat->Hp->Prop
 yld:Nat->Hp->V->Hp->Prop
 stop:Nat->Hp->Prop
def iV (X:Cx)(pins:List (Addr×Obj))(H:Hp)(b:Addr):Prop:=
 H b=none/\b≠X.env.locals/\b∉X.fs/\(b∈X.ex∨X.s₀.heap.objs.size<=b)/\(∀ x c,X.env.cells.lookup x=some c->c≠b)/\∀ p∈X.pn++pins,p.1≠b
theorem Inv.fpOk {X:Cx}{pins:List (Addr×Obj)}{σ:St}{H H':Hp}{s:Shared}{b:Addr}(I:Inv X pins σ H s)(hb:s.heap.objs.size<=b)(hn:H' b=none):iV X pins H' b:=by
 refine⟨hn,Nat.ne_of_gt (Nat.lt_of_lt_of_le I.lt hb),I.nofs hb,.inr (Nat.le_trans I.sz hb),λx c e z=>?_,λp hp z=>?_⟩
 ·obtain⟨v,q⟩:=I.cell x c e
  exact absurd (Nat.lt_of_lt_of_le q.lt (by rw[z];exact hb)) (Nat.lt_irrefl _)
 ·exact absurd (Nat.lt_of_lt_of_le (Heap.lt_size (I.pin p hp).1) (by rw[z];exact hb)) (Nat.lt_irrefl _)
structure Turn (P:Program) (w:World) (K:PySem.W.Frag) (tg:Expr) (J:It) (fp:List Addr) (it:Addr) (tn:Nat->Heap->Prop):Prop where
 mem:it∈fp
 obj:∀ i h,tn i h->∀ b∈fp,∃ o,h.get? b=some o/\∀ v,o.data≠.cell v
 keep:∀ i h h',tn i h->(∀ b∈fp,∀ o,h.get? b=some o->h'.get? b=some o)->tn i h'
 item:∀ (X:Cx),X.prog=P->X.w=w->X.K=K->X.calm=true->∀ (i:Nat) (pins:List (Addr×Obj)) (s:Shared) (σ:St) (H:Hp) (E:Value->Shared->Prop),Inv X pins σ H s->(∀ b∈fp,iV X pins H b)->tn i s.heap->J.go i H ->
  wpAny (model P w) X.A (pyNext (.ref it)) (λr s1 => ∃ u,r=some u /\
   wpAny (model P w) X.A (letOwnedTupleGo tg (.ref it) u) (λ_ s2 => ∃ x H',Inv X pins σ H' s2/\RelV x u/\J.yld i H x H'/\tn (i+1) s2.heap/\∀ b∈fp,H' b=none) E s1) E s
 done:∀ (X:Cx),X.prog=P->X.w=w->X.K=K->X.calm=true->∀ (i:Nat) (pins:List (Addr×Obj)) (s:Shared) (σ:St) (H:Hp) (E:Value->Shared->Prop),Inv X pins σ H s->(∀ b∈fp,iV X pins H b)->tn i s.heap->J.stop i H ->
  wpAny (model P w) X.A (pyNext (.ref it)) (λr s1=>r=none/\Inv X pins σ H s1) E s
 self:∀ (A:Around) (i:Nat) (s:Shared) (Q:Value->Shared->Prop) (E:Value->Shared->Prop),tn i s.heap->Q (.ref it) s->wpAny (model P w) A (pyIter (.ref it)) Q E s
abbrev TI:=St->Hp->(It->Hp->Prop)->Prop
def PIE (X:Cx)(pins:List (Addr×Obj))(σ:St)(tg:Expr)(R:It->Hp->Prop)(itv:Value)(s2:Shared):Prop:=
 ∃ (it:Addr) (fp:List Addr) (tn:Nat->Heap->Prop) (J:It) (H':Hp),itv = .ref it/\Inv X pins σ H' s2/\Turn X.prog X.w X.K tg J fp it tn/\tn 0 s2.heap/\(∀ b∈fp,iV X pins H' b)/\R J H'
def PI (X:Cx)(tg iter:Expr)(wi:TI):Prop:=
 ∀ (pins:List (Addr×Obj)) (s:Shared) (σ:St) (H:Hp) (R:It->Hp->Prop),Inv X pins σ H s->wi σ H R ->
  wpAny (model X.prog X.w) X.A (eval iter X.env) (λv s1=>wpAny (model X.prog X.w) X.A (pyIter v) (PIE X pins σ tg R) X.xe s1) X.xe s
theorem vA {M:Model}{A:Around}{E:Value->Shared->Prop}{s:Shared}{tg:Expr}{it:Addr}{u:Value}{o:Obj}{n:String}{vs:Array Value}{Q:Unit->Shared->Prop}(ho:s.heap.get? it=some o)(hc:o.cls = .type n)(hd:o.data = .fields vs)
  (hn:["enumerate","zip","dict_itemiterator","dict_reverseitemiterator","odict_iterator","itertools.zip_longest","itertools.pairwise"].contains n=false) (hQ:Q () s):wpAny M A (letOwnedTupleGo tg (.ref it) u) Q E s:=by
 unfold letOwnedTupleGo
 cases tg<;>first
  |exact wpAny_pure hQ
  |(cases u<;>first
    |exact wpAny_pure hQ
    |(refine wpAny_bind (wpAny_load ho ?_)
      rw[hc,hd]
      show wpAny M A (if (["enumerate","zip","dict_itemiterator","dict_reverseitemiterator","odict_iterator","itertools.zip_longest","itertools.pairwise"].contains n&&vs[0]?==some (rawInt _))=true then _ else _) Q E s
      rw[if_neg (by intro h;rw[hn,Bool.false_and] at h;cases h)]
      exact wpAny_pure hQ))
def Itl (K:PySem.W.Frag)(a:Addr):It:=
 ⟨λi H => ∃ xs x,SqL K H a xs/\xs[i]?=some x,λi H x H'=>H'=H/\∀ xs,SqL K H a xs->xs[i]?=some x,λi H => ∃ xs,SqL K H a xs/\xs.length<=i⟩
def Itt (K:PySem.W.Frag)(a:Addr):It:=
 ⟨λi H => ∃ xs x,SqT K H a xs/\xs[i]?=some x,λi H x H'=>H'=H/\∀ xs,SqT K H a xs->xs[i]?=some x,λi H => ∃ xs,SqT K H a xs/\xs.length<=i⟩
def Itr (lo:Int)(n:Nat):It:=⟨λi _=>i<n,λi H x H'=>H'=H/\x = .int (lo+i),λi _=>n<=i⟩
theorem we {P:Program}{w:World}{K:PySem.W.Frag}{tg:Expr}(a it:Addr):Turn P w K tg (Itl K a) [it] it (λi h=>h.IsListIter it a i) where
 mem:=by simp
 obj:=λi h st b hb=>by
  have e:b=it:=by simpa using hb
  subst e
  obtain⟨o,e,c,d⟩:=st
  exact⟨o,e,λv z=>by rw[d] at z;cases z⟩
 keep:=λi h h' st k=>st.at λo e=>k it (by simp) o e
 item:=by
  intro X hP hw hK hc i pins s σ H E I hf st hg
  subst hP hw hK
  obtain⟨xs,x,hq,hx⟩:=hg
  obtain⟨its,rv,p,hz⟩:=I.list hq
  obtain⟨u,hu,ru⟩:=rv.get hx
  obtain⟨f0,f1,f2,f3,f4,f5⟩:=hf it (by simp)
  refine wpAny_pyNext_list_item st p.isList (x:=u) (by simpa using hu) λh' st' sb=>?_
  have I1:Inv X pins σ H { s with heap:=h' }:=I.turned (t':=s.toks) (λb o hb e=>(sb.2 b hb).trans e) f0 f1 f3 f4 f5
  obtain⟨o,e,c,d⟩:=id st'
  exact⟨u,rfl,vA (s:={ s with heap:=h' }) e c d (by decide) ⟨x,H,I1,ru,⟨rfl,λys hy=>by rw[I.list_inj hy hq];exact hx⟩,st',λb hb=>(hf b hb).1⟩⟩
 done:=by
  intro X hP hw hK hc i pins s σ H E I hf st hg
  subst hP hw hK
  obtain⟨xs,hq,hx⟩:=hg
  obtain⟨its,rv,p,hz⟩:=I.list hq
  obtain⟨f0,f1,f2,f3,f4,f5⟩:=hf it (by simp)
  have hl:=rv.length
  exact wpAny_pyNext_list_end (I.ok.hd hc) st p.isList (by simp;omega) λh' eb=>⟨rfl,I.turned (t':=s.toks) (λb o hb e=>eb b o hb e) f0 f1 f3 f4 f5⟩
 self:=λ_ _ _ _ _ st h=>wpAny_pyIter_listiter st h
theorem tR {P:Program}{w:World}{K:PySem.W.Frag}{tg:Expr}(a it:Addr):Turn P w K tg (Itt K a) [it] it (λi h=>h.IsTupleIter it a i) where
 mem:=by simp
 obj:=λi h st b hb=>by
  have e:b=it:=by simpa using hb
  subst e
  obtain⟨o,e,c,d⟩:=st
  exact⟨o,e,λv z=>by rw[d] at z;cases z⟩
 keep:=λi h h' st k=>st.at λo e=>k it (by simp) o e
 item:=by
  intro X hP hw hK hc i pins s σ H E I hf st hg
  subst hP hw hK
  obtain⟨xs,x,hq,hx⟩:=hg
  obtain⟨its,rv,p,hz⟩:=I.tuple hq
  obtain⟨u,hu,ru⟩:=rv.get hx
  obtain⟨f0,f1,f2,f3,f4,f5⟩:=hf it (by simp)
  refine wpAny_pyNext_tuple_item st (show s.heap.IsTuple a its.toArray from p) (x:=u) (by simpa using hu) λh' st' sb=>?_
  have I1:Inv X pins σ H { s with heap:=h' }:=I.turned (t':=s.toks) (λb o hb e=>(sb.2 b hb).trans e) f0 f1 f3 f4 f5
  obtain⟨o,e,c,d⟩:=id st'
  exact⟨u,rfl,vA (s:={ s with heap:=h' }) e c d (by decide) ⟨x,H,I1,ru,⟨rfl,λys hy=>by rw[I.tuple_inj hy hq];exact hx⟩,st',λb hb=>(hf b hb).1⟩⟩
 done:=by
  intro X hP hw hK hc i pins s σ H E I hf st hg
  subst hP hw hK
  obtain⟨xs,hq,hx⟩:=hg
  obtain⟨its,rv,p,hz⟩:=I.tuple hq
  obtain⟨f0,f1,f2,f3,f4,f5⟩:=hf it (by simp)
  have hl:=rv.length
  exact wpAny_pyNext_tuple_end (I.ok.hd hc) st (show s.heap.IsTuple a its.toArray from p) (by simp;omega) λh' eb=>⟨rfl,I.turned (t':=s.toks) (λb o hb e=>eb b o hb e) f0 f1 f3 f4 f5⟩
 self:=λ_ _ _ _ _ st h=>wpAny_pyIter_tupleiter st h
theorem tU {P:Program}{w:World}{K:PySem.W.Frag}{tg:Expr}(it:Addr)(lo:Int)(n:Nat):Turn P w K tg (Itr lo n) [it] it (λi h=>IsRangeIter h it (lo+(i:Nat)*1) ((n:Int)-(i:Nat)) 1) where
 mem:=by simp
 obj:=λi h st b hb=>by
  have e:b=it:=by simpa using hb
  subst e
  exact⟨_,st,λv z=>by
   have z':Data.fields _=Data.cell v:=z
   cases z'⟩
 keep:=λi h h' st k=>k it (by simp) _ st
 item:=by
  intro X hP hw hK hc i pins s σ H E I hf st hg
  subst hP hw hK
  obtain⟨f0,f1,f2,f3,f4,f5⟩:=hf it (by simp)
  have W:=Walks.range (prog:=X.prog) (w:=X.w) (I.ok.hd hc) it lo 1 n
  refine W.item i s _ _ hg st λv h' tk hv st' kk=>?_
  obtain⟨t,rfl⟩:=hv
  have I1:Inv X pins σ H { s with heap:=h',toks:=tk }:=I.turned (λb o hb e=>kk b o (by simpa using hb) e) f0 f1 f3 f4 f5
  refine⟨_,rfl,vA (s:={ s with heap:=h',toks:=tk }) (n:="range_iterator") st' rfl rfl (by decide) ⟨.int (lo+i),H,I1,⟨t,?_⟩,⟨rfl,rfl⟩,st',λb hb=>(hf b hb).1⟩⟩
  rw[Int.mul_one]
 done:=by
  intro X hP hw hK hc i pins s σ H E I hf st hg
  subst hP hw hK
  obtain⟨f0,f1,f2,f3,f4,f5⟩:=hf it (by simp)
  exact wpAny_pyNext_range_end (I.ok.hd hc) st (by have:n<=i:=hg;omega) λh' eb=>⟨rfl,I.turned (t':=s.toks) (λb o hb e=>eb b o hb e) f0 f1 f3 f4 f5⟩
 self:=λ_ _ _ _ _ st h=>wpAny_pyIter_rangeiter st h
section
variable {X:Cx}{tg:Expr}
def Du (K:PySem.W.Frag)(tl:TE):TI:=λσ H R=>tl σ H λx H1 => ∃ a,x = .ref a/\(∃ xs,SqL K H1 a xs)/\R (Itl K a) H1
def Eg (K:PySem.W.Frag)(tl:TE):TI:=λσ H R=>tl σ H λx H1 => ∃ a,x = .ref a/\(∃ xs,SqT K H1 a xs)/\R (Itt K a) H1
theorem zY {l:Expr}{tl:TE}(hl:PE X l tl):PI X tg l (Du X.K tl):=by
 intro pins s σ H R I h
 refine thn (hl pins s σ H _ I h) λv s1 ⟨x,H1,I1,r1,q1⟩=>?_
 obtain⟨a,e,⟨xs,hq⟩,q⟩:=q1
 subst e
 cases r1
 obtain⟨its,rv,p,hz⟩:=I1.list hq
 refine wpAny_pyIter_list p.isList ?_
 refine⟨s1.heap.objs.size,[s1.heap.objs.size],_,_,H1,rfl,I1.kept (t':=s1.toks) λb o e=>Heap.get?_push_of_some _ e,we a _,⟨_,Heap.get?_push_size _ rfl,rfl,rfl⟩,λb hb=>?_,q⟩
 have e:b=s1.heap.objs.size:=by simpa using hb
 subst e
 exact I1.fpOk (Nat.le_refl _) (I1.hok.fresh (Nat.le_refl _))
theorem BS {l:Expr}{tl:TE}(hl:PE X l tl):PI X tg l (Eg X.K tl):=by
 intro pins s σ H R I h
 refine thn (hl pins s σ H _ I h) λv s1 ⟨x,H1,I1,r1,q1⟩=>?_
 obtain⟨a,e,⟨xs,hq⟩,q⟩:=q1
 subst e
 cases r1
 obtain⟨its,rv,p,hz⟩:=I1.tuple hq
 refine wpAny_pyIter_tuple (show s1.heap.IsTuple a its.toArray from p) ?_
 refine⟨s1.heap.objs.size,[s1.heap.objs.size],_,_,H1,rfl,I1.kept (t':=s1.toks) λb o e=>Heap.get?_push_of_some _ e,tR a _,⟨_,Heap.get?_push_size _ rfl,rfl,rfl⟩,λb hb=>?_,q⟩
 have e:b=s1.heap.objs.size:=by simpa using hb
 subst e
 exact I1.fpOk (Nat.le_refl _) (I1.hok.fresh (Nat.le_refl _))
theorem xQ {pins:List (Addr×Obj)}{σ:St}{H:Hp}{s:Shared}{R:It->Hp->Prop}{E:Value->Shared->Prop}{lo hi:Int}{t u v:Tok}{tk:Nat}(I:Inv X pins σ H s)(h1 : -(2 ^ 62)<=lo)(h2:lo<2 ^ 62)(h3 : -(2 ^ 62)<=hi)(h4:hi<2 ^ 62)
  (q:R (Itr lo (hi-lo).toNat) H):wpAny (model X.prog X.w) X.A (pyIter (.ref s.heap.objs.size)) (PIE X pins σ tg R) E { s with heap:=s.heap.push { cls:=.type "range",data:=.fields #[.int lo t,.int hi u,.int 1 v] },toks:=tk }:=by
 refine wpAny_pyIter_range (IsRange.new ..) (small_one h1 h2 h3 h4) ?_
 have I1:Inv X pins σ H { s with heap:=s.heap.push { cls:=.type "range",data:=.fields #[.int lo t,.int hi u,.int 1 v] },toks:=tk }:=I.kept λb o e=>Heap.get?_push_of_some _ e
 refine⟨(s.heap.push { cls:=.type "range",data:=.fields #[.int lo t,.int hi u,.int 1 v] }).objs.size,[(s.heap.push { cls:=.type "range",data:=.fields #[.int lo t,.int hi u,.int 1 v] }).objs.size],_,_,H,rfl,
  I1.kept (t':=tk) λb o e=>Heap.get?_push_of_some _ e,tU _ lo (hi-lo).toNat,?_,λb hb=>?_,q⟩
 ·have e1:lo+((0:Nat):Int)*1=lo:=by simp
  have e2:(((hi-lo).toNat:Nat):Int)-((0:Nat):Int)=Builtin.Range.rangeSize lo hi 1:=by rw[rangeSize_one];split<;>omega
  show IsRangeIter _ _ (lo+((0:Nat):Int)*1) ((((hi-lo).toNat:Nat):Int)-((0:Nat):Int)) 1
  rw[e1,e2]
  exact Heap.get?_push_size _ rfl
 ·have e:b=(s.heap.push { cls:=.type "range",data:=.fields #[.int lo t,.int hi u,.int 1 v] }).objs.size:=by simpa using hb
  subst e
  exact I1.fpOk (Nat.le_refl _) (I1.hok.fresh (Nat.le_refl _))
def Dt (ta:TA):TI:=λσ H R=>ta σ H λvs H1 => ∃ j:Int,vs=[.int j]/\-(2 ^ 62)<=j/\j<2 ^ 62/\R (Itr 0 j.toNat) H1
theorem wD {a:Expr}{ta:TA}{p pos:Pos}(hg:Gl X "range")(hm:X.mg "range"=none)(ha:PA X [a] ta)(hs:starEach [a] X.env=[(false,eval a X.env)]:=by rfl):PI X tg (.Call (.Name "range" p) [a] [] pos) (Dt ta):=by
 intro pins s σ H R I h
 refine Call_ (lg I hg hm boot_range (PyProof.Rows.callWith_type1 (thn (ha pos pins s σ H _ I h) λus s1 ⟨vs,H1,I1,r1,q1⟩=>?_) hs rfl))
 obtain⟨j,e,q1,q2,q⟩:=q1
 subst e
 cases r1 with
 |cons r rr =>
  cases rr
  obtain⟨t,rfl⟩:=r
  exact call_range_1 (xQ I1 (by omega) (by omega) q1 q2 (by simpa using q))
def D4 (wi:TI)(g:TG)(tb:TS):TS:=λD σ H=>wi σ H λJ H1 => ∃ W:Nat->Nat->St->Hp->Prop,(∃ m,W 0 m σ H1)/\∀ i m σ H,W i m σ H ->
 (J.stop i H/\D.nx σ H)∨(J.go i H/\∃ N:St->Hp->Prop,(∀ σ' H',N σ' H'->∃ m',m'<m/\W (i+1) m' σ' H')/\∀ x H',J.yld i H x H'->g x σ H' λσ2 H2=>tb { D with nx:=N,ct:=N,bk:=D.nx } σ2 H2)
def k_ (fp:List Addr)(h:Heap):List (Addr×Obj):=fp.filterMap λb=>(h.get? b).map λo=>(b,o)
theorem g7 {fp:List Addr}{h:Heap}{b:Addr}{o:Obj}(hb:b∈fp)(e:h.get? b=some o):(b,o)∈k_ fp h:=List.mem_filterMap.mpr ⟨b,hb,by rw[e];rfl⟩
theorem wJ {fp:List Addr}{h:Heap}{p:Addr×Obj}(hp:p∈k_ fp h):p.1∈fp/\h.get? p.1=some p.2:=by
 obtain⟨b,hb,e⟩:=List.mem_filterMap.mp hp
 cases q:h.get? b with
 |none=>rw[q] at e;cases e
 |some o =>
  rw[q] at e
  have e':(b,o)=p:=Option.some.inj e
  subst e'
  exact⟨hb,q⟩
theorem Inv.pinned {pins:List (Addr×Obj)}{σ:St}{H:Hp}{s:Shared}{fp:List Addr}(I:Inv X pins σ H s)(hf:∀ b∈fp,iV X pins H b)(ho:∀ b∈fp,∃ o,s.heap.get? b=some o/\∀ v,o.data≠.cell v):Inv X (pins++k_ fp s.heap) σ H s:=
 I.pins_of λp hp=>(List.mem_append.mp hp).elim (λz=>I.pin p (List.mem_append_right _ z)) λz=>by
  obtain⟨hb,e⟩:=wJ z
  obtain⟨f0,f1,f2,_⟩:=hf p.1 hb
  obtain⟨o,e',d⟩:=ho p.1 hb
  rw[e] at e';cases e'
  exact⟨e,f0,f1,f2,d⟩
theorem Inv.unpinned {pins pl:List (Addr×Obj)}{σ:St}{H:Hp}{s:Shared}(I:Inv X (pins++pl) σ H s):Inv X pins σ H s:=I.pins_of λp hp=>I.pin p (List.mem_append_right _ (List.mem_append_left _ hp))
theorem BP {iter:Expr}{body:List Stmt}{wi:TI}{g:TG}{tb:TS}{pos:Pos}(hp:PassesOwn (model X.prog X.w) X.A X.env X.xe)(hc:X.calm=true)(hi:PI X tg iter wi)(hg:PG X tg g)(hb:PSs X body tb)
  (hs:∀ x,foldedSetIterable iter X.env x=pure x:=by intro _;rfl):PS X (.For tg iter body [] pos) (D4 wi g tb):=by
 intro pins s σ H D I h
 refine wpAny_For (thn (hi pins s σ H _ I h) λv s1 h1=>thn h1 λitv s2 h2=>?_) hs
 obtain⟨it,fp,tn,J,H2,e,I2,T,st2,f2,W,⟨m0,w0⟩,turn⟩:=h2
 subst e
 have stat:∀ {H':Hp},(∀ b∈fp,H' b=none)->∀ b∈fp,iV X pins H' b:=λhn b hb=>⟨hn b hb,(f2 b hb).2⟩
 refine codeAny_forLoop_any (λn s' => ∃ i σ' H',Inv X pins σ' H' s'/\tn i s'.heap/\(∀ b∈fp,H' b=none)/\W i n σ' H') ?_ m0 ⟨0,σ,H2,I2,st2,λb hb=>(f2 b hb).1,w0⟩
 rintro n s3 ⟨i,σ3,H3,I3,st3,fr3,w3⟩
 rcases turn i n σ3 H3 w3 with ⟨stop,qn⟩ |⟨go,N,hN,step⟩
 ·refine wpAny_passesOwn hp (thn (T.done X rfl rfl rfl hc i pins s3 σ3 H3 X.xe I3 (stat fr3) st3 stop) λr s4 ⟨hr,I4⟩=>?_)
  subst hr
  exact wpAny_execs_nil ⟨σ3,H3,I4,qn⟩
 ·refine wpAny_passesOwn hp (thn (T.item X rfl rfl rfl hc i pins s3 σ3 H3 X.xe I3 (stat fr3) st3 go) λr s4 ⟨u,hr,h4⟩=>?_)
  subst hr
  refine wpAny_passesOwn hp (thn h4 λ_ s5 ⟨x,H5,I5,r5,y5,st5,fr5⟩=>?_)
  have I5':=I5.pinned (stat fr5) (T.obj _ _ st5)
  refine wpAny_passesOwn hp (thn (hg _ s5 σ3 H5 x u _ I5' r5 (step x H5 y5)) λ_ s6 ⟨σ6,H6,I6,q6⟩=>?_)
  refine wpAny_passesOwn hp (thn (hb _ s6 σ6 H6 _ I6 q6) λf s7 q7=>?_)
  have again:∀ {σ7:St}{H7:Hp},Inv X (pins++k_ fp s5.heap) σ7 H7 s7->N σ7 H7->∃ m,m<n/\∃ i σ' H',Inv X pins σ' H' s7/\tn i s7.heap/\(∀ b∈fp,H' b=none)/\W i m σ' H':=λ{σ7 H7} I7 n7=>by
   obtain⟨m',hm,w7⟩:=hN σ7 H7 n7
   refine⟨m',hm,i+1,σ7,H7,I7.unpinned,T.keep _ _ _ st5 λb hb o e=>(I7.pin (b,o) (List.mem_append_right _ (List.mem_append_right _ (g7 hb e)))).1,λb hb=>?_,w7⟩
   obtain⟨o,e,d⟩:=T.obj _ _ st5 b hb
   exact (I7.pin (b,o) (List.mem_append_right _ (List.mem_append_right _ (g7 hb e)))).2.1
  cases f with
  |next=>obtain⟨σ7,H7,I7,n7⟩:=q7;exact again I7 n7
  |cont=>obtain⟨σ7,H7,I7,n7⟩:=q7;exact again I7 n7
  |brk=>obtain⟨σ7,H7,I7,q7⟩:=q7;exact⟨σ7,H7,I7.unpinned,q7⟩
  |ret v=>obtain⟨x7,σ7,H7,I7,r7,q7⟩:=q7;exact⟨x7,σ7,H7,I7.unpinned,r7,q7⟩
end
abbrev R2:=V->V->Hp->VK->Prop
def OpR (X:Cx)(f:Value->Value->Sem Value)(r:R2):Prop:=
 ∀ (pins:List (Addr×Obj)) (s:Shared) (σ:St) (H:Hp) (x y:V) (v u:Value) (Q:VK),Inv X pins σ H s->RelV x v->RelV y u->r x y H Q ->
  wpAny (model X.prog X.w) X.A (f v u) (EP X pins σ Q) X.xe s
def UnR (X:Cx)(f:Value->Sem Value)(r:V->Hp->VK->Prop):Prop:=
 ∀ (pins:List (Addr×Obj)) (s:Shared) (σ:St) (H:Hp) (x:V) (v:Value) (Q:VK),Inv X pins σ H s->RelV x v->r x H Q ->
  wpAny (model X.prog X.w) X.A (f v) (EP X pins σ Q) X.xe s
def CallR (X:Cx)(f:Value)(r:List V->Hp->VK->Prop):Prop:=
 ∀ (pins:List (Addr×Obj)) (s:Shared) (σ:St) (H:Hp) (xs:List V) (us:List Value) (Q:VK),Inv X pins σ H s->Vals xs us->r xs H Q ->
  wpAny (model X.prog X.w) X.A (call f us) (EP X pins σ Q) X.xe s
def tOp (r:R2)(ta tb:TE):TE:=λσ H Q=>ta σ H λx H1=>tb σ H1 λy H2=>r x y H2 Q
def tUn (r:V->Hp->VK->Prop)(ta:TE):TE:=λσ H Q=>ta σ H λx H1=>r x H1 Q
def rI (C:Int->Int->Prop)(g:Int->Int->V):R2:=λx y H Q => ∃ i j,x = .int i/\y = .int j/\C i j/\Q (g i j) H
def rI0 (g:Int->Int->V):R2:=λx y H Q => ∃ i j,x = .int i/\y = .int j/\Q (g i j) H
def rU (g:Int->V):V->Hp->VK->Prop:=λx H Q => ∃ i,x = .int i/\Q (g i) H
section
variable {X:Cx}{a b c:Expr}{ta tb tc:TE}{pos:Pos}
theorem CC (ha:PE X a ta)(hb:PE X b tb){pins:List (Addr×Obj)}{s:Shared}{σ:St}{H:Hp}{R:V->V->Hp->Prop}(I:Inv X pins σ H s)
  (h:ta σ H λx H1=>tb σ H1 λy H2=>R x y H2) {Q:Value->Shared->Prop}{f:Value->Value->Sem Value}
  (hf:∀ v u s2 x y H2,Inv X pins σ H2 s2->RelV x v->RelV y u->R x y H2->wpAny (model X.prog X.w) X.A (f v u) Q X.xe s2) :
  wpAny (model X.prog X.w) X.A (eval a X.env) (λv s₁=>wpAny (model X.prog X.w) X.A (eval b X.env) (λu s₂=>wpAny (model X.prog X.w) X.A (f v u) Q X.xe s₂) X.xe s₁) X.xe s:=by
 refine thn (ha pins s σ H _ I h) λv s1 ⟨x,H1,I1,r1,q1⟩=>?_
 refine thn (hb pins s1 σ H1 _ I1 q1) λu s2 ⟨y,H2,I2,r2,q2⟩=>?_
 exact hf v u s2 x y H2 I2 r1 r2 q2
theorem Df {op:Operator}{r:R2}(ho:OpR X (binaryOp op) r)(ha:PE X a ta)(hb:PE X b tb):PE X (.BinOp a op b pos) (tOp r ta tb):=by
 intro pins s σ H Q I h
 exact wpAny_BinOp (CC ha hb I h λv u s2 x y H2 I2 rx ry q=>ho pins s2 σ H2 x y v u Q I2 rx ry q)
theorem De {op:UnaryOp}{r:V->Hp->VK->Prop}(ho:UnR X (unaryOp op) r)(ha:PE X a ta):PE X (.UnaryOp op a pos) (tUn r ta):=by
 intro pins s σ H Q I h
 exact UnaryOp_ (thn (ha pins s σ H _ I h) λv s1 ⟨x,H1,I1,r1,q1⟩=>ho pins s1 σ H1 x v Q I1 r1 q1)
theorem opI {f:Value->Value->Sem Value}{C:Int->Int->Prop}{g:Int->Int->Int}
  (rule:∀ (i j:Int) (t u:Tok) (s:Shared) (Q:Value->Shared->Prop) (E:Value->Shared->Prop),C i j->Q (.int (g i j) s.toks) { s with toks:=s.toks+1 }->wpAny (model X.prog X.w) X.A (f (.int i t) (.int j u)) Q E s) :
  OpR X f (rI C λi j => .int (g i j)):=by
 intro pins s σ H x y v u Q I rx ry h
 obtain⟨i,j,rfl,rfl,hc,q⟩:=h
 obtain⟨t,rfl⟩:=rx
 obtain⟨t',rfl⟩:=ry
 exact rule i j t t' s _ _ hc ⟨.int (g i j),H,I.tok _,⟨_,rfl⟩,q⟩
theorem Di {f:Value->Value->Sem Value}{g:Int->Int->Int}
  (rule:∀ (i j:Int) (t u:Tok) (s:Shared) (Q:Value->Shared->Prop) (E:Value->Shared->Prop),Q (.int (g i j) s.toks) { s with toks:=s.toks+1 }->wpAny (model X.prog X.w) X.A (f (.int i t) (.int j u)) Q E s) :
  OpR X f (rI0 λi j => .int (g i j)):=by
 intro pins s σ H x y v u Q I rx ry h
 obtain⟨i,j,rfl,rfl,q⟩:=h
 obtain⟨t,rfl⟩:=rx
 obtain⟨t',rfl⟩:=ry
 exact rule i j t t' s _ _ ⟨.int (g i j),H,I.tok _,⟨_,rfl⟩,q⟩
theorem Eb {f:Value->Value->Sem Value}{g:Int->Int->Bool}
  (rule:∀ (i j:Int) (t u:Tok) (s:Shared) (Q:Value->Shared->Prop) (E:Value->Shared->Prop),Q (.bool (g i j)) s->wpAny (model X.prog X.w) X.A (f (.int i t) (.int j u)) Q E s) :
  OpR X f (rI0 λi j => .bl (g i j)):=by
 intro pins s σ H x y v u Q I rx ry h
 obtain⟨i,j,rfl,rfl,q⟩:=h
 obtain⟨t,rfl⟩:=rx
 obtain⟨t',rfl⟩:=ry
 exact rule i j t t' s _ _ ⟨.bl (g i j),H,I,rfl,q⟩
def EL (i j:Int):Prop:=0<j/\j<1073741824
def CMul (i j:Int):Prop:=(-(2 ^ 64)<i/\i<2 ^ 64)∨(-(2 ^ 64)<j/\j<2 ^ 64)
theorem CMul.ok {i j:Int}(h:CMul i j):IntMulOk i j:=by
 rcases h with ⟨h1,h2⟩ |⟨h1,h2⟩
 ·exact .of_left (intBits_le_64 h1 h2)
 ·exact .of_right (intBits_le_64 h1 h2)
theorem B4:OpR X (binaryOp .Add) (rI0 λi j => .int (i+j)):=Di λ_ _ _ _ _ _ _ q=>add_int q
theorem BZ:OpR X (binaryOp .Sub) (rI0 λi j => .int (i-j)):=Di λ_ _ _ _ _ _ _ q=>sub_int q
theorem B0:OpR X (binaryOp .Mult) (rI CMul λi j => .int (i*j)):=opI λ_ _ _ _ _ _ _ hc q=>mul_int q hc.ok
theorem Ac:OpR X (binaryOp .FloorDiv) (rI EL λi j => .int (i / j)):=opI λi j _ _ _ _ _ hc q=>by
 have h1:(0:Int)<j:=hc.1
 have h2:j<1073741824:=hc.2
 exact floordiv_int (by omega) (by rw[Int.fdiv_eq_ediv_of_nonneg i (by omega)];exact q) (.inl (PyProof.noPylong_small (by omega)))
theorem B1:OpR X (binaryOp .Mod) (rI (λ_ j => 0<j) λi j => .int (i % j)):=opI λi j _ _ _ _ _ hc q=>by
 have h1:(0:Int)<j:=hc
 exact mod_int' (by omega) (by rw[Int.fmod_eq_emod_of_nonneg i (by omega)];exact q)
theorem unI {f:Value->Sem Value}{g:Int->Int}
  (rule:∀ (i:Int) (t:Tok) (s:Shared) (Q:Value->Shared->Prop) (E:Value->Shared->Prop),Q (.int (g i) s.toks) { s with toks:=s.toks+1 }->wpAny (model X.prog X.w) X.A (f (.int i t)) Q E s) :
  UnR X f (rU λi => .int (g i)):=by
 intro pins s σ H x v Q I rx h
 obtain⟨i,rfl,q⟩:=h
 obtain⟨t,rfl⟩:=rx
 exact rule i t s _ _ ⟨.int (g i),H,I.tok _,⟨_,rfl⟩,q⟩
theorem Bh:UnR X (unaryOp .USub) (rU λi => .int (-i)):=unI λ_ _ _ _ _ q=>neg_int q
end
section
variable {X:Cx}{a b c:Expr}{ta tb tc:TE}{pos:Pos}
theorem yR {pins:List (Addr×Obj)}{σ:St}{H:Hp}{s:Shared}{Q:VK}{k k':Bool}(I:Inv X pins σ H s)(q:Q (.bl k) H)(e:k=k'):EP X pins σ Q (.bool k') s:=by
 subst e
 exact⟨.bl k,H,I,rfl,q⟩
theorem Dh:OpR X (compareOp .Lt) (rI0 λi j => .bl (decide (i<j))):=Eb λ_ _ _ _ _ _ _ q=>lt_int q
theorem wI:OpR X (compareOp .Lt) (λx y H Q => ∃ i j,x = .str i/\y = .str j/\Q (.bl (decide (i.cps.toList<j.cps.toList))) H):=by
 intro pins s σ H x y v u Q I rx ry h
 obtain⟨i,j,rfl,rfl,q⟩:=h
 obtain⟨t,rfl⟩:=rx
 obtain⟨t',rfl⟩:=ry
 exact lt_str (yR I q rfl)
theorem B3:OpR X (compareOp .Is) (λx y H Q=>y = .non/\Q (.bl (decide (x = .non))) H):=by
 intro pins s σ H x y v u Q I rx ry h
 obtain⟨rfl,q⟩:=h
 cases ry
 refine is_none_gen (yR I q ?_)
 cases x<;>first
  |(cases rx;rfl)
  |(obtain⟨t,rfl⟩:=rx;rfl)
theorem yh (b:Expr){op:CmpOp}(h:op≠.In:=by decide)(h2:op≠.NotIn:=by decide):behindInMarks op b=false:=by
 have e1:(op==CmpOp.In)=false:=by cases op<;>first |rfl |exact absurd rfl h
 have e2:(op==CmpOp.NotIn)=false:=by cases op<;>first |rfl |exact absurd rfl h2
 cases b<;>simp[behindInMarks,e1,e2]
theorem z_ {op:CmpOp}{r:R2}(ho:OpR X (compareOp op) r)(ha:PE X a ta)(hb:PE X b tb)(hm:behindInMarks op b=false):PE X (.Compare a [op] [b] pos) (tOp r ta tb):=by
 intro pins s σ H Q I h
 exact wpAny_Compare1 (CC ha hb I h λv u s2 x y H2 I2 rx ry q=>ho pins s2 σ H2 x y v u Q I2 rx ry q) hm
def tTest (t:TE):TT:=λσ H Q=>t σ H λx H' => ∃ k,x = .bl k/\Q k H'
theorem zQ {op:CmpOp}{r:R2}(ho:OpR X (compareOp op) r)(ha:PE X a ta)(hb:PE X b tb)(hm:behindInMarks op b=false):PT X (.Compare a [op] [b] pos) (tTest (tOp r ta tb)):=by
 intro pins s σ H Q I h
 refine wpAny_isTrue_Compare1 (thn (ha pins s σ H _ I h) λv s1 ⟨x,H1,I1,r1,q1⟩=>thn (hb pins s1 σ H1 _ I1 q1) λu s2 ⟨y,H2,I2,r2,q2⟩ =>
  thn (ho pins s2 σ H2 x y v u _ I2 r1 r2 q2) λc s3 ⟨z,H3,I3,r3,k,e,q3⟩=>?_) hm
 subst e
 cases r3
 exact wpAny_truthy_bool ⟨H3,I3,q3⟩
theorem nH:(sizeLine:Nat)<2 ^ 63:=by rw[sizeLine_eq];decide
theorem uq:OpR X (binaryOp .Add) (λx y H Q => ∃ i j,x = .str i/\y = .str j/\i.length+j.length<=sizeLine/\Q (.str (i++j)) H):=by
 intro pins s σ H x y v u Q I rx ry h
 obtain⟨i,j,rfl,rfl,hz,q⟩:=h
 obtain⟨t,rfl⟩:=rx
 obtain⟨t',rfl⟩:=ry
 exact add_str (λt' tk=>⟨.str (i++j),H,I.tok _,⟨_,rfl⟩,q⟩) hz
theorem vals1 {x:V}{us:List Value}(r:Vals [x] us):∃ u,us=[u]/\RelV x u:=by
 cases r with
 |cons r1 r2=>cases r2;exact⟨_,rfl,r1⟩
theorem vals2 {x y:V}{us:List Value}(r:Vals [x,y] us):∃ u w',us=[u,w']/\RelV x u/\RelV y w':=by
 cases r with
 |cons r1 r2 =>
  cases r2 with
  |cons r3 r4=>cases r4;exact⟨_,_,rfl,r1,r3⟩
theorem pB:CallR X (.type "int") (λxs H Q=>(∃ i,xs=[.int i]/\Q (.int i) H)∨∃ k,xs=[.bl k]/\Q (.int (if k then 1 else 0)) H):=by
 intro pins s σ H xs us Q I r h
 rcases h with ⟨i,rfl,q⟩ |⟨k,rfl,q⟩
 ·obtain⟨u,rfl,t,rfl⟩:=vals1 r
  exact call_int_int ⟨.int i,H,I,⟨_,rfl⟩,q⟩
 ·obtain⟨u,rfl,r1⟩:=vals1 r
  cases r1
  exact call_int_bool ⟨.int (if k then 1 else 0),H,I.tok _,⟨_,rfl⟩,q⟩
end
structure ObjM (h:Heap) (x dx C:Addr) (mA:Str->Option Value):Prop where
 obj:h.get? x=some (PySem.W.instObj C dx)
 ns:h.Ns1 dx mA
 ne:dx≠x
theorem wS {h:Heap}{dx:Addr}{mA:Str->Option Value}(n:h.Ns1 dx mA):∃ od,h.get? dx=some od/\∀ name,PySem.W.lookIn name od=some (mA name):=by
 obtain⟨o,es,ep,ho,hd,hk,_,hm⟩:=n
 refine⟨o,ho,λname=>?_⟩
 have e:=hm name
 unfold nsFind findBy at e
 rw[← Array.find?_toList] at e
 unfold PySem.W.lookIn
 rw[hd]
 dsimp only
 split
 ·rename_i y q
  rw[q] at e
  exact congrArg some e
 ·rename_i q
  rw[q] at e
  have a:es.toList.any (·.refKey)=false:=by
   rw[List.any_eq_false]
   intro y hy
   obtain⟨z,t,hkey⟩:=hk y (Array.mem_toList_iff.mp hy)
   simp[DictEntry.refKey,hkey]
  have a':¬ es.toList.any (·.refKey)=true:=by rw[a];exact Bool.false_ne_true
  rw[if_neg a']
  exact congrArg some e
theorem ObjM.look {h:Heap}{x dx C:Addr}{mA:Str->Option Value}(I:ObjM h x dx C mA):∃ od,PySem.W.InstAt h x (PySem.W.instObj C dx) C (some od)/\∀ name,PySem.W.lookIn name od=some (mA name):=
 let ⟨od,ho,hl⟩:=wS I.ns
 ⟨od,⟨I.obj,rfl,rfl,ho⟩,hl⟩
section
variable {prog:Program}{w:World}{A:Around}{E:Value->Shared->Prop}{s:Shared}{K:PySem.W.Frag}{x dx C f:Addr}{mA:Str->Option Value}{name:Str}{v:Value}
theorem get_map {expr:Bool}{Q:Value->Shared->Prop}(X:K.In s.heap)(I:ObjM s.heap x dx C mA)(hg:PySem.W.plainGet K C name=true)(hh:PySem.W.hasDictIn K C=true)
  (ha:PySem.W.findIn K (.ref C) name=some none) (hv:mA name=some v) (hv':PySem.W.handedIn v=true) (h:Q v { s with toks:=s.toks+1 }) :
  wpAny (model prog w) A (getAttr (.ref x) name expr) Q E s:=by
 obtain⟨od,J,hl⟩:=I.look
 exact PySem.W.get_value X J (PySem.W.plainGet_of hg).1 (PySem.W.findObj_own hh ha rfl (by rw[hl,hv])) hv' h
theorem yI {pl:Sem Bool}{Q:Value×List Value->Shared->Prop}(X:K.In s.heap)(I:ObjM s.heap x dx C mA)(hg:PySem.W.plainGet K C name=true)
  (hf:PySem.W.findIn K (.ref C) name=some (some (.ref f))) (ht:PySem.W.isFn K (.ref f)=true) (hv:mA name=none) (h:Q (.ref f,[.ref x]) s) :
  wpAny (model prog w) A (getMethod (.ref x) name pl) Q E s:=by
 obtain⟨od,J,hl⟩:=I.look
 exact PySem.W.method_fn X J (PySem.W.plainGet_of hg).1 (PySem.W.plainGet_of hg).2 hf (beq_iff_eq.mp ht) (by show (PySem.W.lookIn name od).map (·.isSome)=some false;rw[hl,hv];rfl) h
theorem zI {ns:List Str}{Q:Unit->Shared->Prop}(X:K.In s.heap)(I:ObjM s.heap x dx C mA)
  (hs:PySem.W.findIn K (.ref C) "__setattr__"=some (some (.builtin "object.__setattr__"))) (hp:PySem.W.plainOver K C=true) (ht:PySem.W.takerIn K C name=some none) (hh:PySem.W.hasDictIn K C=true)
  (hw:PySem.Within mA ns) (hsz:ns.length<=sizeLine)
  (h:∀ h',ObjM h' x dx C (λy=>if y=name then some v else mA y)->Heap.SameBut dx s.heap h'->Q () { s with heap:=h',toks:=s.toks+2 }) :
  wpAny (model prog w) A (setAttr (.ref x) name v) Q E s:=by
 obtain⟨od,J,hl⟩:=I.look
 refine PySem.W.set_plain X J hs (PySem.W.osa_open (s:={ s with toks:=s.toks+1 }) (r:=none) X J hp ht λb=>?_)
 obtain⟨cd,hc,hd'⟩:=PySem.W.any_some hh
 have hx:s.heap.get? x=some ⟨.ref C,some dx,.plain,#[]⟩:=I.obj
 refine wpAny_bind (wpAny_pure (wpAny_bind (wpAny_bind (wpAny_loadPart hx (wpAny_bind (PySem.W.Looks.here (s:={ s with toks:=s.toks+1 }) (PySem.W.looks_clsIn X hc) ?_))))))
 rw[hd']
 refine wpAny_pure (a:=some dx) (wpAny_bind (wpAny_pure (wpAny_bind ?_)))
 refine wpAny_nsSet1 (s:={ s with toks:=s.toks+1 }) I.ns λh' hn2 hs2=>?_
 obtain⟨oD,esD,epD,hoD,hdD,hcD⟩:=hn2.count (PySem.Within.cons name v hw)
 refine wpAny_bind (wpAny_lookBehind hoD (by rw[hdD];exact pastItsLine_dict (Nat.le_trans hcD (by rw[List.length_cons];omega))) ?_)
 exact wpAny_pure (h _ ⟨(hs2.2 _ (Ne.symm I.ne)).trans I.obj,hn2,I.ne⟩ hs2)
theorem yy {R:Result->Shared->Prop}{vs:List Value}{kw:List (Str×Value)}(X:K.In s.heap)(hm:PySem.W.makesIn K C=true)
  (hi:PySem.W.findIn K (.ref C) "__init__"=some (some (.ref f))) (hf:PySem.W.typeIn K (.ref f)=some (.type "function"))
  (h:codeAny (model prog w) (A.under (.builtin "type.__call__" ⟨.ref C::vs,kw⟩)) (.call (.ref f) ⟨.ref (s.heap.objs.size+1)::vs,kw⟩) (PySem.W.InitBack (s.heap.objs.size+1) R)
   { s with heap:=(s.heap.push PySem.W.emptyDict).push (PySem.W.instObj C s.heap.objs.size) }) :
  codeAny (model prog w) A (.call (.ref C) ⟨vs,kw⟩) R s:=by
 obtain⟨hh,g,d,t,os⟩:=s
 exact PySem.W.make_core (PySem.W.makes_of X hm) (PySem.W.looks_findIn X hi) (λself=>PySem.W.bind_fn X self hf) (.inl rfl) h
end
def gh (f:Str)(v:V):List (Str×V)->List (Str×V)
 |[]=>[(f,v)]
 |(g,x)::r=>if g=f then (g,v)::r else (g,x)::gh f v r
theorem lZ (f g:Str)(v:V):∀ fs:List (Str×V),(gh f v fs).lookup g=if g=f then some v else fs.lookup g
 |[]=>by
  show List.lookup g [(f,v)]=_
  by_cases h:g=f
  ·have hb:(g==f)=true:=beq_iff_eq.mpr h
   simp only[List.lookup,hb,if_pos h]
  ·have hb:(g==f)=false:=beq_eq_false_iff_ne.mpr h
   simp only[List.lookup,hb,if_neg h]
 |(k,x)::r=>by
  have ih:=lZ f g v r
  rw[show gh f v ((k,x)::r)=(if k=f then (k,v)::r else (k,x)::gh f v r) from rfl]
  by_cases hk:k=f
  ·rw[if_pos hk]
   by_cases h:g=k
   ·have hb:(g==k)=true:=beq_iff_eq.mpr h
    simp only[List.lookup,hb,if_pos (h.trans hk)]
   ·have hb:(g==k)=false:=beq_eq_false_iff_ne.mpr h
    simp only[List.lookup,hb,if_neg (λe:g=f=>h (e.trans hk.symm))]
  ·rw[if_neg hk]
   by_cases h:g=k
   ·have hb:(g==k)=true:=beq_iff_eq.mpr h
    simp only[List.lookup,hb,if_neg (λe:g=f=>hk (h.symm.trans e))]
   ·have hb:(g==k)=false:=beq_eq_false_iff_ne.mpr h
    simp only[List.lookup,hb]
    exact ih
theorem lh (f:Str)(v:V):∀ fs:List (Str×V),f∈(gh f v fs).map (·.1)/\∀ g,g∈fs.map (·.1)->g∈(gh f v fs).map (·.1)
 |[]=>⟨by simp[gh],λg h=>by simp at h⟩
 |(k,x)::r=>by
  obtain⟨i1,i2⟩:=lh f v r
  rw[show gh f v ((k,x)::r)=(if k=f then (k,v)::r else (k,x)::gh f v r) from rfl]
  by_cases hk:k=f
  ·rw[if_pos hk]
   subst hk
   exact⟨by simp,λg h=>by simpa using h⟩
  ·rw[if_neg hk]
   refine⟨?_,λg h=>?_⟩
   ·rw[List.map_cons]
    exact List.mem_cons_of_mem _ i1
   ·rw[List.map_cons] at h ⊢
    rcases List.mem_cons.mp h with e |e
    ·exact List.mem_cons.mpr (.inl e)
    ·exact List.mem_cons_of_mem _ (i2 g e)
theorem l4 (f:Str)(v:V):∀ fs:List (Str×V),(gh f v fs).length<=fs.length+1
 |[]=>by simp[gh]
 |(k,x)::r=>by
  have ih:=l4 f v r
  rw[show gh f v ((k,x)::r)=(if k=f then (k,v)::r else (k,x)::gh f v r) from rfl]
  by_cases hk:k=f
  ·rw[if_pos hk,List.length_cons,List.length_cons];omega
  ·rw[if_neg hk,List.length_cons,List.length_cons];omega
theorem RelO.some_of {v:V}{o:Option Value}(r:RelO (some v) o):∃ u,o=some u/\RelV v u:=by
 cases o with
 |none=>exact (show False from r).elim
 |some u=>exact⟨u,rfl,r⟩
theorem RelO.none_of {o:Option Value}(r:RelO none o):o=none:=by
 cases o with
 |none=>rfl
 |some u=>exact (show False from r).elim
theorem w4 {v:V}{u:Value}(r:RelV v u):PySem.W.handedIn u=true:=by
 cases v with
 |non=>cases (show u=Value.none from r);rfl
 |bl b=>cases (show u=Value.bool b from r);rfl
 |int i=>obtain⟨t,e⟩:=(show ∃ t,u=Value.int i t from r);cases e;rfl
 |str x=>obtain⟨t,e⟩:=(show ∃ t,u=Value.str x t from r);cases e;rfl
 |byt b=>obtain⟨t,e⟩:=(show ∃ t,u=Value.bytes b t from r);cases e;rfl
 |flt b=>obtain⟨t,e⟩:=(show ∃ t,u=Value.float b t from r);cases e;rfl
 |ref a=>cases (show u=Value.ref a from r);rfl
 |ty n=>cases (show u=Value.type n from r);rfl
section
variable {P:Program}{w:World}{H H':Hp}{h h':Heap}{a C dx:Addr}{fs fs':List (Str×V)}
theorem qA (hok:HOk P w H h)(e:H a=some (.ins C dx fs)):∃ mA,ObjM h a dx C mA/\(∀ f,RelO (fs.lookup f) (mA f))/\PySem.Within mA (fs.map (·.1))/\fs.length<=1000/\H dx=some (.own a):=by
 obtain⟨d,z,ne,ob,mA,n,r,q⟩:=(show ObjOk P w H h a (.ins C dx fs) from hok a _ e)
 exact⟨mA,⟨ob,n,ne⟩,r,q,z,d⟩
end
structure Cls (K:PySem.W.Frag) (C:Addr):Prop where
 pg:PySem.W.plainGet K C Str.empty=true
 hd:PySem.W.hasDictIn K C=true
 po:PySem.W.plainOver K C=true
 sa:PySem.W.findIn K (.ref C) "__setattr__"=some (some (.builtin "object.__setattr__"))
theorem Cls.get {K:PySem.W.Frag}{C:Addr}(c:Cls K C)(f:Str):PySem.W.plainGet K C f=true:=c.pg
def NoAttr (K:PySem.W.Frag)(C:Addr)(f:Str):Prop:=PySem.W.findIn K (.ref C) f=some none
theorem NoAttr.taker {K:PySem.W.Frag}{C:Addr}{f:Str}(n:NoAttr K C f):PySem.W.takerIn K C f=some none:=by
 unfold PySem.W.takerIn
 rw[show PySem.W.findIn K (.ref C) f=some none from n]
 rfl
structure Con (K:PySem.W.Frag) (C:Addr) (f:Str) (v:V) (u:Value):Prop where
 at_:PySem.W.findIn K (.ref C) f=some (some u)
 rel:RelV v u
 get:PySem.W.specialIn K u "__get__"=some none
 cp:PySem.W.copiedNames.contains f=false
structure Meth (K:PySem.W.Frag) (C:Addr) (m:Str) (f:Addr):Prop where
 at_:PySem.W.findIn K (.ref C) m=some (some (.ref f))
 fn:PySem.W.isFn K (.ref f)=true
 kp:PySem.W.keepIn K (.ref f)=true
section
variable {X:Cx}{pins:List (Addr×Obj)}{σ:St}{H:Hp}{s:Shared}{a C dx:Addr}{fs:List (Str×V)}{f:Str}{v:V}{A:Around}{E:Value->Shared->Prop}
theorem uE {b:Bool}{Q:Value->Shared->Prop}(I:Inv X pins σ H s)(e:H a=some (.ins C dx fs))(c:Cls X.K C)(n:NoAttr X.K C f)(l:fs.lookup f=some v)
  (h:∀ u s',Inv X pins σ H s'->RelV v u->Q u s'):wpAny (model X.prog X.w) A (getAttr (.ref a) f b) Q E s:=by
 obtain⟨mA,O,r,_,_,_⟩:=qA I.hok e
 obtain⟨u,hu,ru⟩:=RelO.some_of (v:=v) (o:=mA f) (by rw[← l];exact r f)
 exact get_map I.kIn O (c.get f) c.hd n hu (w4 ru) (h u _ (I.tok _) ru)
theorem nN {m:Str}{g:Addr}{pl:Sem Bool}{Q:Value×List Value->Shared->Prop}(I:Inv X pins σ H s)(e:H a=some (.ins C dx fs))(c:Cls X.K C)(k:Meth X.K C m g)(l:fs.lookup m=none)
  (h:Q (.ref g,[.ref a]) s):wpAny (model X.prog X.w) A (getMethod (.ref a) m pl) Q E s:=by
 obtain⟨mA,O,r,_,_,_⟩:=qA I.hok e
 have hn:mA m=none:=RelO.none_of (by rw[← l];exact r m)
 exact yI I.kIn O (c.get m) k.at_ k.fn hn h
theorem ua {y:V}{u:Value}{Q:Unit->Shared->Prop}(I:Inv X pins σ H s)(e:H a=some (.ins C dx fs))(c:Cls X.K C)(n:NoAttr X.K C f)(hl:fs.length<1000)(ry:RelV y u)
  (h:∀ s',Inv X pins σ (upd H a (.ins C dx (gh f y fs))) s'->Q () s'):wpAny (model X.prog X.w) A (setAttr (.ref a) f u) Q E s:=by
 obtain⟨mA,O,r,wi,_,ho⟩:=qA I.hok e
 have hz:(fs.map (·.1)).length<=sizeLine:=by rw[List.length_map,sizeLine_eq];omega
 refine zI I.kIn O c.sa c.po n.taker c.hd wi hz λh' O' sb=>h _ ?_
 have hd:∃ o,h'.get? dx=some o:=let ⟨o,_,_,e',_⟩:=O'.ns;⟨o,e'⟩
 refine I.write (x:=a) (e:=dx) (by rw[e];exact True.intro) (.inr ho) (λb q hb z=>(sb.2 b hb).trans z) hd ?_
 refine⟨by rw[aF O.ne];exact ho,?_,O.ne,O'.obj,_,O'.ns,λg=>?_,λg hg=>?_⟩
 ·have:=l4 f y fs;omega
 ·show RelO ((gh f y fs).lookup g) (if g=f then some u else mA g)
  rw[lZ]
  by_cases q:g=f
  ·rw[if_pos q,if_pos q];exact ry
  ·rw[if_neg q,if_neg q];exact r g
 ·by_cases q:g=f
  ·rw[q];exact (lh f y fs).1
  ·refine (lh f y fs).2 g (wi g λz=>hg ?_)
   show (if g=f then some u else mA g)=none
   rw[if_neg q];exact z
theorem Inv.made (I:Inv X pins σ H s):Inv X pins σ (upd (upd H s.heap.objs.size (.own (s.heap.objs.size+1))) (s.heap.objs.size+1) (.ins C s.heap.objs.size []))
  { s with heap:=(s.heap.push PySem.W.emptyDict).push (PySem.W.instObj C s.heap.objs.size) }:=by
 have e1:(s.heap.push PySem.W.emptyDict).get? s.heap.objs.size=some PySem.W.emptyDict:=Heap.get?_push_size s.heap rfl
 have e2:((s.heap.push PySem.W.emptyDict).push (PySem.W.instObj C s.heap.objs.size)).get? (s.heap.objs.size+1)=some (PySem.W.instObj C s.heap.objs.size):=by
  have:=Heap.get?_push_size (s.heap.push PySem.W.emptyDict) (o:=PySem.W.instObj C s.heap.objs.size) rfl
  rwa [Heap.size_push] at this
 have e3:(s.heap.push PySem.W.emptyDict).Ns s.heap.objs.size (λ_=>none):=⟨PySem.W.emptyDict,#[],_,e1,rfl,(λe he=>absurd he (by simp)),λ_=>rfl⟩
 have I1:=I.laid (a:=s.heap.objs.size) (o:=.own (s.heap.objs.size+1)) (h':=s.heap.push PySem.W.emptyDict) (t':=s.toks) (λb u q=>Heap.get?_push_of_some _ q) (Nat.le_refl _) ⟨_,e1⟩
 refine I1.laid (a:=s.heap.objs.size+1) (o:=.ins C s.heap.objs.size []) (t':=s.toks) (λb u q=>Heap.get?_push_of_some _ q) (Nat.le_of_eq (Heap.size_push _ _)) ?_
 have ne:s.heap.objs.size≠s.heap.objs.size+1:=Nat.ne_of_lt (Nat.lt_succ_self _)
 refine⟨by rw[aF ne,upd_same],Nat.zero_le _,ne,e2,λ_=>none,(Heap.Ns1.of_empty e3).at λo q=>Heap.get?_push_of_some _ q,λ_=>True.intro,λy hy=>absurd rfl hy⟩
theorem AN {prog:Program}{w:World}{env:Env}{e:Expr}{f:Str}{pos:Pos}{s:Shared}{Q:Value->Shared->Prop}(hb:attributeBase e f env (eval e env)=eval e env)
  (h:wpAny (model prog w) A (eval e env) (λo s₁=>wpAny (model prog w) A (getAttr o f true) Q E s₁) E s):wpAny (model prog w) A (eval (.Attribute e f pos) env) Q E s:=
 Attribute_any_ h (by rw[arm_eval_Attribute,hb])
end
def D5 (K:PySem.W.Frag)(ta:TE)(f:Str):TE:=λσ H Q=>ta σ H λx H1 => ∃ a C dx fs v,x = .ref a/\H1 a=some (.ins C dx fs)/\Cls K C/\NoAttr K C f/\fs.lookup f=some v/\Q v H1
def D6 (K:PySem.W.Frag)(ta tv:TE)(f:Str):TS:=λD σ H=>tv σ H λy H1=>ta σ H1 λx H2 => ∃ a C dx fs,x = .ref a/\H2 a=some (.ins C dx fs)/\Cls K C/\NoAttr K C f/\fs.length<1000 /\
 D.nx σ (upd H2 a (.ins C dx (gh f y fs)))
section
variable {X:Cx}{o e value:Expr}{f:Str}{pos pos' tpos:Pos}{ta tv:TE}
theorem BW (he:PE X e ta)(hb:attributeBase e f X.env (eval e X.env)=eval e X.env):PE X (.Attribute e f pos) (D5 X.K ta f):=by
 intro pins s σ H Q I h
 refine AN hb (thn (he pins s σ H _ I h) λu s1 ⟨x,H1,I1,rx,a,C,dx,fs,v,ex,ea,c,n,l,q⟩=>?_)
 subst ex
 obtain rfl:u=Value.ref a:=rx
 exact uE I1 ea c n l λu' s2 I2 ru=>⟨v,H1,I2,ru,q⟩
theorem BQ (ha:PE X o ta)(hv:PE X value tv)(hs:swapsWith value (some (.Attribute o f pos')) pos.line X.env=pure false):PS X (.Assign [.Attribute o f pos'] value pos) (D6 X.K ta tv f):=by
 intro pins s σ H D I h
 refine plainObj_wpAny_Assign_Attribute (thn (hv pins s σ H _ I h) λu s1 ⟨y,H1,I1,ry,q⟩=>thn (ha pins s1 σ H1 _ I1 q) λov s2 ⟨x,H2,I2,rx,a,C,dx,fs,ex,ea,c,n,l,q2⟩=>?_) hs
 subst ex
 obtain rfl:ov=Value.ref a:=rx
 exact ua I2 ea c n l ry λs3 I3=>⟨σ,_,I3,q2⟩
theorem A7 {pl:Sem Bool}{m:Str}{apos:Pos}{args:List Expr}{pins:List (Addr×Obj)}{s:Shared}{σ:St}{H:Hp}{Q:Value->Shared->Prop}{te:TE}(he:PE X e te)(I:Inv X pins σ H s)
  (h:te σ H λx H1 => ∃ a C dx fs g,x = .ref a/\H1 a=some (.ins C dx fs)/\Cls X.K C/\Meth X.K C m g/\fs.lookup m=none /\
   ∀ s1,Inv X pins σ H1 s1->wpAny (model X.prog X.w) X.A (callWith pos (.ref g) [.ref a] (backTo pos (starEach args X.env)) (backToKw pos (keywordEach [] X.env))) Q X.xe s1)
  (ht:eval (.Call (.Attribute e m apos) args [] pos) X.env=(do
   let ov ← eval e X.env
   standAt apos.atName
   let (f,first) ← holding [ov] (getMethod ov m pl)
   callWith pos f first (backTo pos (starEach args X.env)) (backToKw pos (keywordEach [] X.env)))) :
  wpAny (model X.prog X.w) X.A (eval (.Call (.Attribute e m apos) args [] pos) X.env) Q X.xe s:=by
 refine PySem.W.methodCall_KW (pl:=pl) (thn (he pins s σ H _ I h) λu s1 ⟨x,H1,I1,rx,a,C,dx,fs,g,ex,ea,c,k,l,q⟩=>?_) ht
 subst ex
 obtain rfl:u=Value.ref a:=rx
 exact nN I1 ea c k l (q s1 I1)
end
section
variable {X:Cx}{pins:List (Addr×Obj)}{σ:St}{H:Hp}{s:Shared}{A:Around}{E:Value->Shared->Prop}{Q:Value->Shared->Prop}{c:Value}{b:Bool}
inductive TyOf (K:PySem.W.Frag) (H:Hp):V->Value->Prop where
 |non:TyOf K H .non (.type "NoneType")
 |bl (x:Bool):TyOf K H (.bl x) (.type "bool")
 |int (i:Int):TyOf K H (.int i) (.type "int")
 |str (x:Str):TyOf K H (.str x) (.type "str")
 |flt (x:UInt64):TyOf K H (.flt x) (.type "float")
 |lst {a:Addr}{xs:List V}(e:H a=some (.lst xs)):TyOf K H (.ref a) (.type "list")
 |frz {a:Addr}{o:Obj}{xs:List V}(e:H a=some (.frz o (.lst xs))):TyOf K H (.ref a) (.type "list")
 |tup {a:Addr}{xs:List V}(e:H a=some (.tup xs)):TyOf K H (.ref a) (.type "tuple")
 |dK {a:Addr}{kvs:List (Key×V)}(e:H a=some (.dK kvs)):TyOf K H (.ref a) (.type "dict")
 |dT {a:Addr}{kvs:List (List Key×V)}(e:H a=some (.dT kvs)):TyOf K H (.ref a) (.type "dict")
 |ins {a C dx:Addr}{fs:List (Str×V)}(e:H a=some (.ins C dx fs)) (cl:Cls K C) (ha:PySem.W.findIn K (.ref C) "__class__"=some (some (.builtin "object.__class__")))
   (hn:PySem.W.specialIn K (.builtin "object.__class__") "__get__"=some (some (.builtin "getset_descriptor.__get__"))) (htk:PySem.W.takesIn K (.builtin "object.__class__")=some true)
   (hm:PySem.W.mroIn K C (.type "object")=some true):TyOf K H (.ref a) (.ref C)
end
structure Room (k:Nat) (A:Around):Prop where
 hd:A.handled=none
 dp:A.depth+3*k+5<recursionLimit
 un:A.units+16*k+200<cLine
 gd:A.guards=some []
theorem Room.mono {j k:Nat}{A:Around}(r:Room k A)(h:j<=k):Room j A:=⟨r.hd,by have:=r.dp;omega,by have:=r.un;omega,r.gd⟩
theorem Room.deeper {k:Nat}{A:Around}(r:Room (k+1) A)(env:Env):Room k (A.deeper env):=
 ⟨r.hd,by have:=r.dp;show A.depth+1+3*k+5 < _;omega,by have:=r.un;show A.units+3+16*k+200 < _;omega,r.gd⟩
theorem uv {A:Around}{C:Addr}{us:List Value}{kw:List (Str×Value)}:(A.under (.builtin "type.__call__" ⟨.ref C::us,kw⟩)).depth=A.depth+1:=by
 first |rfl |simp[Around.under,Code.weight,Code.isCreation,Code.isGuard,Code.isCaller,Code.frames,Code.isFrame,guardIds]
theorem uu {A:Around}{C:Addr}{us:List Value}{kw:List (Str×Value)}:(A.under (.builtin "type.__call__" ⟨.ref C::us,kw⟩)).units=A.units+1:=by
 first |rfl |simp[Around.under,Code.cUnits,Code.frames,Code.isFrame]
theorem sy {A:Around}{C:Addr}{us:List Value}{kw:List (Str×Value)}:(A.under (.builtin "type.__call__" ⟨.ref C::us,kw⟩)).guards=A.guards:=by
 first |rfl |simp[Around.under,Code.guards,Code.isGuard,guardIds,pushGuards]
theorem Room.make {k:Nat}{A:Around}(r:Room (k+1) A)(C:Addr)(us:List Value)(kw:List (Str×Value)):Room k (A.under (.builtin "type.__call__" ⟨.ref C::us,kw⟩)):=
 ⟨r.hd,by have:=r.dp;rw[uv];omega,by have:=r.un;rw[uu];omega,by rw[sy];exact r.gd⟩
theorem Room.depth {k:Nat}{A:Around}(r:Room k A):A.depth<recursionLimit:=by have:=r.dp;omega
theorem Room.units {k:Nat}{A:Around}(r:Room k A):A.units+64<cLine:=by have:=r.un;omega
def pV:TA:=λ_ H Q=>Q [] H
def AV (ta:TE)(tr:TA):TA:=λσ H Q=>ta σ H λx H1=>tr σ H1 λxs H2=>Q (x::xs) H2
section
variable {X:Cx}{e:Expr}{es:List Expr}{te:TE}{t:TA}{pos:Pos}
theorem pa_nil:PA X [] pV:=λ_ _ _ _ H Q I h=>Calls.spliced_nil ⟨[],H,I,.nil,h⟩
theorem fR (ha:PE X e te)(hr:PA X es t)(hs:starEach (e::es) X.env=(false,eval e X.env)::starEach es X.env:=by rfl):PA X (e::es) (AV te t):=by
 intro pos pins s σ H Q I h
 rw[hs]
 show wpAny _ _ (spliced ((false,eval e X.env)::backTo pos (starEach es X.env))) _ _ s
 refine Calls.spliced_cons (thn (ha pins s σ H _ I h) λu s1 ⟨x,H1,I1,r1,q1⟩=>?_)
 exact thn (hr pos pins s1 σ H1 _ I1 q1) λus s2 ⟨xs,H2,I2,r2,q2⟩=>⟨x::xs,H2,I2,.cons r1 r2,q2⟩
def DY (t:TA):TE:=λσ H Q=>t σ H λxs H1=>xs.length<=sizeLine/\∀ p,H1 p=none->Q (.ref p) (upd H1 p (.tup xs))
def D2 (t:TA):TE:=λσ H Q=>t σ H λxs H1=>xs.length<=sizeLine/\∀ p,H1 p=none->Q (.ref p) (upd H1 p (.lst xs))
theorem BU {x1}(h:PA X es t):PE X (.Tuple es x1 pos) (DY t):=by
 intro pins s σ H Q I hq
 refine wpAny_Tuple_spliced (thn (h pos pins s σ H _ I hq) λus s1 ⟨xs,H1,I1,r,z,q⟩=>⟨by rw[← r.length];exact z,?_⟩)
 have hf:H1 s1.heap.objs.size=none:=I1.hok.fresh (Nat.le_refl _)
 refine⟨.ref s1.heap.objs.size,upd H1 s1.heap.objs.size (.tup xs),I1.laid (t':=s1.toks) (λb u e=>Heap.get?_push_of_some _ e) (Nat.le_refl _) ?_,rfl,q _ hf⟩
 exact⟨z,us,r,TupN.new _ _⟩
theorem xZ (h:PA X es t):PE X (.List es pos) (D2 t):=by
 intro pins s σ H Q I hq
 refine wpAny_List_spliced (thn (h pos pins s σ H _ I hq) λus s1 ⟨xs,H1,I1,r,z,q⟩=>⟨by rw[← r.length];exact z,?_⟩)
 have hf:H1 s1.heap.objs.size=none:=I1.hok.fresh (Nat.le_refl _)
 refine⟨.ref s1.heap.objs.size,upd H1 s1.heap.objs.size (.lst xs),I1.laid (t':=s1.toks) (λb u e=>Heap.get?_push_of_some _ e) (Nat.le_refl _) ?_,rfl,q _ hf⟩
 exact⟨z,us,0,r,Heap.get?_push_size _ rfl⟩
end
abbrev Sp:=List V->Hp->VK->XK->Prop
abbrev CXT:=List Env->Hp->Shared->XK->Value->Shared->Prop
structure Env0 (P:Program) (w:World) (K:PySem.W.Frag) (mg:Str->Option Value) (base:Heap) (A:Around) (outer:List Env) (s:Shared) (H:Hp):Prop where
 frames:A.frames=some outer
 mod:Mod K mg base
 bs:∀ b o,base.get? b=some o->s.heap.get? b=some o/\H b=none
 bsz:base.objs.size<=s.heap.objs.size
 funs:s.heap.FunFrames base outer
 frf:∀ b∈frs outer,H b=none
 hok:HOk P w H s.heap
 bare:AllBare s.gens
def CE (outer:List Env)(P:Program)(w:World)(H:Hp)(s:Shared)(Q:VK)(u:Value)(s':Shared):Prop:=
 ∃ v H',s'.os=s.os/\AllBare s'.gens/\Un (frs outer) [] H H' s.heap s'.heap/\HOk P w H' s'.heap/\RelV v u/\Q v H'
def CR (CX:CXT)(outer:List Env)(P:Program)(w:World)(H:Hp)(s:Shared)(Q:VK)(E:XK)(r:Result)(s':Shared):Prop:=
 match r with
 | .ok (.ret u)=>CE outer P w H s Q u s'
 | .ok _=>False
 | .error e=>CX outer H s E e s'
structure FnOk (P:Program) (w:World) (K:PySem.W.Frag) (mg:Str->Option Value) (base:Heap) (CX:CXT) (k:Nat) (f:Addr) (fd:FuncData) (ps:List Str) (sp:Sp):Prop where
 len:∀ vs H Q E,sp vs H Q E->vs.length=ps.length
 run:∀ (A:Around) (outer:List Env) (s:Shared) (H:Hp) (args:Args) (us:List Value) (vs:List V) (Q:VK) (E:XK),Room k A->Env0 P w K mg base A outer s H->BindsTo s fd args (ps.zip us)->Vals vs us->sp vs H Q E ->
  codeAny (model P w) A (.call (.ref f) args) (CR CX outer P w H s Q E) s
theorem FnOk.imp {P:Program}{w:World}{K:PySem.W.Frag}{mg:Str->Option Value}{base:Heap}{CX:CXT}{k:Nat}{f:Addr}{fd:FuncData}{ps:List Str}{sp sp':Sp}(F:FnOk P w K mg base CX k f fd ps sp)
  (h:∀ vs H Q E,sp' vs H Q E->sp vs H Q E):FnOk P w K mg base CX k f fd ps sp':=
 ⟨λvs H Q E q=>F.len vs H Q E (h _ _ _ _ q),λA outer s H args us vs Q E hr he hb hv hs=>F.run A outer s H args us vs Q E hr he hb hv (h _ _ _ _ hs)⟩
theorem Env0.make {P:Program}{w:World}{K:PySem.W.Frag}{mg:Str->Option Value}{base:Heap}{A:Around}{outer:List Env}{s:Shared}{H:Hp}(e:Env0 P w K mg base A outer s H)(C:Addr)(us:List Value)(kw:List (Str×Value)) :
  Env0 P w K mg base (A.under (.builtin "type.__call__" ⟨.ref C::us,kw⟩)) outer s H:=⟨by first |exact e.frames |(simpa [Around.under,Code.envs,Code.isFrame,pushEnvs] using e.frames),e.mod,e.bs,e.bsz,e.funs,e.frf,e.hok,e.bare⟩
section
variable {X:Cx}{pins:List (Addr×Obj)}{σ:St}{H:Hp}{s s':Shared}
theorem Inv.env0 (I:Inv X pins σ H s):Env0 X.prog X.w X.K X.mg X.base X.A X.stack s H:=
 ⟨I.ok.frames,I.ok.mod,I.bs,Nat.le_trans I.ok.bsz I.sz,I.stack,I.stkFree,I.hok,I.bare⟩
theorem Inv.after {Q:VK}{u:Value}(I:Inv X pins σ H s)(h:CE X.stack X.prog X.w H s Q u s'):EP X pins σ Q u s':=by
 obtain⟨v,H',os,bare,un,hok,r,q⟩:=h
 obtain⟨hh,g,d,t,os'⟩:=s'
 obtain rfl:os'=s.os:=os
 exact⟨v,H',I.call (h':=hh) (g':=g) (d':=d) (t':=t) (ch:=[]) un hok bare (λb z=>absurd z (by simp)),r,q⟩
end
def AW (sp:Sp)(dvs:List V)(E:XK)(t:TA):TE:=λσ H Q=>t σ H λvs H1=>sp (vs++dvs) H1 Q E
def CS (C:Addr)(m:Str)(sp:Sp)(dvs:List V)(E:XK)(ta:TE)(t:TA):TE:=λσ H Q=>ta σ H λx H1 => ∃ a dx fs,x = .ref a/\H1 a=some (.ins C dx fs)/\fs.lookup m=none /\
 t σ H1 λvs H2=>sp (x::(vs++dvs)) H2 Q E
def CT (C:Addr)(sp:Sp)(dvs:List V)(E:XK)(t:TA):TE:=λσ H Q=>t σ H λvs H1 => ∀ x dx,H1 x=none->H1 dx=none->dx≠x ->
 sp (.ref x::(vs++dvs)) (upd (upd H1 dx (.own x)) x (.ins C dx [])) (λv H2=>v = .non/\Q (.ref x) H2) E
def Binds (K:PySem.W.Frag)(fd:FuncData)(ps:List Str)(ds:List Value):Prop:=
 ∀ (s:Shared) (us:List Value),K.In s.heap->(us++ds).length=ps.length->BindsTo s fd ⟨us,[]⟩ (ps.zip (us++ds))
theorem Binds.all {K:PySem.W.Frag}{fd:FuncData}{ps:List Str}(h:∀ us:List Value,us.length=ps.length->bindArgs fd ⟨us,[]⟩=pure (ps.zip us)):Binds K fd ps []:=λs us _ hl=>by
 rw[List.append_nil] at hl ⊢
 exact .of_eq (h us hl)
def Passes (CX:CXT)(X:Cx)(E:XK):Prop:=∀ (pins:List (Addr×Obj)) (σ:St) (H:Hp) (s:Shared) (e:Value) (s':Shared),Inv X pins σ H s->CX X.stack H s E e s'->X.xe e s'
section
variable {X:Cx}{CX:CXT}{k:Nat}{f C:Addr}{fd:FuncData}{ps:List Str}{sp:Sp}{dvs:List V}{ds:List Value}{E:XK}{x m:Str}{p pos apos:Pos}{e o:Expr}{es:List Expr}{ta:TE}{t:TA}
theorem ug {pins:List (Addr×Obj)}{σ:St}{H:Hp}{s:Shared}{Q:VK}{us:List Value}{vs:List V}(F:FnOk X.prog X.w X.K X.mg X.base CX k f fd ps sp)(hr:Room k X.A)(hb:Binds X.K fd ps ds)(hd:Vals dvs ds)(hx:Passes CX X E)
  (I:Inv X pins σ H s) (r:Vals vs us) (h:sp (vs++dvs) H Q E):wpAny (model X.prog X.w) X.A (call (.ref f) us) (EP X pins σ Q) X.xe s:=by
 have r2:Vals (vs++dvs) (us++ds):=r.append hd
 have hl:(us++ds).length=ps.length:=by rw[← r2.length];exact F.len _ _ _ _ h
 refine wpAny_call (codeAny_mono (F.run X.A X.stack s H ⟨us,[]⟩ (us++ds) (vs++dvs) Q E hr I.env0 (hb s us I.kIn hl) r2 h) λr s' hq=>?_)
 cases r with
 |error e=>exact hx pins σ H s e s' I hq
 |ok fl =>
  cases fl with
  |ret u=>exact I.after hq
  |next=>exact False.elim hq
  |brk=>exact False.elim hq
  |cont=>exact False.elim hq
theorem Aa (F:FnOk X.prog X.w X.K X.mg X.base CX k f fd ps sp)(hr:Room k X.A)(hg:Gl X x)(hm:X.mg x=some (.ref f))(hk:PySem.W.keepIn X.K (.ref f)=true)(hb:Binds X.K fd ps ds)(hd:Vals dvs ds)(hx:Passes CX X E)
  (ha:PA X (e::es) t) (hdb:(x==("__debug__":Str))=false:=by decide) (he:starEach (e::es) X.env=(false,eval e X.env)::starEach es X.env:=by rfl) (hpl:(backTo pos (starEach es X.env)).any (·.1)=false:=by rfl) :
  PE X (.Call (.Name x p) (e::es) [] pos) (AW sp dvs E t):=by
 intro pins s σ H Q I h
 refine wpAny_Call_Name_kw (qw I hg hm ?_ hdb)
 refine PySem.W.callWith_K (h₀:=X.base) I.ok.mod.kin hk (thn (ha pos pins s σ H _ I h) λus s1 ⟨vs,H1,I1,r,q⟩=>⟨I1.kIn,?_⟩) he hpl
 exact ug F hr hb hd hx I1 r q
theorem z6 {pl:Sem Bool}(he:PE X o ta)(c:Cls X.K C)(hm:Meth X.K C m f)(F:FnOk X.prog X.w X.K X.mg X.base CX k f fd ps sp)(hr:Room k X.A)(hb:Binds X.K fd ps ds)(hd:Vals dvs ds)(hx:Passes CX X E)(ha:PA X (e::es) t)
  (hst:starEach (e::es) X.env=(false,eval e X.env)::starEach es X.env:=by rfl) (hpl:(backTo pos (starEach es X.env)).any (·.1)=false:=by rfl)
  (ht:eval (.Call (.Attribute o m apos) (e::es) [] pos) X.env=(do
   let ov ← eval o X.env
   standAt apos.atName
   let (f,first) ← holding [ov] (getMethod ov m pl)
   callWith pos f first (backTo pos (starEach (e::es) X.env)) (backToKw pos (keywordEach [] X.env))):=by rfl) :
  PE X (.Call (.Attribute o m apos) (e::es) [] pos) (CS C m sp dvs E ta t):=by
 intro pins s σ H Q I h
 refine PySem.W.methodCall_KW (pl:=pl) (thn (he pins s σ H _ I h) λu s1 ⟨x,H1,I1,rx,a,dx,fs,ex,ea,l,q⟩=>?_) ht
 subst ex
 obtain rfl:u=Value.ref a:=rx
 refine nN I1 ea c hm l ?_
 refine PySem.W.callWith_K (first:=[.ref a]) (h₀:=X.base) I.ok.mod.kin hm.kp (thn (ha pos pins s1 σ H1 _ I1 q) λus s2 ⟨vs,H2,I2,r,q2⟩=>⟨I2.kIn,?_⟩) hst hpl
 exact ug (us:=.ref a::us) (vs:=.ref a::vs) F hr hb hd hx I2 (.cons rfl r) q2
structure Mk (K:PySem.W.Frag) (C f:Addr):Prop where
 makes:PySem.W.makesIn K C=true
 init:PySem.W.findIn K (.ref C) "__init__"=some (some (.ref f))
 fn:PySem.W.isFn K (.ref f)=true
 kp:PySem.W.keepIn K (.ref C)=true
theorem xN {pins:List (Addr×Obj)}{σ:St}{H:Hp}{s:Shared}{Q:VK}{us:List Value}{vs:List V}(M:Mk X.K C f)(F:FnOk X.prog X.w X.K X.mg X.base CX k f fd ps sp)(hr:Room (k+1) X.A)(hb:Binds X.K fd ps ds)(hd:Vals dvs ds)
  (hx:Passes CX X E) (I:Inv X pins σ H s) (r:Vals vs us)
  (h:∀ x dx,H x=none->H dx=none->dx≠x->sp (.ref x::(vs++dvs)) (upd (upd H dx (.own x)) x (.ins C dx [])) (λv H2=>v = .non/\Q (.ref x) H2) E) :
  wpAny (model X.prog X.w) X.A (call (.ref C) us) (EP X pins σ Q) X.xe s:=by
 have hq:=h (s.heap.objs.size+1) s.heap.objs.size (I.hok.fresh (Nat.le_succ _)) (I.hok.fresh (Nat.le_refl _)) (Nat.ne_of_lt (Nat.lt_succ_self _))
 have I2:=Inv.made (C:=C) I
 have r2:Vals (V.ref (s.heap.objs.size+1)::(vs++dvs)) (Value.ref (s.heap.objs.size+1)::(us++ds)):=.cons rfl (r.append hd)
 have hl:(Value.ref (s.heap.objs.size+1)::us++ds).length=ps.length:=by
  have e:=r2.length
  rw[F.len _ _ _ _ hq] at e
  exact e.symm
 refine wpAny_call (yy (f:=f) I.kIn M.makes M.init (beq_iff_eq.mp M.fn) (codeAny_mono (F.run _ X.stack _ _ ⟨Value.ref (s.heap.objs.size+1)::us,[]⟩ (Value.ref (s.heap.objs.size+1)::(us++ds)) _ _ E (hr.make C us [])
  (I2.env0.make C us []) (hb _ (Value.ref (s.heap.objs.size+1)::us) I2.kIn hl) r2 hq) λr s' hq'=>?_))
 cases r with
 |error e=>exact hx pins σ _ _ e s' I2 hq'
 |ok fl =>
  cases fl with
  |ret u =>
   obtain⟨v,H',I3,rv,ev,q3⟩:=I2.after hq'
   subst ev
   exact⟨rv,⟨V.ref (s.heap.objs.size+1),H',I3,rfl,q3⟩⟩
  |next=>exact False.elim hq'
  |brk=>exact False.elim hq'
  |cont=>exact False.elim hq'
theorem z7 (M:Mk X.K C f)(F:FnOk X.prog X.w X.K X.mg X.base CX k f fd ps sp)(hr:Room (k+1) X.A)(hg:Gl X x)(hm:X.mg x=some (.ref C))(hb:Binds X.K fd ps ds)(hd:Vals dvs ds)(hx:Passes CX X E)
  (ha:PA X (e::es) t) (hdb:(x==("__debug__":Str))=false:=by decide) (he:starEach (e::es) X.env=(false,eval e X.env)::starEach es X.env:=by rfl) (hpl:(backTo pos (starEach es X.env)).any (·.1)=false:=by rfl) :
  PE X (.Call (.Name x p) (e::es) [] pos) (CT C sp dvs E t):=by
 intro pins s σ H Q I h
 refine wpAny_Call_Name_kw (qw I hg hm ?_ hdb)
 refine PySem.W.callWith_K (h₀:=X.base) I.ok.mod.kin M.kp (thn (ha pos pins s σ H _ I h) λus s1 ⟨vs,H1,I1,r,q⟩=>⟨I1.kIn,?_⟩) he hpl
 exact xN M F hr hb hd hx I1 r q
end
section
variable {X:Cx}{CX:CXT}{k:Nat}{f C:Addr}{fd:FuncData}{ps ks:List Str}{sp:Sp}{E:XK}{x m:Str}{p pos apos kpos:Pos}{e o:Expr}{es:List Expr}{kws:List Keyword}{te ta:TE}{t tk:TA}{nm:Option Str}
structure KBinds (K:PySem.W.Frag) (fd:FuncData) (ps ks:List Str) (g:List Value->List Value->List Value) (gV:List V->List V->List V):Prop where
 to:∀ (s:Shared) (us ws:List Value),K.In s.heap->(g us ws).length=ps.length->BindsTo s fd ⟨us,ks.zip ws⟩ (ps.zip (g us ws))
 rel:∀ {vs:List V}{us:List Value}{zs:List V}{ws:List Value},Vals vs us->Vals zs ws->Vals (gV vs zs) (g us ws)
variable {g:List Value->List Value->List Value}{gV:List V->List V->List V}
end
structure FnScope (N P:List Str) (sc:Scope):Prop where
 kind:sc.kind = .function
 co:sc.isCoroutine=false
 gen:sc.isGenerator=false
 nd:N.Nodup
 pre:N.take P.length=P
 par:∀ x∈P,sc.names.lookup x=some .local∨sc.names.lookup x=some .cell
 nofree:∀ y∈sc.names,y.2≠.free
theorem pG {kindOf:Str->Option NameKind}{x:Str}:∀ {binds:List (Str×Value)}{m:Str->Option Value},(∀ v,(x,v)∉binds)->bindL kindOf binds m x=m x
 |[],_,_=>rfl
 |(n,v)::r,m,h=>by
  unfold bindL
  rw[pG λw hw=>h w (List.mem_cons_of_mem _ hw)]
  split
  ·have:x≠n:=by rintro rfl;exact h v List.mem_cons_self
   simp[this]
  ·rfl
theorem pI {kindOf:Str->Option NameKind}{x:Str}:∀ {binds:List (Str×Value)}{m:Str->Option Value},(∀ v,(x,v)∉binds)->bindC kindOf binds m x=m x
 |[],_,_=>rfl
 |(n,v)::r,m,h=>by
  unfold bindC
  rw[pI λw hw=>h w (List.mem_cons_of_mem _ hw)]
  split
  ·rfl
  ·have:x≠n:=by rintro rfl;exact h v List.mem_cons_self
   simp[this]
theorem pH {kindOf:Str->Option NameKind}{x:Str}{v:Value}:∀ {P:List Str}{vs:List Value}{i:Nat}{m:Str->Option Value},P.Nodup->P[i]?=some x->vs[i]?=some v->kindOf x=some .local ->
  bindL kindOf (P.zip vs) m x=some v
 |[],_,_,_,_,h,_,_=>by simp at h
 |_::_,[],_,_,_,_,h,_=>by simp at h
 |p::P,w::vs,0,m,nd,h1,h2,hk=>by
  simp at h1 h2;subst h1;subst h2
  show bindL kindOf ((p,w)::P.zip vs) m p=_
  unfold bindL
  rw[pG λv hv=>(List.nodup_cons.mp nd).1 (List.of_mem_zip hv).1,if_pos hk]
  simp
 |p::P,w::vs,i+1,m,nd,h1,h2,hk=>by
  show bindL kindOf ((p,w)::P.zip vs) m x=_
  unfold bindL
  exact pH (i:=i) (List.nodup_cons.mp nd).2 (by simpa using h1) (by simpa using h2) hk
theorem pJ {kindOf:Str->Option NameKind}{x:Str}{v:Value}:∀ {P:List Str}{vs:List Value}{i:Nat}{m:Str->Option Value},P.Nodup->P[i]?=some x->vs[i]?=some v->kindOf x≠some .local ->
  bindC kindOf (P.zip vs) m x=some v
 |[],_,_,_,_,h,_,_=>by simp at h
 |_::_,[],_,_,_,_,h,_=>by simp at h
 |p::P,w::vs,0,m,nd,h1,h2,hk=>by
  simp at h1 h2;subst h1;subst h2
  show bindC kindOf ((p,w)::P.zip vs) m p=_
  unfold bindC
  rw[pI λv hv=>(List.nodup_cons.mp nd).1 (List.of_mem_zip hv).1,if_neg hk]
  simp
 |p::P,w::vs,i+1,m,nd,h1,h2,hk=>by
  show bindC kindOf ((p,w)::P.zip vs) m x=_
  unfold bindC
  exact pJ (i:=i) (List.nodup_cons.mp nd).2 (by simpa using h1) (by simpa using h2) hk
def start (N:List Str)(vs:List V):St:=vs.map some++List.replicate (N.length-vs.length) none
def lq (CX:CXT)(P:Program)(w:World)(K:PySem.W.Frag)(mg:Str->Option Value)(base:Heap)(N:List Str)(qual:Str)(scope:Scope)(f:Addr)(cd:Value)(A:Around)(outer:List Env)(s:Shared)(H:Hp)(E:XK):Cx where
 prog:=P
 w:=w
 K:=K
 mg:=mg
 base:=base
 A:=A.deeper (envOfC qual scope s.heap.objs.size f cd)
 N:=N
 s₀:=s
 H₀:=H
 env:=envOfC qual scope s.heap.objs.size f cd
 outer:=outer
 stack:=envOfC qual scope s.heap.objs.size f cd::outer
 ex:=[]
 calm:=true
 fn:=λ_=>true
 pn:=[]
 xe:=λe s'=>wpAny (model P w) (A.deeper (envOfC qual scope s.heap.objs.size f cd)) (leaving (envOfC qual scope s.heap.objs.size f cd) e) (λ_ s''=>CX outer H s E e s'') (λe' s''=>CX outer H s E e' s'') s'
theorem sW {sc:Scope}{n:Nat}{x:Str}(h:sc.names.lookup x=some .cell):∃ c,(cellsFrom n sc.names []).lookup x=some c:=by
 have q:=PySem.W.cellsFrom_some sc.names n [] (.inl h)
 exact Option.isSome_iff_exists.mp q
theorem wX {CX:CXT}{P:Program}{w:World}{K:PySem.W.Frag}{mg:Str->Option Value}{base:Heap}{N ps:List Str}{qual:Str}{scope:Scope}{f:Addr}{cd:Value}{A:Around}{outer:List Env}{s s1:Shared}{H:Hp}{E:XK}{us:List Value}{vs:List V}
  (S:FnScope N ps scope) (hd:A.handled=none) (e0:Env0 P w K mg base A outer s H) (hl:vs.length=ps.length) (r:Vals vs us)
  (x:InCallC s s.heap.objs.size (bindL (envOfC qual scope s.heap.objs.size f cd).kindOf (ps.zip us) λ_=>none) (cellsFrom (s.heap.objs.size+1) scope.names []) (bindC (envOfC qual scope s.heap.objs.size f cd).kindOf (ps.zip us) λ_=>none) s1) :
  Inv (lq CX P w K mg base N qual scope f cd A outer s H E) [] (start N vs) H s1:=by
 have hpl:ps.length<=N.length:=by have:=congrArg List.length S.pre;rw[List.length_take] at this;omega
 obtain⟨h1,tk,rfl,hk⟩:=x.done
 have noA:∀ b:Addr,b∉(lq CX P w K mg base N qual scope f cd A outer s H E).ex:=λb z=>absurd (show b∈([]:List Addr) from z) (by simp)
 refine⟨⟨e0.mod,S.kind,rfl,rfl,Nat.le_refl _,λy z c h1 h2=>?_,λy hy=>?_,λy c _ h=>?_,λ_=>hd,Around.frames_deeper e0.frames,.inr ⟨rfl,rfl⟩,λb z=>absurd z (noA b),e0.bs,e0.bsz,λb _ _=>noA b,λb z=>absurd z (noA b),e0.funs,e0.frf⟩,
  rfl,e0.bare,Un.kept hk,⟨_,x.toInCall.ns,λi y v h1 h2 h3=>?_⟩,λy c h=>⟨_,x.cell y c h⟩,e0.hok.fresh (Nat.le_refl _),λy c h=>?_,λp hp=>absurd (show p∈([]:List (Addr×Obj)) from hp) (by simp),e0.hok.kept hk,?_⟩
 ·exact name_of_addr x.apart (PySem.mem_of_lookup h1) (PySem.mem_of_lookup h2)
 ·have hy:scope.names.lookup y=some .cell∨scope.names.lookup y=some .free:=hy
  rcases hy with hy |hy
  ·exact sW hy
  ·exact absurd rfl (S.nofree _ (PySem.mem_of_lookup hy))
 ·exact Nat.le_of_lt (x.above y c (PySem.mem_of_lookup h))
 ·have hi:i<vs.length:=by
   unfold start at h2
   by_cases hi:i<vs.length
   ·exact hi
   ·rw[List.getElem?_append_right (by simpa using hi)] at h2
    rw[List.getElem?_replicate] at h2
    split at h2<;>cases h2
  have ha:vs[i]?=some v:=by
   unfold start at h2
   rw[List.getElem?_append_left (by simpa using hi),List.getElem?_map] at h2
   cases e:vs[i]? with
   |none=>rw[e] at h2;cases h2
   |some a=>rw[e] at h2;cases h2;rfl
  obtain⟨u,hu,rv⟩:=r.get ha
  have hp:ps[i]?=some y:=by
   rw[← S.pre,List.getElem?_take_of_lt (by omega)];exact h1
  have ndP:ps.Nodup:=by rw[← S.pre];exact S.nd.sublist (List.take_sublist _ _)
  refine⟨u,rv,?_⟩
  rcases S.par y (List.mem_of_getElem? hp) with k |k
  ·exact .inl ⟨k,pH ndP hp hu k⟩
  ·obtain⟨c,e⟩:=sW (n:=s.heap.objs.size+1) k
   refine .inr ⟨.inl k,c,e,?_⟩
   have q:=x.cell y c e
   rw[pJ ndP hp hu (by show scope.names.lookup y≠_;rw[k];decide)] at q
   exact q
 ·exact e0.hok.fresh (Nat.le_of_lt (x.above y c (PySem.mem_of_lookup h)))
 ·unfold start
  show _=N.length
  rw[List.length_append,List.length_map,List.length_replicate]
  omega
theorem Dx {CX:CXT}{P:Program}{w:World}{K:PySem.W.Frag}{mg:Str->Option Value}{base:Heap}{k:Nat}{f:Addr}{name qual:Str}{params:Arguments}{body:List Stmt}{scope:Scope}{dV kV doc pm cdv ct oc:Value}{an od:Option Addr}
  {osl:Array (Option Value)}{N ps:List Str}{sp:Sp}(lk:K.lookup f=some ⟨oc,od,.func (PySem.W.fnOf name qual params body scope dV kV doc pm an cdv ct),osl⟩) (hcd:PySem.W.codeIn K cdv qual=true) (S:FnScope N ps scope)
  (len:∀ vs H Q E,sp vs H Q E->vs.length=ps.length)
  (hbody:∀ (A:Around) (outer:List Env) (s:Shared) (H:Hp) (vs:List V) (Q:VK) (E:XK),Room k (A.deeper (envOfC qual scope s.heap.objs.size f cdv))->sp vs H Q E ->
   ∃ t,PSs (lq CX P w K mg base N qual scope f cdv A outer s H E) body t/\t { nx:=λ_ H'=>Q .non H',rt:=Q } (start N vs) H) :
  FnOk P w K mg base CX (k+1) f (PySem.W.fnOf name qual params body scope dV kV doc pm an cdv ct) ps sp:=by
 refine⟨len,λA outer s H args us vs Q E hr e0 hb r hsp=>?_⟩
 have hl:=len _ _ _ _ hsp
 have KX:K.In s.heap:=e0.mod.kin.keeps λb o e=>(e0.bs b o e).1
 have lim:s.heap.NoLimit:=e0.mod.nolimit.keeps λb o e=>(e0.bs b o e).1
 have hkind:∀ y∈ps.zip us,scope.names.lookup y.1=some .local∨(scope.names.lookup y.1=some .cell/\((cellsFrom (s.heap.objs.size+1) scope.names []).lookup y.1).isSome=true):=λ⟨n,v⟩ hy=>by
  rcases S.par n (List.of_mem_zip hy).1 with q |q
  ·exact .inl q
  ·exact .inr ⟨q,PySem.W.cellsFrom_some _ _ _ (.inl q)⟩
 refine codeAny_call_function hr.depth (KX _ _ lk) rfl S.co S.gen rfl (PySem.W.codeRec_of KX hcd) (hb _ _ _ _ ?_)
 refine wpAny_newFunctionEnv_cells S.kind hkind λenv he s1 x=>?_
 subst he
 refine⟨lim.keeps x.toInCall.keep,codeAny_func ?_⟩
 obtain⟨t,ht,hq⟩:=hbody A outer s H vs Q E (hr.deeper _) hsp
 have I:Inv (lq CX P w K mg base N qual scope f cdv A outer s H E) [] (start N vs) H s1:=wX S hr.hd e0 hl r x
 refine wpAny_mono (ht [] s1 (start N vs) H _ I hq) (λfl s' hs=>?_) λe s' hs=>hs
 have fin:∀ {σ':St}{H':Hp}{v:V}{u:Value},Inv (lq CX P w K mg base N qual scope f cdv A outer s H E) [] σ' H' s'->RelV v u->Q v H'->CE outer P w H s Q u s':=
  λ{σ' H' v u} J rv q=>⟨v,H',J.os,J.bare,J.base,J.hok,rv,q⟩
 cases fl with
 |ret u =>
  obtain⟨v,σ',H',J,rv,q⟩:=hs
  exact fin J rv q
 |next =>
  obtain⟨σ',H',J,q⟩:=hs
  exact fin (v:=V.non) (u:=Value.none) J rfl q
 |brk =>
  obtain⟨_,_,_,q⟩:=hs
  exact False.elim q
 |cont =>
  obtain⟨_,_,_,q⟩:=hs
  exact False.elim q
section
variable {X:Cx}{x:Str}{p pos:Pos}{e:Expr}{es:List Expr}{t:TA}{id T:String}{r:List V->Hp->VK->Prop}
def tCB (r:List V->Hp->VK->Prop)(t:TA):TE:=λσ H Q=>t σ H λvs H1=>r vs H1 Q
theorem ku (hc:CallR X (.builtin id) r)(hg:Gl X x)(hm:X.mg x=none)(hv:bootBuiltins x=some (.builtin id))(ha:PA X (e::es) t)(hn:x≠"__name__":=by decide)(hdb:(x==("__debug__":Str))=false:=by decide)
  (he:starEach (e::es) X.env=(false,eval e X.env)::starEach es X.env:=by rfl) (hpl:(backTo pos (starEach es X.env)).any (·.1)=false:=by rfl):PE X (.Call (.Name x p) (e::es) [] pos) (tCB r t):=by
 intro pins s σ H Q I h
 refine wpAny_Call_Name_kw (lg I hg hm hv ?_ hn hdb)
 exact PyProof.Rows.callWith_builtin1 (thn (ha pos pins s σ H _ I h) λus s1 ⟨vs,H1,I1,r1,q1⟩=>hc pins s1 σ H1 vs us Q I1 r1 q1) he hpl
theorem lc (hc:CallR X (.type T) r)(hg:Gl X x)(hm:X.mg x=none)(hv:bootBuiltins x=some (.type T))(ha:PA X (e::es) t)(hn:x≠"__name__":=by decide)(hdb:(x==("__debug__":Str))=false:=by decide)
  (he:starEach (e::es) X.env=(false,eval e X.env)::starEach es X.env:=by rfl) (hpl:(backTo pos (starEach es X.env)).any (·.1)=false:=by rfl):PE X (.Call (.Name x p) (e::es) [] pos) (tCB r t):=by
 intro pins s σ H Q I h
 refine wpAny_Call_Name_kw (lg I hg hm hv ?_ hn hdb)
 exact PyProof.Rows.callWith_type1 (thn (ha pos pins s σ H _ I h) λus s1 ⟨vs,H1,I1,r1,q1⟩=>hc pins s1 σ H1 vs us Q I1 r1 q1) he hpl
end
section
variable {κ:Type} [DecidableEq κ]
def j6 (kvs:List (κ×V))(k : κ):Option V:=(kvs.find? λkv=>decide (kv.1=k)).map (·.2)
def putK (kvs:List (κ×V))(k : κ)(v:V):List (κ×V):=
 if (kvs.any λkv=>decide (kv.1=k))=true then kvs.map (λkv=>if kv.1=k then (kv.1,v) else kv) else kvs++[(k,v)]
theorem mT {p : κ×V}{r:List (κ×V)}{k : κ}(e:p.1=k):j6 (p::r) k=some p.2:=by simp[j6,List.find?_cons,e]
theorem mU {p : κ×V}{r:List (κ×V)}{k : κ}(e:¬ p.1=k):j6 (p::r) k=j6 r k:=by simp[j6,List.find?_cons,e]
theorem rB (k : κ):∀ kvs:List (κ×V),(kvs.any λkv=>decide (kv.1=k))=(j6 kvs k).isSome
 |[]=>rfl
 |p::r=>by
  rw[List.any_cons]
  by_cases e:p.1=k
  ·simp only[mT e,decide_eq_true e,Bool.true_or,Option.isSome_some]
  ·rw[mU e,decide_eq_false e,Bool.false_or];exact rB k r
theorem l0 (kvs:List (κ×V))(k : κ)(v:V):(putK kvs k v).length<=kvs.length+1:=by
 unfold putK
 split
 ·rw[List.length_map];omega
 ·rw[List.length_append,List.length_cons,List.length_nil];omega
theorem RelO.isSome_eq {o:Option V}{u:Option Value}(r:RelO o u):o.isSome=u.isSome:=by
 cases o with
 |none=>cases u with
  |none=>rfl
  |some _=>exact (show False from r).elim
 |some _=>cases u with
  |none=>exact (show False from r).elim
  |some _=>rfl
theorem KV.val {kvs:List (κ×V)}{vs:List (κ×Value)}(r:KV kvs vs)(k : κ):RelO (j6 kvs k) (valueAt vs k):=by
 unfold KV at r
 induction r with
 |nil=>exact True.intro
 | @cons p q ps qs h t ih =>
  obtain⟨h1,h2⟩:=h
  by_cases e:p.1=k
  ·have e':q.1=k:=h1.symm.trans e
   have b:valueAt (q::qs) k=some q.2:=by simp[valueAt,List.find?_cons,e']
   rw[mT e,b];exact h2
  ·have e':¬ q.1=k:=λz=>e (h1.trans z)
   have b:valueAt (q::qs) k=valueAt qs k:=by simp[valueAt,List.find?_cons,e']
   rw[mU e,b];exact ih
theorem KV.any {kvs:List (κ×V)}{vs:List (κ×Value)}(r:KV kvs vs)(k : κ):(kvs.any λkv=>decide (kv.1=k))=vs.any λkv=>decide (kv.1=k):=by
 unfold KV at r
 induction r with
 |nil=>rfl
 |cons h t ih=>rw[List.any_cons,List.any_cons,ih,h.1]
theorem KV.repl {kvs:List (κ×V)}{vs:List (κ×Value)}(r:KV kvs vs)(k : κ){y:V}{u:Value}(ry:RelV y u) :
  KV (kvs.map λkv=>if kv.1=k then (kv.1,y) else kv) (vs.map λkv=>if kv.1=k then (kv.1,u) else kv):=by
 unfold KV at r ⊢
 induction r with
 |nil=>exact .nil
 | @cons p q ps qs h t ih =>
  rw[List.map_cons,List.map_cons]
  refine .cons ?_ ih
  obtain⟨h1,h2⟩:=h
  by_cases e:p.1=k
  ·rw[if_pos e,if_pos (h1.symm.trans e)];exact⟨h1,ry⟩
  ·rw[if_neg e,if_neg (λz=>e (h1.trans z))];exact⟨h1,h2⟩
theorem KV.put {kvs:List (κ×V)}{vs:List (κ×Value)}(r:KV kvs vs)(k : κ){y:V}{u:Value}(ry:RelV y u):KV (putK kvs k y) (stored vs k u):=by
 unfold putK stored
 rw[r.any k]
 by_cases e:(vs.any λkv=>decide (kv.1=k))=true
 ·rw[if_pos e,if_pos e];exact r.repl k ry
 ·rw[if_neg e,if_neg e];exact Paired.snoc r ⟨rfl,ry⟩
theorem KV.length {kvs:List (κ×V)}{vs:List (κ×Value)}(r:KV kvs vs):kvs.length=vs.length:=Paired.length r
end
theorem nK {P:Program}{w:World}{k:Key}{u:Value}(r:RelV (kV k) u):(bq P w).is k u=true:=by
 cases k with
 |inl i=>obtain⟨t,e⟩:=(show ∃ t,u=Value.int i t from r);subst e;exact sk P w i t
 |inr x=>obtain⟨t,e⟩:=(show ∃ t,u=Value.str x t from r);subst e;exact sj P w x t
theorem o6 {P:Program}{w:World}:∀ {ks:List Key}{us:List Value},Vals (ks.map kV) us->ItemsAre (bq P w) ks us
 |[],_,r=>by rw[List.map_nil] at r;cases r;exact .nil
 |k::ks,_,r=>by
  rw[List.map_cons] at r
  cases r with
  |cons h t=>exact .cons (nK h) (o6 t)
abbrev KT (H:Hp):List (List Key×V)->List (List Key×Addr×Value)->Prop:=Paired λp q=>p.1=q.1/\H q.2.1=some (.tup (p.1.map kV))/\RelV p.2 q.2.2
theorem KT.val {H:Hp}{kvs:List (List Key×V)}{xs:List (List Key×Addr×Value)}(r:KT H kvs xs)(k:List Key):RelO (j6 kvs k) ((atKey xs k).map (·.2)):=by
 induction r with
 |nil=>exact True.intro
 | @cons p q ps qs h t ih =>
  obtain⟨h1,_,h2⟩:=h
  by_cases e:p.1=k
  ·have e':q.1=k:=h1.symm.trans e
   have b:atKey (q::qs) k=some q.2:=by simp[atKey,List.find?_cons,e']
   rw[mT e,b];exact h2
  ·have e':¬ q.1=k:=λz=>e (h1.trans z)
   have b:atKey (q::qs) k=atKey qs k:=by simp[atKey,List.find?_cons,e']
   rw[mU e,b];exact ih
theorem KT.repl {H:Hp}{kvs:List (List Key×V)}{xs:List (List Key×Addr×Value)}(r:KT H kvs xs)(k:List Key){y:V}{u:Value}(ry:RelV y u) :
  KT H (kvs.map λkv=>if kv.1=k then (kv.1,y) else kv) (xs.map (putAt k u)):=by
 induction r with
 |nil=>exact .nil
 | @cons p q ps qs h t ih =>
  rw[List.map_cons,List.map_cons]
  refine .cons ?_ ih
  obtain⟨h1,h2,h3⟩:=h
  unfold putAt
  by_cases e:p.1=k
  ·rw[if_pos e,if_pos (h1.symm.trans e)];exact⟨h1,h2,ry⟩
  ·rw[if_neg e,if_neg (λz=>e (h1.trans z))];exact⟨h1,h2,h3⟩
theorem KT.put {H:Hp}{kvs:List (List Key×V)}{xs:List (List Key×Addr×Value)}(r:KT H kvs xs)(k:List Key){b:Addr}{y:V}{u:Value}(hb:H b=some (.tup (k.map kV)))(ry:RelV y u) :
  KT H (putK kvs k y) (storedH xs k b u):=by
 have e:(kvs.any λkv=>decide (kv.1=k))=(atKey xs k).isSome:=by
  rw[rB,(r.val k).isSome_eq,Option.isSome_map]
 unfold putK storedH
 rw[e]
 by_cases q:(atKey xs k).isSome=true
 ·rw[if_pos q,if_pos q];exact r.repl k ry
 ·rw[if_neg q,if_neg q];exact Paired.snoc r ⟨rfl,hb,ry⟩
theorem KT.keeps {H H':Hp}{kvs:List (List Key×V)}{xs:List (List Key×Addr×Value)}(r:KT H kvs xs)(ht:∀ b ys,H b=some (.tup ys)->H' b=some (.tup ys)):KT H' kvs xs:=
 Paired.mapP r λ_ _ z=>⟨z.1,ht _ _ z.2.1,z.2.2⟩
section
variable {P:Program}{w:World}{H:Hp}{h:Heap}{a:Addr}
theorem AZ {u:HO}(ok:HOk P w H h)(e:Rd H a u):ObjOk P w H h a u:=e.ok ok
theorem sR {kvs:List (Key×V)}(ok:HOk P w H h)(e:Rd H a (.dK kvs)):kvs.length<=sizeLine/\(a==sysModules)=false/\∃ vs,KV kvs vs/\h.DictOf (bq P w) a vs:=
 show ObjOk P w H h a (.dK kvs) from AZ ok e
theorem DE {kvs:List (Key×V)}(ok:HOk P w H h)(e:H a=some (.dK kvs)):kvs.length<=sizeLine/\(a==sysModules)=false/\∃ vs,KV kvs vs/\h.DictOf (bq P w) a vs:=sR ok (.inl e)
theorem nJ {ks:List Key}(ok:HOk P w H h)(e:H a=some (.tup (ks.map kV))):(tupleKind (bq P w)).is h ks a:=by
 obtain⟨_,its,r,p⟩:=(show ObjOk P w H h a (.tup (ks.map kV)) from ok a _ e)
 obtain⟨o,h1,h2,n,h3⟩:=p.tup
 exact⟨o,its.toArray,n,h1,h2,h3,by simpa using o6 r⟩
theorem sQ {kvs:List (List Key×V)}(ok:HOk P w H h)(e:Rd H a (.dT kvs)):kvs.length<=sizeLine/\(a==sysModules)=false /\
  ∃ xs,KT H kvs xs/\h.DictOfH (tupleKind (bq P w)) a xs:=by
 obtain⟨z,y,xs,r,o,es,ep,h1,h2,h3,h4,h5⟩:=(show ObjOk P w H h a (.dT kvs) from AZ ok e)
 refine⟨z,y,xs,r,o,es,ep,h1,h2,h3,h4,λx hx=>?_,h5⟩
 have all:∀ {l:List (List Key×V)}{m:List (List Key×Addr×Value)},KT H l m->∀ x∈m,(tupleKind (bq P w)).is h x.1 x.2.1:=by
  intro l m q
  induction q with
  |nil=>intro x hx;exact nomatch hx
  | @cons p q ps qs hq t ih =>
   intro x hx
   rcases List.mem_cons.mp hx with e |hx
   ·subst e
    exact nJ ok (by rw[← hq.1];exact hq.2.1)
   ·exact ih x hx
 exact all r x hx
theorem DD {kvs:List (List Key×V)}(ok:HOk P w H h)(e:H a=some (.dT kvs)):kvs.length<=sizeLine/\(a==sysModules)=false /\
  ∃ xs,KT H kvs xs/\h.DictOfH (tupleKind (bq P w)) a xs:=sQ ok (.inl e)
end
def DGet (H:Hp)(a:Addr)(y:V)(r:Option V):Prop:=
 (∃ kvs k,Rd H a (.dK kvs)/\y=kV k/\r=j6 kvs k)∨∃ kvs k b,Rd H a (.dT kvs)/\y = .ref b/\H b=some (.tup (k.map kV))/\r=j6 kvs k
def DPut (H:Hp)(a:Addr)(y v:V)(H':Hp):Prop:=
 (∃ kvs k,H a=some (.dK kvs)/\y=kV k/\kvs.length<sizeLine/\H'=upd H a (.dK (putK kvs k v))) ∨
 ∃ kvs k b,H a=some (.dT kvs)/\y = .ref b/\H b=some (.tup (k.map kV))/\kvs.length<sizeLine/\H'=upd H a (.dT (putK kvs k v))
theorem DGet.k {H:Hp}{a:Addr}{kvs:List (Key×V)}{k:Key}(e:H a=some (.dK kvs)):DGet H a (kV k) (j6 kvs k):=.inl ⟨kvs,k,.inl e,rfl,rfl⟩
theorem DPut.k {H:Hp}{a:Addr}{kvs:List (Key×V)}{k:Key}{v:V}(e:H a=some (.dK kvs))(hl:kvs.length<sizeLine):DPut H a (kV k) v (upd H a (.dK (putK kvs k v))):=.inl ⟨kvs,k,e,rfl,hl,rfl⟩
section
variable {X:Cx}{pins:List (Addr×Obj)}{σ:St}{H:Hp}{s:Shared}{a:Addr}{y v:V}{u r:Value}{o:Option V}{A:Around}{E:Value->Shared->Prop}
theorem Inv.big (I:Inv X pins σ H s):sysModules<s.heap.objs.size:=by
 have h:mainGlobals<s.heap.objs.size:=(I.mod.glob.keeps I.bk).lt
 exact Nat.lt_trans (by decide) h
theorem xf {Q:Value->Shared->Prop}(hu:A.units+1<cLine)(I:Inv X pins σ H s)(g:DGet H a y (some v))(ry:RelV y u)(h:∀ w' s',Inv X pins σ H s'->RelV v w'->Q w' s') :
  wpAny (model X.prog X.w) A (getItem (.ref a) u) Q E s:=by
 rcases g with ⟨kvs,k,e,ey,l⟩ |⟨kvs,k,b,e,ey,eb,l⟩
 ·subst ey
  obtain⟨z,hd,vs,rel,dd⟩:=sR I.hok e
  obtain⟨w',hw,rw'⟩:=RelO.some_of (v:=v) (o:=valueAt vs k) (by rw[l];exact rel.val k)
  exact wpAny_getItem_of (nK ry) dd.mapOf hw (h w' _ (I.tok _) rw')
 ·subst ey
  cases (show u=Value.ref b from ry)
  obtain⟨z,hd,xs,rel,dd⟩:=sQ I.hok e
  obtain⟨w',hw,rw'⟩:=RelO.some_of (v:=v) (o:=(atKey xs k).map (·.2)) (by rw[l];exact rel.val k)
  obtain⟨p,hp,hp2⟩:=Option.map_eq_some_iff.mp hw
  refine wpAny_getItem_heap (tupleKind_room_in1 hu) (nJ I.hok eb) dd hp ?_
  rw[hp2]
  exact h w' _ (I.tok _) rw'
theorem ED {Q:Value->Shared->Prop}(hu:A.units+1<cLine)(I:Inv X pins σ H s)(g:DGet H a y o)(ry:RelV y u)(h:∀ s',Inv X pins σ H s'->Q (.bool o.isSome) s') :
  wpAny (model X.prog X.w) A (compareOp .In u (.ref a)) Q E s:=by
 rcases g with ⟨kvs,k,e,ey,l⟩ |⟨kvs,k,b,e,ey,eb,l⟩
 ·subst ey
  obtain⟨z,hd,vs,rel,dd⟩:=sR I.hok e
  refine wpAny_in_of (nK ry) hd dd.mapOf ?_
  rw[← (rel.val k).isSome_eq,← l]
  exact h _ (I.tok _)
 ·subst ey
  cases (show u=Value.ref b from ry)
  obtain⟨z,hd,xs,rel,dd⟩:=sQ I.hok e
  refine wpAny_in_heap (tupleKind_room_in1 hu) (nJ I.hok eb) hd dd ?_
  have q:=(rel.val k).isSome_eq
  rw[Option.isSome_map] at q
  rw[← q,← l]
  exact h _ (I.tok _)
theorem AC {Q:Value->Shared->Prop}(hu:A.units+1<cLine)(I:Inv X pins σ H s)(g:DGet H a y o)(ry:RelV y u)(h:∀ s',Inv X pins σ H s'->Q (.bool (!o.isSome)) s') :
  wpAny (model X.prog X.w) A (compareOp .NotIn u (.ref a)) Q E s:=by
 rcases g with ⟨kvs,k,e,ey,l⟩ |⟨kvs,k,b,e,ey,eb,l⟩
 ·subst ey
  obtain⟨z,hd,vs,rel,dd⟩:=sR I.hok e
  refine wpAny_notIn_of (nK ry) hd dd.mapOf ?_
  rw[← (rel.val k).isSome_eq,← l]
  exact h _ (I.tok _)
 ·subst ey
  cases (show u=Value.ref b from ry)
  obtain⟨z,hd,xs,rel,dd⟩:=sQ I.hok e
  refine wpAny_notIn_heap (tupleKind_room_in1 hu) (nJ I.hok eb) hd dd ?_
  have q:=(rel.val k).isSome_eq
  rw[Option.isSome_map] at q
  rw[← q,← l]
  exact h _ (I.tok _)
theorem qO {h':Heap}{t':Nat}{ob:HO}(I:Inv X pins σ H s)(mu:Mut (H a))(hs:Heap.SameBut a s.heap h')(he:∃ q,h'.get? a=some q)(new:ObjOk X.prog X.w (upd H a ob) h' a ob) :
  Inv X pins σ (upd H a ob) { s with heap:=h',toks:=t' }:=
 I.write (x:=a) (e:=a) mu (.inl rfl) (λb q hb z=>(hs.2 b hb).trans z) he new
theorem Cs {P:Program}{w:World}{H':Hp}{h':Heap}{kvs:List (Key×V)}{vs:List (Key×Value)}(z:kvs.length<=sizeLine)(hd:(a==sysModules)=false)(rel:KV kvs vs)(dd:h'.DictOf (bq P w) a vs) :
  ObjOk P w H' h' a (.dK kvs):=⟨z,hd,vs,rel,dd⟩
theorem xc {H':Hp}{Q:Unit->Shared->Prop}(hu:A.units+1<cLine)(I:Inv X pins σ H s)(g:DPut H a y v H')(ry:RelV y u)(rv:RelV v r)(h:∀ s',Inv X pins σ H' s'->Q () s') :
  wpAny (model X.prog X.w) A (setItem (.ref a) u r) Q E s:=by
 rcases g with ⟨kvs,k,e,ey,l,eH⟩ |⟨kvs,k,b,e,ey,eb,l,eH⟩
 ·subst ey eH
  obtain⟨z,hd,vs,rel,dd⟩:=DE I.hok e
  have hz:vs.length<=sizeLine:=by rw[← rel.length];exact z
  have hl:(putK kvs k v).length<=sizeLine:=by have:=l0 kvs k v;omega
  refine wpAny_setItem_pairs (hsz:=hz) (nK ry) dd λh' dd' hs=>h _ ?_
  have he:∃ q,h'.get? a=some q:=let ⟨q,_,_,hq,_⟩:=dd';⟨q,hq⟩
  exact qO I (by rw[e];exact True.intro) hs he (Cs hl hd (rel.put k rv) dd')
 ·subst ey eH
  cases (show u=Value.ref b from ry)
  obtain⟨z,hd,xs,rel,dd⟩:=DD I.hok e
  have hz:xs.length<=sizeLine:=by rw[← Paired.length rel];exact z
  have hl:(putK kvs k v).length<=sizeLine:=by have:=l0 kvs k v;omega
  refine wpAny_setItem_heap (hsz:=hz) (tupleKind_room_in1 hu) (nJ I.hok eb) dd λh' dd' hs=>h _ ?_
  obtain⟨q,es,ep,hq,h2,h3,h4,_,h5⟩:=dd'
  refine qO I (by rw[e];exact True.intro) hs ⟨q,hq⟩ ⟨hl,hd,_,(rel.put k eb rv).keeps λc ys ec=>?_,q,es,ep,hq,h2,h3,h4,h5⟩
  rw[aF (Dl ec e (λz=>nomatch z))]
  exact ec
end
def xo (i:Expr):Prop:=∀ ov iv,subscripted i false ov iv=operate [ov,iv] (getItem ov iv)
theorem u3 {prog:Program}{w:World}{A:Around}{E:Value->Shared->Prop}{s:Shared}{env:Env}{value slice:Expr}{pos:Pos}{T id:String}{Q:Value->Shared->Prop}
  (hl:typeLookup (.type T) "__getitem__"=pure (some (.builtin id))) (hs:xo slice)
  (h:wpAny (model prog w) A (eval value env) (λo s₁=>wpAny (model prog w) A (eval slice env) (λi s₂=>s₂.TypeIs o T/\wpAny (model prog w) A (getItem o i) Q E s₂) E s₁) E s) :
  wpAny (model prog w) A (eval (.Subscript value slice pos) env) Q E s:=by
 refine Subscript_ (wpAny_mono h (λo s₁ h₁=>wpAny_mono h₁ (λi s₂ h₂=>?_) λ_ _ x=>x) λ_ _ x=>x)
 obtain⟨hT,h₂⟩:=h₂
 unfold subscriptTail
 refine wpAny_bind ?_
 rw[getitemInPython_of_ne hT.not_modules]
 refine wpAny_bind (wpAny_specialOf hT hl ?_)
 have fin:wpAny (model prog w) A (subscripted slice false o i) (λr s₃=>wpAny (model prog w) A (letTemporaryGo value o r >>= λ_=>pure r) Q E s₃) E s₂:=by
  rw[hs o i]
  exact wpAny_operating (wpAny_mono h₂ (λr s₃ h₃=>wpAny_bind (wpAny_letTemporaryGo (wpAny_pure h₃))) λ_ _ x=>x)
 first
  |exact wpAny_pure (wpAny_bind fin)
  |exact wpAny_bind (wpAny_pure (wpAny_bind fin))
  |exact wpAny_bind fin
theorem sS {X:Cx}{pins:List (Addr×Obj)}{σ:St}{H:Hp}{s:Shared}{a:Addr}{y:V}{o:Option V}(I:Inv X pins σ H s)(g:DGet H a y o):s.TypeIs (.ref a) "dict":=by
 rcases g with ⟨kvs,k,e,_,_⟩ |⟨kvs,k,b,e,_,_,_⟩
 ·obtain⟨_,_,vs,_,dd⟩:=sR I.hok e
  exact dd.typeIs
 ·obtain⟨_,_,xs,_,dd⟩:=sQ I.hok e
  exact dd.typeIs
def CW (td ty:TE):TE:=λσ H Q=>td σ H λx H1=>ty σ H1 λy H2 => ∃ a v,x = .ref a/\DGet H2 a y (some v)/\Q v H2
def CV (ty td:TE):TE:=λσ H Q=>ty σ H λy H1=>td σ H1 λx H2 => ∃ a o,x = .ref a/\DGet H2 a y o/\Q (.bl o.isSome) H2
def uY (ty td:TE):TE:=λσ H Q=>ty σ H λy H1=>td σ H1 λx H2 => ∃ a o,x = .ref a/\DGet H2 a y o/\Q (.bl (!o.isSome)) H2
def C5 (td ty tv:TE):TS:=λD σ H=>tv σ H λv H1=>td σ H1 λx H2=>ty σ H2 λy H3 => ∃ a H4,x = .ref a/\DPut H3 a y v H4/\D.nx σ H4
section
variable {X:Cx}{o i e value:Expr}{pos pos' tpos:Pos}{td ty tv:TE}
theorem z9 (hu:X.A.units+1<cLine)(ho:PE X o td)(hi:PE X i ty)(hs:xo i):PE X (.Subscript o i pos) (CW td ty):=by
 intro pins s σ H Q I h
 refine u3 PySem.F.slot_dict_getitem.lookup hs (thn (ho pins s σ H _ I h) λu s1 ⟨x,H1,I1,rx,q1⟩=>thn (hi pins s1 σ H1 _ I1 q1) λiv s2 ⟨y,H2,I2,ry,a,v,ex,g,q2⟩=>?_)
 subst ex
 obtain rfl:u=Value.ref a:=rx
 exact⟨sS I2 g,xf hu I2 g ry λw' s3 I3 rw'=>⟨v,H2,I3,rw',q2⟩⟩
theorem ya (hu:X.A.units+1<cLine)(hi:PE X i ty)(ho:PE X o td):PC X .In i o (CV ty td):=by
 intro pins s σ H Q I h
 refine thn (hi pins s σ H _ I h) λiv s1 ⟨y,H1,I1,ry,q1⟩=>thn (ho pins s1 σ H1 _ I1 q1) λu s2 ⟨x,H2,I2,rx,a,ov,ex,g,q2⟩=>?_
 subst ex
 obtain rfl:u=Value.ref a:=rx
 exact ED hu I2 g ry λs3 I3=>⟨.bl ov.isSome,H2,I3,rfl,q2⟩
theorem wF (hu:X.A.units+1<cLine)(hi:PE X i ty)(ho:PE X o td):PC X .NotIn i o (uY ty td):=by
 intro pins s σ H Q I h
 refine thn (hi pins s σ H _ I h) λiv s1 ⟨y,H1,I1,ry,q1⟩=>thn (ho pins s1 σ H1 _ I1 q1) λu s2 ⟨x,H2,I2,rx,a,ov,ex,g,q2⟩=>?_
 subst ex
 obtain rfl:u=Value.ref a:=rx
 exact AC hu I2 g ry λs3 I3=>⟨.bl (!ov.isSome),H2,I3,rfl,q2⟩
theorem zU (hu:X.A.units+1<cLine)(ho:PE X o td)(hi:PE X i ty)(hv:PE X value tv)(hs:swapsWith value (some (.Subscript o i pos')) pos.line X.env=pure false) :
  PS X (.Assign [.Subscript o i pos'] value pos) (C5 td ty tv):=by
 intro pins s σ H D I h
 refine wpAny_Assign_Subscript (thn (hv pins s σ H _ I h) λr s1 ⟨v,H1,I1,rv,q1⟩=>thn (ho pins s1 σ H1 _ I1 q1) λu s2 ⟨x,H2,I2,rx,q2⟩=>thn (hi pins s2 σ H2 _ I2 q2) λiv s3 ⟨y,H3,I3,ry,a,H4,ex,g,q3⟩=>?_) hs
 subst ex
 obtain rfl:u=Value.ref a:=rx
 exact xc hu I3 g ry rv λs4 I4=>⟨σ,H4,I4,q3⟩
end
theorem yX {P:Program}{w:World}{H:Hp}(h:Heap)(hb:sysModules<h.objs.size):ObjOk P w H (h.push { cls:=.type "dict",data:=.dict #[] }) h.objs.size (.dK []):=
 ⟨Nat.zero_le _,beq_eq_false_iff_ne.mpr (Ne.symm (Nat.ne_of_lt hb)),[],.nil,Heap.DictOf.new h⟩
def Bo:TE:=λ_ H Q => ∀ p,H p=none->Q (.ref p) (upd H p (.dK []))
section
variable {X:Cx}{pos:Pos}
theorem pe_dnewK:PE X (.Dict [] [] pos) Bo:=λpins s σ H Q I h =>
 wpAny_Dict_empty ⟨.ref s.heap.objs.size,_,I.laid (a:=s.heap.objs.size) (o:=.dK []) (t':=s.toks) (λ_ _ q=>Heap.get?_push_of_some _ q) (Nat.le_refl _) (yX s.heap I.big),rfl,h _ (I.hok.fresh (Nat.le_refl _))⟩
end
structure M1 (X:Cx) (o:Expr) (m:Str) (apos:Pos) (e:Expr) (cpos:Pos):Prop where
 base:attributeBase o m X.env (eval o X.env)=eval o X.env
 few:((backTo cpos (starEach [e] X.env)).all (λx => !x.1)&&(backToKw cpos (keywordEach [] X.env)).all (λx=>x.1.isSome)
  && decide (([e]:List Expr).length+([]:List Keyword).length+(if ([]:List Keyword).isEmpty then 0 else 1)<30))=true
 line:(apos.endLine==cpos.line)=true
 trees:backTo cpos (starEach [e] X.env)=[(false,eval e X.env)]
structure M2 (X:Cx) (o:Expr) (m:Str) (apos:Pos) (e f:Expr) (cpos:Pos):Prop where
 base:attributeBase o m X.env (eval o X.env)=eval o X.env
 few:((backTo cpos (starEach [e,f] X.env)).all (λx => !x.1)&&(backToKw cpos (keywordEach [] X.env)).all (λx=>x.1.isSome)
  && decide (([e,f]:List Expr).length+([]:List Keyword).length+(if ([]:List Keyword).isEmpty then 0 else 1)<30))=true
 line:(apos.endLine==cpos.line)=true
 trees:backTo cpos (starEach [e,f] X.env)=[(false,eval e X.env),(false,eval f X.env)]
end L2
namespace Att
open PySem PySem.W PySem.Calls PyProof.Rows
theorem ml {P:Params}{h:Heap}:∀ (ns:List Int) (vs:List Value),WellAll P h vs (ns.map WData.int)->IntsAre vs ns:=by
 intro ns
 induction ns with
 |nil =>
  intro vs w
  rw[List.map_nil] at w
  cases w
  exact .nil
 |cons n ns ih =>
  intro vs w
  rw[List.map_cons] at w
  cases w with
  |cons a b =>
   cases a
   exact .cons _ _ (ih _ b)
theorem wm {l:OpenLaw}{n:Nat}(hn:l.most=some n){P:Params}{h:Heap}{args:List WData}{vals:List Value}
  (hpre:l.row.toRowW.claim.pre args=true) (hwl:WellAll P h vals args) :
  ∃ a vs ns,vals=[Value.ref a]/\args=[WData.list (ns.map WData.int)]/\h.get? a=some { cls:=.type "list",data:=.seq vs.toArray }/\IntsAre vs ns/\ns.length<=n:=by
 have hsh:WShape.hasAll [] args [.list .int]=true:=(pre_splitW hpre).1
 have hc:l.pre.holds [] { args:=args }=true:=(pre_splitW hpre).2
 obtain⟨d,r,rfl,h1,h2⟩:=hasAllW_cons hsh
 obtain rfl:=hasAllW_nil h2
 obtain⟨xs,rfl,h3⟩:=hasW_list h1
 obtain⟨ns,rfl⟩:=items_int h3
 have hlen:ns.length<=n:=by
  unfold OpenLaw.pre at hc
  have h4:(WTm.not (.lt (.lit (.int (n:Int))) (.len (.arg 0)))).holds [] { args:=[.list (ns.map .int)] }=true:=by
   have h4:=(holds_andW hc).1
   rw[hn] at h4
   exact h4
  have h5:=condW_of h4 (w_not (w_lt w_lit (w_len_list (w_arg rfl))))
  rw[List.length_map] at h5
  refine Nat.le_of_not_lt λq=>?_
  have q':(n:Int)<((ns.length:Nat):Int):=by omega
  first
   |(rw[decide_eq_true q'] at h5;exact absurd h5 (by decide))
   |(simp at h5;omega)
 cases hwl with
 |cons w1 w2 =>
  cases w2
  cases w1 with
  |list ho hall=>exact⟨_,_,ns,rfl,rfl,ho,ml ns _ hall,hlen⟩
theorem wC (l:OpenLaw)(args:List WData):l.row.toRowW.claim.post args (.bool true) args=true:=
 postW_of (r:=l.row.toRowW) (X:=(true==true))
  (show WShape.has [] (.bool true) .bool=true by first |rfl |decide |simp[WShape.has,WShape.arms,WShape.armsAll])
  (show (WTm.eq .res (.lit (.bool true))).value [] { args:=args,res:=some (.bool true),after:=args }=some (.bool (true==true)) from w_eq_bool (w_res rfl) w_lit) rfl
theorem attach_call {l:OpenLaw}{n:Nat}{q:Program}{loose:List Str}{XP:(Str->Option Value)->Heap->Prop}{YP:World->Heap->Prop}{d:DefRec}
  (hn:l.most=some n) (hdf:d.params.defaults=[])
  (call:∀ (w:World) (s₀ s₁:Shared) (mg mb:Str->Option Value) (fa:Addr) (o:Obj) (pm cd doc:Value) (a:Addr) (vs:List Value) (ns:List Int),
   Ground q loose [] XP w s₀ mg mb s₁.heap->YP w s₁.heap ->
   s₁.heap.get? fa=some o->o.data = .func (docDef d.name d.params d.body d.scope pm cd doc)->s₁.heap.CodeRec cd d.name->mg d.name=some (.ref fa) ->
   s₁.heap.get? a=some { cls:=.type "list",data:=.seq vs.toArray }->IntsAre vs ns->ns.length<=n->s₁.gens = #[] ->
   codeAny (model l.prog w) callerA (.call (.ref fa) ⟨[.ref a],[]⟩) (λr s'=>r = .ok (.ret (.bool true))/\OldK s₁.heap s'.heap/\s'.os=s₁.os/\AllBare s'.gens) s₁) :
  WalkO q loose XP YP l.row.toRowW d [] (λf vs=>PySem.call f vs):=by
 intro w s₀ s₁ mg mb G Y fa o pm cd doc dV kV ho hd hcd hD hmg hg args vals as hpre hlay hrd hwl hlo
 obtain rfl:dV = .none:=Dflts.none hD hdf
 obtain rfl:kV = .none:=Dflts.noKw hD
 obtain⟨a,vs,ns,rfl,rfl,hobj,hints,hlen⟩:=wm hn hpre hwl
 refine enter_call (codeAny_mono (call w s₀ s₁ mg mb fa o pm cd doc a vs ns G Y ho (fd_plain hd) hcd hmg hobj hints hlen hg) λr s' hq=>?_)
 obtain⟨rfl,h2,h3,h4⟩:=hq
 exact⟨.inl ⟨.bool true,.bool true,[],rfl,λ_=>rfl,.bool true,wC l _,λ_=>⟨List.Pairwise.nil,λ_ hm=>(nomatch hm)⟩⟩,h2,h3,h4⟩
end Att
namespace L2
open PySem PySem.Spec PyProof.Rows
theorem kP:∀ {vs:List Value}{ns:List Int},IntsAre vs ns->Vals (ns.map V.int) vs
 |_,_,.nil => .nil
 |_,_,.cons n t h => .cons ⟨t,rfl⟩ (kP h)
def CI (H:Hp):Prop:=∀ b,H b=none∨∃ o xs,H b=some (.frz o (.lst xs))
theorem yB {P:Program}{w:World}{K:PySem.W.Frag}{mg mb:Str->Option Value}{CX:CXT}{k:Nat}{fa a:Addr}{fd:FuncData}{x:Str}{sp:Sp}{s₁:Shared}{vs:List Value}{ns:List Int}
  (KX:K.In s₁.heap) (hns:s₁.heap.Ns mainGlobals mg) (hb:s₁.heap.Ns builtinsNs mb) (hbb:∀ x:Str,x≠"__name__"->mb x=bootBuiltins x) (hlim:s₁.heap.NoLimit) (hg:s₁.gens = #[])
  (ha:s₁.heap.get? a=some { cls:=.type "list",data:=.seq vs.toArray }) (hi:IntsAre vs ns) (hl:ns.length<=sizeLine) (hr:Room k callerA)
  (F:∀ base:Heap,K.In base->base.Ns mainGlobals mg->FnOk P w K mg base CX k fa fd [x] sp) (hbind:∀ (s:Shared) (u:Value),BindsTo s fd ⟨[u],[]⟩ [(x,u)])
  (hsp:∀ H:Hp,CI H->SqL K H a (ns.map V.int)->sp [.ref a] H (λv _=>v = .bl true) λ_ _ _=>False)
  (hCX:∀ H e s',CX [] H s₁ (λ_ _ _=>False) e s'->False) :
  codeAny (model P w) callerA (.call (.ref fa) ⟨[.ref a],[]⟩) (λr s'=>r = .ok (.ret (.bool true))/\OldK s₁.heap s'.heap/\s'.os=s₁.os/\AllBare s'.gens) s₁:=by
 have rv:=kP hi
 have lenV:=hi.length
 have core:∀ H:Hp,CI H->SqL K H a (ns.map V.int)->HOk P w H s₁.heap->(∀ b,H b≠none->b=a)->(H a≠none->K.lookup a=none) ->
   codeAny (model P w) callerA (.call (.ref fa) ⟨[.ref a],[]⟩) (λr s'=>r = .ok (.ret (.bool true))/\OldK s₁.heap s'.heap/\s'.os=s₁.os/\AllBare s'.gens) s₁:=by
  intro H hO hS hok hA hK
  have base_of:∀ {b:Addr}{o:Obj},s₁.heap.get? b=some o->H b=none->(qC s₁.heap H).get? b=some o:=λe n=>yG e n
  have noA:∀ {b:Addr}{o:Obj}{es:Array DictEntry}{ep:Nat},s₁.heap.get? b=some o->o.data = .dict es ep->H b=none:=λ{b o es ep} e d=>by
   cases q:H b with
   |none=>rfl
   |some u =>
    have e':b=a:=hA b (by rw[q];simp)
    subst e'
    rw[ha] at e;cases e
    have d':Data.seq vs.toArray _=Data.dict es ep:=d
    cases d'
  have nsK:∀ {b:Addr}{m:Str->Option Value},s₁.heap.Ns b m->(qC s₁.heap H).Ns b m:=λ{b m} ⟨o,es,ep,e,d,r⟩=>⟨o,es,ep,base_of e (noA e d),d,r⟩
  have hKb:K.In (qC s₁.heap H):=λb o e=>base_of (KX b o e) (by
   cases q:H b with
   |none=>rfl
   |some u =>
    have e':b=a:=hA b (by rw[q];simp)
    subst e'
    rw[hK (by rw[q];simp)] at e;cases e)
  have hM:Mod K mg (qC s₁.heap H):=⟨hKb,nsK hns,⟨mb,nsK hb,hbb⟩,let ⟨mc,h1,h2⟩:=hlim;⟨mc,nsK h1,h2⟩⟩
  have e0:Env0 P w K mg (qC s₁.heap H) callerA [] s₁ H:=⟨rfl,hM,λb o e=>Af e,Nat.le_of_eq (wZ _ _),trivial,λb hb=>absurd (show b∈([]:List Addr) from hb) (by simp),hok,.of_eq hg⟩
  refine codeAny_mono ((F _ hKb (nsK hns)).run callerA [] s₁ H ⟨[.ref a],[]⟩ [.ref a] [.ref a] _ _ hr e0 (hbind s₁ (.ref a)) (.cons rfl .nil) (hsp H hO hS)) λr s' h=>?_
  cases r with
  |error e=>exact (hCX H e s' h).elim
  |ok fl =>
   cases fl with
   |next=>exact False.elim h
   |brk=>exact False.elim h
   |cont=>exact False.elim h
   |ret u =>
    obtain⟨v,H',os,bare,un,hok',r',q⟩:=h
    have q':v = .bl true:=q
    subst q'
    obtain rfl:u=Value.bool true:=r'
    refine⟨rfl,OldK.of_keep λb o e=>?_,os,bare⟩
    cases q:H b with
    |none=>exact un.keep b o e q (by intro z;exact absurd (show b∈([]:List Addr) from z) (by simp)) (by simp)
    |some u =>
     rcases hO b with z |⟨ob,xs,z⟩
     ·rw[q] at z;cases z
     ·have z2:=un.frzs b ob _ z
      obtain⟨e1,_⟩:=hok b _ z
      obtain⟨e2,_⟩:=hok' b _ z2
      rw[e] at e1;cases e1
      exact e2
 cases hk:K.lookup a with
 |some o =>
  have e:=KX a o hk
  rw[ha] at e
  cases e
  refine core (λ_=>none) (λ_ => .inl rfl) (.inr ⟨_,vs.toArray,_,hk,rfl,rfl,rfl,by rw[List.size_toArray,lenV];exact hl,by simpa using rv⟩) (λb u z=>by have z':(none:Option HO)=some u:=z;cases z') (λb z=>absurd rfl z) λz=>absurd rfl z
 |none =>
  refine core (λb=>if b=a then some (.frz { cls:=.type "list",data:=.seq vs.toArray } (.lst (ns.map V.int))) else none) (λb=>?_) (.inl (.inr ⟨{ cls:=.type "list",data:=.seq vs.toArray },if_pos rfl⟩)) (λb u z=>?_) (λb z=>?_) λ_=>hk
  ·by_cases hb:b=a
   ·exact .inr ⟨_,_,if_pos hb⟩
   ·exact .inl (if_neg hb)
  ·by_cases hb:b=a
   ·have z':=(if_pos hb).symm.trans z
    cases z'
    subst hb
    exact⟨ha,by rw[List.length_map];exact hl,vs,_,rv,ha⟩
   ·have z':=(if_neg hb).symm.trans z
    cases z'
  ·by_cases hb:b=a
   ·exact hb
   ·exact absurd (if_neg hb) z
theorem walk_of {l:PySem.W.OpenLaw}{n k:Nat}{q:Program}{loose:List Str}{XP:(Str->Option Value)->Heap->Prop}{YP:World->Heap->Prop}{d:DefRec}{K:Params->PySem.W.Frag}{CX:World->CXT}{sp:World->Sp}{x:Str}
  (hn:l.most=some n) (hn2:n<=sizeLine) (hdf:d.params.defaults=[]) (hr:Room k callerA)
  (hY:∀ (w:World) (h:Heap),YP w h->(K w.params).In h)
  (F:∀ (w:World) (mg:Str->Option Value) (fa:Addr) (h:Heap),(K w.params).In h->h.Ns mainGlobals mg->mg d.name=some (.ref fa) ->
   ∃ fd:FuncData,(∀ (s:Shared) (u:Value),BindsTo s fd ⟨[u],[]⟩ [(x,u)]) /\
    ∀ base:Heap,(K w.params).In base->base.Ns mainGlobals mg->FnOk l.prog w (K w.params) mg base (CX w) k fa fd [x] (sp w))
  (hsp:∀ (w:World) (H:Hp) (a:Addr) (ns:List Int),ns.length<=n->CI H->SqL (K w.params) H a (ns.map V.int)->sp w [.ref a] H (λv _=>v = .bl true) λ_ _ _=>False)
  (hCX:∀ (w:World) (H:Hp) (s:Shared) (e:Value) (s':Shared),CX w [] H s (λ_ _ _=>False) e s'->False) :
  PySem.W.WalkO q loose XP YP l.row.toRowW d [] (λf vs=>PySem.call f vs):=by
 refine Att.attach_call hn hdf λw s₀ s₁ mg mb fa o pm cd doc a vs ns G Y ho hd hcd hmg hobj hints hlen hg=>?_
 have KX:=hY w _ Y
 obtain⟨fd,hb,hF⟩:=F w mg fa _ KX G.T.g hmg
 exact yB KX G.T.g G.T.b G.T.builtins G.T.nolimit hg hobj hints (Nat.le_trans hlen hn2) hr hF hb (λH hO hS=>hsp w H a ns hlen hO hS) λH e s'=>hCX w H s₁ e s'
def dY (s:Stmt):Arguments:=match s with
 | .FunctionDef _ a _ _ _ _ _ _ _ _=>a
 |_ => { posonlyargs:=[],args:=[],vararg:=none,kwonlyargs:=[],kw_defaults:=[],kwarg:=none,defaults:=[] }
def bL (s:Stmt):List Stmt:=match s with
 | .FunctionDef _ _ b _ _ _ _ _ _ _=>b
 |_=>[]
def aj (s:Stmt):Scope:=match s with
 | .FunctionDef _ _ _ _ _ _ sc _ _ _=>sc
 |_ => { kind:=.function,names:=[],isGenerator:=false,isCoroutine:=false }
abbrev CX0:CXT:=λ_ _ _ _ _ _=>False
abbrev E0:XK:=λ_ _ _=>False
theorem vf {X:Cx}:Passes CX0 X E0:=λ_ _ _ _ _ _ _ h=>h.elim
structure Fun (K:PySem.W.Frag) (x qual:Str) (st:Stmt) (f:Addr) (fd:FuncData):Prop where
 ex:∃ (oc:Value) (od:Option Addr) (kV doc pm:Value) (an:Option Addr) (cdv ct:Value) (osl:Array (Option Value)),
  fd=PySem.W.fnOf x qual (dY st) (bL st) (aj st) .none kV doc pm an cdv ct/\K.lookup f=some ⟨oc,od,.func fd,osl⟩/\PySem.W.codeIn K cdv qual=true
 kp:PySem.W.keepIn K (.ref f)=true
section
variable {P:Program}{w:World}{K:PySem.W.Frag}{mg:Str->Option Value}{base:Heap}
theorem Fun.ok {x qual:Str}{st:Stmt}{f:Addr}{fd:FuncData}{N ps:List Str}{k:Nat}{sp:Sp}(F:Fun K x qual st f fd)(S:FnScope N ps (aj st))(len:∀ vs H Q E,sp vs H Q E->vs.length=ps.length)
  (hbody:∀ (cdv:Value) (A:Around) (outer:List Env) (s:Shared) (H:Hp) (vs:List V) (Q:VK) (E:XK),Room k (A.deeper (envOfC qual (aj st) s.heap.objs.size f cdv))->sp vs H Q E ->
   ∃ t,PSs (lq CX0 P w K mg base N qual (aj st) f cdv A outer s H E).nox (bL st) t/\t { nx:=λ_ H'=>Q .non H',rt:=Q } (start N vs) H):FnOk P w K mg base CX0 (k+1) f fd ps sp:=by
 obtain⟨oc,od,kV,doc,pm,an,cdv,ct,osl,rfl,lk,hcd⟩:=F.ex
 refine Dx lk hcd S len λA outer s H vs Q E hr hsp=>?_
 obtain⟨t,h,q⟩:=hbody cdv A outer s H vs Q E hr hsp
 exact⟨t,h.nox,q⟩
theorem Fun.binds {x qual:Str}{st:Stmt}{f:Addr}{fd:FuncData}{ps:List Str}(F:Fun K x qual st f fd)
  (h:∀ (kV doc pm:Value) (an:Option Addr) (cdv ct:Value) (us:List Value),us.length=ps.length->bindArgs (PySem.W.fnOf x qual (dY st) (bL st) (aj st) .none kV doc pm an cdv ct) ⟨us,[]⟩=pure (ps.zip us)):Binds K fd ps []:=by
 obtain⟨oc,od,kV,doc,pm,an,cdv,ct,osl,rfl,lk,hcd⟩:=F.ex
 exact .all (h kV doc pm an cdv ct)
theorem Cn {x qual:Str}{st:Stmt}{f:Addr}{oc:Value}{od an:Option Addr}{osl:Array (Option Value)}{kV doc pm cdv ct:Value}(l:K.lookup f=some ⟨oc,od,.func (PySem.W.fnOf x qual (dY st) (bL st) (aj st) .none kV doc pm an cdv ct),osl⟩)
  (c:PySem.W.codeIn K cdv qual=true) (k:PySem.W.keepIn K (.ref f)=true):Fun K x qual st f (PySem.W.fnOf x qual (dY st) (bL st) (aj st) .none kV doc pm an cdv ct):=⟨⟨oc,od,kV,doc,pm,an,cdv,ct,osl,rfl,l,c⟩,k⟩
end
theorem aT {A:Around}{k:Nat}(hr:Room k A):A.units+1<cLine:=Nat.lt_of_le_of_lt (Nat.add_le_add_left (by decide : 1<=64) _) hr.units
section
variable {X:Cx}
theorem pv (i:Nat){x:Str}{pos:Pos}(hN:X.N[i]?=some x:=by rfl)(hv:Vis X.env.scope x:=by first |exact Or.inl rfl |exact Or.inr (Or.inl rfl) |exact Or.inr (Or.inr rfl))(hd:(x==("__debug__":Str))=false:=by decide)
  (hcd:(x==("__classdict__":Str))=false:=by decide):PE X (.Name x pos) (CN i):=xX hN hv hd hcd
end
def Same (H H':Hp):Prop:=∀ b o,H b=some o->H' b=some o
theorem Same.refl (H:Hp):Same H H:=λ_ _ h=>h
theorem Same.trans {H H1 H2:Hp}(a:Same H H1)(b:Same H1 H2):Same H H2:=λc o h=>b c o (a c o h)
end L2
namespace HT
open PySem PyProof.Rows
section
variable {prog:Program}{w:World}{A:Around}{E:Value->Shared->Prop}{s:Shared}
theorem cat_tup {t b:Addr}{vs ws:List Value}{Q:Value->Shared->Prop}(ht:IsTup s.heap t vs.toArray)(hb:IsTup s.heap b ws.toArray)(hv:vs≠[])
  (h1:ws=[]->Q (.ref t) s) (h2:ws≠[]->Q (.ref s.heap.objs.size) { s with heap:=s.heap.push { cls:=.type "tuple",data:=.seq (vs++ws).toArray } })
  (hsz:vs.length+ws.length<=sizeLine):wpAny (model prog w) A (binaryOp .Add (.ref t) (.ref b)) Q E s:=by
 obtain⟨⟨cls,dd,data,sl⟩,ho,hc,n,hd⟩:=id ht
 obtain⟨⟨cls2,dd2,data2,sl2⟩,ho2,hc2,n2,hd2⟩:=id hb
 simp only at hc hd hc2 hd2
 subst hc hd hc2 hd2
 have e:vs.toArray++ws.toArray=(vs++ws).toArray:=by simp
 by_cases hw:ws=[]
 ·exact concat_meets ⟨_,ho,rfl⟩ ⟨_,ho2,rfl⟩ noFill_tuple_add seq_tuple_add PySem.F.slot_tuple_add PySem.F.entry_tuple_add (PySem.F.args_tuple_add_2 _ _)
   (tuple_addW1 t b vs.toArray ws.toArray n n2 dd dd2 sl sl2 (by simpa using hv) (by simp[hw])) ⟨ho,ho2,h1 hw⟩
 ·refine concat_meets ⟨_,ho,rfl⟩ ⟨_,ho2,rfl⟩ noFill_tuple_add seq_tuple_add PySem.F.slot_tuple_add PySem.F.entry_tuple_add (PySem.F.args_tuple_add_2 _ _)
   (tuple_addW2 t b vs.toArray ws.toArray n n2 dd dd2 sl sl2 (by simpa using hv) (by simpa using hw) (by rw[List.size_toArray,List.size_toArray];exact hsz)) ⟨ho,ho2,?_⟩
  rw[e]
  exact h2 hw
def sIx (n d:Nat):Option Int->Nat
 |none=>d
 |some v=>if v<0 then (v+(n:Int)).toNat else min v.toNat n
theorem sIx_none (n d:Nat):sIx n d none=d:=rfl
theorem sIx_nat (n d k:Nat):sIx n d (some (k:Int))=min k n:=by
 show (if (k:Int)<0 then ((k:Int)+(n:Int)).toNat else min (k:Int).toNat n)=min k n
 rw[if_neg (by omega),Int.toNat_natCast]
theorem sIx_le (n d:Nat)(hd:d<=n)(o:Option Int):sIx n d o<=n:=by
 cases o with
 |none=>exact hd
 |some v =>
  show (if v<0 then (v+(n:Int)).toNat else min v.toNat n)<=n
  by_cases hv:v<0
  ·rw[if_pos hv];omega
  ·rw[if_neg hv];exact Nat.min_le_right _ _
theorem vJ (v:Int)(n d:Nat):(if v<0 then max (v+(n:Int)) 0 else min v (n:Int))=((sIx n d (some v):Nat):Int):=by
 show (if v<0 then max (v+(n:Int)) 0 else min v (n:Int))=(((if v<0 then (v+(n:Int)).toNat else min v.toNat n):Nat):Int)
 by_cases hv:v<0
 ·simp only[if_pos hv];omega
 ·simp only[if_neg hv];omega
theorem uN (lo hi:Option Int)(n:Nat):Builtin.Slice.sliceAdjust lo hi 1 (n:Int)=(((sIx n 0 lo:Nat):Int),((sIx n n hi:Nat):Int)):=by
 have h1:¬ ((1:Int)<0):=by omega
 unfold Builtin.Slice.sliceAdjust
 simp only[h1,if_false]
 refine Prod.ext ?_ ?_
 ·cases lo with
  |none=>rfl
  |some v=>exact vJ v n 0
 ·cases hi with
  |none=>rfl
  |some v=>exact vJ v n n
theorem um (i j:Nat):Builtin.Slice.slicePlaces (i:Int) (j:Int) 1=j-i:=by
 unfold Builtin.Slice.slicePlaces
 have h1:(1:Int) > 0:=by omega
 simp only[h1,if_true,Int.ediv_one]
 split<;>omega
theorem m8 {v:Value}{o:Option Int}{Q:Option Int->Shared->Prop}(p:IsPart v o)(h:Q o s):wpAny (model prog w) A (Builtin.Slice.slicePartIndex v) Q E s:=by
 cases p with
 |none=>exact slicePart_none h
 |int i t=>exact slicePart_int h
theorem sliceApplied_gen {sl:Addr}{vl vu:Value}{lo hi:Option Int}{n:Nat}{Q:Int×Int×Nat->Shared->Prop}(hs:s.heap.IsSliceOf sl vl vu .none)(pl:IsPart vl lo)(pu:IsPart vu hi)
  (h:Q (((sIx n 0 lo:Nat):Int),1,sIx n n hi-sIx n 0 lo) s):wpAny (model prog w) A (Builtin.Slice.sliceApplied (.ref sl) (pure (n:Int))) Q E s:=by
 obtain⟨os,hos,hcs,hds⟩:=id hs
 unfold Builtin.Slice.sliceApplied Builtin.Slice.sliceFields
 refine wpAny_bind (wpAny_bind (wpAny_field hos hds (x:=vl) rfl (wpAny_bind (wpAny_field hos hds (x:=vu) rfl (wpAny_bind (wpAny_field hos hds (x:=.none) rfl (wpAny_pure ?_)))))))
 refine wpAny_bind (slicePart_none ?_)
 show wpAny _ _ (if ((1:Int)==0)=true then _ else _) _ _ s
 rw[if_neg (by decide)]
 refine wpAny_bind (m8 pl (wpAny_bind (m8 pu (wpAny_bind (wpAny_pure ?_)))))
 show wpAny _ _ (match Builtin.Slice.sliceAdjust lo hi 1 (n:Int) with |(lo,hi)=>pure (lo,(1:Int),Builtin.Slice.slicePlaces lo hi 1)) _ _ s
 rw[uN lo hi n]
 show wpAny _ _ (pure (((sIx n 0 lo:Nat):Int),(1:Int),Builtin.Slice.slicePlaces ((sIx n 0 lo:Nat):Int) ((sIx n n hi:Nat):Int) 1)) _ _ s
 rw[um]
 exact wpAny_pure h
theorem xV (xs:Array Value)(i k:Nat):((List.range k).filterMap λ(m:Nat)=>xs[((i:Int)+(m:Int)*1).toNat]?).toArray=((xs.toList.drop i).take k).toArray:=by
 have e:(λ(m:Nat)=>xs[((i:Int)+(m:Int)*1).toNat]?)=λm=>xs[i+m]?:=by
  funext m
  have:((i:Int)+(m:Int)*1).toNat=i+m:=by omega
  rw[this]
 rw[e]
 have:=pick_run xs i k
 rw[List.filterMap_map] at this
 have e2:((λx=>xs[x]?) ∘ λx=>i+x)=λm=>xs[i+m]?:=rfl
 rw[e2] at this
 rw[this]
theorem getItem_tuple_cut {t sl:Addr}{items:Array Value}{vl vu:Value}{lo hi:Option Int}{Q:Value->Shared->Prop}(ht:IsTup s.heap t items)(hs:s.heap.IsSliceOf sl vl vu .none)(pl:IsPart vl lo)(pu:IsPart vu hi)
  (hw:¬ (sIx items.size 0 lo=0/\sIx items.size items.size hi=items.size))
  (h:Q (.ref s.heap.objs.size) { s with heap:=s.heap.push { cls:=.type "tuple",data:=.seq ((items.toList.drop (sIx items.size 0 lo)).take (sIx items.size items.size hi-sIx items.size 0 lo)).toArray } })
  (hsz:items.size<=sizeLine):wpAny (model prog w) A (getItem (.ref t) (.ref sl)) Q E s:=by
 have htake:sizeOk (.seq ((items.toList.drop (sIx items.size 0 lo)).take (sIx items.size items.size hi-sIx items.size 0 lo)).toArray):=by
  show ((items.toList.drop (sIx items.size 0 lo)).take (sIx items.size items.size hi-sIx items.size 0 lo)).toArray.size<=sizeLine
  rw[List.size_toArray,List.length_take,List.length_drop,Array.length_toList]
  omega
 have hj:sIx items.size items.size hi<=items.size:=sIx_le _ _ (Nat.le_refl _) hi
 obtain⟨os,hos,hcs,hds⟩:=id hs
 have hTs:s.TypeIs (.ref sl) "slice":=⟨os,hos,hcs⟩
 unfold getItem
 try with_reducible refine wpAny_holding ?_
 first |refine wpAny_bind (wpAny_pure ?_) |skip
 refine wpAny_bind (wpAny_sequenceKey ht.typeIs (by decide) ?_)
 refine wpAny_bind (wpAny_callSpecial?_slot (name:=Str.ofString "__getitem__") ht.typeIs PyProof.Rows.slot_tuple_getitem
  (wpAny_call_entry PyProof.Rows.slot_tuple_getitem ht.typeIs entry_tuple_getitem ?_ (args_tuple_getitem _ _)))
 show wpAny _ _ (Builtin.Tuple.tupleItemsOf (.ref t) >>= _) _ _ s
 refine wpAny_bind (tupleItemsOf_ ht ?_)
 refine wpAny_bind (wpAny_typeOf hTs ?_)
 rw[if_pos (by decide)]
 refine wpAny_bind (sliceApplied_gen hs pl pu ?_)
 have hno:¬ ((((sIx items.size 0 lo:Nat):Int)==0&&(1:Int)==1&&(sIx items.size items.size hi-sIx items.size 0 lo)==items.size)=true):=by
  intro q
  rw[Bool.and_eq_true,Bool.and_eq_true] at q
  have q1:((sIx items.size 0 lo:Nat):Int)=0:=eq_of_beq q.1.1
  have q2:sIx items.size items.size hi-sIx items.size 0 lo=items.size:=eq_of_beq q.2
  exact hw ⟨by omega,by omega⟩
 show wpAny _ _ (if (((sIx items.size 0 lo:Nat):Int)==0&&(1:Int)==1&&(sIx items.size items.size hi-sIx items.size 0 lo)==items.size)=true then _ else _) _ _ s
 rw[if_neg hno,xV]
 first
  |exact wpAny_bind (m:=Builtin.Tuple.tupleExact _) (wpAny_newObj_type (wpAny_pure ⟨_,rfl,wpAny_pure h⟩) htake)
  |exact wpAny_bind (m:=Builtin.Tuple.tupleExact _) (wpAny_newObj_type (wpAny_bind (wpAny_pure (wpAny_pure ⟨_,rfl,wpAny_pure h⟩))) htake)
  |exact wpAny_bind (wpAny_bind (m:=Builtin.Tuple.tupleExact _) (wpAny_newObj_type (wpAny_pure (wpAny_pure ⟨_,rfl,wpAny_pure h⟩)) htake))
  |exact wpAny_bind (wpAny_bind (m:=Builtin.Tuple.tupleExact _) (wpAny_newObj_type (wpAny_pure ⟨_,rfl,wpAny_pure h⟩) htake))
end
end HT
namespace L2
open PySem PySem.Spec PyProof.Rows
abbrev TO:=St->Hp->(Option Int->Hp->Prop)->Prop
def PO (X:Cx)(e:Option Expr)(t:TO):Prop:=
 ∀ (pins:List (Addr×Obj)) (s:Shared) (σ:St) (H:Hp) (Q:Option Int->Hp->Prop),Inv X pins σ H s->t σ H Q ->
  wpAny (model X.prog X.w) X.A (evalPart e X.env) (λu s' => ∃ o H',Inv X pins σ H' s'/\IsPart u o/\Q o H') X.xe s
def zD:TO:=λ_ H Q=>Q none H
def CP (t:TE):TO:=λσ H Q=>t σ H λx H1 => ∃ i,x = .int i/\Q (some i) H1
theorem intsAre_of {ns:List Int}:∀ {us:List Value},Vals (ns.map V.int) us->IntsAre us ns:=by
 induction ns with
 |nil=>intro us r;rw[List.map_nil] at r;cases r;exact .nil
 |cons n ns ih =>
  intro us r
  rw[List.map_cons] at r
  cases r with
  |cons r1 r2 =>
   obtain⟨t,e⟩:=r1
   subst e
   exact .cons n t (ih r2)
section
variable {X:Cx}{e:Expr}{te:TE}{lo hi:Option Expr}{tl th:TO}{pos p2:Pos}
theorem zX:PO X none zD:=by
 intro pins s σ H Q I h
 rw[evalPart_none]
 exact wpAny_pure ⟨none,H,I,.none,h⟩
theorem zV (h:PE X e te):PO X (some e) (CP te):=by
 intro pins s σ H Q I hw
 rw[evalPart_some]
 refine thn (h pins s σ H _ I hw) λu s1 ⟨x,H1,I1,r1,q1⟩=>?_
 obtain⟨i,rfl,q⟩:=q1
 obtain⟨t,rfl⟩:=r1
 exact⟨some i,H1,I1,.int i t,q⟩
def SlR (X:Cx)(r:V->Option Int->Option Int->Hp->VK->Prop):Prop:=
 ∀ (pins:List (Addr×Obj)) (s:Shared) (σ:St) (H:Hp) (x:V) (v vl vu:Value) (lo hi:Option Int) (sl:Addr) (Q:VK),Inv X pins σ H s->RelV x v->s.heap.IsSliceOf sl vl vu .none->IsPart vl lo->IsPart vu hi->r x lo hi H Q ->
  ∃ T id,typeLookup (.type T) "__getitem__"=pure (some (.builtin id))/\s.TypeIs v T/\wpAny (model X.prog X.w) X.A (getItem v (.ref sl)) (EP X pins σ Q) X.xe s
def tSl (r:V->Option Int->Option Int->Hp->VK->Prop)(te:TE)(tl th:TO):TE:=λσ H Q=>te σ H λx H1=>tl σ H1 λl H2=>th σ H2 λu H3=>r x l u H3 Q
theorem xY {r:V->Option Int->Option Int->Hp->VK->Prop}(hr:SlR X r)(he:PE X e te)(hl:PO X lo tl)(hu:PO X hi th):PE X (.Subscript e (.Slice lo hi none p2) pos) (tSl r te tl th):=by
 intro pins s σ H Q I h
 refine Subscript_ (thn (he pins s σ H _ I h) λv s1 ⟨x,H1,I1,r1,q1⟩=>?_)
 refine wpAny_Slice (thn (hl pins s1 σ H1 _ I1 q1) λvl s2 ⟨l,H2,I2,pl,q2⟩=>thn (hu pins s2 σ H2 _ I2 q2) λvu s3 ⟨u,H3,I3,pu,q3⟩=>?_)
 rw[evalPart_none]
 refine wpAny_pure ?_
 have I4:Inv X pins σ H3 { s3 with heap:=s3.heap.push { cls:=.type "slice",data:=.fields #[vl,vu,.none] } }:=I3.kept (t':=s3.toks) λb ob q=>Heap.get?_push_of_some _ q
 obtain⟨T,id,hT,ht,hg⟩:=hr pins { s3 with heap:=s3.heap.push { cls:=.type "slice",data:=.fields #[vl,vu,.none] } } σ H3 x v vl vu l u s3.heap.objs.size Q I4 r1 (Heap.IsSliceOf.new ..) pl pu q3
 show wpAny (model X.prog X.w) X.A (subscriptTail e (.Slice lo hi none p2) v (.ref s3.heap.objs.size)) (EP X pins σ Q) X.xe { s3 with heap:=s3.heap.push { cls:=.type "slice",data:=.fields #[vl,vu,.none] } }
 exact tail_any (ops:=[.ref s3.heap.objs.size,v]) ht hT hg (by with_unfolding_all rfl)
def sT (xs:List V)(lo hi:Option Int):List V:=(xs.drop (HT.sIx xs.length 0 lo)).take (HT.sIx xs.length xs.length hi-HT.sIx xs.length 0 lo)
theorem fV (xs:List V)(lo hi:Option Int):(sT xs lo hi).length<=xs.length:=by
 unfold sT
 rw[List.length_take,List.length_drop]
 omega
def D7 (K:PySem.W.Frag):V->Option Int->Option Int->Hp->VK->Prop:=λx lo hi H Q => ∃ a xs,x = .ref a/\SqT K H a xs /\
 ¬ (HT.sIx xs.length 0 lo=0/\HT.sIx xs.length xs.length hi=xs.length)/\∀ p,H p=none->Q (.ref p) (upd H p (.tup (sT xs lo hi)))
theorem Br:SlR X (D7 X.K):=by
 intro pins s σ H x v vl vu lo hi sl Q I rx hs pl pu h
 obtain⟨a,xs,rfl,hx,hw,q⟩:=h
 cases rx
 obtain⟨its,r,ht,hz⟩:=I.tuple hx
 have hlen:its.toArray.size=xs.length:=by rw[List.size_toArray];exact r.length.symm
 refine⟨"tuple",_,PyProof.Rows.slot_tuple_getitem.lookup,ht.typeIs,?_⟩
 refine HT.getItem_tuple_cut ht hs pl pu (by rw[hlen];exact hw) ?_ (by rw[hlen];exact hz)
 rw[hlen]
 refine⟨.ref s.heap.objs.size,_,I.laid (t':=s.toks) (o:=.tup (sT xs lo hi)) (λb ob q=>Heap.get?_push_of_some _ q) (Nat.le_refl _) ?_,rfl,q _ (I.hok.fresh (Nat.le_refl _))⟩
 exact⟨Nat.le_trans (fV xs lo hi) hz,_,(r.drop (HT.sIx xs.length 0 lo)).take (HT.sIx xs.length xs.length hi-HT.sIx xs.length 0 lo),TupN.new _ _⟩
def C7 (K:PySem.W.Frag):R2:=λx y H Q => ∃ a b xs ys,x = .ref a/\y = .ref b/\SqT K H a xs/\SqT K H b ys/\xs≠[]/\xs.length+ys.length<=sizeLine /\
 (ys=[]->Q (.ref a) H)/\(ys≠[]->∀ p,H p=none->Q (.ref p) (upd H p (.tup (xs++ys))))
theorem Vals.nil_iff {xs:List V}{us:List Value}(r:Vals xs us):us=[]↔xs=[]:=by
 cases r with
 |nil=>simp
 |cons _ _=>simp
theorem Ad:OpR X (binaryOp .Add) (C7 X.K):=by
 intro pins s σ H x y v u Q I rx ry h
 obtain⟨a,b,xs,ys,rfl,rfl,ha,hb,hx,hz,q1,q2⟩:=h
 cases rx
 cases ry
 obtain⟨its,r1,p1,_⟩:=I.tuple ha
 obtain⟨its2,r2,p2,_⟩:=I.tuple hb
 refine HT.cat_tup p1 p2 (λz=>hx (r1.nil_iff.mp z)) (λz=>⟨.ref a,H,I,rfl,q1 (r2.nil_iff.mp z)⟩) (λz=>?_) (by rw[← r1.length,← r2.length];exact hz)
 refine⟨.ref s.heap.objs.size,_,I.laid (t':=s.toks) (o:=.tup (xs++ys)) (λb ob q=>Heap.get?_push_of_some _ q) (Nat.le_refl _) ?_,rfl,q2 (λw=>z (r2.nil_iff.mpr w)) _ (I.hok.fresh (Nat.le_refl _))⟩
 exact⟨by rw[List.length_append];exact hz,_,r1.append r2,TupN.new _ _⟩
end
def ixN (n:Nat)(i:Int):Option Nat:=if 0<=i then (if i<n then some i.toNat else none) else if -(n:Int)<=i then some (i+n).toNat else none
def atI {α:Type}(xs:List α)(i:Int):Option α:=(ixN xs.length i).bind λj=>xs[j]?
theorem Aw {n:Nat}{i:Int}{j:Nat}(h:ixN n i=some j):seqIndex? i n=some j/\j<n/\-(n:Int)<=i/\i<n:=by
 unfold ixN at h
 by_cases h0 : 0<=i
 ·rw[if_pos h0] at h
  by_cases h1:i<n
  ·rw[if_pos h1] at h
   have e:i.toNat=j:=Option.some.inj h
   exact⟨by rw[seqIndex_of h0 h1,e],by omega,by omega,h1⟩
  ·rw[if_neg h1] at h;cases h
 ·rw[if_neg h0] at h
  by_cases h1 : -(n:Int)<=i
  ·rw[if_pos h1] at h
   have e:(i+n).toNat=j:=Option.some.inj h
   exact⟨by rw[seqIndex_neg (by omega) h1,e],by omega,h1,by omega⟩
  ·rw[if_neg h1] at h;cases h
theorem mM {α:Type}{xs:List α}{i:Int}{v : α}(h:atI xs i=some v):∃ j,seqIndex? i xs.length=some j/\xs[j]?=some v/\j<xs.length/\-(xs.length:Int)<=i/\i<xs.length:=by
 unfold atI at h
 cases e:ixN xs.length i with
 |none=>rw[e] at h;cases h
 |some j =>
  rw[e] at h
  obtain⟨h1,h2,h3,h4⟩:=Aw e
  exact⟨j,h1,h,h2,h3,h4⟩
def mO (b:Expr):Prop:=∀ o i,subscripted b false o i=operate [o,i] (getItem o i)
def IxR (X:Cx)(r:R2):Prop:=
 ∀ (value slice:Expr) (pins:List (Addr×Obj)) (s:Shared) (σ:St) (H:Hp) (x y:V) (v u:Value) (Q:VK),Inv X pins σ H s->RelV x v->RelV y u->r x y H Q ->
  subscripted slice false v u=operate [v,u] (getItem v u)->wpAny (model X.prog X.w) X.A (subscriptTail value slice v u) (EP X pins σ Q) X.xe s
def MtR (X:Cx)(id:String)(r:V->List V->Hp->VK->Prop):Prop:=
 ∀ (pins:List (Addr×Obj)) (s:Shared) (σ:St) (H:Hp) (x:V) (xs:List V) (v:Value) (us:List Value) (Q:VK),Inv X pins σ H s->RelV x v->Vals xs us->r x xs H Q ->
  wpAny (model X.prog X.w) X.A (call (.builtin id) (v::us)) (EP X pins σ Q) X.xe s
section
variable {X:Cx}{a b:Expr}{ta tb:TE}{pos:Pos}
theorem A3 {r:R2}(hr:IxR X r)(ha:PE X a ta)(hb:PE X b tb)(hs:mO b):PE X (.Subscript a b pos) (tOp r ta tb):=by
 intro pins s σ H Q I h
 exact Subscript_ (CC ha hb I h λv u s2 x y H2 I2 rx ry q=>hr a b pins s2 σ H2 x y v u Q I2 rx ry q (hs _ _))
def Ea (K:PySem.W.Frag):R2:=λx y H Q => ∃ p xs i v,x = .ref p/\y = .int i/\SqL K H p xs/\atI xs i=some v/\Q v H
def D9 (K:PySem.W.Frag):R2:=λx y H Q => ∃ p xs i v,x = .ref p/\y = .int i/\SqT K H p xs/\atI xs i=some v/\Q v H
def D_:R2:=λx y H Q => ∃ z i c,x = .str z/\y = .int i/\z.length<=sizeLine/\atI z.cps.toList i=some c/\Q (.str ⟨#[c]⟩) H
theorem vt:IxR X (Ea X.K):=by
 intro value slice pins s σ H x y v u Q I rx ry h hs
 obtain⟨p,xs,i,z,rfl,rfl,hq,he,q⟩:=h
 cases rx
 obtain⟨t,rfl⟩:=ry
 obtain⟨its,r,pl,hz⟩:=I.list hq
 obtain⟨j,h1,h2,h3,h4,h5⟩:=mM he
 obtain⟨w,ew,rw'⟩:=r.get h2
 have hl:=r.length
 have hn:=nH
 have fin:EP X pins σ Q w s:=⟨z,H,I,rw',q⟩
 by_cases h0 : 0<=i
 ·have hj:i.toNat=j:=by
   rw[seqIndex_of h0 h5] at h1
   exact Option.some.inj h1
  exact item_listR pl.isList h0 (by omega) (by rw[hj];simpa using ew) fin hs
 ·have hj:(i+(its.toArray.size:Int)).toNat=j:=by
   rw[seqIndex_neg (by omega) h4] at h1
   rw[List.size_toArray,← hl]
   exact Option.some.inj h1
  exact subscriptTail_builtinR (x:=w) pl.isList.typeIs slot_list_getitem.lookup
   (wpAny_getItem_list_neg (Q:=λr s'=>r=w/\EP X pins σ Q r s') pl.isList (by omega) (by rw[List.size_toArray]<;>omega) (by omega) (by rw[hj];simpa using ew) ⟨rfl,fin⟩) hs
theorem Cj:IxR X (D9 X.K):=by
 intro value slice pins s σ H x y v u Q I rx ry h hs
 obtain⟨p,xs,i,z,rfl,rfl,hq,he,q⟩:=h
 cases rx
 obtain⟨t,rfl⟩:=ry
 obtain⟨its,r,pl,hz⟩:=I.tuple hq
 obtain⟨j,h1,h2,h3,h4,h5⟩:=mM he
 obtain⟨w,ew,rw'⟩:=r.get h2
 have hl:=r.length
 have hn:=nH
 have fin:EP X pins σ Q w s:=⟨z,H,I,rw',q⟩
 exact subscriptTail_builtinR (x:=w) pl.typeIs slot_tuple_getitem.lookup
  (getItem_tuple (j:=j) (Q:=λr s'=>r=w/\EP X pins σ Q r s') pl (by omega) (by omega) (by rw[List.size_toArray,← hl];exact h1) (by simpa using ew) ⟨rfl,fin⟩) hs
theorem Ck:IxR X D_:=by
 intro value slice pins s σ H x y v u Q I rx ry h hs
 obtain⟨z,i,c,rfl,rfl,hz,he,q⟩:=h
 obtain⟨t,rfl⟩:=rx
 obtain⟨t',rfl⟩:=ry
 obtain⟨j,h1,h2,h3,h4,h5⟩:=mM he
 have hl:z.cps.toList.length=z.length:=by simp[Str.length]
 rw[hl] at h1 h4 h5
 have hn:=nH
 exact tail_any (typeIs_str s z t) slot_str_getitem.lookup (getItem_str (c:=c) (by
  have e1:decide (i < -(2 ^ 63:Int))=false:=decide_eq_false (by omega)
  have e2:decide (i≥2 ^ 63)=false:=decide_eq_false (by omega)
  rw[e1,e2,Bool.or_false]) (by rw[h1];simpa using h2) ⟨.str ⟨#[c]⟩,H,I.tok _,⟨_,rfl⟩,q⟩) hs
theorem j8 (lo hi:Option Int)(n:Nat):(sliceBounds lo hi none n).1=((HT.sIx n 0 lo:Nat):Int)/\(sliceBounds lo hi none n).2.1=((HT.sIx n n hi:Nat):Int)/\(sliceBounds lo hi none n).2.2=1:=by
 refine⟨?_,?_,rfl⟩
 ·cases lo with
  |none=>simp[sliceBounds,HT.sIx]
  |some i =>
   simp only[sliceBounds,HT.sIx,Option.getD_none,show (1:Int) > 0 by decide,if_true]
   by_cases h:i<0
   ·simp only[h,if_true]<;>omega
   ·simp only[h,if_false]<;>omega
 ·cases hi with
  |none=>simp[sliceBounds,HT.sIx]
  |some i =>
   simp only[sliceBounds,HT.sIx,Option.getD_none,show (1:Int) > 0 by decide,if_true]
   by_cases h:i<0
   ·simp only[h,if_true]<;>omega
   ·simp only[h,if_false]<;>omega
theorem oa (its:List Value)(lo hi:Option Int):slicePick its.toArray lo hi none=((its.drop (HT.sIx its.length 0 lo)).take (HT.sIx its.length its.length hi-HT.sIx its.length 0 lo)).toArray:=by
 obtain⟨h1,h2,h3⟩:=j8 lo hi its.toArray.size
 unfold slicePick
 rw[h1,h2,h3]
 simp only[sliceRange_one,pick_run,List.size_toArray]<;>rfl
def D8 (K:PySem.W.Frag):V->Option Int->Option Int->Hp->VK->Prop:=λx lo hi H Q => ∃ a xs,x = .ref a/\SqL K H a xs/\∀ p,H p=none->Q (.ref p) (upd H p (.lst (sT xs lo hi)))
theorem zG:SlR X (D8 X.K):=by
 intro pins s σ H x v vl vu lo hi sl Q I rx hs pl pu h
 obtain⟨a,xs,rfl,hx,q⟩:=h
 cases rx
 obtain⟨its,r,ht,hz⟩:=I.list hx
 have hlen:=r.length
 refine⟨"list",_,slot_list_getitem.lookup,ht.isList.typeIs,?_⟩
 refine wpAny_getItem_list_slice ht.isList hs pl pu .none (by simp) ?_ (by rw[List.size_toArray]<;>omega)
 rw[oa,← hlen]
 refine⟨.ref s.heap.objs.size,_,I.laid (t':=s.toks) (o:=.lst (sT xs lo hi)) (λb ob q=>Heap.get?_push_of_some _ q) (Nat.le_refl _) ?_,rfl,q _ (I.hok.fresh (Nat.le_refl _))⟩
 exact⟨Nat.le_trans (fV xs lo hi) hz,_,0,(r.drop (HT.sIx xs.length 0 lo)).take (HT.sIx xs.length xs.length hi-HT.sIx xs.length 0 lo),Heap.get?_push_size _ rfl⟩
theorem g_:CallR X (.builtin "len") (λxs H Q => ∃ p ys,xs=[.ref p]/\(SqL X.K H p ys∨SqT X.K H p ys)/\Q (.int ys.length) H):=by
 intro pins s σ H xs us Q I r h
 obtain⟨p,ys,rfl,hq,q⟩:=h
 obtain⟨u,rfl,rx⟩:=vals1 r
 cases rx
 have hn:=nH
 rcases hq with hq |hq
 ·obtain⟨its,r',pl,hz⟩:=I.list hq
  have hlen:=r'.length
  exact Calls.call_len_list pl.isList (by simp only[List.size_toArray]<;>omega) ⟨.int ys.length,H,I.tok _,⟨s.toks+1,by rw[List.size_toArray,hlen]⟩,q⟩
 ·obtain⟨its,r',pl,hz⟩:=I.tuple hq
  have hlen:=r'.length
  exact len_tuple pl (by simp only[List.size_toArray]<;>omega) ⟨.int ys.length,H,I.tok _,⟨s.toks+1,by rw[List.size_toArray,hlen]⟩,q⟩
theorem qV:CallR X (.builtin "len") (λxs H Q => ∃ z,xs=[.str z]/\z.length<=sizeLine/\Q (.int z.length) H):=by
 intro pins s σ H xs us Q I r h
 obtain⟨z,rfl,hz,q⟩:=h
 obtain⟨u,rfl,t,rfl⟩:=vals1 r
 have hn:=nH
 exact len_str (by omega) ⟨.int z.length,H,I.tok _,⟨_,rfl⟩,q⟩
theorem CallR.or {f:Value}{r r':List V->Hp->VK->Prop}(h:CallR X f r)(h':CallR X f r'):CallR X f (λxs H Q=>r xs H Q∨r' xs H Q):=by
 intro pins s σ H xs us Q I rs q
 rcases q with q |q
 ·exact h pins s σ H xs us Q I rs q
 ·exact h' pins s σ H xs us Q I rs q
theorem jA:CallR X (.type "tuple") (λxs H Q => ∃ p ys,xs=[.ref p]/\((SqL X.K H p ys/\∀ l,H l=none->Q (.ref l) (upd H l (.tup ys)))∨(SqT X.K H p ys/\Q (.ref p) H))):=by
 intro pins s σ H xs us Q I r h
 obtain⟨p,ys,rfl,h⟩:=h
 obtain⟨u,rfl,rx⟩:=vals1 r
 cases rx
 rcases h with ⟨hq,q⟩ |⟨hq,q⟩
 ·obtain⟨its,r',pl,hz⟩:=I.list hq
  have hlen:=r'.length
  refine call_tuple_list pl.isList (λh' kp=>?_) (by simp only[List.size_toArray]<;>omega)
  have I1:Inv X pins σ H { s with heap:=h' }:=I.kept (t':=s.toks) kp
  have I2:Inv X pins σ (upd H h'.objs.size (.tup ys)) { s with heap:=h'.push { cls:=.type "tuple",data:=.seq its.toArray } }:=
   I1.laid (t':=s.toks) (λb o e=>Heap.get?_push_of_some _ e) (Nat.le_refl _) (show ObjOk X.prog X.w _ _ _ (.tup ys) from⟨hz,its,r',TupN.new _ _⟩)
  exact⟨.ref h'.objs.size,_,I2,rfl,q _ (I1.hok.fresh (Nat.le_refl _))⟩
 ·obtain⟨its,r',pl,hz⟩:=I.tuple hq
  exact call_tuple_same pl ⟨.ref p,H,I,rfl,q⟩
def tyV (K:PySem.W.Frag)(T:String)(x:V)(H:Hp):Prop:=match x with
 | .str _=>T="str"
 | .int _=>T="int"
 | .ref p=>(T="list"/\∃ xs,SqL K H p xs)∨(T="tuple"/\((∃ o,K.lookup p=some o/\o.cls = .type "tuple"/\o.dict=none)∨∃ xs,Rd H p (.tup xs))) ∨
   (T="dict"/\((∃ kvs,H p=some (.dK kvs))∨∃ kvs,H p=some (.dT kvs)))∨(T="set"/\∃ S n,H p=some (.set S n))
 |_=>False
theorem Bi {pins:List (Addr×Obj)}{σ:St}{H:Hp}{s:Shared}{T:String}{x:V}{v:Value}(I:Inv X pins σ H s)(r:RelV x v)(ty:tyV X.K T x H) :
  s.TypeIs v T/\∀ a,v = .ref a->∃ ob,s.heap.get? a=some ob/\ob.dict=none:=by
 cases x with
 |str z =>
  obtain⟨t,rfl⟩:=r
  cases (show T="str" from ty)
  exact⟨typeIs_str s z t,λ_ e=>nomatch e⟩
 |int i =>
  obtain⟨t,rfl⟩:=r
  cases (show T="int" from ty)
  exact⟨typeIs_int s i t,λ_ e=>nomatch e⟩
 |ref p =>
  cases r
  rcases ty with ⟨rfl,xs,hq⟩ |⟨rfl,⟨o,hk,hc,hd⟩ |⟨xs,hr⟩⟩ |⟨rfl,hk⟩ |⟨rfl,S,n,hk⟩
  ·obtain⟨its,_,pl,_⟩:=I.list hq
   refine⟨pl.isList.typeIs,λa e=>?_⟩
   cases e
   obtain⟨o,n,e,c,hd,_⟩:=pl
   exact⟨o,e,hd⟩
  ·refine⟨⟨o,I.kIn p o hk,hc⟩,λa e=>?_⟩
   cases e
   exact⟨o,I.kIn _ o hk,hd⟩
  ·obtain⟨_,its,_,n,e⟩:=hr.ok I.hok
   refine⟨⟨_,e,rfl⟩,λa e2=>?_⟩
   cases e2
   exact⟨_,e,rfl⟩
  ·have z:∃ o,s.heap.get? p=some o/\o.ExactDict:=by
    rcases hk with ⟨kvs,hk⟩ |⟨kvs,hk⟩
    ·obtain⟨_,_,_,_,o,_,_,e,ex,_⟩:=I.hok p _ hk
     exact⟨o,e,ex⟩
    ·obtain⟨_,_,_,_,o,_,_,e,ex,_⟩:=I.hok p _ hk
     exact⟨o,e,ex⟩
   obtain⟨o,e,ex⟩:=z
   refine⟨⟨o,e,ex.1⟩,λa e2=>?_⟩
   cases e2
   exact⟨o,e,ex.2.1⟩
  ·obtain⟨o,_,_,_,e,ex,_⟩:=I.hok p _ hk
   refine⟨⟨o,e,ex.1⟩,λa e2=>?_⟩
   cases e2
   exact⟨o,e,ex.2.1⟩
 |_=>exact False.elim ty
def tBM (K:PySem.W.Frag)(T:String)(r:V->List V->Hp->VK->Prop)(to:TE)(t:TA):TE:=λσ H Q=>to σ H λx H1=>tyV K T x H1/\t σ H1 λxs H2=>r x xs H2 Q
variable {o e:Expr}{es:List Expr}{to:TE}{t:TA}{name:Str}{apos cpos:Pos}{T id:String}{r:V->List V->Hp->VK->Prop}
theorem A4 (pa:PlainAttrs T)(slot:Slot T name id)(hty:typeOf (.builtin id)=pure (.type "method_descriptor"))(hm:MtR X id r)(ho:PE X o to)(ha:PA X (e::es) t)
  (hbase:attributeBase o name X.env (eval o X.env)=eval o X.env:=by rfl)
  (hfew:((backTo cpos (starEach (e::es) X.env)).all (λx => !x.1)&&(backToKw cpos (keywordEach [] X.env)).all (λx=>x.1.isSome)
   && decide ((e::es).length+([]:List Keyword).length+(if ([]:List Keyword).isEmpty then 0 else 1)<30))=true:=by rfl)
  (hline:(apos.endLine==cpos.line)=true:=by rfl) (hs:starEach (e::es) X.env=(false,eval e X.env)::starEach es X.env:=by rfl) (hplain:(backTo cpos (starEach es X.env)).any (·.1)=false:=by rfl) :
  PE X (.Call (.Attribute o name apos) (e::es) [] cpos) (tBM X.K T r to t):=by
 intro pins s σ H Q I h
 refine wpAny_Call_method_late hbase hfew hline rfl (thn (ho pins s σ H _ I h) λv s1 ⟨x,H1,I1,r1,ty,q1⟩=>?_)
 obtain⟨h1,h2⟩:=Bi I1 r1 ty
 refine⟨T,id,pa,slot,hty,h1,h2,?_⟩
 have hA:=ha cpos pins s1 σ H1 _ I1 q1
 rw[hs] at hA ⊢
 refine Calls.callWith_builtin (by show (false ||(backTo cpos (starEach es X.env)).any (·.1))=false;rw[hplain]<;>rfl) (Calls.evalArgs_plain ?_)
 exact thn hA λus s2 ⟨vs,H2,I2,r2,q2⟩=>hm pins s2 σ H2 x vs v us Q I2 r1 r2 q2
end
def MtM (X:Cx)(id:String)(r:V->List V->Hp->VK->Prop):Prop:=
 ∀ (pins:List (Addr×Obj)) (s:Shared) (σ:St) (H:Hp) (x:V) (xs:List V) (v:Value) (us:List Value) (Q:VK),Inv X pins σ H s->RelV x v->Vals xs us->r x xs H Q ->
  wpAny (model X.prog X.w) X.A (call (.builtin id) (v::us)) (EP X pins σ Q) X.xe s
theorem Vals.one:∀ {x:V}{us:List Value},Vals [x] us->∃ u,us=[u]/\RelV x u
 |_,_,.cons r .nil=>⟨_,rfl,r⟩
theorem Vals.rep {xs:List V}{us:List Value}(h:Vals xs us):∀ k:Nat,Vals (List.replicate k xs).flatten (List.replicate k us).flatten
 | 0 => .nil
 |k+1=>by
  rw[List.replicate_succ,List.replicate_succ,List.flatten_cons,List.flatten_cons]
  exact Vals.append h (Vals.rep h k)
theorem foldl_rep (its:List Value):∀ (k:Nat) (acc:List Value),
  List.foldl (λx1 x2=>x1++x2) acc.toArray (List.replicate k its.toArray)=(acc++(List.replicate k its).flatten).toArray
 | 0,acc=>by simp
 |k+1,acc=>by
  have e:acc.toArray++its.toArray=(acc++its).toArray:=by simp
  have e2:(acc++its)++(List.replicate k its).flatten=acc++(List.replicate (k+1) its).flatten:=by
   rw[List.replicate_succ,List.flatten_cons,List.append_assoc]
  rw[← e2,← foldl_rep its k (acc++its),← e,List.replicate_succ,List.foldl_cons]
section
variable {X:Cx}{pins:List (Addr×Obj)}{σ:St}{H:Hp}{s:Shared}{l b:Addr}{xs ys zs:List V}
theorem Inv.lset {its its':List Value}{n:Nat}{f:Array Value->Array Value}{t':Nat}(I:Inv X pins σ H s)(hH:H l=some (.lst xs))
  (e:s.heap.get? l=some { cls:=.type "list",data:=.seq its.toArray n }) (hf:f its.toArray=its'.toArray) (hv:Vals ys its') (hz:ys.length<=sizeLine) :
  Inv X pins σ (upd H l (.lst ys)) { s with heap:=s.heap.update l (Obj.mapSeq f),toks:=t' }:=by
 have q:=PySem.IsL.update e f
 rw[hf] at q
 refine I.write (x:=l) (e:=l) (by rw[hH];exact trivial) (.inl rfl) (λb' u hb hu=>(Heap.get?_update_other s.heap (Obj.mapSeq f) (Ne.symm hb)).trans hu) ⟨_,q⟩ ?_
 exact⟨hz,its',_,hv,q⟩
theorem Inv.lnew {its:List Value}{t':Nat}(I:Inv X pins σ H s)(hv:Vals ys its)(hz:ys.length<=sizeLine) :
  Inv X pins σ (upd H s.heap.objs.size (.lst ys)) { s with heap:=s.heap.push { cls:=.type "list",data:=.seq its.toArray },toks:=t' }:=
 I.laid (λ_ _ q=>Heap.get?_push_of_some _ q) (Nat.le_refl _) ⟨hz,its,0,hv,Heap.get?_push_size _ rfl⟩
theorem Inv.fresh (I:Inv X pins σ H s):H s.heap.objs.size=none:=I.hok.fresh (Nat.le_refl _)
theorem Inv.lstM (I:Inv X pins σ H s)(hH:H l=some (.lst xs)):xs.length<=sizeLine/\∃ (its:List Value) (n:Nat),Vals xs its/\xs.length=its.length/\s.heap.get? l=some { cls:=.type "list",data:=.seq its.toArray n }:=by
 obtain⟨z,its,n,r,e⟩:=I.hok l _ hH
 exact⟨z,its,n,r,r.length,e⟩
end
section
variable {X:Cx}
def zP:V->List V->Hp->VK->Prop:=λx vs H Q => ∃ l xs y,x = .ref l/\vs=[y]/\H l=some (.lst xs)/\xs.length<sizeLine/\Q .non (upd H l (.lst (xs++[y])))
theorem wP:MtM X "list.append" zP:=by
 intro pins s σ H x vs v us Q I rx rv h
 obtain⟨l,xs,y,rfl,rfl,hH,hz,q⟩:=h
 cases rx
 obtain⟨u,rfl,ru⟩:=rv.one
 obtain⟨z,its,n,r,hl,e⟩:=I.lstM hH
 refine call_meets F.slot_list_append ⟨_,e,rfl⟩ F.entry_list_append (F.args_list_append_2 _ _) (PySem.list_append l its.toArray n u (by rw[List.size_toArray];omega)) ⟨e,?_⟩
 refine⟨.non,_,I.lset (its':=its++[u]) hH e (by simp) (r.append (.cons ru .nil)) ?_,rfl,q⟩
 rw[List.length_append,List.length_singleton]
 omega
theorem len_rep {α:Type}(xs:List α)(k:Nat):(List.replicate k xs).flatten.length=k*xs.length:=by
 induction k with
 |zero=>simp
 |succ k ih=>rw[List.replicate_succ,List.flatten_cons,List.length_append,ih,Nat.succ_mul,Nat.add_comm]
end
inductive D where
 |non |bl (b:Bool) |int (i:Int) |str (x:Str)
 |tup (xs:List D) |lst (xs:List D) |set (xs:List D) |loc (l:Nat) |fn (x:Str) (st:Stmt)
 deriving Inhabited
def TQ (K:PySem.W.Frag)(H:Hp)(J:List Addr)(a:Addr)(xs:List V):Prop:=
 (Rd H a (.tup xs)/\a∉J/\xs.length<=sizeLine)∨∃ (o:Obj) (its:Array Value) (n:Nat),K.lookup a=some o/\o.cls = .type "tuple"/\o.dict=none/\o.data = .seq its n/\its.size<=sizeLine/\Vals xs its.toList
def LQ (K:PySem.W.Frag)(H:Hp)(J:List Addr)(a:Addr)(xs:List V):Prop:=
 (Rd H a (.lst xs)/\a∉J/\xs.length<=sizeLine)∨∃ (o:Obj) (its:Array Value) (n:Nat),K.lookup a=some o/\o.cls = .type "list"/\o.dict=none/\o.data = .seq its n/\its.size<=sizeLine/\Vals xs its.toList
theorem TQ.sq {K:PySem.W.Frag}{H:Hp}{J:List Addr}{a:Addr}{xs:List V}(h:TQ K H J a xs):SqT K H a xs:=h.elim (λz => .inl z.1) λ⟨o,its,n,a,b,_,c⟩ => .inr ⟨o,its,n,a,b,c⟩
theorem LQ.sq {K:PySem.W.Frag}{H:Hp}{J:List Addr}{a:Addr}{xs:List V}(h:LQ K H J a xs):SqL K H a xs:=h.elim (λz => .inl z.1) .inr
def DL (a:Addr)(us:List Value):HO:=HO.ext λh => ∃ o es ep t,h.get? a=some o/\o.ExactSet/\o.data = .set es ep t/\(es.toList.map (·.2))=us/\t.fits es.size=true/\es.size<=sizeLine
def okS (x:Str):Prop:=x.length<=sizeLine/\PyData.strOk x=true
mutual
def At (K:PySem.W.Frag)(H:Hp)(J:List Addr):D->V->Prop
 | .non,v=>v = .non
 | .bl b,v=>v = .bl b
 | .int i,v=>v = .int i
 | .str x,v=>v = .str x/\okS x
 | .tup ds,v => ∃ a xs,v = .ref a/\TQ K H J a xs/\Ats K H J ds xs
 | .lst ds,v => ∃ a xs,v = .ref a/\LQ K H J a xs/\Ats K H J ds xs
 | .set ds,v => ∃ a us xs,v = .ref a/\H a=some (DL a us)/\a∉J/\Vals xs us/\Ats K H J ds xs
 | .loc l,v => ∃ a,v = .ref a/\J[l]?=some a
 | .fn x st,v => ∃ f fd,v = .ref f/\Fun K x x st f fd
def Ats (K:PySem.W.Frag)(H:Hp)(J:List Addr):List D->List V->Prop
 |[],vs=>vs=[]
 |d::ds,vs => ∃ v r,vs=v::r/\At K H J d v/\Ats K H J ds r
end
structure Ex (J:List Addr) (H:Hp) (J':List Addr) (H':Hp):Prop where
 pre:J <+: J'
 keep:∀ b o,H b=some o->b∉J->H' b=some o/\b∉J'
theorem Ex.refl {J:List Addr}{H:Hp}:Ex J H J H:=⟨List.prefix_refl _,λ_ _ h n=>⟨h,n⟩⟩
theorem Ex.trans {J J1 J2:List Addr}{H H1 H2:Hp}(a:Ex J H J1 H1)(b:Ex J1 H1 J2 H2):Ex J H J2 H2:=
 ⟨a.pre.trans b.pre,λc o h n=>let ⟨h1,n1⟩:=a.keep c o h n;b.keep c o h1 n1⟩
theorem Ex.same {J:List Addr}{H H':Hp}(s:Same H H'):Ex J H J H':=⟨List.prefix_refl _,λb o h n=>⟨s b o h,n⟩⟩
section
variable {K:PySem.W.Frag}{H H':Hp}{J J':List Addr}
theorem Rd.ex {a:Addr}{u:HO}(e:Ex J H J' H')(h:Rd H a u)(n:a∉J):Rd H' a u/\a∉J':=by
 rcases h with h |⟨o,h⟩
 ·exact⟨.inl (e.keep a _ h n).1,(e.keep a _ h n).2⟩
 ·exact⟨.inr ⟨o,(e.keep a _ h n).1⟩,(e.keep a _ h n).2⟩
theorem TQ.ex {a:Addr}{xs:List V}(e:Ex J H J' H')(h:TQ K H J a xs):TQ K H' J' a xs:=h.elim (λz => .inl ⟨(z.1.ex e z.2.1).1,(z.1.ex e z.2.1).2,z.2.2⟩) .inr
theorem LQ.ex {a:Addr}{xs:List V}(e:Ex J H J' H')(h:LQ K H J a xs):LQ K H' J' a xs:=h.elim (λz => .inl ⟨(z.1.ex e z.2.1).1,(z.1.ex e z.2.1).2,z.2.2⟩) .inr
theorem TQ.len {a:Addr}{xs:List V}(h:TQ K H J a xs):xs.length<=sizeLine:=by
 rcases h with ⟨_,_,z⟩ |⟨o,its,n,_,_,_,_,z,r⟩
 ·exact z
 ·have e:=Vals.length r
  simp only[Array.length_toList] at e
  omega
theorem LQ.len {a:Addr}{xs:List V}(h:LQ K H J a xs):xs.length<=sizeLine:=by
 rcases h with ⟨_,_,z⟩ |⟨o,its,n,_,_,_,_,z,r⟩
 ·exact z
 ·have e:=Vals.length r
  simp only[Array.length_toList] at e
  omega
theorem vd {α:Type}{l l':List α}(h:l <+: l'){i:Nat}{x : α}(e:l[i]?=some x):l'[i]?=some x:=by
 obtain⟨t,rfl⟩:=h
 rw[List.getElem?_append_left (List.getElem?_eq_some_iff.mp e).1];exact e
mutual
theorem At.ex (e:Ex J H J' H'):∀ {d:D}{v:V},At K H J d v->At K H' J' d v
 | .non,_,h=>by unfold At at h ⊢;exact h
 | .bl _,_,h=>by unfold At at h ⊢;exact h
 | .int _,_,h=>by unfold At at h ⊢;exact h
 | .str _,_,h=>by unfold At at h ⊢;exact h
 | .tup ds,_,h=>by unfold At at h ⊢;obtain⟨a,xs,rfl,q,r⟩:=h;exact⟨a,xs,rfl,q.ex e,Ats.ex e r⟩
 | .lst ds,_,h=>by unfold At at h ⊢;obtain⟨a,xs,rfl,q,r⟩:=h;exact⟨a,xs,rfl,q.ex e,Ats.ex e r⟩
 | .set ds,_,h=>by unfold At at h ⊢;obtain⟨a,us,xs,rfl,q,n,r,z⟩:=h;exact⟨a,us,xs,rfl,(e.keep a _ q n).1,(e.keep a _ q n).2,r,Ats.ex e z⟩
 | .loc l,_,h=>by unfold At at h ⊢;obtain⟨a,rfl,q⟩:=h;exact⟨a,rfl,vd e.pre q⟩
 | .fn _ _,_,h=>by unfold At at h ⊢;exact h
theorem Ats.ex (e:Ex J H J' H'):∀ {ds:List D}{vs:List V},Ats K H J ds vs->Ats K H' J' ds vs
 |[],_,h=>by unfold Ats at h ⊢;exact h
 |d::ds,_,h=>by unfold Ats at h ⊢;obtain⟨v,r,rfl,p,q⟩:=h;exact⟨v,r,rfl,At.ex e p,Ats.ex e q⟩
end
theorem At.non_iff {v:V}:At K H J .non v↔v = .non:=by unfold At;exact Iff.rfl
theorem At.bl_iff {b:Bool}{v:V}:At K H J (.bl b) v↔v = .bl b:=by unfold At;exact Iff.rfl
theorem At.int_iff {i:Int}{v:V}:At K H J (.int i) v↔v = .int i:=by unfold At;exact Iff.rfl
theorem At.str_iff {x:Str}{v:V}:At K H J (.str x) v↔v = .str x/\okS x:=by unfold At;exact Iff.rfl
theorem At.tup_iff {ds:List D}{v:V}:At K H J (.tup ds) v↔∃ a xs,v = .ref a/\TQ K H J a xs/\Ats K H J ds xs:=by unfold At;exact Iff.rfl
theorem At.lst_iff {ds:List D}{v:V}:At K H J (.lst ds) v↔∃ a xs,v = .ref a/\LQ K H J a xs/\Ats K H J ds xs:=by unfold At;exact Iff.rfl
theorem At.set_iff {ds:List D}{v:V}:At K H J (.set ds) v↔∃ a us xs,v = .ref a/\H a=some (DL a us)/\a∉J/\Vals xs us/\Ats K H J ds xs:=by unfold At;exact Iff.rfl
theorem At.loc_iff {l:Nat}{v:V}:At K H J (.loc l) v↔∃ a,v = .ref a/\J[l]?=some a:=by unfold At;exact Iff.rfl
theorem At.fn_iff {x:Str}{st:Stmt}{v:V}:At K H J (.fn x st) v↔∃ f fd,v = .ref f/\Fun K x x st f fd:=by unfold At;exact Iff.rfl
theorem Ats.nil_iff {vs:List V}:Ats K H J [] vs↔vs=[]:=by unfold Ats;exact Iff.rfl
theorem Ats.cons_iff {d:D}{ds:List D}{vs:List V}:Ats K H J (d::ds) vs↔∃ v r,vs=v::r/\At K H J d v/\Ats K H J ds r:=by
 constructor
 ·intro h;unfold Ats at h;exact h
 ·intro h;unfold Ats;exact h
theorem Ats.nil:Ats K H J [] []:=Ats.nil_iff.mpr rfl
theorem Ats.cons {d:D}{v:V}{ds:List D}{vs:List V}(h:At K H J d v)(r:Ats K H J ds vs):Ats K H J (d::ds) (v::vs):=Ats.cons_iff.mpr ⟨v,vs,rfl,h,r⟩
theorem Ats.uncons {d:D}{v:V}{ds:List D}{vs:List V}(h:Ats K H J (d::ds) (v::vs)):At K H J d v/\Ats K H J ds vs:=by
 obtain⟨_,_,e,p,q⟩:=Ats.cons_iff.mp h;cases e;exact⟨p,q⟩
theorem Ats.length:∀ {ds:List D}{vs:List V},Ats K H J ds vs->ds.length=vs.length
 |[],_,h=>by rw[Ats.nil_iff.mp h];rfl
 |d::ds,_,h=>by obtain⟨v,r,rfl,_,q⟩:=Ats.cons_iff.mp h;rw[List.length_cons,List.length_cons,Ats.length q]
theorem Ats.append:∀ {ds es:List D}{vs us:List V},Ats K H J ds vs->Ats K H J es us->Ats K H J (ds++es) (vs++us)
 |[],_,_,_,h,k=>by rw[Ats.nil_iff.mp h];exact k
 |d::ds,_,_,_,h,k=>by obtain⟨v,r,rfl,p,q⟩:=Ats.cons_iff.mp h;exact .cons p (Ats.append q k)
theorem Ats.get:∀ {ds:List D}{vs:List V}{i:Nat}{d:D},Ats K H J ds vs->ds[i]?=some d->∃ v,vs[i]?=some v/\At K H J d v
 |[],_,_,_,_,e=>by simp at e
 |d::ds,_,0,_,h,e=>by obtain⟨v,r,rfl,p,q⟩:=Ats.cons_iff.mp h;simp at e;subst e;exact⟨v,rfl,p⟩
 |d::ds,_,i+1,_,h,e=>by obtain⟨v,r,rfl,p,q⟩:=Ats.cons_iff.mp h;exact Ats.get (i:=i) q (by simpa using e)
theorem Ats.get':∀ {ds:List D}{vs:List V}{i:Nat}{v:V},Ats K H J ds vs->vs[i]?=some v->∃ d,ds[i]?=some d/\At K H J d v
 |[],_,_,_,h,e=>by rw[Ats.nil_iff.mp h] at e;simp at e
 |d::ds,_,0,_,h,e=>by obtain⟨v,r,rfl,p,q⟩:=Ats.cons_iff.mp h;simp at e;subst e;exact⟨d,rfl,p⟩
 |d::ds,_,i+1,_,h,e=>by obtain⟨v,r,rfl,p,q⟩:=Ats.cons_iff.mp h;exact Ats.get' (i:=i) q (by simpa using e)
theorem Ats.take:∀ {ds:List D}{vs:List V}(n:Nat),Ats K H J ds vs->Ats K H J (ds.take n) (vs.take n)
 |_,_,0,_=>by simpa using Ats.nil
 |[],_,_+1,h=>by rw[Ats.nil_iff.mp h];simpa using Ats.nil
 |d::ds,_,n+1,h=>by obtain⟨v,r,rfl,p,q⟩:=Ats.cons_iff.mp h;exact .cons p (Ats.take n q)
theorem Ats.drop:∀ {ds:List D}{vs:List V}(n:Nat),Ats K H J ds vs->Ats K H J (ds.drop n) (vs.drop n)
 |_,_,0,h=>h
 |[],_,_+1,h=>by rw[Ats.nil_iff.mp h];simpa using Ats.nil
 |d::ds,_,n+1,h=>by obtain⟨v,r,rfl,p,q⟩:=Ats.cons_iff.mp h;exact Ats.drop n q
theorem Ats.rep {ds:List D}{vs:List V}(h:Ats K H J ds vs):∀ k:Nat,Ats K H J (List.replicate k ds).flatten (List.replicate k vs).flatten
 | 0=>Ats.nil
 |k+1=>by rw[List.replicate_succ,List.replicate_succ,List.flatten_cons,List.flatten_cons];exact h.append (Ats.rep h k)
theorem Ats.ofInts:∀ (ns:List Int),Ats K H J (ns.map D.int) (ns.map V.int)
 |[] => .nil
 |n::ns => .cons (At.int_iff.mpr rfl) (Ats.ofInts ns)
theorem Ats.toInts:∀ {ns:List Int}{vs:List V},Ats K H J (ns.map D.int) vs->vs=ns.map V.int
 |[],_,h=>Ats.nil_iff.mp h
 |n::ns,_,h=>by obtain⟨v,r,rfl,p,q⟩:=Ats.cons_iff.mp h;rw[At.int_iff.mp p,Ats.toInts q];rfl
end
mutual
def toPy:D->Option PyData
 | .non=>some .none
 | .bl b=>some (.bool b)
 | .int i=>some (.int i)
 | .str x=>some (.str x)
 | .tup ds=>(da ds).map .tuple
 | .lst ds=>(da ds).map .list
 | .set _=>none
 | .loc _=>none
 | .fn _ _=>none
def da:List D->Option (List PyData)
 |[]=>some []
 |d::ds=>(toPy d).bind λp=>(da ds).map λr=>p::r
end
inductive MO where
 |dict (kvs:List (D×D)) |lst (xs:List D) |exc (c:Str) |dictN (kvs:List (D×D)) |ins (c:Str) (fs:List (Str×D))
 deriving Inhabited
abbrev Sto:=List MO
def e_:D->Option Key
 | .int i=>some (.inl i)
 | .str x=>some (.inr x)
 |_=>none
def ExO (a C:Addr):HO:=HO.ext λh => ∃ o,h.get? a=some o/\o.cls = .ref C
def fO (d:D):Option PyData:=(toPy d).bind λp=>if keyOk 8 p=true then some p else none
abbrev RKN (K:PySem.W.Frag)(H:Hp)(J:List Addr):(D×D)->(PyData×Addr×V)->Prop:=λp q=>(fO p.1=some q.1/\At K H J p.1 (.ref q.2.1))/\At K H J p.2 q.2.2
abbrev RFs (K:PySem.W.Frag)(H:Hp)(J:List Addr):(Str×D)->(Str×V)->Prop:=λp q=>p.1=q.1/\At K H J p.2 q.2
def MAt (K:PySem.W.Frag)(H:Hp)(J:List Addr):MO->Addr->Prop
 | .lst ds,a => ∃ xs,H a=some (.lst xs)/\Ats K H J ds xs
 | .dict kvs,a => ∃ ps:List (Key×V),H a=some (.dK ps)/\Paired (λ(p:D×D) (q:Key×V)=>(e_ p.1=some q.1/\At K H J p.1 (kV q.1))/\At K H J p.2 q.2) kvs ps
 | .exc c,a => ∃ C,PySem.W.nsIn K mainGlobals c=some (some (.ref C))/\H a=some (ExO a C)
 | .dictN kvs,a => ∃ ps:List (PyData×Addr×V),H a=some (.dN ps)/\Paired (RKN K H J) kvs ps
 | .ins c fs,a => ∃ C dx vs,PySem.W.nsIn K mainGlobals c=some (some (.ref C))/\H a=some (.ins C dx vs)/\Paired (RFs K H J) fs vs
structure StoOk (K:PySem.W.Frag) (J:List Addr) (S:Sto) (H:Hp):Prop where
 len:J.length=S.length
 nd:J.Nodup
 at_:∀ (l:Nat) (a:Addr) (o:MO),J[l]?=some a->S[l]?=some o->MAt K H J o a
section
variable {K:PySem.W.Frag}{H H':Hp}{J J':List Addr}{S:Sto}
theorem MAt.ne_none {o:MO}{a:Addr}(h:MAt K H J o a):H a≠none:=by
 cases o with
 |dict kvs=>obtain⟨_,e,_⟩:=h;rw[e];simp
 |lst xs=>obtain⟨_,e,_⟩:=h;rw[e];simp
 |exc c=>obtain⟨_,_,e⟩:=h;rw[e];simp
 |dictN kvs=>obtain⟨_,e,_⟩:=h;rw[e];simp
 |ins c fs=>obtain⟨_,_,_,_,e,_⟩:=h;rw[e];simp
theorem StoOk.tracked (s:StoOk K J S H){a:Addr}(h:a∈J):H a≠none:=by
 obtain⟨l,e⟩:=List.getElem?_of_mem h
 have hl:l<S.length:=by rw[← s.len];exact (List.getElem?_eq_some_iff.mp e).1
 exact (s.at_ l a _ e (List.getElem?_eq_getElem hl)).ne_none
theorem MAt.ex {o:MO}{a:Addr}(e:Ex J H J' H')(k:H' a=H a)(h:MAt K H J o a):MAt K H' J' o a:=by
 cases o with
 |dict kvs=>obtain⟨ps,q,r⟩:=h;exact⟨ps,k.trans q,Paired.mapP r λp q z=>⟨⟨z.1.1,z.1.2.ex e⟩,z.2.ex e⟩⟩
 |lst xs=>obtain⟨ys,q,r⟩:=h;exact⟨ys,k.trans q,r.ex e⟩
 |exc c=>obtain⟨C,q,r⟩:=h;exact⟨C,q,k.trans r⟩
 |dictN kvs=>obtain⟨ps,q,r⟩:=h;exact⟨ps,k.trans q,Paired.mapP r λp q z=>⟨⟨z.1.1,z.1.2.ex e⟩,z.2.ex e⟩⟩
 |ins c fs=>obtain⟨C,dx,vs,n,q,r⟩:=h;exact⟨C,dx,vs,n,k.trans q,Paired.mapP r λp q z=>⟨z.1,z.2.ex e⟩⟩
theorem StoOk.same (s:StoOk K J S H)(e:Same H H'):StoOk K J S H':=⟨s.len,s.nd,λl a o h1 h2=>by
 have q:=s.at_ l a o h1 h2
 refine q.ex (Ex.same e) ?_
 obtain⟨u,hu⟩:=Option.ne_none_iff_exists'.mp q.ne_none
 rw[hu];exact e a u hu⟩
end
theorem aS {H:Hp}{p:Addr}(h:H p=none)(o:HO):Same H (upd H p o):=λb u q=>by rw[aF (aN q h)];exact q
abbrev Rho:=List (Option D)
abbrev Out (α:Type):=Option (Except Str α×Sto)
abbrev WT:=Str->List Addr->Sto->Hp->Prop
noncomputable def ag {α β:Type}(m:Out α) (k : α->Sto->Out β):Out β:=
 match m with
 |none=>none
 |some (.error c,S)=>some (.error c,S)
 |some (.ok a,S)=>k a S
noncomputable def okO {α:Type}(a : α) (S:Sto):Out α:=some (.ok a,S)
@[simp] theorem bJ {α β:Type}(a : α)(S:Sto)(k : α->Sto->Out β):ag (okO a S) k=k a S:=rfl
@[simp] theorem jY {α β:Type}(a : α)(S:Sto)(k : α->Sto->Out β):ag (some (.ok a,S)) k=k a S:=rfl
@[simp] theorem CL {α β:Type}(c:Str)(S:Sto)(k : α->Sto->Out β):ag (some (.error c,S)) k=some (.error c,S):=rfl
@[simp] theorem CB {α β:Type}(k : α->Sto->Out β):ag none k=none:=rfl
noncomputable def aL {α:Type}(a:Option α) (S:Sto):Out α:=a.map λa=>(.ok a,S)
@[simp] theorem cy {α:Type}(a : α)(S:Sto):aL (some a) S=okO a S:=rfl
@[simp] theorem CK {α:Type}(S:Sto):aL (none:Option α) S=none:=rfl
structure Cf (X:Cx) (J:List Addr) (ρ:Rho) (S:Sto) (σ:St) (H:Hp):Prop where
 len : ρ.length = σ.length
 env:∀ (i:Nat) (d:D),ρ[i]?=some (some d)->∃ v,σ[i]?=some (some v)/\At X.K H J d v
 sto:StoOk X.K J S H
theorem Cf.re {X:Cx}{J J':List Addr}{ρ:Rho}{S S':Sto}{σ:St}{H H':Hp}(c:Cf X J ρ S σ H)(e:Ex J H J' H')(s:StoOk X.K J' S' H'):Cf X J' ρ S' σ H':=
 ⟨c.len,λi d h=>let ⟨v,h1,h2⟩:=c.env i d h;⟨v,h1,h2.ex e⟩,s⟩
def EK {α β:Type}(X:Cx)(W:WT)(R:List Addr->Hp->α->β->Prop)(J:List Addr)(H:Hp)(r:Except Str α)(S':Sto)(Q : β->Hp->Prop):Prop:=
 match r with
 | .ok a => ∀ J' H' b,Ex J H J' H'->StoOk X.K J' S' H'->R J' H' a b->Q b H'
 | .error c => ∀ J' H',Ex J H J' H'->StoOk X.K J' S' H'->W c J' S' H'
def tG {α β:Type}(X:Cx)(W:WT)(R:List Addr->Hp->α->β->Prop)(ds:List D)(vs:List V)(g:Rho->Sto->Out α):St->Hp->(β->Hp->Prop)->Prop:=λσ H Q =>
 ∃ J ρ S r S',Cf X J ρ S σ H/\Ats X.K H J ds vs/\g ρ S=some (r,S')/\EK X W R J H r S' Q
abbrev RD (X:Cx):List Addr->Hp->D->V->Prop:=λJ H d v=>At X.K H J d v
abbrev RDs (X:Cx):List Addr->Hp->List D->List V->Prop:=λJ H d v=>Ats X.K H J d v
abbrev RB:List Addr->Hp->Bool->Bool->Prop:=λ_ _ a b=>a=b
def tE (X:Cx)(W:WT)(g:Rho->Sto->Out D):TE:=tG X W (RD X) [] [] g
def tA (X:Cx)(W:WT)(g:Rho->Sto->Out (List D)):TA:=tG X W (RDs X) [] [] g
def tT (X:Cx)(W:WT)(g:Rho->Sto->Out Bool):TT:=tG X W RB [] [] g
def SE (X:Cx)(W:WT)(e:Expr)(g:Rho->Sto->Out D):Prop:=PE X e (tE X W g)
def SA (X:Cx)(W:WT)(es:List Expr)(g:Rho->Sto->Out (List D)):Prop:=PA X es (tA X W g)
def TS1 (X:Cx)(W:WT)(e:Expr)(g:Rho->Sto->Out Bool):Prop:=PT X e (tT X W g)
def SW (X:Cx)(W:WT)(e:Expr)(g:Rho->Sto->Out Bool):Prop:=PW X e (tT X W g)
theorem PE.imp {X:Cx}{e:Expr}{t t':TE}(h:PE X e t)(i:∀ σ H Q,t' σ H Q->t σ H Q):PE X e t':=λpins s σ H Q I z=>h pins s σ H Q I (i σ H Q z)
theorem PT.imp {X:Cx}{e:Expr}{t t':TT}(h:PT X e t)(i:∀ σ H Q,t' σ H Q->t σ H Q):PT X e t':=λpins s σ H Q I z=>h pins s σ H Q I (i σ H Q z)
theorem PW.imp {X:Cx}{e:Expr}{t t':TT}(h:PW X e t)(i:∀ σ H Q,t' σ H Q->t σ H Q):PW X e t':=λwh pins s σ H Q I z=>h wh pins s σ H Q I (i σ H Q z)
theorem PA.imp {X:Cx}{e:List Expr}{t t':TA}(h:PA X e t)(i:∀ σ H Q,t' σ H Q->t σ H Q):PA X e t':=λpos pins s σ H Q I z=>h pos pins s σ H Q I (i σ H Q z)
section
variable {X:Cx}{W:WT}{α β γ:Type}{R:List Addr->Hp->γ->β->Prop}
theorem tG.bindE {fa:Rho->Sto->Out D}{k:D->Rho->Sto->Out γ}{ds:List D}{vs:List V}{σ:St}{H:Hp}{Q : β->Hp->Prop}
  (h:tG X W R ds vs (λρ S=>ag (fa ρ S) λd S1=>k d ρ S1) σ H Q):tE X W fa σ H λv H1 => ∃ d,tG X W R (d::ds) (v::vs) (k d) σ H1 Q:=by
 obtain⟨J,ρ,S,r,S',c,a,e,z⟩:=h
 cases q:fa ρ S with
 |none=>simp[q] at e
 |some o =>
  obtain⟨ro,S1⟩:=o
  simp only[q] at e
  cases ro with
  |error x =>
   cases e
   exact⟨J,ρ,S,.error x,_,c,.nil,q,z⟩
  |ok d =>
   refine⟨J,ρ,S,.ok d,S1,c,.nil,q,λJ1 H1 v x s1 m=>⟨d,J1,ρ,S1,r,S',c.re x s1,.cons m (a.ex x),e,?_⟩⟩
   cases r with
   |ok g=>exact λJ2 H2 b x2 s2 r2=>z J2 H2 b (x.trans x2) s2 r2
   |error g=>exact λJ2 H2 x2 s2=>z J2 H2 (x.trans x2) s2
theorem tG.bindA {fa:Rho->Sto->Out (List D)}{k:List D->Rho->Sto->Out γ}{ds:List D}{vs:List V}{σ:St}{H:Hp}{Q : β->Hp->Prop}
  (h:tG X W R ds vs (λρ S=>ag (fa ρ S) λd S1=>k d ρ S1) σ H Q):tA X W fa σ H λus H1 => ∃ es,es.length=us.length/\tG X W R (es++ds) (us++vs) (k es) σ H1 Q:=by
 obtain⟨J,ρ,S,r,S',c,a,e,z⟩:=h
 cases q:fa ρ S with
 |none=>simp[q] at e
 |some o =>
  obtain⟨ro,S1⟩:=o
  simp only[q] at e
  cases ro with
  |error x =>
   cases e
   exact⟨J,ρ,S,.error x,_,c,.nil,q,z⟩
  |ok d =>
   refine⟨J,ρ,S,.ok d,S1,c,.nil,q,λJ1 H1 v x s1 m=>⟨d,Ats.length m,J1,ρ,S1,r,S',c.re x s1,Ats.append m (a.ex x),e,?_⟩⟩
   cases r with
   |ok g=>exact λJ2 H2 b x2 s2 r2=>z J2 H2 b (x.trans x2) s2 r2
   |error g=>exact λJ2 H2 x2 s2=>z J2 H2 (x.trans x2) s2
theorem tG.bindT {fa:Rho->Sto->Out Bool}{k:Bool->Rho->Sto->Out γ}{ds:List D}{vs:List V}{σ:St}{H:Hp}{Q : β->Hp->Prop}
  (h:tG X W R ds vs (λρ S=>ag (fa ρ S) λd S1=>k d ρ S1) σ H Q):tT X W fa σ H λb H1=>tG X W R ds vs (k b) σ H1 Q:=by
 obtain⟨J,ρ,S,r,S',c,a,e,z⟩:=h
 cases q:fa ρ S with
 |none=>simp[q] at e
 |some o =>
  obtain⟨ro,S1⟩:=o
  simp only[q] at e
  cases ro with
  |error x =>
   cases e
   exact⟨J,ρ,S,.error x,_,c,.nil,q,z⟩
  |ok d =>
   refine⟨J,ρ,S,.ok d,S1,c,.nil,q,λJ1 H1 v x s1 m=>?_⟩
   cases m
   refine⟨J1,ρ,S1,r,S',c.re x s1,a.ex x,e,?_⟩
   cases r with
   |ok g=>exact λJ2 H2 b x2 s2 r2=>z J2 H2 b (x.trans x2) s2 r2
   |error g=>exact λJ2 H2 x2 s2=>z J2 H2 (x.trans x2) s2
end
section
variable {X:Cx}{pins:List (Addr×Obj)}{σ:St}{H:Hp}{s:Shared}{J:List Addr}
mutual
theorem At.reads (I:Inv X pins σ H s):∀ {d:D}{v:V}{u:Value}{p:PyData},At X.K H J d v->RelV v u->toPy d=some p->p.canLay0=true/\∃ as,Reads s.heap u p as
 | .non,_,_,_,h,r,e=>by
  have h:=At.non_iff.mp h;subst h;simp[toPy] at e;subst e;cases r;exact⟨rfl,[],.none⟩
 | .bl b,_,_,_,h,r,e=>by
  have h:=At.bl_iff.mp h;subst h;simp[toPy] at e;subst e;cases r;exact⟨rfl,[],.bool b⟩
 | .int i,_,_,_,h,r,e=>by
  have h:=At.int_iff.mp h;subst h;simp[toPy] at e;subst e;obtain⟨t,rfl⟩:=r;exact⟨rfl,[],.int i t⟩
 | .str x,_,_,_,h,r,e=>by
  obtain⟨ev,hk⟩:=At.str_iff.mp h;subst ev;simp[toPy] at e;subst e;obtain⟨t,rfl⟩:=r
  exact⟨by rw[PyData.canLay0];exact hk.2,[],.str x t⟩
 | .tup ds,_,_,_,h,r,e=>by
  obtain⟨a,xs,rfl,q,z⟩:=At.tup_iff.mp h
  rw[toPy] at e
  obtain⟨ps,e1,e2⟩:=Option.map_eq_some_iff.mp e
  subst e2
  cases r
  obtain⟨its,rv,⟨o,ho,hc,n,hd⟩,_⟩:=I.tuple q.sq
  obtain⟨c,as,ra⟩:=Ats.readsAll I z rv e1
  exact⟨by rw[PyData.canLay0];exact c,_,.tuple ho hc hd (by simpa using ra)⟩
 | .lst ds,_,_,_,h,r,e=>by
  obtain⟨a,xs,rfl,q,z⟩:=At.lst_iff.mp h
  rw[toPy] at e
  obtain⟨ps,e1,e2⟩:=Option.map_eq_some_iff.mp e
  subst e2
  cases r
  obtain⟨its,rv,⟨o,n,ho,hc,_,hd⟩,_⟩:=I.list q.sq
  obtain⟨c,as,ra⟩:=Ats.readsAll I z rv e1
  exact⟨by rw[PyData.canLay0];exact c,_,.list ho hc hd (by simpa using ra)⟩
 | .set _,_,_,_,_,_,e=>by simp[toPy] at e
 | .loc _,_,_,_,_,_,e=>by simp[toPy] at e
 | .fn _ _,_,_,_,_,_,e=>by simp[toPy] at e
theorem Ats.readsAll (I:Inv X pins σ H s):∀ {ds:List D}{vs:List V}{us:List Value}{ps:List PyData},Ats X.K H J ds vs->Vals vs us->da ds=some ps->PyData.canLayAll0 ps=true/\∃ as,ReadsAll s.heap us ps as
 |[],_,_,_,h,r,e=>by
  have h:=Ats.nil_iff.mp h;subst h;simp[da] at e;subst e;cases r;exact⟨rfl,[],.nil⟩
 |d::ds,_,_,_,h,r,e=>by
  obtain⟨v,vs,rfl,p,q⟩:=Ats.cons_iff.mp h
  rw[da] at e
  obtain⟨pd,e1,e2⟩:=Option.bind_eq_some_iff.mp e
  obtain⟨pr,e3,e4⟩:=Option.map_eq_some_iff.mp e2
  subst e4
  cases r with
  |cons r1 r2 =>
   obtain⟨c1,as,ra⟩:=At.reads I p r1 e1
   obtain⟨c2,bs,rb⟩:=Ats.readsAll I q r2 e3
   exact⟨by rw[PyData.canLayAll0,c1,c2];rfl,_,.cons ra rb⟩
end
end
section
variable {K:PySem.W.Frag}
def rD1 (K:PySem.W.Frag)(g:D->Option D):V->Hp->VK->Prop:=λx H Q => ∃ J dx d,(∀ a∈J,H a≠none)/\At K H J dx x/\g dx=some d/\∀ H' v,Same H H'->At K H' J d v->Q v H'
def rD2 (K:PySem.W.Frag)(g:D->D->Option D):R2:=λx y H Q => ∃ J dx dy d,(∀ a∈J,H a≠none)/\At K H J dx x/\At K H J dy y/\g dx dy=some d/\∀ H' v,Same H H'->At K H' J d v->Q v H'
def rDs (K:PySem.W.Frag)(g:List D->Option D):List V->Hp->VK->Prop:=λxs H Q => ∃ J ds d,(∀ a∈J,H a≠none)/\Ats K H J ds xs/\g ds=some d/\∀ H' v,Same H H'->At K H' J d v->Q v H'
end
theorem vD {H:Hp}{J:List Addr}(h:∀ a∈J,H a≠none){p:Addr}(n:H p=none):p∉J:=λm=>h p m n
theorem At.newTup {K:PySem.W.Frag}{H:Hp}{J:List Addr}{p:Addr}{ds:List D}{xs:List V}(h:Ats K H J ds xs)(n:H p=none)(hJ:∀ a∈J,H a≠none)(hz:xs.length<=sizeLine):At K (upd H p (.tup xs)) J (.tup ds) (.ref p):=
 At.tup_iff.mpr ⟨p,xs,rfl,.inl ⟨.inl upd_same,vD hJ n,hz⟩,h.ex (Ex.same (aS n _))⟩
theorem At.newLst {K:PySem.W.Frag}{H:Hp}{J:List Addr}{p:Addr}{ds:List D}{xs:List V}(h:Ats K H J ds xs)(n:H p=none)(hJ:∀ a∈J,H a≠none)(hz:xs.length<=sizeLine):At K (upd H p (.lst xs)) J (.lst ds) (.ref p):=
 At.lst_iff.mpr ⟨p,xs,rfl,.inl ⟨.inl upd_same,vD hJ n,hz⟩,h.ex (Ex.same (aS n _))⟩
section
variable {X:Cx}{W:WT}
theorem tG.mono {α β:Type}{R:List Addr->Hp->α->β->Prop}{ds:List D}{vs:List V}{g:Rho->Sto->Out α}{σ:St}{H:Hp}{Q Q' : β->Hp->Prop}(h:tG X W R ds vs g σ H Q)(i:∀ b H',Q b H'->Q' b H'):tG X W R ds vs g σ H Q':=by
 obtain⟨J,ρ,S,r,S',c,a,e,z⟩:=h
 refine⟨J,ρ,S,r,S',c,a,e,?_⟩
 cases r with
 |ok g=>exact λJ' H' b x s r=>i _ _ (z J' H' b x s r)
 |error g=>exact z
theorem StoOk.all {K:PySem.W.Frag}{J:List Addr}{S:Sto}{H:Hp}(s:StoOk K J S H):∀ a∈J,H a≠none:=λ_ m=>s.tracked m
theorem tG.op1 {g:D->Option D}{dx:D}{x:V}{σ:St}{H:Hp}{Q:VK}(h:tG X W (RD X) [dx] [x] (λ_ S=>aL (g dx) S) σ H Q):rD1 X.K g x H Q:=by
 obtain⟨J,ρ,S,r,S',c,a,e,z⟩:=h
 obtain⟨ax,_⟩:=a.uncons
 cases q:g dx with
 |none=>simp[q] at e
 |some d =>
  simp only[q,cy,okO] at e
  cases e
  exact⟨J,dx,d,c.sto.all,ax,q,λH' v s m=>z J H' v (Ex.same s) (c.sto.same s) m⟩
theorem tG.op2 {g:D->D->Option D}{dx dy:D}{x y:V}{σ:St}{H:Hp}{Q:VK}(h:tG X W (RD X) [dy,dx] [y,x] (λ_ S=>aL (g dx dy) S) σ H Q):rD2 X.K g x y H Q:=by
 obtain⟨J,ρ,S,r,S',c,a,e,z⟩:=h
 obtain⟨ay,a⟩:=a.uncons
 obtain⟨ax,_⟩:=a.uncons
 cases q:g dx dy with
 |none=>simp[q] at e
 |some d =>
  simp only[q,cy,okO] at e
  cases e
  exact⟨J,dx,dy,d,c.sto.all,ax,ay,q,λH' v s m=>z J H' v (Ex.same s) (c.sto.same s) m⟩
theorem tG.opS {g:List D->Option D}{ds:List D}{xs:List V}{σ:St}{H:Hp}{Q:VK}(h:tG X W (RD X) ds xs (λ_ S=>aL (g ds) S) σ H Q):rDs X.K g xs H Q:=by
 obtain⟨J,ρ,S,r,S',c,a,e,z⟩:=h
 cases q:g ds with
 |none=>simp[q] at e
 |some d =>
  simp only[q,cy,okO] at e
  cases e
  exact⟨J,ds,d,c.sto.all,a,q,λH' v s m=>z J H' v (Ex.same s) (c.sto.same s) m⟩
abbrev OpD (X:Cx)(f:Value->Value->Sem Value)(g:D->D->Option D):Prop:=OpR X f (rD2 X.K g)
abbrev UnD (X:Cx)(f:Value->Sem Value)(g:D->Option D):Prop:=UnR X f (rD1 X.K g)
abbrev n8 (X:Cx)(f:Value)(g:List D->Option D):Prop:=CallR X f (rDs X.K g)
noncomputable def ae (i:Nat):Rho->Sto->Out D:=λρ S=>match ρ[i]? with
 |some (some d)=>okO d S
 |_=>none
theorem ab {i:Nat}{x:Str}{pos:Pos}(hN:X.N[i]?=some x:=by rfl)(hv:Vis X.env.scope x:=by first |exact Or.inl rfl |exact Or.inr (Or.inl rfl) |exact Or.inr (Or.inr rfl))(hd:(x==("__debug__":Str))=false:=by decide)
  (hcd:(x==("__classdict__":Str))=false:=by decide):SE X W (.Name x pos) (ae i):=(xX hN hv hd hcd).imp λσ H Q h=>by
 obtain⟨J,ρ,S,r,S',c,_,e,z⟩:=h
 unfold ae at e
 split at e
 ·rename_i d q
  obtain⟨v,h1,h2⟩:=c.env i d q
  cases e
  exact⟨v,h1,z J H v Ex.refl c.sto h2⟩
 ·cases e
def aB (d:D):Rho->Sto->Out D:=λ_ S=>okO d S
theorem jj {d:D}{v:V}{σ:St}{H:Hp}{Q:VK}(h:tE X W (aB d) σ H Q)(a:∀ J,At X.K H J d v):Q v H:=by
 obtain⟨J,ρ,S,r,S',c,_,e,z⟩:=h
 cases e
 exact z J H v Ex.refl c.sto (a J)
theorem ao {i j pos}:SE X W (.Constant (.int i) j pos) (aB (.int i)):=pe_int.imp λσ H Q h=>jj h λ_=>At.int_iff.mpr rfl
theorem kf {b j pos}:SE X W (.Constant (.bool b) j pos) (aB (.bl b)):=pe_bl.imp λσ H Q h=>jj h λ_=>At.bl_iff.mpr rfl
theorem ud {j pos}:SE X W (.Constant .none j pos) (aB .non):=pe_non.imp λσ H Q h=>jj h λ_=>At.non_iff.mpr rfl
theorem jH {x j pos}(hx:okS x:=by exact⟨by decide,by decide +kernel⟩):SE X W (.Constant (.str x) j pos) (aB (.str x)):=pe_str.imp λσ H Q h=>jj h λ_=>At.str_iff.mpr ⟨rfl,hx⟩
def DO (K:PySem.W.Frag)(u:Value)(d:D):Prop:=∃ v,RelV v u/\∀ H J,At K H J d v
theorem zM {x:Str}{d:D}{u:Value}{pos:Pos}(hm:X.mg x=some u)(ha:DO X.K u d)(hg:Gl X x:=by rfl)(hd:(x==("__debug__":Str))=false:=by decide):SE X W (.Name x pos) (aB d):=by
 obtain⟨v,r,a⟩:=ha
 exact (z8 hg hm r hd).imp λσ H Q h=>jj h λJ=>a H J
def aE (g:D->D->Option D)(fa fb:Rho->Sto->Out D):Rho->Sto->Out D:=λρ S=>ag (fa ρ S) λx S1=>ag (fb ρ S1) λy S2=>aL (g x y) S2
def cUn (g:D->Option D)(fa:Rho->Sto->Out D):Rho->Sto->Out D:=λρ S=>ag (fa ρ S) λx S1=>aL (g x) S1
variable {a b c:Expr}{fa fb fc:Rho->Sto->Out D}{pos:Pos}
theorem kK {g:D->D->Option D}{σ:St}{H:Hp}{Q:VK}(h:tE X W (aE g fa fb) σ H Q):tOp (rD2 X.K g) (tE X W fa) (tE X W fb) σ H Q:=
 (tG.bindE h).mono λv H1 ⟨d,h1⟩=>(tG.bindE h1).mono λv2 H2 ⟨d2,h2⟩=>tG.op2 h2
theorem aC {op:Operator}{g:D->D->Option D}(ho:OpD X (binaryOp op) g)(ha:SE X W a fa)(hb:SE X W b fb):SE X W (.BinOp a op b pos) (aE g fa fb):=
 (Df ho ha hb).imp λσ H Q h=>kK h
theorem AX {op:UnaryOp}{g:D->Option D}(ho:UnD X (unaryOp op) g)(ha:SE X W a fa):SE X W (.UnaryOp op a pos) (cUn g fa):=
 (De ho ha).imp λσ H Q h=>(tG.bindE h).mono λv H1 ⟨d,h1⟩=>tG.op1 h1
theorem qe {op:CmpOp}{g:D->D->Option D}(ho:OpD X (compareOp op) g)(ha:SE X W a fa)(hb:SE X W b fb)(hm:behindInMarks op b=false:=by first |exact yh _ (by decide) (by decide) |with_unfolding_all rfl):SE X W (.Compare a [op] [b] pos) (aE g fa fb):=
 (z_ ho ha hb hm).imp λσ H Q h=>kK h
def blO:D->Option Bool
 | .bl b=>some b
 |_=>none
def bf (f:Rho->Sto->Out D):Rho->Sto->Out Bool:=λρ S=>ag (f ρ S) λx S1=>aL (blO x) S1
theorem iB {f:Rho->Sto->Out D}{σ:St}{H:Hp}{Q:Bool->Hp->Prop}(h:tT X W (bf f) σ H Q):tTest (tE X W f) σ H Q:=
 (tG.bindE h).mono λv H1 ⟨d,h1⟩=>by
  obtain⟨J,ρ,S,r,S',c,m,e,z⟩:=h1
  obtain⟨m,_⟩:=m.uncons
  cases d with
  |bl k =>
   cases e
   exact⟨k,At.bl_iff.mp m,z J H1 k Ex.refl c.sto rfl⟩
  |_=>simp[blO] at e
theorem tTest.mono {t t':TE}(i:∀ σ H Q,t' σ H Q->t σ H Q){σ:St}{H:Hp}{Q:Bool->Hp->Prop}(h:tTest t' σ H Q):tTest t σ H Q:=i _ _ _ h
theorem bN {op:CmpOp}{g:D->D->Option D}(ho:OpD X (compareOp op) g)(ha:SE X W a fa)(hb:SE X W b fb)(hm:behindInMarks op b=false:=by first |exact yh _ (by decide) (by decide) |with_unfolding_all rfl) :
  TS1 X W (.Compare a [op] [b] pos) (bf (aE g fa fb)):=
 (zQ ho ha hb hm).imp λσ H Q h=>tTest.mono (λ_ _ _=>kK) (iB h)
theorem pR (ha:SE X W a fa)(he:∀ whole,isTrue a X.env whole=(do let v ← whole;standAt a.pos;holding [v] (truthy v)):=by intro _;rfl):TS1 X W a (bf fa):=
 (BL ha he).imp λσ H Q h=>iB h
def Cy (g g':D->D->Option D)(fa fb fc:Rho->Sto->Out D):Rho->Sto->Out D:=λρ S=>ag (fa ρ S) λx S1=>ag (fb ρ S1) λy S2=>ag (aL ((g x y).bind blO) S2) λk S3 =>
 if k=true then ag (fc ρ S3) λz S4=>aL (g' y z) S4 else okO (.bl false) S3
def DI (f g:Rho->Sto->Out Bool):Rho->Sto->Out Bool:=λρ S=>ag (f ρ S) λk S1=>if k=true then g ρ S1 else okO false S1
def n0 (f g:Rho->Sto->Out Bool):Rho->Sto->Out Bool:=λρ S=>ag (f ρ S) λk S1=>if k=true then okO true S1 else g ρ S1
def zb (f:Rho->Sto->Out Bool):Rho->Sto->Out Bool:=λρ S=>ag (f ρ S) λk S1=>okO (!k) S1
variable {ga gb:Rho->Sto->Out Bool}{rest:List Expr}
theorem qr {k:Bool}{σ:St}{H:Hp}{Q:Bool->Hp->Prop}(h:tG X W RB [] [] (λ_ S=>okO k S) σ H Q):Q k H:=by
 obtain⟨J,ρ,S,r,S',c,_,e,z⟩:=h
 cases e
 exact z J H k Ex.refl c.sto rfl
theorem tZ (ha:TS1 X W a ga):SW X W (.BoolOp .Or [a] pos) ga:=BH ha
theorem uZ (ha:TS1 X W a ga)(hb:SW X W (.BoolOp .Or (b::rest) pos) gb):SW X W (.BoolOp .Or (a::b::rest) pos) (n0 ga gb):=
 (C9 ha hb).imp λσ H Q h=>(tG.bindT h).mono λk H1 h1=>by
  cases k with
  |true=>rw[if_pos rfl];exact qr h1
  |false=>rw[if_neg (by decide)];exact h1
theorem pS {e:Expr}(h:SW X W e ga):TS1 X W e ga:=PW.pt h
theorem Bk (ha:TS1 X W a ga):TS1 X W (.UnaryOp .Not a pos) (zb ga):=(BM ha).imp λσ H Q h=>(tG.bindT h).mono λk H1 h1=>qr h1
def xl (f g:Rho->Sto->Out D):Rho->Sto->Out D:=λρ S=>ag (f ρ S) λx S1=>ag (aL (blO x) S1) λk S2=>if k=true then g ρ S2 else okO (.bl false) S2
def cOr (f g:Rho->Sto->Out D):Rho->Sto->Out D:=λρ S=>ag (f ρ S) λx S1=>ag (aL (blO x) S1) λk S2=>if k=true then okO (.bl true) S2 else g ρ S2
def EH (f:Rho->Sto->Out D):Rho->Sto->Out D:=λρ S=>ag (f ρ S) λx S1=>ag (aL (blO x) S1) λk S2=>okO (.bl (!k)) S2
theorem blv {f:Rho->Sto->Out D}{k:Bool->Rho->Sto->Out D}{σ:St}{H:Hp}{Q:VK}(h:tE X W (λρ S=>ag (f ρ S) λx S1=>ag (aL (blO x) S1) λb S2=>k b ρ S2) σ H Q) :
  tE X W f σ H λx H1 => ∃ c,x = .bl c/\tE X W (k c) σ H1 Q:=(tG.bindE h).mono λv H1 ⟨d,h1⟩=>by
 obtain⟨J,ρ,S,r,S',c,m,e,z⟩:=h1
 obtain⟨m,_⟩:=m.uncons
 cases d with
 |bl b=>exact⟨b,At.bl_iff.mp m,J,ρ,S,r,S',c,.nil,e,z⟩
 |_=>simp[blO] at e
theorem B5 {k:Bool}{σ:St}{H:Hp}{Q:VK}(h:tE X W (λ_ S=>okO (.bl k) S) σ H Q):Q (.bl k) H:=jj (d:=.bl k) h λ_=>At.bl_iff.mpr rfl
theorem Bw {op}(ha:SE X W a fa):SE X W (.BoolOp op [a] pos) fa:=BV ha
theorem Bz (ha:SE X W a fa)(hb:SE X W (.BoolOp .And (b::rest) pos) fb):SE X W (.BoolOp .And (a::b::rest) pos) (xl fa fb):=
 (BY ha hb).imp λσ H Q h=>(blv (k:=λk ρ S=>if k=true then fb ρ S else okO (.bl false) S) h).mono λv H1 ⟨k,e,h1⟩=>⟨k,e,by
  cases k with
  |true=>rw[if_pos rfl];exact h1
  |false=>rw[if_neg (by decide)];exact B5 h1⟩
def tw (t:Rho->Sto->Out Bool)(f g:Rho->Sto->Out D):Rho->Sto->Out D:=λρ S=>ag (t ρ S) λk S1=>if k=true then f ρ S1 else g ρ S1
theorem kU (hc:TS1 X W c ga)(ha:SE X W a fa)(hb:SE X W b fb):SE X W (.IfExp c a b pos) (tw ga fa fb):=
 (x9 hc ha hb).imp λσ H Q h=>(tG.bindT h).mono λk H1 h1=>by
  cases k with
  |true=>rw[if_pos rfl];exact h1
  |false=>rw[if_neg (by decide)];exact h1
def ah:Rho->Sto->Out (List D):=λ_ S=>okO [] S
def ac (f:Rho->Sto->Out D)(g:Rho->Sto->Out (List D)):Rho->Sto->Out (List D):=λρ S=>ag (f ρ S) λd S1=>ag (g ρ S1) λds S2=>okO (d::ds) S2
variable {es:List Expr}{gs:Rho->Sto->Out (List D)}
theorem af:SA X W [] ah:=pa_nil.imp λσ H Q h=>by
 obtain⟨J,ρ,S,r,S',c,_,e,z⟩:=h
 cases e
 exact z J H _ Ex.refl c.sto .nil
theorem aa {e:Expr}(ha:SE X W e fa)(hr:SA X W es gs)(hs:starEach (e::es) X.env=(false,eval e X.env)::starEach es X.env:=by rfl):SA X W (e::es) (ac fa gs):=
 (fR ha hr hs).imp λσ H Q h=>(tG.bindE h).mono λv H1 ⟨d,h1⟩=>(tG.bindA h1).mono λus H2 ⟨ds,hl,h2⟩=>by
  obtain⟨J,ρ,S,r,S',c,m,e,z⟩:=h2
  cases e
  refine z J H2 _ Ex.refl c.sto ?_
  have split:∀ {ds:List D}{us:List V},ds.length=us.length->Ats X.K H2 J (ds++[d]) (us++[v])->Ats X.K H2 J ds us/\At X.K H2 J d v:=by
   intro ds
   induction ds with
   |nil=>intro us hl m;cases us with
    |nil=>exact⟨.nil,m.uncons.1⟩
    |cons _ _=>simp at hl
   |cons x xs ih=>intro us hl m;cases us with
    |nil=>simp at hl
    |cons y ys =>
     have q:=Ats.uncons (show Ats X.K H2 J (x::(xs++[d])) (y::(ys++[v])) from m)
     have q2:=ih (by simpa using hl) q.2
     exact⟨.cons q.1 q2.1,q2.2⟩
  have q:=split hl m
  exact .cons q.2 q.1
def szO (ds:List D)(d:D):Option D:=if ds.length<=sizeLine then some d else none
def ip (g:Rho->Sto->Out (List D)):Rho->Sto->Out D:=λρ S=>ag (g ρ S) λds S1=>aL (szO ds (.tup ds)) S1
def zj (g:Rho->Sto->Out (List D)):Rho->Sto->Out D:=λρ S=>ag (g ρ S) λds S1=>aL (szO ds (.lst ds)) S1
theorem cW {k}(h:SA X W es gs):SE X W (.Tuple es k pos) (ip gs):=(BU h).imp λσ H Q h=>(tG.bindA h).mono λus H1 ⟨ds,hl,h1⟩=>by
 rw[List.append_nil,List.append_nil] at h1
 obtain⟨J,ρ,S,r,S',c,m,e,z⟩:=h1
 unfold szO at e
 split at e
 ·rename_i le
  cases e
  exact⟨by rw[← hl];exact le,λp hp=>z J _ _ (Ex.same (aS hp _)) (c.sto.same (aS hp _)) (At.newTup m hp c.sto.all (by rw[← hl];exact le))⟩
 ·cases e
theorem qd (h:SA X W es gs):SE X W (.List es pos) (zj gs):=(xZ h).imp λσ H Q h=>(tG.bindA h).mono λus H1 ⟨ds,hl,h1⟩=>by
 rw[List.append_nil,List.append_nil] at h1
 obtain⟨J,ρ,S,r,S',c,m,e,z⟩:=h1
 unfold szO at e
 split at e
 ·rename_i le
  cases e
  exact⟨by rw[← hl];exact le,λp hp=>z J _ _ (Ex.same (aS hp _)) (c.sto.same (aS hp _)) (At.newLst m hp c.sto.all (by rw[← hl];exact le))⟩
 ·cases e
def b8 (g:List D->Option D)(t:Rho->Sto->Out (List D)):Rho->Sto->Out D:=λρ S=>ag (t ρ S) λds S1=>aL (g ds) S1
theorem nU {g:List D->Option D}{σ:St}{H:Hp}{Q:VK}(h:tE X W (b8 g gs) σ H Q):tCB (rDs X.K g) (tA X W gs) σ H Q:=
 (tG.bindA h).mono λus H1 ⟨ds,hl,h1⟩=>by
  rw[List.append_nil,List.append_nil] at h1
  exact tG.opS h1
theorem cE {g:List D->Option D}{id:String}{x:Str}{p:Pos}{e:Expr}(hc:n8 X (.builtin id) g)(hm:X.mg x=none)(hv:bootBuiltins x=some (.builtin id))(ha:SA X W (e::es) gs)(hg:Gl X x:=by rfl)
  (hn:x≠"__name__":=by decide) (hdb:(x==("__debug__":Str))=false:=by decide) (he:starEach (e::es) X.env=(false,eval e X.env)::starEach es X.env:=by rfl) (hpl:(backTo pos (starEach es X.env)).any (·.1)=false:=by rfl) :
  SE X W (.Call (.Name x p) (e::es) [] pos) (b8 g gs):=by
 refine PE.imp (ku hc hg hm hv ha hn hdb he hpl) λσ H Q h=>nU h
theorem b6 {g:List D->Option D}{T:String}{x:Str}{p:Pos}{e:Expr}(hc:n8 X (.type T) g)(hm:X.mg x=none)(hv:bootBuiltins x=some (.type T))(ha:SA X W (e::es) gs)(hg:Gl X x:=by rfl)
  (hn:x≠"__name__":=by decide) (hdb:(x==("__debug__":Str))=false:=by decide) (he:starEach (e::es) X.env=(false,eval e X.env)::starEach es X.env:=by rfl) (hpl:(backTo pos (starEach es X.env)).any (·.1)=false:=by rfl) :
  SE X W (.Call (.Name x p) (e::es) [] pos) (b8 g gs):=by
 refine PE.imp (lc hc hg hm hv ha hn hdb he hpl) λσ H Q h=>nU h
end
section
variable {X:Cx}
theorem pX {x y:Str}(hx:PyData.strOk x=true)(hy:PyData.strOk y=true):PyData.strOk (x++y)=true:=by
 unfold PyData.strOk at *
 rw[show (x++y).cps=x.cps++y.cps from rfl,Array.all_append,hx,hy];rfl
def bX:D->D->Option D
 | .int i,.int j=>some (.int (i+j))
 | .str x,.str y=>if x.length+y.length<=sizeLine then some (.str (x++y)) else none
 | .tup xs,.tup ys=>if xs.length+ys.length<=sizeLine then some (.tup (xs++ys)) else none
 | .lst xs,.lst ys=>if xs.length+ys.length<=sizeLine then some (.lst (xs++ys)) else none
 |_,_=>none
theorem y8 {prog:Program}{w:World}{A:Around}{E:Value->Shared->Prop}{s:Shared}{t b:Addr}{vs ws:List Value}{Q:Value->Shared->Prop}(ht:IsTup s.heap t vs.toArray)(hb:IsTup s.heap b ws.toArray)(hv:vs=[])
  (h1:Q (.ref b) s):wpAny (model prog w) A (binaryOp .Add (.ref t) (.ref b)) Q E s:=by
 obtain⟨⟨cls,dd,data,sl⟩,ho,hc,n,hd⟩:=id ht
 obtain⟨⟨cls2,dd2,data2,sl2⟩,ho2,hc2,n2,hd2⟩:=id hb
 simp only at hc hd hc2 hd2
 subst hc hd hc2 hd2
 exact concat_meets ⟨_,ho,rfl⟩ ⟨_,ho2,rfl⟩ noFill_tuple_add seq_tuple_add PySem.F.slot_tuple_add PySem.F.entry_tuple_add (PySem.F.args_tuple_add_2 _ _)
   (tuple_addW0 t b vs.toArray ws.toArray n n2 dd dd2 sl sl2 (by simp[hv])) ⟨ho,ho2,h1⟩
theorem uH {prog:Program}{w:World}{A:Around}{E:Value->Shared->Prop}{s:Shared}{t b:Addr}{vs ws:Array Value}{Q:Value->Shared->Prop}(ht:PlainL s.heap t vs)(hb:PlainL s.heap b ws)
  (h:Q (.ref s.heap.objs.size) { s with heap:=s.heap.push { cls:=.type "list",data:=.seq (vs++ws) } }) (hsz:vs.size+ws.size<=sizeLine):wpAny (model prog w) A (binaryOp .Add (.ref t) (.ref b)) Q E s:=by
 obtain⟨⟨cls,dd,data,sl⟩,n,ho,hc,_,hd⟩:=id ht
 obtain⟨⟨cls2,dd2,data2,sl2⟩,n2,ho2,hc2,_,hd2⟩:=id hb
 simp only at hc hd hc2 hd2
 subst hc hd hc2 hd2
 exact concat_meets ⟨_,ho,rfl⟩ ⟨_,ho2,rfl⟩ noFill_list_add seq_list_add PySem.F.slot_list_add PySem.F.entry_list_add (PySem.F.args_list_add_2 _ _)
   (list_addW t b vs ws n n2 dd dd2 sl sl2 hsz) ⟨ho,ho2,h⟩
theorem mZ (x y:Str):(x++y).length=x.length+y.length:=by
 show (x.cps++y.cps).size=_
 rw[Array.size_append];rfl
theorem bn:OpD X (binaryOp .Add) bX:=by
 intro pins s σ H x y v u Q I rx ry h
 obtain⟨J,dx,dy,d,hJ,ax,ay,e,q⟩:=h
 unfold bX at e
 split at e
 ·rename_i i j
  cases e
  cases At.int_iff.mp ax;cases At.int_iff.mp ay
  exact B4 pins s σ H _ _ v u Q I rx ry ⟨i,j,rfl,rfl,q H _ (Same.refl H) (At.int_iff.mpr rfl)⟩
 ·rename_i a b
  split at e
  ·rename_i le
   cases e
   obtain⟨ex,kx⟩:=At.str_iff.mp ax;obtain⟨ey,ky⟩:=At.str_iff.mp ay
   subst ex ey
   exact uq pins s σ H _ _ v u Q I rx ry ⟨a,b,rfl,rfl,le,q H _ (Same.refl H) (At.str_iff.mpr ⟨rfl,by rw[mZ];exact le,pX kx.2 ky.2⟩)⟩
  ·cases e
 ·rename_i xs ys
  split at e
  ·rename_i le
   cases e
   obtain⟨a,us,rfl,t1,m1⟩:=At.tup_iff.mp ax
   obtain⟨b,ws,rfl,t2,m2⟩:=At.tup_iff.mp ay
   by_cases hu:us=[]
   ·subst hu
    cases rx;cases ry
    obtain⟨its,r1,p1,_⟩:=I.tuple t1.sq
    obtain⟨its2,r2,p2,_⟩:=I.tuple t2.sq
    have xs0:xs=[]:=List.length_eq_zero_iff.mp m1.length
    subst xs0
    refine y8 p1 p2 (r1.nil_iff.mpr rfl) ⟨.ref b,H,I,rfl,q H _ (Same.refl H) ay⟩
   ·refine Ad pins s σ H _ _ v u Q I rx ry ⟨a,b,us,ws,rfl,rfl,t1.sq,t2.sq,hu,by rw[← m1.length,← m2.length];exact le,λhw=>?_,λhw p hp=>?_⟩
    ·subst hw
     have ys0:ys=[]:=List.length_eq_zero_iff.mp m2.length
     subst ys0
     exact q H _ (Same.refl H) (by rw[List.append_nil];exact ax)
    ·exact q _ _ (aS hp _) (At.newTup (m1.append m2) hp hJ (by rw[List.length_append,← m1.length,← m2.length];exact le))
  ·cases e
 ·rename_i xs ys
  split at e
  ·rename_i le
   cases e
   obtain⟨a,us,rfl,t1,m1⟩:=At.lst_iff.mp ax
   obtain⟨b,ws,rfl,t2,m2⟩:=At.lst_iff.mp ay
   cases rx;cases ry
   obtain⟨its,r1,p1,_⟩:=I.list t1.sq
   obtain⟨its2,r2,p2,_⟩:=I.list t2.sq
   have hz:us.length+ws.length<=sizeLine:=by rw[← m1.length,← m2.length];exact le
   have hp:=I.fresh
   refine uH p1 p2 ?_ (by rw[List.size_toArray,List.size_toArray,← r1.length,← r2.length];exact hz)
   show EP X pins σ Q (.ref s.heap.objs.size) { s with heap:=s.heap.push { cls:=.type "list",data:=.seq (its.toArray++its2.toArray) } }
   refine⟨.ref s.heap.objs.size,_,?_,rfl,q _ _ (aS hp (.lst (us++ws))) (At.newLst (m1.append m2) hp hJ (by rw[List.length_append];exact hz))⟩
   have z:=I.lnew (its:=its++its2) (t':=s.toks) (r1.append r2) (by rw[List.length_append];exact hz)
   simpa using z
  ·cases e
 ·cases e
def rD:D->D->Option D
 | .int i,.int j=>some (.int (i-j))
 |_,_=>none
def lW (i j:Int):Bool:=(decide (-(2 ^ 64)<i)&&decide (i<2 ^ 64)) ||(decide (-(2 ^ 64)<j)&&decide (j<2 ^ 64))
theorem Ap {i j:Int}(h:lW i j=true):CMul i j:=by
 unfold lW at h
 rw[Bool.or_eq_true,Bool.and_eq_true,Bool.and_eq_true] at h
 rcases h with ⟨a,b⟩ |⟨a,b⟩
 ·exact .inl ⟨of_decide_eq_true a,of_decide_eq_true b⟩
 ·exact .inr ⟨of_decide_eq_true a,of_decide_eq_true b⟩
def eD:D->D->Option D
 | .int i,.int j=>if 0<j/\j<1073741824 then some (.int (i / j)) else none
 |_,_=>none
def cb:D->D->Option D
 | .int i,.int j=>if 0<j then some (.int (i % j)) else none
 |_,_=>none
def Ak:D->Option D
 | .int i=>some (.int (-i))
 |_=>none
theorem qt:OpD X (binaryOp .Sub) rD:=by
 intro pins s σ H x y v u Q I rx ry h
 obtain⟨J,dx,dy,d,hJ,ax,ay,e,q⟩:=h
 unfold rD at e
 split at e
 ·rename_i i j
  cases e
  cases At.int_iff.mp ax;cases At.int_iff.mp ay
  exact BZ pins s σ H _ _ v u Q I rx ry ⟨i,j,rfl,rfl,q H _ (Same.refl H) (At.int_iff.mpr rfl)⟩
 ·cases e
theorem gZ:OpD X (binaryOp .FloorDiv) eD:=by
 intro pins s σ H x y v u Q I rx ry h
 obtain⟨J,dx,dy,d,hJ,ax,ay,e,q⟩:=h
 unfold eD at e
 split at e
 ·rename_i i j
  split at e
  ·rename_i c
   cases e
   cases At.int_iff.mp ax;cases At.int_iff.mp ay
   exact Ac pins s σ H _ _ v u Q I rx ry ⟨i,j,rfl,rfl,c,q H _ (Same.refl H) (At.int_iff.mpr rfl)⟩
  ·cases e
 ·cases e
theorem cB:OpD X (binaryOp .Mod) cb:=by
 intro pins s σ H x y v u Q I rx ry h
 obtain⟨J,dx,dy,d,hJ,ax,ay,e,q⟩:=h
 unfold cb at e
 split at e
 ·rename_i i j
  split at e
  ·rename_i c
   cases e
   cases At.int_iff.mp ax;cases At.int_iff.mp ay
   exact B1 pins s σ H _ _ v u Q I rx ry ⟨i,j,rfl,rfl,c,q H _ (Same.refl H) (At.int_iff.mpr rfl)⟩
  ·cases e
 ·cases e
theorem xy:UnD X (unaryOp .USub) Ak:=by
 intro pins s σ H x v Q I rx h
 obtain⟨J,dx,d,hJ,ax,e,q⟩:=h
 unfold Ak at e
 split at e
 ·rename_i i
  cases e
  cases At.int_iff.mp ax
  exact Bh pins s σ H _ v Q I rx ⟨i,rfl,q H _ (Same.refl H) (At.int_iff.mpr rfl)⟩
 ·cases e
def eqD (x y:D):Option D:=match toPy x,toPy y with
 |some p,some q=>if min p.depth q.depth<=150 then some (.bl (PyData.eqv p q)) else none
 |_,_=>none
def neD (x y:D):Option D:=match toPy x,toPy y with
 |some p,some q=>if min p.depth q.depth<=150 then some (.bl (!PyData.eqv p q)) else none
 |_,_=>none
theorem ia (hu:X.A.units+150<cLine):OpD X (compareOp .Eq) eqD:=by
 intro pins s σ H x y v u Q I rx ry h
 obtain⟨J,dx,dy,d,hJ,ax,ay,e,q⟩:=h
 unfold eqD at e
 split at e
 ·rename_i p p' e1 e2
  split at e
  ·rename_i le
   cases e
   obtain⟨c1,as,r1⟩:=ax.reads I rx e1
   obtain⟨c2,bs,r2⟩:=ay.reads I ry e2
   exact SeqAt.compareEq_reads r1 r2 c1 c2 (by omega) ⟨.bl (PyData.eqv p p'),H,I,rfl,q H _ (Same.refl H) (At.bl_iff.mpr rfl)⟩
  ·cases e
 ·cases e
theorem kA (hu:X.A.units+150<cLine):OpD X (compareOp .NotEq) neD:=by
 intro pins s σ H x y v u Q I rx ry h
 obtain⟨J,dx,dy,d,hJ,ax,ay,e,q⟩:=h
 unfold neD at e
 split at e
 ·rename_i p p' e1 e2
  split at e
  ·rename_i le
   cases e
   obtain⟨c1,as,r1⟩:=ax.reads I rx e1
   obtain⟨c2,bs,r2⟩:=ay.reads I ry e2
   exact SeqAt.compareNe_reads r1 r2 c1 c2 (by omega) ⟨.bl (!PyData.eqv p p'),H,I,rfl,q H _ (Same.refl H) (At.bl_iff.mpr rfl)⟩
  ·cases e
 ·cases e
def ltS (x y:Str):Bool:=decide (x.cps.toList<y.cps.toList)
def ltD:D->D->Option D
 | .int i,.int j=>some (.bl (decide (i<j)))
 | .str x,.str y=>some (.bl (ltS x y))
 |_,_=>none
theorem Dj:OpD X (compareOp .Lt) ltD:=by
 intro pins s σ H x y v u Q I rx ry h
 obtain⟨J,dx,dy,d,hJ,ax,ay,e,q⟩:=h
 unfold ltD at e
 split at e
 ·rename_i i j
  cases e
  cases At.int_iff.mp ax;cases At.int_iff.mp ay
  exact Dh pins s σ H _ _ v u Q I rx ry ⟨i,j,rfl,rfl,q H _ (Same.refl H) (At.bl_iff.mpr rfl)⟩
 ·rename_i a b
  cases e
  cases (At.str_iff.mp ax).1;cases (At.str_iff.mp ay).1
  exact wI pins s σ H _ _ v u Q I rx ry ⟨a,b,rfl,rfl,q H _ (Same.refl H) (At.bl_iff.mpr rfl)⟩
 ·cases e
def yD:D->Bool
 | .non=>true
 |_=>false
def isD:D->D->Option D
 |x,.non=>some (.bl (yD x))
 |_,_=>none
theorem B6 {K:PySem.W.Frag}{H:Hp}{J:List Addr}{d:D}{x:V}(h:At K H J d x):decide (x = .non)=yD d:=by
 cases d with
 |non=>cases At.non_iff.mp h;rfl
 |bl b=>cases At.bl_iff.mp h;rfl
 |int i=>cases At.int_iff.mp h;rfl
 |str i=>cases (At.str_iff.mp h).1;rfl
 |tup ds=>obtain⟨a,_,rfl,_⟩:=At.tup_iff.mp h;rfl
 |lst ds=>obtain⟨a,_,rfl,_⟩:=At.lst_iff.mp h;rfl
 |set ds=>obtain⟨a,_,_,rfl,_⟩:=At.set_iff.mp h;rfl
 |loc l=>obtain⟨a,rfl,_⟩:=At.loc_iff.mp h;rfl
 |fn _ _=>obtain⟨a,_,rfl,_⟩:=At.fn_iff.mp h;rfl
theorem Dk:OpD X (compareOp .Is) isD:=by
 intro pins s σ H x y v u Q I rx ry h
 obtain⟨J,dx,dy,d,hJ,ax,ay,e,q⟩:=h
 unfold isD at e
 split at e
 ·cases e
  cases At.non_iff.mp ay
  exact B3 pins s σ H _ _ v u Q I rx ry ⟨rfl,by rw[B6 ax];exact q H _ (Same.refl H) (At.bl_iff.mpr rfl)⟩
 ·cases e
end
section
variable {X:Cx}{W:WT}
def ub:D->Option (List D)
 | .tup xs=>some xs
 | .lst xs=>some xs
 |_=>none
def uD (x y:D):Option Bool:=match toPy x,(ub y).bind da with
 |some p,some qs=>if p.depth<=150 then some (qs.any λq=>PyData.eqv q p) else none
 |_,_=>none
def inD (x y:D):Option D:=(uD x y).map .bl
def qv (x y:D):Option D:=(uD x y).map λb => .bl (!b)
noncomputable def on (h:Heap) (p:PyData) (u:Value):Bool:=by
 classical exact if H:∃ q as,Reads h u q as/\q.canLay0=true then PyData.eqv H.choose p else false
theorem vF {h:Heap}{p q:PyData}{u:Value}{as:List Addr}(r:Reads h u q as)(c:q.canLay0=true):on h p u=PyData.eqv q p:=by
 unfold on
 have H:∃ q as,Reads h u q as/\q.canLay0=true:=⟨q,as,r,c⟩
 rw[dif_pos H]
 obtain⟨as',r',c'⟩:=H.choose_spec
 rw[SeqAt.Reads.unique _ _ _ _ _ c r r']
theorem vS {h:Heap}{p:PyData}:∀ {us:List Value}{qs:List PyData}{as:List Addr},ReadsAll h us qs as->PyData.canLayAll0 qs=true->us.any (on h p)=qs.any λq=>PyData.eqv q p
 |_,_,_,.nil,_=>rfl
 |_,_,_,.cons r t,c=>by
  rw[PyData.canLayAll0,Bool.and_eq_true] at c
  rw[List.any_cons,List.any_cons,vF r c.1,vS t c.2]
theorem oV {h:Heap}:∀ {us:List Value}{qs:List PyData}{as:List Addr},ReadsAll h us qs as->PyData.canLayAll0 qs=true->∀ u∈us,∃ q bs,Reads h u q bs/\q.canLay0=true
 |_,_,_,.nil,_,u,m=>by simp at m
 |_,_,_,.cons r t,c,u,m=>by
  rw[PyData.canLayAll0,Bool.and_eq_true] at c
  rcases List.mem_cons.mp m with e |m
  ·subst e;exact⟨_,_,r,c.1⟩
  ·exact oV t c.2 u m
theorem vy {neg:Bool}{op:CmpOp}(hu:X.A.units+151<cLine)
  (hL:∀ {s:Shared}{l:Addr}{items:Array Value}{x:Value}{Q:Value->Shared->Prop}(e:Value->Bool),s.heap.IsList l items->(∀ y∈items,SeqAt.EqAt X.A.in1 s y x (e y))->Q (.bool (if neg then !items.any e else items.any e)) s->wpAny (model X.prog X.w) X.A (compareOp op x (.ref l)) Q X.xe s)
  (hT:∀ {s:Shared}{l:Addr}{items:Array Value}{x:Value}{Q:Value->Shared->Prop}(e:Value->Bool),IsTup s.heap l items->(∀ y∈items,SeqAt.EqAt X.A.in1 s y x (e y))->Q (.bool (if neg then !items.any e else items.any e)) s->wpAny (model X.prog X.w) X.A (compareOp op x (.ref l)) Q X.xe s) :
  OpD X (compareOp op) (λx y=>(uD x y).map λb => .bl (if neg then !b else b)):=by
 intro pins s σ H x y v u Q I rx ry h
 obtain⟨J,dx,dy,d,hJ,ax,ay,e,q⟩:=h
 obtain⟨b,e1,e2⟩:=Option.map_eq_some_iff.mp e
 subst e2
 unfold uD at e1
 split at e1
 ·rename_i p qs ep eq
  split at e1
  ·rename_i le
   cases e1
   obtain⟨ds,es,ed⟩:=Option.bind_eq_some_iff.mp eq
   obtain⟨c1,as,r1⟩:=ax.reads I rx ep
   have fin:∀ {us:List Value}{as:List Addr},ReadsAll s.heap us qs as->PyData.canLayAll0 qs=true->EP X pins σ Q (.bool (if neg then !us.toArray.any (on s.heap p) else us.toArray.any (on s.heap p))) s:=λ{us as} ra c=>by
    rw[show us.toArray.any (on s.heap p)=us.any (on s.heap p) by simp,vS ra c]
    exact⟨.bl _,H,I,rfl,q H _ (Same.refl H) (At.bl_iff.mpr rfl)⟩
   have ev:∀ {us:List Value}{as:List Addr},ReadsAll s.heap us qs as->PyData.canLayAll0 qs=true->∀ y∈us.toArray,SeqAt.EqAt X.A.in1 s y v (on s.heap p y):=λ{us as} ra c y hy=>by
    obtain⟨q',bs,r',c'⟩:=oV ra c y (by simpa using hy)
    rw[vF r' c']
    exact SeqAt.eqAt_reads q' p X.A.in1 s y v bs _ r' r1 c' c1 (by show X.A.units+1+min q'.depth p.depth<cLine;omega)
   cases dy with
   |tup ys =>
    cases es
    obtain⟨a,xs,rfl,t,m⟩:=At.tup_iff.mp ay
    cases ry
    obtain⟨its,rv,pl,_⟩:=I.tuple t.sq
    obtain⟨c2,bs,r2⟩:=Ats.readsAll I m rv ed
    exact hT (on s.heap p) pl (ev r2 c2) (fin r2 c2)
   |lst ys =>
    cases es
    obtain⟨a,xs,rfl,t,m⟩:=At.lst_iff.mp ay
    cases ry
    obtain⟨its,rv,pl,_⟩:=I.list t.sq
    obtain⟨c2,bs,r2⟩:=Ats.readsAll I m rv ed
    exact hL (on s.heap p) pl.isList (ev r2 c2) (fin r2 c2)
   |_=>simp[ub] at es
  ·cases e1
 ·cases e1
theorem A5 (hu:X.A.units+151<cLine):OpD X (compareOp .In) inD:=
 vy (neg:=false) hu (λe hl he q=>SeqAt.in_listAt e hl he q) (λe hl he q=>SeqAt.in_tupleAt e hl he q)
theorem yf (hu:X.A.units+151<cLine):OpD X (compareOp .NotIn) qv:=
 vy (neg:=true) hu (λe hl he q=>SeqAt.notIn_listAt e hl he q) (λe hl he q=>SeqAt.notIn_tupleAt e hl he q)
theorem i_ {x:Str}(h:PyData.strOk x=true){c:Nat}(m:c∈x.cps.toList):c<0x110000:=by
 unfold PyData.strOk at h
 rw[Array.all_eq_true'] at h
 exact of_decide_eq_true (h c (Array.mem_toList_iff.mp m))
theorem j7 {l:List Nat}(h:∀ c∈l,c<0x110000):PyData.strOk ⟨l.toArray⟩=true:=by
 unfold PyData.strOk
 rw[Array.all_eq_true']
 intro c m
 exact decide_eq_true (h c (by simpa using m))
def ixD:D->D->Option D
 | .tup xs,.int i=>atI xs i
 | .lst xs,.int i=>atI xs i
 | .str x,.int i=>(atI x.cps.toList i).map λc => .str ⟨#[c]⟩
 |_,_=>none
theorem uL {K:PySem.W.Frag}{H:Hp}{J:List Addr}{ds:List D}{vs:List V}{i:Int}{d:D}(m:Ats K H J ds vs)(h:atI ds i=some d):∃ v,atI vs i=some v/\At K H J d v:=by
 unfold atI at h ⊢
 rw[← m.length]
 obtain⟨j,e1,e2⟩:=Option.bind_eq_some_iff.mp h
 obtain⟨v,e3,a⟩:=m.get e2
 exact⟨v,by rw[e1];exact e3,a⟩
def IxD (X:Cx)(g:D->D->Option D):Prop:=IxR X (rD2 X.K g)
theorem ixd:IxD X ixD:=by
 intro value slice pins s σ H x y v u Q I rx ry h hs
 obtain⟨J,dx,dy,d,hJ,ax,ay,e,q⟩:=h
 unfold ixD at e
 split at e
 ·rename_i xs i
  obtain⟨a,us,rfl,t,m⟩:=At.tup_iff.mp ax
  cases At.int_iff.mp ay
  obtain⟨w,e1,a1⟩:=uL m e
  exact Cj value slice pins s σ H _ _ v u Q I rx ry ⟨a,us,i,w,rfl,rfl,t.sq,e1,q H _ (Same.refl H) a1⟩ hs
 ·rename_i xs i
  obtain⟨a,us,rfl,t,m⟩:=At.lst_iff.mp ax
  cases At.int_iff.mp ay
  obtain⟨w,e1,a1⟩:=uL m e
  exact vt value slice pins s σ H _ _ v u Q I rx ry ⟨a,us,i,w,rfl,rfl,t.sq,e1,q H _ (Same.refl H) a1⟩ hs
 ·rename_i z i
  obtain⟨ex,kx⟩:=At.str_iff.mp ax
  subst ex
  cases At.int_iff.mp ay
  obtain⟨c,e1,e2⟩:=Option.map_eq_some_iff.mp e
  subst e2
  refine Ck value slice pins s σ H _ _ v u Q I rx ry ⟨z,i,c,rfl,rfl,kx.1,e1,q H _ (Same.refl H) (At.str_iff.mpr ⟨rfl,by show 1<=sizeLine;decide,j7 (l:=[c]) λc' m=>?_⟩)⟩ hs
  obtain⟨j,_,e4,_⟩:=mM e1
  rw[List.mem_singleton.mp m]
  exact i_ kx.2 (List.mem_of_getElem? e4)
 ·cases e
variable {a b c:Expr}{fa fb fc:Rho->Sto->Out D}{pos:Pos}
theorem AY {g:D->D->Option D}(hr:IxD X g)(ha:SE X W a fa)(hb:SE X W b fb)(hs:mO b:=by exact λ_ _=>rfl):SE X W (.Subscript a b pos) (aE g fa fb):=
 (A3 hr ha hb hs).imp λσ H Q h=>kK h
def gj {α:Type}(xs:List α)(lo hi:Option Int):List α:=(xs.drop (HT.sIx xs.length 0 lo)).take (HT.sIx xs.length xs.length hi-HT.sIx xs.length 0 lo)
def qQ (x:Str)(lo hi:Option Int):Str:=⟨(gj x.cps.toList lo hi).toArray⟩
def slD (d:D)(lo hi:Option Int):Option D:=match d with
 | .tup xs=>some (.tup (gj xs lo hi))
 | .lst xs=>some (.lst (gj xs lo hi))
 | .str x=>some (.str (qQ x lo hi))
 |_=>none
theorem Ats.cut {K:PySem.W.Frag}{H:Hp}{J:List Addr}{ds:List D}{vs:List V}(m:Ats K H J ds vs)(lo hi:Option Int):Ats K H J (gj ds lo hi) (sT vs lo hi):=by
 unfold gj sT
 rw[← m.length]
 exact (m.drop _).take _
theorem nS {α:Type}{xs:List α}{lo hi:Option Int}(h:HT.sIx xs.length 0 lo=0/\HT.sIx xs.length xs.length hi=xs.length):gj xs lo hi=xs:=by
 unfold gj
 rw[h.1,h.2];simp
theorem lU (n:Nat)(lo hi:Option Int):Builtin.Str.strSliceIndices lo hi 1 n=sliceRange ((HT.sIx n 0 lo:Nat):Int) ((HT.sIx n n hi:Nat):Int) 1:=by
 unfold Builtin.Str.strSliceIndices
 have h:=j8 lo hi n
 unfold sliceBounds at h
 simp only[Option.getD_none] at h
 have h1:=h.1
 have h2:=h.2.1
 show sliceRange _ _ 1=_
 rw[← h1,← h2]
 cases lo<;>cases hi<;>rfl
theorem t6 (x:Str)(lo hi:Option Int):(Builtin.Str.strSliceIndices lo hi 1 x.length).filterMap (x.cps[·]?)=gj x.cps.toList lo hi:=by
 have hl:x.cps.toList.length=x.length:=by simp[Str.length]
 rw[lU,sliceRange_one,pick_run]
 unfold gj
 rw[hl]
theorem t9 (x:Str)(t:Tok)(lo hi:Option (Int×Tok)){Q:Value->Shared->Prop}{s:Shared}(hsz:x.length<=sizeLine)(h:∀ t' k,Q (.str (qQ x (lo.map (·.1)) (hi.map (·.1))) t') { s with toks:=k }):(sliceMade x t lo hi none).post Q s:=by
 unfold sliceMade
 have ep:slicePicked x lo hi none=Builtin.Str.strSliceIndices (lo.map (·.1)) (hi.map (·.1)) 1 x.length:=rfl
 have eq:((slicePicked x lo hi none).filterMap (x.cps[·]?))=gj x.cps.toList (lo.map (·.1)) (hi.map (·.1)):=by rw[ep];exact t6 x _ _
 have hl:x.cps.toList.length=x.length:=by simp[Str.length]
 have len:(qQ x (lo.map (·.1)) (hi.map (·.1))).length<=sizeLine:=by
  unfold qQ gj
  show (List.toArray _).size<=_
  rw[List.size_toArray,List.length_take,List.length_drop,hl]
  omega
 have same:(((none:Option (Int×Tok)).map (·.1)).getD 1==1&&(slicePicked x lo hi none).length==x.length)=true->x=qQ x (lo.map (·.1)) (hi.map (·.1)):=λc=>by
  have c2:(slicePicked x lo hi none).length=x.length:=by
   rw[Bool.and_eq_true] at c
   exact eq_of_beq c.2
  rw[ep,lU,sliceRange_one,List.length_map,List.length_range] at c2
  have b1:=HT.sIx_le x.length x.length (Nat.le_refl _) (hi.map (·.1))
  have b2:=HT.sIx_le x.length 0 (Nat.zero_le _) (lo.map (·.1))
  have w:=nS (xs:=x.cps.toList) (lo:=lo.map (·.1)) (hi:=hi.map (·.1)) (by rw[hl];omega)
  unfold qQ
  rw[w]
 refine post_val_or_str ⟨?_,λt' k=>?_⟩
 ·split
  ·rename_i c;exact hsz
  ·rw[eq];exact len
 ·split
  ·rename_i c
   have z:=h t' k
   rw[← same c] at z
   exact z
  ·rw[eq];exact h t' k
theorem part_of {v:Value}{o:Option Int}(p:IsPart v o):∃ q:Option (Int×Tok),v=partValue q/\o=q.map (·.1):=by
 cases p with
 |none=>exact⟨none,rfl,rfl⟩
 |int i t=>exact⟨some (i,t),rfl,rfl⟩
def rDl (K:PySem.W.Frag)(g:D->Option Int->Option Int->Option D):V->Option Int->Option Int->Hp->VK->Prop:=λx lo hi H Q => ∃ J dx d,(∀ a∈J,H a≠none)/\At K H J dx x/\g dx lo hi=some d/\∀ H' v,Same H H'->At K H' J d v->Q v H'
theorem jt {prog:Program}{w:World}{A:Around}{E:Value->Shared->Prop}{s:Shared}{t sl:Addr}{items:Array Value}{vl vu:Value}{lo hi:Option Int}{Q:Value->Shared->Prop}(ht:IsTup s.heap t items)(hs:s.heap.IsSliceOf sl vl vu .none)(pl:IsPart vl lo)(pu:IsPart vu hi)
  (hw:HT.sIx items.size 0 lo=0/\HT.sIx items.size items.size hi=items.size) (h:Q (.ref t) s):wpAny (model prog w) A (getItem (.ref t) (.ref sl)) Q E s:=by
 obtain⟨os,hos,hcs,hds⟩:=id hs
 have hTs:s.TypeIs (.ref sl) "slice":=⟨os,hos,hcs⟩
 unfold getItem
 try with_reducible refine wpAny_holding ?_
 first |refine wpAny_bind (wpAny_pure ?_) |skip
 refine wpAny_bind (wpAny_sequenceKey ht.typeIs (by decide) ?_)
 refine wpAny_bind (wpAny_callSpecial?_slot (name:=Str.ofString "__getitem__") ht.typeIs PyProof.Rows.slot_tuple_getitem
  (wpAny_call_entry PyProof.Rows.slot_tuple_getitem ht.typeIs entry_tuple_getitem ?_ (args_tuple_getitem _ _)))
 show wpAny _ _ (Builtin.Tuple.tupleItemsOf (.ref t) >>= _) _ _ s
 refine wpAny_bind (tupleItemsOf_ ht ?_)
 refine wpAny_bind (wpAny_typeOf hTs ?_)
 rw[if_pos (by decide)]
 refine wpAny_bind (HT.sliceApplied_gen hs pl pu ?_)
 show wpAny _ _ (if (((HT.sIx items.size 0 lo:Nat):Int)==0&&(1:Int)==1&&(HT.sIx items.size items.size hi-HT.sIx items.size 0 lo)==items.size)=true then _ else _) _ _ s
 rw[if_pos (by rw[hw.1,hw.2];simp)]
 unfold Builtin.Tuple.tupleIsExact
 refine wpAny_bind (wpAny_bind (wpAny_typeOf ht.typeIs (wpAny_pure ?_)))
 rw[if_pos (by decide)]
 exact wpAny_bind (wpAny_rule (wpAny_pure ⟨_,rfl,wpAny_pure h⟩))
def SlD (X:Cx)(g:D->Option Int->Option Int->Option D):Prop:=SlR X (rDl X.K g)
theorem wj {x:Str}(h:PyData.strOk x=true)(lo hi:Option Int):PyData.strOk (qQ x lo hi)=true:=j7 λc m=>i_ h (by
 unfold gj at m
 exact List.mem_of_mem_drop (List.mem_of_mem_take m))
theorem Au (x:Str)(lo hi:Option Int):(qQ x lo hi).length<=x.length:=by
 unfold qQ gj
 show (List.toArray _).size<=_
 rw[List.size_toArray,List.length_take,List.length_drop]
 have hl:x.cps.toList.length=x.length:=by simp[Str.length]
 omega
theorem sld:SlD X slD:=by
 intro pins s σ H x v vl vu lo hi sl Q I rx hs pl pu h
 obtain⟨J,dx,d,hJ,ax,e,q⟩:=h
 unfold slD at e
 split at e
 ·rename_i xs
  cases e
  obtain⟨a,us,rfl,t,m⟩:=At.tup_iff.mp ax
  have hl:=m.length
  by_cases hw:HT.sIx us.length 0 lo=0/\HT.sIx us.length us.length hi=us.length
  ·cases rx
   obtain⟨its,r,ht,hz⟩:=I.tuple t.sq
   have hlen:its.toArray.size=us.length:=by rw[List.size_toArray];exact r.length.symm
   refine⟨"tuple",_,PyProof.Rows.slot_tuple_getitem.lookup,ht.typeIs,?_⟩
   refine jt ht hs pl pu (by rw[hlen];exact hw) ⟨.ref a,H,I,rfl,q H _ (Same.refl H) ?_⟩
   rw[nS (by rw[hl];exact hw)]
   exact ax
  ·exact Br pins s σ H _ v vl vu lo hi sl Q I rx hs pl pu ⟨a,us,rfl,t.sq,hw,λp hp=>q _ _ (aS hp _) (At.newTup (m.cut lo hi) hp hJ (Nat.le_trans (fV us lo hi) t.len))⟩
 ·rename_i xs
  cases e
  obtain⟨a,us,rfl,t,m⟩:=At.lst_iff.mp ax
  exact zG pins s σ H _ v vl vu lo hi sl Q I rx hs pl pu ⟨a,us,rfl,t.sq,λp hp=>q _ _ (aS hp _) (At.newLst (m.cut lo hi) hp hJ (Nat.le_trans (fV us lo hi) t.len))⟩
 ·rename_i z
  cases e
  obtain⟨ex,kx⟩:=At.str_iff.mp ax
  subst ex
  obtain⟨tk,rfl⟩:=rx
  obtain⟨pl',e1,e2⟩:=part_of pl
  obtain⟨pu',e3,e4⟩:=part_of pu
  subst e1 e2 e3 e4
  refine⟨"str",_,F.slot_str_getitem.lookup,typeIs_str _ _ _,wpAny_getItem_str_slice (l:=pl') (u:=pu') (st:=none) hs rfl (t9 z tk pl' pu' kx.1 λt' k=>?_)⟩
  exact⟨.str _,H,I.tok _,⟨t',rfl⟩,q H _ (Same.refl H) (At.str_iff.mpr ⟨rfl,Nat.le_trans (Au z _ _) kx.1,wj kx.2 _ _⟩)⟩
 ·cases e
def wY:D->Option (Option Int)
 | .int i=>some (some i)
 |_=>none
def kJ (f:Option (Rho->Sto->Out D)):Rho->Sto->Out (Option Int):=match f with
 |none=>λ_ S=>okO none S
 |some f=>λρ S=>ag (f ρ S) λd S1=>aL (wY d) S1
def SO (X:Cx)(W:WT)(e:Option Expr)(f:Option (Rho->Sto->Out D)):Prop:=match e,f with
 |none,none=>True
 |some e,some f=>SE X W e f
 |_,_=>False
def cSl (g:D->Option Int->Option Int->Option D)(f:Rho->Sto->Out D)(lo hi:Option (Rho->Sto->Out D)):Rho->Sto->Out D:=λρ S=>ag (f ρ S) λx S1=>ag (kJ lo ρ S1) λl S2=>ag (kJ hi ρ S2) λu S3=>aL (g x l u) S3
def tPt (X:Cx)(W:WT)(f:Option (Rho->Sto->Out D)):TO:=tG X W (λ_ _ a b=>a=b) [] [] (kJ f)
theorem tG.bindP {α β:Type}{R:List Addr->Hp->α->β->Prop}{f:Option (Rho->Sto->Out D)}{k:Option Int->Rho->Sto->Out α}{ds:List D}{vs:List V}{σ:St}{H:Hp}{Q : β->Hp->Prop}
  (h:tG X W R ds vs (λρ S=>ag (kJ f ρ S) λd S1=>k d ρ S1) σ H Q):tPt X W f σ H λb H1=>tG X W R ds vs (k b) σ H1 Q:=by
 obtain⟨J,ρ,S,r,S',c,a,e,z⟩:=h
 cases q:kJ f ρ S with
 |none=>simp[q] at e
 |some o =>
  obtain⟨ro,S1⟩:=o
  simp only[q] at e
  cases ro with
  |error x =>
   cases e
   exact⟨J,ρ,S,.error x,_,c,.nil,q,z⟩
  |ok d =>
   refine⟨J,ρ,S,.ok d,S1,c,.nil,q,λJ1 H1 v x s1 m=>?_⟩
   cases m
   refine⟨J1,ρ,S1,r,S',c.re x s1,a.ex x,e,?_⟩
   cases r with
   |ok g=>exact λJ2 H2 b x2 s2 r2=>z J2 H2 b (x.trans x2) s2 r2
   |error g=>exact λJ2 H2 x2 s2=>z J2 H2 (x.trans x2) s2
theorem A0 {e:Option Expr}{f:Option (Rho->Sto->Out D)}(h:SO X W e f):PO X e (tPt X W f):=by
 cases e with
 |none =>
  cases f with
  |none =>
   intro pins s σ H Q I z
   refine zX pins s σ H Q I ?_
   obtain⟨J,ρ,S,r,S',c,_,e,z⟩:=z
   cases e
   exact z J H _ Ex.refl c.sto rfl
  |some _=>exact h.elim
 |some e =>
  cases f with
  |none=>exact h.elim
  |some f =>
   intro pins s σ H Q I z
   refine zV h pins s σ H Q I ?_
   refine (tG.bindE z).mono λv H1 ⟨d,h1⟩=>?_
   obtain⟨J,ρ,S,r,S',c,m,e,z⟩:=h1
   obtain⟨m,_⟩:=m.uncons
   cases d with
   |int i =>
    cases e
    exact⟨i,At.int_iff.mp m,z J H1 _ Ex.refl c.sto rfl⟩
   |_=>simp[wY] at e
theorem m_ {g:D->Option Int->Option Int->Option D}{lo hi:Option Expr}{fl fh:Option (Rho->Sto->Out D)}{p2:Pos}(hr:SlD X g)(ha:SE X W a fa)(hl:SO X W lo fl)(hh:SO X W hi fh):SE X W (.Subscript a (.Slice lo hi none p2) pos) (cSl g fa fl fh):=
 (xY hr ha (A0 hl) (A0 hh)).imp λσ H Q h=>(tG.bindE h).mono λv H1 ⟨d,h1⟩=>(tG.bindP h1).mono λl H2 h2=>(tG.bindP h2).mono λu H3 h3=>by
  obtain⟨J,ρ,S,r,S',c,m,e,z⟩:=h3
  obtain⟨m,_⟩:=m.uncons
  cases q:g d l u with
  |none=>simp[q] at e
  |some d' =>
   simp only[q,cy,okO] at e
   cases e
   exact⟨J,d,d',c.sto.all,m,q,λH' v' s m'=>z J H' v' (Ex.same s) (c.sto.same s) m'⟩
end
end L2
namespace L2
open PySem PySem.Spec PyProof.Rows PySem.W
section
variable {X:Cx}{W:WT}
theorem gH:fillsNumberSlot (.type "tuple") "mul"=pure false:=
 PySem.fillsNumberSlot_seq (id:="tuple.__mul__") (r:=some (.builtin "tuple.__rmul__")) F.slot_tuple_mul.lookup (by decide +kernel) F.slot_tuple_rmul.lookup (by decide +kernel)
theorem ko:seqRepeat? (.type "tuple")=pure (some (.builtin "tuple.__mul__")):=by
 unfold seqRepeat?
 rw[PySem.seqSlot_of (T:="tuple") (name:="__mul__") (id:="tuple.__mul__") F.slot_tuple_mul.lookup (by decide +kernel),PySem.seqSlot_of (T:="tuple") (name:="__rmul__") (id:="tuple.__rmul__") F.slot_tuple_rmul.lookup (by decide +kernel)]
 rfl
theorem iL (a:Int)(t:Tok)(l:Addr)(items:Array Value)(n:Nat)(dd:Option Addr)(sl:Array (Option Value)) :
  Meets (Builtin.«int.__rmul__» ⟨[.int a t,.ref l],[]⟩) (λ_ R s=>s.heap.get? l=some { cls:=.type "tuple",dict:=dd,data:=.seq items n,slots:=sl }/\R (.ok (.ret Value.notImplemented)) s):=
 .of_wp λprog w A R s h=>by obtain⟨hp,g,d,tk,os⟩:=s;obtain⟨hl,h⟩:=h;wp_walk;exact⟨_,rfl,h⟩
theorem tW (l:Addr)(items:Array Value)(n:Nat)(dd:Option Addr)(sl:Array (Option Value))(k:Int)(t:Tok)(h1 : 2<=k)(h2:k<2 ^ 30)(he:items.isEmpty=false)(hsz:items.size*k.toNat<=sizeLine) :
  Meets (Builtin.«tuple.__mul__» ⟨[.ref l,.int k t],[]⟩) (λ_ R s=>s.heap.get? l=some { cls:=.type "tuple",dict:=dd,data:=.seq items n,slots:=sl }/\R (.ok (.ret (Value.ref s.heap.objs.size))) { s with heap:=s.heap.push { cls:=Value.type "tuple",data:=Data.seq (List.foldl (λx1 x2=>x1++x2) #[] (List.replicate k.toNat items)) },toks:=s.toks }):=
 .of_wp λprog w A R s h=>by
  obtain⟨hp,g,d,tk,os⟩:=s;obtain⟨hl,h⟩:=h
  have f1:=AutoSeq1.idx_int
  wp_walk using AutoSeq1.wpAny_loadPart' hl
  have p1:(0:Int)<=k:=by omega
  have hk:((k.toNat:Nat):Int)=k:=by omega
  have c1:¬ ((decide (k < -2 ^ 63) ||decide (k≥2 ^ 63))=true):=by
   rw[decide_eq_false (by omega),decide_eq_false (by omega)];decide
  have c2:¬ ((items.isEmpty ||k==1)=true):=by
   rw[he,Bool.false_or,beq_eq_false_iff_ne.mpr (by omega)];decide
  have c3:¬ ((decide (k<=0) ||items.isEmpty)=true):=by
   rw[he,decide_eq_false (by omega)];decide
  have c4:((items.size*k.toNat:Nat):Int)=(items.size:Int)*k:=by rw[Int.natCast_mul,hk]
  have hs24:(sizeLine:Nat)=2 ^ 24:=rfl
  have c5:¬ ((items.size:Int)*k > (2 ^ 63-1) / 8):=by rw[← c4];omega
  have c6:Builtin.Tuple.tupleTooMany ((items.size:Int)*k)=false:=by
   unfold Builtin.Tuple.tupleTooMany
   rw[← c4];exact decide_eq_false (by omega)
  rw[if_neg c1]
  refine wpAny_bind (tupleItemsOf_ (⟨_,hl,rfl,n,rfl⟩:IsTup hp l items) ?_)
  dsimp only
  rw[if_neg c2,if_neg c3,if_neg c5,if_neg (by rw[c6];decide)]
  have hf:sizeOk (.seq (List.foldl (λx1 x2=>x1++x2) #[] (List.replicate k.toNat items))):=by
   have e:List.foldl (λx1 x2=>x1++x2) #[] (List.replicate k.toNat items)=(List.replicate k.toNat items.toList).flatten.toArray:=by
    have:=foldl_rep items.toList k.toNat []
    simpa using this
   show (List.foldl (λx1 x2=>x1++x2) #[] (List.replicate k.toNat items)).size<=sizeLine
   rw[e,List.size_toArray,len_rep,Array.length_toList,Nat.mul_comm]
   exact hsz
  first
   |exact wpAny_bind (m:=Builtin.Tuple.tupleExact _) (wpAny_newObj_type (wpAny_pure ⟨_,rfl,h⟩) hf)
   |exact wpAny_bind (m:=Builtin.Tuple.tupleExact _) (wpAny_newObj_type (wpAny_bind (wpAny_pure (wpAny_pure ⟨_,rfl,h⟩))) hf)
def cO:D->D->Option D
 | .int i,.int j=>if lW i j then some (.int (i*j)) else none
 | .str x,.int n=>if -1000<=n/\n<1 then some (.str ⟨#[]⟩) else if 1<=n/\n<=1000/\x.length<=1000 then some (.str ⟨(List.replicate n.toNat x.cps.toList).flatten.toArray⟩) else none
 | .tup xs,.int n=>if 2<=n/\n<=1000/\0<xs.length/\xs.length<=1000 then some (.tup (List.replicate n.toNat xs).flatten) else none
 |_,_=>none
theorem yp (x:Str)(n:Int)(h : 1<=n):Txt.mul x n=⟨(List.replicate n.toNat x.cps.toList).flatten.toArray⟩:=by
 have f:∀ m:Nat,(List.replicate m x.cps).foldl (·++·) #[]=(List.replicate m x.cps.toList).flatten.toArray:=λm=>by
  have:∀ (m:Nat) (acc:List Nat),(List.replicate m x.cps).foldl (·++·) acc.toArray=(acc++(List.replicate m x.cps.toList).flatten).toArray:=by
   intro m
   induction m with
   |zero=>intro acc;simp
   |succ m ih =>
    intro acc
    rw[List.replicate_succ,List.foldl_cons,List.replicate_succ,List.flatten_cons,← List.append_assoc]
    have e:acc.toArray++x.cps=(acc++x.cps.toList).toArray:=by simp
    rw[e];exact ih _
  have:=this m []
  simpa using this
 unfold Txt.mul
 rw[if_neg (by omega)]
 split
 ·rename_i c
  rw[Bool.or_eq_true] at c
  rcases c with c |c
  ·have:n=1:=eq_of_beq c
   subst this
   show x=⟨([x.cps.toList].flatten).toArray⟩
   simp
  ·have hx:x.cps.size=0:=eq_of_beq c
   have:x.cps.toList=[]:=by simpa using Array.size_eq_zero_iff.mp hx
   have hz:∀ m:Nat,(List.replicate m ([]:List Nat)).flatten=[]:=λm=>by induction m with
    |zero=>rfl
    |succ m ih=>rw[List.replicate_succ,List.flatten_cons,ih];rfl
   rw[this,hz]
   cases x with
   |mk cps =>
    simp only at this
    have:cps = #[]:=by simpa using this
    rw[this]
 ·rw[f]
theorem di:OpD X (binaryOp .Mult) cO:=by
 intro pins s σ H x y v u Q I rx ry h
 obtain⟨J,dx,dy,d,hJ,ax,ay,e,q⟩:=h
 unfold cO at e
 split at e
 ·rename_i i j
  split at e
  ·rename_i c
   cases e
   cases At.int_iff.mp ax;cases At.int_iff.mp ay
   exact B0 pins s σ H _ _ v u Q I rx ry ⟨i,j,rfl,rfl,Ap c,q H _ (Same.refl H) (At.int_iff.mpr rfl)⟩
  ·cases e
 ·rename_i z n
  obtain⟨ex,kx⟩:=At.str_iff.mp ax
  subst ex
  cases At.int_iff.mp ay
  obtain⟨t,rfl⟩:=rx
  obtain⟨t',rfl⟩:=ry
  split at e
  ·rename_i c
   cases e
   refine SB.mul ⟨by rw[decide_eq_false (by omega),decide_eq_false (by omega)];rfl,λh=>absurd c.2 h,λh=>absurd c.2 h⟩ λt' k=>?_
   rw[show Txt.mul z n=⟨#[]⟩ from if_pos c.2]
   exact⟨.str _,H,I.tok _,⟨t',rfl⟩,q H _ (Same.refl H) (At.str_iff.mpr ⟨rfl,by show 0<=sizeLine;decide,by decide +kernel⟩)⟩
  ·rename_i c
   split at e
   ·rename_i c2
    cases e
    have hs24:(sizeLine:Nat)=2 ^ 24:=rfl
    have hlen:z.length*n.toNat<=1000000:=by
     have:n.toNat<=1000:=by omega
     exact Nat.le_trans (Nat.mul_le_mul c2.2.2 this) (by decide)
    have ok:MulOk z n:=by
     refine⟨by rw[decide_eq_false (by omega),decide_eq_false (by omega)];rfl,λ_ _ hh=>?_,λ_ _=>?_⟩
     ·have h1:(2 ^ 63-1) / n≥(2 ^ 63-1) / 1000:=by
       apply Int.le_ediv_of_mul_le (by omega)
       have:((2 ^ 63-1) / 1000:Int)=9223372036854775:=by decide
       rw[this]
       omega
      have h2:((2 ^ 63-1) / 1000:Int)=9223372036854775:=by decide
      omega
     ·unfold Builtin.Str.tooLong
      exact decide_eq_false (by omega)
    refine SB.mul ok λt' k=>?_
    rw[yp z n (by omega)]
    have hl:z.cps.toList.length=z.length:=by simp[Str.length]
    refine⟨.str _,H,I.tok _,⟨t',rfl⟩,q H _ (Same.refl H) (At.str_iff.mpr ⟨rfl,?_,j7 λc m=>?_⟩)⟩
    ·show (List.toArray _).size<=_
     rw[List.size_toArray,len_rep,hl,Nat.mul_comm]
     omega
    ·obtain⟨l,hl1,hl2⟩:=List.mem_flatten.mp m
     rw[(List.mem_replicate.mp hl1).2] at hl2
     exact i_ kx.2 hl2
   ·cases e
 ·rename_i xs n
  split at e
  ·rename_i c
   cases e
   obtain⟨a,us,rfl,tq,m⟩:=At.tup_iff.mp ax
   cases At.int_iff.mp ay
   cases rx
   obtain⟨t',rfl⟩:=ry
   obtain⟨its,r,⟨⟨cls,dd,data,sl⟩,ho,hc,nn,hd⟩,hz⟩:=I.tuple tq.sq
   simp only at hc hd
   subst hc hd
   have l1:=m.length
   have l2:=r.length
   have hs24:(sizeLine:Nat)=2 ^ 24:=rfl
   have hlen:its.toArray.size*n.toNat<=sizeLine:=by
    rw[List.size_toArray]
    have h1:its.length<=1000:=by omega
    have h2:n.toNat<=1000:=by omega
    exact Nat.le_trans (Nat.mul_le_mul h1 h2) (by rw[hs24];decide)
   have h0 : 0<its.length:=by omega
   have hne:its.toArray.isEmpty=false:=by
    cases its with
    |nil=>simp at h0
    |cons _ _=>rfl
   refine wpAny_binaryOp_repeat_ref (T:="tuple") (U:="int") (by decide) ⟨_,ho,rfl⟩ (λs'=>typeIs_int s' n t') gH F.fills_int_mul F.slot_int_rmul ko F.slot_int_index.lookup
    (call_meets F.slot_int_rmul (typeIs_int s n t') F.entry_int_rmul (F.args_int_rmul_2 _ _) (iL n t' a its.toArray nn dd sl)
     ⟨ho,rfl,⟨_,ho,rfl⟩,call_meets F.slot_tuple_mul ⟨_,ho,rfl⟩ F.entry_tuple_mul (F.args_tuple_mul_2 _ _) (tW a its.toArray nn dd sl n t' c.1 (by omega) hne hlen) ⟨ho,?_⟩⟩)
   have hnew:List.foldl (λx1 x2=>x1++x2) #[] (List.replicate n.toNat its.toArray)=(List.replicate n.toNat its).flatten.toArray:=by
    have:=foldl_rep its n.toNat []
    rw[List.nil_append] at this
    exact this
   rw[hnew]
   have hrep:(List.replicate n.toNat us).flatten.length<=sizeLine:=by
    rw[len_rep,Nat.mul_comm,l2]
    rw[List.size_toArray] at hlen;exact hlen
   exact⟨.ref s.heap.objs.size,_,I.laid (t':=s.toks) (o:=.tup (List.replicate n.toNat us).flatten) (λb ob q=>Heap.get?_push_of_some _ q) (Nat.le_refl _) ⟨hrep,_,r.rep n.toNat,TupN.new _ _⟩,rfl,q _ _ (aS I.fresh _) (At.newTup (m.rep n.toNat) I.fresh hJ hrep)⟩
  ·cases e
 ·cases e
end
section
variable {X:Cx}{W:WT}
variable {a b c e:Expr}{fa fb fc:Rho->Sto->Out D}{pos:Pos}{es:List Expr}{gs:Rho->Sto->Out (List D)}
def eQ:List D->Option D
 |[.tup xs]=>some (.int xs.length)
 |[.lst xs]=>some (.int xs.length)
 |[.str x]=>some (.int x.length)
 |_=>none
theorem iR:n8 X (.builtin "len") eQ:=by
 intro pins s σ H xs us Q I r h
 obtain⟨J,ds,d,hJ,m,e,q⟩:=h
 unfold eQ at e
 split at e
 ·rename_i ys
  cases e
  obtain⟨v,w,rfl,a,n⟩:=Ats.cons_iff.mp m
  cases Ats.nil_iff.mp n
  obtain⟨p,zs,rfl,t,mz⟩:=At.tup_iff.mp a
  exact g_ pins s σ H _ us Q I r ⟨p,zs,rfl,.inr t.sq,by rw[← mz.length];exact q H _ (Same.refl H) (At.int_iff.mpr rfl)⟩
 ·rename_i ys
  cases e
  obtain⟨v,w,rfl,a,n⟩:=Ats.cons_iff.mp m
  cases Ats.nil_iff.mp n
  obtain⟨p,zs,rfl,t,mz⟩:=At.lst_iff.mp a
  exact g_ pins s σ H _ us Q I r ⟨p,zs,rfl,.inl t.sq,by rw[← mz.length];exact q H _ (Same.refl H) (At.int_iff.mpr rfl)⟩
 ·rename_i y
  cases e
  obtain⟨v,w,rfl,a,n⟩:=Ats.cons_iff.mp m
  cases Ats.nil_iff.mp n
  obtain⟨ex,kx⟩:=At.str_iff.mp a
  subst ex
  exact qV pins s σ H _ us Q I r ⟨y,rfl,kx.1,q H _ (Same.refl H) (At.int_iff.mpr rfl)⟩
 ·cases e
def intD:List D->Option D
 |[.int i]=>some (.int i)
 |[.bl k]=>some (.int (if k then 1 else 0))
 |_=>none
theorem Cu:n8 X (.type "int") intD:=by
 intro pins s σ H xs us Q I r h
 obtain⟨J,ds,d,hJ,m,e,q⟩:=h
 unfold intD at e
 split at e
 ·rename_i i
  cases e
  obtain⟨v,w,rfl,a,n⟩:=Ats.cons_iff.mp m
  cases Ats.nil_iff.mp n
  cases At.int_iff.mp a
  exact pB pins s σ H _ us Q I r (.inl ⟨i,rfl,q H _ (Same.refl H) (At.int_iff.mpr rfl)⟩)
 ·rename_i k
  cases e
  obtain⟨v,w,rfl,a,n⟩:=Ats.cons_iff.mp m
  cases Ats.nil_iff.mp n
  cases At.bl_iff.mp a
  exact pB pins s σ H _ us Q I r (.inr ⟨k,rfl,q H _ (Same.refl H) (At.int_iff.mpr rfl)⟩)
 ·cases e
def gy:List D->Option D
 |[.tup xs]=>some (.tup xs)
 |[.lst xs]=>some (.tup xs)
 |_=>none
theorem gm:n8 X (.type "tuple") gy:=by
 intro pins s σ H xs us Q I r h
 obtain⟨J,ds,d,hJ,m,e,q⟩:=h
 unfold gy at e
 split at e
 ·rename_i ys
  cases e
  obtain⟨v,w,rfl,a,n⟩:=Ats.cons_iff.mp m
  cases Ats.nil_iff.mp n
  obtain⟨p,zs,rfl,t,mz⟩:=At.tup_iff.mp a
  exact jA pins s σ H _ us Q I r ⟨p,zs,rfl,.inr ⟨t.sq,q H _ (Same.refl H) a⟩⟩
 ·rename_i ys
  cases e
  obtain⟨v,w,rfl,a,n⟩:=Ats.cons_iff.mp m
  cases Ats.nil_iff.mp n
  obtain⟨p,zs,rfl,t,mz⟩:=At.lst_iff.mp a
  exact jA pins s σ H _ us Q I r ⟨p,zs,rfl,.inl ⟨t.sq,λl hl=>q _ _ (aS hl _) (At.newTup mz hl hJ t.len)⟩⟩
 ·cases e
end
inductive Fl where
 |next (ρ:Rho) |ret (d:D) |brk (ρ:Rho) |cont (ρ:Rho)
def EndS (X:Cx)(W:WT)(J:List Addr)(H:Hp)(r:Except Str Fl)(S':Sto)(E:Ends):Prop:=
 match r with
 | .ok (.next ρ') => ∀ J' σ' H',Ex J H J' H'->Cf X J' ρ' S' σ' H'->E.nx σ' H'
 | .ok (.brk ρ') => ∀ J' σ' H',Ex J H J' H'->Cf X J' ρ' S' σ' H'->E.bk σ' H'
 | .ok (.cont ρ') => ∀ J' σ' H',Ex J H J' H'->Cf X J' ρ' S' σ' H'->E.ct σ' H'
 | .ok (.ret d) => ∀ J' H' v,Ex J H J' H'->StoOk X.K J' S' H'->At X.K H' J' d v->E.rt v H'
 | .error c => ∀ J' H',Ex J H J' H'->StoOk X.K J' S' H'->W c J' S' H'
theorem EndS.ex {X:Cx}{W:WT}{J J1:List Addr}{H H1:Hp}{r:Except Str Fl}{S':Sto}{E:Ends}(h:EndS X W J H r S' E)(x:Ex J H J1 H1):EndS X W J1 H1 r S' E:=by
 cases r with
 |error c=>exact λJ' H' x' s=>h J' H' (x.trans x') s
 |ok f =>
  cases f with
  |next ρ=>exact λJ' σ' H' x' c=>h J' σ' H' (x.trans x') c
  |brk ρ=>exact λJ' σ' H' x' c=>h J' σ' H' (x.trans x') c
  |cont ρ=>exact λJ' σ' H' x' c=>h J' σ' H' (x.trans x') c
  |ret d=>exact λJ' H' v x' s a=>h J' H' v (x.trans x') s a
def tS (X:Cx)(W:WT)(f:Rho->Sto->Out Fl):TS:=λE σ H => ∃ J ρ S r S',Cf X J ρ S σ H/\f ρ S=some (r,S')/\EndS X W J H r S' E
def SS (X:Cx)(W:WT)(st:Stmt)(f:Rho->Sto->Out Fl):Prop:=PS X st (tS X W f)
def SSs (X:Cx)(W:WT)(st:List Stmt)(f:Rho->Sto->Out Fl):Prop:=PSs X st (tS X W f)
theorem PS.imp {X:Cx}{st:Stmt}{t t':TS}(h:PS X st t)(i:∀ E σ H,t' E σ H->t E σ H):PS X st t':=λpins s σ H D I z=>h pins s σ H D I (i _ _ _ z)
theorem PSs.imp {X:Cx}{st:List Stmt}{t t':TS}(h:PSs X st t)(i:∀ E σ H,t' E σ H->t E σ H):PSs X st t':=λpins s σ H D I z=>h pins s σ H D I (i _ _ _ z)
section
variable {X:Cx}{W:WT}{st:Stmt}{rest:List Stmt}{f g:Rho->Sto->Out Fl}{e c:Expr}{fe:Rho->Sto->Out D}{gt:Rho->Sto->Out Bool}{pos:Pos}
def bR:Rho->Sto->Out Fl:=λρ S=>okO (.next ρ) S
def aK (f g:Rho->Sto->Out Fl):Rho->Sto->Out Fl:=λρ S=>ag (f ρ S) λfl S1=>match fl with
 | .next ρ'=>g ρ' S1
 |o=>okO o S1
def aP (f:Rho->Sto->Out D):Rho->Sto->Out Fl:=λρ S=>ag (f ρ S) λd S1=>okO (.ret d) S1
def cIf (t:Rho->Sto->Out Bool)(f g:Rho->Sto->Out Fl):Rho->Sto->Out Fl:=λρ S=>ag (t ρ S) λk S1=>if k=true then f ρ S1 else g ρ S1
def bD (i:Nat)(f:Rho->Sto->Out D):Rho->Sto->Out Fl:=λρ S=>ag (f ρ S) λd S1=>okO (.next (ρ.set i (some d))) S1
def pF (f:Rho->Sto->Out D):Rho->Sto->Out Fl:=λρ S=>ag (f ρ S) λ_ S1=>okO (.next ρ) S1
theorem bP:SSs X W [] bR:=pss_nil.imp λE σ H h=>by
 obtain⟨J,ρ,S,r,S',c,e,z⟩:=h
 cases e
 exact z J σ H Ex.refl c
theorem xJ {E:Ends}{σ:St}{H:Hp}(h:tS X W (aK f g) E σ H):CO (tS X W f) (tS X W g) E σ H:=by
 obtain⟨J,ρ,S,r,S',c,e,z⟩:=h
 unfold aK at e
 cases q:f ρ S with
 |none=>simp[q] at e
 |some o =>
  obtain⟨ro,S1⟩:=o
  simp only[q] at e
  cases ro with
  |error x =>
   cases e
   exact⟨J,ρ,S,.error x,_,c,q,z⟩
  |ok fl =>
   cases fl with
   |next ρ'=>exact⟨J,ρ,S,.ok (.next ρ'),S1,c,q,λJ' σ' H' x c'=>⟨J',ρ',S1,r,S',c',e,z.ex x⟩⟩
   |ret d=>cases e;exact⟨J,ρ,S,.ok (.ret d),_,c,q,z⟩
   |brk ρ'=>cases e;exact⟨J,ρ,S,.ok (.brk ρ'),_,c,q,z⟩
   |cont ρ'=>cases e;exact⟨J,ρ,S,.ok (.cont ρ'),_,c,q,z⟩
theorem ai (h1:SS X W st f)(h2:SSs X W rest g):SSs X W (st::rest) (aK f g):=(xT h1 h2).imp λE σ H h=>xJ h
theorem aq (h1:SS X W st f):SSs X W [st] f:=zR h1
theorem tS.bindE {k:D->Rho->Sto->Out Fl}{E:Ends}{σ:St}{H:Hp}(h:tS X W (λρ S=>ag (fe ρ S) λd S1=>k d ρ S1) E σ H) :
  tE X W fe σ H λv H1 => ∃ J ρ S d r S',Cf X J ρ S σ H1/\At X.K H1 J d v/\k d ρ S=some (r,S')/\EndS X W J H1 r S' E:=by
 obtain⟨J,ρ,S,r,S',c,e,z⟩:=h
 cases q:fe ρ S with
 |none=>simp[q] at e
 |some o =>
  obtain⟨ro,S1⟩:=o
  simp only[q] at e
  cases ro with
  |error x =>
   cases e
   exact⟨J,ρ,S,.error x,_,c,.nil,q,z⟩
  |ok d=>exact⟨J,ρ,S,.ok d,S1,c,.nil,q,λJ1 H1 v x s1 m=>⟨J1,ρ,S1,d,r,S',c.re x s1,m,e,z.ex x⟩⟩
theorem tS.bindT {k:Bool->Rho->Sto->Out Fl}{E:Ends}{σ:St}{H:Hp}(h:tS X W (λρ S=>ag (gt ρ S) λd S1=>k d ρ S1) E σ H) :
  tT X W gt σ H λb H1=>tS X W (k b) E σ H1:=by
 obtain⟨J,ρ,S,r,S',c,e,z⟩:=h
 cases q:gt ρ S with
 |none=>simp[q] at e
 |some o =>
  obtain⟨ro,S1⟩:=o
  simp only[q] at e
  cases ro with
  |error x =>
   cases e
   exact⟨J,ρ,S,.error x,_,c,.nil,q,z⟩
  |ok d =>
   refine⟨J,ρ,S,.ok d,S1,c,.nil,q,λJ1 H1 v x s1 m=>?_⟩
   cases m
   exact⟨J1,ρ,S1,r,S',c.re x s1,e,z.ex x⟩
theorem aG (he:SE X W e fe):SS X W (.Return (some e) pos) (aP fe):=(BO he).imp λE σ H h=>(tS.bindE h).mono λv H1 ⟨J,ρ,S,d,r,S',c,m,q,z⟩=>by
 cases q
 exact z J H1 v Ex.refl c.sto m
theorem d8 {a b:List Stmt}(hc:TS1 X W c gt)(ha:SSs X W a f)(hb:SSs X W b g):SS X W (.If c a b pos) (cIf gt f g):=(C_ hc ha hb).imp λE σ H h=>(tS.bindT h).mono λk H1 h1=>by
 cases k with
 |true=>rw[if_pos rfl];exact h1
 |false=>rw[if_neg (by decide)];exact h1
theorem mE (he:SE X W e fe)(hs:swapsWith e none pos.line X.env=pure false:=by rfl):SS X W (.Expr e pos) (pF fe):=(zT he hs).imp λE σ H h=>(tS.bindE h).mono λv H1 ⟨J,ρ,S,d,r,S',c,m,q,z⟩=>by
 cases q
 exact z J σ H1 Ex.refl c
theorem Cf.set {J:List Addr}{ρ:Rho}{S:Sto}{σ:St}{H:Hp}{i:Nat}{d:D}{v:V}(c:Cf X J ρ S σ H)(m:At X.K H J d v):Cf X J (ρ.set i (some d)) S (σ.set i (some v)) H:=by
 refine⟨by rw[List.length_set,List.length_set];exact c.len,λj d' h=>?_,c.sto⟩
 by_cases hj:j=i
 ·subst hj
  have hl:j < ρ.length:=by
   have:=(List.getElem?_eq_some_iff.mp h).1
   rwa [List.length_set] at this
  rw[List.getElem?_set_self hl] at h
  cases h
  exact⟨v,List.getElem?_set_self (by rw[← c.len];exact hl),m⟩
 ·rw[List.getElem?_set_ne (Ne.symm hj)] at h
  obtain⟨v',h1,h2⟩:=c.env j d' h
  exact⟨v',by rw[List.getElem?_set_ne (Ne.symm hj)];exact h1,h2⟩
theorem aM {i:Nat}{x:Str}{pos':Pos}(hN:X.N.Nodup)(he:SE X W e fe)(hi:X.N[i]?=some x:=by rfl)(hx:Loc X.env.scope x:=by first |exact Or.inl rfl |exact Or.inr rfl)(hs:swapsWith e (some (.Name x pos')) pos.line X.env=pure false:=by rfl)
  (hf:X.fn x=true∨X.env.scope.names.lookup x=some .local:=by first |exact .inl rfl |exact .inr rfl |assumption) :
  SS X W (.Assign [.Name x pos'] e pos) (bD i fe):=(BN hN hi hx he hs hf).imp λE σ H h=>(tS.bindE h).mono λv H1 ⟨J,ρ,S,d,r,S',c,m,q,z⟩=>by
 cases q
 exact z J _ H1 Ex.refl (c.set m)
def tgD (X:Cx)(u:D->Rho->Option Rho):TG:=λv σ H Q => ∃ J ρ S d ρ',Cf X J ρ S σ H/\At X.K H J d v/\u d ρ=some ρ'/\∀ σ',Cf X J ρ' S σ' H->Q σ' H
def DX (X:Cx)(u:List D->Rho->Option Rho):TGs:=λvs σ H Q => ∃ J ρ S ds ρ',Cf X J ρ S σ H/\Ats X.K H J ds vs/\u ds ρ=some ρ'/\∀ σ',Cf X J ρ' S σ' H->Q σ' H
def SG (X:Cx)(tg:Expr)(u:D->Rho->Option Rho):Prop:=PG X tg (tgD X u)
def SGs (X:Cx)(tg:List Expr)(u:List D->Rho->Option Rho):Prop:=PGs X tg (DX X u)
theorem PG.imp {tg:Expr}{t t':TG}(h:PG X tg t)(i:∀ v σ H Q,t' v σ H Q->t v σ H Q):PG X tg t':=λpins s σ H v u Q I r z=>h pins s σ H v u Q I r (i _ _ _ _ z)
theorem PGs.imp {tg:List Expr}{t t':TGs}(h:PGs X tg t)(i:∀ v σ H Q,t' v σ H Q->t v σ H Q):PGs X tg t':=λpins s σ H v u Q I r z=>h pins s σ H v u Q I r (i _ _ _ _ z)
noncomputable def aJ (i:Nat):D->Rho->Option Rho:=λd ρ=>some (ρ.set i (some d))
def fw:List D->Rho->Option Rho:=λds ρ=>match ds with
 |[]=>some ρ
 |_=>none
def aX (u:D->Rho->Option Rho)(us:List D->Rho->Option Rho):List D->Rho->Option Rho:=λds ρ=>match ds with
 |d::r=>(u d ρ).bind λρ'=>us r ρ'
 |[]=>none
def jp (n:Nat)(us:List D->Rho->Option Rho):D->Rho->Option Rho:=λd ρ=>match d with
 | .tup ds=>if ds.length=n then us ds ρ else none
 |_=>none
theorem aW {i:Nat}{x:Str}(hN:X.N.Nodup)(hi:X.N[i]?=some x:=by rfl)(hx:Loc X.env.scope x:=by first |exact Or.inl rfl |exact Or.inr rfl)(hf:X.fn x=true∨X.env.scope.names.lookup x=some .local:=by first |exact .inl rfl |exact .inr rfl |assumption) :
  SG X (.Name x pos) (aJ i):=(zZ hN hi hx hf).imp λv σ H Q h=>by
 obtain⟨J,ρ,S,d,ρ',c,m,e,z⟩:=h
 cases e
 exact z _ (c.set m)
theorem jd:SGs X [] fw:=pgs_nil.imp λv σ H Q h=>by
 obtain⟨J,ρ,S,ds,ρ',c,m,e,z⟩:=h
 cases ds with
 |nil=>cases e;exact⟨Ats.nil_iff.mp m,z _ c⟩
 |cons _ _=>cases e
theorem bQ {e:Expr}{es:List Expr}{u:D->Rho->Option Rho}{us:List D->Rho->Option Rho}(h1:SG X e u)(h2:SGs X es us)
  (hs:(assignEach (e::es) X.env).map (·.2)=assign e X.env::(assignEach es X.env).map (·.2):=by rfl):SGs X (e::es) (aX u us):=(xW h1 h2 hs).imp λv σ H Q h=>by
 obtain⟨J,ρ,S,ds,ρ',c,m,e,z⟩:=h
 cases ds with
 |nil=>cases e
 |cons d r =>
  obtain⟨v1,vr,rfl,m1,m2⟩:=Ats.cons_iff.mp m
  obtain⟨ρ1,e1,e2⟩:=Option.bind_eq_some_iff.mp e
  exact⟨v1,vr,rfl,J,ρ,S,d,ρ1,c,m1,e1,λσ1 c1=>⟨J,ρ1,S,r,ρ',c1,m2,e2,z⟩⟩
theorem kS {es:List Expr}{k:Nat}{us:List D->Rho->Option Rho}{n:Nat}(hc:X.calm=true)(h:SGs X es us)
  (hn:(assignEach es X.env).length=n:=by rfl) (hst:(assignEach es X.env).findIdx? (·.1)=none:=by rfl):SG X (.Tuple es k pos) (jp n us):=(BT hc h hn hst).imp λv σ H Q h=>by
 obtain⟨J,ρ,S,d,ρ',c,m,e,z⟩:=h
 cases d with
 |tup ds =>
  obtain⟨a,xs,rfl,t,ms⟩:=At.tup_iff.mp m
  simp only[jp] at e
  split at e
  ·rename_i hl
   exact⟨a,xs,rfl,t.sq,by rw[← ms.length];exact hl,J,ρ,S,ds,ρ',c,ms,e,z⟩
  ·cases e
 |_=>cases e
def qW (u:D->Rho->Option Rho)(f:Rho->Sto->Out D):Rho->Sto->Out Fl:=λρ S=>ag (f ρ S) λd S1=>aL ((u d ρ).map Fl.next) S1
theorem Bq {tg e:Expr}{u:D->Rho->Option Rho}(he:SE X W e fe)(hg:SG X tg u)(hs:swapsWithSole [tg] e pos.line X.env=pure false:=by rfl)(hw:swappedStores [tg] e X.env=pure none:=by rfl)
  (h1:(assignEach [tg] X.env).map (·.2)=[assign tg X.env]:=by rfl):SS X W (.Assign [tg] e pos) (qW u fe):=(BR he hg hs hw h1).imp λE σ H h=>(tS.bindE h).mono λv H1 ⟨J,ρ,S,d,r,S',c,m,q,z⟩=>by
 cases hu:u d ρ with
 |none=>simp[hu] at q
 |some ρ' =>
  simp only[hu,Option.map_some,cy,okO] at q
  cases q
  exact⟨J,ρ,_,d,ρ',c,m,hu,λσ' c'=>z J σ' H1 Ex.refl c'⟩
structure Walk (X:Cx) (Jt:It) (ds:List D) (J0:List Addr) (H0:Hp):Prop where
 len:ds.length<=sizeLine
 go:∀ J H i,Ex J0 H0 J H->i<ds.length->Jt.go i H
 yld:∀ J H (i:Nat) x H',Ex J0 H0 J H->(∀ a∈J,H a≠none)->i<ds.length->Jt.yld i H x H'->∃ d,ds[i]?=some d/\At X.K H' J d x/\Same H H'
 stop:∀ J H i,Ex J0 H0 J H->ds.length<=i->Jt.stop i H
def iW (X:Cx)(W:WT)(fi:Rho->Sto->Out (List D)):TI:=λσ H R => ∃ J ρ S r S',Cf X J ρ S σ H/\fi ρ S=some (r,S')/\match r with
 | .ok ds => ∀ J' H' Jt,Ex J H J' H'->StoOk X.K J' S' H'->Walk X Jt ds J' H'->R Jt H'
 | .error c => ∀ J' H',Ex J H J' H'->StoOk X.K J' S' H'->W c J' S' H'
def SI (X:Cx)(W:WT)(tg iter:Expr)(fi:Rho->Sto->Out (List D)):Prop:=PI X tg iter (iW X W fi)
theorem PI.imp {tg iter:Expr}{t t':TI}(h:PI X tg iter t)(i:∀ σ H R,t' σ H R->t σ H R):PI X tg iter t':=λpins s σ H R I z=>h pins s σ H R I (i _ _ _ z)
def gN (u:D->Rho->Option Rho)(body:Rho->Sto->Out Fl):List D->Rho->Sto->Out Fl
 |[],ρ,S=>okO (.next ρ) S
 |d::ds,ρ,S=>match u d ρ with
  |none=>none
  |some ρ1=>ag (body ρ1 S) λfl S1=>match fl with
   | .next ρ'=>gN u body ds ρ' S1
   | .cont ρ'=>gN u body ds ρ' S1
   | .brk ρ'=>okO (.next ρ') S1
   | .ret d=>okO (.ret d) S1
def iq (fi:Rho->Sto->Out (List D))(u:D->Rho->Option Rho)(body:Rho->Sto->Out Fl):Rho->Sto->Out Fl:=λρ S=>ag (fi ρ S) λds S1=>gN u body ds ρ S1
theorem iD {tg iter:Expr}{body:List Stmt}{fi:Rho->Sto->Out (List D)}{u:D->Rho->Option Rho}(hp:PassesOwn (model X.prog X.w) X.A X.env X.xe)(hc:X.calm=true)(hi:SI X W tg iter fi)(hg:SG X tg u)(hb:SSs X W body f)
  (hs:∀ x,foldedSetIterable iter X.env x=pure x:=by intro _;rfl):SS X W (.For tg iter body [] pos) (iq fi u f):=(BP hp hc hi hg hb hs).imp λE σ H h=>by
 obtain⟨J,ρ,S,r,S',c,e,z⟩:=h
 unfold iq at e
 cases q:fi ρ S with
 |none=>simp[q] at e
 |some o =>
  obtain⟨ro,S1⟩:=o
  simp only[q] at e
  cases ro with
  |error x =>
   cases e
   exact⟨J,ρ,S,.error x,_,c,q,z⟩
  |ok ds =>
   refine⟨J,ρ,S,.ok ds,S1,c,q,λJ0 H0 Jt x0 s0 w=>?_⟩
   refine⟨λi m σ H=>m=ds.length-i/\∃ Jx ρx Sx,Ex J0 H0 Jx H/\Cf X Jx ρx Sx σ H/\∃ r S',gN u f (ds.drop i) ρx Sx=some (r,S')/\EndS X W Jx H r S' E,
    ⟨_,rfl,J0,ρ,S1,Ex.refl,c.re x0 s0,r,S',by simpa using e,z.ex x0⟩,λi m σ1 H1 hw=>?_⟩
   obtain⟨hm,Jx,ρx,Sx,ex,cx,r1,S1',el,ez⟩:=hw
   by_cases hi:i<ds.length
   ·refine .inr ⟨w.go Jx H1 i ex hi,λσ' H' => ∃ Jy ρy Sy,Ex J0 H0 Jy H'/\Cf X Jy ρy Sy σ' H'/\∃ r S',gN u f (ds.drop (i+1)) ρy Sy=some (r,S')/\EndS X W Jy H' r S' E,
     λσ' H' hn=>⟨ds.length-(i+1),by omega,rfl,hn⟩,λx H' y=>?_⟩
    obtain⟨d,ed,ad,sm⟩:=w.yld Jx H1 i x H' ex cx.sto.all hi y
    have hd:ds.drop i=d::ds.drop (i+1):=by
     rw[List.drop_eq_getElem_cons hi]
     rw[List.getElem?_eq_getElem hi] at ed
     cases ed;rfl
    rw[hd] at el
    unfold gN at el
    cases hu:u d ρx with
    |none=>simp[hu] at el
    |some ρ1 =>
     simp only[hu] at el
     have xs:Ex Jx H1 Jx H':=Ex.same sm
     refine⟨Jx,ρx,Sx,d,ρ1,cx.re xs (cx.sto.same sm),ad,hu,λσ2 c2=>?_⟩
     cases qb:f ρ1 Sx with
     |none=>simp[qb] at el
     |some o =>
      obtain⟨ro,S2⟩:=o
      simp only[qb] at el
      have ez':=ez.ex xs
      cases ro with
      |error x =>
       cases el
       exact⟨Jx,ρ1,Sx,.error x,_,c2,qb,ez'⟩
      |ok fl =>
       cases fl with
       |next ρ'=>exact⟨Jx,ρ1,Sx,.ok (.next ρ'),S2,c2,qb,λJ' σ' H2 x' c'=>⟨J',ρ',S2,ex.trans (xs.trans x'),c',r1,S1',el,ez'.ex x'⟩⟩
       |cont ρ'=>exact⟨Jx,ρ1,Sx,.ok (.cont ρ'),S2,c2,qb,λJ' σ' H2 x' c'=>⟨J',ρ',S2,ex.trans (xs.trans x'),c',r1,S1',el,ez'.ex x'⟩⟩
       |brk ρ'=>cases el;exact⟨Jx,ρ1,Sx,.ok (.brk ρ'),_,c2,qb,ez'⟩
       |ret dd=>cases el;exact⟨Jx,ρ1,Sx,.ok (.ret dd),_,c2,qb,ez'⟩
   ·refine .inl ⟨w.stop Jx H1 i ex (by omega),?_⟩
    rw[List.drop_eq_nil_of_le (by omega)] at el
    unfold gN at el
    cases el
    exact ez Jx σ1 H1 Ex.refl cx
def uJ (f:Rho->Sto->Out D):Rho->Sto->Out (List D):=λρ S=>ag (f ρ S) λd S1=>aL (match d with | .tup xs=>some xs |_=>none) S1
def zi (f:Rho->Sto->Out D):Rho->Sto->Out (List D):=λρ S=>ag (f ρ S) λd S1=>aL (match d with | .lst xs=>some xs |_=>none) S1
theorem Walk.list {a:Addr}{ds:List D}{xs:List V}{J:List Addr}{H:Hp}(t:LQ X.K H J a xs)(m:Ats X.K H J ds xs):Walk X (Itl X.K a) ds J H where
 len:=by rw[m.length];exact t.len
 go:=λJ1 H1 i x hi=>by
  have m1:=m.ex x
  obtain⟨v,hv,_⟩:=m1.get (List.getElem?_eq_getElem hi)
  exact⟨xs,v,(t.ex x).sq,hv⟩
 yld:=λJ1 H1 i v H' x hJ hi y=>by
  obtain⟨rfl,hy⟩:=y
  obtain⟨d,e,a⟩:=(m.ex x).get' (hy xs (t.ex x).sq)
  exact⟨d,e,a,Same.refl _⟩
 stop:=λJ1 H1 i x hi=>⟨xs,(t.ex x).sq,by rw[← m.length];exact hi⟩
theorem Walk.tup {a:Addr}{ds:List D}{xs:List V}{J:List Addr}{H:Hp}(t:TQ X.K H J a xs)(m:Ats X.K H J ds xs):Walk X (Itt X.K a) ds J H where
 len:=by rw[m.length];exact t.len
 go:=λJ1 H1 i x hi=>by
  have m1:=m.ex x
  obtain⟨v,hv,_⟩:=m1.get (List.getElem?_eq_getElem hi)
  exact⟨xs,v,(t.ex x).sq,hv⟩
 yld:=λJ1 H1 i v H' x hJ hi y=>by
  obtain⟨rfl,hy⟩:=y
  obtain⟨d,e,a⟩:=(m.ex x).get' (hy xs (t.ex x).sq)
  exact⟨d,e,a,Same.refl _⟩
 stop:=λJ1 H1 i x hi=>⟨xs,(t.ex x).sq,by rw[← m.length];exact hi⟩
theorem qz {k:D->Option (List D)}{σ:St}{H:Hp}{R:It->Hp->Prop}(h:iW X W (λρ S=>ag (fe ρ S) λd S1=>aL (k d) S1) σ H R) :
  tE X W fe σ H λv H1 => ∃ J S d ds,StoOk X.K J S H1/\At X.K H1 J d v/\k d=some ds/\∀ H' Jt,Same H1 H'->Walk X Jt ds J H'->R Jt H':=by
 obtain⟨J,ρ,S,r,S',c,e,z⟩:=h
 cases q:fe ρ S with
 |none=>simp[q] at e
 |some o =>
  obtain⟨ro,S1⟩:=o
  simp only[q] at e
  cases ro with
  |error x =>
   cases e
   exact⟨J,ρ,S,.error x,_,c,.nil,q,z⟩
  |ok d =>
   refine⟨J,ρ,S,.ok d,S1,c,.nil,q,λJ1 H1 v x s1 m=>?_⟩
   cases hk:k d with
   |none=>simp[hk] at e
   |some ds =>
    simp only[hk,jY,cy,okO] at e
    cases e
    exact⟨J1,_,d,ds,s1,m,hk,λH' Jt sm w=>z J1 H' Jt (x.trans (Ex.same sm)) (s1.same sm) w⟩
theorem Bt {tg:Expr}(he:SE X W e fe):SI X W tg e (uJ fe):=(BS he).imp λσ H R h=>(qz h).mono λv H1 ⟨J,S,d,ds,s,m,hk,z⟩=>by
 cases d with
 |tup xs =>
  cases hk
  obtain⟨a,us,rfl,t,ms⟩:=At.tup_iff.mp m
  exact⟨a,rfl,⟨us,t.sq⟩,z H1 _ (Same.refl _) (Walk.tup t ms)⟩
 |_=>cases hk
theorem Bv {tg:Expr}(he:SE X W e fe):SI X W tg e (zi fe):=(zY he).imp λσ H R h=>(qz h).mono λv H1 ⟨J,S,d,ds,s,m,hk,z⟩=>by
 cases d with
 |lst xs =>
  cases hk
  obtain⟨a,us,rfl,t,ms⟩:=At.lst_iff.mp m
  exact⟨a,rfl,⟨us,t.sq⟩,z H1 _ (Same.refl _) (Walk.list t ms)⟩
 |_=>cases hk
def gE:List D->Option (List D)
 |[.int j]=>if -(2 ^ 62)<=j/\j<=16777216 then some ((List.range j.toNat).map λ(k:Nat)=>D.int k) else none
 |_=>none
def gR (k:List D->Option (List D))(t:Rho->Sto->Out (List D)):Rho->Sto->Out (List D):=λρ S=>ag (t ρ S) λds S1=>aL (k ds) S1
theorem Walk.range {J:List Addr}{H:Hp}(lo:Int)(n:Nat)(hz:n<=sizeLine):Walk X (Itr lo n) ((List.range n).map λ(k:Nat)=>D.int (lo+k)) J H where
 len:=by rw[List.length_map,List.length_range];exact hz
 go:=λJ1 H1 i x hi=>by rw[List.length_map,List.length_range] at hi;exact hi
 yld:=λJ1 H1 i v H' x hJ hi y=>by
  obtain⟨rfl,rfl⟩:=y
  rw[List.length_map,List.length_range] at hi
  exact⟨.int (lo+i),by rw[List.getElem?_map,List.getElem?_range hi];rfl,At.int_iff.mpr rfl,Same.refl _⟩
 stop:=λJ1 H1 i x hi=>by rw[List.length_map,List.length_range] at hi;exact hi
theorem km {k:List D->Option (List D)}{t:Rho->Sto->Out (List D)}{σ:St}{H:Hp}{R:It->Hp->Prop}(h:iW X W (λρ S=>ag (t ρ S) λd S1=>aL (k d) S1) σ H R) :
  tA X W t σ H λvs H1 => ∃ J S es ds,StoOk X.K J S H1/\Ats X.K H1 J es vs/\k es=some ds/\∀ H' Jt,Same H1 H'->Walk X Jt ds J H'->R Jt H':=by
 obtain⟨J,ρ,S,r,S',c,e,z⟩:=h
 cases q:t ρ S with
 |none=>simp[q] at e
 |some o =>
  obtain⟨ro,S1⟩:=o
  simp only[q] at e
  cases ro with
  |error x =>
   cases e
   exact⟨J,ρ,S,.error x,_,c,.nil,q,z⟩
  |ok es =>
   refine⟨J,ρ,S,.ok es,S1,c,.nil,q,λJ1 H1 v x s1 m=>?_⟩
   cases hk:k es with
   |none=>simp[hk] at e
   |some ds =>
    simp only[hk,jY,cy,okO] at e
    cases e
    exact⟨J1,_,es,ds,s1,m,hk,λH' Jt sm w=>z J1 H' Jt (x.trans (Ex.same sm)) (s1.same sm) w⟩
theorem gB {tg a:Expr}{t:Rho->Sto->Out (List D)}{x:Str}{p:Pos}(hx:x="range")(hm:X.mg x=none)(ha:SA X W [a] t)(hg:Gl X x:=by rfl)(hs:starEach [a] X.env=[(false,eval a X.env)]:=by rfl):SI X W tg (.Call (.Name x p) [a] [] pos) (gR gE t):=by
 subst hx
 refine PI.imp (wD hg hm ha hs) λσ H R h=>(km h).mono λvs H1 ⟨J,S,es,ds,s,m,hk,z⟩=>?_
 unfold gE at hk
 split at hk
 ·rename_i j
  split at hk
  ·rename_i c
   cases hk
   obtain⟨v,r,rfl,a1,n⟩:=Ats.cons_iff.mp m
   cases Ats.nil_iff.mp n
   cases At.int_iff.mp a1
   refine⟨j,rfl,c.1,by omega,z H1 _ (Same.refl _) ?_⟩
   have w:=Walk.range (X:=X) (J:=J) (H:=H1) 0 j.toNat (by show j.toNat<=16777216;omega)
   simpa using w
  ·cases hk
 ·cases hk
end
structure InScope (scope:Scope) (env:Env):Prop where
 kind:scope.kind = .function
 nocell:∀ y∈scope.names,y.2≠.cell
 names:∀ y∈scope.names,y.2 = .local->scope.names.lookup y.1=some .local
 frees:∀ y∈scope.names,y.2 = .free->env.kindOf y.1=some .cell∨env.kindOf y.1=some .free
theorem eU {env:Env}:∀ (names:List (Str×NameKind)) (acc:List (Str×Addr)),(∀ y∈names,y.2 = .free->∃ c,env.cells.lookup y.1=some c)->(∀ x c,acc.lookup x=some c->env.cells.lookup x=some c) ->
  ∃ cl:List (Str×Addr),(forIn names acc λ(x:Str×NameKind) r=>(do
    let (name,kind):=x
    if kind==.free then pure (ForInStep.yield ((name,← cellOf env name)::r)) else pure (ForInStep.yield r):Sem (ForInStep (List (Str×Addr)))))=pure cl /\
   (∀ x c,cl.lookup x=some c->env.cells.lookup x=some c)/\(∀ x c,acc.lookup x=some c->∃ c',cl.lookup x=some c')/\(∀ y∈names,y.2 = .free->∃ c,cl.lookup y.1=some c)
 |[],acc,_,ha=>⟨acc,by simp,ha,λx c h=>⟨c,h⟩,by simp⟩
 |(n,k)::r,acc,hc,ha=>by
  by_cases hk:k = .free
  ·subst hk
   obtain⟨c,ec⟩:=hc (n,.free) (List.mem_cons_self ..) rfl
   have ha':∀ x c',((n,c)::acc).lookup x=some c'->env.cells.lookup x=some c':=λx c' h=>by
    rw[List.lookup_cons] at h
    cases hx:x==n with
    |true =>
     rw[hx] at h
     cases h
     have:x=n:=eq_of_beq hx
     rw[this];exact ec
    |false=>rw[hx] at h;exact ha x c' h
   obtain⟨cl,e,h1,h2,h3⟩:=eU r ((n,c)::acc) (λy hy=>hc y (List.mem_cons_of_mem _ hy)) ha'
   have ecell:cellOf env n=pure c:=by unfold cellOf;rw[ec]
   refine⟨cl,?_,h1,λx c' h=>?_,λy hy hf=>?_⟩
   ·rw[List.forIn_cons]
    simp only[beq_self_eq_true,if_true,ecell,pure_bind]
    exact e
   ·by_cases hx:(x==n)=true
    ·exact h2 x c (by rw[List.lookup_cons,hx])
    ·exact h2 x c' (by rw[List.lookup_cons,Bool.eq_false_iff.mpr hx];exact h)
   ·rcases List.mem_cons.mp hy with rfl |hy
    ·exact h2 n c (by rw[List.lookup_cons,beq_self_eq_true])
    ·exact h3 y hy hf
  ·obtain⟨cl,e,h1,h2,h3⟩:=eU r acc (λy hy=>hc y (List.mem_cons_of_mem _ hy)) ha
   refine⟨cl,?_,h1,h2,λy hy hf=>?_⟩
   ·rw[List.forIn_cons]
    have:(k==NameKind.free)=false:=by simpa using hk
    simp only[this,Bool.false_eq_true,if_false,pure_bind]
    exact e
   ·rcases List.mem_cons.mp hy with rfl |hy
    ·exact absurd hf hk
    ·exact h3 y hy hf
def lr (X:Cx)(scope:Scope)(cl:List (Str×Addr))(N':List Str)(C:Addr)(s3:Shared)(H3:Hp)(fp:List Addr):Cx:=
 { X with N:=N',s₀:=s3,H₀:=H3,env:=compEnvC scope cl C X.env,outer:=X.stack,ex:=fp,fn:=λ_=>false,pn:=[],xe:=λ_ _=>False }
theorem dh {env:Env}{x:Str}:∀ {names:List (Str×NameKind)}{k:NameKind},(names.map λ(n,k)=>if (k==NameKind.free&&env.scope.kind==.function&&env.kindOf n==some .cell) then (n,NameKind.cell) else (n,k)).lookup x=some k->(∀ y∈names,y.2≠.cell) ->
  (k = .cell∨k = .free)->(x,NameKind.free)∈names
 |[],_,h,_,_=>by simp at h
 |(n,k0)::r,k,h,nc,hk=>by
  rw[List.map_cons] at h
  by_cases hc:(k0==NameKind.free&&env.scope.kind==.function&&env.kindOf n==some .cell)=true
  ·simp only[hc,if_true,List.lookup_cons] at h
   cases hx:x==n with
   |true =>
    have e:x=n:=eq_of_beq hx
    subst e
    have:k0 = .free:=by simp at hc;exact hc.1.1
    subst this
    exact List.mem_cons_self ..
   |false =>
    rw[hx] at h
    exact List.mem_cons_of_mem _ (dh h (λy hy=>nc y (List.mem_cons_of_mem _ hy)) hk)
  ·simp only[hc,if_false,List.lookup_cons,Bool.false_eq_true] at h
   cases hx:x==n with
   |true =>
    rw[hx] at h
    have e:x=n:=eq_of_beq hx
    subst e
    cases h
    rcases hk with rfl |rfl
    ·exact absurd rfl (nc (x,.cell) (List.mem_cons_self ..))
    ·exact List.mem_cons_self ..
   |false =>
    rw[hx] at h
    exact List.mem_cons_of_mem _ (dh h (λy hy=>nc y (List.mem_cons_of_mem _ hy)) hk)
def eE {α:Type}(ts:Nat)(ix:List Nat)(σ:List (Option α)):List (Option α):=List.replicate ts none++ix.map λi=>(σ[i]?).getD none
def ju (ts:List Str)(ix:List Nat)(N:List Str):List Str:=ts++ix.map λi=>N.getD i Str.empty
theorem gY {env:Env}{x:Str}:∀ {names:List (Str×NameKind)},names.lookup x=some .free ->
  (names.map λ(n,k)=>if (k==NameKind.free&&env.scope.kind==.function&&env.kindOf n==some .cell) then (n,NameKind.cell) else (n,k)).lookup x=some .cell ∨
  (names.map λ(n,k)=>if (k==NameKind.free&&env.scope.kind==.function&&env.kindOf n==some .cell) then (n,NameKind.cell) else (n,k)).lookup x=some .free
 |[],h=>by simp at h
 |(n,k0)::r,h=>by
  rw[List.map_cons]
  rw[List.lookup_cons] at h
  by_cases hc:(k0==NameKind.free&&env.scope.kind==.function&&env.kindOf n==some .cell)=true
  ·simp only[hc,if_true,List.lookup_cons]
   cases hx:x==n with
   |true=>exact .inl rfl
   |false=>rw[hx] at h;exact gY h
  ·simp only[hc,if_false,List.lookup_cons,Bool.false_eq_true]
   cases hx:x==n with
   |true=>rw[hx] at h;exact .inr h
   |false=>rw[hx] at h;exact gY h
theorem lookup_mem {x:Str}{k:NameKind}:∀ {names:List (Str×NameKind)},names.lookup x=some k->(x,k)∈names
 |[],h=>by simp at h
 |(n,k0)::r,h=>by
  rw[List.lookup_cons] at h
  cases hx:x==n with
  |true=>rw[hx] at h;cases h;rw[eq_of_beq hx];exact List.mem_cons_self ..
  |false=>rw[hx] at h;exact List.mem_cons_of_mem _ (lookup_mem h)
section
variable {X:Cx}{pins:List (Addr×Obj)}{σ:St}{H:Hp}{s:Shared}
theorem Inv.enter {scope:Scope}{cl:List (Str×Addr)}{ts:List Str}{ix:List Nat}{fp:List Addr}{s3:Shared}{h4:Heap}{H3:Hp}{m:Str->Option Value}{tk:Nat}(I:Inv X pins σ H3 s3)(S:InScope scope X.env)
  (h1:∀ x c,cl.lookup x=some c->X.env.cells.lookup x=some c) (h2:∀ y∈scope.names,y.2 = .free->∃ c,cl.lookup y.1=some c) (hcap:∀ t∈ix,scope.names.lookup (X.N.getD t Str.empty)=some .free)
  (f:∀ b∈fp,iV X pins H3 b) (fo:∀ b∈fp,∃ o,s3.heap.get? b=some o) (k:∀ b o,s3.heap.get? b=some o->h4.get? b=some o) (hn:h4.Ns s3.heap.objs.size m) :
  Inv (lr X scope cl (ju ts ix X.N) s3.heap.objs.size s3 H3 fp) [] (eE ts.length ix σ) H3 { s3 with heap:=h4,toks:=tk }:=by
 refine⟨⟨I.ok.mod,S.kind,I.ok.glob,I.ok.blt,Nat.le_refl _,λx y c a b=>I.ok.inj x y c (h1 x c a) (h1 y c b),λx hx=>?_,(λx c a=>by cases a),I.ok.hd,I.ok.frames,.inl rfl,λb hb=>⟨?_,λx c e=>(f b hb).2.2.2.2.1 x c (h1 x c e)⟩,I.bs,Nat.le_trans I.ok.bsz I.sz,λb o e hb=>?_,λb hb z=>?_,I.stack,I.stkFree⟩,
  rfl,I.bare,Un.kept k,⟨m,hn,λi x v e1 e2 e3=>?_⟩,λx c e=>?_,I.fresh,λx c e=>I.freeC x c (h1 x c e),λp hp=>absurd (show p∈([]:List (Addr×Obj)) from hp) (by simp),I.hok.kept k,?_⟩
 ·have q:(x,NameKind.free)∈scope.names:=by
   rcases hx with z |z
   ·exact dh z S.nocell (.inl rfl)
   ·exact dh z S.nocell (.inr rfl)
  exact h2 _ q rfl
 ·obtain⟨o,ho⟩:=fo b hb
  exact Nat.ne_of_lt (Heap.lt_size ho)
 ·obtain⟨f0,_,_,f3,_⟩:=f b hb
  rcases f3 with z |z
  ·exact I.ok.noex b o e z
  ·exact absurd (Nat.lt_of_lt_of_le (Heap.lt_size e) (Nat.le_trans I.ok.bsz z)) (Nat.lt_irrefl _)
 ·obtain⟨f0,f1,f2,f3,_⟩:=f b hb
  rcases List.mem_cons.mp (I.stkSub b z) with e |e
  ·exact f1 e
  ·exact f2 e
 ·-- a captured name
  have e2':(eE ts.length ix σ)[i]?=some (some v):=e2
  have e1':(ju ts ix X.N)[i]?=some x:=e1
  unfold eE at e2'
  unfold ju at e1'
  by_cases hi:i<ts.length
  ·rw[List.getElem?_append_left (by simpa using hi),List.getElem?_replicate] at e2'
   rw[if_pos hi] at e2'
   cases e2'
  ·rw[List.getElem?_append_right (by simpa using hi)] at e2'
   rw[List.getElem?_append_right (by simpa using hi)] at e1'
   rw[List.length_replicate] at e2'
   rw[List.getElem?_map] at e2' e1'
   cases et:ix[i-ts.length]? with
   |none=>rw[et] at e2';cases e2'
   |some t =>
    rw[et] at e2' e1'
    simp only[Option.map_some,Option.some.injEq] at e2' e1'
    have hs : σ[t]?=some (some v):=by
     cases q : σ[t]? with
     |none=>rw[q] at e2';cases e2'
     |some w=>rw[q] at e2';simp only[Option.getD_some] at e2';rw[e2']
    have ht:t<X.N.length:=by rw[← I.len];exact (List.getElem?_eq_some_iff.mp hs).1
    have hN:X.N[t]?=some x:=by
     rw[List.getD_eq_getElem?_getD,List.getElem?_eq_getElem ht] at e1'
     rw[List.getElem?_eq_getElem ht]
     simp only[Option.getD_some] at e1'
     rw[e1']
    have hfree:scope.names.lookup x=some .free:=by
     have:=hcap t (List.mem_of_getElem? et)
     rwa [e1'] at this
    have hm:=lookup_mem hfree
    have kinds:=S.frees _ hm rfl
    obtain⟨m0,_,hl⟩:=I.loc
    obtain⟨u,r,l⟩:=hl t x v hN hs (by
     rcases kinds with z |z
     ·exact .inr (.inl z)
     ·exact .inr (.inr z))
    refine⟨u,r,.inr ⟨gY hfree,?_⟩⟩
    obtain⟨c,ec⟩:=h2 _ hm rfl
    have ec':=h1 x c ec
    rcases l with ⟨kl,_⟩ |⟨_,c',e',cell⟩
    ·have kl':X.env.kindOf x=some .local:=kl
     rcases kinds with z |z
     ·have z':X.env.kindOf x=some .cell:=z
      rw[kl'] at z';cases z'
     ·have z':X.env.kindOf x=some .free:=z
      rw[kl'] at z';cases z'
    ·rw[ec'] at e'
     cases e'
     exact⟨c,ec,cell.keeps k⟩
 ·obtain⟨v,o,ho,hd⟩:=I.cell x c (h1 x c e)
  exact⟨v,o,k c o ho,hd⟩
 ·show (eE ts.length ix σ).length=(ju ts ix X.N).length
  unfold eE ju
  simp
theorem Inv.leave {scope:Scope}{cl:List (Str×Addr)}{N':List Str}{σ':St}{fp:List Addr}{s3 s':Shared}{h':Heap}{H3 H':Hp}{pins':List (Addr×Obj)}(I:Inv X pins σ H3 s3)(f:∀ b∈fp,iV X pins H3 b)
  (I':Inv (lr X scope cl N' s3.heap.objs.size s3 H3 fp) pins' σ' H' s') (k:∀ b,b≠s3.heap.objs.size->h'.get? b=s'.heap.get? b):Inv X pins σ H' { s' with heap:=h' }:=by
 have un:Un (frs X.stack) fp H3 H' s3.heap s'.heap:=I'.base
 have nC:∀ b o,s3.heap.get? b=some o->b≠s3.heap.objs.size:=λb o e=>Nat.ne_of_lt (Heap.lt_size e)
 have un':Un (frs X.stack) fp H3 H' s3.heap h':=by
  refine⟨λb o e n hb hx=>?_,λb o e n hb hx=>?_,un.free,λb o e hx=>?_,un.tups,un.frzs,un.tbls⟩
  ·rw[k b (nC b o e)];exact un.keep b o e n hb hx
  ·rw[k b (nC b o e)];exact un.slot b o e n hb hx
  ·rw[k b (nC b o e)];exact un.there b o e hx
 have hok:HOk X.prog X.w H' h':=λb u e=>by
  have hC:H' s3.heap.objs.size=none:=I'.free
  have ne:∀ c v,H' c=some v->c≠s3.heap.objs.size:=λc v q z=>by rw[z,hC] at q;cases q
  refine (I'.hok b u e).stay (λc v hc q=>?_) (λ_ q=>q) λ_ _ q=>q
  rw[k c]
  ·exact q
  ·rcases hc with z |z
   ·rw[z];exact ne b u e
   ·exact ne c _ z
 have os:s'.os=s3.os:=I'.os
 exact I.call' (s':={ s' with heap:=h' }) os un' hok I'.bare λb hb=>let ⟨_,a,_,b',c,d⟩:=f b hb;⟨b',a,c,d⟩
end
section
variable {prog:Program}{w:World}{A:Around}{R:Result->Shared->Prop}{s:Shared}
theorem qS {elt target iter:Expr}{ifs:List Expr}{scope:Scope}{pos:Pos}{it acc:Value}{env:Env}(I:Nat->Shared->Prop)
  (turn:∀ n s,I n s->wpAny (model prog w) A (pyNext it) (λr s₁=>match r with
   |none=>R (.ok .next) s₁
   |some v=>wpAny (model prog w) A (letOwnedTupleGo target it v) (λ_ s₁'=>wpAny (model prog w) A (assign target env v) (λ_ s₂ =>
     wpAny (model prog w) A (forIn ifs true λc r=>if r=true then do let ok ← isTrue c env (eval c env);pure (ForInStep.yield ok) else pure (ForInStep.yield r)) (λok s₃ =>
      if ok=true then wpAny (model prog w) A (eval elt env) (λx s₄ =>
       wpAny (model prog w) A (call (.builtin "list.append") [acc,x]) (λ_ s₅ => ∃ m,m<n/\I m s₅) (λ_ _=>False) s₄) (λ_ _=>False) s₃
      else ∃ m,m<n/\I m s₃) (λ_ _=>False) s₂) (λ_ _=>False) s₁') (λ_ _=>False) s₁) (λ_ _=>False) s)
  (n:Nat) (h:I n s):codeAny (model prog w) A (.compLoop (.ListComp elt [⟨target,iter,ifs,0⟩] scope pos) 0 it acc env) R s:=by
 have no:∀ {α:Type}{t:Sem α}{Q : α->Shared->Prop}{E:Value->Shared->Prop}{s:Shared},wpAny (model prog w) A t Q (λ_ _=>False) s->wpAny (model prog w) A t Q E s:=λh=>wpAny_mono h (λ_ _ q=>q) λ_ _ f=>f.elim
 refine codeAny_loop rfl I (λn s hI=>?_) n h
 show wpAny _ A ((compTurn (.ListComp elt [⟨target,iter,ifs,0⟩] scope pos) 0 it acc env).onRaise (λx=>do noteFrame x env;theTreesLotGoes x)) _ _ s
 refine wpAny_noted ?_
 rw[compTurn_list]
 refine wpAny_bind (wpAny_standAt (wpAny_bind (wpAny_mono (no (turn n s hI)) (λr s₁ h₁=>?_) λ_ _ h'=>h')))
 cases r with
 |none=>exact wpAny_pure h₁
 |some v =>
  refine wpAny_bind (wpAny_mono (no h₁) (λ_ s₁' h₁'=>?_) λ_ _ h'=>h')
  refine wpAny_bind (wpAny_mono (no h₁') (λ_ s₂ h₂=>wpAny_bind (wpAny_mono (no h₂) (λok s₃ h₃=>?_) λ_ _ h'=>h')) λ_ _ h'=>h')
  cases ok with
  |false=>exact wpAny_pure ⟨rfl,h₃⟩
  |true =>
   exact wpAny_bind (wpAny_bind (wpAny_mono (no h₃) (λx s₄ h₄=>wpAny_bind (wpAny_mono (no h₄) (λ_ s₅ h₅=>wpAny_pure (wpAny_pure ⟨rfl,h₅⟩)) λ_ _ h'=>h')) λ_ _ h'=>h'))
end
section
variable {X:Cx}{pins:List (Addr×Obj)}{σ:St}{H:Hp}{s:Shared}{D₀:Addr}
theorem Inv.adopt {ys:List V}{its:List Value}{n:Nat}(I:Inv X pins σ H s)(f:iV X pins H D₀)(e:s.heap.get? D₀=some { cls:=.type "list",data:=.seq its.toArray n })(r:Vals ys its)(hz:ys.length<=sizeLine):Inv X pins σ (upd H D₀ (.lst ys)) s:=by
 obtain⟨hn,f1,f2,f3,f4,f5⟩:=f
 have ne:∀ b o,H b=some o->b≠D₀:=λb o q=>aN q hn
 have q:=I.step (h':=s.heap) (H':=upd H D₀ (.lst ys)) (g':=s.gens) (d':=s.drawn) (t':=s.toks) (ch:=[D₀]) (λb hb=>by
   have:b=D₀:=by simpa using hb
   subst this
   exact⟨f3,f1,f4,f5⟩)
  (λb o _ _ _ e _=>e) (λb o _ _ _ e _=>⟨o.slots,e⟩) (λb o hb _ n'=>by rw[aF (λz=>hb (by simp[z]))];exact n') (λb o _ e=>⟨o,e⟩)
  (λb xs q=>by rw[aF (ne b _ q)];exact q) (λb o xs q=>by rw[aF (ne b _ q)];exact q) (λb ps q=>⟨#[],by rw[aF (ne b _ q),q];simp⟩) (λ_ hm=>hm) (λb u q=>?_) I.bare
 ·exact q
 ·by_cases hb:b=D₀
  ·subst hb
   rw[upd_same] at q
   cases q
   exact⟨hz,its,n,r,e⟩
  ·rw[aF hb] at q
   exact (I.hok b u q).stay (λc v _ z=>z) (λc z=>by rw[aF (ne c _ z)];exact z) λc xs z=>by rw[aF (ne c _ z)];exact z
end
def STs (X:Cx)(W:WT)(ifs:List Expr)(g:Rho->Sto->Out Bool):Prop:=
 ∀ (pins:List (Addr×Obj)) (s:Shared) (σ:St) (H:Hp) (Q:Bool->Hp->Prop),Inv X pins σ H s->tT X W g σ H Q ->
  wpAny (model X.prog X.w) X.A (forIn ifs true λc r=>if r=true then do let ok ← isTrue c X.env (eval c X.env);pure (ForInStep.yield ok) else pure (ForInStep.yield r)) (TP X pins σ Q) X.xe s
def ii:Rho->Sto->Out Bool:=λ_ S=>okO true S
theorem gU {X:Cx}{W:WT}:STs X W [] ii:=by
 intro pins s σ H Q I h
 rw[List.forIn_nil]
 exact wpAny_pure ⟨H,I,qr h⟩
theorem pW {X:Cx}{W:WT}{c:Expr}{g:Rho->Sto->Out Bool}(hc:TS1 X W c g):STs X W [c] g:=by
 intro pins s σ H Q I h
 rw[List.forIn_cons]
 simp only[if_true,List.forIn_nil]
 refine wpAny_bind (wpAny_bind (thn (hc pins s σ H Q I h) λb s1 q=>wpAny_pure ?_))
 exact wpAny_pure q
noncomputable def okP {α:Type}(m:Out α):Option (α×Sto):=match m with
 |some (.ok a,S)=>some (a,S)
 |_=>none
def eX (u:D->Rho->Option Rho)(gt:Rho->Sto->Out Bool)(fe:Rho->Sto->Out D):List D->Rho->Sto->Option (List D×Sto)
 |[],_,S=>some ([],S)
 |d::ds,ρ,S=>(u d ρ).bind λρ1=>(okP (gt ρ1 S)).bind λ(k,S1) =>
  if k=true then (okP (fe ρ1 S1)).bind λ(y,S2)=>(eX u gt fe ds ρ1 S2).map λ(ys,S3)=>(y::ys,S3)
  else eX u gt fe ds ρ1 S1
def fJ (n:Nat)(ix:List Nat)(fi:Rho->Sto->Out (List D))(u:D->Rho->Option Rho)(gt:Rho->Sto->Out Bool)(fe:Rho->Sto->Out D):Rho->Sto->Out D:=λρ S=>ag (fi ρ S) λds S1 =>
 match eX u gt fe ds (eE n ix ρ) S1 with
 |some (out,S2)=>okO (.lst out) S2
 |none=>none
abbrev W0:WT:=λ_ _ _ _=>False
section
variable {X:Cx}{W:WT}
structure CompEnd (X:Cx) (pins:List (Addr×Obj)) (σ:St) (J0:List Addr) (H0:Hp) (S2:Sto) (out:List D) (a C:Addr) (s':Shared):Prop where
 ns:∃ m,s'.heap.Ns C m
 own:X.s₀.heap.objs.size<=C/\C≠X.env.locals/\(∀ x c,X.env.cells.lookup x=some c->c≠C)/\∀ p∈X.pn++pins,p.1≠C
 fin:∀ h',(∀ b,b≠C->h'.get? b=s'.heap.get? b)->∃ J' H',Inv X pins σ H' { s' with heap:=h' }/\Ex J0 H0 J' H'/\StoOk X.K J' S2 H'/\At X.K H' J' (.lst out) (.ref a)/\H' C=none
def uQ (X':Cx)(tn:Nat->Heap->Prop)(fp:List Addr)(a:Addr)(u:D->Rho->Option Rho)(gt:Rho->Sto->Out Bool)(fe:Rho->Sto->Out D)(ds out:List D)(J0:List Addr)(H2:Hp)(S2:Sto)(n:Nat)(s':Shared):Prop:=
 ∃ (i:Nat) (σ':St) (H':Hp) (Jx:List Addr) (ρx:Rho) (Sx:Sto) (dn rest:List D) (ys:List V) (us:List Value) (ep:Nat),
  n=ds.length-i+1/\i<=ds.length/\Inv X' [] σ' H' s'/\tn i s'.heap/\(∀ b∈a::fp,H' b=none)/\Ex J0 H2 Jx H'/\Cf X' Jx ρx Sx σ' H' /\
  s'.heap.get? a=some { cls:=.type "list",data:=.seq us.toArray ep }/\Vals ys us/\Ats X'.K H' Jx dn ys/\dn.length<=i/\eX u gt fe (ds.drop i) ρx Sx=some (rest,S2)/\out=dn++rest
theorem xg {X':Cx}{tg elt:Expr}{ifs:List Expr}{u:D->Rho->Option Rho}{gt:Rho->Sto->Out Bool}{fe:Rho->Sto->Out D}{it a:Addr}{fp:List Addr}{tn:Nat->Heap->Prop}{Jt:It}{ds out:List D}{J0:List Addr}{H2:Hp}{S2:Sto}{R:Result->Shared->Prop}
  (hx:X'.xe=λ_ _=>False) (hc:X'.calm=true) (sg:SG X' tg u) (st:STs X' W0 ifs gt) (se:SE X' W0 elt fe) (T:Turn X'.prog X'.w X'.K tg Jt fp it tn) (wk:Walk X' Jt ds J0 H2) (na:a∉fp) (hz:ds.length<=sizeLine)
  (fin:∀ (pins':List (Addr×Obj)) (H':Hp) (b:Addr),b∈a::fp->H' b=none->(∀ p∈pins',p.1≠b)->iV X' pins' H' b)
  (endR:∀ (s':Shared) (σ':St) (H':Hp) (Jx:List Addr) (ρx:Rho) (ys:List V) (us:List Value) (ep:Nat),Inv X' [] σ' H' s'->Ex J0 H2 Jx H'->Cf X' Jx ρx S2 σ' H'->H' a=none->s'.heap.get? a=some { cls:=.type "list",data:=.seq us.toArray ep }->Vals ys us->Ats X'.K H' Jx out ys->ys.length<=sizeLine->R (.ok .next) s') :
  ∀ n s,uQ X' tn fp a u gt fe ds out J0 H2 S2 n s->wpAny (model X'.prog X'.w) X'.A (pyNext (.ref it)) (λr s₁=>match r with
   |none=>R (.ok .next) s₁
   |some v=>wpAny (model X'.prog X'.w) X'.A (letOwnedTupleGo tg (.ref it) v) (λ_ s₁'=>wpAny (model X'.prog X'.w) X'.A (assign tg X'.env v) (λ_ s₂ =>
     wpAny (model X'.prog X'.w) X'.A (forIn ifs true λc r=>if r=true then do let ok ← isTrue c X'.env (eval c X'.env);pure (ForInStep.yield ok) else pure (ForInStep.yield r)) (λok s₃ =>
      if ok=true then wpAny (model X'.prog X'.w) X'.A (eval elt X'.env) (λx s₄ =>
       wpAny (model X'.prog X'.w) X'.A (call (.builtin "list.append") [.ref a,x]) (λ_ s₅ => ∃ m,m<n/\uQ X' tn fp a u gt fe ds out J0 H2 S2 m s₅) (λ_ _=>False) s₄) (λ_ _=>False) s₃
      else ∃ m,m<n/\uQ X' tn fp a u gt fe ds out J0 H2 S2 m s₃) (λ_ _=>False) s₂) (λ_ _=>False) s₁') (λ_ _=>False) s₁) (λ_ _=>False) s:=by
 rintro n s ⟨i,σ',H',Jx,ρx,Sx,dn,rest,ys,us,ep,hn,hi,I',tni,fr,ex,cx,ga,vs,ad,dl,ec,eo⟩
 have fa:=fin [] H' a (List.mem_cons_self ..) (fr a (List.mem_cons_self ..)) (λp hp=>by simp at hp)
 have I1:Inv X' [(a,{ cls:=.type "list",data:=.seq us.toArray ep })] σ' H' s:=I'.pins_of λp hp=>by
  have:p=(a,{ cls:=.type "list",data:=.seq us.toArray ep }):=by simpa using hp
  subst this
  exact⟨ga,fa.1,fa.2.1,fa.2.2.1,λv z=>by cases z⟩
 have fp1:∀ H1:Hp,(∀ b∈fp,H1 b=none)->∀ b∈fp,iV X' [(a,{ cls:=.type "list",data:=.seq us.toArray ep })] H1 b:=λH1 hn b hb=>fin _ H1 b (List.mem_cons_of_mem _ hb) (hn b hb) λp hp=>by
  have:p=(a,{ cls:=.type "list",data:=.seq us.toArray ep }):=by simpa using hp
  subst this
  intro z
  have z':a=b:=z
  exact na (z'▸hb)
 by_cases hlt:i<ds.length
 ·refine thn (T.item X' rfl rfl rfl hc i _ s σ' H' (λ_ _=>False) I1 (fp1 H' λb hb=>fr b (List.mem_cons_of_mem _ hb)) tni (wk.go Jx H' i ex hlt)) λr s1 ⟨v,er,h1⟩=>?_
  subst er
  refine thn h1 λ_ s5 ⟨x,H5,I5,r5,y5,tn5,fr5⟩=>?_
  obtain⟨d,ed,ad5,sm⟩:=wk.yld Jx H' i x H5 ex cx.sto.all hlt y5
  have x5:Ex Jx H' Jx H5:=Ex.same sm
  have c5:Cf X' Jx ρx Sx σ' H5:=cx.re x5 (cx.sto.same sm)
  have hd:ds.drop i=d::ds.drop (i+1):=by
   rw[List.drop_eq_getElem_cons hlt]
   rw[List.getElem?_eq_getElem hlt] at ed
   cases ed;rfl
  rw[hd,eX] at ec
  obtain⟨ρ1,eu,ec⟩:=Option.bind_eq_some_iff.mp ec
  obtain⟨⟨k,S1⟩,eg,ec⟩:=Option.bind_eq_some_iff.mp ec
  have eg':gt ρ1 Sx=some (.ok k,S1):=by
   unfold okP at eg
   split at eg
   ·rename_i q;cases eg;exact q
   ·cases eg
  have I5':=I5.pinned (fp1 H5 fr5) (T.obj _ _ tn5)
  have keep:∀ {σ6:St}{H6:Hp}{s6:Shared},Inv X' ([(a,{ cls:=.type "list",data:=.seq us.toArray ep })]++k_ fp s5.heap) σ6 H6 s6->tn (i+1) s6.heap/\(∀ b∈a::fp,H6 b=none)/\s6.heap.get? a=some { cls:=.type "list",data:=.seq us.toArray ep }:=λ{σ6 H6 s6} I6=>by
   have pa:=I6.pin (a,{ cls:=.type "list",data:=.seq us.toArray ep }) (List.mem_append_right _ (List.mem_append_left _ (by simp)))
   refine⟨T.keep _ _ _ tn5 λb hb o e=>(I6.pin (b,o) (List.mem_append_right _ (List.mem_append_right _ (g7 hb e)))).1,λb hb=>?_,pa.1⟩
   rcases List.mem_cons.mp hb with rfl |hb
   ·exact pa.2.1
   ·obtain⟨o,e,_⟩:=T.obj _ _ tn5 b hb
    exact (I6.pin (b,o) (List.mem_append_right _ (List.mem_append_right _ (g7 hb e)))).2.1
  have nop:∀ {σ6:St}{H6:Hp}{s6:Shared},Inv X' ([(a,{ cls:=.type "list",data:=.seq us.toArray ep })]++k_ fp s5.heap) σ6 H6 s6->Inv X' [] σ6 H6 s6:=λ{σ6 H6 s6} I6=>I6.pins_of λp hp=>absurd hp (by simp)
  have g:=sg _ s5 σ' H5 x v (λσ6 H6=>H6=H5/\Cf X' Jx ρ1 Sx σ6 H6) I5' r5 ⟨Jx,ρx,Sx,d,ρ1,c5,ad5,eu,λσ6 c6=>⟨rfl,c6⟩⟩
  rw[hx] at g
  refine thn g λ_ s6 ⟨σ6,H6,I6,eH,c6⟩=>?_
  subst eH
  have t:=st _ s6 σ6 H6 (λb H7=>b=k/\∃ J7,Ex Jx H6 J7 H7/\Cf X' J7 ρ1 S1 σ6 H7) I6 ⟨Jx,ρ1,Sx,.ok k,S1,c6,.nil,eg',λJ7 H7 b x7 s7 eb=>by
   cases eb
   exact⟨rfl,J7,x7,c6.re x7 s7⟩⟩
  rw[hx] at t
  refine thn t λb s7 ⟨H7,I7,eb,J7,x7,c7⟩=>?_
  subst eb
  have ex7:Ex J0 H2 J7 H7:=ex.trans (x5.trans x7)
  have ad7:Ats X'.K H7 J7 dn ys:=(ad.ex x5).ex x7
  cases b with
  |false =>
   rw[if_neg (by decide)]
   simp only[Bool.false_eq_true,if_false] at ec
   obtain⟨t8,fr8,g8⟩:=keep I7
   exact⟨ds.length-(i+1)+1,by omega,i+1,σ6,H7,J7,ρ1,S1,dn,rest,ys,us,ep,rfl,by omega,nop I7,t8,fr8,ex7,c7,g8,vs,ad7,by omega,ec,eo⟩
  |true =>
   rw[if_pos rfl]
   simp only[if_true] at ec
   obtain⟨⟨y,Sy⟩,ey,ec⟩:=Option.bind_eq_some_iff.mp ec
   obtain⟨⟨ry,S3⟩,ey2,ec⟩:=Option.map_eq_some_iff.mp ec
   have ey':fe ρ1 S1=some (.ok y,Sy):=by
    unfold okP at ey
    split at ey
    ·rename_i q;cases ey;exact q
    ·cases ey
   simp only[Prod.mk.injEq] at ec
   obtain⟨er,es⟩:=ec
   subst es er
   have t:=se _ s7 σ6 H7 (λw H8 => ∃ J8,Ex J7 H7 J8 H8/\Cf X' J8 ρ1 Sy σ6 H8/\At X'.K H8 J8 y w) I7 ⟨J7,ρ1,S1,.ok y,Sy,c7,.nil,ey',λJ8 H8 w x8 s8 aw=>⟨J8,x8,c7.re x8 s8,aw⟩⟩
   rw[hx] at t
   refine thn t λw s8 ⟨vw,H8,I8,rw8,J8,x8,c8,aw⟩=>?_
   obtain⟨t8,fr8,g8⟩:=keep I8
   have ad8:Ats X'.K H8 J8 dn ys:=ad7.ex x8
   have l1:=ad8.length
   have l2:=vs.length
   refine call_meets F.slot_list_append ⟨_,g8,rfl⟩ F.entry_list_append (F.args_list_append_2 _ _) (PySem.list_append a us.toArray ep w (by rw[List.size_toArray];omega)) ⟨g8,?_⟩
   have ga':=PySem.IsL.update g8 (·.push w)
   have fa8:=fin [] H8 a (List.mem_cons_self ..) (fr8 a (List.mem_cons_self ..)) (λp hp=>by simp at hp)
   have I9:Inv X' [] σ6 H8 { s8 with heap:=s8.heap.update a (Obj.mapSeq (·.push w)),toks:=s8.toks }:=(nop I8).turned (it:=a) (λb o hb e=>(Heap.get?_update_other s8.heap (Obj.mapSeq (·.push w)) (Ne.symm hb)).trans e) fa8.1 fa8.2.1 fa8.2.2.2.1 fa8.2.2.2.2.1 fa8.2.2.2.2.2
   refine⟨ds.length-(i+1)+1,by omega,i+1,σ6,H8,J8,ρ1,Sy,dn++[y],ry,ys++[vw],us++[w],_,rfl,by omega,I9,?_,fr8,ex7.trans x8,c8,by simpa using ga',vs.append (.cons rw8 .nil),ad8.append (.cons aw .nil),by rw[List.length_append,List.length_singleton];omega,ey2,by rw[eo];simp⟩
   exact T.keep _ _ _ t8 λb hb o e=>(Heap.get?_update_other s8.heap (Obj.mapSeq (·.push w)) (λz:a=b=>na (by rw[z];exact hb))).trans e
 ·refine thn (T.done X' rfl rfl rfl hc i _ s σ' H' (λ_ _=>False) I1 (fp1 H' λb hb=>fr b (List.mem_cons_of_mem _ hb)) tni (wk.stop Jx H' i ex (by omega))) λr s1 ⟨er,J1⟩=>?_
  subst er
  rw[List.drop_eq_nil_of_le (by omega),eX] at ec
  cases ec
  rw[List.append_nil] at eo
  subst eo
  have l1:=ad.length
  have pa:=J1.pin (a,{ cls:=.type "list",data:=.seq us.toArray ep }) (List.mem_append_right _ (by simp))
  exact endR s1 σ' H' Jx ρx ys us ep (J1.pins_of λp hp=>absurd hp (by simp)) ex cx pa.2.1 pa.1 vs ad (by omega)
theorem pz {tg iter elt:Expr}{ifs:List Expr}{scope:Scope}{pos:Pos}{u:D->Rho->Option Rho}{gt:Rho->Sto->Out Bool}{fe:Rho->Sto->Out D}{ts:List Str}{ix:List Nat}{cl:List (Str×Addr)}
  {pins:List (Addr×Obj)}{σ:St}{s2:Shared}{E:Value->Shared->Prop}{it:Addr}{fp:List Addr}{tn:Nat->Heap->Prop}{Jt:It}{H2:Hp}{J0:List Addr}{ρ:Rho}{S1 S2:Sto}{ds out:List D}{RR:Value->Addr->Result->Shared->Prop}
  (hc:X.calm=true) (Sc:InScope scope X.env) (h1:∀ x c,cl.lookup x=some c->X.env.cells.lookup x=some c) (h2:∀ y∈scope.names,y.2 = .free->∃ c,cl.lookup y.1=some c) (hcap:∀ t∈ix,scope.names.lookup (X.N.getD t Str.empty)=some .free)
  (hin:∀ C s3 H3 fp,SG (lr X scope cl (ju ts ix X.N) C s3 H3 fp) tg u/\STs (lr X scope cl (ju ts ix X.N) C s3 H3 fp) W0 ifs gt/\SE (lr X scope cl (ju ts ix X.N) C s3 H3 fp) W0 elt fe)
  (I2:Inv X pins σ H2 s2) (T:Turn X.prog X.w X.K tg Jt fp it tn) (t0:tn 0 s2.heap) (f2:∀ b∈fp,iV X pins H2 b) (c2:Cf X J0 ρ S1 σ H2) (wk:Walk X Jt ds J0 H2)
  (ec:eX u gt fe ds (eE ts.length ix ρ) S1=some (out,S2))
  (hRR:∀ a C s',CompEnd X pins σ J0 H2 S2 out a C s'->RR (.ref a) C (.ok .next) s') :
  wpAny (model X.prog X.w) X.A (newList []) (λacc s₃=>wpAny (model X.prog X.w) X.A (newFunctionEnv scope X.env.globals cl [] X.env.qual none .none (some X.env)) (λcenv s₄ =>
   codeAny (model X.prog X.w) X.A (.compStart (.ListComp elt [⟨tg,iter,ifs,0⟩] scope pos) 0 (.ref it) acc { cenv with scope:=relabel scope X.env }) (RR acc cenv.locals) s₄) E s₃) E s2:=by
 refine wpAny_newObj_type (wpAny_newFunctionEnv Sc.nocell (by intro y hy;simp at hy) (λh4 hn4 hsb4=>?_) Sc.kind)
 dsimp only at hn4 hsb4 ⊢
 generalize hA:s2.heap.objs.size=a at *
 have k3:∀ b o,s2.heap.get? b=some o->(s2.heap.push { cls:=.type "list",dict:=none,data:=.seq ([]:List Value).toArray }).get? b=some o:=λb o e=>Heap.get?_push_of_some _ e
 obtain⟨s3,hs3⟩:∃ s3:Shared,s3={ s2 with heap:=s2.heap.push { cls:=.type "list",dict:=none,data:=.seq ([]:List Value).toArray } }:=⟨_,rfl⟩
 have I3:Inv X pins σ H2 s3:=by rw[hs3];exact I2.kept (t':=s2.toks) k3
 have hh3:s3.heap=s2.heap.push { cls:=.type "list",dict:=none,data:=.seq ([]:List Value).toArray }:=by rw[hs3]
 have sz3:s3.heap.objs.size=a+1:=by rw[hh3,Heap.size_push,hA]
 rw[← hh3] at hn4 hsb4
 have a3:s3.heap.get? a=some { cls:=.type "list",data:=.seq ([]:List Value).toArray }:=by rw[hh3,← hA];exact Heap.get?_push_size _ rfl
 have fa:iV X pins H2 a:=I2.fpOk (by rw[hA];exact Nat.le_refl _) (by rw[← hA];exact I2.fresh)
 have fobj:∀ b∈fp,∃ o,s2.heap.get? b=some o:=λb hb=>let ⟨o,e,_⟩:=T.obj 0 _ t0 b hb;⟨o,e⟩
 have na:a∉fp:=λhb=>by
  obtain⟨o,e⟩:=fobj a hb
  have:=Heap.lt_size e
  rw[hA] at this
  exact absurd this (Nat.lt_irrefl _)
 have f3:∀ b∈a::fp,iV X pins H2 b:=λb hb=>by
  rcases List.mem_cons.mp hb with rfl |hb
  ·exact fa
  ·exact f2 b hb
 have fo:∀ b∈a::fp,∃ o,s3.heap.get? b=some o:=λb hb=>by
  rcases List.mem_cons.mp hb with rfl |hb
  ·exact⟨_,a3⟩
  ·obtain⟨o,e⟩:=fobj b hb
   exact⟨o,by rw[hh3];exact k3 b o e⟩
 have k4:∀ b o,s3.heap.get? b=some o->h4.get? b=some o:=λb o e=>hsb4.extBut b o (Nat.ne_of_lt (Heap.lt_size e)) (Heap.get?_push_of_some _ e)
 have toks:∀ t,Inv (lr X scope cl (ju ts ix X.N) s3.heap.objs.size s3 H2 (a::fp)) [] (eE ts.length ix σ) H2 { s3 with heap:=h4,toks:=t }:=λt=>I3.enter Sc h1 h2 hcap f3 fo k4 hn4
 obtain⟨sg,st,se⟩:=hin s3.heap.objs.size s3 H2 (a::fp)
 have fin:∀ (pins':List (Addr×Obj)) (H':Hp) (b:Addr),b∈a::fp->H' b=none->(∀ p∈pins',p.1≠b)->iV (lr X scope cl (ju ts ix X.N) s3.heap.objs.size s3 H2 (a::fp)) pins' H' b:=λpins' H' b hb hn hp=>by
  refine⟨hn,?_,λz=>?_,.inl hb,λx c e=>(f3 b hb).2.2.2.2.1 x c (h1 x c e),λp hq=>hp p hq⟩
  ·obtain⟨o,e⟩:=fo b hb
   exact Nat.ne_of_lt (Heap.lt_size e)
  ·obtain⟨_,f1,f2',_⟩:=f3 b hb
   rcases List.mem_cons.mp (I3.stkSub b z) with q |q
   ·exact f1 q
   ·exact f2' q
 have own:X.s₀.heap.objs.size<=s3.heap.objs.size/\s3.heap.objs.size≠X.env.locals/\(∀ x c,X.env.cells.lookup x=some c->c≠s3.heap.objs.size)/\∀ p∈X.pn++pins,p.1≠s3.heap.objs.size:=by
  obtain⟨_,g1,g2,g3,g4,g5⟩:=I3.fpOk (H':=λ_=>none) (Nat.le_refl s3.heap.objs.size) rfl
  exact⟨I3.sz,g1,g4,g5⟩
 have c3:Cf (lr X scope cl (ju ts ix X.N) s3.heap.objs.size s3 H2 (a::fp)) J0 (eE ts.length ix ρ) S1 (eE ts.length ix σ) H2:=by
  refine⟨by unfold eE;simp,λi d h=>?_,c2.sto⟩
  unfold eE at h ⊢
  by_cases hi:i<ts.length
  ·rw[List.getElem?_append_left (by simpa using hi),List.getElem?_replicate,if_pos hi] at h
   cases h
  ·rw[List.getElem?_append_right (by simpa using hi),List.length_replicate,List.getElem?_map] at h ⊢
   cases et:ix[i-ts.length]? with
   |none=>rw[et] at h;cases h
   |some t =>
    rw[et] at h
    simp only[Option.map_some,Option.some.injEq] at h ⊢
    have hr : ρ[t]?=some (some d):=by
     cases q : ρ[t]? with
     |none=>rw[q] at h;cases h
     |some w=>rw[q] at h;simp only[Option.getD_some] at h;rw[h]
    obtain⟨v,e1,e2⟩:=c2.env t d hr
    exact⟨v,by rw[e1];rfl,e2⟩
 have w3:Walk (lr X scope cl (ju ts ix X.N) s3.heap.objs.size s3 H2 (a::fp)) Jt ds J0 H2:=⟨wk.len,wk.go,wk.yld,wk.stop⟩
 have loop:∀ t,codeAny (model X.prog X.w) X.A (.compLoop (.ListComp elt [⟨tg,iter,ifs,0⟩] scope pos) 0 (.ref it) (.ref a) (compEnvC scope cl s3.heap.objs.size X.env)) (RR (.ref a) s3.heap.objs.size) { s3 with heap:=h4,toks:=t }:=by
  intro t
  refine qS _ (xg (R:=RR (.ref a) s3.heap.objs.size) (S2:=S2) (out:=out) (X':=lr X scope cl (ju ts ix X.N) s3.heap.objs.size s3 H2 (a::fp)) rfl hc sg st se T w3 na wk.len fin ?_) (ds.length+1) ?_
  ·intro s' σ' H' Jx ρx ys us ep I' ex cx ha ga vs ad lz
   refine hRR a s3.heap.objs.size s' ⟨let ⟨m,hm,_⟩:=I'.loc;⟨m,hm⟩,own,λh' k=>?_⟩
   have I4:=I3.leave f3 I' k
   have ga':h'.get? a=some { cls:=.type "list",data:=.seq us.toArray ep }:=by
    rw[k a (by rw[sz3];exact Nat.ne_of_lt (Nat.lt_succ_self _))];exact ga
   have fa':iV X pins H' a:=⟨ha,fa.2⟩
   have I5:=I4.adopt fa' ga' vs lz
   have sm:Same H' (upd H' a (.lst ys)):=aS ha _
   have hC:H' s3.heap.objs.size=none:=I'.free
   refine⟨Jx,_,I5,ex.trans (Ex.same sm),cx.sto.same sm,At.newLst ad ha cx.sto.all lz,?_⟩
   rw[aF (by rw[sz3];exact Nat.ne_of_gt (Nat.lt_succ_self _))]
   exact hC
  ·refine⟨0,_,H2,J0,eE ts.length ix ρ,S1,[],out,[],[],0,rfl,Nat.zero_le _,toks t,?_,λb hb=>(f3 b hb).1,Ex.refl,c3,k4 a _ a3,.nil,.nil,Nat.le_refl _,by simpa using ec,rfl⟩
   exact T.keep 0 _ _ t0 λb hb o e=>k4 b o (by rw[hh3];exact k3 b o e)
 have L:=loop (s2.toks+([]:List (Str×Value)).length)
 have t4:tn 0 h4:=T.keep 0 _ _ t0 λb hb o e=>k4 b o (by rw[hh3];exact k3 b o e)
 rw[hs3] at L
 exact codeAny_compStart_list L (T.self _ 0 _ _ _ t4 L)
def DN (X:Cx)(scope:Scope)(ts:List Str)(ix:List Nat)(tg:Expr)(ifs:List Expr)(elt:Expr)(u:D->Rho->Option Rho)(gt:Rho->Sto->Out Bool)(fe:Rho->Sto->Out D):Prop:=
 ∀ (cl:List (Str×Addr)) (C:Addr) (s3:Shared) (H3:Hp) (fp:List Addr),SG (lr X scope cl (ju ts ix X.N) C s3 H3 fp) tg u/\STs (lr X scope cl (ju ts ix X.N) C s3 H3 fp) W0 ifs gt/\SE (lr X scope cl (ju ts ix X.N) C s3 H3 fp) W0 elt fe
theorem nT {scope:Scope}{pins:List (Addr×Obj)}{σ:St}{H:Hp}{s:Shared}(I:Inv X pins σ H s)(Sc:InScope scope X.env):∃ cl,closureFor scope X.env=pure cl/\(∀ x c,cl.lookup x=some c->X.env.cells.lookup x=some c)/\(∀ y∈scope.names,y.2 = .free->∃ c,cl.lookup y.1=some c):=by
 obtain⟨cl,e,h1,_,h3⟩:=eU (env:=X.env) scope.names [] (λy hy hf=>I.ok.has y.1 (Sc.frees y hy hf)) (by simp)
 refine⟨cl,?_,h1,h3⟩
 unfold closureFor
 exact (congrArg (λ(m:Sem (List (Str×Addr)))=>m >>= λr=>(pure r:Sem (List (Str×Addr)))) e).trans rfl
theorem pq {fi:Rho->Sto->Out (List D)}{u:D->Rho->Option Rho}{gt:Rho->Sto->Out Bool}{fe:Rho->Sto->Out D}{n:Nat}{ix:List Nat}{σ:St}{H:Hp}{Q:VK}(h:tE X W (fJ n ix fi u gt fe) σ H Q) :
  iW X W fi σ H λJt H0 => ∃ J0 ρ S1 S2 ds out,Cf X J0 ρ S1 σ H0/\Walk X Jt ds J0 H0/\eX u gt fe ds (eE n ix ρ) S1=some (out,S2)/\∀ J' H' v,Ex J0 H0 J' H'->StoOk X.K J' S2 H'->At X.K H' J' (.lst out) v->Q v H':=by
 obtain⟨J,ρ,S,r,S',c,_,e,z⟩:=h
 unfold fJ at e
 cases q:fi ρ S with
 |none=>simp[q] at e
 |some o =>
  obtain⟨ro,S1⟩:=o
  simp only[q] at e
  cases ro with
  |error x =>
   cases e
   exact⟨J,ρ,S,.error x,_,c,q,z⟩
  |ok ds =>
   simp only[jY] at e
   cases qc:eX u gt fe ds (eE n ix ρ) S1 with
   |none=>rw[qc] at e;cases e
   |some p =>
    obtain⟨out,S2⟩:=p
    rw[qc] at e
    cases e
    exact⟨J,ρ,S,.ok ds,S1,c,q,λJ0 H0 Jt x0 s0 w=>⟨J0,ρ,S1,_,ds,out,c.re x0 s0,w,qc,λJ' H' v x' s' m'=>z J' H' v (x0.trans x') s' m'⟩⟩
theorem fQ {tg iter elt:Expr}{ifs:List Expr}{scope:Scope}{pos:Pos}{fi:Rho->Sto->Out (List D)}{u:D->Rho->Option Rho}{gt:Rho->Sto->Out Bool}{fe:Rho->Sto->Out D}{ts:List Str}{ix:List Nat}
  (hc:X.calm=true) (Sc:InScope scope X.env) (hcap:∀ t∈ix,scope.names.lookup (X.N.getD t Str.empty)=some .free) (hi:SI X W tg iter fi) (hin:DN X scope ts ix tg ifs elt u gt fe)
  (hs:∀ x,foldedSetIterable iter X.env x=pure x:=by intro _;rfl):SE X W (.ListComp elt [⟨tg,iter,ifs,0⟩] scope pos) (fJ ts.length ix fi u gt fe):=by
 intro pins s σ H Q I h
 obtain⟨cl,hcl,h1,h2⟩:=nT I Sc
 rw[eval_ListComp]
 refine wpAny_comprehension_free (use:=none) rfl hs hcl Sc.kind Sc.names ?_
 refine thn (hi pins s σ H _ I (pq h)) λv s1 h1'=>thn h1' λitv s2 h2'=>?_
 obtain⟨it,fp,tn,Jt,H2,e,I2,T,t0,f2,J0,ρ,S1,S2,ds,out,c2,wk,ec,fin⟩:=h2'
 subst e
 refine pz hc Sc h1 h2 hcap (λC s3 H3 fp=>hin cl C s3 H3 fp) I2 T t0 f2 c2 wk ec λa C s' ce=>?_
 obtain⟨m,hm⟩:=ce.ns
 refine⟨m,hm,λh' sb=>?_⟩
 obtain⟨J',H',I',x',s',m',_⟩:=ce.fin h' λb hb=>sb.2 b hb
 exact⟨.ref a,H',I',rfl,fin J' H' _ x' s' m'⟩
end
section
variable {X:Cx}{W:WT}
theorem m4 {tg iter elt:Expr}{ifs:List Expr}{scope:Scope}{pos spos py:Pos}{fi:Rho->Sto->Out (List D)}{u:D->Rho->Option Rho}{gt:Rho->Sto->Out Bool}{fe:Rho->Sto->Out D}{ts:List Str}{ix:List Nat}{i:Nat}{y:Str}
  (hN:X.N.Nodup) (hc:X.calm=true) (Sc:InScope scope X.env) (hcap:∀ t∈ix,scope.names.lookup (X.N.getD t Str.empty)=some .free) (hi:SI X W tg iter fi) (hin:DN X scope ts ix tg ifs elt u gt fe)
  (hy:X.N[i]?=some y:=by rfl) (hx:Loc X.env.scope y:=by first |exact Or.inl rfl |exact Or.inr rfl) (hsw:swapsWith (.ListComp elt [⟨tg,iter,ifs,0⟩] scope pos) (some (.Name y py)) spos.line X.env=pure true:=by rfl)
  (hf:X.fn y=true∨X.env.scope.names.lookup y=some .local:=by first |exact .inl rfl |exact .inr rfl |assumption)
  (hs:∀ x,foldedSetIterable iter X.env x=pure x:=by intro _;rfl):SS X W (.Assign [.Name y py] (.ListComp elt [⟨tg,iter,ifs,0⟩] scope pos) spos) (bD i (fJ ts.length ix fi u gt fe)):=by
 intro pins s σ H E I h
 obtain⟨cl,hcl,h1,h2⟩:=nT I Sc
 have h:=tS.bindE h
 rw[exec_Assign_Name_used _ _ _ _ hsw]
 refine wpAny_bind (wpAny_standAt (wpAny_bind ?_))
 show wpAny _ X.A (do let _ ← comprehension (.ListComp elt [⟨tg,iter,ifs,0⟩] scope pos) scope X.env _ (newList []) false (eval iter X.env) (some (assign (.Name y py) X.env))) _ _ s
 refine wpAny_bind (wpAny_mono (wpAny_comprehension_free (use:=some (assign (.Name y py) X.env)) (Q:=λ_ s'=>SP X pins E .next s') rfl hs hcl Sc.kind Sc.names ?_) (λ_ s' hq=>wpAny_pure (wpAny_pure hq)) λ_ _ e=>e)
 refine thn (hi pins s σ H _ I (pq h)) λv s1 h1'=>thn h1' λitv s2 h2'=>?_
 obtain⟨it,fp,tn,Jt,H2,e,I2,T,t0,f2,J0,ρ,S1,S2,ds,out,c2,wk,ec,fin⟩:=h2'
 subst e
 refine pz hc Sc h1 h2 hcap (λC s3 H3 fp=>hin cl C s3 H3 fp) I2 T t0 f2 c2 wk ec λa C s' ce=>?_
 obtain⟨m,hm⟩:=ce.ns
 obtain⟨o1,o2,o3,o4⟩:=ce.own
 obtain⟨J',H',I',x',st',m',hC⟩:=ce.fin s'.heap λ_ _=>rfl
 have I'':Inv X pins σ H' s':=I'
 have q:=fin J' H' _ x' st' m'
 show wpAny _ X.A (assign (.Name y py) X.env (.ref a)) _ _ s'
 refine wpAny_assign_Name (oJ I'' hN hy hx (v:=.ref a) rfl (λs3 I3 ⟨ad,sb,hd⟩=>?_) hf)
 have nad:C≠ad:=by
  rcases hd with z |z
  ·rw[z];exact o2
  ·exact (o3 y ad z).symm
 refine⟨m,hm.sameBut sb nad,λh' sb'=>?_⟩
 have I4:Inv X pins (σ.set i (some (.ref a))) H' { s3 with heap:=h' }:=I3.turned (t':=s3.toks) (it:=C) (λb o hb e=>(sb'.2 b hb).trans e) hC o2 (.inr o1) o3 o4
 obtain⟨Jq,ρq,Sq,dq,rq,Sq',cq,mq,eq,zq⟩:=q
 cases eq
 exact⟨_,H',I4,zq Jq _ H' Ex.refl (cq.set mq)⟩
def spD (K:PySem.W.Frag)(F:List D->Sto->Out D):Sp:=λvs H Q _ => ∃ J S ds d S',Ats K H J ds vs/\StoOk K J S H/\F ds S=some (.ok d,S')/\∀ J' H' v,Ex J H J' H'->StoOk K J' S' H'->At K H' J' d v->Q v H'
def FnD (P:Program)(w:World)(K:PySem.W.Frag)(mg:Str->Option Value)(base:Heap)(k:Nat)(f:Addr)(fd:FuncData)(ps:List Str)(F:List D->Sto->Out D):Prop:=
 FnOk P w K mg base CX0 k f fd ps (spD K F)
def gI (m:Out D):Out D:=match m with
 |some (.ok d,S)=>some (.ok d,S)
 |_=>none
def aD (F:List D->Sto->Out D)(t:Rho->Sto->Out (List D)):Rho->Sto->Out D:=λρ S=>ag (t ρ S) λds S1=>gI (F ds S1)
variable {x:Str}{p pos:Pos}{e:Expr}{es:List Expr}{gs:Rho->Sto->Out (List D)}
theorem yY {F:List D->Sto->Out D}{σ:St}{H:Hp}{Q:VK}{Ex':XK}(h:tE X W (aD F gs) σ H Q):AW (spD X.K F) [] Ex' (tA X W gs) σ H Q:=
 (tG.bindA h).mono λus H1 ⟨ds,hl,h1⟩=>by
  rw[List.append_nil,List.append_nil] at h1
  obtain⟨J,ρ,S,r,S',c,m,e,z⟩:=h1
  have e:gI (F ds S)=some (r,S'):=e
  unfold gI at e
  split at e
  ·rename_i d S2 q
   cases e
   exact⟨J,S,ds,d,_,by rw[List.append_nil];exact m,c.sto,q,λJ' H' v x' s' m'=>z J' H' v x' s' m'⟩
  ·cases e
theorem zO {k:Nat}{f:Addr}{fd:FuncData}{ps:List Str}{F:List D->Sto->Out D}(G:FnD X.prog X.w X.K X.mg X.base k f fd ps F)(hr:Room k X.A)(hm:X.mg x=some (.ref f))(hk:PySem.W.keepIn X.K (.ref f)=true)(hb:Binds X.K fd ps [])
  (ha:SA X W (e::es) gs) (hg:Gl X x:=by rfl) (hdb:(x==("__debug__":Str))=false:=by decide) (he:starEach (e::es) X.env=(false,eval e X.env)::starEach es X.env:=by rfl) (hpl:(backTo pos (starEach es X.env)).any (·.1)=false:=by rfl) :
  SE X W (.Call (.Name x p) (e::es) [] pos) (aD F gs):=
 PE.imp (Aa (E:=E0) G hr hg hm hk hb .nil vf ha hdb he hpl) λσ H Q h=>yY h
theorem vE {P:Program}{w:World}{K:PySem.W.Frag}{mg:Str->Option Value}{base:Heap}{x qual:Str}{st:Stmt}{f:Addr}{fd:FuncData}{N ps:List Str}{k:Nat}{F:List D->Sto->Out D}(Fn:Fun K x qual st f fd)(S:FnScope N ps (aj st))
  (len:∀ ds S r,F ds S=some r->ds.length=ps.length)
  (hbody:∀ (cdv:Value) (A:Around) (outer:List Env) (s:Shared) (H:Hp) (E:XK),Room k (A.deeper (envOfC qual (aj st) s.heap.objs.size f cdv)) ->
   ∃ G:Rho->Sto->Out Fl,SSs (lq CX0 P w K mg base N qual (aj st) f cdv A outer s H E).nox W0 (bL st) G /\
    ∀ ds S d S',F ds S=some (.ok d,S')->∃ r,G (ds.map some++List.replicate (N.length-ds.length) none) S=some (.ok r,S')/\(r = .ret d∨(d = .non/\∃ ρ,r = .next ρ))) :
  FnD P w K mg base (k+1) f fd ps F:=by
 refine Fn.ok S (λvs H Q E h=>?_) (λcdv A outer s H vs Q E hr h=>?_)
 ·obtain⟨J,St,ds,d,S',m,_,e,_⟩:=h
  rw[← m.length];exact len ds St _ e
 ·obtain⟨J,St,ds,d,S',m,so,e,z⟩:=h
  obtain⟨G,hG,hF⟩:=hbody cdv A outer s H E hr
  obtain⟨r,eG,er⟩:=hF ds St d S' e
  refine⟨_,hG,J,_,St,.ok r,S',⟨?_,λi d' hd=>?_,so⟩,eG,?_⟩
  ·unfold start
   rw[List.length_append,List.length_append,List.length_map,List.length_map,m.length]
   simp
  ·by_cases hi:i<ds.length
   ·rw[List.getElem?_append_left (by simpa using hi),List.getElem?_map] at hd
    cases q:ds[i]? with
    |none=>rw[q] at hd;cases hd
    |some d0 =>
     rw[q] at hd
     cases hd
     obtain⟨v,ev,av⟩:=m.get q
     refine⟨v,?_,av⟩
     unfold start
     rw[List.getElem?_append_left (by rw[List.length_map,← m.length];exact hi),List.getElem?_map,ev]
     rfl
   ·rw[List.getElem?_append_right (by simpa using hi),List.getElem?_replicate] at hd
    split at hd<;>cases hd
  ·rcases er with rfl |⟨rfl,ρ,rfl⟩
   ·exact λJ' H' v x' s' a'=>z J' H' v x' s' a'
   ·exact λJ' σ' H' x' c'=>z J' H' _ x' c'.sto (At.non_iff.mpr rfl)
end
section
variable {X:Cx}{W:WT}
def Its (x:Str):It:=⟨λi _=>i<x.cps.size,λi H v H'=>H'=H/\∃ c,x.cps[i]?=some c/\v = .str ⟨#[c]⟩,λi _=>x.cps.size<=i⟩
theorem rC {P:Program}{w:World}{K:PySem.W.Frag}{tg:Expr}{it:Addr}{x:Str}{St:Nat->Heap->Prop}
  (hself:∀ (A:Around) (i:Nat) (s:Shared) (Q:Value->Shared->Prop) (E:Value->Shared->Prop),St i s.heap->Q (.ref it) s->wpAny (model P w) A (pyIter (.ref it)) Q E s) (Wk:∀ A':Around,A'.handled=none->Walks P w A' it [it] [it] x.cps.size (SignAt x) St) (hob:∀ i h,St i h->∃ o n vs,h.get? it=some o/\o.cls = .type n/\o.data = .fields vs/\["enumerate","zip","dict_itemiterator","dict_reverseitemiterator","odict_iterator","itertools.zip_longest","itertools.pairwise"].contains n=false) :
  Turn P w K tg (Its x) [it] it (λi h=>i<=x.cps.size/\St i h) where
 mem:=by simp
 obj:=λi h st b hb=>by
  have e:b=it:=by simpa using hb
  subst e
  obtain⟨o,n,vs,e,_,d,_⟩:=hob i h st.2
  exact⟨o,e,λv z=>by rw[d] at z;cases z⟩
 keep:=λi h h' st k=>⟨st.1,(Wk callerA rfl).frame i h h' st.2 λb hb o e=>k b hb o e⟩
 item:=by
  intro X hP hw hK hc i pins s σ H E I hf st hg
  subst hP hw hK
  obtain⟨f0,f1,f2,f3,f4,f5⟩:=hf it (by simp)
  refine (Wk X.A (I.ok.hd hc)).item i s _ _ hg st.2 λv h' tk sg st' k=>?_
  obtain⟨c,u,ec,ev⟩:=sg
  subst ev
  have I1:Inv X pins σ H { s with heap:=h',toks:=tk }:=I.turned (t':=tk) (λb o hb e=>k b o (by simpa using hb) e) f0 f1 f3 f4 f5
  obtain⟨o,n,vs,e,cc,d,hn⟩:=hob _ _ st'
  exact⟨_,rfl,vA (s:={ s with heap:=h',toks:=tk }) e cc d hn ⟨.str ⟨#[c]⟩,H,I1,⟨u,rfl⟩,⟨rfl,c,ec,rfl⟩,⟨hg,st'⟩,λb hb=>(hf b hb).1⟩⟩
 done:=by
  intro X hP hw hK hc i pins s σ H E I hf st hg
  subst hP hw hK
  obtain⟨f0,f1,f2,f3,f4,f5⟩:=hf it (by simp)
  have ei:i=x.cps.size:=Nat.le_antisymm st.1 hg
  subst ei
  exact (Wk X.A (I.ok.hd hc)).done s _ _ st.2 λh' tk k=>⟨rfl,I.turned (t':=tk) (λb o hb e=>k b o (by simpa using hb) e) f0 f1 f3 f4 f5⟩
 self:=λA i s Q E st h=>hself A i s Q E st.2 h
theorem Walk.str {x:Str}{J:List Addr}{H:Hp}(ok:okS x):Walk X (Its x) (x.cps.toList.map λc=>D.str ⟨#[c]⟩) J H where
 len:=by rw[List.length_map,Array.length_toList];exact ok.1
 go:=λJ1 H1 i _ hi=>by rw[List.length_map,Array.length_toList] at hi;exact hi
 yld:=λJ1 H1 i v H' _ hJ hi y=>by
  obtain⟨rfl,c,ec,rfl⟩:=y
  rw[List.length_map,Array.length_toList] at hi
  have ec':x.cps.toList[i]?=some c:=by simpa using ec
  refine⟨.str ⟨#[c]⟩,by rw[List.getElem?_map,ec'];rfl,At.str_iff.mpr ⟨rfl,by show 1<=sizeLine;decide,j7 (l:=[c]) λc' m=>?_⟩,Same.refl _⟩
  rw[List.mem_singleton.mp m]
  exact i_ ok.2 (List.mem_of_getElem? ec')
 stop:=λJ1 H1 i _ hi=>by rw[List.length_map,Array.length_toList] at hi;exact hi
def Bs:D->Option (List D)
 | .str x=>some (x.cps.toList.map λc=>D.str ⟨#[c]⟩)
 |_=>none
def y_ (f:Rho->Sto->Out D):Rho->Sto->Out (List D):=λρ S=>ag (f ρ S) λd S1=>aL (Bs d) S1
variable {e:Expr}{fe:Rho->Sto->Out D}{pos:Pos}
theorem Bu {tg:Expr}(he:SE X W e fe):SI X W tg e (y_ fe):=by
 intro pins s σ H R I h
 refine thn (he pins s σ H _ I (qz h)) λv s1 ⟨y,H1,I1,r1,J,S,d,ds,so,m,hk,z⟩=>?_
 cases d with
 |str x =>
  cases hk
  obtain⟨ey,ok⟩:=At.str_iff.mp m
  subst ey
  obtain⟨t,rfl⟩:=r1
  have fp:∀ b∈[s1.heap.objs.size],iV X pins H1 b:=λb hb=>by
   have e:b=s1.heap.objs.size:=by simpa using hb
   subst e
   exact I1.fpOk (Nat.le_refl _) I1.fresh
  cases ha:x.cps.all (·<128)
  ·refine wpAny_pyIter_wide ha ?_
   refine⟨s1.heap.objs.size,[s1.heap.objs.size],_,Its x,H1,rfl,I1.kept (t':=s1.toks) λb o e=>Heap.get?_push_of_some _ e,rC (St:=λi h=>h.IsStrIter s1.heap.objs.size "str_iterator" x t i) (λA i s Q E st q=>wpAny_pyIter_striter_wide st q) (λA' hA=>Walks.strWide hA _ x t) (λi h st=>?_),⟨Nat.zero_le _,_,Heap.get?_push_size _ rfl,rfl,rfl⟩,fp,z H1 _ (Same.refl _) (Walk.str ok)⟩
   obtain⟨o,ho,hc,hd⟩:=st
   exact⟨o,_,_,ho,hc,hd,by decide⟩
  ·refine wpAny_pyIter_ascii ha ?_
   refine⟨s1.heap.objs.size,[s1.heap.objs.size],_,Its x,H1,rfl,I1.kept (t':=s1.toks) λb o e=>Heap.get?_push_of_some _ e,rC (St:=λi h=>h.IsStrIter s1.heap.objs.size "str_ascii_iterator" x t i) (λA i s Q E st q=>wpAny_pyIter_striter_ascii st q) (λA' hA=>Walks.strAscii hA _ x t) (λi h st=>?_),⟨Nat.zero_le _,_,Heap.get?_push_size _ rfl,rfl,rfl⟩,fp,z H1 _ (Same.refl _) (Walk.str ok)⟩
   obtain⟨o,ho,hc,hd⟩:=st
   exact⟨o,_,_,ho,hc,hd,by decide⟩
 |_=>cases hk
theorem kB {prog:Program}{w:World}{A:Around}{E:Value->Shared->Prop}{s:Shared}{it l:Addr}{i:Nat}{items}{x:Value}{Q:Value->Shared->Prop}(hit:s.heap.IsTupleIter it l i)
  (hl:s.heap.IsTuple l items) (hx:items[i]?=some x)
  (hQ:∀ h',h'.IsTupleIter it l (i+1)->Heap.SameBut it s.heap h'->Q x { s with heap:=h' }) :
  wpAny (model prog w) A (Builtin.SmallTypes.nextOf (.ref it)) Q E s:=by
 obtain⟨o,ho,hc,hd⟩:=id hit
 obtain⟨ol,hol,_,nl,hdl⟩:=hl
 unfold Builtin.SmallTypes.nextOf
 refine wpAny_bind (wpAny_callSpecial?_slot (name:=Str.ofString "__next__") hit.typeIs F.slot_tuple_iterator_next
  (wpAny_call_entry F.slot_tuple_iterator_next hit.typeIs F.entry_tuple_iterator_next ?_ (F.args_tuple_iterator_next_1 _)))
 show wpAny _ _ (field (.ref it) 0 >>= _) _ _ s
 refine wpAny_bind (wpAny_field ho hd (x:=.ref l) rfl ?_)
 show wpAny _ _ (if (Value.ref l==Value.none)=true then _ else _) _ _ s
 rw[if_neg (show ¬ ((Value.ref l==Value.none)=true) from Bool.false_ne_true)]
 show wpAny _ _ (field (.ref it) 1 >>= _) _ _ s
 refine wpAny_bind (wpAny_field ho hd (x:=.int i 0) rfl ?_)
 show wpAny _ _ (seqItems? (.ref l) >>= _) _ _ s
 refine wpAny_bind (wpAny_seqItems hol hdl ?_)
 simp only[Int.toNat_natCast,hx]
 refine wpAny_bind (wpAny_setField ho hd (by simp) (wpAny_pure ⟨x,rfl,wpAny_pure (hQ _ ?_ (Heap.SameBut.update ..))⟩))
 exact⟨_,Heap.get?_update_self _ ho (Obj.isFreed_of_fields (Obj.data_mapFields hd _)),(Obj.cls_mapFields ..).trans hc,by
  rw[Obj.data_mapFields hd];simp[rawInt]⟩
theorem gM {prog:Program}{w:World}{A:Around}{E:Value->Shared->Prop}{s:Shared}{it l:Addr}{i:Nat}{items}{Q:Value->Shared->Prop}(hh:A.handled=none)
  (hit:s.heap.IsTupleIter it l i) (hl:s.heap.IsTuple l items) (hx:items[i]?=none)
  (hE:∀ h' e,Heap.ExtBut it s.heap h'->(∃ o,h'.get? e=some o/\o.cls = .type "StopIteration")->E (.ref e) { s with heap:=h' }) :
  wpAny (model prog w) A (Builtin.SmallTypes.nextOf (.ref it)) Q E s:=by
 obtain⟨o,ho,hc,hd⟩:=id hit
 obtain⟨ol,hol,_,nl,hdl⟩:=hl
 unfold Builtin.SmallTypes.nextOf
 refine wpAny_bind (wpAny_callSpecial?_slot (name:=Str.ofString "__next__") hit.typeIs F.slot_tuple_iterator_next
  (wpAny_call_entry F.slot_tuple_iterator_next hit.typeIs F.entry_tuple_iterator_next ?_ (F.args_tuple_iterator_next_1 _)))
 show wpAny _ _ (field (.ref it) 0 >>= _) _ _ s
 refine wpAny_bind (wpAny_field ho hd (x:=.ref l) rfl ?_)
 show wpAny _ _ (if (Value.ref l==Value.none)=true then _ else _) _ _ s
 rw[if_neg (show ¬ ((Value.ref l==Value.none)=true) from Bool.false_ne_true)]
 show wpAny _ _ (field (.ref it) 1 >>= _) _ _ s
 refine wpAny_bind (wpAny_field ho hd (x:=.int i 0) rfl ?_)
 show wpAny _ _ (seqItems? (.ref l) >>= _) _ _ s
 refine wpAny_bind (wpAny_seqItems hol hdl ?_)
 simp only[Int.toNat_natCast,hx]
 refine wpAny_bind (wpAny_rule (wpAny_bind (wpAny_setField ho hd (by simp) ?_)))
 show wpAny _ _ (newExc (.type "StopIteration") [] >>= _) _ _ _
 refine wpAny_bind ?_
 simp only[newExc,newTuple]
 refine wpAny_bind (wpAny_newObj_type ?_ (by size_fits))
 refine wpAny_bind (m:=firstArgMember _ _) (wpAny_of_eq (a:=Value.none) (by first |rfl |(simp only[firstArgMember];rfl)) ?_)
 refine wpAny_newObj_type ?_ (by size_fits)
 simp only[raiseNew]
 refine wpAny_bind (wpAny_handled ?_)
 first |rw[show A.in1.handled=none from hh] |rw[hh]
 refine wpAny_bind (wpAny_pure (wpAny_throw ?_))
 exact hE _ _ (((Heap.SameBut.update ..).extBut.push _).push _) ⟨_,Heap.get?_push_size _ rfl,rfl⟩
theorem Draws.tup {prog:Program}{w:World}{A:Around}(hh:A.handled=none)(it l:Addr)(hne:l≠it)(items:Array Value) :
  Draws prog w A it [it,l] items.size (λi v=>items[i]?=some v) (λi h=>h.IsTupleIter it l i/\h.IsTuple l items) where
 live:=λ_ _ st=>let ⟨o,ho,_⟩:=st.1;⟨o,ho⟩
 frame:=λ_ _ _ st hk=>⟨let ⟨o,ho,r⟩:=st.1;⟨o,hk it (by simp) o ho,r⟩,let ⟨o,ho,r⟩:=st.2;⟨o,hk l (by simp) o ho,r⟩⟩
 item:=λi s Q E hi st hQ=>by
  refine kB st.1 st.2 (x:=items[i]) (by simp[hi]) λh' hit' hs'=>?_
  exact hQ _ h' s.toks (by simp[hi]) ⟨hit',st.2.extBut hs'.extBut hne⟩ hs'
 done:=λs Q E st hE=>gM hh st.1 st.2 (by simp) hE
theorem nG (l:Addr)(items:Array Value)(n:Nat)(dct:Option Addr)(sl:Array (Option Value)) :
  Meets (Builtin.«enumerate.__new__» ⟨[.type "enumerate",.ref l],[]⟩) (λ_ R s=>s.heap.get? l=some { cls:=.type "tuple",dict:=dct,data:=.seq items n,slots:=sl } /\
   R (.ok (.ret (.ref (s.heap.push { cls:=.type "tuple_iterator",data:=.fields #[.ref l,.int 0 0] }).objs.size)))
    { s with heap:=(s.heap.push { cls:=.type "tuple_iterator",data:=.fields #[.ref l,.int 0 0] }).push { cls:=.type "enumerate",data:=.fields #[.none,.bool false,.ref s.heap.objs.size,rawInt 0,.none,.none] } }):=
 .of_wp λprog w A R s h=>by
  obtain⟨hp,g,d,tk,os⟩:=s;obtain⟨hl,h⟩:=h
  have hsub:=sub_enumerate
  have hL:Heap.IsTuple (Shared.heap ⟨hp,g,d,tk,os⟩) l items:=⟨_,hl,rfl,n,rfl⟩
  wp_walk using AutoSeq1.wpAny_loadPart' hl
  refine wpAny_stack_any λst=>wpAny_pure ?_
  split
  ·rename_i c _ _ _ _ _
   cases (c==Value.type "enumerate")
   ·wp_walk using AutoSeq1.wpAny_loadPart' hl,wpAny_pyIter_tuple hL
    exact⟨_,rfl,h⟩
   ·wp_walk using AutoSeq1.wpAny_loadPart' hl,wpAny_pyIter_tuple hL
    exact⟨_,rfl,h⟩
  ·wp_walk using AutoSeq1.wpAny_loadPart' hl,wpAny_pyIter_tuple hL
   exact⟨_,rfl,h⟩
theorem oo {prog:Program}{w:World}{A:Around}{E:Value->Shared->Prop}{s:Shared}{l:Addr}{items:Array Value}{Q:Value->Shared->Prop}(hL:IsTup s.heap l items)
  (h:∀ h',IsEnum h' (s.heap.objs.size+1) s.heap.objs.size 0 .none->h'.IsTupleIter s.heap.objs.size l 0->h'.objs.size=s.heap.objs.size+2 ->
   (∀ b o,s.heap.get? b=some o->h'.get? b=some o)->Q (.ref (s.heap.objs.size+1)) { s with heap:=h' }) :
  wpAny (model prog w) A (call (.type "enumerate") [.ref l]) Q E s:=by
 obtain⟨⟨c,dct,dt,sl⟩,hl,hc,n,hd⟩:=hL
 replace hc:c = .type "tuple":=hc
 replace hd:dt = .seq items n:=hd
 subst hc hd
 refine callType_new F.called_enumerate (by decide) (F.typeCall_enumerate_1 _) (F.newCall_enumerate_1 _) (λobj=>F.args_object_init_2 obj _) F.entry_enumerate_new
  (nG l items n dct sl) ⟨hl,?_⟩
 have hz:(s.heap.push { cls:=.type "tuple_iterator",data:=.fields #[.ref l,.int 0 0] }).objs.size=s.heap.objs.size+1:=Heap.size_push ..
 show _/\_
 rw[hz]
 have he:IsEnum ((s.heap.push { cls:=.type "tuple_iterator",data:=.fields #[.ref l,.int 0 0] }).push
   { cls:=.type "enumerate",data:=.fields #[.none,.bool false,.ref s.heap.objs.size,rawInt 0,.none,.none] }) (s.heap.objs.size+1) s.heap.objs.size 0 .none:=by
  have:=Heap.get?_push_size (s.heap.push { cls:=.type "tuple_iterator",data:=.fields #[.ref l,.int 0 0] })
   (o:={ cls:=.type "enumerate",data:=.fields #[.none,.bool false,.ref s.heap.objs.size,rawInt 0,.none,.none] }) rfl
  rw[hz] at this;exact this
 refine⟨⟨_,he,rfl⟩,h _ he ⟨_,Heap.get?_push_of_some _ (Heap.get?_push_size _ rfl),rfl,rfl⟩ (by rw[Heap.size_push,hz]) λb o x=>Heap.get?_push_of_some _ (Heap.get?_push_of_some _ x)⟩
theorem jq {prog:Program}{w:World}{A:Around}{E:Value->Shared->Prop}{s:Shared}{e it l:Addr}{i:Nat}{items:Array Value}{old:Value}{Q:Option Value->Shared->Prop}(hh:A.handled=none)
  (he:IsEnum s.heap e it i old) (hit:s.heap.IsTupleIter it l i) (hl:s.heap.IsTuple l items) (hx:items[i]?=none)
  (hQ:∀ h',Heap.ExtBut it s.heap h'->Q none { s with heap:=h' }):wpAny (model prog w) A (pyNext (.ref e)) Q E s:=by
 have hT:s.TypeIs (.ref e) "enumerate":=⟨_,he,rfl⟩
 unfold pyNext
 refine wpAny_bind (wpAny_attempt (wpAny_callSpecial?_slot (name:=Str.ofString "__next__") hT F.slot_enumerate_next
  (wpAny_call_entry F.slot_enumerate_next hT F.entry_enumerate_next ?_ (F.args_enumerate_next_1 _))))
 show wpAny _ _ (field (.ref e) 2 >>= _) _ _ _
 refine wpAny_bind (wpAny_field he rfl (x:=.ref it) rfl ?_)
 refine wpAny_bind (gM hh hit hl hx λh' x he' hx'=>?_)
 obtain⟨o,ho,hc⟩:=hx'
 refine wpAny_bind (wpAny_isInstance (T:="StopIteration") (b:=true) ⟨o,ho,hc⟩ isSubtype_stop ?_)
 exact wpAny_pure (hQ _ he')
def Ite (K:PySem.W.Frag)(a:Addr):It:=
 ⟨λi H => ∃ xs x,SqT K H a xs/\xs[i]?=some x,λi H x H' => ∃ p y,H p=none/\x = .ref p/\H'=upd H p (.tup [.int i,y])/\∀ xs,SqT K H a xs->xs[i]?=some y,λi H => ∃ xs,SqT K H a xs/\xs.length<=i⟩
theorem wf {P:Program}{w:World}{K:PySem.W.Frag}{es:List Expr}{k:Nat}{pt:Pos}(a e it:Addr)(hei:e≠it)(hae:a≠e)(hai:a≠it):Turn P w K (.Tuple es k pt) (Ite K a) [e,it] e (λi h=>(∃ old,IsEnum h e it i old)/\h.IsTupleIter it a i) where
 mem:=by simp
 obj:=λi h st b hb=>by
  obtain⟨⟨old,he⟩,o,ho,hc,hd⟩:=st
  rcases List.mem_cons.mp hb with rfl |hb
  ·exact⟨_,he,λv z=>by cases z⟩
  ·have:b=it:=by simpa using hb
   subst this
   exact⟨o,ho,λv z=>by rw[hd] at z;cases z⟩
 keep:=λi h h' st kp=>by
  obtain⟨⟨old,he⟩,o,ho,r⟩:=st
  exact⟨⟨old,kp e (by simp) _ he⟩,o,kp it (by simp) o ho,r⟩
 item:=by
  intro X hP hw hK hc i pins s σ H E I hf st hg
  subst hP hw hK
  obtain⟨xs,x,hq,hx⟩:=hg
  obtain⟨its,rv,p,hz⟩:=I.tuple hq
  obtain⟨u,hu,ru⟩:=rv.get hx
  obtain⟨⟨old,he⟩,hit⟩:=st
  have hlt:i<its.toArray.size:=by
   rw[List.size_toArray];exact (List.getElem?_eq_some_iff.mp hu).1
  refine wpAny_pyNext_enum_itemD (Draws.tup (A:=X.A.in1) (I.ok.hd hc) it a hai its.toArray) he ⟨hit,p⟩ hlt hei (by simp[hei,Ne.symm hae]) λy h' tk hP ho hs' hT hsz hk=>?_
  have ey:y=u:=by
   have:its.toArray[i]?=some u:=by simpa using hu
   rw[this] at hP
   exact (Option.some.inj hP).symm
  subst ey
  refine⟨_,rfl,wpAny_letOwnedTupleGo_enum (s:={ s with heap:=h',toks:=tk+1 }) ho λh2 he2 sb2=>?_⟩
  have hn:H s.heap.objs.size=none:=I.fresh
  obtain⟨fe0,fe1,fe2,fe3,fe4,fe5⟩:=hf e (by simp)
  obtain⟨fi0,fi1,fi2,fi3,fi4,fi5⟩:=hf it (by simp)
  have kp:∀ b o,b≠e->b≠it->s.heap.get? b=some o->h2.get? b=some o:=λb o h1 h2' e1=>(sb2.2 b h1).trans (hk b o h1 h2' e1)
  have hTe:s.heap.objs.size≠e:=Nat.ne_of_gt (Heap.lt_size he)
  have hT2:h2.get? s.heap.objs.size=some { cls:=.type "tuple",data:=.seq #[.int i tk,y] }:=(sb2.2 _ hTe).trans hT
  have ne:∀ b o,H b=some o->b≠s.heap.objs.size:=λb o q=>aN q hn
  have I1:Inv X pins σ (upd H s.heap.objs.size (.tup [.int i,x])) { s with heap:=h2,toks:=tk+1 }:=by
   refine I.step (h':=h2) (g':=s.gens) (d':=s.drawn) (t':=tk+1) (ch:=[e,it]) (λb hb=>?_) (λb o _ _ hb e1 _=>kp b o (λz=>hb (by simp[z])) (λz=>hb (by simp[z])) e1) (λb o _ _ hb e1 _=>⟨o.slots,kp b o (λz=>hb (by simp[z])) (λz=>hb (by simp[z])) e1⟩)
    (λb o hb e1 n'=>by rw[aF (Nat.ne_of_lt (Heap.lt_size e1))];exact n') (λb o hb e1=>⟨o,kp b o (λz=>hb (by simp[z])) (λz=>hb (by simp[z])) e1⟩)
    (λb xs q=>by rw[aF (ne b _ q)];exact q) (λb o xs q=>by rw[aF (ne b _ q)];exact q) (λb ps q=>⟨#[],by rw[aF (ne b _ q),q];simp⟩)
    (λm hm=>?_) (λb o q=>?_) I.bare
   ·rcases List.mem_cons.mp hb with rfl |hb
    ·exact⟨fe3,fe1,fe4,fe5⟩
    ·have:b=it:=by simpa using hb
     subst this
     exact⟨fi3,fi1,fi4,fi5⟩
   ·obtain⟨o,es,ep,ho,r⟩:=hm
    exact⟨o,es,ep,kp _ o (Ne.symm fe1) (Ne.symm fi1) ho,r⟩
   ·by_cases hb:b=s.heap.objs.size
    ·subst hb
     rw[upd_same] at q
     cases q
     exact⟨by show 2<=sizeLine;decide,[.int i tk,y],.cons ⟨tk,rfl⟩ (.cons ru .nil),_,hT2⟩
    ·rw[aF hb] at q
     refine (I.hok b o q).stay (λc v hc' z=>kp c v ?_ ?_ z) (λc z=>by rw[aF (ne c _ z)];exact z) λc xs z=>by rw[aF (ne c _ z)];exact z
     ·rcases hc' with z' |z'
      ·rw[z'];exact aN q fe0
      ·exact aN z' fe0
     ·rcases hc' with z' |z'
      ·rw[z'];exact aN q fi0
      ·exact aN z' fi0
  refine⟨.ref s.heap.objs.size,_,I1,rfl,⟨_,x,hn,rfl,rfl,λys hy=>by rw[I.tuple_inj hy hq];exact hx⟩,⟨⟨y,he2⟩,hs'.1.extBut sb2.extBut (Ne.symm hei)⟩,λb hb=>?_⟩
  rcases List.mem_cons.mp hb with rfl |hb
  ·rw[aF (Ne.symm hTe)];exact fe0
  ·have:b=it:=by simpa using hb
   subst this
   obtain⟨o,ho',_⟩:=hit
   rw[aF (Nat.ne_of_lt (Heap.lt_size ho'))];exact fi0
 done:=by
  intro X hP hw hK hc i pins s σ H E I hf st hg
  subst hP hw hK
  obtain⟨xs,hq,hx⟩:=hg
  obtain⟨its,rv,p,hz⟩:=I.tuple hq
  obtain⟨⟨old,he⟩,hit⟩:=st
  obtain⟨fi0,fi1,fi2,fi3,fi4,fi5⟩:=hf it (by simp)
  have hl:=rv.length
  exact jq (I.ok.hd hc) he hit p (by simp;omega) λh' eb=>⟨rfl,I.turned (t':=s.toks) (λb o hb e=>eb b o hb e) fi0 fi1 fi3 fi4 fi5⟩
 self:=by
  intro A i s Q E st h
  obtain⟨⟨old,he⟩,_⟩:=st
  exact wpAny_pyIter_enum he h
def cL (i:Nat):List D->List D
 |[]=>[]
 |d::ds => .tup [.int i,d]::cL (i+1) ds
theorem bE:∀ (ds:List D) (i:Nat),(cL i ds).length=ds.length
 |[],_=>rfl
 |d::ds,i=>by rw[cL,List.length_cons,List.length_cons,bE ds]
theorem ft:∀ (ds:List D) (i j:Nat),(cL i ds)[j]?=(ds[j]?).map λd=>D.tup [.int (i+j:Nat),d]
 |[],_,_=>by simp[cL]
 |d::ds,i,0=>by simp[cL]
 |d::ds,i,j+1=>by
  rw[cL,List.getElem?_cons_succ,ft ds (i+1) j,List.getElem?_cons_succ,show i+1+j=i+(j+1) by omega]
theorem Walk.enum {a:Addr}{ds:List D}{xs:List V}{J:List Addr}{H:Hp}(t:TQ X.K H J a xs)(m:Ats X.K H J ds xs):Walk X (Ite X.K a) (cL 0 ds) J H where
 len:=by rw[bE,m.length];exact t.len
 go:=λJ1 H1 i x hi=>by
  rw[bE] at hi
  have m1:=m.ex x
  obtain⟨v,hv,_⟩:=m1.get (List.getElem?_eq_getElem hi)
  exact⟨xs,v,(t.ex x).sq,hv⟩
 yld:=λJ1 H1 i v H' x hJ hi y=>by
  obtain⟨p,y,hn,rfl,rfl,hy⟩:=y
  obtain⟨d,e,a⟩:=(m.ex x).get' (hy xs (t.ex x).sq)
  refine⟨.tup [.int i,d],by rw[ft,e];simp,At.newTup (.cons (At.int_iff.mpr rfl) (.cons a .nil)) hn hJ (by show 2<=sizeLine;decide),aS hn _⟩
 stop:=λJ1 H1 i x hi=>by
  rw[bE] at hi
  exact⟨xs,(t.ex x).sq,by rw[← m.length];exact hi⟩
def jz:List D->Option (List D)
 |[.tup xs]=>some (cL 0 xs)
 |_=>none
theorem p8 {es:List Expr}{k:Nat}{pt p:Pos}{a:Expr}{t:Rho->Sto->Out (List D)}{x:Str}(hx:x="enumerate")(hm:X.mg x=none)(ha:SA X W [a] t)(hg:Gl X x:=by rfl)
  (he:starEach (a::[]) X.env=(false,eval a X.env)::starEach [] X.env:=by rfl) (hpl:(backTo pos (starEach [] X.env)).any (·.1)=false:=by rfl):SI X W (.Tuple es k pt) (.Call (.Name x p) [a] [] pos) (gR jz t):=by
 subst hx
 intro pins s σ H R I h
 refine wpAny_Call_Name_kw (lg I hg hm boot_enumerate ?_ (by decide) (by decide))
 refine callWith_type1 (thn (ha pos pins s σ H _ I (km h)) λus s1 ⟨vs,H1,I1,r1,J,S,es',ds,so,m,hk,z⟩=>?_) he hpl
 unfold jz at hk
 split at hk
 ·rename_i xs
  cases hk
  obtain⟨v,r,rfl,a1,n⟩:=Ats.cons_iff.mp m
  cases Ats.nil_iff.mp n
  obtain⟨ad,ws,rfl,tq,mz⟩:=At.tup_iff.mp a1
  obtain⟨u,rfl,ru⟩:=vals1 r1
  cases ru
  obtain⟨its,rv,pl,hz⟩:=I1.tuple tq.sq
  have had:ad<s1.heap.objs.size:=pl.lt
  refine oo pl λh' en it sz kp=>?_
  have I2:Inv X pins σ H1 { s1 with heap:=h' }:=I1.kept (t':=s1.toks) kp
  refine wpAny_pyIter_enum en ?_
  refine⟨s1.heap.objs.size+1,[s1.heap.objs.size+1,s1.heap.objs.size],_,Ite X.K ad,H1,rfl,I2,wf ad _ _ (Nat.ne_of_gt (Nat.lt_succ_self _)) (Nat.ne_of_lt (Nat.lt_succ_of_lt had)) (Nat.ne_of_lt had),⟨⟨_,en⟩,it⟩,λb hb=>?_,z H1 _ (Same.refl _) (Walk.enum tq mz)⟩
  rcases List.mem_cons.mp hb with rfl |hb
  ·exact I1.fpOk (Nat.le_succ _) (I1.hok.fresh (Nat.le_succ _))
  ·have:b=s1.heap.objs.size:=by simpa using hb
   subst this
   exact I1.fpOk (Nat.le_refl _) I1.fresh
 ·cases hk
end
section
variable {X:Cx}{W:WT}
theorem zF {prog:Program}{w:World}{A:Around}{E:Value->Shared->Prop}{s:Shared}{κ:PyProof.Rows.KeyKind}(hO : κ.OneLt){x:Value}{Q:Value->Shared->Prop}
  (h:wpAny (model prog w) A.in1 (collect x) (λvs s1=>PyProof.Rows.KeysOf κ (pairsOf vs)/\(∀ v₁ v₂ rest,vs=v₁::v₂::rest->keyKind' (v₁::v₂::rest).toArray=pure oneType')/\vs.length<64 /\
   ∀ (st':SortSt) h' ep,(arrOf st').Perm (pairsOf vs)->SortedToK κ (arrOf st') (pairsOf vs).size->(∀ b o,s1.heap.get? b=some o->h'.get? b=some o)->h'.get? s1.heap.objs.size=some (seqObj "list" ((arrOf st').map (·.2)) ep) ->
    Q (.ref s1.heap.objs.size) { s1 with heap:=h' }) E s):wpAny (model prog w) A (call (.builtin "sorted") [x]) Q E s:=by
 refine Calls.call_function_entry kind_sorted plain_sorted entry_sorted (args_sorted1 _) ?_
 unfold Builtin.«sorted»
 refine wpAny_bind (m:=checkCount "sorted" 1 1 _) (wpAny_pure ?_)
 refine wpAny_bind (thn h λvs s1 ⟨h0,hkk,h64,q⟩=>?_)
 refine wpAny_bind (wpAny_newList ?_)
 have hoL:(s1.heap.push (seqObj "list" vs.toArray 0)).get? s1.heap.objs.size=some (seqObj "list" vs.toArray 0):=Heap.get?_push_size _ rfl
 refine wpAny_bind (wpAny_holding (wpAny_call_entry slot_list_sort ⟨_,hoL,rfl⟩ entry_list_sort (list_sort_treeK hO hoL h0 hkk h64 λst' a1 a2=>⟨_,rfl,?_⟩) (args_list_sort _)))
 obtain⟨ep,hat⟩:=sortedHeap_at (out:=(arrOf st').map (·.2)) hoL
 exact wpAny_pure ⟨_,rfl,q st' _ ep a1 a2 (λb o e=>by
  rw[sortedHeap_old (Nat.ne_of_lt (Heap.lt_size e)) (by rw[size_push'];exact Nat.lt_succ_of_lt (Heap.lt_size e))]
  exact Heap.get?_push_of_some _ e) hat⟩
end
def leS (a b:Str):Bool:=!ltS b a
theorem leS_iff {a b:Str}:leS a b=true↔a.cps.toList<=b.cps.toList:=by
 unfold leS ltS
 rw[Bool.not_eq_true',decide_eq_false_iff_not,List.not_lt]
theorem gP (a b c:Str)(h:leS a b=true)(g:leS b c=true):leS a c=true:=leS_iff.mpr (List.le_trans (leS_iff.mp h) (leS_iff.mp g))
theorem jg (a b:Str):(leS a b ||leS b a)=true:=by
 rw[Bool.or_eq_true,leS_iff,leS_iff]
 exact List.le_total _ _
theorem zE {a b:Str}(h:a.cps.toList=b.cps.toList):a=b:=by
 cases a;cases b;congr;exact Array.toList_inj.mp h
theorem sB {a b:Str}(h:leS a b=true)(g:leS b a=true):a=b:=zE (List.le_antisymm (leS_iff.mp h) (leS_iff.mp g))
def fy (l:List Str):List Str:=l.mergeSort leS
theorem eY {l l':List Str}(hp:l'.Perm l)(hs:l'.Pairwise λa b=>leS a b=true):l'=fy l:=
 List.Perm.eq_of_pairwise (le:=λa b=>leS a b=true) (λa b _ _ h g=>sB h g) hs (List.pairwise_mergeSort gP jg l) (hp.trans (List.mergeSort_perm l leS).symm)
theorem pairwise_of_rising:∀ (p:Str) (l:List Str),risingS p l=true->(p::l).Pairwise λa b=>leS a b=true
 |p,[],_=>by simp
 |p,x::r,h=>by
  have h':(!ltCps x.cps.toList p.cps.toList&&risingS x r)=true:=h
  rw[Bool.and_eq_true] at h'
  have px:leS p x=true:=by
   unfold leS ltS
   rw[← ltCps_eq];exact h'.1
  have t:=pairwise_of_rising x r h'.2
  refine List.pairwise_cons.mpr ⟨λy hy=>?_,t⟩
  rcases List.mem_cons.mp hy with rfl |hy
  ·exact px
  ·exact gP _ _ _ px ((List.pairwise_cons.mp t).1 y hy)
theorem jr {l:List Str}(h:sortedS l=true):l.Pairwise λa b=>leS a b=true:=by
 cases l with
 |nil=>exact .nil
 |cons x r=>exact pairwise_of_rising x r h
def leI (a b:Int):Bool:=decide (a<=b)
def sortI (l:List Int):List Int:=l.mergeSort leI
theorem p7 {l l':List Int}(hp:l'.Perm l)(hs:l'.Pairwise (·<=·)):l'=sortI l:=by
 refine List.Perm.eq_of_pairwise (le:=λa b=>leI a b=true) (λa b _ _ h g=>?_) (hs.imp λh=>decide_eq_true h) (List.pairwise_mergeSort (λa b c h g=>?_) (λa b=>?_) l) (hp.trans (List.mergeSort_perm l leI).symm)
 ·exact Int.le_antisymm (of_decide_eq_true h) (of_decide_eq_true g)
 ·exact decide_eq_true (Int.le_trans (of_decide_eq_true h) (of_decide_eq_true g))
 ·unfold leI
  rw[Bool.or_eq_true,decide_eq_true_eq,decide_eq_true_eq]
  exact Int.le_total a b
def fx:List D->Option (List Str)
 |[]=>some []
 | .str x::r=>(fx r).map (x::·)
 |_=>none
def cP:List D->Option (List Int)
 |[]=>some []
 | .int x::r=>(cP r).map (x::·)
 |_=>none
theorem i6:∀ ss:List Str,fx (ss.map .str)=some ss
 |[]=>rfl
 |x::r=>by rw[List.map_cons,fx,i6 r];rfl
theorem intsO_map:∀ ss:List Int,cP (ss.map .int)=some ss
 |[]=>rfl
 |x::r=>by rw[List.map_cons,cP,intsO_map r];rfl
theorem mY:∀ {ds:List D}{ss:List Str},fx ds=some ss->ds=ss.map .str
 |[],ss,e=>by cases e;rfl
 | .str x::r,ss,e=>by
  obtain⟨t,e1,e2⟩:=Option.map_eq_some_iff.mp (show (fx r).map (x::·)=some ss from e)
  subst e2
  rw[mY e1];rfl
 | .non::_,_,e=>by cases e
 | .bl _::_,_,e=>by cases e
 | .int _::_,_,e=>by cases e
 | .tup _::_,_,e=>by cases e
 | .lst _::_,_,e=>by cases e
 | .set _::_,_,e=>by cases e
 | .loc _::_,_,e=>by cases e
 | .fn _ _::_,_,e=>by cases e
theorem iK:∀ {ds:List D}{ss:List Int},cP ds=some ss->ds=ss.map .int
 |[],ss,e=>by cases e;rfl
 | .int x::r,ss,e=>by
  obtain⟨t,e1,e2⟩:=Option.map_eq_some_iff.mp (show (cP r).map (x::·)=some ss from e)
  subst e2
  rw[iK e1];rfl
 | .non::_,_,e=>by cases e
 | .bl _::_,_,e=>by cases e
 | .str _::_,_,e=>by cases e
 | .tup _::_,_,e=>by cases e
 | .lst _::_,_,e=>by cases e
 | .set _::_,_,e=>by cases e
 | .loc _::_,_,e=>by cases e
 | .fn _ _::_,_,e=>by cases e
theorem t5 {a b:List D}(p:a.Perm b):∀ {sb},fx b=some sb->∃ sa,fx a=some sa/\sa.Perm sb:=by
 induction p with
 |nil=>intro sb e;exact⟨sb,e,.refl _⟩
 |cons x p ih =>
  intro sb e
  cases x with
  |str z =>
   obtain⟨t,e1,e2⟩:=Option.map_eq_some_iff.mp (show (fx _).map (z::·)=some sb from e)
   subst e2
   obtain⟨sa,e3,e4⟩:=ih e1
   exact⟨z::sa,by rw[fx,e3];rfl,.cons z e4⟩
  |_=>cases e
 |swap x y l =>
  intro sb e
  cases x with
  |str z =>
   cases y with
   |str z' =>
    obtain⟨t,e1,e2⟩:=Option.map_eq_some_iff.mp (show (fx (.str z'::l)).map (z::·)=some sb from e)
    obtain⟨t',e3,e4⟩:=Option.map_eq_some_iff.mp (show (fx l).map (z'::·)=some t from e1)
    subst e2 e4
    exact⟨z'::z::t',by rw[fx,fx,e3];rfl,.swap z z' t'⟩
   |_=>cases e
  |_=>cases e
 |trans _ _ ih1 ih2 =>
  intro sb e
  obtain⟨sm,e1,p1⟩:=ih2 e
  obtain⟨sa,e2,p2⟩:=ih1 e1
  exact⟨sa,e2,p2.trans p1⟩
theorem uA {a b:List D}(p:a.Perm b):∀ {sb},cP b=some sb->∃ sa,cP a=some sa/\sa.Perm sb:=by
 induction p with
 |nil=>intro sb e;exact⟨sb,e,.refl _⟩
 |cons x p ih =>
  intro sb e
  cases x with
  |int z =>
   obtain⟨t,e1,e2⟩:=Option.map_eq_some_iff.mp (show (cP _).map (z::·)=some sb from e)
   subst e2
   obtain⟨sa,e3,e4⟩:=ih e1
   exact⟨z::sa,by rw[cP,e3];rfl,.cons z e4⟩
  |_=>cases e
 |swap x y l =>
  intro sb e
  cases x with
  |int z =>
   cases y with
   |int z' =>
    obtain⟨t,e1,e2⟩:=Option.map_eq_some_iff.mp (show (cP (.int z'::l)).map (z::·)=some sb from e)
    obtain⟨t',e3,e4⟩:=Option.map_eq_some_iff.mp (show (cP l).map (z'::·)=some t from e1)
    subst e2 e4
    exact⟨z'::z::t',by rw[cP,cP,e3];rfl,.swap z z' t'⟩
   |_=>cases e
  |_=>cases e
 |trans _ _ ih1 ih2 =>
  intro sb e
  obtain⟨sm,e1,p1⟩:=ih2 e
  obtain⟨sa,e2,p2⟩:=ih1 e1
  exact⟨sa,e2,p2.trans p1⟩
section
variable {K:PySem.W.Frag}{H:Hp}{J:List Addr}
theorem Ats.strs:∀ {ss:List Str}{vs:List V}{us:List Value},Ats K H J (ss.map .str) vs->Vals vs us->StrsAre us ss/\vs=ss.map V.str/\∀ x∈ss,okS x
 |[],vs,us,m,r=>by
  cases Ats.nil_iff.mp m
  cases r
  exact⟨.nil,rfl,by simp⟩
 |x::ss,vs,us,m,r=>by
  obtain⟨v,vr,rfl,a,m'⟩:=Ats.cons_iff.mp m
  obtain⟨ev,ok⟩:=At.str_iff.mp a
  subst ev
  cases r with
  |cons r1 r2 =>
   obtain⟨t,rfl⟩:=r1
   obtain⟨s1,s2,s3⟩:=Ats.strs m' r2
   refine⟨.cons x t s1,by rw[s2];rfl,λy hy=>?_⟩
   rcases List.mem_cons.mp hy with rfl |hy
   ·exact ok
   ·exact s3 y hy
theorem Ats.ofStrs:∀ {ss:List Str},(∀ x∈ss,okS x)->Ats K H J (ss.map .str) (ss.map V.str)
 |[],_ => .nil
 |x::ss,h => .cons (At.str_iff.mpr ⟨rfl,h x (List.mem_cons_self ..)⟩) (Ats.ofStrs λy hy=>h y (List.mem_cons_of_mem _ hy))
theorem oF:∀ {us:List Value}{ss:List Str},StrsAre us ss->Vals (ss.map V.str) us
 |_,_,.nil => .nil
 |_,_,.cons x t h => .cons ⟨t,rfl⟩ (oF h)
end
section
theorem xD {prog:Program}{w:World}{A:Around}{E:Value->Shared->Prop}{s:Shared}{x:Value}{Q:Value->Shared->Prop}
  (h:wpAny (model prog w) A.in1 (collect x) (λvs s1 => ∃ ns,IntsAre vs ns/\vs.length<64 /\
   ∀ (out:Array Value) (ns':List Int) h' ep,IntsAre out.toList ns'->ns'.Perm ns->ns'.Pairwise (·<=·)->(∀ b o,s1.heap.get? b=some o->h'.get? b=some o)->h'.get? s1.heap.objs.size=some (seqObj "list" out ep) ->
    Q (.ref s1.heap.objs.size) { s1 with heap:=h' }) E s):wpAny (model prog w) A (call (.builtin "sorted") [x]) Q E s:=by
 refine Calls.call_function_entry kind_sorted plain_sorted entry_sorted (args_sorted1 _) ?_
 unfold Builtin.«sorted»
 refine wpAny_bind (m:=checkCount "sorted" 1 1 _) (wpAny_pure ?_)
 refine wpAny_bind (thn h λvs s1 ⟨ns,hI,h64,q⟩=>?_)
 refine wpAny_bind (wpAny_newList ?_)
 have hoL:(s1.heap.push (seqObj "list" vs.toArray 0)).get? s1.heap.objs.size=some (seqObj "list" vs.toArray 0):=Heap.get?_push_size _ rfl
 refine wpAny_bind (wpAny_holding (wpAny_call_entry slot_list_sort ⟨_,hoL,rfl⟩ entry_list_sort (list_sort_tree hoL hI h64 λout ns' a1 a2 a3=>⟨_,rfl,?_⟩) (args_list_sort _)))
 obtain⟨ep,hat⟩:=sortedHeap_at (out:=out) hoL
 exact wpAny_pure ⟨_,rfl,q out ns' _ ep a1 a2 a3 (λb o e=>by
  rw[sortedHeap_old (Nat.ne_of_lt (Heap.lt_size e)) (by rw[size_push'];exact Nat.lt_succ_of_lt (Heap.lt_size e))]
  exact Heap.get?_push_of_some _ e) hat⟩
end
section
variable {X:Cx}{W:WT}
def de (xs:List D):Option (List D):=if xs.length<64 then
  match fx xs with
  |some ss=>some ((fy ss).map .str)
  |none=>(cP xs).map λns=>(sortI ns).map .int
 else none
theorem ja {pins:List (Addr×Obj)}{σ:St}{H:Hp}{s:Shared}{J:List Addr}{x:Value}{ds:List D}{out:List D}{Q:VK}(hJ:∀ a∈J,H a≠none)(e:de ds=some out)(q:∀ H' v,Same H H'->At X.K H' J (.lst out) v->Q v H')
  (hcol:∀ (Q':List Value->Shared->Prop) (E:Value->Shared->Prop),(∀ us vs s1 ds',Inv X pins σ H s1->Vals vs us->ds'.Perm ds->Ats X.K H J ds' vs->Q' us s1)->wpAny (model X.prog X.w) X.A.in1 (collect x) Q' E s) :
  wpAny (model X.prog X.w) X.A (call (.builtin "sorted") [x]) (EP X pins σ Q) X.xe s:=by
 unfold de at e
 split at e
 ·rename_i h64
  have fin:∀ {s1:Shared}{h':Heap}{ep:Nat}{us':List Value}{vs':List V}(I1:Inv X pins σ H s1) (k:∀ b o,s1.heap.get? b=some o->h'.get? b=some o) (hat:h'.get? s1.heap.objs.size=some (seqObj "list" us'.toArray ep)) (rv:Vals vs' us') (m:Ats X.K H J out vs') (hl:vs'.length<=sizeLine),
    EP X pins σ Q (.ref s1.heap.objs.size) { s1 with heap:=h' }:=λ{s1 h' ep us' vs'} I1 k hat rv m hl =>
   ⟨.ref s1.heap.objs.size,_,I1.laid (t':=s1.toks) (o:=.lst vs') k (Nat.le_refl _) ⟨hl,us',ep,rv,hat⟩,rfl,q _ _ (aS I1.fresh _) (At.newLst m I1.fresh hJ hl)⟩
  split at e
  ·rename_i ss es
   cases e
   have ed:=mY es
   subst ed
   refine zF strKind_oneLt (hcol _ _ λus vs s1 ds' I1 rv pm m=>?_)
   have hso:∃ ss',fx ds'=some ss'/\ss'.Perm ss:=by
    exact t5 pm (i6 ss)
   obtain⟨ss',es',pss⟩:=hso
   have ed':=mY es'
   subst ed'
   obtain⟨sa,ev,ok⟩:=Ats.strs m rv
   have hlen:us.length=ss.length:=by
    rw[← rv.length,ev,List.length_map];exact pss.length_eq
   refine⟨sa.keysOf,λv₁ v₂ rest e=>keyKind_strs (by rw[← e];exact sa),by rw[List.length_map] at h64;omega,λst' h' ep hp hs k hat=>?_⟩
   obtain⟨so,h1,h2,h3⟩:=sorted_out_str sa hp hs
   have eso:so=fy ss:=eY (h2.trans pss) (jr h3)
   subst eso
   have ok':∀ x∈fy ss,okS x:=λx hx=>ok x (h2.mem_iff.mp hx)
   refine fin (us':=((arrOf st').map (·.2)).toList) I1 k (by rw[Array.toArray_toList];exact hat) (oF h1) (Ats.ofStrs ok') ?_
   rw[List.length_map,(h2.trans pss).length_eq]
   rw[List.length_map] at h64
   exact Nat.le_of_lt (Nat.lt_of_lt_of_le h64 (by decide))
  ·obtain⟨ns,es,eo⟩:=Option.map_eq_some_iff.mp e
   subst eo
   have ed:=iK es
   subst ed
   refine xD (hcol _ _ λus vs s1 ds' I1 rv pm m=>?_)
   obtain⟨ns',es',pss⟩:=uA pm (intsO_map ns)
   have ed':=iK es'
   subst ed'
   have ev:=Ats.toInts m
   subst ev
   have hI:=intsAre_of rv
   have hlen:us.length=ns.length:=by
    rw[← rv.length,List.length_map];exact pss.length_eq
   rw[List.length_map] at h64
   refine⟨ns',hI,by omega,λout no h' ep a1 a2 a3 k hat=>?_⟩
   have eso:no=sortI ns:=p7 (a2.trans pss) a3
   subst eso
   refine fin (us':=out.toList) I1 k (by rw[Array.toArray_toList];exact hat) (kP a1) (Ats.ofInts _) ?_
   rw[List.length_map,(a2.trans pss).length_eq]
   exact Nat.le_of_lt (Nat.lt_of_lt_of_le h64 (by decide))
 ·cases e
def xE:List D->Option D
 |[.tup xs]=>(de xs).map .lst
 |[.lst xs]=>(de xs).map .lst
 |_=>none
theorem AI:n8 X (.builtin "sorted") xE:=by
 intro pins s σ H xs us Q I r h
 obtain⟨J,ds,d,hJ,m,e,q⟩:=h
 unfold xE at e
 split at e
 ·rename_i ys
  obtain⟨out,e1,e2⟩:=Option.map_eq_some_iff.mp e
  subst e2
  obtain⟨v,w,rfl,a,n⟩:=Ats.cons_iff.mp m
  cases Ats.nil_iff.mp n
  obtain⟨p,zs,rfl,t,mz⟩:=At.tup_iff.mp a
  obtain⟨u,rfl,ru⟩:=vals1 r
  cases ru
  obtain⟨its,rv,⟨o,ho,hc,nn,hd⟩,hz⟩:=I.tuple t.sq
  refine ja hJ e1 q λQ' E hQ=>wpAny_collect_seq p (.inr rfl) ho hc hd (λh' k=>?_) (by rw[List.size_toArray,← rv.length];exact hz)
  exact hQ _ zs _ ys (I.kept (t':=s.toks) k) (by simpa using rv) (.refl _) mz
 ·rename_i ys
  obtain⟨out,e1,e2⟩:=Option.map_eq_some_iff.mp e
  subst e2
  obtain⟨v,w,rfl,a,n⟩:=Ats.cons_iff.mp m
  cases Ats.nil_iff.mp n
  obtain⟨p,zs,rfl,t,mz⟩:=At.lst_iff.mp a
  obtain⟨u,rfl,ru⟩:=vals1 r
  cases ru
  obtain⟨its,rv,⟨o,nn,ho,hc,_,hd⟩,hz⟩:=I.list t.sq
  refine ja hJ e1 q λQ' E hQ=>wpAny_collect_seq p (.inl rfl) ho hc hd (λh' k=>?_) (by rw[List.size_toArray,← rv.length];exact hz)
  exact hQ _ zs _ ys (I.kept (t':=s.toks) k) (by simpa using rv) (.refl _) mz
 ·cases e
end
def fz (a b:D):Bool:=decide (e_ a=e_ b)
def putD (kvs:List (D×D))(k v:D):List (D×D):=if (kvs.any λp=>fz p.1 k)=true then kvs.map (λp=>if fz p.1 k=true then (p.1,v) else p) else kvs++[(k,v)]
def getD (kvs:List (D×D))(k:D):Option D:=(kvs.find? λp=>fz p.1 k).map (·.2)
abbrev RKV (K:PySem.W.Frag)(H:Hp)(J:List Addr):(D×D)->(Key×V)->Prop:=λp q=>(e_ p.1=some q.1/\At K H J p.1 (kV q.1))/\At K H J p.2 q.2
section
variable {K:PySem.W.Frag}{H H':Hp}{J J':List Addr}
theorem nj {a k:D}{x y:Key}(h:e_ a=some x)(g:e_ k=some y):fz a k=decide (x=y):=by
 unfold fz
 rw[h,g]
 by_cases e:x=y
 ·subst e;simp
 ·rw[decide_eq_false e,decide_eq_false (λz=>e (Option.some.inj z))]
theorem CG {kvs:List (D×D)}{ps:List (Key×V)}{k:D}{y:Key}(g:e_ k=some y)(r:Paired (RKV K H J) kvs ps):(kvs.any λp=>fz p.1 k)=ps.any λq=>decide (q.1=y):=by
 induction r with
 |nil=>rfl
 |cons h t ih=>rw[List.any_cons,List.any_cons,ih,nj h.1.1 g]
theorem ww {kvs:List (D×D)}{ps:List (Key×V)}{k v:D}{y:Key}{w:V}(g:e_ k=some y)(av:At K H J v w)(r:Paired (RKV K H J) kvs ps):Paired (RKV K H J) (kvs.map λp=>if fz p.1 k=true then (p.1,v) else p) (ps.map λq=>if q.1=y then (q.1,w) else q):=by
 induction r with
 |nil=>exact .nil
 | @cons p q l1 l2 h t ih =>
  refine .cons ?_ ih
  show RKV K H J (if fz p.1 k=true then (p.1,v) else p) (if q.1=y then (q.1,w) else q)
  rw[nj h.1.1 g]
  by_cases e:q.1=y
  ·rw[if_pos (decide_eq_true e),if_pos e]
   exact⟨h.1,av⟩
  ·rw[if_neg (by rw[decide_eq_false e];decide),if_neg e]
   exact h
theorem wA {k v:D}{y:Key}{w:V}(g:e_ k=some y)(ak:At K H J k (kV y))(av:At K H J v w){l1:List (D×D)}{l2:List (Key×V)}(h:Paired (RKV K H J) l1 l2):Paired (RKV K H J) (l1++[(k,v)]) (l2++[(y,w)]):=by
 induction h with
 |nil=>exact .cons ⟨⟨g,ak⟩,av⟩ .nil
 |cons h t ih=>exact .cons h ih
theorem BI {kvs:List (D×D)}{ps:List (Key×V)}{k v:D}{y:Key}{w:V}(g:e_ k=some y)(ak:At K H J k (kV y))(av:At K H J v w)(r:Paired (RKV K H J) kvs ps):Paired (RKV K H J) (putD kvs k v) (putK ps y w):=by
 unfold putD putK
 rw[CG g r]
 split
 ·exact ww g av r
 ·exact wA g ak av r
theorem yJ {kvs:List (D×D)}{ps:List (Key×V)}{k:D}{y:Key}(g:e_ k=some y)(r:Paired (RKV K H J) kvs ps) :
  (getD kvs k=none/\j6 ps y=none)∨∃ d v,getD kvs k=some d/\j6 ps y=some v/\At K H J d v:=by
 unfold getD j6
 induction r with
 |nil=>exact .inl ⟨rfl,rfl⟩
 | @cons p q l1 l2 h t ih =>
  rw[List.find?_cons,List.find?_cons,nj h.1.1 g]
  by_cases e:q.1=y
  ·rw[decide_eq_true e]
   exact .inr ⟨p.2,q.2,rfl,rfl,h.2⟩
  ·rw[decide_eq_false e]
   exact ih
theorem jM {α β:Type}{F : α->β->Prop}{l1:List α}{l2:List β}(r:Paired F l1 l2):l1.length=l2.length:=Paired.length r
end
section
variable {X:Cx}{W:WT}{pos pos':Pos}{o i e:Expr}{fo fi fv:Rho->Sto->Out D}
def ti:Rho->Sto->Out D:=λ_ S=>okO (.loc S.length) (S++[.dict []])
theorem StoOk.push {K:PySem.W.Frag}{J:List Addr}{S:Sto}{H:Hp}{p:Addr}{o:HO}{mo:MO}(s:StoOk K J S H)(hp:H p=none)(hm:MAt K (upd H p o) (J++[p]) mo p):StoOk K (J++[p]) (S++[mo]) (upd H p o)/\Ex J H (J++[p]) (upd H p o):=by
 have x:Ex J H (J++[p]) (upd H p o):=⟨⟨[p],rfl⟩,λb u hb nb=>⟨by rw[aF (aN hb hp)];exact hb,λz=>by
  rcases List.mem_append.mp z with z |z
  ·exact nb z
  ·exact aN hb hp (by simpa using z)⟩⟩
 refine⟨⟨by rw[List.length_append,List.length_append,s.len];rfl,?_,λl a mo' h1 h2=>?_⟩,x⟩
 ·rw[List.nodup_append]
  refine⟨s.nd,by simp,λa ha b hb z=>?_⟩
  have:b=p:=by simpa using hb
  subst this
  exact s.tracked ha (z▸hp)
 ·by_cases hl:l<J.length
  ·rw[List.getElem?_append_left hl] at h1
   rw[List.getElem?_append_left (by rw[← s.len];exact hl)] at h2
   have q:=s.at_ l a mo' h1 h2
   refine q.ex x ?_
   rw[aF]
   intro z
   exact q.ne_none (z▸hp)
  ·rw[List.getElem?_append_right (by omega)] at h1
   rw[List.getElem?_append_right (by rw[← s.len];omega)] at h2
   have e0:l-J.length=0:=by
    have:=(List.getElem?_eq_some_iff.mp h1).1
    simp at this;omega
   rw[e0] at h1
   rw[← s.len,e0] at h2
   simp at h1 h2
   subst h1 h2
   exact hm
theorem qa:SE X W (.Dict [] [] pos) ti:=pe_dnewK.imp λσ H Q h=>by
 obtain⟨J,ρ,S,r,S',c,_,e,z⟩:=h
 cases e
 intro p hp
 have q:=c.sto.push (o:=.dK []) (mo:=.dict []) hp ⟨[],upd_same,.nil⟩
 refine z (J++[p]) _ _ q.2 q.1 (At.loc_iff.mpr ⟨p,rfl,?_⟩)
 rw[← c.sto.len,List.getElem?_append_right (Nat.le_refl _)]
 simp
theorem StoOk.update {K:PySem.W.Frag}{J:List Addr}{S:Sto}{H:Hp}{l:Nat}{a:Addr}{o:HO}{mo:MO}(s:StoOk K J S H)(hl:J[l]?=some a)(hm:∀ J' H',Ex J H J' H'->H'=upd H a o->J'=J->MAt K H' J' mo a):StoOk K J (S.set l mo) (upd H a o)/\Ex J H J (upd H a o):=by
 have hin:a∈J:=List.mem_of_getElem? hl
 have x:Ex J H J (upd H a o):=⟨List.prefix_refl _,λb u hb nb=>⟨by rw[aF (λz:b=a=>nb (by rw[z];exact hin))];exact hb,nb⟩⟩
 refine⟨⟨by rw[List.length_set];exact s.len,s.nd,λj b mo' h1 h2=>?_⟩,x⟩
 by_cases hj:j=l
 ·subst hj
  rw[hl] at h1
  cases h1
  have hlt:j<S.length:=by rw[← s.len];exact (List.getElem?_eq_some_iff.mp hl).1
  rw[List.getElem?_set_self hlt] at h2
  cases h2
  exact hm J _ x rfl rfl
 ·rw[List.getElem?_set_ne (Ne.symm hj)] at h2
  refine (s.at_ j b mo' h1 h2).ex x ?_
  rw[aF]
  intro z
  subst z
  exact hj ((List.getElem?_inj (List.getElem?_eq_some_iff.mp h1).1 s.nd).mp (h1.trans hl.symm))
def rP (x k v:D)(ρ:Rho)(S:Sto):Out Fl:=match x with
 | .loc l=>match S[l]?,e_ k with
  |some (.dict kvs),some _=>if kvs.length<sizeLine then okO (.next ρ) (S.set l (.dict (putD kvs k v))) else none
  |_,_=>none
 |_=>none
def uK (fo fi fv:Rho->Sto->Out D):Rho->Sto->Out Fl:=λρ S=>ag (fv ρ S) λv S1=>ag (fo ρ S1) λx S2=>ag (fi ρ S2) λk S3=>rP x k v ρ S3
def tH (X:Cx)(W:WT)(ds:List D)(vs:List V)(g:Rho->Sto->Out Fl):TS:=λE σ H => ∃ J ρ S r S',Cf X J ρ S σ H/\Ats X.K H J ds vs/\g ρ S=some (r,S')/\EndS X W J H r S' E
theorem tH.bindE {fa:Rho->Sto->Out D}{k:D->Rho->Sto->Out Fl}{ds:List D}{vs:List V}{E:Ends}{σ:St}{H:Hp}
  (h:tH X W ds vs (λρ S=>ag (fa ρ S) λd S1=>k d ρ S1) E σ H):tE X W fa σ H λv H1 => ∃ d,tH X W (d::ds) (v::vs) (k d) E σ H1:=by
 obtain⟨J,ρ,S,r,S',c,a,e,z⟩:=h
 cases q:fa ρ S with
 |none=>simp[q] at e
 |some o =>
  obtain⟨ro,S1⟩:=o
  simp only[q] at e
  cases ro with
  |error x =>
   cases e
   exact⟨J,ρ,S,.error x,_,c,.nil,q,z⟩
  |ok d=>exact⟨J,ρ,S,.ok d,S1,c,.nil,q,λJ1 H1 v x s1 m=>⟨d,J1,ρ,S1,r,S',c.re x s1,.cons m (a.ex x),e,z.ex x⟩⟩
theorem sE {k:D}{y:Key}{K:PySem.W.Frag}{H:Hp}{J:List Addr}{v:V}(g:e_ k=some y)(a:At K H J k v):v=kV y:=by
 cases k with
 |int i=>cases g;exact At.int_iff.mp a
 |str x=>cases g;exact (At.str_iff.mp a).1
 |_=>cases g
theorem t7 (hu:X.A.units+1<cLine)(ho:SE X W o fo)(hi:SE X W i fi)(hv:SE X W e fv)(hs:swapsWith e (some (.Subscript o i pos')) pos.line X.env=pure false:=by rfl):SS X W (.Assign [.Subscript o i pos'] e pos) (uK fo fi fv):=
 (zU hu ho hi hv hs).imp λE σ H h=>by
  have h:tH X W [] [] (uK fo fi fv) E σ H:=let ⟨J,ρ,S,r,S',c,e,z⟩:=h;⟨J,ρ,S,r,S',c,.nil,e,z⟩
  refine (tH.bindE h).mono λv H1 ⟨dv,h1⟩=>(tH.bindE h1).mono λx H2 ⟨dx,h2⟩=>(tH.bindE h2).mono λy H3 ⟨dk,h3⟩=>?_
  obtain⟨J,ρ,S,r,S',c,m,e,z⟩:=h3
  obtain⟨mk,m⟩:=m.uncons
  obtain⟨mx,m⟩:=m.uncons
  obtain⟨mv,_⟩:=m.uncons
  unfold rP at e
  cases dx with
  |loc l =>
   simp only at e
   split at e
   ·rename_i kvs yk es ek
    split at e
    ·rename_i lt
     cases e
     obtain⟨a,rfl,ha⟩:=At.loc_iff.mp mx
     obtain⟨ps,eh,rp⟩:=c.sto.at_ l a _ ha es
     have ey:=sE ek mk
     subst ey
     have q:=c.sto.update (o:=.dK (putK ps yk v)) (mo:=.dict (putD kvs dk dv)) ha λJ' H' x' eH eJ=>by
      subst eH eJ
      refine⟨_,upd_same,BI ek (mk.ex x') (mv.ex x') ?_⟩
      exact Paired.mapP rp λp q z=>⟨⟨z.1.1,z.1.2.ex x'⟩,z.2.ex x'⟩
     exact⟨a,_,rfl,DPut.k eh (by rw[← jM rp];exact lt),z J σ _ q.2 (c.re q.2 q.1)⟩
    ·cases e
   ·cases e
  |_=>cases e
def AD (neg:Bool)(k x:D)(S:Sto):Option D:=match x with
 | .loc l=>match S[l]?,e_ k with
  |some (.dict kvs),some _=>some (.bl (if neg then !(getD kvs k).isSome else (getD kvs k).isSome))
  |_,_=>none
 |_=>none
def xk (neg:Bool)(fk fd:Rho->Sto->Out D):Rho->Sto->Out D:=λρ S=>ag (fk ρ S) λk S1=>ag (fd ρ S1) λx S2=>aL (AD neg k x S2) S2
theorem nQ {neg:Bool}{σ:St}{H:Hp}{Q:VK}(h:tE X W (xk neg fi fo) σ H Q):tE X W fi σ H λy H1=>tE X W fo σ H1 λx H2 => ∃ a o,x = .ref a/\DGet H2 a y o/\Q (.bl (if neg then !o.isSome else o.isSome)) H2:=
 (tG.bindE h).mono λy H1 ⟨dk,h1⟩=>(tG.bindE h1).mono λx H2 ⟨dx,h2⟩=>by
  obtain⟨J,ρ,S,r,S',c,m,e,z⟩:=h2
  obtain⟨mx,m⟩:=m.uncons
  obtain⟨mk,_⟩:=m.uncons
  unfold AD at e
  cases dx with
  |loc l =>
   simp only at e
   split at e
   ·rename_i kvs yk es ek
    cases e
    obtain⟨a,rfl,ha⟩:=At.loc_iff.mp mx
    obtain⟨ps,eh,rp⟩:=c.sto.at_ l a _ ha es
    have ey:=sE ek mk
    subst ey
    refine⟨a,_,rfl,DGet.k eh,?_⟩
    have q:=z J H2 _ Ex.refl c.sto (At.bl_iff.mpr rfl)
    rcases yJ ek rp with ⟨g1,g2⟩ |⟨d,v,g1,g2,_⟩
    ·rw[g1] at q;rw[g2];exact q
    ·rw[g1] at q;rw[g2];exact q
   ·cases e
  |_=>cases e
theorem By (hu:X.A.units+1<cLine)(hi:SE X W i fi)(ho:SE X W o fo)(hm:behindInMarks .In o=false:=by with_unfolding_all rfl):SE X W (.Compare i [.In] [o] pos) (xk false fi fo):=
 (BX (ya hu hi ho) hm).imp λσ H Q h=>nQ (neg:=false) h
theorem Bm (hu:X.A.units+1<cLine)(hi:SE X W i fi)(ho:SE X W o fo)(hm:behindInMarks .In o=false:=by with_unfolding_all rfl):TS1 X W (.Compare i [.In] [o] pos) (bf (xk false fi fo)):=
 (ul (ya hu hi ho) hm).imp λσ H Q h=>tTest.mono (t:=CV (tE X W fi) (tE X W fo)) (λ_ _ _=>nQ (neg:=false)) (iB h)
theorem wg (hu:X.A.units+1<cLine)(hi:SE X W i fi)(ho:SE X W o fo)(hm:behindInMarks .NotIn o=false:=by with_unfolding_all rfl):TS1 X W (.Compare i [.NotIn] [o] pos) (bf (xk true fi fo)):=
 (ul (wF hu hi ho) hm).imp λσ H Q h=>tTest.mono (t:=uY (tE X W fi) (tE X W fo)) (λ_ _ _=>nQ (neg:=true)) (iB h)
def vI (x k:D)(S:Sto):Option D:=match x with
 | .loc l=>match S[l]?,e_ k with
  |some (.dict kvs),some _=>getD kvs k
  |_,_=>none
 |_=>none
def DG (fd fk:Rho->Sto->Out D):Rho->Sto->Out D:=λρ S=>ag (fd ρ S) λx S1=>ag (fk ρ S1) λk S2=>aL (vI x k S2) S2
theorem zN (hu:X.A.units+1<cLine)(ho:SE X W o fo)(hi:SE X W i fi)(hs:xo i):SE X W (.Subscript o i pos) (DG fo fi):=(z9 hu ho hi hs).imp λσ H Q h =>
 (tG.bindE h).mono λx H1 ⟨dx,h1⟩=>(tG.bindE h1).mono λy H2 ⟨dk,h2⟩=>by
  obtain⟨J,ρ,S,r,S',c,m,e,z⟩:=h2
  obtain⟨mk,m⟩:=m.uncons
  obtain⟨mx,_⟩:=m.uncons
  unfold vI at e
  cases dx with
  |loc l =>
   simp only at e
   split at e
   ·rename_i kvs yk es ek
    obtain⟨a,rfl,ha⟩:=At.loc_iff.mp mx
    obtain⟨ps,eh,rp⟩:=c.sto.at_ l a _ ha es
    have ey:=sE ek mk
    subst ey
    rcases yJ ek rp with ⟨g1,g2⟩ |⟨d,v,g1,g2,av⟩
    ·rw[g1] at e;cases e
    ·rw[g1] at e
     cases e
     exact⟨a,v,rfl,by rw[← g2];exact DGet.k eh,z J H2 _ Ex.refl c.sto av⟩
   ·cases e
  |_=>cases e
end
section
variable {X:Cx}{W:WT}
theorem SE.either {e:Expr}{g g1 g2:Rho->Sto->Out D}(h1:SE X W e g1)(h2:SE X W e g2)(h:∀ ρ S,g ρ S=g1 ρ S∨g ρ S=g2 ρ S):SE X W e g:=λpins s σ H Q I z=>by
 obtain⟨J,ρ,S,r,S',c,a,e,y⟩:=z
 rcases h ρ S with q |q
 ·exact h1 pins s σ H Q I ⟨J,ρ,S,r,S',c,a,by rw[← q];exact e,y⟩
 ·exact h2 pins s σ H Q I ⟨J,ρ,S,r,S',c,a,by rw[← q];exact e,y⟩
theorem TS1.either {e:Expr}{g g1 g2:Rho->Sto->Out Bool}(h1:TS1 X W e g1)(h2:TS1 X W e g2)(h:∀ ρ S,g ρ S=g1 ρ S∨g ρ S=g2 ρ S):TS1 X W e g:=λpins s σ H Q I z=>by
 obtain⟨J,ρ,S,r,S',c,a,e,y⟩:=z
 rcases h ρ S with q |q
 ·exact h1 pins s σ H Q I ⟨J,ρ,S,r,S',c,a,by rw[← q];exact e,y⟩
 ·exact h2 pins s σ H Q I ⟨J,ρ,S,r,S',c,a,by rw[← q];exact e,y⟩
theorem SI.either {tg e:Expr}{g g1 g2:Rho->Sto->Out (List D)}(h1:SI X W tg e g1)(h2:SI X W tg e g2)(h:∀ ρ S,g ρ S=g1 ρ S∨g ρ S=g2 ρ S):SI X W tg e g:=λpins s σ H R I z=>by
 obtain⟨J,ρ,S,r,S',c,e,y⟩:=z
 rcases h ρ S with q |q
 ·exact h1 pins s σ H R I ⟨J,ρ,S,r,S',c,by rw[← q];exact e,y⟩
 ·exact h2 pins s σ H R I ⟨J,ρ,S,r,S',c,by rw[← q];exact e,y⟩
theorem cM {α β:Type}(m:Out α){k k1 k2 : α->Sto->Out β}(h:∀ a S,k a S=k1 a S∨k a S=k2 a S):ag m k=ag m k1∨ag m k=ag m k2:=by
 cases m with
 |none=>exact .inl rfl
 |some o =>
  obtain⟨r,S⟩:=o
  cases r with
  |error c=>exact .inl rfl
  |ok a=>exact h a S
def cg:D->Bool
 | .loc _=>true
 |_=>false
def ixO (x i:D)(S:Sto):Option D:=if cg x=true then vI x i S else ixD x i
def cIx (fa fb:Rho->Sto->Out D):Rho->Sto->Out D:=λρ S=>ag (fa ρ S) λx S1=>ag (fb ρ S1) λi S2=>aL (ixO x i S2) S2
variable {a b:Expr}{fa fb:Rho->Sto->Out D}{pos:Pos}
theorem a_ (hu:X.A.units+1<cLine)(ha:SE X W a fa)(hb:SE X W b fb)(hs:xo b:=by exact λ_ _=>rfl):SE X W (.Subscript a b pos) (cIx fa fb):=
 SE.either (zN hu ha hb hs) (AY ixd ha hb hs) λρ S=>cM _ λx S1=>by
  by_cases h:cg x=true
  ·refine .inl (congrArg (ag (fb ρ S1)) (funext λi=>funext λS2=>?_));unfold ixO;rw[if_pos h]
  ·refine .inr (congrArg (ag (fb ρ S1)) (funext λi=>funext λS2=>?_));unfold ixO;rw[if_neg h]
def inO (neg:Bool)(k x:D)(S:Sto):Option D:=if cg x=true then AD neg k x S else (if neg=true then qv k x else inD k x)
def cIn (neg:Bool)(fk fd:Rho->Sto->Out D):Rho->Sto->Out D:=λρ S=>ag (fk ρ S) λk S1=>ag (fd ρ S1) λx S2=>aL (inO neg k x S2) S2
theorem lj (neg:Bool)(fk fd:Rho->Sto->Out D)(ρ:Rho)(S:Sto):cIn neg fk fd ρ S=xk neg fk fd ρ S∨cIn neg fk fd ρ S=aE (if neg=true then qv else inD) fk fd ρ S:=by
 unfold cIn xk aE
 refine cM _ λk S1=>cM _ λx S2=>?_
 unfold inO
 by_cases h:cg x=true
 ·exact .inl (by rw[if_pos h])
 ·refine .inr ?_
  rw[if_neg h]
  cases neg<;>rfl
variable (hu:X.A.units+150<cLine) (hu1:X.A.units+1<cLine)
include hu hu1
theorem Bx (hu2:X.A.units+151<cLine)(ha:SE X W a fa)(hb:SE X W b fb)(hm:behindInMarks .In b=false:=by with_unfolding_all rfl):SE X W (.Compare a [.In] [b] pos) (cIn false fa fb):=
 SE.either (By hu1 ha hb hm) (qe (A5 hu2) ha hb hm) λρ S=>lj false fa fb ρ S
theorem mW {f f1 f2:Rho->Sto->Out D}{ρ:Rho}{S:Sto}(h:f ρ S=f1 ρ S∨f ρ S=f2 ρ S):bf f ρ S=bf f1 ρ S∨bf f ρ S=bf f2 ρ S:=by
 unfold bf
 rcases h with h |h
 ·exact .inl (by rw[h])
 ·exact .inr (by rw[h])
theorem Bl (hu2:X.A.units+151<cLine)(ha:SE X W a fa)(hb:SE X W b fb)(hm:behindInMarks .In b=false:=by with_unfolding_all rfl):TS1 X W (.Compare a [.In] [b] pos) (bf (cIn false fa fb)):=
 TS1.either (Bm hu1 ha hb hm) (bN (A5 hu2) ha hb hm) λρ S=>mW hu hu1 (lj false fa fb ρ S)
theorem oI (hu2:X.A.units+151<cLine)(ha:SE X W a fa)(hb:SE X W b fb)(hm:behindInMarks .NotIn b=false:=by with_unfolding_all rfl):TS1 X W (.Compare a [.NotIn] [b] pos) (bf (cIn true fa fb)):=
 TS1.either (wg hu1 ha hb hm) (bN (yf hu2) ha hb hm) λρ S=>mW hu hu1 (lj true fa fb ρ S)
omit hu hu1
def ge:D->Option (List D)
 | .tup xs=>some xs
 | .lst xs=>some xs
 | .str x=>some (x.cps.toList.map λc=>D.str ⟨#[c]⟩)
 |_=>none
def dC (f:Rho->Sto->Out D):Rho->Sto->Out (List D):=λρ S=>ag (f ρ S) λd S1=>aL (ge d) S1
theorem iE {tg:Expr}(ha:SE X W a fa):SI X W tg a (dC fa):=by
 refine SI.either (g1:=uJ fa) (g2:=λρ S=>ag (fa ρ S) λd S1=>aL (match d with | .lst xs=>some xs | .str x=>some (x.cps.toList.map λc=>D.str ⟨#[c]⟩) |_=>none) S1) (Bt ha) (SI.either (Bv ha) (Bu ha) λρ S=>?_) λρ S=>?_
 ·unfold zi y_
  refine cM _ λd S1=>?_
  cases d<;>first |exact .inl rfl |exact .inr rfl
 ·unfold dC uJ
  refine cM _ λd S1=>?_
  cases d<;>first |exact .inl rfl |exact .inr rfl
end
noncomputable def aZ (n m:Nat) (G:Rho->Sto->Out Fl):List D->Sto->Out D:=λds S=>if ds.length=n then
  match G (ds.map some++List.replicate m none) S with
  |some (.ok (.ret d),S')=>some (.ok d,S')
  |some (.ok (.next _),S')=>some (.ok .non,S')
  |_=>none
 else none
def bg (K:PySem.W.Frag)(mg:Str->Option Value)(x:Str)(st:Stmt)(ps:List Str):Prop:=∃ f fd,Fun K x x st f fd/\mg x=some (.ref f)/\Binds K fd ps []
def Cal (P:Program)(w:World)(K:PySem.W.Frag)(mg:Str->Option Value)(base:Heap)(k:Nat)(x:Str)(ps:List Str)(F:List D->Sto->Out D):Prop:=
 ∃ f fd,FnD P w K mg base k f fd ps F/\mg x=some (.ref f)/\PySem.W.keepIn K (.ref f)=true/\Binds K fd ps []
section
variable {P:Program}{w:World}{K:PySem.W.Frag}{mg:Str->Option Value}{base:Heap}
theorem jQ {x:Str}{st:Stmt}{sc:Scope}{N ps:List Str}{k:Nat}{G:Rho->Sto->Out Fl}{f:Addr}{fd:FuncData}(Fn:Fun K x x st f fd)(hsc:aj st=sc)(Sc:FnScope N ps sc)
  (h:∀ (f:Addr) (cdv:Value) (A:Around) (outer:List Env) (s:Shared) (H:Hp) (E:XK),Room k (A.deeper (envOfC x sc s.heap.objs.size f cdv))->SSs (lq CX0 P w K mg base N x sc f cdv A outer s H E).nox W0 (bL st) G) :
  FnD P w K mg base (k+1) f fd ps (aZ ps.length (N.length-ps.length) G):=by
 subst hsc
 refine vE Fn Sc (λds S r e=>?_) λcdv A outer s H E hr=>⟨G,h f cdv A outer s H E hr,λds S d S' e=>?_⟩
 ·unfold aZ at e
  split at e
  ·assumption
  ·cases e
 ·unfold aZ at e
  split at e
  ·rename_i hl
   rw[hl]
   split at e
   ·rename_i d0 S0 q
    cases e
    exact⟨_,q,.inl rfl⟩
   ·rename_i ρ0 S0 q
    cases e
    exact⟨_,q,.inr ⟨rfl,ρ0,rfl⟩⟩
   ·cases e
  ·cases e
theorem bp {x:Str}{st:Stmt}{sc:Scope}{N ps:List Str}{k:Nat}{G:Rho->Sto->Out Fl}(Dd:bg K mg x st ps)(hsc:aj st=sc)(Sc:FnScope N ps sc)
  (h:∀ (f:Addr) (cdv:Value) (A:Around) (outer:List Env) (s:Shared) (H:Hp) (E:XK),Room k (A.deeper (envOfC x sc s.heap.objs.size f cdv))->SSs (lq CX0 P w K mg base N x sc f cdv A outer s H E).nox W0 (bL st) G) :
  Cal P w K mg base (k+1) x ps (aZ ps.length (N.length-ps.length) G):=by
 obtain⟨f,fd,Fn,hm,hb⟩:=Dd
 exact⟨f,fd,jQ Fn hsc Sc h,hm,Fn.kp,hb⟩
theorem nV {x:Str}{st:Stmt}{ps:List Str}{k:Nat}(Dd:bg K mg x st ps):Cal P w K mg base k x ps (λ_ _=>none):=by
 obtain⟨f,fd,Fn,hm,hb⟩:=Dd
 have no:∀ vs H Q E,¬ spD K (λ_ _=>none) vs H Q E:=λvs H Q E h=>by
  obtain⟨J,S,ds,d,S',_,_,e,_⟩:=h
  cases e
 exact⟨f,fd,⟨λvs H Q E h=>absurd h (no vs H Q E),λA outer s H args us vs Q E _ _ _ _ h=>absurd h (no vs H Q E)⟩,hm,Fn.kp,hb⟩
theorem aV {A:Around}{k:Nat}(hr:Room k A):A.units+150<cLine:=by have:=hr.un;omega
theorem aU {A:Around}{k:Nat}(hr:Room k A):A.units+151<cLine:=by have:=hr.un;omega
end
section
variable {X:Cx}{W:WT}{x:Str}{p pos:Pos}{e:Expr}{es:List Expr}{gs:Rho->Sto->Out (List D)}
theorem az {k:Nat}{ps:List Str}{F:List D->Sto->Out D}(C:Cal X.prog X.w X.K X.mg X.base k x ps F)(hr:Room k X.A)
  (ha:SA X W (e::es) gs) (hg:Gl X x:=by rfl) (hdb:(x==("__debug__":Str))=false:=by decide) (he:starEach (e::es) X.env=(false,eval e X.env)::starEach es X.env:=by rfl) (hpl:(backTo pos (starEach es X.env)).any (·.1)=false:=by rfl) :
  SE X W (.Call (.Name x p) (e::es) [] pos) (aD F gs):=by
 obtain⟨f,fd,G,hm,hk,hb⟩:=C
 exact zO G hr hm hk hb ha hg hdb he hpl
end
def u4 (K:PySem.W.Frag)(n:Nat):Sp:=λvs H Q _ => ∃ (a:Addr) (ns:List Int),vs=[.ref a]/\SqL K H a (ns.map V.int)/\ns.length<=n/\∀ H',Q (.bl true) H'
theorem Cb {P:Program}{w:World}{K:PySem.W.Frag}{mg:Str->Option Value}{base:Heap}{k n:Nat}{f:Addr}{fd:FuncData}{ps:List Str}{F:List D->Sto->Out D}(h:FnD P w K mg base k f fd ps F)(hn:n<=1000)
  (hF:∀ ns:List Int,ns.length<=n->∃ S',F [.lst (ns.map .int)] []=some (.ok (.bl true),S')):FnOk P w K mg base CX0 k f fd ps (u4 K n):=by
 refine FnOk.imp h λvs H Q E ⟨a,ns,e,hS,hl,q⟩=>?_
 subst e
 obtain⟨S',eF⟩:=hF ns hl
 refine⟨[],[],[.lst (ns.map .int)],.bl true,S',.cons (At.lst_iff.mpr ⟨a,ns.map V.int,rfl,?_,Ats.ofInts ns⟩) .nil,⟨rfl,.nil,λl a o h=>by simp at h⟩,eF,λJ' H' v _ _ m=>?_⟩
 ·rcases hS with z |z
  ·exact .inl ⟨z,by simp,by rw[List.length_map];exact Nat.le_trans hl (Nat.le_trans hn (by decide))⟩
  ·exact .inr z
 ·rw[At.bl_iff.mp m];exact q H'
theorem law_walk {l:PySem.W.OpenLaw}{q:Program}{loose:List Str}{XP:(Str->Option Value)->Heap->Prop}{YP:World->Heap->Prop}{d:DefRec}{K:Params->PySem.W.Frag}{k:Nat}{x:Str}(hn:l.most=some 63)(hdf:d.params.defaults=[])(hr:Room k callerA)
  (hY:∀ (w:World) (h:Heap),YP w h->(K w.params).In h)
  (F:∀ (w:World) (mg:Str->Option Value) (fa:Addr) (h:Heap),(K w.params).In h->h.Ns mainGlobals mg->mg d.name=some (.ref fa) ->
   ∃ fd:FuncData,(∀ (s:Shared) (u:Value),BindsTo s fd ⟨[u],[]⟩ [(x,u)])/\∀ base:Heap,(K w.params).In base->base.Ns mainGlobals mg->FnOk l.prog w (K w.params) mg base CX0 k fa fd [x] (u4 (K w.params) 63)) :
  PySem.W.WalkO q loose XP YP l.row.toRowW d [] (λf vs=>PySem.call f vs):=
 L2.walk_of (n:=63) (k:=k) (x:=x) (CX:=λ_=>CX0) (sp:=λw=>u4 (K w.params) 63) hn (by decide) hdf hr hY F (λ_ _ a ns hl _ hS=>⟨a,ns,rfl,hS,hl,λ_=>rfl⟩) λ_ _ _ _ _ z=>z
theorem hV:bootBuiltins "len"=some (.builtin "len"):=by decide +kernel
theorem cR:bootBuiltins "tuple"=some (.type "tuple"):=by decide +kernel
theorem AM:bootBuiltins "list"=some (.type "list"):=by decide +kernel
theorem CF:bootBuiltins "int"=some (.type "int"):=by decide +kernel
theorem CD:bootBuiltins "set"=some (.type "set"):=by decide +kernel
theorem zl:bootBuiltins "min"=some (.builtin "min"):=by decide +kernel
theorem lG:bootBuiltins "sorted"=some (.builtin "sorted"):=by decide +kernel
end L2
namespace L2
open PySem
section
variable {prog:Program}{w:World}{K:Type} [DecidableEq K]
abbrev tI (knd:KeyKind prog w K):K->Int×Value->Prop:=λk e=>knd.is k e.2=true/\e.1=knd.hash k/\e.2.scannable=true
def Ris (xs:Array Nat):Prop:=xs.toList.Pairwise (· < ·)
theorem Ris.lt {xs:Array Nat}(h:Ris xs){i j:Nat}(hij:i<j)(hj:j<xs.size):xs[i]'(Nat.lt_trans hij hj)<xs[j]:=by
 have:=List.pairwise_iff_getElem.mp h i j (by simpa using Nat.lt_trans hij hj) (by simpa using hj) hij
 simpa using this
theorem n5 (xs:Array Nat)(j:Nat):∀ (fuel lo hi:Nat),hi-lo<=fuel->lo<=hi->hi<=xs.size->Ris xs->(∀ i (h:i<xs.size),i<lo->xs[i]<j)->(∀ i (h:i<xs.size),hi<=i->j<=xs[i]) ->
  SetTable.below.go xs j fuel lo hi<=xs.size/\(∀ i (h:i<xs.size),i<SetTable.below.go xs j fuel lo hi->xs[i]<j)/\(∀ i (h:i<xs.size),SetTable.below.go xs j fuel lo hi<=i->j<=xs[i])
 | 0,lo,hi,hf,hl,hs,_,h1,h2=>by
  have e:lo=hi:=by omega
  subst e
  unfold SetTable.below.go
  exact⟨hs,h1,h2⟩
 |fuel+1,lo,hi,hf,hl,hs,hr,h1,h2=>by
  unfold SetTable.below.go
  by_cases h:lo<hi
  ·rw[if_pos h]
   have hm:(lo+hi) / 2<xs.size:=by omega
   have eg:xs.getD ((lo+hi) / 2) j=xs[(lo+hi) / 2]:=by simp[Array.getD,hm]
   simp only[eg]
   by_cases hc:xs[(lo+hi) / 2]<j
   ·rw[if_pos hc]
    refine n5 xs j fuel _ hi (by omega) (by omega) hs hr (λi hi' hlt=>?_) h2
    rcases Nat.lt_or_ge i ((lo+hi) / 2) with q |q
    ·exact Nat.lt_trans (hr.lt q hm) hc
    ·have e:i=(lo+hi) / 2:=by omega
     subst e;exact hc
   ·rw[if_neg hc]
    refine n5 xs j fuel lo _ (by omega) (by omega) (by omega) hr h1 λi hi' hge=>?_
    rcases Nat.lt_or_ge ((lo+hi) / 2) i with q |q
    ·have:=hr.lt q hi';omega
    ·have e:i=(lo+hi) / 2:=by omega
     subst e;omega
  ·rw[if_neg h]
   have e:lo=hi:=by omega
   subst e
   exact⟨hs,h1,h2⟩
theorem n4 {xs:Array Nat}(hr:Ris xs)(j:Nat):SetTable.below xs j<=xs.size/\(∀ i (h:i<xs.size),i<SetTable.below xs j->xs[i]<j)/\(∀ i (h:i<xs.size),SetTable.below xs j<=i->j<=xs[i]):=by
 unfold SetTable.below
 exact n5 xs j xs.size 0 xs.size (by omega) (by omega) (Nat.le_refl _) hr (λi _ h=>absurd h (by omega)) λi h q=>absurd h (by omega)
theorem tx {xs:Array Nat}(hr:Ris xs){j p:Nat}(hp:p<=xs.size)(h1:∀ i (h:i<xs.size),i<p->xs[i]<j)(h2:∀ i (h:i<xs.size),p<=i->j<=xs[i]):SetTable.below xs j=p:=by
 obtain⟨a,b,c⟩:=n4 hr j
 rcases Nat.lt_trichotomy (SetTable.below xs j) p with q |q |q
 ·have x:=c _ (by omega) (Nat.le_refl _);have y:=h1 (SetTable.below xs j) (by omega) q;omega
 ·exact q
 ·have x:=b p (by omega) q;have y:=h2 p (by omega) (Nat.le_refl _);omega
theorem jL {t:SetTable}{ha:Nat->Int}{h:Int}:∀ (fuel:Nat) (p:SetTable.Probe) {j:Nat}{dm:Option Nat},(∀ d,p.dummy=some d->t.slot d = .dummy)->SetTable.probe.go t ha h fuel p=some (.empty j dm)->t.slot j = .empty/\∀ d,dm=some d->t.slot d = .dummy
 | 0,p,j,dm,_,e=>by unfold SetTable.probe.go at e;cases e
 |fuel+1,p,j,dm,hd,e=>by
  have had:∀ q:SetTable.Probe,(t.advance q).dummy=q.dummy:=λq=>by
   unfold SetTable.advance
   split<;>rfl
  unfold SetTable.probe.go at e
  split at e
  ·rename_i hs
   cases e
   exact⟨hs,hd⟩
  ·rename_i hs
   exact jL fuel _ (by rw[had];intro d q;cases q;exact hs) e
  ·split at e
   ·cases e
   ·exact jL fuel _ (by rw[had];exact hd) e
theorem w_ {t:SetTable}{h:Int}{j:Nat}{wd:Bool}(e:t.freeSlot h=some (j,wd)):∀ i,t.slot j≠.live i:=by
 unfold SetTable.freeSlot at e
 split at e
 ·rename_i k dm q
  obtain⟨h1,h2⟩:=jL _ _ (by intro d z;cases z) q
  cases e
  intro i
  cases dm with
  |none=>rw[show (none:Option Nat).getD k=k from rfl,h1];intro z;cases z
  |some d=>rw[show (some d).getD k=d from rfl,h2 d rfl];intro z;cases z
 ·cases e
theorem Ris.put {t:SetTable}(hr:Ris t.place){j:Nat}(hf:∀ i,t.slot j≠.live i):Ris (t.put j).1.place:=by
 obtain⟨a,b,c⟩:=n4 hr j
 have hne:t.place[SetTable.below t.place j]?≠some j:=λe=>hf (SetTable.below t.place j) (by unfold SetTable.slot;simp[e])
 unfold SetTable.put Ris SetTable.insertAt
 simp only[Array.toList_append,Array.toList_push,Array.toList_extract]
 have e1:(t.place.toList.drop 0).take (SetTable.below t.place j-0)=t.place.toList.take (SetTable.below t.place j):=by simp
 have key:∀ i,SetTable.below t.place j<=i->∀ h:i<t.place.size,j<t.place[i]:=by
  intro i hi h
  have h1:=c i h hi
  rcases Nat.lt_or_ge j t.place[i] with q |q
  ·exact q
  ·exfalso
   have hb:SetTable.below t.place j<t.place.size:=by omega
   have h3:=c _ hb (Nat.le_refl _)
   rcases Nat.lt_or_ge (SetTable.below t.place j) i with z |z
   ·have:=hr.lt z h;omega
   ·have e:SetTable.below t.place j=i:=by omega
    refine hne ?_
    rw[Array.getElem?_eq_getElem hb]
    congr 1
    have:t.place[SetTable.below t.place j]=t.place[i]:=by simp only[e]
    omega
 have hdrop:(t.place.toList.drop (SetTable.below t.place j)).take (t.place.size-SetTable.below t.place j)=t.place.toList.drop (SetTable.below t.place j):=List.take_of_length_le (by simp)
 simp only[List.extract_eq_drop_take,List.drop_zero,Nat.sub_zero] at *
 rw[hdrop]
 rw[List.append_assoc,List.pairwise_append,List.singleton_append,List.pairwise_cons]
 refine⟨hr.sublist (List.take_sublist ..),⟨λy hy=>?_,hr.sublist (List.drop_sublist ..)⟩,λx hx y hy=>?_⟩
 ·obtain⟨i,hi,e⟩:=List.getElem_of_mem hy
  rw[List.getElem_drop] at e
  have:=key (SetTable.below t.place j+i) (by omega) (by simp at hi;omega)
  rw[Array.getElem_toList] at e
  omega
 ·obtain⟨i,hi,e⟩:=List.getElem_of_mem hx
  rw[List.getElem_take,Array.getElem_toList] at e
  have hi':i<SetTable.below t.place j:=by simp at hi;omega
  have h1:=b i (by omega) hi'
  rcases List.mem_cons.mp hy with rfl |hy
  ·omega
  ·obtain⟨k,hk,e2⟩:=List.getElem_of_mem hy
   rw[List.getElem_drop,Array.getElem_toList] at e2
   have:=key (SetTable.below t.place j+k) (by omega) (by simp at hk;omega)
   omega
theorem Ris.range (n:Nat):Ris (Array.range n):=by
 unfold Ris
 rw[Array.toList_range]
 exact List.pairwise_lt_range
theorem Ris.orStandIn {t:SetTable}(n:Nat)(h:Ris t.place):Ris (t.orStandIn n).place:=by
 unfold SetTable.orStandIn
 split
 ·exact h
 ·exact Ris.range n
theorem uy {t:SetTable}(es:Array (Int×Value))(h:Int)(x:Value)(hr:Ris t.place):Ris (layNew t es h x).2.1.place:=by
 unfold layNew
 split
 ·rename_i slot wd e
  exact Ris.orStandIn _ (hr.put (w_ e))
 ·exact Ris.range _
theorem uh {t t':SetTable}{hs:Array Int}{n:Nat}{order:Array Nat}(h:t.relaid hs n=some (t',order)):Ris t'.place:=by
 unfold SetTable.relaid SetTable.laid at h
 cases hc:SetTable.layClean (SetTable.sizeAbove n-1) hs with
 |none=>simp[hc] at h
 |some o =>
  simp only[hc,Option.bind_eq_bind,Option.bind_some,Option.pure_def,Option.some.injEq,Prod.mk.injEq] at h
  obtain⟨rfl,_⟩:=h
  unfold Ris
  simp only[List.toList_toArray,List.pairwise_map]
  rw[List.pairwise_filterMap]
  refine List.pairwise_lt_range.imp λ{a b} hab c hc d hd=>?_
  obtain⟨u,_,rfl⟩:=Option.map_eq_some_iff.mp hc
  obtain⟨v,_,rfl⟩:=Option.map_eq_some_iff.mp hd
  exact hab
theorem qi {t:SetTable}(es:Array (Int×Value))(n:Nat):Ris (relayAll t es n).2.1.place:=by
 unfold relayAll
 split
 ·rename_i t' order e
  dsimp only
  split
  ·exact uh e
  ·exact Ris.range _
 ·exact Ris.range _
def SetK (knd:KeyKind prog w K)(pk:K->Bool)(led:Bool)(h:Heap)(a:Addr)(ks:List K):Prop:=
 ∃ o es ep t,h.get? a=some o/\o.ExactSet/\o.data = .set es ep t/\(∃ l:List (Int×Value),l.Perm es.toList/\Paired (tI knd) ks l) /\
  es.size<scanBound/\t.fits es.size=true/\t.led=led/\(t.plain=true->∀ k∈ks,pk k=true)/\Ris t.place
theorem nB {α β:Type}{F : α->β->Prop}{l:List α}{m:List β}(r:Paired F l m):∀ b∈m,∃ a∈l,F a b:=by
 induction r with
 |nil=>intro b hb;cases hb
 |cons f t ih =>
  intro b hb
  rcases List.mem_cons.mp hb with rfl |hb
  ·exact⟨_,List.mem_cons_self ..,f⟩
  ·obtain⟨a,ha,hf⟩:=ih b hb;exact⟨a,List.mem_cons_of_mem _ ha,hf⟩
theorem rW {α β:Type}{F : α->β->Prop}{l:List α}{m:List β}(r:Paired F l m):∀ a∈l,∃ b∈m,F a b:=by
 induction r with
 |nil=>intro b hb;cases hb
 |cons f t ih =>
  intro b hb
  rcases List.mem_cons.mp hb with rfl |hb
  ·exact⟨_,List.mem_cons_self ..,f⟩
  ·obtain⟨a,ha,hf⟩:=ih b hb;exact⟨a,List.mem_cons_of_mem _ ha,hf⟩
theorem rV {α β:Type}{F : α->β->Prop}{l:List α}{m:List β}(r:Paired F l m){a : α}{b : β}(f:F a b):Paired F (l++[a]) (m++[b]):=by
 induction r with
 |nil=>exact .cons f .nil
 |cons g t ih=>exact .cons g ih
theorem lV {α β:Type}{F : α->β->Prop}{l:List α}{m:List β}(r:Paired F l m):l.length=m.length:=by
 induction r with
 |nil=>rfl
 |cons g t ih=>simp[ih]
variable {knd:KeyKind prog w K}{pk:K->Bool}{led:Bool}
theorem oh (t:SetTable)(n:Nat):(t.orStandIn n).led=t.led/\((t.orStandIn n).plain=true->t.plain=true):=by
 unfold SetTable.orStandIn
 split
 ·exact⟨rfl,id⟩
 ·exact⟨rfl,λz=>by simp[SetTable.standIn] at z⟩
theorem uz (t:SetTable)(es:Array (Int×Value))(h:Int)(x:Value):(layNew t es h x).2.1.led=t.led/\((layNew t es h x).2.1.plain=true->t.plain=true):=by
 unfold layNew
 split
 ·rename_i slot wd _
  exact oh (t.put slot).1 _
 ·exact⟨rfl,λz=>by simp[SetTable.standIn] at z⟩
theorem ui {t t':SetTable}{hs:Array Int}{n:Nat}{order:Array Nat}(h:t.relaid hs n=some (t',order)):t'.led=t.led/\t'.plain=t.plain:=by
 unfold SetTable.relaid SetTable.laid at h
 cases hc:SetTable.layClean (SetTable.sizeAbove n-1) hs with
 |none=>simp[hc] at h
 |some o =>
  simp only[hc,Option.bind_eq_bind,Option.bind_some,Option.pure_def,Option.some.injEq,Prod.mk.injEq] at h
  obtain⟨rfl,_⟩:=h
  exact⟨rfl,rfl⟩
theorem qj (t:SetTable)(es:Array (Int×Value))(n:Nat):(relayAll t es n).2.1.led=t.led/\((relayAll t es n).2.1.plain=true->t.plain=true):=by
 unfold relayAll
 split
 ·rename_i t' order e
  obtain⟨h1,h2⟩:=ui e
  dsimp only
  split
  ·exact⟨h1,λz=>by rw[← h2];exact z⟩
  ·exact⟨rfl,λz=>by simp[SetTable.standIn] at z⟩
 ·exact⟨rfl,λz=>by simp[SetTable.standIn] at z⟩
theorem SetK.elems {h:Heap}{a:Addr}{ks:List K}{es:Array (Int×Value)}(hl:∃ l:List (Int×Value),l.Perm es.toList/\Paired (tI knd) ks l):ElemsOf knd es.toList:=λe he=>by
 obtain⟨l,p,r⟩:=hl
 obtain⟨k,_,h1,h2,h3⟩:=nB r e (p.mem_iff.mpr he)
 exact⟨⟨k,h1,h2⟩,h3⟩
theorem SetK.mem {ks:List K}{es:Array (Int×Value)}(hl:∃ l:List (Int×Value),l.Perm es.toList/\Paired (tI knd) ks l)(k:K):k∈ks↔∃ e∈es.toList,knd.is k e.2=true:=by
 obtain⟨l,p,r⟩:=hl
 constructor
 ·intro hk
  obtain⟨e,he,h1,_⟩:=rW r k hk
  exact⟨e,p.mem_iff.mp he,h1⟩
 ·rintro⟨e,he,h1⟩
  obtain⟨k',hk',h2,_⟩:=nB r e (p.mem_iff.mpr he)
  rw[knd.inj e.2 k k' h1 h2];exact hk'
def b7 (ks:List K)(k:K):List K:=if k∈ks then ks else ks++[k]
variable {A:Around}{E:Value->Shared->Prop}{s:Shared}
theorem SetK.stored {h:Heap}{a:Addr}{o:Obj}{es:Array (Int×Value)}{ep:Nat}{t:SetTable}(ho:h.get? a=some o)(hex:o.ExactSet)(hd:o.data = .set es ep t){es':Array (Int×Value)}{t':SetTable}{ks:List K}
  (hl:∃ l:List (Int×Value),l.Perm es'.toList/\Paired (tI knd) ks l) (hb:es'.size<scanBound) (hf:t'.fits es'.size=true) (hled:t'.led=led) (hp:t'.plain=true->∀ k∈ks,pk k=true) (hr:Ris t'.place) :
  (h.update a (Obj.putSet es' t')).get? a=some { o with data:=.set es' (ep+1) t' }/\SetK knd pk led (h.update a (Obj.putSet es' t')) a ks:=by
 have g:(h.update a (Obj.putSet es' t')).get? a=some { o with data:=.set es' (ep+1) t' }:=by
  have q:=Heap.get?_update_self (Obj.putSet es' t') ho (by rw[putSet_of es' t' hd];rfl)
  rw[putSet_of es' t' hd] at q;exact q
 exact⟨g,_,es',ep+1,t',g,hex,rfl,hl,hb,hf,hled,hp,hr⟩
theorem nO (b:Bool){s₁:Shared}{Q':Unit->Shared->Prop}(hq:Q' () s₁):wpAny (model prog w) A (match b with |true=>rule "set.scan.the-table-gave-way" |false=>pure ()) Q' E s₁:=by
 cases b
 ·exact wpAny_pure hq
 ·exact wpAny_rule hq
theorem u5 {g:Bool->Sem Unit}(hg:∀ (b:Bool) (s₁:Shared) (Q':Unit->Shared->Prop),Q' () s₁->wpAny (model prog w) A (g b) Q' E s₁)
  {a:Addr}{o:Obj}{es:Array (Int×Value)}{ep:Nat}{t:SetTable}(ho:s.heap.get? a=some o) (hex:o.ExactSet) (hd:o.data = .set es ep t)
  {es1:Array (Int×Value)}{t2:SetTable}{ks:List K}(hl:∃ l:List (Int×Value),l.Perm es1.toList/\Paired (tI knd) ks l)
  (hb:es1.size<scanBound) (hf:t2.fits es1.size=true) (hled:t2.led=led) (hp:t2.plain=true->∀ k∈ks,pk k=true) (hr:Ris t2.place) {wasDummy:Bool}{R:Option Bool->Shared->Prop}
  (h:∀ h',Heap.SameBut a s.heap h'->SetK knd pk led h' a ks->R (some true) { s with heap:=h' }) :
  wpAny (model prog w) A (do
    storeSet a es1 t2
    if (!wasDummy&&t2.tooFull)=true then do
      g (relayAll t2 es1 (SetTable.grown es1.size)).2.2
      storeSet a (relayAll t2 es1 (SetTable.grown es1.size)).1 (relayAll t2 es1 (SetTable.grown es1.size)).2.1
      pure (some true)
     else pure (some true)) R E s:=by
 obtain⟨ho1,hS1⟩:=SetK.stored (knd:=knd) (pk:=pk) ho hex hd hl hb hf hled hp hr
 refine wpAny_bind (wpAny_storeSet_of ho hd ?_ (fits_of_scanBound hb))
 have sb:=Heap.SameBut.update s.heap a (Obj.putSet es1 t2)
 split
 ·have q1:=relayAll_perm t2 es1 (SetTable.grown es1.size)
  have q2:=relayAll_fits t2 es1 (SetTable.grown es1.size)
  have q3:=qj t2 es1 (SetTable.grown es1.size)
  have q4:=qi (t:=t2) es1 (SetTable.grown es1.size)
  revert q1 q2 q3 q4
  generalize relayAll t2 es1 (SetTable.grown es1.size)=Y
  intro q1 q2 q3 q4
  obtain⟨es2,t3,gv⟩:=Y
  simp only at q1 q2 q3 q4 ⊢
  have z:es2.size=es1.size:=by have:=q1.length_eq;simpa using this
  obtain⟨l,p,r⟩:=hl
  have b2:es2.size<scanBound:=by rw[z];exact hb
  obtain⟨_,hS2⟩:=SetK.stored (knd:=knd) (pk:=pk) (led:=led) ho1 hex rfl ⟨l,p.trans q1.symm,r⟩ b2 q2 (q3.1.trans hled) (λy=>hp (q3.2 y)) q4
  exact wpAny_bind (hg _ _ _ (wpAny_bind (wpAny_storeSet_of ho1 rfl (wpAny_pure (h _ (sb.trans (Heap.SameBut.update _ a _)) hS2)) (fits_of_scanBound b2))))
 ·exact wpAny_pure (h _ sb hS1)
theorem zJ {a:Addr}{ks:List K}{k:K}{x:Value}{Q:Bool->Shared->Prop}(hpk:plainKind x=pk k)(hkey:knd.is k x=true)(hsc:x.scannable=true)(hS:SetK knd pk led s.heap a ks)(hroom:ks.length+1<scanBound)
  (h:∀ b h',Heap.SameBut a s.heap h'->SetK knd pk led h' a (b7 ks k)->Q b { s with heap:=h' }):wpAny (model prog w) A (setAddHashed a x (knd.hash k)) Q E s:=by
 obtain⟨o,es,ep,t,ho,hex,hd,hl,hb,hf,hled,hp,hr0⟩:=hS
 have hel:=SetK.elems (h:=s.heap) (a:=a) hl
 have hn:es.size=ks.length:=by
  obtain⟨l,p,r⟩:=hl
  have e1:=p.length_eq
  have e2:=lV r
  simp only[Array.length_toList] at e1
  omega
 unfold setAddHashed setAddHashedIn
 refine wpAny_holding (wpAny_bind (wpAny_setState_of ho hd hf ?_))
 simp only
 rw[byScan_of hsc hb hel,if_pos rfl]
 unfold setAddByScan
 refine wpAny_bind (wpAny_bind (wpAny_rule (wpAny_bind (wpAny_setScan_of hkey ho hd hf hel ?_))))
 cases hr:List.findIdx? (λe=>knd.is k e.2) es.toList with
 |some j =>
  obtain⟨hj,hpj,_⟩:=List.findIdx?_eq_some_iff_getElem.mp hr
  have hin:k∈ks:=(SetK.mem hl k).mpr ⟨es.toList[j],List.getElem_mem hj,hpj⟩
  refine wpAny_pure (wpAny_pure ?_)
  exact h _ s.heap (Heap.SameBut.refl a s.heap) ⟨o,es,ep,t,ho,hex,hd,by unfold b7;rw[if_pos hin];exact hl,hb,hf,hled,by unfold b7;rw[if_pos hin];exact hp,hr0⟩
 |none =>
  have hout:k∉ks:=λhk=>by
   obtain⟨e,he,hp⟩:=(SetK.mem hl k).mp hk
   have q:=List.findIdx?_eq_none_iff.mp hr e he
   rw[hp] at q;cases q
  have ek:b7 ks k=ks++[k]:=by unfold b7;rw[if_neg hout]
  rw[ek] at h
  have q1:=layNew_perm t es (knd.hash k) x
  have q2:=layNew_fits t es (knd.hash k) x
  have q3:=uz t es (knd.hash k) x
  have q4:=uy es (knd.hash k) x hr0
  dsimp only
  revert q1 q2 q3 q4
  generalize layNew t es (knd.hash k) x=Y
  intro q1 q2 q3 q4
  obtain⟨es1,t1,wd,gv⟩:=Y
  simp only at q1 q2 q3 q4 ⊢
  rw[Array.toList_push] at q1
  have hl1:∃ l:List (Int×Value),l.Perm es1.toList/\Paired (tI knd) (ks++[k]) l:=by
   obtain⟨l,p,r⟩:=hl
   exact⟨l++[(knd.hash k,x)],(p.append_right _).trans q1.symm,rV r ⟨hkey,rfl,hsc⟩⟩
  have hb1:es1.size<scanBound:=by
   have:=q1.length_eq
   simp only[Array.length_toList,List.length_append,List.length_singleton] at this
   omega
  refine wpAny_bind (nO gv ?_)
  split
  ·rename_i hpl
   refine wpAny_bind ?_
   rw[hashByValue_scannable 8 hsc]
   refine wpAny_pure ?_
   refine u5 (pk:=pk) (led:=led) (λb s₁ Q' hq=>nO b hq) ho hex hd hl1 hb1 ?_ ?_ ?_ ?_ λh' sb hS'=>?_
   ·split
    ·exact q2
    ·exact SetTable.fits_plain_off q2
   ·split
    ·exact q3.1.trans hled
    ·exact q3.1.trans hled
   ·split
    ·rename_i hv
     intro hpl2 k' hk'
     rcases List.mem_append.mp hk' with hk' |hk'
     ·exact hp (q3.2 hpl2) k' hk'
     ·rw[List.mem_singleton.mp hk',← hpk];exact hv
    ·intro z;cases z
   ·split<;>exact q4
   ·exact wpAny_pure (h _ h' sb hS')
  ·rename_i hpl
   refine wpAny_bind (wpAny_pure ?_)
   rw[if_pos rfl]
   refine u5 (pk:=pk) (led:=led) (λb s₁ Q' hq=>nO b hq) ho hex hd hl1 hb1 q2 (q3.1.trans hled) (λz=>absurd z hpl) q4 λh' sb hS'=>?_
   exact wpAny_pure (h _ h' sb hS')
end
namespace SF
theorem ent_loop:entryFor table "set.update.loop"=some Builtin.«set.update.loop»:=entryFor_of_tree (by kernel_rfl)
theorem pl_loop:plainId "set.update.loop"=true:=by decide +kernel
theorem tcall (a:Value):checkTypeCall "set" ⟨[a],[]⟩=pure ():=by kernel_rfl
theorem ncall (a:Value):checkBuiltinCall "set.__new__" ⟨[.type "set",a],[]⟩=pure ():=by kernel_rfl
theorem ent_iter:entryFor table "set.__iter__"=some Builtin.«frozenset.__iter__»:=entryFor_alias (id':="frozenset.__iter__") (by kernel_rfl) rfl (by decide +kernel) (by kernel_rfl)
theorem slot_next:Slot "set_iterator" "__next__" "set_iterator.__next__":=
 .of (owner:="set_iterator") (n:="__next__") (by rw[typeLookup_type,builtinLookup_eq_fast];kernel_rfl) (by decide +kernel) (by decide +kernel) (by decide +kernel)
  (by first |exact .inl (by decide +kernel) |exact .inr (by decide +kernel)) (by rw[isSubtype_type];kernel_rfl)
theorem slot_self:Slot "set_iterator" "__iter__" "set_iterator.__iter__":=
 .of (owner:="set_iterator") (n:="__iter__") (by rw[typeLookup_type,builtinLookup_eq_fast];kernel_rfl) (by decide +kernel) (by decide +kernel) (by decide +kernel)
  (by first |exact .inl (by decide +kernel) |exact .inr (by decide +kernel)) (by rw[isSubtype_type];kernel_rfl)
theorem ent_next:entryFor table "set_iterator.__next__"=some Builtin.«set_iterator.__next__»:=entryFor_of_tree (by kernel_rfl)
theorem own_it:Manifest.owners.lookup (String.ofList ['r','o','t','a','r','e','t','i','_','t','e','s'].reverse)=some Manifest.sig_set_iterator:=by kernel_rfl
theorem args_next (a:Value):argsOk "set_iterator.__next__" ⟨[a],[]⟩:=by
 unfold argsOk;rw[signature?_of (id:="set_iterator.__next__") (n:=['_','_','t','x','e','n','_','_']) (o:=['r','o','t','a','r','e','t','i','_','t','e','s']) (by kernel_rfl) own_it];kernel_rfl
end SF
section
variable {prog:Program}{w:World}{K:Type} [DecidableEq K] {knd:KeyKind prog w K}{pk:K->Bool}{led:Bool}
def met (val:Nat->K)(i:Nat):List K:=((List.range i).map val).foldl b7 []
theorem sw (val:Nat->K)(i:Nat):met val (i+1)=b7 (met val i) (val i):=by
 unfold met;rw[List.range_succ,List.map_append,List.foldl_append];rfl
theorem vj (val:Nat->K):∀ i,(met val i).length<=i
 | 0=>Nat.le_refl _
 |i+1=>by
  have ih:=vj val i
  rw[sw];unfold b7
  split
  ·omega
  ·rw[List.length_append,List.length_singleton];omega
section
variable {A:Around}{R:Result->Shared->Prop}{I:Addr}{fp wr:List Addr}{G:Array GenState->Array GenState->Prop}{n:Nat}{P:Nat->Value->Prop}{St:Nat->Shared->Prop}
theorem SetK.keep {h h':Heap}{a:Addr}{ks:List K}(x:SetK knd pk led h a ks)(e:∀ o,h.get? a=some o->h'.get? a=some o):SetK knd pk led h' a ks:=by
 obtain⟨o,es,ep,t,ho,r⟩:=x
 exact⟨o,es,ep,t,e o ho,r⟩
theorem rJ (W:WalksS prog w A.in1 I fp wr G n P St)(S:Addr)(hSf:S∉fp)(val:Nat->K)(hval:∀ i v,P i v->knd.is (val i) v=true/\v.scannable=true/\plainKind v=pk (val i))(hb:n+1<scanBound) :
  ∀ (k i:Nat) (s:Shared),n-i=k->i<=n->St i s->SetK knd pk led s.heap S (met val i) ->
   (∀ s',Moved (S::wr) G s s'->SetK knd pk led s'.heap S (met val n)->R (.ok (.ret .none)) s') ->
   codeAny (model prog w) A (.builtin "set.update.loop" ⟨[.ref S,.ref I],[]⟩) R s:=by
 have hSw:S∉wr:=λh=>hSf (W.sub _ h)
 intro k
 induction k with
 |zero =>
  intro i s hk hi st hS hR
  obtain rfl:i=n:=by omega
  refine codeAny_builtin SF.ent_loop ?_
  rw[Around.under_plainId SF.pl_loop _]
  show wpAny _ A.in1 (pyNext (.ref I) >>= _) _ _ s
  refine wpAny_bind (W.done s _ _ st λs' hm=>?_)
  show wpAny _ A.in1 (ret Value.none) _ _ s'
  exact wpAny_pure (hR s' (hm.mono λb hb=>List.mem_cons_of_mem _ hb) (hS.keep λo e=>hm.heap S o hSw e))
 |succ k ih =>
  intro i s hk hi st hS hR
  have hlt:i<n:=by omega
  refine codeAny_builtin SF.ent_loop ?_
  rw[Around.under_plainId SF.pl_loop _]
  show wpAny _ A.in1 (pyNext (.ref I) >>= _) _ _ s
  refine wpAny_bind (W.item i s _ _ hlt st λv s' hP st' hm=>?_)
  obtain⟨v1,v2,v3⟩:=hval i v hP
  show wpAny _ A.in1 (holding [v] (setAdd S v) >>= _) _ _ s'
  refine wpAny_bind (wpAny_holding ?_)
  unfold setAdd
  refine wpAny_holding (wpAny_bind (knd.pyHash v1 ?_))
  have hr:(met val i).length+1<scanBound:=by have:=vj val i;omega
  refine zJ (pk:=pk) (led:=led) (s:={ s' with toks:=s'.toks+1 }) v3 v1 v2 (hS.keep λo e=>hm.heap S o hSw e) hr λb h' sb hS2=>?_
  rw[← sw] at hS2
  refine wpAny_pure ⟨plainId_quiet SF.pl_loop _,ih (i+1) _ (by omega) hlt (W.frame _ s' _ _ st' (Nat.le_succ _) λb hb o e=>?_) hS2 λs'' hm2 hS3=>?_⟩
  ·rw[sb.2 b (λz=>hSf (z▸hb))];exact e
  ·refine hR s'' (Moved.trans W.gtrans ((hm.mono λb hb=>List.mem_cons_of_mem _ hb).then_heap (Nat.le_succ _) λb o nb e=>?_) hm2) hS3
   rw[sb.2 b (λz=>nb (z▸List.mem_cons_self))];exact e
end
section
variable {A:Around}{E:Value->Shared->Prop}{s:Shared}
def byT (w:World):Bool:=w.params.followText "set-order"
abbrev f_ (w:World):Obj:={ cls:=.type "set",dict:=none,data:=.set #[] 0 (.fresh 0 0 (!byT w)) }
theorem rH (a:Value){Q₁:Value->Shared->Prop}(h:Q₁ (.ref s.heap.objs.size) { s with heap:=s.heap.push (f_ w) }) :
  codeAny (model prog w) A (.call (.builtin "set.__new__") ⟨[.type "set",a],[]⟩) (wants Q₁ E) s:=by
 refine codeAny_of_tree ?_
 show wpAny _ A.in1 (do checkBuiltinCall "set.__new__" ⟨[.type "set",a],[]⟩;again (.builtin "set.__new__" ⟨[.type "set",a],[]⟩)) _ _ s
 refine wpAny_bind (wpAny_of_eq (SF.ncall a) (wpAny_pure ⟨plainId_quiet F.plain_set_new _,codeAny_builtin F.entry_set_new ?_⟩))
 rw[Around.under_plainId F.plain_set_new _]
 unfold Builtin.«set.__new__» Builtin.Frozenset.newClass
 have q:=sub_set_self
 obtain⟨hp,g,d,tk,os⟩:=s
 dsimp only
 wp_walk
 refine wpAny_askSetting (wpAny_pure ?_)
 simp only[newObj]
 exact wpAny_bind (wpAny_alloc (wpAny_pure (wpAny_pure h)))
theorem oK {M:Model}{self a:Value}{Q:Unit->Shared->Prop}(hT:s.TypeIs self "set")(hQ:Q () s):wpAny M A (checkBuiltinCall "set.__init__" ⟨[self,a],[]⟩) Q E s:=by
 simp only[checkBuiltinCall,kind_set_init,split_set_init,sig_set_init]
 refine wpAny_bind (wpAny_isInstance hT sub_set_self ?_)
 simp only[Bool.not_true,Bool.false_eq_true,if_false]
 unfold Bind.checkArgs
 dsimp only
 refine wpAny_bind (m:=Bind.printed "set" true _ _) (PyProof.Rows.printed_name (by decide) ?_)
 refine wpAny_bind (m:=Bind.printed "*" false _ _) (PyProof.Rows.printed_star (self:=self) rfl hT λshort=>?_)
 have e1:(Manifest.Receiver.self==Manifest.Receiver.none)=false:=by decide
 have e2:(if (Manifest.Receiver.self==Manifest.Receiver.none)=true then [self,a].length else [self,a].length-1)=1:=by simp[e1]
 rw[e2]
 simp only[List.map_nil]
 have k1:(Manifest.ParamKind.posOnly==Manifest.ParamKind.posOnly)=true:=by decide
 have k2:(Manifest.ParamKind.posOnly==Manifest.ParamKind.posOrKw)=false:=by decide
 have k3:(Manifest.ParamKind.posOnly==Manifest.ParamKind.varPos)=false:=by decide
 have e3:Bind.check ⟨.positional,"set","*",.self,[⟨"iterable",.posOnly,false⟩]⟩ "set" short 1 []=pure ():=by
  simp[Bind.check,Bind.checkCount,Bind.isPositional,k1,k2,k3]
 rw[e3]
 exact wpAny_pure hQ
theorem SetK.start {h:Heap}{a:Addr}(e:h.get? a=some (f_ w)):SetK knd pk (!byT w) h a []:=
 ⟨f_ w,#[],0,.fresh 0 0 (!byT w),e,⟨rfl,rfl,rfl⟩,rfl,⟨[],.refl _,.nil⟩,by decide,by rfl,rfl,(λ_ k hk=>by cases hk),List.Pairwise.nil⟩
set_option maxHeartbeats 3200000 in
theorem qT {l:Addr}{items:Array Value}{Q:Value->Shared->Prop}(hh:A.handled=none)(hl:s.heap.IsTuple l items)(val:Nat->K)(hval:∀ (i:Nat) v,items[i]?=some v->knd.is (val i) v=true/\v.scannable=true/\plainKind v=pk (val i))
  (hb:items.size+1<scanBound)
  (h:∀ (h':Heap) (tk:Nat),SetK knd pk (!byT w) h' s.heap.objs.size (met val items.size)->(∀ b o,b<s.heap.objs.size->s.heap.get? b=some o->h'.get? b=some o)->Q (.ref s.heap.objs.size) { s with heap:=h',toks:=tk }) :
  wpAny (model prog w) A (call (.type "set") [.ref l]) Q E s:=by
 obtain⟨c,tl,hmro⟩:=F.called_set.mro
 have c1:=F.called_set.made
 have c2:=F.called_set.sub
 refine wpAny_call (codeAny_of_tree ?_)
 show wpAny _ _ (callAny (.type "set") _) _ _ _
 refine wpAny_pure ⟨Code.quiet_builtin _ (by decide +kernel),codeAny_builtin F.entry_type_call ?_⟩
 rw[Around.under_plain (weight_type_call_type "set" [.ref l] []) rfl]
 have c3:=F.called_set.notType
 have c4:=F.called_set.canCreate
 have c5:=SF.tcall (.ref l)
 repeat (any_goals (first |assumption |wp_step))
 refine codeAny_mono (rH (.ref l) (E:=E) (Q₁:=λobj s₁=>obj = .ref s.heap.objs.size/\s₁={ s with heap:=s.heap.push (f_ w) }) ⟨rfl,rfl⟩) λr s₁ hr=>?_
 cases r with
 |error e=>exact hr
 |ok fl =>
  cases fl with
  |ret obj =>
   obtain⟨rfl,rfl⟩:=hr
   have hS:(s.heap.push (f_ w)).get? s.heap.objs.size=some (f_ w):=Heap.get?_push_size _ rfl
   have hT:Shared.TypeIs { s with heap:=s.heap.push (f_ w) } (.ref s.heap.objs.size) "set":=⟨_,hS,rfl⟩
   have i1:=F.called_set.init.lookup
   have i2:=F.called_set.init.bind (.ref s.heap.objs.size)
   repeat (any_goals (first |assumption |wp_step))
   refine codeAny_mono (codeAny_call_builtin (R:=wants (λr s₂=>r = .none/\∃ h' tk,s₂={ s with heap:=h',toks:=tk }/\SetK knd pk (!byT w) h' s.heap.objs.size (met val items.size) /\
     (∀ b o,b<s.heap.objs.size->s.heap.get? b=some o->h'.get? b=some o)) E) F.called_set.init.plain F.entry_set_init (oK hT ?_)) λr₂ s₂ hr₂=>?_
   ·obtain⟨⟨ocls,odict,odata,oslots⟩,hol,hcl,nl,hdl⟩:=id hl
    simp only at hcl hdl
    subst hcl hdl
    have hol':=Heap.get?_push_of_some (f_ w) hol
    have t1:=F.sub_tuple_set
    have t2:=F.sub_tuple_frozenset
    have t3:(Value.type "tuple"==Value.type "dict")=false:=by decide
    have hl1:(s.heap.push (f_ w)).IsTuple l items:=⟨_,hol',rfl,nl,rfl⟩
    unfold Builtin.«set.__init__» noKeywords Builtin.Frozenset.updateFrom
    generalize hPI:pyIter=PI
    wp_walk
    subst hPI
    refine wpAny_pyIter_tuple hl1 ?_
    refine wpAny_bind (wpAny_runValue ?_)
    have hlS:l<s.heap.objs.size:=Heap.lt_size hol
    have z1:(s.heap.push (f_ w)).objs.size=s.heap.objs.size+1:=Heap.size_push ..
    have hneI:l≠(s.heap.push (f_ w)).objs.size:=by rw[z1];exact Nat.ne_of_lt (Nat.lt_succ_of_lt hlS)
    have hSf:s.heap.objs.size∉[(s.heap.push (f_ w)).objs.size,l]:=by
     rw[z1];intro hm
     rcases List.mem_cons.mp hm with e |hm
     ·exact Nat.ne_of_lt (Nat.lt_succ_self _) e
     ·exact Nat.ne_of_gt hlS (List.mem_singleton.mp hm)
    refine rJ (pk:=pk) (led:=!byT w) ((Walks.tuple (by simp[hh]) _ l hneI items).toS) s.heap.objs.size hSf val hval hb (items.size-0) 0 _ (by omega) (Nat.zero_le _)
     ⟨⟨_,Heap.get?_push_size _ rfl,rfl,rfl⟩,⟨_,Heap.get?_push_of_some _ hol',rfl,nl,rfl⟩⟩ (SetK.start (Heap.get?_push_of_some _ hS)) λs' hm hS'=>?_
    obtain⟨h',g',d',tk',os'⟩:=s'
    have eg:g'=s.gens:=hm.gens
    have ed:d'=s.drawn:=hm.drawn
    have eo:os'=s.os:=hm.os
    subst eg ed eo
    show wpAny _ _ _ _ _ _
    refine wpAny_pure ?_
    show wpAny _ _ (ret Value.none) _ _ _
    refine wpAny_pure ⟨rfl,h',tk',rfl,hS',λb o hb e=>hm.heap b o ?_ (Heap.get?_push_of_some _ (Heap.get?_push_of_some _ e))⟩
    intro hm
    rcases List.mem_cons.mp hm with e |hm
    ·exact Nat.ne_of_lt hb e
    ·rw[z1] at hm
     exact Nat.ne_of_lt (Nat.lt_succ_of_lt hb) (List.mem_singleton.mp hm)
   ·cases r₂ with
    |error e=>exact hr₂
    |ok fl₂ =>
     cases fl₂ with
     |ret r =>
      obtain⟨rfl,h',tk,rfl,hS',hk'⟩:=hr₂
      repeat (any_goals (first |assumption |wp_step))
      exact h _ _ hS' hk'
     |_=>exact hr₂.elim
  |_=>exact hr.elim
end
end
end L2
namespace L2
open PySem
section
variable {prog:Program}{w:World}{A:Around}{E:Value->Shared->Prop}{s:Shared}
theorem wp_choose {src:Source}{n:Nat}{Q:Nat->Shared->Prop}(hn:n≠0)(h:∀ i,i<n->Q i { s with drawn:=s.drawn.bump src }):wpAny (model prog w) A (choose src n) Q E s:=
 λ_ _ _=>⟨hn,h _ (Nat.mod_lt _ (Nat.pos_of_ne_zero hn))⟩
theorem jR {α:Type}:∀ {xs:List α}{i:Nat}{x : α},xs[i]?=some x->(x::xs.eraseIdx i).Perm xs
 |[],_,_,h=>by simp at h
 |y::ys,0,x,h=>by simp at h;subst h;exact .refl _
 |y::ys,i+1,x,h=>by
  rw[List.getElem?_cons_succ] at h
  rw[List.eraseIdx_cons_succ]
  exact (List.Perm.swap y x _).trans ((jR h).cons y)
theorem j5 {α:Type}:∀ (n:Nat) (xs:List α) {s:Shared}{Q:List α->Shared->Prop},xs.length=n->(∀ ys d,ys.Perm xs->Q ys { s with drawn:=d })->wpAny (model prog w) A (drawOrder n xs) Q E s
 | 0,xs,s,Q,hl,h=>by
  obtain rfl:=List.length_eq_zero_iff.mp hl
  unfold drawOrder
  exact wpAny_pure (h [] s.drawn (.refl _))
 |n+1,[],s,Q,hl,h=>by simp at hl
 |n+1,x::r,s,Q,hl,h=>by
  unfold drawOrder
  refine wpAny_bind (wp_choose (by simp) λi hi=>?_)
  have e:=List.getElem?_eq_getElem hi
  rw[e]
  dsimp only
  refine wpAny_bind (j5 n _ (by rw[List.length_eraseIdx_of_lt hi,hl];omega) λys d p=>?_)
  exact wpAny_pure (h _ d ((p.cons _).trans (jR e)))
theorem oQ {α:Type}(next:Nat->Nat):∀ (m k:Nat) (left:List α) (out:Array α),left.length=m->(pickOrder.go next m k left out).toList.Perm (out.toList++left)
 | 0,k,left,out,hl=>by
  obtain rfl:=List.length_eq_zero_iff.mp hl
  unfold pickOrder.go;rw[List.append_nil]
 |m+1,k,left,out,hl=>by
  have hi:next k % left.length<left.length:=Nat.mod_lt _ (by omega)
  have e:=List.getElem?_eq_getElem hi
  unfold pickOrder.go
  rw[e]
  dsimp only
  refine (oQ next m (k+1) _ _ (by rw[List.length_eraseIdx_of_lt hi,hl];omega)).trans ?_
  rw[Array.toList_push,List.append_assoc]
  exact (jR e).append_left _
def SetIt (h:Heap)(it a:Addr)(first:Value)(i n ep:Nat):Prop:=∃ o,h.get? it=some o/\o.cls = .type "set_iterator"/\o.data = .fields #[first,.int i 0,.ref a,.int n 0,.int ep 0]
inductive Way (w:World) (a it:Addr) (es:Array (Int×Value)) (ep:Nat) (t:SetTable):Array (Int×Value)->List Addr->(Nat->Value->Heap->Prop)->Prop where
 |text (hb:byT w=true):Way w a it es ep t (pickOrder (w.params.setOrder a ep) es) [it,a] (λ_ f _ => ∃ k:Nat,f = .int k 0)
 |one (hb:byT w=false) (hl:t.led=true) (h1:t.plain=true∨es.size<=1) (hr:Ris t.place):Way w a it es ep t es [it,a] (λi f _ => ∃ k:Nat,f = .int k 0/\SetTable.below t.place k=i)
 |drawn (hb:byT w=false) (hp:t.plain=false) (h1 : 1<es.size) (tp:Addr) (order:List Nat) (ho:order.Perm (List.range es.size)):tp≠it ->
  Way w a it es ep t (order.filterMap λi=>es[i]?).toArray [it,a,tp] (λ_ f h=>f = .ref tp/\h.IsTuple tp (order.map λ(i:Nat)=>Value.int i 0).toArray)
theorem wG {es:Array (Int×Value)}{order:List Nat}(ho:order.Perm (List.range es.size)):(order.filterMap λi=>es[i]?).length=order.length/\∀ i:Nat,(order.filterMap λi=>es[i]?)[i]?=(order[i]?).bind λj=>es[j]?:=by
 have hall:∀ j∈order,j<es.size:=λj hj=>List.mem_range.mp (ho.mem_iff.mp hj)
 clear ho
 induction order with
 |nil=>exact⟨rfl,λi=>by simp⟩
 |cons j r ih =>
  have hj:=hall j (List.mem_cons_self ..)
  obtain⟨h1,h2⟩:=ih λk hk=>hall k (List.mem_cons_of_mem _ hk)
  rw[List.filterMap_cons_some (b:=es[j]) (by simp[hj])]
  refine⟨by simp[h1],λi=>?_⟩
  cases i with
  |zero=>simp[hj]
  |succ i=>simpa using h2 i
theorem Way.perm {a it:Addr}{es:Array (Int×Value)}{ep:Nat}{t:SetTable}{out:Array (Int×Value)}{fp:List Addr}{F:Nat->Value->Heap->Prop}(y:Way w a it es ep t out fp F):out.toList.Perm es.toList:=by
 cases y with
 |text hb=>simpa [pickOrder] using oQ (w.params.setOrder a ep) es.size 0 es.toList #[] (by simp)
 |one=>exact .refl _
 |drawn hb hp h1 tp order ho hne =>
  have q:=ho.filterMap λi=>es[i]?
  rw[filterMap_getElem?_range] at q
  simpa using q
end
section
variable {prog:Program}{w:World}{A:Around}{E:Value->Shared->Prop}{s:Shared}
variable {a it:Addr}{o:Obj}{es:Array (Int×Value)}{ep:Nat}{t:SetTable}
theorem iZ {Q:Bool->Shared->Prop}(h:Q (byT w) s):wpAny (model prog w) A setsByText Q E s:=by
 unfold setsByText
 exact wpAny_bind (wpAny_askSetting (wpAny_pure h))
theorem rz {Q:Bool->Shared->Prop}(ho:s.heap.get? a=some o)(hd:o.data = .set es ep t)(hf:t.fits es.size=true)(h:Q (!byT w&&(!t.plain&&decide (es.size > 1))) s):wpAny (model prog w) A (setDrawn a) Q E s:=by
 unfold setDrawn
 refine wpAny_bind (wpAny_setState_of ho hd hf ?_)
 dsimp only
 exact wpAny_bind (iZ (wpAny_pure h))
theorem uk {Q:Value->Shared->Prop}(ho:s.heap.get? a=some o)(hex:o.ExactSet)(hd:o.data = .set es ep t)(hf:t.fits es.size=true)(hz:es.size<=sizeLine)(hled:byT w=false->t.led=true)(hr:Ris t.place)
  (h:∀ it out fp F first h' d,Way w a it es ep t out fp F->SetIt h' it a first 0 es.size ep->F 0 first h'->(∀ b o,s.heap.get? b=some o->h'.get? b=some o)->s.heap.objs.size<=it->(∀ b∈fp,b=a∨s.heap.objs.size<=b) ->
   Q (.ref it) { s with heap:=h',drawn:=d }):wpAny (model prog w) A (pyIter (.ref a)) Q E s:=by
 have hT:s.TypeIs (.ref a) "set":=⟨o,ho,hex.1⟩
 refine wpAny_pyIter_slot hT F.slot_set_iter (wpAny_call_entry F.slot_set_iter hT SF.ent_iter ?_ (F.args_set_iter_1 _))
 unfold Builtin.«frozenset.__iter__» Builtin.Frozenset.slot0 slotArgs
 simp only[List.isEmpty_nil,Bool.not_true,Bool.false_eq_true,↓reduceIte,bind_assoc,List.length_nil,bne_self_eq_false]
 unfold Builtin.Frozenset.addrOf Builtin.Frozenset.sizeOf
 refine wpAny_bind (wpAny_pure ?_)
 try dsimp only
 refine wpAny_bind (wpAny_pure ?_)
 refine wpAny_bind (wpAny_bind (wpAny_setEntries_of ho hd hf (wpAny_pure ?_)))
 refine wpAny_bind (rz ho hd hf ?_)
 have ha:a<s.heap.objs.size:=Heap.lt_size ho
 cases hc:(!byT w&&(!t.plain&&decide (es.size > 1))) with
 |true =>
  rw[Bool.and_eq_true,Bool.and_eq_true,Bool.not_eq_true',Bool.not_eq_true'] at hc
  obtain⟨hb,hp,h1⟩:=hc
  have h1:=of_decide_eq_true h1
  rw[if_pos rfl]
  refine wpAny_bind (j5 es.size (List.range es.size) (by simp) λorder d hpm=>?_)
  have hlen:order.length=es.size:=by rw[hpm.length_eq,List.length_range]
  refine wpAny_bind (wpAny_newTuple ?_ (by rw[List.length_map,hlen];exact hz))
  refine wpAny_bind (wpAny_setEpoch_of (Heap.get?_push_of_some _ ho) hd hf ?_)
  refine wpAny_bind (wpAny_newObj_type (wpAny_pure ⟨_,rfl,"set_iterator",_,⟨_,Heap.get?_push_size _ rfl,rfl⟩,SF.slot_next.lookup,?_⟩))
  refine h _ _ _ _ (.ref s.heap.objs.size) _ d (Way.drawn hb hp h1 s.heap.objs.size order hpm ?_) ⟨_,Heap.get?_push_size _ rfl,rfl,rfl⟩ ⟨rfl,⟨_,Heap.get?_push_of_some _ (Heap.get?_push_size _ rfl),rfl,0,?_⟩⟩
   (λb o e=>Heap.get?_push_of_some _ (Heap.get?_push_of_some _ e)) ?_ ?_
  ·rw[Heap.size_push];exact Nat.ne_of_lt (Nat.lt_succ_self _)
  ·rfl
  ·rw[Heap.size_push];exact Nat.le_succ _
  ·intro b hb
   rcases List.mem_cons.mp hb with e |hb
   ·rw[e,Heap.size_push];exact .inr (Nat.le_succ _)
   rcases List.mem_cons.mp hb with e |hb
   ·exact .inl e
   ·rw[List.mem_singleton.mp hb];exact .inr (Nat.le_refl _)
 |false =>
  rw[if_neg (by decide)]
  refine wpAny_bind (wpAny_pure ?_)
  refine wpAny_bind (wpAny_setEpoch_of ho hd hf ?_)
  refine wpAny_bind (wpAny_newObj_type (wpAny_pure ⟨_,rfl,"set_iterator",_,⟨_,Heap.get?_push_size _ rfl,rfl⟩,SF.slot_next.lookup,?_⟩))
  have hfp:∀ b∈[s.heap.objs.size,a],b=a∨s.heap.objs.size<=b:=λb hb=>by
   rcases List.mem_cons.mp hb with e |hb
   ·rw[e];exact .inr (Nat.le_refl _)
   ·exact .inl (List.mem_singleton.mp hb)
  cases hb:byT w with
  |true=>exact h _ _ _ _ (.int 0 0) _ s.drawn (Way.text hb) ⟨_,Heap.get?_push_size _ rfl,rfl,rfl⟩ ⟨0,rfl⟩ (λb o e=>Heap.get?_push_of_some _ e) (Nat.le_refl _) hfp
  |false =>
   have h1:t.plain=true∨es.size<=1:=by
    cases hp:t.plain with
    |true=>exact .inl rfl
    |false =>
     rw[hb,hp] at hc
     have:=of_decide_eq_false (show decide (es.size > 1)=false from hc)
     exact .inr (by omega)
   exact h _ _ _ _ (.int 0 0) _ s.drawn (Way.one hb (hled hb) h1 hr) ⟨_,Heap.get?_push_size _ rfl,rfl,rfl⟩ ⟨0,rfl,tx hr (Nat.zero_le _) (λi _ z=>absurd z (by omega)) λi _ _=>Nat.zero_le _⟩ (λb o e=>Heap.get?_push_of_some _ e) (Nat.le_refl _) hfp
theorem SetIt.ty {first:Value}{i n:Nat}(x:SetIt s.heap it a first i n ep):s.TypeIs (.ref it) "set_iterator":=let ⟨o,ho,hc,_⟩:=x;⟨o,ho,hc⟩
theorem h_ {k i:Nat}{Q:Option (Value×Nat)->Shared->Prop}(ho:s.heap.get? a=some o)(hd:o.data = .set es ep t)(hf:t.fits es.size=true)(hb:byT w=true)
  (h:Q (((pickOrder (w.params.setOrder a ep) es)[i]?).map λe=>(e.2,k)) s):wpAny (model prog w) A (setNext a k i ep) Q E s:=by
 unfold setNext
 refine wpAny_bind (wpAny_setState_of ho hd hf ?_)
 dsimp only
 refine wpAny_bind (iZ ?_)
 rw[hb,if_pos rfl,if_neg (by simp)]
 refine wpAny_bind ?_
 unfold setWalk
 refine wpAny_bind (wpAny_setState_of ho hd hf ?_)
 dsimp only
 refine wpAny_bind (iZ ?_)
 rw[hb,if_pos rfl]
 exact wpAny_bind (wpAny_askSetting (wpAny_pure (wpAny_pure h)))
theorem iA {k i:Nat}{Q:Option (Value×Nat)->Shared->Prop}(ho:s.heap.get? a=some o)(hd:o.data = .set es ep t)(hf:t.fits es.size=true)(hb:byT w=false)(hl:t.led=true)(h1:t.plain=true∨es.size<=1)
  (h:Q (match es[SetTable.below t.place k]?,t.place[SetTable.below t.place k]? with |some (_,x),some j=>some (x,j+1) |_,_=>none) s):wpAny (model prog w) A (setNext a k i ep) Q E s:=by
 unfold setNext
 refine wpAny_bind (wpAny_setState_of ho hd hf ?_)
 dsimp only
 refine wpAny_bind (iZ ?_)
 rw[hb,if_neg (by decide)]
 have e1:(!t.plain&&decide (es.size > 1))=false:=by
  rcases h1 with h1 |h1
  ·rw[h1];rfl
  ·rw[decide_eq_false (by omega),Bool.and_false]
 show wpAny _ _ (if (!t.plain&&decide (es.size > 1))=true then _ else _) _ _ _
 rw[e1,if_neg (by decide)]
 refine wpAny_bind ?_
 show wpAny _ _ (if (!t.led&&!es.isEmpty)=true then _ else _) _ _ _
 rw[hl,if_neg (by simp)]
 exact wpAny_pure (wpAny_pure h)
end
section
variable {prog:Program}{w:World}{A:Around}{E:Value->Shared->Prop}{s:Shared}
variable {a it:Addr}{o:Obj}{es:Array (Int×Value)}{ep:Nat}{t:SetTable}
theorem oM {h:Heap}{first f':Value}{i n:Nat}(x:SetIt h it a first i n ep) :
  SetIt (h.update it (Obj.mapFields (·.setIfInBounds 0 f'))) it a f' i n ep:=by
 obtain⟨o,ho,hc,hd⟩:=x
 exact⟨_,Heap.get?_update_self _ ho (Obj.isFreed_of_fields (Obj.data_mapFields hd _)),(Obj.cls_mapFields ..).trans hc,by rw[Obj.data_mapFields hd];simp⟩
theorem oN {h:Heap}{first:Value}{i n:Nat}(x:SetIt h it a first i n ep) :
  SetIt (h.update it (Obj.mapFields (·.setIfInBounds 1 (rawInt ((i:Int)+1))))) it a first (i+1) n ep:=by
 obtain⟨o,ho,hc,hd⟩:=x
 exact⟨_,Heap.get?_update_self _ ho (Obj.isFreed_of_fields (Obj.data_mapFields hd _)),(Obj.cls_mapFields ..).trans hc,by rw[Obj.data_mapFields hd];simp[rawInt]⟩
set_option maxHeartbeats 1000000 in
theorem next_item {out:Array (Int×Value)}{fp:List Addr}{F:Nat->Value->Heap->Prop}{first:Value}{i:Nat}{x:Int×Value}{Q:Option Value->Shared->Prop}(y:Way w a it es ep t out fp F)(hne:a≠it)(ho:s.heap.get? a=some o)(hd:o.data = .set es ep t)
  (hf:t.fits es.size=true) (hit:SetIt s.heap it a first i es.size ep) (hF:F i first s.heap) (hx:out[i]?=some x)
  (hQ:∀ f' h',SetIt h' it a f' (i+1) es.size ep->F (i+1) f' h'->Heap.SameBut it s.heap h'->Q (some x.2) { s with heap:=h' }):wpAny (model prog w) A (pyNext (.ref it)) Q E s:=by
 obtain⟨oi,hoi,hci,hdi⟩:=id hit
 unfold pyNext
 refine wpAny_bind (wpAny_attempt (wpAny_callSpecial?_slot (name:=Str.ofString "__next__") hit.ty SF.slot_next (wpAny_call_entry SF.slot_next hit.ty SF.ent_next ?_ (SF.args_next _))))
 unfold Builtin.«set_iterator.__next__»
 refine wpAny_bind (wpAny_pure ?_)
 refine wpAny_bind (wpAny_fieldsOf hoi hdi ?_)
 dsimp only
 refine wpAny_bind (wpAny_setEntries_of ho hd hf ?_)
 rw[if_neg (by simp)]
 have step:∀ (f':Value),F (i+1) f' ((s.heap.update it (Obj.mapFields (·.setIfInBounds 0 f'))).update it (Obj.mapFields (·.setIfInBounds 1 (rawInt ((i:Int)+1)))))->∀ (k:Nat),f'=rawInt k->∀ (E':Value->Shared->Prop),
   wpAny (model prog w) A.in1 (do setField (.ref it) 0 (rawInt k);setField (.ref it) 1 (rawInt ((i:Int)+1));ret x.2) (λfin s' => ∃ v,fin = .done (.ret v)/\Q (some v) s') E' s:=by
  rintro f' hF' k rfl E'
  refine wpAny_bind (wpAny_setField hoi hdi (by simp) ?_)
  have u1:=oM (f':=rawInt k) hit
  obtain⟨o1,ho1,hc1,hd1⟩:=id u1
  refine wpAny_bind (wpAny_setField ho1 hd1 (by simp) (wpAny_pure ⟨_,rfl,?_⟩))
  exact hQ _ _ (oN u1) hF' ((Heap.SameBut.update ..).trans (Heap.SameBut.update ..))
 cases y with
 |text hb =>
  obtain⟨k,rfl⟩:=hF
  dsimp only
  refine wpAny_bind (h_ ho hd hf hb ?_)
  simp only[Int.toNat_natCast]
  rw[hx]
  exact wpAny_mono (step (rawInt k) ⟨k,rfl⟩ k rfl _) (λ_ _ h=>let ⟨v,e,q⟩:=h;⟨v,e,wpAny_pure q⟩) λ_ _ h=>h
 |one hb hl h1 hr =>
  have hi:i<es.size:=(Array.getElem?_eq_some_iff.mp hx).1
  have hsz:t.place.size=es.size:=by
   have:=hf
   simp only[SetTable.fits,Bool.and_eq_true,beq_iff_eq] at this
   exact this.1
  obtain⟨k,rfl,hk⟩:=hF
  have hpi:t.place[i]?=some t.place[i]:=Array.getElem?_eq_getElem (by omega)
  have hnext:SetTable.below t.place (t.place[i]+1)=i+1:=tx hr (by omega) (λn hn hlt=>by
   rcases Nat.lt_or_ge n i with q |q
   ·have:=hr.lt q (show i<t.place.size by omega);omega
   ·have e:n=i:=by omega
    subst e;omega) λn hn hge=>hr.lt (show i<n by omega) hn
  dsimp only
  refine wpAny_bind (iA ho hd hf hb hl h1 ?_)
  rw[Int.toNat_natCast,hk,hx,hpi]
  exact wpAny_mono (step (rawInt ((t.place[i]+1:Nat):Int)) ⟨_,rfl,hnext⟩ (t.place[i]+1) rfl _) (λ_ _ h=>let ⟨v,e,q⟩:=h;⟨v,e,wpAny_pure q⟩) λ_ _ h=>h
 |drawn hb hp h1 tp order hpm hnt =>
  obtain⟨rfl,htp⟩:=hF
  obtain⟨otp,hotp,hctp,ntp,hdtp⟩:=id htp
  dsimp only
  refine wpAny_bind (wpAny_seqItems hotp hdtp ?_)
  obtain⟨g1,g2⟩:=wG (es:=es) hpm
  have hx':(order.filterMap λi=>es[i]?)[i]?=some x:=by simpa using hx
  rw[g2 i] at hx'
  obtain⟨p,hp1,hp2⟩:=Option.bind_eq_some_iff.mp hx'
  have e1:((order.map λ(i:Nat)=>Value.int i 0).toArray)[Int.toNat (i:Int)]?=some (.int p 0):=by
   rw[Int.toNat_natCast,List.getElem?_toArray,List.getElem?_map,hp1];rfl
  dsimp only
  rw[e1]
  dsimp only
  refine wpAny_bind ?_
  unfold setNextDrawn
  refine wpAny_bind (wpAny_setState_of ho hd hf ?_)
  dsimp only
  rw[Int.toNat_natCast,Int.toNat_natCast,if_neg (by simp),hp2]
  refine wpAny_pure ?_
  refine wpAny_bind (wpAny_setField hoi hdi (by simp) (wpAny_pure ⟨_,rfl,wpAny_pure ?_⟩))
  exact hQ _ _ (oN hit) ⟨rfl,⟨otp,((Heap.SameBut.update ..).2 tp hnt).trans hotp,hctp,ntp,hdtp⟩⟩ (Heap.SameBut.update ..)
end
section
variable {prog:Program}{w:World}{A:Around}{E:Value->Shared->Prop}{s:Shared}
variable {a it:Addr}{o:Obj}{es:Array (Int×Value)}{ep:Nat}{t:SetTable}
theorem uj {α:Type}{Q : α->Shared->Prop}(hh:A.handled=none)(h:∀ h' e,(∀ b o,s.heap.get? b=some o->h'.get? b=some o)->(∃ o,h'.get? e=some o/\o.cls = .type "StopIteration")->E (.ref e) { s with heap:=h' }) :
  wpAny (model prog w) A (newExc (.type "StopIteration") [] >>= λe=>(raiseNew e:Sem α)) Q E s:=by
 refine wpAny_bind ?_
 simp only[newExc,newTuple]
 refine wpAny_bind (wpAny_newObj_type ?_ (by size_fits))
 refine wpAny_bind (m:=firstArgMember _ _) (wpAny_of_eq (a:=Value.none) (by first |rfl |(simp only[firstArgMember];rfl)) ?_)
 refine wpAny_newObj_type ?_ (by size_fits)
 simp only[raiseNew]
 refine wpAny_bind (wpAny_handled ?_)
 rw[hh]
 refine wpAny_bind (wpAny_pure (wpAny_throw ?_))
 exact h _ _ (λb o e=>Heap.get?_push_of_some _ (Heap.get?_push_of_some _ e)) ⟨_,Heap.get?_push_size _ rfl,rfl⟩
set_option maxHeartbeats 1000000 in
theorem next_end {out:Array (Int×Value)}{fp:List Addr}{F:Nat->Value->Heap->Prop}{first:Value}{Q:Option Value->Shared->Prop}(hh:A.handled=none)(y:Way w a it es ep t out fp F)(hne:a≠it)(ho:s.heap.get? a=some o)(hd:o.data = .set es ep t)
  (hf:t.fits es.size=true) (hit:SetIt s.heap it a first es.size es.size ep) (hF:F es.size first s.heap)
  (hQ:∀ h',(∀ b o,b≠it->s.heap.get? b=some o->h'.get? b=some o)->Q none { s with heap:=h' }):wpAny (model prog w) A (pyNext (.ref it)) Q E s:=by
 have hsz:out.size=es.size:=by have:=y.perm.length_eq;simpa using this
 obtain⟨oi,hoi,hci,hdi⟩:=id hit
 unfold pyNext
 refine wpAny_bind (wpAny_attempt (wpAny_callSpecial?_slot (name:=Str.ofString "__next__") hit.ty SF.slot_next (wpAny_call_entry SF.slot_next hit.ty SF.ent_next ?_ (SF.args_next _))))
 unfold Builtin.«set_iterator.__next__»
 refine wpAny_bind (wpAny_pure ?_)
 refine wpAny_bind (wpAny_fieldsOf hoi hdi ?_)
 dsimp only
 refine wpAny_bind (wpAny_setEntries_of ho hd hf ?_)
 rw[if_neg (by simp)]
 have fin:∀ (s1:Shared) (Q':Fin->Shared->Prop),(∀ b o,b≠it->s.heap.get? b=some o->s1.heap.get? b=some o)->(∀ h',({ s with heap:=h' }:Shared)={ s1 with heap:=h' }) ->
   wpAny (model prog w) A.in1 (newExc (.type "StopIteration") [] >>= λe=>(raiseNew e:Sem Fin)) Q'
    (λe s'=>wpAny (model prog w) A (do let b ← isInstance e (.type "StopIteration");if b=true then pure none else throw e) Q E s') s1:=λs1 Q' k1 k2=>by
  refine uj (by simp[hh]) λh' e k he=>?_
  obtain⟨oe,hoe,hce⟩:=he
  refine wpAny_bind (wpAny_isInstance (T:="StopIteration") (b:=true) ⟨oe,hoe,hce⟩ isSubtype_stop ?_)
  rw[if_pos rfl]
  refine wpAny_pure ?_
  rw[← k2]
  exact hQ h' λb o nb e=>k b o (k1 b o nb e)
 have up:∀ (f:Array Value->Array Value) b o,b≠it->s.heap.get? b=some o->(s.heap.update it (Obj.mapFields f)).get? b=some o:=λf b o nb e=>((Heap.SameBut.update ..).2 b nb).trans e
 cases y with
 |text hb =>
  obtain⟨k,rfl⟩:=hF
  dsimp only
  refine wpAny_bind (h_ ho hd hf hb ?_)
  simp only[Int.toNat_natCast]
  rw[Array.getElem?_eq_none (by omega)]
  refine wpAny_bind (wpAny_setField hoi hdi (by simp) ?_)
  exact fin _ _ (up _) λ_=>rfl
 |one hb hl h1 hr =>
  have key:∃ k:Nat,first = .int k 0/\es[SetTable.below t.place k]?=none:=by
   obtain⟨k,rfl,e⟩:=hF
   exact⟨k,rfl,by rw[e];exact Array.getElem?_eq_none (Nat.le_refl _)⟩
  obtain⟨k,rfl,hk⟩:=key
  dsimp only
  refine wpAny_bind (iA ho hd hf hb hl h1 ?_)
  rw[Int.toNat_natCast,hk]
  refine wpAny_bind (wpAny_setField hoi hdi (by simp) ?_)
  exact fin _ _ (up _) λ_=>rfl
 |drawn hb hp h1 tp order hpm hnt =>
  obtain⟨rfl,htp⟩:=hF
  obtain⟨otp,hotp,hctp,ntp,hdtp⟩:=id htp
  dsimp only
  refine wpAny_bind (wpAny_seqItems hotp hdtp ?_)
  dsimp only
  have e1:((order.map λ(i:Nat)=>Value.int i 0).toArray)[Int.toNat (es.size:Int)]?=none:=by
   rw[Int.toNat_natCast,List.getElem?_toArray,List.getElem?_eq_none]
   rw[List.length_map,hpm.length_eq,List.length_range];exact Nat.le_refl _
  rw[e1]
  dsimp only
  refine wpAny_bind (wpAny_setField hoi hdi (by simp) ?_)
  have u1:=oM (f':=rawInt 0) hit
  obtain⟨o1,ho1,hc1,hd1⟩:=id u1
  refine wpAny_bind (wpAny_setField ho1 hd1 (by simp) ?_)
  exact fin _ _ (λb o nb e=>((Heap.SameBut.update ..).2 b nb).trans (up _ b o nb e)) λ_=>rfl
theorem yU:entryFor table "set_iterator.__iter__"=some Builtin.«dict_keyiterator.__iter__»:=entryFor_alias (id':="dict_keyiterator.__iter__") (by kernel_rfl) rfl (by decide +kernel) (by kernel_rfl)
theorem args_self (a:Value):argsOk "set_iterator.__iter__" ⟨[a],[]⟩:=by
 unfold argsOk;rw[signature?_of (id:="set_iterator.__iter__") (n:=['_','_','r','e','t','i','_','_']) (o:=['r','o','t','a','r','e','t','i','_','t','e','s']) (by kernel_rfl) SF.own_it];kernel_rfl
theorem xL {first:Value}{i n:Nat}{Q:Value->Shared->Prop}(hit:SetIt s.heap it a first i n ep)(h:Q (.ref it) s):wpAny (model prog w) A (pyIter (.ref it)) Q E s:=by
 refine wpAny_pyIter_slot hit.ty SF.slot_self (wpAny_call_entry SF.slot_self hit.ty yU ?_ (args_self _))
 show wpAny _ _ (ret (.ref it)) _ _ s
 exact wpAny_pure ⟨_,rfl,"set_iterator",_,hit.ty,SF.slot_next.lookup,h⟩
theorem SetIt.keep {h h':Heap}{first:Value}{i n:Nat}(x:SetIt h it a first i n ep)(e:∀ o,h.get? it=some o->h'.get? it=some o):SetIt h' it a first i n ep:=let ⟨o,ho,r⟩:=x;⟨o,e o ho,r⟩
theorem Way.fp {out:Array (Int×Value)}{fp:List Addr}{F:Nat->Value->Heap->Prop}(y:Way w a it es ep t out fp F):it∈fp/\a∈fp/\∀ i f (h h':Heap),(∀ b∈fp,b≠it->∀ o,h.get? b=some o->h'.get? b=some o)->F i f h->F i f h':=by
 cases y with
 |text=>exact⟨by simp,by simp,λ_ _ _ _ _ x=>x⟩
 |one=>exact⟨by simp,by simp,λ_ _ _ _ _ x=>x⟩
 |drawn _ _ _ tp order _ hne=>exact⟨by simp,by simp,λ_ _ h h' k x=>⟨x.1,by obtain⟨o,ho,r⟩:=x.2;exact⟨o,k tp (by simp) hne o ho,r⟩⟩⟩
theorem Walks.set {out:Array (Int×Value)}{fp:List Addr}{F:Nat->Value->Heap->Prop}(hh:A.handled=none)(y:Way w a it es ep t out fp F)(hne:a≠it)(hex:o.ExactSet)(hd:o.data = .set es ep t)(hf:t.fits es.size=true) :
  Walks prog w A it fp [it] es.size (λi v=>(out[i]?).map (·.2)=some v) (λi h=>h.get? a=some o/\∃ first,SetIt h it a first i es.size ep/\F i first h) where
 sub:=λb hb=>by rw[List.mem_singleton.mp hb];exact y.fp.1
 frame:=λi h h' st k=>⟨k a y.fp.2.1 o st.1,let ⟨f,h1,h2⟩:=st.2;⟨f,h1.keep λo e=>k it y.fp.1 o e,y.fp.2.2 i f h h' (λb hb _ o e=>k b hb o e) h2⟩⟩
 item:=λi s Q E hi st hQ=>by
  obtain⟨ho,f,h1,h2⟩:=st
  have hsz:out.size=es.size:=by have:=y.perm.length_eq;simpa using this
  have hx:out[i]?=some out[i]:=Array.getElem?_eq_getElem (by omega)
  refine next_item y hne ho hd hf h1 h2 hx λf' h' k1 k2 sb=>?_
  refine hQ _ h' s.toks (by rw[hx];rfl) ⟨(sb.2 a hne).trans ho,f',k1,k2⟩ λb o hb e=>(sb.2 b (λz=>hb (by simp[z]))).trans e
 done:=λs Q E st hQ=>by
  obtain⟨ho,f,h1,h2⟩:=st
  exact next_end hh y hne ho hd hf h1 h2 λh' k=>hQ h' s.toks λb o hb e=>k b o (λz=>hb (by simp[z])) e
 self:=λi s Q E st hQ=>let ⟨f,h1,_⟩:=st.2;xL h1 hQ
end
section
variable {prog:Program}{w:World}{A:Around}{E:Value->Shared->Prop}{s:Shared}
set_option maxHeartbeats 1000000 in
theorem l8 {x:Addr}{T:String}(hTT:T="set"∨T="dict")(hT:s.TypeIs (.ref x) T){Q:List Value->Shared->Prop}(Pf:List Value->Prop)
  (hiter:∀ (h0:Heap) (Q':Value->Shared->Prop) (E':Value->Shared->Prop),(∀ b o,s.heap.get? b=some o->h0.get? b=some o) ->
   (∀ (I:Addr) (fp wr:List Addr) (n:Nat) (P:Nat->Value->Prop) (St:Nat->Shared->Prop) (s1:Shared),WalksS prog w A.in1 I fp wr (λa b=>b=a) n P St->St 0 s1->n<=sizeLine->(∀ b∈fp,b=x∨h0.objs.size<=b)->(∀ b∈wr,h0.objs.size<=b) ->
    (∀ b o,h0.get? b=some o->s1.heap.get? b=some o)->s1.gens=s.gens->s1.os=s.os->(∀ acc,ItemsOf P acc n->Pf acc.toList)->Q' (.ref I) s1)->wpAny (model prog w) A.in1 (pyIter (.ref x)) Q' E' { s with heap:=h0 })
  (hQ:∀ s' acc,Pf acc->(∀ b o,s.heap.get? b=some o->s'.heap.get? b=some o)->s'.gens=s.gens->s'.os=s.os->Q acc s'):wpAny (model prog w) A (collect (.ref x)) Q E s:=by
 obtain⟨ox,hox,hcx⟩:=id hT
 have hxs:x<s.heap.objs.size:=Heap.lt_size hox
 unfold collect
 refine wpAny_bind (wpAny_runValue (codeAny_builtin F.entry_proto_collect ?_))
 rw[Around.under_plainId F.plain_proto_collect _]
 show wpAny _ A.in1 (newList [] >>= λl=>again (.builtin "list.__iadd__" ⟨[l,.ref x],[]⟩)) _ _ s
 refine wpAny_bind (wpAny_newObj_type ?_)
 refine wpAny_pure ⟨plainId_quiet F.plain_list_iadd _,codeAny_builtin F.entry_list_iadd ?_⟩
 rw[Around.under_plainId F.plain_list_iadd _]
 have hS1:(s.heap.push { cls:=.type "list",data:=.seq ([]:List Value).toArray }).get? s.heap.objs.size=some { cls:=.type "list",data:=.seq ([]:List Value).toArray }:=Heap.get?_push_size _ rfl
 have hT1:Shared.TypeIs { s with heap:=s.heap.push { cls:=.type "list",data:=.seq ([]:List Value).toArray } } (.ref x) T:=⟨ox,Heap.get?_push_of_some _ hox,hcx⟩
 have n1:Builtin.List.listSameRef (.ref s.heap.objs.size) (.ref x)=false:=by simp[Builtin.List.listSameRef,Nat.ne_of_gt hxs]
 show wpAny _ A.in1 (Builtin.List.listExtendWith (.ref s.heap.objs.size) (.ref x) (.ref s.heap.objs.size)) _ _ _
 unfold Builtin.List.listExtendWith
 refine wpAny_bind (wpAny_typeOf hT1 ?_)
 have kp:∀ b o,s.heap.get? b=some o->(s.heap.push { cls:=.type "list",data:=.seq ([]:List Value).toArray }).get? b=some o:=λb o e=>Heap.get?_push_of_some _ e
 have sz:(s.heap.push { cls:=.type "list",data:=.seq ([]:List Value).toArray }).objs.size=s.heap.objs.size+1:=Heap.size_push ..
 have main:∀ (I:Addr) (fp wr:List Addr) (n:Nat) (P:Nat->Value->Prop) (St:Nat->Shared->Prop) (s1:Shared),WalksS prog w A.in1 I fp wr (λa b=>b=a) n P St->St 0 s1->n<=sizeLine ->
   (∀ b∈fp,b=x∨(s.heap.push { cls:=.type "list",data:=.seq ([]:List Value).toArray }).objs.size<=b)->(∀ b∈wr,(s.heap.push { cls:=.type "list",data:=.seq ([]:List Value).toArray }).objs.size<=b) ->
   (∀ b o,(s.heap.push { cls:=.type "list",data:=.seq ([]:List Value).toArray }).get? b=some o->s1.heap.get? b=some o)->s1.gens=s.gens->s1.os=s.os->(∀ acc,ItemsOf P acc n->Pf acc.toList) ->
   ∀ (R:Result->Shared->Prop),(∀ s' acc c,Pf acc.toList->(∀ b o,s.heap.get? b=some o->s'.heap.get? b=some o)->s'.gens=s.gens->s'.os=s.os->s'.heap.get? s.heap.objs.size=some { cls:=.type "list",dict:=none,data:=.seq acc c,slots:=#[] }->R (.ok (.ret (.ref s.heap.objs.size))) s') ->
   wpAny (model prog w) A.in1 (rule "list.extend.makes-room" >>= λ_=>Builtin.List.listTouch (.ref s.heap.objs.size) >>= λ_=>again (.builtin "list.extend.loop" ⟨[.ref s.heap.objs.size,.ref I,.ref s.heap.objs.size],[]⟩))
    (λfin s'=>match fin with | .done f=>R (.ok f) s' | .again c'=>c'.quiet=true/\codeAny (model prog w) A c' R s') (λe s'=>R (.error e) s') s1:=by
  intro I fp wr n P St s1 W st hn hfp hwr k1 g1 o1 hP R hR
  have hSf:s.heap.objs.size∉fp:=λhm=>by
   rcases hfp _ hm with e |e
   ·exact Nat.ne_of_gt hxs e
   ·rw[sz] at e;exact Nat.not_succ_le_self _ e
  refine wpAny_bind (wpAny_rule ?_)
  refine wpAny_bind ?_
  have hS:s1.heap.get? s.heap.objs.size=some { cls:=.type "list",data:=.seq ([]:List Value).toArray }:=k1 _ _ hS1
  show wpAny _ A.in1 (updateSeq s.heap.objs.size (·.push .none) >>= λ_=>updateSeq s.heap.objs.size (·.pop)) _ _ _
  refine wpAny_bind (wpAny_updateSeq hS rfl ?_)
  have hS2:=Heap.get?_update_self (Obj.mapSeq (·.push Value.none)) hS rfl
  refine wpAny_updateSeq (hz:=by seq_fits) hS2 rfl ?_
  have hS3:=Heap.get?_update_self (Obj.mapSeq (·.pop)) hS2 rfl
  have oth:∀ b o,b≠s.heap.objs.size->s1.heap.get? b=some o->((s1.heap.update s.heap.objs.size (Obj.mapSeq (·.push Value.none))).update s.heap.objs.size (Obj.mapSeq (·.pop))).get? b=some o:=
   λb o hb e=>(Heap.get?_update_other _ _ (Ne.symm hb)).trans ((Heap.get?_update_other _ _ (Ne.symm hb)).trans e)
  refine wpAny_pure ⟨plainId_quiet F.plain_extend_loop _,codeAny_extend_loopS W hn _ hSf _ n 0 _ _ _ rfl (Nat.zero_le _) (W.frame 0 s1 _ s1.toks st (Nat.le_refl _) λb hb o e=>oth b o (λh=>hSf (h▸hb)) e) hS3 (ItemsOf.nil P) λs' acc' c' hm hS' hacc=>?_⟩
  refine hR s' acc' c' (hP acc' hacc) (λb o e=>?_) (hm.gens.trans g1) (hm.os.trans o1) hS'
  have hb:b<s.heap.objs.size:=Heap.lt_size e
  refine hm.heap b o (λz=>?_) (oth b o (Nat.ne_of_lt hb) (k1 b o (kp b o e)))
  rcases List.mem_cons.mp z with z |z
  ·exact Nat.ne_of_lt hb z
  ·have:=hwr b z
   rw[sz] at this
   exact Nat.not_succ_le_self _ (Nat.le_trans this (Nat.le_of_lt hb))
 have last:∀ (s':Shared) (acc:Array Value) (c:Nat),Pf acc.toList->(∀ b o,s.heap.get? b=some o->s'.heap.get? b=some o)->s'.gens=s.gens->s'.os=s.os->s'.heap.get? s.heap.objs.size=some { cls:=.type "list",dict:=none,data:=.seq acc c,slots:=#[] } ->
   wpAny (model prog w) A (load s.heap.objs.size >>= λo=>match o.data with | .seq xs _=>pure xs.toList |_=>unsupported "internal:collect") Q E s':=λs' acc c h1 h2 h3 h4 h5=>wpAny_bind (wpAny_load h5 (wpAny_pure (hQ s' acc.toList h1 h2 h3 h4)))
 rcases hTT with rfl |rfl
 ·rw[if_neg (by rw[n1];decide)]
  refine wpAny_bind (hiter _ _ _ kp λI fp wr n P St s1 W st hn hfp hwr k1 g1 o1 hP=>?_)
  have hT2:s1.TypeIs (.ref x) "set":=⟨ox,k1 _ _ (kp _ _ hox),hcx⟩
  refine wpAny_bind (wpAny_holding ?_)
  unfold Builtin.List.listLengthHint
  refine wpAny_bind (wpAny_specialOf hT2 F.slot_set_len.lookup ?_)
  (generalize hid:("set.__len__":String)=id0;wp_delta;rw[show splitId id0=some ("set","__len__") from by subst hid;decide +kernel];subst hid)
  refine wpAny_bind (wpAny_isInstance (b:=true) hT2 (by rw[isSubtype_type];kernel_rfl) ?_)
  refine wpAny_bind (wpAny_typeOf hT2 ?_)
  refine wpAny_pure ?_
  dsimp only
  split
  ·refine main I fp wr n P St s1 W st hn hfp hwr k1 g1 o1 hP (λr s'=>match r with
    | .ok (.ret v)=>wpAny (model prog w) A (match v with
     | .ref a=>do
      let o ← load a
      match o.data with
       | .seq xs _=>pure xs.toList
       |_=>unsupported "internal:collect"
     |_=>unsupported "internal:collect") Q E s'
    | .ok _=>False
    | .error e=>E e s') ?_
   exact λs2 acc c h1 h2 h3 h4 h5=>last s2 acc c h1 h2 h3 h4 h5
  ·rename_i hneg
   exact absurd (by decide) hneg
 ·rw[if_neg (by rw[n1];decide)]
  refine wpAny_bind (hiter _ _ _ kp λI fp wr n P St s1 W st hn hfp hwr k1 g1 o1 hP=>?_)
  have hT2:s1.TypeIs (.ref x) "dict":=⟨ox,k1 _ _ (kp _ _ hox),hcx⟩
  refine wpAny_bind (wpAny_holding ?_)
  unfold Builtin.List.listLengthHint
  refine wpAny_bind (wpAny_specialOf hT2 F.slot_dict_len.lookup ?_)
  (generalize hid:("dict.__len__":String)=id0;wp_delta;rw[show splitId id0=some ("dict","__len__") from by subst hid;decide +kernel];subst hid)
  refine wpAny_bind (wpAny_isInstance (b:=true) hT2 (by rw[isSubtype_type];kernel_rfl) ?_)
  refine wpAny_bind (wpAny_typeOf hT2 ?_)
  refine wpAny_pure ?_
  dsimp only
  split
  ·refine main I fp wr n P St s1 W st hn hfp hwr k1 g1 o1 hP (λr s'=>match r with
    | .ok (.ret v)=>wpAny (model prog w) A (match v with
     | .ref a=>do
      let o ← load a
      match o.data with
       | .seq xs _=>pure xs.toList
       |_=>unsupported "internal:collect"
     |_=>unsupported "internal:collect") Q E s'
    | .ok _=>False
    | .error e=>E e s') ?_
   exact λs2 acc c h1 h2 h3 h4 h5=>last s2 acc c h1 h2 h3 h4 h5
  ·rename_i hneg
   exact absurd (by decide) hneg
end
end L2
namespace L2
open PySem PySem.Spec PyProof.Rows PySem.W
def ib:List D->Option (List Key)
 |[]=>some []
 |d::ds=>(e_ d).bind λk=>(ib ds).map (k::·)
def m6 (d:D)(S:Sto):Option D:=match d with
 | .tup xs=>(de xs).map .lst
 | .lst xs=>(de xs).map .lst
 | .loc l=>match S[l]? with
  |some (.dict kvs)=>(de (kvs.map (·.1))).map .lst
  |_=>none
 |_=>none
def vO (f:Rho->Sto->Out D):Rho->Sto->Out D:=λρ S=>ag (f ρ S) λd S1=>aL (m6 d S1) S1
def zd (k:D->Bool)(g:D->D->Option D)(fe fa:Rho->Sto->Out D):Rho->Sto->Out D:=λρ S=>ag (fe ρ S) λx S1=>if k x=true then ag (fa ρ S1) λy S2=>aL (g x y) S2 else none
section
variable {X:Cx}{W:WT}
variable {e:Expr}{fe:Rho->Sto->Out D}{gs:Rho->Sto->Out (List D)}{pos pos2 p p2:Pos}{x y:Str}
theorem yu {k:D->Bool}{g:D->D->Option D}{fa:Rho->Sto->Out D}{T:String}{r:V->List V->Hp->VK->Prop}{σ:St}{H:Hp}{Q:VK}(hT:∀ J H1 d v,k d=true->At X.K H1 J d v->tyV X.K T v H1)
  (hr:∀ (v v2:V) (H2:Hp) (Q:VK),rD2 X.K g v v2 H2 Q->r v [v2] H2 Q) (h:tE X W (zd k g fe fa) σ H Q):tBM X.K T r (tE X W fe) (AV (tE X W fa) pV) σ H Q:=
 (tG.bindE h).mono λv H1 ⟨d,h1⟩=>by
  by_cases hk:k d=true
  ·simp only[hk,if_true] at h1
   refine⟨?_,(tG.bindE h1).mono λv2 H2 ⟨d2,h2⟩=>hr v v2 H2 Q (tG.op2 h2)⟩
   obtain⟨J,_,_,_,_,_,m,_,_⟩:=h1
   exact hT J H1 d v hk m.uncons.1
  ·obtain⟨J,ρ,S,r,S',c,m,e,z⟩:=h1
   simp only[hk,Bool.false_eq_true,if_false] at e
   cases e
def plK:Key->Bool
 | .inl _=>true
 | .inr _=>false
def ou (P:Program)(w:World)(p:Addr)(ks:List Key):HO:=HO.ext λh=>SetK (bq P w) plK (!byT w) h p ks
theorem qx {k:Key}{u:Value}(r:RelV (kV k) u):u.scannable=true/\plainKind u=plK k:=by
 cases k with
 |inl i=>obtain⟨t,e⟩:=(show ∃ t,u=Value.int i t from r);subst e;exact⟨rfl,rfl⟩
 |inr x=>obtain⟨t,e⟩:=(show ∃ t,u=Value.str x t from r);subst e;exact⟨rfl,rfl⟩
theorem sx (ks:List Key):met (λi=>ks.getD i (.inl 0)) ks.length=ks.foldl b7 []:=by
 unfold met
 congr 1
 apply List.ext_getElem (by simp)
 intro i h1 h2
 simp at h1
 simp[List.getD,h1]
theorem Ct (hc:X.calm=true):CallR X (.type "set") (λxs H Q => ∃ (a:Addr) (ks:List Key),xs=[.ref a]/\SqT X.K H a (ks.map kV)/\ks.length+1<4096/\∀ p,H p=none->Q (.ref p) (upd H p (ou X.prog X.w p (ks.foldl b7 [])))):=by
 intro pins s σ H xs us Q I r h
 obtain⟨a,ks,rfl,hq,hb,q⟩:=h
 obtain⟨u,rfl,ru⟩:=vals1 r
 cases ru
 obtain⟨its,rv,tp,hz⟩:=I.tuple hq
 have hl:its.length=ks.length:=by rw[← rv.length,List.length_map]
 refine qT (knd:=bq X.prog X.w) (pk:=plK) (I.ok.hd hc) (show s.heap.IsTuple a its.toArray from tp) (λi=>ks.getD i (.inl 0)) (λi v hv=>?_) (by rw[List.size_toArray,hl];exact hb) λh' tk hS k=>?_
 ·have hv':its[i]?=some v:=by simpa using hv
  have hi:i<ks.length:=by rw[← hl];exact (List.getElem?_eq_some_iff.mp hv').1
  obtain⟨u,e1,e2⟩:=rv.get (i:=i) (x:=kV ks[i]) (by rw[List.getElem?_map,List.getElem?_eq_getElem hi];rfl)
  rw[hv'] at e1
  cases e1
  have e3:ks.getD i (.inl 0)=ks[i]:=by simp[List.getD,hi]
  simp only[e3]
  exact⟨nK e2,(qx e2).1,(qx e2).2⟩
 ·have es0:its.toArray.size=ks.length:=by rw[List.size_toArray,hl]
  rw[es0,sx] at hS
  refine⟨.ref s.heap.objs.size,_,I.laid (t':=tk) (o:=ou X.prog X.w s.heap.objs.size (ks.foldl b7 [])) (λb o e=>k b o (Heap.lt_size e) e) (Nat.le_refl _) ⟨hS,?_,λh1 h2 z k=>z.keep k⟩,rfl,q _ I.fresh⟩
  obtain⟨o,es,ep,t,ho,_⟩:=hS
  exact⟨o,ho⟩
theorem SetK.len {h:Heap}{p:Addr}{ks:List Key}{P:Program}{w:World}{es:Array (Int×Value)}(hl:∃ l:List (Int×Value),l.Perm es.toList/\Paired (tI (bq P w)) ks l):es.size=ks.length:=by
 obtain⟨l,pm,r⟩:=hl
 have e1:=pm.length_eq
 have e2:=lV r
 simp only[Array.length_toList] at e1
 omega
theorem vp {K:PySem.W.Frag}{H:Hp}{J:List Addr}:∀ {ds:List D}{ks:List Key}{vs:List V},ib ds=some ks->Ats K H J ds vs->vs=ks.map kV
 |[],ks,vs,e,m=>by cases e;exact Ats.nil_iff.mp m
 |d::ds,ks,vs,e,m=>by
  obtain⟨v,r,rfl,a,n⟩:=Ats.cons_iff.mp m
  rw[ib] at e
  obtain⟨k,e1,e2⟩:=Option.bind_eq_some_iff.mp e
  obtain⟨ks',e3,e4⟩:=Option.map_eq_some_iff.mp e2
  subst e4
  rw[List.map_cons,sE e1 a,vp e3 n]
theorem oZ:∀ {ds:List D}{ks:List Key},ib ds=some ks->ks.length=ds.length
 |[],ks,e=>by cases e;rfl
 |d::ds,ks,e=>by
  rw[ib] at e
  obtain⟨k,e1,e2⟩:=Option.bind_eq_some_iff.mp e
  obtain⟨ks',e3,e4⟩:=Option.map_eq_some_iff.mp e2
  subst e4
  rw[List.length_cons,List.length_cons,oZ e3]
theorem SetK.vals {P:Program}{w:World}{ks:List Key}{l:List (Int×Value)}(r:Paired (tI (bq P w)) ks l):Vals (ks.map kV) (l.map (·.2)):=by
 induction r with
 |nil=>exact .nil
 |cons f t ih =>
  rename_i k e ks l
  refine .cons ?_ ih
  obtain⟨f1,_,_⟩:=f
  rcases bt f1 with ⟨i,t,rfl,e⟩ |⟨x,t,rfl,e⟩
  ·exact⟨t,e⟩
  ·exact⟨t,e⟩
theorem wc:∀ {us us':List Value},us'.Perm us->∀ {vs:List V},Vals vs us->∃ vs':List V,vs'.Perm vs/\Vals vs' us':=by
 intro us us' pm
 induction pm with
 |nil=>intro vs r;exact⟨vs,.refl _,r⟩
 |cons x _ ih =>
  intro vs r
  cases r with
  |cons r1 r2=>obtain⟨w,p,q⟩:=ih r2;exact⟨_::w,p.cons _,.cons r1 q⟩
 |swap x y l =>
  intro vs r
  cases r with
  |cons r1 r2=>cases r2 with
   |cons r3 r4=>exact⟨_::_::_,.swap ..,.cons r3 (.cons r1 r4)⟩
 |trans _ _ ih1 ih2 =>
  intro vs r
  obtain⟨w,p,q⟩:=ih2 r
  obtain⟨w',p',q'⟩:=ih1 q
  exact⟨w',p'.trans p,q'⟩
theorem zm {K:PySem.W.Frag}{H:Hp}{J:List Addr}{vs' vs:List V}(pm:vs'.Perm vs):∀ {ds:List D},Ats K H J ds vs->∃ ds':List D,ds'.Perm ds/\Ats K H J ds' vs':=by
 induction pm with
 |nil=>intro ds m;exact⟨ds,.refl _,m⟩
 |cons x _ ih =>
  intro ds m
  cases ds with
  |nil=>cases Ats.nil_iff.mp m
  |cons d ds=>obtain⟨a,b⟩:=m.uncons;obtain⟨w,p,q⟩:=ih b;exact⟨d::w,p.cons _,.cons a q⟩
 |swap x y l =>
  intro ds m
  cases ds with
  |nil=>cases Ats.nil_iff.mp m
  |cons d ds=>cases ds with
   |nil=>cases Ats.nil_iff.mp m.uncons.2
   |cons d2 ds=>obtain⟨a,b⟩:=m.uncons;obtain⟨a2,b2⟩:=b.uncons;exact⟨d2::d::ds,.swap ..,.cons a2 (.cons a b2)⟩
 |trans _ _ ih1 ih2 =>
  intro ds m
  obtain⟨w,p,q⟩:=ih2 m
  obtain⟨w',p',q'⟩:=ih1 q
  exact⟨w',p'.trans p,q'⟩
theorem sG {K:Type}[DecidableEq K]:∀ (l ks:List K) (k:K),k∈l.foldl b7 ks↔k∈ks∨k∈l
 |[],ks,k=>by simp
 |a::l,ks,k=>by
  rw[List.foldl_cons,sG l,List.mem_cons]
  unfold b7
  split
  ·constructor
   ·rintro (h |h)
    ·exact .inl h
    ·exact .inr (.inr h)
   ·rintro (h |rfl |h)
    ·exact .inl h
    ·left;assumption
    ·exact .inr h
  ·simp only[List.mem_append,List.mem_singleton]
   constructor
   ·rintro ((h |h) |h)
    ·exact .inl h
    ·exact .inr (.inl h)
    ·exact .inr (.inr h)
   ·rintro (h |h |h)
    ·exact .inl (.inl h)
    ·exact .inl (.inr h)
    ·exact .inr h
theorem Inv.moved {pins:List (Addr×Obj)}{σ:St}{H:Hp}{s s':Shared}(I:Inv X pins σ H s)(k:∀ b o,s.heap.get? b=some o->s'.heap.get? b=some o)(g:s'.gens=s.gens)(o:s'.os=s.os):Inv X pins σ H s':=by
 obtain⟨h',g',d',t',o'⟩:=s'
 cases g;cases o
 exact I.call (d':=d') (t':=t') (g':=s.gens) (ch:=[]) (Un.kept k) (I.hok.kept k) I.bare λb z=>absurd z (by simp)
theorem qR (hc:X.calm=true):CallR X (.builtin "sorted") (λxs H Q => ∃ (p:Addr) (ks:List Key) (J:List Addr) (ds out:List D),xs=[.ref p]/\H p=some (ou X.prog X.w p ks)/\(∀ a∈J,H a≠none)/\Ats X.K H J ds (ks.map kV)/\de ds=some out/\∀ H' v,Same H H'->At X.K H' J (.lst out) v->Q v H'):=by
 intro pins s σ H xs us Q I r h
 obtain⟨p,ks,J,ds,out,rfl,hp,hJ,m0,e,q⟩:=h
 obtain⟨u,rfl,ru⟩:=vals1 r
 cases ru
 obtain⟨⟨o,es,ep,t,ho,hex,hd,hl,hb,hf,hled,_,hr⟩,_,_⟩:=I.hok p _ hp
 obtain⟨l,pm,rl⟩:=id hl
 have ez:=SetK.len (h:=s.heap) (p:=p) hl
 have hz:es.size<=sizeLine:=Nat.le_of_lt (Nat.lt_of_lt_of_le hb (by decide))
 refine ja hJ e q λQ' E hQ=>?_
 have hh:X.A.in1.handled=none:=I.ok.hd hc
 refine l8 (.inl rfl) ⟨o,ho,hex.1⟩ (λus=>us.Perm (l.map (·.2))) (λh0 Q2 E2 k0 hgo=>?_) λs' acc hperm k g os=>?_
 ·refine uk (s:={ s with heap:=h0 }) (k0 _ _ ho) hex hd hf hz (λhb=>by rw[hled,hb];rfl) hr λit ot fp F first h' d y si hF k1 hle hfp=>?_
  have hne:p≠it:=λz=>by
   have h1:p<h0.objs.size:=Heap.lt_size (k0 _ _ ho)
   rw[z] at h1
   exact absurd (Nat.lt_of_lt_of_le h1 hle) (Nat.lt_irrefl _)
  refine hgo it fp [it] es.size _ _ _ ((Walks.set (A:=X.A.in1.in1) hh y hne hex hd hf).toS) ⟨k1 _ _ (k0 _ _ ho),first,si,hF⟩ hz hfp (λb hb=>by rw[List.mem_singleton.mp hb];exact hle) k1 rfl rfl λacc ha=>?_
  obtain⟨a1,a2⟩:=ha
  have osz:ot.size=es.size:=by have:=y.perm.length_eq;simpa using this
  have e3:acc.toList=ot.toList.map (·.2):=by
   apply List.ext_getElem?
   intro i
   by_cases hi:i<es.size
   ·have hv:acc[i]?=some acc[i]:=Array.getElem?_eq_getElem (by omega)
    have:=a2 i _ hv
    rw[List.getElem?_map,Array.getElem?_toList,Array.getElem?_toList,hv,this]
   ·rw[List.getElem?_map,Array.getElem?_toList,Array.getElem?_toList,Array.getElem?_eq_none (by omega),Array.getElem?_eq_none (by omega)];rfl
  rw[e3]
  exact (y.perm.trans pm.symm).map _
 ·have rv:=SetK.vals rl
  obtain⟨vs',p1,r1⟩:=wc hperm rv
  obtain⟨ds',p2,m2⟩:=zm p1 m0
  exact hQ acc vs' s' ds' (I.moved k g os) r1 p2 m2
theorem ld {α β:Type}{R : α->β->Prop}:∀ {l:List α}{m:List β},l.length=m.length->(∀ (i:Nat) a b,l[i]?=some a->m[i]?=some b->R a b)->Paired R l m
 |[],[],_,_ => .nil
 |a::l,b::m,h,k => .cons (k 0 a b rfl rfl) (ld (by simpa using h) λi x y hx hy=>k (i+1) x y (by simpa using hx) (by simpa using hy))
 |[],_::_,h,_=>by simp at h
 |_::_,[],h,_=>by simp at h
theorem nE {α β:Type}{R : α->β->Prop}{l:List α}{m:List β}(r:Paired R l m):∀ (i:Nat) a b,l[i]?=some a->m[i]?=some b->R a b:=by
 induction r with
 |nil=>intro i a b h;simp at h
 |cons f t ih =>
  intro i a b h1 h2
  cases i with
  |zero=>simp at h1 h2;subst h1 h2;exact f
  |succ i=>exact ih i a b (by simpa using h1) (by simpa using h2)
theorem vq {P:Program}{w:World}{k:Key}{u:Value}(h:(bq P w).is k u=true):RelV (kV k) u:=by
 rcases bt h with ⟨i,t,rfl,e⟩ |⟨x,t,rfl,e⟩
 ·exact⟨t,e⟩
 ·exact⟨t,e⟩
theorem sU (hc:X.calm=true):CallR X (.builtin "sorted") (λxs H Q => ∃ (p:Addr) (ps:List (Key×V)) (J:List Addr) (ds out:List D),xs=[.ref p]/\H p=some (.dK ps)/\(∀ a∈J,H a≠none)/\Ats X.K H J ds (ps.map λq=>kV q.1)/\de ds=some out/\∀ H' v,Same H H'->At X.K H' J (.lst out) v->Q v H'):=by
 intro pins s σ H xs us Q I r h
 obtain⟨p,ps,J,ds,out,rfl,hp,hJ,m,e,q⟩:=h
 obtain⟨u,rfl,ru⟩:=vals1 r
 cases ru
 obtain⟨hz,hsys,vs,hkv,hd⟩:=I.hok p _ hp
 obtain⟨ep,hda⟩:=hd.dictAt
 have hlen:vs.length=ps.length:=(KV.length hkv).symm
 refine ja hJ e q λQ' E hQ=>?_
 have hh:X.A.in1.handled=none:=I.ok.hd hc
 refine l8 (.inr rfl) hd.typeIs (λus=>Vals (ps.map λq=>kV q.1) us) (λh0 Q2 E2 k0 hgo=>?_) λs' acc hv k g os=>?_
 ·have hd0:h0.DictAt (bq X.prog X.w) p vs ep:=hda.keep k0
  refine wpAny_pyIter_dict (s:={ s with heap:=h0 }) hsys hd0 ?_
  have hpl:p<h0.objs.size:=hd0.lt_size
  refine hgo h0.objs.size [h0.objs.size,p] [h0.objs.size] vs.length _ _ _ ((Walks.dictKeys (A:=X.A.in1.in1) hh h0.objs.size p (Nat.ne_of_lt hpl) vs ep).toS) ⟨⟨_,Heap.get?_push_size _ rfl,rfl,rfl⟩,hd0.push _⟩ (by rw[hlen];exact hz)
   (λb hb=>by
    rcases List.mem_cons.mp hb with z |hb
    ·rw[z];exact .inr (Nat.le_refl _)
    ·exact .inl (List.mem_singleton.mp hb))
   (λb hb=>by rw[List.mem_singleton.mp hb];exact Nat.le_refl _) (λb o e=>Heap.get?_push_of_some _ e) rfl rfl λacc ha=>?_
  obtain⟨a1,a2⟩:=ha
  refine ld (by have e1:acc.toList.length=acc.size:=Array.length_toList;rw[List.length_map,e1,a1,hlen]) λi v u hv hu=>?_
  rw[Array.getElem?_toList] at hu
  obtain⟨k,x,e1,e2⟩:=a2 i u hu
  rw[List.getElem?_map] at hv
  obtain⟨q,e3,e4⟩:=Option.map_eq_some_iff.mp hv
  have e5:=(nE hkv i q (k,x) e3 e1).1
  rw[← e4,e5]
  exact vq e2
 ·exact hQ acc _ s' ds (I.moved k g os) hv (.refl _) m
theorem zK (hx:x="sorted")(hc:X.calm=true)(hm:X.mg x=none)(ha:SE X W e fe)(hg:Gl X x:=by rfl)(he:starEach [e] X.env=(false,eval e X.env)::starEach [] X.env:=by rfl)(hpl:(backTo pos (starEach [] X.env)).any (·.1)=false:=by rfl) :
  SE X W (.Call (.Name x p) [e] [] pos) (vO fe):=by
 subst hx
 refine SE.either (g1:=b8 xE (ac fe ah)) (g2:=λρ S=>ag (fe ρ S) λd S1=>aL (match d with | .loc l=>(match S1[l]? with |some (.dict kvs)=>(de (kvs.map (·.1))).map .lst |_=>none) |_=>none) S1)
  (cE AI hm lG (aa ha af he) hg (by decide) (by decide) he hpl) ?_ λρ S=>?_
 ·refine PE.imp (ku (sU hc) hg hm lG (fR ha pa_nil he) (by decide) (by decide) he hpl) λσ H Q h=>?_
  refine (tG.bindE h).mono λv H1 ⟨d,h1⟩=>?_
  obtain⟨J,ρ,S,r,S',c,m,eq,z⟩:=h1
  obtain⟨m,_⟩:=m.uncons
  show pV _ _ _
  cases d with
  |loc l =>
   obtain⟨a,rfl,hl⟩:=At.loc_iff.mp m
   cases hS:S[l]? with
   |none=>simp[hS] at eq
   |some mo =>
    cases mo with
    |lst xs=>simp[hS] at eq
    |exc c=>simp[hS] at eq
    |dictN _=>simp[hS] at eq
    |ins _ _=>simp[hS] at eq
    |dict kvs =>
     simp only[hS] at eq
     cases hq:de (kvs.map (·.1)) with
     |none=>simp[hq] at eq
     |some out =>
      simp only[hq,Option.map_some,cy,okO] at eq
      cases eq
      obtain⟨ps,hp,hkv⟩:=c.sto.at_ l a _ hl hS
      refine⟨a,ps,J,kvs.map (·.1),out,rfl,hp,c.sto.all,?_,hq,λH' v sm m'=>z J H' v (Ex.same sm) (c.sto.same sm) m'⟩
      clear hq hS z hp
      induction hkv with
      |nil=>exact .nil
      |cons f t ih=>exact .cons f.1.2 ih
  |_=>simp at eq
 ·unfold vO b8 ac ah
  cases q:fe ρ S with
  |none=>exact .inl rfl
  |some o =>
   obtain⟨ro,S1⟩:=o
   cases ro with
   |error c=>exact .inl rfl
   |ok d=>cases d<;>first |exact .inl rfl |exact .inr rfl
end
mutual
inductive Lit:Expr->D->Prop
 |int {i:Int}{j p}:Lit (.Constant (.int i) j p) (.int i)
 |bl {b:Bool}{j p}:Lit (.Constant (.bool b) j p) (.bl b)
 |non {j p}:Lit (.Constant .none j p) .non
 |str {x:Str}{j p} (hx:okS x):Lit (.Constant (.str x) j p) (.str x)
 |neg {i:Int}{j p q}:Lit (.UnaryOp .USub (.Constant (.int i) j p) q) (.int (-i))
 |tup {es:List Expr}{ds:List D}{k p} (h:Lits es ds) (n:ds.length<=1000):Lit (.Tuple es k p) (.tup ds)
 |lst {es:List Expr}{ds:List D}{p} (h:Lits es ds) (n:ds.length<=1000):Lit (.List es p) (.lst ds)
inductive Lits:List Expr->List D->Prop
 |nil:Lits [] []
 |cons {e:Expr}{d:D}{es:List Expr}{ds:List D}(h:Lit e d) (r:Lits es ds):Lits (e::es) (d::ds)
end
section
variable {X:Cx}{W:WT}
theorem SE.eq {e:Expr}{g g':Rho->Sto->Out D}(h:SE X W e g)(q:g=g'):SE X W e g':=q▸h
theorem SA.eq {e:List Expr}{g g':Rho->Sto->Out (List D)}(h:SA X W e g)(q:g=g'):SA X W e g':=q▸h
theorem xC {e:Expr}{d:D}(h:Lit e d)(es:List Expr):starEach (e::es) X.env=(false,eval e X.env)::starEach es X.env:=by
 cases h<;>rfl
mutual
theorem kT:∀ {e:Expr}{d:D},Lit e d->SE X W e (aB d)
 |_,_,.int=>ao
 |_,_,.bl=>kf
 |_,_,.non=>ud
 |_,_,.str hx=>jH hx
 |_,_,.neg=>SE.eq (AX xy ao) rfl
 |_,_,.tup (ds:=ds) h n=>SE.eq (cW (ue h)) (by
   funext ρ S
   show aL (szO ds (.tup ds)) S=okO (.tup ds) S
   unfold szO
   rw[if_pos (Nat.le_trans n (by decide))];rfl)
 |_,_,.lst (ds:=ds) h n=>SE.eq (qd (ue h)) (by
   funext ρ S
   show aL (szO ds (.lst ds)) S=okO (.lst ds) S
   unfold szO
   rw[if_pos (Nat.le_trans n (by decide))];rfl)
theorem ue:∀ {es:List Expr}{ds:List D},Lits es ds->SA X W es (λ_ S=>okO ds S)
 |_,_,.nil=>af
 |_,_,.cons h r=>SA.eq (aa (kT h) (ue r) (xC h _)) rfl
end
end
def DF (F:List D->Sto->Out D)(t:Rho->Sto->Out (List D)):Rho->Sto->Out D:=λρ S=>ag (t ρ S) λds S1=>F ds S1
def Cv (c:Str)(t:Rho->Sto->Out (List D)):Rho->Sto->Out Fl:=λρ S=>ag (t ρ S) λds S1=>ag (aL (szO ds .non) S1) λ_ S2=>some (.error c,S2)
end L2
namespace L2
open PySem PySem.Spec PySem.Calls PyProof.Rows PySem.W
structure ExcIn (K:Frag) (C:Addr):Prop where
 cls:findIn K (.ref C) "__class__"=some (some (.builtin "object.__class__"))
 ga:findIn K (.ref C) "__getattribute__"=some (some (.builtin "BaseException.__getattribute__"))
 gn:findIn K (.ref C) "__getattr__"=some none
 so:subIn K (.ref C) (.type "object")=some true
 sb:subIn K (.ref C) (.type "BaseException")=some true
 is:(clsIn K C).isSome=true
end L2
namespace L2
open PySem PySem.Spec PyProof.Rows PySem.W
section
variable {X:Cx}{W:WT}{e:Expr}{fe fa:Rho->Sto->Out D}{pos p p2:Pos}
def Ds (tab:Str->Option Bool)(d:D)(S:Sto):Option D:=match d with
 | .loc l=>(match S[l]? with
  |some (.exc c)=>(tab c).map .bl
  |_=>none)
 |_=>none
def EI (tab:Str->Option Bool)(fe:Rho->Sto->Out D):Rho->Sto->Out D:=λρ S=>ag (fe ρ S) λd S1=>aL (Ds tab d S1) S1
end
section
variable {X:Cx}{W:WT}{fe fa:Rho->Sto->Out D}
theorem g9:∀ {us:List Value}{ns:List Int},Vals (ns.map V.int) us->IntsAre us ns
 |_,[],r=>by cases r;exact .nil
 |_,n::ns,r=>by
  cases r with
  |cons a b =>
   obtain⟨t,rfl⟩:=a
   exact .cons n t (g9 b)
end
section
variable {X:Cx}{W:WT}{e:Expr}{fe:Rho->Sto->Out D}{pos p:Pos}{x:Str}
def Do (d:D)(S:Sto):Option D:=match d with
 | .loc l=>(match S[l]? with
  |some (.dict kvs)=>some (.int kvs.length)
  |_=>none)
 |_=>none
theorem sV (hc:X.calm=true):CallR X (.type "list") (λxs H Q => ∃ (p:Addr) (ps:List (Key×V)),xs=[.ref p]/\H p=some (.dK ps)/\∀ l,H l=none->Q (.ref l) (upd H l (.lst (ps.map λq=>kV q.1)))):=by
 intro pins s σ H xs us Q I r h
 obtain⟨p,ps,rfl,hp,q⟩:=h
 obtain⟨u,rfl,ru⟩:=vals1 r
 cases ru
 obtain⟨hz,hsys,vs,hkv,hd⟩:=I.hok p _ hp
 obtain⟨ep,hda⟩:=hd.dictAt
 have hlen:vs.length=ps.length:=(KV.length hkv).symm
 refine kdl_call (kdl_dict (kvs:=vs) (ep:=ep) (knd:=bq X.prog X.w) hsys) (I.ok.hd hc) hda (by rw[hlen];exact hz) λh' tk acc c k hS ha=>?_
 obtain⟨a1,a2⟩:=ha
 have rv:Vals (ps.map λq=>kV q.1) acc.toList:=by
  refine ld (by have e1:acc.toList.length=acc.size:=Array.length_toList;rw[List.length_map,e1,a1,hlen]) λi v u hv hu=>?_
  rw[Array.getElem?_toList] at hu
  obtain⟨k,x,e1,e2⟩:=a2 i u hu
  rw[List.getElem?_map] at hv
  obtain⟨q,e3,e4⟩:=Option.map_eq_some_iff.mp hv
  have e5:=(nE hkv i q (k,x) e3 e1).1
  rw[← e4,e5]
  exact vq e2
 exact⟨.ref s.heap.objs.size,_,I.laid (t':=tk) (o:=.lst (ps.map λq=>kV q.1)) k (Nat.le_refl _) ⟨by rw[List.length_map];exact hz,acc.toList,c,rv,by simpa using hS⟩,rfl,q _ I.fresh⟩
def gO (d:D)(S:Sto):Option D:=match d with
 | .loc l=>(match S[l]? with
  |some (.dict kvs)=>if kvs.length<=sizeLine then some (.lst (kvs.map (·.1))) else none
  |_=>none)
 |_=>none
def ls (fe:Rho->Sto->Out D):Rho->Sto->Out D:=λρ S=>ag (fe ρ S) λd S1=>aL (gO d S1) S1
theorem rK (hu:X.A.units+1<cLine)(hm:X.mg x=none)(ha:SE X W e fe)(hc:X.calm=true:=by rfl)(hx:x="list":=by rfl)(hg:Gl X x:=by rfl)(he:starEach [e] X.env=(false,eval e X.env)::starEach [] X.env:=by rfl)(hpl:(backTo pos (starEach [] X.env)).any (·.1)=false:=by rfl) :
  SE X W (.Call (.Name x p) [e] [] pos) (ls fe):=by
 subst hx
 refine PE.imp (lc (sV hc) hg hm AM (fR ha pa_nil he) (by decide) (by decide) he hpl) λσ H Q h=>?_
 refine (tG.bindE h).mono λv H1 ⟨d,h1⟩=>?_
 obtain⟨J,ρ,S,r,S',c,m,eq,z⟩:=h1
 obtain⟨m,_⟩:=m.uncons
 show pV _ _ _
 unfold gO at eq
 cases d with
 |loc l =>
  obtain⟨a,rfl,hl⟩:=At.loc_iff.mp m
  cases hS:S[l]? with
  |none=>simp[hS] at eq
  |some mo =>
   cases mo with
   |dict kvs =>
    simp only[hS] at eq
    split at eq
    ·rename_i hz
     cases eq
     obtain⟨ps,hp,hkv⟩:=c.sto.at_ l a _ hl hS
     refine⟨a,ps,rfl,hp,λl2 hl2=>?_⟩
     have am:Ats X.K H1 J (kvs.map (·.1)) (ps.map λq=>kV q.1):=by
      clear hS z hp hz
      induction hkv with
      |nil=>exact .nil
      |cons f t ih=>exact .cons f.1.2 ih
     refine z J _ _ (Ex.same (aS hl2 _)) (c.sto.same (aS hl2 _)) (At.newLst am hl2 (λa ha=>c.sto.tracked ha) ?_)
     rw[List.length_map,← hkv.length];exact hz
    ·cases eq
   |_=>simp[hS] at eq
 |_=>simp at eq
end
def dI (a b:D):Bool:=match fO a,fO b with
 |some p,some q=>PyData.eqv p q
 |_,_=>false
def putN (kvs:List (D×D))(k v:D):List (D×D):=if (kvs.any λp=>dI p.1 k)=true then kvs.map (λp=>if dI p.1 k=true then (p.1,v) else p) else kvs++[(k,v)]
def js (kvs:List (D×D))(k:D):Option D:=(kvs.find? λp=>dI p.1 k).map (·.2)
noncomputable def kr (ps:List (PyData×Addr×V)) (k:PyData) (a:Addr) (v:V):List (PyData×Addr×V):=if (ps.any λp=>decide (p.1=k))=true then ps.map (λp=>if p.1=k then (p.1,p.2.1,v) else p) else ps++[(k,a,v)]
noncomputable def oG (ps:List (PyData×Addr×V)) (k:PyData):Option V:=(ps.find? λp=>decide (p.1=k)).map (·.2.2)
abbrev RQ:(PyData×Addr×V)->(PyData×Addr×Value)->Prop:=λp q=>p.1=q.1/\p.2.1=q.2.1/\RelV p.2.2 q.2.2
theorem qy {d:D}{p:PyData}(h:fO d=some p):toPy d=some p/\keyOk 8 p=true:=by
 unfold fO at h
 obtain⟨q,h1,h2⟩:=Option.bind_eq_some_iff.mp h
 split at h2
 ·rename_i hk;cases h2;exact⟨h1,hk⟩
 ·cases h2
section
variable {K:PySem.W.Frag}{H H':Hp}{J J':List Addr}
theorem ni {a k:D}{x y:PyData}(h:fO a=some x)(g:fO k=some y):dI a k=decide (x=y):=by
 unfold dI
 rw[h,g]
 exact o0 (qy h).2 (qy g).2
theorem CH {kvs:List (D×D)}{ps:List (PyData×Addr×V)}{k:D}{y:PyData}(g:fO k=some y)(r:Paired (RKN K H J) kvs ps):(kvs.any λp=>dI p.1 k)=ps.any λq=>decide (q.1=y):=by
 induction r with
 |nil=>rfl
 |cons h t ih=>rw[List.any_cons,List.any_cons,ih,ni h.1.1 g]
theorem wz {kvs:List (D×D)}{ps:List (PyData×Addr×V)}{k v:D}{y:PyData}{w:V}(g:fO k=some y)(av:At K H J v w)(r:Paired (RKN K H J) kvs ps) :
  Paired (RKN K H J) (kvs.map λp=>if dI p.1 k=true then (p.1,v) else p) (ps.map λq=>if q.1=y then (q.1,q.2.1,w) else q):=by
 induction r with
 |nil=>exact .nil
 | @cons p q l1 l2 h t ih =>
  refine .cons ?_ ih
  show RKN K H J (if dI p.1 k=true then (p.1,v) else p) (if q.1=y then (q.1,q.2.1,w) else q)
  rw[ni h.1.1 g]
  by_cases e:q.1=y
  ·rw[if_pos (decide_eq_true e),if_pos e]
   exact⟨h.1,av⟩
  ·rw[if_neg (by rw[decide_eq_false e];decide),if_neg e]
   exact h
theorem wB {k v:D}{y:PyData}{b:Addr}{w:V}(g:fO k=some y)(ak:At K H J k (.ref b))(av:At K H J v w){l1:List (D×D)}{l2:List (PyData×Addr×V)}(h:Paired (RKN K H J) l1 l2):Paired (RKN K H J) (l1++[(k,v)]) (l2++[(y,b,w)]):=by
 induction h with
 |nil=>exact .cons ⟨⟨g,ak⟩,av⟩ .nil
 |cons h t ih=>exact .cons h ih
theorem BJ {kvs:List (D×D)}{ps:List (PyData×Addr×V)}{k v:D}{y:PyData}{b:Addr}{w:V}(g:fO k=some y)(ak:At K H J k (.ref b))(av:At K H J v w)(r:Paired (RKN K H J) kvs ps):Paired (RKN K H J) (putN kvs k v) (kr ps y b w):=by
 unfold putN kr
 rw[CH g r]
 split
 ·exact wz g av r
 ·exact wB g ak av r
theorem yK {kvs:List (D×D)}{ps:List (PyData×Addr×V)}{k:D}{y:PyData}(g:fO k=some y)(r:Paired (RKN K H J) kvs ps) :
  (js kvs k=none/\oG ps y=none)∨∃ d v,js kvs k=some d/\oG ps y=some v/\At K H J d v:=by
 unfold js oG
 induction r with
 |nil=>exact .inl ⟨rfl,rfl⟩
 | @cons p q l1 l2 h t ih =>
  rw[List.find?_cons,List.find?_cons,ni h.1.1 g]
  by_cases e:q.1=y
  ·rw[decide_eq_true e]
   exact .inr ⟨p.2,q.2.2,rfl,rfl,h.2⟩
  ·rw[decide_eq_false e]
   exact ih
end
theorem BF {ps:List (PyData×Addr×V)}{xs:List (PyData×Addr×Value)}(r:Paired RQ ps xs)(k:PyData):(ps.any λp=>decide (p.1=k))=(atKey xs k).isSome:=by
 unfold atKey
 rw[Option.isSome_map]
 induction r with
 |nil=>rfl
 | @cons p q l1 l2 h t ih =>
  rw[List.any_cons,List.find?_cons,ih,h.1]
  by_cases e:q.1=k
  ·rw[decide_eq_true e];rfl
  ·rw[decide_eq_false e];rfl
theorem xO {ps:List (PyData×Addr×V)}{xs:List (PyData×Addr×Value)}(r:Paired RQ ps xs)(k:PyData):RelO (oG ps k) ((atKey xs k).map (·.2)):=by
 unfold oG atKey
 induction r with
 |nil=>exact True.intro
 | @cons p q l1 l2 h t ih =>
  rw[List.find?_cons,List.find?_cons,h.1]
  by_cases e:q.1=k
  ·rw[decide_eq_true e];exact h.2.2
  ·rw[decide_eq_false e];exact ih
theorem BC {ps:List (PyData×Addr×V)}{xs:List (PyData×Addr×Value)}(r:Paired RQ ps xs)(k:PyData){v:V}{u:Value}(rv:RelV v u):Paired RQ (ps.map λp=>if p.1=k then (p.1,p.2.1,v) else p) (xs.map (putAt k u)):=by
 induction r with
 |nil=>exact .nil
 | @cons p q l1 l2 h t ih =>
  refine .cons ?_ ih
  show RQ (if p.1=k then (p.1,p.2.1,v) else p) (putAt k u q)
  unfold putAt
  by_cases e:p.1=k
  ·rw[if_pos e,if_pos (h.1.symm.trans e)];exact⟨h.1,h.2.1,rv⟩
  ·rw[if_neg e,if_neg (λz=>e (h.1.trans z))];exact h
theorem BE {ps:List (PyData×Addr×V)}{xs:List (PyData×Addr×Value)}(r:Paired RQ ps xs)(k:PyData)(b:Addr){v:V}{u:Value}(rv:RelV v u):Paired RQ (ps++[(k,b,v)]) (xs++[(k,b,u)]):=by
 induction r with
 |nil=>exact .cons ⟨rfl,rfl,rv⟩ .nil
 |cons h t ih=>exact .cons h ih
theorem BB {ps:List (PyData×Addr×V)}{xs:List (PyData×Addr×Value)}(r:Paired RQ ps xs)(k:PyData)(b:Addr){v:V}{u:Value}(rv:RelV v u):Paired RQ (kr ps k b v) (storedH xs k b u):=by
 unfold kr storedH
 rw[BF r k]
 split
 ·exact BC r k rv
 ·exact BE r k b rv
theorem wv (ps:List (PyData×Addr×V))(k:PyData)(b:Addr)(v:V):(kr ps k b v).length<=ps.length+1:=by
 unfold kr
 split
 ·rw[List.length_map];omega
 ·rw[List.length_append];simp
section
variable {X:Cx}{pins:List (Addr×Obj)}{σ:St}{H:Hp}{s:Shared}{J:List Addr}{a:Addr}
theorem mK (I:Inv X pins σ H s){d:D}{y:PyData}{b:Addr}(g:fO d=some y)(m:At X.K H J d (.ref b)):(kF X.prog X.w).is s.heap y b:=by
 obtain⟨h1,h2⟩:=qy g
 exact⟨h2,(At.reads I m (show RelV (.ref b) (.ref b) from rfl) h1).2⟩
theorem vH {kvs:List (D×D)}{ps:List (PyData×Addr×V)}(I:Inv X pins σ H s)(e:H a=some (.dN ps))(r:Paired (RKN X.K H J) kvs ps) :
  ps.length<=sizeLine/\(a==sysModules)=false/\∃ xs,Paired RQ ps xs/\s.heap.DictOfH (kF X.prog X.w) a xs:=by
 obtain⟨z,y,xs,q,o,es,ep,h1,h2,h3,h4,h5⟩:=I.hok a _ e
 refine⟨z,y,xs,q,o,es,ep,h1,h2,h3,h4,?_,h5⟩
 clear h1 h2 h3 h4 h5 z e
 induction r generalizing xs with
 |nil=>cases q;intro x hx;exact nomatch hx
 | @cons p q' l1 l2 h t ih =>
  cases q with
  |cons hq tq =>
   intro x hx
   rcases List.mem_cons.mp hx with e |hx
   ·subst e
    rw[← hq.1,← hq.2.1]
    exact mK I h.1.1 h.1.2
   ·exact ih _ tq x hx
end
def uO (K:PySem.W.Frag)(H:Hp)(a:Addr)(y:V)(r:Option V):Prop:=∃ J kvs ps dk yk b,H a=some (.dN ps)/\Paired (RKN K H J) kvs ps/\fO dk=some yk/\At K H J dk (.ref b)/\y = .ref b/\r=oG ps yk
def DM (K:PySem.W.Frag)(H:Hp)(a:Addr)(y v:V)(H':Hp):Prop:=∃ J kvs ps dk yk b,H a=some (.dN ps)/\Paired (RKN K H J) kvs ps/\fO dk=some yk/\At K H J dk (.ref b)/\y = .ref b/\ps.length<sizeLine/\H'=upd H a (.dN (kr ps yk b v))
section
variable {X:Cx}{pins:List (Addr×Obj)}{σ:St}{H:Hp}{s:Shared}{a:Addr}{y v:V}{u r:Value}{o:Option V}{A:Around}{E:Value->Shared->Prop}
theorem ur (hu:A.units+150<cLine):(kF X.prog X.w).room A.in1:=by show A.units+1+8<cLine;omega
theorem wN {Q:Value->Shared->Prop}(hu:A.units+150<cLine)(I:Inv X pins σ H s)(g:uO X.K H a y (some v))(ry:RelV y u)(h:∀ w' s',Inv X pins σ H s'->RelV v w'->Q w' s') :
  wpAny (model X.prog X.w) A (getItem (.ref a) u) Q E s:=by
 obtain⟨J,kvs,ps,dk,yk,b,e,rk,gk,mk,ey,l⟩:=g
 subst ey
 cases (show u=Value.ref b from ry)
 obtain⟨z,hd,xs,rel,dd⟩:=vH I e rk
 obtain⟨w',hw,rw'⟩:=RelO.some_of (v:=v) (o:=(atKey xs yk).map (·.2)) (by rw[l];exact xO rel yk)
 obtain⟨p,hp,hp2⟩:=Option.map_eq_some_iff.mp hw
 refine wpAny_getItem_heap (ur hu) (mK I gk mk) dd hp ?_
 rw[hp2]
 exact h w' _ (I.tok _) rw'
theorem Am {Q:Value->Shared->Prop}(hu:A.units+150<cLine)(I:Inv X pins σ H s)(g:uO X.K H a y o)(ry:RelV y u)(h:∀ s',Inv X pins σ H s'->Q (.bool (!o.isSome)) s') :
  wpAny (model X.prog X.w) A (compareOp .NotIn u (.ref a)) Q E s:=by
 obtain⟨J,kvs,ps,dk,yk,b,e,rk,gk,mk,ey,l⟩:=g
 subst ey
 cases (show u=Value.ref b from ry)
 obtain⟨z,hd,xs,rel,dd⟩:=vH I e rk
 refine wpAny_notIn_heap (ur hu) (mK I gk mk) hd dd ?_
 have q:=(xO rel yk).isSome_eq
 rw[Option.isSome_map] at q
 rw[← q,← l]
 exact h _ (I.tok _)
theorem wM {H':Hp}{Q:Unit->Shared->Prop}(hu:A.units+150<cLine)(I:Inv X pins σ H s)(g:DM X.K H a y v H')(ry:RelV y u)(rv:RelV v r)(h:∀ s',Inv X pins σ H' s'->Q () s') :
  wpAny (model X.prog X.w) A (setItem (.ref a) u r) Q E s:=by
 obtain⟨J,kvs,ps,dk,yk,b,e,rk,gk,mk,ey,l,eH⟩:=g
 subst ey eH
 cases (show u=Value.ref b from ry)
 obtain⟨z,hd,xs,rel,dd⟩:=vH I e rk
 have hz:xs.length<=sizeLine:=by rw[← Paired.length rel];exact z
 have hl:(kr ps yk b v).length<=sizeLine:=by have:=wv ps yk b v;omega
 refine wpAny_setItem_heap (hsz:=hz) (ur hu) (mK I gk mk) dd λh' dd' hs=>h _ ?_
 obtain⟨q,es,ep,hq,h2,h3,h4,_,h5⟩:=dd'
 exact qO I (by rw[e];exact True.intro) hs ⟨q,hq⟩ ⟨hl,hd,_,BB rel yk b rv,q,es,ep,hq,h2,h3,h4,h5⟩
theorem yo (I:Inv X pins σ H s)(g:uO X.K H a y o):s.TypeIs (.ref a) "dict":=by
 obtain⟨J,kvs,ps,dk,yk,b,e,rk,gk,mk,ey,l⟩:=g
 obtain⟨_,_,xs,_,dd⟩:=vH I e rk
 exact dd.typeIs
end
section
variable {X:Cx}{o i e value:Expr}{pos pos' tpos:Pos}{td ty tv:TE}
theorem z5 (hu:X.A.units+150<cLine)(ho:PE X o td)(hi:PE X i ty)(hs:xo i):PE X (.Subscript o i pos) (λσ H Q=>td σ H λx H1=>ty σ H1 λy H2 => ∃ a v,x = .ref a/\uO X.K H2 a y (some v)/\Q v H2):=by
 intro pins s σ H Q I h
 refine u3 PySem.F.slot_dict_getitem.lookup hs (thn (ho pins s σ H _ I h) λu s1 ⟨x,H1,I1,rx,q1⟩=>thn (hi pins s1 σ H1 _ I1 q1) λiv s2 ⟨y,H2,I2,ry,a,v,ex,g,q2⟩=>?_)
 subst ex
 obtain rfl:u=Value.ref a:=rx
 exact⟨yo I2 g,wN hu I2 g ry λw' s3 I3 rw'=>⟨v,H2,I3,rw',q2⟩⟩
theorem wE (hu:X.A.units+150<cLine)(hi:PE X i ty)(ho:PE X o td):PC X .NotIn i o (λσ H Q=>ty σ H λy H1=>td σ H1 λx H2 => ∃ a o,x = .ref a/\uO X.K H2 a y o/\Q (.bl (!o.isSome)) H2):=by
 intro pins s σ H Q I h
 refine thn (hi pins s σ H _ I h) λiv s1 ⟨y,H1,I1,ry,q1⟩=>thn (ho pins s1 σ H1 _ I1 q1) λu s2 ⟨x,H2,I2,rx,a,ov,ex,g,q2⟩=>?_
 subst ex
 obtain rfl:u=Value.ref a:=rx
 exact Am hu I2 g ry λs3 I3=>⟨.bl (!ov.isSome),H2,I3,rfl,q2⟩
theorem zS (hu:X.A.units+150<cLine)(ho:PE X o td)(hi:PE X i ty)(hv:PE X value tv)(hs:swapsWith value (some (.Subscript o i pos')) pos.line X.env=pure false) :
  PS X (.Assign [.Subscript o i pos'] value pos) (λD σ H=>tv σ H λv H1=>td σ H1 λx H2=>ty σ H2 λy H3 => ∃ a H4,x = .ref a/\DM X.K H3 a y v H4/\D.nx σ H4):=by
 intro pins s σ H D I h
 refine wpAny_Assign_Subscript (thn (hv pins s σ H _ I h) λr s1 ⟨v,H1,I1,rv,q1⟩=>thn (ho pins s1 σ H1 _ I1 q1) λu s2 ⟨x,H2,I2,rx,q2⟩=>thn (hi pins s2 σ H2 _ I2 q2) λiv s3 ⟨y,H3,I3,ry,a,H4,ex,g,q3⟩=>?_) hs
 subst ex
 obtain rfl:u=Value.ref a:=rx
 exact wM hu I3 g ry rv λs4 I4=>⟨σ,H4,I4,q3⟩
end
def dO:D->Bool
 | .tup _=>true
 |_=>false
section
variable {X:Cx}{W:WT}{pos pos':Pos}{o i e:Expr}{fo fi fv:Rho->Sto->Out D}
def s_:Rho->Sto->Out D:=λ_ S=>okO (.loc S.length) (S++[.dictN []])
theorem pe_dnewN:PE X (.Dict [] [] pos) (λ_ H Q => ∀ p,H p=none->Q (.ref p) (upd H p (.dN []))):=λpins s σ H Q I h =>
 wpAny_Dict_empty ⟨.ref s.heap.objs.size,_,I.laid (a:=s.heap.objs.size) (o:=.dN []) (t':=s.toks) (λ_ _ q=>Heap.get?_push_of_some _ q) (Nat.le_refl _)
  ⟨Nat.zero_le _,beq_eq_false_iff_ne.mpr (Ne.symm (Nat.ne_of_lt I.big)),[],.nil,_,#[],0,Heap.get?_push_size _ rfl,⟨rfl,rfl,rfl⟩,rfl,rfl,List.nodup_nil⟩,rfl,h _ (I.hok.fresh (Nat.le_refl _))⟩
theorem p_:SE X W (.Dict [] [] pos) s_:=pe_dnewN.imp λσ H Q h=>by
 obtain⟨J,ρ,S,r,S',c,_,e,z⟩:=h
 cases e
 intro p hp
 have q:=c.sto.push (o:=.dN []) (mo:=.dictN []) hp ⟨[],upd_same,.nil⟩
 refine z (J++[p]) _ _ q.2 q.1 (At.loc_iff.mpr ⟨p,rfl,?_⟩)
 rw[← c.sto.len,List.getElem?_append_right (Nat.le_refl _)]
 simp
def kt (x k v:D)(ρ:Rho)(S:Sto):Out Fl:=match x with
 | .loc l=>match S[l]?,fO k with
  |some (.dictN kvs),some _=>if kvs.length<sizeLine/\dO k=true then okO (.next ρ) (S.set l (.dictN (putN kvs k v))) else none
  |_,_=>none
 |_=>none
def pE (fo fi fv:Rho->Sto->Out D):Rho->Sto->Out Fl:=λρ S=>ag (fv ρ S) λv S1=>ag (fo ρ S1) λx S2=>ag (fi ρ S2) λk S3=>kt x k v ρ S3
theorem pQ {K:PySem.W.Frag}{H:Hp}{J:List Addr}{d:D}{v:V}(h:dO d=true)(m:At K H J d v):∃ b,v = .ref b:=by
 cases d with
 |tup ds=>obtain⟨b,_,e,_⟩:=At.tup_iff.mp m;exact⟨b,e⟩
 |_=>cases h
theorem pY (hu:X.A.units+150<cLine)(ho:SE X W o fo)(hi:SE X W i fi)(hv:SE X W e fv)(hs:swapsWith e (some (.Subscript o i pos')) pos.line X.env=pure false:=by rfl):SS X W (.Assign [.Subscript o i pos'] e pos) (pE fo fi fv):=
 (zS hu ho hi hv hs).imp λE σ H h=>by
  have h:tH X W [] [] (pE fo fi fv) E σ H:=let ⟨J,ρ,S,r,S',c,e,z⟩:=h;⟨J,ρ,S,r,S',c,.nil,e,z⟩
  refine (tH.bindE h).mono λv H1 ⟨dv,h1⟩=>(tH.bindE h1).mono λx H2 ⟨dx,h2⟩=>(tH.bindE h2).mono λy H3 ⟨dk,h3⟩=>?_
  obtain⟨J,ρ,S,r,S',c,m,e,z⟩:=h3
  obtain⟨mk,m⟩:=m.uncons
  obtain⟨mx,m⟩:=m.uncons
  obtain⟨mv,_⟩:=m.uncons
  unfold kt at e
  cases dx with
  |loc l =>
   simp only at e
   split at e
   ·rename_i kvs yk es ek
    split at e
    ·rename_i lt
     cases e
     obtain⟨a,rfl,ha⟩:=At.loc_iff.mp mx
     obtain⟨ps,eh,rp⟩:=c.sto.at_ l a _ ha es
     obtain⟨b,rfl⟩:=pQ lt.2 mk
     have q:=c.sto.update (o:=.dN (kr ps yk b v)) (mo:=.dictN (putN kvs dk dv)) ha λJ' H' x' eH eJ=>by
      subst eH eJ
      refine⟨_,upd_same,BJ ek (mk.ex x') (mv.ex x') ?_⟩
      exact Paired.mapP rp λp q z=>⟨⟨z.1.1,z.1.2.ex x'⟩,z.2.ex x'⟩
     exact⟨a,_,rfl,⟨J,kvs,ps,dk,yk,b,eh,rp,ek,mk,rfl,by rw[← jM rp];exact lt.1,rfl⟩,z J σ _ q.2 (c.re q.2 q.1)⟩
    ·cases e
   ·cases e
  |_=>cases e
def jN (neg:Bool)(k x:D)(S:Sto):Option D:=match x with
 | .loc l=>match S[l]?,fO k with
  |some (.dictN kvs),some _=>if dO k=true then some (.bl (if neg then !(js kvs k).isSome else (js kvs k).isSome)) else none
  |_,_=>none
 |_=>none
def xi (neg:Bool)(fk fd:Rho->Sto->Out D):Rho->Sto->Out D:=λρ S=>ag (fk ρ S) λk S1=>ag (fd ρ S1) λx S2=>aL (jN neg k x S2) S2
theorem ym {neg:Bool}{σ:St}{H:Hp}{Q:VK}(h:tE X W (xi neg fi fo) σ H Q):tE X W fi σ H λy H1=>tE X W fo σ H1 λx H2 => ∃ a o,x = .ref a/\uO X.K H2 a y o/\Q (.bl (if neg then !o.isSome else o.isSome)) H2:=
 (tG.bindE h).mono λy H1 ⟨dk,h1⟩=>(tG.bindE h1).mono λx H2 ⟨dx,h2⟩=>by
  obtain⟨J,ρ,S,r,S',c,m,e,z⟩:=h2
  obtain⟨mx,m⟩:=m.uncons
  obtain⟨mk,_⟩:=m.uncons
  unfold jN at e
  cases dx with
  |loc l =>
   simp only at e
   split at e
   ·rename_i kvs yk es ek
    split at e
    ·rename_i ht
     cases e
     obtain⟨a,rfl,ha⟩:=At.loc_iff.mp mx
     obtain⟨ps,eh,rp⟩:=c.sto.at_ l a _ ha es
     obtain⟨b,rfl⟩:=pQ ht mk
     refine⟨a,_,rfl,⟨J,kvs,ps,dk,yk,b,eh,rp,ek,mk,rfl,rfl⟩,?_⟩
     have q:=z J H2 _ Ex.refl c.sto (At.bl_iff.mpr rfl)
     rcases yK ek rp with ⟨g1,g2⟩ |⟨d,v,g1,g2,_⟩
     ·rw[g1] at q;rw[g2];exact q
     ·rw[g1] at q;rw[g2];exact q
    ·cases e
   ·cases e
  |_=>cases e
theorem kR (hu:X.A.units+150<cLine)(hi:SE X W i fi)(ho:SE X W o fo)(hm:behindInMarks .NotIn o=false:=by with_unfolding_all rfl):TS1 X W (.Compare i [.NotIn] [o] pos) (bf (xi true fi fo)):=
 (ul (wE hu hi ho) hm).imp λσ H Q h=>tTest.mono (t:=λσ H Q=>tE X W fi σ H λy H1=>tE X W fo σ H1 λx H2 => ∃ a o,x = .ref a/\uO X.K H2 a y o/\Q (.bl (!o.isSome)) H2) (λ_ _ _=>ym (neg:=true)) (iB h)
def fF (x k:D)(S:Sto):Option D:=match x with
 | .loc l=>match S[l]?,fO k with
  |some (.dictN kvs),some _=>if dO k=true then js kvs k else none
  |_,_=>none
 |_=>none
def tj (fd fk:Rho->Sto->Out D):Rho->Sto->Out D:=λρ S=>ag (fd ρ S) λx S1=>ag (fk ρ S1) λk S2=>aL (fF x k S2) S2
theorem p9 (hu:X.A.units+150<cLine)(ho:SE X W o fo)(hi:SE X W i fi)(hs:xo i:=by exact λ_ _=>rfl):SE X W (.Subscript o i pos) (tj fo fi):=(z5 hu ho hi hs).imp λσ H Q h =>
 (tG.bindE h).mono λx H1 ⟨dx,h1⟩=>(tG.bindE h1).mono λy H2 ⟨dk,h2⟩=>by
  obtain⟨J,ρ,S,r,S',c,m,e,z⟩:=h2
  obtain⟨mk,m⟩:=m.uncons
  obtain⟨mx,_⟩:=m.uncons
  unfold fF at e
  cases dx with
  |loc l =>
   simp only at e
   split at e
   ·rename_i kvs yk es ek
    split at e
    ·rename_i ht
     obtain⟨a,rfl,ha⟩:=At.loc_iff.mp mx
     obtain⟨ps,eh,rp⟩:=c.sto.at_ l a _ ha es
     obtain⟨b,rfl⟩:=pQ ht mk
     rcases yK ek rp with ⟨g1,g2⟩ |⟨d,v,g1,g2,av⟩
     ·rw[g1] at e;cases e
     ·rw[g1] at e
      cases e
      exact⟨a,v,rfl,⟨J,kvs,ps,dk,yk,b,eh,rp,ek,mk,rfl,g2.symm⟩,z J H2 _ Ex.refl c.sto av⟩
    ·cases e
   ·cases e
  |_=>cases e
end
def jD (K:PySem.W.Frag)(c f:Str):Prop:=∃ C,PySem.W.nsIn K mainGlobals c=some (some (.ref C))/\Cls K C/\NoAttr K C f
def MethAt (K:PySem.W.Frag)(c m qual:Str)(st:Stmt)(ps:List Str):Prop:=∃ C f fd,PySem.W.nsIn K mainGlobals c=some (some (.ref C))/\Cls K C/\Meth K C m f/\Fun K m qual st f fd/\Binds K fd ps []
def AS (K:PySem.W.Frag)(mg:Str->Option Value)(c qual:Str)(st:Stmt)(ps:List Str):Prop:=∃ C f fd,PySem.W.nsIn K mainGlobals c=some (some (.ref C))/\mg c=some (.ref C)/\Mk K C f/\Fun K "__init__" qual st f fd/\Binds K fd ps []
def jx (f:Str)(v:D):List (Str×D)->List (Str×D)
 |[]=>[(f,v)]
 |(k,x)::r=>if k=f then (k,v)::r else (k,x)::jx f v r
section
variable {K:PySem.W.Frag}{H H':Hp}{J J':List Addr}
theorem vC {fs:List (Str×D)}{vs:List (Str×V)}(r:Paired (RFs K H J) fs vs)(f:Str):(fs.lookup f=none/\vs.lookup f=none)∨∃ d v,fs.lookup f=some d/\vs.lookup f=some v/\At K H J d v:=by
 induction r with
 |nil=>exact .inl ⟨rfl,rfl⟩
 | @cons p q l1 l2 h t ih =>
  obtain⟨p1,p2⟩:=p
  obtain⟨q1,q2⟩:=q
  have e1:p1=q1:=h.1
  subst e1
  by_cases e:f=p1
  ·have hb:(f==p1)=true:=beq_iff_eq.mpr e
   refine .inr ⟨p2,q2,?_,?_,h.2⟩<;>simp only[List.lookup,hb]
  ·have hb:(f==p1)=false:=beq_eq_false_iff_ne.mpr e
   simp only[List.lookup,hb]
   exact ih
theorem Co {fs:List (Str×D)}{vs:List (Str×V)}(r:Paired (RFs K H J) fs vs)(f:Str){d:D}{v:V}(a:At K H J d v):Paired (RFs K H J) (jx f d fs) (gh f v vs):=by
 induction r with
 |nil=>exact .cons ⟨rfl,a⟩ .nil
 | @cons p q l1 l2 h t ih =>
  obtain⟨p1,p2⟩:=p
  obtain⟨q1,q2⟩:=q
  have e1:p1=q1:=h.1
  subst e1
  rw[show jx f d ((p1,p2)::l1)=(if p1=f then (p1,d)::l1 else (p1,p2)::jx f d l1) from rfl,show gh f v ((p1,q2)::l2)=(if p1=f then (p1,v)::l2 else (p1,q2)::gh f v l2) from rfl]
  by_cases e:p1=f
  ·rw[if_pos e,if_pos e];exact .cons ⟨rfl,a⟩ t
  ·rw[if_neg e,if_neg e];exact .cons h ih
theorem Ats.split:∀ {es ds:List D}{us vs:List V},es.length=us.length->Ats K H J (es++ds) (us++vs)->Ats K H J es us/\Ats K H J ds vs
 |[],_,[],_,_,h=>⟨.nil,h⟩
 |e::es,ds,u::us,vs,hl,h=>by
  obtain⟨h1,h2⟩:=Ats.uncons (d:=e) (v:=u) (ds:=es++ds) (vs:=us++vs) h
  obtain⟨h3,h4⟩:=Ats.split (es:=es) (us:=us) (by simpa using hl) h2
  exact⟨.cons h1 h3,h4⟩
 |[],_,_::_,_,hl,_=>by simp at hl
 |_::_,_,[],_,hl,_=>by simp at hl
end
def qB (c:Str)(d:D)(S:Sto):Option (List (Str×D)):=match d with
 | .loc l=>(match S[l]? with
  |some (.ins c' fs)=>if c'=c then some fs else none
  |_=>none)
 |_=>none
theorem vx {c:Str}{d:D}{S:Sto}{fs:List (Str×D)}(h:qB c d S=some fs):∃ l,d = .loc l/\S[l]?=some (.ins c fs):=by
 unfold qB at h
 split at h
 ·rename_i l
  split at h
  ·rename_i c' fs' e
   split at h
   ·rename_i ec;cases h;subst ec;exact⟨l,rfl,e⟩
   ·cases h
  ·cases h
 ·cases h
section
variable {X:Cx}{W:WT}{pos pos' apos p:Pos}{o e value:Expr}{es:List Expr}{fo fv:Rho->Sto->Out D}{gs:Rho->Sto->Out (List D)}{c f m x:Str}
def gi (c f:Str)(d:D)(S:Sto):Option D:=(qB c d S).bind λfs=>fs.lookup f
def dS (c f:Str)(fo:Rho->Sto->Out D):Rho->Sto->Out D:=λρ S=>ag (fo ρ S) λd S1=>aL (gi c f d S1) S1
theorem bz (T:jD X.K c f)(ho:SE X W o fo)(hb:attributeBase o f X.env (eval o X.env)=eval o X.env:=by rfl):SE X W (.Attribute o f pos) (dS c f fo):=
 (BW ho hb).imp λσ H Q h=>(tG.bindE h).mono λx H1 ⟨dx,h1⟩=>by
  obtain⟨J,ρ,S,r,S',cf,mm,ee,z⟩:=h1
  try dsimp only at ee
  obtain⟨mx,_⟩:=mm.uncons
  cases q:gi c f dx S with
  |none=>rw[q] at ee;cases ee
  |some d =>
   rw[q] at ee
   cases ee
   obtain⟨fs,h1,h2⟩:=Option.bind_eq_some_iff.mp q
   obtain⟨l,rfl,es⟩:=vx h1
   obtain⟨a,rfl,ha⟩:=At.loc_iff.mp mx
   obtain⟨C,dx,vs,n,eh,rp⟩:=cf.sto.at_ l a _ ha es
   obtain⟨C',n',cl,na⟩:=T
   rw[n] at n'
   cases n'
   rcases vC rp f with ⟨g1,_⟩ |⟨d',v,g1,g2,av⟩
   ·rw[g1] at h2;cases h2
   ·rw[g1] at h2
    cases h2
    exact⟨a,C,dx,vs,v,rfl,eh,cl,na,g2,z J H1 v Ex.refl cf.sto av⟩
def j_ (c f:Str)(d v:D)(ρ:Rho)(S:Sto):Out Fl:=match d with
 | .loc l=>(match S[l]? with
  |some (.ins c' fs)=>if c'=c/\fs.length<1000 then okO (.next ρ) (S.set l (.ins c (jx f v fs))) else none
  |_=>none)
 |_=>none
theorem xI {T:jD X.K c f}{σ:St}{H:Hp}{J:List Addr}{ρ:Rho}{S S':Sto}{r:Except Str Fl}{E:Ends}{d dv:D}{x y:V}(cf:Cf X J ρ S σ H)(mx:At X.K H J d x)(my:At X.K H J dv y)
  (ee:j_ c f d dv ρ S=some (r,S')) (z:EndS X W J H r S' E):∃ a C dx fs,x = .ref a/\H a=some (.ins C dx fs)/\Cls X.K C/\NoAttr X.K C f/\fs.length<1000/\E.nx σ (upd H a (.ins C dx (gh f y fs))):=by
 unfold j_ at ee
 split at ee
 ·rename_i l
  split at ee
  ·rename_i c' fs es
   split at ee
   ·rename_i hc
    obtain⟨ec,hl⟩:=hc
    subst ec
    cases ee
    obtain⟨a,rfl,ha⟩:=At.loc_iff.mp mx
    obtain⟨C,dx,vs,n,eh,rp⟩:=cf.sto.at_ l a _ ha es
    obtain⟨C',n',cl,na⟩:=T
    rw[n] at n'
    cases n'
    have q:=cf.sto.update (o:=.ins C dx (gh f y vs)) (mo:=.ins c' (jx f dv fs)) ha λJ' H' x' eH eJ=>by
     subst eH eJ
     refine⟨C,dx,_,n,upd_same,Co (Paired.mapP rp λp q z=>⟨z.1,z.2.ex x'⟩) f (my.ex x')⟩
    exact⟨a,C,dx,vs,rfl,eh,cl,na,by rw[← jM rp];exact hl,z J σ _ q.2 (cf.re q.2 q.1)⟩
   ·cases ee
  ·cases ee
 ·cases ee
def jC (c f:Str)(fo fv:Rho->Sto->Out D):Rho->Sto->Out Fl:=λρ S=>ag (fv ρ S) λv S1=>ag (fo ρ S1) λd S2=>j_ c f d v ρ S2
theorem jG (T:jD X.K c f)(ho:SE X W o fo)(hv:SE X W value fv)(hs:swapsWith value (some (.Attribute o f pos')) pos.line X.env=pure false:=by rfl):SS X W (.Assign [.Attribute o f pos'] value pos) (jC c f fo fv):=
 (BQ ho hv hs).imp λE σ H h=>by
  have h:tH X W [] [] (jC c f fo fv) E σ H:=let ⟨J,ρ,S,r,S',c,e,z⟩:=h;⟨J,ρ,S,r,S',c,.nil,e,z⟩
  refine (tH.bindE h).mono λy H1 ⟨dv,h1⟩=>(tH.bindE h1).mono λx H2 ⟨d,h2⟩=>?_
  obtain⟨J,ρ,S,r,S',cf,mm,ee,z⟩:=h2
  try dsimp only at ee
  obtain⟨mx,mm⟩:=mm.uncons
  obtain⟨my,_⟩:=mm.uncons
  exact xI (T:=T) cf mx my ee z
def DJ (c f:Str)(d v y:D)(ρ:Rho)(S:Sto):Out Fl:=match v,y with
 | .int i,.int j=>j_ c f d (.int (i+j)) ρ S
 |_,_=>none
def DH (c f:Str)(fo fv:Rho->Sto->Out D):Rho->Sto->Out Fl:=λρ S=>ag (fo ρ S) λd S1=>ag (aL (gi c f d S1) S1) λv S2=>ag (fv ρ S2) λy S3=>DJ c f d v y ρ S3
def jZ (P:Program)(w:World)(K:PySem.W.Frag)(mg:Str->Option Value)(base:Heap)(k:Nat)(c m:Str)(ps:List Str)(F:List D->Sto->Out D):Prop:=
 ∃ C f fd,PySem.W.nsIn K mainGlobals c=some (some (.ref C))/\Cls K C/\Meth K C m f/\FnD P w K mg base k f fd ps F/\Binds K fd ps []
def AT (P:Program)(w:World)(K:PySem.W.Frag)(mg:Str->Option Value)(base:Heap)(k:Nat)(c:Str)(ps:List Str)(F:List D->Sto->Out D):Prop:=
 ∃ C f fd,PySem.W.nsIn K mainGlobals c=some (some (.ref C))/\mg c=some (.ref C)/\Mk K C f/\FnD P w K mg base k f fd ps F/\Binds K fd ps []
def om (c m:Str)(d:D)(S:Sto):Option D:=(qB c d S).bind λfs=>if fs.lookup m=none then some .non else none
def bM (c m:Str)(F:List D->Sto->Out D)(fo:Rho->Sto->Out D)(gs:Rho->Sto->Out (List D)):Rho->Sto->Out D:=λρ S=>ag (fo ρ S) λd S1=>ag (aL (om c m d S1) S1) λ_ S2=>ag (gs ρ S2) λds S3=>gI (F (d::ds) S3)
def Cw (c m:Str)(F:List D->Sto->Out D)(fo:Rho->Sto->Out D)(gs:Rho->Sto->Out (List D)):Rho->Sto->Out D:=λρ S=>ag (fo ρ S) λd S1=>ag (aL (om c m d S1) S1) λ_ S2=>ag (gs ρ S2) λds S3=>F (d::ds) S3
theorem yt {C:Addr}(n:PySem.W.nsIn X.K mainGlobals c=some (some (.ref C))){k:Rho->Sto->Out D}{d:D}{x:V}{σ:St}{H:Hp}{Q:VK}(h:tG X W (RD X) [d] [x] (λρ S1=>ag (aL (om c m d S1) S1) λ_ S2=>k ρ S2) σ H Q) :
  ∃ a dx fs,x = .ref a/\H a=some (.ins C dx fs)/\fs.lookup m=none/\tG X W (RD X) [d] [x] k σ H Q:=by
 obtain⟨J,ρ,S,r,S',cf,mm,ee,z⟩:=h
 try dsimp only at ee
 obtain⟨mx,m0⟩:=mm.uncons
 cases q:om c m d S with
 |none=>rw[q] at ee;cases ee
 |some d0 =>
  rw[q,cy,bJ] at ee
  obtain⟨fs,h1,h2⟩:=Option.bind_eq_some_iff.mp q
  obtain⟨l,rfl,es⟩:=vx h1
  have mx0:=mx
  obtain⟨a,rfl,ha⟩:=At.loc_iff.mp mx
  obtain⟨C',dx,vs,n',eh,rp⟩:=cf.sto.at_ l a _ ha es
  rw[n] at n'
  cases n'
  split at h2
  ·rename_i hn
   rcases vC rp m with ⟨_,g2⟩ |⟨d',v,g1,_⟩
   ·exact⟨a,dx,vs,rfl,eh,g2,J,ρ,S,r,S',cf,.cons mx0 .nil,ee,z⟩
   ·rw[hn] at g1;cases g1
  ·cases h2
theorem aR {k:Nat}{ps:List Str}{F:List D->Sto->Out D}{pl:Sem Bool}(G:jZ X.prog X.w X.K X.mg X.base k c m ps F)(hr:Room k X.A)(ho:SE X W o fo)(ha:SA X W (e::es) gs)
  (hst:starEach (e::es) X.env=(false,eval e X.env)::starEach es X.env:=by rfl) (hpl:(backTo pos (starEach es X.env)).any (·.1)=false:=by rfl)
  (ht:eval (.Call (.Attribute o m apos) (e::es) [] pos) X.env=(do
   let ov ← eval o X.env
   standAt apos.atName
   let (f,first) ← holding [ov] (getMethod ov m pl)
   callWith pos f first (backTo pos (starEach (e::es) X.env)) (backToKw pos (keywordEach [] X.env))):=by rfl) :
  SE X W (.Call (.Attribute o m apos) (e::es) [] pos) (bM c m F fo gs):=by
 obtain⟨C,f,fd,n,cl,mt,fn,hb⟩:=G
 refine PE.imp (z6 (E:=E0) ho cl mt fn hr hb .nil vf ha hst hpl ht) λσ H Q h=>(tG.bindE h).mono λx H1 ⟨d,h1⟩=>?_
 obtain⟨a,dx,fs,e1,e2,e3,h2⟩:=yt n h1
 refine⟨a,dx,fs,e1,e2,e3,(tG.bindA h2).mono λus H2 ⟨ds,hl,h3⟩=>?_⟩
 obtain⟨J,ρ,S,r,S',cf,mm,ee,z⟩:=h3
 try dsimp only at ee
 obtain⟨m1,m2⟩:=Ats.split hl mm
 obtain⟨m3,_⟩:=m2.uncons
 have ee:gI (F (d::ds) S)=some (r,S'):=ee
 unfold gI at ee
 split at ee
 ·rename_i d2 S2 q
  cases ee
  exact⟨J,S,d::ds,d2,_,.cons m3 (by rw[List.append_nil];exact m1),cf.sto,q,λJ' H' v x' s' m'=>z J' H' v x' s' m'⟩
 ·cases ee
def iT (c:Str)(F:List D->Sto->Out D)(gs:Rho->Sto->Out (List D)):Rho->Sto->Out D:=λρ S=>ag (gs ρ S) λds S1=>(match F (.loc S1.length::ds) (S1++[.ins c []]) with
 |some (.ok .non,S2)=>okO (.loc S1.length) S2
 |_=>none)
theorem mG {k:Nat}{ps:List Str}{F:List D->Sto->Out D}(G:AT X.prog X.w X.K X.mg X.base k c ps F)(hr:Room (k+1) X.A)(ha:SA X W (e::es) gs)(hg:Gl X c:=by rfl)
  (hdb:(c==("__debug__":Str))=false:=by decide) (he:starEach (e::es) X.env=(false,eval e X.env)::starEach es X.env:=by rfl) (hpl:(backTo pos (starEach es X.env)).any (·.1)=false:=by rfl) :
  SE X W (.Call (.Name c p) (e::es) [] pos) (iT c F gs):=by
 obtain⟨C,f,fd,n,hm,mk,fn,hb⟩:=G
 refine PE.imp (z7 (E:=E0) mk fn hr hg hm hb .nil vf ha hdb he hpl) λσ H Q h=>(tG.bindA h).mono λus H1 ⟨ds,hl,h1⟩=>?_
 rw[List.append_nil,List.append_nil] at h1
 obtain⟨J,ρ,S,r,S',cf,mm,ee,z⟩:=h1
 try dsimp only at ee
 intro x dx hx hdx ne
 have hx':(upd H1 dx (.own x)) x=none:=by rw[aF (Ne.symm ne)];exact hx
 have s1:=cf.sto.same (aS hdx (.own x))
 have x1:Ex J H1 J (upd H1 dx (.own x)):=Ex.same (aS hdx _)
 have q:=s1.push (o:=.ins C dx []) (mo:=.ins c []) hx' ⟨C,dx,[],n,upd_same,.nil⟩
 have x2:=x1.trans q.2
 have hloc:(J++[x])[S.length]?=some x:=by
  rw[← cf.sto.len,List.getElem?_append_right (Nat.le_refl _)];simp
 have ee:(match F (.loc S.length::ds) (S++[.ins c []]) with
  |some (.ok .non,S2)=>okO (.loc S.length) S2
  |_=>none)=some (r,S'):=ee
 split at ee
 ·rename_i S2 hF
  cases ee
  refine⟨J++[x],_,.loc S.length::ds,.non,_,.cons (At.loc_iff.mpr ⟨x,rfl,hloc⟩) (by rw[List.append_nil];exact mm.ex x2),q.1,hF,λJ' H' v x' s' m'=>⟨At.non_iff.mp m',?_⟩⟩
  exact z J' H' (.ref x) (x2.trans x') s' (At.loc_iff.mpr ⟨x,rfl,vd x'.pre hloc⟩)
 ·cases ee
end
section
variable {P:Program}{w:World}{K:PySem.W.Frag}{mg:Str->Option Value}{base:Heap}
theorem l7 {x qual:Str}{st:Stmt}{sc:Scope}{N ps:List Str}{k:Nat}{G:Rho->Sto->Out Fl}{f:Addr}{fd:FuncData}(Fn:Fun K x qual st f fd)(hsc:aj st=sc)(Sc:FnScope N ps sc)
  (h:∀ (f:Addr) (cdv:Value) (A:Around) (outer:List Env) (s:Shared) (H:Hp) (E:XK),Room k (A.deeper (envOfC qual sc s.heap.objs.size f cdv))->SSs (lq CX0 P w K mg base N qual sc f cdv A outer s H E).nox W0 (bL st) G) :
  FnD P w K mg base (k+1) f fd ps (aZ ps.length (N.length-ps.length) G):=by
 subst hsc
 refine vE Fn Sc (λds S r e=>?_) λcdv A outer s H E hr=>⟨G,h f cdv A outer s H E hr,λds S d S' e=>?_⟩
 ·unfold aZ at e
  split at e
  ·assumption
  ·cases e
 ·unfold aZ at e
  split at e
  ·rename_i hl
   rw[hl]
   split at e
   ·rename_i d0 S0 q
    cases e
    exact⟨_,q,.inl rfl⟩
   ·rename_i ρ0 S0 q
    cases e
    exact⟨_,q,.inr ⟨rfl,ρ0,rfl⟩⟩
   ·cases e
  ·cases e
theorem dZ {c m qual:Str}{st:Stmt}{sc:Scope}{N ps:List Str}{k:Nat}{G:Rho->Sto->Out Fl}(Dd:MethAt K c m qual st ps)(hsc:aj st=sc)(Sc:FnScope N ps sc)
  (h:∀ (f:Addr) (cdv:Value) (A:Around) (outer:List Env) (s:Shared) (H:Hp) (E:XK),Room k (A.deeper (envOfC qual sc s.heap.objs.size f cdv))->SSs (lq CX0 P w K mg base N qual sc f cdv A outer s H E).nox W0 (bL st) G) :
  jZ P w K mg base (k+1) c m ps (aZ ps.length (N.length-ps.length) G):=by
 obtain⟨C,f,fd,n,cl,mt,Fn,hb⟩:=Dd
 exact⟨C,f,fd,n,cl,mt,l7 Fn hsc Sc h,hb⟩
theorem vM {c qual:Str}{st:Stmt}{sc:Scope}{N ps:List Str}{k:Nat}{G:Rho->Sto->Out Fl}(Dd:AS K mg c qual st ps)(hsc:aj st=sc)(Sc:FnScope N ps sc)
  (h:∀ (f:Addr) (cdv:Value) (A:Around) (outer:List Env) (s:Shared) (H:Hp) (E:XK),Room k (A.deeper (envOfC qual sc s.heap.objs.size f cdv))->SSs (lq CX0 P w K mg base N qual sc f cdv A outer s H E).nox W0 (bL st) G) :
  AT P w K mg base (k+1) c ps (aZ ps.length (N.length-ps.length) G):=by
 obtain⟨C,f,fd,n,hm,mt,Fn,hb⟩:=Dd
 exact⟨C,f,fd,n,hm,mt,l7 Fn hsc Sc h,hb⟩
theorem pD {c m qual:Str}{st:Stmt}{ps:List Str}{k:Nat}(Dd:MethAt K c m qual st ps):jZ P w K mg base k c m ps (λ_ _=>none):=by
 obtain⟨C,f,fd,n,cl,mt,Fn,hb⟩:=Dd
 have no:∀ vs H Q E,¬ spD K (λ_ _=>none) vs H Q E:=λvs H Q E h=>by
  obtain⟨J,S,ds,d,S',_,_,e,_⟩:=h
  cases e
 exact⟨C,f,fd,n,cl,mt,⟨λvs H Q E h=>absurd h (no vs H Q E),λA outer s H args us vs Q E _ _ _ _ h=>absurd h (no vs H Q E)⟩,hb⟩
end
def dH (d:D)(S:Sto):Option (List D):=match d with
 | .loc l=>(match S[l]? with
  |some (.lst xs)=>some xs
  |_=>none)
 |_=>none
theorem As {d:D}{S:Sto}{xs:List D}(h:dH d S=some xs):∃ l,d = .loc l/\S[l]?=some (.lst xs):=by
 unfold dH at h
 split at h
 ·rename_i l
  split at h
  ·rename_i xs' e;cases h;exact⟨l,rfl,e⟩
  ·cases h
 ·cases h
section
variable {X:Cx}{W:WT}{pos cpos apos p:Pos}{o e a b:Expr}{fo fe fa fb:Rho->Sto->Out D}{x:Str}
theorem ux {J:List Addr}{S:Sto}{H:Hp}{d:D}{v:V}{xs:List D}(so:StoOk X.K J S H)(m:At X.K H J d v)(h:dH d S=some xs):∃ l q us,d = .loc l/\v = .ref q/\J[l]?=some q/\S[l]?=some (.lst xs)/\H q=some (.lst us)/\Ats X.K H J xs us:=by
 obtain⟨l,rfl,es⟩:=As h
 obtain⟨q,rfl,hq⟩:=At.loc_iff.mp m
 obtain⟨us,eh,mu⟩:=so.at_ l q _ hq es
 exact⟨l,q,us,rfl,rfl,hq,es,eh,mu⟩
def tf:Rho->Sto->Out D:=λ_ S=>okO (.loc S.length) (S++[.lst []])
theorem u6:SE X W (.List [] pos) tf:=(xZ pa_nil).imp λσ H Q h=>by
 obtain⟨J,ρ,S,r,S',c,_,e,z⟩:=h
 try dsimp only at e
 cases e
 show pV σ H _
 refine⟨Nat.zero_le _,λp hp=>?_⟩
 have q:=c.sto.push (o:=.lst []) (mo:=.lst []) hp ⟨[],upd_same,.nil⟩
 refine z (J++[p]) _ _ q.2 q.1 (At.loc_iff.mpr ⟨p,rfl,?_⟩)
 rw[← c.sto.len,List.getElem?_append_right (Nat.le_refl _)]
 simp
def qZ (d v:D)(S:Sto):Out D:=match d with
 | .loc l=>(match S[l]? with
  |some (.lst xs)=>if xs.length<sizeLine then okO .non (S.set l (.lst (xs++[v]))) else none
  |_=>none)
 |_=>none
def AK (fo fe:Rho->Sto->Out D):Rho->Sto->Out D:=λρ S=>ag (fo ρ S) λd S1=>ag (aL (dH d S1) S1) λ_ S2=>ag (fe ρ S2) λv S3=>qZ d v S3
theorem xM {name:Str}(hn:name="append")(ho:SE X W o fo)(ha:SE X W a fe)(hbase:attributeBase o name X.env (eval o X.env)=eval o X.env:=by rfl)
  (hfew:((backTo cpos (starEach [a] X.env)).all (λx => !x.1)&&(backToKw cpos (keywordEach [] X.env)).all (λx=>x.1.isSome)
   && decide ([a].length+([]:List Keyword).length+(if ([]:List Keyword).isEmpty then 0 else 1)<30))=true:=by rfl)
  (hline:(apos.endLine==cpos.line)=true:=by rfl) (hs:starEach [a] X.env=(false,eval a X.env)::starEach [] X.env:=by rfl) (hplain:(backTo cpos (starEach [] X.env)).any (·.1)=false:=by rfl) :
  SE X W (.Call (.Attribute o name apos) [a] [] cpos) (AK fo fe):=by
 subst hn
 refine PE.imp (A4 F.plainAttrs_list F.slot_list_append F.type_list_append wP ho (fR ha pa_nil hs) hbase hfew hline hs hplain) λσ H Q h=>(tG.bindE h).mono λx H1 ⟨d,h1⟩=>?_
 obtain⟨J,ρ,S,r,S',c,m,ee,z⟩:=h1
 try dsimp only at ee
 obtain⟨mx,_⟩:=m.uncons
 cases q:dH d S with
 |none=>rw[q] at ee;cases ee
 |some xs =>
  rw[q,cy,bJ] at ee
  obtain⟨l,pa,us,rfl,rfl,hq,es,eh,mu⟩:=ux c.sto mx q
  refine⟨.inl ⟨rfl,us,.inl (.inl eh)⟩,?_⟩
  have h2:tG X W (RD X) [.loc l] [.ref pa] (λρ S2=>ag (fe ρ S2) λv S3=>qZ (.loc l) v S3) σ H1 Q:=⟨J,ρ,S,r,S',c,.cons mx .nil,ee,z⟩
  refine (tG.bindE h2).mono λy H2 ⟨dy,h3⟩=>?_
  show pV _ _ _
  obtain⟨J2,ρ2,S2,r2,S2',c2,m2,e2,z2⟩:=h3
  try dsimp only at e2
  obtain⟨my,m2⟩:=m2.uncons
  obtain⟨mx2,_⟩:=m2.uncons
  have e2:qZ (.loc l) dy S2=some (r2,S2'):=e2
  unfold qZ at e2
  simp only at e2
  split at e2
  ·rename_i xs2 es2
   split at e2
   ·rename_i lt
    cases e2
    obtain⟨q2,e3,hq2⟩:=At.loc_iff.mp mx2
    cases e3
    obtain⟨us2,eh2,mu2⟩:=c2.sto.at_ l pa _ hq2 es2
    have up:=c2.sto.update (o:=.lst (us2++[y])) (mo:=.lst (xs2++[dy])) hq2 λJ' H' x' eH eJ=>by
     subst eH eJ
     exact⟨_,upd_same,(mu2.ex x').append (.cons (my.ex x') .nil)⟩
    exact⟨pa,us2,y,rfl,rfl,eh2,by rw[← mu2.length];exact lt,z2 J2 _ _ up.2 up.1 (At.non_iff.mpr rfl)⟩
   ·cases e2
  ·cases e2
def oj (x i:D)(S:Sto):Option D:=match i with
 | .int k=>(dH x S).bind λxs=>atI xs k
 |_=>none
def tu (fa fb:Rho->Sto->Out D):Rho->Sto->Out D:=λρ S=>ag (fa ρ S) λx S1=>ag (fb ρ S1) λi S2=>aL (oj x i S2) S2
theorem jI (ha:SE X W a fa)(hb:SE X W b fb)(hs:mO b:=by exact λ_ _=>rfl):SE X W (.Subscript a b pos) (tu fa fb):=
 (A3 vt ha hb hs).imp λσ H Q h=>(tG.bindE h).mono λv H1 ⟨d,h1⟩=>(tG.bindE h1).mono λv2 H2 ⟨d2,h2⟩=>by
  obtain⟨J,ρ,S,r,S',c,m,e,z⟩:=h2
  try dsimp only at e
  obtain⟨mi,m⟩:=m.uncons
  obtain⟨mx,_⟩:=m.uncons
  cases q:oj d d2 S with
  |none=>rw[q] at e;cases e
  |some dr =>
   rw[q] at e
   cases e
   unfold oj at q
   split at q
   ·rename_i k
    obtain⟨xs,h1,h2⟩:=Option.bind_eq_some_iff.mp q
    obtain⟨l,pa,us,rfl,rfl,hq,es,eh,mu⟩:=ux c.sto mx h1
    cases At.int_iff.mp mi
    obtain⟨w,e1,a1⟩:=uL mu h2
    exact⟨pa,us,k,w,rfl,rfl,.inl (.inl eh),e1,z J H2 w Ex.refl c.sto a1⟩
   ·cases q
def xj (fa fb:Rho->Sto->Out D):Rho->Sto->Out D:=λρ S=>ag (fa ρ S) λx S1=>ag (fb ρ S1) λi S2=>aL (if cg x=true then oj x i S2 else ixD x i) S2
theorem u7 (ha:SE X W a fa)(hb:SE X W b fb)(hs:mO b:=by exact λ_ _=>rfl):SE X W (.Subscript a b pos) (xj fa fb):=
 SE.either (jI ha hb hs) (AY ixd ha hb hs) λρ S=>cM _ λx S1=>by
  by_cases h:cg x=true
  ·refine .inl (congrArg (ag (fb ρ S1)) (funext λi=>funext λS2=>?_));rw[if_pos h]
  ·refine .inr (congrArg (ag (fb ρ S1)) (funext λi=>funext λS2=>?_));rw[if_neg h]
def y7 (fe:Rho->Sto->Out D):Rho->Sto->Out D:=λρ S=>ag (fe ρ S) λd S1=>aL ((dH d S1).map λxs => .int xs.length) S1
theorem zL (hm:X.mg x=none)(ha:SE X W e fe)(hx:x="len":=by rfl)(hg:Gl X x:=by rfl)(he:starEach [e] X.env=(false,eval e X.env)::starEach [] X.env:=by rfl)(hpl:(backTo pos (starEach [] X.env)).any (·.1)=false:=by rfl) :
  SE X W (.Call (.Name x p) [e] [] pos) (y7 fe):=by
 subst hx
 refine PE.imp (ku g_ hg hm hV (fR ha pa_nil he) (by decide) (by decide) he hpl) λσ H Q h=>?_
 refine (tG.bindE h).mono λv H1 ⟨d,h1⟩=>?_
 obtain⟨J,ρ,S,r,S',c,m,eq,z⟩:=h1
 try dsimp only at eq
 obtain⟨mx,_⟩:=m.uncons
 show pV _ _ _
 cases q:dH d S with
 |none=>rw[q] at eq;cases eq
 |some xs =>
  rw[q] at eq
  cases eq
  obtain⟨l,pa,us,rfl,rfl,hq,es,eh,mu⟩:=ux c.sto mx q
  refine⟨pa,us,rfl,.inl (.inl (.inl eh)),?_⟩
  rw[← mu.length]
  exact z J H1 _ Ex.refl c.sto (At.int_iff.mpr rfl)
def AE (fe:Rho->Sto->Out D):Rho->Sto->Out D:=λρ S=>ag (fe ρ S) λd S1=>aL ((dH d S1).bind λxs=>if xs.length<=sizeLine then some (.tup xs) else none) S1
end
theorem ints_get:∀ {vs:List Value}{ns:List Int}(i:Nat) {n:Int},IntsAre vs ns->ns[i]?=some n->∃ t,vs[i]?=some (.int n t)
 |_,_,_,_,.nil,e=>by simp at e
 |_,_,0,_,.cons n t r,e=>by simp at e;subst e;exact⟨t,rfl⟩
 |_,_,i+1,_,.cons n t r,e=>by
  obtain⟨t',h⟩:=ints_get i r (by simpa using e)
  exact⟨t',by simpa using h⟩
theorem sF:∀ {vs:List Value}{ns:List Int},IntsAre vs ns->vs.length=ns.length
 |_,_,.nil=>rfl
 |_,_,.cons n t r=>by simp[sF r]
theorem oU {k:Int}:∀ {ns:List Int}{j:Nat},j<ns.idxOf k->∀ (h2:j<ns.length),ns[j]≠k
 |n::r,0,h,_=>by
  intro e
  have e:n=k:=e
  subst e
  simp at h
 |n::r,j+1,h,h2=>by
  by_cases e:n=k
  ·subst e;simp at h
  ·have hb:(n==k)=false:=by simpa using e
   rw[List.idxOf_cons,hb] at h
   exact oU (ns:=r) (j:=j) (by simpa using h) (by simpa using h2)
theorem kQ {prog:Program}{w:World}{A:Around}{E:Value->Shared->Prop}{s:Shared}{l:Addr}{o:Obj}{n:Nat}{vs:List Value}{ns:List Int}{k:Int}{t:Tok}{Q:Value->Shared->Prop}(ho:s.heap.get? l=some o)(hc:o.cls = .type "tuple")(hd:o.data = .seq vs.toArray n)(hi:IntsAre vs ns)
  (hk:k∈ns) (h:∀ t' s',s'={ s with toks:=s.toks+1 }->Q (.int (ns.idxOf k:Nat) t') s'):wpAny (model prog w) A (call (.builtin "tuple.index") [.ref l,.int k t]) Q E s:=by
 have hT:s.TypeIs (.ref l) "tuple":=⟨o,ho,hc⟩
 refine wpAny_call_entry F.slot_tuple_index hT F.entry_tuple_index ?_ (F.args_tuple_index_2 _ _)
 show wpAny _ _ (Builtin.Tuple.tupleItemsOf (.ref l) >>= _) _ _ s
 refine wpAny_bind (wpAny_tupleItemsOf ho hd ?_)
 have hlen:=sF hi
 have hj:ns.idxOf k<ns.length:=List.idxOf_lt_length_iff.mpr hk
 show wpAny _ _ (forIn [0:min vs.toArray.size vs.toArray.size] _ _ >>= _) _ _ s
 refine wpAny_bind ?_
 rw[Std.Legacy.Range.forIn_eq_forIn_range']
 have hsz:([0:min vs.toArray.size vs.toArray.size]:Std.Legacy.Range).size=vs.length:=by simp[Std.Legacy.Range.size]
 show wpAny _ _ (forIn (List.range' 0 ([0:min vs.toArray.size vs.toArray.size]:Std.Legacy.Range).size 1) _ _) _ _ _
 rw[hsz]
 refine wpAny_forIn_list _ (λrest r s'=>r.1=none/\s'=s/\∃ i,i<=ns.idxOf k/\rest=List.range' i (vs.length-i) 1) _ ?_ ?_ _ _ ⟨rfl,rfl,0,Nat.zero_le _,by simp⟩
 ·rintro x rest r s' ⟨hr,rfl,i,hij,hl⟩
  have hil:i<vs.length:=by omega
  obtain⟨m,hm⟩:∃ m,vs.length-i=m+1:=⟨vs.length-i-1,by omega⟩
  rw[hm,List.range'_succ] at hl
  obtain⟨rfl,rfl⟩:=List.cons.inj hl
  obtain⟨nn,hn⟩:∃ nn,ns[x]?=some nn:=⟨ns[x]'(by omega),List.getElem?_eq_getElem _⟩
  obtain⟨t',hv⟩:=ints_get x hi hn
  have ha:vs.toArray[x]?=some (.int nn t'):=by simpa using hv
  rw[ha]
  show wpAny _ _ (eqBool (.int nn t') (.int k t) >>= _) _ _ _
  refine wpAny_bind (wpAny_eqBool_int ?_)
  by_cases e:nn=k
  ·subst e
   have ex:ns.idxOf nn=x:=by
    have h1:ns.idxOf nn<=x:=by
     have hx:x<ns.length:=by omega
     have:ns[x]=nn:=by rw[List.getElem?_eq_getElem hx] at hn;exact Option.some.inj hn
     rcases Nat.lt_or_ge x (ns.idxOf nn) with h2 |h2
     ·exact absurd this (oU h2 hx)
     ·exact h2
    omega
   rw[beq_self_eq_true]
   simp only[if_true]
   refine wpAny_bind (wpAny_mono (show wpAny _ _ (retInt (x:Int)) _ _ _ from wpAny_ret_mkInt (Q:=λv s2 => ∃ t',v = .int (x:Int) t'/\s2={ s' with toks:=s'.toks+1 }) ⟨_,rfl,rfl⟩) (λfin s2 ⟨v,e1,t',e2,e3⟩=>?_) λ_ _ z=>z)
   subst e1 e2
   refine wpAny_pure (wpAny_pure ⟨_,rfl,?_⟩)
   have h':=h t' s2 e3
   rw[ex] at h'
   exact h'
  ·rw[beq_eq_false_iff_ne.mpr e]
   simp only[Bool.false_eq_true,if_false]
   refine wpAny_pure ⟨rfl,rfl,x+1,?_,?_⟩
   ·have hx:x<ns.length:=by omega
    rcases Nat.lt_or_ge x (ns.idxOf k) with h2 |h2
    ·exact h2
    ·exfalso
     have e3:x=ns.idxOf k:=by omega
     rw[e3,List.getElem?_eq_getElem hj,List.getElem_idxOf hj] at hn
     exact e (Option.some.inj hn).symm
   ·congr 1;omega
 ·rintro⟨r1,r2⟩ s' ⟨hr,rfl,i,hij,hl⟩
  exfalso
  obtain⟨m,hm⟩:∃ m,vs.length-i=m+1:=⟨vs.length-i-1,by omega⟩
  rw[hm,List.range'_succ] at hl
  cases hl
section
variable {X:Cx}{W:WT}{fe fa:Rho->Sto->Out D}
theorem wO:MtR X "tuple.index" (λx xs H Q => ∃ (a:Addr) (ns:List Int) (k:Int),x = .ref a/\xs=[.int k]/\SqT X.K H a (ns.map V.int)/\k∈ns/\Q (.int (ns.idxOf k:Nat)) H):=by
 intro pins s σ H x xs v us Q I rx rs h
 obtain⟨a,ns,k,rfl,rfl,hl,hk,q⟩:=h
 cases rx
 obtain⟨u,rfl,ru⟩:=vals1 rs
 obtain⟨t2,rfl⟩:=ru
 obtain⟨its,rv,⟨o,h1,h2,n,h3⟩,_⟩:=I.tuple hl
 refine kQ (vs:=its) h1 h2 h3 (g9 rv) hk λt' s' e=>?_
 subst e
 exact⟨.int _,H,I.tok _,⟨_,rfl⟩,q⟩
def jh:D->D->Option D
 | .tup ds,.int k=>(cP ds).bind λns=>if k∈ns then some (.int (ns.idxOf k:Nat)) else none
 |_,_=>none
theorem Bj {J:List Addr}{H1:Hp}{d:D}{v:V}(hk:dO d=true)(m:At X.K H1 J d v):tyV X.K "tuple" v H1:=by
 cases d<;>first |(cases hk;done) |skip
 rename_i ds
 obtain⟨a,vs,rfl,tq,_⟩:=At.tup_iff.mp m
 rcases tq with z |⟨o,its,n,h1,h2,h3,_⟩
 ·exact .inr (.inl ⟨rfl,.inr ⟨vs,z.1⟩⟩)
 ·exact .inr (.inl ⟨rfl,.inl ⟨o,h1,h2,h3⟩⟩)
theorem oW {o:Expr}{name:Str}{apos cpos:Pos}{a:Expr}(hn:name="index")(ho:SE X W o fe)(ha:SE X W a fa)(hbase:attributeBase o name X.env (eval o X.env)=eval o X.env:=by rfl)
  (hfew:((backTo cpos (starEach [a] X.env)).all (λx => !x.1)&&(backToKw cpos (keywordEach [] X.env)).all (λx=>x.1.isSome)
   && decide ([a].length+([]:List Keyword).length+(if ([]:List Keyword).isEmpty then 0 else 1)<30))=true:=by rfl)
  (hline:(apos.endLine==cpos.line)=true:=by rfl) (hs:starEach [a] X.env=(false,eval a X.env)::starEach [] X.env:=by rfl) (hplain:(backTo cpos (starEach [] X.env)).any (·.1)=false:=by rfl) :
  SE X W (.Call (.Attribute o name apos) [a] [] cpos) (zd dO jh fe fa):=by
 subst hn
 refine PE.imp (A4 F.plainAttrs_tuple F.slot_tuple_index F.type_tuple_index wO ho (fR ha pa_nil hs) hbase hfew hline hs hplain) λσ H Q h=>yu (λJ H1 d v hk m=>Bj hk m) (λv v2 H2 Q q=>?_) h
 obtain⟨J,dx,dy,d',hJ,ax,ay,eq,q⟩:=q
 unfold jh at eq
 split at eq
 ·rename_i ds k
  obtain⟨ns,e1,e2⟩:=Option.bind_eq_some_iff.mp eq
  split at e2
  ·rename_i hc
   cases e2
   cases At.int_iff.mp ay
   obtain⟨a,vs,rfl,tq,am⟩:=At.tup_iff.mp ax
   have ed:=iK e1
   subst ed
   have hvs:vs=ns.map V.int:=Ats.toInts am
   subst hvs
   exact⟨a,ns,k,rfl,rfl,tq.sq,hc,q H2 _ (Same.refl _) (At.int_iff.mpr rfl)⟩
  ·cases e2
 ·cases eq
end
def Aq:List Int->Option Int
 |[]=>none
 |n::r=>some (r.foldl (λa b=>if b<a then b else a) n)
theorem qJ:∀ (r:List Int) (n:Int),(r.foldl (λa b=>if b<a then b else a) n∈n::r)/\∀ a∈n::r,r.foldl (λa b=>if b<a then b else a) n<=a
 |[],n=>by simp
 |x::r,n=>by
  rw[List.foldl_cons]
  by_cases hx:x<n
  ·rw[if_pos hx]
   obtain⟨h1,h2⟩:=qJ r x
   refine⟨List.mem_cons_of_mem _ h1,λa ha=>?_⟩
   rcases List.mem_cons.mp ha with e |ha
   ·have h0:=h2 x (List.mem_cons_self ..)
    omega
   ·exact h2 a ha
  ·rw[if_neg hx]
   obtain⟨h1,h2⟩:=qJ r n
   have h0:=h2 n (List.mem_cons_self ..)
   refine⟨?_,λa ha=>?_⟩
   ·rcases List.mem_cons.mp h1 with e |h
    ·rw[e];exact List.mem_cons_self ..
    ·exact List.mem_cons_of_mem _ (List.mem_cons_of_mem _ h)
   ·rcases List.mem_cons.mp ha with e |ha
    ·omega
    ·rcases List.mem_cons.mp ha with e |ha
     ·omega
     ·exact h2 a (List.mem_cons_of_mem _ ha)
theorem wQ {ns:List Int}{M:Int}(h1:M∈ns)(h2:∀ a∈ns,M<=a):Aq ns=some M:=by
 cases ns with
 |nil=>simp at h1
 |cons n r =>
  obtain⟨a,b⟩:=qJ r n
  exact congrArg some (Int.le_antisymm (b M h1) (h2 _ a))
theorem nL:∀ {vs:List Value}{ns:List Int},IntsAre vs ns->∃ xs:List (Int×Tok),vs=xs.map (λp => .int p.1 p.2)/\ns=xs.map (·.1)
 |_,_,.nil=>⟨[],rfl,rfl⟩
 |_,_,.cons n t r=>by
  obtain⟨xs,e1,e2⟩:=nL r
  exact⟨(n,t)::xs,by rw[e1];rfl,by rw[e2];rfl⟩
section
variable {X:Cx}{W:WT}
def lY:List D->Option D
 |[.lst ds]=>(cP ds).bind λns=>(Aq ns).map .int
 |_=>none
theorem vL (hc:X.calm=true):n8 X (.builtin "min") lY:=by
 intro pins s σ H xs us Q I r h
 obtain⟨J,ds,d,hJ,m,e,q⟩:=h
 unfold lY at e
 split at e
 ·rename_i ys
  obtain⟨ns,e1,e2⟩:=Option.bind_eq_some_iff.mp e
  obtain⟨M,e3,e4⟩:=Option.map_eq_some_iff.mp e2
  subst e4
  obtain⟨v,w,rfl,a,n⟩:=Ats.cons_iff.mp m
  cases Ats.nil_iff.mp n
  obtain⟨p,zs,rfl,t,mz⟩:=At.lst_iff.mp a
  obtain⟨u,rfl,ru⟩:=vals1 r
  cases ru
  have ed:=iK e1
  subst ed
  have ev:=Ats.toInts mz
  subst ev
  obtain⟨its,rv,pl,hz⟩:=I.list t.sq
  obtain⟨xs,ex,en⟩:=nL (g9 rv)
  have hne : 0<xs.length:=by
   cases xs with
   |nil=>subst en;cases e3
   |cons x xs=>simp
  have hl:s.heap.IsList p (intItems xs.toArray):=by
   have:=pl.isList
   rw[ex] at this
   simpa [intItems] using this
  refine min_intList (I.ok.hd hc) hl (by simpa using hne) λv h' tk hv hk=>?_
  obtain⟨tt,rfl⟩:=intItems_at hv
  obtain⟨h1,h2⟩:=argBest_lt (numAt xs.toArray) (xs.toArray.size-1)
  have mem:numAt xs.toArray (argBest (λi j=>decide (numAt xs.toArray i<numAt xs.toArray j)) (xs.toArray.size-1))∈ns:=by
   have hb:argBest (λi j=>decide (numAt xs.toArray i<numAt xs.toArray j)) (xs.toArray.size-1)<xs.length:=by
    have:xs.toArray.size=xs.length:=by simp
    omega
   rw[numAt_eq,en]
   simp only[List.getD_eq_getElem?_getD,List.getElem?_map,List.toList_toArray,List.getElem?_eq_getElem hb,Option.map_some,Option.getD_some]
   exact List.mem_map.mpr ⟨_,List.getElem_mem hb,rfl⟩
  have low:∀ a∈ns,numAt xs.toArray (argBest (λi j=>decide (numAt xs.toArray i<numAt xs.toArray j)) (xs.toArray.size-1))<=a:=by
   intro a ha
   rw[en] at ha
   obtain⟨x,hx,rfl⟩:=List.mem_map.mp ha
   obtain⟨j,hj,rfl⟩:=List.getElem_of_mem hx
   have h3:=h2 j (by
    have:xs.toArray.size=xs.length:=by simp
    omega)
   refine Int.le_trans h3 (Int.le_of_eq ?_)
   simp[numAt,hj]
  have eM:=wQ mem low
  rw[e3] at eM
  have eM':=Option.some.inj eM
  refine⟨.int M,H,I.kept (t':=tk) hk,⟨tt,by rw[eM']⟩,q H _ (Same.refl H) (At.int_iff.mpr rfl)⟩
 ·cases e
end
section
variable {X:Cx}{W:WT}{pos:Pos}
def CJ (K:PySem.W.Frag)(a:Addr):It:=
 ⟨λi H => ∃ xs x,SqL K H a xs/\xs[i]?=some x,λi H x H' => ∃ p y,H p=none/\x = .ref p/\H'=upd H p (.tup [.int i,y])/\∀ xs,SqL K H a xs->xs[i]?=some y,λi H => ∃ xs,SqL K H a xs/\xs.length<=i⟩
theorem tV {P:Program}{w:World}{K:PySem.W.Frag}{es:List Expr}{k:Nat}{pt:Pos}(a e it:Addr)(hei:e≠it)(hae:a≠e)(hai:a≠it):Turn P w K (.Tuple es k pt) (CJ K a) [e,it] e (λi h=>(∃ old,IsEnum h e it i old)/\h.IsListIter it a i) where
 mem:=by simp
 obj:=λi h st b hb=>by
  obtain⟨⟨old,he⟩,o,ho,hc,hd⟩:=st
  rcases List.mem_cons.mp hb with rfl |hb
  ·exact⟨_,he,λv z=>by cases z⟩
  ·have:b=it:=by simpa using hb
   subst this
   exact⟨o,ho,λv z=>by rw[hd] at z;cases z⟩
 keep:=λi h h' st kp=>by
  obtain⟨⟨old,he⟩,o,ho,r⟩:=st
  exact⟨⟨old,kp e (by simp) _ he⟩,o,kp it (by simp) o ho,r⟩
 item:=by
  intro X hP hw hK hc i pins s σ H E I hf st hg
  subst hP hw hK
  obtain⟨xs,x,hq,hx⟩:=hg
  obtain⟨its,rv,p,hz⟩:=I.list hq
  obtain⟨u,hu,ru⟩:=rv.get hx
  obtain⟨⟨old,he⟩,hit⟩:=st
  have hlt:i<its.toArray.size:=by
   rw[List.size_toArray];exact (List.getElem?_eq_some_iff.mp hu).1
  refine wpAny_pyNext_enum_itemD (Draws.list (A:=X.A.in1) (I.ok.hd hc) it a hai its.toArray) he ⟨hit,p.isList⟩ hlt hei (by simp[hei,Ne.symm hae]) λy h' tk hP ho hs' hT hsz hk=>?_
  have ey:y=u:=by
   have:its.toArray[i]?=some u:=by simpa using hu
   rw[this] at hP
   exact (Option.some.inj hP).symm
  subst ey
  refine⟨_,rfl,wpAny_letOwnedTupleGo_enum (s:={ s with heap:=h',toks:=tk+1 }) ho λh2 he2 sb2=>?_⟩
  have hn:H s.heap.objs.size=none:=I.fresh
  obtain⟨fe0,fe1,fe2,fe3,fe4,fe5⟩:=hf e (by simp)
  obtain⟨fi0,fi1,fi2,fi3,fi4,fi5⟩:=hf it (by simp)
  have kp:∀ b o,b≠e->b≠it->s.heap.get? b=some o->h2.get? b=some o:=λb o h1 h2' e1=>(sb2.2 b h1).trans (hk b o h1 h2' e1)
  have hTe:s.heap.objs.size≠e:=Nat.ne_of_gt (Heap.lt_size he)
  have hT2:h2.get? s.heap.objs.size=some { cls:=.type "tuple",data:=.seq #[.int i tk,y] }:=(sb2.2 _ hTe).trans hT
  have ne:∀ b o,H b=some o->b≠s.heap.objs.size:=λb o q=>aN q hn
  have I1:Inv X pins σ (upd H s.heap.objs.size (.tup [.int i,x])) { s with heap:=h2,toks:=tk+1 }:=by
   refine I.step (h':=h2) (g':=s.gens) (d':=s.drawn) (t':=tk+1) (ch:=[e,it]) (λb hb=>?_) (λb o _ _ hb e1 _=>kp b o (λz=>hb (by simp[z])) (λz=>hb (by simp[z])) e1) (λb o _ _ hb e1 _=>⟨o.slots,kp b o (λz=>hb (by simp[z])) (λz=>hb (by simp[z])) e1⟩)
    (λb o hb e1 n'=>by rw[aF (Nat.ne_of_lt (Heap.lt_size e1))];exact n') (λb o hb e1=>⟨o,kp b o (λz=>hb (by simp[z])) (λz=>hb (by simp[z])) e1⟩)
    (λb xs q=>by rw[aF (ne b _ q)];exact q) (λb o xs q=>by rw[aF (ne b _ q)];exact q) (λb ps q=>⟨#[],by rw[aF (ne b _ q),q];simp⟩)
    (λm hm=>?_) (λb o q=>?_) I.bare
   ·rcases List.mem_cons.mp hb with rfl |hb
    ·exact⟨fe3,fe1,fe4,fe5⟩
    ·have:b=it:=by simpa using hb
     subst this
     exact⟨fi3,fi1,fi4,fi5⟩
   ·obtain⟨o,es,ep,ho,r⟩:=hm
    exact⟨o,es,ep,kp _ o (Ne.symm fe1) (Ne.symm fi1) ho,r⟩
   ·by_cases hb:b=s.heap.objs.size
    ·subst hb
     rw[upd_same] at q
     cases q
     exact⟨by show 2<=sizeLine;decide,[.int i tk,y],.cons ⟨tk,rfl⟩ (.cons ru .nil),_,hT2⟩
    ·rw[aF hb] at q
     refine (I.hok b o q).stay (λc v hc' z=>kp c v ?_ ?_ z) (λc z=>by rw[aF (ne c _ z)];exact z) λc xs z=>by rw[aF (ne c _ z)];exact z
     ·rcases hc' with z' |z'
      ·rw[z'];exact aN q fe0
      ·exact aN z' fe0
     ·rcases hc' with z' |z'
      ·rw[z'];exact aN q fi0
      ·exact aN z' fi0
  refine⟨.ref s.heap.objs.size,_,I1,rfl,⟨_,x,hn,rfl,rfl,λys hy=>by rw[I.list_inj hy hq];exact hx⟩,⟨⟨y,he2⟩,hs'.1.extBut sb2.extBut (Ne.symm hei)⟩,λb hb=>?_⟩
  rcases List.mem_cons.mp hb with rfl |hb
  ·rw[aF (Ne.symm hTe)];exact fe0
  ·have:b=it:=by simpa using hb
   subst this
   obtain⟨o,ho',_⟩:=hit
   rw[aF (Nat.ne_of_lt (Heap.lt_size ho'))];exact fi0
 done:=by
  intro X hP hw hK hc i pins s σ H E I hf st hg
  subst hP hw hK
  obtain⟨xs,hq,hx⟩:=hg
  obtain⟨its,rv,p,hz⟩:=I.list hq
  obtain⟨⟨old,he⟩,hit⟩:=st
  obtain⟨fi0,fi1,fi2,fi3,fi4,fi5⟩:=hf it (by simp)
  have hl:=rv.length
  exact wpAny_pyNext_enum_end (I.ok.hd hc) he hit p.isList (by simp;omega) λh' eb=>⟨rfl,I.turned (t':=s.toks) (λb o hb e=>eb b o hb e) fi0 fi1 fi3 fi4 fi5⟩
 self:=by
  intro A i s Q E st h
  obtain⟨⟨old,he⟩,_⟩:=st
  exact wpAny_pyIter_enum he h
theorem Walk.enumLst {a:Addr}{ds:List D}{xs:List V}{J:List Addr}{H:Hp}(t:LQ X.K H J a xs)(m:Ats X.K H J ds xs):Walk X (CJ X.K a) (cL 0 ds) J H where
 len:=by rw[bE,m.length];exact t.len
 go:=λJ1 H1 i x hi=>by
  rw[bE] at hi
  have m1:=m.ex x
  obtain⟨v,hv,_⟩:=m1.get (List.getElem?_eq_getElem hi)
  exact⟨xs,v,(t.ex x).sq,hv⟩
 yld:=λJ1 H1 i v H' x hJ hi y=>by
  obtain⟨p,y,hn,rfl,rfl,hy⟩:=y
  obtain⟨d,e,a⟩:=(m.ex x).get' (hy xs (t.ex x).sq)
  refine⟨.tup [.int i,d],by rw[ft,e];simp,At.newTup (.cons (At.int_iff.mpr rfl) (.cons a .nil)) hn hJ (by show 2<=sizeLine;decide),aS hn _⟩
 stop:=λJ1 H1 i x hi=>by
  rw[bE] at hi
  exact⟨xs,(t.ex x).sq,by rw[← m.length];exact hi⟩
def uF:List D->Option (List D)
 |[.lst xs]=>some (cL 0 xs)
 |_=>none
theorem t_ {es:List Expr}{k:Nat}{pt p:Pos}{a:Expr}{t:Rho->Sto->Out (List D)}{x:Str}(hx:x="enumerate")(hm:X.mg x=none)(ha:SA X W [a] t)(hg:Gl X x:=by rfl)
  (he:starEach (a::[]) X.env=(false,eval a X.env)::starEach [] X.env:=by rfl) (hpl:(backTo pos (starEach [] X.env)).any (·.1)=false:=by rfl):SI X W (.Tuple es k pt) (.Call (.Name x p) [a] [] pos) (gR uF t):=by
 subst hx
 intro pins s σ H R I h
 refine wpAny_Call_Name_kw (lg I hg hm boot_enumerate ?_ (by decide) (by decide))
 refine callWith_type1 (thn (ha pos pins s σ H _ I (km h)) λus s1 ⟨vs,H1,I1,r1,J,S,es',ds,so,m,hk,z⟩=>?_) he hpl
 unfold uF at hk
 split at hk
 ·rename_i xs
  cases hk
  obtain⟨v,r,rfl,a1,n⟩:=Ats.cons_iff.mp m
  cases Ats.nil_iff.mp n
  obtain⟨ad,ws,rfl,tq,mz⟩:=At.lst_iff.mp a1
  obtain⟨u,rfl,ru⟩:=vals1 r1
  cases ru
  obtain⟨its,rv,pl,hz⟩:=I1.list tq.sq
  have had:ad<s1.heap.objs.size:=by obtain⟨o,n,e,_⟩:=pl;exact Heap.lt_size e
  refine call_enumerate_list pl.isList λh' en it sz kp=>?_
  have I2:Inv X pins σ H1 { s1 with heap:=h' }:=I1.kept (t':=s1.toks) kp
  refine wpAny_pyIter_enum en ?_
  refine⟨s1.heap.objs.size+1,[s1.heap.objs.size+1,s1.heap.objs.size],_,CJ X.K ad,H1,rfl,I2,tV ad _ _ (Nat.ne_of_gt (Nat.lt_succ_self _)) (Nat.ne_of_lt (Nat.lt_succ_of_lt had)) (Nat.ne_of_lt had),⟨⟨_,en⟩,it⟩,λb hb=>?_,z H1 _ (Same.refl _) (Walk.enumLst tq mz)⟩
  rcases List.mem_cons.mp hb with rfl |hb
  ·exact I1.fpOk (Nat.le_succ _) (I1.hok.fresh (Nat.le_succ _))
  ·have:b=s1.heap.objs.size:=by simpa using hb
   subst this
   exact I1.fpOk (Nat.le_refl _) I1.fresh
 ·cases hk
def qK:List D->Option (List D)
 |[.tup xs]=>some (cL 0 xs)
 |[.lst xs]=>some (cL 0 xs)
 |_=>none
theorem xG {es:List Expr}{k:Nat}{pt p:Pos}{a:Expr}{t:Rho->Sto->Out (List D)}{x:Str}(hx:x="enumerate")(hm:X.mg x=none)(ha:SA X W [a] t)(hg:Gl X x:=by rfl)
  (he:starEach (a::[]) X.env=(false,eval a X.env)::starEach [] X.env:=by rfl) (hpl:(backTo pos (starEach [] X.env)).any (·.1)=false:=by rfl):SI X W (.Tuple es k pt) (.Call (.Name x p) [a] [] pos) (gR qK t):=by
 refine SI.either (p8 hx hm ha hg he hpl) (t_ hx hm ha hg he hpl) λρ S=>?_
 unfold gR
 refine cM _ λds S1=>?_
 unfold qK jz uF
 match ds with
 |[.tup xs]=>exact .inl rfl
 |[.lst xs]=>exact .inr rfl
 |[]=>exact .inl rfl
 |[.non]=>exact .inl rfl
 |[.bl _]=>exact .inl rfl
 |[.int _]=>exact .inl rfl
 |[.str _]=>exact .inl rfl
 |[.set _]=>exact .inl rfl
 |[.loc _]=>exact .inl rfl
 |[.fn _ _]=>exact .inl rfl
 |a::b::r=>cases a<;>exact .inl rfl
end
section
variable {X:Cx}{W:WT}{pos p:Pos}{e:Expr}
def AJ (c:Str)(g:Rho->Sto->Bool):Rho->Sto->Out Fl:=λρ S=>if g ρ S=true then some (.error c,S) else none
end
def FE (K:PySem.W.Frag)(x qual:Str)(st:Stmt)(f:Addr):Prop:=∃ fd,Fun K x qual st f fd
def BD (x qual:Str)(st:Stmt)(ps:List Str):Prop:=∀ (kV doc pm:Value) (an:Option Addr) (cdv ct:Value) (us:List Value),us.length=ps.length->bindArgs (PySem.W.fnOf x qual (dY st) (bL st) (aj st) .none kV doc pm an cdv ct) ⟨us,[]⟩=pure (ps.zip us)
section
variable {P:List Value->Prop}{us:List Value}
theorem us0 (h:us.length=0)(k:P []):P us:=by rw[List.length_eq_zero_iff.mp h];exact k
theorem zB {n:Nat}(h:us.length=n+1)(k:∀ a r,r.length=n->P (a::r)):P us:=by
 cases us with
 |nil=>cases h
 |cons a r=>exact k a r (Nat.succ.inj h)
theorem us1 (h:us.length=1)(k:∀ a,P [a]):P us:=zB h λa _ h=>us0 (P:=λr=>P (a::r)) h (k a)
theorem us2 (h:us.length=2)(k:∀ a b,P [a,b]):P us:=zB h λa _ h=>us1 (P:=λr=>P (a::r)) h (k a)
theorem us3 (h:us.length=3)(k:∀ a b c,P [a,b,c]):P us:=zB h λa _ h=>us2 (P:=λr=>P (a::r)) h (k a)
theorem us4 (h:us.length=4)(k:∀ a b c d,P [a,b,c,d]):P us:=zB h λa _ h=>us3 (P:=λr=>P (a::r)) h (k a)
end
section
variable {x qual:Str}{st:Stmt}{p1 p2 p3 p4 p5 p6:Str}
theorem bd1 (h:∀ (kV doc pm:Value) (an:Option Addr) (cdv ct:Value) (a:Value),bindArgs (PySem.W.fnOf x qual (dY st) (bL st) (aj st) .none kV doc pm an cdv ct) ⟨[a],[]⟩=pure [(p1,a)]):BD x qual st [p1]:=λkV doc pm an cdv ct us hl=>us1 (P:=λus=>bindArgs _ ⟨us,[]⟩=pure (List.zip [p1] us)) hl λa=>(h kV doc pm an cdv ct a)
theorem bd2 (h:∀ (kV doc pm:Value) (an:Option Addr) (cdv ct:Value) (a b:Value),bindArgs (PySem.W.fnOf x qual (dY st) (bL st) (aj st) .none kV doc pm an cdv ct) ⟨[a,b],[]⟩=pure [(p1,a),(p2,b)]):BD x qual st [p1,p2]:=λkV doc pm an cdv ct us hl=>us2 (P:=λus=>bindArgs _ ⟨us,[]⟩=pure (List.zip [p1,p2] us)) hl λa b=>(h kV doc pm an cdv ct a b)
theorem bd3 (h:∀ (kV doc pm:Value) (an:Option Addr) (cdv ct:Value) (a b c:Value),bindArgs (PySem.W.fnOf x qual (dY st) (bL st) (aj st) .none kV doc pm an cdv ct) ⟨[a,b,c],[]⟩=pure [(p1,a),(p2,b),(p3,c)]):BD x qual st [p1,p2,p3]:=λkV doc pm an cdv ct us hl=>us3 (P:=λus=>bindArgs _ ⟨us,[]⟩=pure (List.zip [p1,p2,p3] us)) hl λa b c=>(h kV doc pm an cdv ct a b c)
theorem bd4 (h:∀ (kV doc pm:Value) (an:Option Addr) (cdv ct:Value) (a b c d:Value),bindArgs (PySem.W.fnOf x qual (dY st) (bL st) (aj st) .none kV doc pm an cdv ct) ⟨[a,b,c,d],[]⟩=pure [(p1,a),(p2,b),(p3,c),(p4,d)]):BD x qual st [p1,p2,p3,p4]:=λkV doc pm an cdv ct us hl=>us4 (P:=λus=>bindArgs _ ⟨us,[]⟩=pure (List.zip [p1,p2,p3,p4] us)) hl λa b c d=>(h kV doc pm an cdv ct a b c d)
end
section
variable {K:PySem.W.Frag}{h:Heap}{mg:Str->Option Value}{x m c qual:Str}{st:Stmt}{ps:List Str}{f C:Addr}
theorem fE {oc:Value}{od an:Option Addr}{osl:Array (Option Value)}{kV doc pm cdv ct:Value}(l:K.lookup f=some ⟨oc,od,.func (PySem.W.fnOf x qual (dY st) (bL st) (aj st) .none kV doc pm an cdv ct),osl⟩)
  (c:PySem.W.codeIn K cdv qual=true) (k:PySem.W.keepIn K (.ref f)=true):FE K x qual st f:=⟨_,Cn l c k⟩
theorem dAt (X:K.In h)(G:h.Ns mainGlobals mg)(a:PySem.W.nsIn K mainGlobals x=some (some (.ref f)))(q:FE K x x st f)(b:BD x x st ps):bg K mg x st ps:=
 Exists.elim q λfd F=>⟨f,fd,F,PySem.W.mg_of X G a,F.binds b⟩
abbrev NC (K:PySem.W.Frag)(c:Str)(C:Addr):Prop:=PySem.W.nsIn K mainGlobals c=some (some (.ref C))/\Cls K C
theorem mAt (n:NC K c C)(a:PySem.W.findIn K (.ref C) m=some (some (.ref f)))(i:PySem.W.isFn K (.ref f)=true)(q:FE K m qual st f)(b:BD m qual st ps):MethAt K c m qual st ps:=
 Exists.elim q λfd F=>⟨C,f,fd,n.1,n.2,⟨a,i,F.kp⟩,F,F.binds b⟩
theorem kAt (X:K.In h)(G:h.Ns mainGlobals mg)(n:NC K c C)(k4:PySem.W.makesIn K C=true)(k5:PySem.W.keepIn K (.ref C)=true)(a:PySem.W.findIn K (.ref C) "__init__"=some (some (.ref f)))(i:PySem.W.isFn K (.ref f)=true)(q:FE K "__init__" qual st f)(b:BD "__init__" qual st ps):AS K mg c qual st ps:=
 Exists.elim q λfd F=>⟨C,f,fd,n.1,PySem.W.mg_of X G n.1,⟨k4,a,i,k5⟩,F,F.binds b⟩
end
end L2
namespace L2
open PySem
section
variable {prog:Program}{w:World}{K:Type} [DecidableEq K] {knd:KeyKind prog w K}{pk:K->Bool}{led:Bool}{A:Around}{E:Value->Shared->Prop}{s:Shared}
set_option maxHeartbeats 3200000 in
theorem qU {l:Addr}{items:Array Value}{Q:Value->Shared->Prop}(hh:A.handled=none)(hl:s.heap.IsList l items)(val:Nat->K)(hval:∀ (i:Nat) v,items[i]?=some v->knd.is (val i) v=true/\v.scannable=true/\plainKind v=pk (val i))
  (hb:items.size+1<scanBound)
  (h:∀ (h':Heap) (tk:Nat),SetK knd pk (!byT w) h' s.heap.objs.size (met val items.size)->(∀ b o,b<s.heap.objs.size->s.heap.get? b=some o->h'.get? b=some o)->Q (.ref s.heap.objs.size) { s with heap:=h',toks:=tk }) :
  wpAny (model prog w) A (call (.type "set") [.ref l]) Q E s:=by
 obtain⟨c,tl,hmro⟩:=F.called_set.mro
 have c1:=F.called_set.made
 have c2:=F.called_set.sub
 refine wpAny_call (codeAny_of_tree ?_)
 show wpAny _ _ (callAny (.type "set") _) _ _ _
 refine wpAny_pure ⟨Code.quiet_builtin _ (by decide +kernel),codeAny_builtin F.entry_type_call ?_⟩
 rw[Around.under_plain (weight_type_call_type "set" [.ref l] []) rfl]
 have c3:=F.called_set.notType
 have c4:=F.called_set.canCreate
 have c5:=SF.tcall (.ref l)
 repeat (any_goals (first |assumption |wp_step))
 refine codeAny_mono (rH (.ref l) (E:=E) (Q₁:=λobj s₁=>obj = .ref s.heap.objs.size/\s₁={ s with heap:=s.heap.push (f_ w) }) ⟨rfl,rfl⟩) λr s₁ hr=>?_
 cases r with
 |error e=>exact hr
 |ok fl =>
  cases fl with
  |ret obj =>
   obtain⟨rfl,rfl⟩:=hr
   have hS:(s.heap.push (f_ w)).get? s.heap.objs.size=some (f_ w):=Heap.get?_push_size _ rfl
   have hT:Shared.TypeIs { s with heap:=s.heap.push (f_ w) } (.ref s.heap.objs.size) "set":=⟨_,hS,rfl⟩
   have i1:=F.called_set.init.lookup
   have i2:=F.called_set.init.bind (.ref s.heap.objs.size)
   repeat (any_goals (first |assumption |wp_step))
   refine codeAny_mono (codeAny_call_builtin (R:=wants (λr s₂=>r = .none/\∃ h' tk,s₂={ s with heap:=h',toks:=tk }/\SetK knd pk (!byT w) h' s.heap.objs.size (met val items.size) /\
     (∀ b o,b<s.heap.objs.size->s.heap.get? b=some o->h'.get? b=some o)) E) F.called_set.init.plain F.entry_set_init (oK hT ?_)) λr₂ s₂ hr₂=>?_
   ·obtain⟨⟨ocls,odict,odata,oslots⟩,hol,hcl,nl,hdl⟩:=id hl
    simp only at hcl hdl
    subst hcl hdl
    have hol':=Heap.get?_push_of_some (f_ w) hol
    have t1:=F.sub_list_set
    have t2:=F.sub_list_frozenset
    have t3:(Value.type "list"==Value.type "dict")=false:=by decide
    have hl1:(s.heap.push (f_ w)).IsList l items:=⟨_,hol',rfl,nl,rfl⟩
    unfold Builtin.«set.__init__» noKeywords Builtin.Frozenset.updateFrom
    generalize hPI:pyIter=PI
    wp_walk
    subst hPI
    refine wpAny_pyIter_list hl1 ?_
    refine wpAny_bind (wpAny_runValue ?_)
    have hlS:l<s.heap.objs.size:=Heap.lt_size hol
    have z1:(s.heap.push (f_ w)).objs.size=s.heap.objs.size+1:=Heap.size_push ..
    have hneI:l≠(s.heap.push (f_ w)).objs.size:=by rw[z1];exact Nat.ne_of_lt (Nat.lt_succ_of_lt hlS)
    have hSf:s.heap.objs.size∉[(s.heap.push (f_ w)).objs.size,l]:=by
     rw[z1];intro hm
     rcases List.mem_cons.mp hm with e |hm
     ·exact Nat.ne_of_lt (Nat.lt_succ_self _) e
     ·exact Nat.ne_of_gt hlS (List.mem_singleton.mp hm)
    refine rJ (pk:=pk) (led:=!byT w) ((Walks.list (by simp[hh]) _ l hneI items).toS) s.heap.objs.size hSf val hval hb (items.size-0) 0 _ (by omega) (Nat.zero_le _)
     ⟨⟨_,Heap.get?_push_size _ rfl,rfl,rfl⟩,⟨_,Heap.get?_push_of_some _ hol',rfl,nl,rfl⟩⟩ (SetK.start (Heap.get?_push_of_some _ hS)) λs' hm hS'=>?_
    obtain⟨h',g',d',tk',os'⟩:=s'
    have eg:g'=s.gens:=hm.gens
    have ed:d'=s.drawn:=hm.drawn
    have eo:os'=s.os:=hm.os
    subst eg ed eo
    show wpAny _ _ _ _ _ _
    refine wpAny_pure ?_
    show wpAny _ _ (ret Value.none) _ _ _
    refine wpAny_pure ⟨rfl,h',tk',rfl,hS',λb o hb e=>hm.heap b o ?_ (Heap.get?_push_of_some _ (Heap.get?_push_of_some _ e))⟩
    intro hm
    rcases List.mem_cons.mp hm with e |hm
    ·exact Nat.ne_of_lt hb e
    ·rw[z1] at hm
     exact Nat.ne_of_lt (Nat.lt_succ_of_lt hb) (List.mem_singleton.mp hm)
   ·cases r₂ with
    |error e=>exact hr₂
    |ok fl₂ =>
     cases fl₂ with
     |ret r =>
      obtain⟨rfl,h',tk,rfl,hS',hk'⟩:=hr₂
      repeat (any_goals (first |assumption |wp_step))
      exact h _ _ hS' hk'
     |_=>exact hr₂.elim
  |_=>exact hr.elim
end
end L2
namespace L2
open PySem PySem.Spec PyProof.Rows PySem.W
def bkD:Key->D
 | .inl i => .int i
 | .inr x => .str x
def gz:D->Option D
 | .tup ds=>if ds.length<64 then (ib ds).bind λks=>(de ((ks.foldl b7 []).map bkD)).map .lst else none
 | .lst ds=>if ds.length<64 then (ib ds).bind λks=>(de ((ks.foldl b7 []).map bkD)).map .lst else none
 |_=>none
section
variable {X:Cx}{W:WT}{x y:Str}{p p2 pos pos2:Pos}{fe:Rho->Sto->Out D}
theorem wW {d:D}{k:Key}(h:e_ d=some k):d=bkD k:=by
 cases d with
 |int i=>cases h;rfl
 |str x=>cases h;rfl
 |_=>cases h
theorem sC {K:PySem.W.Frag}{H:Hp}{J:List Addr}:∀ {ds:List D}{ks:List Key}{vs:List V},ib ds=some ks->Ats K H J ds vs->∀ k∈ks,At K H J (bkD k) (kV k)
 |[],ks,vs,e,m=>by cases e;intro k hk;cases hk
 |d::ds,ks,vs,e,m=>by
  obtain⟨v,r,rfl,a,n⟩:=Ats.cons_iff.mp m
  rw[ib] at e
  obtain⟨k,e1,e2⟩:=Option.bind_eq_some_iff.mp e
  obtain⟨ks',e3,e4⟩:=Option.map_eq_some_iff.mp e2
  subst e4
  intro k' hk
  rcases List.mem_cons.mp hk with rfl |hk
  ·rw[← wW e1,← sE e1 a];exact a
  ·exact sC e3 n k' hk
theorem tD {K:PySem.W.Frag}{H:Hp}{J:List Addr}:∀ {ks:List Key},(∀ k∈ks,At K H J (bkD k) (kV k))->Ats K H J (ks.map bkD) (ks.map kV)
 |[],_ => .nil
 |k::ks,h => .cons (h k (List.mem_cons_self ..)) (tD λx hx=>h x (List.mem_cons_of_mem _ hx))
theorem AF (hc:X.calm=true):CallR X (.type "set") (λxs H Q => ∃ (a:Addr) (ks:List Key),xs=[.ref a]/\SqL X.K H a (ks.map kV)/\ks.length+1<4096/\∀ p,H p=none->Q (.ref p) (upd H p (ou X.prog X.w p (ks.foldl b7 [])))):=by
 intro pins s σ H xs us Q I r h
 obtain⟨a,ks,rfl,hq,hb,q⟩:=h
 obtain⟨u,rfl,ru⟩:=vals1 r
 cases ru
 obtain⟨its,rv,⟨o,n,ho,hcl,_,hdt⟩,hz⟩:=I.list hq
 have tp:s.heap.IsList a its.toArray:=⟨o,ho,hcl,n,hdt⟩
 have hl:its.length=ks.length:=by rw[← rv.length,List.length_map]
 refine qU (knd:=bq X.prog X.w) (pk:=plK) (I.ok.hd hc) tp (λi=>ks.getD i (.inl 0)) (λi v hv=>?_) (by rw[List.size_toArray,hl];exact hb) λh' tk hS k=>?_
 ·have hv':its[i]?=some v:=by simpa using hv
  have hi:i<ks.length:=by rw[← hl];exact (List.getElem?_eq_some_iff.mp hv').1
  obtain⟨u,e1,e2⟩:=rv.get (i:=i) (x:=kV ks[i]) (by rw[List.getElem?_map,List.getElem?_eq_getElem hi];rfl)
  rw[hv'] at e1
  cases e1
  have e3:ks.getD i (.inl 0)=ks[i]:=by simp[List.getD,hi]
  simp only[e3]
  exact⟨nK e2,(qx e2).1,(qx e2).2⟩
 ·have es0:its.toArray.size=ks.length:=by rw[List.size_toArray,hl]
  rw[es0,sx] at hS
  refine⟨.ref s.heap.objs.size,_,I.laid (t':=tk) (o:=ou X.prog X.w s.heap.objs.size (ks.foldl b7 [])) (λb o e=>k b o (Heap.lt_size e) e) (Nat.le_refl _) ⟨hS,?_,λh1 h2 z k=>z.keep k⟩,rfl,q _ I.fresh⟩
  obtain⟨o,es,ep,t,ho,_⟩:=hS
  exact⟨o,ho⟩
theorem uc {a:Expr}(hx:x="sorted")(hy:y="set")(hc:X.calm=true)(hm:X.mg x=none)(hm2:X.mg y=none)(ha:SE X W a fe)(hg:Gl X x:=by rfl)(hg2:Gl X y:=by rfl)
  (he:starEach [a] X.env=(false,eval a X.env)::starEach [] X.env:=by rfl)
  (he2:starEach [(.Call (.Name y p2) [a] [] pos2)] X.env=(false,eval (.Call (.Name y p2) [a] [] pos2) X.env)::starEach [] X.env:=by rfl)
  (hpl:(backTo pos2 (starEach [] X.env)).any (·.1)=false:=by rfl) (hpl2:(backTo pos (starEach [] X.env)).any (·.1)=false:=by rfl) :
  SE X W (.Call (.Name x p) [.Call (.Name y p2) [a] [] pos2] [] pos) (cUn gz fe):=by
 subst hx hy
 have inner:=lc (X:=X) (p:=p2) (pos:=pos2) ((Ct hc).or (AF hc)) hg2 hm2 CD (fR ha pa_nil he) (by decide) (by decide) he hpl
 refine PE.imp (ku (qR hc) hg hm lG (fR inner pa_nil he2) (by decide) (by decide) he2 hpl2) λσ H Q h=>?_
 refine (tG.bindE h).mono λv H1 ⟨d,h1⟩=>?_
 obtain⟨J,dx,d',hJ,ax,eq,q⟩:=tG.op1 h1
 have go:∀ (ds:List D) (vs:List V) (ks:List Key),Ats X.K H1 J ds vs->ds.length<64->ib ds=some ks->(de ((ks.foldl b7 []).map bkD)).map D.lst=some d'->vs=ks.map kV/\ks.length+1<4096/\∀ p,H1 p=none->∃ (p':Addr) (ks':List Key) (J':List Addr) (ds' out:List D),[V.ref p]=[V.ref p']/\(upd H1 p (ou X.prog X.w p (ks.foldl b7 []))) p'=some (ou X.prog X.w p' ks')/\(∀ a∈J',(upd H1 p (ou X.prog X.w p (ks.foldl b7 []))) a≠none)/\Ats X.K (upd H1 p (ou X.prog X.w p (ks.foldl b7 []))) J' ds' (ks'.map kV)/\de ds'=some out/\∀ H' v,Same (upd H1 p (ou X.prog X.w p (ks.foldl b7 []))) H'->At X.K H' J' (.lst out) v->Q v H':=by
  intro ds vs ks m hb e1 e2
  obtain⟨out,e3,e4⟩:=Option.map_eq_some_iff.mp e2
  subst e4
  refine⟨vp e1 m,by rw[oZ e1];omega,λp hp=>?_⟩
  refine⟨p,ks.foldl b7 [],J,(ks.foldl b7 []).map bkD,out,rfl,upd_same,λa ha=>?_,tD λk hk=>?_,e3,λH' v sm m'=>q H' v ((aS hp _).trans sm) m'⟩
  ·by_cases z:a=p
   ·rw[z,upd_same];simp
   ·rw[aF z];exact hJ a ha
  ·rcases (sG ks [] k).mp hk with h |h
   ·cases h
   ·exact (sC e1 m k h).ex (Ex.same (aS hp _))
 cases dx with
 |tup ds =>
  unfold gz at eq
  simp only at eq
  split at eq
  ·rename_i hb
   obtain⟨ks,e1,e2⟩:=Option.bind_eq_some_iff.mp eq
   obtain⟨b,vs,rfl,tq,m⟩:=At.tup_iff.mp ax
   obtain⟨ev,hl,k⟩:=go ds vs ks m hb e1 e2
   subst ev
   show pV _ _ _
   exact .inl ⟨b,ks,rfl,tq.sq,hl,λp hp=>k p hp⟩
  ·cases eq
 |lst ds =>
  unfold gz at eq
  simp only at eq
  split at eq
  ·rename_i hb
   obtain⟨ks,e1,e2⟩:=Option.bind_eq_some_iff.mp eq
   obtain⟨b,vs,rfl,tq,m⟩:=At.lst_iff.mp ax
   obtain⟨ev,hl,k⟩:=go ds vs ks m hb e1 e2
   subst ev
   show pV _ _ _
   exact .inr ⟨b,ks,rfl,tq.sq,hl,λp hp=>k p hp⟩
  ·cases eq
 |_=>cases eq
end
section
variable {prog:Program}{w:World}{A:Around}{E:Value->Shared->Prop}{s:Shared}
structure ZA (z TI TO i1 i2:Addr) (f1 f2:List Addr):Prop where
 m1:i1∈f1
 m2:i2∈f2
 z1:z∉f1
 z2:z∉f2
 o1:TO∉f1
 o2:TO∉f2
 x1:i2∉f1
 x2:i1∉f2
 oz:TO≠z
 tz:TI≠z
 to:TI≠TO
 t1:TI∉f1
 t2:TI∉f2
variable {z TI TO i1 i2:Addr}{f1 f2:List Addr}{n1 n2:Nat}{P1 P2:Nat->Value->Prop}{S1 S2:Nat->Heap->Prop}{a b:Value}
theorem ZA.ne1 (D:ZA z TI TO i1 i2 f1 f2):i1≠z/\i1≠TO/\i1≠i2/\i2≠z/\i2≠TO/\TI≠i1/\TI≠i2:=
 ⟨λe=>D.z1 (e▸D.m1),λe=>D.o1 (e▸D.m1),λe=>D.x1 (e▸D.m1),λe=>D.z2 (e▸D.m2),λe=>D.o2 (e▸D.m2),λe=>D.t1 (e▸D.m1),λe=>D.t2 (e▸D.m2)⟩
theorem dj {x y:Addr}{l:List Addr}(h:x∉l)(g:y∈l):y≠x:=λe=>h (e▸g)
theorem xt (D:ZA z TI TO i1 i2 f1 f2)(W1:Draws prog w A i1 f1 n1 P1 S1)(W2:Draws prog w A i2 f2 n2 P2 S2){j k:Nat}(hj:j<n1)(hk:k<n2){Q:Value->Shared->Prop}
  (hz:IsZip s.heap z TI TO .none) (hTI:IsPair s.heap TI (.ref i1) (.ref i2)) (hTO:IsPair s.heap TO a b) (t1:S1 j s.heap) (t2:S2 k s.heap)
  (hQ:∀ x y h' tk,P1 j x->P2 k y->IsZip h' z TI TO (rawInt s.heap.objs.size)->IsPair h' TO x y->S1 (j+1) h'->S2 (k+1) h'->IsPair h' s.heap.objs.size x y->h'.objs.size=s.heap.objs.size+1 ->
   (∀ c o,c≠z->c≠TO->c≠i1->c≠i2->s.heap.get? c=some o->h'.get? c=some o)->Q (.ref s.heap.objs.size) { s with heap:=h',toks:=tk }) :
  wpAny (model prog w) A (Builtin.«zip.__next__» ⟨[.ref z],[]⟩) (λfin s' => ∃ v,fin = .done (.ret v)/\Q v s') E s:=by
 obtain⟨e1,e2,e3,e4,e5,e6,e7⟩:=D.ne1
 show wpAny _ _ (field (.ref z) 2 >>= _) _ _ _
 refine wpAny_bind (wpAny_field (x:=.bool false) hz rfl rfl ?_)
 show wpAny _ _ (field (.ref z) 3 >>= _) _ _ _
 refine wpAny_bind (wpAny_field (x:=.ref TI) hz rfl rfl (wpAny_bind (wpAny_seqItems hTI rfl ?_)))
 show wpAny _ _ (Builtin.SmallTypes.ownedTupleIsFree (.ref z) >>= _) _ _ _
 unfold Builtin.SmallTypes.ownedTupleIsFree
 refine wpAny_bind (wpAny_bind (wpAny_field (x:=.none) hz rfl rfl (wpAny_pure ?_)))
 simp only[if_true]
 refine wpAny_bind (wpAny_rule (wpAny_bind (wpAny_field (x:=.ref TO) hz rfl rfl (wpAny_bind (wpAny_setField_rec hz (by simp) λha za ka=>wpAny_bind ?_)))))
 have za:IsZip ha z TI TO .ellipsis:=za
 simp only[List.zipIdx_cons,List.zipIdx_nil,List.forIn_cons,List.forIn_nil]
 refine wpAny_bind (wpAny_bind (wpAny_onRaise ?_))
 show wpAny _ _ (Builtin.SmallTypes.nextOf (.ref i1) >>= _) _ _ _
 refine wpAny_bind (W1.item j _ _ _ hj (W1.frame _ _ _ t1 λc hc o e=>ka.extBut _ _ (dj D.z1 hc) e) λx hb tb px tb1 kb=>wpAny_pure ?_)
 have ob:IsPair hb TO a b:=kb.extBut _ _ (Ne.symm e2) (ka.extBut _ _ D.oz hTO)
 refine wpAny_bind (wpAny_seqItems ob rfl (wpAny_bind (wpAny_updateSeq_pair ob λhc oc kc=>wpAny_bind (wpAny_letGo (wpAny_pure ?_)))))
 have oc:IsPair hc TO x b:=oc
 refine wpAny_bind (wpAny_bind (wpAny_onRaise ?_))
 show wpAny _ _ (Builtin.SmallTypes.nextOf (.ref i2) >>= _) _ _ _
 have t2':S2 k hc:=W2.frame _ _ _ t2 λc hm o e=>kc.extBut _ _ (dj D.o2 hm) (kb.extBut _ _ (dj D.x2 hm) (ka.extBut _ _ (dj D.z2 hm) e))
 refine wpAny_bind (W2.item k _ _ _ hk t2' λy hd td py td1 kd=>wpAny_pure ?_)
 have od:IsPair hd TO x b:=kd.extBut _ _ (Ne.symm e5) oc
 refine wpAny_bind (wpAny_seqItems od rfl (wpAny_bind (wpAny_updateSeq_pair od λhe oe ke=>wpAny_bind (wpAny_letGo (wpAny_pure (wpAny_pure ?_))))))
 have oe:IsPair he TO x y:=oe
 refine wpAny_bind (wpAny_seqItems oe rfl (wpAny_bind (wpAny_newTuple ?_)))
 have sz:he.objs.size=s.heap.objs.size:=by rw[ke.1,kd.1,kc.1,kb.1,ka.1]
 have all:∀ c o,c≠z->c≠TO->c≠i1->c≠i2->s.heap.get? c=some o->he.get? c=some o:=λc o q1 q2 q3 q4 e=>ke.extBut _ _ q2 (kd.extBut _ _ q4 (kc.extBut _ _ q2 (kb.extBut _ _ q3 (ka.extBut _ _ q1 e))))
 have ze:IsZip he z TI TO .ellipsis:=ke.extBut _ _ (Ne.symm D.oz) (kd.extBut _ _ (Ne.symm e4) (kc.extBut _ _ (Ne.symm D.oz) (kb.extBut _ _ (Ne.symm e1) za)))
 have s1e:S1 (j+1) he:=W1.frame _ _ _ tb1 λc hm o e=>ke.extBut _ _ (dj D.o1 hm) (kd.extBut _ _ (dj D.x1 hm) (kc.extBut _ _ (dj D.o1 hm) e))
 have s2e:S2 (k+1) he:=W2.frame _ _ _ td1 λc hm o e=>ke.extBut _ _ (dj D.o2 hm) e
 have lz:z<he.objs.size:=Heap.lt_size ze
 show wpAny _ _ (Builtin.SmallTypes.ownedTupleHandOut (.ref z) (.ref he.objs.size) >>= _) _ _ _
 unfold Builtin.SmallTypes.ownedTupleHandOut
 have zf:IsZip (he.push { cls:=.type "tuple",data:=.seq #[x,y] }) z TI TO .ellipsis:=Heap.get?_push_of_some _ ze
 refine wpAny_bind (wpAny_bind (wpAny_setField_rec zf (by simp) λhg zg kg=>wpAny_setField_rec (show IsZip hg z TI TO (rawInt he.objs.size) from zg) (by simp) λhh zh kh=>wpAny_pure ⟨_,rfl,?_⟩))
 have zh:IsZip hh z TI TO (rawInt he.objs.size):=zh
 have up:∀ c o,c≠z->he.get? c=some o->hh.get? c=some o:=λc o q e=>kh.extBut _ _ q (kg.extBut _ _ q (Heap.get?_push_of_some _ e))
 have new:IsPair hh he.objs.size x y:=kh.extBut _ _ (Nat.ne_of_gt lz) (kg.extBut _ _ (Nat.ne_of_gt lz) (Heap.get?_push_size _ rfl))
 have size:hh.objs.size=he.objs.size+1:=by rw[kh.1,kg.1,Heap.size_push]
 show Q (.ref he.objs.size) _
 rw[sz] at zh new size ⊢
 exact hQ x y hh _ px py zh (up _ _ D.oz oe) (W1.frame _ _ _ s1e λc hm o e=>up c o (dj D.z1 hm) e) (W2.frame _ _ _ s2e λc hm o e=>up c o (dj D.z2 hm) e) new size λc o q1 q2 q3 q4 e=>up c o q1 (all c o q1 q2 q3 q4 e)
theorem zy (D:ZA z TI TO i1 i2 f1 f2)(W1:Draws prog w A i1 f1 n1 P1 S1)(W2:Draws prog w A i2 f2 n2 P2 S2){j k:Nat}(hend:j=n1∨(j<n1/\k=n2)){Q:Fin->Shared->Prop}
  (hz:IsZip s.heap z TI TO .none) (hTI:IsPair s.heap TI (.ref i1) (.ref i2)) (hTO:IsPair s.heap TO a b) (t1:S1 j s.heap) (t2:S2 k s.heap)
  (hE:∀ h' e tk,(∀ c o,c≠z->c≠TO->c≠i1->c≠i2->s.heap.get? c=some o->h'.get? c=some o)->(∃ o,h'.get? e=some o/\o.cls = .type "StopIteration")->E (.ref e) { s with heap:=h',toks:=tk }) :
  wpAny (model prog w) A (Builtin.«zip.__next__» ⟨[.ref z],[]⟩) Q E s:=by
 obtain⟨e1,e2,e3,e4,e5,e6,e7⟩:=D.ne1
 show wpAny _ _ (field (.ref z) 2 >>= _) _ _ _
 refine wpAny_bind (wpAny_field (x:=.bool false) hz rfl rfl ?_)
 show wpAny _ _ (field (.ref z) 3 >>= _) _ _ _
 refine wpAny_bind (wpAny_field (x:=.ref TI) hz rfl rfl (wpAny_bind (wpAny_seqItems hTI rfl ?_)))
 show wpAny _ _ (Builtin.SmallTypes.ownedTupleIsFree (.ref z) >>= _) _ _ _
 unfold Builtin.SmallTypes.ownedTupleIsFree
 refine wpAny_bind (wpAny_bind (wpAny_field (x:=.none) hz rfl rfl (wpAny_pure ?_)))
 simp only[if_true]
 refine wpAny_bind (wpAny_rule (wpAny_bind (wpAny_field (x:=.ref TO) hz rfl rfl (wpAny_bind (wpAny_setField_rec hz (by simp) λha za ka=>wpAny_bind ?_)))))
 have za:IsZip ha z TI TO .ellipsis:=za
 have stop:∀ (h:Heap) (zh:IsZip h z TI TO .ellipsis) (e:Addr) (tk:Nat) (h2:Heap) (ih:Addr),z≠ih->Heap.ExtBut ih h h2->(∃ o,h2.get? e=some o/\o.cls = .type "StopIteration")->(∀ c o,c≠z->c≠TO->c≠i1->c≠i2->s.heap.get? c=some o->h2.get? c=some o) ->
   wpAny (model prog w) A (setField (.ref z) 0 .none) (λ_ s'=>E (.ref e) s') E { s with heap:=h2,toks:=tk }:=by
  rintro h zh e tk h2 ih hne kx ⟨oe,hoe,hce⟩ kk
  have z2:IsZip h2 z TI TO .ellipsis:=kx _ _ hne zh
  have nez:e≠z:=λq=>by subst q;rw[z2] at hoe;cases hoe;simp at hce
  exact wpAny_setField_rec z2 (by simp) λh3 _ k3=>hE h3 e tk (λc o q1 q2 q3 q4 x=>k3.extBut _ _ q1 (kk c o q1 q2 q3 q4 x)) ⟨oe,k3.extBut _ _ nez hoe,hce⟩
 simp only[List.zipIdx_cons,List.zipIdx_nil,List.forIn_cons,List.forIn_nil]
 refine wpAny_bind (wpAny_bind (wpAny_onRaise ?_))
 show wpAny _ _ (Builtin.SmallTypes.nextOf (.ref i1) >>= _) _ _ _
 have t1':=W1.frame _ _ _ t1 λc hc o e=>ka.extBut c o (dj D.z1 hc) e
 rcases hend with rfl |⟨hj,rfl⟩
 ·refine wpAny_bind (W1.done _ _ _ t1' λh2 e k2 he=>?_)
  exact stop ha za e s.toks h2 i1 (Ne.symm e1) k2 he λc o q1 q2 q3 q4 x=>k2 _ _ q3 (ka.extBut _ _ q1 x)
 ·refine wpAny_bind (W1.item j _ _ _ hj t1' λx hb tb px tb1 kb=>wpAny_pure ?_)
  have ob:IsPair hb TO a b:=kb.extBut _ _ (Ne.symm e2) (ka.extBut _ _ D.oz hTO)
  refine wpAny_bind (wpAny_seqItems ob rfl (wpAny_bind (wpAny_updateSeq_pair ob λhc oc kc=>wpAny_bind (wpAny_letGo (wpAny_pure ?_)))))
  refine wpAny_bind (wpAny_bind (wpAny_onRaise ?_))
  show wpAny _ _ (Builtin.SmallTypes.nextOf (.ref i2) >>= _) _ _ _
  have t2':=W2.frame _ _ _ t2 λc hm o e=>kc.extBut c o (dj D.o2 hm) (kb.extBut _ _ (dj D.x2 hm) (ka.extBut _ _ (dj D.z2 hm) e))
  have zc:IsZip hc z TI TO .ellipsis:=kc.extBut _ _ (Ne.symm D.oz) (kb.extBut _ _ (Ne.symm e1) za)
  refine wpAny_bind (W2.done _ _ _ t2' λh2 e k2 he=>?_)
  exact stop hc zc e tb h2 i2 (Ne.symm e4) k2 he λc o q1 q2 q3 q4 x=>k2 _ _ q4 (kc.extBut _ _ q2 (kb.extBut _ _ q3 (ka.extBut _ _ q1 x)))
end
def QAt (k:Bool)(h:Heap)(a:Addr)(items:Array Value):Prop:=match k with
 |true=>h.IsTuple a items
 |false=>h.IsList a items
def QIt (k:Bool)(h:Heap)(it a:Addr)(i:Nat):Prop:=match k with
 |true=>h.IsTupleIter it a i
 |false=>h.IsListIter it a i
def itO (k:Bool)(a:Addr):Obj:=match k with
 |true => { cls:=.type "tuple_iterator",data:=.fields #[.ref a,.int 0 0] }
 |false => { cls:=.type "list_iterator",data:=.fields #[.ref a,.int 0 0] }
section
variable {prog:Program}{w:World}{A:Around}{E:Value->Shared->Prop}{s:Shared}
theorem QAt.keep {k:Bool}{h h':Heap}{a:Addr}{items:Array Value}(x:QAt k h a items)(e:∀ o,h.get? a=some o->h'.get? a=some o):QAt k h' a items:=by
 cases k with
 |true=>obtain⟨o,ho,r⟩:=(x:h.IsTuple a items);exact⟨o,e o ho,r⟩
 |false=>obtain⟨o,ho,r⟩:=(x:h.IsList a items);exact⟨o,e o ho,r⟩
theorem QIt.keep {k:Bool}{h h':Heap}{it a:Addr}{i:Nat}(x:QIt k h it a i)(e:∀ o,h.get? it=some o->h'.get? it=some o):QIt k h' it a i:=by
 cases k with
 |true=>obtain⟨o,ho,r⟩:=(x:h.IsTupleIter it a i);exact⟨o,e o ho,r⟩
 |false=>obtain⟨o,ho,r⟩:=(x:h.IsListIter it a i);exact⟨o,e o ho,r⟩
theorem QIt.obj {k:Bool}{h:Heap}{it a:Addr}{i:Nat}(x:QIt k h it a i):∃ o,h.get? it=some o/\∀ v,o.data≠.cell v:=by
 cases k with
 |true=>obtain⟨o,ho,_,hd⟩:=(x:h.IsTupleIter it a i);exact⟨o,ho,λv z=>by rw[hd] at z;cases z⟩
 |false=>obtain⟨o,ho,_,hd⟩:=(x:h.IsListIter it a i);exact⟨o,ho,λv z=>by rw[hd] at z;cases z⟩
theorem QAt.lt {k:Bool}{h:Heap}{a:Addr}{items:Array Value}(x:QAt k h a items):a<h.objs.size:=by
 cases k with
 |true=>obtain⟨o,ho,_⟩:=(x:h.IsTuple a items);exact Heap.lt_size ho
 |false=>obtain⟨o,ho,_⟩:=(x:h.IsList a items);exact Heap.lt_size ho
theorem Draws.seq (k:Bool)(hh:A.handled=none)(it a:Addr)(hne:a≠it)(items:Array Value):Draws prog w A it [it,a] items.size (λi v=>items[i]?=some v) (λi h=>QIt k h it a i/\QAt k h a items):=by
 cases k with
 |true=>exact Draws.tup hh it a hne items
 |false=>exact Draws.list hh it a hne items
theorem u_ {k:Bool}{a:Addr}{items:Array Value}{Q:Value->Shared->Prop}(x:QAt k s.heap a items)(h:Q (.ref s.heap.objs.size) { s with heap:=s.heap.push (itO k a) }):wpAny (model prog w) A (pyIter (.ref a)) Q E s:=by
 cases k with
 |true=>exact wpAny_pyIter_tuple (show s.heap.IsTuple a items from x) h
 |false=>exact wpAny_pyIter_list (show s.heap.IsList a items from x) h
end
abbrev zp1 (k1:Bool)(h:Heap)(a:Addr):Heap:=h.push (itO k1 a)
abbrev zp2 (k1 k2:Bool)(h:Heap)(a b:Addr):Heap:=(zp1 k1 h a).push (itO k2 b)
abbrev zp3 (k1 k2:Bool)(h:Heap)(a b:Addr):Heap:=(zp2 k1 k2 h a b).push { cls:=.type "tuple",data:=.seq #[.ref h.objs.size,.ref (zp1 k1 h a).objs.size] }
abbrev zp4 (k1 k2:Bool)(h:Heap)(a b:Addr):Heap:=(zp3 k1 k2 h a b).push { cls:=.type "tuple",data:=.seq #[.none,.none] }
abbrev zp5 (k1 k2:Bool)(h:Heap)(a b:Addr):Heap:=(zp4 k1 k2 h a b).push { cls:=.type "zip",data:=.fields #[.none,.bool false,.bool false,.ref (zp2 k1 k2 h a b).objs.size,.ref (zp3 k1 k2 h a b).objs.size] }
theorem zx (k1 k2:Bool)(a b:Addr)(xs ys:Array Value):Meets (Builtin.«zip.__new__» ⟨[.type "zip",.ref a,.ref b],[]⟩) (λ_ R s=>QAt k1 s.heap a xs/\QAt k2 s.heap b ys /\
   R (.ok (.ret (.ref (zp4 k1 k2 s.heap a b).objs.size))) { s with heap:=zp5 k1 k2 s.heap a b }):=
 .of_wp λprog w A R s h=>by
  obtain⟨hp,g,d,tk,os⟩:=s;obtain⟨ha,hb,h⟩:=h
  have hs:=sub_zip
  have ga:QAt k1 (Shared.heap ⟨hp,g,d,tk,os⟩) a xs:=ha
  have gb:QAt k2 (Shared.heap ⟨hp.push (itO k1 a),g,d,tk,os⟩) b ys:=QAt.keep (show QAt k2 hp b ys from hb) λo e=>Heap.get?_push_of_some _ e
  wp_walk using u_ ga,u_ gb
  exact⟨_,rfl,h⟩
section
variable {prog:Program}{w:World}{A:Around}{E:Value->Shared->Prop}{s:Shared}
theorem xh {k1 k2:Bool}{a b:Addr}{xs ys:Array Value}{Q:Value->Shared->Prop}(ha:QAt k1 s.heap a xs)(hb:QAt k2 s.heap b ys)
  (h:∀ h',IsZip h' (s.heap.objs.size+4) (s.heap.objs.size+2) (s.heap.objs.size+3) .none->IsPair h' (s.heap.objs.size+2) (.ref s.heap.objs.size) (.ref (s.heap.objs.size+1)) ->
   IsPair h' (s.heap.objs.size+3) .none .none->QIt k1 h' s.heap.objs.size a 0->QIt k2 h' (s.heap.objs.size+1) b 0->(∀ c o,s.heap.get? c=some o->h'.get? c=some o)->Q (.ref (s.heap.objs.size+4)) { s with heap:=h' }) :
  wpAny (model prog w) A (call (.type "zip") [.ref a,.ref b]) Q E s:=by
 refine callType_new F.called_zip (by decide) (F.typeCall_zip_2 _ _) (F.newCall_zip_2 _ _) (λobj=>F.args_object_init_3 obj _ _) F.entry_zip_new (zx k1 k2 a b xs ys) ⟨ha,hb,?_⟩
 have c1:(zp1 k1 s.heap a).objs.size=s.heap.objs.size+1:=Heap.size_push ..
 have c2:(zp2 k1 k2 s.heap a b).objs.size=s.heap.objs.size+2:=by rw[Heap.size_push,c1]
 have c3:(zp3 k1 k2 s.heap a b).objs.size=s.heap.objs.size+3:=by rw[Heap.size_push,c2]
 have c4:(zp4 k1 k2 s.heap a b).objs.size=s.heap.objs.size+4:=by rw[Heap.size_push,c3]
 have up1:∀ c o,(zp4 k1 k2 s.heap a b).get? c=some o->(zp5 k1 k2 s.heap a b).get? c=some o:=λc o e=>Heap.get?_push_of_some _ e
 have up2:∀ c o,(zp3 k1 k2 s.heap a b).get? c=some o->(zp5 k1 k2 s.heap a b).get? c=some o:=λc o e=>up1 _ _ (Heap.get?_push_of_some _ e)
 have up3:∀ c o,(zp2 k1 k2 s.heap a b).get? c=some o->(zp5 k1 k2 s.heap a b).get? c=some o:=λc o e=>up2 _ _ (Heap.get?_push_of_some _ e)
 have up4:∀ c o,(zp1 k1 s.heap a).get? c=some o->(zp5 k1 k2 s.heap a b).get? c=some o:=λc o e=>up3 _ _ (Heap.get?_push_of_some _ e)
 have g5:(zp5 k1 k2 s.heap a b).get? (zp4 k1 k2 s.heap a b).objs.size=some _:=Heap.get?_push_size _ rfl
 have g4:(zp5 k1 k2 s.heap a b).get? (zp3 k1 k2 s.heap a b).objs.size=some _:=up1 _ _ (Heap.get?_push_size _ rfl)
 have g3:(zp5 k1 k2 s.heap a b).get? (zp2 k1 k2 s.heap a b).objs.size=some _:=up2 _ _ (Heap.get?_push_size _ rfl)
 have fr:∀ k c,(itO k c).isFreed=false:=λk c=>by cases k<;>rfl
 have g2:(zp5 k1 k2 s.heap a b).get? (zp1 k1 s.heap a).objs.size=some (itO k2 b):=up3 _ _ (Heap.get?_push_size _ (fr k2 b))
 have g1:(zp5 k1 k2 s.heap a b).get? s.heap.objs.size=some (itO k1 a):=up4 _ _ (Heap.get?_push_size _ (fr k1 a))
 have it:∀ (k:Bool) (c i:Addr),(zp5 k1 k2 s.heap a b).get? i=some (itO k c)->QIt k (zp5 k1 k2 s.heap a b) i c 0:=λk c i e=>by
  cases k with
  |true=>exact⟨_,e,rfl,rfl⟩
  |false=>exact⟨_,e,rfl,rfl⟩
 show _/\_
 rw[c4] at g5 ⊢
 rw[c3] at g4 g5
 rw[c2] at g3 g5
 rw[c1] at g2 g3
 exact⟨⟨_,g5,rfl⟩,h _ g5 g3 g4 (it _ _ _ g1) (it _ _ _ g2) λc o x=>up4 _ _ (Heap.get?_push_of_some _ x)⟩
end
def SqK (k:Bool)(K:PySem.W.Frag)(H:Hp)(a:Addr)(xs:List V):Prop:=match k with
 |true=>SqT K H a xs
 |false=>SqL K H a xs
section
variable {X:Cx}{pins:List (Addr×Obj)}{σ:St}{H:Hp}{s:Shared}
theorem Inv.seqK {k:Bool}{a:Addr}{xs:List V}(I:Inv X pins σ H s)(h:SqK k X.K H a xs):∃ its:List Value,Vals xs its/\QAt k s.heap a its.toArray:=by
 cases k with
 |true=>obtain⟨its,r,p,_⟩:=I.tuple h;exact⟨its,r,p⟩
 |false=>obtain⟨its,r,⟨o,n,ho,hc,_,hd⟩,_⟩:=I.list h;exact⟨its,r,o,ho,hc,n,hd⟩
theorem Inv.seqK_inj {k:Bool}{a:Addr}{xs ys:List V}(I:Inv X pins σ H s)(h:SqK k X.K H a xs)(h':SqK k X.K H a ys):xs=ys:=by
 cases k with
 |true=>exact I.tuple_inj h h'
 |false=>exact I.list_inj h h'
end
theorem QAt.ne {k:Bool}{h:Heap}{a it c:Addr}{items:Array Value}{i:Nat}(x:QAt k h a items)(y:QIt k h it c i):a≠it:=λe=>by
 subst e
 cases k with
 |true =>
  obtain⟨o1,ho1,hc1,_⟩:=(x:h.IsTuple a items)
  obtain⟨o2,ho2,hc2,_⟩:=(y:h.IsTupleIter a c i)
  rw[ho1] at ho2;cases ho2;rw[hc1] at hc2
  exact absurd hc2 (by simp)
 |false =>
  obtain⟨o1,ho1,hc1,_⟩:=(x:h.IsList a items)
  obtain⟨o2,ho2,hc2,_⟩:=(y:h.IsListIter a c i)
  rw[ho1] at ho2;cases ho2;rw[hc1] at hc2
  exact absurd hc2 (by simp)
def Itz (K:PySem.W.Frag)(k1 k2:Bool)(a b:Addr)(n1 n2:Nat):It:=
 ⟨λi H=>i<n1/\i<n2/\∃ xs ys,SqK k1 K H a xs/\SqK k2 K H b ys/\xs.length=n1/\ys.length=n2,
  λi H v H' => ∃ p x y,H p=none/\v = .ref p/\H'=upd H p (.tup [x,y])/\(∀ xs,SqK k1 K H a xs->xs[i]?=some x)/\∀ ys,SqK k2 K H b ys->ys[i]?=some y,
  λi H=>(n1<=i∨n2<=i)/\∃ xs ys,SqK k1 K H a xs/\SqK k2 K H b ys/\xs.length=n1/\ys.length=n2⟩
structure ZSt (k1 k2:Bool) (a b z TI TO i1 i2:Addr) (n1 n2 i:Nat) (h:Heap):Prop where
 zip:IsZip h z TI TO .none
 its:IsPair h TI (.ref i1) (.ref i2)
 out:∃ u v,IsPair h TO u v
 fst:QIt k1 h i1 a i
 snd:QIt k2 h i2 b i
 le1:i<=n1
 le2:i<=n2
theorem xA {P:Program}{w:World}{K:PySem.W.Frag}{es:List Expr}{kk:Nat}{pt:Pos}(k1 k2:Bool)(a b z TI TO i1 i2:Addr)(n1 n2:Nat)(D:ZA z TI TO i1 i2 [i1,a] [i2,b]) :
  Turn P w K (.Tuple es kk pt) (Itz K k1 k2 a b n1 n2) [z,TI,TO,i1,i2] z (ZSt k1 k2 a b z TI TO i1 i2 n1 n2) where
 mem:=by simp
 obj:=λi h st c hc=>by
  simp only[List.mem_cons,List.not_mem_nil,or_false] at hc
  rcases hc with rfl |rfl |rfl |rfl |rfl
  ·exact⟨_,st.zip,λv q=>by cases q⟩
  ·exact⟨_,st.its,λv q=>by cases q⟩
  ·obtain⟨u,v,e⟩:=st.out;exact⟨_,e,λv q=>by cases q⟩
  ·exact st.fst.obj
  ·exact st.snd.obj
 keep:=λi h h' st kp=>by
  obtain⟨u,v,e⟩:=st.out
  exact⟨kp _ (by simp) _ st.zip,kp _ (by simp) _ st.its,⟨u,v,kp _ (by simp) _ e⟩,st.fst.keep λo e=>kp _ (by simp) o e,st.snd.keep λo e=>kp _ (by simp) o e,st.le1,st.le2⟩
 item:=by
  intro X hP hw hK hc i pins s σ H E I hf st hg
  subst hP hw hK
  obtain⟨l1,l2,xs,ys,hx,hy,lx,ly⟩:=hg
  obtain⟨us,ru,pu⟩:=I.seqK hx
  obtain⟨vs,rv,pv⟩:=I.seqK hy
  obtain⟨u0,v0,eo⟩:=st.out
  have su:us.toArray.size=n1:=by rw[List.size_toArray,← ru.length,lx]
  have sv:vs.toArray.size=n2:=by rw[List.size_toArray,← rv.length,ly]
  have ne1:a≠i1:=pu.ne st.fst
  have ne2:b≠i2:=pv.ne st.snd
  have hT:s.TypeIs (.ref z) "zip":=⟨_,st.zip,rfl⟩
  unfold pyNext
  refine wpAny_bind (wpAny_attempt (wpAny_callSpecial?_slot (name:=Str.ofString "__next__") hT F.slot_zip_next (wpAny_call_entry F.slot_zip_next hT F.entry_zip_next ?_ (F.args_zip_next_1 _))))
  refine xt D (Draws.seq (A:=X.A.in1) k1 (I.ok.hd hc) i1 a ne1 us.toArray) (Draws.seq (A:=X.A.in1) k2 (I.ok.hd hc) i2 b ne2 vs.toArray) (j:=i) (k:=i) (by omega) (by omega) st.zip st.its eo ⟨st.fst,pu⟩ ⟨st.snd,pv⟩
   λu v h' tk hu hv z' o' f' g' new size kp=>wpAny_pure ⟨_,rfl,wpAny_letOwnedTupleGo_zip (s:={ s with heap:=h',toks:=tk }) z' λh2 z2 k2=>?_⟩
  have hu:us[i]?=some u:=by simpa using hu
  have hv:vs[i]?=some v:=by simpa using hv
  obtain⟨x,ex⟩:∃ x,xs[i]?=some x:=⟨_,List.getElem?_eq_getElem (by omega)⟩
  obtain⟨y,ey⟩:∃ y,ys[i]?=some y:=⟨_,List.getElem?_eq_getElem (by omega)⟩
  obtain⟨u',e1,rx⟩:=ru.get ex
  rw[hu] at e1;cases e1
  obtain⟨v',e2,ry⟩:=rv.get ey
  rw[hv] at e2;cases e2
  have hn:H s.heap.objs.size=none:=I.fresh
  have kq:∀ c o,c≠z->c≠TO->c≠i1->c≠i2->s.heap.get? c=some o->h2.get? c=some o:=λc o q1 q2 q3 q4 e=>(k2.2 c q1).trans (kp c o q1 q2 q3 q4 e)
  have nz:s.heap.objs.size≠z:=Nat.ne_of_gt (Heap.lt_size st.zip)
  have hT2:IsPair h2 s.heap.objs.size u v:=(k2.2 _ nz).trans new
  have neH:∀ c o,H c=some o->c≠s.heap.objs.size:=λc o q=>aN q hn
  have chz:∀ c∈[z,TO,i1,i2],c∈[z,TI,TO,i1,i2]:=λc hc=>by
   simp only[List.mem_cons,List.not_mem_nil,or_false] at hc ⊢
   rcases hc with h |h |h |h
   ·exact .inl h
   ·exact .inr (.inr (.inl h))
   ·exact .inr (.inr (.inr (.inl h)))
   ·exact .inr (.inr (.inr (.inr h)))
  have nm:∀ {c:Addr},c∉[z,TO,i1,i2]->c≠z/\c≠TO/\c≠i1/\c≠i2:=λ{c} h=>by simpa using h
  have kc:∀ c o,c∉[z,TO,i1,i2]->s.heap.get? c=some o->h2.get? c=some o:=λc o h e=>kq c o (nm h).1 (nm h).2.1 (nm h).2.2.1 (nm h).2.2.2 e
  have out:∀ c o,H c=some o->c∉[z,TO,i1,i2]:=λc o q hc=>by
   have:=(hf c (chz c hc)).1
   rw[this] at q;cases q
  have I1:Inv X pins σ (upd H s.heap.objs.size (.tup [x,y])) { s with heap:=h2,toks:=tk }:=by
   refine I.step (h':=h2) (g':=s.gens) (d':=s.drawn) (t':=tk) (ch:=[z,TO,i1,i2]) (λc hc=>?_) (λc o _ _ hc e _=>kc c o hc e) (λc o _ _ hc e _=>⟨o.slots,kc c o hc e⟩)
    (λc o _ e n'=>by rw[aF (Nat.ne_of_lt (Heap.lt_size e))];exact n') (λc o hc e=>⟨o,kc c o hc e⟩)
    (λc xs q=>by rw[aF (neH c _ q)];exact q) (λc o xs q=>by rw[aF (neH c _ q)];exact q) (λc ps q=>⟨#[],by rw[aF (neH c _ q),q];simp⟩)
    (λm hm=>?_) (λc o q=>?_) I.bare
   ·obtain⟨_,g1,_,g3,g4,g5⟩:=hf c (chz c hc)
    exact⟨g3,g1,g4,g5⟩
   ·obtain⟨o,es,ep,ho,r⟩:=hm
    exact⟨o,es,ep,kq _ o (Ne.symm (hf z (by simp)).2.1) (Ne.symm (hf TO (by simp)).2.1) (Ne.symm (hf i1 (by simp)).2.1) (Ne.symm (hf i2 (by simp)).2.1) ho,r⟩
   ·by_cases hb:c=s.heap.objs.size
    ·subst hb
     rw[upd_same] at q
     cases q
     exact⟨by show 2<=sizeLine;decide,[u,v],.cons rx (.cons ry .nil),_,hT2⟩
    ·rw[aF hb] at q
     refine (I.hok c o q).stay (λd v' hc' e=>kc d v' ?_ e) (λd e=>by rw[aF (neH d _ e)];exact e) λd xs e=>by rw[aF (neH d _ e)];exact e
     rcases hc' with rfl |hc'
     ·exact out _ _ q
     ·exact out _ _ hc'
  refine⟨.ref s.heap.objs.size,_,I1,rfl,⟨_,x,y,hn,rfl,rfl,λxs' h'=>by rw[I.seqK_inj h' hx];exact ex,λys' h'=>by rw[I.seqK_inj h' hy];exact ey⟩,?_,λc hc=>?_⟩
  ·have kz:∀ c o,c≠z->h'.get? c=some o->h2.get? c=some o:=λc o q e=>(k2.2 c q).trans e
   obtain⟨n1',n2',n3',n4',n5',n6',n7'⟩:=D.ne1
   exact⟨z2,kq _ _ D.tz D.to n6' n7' st.its,⟨u,v,kz _ _ D.oz o'⟩,f'.1.keep λo e=>kz _ o n1' e,g'.1.keep λo e=>kz _ o n4' e,by omega,by omega⟩
  ·have hlt:c<s.heap.objs.size:=by
    have q:∃ o,s.heap.get? c=some o:=by
     simp only[List.mem_cons,List.not_mem_nil,or_false] at hc
     rcases hc with rfl |rfl |rfl |rfl |rfl
     ·exact⟨_,st.zip⟩
     ·exact⟨_,st.its⟩
     ·exact⟨_,eo⟩
     ·obtain⟨o,ho,_⟩:=st.fst.obj;exact⟨o,ho⟩
     ·obtain⟨o,ho,_⟩:=st.snd.obj;exact⟨o,ho⟩
    obtain⟨o,ho⟩:=q
    exact Heap.lt_size ho
   rw[aF (Nat.ne_of_lt hlt)]
   exact (hf c hc).1
 done:=by
  intro X hP hw hK hc i pins s σ H E I hf st hg
  subst hP hw hK
  obtain⟨le,xs,ys,hx,hy,lx,ly⟩:=hg
  obtain⟨us,ru,pu⟩:=I.seqK hx
  obtain⟨vs,rv,pv⟩:=I.seqK hy
  obtain⟨u0,v0,eo⟩:=st.out
  have su:us.toArray.size=n1:=by rw[List.size_toArray,← ru.length,lx]
  have sv:vs.toArray.size=n2:=by rw[List.size_toArray,← rv.length,ly]
  have ne1:a≠i1:=pu.ne st.fst
  have ne2:b≠i2:=pv.ne st.snd
  have hT:s.TypeIs (.ref z) "zip":=⟨_,st.zip,rfl⟩
  have e1:=st.le1
  have e2:=st.le2
  unfold pyNext
  refine wpAny_bind (wpAny_attempt (wpAny_callSpecial?_slot (name:=Str.ofString "__next__") hT F.slot_zip_next (wpAny_call_entry F.slot_zip_next hT F.entry_zip_next ?_ (F.args_zip_next_1 _))))
  refine zy D (Draws.seq (A:=X.A.in1) k1 (I.ok.hd hc) i1 a ne1 us.toArray) (Draws.seq (A:=X.A.in1) k2 (I.ok.hd hc) i2 b ne2 vs.toArray) (j:=i) (k:=i) (by omega) st.zip st.its eo ⟨st.fst,pu⟩ ⟨st.snd,pv⟩ λh' e tk kp he=>?_
  obtain⟨o,ho,hce⟩:=he
  refine wpAny_bind (wpAny_isInstance (T:="StopIteration") (b:=true) ⟨o,ho,hce⟩ isSubtype_stop ?_)
  refine wpAny_pure ⟨rfl,?_⟩
  have chz:∀ c∈[z,TO,i1,i2],c∈[z,TI,TO,i1,i2]:=λc hc=>by
   simp only[List.mem_cons,List.not_mem_nil,or_false] at hc ⊢
   rcases hc with h |h |h |h
   ·exact .inl h
   ·exact .inr (.inr (.inl h))
   ·exact .inr (.inr (.inr (.inl h)))
   ·exact .inr (.inr (.inr (.inr h)))
  have kc:∀ c o,c∉[z,TO,i1,i2]->s.heap.get? c=some o->h'.get? c=some o:=λc o h e=>by
   have h:c≠z/\c≠TO/\c≠i1/\c≠i2:=by simpa using h
   exact kp c o h.1 h.2.1 h.2.2.1 h.2.2.2 e
  have out:∀ c o,H c=some o->c∉[z,TO,i1,i2]:=λc o q hc=>by
   have:=(hf c (chz c hc)).1
   rw[this] at q;cases q
  refine I.step (h':=h') (g':=s.gens) (d':=s.drawn) (t':=tk) (ch:=[z,TO,i1,i2]) (λc hc=>?_) (λc o _ _ hc e _=>kc c o hc e) (λc o _ _ hc e _=>⟨o.slots,kc c o hc e⟩)
   (λ_ _ _ _ n=>n) (λc o hc e=>⟨o,kc c o hc e⟩) (λ_ _ e=>e) (λ_ _ _ e=>e) (λc ps e=>⟨#[],by rw[e];simp⟩) (λm hm=>?_) (λc o q=>?_) I.bare
  ·obtain⟨_,g1,_,g3,g4,g5⟩:=hf c (chz c hc)
   exact⟨g3,g1,g4,g5⟩
  ·obtain⟨o,es,ep,ho,r⟩:=hm
   exact⟨o,es,ep,kp _ o (Ne.symm (hf z (by simp)).2.1) (Ne.symm (hf TO (by simp)).2.1) (Ne.symm (hf i1 (by simp)).2.1) (Ne.symm (hf i2 (by simp)).2.1) ho,r⟩
  ·refine (I.hok c o q).stay (λd v' hc' e=>kc d v' ?_ e) (λd e=>e) λd xs e=>e
   rcases hc' with rfl |hc'
   ·exact out _ _ q
   ·exact out _ _ hc'
 self:=by
  intro A i s Q E st h
  exact wpAny_pyIter_zip st.zip h
def pP:List D->List D->List D
 |d::ds,e::es => .tup [d,e]::pP ds es
 |_,_=>[]
theorem fP:∀ ds es:List D,(pP ds es).length=min ds.length es.length
 |[],es=>by simp[pP]
 |d::ds,[]=>by simp[pP]
 |d::ds,e::es=>by simp only[pP,List.length_cons,fP ds es];omega
theorem rc:∀ (ds es:List D) (i:Nat) {d e:D},ds[i]?=some d->es[i]?=some e->(pP ds es)[i]?=some (.tup [d,e])
 |[],_,_,_,_,h,_=>by simp at h
 |_::_,[],_,_,_,_,h=>by simp at h
 |a::ds,b::es,0,d,e,h,g=>by
  have h:a=d:=by simpa using h
  have g:b=e:=by simpa using g
  subst h g;rfl
 |a::ds,b::es,i+1,d,e,h,g=>by
  rw[pP,List.getElem?_cons_succ]
  exact rc ds es i (by simpa using h) (by simpa using g)
def xu:List D->Option (List D)
 |[x,y]=>(ub x).bind λxs=>(ub y).map λys=>pP xs ys
 |_=>none
section
variable {X:Cx}{W:WT}
theorem xK {H:Hp}{J:List Addr}{d:D}{v:V}{xs:List D}(m:At X.K H J d v)(h:ub d=some xs):∃ (k:Bool) (a:Addr) (vs:List V),v = .ref a/\Ats X.K H J xs vs/\vs.length<=sizeLine/\∀ J' H',Ex J H J' H'->SqK k X.K H' a vs:=by
 cases d with
 |tup ds=>cases h;obtain⟨a,vs,rfl,tq,m⟩:=At.tup_iff.mp m;exact⟨true,a,vs,rfl,m,tq.len,λJ' H' x=>(tq.ex x).sq⟩
 |lst ds=>cases h;obtain⟨a,vs,rfl,tq,m⟩:=At.lst_iff.mp m;exact⟨false,a,vs,rfl,m,tq.len,λJ' H' x=>(tq.ex x).sq⟩
 |_=>cases h
theorem Walk.zip {k1 k2:Bool}{a b:Addr}{ds es:List D}{xs ys:List V}{J:List Addr}{H:Hp}(m1:Ats X.K H J ds xs)(m2:Ats X.K H J es ys)(l1:xs.length<=sizeLine)(q1:∀ J' H',Ex J H J' H'->SqK k1 X.K H' a xs)(q2:∀ J' H',Ex J H J' H'->SqK k2 X.K H' b ys) :
  Walk X (Itz X.K k1 k2 a b xs.length ys.length) (pP ds es) J H where
 len:=by rw[fP,m1.length];omega
 go:=λJ1 H1 i x hi=>by
  rw[fP,m1.length,m2.length] at hi
  exact⟨by omega,by omega,xs,ys,q1 _ _ x,q2 _ _ x,rfl,rfl⟩
 yld:=λJ1 H1 i v H' x hJ hi y=>by
  obtain⟨p,u,w,hn,rfl,rfl,hu,hw⟩:=y
  obtain⟨d,e1,a1⟩:=(m1.ex x).get' (hu xs (q1 _ _ x))
  obtain⟨e,e2,a2⟩:=(m2.ex x).get' (hw ys (q2 _ _ x))
  exact⟨.tup [d,e],rc ds es i e1 e2,At.newTup (.cons a1 (.cons a2 .nil)) hn hJ (by show 2<=sizeLine;decide),aS hn _⟩
 stop:=λJ1 H1 i x hi=>by
  rw[fP,m1.length,m2.length] at hi
  exact⟨by omega,xs,ys,q1 _ _ x,q2 _ _ x,rfl,rfl⟩
theorem nm2 {x a b:Nat}(h1:x≠a)(h2:x≠b):(x:Addr)∉([a,b]:List Addr):=λh=>by
 rcases List.mem_cons.mp h with e |h
 ·exact h1 e
 ·exact h2 (List.mem_singleton.mp h)
theorem CM (N A B:Nat)(h1:A<N)(h2:B<N):ZA (N+4) (N+2) (N+3) N (N+1) [N,A] [N+1,B]:=
 ⟨List.mem_cons_self ..,List.mem_cons_self ..,nm2 (by omega) (by omega),nm2 (by omega) (by omega),nm2 (by omega) (by omega),nm2 (by omega) (by omega),nm2 (by omega) (by omega),nm2 (by omega) (by omega),
  (by omega:(N+3:Nat)≠N+4),(by omega:(N+2:Nat)≠N+4),(by omega:(N+2:Nat)≠N+3),nm2 (by omega) (by omega),nm2 (by omega) (by omega)⟩
theorem Ec {N b:Nat}(h:(b:Addr)∈([N+4,N+2,N+3,N,N+1]:List Addr)):N<=b:=by
 simp only[List.mem_cons,List.not_mem_nil,or_false] at h
 have h:b=N+4∨b=N+2∨b=N+3∨b=N∨b=N+1:=h
 omega
theorem boot_zip:bootBuiltins "zip"=some (.type "zip"):=by decide +kernel
theorem xF {es:List Expr}{k:Nat}{pt p pos:Pos}{a b:Expr}{t:Rho->Sto->Out (List D)}{x:Str}(hx:x="zip")(hm:X.mg x=none)(ha:SA X W [a,b] t)(hg:Gl X x:=by rfl)
  (he:starEach (a::[b]) X.env=(false,eval a X.env)::starEach [b] X.env:=by rfl) (hpl:(backTo pos (starEach [b] X.env)).any (·.1)=false:=by rfl):SI X W (.Tuple es k pt) (.Call (.Name x p) [a,b] [] pos) (gR xu t):=by
 subst hx
 intro pins s σ H R I h
 refine wpAny_Call_Name_kw (lg I hg hm boot_zip ?_ (by decide) (by decide))
 refine callWith_type1 (thn (ha pos pins s σ H _ I (km h)) λus s1 ⟨vs,H1,I1,r1,J,S,es',ds,so,m,hk,z⟩=>?_) he hpl
 unfold xu at hk
 split at hk
 ·rename_i dx dy
  obtain⟨xs,h1,h2⟩:=Option.bind_eq_some_iff.mp hk
  obtain⟨ys,h3,h4⟩:=Option.map_eq_some_iff.mp h2
  subst h4
  obtain⟨v1,r,rfl,a1,n⟩:=Ats.cons_iff.mp m
  obtain⟨v2,r',rfl,a2,n⟩:=Ats.cons_iff.mp n
  cases Ats.nil_iff.mp n
  obtain⟨k1,A1,w1,rfl,m1,lw1,q1⟩:=xK a1 h1
  obtain⟨k2,A2,w2,rfl,m2,lw2,q2⟩:=xK a2 h3
  obtain⟨u1,u2,rfl,ru1,ru2⟩:=vals2 r1
  cases ru1
  cases ru2
  obtain⟨its1,rv1,p1⟩:=I1.seqK (q1 _ _ Ex.refl)
  obtain⟨its2,rv2,p2⟩:=I1.seqK (q2 _ _ Ex.refl)
  have l1:=p1.lt
  have l2:=p2.lt
  refine xh p1 p2 λh' g1 g2 g3 g4 g5 kp=>?_
  have I2:Inv X pins σ H1 { s1 with heap:=h' }:=I1.kept (t':=s1.toks) kp
  refine wpAny_pyIter_zip g1 ?_
  generalize hN:s1.heap.objs.size=N at *
  refine⟨N+4,[N+4,N+2,N+3,N,N+1],_,Itz X.K k1 k2 A1 A2 w1.length w2.length,H1,rfl,I2,xA k1 k2 A1 A2 (N+4) (N+2) (N+3) N (N+1) w1.length w2.length ?_,⟨g1,g2,⟨_,_,g3⟩,g4,g5,Nat.zero_le _,Nat.zero_le _⟩,λb hb=>?_,z H1 _ (Same.refl _) (Walk.zip m1 m2 lw1 q1 q2)⟩
  ·exact CM N A1 A2 l1 l2
  ·have hb':N<=b:=Ec hb
   exact I1.fpOk (by rw[hN];exact hb') (I1.hok.fresh (by rw[hN];exact hb'))
 ·cases hk
end
section
variable {P:Program}{w:World}{K:PySem.W.Frag}{mg:Str->Option Value}{base:Heap}{x:Str}{st:Stmt}{ps:List Str}{k:Nat}{F:List D->Sto->Out D}
def ow (P:Program)(w:World)(K:PySem.W.Frag)(mg:Str->Option Value)(base:Heap)(k:Nat)(x:Str)(st:Stmt)(ps:List Str)(F:List D->Sto->Out D):Prop:=
 ∀ f fd,Fun K x x st f fd->FnD P w K mg base k f fd ps F/\Binds K fd ps []
theorem jl {sc:Scope}{N:List Str}{G:Rho->Sto->Out Fl}(b:BD x x st ps)(hsc:aj st=sc)(Sc:FnScope N ps sc)
  (h:∀ (f:Addr) (cdv:Value) (A:Around) (outer:List Env) (s:Shared) (H:Hp) (E:XK),Room k (A.deeper (envOfC x sc s.heap.objs.size f cdv))->SSs (lq CX0 P w K mg base N x sc f cdv A outer s H E).nox W0 (bL st) G) :
  ow P w K mg base (k+1) x st ps (aZ ps.length (N.length-ps.length) G):=λ_ _ Fn=>⟨jQ Fn hsc Sc h,Fn.binds b⟩
theorem Bd (Dd:bg K mg x st ps)(h:ow P w K mg base k x st ps F):Cal P w K mg base k x ps F:=by
 obtain⟨f,fd,Fn,hm,hb⟩:=Dd
 exact⟨f,fd,(h f fd Fn).1,hm,Fn.kp,hb⟩
end
section
variable {X:Cx}{W:WT}{x y:Str}{st:Stmt}{ps:List Str}{p pos:Pos}{e:Expr}{es:List Expr}{gs:Rho->Sto->Out (List D)}{ff:Rho->Sto->Out D}
theorem oO (h:bg X.K X.mg x st ps)(hg:Gl X x:=by rfl)(hd:(x==("__debug__":Str))=false:=by decide):SE X W (.Name x pos) (aB (.fn x st)):=by
 obtain⟨f,fd,Fn,hm,_⟩:=h
 exact zM hm ⟨.ref f,rfl,λH J=>At.fn_iff.mpr ⟨f,fd,rfl,Fn⟩⟩ hg hd
def Bp (ok:Addr->Sp->Prop)(E:XK)(ta:TE)(t:TA):TE:=λσ H Q=>ta σ H λv H1 => ∃ f sp,v = .ref f/\ok f sp/\t σ H1 λvs H2=>sp (vs++[]) H2 Q E
theorem x_ {CX:_}{E:XK}{ok:Addr->Sp->Prop}{ta:TE}{t:TA}(hok:∀ f sp,ok f sp->∃ k fd ps,FnOk X.prog X.w X.K X.mg X.base CX k f fd ps sp/\Room k X.A/\PySem.W.keepIn X.K (.ref f)=true/\Binds X.K fd ps [])(hx:Passes CX X E)
  (hf:PE X (.Name x p) ta) (ha:PA X (e::es) t) (he:starEach (e::es) X.env=(false,eval e X.env)::starEach es X.env:=by rfl) (hpl:(backTo pos (starEach es X.env)).any (·.1)=false:=by rfl) :
  PE X (.Call (.Name x p) (e::es) [] pos) (Bp ok E ta t):=by
 intro pins s σ H Q I h
 refine wpAny_Call_Name_kw (thn (hf pins s σ H _ I h) λu s1 ⟨v,H1,I1,rv,f,sp,ev,hk,q⟩=>?_)
 subst ev
 obtain rfl:u=Value.ref f:=rv
 obtain⟨k,fd,ps,F,hr,kp,hb⟩:=hok f sp hk
 refine PySem.W.callWith_K (h₀:=X.base) I.ok.mod.kin kp (thn (ha pos pins s1 σ H1 _ I1 q) λus s2 ⟨vs,H2,I2,r,q2⟩=>⟨I2.kIn,?_⟩) he hpl
 exact ug F hr hb .nil hx I2 r q2
abbrev FT:=List (Str×Stmt×(List D->Sto->Out D))
noncomputable def cH:FT->D->Option (List D->Sto->Out D)
 |[],_=>none
 |(x,st,F)::r,d => @ite _ (d = .fn x st) (Classical.propDecidable _) (some F) (cH r d)
noncomputable def iU (tab:FT) (ff:Rho->Sto->Out D) (gs:Rho->Sto->Out (List D)):Rho->Sto->Out D:=λρ S=>ag (ff ρ S) λd S1=>match cH tab d with
 |some F=>ag (gs ρ S1) λds S2=>gI (F ds S2)
 |none=>none
theorem rT:∀ {tab:FT}{d:D}{F:List D->Sto->Out D},cH tab d=some F->∃ x st,(x,st,F)∈tab/\d = .fn x st
 |[],_,_,h=>by cases h
 |(x,st,G)::r,d,F,h=>by
  unfold cH at h
  split at h
  ·rename_i e
   cases h
   exact⟨x,st,List.mem_cons_self ..,e⟩
  ·obtain⟨y,s2,m,e⟩:=rT h
   exact⟨y,s2,List.mem_cons_of_mem _ m,e⟩
def vT (X:Cx)(tab:FT):Prop:=∀ z∈tab,∃ k ps,ow X.prog X.w X.K X.mg X.base k z.1 z.2.1 ps z.2.2/\Room k X.A
theorem pU:vT X []:=λ_ h=>by cases h
theorem db {k:Nat}{F:List D->Sto->Out D}{tab:FT}(c:ow X.prog X.w X.K X.mg X.base k y st ps F)(hr:Room k X.A)(t:vT X tab):vT X ((y,st,F)::tab):=by
 intro z hz
 rcases List.mem_cons.mp hz with rfl |hz
 ·exact⟨k,ps,c,hr⟩
 ·exact t z hz
theorem nh {tab:FT}(hT:vT X tab)(hf:SE X W (.Name x p) ff)(ha:SA X W (e::es) gs)
  (he:starEach (e::es) X.env=(false,eval e X.env)::starEach es X.env:=by rfl) (hpl:(backTo pos (starEach es X.env)).any (·.1)=false:=by rfl) :
  SE X W (.Call (.Name x p) (e::es) [] pos) (iU tab ff gs):=by
 refine PE.imp (x_ (E:=E0) (ok:=λf sp => ∃ k fd ps F,sp=spD X.K F/\FnD X.prog X.w X.K X.mg X.base k f fd ps F/\Room k X.A/\PySem.W.keepIn X.K (.ref f)=true/\Binds X.K fd ps [])
  (λf sp h=>by obtain⟨k,fd,ps,F,rfl,h⟩:=h;exact⟨k,fd,ps,h⟩) vf hf ha he hpl) λσ H Q h=>(tG.bindE h).mono λv H1 ⟨d,h1⟩=>?_
 cases hp:cH tab d with
 |none =>
  obtain⟨J,ρ,S,r,S',cf,mm,ee,z⟩:=h1
  simp only[hp] at ee
  cases ee
 |some F =>
  simp only[hp] at h1
  obtain⟨y,st,hm,rfl⟩:=rT hp
  obtain⟨k,ps,ca,hr⟩:=hT _ hm
  have hv:∃ f fd,v = .ref f/\Fun X.K y y st f fd:=by
   obtain⟨J,ρ,S,r,S',cf,mm,ee,z⟩:=h1
   exact At.fn_iff.mp mm.uncons.1
  obtain⟨f,fd,rfl,Fn⟩:=hv
  obtain⟨fn,hb⟩:=ca f fd Fn
  refine⟨f,spD X.K F,rfl,⟨k,fd,ps,F,rfl,fn,hr,Fn.kp,hb⟩,(tG.bindA h1).mono λus H2 ⟨ds,hl,h3⟩=>?_⟩
  obtain⟨J,ρ,S,r,S',cf,mm,ee,z⟩:=h3
  obtain⟨m1,_⟩:=Ats.split hl mm
  have ee:gI (F ds S)=some (r,S'):=ee
  unfold gI at ee
  split at ee
  ·rename_i d2 S2 q
   cases ee
   exact⟨J,S,ds,d2,_,by rw[List.append_nil];exact m1,cf.sto,q,λJ' H' v x' s' m'=>z J' H' v x' s' m'⟩
  ·cases ee
end
section
variable {X:Cx}{W:WT}
theorem tX (l:Addr)(items:Array Value)(n:Nat)(dd:Option Addr)(sl:Array (Option Value))(t:Tok) :
  Meets (Builtin.«tuple.__mul__» ⟨[.ref l,.int 1 t],[]⟩) (λ_ R s=>s.heap.get? l=some { cls:=.type "tuple",dict:=dd,data:=.seq items n,slots:=sl }/\R (.ok (.ret (Value.ref l))) s):=
 .of_wp λprog w A R s h=>by
  obtain⟨hp,g,d,tk,os⟩:=s;obtain⟨hl,h⟩:=h
  have f1:=AutoSeq1.idx_int
  wp_walk using AutoSeq1.wpAny_loadPart' hl
  exact⟨_,rfl,h⟩
def iJ:D->D->Option D
 | .tup xs,.int n=>if n=1 then some (.tup xs) else cO (.tup xs) (.int n)
 |a,b=>cO a b
theorem qu:OpD X (binaryOp .Mult) iJ:=by
 intro pins s σ H x y v u Q I rx ry h
 obtain⟨J,dx,dy,d,hJ,ax,ay,e,q⟩:=h
 unfold iJ at e
 split at e
 ·rename_i xs n
  split at e
  ·rename_i c
   subst c
   cases e
   have ax0:=ax
   obtain⟨a,us,rfl,tq,m⟩:=At.tup_iff.mp ax
   cases At.int_iff.mp ay
   cases rx
   obtain⟨t',rfl⟩:=ry
   obtain⟨its,r,⟨⟨cls,dd,data,sl⟩,ho,hc,nn,hd⟩,hz⟩:=I.tuple tq.sq
   simp only at hc hd
   subst hc hd
   exact wpAny_binaryOp_repeat_ref (T:="tuple") (U:="int") (by decide) ⟨_,ho,rfl⟩ (λs'=>typeIs_int s' 1 t') gH F.fills_int_mul F.slot_int_rmul ko F.slot_int_index.lookup
    (call_meets F.slot_int_rmul (typeIs_int s 1 t') F.entry_int_rmul (F.args_int_rmul_2 _ _) (iL 1 t' a its.toArray nn dd sl)
     ⟨ho,rfl,⟨_,ho,rfl⟩,call_meets F.slot_tuple_mul ⟨_,ho,rfl⟩ F.entry_tuple_mul (F.args_tuple_mul_2 _ _) (tX a its.toArray nn dd sl t') ⟨ho,.ref _,H,I,rfl,q H _ (Same.refl H) ax0⟩⟩)
  ·exact di pins s σ H x y v u Q I rx ry ⟨J,_,_,d,hJ,ax,ay,e,q⟩
 ·exact di pins s σ H x y v u Q I rx ry ⟨J,_,_,d,hJ,ax,ay,e,q⟩
end
end L2
namespace L2
open PySem PyProof.Rows
section
variable (f g:Rho->Sto->Out D) (ρ:Rho) (S:Sto) (i:Nat) (k:Bool)
@[simp] theorem E_ (d:D):aB d ρ S=okO d S:=rfl
@[simp] theorem Fc (op:D->D->Option D):aE op f g ρ S=ag (f ρ S) λx S1=>ag (g ρ S1) λy S2=>aL (op x y) S2:=rfl
@[simp] theorem Fg (op:D->Option D):cUn op f ρ S=ag (f ρ S) λx S1=>aL (op x) S1:=rfl
@[simp] theorem EQ:bf f ρ S=ag (f ρ S) λx S1=>aL (blO x) S1:=rfl
@[simp] theorem DW (a b:D->D->Option D)(h:Rho->Sto->Out D):Cy a b f g h ρ S=ag (f ρ S) λx S1=>ag (g ρ S1) λy S2=>ag (aL ((a x y).bind blO) S2) λk S3=>if k=true then ag (h ρ S3) λz S4=>aL (b y z) S4 else okO (.bl false) S3:=rfl
@[simp] theorem EC (a b:Rho->Sto->Out Bool):DI a b ρ S=ag (a ρ S) λk S1=>if k=true then b ρ S1 else okO false S1:=rfl
@[simp] theorem EV (a b:Rho->Sto->Out Bool):n0 a b ρ S=ag (a ρ S) λk S1=>if k=true then okO true S1 else b ρ S1:=rfl
@[simp] theorem Eo (a:Rho->Sto->Out Bool):zb a ρ S=ag (a ρ S) λk S1=>okO (!k) S1:=rfl
@[simp] theorem Fe:xl f g ρ S=ag (f ρ S) λx S1=>ag (aL (blO x) S1) λk S2=>if k=true then g ρ S2 else okO (.bl false) S2:=rfl
@[simp] theorem Fi:cOr f g ρ S=ag (f ρ S) λx S1=>ag (aL (blO x) S1) λk S2=>if k=true then okO (.bl true) S2 else g ρ S2:=rfl
@[simp] theorem EW:EH f ρ S=ag (f ρ S) λx S1=>ag (aL (blO x) S1) λk S2=>okO (.bl (!k)) S2:=rfl
@[simp] theorem E7 (t:Rho->Sto->Out Bool):tw t f g ρ S=ag (t ρ S) λk S1=>if k=true then f ρ S1 else g ρ S1:=rfl
@[simp] theorem vG:ah ρ S=okO [] S:=rfl
@[simp] theorem qN (t:Rho->Sto->Out (List D)):ac f t ρ S=ag (f ρ S) λd S1=>ag (t ρ S1) λds S2=>okO (d::ds) S2:=rfl
@[simp] theorem EO (t:Rho->Sto->Out (List D)):ip t ρ S=ag (t ρ S) λds S1=>aL (szO ds (.tup ds)) S1:=rfl
@[simp] theorem E4 (t:Rho->Sto->Out (List D)):zj t ρ S=ag (t ρ S) λds S1=>aL (szO ds (.lst ds)) S1:=rfl
@[simp] theorem EA (h:List D->Option D)(t:Rho->Sto->Out (List D)):b8 h t ρ S=ag (t ρ S) λds S1=>aL (h ds) S1:=rfl
@[simp] theorem Ep:bR ρ S=okO (.next ρ) S:=rfl
@[simp] theorem Ba (a b:Rho->Sto->Out Fl):aK a b ρ S=ag (a ρ S) λfl S1=>match fl with
 | .next ρ'=>b ρ' S1
 |o=>okO o S1:=rfl
@[simp] theorem ET:aP f ρ S=ag (f ρ S) λd S1=>okO (.ret d) S1:=rfl
@[simp] theorem Fm (t:Rho->Sto->Out Bool)(a b:Rho->Sto->Out Fl):cIf t a b ρ S=ag (t ρ S) λk S1=>if k=true then a ρ S1 else b ρ S1:=rfl
@[simp] theorem ER:bD i f ρ S=ag (f ρ S) λd S1=>okO (.next (ρ.set i (some d))) S1:=rfl
@[simp] theorem Bb (fi:Rho->Sto->Out (List D))(u:D->Rho->Option Rho)(b:Rho->Sto->Out Fl):iq fi u b ρ S=ag (fi ρ S) λds S1=>gN u b ds ρ S1:=rfl
@[simp] theorem ES (h:List D->Option (List D))(t:Rho->Sto->Out (List D)):gR h t ρ S=ag (t ρ S) λds S1=>aL (h ds) S1:=rfl
@[simp] theorem DR:dC f ρ S=ag (f ρ S) λd S1=>aL (ge d) S1:=rfl
@[simp] theorem Ek:ii ρ S=okO true S:=rfl
@[simp] theorem Bc (F:List D->Sto->Out D)(t:Rho->Sto->Out (List D)):aD F t ρ S=ag (t ρ S) λds S1=>gI (F ds S1):=rfl
@[simp] theorem qM (d:D):gI (okO d S)=okO d S:=rfl
@[simp] theorem DC (d:D):gI (some (.ok d,S))=okO d S:=rfl
@[simp] theorem Fj:cIx f g ρ S=ag (f ρ S) λx S1=>ag (g ρ S1) λy S2=>aL (ixO x y S2) S2:=rfl
@[simp] theorem Fk:cIn k f g ρ S=ag (f ρ S) λx S1=>ag (g ρ S1) λy S2=>aL (inO k x y S2) S2:=rfl
@[simp] theorem El:vO f ρ S=ag (f ρ S) λd S1=>aL (m6 d S1) S1:=rfl
@[simp] theorem EX:ti ρ S=okO (.loc S.length) (S++[.dict []]):=rfl
@[simp] theorem EU (h:Rho->Sto->Out D):uK f g h ρ S=ag (h ρ S) λv S1=>ag (f ρ S1) λx S2=>ag (g ρ S2) λk S3=>rP x k v ρ S3:=rfl
@[simp] theorem Ez (n:Nat)(ix:List Nat)(fi:Rho->Sto->Out (List D))(u:D->Rho->Option Rho)(gt:Rho->Sto->Out Bool):fJ n ix fi u gt f ρ S=ag (fi ρ S) λds S1 =>
 match eX u gt f ds (eE n ix ρ) S1 with
 |some (out,S2)=>okO (.lst out) S2
 |none=>none:=rfl
@[simp] theorem Fh (op:D->Option Int->Option Int->Option D)(lo hi:Option (Rho->Sto->Out D)):cSl op f lo hi ρ S=ag (f ρ S) λx S1=>ag (kJ lo ρ S1) λl S2=>ag (kJ hi ρ S2) λu S3=>aL (op x l u) S3:=rfl
@[simp] theorem DU:kJ none ρ S=okO none S:=rfl
@[simp] theorem DT:kJ (some f) ρ S=ag (f ρ S) λd S1=>aL (wY d) S1:=rfl
@[simp] theorem EZ (kk:D->Bool)(op:D->D->Option D):zd kk op f g ρ S=ag (f ρ S) λx S1=>if kk x=true then ag (g ρ S1) λy S2=>aL (op x y) S2 else none:=rfl
@[simp] theorem EN (d:D)(h : ρ[i]?=some (some d)):ae i ρ S=okO d S:=by unfold ae;rw[h]
@[simp] theorem DQ (d:D):aJ i d ρ=some (ρ.set i (some d)):=rfl
@[simp] theorem Fb (b:Bool):blO (.bl b)=some b:=rfl
end
@[simp] theorem cw {ds:List D}{d:D}(h:ds.length<=1000):szO ds d=some d:=by
 unfold szO;rw[if_pos (Nat.le_trans h (by decide))]
theorem aA {n m:Nat}{G:Rho->Sto->Out Fl}{ds:List D}{S S':Sto}{d:D}(hl:ds.length=n)(h:G (ds.map some++List.replicate m none) S=okO (.ret d) S'):aZ n m G ds S=okO d S':=by
 unfold aZ;rw[if_pos hl,h];rfl
theorem kG {u:D->Rho->Option Rho}{gt:Rho->Sto->Out Bool}{fe:Rho->Sto->Out D}(I:Rho->Prop)(g:D->Bool)(f:D->D)(S:Sto) :
  ∀ (ds:List D) (ρ:Rho),I ρ->(∀ d∈ds,∀ ρ,I ρ->∃ ρ1,u d ρ=some ρ1/\I ρ1/\gt ρ1 S=okO (g d) S/\(g d=true->fe ρ1 S=okO (f d) S))->eX u gt fe ds ρ S=some ((ds.filter g).map f,S)
 |[],ρ,_,_=>rfl
 |d::ds,ρ,hI,h=>by
  obtain⟨ρ1,e1,i1,e2,e3⟩:=h d (List.mem_cons_self ..) ρ hI
  have ih:=kG I g f S ds ρ1 i1 λx hx=>h x (List.mem_cons_of_mem _ hx)
  rw[eX,e1,Option.bind_some,e2]
  simp only[okO,okP,Option.bind_some]
  by_cases hg:g d=true
  ·rw[if_pos hg,e3 hg]
   simp only[okO,okP,Option.bind_some,ih,Option.map_some,List.filter_cons,hg,if_true,List.map_cons]
  ·rw[if_neg hg,ih,List.filter_cons,if_neg hg]
theorem jk {u:D->Rho->Option Rho}{fe:Rho->Sto->Out D}(I:Rho->Prop)(f:D->D)(S:Sto)(ds:List D)(ρ:Rho)(hI:I ρ)
  (h:∀ d∈ds,∀ ρ,I ρ->∃ ρ1,u d ρ=some ρ1/\I ρ1/\fe ρ1 S=okO (f d) S):eX u ii fe ds ρ S=some (ds.map f,S):=by
 have q:=kG (u:=u) (gt:=ii) (fe:=fe) I (λ_=>true) f S ds ρ hI λd hd ρ hr=>by
  obtain⟨ρ1,e1,i1,e2⟩:=h d hd ρ hr
  exact⟨ρ1,e1,i1,rfl,λ_=>e2⟩
 rw[q,List.filter_eq_self.mpr λ_ _=>rfl]
theorem fG {u:D->Rho->Option Rho}{body:Rho->Sto->Out Fl}(I:Nat->Rho->Sto->Prop):∀ (ds:List D) (i:Nat) (ρ:Rho) (S:Sto),I i ρ S ->
  (∀ (j:Nat) d ρ S,ds[j]?=some d->I (i+j) ρ S->∃ ρ1,u d ρ=some ρ1/\∃ ρ' S',body ρ1 S=okO (.next ρ') S'/\I (i+j+1) ρ' S')->∃ ρ' S',gN u body ds ρ S=okO (.next ρ') S'/\I (i+ds.length) ρ' S'
 |[],i,ρ,S,hI,_=>⟨ρ,S,rfl,hI⟩
 |d::ds,i,ρ,S,hI,h=>by
  obtain⟨ρ1,e1,ρ',S',e2,i2⟩:=h 0 d ρ S rfl hI
  obtain⟨ρ2,S2,e3,i3⟩:=fG I ds (i+1) ρ' S' i2 λj x ρ S hx hi=>by
   obtain⟨a,b,c,d,e,f⟩:=h (j+1) x ρ S (by simpa using hx) (by rw[show i+(j+1)=i+1+j by omega];exact hi)
   exact⟨a,b,c,d,e,by rw[show i+1+j+1=i+(j+1)+1 by omega];exact f⟩
  refine⟨ρ2,S2,?_,by rw[List.length_cons,show i+(ds.length+1)=i+1+ds.length by omega];exact i3⟩
  rw[gN,e1]
  simp only[e2,bJ]
  exact e3
mutual
def pl:D->Bool
 | .tup ds=>pls ds
 | .lst ds=>pls ds
 | .set _=>false
 | .loc _=>false
 | .fn _ _=>false
 |_=>true
def pls:List D->Bool
 |[]=>true
 |d::ds=>pl d&&pls ds
end
mutual
theorem uX:∀ {d:D},pl d=true->∃ p,toPy d=some p
 | .non,_=>⟨_,rfl⟩
 | .bl _,_=>⟨_,rfl⟩
 | .int _,_=>⟨_,rfl⟩
 | .str _,_=>⟨_,rfl⟩
 | .tup ds,h=>by
  rw[pl] at h
  obtain⟨ps,e⟩:=mX h
  exact⟨.tuple ps,by rw[toPy,e];rfl⟩
 | .lst ds,h=>by
  rw[pl] at h
  obtain⟨ps,e⟩:=mX h
  exact⟨.list ps,by rw[toPy,e];rfl⟩
 | .set _,h=>by simp[pl] at h
 | .loc _,h=>by simp[pl] at h
 | .fn _ _,h=>by simp[pl] at h
theorem mX:∀ {ds:List D},pls ds=true->∃ ps,da ds=some ps
 |[],_=>⟨[],rfl⟩
 |d::ds,h=>by
  rw[pls,Bool.and_eq_true] at h
  obtain⟨p,e1⟩:=uX h.1
  obtain⟨ps,e2⟩:=mX h.2
  exact⟨p::ps,by rw[da,e1,e2];rfl⟩
end
theorem AL {α:Type}[BEq α][LawfulBEq α][DecidableEq α](a b : α):(a==b)=decide (a=b):=by by_cases h:a=b<;>simp[h]
@[simp] theorem AB (i j:Int):eqD (.int i) (.int j)=some (.bl (decide (i=j))):=by simp[eqD,toPy,PyData.eqv,PyData.depth,AL]
@[simp] theorem DP (i j:Int):neD (.int i) (.int j)=some (.bl (!decide (i=j))):=by simp[neD,toPy,PyData.eqv,PyData.depth,AL]
@[simp] theorem Ej (a b:Bool):eqD (.bl a) (.bl b)=some (.bl (a==b)):=by simp[eqD,toPy,PyData.eqv,PyData.depth]
theorem gT:∀ l:List Str,da (l.map .str)=some (l.map .str)
 |[]=>rfl
 |a::l=>by rw[List.map_cons,da,gT l];rfl
theorem sP:∀ l m:List Str,PyData.eqvAll (l.map .str) (m.map .str)=decide (l=m)
 |[],[]=>rfl
 |[],b::m=>by simp[PyData.eqvAll]
 |a::l,[]=>by simp[PyData.eqvAll]
 |a::l,b::m=>by
  rw[List.map_cons,List.map_cons,PyData.eqvAll,sP l m]
  simp only[PyData.eqv,List.cons.injEq]
  by_cases h:a=b<;>by_cases h2:l=m<;>simp[h,h2]
theorem nR:∀ l:List Str,PyData.depthAll (l.map .str)=0
 |[]=>rfl
 |a::l=>by rw[List.map_cons,PyData.depthAll,nR l];rfl
theorem in3 (x a b c:Str):inD (.str x) (.tup [.str a,.str b,.str c])=some (.bl (decide (a=x) ||(decide (b=x) ||decide (c=x)))):=by
 simp[inD,uD,toPy,da,ub,PyData.eqv,PyData.depth,AL]
section
variable (ρ:Rho) (S:Sto)
@[simp] theorem Ey (F:List D->Sto->Out D)(t:Rho->Sto->Out (List D)):DF F t ρ S=ag (t ρ S) λds S1=>F ds S1:=rfl
@[simp] theorem DS (c:Str)(t:Rho->Sto->Out (List D)):Cv c t ρ S=ag (t ρ S) λds S1=>ag (aL (szO ds .non) S1) λ_ S2=>some (.error c,S2):=rfl
@[simp] theorem E8 (tab:Str->Option Bool)(f:Rho->Sto->Out D):EI tab f ρ S=ag (f ρ S) λd S1=>aL (Ds tab d S1) S1:=rfl
end
end L2
namespace K23
open PySem L2
def top (i:Nat):Stmt:=PySem.Challenge.pw_keyfold_k23_whole_cuts_meet.main.body.getD i (.Pass ⟨0,0,0,0⟩)
abbrev bh:Stmt:=top 13
abbrev aY:Stmt:=top 14
abbrev aO:Stmt:=top 15
abbrev bA:Stmt:=top 10
abbrev bB:Stmt:=top 11
abbrev bO:Stmt:=top 12
def yN:Rho->Sto->Out Fl:=
  (aP (aE eqD (b8 eQ (ac (ae 0) ah)) (aB (.int 3))))
def lP:List D->Sto->Out D:=aZ 1 0 yN
def kD:Rho->Sto->Out Fl:=
  (aP (tw (bf (aD lP (ac (ae 0) ah))) (cSl slD (ae 0) (some (aB (.int 1))) none) (ip ah)))
def dF:List D->Sto->Out D:=aZ 1 0 kD
def nP:Rho->Sto->Out Fl:=
  (aP (tw (bf (aD lP (ac (ae 0) ah))) (zd dO jh (ae 1) (cIx (ae 0) (aB (.int 0)))) (b8 eQ (ac (ae 1) ah))))
def hX:List D->Sto->Out D:=aZ 2 0 nP
def ll:Rho->Sto->Out Fl:=
  (aK (bD 4 (xj (ae 0) (ae 1)))
  (aP (tw (bf (aE eqD (cIx (ae 4) (aB (.int 0))) (ae 2))) (cIx (ae 4) (aE bX (aB (.int 1)) (ae 3))) (ae 1))))
def gS:List D->Sto->Out D:=aZ 4 1 ll
def cA (rec:List D->Sto->Out D):Rho->Sto->Out Fl:=
  (cIf (bf (cIn true (ae 3) (ae 2))) (pF (aD rec (ac (ae 0) (ac (ae 3) (ac (ae 2) ah))))) bR)
def eA (rec:List D->Sto->Out D):Rho->Sto->Out Fl:=
  (aK (iq (dC (aD dF (ac (xj (ae 0) (ae 1)) ah))) (aJ 3) (cA rec))
  (uK (ae 2) (ae 1) (aB (.bl true))))
def bu:Nat->List D->Sto->Out D
 | 0=>λ_ _=>none
 |n+1=>aZ 3 1 (eA (bu n))
def iN:Rho->Sto->Out Fl:=
  (aK (bD 2 ti)
  (aK (pF (aD (bu 10) (ac (ae 0) (ac (ae 1) (ac (ae 2) ah)))))
  (aP (ls (ae 2)))))
def fM:List D->Sto->Out D:=aZ 2 1 iN
def iM:Rho->Sto->Out Fl:=
  (aP (tw (bf (aD lP (ac (ae 0) ah))) (ip (ac (cIx (ae 0) (aB (.int 0))) (ac (cIx (ae 1) (cIx (ae 0) (aB (.int 1)))) (ac (cIx (ae 1) (cIx (ae 0) (aB (.int 2)))) ah)))) (ae 0)))
def fK:List D->Sto->Out D:=aZ 2 0 iM
def eT:Rho->Sto->Out Fl:=
  (aK (jC "Rows" "order" (ae 0) (ae 1))
  (aK (jC "Rows" "gathered" (ae 0) tf)
  (aK (jC "Rows" "numbers" (ae 0) s_)
  (jC "Rows" "choices" (ae 0) s_))))
def bi:List D->Sto->Out D:=aZ 2 0 eT
def dQ:Rho->Sto->Out Fl:=
  (aK (jC "Pairs" "folds" (ae 0) (ip (ac (ae 1) (ac (ae 2) ah))))
  (aK (jC "Pairs" "rows" (ae 0) (iT "Rows" bi (ac (ae 3) ah)))
  (jC "Pairs" "made" (ae 0) s_)))
def b_:List D->Sto->Out D:=aZ 4 0 dQ
def c0:Rho->Sto->Out Fl:=
  (uK (ae 3) (ae 5) (ae 4))
def cr:Rho->Sto->Out D:=
  (aD fK (ac (tu (dS "Rows" "gathered" (ae 2)) (ae 0)) (ac (ae 1) ah)))
def gQ:Rho->Sto->Out Fl:=
  (aK (bD 2 (aD fM (ac (dS "Rows" "gathered" (ae 0)) (ac (ae 1) ah))))
  (aK (bD 3 ti)
  (aK (iq (gR qK (ac (ae 2) ah)) (jp 2 (aX (aJ 4) (aX (aJ 5) fw))) c0)
  (aP (b8 gy (ac (fJ 1 [3,0] (dC (ae 2)) (aJ 0) ii cr) ah))))))
def b9:List D->Sto->Out D:=aZ 2 4 gQ
def dP:Rho->Sto->Out Fl:=
  (aK (cIf (bf (xi true (ae 1) (dS "Rows" "numbers" (ae 0)))) (aK (pE (dS "Rows" "numbers" (ae 0)) (ae 1) (y7 (dS "Rows" "gathered" (ae 0))))
  (pF (AK (dS "Rows" "gathered" (ae 0)) (ae 1)))) bR)
  (aP (tj (dS "Rows" "numbers" (ae 0)) (ae 1))))
def be:List D->Sto->Out D:=aZ 2 0 dP
def cK:Rho->Sto->Out Fl:=
  (aP (tw (bf (aE eqD (ae 2) (ae 3))) (ae 2) (bM "Rows" "number_of" be (ae 0) (ac (ip (ac (ae 1) (ac (ae 2) (ac (ae 3) ah)))) ah))))
def bd:List D->Sto->Out D:=aZ 4 0 cK
def bF:Rho->Sto->Out D:=
  (aD gS (ac (ae 0) (ac (ae 1) (ac (ae 2) (ac (ae 3) ah)))))
def eB:Rho->Sto->Out Fl:=
  (aP (b8 gy (ac (fJ 2 [2,3] (gR xu (ac (dS "Pairs" "folds" (ae 0)) (ac (ae 1) ah))) (jp 2 (aX (aJ 0) (aX (aJ 1) fw))) ii bF) ah)))
def bV:List D->Sto->Out D:=aZ 4 0 eB
def ic:Rho->Sto->Out Fl:=
  (aP (b8 gy (ac (cUn gz (aE bX (ae 0) (ae 1))) ah)))
def cV:List D->Sto->Out D:=aZ 2 0 ic
def eV:Rho->Sto->Out Bool:=
  (bf (cIn false (ae 0) (ae 1)))
def eW:Rho->Sto->Out D:=
  (ae 0)
def fS:Rho->Sto->Out Fl:=
  (aP (b8 gy (ac (fJ 1 [1] (dC (ae 0)) (aJ 0) eV eW) ah)))
def cD:List D->Sto->Out D:=aZ 2 0 fS
def dc:Rho->Sto->Out Bool:=
  (bf (cIn true (ae 0) (ae 1)))
def dz:Rho->Sto->Out D:=
  (ae 0)
def ej:Rho->Sto->Out Fl:=
  (aP (b8 gy (ac (fJ 1 [1] (dC (ae 0)) (aJ 0) dc dz) ah)))
def bT:List D->Sto->Out D:=aZ 2 0 ej
def bZ (rec:List D->Sto->Out D):Rho->Sto->Out D:=
  (cIx (ae 0) (ae 1))
def bY (rec:List D->Sto->Out D):Rho->Sto->Out D:=
  (aD hX (ac (ae 0) (ac (ae 1) ah)))
def dw (rec:List D->Sto->Out D):Rho->Sto->Out Fl:=
  (aK (bD 3 (dS "Rows" "order" (dS "Pairs" "rows" (ae 0))))
  (aK (bD 4 (fJ 2 [] (gR xu (ac (dS "Pairs" "folds" (ae 0)) (ac (ae 1) ah))) (jp 2 (aX (aJ 0) (aX (aJ 1) fw))) ii (bZ rec)))
  (aK (bD 5 (b8 lY (ac (fJ 1 [3] (dC (ae 4)) (aJ 0) ii (bY rec)) ah)))
  (aK (cIf (bf (aE eqD (ae 5) (b8 eQ (ac (ae 3) ah)))) (aP (bM "Rows" "number_of" be (dS "Pairs" "rows" (ae 0)) (ac (ip (ac (aB (.str "names")) (ac (iU (("names_of_both",bh,cV)::("names_in_common",aY,cD)::("names_of_one_alone",aO,bT)::[]) (ae 2) (ac (cIx (cIx (ae 4) (aB (.int 0))) (aB (.int 1))) (ac (cIx (cIx (ae 4) (aB (.int 1))) (aB (.int 1))) ah))) ah))) ah))) bR)
  (aK (bD 6 (bM "Pairs" "number_of_pair" rec (ae 0) (ac (bM "Pairs" "side_of_pair" bV (ae 0) (ac (ae 1) (ac (cIx (ae 3) (ae 5)) (ac (aB (.int 0)) ah)))) (ac (ae 2) ah))))
  (aK (bD 7 (bM "Pairs" "number_of_pair" rec (ae 0) (ac (bM "Pairs" "side_of_pair" bV (ae 0) (ac (ae 1) (ac (cIx (ae 3) (ae 5)) (ac (aB (.int 1)) ah)))) (ac (ae 2) ah))))
  (aP (bM "Rows" "number_of_ask" bd (dS "Pairs" "rows" (ae 0)) (ac (cIx (ae 3) (ae 5)) (ac (ae 6) (ac (ae 7) ah)))))))))))
def dG (rec:List D->Sto->Out D):List D->Sto->Out D:=aZ 3 5 (dw rec)
def cn (rec:List D->Sto->Out D):Rho->Sto->Out Fl:=
  (aK (cIf (bf (xi true (ae 1) (dS "Pairs" "made" (ae 0)))) (pE (dS "Pairs" "made" (ae 0)) (ae 1) (bM "Pairs" "pair_anew" (dG rec) (ae 0) (ac (ae 1) (ac (ae 2) ah)))) bR)
  (aP (tj (dS "Pairs" "made" (ae 0)) (ae 1))))
def bH:Nat->List D->Sto->Out D
 | 0=>λ_ _=>none
 |n+1=>aZ 3 0 (cn (bH n))
def iO:Rho->Sto->Out Fl:=
  (aK (bD 4 (iT "Pairs" b_ (ac (ae 0) (ac (ae 1) (ac (ae 2) ah)))))
  (aP (bM "Rows" "fold_from" b9 (dS "Pairs" "rows" (ae 4)) (ac (bM "Pairs" "number_of_pair" (bH 9) (ae 4) (ac (ip (ac (aE rD (b8 eQ (ac (ae 0) ah)) (aB (.int 1))) (ac (aE rD (b8 eQ (ac (ae 1) ah)) (aB (.int 1))) ah))) (ac (ae 3) ah))) ah))))
def bK:List D->Sto->Out D:=aZ 4 1 iO
def yL:Rho->Sto->Out Fl:=
  (aP (aD bK (ac (ae 0) (ac (ae 1) (ac (ae 2) (ac (aB (.fn "names_of_both" bh)) ah))))))
def bc:List D->Sto->Out D:=aZ 3 0 yL
def yM:Rho->Sto->Out Fl:=
  (aP (aD bK (ac (ae 0) (ac (ae 1) (ac (ae 2) (ac (aB (.fn "names_in_common" aY)) ah))))))
def bU:List D->Sto->Out D:=aZ 3 0 yM
def Cm:Rho->Sto->Out Fl:=
  (aP (aD bK (ac (ae 0) (ac (ae 1) (ac (ae 2) (ac (aB (.fn "names_of_one_alone" aO)) ah))))))
def lO:List D->Sto->Out D:=aZ 3 0 Cm
def ie:Rho->Sto->Out D:=
  (aB .non)
def jy:Rho->Sto->Out Fl:=
  (aP (b8 gy (ac (fJ 1 [] (gR gE (ac (ae 0) ah)) (aJ 0) ii ie) ah)))
def gq:List D->Sto->Out D:=aZ 1 0 jy
def qG:Rho->Sto->Out Fl:=
  (aP (aE bX (aE bX (cSl slD (ae 0) none (some (ae 1))) (ip (ac (ae 2) ah))) (cSl slD (ae 0) (some (aE bX (ae 1) (aB (.int 1)))) none)))
def fm:List D->Sto->Out D:=aZ 3 0 qG
def cJ:Rho->Sto->Out Fl:=
  (aK (cIf (zb (bf (aD lP (ac (ae 1) ah)))) (aP (bM "Rows" "number_of" be (ae 0) (ac (ae 1) ah))) bR)
  (aK (bD 4 (cIx (ae 3) (cIx (ae 1) (aB (.int 0)))))
  (aK (cIf (bf (aE isD (ae 4) (aB .non))) (aP (bM "Rows" "number_of_ask" bd (ae 0) (ac (cIx (ae 1) (aB (.int 0))) (ac (tu (ae 2) (cIx (ae 1) (aB (.int 1)))) (ac (tu (ae 2) (cIx (ae 1) (aB (.int 2)))) ah))))) bR)
  (aP (tu (ae 2) (cIx (ae 1) (aE bX (aB (.int 1)) (ae 4))))))))
def fN:List D->Sto->Out D:=aZ 4 1 cJ
def lH:Rho->Sto->Out Fl:=
  (pF (AK (ae 4) (aD fN (ac (ae 3) (ac (ae 5) (ac (ae 4) (ac (ae 1) ah)))))))
def vB:Rho->Sto->Out Fl:=
  (aK (bD 3 (iT "Rows" bi (ac (ae 2) ah)))
  (aK (bD 4 tf)
  (aK (iq (dC (ae 0)) (aJ 5) lH)
  (aP (bM "Rows" "fold_from" b9 (ae 3) (ac (tu (ae 4) (cUn Ak (aB (.int 1)))) ah))))))
def bw:List D->Sto->Out D:=aZ 3 3 vB
def sN:Rho->Sto->Out Fl:=
  (aP (aD bw (ac (ae 0) (ac (aD fm (ac (aD gq (ac (b8 eQ (ac (ae 3) ah)) ah)) (ac (ae 1) (ac (ae 2) ah)))) (ac (ae 3) ah)))))
def cS:List D->Sto->Out D:=aZ 4 0 sN
def sL:Rho->Sto->Out Fl:=
  (aP (aD bc (ac (aD cS (ac (ae 0) (ac (ae 1) (ac (aB (.int 0)) (ac (ae 2) ah))))) (ac (aD cS (ac (ae 0) (ac (ae 1) (ac (aB (.int 1)) (ac (ae 2) ah))))) (ac (ae 2) ah)))))
def aH:List D->Sto->Out D:=aZ 3 0 sL
def yO:Rho->Sto->Out Fl:=
  (aP (aD bU (ac (aD cS (ac (ae 0) (ac (ae 1) (ac (aB (.int 0)) (ac (ae 2) ah))))) (ac (aD cS (ac (ae 0) (ac (ae 1) (ac (aB (.int 1)) (ac (ae 2) ah))))) (ac (ae 2) ah)))))
def cT:List D->Sto->Out D:=aZ 3 0 yO
def br:Rho->Sto->Out D:=
  (aD hX (ac (tu (dS "Rows" "gathered" (ae 1)) (ae 0)) (ac (dS "Rows" "order" (ae 1)) ah)))
def du:Rho->Sto->Out Fl:=
  (aK (bD 4 (fJ 1 [0] (dC (ip (ac (ae 2) (ac (ae 3) ah)))) (aJ 0) ii br))
  (aP (cIx (dS "Rows" "order" (ae 0)) (b8 lY (ac (aE bX (ae 4) (zj (ac (zd dO jh (dS "Rows" "order" (ae 0)) (ae 1)) ah))) ah)))))
def cv:List D->Sto->Out D:=aZ 4 1 du
def l6:Rho->Sto->Out Fl:=
  (aP (aD gS (ac (dS "Rows" "gathered" (ae 0)) (ac (ae 1) (ac (ae 2) (ac (ae 3) ah))))))
def ci:List D->Sto->Out D:=aZ 4 0 l6
def cY (rec:List D->Sto->Out D):Rho->Sto->Out Fl:=
  (aK (bD 4 (bM "Rows" "first_character" cv (ae 0) (ac (ae 1) (ac (ae 2) (ac (ae 3) ah)))))
  (aK (cIf (bf (aE eqD (ae 4) (ae 1))) (aP (bM "Rows" "number_of_ask" bd (ae 0) (ac (ae 1) (ac (bM "Rows" "side" ci (ae 0) (ac (ae 2) (ac (ae 1) (ac (aB (.int 0)) ah)))) (ac (bM "Rows" "side" ci (ae 0) (ac (ae 3) (ac (ae 1) (ac (aB (.int 1)) ah)))) ah))))) bR)
  (aK (bD 5 (bM "Rows" "choose" rec (ae 0) (ac (ae 1) (ac (bM "Rows" "side" ci (ae 0) (ac (ae 2) (ac (ae 4) (ac (aB (.int 0)) ah)))) (ac (bM "Rows" "side" ci (ae 0) (ac (ae 3) (ac (ae 4) (ac (aB (.int 0)) ah)))) ah)))))
  (aK (bD 6 (bM "Rows" "choose" rec (ae 0) (ac (ae 1) (ac (bM "Rows" "side" ci (ae 0) (ac (ae 2) (ac (ae 4) (ac (aB (.int 1)) ah)))) (ac (bM "Rows" "side" ci (ae 0) (ac (ae 3) (ac (ae 4) (ac (aB (.int 1)) ah)))) ah)))))
  (aP (bM "Rows" "number_of_ask" bd (ae 0) (ac (ae 4) (ac (ae 5) (ac (ae 6) ah)))))))))
def c9 (rec:List D->Sto->Out D):List D->Sto->Out D:=aZ 4 3 (cY rec)
def dX (rec:List D->Sto->Out D):Rho->Sto->Out Fl:=
  (aK (bD 4 (ip (ac (ae 1) (ac (ae 2) (ac (ae 3) ah)))))
  (aK (cIf (bf (xi true (ae 4) (dS "Rows" "choices" (ae 0)))) (pE (dS "Rows" "choices" (ae 0)) (ae 4) (tw (bf (aE eqD (ae 2) (ae 3))) (ae 2) (bM "Rows" "choose_anew" (c9 rec) (ae 0) (ac (ae 1) (ac (ae 2) (ac (ae 3) ah)))))) bR)
  (aP (tj (dS "Rows" "choices" (ae 0)) (ae 4)))))
def d5:Nat->List D->Sto->Out D
 | 0=>λ_ _=>none
 |n+1=>aZ 4 1 (dX (d5 n))
def eS (rec:List D->Sto->Out D):Rho->Sto->Out Fl:=
  (aK (cIf (bf (aE eqD (cIx (ae 1) (aB (.int 0))) (aB (.str "names")))) (aP (bM "Rows" "number_of" be (ae 0) (ac (ae 1) ah))) bR)
  (aP (bM "Rows" "choose" (d5 9) (ae 0) (ac (cIx (ae 1) (aB (.int 1))) (ac (aD rec (ac (ae 0) (ac (cIx (ae 1) (aB (.int 2))) ah))) (ac (aD rec (ac (ae 0) (ac (cIx (ae 1) (aB (.int 3))) ah))) ah))))))
def cU:Nat->List D->Sto->Out D
 | 0=>λ_ _=>none
 |n+1=>aZ 2 0 (eS (cU n))
def sM:Rho->Sto->Out Fl:=
  (aK (bD 2 (iT "Rows" bi (ac (ae 1) ah)))
  (aP (bM "Rows" "fold_from" b9 (ae 2) (ac (aD (cU 15) (ac (ae 2) (ac (ae 0) ah))) ah))))
def iX:List D->Sto->Out D:=aZ 2 1 sM
def l5:Rho->Sto->Out Fl:=
  (aK (cIf (bf (aE ltD (ae 1) (b8 eQ (ac (ae 0) ah)))) (aP (cIx (ae 0) (ae 1))) bR)
  (aP (aB (.int 0))))
def iY:List D->Sto->Out D:=aZ 2 0 l5
def ph:Rho->Sto->Out Fl:=
  (aK (bD 2 (aE cb (aE cO (aE bX (aE bX (aD iY (ac (ae 0) (ac (ae 1) ah))) (aE cO (aB (.int 7919)) (ae 1))) (aB (.int 1))) (aB (.int 48271))) (aB (.int 2147483647))))
  (aP (aE cb (aE bX (aE bX (aE cO (ae 2) (ae 2)) (aE cO (aB (.int 7)) (ae 2))) (ae 1)) (aB (.int 2147483629)))))
def aQ:List D->Sto->Out D:=aZ 2 1 ph
def pi:Rho->Sto->Out Fl:=
  (aK (bD 2 (aE cb (aE cO (aE bX (aE bX (ae 0) (aE cO (aB (.int 104729)) (ae 1))) (aB (.int 17))) (aB (.int 69621))) (aB (.int 2147483647))))
  (aP (aE cb (aE bX (aE bX (aE cO (ae 2) (ae 2)) (aE cO (aB (.int 3)) (ae 2))) (ae 1)) (aB (.int 2147483629)))))
def dU:List D->Sto->Out D:=aZ 2 1 pi
def fY:Rho->Sto->Out Fl:=
  (bD 5 (aE bX (ae 5) (cIx (ae 1) (aE cb (aE eD (ae 4) (aE bX (aE cO (aB (.int 31)) (ae 6)) (aB (.int 29)))) (aB (.int 26))))))
def fX:Rho->Sto->Out Fl:=
  (aK (bD 4 (aD dU (ac (ae 0) (ac (ae 3) ah))))
  (aK (bD 5 (cIx (ae 1) (aE cb (ae 4) (aB (.int 26)))))
  (aK (iq (gR gE (ac (aE cO (aE cb (aE eD (ae 4) (aB (.int 26))) (aB (.int 8))) (aE cb (ae 0) (aB (.int 2)))) ah)) (aJ 6) fY)
  (uK (ae 2) (aE bX (ae 5) (aE cO (aB (.str "q")) (b8 intD (ac (cIn false (ae 5) (aB (D.tup [(D.str "names"),(D.str "ask"),(D.str "end")]))) ah)))) (aB (.bl true))))))
def o_:Rho->Sto->Out Fl:=
  (aK (bD 1 (aB (.str "abcdefghijklmnopqrstuvwxyz")))
  (aK (bD 2 ti)
  (aK (iq (gR gE (ac (aB (.int 6)) ah)) (aJ 3) fX)
  (aP (b8 gy (ac (vO (ae 2)) ah))))))
def lJ:List D->Sto->Out D:=aZ 1 6 o_
def iC:Rho->Sto->Out Bool:=
  (bf (aE eqD (aE cb (aE eD (ae 2) (aE bX (aE cO (aB (.int 3)) (ae 0)) (aB (.int 1)))) (aB (.int 4))) (aB (.int 0))))
def iP:Rho->Sto->Out D:=
  (ae 1)
def pf:Rho->Sto->Out Fl:=
  (aP (b8 gy (ac (fJ 2 [0] (gR jz (ac (ae 1) ah)) (jp 2 (aX (aJ 0) (aX (aJ 1) fw))) iC iP) ah)))
def lN:List D->Sto->Out D:=aZ 2 0 pf
def qH (rec:List D->Sto->Out D):Rho->Sto->Out Fl:=
  (aK (cIf (n0 (bf (aE eqD (ae 3) (aB (.int 0)))) (bf (aE eqD (aE cb (ae 0) (aB (.int 7))) (aB (.int 0))))) (aP (ip (ac (aB (.str "names")) (ac (aD lN (ac (aE eD (ae 0) (aB (.int 7))) (ac (ae 1) ah))) ah)))) bR)
  (aK (bD 4 (aD rec (ac (aD dU (ac (ae 0) (ac (aB (.int 1)) ah))) (ac (ae 1) (ac (ae 2) (ac (aE rD (ae 3) (aB (.int 1))) ah))))))
  (aK (bD 5 (aD rec (ac (aD dU (ac (ae 0) (ac (aB (.int 2)) ah))) (ac (ae 1) (ac (ae 2) (ac (aE rD (ae 3) (aB (.int 1))) ah))))))
  (aP (ip (ac (aB (.str "ask")) (ac (aE cb (aE eD (ae 0) (aB (.int 7))) (ae 2)) (ac (ae 4) (ac (ae 5) ah)))))))))
def jn:Nat->List D->Sto->Out D
 | 0=>λ_ _=>none
 |n+1=>aZ 4 2 (qH (jn n))
def fZ:Rho->Sto->Out Fl:=
  (aK (bD 4 (aE cb (aD dU (ac (ae 0) (ac (ae 3) ah))) (aE bX (b8 eQ (ac (ae 2) ah)) (aB (.int 1)))))
  (bD 2 (aE bX (aE bX (cSl slD (ae 2) none (some (ae 4))) (zj (ac (ae 3) ah))) (cSl slD (ae 2) (some (ae 4)) none))))
def pe:Rho->Sto->Out Fl:=
  (aK (bD 2 (zj ah))
  (aK (iq (gR gE (ac (ae 1) ah)) (aJ 3) fZ)
  (aP (b8 gy (ac (ae 2) ah)))))
def lL:List D->Sto->Out D:=aZ 2 3 pe
def fT:Rho->Sto->Out D:=
  (cIx (aB (D.tup [D.non,(D.int 0),(D.int 1),D.non])) (aE cb (aD dU (ac (ae 1) (ac (ae 0) ah))) (aB (.int 4))))
def pc:Rho->Sto->Out Fl:=
  (aP (b8 gy (ac (fJ 1 [0] (gR gE (ac (ae 1) ah)) (aJ 0) ii fT) ah)))
def lK:List D->Sto->Out D:=aZ 2 0 pc
def sK:Rho->Sto->Out Fl:=
  (aK (bD 2 (aE bX (aB (.int 1)) (aE cb (aD aQ (ac (ae 0) (ac (aB (.int 0)) ah))) (ae 1))))
  (aK (bD 3 (aD lJ (ac (aD aQ (ac (ae 0) (ac (aB (.int 1)) ah))) ah)))
  (aK (bD 4 (aD (jn 8) (ac (aD aQ (ac (ae 0) (ac (aB (.int 2)) ah))) (ac (ae 3) (ac (ae 2) (ac (aE bX (aB (.int 1)) (aE cb (aD aQ (ac (ae 0) (ac (aB (.int 3)) ah))) (aB (.int 5)))) ah))))))
  (aP (ip (ac (ae 2) (ac (ae 3) (ac (ae 4) (ac (aD lL (ac (aD aQ (ac (ae 0) (ac (aB (.int 4)) ah))) (ac (ae 2) ah))) ah)))))))))
def kL:List D->Sto->Out D:=aZ 2 3 sK
def Ay:Rho->Sto->Out Fl:=
  (aP (aE bX (aE bX (cSl slD (ae 0) none (some (ae 1))) (ip (ac (ae 2) ah))) (cSl slD (ae 0) (some (aE bX (ae 1) (aB (.int 1)))) none)))
def jm:List D->Sto->Out D:=aZ 3 0 Ay
def qX:Rho->Sto->Out Fl:=
  (cIf (bf (aE neD (aD bw (ac (iU (("joined",bA,bc)::("common",bB,bU)::("less",bO,lO)::[]) (ae 10) (ac (ae 5) (ac (ae 6) (ac (ae 4) ah)))) (ac (ae 7) (ac (ae 4) ah)))) (iU (("joined",bA,bc)::("common",bB,bU)::("less",bO,lO)::[]) (ae 10) (ac (aD bw (ac (ae 5) (ac (ae 7) (ac (ae 4) ah)))) (ac (aD bw (ac (ae 6) (ac (ae 7) (ac (ae 4) ah)))) (ac (ae 4) ah)))))) (aP (aB (.bl false))) bR)
def mL:Rho->Sto->Out Fl:=
  (bD 11 (aD bw (ac (ae 11) (ac (aD jm (ac (aE iJ (aB (D.tup [D.non])) (ae 1)) (ac (ae 12) (ac (ae 13) ah)))) (ac (ae 4) ah)))))
def A8:Rho->Sto->Out Fl:=
  (aK (qW (jp 4 (aX (aJ 1) (aX (aJ 2) (aX (aJ 3) (aX (aJ 4) fw))))) (aD kL (ac (ae 0) (ac (aB (.int 8)) ah))))
  (aK (bD 5 (aD iX (ac (ae 3) (ac (ae 4) ah))))
  (aK (bD 6 (aD iX (ac (aD (jn 8) (ac (aD aQ (ac (ae 0) (ac (aB (.int 7)) ah))) (ac (ae 2) (ac (ae 1) (ac (aE bX (aB (.int 1)) (aE cb (aD aQ (ac (ae 0) (ac (aB (.int 6)) ah))) (aB (.int 5)))) ah))))) (ac (ae 4) ah))))
  (aK (bD 7 (aD lK (ac (aD aQ (ac (ae 0) (ac (aB (.int 5)) ah))) (ac (ae 1) ah))))
  (aK (bD 8 (aE cb (aE eD (aD aQ (ac (ae 0) (ac (aB (.int 6)) ah))) (aB (.int 5))) (ae 1)))
  (aK (bD 9 (aE cb (aE eD (aD aQ (ac (ae 0) (ac (aB (.int 6)) ah))) (aB (.int 50))) (ae 1)))
  (aK (iq (dC (ip (ac (aB (.fn "joined" bA)) (ac (aB (.fn "common" bB)) (ac (aB (.fn "less" bO)) ah))))) (aJ 10) qX)
  (aK (bD 11 (ae 5))
  (aK (iq (gR jz (ac (ae 7) ah)) (jp 2 (aX (aJ 12) (aX (aJ 13) fw))) mL)
  (aK (cIf (n0 (bf (aE neD (ae 11) (aD bw (ac (ae 5) (ac (ae 7) (ac (ae 4) ah)))))) (n0 (bf (aE neD (aD bw (ac (ae 11) (ac (ae 7) (ac (ae 4) ah)))) (ae 11))) (bf (aE neD (aD bw (ac (ae 5) (ac (aE iJ (aB (D.tup [D.non])) (ae 1)) (ac (ae 4) ah)))) (ae 5))))) (aP (aB (.bl false))) bR)
  (aK (bD 14 (aD aH (ac (ae 5) (ac (ae 8) (ac (ae 4) ah)))))
  (aK (bD 15 (aD cT (ac (ae 5) (ac (ae 8) (ac (ae 4) ah)))))
  (aK (cIf (bf (aE neD (aD aH (ac (aD bc (ac (ae 5) (ac (ae 6) (ac (ae 4) ah)))) (ac (ae 8) (ac (ae 4) ah)))) (aD bc (ac (ae 14) (ac (aD aH (ac (ae 6) (ac (ae 8) (ac (ae 4) ah)))) (ac (ae 4) ah)))))) (aP (aB (.bl false))) bR)
  (aK (cIf (bf (aE neD (aD cT (ac (aD bU (ac (ae 5) (ac (ae 6) (ac (ae 4) ah)))) (ac (ae 8) (ac (ae 4) ah)))) (aD bU (ac (ae 15) (ac (aD cT (ac (ae 6) (ac (ae 8) (ac (ae 4) ah)))) (ac (ae 4) ah)))))) (aP (aB (.bl false))) bR)
  (aK (cIf (bf (aE neD (aD aH (ac (ae 14) (ac (ae 9) (ac (ae 4) ah)))) (aD aH (ac (aD aH (ac (ae 5) (ac (ae 9) (ac (ae 4) ah)))) (ac (ae 8) (ac (ae 4) ah)))))) (aP (aB (.bl false))) bR)
  (aK (cIf (n0 (bf (aE neD (aD bc (ac (ae 15) (ac (ae 5) (ac (ae 4) ah)))) (ae 5))) (bf (aE neD (aD bc (ac (ae 5) (ac (ae 14) (ac (ae 4) ah)))) (ae 14)))) (aP (aB (.bl false))) bR)
  (aP (xl (aE eqD (ae 14) (aD aH (ac (ae 14) (ac (ae 8) (ac (ae 4) ah))))) (aE eqD (ae 14) (aD bw (ac (ae 14) (ac (aD jm (ac (aE iJ (aB (D.tup [D.non])) (ae 1)) (ac (ae 8) (ac (aB (.int 1)) ah)))) (ac (ae 4) ah)))))))))))))))))))))))
def zr:List D->Sto->Out D:=aZ 1 15 A8
def AG:Stmt->List Stmt
 | .ClassDef _ _ _ b _ _ _ _ _ _ _=>b
 |_=>[]
def mj (i j:Nat):Stmt:=(AG (top i)).getD j (.Pass ⟨0,0,0,0⟩)
abbrev uf:Stmt:=top 1
noncomputable abbrev xw:Scope:={ kind:=.function,names:=[("row",.local),("len",.globalImplicit)],isGenerator:=false,isCoroutine:=false,more:=[] }
abbrev gX:Stmt:=top 2
noncomputable abbrev j4:Scope:={ kind:=.function,names:=[("row",.local),("asks",.globalImplicit)],isGenerator:=false,isCoroutine:=false,more:=[] }
abbrev jJ:Stmt:=top 3
noncomputable abbrev mR:Scope:={ kind:=.function,names:=[ ("row",.local),("order",.local),("asks",.globalImplicit),("len",.globalImplicit)],isGenerator:=false,isCoroutine:=false,more:=[] }
abbrev kX:Stmt:=top 4
noncomputable abbrev oA:Scope:={ kind:=.function,names:=[ ("rows",.local),("number",.local),("character",.local),("value",.local),("row",.local)],isGenerator:=false,isCoroutine:=false,more:=[] }
abbrev iF:Stmt:=top 6
noncomputable abbrev lQ:Scope:={ kind:=.function,names:=[ ("rows",.local),("number",.local),("left",.local),("below",.local),("rows_below",.globalImplicit),("leave_row",.globalImplicit)],isGenerator:=false,isCoroutine:=false,more:=[] }
abbrev fB:Stmt:=top 5
noncomputable abbrev iu:Scope:={ kind:=.function,names:=[ ("rows",.local),("top",.local),("left",.local),("leave_row",.globalImplicit),("list",.globalImplicit)],isGenerator:=false,isCoroutine:=false,more:=[] }
abbrev fA:Stmt:=top 7
noncomputable abbrev ir:Scope:={ kind:=.function,names:=[ ("row",.local),("numbers",.local),("asks",.globalImplicit)],isGenerator:=false,isCoroutine:=false,more:=[] }
abbrev eO:Stmt:=mj 8 0
noncomputable abbrev h9:Scope:={ kind:=.function,names:=[("self",.local),("order",.local)],isGenerator:=false,isCoroutine:=false,more:=[] }
abbrev dM:Stmt:=mj 17 0
noncomputable abbrev gx:Scope:={ kind:=.function,names:=[ ("self",.local),("one",.local),("other",.local),("order",.local),("Rows",.globalImplicit)],isGenerator:=false,isCoroutine:=false,more:=[] }
abbrev dL:Stmt:=mj 8 7
noncomputable abbrev z_Rows_fold_from:Scope:={ kind:=.function,names:=[ ("self",.cell),("top",.local),("left",.local),("numbers",.cell),("place",.local),("number",.local),("rows_as_left",.globalImplicit),("enumerate",.globalImplicit),("tuple",.globalImplicit)],isGenerator:=false,isCoroutine:=false,more:=[ ("fast",(.str "self")),("fast",(.str "top")),("fast",(.str "left")),("fast",(.str "numbers")),("fast",(.str "place")),("fast",(.str "number"))] }
abbrev dJ:Stmt:=mj 8 1
noncomputable abbrev gw:Scope:={ kind:=.function,names:=[ ("self",.local),("row",.local),("len",.globalImplicit)],isGenerator:=false,isCoroutine:=false,more:=[] }
abbrev cF:Stmt:=mj 8 2
noncomputable abbrev d6:Scope:={ kind:=.function,names:=[ ("self",.local),("character",.local),("no",.local),("yes",.local)],isGenerator:=false,isCoroutine:=false,more:=[] }
abbrev cG:Stmt:=mj 17 3
noncomputable abbrev z_Pairs_side_of_pair:Scope:={ kind:=.function,names:=[ ("self",.local),("pair",.local),("character",.cell),("value",.cell),("tuple",.globalImplicit),("zip",.globalImplicit)],isGenerator:=false,isCoroutine:=false,more:=[ ("fast",(.str "self")),("fast",(.str "pair")),("fast",(.str "character")),("fast",(.str "value")),("fast",(.str "fold")),("fast",(.str "number"))] }
noncomputable abbrev h8:Scope:={ kind:=.function,names:=[ ("names",.local),("others",.local),("tuple",.globalImplicit),("sorted",.globalImplicit),("set",.globalImplicit)],isGenerator:=false,isCoroutine:=false,more:=[] }
noncomputable abbrev z_names_in_common:Scope:={ kind:=.function,names:=[ ("names",.local),("others",.cell),("tuple",.globalImplicit)],isGenerator:=false,isCoroutine:=false,more:=[ ("fast",(.str "names")),("fast",(.str "others")),("fast",(.str "name"))] }
noncomputable abbrev z_names_of_one_alone:Scope:={ kind:=.function,names:=[ ("names",.local),("others",.cell),("tuple",.globalImplicit)],isGenerator:=false,isCoroutine:=false,more:=[ ("fast",(.str "names")),("fast",(.str "others")),("fast",(.str "name"))] }
abbrev dg:Stmt:=mj 17 2
noncomputable abbrev z_Pairs_pair_anew:Scope:={ kind:=.function,names:=[ ("self",.local),("pair",.local),("names_of",.local),("order",.cell),("rows",.local),("first",.local),("no",.local),("yes",.local),("zip",.globalImplicit),("min",.globalImplicit),("len",.globalImplicit)],isGenerator:=false,isCoroutine:=false,more:=[ ("fast",(.str "self")),("fast",(.str "pair")),("fast",(.str "names_of")),("fast",(.str "order")),("fast",(.str "fold")),("fast",(.str "number")),("fast",(.str "rows")),("fast",(.str "row")),("fast",(.str "first")),("fast",(.str "no")),("fast",(.str "yes"))] }
abbrev ck:Stmt:=mj 17 1
noncomputable abbrev c_:Scope:={ kind:=.function,names:=[ ("self",.local),("pair",.local),("names_of",.local)],isGenerator:=false,isCoroutine:=false,more:=[] }
abbrev fC:Stmt:=top 16
noncomputable abbrev iw:Scope:={ kind:=.function,names:=[ ("one",.local),("other",.local),("order",.local),("names_of",.local),("pairs",.local),("Pairs",.globalImplicit),("len",.globalImplicit)],isGenerator:=false,isCoroutine:=false,more:=[] }
noncomputable abbrev rg:Scope:={ kind:=.function,names:=[ ("one",.local),("other",.local),("order",.local),("put_together",.globalImplicit),("names_of_both",.globalImplicit)],isGenerator:=false,isCoroutine:=false,more:=[] }
noncomputable abbrev rm:Scope:={ kind:=.function,names:=[ ("one",.local),("other",.local),("order",.local),("put_together",.globalImplicit),("names_in_common",.globalImplicit)],isGenerator:=false,isCoroutine:=false,more:=[] }
noncomputable abbrev xv:Scope:={ kind:=.function,names:=[ ("one",.local),("other",.local),("order",.local),("put_together",.globalImplicit),("names_of_one_alone",.globalImplicit)],isGenerator:=false,isCoroutine:=false,more:=[] }
abbrev gf:Stmt:=top 19
noncomputable abbrev z_blank_sheet:Scope:={ kind:=.function,names:=[ ("many",.local),("tuple",.globalImplicit),("range",.globalImplicit)],isGenerator:=false,isCoroutine:=false,more:=[ ("fast",(.str "many")),("fast",(.str "character"))] }
abbrev gW:Stmt:=top 20
noncomputable abbrev j3:Scope:={ kind:=.function,names:=[ ("sheet",.local),("character",.local),("value",.local)],isGenerator:=false,isCoroutine:=false,more:=[] }
abbrev fD:Stmt:=top 23
noncomputable abbrev iz:Scope:={ kind:=.function,names:=[ ("rows",.local),("row",.local),("numbers",.local),("sheet",.local),("value",.local),("asks",.globalImplicit)],isGenerator:=false,isCoroutine:=false,more:=[] }
abbrev qg:Stmt:=top 22
noncomputable abbrev uU:Scope:={ kind:=.function,names:=[ ("fold",.local),("sheet",.local),("order",.local),("rows",.local),("numbers",.local),("row",.local),("Rows",.globalImplicit),("number_known",.globalImplicit)],isGenerator:=false,isCoroutine:=false,more:=[] }
abbrev nu:Stmt:=top 26
noncomputable abbrev rj:Scope:={ kind:=.function,names:=[ ("fold",.local),("character",.local),("value",.local),("order",.local),("known",.globalImplicit),("with_value",.globalImplicit),("blank_sheet",.globalImplicit),("len",.globalImplicit)],isGenerator:=false,isCoroutine:=false,more:=[] }
abbrev iG:Stmt:=top 24
noncomputable abbrev lR:Scope:={ kind:=.function,names:=[ ("fold",.local),("character",.local),("order",.local),("joined",.globalImplicit),("cut_at",.globalImplicit)],isGenerator:=false,isCoroutine:=false,more:=[] }
abbrev nv:Stmt:=top 25
noncomputable abbrev rn:Scope:={ kind:=.function,names:=[ ("fold",.local),("character",.local),("order",.local),("common",.globalImplicit),("cut_at",.globalImplicit)],isGenerator:=false,isCoroutine:=false,more:=[] }
abbrev cj:Stmt:=mj 8 4
noncomputable abbrev z_Rows_first_character:Scope:={ kind:=.function,names:=[ ("self",.cell),("character",.local),("no",.local),("yes",.local),("places",.local),("min",.globalImplicit)],isGenerator:=false,isCoroutine:=false,more:=[ ("fast",(.str "self")),("fast",(.str "character")),("fast",(.str "no")),("fast",(.str "yes")),("fast",(.str "number")),("fast",(.str "places"))] }
abbrev iI:Stmt:=mj 8 3
noncomputable abbrev lT:Scope:={ kind:=.function,names:=[ ("self",.local),("number",.local),("character",.local),("value",.local),("side_of",.globalImplicit)],isGenerator:=false,isCoroutine:=false,more:=[] }
abbrev cX:Stmt:=mj 8 6
noncomputable abbrev fu:Scope:={ kind:=.function,names:=[ ("self",.local),("character",.local),("no",.local),("yes",.local),("first",.local),("without",.local),("having",.local)],isGenerator:=false,isCoroutine:=false,more:=[] }
abbrev gg:Stmt:=mj 8 5
noncomputable abbrev jw:Scope:={ kind:=.function,names:=[ ("self",.local),("character",.local),("no",.local),("yes",.local),("choice",.local)],isGenerator:=false,isCoroutine:=false,more:=[] }
abbrev eN:Stmt:=top 29
noncomputable abbrev hZ:Scope:={ kind:=.function,names:=[ ("rows",.local),("key",.local),("number_of_key",.globalImplicit)],isGenerator:=false,isCoroutine:=false,more:=[] }
abbrev nt:Stmt:=top 28
noncomputable abbrev rh:Scope:={ kind:=.function,names:=[ ("key",.local),("order",.local),("rows",.local),("Rows",.globalImplicit),("number_of_key",.globalImplicit)],isGenerator:=false,isCoroutine:=false,more:=[] }
abbrev iH:Stmt:=top 31
noncomputable abbrev lS:Scope:={ kind:=.function,names:=[ ("_law_script",.local),("_law_k",.local),("len",.globalImplicit)],isGenerator:=false,isCoroutine:=false,more:=[] }
abbrev k7:Stmt:=top 32
noncomputable abbrev oC:Scope:={ kind:=.function,names:=[ ("_law_script",.local),("_law_k",.local),("_law_drawn_here",.local),("_law_cell_at",.globalImplicit)],isGenerator:=false,isCoroutine:=false,more:=[] }
abbrev k8:Stmt:=top 33
noncomputable abbrev oE:Scope:={ kind:=.function,names:=[ ("_law_number",.local),("_law_k",.local),("_law_drawn_here",.local)],isGenerator:=false,isCoroutine:=false,more:=[] }
abbrev kW:Stmt:=top 34
noncomputable abbrev oy:Scope:={ kind:=.function,names:=[ ("_law_number",.local),("_law_letters",.local),("_law_found",.local),("_law_k",.local),("_law_drawn_here",.local),("_law_word",.local),("_law_at",.local),("range",.globalImplicit),("_law_drawn",.globalImplicit),("int",.globalImplicit),("tuple",.globalImplicit),("sorted",.globalImplicit)],isGenerator:=false,isCoroutine:=false,more:=[] }
abbrev k6:Stmt:=top 35
noncomputable abbrev z_names_L:Scope:={ kind:=.function,names:=[ ("_law_number",.cell),("_law_words_here",.local),("tuple",.globalImplicit),("enumerate",.globalImplicit)],isGenerator:=false,isCoroutine:=false,more:=[ ("fast",(.str "_law_number")),("fast",(.str "_law_words_here")),("fast",(.str "_law_k")),("fast",(.str "_law_word"))] }
abbrev qh:Stmt:=top 36
noncomputable abbrev uV:Scope:={ kind:=.function,names:=[ ("_law_number",.local),("_law_words_here",.local),("_law_many",.local),("_law_deep",.local),("_law_no",.local),("_law_yes",.local),("_law_names",.globalImplicit),("_law_key",.globalImplicit),("_law_drawn",.globalImplicit)],isGenerator:=false,isCoroutine:=false,more:=[] }
abbrev kZ:Stmt:=top 37
noncomputable abbrev oB:Scope:={ kind:=.function,names:=[ ("_law_number",.local),("_law_many",.local),("_law_found",.local),("_law_k",.local),("_law_at",.local),("range",.globalImplicit),("_law_drawn",.globalImplicit),("len",.globalImplicit),("tuple",.globalImplicit)],isGenerator:=false,isCoroutine:=false,more:=[] }
abbrev kY:Stmt:=top 38
noncomputable abbrev z_sheet_L:Scope:={ kind:=.function,names:=[ ("_law_number",.cell),("_law_many",.local),("tuple",.globalImplicit),("range",.globalImplicit)],isGenerator:=false,isCoroutine:=false,more:=[ ("fast",(.str "_law_number")),("fast",(.str "_law_many")),("fast",(.str "_law_k"))] }
abbrev nk:Stmt:=top 41
noncomputable abbrev rf:Scope:={ kind:=.function,names:=[ ("_law_script",.local),("_law_most",.local),("_law_many",.local),("_law_words_here",.local),("_law_key_here",.local),("_law_mixed",.globalImplicit),("_law_words",.globalImplicit),("_law_key",.globalImplicit),("_law_order",.globalImplicit)],isGenerator:=false,isCoroutine:=false,more:=[] }
abbrev qf:Stmt:=top 42
noncomputable abbrev uS:Scope:={ kind:=.function,names:=[ ("_law_sheet_here",.local),("_law_k",.local),("_law_value",.local)],isGenerator:=false,isCoroutine:=false,more:=[] }
abbrev u8:Stmt:=top 43
noncomputable abbrev AU:Scope:={ kind:=.function,names:=[ ("_law_script",.local),("_law_many",.local),("_law_words_here",.local),("_law_key_here",.local),("_law_order_here",.local),("_law_one",.local),("_law_two",.local),("_law_sheet_here",.local),("_law_here",.local),("_law_there",.local),("_law_way",.local),("_law_cut",.local),("_law_k",.local),("_law_value",.local),("_law_wide",.local),("_law_tight",.local),("_law_made",.globalImplicit),("folded",.globalImplicit),("_law_key",.globalImplicit),("_law_mixed",.globalImplicit),("_law_sheet",.globalImplicit),("joined",.globalImplicit),("common",.globalImplicit),("less",.globalImplicit),("known",.globalImplicit),("enumerate",.globalImplicit),("_law_put",.globalImplicit),("forgotten",.globalImplicit),("always",.globalImplicit)],isGenerator:=false,isCoroutine:=false,more:=[] }
structure Top (K:PySem.W.Frag) (mg:Str->Option Value):Prop where
 d_asks:bg K mg "asks" uf ["row"]
 d_rows_below:bg K mg "rows_below" gX ["row"]
 d_place_of:bg K mg "place_of" jJ ["row","order"]
 d_side_of:bg K mg "side_of" kX ["rows","number","character","value"]
 d_leave_row:bg K mg "leave_row" iF ["rows","number","left"]
 d_rows_as_left:bg K mg "rows_as_left" fB ["rows","top"]
 d_with_numbers:bg K mg "with_numbers" fA ["row","numbers"]
 d_Rows___init__:AS K mg "Rows" "Rows.__init__" eO ["self","order"]
 d_Pairs___init__:AS K mg "Pairs" "Pairs.__init__" dM ["self","one","other","order"]
 d_Rows_fold_from:MethAt K "Rows" "fold_from" "Rows.fold_from" dL ["self","top"]
 d_Rows_number_of:MethAt K "Rows" "number_of" "Rows.number_of" dJ ["self","row"]
 d_Rows_number_of_ask:MethAt K "Rows" "number_of_ask" "Rows.number_of_ask" cF ["self","character","no","yes"]
 d_Pairs_side_of_pair:MethAt K "Pairs" "side_of_pair" "Pairs.side_of_pair" cG ["self","pair","character","value"]
 d_names_of_both:bg K mg "names_of_both" bh ["names","others"]
 d_names_in_common:bg K mg "names_in_common" aY ["names","others"]
 d_names_of_one_alone:bg K mg "names_of_one_alone" aO ["names","others"]
 d_Pairs_pair_anew:MethAt K "Pairs" "pair_anew" "Pairs.pair_anew" dg ["self","pair","names_of"]
 d_Pairs_number_of_pair:MethAt K "Pairs" "number_of_pair" "Pairs.number_of_pair" ck ["self","pair","names_of"]
 d_put_together:bg K mg "put_together" fC ["one","other","order","names_of"]
 d_joined:bg K mg "joined" bA ["one","other","order"]
 d_common:bg K mg "common" bB ["one","other","order"]
 d_less:bg K mg "less" bO ["one","other","order"]
 d_blank_sheet:bg K mg "blank_sheet" gf ["many"]
 d_with_value:bg K mg "with_value" gW ["sheet","character","value"]
 d_number_known:bg K mg "number_known" fD ["rows","row","numbers","sheet"]
 d_known:bg K mg "known" qg ["fold","sheet","order"]
 d_cut_at:bg K mg "cut_at" nu ["fold","character","value","order"]
 d_forgotten:bg K mg "forgotten" iG ["fold","character","order"]
 d_always:bg K mg "always" nv ["fold","character","order"]
 d_Rows_first_character:MethAt K "Rows" "first_character" "Rows.first_character" cj ["self","character","no","yes"]
 d_Rows_side:MethAt K "Rows" "side" "Rows.side" iI ["self","number","character","value"]
 d_Rows_choose_anew:MethAt K "Rows" "choose_anew" "Rows.choose_anew" cX ["self","character","no","yes"]
 d_Rows_choose:MethAt K "Rows" "choose" "Rows.choose" gg ["self","character","no","yes"]
 d_number_of_key:bg K mg "number_of_key" eN ["rows","key"]
 d_folded:bg K mg "folded" nt ["key","order"]
 d_cell_at_L:bg K mg "_law_cell_at" iH ["_law_script","_law_k"]
 d_mixed_L:bg K mg "_law_mixed" k7 ["_law_script","_law_k"]
 d_drawn_L:bg K mg "_law_drawn" k8 ["_law_number","_law_k"]
 d_words_L:bg K mg "_law_words" kW ["_law_number"]
 d_names_L:bg K mg "_law_names" k6 ["_law_number","_law_words_here"]
 d_key_L:bg K mg "_law_key" qh ["_law_number","_law_words_here","_law_many","_law_deep"]
 d_order_L:bg K mg "_law_order" kZ ["_law_number","_law_many"]
 d_sheet_L:bg K mg "_law_sheet" kY ["_law_number","_law_many"]
 d_made_L:bg K mg "_law_made" nk ["_law_script","_law_most"]
 d_put_L:bg K mg "_law_put" qf ["_law_sheet_here","_law_k","_law_value"]
 d_law:bg K mg "law" u8 ["_law_script"]
 b_len:mg "len"=none
 b_list:mg "list"=none
 b_enumerate:mg "enumerate"=none
 b_tuple:mg "tuple"=none
 b_zip:mg "zip"=none
 b_sorted:mg "sorted"=none
 b_set:mg "set"=none
 b_min:mg "min"=none
 b_range:mg "range"=none
 b_int:mg "int"=none
 f_Rows_order:jD K "Rows" "order"
 f_Rows_gathered:jD K "Rows" "gathered"
 f_Rows_numbers:jD K "Rows" "numbers"
 f_Rows_choices:jD K "Rows" "choices"
 f_Pairs_folds:jD K "Pairs" "folds"
 f_Pairs_rows:jD K "Pairs" "rows"
 f_Pairs_made:jD K "Pairs" "made"
section
variable {P:Program}{w:World}{K:PySem.W.Frag}{mg:Str->Option Value}{base:Heap}
theorem zw:aj uf=xw:=rfl
theorem sc_asks:FnScope ["row"] ["row"] xw:=⟨rfl,rfl,rfl,by decide +kernel,rfl,by decide +kernel,by decide +kernel⟩
theorem kI (T:Top K mg):Cal P w K mg base 1 "asks" ["row"] lP:=
 bp T.d_asks zw sc_asks (λf cdv A outer s H E hr=>by
 have hu:=aV hr;have hu1:=aT hr;have hu2:=aU hr;have hgd:=hr.gd;have nd:=sc_asks.nd
 exact (aq (aG (qe (ia hu) (cE iR T.b_len hV (aa (ab (i:=0)) af)) ao))))
theorem n_:aj gX=j4:=rfl
theorem sc_rows_below:FnScope ["row"] ["row"] j4:=⟨rfl,rfl,rfl,by decide +kernel,rfl,by decide +kernel,by decide +kernel⟩
theorem nY (T:Top K mg):Cal P w K mg base 2 "rows_below" ["row"] dF:=
 bp T.d_rows_below n_ sc_rows_below (λf cdv A outer s H E hr=>by
 have hu:=aV hr;have hu1:=aT hr;have hu2:=aU hr;have hgd:=hr.gd;have nd:=sc_rows_below.nd
 exact (aq (aG (kU (pR (az (kI T) (hr.mono (by omega)) (aa (ab (i:=0)) af))) (m_ sld (ab (i:=0)) ao trivial) (cW af)))))
theorem q_:aj jJ=mR:=rfl
theorem sc_place_of:FnScope ["row","order"] ["row","order"] mR:=⟨rfl,rfl,rfl,by decide +kernel,rfl,by decide +kernel,by decide +kernel⟩
theorem kH (T:Top K mg):Cal P w K mg base 2 "place_of" ["row","order"] hX:=
 bp T.d_place_of q_ sc_place_of (λf cdv A outer s H E hr=>by
 have hu:=aV hr;have hu1:=aT hr;have hu2:=aU hr;have hgd:=hr.gd;have nd:=sc_place_of.nd
 exact (aq (aG (kU (pR (az (kI T) (hr.mono (by omega)) (aa (ab (i:=0)) af))) (oW rfl (ab (i:=1)) (a_ hu1 (ab (i:=0)) ao)) (cE iR T.b_len hV (aa (ab (i:=1)) af))))))
theorem tK:aj kX=oA:=rfl
theorem sc_side_of:FnScope ["rows","number","character","value","row"] ["rows","number","character","value"] oA:=⟨rfl,rfl,rfl,by decide +kernel,rfl,by decide +kernel,by decide +kernel⟩
theorem l9 (T:Top K mg):Cal P w K mg base 1 "side_of" ["rows","number","character","value"] gS:=
 bp T.d_side_of tK sc_side_of (λf cdv A outer s H E hr=>by
 have hu:=aV hr;have hu1:=aT hr;have hu2:=aU hr;have hgd:=hr.gd;have nd:=sc_side_of.nd
 exact (ai (aM (i:=4) nd (u7 (ab (i:=0)) (ab (i:=1))))
  (aq (aG (kU (bN (ia hu) (a_ hu1 (ab (i:=4)) ao) (ab (i:=2))) (a_ hu1 (ab (i:=4)) (aC bn ao (ab (i:=3)))) (ab (i:=1)))))))
theorem pL:aj iF=lQ:=rfl
theorem sc_leave_row:FnScope ["rows","number","left","below"] ["rows","number","left"] lQ:=⟨rfl,rfl,rfl,by decide +kernel,rfl,by decide +kernel,by decide +kernel⟩
theorem jB (T:Top K mg):∀ n:Nat,Cal P w K mg base (n+2) "leave_row" ["rows","number","left"] (bu n)
 | 0=>nV T.d_leave_row
 |n+1=>by
  have Crec:=jB T n
  exact bp T.d_leave_row pL sc_leave_row (λf cdv A outer s H E hr=>by
   have hu:=aV hr;have hu1:=aT hr;have hu2:=aU hr;have hgd:=hr.gd;have nd:=sc_leave_row.nd
   exact (ai (iD PassesOwn.never rfl (iE (az (nY T) (hr.mono (by omega)) (aa (u7 (ab (i:=0)) (ab (i:=1))) af))) (aW (i:=3) nd) (aq (d8 (oI hu hu1 hu2 (ab (i:=3)) (ab (i:=2))) (aq (mE (az Crec (hr.mono (by omega)) (aa (ab (i:=0)) (aa (ab (i:=3)) (aa (ab (i:=2)) af)))))) bP)))
    (aq (t7 hu1 (ab (i:=2)) (ab (i:=1)) kf))))
theorem ma:aj fB=iu:=rfl
theorem sc_rows_as_left:FnScope ["rows","top","left"] ["rows","top"] iu:=⟨rfl,rfl,rfl,by decide +kernel,rfl,by decide +kernel,by decide +kernel⟩
theorem lv (T:Top K mg):Cal P w K mg base 13 "rows_as_left" ["rows","top"] fM:=
 bp T.d_rows_as_left ma sc_rows_as_left (λf cdv A outer s H E hr=>by
 have hu:=aV hr;have hu1:=aT hr;have hu2:=aU hr;have hgd:=hr.gd;have nd:=sc_rows_as_left.nd
 exact (ai (aM (i:=2) nd qa)
  (ai (mE (az (jB T 10) (hr.mono (by omega)) (aa (ab (i:=0)) (aa (ab (i:=1)) (aa (ab (i:=2)) af)))))
  (aq (aG (rK hu1 T.b_list (ab (i:=2))))))))
theorem l_:aj fA=ir:=rfl
theorem sc_with_numbers:FnScope ["row","numbers"] ["row","numbers"] ir:=⟨rfl,rfl,rfl,by decide +kernel,rfl,by decide +kernel,by decide +kernel⟩
theorem lu (T:Top K mg):Cal P w K mg base 2 "with_numbers" ["row","numbers"] fK:=
 bp T.d_with_numbers l_ sc_with_numbers (λf cdv A outer s H E hr=>by
 have hu:=aV hr;have hu1:=aT hr;have hu2:=aU hr;have hgd:=hr.gd;have nd:=sc_with_numbers.nd
 exact (aq (aG (kU (pR (az (kI T) (hr.mono (by omega)) (aa (ab (i:=0)) af))) (cW (aa (a_ hu1 (ab (i:=0)) ao) (aa (a_ hu1 (ab (i:=1)) (a_ hu1 (ab (i:=0)) ao)) (aa (a_ hu1 (ab (i:=1)) (a_ hu1 (ab (i:=0)) ao)) af)))) (ab (i:=0))))))
theorem kO:aj eO=h9:=rfl
theorem sc_Rows___init__:FnScope ["self","order"] ["self","order"] h9:=⟨rfl,rfl,rfl,by decide +kernel,rfl,by decide +kernel,by decide +kernel⟩
theorem dA (T:Top K mg):AT P w K mg base 1 "Rows" ["self","order"] bi:=
 vM T.d_Rows___init__ kO sc_Rows___init__ (λf cdv A outer s H E hr=>by
 have hu:=aV hr;have hu1:=aT hr;have hu2:=aU hr;have hgd:=hr.gd;have nd:=sc_Rows___init__.nd
 exact (ai (jG T.f_Rows_order (ab (i:=0)) (ab (i:=1)))
  (ai (jG T.f_Rows_gathered (ab (i:=0)) u6)
  (ai (jG T.f_Rows_numbers (ab (i:=0)) p_)
  (aq (jG T.f_Rows_choices (ab (i:=0)) p_))))))
theorem j2:aj dM=gx:=rfl
theorem sc_Pairs___init__:FnScope ["self","one","other","order"] ["self","one","other","order"] gx:=⟨rfl,rfl,rfl,by decide +kernel,rfl,by decide +kernel,by decide +kernel⟩
theorem jW (T:Top K mg):AT P w K mg base 3 "Pairs" ["self","one","other","order"] b_:=
 vM T.d_Pairs___init__ j2 sc_Pairs___init__ (λf cdv A outer s H E hr=>by
 have hu:=aV hr;have hu1:=aT hr;have hu2:=aU hr;have hgd:=hr.gd;have nd:=sc_Pairs___init__.nd
 exact (ai (jG T.f_Pairs_folds (ab (i:=0)) (cW (aa (ab (i:=1)) (aa (ab (i:=2)) af))))
  (ai (jG T.f_Pairs_rows (ab (i:=0)) (mG (dA T) (hr.mono (by omega)) (aa (ab (i:=3)) af)))
  (aq (jG T.f_Pairs_made (ab (i:=0)) p_)))))
theorem j1:aj dL=z_Rows_fold_from:=rfl
theorem sc_Rows_fold_from:FnScope ["self","top","left","numbers","place","number"] ["self","top"] z_Rows_fold_from:=⟨rfl,rfl,rfl,by decide +kernel,rfl,by decide +kernel,by decide +kernel⟩
theorem cZ (T:Top K mg):jZ P w K mg base 14 "Rows" "fold_from" ["self","top"] b9:=
 dZ T.d_Rows_fold_from j1 sc_Rows_fold_from (λf cdv A outer s H E hr=>by
 have hu:=aV hr;have hu1:=aT hr;have hu2:=aU hr;have hgd:=hr.gd;have nd:=sc_Rows_fold_from.nd
 exact (ai (aM (i:=2) nd (az (lv T) (hr.mono (by omega)) (aa (bz T.f_Rows_gathered (ab (i:=0))) (aa (ab (i:=1)) af))))
  (ai (aM (i:=3) nd qa)
  (ai (iD PassesOwn.never rfl (xG rfl T.b_enumerate (aa (ab (i:=2)) af)) (kS rfl (bQ (aW (i:=4) nd) (bQ (aW (i:=5) nd) jd))) (aq (t7 hu1 (ab (i:=3)) (ab (i:=5)) (ab (i:=4)))))
  (aq (aG (b6 gm T.b_tuple cR (aa (fQ (ts:=["number"]) (ix:=[3,0]) rfl ⟨rfl,by decide +kernel,by decide +kernel,by exact (show ∀ y∈(_:List (Str×NameKind)),y.2=NameKind.free->List.lookup y.1 z_Rows_fold_from.names=some NameKind.cell∨List.lookup y.1 z_Rows_fold_from.names=some NameKind.free from by decide +kernel)⟩ (by exact (show ∀ t∈([3,0]:List Nat),List.lookup ((["self","top","left","numbers","place","number"]:List Str).getD t Str.empty) _=some NameKind.free from by decide +kernel)) (iE (ab (i:=2))) (λ_ _ _ _ _=>⟨(aW (i:=0) (show (["number","numbers","self"]:List Str).Nodup from by decide +kernel)),gU,(az (lu T) (hr.mono (by omega)) (aa (jI (bz T.f_Rows_gathered (ab (i:=2))) (ab (i:=0))) (aa (ab (i:=1)) af)))⟩)) af))))))))
theorem j0:aj dJ=gw:=rfl
theorem sc_Rows_number_of:FnScope ["self","row"] ["self","row"] gw:=⟨rfl,rfl,rfl,by decide +kernel,rfl,by decide +kernel,by decide +kernel⟩
theorem cu (T:Top K mg):jZ P w K mg base 1 "Rows" "number_of" ["self","row"] be:=
 dZ T.d_Rows_number_of j0 sc_Rows_number_of (λf cdv A outer s H E hr=>by
 have hu:=aV hr;have hu1:=aT hr;have hu2:=aU hr;have hgd:=hr.gd;have nd:=sc_Rows_number_of.nd
 exact (ai (d8 (kR hu (ab (i:=1)) (bz T.f_Rows_numbers (ab (i:=0)))) (ai (pY hu (bz T.f_Rows_numbers (ab (i:=0))) (ab (i:=1)) (zL T.b_len (bz T.f_Rows_gathered (ab (i:=0)))))
  (aq (mE (xM rfl (bz T.f_Rows_gathered (ab (i:=0))) (ab (i:=1)))))) bP)
  (aq (aG (p9 hu (bz T.f_Rows_numbers (ab (i:=0))) (ab (i:=1)))))))
theorem ik:aj cF=d6:=rfl
theorem sc_Rows_number_of_ask:FnScope ["self","character","no","yes"] ["self","character","no","yes"] d6:=⟨rfl,rfl,rfl,by decide +kernel,rfl,by decide +kernel,by decide +kernel⟩
theorem bG (T:Top K mg):jZ P w K mg base 2 "Rows" "number_of_ask" ["self","character","no","yes"] bd:=
 dZ T.d_Rows_number_of_ask ik sc_Rows_number_of_ask (λf cdv A outer s H E hr=>by
 have hu:=aV hr;have hu1:=aT hr;have hu2:=aU hr;have hgd:=hr.gd;have nd:=sc_Rows_number_of_ask.nd
 exact (aq (aG (kU (bN (ia hu) (ab (i:=2)) (ab (i:=3))) (ab (i:=2)) (aR (cu T) (hr.mono (by omega)) (ab (i:=0)) (aa (cW (aa (ab (i:=1)) (aa (ab (i:=2)) (aa (ab (i:=3)) af)))) af))))))
theorem im:aj cG=z_Pairs_side_of_pair:=rfl
theorem sc_Pairs_side_of_pair:FnScope ["self","pair","character","value"] ["self","pair","character","value"] z_Pairs_side_of_pair:=⟨rfl,rfl,rfl,by decide +kernel,rfl,by decide +kernel,by decide +kernel⟩
theorem dB (T:Top K mg):jZ P w K mg base 2 "Pairs" "side_of_pair" ["self","pair","character","value"] bV:=
 dZ T.d_Pairs_side_of_pair im sc_Pairs_side_of_pair (λf cdv A outer s H E hr=>by
 have hu:=aV hr;have hu1:=aT hr;have hu2:=aU hr;have hgd:=hr.gd;have nd:=sc_Pairs_side_of_pair.nd
 exact (aq (aG (b6 gm T.b_tuple cR (aa (fQ (ts:=["fold","number"]) (ix:=[2,3]) rfl ⟨rfl,by decide +kernel,by decide +kernel,by exact (show ∀ y∈(_:List (Str×NameKind)),y.2=NameKind.free->List.lookup y.1 z_Pairs_side_of_pair.names=some NameKind.cell∨List.lookup y.1 z_Pairs_side_of_pair.names=some NameKind.free from by decide +kernel)⟩ (by exact (show ∀ t∈([2,3]:List Nat),List.lookup ((["self","pair","character","value"]:List Str).getD t Str.empty) _=some NameKind.free from by decide +kernel)) (xF rfl T.b_zip (aa (bz T.f_Pairs_folds (ab (i:=0))) (aa (ab (i:=1)) af))) (λ_ _ _ _ _=>⟨(kS rfl (bQ (aW (i:=0) (show (["fold","number","character","value"]:List Str).Nodup from by decide +kernel)) (bQ (aW (i:=1) (show (["fold","number","character","value"]:List Str).Nodup from by decide +kernel)) jd))),gU,(az (l9 T) (hr.mono (by omega)) (aa (ab (i:=0)) (aa (ab (i:=1)) (aa (ab (i:=2)) (aa (ab (i:=3)) af)))))⟩)) af)))))
theorem kN:aj bh=h8:=rfl
theorem sc_names_of_both:FnScope ["names","others"] ["names","others"] h8:=⟨rfl,rfl,rfl,by decide +kernel,rfl,by decide +kernel,by decide +kernel⟩
theorem lB (T:Top K mg):ow P w K mg base 1 "names_of_both" bh ["names","others"] cV:=
 jl (bd2 λ_ _ _ _ _ _ _ _=>rfl) kN sc_names_of_both (λf cdv A outer s H E hr=>by
 have hu:=aV hr;have hu1:=aT hr;have hu2:=aU hr;have hgd:=hr.gd;have nd:=sc_names_of_both.nd
 exact (aq (aG (b6 gm T.b_tuple cR (aa (uc rfl rfl rfl T.b_sorted T.b_set (aC bn (ab (i:=0)) (ab (i:=1)))) af)))))
theorem jE:aj aY=z_names_in_common:=rfl
theorem sc_names_in_common:FnScope ["names","others"] ["names","others"] z_names_in_common:=⟨rfl,rfl,rfl,by decide +kernel,rfl,by decide +kernel,by decide +kernel⟩
theorem jX (T:Top K mg):ow P w K mg base 1 "names_in_common" aY ["names","others"] cD:=
 jl (bd2 λ_ _ _ _ _ _ _ _=>rfl) jE sc_names_in_common (λf cdv A outer s H E hr=>by
 have hu:=aV hr;have hu1:=aT hr;have hu2:=aU hr;have hgd:=hr.gd;have nd:=sc_names_in_common.nd
 exact (aq (aG (b6 gm T.b_tuple cR (aa (fQ (ts:=["name"]) (ix:=[1]) rfl ⟨rfl,by decide +kernel,by decide +kernel,by exact (show ∀ y∈(_:List (Str×NameKind)),y.2=NameKind.free->List.lookup y.1 z_names_in_common.names=some NameKind.cell∨List.lookup y.1 z_names_in_common.names=some NameKind.free from by decide +kernel)⟩ (by exact (show ∀ t∈([1]:List Nat),List.lookup ((["names","others"]:List Str).getD t Str.empty) _=some NameKind.free from by decide +kernel)) (iE (ab (i:=0))) (λ_ _ _ _ _=>⟨(aW (i:=0) (show (["name","others"]:List Str).Nodup from by decide +kernel)),(pW (Bl hu hu1 hu2 (ab (i:=0)) (ab (i:=1)))),(ab (i:=0))⟩)) af)))))
theorem ij:aj aO=z_names_of_one_alone:=rfl
theorem sc_names_of_one_alone:FnScope ["names","others"] ["names","others"] z_names_of_one_alone:=⟨rfl,rfl,rfl,by decide +kernel,rfl,by decide +kernel,by decide +kernel⟩
theorem io (T:Top K mg):ow P w K mg base 1 "names_of_one_alone" aO ["names","others"] bT:=
 jl (bd2 λ_ _ _ _ _ _ _ _=>rfl) ij sc_names_of_one_alone (λf cdv A outer s H E hr=>by
 have hu:=aV hr;have hu1:=aT hr;have hu2:=aU hr;have hgd:=hr.gd;have nd:=sc_names_of_one_alone.nd
 exact (aq (aG (b6 gm T.b_tuple cR (aa (fQ (ts:=["name"]) (ix:=[1]) rfl ⟨rfl,by decide +kernel,by decide +kernel,by exact (show ∀ y∈(_:List (Str×NameKind)),y.2=NameKind.free->List.lookup y.1 z_names_of_one_alone.names=some NameKind.cell∨List.lookup y.1 z_names_of_one_alone.names=some NameKind.free from by decide +kernel)⟩ (by exact (show ∀ t∈([1]:List Nat),List.lookup ((["names","others"]:List Str).getD t Str.empty) _=some NameKind.free from by decide +kernel)) (iE (ab (i:=0))) (λ_ _ _ _ _=>⟨(aW (i:=0) (show (["name","others"]:List Str).Nodup from by decide +kernel)),(pW (oI hu hu1 hu2 (ab (i:=0)) (ab (i:=1)))),(ab (i:=0))⟩)) af)))))
theorem jF:aj dg=z_Pairs_pair_anew:=rfl
theorem sc_Pairs_pair_anew:FnScope ["self","pair","names_of","order","rows","first","no","yes"] ["self","pair","names_of"] z_Pairs_pair_anew:=⟨rfl,rfl,rfl,by decide +kernel,rfl,by decide +kernel,by decide +kernel⟩
theorem jv (T:Top K mg){n:Nat}{rec:List D->Sto->Out D}(Crec:jZ P w K mg base (n*2+2) "Pairs" "number_of_pair" ["self","pair","names_of"] rec):jZ P w K mg base (n*2+3) "Pairs" "pair_anew" ["self","pair","names_of"] (dG rec):=by
 rw[show n*2+3=(n*2+2)+1 from by omega]
 exact dZ T.d_Pairs_pair_anew jF sc_Pairs_pair_anew (λf cdv A outer s H E hr=>by
 have hu:=aV hr;have hu1:=aT hr;have hu2:=aU hr;have hgd:=hr.gd;have nd:=sc_Pairs_pair_anew.nd
 exact (ai (aM (i:=3) nd (bz T.f_Rows_order (bz T.f_Pairs_rows (ab (i:=0)))))
  (ai (m4 (ts:=["fold","number"]) (ix:=[]) (i:=4) nd rfl ⟨rfl,by decide +kernel,by decide +kernel,by exact (show ∀ y∈(_:List (Str×NameKind)),y.2=NameKind.free->List.lookup y.1 z_Pairs_pair_anew.names=some NameKind.cell∨List.lookup y.1 z_Pairs_pair_anew.names=some NameKind.free from by decide +kernel)⟩ (by exact (show ∀ t∈([]:List Nat),List.lookup ((["self","pair","names_of","order","rows","first","no","yes"]:List Str).getD t Str.empty) _=some NameKind.free from by decide +kernel)) (xF rfl T.b_zip (aa (bz T.f_Pairs_folds (ab (i:=0))) (aa (ab (i:=1)) af))) (λ_ _ _ _ _=>⟨(kS rfl (bQ (aW (i:=0) (show (["fold","number"]:List Str).Nodup from by decide +kernel)) (bQ (aW (i:=1) (show (["fold","number"]:List Str).Nodup from by decide +kernel)) jd))),gU,(a_ hu1 (ab (i:=0)) (ab (i:=1)))⟩))
  (ai (aM (i:=5) nd (cE (vL rfl) T.b_min zl (aa (fQ (ts:=["row"]) (ix:=[3]) rfl ⟨rfl,by decide +kernel,by decide +kernel,by exact (show ∀ y∈(_:List (Str×NameKind)),y.2=NameKind.free->List.lookup y.1 z_Pairs_pair_anew.names=some NameKind.cell∨List.lookup y.1 z_Pairs_pair_anew.names=some NameKind.free from by decide +kernel)⟩ (by exact (show ∀ t∈([3]:List Nat),List.lookup ((["self","pair","names_of","order","rows","first","no","yes"]:List Str).getD t Str.empty) _=some NameKind.free from by decide +kernel)) (iE (ab (i:=4))) (λ_ _ _ _ _=>⟨(aW (i:=0) (show (["row","order"]:List Str).Nodup from by decide +kernel)),gU,(az (kH T) (hr.mono (by omega)) (aa (ab (i:=0)) (aa (ab (i:=1)) af)))⟩)) af)))
  (ai (d8 (bN (ia hu) (ab (i:=5)) (cE iR T.b_len hV (aa (ab (i:=3)) af))) (aq (aG (aR (cu T) (hr.mono (by omega)) (bz T.f_Pairs_rows (ab (i:=0))) (aa (cW (aa jH (aa (nh (db (lB T) (hr.mono (by omega)) (db (jX T) (hr.mono (by omega)) (db (io T) (hr.mono (by omega)) pU))) (ab (i:=2)) (aa (a_ hu1 (a_ hu1 (ab (i:=4)) ao) ao) (aa (a_ hu1 (a_ hu1 (ab (i:=4)) ao) ao) af))) af))) af)))) bP)
  (ai (aM (i:=6) nd (aR Crec (hr.mono (by omega)) (ab (i:=0)) (aa (aR (dB T) (hr.mono (by omega)) (ab (i:=0)) (aa (ab (i:=1)) (aa (a_ hu1 (ab (i:=3)) (ab (i:=5))) (aa ao af)))) (aa (ab (i:=2)) af))))
  (ai (aM (i:=7) nd (aR Crec (hr.mono (by omega)) (ab (i:=0)) (aa (aR (dB T) (hr.mono (by omega)) (ab (i:=0)) (aa (ab (i:=1)) (aa (a_ hu1 (ab (i:=3)) (ab (i:=5))) (aa ao af)))) (aa (ab (i:=2)) af))))
  (aq (aG (aR (bG T) (hr.mono (by omega)) (bz T.f_Pairs_rows (ab (i:=0))) (aa (a_ hu1 (ab (i:=3)) (ab (i:=5))) (aa (ab (i:=6)) (aa (ab (i:=7)) af)))))))))))))
theorem gu:aj ck=c_:=rfl
theorem sc_Pairs_number_of_pair:FnScope ["self","pair","names_of"] ["self","pair","names_of"] c_:=⟨rfl,rfl,rfl,by decide +kernel,rfl,by decide +kernel,by decide +kernel⟩
theorem cQ (T:Top K mg):∀ n:Nat,jZ P w K mg base (n*2+2) "Pairs" "number_of_pair" ["self","pair","names_of"] (bH n)
 | 0=>pD T.d_Pairs_number_of_pair
 |n+1=>by
  have Crec:=cQ T n
  rw[show (n+1)*2+2=(n*2+3)+1 from by omega]
  exact dZ T.d_Pairs_number_of_pair gu sc_Pairs_number_of_pair (λf cdv A outer s H E hr=>by
   have hu:=aV hr;have hu1:=aT hr;have hu2:=aU hr;have hgd:=hr.gd;have nd:=sc_Pairs_number_of_pair.nd
   exact (ai (d8 (kR hu (ab (i:=1)) (bz T.f_Pairs_made (ab (i:=0)))) (aq (pY hu (bz T.f_Pairs_made (ab (i:=0))) (ab (i:=1)) (aR (jv T Crec) (hr.mono (by omega)) (ab (i:=0)) (aa (ab (i:=1)) (aa (ab (i:=2)) af))))) bP)
    (aq (aG (p9 hu (bz T.f_Pairs_made (ab (i:=0))) (ab (i:=1)))))))
theorem me:aj fC=iw:=rfl
theorem sc_put_together:FnScope ["one","other","order","names_of","pairs"] ["one","other","order","names_of"] iw:=⟨rfl,rfl,rfl,by decide +kernel,rfl,by decide +kernel,by decide +kernel⟩
theorem dR (T:Top K mg):Cal P w K mg base 21 "put_together" ["one","other","order","names_of"] bK:=
 bp T.d_put_together me sc_put_together (λf cdv A outer s H E hr=>by
 have hu:=aV hr;have hu1:=aT hr;have hu2:=aU hr;have hgd:=hr.gd;have nd:=sc_put_together.nd
 exact (ai (aM (i:=4) nd (mG (jW T) (hr.mono (by omega)) (aa (ab (i:=0)) (aa (ab (i:=1)) (aa (ab (i:=2)) af)))))
  (aq (aG (aR (cZ T) (hr.mono (by omega)) (bz T.f_Pairs_rows (ab (i:=4))) (aa (aR (cQ T 9) (hr.mono (by omega)) (ab (i:=4)) (aa (cW (aa (aC qt (cE iR T.b_len hV (aa (ab (i:=0)) af)) ao) (aa (aC qt (cE iR T.b_len hV (aa (ab (i:=1)) af)) ao) af))) (aa (ab (i:=3)) af))) af))))))
theorem vW:aj bA=rg:=rfl
theorem sc_joined:FnScope ["one","other","order"] ["one","other","order"] rg:=⟨rfl,rfl,rfl,by decide +kernel,rfl,by decide +kernel,by decide +kernel⟩
theorem lD (T:Top K mg):ow P w K mg base 22 "joined" bA ["one","other","order"] bc:=
 jl (bd3 λ_ _ _ _ _ _ _ _ _=>rfl) vW sc_joined (λf cdv A outer s H E hr=>by
 have hu:=aV hr;have hu1:=aT hr;have hu2:=aU hr;have hgd:=hr.gd;have nd:=sc_joined.nd
 exact (aq (aG (az (dR T) (hr.mono (by omega)) (aa (ab (i:=0)) (aa (ab (i:=1)) (aa (ab (i:=2)) (aa (oO T.d_names_of_both) af))))))))
theorem fH (T:Top K mg):Cal P w K mg base 22 "joined" ["one","other","order"] bc:=Bd T.d_joined (lD T)
theorem vZ:aj bB=rm:=rfl
theorem sc_common:FnScope ["one","other","order"] ["one","other","order"] rm:=⟨rfl,rfl,rfl,by decide +kernel,rfl,by decide +kernel,by decide +kernel⟩
theorem lF (T:Top K mg):ow P w K mg base 22 "common" bB ["one","other","order"] bU:=
 jl (bd3 λ_ _ _ _ _ _ _ _ _=>rfl) vZ sc_common (λf cdv A outer s H E hr=>by
 have hu:=aV hr;have hu1:=aT hr;have hu2:=aU hr;have hgd:=hr.gd;have nd:=sc_common.nd
 exact (aq (aG (az (dR T) (hr.mono (by omega)) (aa (ab (i:=0)) (aa (ab (i:=1)) (aa (ab (i:=2)) (aa (oO T.d_names_in_common) af))))))))
theorem jU (T:Top K mg):Cal P w K mg base 22 "common" ["one","other","order"] bU:=Bd T.d_common (lF T)
theorem zv:aj bO=xv:=rfl
theorem sc_less:FnScope ["one","other","order"] ["one","other","order"] xv:=⟨rfl,rfl,rfl,by decide +kernel,rfl,by decide +kernel,by decide +kernel⟩
theorem vN (T:Top K mg):ow P w K mg base 22 "less" bO ["one","other","order"] lO:=
 jl (bd3 λ_ _ _ _ _ _ _ _ _=>rfl) zv sc_less (λf cdv A outer s H E hr=>by
 have hu:=aV hr;have hu1:=aT hr;have hu2:=aU hr;have hgd:=hr.gd;have nd:=sc_less.nd
 exact (aq (aG (az (dR T) (hr.mono (by omega)) (aa (ab (i:=0)) (aa (ab (i:=1)) (aa (ab (i:=2)) (aa (oO T.d_names_of_one_alone) af))))))))
theorem mP:aj gf=z_blank_sheet:=rfl
theorem sc_blank_sheet:FnScope ["many"] ["many"] z_blank_sheet:=⟨rfl,rfl,rfl,by decide +kernel,rfl,by decide +kernel,by decide +kernel⟩
theorem mw (T:Top K mg):Cal P w K mg base 1 "blank_sheet" ["many"] gq:=
 bp T.d_blank_sheet mP sc_blank_sheet (λf cdv A outer s H E hr=>by
 have hu:=aV hr;have hu1:=aT hr;have hu2:=aU hr;have hgd:=hr.gd;have nd:=sc_blank_sheet.nd
 exact (aq (aG (b6 gm T.b_tuple cR (aa (fQ (ts:=["character"]) (ix:=[]) rfl ⟨rfl,by decide +kernel,by decide +kernel,by exact (show ∀ y∈(_:List (Str×NameKind)),y.2=NameKind.free->List.lookup y.1 z_blank_sheet.names=some NameKind.cell∨List.lookup y.1 z_blank_sheet.names=some NameKind.free from by decide +kernel)⟩ (by exact (show ∀ t∈([]:List Nat),List.lookup ((["many"]:List Str).getD t Str.empty) _=some NameKind.free from by decide +kernel)) (gB rfl T.b_range (aa (ab (i:=0)) af)) (λ_ _ _ _ _=>⟨(aW (i:=0) (show (["character"]:List Str).Nodup from by decide +kernel)),gU,ud⟩)) af)))))
theorem n9:aj gW=j3:=rfl
theorem sc_with_value:FnScope ["sheet","character","value"] ["sheet","character","value"] j3:=⟨rfl,rfl,rfl,by decide +kernel,rfl,by decide +kernel,by decide +kernel⟩
theorem nW (T:Top K mg):Cal P w K mg base 1 "with_value" ["sheet","character","value"] fm:=
 bp T.d_with_value n9 sc_with_value (λf cdv A outer s H E hr=>by
 have hu:=aV hr;have hu1:=aT hr;have hu2:=aU hr;have hgd:=hr.gd;have nd:=sc_with_value.nd
 exact (aq (aG (aC bn (aC bn (m_ sld (ab (i:=0)) trivial (ab (i:=1))) (cW (aa (ab (i:=2)) af))) (m_ sld (ab (i:=0)) (aC bn (ab (i:=1)) ao) trivial)))))
theorem mf:aj fD=iz:=rfl
theorem sc_number_known:FnScope ["rows","row","numbers","sheet","value"] ["rows","row","numbers","sheet"] iz:=⟨rfl,rfl,rfl,by decide +kernel,rfl,by decide +kernel,by decide +kernel⟩
theorem lw (T:Top K mg):Cal P w K mg base 3 "number_known" ["rows","row","numbers","sheet"] fN:=
 bp T.d_number_known mf sc_number_known (λf cdv A outer s H E hr=>by
 have hu:=aV hr;have hu1:=aT hr;have hu2:=aU hr;have hgd:=hr.gd;have nd:=sc_number_known.nd
 exact (ai (d8 (Bk (pR (az (kI T) (hr.mono (by omega)) (aa (ab (i:=1)) af)))) (aq (aG (aR (cu T) (hr.mono (by omega)) (ab (i:=0)) (aa (ab (i:=1)) af)))) bP)
  (ai (aM (i:=4) nd (a_ hu1 (ab (i:=3)) (a_ hu1 (ab (i:=1)) ao)))
  (ai (d8 (bN Dk (ab (i:=4)) ud) (aq (aG (aR (bG T) (hr.mono (by omega)) (ab (i:=0)) (aa (a_ hu1 (ab (i:=1)) ao) (aa (jI (ab (i:=2)) (a_ hu1 (ab (i:=1)) ao)) (aa (jI (ab (i:=2)) (a_ hu1 (ab (i:=1)) ao)) af)))))) bP)
  (aq (aG (jI (ab (i:=2)) (a_ hu1 (ab (i:=1)) (aC bn ao (ab (i:=4)))))))))))
theorem xq:aj qg=uU:=rfl
theorem sc_known:FnScope ["fold","sheet","order","rows","numbers","row"] ["fold","sheet","order"] uU:=⟨rfl,rfl,rfl,by decide +kernel,rfl,by decide +kernel,by decide +kernel⟩
theorem cN (T:Top K mg):Cal P w K mg base 15 "known" ["fold","sheet","order"] bw:=
 bp T.d_known xq sc_known (λf cdv A outer s H E hr=>by
 have hu:=aV hr;have hu1:=aT hr;have hu2:=aU hr;have hgd:=hr.gd;have nd:=sc_known.nd
 exact (ai (aM (i:=3) nd (mG (dA T) (hr.mono (by omega)) (aa (ab (i:=2)) af)))
  (ai (aM (i:=4) nd u6)
  (ai (iD PassesOwn.never rfl (iE (ab (i:=0))) (aW (i:=5) nd) (aq (mE (xM rfl (ab (i:=4)) (az (lw T) (hr.mono (by omega)) (aa (ab (i:=3)) (aa (ab (i:=5)) (aa (ab (i:=4)) (aa (ab (i:=1)) af)))))))))
  (aq (aG (aR (cZ T) (hr.mono (by omega)) (ab (i:=3)) (aa (jI (ab (i:=4)) (AX xy ao)) af))))))))
theorem vY:aj nu=rj:=rfl
theorem sc_cut_at:FnScope ["fold","character","value","order"] ["fold","character","value","order"] rj:=⟨rfl,rfl,rfl,by decide +kernel,rfl,by decide +kernel,by decide +kernel⟩
theorem hU (T:Top K mg):Cal P w K mg base 16 "cut_at" ["fold","character","value","order"] cS:=
 bp T.d_cut_at vY sc_cut_at (λf cdv A outer s H E hr=>by
 have hu:=aV hr;have hu1:=aT hr;have hu2:=aU hr;have hgd:=hr.gd;have nd:=sc_cut_at.nd
 exact (aq (aG (az (cN T) (hr.mono (by omega)) (aa (ab (i:=0)) (aa (az (nW T) (hr.mono (by omega)) (aa (az (mw T) (hr.mono (by omega)) (aa (cE iR T.b_len hV (aa (ab (i:=3)) af)) af)) (aa (ab (i:=1)) (aa (ab (i:=2)) af)))) (aa (ab (i:=3)) af)))))))
theorem pM:aj iG=lR:=rfl
theorem sc_forgotten:FnScope ["fold","character","order"] ["fold","character","order"] lR:=⟨rfl,rfl,rfl,by decide +kernel,rfl,by decide +kernel,by decide +kernel⟩
theorem bW (T:Top K mg):Cal P w K mg base 23 "forgotten" ["fold","character","order"] aH:=
 bp T.d_forgotten pM sc_forgotten (λf cdv A outer s H E hr=>by
 have hu:=aV hr;have hu1:=aT hr;have hu2:=aU hr;have hgd:=hr.gd;have nd:=sc_forgotten.nd
 exact (aq (aG (az (fH T) (hr.mono (by omega)) (aa (az (hU T) (hr.mono (by omega)) (aa (ab (i:=0)) (aa (ab (i:=1)) (aa ao (aa (ab (i:=2)) af))))) (aa (az (hU T) (hr.mono (by omega)) (aa (ab (i:=0)) (aa (ab (i:=1)) (aa ao (aa (ab (i:=2)) af))))) (aa (ab (i:=2)) af)))))))
theorem v_:aj nv=rn:=rfl
theorem sc_always:FnScope ["fold","character","order"] ["fold","character","order"] rn:=⟨rfl,rfl,rfl,by decide +kernel,rfl,by decide +kernel,by decide +kernel⟩
theorem jV (T:Top K mg):Cal P w K mg base 23 "always" ["fold","character","order"] cT:=
 bp T.d_always v_ sc_always (λf cdv A outer s H E hr=>by
 have hu:=aV hr;have hu1:=aT hr;have hu2:=aU hr;have hgd:=hr.gd;have nd:=sc_always.nd
 exact (aq (aG (az (jU T) (hr.mono (by omega)) (aa (az (hU T) (hr.mono (by omega)) (aa (ab (i:=0)) (aa (ab (i:=1)) (aa ao (aa (ab (i:=2)) af))))) (aa (az (hU T) (hr.mono (by omega)) (aa (ab (i:=0)) (aa (ab (i:=1)) (aa ao (aa (ab (i:=2)) af))))) (aa (ab (i:=2)) af)))))))
theorem gr:aj cj=z_Rows_first_character:=rfl
theorem sc_Rows_first_character:FnScope ["self","character","no","yes","places"] ["self","character","no","yes"] z_Rows_first_character:=⟨rfl,rfl,rfl,by decide +kernel,rfl,by decide +kernel,by decide +kernel⟩
theorem gp (T:Top K mg):jZ P w K mg base 3 "Rows" "first_character" ["self","character","no","yes"] cv:=
 dZ T.d_Rows_first_character gr sc_Rows_first_character (λf cdv A outer s H E hr=>by
 have hu:=aV hr;have hu1:=aT hr;have hu2:=aU hr;have hgd:=hr.gd;have nd:=sc_Rows_first_character.nd
 exact (ai (m4 (ts:=["number"]) (ix:=[0]) (i:=4) nd rfl ⟨rfl,by decide +kernel,by decide +kernel,by exact (show ∀ y∈(_:List (Str×NameKind)),y.2=NameKind.free->List.lookup y.1 z_Rows_first_character.names=some NameKind.cell∨List.lookup y.1 z_Rows_first_character.names=some NameKind.free from by decide +kernel)⟩ (by exact (show ∀ t∈([0]:List Nat),List.lookup ((["self","character","no","yes","places"]:List Str).getD t Str.empty) _=some NameKind.free from by decide +kernel)) (iE (cW (aa (ab (i:=2)) (aa (ab (i:=3)) af)))) (λ_ _ _ _ _=>⟨(aW (i:=0) (show (["number","self"]:List Str).Nodup from by decide +kernel)),gU,(az (kH T) (hr.mono (by omega)) (aa (jI (bz T.f_Rows_gathered (ab (i:=1))) (ab (i:=0))) (aa (bz T.f_Rows_order (ab (i:=1))) af)))⟩))
  (aq (aG (a_ hu1 (bz T.f_Rows_order (ab (i:=0))) (cE (vL rfl) T.b_min zl (aa (aC bn (ab (i:=4)) (qd (aa (oW rfl (bz T.f_Rows_order (ab (i:=0))) (ab (i:=1))) af))) af)))))))
theorem pO:aj iI=lT:=rfl
theorem sc_Rows_side:FnScope ["self","number","character","value"] ["self","number","character","value"] lT:=⟨rfl,rfl,rfl,by decide +kernel,rfl,by decide +kernel,by decide +kernel⟩
theorem cz (T:Top K mg):jZ P w K mg base 2 "Rows" "side" ["self","number","character","value"] ci:=
 dZ T.d_Rows_side pO sc_Rows_side (λf cdv A outer s H E hr=>by
 have hu:=aV hr;have hu1:=aT hr;have hu2:=aU hr;have hgd:=hr.gd;have nd:=sc_Rows_side.nd
 exact (aq (aG (az (l9 T) (hr.mono (by omega)) (aa (bz T.f_Rows_gathered (ab (i:=0))) (aa (ab (i:=1)) (aa (ab (i:=2)) (aa (ab (i:=3)) af))))))))
theorem jo:aj cX=fu:=rfl
theorem sc_Rows_choose_anew:FnScope ["self","character","no","yes","first","without","having"] ["self","character","no","yes"] fu:=⟨rfl,rfl,rfl,by decide +kernel,rfl,by decide +kernel,by decide +kernel⟩
theorem iS (T:Top K mg){n:Nat}{rec:List D->Sto->Out D}(Crec:jZ P w K mg base (n*2+3) "Rows" "choose" ["self","character","no","yes"] rec):jZ P w K mg base (n*2+4) "Rows" "choose_anew" ["self","character","no","yes"] (c9 rec):=by
 rw[show n*2+4=(n*2+3)+1 from by omega]
 exact dZ T.d_Rows_choose_anew jo sc_Rows_choose_anew (λf cdv A outer s H E hr=>by
 have hu:=aV hr;have hu1:=aT hr;have hu2:=aU hr;have hgd:=hr.gd;have nd:=sc_Rows_choose_anew.nd
 exact (ai (aM (i:=4) nd (aR (gp T) (hr.mono (by omega)) (ab (i:=0)) (aa (ab (i:=1)) (aa (ab (i:=2)) (aa (ab (i:=3)) af)))))
  (ai (d8 (bN (ia hu) (ab (i:=4)) (ab (i:=1))) (aq (aG (aR (bG T) (hr.mono (by omega)) (ab (i:=0)) (aa (ab (i:=1)) (aa (aR (cz T) (hr.mono (by omega)) (ab (i:=0)) (aa (ab (i:=2)) (aa (ab (i:=1)) (aa ao af)))) (aa (aR (cz T) (hr.mono (by omega)) (ab (i:=0)) (aa (ab (i:=3)) (aa (ab (i:=1)) (aa ao af)))) af)))))) bP)
  (ai (aM (i:=5) nd (aR Crec (hr.mono (by omega)) (ab (i:=0)) (aa (ab (i:=1)) (aa (aR (cz T) (hr.mono (by omega)) (ab (i:=0)) (aa (ab (i:=2)) (aa (ab (i:=4)) (aa ao af)))) (aa (aR (cz T) (hr.mono (by omega)) (ab (i:=0)) (aa (ab (i:=3)) (aa (ab (i:=4)) (aa ao af)))) af)))))
  (ai (aM (i:=6) nd (aR Crec (hr.mono (by omega)) (ab (i:=0)) (aa (ab (i:=1)) (aa (aR (cz T) (hr.mono (by omega)) (ab (i:=0)) (aa (ab (i:=2)) (aa (ab (i:=4)) (aa ao af)))) (aa (aR (cz T) (hr.mono (by omega)) (ab (i:=0)) (aa (ab (i:=3)) (aa (ab (i:=4)) (aa ao af)))) af)))))
  (aq (aG (aR (bG T) (hr.mono (by omega)) (ab (i:=0)) (aa (ab (i:=4)) (aa (ab (i:=5)) (aa (ab (i:=6)) af)))))))))))
theorem mQ:aj gg=jw:=rfl
theorem sc_Rows_choose:FnScope ["self","character","no","yes","choice"] ["self","character","no","yes"] jw:=⟨rfl,rfl,rfl,by decide +kernel,rfl,by decide +kernel,by decide +kernel⟩
theorem ig (T:Top K mg):∀ n:Nat,jZ P w K mg base (n*2+3) "Rows" "choose" ["self","character","no","yes"] (d5 n)
 | 0=>pD T.d_Rows_choose
 |n+1=>by
  have Crec:=ig T n
  rw[show (n+1)*2+3=(n*2+4)+1 from by omega]
  exact dZ T.d_Rows_choose mQ sc_Rows_choose (λf cdv A outer s H E hr=>by
   have hu:=aV hr;have hu1:=aT hr;have hu2:=aU hr;have hgd:=hr.gd;have nd:=sc_Rows_choose.nd
   exact (ai (aM (i:=4) nd (cW (aa (ab (i:=1)) (aa (ab (i:=2)) (aa (ab (i:=3)) af)))))
    (ai (d8 (kR hu (ab (i:=4)) (bz T.f_Rows_choices (ab (i:=0)))) (aq (pY hu (bz T.f_Rows_choices (ab (i:=0))) (ab (i:=4)) (kU (bN (ia hu) (ab (i:=2)) (ab (i:=3))) (ab (i:=2)) (aR (iS T Crec) (hr.mono (by omega)) (ab (i:=0)) (aa (ab (i:=1)) (aa (ab (i:=2)) (aa (ab (i:=3)) af))))))) bP)
    (aq (aG (p9 hu (bz T.f_Rows_choices (ab (i:=0))) (ab (i:=4))))))))
theorem kM:aj eN=hZ:=rfl
theorem sc_number_of_key:FnScope ["rows","key"] ["rows","key"] hZ:=⟨rfl,rfl,rfl,by decide +kernel,rfl,by decide +kernel,by decide +kernel⟩
theorem fW (T:Top K mg):∀ n:Nat,Cal P w K mg base (n+21) "number_of_key" ["rows","key"] (cU n)
 | 0=>nV T.d_number_of_key
 |n+1=>by
  have Crec:=fW T n
  exact bp T.d_number_of_key kM sc_number_of_key (λf cdv A outer s H E hr=>by
   have hu:=aV hr;have hu1:=aT hr;have hu2:=aU hr;have hgd:=hr.gd;have nd:=sc_number_of_key.nd
   exact (ai (d8 (bN (ia hu) (a_ hu1 (ab (i:=1)) ao) jH) (aq (aG (aR (cu T) (hr.mono (by omega)) (ab (i:=0)) (aa (ab (i:=1)) af)))) bP)
    (aq (aG (aR (ig T 9) (hr.mono (by omega)) (ab (i:=0)) (aa (a_ hu1 (ab (i:=1)) ao) (aa (az Crec (hr.mono (by omega)) (aa (ab (i:=0)) (aa (a_ hu1 (ab (i:=1)) ao) af))) (aa (az Crec (hr.mono (by omega)) (aa (ab (i:=0)) (aa (a_ hu1 (ab (i:=1)) ao) af))) af))))))))
theorem vX:aj nt=rh:=rfl
theorem sc_folded:FnScope ["key","order","rows"] ["key","order"] rh:=⟨rfl,rfl,rfl,by decide +kernel,rfl,by decide +kernel,by decide +kernel⟩
theorem nZ (T:Top K mg):Cal P w K mg base 37 "folded" ["key","order"] iX:=
 bp T.d_folded vX sc_folded (λf cdv A outer s H E hr=>by
 have hu:=aV hr;have hu1:=aT hr;have hu2:=aU hr;have hgd:=hr.gd;have nd:=sc_folded.nd
 exact (ai (aM (i:=2) nd (mG (dA T) (hr.mono (by omega)) (aa (ab (i:=1)) af)))
  (aq (aG (aR (cZ T) (hr.mono (by omega)) (ab (i:=2)) (aa (az (fW T 15) (hr.mono (by omega)) (aa (ab (i:=2)) (aa (ab (i:=0)) af))) af))))))
theorem pN:aj iH=lS:=rfl
theorem sc_cell_at_L:FnScope ["_law_script","_law_k"] ["_law_script","_law_k"] lS:=⟨rfl,rfl,rfl,by decide +kernel,rfl,by decide +kernel,by decide +kernel⟩
theorem oq (T:Top K mg):Cal P w K mg base 1 "_law_cell_at" ["_law_script","_law_k"] iY:=
 bp T.d_cell_at_L pN sc_cell_at_L (λf cdv A outer s H E hr=>by
 have hu:=aV hr;have hu1:=aT hr;have hu2:=aU hr;have hgd:=hr.gd;have nd:=sc_cell_at_L.nd
 exact (ai (d8 (bN Dj (ab (i:=1)) (cE iR T.b_len hV (aa (ab (i:=0)) af))) (aq (aG (a_ hu1 (ab (i:=0)) (ab (i:=1))))) bP)
  (aq (aG ao))))
theorem tO:aj k7=oC:=rfl
theorem sc_mixed_L:FnScope ["_law_script","_law_k","_law_drawn_here"] ["_law_script","_law_k"] oC:=⟨rfl,rfl,rfl,by decide +kernel,rfl,by decide +kernel,by decide +kernel⟩
theorem bI (T:Top K mg):Cal P w K mg base 2 "_law_mixed" ["_law_script","_law_k"] aQ:=
 bp T.d_mixed_L tO sc_mixed_L (λf cdv A outer s H E hr=>by
 have hu:=aV hr;have hu1:=aT hr;have hu2:=aU hr;have hgd:=hr.gd;have nd:=sc_mixed_L.nd
 exact (ai (aM (i:=2) nd (aC cB (aC di (aC bn (aC bn (az (oq T) (hr.mono (by omega)) (aa (ab (i:=0)) (aa (ab (i:=1)) af))) (aC di ao (ab (i:=1)))) ao) ao) ao))
  (aq (aG (aC cB (aC bn (aC bn (aC di (ab (i:=2)) (ab (i:=2))) (aC di ao (ab (i:=2)))) (ab (i:=1))) ao)))))
theorem tP:aj k8=oE:=rfl
theorem sc_drawn_L:FnScope ["_law_number","_law_k","_law_drawn_here"] ["_law_number","_law_k"] oE:=⟨rfl,rfl,rfl,by decide +kernel,rfl,by decide +kernel,by decide +kernel⟩
theorem eI (T:Top K mg):Cal P w K mg base 1 "_law_drawn" ["_law_number","_law_k"] dU:=
 bp T.d_drawn_L tP sc_drawn_L (λf cdv A outer s H E hr=>by
 have hu:=aV hr;have hu1:=aT hr;have hu2:=aU hr;have hgd:=hr.gd;have nd:=sc_drawn_L.nd
 exact (ai (aM (i:=2) nd (aC cB (aC di (aC bn (aC bn (ab (i:=0)) (aC di ao (ab (i:=1)))) ao) ao) ao))
  (aq (aG (aC cB (aC bn (aC bn (aC di (ab (i:=2)) (ab (i:=2))) (aC di ao (ab (i:=2)))) (ab (i:=1))) ao)))))
theorem tJ:aj kW=oy:=rfl
theorem sc_words_L:FnScope ["_law_number","_law_letters","_law_found","_law_k","_law_drawn_here","_law_word","_law_at"] ["_law_number"] oy:=⟨rfl,rfl,rfl,by decide +kernel,rfl,by decide +kernel,by decide +kernel⟩
theorem sX (T:Top K mg):Cal P w K mg base 2 "_law_words" ["_law_number"] lJ:=
 bp T.d_words_L tJ sc_words_L (λf cdv A outer s H E hr=>by
 have hu:=aV hr;have hu1:=aT hr;have hu2:=aU hr;have hgd:=hr.gd;have nd:=sc_words_L.nd
 exact (ai (aM (i:=1) nd jH)
  (ai (aM (i:=2) nd qa)
  (ai (iD PassesOwn.never rfl (gB rfl T.b_range (aa ao af)) (aW (i:=3) nd) (ai (aM (i:=4) nd (az (eI T) (hr.mono (by omega)) (aa (ab (i:=0)) (aa (ab (i:=3)) af))))
  (ai (aM (i:=5) nd (a_ hu1 (ab (i:=1)) (aC cB (ab (i:=4)) ao)))
  (ai (iD PassesOwn.never rfl (gB rfl T.b_range (aa (aC di (aC cB (aC gZ (ab (i:=4)) ao) ao) (aC cB (ab (i:=0)) ao)) af)) (aW (i:=6) nd) (aq (aM (i:=5) nd (aC bn (ab (i:=5)) (a_ hu1 (ab (i:=1)) (aC cB (aC gZ (ab (i:=4)) (aC bn (aC di ao (ab (i:=6))) ao)) ao))))))
  (aq (t7 hu1 (ab (i:=2)) (aC bn (ab (i:=5)) (aC di jH (b6 Cu T.b_int CF (aa (Bx hu hu1 hu2 (ab (i:=5)) (kT (.tup (.cons (.str ⟨by decide,by decide +kernel⟩) (.cons (.str ⟨by decide,by decide +kernel⟩) (.cons (.str ⟨by decide,by decide +kernel⟩) .nil))) (by decide)))) af)))) kf))))))
  (aq (aG (b6 gm T.b_tuple cR (aa (zK rfl rfl T.b_sorted (ab (i:=2))) af))))))))
theorem tN:aj k6=z_names_L:=rfl
theorem sc_names_L:FnScope ["_law_number","_law_words_here"] ["_law_number","_law_words_here"] z_names_L:=⟨rfl,rfl,rfl,by decide +kernel,rfl,by decide +kernel,by decide +kernel⟩
theorem s9 (T:Top K mg):Cal P w K mg base 1 "_law_names" ["_law_number","_law_words_here"] lN:=
 bp T.d_names_L tN sc_names_L (λf cdv A outer s H E hr=>by
 have hu:=aV hr;have hu1:=aT hr;have hu2:=aU hr;have hgd:=hr.gd;have nd:=sc_names_L.nd
 exact (aq (aG (b6 gm T.b_tuple cR (aa (fQ (ts:=["_law_k","_law_word"]) (ix:=[0]) rfl ⟨rfl,by decide +kernel,by decide +kernel,by exact (show ∀ y∈(_:List (Str×NameKind)),y.2=NameKind.free->List.lookup y.1 z_names_L.names=some NameKind.cell∨List.lookup y.1 z_names_L.names=some NameKind.free from by decide +kernel)⟩ (by exact (show ∀ t∈([0]:List Nat),List.lookup ((["_law_number","_law_words_here"]:List Str).getD t Str.empty) _=some NameKind.free from by decide +kernel)) (p8 rfl T.b_enumerate (aa (ab (i:=1)) af)) (λ_ _ _ _ _=>⟨(kS rfl (bQ (aW (i:=0) (show (["_law_k","_law_word","_law_number"]:List Str).Nodup from by decide +kernel)) (bQ (aW (i:=1) (show (["_law_k","_law_word","_law_number"]:List Str).Nodup from by decide +kernel)) jd))),(pW (bN (ia hu) (aC cB (aC gZ (ab (i:=2)) (aC bn (aC di ao (ab (i:=0))) ao)) ao) ao)),(ab (i:=1))⟩)) af)))))
theorem xr:aj qh=uV:=rfl
theorem sc_key_L:FnScope ["_law_number","_law_words_here","_law_many","_law_deep","_law_no","_law_yes"] ["_law_number","_law_words_here","_law_many","_law_deep"] uV:=⟨rfl,rfl,rfl,by decide +kernel,rfl,by decide +kernel,by decide +kernel⟩
theorem lA (T:Top K mg):∀ n:Nat,Cal P w K mg base (n+1) "_law_key" ["_law_number","_law_words_here","_law_many","_law_deep"] (jn n)
 | 0=>nV T.d_key_L
 |n+1=>by
  have Crec:=lA T n
  exact bp T.d_key_L xr sc_key_L (λf cdv A outer s H E hr=>by
   have hu:=aV hr;have hu1:=aT hr;have hu2:=aU hr;have hgd:=hr.gd;have nd:=sc_key_L.nd
   exact (ai (d8 (pS (uZ (bN (ia hu) (ab (i:=3)) ao) (tZ (bN (ia hu) (aC cB (ab (i:=0)) ao) ao)))) (aq (aG (cW (aa jH (aa (az (s9 T) (hr.mono (by omega)) (aa (aC gZ (ab (i:=0)) ao) (aa (ab (i:=1)) af))) af))))) bP)
    (ai (aM (i:=4) nd (az Crec (hr.mono (by omega)) (aa (az (eI T) (hr.mono (by omega)) (aa (ab (i:=0)) (aa ao af))) (aa (ab (i:=1)) (aa (ab (i:=2)) (aa (aC qt (ab (i:=3)) ao) af))))))
    (ai (aM (i:=5) nd (az Crec (hr.mono (by omega)) (aa (az (eI T) (hr.mono (by omega)) (aa (ab (i:=0)) (aa ao af))) (aa (ab (i:=1)) (aa (ab (i:=2)) (aa (aC qt (ab (i:=3)) ao) af))))))
    (aq (aG (cW (aa jH (aa (aC cB (aC gZ (ab (i:=0)) ao) (ab (i:=2))) (aa (ab (i:=4)) (aa (ab (i:=5)) af)))))))))))
theorem tM:aj kZ=oB:=rfl
theorem sc_order_L:FnScope ["_law_number","_law_many","_law_found","_law_k","_law_at"] ["_law_number","_law_many"] oB:=⟨rfl,rfl,rfl,by decide +kernel,rfl,by decide +kernel,by decide +kernel⟩
theorem sZ (T:Top K mg):Cal P w K mg base 2 "_law_order" ["_law_number","_law_many"] lL:=
 bp T.d_order_L tM sc_order_L (λf cdv A outer s H E hr=>by
 have hu:=aV hr;have hu1:=aT hr;have hu2:=aU hr;have hgd:=hr.gd;have nd:=sc_order_L.nd
 exact (ai (aM (i:=2) nd (qd af))
  (ai (iD PassesOwn.never rfl (gB rfl T.b_range (aa (ab (i:=1)) af)) (aW (i:=3) nd) (ai (aM (i:=4) nd (aC cB (az (eI T) (hr.mono (by omega)) (aa (ab (i:=0)) (aa (ab (i:=3)) af))) (aC bn (cE iR T.b_len hV (aa (ab (i:=2)) af)) ao)))
  (aq (aM (i:=2) nd (aC bn (aC bn (m_ sld (ab (i:=2)) trivial (ab (i:=4))) (qd (aa (ab (i:=3)) af))) (m_ sld (ab (i:=2)) (ab (i:=4)) trivial))))))
  (aq (aG (b6 gm T.b_tuple cR (aa (ab (i:=2)) af)))))))
theorem tL:aj kY=z_sheet_L:=rfl
theorem sc_sheet_L:FnScope ["_law_number","_law_many"] ["_law_number","_law_many"] z_sheet_L:=⟨rfl,rfl,rfl,by decide +kernel,rfl,by decide +kernel,by decide +kernel⟩
theorem sY (T:Top K mg):Cal P w K mg base 2 "_law_sheet" ["_law_number","_law_many"] lK:=
 bp T.d_sheet_L tL sc_sheet_L (λf cdv A outer s H E hr=>by
 have hu:=aV hr;have hu1:=aT hr;have hu2:=aU hr;have hgd:=hr.gd;have nd:=sc_sheet_L.nd
 exact (aq (aG (b6 gm T.b_tuple cR (aa (fQ (ts:=["_law_k"]) (ix:=[0]) rfl ⟨rfl,by decide +kernel,by decide +kernel,by exact (show ∀ y∈(_:List (Str×NameKind)),y.2=NameKind.free->List.lookup y.1 z_sheet_L.names=some NameKind.cell∨List.lookup y.1 z_sheet_L.names=some NameKind.free from by decide +kernel)⟩ (by exact (show ∀ t∈([0]:List Nat),List.lookup ((["_law_number","_law_many"]:List Str).getD t Str.empty) _=some NameKind.free from by decide +kernel)) (gB rfl T.b_range (aa (ab (i:=1)) af)) (λ_ _ _ _ _=>⟨(aW (i:=0) (show (["_law_k","_law_number"]:List Str).Nodup from by decide +kernel)),gU,(a_ hu1 (kT (.tup (.cons .non (.cons .int (.cons .int (.cons .non .nil)))) (by decide))) (aC cB (az (eI T) (hr.mono (by omega)) (aa (ab (i:=1)) (aa (ab (i:=0)) af))) ao))⟩)) af)))))
theorem vV:aj nk=rf:=rfl
theorem sc_made_L:FnScope ["_law_script","_law_most","_law_many","_law_words_here","_law_key_here"] ["_law_script","_law_most"] rf:=⟨rfl,rfl,rfl,by decide +kernel,rfl,by decide +kernel,by decide +kernel⟩
theorem uI (T:Top K mg):Cal P w K mg base 10 "_law_made" ["_law_script","_law_most"] kL:=
 bp T.d_made_L vV sc_made_L (λf cdv A outer s H E hr=>by
 have hu:=aV hr;have hu1:=aT hr;have hu2:=aU hr;have hgd:=hr.gd;have nd:=sc_made_L.nd
 exact (ai (aM (i:=2) nd (aC bn ao (aC cB (az (bI T) (hr.mono (by omega)) (aa (ab (i:=0)) (aa ao af))) (ab (i:=1)))))
  (ai (aM (i:=3) nd (az (sX T) (hr.mono (by omega)) (aa (az (bI T) (hr.mono (by omega)) (aa (ab (i:=0)) (aa ao af))) af)))
  (ai (aM (i:=4) nd (az (lA T 8) (hr.mono (by omega)) (aa (az (bI T) (hr.mono (by omega)) (aa (ab (i:=0)) (aa ao af))) (aa (ab (i:=3)) (aa (ab (i:=2)) (aa (aC bn ao (aC cB (az (bI T) (hr.mono (by omega)) (aa (ab (i:=0)) (aa ao af))) ao)) af))))))
  (aq (aG (cW (aa (ab (i:=2)) (aa (ab (i:=3)) (aa (ab (i:=4)) (aa (az (sZ T) (hr.mono (by omega)) (aa (az (bI T) (hr.mono (by omega)) (aa (ab (i:=0)) (aa ao af))) (aa (ab (i:=2)) af))) af)))))))))))
theorem xp:aj qf=uS:=rfl
theorem sc_put_L:FnScope ["_law_sheet_here","_law_k","_law_value"] ["_law_sheet_here","_law_k","_law_value"] uS:=⟨rfl,rfl,rfl,by decide +kernel,rfl,by decide +kernel,by decide +kernel⟩
theorem pC (T:Top K mg):Cal P w K mg base 1 "_law_put" ["_law_sheet_here","_law_k","_law_value"] jm:=
 bp T.d_put_L xp sc_put_L (λf cdv A outer s H E hr=>by
 have hu:=aV hr;have hu1:=aT hr;have hu2:=aU hr;have hgd:=hr.gd;have nd:=sc_put_L.nd
 exact (aq (aG (aC bn (aC bn (m_ sld (ab (i:=0)) trivial (ab (i:=1))) (cW (aa (ab (i:=2)) af))) (m_ sld (ab (i:=0)) (aC bn (ab (i:=1)) ao) trivial)))))
theorem Bf:aj u8=AU:=rfl
theorem sc_law:FnScope ["_law_script","_law_many","_law_words_here","_law_key_here","_law_order_here","_law_one","_law_two","_law_sheet_here","_law_here","_law_there","_law_way","_law_cut","_law_k","_law_value","_law_wide","_law_tight"] ["_law_script"] AU:=⟨rfl,rfl,rfl,by decide +kernel,rfl,by decide +kernel,by decide +kernel⟩
theorem Cp (T:Top K mg){f:Addr}{fd:FuncData}(Fn:Fun K "law" "law" u8 f fd):FnD P w K mg base 38 f fd ["_law_script"] zr:=
 jQ Fn Bf sc_law (λ_ cdv A outer s H E hr=>by
 have hu:=aV hr;have hu1:=aT hr;have hu2:=aU hr;have hgd:=hr.gd;have nd:=sc_law.nd
 exact (ai (Bq (az (uI T) (hr.mono (by omega)) (aa (ab (i:=0)) (aa ao af))) (kS rfl (bQ (aW (i:=1) nd) (bQ (aW (i:=2) nd) (bQ (aW (i:=3) nd) (bQ (aW (i:=4) nd) jd))))))
  (ai (aM (i:=5) nd (az (nZ T) (hr.mono (by omega)) (aa (ab (i:=3)) (aa (ab (i:=4)) af))))
  (ai (aM (i:=6) nd (az (nZ T) (hr.mono (by omega)) (aa (az (lA T 8) (hr.mono (by omega)) (aa (az (bI T) (hr.mono (by omega)) (aa (ab (i:=0)) (aa ao af))) (aa (ab (i:=2)) (aa (ab (i:=1)) (aa (aC bn ao (aC cB (az (bI T) (hr.mono (by omega)) (aa (ab (i:=0)) (aa ao af))) ao)) af))))) (aa (ab (i:=4)) af))))
  (ai (aM (i:=7) nd (az (sY T) (hr.mono (by omega)) (aa (az (bI T) (hr.mono (by omega)) (aa (ab (i:=0)) (aa ao af))) (aa (ab (i:=1)) af))))
  (ai (aM (i:=8) nd (aC cB (aC gZ (az (bI T) (hr.mono (by omega)) (aa (ab (i:=0)) (aa ao af))) ao) (ab (i:=1))))
  (ai (aM (i:=9) nd (aC cB (aC gZ (az (bI T) (hr.mono (by omega)) (aa (ab (i:=0)) (aa ao af))) ao) (ab (i:=1))))
  (ai (iD PassesOwn.never rfl (iE (cW (aa (oO T.d_joined) (aa (oO T.d_common) (aa (oO T.d_less) af))))) (aW (i:=10) nd) (aq (d8 (bN (kA hu) (az (cN T) (hr.mono (by omega)) (aa (nh (db (lD T) (hr.mono (by omega)) (db (lF T) (hr.mono (by omega)) (db (vN T) (hr.mono (by omega)) pU))) (ab (i:=10)) (aa (ab (i:=5)) (aa (ab (i:=6)) (aa (ab (i:=4)) af)))) (aa (ab (i:=7)) (aa (ab (i:=4)) af)))) (nh (db (lD T) (hr.mono (by omega)) (db (lF T) (hr.mono (by omega)) (db (vN T) (hr.mono (by omega)) pU))) (ab (i:=10)) (aa (az (cN T) (hr.mono (by omega)) (aa (ab (i:=5)) (aa (ab (i:=7)) (aa (ab (i:=4)) af)))) (aa (az (cN T) (hr.mono (by omega)) (aa (ab (i:=6)) (aa (ab (i:=7)) (aa (ab (i:=4)) af)))) (aa (ab (i:=4)) af))))) (aq (aG kf)) bP)))
  (ai (aM (i:=11) nd (ab (i:=5)))
  (ai (iD PassesOwn.never rfl (p8 rfl T.b_enumerate (aa (ab (i:=7)) af)) (kS rfl (bQ (aW (i:=12) nd) (bQ (aW (i:=13) nd) jd))) (aq (aM (i:=11) nd (az (cN T) (hr.mono (by omega)) (aa (ab (i:=11)) (aa (az (pC T) (hr.mono (by omega)) (aa (aC qu (kT (.tup (.cons .non .nil) (by decide))) (ab (i:=1))) (aa (ab (i:=12)) (aa (ab (i:=13)) af)))) (aa (ab (i:=4)) af)))))))
  (ai (d8 (pS (uZ (bN (kA hu) (ab (i:=11)) (az (cN T) (hr.mono (by omega)) (aa (ab (i:=5)) (aa (ab (i:=7)) (aa (ab (i:=4)) af))))) (uZ (bN (kA hu) (az (cN T) (hr.mono (by omega)) (aa (ab (i:=11)) (aa (ab (i:=7)) (aa (ab (i:=4)) af)))) (ab (i:=11))) (tZ (bN (kA hu) (az (cN T) (hr.mono (by omega)) (aa (ab (i:=5)) (aa (aC qu (kT (.tup (.cons .non .nil) (by decide))) (ab (i:=1))) (aa (ab (i:=4)) af)))) (ab (i:=5))))))) (aq (aG kf)) bP)
  (ai (aM (i:=14) nd (az (bW T) (hr.mono (by omega)) (aa (ab (i:=5)) (aa (ab (i:=8)) (aa (ab (i:=4)) af)))))
  (ai (aM (i:=15) nd (az (jV T) (hr.mono (by omega)) (aa (ab (i:=5)) (aa (ab (i:=8)) (aa (ab (i:=4)) af)))))
  (ai (d8 (bN (kA hu) (az (bW T) (hr.mono (by omega)) (aa (az (fH T) (hr.mono (by omega)) (aa (ab (i:=5)) (aa (ab (i:=6)) (aa (ab (i:=4)) af)))) (aa (ab (i:=8)) (aa (ab (i:=4)) af)))) (az (fH T) (hr.mono (by omega)) (aa (ab (i:=14)) (aa (az (bW T) (hr.mono (by omega)) (aa (ab (i:=6)) (aa (ab (i:=8)) (aa (ab (i:=4)) af)))) (aa (ab (i:=4)) af))))) (aq (aG kf)) bP)
  (ai (d8 (bN (kA hu) (az (jV T) (hr.mono (by omega)) (aa (az (jU T) (hr.mono (by omega)) (aa (ab (i:=5)) (aa (ab (i:=6)) (aa (ab (i:=4)) af)))) (aa (ab (i:=8)) (aa (ab (i:=4)) af)))) (az (jU T) (hr.mono (by omega)) (aa (ab (i:=15)) (aa (az (jV T) (hr.mono (by omega)) (aa (ab (i:=6)) (aa (ab (i:=8)) (aa (ab (i:=4)) af)))) (aa (ab (i:=4)) af))))) (aq (aG kf)) bP)
  (ai (d8 (bN (kA hu) (az (bW T) (hr.mono (by omega)) (aa (ab (i:=14)) (aa (ab (i:=9)) (aa (ab (i:=4)) af)))) (az (bW T) (hr.mono (by omega)) (aa (az (bW T) (hr.mono (by omega)) (aa (ab (i:=5)) (aa (ab (i:=9)) (aa (ab (i:=4)) af)))) (aa (ab (i:=8)) (aa (ab (i:=4)) af))))) (aq (aG kf)) bP)
  (ai (d8 (pS (uZ (bN (kA hu) (az (fH T) (hr.mono (by omega)) (aa (ab (i:=15)) (aa (ab (i:=5)) (aa (ab (i:=4)) af)))) (ab (i:=5))) (tZ (bN (kA hu) (az (fH T) (hr.mono (by omega)) (aa (ab (i:=5)) (aa (ab (i:=14)) (aa (ab (i:=4)) af)))) (ab (i:=14)))))) (aq (aG kf)) bP)
  (aq (aG (Bz (qe (ia hu) (ab (i:=14)) (az (bW T) (hr.mono (by omega)) (aa (ab (i:=14)) (aa (ab (i:=8)) (aa (ab (i:=4)) af))))) (Bw (qe (ia hu) (ab (i:=14)) (az (cN T) (hr.mono (by omega)) (aa (ab (i:=14)) (aa (az (pC T) (hr.mono (by omega)) (aa (aC qu (kT (.tup (.cons .non .nil) (by decide))) (ab (i:=1))) (aa (ab (i:=8)) (aa ao af)))) (aa (ab (i:=4)) af))))))))))))))))))))))))))
end
theorem top_mk {K:PySem.W.Frag}{h:Heap}{mg:Str->Option Value}(X:K.In h)(G:h.Ns mainGlobals mg)
  {C_Pairs:Addr}
  {C_Rows:Addr}
  {f0:Addr}
  {f1:Addr}
  {f2:Addr}
  {f3:Addr}
  {f4:Addr}
  {f5:Addr}
  {f6:Addr}
  {f7:Addr}
  {f8:Addr}
  {f9:Addr}
  {f10:Addr}
  {f11:Addr}
  {f12:Addr}
  {f13:Addr}
  {f14:Addr}
  {f15:Addr}
  {f16:Addr}
  {f17:Addr}
  {f18:Addr}
  {f19:Addr}
  {f20:Addr}
  {f21:Addr}
  {f22:Addr}
  {f23:Addr}
  {f24:Addr}
  {f25:Addr}
  {f26:Addr}
  {f27:Addr}
  {f28:Addr}
  {f29:Addr}
  {f30:Addr}
  {f31:Addr}
  {f32:Addr}
  {f33:Addr}
  {f34:Addr}
  {f35:Addr}
  {f36:Addr}
  {f37:Addr}
  {f38:Addr}
  {f39:Addr}
  {f40:Addr}
  {f41:Addr}
  {f42:Addr}
  {f43:Addr}
  {f44:Addr}
  {f45:Addr}
  (n_Pairs:PySem.W.nsIn K mainGlobals "Pairs"=some (some (.ref C_Pairs)))
  (k0_Pairs:PySem.W.plainGet K C_Pairs Str.empty=true)
  (k1_Pairs:PySem.W.hasDictIn K C_Pairs=true)
  (k2_Pairs:PySem.W.plainOver K C_Pairs=true)
  (k3_Pairs:PySem.W.findIn K (.ref C_Pairs) "__setattr__"=some (some (.builtin "object.__setattr__")))
  (k4_Pairs:PySem.W.makesIn K C_Pairs=true)
  (k5_Pairs:PySem.W.keepIn K (.ref C_Pairs)=true)
  (n_Rows:PySem.W.nsIn K mainGlobals "Rows"=some (some (.ref C_Rows)))
  (k0_Rows:PySem.W.plainGet K C_Rows Str.empty=true)
  (k1_Rows:PySem.W.hasDictIn K C_Rows=true)
  (k2_Rows:PySem.W.plainOver K C_Rows=true)
  (k3_Rows:PySem.W.findIn K (.ref C_Rows) "__setattr__"=some (some (.builtin "object.__setattr__")))
  (k4_Rows:PySem.W.makesIn K C_Rows=true)
  (k5_Rows:PySem.W.keepIn K (.ref C_Rows)=true)
  (a0:PySem.W.nsIn K mainGlobals "asks"=some (some (.ref f0))) (q0:FE K "asks" "asks" uf f0)
  (a1:PySem.W.nsIn K mainGlobals "rows_below"=some (some (.ref f1))) (q1:FE K "rows_below" "rows_below" gX f1)
  (a2:PySem.W.nsIn K mainGlobals "place_of"=some (some (.ref f2))) (q2:FE K "place_of" "place_of" jJ f2)
  (a3:PySem.W.nsIn K mainGlobals "side_of"=some (some (.ref f3))) (q3:FE K "side_of" "side_of" kX f3)
  (a4:PySem.W.nsIn K mainGlobals "leave_row"=some (some (.ref f4))) (q4:FE K "leave_row" "leave_row" iF f4)
  (a5:PySem.W.nsIn K mainGlobals "rows_as_left"=some (some (.ref f5))) (q5:FE K "rows_as_left" "rows_as_left" fB f5)
  (a6:PySem.W.nsIn K mainGlobals "with_numbers"=some (some (.ref f6))) (q6:FE K "with_numbers" "with_numbers" fA f6)
  (a7:PySem.W.findIn K (.ref C_Rows) "__init__"=some (some (.ref f7))) (i7:PySem.W.isFn K (.ref f7)=true) (q7:FE K "__init__" "Rows.__init__" eO f7)
  (a8:PySem.W.findIn K (.ref C_Pairs) "__init__"=some (some (.ref f8))) (i8:PySem.W.isFn K (.ref f8)=true) (q8:FE K "__init__" "Pairs.__init__" dM f8)
  (a9:PySem.W.findIn K (.ref C_Rows) "fold_from"=some (some (.ref f9))) (i9:PySem.W.isFn K (.ref f9)=true) (q9:FE K "fold_from" "Rows.fold_from" dL f9)
  (a10:PySem.W.findIn K (.ref C_Rows) "number_of"=some (some (.ref f10))) (i10:PySem.W.isFn K (.ref f10)=true) (q10:FE K "number_of" "Rows.number_of" dJ f10)
  (a11:PySem.W.findIn K (.ref C_Rows) "number_of_ask"=some (some (.ref f11))) (i11:PySem.W.isFn K (.ref f11)=true) (q11:FE K "number_of_ask" "Rows.number_of_ask" cF f11)
  (a12:PySem.W.findIn K (.ref C_Pairs) "side_of_pair"=some (some (.ref f12))) (i12:PySem.W.isFn K (.ref f12)=true) (q12:FE K "side_of_pair" "Pairs.side_of_pair" cG f12)
  (a13:PySem.W.nsIn K mainGlobals "names_of_both"=some (some (.ref f13))) (q13:FE K "names_of_both" "names_of_both" bh f13)
  (a14:PySem.W.nsIn K mainGlobals "names_in_common"=some (some (.ref f14))) (q14:FE K "names_in_common" "names_in_common" aY f14)
  (a15:PySem.W.nsIn K mainGlobals "names_of_one_alone"=some (some (.ref f15))) (q15:FE K "names_of_one_alone" "names_of_one_alone" aO f15)
  (a16:PySem.W.findIn K (.ref C_Pairs) "pair_anew"=some (some (.ref f16))) (i16:PySem.W.isFn K (.ref f16)=true) (q16:FE K "pair_anew" "Pairs.pair_anew" dg f16)
  (a17:PySem.W.findIn K (.ref C_Pairs) "number_of_pair"=some (some (.ref f17))) (i17:PySem.W.isFn K (.ref f17)=true) (q17:FE K "number_of_pair" "Pairs.number_of_pair" ck f17)
  (a18:PySem.W.nsIn K mainGlobals "put_together"=some (some (.ref f18))) (q18:FE K "put_together" "put_together" fC f18)
  (a19:PySem.W.nsIn K mainGlobals "joined"=some (some (.ref f19))) (q19:FE K "joined" "joined" bA f19)
  (a20:PySem.W.nsIn K mainGlobals "common"=some (some (.ref f20))) (q20:FE K "common" "common" bB f20)
  (a21:PySem.W.nsIn K mainGlobals "less"=some (some (.ref f21))) (q21:FE K "less" "less" bO f21)
  (a22:PySem.W.nsIn K mainGlobals "blank_sheet"=some (some (.ref f22))) (q22:FE K "blank_sheet" "blank_sheet" gf f22)
  (a23:PySem.W.nsIn K mainGlobals "with_value"=some (some (.ref f23))) (q23:FE K "with_value" "with_value" gW f23)
  (a24:PySem.W.nsIn K mainGlobals "number_known"=some (some (.ref f24))) (q24:FE K "number_known" "number_known" fD f24)
  (a25:PySem.W.nsIn K mainGlobals "known"=some (some (.ref f25))) (q25:FE K "known" "known" qg f25)
  (a26:PySem.W.nsIn K mainGlobals "cut_at"=some (some (.ref f26))) (q26:FE K "cut_at" "cut_at" nu f26)
  (a27:PySem.W.nsIn K mainGlobals "forgotten"=some (some (.ref f27))) (q27:FE K "forgotten" "forgotten" iG f27)
  (a28:PySem.W.nsIn K mainGlobals "always"=some (some (.ref f28))) (q28:FE K "always" "always" nv f28)
  (a29:PySem.W.findIn K (.ref C_Rows) "first_character"=some (some (.ref f29))) (i29:PySem.W.isFn K (.ref f29)=true) (q29:FE K "first_character" "Rows.first_character" cj f29)
  (a30:PySem.W.findIn K (.ref C_Rows) "side"=some (some (.ref f30))) (i30:PySem.W.isFn K (.ref f30)=true) (q30:FE K "side" "Rows.side" iI f30)
  (a31:PySem.W.findIn K (.ref C_Rows) "choose_anew"=some (some (.ref f31))) (i31:PySem.W.isFn K (.ref f31)=true) (q31:FE K "choose_anew" "Rows.choose_anew" cX f31)
  (a32:PySem.W.findIn K (.ref C_Rows) "choose"=some (some (.ref f32))) (i32:PySem.W.isFn K (.ref f32)=true) (q32:FE K "choose" "Rows.choose" gg f32)
  (a33:PySem.W.nsIn K mainGlobals "number_of_key"=some (some (.ref f33))) (q33:FE K "number_of_key" "number_of_key" eN f33)
  (a34:PySem.W.nsIn K mainGlobals "folded"=some (some (.ref f34))) (q34:FE K "folded" "folded" nt f34)
  (a35:PySem.W.nsIn K mainGlobals "_law_cell_at"=some (some (.ref f35))) (q35:FE K "_law_cell_at" "_law_cell_at" iH f35)
  (a36:PySem.W.nsIn K mainGlobals "_law_mixed"=some (some (.ref f36))) (q36:FE K "_law_mixed" "_law_mixed" k7 f36)
  (a37:PySem.W.nsIn K mainGlobals "_law_drawn"=some (some (.ref f37))) (q37:FE K "_law_drawn" "_law_drawn" k8 f37)
  (a38:PySem.W.nsIn K mainGlobals "_law_words"=some (some (.ref f38))) (q38:FE K "_law_words" "_law_words" kW f38)
  (a39:PySem.W.nsIn K mainGlobals "_law_names"=some (some (.ref f39))) (q39:FE K "_law_names" "_law_names" k6 f39)
  (a40:PySem.W.nsIn K mainGlobals "_law_key"=some (some (.ref f40))) (q40:FE K "_law_key" "_law_key" qh f40)
  (a41:PySem.W.nsIn K mainGlobals "_law_order"=some (some (.ref f41))) (q41:FE K "_law_order" "_law_order" kZ f41)
  (a42:PySem.W.nsIn K mainGlobals "_law_sheet"=some (some (.ref f42))) (q42:FE K "_law_sheet" "_law_sheet" kY f42)
  (a43:PySem.W.nsIn K mainGlobals "_law_made"=some (some (.ref f43))) (q43:FE K "_law_made" "_law_made" nk f43)
  (a44:PySem.W.nsIn K mainGlobals "_law_put"=some (some (.ref f44))) (q44:FE K "_law_put" "_law_put" qf f44)
  (a45:PySem.W.nsIn K mainGlobals "law"=some (some (.ref f45))) (q45:FE K "law" "law" u8 f45)
  (z_len:PySem.W.nsIn K mainGlobals "len"=some none)
  (z_list:PySem.W.nsIn K mainGlobals "list"=some none)
  (z_enumerate:PySem.W.nsIn K mainGlobals "enumerate"=some none)
  (z_tuple:PySem.W.nsIn K mainGlobals "tuple"=some none)
  (z_zip:PySem.W.nsIn K mainGlobals "zip"=some none)
  (z_sorted:PySem.W.nsIn K mainGlobals "sorted"=some none)
  (z_set:PySem.W.nsIn K mainGlobals "set"=some none)
  (z_min:PySem.W.nsIn K mainGlobals "min"=some none)
  (z_range:PySem.W.nsIn K mainGlobals "range"=some none)
  (z_int:PySem.W.nsIn K mainGlobals "int"=some none)
  (g_Rows_order:PySem.W.findIn K (.ref C_Rows) "order"=some none)
  (g_Rows_gathered:PySem.W.findIn K (.ref C_Rows) "gathered"=some none)
  (g_Rows_numbers:PySem.W.findIn K (.ref C_Rows) "numbers"=some none)
  (g_Rows_choices:PySem.W.findIn K (.ref C_Rows) "choices"=some none)
  (g_Pairs_folds:PySem.W.findIn K (.ref C_Pairs) "folds"=some none)
  (g_Pairs_rows:PySem.W.findIn K (.ref C_Pairs) "rows"=some none)
  (g_Pairs_made:PySem.W.findIn K (.ref C_Pairs) "made"=some none):Top K mg where
 d_asks:=dAt X G a0 q0 (bd1 λ_ _ _ _ _ _ _=>rfl)
 d_rows_below:=dAt X G a1 q1 (bd1 λ_ _ _ _ _ _ _=>rfl)
 d_place_of:=dAt X G a2 q2 (bd2 λ_ _ _ _ _ _ _ _=>rfl)
 d_side_of:=dAt X G a3 q3 (bd4 λ_ _ _ _ _ _ _ _ _ _=>rfl)
 d_leave_row:=dAt X G a4 q4 (bd3 λ_ _ _ _ _ _ _ _ _=>rfl)
 d_rows_as_left:=dAt X G a5 q5 (bd2 λ_ _ _ _ _ _ _ _=>rfl)
 d_with_numbers:=dAt X G a6 q6 (bd2 λ_ _ _ _ _ _ _ _=>rfl)
 d_Rows___init__:=kAt X G ⟨n_Rows,⟨k0_Rows,k1_Rows,k2_Rows,k3_Rows⟩⟩ k4_Rows k5_Rows a7 i7 q7 (bd2 λ_ _ _ _ _ _ _ _=>rfl)
 d_Pairs___init__:=kAt X G ⟨n_Pairs,⟨k0_Pairs,k1_Pairs,k2_Pairs,k3_Pairs⟩⟩ k4_Pairs k5_Pairs a8 i8 q8 (bd4 λ_ _ _ _ _ _ _ _ _ _=>rfl)
 d_Rows_fold_from:=mAt ⟨n_Rows,⟨k0_Rows,k1_Rows,k2_Rows,k3_Rows⟩⟩ a9 i9 q9 (bd2 λ_ _ _ _ _ _ _ _=>rfl)
 d_Rows_number_of:=mAt ⟨n_Rows,⟨k0_Rows,k1_Rows,k2_Rows,k3_Rows⟩⟩ a10 i10 q10 (bd2 λ_ _ _ _ _ _ _ _=>rfl)
 d_Rows_number_of_ask:=mAt ⟨n_Rows,⟨k0_Rows,k1_Rows,k2_Rows,k3_Rows⟩⟩ a11 i11 q11 (bd4 λ_ _ _ _ _ _ _ _ _ _=>rfl)
 d_Pairs_side_of_pair:=mAt ⟨n_Pairs,⟨k0_Pairs,k1_Pairs,k2_Pairs,k3_Pairs⟩⟩ a12 i12 q12 (bd4 λ_ _ _ _ _ _ _ _ _ _=>rfl)
 d_names_of_both:=dAt X G a13 q13 (bd2 λ_ _ _ _ _ _ _ _=>rfl)
 d_names_in_common:=dAt X G a14 q14 (bd2 λ_ _ _ _ _ _ _ _=>rfl)
 d_names_of_one_alone:=dAt X G a15 q15 (bd2 λ_ _ _ _ _ _ _ _=>rfl)
 d_Pairs_pair_anew:=mAt ⟨n_Pairs,⟨k0_Pairs,k1_Pairs,k2_Pairs,k3_Pairs⟩⟩ a16 i16 q16 (bd3 λ_ _ _ _ _ _ _ _ _=>rfl)
 d_Pairs_number_of_pair:=mAt ⟨n_Pairs,⟨k0_Pairs,k1_Pairs,k2_Pairs,k3_Pairs⟩⟩ a17 i17 q17 (bd3 λ_ _ _ _ _ _ _ _ _=>rfl)
 d_put_together:=dAt X G a18 q18 (bd4 λ_ _ _ _ _ _ _ _ _ _=>rfl)
 d_joined:=dAt X G a19 q19 (bd3 λ_ _ _ _ _ _ _ _ _=>rfl)
 d_common:=dAt X G a20 q20 (bd3 λ_ _ _ _ _ _ _ _ _=>rfl)
 d_less:=dAt X G a21 q21 (bd3 λ_ _ _ _ _ _ _ _ _=>rfl)
 d_blank_sheet:=dAt X G a22 q22 (bd1 λ_ _ _ _ _ _ _=>rfl)
 d_with_value:=dAt X G a23 q23 (bd3 λ_ _ _ _ _ _ _ _ _=>rfl)
 d_number_known:=dAt X G a24 q24 (bd4 λ_ _ _ _ _ _ _ _ _ _=>rfl)
 d_known:=dAt X G a25 q25 (bd3 λ_ _ _ _ _ _ _ _ _=>rfl)
 d_cut_at:=dAt X G a26 q26 (bd4 λ_ _ _ _ _ _ _ _ _ _=>rfl)
 d_forgotten:=dAt X G a27 q27 (bd3 λ_ _ _ _ _ _ _ _ _=>rfl)
 d_always:=dAt X G a28 q28 (bd3 λ_ _ _ _ _ _ _ _ _=>rfl)
 d_Rows_first_character:=mAt ⟨n_Rows,⟨k0_Rows,k1_Rows,k2_Rows,k3_Rows⟩⟩ a29 i29 q29 (bd4 λ_ _ _ _ _ _ _ _ _ _=>rfl)
 d_Rows_side:=mAt ⟨n_Rows,⟨k0_Rows,k1_Rows,k2_Rows,k3_Rows⟩⟩ a30 i30 q30 (bd4 λ_ _ _ _ _ _ _ _ _ _=>rfl)
 d_Rows_choose_anew:=mAt ⟨n_Rows,⟨k0_Rows,k1_Rows,k2_Rows,k3_Rows⟩⟩ a31 i31 q31 (bd4 λ_ _ _ _ _ _ _ _ _ _=>rfl)
 d_Rows_choose:=mAt ⟨n_Rows,⟨k0_Rows,k1_Rows,k2_Rows,k3_Rows⟩⟩ a32 i32 q32 (bd4 λ_ _ _ _ _ _ _ _ _ _=>rfl)
 d_number_of_key:=dAt X G a33 q33 (bd2 λ_ _ _ _ _ _ _ _=>rfl)
 d_folded:=dAt X G a34 q34 (bd2 λ_ _ _ _ _ _ _ _=>rfl)
 d_cell_at_L:=dAt X G a35 q35 (bd2 λ_ _ _ _ _ _ _ _=>rfl)
 d_mixed_L:=dAt X G a36 q36 (bd2 λ_ _ _ _ _ _ _ _=>rfl)
 d_drawn_L:=dAt X G a37 q37 (bd2 λ_ _ _ _ _ _ _ _=>rfl)
 d_words_L:=dAt X G a38 q38 (bd1 λ_ _ _ _ _ _ _=>rfl)
 d_names_L:=dAt X G a39 q39 (bd2 λ_ _ _ _ _ _ _ _=>rfl)
 d_key_L:=dAt X G a40 q40 (bd4 λ_ _ _ _ _ _ _ _ _ _=>rfl)
 d_order_L:=dAt X G a41 q41 (bd2 λ_ _ _ _ _ _ _ _=>rfl)
 d_sheet_L:=dAt X G a42 q42 (bd2 λ_ _ _ _ _ _ _ _=>rfl)
 d_made_L:=dAt X G a43 q43 (bd2 λ_ _ _ _ _ _ _ _=>rfl)
 d_put_L:=dAt X G a44 q44 (bd3 λ_ _ _ _ _ _ _ _ _=>rfl)
 d_law:=dAt X G a45 q45 (bd1 λ_ _ _ _ _ _ _=>rfl)
 b_len:=PySem.W.mg_none_of X G z_len
 b_list:=PySem.W.mg_none_of X G z_list
 b_enumerate:=PySem.W.mg_none_of X G z_enumerate
 b_tuple:=PySem.W.mg_none_of X G z_tuple
 b_zip:=PySem.W.mg_none_of X G z_zip
 b_sorted:=PySem.W.mg_none_of X G z_sorted
 b_set:=PySem.W.mg_none_of X G z_set
 b_min:=PySem.W.mg_none_of X G z_min
 b_range:=PySem.W.mg_none_of X G z_range
 b_int:=PySem.W.mg_none_of X G z_int
 f_Rows_order:=⟨C_Rows,n_Rows,⟨k0_Rows,k1_Rows,k2_Rows,k3_Rows⟩,g_Rows_order⟩
 f_Rows_gathered:=⟨C_Rows,n_Rows,⟨k0_Rows,k1_Rows,k2_Rows,k3_Rows⟩,g_Rows_gathered⟩
 f_Rows_numbers:=⟨C_Rows,n_Rows,⟨k0_Rows,k1_Rows,k2_Rows,k3_Rows⟩,g_Rows_numbers⟩
 f_Rows_choices:=⟨C_Rows,n_Rows,⟨k0_Rows,k1_Rows,k2_Rows,k3_Rows⟩,g_Rows_choices⟩
 f_Pairs_folds:=⟨C_Pairs,n_Pairs,⟨k0_Pairs,k1_Pairs,k2_Pairs,k3_Pairs⟩,g_Pairs_folds⟩
 f_Pairs_rows:=⟨C_Pairs,n_Pairs,⟨k0_Pairs,k1_Pairs,k2_Pairs,k3_Pairs⟩,g_Pairs_rows⟩
 f_Pairs_made:=⟨C_Pairs,n_Pairs,⟨k0_Pairs,k1_Pairs,k2_Pairs,k3_Pairs⟩,g_Pairs_made⟩
end K23
namespace K23
open PySem L2 PyProof.Rows
def isLet (c:Nat):Bool:=decide (97<=c)&&decide (c<=122)
def lets (x:Str):Bool:=x.cps.toList.all isLet
def kept (x:Str):Bool:=decide (x="names") ||(decide (x="ask") ||decide (x="end"))
def d9 (x:Str):Bool:=!kept x&&(decide (1<=x.length)&&(decide (x.length<=8)&&lets x))
def EM:D->Bool
 | .str x=>d9 x
 |_=>false
abbrev abc:Str:="abcdefghijklmnopqrstuvwxyz"
theorem tF:abc.cps.toList.all isLet=true:=by decide +kernel
theorem bS {α:Type}{xs:List α}{i:Nat}{v : α}(h:xs[i]?=some v):atI xs (i:Int)=some v:=by
 have hi:i<xs.length:=(List.getElem?_eq_some_iff.mp h).1
 have e:ixN xs.length (i:Int)=some i:=by unfold ixN;rw[if_pos (by omega),if_pos (by omega)];simp
 unfold atI;rw[e];exact h
end K23
namespace L2
open PySem PyProof.Rows
theorem nM {K:Type}[DecidableEq K]:∀ (l ks:List K),ks.Nodup->(l.foldl b7 ks).Nodup
 |[],ks,h=>h
 |a::l,ks,h=>by
  rw[List.foldl_cons]
  refine nM l _ ?_
  unfold b7
  split
  ·exact h
  ·rename_i hn
   refine List.nodup_append.mpr ⟨h,by simp,λx hx y hy=>?_⟩
   rw[List.mem_singleton.mp hy];rintro rfl;exact hn hx
theorem o7 {K:Type}[DecidableEq K]:∀ (l ks:List K) (k:K),k∈l.foldl b7 ks↔k∈ks∨k∈l
 |[],ks,k=>by simp
 |a::l,ks,k=>by
  rw[List.foldl_cons,o7 l,List.mem_cons]
  unfold b7
  split
  ·constructor
   ·rintro (h |h)
    ·exact .inl h
    ·exact .inr (.inr h)
   ·rintro (h |rfl |h)
    ·exact .inl h
    ·left;assumption
    ·exact .inr h
  ·simp only[List.mem_append,List.mem_singleton]
   constructor
   ·rintro ((h |h) |h)
    ·exact .inl h
    ·exact .inr (.inl h)
    ·exact .inr (.inr h)
   ·rintro (h |h |h)
    ·exact .inl (.inl h)
    ·exact .inl (.inr h)
    ·exact .inr h
theorem vk {a b:Str}(h:ltS a b=true):leS a b=true:=by
 have h1:a.cps.toList<b.cps.toList:=of_decide_eq_true h
 exact leS_iff.mpr (List.le_of_lt h1)
theorem uw (a:Str):ltS a a=false:=by
 unfold ltS;exact decide_eq_false (List.lt_irrefl _)
theorem wR {a b c:Str}(h:ltS a b=true)(g:ltS b c=true):ltS a c=true:=by
 unfold ltS at *
 exact decide_eq_true (List.lt_trans (of_decide_eq_true h) (of_decide_eq_true g))
theorem kC {a b:Str}(h:leS a b=true)(n:a≠b):ltS a b=true:=by
 cases q:ltS a b with
 |true=>rfl
 |false=>exact absurd (sB h (by unfold leS;rw[q];rfl)) n
def adj:List Str->Bool
 |a::b::r=>ltS a b&&adj (b::r)
 |_=>true
theorem dD:∀ {l:List Str},adj l=true->l.Pairwise λa b=>ltS a b=true
 |[],_ => .nil
 |[a],_=>by simp
 |a::b::r,h=>by
  rw[adj,Bool.and_eq_true] at h
  have ih:=dD h.2
  refine .cons (λc hc=>?_) ih
  rcases List.mem_cons.mp hc with rfl |hc
  ·exact h.1
  ·exact wR h.1 ((List.pairwise_cons.mp ih).1 c hc)
theorem eZ:∀ {l:List Str},(l.Pairwise λa b=>ltS a b=true)->adj l=true
 |[],_=>rfl
 |[a],_=>rfl
 |a::b::r,h=>by
  obtain⟨h1,h2⟩:=List.pairwise_cons.mp h
  rw[adj,Bool.and_eq_true]
  exact⟨h1 b (List.mem_cons_self ..),eZ h2⟩
theorem An {i j:Int}(h1 : -1000000000000<j)(h2:j<1000000000000):lW i j=true:=by
 unfold lW
 have e1:decide (-(2 ^ 64)<j)=true:=decide_eq_true (by omega)
 have e2:decide (j<2 ^ 64)=true:=decide_eq_true (by omega)
 rw[e1,e2];simp
theorem Ao {i j:Int}(h1 : -1000000000000<i)(h2:i<1000000000000):lW i j=true:=by
 unfold lW
 have e1:decide (-(2 ^ 64)<i)=true:=decide_eq_true (by omega)
 have e2:decide (i<2 ^ 64)=true:=decide_eq_true (by omega)
 rw[e1,e2];simp
theorem sf (i j:Int):cO (.int i) (.int j)=if lW i j=true then some (.int (i*j)) else none:=rfl
theorem r_ (x:Str)(n:Int):cO (.str x) (.int n)=if -1000<=n/\n<1 then some (.str ⟨#[]⟩) else if 1<=n/\n<=1000/\x.length<=1000 then some (.str ⟨(List.replicate n.toNat x.cps.toList).flatten.toArray⟩) else none:=rfl
theorem yr (i j:Int):cb (.int i) (.int j)=if 0<j then some (.int (i % j)) else none:=rfl
theorem xb (i j:Int):eD (.int i) (.int j)=if 0<j/\j<1073741824 then some (.int (i / j)) else none:=rfl
theorem xm (x y:Str):bX (.str x) (.str y)=if x.length+y.length<=sizeLine then some (.str (x++y)) else none:=rfl
theorem lI (x y:List D):bX (.tup x) (.tup y)=if x.length+y.length<=sizeLine then some (.tup (x++y)) else none:=rfl
theorem pK (x y:List D):bX (.lst x) (.lst y)=if x.length+y.length<=sizeLine then some (.lst (x++y)) else none:=rfl
theorem wp (j:Int):gE [.int j]=if -(2 ^ 62)<=j/\j<=16777216 then some ((List.range j.toNat).map λ(k:Nat)=>D.int k) else none:=rfl
theorem yq {i j:Int}(h1 : -1000000000000<j)(h2:j<1000000000000):cO (.int i) (.int j)=some (.int (i*j)):=by
 rw[sf,if_pos (An h1 h2)]
theorem g6 {i j:Int}(h1 : -1000000000000<i)(h2:i<1000000000000):cO (.int i) (.int j)=some (.int (i*j)):=by
 rw[sf,if_pos (Ao h1 h2)]
@[simp] theorem DK (i j:Int):bX (.int i) (.int j)=some (.int (i+j)):=rfl
@[simp] theorem C0 (i j:Int):rD (.int i) (.int j)=some (.int (i-j)):=rfl
theorem bo {i j:Int}(h : 0<j):cb (.int i) (.int j)=some (.int (i % j)):=by rw[yr,if_pos h]
theorem fq {i j:Int}(h : 0<j)(h2:j<1073741824):eD (.int i) (.int j)=some (.int (i / j)):=by rw[xb,if_pos ⟨h,h2⟩]
end L2
namespace K23
open PySem L2 PyProof.Rows
theorem uG (ns:List Int)(k:Nat)(S:Sto):iY [.lst (ns.map .int),.int k] S=okO (.int (ns.getD k 0)) S:=by
 refine aA rfl ?_
 unfold l5
 by_cases h:k<ns.length
 ·have h1:((k:Int)<ns.length):=by omega
  have h2:ns[k]?=some ns[k]:=List.getElem?_eq_getElem h
  have e:atI (ns.map D.int) (k:Int)=some (.int ns[k]):=bS (by rw[List.getElem?_map,h2];rfl)
  simp[eQ,ltD,h,ixO,cg,ixD,e,List.getD,h2]
 ·have h2:ns[k]?=none:=List.getElem?_eq_none (by omega)
  simp[eQ,ltD,h,List.getD,h2]
def mix (ns:List Int)(k:Nat):Int:=
 let d:=(ns.getD k 0+7919*(k:Int)+1)*48271 % 2147483647
 (d*d+7*d+(k:Int)) % 2147483629
theorem nF (ns:List Int)(k:Nat) : 0<=mix ns k:=Int.emod_nonneg _ (by decide)
theorem d_ (ns:List Int)(k:Nat)(S:Sto):aQ [.lst (ns.map .int),.int k] S=okO (.int (mix ns k)) S:=by
 refine aA rfl ?_
 unfold ph
 have e0:=uG ns k
 have e1:∀ x:Int,cO (.int 7919) (.int x)=some (.int (7919*x)):=λx=>g6 (by decide) (by decide)
 have e2:∀ x:Int,cO (.int x) (.int 48271)=some (.int (x*48271)):=λx=>yq (by decide) (by decide)
 have e3:∀ x:Int,cb (.int x) (.int 2147483647)=some (.int (x % 2147483647)):=λx=>bo (by decide)
 have e4:∀ x:Int,cb (.int x) (.int 2147483629)=some (.int (x % 2147483629)):=λx=>bo (by decide)
 have e5:∀ x:Int,cO (.int 7) (.int x)=some (.int (7*x)):=λx=>g6 (by decide) (by decide)
 have e6:∀ x:Int,cO (.int (x % 2147483647)) (.int (x % 2147483647))=some (.int (x % 2147483647*(x % 2147483647))):=λx=>by
  have h1:=Int.emod_nonneg x (show (2147483647:Int)≠0 by decide)
  have h2:=Int.emod_lt_of_pos x (show (0:Int)<2147483647 by decide)
  exact g6 (by omega) (by omega)
 simp[e0,e1,e2,e3,e4,e5,e6,mix]
def drw (n k:Int):Int:=
 let d:=(n+104729*k+17)*69621 % 2147483647
 (d*d+3*d+k) % 2147483629
theorem jS (n k:Int) : 0<=drw n k:=Int.emod_nonneg _ (by decide)
theorem iQ (n k:Int)(S:Sto):dU [.int n,.int k] S=okO (.int (drw n k)) S:=by
 refine aA rfl ?_
 unfold pi
 have e1:∀ x:Int,cO (.int 104729) (.int x)=some (.int (104729*x)):=λx=>g6 (by decide) (by decide)
 have e2:∀ x:Int,cO (.int x) (.int 69621)=some (.int (x*69621)):=λx=>yq (by decide) (by decide)
 have e3:∀ x:Int,cb (.int x) (.int 2147483647)=some (.int (x % 2147483647)):=λx=>bo (by decide)
 have e4:∀ x:Int,cb (.int x) (.int 2147483629)=some (.int (x % 2147483629)):=λx=>bo (by decide)
 have e5:∀ x:Int,cO (.int 3) (.int x)=some (.int (3*x)):=λx=>g6 (by decide) (by decide)
 have e6:∀ x:Int,cO (.int (x % 2147483647)) (.int (x % 2147483647))=some (.int (x % 2147483647*(x % 2147483647))):=λx=>by
  have h1:=Int.emod_nonneg x (show (2147483647:Int)≠0 by decide)
  have h2:=Int.emod_lt_of_pos x (show (0:Int)<2147483647 by decide)
  exact g6 (by omega) (by omega)
 simp[e1,e2,e3,e4,e5,e6,drw]
def Wd (n:Nat)(x:Str):Prop:=x.length<=n/\∀ c∈x.cps.toList,c<128
theorem uM (x y:Str):(x++y).cps.toList=x.cps.toList++y.cps.toList:=by
 show (x.cps++y.cps).toList=_
 simp
theorem vR (x y:Str):(x++y).length=x.length+y.length:=by
 show (x.cps++y.cps).size=_
 rw[Array.size_append];rfl
theorem Ed (i:Int)(h0 : 0<=i)(h1:i<26)(S:Sto):∃ x:Str,ixO (.str "abcdefghijklmnopqrstuvwxyz") (.int i) S=some (.str x)/\Wd 1 x:=by
 obtain⟨k,rfl⟩:∃ k:Nat,i=k:=⟨i.toNat,by omega⟩
 have hk:k<abc.cps.toList.length:=by
  have:abc.cps.toList.length=26:=by decide +kernel
  omega
 have e:atI abc.cps.toList (k:Int)=some abc.cps.toList[k]:=bS (List.getElem?_eq_getElem hk)
 refine⟨⟨#[abc.cps.toList[k]]⟩,?_,Nat.le_refl _,λc hc=>?_⟩
 ·unfold ixO;rw[if_neg (by simp[cg])];unfold ixD;simp only[e];rfl
 ·have hc':c=abc.cps.toList[k]:=by simpa using hc
  have q:=List.all_eq_true.mp tF abc.cps.toList[k] (List.getElem_mem hk)
  rw[hc']
  simp only[isLet,Bool.and_eq_true,decide_eq_true_eq] at q
  omega
theorem xP (j:Int)(h0 : 0<=j)(h1:j<=1000):gE [.int j]=some ((List.range j.toNat).map λ(k:Nat)=>D.int k):=by
 rw[wp,if_pos (by omega)]
theorem k9 {n j:Nat}{d:D}(h:((List.range n).map λ(k:Nat)=>D.int k)[j]?=some d):d = .int j/\j<n:=by
 rw[List.getElem?_map] at h
 obtain⟨x,hx,rfl⟩:=Option.map_eq_some_iff.mp h
 obtain⟨h1,h2⟩:=List.getElem?_eq_some_iff.mp hx
 simp at h1 h2
 exact⟨by rw[← h2],h1⟩
theorem C8 (b:Bool):cO (.str "q") (.int (if b then 1 else 0))=some (.str (if b then "q" else ⟨#[]⟩)):=by
 cases b
 ·rw[r_,if_pos (by decide)];rfl
 ·rw[r_,if_neg (by decide),if_pos ⟨by decide,by decide,by decide⟩]
  rfl
def isS (d:D)(s:Str):Bool:=match d with
 | .str y=>decide (y=s)
 |_=>false
theorem yT {d:D}(h:pl d=true)(s:Str):eqD d (.str s)=some (.bl (isS d s)):=by
 obtain⟨p,e⟩:=uX h
 have e2:toPy (.str s)=some (.str s):=rfl
 unfold eqD
 rw[e,e2]
 have hd:min p.depth (PyData.str s).depth<=150:=Nat.le_trans (Nat.min_le_right _ _) (by simp[PyData.depth])
 simp only[hd,if_true]
 cases d with
 |str y=>rw[toPy] at e;cases e;simp[PyData.eqv,isS,AL]
 |tup ds=>rw[toPy] at e;obtain⟨ps,_,rfl⟩:=Option.map_eq_some_iff.mp e;simp[PyData.eqv,isS]
 |lst ds=>rw[toPy] at e;obtain⟨ps,_,rfl⟩:=Option.map_eq_some_iff.mp e;simp[PyData.eqv,isS]
 |set _=>simp[pl] at h
 |loc _=>simp[pl] at h
 |fn _ _=>simp[pl] at h
 |_=>rw[toPy] at e;cases e;simp[PyData.eqv,isS]
theorem at0 (xs:List D)(a:D)(S:Sto):ixO (.tup (a::xs)) (.int 0) S=some a:=by
 unfold ixO;rw[if_neg (by simp[cg])];exact bS (i:=0) rfl
theorem at1 (xs:List D)(a b:D)(S:Sto):ixO (.tup (a::b::xs)) (.int 1) S=some b:=by
 unfold ixO;rw[if_neg (by simp[cg])];exact bS (i:=1) rfl
theorem at2 (xs:List D)(a b c:D)(S:Sto):ixO (.tup (a::b::c::xs)) (.int 2) S=some c:=by
 unfold ixO;rw[if_neg (by simp[cg])];exact bS (i:=2) rfl
theorem at3 (xs:List D)(a b c d:D)(S:Sto):ixO (.tup (a::b::c::d::xs)) (.int 3) S=some d:=by
 unfold ixO;rw[if_neg (by simp[cg])];exact bS (i:=3) rfl
theorem jO (x:Int){n:Int}(h : 0<n) : 0<=x % n/\x % n<n:=⟨Int.emod_nonneg x (by omega),Int.emod_lt_of_pos x h⟩
def Wl (n:Nat)(x:Str):Prop:=1<=x.length/\x.length<=n/\lets x=true
theorem yA (x y:Str):lets (x++y)=(lets x&&lets y):=by
 unfold lets;rw[uM,List.all_append]
theorem Wl.app {n m:Nat}{x y:Str}(h:Wl n x)(g:Wl m y):Wl (n+m) (x++y):=by
 obtain⟨a,b,c⟩:=h
 obtain⟨a',b',c'⟩:=g
 refine⟨by rw[vR];omega,by rw[vR];omega,by rw[yA,c,c'];rfl⟩
theorem vn (i:Int)(h0 : 0<=i)(h1:i<26)(S:Sto):∃ x:Str,ixO (.str "abcdefghijklmnopqrstuvwxyz") (.int i) S=some (.str x)/\Wl 1 x:=by
 obtain⟨k,rfl⟩:∃ k:Nat,i=k:=⟨i.toNat,by omega⟩
 have hk:k<abc.cps.toList.length:=by
  have:abc.cps.toList.length=26:=by decide +kernel
  omega
 have e:atI abc.cps.toList (k:Int)=some abc.cps.toList[k]:=bS (List.getElem?_eq_getElem hk)
 refine⟨⟨#[abc.cps.toList[k]]⟩,?_,Nat.le_refl _,Nat.le_refl _,?_⟩
 ·unfold ixO;rw[if_neg (by simp[cg])];unfold ixD;simp only[e];rfl
 ·have q:=List.all_eq_true.mp tF abc.cps.toList[k] (List.getElem_mem hk)
  show ([abc.cps.toList[k]]:List Nat).all isLet=true
  rw[List.all_cons,q];rfl
theorem zo {n m:Nat}{x y:Str}(h:Wl n x)(g:y.length<=m)(hn:n+m<=1000):bX (.str x) (.str y)=some (.str (x++y)):=by
 have h1:=h.2.1
 rw[xm,if_pos (Nat.le_trans (show x.length+y.length<=1000 by omega) (by decide))]
theorem CA (n:Int)(l:D)(k dr:Int)(word:Str)(i:Nat)(S:Sto)(hw:Wl (i+1) word)(hi:i<=10)(h0 : 0<=dr):∃ w2:Str,Wl (i+2) w2 /\
  fY [some (.int n),some (.str "abcdefghijklmnopqrstuvwxyz"),some l,some (.int k),some (.int dr),some (.str word),some (.int i)] S=okO (.next [some (.int n),some (.str "abcdefghijklmnopqrstuvwxyz"),some l,some (.int k),some (.int dr),some (.str w2),some (.int i)]) S:=by
 have e1:cO (.int 31) (.int i)=some (.int (31*i)):=g6 (by decide) (by decide)
 have e2:eD (.int dr) (.int (31*(i:Int)+29))=some (.int (dr / (31*(i:Int)+29))):=fq (by omega) (by omega)
 have e3:cb (.int (dr / (31*(i:Int)+29))) (.int 26)=some (.int (dr / (31*(i:Int)+29) % 26)):=bo (by decide)
 obtain⟨x,e4,wx⟩:=vn (dr / (31*(i:Int)+29) % 26) (Int.emod_nonneg _ (by decide)) (Int.emod_lt_of_pos _ (by decide)) S
 have e5:=zo hw wx.2.1 (by omega)
 refine⟨word++x,hw.app wx,?_⟩
 unfold fY
 simp[e1,e2,e3,e4,e5]
theorem Ef (x:Str)(S:Sto):inO false (.str x) (.tup [.str "names",.str "ask",.str "end"]) S=some (.bl (kept x)):=by
 have e:=in3 x "names" "ask" "end"
 unfold inO;rw[if_neg (by simp[cg]),if_neg (by decide)]
 rw[e]
 unfold kept;simp[eq_comm]
theorem Dr {x:Str}(h:kept x=true):d9 (x++("q":Str))=true:=by
 simp only[kept,Bool.or_eq_true,decide_eq_true_eq] at h
 rcases h with rfl |rfl |rfl<;>decide +kernel
theorem Dm {x:Str}(h:Wl 8 x):d9 (x++(if kept x then ("q":Str) else ⟨#[]⟩))=true:=by
 cases hk:kept x with
 |true=>exact Dr hk
 |false =>
  have e:x++(⟨#[]⟩:Str)=x:=by
   show (⟨x.cps++#[]⟩:Str)=x
   simp
  simp only[Bool.false_eq_true,if_false,e]
  unfold d9
  rw[hk,decide_eq_true h.1,decide_eq_true h.2.1,h.2.2];rfl
def DictN (n:Nat)(kvs:List (D×D)):Prop:=kvs.length<=n/\∃ ss:List Str,kvs.map (·.1)=ss.map .str/\ss.Nodup/\∀ x∈ss,d9 x=true
theorem wn (x y:Str):fz (.str x) (.str y)=decide (x=y):=by
 simp[fz,e_]
theorem DictN.put {n:Nat}{kvs:List (D×D)}{x:Str}{v:D}(h:DictN n kvs)(hx:d9 x=true):DictN (n+1) (putD kvs (.str x) v):=by
 obtain⟨hl,ss,e,nd,k⟩:=h
 unfold putD
 split
 ·refine⟨by rw[List.length_map];omega,ss,?_,nd,k⟩
  rw[List.map_map,← e]
  refine List.map_congr_left λp _=>?_
  simp only[Function.comp]
  split<;>rfl
 ·rename_i hn
  refine⟨by rw[List.length_append,List.length_singleton];omega,ss++[x],by simp[e],?_,λy hy=>?_⟩
  ·refine List.nodup_append.mpr ⟨nd,by simp,λa ha b hb=>?_⟩
   rw[List.mem_singleton.mp hb]
   rintro rfl
   apply hn
   have hm:D.str a∈kvs.map (·.1):=by rw[e];exact List.mem_map_of_mem ha
   obtain⟨p,hp,q⟩:=List.mem_map.mp hm
   rw[List.any_eq_true]
   exact⟨p,hp,by rw[q,wn];simp⟩
  ·rcases List.mem_append.mp hy with hy |hy
   ·exact k y hy
   ·rw[List.mem_singleton.mp hy];exact hx
theorem Cz (n:Int)(k:Nat)(S:Sto)(kvs:List (D×D))(b c d:Option D)(hD:DictN k kvs)(hk:k<6):∃ b' c' d' kvs',DictN (k+1) kvs' /\
  fX [some (.int n),some (.str "abcdefghijklmnopqrstuvwxyz"),some (.loc S.length),some (.int k),b,c,d] (S++[.dict kvs])=okO (.next [some (.int n),some (.str "abcdefghijklmnopqrstuvwxyz"),some (.loc S.length),some (.int k),b',c',d']) (S++[.dict kvs']):=by
 have e0:=iQ n k
 have p0:=jS n k
 have e1:cb (.int (drw n k)) (.int 26)=some (.int (drw n k % 26)):=bo (by decide)
 obtain⟨x,e2,wx⟩:=vn (drw n k % 26) (Int.emod_nonneg _ (by decide)) (Int.emod_lt_of_pos _ (by decide)) (S++[.dict kvs])
 have e3:eD (.int (drw n k)) (.int 26)=some (.int (drw n k / 26)):=fq (by decide) (by decide)
 have e4:cb (.int (drw n k / 26)) (.int 8)=some (.int (drw n k / 26 % 8)):=bo (by decide)
 have e5:cb (.int n) (.int 2)=some (.int (n % 2)):=bo (by decide)
 have b1:=Int.emod_nonneg (drw n k / 26) (show (8:Int)≠0 by decide)
 have b2:=Int.emod_lt_of_pos (drw n k / 26) (show (0:Int)<8 by decide)
 have b3:=Int.emod_nonneg n (show (2:Int)≠0 by decide)
 have b4:=Int.emod_lt_of_pos n (show (0:Int)<2 by decide)
 have e6:cO (.int (drw n k / 26 % 8)) (.int (n % 2))=some (.int (drw n k / 26 % 8*(n % 2))):=g6 (by omega) (by omega)
 have b5 : 0<=drw n k / 26 % 8*(n % 2)/\drw n k / 26 % 8*(n % 2)<=7:=by
  have:n % 2=0∨n % 2=1:=by omega
  rcases this with h |h<;>rw[h]<;>omega
 have e7:=xP (drw n k / 26 % 8*(n % 2)) b5.1 (by omega)
 generalize drw n k / 26 % 8*(n % 2)=m at e6 e7 b5
 obtain⟨ρ',S',e8,hI⟩:=fG (u:=aJ 6) (body:=fY) (λi ρ S1=>S1=S++[.dict kvs]/\i<=7/\∃ (w:Str) (z:Option D),Wl (i+1) w/\ρ=[some (.int n),some (.str "abcdefghijklmnopqrstuvwxyz"),some (.loc S.length),some (.int k),some (.int (drw n k)),some (.str w),z])
  ((List.range m.toNat).map λ(k:Nat)=>D.int k) 0 [some (.int n),some (.str "abcdefghijklmnopqrstuvwxyz"),some (.loc S.length),some (.int k),some (.int (drw n k)),some (.str x),d] (S++[.dict kvs]) ⟨rfl,by omega,x,d,wx,rfl⟩ (by
   rintro j dd ρ S1 hj ⟨rfl,hi,w,z,hw,rfl⟩
   obtain⟨rfl,hlt⟩:=k9 hj
   simp only[Nat.zero_add] at hw hi ⊢
   obtain⟨w2,hw2,eq⟩:=CA n (.loc S.length) k (drw n k) w j (S++[.dict kvs]) hw (by omega) p0
   exact⟨_,rfl,_,_,eq,rfl,by omega,w2,some (.int j),hw2,rfl⟩)
 simp only[Nat.zero_add,List.length_map,List.length_range] at hI
 obtain⟨rfl,hm7,w,z,hw,rfl⟩:=hI
 have hw8:Wl 8 w:=⟨hw.1,by have:=hw.2.1;omega,hw.2.2⟩
 have e9:=Ef w (S++[.dict kvs])
 have nq:=Dm hw8
 generalize kept w=bb at e9 nq
 have e10:=C8 bb
 have wq:(if bb then ("q":Str) else ⟨#[]⟩).length<=1:=by cases bb<;>decide
 have e11:=zo hw8 wq (by decide)
 have e12:(S++[MO.dict kvs])[S.length]?=some (.dict kvs):=by simp
 have e13:kvs.length<sizeLine:=Nat.lt_of_lt_of_le (show kvs.length<1000 by have:=hD.1;omega) (by decide)
 have e14:(S++[MO.dict kvs]).set S.length (.dict (putD kvs (.str (w++(if bb then ("q":Str) else ⟨#[]⟩))) (.bl true)))=S++[.dict (putD kvs (.str (w++(if bb then ("q":Str) else ⟨#[]⟩))) (.bl true))]:=by simp
 refine⟨some (.int (drw n k)),some (.str w),z,putD kvs (.str (w++(if bb then ("q":Str) else ⟨#[]⟩))) (.bl true),hD.put nq,?_⟩
 have e15:intD [.bl bb]=some (.int (if bb then 1 else 0)):=rfl
 unfold fX
 simp[e0,e1,e2,e3,e4,e5,e6,e7,e8,rP,e12,e_,e13,e14,e9,e15,e10,e11]
theorem wb (n:Int)(S:Sto):∃ (ss:List Str) (kvs:List (D×D)),lJ [.int n] S=okO (.tup (ss.map .str)) (S++[.dict kvs])/\ss.length<=6/\(∀ x∈ss,d9 x=true)/\ss.Pairwise λa b=>ltS a b=true:=by
 obtain⟨ρ',S',e1,hI⟩:=fG (u:=aJ 3) (body:=fX) (λi ρ S1=>i<=6/\∃ kvs b c d z,S1=S++[.dict kvs]/\DictN i kvs/\ρ=[some (.int n),some (.str "abcdefghijklmnopqrstuvwxyz"),some (.loc S.length),z,b,c,d])
  ((List.range 6).map λ(k:Nat)=>D.int k) 0 [some (.int n),some (.str "abcdefghijklmnopqrstuvwxyz"),some (.loc S.length),none,none,none,none] (S++[.dict []]) ⟨by omega,[],none,none,none,none,rfl,⟨Nat.le_refl _,[],rfl,List.nodup_nil,λx h=>by cases h⟩,rfl⟩ (by
   rintro j dd ρ S1 hj ⟨hi,kvs,b,c,d,z,rfl,hD,rfl⟩
   obtain⟨rfl,hlt⟩:=k9 hj
   simp only[Nat.zero_add] at hD ⊢
   obtain⟨b',c',d',kvs',hD',eq⟩:=Cz n j S kvs b c d hD hlt
   exact⟨_,rfl,_,_,eq,by omega,kvs',b',c',d',some (.int j),rfl,hD',rfl⟩)
 simp only[Nat.zero_add,List.length_map,List.length_range] at hI
 obtain⟨_,kvs,b,c,d,z,rfl,⟨hl,ss,es,nd,hw⟩,rfl⟩:=hI
 have hl2:ss.length=kvs.length:=by
  have:=congrArg List.length es
  simpa using this.symm
 have e2:de (kvs.map (·.1))=some ((fy ss).map .str):=by
  rw[es]
  unfold de
  rw[if_pos (by rw[List.length_map];first |omega |exact Nat.le_trans (show ss.length<=1000 by omega) (by decide)),i6]
 have pm:(fy ss).Perm ss:=List.mergeSort_perm _ _
 have nd2:(fy ss).Nodup:=(pm.nodup_iff).mpr nd
 have pw:(fy ss).Pairwise λa b=>leS a b=true:=List.pairwise_mergeSort gP jg _
 refine⟨fy ss,kvs,?_,by rw[pm.length_eq];omega,λx hx=>hw x (pm.mem_iff.mp hx),(pw.and nd2).imp λq=>kC q.1 q.2⟩
 have e3:gE [.int 6]=some ((List.range 6).map λ(k:Nat)=>D.int k):=xP 6 (by decide) (by decide)
 have e4:(S++[MO.dict kvs])[S.length]?=some (.dict kvs):=by simp
 refine aA rfl ?_
 unfold o_
 simp[e3,e1,m6,e4,e2,gy]
theorem pp:∀ (ds:List D) (i:Nat),(cL i ds).map (λd=>match d with | .tup [_,x]=>x |_ => .non)=ds
 |[],_=>rfl
 |d::ds,i=>by rw[cL,List.map_cons,pp ds]
theorem r9 (n:Int){ss:List Str}(h6:ss.length<=100)(S:Sto):∃ ss':List Str,lN [.int n,.tup (ss.map .str)] S=okO (.tup (ss'.map .str)) S/\ss'.Sublist ss:=by
 have q:=kG (u:=jp 2 (aX (aJ 0) (aX (aJ 1) fw))) (gt:=iC) (fe:=iP) (λρ => ∃ y z,ρ=[y,z,some (.int n)]) (λd=>match d with | .tup [.int k,_]=>decide (n / (3*k+1) % 4=0) |_=>false)
  (λd=>match d with | .tup [_,x]=>x |_ => .non) S (cL 0 (ss.map .str)) (eE 2 [0] [some (.int n),some (.tup (ss.map .str))]) ⟨none,none,rfl⟩ (by
   rintro d hm ρ ⟨y,z,rfl⟩
   obtain⟨j,hj⟩:=List.getElem?_of_mem hm
   rw[ft] at hj
   obtain⟨x,hx,rfl⟩:=Option.map_eq_some_iff.mp hj
   have hjl:j<ss.length:=by have:=(List.getElem?_eq_some_iff.mp hx).1;simpa using this
   have e1:cO (.int 3) (.int ((0+j:Nat):Int))=some (.int (3*((0+j:Nat):Int))):=g6 (by decide) (by decide)
   have e2:eD (.int n) (.int (3*((0+j:Nat):Int)+1))=some (.int (n / (3*((0+j:Nat):Int)+1))):=fq (by omega) (by omega)
   have e3:cb (.int (n / (3*((0+j:Nat):Int)+1))) (.int 4)=some (.int (n / (3*((0+j:Nat):Int)+1) % 4)):=bo (by decide)
   refine⟨[some (.int ((0+j:Nat):Int)),some x,some (.int n)],rfl,⟨_,_,rfl⟩,?_,λ_=>?_⟩
   ·unfold iC
    simp only[Nat.zero_add] at e1 e2 e3 ⊢
    simp[e1,e2,e3]
   ·unfold iP;simp)
 have hs:(((cL 0 (ss.map D.str)).filter (λd=>match d with | .tup [.int k,_]=>decide (n / (3*k+1) % 4=0) |_=>false)).map (λd=>match d with | .tup [_,x]=>x |_ => .non)).Sublist (ss.map D.str):=by
  have:=(List.filter_sublist (p:=(λd=>match d with | .tup [.int k,_]=>decide (n / (3*k+1) % 4=0) |_=>false)) (l:=cL 0 (ss.map D.str))).map (λd=>match d with | .tup [_,x]=>x |_ => .non)
  rw[pp] at this
  exact this
 obtain⟨ss',h1,e⟩:=List.sublist_map_iff.mp hs
 refine⟨ss',?_,h1⟩
 refine aA rfl ?_
 unfold pf
 rw[e] at q
 simp[jz,q,gy]
theorem yn {x:Str}(h:d9 x=true):∀ c∈x.cps.toList,c<128:=by
 unfold d9 at h
 rw[Bool.and_eq_true,Bool.and_eq_true,Bool.and_eq_true] at h
 intro c hc
 have:=List.all_eq_true.mp h.2.2.2 c hc
 unfold isLet at this
 simp at this
 omega
end K23
namespace L2
open PySem PyProof.Rows
section
variable (f g:Rho->Sto->Out D) (ρ:Rho) (S:Sto)
@[simp] theorem E9 (c k:Str):dS c k f ρ S=ag (f ρ S) λd S1=>aL (gi c k d S1) S1:=rfl
@[simp] theorem Em (c k:Str):jC c k f g ρ S=ag (g ρ S) λv S1=>ag (f ρ S1) λd S2=>j_ c k d v ρ S2:=rfl
@[simp] theorem EB (c k:Str):DH c k f g ρ S=ag (f ρ S) λd S1=>ag (aL (gi c k d S1) S1) λv S2=>ag (g ρ S2) λy S3=>DJ c k d v y ρ S3:=rfl
@[simp] theorem Et (c m:Str)(F:List D->Sto->Out D)(gs:Rho->Sto->Out (List D)):bM c m F f gs ρ S=ag (f ρ S) λd S1=>ag (aL (om c m d S1) S1) λ_ S2=>ag (gs ρ S2) λds S3=>gI (F (d::ds) S3):=rfl
@[simp] theorem DV (c m:Str)(F:List D->Sto->Out D)(gs:Rho->Sto->Out (List D)):Cw c m F f gs ρ S=ag (f ρ S) λd S1=>ag (aL (om c m d S1) S1) λ_ S2=>ag (gs ρ S2) λds S3=>F (d::ds) S3:=rfl
@[simp] theorem yW:tf ρ S=okO (.loc S.length) (S++[.lst []]):=rfl
@[simp] theorem Fd:AK f g ρ S=ag (f ρ S) λd S1=>ag (aL (dH d S1) S1) λ_ S2=>ag (g ρ S2) λv S3=>qZ d v S3:=rfl
@[simp] theorem DA:AE f ρ S=ag (f ρ S) λd S1=>aL ((dH d S1).bind λxs=>if xs.length<=sizeLine then some (.tup xs) else none) S1:=rfl
@[simp] theorem Ew:pF f ρ S=ag (f ρ S) λ_ S1=>okO (.next ρ) S1:=rfl
@[simp] theorem DB (c:Str)(q:Rho->Sto->Bool):AJ c q ρ S=if q ρ S=true then some (.error c,S) else none:=rfl
@[simp] theorem Ff {α β:Type}(c:Str)(k : α->Sto->Out β):ag (some (.error c,S):Out α) k=some (.error c,S):=rfl
end
theorem df {S:Sto}{l:Nat}{a b:MO}(h:S[l]?=some a):(S.set l b)[l]?=some b:=by
 have:l<S.length:=(List.getElem?_eq_some_iff.mp h).1
 simp[this]
theorem bx {S:Sto}{l k:Nat}{b:MO}(h:l≠k):(S.set l b)[k]?=S[k]?:=by
 simp[List.getElem?_set,h]
section
variable (f g:Rho->Sto->Out D) (ρ:Rho) (S:Sto)
@[simp] theorem E5:tu f g ρ S=ag (f ρ S) λx S1=>ag (g ρ S1) λi S2=>aL (oj x i S2) S2:=rfl
@[simp] theorem E6:xj f g ρ S=ag (f ρ S) λx S1=>ag (g ρ S1) λi S2=>aL (if cg x=true then oj x i S2 else ixD x i) S2:=rfl
@[simp] theorem EY (neg:Bool):xi neg f g ρ S=ag (f ρ S) λk S1=>ag (g ρ S1) λx S2=>aL (jN neg k x S2) S2:=rfl
@[simp] theorem Es:tj f g ρ S=ag (f ρ S) λx S1=>ag (g ρ S1) λk S2=>aL (fF x k S2) S2:=rfl
@[simp] theorem En (h:Rho->Sto->Out D):pE f g h ρ S=ag (h ρ S) λv S1=>ag (f ρ S1) λx S2=>ag (g ρ S2) λk S3=>kt x k v ρ S3:=rfl
@[simp] theorem Eu:y7 f ρ S=ag (f ρ S) λd S1=>aL ((dH d S1).map λxs => .int xs.length) S1:=rfl
@[simp] theorem Cr:ls f ρ S=ag (f ρ S) λd S1=>aL (gO d S1) S1:=rfl
@[simp] theorem Er:s_ ρ S=okO (.loc S.length) (S++[.dictN []]):=rfl
@[simp] theorem Dz (u:D->Rho->Option Rho):qW u f ρ S=ag (f ρ S) λd S1=>aL ((u d ρ).map Fl.next) S1:=rfl
end
end L2
namespace K23
open PySem L2 PyProof.Rows
inductive Row where
 |leaf (ss:List Str)
 |ask (c no yes:Nat)
 deriving DecidableEq
def au:Row->D
 | .leaf ss => .tup [.str "names",.tup (ss.map .str)]
 | .ask c no yes => .tup [.int c,.int no,.int yes]
def eP:Row->PyData
 | .leaf ss => .tuple [.str "names",.tuple (ss.map .str)]
 | .ask c no yes => .tuple [.int c,.int no,.int yes]
def dE:Row->Prop
 | .leaf ss => ∀ x∈ss,d9 x=true
 | .ask _ _ _=>True
theorem Al {x:Str}(h:d9 x=true):PyData.strOk x=true:=by
 have w:=yn h
 unfold PyData.strOk
 rw[← Array.all_toList,List.all_eq_true]
 intro c hc
 have:=w c hc
 simp
 omega
theorem r8:PyData.strOk ("names":Str)=true:=by decide +kernel
theorem kj {r:Row}(h:dE r):fO (au r)=some (eP r):=by
 unfold fO
 cases r with
 |leaf ss =>
  have e:toPy (au (.leaf ss))=some (eP (.leaf ss)):=by simp[au,eP,toPy,da,gT]
  have a:(ss.map PyData.str).all (keyOk 6)=true:=by
   rw[List.all_eq_true]
   intro p hp
   obtain⟨x,hx,rfl⟩:=List.mem_map.mp hp
   exact Al (h x hx)
  have k:keyOk 8 (eP (.leaf ss))=true:=by
   show ([PyData.str "names",PyData.tuple (ss.map .str)]:List PyData).all (keyOk 7)=true
   rw[List.all_cons,List.all_cons,List.all_nil,Bool.and_true,Bool.and_eq_true]
   exact⟨r8,a⟩
  rw[e,Option.bind_some,if_pos k]
 |ask c no yes=>simp[au,eP,toPy,da,keyOk]
theorem u9 (a b:Row):PyData.eqv (eP a) (eP b)=decide (a=b):=by
 cases a with
 |leaf s=>cases b with
  |leaf t=>simp[eP,PyData.eqv,PyData.eqvAll,sP]
  |ask c n y=>simp[eP,PyData.eqv,PyData.eqvAll]
 |ask c n y=>cases b with
  |leaf t=>simp[eP,PyData.eqv,PyData.eqvAll]
  |ask c' n' y' =>
   rw[Bool.eq_iff_iff]
   simp[eP,PyData.eqv,PyData.eqvAll]
   omega
theorem gD {a b:Row}(ha:dE a)(hb:dE b):dI (au a) (au b)=decide (a=b):=by
 unfold dI;rw[kj ha,kj hb];exact u9 a b
theorem dW (r:Row):dO (au r)=true:=by cases r<;>rfl
def bC (k:Nat):List Row->List (D×D)
 |[]=>[]
 |r::G=>(au r,.int k)::bC (k+1) G
theorem rY:∀ (G:List Row) (k:Nat),(bC k G).length=G.length
 |[],_=>rfl
 |r::G,k=>by rw[bC,List.length_cons,List.length_cons,rY G]
theorem ji {r:Row}(hr:dE r):∀ (G:List Row) (k:Nat),(∀ x∈G,dE x)->js (bC k G) (au r)=if r∈G then some (.int ((k+G.idxOf r:Nat):Int)) else none
 |[],k,_=>rfl
 |x::G,k,h=>by
  have ih:=ji hr G (k+1) λy hy=>h y (List.mem_cons_of_mem _ hy)
  unfold js at ih ⊢
  rw[bC,List.find?_cons]
  simp only[gD (h x (List.mem_cons_self ..)) hr]
  by_cases e:x=r
  ·subst e;simp
  ·rw[decide_eq_false e]
   simp only
   rw[ih]
   have e':¬ r=x:=λq=>e q.symm
   have eb:(x==r)=false:=by simpa using e
   by_cases hm:r∈G
   ·rw[if_pos hm,if_pos (List.mem_cons_of_mem _ hm),List.idxOf_cons,eb]
    simp only[cond_false]
    congr 2
    omega
   ·rw[if_neg hm,if_neg (by rw[List.mem_cons];exact λq=>q.elim e' hm)]
theorem any_nums {r:Row}(hr:dE r)(G:List Row)(k:Nat)(h:∀ x∈G,dE x)(hn:r∉G):((bC k G).any λp=>dI p.1 (au r))=false:=by
 have q:=ji hr G k h
 rw[if_neg hn] at q
 unfold js at q
 rw[Option.map_eq_none_iff,List.find?_eq_none] at q
 rw[List.any_eq_false]
 exact q
theorem oS:∀ (G:List Row) (k:Nat) (r:Row),bC k (G++[r])=bC k G++[(au r,.int ((k+G.length:Nat):Int))]
 |[],k,r=>rfl
 |x::G,k,r=>by
  rw[List.cons_append,bC,oS G (k+1) r,bC,List.cons_append,List.length_cons,show k+1+G.length=k+(G.length+1) by omega]
theorem wu {r:Row}(hr:dE r){G:List Row}(h:∀ x∈G,dE x)(hn:r∉G):putN (bC 0 G) (au r) (.int G.length)=bC 0 (G++[r]):=by
 unfold putN
 rw[any_nums hr G 0 h hn,if_neg (by decide),oS,Nat.zero_add]
theorem o9 {kvs:List (D×D)}{k v:D}(h:dI k k=true):js (putN kvs k v) k=some v:=by
 unfold putN
 split
 ·rename_i ha
  unfold js
  rw[List.any_eq_true] at ha
  clear h
  induction kvs with
  |nil=>obtain⟨p,hp,_⟩:=ha;cases hp
  |cons p r ih =>
   rw[List.map_cons,List.find?_cons]
   cases hp:dI p.1 k with
   |true=>simp[hp]
   |false =>
    simp only[hp,Bool.false_eq_true,if_false]
    obtain⟨x,hx,q⟩:=ha
    rcases List.mem_cons.mp hx with rfl |hx
    ·rw[hp] at q;cases q
    ·exact ih ⟨x,hx,q⟩
 ·rename_i ha
  unfold js
  rw[Bool.not_eq_true,List.any_eq_false] at ha
  rw[List.find?_append,List.find?_eq_none.mpr ha]
  simp[h]
abbrev Th:=Nat->Bool
inductive Ev (G:List Row) (th:Th):Nat->List Str->Prop
 |leaf {i:Nat}{ss:List Str}:G[i]?=some (.leaf ss)->Ev G th i ss
 |no {i c n y:Nat}{ss:List Str}:G[i]?=some (.ask c n y)->th c=false->Ev G th n ss->Ev G th i ss
 |yes {i c n y:Nat}{ss:List Str}:G[i]?=some (.ask c n y)->th c=true->Ev G th y ss->Ev G th i ss
theorem qE {G E:List Row}{i:Nat}{r:Row}(h:G[i]?=some r):(G++E)[i]?=some r:=by
 rw[List.getElem?_append_left (List.getElem?_eq_some_iff.mp h).1];exact h
theorem Ev.mono {G:List Row}(E:List Row){th:Th}{i:Nat}{ss:List Str}(h:Ev G th i ss):Ev (G++E) th i ss:=by
 induction h with
 |leaf h=>exact .leaf (qE h)
 |no h t _ ih=>exact .no (qE h) t ih
 |yes h t _ ih=>exact .yes (qE h) t ih
theorem Ev.det {G:List Row}{th:Th}{i:Nat}{a b:List Str}(h:Ev G th i a)(g:Ev G th i b):a=b:=by
 induction h with
 |leaf h=>cases g with
  |leaf h'=>rw[h] at h';cases h';rfl
  |no h'=>rw[h] at h';cases h'
  |yes h'=>rw[h] at h';cases h'
 |no h t _ ih=>cases g with
  |leaf h'=>rw[h] at h';cases h'
  |no h' t' g=>rw[h] at h';cases h';exact ih g
  |yes h' t' g=>rw[h] at h';cases h';rw[t] at t';cases t'
 |yes h t _ ih=>cases g with
  |leaf h'=>rw[h] at h';cases h'
  |no h' t' g=>rw[h] at h';cases h';rw[t] at t';cases t'
  |yes h' t' g=>rw[h] at h';cases h';exact ih g
def pl (o:List Nat)(G:List Row)(i:Nat):Nat:=match G[i]? with
 |some (.ask c _ _)=>o.idxOf c
 |_=>o.length
theorem cm {o:List Nat}{G E:List Row}{i:Nat}(h:i<G.length):pl o (G++E) i=pl o G i:=by
 unfold pl;rw[List.getElem?_append_left h]
theorem rS (o:List Nat)(G:List Row)(i:Nat):pl o G i<=o.length:=by
 unfold pl
 split
 ·exact List.idxOf_le_length
 ·exact Nat.le_refl _
def RowIn (o:List Nat)(G:List Row)(i:Nat):Row->Prop
 | .leaf ss=>(∀ x∈ss,d9 x=true)/\adj ss=true
 | .ask c n y=>c∈o/\n<i/\y<i/\o.idxOf c<K23.pl o G n/\o.idxOf c<K23.pl o G y/\n≠y
structure Wf (o:List Nat) (G:List Row):Prop where
 nd:G.Nodup
 row:∀ (i:Nat) (r:Row),G[i]?=some r->RowIn o G i r
theorem Wf.ok {o:List Nat}{G:List Row}(h:Wf o G):∀ x∈G,dE x:=by
 intro x hx
 obtain⟨i,hi⟩:=List.getElem?_of_mem hx
 have:=h.row i x hi
 cases x with
 |leaf ss=>exact this.1
 |ask c n y=>trivial
theorem Wf.total {o:List Nat}{G:List Row}(h:Wf o G)(th:Th):∀ (i:Nat),i<G.length->∃ ss,Ev G th i ss:=by
 intro i
 induction i using Nat.strongRecOn with
 |_ i ih =>
  intro hi
  have e:G[i]?=some G[i]:=List.getElem?_eq_getElem hi
  have q:=h.row i _ e
  cases hr:G[i] with
  |leaf ss=>rw[hr] at e;exact⟨ss,.leaf e⟩
  |ask c n y =>
   rw[hr] at e q
   obtain⟨_,hn,hy,_,_,_⟩:=q
   cases ht:th c with
   |false=>obtain⟨ss,k⟩:=ih n hn (by omega);exact⟨ss,.no e ht k⟩
   |true=>obtain⟨ss,k⟩:=ih y hy (by omega);exact⟨ss,.yes e ht k⟩
theorem Wf.back {o:List Nat}{G E:List Row}(h:Wf o G){th:Th}{i:Nat}{ss:List Str}(hi:i<G.length)(e:Ev (G++E) th i ss):Ev G th i ss:=by
 obtain⟨s2,k⟩:=h.total th i hi
 rw[Ev.det e (k.mono E)];exact k
theorem RowIn.app {o:List Nat}{G E:List Row}{i:Nat}{r:Row}(hi:i<=G.length)(h:RowIn o G i r):RowIn o (G++E) i r:=by
 cases r with
 |leaf ss=>exact h
 |ask c n y =>
  obtain⟨a,b,c',d,e,f⟩:=h
  refine⟨a,b,c',?_,?_,f⟩
  ·rw[cm (by omega)];exact d
  ·rw[cm (by omega)];exact e
theorem Wf.snoc {o:List Nat}{G:List Row}(h:Wf o G){r:Row}(hn:r∉G)(hr:RowIn o G G.length r):Wf o (G++[r]):=by
 refine⟨List.nodup_append.mpr ⟨h.nd,by simp,λa ha b hb=>?_⟩,λi x hx=>?_⟩
 ·rw[List.mem_singleton.mp hb];rintro rfl;exact hn ha
 ·rcases Nat.lt_trichotomy i G.length with hi |hi |hi
  ·rw[List.getElem?_append_left hi] at hx
   exact (h.row i x hx).app (Nat.le_of_lt hi)
  ·subst hi
   have:x=r:=by simpa using hx.symm
   subst this
   exact hr.app (Nat.le_refl _)
  ·rw[List.getElem?_append_right (by omega)] at hx
   have:([r]:List Row)[i-G.length]?=none:=by rw[List.getElem?_eq_none_iff];simp;omega
   rw[this] at hx;cases hx
def jT (C:List (Row×Nat)):List (D×D):=C.map λp=>(au p.1,.int p.2)
def sel (th:Th)(c n y:Nat):Nat:=if th c=true then y else n
def ChOk (o:List Nat)(G:List Row)(r:Row)(v:Nat):Prop:=match r with
 | .leaf _=>False
 | .ask c n y=>n<G.length/\y<G.length/\v<G.length/\min (o.idxOf c) (min (K23.pl o G n) (K23.pl o G y))<=K23.pl o G v/\∀ th ss,Ev G th (sel th c n y) ss->Ev G th v ss
theorem ChOk.app {o:List Nat}{G E:List Row}(w:Wf o G){r:Row}{v:Nat}(h:ChOk o G r v):ChOk o (G++E) r v:=by
 cases r with
 |leaf _=>exact h
 |ask c n y =>
  obtain⟨a,b,c',d,e⟩:=h
  refine⟨by rw[List.length_append];omega,by rw[List.length_append];omega,by rw[List.length_append];omega,?_,λth ss k=>?_⟩
  ·rw[cm a,cm b,cm c'];exact d
  ·have hs:sel th c n y<G.length:=by unfold sel;split<;>assumption
   exact (e th ss (w.back hs k)).mono E
def mh:List (Row×Nat)->Row->Nat->List (Row×Nat):=λC r v=>if (C.any λp=>decide (p.1=r))=true then C.map (λp=>if p.1=r then (p.1,v) else p) else C++[(r,v)]
theorem vK {C:List (Row×Nat)}(h:∀ p∈C,dE p.1){r:Row}(hr:dE r)(v:Nat):putN (jT C) (au r) (.int v)=jT (mh C r v):=by
 have ea:((jT C).any λp=>dI p.1 (au r))=C.any λp=>decide (p.1=r):=by
  unfold jT
  rw[List.any_map]
  have:∀ l:List (Row×Nat),(∀ p∈l,dE p.1)->(l.any ((λp=>dI p.1 (au r)) ∘ λp=>(au p.1,D.int p.2)))=l.any λp=>decide (p.1=r):=by
   intro l hl
   induction l with
   |nil=>rfl
   |cons p l ih =>
    rw[List.any_cons,List.any_cons,ih λq hq=>hl q (List.mem_cons_of_mem _ hq)]
    simp only[Function.comp,gD (hl p (List.mem_cons_self ..)) hr]
  exact this C h
 unfold putN mh
 rw[ea]
 split
 ·unfold jT
  rw[List.map_map,List.map_map]
  refine List.map_congr_left λp hp=>?_
  simp only[Function.comp,gD (h p hp) hr,decide_eq_true_eq]
  split<;>rfl
 ·unfold jT;rw[List.map_append];rfl
theorem AH {C:List (Row×Nat)}(h:∀ p∈C,dE p.1){r:Row}(hr:dE r):js (jT C) (au r)=(C.find? λp=>decide (p.1=r)).map λp => .int p.2:=by
 unfold js jT
 induction C with
 |nil=>rfl
 |cons p C ih =>
  rw[List.map_cons,List.find?_cons,List.find?_cons]
  simp only[gD (h p (List.mem_cons_self ..)) hr]
  cases hd:decide (p.1=r) with
  |true=>rfl
  |false=>exact ih λq hq=>h q (List.mem_cons_of_mem _ hq)
theorem rR {C:List (Row×Nat)}{P:Row->Nat->Prop}(h:∀ p∈C,P p.1 p.2){r:Row}{v:Nat}(hr:P r v):∀ p∈mh C r v,P p.1 p.2:=by
 intro p hp
 unfold mh at hp
 split at hp
 ·obtain⟨q,hq,rfl⟩:=List.mem_map.mp hp
  split
  ·rename_i e;rw[e];exact hr
  ·exact h q hq
 ·rcases List.mem_append.mp hp with hp |hp
  ·exact h p hp
  ·rw[List.mem_singleton.mp hp];exact hr
theorem rQ (C:List (Row×Nat))(r:Row)(v:Nat):(mh C r v).length<=C.length+1:=by
 unfold mh
 split
 ·rw[List.length_map];omega
 ·rw[List.length_append];simp
abbrev oD (o:List Nat):D:=.tup (o.map λ(c:Nat)=>D.int c)
abbrev RO (o:List Nat)(L:Nat):MO:=.ins "Rows" [("order",oD o),("gathered",.loc (L+1)),("numbers",.loc (L+2)),("choices",.loc (L+3))]
structure SR (B:Nat->Option MO) (S:Sto) (L:Nat) (o:List Nat) (G:List Row) (C:List (Row×Nat)):Prop where
 obj:S[L]?=some (RO o L)
 gat:S[L+1]?=some (.lst (G.map au))
 num:S[L+2]?=some (.dictN (bC 0 G))
 cho:S[L+3]?=some (.dictN (jT C))
 fr:∀ i,i<L∨L+3<i->S[i]?=B i
theorem rq1:(("gathered":Str)=="order")=false:=by decide +kernel
theorem rq2:(("numbers":Str)=="order")=false:=by decide +kernel
theorem rq3:(("numbers":Str)=="gathered")=false:=by decide +kernel
theorem rq4:(("choices":Str)=="order")=false:=by decide +kernel
theorem rq5:(("choices":Str)=="gathered")=false:=by decide +kernel
theorem rq6:(("choices":Str)=="numbers")=false:=by decide +kernel
section
variable {B:Nat->Option MO}{S:Sto}{L:Nat}{o:List Nat}{G:List Row}{C:List (Row×Nat)}
theorem SR.ins (h:SR B S L o G C):qB "Rows" (.loc L) S=some ([("order",oD o),("gathered",.loc (L+1)),("numbers",.loc (L+2)),("choices",.loc (L+3))]:List (Str×D)):=by
 unfold qB;simp only[h.obj,if_true]
theorem SR.f_order (h:SR B S L o G C):gi "Rows" "order" (.loc L) S=some (oD o):=by
 unfold gi;rw[h.ins];simp[List.lookup]
theorem SR.f_gat (h:SR B S L o G C):gi "Rows" "gathered" (.loc L) S=some (.loc (L+1)):=by
 unfold gi;rw[h.ins];simp[List.lookup,rq1]
theorem SR.f_num (h:SR B S L o G C):gi "Rows" "numbers" (.loc L) S=some (.loc (L+2)):=by
 unfold gi;rw[h.ins];simp[List.lookup,rq2,rq3]
theorem SR.f_cho (h:SR B S L o G C):gi "Rows" "choices" (.loc L) S=some (.loc (L+3)):=by
 unfold gi;rw[h.ins];simp[List.lookup,rq4,rq5,rq6]
theorem SR.has (h:SR B S L o G C)(m:Str)(hm:((m=="order") ||(m=="gathered") ||(m=="numbers") ||(m=="choices"))=false):om "Rows" m (.loc L) S=some .non:=by
 rw[Bool.or_eq_false_iff,Bool.or_eq_false_iff,Bool.or_eq_false_iff] at hm
 unfold om;rw[h.ins];simp[List.lookup,hm.1.1.1,hm.1.1.2,hm.1.2,hm.2]
theorem SR.lst (h:SR B S L o G C):dH (.loc (L+1)) S=some (G.map au):=by unfold dH;simp only[h.gat]
theorem SR.row (h:SR B S L o G C){i:Nat}{r:Row}(hi:G[i]?=some r):oj (.loc (L+1)) (.int i) S=some (au r):=by
 show ((dH (.loc (L+1)) S).bind λxs=>atI xs (i:Int))=_
 rw[h.lst,Option.bind_some]
 exact bS (by rw[List.getElem?_map,hi];rfl)
theorem lm (a b:Nat):eqD (.int a) (.int b)=some (.bl (decide (a=b))):=by
 rw[AB]
 by_cases h:a=b
 ·simp[h]
 ·rw[decide_eq_false h,decide_eq_false (by omega)]
theorem eq_str_int (x:Str)(i:Int):eqD (.str x) (.int i)=some (.bl false):=by simp[eqD,toPy,PyData.eqv,PyData.depth]
theorem mN (r:Row)(S:Sto):lP [au r] S=okO (.bl (match r with | .leaf _=>false | .ask _ _ _=>true)) S:=by
 refine aA rfl ?_
 unfold yN
 cases r<;>simp[au,eQ]
theorem idx_map (c:Nat):∀ o:List Nat,(o.map λ(c:Nat)=>(c:Int)).idxOf (c:Int)=o.idxOf c
 |[]=>rfl
 |a::o=>by
  rw[List.map_cons,List.idxOf_cons,List.idxOf_cons,idx_map c o]
  by_cases h:a=c
  ·simp[h]
  ·have h1:(a==c)=false:=by simpa using h
   have h2:((a:Int)==(c:Int))=false:=by
    rw[beq_eq_false_iff_ne];omega
   rw[h1,h2]
theorem intsO_map:∀ l:List Int,cP (l.map .int)=some l
 |[]=>rfl
 |a::l=>by rw[List.map_cons,cP,intsO_map l];rfl
theorem yE (o:List Nat):cP (o.map λ(c:Nat)=>D.int c)=some (o.map λ(c:Nat)=>(c:Int)):=by
 rw[show (o.map λ(c:Nat)=>D.int c)=(o.map λ(c:Nat)=>(c:Int)).map D.int by rw[List.map_map];rfl,intsO_map]
theorem o8 {o:List Nat}{c:Nat}(h:c∈o):jh (oD o) (.int c)=some (.int (o.idxOf c:Nat)):=by
 unfold jh oD
 simp only[yE,Option.bind_some]
 rw[if_pos (List.mem_map.mpr ⟨c,h,rfl⟩),idx_map]
theorem nA {i:Nat}{r:Row}(hi:G[i]?=some r)(w:RowIn o G i r)(S:Sto):hX [au r,oD o] S=okO (.int (K23.pl o G i:Nat)) S:=by
 have ea:=mN r S
 unfold K23.pl
 rw[hi]
 refine aA rfl ?_
 unfold nP
 cases r with
 |leaf ss =>
  have:eQ [oD o]=some (.int o.length):=by simp[eQ]
  simp[ea,this]
 |ask c n y =>
  have e1:=o8 w.1
  have e0:ixO (au (.ask c n y)) (.int 0) S=some (.int c):=at0 _ _ S
  have et:dO (oD o)=true:=rfl
  simp[ea,e0,e1,et]
theorem yQ (h:SR B S L o G C)(w:Wf o G)(nd:o.Nodup){c i j:Nat}(hc:c∈o)(hi:i<G.length)(hj:j<G.length) :
  ∃ f,f∈o/\o.idxOf f=min (o.idxOf c) (min (K23.pl o G i) (K23.pl o G j))/\cv [.loc L,.int c,.int i,.int j] S=okO (.int f) S:=by
 have hci:o.idxOf c<o.length:=List.idxOf_lt_length_iff.mpr hc
 have hp:min (o.idxOf c) (min (K23.pl o G i) (K23.pl o G j))<o.length:=by omega
 have one:∀ k:Nat,k<G.length->br [some (.int k),some (.loc L)] S=okO (.int (K23.pl o G k:Nat)) S:=by
  intro k hk
  have e:G[k]?=some G[k]:=List.getElem?_eq_getElem hk
  have q:=nA e (w.row k _ e) S
  have er:=h.row e
  unfold br
  simp[h.f_gat,h.f_order,er,q]
 have q:=jk (u:=aJ 0) (fe:=br) (λρ => ∃ y,ρ=[y,some (.loc L)]) (λd=>match d with | .int k => .int (K23.pl o G k.toNat:Nat) |_ => .non) S [.int i,.int j] (eE 1 [0] [some (.loc L),some (.int c),some (.int i),some (.int j),none]) ⟨none,rfl⟩ (by
  rintro d hd ρ ⟨y,rfl⟩
  refine⟨_,rfl,⟨_,rfl⟩,?_⟩
  simp only[List.mem_cons,List.not_mem_nil,or_false] at hd
  rcases hd with rfl |rfl
  ·have:=one i hi;simpa using this
  ·have:=one j hj;simpa using this)
 have e1:=o8 hc
 have et:dO (oD o)=true:=rfl
 refine⟨o[min (o.idxOf c) (min (K23.pl o G i) (K23.pl o G j))],List.getElem_mem hp,nd.idxOf_getElem _ hp,aA rfl ?_⟩
 have em:lY [.lst [.int (K23.pl o G i:Nat),.int (K23.pl o G j:Nat),.int (o.idxOf c:Nat)]]=some (.int ((min (o.idxOf c) (min (K23.pl o G i) (K23.pl o G j)):Nat):Int)):=by
  simp only[lY,cP,Option.map_some,Option.bind_some,Aq,List.foldl]
  congr 2
  split<;>split<;>omega
 have eo:ixO (oD o) (.int ((min (o.idxOf c) (min (K23.pl o G i) (K23.pl o G j)):Nat):Int)) S=some (.int (o[min (o.idxOf c) (min (K23.pl o G i) (K23.pl o G j))]:Nat)):=by
  unfold ixO
  rw[if_neg (by simp[cg])]
  show atI (o.map λ(c:Nat)=>D.int c) _=_
  exact bS (by rw[List.getElem?_map,List.getElem?_eq_getElem hp];rfl)
 have z2:szO [.int i,.int j] (.tup [.int i,.int j])=some (.tup [.int i,.int j]):=cw (by simp)
 have z1:szO [.int (o.idxOf c:Nat)] (.lst [.int (o.idxOf c:Nat)])=some (.lst [.int (o.idxOf c:Nat)]):=cw (by simp)
 have ad:bX (.lst [.int (K23.pl o G i:Nat),.int (K23.pl o G j:Nat)]) (.lst [.int (o.idxOf c:Nat)])=some (.lst [.int (K23.pl o G i:Nat),.int (K23.pl o G j:Nat),.int (o.idxOf c:Nat)]):=by
  exact (pK _ _).trans (if_pos (show 3<=sizeLine by decide))
 unfold du
 simp only[List.map_cons,List.map_nil,Int.toNat_natCast] at q
 generalize K23.pl o G i=a at *
 generalize K23.pl o G j=b at *
 generalize o.idxOf c=k at *
 simp[z2,ge,q,h.f_order,et,e1,z1,ad,em,eo]
def sd (G:List Row)(i c:Nat)(b:Bool):Nat:=match G[i]? with
 |some (.ask c' n y)=>if c'=c then (if b=true then y else n) else i
 |_=>i
theorem jc (h:SR B S L o G C){i:Nat}(hi:i<G.length)(c:Nat)(b:Bool):ci [.loc L,.int i,.int c,.int (if b=true then 1 else 0)] S=okO (.int (sd G i c b:Nat)) S:=by
 have e:G[i]?=some G[i]:=List.getElem?_eq_getElem hi
 have er:=h.row e
 unfold sd
 rw[e]
 suffices ef:gS [.loc (L+1),.int i,.int c,.int (if b=true then 1 else 0)] S=okO (.int (match some G[i] with
  |some (.ask c' n y)=>if c'=c then (if b=true then y else n) else i
  |_=>i:Nat)) S by
  refine aA rfl ?_
  unfold l6
  simp[h.f_gat,ef]
 refine aA rfl ?_
 unfold ll
 cases hr:G[i] with
 |leaf ss =>
  rw[hr] at er
  have e0:ixO (au (.leaf ss)) (.int 0) S=some (.str "names"):=at0 _ _ S
  simp[er,e0,eq_str_int,cg]
 |ask c' n y =>
  rw[hr] at er
  have e0:ixO (au (.ask c' n y)) (.int 0) S=some (.int c'):=at0 _ _ S
  have e1:ixO (au (.ask c' n y)) (.int 1) S=some (.int n):=at1 _ _ _ S
  have e2:ixO (au (.ask c' n y)) (.int 2) S=some (.int y):=at2 _ _ _ _ S
  have hq:=lm c' c
  by_cases hc:c'=c
  ·subst hc
   rw[decide_eq_true rfl] at hq
   cases b<;>simp[er,e0,hq,e1,e2,cg]
  ·rw[decide_eq_false hc] at hq
   cases b<;>simp[er,e0,hq,hc,cg]
theorem jb (w:Wf o G){i c:Nat}(hi:i<G.length)(b:Bool)(hc:c∈o)(hp:o.idxOf c<=K23.pl o G i):sd G i c b<G.length/\o.idxOf c<K23.pl o G (sd G i c b)/\∀ th ss,th c=b->Ev G th i ss->Ev G th (sd G i c b) ss:=by
 have e:G[i]?=some G[i]:=List.getElem?_eq_getElem hi
 have hci:o.idxOf c<o.length:=List.idxOf_lt_length_iff.mpr hc
 have q:=w.row i _ e
 unfold sd
 rw[e]
 cases hr:G[i] with
 |leaf ss =>
  refine⟨hi,?_,λ_ _ _ k=>k⟩
  unfold K23.pl
  rw[e,hr];exact hci
 |ask c' n y =>
  rw[hr] at q e
  obtain⟨q1,q2,q3,q4,q5,_⟩:=q
  by_cases hcc:c'=c
  ·subst hcc
   simp only[if_true]
   cases b with
   |false =>
    refine⟨by simp;omega,by simpa using q4,λth ss ht k=>?_⟩
    cases k with
    |leaf h'=>rw[e] at h';cases h'
    |no h' _ k=>rw[e] at h';cases h';exact k
    |yes h' t k=>rw[e] at h';cases h';cases ht.symm.trans t
   |true =>
    refine⟨by simp;omega,by simpa using q5,λth ss ht k=>?_⟩
    cases k with
    |leaf h'=>rw[e] at h';cases h'
    |no h' t k=>rw[e] at h';cases h';cases ht.symm.trans t
    |yes h' _ k=>rw[e] at h';cases h';exact k
  ·simp only[if_neg hcc]
   refine⟨hi,?_,λ_ _ _ k=>k⟩
   unfold K23.pl at hp ⊢
   rw[e] at hp ⊢
   simp only at hp ⊢
   rcases Nat.lt_or_eq_of_le hp with h |h
   ·exact h
   ·exfalso
    apply hcc
    have a1:=List.getElem_idxOf (List.idxOf_lt_length_iff.mpr q1)
    have a2:=List.getElem_idxOf hci
    rw[← a1,← a2]
    congr 1
    exact h.symm
theorem jf (h:SR B S L o G C)(w:Wf o G){r:Row}(hr:RowIn o G G.length r)(hz:G.length<16000000) :
  ∃ S' E i,be [.loc L,au r] S=okO (.int (i:Nat)) S'/\SR B S' L o (G++E) C/\Wf o (G++E)/\(G++E)[i]?=some r/\E.length<=1:=by
 have ok:dE r:=by cases r with
  |leaf ss=>exact hr.1
  |ask c n y=>trivial
 have kk:=kj ok
 have gl:=ji ok G 0 w.ok
 have hzz:sizeLine=16777216:=rfl
 by_cases hm:r∈G
 ·rw[if_pos hm,Nat.zero_add] at gl
  have hl:G.idxOf r<G.length:=List.idxOf_lt_length_iff.mpr hm
  refine⟨S,[],G.idxOf r,aA rfl ?_,by rw[List.append_nil];exact h,by rw[List.append_nil];exact w,?_,by simp⟩
  ·have en:jN true (au r) (.loc (L+2)) S=some (.bl false):=by
    unfold jN;simp only[h.num,kk,dW,if_true,gl];rfl
   have eg:fF (.loc (L+2)) (au r) S=some (.int (G.idxOf r:Nat)):=by
    unfold fF;simp only[h.num,kk,dW,if_true,gl]
   unfold dP
   simp[h.f_num,en,eg]
  ·rw[List.append_nil,List.getElem?_eq_getElem hl,List.getElem_idxOf hl]
 ·rw[if_neg hm] at gl
  have en:jN true (au r) (.loc (L+2)) S=some (.bl true):=by
   unfold jN;simp only[h.num,kk,dW,if_true,gl];rfl
  have ep:∀ ρ,kt (.loc (L+2)) (au r) (.int (G.length:Nat)) ρ S=okO (.next ρ) (S.set (L+2) (.dictN (bC 0 (G++[r])))):=λρ=>by
   unfold kt;simp only[h.num,kk]
   rw[if_pos ⟨by rw[rY];omega,dW r⟩,wu ok w.ok hm]
  generalize hS1:S.set (L+2) (.dictN (bC 0 (G++[r])))=S1 at ep
  have a1:S1[L]?=some (RO o L):=by rw[← hS1,bx (by omega)];exact h.obj
  have a2:S1[L+1]?=some (.lst (G.map au)):=by rw[← hS1,bx (by omega)];exact h.gat
  have a3:S1[L+2]?=some (.dictN (bC 0 (G++[r]))):=by rw[← hS1];exact df h.num
  have a4:S1[L+3]?=some (.dictN (jT C)):=by rw[← hS1,bx (by omega)];exact h.cho
  have b0:gi "Rows" "gathered" (.loc L) S1=some (.loc (L+1)):=by unfold gi qB;simp only[a1,if_true];simp[List.lookup,rq1]
  have b1:dH (.loc (L+1)) S1=some (G.map au):=by unfold dH;simp only[a2]
  have b2:qZ (.loc (L+1)) (au r) S1=okO .non (S1.set (L+1) (.lst ((G++[r]).map au))):=by
   unfold qZ;simp only[a2]
   rw[if_pos (by rw[List.length_map];omega),List.map_append];rfl
  have sr:SR B (S1.set (L+1) (.lst ((G++[r]).map au))) L o (G++[r]) C:=by
   refine⟨?_,df a2,?_,?_,λk hk=>by rw[bx (by omega),← hS1,bx (by omega)];exact h.fr k hk⟩
   ·rw[bx (by omega)];exact a1
   ·rw[bx (by omega)];exact a3
   ·rw[bx (by omega)];exact a4
  generalize hS2:S1.set (L+1) (.lst ((G++[r]).map au))=S2 at b2 sr
  have w2:=w.snoc hm hr
  have gl2:=ji ok (G++[r]) 0 w2.ok
  rw[if_pos (by simp),Nat.zero_add,List.idxOf_append,if_neg hm] at gl2
  have ei:([r]:List Row).idxOf r+G.length=G.length:=by simp
  have ei':G.length+([r]:List Row).idxOf r=G.length:=by simp
  refine⟨S2,[r],G.length,aA rfl ?_,sr,w2,by simp,by simp⟩
  have eg:fF (.loc (L+2)) (au r) S2=some (.int (G.length:Nat)):=by
   unfold fF;simp only[sr.num,kk,dW,if_true,gl2]
   first |rw[ei] |rw[ei']
  unfold dP
  simp[h.f_num,en,h.f_gat,h.lst,ep,b0,b1,b2,sr.f_num,eg]
end
section
variable {B:Nat->Option MO}{S:Sto}{L:Nat}{o:List Nat}{G:List Row}{C:List (Row×Nat)}
theorem qY (h:SR B S L o G C)(w:Wf o G){c a b:Nat}(hc:c∈o)(ha:a<G.length)(hb:b<G.length)(pa:o.idxOf c<K23.pl o G a)(pb:o.idxOf c<K23.pl o G b)(hz:G.length<16000000) :
  ∃ S' E i,bd [.loc L,.int c,.int a,.int b] S=okO (.int (i:Nat)) S'/\SR B S' L o (G++E) C/\Wf o (G++E)/\i<(G++E).length/\o.idxOf c<=K23.pl o (G++E) i/\E.length<=1/\∀ th ss,Ev (G++E) th (sel th c a b) ss->Ev (G++E) th i ss:=by
 have hq:=lm a b
 by_cases e:a=b
 ·subst e
  rw[decide_eq_true rfl] at hq
  refine⟨S,[],a,aA rfl ?_,by rw[List.append_nil];exact h,by rw[List.append_nil];exact w,by rw[List.append_nil];exact ha,by rw[List.append_nil];omega,by simp,λth ss k=>?_⟩
  ·unfold cK
   simp
  ·unfold sel at k
   simpa using k
 ·rw[decide_eq_false e] at hq
  obtain⟨S',E,i,e1,sr,w2,hi,hE⟩:=jf h w (r:=.ask c a b) ⟨hc,ha,hb,pa,pb,e⟩ hz
  have hil:=(List.getElem?_eq_some_iff.mp hi).1
  have hm:=h.has "number_of" (by decide +kernel)
  have z3:szO [.int c,.int a,.int b] (.tup [.int c,.int a,.int b])=some (.tup [.int c,.int a,.int b]):=cw (by simp)
  have e1:be [.loc L,.tup [.int c,.int a,.int b]] S=okO (.int (i:Nat)) S':=e1
  have hne:¬ ((a:Int)=b):=by omega
  refine⟨S',E,i,aA rfl ?_,sr,w2,hil,?_,hE,λth ss k=>?_⟩
  ·unfold cK
   simp[hne,hm,z3,e1]
  ·unfold K23.pl;rw[hi];exact Nat.le_refl _
  ·unfold sel at k
   cases ht:th c with
   |false=>rw[ht] at k;exact .no hi ht (by simpa using k)
   |true=>rw[ht] at k;exact .yes hi ht (by simpa using k)
def uR (B:Nat->Option MO)(L:Nat)(o:List Nat)(G:List Row)(C:List (Row×Nat))(c i j N M:Nat)(out:Out D):Prop:=
 ∃ S' E C' r,out=okO (.int (r:Nat)) S'/\SR B S' L o (G++E) C'/\Wf o (G++E)/\(∀ p∈C',ChOk o (G++E) p.1 p.2)/\ChOk o (G++E) (.ask c i j) r/\E.length<=N/\C'.length<=C.length+M
theorem oP {r:Row}{v:Nat}(h:ChOk o G r v):dE r:=by
 cases r with
 |leaf _=>exact h.elim
 |ask _ _ _=>trivial
theorem SR.put (h:SR B S L o G C)(hC:∀ p∈C,ChOk o G p.1 p.2)(c i j v:Nat)(hz:C.length<16000000)(ρ:Rho) :
  ∃ S',kt (.loc (L+3)) (au (.ask c i j)) (.int v) ρ S=okO (.next ρ) S'/\SR B S' L o G (mh C (.ask c i j) v)/\fF (.loc (L+3)) (au (.ask c i j)) S'=some (.int v):=by
 have kk:=kj (r:=.ask c i j) trivial
 have okC:∀ p∈C,dE p.1:=λp hp=>oP (hC p hp)
 have hs:S.set (L+3) (.dictN (putN (jT C) (au (.ask c i j)) (.int v)))=S.set (L+3) (.dictN (jT (mh C (.ask c i j) v))):=by rw[vK okC (r:=.ask c i j) trivial]
 refine⟨S.set (L+3) (.dictN (jT (mh C (.ask c i j) v))),?_,⟨?_,?_,?_,df h.cho,λk hk=>by rw[bx (by omega)];exact h.fr k hk⟩,?_⟩
 ·unfold kt
  simp only[h.cho,kk]
  rw[if_pos ⟨by unfold jT;rw[List.length_map];exact Nat.lt_of_lt_of_le hz (by decide),dW _⟩,hs]
 ·rw[bx (by omega)];exact h.obj
 ·rw[bx (by omega)];exact h.gat
 ·rw[bx (by omega)];exact h.num
 ·have g:=df (b:=.dictN (jT (mh C (.ask c i j) v))) h.cho
  unfold fF
  simp only[g,kk,dW,if_true]
  rw[← vK okC (r:=.ask c i j) trivial]
  exact o9 (by rw[gD (a:=.ask c i j) (b:=.ask c i j) trivial trivial];simp)
theorem AQ (nd:o.Nodup){F:List D->Sto->Out D}{n:Nat}(IH:∀ {S:Sto}{G:List Row}{C:List (Row×Nat)}{c i j:Nat},SR B S L o G C->Wf o G->(∀ p∈C,ChOk o G p.1 p.2)->c∈o->i<G.length->j<G.length->o.idxOf c<n+min (o.idxOf c) (min (K23.pl o G i) (K23.pl o G j))->G.length+2 ^ n<=16000000->C.length+2 ^ n<=16000000->uR B L o G C c i j (2 ^ n-1) (2 ^ n-1) (F [.loc L,.int c,.int i,.int j] S))
  {c i j:Nat}(h:SR B S L o G C) (w:Wf o G) (hC:∀ p∈C,ChOk o G p.1 p.2) (hc:c∈o) (hi:i<G.length) (hj:j<G.length) (hp:o.idxOf c<n+1+min (o.idxOf c) (min (K23.pl o G i) (K23.pl o G j))) (hz:G.length+2 ^ (n+1)<=16000000) (hz2:C.length+2 ^ (n+1)<=16000000) :
  uR B L o G C c i j (2 ^ (n+1)-1) (2 ^ (n+1)-2) (c9 F [.loc L,.int c,.int i,.int j] S):=by
 have p2 : 2 ^ (n+1)=2*2 ^ n:=by rw[Nat.pow_succ];omega
 have p1 : 1<=2 ^ n:=Nat.one_le_two_pow
 obtain⟨f,hf,ef,e1⟩:=yQ h w nd hc hi hj
 have hq:=lm f c
 have hm1:=h.has "first_character" (by decide +kernel)
 have hm2:=h.has "number_of_ask" (by decide +kernel)
 have hm3:=h.has "side" (by decide +kernel)
 have hm4:=h.has "choose" (by decide +kernel)
 by_cases hfc:f=c
 ·subst hfc
  rw[decide_eq_true rfl] at hq
  have s1:=jc h hi f false
  have s2:=jc h hj f true
  obtain⟨a1,a2,a3⟩:=jb w hi false hc (by omega)
  obtain⟨b1,b2,b3⟩:=jb w hj true hc (by omega)
  obtain⟨S',E,v,q1,sr,w2,hv,pv,hE,sem⟩:=qY h w hc a1 b1 a2 b2 (by omega)
  refine⟨S',E,C,v,aA rfl ?_,sr,w2,λp hp=>(hC p hp).app w,⟨by rw[List.length_append];omega,by rw[List.length_append];omega,hv,by omega,λth ss k=>?_⟩,by omega,by omega⟩
  ·unfold cY
   simp only[Bool.false_eq_true,if_false,if_true] at s1 s2
   simp[hm1,hm2,hm3,e1,s1,s2,q1]
  ·refine sem th ss ?_
   have hs:sel th f i j<G.length:=by unfold sel;split<;>assumption
   have k:=w.back hs k
   unfold sel at k ⊢
   cases ht:th f with
   |false=>rw[ht] at k;exact (a3 th ss ht (by simpa using k)).mono E
   |true=>rw[ht] at k;exact (b3 th ss ht (by simpa using k)).mono E
 ·rw[decide_eq_false hfc] at hq
  have hne:¬ ((f:Int)=c):=by omega
  have hlt:o.idxOf f<o.idxOf c:=by
   have hle:o.idxOf f<=o.idxOf c:=by omega
   rcases Nat.lt_or_eq_of_le hle with q |q
   ·exact q
   ·exfalso
    apply hfc
    have a1:=List.getElem_idxOf (List.idxOf_lt_length_iff.mpr hf)
    have a2:=List.getElem_idxOf (List.idxOf_lt_length_iff.mpr hc)
    rw[← a1,← a2]
    congr 1
  have s1:=jc h hi f false
  have s2:=jc h hj f false
  obtain⟨a1,a2,a3⟩:=jb w hi false hf (by omega)
  obtain⟨b1,b2,b3⟩:=jb w hj false hf (by omega)
  obtain⟨S1,E1,C1,a,q1,sr1,w1,hC1,ch1,l1,m1⟩:=IH h w hC hc a1 b1 (by omega) (by omega) (by omega)
  obtain⟨_,_,va,pa,sema⟩:=ch1
  have pi1:K23.pl o (G++E1) i=K23.pl o G i:=cm hi
  have pj1:K23.pl o (G++E1) j=K23.pl o G j:=cm hj
  have hi1:i<(G++E1).length:=by rw[List.length_append];omega
  have hj1:j<(G++E1).length:=by rw[List.length_append];omega
  have lG1:(G++E1).length=G.length+E1.length:=List.length_append
  have t1:=jc sr1 hi1 f true
  have t2:=jc sr1 hj1 f true
  obtain⟨c1,c2,c3⟩:=jb w1 hi1 true hf (by omega)
  obtain⟨d1,d2,d3⟩:=jb w1 hj1 true hf (by omega)
  have nm3:=sr1.has "side" (by decide +kernel)
  have nm4:=sr1.has "choose" (by decide +kernel)
  obtain⟨S2,E2,C2,b,q2,sr2,w2,hC2,ch2,l2,m2⟩:=IH sr1 w1 hC1 hc c1 d1 (by omega) (by omega) (by omega)
  obtain⟨_,_,vb,pb,semb⟩:=ch2
  have nm5:=sr2.has "number_of_ask" (by decide +kernel)
  have lG2:(G++E1++E2).length=G.length+E1.length+E2.length:=by rw[List.length_append,lG1]
  have pa0:K23.pl o (G++E1) (sd G i f false)=K23.pl o G (sd G i f false):=cm a1
  have pb0:K23.pl o (G++E1) (sd G j f false)=K23.pl o G (sd G j f false):=cm b1
  have pc0:K23.pl o (G++E1++E2) (sd (G++E1) i f true)=K23.pl o (G++E1) (sd (G++E1) i f true):=cm c1
  have pd0:K23.pl o (G++E1++E2) (sd (G++E1) j f true)=K23.pl o (G++E1) (sd (G++E1) j f true):=cm d1
  have pa2:K23.pl o (G++E1++E2) a=K23.pl o (G++E1) a:=cm va
  obtain⟨S3,E3,v,q3,sr3,w3,hv,pv,l3,sem⟩:=qY sr2 w2 (c:=f) (a:=a) (b:=b) hf (by omega) vb (by omega) (by omega) (by omega)
  have eG:G++(E1++E2++E3)=G++E1++E2++E3:=by simp
  have lG3:(G++E1++E2++E3).length=G.length+E1.length+E2.length+E3.length:=by rw[List.length_append,lG2]
  refine⟨S3,E1++E2++E3,C2,v,aA rfl ?_,by rw[eG];exact sr3,by rw[eG];exact w3,λp hp=>by rw[eG];exact (hC2 p hp).app w2,?_,by rw[List.length_append,List.length_append];omega,by omega⟩
  ·unfold cY
   simp only[Bool.false_eq_true,if_false,if_true] at s1 s2 t1 t2
   simp[hm1,hm3,hm4,e1,hne,s1,s2,q1,nm3,nm4,t1,t2,q2,nm5,q3]
  ·rw[eG]
   have px:K23.pl o (G++E1++E2++E3) i=K23.pl o G i:=by rw[cm (by omega),cm hi1,pi1]
   have py:K23.pl o (G++E1++E2++E3) j=K23.pl o G j:=by rw[cm (by omega),cm hj1,pj1]
   refine⟨by omega,by omega,hv,by rw[px,py];omega,λth ss k=>?_⟩
   refine sem th ss ?_
   have hs:sel th c i j<G.length:=by unfold sel;split<;>assumption
   have k:Ev G th (sel th c i j) ss:=w.back (E:=E1++E2++E3) hs (by rw[eG];exact k)
   cases ht:th f with
   |false =>
    have:Ev (G++E1) th (sel th c (sd G i f false) (sd G j f false)) ss:=by
     unfold sel at k ⊢
     by_cases hcc:th c=true
     ·rw[if_pos hcc] at k ⊢;exact (b3 th ss ht k).mono E1
     ·rw[if_neg hcc] at k ⊢;exact (a3 th ss ht k).mono E1
    have:=sema th ss this
    show Ev _ th (if th f=true then b else a) ss
    rw[ht]
    exact (this.mono E2).mono E3
   |true =>
    have k1:Ev (G++E1) th (sel th c i j) ss:=k.mono E1
    have:Ev (G++E1++E2) th (sel th c (sd (G++E1) i f true) (sd (G++E1) j f true)) ss:=by
     unfold sel at k1 ⊢
     by_cases hcc:th c=true
     ·rw[if_pos hcc] at k1 ⊢;exact (d3 th ss ht k1).mono E2
     ·rw[if_neg hcc] at k1 ⊢;exact (c3 th ss ht k1).mono E2
    have:=semb th ss this
    show Ev _ th (if th f=true then b else a) ss
    rw[ht]
    exact this.mono E3
theorem pA (nd:o.Nodup):∀ (n:Nat) {S:Sto}{G:List Row}{C:List (Row×Nat)}{c i j:Nat},SR B S L o G C->Wf o G->(∀ p∈C,ChOk o G p.1 p.2)->c∈o->i<G.length->j<G.length->o.idxOf c<n+min (o.idxOf c) (min (K23.pl o G i) (K23.pl o G j))->G.length+2 ^ n<=16000000->C.length+2 ^ n<=16000000->uR B L o G C c i j (2 ^ n-1) (2 ^ n-1) (d5 n [.loc L,.int c,.int i,.int j] S)
 | 0,S,G,C,c,i,j,h,w,hC,hc,hi,hj,hp,hz,hz2=>absurd hp (by omega)
 |n+1,S,G,C,c,i,j,h,w,hC,hc,hi,hj,hp,hz,hz2=>by
  have kk:=kj (r:=.ask c i j) trivial
  have okC:∀ p∈C,dE p.1:=λp hp=>oP (hC p hp)
  have gc:=AH okC (r:=.ask c i j) trivial
  have z3:szO [.int c,.int i,.int j] (.tup [.int c,.int i,.int j])=some (.tup [.int c,.int i,.int j]):=cw (by simp)
  have p1 : 1<=2 ^ n:=Nat.one_le_two_pow
  have p2 : 2 ^ (n+1)=2*2 ^ n:=by rw[Nat.pow_succ];omega
  have rd:au (.ask c i j) = .tup [.int c,.int i,.int j]:=rfl
  cases hf:C.find? (λp=>decide (p.1=Row.ask c i j)) with
  |some p =>
   rw[hf] at gc
   have hpm:=List.mem_of_find?_eq_some hf
   have hpe:p.1 = .ask c i j:=by simpa using List.find?_some hf
   have ch:=hC p hpm
   rw[hpe] at ch
   have en:jN true (au (.ask c i j)) (.loc (L+3)) S=some (.bl false):=by
    unfold jN;simp only[h.cho,kk,dW,if_true,gc];rfl
   have eg:fF (.loc (L+3)) (au (.ask c i j)) S=some (.int (p.2:Nat)):=by
    unfold fF;simp only[h.cho,kk,dW,if_true,gc];rfl
   rw[rd] at en eg
   refine⟨S,[],C,p.2,aA rfl ?_,by rw[List.append_nil];exact h,by rw[List.append_nil];exact w,by rw[List.append_nil];exact hC,by rw[List.append_nil];exact ch,by simp,by omega⟩
   unfold dX
   simp[z3,h.f_cho,en,eg]
  |none =>
   rw[hf] at gc
   have en:jN true (au (.ask c i j)) (.loc (L+3)) S=some (.bl true):=by
    unfold jN;simp only[h.cho,kk,dW,if_true,gc];rfl
   rw[rd] at en
   have hm:=h.has "choose_anew" (by decide +kernel)
   by_cases hij:i=j
   ·subst hij
    have ch:ChOk o G (.ask c i i) i:=⟨hi,hi,hi,by omega,λth ss k=>by unfold sel at k;simpa using k⟩
    obtain⟨S',ep,sr,eg⟩:=h.put hC c i i i (by omega) [some (.loc L),some (.int c),some (.int i),some (.int i),some (.tup [.int c,.int i,.int i])]
    rw[rd] at ep eg
    have pl:=rQ C (.ask c i i) i
    refine⟨S',[],mh C (.ask c i i) i,i,aA rfl ?_,by rw[List.append_nil];exact sr,by rw[List.append_nil];exact w,by rw[List.append_nil];exact rR hC ch,by rw[List.append_nil];exact ch,by simp,by omega⟩
    unfold dX
    simp[z3,h.f_cho,en,ep,sr.f_cho,eg]
   ·have hne:¬ ((i:Int)=j):=by omega
    obtain⟨S1,E,C1,v,q,sr1,w1,hC1,ch,lE,lC⟩:=AQ nd (λ{S G C c i j}=>pA nd n (S:=S) (G:=G) (C:=C) (c:=c) (i:=i) (j:=j)) h w hC hc hi hj hp hz hz2
    obtain⟨S',ep,sr,eg⟩:=sr1.put hC1 c i j v (by omega) [some (.loc L),some (.int c),some (.int i),some (.int j),some (.tup [.int c,.int i,.int j])]
    rw[rd] at ep eg
    have pl:=rQ C1 (.ask c i j) v
    refine⟨S',E,mh C1 (.ask c i j) v,v,aA rfl ?_,sr,w1,rR hC1 ch,ch,lE,by omega⟩
    unfold dX
    simp[z3,h.f_cho,en,hne,hm,q,sr1.f_cho,ep,sr.f_cho,eg]
end
inductive KQ (m:Nat):Nat->D->Prop
 |leaf {k:Nat}{ss:List Str}:(∀ x∈ss,d9 x=true)->adj ss=true->ss.length<=6->KQ m k (au (.leaf ss))
 |ask {k c:Nat}{x y:D}:c<m->KQ m k x->KQ m k y->KQ m (k+1) (.tup [.str "ask",.int c,x,y])
inductive Kv (th:Th):D->List Str->Prop
 |leaf {ss:List Str}:Kv th (au (.leaf ss)) ss
 |no {c:Nat}{x y:D}{ss:List Str}:th c=false->Kv th x ss->Kv th (.tup [.str "ask",.int c,x,y]) ss
 |yes {c:Nat}{x y:D}{ss:List Str}:th c=true->Kv th y ss->Kv th (.tup [.str "ask",.int c,x,y]) ss
theorem eqs (w s:Str):eqD (.str w) (.str s)=some (.bl (decide (w=s))):=by rw[yT rfl];rfl
theorem AO:¬ ("ask":Str)="names":=by decide +kernel
section
variable {B:Nat->Option MO}{L:Nat}{o:List Nat}
theorem Ah (nd:o.Nodup)(hl:o.length<=8){m:Nat}(ho:∀ c,c<m->c∈o){k:Nat}{d:D}(hd:KQ m k d):∀ (fuel:Nat) {S:Sto}{G:List Row}{C:List (Row×Nat)},k<fuel->SR B S L o G C->Wf o G->(∀ p∈C,ChOk o G p.1 p.2)->G.length+512*2 ^ (k+1)<=16000000->C.length+512*2 ^ (k+1)<=16000000 ->
  ∃ S' E C' r,cU fuel [.loc L,d] S=okO (.int (r:Nat)) S'/\SR B S' L o (G++E) C'/\Wf o (G++E)/\(∀ p∈C',ChOk o (G++E) p.1 p.2)/\r<(G++E).length/\E.length+512<=512*2 ^ (k+1)/\C'.length+512<=C.length+512*2 ^ (k+1)/\∀ th ss,Kv th d ss->Ev (G++E) th r ss:=by
 induction hd with
 | @leaf k ss h1 h2 _ =>
  intro fuel S G C hf h w hC hz hz2
  obtain⟨fuel,rfl⟩:∃ f,fuel=f+1:=⟨fuel-1,by omega⟩
  have p1 : 1<=2 ^ k:=Nat.one_le_two_pow
  have p2 : 2 ^ (k+1)=2*2 ^ k:=by rw[Nat.pow_succ];omega
  obtain⟨S',E,i,e1,sr,w2,hi,hE⟩:=jf h w (r:=.leaf ss) ⟨h1,h2⟩ (by omega)
  have hm:=h.has "number_of" (by decide +kernel)
  have e0:ixO (au (.leaf ss)) (.int 0) S=some (.str "names"):=at0 _ _ S
  have en:=eqs "names" "names"
  rw[decide_eq_true rfl] at en
  refine⟨S',E,C,i,aA rfl ?_,sr,w2,λp hp=>(hC p hp).app w,(List.getElem?_eq_some_iff.mp hi).1,by omega,by omega,λth ss' k=>?_⟩
  ·unfold eS
   simp[e0,en,hm,e1]
  ·generalize hD:au (.leaf ss)=D0 at k
   cases k with
   |leaf =>
    have hs:ss=ss':=by
     simp only[au,D.tup.injEq,List.cons.injEq,and_true,true_and] at hD
     exact (List.map_inj_right (λa b h=>by cases h;rfl)).mp hD
    subst hs
    exact .leaf hi
   |no=>simp[au] at hD
   |yes=>simp[au] at hD
 | @ask k c x y hc _ _ ix iy =>
  intro fuel S G C hf h w hC hz hz2
  obtain⟨fuel,rfl⟩:∃ f,fuel=f+1:=⟨fuel-1,by omega⟩
  have p1 : 1<=2 ^ (k+1):=Nat.one_le_two_pow
  have p2 : 2 ^ (k+1+1)=2*2 ^ (k+1):=by rw[Nat.pow_succ];omega
  obtain⟨S1,E1,C1,r1,e1,sr1,w1,hC1,v1,l1,m1,sem1⟩:=ix fuel (by omega) h w hC (by omega) (by omega)
  have lG1:(G++E1).length=G.length+E1.length:=List.length_append
  obtain⟨S2,E2,C2,r2,e2,sr2,w2,hC2,v2,l2,m2,sem2⟩:=iy fuel (by omega) sr1 w1 hC1 (by omega) (by omega)
  have lG2:(G++E1++E2).length=G.length+E1.length+E2.length:=by rw[List.length_append,lG1]
  have hco:=ho c hc
  have hci:o.idxOf c<o.length:=List.idxOf_lt_length_iff.mpr hco
  have hm:=h.has "choose" (by decide +kernel)
  obtain⟨S3,E3,C3,v,q3,sr3,w3,hC3,ch,l3,m3⟩:=pA nd 9 sr2 w2 hC2 hco (i:=r1) (j:=r2) (by omega) v2 (by omega) (by show _+512<=_;omega) (by show _+512<=_;omega)
  obtain⟨_,_,vv,_,sem⟩:=ch
  have l3:E3.length<=511:=l3
  have m3:C3.length<=C2.length+511:=m3
  have eG:G++(E1++E2++E3)=G++E1++E2++E3:=by simp
  have a0:ixO (.tup [.str "ask",.int c,x,y]) (.int 0) S=some (.str "ask"):=at0 _ _ S
  have en:=eqs "ask" "names"
  rw[decide_eq_false AO] at en
  refine⟨S3,E1++E2++E3,C3,v,aA rfl ?_,by rw[eG];exact sr3,by rw[eG];exact w3,by rw[eG];exact hC3,by rw[eG];exact vv,by rw[List.length_append,List.length_append];omega,by omega,λth ss q=>?_⟩
  ·unfold eS
   simp[at0,at1,at2,at3,en,hm,e1,e2,q3]
  ·rw[eG]
   refine sem th ss ?_
   cases q with
   |no ht q =>
    have:Ev (G++E1++E2) th r1 ss:=(sem1 th ss q).mono E2
    have e:sel th c r1 r2=r1:=by unfold sel;rw[ht];rfl
    rw[e];exact this.mono E3
   |yes ht q =>
    have e:sel th c r1 r2=r2:=by unfold sel;rw[ht];rfl
    rw[e];exact (sem2 th ss q).mono E3
end
inductive Tr where
 |leaf (ss:List Str)
 |node (c:Nat) (n y:Tr)
 deriving DecidableEq
def tev:Tr->Th->List Str
 | .leaf ss,_=>ss
 | .node c n y,th=>if th c=true then tev y th else tev n th
def tp (o:List Nat):Tr->Nat
 | .leaf _=>o.length
 | .node c _ _=>o.idxOf c
def Ord (o:List Nat):Tr->Prop
 | .leaf _=>True
 | .node c n y=>c∈o/\Ord o n/\Ord o y/\o.idxOf c<tp o n/\o.idxOf c<tp o y/\n≠y
def tsz:Tr->Nat
 | .leaf _ => 1
 | .node _ n y=>tsz n+tsz y+1
theorem zC (t:Tr) : 1<=tsz t:=by cases t<;>simp[tsz]
noncomputable def upd (th:Th) (c:Nat) (b:Bool):Th:=λx=>if x=c then b else th x
theorem upd_same (th:Th)(c:Nat)(b:Bool):upd th c b c=b:=by simp[upd]
theorem i0 {o:List Nat}{c:Nat}:∀ {t:Tr},Ord o t->o.idxOf c<tp o t->∀ (th:Th) (b:Bool),tev t (upd th c b)=tev t th
 | .leaf _,_,_,_,_=>rfl
 | .node c1 n y,h,hp,th,b=>by
  obtain⟨_,hn,hy,p1,p2,_⟩:=h
  have hp:o.idxOf c<o.idxOf c1:=hp
  have hne:¬ c1=c:=λe=>by rw[e] at hp;omega
  have e1:=i0 hn (show o.idxOf c<tp o n by omega) th b
  have e2:=i0 hy (show o.idxOf c<tp o y by omega) th b
  have e3:upd th c b c1=th c1:=by simp[upd,hne]
  show (if upd th c b c1=true then tev y (upd th c b) else tev n (upd th c b))=_
  rw[e1,e2,e3];rfl
theorem tY {o:List Nat}{c:Nat}{n y:Tr}(h:Ord o (.node c n y))(th:Th):tev (.node c n y) (upd th c false)=tev n th:=by
 show (if upd th c false c=true then _ else tev n (upd th c false))=_
 rw[upd_same,i0 h.2.1 h.2.2.2.1];rfl
theorem pT {o:List Nat}{c:Nat}{n y:Tr}(h:Ord o (.node c n y))(th:Th):tev (.node c n y) (upd th c true)=tev y th:=by
 show (if upd th c true c=true then tev y (upd th c true) else _)=_
 rw[upd_same,i0 h.2.2.1 h.2.2.2.2.1];rfl
theorem Ax {o:List Nat}{a b:Nat}(ha:a∈o)(hb:b∈o)(h:o.idxOf a=o.idxOf b):a=b:=by
 have a1:=List.getElem_idxOf (List.idxOf_lt_length_iff.mpr ha)
 have a2:=List.getElem_idxOf (List.idxOf_lt_length_iff.mpr hb)
 rw[← a1,← a2]
 congr 1
theorem canon {o:List Nat}:∀ (k:Nat) {t t':Tr},tsz t+tsz t'<=k->Ord o t->Ord o t'->(∀ th,tev t th=tev t' th)->t=t'
 | 0,t,t',hk,_,_,_=>absurd hk (by have:=zC t;omega)
 |k+1,t,t',hk,h,h',he=>by
  have apart:∀ {c:Nat}{n y s:Tr},tsz n+tsz y<=k->Ord o (.node c n y)->Ord o s->o.idxOf c<tp o s->(∀ th,tev (.node c n y) th=tev s th)->False:=by
   intro c n y s hs ho hos hp hev
   apply ho.2.2.2.2.2
   refine canon k hs ho.2.1 ho.2.2.1 λth=>?_
   have a:=hev (upd th c false)
   have b:=hev (upd th c true)
   rw[tY ho,i0 hos hp] at a
   rw[pT ho,i0 hos hp] at b
   rw[a,b]
  cases t with
  |leaf ss=>cases t' with
   |leaf ss'=>have:=he (λ_=>false);simp only[tev] at this;rw[this]
   |node c n y =>
    exact (apart (s:=.leaf ss) (by simp only[tsz] at hk;omega) h' h (List.idxOf_lt_length_iff.mpr h'.1) λth=>(he th).symm).elim
  |node c n y=>cases t' with
   |leaf ss =>
    exact (apart (s:=.leaf ss) (by simp only[tsz] at hk;omega) h h' (List.idxOf_lt_length_iff.mpr h.1) he).elim
   |node c' n' y' =>
    simp only[tsz] at hk
    rcases Nat.lt_trichotomy (o.idxOf c) (o.idxOf c') with q |q |q
    ·exact (apart (s:=.node c' n' y') (by omega) h h' q he).elim
    ·have ec:=Ax h.1 h'.1 q
     subst ec
     have e1:n=n':=canon k (by omega) h.2.1 h'.2.1 λth=>by
      have:=he (upd th c false)
      rwa [tY h,tY h'] at this
     have e2:y=y':=canon k (by omega) h.2.2.1 h'.2.2.1 λth=>by
      have:=he (upd th c true)
      rwa [pT h,pT h'] at this
     rw[e1,e2]
    ·exact (apart (s:=.node c n y) (by omega) h' h q λth=>(he th).symm).elim
inductive Un (G:List Row):Nat->Tr->Prop
 |leaf {i:Nat}{ss:List Str}:G[i]?=some (.leaf ss)->Un G i (.leaf ss)
 |node {i c n y:Nat}{s t:Tr}:G[i]?=some (.ask c n y)->Un G n s->Un G y t->Un G i (.node c s t)
theorem Un.det {G:List Row}{i:Nat}{s t:Tr}(h:Un G i s)(g:Un G i t):s=t:=by
 induction h generalizing t with
 |leaf h=>cases g with
  |leaf h'=>rw[h] at h';cases h';rfl
  |node h'=>rw[h] at h';cases h'
 |node h _ _ i1 i2=>cases g with
  |leaf h'=>rw[h] at h';cases h'
  |node h' a b=>rw[h] at h';cases h';rw[i1 a,i2 b]
theorem Un.ev {G:List Row}{i:Nat}{t:Tr}(h:Un G i t)(th:Th):Ev G th i (tev t th):=by
 induction h with
 |leaf h=>exact .leaf h
 | @node i c n y s t h _ _ i1 i2 =>
  cases ht:th c with
  |false=>exact .no h ht (by rw[tev,ht];exact i1)
  |true=>exact .yes h ht (by rw[tev,ht];exact i2)
theorem Wf.un {o:List Nat}{G:List Row}(w:Wf o G):∀ (i:Nat),i<G.length->∃ t,Un G i t:=by
 intro i
 induction i using Nat.strongRecOn with
 |_ i ih =>
  intro hi
  have e:G[i]?=some G[i]:=List.getElem?_eq_getElem hi
  have q:=w.row i _ e
  cases hr:G[i] with
  |leaf ss=>rw[hr] at e;exact⟨_,.leaf e⟩
  |ask c n y =>
   rw[hr] at e q
   obtain⟨_,hn,hy,_⟩:=q
   obtain⟨s,hs⟩:=ih n hn (by omega)
   obtain⟨t,ht⟩:=ih y hy (by omega)
   exact⟨_,.node e hs ht⟩
theorem Un.inj {G:List Row}(nd:G.Nodup){i:Nat}{t:Tr}(h:Un G i t):∀ {j:Nat},Un G j t->i=j:=by
 have key:∀ {a b:Nat}{r:Row},G[a]?=some r->G[b]?=some r->a=b:=by
  intro a b r ha hb
  have la:=(List.getElem?_eq_some_iff.mp ha).1
  have lb:=(List.getElem?_eq_some_iff.mp hb).1
  have ea:=(List.getElem?_eq_some_iff.mp ha).2
  have eb:=(List.getElem?_eq_some_iff.mp hb).2
  have i1:=nd.idxOf_getElem a la
  have i2:=nd.idxOf_getElem b lb
  rw[← i1,← i2,ea,eb]
 induction h with
 |leaf h=>intro j g;cases g with
  |leaf h'=>exact key h h'
 |node h _ _ i1 i2=>intro j g;cases g with
  |node h' a b =>
   have e1:=i1 a
   have e2:=i2 b
   subst e1 e2
   exact key h h'
theorem Un.pl {o:List Nat}{G:List Row}{i:Nat}{t:Tr}(h:Un G i t):K23.pl o G i=tp o t:=by
 unfold K23.pl
 cases h with
 |leaf h=>rw[h];rfl
 |node h _ _=>rw[h];rfl
def po:Tr->List Tr->List Tr
 | .leaf ss,acc=>if Tr.leaf ss∈acc then acc else acc++[.leaf ss]
 | .node c n y,acc=>if Tr.node c n y∈acc then acc else po y (po n acc)++[.node c n y]
def Cq (P:List Tr):Tr->Row
 | .leaf ss => .leaf ss
 | .node c n y => .ask c (P.idxOf n) (P.idxOf y)
def enc (P:List Tr):List Row:=P.map (Cq P)
open Classical in
noncomputable def uT (G:List Row) (i:Nat):Tr:=if h:∃ t,Un G i t then Classical.choose h else .leaf []
theorem Un.uT {G:List Row}{i:Nat}{t:Tr}(h:Un G i t):K23.uT G i=t:=by
 unfold K23.uT
 have e:∃ t,Un G i t:=⟨t,h⟩
 rw[dif_pos e]
 exact (Classical.choose_spec e).det h
theorem Wf.uT {o:List Nat}{G:List Row}(w:Wf o G){i:Nat}(hi:i<G.length):Un G i (K23.uT G i):=by
 obtain⟨t,h⟩:=w.un i hi
 rw[h.uT];exact h
theorem tQ {o:List Nat}{G:List Row}(w:Wf o G){i j:Nat}(hi:i<G.length)(hj:j<G.length)(h:K23.uT G i=K23.uT G j):i=j:=
 Un.inj w.nd (w.uT hi) (h▸w.uT hj)
theorem xz {o:List Nat}{G:List Row}(w:Wf o G){Ls:List Nat}(hl:∀ i∈Ls,i<G.length){j:Nat}(hj:j<G.length)(h:K23.uT G j∈Ls.map (K23.uT G)):j∈Ls:=by
 obtain⟨k,hk,e⟩:=List.mem_map.mp h
 rw[← tQ w (hl k hk) hj e];exact hk
theorem qm {t:Tr}{acc:List Tr}(h:t∈acc):po t acc=acc:=by
 cases t<;>(unfold po;rw[if_pos h])
theorem qo {ss:List Str}{acc:List Tr}(h:Tr.leaf ss∉acc):po (.leaf ss) acc=acc++[.leaf ss]:=by
 unfold po;rw[if_neg h]
theorem qk {c:Nat}{n y:Tr}{acc:List Tr}(h:Tr.node c n y∉acc):po (.node c n y) acc=po y (po n acc)++[.node c n y]:=by
 rw[po,if_neg h]
def lf (Ls:List Nat):List (D×D):=Ls.map λ(k:Nat)=>(D.int k,D.bl true)
theorem je (a b:Nat):fz (.int a) (.int b)=decide (a=b):=by
 unfold fz
 by_cases h:a=b
 ·simp[h]
 ·rw[decide_eq_false h]
  have:¬ ((a:Int)=b):=by omega
  simp[e_,this]
theorem vm (k:Nat):∀ Ls:List Nat,((lf Ls).find? λp=>fz p.1 (.int k)).isSome=decide (k∈Ls)
 |[]=>by simp[lf]
 |a::Ls=>by
  have ih:=vm k Ls
  unfold lf at ih ⊢
  rw[List.map_cons,List.find?_cons]
  simp only[je]
  by_cases h:a=k
  ·simp[h]
  ·rw[decide_eq_false h]
   simp only
   rw[ih]
   have:¬ k=a:=λe=>h e.symm
   simp[this]
theorem Ca (k:Nat)(Ls:List Nat):((lf Ls).any λp=>fz p.1 (.int k))=decide (k∈Ls):=by
 induction Ls with
 |nil=>simp[lf]
 |cons a Ls ih =>
  unfold lf at ih ⊢
  rw[List.map_cons,List.any_cons,ih,je]
  by_cases h:a=k
  ·simp[h]
  ·have:¬ k=a:=λe=>h e.symm
   simp[h,this]
theorem B_ {k:Nat}{Ls:List Nat}(h:k∉Ls):putD (lf Ls) (.int k) (.bl true)=lf (Ls++[k]):=by
 unfold putD
 rw[Ca,decide_eq_false h,if_neg (by decide)]
 unfold lf;rw[List.map_append];rfl
theorem Dn {S:Sto}{l:Nat}{Ls:List Nat}(h:S[l]?=some (.dict (lf Ls)))(k:Nat):inO true (.int k) (.loc l) S=some (.bl (!decide (k∈Ls))):=by
 unfold inO
 rw[if_pos rfl]
 unfold AD
 simp only[h,e_]
 unfold getD
 rw[Option.isSome_map,vm];rfl
structure Cl (G:List Row) (Ls:List Nat):Prop where
 nd:Ls.Nodup
 lt:∀ i∈Ls,i<G.length
 dn:∀ (p i c n y:Nat),Ls[p]?=some i->G[i]?=some (.ask c n y)->n∈Ls.take p/\y∈Ls.take p
theorem Cl.snoc {G:List Row}{Ls:List Nat}(h:Cl G Ls){j:Nat}(hj:j<G.length)(hn:j∉Ls)(hc:∀ c n y,G[j]?=some (.ask c n y)->n∈Ls/\y∈Ls):Cl G (Ls++[j]):=by
 refine⟨List.nodup_append.mpr ⟨h.nd,by simp,λa ha b hb=>?_⟩,λi hi=>?_,λp i c n y hp hg=>?_⟩
 ·rw[List.mem_singleton.mp hb];rintro rfl;exact hn ha
 ·rcases List.mem_append.mp hi with hi |hi
  ·exact h.lt i hi
  ·rw[List.mem_singleton.mp hi];exact hj
 ·rcases Nat.lt_trichotomy p Ls.length with hl |hl |hl
  ·rw[List.getElem?_append_left hl] at hp
   rw[List.take_append_of_le_length (Nat.le_of_lt hl)]
   exact h.dn p i c n y hp hg
  ·subst hl
   have:i=j:=by simpa using hp.symm
   subst this
   rw[List.take_append_of_le_length (Nat.le_refl _),List.take_length]
   exact hc c n y hg
  ·rw[List.getElem?_append_right (by omega)] at hp
   have:([j]:List Nat)[p-Ls.length]?=none:=by rw[List.getElem?_eq_none_iff];simp;omega
   rw[this] at hp;cases hp
section
variable {L:Nat}{o:List Nat}{G:List Row}
theorem zk (r:Row)(S:Sto):dF [au r] S=okO (.tup (match r with | .leaf _=>[] | .ask _ n y=>[.int n,.int y])) S:=by
 have ea:=mN r S
 refine aA rfl ?_
 unfold kD
 cases r with
 |leaf ss =>
  have z0:szO [] (.tup [])=some (.tup []):=cw (by simp)
  simp[ea,z0]
 |ask c n y =>
  have:slD (au (.ask c n y)) (some 1) none=some (.tup [.int n,.int y]):=rfl
  simp[ea,wY,this]
def vU (F:List D->Sto->Out D)(w:Nat)(N:Nat)(G:List Row)(o:List Nat)(g:Nat):Prop:=
 ∀ (j:Nat) (Ls:List Nat) (S:Sto) (l:Nat),o.length+1<=w+K23.pl o G j->j<G.length->j∉Ls->S[g]?=some (.lst (G.map au))->S[l]?=some (.dict (lf Ls))->g≠l->Cl G Ls->Ls.length+N<=10000 ->
  ∃ X,F [.loc g,.int j,.loc l] S=okO .non (S.set l (.dict (lf (Ls++X++[j]))))/\Cl G (Ls++X++[j])/\(∀ x∈X,x<j)/\X.length+1<=N/\(Ls++X++[j]).map (K23.uT G)=po (K23.uT G j) (Ls.map (K23.uT G))
theorem nI {F:List D->Sto->Out D}{w N g:Nat}(IH:vU F w N G o g)(j k:Nat)(Ls:List Nat)(S:Sto)(l:Nat)(hw:o.length+1<=w+K23.pl o G k)(hk:k<G.length)(hg:S[g]?=some (.lst (G.map au)))(hl:S[l]?=some (.dict (lf Ls)))(hgl:g≠l)(hc:Cl G Ls)(hN:Ls.length+N<=10000) :
  ∃ X,cA F [some (.loc g),some (.int j),some (.loc l),some (.int k)] S=okO (.next [some (.loc g),some (.int j),some (.loc l),some (.int k)]) (S.set l (.dict (lf (Ls++X))))/\Cl G (Ls++X)/\(∀ x∈X,x<=k)/\k∈Ls++X/\X.length<=N/\(Ls++X).map (K23.uT G)=po (K23.uT G k) (Ls.map (K23.uT G)):=by
 have e1:=Dn hl k
 by_cases hm:k∈Ls
 ·rw[decide_eq_true hm] at e1
  have hs:S.set l (.dict (lf (Ls++[])))=S:=by
   rw[List.append_nil]
   apply List.ext_getElem?
   intro i
   by_cases hi:l=i
   ·subst hi;rw[df hl,hl]
   ·rw[bx hi]
  refine⟨[],?_,by rw[List.append_nil];exact hc,(λx hx=>by cases hx),by rw[List.append_nil];exact hm,by simp,by rw[List.append_nil,qm (List.mem_map_of_mem hm)]⟩
  rw[hs]
  unfold cA
  simp[e1]
 ·rw[decide_eq_false hm] at e1
  obtain⟨X,q,c2,lx,nx,px⟩:=IH k Ls S l hw hk hm hg hl hgl hc hN
  refine⟨X++[k],?_,by rw[← List.append_assoc];exact c2,λx hx=>?_,by simp,by simpa using nx,by rw[← List.append_assoc];exact px⟩
  ·unfold cA
   simp[e1,q]
  ·rcases List.mem_append.mp hx with hx |hx
   ·exact Nat.le_of_lt (lx x hx)
   ·rw[List.mem_singleton.mp hx];exact Nat.le_refl _
theorem sA (w:Wf o G)(g:Nat):∀ fuel:Nat,vU (bu fuel) fuel (2 ^ fuel-1) G o g
 | 0,j,Ls,S,l,hw,_,_,_,_,_,_,_=>absurd hw (by have:=rS o G j;omega)
 |n+1,j,Ls,S,l,hw,hj,hnm,hg,hl,hgl,hc,hN=>by
  have IH:=sA w g n
  have p2 : 2 ^ (n+1)=2*2 ^ n:=by rw[Nat.pow_succ];omega
  have p1 : 1<=2 ^ n:=Nat.one_le_two_pow
  have e:G[j]?=some G[j]:=List.getElem?_eq_getElem hj
  have q:=w.row j _ e
  have eg:dH (.loc g) S=some (G.map au):=by unfold dH;simp only[hg]
  have er:oj (.loc g) (.int j) S=some (au G[j]):=by
   show ((dH (.loc g) S).bind λxs=>atI xs (j:Int))=_
   rw[eg,Option.bind_some]
   exact bS (by rw[List.getElem?_map,e];rfl)
  have eb:=zk G[j] S
  have il:cg (.loc g)=true:=rfl
  have kd:∀ k:Nat,e_ (.int k)=some (.inl (k:Int)):=λk=>rfl
  have finish:∀ (Ls':List Nat) (S':Sto) (z:Option D),S'=S.set l (.dict (lf Ls'))->j∉Ls'->Ls'.length<=20000->uK (ae 2) (ae 1) (aB (.bl true)) [some (.loc g),some (.int j),some (.loc l),z] S'=okO (.next [some (.loc g),some (.int j),some (.loc l),z]) (S.set l (.dict (lf (Ls'++[j])))):=by
   intro Ls' S' z hS hn hlen
   have h1:S'[l]?=some (.dict (lf Ls')):=by rw[hS];exact df hl
   have hz:(lf Ls').length<sizeLine:=by
    unfold lf;rw[List.length_map];exact Nat.lt_of_le_of_lt hlen (by decide)
   have:rP (.loc l) (.int j) (.bl true) [some (.loc g),some (.int j),some (.loc l),z] S'=okO (.next [some (.loc g),some (.int j),some (.loc l),z]) (S.set l (.dict (lf (Ls'++[j])))):=by
    unfold rP
    simp only[h1,kd]
    rw[if_pos hz,B_ hn,hS,List.set_set]
   simp[this]
  cases hr:G[j] with
  |leaf ss =>
   rw[hr] at eb er
   have fin:=finish Ls S none (by
    apply List.ext_getElem?
    intro i
    by_cases hi:l=i
    ·subst hi;rw[df hl,hl]
    ·rw[bx hi]) hnm (by omega)
   have ut:K23.uT G j = .leaf ss:=(Un.leaf (by rw[e,hr])).uT
   have hnu:Tr.leaf ss∉Ls.map (K23.uT G):=λh=>hnm (xz w hc.lt hj (by rw[ut];exact h))
   refine⟨[],?_,?_,(λx hx=>by cases hx),by simp;omega,by rw[List.append_nil,ut,qo hnu,List.map_append,List.map_cons,List.map_nil,ut]⟩
   ·rw[List.append_nil]
    unfold bu aZ
    rw[if_pos (show ([.loc g,.int j,.loc l]:List D).length=3 from rfl)]
    have:eA (bu n) ([.loc g,.int j,.loc l].map some++List.replicate 1 none) S=okO (.next [some (.loc g),some (.int j),some (.loc l),none]) (S.set l (.dict (lf (Ls++[j])))):=by
     unfold eA
     show aK _ _ [some (.loc g),some (.int j),some (.loc l),none] S=_
     rw[Ba]
     have:iq (dC (aD dF (ac (xj (ae 0) (ae 1)) ah))) (aJ 3) (cA (bu n)) [some (.loc g),some (.int j),some (.loc l),none] S=okO (.next [some (.loc g),some (.int j),some (.loc l),none]) S:=by
      simp[il,er,eb,ge,gN]
     rw[this]
     exact fin
    rw[this];rfl
   ·rw[List.append_nil]
    exact hc.snoc hj hnm λc n y h=>by rw[e,hr] at h;cases h
  |ask c k1 k2 =>
   rw[hr] at eb er q
   obtain⟨_,b1,b2,b3,b4,_⟩:=q
   have pj:K23.pl o G j=o.idxOf c:=by unfold K23.pl;rw[e,hr]
   obtain⟨X1,q1,c1,lx1,m1,n1,t1⟩:=nI IH j k1 Ls S l (by omega) (by omega) hg hl hgl hc (by omega)
   have hg1:(S.set l (.dict (lf (Ls++X1))))[g]?=some (.lst (G.map au)):=by rw[bx (Ne.symm hgl)];exact hg
   have hl1:(S.set l (.dict (lf (Ls++X1))))[l]?=some (.dict (lf (Ls++X1))):=df hl
   obtain⟨X2,q2,c2,lx2,m2,n2,t2⟩:=nI IH j k2 (Ls++X1) _ l (by omega) (by omega) hg1 hl1 hgl c1 (by rw[List.length_append];omega)
   rw[List.set_set] at q2
   have hn2:j∉Ls++X1++X2:=by
    intro hm
    rcases List.mem_append.mp hm with hm |hm
    ·rcases List.mem_append.mp hm with hm |hm
     ·exact hnm hm
     ·have:=lx1 j hm;omega
    ·have:=lx2 j hm;omega
   have fin:=finish (Ls++X1++X2) _ (some (.int k2)) rfl hn2 (by rw[List.length_append,List.length_append];omega)
   have ut:K23.uT G j = .node c (K23.uT G k1) (K23.uT G k2):=(Un.node (by rw[e,hr]) (w.uT (by omega)) (w.uT (by omega))).uT
   have hnu:Tr.node c (K23.uT G k1) (K23.uT G k2)∉Ls.map (K23.uT G):=λh=>hnm (xz w hc.lt hj (by rw[ut];exact h))
   refine⟨X1++X2,?_,?_,λx hx=>?_,by rw[List.length_append];omega,by rw[← List.append_assoc,List.map_append,t2,t1,ut,qk hnu,List.map_cons,List.map_nil,ut]⟩
   ·unfold bu aZ
    rw[if_pos (show ([.loc g,.int j,.loc l]:List D).length=3 from rfl)]
    have:eA (bu n) ([.loc g,.int j,.loc l].map some++List.replicate 1 none) S=okO (.next [some (.loc g),some (.int j),some (.loc l),some (.int k2)]) (S.set l (.dict (lf (Ls++(X1++X2)++[j])))):=by
     unfold eA
     show aK _ _ [some (.loc g),some (.int j),some (.loc l),none] S=_
     rw[Ba]
     have:iq (dC (aD dF (ac (xj (ae 0) (ae 1)) ah))) (aJ 3) (cA (bu n)) [some (.loc g),some (.int j),some (.loc l),none] S=okO (.next [some (.loc g),some (.int j),some (.loc l),some (.int k2)]) (S.set l (.dict (lf (Ls++X1++X2)))):=by
      simp[il,er,eb,ge,gN,q1,q2]
     rw[this]
     simp only[bJ]
     rw[← List.append_assoc Ls X1 X2]
     exact fin
    rw[this];rfl
   ·rw[← List.append_assoc]
    refine c2.snoc hj hn2 λc' n y h=>?_
    rw[e,hr] at h
    cases h
    exact⟨List.mem_append_left _ m1,m2⟩
   ·rcases List.mem_append.mp hx with hx |hx
    ·have:=lx1 x hx;omega
    ·have:=lx2 x hx;omega
end
def ba (p:Nat):List Nat->List (D×D)
 |[]=>[]
 |k::r=>(.int k,.int p)::ba (p+1) r
theorem yi:∀ (l:List Nat) (p:Nat),(ba p l).length=l.length
 |[],_=>rfl
 |k::r,p=>by rw[ba,List.length_cons,List.length_cons,yi r]
theorem yl (k:Nat):∀ (l:List Nat) (p:Nat),((ba p l).any λq=>fz q.1 (.int k))=decide (k∈l)
 |[],_=>by simp[ba]
 |a::l,p=>by
  rw[ba,List.any_cons,yl k l,je]
  by_cases h:a=k
  ·simp[h]
  ·have:¬ k=a:=λe=>h e.symm
   simp[h,this]
theorem yj (k:Nat):∀ (l:List Nat) (p:Nat),getD (ba p l) (.int k)=if k∈l then some (.int ((p+l.idxOf k:Nat):Int)) else none
 |[],_=>rfl
 |a::l,p=>by
  have ih:=yj k l (p+1)
  unfold L2.getD at ih ⊢
  rw[ba,List.find?_cons]
  simp only[je]
  by_cases h:a=k
  ·subst h;simp
  ·rw[decide_eq_false h]
   simp only
   rw[ih]
   have h':¬ k=a:=λe=>h e.symm
   have eb:(a==k)=false:=by simpa using h
   by_cases hm:k∈l
   ·rw[if_pos hm,if_pos (List.mem_cons_of_mem _ hm),List.idxOf_cons,eb]
    simp only[cond_false]
    congr 2
    omega
   ·rw[if_neg hm,if_neg (by rw[List.mem_cons];exact λq=>q.elim h' hm)]
theorem vh:∀ (l:List Nat) (p k:Nat),ba p (l++[k])=ba p l++[(.int k,.int ((p+l.length:Nat):Int))]
 |[],p,k=>rfl
 |a::l,p,k=>by
  rw[List.cons_append,ba,vh l (p+1) k,ba,List.cons_append,List.length_cons,show p+1+l.length=p+(l.length+1) by omega]
theorem B7 {k:Nat}{l:List Nat}(h:k∉l):putD (ba 0 l) (.int k) (.int l.length)=ba 0 (l++[k]):=by
 unfold putD
 rw[yl,decide_eq_false h,if_neg (by decide),vh,Nat.zero_add]
def ren (Ls:List Nat):Row->Row
 | .leaf ss => .leaf ss
 | .ask c n y => .ask c (Ls.idxOf n) (Ls.idxOf y)
def FR (Ls:List Nat)(G:List Row):List Row:=Ls.map λk=>ren Ls ((G[k]?).getD (.leaf []))
def Wr (o:List Nat)(G:List Row):Prop:=∀ (i:Nat) (r:Row),G[i]?=some r->RowIn o G i r
section
variable {B:Nat->Option MO}{L:Nat}{o:List Nat}{G:List Row}
theorem n6 {Ls:List Nat}(h:Cl G Ls){p k:Nat}(hp:Ls[p]?=some k):∃ r,G[k]?=some r/\(FR Ls G)[p]?=some (ren Ls r):=by
 have hk:=h.lt k (List.mem_of_getElem? hp)
 refine⟨G[k],List.getElem?_eq_getElem hk,?_⟩
 unfold FR
 rw[List.getElem?_map,hp,Option.map_some,List.getElem?_eq_getElem hk];rfl
theorem fj {Ls:List Nat}{k:Nat}(h:k∈Ls):Ls[Ls.idxOf k]?=some k:=by
 have hl:=List.idxOf_lt_length_iff.mpr h
 rw[List.getElem?_eq_getElem hl,List.getElem_idxOf hl]
theorem Be {Ls:List Nat}(h:Cl G Ls){k:Nat}(hk:k∈Ls):K23.pl o (FR Ls G) (Ls.idxOf k)=K23.pl o G k:=by
 obtain⟨r,e1,e2⟩:=n6 h (fj hk)
 unfold K23.pl
 rw[e1,e2]
 cases r<;>rfl
theorem uB {Ls:List Nat}{k p:Nat}(h:k∈Ls.take p):Ls.idxOf k<p:=by
 have h1:(Ls.take p).idxOf k<(Ls.take p).length:=List.idxOf_lt_length_iff.mpr h
 have h2:(Ls.take p).length<=p:=List.length_take_le ..
 have e:Ls.idxOf k=(Ls.take p).idxOf k:=by
  conv=>lhs;rw[← List.take_append_drop p Ls]
  rw[List.idxOf_append,if_pos h]
 omega
theorem zt {Ls:List Nat}(w:Wf o G)(h:Cl G Ls):Wr o (FR Ls G):=by
 intro p r hp
 have hpl:p<Ls.length:=by
  have:=(List.getElem?_eq_some_iff.mp hp).1
  simpa [FR] using this
 obtain⟨r0,e1,e2⟩:=n6 h (List.getElem?_eq_getElem hpl)
 rw[e2] at hp
 cases hp
 have q:=w.row _ _ e1
 cases r0 with
 |leaf ss=>exact q
 |ask c n y =>
  obtain⟨a1,a2,a3,a4,a5,a6⟩:=q
  obtain⟨d1,d2⟩:=h.dn p _ c n y (List.getElem?_eq_getElem hpl) e1
  have m1:=List.mem_of_mem_take d1
  have m2:=List.mem_of_mem_take d2
  refine⟨a1,uB d1,uB d2,by rw[Be h m1];exact a4,by rw[Be h m2];exact a5,λe=>a6 ?_⟩
  have g1:=fj m1
  have g2:=fj m2
  rw[e,g2] at g1
  exact (Option.some.inj g1).symm
theorem zu {Ls:List Nat}(h:Cl G Ls){th:Th}{i:Nat}{ss:List Str}(e:Ev G th i ss):i∈Ls->Ev (FR Ls G) th (Ls.idxOf i) ss:=by
 induction e with
 | @leaf i ss hg =>
  intro hi
  obtain⟨r,e1,e2⟩:=n6 h (fj hi)
  rw[hg] at e1
  cases e1
  exact .leaf e2
 | @no i c n y ss hg ht _ ih =>
  intro hi
  obtain⟨r,e1,e2⟩:=n6 h (fj hi)
  rw[hg] at e1
  cases e1
  obtain⟨d1,d2⟩:=h.dn _ _ c n y (fj hi) hg
  exact .no e2 ht (ih (List.mem_of_mem_take d1))
 | @yes i c n y ss hg ht _ ih =>
  intro hi
  obtain⟨r,e1,e2⟩:=n6 h (fj hi)
  rw[hg] at e1
  cases e1
  obtain⟨d1,d2⟩:=h.dn _ _ c n y (fj hi) hg
  exact .yes e2 ht (ih (List.mem_of_mem_take d2))
theorem wT (w:Wf o G)(ho:o.length<=8){S:Sto}{g i:Nat}(hg:S[g]?=some (.lst (G.map au)))(hi:i<G.length):∃ X,fM [.loc g,.int i] S=okO (.lst ((X++[i]).map λ(k:Nat)=>D.int k)) (S++[.dict (lf (X++[i]))])/\Cl G (X++[i])/\X.length<=1022/\(X++[i]).map (K23.uT G)=po (K23.uT G i) []:=by
 have hgl:g<S.length:=(List.getElem?_eq_some_iff.mp hg).1
 have hg1:(S++[MO.dict (lf [])])[g]?=some (.lst (G.map au)):=by rw[List.getElem?_append_left hgl];exact hg
 have hl1:(S++[MO.dict (lf [])])[S.length]?=some (.dict (lf [])):=by simp
 obtain⟨X,q,c,_,n,px⟩:=sA w g 10 i [] (S++[.dict (lf [])]) S.length (by omega) hi (by simp) hg1 hl1 (by omega) ⟨List.nodup_nil,(λi h=>by cases h),(λp i c n y h=>by simp at h)⟩ (by decide)
 rw[List.nil_append] at q c px
 have es:(S++[MO.dict (lf [])]).set S.length (.dict (lf (X++[i])))=S++[.dict (lf (X++[i]))]:=by simp
 rw[es] at q
 have n:X.length<=1022:=by
  have:X.length+1<=1023:=n
  omega
 have q:bu 10 [.loc g,.int i,.loc S.length] (S++[.dict []])=okO .non (S++[.dict (lf (X++[i]))]):=q
 have hz:(lf (X++[i])).length<=sizeLine:=by
  unfold lf;rw[List.length_map,List.length_append]
  exact Nat.le_trans (show X.length+1<=2000 by omega) (by decide)
 have el:gO (.loc S.length) (S++[.dict (lf (X++[i]))])=some (.lst ((X++[i]).map λ(k:Nat)=>D.int k)):=by
  unfold gO
  simp only[List.getElem?_concat_length]
  rw[if_pos hz]
  unfold lf;rw[List.map_map];rfl
 refine⟨X,aA rfl ?_,c,n,px⟩
 unfold iN
 simp[q,el,-List.map_append]
theorem zA {S:Sto}{l:Nat}{Ls:List Nat}(hl:S[l]?=some (.dict (ba 0 Ls)))(r:Row)(hr:∀ c n y,r = .ask c n y->n∈Ls/\y∈Ls):fK [au r,.loc l] S=okO (au (ren Ls r)) S:=by
 have ea:=mN r S
 refine aA rfl ?_
 unfold iM
 cases r with
 |leaf ss=>simp[ea,ren]
 |ask c n y =>
  obtain⟨h1,h2⟩:=hr c n y rfl
  have e0:ixO (au (.ask c n y)) (.int 0) S=some (.int c):=at0 _ _ S
  have e1:ixO (au (.ask c n y)) (.int 1) S=some (.int n):=at1 _ _ _ S
  have e2:ixO (au (.ask c n y)) (.int 2) S=some (.int y):=at2 _ _ _ _ S
  have gt:∀ k,k∈Ls->ixO (.loc l) (.int (k:Nat)) S=some (.int (Ls.idxOf k:Nat)):=λk hk=>by
   have:=yj k Ls 0
   rw[if_pos hk,Nat.zero_add] at this
   unfold ixO;rw[if_pos (show cg (.loc l)=true from rfl)]
   unfold vI
   simp only[hl,e_]
   exact this
  have z3:szO [.int c,.int (Ls.idxOf n:Nat),.int (Ls.idxOf y:Nat)] (.tup [.int c,.int (Ls.idxOf n:Nat),.int (Ls.idxOf y:Nat)])=some (au (ren Ls (.ask c n y))):=cw (by simp)
  simp[ea,e0,e1,e2,gt n h1,gt y h2,z3]
  rfl
theorem fold_eq {S:Sto}{C:List (Row×Nat)}(h:SR B S L o G C)(w:Wf o G)(ho:o.length<=8){i:Nat}(hi:i<G.length):∃ Ls S',b9 [.loc L,.int i] S=okO (.tup ((FR (Ls++[i]) G).map au)) S'/\Cl G (Ls++[i])/\Ls.length<=1022/\(Ls++[i]).map (K23.uT G)=po (K23.uT G i) []/\∃ x y,S'=S++[x,y]:=by
 obtain⟨X,q,c,nX,px⟩:=wT w ho h.gat hi
 generalize hLs:X++[i]=Ls at *
 have lLs:Ls.length<=1023:=by rw[← hLs,List.length_append];simp;omega
 generalize hS1:S++[MO.dict (lf Ls)]=S1 at *
 have sr1:SR (λi=>S1[i]?) S1 L o G C:=by
  have hlt:L+3<S.length:=(List.getElem?_eq_some_iff.mp h.cho).1
  refine⟨?_,?_,?_,?_,λ_ _=>rfl⟩<;>rw[← hS1,List.getElem?_append_left (by omega)]
  ·exact h.obj
  ·exact h.gat
  ·exact h.num
  ·exact h.cho
 have hlt1:L+3<S1.length:=(List.getElem?_eq_some_iff.mp sr1.cho).1
 have kd:∀ k:Nat,e_ (.int k)=some (.inl (k:Int)):=λk=>rfl
 obtain⟨ρ',S',el,hI⟩:=fG (u:=jp 2 (aX (aJ 4) (aX (aJ 5) fw))) (body:=c0)
  (λp ρ S'=>p<=Ls.length/\S'=S1++[.dict (ba 0 (Ls.take p))]/\∃ a b,ρ=[some (.loc L),some (.int i),some (.lst (Ls.map λ(k:Nat)=>D.int k)),some (.loc S1.length),a,b])
  (cL 0 (Ls.map λ(k:Nat)=>D.int k)) 0 [some (.loc L),some (.int i),some (.lst (Ls.map λ(k:Nat)=>D.int k)),some (.loc S1.length),none,none] (S1++[.dict []]) ⟨by omega,rfl,none,none,rfl⟩ (by
   rintro p dd ρ S' hp ⟨hpl,rfl,a,b,rfl⟩
   rw[ft] at hp
   obtain⟨x,hx,rfl⟩:=Option.map_eq_some_iff.mp hp
   rw[List.getElem?_map] at hx
   obtain⟨k,hk,rfl⟩:=Option.map_eq_some_iff.mp hx
   have hpl2:p<Ls.length:=(List.getElem?_eq_some_iff.mp hk).1
   simp only[Nat.zero_add] at *
   have hkn:k∉Ls.take p:=by
    intro hm
    have h1:=uB hm
    have h2:Ls.idxOf k=p:=by
     have:=(List.getElem?_eq_some_iff.mp hk).2
     rw[← this];exact c.nd.idxOf_getElem p hpl2
    omega
   have lt:(Ls.take p).length=p:=by rw[List.length_take];omega
   have tk:Ls.take (p+1)=Ls.take p++[k]:=by
    rw[List.take_succ,hk];rfl
   have hz:(ba 0 (Ls.take p)).length<sizeLine:=by rw[yi,lt];exact Nat.lt_of_lt_of_le (show p<2000 by omega) (by decide)
   have hg:(S1++[MO.dict (ba 0 (Ls.take p))])[S1.length]?=some (.dict (ba 0 (Ls.take p))):=by simp
   have np:=B7 hkn
   rw[lt] at np
   have ep:∀ ρ,rP (.loc S1.length) (.int k) (.int p) ρ (S1++[.dict (ba 0 (Ls.take p))])=okO (.next ρ) (S1++[.dict (ba 0 (Ls.take (p+1)))]):=λρ=>by
    unfold rP
    simp only[hg,kd]
    rw[if_pos hz,np,tk]
    simp
   refine⟨[some (.loc L),some (.int i),some (.lst (Ls.map λ(k:Nat)=>D.int k)),some (.loc S1.length),some (.int p),some (.int k)],rfl,[some (.loc L),some (.int i),some (.lst (Ls.map λ(k:Nat)=>D.int k)),some (.loc S1.length),some (.int p),some (.int k)],S1++[.dict (ba 0 (Ls.take (p+1)))],?_,by omega,rfl,some (.int p),some (.int k),rfl⟩
   unfold c0
   simp[ep])
 simp only[Nat.zero_add,bE,List.length_map,List.take_length] at hI
 obtain⟨_,rfl,a,b,rfl⟩:=hI
 have sr2:SR (λi=>(S1++[MO.dict (ba 0 Ls)])[i]?) (S1++[.dict (ba 0 Ls)]) L o G C:=by
  refine⟨?_,?_,?_,?_,λ_ _=>rfl⟩<;>rw[List.getElem?_append_left (by omega)]
  ·exact sr1.obj
  ·exact sr1.gat
  ·exact sr1.num
  ·exact sr1.cho
 have hnl:(S1++[MO.dict (ba 0 Ls)])[S1.length]?=some (.dict (ba 0 Ls)):=by simp
 have cq:=jk (u:=aJ 0) (fe:=cr) (λρ => ∃ y,ρ=[y,some (.loc S1.length),some (.loc L)]) (λd=>match d with | .int k=>au (ren Ls ((G[k.toNat]?).getD (.leaf []))) |_ => .non) (S1++[.dict (ba 0 Ls)]) (Ls.map λ(k:Nat)=>D.int k)
  (eE 1 [3,0] [some (.loc L),some (.int i),some (.lst (Ls.map λ(k:Nat)=>D.int k)),some (.loc S1.length),a,b]) ⟨none,rfl⟩ (by
   rintro d hd ρ ⟨y,rfl⟩
   obtain⟨k,hk,rfl⟩:=List.mem_map.mp hd
   refine⟨_,rfl,⟨_,rfl⟩,?_⟩
   have hkl:=c.lt k hk
   have e:G[k]?=some G[k]:=List.getElem?_eq_getElem hkl
   have er:=sr2.row e
   have ew:=zA hnl G[k] λc' n y hr=>by
    obtain⟨d1,d2⟩:=c.dn _ k c' n y (fj hk) (by rw[e,hr])
    exact⟨List.mem_of_mem_take d1,List.mem_of_mem_take d2⟩
   have eR:(G[(k:Int).toNat]?).getD (.leaf [])=G[k]:=by rw[Int.toNat_natCast,e];rfl
   show cr [some (.int k),some (.loc S1.length),some (.loc L)] (S1++[.dict (ba 0 Ls)])=okO (au (ren Ls ((G[(k:Int).toNat]?).getD (.leaf [])))) (S1++[.dict (ba 0 Ls)])
   rw[eR]
   unfold cr
   simp[sr2.f_gat,er,ew])
 have em:(Ls.map λ(k:Nat)=>D.int k).map (λd=>match d with | .int k=>au (ren Ls ((G[k.toNat]?).getD (.leaf []))) |_ => .non)=(FR Ls G).map au:=by
  unfold FR
  rw[List.map_map,List.map_map]
  refine List.map_congr_left λk _=>?_
  simp
 rw[em] at cq
 refine⟨X,S1++[.dict (ba 0 Ls)],?_,by rw[hLs];exact c,nX,by rw[hLs];exact px,.dict (lf Ls),.dict (ba 0 Ls),by rw[← hS1];simp⟩
 rw[hLs]
 refine aA rfl ?_
 have ee:qK [.lst (Ls.map λ(k:Nat)=>D.int k)]=some (cL 0 (Ls.map λ(k:Nat)=>D.int k)):=rfl
 unfold gQ
 simp[h.f_gat,q,ee,el,ge,cq,gy,-List.map_map]
end
theorem j9 (S r:Sto)(fs:List (Str×D))(f:Str)(v:D)(ρ:Rho)(h:fs.length<1000):j_ "Rows" f (.loc S.length) v ρ (S++MO.ins "Rows" fs::r)=okO (.next ρ) (S++MO.ins "Rows" (jx f v fs)::r):=by
 have e:(S++MO.ins "Rows" fs::r)[S.length]?=some (.ins "Rows" fs):=by simp
 unfold j_
 simp only[e]
 rw[if_pos ⟨trivial,h⟩]
 simp
theorem rn1:¬ ("order":Str)="gathered":=by decide +kernel
theorem rn2:¬ ("order":Str)="numbers":=by decide +kernel
theorem rn3:¬ ("gathered":Str)="numbers":=by decide +kernel
theorem rn4:¬ ("order":Str)="choices":=by decide +kernel
theorem rn5:¬ ("gathered":Str)="choices":=by decide +kernel
theorem rn6:¬ ("numbers":Str)="choices":=by decide +kernel
theorem rL (S:Sto)(o:List Nat):bi [.loc S.length,oD o] (S++[.ins "Rows" []])=okO .non (S++[RO o S.length,.lst [],.dictN [],.dictN []]):=by
 have s1:=λρ=>j9 S [] [] "order" (oD o) ρ (by decide)
 have s2:=λρ=>j9 S [.lst []] [("order",oD o)] "gathered" (.loc (S.length+1)) ρ (by simp)
 have s3:=λρ=>j9 S [.lst [],.dictN []] [("order",oD o),("gathered",.loc (S.length+1))] "numbers" (.loc (S.length+2)) ρ (by simp)
 have s4:=λρ=>j9 S [.lst [],.dictN [],.dictN []] [("order",oD o),("gathered",.loc (S.length+1)),("numbers",.loc (S.length+2))] "choices" (.loc (S.length+3)) ρ (by simp)
 simp only[jx,rn1,rn2,rn3,rn4,rn5,rn6,if_false] at s1 s2 s3 s4
 unfold bi aZ
 rw[if_pos (show ([.loc S.length,oD o]:List D).length=2 from rfl)]
 have:eT ([.loc S.length,oD o].map some++List.replicate 0 none) (S++[.ins "Rows" []])=okO (.next [some (.loc S.length),some (oD o)]) (S++[RO o S.length,.lst [],.dictN [],.dictN []]):=by
  unfold eT
  simp[s1,s2,s3,s4]
 rw[this];rfl
def tv (ts:List Int):Th:=λc=>decide (ts.getD c 0=1)
theorem vo {th:Th}{ss ss':List Str}(h:Kv th (au (.leaf ss)) ss'):ss'=ss:=by
 generalize hD:au (.leaf ss)=D0 at h
 cases h with
 |leaf =>
  simp only[au,D.tup.injEq,List.cons.injEq,and_true,true_and] at hD
  exact ((List.map_inj_right (λa b h=>by cases h;rfl)).mp hD).symm
 |no=>simp[au] at hD
 |yes=>simp[au] at hD
theorem KQ.total {m k:Nat}{d:D}(h:KQ m k d)(th:Th):∃ ss,Kv th d ss:=by
 induction h with
 |leaf _ _ _=>exact⟨_,.leaf⟩
 | @ask k c x y _ _ _ ix iy =>
  obtain⟨a,ha⟩:=ix
  obtain⟨b,hb⟩:=iy
  cases ht:th c with
  |false=>exact⟨a,.no ht ha⟩
  |true=>exact⟨b,.yes ht hb⟩
section
variable {m:Nat}{ts:List Int}
variable {o:List Nat}{R:List Row}
theorem qI (S:Sto){i:Nat}{r:Row}(h:R[i]?=some r):ixO (.tup (R.map au)) (.int i) S=some (au r):=by
 unfold ixO
 rw[if_neg (by simp[cg])]
 exact bS (by rw[List.getElem?_map,h];rfl)
end
theorem jP {α β:Type}[DecidableEq α][DecidableEq β](f : α->β)(x : α):∀ (l:List α),(∀ a∈l,f a=f x->a=x)->(l.map f).idxOf (f x)=l.idxOf x
 |[],_=>rfl
 |a::l,h=>by
  have ih:=jP f x l λb hb=>h b (List.mem_cons_of_mem _ hb)
  rw[List.map_cons,List.idxOf_cons,List.idxOf_cons,ih]
  by_cases e:a=x
  ·subst e;simp
  ·have e2:¬ f a=f x:=λq=>e (h a (List.mem_cons_self ..) q)
   have b1:(a==x)=false:=by simpa using e
   have b2:(f a==f x)=false:=by simpa using e2
   rw[b1,b2]
theorem uP {o:List Nat}{G:List Row}(w:Wf o G){Ls:List Nat}(c:Cl G Ls):FR Ls G=enc (Ls.map (K23.uT G)):=by
 unfold FR enc
 rw[List.map_map]
 refine List.map_congr_left λk hk=>?_
 have hkl:=c.lt k hk
 have e:G[k]?=some G[k]:=List.getElem?_eq_getElem hkl
 have q:=w.row k _ e
 simp only[Function.comp,e,Option.getD_some]
 cases hr:G[k] with
 |leaf ss =>
  have ut:K23.uT G k = .leaf ss:=(Un.leaf (by rw[e,hr])).uT
  rw[ut];rfl
 |ask a n y =>
  rw[hr] at q
  obtain⟨_,hn,hy,_⟩:=q
  have ut:K23.uT G k = .node a (K23.uT G n) (K23.uT G y):=(Un.node (by rw[e,hr]) (w.uT (by omega)) (w.uT (by omega))).uT
  rw[ut]
  show Row.ask a (Ls.idxOf n) (Ls.idxOf y)=Row.ask a ((Ls.map (K23.uT G)).idxOf (K23.uT G n)) ((Ls.map (K23.uT G)).idxOf (K23.uT G y))
  rw[jP (K23.uT G) n Ls λb hb=>tQ w (c.lt b hb) (by omega),jP (K23.uT G) y Ls λb hb=>tQ w (c.lt b hb) (by omega)]
def xn:Tr->Prop
 | .leaf ss=>(∀ x∈ss,d9 x=true)/\adj ss=true
 | .node _ n y=>xn n/\xn y
theorem Un.ord {o:List Nat}{G:List Row}(w:Wf o G){i:Nat}{t:Tr}(h:Un G i t):Ord o t/\xn t:=by
 induction h with
 |leaf h=>exact⟨trivial,w.row _ _ h⟩
 | @node i c n y s t h hs ht i1 i2 =>
  obtain⟨a1,a2,a3,a4,a5,a6⟩:=w.row _ _ h
  refine⟨⟨a1,i1.1,i2.1,by rw[← hs.pl];exact a4,by rw[← ht.pl];exact a5,λe=>a6 ?_⟩,i1.2,i2.2⟩
  subst e
  exact Un.inj w.nd hs ht
theorem xa {o:List Nat}(nd:o.Nodup)(hl:o.length<=8){m:Nat}(ho:∀ c,c<m->c∈o){k:Nat}(hk:k<=12){d:D}(hd:KQ m k d)(S:Sto) :
  ∃ t S',iX [d,oD o] S=okO (.tup ((enc (po t [])).map au)) S'/\Ord o t/\xn t/\Wr o (enc (po t []))/\(∀ th,Ev (enc (po t [])) th ((enc (po t [])).length-1) (tev t th))/\(∀ th ss,Kv th d ss->tev t th=ss)/\(po t []).length<=1023/\S'.take S.length=S:=by
 have ei:=rL S o
 have sr0:SR (λi=>(S++[RO o S.length,.lst [],.dictN [],.dictN []])[i]?) (S++[RO o S.length,.lst [],.dictN [],.dictN []]) S.length o [] []:=by
  refine⟨by simp,?_,?_,?_,λ_ _=>rfl⟩
  ·rw[List.getElem?_append_right (by omega)];simp
  ·rw[List.getElem?_append_right (by omega)];simp;rfl
  ·rw[List.getElem?_append_right (by omega)];simp;rfl
 have pre:∀ i,i<S.length->(S++[RO o S.length,.lst [],.dictN [],.dictN []])[i]?=S[i]?:=λi hi=>List.getElem?_append_left hi
 generalize (S++[RO o S.length,.lst [],.dictN [],.dictN []])=S0 at *
 have w0:Wf o ([]:List Row):=⟨List.nodup_nil,λi r h=>by simp at h⟩
 have p12 : 2 ^ (k+1)<=2 ^ 13:=Nat.pow_le_pow_right (by decide) (by omega)
 have e13 : 2 ^ 13=8192:=rfl
 obtain⟨S1,E,C1,r,q1,sr1,w1,_,v1,_,_,sem⟩:=Ah nd hl ho hd 15 (by omega) sr0 w0 (λp hp=>by cases hp) (by simp;omega) (by simp;omega)
 rw[List.nil_append] at sr1 w1 v1 sem
 obtain⟨X,S2,q2,c,lX,px,x2,y2,rfl⟩:=fold_eq sr1 w1 hl v1
 have fr:(S1++[x2,y2]).take S.length=S:=by
  have l1:S.length+3<S1.length:=(List.getElem?_eq_some_iff.mp sr1.cho).1
  apply List.ext_getElem?
  intro i
  rw[List.getElem?_take]
  split
  ·rename_i hi
   rw[List.getElem?_append_left (by omega),sr1.fr i (.inl hi),pre i hi]
  ·rw[List.getElem?_eq_none (by omega)]
 have hm:=sr0.has "fold_from" (by decide +kernel)
 have un:=w1.uT v1
 have eF:FR (X++[r]) E=enc (po (K23.uT E r) []):=by rw[uP w1 c,px]
 have wr:=zt w1 c
 rw[eF] at q2 wr
 refine⟨K23.uT E r,S1++[x2,y2],aA rfl ?_,(un.ord w1).1,(un.ord w1).2,wr,λth=>?_,λth ss kv=>?_,?_,fr⟩
 ·have em:iT "Rows" bi (ac (ae 1) ah) [some d,some (oD o),none] S=okO (.loc S.length) S0:=by
   unfold iT
   simp only[qN,vG,bJ]
   have:ae 1 [some d,some (oD o),none] S=okO (oD o) S:=rfl
   rw[this]
   simp only[bJ]
   rw[ei];rfl
  unfold sM
  simp[em,hm,q1,q2,-List.map_map]
 ·have e:=zu c (un.ev th) (by simp)
  have hr:r∉X:=by
   have:=(List.nodup_append.mp c.nd).2.2
   intro hm
   exact this r hm r (by simp) rfl
  have ix:(X++[r]).idxOf r=(FR (X++[r]) E).length-1:=by
   rw[List.idxOf_append,if_neg hr]
   simp[FR]
  rw[ix,eF] at e;exact e
 ·exact Ev.det (un.ev th) (sem th ss kv)
 ·rw[← px,List.length_map,List.length_append];simp;omega
inductive Sub:Tr->Tr->Prop
 |refl (t:Tr):Sub t t
 |no {s:Tr}{c:Nat}{n y:Tr}:Sub s n->Sub s (.node c n y)
 |yes {s:Tr}{c:Nat}{n y:Tr}:Sub s y->Sub s (.node c n y)
theorem zW (t:Tr)(acc:List Tr):t∈po t acc:=by
 by_cases h:t∈acc
 ·rw[qm h];exact h
 ·cases t with
  |leaf ss=>rw[qo h];simp
  |node c n y=>rw[qk h];simp
theorem ql:∀ (t:Tr) (acc:List Tr) (s:Tr),s∈po t acc->s∈acc∨Sub s t
 | .leaf ss,acc,s,h=>by
  by_cases hm:Tr.leaf ss∈acc
  ·rw[qm hm] at h;exact .inl h
  ·rw[qo hm] at h
   rcases List.mem_append.mp h with h |h
   ·exact .inl h
   ·rw[List.mem_singleton.mp h];exact .inr (.refl _)
 | .node c n y,acc,s,h=>by
  by_cases hm:Tr.node c n y∈acc
  ·rw[qm hm] at h;exact .inl h
  ·rw[qk hm] at h
   rcases List.mem_append.mp h with h |h
   ·rcases ql y _ s h with h |h
    ·rcases ql n _ s h with h |h
     ·exact .inl h
     ·exact .inr (.no h)
    ·exact .inr (.yes h)
   ·rw[List.mem_singleton.mp h];exact .inr (.refl _)
theorem y6 {u:D->Rho->Option Rho}{fe:Rho->Sto->Out D}{d1 d2 v1 v2:D}{ρ0 ρ1 ρ2:Rho}{S:Sto}(a:u d1 ρ0=some ρ1)(b:fe ρ1 S=okO v1 S)(c:u d2 ρ1=some ρ2)(d:fe ρ2 S=okO v2 S):eX u ii fe [d1,d2] ρ0 S=some ([v1,v2],S):=by
 have t:okP (okO true S)=some (true,S):=rfl
 have k:∀ v:D,okP (okO v S)=some (v,S):=λ_=>rfl
 simp[eX,a,b,c,d,t,k]
abbrev pkD (i j:Nat):D:=.tup [.int i,.int j]
theorem qp (i j:Nat):fO (pkD i j)=some (.tuple [.int i,.int j]):=by simp[pkD,fO,toPy,da,keyOk]
theorem mH (i j a b:Nat):dI (pkD i j) (pkD a b)=decide ((i,j)=(a,b)):=by
 unfold dI
 rw[qp,qp,Bool.eq_iff_iff]
 simp[PyData.eqv,PyData.eqvAll]
 omega
abbrev PM:=List ((Nat×Nat)×Nat)
def mdD (M:PM):List (D×D):=M.map λp=>(pkD p.1.1 p.1.2,.int p.2)
def og (M:PM)(r:Nat×Nat)(v:Nat):PM:=if (M.any λp=>decide (p.1=r))=true then M.map (λp=>if p.1=r then (p.1,v) else p) else M++[(r,v)]
theorem B8 (M:PM)(r:Nat×Nat)(v:Nat):putN (mdD M) (pkD r.1 r.2) (.int v)=mdD (og M r v):=by
 have ea:((mdD M).any λp=>dI p.1 (pkD r.1 r.2))=M.any λp=>decide (p.1=r):=by
  unfold mdD
  rw[List.any_map]
  congr 1
  funext p
  simp only[Function.comp,mH]
 unfold putN og
 rw[ea]
 split
 ·unfold mdD
  rw[List.map_map,List.map_map]
  refine List.map_congr_left λp hp=>?_
  simp only[Function.comp,mH,decide_eq_true_eq]
  split<;>rfl
 ·unfold mdD;rw[List.map_append];rfl
theorem B9 (M:PM)(r:Nat×Nat):js (mdD M) (pkD r.1 r.2)=(M.find? λp=>decide (p.1=r)).map λp => .int p.2:=by
 unfold js mdD
 induction M with
 |nil=>rfl
 |cons p C ih =>
  rw[List.map_cons,List.find?_cons,List.find?_cons]
  simp only[mH]
  cases hd:decide (p.1=r) with
  |true=>rfl
  |false=>exact ih
theorem xS {M:PM}{P:Nat×Nat->Nat->Prop}(h:∀ p∈M,P p.1 p.2){r:Nat×Nat}{v:Nat}(hr:P r v):∀ p∈og M r v,P p.1 p.2:=by
 intro p hp
 unfold og at hp
 split at hp
 ·obtain⟨q,hq,rfl⟩:=List.mem_map.mp hp
  split
  ·rename_i e;rw[e];exact hr
  ·exact h q hq
 ·rcases List.mem_append.mp hp with hp |hp
  ·exact h p hp
  ·rw[List.mem_singleton.mp hp];exact hr
theorem xR (M:PM)(r:Nat×Nat)(v:Nat):(og M r v).length<=M.length+1:=by
 unfold og
 split
 ·rw[List.length_map];omega
 ·rw[List.length_append];simp
theorem mB {o:List Nat}{R:List Row}(w:Wr o R){i c:Nat}(hi:i<R.length)(b:Bool)(hc:c∈o)(hp:o.idxOf c<=K23.pl o R i):sd R i c b<R.length/\o.idxOf c<K23.pl o R (sd R i c b)/\∀ th ss,th c=b->Ev R th i ss->Ev R th (sd R i c b) ss:=by
 have e:R[i]?=some R[i]:=List.getElem?_eq_getElem hi
 have hci:o.idxOf c<o.length:=List.idxOf_lt_length_iff.mpr hc
 have q:=w i _ e
 unfold sd
 rw[e]
 cases hr:R[i] with
 |leaf ss =>
  refine⟨hi,?_,λ_ _ _ k=>k⟩
  unfold K23.pl
  rw[e,hr];exact hci
 |ask c' n y =>
  rw[hr] at q e
  obtain⟨q1,q2,q3,q4,q5,_⟩:=q
  by_cases hcc:c'=c
  ·subst hcc
   simp only[if_true]
   cases b with
   |false =>
    refine⟨by simp;omega,by simpa using q4,λth ss ht k=>?_⟩
    cases k with
    |leaf h'=>rw[e] at h';cases h'
    |no h' _ k=>rw[e] at h';cases h';exact k
    |yes h' t k=>rw[e] at h';cases h';cases ht.symm.trans t
   |true =>
    refine⟨by simp;omega,by simpa using q5,λth ss ht k=>?_⟩
    cases k with
    |leaf h'=>rw[e] at h';cases h'
    |no h' t k=>rw[e] at h';cases h';cases ht.symm.trans t
    |yes h' _ k=>rw[e] at h';cases h';exact k
  ·simp only[if_neg hcc]
   refine⟨hi,?_,λ_ _ _ k=>k⟩
   unfold K23.pl at hp ⊢
   rw[e] at hp ⊢
   simp only at hp ⊢
   rcases Nat.lt_or_eq_of_le hp with h |h
   ·exact h
   ·exfalso
    apply hcc
    have a1:=List.getElem_idxOf (List.idxOf_lt_length_iff.mpr q1)
    have a2:=List.getElem_idxOf hci
    rw[← a1,← a2]
    congr 1
    exact h.symm
theorem rG {R:List Row}{i:Nat}(hi:i<R.length)(c:Nat)(b:Bool)(S:Sto):gS [.tup (R.map au),.int i,.int c,.int (if b=true then 1 else 0)] S=okO (.int (sd R i c b:Nat)) S:=by
 have e:R[i]?=some R[i]:=List.getElem?_eq_getElem hi
 have er:=qI S e
 unfold sd
 rw[e]
 refine aA rfl ?_
 have il:cg (.tup (R.map au))=false:=rfl
 have er:ixD (.tup (R.map au)) (.int i)=some (au R[i]):=by
  unfold ixO at er;rw[il] at er;simpa using er
 generalize (D.tup (R.map au))=rr at *
 unfold ll
 cases hr:R[i] with
 |leaf ss =>
  rw[hr] at er
  have e0:ixO (au (.leaf ss)) (.int 0) S=some (.str "names"):=at0 _ _ S
  simp[er,e0,eq_str_int,il]
 |ask c' n y =>
  rw[hr] at er
  have e0:ixO (au (.ask c' n y)) (.int 0) S=some (.int c'):=at0 _ _ S
  have e1:ixO (au (.ask c' n y)) (.int 1) S=some (.int n):=at1 _ _ _ S
  have e2:ixO (au (.ask c' n y)) (.int 2) S=some (.int y):=at2 _ _ _ _ S
  have hq:=lm c' c
  by_cases hc:c'=c
  ·subst hc
   rw[decide_eq_true rfl] at hq
   cases b<;>simp[er,e0,hq,e1,e2,il]
  ·rw[decide_eq_false hc] at hq
   cases b<;>simp[er,e0,hq,hc,il]
abbrev PO (R1 R2:List Row)(P:Nat):MO:=.ins "Pairs" [("folds",.tup [.tup (R1.map au),.tup (R2.map au)]),("rows",.loc (P+1)),("made",.loc (P+5))]
theorem pq1:(("rows":Str)=="folds")=false:=by decide +kernel
theorem pq2:(("made":Str)=="folds")=false:=by decide +kernel
theorem pq3:(("made":Str)=="rows")=false:=by decide +kernel
structure PS (B:Nat->Option MO) (R1 R2:List Row) (S:Sto) (P:Nat) (o:List Nat) (G:List Row) (M:PM):Prop where
 sr:SR (λi=>if i=P+5 then some (.dictN (mdD M)) else if i=P then some (PO R1 R2 P) else B i) S (P+1) o G []
section
variable {B:Nat->Option MO}{R1 R2:List Row}{S:Sto}{P:Nat}{o:List Nat}{G:List Row}{M:PM}
theorem PS.obj (h:PS B R1 R2 S P o G M):S[P]?=some (PO R1 R2 P):=by
 rw[h.sr.fr P (.inl (by omega)),if_neg (by omega),if_pos rfl]
theorem PS.md (h:PS B R1 R2 S P o G M):S[P+5]?=some (.dictN (mdD M)):=by
 rw[h.sr.fr (P+5) (.inr (by omega)),if_pos rfl]
theorem PS.ins (h:PS B R1 R2 S P o G M):qB "Pairs" (.loc P) S=some ([("folds",.tup [.tup (R1.map au),.tup (R2.map au)]),("rows",.loc (P+1)),("made",.loc (P+5))]:List (Str×D)):=by
 unfold qB;simp only[h.obj,if_true]
theorem PS.f_folds (h:PS B R1 R2 S P o G M):gi "Pairs" "folds" (.loc P) S=some (.tup [.tup (R1.map au),.tup (R2.map au)]):=by
 unfold gi;rw[h.ins];simp[List.lookup]
theorem PS.f_rows (h:PS B R1 R2 S P o G M):gi "Pairs" "rows" (.loc P) S=some (.loc (P+1)):=by
 unfold gi;rw[h.ins];simp[List.lookup,pq1]
theorem PS.f_made (h:PS B R1 R2 S P o G M):gi "Pairs" "made" (.loc P) S=some (.loc (P+5)):=by
 unfold gi;rw[h.ins];simp[List.lookup,pq2,pq3]
theorem PS.has (h:PS B R1 R2 S P o G M)(m:Str)(hm:((m=="folds") ||(m=="rows") ||(m=="made"))=false):om "Pairs" m (.loc P) S=some .non:=by
 rw[Bool.or_eq_false_iff,Bool.or_eq_false_iff] at hm
 unfold om;rw[h.ins];simp[List.lookup,hm.1.1,hm.1.2,hm.2]
theorem zip2 (a b:D)(i j:Nat):xu [.tup [a,b],pkD i j]=some [.tup [a,.int i],.tup [b,.int j]]:=rfl
theorem rF (h:PS B R1 R2 S P o G M){i j:Nat}(hi:i<R1.length)(hj:j<R2.length)(c:Nat)(b:Bool):bV [.loc P,pkD i j,.int c,.int (if b=true then 1 else 0)] S=okO (pkD (sd R1 i c b) (sd R2 j c b)) S:=by
 have s1:=rG hi c b S
 have s2:=rG hj c b S
 have f:=h.f_folds
 generalize D.tup (R1.map au)=r1 at *
 generalize D.tup (R2.map au)=r2 at *
 generalize (if b=true then (1:Int) else 0)=bv at *
 have cq:=y6 (u:=jp 2 (aX (aJ 0) (aX (aJ 1) fw))) (fe:=bF) (d1:=.tup [r1,.int i]) (d2:=.tup [r2,.int j]) (v1:=.int (sd R1 i c b:Nat)) (v2:=.int (sd R2 j c b:Nat)) (ρ0:=eE 2 [2,3] [some (.loc P),some (pkD i j),some (.int c),some (.int bv)]) (ρ1:=[some r1,some (.int i),some (.int c),some (.int bv)]) (ρ2:=[some r2,some (.int j),some (.int c),some (.int bv)]) (S:=S) rfl (by unfold bF;simp[s1]) rfl (by unfold bF;simp[s2])
 have z:=zip2 r1 r2 i j
 refine aA rfl ?_
 unfold eB
 simp[f,z,cq,gy]
def PrOk (o:List Nat)(R1 R2:List Row)(f:List Str->List Str->List Str)(G:List Row)(p:Nat×Nat)(v:Nat):Prop:=p.1<R1.length/\p.2<R2.length/\v<G.length/\min (K23.pl o R1 p.1) (K23.pl o R2 p.2)<=K23.pl o G v/\∀ th a b,Ev R1 th p.1 a->Ev R2 th p.2 b->Ev G th v (f a b)
theorem PrOk.app {f:List Str->List Str->List Str}{p:Nat×Nat}{v:Nat}(E:List Row)(h:PrOk o R1 R2 f G p v):PrOk o R1 R2 f (G++E) p v:=by
 obtain⟨a,b,c,d,e⟩:=h
 exact⟨a,b,by rw[List.length_append];omega,by rw[cm c];exact d,λth x y hx hy=>(e th x y hx hy).mono E⟩
theorem PS.put (h:PS B R1 R2 S P o G M)(i j v:Nat)(hz:M.length<16000000)(ρ:Rho) :
  ∃ S',kt (.loc (P+5)) (pkD i j) (.int v) ρ S=okO (.next ρ) S'/\PS B R1 R2 S' P o G (og M (i,j) v)/\fF (.loc (P+5)) (pkD i j) S'=some (.int v):=by
 have kk:=qp i j
 have mp:=B8 M (i,j) v
 have it:dO (pkD i j)=true:=rfl
 have md:=h.md
 refine⟨S.set (P+5) (.dictN (mdD (og M (i,j) v))),?_,⟨⟨?_,?_,?_,?_,λk hk=>?_⟩⟩,?_⟩
 ·unfold kt
  simp only[md,kk]
  rw[if_pos ⟨by unfold mdD;rw[List.length_map];exact Nat.lt_of_lt_of_le hz (by decide),it⟩,← mp]
 ·rw[bx (by omega)];exact h.sr.obj
 ·rw[bx (by omega)];exact h.sr.gat
 ·rw[bx (by omega)];exact h.sr.num
 ·rw[bx (by omega)];exact h.sr.cho
 ·by_cases e:k=P+5
  ·subst e;rw[if_pos rfl];exact df md
  ·rw[if_neg e,bx (λq=>e q.symm),h.sr.fr k hk,if_neg e]
 ·have g:=df (b:=.dictN (mdD (og M (i,j) v))) md
  unfold fF
  simp only[g,kk,it,if_true]
  rw[← mp]
  exact o9 (by rw[mH];simp)
end
def okL (ss:List Str):Prop:=(∀ x∈ss,d9 x=true)/\adj ss=true
abbrev Dw:FT:=("names_of_both",bh,cV)::("names_in_common",aY,cD)::("names_of_one_alone",aO,bT)::[]
def NF (nf:D)(f:List Str->List Str->List Str):Prop:=∃ F,cH Dw nf=some F/\∀ a b S,okL a->okL b->a.length<=6->b.length<=6->F [.tup (a.map .str),.tup (b.map .str)] S=okO (.tup ((f a b).map .str)) S/\okL (f a b)
theorem ve {o:List Nat}{R:List Row}(w:Wr o R){i:Nat}(hi:i<R.length)(h:K23.pl o R i=o.length):∃ ss,R[i]?=some (.leaf ss)/\okL ss:=by
 have e:R[i]?=some R[i]:=List.getElem?_eq_getElem hi
 have q:=w i _ e
 cases hr:R[i] with
 |leaf ss=>rw[hr] at e q;exact⟨ss,e,q⟩
 |ask c n y =>
  rw[hr] at e q
  unfold K23.pl at h
  rw[e] at h
  have:=List.idxOf_lt_length_iff.mpr q.1
  simp only at h
  omega
section
variable {B:Nat->Option MO}{R1 R2:List Row}{P:Nat}{o:List Nat}{nf:D}{f:List Str->List Str->List Str}
def zp (B:Nat->Option MO)(R1 R2:List Row)(P:Nat)(o:List Nat)(f:List Str->List Str->List Str)(G:List Row)(M:PM)(i j N K:Nat)(out:Out D):Prop:=
 ∃ S' E M' v,out=okO (.int (v:Nat)) S'/\PS B R1 R2 S' P o (G++E) M'/\Wf o (G++E)/\(∀ p∈M',PrOk o R1 R2 f (G++E) p.1 p.2)/\PrOk o R1 R2 f (G++E) (i,j) v/\E.length<=N/\M'.length<=M.length+K
def Lf (R:List Row):Prop:=∀ (i:Nat) (ss:List Str),R[i]?=some (Row.leaf ss)->ss.length<=6
theorem yb (nd:o.Nodup)(w1:Wr o R1)(w2:Wr o R2)(lf1:Lf R1)(lf2:Lf R2)(hn:NF nf f){F:List D->Sto->Out D}{n:Nat}
  (IH:∀ {S:Sto}{G:List Row}{M:PM}{i j:Nat},PS B R1 R2 S P o G M->Wf o G->(∀ p∈M,PrOk o R1 R2 f G p.1 p.2)->i<R1.length->j<R2.length->o.length<n+min (K23.pl o R1 i) (K23.pl o R2 j)->G.length+2 ^ n<=16000000->M.length+2 ^ n<=16000000->zp B R1 R2 P o f G M i j (2 ^ n-1) (2 ^ n-1) (F [.loc P,pkD i j,nf] S))
  {S:Sto}{G:List Row}{M:PM}{i j:Nat}(h:PS B R1 R2 S P o G M) (w:Wf o G) (hM:∀ p∈M,PrOk o R1 R2 f G p.1 p.2) (hi:i<R1.length) (hj:j<R2.length) (hp:o.length<n+1+min (K23.pl o R1 i) (K23.pl o R2 j)) (hz:G.length+2 ^ (n+1)<=16000000) (hz2:M.length+2 ^ (n+1)<=16000000) :
  zp B R1 R2 P o f G M i j (2 ^ (n+1)-1) (2 ^ (n+1)-2) (dG F [.loc P,pkD i j,nf] S):=by
 have p2 : 2 ^ (n+1)=2*2 ^ n:=by rw[Nat.pow_succ];omega
 have p1 : 1<=2 ^ n:=Nat.one_le_two_pow
 have e1:R1[i]?=some R1[i]:=List.getElem?_eq_getElem hi
 have e2:R2[j]?=some R2[j]:=List.getElem?_eq_getElem hj
 have a1:=qI S e1
 have a2:=qI S e2
 have pe1:=nA e1 (w1 i _ e1) S
 have pe2:=nA e2 (w2 j _ e2) S
 have fo:=h.sr.f_order
 have fr:=h.f_rows
 have ff:=h.f_folds
 have z:=zip2 (.tup (R1.map au)) (.tup (R2.map au)) i j
 have hm1:=h.has "number_of_pair" (by decide +kernel)
 have hm2:=h.has "side_of_pair" (by decide +kernel)
 have c1:=y6 (u:=jp 2 (aX (aJ 0) (aX (aJ 1) fw))) (fe:=bZ F) (d1:=.tup [.tup (R1.map au),.int i]) (d2:=.tup [.tup (R2.map au),.int j]) (v1:=au R1[i]) (v2:=au R2[j]) (ρ0:=eE 2 [] [some (.loc P),some (pkD i j),some nf,some (oD o),none,none,none,none]) (ρ1:=[some (.tup (R1.map au)),some (.int i)]) (ρ2:=[some (.tup (R2.map au)),some (.int j)]) (S:=S) rfl (by unfold bZ;simp[a1,-List.map_map]) rfl (by unfold bZ;simp[a2,-List.map_map])
 have c2:=y6 (u:=aJ 0) (fe:=bY F) (d1:=au R1[i]) (d2:=au R2[j]) (v1:=.int (K23.pl o R1 i:Nat)) (v2:=.int (K23.pl o R2 j:Nat)) (ρ0:=eE 1 [3] [some (.loc P),some (pkD i j),some nf,some (oD o),some (.lst [au R1[i],au R2[j]]),none,none,none]) (ρ1:=[some (au R1[i]),some (oD o)]) (ρ2:=[some (au R2[j]),some (oD o)]) (S:=S) rfl (by unfold bY;simp[pe1]) rfl (by unfold bY;simp[pe2])
 have em:lY [.lst [.int (K23.pl o R1 i:Nat),.int (K23.pl o R2 j:Nat)]]=some (.int ((min (K23.pl o R1 i) (K23.pl o R2 j):Nat):Int)):=by
  simp only[lY,cP,Option.map_some,Option.bind_some,Aq,List.foldl]
  congr 2
  split<;>omega
 have lo:eQ [oD o]=some (.int o.length):=by simp[eQ]
 have hle1:=rS o R1 i
 have hle2:=rS o R2 j
 have sq:ge (.lst [au R1[i],au R2[j]])=some [au R1[i],au R2[j]]:=rfl
 by_cases hfull:min (K23.pl o R1 i) (K23.pl o R2 j)=o.length
 ·obtain⟨s1,g1,o1⟩:=ve w1 hi (by omega)
  obtain⟨s2,g2,o2⟩:=ve w2 hj (by omega)
  rw[e1] at g1
  rw[e2] at g2
  have g1:=Option.some.inj g1
  have g2:=Option.some.inj g2
  obtain⟨Fn,pk,cl⟩:=hn
  obtain⟨cl1,ok⟩:=cl s1 s2 S o1 o2 (lf1 i s1 (by rw[e1,g1])) (lf2 j s2 (by rw[e2,g2]))
  obtain⟨S',E,v,q,sr,w',hv,hE⟩:=jf h.sr w (r:=.leaf (f s1 s2)) ok (by omega)
  have hmn:=h.sr.has "number_of" (by decide +kernel)
  have b1:ixO (.lst [au R1[i],au R2[j]]) (.int 0) S=some (au R1[i]):=rfl
  have b2:ixO (.lst [au R1[i],au R2[j]]) (.int 1) S=some (au R2[j]):=rfl
  have b3:ixO (au R1[i]) (.int 1) S=some (.tup (s1.map .str)):=by rw[g1];exact at1 _ _ _ S
  have b4:ixO (au R2[j]) (.int 1) S=some (.tup (s2.map .str)):=by rw[g2];exact at1 _ _ _ S
  have eq1:=lm (min (K23.pl o R1 i) (K23.pl o R2 j)) o.length
  rw[decide_eq_true hfull] at eq1
  have q:be [.loc (P+1),.tup [.str "names",.tup ((f s1 s2).map .str)]] S=okO (.int (v:Nat)) S':=q
  refine⟨S',E,M,v,aA rfl ?_,⟨sr⟩,w',λp hp=>(hM p hp).app E,⟨hi,hj,(List.getElem?_eq_some_iff.mp hv).1,?_,λth a b ha hb=>?_⟩,by omega,by omega⟩
  ·generalize D.tup (R1.map au)=r1 at *
   generalize D.tup (R2.map au)=r2 at *
   generalize au R1[i]=x1 at *
   generalize au R2[j]=x2 at *
   generalize D.tup (s1.map .str)=y1 at *
   generalize D.tup (s2.map .str)=y2 at *
   generalize D.tup ((f s1 s2).map .str)=y3 at *
   generalize min (K23.pl o R1 i) (K23.pl o R2 j)=mn at *
   generalize K23.pl o R1 i=k1 at *
   generalize K23.pl o R2 j=k2 at *
   generalize oD o=od at *
   have ev:iU Dw (ae 2) (ac (cIx (cIx (ae 4) (aB (.int 0))) (aB (.int 1))) (ac (cIx (cIx (ae 4) (aB (.int 1))) (aB (.int 1))) ah)) [some (.loc P),some (pkD i j),some nf,some od,some (.lst [x1,x2]),some (.int mn),none,none] S=okO y3 S:=by
    unfold iU
    have v2:ae 2 [some (.loc P),some (pkD i j),some nf,some od,some (.lst [x1,x2]),some (.int mn),none,none] S=okO nf S:=rfl
    rw[v2,bJ]
    simp only[pk]
    simp[b1,b2,b3,b4,cl1]
   unfold dw
   simp -implicitDefEqProofs [fr,fo,ff,z,c1,sq,c2,em,lo,eq1,hmn,ev,q]
  ·have hpv:K23.pl o (G++E) v=o.length:=by unfold K23.pl;rw[hv]
   simp only
   omega
  ·have h1:a=s1:=Ev.det ha (.leaf (by rw[e1,g1]))
   have h2:b=s2:=Ev.det hb (.leaf (by rw[e2,g2]))
   rw[h1,h2]
   exact .leaf hv
 ·have hlt:min (K23.pl o R1 i) (K23.pl o R2 j)<o.length:=by omega
  have eq1:=lm (min (K23.pl o R1 i) (K23.pl o R2 j)) o.length
  rw[decide_eq_false hfull] at eq1
  have hco:o[min (K23.pl o R1 i) (K23.pl o R2 j)]∈o:=List.getElem_mem hlt
  have hci:o.idxOf o[min (K23.pl o R1 i) (K23.pl o R2 j)]=min (K23.pl o R1 i) (K23.pl o R2 j):=nd.idxOf_getElem _ hlt
  have eo:∀ S:Sto,ixO (oD o) (.int ((min (K23.pl o R1 i) (K23.pl o R2 j):Nat):Int)) S=some (.int (o[min (K23.pl o R1 i) (K23.pl o R2 j)]:Nat)):=λS=>by
   unfold ixO
   rw[if_neg (by simp[cg])]
   show atI (o.map λ(c:Nat)=>D.int c) _=_
   exact bS (by rw[List.getElem?_map,List.getElem?_eq_getElem hlt];rfl)
  generalize o[min (K23.pl o R1 i) (K23.pl o R2 j)]=c at *
  have hne:¬ ((min (K23.pl o R1 i) (K23.pl o R2 j):Nat):Int)=o.length:=by omega
  have sd0:=rF h hi hj c false
  obtain⟨a1',a2',a3'⟩:=mB w1 hi false hco (by omega)
  obtain⟨b1',b2',b3'⟩:=mB w2 hj false hco (by omega)
  obtain⟨S1,E1,M1,v1,q1,ps1,w1',hM1,ok1,l1,m1⟩:=IH h w hM a1' b1' (by omega) (by omega) (by omega)
  have lG1:(G++E1).length=G.length+E1.length:=List.length_append
  have sd1:=rF ps1 hi hj c true
  obtain⟨c1',c2',c3'⟩:=mB w1 hi true hco (by omega)
  obtain⟨d1',d2',d3'⟩:=mB w2 hj true hco (by omega)
  obtain⟨S2,E2,M2,v2,q2,ps2,w2',hM2,ok2,l2,m2⟩:=IH ps1 w1' hM1 c1' d1' (by omega) (by omega) (by omega)
  have lG2:(G++E1++E2).length=G.length+E1.length+E2.length:=by rw[List.length_append,lG1]
  obtain⟨_,_,x3,x4,x5⟩:=ok1
  obtain⟨_,_,y3,y4,y5⟩:=ok2
  simp only at x4 x5 y4 y5
  have px:K23.pl o (G++E1++E2) v1=K23.pl o (G++E1) v1:=cm x3
  obtain⟨S3,E3,v,q3,sr3,w3',hv,pv,l3,sem⟩:=qY ps2.sr w2' (c:=c) (a:=v1) (b:=v2) hco (by omega) y3 (by omega) (by omega) (by omega)
  have eG:G++(E1++E2++E3)=G++E1++E2++E3:=by simp
  have nm1:=ps1.has "number_of_pair" (by decide +kernel)
  have nm2:=ps1.has "side_of_pair" (by decide +kernel)
  have nr:=ps2.f_rows
  have nm3:=ps2.sr.has "number_of_ask" (by decide +kernel)
  have eo0:=eo S
  have eo1:=eo S1
  have eo2:=eo S2
  refine⟨S3,E1++E2++E3,M2,v,aA rfl ?_,by rw[eG];exact⟨sr3⟩,by rw[eG];exact w3',λp hp=>by rw[eG];exact (hM2 p hp).app E3,?_,by rw[List.length_append,List.length_append];omega,by omega⟩
  ·simp only[Bool.false_eq_true,if_false,if_true] at sd0 sd1
   clear eo hn x5 y5 a3' b3' c3' d3' sem IH hM hM1 hM2
   generalize D.tup (R1.map au)=r1 at *
   generalize D.tup (R2.map au)=r2 at *
   generalize au R1[i]=x1 at *
   generalize au R2[j]=x2 at *
   generalize min (K23.pl o R1 i) (K23.pl o R2 j)=mn at *
   generalize K23.pl o R1 i=k1 at *
   generalize K23.pl o R2 j=k2 at *
   generalize oD o=od at *
   unfold dw
   simp -implicitDefEqProofs [fr,fo,ff,z,c1,sq,c2,em,lo,hne,hm1,hm2,eo0,sd0,q1,nm1,nm2,eo1,sd1,q2,nr,nm3,eo2,q3]
  ·rw[eG]
   refine⟨hi,hj,hv,by simp only;omega,λth a b ha hb=>sem th _ ?_⟩
   unfold sel
   cases ht:th c with
   |false =>
    have:=x5 th a b (a3' th a ht ha) (b3' th b ht hb)
    exact (this.mono E2).mono E3
   |true =>
    have:=y5 th a b (c3' th a ht ha) (d3' th b ht hb)
    exact this.mono E3
end
section
variable {B:Nat->Option MO}{R1 R2:List Row}{P:Nat}{o:List Nat}{nf:D}{f:List Str->List Str->List Str}
theorem vg (nd:o.Nodup)(w1:Wr o R1)(w2:Wr o R2)(lf1:Lf R1)(lf2:Lf R2)(hn:NF nf f):∀ (n:Nat) {S:Sto}{G:List Row}{M:PM}{i j:Nat},PS B R1 R2 S P o G M->Wf o G->(∀ p∈M,PrOk o R1 R2 f G p.1 p.2)->i<R1.length->j<R2.length->o.length<n+min (K23.pl o R1 i) (K23.pl o R2 j)->G.length+2 ^ n<=16000000->M.length+2 ^ n<=16000000->zp B R1 R2 P o f G M i j (2 ^ n-1) (2 ^ n-1) (bH n [.loc P,pkD i j,nf] S)
 | 0,S,G,M,i,j,h,w,hM,hi,hj,hp,hz,hz2=>absurd hp (by have:=rS o R1 i;omega)
 |n+1,S,G,M,i,j,h,w,hM,hi,hj,hp,hz,hz2=>by
  have kk:=qp i j
  have gc:=B9 M (i,j)
  have it:dO (pkD i j)=true:=rfl
  have p1 : 1<=2 ^ n:=Nat.one_le_two_pow
  have p2 : 2 ^ (n+1)=2*2 ^ n:=by rw[Nat.pow_succ];omega
  have md:=h.md
  cases hf:M.find? (λp=>decide (p.1=(i,j))) with
  |some p =>
   rw[hf] at gc
   have hpm:=List.mem_of_find?_eq_some hf
   have hpe:p.1=(i,j):=by simpa using List.find?_some hf
   have ch:=hM p hpm
   rw[hpe] at ch
   have en:jN true (pkD i j) (.loc (P+5)) S=some (.bl false):=by
    unfold jN;simp only[md,kk,it,if_true,gc];rfl
   have eg:fF (.loc (P+5)) (pkD i j) S=some (.int (p.2:Nat)):=by
    unfold fF;simp only[md,kk,it,if_true,gc];rfl
   refine⟨S,[],M,p.2,aA rfl ?_,by rw[List.append_nil];exact h,by rw[List.append_nil];exact w,by rw[List.append_nil];exact hM,by rw[List.append_nil];exact ch,by simp,by omega⟩
   unfold cn
   simp[h.f_made,en,eg]
  |none =>
   rw[hf] at gc
   have en:jN true (pkD i j) (.loc (P+5)) S=some (.bl true):=by
    unfold jN;simp only[md,kk,it,if_true,gc];rfl
   have hm:=h.has "pair_anew" (by decide +kernel)
   obtain⟨S1,E,M1,v,q,ps1,w1',hM1,ch,lE,lM⟩:=yb nd w1 w2 lf1 lf2 hn (λ{S G M i j}=>vg nd w1 w2 lf1 lf2 hn n (S:=S) (G:=G) (M:=M) (i:=i) (j:=j)) h w hM hi hj (by omega) hz hz2
   obtain⟨S',ep,ps,eg⟩:=ps1.put i j v (by omega) [some (.loc P),some (pkD i j),some nf]
   have pl:=xR M1 (i,j) v
   refine⟨S',E,og M1 (i,j) v,v,aA rfl ?_,ps,w1',xS hM1 ch,ch,lE,by omega⟩
   unfold cn
   simp[h.f_made,en,hm,q,ps1.f_made,ep,ps.f_made,eg]
end
theorem m9 (S r:Sto)(fs:List (Str×D))(f:Str)(v:D)(ρ:Rho)(h:fs.length<1000):j_ "Pairs" f (.loc S.length) v ρ (S++MO.ins "Pairs" fs::r)=okO (.next ρ) (S++MO.ins "Pairs" (jx f v fs)::r):=by
 have e:(S++MO.ins "Pairs" fs::r)[S.length]?=some (.ins "Pairs" fs):=by simp
 unfold j_
 simp only[e]
 rw[if_pos ⟨trivial,h⟩]
 simp
theorem oX {ar:Rho->Sto->Out (List D)}{ρ:Rho}{S:Sto}{o:List Nat}(h:ar ρ S=okO [oD o] S):iT "Rows" bi ar ρ S=okO (.loc S.length) (S++[RO o S.length,.lst [],.dictN [],.dictN []]):=by
 unfold iT
 rw[h,bJ]
 simp only[rL]
 rfl
theorem pn1:¬ ("folds":Str)="rows":=by decide +kernel
theorem pn2:¬ ("folds":Str)="made":=by decide +kernel
theorem pn3:¬ ("rows":Str)="made":=by decide +kernel
theorem xU (S:Sto)(a b:D)(o:List Nat):b_ [.loc S.length,a,b,oD o] (S++[.ins "Pairs" []])=okO .non (S++[.ins "Pairs" [("folds",.tup [a,b]),("rows",.loc (S.length+1)),("made",.loc (S.length+5))],RO o (S.length+1),.lst [],.dictN [],.dictN [],.dictN []]):=by
 have s1:=λρ=>m9 S [] [] "folds" (.tup [a,b]) ρ (by decide)
 have mr:=oX (ar:=ac (ae 3) ah) (ρ:=[some (.loc S.length),some a,some b,some (oD o)]) (S:=S++[.ins "Pairs" [("folds",.tup [a,b])]]) (o:=o) rfl
 have s2:=λρ=>m9 S [RO o (S.length+1),.lst [],.dictN [],.dictN []] [("folds",.tup [a,b])] "rows" (.loc (S.length+1)) ρ (by simp)
 have s3:=λρ=>m9 S [RO o (S.length+1),.lst [],.dictN [],.dictN [],.dictN []] [("folds",.tup [a,b]),("rows",.loc (S.length+1))] "made" (.loc (S.length+5)) ρ (by simp)
 simp only[jx,pn1,pn2,pn3,if_false] at s1 s2 s3
 simp only[List.length_append,List.length_cons,List.length_nil,Nat.zero_add,List.append_assoc,List.cons_append,List.nil_append] at mr
 unfold b_ aZ
 rw[if_pos (show ([.loc S.length,a,b,oD o]:List D).length=4 from rfl)]
 have z2:szO [a,b] (.tup [a,b])=some (.tup [a,b]):=cw (by simp)
 have:dQ ([.loc S.length,a,b,oD o].map some++List.replicate 0 none) (S++[.ins "Pairs" []])=okO (.next [some (.loc S.length),some a,some b,some (oD o)]) (S++[.ins "Pairs" [("folds",.tup [a,b]),("rows",.loc (S.length+1)),("made",.loc (S.length+5))],RO o (S.length+1),.lst [],.dictN [],.dictN [],.dictN []]):=by
  unfold dQ
  simp[z2,s1,mr,s2,s3]
 rw[this];rfl
theorem BK {o:List Nat}(nd:o.Nodup)(hl:o.length<=8){R1 R2:List Row}(w1:Wr o R1)(w2:Wr o R2)(lf1:Lf R1)(lf2:Lf R2)(h1 : 0<R1.length)(h2 : 0<R2.length){nf:D}{f:List Str->List Str->List Str}(hn:NF nf f)(S:Sto) :
  ∃ t S',bK [.tup (R1.map au),.tup (R2.map au),oD o,nf] S=okO (.tup ((enc (po t [])).map au)) S'/\Ord o t/\xn t/\Wr o (enc (po t []))/\(∀ th,Ev (enc (po t [])) th ((enc (po t [])).length-1) (tev t th))/\(∀ th a b,Ev R1 th (R1.length-1) a->Ev R2 th (R2.length-1) b->tev t th=f a b)/\(po t []).length<=1023/\S'.take S.length=S:=by
 have ei:=xU S (.tup (R1.map au)) (.tup (R2.map au)) o
 have pre:∀ i,i<S.length->(S++[PO R1 R2 S.length,RO o (S.length+1),.lst [],.dictN [],.dictN [],.dictN []])[i]?=S[i]?:=λi hi=>List.getElem?_append_left hi
 have ps0:PS (λi=>(S++[PO R1 R2 S.length,RO o (S.length+1),.lst [],.dictN [],.dictN [],.dictN []])[i]?) R1 R2 (S++[PO R1 R2 S.length,RO o (S.length+1),.lst [],.dictN [],.dictN [],.dictN []]) S.length o [] []:=by
  refine⟨⟨?_,?_,?_,?_,λi hi=>?_⟩⟩
  ·rw[List.getElem?_append_right (by omega)];simp
  ·rw[List.getElem?_append_right (by omega),show S.length+1+1-S.length=2 by omega];rfl
  ·rw[List.getElem?_append_right (by omega),show S.length+1+2-S.length=3 by omega];rfl
  ·rw[List.getElem?_append_right (by omega),show S.length+1+3-S.length=4 by omega];rfl
  ·by_cases e5:i=S.length+5
   ·subst e5;rw[if_pos rfl,List.getElem?_append_right (by omega),show S.length+5-S.length=5 by omega];rfl
   ·rw[if_neg e5]
    by_cases e0:i=S.length
    ·subst e0;rw[if_pos rfl,List.getElem?_append_right (by omega)];simp
    ·rw[if_neg e0]
 generalize (S++[PO R1 R2 S.length,RO o (S.length+1),.lst [],.dictN [],.dictN [],.dictN []])=S0 at *
 have w0:Wf o ([]:List Row):=⟨List.nodup_nil,λi r h=>by simp at h⟩
 obtain⟨S1,E,M1,r,q1,ps1,w1',_,⟨_,_,v1,_,sem⟩,_,_⟩:=vg nd w1 w2 lf1 lf2 hn 9 ps0 w0 (λp hp=>by cases hp) (show R1.length-1<R1.length by omega) (show R2.length-1<R2.length by omega) (by omega) (by decide) (by decide)
 rw[List.nil_append] at ps1 w1' v1 sem
 simp only at sem
 obtain⟨X,S2,q2,c,lX,px,x2,y2,rfl⟩:=fold_eq ps1.sr w1' hl v1
 have fr:(S1++[x2,y2]).take S.length=S:=by
  have l1:S.length+1+3<S1.length:=(List.getElem?_eq_some_iff.mp ps1.sr.cho).1
  apply List.ext_getElem?
  intro i
  rw[List.getElem?_take]
  split
  ·rename_i hi
   rw[List.getElem?_append_left (by omega),ps1.sr.fr i (.inl (by omega)),if_neg (by omega),if_neg (by omega),pre i hi]
  ·rw[List.getElem?_eq_none (by omega)]
 have un:=w1'.uT v1
 have eF:FR (X++[r]) E=enc (po (K23.uT E r) []):=by rw[uP w1' c,px]
 have wr:=zt w1' c
 rw[eF] at q2 wr
 refine⟨K23.uT E r,S1++[x2,y2],aA rfl ?_,(un.ord w1').1,(un.ord w1').2,wr,λth=>?_,λth a b ha hb=>?_,?_,fr⟩
 ·have em:iT "Pairs" b_ (ac (ae 0) (ac (ae 1) (ac (ae 2) ah))) [some (.tup (R1.map au)),some (.tup (R2.map au)),some (oD o),some nf,none] S=okO (.loc S.length) S0:=by
   unfold iT
   have:ac (ae 0) (ac (ae 1) (ac (ae 2) ah)) [some (.tup (R1.map au)),some (.tup (R2.map au)),some (oD o),some nf,none] S=okO [.tup (R1.map au),.tup (R2.map au),oD o] S:=rfl
   rw[this,bJ]
   rw[ei];rfl
  have l1:eQ [.tup (R1.map au)]=some (.int R1.length):=by simp[eQ]
  have l2:eQ [.tup (R2.map au)]=some (.int R2.length):=by simp[eQ]
  have n1:(R1.length:Int)-1=((R1.length-1:Nat):Int):=by omega
  have n2:(R2.length:Int)-1=((R2.length-1:Nat):Int):=by omega
  have fr0:=ps0.f_rows
  have hm:=ps0.has "number_of_pair" (by decide +kernel)
  have hm2:=ps0.sr.has "fold_from" (by decide +kernel)
  generalize D.tup (R1.map au)=r1 at *
  generalize D.tup (R2.map au)=r2 at *
  generalize D.tup ((enc (po (K23.uT E r) [])).map au)=rt at *
  generalize oD o=od at *
  unfold iO
  simp -implicitDefEqProofs [em,fr0,hm,hm2,l1,l2,n1,n2,q1,q2]
 ·have e:=zu c (un.ev th) (by simp)
  have hr:r∉X:=by
   have:=(List.nodup_append.mp c.nd).2.2
   intro hm
   exact this r hm r (by simp) rfl
  have ix:(X++[r]).idxOf r=(FR (X++[r]) E).length-1:=by
   rw[List.idxOf_append,if_neg hr]
   simp[FR]
  rw[ix,eF] at e;exact e
 ·exact Ev.det (un.ev th) (sem th a b ha hb)
 ·rw[← px,List.length_map,List.length_append];simp;omega
theorem sJ (x:Str):∀ l:List Str,((l.map PyData.str).any λq=>PyData.eqv q (.str x))=decide (x∈l)
 |[]=>by simp
 |a::l=>by
  rw[List.map_cons,List.any_cons,sJ x l]
  by_cases h:a=x
  ·simp[PyData.eqv,h]
  ·have h':¬ x=a:=λe=>h e.symm
   simp[PyData.eqv,h,h']
theorem yF (neg:Bool)(x:Str)(l:List Str)(S:Sto):inO neg (.str x) (.tup (l.map .str)) S=some (.bl (neg != decide (x∈l))):=by
 have e:uD (.str x) (.tup (l.map .str))=some (decide (x∈l)):=by
  unfold uD
  simp only[toPy,ub,Option.bind_some,gT]
  rw[if_pos (by simp[PyData.depth]),sJ]
 unfold inO
 rw[if_neg (by simp[cg])]
 cases neg<;>simp[inD,qv,e]
theorem Dy {neg:Bool}{gt:Rho->Sto->Out Bool}{fe:Rho->Sto->Out D}(hg:gt=bf (cIn neg (ae 0) (ae 1)))(hf:fe=ae 0)(a b:List Str)(S:Sto)(y:Option D):eX (aJ 0) gt fe (a.map .str) [y,some (.tup (b.map .str))] S=some ((a.filter λx=>neg != decide (x∈b)).map .str,S):=by
 subst hg hf
 have q:=kG (u:=aJ 0) (gt:=bf (cIn neg (ae 0) (ae 1))) (fe:=ae 0) (λρ => ∃ y,ρ=[y,some (.tup (b.map .str))]) (λd=>match d with | .str x=>neg != decide (x∈b) |_=>false) id S (a.map .str) [y,some (.tup (b.map .str))] ⟨y,rfl⟩ (by
  rintro d hd ρ ⟨z,rfl⟩
  obtain⟨x,hx,rfl⟩:=List.mem_map.mp hd
  have e:=yF neg x b S
  refine⟨[some (.str x),some (.tup (b.map .str))],rfl,⟨_,rfl⟩,?_,λ_=>rfl⟩
  generalize D.tup (b.map .str)=bb at *
  show bf (cIn neg (ae 0) (ae 1)) [some (.str x),some bb] S=okO (neg != decide (x∈b)) S
  simp[e,blO])
 rw[q,List.map_id,List.filter_map]
 rfl
def fI (a b:List Str):List Str:=a.filter λx=>false != decide (x∈b)
def fL (a b:List Str):List Str:=a.filter λx=>true != decide (x∈b)
def fU (a b:List Str):List Str:=fy (a++fL b a)
theorem mV (xs:List D):gy [.lst xs]=some (.tup xs):=rfl
theorem mI {a b:List Str}(h:okL a)(s:b.Sublist a):okL b:=⟨λx hx=>h.1 x (s.subset hx),eZ ((dD h.2).sublist s)⟩
theorem sI (a:List Str):ge (.tup (a.map .str))=some (a.map .str):=rfl
theorem wL:NF (.fn "names_in_common" aY) fI:=by
 refine⟨cD,?_,λa b S ha hb _ _=>⟨aA rfl ?_,mI ha List.filter_sublist⟩⟩
 ·unfold cH
  rw[if_neg (λe=>absurd (D.fn.inj e).1 (by decide +kernel))]
  unfold cH
  exact if_pos rfl
 ·have q:=Dy (neg:=false) (gt:=eV) (fe:=eW) rfl rfl a b S none
  have c:eE 1 [1] [some (D.tup (a.map .str)),some (.tup (b.map .str))]=[none,some (.tup (b.map .str))]:=rfl
  have s:=sI a
  unfold fI
  generalize (a.filter λx=>false != decide (x∈b)).map D.str=r at *
  generalize D.tup (b.map .str)=bb at *
  generalize a.map D.str=al at *
  unfold fS
  simp[s,c,q,mV]
theorem Ai:NF (.fn "names_of_one_alone" aO) fL:=by
 refine⟨bT,?_,λa b S ha hb _ _=>⟨aA rfl ?_,mI ha List.filter_sublist⟩⟩
 ·unfold cH
  rw[if_neg (λe=>absurd (D.fn.inj e).1 (by decide +kernel))]
  unfold cH
  rw[if_neg (λe=>absurd (D.fn.inj e).1 (by decide +kernel))]
  unfold cH
  exact if_pos rfl
 ·have q:=Dy (neg:=true) (gt:=dc) (fe:=dz) rfl rfl a b S none
  have c:eE 1 [1] [some (D.tup (a.map .str)),some (.tup (b.map .str))]=[none,some (.tup (b.map .str))]:=rfl
  have s:=sI a
  unfold fL
  generalize (a.filter λx=>true != decide (x∈b)).map D.str=r at *
  generalize D.tup (b.map .str)=bb at *
  generalize a.map D.str=al at *
  unfold ej
  simp[s,c,q,mV]
theorem gG {a:List Str}(h:okL a):a.Nodup:=(dD h.2).imp λ{x y} q e=>by subst e;rw[uw] at q;cases q
theorem sO {a b:List Str}(ha:okL a)(hb:okL b):(a++fL b a).Nodup:=by
 refine List.nodup_append.mpr ⟨gG ha,(gG hb).sublist List.filter_sublist,λx hx y hy e=>?_⟩
 subst e
 have:=(List.mem_filter.mp hy).2
 simp[hx] at this
theorem A_ {a b:List Str}(ha:okL a)(hb:okL b):okL (fU a b):=by
 have pm:(fU a b).Perm (a++fL b a):=List.mergeSort_perm _ _
 have nd:=sO ha hb
 refine⟨λx hx=>?_,eZ ?_⟩
 ·rcases List.mem_append.mp (pm.mem_iff.mp hx) with h |h
  ·exact ha.1 x h
  ·exact hb.1 x (List.mem_filter.mp h).1
 ·have p1:(fU a b).Pairwise λx y=>leS x y=true:=List.pairwise_mergeSort gP jg _
  have p2:(fU a b).Pairwise λx y=>x≠y:=pm.nodup_iff.mpr nd
  exact (p1.and p2).imp λ{x y} h=>kC h.1 h.2
theorem wl (ss:List Str)(h:ss.length<=60):de (ss.map D.str)=some ((fy ss).map D.str):=by
 unfold de
 rw[if_pos (by rw[List.length_map];first |exact Nat.le_trans h (by decide) |omega),i6]
theorem oY:∀ cs:List Str,ib (cs.map D.str)=some (cs.map λc=>(Sum.inr c:Key))
 |[]=>rfl
 |c::cs=>by rw[List.map_cons,ib,oY cs];rfl
theorem sH:∀ (l ks:List Str),(l.map λc=>(Sum.inr c:Key)).foldl b7 (ks.map Sum.inr)=(l.foldl b7 ks).map Sum.inr
 |[],ks=>rfl
 |a::l,ks=>by
  rw[List.map_cons,List.foldl_cons,List.foldl_cons,← sH l (b7 ks a)]
  congr 1
  unfold b7
  by_cases h:a∈ks
  ·rw[if_pos h,if_pos (List.mem_map.mpr ⟨a,h,rfl⟩)]
  ·rw[if_neg h,if_neg (λq=>by obtain⟨x,hx,e⟩:=List.mem_map.mp q;cases e;exact h hx),List.map_append];rfl
theorem pZ {l r:List Str}(hl:l.length<=60)(nd:r.Nodup)(hm:∀ x,x∈l↔x∈r):gz (.tup (l.map .str))=some (.lst ((fy r).map .str)):=by
 unfold gz
 simp only
 rw[if_pos (by rw[List.length_map];omega),oY,Option.bind_some]
 have e:=sH l []
 rw[List.map_nil] at e
 rw[e,List.map_map]
 have e2:(l.foldl b7 []).map (bkD ∘ Sum.inr)=(l.foldl b7 []).map D.str:=rfl
 rw[e2]
 have n1:=nM l [] List.nodup_nil
 have pm:(l.foldl b7 []).Perm r:=(List.perm_ext_iff_of_nodup n1 nd).mpr λx=>by rw[o7,hm];simp
 have ln:(l.foldl b7 []).length<=60:=by
  have:∀ (l ks:List Str),(l.foldl b7 ks).length<=ks.length+l.length:=by
   intro l
   induction l with
   |nil=>intro ks;simp
   |cons a l ih =>
    intro ks
    rw[List.foldl_cons]
    have:=ih (b7 ks a)
    have h2:(b7 ks a).length<=ks.length+1:=by
     unfold b7;split
     ·omega
     ·rw[List.length_append];simp
    rw[List.length_cons];omega
  have:=this l []
  rw[List.length_nil] at this;omega
 rw[wl _ ln,Option.map_some]
 have:fy (l.foldl b7 [])=fy r:=eY ((List.mergeSort_perm _ _).trans pm) (List.pairwise_mergeSort gP jg _)
 rw[this]
theorem zn {a b:List Str}(h:a.length+b.length<=1000):bX (.tup (a.map .str)) (.tup (b.map .str))=some (.tup ((a++b).map .str)):=by
 rw[lI,if_pos (by rw[List.length_map,List.length_map];exact Nat.le_trans h (by decide)),List.map_append]
theorem Aj:NF (.fn "names_of_both" bh) fU:=by
 refine⟨cV,by unfold cH;exact if_pos rfl,λa b S ha hb la lb=>⟨aA rfl ?_,A_ ha hb⟩⟩
 have ad:=zn (a:=a) (b:=b) (by omega)
 have q:=pZ (l:=a++b) (r:=a++fL b a) (by rw[List.length_append];omega) (sO ha hb) λx=>by
  unfold fL
  rw[List.mem_append,List.mem_append,List.mem_filter]
  by_cases h:x∈a<;>simp[h]
 unfold fU
 generalize D.tup (a.map .str)=x1 at *
 generalize D.tup (b.map .str)=x2 at *
 generalize D.tup ((a++b).map .str)=x3 at *
 generalize (fy (a++fL b a)).map D.str=x4 at *
 unfold ic
 simp[ad,q,mV]
theorem yZ {α:Type}(xs:List α)(p:Nat):gj xs none (some (p:Int))=xs.take p:=by
 unfold gj
 rw[HT.sIx_none,HT.sIx_nat,List.drop_zero,Nat.sub_zero]
 rcases Nat.le_total p xs.length with h |h
 ·rw[Nat.min_eq_left h]
 ·rw[Nat.min_eq_right h,List.take_of_length_le (Nat.le_refl _),List.take_of_length_le h]
theorem y0 {α:Type}(xs:List α)(q:Nat):gj xs (some (q:Int)) none=xs.drop q:=by
 unfold gj
 rw[HT.sIx_nat,HT.sIx_none]
 rcases Nat.le_total q xs.length with h |h
 ·rw[Nat.min_eq_left h,List.take_of_length_le (by rw[List.length_drop];exact Nat.le_refl _)]
 ·rw[Nat.min_eq_right h,List.drop_length,List.drop_of_length_le h,List.take_nil]
abbrev nD (l:List Nat):List D:=l.map λ(k:Nat)=>D.int k
theorem yz (a b:List D)(h:a.length+b.length<=1000):bX (.lst a) (.lst b)=some (.lst (a++b)):=by
 rw[pK,if_pos (Nat.le_trans h (by decide))]
theorem uo (num:Int)(m:D)(k:Nat)(hk:k<=20)(l:List Nat)(hl:l.length=k)(z:Option D)(S:Sto):∃ a:Nat,a<=k/\fZ [some (.int num),some m,some (.lst (nD l)),some (.int k),z] S=okO (.next [some (.int num),some m,some (.lst (nD (l.take a++[k]++l.drop a))),some (.int k),some (.int a)]) S:=by
 have e0:=iQ num k S
 have el:eQ [.lst (nD l)]=some (.int (k:Nat)):=by simp[eQ,hl]
 have em:cb (.int (drw num k)) (.int ((k:Int)+1))=some (.int (drw num k % ((k:Int)+1))):=bo (by omega)
 have bm:=jO (drw num k) (show (0:Int)<(k:Int)+1 by omega)
 obtain⟨a,ha⟩:∃ a:Nat,drw num k % ((k:Int)+1)=a:=⟨(drw num k % ((k:Int)+1)).toNat,by omega⟩
 rw[ha] at em bm
 have c1:slD (.lst (nD l)) none (some (a:Int))=some (.lst (nD (l.take a))):=by
  show some (D.lst (gj (nD l) none (some (a:Int))))=_
  rw[yZ];unfold nD;rw[List.map_take]
 have c2:slD (.lst (nD l)) (some (a:Int)) none=some (.lst (nD (l.drop a))):=by
  show some (D.lst (gj (nD l) (some (a:Int)) none))=_
  rw[y0];unfold nD;rw[List.map_drop]
 have t1:(nD (l.take a)).length<=20:=by rw[List.length_map,List.length_take];omega
 have t2:(nD (l.drop a)).length<=20:=by rw[List.length_map,List.length_drop];omega
 have a1:=yz (nD (l.take a)) [.int k] (by simp at t1 ⊢;omega)
 have a2:=yz (nD (l.take a)++[.int k]) (nD (l.drop a)) (by rw[List.length_append];simp at t1 t2 ⊢;omega)
 have z1:szO [.int k] (.lst [.int k])=some (.lst [.int k]):=cw (by simp)
 have er:nD (l.take a++[k]++l.drop a)=nD (l.take a)++[.int k]++nD (l.drop a):=by simp
 refine⟨a,by omega,?_⟩
 rw[er]
 unfold fZ
 simp[e0,el,em,c1,c2,z1,a1,a2,wY,-List.map_map,-List.map_append,-List.map_take,-List.map_drop,-List.append_assoc]
theorem wH (num:Int){m:Nat}(hm:m<=10)(S:Sto):∃ o:List Nat,lL [.int num,.int m] S=okO (oD o) S/\o.Perm (List.range m):=by
 have e1:gE [.int m]=some ((List.range m).map λ(k:Nat)=>D.int k):=by
  have:=xP m (by omega) (by omega);simpa using this
 obtain⟨ρ',S',el,hI⟩:=fG (u:=aJ 3) (body:=fZ) (λi ρ S1=>S1=S/\i<=m/\∃ (l:List Nat) (a b:Option D),l.Perm (List.range i)/\ρ=[some (.int num),some (.int m),some (.lst (nD l)),a,b])
  ((List.range m).map λ(k:Nat)=>D.int k) 0 [some (.int num),some (.int m),some (.lst []),none,none] S ⟨rfl,by omega,[],none,none,.refl _,rfl⟩ (by
   rintro j dd ρ S1 hj ⟨rfl,hi,l,a,b,hp,rfl⟩
   obtain⟨rfl,hlt⟩:=k9 hj
   simp only[Nat.zero_add] at hp hi ⊢
   have hl:l.length=j:=by rw[hp.length_eq,List.length_range]
   obtain⟨q,hq,eb⟩:=uo num (.int m) j (by omega) l hl b S1
   refine⟨_,rfl,_,_,eb,rfl,by omega,_,_,_,?_,rfl⟩
   rw[List.range_succ]
   have p1:(l.take q++[j]++l.drop q).Perm (j::l):=by
    have:=List.perm_middle (a:=j) (l₁:=l.take q) (l₂:=l.drop q)
    rw[List.take_append_drop] at this
    rw[List.append_assoc];exact this
   exact p1.trans ((List.Perm.cons j hp).trans (List.perm_append_singleton j (List.range j)).symm))
 simp only[Nat.zero_add,List.length_map,List.length_range] at hI
 obtain⟨rfl,_,l,a,b,hp,rfl⟩:=hI
 refine⟨l,aA rfl ?_,hp⟩
 have z0:szO [] (.lst [])=some (.lst []):=cw (by simp)
 unfold pe
 simp[z0,e1,el,gy]
inductive KW (W:List Str):D->Prop
 |leaf {ss:List Str}:(∀ x∈ss,x∈W)->KW W (au (.leaf ss))
 |ask {c:Nat}{x y:D}:KW W x->KW W y->KW W (.tup [.str "ask",.int c,x,y])
theorem Dp {W:List Str}{d:D}(h:KW W d):∀ {th:Th}{ss:List Str},Kv th d ss->∀ x∈ss,x∈W:=by
 induction h with
 | @leaf ss0 h=>intro th ss kv;rw[vo kv];exact h
 | @ask c x y _ _ ix iy =>
  intro th ss kv
  cases kv with
  |no _ kv=>exact ix kv
  |yes _ kv=>exact iy kv
theorem qF (ss:List Str)(hl:ss.length<=6)(hw:∀ x∈ss,d9 x=true)(hp:ss.Pairwise λa b=>ltS a b=true)(m:Nat)(h1 : 1<=m)(hm:m<=10)(S:Sto):∀ (fuel deep:Nat) (num:Int),deep<fuel->0<=num->∃ d,jn fuel [.int num,.tup (ss.map .str),.int m,.int deep] S=okO d S/\KQ m deep d/\KW ss d
 | 0,deep,num,h,_=>absurd h (by omega)
 |fuel+1,deep,num,h,h0=>by
  have m7:cb (.int num) (.int 7)=some (.int (num % 7)):=bo (by decide)
  have d7:eD (.int num) (.int 7)=some (.int (num / 7)):=fq (by decide) (by decide)
  have mm:cb (.int (num / 7)) (.int m)=some (.int (num / 7 % m)):=bo (by omega)
  have bm:=jO (num / 7) (show (0:Int)<m by omega)
  obtain⟨sn,en,hsub⟩:=r9 (num / 7) (ss:=ss) (by omega) S
  have leaf:(deep=0∨num % 7=0)->∃ d,jn (fuel+1) [.int num,.tup (ss.map .str),.int m,.int deep] S=okO d S/\KQ m deep d/\KW ss d:=λhc=>by
   refine⟨.tup [.str "names",.tup (sn.map .str)],aA rfl ?_,.leaf (λx hx=>hw x (hsub.subset hx)) (eZ (hp.sublist hsub)) (Nat.le_trans hsub.length_le hl),.leaf (λx hx=>hsub.subset hx)⟩
   unfold qH
   by_cases hd0:deep=0
   ·subst hd0
    simp[d7,en]
   ·have h7:num % 7=0:=hc.resolve_left hd0
    simp[hd0,m7,h7,d7,en]
  by_cases hd0:deep=0
  ·exact leaf (.inl hd0)
  ·by_cases h7:num % 7=0
   ·exact leaf (.inr h7)
   ·have e1:=iQ num 1 S
    have e2:=iQ num 2 S
    obtain⟨dp,rfl⟩:∃ dp,deep=dp+1:=⟨deep-1,by omega⟩
    obtain⟨x,ex,kx,wx⟩:=qF ss hl hw hp m h1 hm S fuel dp (drw num 1) (by omega) (jS _ _)
    obtain⟨y,ey,ky,wy⟩:=qF ss hl hw hp m h1 hm S fuel dp (drw num 2) (by omega) (jS _ _)
    have hne:¬ ((dp:Int)+1=0):=by omega
    obtain⟨c,hc⟩:∃ c:Nat,num / 7 % m=c:=⟨(num / 7 % m).toNat,by omega⟩
    rw[hc] at mm bm
    refine⟨.tup [.str "ask",.int c,x,y],aA rfl ?_,.ask (by omega) kx ky,.ask wx wy⟩
    unfold qH
    simp[hne,m7,h7,e1,e2,ex,ey,d7,mm,rD]
theorem KQ.mono {m k:Nat}{d:D}(h:KQ m k d):∀ j,k<=j->KQ m j d:=by
 induction h with
 |leaf h1 h2 h3=>exact λj _ => .leaf h1 h2 h3
 |ask h0 _ _ ix iy =>
  intro j hj
  obtain⟨j,rfl⟩:∃ i,j=i+1:=⟨j-1,by omega⟩
  exact .ask h0 (ix j (by omega)) (iy j (by omega))
theorem Ar (ns:List Int)(b:Nat)(hb : 1<=b)(hb2:b<=10)(S:Sto):∃ (m:Nat) (ss:List Str) (kvs:List (D×D)) (d:D) (o:List Nat),1<=m/\m<=b/\ss.length<=6/\(∀ x∈ss,d9 x=true)/\(ss.Pairwise λa b=>ltS a b=true)/\KQ m 5 d/\KW ss d/\o.Perm (List.range m) /\
  kL [.lst (ns.map .int),.int b] S=okO (.tup [.int m,.tup (ss.map .str),d,oD o]) (S++[.dict kvs]):=by
 have x0:∀ S,aQ [.lst (ns.map .int),.int 0] S=okO (.int (mix ns 0)) S:=d_ ns 0
 have x1:∀ S,aQ [.lst (ns.map .int),.int 1] S=okO (.int (mix ns 1)) S:=d_ ns 1
 have x2:∀ S,aQ [.lst (ns.map .int),.int 2] S=okO (.int (mix ns 2)) S:=d_ ns 2
 have x3:∀ S,aQ [.lst (ns.map .int),.int 3] S=okO (.int (mix ns 3)) S:=d_ ns 3
 have x4:∀ S,aQ [.lst (ns.map .int),.int 4] S=okO (.int (mix ns 4)) S:=d_ ns 4
 have bm:=jO (mix ns 0) (show (0:Int)<b by omega)
 have mb:cb (.int (mix ns 0)) (.int b)=some (.int (mix ns 0 % b)):=bo (by omega)
 obtain⟨m,hm⟩:∃ m:Nat,1+mix ns 0 % b=m:=⟨(1+mix ns 0 % b).toNat,by omega⟩
 obtain⟨ss,kvs,ew,hl6,hw,hpw⟩:=wb (mix ns 1) S
 have a5:cb (.int (mix ns 3)) (.int 5)=some (.int (mix ns 3 % 5)):=bo (by decide)
 have b5:=jO (mix ns 3) (show (0:Int)<5 by decide)
 obtain⟨dp,hdp⟩:∃ dp:Nat,1+mix ns 3 % 5=dp:=⟨(1+mix ns 3 % 5).toNat,by omega⟩
 obtain⟨d,ed,kq,kw⟩:=qF ss hl6 hw hpw m (by omega) (by omega) (S++[.dict kvs]) 8 dp (mix ns 2) (by omega) (nF _ _)
 obtain⟨o,eo,po⟩:=wH (mix ns 4) (m:=m) (by omega) (S++[.dict kvs])
 have z4:szO [.int m,.tup (ss.map .str),d,oD o] (.tup [.int m,.tup (ss.map .str),d,oD o])=some (.tup [.int m,.tup (ss.map .str),d,oD o]):=cw (by simp)
 refine⟨m,ss,kvs,d,o,by omega,by omega,hl6,hw,hpw,kq.mono 5 (by omega),kw,po,aA rfl ?_⟩
 unfold sK
 simp[x0,x1,x2,x3,x4,mb,hm,ew,a5,hdp,ed,eo,z4,-List.map_map]
abbrev rsD (R:List Row):D:=.tup (R.map au)
abbrev aI (t:Tr):D:=rsD (enc (po t []))
theorem BG (r:Row):toPy (au r)=some (eP r):=by
 cases r with
 |leaf ss=>simp[au,eP,toPy,da,gT]
 |ask c n y=>simp[au,eP,toPy,da]
theorem wo (r:Row):(eP r).depth<=2:=by
 cases r with
 |leaf ss=>simp[eP,PyData.depth,PyData.depthAll,nR]
 |ask c n y=>simp[eP,PyData.depth,PyData.depthAll]
theorem ki:∀ R:List Row,da (R.map au)=some (R.map eP)
 |[]=>rfl
 |r::R=>by rw[List.map_cons,da,BG,ki R];rfl
theorem jK:∀ R:List Row,PyData.depthAll (R.map eP)<=2
 |[]=>by simp[PyData.depthAll]
 |r::R=>by
  have h1:=wo r
  have h2:=jK R
  rw[List.map_cons,PyData.depthAll];omega
theorem ny:∀ R Q:List Row,PyData.eqvAll (R.map eP) (Q.map eP)=decide (R=Q)
 |[],[]=>rfl
 |[],q::Q=>by simp[PyData.eqvAll]
 |r::R,[]=>by simp[PyData.eqvAll]
 |r::R,q::Q=>by
  rw[List.map_cons,List.map_cons,PyData.eqvAll,ny R Q,u9]
  by_cases h:r=q<;>by_cases h2:R=Q<;>simp[h,h2]
theorem Az (R Q:List Row):neD (rsD R) (rsD Q)=some (.bl (!decide (R=Q))):=by
 have hd:=jK R
 have e1:toPy (rsD R)=some (.tuple (R.map eP)):=by rw[toPy,ki];rfl
 have e2:toPy (rsD Q)=some (.tuple (Q.map eP)):=by rw[toPy,ki];rfl
 unfold neD
 rw[e1,e2]
 simp only[PyData.eqv,ny]
 rw[if_pos (by simp only[PyData.depth];omega)]
theorem yP (R Q:List Row):eqD (rsD R) (rsD Q)=some (.bl (decide (R=Q))):=by
 have hd:=jK R
 have e1:toPy (rsD R)=some (.tuple (R.map eP)):=by rw[toPy,ki];rfl
 have e2:toPy (rsD Q)=some (.tuple (Q.map eP)):=by rw[toPy,ki];rfl
 unfold eqD
 rw[e1,e2]
 simp only[PyData.eqv,ny]
 rw[if_pos (by simp only[PyData.depth];omega)]
theorem i4 {o:List Nat}{a b:Th}:∀ {t:Tr},Ord o t->(∀ c,tp o t<=o.idxOf c->a c=b c)->tev t a=tev t b
 | .leaf _,_,_=>rfl
 | .node c n y,h,q=>by
  obtain⟨_,h2,h3,h4,h5,_⟩:=h
  have e:a c=b c:=q c (Nat.le_refl _)
  have q:∀ x,o.idxOf c<=o.idxOf x->a x=b x:=q
  rw[tev,tev,e,i4 h2 λx hx=>q x (by omega),i4 h3 λx hx=>q x (by omega)]
theorem Av {o:List Nat}{s t:Tr}(h:Sub s t):∀ {ss:List Str},s = .leaf ss->Ord o t->∃ th,tev t th=ss:=by
 induction h with
 |refl=>intro ss e _;subst e;exact⟨λ_=>false,rfl⟩
 | @no c n y _ ih =>
  intro ss e ot
  obtain⟨_,h2,_,h4,_,_⟩:=ot
  obtain⟨th,q⟩:=ih e h2
  refine⟨λx=>if x=c then false else th x,?_⟩
  rw[tev,if_neg (by simp),← q]
  refine i4 h2 λx hx=>if_neg λe=>?_
  subst e;omega
 | @yes c n y _ ih =>
  intro ss e ot
  obtain⟨_,_,h3,_,h5,_⟩:=ot
  obtain⟨th,q⟩:=ih e h3
  refine⟨λx=>if x=c then true else th x,?_⟩
  rw[tev,if_pos (by simp),← q]
  refine i4 h3 λx hx=>if_neg λe=>?_
  subst e;omega
theorem yV {t:Tr}{i:Nat}{ss:List Str}(h:(enc (po t []))[i]?=some (.leaf ss)):Sub (.leaf ss) t:=by
 unfold enc at h
 rw[List.getElem?_map] at h
 obtain⟨s,hs,e⟩:=Option.map_eq_some_iff.mp h
 cases s with
 |leaf s2 =>
  simp only[Cq,Row.leaf.injEq] at e
  subst e
  exact (ql t [] _ (List.mem_of_getElem? hs)).elim (λq=>by cases q) id
 |node c n y=>simp[Cq] at e
theorem qL (t:Tr) : 0<(enc (po t [])).length:=by
 unfold enc
 rw[List.length_map]
 exact List.length_pos_of_mem (zW t [])
abbrev Sh:=List (Option Bool)
def shV:Option Bool->D
 |none => .non
 |some b => .int (if b=true then 1 else 0)
abbrev shD (sh:Sh):D:=.tup (sh.map shV)
def ov (sh:Sh)(th:Th):Th:=λc=>match sh[c]? with
 |some (some b)=>b
 |_=>th c
abbrev nsD (ns:List Nat):List D:=ns.map λ(k:Nat)=>D.int k
def KnOk (o:List Nat)(R G:List Row)(sh:Sh)(i v:Nat):Prop:=v<G.length/\K23.pl o R i<=K23.pl o G v/\∀ th ss,Ev R (ov sh th) i ss->Ev G th v ss
section
variable {B:Nat->Option MO}{o:List Nat}{R G:List Row}{sh:Sh}{S:Sto}{L Q:Nat}{C:List (Row×Nat)}{ns:List Nat}
theorem KnOk.app {i v:Nat}(E:List Row)(h:KnOk o R G sh i v):KnOk o R (G++E) sh i v:=
 ⟨by rw[List.length_append];have:=h.1;omega,by rw[cm h.1];exact h.2.1,λth ss e=>(h.2.2 th ss e).mono E⟩
theorem A6 (hQ:S[Q]?=some (.lst (nsD ns))){i v:Nat}(h:ns[i]?=some v):oj (.loc Q) (.int i) S=some (.int v):=by
 show ((dH (.loc Q) S).bind λxs=>atI xs (i:Int))=_
 have:dH (.loc Q) S=some (nsD ns):=by unfold dH;simp only[hQ]
 rw[this,Option.bind_some]
 exact bS (by rw[List.getElem?_map,h];rfl)
theorem C4 {c:Nat}{x:Option Bool}(h:sh[c]?=some x)(S:Sto):ixO (shD sh) (.int c) S=some (shV x):=by
 unfold ixO
 rw[if_neg (by simp[cg])]
 exact bS (by rw[List.getElem?_map,h];rfl)
theorem wK (w1:Wr o R)(hm:∀ c∈o,c<sh.length)(h:SR B S L o G C)(w:Wf o G)(hQ:B Q=some (.lst (nsD ns)))(hQL:Q<L∨L+3<Q)(hn:∀ i v,ns[i]?=some v->KnOk o R G sh i v){r:Row}(hr:R[ns.length]?=some r)(hz:G.length<16000000) :
  ∃ S' E v,fN [.loc L,au r,.loc Q,shD sh] S=okO (.int (v:Nat)) S'/\SR B S' L o (G++E) C/\Wf o (G++E)/\KnOk o R (G++E) sh ns.length v/\E.length<=1:=by
 have ri:=w1 _ _ hr
 have ea:=mN r S
 cases r with
 |leaf ss =>
  obtain⟨S',E,v,q,sr,w',hv,lE⟩:=jf h w (r:=.leaf ss) ri hz
  have hk:=h.has "number_of" (by decide +kernel)
  refine⟨S',E,v,aA rfl ?_,sr,w',⟨(List.getElem?_eq_some_iff.mp hv).1,?_,λth s2 e=>?_⟩,lE⟩
  ·unfold cJ
   simp[ea,hk,q]
  ·have:K23.pl o (G++E) v=o.length:=by unfold K23.pl;rw[hv]
   rw[this];exact rS o R _
  ·rw[Ev.det e (.leaf hr)];exact .leaf hv
 |ask c n y =>
  obtain⟨a1,a2,a3,a4,a5,_⟩:=ri
  have hpl:K23.pl o R ns.length=o.idxOf c:=by unfold K23.pl;rw[hr]
  have en:ns[n]?=some ns[n]:=List.getElem?_eq_getElem a2
  have ey:ns[y]?=some ns[y]:=List.getElem?_eq_getElem a3
  obtain⟨n1,n2,n3⟩:=hn _ _ en
  obtain⟨y1,y2,y3⟩:=hn _ _ ey
  have hS:S[Q]?=some (.lst (nsD ns)):=by rw[h.fr Q hQL,hQ]
  have ln:=A6 hS en
  have ly:=A6 hS ey
  generalize ns[n]=a at *
  generalize ns[y]=b at *
  have hc:=hm c a1
  have es:sh[c]?=some sh[c]:=List.getElem?_eq_getElem hc
  have se:=C4 es S
  have e0:ixO (au (.ask c n y)) (.int 0) S=some (.int c):=at0 _ _ S
  have e1:ixO (au (.ask c n y)) (.int 1) S=some (.int n):=at1 _ _ _ S
  have e2:ixO (au (.ask c n y)) (.int 2) S=some (.int y):=at2 _ _ _ _ S
  have eo:∀ th:Th,ov sh th c=sh[c].getD (th c):=λth=>by
   unfold ov;rw[es];cases sh[c]<;>rfl
  cases hv:sh[c] with
  |none =>
   rw[hv] at se
   obtain⟨S',E,v,q,sr,w',hi,pv,lE,sem⟩:=qY h w a1 n1 y1 (by omega) (by omega) hz
   have hk:=h.has "number_of_ask" (by decide +kernel)
   refine⟨S',E,v,aA rfl ?_,sr,w',⟨hi,by omega,λth s2 e=>sem th s2 ?_⟩,lE⟩
   ·unfold cJ
    have i1:isD .non .non=some (.bl true):=rfl
    simp[ea,e0,se,shV,i1,hk,e1,e2,ln,ly,q]
   ·unfold sel
    have ec:=eo th
    rw[hv] at ec
    have ec:ov sh th c=th c:=ec
    cases e with
    |leaf h'=>rw[hr] at h';cases h'
    |no h' t k=>rw[hr] at h';cases h';rw[ec] at t;rw[t];exact (n3 _ _ k).mono E
    |yes h' t k=>rw[hr] at h';cases h';rw[ec] at t;rw[t];exact (y3 _ _ k).mono E
  |some bv =>
   rw[hv] at se
   have ec:∀ th,ov sh th c=bv:=λth=>by rw[eo,hv];rfl
   cases bv with
   |false =>
    have ok:KnOk o R G sh ns.length a:=by
     refine⟨n1,by omega,λth s2 e=>?_⟩
     cases e with
     |leaf h'=>rw[hr] at h';cases h'
     |no h' t k=>rw[hr] at h';cases h';exact n3 _ _ k
     |yes h' t k=>rw[hr] at h';cases h';rw[ec] at t;cases t
    refine⟨S,[],a,aA rfl ?_,by rw[List.append_nil];exact h,by rw[List.append_nil];exact w,by rw[List.append_nil];exact ok,by simp⟩
    unfold cJ
    have i1:isD (.int 0) .non=some (.bl false):=rfl
    simp[ea,e0,se,shV,i1,e1,ln]
   |true =>
    have ok:KnOk o R G sh ns.length b:=by
     refine⟨y1,by omega,λth s2 e=>?_⟩
     cases e with
     |leaf h'=>rw[hr] at h';cases h'
     |no h' t k=>rw[hr] at h';cases h';rw[ec] at t;cases t
     |yes h' t k=>rw[hr] at h';cases h';exact y3 _ _ k
    refine⟨S,[],b,aA rfl ?_,by rw[List.append_nil];exact h,by rw[List.append_nil];exact w,by rw[List.append_nil];exact ok,by simp⟩
    unfold cJ
    have i1:isD (.int 1) .non=some (.bl false):=rfl
    simp[ea,e0,se,shV,i1,e2,ly]
end
theorem Ag {S:Sto}{Q:Nat}{ns:List Nat}(hQ:S[Q]?=some (.lst (nsD ns))){v:Nat}(h:ns[ns.length-1]?=some v):oj (.loc Q) (.int (-1)) S=some (.int v):=by
 have hl:ns.length-1<ns.length:=(List.getElem?_eq_some_iff.mp h).1
 show ((dH (.loc Q) S).bind λxs=>atI xs (-1:Int))=_
 have:dH (.loc Q) S=some (nsD ns):=by unfold dH;simp only[hQ]
 rw[this,Option.bind_some]
 have e:ixN (nsD ns).length (-1)=some (ns.length-1):=by
  unfold ixN
  rw[List.length_map,if_neg (by decide),if_pos (by omega)]
  congr 1
  omega
 unfold atI
 rw[e,Option.bind_some,List.getElem?_map,h];rfl
theorem yg (ns:List Nat)(v:Nat):nsD (ns++[v])=nsD ns++[.int v]:=by unfold nsD;rw[List.map_append];rfl
theorem yC {o:List Nat}(hl:o.length<=8){R:List Row}(w1:Wr o R)(h1 : 0<R.length)(hR:R.length<16000000){sh:Sh}(hm:∀ c∈o,c<sh.length)(S:Sto) :
  ∃ t S',bw [.tup (R.map au),shD sh,oD o] S=okO (.tup ((enc (po t [])).map au)) S'/\Ord o t/\xn t/\Wr o (enc (po t []))/\(∀ th,Ev (enc (po t [])) th ((enc (po t [])).length-1) (tev t th))/\(∀ th a,Ev R (ov sh th) (R.length-1) a->tev t th=a)/\(po t []).length<=1023:=by
 have mr:=oX (ar:=ac (ae 2) ah) (ρ:=[some (.tup (R.map au)),some (shD sh),some (oD o),none,none,none]) (S:=S) (o:=o) rfl
 generalize hP:S.length=P at *
 have lS0:(S++[RO o P,.lst [],.dictN [],.dictN []]).length=P+4:=by simp[hP]
 have sr0:SR (λi=>if i=P+4 then some (.lst (nsD [])) else (S++[RO o P,.lst [],.dictN [],.dictN []]++[.lst []])[i]?) (S++[RO o P,.lst [],.dictN [],.dictN []]++[.lst []]) P o [] []:=by
  refine⟨?_,?_,?_,?_,λi _=>?_⟩
  ·rw[List.append_assoc,List.getElem?_append_right (by omega)];simp[hP]
  ·rw[List.append_assoc,List.getElem?_append_right (by omega),show P+1-S.length=1 by omega];rfl
  ·rw[List.append_assoc,List.getElem?_append_right (by omega),show P+2-S.length=2 by omega];rfl
  ·rw[List.append_assoc,List.getElem?_append_right (by omega),show P+3-S.length=3 by omega];rfl
  ·by_cases e:i=P+4
   ·subst e;rw[if_pos rfl,List.append_assoc,List.getElem?_append_right (by omega),show P+4-S.length=4 by omega];rfl
   ·rw[if_neg e]
 generalize hS1:(S++[RO o P,.lst [],.dictN [],.dictN []]++[.lst []])=S1 at *
 have en:tf [some (.tup (R.map au)),some (shD sh),some (oD o),some (.loc P),none,none] (S++[RO o P,.lst [],.dictN [],.dictN []])=okO (.loc (P+4)) S1:=by
  rw[yW,lS0,hS1]
 generalize (S++[RO o P,.lst [],.dictN [],.dictN []])=S0 at *
 have w0:Wf o ([]:List Row):=⟨List.nodup_nil,λi r h=>by simp at h⟩
 obtain⟨ρ',S2,el,hI⟩:=fG (u:=aJ 5) (body:=lH)
  (λi ρ S' => ∃ (G:List Row) (ns:List Nat) (b:Option D),ρ=[some (.tup (R.map au)),some (shD sh),some (oD o),some (.loc P),some (.loc (P+4)),b]/\SR (λi=>if i=P+4 then some (.lst (nsD ns)) else S1[i]?) S' P o G []/\Wf o G/\ns.length=i/\G.length<=i/\∀ j v,ns[j]?=some v->KnOk o R G sh j v)
  (R.map au) 0 [some (.tup (R.map au)),some (shD sh),some (oD o),some (.loc P),some (.loc (P+4)),none] S1
  ⟨[],[],none,rfl,sr0,w0,rfl,Nat.le_refl _,λj v h=>by simp at h⟩ (by
   rintro j d ρ S' hd ⟨G,ns,b,rfl,sr,w,hns,hG,hn⟩
   rw[List.getElem?_map] at hd
   obtain⟨r,hr,rfl⟩:=Option.map_eq_some_iff.mp hd
   rw[Nat.zero_add] at hns hG
   have hj:j<R.length:=(List.getElem?_eq_some_iff.mp hr).1
   obtain⟨S3,E,v,q,sr3,w3,ok,lE⟩:=wK w1 hm sr w (Q:=P+4) (ns:=ns) (if_pos rfl) (.inr (by omega)) hn (by rw[hns];exact hr) (by omega)
   have hQ:S3[P+4]?=some (.lst (nsD ns)):=by rw[sr3.fr (P+4) (.inr (by omega)),if_pos rfl]
   have hQ0:S'[P+4]?=some (.lst (nsD ns)):=by rw[sr.fr (P+4) (.inr (by omega)),if_pos rfl]
   have hl0:dH (.loc (P+4)) S'=some (nsD ns):=by unfold dH;simp only[hQ0]
   have ap:qZ (.loc (P+4)) (.int v) S3=okO .non (S3.set (P+4) (.lst (nsD (ns++[v])))):=by
    unfold qZ
    simp only[hQ]
    rw[if_pos (by rw[List.length_map,hns];exact Nat.lt_of_lt_of_le (show j<16000000 by omega) (by decide)),yg]
   refine⟨_,rfl,_,S3.set (P+4) (.lst (nsD (ns++[v]))),?_,G++E,ns++[v],some (au r),rfl,⟨?_,?_,?_,?_,λi hi=>?_⟩,w3,by rw[List.length_append,hns];simp,by rw[List.length_append];omega,λi u hu=>?_⟩
   ·unfold lH
    clear hn ok
    generalize D.tup (R.map au)=x1 at *
    generalize shD sh=x2 at *
    generalize oD o=x3 at *
    generalize au r=x4 at *
    simp[hl0,q,ap]
   ·rw[bx (by omega)];exact sr3.obj
   ·rw[bx (by omega)];exact sr3.gat
   ·rw[bx (by omega)];exact sr3.num
   ·rw[bx (by omega)];exact sr3.cho
   ·by_cases e:i=P+4
    ·subst e;rw[if_pos rfl];exact df hQ
    ·rw[if_neg e,bx (λq=>e q.symm),sr3.fr i hi,if_neg e]
   ·rcases Nat.lt_trichotomy i ns.length with hi |hi |hi
    ·rw[List.getElem?_append_left hi] at hu
     exact (hn i u hu).app E
    ·subst hi
     rw[List.getElem?_append_right (Nat.le_refl _),Nat.sub_self] at hu
     cases hu
     exact ok
    ·rw[List.getElem?_eq_none (by rw[List.length_append];simp;omega)] at hu;cases hu)
 obtain⟨G,ns,b,rfl,sr,w,hns,hG,hn⟩:=hI
 rw[Nat.zero_add,List.length_map] at hns
 have hlt:ns.length-1<ns.length:=by omega
 have ev:ns[ns.length-1]?=some ns[ns.length-1]:=List.getElem?_eq_getElem hlt
 obtain⟨v1,_,sem⟩:=hn _ _ ev
 have hQ:S2[P+4]?=some (.lst (nsD ns)):=by rw[sr.fr (P+4) (.inr (by omega)),if_pos rfl]
 have la:=Ag hQ ev
 generalize ns[ns.length-1]=r at *
 obtain⟨X,S3,q2,c,lX,px,x2,y2,rfl⟩:=fold_eq sr w hl v1
 have un:=w.uT v1
 have eF:FR (X++[r]) G=enc (po (K23.uT G r) []):=by rw[uP w c,px]
 have wr:=zt w c
 rw[eF] at q2 wr
 refine⟨K23.uT G r,S2++[x2,y2],aA rfl ?_,(un.ord w).1,(un.ord w).2,wr,λth=>?_,λth a ha=>?_,?_⟩
 ·have hm2:=sr.has "fold_from" (by decide +kernel)
  have sq:ge (.tup (R.map au))=some (R.map au):=rfl
  have ng:Ak (.int 1)=some (.int (-1)):=rfl
  clear sem hn px
  generalize D.tup ((enc (po (K23.uT G r) [])).map au)=rt at *
  generalize R.map au=x1 at *
  generalize shD sh=xs at *
  generalize oD o=od at *
  unfold vB
  simp -implicitDefEqProofs [mr,en,sq,el,hm2,ng,la,q2,-yW]
 ·have e:=zu c (un.ev th) (by simp)
  have hr:r∉X:=by
   have:=(List.nodup_append.mp c.nd).2.2
   intro hm
   exact this r hm r (by simp) rfl
  have ix:(X++[r]).idxOf r=(FR (X++[r]) G).length-1:=by
   rw[List.idxOf_append,if_neg hr]
   simp[FR]
  rw[ix,eF] at e;exact e
 ·rw[← hns] at ha
  exact Ev.det (un.ev th) (sem th a ha)
 ·rw[← px,List.length_map,List.length_append];simp;omega
def blank (m:Nat):Sh:=List.replicate m none
def sho (m k:Nat)(v:Option Bool):Sh:=(blank m).set k v
theorem vQ (m:Nat):shD (blank m) = .tup (List.replicate m .non):=by
 unfold blank;rw[shD,List.map_replicate];rfl
theorem zH (m k:Nat)(v:Option Bool):(sho m k v).length=m:=by unfold sho blank;rw[List.length_set,List.length_replicate]
theorem yd (m:Nat)(th:Th):ov (blank m) th=th:=by
 funext c
 unfold ov blank
 rw[List.getElem?_replicate]
 by_cases h:c<m
 ·rw[if_pos h]
 ·rw[if_neg h]
theorem yc {m k:Nat}(hk:k<m)(v:Option Bool)(th:Th):ov (sho m k v) th=λc=>if c=k then v.getD (th c) else th c:=by
 funext c
 unfold ov sho blank
 rw[List.getElem?_set,List.length_replicate,List.getElem?_replicate]
 by_cases h:c=k
 ·subst h
  rw[if_pos rfl,if_pos hk,if_pos rfl]
  cases v<;>rfl
 ·rw[if_neg (λe=>h e.symm),if_neg h]
  by_cases h2:c<m
  ·rw[if_pos h2]
  ·rw[if_neg h2]
theorem blank_eq {m:Nat}(hm:m<=8)(S:Sto):gq [.int m] S=okO (shD (blank m)) S:=by
 have e1:gE [.int m]=some ((List.range m).map λ(k:Nat)=>D.int k):=by
  have:=xP m (by omega) (by omega);simpa using this
 have q:=jk (u:=aJ 0) (fe:=ie) (λρ => ∃ y,ρ=[y]) (λ_ => .non) S ((List.range m).map λ(k:Nat)=>D.int k) (eE 1 [] [some (.int m)]) ⟨none,rfl⟩ (by
  rintro d hd ρ ⟨y,rfl⟩
  exact⟨_,rfl,⟨_,rfl⟩,rfl⟩)
 have er:((List.range m).map λ(k:Nat)=>D.int k).map (λ_=>D.non)=List.replicate m .non:=by
  rw[List.map_map]
  exact (List.map_const' ..).trans (by rw[List.length_range])
 rw[er] at q
 rw[vQ]
 refine aA rfl ?_
 unfold jy
 simp[e1,q,gy]
theorem rO {m k:Nat}(hm:m<=8){sh:Sh}(hs:sh.length=m)(hk:k<m)(v:Option Bool)(S:Sto)(g:Rho->Sto->Out Fl)
  (hg:g=aP (aE bX (aE bX (cSl slD (ae 0) none (some (ae 1))) (ip (ac (ae 2) ah))) (cSl slD (ae 0) (some (aE bX (ae 1) (aB (.int 1)))) none))) :
  aZ 3 0 g [shD sh,.int k,shV v] S=okO (shD (sh.set k v)) S:=by
 subst hg
 have c1:slD (shD sh) none (some (k:Int))=some (.tup ((sh.take k).map shV)):=by
  show some (D.tup (gj (sh.map shV) none (some (k:Int))))=_
  rw[yZ,List.map_take]
 have c2:slD (shD sh) (some ((k:Int)+1)) none=some (.tup ((sh.drop (k+1)).map shV)):=by
  show some (D.tup (gj (sh.map shV) (some (((k+1:Nat)):Int)) none))=_
  rw[y0,List.map_drop]
 have z1:szO [shV v] (.tup [shV v])=some (.tup [shV v]):=cw (by simp)
 have a1:bX (.tup ((sh.take k).map shV)) (.tup [shV v])=some (.tup ((sh.take k).map shV++[shV v])):=by
  rw[lI,if_pos (Nat.le_trans (show _<=1000 by simp;omega) (by decide))]
 have a2:bX (.tup ((sh.take k).map shV++[shV v])) (.tup ((sh.drop (k+1)).map shV))=some (shD (sh.set k v)):=by
  rw[lI,if_pos (Nat.le_trans (show _<=1000 by simp;omega) (by decide)),List.set_eq_take_append_cons_drop,if_pos (by omega)]
  simp[shD]
 refine aA rfl ?_
 generalize shD (sh.set k v)=r at *
 generalize (sh.take k).map shV=x1 at *
 generalize (sh.drop (k+1)).map shV=x2 at *
 generalize shD sh=x3 at *
 generalize shV v=x4 at *
 simp[c1,c2,z1,a1,a2,wY]
theorem zz {m k:Nat}(hm:m<=8){sh:Sh}(hs:sh.length=m)(hk:k<m)(v:Option Bool)(S:Sto):fm [shD sh,.int k,shV v] S=okO (shD (sh.set k v)) S:=rO hm hs hk v S _ rfl
theorem vc {m k:Nat}(hm:m<=8){sh:Sh}(hs:sh.length=m)(hk:k<m)(v:Option Bool)(S:Sto):jm [shD sh,.int k,shV v] S=okO (shD (sh.set k v)) S:=rO hm hs hk v S _ rfl
theorem xB {m:Nat}(h1 : 1<=m)(hm:m<=8):iJ (.tup [.non]) (.int m)=some (shD (blank m)):=by
 rw[vQ]
 have:m=1∨m=2∨m=3∨m=4∨m=5∨m=6∨m=7∨m=8:=by omega
 rcases this with rfl |rfl |rfl |rfl |rfl |rfl |rfl |rfl<;>rfl
theorem xH (x:Int){m:Nat}(hm:m<=8)(S:Sto):∃ sh:Sh,lK [.int x,.int m] S=okO (shD sh) S/\sh.length=m:=by
 have e1:gE [.int m]=some ((List.range m).map λ(k:Nat)=>D.int k):=by
  have:=xP m (by omega) (by omega);simpa using this
 let f:Int->Option Bool:=λk=>if drw x k % 4=1 then some false else if drw x k % 4=2 then some true else none
 have q:=jk (u:=aJ 0) (fe:=fT) (λρ => ∃ y,ρ=[y,some (.int x)]) (λd=>match d with | .int k=>shV (f k) |_ => .non) S ((List.range m).map λ(k:Nat)=>D.int k) (eE 1 [0] [some (.int x),some (.int m)]) ⟨none,rfl⟩ (by
  rintro d hd ρ ⟨y,rfl⟩
  obtain⟨k,_,rfl⟩:=List.mem_map.mp hd
  refine⟨_,rfl,⟨_,rfl⟩,?_⟩
  have ed:=iQ x k S
  have em:cb (.int (drw x k)) (.int 4)=some (.int (drw x k % 4)):=bo (by decide)
  have hv:ixO (D.tup [D.non,(D.int 0),(D.int 1),D.non]) (.int (drw x k % 4)) S=some (shV (f k)):=by
   have h0:=Int.emod_nonneg (drw x k) (show (4:Int)≠0 by decide)
   have h4:=Int.emod_lt_of_pos (drw x k) (show (0:Int)<4 by decide)
   show ixO _ _ _=some (shV (if drw x k % 4=1 then some false else if drw x k % 4=2 then some true else none))
   have:drw x k % 4=0∨drw x k % 4=1∨drw x k % 4=2∨drw x k % 4=3:=by omega
   rcases this with h |h |h |h<;>rw[h]<;>rfl
  show fT [some (.int k),some (.int x)] S=okO (shV (f k)) S
  generalize f k=fk at *
  unfold fT
  simp[ed,em,hv])
 rw[List.map_map] at q
 refine⟨(List.range m).map λ(k:Nat)=>f k,aA rfl ?_,by rw[List.length_map,List.length_range]⟩
 have er:shD ((List.range m).map λ(k:Nat)=>f k) = .tup ((List.range m).map ((λd=>match d with |D.int k=>shV (f k) |_ => .non) ∘ λ(k:Nat)=>D.int k)):=by
  rw[shD,List.map_map];rfl
 rw[er]
 generalize (List.range m).map ((λd=>match d with |D.int k=>shV (f k) |_ => .non) ∘ λ(k:Nat)=>D.int k)=r at *
 unfold pc
 simp[e1,q,gy]
def okW (W ss:List Str):Prop:=okL ss/\∀ x∈ss,x∈W
theorem oT {α:Type}[DecidableEq α]:∀ {l P:List α},l.Nodup->(∀ x∈l,x∈P)->l.length<=P.length
 |[],_,_,_=>Nat.zero_le _
 |a::l,P,nd,h=>by
  obtain⟨h1,h2⟩:=List.nodup_cons.mp nd
  have hp : 0<P.length:=List.length_pos_of_mem (h a (List.mem_cons_self ..))
  have:=oT (l:=l) (P:=P.erase a) h2 λx hx=>(List.mem_erase_of_ne (λe=>h1 (by rw[← e];exact hx))).mpr (h x (List.mem_cons_of_mem _ hx))
  rw[List.length_erase_of_mem (h a (List.mem_cons_self ..))] at this
  rw[List.length_cons];omega
theorem yx (a b:List Str)(x:Str):x∈fI a b↔x∈a/\x∈b:=by
 unfold fI;rw[List.mem_filter];by_cases h:x∈b<;>simp[h]
theorem yw (a b:List Str)(x:Str):x∈fL a b↔x∈a/\¬ x∈b:=by
 unfold fL;rw[List.mem_filter];by_cases h:x∈b<;>simp[h]
theorem yv (a b:List Str)(x:Str):x∈fU a b↔x∈a∨x∈b:=by
 have pm:(fU a b).Perm (a++fL b a):=List.mergeSort_perm _ _
 rw[pm.mem_iff,List.mem_append,yw]
 by_cases h:x∈a<;>simp[h]
theorem Ae {a b:List Str}(ha:okL a)(hb:okL b)(h:∀ x,x∈a↔x∈b):a=b:=by
 have pm:a.Perm b:=(List.perm_ext_iff_of_nodup (gG ha) (gG hb)).mpr h
 have p1:=(dD ha.2).imp λ{x y} q=>vk q
 have p2:=(dD hb.2).imp λ{x y} q=>vk q
 rw[eY pm p1,← eY (List.Perm.refl b) p2]
structure GT (W:List Str) (o:List Nat) (t:Tr):Prop where
 ord:Ord o t
 wr:Wr o (enc (po t []))
 ev:∀ th,Ev (enc (po t [])) th ((enc (po t [])).length-1) (tev t th)
 ok:∀ th,okW W (tev t th)
 len:(po t []).length<=1023
noncomputable def op (o:List Nat) (f:List Str->List Str->List Str) (t1 t2:Tr):Tr:=@dite _ (∃ t,Ord o t/\∀ th,tev t th=f (tev t1 th) (tev t2 th)) (Classical.propDecidable _) (λh=>Classical.choose h) λ_ => .leaf []
section
variable {W:List Str}{o:List Nat}{t t1 t2:Tr}
theorem GT.lf (g:GT W o t)(hW:W.length<=6):Lf (enc (po t [])):=by
 intro i ss h
 obtain⟨th,e⟩:=Av (yV h) rfl g.ord
 have:=g.ok th
 rw[e] at this
 exact Nat.le_trans (oT (gG this.1) this.2) hW
theorem GT.eq (g1:GT W o t1)(g2:GT W o t2)(h:∀ th x,x∈tev t1 th↔x∈tev t2 th):t1=t2:=
 canon _ (Nat.le_refl _) g1.ord g2.ord λth=>Ae (g1.ok th).1 (g2.ok th).1 (h th)
theorem ye (nd:o.Nodup)(hl:o.length<=8)(hW:W.length<=6){nf:D}{f:List Str->List Str->List Str}(hn:NF nf f)(hf:∀ a b,okW W a->okW W b->okW W (f a b))(g1:GT W o t1)(g2:GT W o t2) :
  GT W o (op o f t1 t2)/\(∀ th,tev (op o f t1 t2) th=f (tev t1 th) (tev t2 th))/\∀ S,∃ S',bK [aI t1,aI t2,oD o,nf] S=okO (aI (op o f t1 t2)) S':=by
 have main:∀ S,∃ t S',bK [aI t1,aI t2,oD o,nf] S=okO (aI t) S'/\GT W o t/\∀ th,tev t th=f (tev t1 th) (tev t2 th):=λS=>by
  obtain⟨t,S',q,ot,_,w,ev,sm,ln,_⟩:=BK nd hl g1.wr g2.wr (g1.lf hW) (g2.lf hW) (qL t1) (qL t2) hn S
  have e:∀ th,tev t th=f (tev t1 th) (tev t2 th):=λth=>sm th _ _ (g1.ev th) (g2.ev th)
  exact⟨t,S',q,⟨ot,w,ev,λth=>by rw[e th];exact hf _ _ (g1.ok th) (g2.ok th),ln⟩,e⟩
 obtain⟨t0,_,_,g0,e0⟩:=main []
 have ex:∃ t,Ord o t/\∀ th,tev t th=f (tev t1 th) (tev t2 th):=⟨t0,g0.ord,e0⟩
 have eop:op o f t1 t2=t0:=by
  unfold op
  rw[dif_pos ex]
  exact canon _ (Nat.le_refl _) (Classical.choose_spec ex).1 g0.ord λth=>by rw[(Classical.choose_spec ex).2 th,e0 th]
 rw[eop]
 refine⟨g0,e0,λS=>?_⟩
 obtain⟨t,S',q,g,e⟩:=main S
 have:t=t0:=canon _ (Nat.le_refl _) g.ord g0.ord λth=>by rw[e th,e0 th]
 subst this
 exact⟨S',q⟩
end
theorem EE {W a b:List Str}(ha:okW W a)(hb:okW W b):okW W (fU a b):=⟨A_ ha.1 hb.1,λx hx=>((yv a b x).mp hx).elim (ha.2 x) (hb.2 x)⟩
theorem EG {W a b:List Str}(ha:okW W a)(_:okW W b):okW W (fI a b):=⟨mI ha.1 List.filter_sublist,λx hx=>ha.2 x ((yx a b x).mp hx).1⟩
theorem EF {W a b:List Str}(ha:okW W a)(_:okW W b):okW W (fL a b):=⟨mI ha.1 List.filter_sublist,λx hx=>ha.2 x ((yw a b x).mp hx).1⟩
def Wo (ρ:Rho)(A:Rho->Sto->Out D)(d:D):Prop:=∀ S,∃ S',A ρ S=okO d S'
def Fa (ρ:Rho)(T:Rho->Sto->Out Bool):Prop:=∀ S,∃ S',T ρ S=okO false S'
def Nx (ρ:Rho)(s:Rho->Sto->Out Fl):Prop:=∀ S,∃ S',s ρ S=okO (.next ρ) S'
def Rt (ρ:Rho)(s:Rho->Sto->Out Fl):Prop:=∀ S,∃ S',s ρ S=okO (.ret (.bl true)) S'
section
variable {ρ:Rho}{A B:Rho->Sto->Out D}{T T2:Rho->Sto->Out Bool}{s r a:Rho->Sto->Out Fl}{d1 d2 d3 od:D}
theorem bj {i:Nat}{d:D}(h : ρ[i]?=some (some d)):Wo ρ (ae i) d:=λS=>⟨S,by unfold ae;rw[h]⟩
theorem cC {F:List D->Sto->Out D}(h4 : ρ[4]?=some (some od))(hF:∀ S,∃ S',F [d1,d2,od] S=okO d3 S')(hA:Wo ρ A d1)(hB:Wo ρ B d2):Wo ρ (aD F (ac A (ac B (ac (ae 4) ah)))) d3:=λS=>by
 obtain⟨S1,e1⟩:=hA S
 obtain⟨S2,e2⟩:=hB S1
 obtain⟨S3,e3⟩:=hF S2
 have e4:ae 4 ρ S2=okO od S2:=by unfold ae;rw[h4]
 exact⟨S3,by simp only[Bc,qN,vG,e1,e2,e4,bJ,e3,qM]⟩
theorem kE (hA:Wo ρ A d1)(hB:Wo ρ B d2)(h:neD d1 d2=some (.bl false)):Fa ρ (bf (aE neD A B)):=λS=>by
 obtain⟨S1,e1⟩:=hA S
 obtain⟨S2,e2⟩:=hB S1
 exact⟨S2,by simp[e1,e2,h,blO]⟩
theorem yS (x:Fa ρ T)(y:Fa ρ T2):Fa ρ (n0 T T2):=λS=>by
 obtain⟨S1,e1⟩:=x S
 obtain⟨S2,e2⟩:=y S1
 exact⟨S2,by simp[e1,e2]⟩
theorem oR (h:Fa ρ T):Nx ρ (cIf T a bR):=λS=>by
 obtain⟨S1,e1⟩:=h S
 exact⟨S1,by simp[e1]⟩
theorem nw (x:Nx ρ s)(y:Rt ρ r):Rt ρ (aK s r):=λS=>by
 obtain⟨S1,e1⟩:=x S
 obtain⟨S2,e2⟩:=y S1
 exact⟨S2,by simp[e1,e2]⟩
end
theorem vi (t:Tr):neD (aI t) (aI t)=some (.bl false):=by rw[Az,decide_eq_true rfl];rfl
theorem AA (t:Tr):eqD (aI t) (aI t)=some (.bl true):=by rw[yP,decide_eq_true rfl]
noncomputable def kn (o:List Nat) (sh:Sh) (t:Tr):Tr:=@dite _ (∃ t',Ord o t'/\∀ th,tev t' th=tev t (ov sh th)) (Classical.propDecidable _) (λh=>Classical.choose h) λ_ => .leaf []
section
variable {W:List Str}{o:List Nat}{t t1 t2:Tr}{sh:Sh}
theorem Dq (hl:o.length<=8)(hm:∀ c∈o,c<sh.length)(g:GT W o t) :
  GT W o (kn o sh t)/\(∀ th,tev (kn o sh t) th=tev t (ov sh th))/\∀ S,∃ S',bw [aI t,shD sh,oD o] S=okO (aI (kn o sh t)) S':=by
 have hR:(enc (po t [])).length<16000000:=by unfold enc;rw[List.length_map];have:=g.len;omega
 have main:∀ S,∃ t' S',bw [aI t,shD sh,oD o] S=okO (aI t') S'/\GT W o t'/\∀ th,tev t' th=tev t (ov sh th):=λS=>by
  obtain⟨t',S',q,ot,_,w,ev,sm,ln⟩:=yC hl g.wr (qL t) hR hm S
  have e:∀ th,tev t' th=tev t (ov sh th):=λth=>sm th _ (g.ev _)
  exact⟨t',S',q,⟨ot,w,ev,λth=>by rw[e th];exact g.ok _,ln⟩,e⟩
 obtain⟨t0,_,_,g0,e0⟩:=main []
 have ex:∃ t',Ord o t'/\∀ th,tev t' th=tev t (ov sh th):=⟨t0,g0.ord,e0⟩
 have ek:kn o sh t=t0:=by
  unfold kn
  rw[dif_pos ex]
  exact canon _ (Nat.le_refl _) (Classical.choose_spec ex).1 g0.ord λth=>by rw[(Classical.choose_spec ex).2 th,e0 th]
 rw[ek]
 refine⟨g0,e0,λS=>?_⟩
 obtain⟨t',S',q,g',e⟩:=main S
 have:t'=t0:=canon _ (Nat.le_refl _) g'.ord g0.ord λth=>by rw[e th,e0 th]
 subst this
 exact⟨S',q⟩
theorem GT.eq2 (g1:GT W o t1)(g2:GT W o t2)(h:∀ th,tev t1 th=tev t2 th):t1=t2:=canon _ (Nat.le_refl _) g1.ord g2.ord h
end
theorem y9 {F G:List D->Sto->Out D}{g:Rho->Sto->Out Fl}{nf:D}{a b c:D}(hF:F=aZ 3 0 g)(hg:g=aP (aD G (ac (ae 0) (ac (ae 1) (ac (ae 2) (ac (aB nf) ah)))))){d:D}(h:∀ S,∃ S',G [a,b,c,nf] S=okO d S'):∀ S,∃ S',F [a,b,c] S=okO d S':=λS=>by
 subst hF hg
 obtain⟨S',h⟩:=h S
 exact⟨S',aA rfl (by simp[h])⟩
theorem qP {m c:Nat}{x y:D}{o:List Nat}(ho:o.length=m)(hm:m<=8)(hc:c<m)(b:Bool)(h:∀ S,∃ S',bw [x,shD (sho m c (some b)),oD o] S=okO y S'):∀ S,∃ S',cS [x,.int c,.int (if b=true then 1 else 0),oD o] S=okO y S':=λS=>by
 have l1:eQ [oD o]=some (.int m):=by simp[eQ,ho]
 have e1:=blank_eq hm S
 have e2:=zz hm (sh:=blank m) (by unfold blank;rw[List.length_replicate]) hc (some b) S
 obtain⟨S',e3⟩:=h S
 refine⟨S',aA rfl ?_⟩
 have e2:fm [shD (blank m),.int c,.int (if b=true then 1 else 0)] S=okO (shD (sho m c (some b))) S:=e2
 generalize shD (sho m c (some b))=x1 at *
 generalize shD (blank m)=x2 at *
 generalize oD o=x3 at *
 generalize (if b=true then (1:Int) else 0)=x4 at *
 unfold sN
 simp[l1,e1,e2,e3]
theorem vP {F G:List D->Sto->Out D}{g:Rho->Sto->Out Fl}{c:Nat}{x x0 x1 y od:D}(hF:F=aZ 3 0 g)(hg:g=aP (aD G (ac (aD cS (ac (ae 0) (ac (ae 1) (ac (aB (.int 0)) (ac (ae 2) ah))))) (ac (aD cS (ac (ae 0) (ac (ae 1) (ac (aB (.int 1)) (ac (ae 2) ah))))) (ac (ae 2) ah)))))
  (h0:∀ S,∃ S',cS [x,.int c,.int 0,od] S=okO x0 S') (h1:∀ S,∃ S',cS [x,.int c,.int 1,od] S=okO x1 S') (h2:∀ S,∃ S',G [x0,x1,od] S=okO y S'):∀ S,∃ S',F [x,.int c,od] S=okO y S':=λS=>by
 subst hF hg
 obtain⟨S1,e1⟩:=h0 S
 obtain⟨S2,e2⟩:=h1 S1
 obtain⟨S3,e3⟩:=h2 S2
 exact⟨S3,aA rfl (by simp[e1,e2,e3])⟩
def up (k:Nat)(b:Bool)(th:Th):Th:=λc=>if c=k then b else th c
theorem rX {m k:Nat}(hk:k<m)(b:Bool)(th:Th):ov (sho m k (some b)) th=up k b th:=yc hk _ th
theorem oH (k:Nat)(a b:Bool)(th:Th):up k a (up k b th)=up k a th:=by
 funext c;unfold up;split<;>rfl
theorem mD {k j:Nat}(h:k≠j)(a b:Bool)(th:Th):up k a (up j b th)=up j b (up k a th):=by
 funext c;unfold up
 by_cases h1:c=k
 ·subst h1;rw[if_pos rfl,if_neg h,if_pos rfl]
 ·rw[if_neg h1,if_neg h1]
theorem uW (k:Nat)(th:Th):up k (th k) th=th:=by
 funext c;unfold up
 by_cases h1:c=k
 ·rw[if_pos h1,h1]
 ·rw[if_neg h1]
theorem Cd {m k:Nat}{d:D}(h:KQ m k d):∀ {th:Th}{ss:List Str},Kv th d ss->okL ss:=by
 induction h with
 | @leaf k ss0 h1 h2 _=>intro th ss kv;rw[vo kv];exact⟨h1,h2⟩
 | @ask k c x y _ _ _ ix iy =>
  intro th ss kv
  cases kv with
  |no _ kv=>exact ix kv
  |yes _ kv=>exact iy kv
noncomputable abbrev wa:FT:=("joined",bA,bc)::("common",bB,bU)::("less",bO,lO)::[]
theorem Dc:cH wa (.fn "joined" bA)=some bc:=by unfold cH;exact if_pos rfl
theorem Db:cH wa (.fn "common" bB)=some bU:=by
 unfold cH
 rw[if_neg (λe=>absurd (D.fn.inj e).1 (by decide +kernel))]
 unfold cH
 exact if_pos rfl
theorem Da:cH wa (.fn "less" bO)=some lO:=by
 unfold cH
 rw[if_neg (λe=>absurd (D.fn.inj e).1 (by decide +kernel))]
 unfold cH
 rw[if_neg (λe=>absurd (D.fn.inj e).1 (by decide +kernel))]
 unfold cH
 exact if_pos rfl
def Go (ρ:Rho)(s:Rho->Sto->Out Fl)(ρ':Rho):Prop:=∀ S,∃ S',s ρ S=okO (.next ρ') S'
section
variable {ρ ρ':Rho}{A B:Rho->Sto->Out D}{s r:Rho->Sto->Out Fl}{d1 d2 d3 od:D}
theorem rA {F:List D->Sto->Out D}{w:D}(h4 : ρ[4]?=some (some od))(h10 : ρ[10]?=some (some w))(hp:cH wa w=some F)(hF:∀ S,∃ S',F [d1,d2,od] S=okO d3 S')(hA:Wo ρ A d1)(hB:Wo ρ B d2):Wo ρ (iU wa (ae 10) (ac A (ac B (ac (ae 4) ah)))) d3:=λS=>by
 obtain⟨S1,e1⟩:=hA S
 obtain⟨S2,e2⟩:=hB S1
 obtain⟨S3,e3⟩:=hF S2
 have e4:ae 4 ρ S2=okO od S2:=by unfold ae;rw[h4]
 have e5:ae 10 ρ S=okO w S:=by unfold ae;rw[h10]
 refine⟨S3,?_⟩
 unfold iU
 rw[e5,bJ]
 simp only[hp,qN,vG,e1,e2,e4,bJ,e3,qM]
theorem xx {F:List D->Sto->Out D}{a b c:D}{i:Nat}{E:Rho->Sto->Out D}(hi : ρ[i]?=some (some b))(hA:Wo ρ A a)(hE:Wo ρ E c)(hF:∀ S,F [a,b,c] S=okO d3 S):Wo ρ (aD F (ac A (ac (ae i) (ac E ah)))) d3:=λS=>by
 obtain⟨S1,e1⟩:=hA S
 have e4:ae i ρ S1=okO b S1:=by unfold ae;rw[hi]
 obtain⟨S2,e2⟩:=hE S1
 exact⟨S2,by simp only[Bc,qN,vG,e1,e2,e4,bJ,hF,qM]⟩
theorem mS {x y z:D}{i:Nat}(hi : ρ[i]?=some (some y))(h:iJ x y=some z):Wo ρ (aE iJ (aB x) (ae i)) z:=λS=>by
 have e4:∀ S,ae i ρ S=okO y S:=λS=>by unfold ae;rw[hi]
 exact⟨S,by simp[e4,h]⟩
theorem Bg (d:D):Wo ρ (aB d) d:=λS=>⟨S,rfl⟩
theorem qD {i:Nat}(h:Wo ρ A d1)(e : ρ.set i (some d1) = ρ'):Go ρ (bD i A) ρ':=λS=>by
 obtain⟨S1,e1⟩:=h S
 exact⟨S1,by rw[← e];simp[e1]⟩
theorem vz (x:Go ρ s ρ')(y:Rt ρ' r):Rt ρ (aK s r):=λS=>by
 obtain⟨S1,e1⟩:=x S
 obtain⟨S2,e2⟩:=y S1
 exact⟨S2,by simp[e1,e2]⟩
theorem BA (hA:Wo ρ A d1)(hB:Wo ρ B d2){A2 B2:Rho->Sto->Out D}{d4:D}(hA2:Wo ρ A2 d3)(hB2:Wo ρ B2 d4)(h:eqD d1 d2=some (.bl true))(h2:eqD d3 d4=some (.bl true)):Rt ρ (aP (xl (aE eqD A B) (aE eqD A2 B2))):=λS=>by
 obtain⟨S1,e1⟩:=hA S
 obtain⟨S2,e2⟩:=hB S1
 obtain⟨S3,e3⟩:=hA2 S2
 obtain⟨S4,e4⟩:=hB2 S3
 exact⟨S4,by simp[e1,e2,h,e3,e4,h2,blO]⟩
theorem C6 (h:∀ S,∃ ρ' S',s ρ S=okO (.next ρ') S'/\Rt ρ' r):Rt ρ (aK s r):=λS=>by
 obtain⟨ρ',S1,e1,y⟩:=h S
 obtain⟨S2,e2⟩:=y S1
 exact⟨S2,by simp[e1,e2]⟩
theorem yH {b:Rho->Sto->Out Fl}{f1 f2 f3:D}{fi:Rho->Sto->Out (List D)}(hf:∀ S,fi ρ S=okO [f1,f2,f3] S)(hw : 10 < ρ.length)(h1:Nx (ρ.set 10 (some f1)) b)(h2:Nx (ρ.set 10 (some f2)) b)(h3:Nx (ρ.set 10 (some f3)) b)(e : ρ.set 10 (some f3) = ρ'):Go ρ (iq fi (aJ 10) b) ρ':=λS=>by
 obtain⟨S1,e1⟩:=h1 S
 obtain⟨S2,e2⟩:=h2 S1
 obtain⟨S3,e3⟩:=h3 S2
 have u:∀ (d:D) (ρ:Rho),10 < ρ.length->aJ 10 d ρ=some (ρ.set 10 (some d)):=λd ρ h=>by
  unfold aJ
  first
   |rfl
   |rw[if_pos h]
 refine⟨S3,?_⟩
 rw[Bb,hf,bJ,← e]
 simp[gN,u,hw,e1,e2,e3,List.set_set]
end
theorem Ab {m i:Nat}{sh:Sh}(hs:sh.length=m)(hi:i<m){v:Option Bool}(hv:sh[i]?=some v)(th:Th):ov (sh.take i) (ov (sho m i v) th)=ov (sh.take (i+1)) th:=by
 rw[yc hi]
 funext c
 unfold ov
 rw[List.getElem?_take,List.getElem?_take]
 rcases Nat.lt_trichotomy c i with h |h |h
 ·rw[if_pos h,if_pos (by omega)]
  have:¬ c=i:=by omega
  simp only[this,if_false]
 ·subst h
  rw[if_neg (by omega),if_pos (by omega),hv]
  cases v<;>simp
 ·rw[if_neg (by omega),if_neg (by omega)]
  have:¬ c=i:=by omega
  simp only[this,if_false]
theorem Dg (sh:Sh)(th:Th):ov sh (ov sh th)=ov sh th:=by
 funext c
 unfold ov
 split
 ·rfl
 ·rename_i h;split
  ·rename_i h2;exact absurd h2 (h _)
  ·rfl
noncomputable def fg (o:List Nat) (m c:Nat) (a:Tr):Tr:=op o fU (kn o (sho m c (some false)) a) (kn o (sho m c (some true)) a)
noncomputable def al (o:List Nat) (m c:Nat) (a:Tr):Tr:=op o fI (kn o (sho m c (some false)) a) (kn o (sho m c (some true)) a)
theorem Bn {W:List Str}{o:List Nat}(nd:o.Nodup){m:Nat}(hol:o.length=m)(h1 : 1<=m)(hm:m<=8)(ho:∀ c∈o,c<m)(hW:W.length<=6)(sc wd key:D){t1 t2:Tr}(g1:GT W o t1)(g2:GT W o t2){sh:Sh}(hs:sh.length=m){p q:Nat}(hp:p<m)(hq:q<m)(kk:Rho->Sto->Out Fl)
  (hk:kk=(aK (iq (dC (ip (ac (aB (.fn "joined" bA)) (ac (aB (.fn "common" bB)) (ac (aB (.fn "less" bO)) ah))))) (aJ 10) qX)
  (aK (bD 11 (ae 5))
  (aK (iq (gR jz (ac (ae 7) ah)) (jp 2 (aX (aJ 12) (aX (aJ 13) fw))) mL)
  (aK (cIf (n0 (bf (aE neD (ae 11) (aD bw (ac (ae 5) (ac (ae 7) (ac (ae 4) ah)))))) (n0 (bf (aE neD (aD bw (ac (ae 11) (ac (ae 7) (ac (ae 4) ah)))) (ae 11))) (bf (aE neD (aD bw (ac (ae 5) (ac (aE iJ (aB (D.tup [D.non])) (ae 1)) (ac (ae 4) ah)))) (ae 5))))) (aP (aB (.bl false))) bR)
  (aK (bD 14 (aD aH (ac (ae 5) (ac (ae 8) (ac (ae 4) ah)))))
  (aK (bD 15 (aD cT (ac (ae 5) (ac (ae 8) (ac (ae 4) ah)))))
  (aK (cIf (bf (aE neD (aD aH (ac (aD bc (ac (ae 5) (ac (ae 6) (ac (ae 4) ah)))) (ac (ae 8) (ac (ae 4) ah)))) (aD bc (ac (ae 14) (ac (aD aH (ac (ae 6) (ac (ae 8) (ac (ae 4) ah)))) (ac (ae 4) ah)))))) (aP (aB (.bl false))) bR)
  (aK (cIf (bf (aE neD (aD cT (ac (aD bU (ac (ae 5) (ac (ae 6) (ac (ae 4) ah)))) (ac (ae 8) (ac (ae 4) ah)))) (aD bU (ac (ae 15) (ac (aD cT (ac (ae 6) (ac (ae 8) (ac (ae 4) ah)))) (ac (ae 4) ah)))))) (aP (aB (.bl false))) bR)
  (aK (cIf (bf (aE neD (aD aH (ac (ae 14) (ac (ae 9) (ac (ae 4) ah)))) (aD aH (ac (aD aH (ac (ae 5) (ac (ae 9) (ac (ae 4) ah)))) (ac (ae 8) (ac (ae 4) ah)))))) (aP (aB (.bl false))) bR)
  (aK (cIf (n0 (bf (aE neD (aD bc (ac (ae 15) (ac (ae 5) (ac (ae 4) ah)))) (ae 5))) (bf (aE neD (aD bc (ac (ae 5) (ac (ae 14) (ac (ae 4) ah)))) (ae 14)))) (aP (aB (.bl false))) bR)
  (aP (xl (aE eqD (ae 14) (aD aH (ac (ae 14) (ac (ae 8) (ac (ae 4) ah))))) (aE eqD (ae 14) (aD bw (ac (ae 14) (ac (aD jm (ac (aE iJ (aB (D.tup [D.non])) (ae 1)) (ac (ae 8) (ac (aB (.int 1)) ah)))) (ac (ae 4) ah)))))))))))))))))) :
  Rt [some sc,some (.int m),some wd,some key,some (oD o),some (aI t1),some (aI t2),some (shD sh),some (.int p),some (.int q),none,none,none,none,none,none] kk:=by
 subst hk
 have hl:o.length<=8:=by omega
 have J:∀ {a b:Tr},GT W o a->GT W o b->_:=λ{a b} ga gb=>ye nd hl hW Aj (λ_ _=>EE) ga gb
 have C:∀ {a b:Tr},GT W o a->GT W o b->_:=λ{a b} ga gb=>ye nd hl hW wL (λ_ _=>EG) ga gb
 have L:∀ {a b:Tr},GT W o a->GT W o b->_:=λ{a b} ga gb=>ye nd hl hW Ai (λ_ _=>EF) ga gb
 have K:∀ {a:Tr}{s:Sh},s.length=m->GT W o a->_:=λ{a s} h ga=>Dq (sh:=s) hl (λc hc=>by rw[h];exact ho c hc) ga
 have FJ:∀ {a b:Tr},GT W o a->GT W o b->∀ S,∃ S',bc [aI a,aI b,oD o] S=okO (aI (op o fU a b)) S':=λ{a b} ga gb=>y9 rfl rfl (J ga gb).2.2
 have FC:∀ {a b:Tr},GT W o a->GT W o b->∀ S,∃ S',bU [aI a,aI b,oD o] S=okO (aI (op o fI a b)) S':=λ{a b} ga gb=>y9 rfl rfl (C ga gb).2.2
 have FL:∀ {a b:Tr},GT W o a->GT W o b->∀ S,∃ S',lO [aI a,aI b,oD o] S=okO (aI (op o fL a b)) S':=λ{a b} ga gb=>y9 rfl rfl (L ga gb).2.2
 have FK:∀ {a:Tr}{s:Sh},s.length=m->GT W o a->∀ S,∃ S',bw [aI a,shD s,oD o] S=okO (aI (kn o s a)) S':=λ{a s} h ga=>(K h ga).2.2
 have gJ:∀ {a b:Tr},GT W o a->GT W o b->GT W o (op o fU a b):=λ{a b} ga gb=>(J ga gb).1
 have gC:∀ {a b:Tr},GT W o a->GT W o b->GT W o (op o fI a b):=λ{a b} ga gb=>(C ga gb).1
 have gL:∀ {a b:Tr},GT W o a->GT W o b->GT W o (op o fL a b):=λ{a b} ga gb=>(L ga gb).1
 have gK:∀ {a:Tr}{s:Sh},s.length=m->GT W o a->GT W o (kn o s a):=λ{a s} h ga=>(K h ga).1
 have eJ:∀ {a b:Tr},GT W o a->GT W o b->∀ th,tev (op o fU a b) th=fU (tev a th) (tev b th):=λ{a b} ga gb=>(J ga gb).2.1
 have eC:∀ {a b:Tr},GT W o a->GT W o b->∀ th,tev (op o fI a b) th=fI (tev a th) (tev b th):=λ{a b} ga gb=>(C ga gb).2.1
 have eL:∀ {a b:Tr},GT W o a->GT W o b->∀ th,tev (op o fL a b) th=fL (tev a th) (tev b th):=λ{a b} ga gb=>(L ga gb).2.1
 have eK:∀ {a:Tr}{s:Sh},s.length=m->GT W o a->∀ th,tev (kn o s a) th=tev a (ov s th):=λ{a s} h ga=>(K h ga).2.1
 have mJ:∀ {a b:Tr},GT W o a->GT W o b->∀ th x,x∈tev (op o fU a b) th↔x∈tev a th∨x∈tev b th:=λ{a b} ga gb th x=>by rw[eJ ga gb,yv]
 have mC:∀ {a b:Tr},GT W o a->GT W o b->∀ th x,x∈tev (op o fI a b) th↔x∈tev a th/\x∈tev b th:=λ{a b} ga gb th x=>by rw[eC ga gb,yx]
 have sl:∀ c v,(sho m c v).length=m:=λc v=>zH m c v
 have gF:∀ {a:Tr}{c:Nat},GT W o a->GT W o (fg o m c a):=λ{a c} ga=>gJ (gK (sl _ _) ga) (gK (sl _ _) ga)
 have gA:∀ {a:Tr}{c:Nat},GT W o a->GT W o (al o m c a):=λ{a c} ga=>gC (gK (sl _ _) ga) (gK (sl _ _) ga)
 have FF:∀ {a:Tr}{c:Nat},c<m->GT W o a->∀ S,∃ S',aH [aI a,.int c,oD o] S=okO (aI (fg o m c a)) S':=λ{a c} hc ga=>vP rfl rfl (qP hol hm hc false (FK (sl _ _) ga)) (qP hol hm hc true (FK (sl _ _) ga)) (FJ (gK (sl _ _) ga) (gK (sl _ _) ga))
 have FA:∀ {a:Tr}{c:Nat},c<m->GT W o a->∀ S,∃ S',cT [aI a,.int c,oD o] S=okO (aI (al o m c a)) S':=λ{a c} hc ga=>vP rfl rfl (qP hol hm hc false (FK (sl _ _) ga)) (qP hol hm hc true (FK (sl _ _) ga)) (FC (gK (sl _ _) ga) (gK (sl _ _) ga))
 have mF:∀ {a:Tr}{c:Nat},c<m->GT W o a->∀ th x,x∈tev (fg o m c a) th↔x∈tev a (up c false th)∨x∈tev a (up c true th):=λ{a c} hc ga th x=>by
  unfold fg;rw[mJ (gK (sl _ _) ga) (gK (sl _ _) ga),eK (sl _ _) ga,eK (sl _ _) ga,rX hc,rX hc]
 have mA:∀ {a:Tr}{c:Nat},c<m->GT W o a->∀ th x,x∈tev (al o m c a) th↔x∈tev a (up c false th)/\x∈tev a (up c true th):=λ{a c} hc ga th x=>by
  unfold al;rw[mC (gK (sl _ _) ga) (gK (sl _ _) ga),eK (sl _ _) ga,eK (sl _ _) ga,rX hc,rX hc]
 have a1:kn o sh (op o fU t1 t2)=op o fU (kn o sh t1) (kn o sh t2):=(gK hs (gJ g1 g2)).eq2 (gJ (gK hs g1) (gK hs g2)) λth=>by rw[eK hs (gJ g1 g2),eJ g1 g2,eJ (gK hs g1) (gK hs g2),eK hs g1,eK hs g2]
 have a2:kn o sh (op o fI t1 t2)=op o fI (kn o sh t1) (kn o sh t2):=(gK hs (gC g1 g2)).eq2 (gC (gK hs g1) (gK hs g2)) λth=>by rw[eK hs (gC g1 g2),eC g1 g2,eC (gK hs g1) (gK hs g2),eK hs g1,eK hs g2]
 have a3:kn o sh (op o fL t1 t2)=op o fL (kn o sh t1) (kn o sh t2):=(gK hs (gL g1 g2)).eq2 (gL (gK hs g1) (gK hs g2)) λth=>by rw[eK hs (gL g1 g2),eL g1 g2,eL (gK hs g1) (gK hs g2),eK hs g1,eK hs g2]
 have b1:kn o sh (kn o sh t1)=kn o sh t1:=(gK hs (gK hs g1)).eq2 (gK hs g1) λth=>by rw[eK hs (gK hs g1),eK hs g1,eK hs g1,Dg]
 have hb:(blank m).length=m:=by unfold blank;rw[List.length_replicate]
 have b2:kn o (blank m) t1=t1:=(gK hb g1).eq2 g1 λth=>by rw[eK hb g1,yd]
 have c1:op o fU (fg o m p t1) (fg o m p t2)=fg o m p (op o fU t1 t2):=(gJ (gF g1) (gF g2)).eq (gF (gJ g1 g2)) λth x=>by
  rw[mJ (gF g1) (gF g2),mF hp g1,mF hp g2,mF hp (gJ g1 g2),mJ g1 g2,mJ g1 g2]
  exact or_or_or_comm
 have c2:op o fI (al o m p t1) (al o m p t2)=al o m p (op o fI t1 t2):=(gC (gA g1) (gA g2)).eq (gA (gC g1 g2)) λth x=>by
  rw[mC (gA g1) (gA g2),mA hp g1,mA hp g2,mA hp (gC g1 g2),mC g1 g2,mC g1 g2]
  exact and_and_and_comm
 have c3:fg o m p (fg o m q t1)=fg o m q (fg o m p t1):=(gF (gF g1)).eq (gF (gF g1)) λth x=>by
  rw[mF hp (gF g1),mF hq g1,mF hq g1,mF hq (gF g1),mF hp g1,mF hp g1]
  by_cases e:p=q
  ·subst e;exact Iff.rfl
  ·rw[mD e,mD e,mD e,mD e]
   exact or_or_or_comm
 have c4:op o fU (al o m p t1) t1=t1:=(gJ (gA g1) g1).eq g1 λth x=>by
  rw[mJ (gA g1) g1,mA hp g1]
  refine⟨λh=>h.elim (λh=>?_) id,.inr⟩
  have:=uW p th
  cases hv:th p with
  |false=>rw[hv] at this;rw[← this];exact h.1
  |true=>rw[hv] at this;rw[← this];exact h.2
 have c5:op o fU t1 (fg o m p t1)=fg o m p t1:=(gJ g1 (gF g1)).eq (gF g1) λth x=>by
  rw[mJ g1 (gF g1),mF hp g1]
  refine⟨λh=>h.elim (λh=>?_) id,.inr⟩
  have:=uW p th
  cases hv:th p with
  |false=>rw[hv] at this;rw[this];exact .inl h
  |true=>rw[hv] at this;rw[this];exact .inr h
 have c6:fg o m p (fg o m p t1)=fg o m p t1:=(gF (gF g1)).eq (gF g1) λth x=>by
  rw[mF hp (gF g1),mF hp g1,mF hp g1,mF hp g1,oH,oH,oH,oH]
  exact or_self_iff
 have c7:kn o (sho m p (some true)) (fg o m p t1)=fg o m p t1:=(gK (sl _ _) (gF g1)).eq (gF g1) λth x=>by
  rw[eK (sl _ _) (gF g1),rX hp,mF hp g1,mF hp g1,oH,oH]
 have ne:∀ {a b:Tr},b=a->neD (aI a) (aI b)=some (.bl false):=λ{a b} e=>by rw[e];exact vi a
 have ne':∀ {a b:Tr},a=b->neD (aI a) (aI b)=some (.bl false):=λ{a b} e=>by rw[e];exact vi b
 have eq':∀ {a b:Tr},b=a->eqD (aI a) (aI b)=some (.bl true):=λ{a b} e=>by rw[e];exact AA a
 have tm:=xB h1 hm
 have way:∀ {f:List Str->List Str->List Str}{F:List D->Sto->Out D}{w:D}{ρ:Rho},ρ[4]?=some (some (oD o))->ρ[5]?=some (some (aI t1))->ρ[6]?=some (some (aI t2))->ρ[7]?=some (some (shD sh))->ρ[10]?=some (some w)->cH wa w=some F->GT W o (op o f t1 t2)->kn o sh (op o f t1 t2)=op o f (kn o sh t1) (kn o sh t2)->(∀ {a b:Tr},GT W o a->GT W o b->∀ S,∃ S',F [aI a,aI b,oD o] S=okO (aI (op o f a b)) S')->Nx ρ qX:=λv4 v5 v6 v7 v10 pk go e hF =>
  oR (kE (cC v4 (FK hs go) (rA v4 v10 pk (hF g1 g2) (bj v5) (bj v6)) (bj v7)) (rA v4 v10 pk (hF (gK hs g1) (gK hs g2)) (cC v4 (FK hs g1) (bj v5) (bj v7)) (cC v4 (FK hs g2) (bj v6) (bj v7))) (ne' e))
 refine vz (yH (f1:=.fn "joined" bA) (f2:=.fn "common" bB) (f3:=.fn "less" bO) (λS=>?_) (show 10<16 by decide) (way rfl rfl rfl rfl rfl Dc (gJ g1 g2) a1 FJ) (way rfl rfl rfl rfl rfl Db (gC g1 g2) a2 FC) (way rfl rfl rfl rfl rfl Da (gL g1 g2) a3 FL) rfl) ?_
 ·have z:szO [D.fn "joined" bA,.fn "common" bB,.fn "less" bO] (.tup [D.fn "joined" bA,.fn "common" bB,.fn "less" bO])=some (.tup [D.fn "joined" bA,.fn "common" bB,.fn "less" bO]):=cw (by simp)
  have sq:ge (.tup [D.fn "joined" bA,.fn "common" bB,.fn "less" bO])=some [D.fn "joined" bA,.fn "common" bB,.fn "less" bO]:=rfl
  simp[z,sq]
 refine vz (qD (bj rfl) rfl) ?_
 have lp:∀ S,∃ b12 b13 S',iq (gR jz (ac (ae 7) ah)) (jp 2 (aX (aJ 12) (aX (aJ 13) fw))) mL [some sc,some (.int m),some wd,some key,some (oD o),some (aI t1),some (aI t2),some (shD sh),some (.int p),some (.int q),some (.fn "less" bO),some (aI t1),none,none,none,none] S=okO (.next [some sc,some (.int m),some wd,some key,some (oD o),some (aI t1),some (aI t2),some (shD sh),some (.int p),some (.int q),some (.fn "less" bO),some (aI (kn o sh t1)),b12,b13,none,none]) S':=λS=>by
  obtain⟨ρ',S',el,hI⟩:=fG (u:=jp 2 (aX (aJ 12) (aX (aJ 13) fw))) (body:=mL)
   (λi ρ _ => ∃ (a:Tr) (b12 b13:Option D),GT W o a/\(∀ th,tev a th=tev t1 (ov (sh.take i) th))/\ρ=[some sc,some (.int m),some wd,some key,some (oD o),some (aI t1),some (aI t2),some (shD sh),some (.int p),some (.int q),some (.fn "less" bO),some (aI a),b12,b13,none,none])
   (cL 0 (sh.map shV)) 0 [some sc,some (.int m),some wd,some key,some (oD o),some (aI t1),some (aI t2),some (shD sh),some (.int p),some (.int q),some (.fn "less" bO),some (aI t1),none,none,none,none] S ⟨t1,none,none,g1,λth=>rfl,rfl⟩ (by
    rintro j d ρ S hd ⟨a,b12,b13,ga,ha,rfl⟩
    rw[ft,List.getElem?_map] at hd
    obtain⟨x,hx,rfl⟩:=Option.map_eq_some_iff.mp hd
    obtain⟨v,hv,rfl⟩:=Option.map_eq_some_iff.mp hx
    have hj:j<m:=by rw[← hs];exact (List.getElem?_eq_some_iff.mp hv).1
    simp only[Nat.zero_add] at ha ⊢
    have g:=qD (i:=11) (ρ:=[some sc,some (.int m),some wd,some key,some (oD o),some (aI t1),some (aI t2),some (shD sh),some (.int p),some (.int q),some (.fn "less" bO),some (aI a),some (.int (j:Nat)),some (shV v),none,none]) (cC rfl (FK (sl j v) ga) (bj (i:=11) rfl) (xx (i:=12) rfl (mS (i:=1) rfl tm) (bj (i:=13) rfl) (λS=>vc hm hb hj v S))) rfl
    obtain⟨S',e⟩:=g S
    exact⟨_,rfl,_,S',e,kn o (sho m j v) a,_,_,gK (sl j v) ga,λth=>by rw[eK (sl j v) ga,ha,Ab hs hj hv],rfl⟩)
  obtain⟨a,b12,b13,ga,ha,rfl⟩:=hI
  rw[Nat.zero_add,bE,List.length_map,List.take_length] at ha
  have:a=kn o sh t1:=ga.eq2 (gK hs g1) λth=>by rw[ha,eK hs g1]
  subst this
  refine⟨b12,b13,S',?_⟩
  have en:jz [shD sh]=some (cL 0 (sh.map shV)):=rfl
  rw[Bb]
  have:gR jz (ac (ae 7) ah) [some sc,some (.int m),some wd,some key,some (oD o),some (aI t1),some (aI t2),some (shD sh),some (.int p),some (.int q),some (.fn "less" bO),some (aI t1),none,none,none,none] S=okO (cL 0 (sh.map shV)) S:=by
   generalize shD sh=x1 at *
   simp[en]
  rw[this,bJ]
  exact el
 refine C6 λS=>?_
 obtain⟨b12,b13,S',el⟩:=lp S
 refine⟨_,S',el,?_⟩
 clear lp way el
 refine nw (oR (yS (kE (bj rfl) (cC rfl (FK hs g1) (bj rfl) (bj rfl)) (ne rfl)) (yS (kE (cC rfl (FK hs (gK hs g1)) (bj rfl) (bj rfl)) (bj rfl) (ne' b1)) (kE (cC rfl (FK hb g1) (bj rfl) (mS rfl tm)) (bj rfl) (ne' b2))))) ?_
 refine vz (qD (cC rfl (FF hp g1) (bj rfl) (bj rfl)) rfl) ?_
 refine vz (qD (cC rfl (FA hp g1) (bj rfl) (bj rfl)) rfl) ?_
 have s:∀ ρ:Rho,ρ[1]?=some (some (.int m))->ρ[4]?=some (some (oD o))->ρ[5]?=some (some (aI t1))->ρ[6]?=some (some (aI t2))->ρ[8]?=some (some (.int p))->ρ[9]?=some (some (.int q))->ρ[14]?=some (some (aI (fg o m p t1)))->ρ[15]?=some (some (aI (al o m p t1)))->Rt ρ (aK (cIf (bf (aE neD (aD aH (ac (aD bc (ac (ae 5) (ac (ae 6) (ac (ae 4) ah)))) (ac (ae 8) (ac (ae 4) ah)))) (aD bc (ac (ae 14) (ac (aD aH (ac (ae 6) (ac (ae 8) (ac (ae 4) ah)))) (ac (ae 4) ah)))))) (aP (aB (.bl false))) bR)
  (aK (cIf (bf (aE neD (aD cT (ac (aD bU (ac (ae 5) (ac (ae 6) (ac (ae 4) ah)))) (ac (ae 8) (ac (ae 4) ah)))) (aD bU (ac (ae 15) (ac (aD cT (ac (ae 6) (ac (ae 8) (ac (ae 4) ah)))) (ac (ae 4) ah)))))) (aP (aB (.bl false))) bR)
  (aK (cIf (bf (aE neD (aD aH (ac (ae 14) (ac (ae 9) (ac (ae 4) ah)))) (aD aH (ac (aD aH (ac (ae 5) (ac (ae 9) (ac (ae 4) ah)))) (ac (ae 8) (ac (ae 4) ah)))))) (aP (aB (.bl false))) bR)
  (aK (cIf (n0 (bf (aE neD (aD bc (ac (ae 15) (ac (ae 5) (ac (ae 4) ah)))) (ae 5))) (bf (aE neD (aD bc (ac (ae 5) (ac (ae 14) (ac (ae 4) ah)))) (ae 14)))) (aP (aB (.bl false))) bR)
  (aP (xl (aE eqD (ae 14) (aD aH (ac (ae 14) (ac (ae 8) (ac (ae 4) ah))))) (aE eqD (ae 14) (aD bw (ac (ae 14) (ac (aD jm (ac (aE iJ (aB (D.tup [D.non])) (ae 1)) (ac (ae 8) (ac (aB (.int 1)) ah)))) (ac (ae 4) ah))))))))))):=λρ v1 v4 w5 w6 w8 w9 w14 w15=>by
  have v5:=bj w5
  have v6:=bj w6
  have v8:=bj w8
  have v9:=bj w9
  have v14:=bj w14
  have v15:=bj w15
  refine nw (oR (kE (cC v4 (FF hp (gJ g1 g2)) (cC v4 (FJ g1 g2) v5 v6) v8) (cC v4 (FJ (gF g1) (gF g2)) v14 (cC v4 (FF hp g2) v6 v8)) (ne c1))) ?_
  refine nw (oR (kE (cC v4 (FA hp (gC g1 g2)) (cC v4 (FC g1 g2) v5 v6) v8) (cC v4 (FC (gA g1) (gA g2)) v15 (cC v4 (FA hp g2) v6 v8)) (ne c2))) ?_
  refine nw (oR (kE (cC v4 (FF hq (gF g1)) v14 v9) (cC v4 (FF hp (gF g1)) (cC v4 (FF hq g1) v5 v9) v8) (ne c3))) ?_
  refine nw (oR (yS (kE (cC v4 (FJ (gA g1) g1) v15 v5) v5 (ne' c4)) (kE (cC v4 (FJ g1 (gF g1)) v5 v14) v14 (ne' c5)))) ?_
  exact BA v14 (cC v4 (FF hp (gF g1)) v14 v8) v14 (cC v4 (FK (sl _ _) (gF g1)) v14 (xx w8 (mS v1 tm) (Bg _) (λS=>vc hm hb hp (some true) S))) (eq' c6) (eq' c7)
 exact s _ rfl rfl rfl rfl rfl rfl rfl rfl
theorem Cc (ns:List Int)(_:ns.length<=63):∃ S',zr [.lst (ns.map .int)] []=some (.ok (.bl true),S'):=by
 obtain⟨m,ss,kvs,d,o,h1,hm,hl6,hw,hpw,kq,kw,pm,em⟩:=Ar ns 8 (by decide) (by decide) []
 rw[List.nil_append] at em
 have em:kL [.lst (ns.map .int),.int 8] []=okO (.tup [.int m,.tup (ss.map .str),d,oD o]) [.dict kvs]:=em
 have x5:∀ S,aQ [.lst (ns.map .int),.int 5] S=okO (.int (mix ns 5)) S:=d_ ns 5
 have x6:∀ S,aQ [.lst (ns.map .int),.int 6] S=okO (.int (mix ns 6)) S:=d_ ns 6
 have x7:∀ S,aQ [.lst (ns.map .int),.int 7] S=okO (.int (mix ns 7)) S:=d_ ns 7
 have a5:cb (.int (mix ns 6)) (.int 5)=some (.int (mix ns 6 % 5)):=bo (by decide)
 have b5:=jO (mix ns 6) (show (0:Int)<5 by decide)
 have f5:eD (.int (mix ns 6)) (.int 5)=some (.int (mix ns 6 / 5)):=fq (by decide) (by decide)
 have f50:eD (.int (mix ns 6)) (.int 50)=some (.int (mix ns 6 / 50)):=fq (by decide) (by decide)
 have m5:cb (.int (mix ns 6 / 5)) (.int m)=some (.int (mix ns 6 / 5 % m)):=bo (by omega)
 have m50:cb (.int (mix ns 6 / 50)) (.int m)=some (.int (mix ns 6 / 50 % m)):=bo (by omega)
 have i5:=jO (mix ns 6 / 5) (show (0:Int)<m by omega)
 have i50:=jO (mix ns 6 / 50) (show (0:Int)<m by omega)
 obtain⟨dp,hdp⟩:∃ dp:Nat,1+mix ns 6 % 5=dp:=⟨(1+mix ns 6 % 5).toNat,by omega⟩
 obtain⟨p,hp⟩:∃ p:Nat,mix ns 6 / 5 % m=p:=⟨(mix ns 6 / 5 % m).toNat,by omega⟩
 obtain⟨q,hq⟩:∃ q:Nat,mix ns 6 / 50 % m=q:=⟨(mix ns 6 / 50 % m).toNat,by omega⟩
 rw[hp] at m5
 rw[hq] at m50
 have nd:o.Nodup:=pm.nodup_iff.mpr List.nodup_range
 have hol:o.length=m:=by rw[pm.length_eq,List.length_range]
 have ho:∀ c,c<m->c∈o:=λc hc=>pm.mem_iff.mpr (List.mem_range.mpr hc)
 have ho2:∀ c∈o,c<m:=λc hc=>List.mem_range.mp (pm.mem_iff.mp hc)
 have mk:∀ {d:D},KQ m 5 d->KW ss d->∀ S,∃ t S',iX [d,oD o] S=okO (aI t) S'/\GT ss o t:=λ{d} kq kw S=>by
  obtain⟨t,S',f,ot,tok,w,ev,sm,ln,_⟩:=xa nd (by omega) ho (by decide) kq S
  refine⟨t,S',f,ot,w,ev,λth=>?_,ln⟩
  obtain⟨s1,kv⟩:=kq.total th
  have e:=sm th s1 kv
  refine⟨?_,by rw[e];exact Dp kw kv⟩
  rw[e]
  exact Cd kq kv
 obtain⟨t1,S1,f1,g1⟩:=mk kq kw [.dict kvs]
 obtain⟨d2,e2,kq2,kw2⟩:=qF ss hl6 hw hpw m (by omega) (by omega) S1 8 dp (mix ns 7) (by omega) (nF _ _)
 obtain⟨t2,S2,f2,g2⟩:=mk (kq2.mono 5 (by omega)) kw2 S1
 obtain⟨sh,es,hs⟩:=xH (mix ns 5) (m:=m) (by omega) S2
 have eu:jp 4 (aX (aJ 1) (aX (aJ 2) (aX (aJ 3) (aX (aJ 4) fw)))) (.tup [.int m,.tup (ss.map .str),d,oD o]) [some (.lst (ns.map .int)),none,none,none,none,none,none,none,none,none,none,none,none,none,none,none]=some [some (.lst (ns.map .int)),some (.int m),some (.tup (ss.map .str)),some d,some (oD o),none,none,none,none,none,none,none,none,none,none,none]:=rfl
 obtain⟨S',qq⟩:=Bn nd hol (by omega) (by omega) ho2 hl6 (.lst (ns.map .int)) (.tup (ss.map .str)) d g1 g2 hs (p:=p) (q:=q) (by omega) (by omega) _ rfl S2
 refine⟨S',aA rfl ?_⟩
 unfold A8
 generalize (aK (iq _ _ _) _:Rho->Sto->Out Fl)=kk at qq ⊢
 clear mk g1 g2
 generalize aI t1=y1 at *
 generalize aI t2=y2 at *
 generalize shD sh=y3 at *
 generalize D.tup (ss.map .str)=wd at *
 generalize oD o=od at *
 generalize (D.lst (ns.map .int))=sc at *
 simp -implicitDefEqProofs [em,eu,f1,x5,x6,x7,a5,hdp,e2,f2,es,f5,m5,f50,m50,qq]
end K23
namespace K23
open PySem L2
theorem all_mk {l:PySem.W.OpenLaw}{w:World}{K:PySem.W.Frag}{h:Heap}{mg:Str->Option Value}{fa:Addr}(hfa:mg "law"=some (.ref fa))(T:Top K mg) :
  ∃ fd:FuncData,(∀ (s:Shared) (v:Value),BindsTo s fd ⟨[v],[]⟩ [("_law_script",v)])/\∀ base:Heap,K.In base->base.Ns mainGlobals mg->FnOk l.prog w K mg base CX0 38 fa fd ["_law_script"] (u4 K 63):=by
 obtain⟨f,fd,Fn,hm,hb⟩:=T.d_law
 have e:=hfa.symm.trans hm
 cases e
 have ok:∀ base:Heap,FnD l.prog w K mg base 38 fa fd ["_law_script"] zr:=λbase=>Cp T Fn
 obtain⟨oc,od,kV,doc,pm,an,cdv,ct,osl,rfl,lk,hcd⟩:=Fn.ex
 exact⟨_,λs v => .of_eq rfl,λbase _ _=>Cb (ok base) (by decide) λns hl=>Cc ns hl⟩
end K23
open PySem PySem.W PyProof.Rows
namespace PySem.W.Fast
def tw6886251533941390508:=0
def tw17156499498886098679:=0
def tw5681993076575706115:=0
def tw15913782045169724391:=0
def tw1608339360199096704:=0
def tw529138523530096444:=0
def tw17191554194569248663:=0
def tw17961859901400686515:=0
def tw5975461780471964859:=0
def tw11220452974359686682:=0
def tw5674318012621738853:=0
def tw12577784389871991242:=0
def tw17306965789766129383:=0
def tw2866467061250720410:=0
def tw5614686242544357600:=0
def tw11056633443138226564:=0
def tw5040220702667255331:=0
def tw15410644619622261235:=0
def tw12581396383266024058:=0
def tw6243058966312102463:=0
def tw18094505598160704706:=0
def tw8652819707859330525:=0
def tw1871284111306326543:=0
def tw4023036783283680199:=0
def tw6228355772306997530:=0
def tw9140320865287819254:=0
def tw507423232317311884:=0
def tw14126498764727057176:=0
def tw4753432939230738402:=0
def tw5574286422195960609:=0
def tw13664245301587947837:=0
def tw3272447723962487173:=0
def tw14327638324596009954:=0
def tw11630001195257177041:=0
def tw15260714699700922516:=0
def tw6030613319224891442:=0
def tw8414632738409335797:=0
def tw17651089453128627847:=0
def tw12908320522371851419:=0
def tw13139780576359700252:=0
def tw7474814638712065285:=0
def tw10987663586205155578:=0
def tw10100783492959312047:=0
def tw11663654152940453987:=0
def tw13221141452119777099:=0
def tw14193927276850264522:=0
def tw16601987270542635317:=0
def tw11674723581193361342:=0
def tw8268216557561615187:=0
def tw3414262996707276246:=0
def tw5821650673481319390:=0
def tw69167840828844934:=0
def tw12028928449759930607:=0
def tw13582656087166736118:=0
def tw16464922733513476963:=0
def tw13067004997268308469:=0
def tw15392202407592124279:=0
def tw3734891056002274887:=0
def tw18078942838545001200:=0
def tw11637169865931209239:=0
def tw1883878980113342769:=0
def tw11168833046496135622:=0
def tw2689189359376411091:=0
def tw6056578086633087249:=0
def tw5309597644442823167:=0
def tw11501067163757442274:=0
def tw8530007839135888837:=0
def tw6198799305326147721:=0
def tw4569226266122935522:=0
def tw7216317008282451868:=0
def tw8796532391184552404:=0
def tw9938830499120545557:=0
def tw9900512731393481026:=0
def tw15897922193115445680:=0
def tw2976215747478877745:=0
def tw13884349005220036351:=0
def tw9813272554822405283:=0
def tw5398215770393640291:=0
def tw882085725952654813:=0
def tw11621009695012777065:=0
def tw10063213723969996225:=0
def tw10111341765140921318:=0
def tw1896903311419998979:=0
def tw8145960158269655817:=0
def tw17634224541912415264:=0
def tw18149068535838232081:=0
def tw8426768709524447848:=0
def tw7956783054762724620:=0
def tw7735115819144712834:=0
def tw17236972663749211065:=0
def tw5176298456978686280:=0
def tw6365067548233780485:=0
def tw6578290972826202023:=0
def tw1376202928424070077:=0
def tw3883058702101686314:=0
def tw7025252779762119730:=0
def tw17410105441677840640:=0
def tw6549589502555998904:=0
def tw7716301045979282568:=0
def tw6792918907011590688:=0
def tw16333582973303045719:=0
def tw12910133026435283386:=0
def tw213843066335063018:=0
def tw12587963308584199392:=0
def tw16516156093801226017:=0
def tw6224458729783375349:=0
def tw13371687809248879913:=0
def tw3383024977230265131:=0
def tw14992060166281446329:=0
def tw5775994350750549665:=0
def tw5889390392075337802:=0
def tw5314230714414366707:=0
def tw10061567422975713076:=0
def tw11304526469464898275:=0
def tw8088907155588899842:=0
def tw2171328318522615484:=0
def tw16962217607148317048:=0
def tw18221329116087481961:=0
def tw13255961858890587385:=0
def tw11890025624023652259:=0
def tw16737123669534236156:=0
def tw5055265145251751821:=0
def tw13305505764243297199:=0
def tw5947875684525716476:=0
def tw4744442067177853158:=0
def tw8686248083059761959:=0
def tw13574074335895565270:=0
def tw14365590471949726995:=0
def tw8636311312501531818:=0
def tw3149425731203974252:=0
def tw15525048115548611143:=0
def tw15950764746248913854:=0
def tw8901605916079969844:=0
def tw14115402598022058351:=0
def tw13610318981956370628:=0
def tw18342872790170021815:=0
def tw14082775347965039777:=0
def tw12462411393536005482:=0
def tw2138062072713123830:=0
def tw6979942803717050619:=0
def tw2986934171156949816:=0
def tw14415722024830290657:=0
def tw16525518874047602856:=0
def tw10241057123065684034:=0
def tw327379908567828693:=0
def tw1106593884145507840:=0
def tw1536003183157029893:=0
def tw7675526335076704339:=0
def tw4773393977891352571:=0
def tw13096112449521449843:=0
def tw3678254791575039350:=0
def tw10589696716379039230:=0
def tw431646974669905327:=0
def tw3580845616212077222:=0
def tw1567447376491960550:=0
def tw5632956496345541675:=0
def tw17957672953860082847:=0
def tw11082897575487582742:=0
def tw17570274382712731655:=0
def tw537294038329450139:=0
def tw17211328715428446009:=0
def tw17977939365422228763:=0
def tw3967026176557411606:=0
def tw16713630612347144651:=0
def tw17705799656528558902:=0
def tw14725745023053281537:=0
def tw389580359540248719:=0
def tw13811330517837538944:=0
def tw13106876912403098241:=0
def tw1316750810602815862:=0
def tw17004869350284764983:=0
def tw10648445265894568758:=0
def tw14975935739908829071:=0
def tw3749745747814498262:=0
def tw4863540473173568352:=0
def tw18228828811955321868:=0
def tw480153471288590149:=0
def tw16592004632450867651:=0
def tw4603957004602861012:=0
def tw17356817107258102839:=0
def tw6943703157800375138:=0
def tw9760007720521327020:=0
def tw14465467694803065759:=0
def tw1533510560502559420:=0
def tw10522258308033721084:=0
def tw8641066380523017634:=0
def tw2714592748245578302:=0
def tw14426072963246294543:=0
def tw3469117983994921296:=0
def tw17264231637099502539:=0
def tw7438220433994138174:=0
def tw13903127820444792854:=0
def tw12650287636552794179:=0
def tw14208252685929082156:=0
def tw6617191027539056531:=0
def tw9515964280369401597:=0
def tw1996422113095457916:=0
def tw845641917123677242:=0
def tw16627019324294652489:=0
def tw11584440394347704488:=0
def tw6023816602566929146:=0
def tw8693131861191951306:=0
def tw4388255704883025553:=0
def tw3229867078583033570:=0
def tw8957119839170087830:=0
def tw1724494343872832200:=0
def tw13748677434290021308:=0
end PySem.W.Fast
set_option maxRecDepth 100000 in
set_option maxHeartbeats 0 in
theorem PySem.Challenge.cw_keyfold_k23_whole_cuts_meet_holds : PySem.Challenge.rw_keyfold_k23_whole_cuts_meet.Holds := by
 w_on;o_law;k_head;(case hw=>w_witness2)
 k_fill
 refine L2.law_walk (l:=PySem.Challenge.rw_keyfold_k23_whole_cuts_meet) (k:=38) (x:="_law_script") rfl rfl ⟨rfl,by decide,by decide,rfl⟩ (λw h Y=>PySem.W.kIn_of Y) ?F
 case F =>
  intro w mg fa h KX G hmg
  refine' K23.all_mk (h:=h) hmg (K23.top_mk KX G ?n_Pairs ?k0_Pairs ?k1_Pairs ?k2_Pairs ?k3_Pairs ?k4_Pairs ?k5_Pairs ?n_Rows ?k0_Rows ?k1_Rows ?k2_Rows ?k3_Rows ?k4_Rows ?k5_Rows ?a0 ?q0 ?a1 ?q1 ?a2 ?q2 ?a3 ?q3 ?a4 ?q4 ?a5 ?q5 ?a6 ?q6 ?a7 ?i7 ?q7 ?a8 ?i8 ?q8 ?a9 ?i9 ?q9 ?a10 ?i10 ?q10 ?a11 ?i11 ?q11 ?a12 ?i12 ?q12 ?a13 ?q13 ?a14 ?q14 ?a15 ?q15 ?a16 ?i16 ?q16 ?a17 ?i17 ?q17 ?a18 ?q18 ?a19 ?q19 ?a20 ?q20 ?a21 ?q21 ?a22 ?q22 ?a23 ?q23 ?a24 ?q24 ?a25 ?q25 ?a26 ?q26 ?a27 ?q27 ?a28 ?q28 ?a29 ?i29 ?q29 ?a30 ?i30 ?q30 ?a31 ?i31 ?q31 ?a32 ?i32 ?q32 ?a33 ?q33 ?a34 ?q34 ?a35 ?q35 ?a36 ?q36 ?a37 ?q37 ?a38 ?q38 ?a39 ?q39 ?a40 ?q40 ?a41 ?q41 ?a42 ?q42 ?a43 ?q43 ?a44 ?q44 ?a45 ?q45 ?z_len ?z_list ?z_enumerate ?z_tuple ?z_zip ?z_sorted ?z_set ?z_min ?z_range ?z_int ?g_Rows_order ?g_Rows_gathered ?g_Rows_numbers ?g_Rows_choices ?g_Pairs_folds ?g_Pairs_rows ?g_Pairs_made)
  (case n_Pairs=>k_is)
  (case k0_Pairs=>k_is)
  (case k1_Pairs=>k_is)
  (case k2_Pairs=>k_is)
  (case k3_Pairs=>k_is)
  (case k4_Pairs=>k_is)
  (case k5_Pairs=>k_is)
  (case n_Rows=>k_is)
  (case k0_Rows=>k_is)
  (case k1_Rows=>k_is)
  (case k2_Rows=>k_is)
  (case k3_Rows=>k_is)
  (case k4_Rows=>k_is)
  (case k5_Rows=>k_is)
  (case a0=>k_is)
  (case q0=>refine' L2.fE ?l ?c ?k;(case l=>k_is);(case c=>k_is);(case k=>k_is))
  (case a1=>k_is)
  (case q1=>refine' L2.fE ?l ?c ?k;(case l=>k_is);(case c=>k_is);(case k=>k_is))
  (case a2=>k_is)
  (case q2=>refine' L2.fE ?l ?c ?k;(case l=>k_is);(case c=>k_is);(case k=>k_is))
  (case a3=>k_is)
  (case q3=>refine' L2.fE ?l ?c ?k;(case l=>k_is);(case c=>k_is);(case k=>k_is))
  (case a4=>k_is)
  (case q4=>refine' L2.fE ?l ?c ?k;(case l=>k_is);(case c=>k_is);(case k=>k_is))
  (case a5=>k_is)
  (case q5=>refine' L2.fE ?l ?c ?k;(case l=>k_is);(case c=>k_is);(case k=>k_is))
  (case a6=>k_is)
  (case q6=>refine' L2.fE ?l ?c ?k;(case l=>k_is);(case c=>k_is);(case k=>k_is))
  (case a7=>k_is)
  (case i7=>k_is)
  (case q7=>refine' L2.fE ?l ?c ?k;(case l=>k_is);(case c=>k_is);(case k=>k_is))
  (case a8=>k_is)
  (case i8=>k_is)
  (case q8=>refine' L2.fE ?l ?c ?k;(case l=>k_is);(case c=>k_is);(case k=>k_is))
  (case a9=>k_is)
  (case i9=>k_is)
  (case q9=>refine' L2.fE ?l ?c ?k;(case l=>k_is);(case c=>k_is);(case k=>k_is))
  (case a10=>k_is)
  (case i10=>k_is)
  (case q10=>refine' L2.fE ?l ?c ?k;(case l=>k_is);(case c=>k_is);(case k=>k_is))
  (case a11=>k_is)
  (case i11=>k_is)
  (case q11=>refine' L2.fE ?l ?c ?k;(case l=>k_is);(case c=>k_is);(case k=>k_is))
  (case a12=>k_is)
  (case i12=>k_is)
  (case q12=>refine' L2.fE ?l ?c ?k;(case l=>k_is);(case c=>k_is);(case k=>k_is))
  (case a13=>k_is)
  (case q13=>refine' L2.fE ?l ?c ?k;(case l=>k_is);(case c=>k_is);(case k=>k_is))
  (case a14=>k_is)
  (case q14=>refine' L2.fE ?l ?c ?k;(case l=>k_is);(case c=>k_is);(case k=>k_is))
  (case a15=>k_is)
  (case q15=>refine' L2.fE ?l ?c ?k;(case l=>k_is);(case c=>k_is);(case k=>k_is))
  (case a16=>k_is)
  (case i16=>k_is)
  (case q16=>refine' L2.fE ?l ?c ?k;(case l=>k_is);(case c=>k_is);(case k=>k_is))
  (case a17=>k_is)
  (case i17=>k_is)
  (case q17=>refine' L2.fE ?l ?c ?k;(case l=>k_is);(case c=>k_is);(case k=>k_is))
  (case a18=>k_is)
  (case q18=>refine' L2.fE ?l ?c ?k;(case l=>k_is);(case c=>k_is);(case k=>k_is))
  (case a19=>k_is)
  (case q19=>refine' L2.fE ?l ?c ?k;(case l=>k_is);(case c=>k_is);(case k=>k_is))
  (case a20=>k_is)
  (case q20=>refine' L2.fE ?l ?c ?k;(case l=>k_is);(case c=>k_is);(case k=>k_is))
  (case a21=>k_is)
  (case q21=>refine' L2.fE ?l ?c ?k;(case l=>k_is);(case c=>k_is);(case k=>k_is))
  (case a22=>k_is)
  (case q22=>refine' L2.fE ?l ?c ?k;(case l=>k_is);(case c=>k_is);(case k=>k_is))
  (case a23=>k_is)
  (case q23=>refine' L2.fE ?l ?c ?k;(case l=>k_is);(case c=>k_is);(case k=>k_is))
  (case a24=>k_is)
  (case q24=>refine' L2.fE ?l ?c ?k;(case l=>k_is);(case c=>k_is);(case k=>k_is))
  (case a25=>k_is)
  (case q25=>refine' L2.fE ?l ?c ?k;(case l=>k_is);(case c=>k_is);(case k=>k_is))
  (case a26=>k_is)
  (case q26=>refine' L2.fE ?l ?c ?k;(case l=>k_is);(case c=>k_is);(case k=>k_is))
  (case a27=>k_is)
  (case q27=>refine' L2.fE ?l ?c ?k;(case l=>k_is);(case c=>k_is);(case k=>k_is))
  (case a28=>k_is)
  (case q28=>refine' L2.fE ?l ?c ?k;(case l=>k_is);(case c=>k_is);(case k=>k_is))
  (case a29=>k_is)
  (case i29=>k_is)
  (case q29=>refine' L2.fE ?l ?c ?k;(case l=>k_is);(case c=>k_is);(case k=>k_is))
  (case a30=>k_is)
  (case i30=>k_is)
  (case q30=>refine' L2.fE ?l ?c ?k;(case l=>k_is);(case c=>k_is);(case k=>k_is))
  (case a31=>k_is)
  (case i31=>k_is)
  (case q31=>refine' L2.fE ?l ?c ?k;(case l=>k_is);(case c=>k_is);(case k=>k_is))
  (case a32=>k_is)
  (case i32=>k_is)
  (case q32=>refine' L2.fE ?l ?c ?k;(case l=>k_is);(case c=>k_is);(case k=>k_is))
  (case a33=>k_is)
  (case q33=>refine' L2.fE ?l ?c ?k;(case l=>k_is);(case c=>k_is);(case k=>k_is))
  (case a34=>k_is)
  (case q34=>refine' L2.fE ?l ?c ?k;(case l=>k_is);(case c=>k_is);(case k=>k_is))
  (case a35=>k_is)
  (case q35=>refine' L2.fE ?l ?c ?k;(case l=>k_is);(case c=>k_is);(case k=>k_is))
  (case a36=>k_is)
  (case q36=>refine' L2.fE ?l ?c ?k;(case l=>k_is);(case c=>k_is);(case k=>k_is))
  (case a37=>k_is)
  (case q37=>refine' L2.fE ?l ?c ?k;(case l=>k_is);(case c=>k_is);(case k=>k_is))
  (case a38=>k_is)
  (case q38=>refine' L2.fE ?l ?c ?k;(case l=>k_is);(case c=>k_is);(case k=>k_is))
  (case a39=>k_is)
  (case q39=>refine' L2.fE ?l ?c ?k;(case l=>k_is);(case c=>k_is);(case k=>k_is))
  (case a40=>k_is)
  (case q40=>refine' L2.fE ?l ?c ?k;(case l=>k_is);(case c=>k_is);(case k=>k_is))
  (case a41=>k_is)
  (case q41=>refine' L2.fE ?l ?c ?k;(case l=>k_is);(case c=>k_is);(case k=>k_is))
  (case a42=>k_is)
  (case q42=>refine' L2.fE ?l ?c ?k;(case l=>k_is);(case c=>k_is);(case k=>k_is))
  (case a43=>k_is)
  (case q43=>refine' L2.fE ?l ?c ?k;(case l=>k_is);(case c=>k_is);(case k=>k_is))
  (case a44=>k_is)
  (case q44=>refine' L2.fE ?l ?c ?k;(case l=>k_is);(case c=>k_is);(case k=>k_is))
  (case a45=>k_is)
  (case q45=>refine' L2.fE ?l ?c ?k;(case l=>k_is);(case c=>k_is);(case k=>k_is))
  (case z_len=>k_is)
  (case z_list=>k_is)
  (case z_enumerate=>k_is)
  (case z_tuple=>k_is)
  (case z_zip=>k_is)
  (case z_sorted=>k_is)
  (case z_set=>k_is)
  (case z_min=>k_is)
  (case z_range=>k_is)
  (case z_int=>k_is)
  (case g_Rows_order=>k_is)
  (case g_Rows_gathered=>k_is)
  (case g_Rows_numbers=>k_is)
  (case g_Rows_choices=>k_is)
  (case g_Pairs_folds=>k_is)
  (case g_Pairs_rows=>k_is)
  (case g_Pairs_made=>k_is)
