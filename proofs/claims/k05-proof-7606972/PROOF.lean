import PyProof.Rows.All
import Wide.All
import OpenK.AllK
import Wide.FinOn
import Lean
import PyProof.EqAt
import PyProof.EqKinds
import PyProof.TupleCall
import PyProof.Rows.SortShellK
import PyProof.Rows.SortWalk
import PyProof.SetRoads
import PyProof.SetNew
import PyProof.CollectIter
import PyProof.DictWalks
import PyProof.Walks
import PyProof.RulesTry
import PyProof.FactsAll.set
import PyProof.WalksMore
import PyProof.FactsAll.subtypes
import PyProof.ExcAttrAll.ValueError
import PyProof.Rows.StrJoin2
import PyProof.Rows.FStr
import PyProof.ExcBaseAll.ValueError
import PyProof.StrCalls2
import PyProof.StrBlockH
import PyProof.MeetsStr2
import PyProof.Rows.SeqMore2
import KE.KDictList
import PyProof.StrLawsRepr
import PyProof.ReprText
import PyProof.Rows.StrSplitCount
import PyProof.Rows.StrSplitJoin
import PyProof.Rows.StrSplitAre
import PyProof.StrLawsTight
import PyProof.StrLawsChain
import PySem.Challenge.RW_keyfold_k05_whole_read
set_option Elab.async false
set_option linter.all false
set_option maxRecDepth 100000
set_option maxHeartbeats 4000000
set_option compiler.extract_closed false
noncomputable section
namespace L2
open PySem PySem.Spec PyProof.Rows
noncomputable instance pyDec:DecidableEq PyData:=λa b=>Classical.propDecidable (a=b)
noncomputable def keyOk:Nat->PyData->Bool
 |_,.int _=>true
 |_,.str x=>PyData.strOk x
 |n+1,.tuple xs=>xs.all (keyOk n)
 |_,_=>false
noncomputable def pyH (w:World):Nat->PyData->Int
 |_,.int i=>hashInt i
 |_,.str x=>hashStr w x
 |n+1,.tuple xs=>reduceHash (Builtin.Tuple.tupleHashOf (xs.map (pyH w n)))
 |_,_ => 0
noncomputable def uF:Nat->PyData->Nat
 |n+1,.tuple xs=>(xs.map (uF n)).sum+1
 |_,_ => 1
theorem bV {n:Nat}{xs:List PyData}(h:keyOk (n+1) (.tuple xs)=true):∀ x∈xs,keyOk n x=true:=by
 rw[keyOk,List.all_eq_true] at h;exact h
theorem jN:∀ {n:Nat}{p:PyData},keyOk n p=true->p.canLay0=true:=by
 intro n
 induction n with
 |zero =>
  intro p h
  cases p with
  |int i=>rfl
  |str x=>rw[PyData.canLay0];simpa [keyOk] using h
  |_=>simp[keyOk] at h
 |succ n ih =>
  intro p h
  cases p with
  |int i=>rfl
  |str x=>rw[PyData.canLay0];simpa [keyOk] using h
  |tuple xs =>
   rw[PyData.canLay0]
   have:=bV h
   clear h
   induction xs with
   |nil=>rfl
   |cons x xs ih2=>rw[PyData.canLayAll0,ih (this x (by simp)),ih2 λy hy=>this y (by simp[hy])];rfl
  |_=>simp[keyOk] at h
theorem qk:∀ {n:Nat}{p:PyData},keyOk n p=true->p.depth<=n:=by
 intro n
 induction n with
 |zero =>
  intro p h
  cases p<;>first |(simp[keyOk] at h;done) |simp[PyData.depth]
 |succ n ih =>
  intro p h
  cases p with
  |tuple xs =>
   rw[PyData.depth]
   have:=bV h
   clear h
   refine Nat.succ_le_succ ?_
   induction xs with
   |nil=>rw[PyData.depthAll];omega
   |cons x xs ih2=>rw[PyData.depthAll];exact Nat.max_le.mpr ⟨ih (this x (by simp)),ih2 λy hy=>this y (by simp[hy])⟩
  |int i=>simp[PyData.depth]
  |str i=>simp[PyData.depth]
  |_=>simp[keyOk] at h
theorem u0:∀ {n:Nat}{p q:PyData},keyOk n p=true->keyOk n q=true->PyData.eqv p q=decide (p=q):=by
 have str:∀ x y:Str,PyData.eqv (.str x) (.str y)=decide (PyData.str x = .str y):=λx y=>by
  rw[PyData.eqv]
  by_cases e:x=y
  ·subst e;simp
  ·rw[beq_eq_false_iff_ne.mpr e,decide_eq_false (λz=>e (PyData.str.inj z))]
 have int:∀ x y:Int,PyData.eqv (.int x) (.int y)=decide (PyData.int x = .int y):=λx y=>by
  rw[PyData.eqv]
  by_cases e:x=y
  ·subst e;simp
  ·rw[beq_eq_false_iff_ne.mpr e,decide_eq_false (λz=>e (PyData.int.inj z))]
 have dif:∀ p q:PyData,p≠q->false=decide (p=q):=λp q h=>(decide_eq_false h).symm
 intro n
 induction n with
 |zero =>
  intro p q hp hq
  cases p<;>first |(simp[keyOk] at hp;done) |skip<;>cases q<;>first |(simp[keyOk] at hq;done) |exact int _ _ |exact str _ _ |exact dif _ _ (λz=>nomatch z)
 |succ n ih =>
  intro p q hp hq
  cases p with
  |tuple xs =>
   cases q with
   |tuple ys =>
    rw[PyData.eqv]
    have h1:=bV hp
    have h2:=bV hq
    clear hp hq
    have aux:PyData.eqvAll xs ys=decide (xs=ys):=by
     induction xs generalizing ys with
     |nil=>cases ys<;>simp[PyData.eqvAll]
     |cons x xs ih2 =>
      cases ys with
      |nil=>simp[PyData.eqvAll]
      |cons y ys =>
       rw[PyData.eqvAll,ih (h1 x (by simp)) (h2 y (by simp)),ih2 ys (λz hz=>h1 z (by simp[hz])) (λz hz=>h2 z (by simp[hz]))]
       by_cases e:x=y
       ·subst e;simp
       ·simp[e]
    rw[aux]
    by_cases e:xs=ys
    ·subst e;simp
    ·rw[decide_eq_false e,decide_eq_false (λz=>e (PyData.tuple.inj z))]
   |int i=>rw[PyData.eqv];exact dif _ _ (λz=>nomatch z)
   |str i=>rw[PyData.eqv];exact dif _ _ (λz=>nomatch z)
   |_=>simp[keyOk] at hq
  |int i =>
   cases q with
   |int j=>exact int _ _
   |str j=>rw[PyData.eqv];exact dif _ _ (λz=>nomatch z)
   |tuple j=>rw[PyData.eqv];exact dif _ _ (λz=>nomatch z)
   |_=>simp[keyOk] at hq
  |str i =>
   cases q with
   |int j=>rw[PyData.eqv];exact dif _ _ (λz=>nomatch z)
   |str j=>exact str _ _
   |tuple j=>rw[PyData.eqv];exact dif _ _ (λz=>nomatch z)
   |_=>simp[keyOk] at hq
  |_=>simp[keyOk] at hp
theorem pO {h h':Heap}{d:Addr}{o:Obj}{es ep}(ho:h.get? d=some o)(hd:o.data = .dict es ep)(hs:Heap.SameBut d h h'):∀ {n:Nat}{p:PyData}{v:Value}{as:List Addr},keyOk n p=true->Reads h v p as->Reads h' v p as:=by
 intro n
 induction n with
 |zero =>
  intro p v as hp r
  cases r with
  |int i t=>exact .int i t
  |str x t=>exact .str x t
  |_=>simp[keyOk] at hp
 |succ n ih =>
  intro p v as hp r
  cases r with
  |int i t=>exact .int i t
  |str x t=>exact .str x t
  | @tuple a o' vs m xs as h1 h2 h3 h4 =>
   have hne:a≠d:=by
    rintro rfl
    rw[ho] at h1;cases h1
    rw[hd] at h3;exact nomatch h3
   refine .tuple ((hs.2 a hne).trans h1) h2 h3 ?_
   have it:=bV hp
   clear hp h1 h2 h3
   generalize vs.toList=l at h4
   induction xs generalizing l as with
   |nil=>cases h4;exact .nil
   |cons x xs ih2 =>
    cases h4 with
    |cons r1 r2=>exact .cons (ih (it x (by simp)) r1) (ih2 (λy hy=>it y (by simp[hy])) _ r2)
  |_=>simp[keyOk] at hp
section
variable {prog:Program}{w:World}{A:Around}{E:Value->Shared->Prop}{s:Shared}
theorem rZ:∀ {n:Nat}{p:PyData}{A:Around}{s:Shared}{v:Value}{as:List Addr}{Q:Int->Shared->Prop},keyOk n p=true->A.units+n<cLine->Reads s.heap v p as->Q (pyH w n p) { s with toks:=s.toks+uF n p } ->
  wpAny (model prog w) A (pyHash v) Q E s:=by
 intro n
 induction n with
 |zero =>
  intro p A s v as Q hp hu r h
  cases r with
  |int i t=>exact wpAny_pyHash_int h
  |str x t=>exact wpAny_pyHash_str h
  |_=>simp[keyOk] at hp
 |succ n ih =>
  intro p A s v as Q hp hu r h
  cases r with
  |int i t=>exact wpAny_pyHash_int h
  |str x t=>exact wpAny_pyHash_str h
  | @tuple a o items m xs as ho hc hd hi =>
   have hT:s.TypeIs (.ref a) "tuple":=⟨o,ho,hc⟩
   have it:=bV hp
   unfold pyHash
   first |unfold pyHashByItsType |skip
   first |refine wpAny_bind (wpAny_cRoomFor_or (.inr (by omega)) ?_) |skip
   refine wpAny_bind (wpAny_specialOf hT F.slot_tuple_hash.lookup ?_)
   show wpAny _ _ (if (some (Value.builtin "tuple.__hash__")==some Value.none)=true then _ else _) Q E s
   rw[if_neg (by rw[beq_builtin_none];exact Bool.false_ne_true)]
   refine wpAny_bind (wpAny_specialOf hT F.slot_tuple_hash.lookup ?_)
   show wpAny _ _ (callSpecialIfBoundUnlessNone? (.ref a) "__hash__" _ >>= _) Q E s
   refine wpAny_bind (wpAny_callSpecialIfBoundUnlessNone?_slot hT F.slot_tuple_hash (wpAny_call_entry F.slot_tuple_hash hT F.entry_tuple_hash ?_ (F.args_tuple_hash_1 _)))
   show wpAny _ _ (Builtin.Tuple.tupleItemsOf (.ref a) >>= _) _ _ s
   refine wpAny_bind (wpAny_tupleItemsOf ho hd ?_)
   refine wpAny_bind ?_
   rw[← Array.forIn_toList]
   refine wpAny_forIn_list _
    (λrest (b:Array Int) s' => ∃ done left bs,xs=done++left/\ReadsAll s.heap rest left bs/\b.toList=done.map (pyH w n)/\s'={ s with toks:=s.toks+(done.map (uF n)).sum })
    _ ?_ ?_ _ _ ⟨[],xs,as,rfl,hi,rfl,rfl⟩
   ·rintro x rest b s' ⟨done,left,bs,rfl,hl,hb,rfl⟩
    cases hl with
    | @cons _ _ k ks' as1 bs1 h1 hl' =>
     refine wpAny_bind (ih (A:=A.in1) (it k (by simp)) (by show A.units+1+n<cLine;omega) (s:={ s with toks:=s.toks+(done.map (uF n)).sum }) h1 ?_)
     first
      |exact wpAny_pure ⟨done++[k],ks',bs1,by simp,hl',by simp[hb],by simp[Nat.add_assoc]⟩
      |exact wpAny_bind (wpAny_pure (wpAny_pure ⟨done++[k],ks',bs1,by simp,hl',by simp[hb],by simp[Nat.add_assoc]⟩))
   ·rintro b s' ⟨done,left,bs,rfl,hl,hb,rfl⟩
    cases hl
    rw[List.append_nil] at h
    show wpAny _ _ (retInt (Builtin.Tuple.tupleHashOf b.toList)) _ _ _
    rw[hb]
    refine wpAny_ret_mkInt ?_
    show wpAny _ _ (if (decide (-(2:Int) ^ 63<=Builtin.Tuple.tupleHashOf (done.map (pyH w n)))&&decide (Builtin.Tuple.tupleHashOf (done.map (pyH w n))<2 ^ 63))=true then _ else _) Q E _
    rw[pyH,uF] at h
    unfold reduceHash at h
    by_cases hr:(decide (-(2:Int) ^ 63<=Builtin.Tuple.tupleHashOf (done.map (pyH w n)))&&decide (Builtin.Tuple.tupleHashOf (done.map (pyH w n))<2 ^ 63))=true
    ·rw[if_pos hr]
     rw[if_pos hr] at h
     exact wpAny_pure (by simpa [Nat.add_assoc] using h)
    ·rw[if_neg hr]
     rw[if_neg hr] at h
     exact wpAny_bind (wpAny_rule (wpAny_pure (by simpa [Nat.add_assoc] using h)))
  |_=>simp[keyOk] at hp
theorem pP:∀ {n:Nat}{p:PyData}{s:Shared}{v:Value}{as:List Addr}{Q:Bool->Shared->Prop},keyOk n p=true->Reads s.heap v p as->Q true s->wpAny (model prog w) A (eqIsQuiet n v) Q E s:=by
 intro n
 induction n with
 |zero =>
  intro p s v as Q hp r h
  cases r with
  |int i t=>unfold eqIsQuiet;exact wpAny_pure h
  |str x t=>unfold eqIsQuiet;exact wpAny_pure h
  |_=>simp[keyOk] at hp
 |succ n ih =>
  intro p s v as Q hp r h
  cases r with
  |int i t=>unfold eqIsQuiet;exact wpAny_pure h
  |str x t=>unfold eqIsQuiet;exact wpAny_pure h
  | @tuple a o items m xs as ho hc hd hi =>
   have hT:s.TypeIs (.ref a) "tuple":=⟨o,ho,hc⟩
   have it:=bV hp
   unfold eqIsQuiet
   refine wpAny_bind (wpAny_specialOf hT F.slot_tuple_eq.lookup ?_)
   show wpAny _ _ (isInstance (.ref a) (.type "tuple") >>= _) _ _ s
   refine wpAny_bind (wpAny_isInstance hT isSubtype_tuple_tuple ?_)
   simp only[Bool.not_true,Bool.false_eq_true,if_false]
   refine wpAny_bind (wpAny_seqItems ho hd ?_)
   refine wpAny_bind ?_
   show wpAny _ _ (forIn items _ _) _ _ s
   rw[← Array.forIn_toList]
   refine wpAny_forIn_list _ (λrest r s'=>r.1=none/\s'=s/\∃ left bs,ReadsAll s.heap rest left bs/\∀ x∈left,keyOk n x=true) _ ?_ ?_ _ _ ⟨rfl,rfl,xs,as,hi,it⟩
   ·rintro v rest r s' ⟨hr,rfl,left,bs,hl,hk⟩
    cases hl with
    | @cons _ _ k ks' as1 bs1 h1 hl' =>
     refine wpAny_bind (ih (hk k (by simp)) h1 ?_)
     simp only[Bool.not_true,Bool.false_eq_true,if_false]
     exact wpAny_pure ⟨rfl,rfl,ks',bs1,hl',λy hy=>hk y (by simp[hy])⟩
   ·rintro⟨r1,r2⟩ s' ⟨hr,rfl,_⟩
    simp only at hr
    subst hr
    exact wpAny_pure h
  |_=>simp[keyOk] at hp
end
noncomputable def xg (prog:Program) (w:World):HeapKind prog w PyData where
 is:=λh p a=>keyOk 8 p=true/\∃ as,Reads h (.ref a) p as
 hash:=pyH w 8
 draws:=uF 8
 room:=λA=>A.units+8<cLine
 inj:=λ⟨h1,as,r1⟩ ⟨_,bs,r2⟩=>SeqAt.Reads.unique _ _ _ _ _ (jN h1) r1 r2
 keeps:=λ⟨h1,as,r1⟩ ho hd hs=>⟨h1,as,pO ho hd hs h1 r1⟩
 pyHash:=λhu ⟨h1,as,r1⟩ h=>rZ h1 hu r1 h
 eqBool:=λ{A E s x y a b Q} hu ⟨h1,as,r1⟩ ⟨h2,bs,r2⟩ h=>SeqAt.eqBoolOverData prog w A E s _ _ _ _ _ _ Q r1 r2 (jN h1) (jN h2) (by have:=qk h1;omega) (by rw[u0 h1 h2];exact h)
 quiet:=λ⟨h1,as,r1⟩ h=>pP h1 r1 h
end L2
namespace L2
open PySem PyProof.Rows
noncomputable abbrev zg:Bool->Keyed->Array Keyed->Nat->Nat->Nat->StateT SortSt Sem (Option Nat):=sortPriv% PySem.Builtin.gallop
noncomputable abbrev wJ:Array Keyed->Array Keyed->StateT SortSt Sem (Array Keyed):=sortPriv% PySem.Builtin.mergeLo
noncomputable abbrev wK:Array Keyed->Array Keyed->StateT SortSt Sem (Array Keyed):=sortPriv% PySem.Builtin.mergeHi
noncomputable abbrev mergeAt':Nat->StateT SortSt Sem Bool:=sortPriv% PySem.Builtin.mergeAt
def kG (prog:Program)(w:World)(A:Around)(E:Value->Shared->Prop)(s:Shared)(kd:SortKind)(O:KeyOrd)(kf:Value->O.α)(G:Keyed->Prop):Prop:=
 ∀ x y:Keyed,G x->G y->∀ (st:SortSt) (Q:Option Bool->SortSt->Prop),kindOf st=kd->Q (some (O.blt (kf x.1) (kf y.1))) st->wpS (model prog w) A E s (lt' x y) Q st
section
variable {prog:Program}{w:World}{A:Around}{E:Value->Shared->Prop}{s:Shared}{kd:SortKind}{O:KeyOrd}{kf:Value->O.α}{G:Keyed->Prop}
theorem aB {arr:Array Keyed}{i:Nat}(h:i<arr.size){Q:Keyed->SortSt->Prop}{st:SortSt}(q:Q arr[i] st):wpS (model prog w) A E s (elem' arr i) Q st:=by
 rw[elem'_eq,getElem?_pos arr i h]
 exact wpS_pure q
theorem xA {α:Type}{n:Nat}{st:SortSt}{B:Nat->Bool}{f:Nat->(Option α×Nat×Nat)->StateT SortSt Sem (ForInStep (Option α×Nat×Nat))}{Q:(Option α×Nat×Nat)->SortSt->Prop}
  (f1:∀ x lo hi (Q':ForInStep (Option α×Nat×Nat)->SortSt->Prop),hi<=lo->Q' (.done (none,lo,hi)) st->wpS (model prog w) A E s (f x (none,lo,hi)) Q' st)
  (f2:∀ x lo hi (Q':ForInStep (Option α×Nat×Nat)->SortSt->Prop),lo<hi->hi<=n->Q' (.yield (if B (lo+(hi-lo) / 2)=true then (none,lo+(hi-lo) / 2+1,hi) else (none,lo,lo+(hi-lo) / 2))) st->wpS (model prog w) A E s (f x (none,lo,hi)) Q' st)
  {lo hi:Nat}(hlh:lo<=hi) (hhn:hi<=n) (h1:∀ i,i<lo->B i=true) (h2:∀ i,hi<=i->i<n->B i=false) (mono:∀ i j,i<=j->j<n->B j=true->B i=true)
  (q:∀ k,k<=n->(∀ i,i<k->B i=true)->(∀ i,k<=i->i<n->B i=false)->Q (none,k,k) st):wpS (model prog w) A E s (forIn [0:n] (none,lo,hi) f) Q st:=by
 refine wpS_forRange (I:=λx c st'=>st'=st/\∃ lo hi,c=(none,lo,hi)/\lo<=hi/\hi<=n/\hi-lo<=n-x/\(∀ i,i<lo->B i=true)/\∀ i,hi<=i->i<n->B i=false) ?_ ?_ ⟨rfl,lo,hi,rfl,hlh,hhn,by omega,h1,h2⟩
 ·rintro x c st' _ hx ⟨rfl,lo,hi,rfl,a1,a2,a3,a4,a5⟩
  by_cases e:hi<=lo
  ·have e':lo=hi:=by omega
   subst e'
   exact f1 x lo lo _ e (q lo a2 a4 a5)
  ·refine f2 x lo hi _ (by omega) a2 ?_
   have hm:lo+(hi-lo) / 2<hi:=by omega
   by_cases hb:B (lo+(hi-lo) / 2)=true
   ·rw[if_pos hb]
    exact⟨rfl,_,_,rfl,by omega,a2,by omega,λi hi'=>mono i _ (by omega) (by omega) hb,a5⟩
   ·rw[if_neg hb]
    refine⟨rfl,_,_,rfl,by omega,by omega,by omega,a4,λi h3 h4=>?_⟩
    cases hbi:B i with
    |false=>rfl
    |true=>exact absurd (mono _ _ h3 h4 hbi) hb
 ·rintro c st' ⟨rfl,lo,hi,rfl,a1,a2,a3,a4,a5⟩
  have e':lo=hi:=by omega
  subst e'
  exact q lo a2 a4 a5
theorem BR {α:Type}{n m:Nat}{st:SortSt}{C:Nat->Bool}{f:Nat->(Option α×Nat×Nat)->StateT SortSt Sem (ForInStep (Option α×Nat×Nat))}{Q:(Option α×Nat×Nat)->SortSt->Prop}
  (f1:∀ x a b (Q':ForInStep (Option α×Nat×Nat)->SortSt->Prop),m<=b->Q' (.done (none,a,b)) st->wpS (model prog w) A E s (f x (none,a,b)) Q' st)
  (f2:∀ x a b (Q':ForInStep (Option α×Nat×Nat)->SortSt->Prop),b<m->Q' (if C b=true then .yield (none,b,2*b+1) else .done (none,a,b)) st->wpS (model prog w) A E s (f x (none,a,b)) Q' st)
  (c0:C 0=true) (hm:m<=n) (q:∀ a b,a<b->C a=true->(a<m∨a=0)->(m<=b∨(b<m/\C b=false))->Q (none,a,b) st):wpS (model prog w) A E s (forIn [0:n] (none,0,1) f) Q st:=by
 refine wpS_forRange (I:=λx c st'=>st'=st/\∃ a b,c=(none,a,b)/\a<b/\x+1<=b/\C a=true/\(a<m∨a=0)) ?_ ?_ ⟨rfl,0,1,rfl,by omega,by omega,c0,.inr rfl⟩
 ·rintro x c st' _ hx ⟨rfl,a,b,rfl,a1,a2,a3,a4⟩
  by_cases e:m<=b
  ·exact f1 x a b _ e (q a b a1 a3 a4 (.inl e))
  ·refine f2 x a b _ (by omega) ?_
   by_cases hb:C b=true
   ·rw[if_pos hb]
    exact⟨rfl,b,_,rfl,by omega,by omega,hb,.inl (by omega)⟩
   ·rw[if_neg hb]
    exact q a b a1 a3 a4 (.inr ⟨by omega,by simpa using hb⟩)
 ·rintro c st' ⟨rfl,a,b,rfl,a1,a2,a3,a4⟩
  exact q a b a1 a3 a4 (.inl (by omega))
noncomputable def bey (O:KeyOrd)(kf:Value->O.α)(left:Bool)(key x:Keyed):Bool:=if left then O.blt (kf x.1) (kf key.1) else !O.blt (kf key.1) (kf x.1)
theorem bS (L:kG prog w A E s kd O kf G){left:Bool}{key:Keyed}{arr:Array Keyed}{base n hint:Nat}{st:SortSt}{Q:Option Nat->SortSt->Prop}(hk:kindOf st=kd)(gk:G key)(ga:∀ x∈arr.toList,G x)
  (hb:base+n<=arr.size) (hh:hint<n) (B:Nat->Bool) (hB:∀ i (h:base+i<arr.size),i<n->B i=bey O kf left key arr[base+i]) (mono:∀ i j,i<=j->j<n->B j=true->B i=true)
  (h:∀ k,k<=n->(∀ i,i<k->B i=true)->(∀ i,k<=i->i<n->B i=false)->Q (some k) st):wpS (model prog w) A E s (zg left key arr base n hint) Q st:=by
 have be:∀ i,i<n->∀ {Q':Option Bool->SortSt->Prop},Q' (some (B i)) st->wpS (model prog w) A E s (do let x ← elem' arr (base+i);if left=true then lt' x key else return (← lt' key x).map (!·)) Q' st:=by
  intro i hi Q' q
  have hi':base+i<arr.size:=by omega
  refine wpS_bind (aB hi' ?_)
  have gx:G arr[base+i]:=ga _ (Array.getElem_mem_toList hi')
  have e:=hB i hi' hi
  unfold bey at e
  cases left with
  |true =>
   rw[if_pos rfl]
   rw[if_pos rfl] at e
   exact L _ _ gx gk st _ hk (by rw[← e];exact q)
  |false =>
   rw[if_neg (by decide)]
   rw[if_neg (by decide)] at e
   refine wpS_bind (L _ _ gk gx st _ hk (wpS_pure ?_))
   show Q' (some (!O.blt (kf key.1) (kf arr[base+i].1))) st
   rw[← e];exact q
 refine wpS_bind (be hint hh ?_)
 cases hr:B hint with
 |true =>
  dsimp only
  rw[if_pos rfl]
  refine wpS_bind (BR (m:=n-hint) (C:=λi=>decide (hint+i<n)&&B (hint+i)) ?_ ?_ ?_ (by omega) ?_)
  ·intro x a b Q' hb' q'
   dsimp only
   rw[if_pos hb']
   exact wpS_pure q'
  ·intro x a b Q' hb' q'
   dsimp only
   rw[if_neg (by omega)]
   refine wpS_bind (be (hint+b) (by omega) ?_)
   have hlt:hint+b<n:=by omega
   rw[decide_eq_true hlt,Bool.true_and] at q'
   cases hbb:B (hint+b) with
   |true=>rw[hbb,if_pos rfl] at q';exact wpS_pure q'
   |false=>rw[hbb,if_neg (by decide)] at q';exact wpS_pure q'
  ·rw[Bool.and_eq_true];exact⟨decide_eq_true hh,hr⟩
  ·intro a b hab hCa ha hb'
   dsimp only
   rw[Bool.and_eq_true] at hCa
   have ha':hint+a<n:=of_decide_eq_true hCa.1
   refine wpS_bind (xA (B:=B) ?_ ?_ (by omega) (by omega) ?_ ?_ mono ?_)
   ·intro x lo hi Q' hle q'
    dsimp only
    rw[if_pos hle]
    exact wpS_pure q'
   ·intro x lo hi Q' hlt hhn q'
    dsimp only
    rw[if_neg (by omega)]
    refine wpS_bind (be (lo+(hi-lo) / 2) (by omega) ?_)
    cases hbb:B (lo+(hi-lo) / 2) with
    |true=>rw[hbb,if_pos rfl] at q';exact wpS_pure q'
    |false=>rw[hbb,if_neg (by decide)] at q';exact wpS_pure q'
   ·intro i hi
    exact mono i (hint+a) (by omega) ha' hCa.2
   ·intro i hi hin
    rcases hb' with hb' |⟨hb1,hb2⟩
    ·omega
    ·have hlt:hint+b<n:=by omega
     rw[decide_eq_true hlt,Bool.true_and] at hb2
     cases hbi:B i with
     |false=>rfl
     |true=>rw[mono (hint+b) i (by omega) hin hbi] at hb2;cases hb2
   ·intro k h1 h2 h3
    exact wpS_pure (h k h1 h2 h3)
 |false =>
  dsimp only
  rw[if_neg (by decide)]
  refine wpS_bind (BR (m:=hint+1) (C:=λi => !B (hint-i)) ?_ ?_ ?_ (by omega) ?_)
  ·intro x a b Q' hb' q'
   dsimp only
   rw[if_pos hb']
   exact wpS_pure q'
  ·intro x a b Q' hb' q'
   dsimp only
   rw[if_neg (by omega)]
   refine wpS_bind (be (hint-b) (by omega) ?_)
   cases hbb:B (hint-b) with
   |true=>rw[hbb,if_neg (by decide)] at q';exact wpS_pure q'
   |false=>rw[hbb,if_pos (show (!false)=true from rfl)] at q';exact wpS_pure q'
  ·rw[Nat.sub_zero,hr];rfl
  ·intro a b hab hCa ha hb'
   dsimp only
   have hCa':B (hint-a)=false:=by simpa using hCa
   refine wpS_bind (xA (B:=B) ?_ ?_ (by omega) (by omega) ?_ ?_ mono ?_)
   ·intro x lo hi Q' hle q'
    dsimp only
    rw[if_pos hle]
    exact wpS_pure q'
   ·intro x lo hi Q' hlt hhn q'
    dsimp only
    rw[if_neg (by omega)]
    refine wpS_bind (be (lo+(hi-lo) / 2) (by omega) ?_)
    cases hbb:B (lo+(hi-lo) / 2) with
    |true=>rw[hbb,if_pos rfl] at q';exact wpS_pure q'
    |false=>rw[hbb,if_neg (by decide)] at q';exact wpS_pure q'
   ·intro i hi
    rcases hb' with hb' |⟨hb1,hb2⟩
    ·omega
    ·have hb2':B (hint-b)=true:=by simpa using hb2
     exact mono i (hint-b) (by omega) (by omega) hb2'
   ·intro i hi hin
    cases hbi:B i with
    |false=>rfl
    |true=>rw[mono (hint-a) i (by omega) hin hbi] at hCa';cases hCa'
   ·intro k h1 h2 h3
    exact wpS_pure (h k h1 h2 h3)
end
section
variable {O:KeyOrd}{kf:Value->O.α}
def leK (O:KeyOrd)(kf:Value->O.α)(x y:Keyed):Prop:=O.kle (kf x.1) (kf y.1)
theorem b9 {x y z:Keyed}(h:leK O kf x y)(g:leK O kf y z):leK O kf x z:=KeyOrd.kle_trans h g
structure Mg (O:KeyOrd) (kf:Value->O.α) (T out A B:List Keyed):Prop where
 perm:(out++(A++B)).Perm T
 so:out.Pairwise (leK O kf)
 sa:A.Pairwise (leK O kf)
 sb:B.Pairwise (leK O kf)
 low:∀ x∈out,∀ y∈A++B,leK O kf x y
def Res (O:KeyOrd)(kf:Value->O.α)(T r:List Keyed):Prop:=r.Perm T/\r.Pairwise (leK O kf)
theorem Mg.takeA {T out p A B:List Keyed}(h:Mg O kf T out (p++A) B)(l:∀ x∈p,∀ y∈B,leK O kf x y):Mg O kf T (out++p) A B:=by
 have sa:=List.pairwise_append.mp h.sa
 refine⟨by have:=h.perm;simpa [List.append_assoc] using this,List.pairwise_append.mpr ⟨h.so,sa.1,λx hx y hy=>h.low x hx y (by simp[hy])⟩,sa.2.1,h.sb,λx hx y hy=>?_⟩
 rcases List.mem_append.mp hx with hx |hx
 ·exact h.low x hx y (by
   rcases List.mem_append.mp hy with hy |hy
   ·simp[hy]
   ·simp[hy])
 ·rcases List.mem_append.mp hy with hy |hy
  ·exact sa.2.2 x hx y hy
  ·exact l x hx y hy
theorem Mg.takeB {T out p A B:List Keyed}(h:Mg O kf T out A (p++B))(l:∀ x∈p,∀ y∈A,leK O kf x y):Mg O kf T (out++p) A B:=by
 have sb:=List.pairwise_append.mp h.sb
 refine⟨?_,List.pairwise_append.mpr ⟨h.so,sb.1,λx hx y hy=>h.low x hx y (by simp[hy])⟩,h.sa,sb.2.1,λx hx y hy=>?_⟩
 ·refine List.Perm.trans ?_ h.perm
  rw[List.append_assoc]
  refine List.Perm.append_left out ?_
  rw[← List.append_assoc,← List.append_assoc]
  exact List.Perm.append_right B List.perm_append_comm
 rcases List.mem_append.mp hx with hx |hx
 ·exact h.low x hx y (by
   rcases List.mem_append.mp hy with hy |hy
   ·simp[hy]
   ·simp[hy])
 ·rcases List.mem_append.mp hy with hy |hy
  ·exact l x hx y hy
  ·exact sb.2.2 x hx y hy
theorem Mg.endA {T out A:List Keyed}(h:Mg O kf T out A []):Res O kf T (out++A):=by
 refine⟨by have:=h.perm;simpa using this,List.pairwise_append.mpr ⟨h.so,h.sa,λx hx y hy=>h.low x hx y (by simp[hy])⟩⟩
theorem Mg.endB {T out B:List Keyed}(h:Mg O kf T out [] B):Res O kf T (out++B):=by
 refine⟨by have:=h.perm;simpa using this,List.pairwise_append.mpr ⟨h.so,h.sb,λx hx y hy=>h.low x hx y (by simp[hy])⟩⟩
theorem Mg.last {T out B:List Keyed}{z:Keyed}(h:Mg O kf T out [z] B)(l:∀ y∈B,leK O kf y z):Res O kf T (out++B++[z]):=by
 refine⟨?_,List.pairwise_append.mpr ⟨List.pairwise_append.mpr ⟨h.so,h.sb,λx hx y hy=>h.low x hx y (by simp[hy])⟩,List.pairwise_singleton _ _,λx hx y hy=>?_⟩⟩
 ·refine List.Perm.trans ?_ h.perm
  rw[List.append_assoc]
  exact List.Perm.append_left out List.perm_append_comm
 ·have ey:y=z:=by simpa using hy
  subst ey
  rcases List.mem_append.mp hx with hx |hx
  ·exact h.low x hx y (by simp)
  ·exact l x hx
theorem drop_cons {a:Array Keyed}{i:Nat}(h:i<a.size):a.toList.drop i=a[i]::a.toList.drop (i+1):=by
 rw[List.drop_eq_getElem_cons (by simpa using h)];simp
theorem drop_take {a:Array Keyed}(i k:Nat):a.toList.drop i=(a.extract i (i+k)).toList++a.toList.drop (i+k):=by
 rw[Array.toList_extract,List.extract_eq_drop_take,Nat.add_sub_cancel_left,← List.drop_drop,List.take_append_drop]
theorem cE {a:Array Keyed}(i:Nat):(a.extract i).toList=a.toList.drop i:=by
 rw[Array.toList_extract,List.extract_eq_drop_take]
 exact List.take_of_length_le (by simp)
theorem kL {l:List Keyed}{x y:Keyed}(hs:(y::l).Pairwise (leK O kf))(h:leK O kf x y):∀ z∈y::l,leK O kf x z:=by
 intro z hz
 rcases List.mem_cons.mp hz with e |hz
 ·rw[e];exact h
 ·exact b9 h ((List.pairwise_cons.mp hs).1 z hz)
end
structure SameS (st st':SortSt):Prop where
 kind:kindOf st'=kindOf st
 arr:arrOf st'=arrOf st
 pend:pendingOf st'=pendingOf st
 fail:failedOf st'=failedOf st
theorem SameS.refl (st:SortSt):SameS st st:=⟨rfl,rfl,rfl,rfl⟩
section
variable {prog:Program}{w:World}{A:Around}{E:Value->Shared->Prop}{s:Shared}{kd:SortKind}{O:KeyOrd}{kf:Value->O.α}{G:Keyed->Prop}
theorem pB (L:kG prog w A E s kd O kf G){a b:Array Keyed}{st:SortSt}{Q:Array Keyed->SortSt->Prop}(hk:kindOf st=kd)(ga:∀ x∈a.toList,G x)(gb:∀ x∈b.toList,G x)(ha : 0<a.size)(hb : 0<b.size)
  (sa:a.toList.Pairwise (leK O kf)) (sb:b.toList.Pairwise (leK O kf)) (first:leK O kf b[0] a[0]) (last:∀ y∈b.toList,leK O kf y a[a.size-1])
  (h:∀ r st',SameS st st'->Res O kf (a.toList++b.toList) r.toList->Q r st'):wpS (model prog w) A E s (wJ a b) Q st:=by
 let T:=a.toList++b.toList
 let I:Array Keyed->Nat->Nat->Prop:=λout ia ib=>Mg O kf T out.toList (a.toList.drop ia) (b.toList.drop ib)
 have gA:∀ i (hi:i<a.size),G a[i]:=λi hi=>ga _ (Array.getElem_mem_toList hi)
 have gB:∀ i (hi:i<b.size),G b[i]:=λi hi=>gb _ (Array.getElem_mem_toList hi)
 have endB:∀ {out:Array Keyed}{ia ib:Nat},I out ia ib->ib=b.size->Res O kf T (out++a.extract ia++b.extract ib).toList:=by
  intro out ia ib hI e
  have hI:Mg O kf T out.toList (a.toList.drop ia) (b.toList.drop ib):=hI
  rw[Array.toList_append,Array.toList_append,cE,cE,List.drop_eq_nil_of_le (as:=b.toList) (by simp[e]),List.append_nil]
  rw[List.drop_eq_nil_of_le (as:=b.toList) (by simp[e])] at hI
  exact hI.endA
 have endA:∀ {out:Array Keyed}{ia ib:Nat},I out ia ib->ia=a.size->Res O kf T (out++a.extract ia++b.extract ib).toList:=by
  intro out ia ib hI e
  have hI:Mg O kf T out.toList (a.toList.drop ia) (b.toList.drop ib):=hI
  rw[Array.toList_append,Array.toList_append,cE,cE,List.drop_eq_nil_of_le (as:=a.toList) (by simp[e]),List.append_nil]
  rw[List.drop_eq_nil_of_le (as:=a.toList) (by simp[e])] at hI
  exact hI.endB
 have lastA:∀ {out:Array Keyed}{ia ib:Nat},I out ia ib->ia+1=a.size->Res O kf T (out++b.extract ib++a.extract ia).toList:=by
  intro out ia ib hI e
  have hI:Mg O kf T out.toList (a.toList.drop ia) (b.toList.drop ib):=hI
  have e1:a.toList.drop ia=[a[a.size-1]]:=by
   rw[drop_cons (by omega),List.drop_eq_nil_of_le (by simp[e])]
   congr 2
   omega
  rw[Array.toList_append,Array.toList_append,cE,cE,e1]
  rw[e1] at hI
  exact hI.last λy hy=>last y (List.mem_of_mem_drop hy)
 have stepB:∀ {out:Array Keyed}{ia ib:Nat}(h1:ia<a.size) (h2:ib<b.size),I out ia ib->leK O kf b[ib] a[ia]->I (out.push b[ib]) ia (ib+1):=by
  intro out ia ib h1 h2 hI hl
  have hI:Mg O kf T out.toList (a.toList.drop ia) (b.toList.drop ib):=hI
  have hI2:=hI
  rw[drop_cons h2] at hI
  show Mg O kf T (out.push b[ib]).toList _ _
  rw[Array.toList_push]
  refine Mg.takeB (p:=[b[ib]]) hI λx hx y hy=>?_
  have ex:x=b[ib]:=by simpa using hx
  subst ex
  have sA:=hI2.sa
  rw[drop_cons h1] at sA hy
  exact kL sA hl y hy
 have stepA:∀ {out:Array Keyed}{ia ib:Nat}(h1:ia<a.size) (h2:ib<b.size),I out ia ib->leK O kf a[ia] b[ib]->I (out.push a[ia]) (ia+1) ib:=by
  intro out ia ib h1 h2 hI hl
  have hI:Mg O kf T out.toList (a.toList.drop ia) (b.toList.drop ib):=hI
  have hI2:=hI
  rw[drop_cons h1] at hI
  show Mg O kf T (out.push a[ia]).toList _ _
  rw[Array.toList_push]
  refine Mg.takeA (p:=[a[ia]]) hI λx hx y hy=>?_
  have ex:x=a[ia]:=by simpa using hx
  subst ex
  have sB:=hI2.sb
  rw[drop_cons h2] at sB hy
  exact kL sB hl y hy
 have manyA:∀ {out:Array Keyed}{ia ib k:Nat}(h2:ib<b.size),I out ia ib->ia+k<=a.size->(∀ i (hi:ia+i<a.size),i<k->leK O kf a[ia+i] b[ib])->I (out++a.extract ia (ia+k)) (ia+k) ib:=by
  intro out ia ib k h2 hI hk' hl
  have hI:Mg O kf T out.toList (a.toList.drop ia) (b.toList.drop ib):=hI
  have hI2:=hI
  rw[drop_take ia k] at hI
  show Mg O kf T (out++a.extract ia (ia+k)).toList _ _
  rw[Array.toList_append]
  refine Mg.takeA hI λx hx y hy=>?_
  obtain⟨i,hi,e⟩:=List.getElem_of_mem hx
  have hi':i<k:=by
   have:(a.extract ia (ia+k)).toList.length=min k (a.size-ia):=by simp
   omega
  have hai:ia+i<a.size:=by omega
  have ex:x=a[ia+i]:=by rw[← e];simp
  have sB:=hI2.sb
  rw[drop_cons h2] at sB hy
  rw[ex]
  exact kL sB (hl i hai hi') y hy
 have manyB:∀ {out:Array Keyed}{ia ib k:Nat}(h1:ia<a.size),I out ia ib->ib+k<=b.size->(∀ i (hi:ib+i<b.size),i<k->leK O kf b[ib+i] a[ia])->I (out++b.extract ib (ib+k)) ia (ib+k):=by
  intro out ia ib k h1 hI hk' hl
  have hI:Mg O kf T out.toList (a.toList.drop ia) (b.toList.drop ib):=hI
  have hI2:=hI
  rw[drop_take ib k] at hI
  show Mg O kf T (out++b.extract ib (ib+k)).toList _ _
  rw[Array.toList_append]
  refine Mg.takeB hI λx hx y hy=>?_
  obtain⟨i,hi,e⟩:=List.getElem_of_mem hx
  have hi':i<k:=by
   have:(b.extract ib (ib+k)).toList.length=min k (b.size-ib):=by simp
   omega
  have hai:ib+i<b.size:=by omega
  have ex:x=b[ib+i]:=by rw[← e];simp
  have sA:=hI2.sa
  rw[drop_cons h1] at sA hy
  rw[ex]
  exact kL sA (hl i hai hi') y hy
 have sgA:∀ i j (hi:i<a.size) (hj:j<a.size),i<=j->leK O kf a[i] a[j]:=by
  intro i j hi hj hij
  rcases Nat.lt_or_ge i j with hlt |hge
  ·have:=List.pairwise_iff_getElem.mp sa i j (by simpa using hi) (by simpa using hj) hlt
   simpa using this
  ·have e:i=j:=by omega
   subst e;exact KeyOrd.kle_refl _
 have sgB:∀ i j (hi:i<b.size) (hj:j<b.size),i<=j->leK O kf b[i] b[j]:=by
  intro i j hi hj hij
  rcases Nat.lt_or_ge i j with hlt |hge
  ·have:=List.pairwise_iff_getElem.mp sb i j (by simpa using hi) (by simpa using hj) hlt
   simpa using this
  ·have e:i=j:=by omega
   subst e;exact KeyOrd.kle_refl _
 have start:I #[b[0]] 0 1:=by
  have hI:Mg O kf T [] a.toList b.toList:=⟨by simp[T],List.Pairwise.nil,sa,sb,λx hx=>by simp at hx⟩
  have hI2:I #[] 0 0:=by show Mg O kf T [] (a.toList.drop 0) (b.toList.drop 0);simpa using hI
  exact stepB ha hb hI2 first
 refine wpS_bind (wpS_lift (wpAny_rule ⟨rfl,?_⟩))
 refine wpS_bind (aB hb ?_)
 dsimp only
 by_cases e1:(1==b.size)=true
 ·rw[if_pos e1]
  exact wpS_pure (h _ st (SameS.refl st) (endB start (by simpa using e1)))
 ·rw[if_neg e1]
  by_cases e2:(0+1==a.size)=true
  ·rw[if_pos e2]
   exact wpS_pure (h _ st (SameS.refl st) (lastA start (by simpa using e2)))
  ·rw[if_neg e2]
   have e1' : 1≠b.size:=by simpa using e1
   have e2' : 1≠a.size:=by simpa using e2
   refine wpS_bind (wpS_get ?_)
   refine wpS_bind (wpS_mono (wpS_forRange (I:=λx c st'=>SameS st st'/\∃ out ia ib mg,c=(none,out,ia,ib,mg)/\I out ia ib/\ia+1<a.size/\ib<b.size/\x+1<=ia+ib)
    (Q:=λc st'=>SameS st st'/\∃ r rest,c=(some r,rest)/\Res O kf T r.toList) ?step ?fin ⟨SameS.refl st,_,_,_,_,rfl,start,by omega,by omega,by omega⟩) ?post)
   case post =>
    rintro c st' ⟨hs,r,rest,rfl,hr⟩
    exact wpS_pure (h r st' hs hr)
   case fin =>
    rintro c st' ⟨hs,out,ia,ib,mg,rfl,hI,h1,h2,h3⟩
    omega
   case step =>
    rintro x c st' _ hx ⟨hs,out,ia,ib,mg,rfl,hI,h1,h2,h3⟩
    dsimp only
    refine wpS_bind (wpS_mono (wpS_forRange (I:=λy c st''=>SameS st st''/\∃ out ia' ib' ac bc,c=(none,out,ia',ib',ac,bc)/\I out ia' ib'/\ia'+1<a.size/\ib'<b.size/\ia+ib+y<=ia'+ib')
     (Q:=λc st''=>SameS st st''/\((∃ r rest,c=(some r,rest)/\Res O kf T r.toList)∨∃ out ia' ib' ac bc,c=(none,out,ia',ib',ac,bc)/\I out ia' ib'/\ia'+1<a.size/\ib'<b.size/\ia+ib+1<=ia'+ib')) ?step1 ?fin1 ⟨hs,_,_,_,_,_,rfl,hI,h1,h2,by omega⟩) ?post1)
    case fin1 =>
     rintro c st'' ⟨hs,out,ia',ib',ac,bc,rfl,hI,h1',h2',h3'⟩
     omega
    case step1 =>
     rintro y c st'' _ hy ⟨hs,out,ia',ib',ac,bc,rfl,hI,h1',h2',h3'⟩
     dsimp only
     have h1'':ia'<a.size:=by omega
     refine wpS_bind (aB h2' (wpS_bind (aB h1'' (wpS_bind (L _ _ (gB _ h2') (gA _ h1'') st'' _ (hs.kind.trans hk) ?_)))))
     dsimp only
     cases hlt:O.blt (kf b[ib'].1) (kf a[ia'].1) with
     |true =>
      rw[if_pos rfl]
      refine wpS_bind (aB h2' ?_)
      have hI':=stepB h1'' h2' hI (KeyOrd.kle_of_klt hlt)
      try dsimp only
      by_cases e3:(ib'+1==b.size)=true
      ·rw[if_pos e3]
       exact wpS_pure ⟨hs,.inl ⟨_,_,rfl,endB hI' (by simpa using e3)⟩⟩
      ·rw[if_neg e3]
       have e3':ib'+1≠b.size:=by simpa using e3
       split
       ·exact wpS_pure ⟨hs,.inr ⟨_,_,_,_,_,rfl,hI',h1',by omega,by omega⟩⟩
       ·exact wpS_pure ⟨hs,_,_,_,_,_,rfl,hI',h1',by omega,by omega⟩
     |false =>
      rw[if_neg (by decide)]
      refine wpS_bind (aB h1'' ?_)
      have hI':=stepA h1'' h2' hI (show O.kle _ _ from hlt)
      try dsimp only
      by_cases e3:(ia'+1+1==a.size)=true
      ·rw[if_pos e3]
       exact wpS_pure ⟨hs,.inl ⟨_,_,rfl,lastA hI' (by simpa using e3)⟩⟩
      ·rw[if_neg e3]
       have e3':ia'+1+1≠a.size:=by simpa using e3
       split
       ·exact wpS_pure ⟨hs,.inr ⟨_,_,_,_,_,rfl,hI',by omega,h2',by omega⟩⟩
       ·exact wpS_pure ⟨hs,_,_,_,_,_,rfl,hI',by omega,h2',by omega⟩
    case post1 =>
     rintro c st'' ⟨hs,⟨r,rest,rfl,hr⟩ |⟨out,ia',ib',ac,bc,rfl,hI,h1',h2',h3'⟩⟩
     ·exact wpS_pure ⟨hs,r,_,rfl,hr⟩
     ·dsimp only
      refine wpS_bind (wpS_lift (wpAny_rule ⟨rfl,?_⟩))
      refine wpS_bind (wpS_mono (wpS_forRange (I:=λy c st3=>SameS st st3/\∃ out ia2 ib2 mg ac bc,c=(none,out,ia2,ib2,mg,ac,bc)/\I out ia2 ib2/\ia2+1<a.size/\ib2<b.size/\ia'+ib'+y<=ia2+ib2)
       (Q:=λc st3=>SameS st st3/\((∃ r rest,c=(some r,rest)/\Res O kf T r.toList)∨∃ out ia2 ib2 mg ac bc,c=(none,out,ia2,ib2,mg,ac,bc)/\I out ia2 ib2/\ia2+1<a.size/\ib2<b.size/\ia'+ib'<=ia2+ib2)) ?step2 ?fin2 ⟨hs,_,_,_,_,_,_,rfl,hI,h1',h2',by omega⟩) ?post2)
      case fin2 =>
       rintro c st3 ⟨hs,out,ia2,ib2,mg,ac,bc,rfl,hI,h1,h2,h3⟩
       omega
      case post2 =>
       rintro c st3 ⟨hs,⟨r,rest,rfl,hr⟩ |⟨out,ia2,ib2,mg,ac,bc,rfl,hI,h12,h22,h32⟩⟩
       ·exact wpS_pure ⟨hs,r,_,rfl,hr⟩
       ·dsimp only
        refine wpS_bind (wpS_modify (wpS_pure ⟨⟨hs.kind,hs.arr,hs.pend,hs.fail⟩,_,_,_,_,rfl,hI,h12,h22,by omega⟩))
      case step2 =>
       rintro y c st3 _ hy ⟨hs,out,ia2,ib2,mg,ac,bc,rfl,hI,h12,h22,h32⟩
       dsimp only
       rcases Decidable.em (mg > 1) with hmg |hmg
       all_goals
        first |rw[if_pos hmg] |rw[if_neg hmg]
        refine wpS_bind (wpS_modify ?_)
        have hs3:∀ g,SameS st (SortSt.mk' (kindOf st3) (arrOf st3) (pendingOf st3) g (failedOf st3)):=λg=>⟨hs.kind,hs.arr,hs.pend,hs.fail⟩
        refine wpS_bind (aB h22 ?_)
        refine wpS_bind (bS L (by exact hs.kind.trans hk) (gB _ h22) ga (by omega) (by omega) (λi=>if hi:ia2+i<a.size then bey O kf false b[ib2] a[ia2+i] else false) (λi hi _=>by rw[dif_pos hi]) ?_ ?_)
        ·intro i j hij hj hB
         have hj':ia2+j<a.size:=by omega
         have hi':ia2+i<a.size:=by omega
         rw[dif_pos hj'] at hB
         rw[dif_pos hi']
         unfold bey at hB ⊢
         rw[if_neg (by decide)] at hB ⊢
         have h1:O.kle (kf a[ia2+j].1) (kf b[ib2].1):=by simpa [KeyOrd.kle] using hB
         have h2:O.kle (kf a[ia2+i].1) (kf b[ib2].1):=KeyOrd.kle_trans (sgA _ _ hi' hj' (by omega)) h1
         simpa [KeyOrd.kle] using h2
        ·intro k hkn hk1 hk2
         try dsimp only
         have hA:∀ i (hi:ia2+i<a.size),i<k->leK O kf a[ia2+i] b[ib2]:=by
          intro i hi hik
          have hB:=hk1 i hik
          rw[dif_pos hi] at hB
          unfold bey at hB
          rw[if_neg (by decide)] at hB
          show O.kle _ _
          simpa [KeyOrd.kle] using hB
         have hBl:∀ (hi:ia2+k<a.size),leK O kf b[ib2] a[ia2+k]:=by
          intro hi
          have hB:=hk2 k (Nat.le_refl _) (by omega)
          rw[dif_pos hi] at hB
          unfold bey at hB
          rw[if_neg (by decide)] at hB
          have hB':O.blt (kf b[ib2].1) (kf a[ia2+k].1)=true:=by simpa using hB
          exact KeyOrd.kle_of_klt hB'
         rcases Decidable.em (k > 0) with hk0 |hk0
         ·rw[if_pos hk0]
          have hI3:=manyA h22 hI (by omega) hA
          by_cases e4:(ia2+k+1==a.size)=true
          ·rw[if_pos e4]
           exact wpS_pure ⟨hs3 _,.inl ⟨_,_,rfl,lastA hI3 (by simpa using e4)⟩⟩
          ·rw[if_neg e4]
           have e4':ia2+k+1≠a.size:=by simpa using e4
           by_cases e5:(ia2+k==a.size)=true
           ·rw[if_pos e5]
            exact wpS_pure ⟨hs3 _,.inl ⟨_,_,rfl,endA hI3 (by simpa using e5)⟩⟩
           ·rw[if_neg e5]
            have e5':ia2+k≠a.size:=by simpa using e5
            have h13:ia2+k+1<a.size:=by omega
            have hle3:=hBl (by omega)
            refine wpS_bind (aB h22 ?_)
            have hqa:(ia2+k)<a.size:=by omega
            have hJ:=stepB hqa h22 hI3 hle3
            try dsimp only
            by_cases e6:(ib2+1==b.size)=true
            ·rw[if_pos e6]
             exact wpS_pure ⟨hs3 _,.inl ⟨_,_,rfl,endB hJ (by simpa using e6)⟩⟩
            ·rw[if_neg e6]
             have e6':ib2+1≠b.size:=by simpa using e6
             refine wpS_bind (aB hqa ?_)
             refine wpS_bind (bS L (by exact hs.kind.trans hk) (gA _ hqa) gb (by omega) (by omega) (λi=>if hi:ib2+1+i<b.size then bey O kf true a[(ia2+k)] b[ib2+1+i] else false) (λi hi _=>by rw[dif_pos hi]) ?_ ?_)
             ·intro i j hij hj hB
              have hj':ib2+1+j<b.size:=by omega
              have hi':ib2+1+i<b.size:=by omega
              rw[dif_pos hj'] at hB
              rw[dif_pos hi']
              unfold bey at hB ⊢
              rw[if_pos rfl] at hB ⊢
              exact KeyOrd.klt_of_kle_of_klt (sgB _ _ hi' hj' (by omega)) hB
             ·intro k2 hkn2 hk12 hk22
              try dsimp only
              have hB2:∀ i (hi:ib2+1+i<b.size),i<k2->leK O kf b[ib2+1+i] a[(ia2+k)]:=by
               intro i hi hik
               have hB:=hk12 i hik
               rw[dif_pos hi] at hB
               unfold bey at hB
               rw[if_pos rfl] at hB
               exact KeyOrd.kle_of_klt hB
              have hA2:∀ (hi:ib2+1+k2<b.size),leK O kf a[(ia2+k)] b[ib2+1+k2]:=by
               intro hi
               have hB:=hk22 k2 (Nat.le_refl _) (by omega)
               rw[dif_pos hi] at hB
               unfold bey at hB
               rw[if_pos rfl] at hB
               exact hB
              rcases Decidable.em (k2 > 0) with hk3 |hk3
              ·rw[if_pos hk3]
               have hJ2:=manyB hqa hJ (by omega) hB2
               by_cases e7:(ib2+1+k2==b.size)=true
               ·rw[if_pos e7]
                exact wpS_pure ⟨hs3 _,.inl ⟨_,_,rfl,endB hJ2 (by simpa using e7)⟩⟩
               ·rw[if_neg e7]
                have e7':ib2+1+k2≠b.size:=by simpa using e7
                refine wpS_bind (aB hqa ?_)
                have hK:=stepA hqa (by omega) hJ2 (hA2 (by omega))
                try dsimp only
                by_cases e8:((ia2+k)+1+1==a.size)=true
                ·rw[if_pos e8]
                 exact wpS_pure ⟨hs3 _,.inl ⟨_,_,rfl,lastA hK (by simpa using e8)⟩⟩
                ·rw[if_neg e8]
                 have e8':(ia2+k)+1+1≠a.size:=by simpa using e8
                 by_cases e9:(decide (k<7)&&decide (k2<7))=true
                 ·rw[if_pos e9]
                  exact wpS_pure ⟨hs3 _,.inr ⟨_,_,_,_,_,_,rfl,hK,by omega,by omega,by omega⟩⟩
                 ·rw[if_neg e9]
                  exact wpS_pure ⟨hs3 _,_,_,_,_,_,_,rfl,hK,by omega,by omega,by omega⟩
              ·rw[if_neg hk3]
               have k20:k2=0:=by omega
               subst k20
               refine wpS_bind (aB hqa ?_)
               have hK:=stepA hqa (by omega) hJ (hA2 (by omega))
               try dsimp only
               by_cases e8:((ia2+k)+1+1==a.size)=true
               ·rw[if_pos e8]
                exact wpS_pure ⟨hs3 _,.inl ⟨_,_,rfl,lastA hK (by simpa using e8)⟩⟩
               ·rw[if_neg e8]
                have e8':(ia2+k)+1+1≠a.size:=by simpa using e8
                by_cases e9:(decide (k<7)&&decide (0<7))=true
                ·rw[if_pos e9]
                 exact wpS_pure ⟨hs3 _,.inr ⟨_,_,_,_,_,_,rfl,hK,by omega,by omega,by omega⟩⟩
                ·rw[if_neg e9]
                 exact wpS_pure ⟨hs3 _,_,_,_,_,_,_,rfl,hK,by omega,by omega,by omega⟩
         ·rw[if_neg hk0]
          have k0:k=0:=by omega
          subst k0
          have hle3:=hBl (by omega)
          refine wpS_bind (aB h22 ?_)
          have hqa:ia2<a.size:=by omega
          have hJ:=stepB hqa h22 hI hle3
          try dsimp only
          by_cases e6:(ib2+1==b.size)=true
          ·rw[if_pos e6]
           exact wpS_pure ⟨hs3 _,.inl ⟨_,_,rfl,endB hJ (by simpa using e6)⟩⟩
          ·rw[if_neg e6]
           have e6':ib2+1≠b.size:=by simpa using e6
           refine wpS_bind (aB hqa ?_)
           refine wpS_bind (bS L (by exact hs.kind.trans hk) (gA _ hqa) gb (by omega) (by omega) (λi=>if hi:ib2+1+i<b.size then bey O kf true a[ia2] b[ib2+1+i] else false) (λi hi _=>by rw[dif_pos hi]) ?_ ?_)
           ·intro i j hij hj hB
            have hj':ib2+1+j<b.size:=by omega
            have hi':ib2+1+i<b.size:=by omega
            rw[dif_pos hj'] at hB
            rw[dif_pos hi']
            unfold bey at hB ⊢
            rw[if_pos rfl] at hB ⊢
            exact KeyOrd.klt_of_kle_of_klt (sgB _ _ hi' hj' (by omega)) hB
           ·intro k2 hkn2 hk12 hk22
            try dsimp only
            have hB2:∀ i (hi:ib2+1+i<b.size),i<k2->leK O kf b[ib2+1+i] a[ia2]:=by
             intro i hi hik
             have hB:=hk12 i hik
             rw[dif_pos hi] at hB
             unfold bey at hB
             rw[if_pos rfl] at hB
             exact KeyOrd.kle_of_klt hB
            have hA2:∀ (hi:ib2+1+k2<b.size),leK O kf a[ia2] b[ib2+1+k2]:=by
             intro hi
             have hB:=hk22 k2 (Nat.le_refl _) (by omega)
             rw[dif_pos hi] at hB
             unfold bey at hB
             rw[if_pos rfl] at hB
             exact hB
            rcases Decidable.em (k2 > 0) with hk3 |hk3
            ·rw[if_pos hk3]
             have hJ2:=manyB hqa hJ (by omega) hB2
             by_cases e7:(ib2+1+k2==b.size)=true
             ·rw[if_pos e7]
              exact wpS_pure ⟨hs3 _,.inl ⟨_,_,rfl,endB hJ2 (by simpa using e7)⟩⟩
             ·rw[if_neg e7]
              have e7':ib2+1+k2≠b.size:=by simpa using e7
              refine wpS_bind (aB hqa ?_)
              have hK:=stepA hqa (by omega) hJ2 (hA2 (by omega))
              try dsimp only
              by_cases e8:(ia2+1+1==a.size)=true
              ·rw[if_pos e8]
               exact wpS_pure ⟨hs3 _,.inl ⟨_,_,rfl,lastA hK (by simpa using e8)⟩⟩
              ·rw[if_neg e8]
               have e8':ia2+1+1≠a.size:=by simpa using e8
               by_cases e9:(decide (0<7)&&decide (k2<7))=true
               ·rw[if_pos e9]
                exact wpS_pure ⟨hs3 _,.inr ⟨_,_,_,_,_,_,rfl,hK,by omega,by omega,by omega⟩⟩
               ·rw[if_neg e9]
                exact wpS_pure ⟨hs3 _,_,_,_,_,_,_,rfl,hK,by omega,by omega,by omega⟩
            ·rw[if_neg hk3]
             have k20:k2=0:=by omega
             subst k20
             refine wpS_bind (aB hqa ?_)
             have hK:=stepA hqa (by omega) hJ (hA2 (by omega))
             try dsimp only
             by_cases e8:(ia2+1+1==a.size)=true
             ·rw[if_pos e8]
              exact wpS_pure ⟨hs3 _,.inl ⟨_,_,rfl,lastA hK (by simpa using e8)⟩⟩
             ·rw[if_neg e8]
              have e8':ia2+1+1≠a.size:=by simpa using e8
              by_cases e9:(decide (0<7)&&decide (0<7))=true
              ·rw[if_pos e9]
               exact wpS_pure ⟨hs3 _,.inr ⟨_,_,_,_,_,_,rfl,hK,by omega,by omega,by omega⟩⟩
              ·rw[if_neg e9]
               exact wpS_pure ⟨hs3 _,_,_,_,_,_,_,rfl,hK,by omega,by omega,by omega⟩
end
section
variable {O:KeyOrd}{kf:Value->O.α}
structure Mh (O:KeyOrd) (kf:Value->O.α) (T A B R:List Keyed):Prop where
 perm:(A++B++R).Perm T
 so:R.Pairwise (leK O kf)
 sa:A.Pairwise (leK O kf)
 sb:B.Pairwise (leK O kf)
 high:∀ x∈A++B,∀ y∈R,leK O kf x y
theorem Mh.takeA {T p A B R:List Keyed}(h:Mh O kf T (A++p) B R)(l:∀ x∈B,∀ y∈p,leK O kf x y):Mh O kf T A B (p++R):=by
 have sa:=List.pairwise_append.mp h.sa
 refine⟨?_,List.pairwise_append.mpr ⟨sa.2.1,h.so,λx hx y hy=>h.high x (by simp[hx]) y hy⟩,sa.1,h.sb,λx hx y hy=>?_⟩
 ·refine List.Perm.trans ?_ h.perm
  rw[← List.append_assoc,List.append_assoc A B p,List.append_assoc A p B]
  exact List.Perm.append_right R (List.Perm.append_left A List.perm_append_comm)
 rcases List.mem_append.mp hy with hy |hy
 ·rcases List.mem_append.mp hx with hx |hx
  ·exact sa.2.2 x hx y hy
  ·exact l x hx y hy
 ·exact h.high x (by
   rcases List.mem_append.mp hx with hx |hx
   ·simp[hx]
   ·simp[hx]) y hy
theorem Mh.takeB {T p A B R:List Keyed}(h:Mh O kf T A (B++p) R)(l:∀ x∈A,∀ y∈p,leK O kf x y):Mh O kf T A B (p++R):=by
 have sb:=List.pairwise_append.mp h.sb
 refine⟨by have:=h.perm;simpa [List.append_assoc] using this,List.pairwise_append.mpr ⟨sb.2.1,h.so,λx hx y hy=>h.high x (by simp[hx]) y hy⟩,h.sa,sb.1,λx hx y hy=>?_⟩
 rcases List.mem_append.mp hy with hy |hy
 ·rcases List.mem_append.mp hx with hx |hx
  ·exact l x hx y hy
  ·exact sb.2.2 x hx y hy
 ·exact h.high x (by
   rcases List.mem_append.mp hx with hx |hx
   ·simp[hx]
   ·simp[hx]) y hy
theorem Mh.endA {T A R:List Keyed}(h:Mh O kf T A [] R):Res O kf T (A++R):=
 ⟨by have:=h.perm;simpa using this,List.pairwise_append.mpr ⟨h.sa,h.so,λx hx y hy=>h.high x (by simp[hx]) y hy⟩⟩
theorem Mh.endB {T B R:List Keyed}(h:Mh O kf T [] B R):Res O kf T (B++R):=
 ⟨by have:=h.perm;simpa using this,List.pairwise_append.mpr ⟨h.sb,h.so,λx hx y hy=>h.high x (by simp[hx]) y hy⟩⟩
theorem Mh.first {T A R:List Keyed}{z:Keyed}(h:Mh O kf T A [z] R)(l:∀ y∈A,leK O kf z y):Res O kf T ([z]++A++R):=by
 refine⟨?_,List.pairwise_append.mpr ⟨List.pairwise_append.mpr ⟨List.pairwise_singleton _ _,h.sa,λx hx y hy=>?_⟩,h.so,λx hx y hy=>?_⟩⟩
 ·refine List.Perm.trans ?_ h.perm
  exact List.Perm.append_right R List.perm_append_comm
 ·have ex:x=z:=by simpa using hx
  subst ex;exact l y hy
 ·exact h.high x (by
   rcases List.mem_append.mp hx with hx |hx
   ·simp at hx;simp[hx]
   ·simp[hx]) y hy
theorem take_snoc {a:Array Keyed}{i:Nat}(h:i<a.size):a.toList.take (i+1)=a.toList.take i++[a[i]]:=by
 rw[List.take_succ];simp[h]
theorem k9 {a:Array Keyed}{i n:Nat}(h:i<=n):a.toList.take n=a.toList.take i++(a.extract i n).toList:=by
 have e:(a.extract i n).toList=(a.toList.drop i).take (n-i):=by rw[Array.toList_extract,List.extract_eq_drop_take]
 rw[e,← List.take_append_drop i (a.toList.take n),List.take_take,Nat.min_eq_left h,List.drop_take]
theorem extract_zero {a:Array Keyed}(n:Nat):(a.extract 0 n).toList=a.toList.take n:=by
 rw[Array.toList_extract,List.extract_eq_drop_take];simp
theorem kN {l:List Keyed}{x y:Keyed}(hs:(l++[y]).Pairwise (leK O kf))(h:leK O kf y x):∀ z∈l++[y],leK O kf z x:=by
 intro z hz
 rcases List.mem_append.mp hz with hz |hz
 ·exact b9 ((List.pairwise_append.mp hs).2.2 z hz y (by simp)) h
 ·have e:z=y:=by simpa using hz
  rw[e];exact h
end
section
variable {prog:Program}{w:World}{A:Around}{E:Value->Shared->Prop}{s:Shared}{kd:SortKind}{O:KeyOrd}{kf:Value->O.α}{G:Keyed->Prop}
theorem pC (L:kG prog w A E s kd O kf G){a b:Array Keyed}{st:SortSt}{Q:Array Keyed->SortSt->Prop}(hk:kindOf st=kd)(ga:∀ x∈a.toList,G x)(gb:∀ x∈b.toList,G x)(ha : 0<a.size)(hb : 0<b.size)
  (sa:a.toList.Pairwise (leK O kf)) (sb:b.toList.Pairwise (leK O kf)) (first:leK O kf b[0] a[0]) (last:∀ y∈b.toList,leK O kf y a[a.size-1])
  (h:∀ r st',SameS st st'->Res O kf (a.toList++b.toList) r.toList->Q r st'):wpS (model prog w) A E s (wK a b) Q st:=by
 let T:=a.toList++b.toList
 let I:Array Keyed->Nat->Nat->Prop:=λout na nb=>Mh O kf T (a.toList.take na) (b.toList.take nb) out.toList.reverse
 have gA:∀ i (hi:i<a.size),G a[i]:=λi hi=>ga _ (Array.getElem_mem_toList hi)
 have gB:∀ i (hi:i<b.size),G b[i]:=λi hi=>gb _ (Array.getElem_mem_toList hi)
 have sgA:∀ i j (hi:i<a.size) (hj:j<a.size),i<=j->leK O kf a[i] a[j]:=by
  intro i j hi hj hij
  rcases Nat.lt_or_ge i j with hlt |hge
  ·have:=List.pairwise_iff_getElem.mp sa i j (by simpa using hi) (by simpa using hj) hlt
   simpa using this
  ·have e:i=j:=by omega
   subst e;exact KeyOrd.kle_refl _
 have sgB:∀ i j (hi:i<b.size) (hj:j<b.size),i<=j->leK O kf b[i] b[j]:=by
  intro i j hi hj hij
  rcases Nat.lt_or_ge i j with hlt |hge
  ·have:=List.pairwise_iff_getElem.mp sb i j (by simpa using hi) (by simpa using hj) hlt
   simpa using this
  ·have e:i=j:=by omega
   subst e;exact KeyOrd.kle_refl _
 have doneA:∀ {out:Array Keyed}{na nb:Nat},I out na nb->na=0->Res O kf T (a.extract 0 na++b.extract 0 nb++out.reverse).toList:=by
  intro out na nb hI e
  subst e
  have hI:Mh O kf T (a.toList.take 0) (b.toList.take nb) out.toList.reverse:=hI
  rw[Array.toList_append,Array.toList_append,extract_zero,extract_zero,Array.toList_reverse]
  rw[List.take_zero] at hI ⊢
  rw[List.nil_append]
  exact hI.endB
 have doneB:∀ {out:Array Keyed}{na nb:Nat},I out na nb->nb=0->Res O kf T (a.extract 0 na++b.extract 0 nb++out.reverse).toList:=by
  intro out na nb hI e
  subst e
  have hI:Mh O kf T (a.toList.take na) (b.toList.take 0) out.toList.reverse:=hI
  rw[Array.toList_append,Array.toList_append,extract_zero,extract_zero,Array.toList_reverse]
  rw[List.take_zero] at hI ⊢
  rw[List.append_nil]
  exact hI.endA
 have firstB:∀ {out:Array Keyed}{na nb:Nat},I out na nb->nb=1->Res O kf T (b.extract 0 nb++a.extract 0 na++out.reverse).toList:=by
  intro out na nb hI e
  subst e
  have hI:Mh O kf T (a.toList.take na) (b.toList.take 1) out.toList.reverse:=hI
  have e1:b.toList.take 1=[b[0]]:=by rw[take_snoc hb];simp
  rw[Array.toList_append,Array.toList_append,extract_zero,extract_zero,Array.toList_reverse,e1]
  rw[e1] at hI
  refine hI.first λy hy=>?_
  obtain⟨i,hi,e⟩:=List.getElem_of_mem (List.mem_of_mem_take hy)
  have hi':i<a.size:=by simpa using hi
  have ey:y=a[i]:=by rw[← e];simp
  rw[ey]
  exact b9 first (sgA 0 i ha hi' (Nat.zero_le _))
 have stepA:∀ {out:Array Keyed}{na nb:Nat}(h1:na<a.size) (h2:nb<b.size),I out (na+1) (nb+1)->leK O kf b[nb] a[na]->I (out.push a[na]) na (nb+1):=by
  intro out na nb h1 h2 hI hl
  have hI:Mh O kf T (a.toList.take (na+1)) (b.toList.take (nb+1)) out.toList.reverse:=hI
  have sB:=hI.sb
  rw[take_snoc h1] at hI
  show Mh O kf T (a.toList.take na) (b.toList.take (nb+1)) (out.push a[na]).toList.reverse
  rw[Array.toList_push,List.reverse_append]
  refine Mh.takeA (p:=[a[na]]) hI λx hx y hy=>?_
  have ey:y=a[na]:=by simpa using hy
  subst ey
  rw[take_snoc h2] at sB hx
  exact kN sB hl x hx
 have stepB:∀ {out:Array Keyed}{na nb:Nat}(h1:na<a.size) (h2:nb<b.size),I out (na+1) (nb+1)->leK O kf a[na] b[nb]->I (out.push b[nb]) (na+1) nb:=by
  intro out na nb h1 h2 hI hl
  have hI:Mh O kf T (a.toList.take (na+1)) (b.toList.take (nb+1)) out.toList.reverse:=hI
  have sA:=hI.sa
  rw[take_snoc h2] at hI
  show Mh O kf T (a.toList.take (na+1)) (b.toList.take nb) (out.push b[nb]).toList.reverse
  rw[Array.toList_push,List.reverse_append]
  refine Mh.takeB (p:=[b[nb]]) hI λx hx y hy=>?_
  have ey:y=b[nb]:=by simpa using hy
  subst ey
  rw[take_snoc h1] at sA hx
  exact kN sA hl x hx
 have manyA:∀ {out:Array Keyed}{na nb k:Nat}(h2:nb<b.size),I out na (nb+1)->k<=na->na<=a.size->(∀ i (hi:i<a.size),k<=i->i<na->leK O kf b[nb] a[i])->I (out++(a.extract k na).reverse) k (nb+1):=by
  intro out na nb k h2 hI hkn hna hl
  have hI:Mh O kf T (a.toList.take na) (b.toList.take (nb+1)) out.toList.reverse:=hI
  have sB:=hI.sb
  rw[k9 hkn] at hI
  show Mh O kf T (a.toList.take k) (b.toList.take (nb+1)) (out++(a.extract k na).reverse).toList.reverse
  rw[Array.toList_append,Array.toList_reverse,List.reverse_append,List.reverse_reverse]
  refine Mh.takeA hI λx hx y hy=>?_
  obtain⟨i,hi,e⟩:=List.getElem_of_mem hy
  have hi':i<na-k:=by
   have:(a.extract k na).toList.length=min (na-k) (a.size-k):=by simp
   omega
  have hai:k+i<a.size:=by omega
  have ey:y=a[k+i]:=by rw[← e];simp
  rw[take_snoc h2] at sB hx
  rw[ey]
  exact kN sB (hl (k+i) hai (by omega) (by omega)) x hx
 have manyB:∀ {out:Array Keyed}{na nb k:Nat}(h1:na<a.size),I out (na+1) nb->k<=nb->nb<=b.size->(∀ i (hi:i<b.size),k<=i->i<nb->leK O kf a[na] b[i])->I (out++(b.extract k nb).reverse) (na+1) k:=by
  intro out na nb k h1 hI hkn hnb hl
  have hI:Mh O kf T (a.toList.take (na+1)) (b.toList.take nb) out.toList.reverse:=hI
  have sA:=hI.sa
  rw[k9 hkn] at hI
  show Mh O kf T (a.toList.take (na+1)) (b.toList.take k) (out++(b.extract k nb).reverse).toList.reverse
  rw[Array.toList_append,Array.toList_reverse,List.reverse_append,List.reverse_reverse]
  refine Mh.takeB hI λx hx y hy=>?_
  obtain⟨i,hi,e⟩:=List.getElem_of_mem hy
  have hi':i<nb-k:=by
   have:(b.extract k nb).toList.length=min (nb-k) (b.size-k):=by simp
   omega
  have hai:k+i<b.size:=by omega
  have ey:y=b[k+i]:=by rw[← e];simp
  rw[take_snoc h1] at sA hx
  rw[ey]
  exact kN sA (hl (k+i) hai (by omega) (by omega)) x hx
 have start:I #[a[a.size-1]] (a.size-1) b.size:=by
  have e1:a.toList.take (a.size-1+1)=a.toList:=List.take_of_length_le (by simp;omega)
  have e2:b.toList.take b.size=b.toList:=List.take_of_length_le (by simp)
  have hI:Mh O kf T (a.toList.take (a.size-1+1)) b.toList []:=⟨by rw[e1];simp[T],List.Pairwise.nil,by rw[e1];exact sa,sb,λx hx y hy=>by simp at hy⟩
  rw[take_snoc (by omega)] at hI
  show Mh O kf T (a.toList.take (a.size-1)) (b.toList.take b.size) [a[a.size-1]]
  rw[e2]
  exact Mh.takeA (p:=[a[a.size-1]]) hI λx hx y hy=>by
   have ey:y=a[a.size-1]:=by simpa using hy
   rw[ey];exact last x hx
 refine wpS_bind (wpS_lift (wpAny_rule ⟨rfl,?_⟩))
 refine wpS_bind (aB (show a.size-1<a.size by omega) ?_)
 try dsimp only
 by_cases e1:(a.size-1==0)=true
 ·rw[if_pos e1]
  exact wpS_pure (h _ st (SameS.refl st) (doneA start (by simpa using e1)))
 ·rw[if_neg e1]
  have e1':a.size-1≠0:=by simpa using e1
  by_cases e2:(b.size==1)=true
  ·rw[if_pos e2]
   exact wpS_pure (h _ st (SameS.refl st) (firstB start (by simpa using e2)))
  ·rw[if_neg e2]
   have e2':b.size≠1:=by simpa using e2
   refine wpS_bind (wpS_get ?_)
   refine wpS_bind (wpS_mono (wpS_forRange (I:=λx c st'=>SameS st st'/\∃ na nb out mg,c=(none,na,nb,out,mg)/\I out na nb/\0<na/\na<a.size/\1<nb/\nb<=b.size/\na+nb+x+1<=a.size+b.size)
    (Q:=λc st'=>SameS st st'/\∃ r rest,c=(some r,rest)/\Res O kf T r.toList) ?step ?fin ⟨SameS.refl st,_,_,_,_,rfl,start,by omega,by omega,by omega,by omega,by omega⟩) ?post)
   case post =>
    rintro c st' ⟨hs,r,rest,rfl,hr⟩
    exact wpS_pure (h r st' hs hr)
   case fin =>
    rintro c st' ⟨hs,na,nb,out,mg,rfl,hI,h1,h1b,h2,h2b,h3⟩
    omega
   case step =>
    rintro x c st' _ hx ⟨hs,na,nb,out,mg,rfl,hI,h1,h1b,h2,h2b,h3⟩
    dsimp only
    refine wpS_bind (wpS_mono (wpS_forRange (I:=λy c st''=>SameS st st''/\∃ na' nb' out ac bc,c=(none,na',nb',out,ac,bc)/\I out na' nb'/\0<na'/\na'<a.size/\1<nb'/\nb'<=b.size/\na'+nb'+y<=na+nb)
     (Q:=λc st''=>SameS st st''/\((∃ r rest,c=(some r,rest)/\Res O kf T r.toList)∨∃ na' nb' out ac bc,c=(none,na',nb',out,ac,bc)/\I out na' nb'/\0<na'/\na'<a.size/\1<nb'/\nb'<=b.size/\na'+nb'+1<=na+nb)) ?step1 ?fin1 ⟨hs,_,_,_,_,_,rfl,hI,h1,h1b,h2,h2b,by omega⟩) ?post1)
    case fin1 =>
     rintro c st'' ⟨hs,na',nb',out,ac,bc,rfl,hI,h1',h1b',h2',h2b',h3'⟩
     omega
    case step1 =>
     rintro y c st'' _ hy ⟨hs,na',nb',out,ac,bc,rfl,hI,h1',h1b',h2',h2b',h3'⟩
     dsimp only
     obtain⟨p,rfl⟩:∃ p,na'=p+1:=⟨na'-1,by omega⟩
     obtain⟨q,rfl⟩:∃ q,nb'=q+1:=⟨nb'-1,by omega⟩
     have hp:p<a.size:=by omega
     have hq:q<b.size:=by omega
     simp only[Nat.add_sub_cancel]
     refine wpS_bind (aB hq (wpS_bind (aB hp (wpS_bind (L _ _ (gB _ hq) (gA _ hp) st'' _ (hs.kind.trans hk) ?_)))))
     dsimp only
     cases hlt:O.blt (kf b[q].1) (kf a[p].1) with
     |true =>
      rw[if_pos rfl]
      refine wpS_bind (aB hp ?_)
      have hI':=stepA hp hq hI (KeyOrd.kle_of_klt hlt)
      try dsimp only
      by_cases e3:(p==0)=true
      ·rw[if_pos e3]
       exact wpS_pure ⟨hs,.inl ⟨_,_,rfl,doneA hI' (by simpa using e3)⟩⟩
      ·rw[if_neg e3]
       have e3':p≠0:=by simpa using e3
       split
       ·exact wpS_pure ⟨hs,.inr ⟨_,_,_,_,_,rfl,hI',by omega,by omega,h2',h2b',by omega⟩⟩
       ·exact wpS_pure ⟨hs,_,_,_,_,_,rfl,hI',by omega,by omega,h2',h2b',by omega⟩
     |false =>
      rw[if_neg (by decide)]
      refine wpS_bind (aB hq ?_)
      have hI':=stepB hp hq hI (show O.kle _ _ from hlt)
      try dsimp only
      by_cases e3:(q==1)=true
      ·rw[if_pos e3]
       exact wpS_pure ⟨hs,.inl ⟨_,_,rfl,firstB hI' (by simpa using e3)⟩⟩
      ·rw[if_neg e3]
       have e3':q≠1:=by simpa using e3
       split
       ·exact wpS_pure ⟨hs,.inr ⟨_,_,_,_,_,rfl,hI',h1',h1b',by omega,by omega,by omega⟩⟩
       ·exact wpS_pure ⟨hs,_,_,_,_,_,rfl,hI',h1',h1b',by omega,by omega,by omega⟩
    case post1 =>
     rintro c st'' ⟨hs,⟨r,rest,rfl,hr⟩ |⟨na',nb',out,ac,bc,rfl,hI,h1',h1b',h2',h2b',h3'⟩⟩
     ·exact wpS_pure ⟨hs,r,_,rfl,hr⟩
     ·dsimp only
      refine wpS_bind (wpS_lift (wpAny_rule ⟨rfl,?_⟩))
      refine wpS_bind (wpS_mono (wpS_forRange (I:=λy c st3=>SameS st st3/\∃ na2 nb2 out mg ac bc,c=(none,na2,nb2,out,mg,ac,bc)/\I out na2 nb2/\0<na2/\na2<a.size/\1<nb2/\nb2<=b.size/\na2+nb2+y<=na'+nb')
       (Q:=λc st3=>SameS st st3/\((∃ r rest,c=(some r,rest)/\Res O kf T r.toList)∨∃ na2 nb2 out mg ac bc,c=(none,na2,nb2,out,mg,ac,bc)/\I out na2 nb2/\0<na2/\na2<a.size/\1<nb2/\nb2<=b.size/\na2+nb2<=na'+nb')) ?step2 ?fin2 ⟨hs,_,_,_,_,_,_,rfl,hI,h1',h1b',h2',h2b',by omega⟩) ?post2)
      case fin2 =>
       rintro c st3 ⟨hs,na2,nb2,out,mg,ac,bc,rfl,hI,h12,h12b,h22,h22b,h32⟩
       omega
      case post2 =>
       rintro c st3 ⟨hs,⟨r,rest,rfl,hr⟩ |⟨na2,nb2,out,mg,ac,bc,rfl,hI,h12,h12b,h22,h22b,h32⟩⟩
       ·exact wpS_pure ⟨hs,r,_,rfl,hr⟩
       ·dsimp only
        refine wpS_bind (wpS_modify (wpS_pure ⟨⟨hs.kind,hs.arr,hs.pend,hs.fail⟩,_,_,_,_,rfl,hI,h12,h12b,h22,h22b,by omega⟩))
      case step2 =>
       rintro y c st3 _ hy ⟨hs,na2,nb2,out,mg,ac,bc,rfl,hI,h12,h12b,h22,h22b,h32⟩
       dsimp only
       obtain⟨q,rfl⟩:∃ q,nb2=q+1:=⟨nb2-1,by omega⟩
       have hq:q<b.size:=by omega
       have hs3:∀ g,SameS st (SortSt.mk' (kindOf st3) (arrOf st3) (pendingOf st3) g (failedOf st3)):=λg=>⟨hs.kind,hs.arr,hs.pend,hs.fail⟩
       rcases Decidable.em (mg > 1) with hmg |hmg
       all_goals
        first |rw[if_pos hmg] |rw[if_neg hmg]
        refine wpS_bind (wpS_modify ?_)
        simp only[Nat.add_sub_cancel]
        refine wpS_bind (aB hq ?_)
        refine wpS_bind (bS L (by exact hs.kind.trans hk) (gB _ hq) ga (by omega) (by omega) (λi=>if hi : 0+i<a.size then bey O kf false b[q] a[0+i] else false) (λi hi _=>by rw[dif_pos hi]) ?_ ?_)
        ·intro i j hij hj hB
         have hj' : 0+j<a.size:=by omega
         have hi' : 0+i<a.size:=by omega
         rw[dif_pos hj'] at hB
         rw[dif_pos hi']
         unfold bey at hB ⊢
         rw[if_neg (by decide)] at hB ⊢
         have h1:O.kle (kf a[0+j].1) (kf b[q].1):=by simpa [KeyOrd.kle] using hB
         have h2:O.kle (kf a[0+i].1) (kf b[q].1):=KeyOrd.kle_trans (sgA _ _ hi' hj' (by omega)) h1
         simpa [KeyOrd.kle] using h2
        ·intro k hkn hk1 hk2
         try dsimp only
         have hA:∀ i (hi:i<a.size),k<=i->i<na2->leK O kf b[q] a[i]:=by
          intro i hi hki hin
          have hB:=hk2 i hki hin
          rw[dif_pos (by omega : 0+i<a.size)] at hB
          unfold bey at hB
          rw[if_neg (by decide)] at hB
          simp only[Nat.zero_add] at hB
          have hB':O.blt (kf b[q].1) (kf a[i].1)=true:=by simpa using hB
          exact KeyOrd.kle_of_klt hB'
         have hBl:∀ i (hi:i<a.size),i<k->leK O kf a[i] b[q]:=by
          intro i hi hik
          have hB:=hk1 i hik
          rw[dif_pos (by omega : 0+i<a.size)] at hB
          unfold bey at hB
          rw[if_neg (by decide)] at hB
          simp only[Nat.zero_add] at hB
          show O.kle _ _
          simpa [KeyOrd.kle] using hB
         rcases Decidable.em (na2-k > 0) with hk0 |hk0
         ·rw[if_pos hk0]
          have hI3:=manyA hq hI (by omega) (by omega) hA
          by_cases e4:(k==0)=true
          ·rw[if_pos e4]
           exact wpS_pure ⟨hs3 _,.inl ⟨_,_,rfl,doneA hI3 (by simpa using e4)⟩⟩
          ·rw[if_neg e4]
           have e4':k≠0:=by simpa using e4
           obtain⟨p,rfl⟩:∃ p,k=p+1:=⟨k-1,by omega⟩
           have hp:p<a.size:=by omega
           have hle3:=hBl p hp (by omega)
           refine wpS_bind (aB hq ?_)
           have hJ:=stepB hp hq hI3 hle3
           try dsimp only
           by_cases e6:(q==1)=true
           ·rw[if_pos e6]
            exact wpS_pure ⟨hs3 _,.inl ⟨_,_,rfl,firstB hJ (by simpa using e6)⟩⟩
           ·rw[if_neg e6]
            have e6':q≠1:=by simpa using e6
            simp only[Nat.add_sub_cancel]
            refine wpS_bind (aB hp ?_)
            refine wpS_bind (bS L (by exact hs.kind.trans hk) (gA _ hp) gb (by omega) (by omega) (λi=>if hi : 0+i<b.size then bey O kf true a[p] b[0+i] else false) (λi hi _=>by rw[dif_pos hi]) ?_ ?_)
            ·intro i j hij hj hB
             have hj' : 0+j<b.size:=by omega
             have hi' : 0+i<b.size:=by omega
             rw[dif_pos hj'] at hB
             rw[dif_pos hi']
             unfold bey at hB ⊢
             rw[if_pos rfl] at hB ⊢
             exact KeyOrd.klt_of_kle_of_klt (sgB _ _ hi' hj' (by omega)) hB
            ·intro k2 hkn2 hk12 hk22
             try dsimp only
             have hB2:∀ i (hi:i<b.size),k2<=i->i<q->leK O kf a[p] b[i]:=by
              intro i hi hki hiq
              have hB:=hk22 i hki hiq
              rw[dif_pos (by omega : 0+i<b.size)] at hB
              unfold bey at hB
              rw[if_pos rfl] at hB
              simp only[Nat.zero_add] at hB
              exact hB
             have hA2:∀ i (hi:i<b.size),i<k2->leK O kf b[i] a[p]:=by
              intro i hi hik
              have hB:=hk12 i hik
              rw[dif_pos (by omega : 0+i<b.size)] at hB
              unfold bey at hB
              rw[if_pos rfl] at hB
              simp only[Nat.zero_add] at hB
              exact KeyOrd.kle_of_klt hB
             rcases Decidable.em (q-k2 > 0) with hk3 |hk3
             ·rw[if_pos hk3]
              have hJ2:=manyB hp hJ (by omega) (by omega) hB2
              by_cases e7:(k2==1)=true
              ·rw[if_pos e7]
               exact wpS_pure ⟨hs3 _,.inl ⟨_,_,rfl,firstB hJ2 (by simpa using e7)⟩⟩
              ·rw[if_neg e7]
               have e7':k2≠1:=by simpa using e7
               by_cases e7b:(k2==0)=true
               ·rw[if_pos e7b]
                exact wpS_pure ⟨hs3 _,.inl ⟨_,_,rfl,doneB hJ2 (by simpa using e7b)⟩⟩
               ·rw[if_neg e7b]
                have e7b':k2≠0:=by simpa using e7b
                obtain⟨r,rfl⟩:∃ r,k2=r+1:=⟨k2-1,by omega⟩
                try simp only[Nat.add_sub_cancel]
                refine wpS_bind (aB hp ?_)
                have hK:=stepA hp (by omega) hJ2 (hA2 _ (by omega) (by omega))
                try dsimp only
                by_cases e8:(p==0)=true
                ·rw[if_pos e8]
                 exact wpS_pure ⟨hs3 _,.inl ⟨_,_,rfl,doneA hK (by simpa using e8)⟩⟩
                ·rw[if_neg e8]
                 have e8':p≠0:=by simpa using e8
                 by_cases e9:(decide (na2-(p+1)<7)&&decide (q-(r+1)<7))=true
                 ·rw[if_pos e9]
                  exact wpS_pure ⟨hs3 _,.inr ⟨_,_,_,_,_,_,rfl,hK,by omega,by omega,by omega,by omega,by omega⟩⟩
                 ·rw[if_neg e9]
                  exact wpS_pure ⟨hs3 _,_,_,_,_,_,_,rfl,hK,by omega,by omega,by omega,by omega,by omega⟩
             ·rw[if_neg hk3]
              have ek2:k2=q:=by omega
              subst ek2
              obtain⟨r,rfl⟩:∃ r,k2=r+1:=⟨k2-1,by omega⟩
              try simp only[Nat.add_sub_cancel]
              refine wpS_bind (aB hp ?_)
              have hK:=stepA hp (by omega) hJ (hA2 _ (by omega) (by omega))
              try dsimp only
              by_cases e8:(p==0)=true
              ·rw[if_pos e8]
               exact wpS_pure ⟨hs3 _,.inl ⟨_,_,rfl,doneA hK (by simpa using e8)⟩⟩
              ·rw[if_neg e8]
               have e8':p≠0:=by simpa using e8
               by_cases e9:(decide (na2-(p+1)<7)&&decide (r+1-(r+1)<7))=true
               ·rw[if_pos e9]
                exact wpS_pure ⟨hs3 _,.inr ⟨_,_,_,_,_,_,rfl,hK,by omega,by omega,by omega,by omega,by omega⟩⟩
               ·rw[if_neg e9]
                exact wpS_pure ⟨hs3 _,_,_,_,_,_,_,rfl,hK,by omega,by omega,by omega,by omega,by omega⟩
         ·rw[if_neg hk0]
          have ek:k=na2:=by omega
          subst ek
          obtain⟨p,rfl⟩:∃ p,k=p+1:=⟨k-1,by omega⟩
          have hp:p<a.size:=by omega
          have hle3:=hBl p hp (by omega)
          refine wpS_bind (aB hq ?_)
          have hJ:=stepB hp hq hI hle3
          try dsimp only
          by_cases e6:(q==1)=true
          ·rw[if_pos e6]
           exact wpS_pure ⟨hs3 _,.inl ⟨_,_,rfl,firstB hJ (by simpa using e6)⟩⟩
          ·rw[if_neg e6]
           have e6':q≠1:=by simpa using e6
           simp only[Nat.add_sub_cancel]
           refine wpS_bind (aB hp ?_)
           refine wpS_bind (bS L (by exact hs.kind.trans hk) (gA _ hp) gb (by omega) (by omega) (λi=>if hi : 0+i<b.size then bey O kf true a[p] b[0+i] else false) (λi hi _=>by rw[dif_pos hi]) ?_ ?_)
           ·intro i j hij hj hB
            have hj' : 0+j<b.size:=by omega
            have hi' : 0+i<b.size:=by omega
            rw[dif_pos hj'] at hB
            rw[dif_pos hi']
            unfold bey at hB ⊢
            rw[if_pos rfl] at hB ⊢
            exact KeyOrd.klt_of_kle_of_klt (sgB _ _ hi' hj' (by omega)) hB
           ·intro k2 hkn2 hk12 hk22
            try dsimp only
            have hB2:∀ i (hi:i<b.size),k2<=i->i<q->leK O kf a[p] b[i]:=by
             intro i hi hki hiq
             have hB:=hk22 i hki hiq
             rw[dif_pos (by omega : 0+i<b.size)] at hB
             unfold bey at hB
             rw[if_pos rfl] at hB
             simp only[Nat.zero_add] at hB
             exact hB
            have hA2:∀ i (hi:i<b.size),i<k2->leK O kf b[i] a[p]:=by
             intro i hi hik
             have hB:=hk12 i hik
             rw[dif_pos (by omega : 0+i<b.size)] at hB
             unfold bey at hB
             rw[if_pos rfl] at hB
             simp only[Nat.zero_add] at hB
             exact KeyOrd.kle_of_klt hB
            rcases Decidable.em (q-k2 > 0) with hk3 |hk3
            ·rw[if_pos hk3]
             have hJ2:=manyB hp hJ (by omega) (by omega) hB2
             by_cases e7:(k2==1)=true
             ·rw[if_pos e7]
              exact wpS_pure ⟨hs3 _,.inl ⟨_,_,rfl,firstB hJ2 (by simpa using e7)⟩⟩
             ·rw[if_neg e7]
              have e7':k2≠1:=by simpa using e7
              by_cases e7b:(k2==0)=true
              ·rw[if_pos e7b]
               exact wpS_pure ⟨hs3 _,.inl ⟨_,_,rfl,doneB hJ2 (by simpa using e7b)⟩⟩
              ·rw[if_neg e7b]
               have e7b':k2≠0:=by simpa using e7b
               obtain⟨r,rfl⟩:∃ r,k2=r+1:=⟨k2-1,by omega⟩
               try simp only[Nat.add_sub_cancel]
               refine wpS_bind (aB hp ?_)
               have hK:=stepA hp (by omega) hJ2 (hA2 _ (by omega) (by omega))
               try dsimp only
               by_cases e8:(p==0)=true
               ·rw[if_pos e8]
                exact wpS_pure ⟨hs3 _,.inl ⟨_,_,rfl,doneA hK (by simpa using e8)⟩⟩
               ·rw[if_neg e8]
                have e8':p≠0:=by simpa using e8
                by_cases e9:(decide (p+1-(p+1)<7)&&decide (q-(r+1)<7))=true
                ·rw[if_pos e9]
                 exact wpS_pure ⟨hs3 _,.inr ⟨_,_,_,_,_,_,rfl,hK,by omega,by omega,by omega,by omega,by omega⟩⟩
                ·rw[if_neg e9]
                 exact wpS_pure ⟨hs3 _,_,_,_,_,_,_,rfl,hK,by omega,by omega,by omega,by omega,by omega⟩
            ·rw[if_neg hk3]
             have ek2:k2=q:=by omega
             subst ek2
             obtain⟨r,rfl⟩:∃ r,k2=r+1:=⟨k2-1,by omega⟩
             try simp only[Nat.add_sub_cancel]
             refine wpS_bind (aB hp ?_)
             have hK:=stepA hp (by omega) hJ (hA2 _ (by omega) (by omega))
             try dsimp only
             by_cases e8:(p==0)=true
             ·rw[if_pos e8]
              exact wpS_pure ⟨hs3 _,.inl ⟨_,_,rfl,doneA hK (by simpa using e8)⟩⟩
             ·rw[if_neg e8]
              have e8':p≠0:=by simpa using e8
              by_cases e9:(decide (p+1-(p+1)<7)&&decide (r+1-(r+1)<7))=true
              ·rw[if_pos e9]
               exact wpS_pure ⟨hs3 _,.inr ⟨_,_,_,_,_,_,rfl,hK,by omega,by omega,by omega,by omega,by omega⟩⟩
              ·rw[if_neg e9]
               exact wpS_pure ⟨hs3 _,_,_,_,_,_,_,rfl,hK,by omega,by omega,by omega,by omega,by omega⟩
end
noncomputable abbrev vh:Nat->Nat->StateT SortSt Sem (Option Nat):=sortPriv% PySem.Builtin.countRun
noncomputable abbrev qN:Nat->Nat->Nat->StateT SortSt Sem Bool:=sortPriv% PySem.Builtin.binarySort
section
variable {prog:Program}{w:World}{A:Around}{E:Value->Shared->Prop}{s:Shared}{kd:SortKind}{O:KeyOrd}{kf:Value->O.α}{G:Keyed->Prop}
noncomputable def KX (kf:Value->O.α)(xs:Array Keyed)(i:Nat):O.α:=match xs[i]? with
 |some p=>kf p.1
 |none=>kf .none
theorem mq {xs ys:Array Keyed}{i j:Nat}(h:xs[i]?=ys[j]?):KX kf xs i=KX kf ys j:=by unfold KX;rw[h]
theorem mr {xs:Array Keyed}{i:Nat}(h:i<xs.size):KX kf xs i=kf xs[i].1:=by unfold KX;rw[getElem?_pos xs i h]
structure Sg (G:Keyed->Prop) (kd:SortKind) (lo:Nat) (st st':SortSt):Prop where
 kind:kindOf st'=kd
 good:∀ x∈(arrOf st').toList,G x
 perm:(arrOf st').Perm (arrOf st)
 pend:pendingOf st'=pendingOf st
 fail:failedOf st'=failedOf st
 same:∀ k,k<lo->(arrOf st')[k]?=(arrOf st)[k]?
theorem Sg.size {lo:Nat}{st st':SortSt}(h:Sg G kd lo st st'):(arrOf st').size=(arrOf st).size:=h.perm.size_eq
theorem Sg.set {lo:Nat}{st st':SortSt}(h:Sg G kd lo st st'){ys:Array Keyed}(hp:ys.Perm (arrOf st'))(hs:∀ k,k<lo->ys[k]?=(arrOf st')[k]?):Sg G kd lo st (setArr st' ys):=
 ⟨h.kind,λx hx=>h.good x ((Array.perm_iff_toList_perm.mp hp).mem_iff.mp hx),hp.trans h.perm,h.pend,h.fail,λk hk=>(hs k hk).trans (h.same k hk)⟩
theorem bC (L:kG prog w A E s kd O kf G){lo:Nat}{st0 st:SortSt}(hS:Sg G kd lo st0 st){i j:Nat}(hi:i<(arrOf st0).size)(hj:j<(arrOf st0).size){Q:Option Bool->SortSt->Prop}
  (q:Q (some (O.blt (KX kf (arrOf st) i) (KX kf (arrOf st) j))) st):wpS (model prog w) A E s (ltAt' i j) Q st:=by
 have hi':i<(arrOf st).size:=by rw[hS.size];exact hi
 have hj':j<(arrOf st).size:=by rw[hS.size];exact hj
 rw[mr hi',mr hj'] at q
 rw[ltAt'_eq]
 refine wpS_bind (wpS_get (wpS_bind (aB hi' (wpS_bind (aB hj' ?_)))))
 exact L _ _ (hS.good _ (Array.getElem_mem_toList hi')) (hS.good _ (Array.getElem_mem_toList hj')) st _ hS.kind q
theorem dj {i j:Nat}{st:SortSt}{Q:Unit->SortSt->Prop}(q:Q () (setArr st (mirror (arrOf st) i j ((j-i) / 2)))):wpS (model prog w) A E s (reverseSlice' i j) Q st:=by
 rw[reverseSlice'_eq];exact wpS_modify q
theorem xO {i j:Nat}{st:SortSt}{Q:Unit->SortSt->Prop}(q:Q () (setArr st (bubble (arrOf st) i (i-j)))):wpS (model prog w) A E s (moveDown' i j) Q st:=by
 rw[moveDown'_eq];exact wpS_modify q
def Asc (kf:Value->O.α)(xs:Array Keyed)(lo hi:Nat):Prop:=∀ i j,lo<=i->i<=j->j<hi->O.kle (KX kf xs i) (KX kf xs j)
def Desc (kf:Value->O.α)(xs:Array Keyed)(lo hi:Nat):Prop:=∀ i j,lo<=i->i<=j->j<hi->O.kle (KX kf xs j) (KX kf xs i)
theorem fy {xs:Array Keyed}{i j:Nat}(hj:j<=xs.size)(k:Nat):KX kf (mirror xs i j ((j-i) / 2)) k=if i<=k/\k<j then KX kf xs (i+j-1-k) else KX kf xs k:=by
 have e:=getElem?_mirror_all (xs:=xs) (i:=i) hj k
 split
 ·rename_i h1;rw[if_pos h1] at e;exact mq e
 ·rename_i h1;rw[if_neg h1] at e;exact mq e
theorem cI {xs:Array Keyed}{i j lo:Nat}(hj:j<=xs.size)(hl:lo<=i){k:Nat}(hk:k<lo):(mirror xs i j ((j-i) / 2))[k]?=xs[k]?:=by
 rw[getElem?_mirror_all (xs:=xs) (i:=i) hj k,if_neg (by omega)]
theorem eS {xs:Array Keyed}{i j:Nat}(hj:j<=xs.size)(heq:∀ a b,i<=a->a<j->i<=b->b<j->KX kf xs a=KX kf xs b)(k:Nat):KX kf (mirror xs i j ((j-i) / 2)) k=KX kf xs k:=by
 rw[fy hj]
 split
 ·rename_i h1;exact heq _ _ (by omega) (by omega) h1.1 h1.2
 ·rfl
theorem Asc.snoc {xs:Array Keyed}{lo n:Nat}(h:Asc kf xs lo (lo+n))(h0 : 0<n)(hn:O.blt (KX kf xs (lo+n)) (KX kf xs (lo+n-1))=false):Asc kf xs lo (lo+(n+1)):=by
 intro i j h1 h2 h3
 by_cases hj:j=lo+n
 ·subst hj
  by_cases hi:i=lo+n
  ·subst hi;exact KeyOrd.kle_refl _
  ·exact KeyOrd.kle_trans (h i (lo+n-1) h1 (by omega) (by omega)) hn
 ·exact h i j h1 h2 (by omega)
theorem Desc.snoc {xs:Array Keyed}{lo n:Nat}(h:Desc kf xs lo (lo+n))(h0 : 0<n)(hn:O.kle (KX kf xs (lo+n)) (KX kf xs (lo+n-1))):Desc kf xs lo (lo+(n+1)):=by
 intro i j h1 h2 h3
 by_cases hj:j=lo+n
 ·subst hj
  by_cases hi:i=lo+n
  ·subst hi;exact KeyOrd.kle_refl _
  ·exact KeyOrd.kle_trans hn (h i (lo+n-1) h1 (by omega) (by omega))
 ·exact h i j h1 h2 (by omega)
theorem mD (L:kG prog w A E s kd O kf G){lo nrem:Nat}{st:SortSt}{Q:Option Nat->SortSt->Prop}(hk:kindOf st=kd)(hg:∀ x∈(arrOf st).toList,G x)(hn:lo+nrem<=(arrOf st).size)(h1 : 1<=nrem)
  (h:∀ n st',Sg G kd lo st st'->1<=n->n<=nrem->Asc kf (arrOf st') lo (lo+n)->Q (some n) st'):wpS (model prog w) A E s (vh lo nrem) Q st:=by
 have hS0:Sg G kd lo st st:=⟨hk,hg,Array.Perm.refl _,rfl,rfl,λ_ _=>rfl⟩
 refine wpS_bind (wpS_mono (wpS_forRange (I:=λx c st'=>st'=st/\c=(none,x)/\Asc kf (arrOf st) lo (lo+x))
  (Q:=λc st'=>st'=st/\∃ n,c=(none,n)/\1<=n/\n<=nrem/\Asc kf (arrOf st) lo (lo+n)/\(n<nrem->O.blt (KX kf (arrOf st) (lo+n)) (KX kf (arrOf st) (lo+n-1))=true)) ?s1 ?f1 ⟨rfl,rfl,λi j a b c=>by
   have:i=j:=by omega
   subst this;exact KeyOrd.kle_refl _⟩) ?p1)
 case s1 =>
  rintro x c st' hx1 hx2 ⟨rfl,rfl,ha⟩
  try dsimp only
  refine wpS_bind (bC L hS0 (by omega) (by omega) ?_)
  cases hb:O.blt (KX kf (arrOf st') (lo+x)) (KX kf (arrOf st') (lo+x-1)) with
  |true=>exact wpS_pure ⟨rfl,x,rfl,hx1,by omega,ha,λ_=>hb⟩
  |false=>exact wpS_pure ⟨rfl,rfl,ha.snoc hx1 hb⟩
 case f1 =>
  rintro c st' ⟨rfl,rfl,ha⟩
  exact⟨rfl,_,rfl,by omega,by omega,ha,λhlt=>by omega⟩
 case p1 =>
  rintro c st' ⟨rfl,n,rfl,hn1,hn2,ha,hb⟩
  try dsimp only
  by_cases e1:(n==nrem)=true
  ·rw[if_pos e1]
   exact wpS_pure (h n st' hS0 hn1 hn2 ha)
  ·rw[if_neg e1]
   have e1':n≠nrem:=by simpa using e1
   have hb:=hb (by omega)
   have hD1:∀ st2:SortSt,(∀ k,KX kf (arrOf st2) k=KX kf (arrOf st') k)->(∀ a b,lo<=a->a<lo+n->lo<=b->b<lo+n->KX kf (arrOf st') a=KX kf (arrOf st') b)->Desc kf (arrOf st2) lo (lo+(n+1)):=by
    intro st2 eK eq
    refine Desc.snoc (λi j a1 a2 a3=>?_) hn1 ?_
    ·rw[eK,eK,eq i j a1 (by omega) (by omega) a3];exact KeyOrd.kle_refl _
    ·rw[eK,eK];exact KeyOrd.kle_of_klt hb
   by_cases e2:n > 1
   ·rw[if_pos e2]
    refine wpS_bind (bC L hS0 (by omega) (by omega) ?_)
    cases hr:O.blt (KX kf (arrOf st') lo) (KX kf (arrOf st') (lo+n-1)) with
    |true=>exact wpS_pure (h n st' hS0 hn1 hn2 ha)
    |false =>
     try dsimp only
     rw[if_neg (by decide)]
     have eq:∀ a b,lo<=a->a<lo+n->lo<=b->b<lo+n->KX kf (arrOf st') a=KX kf (arrOf st') b:=by
      have one:∀ c,lo<=c->c<lo+n->KX kf (arrOf st') c=KX kf (arrOf st') lo:=by
       intro c c1 c2
       refine KeyOrd.kle_antisymm ?_ (ha lo c (Nat.le_refl _) c1 c2)
       exact KeyOrd.kle_trans (ha c (lo+n-1) c1 (by omega) (by omega)) hr
      intro a b a1 a2 b1 b2
      rw[one a a1 a2,one b b1 b2]
     have hsz:lo+n<=(arrOf st').size:=by omega
     refine wpS_bind (dj ?_)
     have HS2:=hS0.set (mirror_perm (arrOf st') lo (lo+n) ((lo+n-lo) / 2)) (λk hk'=>cI hsz (Nat.le_refl lo) hk')
     have HD2:=hD1 (setArr st' (mirror (arrOf st') lo (lo+n) ((lo+n-lo) / 2))) (λk=>eS hsz eq k) eq
     generalize setArr st' (mirror (arrOf st') lo (lo+n) ((lo+n-lo) / 2))=st2 at HS2 HD2 ⊢
     refine wpS_bind (wpS_lift (wpAny_rule ⟨rfl,?_⟩))
     refine wpS_bind (wpS_mono (wpS_forRange (I:=λx c st'' => ∃ q,c=(none,x,q)/\q+1<=x/\Sg G kd lo st' st''/\Desc kf (arrOf st'') lo (lo+x)/\∀ a b,lo+x-(q+1)<=a->a<lo+x->lo+x-(q+1)<=b->b<lo+x->KX kf (arrOf st'') a=KX kf (arrOf st'') b)
      (Q:=λc st'' => ∃ m q,c=(none,m,q)/\q+1<=m/\n+1<=m/\m<=nrem/\Sg G kd lo st' st''/\Desc kf (arrOf st'') lo (lo+m)/\∀ a b,lo+m-(q+1)<=a->a<lo+m->lo+m-(q+1)<=b->b<lo+m->KX kf (arrOf st'') a=KX kf (arrOf st'') b) ?_ ?_ ⟨0,rfl,by omega,HS2,HD2,λa b a1 a2 a3 a4=>by
       have:a=b:=by omega
       subst this;rfl⟩) ?_)
     ·rintro x c st'' hx1 hx2 ⟨q,rfl,hq,hS,hD,hE⟩
      try dsimp only
      refine wpS_bind (bC L hS (by omega) (by omega) ?_)
      cases hb2:O.blt (KX kf (arrOf st'') (lo+x)) (KX kf (arrOf st'') (lo+x-1)) with
      |true =>
       try dsimp only
       rw[if_pos rfl]
       by_cases hq0:q > 0
       ·rw[if_pos hq0]
        refine wpS_bind (dj (wpS_pure ?_))
        have hsz:lo+x<=(arrOf st'').size:=by rw[hS.size];omega
        refine⟨0,rfl,by omega,hS.set (mirror_perm _ _ _ _) (λk hk'=>cI hsz (by omega) hk'),?_,λa b a1 a2 a3 a4=>by
         have:a=b:=by omega
         subst this;rfl⟩
        have eK:∀ k,KX kf (arrOf (setArr st'' (mirror (arrOf st'') (lo+x-(q+1)) (lo+x) ((lo+x-(lo+x-(q+1))) / 2)))) k=KX kf (arrOf st'') k:=λk=>eS hsz hE k
        refine Desc.snoc (λi j a1 a2 a3=>?_) (by omega) ?_
        ·rw[eK,eK];exact hD i j a1 a2 a3
        ·rw[eK,eK];exact KeyOrd.kle_of_klt hb2
       ·rw[if_neg hq0]
        exact wpS_pure ⟨0,rfl,by omega,hS,hD.snoc (by omega) (KeyOrd.kle_of_klt hb2),λa b a1 a2 a3 a4=>by
         have:a=b:=by omega
         subst this;rfl⟩
      |false =>
       try dsimp only
       rw[if_neg (by decide)]
       refine wpS_bind (bC L hS (by omega) (by omega) ?_)
       cases hb3:O.blt (KX kf (arrOf st'') (lo+x-1)) (KX kf (arrOf st'') (lo+x)) with
       |true=>exact wpS_pure ⟨x,q,rfl,hq,by omega,by omega,hS,hD,hE⟩
       |false =>
        have eq1:KX kf (arrOf st'') (lo+x)=KX kf (arrOf st'') (lo+x-1):=O.total _ _ hb2 hb3
        refine wpS_pure ⟨q+1,rfl,by omega,hS,hD.snoc (by omega) hb3,λa b a1 a2 a3 a4=>?_⟩
        have all:∀ c,lo+(x+1)-(q+1+1)<=c->c<lo+(x+1)->KX kf (arrOf st'') c=KX kf (arrOf st'') (lo+x-1):=by
         intro c c1 c2
         by_cases hc:c=lo+x
         ·rw[hc];exact eq1
         ·exact hE c (lo+x-1) (by omega) (by omega) (by omega) (by omega)
        rw[all a a1 a2,all b a3 a4]
     ·rintro c st'' ⟨q,rfl,hq,hS,hD,hE⟩
      rw[show max (n+1) nrem=nrem by omega] at hq hD hE ⊢
      exact⟨nrem,q,rfl,hq,by omega,Nat.le_refl _,hS,hD,hE⟩
     ·rintro c st4 ⟨m,q,rfl,hq,hm1,hm2,hS4,hD4,hE4⟩
      try dsimp only
      have hsz4:lo+m<=(arrOf st4).size:=by rw[hS4.size];omega
      by_cases hq0:q > 0
      ·rw[if_pos hq0]
       refine wpS_bind (dj ?_)
       have hS4':=hS4.set (mirror_perm _ (lo+m-(q+1)) (lo+m) _) (λk hk'=>cI hsz4 (by omega) hk')
       have hD4':Desc kf (arrOf (setArr st4 (mirror (arrOf st4) (lo+m-(q+1)) (lo+m) ((lo+m-(lo+m-(q+1))) / 2)))) lo (lo+m):=by
        have eK:∀ k,KX kf (arrOf (setArr st4 (mirror (arrOf st4) (lo+m-(q+1)) (lo+m) ((lo+m-(lo+m-(q+1))) / 2)))) k=KX kf (arrOf st4) k:=λk=>eS hsz4 hE4 k
        intro i j a1 a2 a3
        rw[eK,eK];exact hD4 i j a1 a2 a3
       generalize setArr st4 (mirror (arrOf st4) (lo+m-(q+1)) (lo+m) ((lo+m-(lo+m-(q+1))) / 2))=st4' at hS4' hD4' ⊢
       refine wpS_bind (dj ?_)
       have hS5:=hS4'.set (mirror_perm _ lo (lo+m) _) (λk hk'=>cI (by rw[hS4'.size];omega) (Nat.le_refl lo) hk')
       have ha5:Asc kf (arrOf (setArr st4' (mirror (arrOf st4') lo (lo+m) ((lo+m-lo) / 2)))) lo (lo+m):=by
        intro i j a1 a2 a3
        show O.kle (KX kf (mirror (arrOf st4') lo (lo+m) ((lo+m-lo) / 2)) i) (KX kf (mirror (arrOf st4') lo (lo+m) ((lo+m-lo) / 2)) j)
        rw[fy (by rw[hS4'.size];omega),fy (by rw[hS4'.size];omega),if_pos ⟨by omega,by omega⟩,if_pos ⟨by omega,by omega⟩]
        exact hD4' _ _ (by omega) (by omega) (by omega)
       generalize setArr st4' (mirror (arrOf st4') lo (lo+m) ((lo+m-lo) / 2))=st5 at hS5 ha5 ⊢
       refine wpS_bind (wpS_mono (wpS_forRange (I:=λx c st''=>st''=st5/\c=(none,x)/\Asc kf (arrOf st5) lo (lo+x))
        (Q:=λc st''=>st''=st5/\∃ n,c=(none,n)/\1<=n/\n<=nrem/\Asc kf (arrOf st5) lo (lo+n)) ?_ ?_ ⟨rfl,rfl,ha5⟩) ?_)
       ·rintro x c st'' hx1 hx2 ⟨rfl,rfl,ha⟩
        try dsimp only
        refine wpS_bind (bC L hS5 (by omega) (by omega) ?_)
        cases hb2:O.blt (KX kf (arrOf st'') (lo+x)) (KX kf (arrOf st'') (lo+x-1)) with
        |true=>exact wpS_pure ⟨rfl,x,rfl,by omega,by omega,ha⟩
        |false=>exact wpS_pure ⟨rfl,rfl,ha.snoc (by omega) hb2⟩
       ·rintro c st'' ⟨rfl,rfl,ha⟩
        refine⟨rfl,_,rfl,by omega,by omega,ha⟩
       ·rintro c st'' ⟨rfl,n',rfl,hn1',hn2',ha'⟩
        exact wpS_pure (h n' st'' hS5 hn1' hn2' ha')
      ·rw[if_neg hq0]
       refine wpS_bind (dj ?_)
       have hS5:=hS4.set (mirror_perm _ lo (lo+m) _) (λk hk'=>cI (by rw[hS4.size];omega) (Nat.le_refl lo) hk')
       have ha5:Asc kf (arrOf (setArr st4 (mirror (arrOf st4) lo (lo+m) ((lo+m-lo) / 2)))) lo (lo+m):=by
        intro i j a1 a2 a3
        show O.kle (KX kf (mirror (arrOf st4) lo (lo+m) ((lo+m-lo) / 2)) i) (KX kf (mirror (arrOf st4) lo (lo+m) ((lo+m-lo) / 2)) j)
        rw[fy (by rw[hS4.size];omega),fy (by rw[hS4.size];omega),if_pos ⟨by omega,by omega⟩,if_pos ⟨by omega,by omega⟩]
        exact hD4 _ _ (by omega) (by omega) (by omega)
       generalize setArr st4 (mirror (arrOf st4) lo (lo+m) ((lo+m-lo) / 2))=st5 at hS5 ha5 ⊢
       refine wpS_bind (wpS_mono (wpS_forRange (I:=λx c st''=>st''=st5/\c=(none,x)/\Asc kf (arrOf st5) lo (lo+x))
        (Q:=λc st''=>st''=st5/\∃ n,c=(none,n)/\1<=n/\n<=nrem/\Asc kf (arrOf st5) lo (lo+n)) ?_ ?_ ⟨rfl,rfl,ha5⟩) ?_)
       ·rintro x c st'' hx1 hx2 ⟨rfl,rfl,ha⟩
        try dsimp only
        refine wpS_bind (bC L hS5 (by omega) (by omega) ?_)
        cases hb2:O.blt (KX kf (arrOf st'') (lo+x)) (KX kf (arrOf st'') (lo+x-1)) with
        |true=>exact wpS_pure ⟨rfl,x,rfl,by omega,by omega,ha⟩
        |false=>exact wpS_pure ⟨rfl,rfl,ha.snoc (by omega) hb2⟩
       ·rintro c st'' ⟨rfl,rfl,ha⟩
        refine⟨rfl,_,rfl,by omega,by omega,ha⟩
       ·rintro c st'' ⟨rfl,n',rfl,hn1',hn2',ha'⟩
        exact wpS_pure (h n' st'' hS5 hn1' hn2' ha')
   ·rw[if_neg e2]
    have en:n=1:=by omega
    have HS2:=hS0
    have HD2:=hD1 st' (λ_=>rfl) λa b a1 a2 a3 a4=>by
     have:a=b:=by omega
     subst this;rfl
    refine wpS_bind (wpS_lift (wpAny_rule ⟨rfl,?_⟩))
    refine wpS_bind (wpS_mono (wpS_forRange (I:=λx c st'' => ∃ q,c=(none,x,q)/\q+1<=x/\Sg G kd lo st' st''/\Desc kf (arrOf st'') lo (lo+x)/\∀ a b,lo+x-(q+1)<=a->a<lo+x->lo+x-(q+1)<=b->b<lo+x->KX kf (arrOf st'') a=KX kf (arrOf st'') b)
     (Q:=λc st'' => ∃ m q,c=(none,m,q)/\q+1<=m/\n+1<=m/\m<=nrem/\Sg G kd lo st' st''/\Desc kf (arrOf st'') lo (lo+m)/\∀ a b,lo+m-(q+1)<=a->a<lo+m->lo+m-(q+1)<=b->b<lo+m->KX kf (arrOf st'') a=KX kf (arrOf st'') b) ?_ ?_ ⟨0,rfl,by omega,HS2,HD2,λa b a1 a2 a3 a4=>by
      have:a=b:=by omega
      subst this;rfl⟩) ?_)
    ·rintro x c st'' hx1 hx2 ⟨q,rfl,hq,hS,hD,hE⟩
     try dsimp only
     refine wpS_bind (bC L hS (by omega) (by omega) ?_)
     cases hb2:O.blt (KX kf (arrOf st'') (lo+x)) (KX kf (arrOf st'') (lo+x-1)) with
     |true =>
      try dsimp only
      rw[if_pos rfl]
      by_cases hq0:q > 0
      ·rw[if_pos hq0]
       refine wpS_bind (dj (wpS_pure ?_))
       have hsz:lo+x<=(arrOf st'').size:=by rw[hS.size];omega
       refine⟨0,rfl,by omega,hS.set (mirror_perm _ _ _ _) (λk hk'=>cI hsz (by omega) hk'),?_,λa b a1 a2 a3 a4=>by
        have:a=b:=by omega
        subst this;rfl⟩
       have eK:∀ k,KX kf (arrOf (setArr st'' (mirror (arrOf st'') (lo+x-(q+1)) (lo+x) ((lo+x-(lo+x-(q+1))) / 2)))) k=KX kf (arrOf st'') k:=λk=>eS hsz hE k
       refine Desc.snoc (λi j a1 a2 a3=>?_) (by omega) ?_
       ·rw[eK,eK];exact hD i j a1 a2 a3
       ·rw[eK,eK];exact KeyOrd.kle_of_klt hb2
      ·rw[if_neg hq0]
       exact wpS_pure ⟨0,rfl,by omega,hS,hD.snoc (by omega) (KeyOrd.kle_of_klt hb2),λa b a1 a2 a3 a4=>by
        have:a=b:=by omega
        subst this;rfl⟩
     |false =>
      try dsimp only
      rw[if_neg (by decide)]
      refine wpS_bind (bC L hS (by omega) (by omega) ?_)
      cases hb3:O.blt (KX kf (arrOf st'') (lo+x-1)) (KX kf (arrOf st'') (lo+x)) with
      |true=>exact wpS_pure ⟨x,q,rfl,hq,by omega,by omega,hS,hD,hE⟩
      |false =>
       have eq1:KX kf (arrOf st'') (lo+x)=KX kf (arrOf st'') (lo+x-1):=O.total _ _ hb2 hb3
       refine wpS_pure ⟨q+1,rfl,by omega,hS,hD.snoc (by omega) hb3,λa b a1 a2 a3 a4=>?_⟩
       have all:∀ c,lo+(x+1)-(q+1+1)<=c->c<lo+(x+1)->KX kf (arrOf st'') c=KX kf (arrOf st'') (lo+x-1):=by
        intro c c1 c2
        by_cases hc:c=lo+x
        ·rw[hc];exact eq1
        ·exact hE c (lo+x-1) (by omega) (by omega) (by omega) (by omega)
       rw[all a a1 a2,all b a3 a4]
    ·rintro c st'' ⟨q,rfl,hq,hS,hD,hE⟩
     rw[show max (n+1) nrem=nrem by omega] at hq hD hE ⊢
     exact⟨nrem,q,rfl,hq,by omega,Nat.le_refl _,hS,hD,hE⟩
    ·rintro c st4 ⟨m,q,rfl,hq,hm1,hm2,hS4,hD4,hE4⟩
     try dsimp only
     have hsz4:lo+m<=(arrOf st4).size:=by rw[hS4.size];omega
     by_cases hq0:q > 0
     ·rw[if_pos hq0]
      refine wpS_bind (dj ?_)
      have hS4':=hS4.set (mirror_perm _ (lo+m-(q+1)) (lo+m) _) (λk hk'=>cI hsz4 (by omega) hk')
      have hD4':Desc kf (arrOf (setArr st4 (mirror (arrOf st4) (lo+m-(q+1)) (lo+m) ((lo+m-(lo+m-(q+1))) / 2)))) lo (lo+m):=by
       have eK:∀ k,KX kf (arrOf (setArr st4 (mirror (arrOf st4) (lo+m-(q+1)) (lo+m) ((lo+m-(lo+m-(q+1))) / 2)))) k=KX kf (arrOf st4) k:=λk=>eS hsz4 hE4 k
       intro i j a1 a2 a3
       rw[eK,eK];exact hD4 i j a1 a2 a3
      generalize setArr st4 (mirror (arrOf st4) (lo+m-(q+1)) (lo+m) ((lo+m-(lo+m-(q+1))) / 2))=st4' at hS4' hD4' ⊢
      refine wpS_bind (dj ?_)
      have hS5:=hS4'.set (mirror_perm _ lo (lo+m) _) (λk hk'=>cI (by rw[hS4'.size];omega) (Nat.le_refl lo) hk')
      have ha5:Asc kf (arrOf (setArr st4' (mirror (arrOf st4') lo (lo+m) ((lo+m-lo) / 2)))) lo (lo+m):=by
       intro i j a1 a2 a3
       show O.kle (KX kf (mirror (arrOf st4') lo (lo+m) ((lo+m-lo) / 2)) i) (KX kf (mirror (arrOf st4') lo (lo+m) ((lo+m-lo) / 2)) j)
       rw[fy (by rw[hS4'.size];omega),fy (by rw[hS4'.size];omega),if_pos ⟨by omega,by omega⟩,if_pos ⟨by omega,by omega⟩]
       exact hD4' _ _ (by omega) (by omega) (by omega)
      generalize setArr st4' (mirror (arrOf st4') lo (lo+m) ((lo+m-lo) / 2))=st5 at hS5 ha5 ⊢
      refine wpS_bind (wpS_mono (wpS_forRange (I:=λx c st''=>st''=st5/\c=(none,x)/\Asc kf (arrOf st5) lo (lo+x))
       (Q:=λc st''=>st''=st5/\∃ n,c=(none,n)/\1<=n/\n<=nrem/\Asc kf (arrOf st5) lo (lo+n)) ?_ ?_ ⟨rfl,rfl,ha5⟩) ?_)
      ·rintro x c st'' hx1 hx2 ⟨rfl,rfl,ha⟩
       try dsimp only
       refine wpS_bind (bC L hS5 (by omega) (by omega) ?_)
       cases hb2:O.blt (KX kf (arrOf st'') (lo+x)) (KX kf (arrOf st'') (lo+x-1)) with
       |true=>exact wpS_pure ⟨rfl,x,rfl,by omega,by omega,ha⟩
       |false=>exact wpS_pure ⟨rfl,rfl,ha.snoc (by omega) hb2⟩
      ·rintro c st'' ⟨rfl,rfl,ha⟩
       refine⟨rfl,_,rfl,by omega,by omega,ha⟩
      ·rintro c st'' ⟨rfl,n',rfl,hn1',hn2',ha'⟩
       exact wpS_pure (h n' st'' hS5 hn1' hn2' ha')
     ·rw[if_neg hq0]
      refine wpS_bind (dj ?_)
      have hS5:=hS4.set (mirror_perm _ lo (lo+m) _) (λk hk'=>cI (by rw[hS4.size];omega) (Nat.le_refl lo) hk')
      have ha5:Asc kf (arrOf (setArr st4 (mirror (arrOf st4) lo (lo+m) ((lo+m-lo) / 2)))) lo (lo+m):=by
       intro i j a1 a2 a3
       show O.kle (KX kf (mirror (arrOf st4) lo (lo+m) ((lo+m-lo) / 2)) i) (KX kf (mirror (arrOf st4) lo (lo+m) ((lo+m-lo) / 2)) j)
       rw[fy (by rw[hS4.size];omega),fy (by rw[hS4.size];omega),if_pos ⟨by omega,by omega⟩,if_pos ⟨by omega,by omega⟩]
       exact hD4 _ _ (by omega) (by omega) (by omega)
      generalize setArr st4 (mirror (arrOf st4) lo (lo+m) ((lo+m-lo) / 2))=st5 at hS5 ha5 ⊢
      refine wpS_bind (wpS_mono (wpS_forRange (I:=λx c st''=>st''=st5/\c=(none,x)/\Asc kf (arrOf st5) lo (lo+x))
       (Q:=λc st''=>st''=st5/\∃ n,c=(none,n)/\1<=n/\n<=nrem/\Asc kf (arrOf st5) lo (lo+n)) ?_ ?_ ⟨rfl,rfl,ha5⟩) ?_)
      ·rintro x c st'' hx1 hx2 ⟨rfl,rfl,ha⟩
       try dsimp only
       refine wpS_bind (bC L hS5 (by omega) (by omega) ?_)
       cases hb2:O.blt (KX kf (arrOf st'') (lo+x)) (KX kf (arrOf st'') (lo+x-1)) with
       |true=>exact wpS_pure ⟨rfl,x,rfl,by omega,by omega,ha⟩
       |false=>exact wpS_pure ⟨rfl,rfl,ha.snoc (by omega) hb2⟩
      ·rintro c st'' ⟨rfl,rfl,ha⟩
       refine⟨rfl,_,rfl,by omega,by omega,ha⟩
      ·rintro c st'' ⟨rfl,n',rfl,hn1',hn2',ha'⟩
       exact wpS_pure (h n' st'' hS5 hn1' hn2' ha')
end
section
variable {prog:Program}{w:World}{A:Around}{E:Value->Shared->Prop}{s:Shared}{kd:SortKind}{O:KeyOrd}{kf:Value->O.α}{G:Keyed->Prop}
theorem xI {xs:Array Keyed}{src d:Nat}(hs:src<xs.size)(hd:d<=src)(k:Nat):KX kf (bubble xs src d) k=if k=src-d then KX kf xs src else if src-d<k/\k<=src then KX kf xs (k-1) else KX kf xs k:=by
 have e:=getElem?_bubble hs d hd k
 split
 ·rename_i h1;rw[if_pos h1] at e;exact mq e
 ·rename_i h1
  rw[if_neg h1] at e
  split
  ·rename_i h2;rw[if_pos h2] at e;exact mq e
  ·rename_i h2;rw[if_neg h2] at e;exact mq e
theorem pE (L:kG prog w A E s kd O kf G){lo n ok:Nat}{st0 st:SortSt}{Q:Bool->SortSt->Prop}(hS:Sg G kd lo st0 st)(hn:lo+n<=(arrOf st0).size)(hok:ok<=n)(ha:Asc kf (arrOf st) lo (lo+ok))
  (h:∀ st',Sg G kd lo st0 st'->Asc kf (arrOf st') lo (lo+n)->Q true st'):wpS (model prog w) A E s (qN lo n ok) Q st:=by
 refine wpS_bind (wpS_mono (wpS_forRange (I:=λk c st'=>c=(none,())/\Sg G kd lo st0 st'/\Asc kf (arrOf st') lo (lo+min k n)) (Q:=λc st'=>c=(none,())/\Sg G kd lo st0 st'/\Asc kf (arrOf st') lo (lo+n)) ?s1 ?f1 ⟨rfl,hS,λi j a1 a2 a3=>?i1⟩) ?p1)
 case i1 =>
  by_cases e:j<lo+ok
  ·exact ha i j a1 a2 e
  ·have:i=j:=by omega
   subst this;exact KeyOrd.kle_refl _
 case f1 =>
  rintro c st' ⟨hc,hS',ha'⟩
  refine⟨hc,hS',?_⟩
  rwa [show min (max (max ok 1) n) n=n by omega] at ha'
 case p1 =>
  rintro c st' ⟨rfl,hS',ha'⟩
  exact wpS_pure (h st' hS' ha')
 case s1 =>
  rintro k c st' hk1 hk2 ⟨rfl,hS',ha'⟩
  rw[show min k n=k by omega] at ha'
  try dsimp only
  refine wpS_bind (wpS_mono (wpS_forRange (I:=λx c st''=>st''=st'/\∃ l r,c=(none,l,r)/\l<=r/\r<=k/\r-l<=k-x/\(∀ i,i<l->O.kle (KX kf (arrOf st') (lo+i)) (KX kf (arrOf st') (lo+k)))/\∀ i,r<=i->i<k->O.klt (KX kf (arrOf st') (lo+k)) (KX kf (arrOf st') (lo+i)))
   (Q:=λc st''=>st''=st'/\∃ l r,c=(none,l,r)/\l<=k/\(∀ i,i<l->O.kle (KX kf (arrOf st') (lo+i)) (KX kf (arrOf st') (lo+k)))/\∀ i,l<=i->i<k->O.klt (KX kf (arrOf st') (lo+k)) (KX kf (arrOf st') (lo+i))) ?s2 ?f2 ⟨rfl,0,k,rfl,by omega,by omega,by omega,λi hi=>by omega,λi a b=>by omega⟩) ?p2)
  case f2 =>
   rintro c st'' ⟨rfl,l,r,rfl,a1,a2,a3,a4,a5⟩
   exact⟨rfl,l,r,rfl,by omega,a4,λi b1 b2=>a5 i (by omega) b2⟩
  case s2 =>
   rintro x c st'' _ hx ⟨rfl,l,r,rfl,a1,a2,a3,a4,a5⟩
   try dsimp only
   by_cases e:l≥r
   ·rw[if_pos e]
    exact wpS_pure ⟨rfl,l,r,rfl,by omega,a4,λi b1 b2=>a5 i (by omega) b2⟩
   ·rw[if_neg e]
    refine wpS_bind (bC L hS' (by omega) (by omega) ?_)
    cases hb:O.blt (KX kf (arrOf st'') (lo+k)) (KX kf (arrOf st'') (lo+(l+r) / 2)) with
    |true=>exact wpS_pure ⟨rfl,l,(l+r) / 2,rfl,by omega,by omega,by omega,a4,λi b1 b2=>KeyOrd.klt_of_klt_of_kle hb (ha' _ _ (by omega) (by omega) (by omega))⟩
    |false=>exact wpS_pure ⟨rfl,(l+r) / 2+1,r,rfl,by omega,by omega,by omega,λi b1=>KeyOrd.kle_trans (ha' _ _ (by omega) (by omega) (by omega)) (show O.kle _ _ from hb),a5⟩
  case p2 =>
   rintro c st'' ⟨rfl,l,r,rfl,a1,a4,a5⟩
   try dsimp only
   have hsz:lo+k<(arrOf st'').size:=by rw[hS'.size];omega
   refine wpS_bind (xO (wpS_pure ⟨rfl,hS'.set (bubble_perm _ _ _) (λq hq=>?_),?_⟩))
   ·rw[getElem?_bubble hsz _ (by omega),if_neg (by omega),if_neg (by omega)]
   ·rw[show min (k+1) n=k+1 by omega]
    intro i j b1 b2 b3
    show O.kle (KX kf (bubble (arrOf st'') (lo+k) (lo+k-(lo+l))) i) (KX kf (bubble (arrOf st'') (lo+k) (lo+k-(lo+l))) j)
    rw[xI hsz (by omega),xI hsz (by omega),show lo+k-(lo+k-(lo+l))=lo+l by omega]
    have up:∀ q,lo<=q->q<lo+l->O.kle (KX kf (arrOf st'') q) (KX kf (arrOf st'') (lo+k)):=λq h1 h2=>by
     have:=a4 (q-lo) (by omega);rwa [show lo+(q-lo)=q by omega] at this
    have dn:∀ q,lo+l<=q->q<lo+k->O.klt (KX kf (arrOf st'') (lo+k)) (KX kf (arrOf st'') q):=λq h1 h2=>by
     have:=a5 (q-lo) (by omega) (by omega);rwa [show lo+(q-lo)=q by omega] at this
    repeat' split
    all_goals first
     |(exfalso;omega)
     |exact KeyOrd.kle_refl _
     |exact up _ (by omega) (by omega)
     |exact KeyOrd.kle_of_klt (dn _ (by omega) (by omega))
     |exact ha' _ _ (by omega) (by omega) (by omega)
theorem writes:∀ (m:List Keyed) (xs:Array Keyed) (b o:Nat),b+o+m.length<=xs.size->((m.zipIdx o).foldl (λa (pj:Keyed×Nat)=>a.setIfInBounds (b+pj.2) pj.1) xs).toList=xs.toList.take (b+o)++(m++xs.toList.drop (b+o+m.length))
 |[],xs,b,o,h=>by simp
 |p::m,xs,b,o,h=>by
  rw[List.length_cons] at h
  have ih:=writes m (xs.setIfInBounds (b+o) p) b (o+1) (by rw[Array.size_setIfInBounds];omega)
  rw[List.zipIdx_cons,List.foldl_cons]
  show ((m.zipIdx (o+1)).foldl _ (xs.setIfInBounds (b+o) p)).toList=_
  rw[ih,Array.toList_setIfInBounds,← Nat.add_assoc,List.length_cons]
  have e1:(xs.toList.set (b+o) p).take (b+o+1)=xs.toList.take (b+o)++[p]:=by
   rw[List.take_succ,List.take_set_of_le (Nat.le_refl _),List.getElem?_set_self (by simpa using (by omega:b+o<xs.size))]
   rfl
  have e2:(xs.toList.set (b+o) p).drop (b+o+1+m.length)=xs.toList.drop (b+o+(m.length+1)):=by
   rw[List.drop_set_of_lt (by omega)]
   congr 1
   omega
  rw[e1,e2]
  simp
end
section
variable {prog:Program}{w:World}{A:Around}{E:Value->Shared->Prop}{s:Shared}{kd:SortKind}{O:KeyOrd}{kf:Value->O.α}{G:Keyed->Prop}
theorem xN {st st':SortSt}{Q:PUnit->SortSt->Prop}(q:Q ⟨⟩ st'):wpS (model prog w) A E s (set st':StateT SortSt Sem PUnit) Q st:=by
 unfold wpS;rw[StateT.run_set];exact wpAny_pure ⟨rfl,q⟩
theorem oU {xs:Array Keyed}{P X R:List Keyed}(e:xs.toList=P++(X++R)){i:Nat}(hi:i<X.length)(h:P.length+i<xs.size):xs[P.length+i]=X[i]:=by
 have h2:xs[P.length+i]=xs.toList[P.length+i]'(by simpa using h):=by simp
 rw[h2]
 have e3:xs.toList[P.length+i]?=some X[i]:=by
  rw[e,List.getElem?_append_right (by omega),Nat.add_sub_cancel_left,List.getElem?_append_left hi,List.getElem?_eq_getElem hi]
 rw[List.getElem?_eq_getElem (by simpa using h)] at e3
 exact Option.some.inj e3
structure Mrg (O:KeyOrd) (kf:Value->O.α) (X Y M:List Keyed):Prop where
 perm:M.Perm (X++Y)
 srt:M.Pairwise (leK O kf)
theorem pD (L:kG prog w A E s kd O kf G){st:SortSt}{i sa na pw nb pb:Nat}{P X Y R:List Keyed}{Q:Bool->SortSt->Prop}(hk:kindOf st=kd)(hg:∀ x∈(arrOf st).toList,G x)(hf:failedOf st=none)
  (p1:(pendingOf st)[i]?=some (sa,na,pw)) (p2:(pendingOf st)[i+1]?=some (sa+na,nb,pb)) (e:(arrOf st).toList=P++(X++(Y++R))) (lP:P.length=sa) (lX:X.length=na) (lY:Y.length=nb) (hX : 0<na) (hY : 0<nb)
  (sX:X.Pairwise (leK O kf)) (sY:Y.Pairwise (leK O kf))
  (h:∀ st' M,kindOf st'=kd->failedOf st'=none->pendingOf st'=((pendingOf st).setIfInBounds i (sa,na+nb,pw)).eraseIdxIfInBounds (i+1)->(arrOf st').toList=P++(M++R)->Mrg O kf X Y M->Q true st') :
  wpS (model prog w) A E s (mergeAt' i) Q st:=by
 have hsz:(arrOf st).size=sa+(na+(nb+R.length)):=by
  have:=congrArg List.length e
  simpa [lP,lX,lY] using this
 have e':(arrOf st).toList=(P++X)++(Y++R):=by rw[e];simp
 have lPX:(P++X).length=sa+na:=by simp[lP,lX]
 have atX:∀ j (hj:j<X.length) (hh:sa+j<(arrOf st).size),(arrOf st)[sa+j]=X[j]:=λj hj hh=>by
  subst lP;exact oU e hj hh
 have atY:∀ j (hj:j<Y.length) (hh:sa+na+j<(arrOf st).size),(arrOf st)[sa+na+j]=Y[j]:=λj hj hh=>by
  have:=oU e' hj (by rw[lPX];exact hh)
  rw[← this]
  congr 1
  omega
 have sgX:∀ a b (ha:a<X.length) (hb:b<X.length),a<=b->leK O kf X[a] X[b]:=by
  intro a b ha hb hab
  rcases Nat.lt_or_ge a b with hlt |hge
  ·exact List.pairwise_iff_getElem.mp sX a b ha hb hlt
  ·have e:a=b:=by omega
   subst e;exact KeyOrd.kle_refl _
 have sgY:∀ a b (ha:a<Y.length) (hb:b<Y.length),a<=b->leK O kf Y[a] Y[b]:=by
  intro a b ha hb hab
  rcases Nat.lt_or_ge a b with hlt |hge
  ·exact List.pairwise_iff_getElem.mp sY a b ha hb hlt
  ·have e:a=b:=by omega
   subst e;exact KeyOrd.kle_refl _
 refine wpS_bind (wpS_get ?_)
 rw[show (sortPriv% PySem.Builtin.SortState.pending) st=pendingOf st from rfl,p1,p2]
 dsimp only
 have leY0:∀ v∈Y,leK O kf (Y[0]'(by omega)) v:=by
  intro v hv
  obtain⟨j,hj,ej⟩:=List.getElem_of_mem hv
  rw[← ej];exact sgY 0 j (by omega) hj (Nat.zero_le _)
 have leXl:∀ u∈X,leK O kf u (X[na-1]'(by omega)):=by
  intro u hu
  obtain⟨j,hj,ej⟩:=List.getElem_of_mem hu
  rw[← ej];exact sgX j (na-1) hj (by omega) (by omega)
 have hsb:sa+na<(arrOf st).size:=by omega
 have hy0:(arrOf st)[sa+na]=Y[0]'(by omega):=by
  have:=atY 0 (by omega) (by omega)
  simpa using this
 have gd:∀ j (hj:j<(arrOf st).size),G (arrOf st)[j]:=λj hj=>hg _ (Array.getElem_mem_toList hj)
 refine wpS_bind (xN ?_)
 refine wpS_bind (aB hsb ?_)
 refine wpS_bind (bS L (by exact hk) (gd _ hsb) hg (by show sa+na<=(arrOf st).size;omega) hX (λj=>if hj:sa+j<(arrOf st).size then bey O kf false (arrOf st)[sa+na] (arrOf st)[sa+j] else false) (λj hj _=>by rw[dif_pos hj]) ?_ ?_)
 ·intro a b hab hb hB
  have hb':sa+b<(arrOf st).size:=by omega
  have ha':sa+a<(arrOf st).size:=by omega
  rw[dif_pos hb'] at hB
  rw[dif_pos ha']
  unfold bey at hB ⊢
  rw[if_neg (by decide)] at hB ⊢
  rw[atX b (by omega) hb'] at hB
  rw[atX a (by omega) ha']
  have h1:O.kle (kf X[b].1) (kf (arrOf st)[sa+na].1):=by simpa [KeyOrd.kle] using hB
  have h2:O.kle (kf X[a].1) (kf (arrOf st)[sa+na].1):=KeyOrd.kle_trans (sgX a b (by omega) (by omega) hab) h1
  simpa [KeyOrd.kle] using h2
 ·intro k hkn hk1 hk2
  try dsimp only
  have lowX:∀ u∈X.take k,leK O kf u (Y[0]'(by omega)):=by
   intro u hu
   obtain⟨j,hj,ej⟩:=List.getElem_of_mem hu
   have hj':j<k:=by rw[List.length_take] at hj;omega
   have hjs:sa+j<(arrOf st).size:=by omega
   have hB:=hk1 j hj'
   rw[dif_pos hjs] at hB
   unfold bey at hB
   rw[if_neg (by decide),atX j (by omega) hjs,hy0] at hB
   have eu:u=X[j]'(by omega):=by rw[← ej];simp
   rw[eu]
   show O.kle _ _
   simpa [KeyOrd.kle] using hB
  by_cases e1:(na-k==0)=true
  ·rw[if_pos e1]
   have ek:k=na:=by
    have:na-k=0:=by simpa using e1
    omega
   refine wpS_pure (h _ (X++Y) hk hf rfl ?_ ⟨List.Perm.refl _,List.pairwise_append.mpr ⟨sX,sY,λu hu v hv=>?_⟩⟩)
   ·show (arrOf st).toList=_
    rw[e];simp
   ·refine b9 (lowX u ?_) (leY0 v hv)
    rw[ek,List.take_of_length_le (by omega)];exact hu
  ·rw[if_neg e1]
   have e1':na-k≠0:=by simpa using e1
   have hlx:sa+k+(na-k)-1<(arrOf st).size:=by omega
   have hxl:(arrOf st)[sa+k+(na-k)-1]=X[na-1]'(by omega):=by
    have:=atX (na-1) (by omega) (by omega)
    rw[← this]
    congr 1
    omega
   refine wpS_bind (aB hlx ?_)
   refine wpS_bind (bS L (by exact hk) (gd _ hlx) hg (by show sa+na+nb<=(arrOf st).size;omega) (by omega) (λj=>if hj:sa+na+j<(arrOf st).size then bey O kf true (arrOf st)[sa+k+(na-k)-1] (arrOf st)[sa+na+j] else false) (λj hj _=>by rw[dif_pos hj]) ?_ ?_)
   ·intro a b hab hb hB
    have hb':sa+na+b<(arrOf st).size:=by omega
    have ha':sa+na+a<(arrOf st).size:=by omega
    rw[dif_pos hb'] at hB
    rw[dif_pos ha']
    unfold bey at hB ⊢
    rw[if_pos rfl] at hB ⊢
    rw[atY b (by omega) hb'] at hB
    rw[atY a (by omega) ha']
    exact KeyOrd.klt_of_kle_of_klt (sgY a b (by omega) (by omega) hab) hB
   ·intro nb2 hkn2 hk12 hk22
    try dsimp only
    have hiY:∀ v∈Y.drop nb2,leK O kf (X[na-1]'(by omega)) v:=by
     intro v hv
     obtain⟨j,hj,ej⟩:=List.getElem_of_mem hv
     rw[List.length_drop] at hj
     have hjs:sa+na+(nb2+j)<(arrOf st).size:=by omega
     have hB:=hk22 (nb2+j) (by omega) (by omega)
     rw[dif_pos hjs] at hB
     unfold bey at hB
     rw[if_pos rfl,atY (nb2+j) (by omega) hjs,hxl] at hB
     have ev:v=Y[nb2+j]'(by omega):=by rw[← ej];simp
     rw[ev]
     exact hB
    by_cases e2:(nb2==0)=true
    ·rw[if_pos e2]
     have en:nb2=0:=by simpa using e2
     subst en
     refine wpS_pure (h _ (X++Y) hk hf rfl ?_ ⟨List.Perm.refl _,List.pairwise_append.mpr ⟨sX,sY,λu hu v hv=>b9 (leXl u hu) (hiY v (by simpa using hv))⟩⟩)
     show (arrOf st).toList=_
     rw[e];simp
    ·rw[if_neg e2]
     have e2':nb2≠0:=by simpa using e2
     have ex:((arrOf st).extract (sa+k) (sa+na)).toList=X.drop k:=by
      rw[Array.toList_extract,List.extract_eq_drop_take,e,List.drop_append,List.drop_eq_nil_of_le (by omega),List.nil_append,lP,Nat.add_sub_cancel_left,List.drop_append_of_le_length (by omega),List.take_append_of_le_length (by rw[List.length_drop];omega)]
      exact List.take_of_length_le (by rw[List.length_drop];omega)
     have ey:((arrOf st).extract (sa+na) (sa+na+nb2)).toList=Y.take nb2:=by
      rw[Array.toList_extract,List.extract_eq_drop_take,e',List.drop_append,List.drop_eq_nil_of_le (by omega),List.nil_append,lPX,Nat.sub_self,List.drop_zero,Nat.add_sub_cancel_left,List.take_append_of_le_length (by omega)]
     have szx : 0<((arrOf st).extract (sa+k) (sa+na)).size:=by rw[← Array.length_toList,ex,List.length_drop];omega
     have szy : 0<((arrOf st).extract (sa+na) (sa+na+nb2)).size:=by rw[← Array.length_toList,ey,List.length_take];omega
     have lx:((arrOf st).extract (sa+k) (sa+na)).size=na-k:=by rw[← Array.length_toList,ex,List.length_drop];omega
     have gx:∀ z∈((arrOf st).extract (sa+k) (sa+na)).toList,G z:=λz hz=>by rw[ex] at hz;exact hg z (by rw[e];simp[List.mem_of_mem_drop hz])
     have gy:∀ z∈((arrOf st).extract (sa+na) (sa+na+nb2)).toList,G z:=λz hz=>by rw[ey] at hz;exact hg z (by rw[e];simp[List.mem_of_mem_take hz])
     have sx:((arrOf st).extract (sa+k) (sa+na)).toList.Pairwise (leK O kf):=by rw[ex];exact sX.sublist (List.drop_sublist _ _)
     have sy:((arrOf st).extract (sa+na) (sa+na+nb2)).toList.Pairwise (leK O kf):=by rw[ey];exact sY.sublist (List.take_sublist _ _)
     have x0:((arrOf st).extract (sa+k) (sa+na))[0]=X[k]'(by omega):=by
      rw[Array.getElem_extract]
      exact atX k (by omega) (by omega)
     have y0:((arrOf st).extract (sa+na) (sa+na+nb2))[0]=Y[0]'(by omega):=by
      rw[Array.getElem_extract]
      exact atY 0 (by omega) (by omega)
     have fst:leK O kf ((arrOf st).extract (sa+na) (sa+na+nb2))[0] ((arrOf st).extract (sa+k) (sa+na))[0]:=by
      rw[x0,y0]
      have hB:=hk2 k (Nat.le_refl _) (by omega)
      have hks:sa+k<(arrOf st).size:=by omega
      rw[dif_pos hks] at hB
      unfold bey at hB
      rw[if_neg (by decide),atX k (by omega) hks,hy0] at hB
      have hB':O.blt (kf (Y[0]'(by omega)).1) (kf (X[k]'(by omega)).1)=true:=by simpa using hB
      exact KeyOrd.kle_of_klt hB'
     have lst:∀ z∈((arrOf st).extract (sa+na) (sa+na+nb2)).toList,leK O kf z (((arrOf st).extract (sa+k) (sa+na))[((arrOf st).extract (sa+k) (sa+na)).size-1]'(by omega)):=by
      intro z hz
      have exl:((arrOf st).extract (sa+k) (sa+na))[((arrOf st).extract (sa+k) (sa+na)).size-1]'(by omega)=X[na-1]'(by omega):=by
       rw[Array.getElem_extract]
       have:=atX (na-1) (by omega) (by omega)
       rw[← this]
       congr 1
       omega
      rw[exl]
      rw[ey] at hz
      obtain⟨j,hj,ej⟩:=List.getElem_of_mem hz
      rw[List.length_take] at hj
      have hjs:sa+na+j<(arrOf st).size:=by omega
      have hB:=hk12 j (by omega)
      rw[dif_pos hjs] at hB
      unfold bey at hB
      rw[if_pos rfl,atY j (by omega) hjs,hxl] at hB
      have ev:z=Y[j]'(by omega):=by rw[← ej];simp
      rw[ev]
      exact KeyOrd.kle_of_klt hB
     by_cases e3:na-k<=nb2
     ·rw[if_pos e3]
      refine wpS_bind (pB L (by exact hk) gx gy szx szy sx sy fst lst λr st2 hs2 hr=>?_)
      refine wpS_bind (wpS_modify ?_)
      refine wpS_bind (wpS_get (wpS_pure ?_))
      have lr:r.toList.length=(na-k)+nb2:=by
       rw[hr.1.length_eq,List.length_append,ex,ey,List.length_drop,List.length_take,lX,lY];omega
      have ef:failedOf st2=none:=hs2.fail.trans hf
      have ea:arrOf st2=arrOf st:=hs2.arr
      have wr:=writes r.toList (arrOf st) (sa+k) 0 (by rw[lr,hsz];omega)
      have e1:(arrOf st).toList.take (sa+k)=P++X.take k:=by
       rw[e,List.take_append,lP,List.take_of_length_le (by omega),Nat.add_sub_cancel_left,List.take_append_of_le_length (by omega)]
      have e2:(arrOf st).toList.drop (sa+k+((na-k)+nb2))=Y.drop nb2++R:=by
       rw[show sa+k+((na-k)+nb2)=(sa+na)+nb2 by omega,e',List.drop_append,lPX,List.drop_eq_nil_of_le (by omega),List.nil_append,Nat.add_sub_cancel_left,List.drop_append_of_le_length (by omega)]
      show Q (failedOf st2).isNone _
      rw[ef]
      refine h _ (X.take k++(r.toList++Y.drop nb2)) (hs2.kind.trans hk) ef hs2.pend ?_ ⟨?_,?_⟩
      ·show (List.foldl (λa (x:Keyed×Nat)=>a.setIfInBounds (sa+k+x.2) x.1) (arrOf st2) r.toList.zipIdx).toList=_
       rw[ea,wr,Nat.add_zero,lr,e1,e2]
       simp
      ·refine List.Perm.trans (List.Perm.append_left _ (List.Perm.append_right _ hr.1)) ?_
       rw[ex,ey]
       have q1:X.take k++((X.drop k++Y.take nb2)++Y.drop nb2)=(X.take k++X.drop k)++(Y.take nb2++Y.drop nb2):=by simp only[List.append_assoc]
       rw[q1,List.take_append_drop,List.take_append_drop]
      ·have mem_r:∀ z∈r.toList,z∈X.drop k∨z∈Y.take nb2:=λz hz=>by
        have:=hr.1.mem_iff.mp hz
        rw[ex,ey] at this
        exact List.mem_append.mp this
       have X1X2:∀ u∈X.take k,∀ v∈X.drop k,leK O kf u v:=by
        have:=sX
        rw[← List.take_append_drop k X] at this
        exact (List.pairwise_append.mp this).2.2
       have Y1Y2:∀ u∈Y.take nb2,∀ v∈Y.drop nb2,leK O kf u v:=by
        have:=sY
        rw[← List.take_append_drop nb2 Y] at this
        exact (List.pairwise_append.mp this).2.2
       have X1Y:∀ u∈X.take k,∀ v∈Y,leK O kf u v:=λu hu v hv=>b9 (lowX u hu) (leY0 v hv)
       have XY2:∀ u∈X,∀ v∈Y.drop nb2,leK O kf u v:=λu hu v hv=>b9 (leXl u hu) (hiY v hv)
       refine List.pairwise_append.mpr ⟨sX.sublist (List.take_sublist _ _),List.pairwise_append.mpr ⟨hr.2,sY.sublist (List.drop_sublist _ _),λu hu v hv=>?_⟩,λu hu v hv=>?_⟩
       ·rcases mem_r u hu with hu |hu
        ·exact XY2 u (List.mem_of_mem_drop hu) v hv
        ·exact Y1Y2 u hu v hv
       ·rcases List.mem_append.mp hv with hv |hv
        ·rcases mem_r v hv with hv |hv
         ·exact X1X2 u hu v hv
         ·exact X1Y u hu v (List.mem_of_mem_take hv)
        ·exact X1Y u hu v (List.mem_of_mem_drop hv)
     ·rw[if_neg e3]
      refine wpS_bind (pC L (by exact hk) gx gy szx szy sx sy fst lst λr st2 hs2 hr=>?_)
      refine wpS_bind (wpS_modify ?_)
      refine wpS_bind (wpS_get (wpS_pure ?_))
      have lr:r.toList.length=(na-k)+nb2:=by
       rw[hr.1.length_eq,List.length_append,ex,ey,List.length_drop,List.length_take,lX,lY];omega
      have ef:failedOf st2=none:=hs2.fail.trans hf
      have ea:arrOf st2=arrOf st:=hs2.arr
      have wr:=writes r.toList (arrOf st) (sa+k) 0 (by rw[lr,hsz];omega)
      have e1:(arrOf st).toList.take (sa+k)=P++X.take k:=by
       rw[e,List.take_append,lP,List.take_of_length_le (by omega),Nat.add_sub_cancel_left,List.take_append_of_le_length (by omega)]
      have e2:(arrOf st).toList.drop (sa+k+((na-k)+nb2))=Y.drop nb2++R:=by
       rw[show sa+k+((na-k)+nb2)=(sa+na)+nb2 by omega,e',List.drop_append,lPX,List.drop_eq_nil_of_le (by omega),List.nil_append,Nat.add_sub_cancel_left,List.drop_append_of_le_length (by omega)]
      show Q (failedOf st2).isNone _
      rw[ef]
      refine h _ (X.take k++(r.toList++Y.drop nb2)) (hs2.kind.trans hk) ef hs2.pend ?_ ⟨?_,?_⟩
      ·show (List.foldl (λa (x:Keyed×Nat)=>a.setIfInBounds (sa+k+x.2) x.1) (arrOf st2) r.toList.zipIdx).toList=_
       rw[ea,wr,Nat.add_zero,lr,e1,e2]
       simp
      ·refine List.Perm.trans (List.Perm.append_left _ (List.Perm.append_right _ hr.1)) ?_
       rw[ex,ey]
       have q1:X.take k++((X.drop k++Y.take nb2)++Y.drop nb2)=(X.take k++X.drop k)++(Y.take nb2++Y.drop nb2):=by simp only[List.append_assoc]
       rw[q1,List.take_append_drop,List.take_append_drop]
      ·have mem_r:∀ z∈r.toList,z∈X.drop k∨z∈Y.take nb2:=λz hz=>by
        have:=hr.1.mem_iff.mp hz
        rw[ex,ey] at this
        exact List.mem_append.mp this
       have X1X2:∀ u∈X.take k,∀ v∈X.drop k,leK O kf u v:=by
        have:=sX
        rw[← List.take_append_drop k X] at this
        exact (List.pairwise_append.mp this).2.2
       have Y1Y2:∀ u∈Y.take nb2,∀ v∈Y.drop nb2,leK O kf u v:=by
        have:=sY
        rw[← List.take_append_drop nb2 Y] at this
        exact (List.pairwise_append.mp this).2.2
       have X1Y:∀ u∈X.take k,∀ v∈Y,leK O kf u v:=λu hu v hv=>b9 (lowX u hu) (leY0 v hv)
       have XY2:∀ u∈X,∀ v∈Y.drop nb2,leK O kf u v:=λu hu v hv=>b9 (leXl u hu) (hiY v hv)
       refine List.pairwise_append.mpr ⟨sX.sublist (List.take_sublist _ _),List.pairwise_append.mpr ⟨hr.2,sY.sublist (List.drop_sublist _ _),λu hu v hv=>?_⟩,λu hu v hv=>?_⟩
       ·rcases mem_r u hu with hu |hu
        ·exact XY2 u (List.mem_of_mem_drop hu) v hv
        ·exact Y1Y2 u hu v hv
       ·rcases List.mem_append.mp hv with hv |hv
        ·rcases mem_r v hv with hv |hv
         ·exact X1X2 u hu v hv
         ·exact X1Y u hu v (List.mem_of_mem_take hv)
        ·exact X1Y u hu v (List.mem_of_mem_drop hv)
end
noncomputable abbrev uw:StateT SortSt Sem Unit:=sortPriv% PySem.Builtin.sortRuns
noncomputable abbrev kK:Nat->Nat->Nat->Nat:=sortPriv% PySem.Builtin.minRun
section
variable {prog:Program}{w:World}{A:Around}{E:Value->Shared->Prop}{s:Shared}{kd:SortKind}{O:KeyOrd}{kf:Value->O.α}{G:Keyed->Prop}
inductive Segs (kf:Value->O.α) (xs:Array Keyed):List (Nat×Nat×Nat)->Nat->Nat->Prop
 |nil (a:Nat):Segs kf xs [] a a
 |cons {a b n p:Nat}{r:List (Nat×Nat×Nat)} : 0<n->Asc kf xs a (a+n)->Segs kf xs r (a+n) b->Segs kf xs ((a,n,p)::r) a b
theorem Segs.le {xs:Array Keyed}{p:List (Nat×Nat×Nat)}{a b:Nat}(h:Segs kf xs p a b):p.length+a<=b:=by
 induction h with
 |nil a=>simp
 |cons h0 _ _ ih=>rw[List.length_cons];omega
theorem Segs.keep {xs ys:Array Keyed}{p:List (Nat×Nat×Nat)}{a b:Nat}(h:Segs kf xs p a b)(e:∀ j,a<=j->j<b->KX kf ys j=KX kf xs j):Segs kf ys p a b:=by
 induction h with
 |nil a=>exact .nil a
 | @cons a b n q r h0 ha hr ih =>
  have:=hr.le
  refine .cons h0 (λi j h1 h2 h3=>?_) (ih λj h1 h2=>e j (by omega) h2)
  rw[e i h1 (by omega),e j (by omega) (by omega)]
  exact ha i j h1 h2 h3
theorem Segs.relabel {xs:Array Keyed}{p q:List (Nat×Nat×Nat)}{a b:Nat}(h:Segs kf xs p a b)(e:q.map (λx=>(x.1,x.2.1))=p.map λx=>(x.1,x.2.1)):Segs kf xs q a b:=by
 induction h generalizing q with
 |nil a=>cases q with
  |nil=>exact .nil a
  |cons x q=>simp at e
 | @cons a b n q' r h0 ha hr ih=>cases q with
  |nil=>simp at e
  |cons x q =>
   obtain⟨x1,x2,x3⟩:=x
   simp only[List.map_cons,List.cons.injEq,Prod.mk.injEq] at e
   obtain⟨⟨rfl,rfl⟩,e2⟩:=e
   exact .cons h0 ha (ih e2)
theorem Segs.snoc {xs:Array Keyed}{p:List (Nat×Nat×Nat)}{a b n q:Nat}(h:Segs kf xs p a b)(h0 : 0<n)(ha:Asc kf xs b (b+n)):Segs kf xs (p++[(b,n,q)]) a (b+n):=by
 induction h with
 |nil a=>exact .cons h0 ha (.nil _)
 |cons g0 ga gr ih=>exact .cons g0 ga (ih ha)
theorem Segs.two {xs:Array Keyed}{p:List (Nat×Nat×Nat)}{a b:Nat}(h:Segs kf xs p a b):∀ {i sa na pw sb nb pb:Nat},p[i]?=some (sa,na,pw)->p[i+1]?=some (sb,nb,pb) ->
  sb=sa+na/\0<na/\0<nb/\a<=sa/\sa+na+nb<=b/\Asc kf xs sa (sa+na)/\Asc kf xs (sa+na) (sa+na+nb):=by
 induction h with
 |nil a=>intro i sa na pw sb nb pb e1;simp at e1
 | @cons a b n q r h0 ha hr ih =>
  intro i sa na pw sb nb pb e1 e2
  cases i with
  |zero =>
   simp at e1
   obtain⟨rfl,rfl,rfl⟩:=e1
   cases hr with
   |nil=>simp at e2
   |cons g0 ga gr =>
    simp at e2
    obtain⟨rfl,rfl,rfl⟩:=e2
    have:=gr.le
    exact⟨rfl,h0,g0,Nat.le_refl _,by omega,ha,ga⟩
  |succ i =>
   obtain⟨x1,x2,x3,x4,x5,x6,x7⟩:=ih (i:=i) (by simpa using e1) (by simpa using e2)
   exact⟨x1,x2,x3,by omega,x5,x6,x7⟩
theorem Segs.merge {xs ys:Array Keyed}{p:List (Nat×Nat×Nat)}{a b:Nat}(h:Segs kf xs p a b):∀ {i sa na pw sb nb pb:Nat},p[i]?=some (sa,na,pw)->p[i+1]?=some (sb,nb,pb) ->
  (∀ j,j<sa->KX kf ys j=KX kf xs j)->(∀ j,sa+na+nb<=j->KX kf ys j=KX kf xs j)->Asc kf ys sa (sa+(na+nb))->Segs kf ys ((p.set i (sa,na+nb,pw)).eraseIdx (i+1)) a b:=by
 induction h with
 |nil a=>intro i sa na pw sb nb pb e1;simp at e1
 | @cons a b n q r h0 ha hr ih =>
  intro i sa na pw sb nb pb e1 e2 k1 k2 hs
  cases i with
  |zero =>
   simp at e1
   obtain⟨rfl,rfl,rfl⟩:=e1
   cases hr with
   |nil=>simp at e2
   |cons g0 ga gr =>
    simp at e2
    obtain⟨rfl,rfl,rfl⟩:=e2
    show Segs kf ys ((a,n + _,q)::_) a b
    refine .cons (by omega) hs ?_
    rw[← Nat.add_assoc]
    exact gr.keep λj h1 h2=>k2 j h1
  |succ i =>
   have t:=hr.two (i:=i) (by simpa using e1) (by simpa using e2)
   have ih':=ih (i:=i) (by simpa using e1) (by simpa using e2) k1 k2 hs
   refine .cons h0 (λx y h1 h2 h3=>?_) ih'
   rw[k1 x (by omega),k1 y (by omega)]
   exact ha x y h1 h2 h3
theorem qP {xs:Array Keyed}{lo n:Nat}(h:Asc kf xs lo (lo+n))(hl:lo+n<=xs.size):((xs.toList.drop lo).take n).Pairwise (leK O kf):=by
 rw[List.pairwise_iff_getElem]
 intro i j hi hj hij
 have hi':i<n:=by rw[List.length_take] at hi;omega
 have hj':j<n:=by rw[List.length_take] at hj;omega
 have q:=h (lo+i) (lo+j) (by omega) (by omega) (by omega)
 rw[mr (by omega),mr (by omega)] at q
 show O.kle _ _
 simpa using q
theorem wN {xs:Array Keyed}{P M R:List Keyed}(e:xs.toList=P++(M++R))(h:M.Pairwise (leK O kf)):Asc kf xs P.length (P.length+M.length):=by
 intro i j h1 h2 h3
 have hs:xs.size=P.length+(M.length+R.length):=by
  have:=congrArg List.length e
  simpa using this
 have at_:∀ k,P.length<=k->(hk:k<P.length+M.length)->∃ (hm:k-P.length<M.length),KX kf xs k=kf (M[k-P.length]).1:=λk hk1 hk2=>by
  have hm:k-P.length<M.length:=by omega
  refine⟨hm,?_⟩
  rw[mr (by omega)]
  have:=oU e hm (by omega)
  rw[← this]
  congr 2
  all_goals first |rfl |(congr 1;omega)
 obtain⟨m1,e1⟩:=at_ i h1 (by omega)
 obtain⟨m2,e2⟩:=at_ j (by omega) h3
 rw[e1,e2]
 rcases Nat.lt_or_ge i j with hlt |hge
 ·exact List.pairwise_iff_getElem.mp h _ _ m1 m2 (by omega)
 ·have ee:i=j:=by omega
  subst ee;exact KeyOrd.kle_refl _
structure RI (G:Keyed->Prop) (kd:SortKind) (kf:Value->O.α) (st0 st:SortSt) (b:Nat):Prop where
 kind:kindOf st=kd
 good:∀ x∈(arrOf st).toList,G x
 perm:(arrOf st).Perm (arrOf st0)
 fail:failedOf st=none
 segs:Segs kf (arrOf st) (pendingOf st).toList 0 b
 top:b<=(arrOf st0).size
theorem iS (L:kG prog w A E s kd O kf G){st0 st:SortSt}{b i:Nat}(h:RI G kd kf st0 st b)(hi:i+1<(pendingOf st).size){Q:Bool->SortSt->Prop}
  (q:∀ st',RI G kd kf st0 st' b->(pendingOf st').size+1=(pendingOf st).size->(∀ j,b<=j->KX kf (arrOf st') j=KX kf (arrOf st) j)->Q true st'):wpS (model prog w) A E s (mergeAt' i) Q st:=by
 obtain⟨⟨sa,na,pw⟩,p1⟩:∃ x,(pendingOf st)[i]?=some x:=⟨_,getElem?_pos _ i (by omega)⟩
 obtain⟨⟨sb,nb,pb⟩,p2⟩:∃ x,(pendingOf st)[i+1]?=some x:=⟨_,getElem?_pos _ (i+1) hi⟩
 obtain⟨rfl,hna,hnb,_,hab,s1,s2⟩:=h.segs.two (i:=i) (by simpa using p1) (by simpa using p2)
 have hsz:(arrOf st).size=(arrOf st0).size:=h.perm.size_eq
 have htop:=h.top
 have e:(arrOf st).toList=(arrOf st).toList.take sa++(((arrOf st).toList.drop sa).take na++(((arrOf st).toList.drop (sa+na)).take nb++(arrOf st).toList.drop (sa+na+nb))):=by
  have a1:((arrOf st).toList.drop (sa+na)).take nb++(arrOf st).toList.drop (sa+na+nb)=(arrOf st).toList.drop (sa+na):=by
   rw[← List.drop_drop (i:=nb) (j:=sa+na),List.take_append_drop]
  have a2:((arrOf st).toList.drop sa).take na++(arrOf st).toList.drop (sa+na)=(arrOf st).toList.drop sa:=by
   rw[← List.drop_drop (i:=na) (j:=sa),List.take_append_drop]
  rw[a1,a2,List.take_append_drop]
 have lP:((arrOf st).toList.take sa).length=sa:=by rw[List.length_take,Array.length_toList];omega
 have lX:(((arrOf st).toList.drop sa).take na).length=na:=by rw[List.length_take,List.length_drop,Array.length_toList];omega
 have lY:(((arrOf st).toList.drop (sa+na)).take nb).length=nb:=by rw[List.length_take,List.length_drop,Array.length_toList];omega
 refine pD L h.kind h.good h.fail p1 p2 e lP lX lY hna hnb (qP s1 (by omega)) (qP s2 (by omega)) λst' M k1 k2 k3 k4 k5=>?_
 have lM:M.length=na+nb:=by rw[k5.perm.length_eq,List.length_append,lX,lY]
 have pm:(arrOf st').toList.Perm (arrOf st).toList:=by
  rw[k4]
  refine List.Perm.trans (List.Perm.append_left _ (List.Perm.append_right _ k5.perm)) ?_
  rw[List.append_assoc,← e]
 have hlen:(arrOf st').size=(arrOf st).size:=by have:=pm.length_eq;simpa using this
 have key:∀ j,(j<sa∨sa+na+nb<=j)->(arrOf st').toList[j]?=(arrOf st).toList[j]?:=by
  intro j hj
  rcases hj with hj |hj
  ·rw[k4,List.getElem?_append_left (by omega),List.getElem?_take,if_pos hj]
  ·rw[k4,List.getElem?_append_right (by omega),lP,List.getElem?_append_right (by omega),lM,List.getElem?_drop]
   congr 1
   omega
 have kx:∀ j,(j<sa∨sa+na+nb<=j)->KX kf (arrOf st') j=KX kf (arrOf st) j:=λj hj=>by
  refine mq ?_
  have:=key j hj
  simpa using this
 refine q st' ⟨k1,λx hx=>h.good x (pm.mem_iff.mp hx),(Array.perm_iff_toList_perm.mpr pm).trans h.perm,k2,?_,h.top⟩ ?_ λj hj=>kx j (.inr (by omega))
 ·rw[k3]
  have m:=h.segs.merge (ys:=arrOf st') (i:=i) (by simpa using p1) (by simpa using p2) (λj hj=>kx j (.inl hj)) (λj hj=>kx j (.inr hj)) (by
   have:=wN k4 k5.srt
   rwa [lP,lM] at this)
  simpa using m
 ·rw[k3,← Array.length_toList,Array.toList_eraseIdxIfInBounds,Array.toList_setIfInBounds,List.length_eraseIdx,List.length_set,Array.length_toList,if_pos (by omega)]
  omega
theorem pA (L:kG prog w A E s kd O kf G){st0 st:SortSt}{b i:Nat}(h:RI G kd kf st0 st b)(hi:i+1<(pendingOf st).size){Q:Bool->SortSt->Prop}
  (q:∀ st',RI G kd kf st0 st' b->(pendingOf st').size+1=(pendingOf st).size->Q true st'):wpS (model prog w) A E s (mergeAt' i) Q st:=iS L h hi λst' a b _=>q st' a b
theorem AQ (c:Prop)[Decidable c]{n:Nat}(h : 1<n):(if c then n-2-1 else n-2)+1<n:=by
 split<;>omega
theorem tN (xs:Array (Nat×Nat×Nat))(i v:Nat):(xs.modify i λx=>(x.1,x.2.1,v)).toList.map (λx=>(x.1,x.2.1))=xs.toList.map λx=>(x.1,x.2.1):=by
 apply List.ext_getElem?
 intro j
 simp only[List.getElem?_map,Array.getElem?_toList,Array.getElem?_modify]
 split
 ·cases xs[j]?<;>rfl
 ·rfl
theorem iT (L:kG prog w A E s kd O kf G){st0 st:SortSt}{b i n:Nat}(h:RI G kd kf st0 st b)(hi:i+1<(pendingOf st).size)(ha:Asc kf (arrOf st) b (b+n))(hn:b+n<=(arrOf st0).size){Q:Bool->SortSt->Prop}
  (q:∀ st',RI G kd kf st0 st' b->(pendingOf st').size+1=(pendingOf st).size->Asc kf (arrOf st') b (b+n)->Q true st'):wpS (model prog w) A E s (mergeAt' i) Q st:=by
 refine iS L h hi λst' a1 a2 a3=>q st' a1 a2 λx y h1 h2 h3=>?_
 rw[a3 x h1,a3 y (by omega)]
 exact ha x y h1 h2 h3
theorem mC (L:kG prog w A E s kd O kf G){st:SortSt}{Q:Unit->SortSt->Prop}(hk:kindOf st=kd)(hg:∀ x∈(arrOf st).toList,G x)(hf:failedOf st=none)(hp:pendingOf st = #[])(h0 : 0<(arrOf st).size)
  (h:∀ st',(arrOf st').Perm (arrOf st)->failedOf st'=none->Asc kf (arrOf st') 0 (arrOf st).size->Q () st'):wpS (model prog w) A E s uw Q st:=by
 refine wpS_bind (wpS_get ?_)
 dsimp only
 have R0:RI G kd kf st st 0:=⟨hk,hg,Array.Perm.refl _,hf,by rw[hp];exact .nil 0,Nat.zero_le _⟩
 refine wpS_bind (wpS_mono (wpS_forRange (I:=λx c st' => ∃ lo,c=(none,lo)/\RI G kd kf st st' lo/\x<=lo)
  (Q:=λc st' => ∃ lo,c=(none,lo)/\RI G kd kf st st' (arrOf st).size) ?s1 ?f1 ⟨0,rfl,R0,Nat.le_refl _⟩) ?p1)
 case f1 =>
  rintro c st' ⟨lo,rfl,hR,hx⟩
  have:lo=(arrOf st).size:=by
   have:=hR.top
   have hx':max 0 (arrOf st).size<=lo:=hx
   omega
  subst this
  exact⟨_,rfl,hR⟩
 case s1 =>
  rintro x c st' _ hx ⟨lo,rfl,hR,hxl⟩
  dsimp only
  have htop:=hR.top
  by_cases hlo:lo≥(arrOf st).size
  ·rw[if_pos hlo]
   have:lo=(arrOf st).size:=by omega
   subst this
   exact wpS_pure ⟨_,rfl,hR⟩
  ·rw[if_neg hlo]
   have hsz:(arrOf st').size=(arrOf st).size:=hR.perm.size_eq
   refine wpS_bind (mD L hR.kind hR.good (by show lo+((arrOf st).size-lo)<=(arrOf st').size;omega) (by show 1<=(arrOf st).size-lo;omega) λn st2 hS hn1 hn2 ha=>?_)
   dsimp only
   have hn2:n<=(arrOf st).size-lo:=hn2
   have RIof:∀ st3,Sg G kd lo st' st3->RI G kd kf st st3 lo:=λst3 g=>⟨g.kind,g.good,g.perm.trans hR.perm,g.fail.trans hR.fail,by
    rw[g.pend]
    exact hR.segs.keep λj _ hj=>mq (g.same j hj),hR.top⟩
   by_cases hmr:n<kK (arrOf st).size (arrOf st).size 0
   ·rw[if_pos hmr]
    refine wpS_bind (wpS_lift (wpAny_rule ⟨rfl,?_⟩))
    refine wpS_bind (pE L hS (by show lo+min ((arrOf st).size-lo) _<=(arrOf st').size;omega) (Nat.le_min.mpr ⟨hn2,Nat.le_of_lt hmr⟩) ha λst3 hS3 ha3=>?_)
    rw[if_neg (by decide)]
    have R3:=RIof st3 hS3
    have hN : 0<min ((arrOf st).size-lo) (kK (arrOf st).size (arrOf st).size 0):=by
     refine Nat.lt_min.mpr ⟨by omega,by omega⟩
    have hN2:min ((arrOf st).size-lo) (kK (arrOf st).size (arrOf st).size 0)<=(arrOf st).size-lo:=Nat.min_le_left _ _
    generalize min ((arrOf st).size-lo) (kK (arrOf st).size (arrOf st).size 0)=N at ha3 hN hN2 ⊢
    refine wpS_bind (wpS_get ?_)
    cases hbk:(pendingOf st3).back? with
    |none =>
     dsimp only
     refine wpS_bind (wpS_modify (wpS_pure ⟨_,rfl,⟨R3.kind,R3.good,R3.perm,R3.fail,?_,by omega⟩,by omega⟩))
     show Segs kf (arrOf st3) ((pendingOf st3).push (lo,N,0)).toList 0 (lo+N)
     rw[Array.toList_push]
     exact R3.segs.snoc (by omega) ha3
    |some bk =>
     obtain⟨s1,n1,w1⟩:=bk
     dsimp only
     refine wpS_bind (wpS_mono (wpS_forRange (I:=λx c st4=>c=(none,())/\RI G kd kf st st4 lo/\Asc kf (arrOf st4) lo (lo+N))
      (Q:=λc st4=>c=(none,())/\RI G kd kf st st4 lo/\Asc kf (arrOf st4) lo (lo+N)) ?_ (λ_ _ z=>z) ⟨rfl,R3,ha3⟩) ?_)
     ·rintro x c st4 _ hx ⟨rfl,R4,A4⟩
      refine wpS_bind (wpS_get ?_)
      rw[show (sortPriv% PySem.Builtin.SortState.pending) st4=pendingOf st4 from rfl]
      by_cases h2:(pendingOf st4).size > 1
      ·rw[if_pos h2,getElem?_pos (pendingOf st4) _ (by omega)]
       obtain⟨y1,y2,older⟩:=(pendingOf st4)[(pendingOf st4).size-2]
       dsimp only
       split
       ·exact wpS_pure ⟨rfl,R4,A4⟩
       ·refine wpS_bind (iT L R4 (by omega) A4 (by omega) λst5 R5 _ A5=>?_)
        exact wpS_pure ⟨rfl,R5,A5⟩
      ·rw[if_neg h2]
       exact wpS_pure ⟨rfl,R4,A4⟩
     ·rintro c st4 ⟨rfl,R4,A4⟩
      dsimp only
      refine wpS_bind (wpS_modify (wpS_bind (wpS_modify (wpS_pure ⟨_,rfl,⟨R4.kind,R4.good,R4.perm,R4.fail,?_,by omega⟩,by omega⟩))))
      show Segs kf (arrOf st4) (((pendingOf st4).modify _ λx=>(x.1,x.2.1,_)).push (lo,N,0)).toList 0 (lo+N)
      rw[Array.toList_push]
      exact (R4.segs.relabel (tN _ _ _)).snoc (by omega) A4
   ·rw[if_neg hmr]
    have R3:=RIof st2 hS
    have ha3:=ha
    refine wpS_bind (wpS_get ?_)
    cases hbk:(pendingOf st2).back? with
    |none =>
     dsimp only
     refine wpS_bind (wpS_modify (wpS_pure ⟨_,rfl,⟨R3.kind,R3.good,R3.perm,R3.fail,?_,by omega⟩,by omega⟩))
     show Segs kf (arrOf st2) ((pendingOf st2).push (lo,n,0)).toList 0 (lo+n)
     rw[Array.toList_push]
     exact R3.segs.snoc (by omega) ha3
    |some bk =>
     obtain⟨s1,n1,w1⟩:=bk
     dsimp only
     refine wpS_bind (wpS_mono (wpS_forRange (I:=λx c st4=>c=(none,())/\RI G kd kf st st4 lo/\Asc kf (arrOf st4) lo (lo+n))
      (Q:=λc st4=>c=(none,())/\RI G kd kf st st4 lo/\Asc kf (arrOf st4) lo (lo+n)) ?_ (λ_ _ z=>z) ⟨rfl,R3,ha3⟩) ?_)
     ·rintro x c st4 _ hx ⟨rfl,R4,A4⟩
      refine wpS_bind (wpS_get ?_)
      rw[show (sortPriv% PySem.Builtin.SortState.pending) st4=pendingOf st4 from rfl]
      by_cases h2:(pendingOf st4).size > 1
      ·rw[if_pos h2,getElem?_pos (pendingOf st4) _ (by omega)]
       obtain⟨y1,y2,older⟩:=(pendingOf st4)[(pendingOf st4).size-2]
       dsimp only
       split
       ·exact wpS_pure ⟨rfl,R4,A4⟩
       ·refine wpS_bind (iT L R4 (by omega) A4 (by omega) λst5 R5 _ A5=>?_)
        exact wpS_pure ⟨rfl,R5,A5⟩
      ·rw[if_neg h2]
       exact wpS_pure ⟨rfl,R4,A4⟩
     ·rintro c st4 ⟨rfl,R4,A4⟩
      dsimp only
      refine wpS_bind (wpS_modify (wpS_bind (wpS_modify (wpS_pure ⟨_,rfl,⟨R4.kind,R4.good,R4.perm,R4.fail,?_,by omega⟩,by omega⟩))))
      show Segs kf (arrOf st4) (((pendingOf st4).modify _ λx=>(x.1,x.2.1,_)).push (lo,n,0)).toList 0 (lo+n)
      rw[Array.toList_push]
      exact (R4.segs.relabel (tN _ _ _)).snoc (by omega) A4
 case p1 =>
  rintro c st' ⟨lo,rfl,hR⟩
  dsimp only
  refine wpS_bind (wpS_mono (wpS_forRange (I:=λx c st''=>c=(none,())/\RI G kd kf st st'' (arrOf st).size/\((pendingOf st'').size+x<=(arrOf st).size∨(pendingOf st'').size<=1))
   (Q:=λc st''=>c=(none,())/\RI G kd kf st st'' (arrOf st).size/\(pendingOf st'').size<=1) ?s2 ?f2 ⟨rfl,hR,.inl ?i2⟩) ?p2)
  case i2 =>
   have:=hR.segs.le
   simpa using this
  case f2 =>
   rintro c st'' ⟨rfl,hR2,h2⟩
   refine⟨rfl,hR2,?_⟩
   rcases h2 with h2 |h2
   ·have h2':(pendingOf st'').size+max 0 (arrOf st).size<=(arrOf st).size:=h2
    omega
   ·exact h2
  case p2 =>
   rintro c st'' ⟨rfl,hR2,h2⟩
   refine wpS_pure (h st'' hR2.perm hR2.fail ?_)
   have sg:=hR2.segs
   have hl:(pendingOf st'').toList.length<=1:=by simpa using h2
   generalize (pendingOf st'').toList=p at sg hl
   generalize eq0:(0:Nat)=z at sg
   have h0':=h0
   generalize (arrOf st).size=nn at sg h0' ⊢
   cases sg with
   |nil=>omega
   |cons g0 ga gr =>
    cases gr with
    |nil=>subst eq0;simpa using ga
    |cons _ _ _=>simp at hl
  case s2 =>
   rintro x c st'' _ hx ⟨rfl,hR2,h2⟩
   refine wpS_bind (wpS_get ?_)
   rw[show (sortPriv% PySem.Builtin.SortState.pending) st''=pendingOf st'' from rfl]
   by_cases hs:(pendingOf st'').size<=1
   ·rw[if_pos hs]
    exact wpS_pure ⟨rfl,hR2,hs⟩
   ·rw[if_neg hs]
    refine wpS_bind (pA L hR2 ?_ λst3 R3 e3=>?_)
    ·exact AQ _ (by omega)
    ·exact wpS_pure ⟨rfl,R3,by
      rcases h2 with h2 |h2
      ·exact .inl (by omega)
      ·omega⟩
end
def ph (prog:Program)(w:World)(s1:Shared)(vs:List Value)(O:KeyOrd)(kf:Value->O.α):Prop:=∃ kd:SortKind,∀ (A:Around) (E:Value->Shared->Prop) (s6:Shared),(∀ b o,s1.heap.get? b=some o->s6.heap.get? b=some o) ->
 (2<=vs.length->∀ Q':SortKind->Shared->Prop,Q' kd s6->wpAny (model prog w) A (keyKind' vs.toArray) Q' E s6)/\kG prog w A E s6 kd O kf (λp=>p.1∈vs)
theorem iO:∀ {vs:List Value}{p:Value×Value},p∈vs.zip vs->p.1=p.2/\p.1∈vs
 |[],_,h=>by simp at h
 |v::vs,p,h=>by
  rw[List.zip_cons_cons] at h
  rcases List.mem_cons.mp h with e |h
  ·subst e;exact⟨rfl,by simp⟩
  ·obtain⟨a,b⟩:=iO h;exact⟨a,List.mem_cons_of_mem _ b⟩
theorem sP:∀ (vs:List Value),(vs.zip vs).map (·.2)=vs
 |[]=>rfl
 |v::vs=>by rw[List.zip_cons_cons,List.map_cons,sP vs]
section
variable {prog:Program}{w:World}{A:Around}{E:Value->Shared->Prop}{s:Shared}{O:KeyOrd}{kf:Value->O.α}
theorem tJ {vs:List Value}{xs:Array Keyed}(hp:xs.Perm (pairsOf vs))(ha:Asc kf xs 0 (pairsOf vs).size):(xs.map (·.2)).toList.Perm vs/\(xs.map (·.2)).toList.Pairwise λa b=>O.kle (kf a) (kf b):=by
 have hp':=Array.perm_iff_toList_perm.mp hp
 rw[pairsOf_toList] at hp'
 refine⟨?_,?_⟩
 ·have:=hp'.map (·.2)
  rw[sP] at this
  rw[Array.toList_map];exact this
 ·rw[Array.toList_map,List.pairwise_map,List.pairwise_iff_getElem]
  intro i j hi hj hij
  have hi':i<xs.size:=by simpa using hi
  have hj':j<xs.size:=by simpa using hj
  have q:=ha i j (Nat.zero_le _) (Nat.le_of_lt hij) (by rw[← hp.size_eq];exact hj')
  rw[mr hi',mr hj'] at q
  have e1:=(iO (hp'.mem_iff.mp (Array.getElem_mem_toList hi'))).1
  have e2:=(iO (hp'.mem_iff.mp (Array.getElem_mem_toList hj'))).1
  rw[e1,e2] at q
  simpa using q
theorem qg {a:Addr}{vs:List Value}{n:Nat}{P:Fin->Shared->Prop}{s1:Shared}(ho:s.heap.get? a=some (seqObj "list" vs.toArray n))(hl:vs.length<=sizeLine)(hS:ph prog w s1 vs O kf)(hk:∀ b o,s1.heap.get? b=some o->b≠a/\s.heap.get? b=some o)
  (h:∀ out:Array Value,out.toList.Perm vs->(out.toList.Pairwise λa b=>O.kle (kf a) (kf b))->P (.done (.ret .none)) { s with heap:=sortedHeap s.heap a vs out }) :
  wpAny (model prog w) A (Builtin.«list.sort» ⟨[.ref a],[]⟩) P E s:=by
 have ha:a<s.heap.objs.size:=Heap.lt_size ho
 have hz:vs.toArray.size<=sizeLine:=by simpa using hl
 rw[list_sort_plain]
 refine wpAny_bind (listItems_at ho rfl ?_)
 refine wpAny_bind (listUpdate_at ho rfl ?_ (hsz:=hz))
 have ho1:=get?_update_seq ho (λ_ => #[])
 refine wpAny_bind (seqEpoch_at ho1 rfl ?_)
 refine wpAny_bind (wpAny_newTuple ?_)
 refine wpAny_bind (wpAny_newList ?_)
 refine wpAny_holding ?_
 generalize hE:(if (#[]:Array Value).size==vs.toArray.size then n else n+1)=e1 at ho1
 have keep6:∀ b o,s1.heap.get? b=some o->(((s.heap.update a (Obj.mapSeq λ_ => #[])).push (seqObj "tuple" vs.toArray 0)).push (seqObj "list" #[] 0)).get? b=some o:=by
  intro b o eb
  obtain⟨hne,eb'⟩:=hk b o eb
  refine Heap.get?_push_of_some _ (Heap.get?_push_of_some _ ?_)
  rw[Heap.get?_update_ne _ _ _ _ hne]
  exact eb'
 have ho6:(((s.heap.update a (Obj.mapSeq λ_ => #[])).push (seqObj "tuple" vs.toArray 0)).push (seqObj "list" #[] 0)).get? a=some (seqObj "list" #[] e1):=Heap.get?_push_of_some _ (Heap.get?_push_of_some _ ho1)
 obtain⟨kd,hS⟩:=hS
 show wpAny (model prog w) A _ P E { s with heap:=((s.heap.update a (Obj.mapSeq λ_ => #[])).push (seqObj "tuple" vs.toArray 0)).push (seqObj "list" #[] 0) }
 dsimp only
 by_cases h2:vs.toArray.size<2
 ·rw[if_pos h2,if_pos h2]
  refine wpAny_bind (wpAny_pure ?_)
  rw[StateT.run_pure]
  refine wpAny_bind (wpAny_pure ?_)
  dsimp only
  refine wpAny_bind (seqEpoch_at ho6 rfl ?_)
  refine wpAny_bind (listUpdate_at ho6 rfl ?_ (hsz2:=by rw[Array.size_map];show (pairsOf vs).size<=_;rw[pairsOf_size];omega))
  simp only[bne_self_eq_false,Bool.false_eq_true,if_false]
  obtain⟨o1,o2⟩:=tJ (kf:=kf) (vs:=vs) (xs:=pairsOf vs) (Array.Perm.refl _) (λi j a1 a2 a3=>by
   have:i=j:=by rw[pairsOf_size] at a3;simp at h2;omega
   subst this;exact KeyOrd.kle_refl _)
  exact wpAny_pure (h _ o1 o2)
 ·rw[if_neg h2,if_neg h2]
  have h2' : 2<=vs.length:=by simp at h2;omega
  refine wpAny_bind ((hS A _ _ keep6).1 h2' _ ?_)
  refine wpAny_bind (wpAny_mono (mC (O:=O) (kf:=kf) (kd:=kd) (st:=SortSt.mk' kd (vs.toArray.zip vs.toArray) #[] 7 none) (Q:=λ_ st'=>(arrOf st').Perm (pairsOf vs)/\failedOf st'=none/\Asc kf (arrOf st') 0 (pairsOf vs).size)
   (hS A _ _ keep6).2 rfl (λx hx=>?_) rfl rfl ?_ λst' a1 a2 a3=>⟨a1,a2,a3⟩) ?_ λ_ _ e=>e)
  ·have hx':x∈(pairsOf vs).toList:=hx
   rw[pairsOf_toList] at hx'
   exact (iO hx').2
  ·show 0<(pairsOf vs).size
   rw[pairsOf_size];omega
  ·rintro⟨⟨⟩,st'⟩ s' ⟨rfl,hp,hf,hs⟩
   dsimp only
   obtain⟨o1,o2⟩:=tJ hp hs
   refine wpAny_bind (seqEpoch_at ho6 rfl ?_)
   refine wpAny_bind (listUpdate_at ho6 rfl ?_ (hsz2:=by refine Nat.le_trans (Nat.le_of_eq ((Array.size_map ..).trans (hp.size_eq.trans (pairsOf_size _)))) ?_;omega))
   rw[hf]
   simp only[bne_self_eq_false,Bool.false_eq_true,if_false]
   exact wpAny_pure (h _ o1 o2)
theorem kI {x:Value}{Q:Value->Shared->Prop}
  (h:wpAny (model prog w) A.in1 (collect x) (λvs s1=>vs.length<=sizeLine/\∃ (O:KeyOrd) (kf:Value->O.α),ph prog w s1 vs O kf /\
   ∀ (out:Array Value) h' ep,out.toList.Perm vs->(out.toList.Pairwise λa b=>O.kle (kf a) (kf b))->(∀ b o,s1.heap.get? b=some o->h'.get? b=some o)->h'.get? s1.heap.objs.size=some (seqObj "list" out ep) ->
    Q (.ref s1.heap.objs.size) { s1 with heap:=h' }) E s):wpAny (model prog w) A (call (.builtin "sorted") [x]) Q E s:=by
 refine Calls.call_function_entry kind_sorted plain_sorted entry_sorted (args_sorted1 _) ?_
 unfold Builtin.«sorted»
 refine wpAny_bind (m:=checkCount "sorted" 1 1 _) (wpAny_pure ?_)
 refine wpAny_bind (wpAny_mono h (λvs s1 ⟨hl,O,kf,hS,q⟩=>?_) λ_ _ z=>z)
 refine wpAny_bind (wpAny_newList ?_)
 have hoL:(s1.heap.push (seqObj "list" vs.toArray 0)).get? s1.heap.objs.size=some (seqObj "list" vs.toArray 0):=Heap.get?_push_size _ rfl
 refine wpAny_bind (wpAny_holding (wpAny_call_entry slot_list_sort ⟨_,hoL,rfl⟩ entry_list_sort (qg hoL hl hS (λb o e=>⟨Nat.ne_of_lt (Heap.lt_size e),Heap.get?_push_of_some _ e⟩) λout a1 a2=>⟨_,rfl,?_⟩) (args_list_sort _)))
 obtain⟨ep,hat⟩:=sortedHeap_at (out:=out) hoL
 exact wpAny_pure ⟨_,rfl,q out _ ep a1 a2 (λb o e=>by
  rw[sortedHeap_old (Nat.ne_of_lt (Heap.lt_size e)) (by rw[size_push'];exact Nat.lt_succ_of_lt (Heap.lt_size e))]
  exact Heap.get?_push_of_some _ e) hat⟩
end
structure ItK where
 O:KeyOrd
 keyOf:Value->Option O.α
 dflt:O.α
 ty:String
 nt:(Value.type ty != Value.type "tuple")=true
 typ:∀ v a,keyOf v=some a->typeOf v=pure (.type ty)
 fst:∀ v a,keyOf v=some a->firstOfTuple' v=pure none
 eqB:∀ {prog:Program}{w:World}{A:Around}{E:Value->Shared->Prop}{s:Shared}{x y:Value}{a b:O.α}{Q:Bool->Shared->Prop},keyOf x=some a->keyOf y=some b->Q (!O.blt a b&&!O.blt b a) s->wpAny (model prog w) A (eqBool x y) Q E s
 lt:∀ {prog:Program}{w:World}{A:Around}{E:Value->Shared->Prop}{s:Shared}{x y:Value}{a b:O.α}{Q:Bool->Shared->Prop}(o:Bool),keyOf x=some a->keyOf y=some b->Q (O.blt a b) s->wpAny (model prog w) A (oneLt' o x y) Q E s
noncomputable def qu:KeyOrd where
 α:=Int
 blt a b:=decide (a<b)
 irrefl a:=by simp
 trans a b c h1 h2:=by simp only[decide_eq_true_eq] at *;omega
 negTrans a b c h:=by simp only[decide_eq_true_eq] at *;omega
 total a b h1 h2:=by simp only[decide_eq_false_iff_not] at *;omega
theorem zc (i j:Int):(i==j)=(!decide (i<j)&&!decide (j<i)):=by
 by_cases e1:i=j
 ·subst e1;simp
 ·have:i<j∨j<i:=by omega
  rcases this with h1 |h1<;>simp[e1,h1]
theorem xW (i j:Str):decide (i=j)=(!decide (i.cps.toList<j.cps.toList)&&!decide (j.cps.toList<i.cps.toList)):=by
 by_cases e1:i=j
 ·subst e1
  have:=List.lt_irrefl i.cps.toList
  simp[this]
 ·have ne:i.cps.toList≠j.cps.toList:=λz=>e1 (by
   cases i;cases j
   have:=Array.toList_inj.mp z
   simp only at this
   rw[this])
  rw[decide_eq_false e1]
  by_cases h1:i.cps.toList<j.cps.toList
  ·simp[h1]
  ·by_cases h2:j.cps.toList<i.cps.toList
   ·simp[h2]
   ·exact absurd (List.le_antisymm (List.not_lt.mp h2) (List.not_lt.mp h1)) ne
noncomputable def BL (v:Value):Option Int:=match v with | .int i _=>some i |_=>none
noncomputable def BK (v:Value):Option (List Nat):=match v with | .str x _=>some x.cps.toList |_=>none
theorem gT {v:Value}{i:Int}(h:BL v=some i):∃ t,v = .int i t:=by
 cases v<;>first |(cases h;done) |skip
 cases h;exact⟨_,rfl⟩
theorem gS {v:Value}{i:List Nat}(h:BK v=some i):∃ x t,v = .str x t/\i=x.cps.toList:=by
 cases v<;>first |(cases h;done) |skip
 cases h;exact⟨_,_,rfl,rfl⟩
noncomputable def intIt:ItK where
 O:=qu
 keyOf:=BL
 dflt:=(0:Int)
 ty:="int"
 nt:=by decide
 typ v a h:=by obtain⟨t,rfl⟩:=gT h;rfl
 fst v a h:=by obtain⟨t,rfl⟩:=gT h;rfl
 eqB {prog w A E s x y a b Q} ha hb h:=by
  obtain⟨t,rfl⟩:=gT ha
  obtain⟨u,rfl⟩:=gT hb
  exact wpAny_eqBool_int (Eq.mpr (congrArg (λz=>Q z s) (zc a b)) h)
 lt {prog w A E s x y a b Q} o ha hb h:=by
  obtain⟨t,rfl⟩:=gT ha
  obtain⟨u,rfl⟩:=gT hb
  cases o with
  |true=>exact oneLt_int h
  |false =>
   rw[oneLt'_eq]
   simp only[Bool.false_eq_true,if_false]
   exact wpAny_bind (show wpAny _ _ (compareOp .Lt (.int _ t) (.int _ u)) _ _ _ from PyProof.Rows.lt_int (wpAny_truthy_bool h))
noncomputable def strIt:ItK where
 O:=PyProof.Rows.strKind.toKeyOrd
 keyOf:=BK
 dflt:=([]:List Nat)
 ty:="str"
 nt:=by decide
 typ v a h:=by obtain⟨x,t,rfl,_⟩:=gS h;rfl
 fst v a h:=by obtain⟨x,t,rfl,_⟩:=gS h;rfl
 eqB {prog w A E s x y a b Q} ha hb h:=by
  obtain⟨x',t,rfl,rfl⟩:=gS ha
  obtain⟨y',u,rfl,rfl⟩:=gS hb
  exact wpAny_eqBool_str (by rw[xW];exact h)
 lt {prog w A E s x y a b Q} o ha hb h:=by
  obtain⟨x',t,rfl,rfl⟩:=gS ha
  obtain⟨y',u,rfl,rfl⟩:=gS hb
  cases o with
  |true=>exact oneLt_str h
  |false =>
   rw[oneLt'_eq]
   simp only[Bool.false_eq_true,if_false]
   exact wpAny_bind (show wpAny _ _ (compareOp .Lt (.str x' t) (.str y' u)) _ _ _ from PyProof.Rows.lt_str (wpAny_truthy_bool h))
noncomputable def cR (O:KeyOrd):List O.α->List O.α->Bool
 |[],[]=>false
 |[],_::_=>true
 |_::_,[]=>false
 |a::as,b::bs=>if (!O.blt a b&&!O.blt b a)=true then cR O as bs else O.blt a b
theorem nM {O:KeyOrd}{a b:O.α}(h:(!O.blt a b&&!O.blt b a)=true):a=b:=by
 rw[Bool.and_eq_true] at h
 exact O.total _ _ (by simpa using h.1) (by simpa using h.2)
theorem pX {O:KeyOrd}(a:O.α):(!O.blt a a&&!O.blt a a)=true:=by rw[O.irrefl];rfl
theorem cD {O:KeyOrd}(a:O.α)(as bs:List O.α):cR O (a::as) (a::bs)=cR O as bs:=by rw[cR,if_pos (pX a)]
theorem bJ {O:KeyOrd}{a b:O.α}(as bs:List O.α)(h:a≠b):cR O (a::as) (b::bs)=O.blt a b:=by rw[cR,if_neg (λz=>h (nM z))]
theorem uR {O:KeyOrd}{a b:O.α}(h:O.blt a b=true):a≠b:=λz=>by subst z;rw[O.irrefl] at h;cases h
noncomputable def mI (O:KeyOrd):KeyOrd where
 α:=List O.α
 blt:=cR O
 irrefl a:=by
  induction a with
  |nil=>rfl
  |cons x a ih=>rw[cD];exact ih
 trans a:=by
  induction a with
  |nil =>
   intro b c h1 h2
   cases b with
   |nil=>cases h1
   |cons y b=>cases c with
    |nil=>cases h2
    |cons z c=>rfl
  |cons x a ih =>
   intro b c h1 h2
   cases b with
   |nil=>cases h1
   |cons y b=>cases c with
    |nil=>cases h2
    |cons z c =>
     by_cases e1:x=y
     ·subst e1
      rw[cD] at h1
      by_cases e2:x=z
      ·subst e2
       rw[cD] at h2 ⊢
       exact ih b c h1 h2
      ·rw[bJ _ _ e2] at h2 ⊢;exact h2
     ·rw[bJ _ _ e1] at h1
      by_cases e2:y=z
      ·subst e2
       rw[bJ _ _ e1];exact h1
      ·rw[bJ _ _ e2] at h2
       have h3:=O.trans _ _ _ h1 h2
       rw[bJ _ _ (uR h3)];exact h3
 negTrans a:=by
  induction a with
  |nil =>
   intro b c h
   cases c with
   |nil=>cases h
   |cons z c=>cases b with
    |nil=>exact .inr rfl
    |cons y b=>exact .inl rfl
  |cons x a ih =>
   intro b c h
   cases c with
   |nil=>cases h
   |cons z c=>cases b with
    |nil=>exact .inr rfl
    |cons y b =>
     by_cases e1:x=z
     ·subst e1
      rw[cD] at h
      by_cases e2:x=y
      ·subst e2
       rw[cD,cD]
       exact ih b c h
      ·rw[bJ _ _ e2,bJ _ _ (Ne.symm e2)]
       cases h1:O.blt x y with
       |true=>exact .inl rfl
       |false=>cases h2:O.blt y x with
        |true=>exact .inr rfl
        |false=>exact absurd (O.total _ _ h1 h2) e2
     ·rw[bJ _ _ e1] at h
      by_cases e2:x=y
      ·subst e2
       rw[bJ _ _ e1];exact .inr h
      ·by_cases e3:y=z
       ·subst e3
        rw[bJ _ _ e2];exact .inl h
       ·rw[bJ _ _ e2,bJ _ _ e3]
        exact O.negTrans _ _ _ h
 total a:=by
  induction a with
  |nil =>
   intro b h1 h2
   cases b with
   |nil=>rfl
   |cons y b=>cases h1
  |cons x a ih =>
   intro b h1 h2
   cases b with
   |nil=>cases h2
   |cons y b =>
    by_cases e:x=y
    ·subst e
     rw[cD] at h1 h2
     rw[ih b h1 h2]
    ·rw[bJ _ _ e] at h1
     rw[bJ _ _ (Ne.symm e)] at h2
     exact absurd (O.total _ _ h1 h2) e
inductive KeysAre (κ:ItK):List Value->List κ.O.α->Prop
 |nil:KeysAre κ [] []
 |cons {v:Value}{a : κ.O.α}{vs:List Value}{as:List κ.O.α} : κ.keyOf v=some a->KeysAre κ vs as->KeysAre κ (v::vs) (a::as)
def TupK (κ:ItK)(h:Heap)(v:Value)(as:List κ.O.α):Prop:=∃ a o its n,v = .ref a/\h.get? a=some o/\o.cls = .type "tuple"/\o.data = .seq its n/\KeysAre κ its.toList as
theorem TupK.keeps {κ:ItK}{h h':Heap}{v:Value}{as:List κ.O.α}(t:TupK κ h v as)(k:∀ b o,h.get? b=some o->h'.get? b=some o):TupK κ h' v as:=by
 obtain⟨a,o,its,n,e,ho,hc,hd,hK⟩:=t
 exact⟨a,o,its,n,e,k _ _ ho,hc,hd,hK⟩
section
variable {prog:Program}{w:World}{A:Around}{E:Value->Shared->Prop}{s:Shared}{κ:ItK}
theorem n9 {f:Bool}{x y:Value}{as bs:List κ.O.α}{Q:Bool->Shared->Prop}(hx:TupK κ s.heap x as)(hy:TupK κ s.heap y bs)(q:Q (cR κ.O as bs) s):wpAny (model prog w) A (keyLt' (tuples' f) x y) Q E s:=by
 obtain⟨a,o,xs,n,rfl,ho,hc,hd,hK⟩:=hx
 obtain⟨b,o2,ys,n2,rfl,ho2,hc2,hd2,hK2⟩:=hy
 refine wpAny_bind (listItems_at ho hd ?_)
 refine wpAny_bind (listItems_at ho2 hd2 ?_)
 refine wpAny_bind ?_
 refine wpAny_forIn_list _ (λrest r s'=>r.1=none/\s'=s/\∃ k xs' ys' as' bs',rest=(List.zip xs' ys').zipIdx k/\KeysAre κ xs' as'/\KeysAre κ ys' bs'/\cR κ.O as' bs'=cR κ.O as bs/\decide (xs'.length<ys'.length)=decide (xs.size<ys.size)) _ ?_ ?_ _ _ ⟨rfl,rfl,0,xs.toList,ys.toList,as,bs,rfl,hK,hK2,rfl,by simp⟩
 ·rintro⟨⟨u,v⟩,i⟩ rest r s' ⟨hr,rfl,k,xs',ys',as',bs',hz,h1,h2,hl,hlen⟩
  cases h1 with
  |nil=>simp at hz
  | @cons u' a' xs'' as'' k1 h1' =>
   cases h2 with
   |nil=>simp at hz
   | @cons v' b' ys'' bs'' k2 h2' =>
    rw[List.zip_cons_cons,List.zipIdx_cons] at hz
    simp only[List.cons.injEq,Prod.mk.injEq] at hz
    obtain⟨⟨⟨rfl,rfl⟩,rfl⟩,rfl⟩:=hz
    refine wpAny_bind (κ.eqB k1 k2 ?_)
    by_cases e:a'=b'
    ·subst e
     rw[pX]
     simp only[Bool.not_true,Bool.false_eq_true,if_false]
     rw[cD] at hl
     exact wpAny_pure ⟨rfl,rfl,i+1,xs'',ys'',as'',bs'',rfl,h1',h2',hl,by rw[← hlen];simp⟩
    ·have e0:(!κ.O.blt a' b'&&!κ.O.blt b' a')=false:=by
      cases hb:(!κ.O.blt a' b'&&!κ.O.blt b' a') with
      |false=>rfl
      |true=>exact absurd (nM hb) e
     rw[e0]
     simp only[Bool.not_false,if_true]
     rw[bJ _ _ e] at hl
     refine wpAny_bind (κ.lt _ k1 k2 ?_)
     rw[hl]
     exact wpAny_pure (wpAny_pure q)
 ·rintro⟨r1,r2⟩ s' ⟨hr,rfl,k,xs',ys',as',bs',hz,h1,h2,hl,hlen⟩
  simp only at hr
  subst hr
  refine wpAny_pure ?_
  show Q (decide (xs.size<ys.size)) s'
  rw[← hlen]
  have e:decide (xs'.length<ys'.length)=cR κ.O as' bs':=by
   cases h1 with
   |nil=>cases h2 with
    |nil=>rfl
    |cons _ _=>simp[cR]
   |cons _ _=>cases h2 with
    |nil=>simp[cR]
    |cons _ _=>simp at hz
  rw[e,hl]
  exact q
theorem qe:∀ {vs:List Value}{as:List κ.O.α},KeysAre κ vs as->vs.mapM firstOfTuple'=pure (vs.map λ_=>none)
 |_,_,.nil=>by simp
 |_,_,.cons h r=>by rw[List.mapM_cons,κ.fst _ _ h,qe r];simp
theorem qd:∀ {vs:List Value}{as:List κ.O.α},KeysAre κ vs as->vs.mapM typeOf=pure (vs.map λ_=>Value.type κ.ty)
 |_,_,.nil=>by simp
 |_,_,.cons h r=>by rw[List.mapM_cons,κ.typ _ _ h,qd r];simp
theorem zG {vs:List Value}{as:List κ.O.α}(h:KeysAre κ vs as)(h0 : 0<vs.length):oneTypeOnly' vs.toArray=pure (some (.type κ.ty)):=by
 rw[oneTypeOnly'_eq,List.mapM_toArray,qd h]
 simp only[map_pure,pure_bind]
 have hall:((List.map (λ_=>Value.type κ.ty) vs).toArray.all λx=>x==Value.type κ.ty)=true:=by
  simp only[List.all_toArray,List.all_map,List.all_eq_true]
  intro _ _
  simp
 have h0':(List.map (λ_=>Value.type κ.ty) vs).toArray[0]?=some (Value.type κ.ty):=by
  cases vs with
  |nil=>simp at h0
  |cons v vs=>simp
 rw[h0']
 simp only[hall,if_true]
theorem rV {vs:List Value}{as:List κ.O.α}(h:KeysAre κ vs as)(h0 : 0<vs.length):keyKind' vs.toArray=pure oneType':=by
 rw[keyKind'_eq,List.mapM_toArray,qe h]
 simp only[map_pure,pure_bind]
 obtain⟨v,vr,rfl⟩:∃ v vr,vs=v::vr:=by
  cases vs with
  |nil=>simp at h0
  |cons v vs=>exact⟨v,vs,rfl⟩
 rw[if_neg (by simp),if_neg (by simp),zG h h0]
 rfl
theorem KeysAre.mem {vs:List Value}{as:List κ.O.α}(h:KeysAre κ vs as){v:Value}(hv:v∈vs):∃ a,κ.keyOf v=some a:=by
 induction h with
 |nil=>simp at hv
 |cons k _ ih =>
  rcases List.mem_cons.mp hv with e |hv
  ·subst e;exact⟨_,k⟩
  ·exact ih hv
theorem i9 {s1:Shared}{vs:List Value}{as:List κ.O.α}(h:KeysAre κ vs as):ph prog w s1 vs κ.O (λv=>(κ.keyOf v).getD κ.dflt):=by
 refine⟨oneType',λA E s6 k=>⟨λh2 Q' q=>?_,λx y gx gy st Q hk q=>?_⟩⟩
 ·rw[rV h (by omega)]
  exact wpAny_pure q
 ·obtain⟨a,ea⟩:=h.mem gx
  obtain⟨b,eb⟩:=h.mem gy
  dsimp only at q
  rw[ea,eb] at q
  rw[lt'_eq]
  refine wpS_bind (wpS_get ?_)
  rw[hk,keyLt'_oneType]
  exact wpS_bind (wpS_lift (wpAny_attempt (κ.lt true ea eb ⟨rfl,wpS_pure q⟩)))
inductive TupsAre (κ:ItK) (h:Heap):List Value->List (List κ.O.α)->Prop
 |nil:TupsAre κ h [] []
 |cons {v:Value}{a : κ.O.α}{as:List κ.O.α}{vs:List Value}{ass:List (List κ.O.α)}:TupK κ h v (a::as)->TupsAre κ h vs ass->TupsAre κ h (v::vs) ((a::as)::ass)
theorem TupsAre.keeps {h h':Heap}{vs:List Value}{ass:List (List κ.O.α)}(t:TupsAre κ h vs ass)(k:∀ b o,h.get? b=some o->h'.get? b=some o):TupsAre κ h' vs ass:=by
 induction t with
 |nil=>exact .nil
 |cons q _ ih=>exact .cons (q.keeps k) ih
theorem TupsAre.mem {h:Heap}{vs:List Value}{ass:List (List κ.O.α)}(t:TupsAre κ h vs ass){v:Value}(hv:v∈vs):∃ as,TupK κ h v as:=by
 induction t with
 |nil=>simp at hv
 |cons q _ ih =>
  rcases List.mem_cons.mp hv with e |hv
  ·subst e;exact⟨_,q⟩
  ·exact ih hv
theorem vb {v:Value}{a : κ.O.α}{as:List κ.O.α}{Q:Option Value->Shared->Prop}(t:TupK κ s.heap v (a::as))(q:∀ u,κ.keyOf u=some a->Q (some u) s):wpAny (model prog w) A (firstOfTuple' v) Q E s:=by
 obtain⟨b,o,its,n,rfl,ho,hc,hd,hK⟩:=t
 generalize hl:its.toList=l at hK
 cases hK with
 | @cons u _ us _ k r =>
  refine wpAny_bind (wpAny_typeOf ⟨o,ho,hc⟩ ?_)
  rw[if_neg (by decide)]
  refine wpAny_bind (listItems_at ho hd (wpAny_pure ?_))
  have e:its[0]?=some u:=by rw[← Array.getElem?_toList,hl];rfl
  rw[e]
  exact q u k
theorem uW {vs:List Value}{ass:List (List κ.O.α)}(t:TupsAre κ s.heap vs ass):∀ {Q:List (Option Value)->Shared->Prop},(∀ us as,KeysAre κ us as->us.length=vs.length->Q (us.map some) s)->wpAny (model prog w) A (vs.mapM firstOfTuple') Q E s:=by
 induction t with
 |nil=>intro Q q;exact wpAny_pure (q [] [] .nil rfl)
 |cons h _ ih =>
  intro Q q
  rw[List.mapM_cons]
  refine wpAny_bind (vb h λu ku=>wpAny_bind (ih λus as hK hl=>wpAny_pure ?_))
  exact q (u::us) (_::as) (.cons ku hK) (by simp[hl])
theorem filterMap_some:∀ (us:List Value),((us.map some).toArray.filterMap id)=us.toArray:=by
 intro us
 rw[List.filterMap_toArray]
 congr 1
 induction us with
 |nil=>rfl
 |cons u us ih=>simp[ih]
theorem uZ {vs:List Value}{ass:List (List κ.O.α)}(t:TupsAre κ s.heap vs ass)(h0 : 0<vs.length){Q:SortKind->Shared->Prop}(q:Q (tuples' true) s):wpAny (model prog w) A (keyKind' vs.toArray) Q E s:=by
 rw[keyKind'_eq,List.mapM_toArray]
 refine wpAny_bind (wpAny_bind (uW t λus as hK hl=>wpAny_pure ?_))
 have e:((us.map some).toArray.all λx=>x.isSome)=true:=by simp
 show wpAny _ _ (if ((us.map some).toArray.all λx=>x.isSome)=true then _ else _) _ _ _
 rw[if_pos e]
 refine wpAny_bind (wpAny_rule ?_)
 rw[filterMap_some,zG hK (by omega)]
 refine wpAny_bind (wpAny_pure (wpAny_pure ?_))
 show Q (tuples' (Value.type κ.ty != Value.type "tuple")) s
 rw[κ.nt]
 exact q
noncomputable def kfT (κ:ItK)(h:Heap)(v:Value):List κ.O.α:=match v with
 | .ref a=>(match h.get? a with
  |some o=>(match o.data with
   | .seq its _=>its.toList.map λu=>(κ.keyOf u).getD κ.dflt
   |_=>[])
  |none=>[])
 |_=>[]
theorem KeysAre.map_key {vs:List Value}{as:List κ.O.α}(h:KeysAre κ vs as):vs.map (λu=>(κ.keyOf u).getD κ.dflt)=as:=by
 induction h with
 |nil=>rfl
 |cons k _ ih=>rw[List.map_cons,k,ih];rfl
theorem oM {h:Heap}{v:Value}{as:List κ.O.α}(t:TupK κ h v as):kfT κ h v=as:=by
 obtain⟨b,o,its,n,rfl,ho,hc,hd,hK⟩:=t
 unfold kfT
 dsimp only
 rw[ho]
 dsimp only
 rw[hd]
 exact hK.map_key
theorem j_ {s1:Shared}{vs:List Value}{ass:List (List κ.O.α)}(t:TupsAre κ s1.heap vs ass):ph prog w s1 vs (mI κ.O) (kfT κ s1.heap):=by
 refine⟨tuples' true,λA E s6 k=>⟨λh2 Q' q=>uZ (t.keeps k) (by omega) q,λx y gx gy st Q hk q=>?_⟩⟩
 obtain⟨as,ta⟩:=t.mem gx
 obtain⟨bs,tb⟩:=t.mem gy
 rw[oM ta,oM tb] at q
 rw[lt'_eq]
 refine wpS_bind (wpS_get ?_)
 rw[hk]
 exact wpS_bind (wpS_lift (wpAny_attempt (n9 (ta.keeps k) (tb.keeps k) ⟨rfl,wpS_pure q⟩)))
end
end L2
namespace L2
open PySem PySem.Spec PyProof.Rows
abbrev Key:=Sum Int Str
noncomputable def nA:Key->Value->Bool
 | .inl k,v=>Value.isInt k v
 | .inr x,v=>Value.isStrOf x v
noncomputable def CL (w:World):Key->Int
 | .inl k=>hashInt k
 | .inr x=>hashStr w x
theorem aZ:∀ {k:Key}{v:Value},nA k v=true->(∃ i t,k=Sum.inl i/\v=Value.int i t)∨(∃ x t,k=Sum.inr x/\v=Value.str x t)
 | .inl i,v,h=>by
  obtain⟨t,e⟩:=Value.isInt_shape (k:=i) (v:=v) h
  exact .inl ⟨i,t,rfl,e⟩
 | .inr x,v,h=>by
  obtain⟨t,e⟩:=Value.isStrOf_shape (x:=x) (v:=v) h
  exact .inr ⟨x,t,rfl,e⟩
theorem u5 (i:Int)(t:Tok):nA (.inl i) (.int i t)=true:=by simp[nA,Value.isInt]
theorem u4 (x:Str)(t:Tok):nA (.inr x) (.str x t)=true:=by simp[nA,Value.isStrOf]
theorem AK (a b:Int):decide ((Sum.inl a:Key)=Sum.inl b)=(a==b):=by
 by_cases e:a=b
 ·subst e;simp
 ·have h:¬ (Sum.inl a:Key)=Sum.inl b:=λq=>e (Sum.inl.inj q)
  rw[decide_eq_false h]
  exact (beq_eq_false_iff_ne.mpr e).symm
theorem AH (a b:Str):decide ((Sum.inr a:Key)=Sum.inr b)=decide (a=b):=by
 by_cases e:a=b
 ·subst e;simp
 ·have h:¬ (Sum.inr a:Key)=Sum.inr b:=λq=>e (Sum.inr.inj q)
  rw[decide_eq_false h,decide_eq_false e]
theorem AJ (a:Int)(b:Str):decide ((Sum.inl a:Key)=Sum.inr b)=false:=decide_eq_false (λq=>nomatch q)
theorem AI (a:Str)(b:Int):decide ((Sum.inr a:Key)=Sum.inl b)=false:=decide_eq_false (λq=>nomatch q)
noncomputable def bh (prog:Program)(w:World):PySem.KeyKind prog w Key where
 is:=nA
 hash:=CL w
 inj:=λv a b ha hb=>by
  rcases aZ ha with ⟨i,t,rfl,rfl⟩ |⟨x,t,rfl,rfl⟩
  ·rcases aZ hb with ⟨j,u,rfl,e⟩ |⟨y,u,rfl,e⟩
   ·injection e with e1 _;rw[e1]
   ·exact nomatch e
  ·rcases aZ hb with ⟨j,u,rfl,e⟩ |⟨y,u,rfl,e⟩
   ·exact nomatch e
   ·injection e with e1 _;rw[e1]
 byValue:=λk v h=>by
  rcases aZ h with ⟨i,t,rfl,rfl⟩ |⟨x,t,rfl,rfl⟩<;>rfl
 pyHash:=λhv h=>by
  rcases aZ hv with ⟨i,t,rfl,rfl⟩ |⟨x,t,rfl,rfl⟩
  ·exact wpAny_pyHash_int h
  ·exact wpAny_pyHash_str h
 eqBool:=λhu hv h=>by
  rcases aZ hu with ⟨i,t,rfl,rfl⟩ |⟨x,t,rfl,rfl⟩
  ·rcases aZ hv with ⟨j,u,rfl,rfl⟩ |⟨y,u,rfl,rfl⟩
   ·rw[AK] at h;exact wpAny_eqBool_int h
   ·rw[AJ] at h;exact SeqAt.EqAt.int_str i t y u _ _ _ _ h
  ·rcases aZ hv with ⟨j,u,rfl,rfl⟩ |⟨y,u,rfl,rfl⟩
   ·rw[AI] at h;exact SeqAt.EqAt.str_int x t j u _ _ _ _ h
   ·rw[AH] at h;exact wpAny_eqBool_str h
 «strs»:=λk x t v h=>by
  rcases aZ h with ⟨i,u,rfl,e⟩ |⟨y,u,rfl,e⟩
  ·exact nomatch e
  ·injection e with e1 _
   subst e1
   cases v<;>rfl
theorem p_ (prog:Program)(w:World)(i:Int)(t:Tok):(bh prog w).is (.inl i) (.int i t)=true:=u5 i t
theorem p9 (prog:Program)(w:World)(x:Str)(t:Tok):(bh prog w).is (.inr x) (.str x t)=true:=u4 x t
inductive V where
 |non |bl (b:Bool) |int (i:Int) |str (x:Str) |byt (b:Array UInt8) |flt (b:UInt64) |ref (a:Addr) |ty (n:String)
 deriving DecidableEq
def RelV:V->Value->Prop
 | .non,u=>u=Value.none
 | .bl b,u=>u=Value.bool b
 | .int i,u => ∃ t,u=Value.int i t
 | .str x,u => ∃ t,u=Value.str x t
 | .byt b,u => ∃ t,u=Value.bytes b t
 | .flt b,u => ∃ t,u=Value.float b t
 | .ref a,u=>u=Value.ref a
 | .ty n,u=>u=Value.type n
abbrev Vals:List V->List Value->Prop:=Paired RelV
theorem Vals.length {xs:List V}{us:List Value}(r:Vals xs us):xs.length=us.length:=Paired.length r
theorem Vals.get:∀ {xs:List V}{us:List Value}{i:Nat}{x:V},Vals xs us->xs[i]?=some x->∃ u,us[i]?=some u/\RelV x u
 |_,_,_,_,.nil,e=>by simp at e
 |_,_,0,_,.cons r _,e=>by simp at e;subst e;exact⟨_,rfl,r⟩
 |_,_,i+1,x,.cons _ t,e=>by
  obtain⟨u,h1,h2⟩:=Vals.get (i:=i) (x:=x) t (by simpa using e)
  exact⟨u,by simpa using h1,h2⟩
theorem Vals.append:∀ {xs ys:List V}{us ws:List Value},Vals xs us->Vals ys ws->Vals (xs++ys) (us++ws)
 |_,_,_,_,.nil,s=>s
 |_,_,_,_,.cons r t,s => .cons r (Vals.append t s)
theorem Vals.take:∀ {xs:List V}{us:List Value}(n:Nat),Vals xs us->Vals (xs.take n) (us.take n)
 |_,_,0,_ => .nil
 |_,_,_+1,.nil => .nil
 |_,_,n+1,.cons r t => .cons r (Vals.take n t)
theorem Vals.drop:∀ {xs:List V}{us:List Value}(n:Nat),Vals xs us->Vals (xs.drop n) (us.drop n)
 |_,_,0,r=>r
 |_,_,_+1,.nil => .nil
 |_,_,n+1,.cons _ t=>Vals.drop n t
def RelO:Option V->Option Value->Prop
 |some v,some u=>RelV v u
 |none,none=>True
 |_,_=>False
def KV {κ:Type}:List (κ×V)->List (κ×Value)->Prop:=Paired λ(p : κ×V) (q : κ×Value)=>p.1=q.1/\RelV p.2 q.2
noncomputable def kV:Key->V
 | .inl i => .int i
 | .inr x => .str x
inductive HO where
 |lst (xs:List V)
 |tup (xs:List V)
 |dK (kvs:List (Key×V)) |dT (kvs:List (List Key×V)) |dN (kvs:List (PyData×Addr×V))
 |set (S:Int->Bool) (n:Nat)
 |ins (C dx:Addr) (fs:List (Str×V))
 |own (x:Addr)
 |xd (fs:List (Str×V))
 |met (f x:Addr)
 |rng (lo hi:Int)
 |frz (o:Obj) (u:HO)
 |tbl (ps:Array Value)
 |ext (φ:Heap->Prop)
abbrev Hp:=Addr->Option HO
noncomputable def upd (H:Hp) (a:Addr) (o:HO):Hp:=λb=>if b=a then some o else H b
theorem aX {H:Hp}{a:Addr}{o:HO}:upd H a o a=some o:=by unfold upd;rw[if_pos rfl]
theorem aA {H:Hp}{a b:Addr}{o:HO}(h:b≠a):upd H a o b=H b:=by unfold upd;rw[if_neg h]
theorem BH {H:Hp}{a b:Addr}{o u:HO}(h:H a=some o)(h':H b=some u)(d:o≠u):a≠b:=by
 intro e;subst e;rw[h] at h';exact d (Option.some.inj h')
theorem aR {H:Hp}{a b:Addr}{o:HO}(h:H a=some o)(h':H b=none):a≠b:=by
 intro e;subst e;rw[h] at h';cases h'
def TupN (h:Heap)(a:Addr)(its:Array Value):Prop:=∃ n,h.get? a=some { cls:=.type "tuple",data:=.seq its n }
theorem TupN.tup {h:Heap}{a:Addr}{its:Array Value}(x:TupN h a its):IsTup h a its:=let ⟨n,e⟩:=x;⟨_,e,rfl,n,rfl⟩
theorem TupN.new (h:Heap)(its:Array Value):TupN (h.push { cls:=.type "tuple",data:=.seq its }) h.objs.size its:=⟨_,Heap.get?_push_size _ rfl⟩
section
variable (P:Program) (w:World)
def ObjOk (H:Hp)(h:Heap)(a:Addr):HO->Prop
 | .lst xs=>xs.length<=sizeLine/\∃ (its:List Value) (n:Nat),Vals xs its/\h.get? a=some { cls:=.type "list",data:=.seq its.toArray n }
 | .tup xs=>xs.length<=sizeLine/\∃ its:List Value,Vals xs its/\TupN h a its.toArray
 | .dK kvs=>kvs.length<=sizeLine/\(a==sysModules)=false/\∃ vs,KV kvs vs/\h.DictOf (bh P w) a vs
 | .dT kvs=>kvs.length<=sizeLine/\(a==sysModules)=false/\∃ xs:List (List Key×Addr×Value),
   Paired (λ(p:List Key×V) (q:List Key×Addr×Value)=>p.1=q.1/\H q.2.1=some (.tup (p.1.map kV))/\RelV p.2 q.2.2) kvs xs /\
   ∃ o es ep,h.get? a=some o/\o.ExactDict/\o.data = .dict es ep/\es.toList=xs.map (entryOfKey (tupleKind (bh P w)))/\(xs.map (·.1)).Nodup
 | .dN kvs=>kvs.length<=sizeLine/\(a==sysModules)=false/\∃ xs:List (PyData×Addr×Value),Paired (λp q=>p.1=q.1/\p.2.1=q.2.1/\RelV p.2.2 q.2.2) kvs xs /\
   ∃ o es ep,h.get? a=some o/\o.ExactDict/\o.data = .dict es ep/\es.toList=xs.map (entryOfKey (xg P w))/\(xs.map (·.1)).Nodup
 | .set S n=>h.SetOf (intKind P w) a S n
 | .ins C dx fs=>H dx=some (.own a)/\fs.length<=1000/\dx≠a/\h.get? a=some (PySem.W.instObj C dx) /\
   ∃ mA,h.Ns1 dx mA/\(∀ f,RelO (fs.lookup f) (mA f))/\PySem.Within mA (fs.map (·.1))
 | .own _ => ∃ o,h.get? a=some o
 | .xd fs => ∃ mA,h.Ns1 a mA/\∀ f,RelO (fs.lookup f) (mA f)
 | .rng lo hi => ∃ t u v,h.get? a=some { cls:=.type "range",data:=.fields #[.int lo t,.int hi u,.int 1 v] }
 | .frz o u=>h.get? a=some o/\ObjOk H h a u
 | .tbl ps=>h.get? a=some { cls:=.none,data:=.fields ps }
 | .met f x=>h.get? a=some (PySem.W.methodObj (.ref f) (.ref x))
 | .ext φ => φ h/\(∃ o,h.get? a=some o)/\∀ h1 h2:Heap,φ h1->(∀ o,h1.get? a=some o->h2.get? a=some o)->φ h2
def HOk (H:Hp)(h:Heap):Prop:=∀ a o,H a=some o->ObjOk P w H h a o
end
section
variable {P:Program}{w:World}{H H':Hp}{h h':Heap}{a:Addr}{o:HO}
theorem ObjOk.lt (x:ObjOk P w H h a o):a<h.objs.size:=by
 cases o with
 |lst xs=>obtain⟨_,_,_,_,e⟩:=x;exact Heap.lt_size e
 |tup xs=>obtain⟨_,_,_,_,e⟩:=x;exact Heap.lt_size e
 |dK kvs=>obtain⟨_,_,_,_,o,_,_,e,_⟩:=x;exact Heap.lt_size e
 |dT kvs=>obtain⟨_,_,_,_,o,_,_,e,_⟩:=x;exact Heap.lt_size e
 |dN kvs=>obtain⟨_,_,_,_,o,_,_,e,_⟩:=x;exact Heap.lt_size e
 |set S n=>obtain⟨o,_,_,_,e,_⟩:=x;exact Heap.lt_size e
 |ins C dx fs=>obtain⟨_,_,_,e,_⟩:=x;exact Heap.lt_size e
 |own y=>obtain⟨_,e⟩:=x;exact Heap.lt_size e
 |xd fs=>obtain⟨_,⟨_,_,_,e,_⟩,_⟩:=x;exact Heap.lt_size e
 |rng lo hi=>obtain⟨_,_,_,e⟩:=x;exact Heap.lt_size e
 |frz ob u=>obtain⟨e,_⟩:=x;exact Heap.lt_size e
 |tbl ps=>exact Heap.lt_size (show h.get? a=some _ from x)
 |met f y=>exact Heap.lt_size (show h.get? a=some _ from x)
 |ext φ=>obtain⟨_,⟨_,e⟩,_⟩:=x;exact Heap.lt_size e
theorem Paired.mapP {α β:Type}{F G : α->β->Prop}:∀ {l₁:List α}{l₂:List β},Paired F l₁ l₂->(∀ a b,F a b->G a b)->Paired G l₁ l₂
 |_,_,.nil,_ => .nil
 |_,_,.cons r t,f => .cons (f _ _ r) (Paired.mapP t f)
theorem ObjOk.stay (x:ObjOk P w H h a o)(k:∀ b u,(b=a∨H b=some (.own a))->h.get? b=some u->h'.get? b=some u)
  (ho:∀ b,H b=some (.own a)->H' b=some (.own a)) (ht:∀ b xs,H b=some (.tup xs)->H' b=some (.tup xs)):ObjOk P w H' h' a o:=by
 induction o with
 |lst xs=>obtain⟨z,its,n,r,e⟩:=x;exact⟨z,its,n,r,k _ _ (.inl rfl) e⟩
 |tup xs=>obtain⟨z,its,r,n,e⟩:=x;exact⟨z,its,r,n,k _ _ (.inl rfl) e⟩
 |dK kvs=>obtain⟨z,y,vs,r,ob,es,ep,e,c⟩:=x;exact⟨z,y,vs,r,ob,es,ep,k _ _ (.inl rfl) e,c⟩
 |dT kvs =>
  obtain⟨z,y,xs,r,ob,es,ep,e,c⟩:=x
  exact⟨z,y,xs,Paired.mapP r λp q z=>⟨z.1,ht _ _ z.2.1,z.2.2⟩,ob,es,ep,k _ _ (.inl rfl) e,c⟩
 |dN kvs=>obtain⟨z,y,xs,r,ob,es,ep,e,c⟩:=x;exact⟨z,y,xs,r,ob,es,ep,k _ _ (.inl rfl) e,c⟩
 |set S n=>obtain⟨ob,es,ep,t,e,c⟩:=x;exact⟨ob,es,ep,t,k _ _ (.inl rfl) e,c⟩
 |ins C dx fs =>
  obtain⟨d,z,ne,e,mA,⟨od,es,ep,e2,c⟩,r⟩:=x
  exact⟨ho _ d,z,ne,k _ _ (.inl rfl) e,mA,⟨od,es,ep,k _ _ (.inr d) e2,c⟩,r⟩
 |own y=>obtain⟨ob,e⟩:=x;exact⟨ob,k _ _ (.inl rfl) e⟩
 |xd fs=>obtain⟨mA,⟨od,es,ep,e,c⟩,r⟩:=x;exact⟨mA,⟨od,es,ep,k _ _ (.inl rfl) e,c⟩,r⟩
 |rng lo hi=>obtain⟨t,u,v,e⟩:=x;exact⟨t,u,v,k _ _ (.inl rfl) e⟩
 |frz ob u ih=>obtain⟨e,q⟩:=x;exact⟨k _ _ (.inl rfl) e,ih q⟩
 |tbl ps =>
  have e:h.get? a=some { cls:=.none,data:=.fields ps }:=x
  show h'.get? a=some { cls:=.none,data:=.fields ps }
  exact k a _ (.inl rfl) e
 |met f y =>
  have e:h.get? a=some (PySem.W.methodObj (.ref f) (.ref y)):=x
  show h'.get? a=some (PySem.W.methodObj (.ref f) (.ref y))
  exact k a _ (.inl rfl) e
 |ext φ=>obtain⟨p,⟨o,e⟩,st⟩:=x;exact⟨st _ _ p λo q=>k _ _ (.inl rfl) q,⟨o,k _ _ (.inl rfl) e⟩,st⟩
theorem HOk.lt (x:HOk P w H h)(e:H a=some o):a<h.objs.size:=(x a o e).lt
theorem HOk.fresh (x:HOk P w H h)(e:h.objs.size<=a):H a=none:=by
 cases q:H a with
 |none=>rfl
 |some u=>exact absurd (Nat.lt_of_lt_of_le (x.lt q) e) (Nat.lt_irrefl _)
theorem HOk.kept (x:HOk P w H h)(k:∀ b u,h.get? b=some u->h'.get? b=some u):HOk P w H h':=λa o e =>
 (x a o e).stay (λb u _ q=>k b u q) (λ_ q=>q) λ_ _ q=>q
theorem HOk.laid (x:HOk P w H h)(k:∀ b u,h.get? b=some u->h'.get? b=some u)(hp:h.objs.size<=a)(new:ObjOk P w (upd H a o) h' a o):HOk P w (upd H a o) h':=λb u e=>by
 have hn:=x.fresh hp
 by_cases hb:b=a
 ·subst hb;rw[aX] at e;cases e;exact new
 ·rw[aA hb] at e
  exact (x b u e).stay (λc v _ q=>k c v q) (λc q=>by rw[aA (aR q hn)];exact q) λc xs q=>by rw[aA (aR q hn)];exact q
end
def Rd (H:Hp)(a:Addr)(u:HO):Prop:=H a=some u∨∃ o,H a=some (.frz o u)
theorem Rd.ok {P:Program}{w:World}{H:Hp}{h:Heap}{a:Addr}{u:HO}(r:Rd H a u)(x:HOk P w H h):ObjOk P w H h a u:=by
 rcases r with r |⟨o,r⟩
 ·exact x a u r
 ·obtain⟨_,q⟩:=x a _ r
  exact q
def Mut:Option HO->Prop
 |some (.lst _)=>True
 |some (.dK _)=>True
 |some (.dT _)=>True
 |some (.dN _)=>True
 |some (.set _ _)=>True
 |some (.ins _ _ _)=>True
 |some (.ext _)=>True
 |_=>False
section
variable {P:Program}{w:World}{H:Hp}{h h':Heap}{x e:Addr}{o':HO}
theorem HOk.write (ok:HOk P w H h)(mu:Mut (H x))(he:e=x∨H e=some (.own x))(k:∀ b u,b≠e->h.get? b=some u->h'.get? b=some u)(heo:∃ u,h'.get? e=some u)
  (new:ObjOk P w (upd H x o') h' x o'):HOk P w (upd H x o') h':=λb u q=>by
 have nown:∀ c y,H c=some (.own y)->c≠x:=λc y r z=>by subst z;rw[r] at mu;exact mu
 have ntup:∀ c xs,H c=some (.tup xs)->c≠x:=λc xs r z=>by subst z;rw[r] at mu;exact mu
 by_cases hb:b=x
 ·subst hb;rw[aX] at q;cases q;exact new
 ·rw[aA hb] at q
  by_cases hbe:b=e
  ·have q':H b=some (.own x):=by
    rcases he with z |z
    ·exact absurd (hbe.trans z) hb
    ·rw[hbe];exact z
   rw[q] at q';cases q'
   obtain⟨v,hv⟩:=heo
   exact⟨v,by rw[hbe];exact hv⟩
  ·refine (ok b u q).stay (λc v hc r=>k c v ?_ r) (λc r=>by rw[aA (nown c b r)];exact r) λc xs r=>by rw[aA (ntup c xs r)];exact r
   rcases hc with rfl |hc
   ·exact hbe
   ·rintro rfl
    rcases he with z |z
    ·exact nown c b hc z
    ·rw[hc] at z;cases z;exact hb rfl
end
structure Un (fs ex:List Addr) (H H':Hp) (h h':Heap):Prop where
 keep:∀ b o,h.get? b=some o->H b=none->b∉fs->b∉ex->h'.get? b=some o
 slot:∀ b o,h.get? b=some o->H b=none->b∈fs->b∉ex->∃ sl,h'.get? b=some { o with slots:=sl }
 free:∀ b o,h.get? b=some o->H b=none->b∉ex->H' b=none
 there:∀ b o,h.get? b=some o->b∉ex->∃ o',h'.get? b=some o'
 tups:∀ b xs,H b=some (.tup xs)->H' b=some (.tup xs)
 frzs:∀ b o u,H b=some (.frz o u)->H' b=some (.frz o u)
 tbls:∀ b ps,H b=some (.tbl ps)->∃ more,H' b=some (.tbl (ps++more))
section
variable {fs fs' ex ex':List Addr}{H H1 H2:Hp}{h h1 h2 h':Heap}{a x e:Addr}{o:HO}
theorem Un.any (u:Un fs ex H H1 h h1){b:Addr}{ob:Obj}(q:h.get? b=some ob)(n:H b=none)(hx:b∉ex):∃ sl,h1.get? b=some { ob with slots:=sl }:=by
 by_cases hb:b∈fs
 ·exact u.slot b ob q n hb hx
 ·exact⟨ob.slots,u.keep b ob q n hb hx⟩
theorem Un.trans (a:Un fs ex H H1 h h1)(b:Un fs ex H1 H2 h1 h2):Un fs ex H H2 h h2 where
 keep:=λc ob q n hc hx=>b.keep c ob (a.keep c ob q n hc hx) (a.free c ob q n hx) hc hx
 slot:=λc ob q n hc hx=>by
  obtain⟨sl,e1⟩:=a.slot c ob q n hc hx
  obtain⟨sl',e2⟩:=b.slot c _ e1 (a.free c ob q n hx) hc hx
  exact⟨sl',e2⟩
 free:=λc ob q n hx=>by
  obtain⟨o',e1⟩:=a.there c ob q hx
  exact b.free c o' e1 (a.free c ob q n hx) hx
 there:=λc ob q hx=>by
  obtain⟨o',e1⟩:=a.there c ob q hx
  exact b.there c o' e1 hx
 tups:=λc xs q=>b.tups c xs (a.tups c xs q)
 frzs:=λc ob xs q=>b.frzs c ob xs (a.frzs c ob xs q)
 tbls:=λc ps q=>by
  obtain⟨m1,e1⟩:=a.tbls c ps q
  obtain⟨m2,e2⟩:=b.tbls c _ e1
  exact⟨m1++m2,by rw[e2,Array.append_assoc]⟩
theorem Un.kept (k:∀ b u,h.get? b=some u->h'.get? b=some u):Un fs ex H H h h':=
 ⟨λb ob q _ _ _=>k b ob q,λb ob q _ _ _=>⟨ob.slots,k b ob q⟩,λ_ _ _ n _=>n,λb ob q _=>⟨ob,k b ob q⟩,λ_ _ q=>q,λ_ _ _ q=>q,λ_ ps q=>⟨#[],by rw[q];simp⟩⟩
theorem Un.refl:Un fs ex H H h h:=Un.kept λ_ _ q=>q
theorem Un.laid (k:∀ b u,h.get? b=some u->h'.get? b=some u)(hp:h.objs.size<=a)(hn:H a=none):Un fs ex H (upd H a o) h h' where
 keep:=λb u q _ _ _=>k b u q
 slot:=λb u q _ _ _=>⟨u.slots,k b u q⟩
 free:=λb u q n _=>by rw[aA (Nat.ne_of_lt (Nat.lt_of_lt_of_le (Heap.lt_size q) hp))];exact n
 there:=λb u q _=>⟨u,k b u q⟩
 tups:=λb xs q=>by rw[aA (aR q hn)];exact q
 frzs:=λb u xs q=>by rw[aA (aR q hn)];exact q
 tbls:=λb ps q=>⟨#[],by rw[aA (aR q hn),q];simp⟩
theorem Un.write (mu:Mut (H x))(he:e=x∨H e=some (.own x))(k:∀ b u,b≠e->h.get? b=some u->h'.get? b=some u)(heo:∃ u,h'.get? e=some u):Un fs ex H (upd H x o) h h':=by
 have hx:∀ b,H b=none->b≠x:=λb n z=>by subst z;rw[n] at mu;exact mu
 have hb:∀ b,H b=none->b≠e:=λb n z=>by
  subst z
  rcases he with r |r
  ·exact hx b n r
  ·rw[n] at r;cases r
 have hm:∀ b u,H b=some u->¬ Mut (some u)->b≠x:=λb u q nm z=>by subst z;rw[q] at mu;exact nm mu
 refine⟨λb u q n _ _=>k b u (hb b n) q,λb u q n _ _=>⟨u.slots,k b u (hb b n) q⟩,λb u q n _=>by rw[aA (hx b n)];exact n,λb u q _=>?_,
  λb xs q=>by rw[aA (hm b _ q λz=>z)];exact q,λb u xs q=>by rw[aA (hm b _ q λz=>z)];exact q,λb ps q=>⟨#[],by rw[aA (hm b _ q λz=>z),q];simp⟩⟩
 by_cases hbe:b=e
 ·subst hbe;exact heo
 ·exact⟨u,k b u hbe q⟩
theorem Un.mono (u:Un fs ex H H1 h h1)(hs:∀ b∈fs,b∈fs')(hx:∀ b∈ex,b∈ex'):Un fs' ex' H H1 h h1:=
 ⟨λb ob q n hb he=>u.keep b ob q n (λz=>hb (hs b z)) λz=>he (hx b z),λ_ _ q n _ he=>u.any q n λz=>he (hx _ z),λb ob q n he=>u.free b ob q n λz=>he (hx b z),λb ob q he=>u.there b ob q λz=>he (hx b z),u.tups,u.frzs,u.tbls⟩
end
noncomputable def trk (h:Heap)(H:Hp):List Addr:=(List.range h.objs.size).filter λa=>(H a).isSome
noncomputable def oT (h:Heap)(H:Hp):Heap:=PySem.W.hideAll h (trk h H)
theorem u8 (h:Heap)(H:Hp):(oT h H).objs.size=h.objs.size:=PySem.W.hideAll_size _ _
theorem wX {h:Heap}{H:Hp}{b:Addr}{o:Obj}(e:h.get? b=some o)(n:H b=none):(oT h H).get? b=some o:=
 PySem.W.hideAll_get _ e λhm=>by
  have q:(H b).isSome=true:=(List.mem_filter.mp hm).2
  rw[n] at q;simp at q
theorem yM {h:Heap}{H:Hp}{b:Addr}{o:Obj}(e:(oT h H).get? b=some o):h.get? b=some o/\H b=none:=by
 have e':h.get? b=some o:=PySem.W.of_hideAll (trk h H) e
 refine⟨e',?_⟩
 cases q:H b with
 |none=>rfl
 |some x =>
  have hm:b∈trk h H:=List.mem_filter.mpr ⟨List.mem_range.mpr (Heap.lt_size e'),by simp[q]⟩
  have z:(oT h H).get? b=none:=PySem.W.hideAll_none (trk h H) hm
  rw[z] at e;cases e
noncomputable def zv (g h:Heap)(L:Addr):List (Addr×Obj):=(List.range h.objs.size).filterMap λa=>if a=L∨(g.get? a).isSome=true then none else (h.get? a).map λo=>(a,o)
noncomputable def rest (g h:Heap)(L d:Addr):List (Addr×Obj):=(zv g h L).filter λp=>decide (p.1≠d)
structure Mod (K:PySem.W.Frag) (mg:Str->Option Value) (base:Heap):Prop where
 kin:K.In base
 glob:base.Ns mainGlobals mg
 blt:∃ mb,base.Ns builtinsNs mb/\∀ x:Str,x≠"__name__"->mb x=bootBuiltins x
 nolimit:base.NoLimit
structure Cx where
 prog:Program
 w:World
 K:PySem.W.Frag
 mg:Str->Option Value
 base:Heap
 A:Around
 N:List Str
 s₀:Shared
 H₀:Hp
 env:Env
 outer:List Env
 stack:List Env
 ex:List Addr
 fn:Str->Bool
 calm:Bool
 pn:List (Addr×Obj)
 xe:Value->Shared->Prop
noncomputable def frs (l:List Env):List Addr:=l.filterMap (·.frame)
noncomputable abbrev Cx.fs (X:Cx):List Addr:=frs X.outer
def Vis (sc:Scope)(x:Str):Prop:=sc.names.lookup x=some .local∨sc.names.lookup x=some .cell∨sc.names.lookup x=some .free
def Loc (sc:Scope)(x:Str):Prop:=sc.names.lookup x=some .local∨sc.names.lookup x=some .cell
def Look (env:Env)(h:Heap)(m:Str->Option Value)(x:Str)(u:Value):Prop:=
 (env.kindOf x=some .local/\m x=some u)∨((env.kindOf x=some .cell∨env.kindOf x=some .free)/\∃ c,env.cells.lookup x=some c/\h.IsCell c (some u))
structure Cx.Ok (X:Cx):Prop where
 mod:Mod X.K X.mg X.base
 kind:X.env.scope.kind = .function
 glob:X.env.globals=mainGlobals
 blt:X.env.builtins=builtinsNs
 above:X.s₀.heap.objs.size<=X.env.locals
 inj:∀ x y c,X.env.cells.lookup x=some c->X.env.cells.lookup y=some c->x=y
 has:∀ x,(X.env.kindOf x=some .cell∨X.env.kindOf x=some .free)->∃ c,X.env.cells.lookup x=some c
 cab:∀ x c,X.fn x=true->X.env.cells.lookup x=some c->X.s₀.heap.objs.size<=c
 hd:X.calm=true->X.A.handled=none
 frames:X.A.frames=some X.stack
 stk:X.stack=X.outer∨(X.stack=X.env::X.outer/\X.env.frame=some X.env.locals)
 exf:∀ b∈X.ex,b≠X.env.locals/\∀ x c,X.env.cells.lookup x=some c->c≠b
 bs:∀ b o,X.base.get? b=some o->X.s₀.heap.get? b=some o/\X.H₀ b=none
 bsz:X.base.objs.size<=X.s₀.heap.objs.size
 noex:∀ b o,X.base.get? b=some o->b∉X.ex
 exfs:∀ b∈X.ex,b∉X.fs
 funs:X.s₀.heap.FunFrames X.base X.outer
 frf:∀ b∈X.fs,X.H₀ b=none
structure Inv (X:Cx) (pins:List (Addr×Obj)) (σ:List (Option V)) (H:Hp) (s:Shared):Prop where
 ok:X.Ok
 os:s.os=X.s₀.os
 bare:AllBare s.gens
 base:Un X.fs X.ex X.H₀ H X.s₀.heap s.heap
 loc:∃ m,s.heap.Ns X.env.locals m/\∀ (i:Nat) (x:Str) (v:V),X.N[i]?=some x->σ[i]?=some (some v)->Vis X.env.scope x->∃ u,RelV v u/\Look X.env s.heap m x u
 cell:∀ x c,X.env.cells.lookup x=some c->∃ v,s.heap.IsCell c v
 free:H X.env.locals=none
 freeC:∀ x c,X.env.cells.lookup x=some c->H c=none
 pin:∀ p∈X.pn++pins,s.heap.get? p.1=some p.2/\H p.1=none/\p.1≠X.env.locals/\p.1∉X.fs/\∀ v,p.2.data≠.cell v
 hok:HOk X.prog X.w H s.heap
 len : σ.length=X.N.length
section
variable {X:Cx}{pins:List (Addr×Obj)}{σ:List (Option V)}{H H':Hp}{s:Shared}{h':Heap}
theorem Cx.Ok.nofr (ok:X.Ok){b:Addr}{o:Obj}(e:X.base.get? b=some o):b∉X.fs:=λhb=>by
 have:=(ok.funs.mem hb).1
 rw[e] at this;cases this
theorem Inv.bs (I:Inv X pins σ H s):∀ b o,X.base.get? b=some o->s.heap.get? b=some o/\H b=none:=λb o e =>
 ⟨I.base.keep b o (I.ok.bs b o e).1 (I.ok.bs b o e).2 (I.ok.nofr e) (I.ok.noex b o e),I.base.free b o (I.ok.bs b o e).1 (I.ok.bs b o e).2 (I.ok.noex b o e)⟩
theorem Inv.bk (I:Inv X pins σ H s):∀ b o,X.base.get? b=some o->s.heap.get? b=some o:=λb o e=>(I.bs b o e).1
theorem Inv.mod (I:Inv X pins σ H s):Mod X.K X.mg X.base:=I.ok.mod
theorem Inv.kIn (I:Inv X pins σ H s):X.K.In s.heap:=I.ok.mod.kin.keeps I.bk
theorem Inv.lt (I:Inv X pins σ H s):X.env.locals<s.heap.objs.size:=let ⟨_,hn,_⟩:=I.loc;hn.lt
theorem Inv.sz (I:Inv X pins σ H s):X.s₀.heap.objs.size<=s.heap.objs.size:=Nat.le_trans I.ok.above (Nat.le_of_lt I.lt)
theorem Inv.nofs (I:Inv X pins σ H s){a:Addr}(h:s.heap.objs.size<=a):a∉X.fs:=λhb=>by
 obtain⟨_,o,ho,_⟩:=I.ok.funs.mem hb
 exact absurd (Nat.lt_of_lt_of_le (Heap.lt_size ho) (Nat.le_trans I.sz h)) (Nat.lt_irrefl _)
theorem Inv.cne (I:Inv X pins σ H s):∀ x c,X.env.cells.lookup x=some c->c≠X.env.locals:=λx c e z=>by
 obtain⟨v,o,ho,hd⟩:=I.cell x c e
 obtain⟨m,⟨o',es,ep,ho',hd',_⟩,_⟩:=I.loc
 rw[z,ho'] at ho;cases ho;rw[hd'] at hd;cases hd
theorem Inv.funs (I:Inv X pins σ H s):s.heap.FunFrames X.base X.outer:=by
 have all:∀ (l:List Env),(∀ b∈frs l,b∈X.fs)->X.s₀.heap.FunFrames X.base l->s.heap.FunFrames X.base l:=by
  intro l
  induction l with
  |nil=>intro _ _;trivial
  |cons env r ih =>
   intro hs hl
   obtain⟨hk,⟨L,o,hf,hn,ho,hd⟩,hr⟩:=hl
   have hL:L∈X.fs:=hs L (by unfold frs;rw[List.filterMap_cons,hf];exact List.mem_cons_self)
   obtain⟨sl,e⟩:=I.base.slot L o ho (I.ok.frf L hL) hL λz=>I.ok.exfs L z hL
   exact⟨hk,⟨L,_,hf,hn,e,hd⟩,ih (λb hb=>hs b (by unfold frs;rw[List.filterMap_cons,hf];exact List.mem_cons_of_mem _ hb)) hr⟩
 exact all X.outer (λ_ hb=>hb) I.ok.funs
theorem Inv.stack (I:Inv X pins σ H s):s.heap.FunFrames X.base X.stack:=by
 rcases I.ok.stk with e |⟨e,hf⟩
 ·rw[e];exact I.funs
 ·rw[e]
  obtain⟨m,hn,_⟩:=I.loc
  refine .cons (by rw[I.ok.kind];decide) hf hn ?_ I.funs
  exact Heap.get?_none_of_le (Nat.le_trans I.ok.bsz I.ok.above)
theorem Inv.stkSub (I:Inv X pins σ H s):∀ b∈frs X.stack,b∈X.env.locals::X.fs:=λb hb=>by
 rcases I.ok.stk with e |⟨e,hf⟩
 ·rw[e] at hb;exact List.mem_cons_of_mem _ hb
 ·rw[e] at hb
  unfold frs at hb
  rw[List.filterMap_cons,hf] at hb
  exact hb
theorem Inv.stkFree (I:Inv X pins σ H s):∀ b∈frs X.stack,H b=none:=λb hb=>by
 rcases List.mem_cons.mp (I.stkSub b hb) with e |hb
 ·rw[e];exact I.free
 ·obtain⟨_,o,ho,_⟩:=I.ok.funs.mem hb
  exact I.base.free b o ho (I.ok.frf b hb) λz=>I.ok.exfs b z hb
theorem Inv.step {g':Array GenState}{t':Nat}{d':Drawn}{ch:List Addr}(I:Inv X pins σ H s)
  (hch:∀ b∈ch,(b∈X.ex∨X.s₀.heap.objs.size<=b)/\b≠X.env.locals/\(∀ x c,X.env.cells.lookup x=some c->c≠b)/\∀ p∈X.pn++pins,p.1≠b)
  (keep:∀ b o,b≠X.env.locals->b∉X.fs->b∉ch->s.heap.get? b=some o->H b=none->h'.get? b=some o)
  (slot:∀ b o,b≠X.env.locals->b∈X.fs->b∉ch->s.heap.get? b=some o->H b=none->∃ sl,h'.get? b=some { o with slots:=sl }) (free:∀ b o,b∉ch->s.heap.get? b=some o->H b=none->H' b=none)
  (there:∀ b o,b∉ch->s.heap.get? b=some o->∃ o',h'.get? b=some o')
  (tups:∀ b xs,H b=some (.tup xs)->H' b=some (.tup xs)) (frzs:∀ b o u,H b=some (.frz o u)->H' b=some (.frz o u)) (tbls:∀ b ps,H b=some (.tbl ps)->∃ more,H' b=some (.tbl (ps++more)))
  (ns:∀ m,s.heap.Ns X.env.locals m->h'.Ns X.env.locals m) (hok:HOk X.prog X.w H' h') (hg:AllBare g') :
  Inv X pins σ H' { s with heap:=h',gens:=g',drawn:=d',toks:=t' }:=by
 have neL:∀ b o,X.s₀.heap.get? b=some o->b≠X.env.locals:=λb o e=>Nat.ne_of_lt (Nat.lt_of_lt_of_le (Heap.lt_size e) I.ok.above)
 have neC:∀ b o,X.s₀.heap.get? b=some o->b∉X.ex->b∉ch:=λb o e hx hb=>by
  rcases (hch b hb).1 with z |z
  ·exact hx z
  ·exact absurd (Nat.lt_of_lt_of_le (Heap.lt_size e) z) (Nat.lt_irrefl _)
 have cellK:∀ x c,X.env.cells.lookup x=some c->∀ v,s.heap.IsCell c v->h'.IsCell c v:=λx c e v ⟨o,ho,hd⟩=>by
  have nch:c∉ch:=λz=>(hch c z).2.2.1 x c e rfl
  by_cases hc:c∈X.fs
  ·obtain⟨sl,q⟩:=slot c o (I.cne x c e) hc nch ho (I.freeC x c e)
   exact⟨_,q,hd⟩
  ·exact⟨o,keep c o (I.cne x c e) hc nch ho (I.freeC x c e),hd⟩
 refine⟨I.ok,I.os,hg,⟨λb o e n hb hx=>?_,λb o e n hb hx=>?_,λb o e n hx=>?_,λb o e hx=>?_,λb xs e=>tups b xs (I.base.tups b xs e),λb o xs e=>frzs b o xs (I.base.frzs b o xs e),λb ps e=>?_⟩,?_,λx c e=>?_,?_,λx c e=>?_,λp hp=>?_,hok,I.len⟩
 ·exact keep b o (neL b o e) hb (neC b o e hx) (I.base.keep b o e n hb hx) (I.base.free b o e n hx)
 ·obtain⟨sl,e1⟩:=I.base.slot b o e n hb hx
  obtain⟨sl',e2⟩:=slot b _ (neL b o e) hb (neC b o e hx) e1 (I.base.free b o e n hx)
  exact⟨sl',e2⟩
 ·obtain⟨o',e1⟩:=I.base.there b o e hx
  exact free b o' (neC b o e hx) e1 (I.base.free b o e n hx)
 ·obtain⟨o',e1⟩:=I.base.there b o e hx
  exact there b o' (neC b o e hx) e1
 ·obtain⟨m1,e1⟩:=I.base.tbls b ps e
  obtain⟨m2,e2⟩:=tbls b _ e1
  exact⟨m1++m2,by rw[e2,Array.append_assoc]⟩
 ·obtain⟨m,hn,hl⟩:=I.loc
  refine⟨m,ns m hn,λi x v e1 e2 e3=>?_⟩
  obtain⟨u,r,l⟩:=hl i x v e1 e2 e3
  refine⟨u,r,?_⟩
  rcases l with l |⟨k,c,e,z⟩
  ·exact .inl l
  ·exact .inr ⟨k,c,e,cellK x c e _ z⟩
 ·obtain⟨v,z⟩:=I.cell x c e
  exact⟨v,cellK x c e v z⟩
 ·obtain⟨m,⟨o,_,_,ho,_⟩,_⟩:=I.loc
  exact free _ o (λz=>(hch _ z).2.1 rfl) ho I.free
 ·obtain⟨v,o,ho,hd⟩:=I.cell x c e
  exact free c o (λz=>(hch c z).2.2.1 x c e rfl) ho (I.freeC x c e)
 ·obtain⟨e,n,ne,nf,d⟩:=I.pin p hp
  have nch:p.1∉ch:=λz=>(hch p.1 z).2.2.2 p hp rfl
  exact⟨keep p.1 p.2 ne nf nch e n,free p.1 p.2 nch e n,ne,nf,d⟩
theorem Inv.un {t':Nat}(I:Inv X pins σ H s)(u:Un X.fs [] H H' s.heap h')(hok:HOk X.prog X.w H' h'):Inv X pins σ H' { s with heap:=h',toks:=t' }:=by
 obtain⟨m,⟨o,es,ep,ho,r⟩,_⟩:=id I.loc
 obtain⟨sl,hL⟩:=u.any ho I.free (by simp)
 exact I.step (g':=s.gens) (d':=s.drawn) (ch:=[]) (λ_ z=>nomatch z) (λb o _ hb _ e n=>u.keep b o e n hb (by simp)) (λb o _ hb _ e n=>u.slot b o e n hb (by simp)) (λb o _ e n=>u.free b o e n (by simp)) (λb o _ e=>u.there b o e (by simp)) u.tups u.frzs u.tbls (λm' hm=>by
  obtain⟨o',es',ep',ho',r'⟩:=hm
  rw[ho] at ho';cases ho'
  exact⟨_,es',ep',hL,r'⟩) hok I.bare
theorem Inv.call {g':Array GenState}{t':Nat}{d':Drawn}{ch:List Addr}(I:Inv X pins σ H s)(u:Un (frs X.stack) ch H H' s.heap h')(hok:HOk X.prog X.w H' h')(hg:AllBare g')
  (hch:∀ b∈ch,(b∈X.ex∨X.s₀.heap.objs.size<=b)/\b≠X.env.locals/\(∀ x c,X.env.cells.lookup x=some c->c≠b)/\∀ p∈X.pn++pins,p.1≠b) :
  Inv X pins σ H' { s with heap:=h',gens:=g',drawn:=d',toks:=t' }:=by
 obtain⟨m,⟨o,es,ep,ho,r⟩,_⟩:=id I.loc
 obtain⟨sl,hL⟩:=u.any ho I.free λz=>(hch _ z).2.1 rfl
 exact I.step (ch:=ch) hch (λb o hL hb hc e n=>u.keep b o e n (λz=>(List.mem_cons.mp (I.stkSub b z)).elim hL hb) hc) (λb o _ _ hc e n=>u.any e n hc) (λb o hc e n=>u.free b o e n hc) (λb o hc e=>u.there b o e hc) u.tups u.frzs u.tbls (λm' hm=>by
  obtain⟨o',es',ep',ho',r'⟩:=hm
  rw[ho] at ho';cases ho'
  exact⟨_,es',ep',hL,r'⟩) hok hg
theorem Inv.turned {t':Nat}{it:Addr}(I:Inv X pins σ H s)(k:∀ b o,b≠it->s.heap.get? b=some o->h'.get? b=some o)(hn:H it=none)(hL:it≠X.env.locals)
  (h1:it∈X.ex∨X.s₀.heap.objs.size<=it) (h2:∀ x c,X.env.cells.lookup x=some c->c≠it) (h3:∀ p∈X.pn++pins,p.1≠it):Inv X pins σ H { s with heap:=h',toks:=t' }:=by
 have nit:∀ b u,H b=some u->b≠it:=λb u e z=>by rw[z,hn] at e;cases e
 refine I.step (g':=s.gens) (d':=s.drawn) (ch:=[it]) (λb hb=>?_) (λb o _ _ hc e _=>k b o (λz=>hc (by simp[z])) e) (λb o _ _ hc e _=>⟨o.slots,k b o (λz=>hc (by simp[z])) e⟩) (λ_ _ _ _ n=>n)
  (λb o hc e=>⟨o,k b o (λz=>hc (by simp[z])) e⟩) (λ_ _ e=>e) (λ_ _ _ e=>e) (λb ps e=>⟨#[],by rw[e];simp⟩) (λm hm=>?_) (λb u e=>?_) I.bare
 ·have e:b=it:=by simpa using hb
  subst e
  exact⟨h1,hL,h2,h3⟩
 ·obtain⟨o,es,ep,ho,r⟩:=hm
  exact⟨o,es,ep,k _ o (Ne.symm hL) ho,r⟩
 ·refine (I.hok b u e).stay (λc v hc q=>k c v ?_ q) (λ_ q=>q) λ_ _ q=>q
  rcases hc with z |z
  ·rw[z];exact nit b u e
  ·exact nit c _ z
theorem Inv.tok (I:Inv X pins σ H s)(t:Nat):Inv X pins σ H { s with toks:=t }:=I.un (h':=s.heap) (t':=t) Un.refl I.hok
theorem Inv.kept {t':Nat}(I:Inv X pins σ H s)(k:∀ b u,s.heap.get? b=some u->h'.get? b=some u):Inv X pins σ H { s with heap:=h',toks:=t' }:=I.un (Un.kept k) (I.hok.kept k)
theorem Inv.laid {a:Addr}{o:HO}{t':Nat}(I:Inv X pins σ H s)(k:∀ b u,s.heap.get? b=some u->h'.get? b=some u)(hp:s.heap.objs.size<=a)(new:ObjOk X.prog X.w (upd H a o) h' a o) :
  Inv X pins σ (upd H a o) { s with heap:=h',toks:=t' }:=I.un (Un.laid k hp (I.hok.fresh hp)) (I.hok.laid k hp new)
theorem Inv.write {x e:Addr}{o:HO}{t':Nat}(I:Inv X pins σ H s)(mu:Mut (H x))(he:e=x∨H e=some (.own x))(k:∀ b u,b≠e->s.heap.get? b=some u->h'.get? b=some u)(heo:∃ u,h'.get? e=some u)
  (new:ObjOk X.prog X.w (upd H x o) h' x o):Inv X pins σ (upd H x o) { s with heap:=h',toks:=t' }:=I.un (Un.write mu he k heo) (I.hok.write mu he k heo new)
theorem Inv.pins_of {pins':List (Addr×Obj)}(I:Inv X pins σ H s)(h:∀ p∈pins',s.heap.get? p.1=some p.2/\H p.1=none/\p.1≠X.env.locals/\p.1∉X.fs/\∀ v,p.2.data≠.cell v):Inv X pins' σ H s:=
 ⟨I.ok,I.os,I.bare,I.base,I.loc,I.cell,I.free,I.freeC,λp hp=>(List.mem_append.mp hp).elim (λz=>I.pin p (List.mem_append_left _ z)) (h p),I.hok,I.len⟩
theorem pV {N:List Str}(hN:N.Nodup){i j:Nat}{x:Str}(a:N[i]?=some x)(b:N[j]?=some x):i=j:=by
 obtain⟨h1,e1⟩:=List.getElem?_eq_some_iff.mp a
 obtain⟨h2,e2⟩:=List.getElem?_eq_some_iff.mp b
 exact (List.getElem_inj hN).mp (e1.trans e2.symm)
theorem uu {M:Model}{A:Around}{E:Value->Shared->Prop}{i:Nat}{x:Str}{v:V}{u:Value}{Q:Unit->Shared->Prop}(I:Inv X pins σ H s)(hN:X.N.Nodup)(hi:X.N[i]?=some x)(hx:Loc X.env.scope x)(r:RelV v u)
  (h:∀ s',Inv X pins (σ.set i (some v)) H s'->(∃ a,Heap.SameBut a s.heap s'.heap/\(a=X.env.locals∨X.env.cells.lookup x=some a))->Q () s') (hf:X.fn x=true∨X.env.scope.names.lookup x=some .local:=by first |exact .inl rfl |exact .inr rfl |assumption):wpAny M A (storeName X.env x u) Q E s:=by
 obtain⟨m,hn,hl⟩:=id I.loc
 have hcls:(X.env.scope.kind==.class ||(X.env.scope.kind==.module&&X.env.locals != X.env.globals))=false:=by rw[I.ok.kind];rfl
 have hiσ:i < σ.length:=by rw[I.len];exact (List.getElem?_eq_some_iff.mp hi).1
 have cne:=I.cne
 have tracked:∀ {a:Addr}{h':Heap},(∃ o,s.heap.get? a=some o/\H a=none)->Heap.SameBut a s.heap h'->HOk X.prog X.w H h':=λ{a h'} ha hs b ob e=>by
  obtain⟨_,_,hfree⟩:=ha
  refine (I.hok b ob e).stay (λc w' hc q=>(hs.2 c ?_).trans q) (λ_ q=>q) λ_ _ q=>q
  rintro rfl
  rcases hc with rfl |hc
  ·rw[hfree] at e;cases e
  ·rw[hfree] at hc;cases hc
 rcases hx with hk |hk
 ·refine wpAny_storeName_local hk hn (λh' hn' hs=>?_) hcls
  obtain⟨oL,_,_,hoL,_⟩:=id hn
  refine h _ ⟨I.ok,I.os,I.bare,⟨λb o e n hb hx=>?_,λb o e n hb hx=>?_,I.base.free,λb o e hx=>?_,I.base.tups,I.base.frzs,I.base.tbls⟩,⟨_,hn',λj y v' e1 e2 e3=>?_⟩,λy c e=>?_,I.free,I.freeC,λp hp=>?_,tracked ⟨oL,hoL,I.free⟩ hs,by simpa using I.len⟩ ⟨_,hs,.inl rfl⟩
  ·exact (hs.2 b (Nat.ne_of_lt (Nat.lt_of_lt_of_le (Heap.lt_size e) I.ok.above))).trans (I.base.keep b o e n hb hx)
  ·obtain⟨sl,e1⟩:=I.base.slot b o e n hb hx
   exact⟨sl,(hs.2 b (Nat.ne_of_lt (Nat.lt_of_lt_of_le (Heap.lt_size e) I.ok.above))).trans e1⟩
  ·obtain⟨o',e1⟩:=I.base.there b o e hx
   exact⟨o',(hs.2 b (Nat.ne_of_lt (Nat.lt_of_lt_of_le (Heap.lt_size e) I.ok.above))).trans e1⟩
  ·by_cases hj:j=i
   ·subst hj
    rw[hi] at e1;cases e1
    rw[List.getElem?_set_self hiσ] at e2
    cases e2
    exact⟨u,r,.inl ⟨hk,by simp⟩⟩
   ·rw[List.getElem?_set_ne (Ne.symm hj)] at e2
    obtain⟨u',r',q⟩:=hl j y v' e1 e2 e3
    refine⟨u',r',?_⟩
    rcases q with ⟨k,e⟩ |⟨k,c,e,z⟩
    ·refine .inl ⟨k,?_⟩
     have:y≠x:=λe=>hj (pV hN e1 (e▸hi))
     simp[this,e]
    ·exact .inr ⟨k,c,e,z.sameBut hs (cne y c e)⟩
  ·obtain⟨w',z⟩:=I.cell y c e
   exact⟨w',z.sameBut hs (cne y c e)⟩
  ·obtain⟨e,n,ne,nf,d⟩:=I.pin p hp
   exact⟨(hs.2 p.1 ne).trans e,n,ne,nf,d⟩
 ·have hfn:X.fn x=true:=by
   rcases hf with z |z
   ·exact z
   ·rw[z] at hk;cases hk
  obtain⟨c,hc⟩:=I.ok.has x (.inl hk)
  obtain⟨w',z⟩:=I.cell x c hc
  refine wpAny_storeName_cell I.ok.kind hk hc z (λh' hc' hs=>?_)
  obtain⟨oc,hoc,hocd⟩:=id z
  refine h { s with heap:=h' } ⟨I.ok,I.os,I.bare,⟨λb o e n hb hx=>?_,λb o e n hb hx=>?_,I.base.free,λb o e hx=>?_,I.base.tups,I.base.frzs,I.base.tbls⟩,⟨m,hn.sameBut hs (Ne.symm (cne x c hc)),λj y v' e1 e2 e3=>?_⟩,λy c' e=>?_,I.free,I.freeC,λp hp=>?_,tracked ⟨oc,hoc,I.freeC x c hc⟩ hs,by simpa using I.len⟩ ⟨c,hs,.inr hc⟩
  ·exact (hs.2 b (Nat.ne_of_lt (Nat.lt_of_lt_of_le (Heap.lt_size e) (I.ok.cab x c hfn hc)))).trans (I.base.keep b o e n hb hx)
  ·obtain⟨sl,e1⟩:=I.base.slot b o e n hb hx
   exact⟨sl,(hs.2 b (Nat.ne_of_lt (Nat.lt_of_lt_of_le (Heap.lt_size e) (I.ok.cab x c hfn hc)))).trans e1⟩
  ·obtain⟨o',e1⟩:=I.base.there b o e hx
   exact⟨o',(hs.2 b (Nat.ne_of_lt (Nat.lt_of_lt_of_le (Heap.lt_size e) (I.ok.cab x c hfn hc)))).trans e1⟩
  ·by_cases hj:j=i
   ·subst hj
    rw[hi] at e1;cases e1
    rw[List.getElem?_set_self hiσ] at e2
    cases e2
    exact⟨u,r,.inr ⟨.inl hk,c,hc,hc'⟩⟩
   ·rw[List.getElem?_set_ne (Ne.symm hj)] at e2
    obtain⟨u',r',q⟩:=hl j y v' e1 e2 e3
    refine⟨u',r',?_⟩
    rcases q with q |⟨k,c',e,z'⟩
    ·exact .inl q
    ·refine .inr ⟨k,c',e,z'.sameBut hs ?_⟩
     rintro rfl
     exact hj (pV hN e1 (I.ok.inj _ _ _ e hc▸hi))
  ·by_cases hcc:c'=c
   ·subst hcc;exact⟨_,hc'⟩
   ·obtain⟨w2,z2⟩:=I.cell y c' e
    exact⟨w2,z2.sameBut hs hcc⟩
  ·obtain⟨e,n,ne,nf,d⟩:=I.pin p hp
   refine⟨(hs.2 p.1 ?_).trans e,n,ne,nf,d⟩
   intro q
   rw[q,hoc] at e
   have q':oc=p.2:=Option.some.inj e
   exact d w' (by rw[← q'];exact hocd)
theorem lb {M:Model}{A:Around}{E:Value->Shared->Prop}{i:Nat}{x:Str}{v:V}{u:Value}{Q:Unit->Shared->Prop}(I:Inv X pins σ H s)(hN:X.N.Nodup)(hi:X.N[i]?=some x)(hx:Loc X.env.scope x)(r:RelV v u)
  (h:∀ s',Inv X pins (σ.set i (some v)) H s'->Q () s') (hf:X.fn x=true∨X.env.scope.names.lookup x=some .local:=by first |exact .inl rfl |exact .inr rfl |assumption):wpAny M A (storeName X.env x u) Q E s:=
 uu I hN hi hx r (λs' I' _=>h s' I') hf
theorem Inv.call' {s':Shared}{ch:List Addr}(I:Inv X pins σ H s)(ho:s'.os=s.os)(u:Un (frs X.stack) ch H H' s.heap s'.heap)(hok:HOk X.prog X.w H' s'.heap)(hg:AllBare s'.gens)
  (hch:∀ b∈ch,(b∈X.ex∨X.s₀.heap.objs.size<=b)/\b≠X.env.locals/\(∀ x c,X.env.cells.lookup x=some c->c≠b)/\∀ p∈X.pn++pins,p.1≠b):Inv X pins σ H' s':=by
 obtain⟨h',g',d',t',o'⟩:=s'
 have e:o'=s.os:=ho
 subst e
 exact I.call (g':=g') (t':=t') (d':=d') u hok hg hch
end
abbrev XK:=Value->Option Addr->Hp->Prop
abbrev St:=List (Option V)
abbrev VK:=V->Hp->Prop
abbrev TE:=St->Hp->VK->Prop
abbrev TT:=St->Hp->(Bool->Hp->Prop)->Prop
abbrev TA:=St->Hp->(List V->Hp->Prop)->Prop
structure Ends where
 nx:St->Hp->Prop
 rt:VK
 bk:St->Hp->Prop:=λ_ _=>False
 ct:St->Hp->Prop:=λ_ _=>False
abbrev TS:=Ends->St->Hp->Prop
def EP (X:Cx)(pins:List (Addr×Obj))(σ:St)(Q:VK)(u:Value)(s':Shared):Prop:=∃ v H',Inv X pins σ H' s'/\RelV v u/\Q v H'
def TP (X:Cx)(pins:List (Addr×Obj))(σ:St)(Q:Bool->Hp->Prop)(b:Bool)(s':Shared):Prop:=∃ H',Inv X pins σ H' s'/\Q b H'
def AP (X:Cx)(pins:List (Addr×Obj))(σ:St)(Q:List V->Hp->Prop)(us:List Value)(s':Shared):Prop:=∃ vs H',Inv X pins σ H' s'/\Vals vs us/\Q vs H'
def SP (X:Cx)(pins:List (Addr×Obj))(D:Ends)(f:Flow)(s':Shared):Prop:=
 match f with
 | .next => ∃ σ' H',Inv X pins σ' H' s'/\D.nx σ' H'
 | .brk => ∃ σ' H',Inv X pins σ' H' s'/\D.bk σ' H'
 | .cont => ∃ σ' H',Inv X pins σ' H' s'/\D.ct σ' H'
 | .ret u => ∃ v σ' H',Inv X pins σ' H' s'/\RelV v u/\D.rt v H'
def PE (X:Cx)(e:Expr)(t:TE):Prop:=
 ∀ (pins:List (Addr×Obj)) (s:Shared) (σ:St) (H:Hp) (Q:VK),Inv X pins σ H s->t σ H Q->wpAny (model X.prog X.w) X.A (eval e X.env) (EP X pins σ Q) X.xe s
def PT (X:Cx)(e:Expr)(t:TT):Prop:=
 ∀ (pins:List (Addr×Obj)) (s:Shared) (σ:St) (H:Hp) (Q:Bool->Hp->Prop),Inv X pins σ H s->t σ H Q->wpAny (model X.prog X.w) X.A (isTrue e X.env (eval e X.env)) (TP X pins σ Q) X.xe s
def PW (X:Cx)(e:Expr)(t:TT):Prop:=
 ∀ (whole:Sem Value) (pins:List (Addr×Obj)) (s:Shared) (σ:St) (H:Hp) (Q:Bool->Hp->Prop),Inv X pins σ H s->t σ H Q->wpAny (model X.prog X.w) X.A (isTrue e X.env whole) (TP X pins σ Q) X.xe s
theorem PW.pt {X:Cx}{e:Expr}{t:TT}(h:PW X e t):PT X e t:=h _
def PA (X:Cx)(es:List Expr)(t:TA):Prop:=
 ∀ (pos:Pos) (pins:List (Addr×Obj)) (s:Shared) (σ:St) (H:Hp) (Q:List V->Hp->Prop),Inv X pins σ H s->t σ H Q->wpAny (model X.prog X.w) X.A (spliced (backTo pos (starEach es X.env))) (AP X pins σ Q) X.xe s
def PS (X:Cx)(st:Stmt)(t:TS):Prop:=
 ∀ (pins:List (Addr×Obj)) (s:Shared) (σ:St) (H:Hp) (D:Ends),Inv X pins σ H s->t D σ H->wpAny (model X.prog X.w) X.A (exec st X.env) (SP X pins D) X.xe s
def PSs (X:Cx)(st:List Stmt)(t:TS):Prop:=
 ∀ (pins:List (Addr×Obj)) (s:Shared) (σ:St) (H:Hp) (D:Ends),Inv X pins σ H s->t D σ H->wpAny (model X.prog X.w) X.A (execs st X.env) (SP X pins D) X.xe s
theorem thn {α:Type}{t:Sem α}{Q Q' : α->Shared->Prop}{M:Model}{A:Around}{E:Value->Shared->Prop}{s:Shared}(h:wpAny M A t Q E s)(hQ:∀ a s,Q a s->Q' a s):wpAny M A t Q' E s:=wpAny_mono h hQ λ_ _ x=>x
section
variable {X:Cx}
theorem bin {a b:Expr}{ta tb:TE}(ha:PE X a ta)(hb:PE X b tb){pins:List (Addr×Obj)}{s:Shared}{σ:St}{H:Hp}{R:V->V->Hp->Prop}(I:Inv X pins σ H s)(h:ta σ H λx H1=>tb σ H1 λy H2=>R x y H2)
  {α:Type}{Q : α->Shared->Prop}{f:Value->Value->Sem α}
  (hf:∀ v u s2 x y H2,Inv X pins σ H2 s2->RelV x v->RelV y u->R x y H2->wpAny (model X.prog X.w) X.A (f v u) Q X.xe s2) :
  wpAny (model X.prog X.w) X.A (eval a X.env) (λv s₁=>wpAny (model X.prog X.w) X.A (eval b X.env) (λu s₂=>wpAny (model X.prog X.w) X.A (f v u) Q X.xe s₂) X.xe s₁) X.xe s:=by
 refine thn (ha pins s σ H _ I h) λv s1 ⟨x,H1,I1,r1,q1⟩=>?_
 refine thn (hb pins s1 σ H1 _ I1 q1) λu s2 ⟨y,H2,I2,r2,q2⟩=>?_
 exact hf v u s2 x y H2 I2 r1 r2 q2
def Cn (i:Nat):TE:=λσ H Q => ∃ v,σ[i]?=some (some v)/\Q v H
def tC (v:V):TE:=λ_ H Q=>Q v H
theorem wj {i:Nat}{x:Str}{pos:Pos}(hN:X.N[i]?=some x)(hv:Vis X.env.scope x)(hd:(x==("__debug__":Str))=false:=by decide)(hcd:(x==("__classdict__":Str))=false:=by decide):PE X (.Name x pos) (Cn i):=by
 intro pins s σ H Q I h
 obtain⟨v,e,h⟩:=h
 obtain⟨m,hn,hl⟩:=I.loc
 obtain⟨u,r,l⟩:=hl i x v hN e hv
 have fin:EP X pins σ Q u s:=⟨v,H,I,r,h⟩
 rcases l with ⟨hk,hm⟩ |⟨hk,c,hc,hcell⟩
 ·exact wpAny_Name (wpAny_loadName_local I.ok.kind hk hn hm fin) hd
 ·rcases hk with hk |hk
  ·exact wpAny_Name (wpAny_loadName_cell I.ok.kind hk hc hcell fin) hd
  ·exact wpAny_Name (wpAny_loadName_free I.ok.kind hk hc hcell fin hcd) hd
theorem pe_int {i j pos}:PE X (.Constant (.int i) j pos) (tC (.int i)):=λ_ _ _ H _ I h=>wpAny_Constant_int ⟨.int i,H,I.tok _,⟨_,rfl⟩,h⟩
theorem pe_bl {b j pos}:PE X (.Constant (.bool b) j pos) (tC (.bl b)):=λ_ _ _ H _ I h=>Constant_bool ⟨.bl b,H,I,rfl,h⟩
theorem pe_non {j pos}:PE X (.Constant .none j pos) (tC .non):=λ_ _ _ H _ I h=>Constant_none ⟨.non,H,I,rfl,h⟩
theorem pe_str {x j pos}:PE X (.Constant (.str x) j pos) (tC (.str x)):=λ_ _ _ H _ I h=>Calls.Constant_str ⟨.str x,H,I.tok _,⟨_,rfl⟩,h⟩
def Gl (X:Cx)(x:Str):Prop:=X.env.kindOf x=some .globalImplicit
theorem gP {E:Value->Shared->Prop}{pins:List (Addr×Obj)}{s:Shared}{σ:St}{H:Hp}{x:Str}{u:Value}{pos:Pos}{Q:Value->Shared->Prop}(I:Inv X pins σ H s)(hg:Gl X x)(hm:X.mg x=some u)(h:Q u s)
  (hd:(x==("__debug__":Str))=false:=by decide):wpAny (model X.prog X.w) X.A (eval (.Name x pos) X.env) Q E s:=
 Calls.Name_function_global I.ok.kind hg (Calls.loadGlobal_global (by rw[I.ok.glob];exact I.mod.glob.keeps I.bk) hm h) hd
theorem lN {E:Value->Shared->Prop}{pins:List (Addr×Obj)}{s:Shared}{σ:St}{H:Hp}{x:Str}{u:Value}{pos:Pos}{Q:Value->Shared->Prop}(I:Inv X pins σ H s)(hg:Gl X x)(hm:X.mg x=none)(hv:bootBuiltins x=some u)(h:Q u s)
  (hn:x≠"__name__":=by decide) (hd:(x==("__debug__":Str))=false:=by decide):wpAny (model X.prog X.w) X.A (eval (.Name x pos) X.env) Q E s:=by
 obtain⟨mb,h1,h2⟩:=I.mod.blt
 exact Calls.Name_function_global I.ok.kind hg (Calls.loadGlobal_builtin (by rw[I.ok.glob];exact I.mod.glob.keeps I.bk) hm (by rw[I.ok.blt];exact h1.keeps I.bk) ((h2 x hn).trans hv) h) hd
theorem tz {x:Str}{v:V}{u:Value}{pos:Pos}(hg:Gl X x)(hm:X.mg x=some u)(r:RelV v u)(hd:(x==("__debug__":Str))=false:=by decide):PE X (.Name x pos) (tC v):=
 λ_ _ _ H _ I h=>gP I hg hm ⟨v,H,I,r,h⟩ hd
theorem tF {x:Str}{v:V}{u:Value}{pos:Pos}(hg:Gl X x)(hm:X.mg x=none)(hv:bootBuiltins x=some u)(r:RelV v u)(hn:x≠"__name__":=by decide)(hd:(x==("__debug__":Str))=false:=by decide):PE X (.Name x pos) (tC v):=
 λ_ _ _ H _ I h=>lN I hg hm hv ⟨v,H,I,r,h⟩ hn hd
variable {a b:Expr}{ta tb:TE}{pos:Pos}
def PC (X:Cx)(op:CmpOp)(a b:Expr)(t:TE):Prop:=
 ∀ (pins:List (Addr×Obj)) (s:Shared) (σ:St) (H:Hp) (Q:VK),Inv X pins σ H s->t σ H Q ->
  wpAny (model X.prog X.w) X.A (eval a X.env) (λv s₁=>wpAny (model X.prog X.w) X.A (eval b X.env) (λu s₂=>wpAny (model X.prog X.w) X.A (compareOp op v u) (EP X pins σ Q) X.xe s₂) X.xe s₁) X.xe s
theorem pW (b:Expr){op:CmpOp}(h:op≠.In)(h2:op≠.NotIn):behindInMarks op b=false:=by
 have e1:(op==CmpOp.In)=false:=by cases op<;>first |rfl |exact absurd rfl h
 have e2:(op==CmpOp.NotIn)=false:=by cases op<;>first |rfl |exact absurd rfl h2
 cases b<;>simp[behindInMarks,e1,e2]
def tB (t:TE):TT:=λσ H Q=>t σ H λx H1 => ∃ c,x = .bl c/\Q c H1
theorem Au {op:CmpOp}{t:TE}(h:PC X op a b t)(h1:behindInMarks op b=false:=by first |exact pW _ (by decide) (by decide) |rfl):PE X (.Compare a [op] [b] pos) t:=λpins s σ H Q I hw=>wpAny_Compare1 (h pins s σ H Q I hw) h1
theorem v9 {op:CmpOp}{t:TE}(h:PC X op a b t)(h1:behindInMarks op b=false:=by first |exact pW _ (by decide) (by decide) |rfl):PT X (.Compare a [op] [b] pos) (tB t):=by
 intro pins s σ H Q I hw
 refine wpAny_isTrue_Compare1 (thn (h pins s σ H _ I hw) λv s1 h1=>thn h1 λu s2 h2=>thn h2 λc s3 ⟨x,H1,I1,r1,q1⟩=>?_) h1
 obtain⟨d,rfl,q⟩:=q1
 cases r1
 exact wpAny_truthy_bool ⟨H1,I1,q⟩
theorem Ag {e:Expr}{t:TE}(h:PE X e t)(he:∀ whole,isTrue e X.env whole=(do let v ← whole;standAt e.pos;holding [v] (truthy v)):=by intro _;rfl):PT X e (tB t):=by
 intro pins s σ H Q I hw
 refine isTrue_plain (thn (h pins s σ H _ I hw) λv s1 ⟨x,H1,I1,r1,q1⟩=>?_) (he _)
 obtain⟨d,rfl,q⟩:=q1
 cases r1
 exact wpAny_truthy_bool ⟨H1,I1,q⟩
variable {tA tB':TT}{rest:List Expr}
def Cy (t u:TT):TT:=λσ H Q=>t σ H λc H1=>if c=true then u σ H1 Q else Q false H1
def tOr (t u:TT):TT:=λσ H Q=>t σ H λc H1=>if c=true then Q true H1 else u σ H1 Q
def Cr (t:TT):TT:=λσ H Q=>t σ H λc H1=>Q (!c) H1
theorem yt (ha:PT X a tA):PW X (.BoolOp .And [a] pos) tA:=by
 intro wh pins s σ H Q I h
 refine isTrue_and (thn (ha pins s σ H Q I h) λc s1 e=>?_)
 cases c with
 |true=>exact isTrue_and_nil e
 |false=>exact e
theorem Ad (ha:PT X a tA):PW X (.BoolOp .Or [a] pos) tA:=by
 intro wh pins s σ H Q I h
 refine isTrue_or (thn (ha pins s σ H Q I h) λc s1 e=>?_)
 cases c with
 |false=>exact isTrue_or_nil e
 |true=>exact e
theorem Ae (ha:PT X a tA)(hb:PW X (.BoolOp .And (b::rest) pos) tB'):PW X (.BoolOp .And (a::b::rest) pos) (Cy tA tB'):=by
 intro wh pins s σ H Q I h
 refine isTrue_and (thn (ha pins s σ H _ I h) λc s1 ⟨H1,I1,q1⟩=>?_)
 cases c with
 |true=>exact hb wh pins s1 σ H1 Q I1 q1
 |false=>exact⟨H1,I1,q1⟩
theorem Bv (ha:PT X a tA)(hb:PW X (.BoolOp .Or (b::rest) pos) tB'):PW X (.BoolOp .Or (a::b::rest) pos) (tOr tA tB'):=by
 intro wh pins s σ H Q I h
 refine isTrue_or (thn (ha pins s σ H _ I h) λc s1 ⟨H1,I1,q1⟩=>?_)
 cases c with
 |true=>exact⟨H1,I1,q1⟩
 |false=>exact hb wh pins s1 σ H1 Q I1 q1
theorem Ah (ha:PT X a tA):PT X (.UnaryOp .Not a pos) (Cr tA):=by
 intro pins s σ H Q I h
 exact isTrue_not (ha pins s σ H (λc H1=>Q (!c) H1) I h)
def Bo (ta tb:TE):TE:=λσ H Q=>ta σ H λx H1 => ∃ c,x = .bl c/\if c=true then tb σ H1 Q else Q (.bl false) H1
def Cq (ta tb:TE):TE:=λσ H Q=>ta σ H λx H1 => ∃ c,x = .bl c/\if c=true then Q (.bl true) H1 else tb σ H1 Q
def Bi (ta:TE):TE:=λσ H Q=>ta σ H λx H1 => ∃ c,x = .bl c/\Q (.bl (!c)) H1
theorem Aq {op}{t:TE}(h:PE X a t):PE X (.BoolOp op [a] pos) t:=λpins s σ H Q I hw=>BoolOp_one (h pins s σ H Q I hw)
theorem Av (ha:PE X a ta)(hb:PE X (.BoolOp .And (b::rest) pos) tb):PE X (.BoolOp .And (a::b::rest) pos) (Bo ta tb):=by
 intro pins s σ H Q I h
 refine BoolOp_and (thn (ha pins s σ H _ I h) λv s1 ⟨x,H1,I1,r1,q1⟩=>?_)
 obtain⟨c,rfl,q1⟩:=q1
 cases r1
 refine wpAny_truthy_bool ?_
 cases c with
 |true=>exact hb pins s1 σ H1 Q I1 q1
 |false=>exact⟨.bl false,H1,I1,rfl,q1⟩
theorem By (ha:PE X a ta)(hb:PE X (.BoolOp .Or (b::rest) pos) tb):PE X (.BoolOp .Or (a::b::rest) pos) (Cq ta tb):=by
 intro pins s σ H Q I h
 refine BoolOp_or (thn (ha pins s σ H _ I h) λv s1 ⟨x,H1,I1,r1,q1⟩=>?_)
 obtain⟨c,rfl,q1⟩:=q1
 cases r1
 refine wpAny_truthy_bool ?_
 cases c with
 |false=>exact hb pins s1 σ H1 Q I1 q1
 |true=>exact⟨.bl true,H1,I1,rfl,q1⟩
theorem Ar (ha:PE X a ta):PE X (.UnaryOp .Not a pos) (Bi ta):=by
 intro pins s σ H Q I h
 refine UnaryOp_ (thn (ha pins s σ H _ I h) λv s1 ⟨x,H1,I1,r1,q1⟩=>?_)
 obtain⟨c,rfl,q1⟩:=q1
 cases r1
 exact not_of (wpAny_truthy_bool ⟨.bl (!c),H1,I1,rfl,q1⟩)
end
def SqL (K:PySem.W.Frag)(H:Hp)(a:Addr)(xs:List V):Prop:=
 Rd H a (.lst xs) ∨
  ∃ (o:Obj) (its:Array Value) (n:Nat),K.lookup a=some o/\o.cls = .type "list"/\o.dict=none/\o.data = .seq its n/\its.size<=sizeLine/\Vals xs its.toList
def SqT (K:PySem.W.Frag)(H:Hp)(a:Addr)(xs:List V):Prop:=
 Rd H a (.tup xs) ∨
  ∃ (o:Obj) (its:Array Value) (n:Nat),K.lookup a=some o/\o.cls = .type "tuple"/\o.data = .seq its n/\its.size<=sizeLine/\Vals xs its.toList
noncomputable def Da:Value->Option V
 | .none=>some .non
 | .bool b=>some (.bl b)
 | .int i _=>some (.int i)
 | .str x _=>some (.str x)
 | .bytes b _=>some (.byt b)
 | .float b _=>some (.flt b)
 | .ref a=>some (.ref a)
 | .type n=>some (.ty n)
 |_=>none
theorem RelV.abs {x:V}{u:Value}(r:RelV x u):Da u=some x:=by
 cases x with
 |non=>cases r;rfl
 |bl _=>cases r;rfl
 |int _=>obtain⟨t,rfl⟩:=r;rfl
 |str _=>obtain⟨t,rfl⟩:=r;rfl
 |byt _=>obtain⟨t,rfl⟩:=r;rfl
 |flt _=>obtain⟨t,rfl⟩:=r;rfl
 |ref _=>cases r;rfl
 |ty _=>cases r;rfl
theorem RelV.inj {x y:V}{u:Value}(r:RelV x u)(q:RelV y u):x=y:=Option.some.inj (r.abs.symm.trans q.abs)
theorem Vals.inj:∀ {xs ys:List V}{us:List Value},Vals xs us->Vals ys us->xs=ys
 |_,_,_,.nil,.nil=>rfl
 |_,_,_,.cons r t,.cons r' t'=>by rw[r.inj r',Vals.inj t t']
section
variable {X:Cx}{pins:List (Addr×Obj)}{σ:St}{H:Hp}{s:Shared}{a:Addr}{xs ys:List V}
theorem Inv.list (I:Inv X pins σ H s)(h:SqL X.K H a xs):∃ its:List Value,Vals xs its/\PlainL s.heap a its.toArray/\xs.length<=sizeLine:=by
 rcases h with h |⟨o,its,n,hk,hc,hd,hs,hz,r⟩
 ·obtain⟨z,its,n,r,e⟩:=h.ok I.hok
  exact⟨its,r,⟨_,n,e,rfl,rfl,rfl⟩,z⟩
 ·refine⟨its.toList,r,⟨o,n,I.kIn a o hk,hc,hd,by simpa using hs⟩,?_⟩
  have e:=r.length
  simp only[Array.length_toList] at e
  omega
theorem Inv.tuple (I:Inv X pins σ H s)(h:SqT X.K H a xs):∃ its:List Value,Vals xs its/\IsTup s.heap a its.toArray/\xs.length<=sizeLine:=by
 rcases h with h |⟨o,its,n,hk,hc,hs,hz,r⟩
 ·obtain⟨z,its,r,p⟩:=h.ok I.hok
  exact⟨its,r,p.tup,z⟩
 ·refine⟨its.toList,r,⟨o,I.kIn a o hk,hc,n,by simpa using hs⟩,?_⟩
  have e:=r.length
  simp only[Array.length_toList] at e
  omega
theorem Inv.list_inj (I:Inv X pins σ H s)(h:SqL X.K H a xs)(h':SqL X.K H a ys):xs=ys:=by
 obtain⟨its,r,⟨o,n,e,_,_,d⟩,_⟩:=I.list h
 obtain⟨its',r',⟨o',n',e',_,_,d'⟩,_⟩:=I.list h'
 rw[e] at e';cases e'
 rw[d] at d'
 injection d' with d1 _
 have:its=its':=by simpa using congrArg Array.toList d1
 subst this
 exact r.inj r'
theorem Inv.tuple_inj (I:Inv X pins σ H s)(h:SqT X.K H a xs)(h':SqT X.K H a ys):xs=ys:=by
 obtain⟨its,r,⟨o,e,_,n,d⟩,_⟩:=I.tuple h
 obtain⟨its',r',⟨o',e',_,n',d'⟩,_⟩:=I.tuple h'
 rw[e] at e';cases e'
 rw[d] at d'
 injection d' with d1 _
 have:its=its':=by simpa using congrArg Array.toList d1
 subst this
 exact r.inj r'
end
noncomputable abbrev Cx.wish (X:Cx)(E:Value->Shared->Prop):Cx:={ X with xe:=E }
noncomputable abbrev Cx.nox (X:Cx):Cx:=X.wish λ_ _=>False
theorem Cx.Ok.wish {X:Cx}(ok:X.Ok)(E:Value->Shared->Prop):(X.wish E).Ok:=
 ⟨ok.mod,ok.kind,ok.glob,ok.blt,ok.above,ok.inj,ok.has,ok.cab,ok.hd,ok.frames,ok.stk,ok.exf,ok.bs,ok.bsz,ok.noex,ok.exfs,ok.funs,ok.frf⟩
theorem Cx.Ok.unwish {X:Cx}{E:Value->Shared->Prop}(ok:(X.wish E).Ok):X.Ok:=
 ⟨ok.mod,ok.kind,ok.glob,ok.blt,ok.above,ok.inj,ok.has,ok.cab,ok.hd,ok.frames,ok.stk,ok.exf,ok.bs,ok.bsz,ok.noex,ok.exfs,ok.funs,ok.frf⟩
section
variable {X:Cx}{pins:List (Addr×Obj)}{σ:St}{H:Hp}{s:Shared}{E:Value->Shared->Prop}
theorem Inv.wish (I:Inv X pins σ H s)(E:Value->Shared->Prop):Inv (X.wish E) pins σ H s:=⟨I.ok.wish E,I.os,I.bare,I.base,I.loc,I.cell,I.free,I.freeC,I.pin,I.hok,I.len⟩
theorem Inv.unwish (I:Inv (X.wish E) pins σ H s):Inv X pins σ H s:=⟨I.ok.unwish,I.os,I.bare,I.base,I.loc,I.cell,I.free,I.freeC,I.pin,I.hok,I.len⟩
theorem SP.unwish {D:Ends}{f:Flow}{s':Shared}(h:SP (X.wish E) pins D f s'):SP X pins D f s':=by
 cases f with
 |next=>obtain⟨σ',H',I,q⟩:=h;exact⟨σ',H',I.unwish,q⟩
 |brk=>obtain⟨σ',H',I,q⟩:=h;exact⟨σ',H',I.unwish,q⟩
 |cont=>obtain⟨σ',H',I,q⟩:=h;exact⟨σ',H',I.unwish,q⟩
 |ret u=>obtain⟨v,σ',H',I,r,q⟩:=h;exact⟨v,σ',H',I.unwish,r,q⟩
theorem PSs.nox {st:List Stmt}{t:TS}(h:PSs X.nox st t):PSs X st t:=λpins s σ H D I hw =>
 wpAny_mono (h pins s σ H D (I.wish _) hw) (λ_ _ q=>q.unwish) λ_ _ z=>False.elim z
end
section
variable {X:Cx}{st:Stmt}{rest:List Stmt}{t u:TS}{e:Expr}{te:TE}{pos:Pos}
def Bj:TS:=λD σ H=>D.nx σ H
def Bg (t u:TS):TS:=λD σ H=>t { D with nx:=u D } σ H
theorem pss_nil:PSs X [] Bj:=λ_ _ σ H _ I h=>wpAny_execs_nil ⟨σ,H,I,h⟩
theorem wa (h1:PS X st t)(h2:PSs X rest u):PSs X (st::rest) (Bg t u):=by
 intro pins s σ H D I h
 refine wpAny_execs_cons (thn (h1 pins s σ H { D with nx:=u D } I h) λf s1 q=>?_)
 cases f with
 |next =>
  obtain⟨σ',H',I',q⟩:=q
  exact h2 pins s1 σ' H' D I' q
 |ret v=>exact q
 |brk=>exact q
 |cont=>exact q
theorem yw (h1:PS X st t):PSs X [st] t:=by
 intro pins s σ H D I h
 refine wpAny_execs_cons (thn (h1 pins s σ H D I h) λf s1 q=>?_)
 cases f with
 |next=>exact wpAny_execs_nil q
 |ret v=>exact q
 |brk=>exact q
 |cont=>exact q
theorem Inv.quiet {pins:List (Addr×Obj)}{σ:St}{H:Hp}{s:Shared}(I:Inv X pins σ H s):interactive X.env=false:=by simp[interactive,I.ok.kind]
def Bl (te:TE):TS:=λD σ H=>te σ H λ_ H1=>D.nx σ H1
theorem yx (he:PE X e te)(hs:swapsWith e none pos.line X.env=pure false:=by rfl):PS X (.Expr e pos) (Bl te):=by
 intro pins s σ H D I h
 exact wpAny_Expr_any (thn (he pins s σ H _ I h) λv s1 ⟨x,H1,I1,r1,q1⟩=>⟨σ,H1,I1,q1⟩) I.quiet hs
def Cp (te:TE):TS:=λD σ H=>te σ H D.rt
theorem Aj (he:PE X e te):PS X (.Return (some e) pos) (Cp te):=by
 intro pins s σ H D I h
 exact wpAny_Return_some (thn (he pins s σ H _ I h) λv s1 ⟨x,H1,I1,r1,q1⟩=>⟨x,σ,H1,I1,r1,q1⟩)
def Ct (c:TT)(t u:TS):TS:=λD σ H=>c σ H λb H1=>if b=true then t D σ H1 else u D σ H1
theorem Bw {c:Expr}{a b:List Stmt}{tc:TT}(hc:PT X c tc)(ha:PSs X a t)(hb:PSs X b u):PS X (.If c a b pos) (Ct tc t u):=by
 intro pins s σ H D I h
 refine wpAny_If (thn (hc pins s σ H _ I h) λd s1 ⟨H1,I1,q1⟩=>?_)
 cases d with
 |true=>exact ha pins s1 σ H1 D I1 q1
 |false=>exact hb pins s1 σ H1 D I1 q1
end
abbrev TG:=V->St->Hp->(St->Hp->Prop)->Prop
abbrev TGs:=List V->St->Hp->(St->Hp->Prop)->Prop
def PG (X:Cx)(target:Expr)(t:TG):Prop:=
 ∀ (pins:List (Addr×Obj)) (s:Shared) (σ:St) (H:Hp) (v:V) (u:Value) (Q:St->Hp->Prop),Inv X pins σ H s->RelV v u->t v σ H Q ->
  wpAny (model X.prog X.w) X.A (assign target X.env u) (λ_ s' => ∃ σ' H',Inv X pins σ' H' s'/\Q σ' H') X.xe s
def PGs (X:Cx)(ts:List Expr)(t:TGs):Prop:=
 ∀ (pins:List (Addr×Obj)) (s:Shared) (σ:St) (H:Hp) (vs:List V) (us:List Value) (Q:St->Hp->Prop),Inv X pins σ H s->Vals vs us->t vs σ H Q ->
  wpAny (model X.prog X.w) X.A (assignInOrder ((assignEach ts X.env).map (·.2)) us) (λ_ s' => ∃ σ' H',Inv X pins σ' H' s'/\Q σ' H') X.xe s
section
variable {X:Cx}{pos:Pos}
def zM (i:Nat):TG:=λv σ H Q=>Q (σ.set i (some v)) H
theorem yC {i:Nat}{x:Str}(hN:X.N.Nodup)(hi:X.N[i]?=some x)(hx:Loc X.env.scope x)(hf:X.fn x=true∨X.env.scope.names.lookup x=some .local:=by first |exact .inl rfl |exact .inr rfl |assumption):PG X (.Name x pos) (zM i):=by
 intro pins s σ H v u Q I r h
 exact wpAny_assign_Name (lb I hN hi hx r (λs' I'=>⟨_,H,I',h⟩) hf)
def CP:TGs:=λvs σ H Q=>vs=[]/\Q σ H
def BP (t:TG)(u:TGs):TGs:=λvs σ H Q => ∃ v r,vs=v::r/\t v σ H λσ' H'=>u r σ' H' Q
theorem pgs_nil:PGs X [] CP:=by
 intro pins s σ H vs us Q I r h
 obtain⟨e,h⟩:=h
 subst e
 cases r
 exact assignInOrder_nil ⟨σ,H,I,h⟩
theorem wg {e:Expr}{es:List Expr}{t:TG}{u:TGs}(h1:PG X e t)(h2:PGs X es u)
  (hs:(assignEach (e::es) X.env).map (·.2)=assign e X.env::(assignEach es X.env).map (·.2):=by rfl):PGs X (e::es) (BP t u):=by
 intro pins s σ H vs us Q I r h
 obtain⟨v,vr,e1,h⟩:=h
 subst e1
 cases r with
 |cons r rr =>
  rw[hs]
  refine assignInOrder_cons (thn (h1 pins s σ H _ _ _ I r h) λ_ s1 ⟨σ1,H1,I1,q1⟩=>?_)
  exact h2 pins s1 σ1 H1 _ _ Q I1 rr q1
def CO (K:PySem.W.Frag)(n:Nat)(t:TGs):TG:=λv σ H Q => ∃ a xs,v = .ref a/\SqT K H a xs/\xs.length=n/\t xs σ H Q
theorem Ao {es:List Expr}{k:Nat}{t:TGs}{n:Nat}(hc:X.calm=true)(h:PGs X es t)
  (hn:(assignEach es X.env).length=n:=by rfl) (hst:(assignEach es X.env).findIdx? (·.1)=none:=by rfl):PG X (.Tuple es k pos) (CO X.K n t):=by
 intro pins s σ H v u Q I r hw
 obtain⟨a,xs,e1,hq,hl,hw⟩:=hw
 subst e1
 cases r
 obtain⟨its,rv,ht,hz⟩:=I.tuple hq
 refine assign_Tuple_tuple (I.ok.hd hc) ht (by simp[hn,← hl,rv.length]) hst λh' hx=>?_
 have I1:Inv X pins σ H { s with heap:=h' }:=I.kept (t':=s.toks) λb o e=>hx b o (Nat.ne_of_lt (Heap.lt_size e)) e
 exact h pins _ σ H xs _ Q I1 (by simpa using rv) hw
def Cw (te:TE)(g:TG):TS:=λD σ H=>te σ H λx H1=>g x σ H1 D.nx
theorem Ai {i:Nat}{x:Str}{e:Expr}{te:TE}{pos':Pos}(hN:X.N.Nodup)(hi:X.N[i]?=some x)(hx:Loc X.env.scope x)(he:PE X e te)(hs:swapsWith e (some (.Name x pos')) pos.line X.env=pure false:=by rfl)(hf:X.fn x=true∨X.env.scope.names.lookup x=some .local:=by first |exact .inl rfl |exact .inr rfl |assumption) :
  PS X (.Assign [.Name x pos'] e pos) (Cw te (zM i)):=by
 intro pins s σ H D I h
 refine wpAny_Assign_Name (thn (he pins s σ H _ I h) λv s1 ⟨y,H1,I1,r1,q1⟩=>?_) hs
 exact lb I1 hN hi hx r1 (λs2 I2=>⟨_,H1,I2,q1⟩) hf
end
section
variable {X:Cx}{pos:Pos}
def vF (c:TT)(tb:TS):TS:=λD σ H => ∃ W:Nat->St->Hp->Prop,(∃ m,W m σ H)/\∀ m σ H,W m σ H ->
 c σ H λb H1=>if b=true then ∃ N:St->Hp->Prop,(∀ σ' H',N σ' H'->∃ m',m'<m/\W m' σ' H')/\tb { D with nx:=N,ct:=N,bk:=D.nx } σ H1 else D.nx σ H1
theorem wb {c:Expr}{body:List Stmt}{tc:TT}{tb:TS}(hp:PassesOwn (model X.prog X.w) X.A X.env X.xe)(hc:PT X c tc)(hb:PSs X body tb):PS X (.While c body [] pos) (vF tc tb):=by
 intro pins s σ H D I h
 obtain⟨W,⟨m0,w0⟩,turn⟩:=h
 refine wpAny_While (codeAny_whileLoop (λn s' => ∃ σ' H',Inv X pins σ' H' s'/\W n σ' H') ?_ m0 ⟨σ,H,I,w0⟩)
 rintro n s1 ⟨σ1,H1,I1,w1⟩
 refine wpAny_passesOwn hp (thn (hc pins s1 σ1 H1 _ I1 (turn n σ1 H1 w1)) λb s2 ⟨H2,I2,q2⟩=>?_)
 cases b with
 |true =>
  obtain⟨N,hN,q2⟩:=q2
  rw[if_pos rfl]
  refine wpAny_passesOwn hp (thn (hb pins s2 σ1 H2 _ I2 q2) λf s3 q3=>?_)
  cases f with
  |next =>
   obtain⟨σ3,H3,I3,n3⟩:=q3
   obtain⟨m',hm,w3⟩:=hN σ3 H3 n3
   exact⟨m',hm,σ3,H3,I3,w3⟩
  |cont =>
   obtain⟨σ3,H3,I3,n3⟩:=q3
   obtain⟨m',hm,w3⟩:=hN σ3 H3 n3
   exact⟨m',hm,σ3,H3,I3,w3⟩
  |brk=>exact q3
  |ret v=>exact q3
 |false =>
  rw[if_neg Bool.false_ne_true]
  exact wpAny_execs_nil ⟨σ1,H2,I2,q2⟩
end
structure It where
 go:Nat->Hp->Prop
 yld:Nat->Hp->V->Hp->Prop
 stop:Nat->Hp->Prop
def gD (X:Cx)(pins:List (Addr×Obj))(H:Hp)(b:Addr):Prop:=
 H b=none/\b≠X.env.locals/\b∉X.fs/\(b∈X.ex∨X.s₀.heap.objs.size<=b)/\(∀ x c,X.env.cells.lookup x=some c->c≠b)/\∀ p∈X.pn++pins,p.1≠b
theorem Inv.fpOk {X:Cx}{pins:List (Addr×Obj)}{σ:St}{H H':Hp}{s:Shared}{b:Addr}(I:Inv X pins σ H s)(hb:s.heap.objs.size<=b)(hn:H' b=none):gD X pins H' b:=by
 refine⟨hn,Nat.ne_of_gt (Nat.lt_of_lt_of_le I.lt hb),I.nofs hb,.inr (Nat.le_trans I.sz hb),λx c e z=>?_,λp hp z=>?_⟩
 ·obtain⟨v,q⟩:=I.cell x c e
  exact absurd (Nat.lt_of_lt_of_le q.lt (by rw[z];exact hb)) (Nat.lt_irrefl _)
 ·exact absurd (Nat.lt_of_lt_of_le (Heap.lt_size (I.pin p hp).1) (by rw[z];exact hb)) (Nat.lt_irrefl _)
structure Turn (P:Program) (w:World) (K:PySem.W.Frag) (tg:Expr) (J:It) (fp:List Addr) (it:Addr) (tn:Nat->Heap->Prop):Prop where
 mem:it∈fp
 obj:∀ i h,tn i h->∀ b∈fp,∃ o,h.get? b=some o/\∀ v,o.data≠.cell v
 keep:∀ i h h',tn i h->(∀ b∈fp,∀ o,h.get? b=some o->h'.get? b=some o)->tn i h'
 item:∀ (X:Cx),X.prog=P->X.w=w->X.K=K->X.calm=true->∀ (i:Nat) (pins:List (Addr×Obj)) (s:Shared) (σ:St) (H:Hp) (E:Value->Shared->Prop),Inv X pins σ H s->(∀ b∈fp,gD X pins H b)->tn i s.heap->J.go i H ->
  wpAny (model P w) X.A (pyNext (.ref it)) (λr s1 => ∃ u,r=some u /\
   wpAny (model P w) X.A (letOwnedTupleGo tg (.ref it) u) (λ_ s2 => ∃ x H',Inv X pins σ H' s2/\RelV x u/\J.yld i H x H'/\tn (i+1) s2.heap/\∀ b∈fp,H' b=none) E s1) E s
 done:∀ (X:Cx),X.prog=P->X.w=w->X.K=K->X.calm=true->∀ (i:Nat) (pins:List (Addr×Obj)) (s:Shared) (σ:St) (H:Hp) (E:Value->Shared->Prop),Inv X pins σ H s->(∀ b∈fp,gD X pins H b)->tn i s.heap->J.stop i H ->
  wpAny (model P w) X.A (pyNext (.ref it)) (λr s1=>r=none/\Inv X pins σ H s1) E s
 self:∀ (A:Around) (i:Nat) (s:Shared) (Q:Value->Shared->Prop) (E:Value->Shared->Prop),tn i s.heap->Q (.ref it) s->wpAny (model P w) A (pyIter (.ref it)) Q E s
abbrev TI:=St->Hp->(It->Hp->Prop)->Prop
def PIE (X:Cx)(pins:List (Addr×Obj))(σ:St)(tg:Expr)(R:It->Hp->Prop)(itv:Value)(s2:Shared):Prop:=
 ∃ (it:Addr) (fp:List Addr) (tn:Nat->Heap->Prop) (J:It) (H':Hp),itv = .ref it/\Inv X pins σ H' s2/\Turn X.prog X.w X.K tg J fp it tn/\tn 0 s2.heap/\(∀ b∈fp,gD X pins H' b)/\R J H'
def PI (X:Cx)(tg iter:Expr)(wi:TI):Prop:=
 ∀ (pins:List (Addr×Obj)) (s:Shared) (σ:St) (H:Hp) (R:It->Hp->Prop),Inv X pins σ H s->wi σ H R ->
  wpAny (model X.prog X.w) X.A (eval iter X.env) (λv s1=>wpAny (model X.prog X.w) X.A (pyIter v) (PIE X pins σ tg R) X.xe s1) X.xe s
theorem tV {M:Model}{A:Around}{E:Value->Shared->Prop}{s:Shared}{tg:Expr}{it:Addr}{u:Value}{o:Obj}{n:String}{vs:Array Value}{Q:Unit->Shared->Prop}(ho:s.heap.get? it=some o)(hc:o.cls = .type n)(hd:o.data = .fields vs)
  (hn:["enumerate","zip","dict_itemiterator","dict_reverseitemiterator","odict_iterator","itertools.zip_longest","itertools.pairwise"].contains n=false) (hQ:Q () s):wpAny M A (letOwnedTupleGo tg (.ref it) u) Q E s:=by
 unfold letOwnedTupleGo
 cases tg<;>first
  |exact wpAny_pure hQ
  |(cases u<;>first
    |exact wpAny_pure hQ
    |(refine wpAny_bind (wpAny_load ho ?_)
      rw[hc,hd]
      show wpAny M A (if (["enumerate","zip","dict_itemiterator","dict_reverseitemiterator","odict_iterator","itertools.zip_longest","itertools.pairwise"].contains n&&vs[0]?==some (rawInt _))=true then _ else _) Q E s
      rw[if_neg (by intro h;rw[hn,Bool.false_and] at h;cases h)]
      exact wpAny_pure hQ))
noncomputable def Itl (K:PySem.W.Frag)(a:Addr):It:=
 ⟨λi H => ∃ xs x,SqL K H a xs/\xs[i]?=some x,λi H x H'=>H'=H/\∀ xs,SqL K H a xs->xs[i]?=some x,λi H => ∃ xs,SqL K H a xs/\xs.length<=i⟩
noncomputable def Itt (K:PySem.W.Frag)(a:Addr):It:=
 ⟨λi H => ∃ xs x,SqT K H a xs/\xs[i]?=some x,λi H x H'=>H'=H/\∀ xs,SqT K H a xs->xs[i]?=some x,λi H => ∃ xs,SqT K H a xs/\xs.length<=i⟩
noncomputable def Itr (lo:Int)(n:Nat):It:=⟨λi _=>i<n,λi H x H'=>H'=H/\x = .int (lo+i),λi _=>n<=i⟩
theorem uk {P:Program}{w:World}{K:PySem.W.Frag}{tg:Expr}(a it:Addr):Turn P w K tg (Itl K a) [it] it (λi h=>h.IsListIter it a i) where
 mem:=by simp
 obj:=λi h st b hb=>by
  have e:b=it:=by simpa using hb
  subst e
  obtain⟨o,e,c,d⟩:=st
  exact⟨o,e,λv z=>by rw[d] at z;cases z⟩
 keep:=λi h h' st k=>st.at λo e=>k it (by simp) o e
 item:=by
  intro X hP hw hK hc i pins s σ H E I hf st hg
  subst hP hw hK
  obtain⟨xs,x,hq,hx⟩:=hg
  obtain⟨its,rv,p,hz⟩:=I.list hq
  obtain⟨u,hu,ru⟩:=rv.get hx
  obtain⟨f0,f1,f2,f3,f4,f5⟩:=hf it (by simp)
  refine wpAny_pyNext_list_item st p.isList (x:=u) (by simpa using hu) λh' st' sb=>?_
  have I1:Inv X pins σ H { s with heap:=h' }:=I.turned (t':=s.toks) (λb o hb e=>(sb.2 b hb).trans e) f0 f1 f3 f4 f5
  obtain⟨o,e,c,d⟩:=id st'
  exact⟨u,rfl,tV (s:={ s with heap:=h' }) e c d (by decide) ⟨x,H,I1,ru,⟨rfl,λys hy=>by rw[I.list_inj hy hq];exact hx⟩,st',λb hb=>(hf b hb).1⟩⟩
 done:=by
  intro X hP hw hK hc i pins s σ H E I hf st hg
  subst hP hw hK
  obtain⟨xs,hq,hx⟩:=hg
  obtain⟨its,rv,p,hz⟩:=I.list hq
  obtain⟨f0,f1,f2,f3,f4,f5⟩:=hf it (by simp)
  have hl:=rv.length
  exact wpAny_pyNext_list_end (I.ok.hd hc) st p.isList (by simp;omega) λh' eb=>⟨rfl,I.turned (t':=s.toks) (λb o hb e=>eb b o hb e) f0 f1 f3 f4 f5⟩
 self:=λ_ _ _ _ _ st h=>wpAny_pyIter_listiter st h
theorem q_ {P:Program}{w:World}{K:PySem.W.Frag}{tg:Expr}(a it:Addr):Turn P w K tg (Itt K a) [it] it (λi h=>h.IsTupleIter it a i) where
 mem:=by simp
 obj:=λi h st b hb=>by
  have e:b=it:=by simpa using hb
  subst e
  obtain⟨o,e,c,d⟩:=st
  exact⟨o,e,λv z=>by rw[d] at z;cases z⟩
 keep:=λi h h' st k=>st.at λo e=>k it (by simp) o e
 item:=by
  intro X hP hw hK hc i pins s σ H E I hf st hg
  subst hP hw hK
  obtain⟨xs,x,hq,hx⟩:=hg
  obtain⟨its,rv,p,hz⟩:=I.tuple hq
  obtain⟨u,hu,ru⟩:=rv.get hx
  obtain⟨f0,f1,f2,f3,f4,f5⟩:=hf it (by simp)
  refine wpAny_pyNext_tuple_item st (show s.heap.IsTuple a its.toArray from p) (x:=u) (by simpa using hu) λh' st' sb=>?_
  have I1:Inv X pins σ H { s with heap:=h' }:=I.turned (t':=s.toks) (λb o hb e=>(sb.2 b hb).trans e) f0 f1 f3 f4 f5
  obtain⟨o,e,c,d⟩:=id st'
  exact⟨u,rfl,tV (s:={ s with heap:=h' }) e c d (by decide) ⟨x,H,I1,ru,⟨rfl,λys hy=>by rw[I.tuple_inj hy hq];exact hx⟩,st',λb hb=>(hf b hb).1⟩⟩
 done:=by
  intro X hP hw hK hc i pins s σ H E I hf st hg
  subst hP hw hK
  obtain⟨xs,hq,hx⟩:=hg
  obtain⟨its,rv,p,hz⟩:=I.tuple hq
  obtain⟨f0,f1,f2,f3,f4,f5⟩:=hf it (by simp)
  have hl:=rv.length
  exact wpAny_pyNext_tuple_end (I.ok.hd hc) st (show s.heap.IsTuple a its.toArray from p) (by simp;omega) λh' eb=>⟨rfl,I.turned (t':=s.toks) (λb o hb e=>eb b o hb e) f0 f1 f3 f4 f5⟩
 self:=λ_ _ _ _ _ st h=>wpAny_pyIter_tupleiter st h
theorem rc {P:Program}{w:World}{K:PySem.W.Frag}{tg:Expr}(it:Addr)(lo:Int)(n:Nat):Turn P w K tg (Itr lo n) [it] it (λi h=>IsRangeIter h it (lo+(i:Nat)*1) ((n:Int)-(i:Nat)) 1) where
 mem:=by simp
 obj:=λi h st b hb=>by
  have e:b=it:=by simpa using hb
  subst e
  exact⟨_,st,λv z=>by
   have z':Data.fields _=Data.cell v:=z
   cases z'⟩
 keep:=λi h h' st k=>k it (by simp) _ st
 item:=by
  intro X hP hw hK hc i pins s σ H E I hf st hg
  subst hP hw hK
  obtain⟨f0,f1,f2,f3,f4,f5⟩:=hf it (by simp)
  have W:=Walks.range (prog:=X.prog) (w:=X.w) (I.ok.hd hc) it lo 1 n
  refine W.item i s _ _ hg st λv h' tk hv st' kk=>?_
  obtain⟨t,rfl⟩:=hv
  have I1:Inv X pins σ H { s with heap:=h',toks:=tk }:=I.turned (λb o hb e=>kk b o (by simpa using hb) e) f0 f1 f3 f4 f5
  refine⟨_,rfl,tV (s:={ s with heap:=h',toks:=tk }) (n:="range_iterator") st' rfl rfl (by decide) ⟨.int (lo+i),H,I1,⟨t,?_⟩,⟨rfl,rfl⟩,st',λb hb=>(hf b hb).1⟩⟩
  rw[Int.mul_one]
 done:=by
  intro X hP hw hK hc i pins s σ H E I hf st hg
  subst hP hw hK
  obtain⟨f0,f1,f2,f3,f4,f5⟩:=hf it (by simp)
  exact wpAny_pyNext_range_end (I.ok.hd hc) st (by have:n<=i:=hg;omega) λh' eb=>⟨rfl,I.turned (t':=s.toks) (λb o hb e=>eb b o hb e) f0 f1 f3 f4 f5⟩
 self:=λ_ _ _ _ _ st h=>wpAny_pyIter_rangeiter st h
section
variable {X:Cx}{tg:Expr}
def BO (K:PySem.W.Frag)(tl:TE):TI:=λσ H R=>tl σ H λx H1 => ∃ a,x = .ref a/\(∃ xs,SqL K H1 a xs)/\R (Itl K a) H1
def CN (K:PySem.W.Frag)(tl:TE):TI:=λσ H R=>tl σ H λx H1 => ∃ a,x = .ref a/\(∃ xs,SqT K H1 a xs)/\R (Itt K a) H1
theorem yB {l:Expr}{tl:TE}(hl:PE X l tl):PI X tg l (BO X.K tl):=by
 intro pins s σ H R I h
 refine thn (hl pins s σ H _ I h) λv s1 ⟨x,H1,I1,r1,q1⟩=>?_
 obtain⟨a,e,⟨xs,hq⟩,q⟩:=q1
 subst e
 cases r1
 obtain⟨its,rv,p,hz⟩:=I1.list hq
 refine wpAny_pyIter_list p.isList ?_
 refine⟨s1.heap.objs.size,[s1.heap.objs.size],_,_,H1,rfl,I1.kept (t':=s1.toks) λb o e=>Heap.get?_push_of_some _ e,uk a _,⟨_,Heap.get?_push_size _ rfl,rfl,rfl⟩,λb hb=>?_,q⟩
 have e:b=s1.heap.objs.size:=by simpa using hb
 subst e
 exact I1.fpOk (Nat.le_refl _) (I1.hok.fresh (Nat.le_refl _))
theorem An {l:Expr}{tl:TE}(hl:PE X l tl):PI X tg l (CN X.K tl):=by
 intro pins s σ H R I h
 refine thn (hl pins s σ H _ I h) λv s1 ⟨x,H1,I1,r1,q1⟩=>?_
 obtain⟨a,e,⟨xs,hq⟩,q⟩:=q1
 subst e
 cases r1
 obtain⟨its,rv,p,hz⟩:=I1.tuple hq
 refine wpAny_pyIter_tuple (show s1.heap.IsTuple a its.toArray from p) ?_
 refine⟨s1.heap.objs.size,[s1.heap.objs.size],_,_,H1,rfl,I1.kept (t':=s1.toks) λb o e=>Heap.get?_push_of_some _ e,q_ a _,⟨_,Heap.get?_push_size _ rfl,rfl,rfl⟩,λb hb=>?_,q⟩
 have e:b=s1.heap.objs.size:=by simpa using hb
 subst e
 exact I1.fpOk (Nat.le_refl _) (I1.hok.fresh (Nat.le_refl _))
theorem v8 {pins:List (Addr×Obj)}{σ:St}{H:Hp}{s:Shared}{R:It->Hp->Prop}{E:Value->Shared->Prop}{lo hi:Int}{t u v:Tok}{tk:Nat}(I:Inv X pins σ H s)(h1 : -(2 ^ 62)<=lo)(h2:lo<2 ^ 62)(h3 : -(2 ^ 62)<=hi)(h4:hi<2 ^ 62)
  (q:R (Itr lo (hi-lo).toNat) H):wpAny (model X.prog X.w) X.A (pyIter (.ref s.heap.objs.size)) (PIE X pins σ tg R) E { s with heap:=s.heap.push { cls:=.type "range",data:=.fields #[.int lo t,.int hi u,.int 1 v] },toks:=tk }:=by
 refine wpAny_pyIter_range (IsRange.new ..) (small_one h1 h2 h3 h4) ?_
 have I1:Inv X pins σ H { s with heap:=s.heap.push { cls:=.type "range",data:=.fields #[.int lo t,.int hi u,.int 1 v] },toks:=tk }:=I.kept λb o e=>Heap.get?_push_of_some _ e
 refine⟨(s.heap.push { cls:=.type "range",data:=.fields #[.int lo t,.int hi u,.int 1 v] }).objs.size,[(s.heap.push { cls:=.type "range",data:=.fields #[.int lo t,.int hi u,.int 1 v] }).objs.size],_,_,H,rfl,
  I1.kept (t':=tk) λb o e=>Heap.get?_push_of_some _ e,rc _ lo (hi-lo).toNat,?_,λb hb=>?_,q⟩
 ·have e1:lo+((0:Nat):Int)*1=lo:=by simp
  have e2:(((hi-lo).toNat:Nat):Int)-((0:Nat):Int)=Builtin.Range.rangeSize lo hi 1:=by rw[rangeSize_one];split<;>omega
  show IsRangeIter _ _ (lo+((0:Nat):Int)*1) ((((hi-lo).toNat:Nat):Int)-((0:Nat):Int)) 1
  rw[e1,e2]
  exact Heap.get?_push_size _ rfl
 ·have e:b=(s.heap.push { cls:=.type "range",data:=.fields #[.int lo t,.int hi u,.int 1 v] }).objs.size:=by simpa using hb
  subst e
  exact I1.fpOk (Nat.le_refl _) (I1.hok.fresh (Nat.le_refl _))
def BN (ta:TA):TI:=λσ H R=>ta σ H λvs H1 => ∃ j:Int,vs=[.int j]/\-(2 ^ 62)<=j/\j<2 ^ 62/\R (Itr 0 j.toNat) H1
theorem uK {a:Expr}{ta:TA}{p pos:Pos}(hg:Gl X "range")(hm:X.mg "range"=none)(ha:PA X [a] ta)(hs:starEach [a] X.env=[(false,eval a X.env)]:=by rfl):PI X tg (.Call (.Name "range" p) [a] [] pos) (BN ta):=by
 intro pins s σ H R I h
 refine Call_ (lN I hg hm boot_range (PyProof.Rows.callWith_type1 (thn (ha pos pins s σ H _ I h) λus s1 ⟨vs,H1,I1,r1,q1⟩=>?_) hs rfl))
 obtain⟨j,e,q1,q2,q⟩:=q1
 subst e
 cases r1 with
 |cons r rr =>
  cases rr
  obtain⟨t,rfl⟩:=r
  exact call_range_1 (v8 I1 (by omega) (by omega) q1 q2 (by simpa using q))
def Cu (wi:TI)(g:TG)(tb:TS):TS:=λD σ H=>wi σ H λJ H1 => ∃ W:Nat->Nat->St->Hp->Prop,(∃ m,W 0 m σ H1)/\∀ i m σ H,W i m σ H ->
 (J.stop i H/\D.nx σ H)∨(J.go i H/\∃ N:St->Hp->Prop,(∀ σ' H',N σ' H'->∃ m',m'<m/\W (i+1) m' σ' H')/\∀ x H',J.yld i H x H'->g x σ H' λσ2 H2=>tb { D with nx:=N,ct:=N,bk:=D.nx } σ2 H2)
noncomputable def jF (fp:List Addr)(h:Heap):List (Addr×Obj):=fp.filterMap λb=>(h.get? b).map λo=>(b,o)
theorem fj {fp:List Addr}{h:Heap}{b:Addr}{o:Obj}(hb:b∈fp)(e:h.get? b=some o):(b,o)∈jF fp h:=List.mem_filterMap.mpr ⟨b,hb,by rw[e];rfl⟩
theorem uP {fp:List Addr}{h:Heap}{p:Addr×Obj}(hp:p∈jF fp h):p.1∈fp/\h.get? p.1=some p.2:=by
 obtain⟨b,hb,e⟩:=List.mem_filterMap.mp hp
 cases q:h.get? b with
 |none=>rw[q] at e;cases e
 |some o =>
  rw[q] at e
  have e':(b,o)=p:=Option.some.inj e
  subst e'
  exact⟨hb,q⟩
theorem Inv.pinned {pins:List (Addr×Obj)}{σ:St}{H:Hp}{s:Shared}{fp:List Addr}(I:Inv X pins σ H s)(hf:∀ b∈fp,gD X pins H b)(ho:∀ b∈fp,∃ o,s.heap.get? b=some o/\∀ v,o.data≠.cell v):Inv X (pins++jF fp s.heap) σ H s:=
 I.pins_of λp hp=>(List.mem_append.mp hp).elim (λz=>I.pin p (List.mem_append_right _ z)) λz=>by
  obtain⟨hb,e⟩:=uP z
  obtain⟨f0,f1,f2,_⟩:=hf p.1 hb
  obtain⟨o,e',d⟩:=ho p.1 hb
  rw[e] at e';cases e'
  exact⟨e,f0,f1,f2,d⟩
theorem Inv.unpinned {pins pl:List (Addr×Obj)}{σ:St}{H:Hp}{s:Shared}(I:Inv X (pins++pl) σ H s):Inv X pins σ H s:=I.pins_of λp hp=>I.pin p (List.mem_append_right _ (List.mem_append_left _ hp))
theorem Ak {iter:Expr}{body:List Stmt}{wi:TI}{g:TG}{tb:TS}{pos:Pos}(hp:PassesOwn (model X.prog X.w) X.A X.env X.xe)(hc:X.calm=true)(hi:PI X tg iter wi)(hg:PG X tg g)(hb:PSs X body tb)
  (hs:∀ x,foldedSetIterable iter X.env x=pure x:=by intro _;rfl):PS X (.For tg iter body [] pos) (Cu wi g tb):=by
 intro pins s σ H D I h
 refine wpAny_For (thn (hi pins s σ H _ I h) λv s1 h1=>thn h1 λitv s2 h2=>?_) hs
 obtain⟨it,fp,tn,J,H2,e,I2,T,st2,f2,W,⟨m0,w0⟩,turn⟩:=h2
 subst e
 have stat:∀ {H':Hp},(∀ b∈fp,H' b=none)->∀ b∈fp,gD X pins H' b:=λhn b hb=>⟨hn b hb,(f2 b hb).2⟩
 refine codeAny_forLoop_any (λn s' => ∃ i σ' H',Inv X pins σ' H' s'/\tn i s'.heap/\(∀ b∈fp,H' b=none)/\W i n σ' H') ?_ m0 ⟨0,σ,H2,I2,st2,λb hb=>(f2 b hb).1,w0⟩
 rintro n s3 ⟨i,σ3,H3,I3,st3,fr3,w3⟩
 rcases turn i n σ3 H3 w3 with ⟨stop,qn⟩ |⟨go,N,hN,step⟩
 ·refine wpAny_passesOwn hp (thn (T.done X rfl rfl rfl hc i pins s3 σ3 H3 X.xe I3 (stat fr3) st3 stop) λr s4 ⟨hr,I4⟩=>?_)
  subst hr
  exact wpAny_execs_nil ⟨σ3,H3,I4,qn⟩
 ·refine wpAny_passesOwn hp (thn (T.item X rfl rfl rfl hc i pins s3 σ3 H3 X.xe I3 (stat fr3) st3 go) λr s4 ⟨u,hr,h4⟩=>?_)
  subst hr
  refine wpAny_passesOwn hp (thn h4 λ_ s5 ⟨x,H5,I5,r5,y5,st5,fr5⟩=>?_)
  have I5':=I5.pinned (stat fr5) (T.obj _ _ st5)
  refine wpAny_passesOwn hp (thn (hg _ s5 σ3 H5 x u _ I5' r5 (step x H5 y5)) λ_ s6 ⟨σ6,H6,I6,q6⟩=>?_)
  refine wpAny_passesOwn hp (thn (hb _ s6 σ6 H6 _ I6 q6) λf s7 q7=>?_)
  have again:∀ {σ7:St}{H7:Hp},Inv X (pins++jF fp s5.heap) σ7 H7 s7->N σ7 H7->∃ m,m<n/\∃ i σ' H',Inv X pins σ' H' s7/\tn i s7.heap/\(∀ b∈fp,H' b=none)/\W i m σ' H':=λ{σ7 H7} I7 n7=>by
   obtain⟨m',hm,w7⟩:=hN σ7 H7 n7
   refine⟨m',hm,i+1,σ7,H7,I7.unpinned,T.keep _ _ _ st5 λb hb o e=>(I7.pin (b,o) (List.mem_append_right _ (List.mem_append_right _ (fj hb e)))).1,λb hb=>?_,w7⟩
   obtain⟨o,e,d⟩:=T.obj _ _ st5 b hb
   exact (I7.pin (b,o) (List.mem_append_right _ (List.mem_append_right _ (fj hb e)))).2.1
  cases f with
  |next=>obtain⟨σ7,H7,I7,n7⟩:=q7;exact again I7 n7
  |cont=>obtain⟨σ7,H7,I7,n7⟩:=q7;exact again I7 n7
  |brk=>obtain⟨σ7,H7,I7,q7⟩:=q7;exact⟨σ7,H7,I7.unpinned,q7⟩
  |ret v=>obtain⟨x7,σ7,H7,I7,r7,q7⟩:=q7;exact⟨x7,σ7,H7,I7.unpinned,r7,q7⟩
end
abbrev R2:=V->V->Hp->VK->Prop
def OpR (X:Cx)(f:Value->Value->Sem Value)(r:R2):Prop:=
 ∀ (pins:List (Addr×Obj)) (s:Shared) (σ:St) (H:Hp) (x y:V) (v u:Value) (Q:VK),Inv X pins σ H s->RelV x v->RelV y u->r x y H Q ->
  wpAny (model X.prog X.w) X.A (f v u) (EP X pins σ Q) X.xe s
def UnR (X:Cx)(f:Value->Sem Value)(r:V->Hp->VK->Prop):Prop:=
 ∀ (pins:List (Addr×Obj)) (s:Shared) (σ:St) (H:Hp) (x:V) (v:Value) (Q:VK),Inv X pins σ H s->RelV x v->r x H Q ->
  wpAny (model X.prog X.w) X.A (f v) (EP X pins σ Q) X.xe s
def eT (X:Cx)(f:Value)(r:List V->Hp->VK->Prop):Prop:=
 ∀ (pins:List (Addr×Obj)) (s:Shared) (σ:St) (H:Hp) (xs:List V) (us:List Value) (Q:VK),Inv X pins σ H s->Vals xs us->r xs H Q ->
  wpAny (model X.prog X.w) X.A (call f us) (EP X pins σ Q) X.xe s
def tOp (r:R2)(ta tb:TE):TE:=λσ H Q=>ta σ H λx H1=>tb σ H1 λy H2=>r x y H2 Q
def tUn (r:V->Hp->VK->Prop)(ta:TE):TE:=λσ H Q=>ta σ H λx H1=>r x H1 Q
def rI (C:Int->Int->Prop)(g:Int->Int->V):R2:=λx y H Q => ∃ i j,x = .int i/\y = .int j/\C i j/\Q (g i j) H
def rI0 (g:Int->Int->V):R2:=λx y H Q => ∃ i j,x = .int i/\y = .int j/\Q (g i j) H
def rU (g:Int->V):V->Hp->VK->Prop:=λx H Q => ∃ i,x = .int i/\Q (g i) H
section
variable {X:Cx}{a b c:Expr}{ta tb tc:TE}{pos:Pos}
theorem A8 (ha:PE X a ta)(hb:PE X b tb){pins:List (Addr×Obj)}{s:Shared}{σ:St}{H:Hp}{R:V->V->Hp->Prop}(I:Inv X pins σ H s)
  (h:ta σ H λx H1=>tb σ H1 λy H2=>R x y H2) {Q:Value->Shared->Prop}{f:Value->Value->Sem Value}
  (hf:∀ v u s2 x y H2,Inv X pins σ H2 s2->RelV x v->RelV y u->R x y H2->wpAny (model X.prog X.w) X.A (f v u) Q X.xe s2) :
  wpAny (model X.prog X.w) X.A (eval a X.env) (λv s₁=>wpAny (model X.prog X.w) X.A (eval b X.env) (λu s₂=>wpAny (model X.prog X.w) X.A (f v u) Q X.xe s₂) X.xe s₁) X.xe s:=by
 refine thn (ha pins s σ H _ I h) λv s1 ⟨x,H1,I1,r1,q1⟩=>?_
 refine thn (hb pins s1 σ H1 _ I1 q1) λu s2 ⟨y,H2,I2,r2,q2⟩=>?_
 exact hf v u s2 x y H2 I2 r1 r2 q2
theorem Bz {op:Operator}{r:R2}(ho:OpR X (binaryOp op) r)(ha:PE X a ta)(hb:PE X b tb):PE X (.BinOp a op b pos) (tOp r ta tb):=by
 intro pins s σ H Q I h
 exact wpAny_BinOp (A8 ha hb I h λv u s2 x y H2 I2 rx ry q=>ho pins s2 σ H2 x y v u Q I2 rx ry q)
theorem Bx {op:UnaryOp}{r:V->Hp->VK->Prop}(ho:UnR X (unaryOp op) r)(ha:PE X a ta):PE X (.UnaryOp op a pos) (tUn r ta):=by
 intro pins s σ H Q I h
 exact UnaryOp_ (thn (ha pins s σ H _ I h) λv s1 ⟨x,H1,I1,r1,q1⟩=>ho pins s1 σ H1 x v Q I1 r1 q1)
theorem opI {f:Value->Value->Sem Value}{C:Int->Int->Prop}{g:Int->Int->Int}
  (rule:∀ (i j:Int) (t u:Tok) (s:Shared) (Q:Value->Shared->Prop) (E:Value->Shared->Prop),C i j->Q (.int (g i j) s.toks) { s with toks:=s.toks+1 }->wpAny (model X.prog X.w) X.A (f (.int i t) (.int j u)) Q E s) :
  OpR X f (rI C λi j => .int (g i j)):=by
 intro pins s σ H x y v u Q I rx ry h
 obtain⟨i,j,rfl,rfl,hc,q⟩:=h
 obtain⟨t,rfl⟩:=rx
 obtain⟨t',rfl⟩:=ry
 exact rule i j t t' s _ _ hc ⟨.int (g i j),H,I.tok _,⟨_,rfl⟩,q⟩
theorem BF {f:Value->Value->Sem Value}{g:Int->Int->Int}
  (rule:∀ (i j:Int) (t u:Tok) (s:Shared) (Q:Value->Shared->Prop) (E:Value->Shared->Prop),Q (.int (g i j) s.toks) { s with toks:=s.toks+1 }->wpAny (model X.prog X.w) X.A (f (.int i t) (.int j u)) Q E s) :
  OpR X f (rI0 λi j => .int (g i j)):=by
 intro pins s σ H x y v u Q I rx ry h
 obtain⟨i,j,rfl,rfl,q⟩:=h
 obtain⟨t,rfl⟩:=rx
 obtain⟨t',rfl⟩:=ry
 exact rule i j t t' s _ _ ⟨.int (g i j),H,I.tok _,⟨_,rfl⟩,q⟩
theorem AC {f:Value->Value->Sem Value}{g:Int->Int->Bool}
  (rule:∀ (i j:Int) (t u:Tok) (s:Shared) (Q:Value->Shared->Prop) (E:Value->Shared->Prop),Q (.bool (g i j)) s->wpAny (model X.prog X.w) X.A (f (.int i t) (.int j u)) Q E s) :
  OpR X f (rI0 λi j => .bl (g i j)):=by
 intro pins s σ H x y v u Q I rx ry h
 obtain⟨i,j,rfl,rfl,q⟩:=h
 obtain⟨t,rfl⟩:=rx
 obtain⟨t',rfl⟩:=ry
 exact rule i j t t' s _ _ ⟨.bl (g i j),H,I,rfl,q⟩
def Dc (i j:Int):Prop:=0<j/\j<1073741824
def CMul (i j:Int):Prop:=(-(2 ^ 64)<i/\i<2 ^ 64)∨(-(2 ^ 64)<j/\j<2 ^ 64)
theorem CMul.ok {i j:Int}(h:CMul i j):IntMulOk i j:=by
 rcases h with ⟨h1,h2⟩ |⟨h1,h2⟩
 ·exact .of_left (intBits_le_64 h1 h2)
 ·exact .of_right (intBits_le_64 h1 h2)
theorem AB:OpR X (binaryOp .Add) (rI0 λi j => .int (i+j)):=BF λ_ _ _ _ _ _ _ q=>add_int q
theorem Ax:OpR X (binaryOp .Sub) (rI0 λi j => .int (i-j)):=BF λ_ _ _ _ _ _ _ q=>sub_int q
theorem Ay:OpR X (binaryOp .Mult) (rI CMul λi j => .int (i*j)):=opI λ_ _ _ _ _ _ _ hc q=>mul_int q hc.ok
theorem yJ:OpR X (binaryOp .FloorDiv) (rI Dc λi j => .int (i / j)):=opI λi j _ _ _ _ _ hc q=>by
 have h1:(0:Int)<j:=hc.1
 have h2:j<1073741824:=hc.2
 exact floordiv_int (by omega) (by rw[Int.fdiv_eq_ediv_of_nonneg i (by omega)];exact q) (.inl (PyProof.noPylong_small (by omega)))
theorem Az:OpR X (binaryOp .Mod) (rI (λ_ j => 0<j) λi j => .int (i % j)):=opI λi j _ _ _ _ _ hc q=>by
 have h1:(0:Int)<j:=hc
 exact mod_int' (by omega) (by rw[Int.fmod_eq_emod_of_nonneg i (by omega)];exact q)
theorem unI {f:Value->Sem Value}{g:Int->Int}
  (rule:∀ (i:Int) (t:Tok) (s:Shared) (Q:Value->Shared->Prop) (E:Value->Shared->Prop),Q (.int (g i) s.toks) { s with toks:=s.toks+1 }->wpAny (model X.prog X.w) X.A (f (.int i t)) Q E s) :
  UnR X f (rU λi => .int (g i)):=by
 intro pins s σ H x v Q I rx h
 obtain⟨i,rfl,q⟩:=h
 obtain⟨t,rfl⟩:=rx
 exact rule i t s _ _ ⟨.int (g i),H,I.tok _,⟨_,rfl⟩,q⟩
theorem zS:UnR X (unaryOp .USub) (rU λi => .int (-i)):=unI λ_ _ _ _ _ q=>neg_int q
end
section
variable {X:Cx}{a b c:Expr}{ta tb tc:TE}{pos:Pos}
theorem r8 {pins:List (Addr×Obj)}{σ:St}{H:Hp}{s:Shared}{Q:VK}{k k':Bool}(I:Inv X pins σ H s)(q:Q (.bl k) H)(e:k=k'):EP X pins σ Q (.bool k') s:=by
 subst e
 exact⟨.bl k,H,I,rfl,q⟩
theorem BB:OpR X (compareOp .Lt) (rI0 λi j => .bl (decide (i<j))):=AC λ_ _ _ _ _ _ _ q=>lt_int q
theorem BC:OpR X (compareOp .LtE) (rI0 λi j => .bl (decide (i<=j))):=AC λ_ _ _ _ _ _ _ q=>le_int q
theorem BE:OpR X (compareOp .Gt) (rI0 λi j => .bl (decide (j<i))):=AC λ_ _ _ _ _ _ _ q=>gt_int q
theorem uO:OpR X (compareOp .Lt) (λx y H Q => ∃ i j,x = .str i/\y = .str j/\Q (.bl (decide (i.cps.toList<j.cps.toList))) H):=by
 intro pins s σ H x y v u Q I rx ry h
 obtain⟨i,j,rfl,rfl,q⟩:=h
 obtain⟨t,rfl⟩:=rx
 obtain⟨t',rfl⟩:=ry
 exact lt_str (r8 I q rfl)
theorem AA:OpR X (compareOp .Is) (λx y H Q=>y = .non/\Q (.bl (decide (x = .non))) H):=by
 intro pins s σ H x y v u Q I rx ry h
 obtain⟨rfl,q⟩:=h
 cases ry
 refine is_none_gen (r8 I q ?_)
 cases x<;>first
  |(cases rx;rfl)
  |(obtain⟨t,rfl⟩:=rx;rfl)
theorem yI:OpR X (compareOp .IsNot) (λx y H Q=>y = .non/\Q (.bl (!decide (x = .non))) H):=by
 intro pins s σ H x y v u Q I rx ry h
 obtain⟨rfl,q⟩:=h
 cases ry
 refine isnot_none_gen (r8 I q ?_)
 cases x<;>first
  |(cases rx;rfl)
  |(obtain⟨t,rfl⟩:=rx;rfl)
theorem wC (b:Expr){op:CmpOp}(h:op≠.In:=by decide)(h2:op≠.NotIn:=by decide):behindInMarks op b=false:=by
 have e1:(op==CmpOp.In)=false:=by cases op<;>first |rfl |exact absurd rfl h
 have e2:(op==CmpOp.NotIn)=false:=by cases op<;>first |rfl |exact absurd rfl h2
 cases b<;>simp[behindInMarks,e1,e2]
theorem yG {op:CmpOp}{r:R2}(ho:OpR X (compareOp op) r)(ha:PE X a ta)(hb:PE X b tb)(hm:behindInMarks op b=false):PE X (.Compare a [op] [b] pos) (tOp r ta tb):=by
 intro pins s σ H Q I h
 exact wpAny_Compare1 (A8 ha hb I h λv u s2 x y H2 I2 rx ry q=>ho pins s2 σ H2 x y v u Q I2 rx ry q) hm
def tTest (t:TE):TT:=λσ H Q=>t σ H λx H' => ∃ k,x = .bl k/\Q k H'
theorem yv {op:CmpOp}{r:R2}(ho:OpR X (compareOp op) r)(ha:PE X a ta)(hb:PE X b tb)(hm:behindInMarks op b=false):PT X (.Compare a [op] [b] pos) (tTest (tOp r ta tb)):=by
 intro pins s σ H Q I h
 refine wpAny_isTrue_Compare1 (thn (ha pins s σ H _ I h) λv s1 ⟨x,H1,I1,r1,q1⟩=>thn (hb pins s1 σ H1 _ I1 q1) λu s2 ⟨y,H2,I2,r2,q2⟩ =>
  thn (ho pins s2 σ H2 x y v u _ I2 r1 r2 q2) λc s3 ⟨z,H3,I3,r3,k,e,q3⟩=>?_) hm
 subst e
 cases r3
 exact wpAny_truthy_bool ⟨H3,I3,q3⟩
def rh (r r':R2)(ta tb tc:TE):TE:=λσ H Q=>ta σ H λx H1=>tb σ H1 λy H2=>r x y H2 λz H3 => ∃ k,z = .bl k /\
 (if k=true then tc σ H3 λw' H4=>r' y w' H4 Q else Q (.bl false) H3)
theorem wp {op op':CmpOp}{r r':R2}(ho:OpR X (compareOp op) r)(ho':OpR X (compareOp op') r')(ha:PE X a ta)(hb:PE X b tb)(hc:PE X c tc)
  (hm:lastMarks [op,op'] [b,c]=false:=by with_unfolding_all rfl):PE X (.Compare a [op,op'] [b,c] pos) (rh r r' ta tb tc):=by
 intro pins s σ H Q I h
 refine Compare_chain (thn (ha pins s σ H _ I h) λv s1 ⟨x,H1,I1,r1,q1⟩=>chain_link (thn (hb pins s1 σ H1 _ I1 q1) λu s2 ⟨y,H2,I2,r2,q2⟩ =>
  thn (ho pins s2 σ H2 x y v u _ I2 r1 r2 q2) λd s3 ⟨z,H3,I3,r3,k,e,q3⟩=>?_)) hm
 subst e
 cases r3
 refine wpAny_truthy_bool ?_
 cases k with
 |false=>exact ite_ff ⟨.bl false,H3,I3,rfl,q3⟩
 |true=>exact ite_tt (chain_last (thn (hc pins s3 σ H3 _ I3 q3) λw' s4 ⟨z',H4,I4,r4,q4⟩=>ho' pins s4 σ H4 y z' u w' Q I4 r2 r4 q4))
theorem v_ {op op':CmpOp}{r r':R2}(ho:OpR X (compareOp op) r)(ho':OpR X (compareOp op') r')(ha:PE X a ta)(hb:PE X b tb)(hc:PE X c tc)
  (hm:lastMarks [op,op'] [b,c]=false:=by with_unfolding_all rfl):PT X (.Compare a [op,op'] [b,c] pos) (tTest (rh r r' ta tb tc)):=by
 intro pins s σ H Q I h
 refine isTrue_chain (thn (ha pins s σ H _ I h) λv s1 ⟨x,H1,I1,r1,q1⟩=>test_link (thn (hb pins s1 σ H1 _ I1 q1) λu s2 ⟨y,H2,I2,r2,q2⟩ =>
  thn (ho pins s2 σ H2 x y v u _ I2 r1 r2 q2) λd s3 ⟨z,H3,I3,r3,k,e,q3⟩=>?_)) hm
 subst e
 cases r3
 refine wpAny_truthy_bool ?_
 cases k with
 |false =>
  obtain⟨k',e',q'⟩:=q3
  cases e'
  exact ite_ff ⟨H3,I3,q'⟩
 |true =>
  refine ite_tt (test_last (thn (hc pins s3 σ H3 _ I3 q3) λw' s4 ⟨z',H4,I4,r4,q4⟩=>thn (ho' pins s4 σ H4 y z' u w' _ I4 r2 r4 q4) λd' s5 ⟨z2,H5,I5,r5,k2,e2,q5⟩=>?_))
  subst e2
  cases r5
  exact wpAny_truthy_bool ⟨H5,I5,q5⟩
theorem lL:(sizeLine:Nat)<2 ^ 63:=by rw[sizeLine_eq];decide
theorem rL:OpR X (binaryOp .Add) (λx y H Q => ∃ i j,x = .str i/\y = .str j/\i.length+j.length<=sizeLine/\Q (.str (i++j)) H):=by
 intro pins s σ H x y v u Q I rx ry h
 obtain⟨i,j,rfl,rfl,hz,q⟩:=h
 obtain⟨t,rfl⟩:=rx
 obtain⟨t',rfl⟩:=ry
 exact add_str (λt' tk=>⟨.str (i++j),H,I.tok _,⟨_,rfl⟩,q⟩) hz
theorem vals1 {x:V}{us:List Value}(r:Vals [x] us):∃ u,us=[u]/\RelV x u:=by
 cases r with
 |cons r1 r2=>cases r2;exact⟨_,rfl,r1⟩
theorem vals2 {x y:V}{us:List Value}(r:Vals [x,y] us):∃ u w',us=[u,w']/\RelV x u/\RelV y w':=by
 cases r with
 |cons r1 r2 =>
  cases r2 with
  |cons r3 r4=>cases r4;exact⟨_,_,rfl,r1,r3⟩
theorem nQ:eT X (.type "int") (λxs H Q=>(∃ i,xs=[.int i]/\Q (.int i) H)∨∃ k,xs=[.bl k]/\Q (.int (if k then 1 else 0)) H):=by
 intro pins s σ H xs us Q I r h
 rcases h with ⟨i,rfl,q⟩ |⟨k,rfl,q⟩
 ·obtain⟨u,rfl,t,rfl⟩:=vals1 r
  exact call_int_int ⟨.int i,H,I,⟨_,rfl⟩,q⟩
 ·obtain⟨u,rfl,r1⟩:=vals1 r
  cases r1
  exact call_int_bool ⟨.int (if k then 1 else 0),H,I.tok _,⟨_,rfl⟩,q⟩
theorem o5:eT X (.type "str") (λxs H Q => ∃ i,xs=[.int i]/\i.natAbs.log2<1920/\Q (.str (toString i)) H):=by
 intro pins s σ H xs us Q I r h
 obtain⟨i,rfl,hz,q⟩:=h
 obtain⟨u,rfl,t,rfl⟩:=vals1 r
 exact PySem.P.str_of_int hz ⟨.str _,H,I.tok _,⟨_,rfl⟩,q⟩
end
structure ObjM (h:Heap) (x dx C:Addr) (mA:Str->Option Value):Prop where
 obj:h.get? x=some (PySem.W.instObj C dx)
 ns:h.Ns1 dx mA
 ne:dx≠x
theorem uY {h:Heap}{dx:Addr}{mA:Str->Option Value}(n:h.Ns1 dx mA):∃ od,h.get? dx=some od/\∀ name,PySem.W.lookIn name od=some (mA name):=by
 obtain⟨o,es,ep,ho,hd,hk,_,hm⟩:=n
 refine⟨o,ho,λname=>?_⟩
 have e:=hm name
 unfold nsFind findBy at e
 rw[← Array.find?_toList] at e
 unfold PySem.W.lookIn
 rw[hd]
 dsimp only
 split
 ·rename_i y q
  rw[q] at e
  exact congrArg some e
 ·rename_i q
  rw[q] at e
  have a:es.toList.any (·.refKey)=false:=by
   rw[List.any_eq_false]
   intro y hy
   obtain⟨z,t,hkey⟩:=hk y (Array.mem_toList_iff.mp hy)
   simp[DictEntry.refKey,hkey]
  have a':¬ es.toList.any (·.refKey)=true:=by rw[a];exact Bool.false_ne_true
  rw[if_neg a']
  exact congrArg some e
theorem ObjM.look {h:Heap}{x dx C:Addr}{mA:Str->Option Value}(I:ObjM h x dx C mA):∃ od,PySem.W.InstAt h x (PySem.W.instObj C dx) C (some od)/\∀ name,PySem.W.lookIn name od=some (mA name):=
 let ⟨od,ho,hl⟩:=uY I.ns
 ⟨od,⟨I.obj,rfl,rfl,ho⟩,hl⟩
section
variable {prog:Program}{w:World}{A:Around}{E:Value->Shared->Prop}{s:Shared}{K:PySem.W.Frag}{x dx C f:Addr}{mA:Str->Option Value}{name:Str}{v:Value}
theorem get_map {expr:Bool}{Q:Value->Shared->Prop}(X:K.In s.heap)(I:ObjM s.heap x dx C mA)(hg:PySem.W.plainGet K C name=true)(hh:PySem.W.hasDictIn K C=true)
  (ha:PySem.W.findIn K (.ref C) name=some none) (hv:mA name=some v) (hv':PySem.W.handedIn v=true) (h:Q v { s with toks:=s.toks+1 }) :
  wpAny (model prog w) A (getAttr (.ref x) name expr) Q E s:=by
 obtain⟨od,J,hl⟩:=I.look
 exact PySem.W.get_value X J (PySem.W.plainGet_of hg).1 (PySem.W.findObj_own hh ha rfl (by rw[hl,hv])) hv' h
theorem wY {pl:Sem Bool}{Q:Value×List Value->Shared->Prop}(X:K.In s.heap)(I:ObjM s.heap x dx C mA)(hg:PySem.W.plainGet K C name=true)
  (hf:PySem.W.findIn K (.ref C) name=some (some (.ref f))) (ht:PySem.W.isFn K (.ref f)=true) (hv:mA name=none) (h:Q (.ref f,[.ref x]) s) :
  wpAny (model prog w) A (getMethod (.ref x) name pl) Q E s:=by
 obtain⟨od,J,hl⟩:=I.look
 exact PySem.W.method_fn X J (PySem.W.plainGet_of hg).1 (PySem.W.plainGet_of hg).2 hf (beq_iff_eq.mp ht) (by show (PySem.W.lookIn name od).map (·.isSome)=some false;rw[hl,hv];rfl) h
theorem x_ {ns:List Str}{Q:Unit->Shared->Prop}(X:K.In s.heap)(I:ObjM s.heap x dx C mA)
  (hs:PySem.W.findIn K (.ref C) "__setattr__"=some (some (.builtin "object.__setattr__"))) (hp:PySem.W.plainOver K C=true) (ht:PySem.W.takerIn K C name=some none) (hh:PySem.W.hasDictIn K C=true)
  (hw:PySem.Within mA ns) (hsz:ns.length<=sizeLine)
  (h:∀ h',ObjM h' x dx C (λy=>if y=name then some v else mA y)->Heap.SameBut dx s.heap h'->Q () { s with heap:=h',toks:=s.toks+2 }) :
  wpAny (model prog w) A (setAttr (.ref x) name v) Q E s:=by
 obtain⟨od,J,hl⟩:=I.look
 refine PySem.W.set_plain X J hs (PySem.W.osa_open (s:={ s with toks:=s.toks+1 }) (r:=none) X J hp ht λb=>?_)
 obtain⟨cd,hc,hd'⟩:=PySem.W.any_some hh
 have hx:s.heap.get? x=some ⟨.ref C,some dx,.plain,#[]⟩:=I.obj
 refine wpAny_bind (wpAny_pure (wpAny_bind (wpAny_bind (wpAny_loadPart hx (wpAny_bind (PySem.W.Looks.here (s:={ s with toks:=s.toks+1 }) (PySem.W.looks_clsIn X hc) ?_))))))
 rw[hd']
 refine wpAny_pure (a:=some dx) (wpAny_bind (wpAny_pure (wpAny_bind ?_)))
 refine wpAny_nsSet1 (s:={ s with toks:=s.toks+1 }) I.ns λh' hn2 hs2=>?_
 obtain⟨oD,esD,epD,hoD,hdD,hcD⟩:=hn2.count (PySem.Within.cons name v hw)
 refine wpAny_bind (wpAny_lookBehind hoD (by rw[hdD];exact pastItsLine_dict (Nat.le_trans hcD (by rw[List.length_cons];omega))) ?_)
 exact wpAny_pure (h _ ⟨(hs2.2 _ (Ne.symm I.ne)).trans I.obj,hn2,I.ne⟩ hs2)
theorem wL {R:Result->Shared->Prop}{vs:List Value}{kw:List (Str×Value)}(X:K.In s.heap)(hm:PySem.W.makesIn K C=true)
  (hi:PySem.W.findIn K (.ref C) "__init__"=some (some (.ref f))) (hf:PySem.W.typeIn K (.ref f)=some (.type "function"))
  (h:codeAny (model prog w) (A.under (.builtin "type.__call__" ⟨.ref C::vs,kw⟩)) (.call (.ref f) ⟨.ref (s.heap.objs.size+1)::vs,kw⟩) (PySem.W.InitBack (s.heap.objs.size+1) R)
   { s with heap:=(s.heap.push PySem.W.emptyDict).push (PySem.W.instObj C s.heap.objs.size) }) :
  codeAny (model prog w) A (.call (.ref C) ⟨vs,kw⟩) R s:=by
 obtain⟨hh,g,d,t,os⟩:=s
 exact PySem.W.make_core (PySem.W.makes_of X hm) (PySem.W.looks_findIn X hi) (λself=>PySem.W.bind_fn X self hf) (.inl rfl) h
end
noncomputable def dP (f:Str)(v:V):List (Str×V)->List (Str×V)
 |[]=>[(f,v)]
 |(g,x)::r=>if g=f then (g,v)::r else (g,x)::dP f v r
theorem kg (f g:Str)(v:V):∀ fs:List (Str×V),(dP f v fs).lookup g=if g=f then some v else fs.lookup g
 |[]=>by
  show List.lookup g [(f,v)]=_
  by_cases h:g=f
  ·have hb:(g==f)=true:=beq_iff_eq.mpr h
   simp only[List.lookup,hb,if_pos h]
  ·have hb:(g==f)=false:=beq_eq_false_iff_ne.mpr h
   simp only[List.lookup,hb,if_neg h]
 |(k,x)::r=>by
  have ih:=kg f g v r
  rw[show dP f v ((k,x)::r)=(if k=f then (k,v)::r else (k,x)::dP f v r) from rfl]
  by_cases hk:k=f
  ·rw[if_pos hk]
   by_cases h:g=k
   ·have hb:(g==k)=true:=beq_iff_eq.mpr h
    simp only[List.lookup,hb,if_pos (h.trans hk)]
   ·have hb:(g==k)=false:=beq_eq_false_iff_ne.mpr h
    simp only[List.lookup,hb,if_neg (λe:g=f=>h (e.trans hk.symm))]
  ·rw[if_neg hk]
   by_cases h:g=k
   ·have hb:(g==k)=true:=beq_iff_eq.mpr h
    simp only[List.lookup,hb,if_neg (λe:g=f=>hk (h.symm.trans e))]
   ·have hb:(g==k)=false:=beq_eq_false_iff_ne.mpr h
    simp only[List.lookup,hb]
    exact ih
theorem jM (f:Str)(v:V):∀ fs:List (Str×V),f∈(dP f v fs).map (·.1)/\∀ g,g∈fs.map (·.1)->g∈(dP f v fs).map (·.1)
 |[]=>⟨by simp[dP],λg h=>by simp at h⟩
 |(k,x)::r=>by
  obtain⟨i1,i2⟩:=jM f v r
  rw[show dP f v ((k,x)::r)=(if k=f then (k,v)::r else (k,x)::dP f v r) from rfl]
  by_cases hk:k=f
  ·rw[if_pos hk]
   subst hk
   exact⟨by simp,λg h=>by simpa using h⟩
  ·rw[if_neg hk]
   refine⟨?_,λg h=>?_⟩
   ·rw[List.map_cons]
    exact List.mem_cons_of_mem _ i1
   ·rw[List.map_cons] at h ⊢
    rcases List.mem_cons.mp h with e |e
    ·exact List.mem_cons.mpr (.inl e)
    ·exact List.mem_cons_of_mem _ (i2 g e)
theorem ki (f:Str)(v:V):∀ fs:List (Str×V),(dP f v fs).length<=fs.length+1
 |[]=>by simp[dP]
 |(k,x)::r=>by
  have ih:=ki f v r
  rw[show dP f v ((k,x)::r)=(if k=f then (k,v)::r else (k,x)::dP f v r) from rfl]
  by_cases hk:k=f
  ·rw[if_pos hk,List.length_cons,List.length_cons];omega
  ·rw[if_neg hk,List.length_cons,List.length_cons];omega
theorem RelO.some_of {v:V}{o:Option Value}(r:RelO (some v) o):∃ u,o=some u/\RelV v u:=by
 cases o with
 |none=>exact (show False from r).elim
 |some u=>exact⟨u,rfl,r⟩
theorem RelO.none_of {o:Option Value}(r:RelO none o):o=none:=by
 cases o with
 |none=>rfl
 |some u=>exact (show False from r).elim
theorem u_ {v:V}{u:Value}(r:RelV v u):PySem.W.handedIn u=true:=by
 cases v with
 |non=>cases (show u=Value.none from r);rfl
 |bl b=>cases (show u=Value.bool b from r);rfl
 |int i=>obtain⟨t,e⟩:=(show ∃ t,u=Value.int i t from r);cases e;rfl
 |str x=>obtain⟨t,e⟩:=(show ∃ t,u=Value.str x t from r);cases e;rfl
 |byt b=>obtain⟨t,e⟩:=(show ∃ t,u=Value.bytes b t from r);cases e;rfl
 |flt b=>obtain⟨t,e⟩:=(show ∃ t,u=Value.float b t from r);cases e;rfl
 |ref a=>cases (show u=Value.ref a from r);rfl
 |ty n=>cases (show u=Value.type n from r);rfl
section
variable {P:Program}{w:World}{H H':Hp}{h h':Heap}{a C dx:Addr}{fs fs':List (Str×V)}
theorem oR (hok:HOk P w H h)(e:H a=some (.ins C dx fs)):∃ mA,ObjM h a dx C mA/\(∀ f,RelO (fs.lookup f) (mA f))/\PySem.Within mA (fs.map (·.1))/\fs.length<=1000/\H dx=some (.own a):=by
 obtain⟨d,z,ne,ob,mA,n,r,q⟩:=(show ObjOk P w H h a (.ins C dx fs) from hok a _ e)
 exact⟨mA,⟨ob,n,ne⟩,r,q,z,d⟩
end
structure Cls (K:PySem.W.Frag) (C:Addr):Prop where
 pg:PySem.W.plainGet K C Str.empty=true
 hd:PySem.W.hasDictIn K C=true
 po:PySem.W.plainOver K C=true
 sa:PySem.W.findIn K (.ref C) "__setattr__"=some (some (.builtin "object.__setattr__"))
theorem Cls.get {K:PySem.W.Frag}{C:Addr}(c:Cls K C)(f:Str):PySem.W.plainGet K C f=true:=c.pg
def NoAttr (K:PySem.W.Frag)(C:Addr)(f:Str):Prop:=PySem.W.findIn K (.ref C) f=some none
theorem NoAttr.taker {K:PySem.W.Frag}{C:Addr}{f:Str}(n:NoAttr K C f):PySem.W.takerIn K C f=some none:=by
 unfold PySem.W.takerIn
 rw[show PySem.W.findIn K (.ref C) f=some none from n]
 rfl
structure Con (K:PySem.W.Frag) (C:Addr) (f:Str) (v:V) (u:Value):Prop where
 at_:PySem.W.findIn K (.ref C) f=some (some u)
 rel:RelV v u
 get:PySem.W.specialIn K u "__get__"=some none
 cp:PySem.W.copiedNames.contains f=false
structure Meth (K:PySem.W.Frag) (C:Addr) (m:Str) (f:Addr):Prop where
 at_:PySem.W.findIn K (.ref C) m=some (some (.ref f))
 fn:PySem.W.isFn K (.ref f)=true
 kp:PySem.W.keepIn K (.ref f)=true
section
variable {X:Cx}{pins:List (Addr×Obj)}{σ:St}{H:Hp}{s:Shared}{a C dx:Addr}{fs:List (Str×V)}{f:Str}{v:V}{A:Around}{E:Value->Shared->Prop}
theorem lW {b:Bool}{Q:Value->Shared->Prop}(I:Inv X pins σ H s)(e:H a=some (.ins C dx fs))(c:Cls X.K C)(n:NoAttr X.K C f)(l:fs.lookup f=some v)
  (h:∀ u s',Inv X pins σ H s'->RelV v u->Q u s'):wpAny (model X.prog X.w) A (getAttr (.ref a) f b) Q E s:=by
 obtain⟨mA,O,r,_,_,_⟩:=oR I.hok e
 obtain⟨u,hu,ru⟩:=RelO.some_of (v:=v) (o:=mA f) (by rw[← l];exact r f)
 exact get_map I.kIn O (c.get f) c.hd n hu (u_ ru) (h u _ (I.tok _) ru)
theorem iu {m:Str}{g:Addr}{pl:Sem Bool}{Q:Value×List Value->Shared->Prop}(I:Inv X pins σ H s)(e:H a=some (.ins C dx fs))(c:Cls X.K C)(k:Meth X.K C m g)(l:fs.lookup m=none)
  (h:Q (.ref g,[.ref a]) s):wpAny (model X.prog X.w) A (getMethod (.ref a) m pl) Q E s:=by
 obtain⟨mA,O,r,_,_,_⟩:=oR I.hok e
 have hn:mA m=none:=RelO.none_of (by rw[← l];exact r m)
 exact wY I.kIn O (c.get m) k.at_ k.fn hn h
theorem lj {y:V}{u:Value}{Q:Unit->Shared->Prop}(I:Inv X pins σ H s)(e:H a=some (.ins C dx fs))(c:Cls X.K C)(n:NoAttr X.K C f)(hl:fs.length<1000)(ry:RelV y u)
  (h:∀ s',Inv X pins σ (upd H a (.ins C dx (dP f y fs))) s'->Q () s'):wpAny (model X.prog X.w) A (setAttr (.ref a) f u) Q E s:=by
 obtain⟨mA,O,r,wi,_,ho⟩:=oR I.hok e
 have hz:(fs.map (·.1)).length<=sizeLine:=by rw[List.length_map,sizeLine_eq];omega
 refine x_ I.kIn O c.sa c.po n.taker c.hd wi hz λh' O' sb=>h _ ?_
 have hd:∃ o,h'.get? dx=some o:=let ⟨o,_,_,e',_⟩:=O'.ns;⟨o,e'⟩
 refine I.write (x:=a) (e:=dx) (by rw[e];exact True.intro) (.inr ho) (λb q hb z=>(sb.2 b hb).trans z) hd ?_
 refine⟨by rw[aA O.ne];exact ho,?_,O.ne,O'.obj,_,O'.ns,λg=>?_,λg hg=>?_⟩
 ·have:=ki f y fs;omega
 ·show RelO ((dP f y fs).lookup g) (if g=f then some u else mA g)
  rw[kg]
  by_cases q:g=f
  ·rw[if_pos q,if_pos q];exact ry
  ·rw[if_neg q,if_neg q];exact r g
 ·by_cases q:g=f
  ·rw[q];exact (jM f y fs).1
  ·refine (jM f y fs).2 g (wi g λz=>hg ?_)
   show (if g=f then some u else mA g)=none
   rw[if_neg q];exact z
theorem Inv.made (I:Inv X pins σ H s):Inv X pins σ (upd (upd H s.heap.objs.size (.own (s.heap.objs.size+1))) (s.heap.objs.size+1) (.ins C s.heap.objs.size []))
  { s with heap:=(s.heap.push PySem.W.emptyDict).push (PySem.W.instObj C s.heap.objs.size) }:=by
 have e1:(s.heap.push PySem.W.emptyDict).get? s.heap.objs.size=some PySem.W.emptyDict:=Heap.get?_push_size s.heap rfl
 have e2:((s.heap.push PySem.W.emptyDict).push (PySem.W.instObj C s.heap.objs.size)).get? (s.heap.objs.size+1)=some (PySem.W.instObj C s.heap.objs.size):=by
  have:=Heap.get?_push_size (s.heap.push PySem.W.emptyDict) (o:=PySem.W.instObj C s.heap.objs.size) rfl
  rwa [Heap.size_push] at this
 have e3:(s.heap.push PySem.W.emptyDict).Ns s.heap.objs.size (λ_=>none):=⟨PySem.W.emptyDict,#[],_,e1,rfl,(λe he=>absurd he (by simp)),λ_=>rfl⟩
 have I1:=I.laid (a:=s.heap.objs.size) (o:=.own (s.heap.objs.size+1)) (h':=s.heap.push PySem.W.emptyDict) (t':=s.toks) (λb u q=>Heap.get?_push_of_some _ q) (Nat.le_refl _) ⟨_,e1⟩
 refine I1.laid (a:=s.heap.objs.size+1) (o:=.ins C s.heap.objs.size []) (t':=s.toks) (λb u q=>Heap.get?_push_of_some _ q) (Nat.le_of_eq (Heap.size_push _ _)) ?_
 have ne:s.heap.objs.size≠s.heap.objs.size+1:=Nat.ne_of_lt (Nat.lt_succ_self _)
 refine⟨by rw[aA ne,aX],Nat.zero_le _,ne,e2,λ_=>none,(Heap.Ns1.of_empty e3).at λo q=>Heap.get?_push_of_some _ q,λ_=>True.intro,λy hy=>absurd rfl hy⟩
theorem zu {prog:Program}{w:World}{env:Env}{e:Expr}{f:Str}{pos:Pos}{s:Shared}{Q:Value->Shared->Prop}(hb:attributeBase e f env (eval e env)=eval e env)
  (h:wpAny (model prog w) A (eval e env) (λo s₁=>wpAny (model prog w) A (getAttr o f true) Q E s₁) E s):wpAny (model prog w) A (eval (.Attribute e f pos) env) Q E s:=
 Attribute_any_ h (by rw[arm_eval_Attribute,hb])
end
def Cv (K:PySem.W.Frag)(ta:TE)(f:Str):TE:=λσ H Q=>ta σ H λx H1 => ∃ a C dx fs v,x = .ref a/\H1 a=some (.ins C dx fs)/\Cls K C/\NoAttr K C f/\fs.lookup f=some v/\Q v H1
def Cz (K:PySem.W.Frag)(ta tv:TE)(f:Str):TS:=λD σ H=>tv σ H λy H1=>ta σ H1 λx H2 => ∃ a C dx fs,x = .ref a/\H2 a=some (.ins C dx fs)/\Cls K C/\NoAttr K C f/\fs.length<1000 /\
 D.nx σ (upd H2 a (.ins C dx (dP f y fs)))
def B4 (X:Cx)(op:Operator)(rd:V->V->Hp->VK->Prop):Prop:=
 ∀ (pins:List (Addr×Obj)) (s:Shared) (σ:St) (H:Hp) (x y:V) (u v:Value) (Q:VK),Inv X pins σ H s->RelV x u->RelV y v->rd x y H Q->wpAny (model X.prog X.w) X.A (inplaceOp op u v) (EP X pins σ Q) X.xe s
def ym (K:PySem.W.Frag)(ta tv:TE)(rd:V->V->Hp->VK->Prop)(f:Str):TS:=λD σ H=>ta σ H λx H1 => ∃ a C dx fs v,x = .ref a/\H1 a=some (.ins C dx fs)/\Cls K C/\NoAttr K C f/\fs.lookup f=some v /\
 tv σ H1 λy H2=>rd v y H2 λz H3 => ∃ dx' fs',H3 a=some (.ins C dx' fs')/\fs'.length<1000/\D.nx σ (upd H3 a (.ins C dx' (dP f z fs')))
section
variable {X:Cx}{o e value:Expr}{f:Str}{pos pos' tpos:Pos}{ta tv:TE}
theorem As (he:PE X e ta)(hb:attributeBase e f X.env (eval e X.env)=eval e X.env):PE X (.Attribute e f pos) (Cv X.K ta f):=by
 intro pins s σ H Q I h
 refine zu hb (thn (he pins s σ H _ I h) λu s1 ⟨x,H1,I1,rx,a,C,dx,fs,v,ex,ea,c,n,l,q⟩=>?_)
 subst ex
 obtain rfl:u=Value.ref a:=rx
 exact lW I1 ea c n l λu' s2 I2 ru=>⟨v,H1,I2,ru,q⟩
theorem Al (ha:PE X o ta)(hv:PE X value tv)(hs:swapsWith value (some (.Attribute o f pos')) pos.line X.env=pure false):PS X (.Assign [.Attribute o f pos'] value pos) (Cz X.K ta tv f):=by
 intro pins s σ H D I h
 refine plainObj_wpAny_Assign_Attribute (thn (hv pins s σ H _ I h) λu s1 ⟨y,H1,I1,ry,q⟩=>thn (ha pins s1 σ H1 _ I1 q) λov s2 ⟨x,H2,I2,rx,a,C,dx,fs,ex,ea,c,n,l,q2⟩=>?_) hs
 subst ex
 obtain rfl:ov=Value.ref a:=rx
 exact lj I2 ea c n l ry λs3 I3=>⟨σ,_,I3,q2⟩
theorem uI {op:Operator}{rd:V->V->Hp->VK->Prop}(ha:PE X o ta)(hv:PE X value tv)(hop:B4 X op rd):PS X (.AugAssign (.Attribute o f tpos) op value pos) (ym X.K ta tv rd f):=by
 intro pins s σ H D I h
 refine wpAny_AugAssign_AttributeAny (thn (ha pins s σ H _ I h) λov s1 ⟨x,H1,I1,rx,a,C,dx,fs,v,ex,ea,c,n,l,q⟩=>?_)
 subst ex
 obtain rfl:ov=Value.ref a:=rx
 refine lW I1 ea c n l λu s2 I2 ru=>thn (hv pins s2 σ H1 _ I2 q) λw3 s3 ⟨y,H2,I3,ry,q3⟩=>thn (hop pins s3 σ H2 v y u w3 _ I3 ru ry q3) λw4 s4 ⟨z,H3,I4,rz,dx',fs',ea',l',q4⟩=>?_
 exact lj I4 ea' c n l' rz λs5 I5=>⟨σ,_,I5,q4⟩
def CG:V->V->Hp->VK->Prop:=λx y H Q => ∃ i j,x = .int i/\y = .int j/\Q (.int (i+j)) H
theorem AR:B4 X .Add CG:=by
 rintro pins s σ H x y u v Q I rx ry ⟨i,j,rfl,rfl,q⟩
 obtain⟨t,rfl⟩:=(show ∃ t,u=Value.int i t from rx)
 obtain⟨t',rfl⟩:=(show ∃ t',v=Value.int j t' from ry)
 exact PyProof.Rows.iadd_int ⟨.int (i+j),H,I.tok _,⟨_,rfl⟩,q⟩
theorem zJ {pl:Sem Bool}{m:Str}{apos:Pos}{args:List Expr}{pins:List (Addr×Obj)}{s:Shared}{σ:St}{H:Hp}{Q:Value->Shared->Prop}{te:TE}(he:PE X e te)(I:Inv X pins σ H s)
  (h:te σ H λx H1 => ∃ a C dx fs g,x = .ref a/\H1 a=some (.ins C dx fs)/\Cls X.K C/\Meth X.K C m g/\fs.lookup m=none /\
   ∀ s1,Inv X pins σ H1 s1->wpAny (model X.prog X.w) X.A (callWith pos (.ref g) [.ref a] (backTo pos (starEach args X.env)) (backToKw pos (keywordEach [] X.env))) Q X.xe s1)
  (ht:eval (.Call (.Attribute e m apos) args [] pos) X.env=(do
   let ov ← eval e X.env
   standAt apos.atName
   let (f,first) ← holding [ov] (getMethod ov m pl)
   callWith pos f first (backTo pos (starEach args X.env)) (backToKw pos (keywordEach [] X.env)))) :
  wpAny (model X.prog X.w) X.A (eval (.Call (.Attribute e m apos) args [] pos) X.env) Q X.xe s:=by
 refine PySem.W.methodCall_KW (pl:=pl) (thn (he pins s σ H _ I h) λu s1 ⟨x,H1,I1,rx,a,C,dx,fs,g,ex,ea,c,k,l,q⟩=>?_) ht
 subst ex
 obtain rfl:u=Value.ref a:=rx
 exact iu I1 ea c k l (q s1 I1)
end
section
variable {X:Cx}{pins:List (Addr×Obj)}{σ:St}{H:Hp}{s:Shared}{A:Around}{E:Value->Shared->Prop}{Q:Value->Shared->Prop}{c:Value}{b:Bool}
inductive TyOf (K:PySem.W.Frag) (H:Hp):V->Value->Prop where
 |non:TyOf K H .non (.type "NoneType")
 |bl (x:Bool):TyOf K H (.bl x) (.type "bool")
 |int (i:Int):TyOf K H (.int i) (.type "int")
 |str (x:Str):TyOf K H (.str x) (.type "str")
 |flt (x:UInt64):TyOf K H (.flt x) (.type "float")
 |lst {a:Addr}{xs:List V}(e:H a=some (.lst xs)):TyOf K H (.ref a) (.type "list")
 |frz {a:Addr}{o:Obj}{xs:List V}(e:H a=some (.frz o (.lst xs))):TyOf K H (.ref a) (.type "list")
 |tup {a:Addr}{xs:List V}(e:H a=some (.tup xs)):TyOf K H (.ref a) (.type "tuple")
 |dK {a:Addr}{kvs:List (Key×V)}(e:H a=some (.dK kvs)):TyOf K H (.ref a) (.type "dict")
 |dT {a:Addr}{kvs:List (List Key×V)}(e:H a=some (.dT kvs)):TyOf K H (.ref a) (.type "dict")
 |ins {a C dx:Addr}{fs:List (Str×V)}(e:H a=some (.ins C dx fs)) (cl:Cls K C) (ha:PySem.W.findIn K (.ref C) "__class__"=some (some (.builtin "object.__class__")))
   (hn:PySem.W.specialIn K (.builtin "object.__class__") "__get__"=some (some (.builtin "getset_descriptor.__get__"))) (htk:PySem.W.takesIn K (.builtin "object.__class__")=some true)
   (hm:PySem.W.mroIn K C (.type "object")=some true):TyOf K H (.ref a) (.ref C)
end
structure Room (k:Nat) (A:Around):Prop where
 hd:A.handled=none
 dp:A.depth+3*k+5<recursionLimit
 un:A.units+16*k+200<cLine
 gd:A.guards=some []
theorem Room.mono {j k:Nat}{A:Around}(r:Room k A)(h:j<=k):Room j A:=⟨r.hd,by have:=r.dp;omega,by have:=r.un;omega,r.gd⟩
theorem Room.deeper {k:Nat}{A:Around}(r:Room (k+1) A)(env:Env):Room k (A.deeper env):=
 ⟨r.hd,by have:=r.dp;show A.depth+1+3*k+5 < _;omega,by have:=r.un;show A.units+3+16*k+200 < _;omega,r.gd⟩
theorem rP {A:Around}{C:Addr}{us:List Value}{kw:List (Str×Value)}:(A.under (.builtin "type.__call__" ⟨.ref C::us,kw⟩)).depth=A.depth+1:=by
 first |rfl |simp[Around.under,Code.weight,Code.isCreation,Code.isGuard,Code.isCaller,Code.frames,Code.isFrame,guardIds]
theorem rO {A:Around}{C:Addr}{us:List Value}{kw:List (Str×Value)}:(A.under (.builtin "type.__call__" ⟨.ref C::us,kw⟩)).units=A.units+1:=by
 first |rfl |simp[Around.under,Code.cUnits,Code.frames,Code.isFrame]
theorem qf {A:Around}{C:Addr}{us:List Value}{kw:List (Str×Value)}:(A.under (.builtin "type.__call__" ⟨.ref C::us,kw⟩)).guards=A.guards:=by
 first |rfl |simp[Around.under,Code.guards,Code.isGuard,guardIds,pushGuards]
theorem Room.make {k:Nat}{A:Around}(r:Room (k+1) A)(C:Addr)(us:List Value)(kw:List (Str×Value)):Room k (A.under (.builtin "type.__call__" ⟨.ref C::us,kw⟩)):=
 ⟨r.hd,by have:=r.dp;rw[rP];omega,by have:=r.un;rw[rO];omega,by rw[qf];exact r.gd⟩
theorem Room.depth {k:Nat}{A:Around}(r:Room k A):A.depth<recursionLimit:=by have:=r.dp;omega
theorem Room.units {k:Nat}{A:Around}(r:Room k A):A.units+64<cLine:=by have:=r.un;omega
def k_:TA:=λ_ H Q=>Q [] H
def sU (ta:TE)(tr:TA):TA:=λσ H Q=>ta σ H λx H1=>tr σ H1 λxs H2=>Q (x::xs) H2
section
variable {X:Cx}{e:Expr}{es:List Expr}{te:TE}{t:TA}{pos:Pos}
theorem pa_nil:PA X [] k_:=λ_ _ _ _ H Q I h=>Calls.spliced_nil ⟨[],H,I,.nil,h⟩
theorem bH (ha:PE X e te)(hr:PA X es t)(hs:starEach (e::es) X.env=(false,eval e X.env)::starEach es X.env:=by rfl):PA X (e::es) (sU te t):=by
 intro pos pins s σ H Q I h
 rw[hs]
 show wpAny _ _ (spliced ((false,eval e X.env)::backTo pos (starEach es X.env))) _ _ s
 refine Calls.spliced_cons (thn (ha pins s σ H _ I h) λu s1 ⟨x,H1,I1,r1,q1⟩=>?_)
 exact thn (hr pos pins s1 σ H1 _ I1 q1) λus s2 ⟨xs,H2,I2,r2,q2⟩=>⟨x::xs,H2,I2,.cons r1 r2,q2⟩
def Co (t:TA):TE:=λσ H Q=>t σ H λxs H1=>xs.length<=sizeLine/\∀ p,H1 p=none->Q (.ref p) (upd H1 p (.tup xs))
def Cs (t:TA):TE:=λσ H Q=>t σ H λxs H1=>xs.length<=sizeLine/\∀ p,H1 p=none->Q (.ref p) (upd H1 p (.lst xs))
theorem Ap {x1}(h:PA X es t):PE X (.Tuple es x1 pos) (Co t):=by
 intro pins s σ H Q I hq
 refine wpAny_Tuple_spliced (thn (h pos pins s σ H _ I hq) λus s1 ⟨xs,H1,I1,r,z,q⟩=>⟨by rw[← r.length];exact z,?_⟩)
 have hf:H1 s1.heap.objs.size=none:=I1.hok.fresh (Nat.le_refl _)
 refine⟨.ref s1.heap.objs.size,upd H1 s1.heap.objs.size (.tup xs),I1.laid (t':=s1.toks) (λb u e=>Heap.get?_push_of_some _ e) (Nat.le_refl _) ?_,rfl,q _ hf⟩
 exact⟨z,us,r,TupN.new _ _⟩
theorem wo (h:PA X es t):PE X (.List es pos) (Cs t):=by
 intro pins s σ H Q I hq
 refine wpAny_List_spliced (thn (h pos pins s σ H _ I hq) λus s1 ⟨xs,H1,I1,r,z,q⟩=>⟨by rw[← r.length];exact z,?_⟩)
 have hf:H1 s1.heap.objs.size=none:=I1.hok.fresh (Nat.le_refl _)
 refine⟨.ref s1.heap.objs.size,upd H1 s1.heap.objs.size (.lst xs),I1.laid (t':=s1.toks) (λb u e=>Heap.get?_push_of_some _ e) (Nat.le_refl _) ?_,rfl,q _ hf⟩
 exact⟨z,us,0,r,Heap.get?_push_size _ rfl⟩
end
abbrev Sp:=List V->Hp->VK->XK->Prop
abbrev CXT:=List Env->Hp->Shared->XK->Value->Shared->Prop
structure Env0 (P:Program) (w:World) (K:PySem.W.Frag) (mg:Str->Option Value) (base:Heap) (A:Around) (outer:List Env) (s:Shared) (H:Hp):Prop where
 frames:A.frames=some outer
 mod:Mod K mg base
 bs:∀ b o,base.get? b=some o->s.heap.get? b=some o/\H b=none
 bsz:base.objs.size<=s.heap.objs.size
 funs:s.heap.FunFrames base outer
 frf:∀ b∈frs outer,H b=none
 hok:HOk P w H s.heap
 bare:AllBare s.gens
def CE (outer:List Env)(P:Program)(w:World)(H:Hp)(s:Shared)(Q:VK)(u:Value)(s':Shared):Prop:=
 ∃ v H',s'.os=s.os/\AllBare s'.gens/\Un (frs outer) [] H H' s.heap s'.heap/\HOk P w H' s'.heap/\RelV v u/\Q v H'
def CR (CX:CXT)(outer:List Env)(P:Program)(w:World)(H:Hp)(s:Shared)(Q:VK)(E:XK)(r:Result)(s':Shared):Prop:=
 match r with
 | .ok (.ret u)=>CE outer P w H s Q u s'
 | .ok _=>False
 | .error e=>CX outer H s E e s'
structure FnOk (P:Program) (w:World) (K:PySem.W.Frag) (mg:Str->Option Value) (base:Heap) (CX:CXT) (k:Nat) (f:Addr) (fd:FuncData) (ps:List Str) (sp:Sp):Prop where
 len:∀ vs H Q E,sp vs H Q E->vs.length=ps.length
 run:∀ (A:Around) (outer:List Env) (s:Shared) (H:Hp) (args:Args) (us:List Value) (vs:List V) (Q:VK) (E:XK),Room k A->Env0 P w K mg base A outer s H->BindsTo s fd args (ps.zip us)->Vals vs us->sp vs H Q E ->
  codeAny (model P w) A (.call (.ref f) args) (CR CX outer P w H s Q E) s
theorem FnOk.imp {P:Program}{w:World}{K:PySem.W.Frag}{mg:Str->Option Value}{base:Heap}{CX:CXT}{k:Nat}{f:Addr}{fd:FuncData}{ps:List Str}{sp sp':Sp}(F:FnOk P w K mg base CX k f fd ps sp)
  (h:∀ vs H Q E,sp' vs H Q E->sp vs H Q E):FnOk P w K mg base CX k f fd ps sp':=
 ⟨λvs H Q E q=>F.len vs H Q E (h _ _ _ _ q),λA outer s H args us vs Q E hr he hb hv hs=>F.run A outer s H args us vs Q E hr he hb hv (h _ _ _ _ hs)⟩
theorem Env0.make {P:Program}{w:World}{K:PySem.W.Frag}{mg:Str->Option Value}{base:Heap}{A:Around}{outer:List Env}{s:Shared}{H:Hp}(e:Env0 P w K mg base A outer s H)(C:Addr)(us:List Value)(kw:List (Str×Value)) :
  Env0 P w K mg base (A.under (.builtin "type.__call__" ⟨.ref C::us,kw⟩)) outer s H:=⟨by first |exact e.frames |(simpa [Around.under,Code.envs,Code.isFrame,pushEnvs] using e.frames),e.mod,e.bs,e.bsz,e.funs,e.frf,e.hok,e.bare⟩
section
variable {X:Cx}{pins:List (Addr×Obj)}{σ:St}{H:Hp}{s s':Shared}
theorem Inv.env0 (I:Inv X pins σ H s):Env0 X.prog X.w X.K X.mg X.base X.A X.stack s H:=
 ⟨I.ok.frames,I.ok.mod,I.bs,Nat.le_trans I.ok.bsz I.sz,I.stack,I.stkFree,I.hok,I.bare⟩
theorem Inv.after {Q:VK}{u:Value}(I:Inv X pins σ H s)(h:CE X.stack X.prog X.w H s Q u s'):EP X pins σ Q u s':=by
 obtain⟨v,H',os,bare,un,hok,r,q⟩:=h
 obtain⟨hh,g,d,t,os'⟩:=s'
 obtain rfl:os'=s.os:=os
 exact⟨v,H',I.call (h':=hh) (g':=g) (d':=d) (t':=t) (ch:=[]) un hok bare (λb z=>absurd z (by simp)),r,q⟩
end
def vG (sp:Sp)(dvs:List V)(E:XK)(t:TA):TE:=λσ H Q=>t σ H λvs H1=>sp (vs++dvs) H1 Q E
def zC (C:Addr)(m:Str)(sp:Sp)(dvs:List V)(E:XK)(ta:TE)(t:TA):TE:=λσ H Q=>ta σ H λx H1 => ∃ a dx fs,x = .ref a/\H1 a=some (.ins C dx fs)/\fs.lookup m=none /\
 t σ H1 λvs H2=>sp (x::(vs++dvs)) H2 Q E
def Bk (C:Addr)(sp:Sp)(dvs:List V)(E:XK)(t:TA):TE:=λσ H Q=>t σ H λvs H1 => ∀ x dx,H1 x=none->H1 dx=none->dx≠x ->
 sp (.ref x::(vs++dvs)) (upd (upd H1 dx (.own x)) x (.ins C dx [])) (λv H2=>v = .non/\Q (.ref x) H2) E
def Binds (K:PySem.W.Frag)(fd:FuncData)(ps:List Str)(ds:List Value):Prop:=
 ∀ (s:Shared) (us:List Value),K.In s.heap->(us++ds).length=ps.length->BindsTo s fd ⟨us,[]⟩ (ps.zip (us++ds))
theorem Binds.all {K:PySem.W.Frag}{fd:FuncData}{ps:List Str}(h:∀ us:List Value,us.length=ps.length->bindArgs fd ⟨us,[]⟩=pure (ps.zip us)):Binds K fd ps []:=λs us _ hl=>by
 rw[List.append_nil] at hl ⊢
 exact .of_eq (h us hl)
def Passes (CX:CXT)(X:Cx)(E:XK):Prop:=∀ (pins:List (Addr×Obj)) (σ:St) (H:Hp) (s:Shared) (e:Value) (s':Shared),Inv X pins σ H s->CX X.stack H s E e s'->X.xe e s'
section
variable {X:Cx}{CX:CXT}{k:Nat}{f C:Addr}{fd:FuncData}{ps:List Str}{sp:Sp}{dvs:List V}{ds:List Value}{E:XK}{x m:Str}{p pos apos:Pos}{e o:Expr}{es:List Expr}{ta:TE}{t:TA}
theorem rC {pins:List (Addr×Obj)}{σ:St}{H:Hp}{s:Shared}{Q:VK}{us:List Value}{vs:List V}(F:FnOk X.prog X.w X.K X.mg X.base CX k f fd ps sp)(hr:Room k X.A)(hb:Binds X.K fd ps ds)(hd:Vals dvs ds)(hx:Passes CX X E)
  (I:Inv X pins σ H s) (r:Vals vs us) (h:sp (vs++dvs) H Q E):wpAny (model X.prog X.w) X.A (call (.ref f) us) (EP X pins σ Q) X.xe s:=by
 have r2:Vals (vs++dvs) (us++ds):=r.append hd
 have hl:(us++ds).length=ps.length:=by rw[← r2.length];exact F.len _ _ _ _ h
 refine wpAny_call (codeAny_mono (F.run X.A X.stack s H ⟨us,[]⟩ (us++ds) (vs++dvs) Q E hr I.env0 (hb s us I.kIn hl) r2 h) λr s' hq=>?_)
 cases r with
 |error e=>exact hx pins σ H s e s' I hq
 |ok fl =>
  cases fl with
  |ret u=>exact I.after hq
  |next=>exact False.elim hq
  |brk=>exact False.elim hq
  |cont=>exact False.elim hq
theorem tD (F:FnOk X.prog X.w X.K X.mg X.base CX k f fd ps sp)(hr:Room k X.A)(hg:Gl X x)(hm:X.mg x=some (.ref f))(hk:PySem.W.keepIn X.K (.ref f)=true)(hb:Binds X.K fd ps ds)(hd:Vals dvs ds)(hx:Passes CX X E)
  (ha:PA X (e::es) t) (hdb:(x==("__debug__":Str))=false:=by decide) (he:starEach (e::es) X.env=(false,eval e X.env)::starEach es X.env:=by rfl) (hpl:(backTo pos (starEach es X.env)).any (·.1)=false:=by rfl) :
  PE X (.Call (.Name x p) (e::es) [] pos) (vG sp dvs E t):=by
 intro pins s σ H Q I h
 refine wpAny_Call_Name_kw (gP I hg hm ?_ hdb)
 refine PySem.W.callWith_K (h₀:=X.base) I.ok.mod.kin hk (thn (ha pos pins s σ H _ I h) λus s1 ⟨vs,H1,I1,r,q⟩=>⟨I1.kIn,?_⟩) he hpl
 exact rC F hr hb hd hx I1 r q
theorem yD {pl:Sem Bool}(he:PE X o ta)(c:Cls X.K C)(hm:Meth X.K C m f)(F:FnOk X.prog X.w X.K X.mg X.base CX k f fd ps sp)(hr:Room k X.A)(hb:Binds X.K fd ps ds)(hd:Vals dvs ds)(hx:Passes CX X E)(ha:PA X (e::es) t)
  (hst:starEach (e::es) X.env=(false,eval e X.env)::starEach es X.env:=by rfl) (hpl:(backTo pos (starEach es X.env)).any (·.1)=false:=by rfl)
  (ht:eval (.Call (.Attribute o m apos) (e::es) [] pos) X.env=(do
   let ov ← eval o X.env
   standAt apos.atName
   let (f,first) ← holding [ov] (getMethod ov m pl)
   callWith pos f first (backTo pos (starEach (e::es) X.env)) (backToKw pos (keywordEach [] X.env))):=by rfl) :
  PE X (.Call (.Attribute o m apos) (e::es) [] pos) (zC C m sp dvs E ta t):=by
 intro pins s σ H Q I h
 refine PySem.W.methodCall_KW (pl:=pl) (thn (he pins s σ H _ I h) λu s1 ⟨x,H1,I1,rx,a,dx,fs,ex,ea,l,q⟩=>?_) ht
 subst ex
 obtain rfl:u=Value.ref a:=rx
 refine iu I1 ea c hm l ?_
 refine PySem.W.callWith_K (first:=[.ref a]) (h₀:=X.base) I.ok.mod.kin hm.kp (thn (ha pos pins s1 σ H1 _ I1 q) λus s2 ⟨vs,H2,I2,r,q2⟩=>⟨I2.kIn,?_⟩) hst hpl
 exact rC (us:=.ref a::us) (vs:=.ref a::vs) F hr hb hd hx I2 (.cons rfl r) q2
theorem pQ {pl:Sem Bool}(he:PE X o ta)(c:Cls X.K C)(hm:Meth X.K C m f)(F:FnOk X.prog X.w X.K X.mg X.base CX k f fd ps sp)(hr:Room k X.A)(hb:Binds X.K fd ps ds)(hd:Vals dvs ds)(hx:Passes CX X E)
  (ht:eval (.Call (.Attribute o m apos) [] [] pos) X.env=(do
   let ov ← eval o X.env
   standAt apos.atName
   let (f,first) ← holding [ov] (getMethod ov m pl)
   callWith pos f first (backTo pos (starEach [] X.env)) (backToKw pos (keywordEach [] X.env))):=by rfl) :
  PE X (.Call (.Attribute o m apos) [] [] pos) (zC C m sp dvs E ta k_):=by
 intro pins s σ H Q I h
 refine PySem.W.methodCall_KW (pl:=pl) (thn (he pins s σ H _ I h) λu s1 ⟨x,H1,I1,rx,a,dx,fs,ex,ea,l,q⟩=>?_) ht
 subst ex
 obtain rfl:u=Value.ref a:=rx
 refine iu I1 ea c hm l ?_
 exact PySem.W.callWith_K0 (first:=[.ref a]) I1.kIn hm.kp (rC (us:=[.ref a]) (vs:=[.ref a]) F hr hb hd hx I1 (.cons rfl .nil) q)
structure Mk (K:PySem.W.Frag) (C f:Addr):Prop where
 makes:PySem.W.makesIn K C=true
 init:PySem.W.findIn K (.ref C) "__init__"=some (some (.ref f))
 fn:PySem.W.isFn K (.ref f)=true
 kp:PySem.W.keepIn K (.ref C)=true
theorem v6 {pins:List (Addr×Obj)}{σ:St}{H:Hp}{s:Shared}{Q:VK}{us:List Value}{vs:List V}(M:Mk X.K C f)(F:FnOk X.prog X.w X.K X.mg X.base CX k f fd ps sp)(hr:Room (k+1) X.A)(hb:Binds X.K fd ps ds)(hd:Vals dvs ds)
  (hx:Passes CX X E) (I:Inv X pins σ H s) (r:Vals vs us)
  (h:∀ x dx,H x=none->H dx=none->dx≠x->sp (.ref x::(vs++dvs)) (upd (upd H dx (.own x)) x (.ins C dx [])) (λv H2=>v = .non/\Q (.ref x) H2) E) :
  wpAny (model X.prog X.w) X.A (call (.ref C) us) (EP X pins σ Q) X.xe s:=by
 have hq:=h (s.heap.objs.size+1) s.heap.objs.size (I.hok.fresh (Nat.le_succ _)) (I.hok.fresh (Nat.le_refl _)) (Nat.ne_of_lt (Nat.lt_succ_self _))
 have I2:=Inv.made (C:=C) I
 have r2:Vals (V.ref (s.heap.objs.size+1)::(vs++dvs)) (Value.ref (s.heap.objs.size+1)::(us++ds)):=.cons rfl (r.append hd)
 have hl:(Value.ref (s.heap.objs.size+1)::us++ds).length=ps.length:=by
  have e:=r2.length
  rw[F.len _ _ _ _ hq] at e
  exact e.symm
 refine wpAny_call (wL (f:=f) I.kIn M.makes M.init (beq_iff_eq.mp M.fn) (codeAny_mono (F.run _ X.stack _ _ ⟨Value.ref (s.heap.objs.size+1)::us,[]⟩ (Value.ref (s.heap.objs.size+1)::(us++ds)) _ _ E (hr.make C us [])
  (I2.env0.make C us []) (hb _ (Value.ref (s.heap.objs.size+1)::us) I2.kIn hl) r2 hq) λr s' hq'=>?_))
 cases r with
 |error e=>exact hx pins σ _ _ e s' I2 hq'
 |ok fl =>
  cases fl with
  |ret u =>
   obtain⟨v,H',I3,rv,ev,q3⟩:=I2.after hq'
   subst ev
   exact⟨rv,⟨V.ref (s.heap.objs.size+1),H',I3,rfl,q3⟩⟩
  |next=>exact False.elim hq'
  |brk=>exact False.elim hq'
  |cont=>exact False.elim hq'
theorem yE (M:Mk X.K C f)(F:FnOk X.prog X.w X.K X.mg X.base CX k f fd ps sp)(hr:Room (k+1) X.A)(hg:Gl X x)(hm:X.mg x=some (.ref C))(hb:Binds X.K fd ps ds)(hd:Vals dvs ds)(hx:Passes CX X E)
  (ha:PA X (e::es) t) (hdb:(x==("__debug__":Str))=false:=by decide) (he:starEach (e::es) X.env=(false,eval e X.env)::starEach es X.env:=by rfl) (hpl:(backTo pos (starEach es X.env)).any (·.1)=false:=by rfl) :
  PE X (.Call (.Name x p) (e::es) [] pos) (Bk C sp dvs E t):=by
 intro pins s σ H Q I h
 refine wpAny_Call_Name_kw (gP I hg hm ?_ hdb)
 refine PySem.W.callWith_K (h₀:=X.base) I.ok.mod.kin M.kp (thn (ha pos pins s σ H _ I h) λus s1 ⟨vs,H1,I1,r,q⟩=>⟨I1.kIn,?_⟩) he hpl
 exact v6 M F hr hb hd hx I1 r q
end
section
variable {X:Cx}{CX:CXT}{k:Nat}{f C:Addr}{fd:FuncData}{ps ks:List Str}{sp:Sp}{E:XK}{x m:Str}{p pos apos kpos:Pos}{e o:Expr}{es:List Expr}{kws:List Keyword}{te ta:TE}{t tk:TA}{nm:Option Str}
structure KBinds (K:PySem.W.Frag) (fd:FuncData) (ps ks:List Str) (g:List Value->List Value->List Value) (gV:List V->List V->List V):Prop where
 to:∀ (s:Shared) (us ws:List Value),K.In s.heap->(g us ws).length=ps.length->BindsTo s fd ⟨us,ks.zip ws⟩ (ps.zip (g us ws))
 rel:∀ {vs:List V}{us:List Value}{zs:List V}{ws:List Value},Vals vs us->Vals zs ws->Vals (gV vs zs) (g us ws)
variable {g:List Value->List Value->List Value}{gV:List V->List V->List V}
end
structure FnScope (N P:List Str) (sc:Scope):Prop where
 kind:sc.kind = .function
 co:sc.isCoroutine=false
 gen:sc.isGenerator=false
 nd:N.Nodup
 pre:N.take P.length=P
 par:∀ x∈P,sc.names.lookup x=some .local∨sc.names.lookup x=some .cell
 nofree:∀ y∈sc.names,y.2≠.free
theorem nS {kindOf:Str->Option NameKind}{x:Str}:∀ {binds:List (Str×Value)}{m:Str->Option Value},(∀ v,(x,v)∉binds)->bindL kindOf binds m x=m x
 |[],_,_=>rfl
 |(n,v)::r,m,h=>by
  unfold bindL
  rw[nS λw hw=>h w (List.mem_cons_of_mem _ hw)]
  split
  ·have:x≠n:=by rintro rfl;exact h v List.mem_cons_self
   simp[this]
  ·rfl
theorem nU {kindOf:Str->Option NameKind}{x:Str}:∀ {binds:List (Str×Value)}{m:Str->Option Value},(∀ v,(x,v)∉binds)->bindC kindOf binds m x=m x
 |[],_,_=>rfl
 |(n,v)::r,m,h=>by
  unfold bindC
  rw[nU λw hw=>h w (List.mem_cons_of_mem _ hw)]
  split
  ·rfl
  ·have:x≠n:=by rintro rfl;exact h v List.mem_cons_self
   simp[this]
theorem nT {kindOf:Str->Option NameKind}{x:Str}{v:Value}:∀ {P:List Str}{vs:List Value}{i:Nat}{m:Str->Option Value},P.Nodup->P[i]?=some x->vs[i]?=some v->kindOf x=some .local ->
  bindL kindOf (P.zip vs) m x=some v
 |[],_,_,_,_,h,_,_=>by simp at h
 |_::_,[],_,_,_,_,h,_=>by simp at h
 |p::P,w::vs,0,m,nd,h1,h2,hk=>by
  simp at h1 h2;subst h1;subst h2
  show bindL kindOf ((p,w)::P.zip vs) m p=_
  unfold bindL
  rw[nS λv hv=>(List.nodup_cons.mp nd).1 (List.of_mem_zip hv).1,if_pos hk]
  simp
 |p::P,w::vs,i+1,m,nd,h1,h2,hk=>by
  show bindL kindOf ((p,w)::P.zip vs) m x=_
  unfold bindL
  exact nT (i:=i) (List.nodup_cons.mp nd).2 (by simpa using h1) (by simpa using h2) hk
theorem nV {kindOf:Str->Option NameKind}{x:Str}{v:Value}:∀ {P:List Str}{vs:List Value}{i:Nat}{m:Str->Option Value},P.Nodup->P[i]?=some x->vs[i]?=some v->kindOf x≠some .local ->
  bindC kindOf (P.zip vs) m x=some v
 |[],_,_,_,_,h,_,_=>by simp at h
 |_::_,[],_,_,_,_,h,_=>by simp at h
 |p::P,w::vs,0,m,nd,h1,h2,hk=>by
  simp at h1 h2;subst h1;subst h2
  show bindC kindOf ((p,w)::P.zip vs) m p=_
  unfold bindC
  rw[nU λv hv=>(List.nodup_cons.mp nd).1 (List.of_mem_zip hv).1,if_neg hk]
  simp
 |p::P,w::vs,i+1,m,nd,h1,h2,hk=>by
  show bindC kindOf ((p,w)::P.zip vs) m x=_
  unfold bindC
  exact nV (i:=i) (List.nodup_cons.mp nd).2 (by simpa using h1) (by simpa using h2) hk
noncomputable def start (N:List Str)(vs:List V):St:=vs.map some++List.replicate (N.length-vs.length) none
noncomputable def cT (CX:CXT)(P:Program)(w:World)(K:PySem.W.Frag)(mg:Str->Option Value)(base:Heap)(N:List Str)(qual:Str)(scope:Scope)(f:Addr)(cd:Value)(A:Around)(outer:List Env)(s:Shared)(H:Hp)(E:XK):Cx where
 prog:=P
 w:=w
 K:=K
 mg:=mg
 base:=base
 A:=A.deeper (envOfC qual scope s.heap.objs.size f cd)
 N:=N
 s₀:=s
 H₀:=H
 env:=envOfC qual scope s.heap.objs.size f cd
 outer:=outer
 stack:=envOfC qual scope s.heap.objs.size f cd::outer
 ex:=[]
 calm:=true
 fn:=λ_=>true
 pn:=[]
 xe:=λe s'=>wpAny (model P w) (A.deeper (envOfC qual scope s.heap.objs.size f cd)) (leaving (envOfC qual scope s.heap.objs.size f cd) e) (λ_ s''=>CX outer H s E e s'') (λe' s''=>CX outer H s E e' s'') s'
theorem qF {sc:Scope}{n:Nat}{x:Str}(h:sc.names.lookup x=some .cell):∃ c,(cellsFrom n sc.names []).lookup x=some c:=by
 have q:=PySem.W.cellsFrom_some sc.names n [] (.inl h)
 exact Option.isSome_iff_exists.mp q
theorem u6 {CX:CXT}{P:Program}{w:World}{K:PySem.W.Frag}{mg:Str->Option Value}{base:Heap}{N ps:List Str}{qual:Str}{scope:Scope}{f:Addr}{cd:Value}{A:Around}{outer:List Env}{s s1:Shared}{H:Hp}{E:XK}{us:List Value}{vs:List V}
  (S:FnScope N ps scope) (hd:A.handled=none) (e0:Env0 P w K mg base A outer s H) (hl:vs.length=ps.length) (r:Vals vs us)
  (x:InCallC s s.heap.objs.size (bindL (envOfC qual scope s.heap.objs.size f cd).kindOf (ps.zip us) λ_=>none) (cellsFrom (s.heap.objs.size+1) scope.names []) (bindC (envOfC qual scope s.heap.objs.size f cd).kindOf (ps.zip us) λ_=>none) s1) :
  Inv (cT CX P w K mg base N qual scope f cd A outer s H E) [] (start N vs) H s1:=by
 have hpl:ps.length<=N.length:=by have:=congrArg List.length S.pre;rw[List.length_take] at this;omega
 obtain⟨h1,tk,rfl,hk⟩:=x.done
 have noA:∀ b:Addr,b∉(cT CX P w K mg base N qual scope f cd A outer s H E).ex:=λb z=>absurd (show b∈([]:List Addr) from z) (by simp)
 refine⟨⟨e0.mod,S.kind,rfl,rfl,Nat.le_refl _,λy z c h1 h2=>?_,λy hy=>?_,λy c _ h=>?_,λ_=>hd,Around.frames_deeper e0.frames,.inr ⟨rfl,rfl⟩,λb z=>absurd z (noA b),e0.bs,e0.bsz,λb _ _=>noA b,λb z=>absurd z (noA b),e0.funs,e0.frf⟩,
  rfl,e0.bare,Un.kept hk,⟨_,x.toInCall.ns,λi y v h1 h2 h3=>?_⟩,λy c h=>⟨_,x.cell y c h⟩,e0.hok.fresh (Nat.le_refl _),λy c h=>?_,λp hp=>absurd (show p∈([]:List (Addr×Obj)) from hp) (by simp),e0.hok.kept hk,?_⟩
 ·exact name_of_addr x.apart (PySem.mem_of_lookup h1) (PySem.mem_of_lookup h2)
 ·have hy:scope.names.lookup y=some .cell∨scope.names.lookup y=some .free:=hy
  rcases hy with hy |hy
  ·exact qF hy
  ·exact absurd rfl (S.nofree _ (PySem.mem_of_lookup hy))
 ·exact Nat.le_of_lt (x.above y c (PySem.mem_of_lookup h))
 ·have hi:i<vs.length:=by
   unfold start at h2
   by_cases hi:i<vs.length
   ·exact hi
   ·rw[List.getElem?_append_right (by simpa using hi)] at h2
    rw[List.getElem?_replicate] at h2
    split at h2<;>cases h2
  have ha:vs[i]?=some v:=by
   unfold start at h2
   rw[List.getElem?_append_left (by simpa using hi),List.getElem?_map] at h2
   cases e:vs[i]? with
   |none=>rw[e] at h2;cases h2
   |some a=>rw[e] at h2;cases h2;rfl
  obtain⟨u,hu,rv⟩:=r.get ha
  have hp:ps[i]?=some y:=by
   rw[← S.pre,List.getElem?_take_of_lt (by omega)];exact h1
  have ndP:ps.Nodup:=by rw[← S.pre];exact S.nd.sublist (List.take_sublist _ _)
  refine⟨u,rv,?_⟩
  rcases S.par y (List.mem_of_getElem? hp) with k |k
  ·exact .inl ⟨k,nT ndP hp hu k⟩
  ·obtain⟨c,e⟩:=qF (n:=s.heap.objs.size+1) k
   refine .inr ⟨.inl k,c,e,?_⟩
   have q:=x.cell y c e
   rw[nV ndP hp hu (by show scope.names.lookup y≠_;rw[k];decide)] at q
   exact q
 ·exact e0.hok.fresh (Nat.le_of_lt (x.above y c (PySem.mem_of_lookup h)))
 ·unfold start
  show _=N.length
  rw[List.length_append,List.length_map,List.length_replicate]
  omega
theorem zN {CX:CXT}{P:Program}{w:World}{K:PySem.W.Frag}{mg:Str->Option Value}{base:Heap}{k:Nat}{f:Addr}{name qual:Str}{params:Arguments}{body:List Stmt}{scope:Scope}{dV kV doc pm cdv ct oc:Value}{an od:Option Addr}
  {osl:Array (Option Value)}{N ps:List Str}{sp:Sp}(lk:K.lookup f=some ⟨oc,od,.func (PySem.W.fnOf name qual params body scope dV kV doc pm an cdv ct),osl⟩) (hcd:PySem.W.codeIn K cdv qual=true) (S:FnScope N ps scope)
  (len:∀ vs H Q E,sp vs H Q E->vs.length=ps.length)
  (hbody:∀ (A:Around) (outer:List Env) (s:Shared) (H:Hp) (vs:List V) (Q:VK) (E:XK),Room k (A.deeper (envOfC qual scope s.heap.objs.size f cdv))->sp vs H Q E ->
   ∃ t,PSs (cT CX P w K mg base N qual scope f cdv A outer s H E) body t/\t { nx:=λ_ H'=>Q .non H',rt:=Q } (start N vs) H) :
  FnOk P w K mg base CX (k+1) f (PySem.W.fnOf name qual params body scope dV kV doc pm an cdv ct) ps sp:=by
 refine⟨len,λA outer s H args us vs Q E hr e0 hb r hsp=>?_⟩
 have hl:=len _ _ _ _ hsp
 have KX:K.In s.heap:=e0.mod.kin.keeps λb o e=>(e0.bs b o e).1
 have lim:s.heap.NoLimit:=e0.mod.nolimit.keeps λb o e=>(e0.bs b o e).1
 have hkind:∀ y∈ps.zip us,scope.names.lookup y.1=some .local∨(scope.names.lookup y.1=some .cell/\((cellsFrom (s.heap.objs.size+1) scope.names []).lookup y.1).isSome=true):=λ⟨n,v⟩ hy=>by
  rcases S.par n (List.of_mem_zip hy).1 with q |q
  ·exact .inl q
  ·exact .inr ⟨q,PySem.W.cellsFrom_some _ _ _ (.inl q)⟩
 refine codeAny_call_function hr.depth (KX _ _ lk) rfl S.co S.gen rfl (PySem.W.codeRec_of KX hcd) (hb _ _ _ _ ?_)
 refine wpAny_newFunctionEnv_cells S.kind hkind λenv he s1 x=>?_
 subst he
 refine⟨lim.keeps x.toInCall.keep,codeAny_func ?_⟩
 obtain⟨t,ht,hq⟩:=hbody A outer s H vs Q E (hr.deeper _) hsp
 have I:Inv (cT CX P w K mg base N qual scope f cdv A outer s H E) [] (start N vs) H s1:=u6 S hr.hd e0 hl r x
 refine wpAny_mono (ht [] s1 (start N vs) H _ I hq) (λfl s' hs=>?_) λe s' hs=>hs
 have fin:∀ {σ':St}{H':Hp}{v:V}{u:Value},Inv (cT CX P w K mg base N qual scope f cdv A outer s H E) [] σ' H' s'->RelV v u->Q v H'->CE outer P w H s Q u s':=
  λ{σ' H' v u} J rv q=>⟨v,H',J.os,J.bare,J.base,J.hok,rv,q⟩
 cases fl with
 |ret u =>
  obtain⟨v,σ',H',J,rv,q⟩:=hs
  exact fin J rv q
 |next =>
  obtain⟨σ',H',J,q⟩:=hs
  exact fin (v:=V.non) (u:=Value.none) J rfl q
 |brk =>
  obtain⟨_,_,_,q⟩:=hs
  exact False.elim q
 |cont =>
  obtain⟨_,_,_,q⟩:=hs
  exact False.elim q
section
variable {X:Cx}{x:Str}{p pos:Pos}{e:Expr}{es:List Expr}{t:TA}{id T:String}{r:List V->Hp->VK->Prop}
def tCB (r:List V->Hp->VK->Prop)(t:TA):TE:=λσ H Q=>t σ H λvs H1=>r vs H1 Q
theorem fZ (hc:eT X (.builtin id) r)(hg:Gl X x)(hm:X.mg x=none)(hv:bootBuiltins x=some (.builtin id))(ha:PA X (e::es) t)(hn:x≠"__name__":=by decide)(hdb:(x==("__debug__":Str))=false:=by decide)
  (he:starEach (e::es) X.env=(false,eval e X.env)::starEach es X.env:=by rfl) (hpl:(backTo pos (starEach es X.env)).any (·.1)=false:=by rfl):PE X (.Call (.Name x p) (e::es) [] pos) (tCB r t):=by
 intro pins s σ H Q I h
 refine wpAny_Call_Name_kw (lN I hg hm hv ?_ hn hdb)
 exact PyProof.Rows.callWith_builtin1 (thn (ha pos pins s σ H _ I h) λus s1 ⟨vs,H1,I1,r1,q1⟩=>hc pins s1 σ H1 vs us Q I1 r1 q1) he hpl
theorem jG (hc:eT X (.type T) r)(hg:Gl X x)(hm:X.mg x=none)(hv:bootBuiltins x=some (.type T))(ha:PA X (e::es) t)(hn:x≠"__name__":=by decide)(hdb:(x==("__debug__":Str))=false:=by decide)
  (he:starEach (e::es) X.env=(false,eval e X.env)::starEach es X.env:=by rfl) (hpl:(backTo pos (starEach es X.env)).any (·.1)=false:=by rfl):PE X (.Call (.Name x p) (e::es) [] pos) (tCB r t):=by
 intro pins s σ H Q I h
 refine wpAny_Call_Name_kw (lN I hg hm hv ?_ hn hdb)
 exact PyProof.Rows.callWith_type1 (thn (ha pos pins s σ H _ I h) λus s1 ⟨vs,H1,I1,r1,q1⟩=>hc pins s1 σ H1 vs us Q I1 r1 q1) he hpl
end
section
variable {κ:Type} [DecidableEq κ]
noncomputable def iU (kvs:List (κ×V))(k : κ):Option V:=(kvs.find? λkv=>decide (kv.1=k)).map (·.2)
noncomputable def putK (kvs:List (κ×V))(k : κ)(v:V):List (κ×V):=
 if (kvs.any λkv=>decide (kv.1=k))=true then kvs.map (λkv=>if kv.1=k then (kv.1,v) else kv) else kvs++[(k,v)]
theorem kX {p : κ×V}{r:List (κ×V)}{k : κ}(e:p.1=k):iU (p::r) k=some p.2:=by simp[iU,List.find?_cons,e]
theorem kY {p : κ×V}{r:List (κ×V)}{k : κ}(e:¬ p.1=k):iU (p::r) k=iU r k:=by simp[iU,List.find?_cons,e]
theorem pF (k : κ):∀ kvs:List (κ×V),(kvs.any λkv=>decide (kv.1=k))=(iU kvs k).isSome
 |[]=>rfl
 |p::r=>by
  rw[List.any_cons]
  by_cases e:p.1=k
  ·simp only[kX e,decide_eq_true e,Bool.true_or,Option.isSome_some]
  ·rw[kY e,decide_eq_false e,Bool.false_or];exact pF k r
theorem kh (kvs:List (κ×V))(k : κ)(v:V):(putK kvs k v).length<=kvs.length+1:=by
 unfold putK
 split
 ·rw[List.length_map];omega
 ·rw[List.length_append,List.length_cons,List.length_nil];omega
theorem RelO.isSome_eq {o:Option V}{u:Option Value}(r:RelO o u):o.isSome=u.isSome:=by
 cases o with
 |none=>cases u with
  |none=>rfl
  |some _=>exact (show False from r).elim
 |some _=>cases u with
  |none=>exact (show False from r).elim
  |some _=>rfl
theorem KV.val {kvs:List (κ×V)}{vs:List (κ×Value)}(r:KV kvs vs)(k : κ):RelO (iU kvs k) (valueAt vs k):=by
 unfold KV at r
 induction r with
 |nil=>exact True.intro
 | @cons p q ps qs h t ih =>
  obtain⟨h1,h2⟩:=h
  by_cases e:p.1=k
  ·have e':q.1=k:=h1.symm.trans e
   have b:valueAt (q::qs) k=some q.2:=by simp[valueAt,List.find?_cons,e']
   rw[kX e,b];exact h2
  ·have e':¬ q.1=k:=λz=>e (h1.trans z)
   have b:valueAt (q::qs) k=valueAt qs k:=by simp[valueAt,List.find?_cons,e']
   rw[kY e,b];exact ih
theorem KV.any {kvs:List (κ×V)}{vs:List (κ×Value)}(r:KV kvs vs)(k : κ):(kvs.any λkv=>decide (kv.1=k))=vs.any λkv=>decide (kv.1=k):=by
 unfold KV at r
 induction r with
 |nil=>rfl
 |cons h t ih=>rw[List.any_cons,List.any_cons,ih,h.1]
theorem KV.repl {kvs:List (κ×V)}{vs:List (κ×Value)}(r:KV kvs vs)(k : κ){y:V}{u:Value}(ry:RelV y u) :
  KV (kvs.map λkv=>if kv.1=k then (kv.1,y) else kv) (vs.map λkv=>if kv.1=k then (kv.1,u) else kv):=by
 unfold KV at r ⊢
 induction r with
 |nil=>exact .nil
 | @cons p q ps qs h t ih =>
  rw[List.map_cons,List.map_cons]
  refine .cons ?_ ih
  obtain⟨h1,h2⟩:=h
  by_cases e:p.1=k
  ·rw[if_pos e,if_pos (h1.symm.trans e)];exact⟨h1,ry⟩
  ·rw[if_neg e,if_neg (λz=>e (h1.trans z))];exact⟨h1,h2⟩
theorem KV.put {kvs:List (κ×V)}{vs:List (κ×Value)}(r:KV kvs vs)(k : κ){y:V}{u:Value}(ry:RelV y u):KV (putK kvs k y) (stored vs k u):=by
 unfold putK stored
 rw[r.any k]
 by_cases e:(vs.any λkv=>decide (kv.1=k))=true
 ·rw[if_pos e,if_pos e];exact r.repl k ry
 ·rw[if_neg e,if_neg e];exact Paired.snoc r ⟨rfl,ry⟩
theorem KV.length {kvs:List (κ×V)}{vs:List (κ×Value)}(r:KV kvs vs):kvs.length=vs.length:=Paired.length r
end
theorem nB {P:Program}{w:World}{k:Key}{u:Value}(r:RelV (kV k) u):(bh P w).is k u=true:=by
 cases k with
 |inl i=>obtain⟨t,e⟩:=(show ∃ t,u=Value.int i t from r);subst e;exact p_ P w i t
 |inr x=>obtain⟨t,e⟩:=(show ∃ t,u=Value.str x t from r);subst e;exact p9 P w x t
theorem nD {P:Program}{w:World}:∀ {ks:List Key}{us:List Value},Vals (ks.map kV) us->ItemsAre (bh P w) ks us
 |[],_,r=>by rw[List.map_nil] at r;cases r;exact .nil
 |k::ks,_,r=>by
  rw[List.map_cons] at r
  cases r with
  |cons h t=>exact .cons (nB h) (nD t)
abbrev KT (H:Hp):List (List Key×V)->List (List Key×Addr×Value)->Prop:=Paired λp q=>p.1=q.1/\H q.2.1=some (.tup (p.1.map kV))/\RelV p.2 q.2.2
theorem KT.val {H:Hp}{kvs:List (List Key×V)}{xs:List (List Key×Addr×Value)}(r:KT H kvs xs)(k:List Key):RelO (iU kvs k) ((atKey xs k).map (·.2)):=by
 induction r with
 |nil=>exact True.intro
 | @cons p q ps qs h t ih =>
  obtain⟨h1,_,h2⟩:=h
  by_cases e:p.1=k
  ·have e':q.1=k:=h1.symm.trans e
   have b:atKey (q::qs) k=some q.2:=by simp[atKey,List.find?_cons,e']
   rw[kX e,b];exact h2
  ·have e':¬ q.1=k:=λz=>e (h1.trans z)
   have b:atKey (q::qs) k=atKey qs k:=by simp[atKey,List.find?_cons,e']
   rw[kY e,b];exact ih
theorem KT.repl {H:Hp}{kvs:List (List Key×V)}{xs:List (List Key×Addr×Value)}(r:KT H kvs xs)(k:List Key){y:V}{u:Value}(ry:RelV y u) :
  KT H (kvs.map λkv=>if kv.1=k then (kv.1,y) else kv) (xs.map (putAt k u)):=by
 induction r with
 |nil=>exact .nil
 | @cons p q ps qs h t ih =>
  rw[List.map_cons,List.map_cons]
  refine .cons ?_ ih
  obtain⟨h1,h2,h3⟩:=h
  unfold putAt
  by_cases e:p.1=k
  ·rw[if_pos e,if_pos (h1.symm.trans e)];exact⟨h1,h2,ry⟩
  ·rw[if_neg e,if_neg (λz=>e (h1.trans z))];exact⟨h1,h2,h3⟩
theorem KT.put {H:Hp}{kvs:List (List Key×V)}{xs:List (List Key×Addr×Value)}(r:KT H kvs xs)(k:List Key){b:Addr}{y:V}{u:Value}(hb:H b=some (.tup (k.map kV)))(ry:RelV y u) :
  KT H (putK kvs k y) (storedH xs k b u):=by
 have e:(kvs.any λkv=>decide (kv.1=k))=(atKey xs k).isSome:=by
  rw[pF,(r.val k).isSome_eq,Option.isSome_map]
 unfold putK storedH
 rw[e]
 by_cases q:(atKey xs k).isSome=true
 ·rw[if_pos q,if_pos q];exact r.repl k ry
 ·rw[if_neg q,if_neg q];exact Paired.snoc r ⟨rfl,hb,ry⟩
theorem KT.keeps {H H':Hp}{kvs:List (List Key×V)}{xs:List (List Key×Addr×Value)}(r:KT H kvs xs)(ht:∀ b ys,H b=some (.tup ys)->H' b=some (.tup ys)):KT H' kvs xs:=
 Paired.mapP r λ_ _ z=>⟨z.1,ht _ _ z.2.1,z.2.2⟩
section
variable {P:Program}{w:World}{H:Hp}{h:Heap}{a:Addr}
theorem zE {u:HO}(ok:HOk P w H h)(e:Rd H a u):ObjOk P w H h a u:=e.ok ok
theorem qB {kvs:List (Key×V)}(ok:HOk P w H h)(e:Rd H a (.dK kvs)):kvs.length<=sizeLine/\(a==sysModules)=false/\∃ vs,KV kvs vs/\h.DictOf (bh P w) a vs:=
 show ObjOk P w H h a (.dK kvs) from zE ok e
theorem B1 {kvs:List (Key×V)}(ok:HOk P w H h)(e:H a=some (.dK kvs)):kvs.length<=sizeLine/\(a==sysModules)=false/\∃ vs,KV kvs vs/\h.DictOf (bh P w) a vs:=qB ok (.inl e)
theorem lO {ks:List Key}(ok:HOk P w H h)(e:H a=some (.tup (ks.map kV))):(tupleKind (bh P w)).is h ks a:=by
 obtain⟨_,its,r,p⟩:=(show ObjOk P w H h a (.tup (ks.map kV)) from ok a _ e)
 obtain⟨o,h1,h2,n,h3⟩:=p.tup
 exact⟨o,its.toArray,n,h1,h2,h3,by simpa using nD r⟩
theorem qA {kvs:List (List Key×V)}(ok:HOk P w H h)(e:Rd H a (.dT kvs)):kvs.length<=sizeLine/\(a==sysModules)=false /\
  ∃ xs,KT H kvs xs/\h.DictOfH (tupleKind (bh P w)) a xs:=by
 obtain⟨z,y,xs,r,o,es,ep,h1,h2,h3,h4,h5⟩:=(show ObjOk P w H h a (.dT kvs) from zE ok e)
 refine⟨z,y,xs,r,o,es,ep,h1,h2,h3,h4,λx hx=>?_,h5⟩
 have all:∀ {l:List (List Key×V)}{m:List (List Key×Addr×Value)},KT H l m->∀ x∈m,(tupleKind (bh P w)).is h x.1 x.2.1:=by
  intro l m q
  induction q with
  |nil=>intro x hx;exact nomatch hx
  | @cons p q ps qs hq t ih =>
   intro x hx
   rcases List.mem_cons.mp hx with e |hx
   ·subst e
    exact lO ok (by rw[← hq.1];exact hq.2.1)
   ·exact ih x hx
 exact all r x hx
theorem B0 {kvs:List (List Key×V)}(ok:HOk P w H h)(e:H a=some (.dT kvs)):kvs.length<=sizeLine/\(a==sysModules)=false /\
  ∃ xs,KT H kvs xs/\h.DictOfH (tupleKind (bh P w)) a xs:=qA ok (.inl e)
end
def DGet (H:Hp)(a:Addr)(y:V)(r:Option V):Prop:=
 (∃ kvs k,Rd H a (.dK kvs)/\y=kV k/\r=iU kvs k)∨∃ kvs k b,Rd H a (.dT kvs)/\y = .ref b/\H b=some (.tup (k.map kV))/\r=iU kvs k
def DPut (H:Hp)(a:Addr)(y v:V)(H':Hp):Prop:=
 (∃ kvs k,H a=some (.dK kvs)/\y=kV k/\kvs.length<sizeLine/\H'=upd H a (.dK (putK kvs k v))) ∨
 ∃ kvs k b,H a=some (.dT kvs)/\y = .ref b/\H b=some (.tup (k.map kV))/\kvs.length<sizeLine/\H'=upd H a (.dT (putK kvs k v))
theorem DGet.k {H:Hp}{a:Addr}{kvs:List (Key×V)}{k:Key}(e:H a=some (.dK kvs)):DGet H a (kV k) (iU kvs k):=.inl ⟨kvs,k,.inl e,rfl,rfl⟩
theorem DPut.k {H:Hp}{a:Addr}{kvs:List (Key×V)}{k:Key}{v:V}(e:H a=some (.dK kvs))(hl:kvs.length<sizeLine):DPut H a (kV k) v (upd H a (.dK (putK kvs k v))):=.inl ⟨kvs,k,e,rfl,hl,rfl⟩
section
variable {X:Cx}{pins:List (Addr×Obj)}{σ:St}{H:Hp}{s:Shared}{a:Addr}{y v:V}{u r:Value}{o:Option V}{A:Around}{E:Value->Shared->Prop}
theorem Inv.big (I:Inv X pins σ H s):sysModules<s.heap.objs.size:=by
 have h:mainGlobals<s.heap.objs.size:=(I.mod.glob.keeps I.bk).lt
 exact Nat.lt_trans (by decide) h
theorem vg {Q:Value->Shared->Prop}(hu:A.units+1<cLine)(I:Inv X pins σ H s)(g:DGet H a y (some v))(ry:RelV y u)(h:∀ w' s',Inv X pins σ H s'->RelV v w'->Q w' s') :
  wpAny (model X.prog X.w) A (getItem (.ref a) u) Q E s:=by
 rcases g with ⟨kvs,k,e,ey,l⟩ |⟨kvs,k,b,e,ey,eb,l⟩
 ·subst ey
  obtain⟨z,hd,vs,rel,dd⟩:=qB I.hok e
  obtain⟨w',hw,rw'⟩:=RelO.some_of (v:=v) (o:=valueAt vs k) (by rw[l];exact rel.val k)
  exact wpAny_getItem_of (nB ry) dd.mapOf hw (h w' _ (I.tok _) rw')
 ·subst ey
  cases (show u=Value.ref b from ry)
  obtain⟨z,hd,xs,rel,dd⟩:=qA I.hok e
  obtain⟨w',hw,rw'⟩:=RelO.some_of (v:=v) (o:=(atKey xs k).map (·.2)) (by rw[l];exact rel.val k)
  obtain⟨p,hp,hp2⟩:=Option.map_eq_some_iff.mp hw
  refine wpAny_getItem_heap (tupleKind_room_in1 hu) (lO I.hok eb) dd hp ?_
  rw[hp2]
  exact h w' _ (I.tok _) rw'
theorem C9 {Q:Value->Shared->Prop}(hu:A.units+1<cLine)(I:Inv X pins σ H s)(g:DGet H a y o)(ry:RelV y u)(h:∀ s',Inv X pins σ H s'->Q (.bool o.isSome) s') :
  wpAny (model X.prog X.w) A (compareOp .In u (.ref a)) Q E s:=by
 rcases g with ⟨kvs,k,e,ey,l⟩ |⟨kvs,k,b,e,ey,eb,l⟩
 ·subst ey
  obtain⟨z,hd,vs,rel,dd⟩:=qB I.hok e
  refine wpAny_in_of (nB ry) hd dd.mapOf ?_
  rw[← (rel.val k).isSome_eq,← l]
  exact h _ (I.tok _)
 ·subst ey
  cases (show u=Value.ref b from ry)
  obtain⟨z,hd,xs,rel,dd⟩:=qA I.hok e
  refine wpAny_in_heap (tupleKind_room_in1 hu) (lO I.hok eb) hd dd ?_
  have q:=(rel.val k).isSome_eq
  rw[Option.isSome_map] at q
  rw[← q,← l]
  exact h _ (I.tok _)
theorem zj {Q:Value->Shared->Prop}(hu:A.units+1<cLine)(I:Inv X pins σ H s)(g:DGet H a y o)(ry:RelV y u)(h:∀ s',Inv X pins σ H s'->Q (.bool (!o.isSome)) s') :
  wpAny (model X.prog X.w) A (compareOp .NotIn u (.ref a)) Q E s:=by
 rcases g with ⟨kvs,k,e,ey,l⟩ |⟨kvs,k,b,e,ey,eb,l⟩
 ·subst ey
  obtain⟨z,hd,vs,rel,dd⟩:=qB I.hok e
  refine wpAny_notIn_of (nB ry) hd dd.mapOf ?_
  rw[← (rel.val k).isSome_eq,← l]
  exact h _ (I.tok _)
 ·subst ey
  cases (show u=Value.ref b from ry)
  obtain⟨z,hd,xs,rel,dd⟩:=qA I.hok e
  refine wpAny_notIn_heap (tupleKind_room_in1 hu) (lO I.hok eb) hd dd ?_
  have q:=(rel.val k).isSome_eq
  rw[Option.isSome_map] at q
  rw[← q,← l]
  exact h _ (I.tok _)
theorem t5 {h':Heap}{t':Nat}{ob:HO}(I:Inv X pins σ H s)(mu:Mut (H a))(hs:Heap.SameBut a s.heap h')(he:∃ q,h'.get? a=some q)(new:ObjOk X.prog X.w (upd H a ob) h' a ob) :
  Inv X pins σ (upd H a ob) { s with heap:=h',toks:=t' }:=
 I.write (x:=a) (e:=a) mu (.inl rfl) (λb q hb z=>(hs.2 b hb).trans z) he new
theorem AW {P:Program}{w:World}{H':Hp}{h':Heap}{kvs:List (Key×V)}{vs:List (Key×Value)}(z:kvs.length<=sizeLine)(hd:(a==sysModules)=false)(rel:KV kvs vs)(dd:h'.DictOf (bh P w) a vs) :
  ObjOk P w H' h' a (.dK kvs):=⟨z,hd,vs,rel,dd⟩
theorem vf {H':Hp}{Q:Unit->Shared->Prop}(hu:A.units+1<cLine)(I:Inv X pins σ H s)(g:DPut H a y v H')(ry:RelV y u)(rv:RelV v r)(h:∀ s',Inv X pins σ H' s'->Q () s') :
  wpAny (model X.prog X.w) A (setItem (.ref a) u r) Q E s:=by
 rcases g with ⟨kvs,k,e,ey,l,eH⟩ |⟨kvs,k,b,e,ey,eb,l,eH⟩
 ·subst ey eH
  obtain⟨z,hd,vs,rel,dd⟩:=B1 I.hok e
  have hz:vs.length<=sizeLine:=by rw[← rel.length];exact z
  have hl:(putK kvs k v).length<=sizeLine:=by have:=kh kvs k v;omega
  refine wpAny_setItem_pairs (hsz:=hz) (nB ry) dd λh' dd' hs=>h _ ?_
  have he:∃ q,h'.get? a=some q:=let ⟨q,_,_,hq,_⟩:=dd';⟨q,hq⟩
  exact t5 I (by rw[e];exact True.intro) hs he (AW hl hd (rel.put k rv) dd')
 ·subst ey eH
  cases (show u=Value.ref b from ry)
  obtain⟨z,hd,xs,rel,dd⟩:=B0 I.hok e
  have hz:xs.length<=sizeLine:=by rw[← Paired.length rel];exact z
  have hl:(putK kvs k v).length<=sizeLine:=by have:=kh kvs k v;omega
  refine wpAny_setItem_heap (hsz:=hz) (tupleKind_room_in1 hu) (lO I.hok eb) dd λh' dd' hs=>h _ ?_
  obtain⟨q,es,ep,hq,h2,h3,h4,_,h5⟩:=dd'
  refine t5 I (by rw[e];exact True.intro) hs ⟨q,hq⟩ ⟨hl,hd,_,(rel.put k eb rv).keeps λc ys ec=>?_,q,es,ep,hq,h2,h3,h4,h5⟩
  rw[aA (BH ec e (λz=>nomatch z))]
  exact ec
end
def zy (i:Expr):Prop:=∀ ov iv,subscripted i false ov iv=operate [ov,iv] (getItem ov iv)
theorem xU {prog:Program}{w:World}{A:Around}{E:Value->Shared->Prop}{s:Shared}{env:Env}{value slice:Expr}{pos:Pos}{T id:String}{Q:Value->Shared->Prop}
  (hl:typeLookup (.type T) "__getitem__"=pure (some (.builtin id))) (hs:zy slice)
  (h:wpAny (model prog w) A (eval value env) (λo s₁=>wpAny (model prog w) A (eval slice env) (λi s₂=>s₂.TypeIs o T/\wpAny (model prog w) A (getItem o i) Q E s₂) E s₁) E s) :
  wpAny (model prog w) A (eval (.Subscript value slice pos) env) Q E s:=by
 refine Subscript_ (wpAny_mono h (λo s₁ h₁=>wpAny_mono h₁ (λi s₂ h₂=>?_) λ_ _ x=>x) λ_ _ x=>x)
 obtain⟨hT,h₂⟩:=h₂
 unfold subscriptTail
 refine wpAny_bind ?_
 rw[getitemInPython_of_ne hT.not_modules]
 refine wpAny_bind (wpAny_specialOf hT hl ?_)
 have fin:wpAny (model prog w) A (subscripted slice false o i) (λr s₃=>wpAny (model prog w) A (letTemporaryGo value o r >>= λ_=>pure r) Q E s₃) E s₂:=by
  rw[hs o i]
  exact wpAny_operating (wpAny_mono h₂ (λr s₃ h₃=>wpAny_bind (wpAny_letTemporaryGo (wpAny_pure h₃))) λ_ _ x=>x)
 first
  |exact wpAny_pure (wpAny_bind fin)
  |exact wpAny_bind (wpAny_pure (wpAny_bind fin))
  |exact wpAny_bind fin
theorem qC {X:Cx}{pins:List (Addr×Obj)}{σ:St}{H:Hp}{s:Shared}{a:Addr}{y:V}{o:Option V}(I:Inv X pins σ H s)(g:DGet H a y o):s.TypeIs (.ref a) "dict":=by
 rcases g with ⟨kvs,k,e,_,_⟩ |⟨kvs,k,b,e,_,_,_⟩
 ·obtain⟨_,_,vs,_,dd⟩:=qB I.hok e
  exact dd.typeIs
 ·obtain⟨_,_,xs,_,dd⟩:=qA I.hok e
  exact dd.typeIs
def Bn (td ty:TE):TE:=λσ H Q=>td σ H λx H1=>ty σ H1 λy H2 => ∃ a v,x = .ref a/\DGet H2 a y (some v)/\Q v H2
def Bm (ty td:TE):TE:=λσ H Q=>ty σ H λy H1=>td σ H1 λx H2 => ∃ a o,x = .ref a/\DGet H2 a y o/\Q (.bl o.isSome) H2
def sT (ty td:TE):TE:=λσ H Q=>ty σ H λy H1=>td σ H1 λx H2 => ∃ a o,x = .ref a/\DGet H2 a y o/\Q (.bl (!o.isSome)) H2
def Bs (td ty tv:TE):TS:=λD σ H=>tv σ H λv H1=>td σ H1 λx H2=>ty σ H2 λy H3 => ∃ a H4,x = .ref a/\DPut H3 a y v H4/\D.nx σ H4
section
variable {X:Cx}{o i e value:Expr}{pos pos' tpos:Pos}{td ty tv:TE}
theorem yF (hu:X.A.units+1<cLine)(ho:PE X o td)(hi:PE X i ty)(hs:zy i):PE X (.Subscript o i pos) (Bn td ty):=by
 intro pins s σ H Q I h
 refine xU PySem.F.slot_dict_getitem.lookup hs (thn (ho pins s σ H _ I h) λu s1 ⟨x,H1,I1,rx,q1⟩=>thn (hi pins s1 σ H1 _ I1 q1) λiv s2 ⟨y,H2,I2,ry,a,v,ex,g,q2⟩=>?_)
 subst ex
 obtain rfl:u=Value.ref a:=rx
 exact⟨qC I2 g,vg hu I2 g ry λw' s3 I3 rw'=>⟨v,H2,I3,rw',q2⟩⟩
theorem wt (hu:X.A.units+1<cLine)(hi:PE X i ty)(ho:PE X o td):PC X .In i o (Bm ty td):=by
 intro pins s σ H Q I h
 refine thn (hi pins s σ H _ I h) λiv s1 ⟨y,H1,I1,ry,q1⟩=>thn (ho pins s1 σ H1 _ I1 q1) λu s2 ⟨x,H2,I2,rx,a,ov,ex,g,q2⟩=>?_
 subst ex
 obtain rfl:u=Value.ref a:=rx
 exact C9 hu I2 g ry λs3 I3=>⟨.bl ov.isSome,H2,I3,rfl,q2⟩
theorem uL (hu:X.A.units+1<cLine)(hi:PE X i ty)(ho:PE X o td):PC X .NotIn i o (sT ty td):=by
 intro pins s σ H Q I h
 refine thn (hi pins s σ H _ I h) λiv s1 ⟨y,H1,I1,ry,q1⟩=>thn (ho pins s1 σ H1 _ I1 q1) λu s2 ⟨x,H2,I2,rx,a,ov,ex,g,q2⟩=>?_
 subst ex
 obtain rfl:u=Value.ref a:=rx
 exact zj hu I2 g ry λs3 I3=>⟨.bl (!ov.isSome),H2,I3,rfl,q2⟩
theorem yy (hu:X.A.units+1<cLine)(ho:PE X o td)(hi:PE X i ty)(hv:PE X value tv)(hs:swapsWith value (some (.Subscript o i pos')) pos.line X.env=pure false) :
  PS X (.Assign [.Subscript o i pos'] value pos) (Bs td ty tv):=by
 intro pins s σ H D I h
 refine wpAny_Assign_Subscript (thn (hv pins s σ H _ I h) λr s1 ⟨v,H1,I1,rv,q1⟩=>thn (ho pins s1 σ H1 _ I1 q1) λu s2 ⟨x,H2,I2,rx,q2⟩=>thn (hi pins s2 σ H2 _ I2 q2) λiv s3 ⟨y,H3,I3,ry,a,H4,ex,g,q3⟩=>?_) hs
 subst ex
 obtain rfl:u=Value.ref a:=rx
 exact vf hu I3 g ry rv λs4 I4=>⟨σ,H4,I4,q3⟩
end
theorem xc {P:Program}{w:World}{H:Hp}(h:Heap)(hb:sysModules<h.objs.size):ObjOk P w H (h.push { cls:=.type "dict",data:=.dict #[] }) h.objs.size (.dK []):=
 ⟨Nat.zero_le _,beq_eq_false_iff_ne.mpr (Ne.symm (Nat.ne_of_lt hb)),[],.nil,Heap.DictOf.new h⟩
def zW:TE:=λ_ H Q => ∀ p,H p=none->Q (.ref p) (upd H p (.dK []))
section
variable {X:Cx}{pos:Pos}
theorem pe_dnewK:PE X (.Dict [] [] pos) zW:=λpins s σ H Q I h =>
 wpAny_Dict_empty ⟨.ref s.heap.objs.size,_,I.laid (a:=s.heap.objs.size) (o:=.dK []) (t':=s.toks) (λ_ _ q=>Heap.get?_push_of_some _ q) (Nat.le_refl _) (xc s.heap I.big),rfl,h _ (I.hok.fresh (Nat.le_refl _))⟩
end
structure M1 (X:Cx) (o:Expr) (m:Str) (apos:Pos) (e:Expr) (cpos:Pos):Prop where
 base:attributeBase o m X.env (eval o X.env)=eval o X.env
 few:((backTo cpos (starEach [e] X.env)).all (λx => !x.1)&&(backToKw cpos (keywordEach [] X.env)).all (λx=>x.1.isSome)
  && decide (([e]:List Expr).length+([]:List Keyword).length+(if ([]:List Keyword).isEmpty then 0 else 1)<30))=true
 line:(apos.endLine==cpos.line)=true
 trees:backTo cpos (starEach [e] X.env)=[(false,eval e X.env)]
structure M2 (X:Cx) (o:Expr) (m:Str) (apos:Pos) (e f:Expr) (cpos:Pos):Prop where
 base:attributeBase o m X.env (eval o X.env)=eval o X.env
 few:((backTo cpos (starEach [e,f] X.env)).all (λx => !x.1)&&(backToKw cpos (keywordEach [] X.env)).all (λx=>x.1.isSome)
  && decide (([e,f]:List Expr).length+([]:List Keyword).length+(if ([]:List Keyword).isEmpty then 0 else 1)<30))=true
 line:(apos.endLine==cpos.line)=true
 trees:backTo cpos (starEach [e,f] X.env)=[(false,eval e X.env),(false,eval f X.env)]
end L2
namespace Att
open PySem PySem.W PySem.Calls PyProof.Rows
theorem kD {P:Params}{h:Heap}:∀ (ns:List Int) (vs:List Value),WellAll P h vs (ns.map WData.int)->IntsAre vs ns:=by
 intro ns
 induction ns with
 |nil =>
  intro vs w
  rw[List.map_nil] at w
  cases w
  exact .nil
 |cons n ns ih =>
  intro vs w
  rw[List.map_cons] at w
  cases w with
  |cons a b =>
   cases a
   exact .cons _ _ (ih _ b)
theorem uB {l:OpenLaw}{n:Nat}(hn:l.most=some n){P:Params}{h:Heap}{args:List WData}{vals:List Value}
  (hpre:l.row.toRowW.claim.pre args=true) (hwl:WellAll P h vals args) :
  ∃ a vs ns,vals=[Value.ref a]/\args=[WData.list (ns.map WData.int)]/\h.get? a=some { cls:=.type "list",data:=.seq vs.toArray }/\IntsAre vs ns/\ns.length<=n:=by
 have hsh:WShape.hasAll [] args [.list .int]=true:=(pre_splitW hpre).1
 have hc:l.pre.holds [] { args:=args }=true:=(pre_splitW hpre).2
 obtain⟨d,r,rfl,h1,h2⟩:=hasAllW_cons hsh
 obtain rfl:=hasAllW_nil h2
 obtain⟨xs,rfl,h3⟩:=hasW_list h1
 obtain⟨ns,rfl⟩:=items_int h3
 have hlen:ns.length<=n:=by
  unfold OpenLaw.pre at hc
  have h4:(WTm.not (.lt (.lit (.int (n:Int))) (.len (.arg 0)))).holds [] { args:=[.list (ns.map .int)] }=true:=by
   have h4:=(holds_andW hc).1
   rw[hn] at h4
   exact h4
  have h5:=condW_of h4 (w_not (w_lt w_lit (w_len_list (w_arg rfl))))
  rw[List.length_map] at h5
  refine Nat.le_of_not_lt λq=>?_
  have q':(n:Int)<((ns.length:Nat):Int):=by omega
  first
   |(rw[decide_eq_true q'] at h5;exact absurd h5 (by decide))
   |(simp at h5;omega)
 cases hwl with
 |cons w1 w2 =>
  cases w2
  cases w1 with
  |list ho hall=>exact⟨_,_,ns,rfl,rfl,ho,kD ns _ hall,hlen⟩
theorem uJ (l:OpenLaw)(args:List WData):l.row.toRowW.claim.post args (.bool true) args=true:=
 postW_of (r:=l.row.toRowW) (X:=(true==true))
  (show WShape.has [] (.bool true) .bool=true by first |rfl |decide |simp[WShape.has,WShape.arms,WShape.armsAll])
  (show (WTm.eq .res (.lit (.bool true))).value [] { args:=args,res:=some (.bool true),after:=args }=some (.bool (true==true)) from w_eq_bool (w_res rfl) w_lit) rfl
theorem attach_call {l:OpenLaw}{n:Nat}{q:Program}{loose:List Str}{XP:(Str->Option Value)->Heap->Prop}{YP:World->Heap->Prop}{d:DefRec}
  (hn:l.most=some n) (hdf:d.params.defaults=[])
  (call:∀ (w:World) (s₀ s₁:Shared) (mg mb:Str->Option Value) (fa:Addr) (o:Obj) (pm cd doc:Value) (a:Addr) (vs:List Value) (ns:List Int),
   Ground q loose [] XP w s₀ mg mb s₁.heap->YP w s₁.heap ->
   s₁.heap.get? fa=some o->o.data = .func (docDef d.name d.params d.body d.scope pm cd doc)->s₁.heap.CodeRec cd d.name->mg d.name=some (.ref fa) ->
   s₁.heap.get? a=some { cls:=.type "list",data:=.seq vs.toArray }->IntsAre vs ns->ns.length<=n->s₁.gens = #[] ->
   codeAny (model l.prog w) callerA (.call (.ref fa) ⟨[.ref a],[]⟩) (λr s'=>r = .ok (.ret (.bool true))/\OldK s₁.heap s'.heap/\s'.os=s₁.os/\AllBare s'.gens) s₁) :
  WalkO q loose XP YP l.row.toRowW d [] (λf vs=>PySem.call f vs):=by
 intro w s₀ s₁ mg mb G Y fa o pm cd doc dV kV ho hd hcd hD hmg hg args vals as hpre hlay hrd hwl hlo
 obtain rfl:dV = .none:=Dflts.none hD hdf
 obtain rfl:kV = .none:=Dflts.noKw hD
 obtain⟨a,vs,ns,rfl,rfl,hobj,hints,hlen⟩:=uB hn hpre hwl
 refine enter_call (codeAny_mono (call w s₀ s₁ mg mb fa o pm cd doc a vs ns G Y ho (fd_plain hd) hcd hmg hobj hints hlen hg) λr s' hq=>?_)
 obtain⟨rfl,h2,h3,h4⟩:=hq
 exact⟨.inl ⟨.bool true,.bool true,[],rfl,λ_=>rfl,.bool true,uJ l _,λ_=>⟨List.Pairwise.nil,λ_ hm=>(nomatch hm)⟩⟩,h2,h3,h4⟩
end Att
namespace L2
open PySem PySem.Spec PyProof.Rows
theorem m6:∀ {vs:List Value}{ns:List Int},IntsAre vs ns->Vals (ns.map V.int) vs
 |_,_,.nil => .nil
 |_,_,.cons n t h => .cons ⟨t,rfl⟩ (m6 h)
def Ba (H:Hp):Prop:=∀ b,H b=none∨∃ o xs,H b=some (.frz o (.lst xs))
theorem wQ {P:Program}{w:World}{K:PySem.W.Frag}{mg mb:Str->Option Value}{CX:CXT}{k:Nat}{fa a:Addr}{fd:FuncData}{x:Str}{sp:Sp}{s₁:Shared}{vs:List Value}{ns:List Int}
  (KX:K.In s₁.heap) (hns:s₁.heap.Ns mainGlobals mg) (hb:s₁.heap.Ns builtinsNs mb) (hbb:∀ x:Str,x≠"__name__"->mb x=bootBuiltins x) (hlim:s₁.heap.NoLimit) (hg:s₁.gens = #[])
  (ha:s₁.heap.get? a=some { cls:=.type "list",data:=.seq vs.toArray }) (hi:IntsAre vs ns) (hl:ns.length<=sizeLine) (hr:Room k callerA)
  (F:∀ base:Heap,K.In base->base.Ns mainGlobals mg->FnOk P w K mg base CX k fa fd [x] sp) (hbind:∀ (s:Shared) (u:Value),BindsTo s fd ⟨[u],[]⟩ [(x,u)])
  (hsp:∀ H:Hp,Ba H->SqL K H a (ns.map V.int)->sp [.ref a] H (λv _=>v = .bl true) λ_ _ _=>False)
  (hCX:∀ H e s',CX [] H s₁ (λ_ _ _=>False) e s'->False) :
  codeAny (model P w) callerA (.call (.ref fa) ⟨[.ref a],[]⟩) (λr s'=>r = .ok (.ret (.bool true))/\OldK s₁.heap s'.heap/\s'.os=s₁.os/\AllBare s'.gens) s₁:=by
 have rv:=m6 hi
 have lenV:=hi.length
 have core:∀ H:Hp,Ba H->SqL K H a (ns.map V.int)->HOk P w H s₁.heap->(∀ b,H b≠none->b=a)->(H a≠none->K.lookup a=none) ->
   codeAny (model P w) callerA (.call (.ref fa) ⟨[.ref a],[]⟩) (λr s'=>r = .ok (.ret (.bool true))/\OldK s₁.heap s'.heap/\s'.os=s₁.os/\AllBare s'.gens) s₁:=by
  intro H hO hS hok hA hK
  have base_of:∀ {b:Addr}{o:Obj},s₁.heap.get? b=some o->H b=none->(oT s₁.heap H).get? b=some o:=λe n=>wX e n
  have noA:∀ {b:Addr}{o:Obj}{es:Array DictEntry}{ep:Nat},s₁.heap.get? b=some o->o.data = .dict es ep->H b=none:=λ{b o es ep} e d=>by
   cases q:H b with
   |none=>rfl
   |some u =>
    have e':b=a:=hA b (by rw[q];simp)
    subst e'
    rw[ha] at e;cases e
    have d':Data.seq vs.toArray _=Data.dict es ep:=d
    cases d'
  have nsK:∀ {b:Addr}{m:Str->Option Value},s₁.heap.Ns b m->(oT s₁.heap H).Ns b m:=λ{b m} ⟨o,es,ep,e,d,r⟩=>⟨o,es,ep,base_of e (noA e d),d,r⟩
  have hKb:K.In (oT s₁.heap H):=λb o e=>base_of (KX b o e) (by
   cases q:H b with
   |none=>rfl
   |some u =>
    have e':b=a:=hA b (by rw[q];simp)
    subst e'
    rw[hK (by rw[q];simp)] at e;cases e)
  have hM:Mod K mg (oT s₁.heap H):=⟨hKb,nsK hns,⟨mb,nsK hb,hbb⟩,let ⟨mc,h1,h2⟩:=hlim;⟨mc,nsK h1,h2⟩⟩
  have e0:Env0 P w K mg (oT s₁.heap H) callerA [] s₁ H:=⟨rfl,hM,λb o e=>yM e,Nat.le_of_eq (u8 _ _),trivial,λb hb=>absurd (show b∈([]:List Addr) from hb) (by simp),hok,.of_eq hg⟩
  refine codeAny_mono ((F _ hKb (nsK hns)).run callerA [] s₁ H ⟨[.ref a],[]⟩ [.ref a] [.ref a] _ _ hr e0 (hbind s₁ (.ref a)) (.cons rfl .nil) (hsp H hO hS)) λr s' h=>?_
  cases r with
  |error e=>exact (hCX H e s' h).elim
  |ok fl =>
   cases fl with
   |next=>exact False.elim h
   |brk=>exact False.elim h
   |cont=>exact False.elim h
   |ret u =>
    obtain⟨v,H',os,bare,un,hok',r',q⟩:=h
    have q':v = .bl true:=q
    subst q'
    obtain rfl:u=Value.bool true:=r'
    refine⟨rfl,OldK.of_keep λb o e=>?_,os,bare⟩
    cases q:H b with
    |none=>exact un.keep b o e q (by intro z;exact absurd (show b∈([]:List Addr) from z) (by simp)) (by simp)
    |some u =>
     rcases hO b with z |⟨ob,xs,z⟩
     ·rw[q] at z;cases z
     ·have z2:=un.frzs b ob _ z
      obtain⟨e1,_⟩:=hok b _ z
      obtain⟨e2,_⟩:=hok' b _ z2
      rw[e] at e1;cases e1
      exact e2
 cases hk:K.lookup a with
 |some o =>
  have e:=KX a o hk
  rw[ha] at e
  cases e
  refine core (λ_=>none) (λ_ => .inl rfl) (.inr ⟨_,vs.toArray,_,hk,rfl,rfl,rfl,by rw[List.size_toArray,lenV];exact hl,by simpa using rv⟩) (λb u z=>by have z':(none:Option HO)=some u:=z;cases z') (λb z=>absurd rfl z) λz=>absurd rfl z
 |none =>
  refine core (λb=>if b=a then some (.frz { cls:=.type "list",data:=.seq vs.toArray } (.lst (ns.map V.int))) else none) (λb=>?_) (.inl (.inr ⟨{ cls:=.type "list",data:=.seq vs.toArray },if_pos rfl⟩)) (λb u z=>?_) (λb z=>?_) λ_=>hk
  ·by_cases hb:b=a
   ·exact .inr ⟨_,_,if_pos hb⟩
   ·exact .inl (if_neg hb)
  ·by_cases hb:b=a
   ·have z':=(if_pos hb).symm.trans z
    cases z'
    subst hb
    exact⟨ha,by rw[List.length_map];exact hl,vs,_,rv,ha⟩
   ·have z':=(if_neg hb).symm.trans z
    cases z'
  ·by_cases hb:b=a
   ·exact hb
   ·exact absurd (if_neg hb) z
theorem walk_of {l:PySem.W.OpenLaw}{n k:Nat}{q:Program}{loose:List Str}{XP:(Str->Option Value)->Heap->Prop}{YP:World->Heap->Prop}{d:DefRec}{K:Params->PySem.W.Frag}{CX:World->CXT}{sp:World->Sp}{x:Str}
  (hn:l.most=some n) (hn2:n<=sizeLine) (hdf:d.params.defaults=[]) (hr:Room k callerA)
  (hY:∀ (w:World) (h:Heap),YP w h->(K w.params).In h)
  (F:∀ (w:World) (mg:Str->Option Value) (fa:Addr) (h:Heap),(K w.params).In h->h.Ns mainGlobals mg->mg d.name=some (.ref fa) ->
   ∃ fd:FuncData,(∀ (s:Shared) (u:Value),BindsTo s fd ⟨[u],[]⟩ [(x,u)]) /\
    ∀ base:Heap,(K w.params).In base->base.Ns mainGlobals mg->FnOk l.prog w (K w.params) mg base (CX w) k fa fd [x] (sp w))
  (hsp:∀ (w:World) (H:Hp) (a:Addr) (ns:List Int),ns.length<=n->Ba H->SqL (K w.params) H a (ns.map V.int)->sp w [.ref a] H (λv _=>v = .bl true) λ_ _ _=>False)
  (hCX:∀ (w:World) (H:Hp) (s:Shared) (e:Value) (s':Shared),CX w [] H s (λ_ _ _=>False) e s'->False) :
  PySem.W.WalkO q loose XP YP l.row.toRowW d [] (λf vs=>PySem.call f vs):=by
 refine Att.attach_call hn hdf λw s₀ s₁ mg mb fa o pm cd doc a vs ns G Y ho hd hcd hmg hobj hints hlen hg=>?_
 have KX:=hY w _ Y
 obtain⟨fd,hb,hF⟩:=F w mg fa _ KX G.T.g hmg
 exact wQ KX G.T.g G.T.b G.T.builtins G.T.nolimit hg hobj hints (Nat.le_trans hlen hn2) hr hF hb (λH hO hS=>hsp w H a ns hlen hO hS) λH e s'=>hCX w H s₁ e s'
noncomputable def cV (s:Stmt):Arguments:=match s with
 | .FunctionDef _ a _ _ _ _ _ _ _ _=>a
 |_ => { posonlyargs:=[],args:=[],vararg:=none,kwonlyargs:=[],kw_defaults:=[],kwarg:=none,defaults:=[] }
noncomputable def aW (s:Stmt):List Stmt:=match s with
 | .FunctionDef _ _ b _ _ _ _ _ _ _=>b
 |_=>[]
noncomputable def ar (s:Stmt):Scope:=match s with
 | .FunctionDef _ _ _ _ _ _ sc _ _ _=>sc
 |_ => { kind:=.function,names:=[],isGenerator:=false,isCoroutine:=false }
abbrev CX0:CXT:=λ_ _ _ _ _ _=>False
abbrev E0:XK:=λ_ _ _=>False
theorem tI {X:Cx}:Passes CX0 X E0:=λ_ _ _ _ _ _ _ h=>h.elim
structure Fun (K:PySem.W.Frag) (x qual:Str) (st:Stmt) (f:Addr) (fd:FuncData):Prop where
 ex:∃ (oc:Value) (od:Option Addr) (kV doc pm:Value) (an:Option Addr) (cdv ct:Value) (osl:Array (Option Value)),
  fd=PySem.W.fnOf x qual (cV st) (aW st) (ar st) .none kV doc pm an cdv ct/\K.lookup f=some ⟨oc,od,.func fd,osl⟩/\PySem.W.codeIn K cdv qual=true
 kp:PySem.W.keepIn K (.ref f)=true
section
variable {P:Program}{w:World}{K:PySem.W.Frag}{mg:Str->Option Value}{base:Heap}
theorem Fun.ok {x qual:Str}{st:Stmt}{f:Addr}{fd:FuncData}{N ps:List Str}{k:Nat}{sp:Sp}(F:Fun K x qual st f fd)(S:FnScope N ps (ar st))(len:∀ vs H Q E,sp vs H Q E->vs.length=ps.length)
  (hbody:∀ (cdv:Value) (A:Around) (outer:List Env) (s:Shared) (H:Hp) (vs:List V) (Q:VK) (E:XK),Room k (A.deeper (envOfC qual (ar st) s.heap.objs.size f cdv))->sp vs H Q E ->
   ∃ t,PSs (cT CX0 P w K mg base N qual (ar st) f cdv A outer s H E).nox (aW st) t/\t { nx:=λ_ H'=>Q .non H',rt:=Q } (start N vs) H):FnOk P w K mg base CX0 (k+1) f fd ps sp:=by
 obtain⟨oc,od,kV,doc,pm,an,cdv,ct,osl,rfl,lk,hcd⟩:=F.ex
 refine zN lk hcd S len λA outer s H vs Q E hr hsp=>?_
 obtain⟨t,h,q⟩:=hbody cdv A outer s H vs Q E hr hsp
 exact⟨t,h.nox,q⟩
theorem Fun.binds {x qual:Str}{st:Stmt}{f:Addr}{fd:FuncData}{ps:List Str}(F:Fun K x qual st f fd)
  (h:∀ (kV doc pm:Value) (an:Option Addr) (cdv ct:Value) (us:List Value),us.length=ps.length->bindArgs (PySem.W.fnOf x qual (cV st) (aW st) (ar st) .none kV doc pm an cdv ct) ⟨us,[]⟩=pure (ps.zip us)):Binds K fd ps []:=by
 obtain⟨oc,od,kV,doc,pm,an,cdv,ct,osl,rfl,lk,hcd⟩:=F.ex
 exact .all (h kV doc pm an cdv ct)
theorem AS {x qual:Str}{st:Stmt}{f:Addr}{oc:Value}{od an:Option Addr}{osl:Array (Option Value)}{kV doc pm cdv ct:Value}(l:K.lookup f=some ⟨oc,od,.func (PySem.W.fnOf x qual (cV st) (aW st) (ar st) .none kV doc pm an cdv ct),osl⟩)
  (c:PySem.W.codeIn K cdv qual=true) (k:PySem.W.keepIn K (.ref f)=true):Fun K x qual st f (PySem.W.fnOf x qual (cV st) (aW st) (ar st) .none kV doc pm an cdv ct):=⟨⟨oc,od,kV,doc,pm,an,cdv,ct,osl,rfl,l,c⟩,k⟩
end
theorem bX {A:Around}{k:Nat}(hr:Room k A):A.units+1<cLine:=Nat.lt_of_le_of_lt (Nat.add_le_add_left (by decide : 1<=64) _) hr.units
def Same (H H':Hp):Prop:=∀ b o,H b=some o->H' b=some o
theorem Same.refl (H:Hp):Same H H:=λ_ _ h=>h
theorem Same.trans {H H1 H2:Hp}(a:Same H H1)(b:Same H1 H2):Same H H2:=λc o h=>b c o (a c o h)
end L2
namespace HT
open PySem PyProof.Rows
section
variable {prog:Program}{w:World}{A:Around}{E:Value->Shared->Prop}{s:Shared}
theorem cat_tup {t b:Addr}{vs ws:List Value}{Q:Value->Shared->Prop}(ht:IsTup s.heap t vs.toArray)(hb:IsTup s.heap b ws.toArray)(hv:vs≠[])
  (h1:ws=[]->Q (.ref t) s) (h2:ws≠[]->Q (.ref s.heap.objs.size) { s with heap:=s.heap.push { cls:=.type "tuple",data:=.seq (vs++ws).toArray } })
  (hsz:vs.length+ws.length<=sizeLine):wpAny (model prog w) A (binaryOp .Add (.ref t) (.ref b)) Q E s:=by
 obtain⟨⟨cls,dd,data,sl⟩,ho,hc,n,hd⟩:=id ht
 obtain⟨⟨cls2,dd2,data2,sl2⟩,ho2,hc2,n2,hd2⟩:=id hb
 simp only at hc hd hc2 hd2
 subst hc hd hc2 hd2
 have e:vs.toArray++ws.toArray=(vs++ws).toArray:=by simp
 by_cases hw:ws=[]
 ·exact concat_meets ⟨_,ho,rfl⟩ ⟨_,ho2,rfl⟩ noFill_tuple_add seq_tuple_add PySem.F.slot_tuple_add PySem.F.entry_tuple_add (PySem.F.args_tuple_add_2 _ _)
   (tuple_addW1 t b vs.toArray ws.toArray n n2 dd dd2 sl sl2 (by simpa using hv) (by simp[hw])) ⟨ho,ho2,h1 hw⟩
 ·refine concat_meets ⟨_,ho,rfl⟩ ⟨_,ho2,rfl⟩ noFill_tuple_add seq_tuple_add PySem.F.slot_tuple_add PySem.F.entry_tuple_add (PySem.F.args_tuple_add_2 _ _)
   (tuple_addW2 t b vs.toArray ws.toArray n n2 dd dd2 sl sl2 (by simpa using hv) (by simpa using hw) (by rw[List.size_toArray,List.size_toArray];exact hsz)) ⟨ho,ho2,?_⟩
  rw[e]
  exact h2 hw
def sIx (n d:Nat):Option Int->Nat
 |none=>d
 |some v=>if v<0 then (v+(n:Int)).toNat else min v.toNat n
theorem sIx_none (n d:Nat):sIx n d none=d:=rfl
theorem sIx_nat (n d k:Nat):sIx n d (some (k:Int))=min k n:=by
 show (if (k:Int)<0 then ((k:Int)+(n:Int)).toNat else min (k:Int).toNat n)=min k n
 rw[if_neg (by omega),Int.toNat_natCast]
theorem sIx_le (n d:Nat)(hd:d<=n)(o:Option Int):sIx n d o<=n:=by
 cases o with
 |none=>exact hd
 |some v =>
  show (if v<0 then (v+(n:Int)).toNat else min v.toNat n)<=n
  by_cases hv:v<0
  ·rw[if_pos hv];omega
  ·rw[if_neg hv];exact Nat.min_le_right _ _
theorem t7 (v:Int)(n d:Nat):(if v<0 then max (v+(n:Int)) 0 else min v (n:Int))=((sIx n d (some v):Nat):Int):=by
 show (if v<0 then max (v+(n:Int)) 0 else min v (n:Int))=(((if v<0 then (v+(n:Int)).toNat else min v.toNat n):Nat):Int)
 by_cases hv:v<0
 ·simp only[if_pos hv];omega
 ·simp only[if_neg hv];omega
theorem sM (lo hi:Option Int)(n:Nat):Builtin.Slice.sliceAdjust lo hi 1 (n:Int)=(((sIx n 0 lo:Nat):Int),((sIx n n hi:Nat):Int)):=by
 have h1:¬ ((1:Int)<0):=by omega
 unfold Builtin.Slice.sliceAdjust
 simp only[h1,if_false]
 refine Prod.ext ?_ ?_
 ·cases lo with
  |none=>rfl
  |some v=>exact t7 v n 0
 ·cases hi with
  |none=>rfl
  |some v=>exact t7 v n n
theorem rJ (i j:Nat):Builtin.Slice.slicePlaces (i:Int) (j:Int) 1=j-i:=by
 unfold Builtin.Slice.slicePlaces
 have h1:(1:Int) > 0:=by omega
 simp only[h1,if_true,Int.ediv_one]
 split<;>omega
theorem li {v:Value}{o:Option Int}{Q:Option Int->Shared->Prop}(p:IsPart v o)(h:Q o s):wpAny (model prog w) A (Builtin.Slice.slicePartIndex v) Q E s:=by
 cases p with
 |none=>exact slicePart_none h
 |int i t=>exact slicePart_int h
theorem sliceApplied_gen {sl:Addr}{vl vu:Value}{lo hi:Option Int}{n:Nat}{Q:Int×Int×Nat->Shared->Prop}(hs:s.heap.IsSliceOf sl vl vu .none)(pl:IsPart vl lo)(pu:IsPart vu hi)
  (h:Q (((sIx n 0 lo:Nat):Int),1,sIx n n hi-sIx n 0 lo) s):wpAny (model prog w) A (Builtin.Slice.sliceApplied (.ref sl) (pure (n:Int))) Q E s:=by
 obtain⟨os,hos,hcs,hds⟩:=id hs
 unfold Builtin.Slice.sliceApplied Builtin.Slice.sliceFields
 refine wpAny_bind (wpAny_bind (wpAny_field hos hds (x:=vl) rfl (wpAny_bind (wpAny_field hos hds (x:=vu) rfl (wpAny_bind (wpAny_field hos hds (x:=.none) rfl (wpAny_pure ?_)))))))
 refine wpAny_bind (slicePart_none ?_)
 show wpAny _ _ (if ((1:Int)==0)=true then _ else _) _ _ s
 rw[if_neg (by decide)]
 refine wpAny_bind (li pl (wpAny_bind (li pu (wpAny_bind (wpAny_pure ?_)))))
 show wpAny _ _ (match Builtin.Slice.sliceAdjust lo hi 1 (n:Int) with |(lo,hi)=>pure (lo,(1:Int),Builtin.Slice.slicePlaces lo hi 1)) _ _ s
 rw[sM lo hi n]
 show wpAny _ _ (pure (((sIx n 0 lo:Nat):Int),(1:Int),Builtin.Slice.slicePlaces ((sIx n 0 lo:Nat):Int) ((sIx n n hi:Nat):Int) 1)) _ _ s
 rw[rJ]
 exact wpAny_pure h
theorem wf (xs:Array Value)(i k:Nat):((List.range k).filterMap λ(m:Nat)=>xs[((i:Int)+(m:Int)*1).toNat]?).toArray=((xs.toList.drop i).take k).toArray:=by
 have e:(λ(m:Nat)=>xs[((i:Int)+(m:Int)*1).toNat]?)=λm=>xs[i+m]?:=by
  funext m
  have:((i:Int)+(m:Int)*1).toNat=i+m:=by omega
  rw[this]
 rw[e]
 have:=pick_run xs i k
 rw[List.filterMap_map] at this
 have e2:((λx=>xs[x]?) ∘ λx=>i+x)=λm=>xs[i+m]?:=rfl
 rw[e2] at this
 rw[this]
theorem getItem_tuple_cut {t sl:Addr}{items:Array Value}{vl vu:Value}{lo hi:Option Int}{Q:Value->Shared->Prop}(ht:IsTup s.heap t items)(hs:s.heap.IsSliceOf sl vl vu .none)(pl:IsPart vl lo)(pu:IsPart vu hi)
  (hw:¬ (sIx items.size 0 lo=0/\sIx items.size items.size hi=items.size))
  (h:Q (.ref s.heap.objs.size) { s with heap:=s.heap.push { cls:=.type "tuple",data:=.seq ((items.toList.drop (sIx items.size 0 lo)).take (sIx items.size items.size hi-sIx items.size 0 lo)).toArray } })
  (hsz:items.size<=sizeLine):wpAny (model prog w) A (getItem (.ref t) (.ref sl)) Q E s:=by
 have htake:sizeOk (.seq ((items.toList.drop (sIx items.size 0 lo)).take (sIx items.size items.size hi-sIx items.size 0 lo)).toArray):=by
  show ((items.toList.drop (sIx items.size 0 lo)).take (sIx items.size items.size hi-sIx items.size 0 lo)).toArray.size<=sizeLine
  rw[List.size_toArray,List.length_take,List.length_drop,Array.length_toList]
  omega
 have hj:sIx items.size items.size hi<=items.size:=sIx_le _ _ (Nat.le_refl _) hi
 obtain⟨os,hos,hcs,hds⟩:=id hs
 have hTs:s.TypeIs (.ref sl) "slice":=⟨os,hos,hcs⟩
 unfold getItem
 try with_reducible refine wpAny_holding ?_
 first |refine wpAny_bind (wpAny_pure ?_) |skip
 refine wpAny_bind (wpAny_sequenceKey ht.typeIs (by decide) ?_)
 refine wpAny_bind (wpAny_callSpecial?_slot (name:=Str.ofString "__getitem__") ht.typeIs PyProof.Rows.slot_tuple_getitem
  (wpAny_call_entry PyProof.Rows.slot_tuple_getitem ht.typeIs entry_tuple_getitem ?_ (args_tuple_getitem _ _)))
 show wpAny _ _ (Builtin.Tuple.tupleItemsOf (.ref t) >>= _) _ _ s
 refine wpAny_bind (tupleItemsOf_ ht ?_)
 refine wpAny_bind (wpAny_typeOf hTs ?_)
 rw[if_pos (by decide)]
 refine wpAny_bind (sliceApplied_gen hs pl pu ?_)
 have hno:¬ ((((sIx items.size 0 lo:Nat):Int)==0&&(1:Int)==1&&(sIx items.size items.size hi-sIx items.size 0 lo)==items.size)=true):=by
  intro q
  rw[Bool.and_eq_true,Bool.and_eq_true] at q
  have q1:((sIx items.size 0 lo:Nat):Int)=0:=eq_of_beq q.1.1
  have q2:sIx items.size items.size hi-sIx items.size 0 lo=items.size:=eq_of_beq q.2
  exact hw ⟨by omega,by omega⟩
 show wpAny _ _ (if (((sIx items.size 0 lo:Nat):Int)==0&&(1:Int)==1&&(sIx items.size items.size hi-sIx items.size 0 lo)==items.size)=true then _ else _) _ _ s
 rw[if_neg hno,wf]
 first
  |exact wpAny_bind (m:=Builtin.Tuple.tupleExact _) (wpAny_newObj_type (wpAny_pure ⟨_,rfl,wpAny_pure h⟩) htake)
  |exact wpAny_bind (m:=Builtin.Tuple.tupleExact _) (wpAny_newObj_type (wpAny_bind (wpAny_pure (wpAny_pure ⟨_,rfl,wpAny_pure h⟩))) htake)
  |exact wpAny_bind (wpAny_bind (m:=Builtin.Tuple.tupleExact _) (wpAny_newObj_type (wpAny_pure (wpAny_pure ⟨_,rfl,wpAny_pure h⟩)) htake))
  |exact wpAny_bind (wpAny_bind (m:=Builtin.Tuple.tupleExact _) (wpAny_newObj_type (wpAny_pure ⟨_,rfl,wpAny_pure h⟩) htake))
end
end HT
namespace L2
open PySem PySem.Spec PyProof.Rows
abbrev TO:=St->Hp->(Option Int->Hp->Prop)->Prop
def PO (X:Cx)(e:Option Expr)(t:TO):Prop:=
 ∀ (pins:List (Addr×Obj)) (s:Shared) (σ:St) (H:Hp) (Q:Option Int->Hp->Prop),Inv X pins σ H s->t σ H Q ->
  wpAny (model X.prog X.w) X.A (evalPart e X.env) (λu s' => ∃ o H',Inv X pins σ H' s'/\IsPart u o/\Q o H') X.xe s
def xS:TO:=λ_ H Q=>Q none H
def Bh (t:TE):TO:=λσ H Q=>t σ H λx H1 => ∃ i,x = .int i/\Q (some i) H1
theorem intsAre_of {ns:List Int}:∀ {us:List Value},Vals (ns.map V.int) us->IntsAre us ns:=by
 induction ns with
 |nil=>intro us r;rw[List.map_nil] at r;cases r;exact .nil
 |cons n ns ih =>
  intro us r
  rw[List.map_cons] at r
  cases r with
  |cons r1 r2 =>
   obtain⟨t,e⟩:=r1
   subst e
   exact .cons n t (ih r2)
section
variable {X:Cx}{e:Expr}{te:TE}{lo hi:Option Expr}{tl th:TO}{pos p2:Pos}
theorem yA:PO X none xS:=by
 intro pins s σ H Q I h
 rw[evalPart_none]
 exact wpAny_pure ⟨none,H,I,.none,h⟩
theorem yz (h:PE X e te):PO X (some e) (Bh te):=by
 intro pins s σ H Q I hw
 rw[evalPart_some]
 refine thn (h pins s σ H _ I hw) λu s1 ⟨x,H1,I1,r1,q1⟩=>?_
 obtain⟨i,rfl,q⟩:=q1
 obtain⟨t,rfl⟩:=r1
 exact⟨some i,H1,I1,.int i t,q⟩
def SlR (X:Cx)(r:V->Option Int->Option Int->Hp->VK->Prop):Prop:=
 ∀ (pins:List (Addr×Obj)) (s:Shared) (σ:St) (H:Hp) (x:V) (v vl vu:Value) (lo hi:Option Int) (sl:Addr) (Q:VK),Inv X pins σ H s->RelV x v->s.heap.IsSliceOf sl vl vu .none->IsPart vl lo->IsPart vu hi->r x lo hi H Q ->
  ∃ T id,typeLookup (.type T) "__getitem__"=pure (some (.builtin id))/\s.TypeIs v T/\wpAny (model X.prog X.w) X.A (getItem v (.ref sl)) (EP X pins σ Q) X.xe s
def tSl (r:V->Option Int->Option Int->Hp->VK->Prop)(te:TE)(tl th:TO):TE:=λσ H Q=>te σ H λx H1=>tl σ H1 λl H2=>th σ H2 λu H3=>r x l u H3 Q
theorem wm {r:V->Option Int->Option Int->Hp->VK->Prop}(hr:SlR X r)(he:PE X e te)(hl:PO X lo tl)(hu:PO X hi th):PE X (.Subscript e (.Slice lo hi none p2) pos) (tSl r te tl th):=by
 intro pins s σ H Q I h
 refine Subscript_ (thn (he pins s σ H _ I h) λv s1 ⟨x,H1,I1,r1,q1⟩=>?_)
 refine wpAny_Slice (thn (hl pins s1 σ H1 _ I1 q1) λvl s2 ⟨l,H2,I2,pl,q2⟩=>thn (hu pins s2 σ H2 _ I2 q2) λvu s3 ⟨u,H3,I3,pu,q3⟩=>?_)
 rw[evalPart_none]
 refine wpAny_pure ?_
 have I4:Inv X pins σ H3 { s3 with heap:=s3.heap.push { cls:=.type "slice",data:=.fields #[vl,vu,.none] } }:=I3.kept (t':=s3.toks) λb ob q=>Heap.get?_push_of_some _ q
 obtain⟨T,id,hT,ht,hg⟩:=hr pins { s3 with heap:=s3.heap.push { cls:=.type "slice",data:=.fields #[vl,vu,.none] } } σ H3 x v vl vu l u s3.heap.objs.size Q I4 r1 (Heap.IsSliceOf.new ..) pl pu q3
 show wpAny (model X.prog X.w) X.A (subscriptTail e (.Slice lo hi none p2) v (.ref s3.heap.objs.size)) (EP X pins σ Q) X.xe { s3 with heap:=s3.heap.push { cls:=.type "slice",data:=.fields #[vl,vu,.none] } }
 exact tail_any (ops:=[.ref s3.heap.objs.size,v]) ht hT hg (by with_unfolding_all rfl)
noncomputable def qD (xs:List V)(lo hi:Option Int):List V:=(xs.drop (HT.sIx xs.length 0 lo)).take (HT.sIx xs.length xs.length hi-HT.sIx xs.length 0 lo)
theorem dU (xs:List V)(lo hi:Option Int):(qD xs lo hi).length<=xs.length:=by
 unfold qD
 rw[List.length_take,List.length_drop]
 omega
def CA (K:PySem.W.Frag):V->Option Int->Option Int->Hp->VK->Prop:=λx lo hi H Q => ∃ a xs,x = .ref a/\SqT K H a xs /\
 ¬ (HT.sIx xs.length 0 lo=0/\HT.sIx xs.length xs.length hi=xs.length)/\∀ p,H p=none->Q (.ref p) (upd H p (.tup (qD xs lo hi)))
theorem zZ:SlR X (CA X.K):=by
 intro pins s σ H x v vl vu lo hi sl Q I rx hs pl pu h
 obtain⟨a,xs,rfl,hx,hw,q⟩:=h
 cases rx
 obtain⟨its,r,ht,hz⟩:=I.tuple hx
 have hlen:its.toArray.size=xs.length:=by rw[List.size_toArray];exact r.length.symm
 refine⟨"tuple",_,PyProof.Rows.slot_tuple_getitem.lookup,ht.typeIs,?_⟩
 refine HT.getItem_tuple_cut ht hs pl pu (by rw[hlen];exact hw) ?_ (by rw[hlen];exact hz)
 rw[hlen]
 refine⟨.ref s.heap.objs.size,_,I.laid (t':=s.toks) (o:=.tup (qD xs lo hi)) (λb ob q=>Heap.get?_push_of_some _ q) (Nat.le_refl _) ?_,rfl,q _ (I.hok.fresh (Nat.le_refl _))⟩
 exact⟨Nat.le_trans (dU xs lo hi) hz,_,(r.drop (HT.sIx xs.length 0 lo)).take (HT.sIx xs.length xs.length hi-HT.sIx xs.length 0 lo),TupN.new _ _⟩
def Bt (K:PySem.W.Frag):R2:=λx y H Q => ∃ a b xs ys,x = .ref a/\y = .ref b/\SqT K H a xs/\SqT K H b ys/\xs≠[]/\xs.length+ys.length<=sizeLine /\
 (ys=[]->Q (.ref a) H)/\(ys≠[]->∀ p,H p=none->Q (.ref p) (upd H p (.tup (xs++ys))))
theorem Vals.nil_iff {xs:List V}{us:List Value}(r:Vals xs us):us=[]↔xs=[]:=by
 cases r with
 |nil=>simp
 |cons _ _=>simp
theorem yK:OpR X (binaryOp .Add) (Bt X.K):=by
 intro pins s σ H x y v u Q I rx ry h
 obtain⟨a,b,xs,ys,rfl,rfl,ha,hb,hx,hz,q1,q2⟩:=h
 cases rx
 cases ry
 obtain⟨its,r1,p1,_⟩:=I.tuple ha
 obtain⟨its2,r2,p2,_⟩:=I.tuple hb
 refine HT.cat_tup p1 p2 (λz=>hx (r1.nil_iff.mp z)) (λz=>⟨.ref a,H,I,rfl,q1 (r2.nil_iff.mp z)⟩) (λz=>?_) (by rw[← r1.length,← r2.length];exact hz)
 refine⟨.ref s.heap.objs.size,_,I.laid (t':=s.toks) (o:=.tup (xs++ys)) (λb ob q=>Heap.get?_push_of_some _ q) (Nat.le_refl _) ?_,rfl,q2 (λw=>z (r2.nil_iff.mpr w)) _ (I.hok.fresh (Nat.le_refl _))⟩
 exact⟨by rw[List.length_append];exact hz,_,r1.append r2,TupN.new _ _⟩
end
noncomputable def ixN (n:Nat)(i:Int):Option Nat:=if 0<=i then (if i<n then some i.toNat else none) else if -(n:Int)<=i then some (i+n).toNat else none
noncomputable def atI {α:Type}(xs:List α)(i:Int):Option α:=(ixN xs.length i).bind λj=>xs[j]?
theorem za {n:Nat}{i:Int}{j:Nat}(h:ixN n i=some j):seqIndex? i n=some j/\j<n/\-(n:Int)<=i/\i<n:=by
 unfold ixN at h
 by_cases h0 : 0<=i
 ·rw[if_pos h0] at h
  by_cases h1:i<n
  ·rw[if_pos h1] at h
   have e:i.toNat=j:=Option.some.inj h
   exact⟨by rw[seqIndex_of h0 h1,e],by omega,by omega,h1⟩
  ·rw[if_neg h1] at h;cases h
 ·rw[if_neg h0] at h
  by_cases h1 : -(n:Int)<=i
  ·rw[if_pos h1] at h
   have e:(i+n).toNat=j:=Option.some.inj h
   exact⟨by rw[seqIndex_neg (by omega) h1,e],by omega,h1,by omega⟩
  ·rw[if_neg h1] at h;cases h
theorem kR {α:Type}{xs:List α}{i:Int}{v : α}(h:atI xs i=some v):∃ j,seqIndex? i xs.length=some j/\xs[j]?=some v/\j<xs.length/\-(xs.length:Int)<=i/\i<xs.length:=by
 unfold atI at h
 cases e:ixN xs.length i with
 |none=>rw[e] at h;cases h
 |some j =>
  rw[e] at h
  obtain⟨h1,h2,h3,h4⟩:=za e
  exact⟨j,h1,h,h2,h3,h4⟩
def ue (b:Expr):Prop:=∀ o i,subscripted b false o i=operate [o,i] (getItem o i)
def IxR (X:Cx)(r:R2):Prop:=
 ∀ (value slice:Expr) (pins:List (Addr×Obj)) (s:Shared) (σ:St) (H:Hp) (x y:V) (v u:Value) (Q:VK),Inv X pins σ H s->RelV x v->RelV y u->r x y H Q ->
  subscripted slice false v u=operate [v,u] (getItem v u)->wpAny (model X.prog X.w) X.A (subscriptTail value slice v u) (EP X pins σ Q) X.xe s
def MtR (X:Cx)(id:String)(r:V->List V->Hp->VK->Prop):Prop:=
 ∀ (pins:List (Addr×Obj)) (s:Shared) (σ:St) (H:Hp) (x:V) (xs:List V) (v:Value) (us:List Value) (Q:VK),Inv X pins σ H s->RelV x v->Vals xs us->r x xs H Q ->
  wpAny (model X.prog X.w) X.A (call (.builtin id) (v::us)) (EP X pins σ Q) X.xe s
section
variable {X:Cx}{a b:Expr}{ta tb:TE}{pos:Pos}
theorem BA {r:R2}(hr:IxR X r)(ha:PE X a ta)(hb:PE X b tb)(hs:ue b):PE X (.Subscript a b pos) (tOp r ta tb):=by
 intro pins s σ H Q I h
 exact Subscript_ (A8 ha hb I h λv u s2 x y H2 I2 rx ry q=>hr a b pins s2 σ H2 x y v u Q I2 rx ry q (hs _ _))
def CF (K:PySem.W.Frag):R2:=λx y H Q => ∃ p xs i v,x = .ref p/\y = .int i/\SqL K H p xs/\atI xs i=some v/\Q v H
def CC (K:PySem.W.Frag):R2:=λx y H Q => ∃ p xs i v,x = .ref p/\y = .int i/\SqT K H p xs/\atI xs i=some v/\Q v H
def CD:R2:=λx y H Q => ∃ z i c,x = .str z/\y = .int i/\z.length<=sizeLine/\atI z.cps.toList i=some c/\Q (.str ⟨#[c]⟩) H
theorem y_:IxR X (CF X.K):=by
 intro value slice pins s σ H x y v u Q I rx ry h hs
 obtain⟨p,xs,i,z,rfl,rfl,hq,he,q⟩:=h
 cases rx
 obtain⟨t,rfl⟩:=ry
 obtain⟨its,r,pl,hz⟩:=I.list hq
 obtain⟨j,h1,h2,h3,h4,h5⟩:=kR he
 obtain⟨w,ew,rw'⟩:=r.get h2
 have hl:=r.length
 have hn:=lL
 have fin:EP X pins σ Q w s:=⟨z,H,I,rw',q⟩
 by_cases h0 : 0<=i
 ·have hj:i.toNat=j:=by
   rw[seqIndex_of h0 h5] at h1
   exact Option.some.inj h1
  exact item_listR pl.isList h0 (by omega) (by rw[hj];simpa using ew) fin hs
 ·have hj:(i+(its.toArray.size:Int)).toNat=j:=by
   rw[seqIndex_neg (by omega) h4] at h1
   rw[List.size_toArray,← hl]
   exact Option.some.inj h1
  exact subscriptTail_builtinR (x:=w) pl.isList.typeIs slot_list_getitem.lookup
   (wpAny_getItem_list_neg (Q:=λr s'=>r=w/\EP X pins σ Q r s') pl.isList (by omega) (by rw[List.size_toArray]<;>omega) (by omega) (by rw[hj];simpa using ew) ⟨rfl,fin⟩) hs
theorem AN:IxR X (CC X.K):=by
 intro value slice pins s σ H x y v u Q I rx ry h hs
 obtain⟨p,xs,i,z,rfl,rfl,hq,he,q⟩:=h
 cases rx
 obtain⟨t,rfl⟩:=ry
 obtain⟨its,r,pl,hz⟩:=I.tuple hq
 obtain⟨j,h1,h2,h3,h4,h5⟩:=kR he
 obtain⟨w,ew,rw'⟩:=r.get h2
 have hl:=r.length
 have hn:=lL
 have fin:EP X pins σ Q w s:=⟨z,H,I,rw',q⟩
 exact subscriptTail_builtinR (x:=w) pl.typeIs slot_tuple_getitem.lookup
  (getItem_tuple (j:=j) (Q:=λr s'=>r=w/\EP X pins σ Q r s') pl (by omega) (by omega) (by rw[List.size_toArray,← hl];exact h1) (by simpa using ew) ⟨rfl,fin⟩) hs
theorem AO:IxR X CD:=by
 intro value slice pins s σ H x y v u Q I rx ry h hs
 obtain⟨z,i,c,rfl,rfl,hz,he,q⟩:=h
 obtain⟨t,rfl⟩:=rx
 obtain⟨t',rfl⟩:=ry
 obtain⟨j,h1,h2,h3,h4,h5⟩:=kR he
 have hl:z.cps.toList.length=z.length:=by simp[Str.length]
 rw[hl] at h1 h4 h5
 have hn:=lL
 exact tail_any (typeIs_str s z t) slot_str_getitem.lookup (getItem_str (c:=c) (by
  have e1:decide (i < -(2 ^ 63:Int))=false:=decide_eq_false (by omega)
  have e2:decide (i≥2 ^ 63)=false:=decide_eq_false (by omega)
  rw[e1,e2,Bool.or_false]) (by rw[h1];simpa using h2) ⟨.str ⟨#[c]⟩,H,I.tok _,⟨_,rfl⟩,q⟩) hs
theorem i_ (lo hi:Option Int)(n:Nat):(sliceBounds lo hi none n).1=((HT.sIx n 0 lo:Nat):Int)/\(sliceBounds lo hi none n).2.1=((HT.sIx n n hi:Nat):Int)/\(sliceBounds lo hi none n).2.2=1:=by
 refine⟨?_,?_,rfl⟩
 ·cases lo with
  |none=>simp[sliceBounds,HT.sIx]
  |some i =>
   simp only[sliceBounds,HT.sIx,Option.getD_none,show (1:Int) > 0 by decide,if_true]
   by_cases h:i<0
   ·simp only[h,if_true]<;>omega
   ·simp only[h,if_false]<;>omega
 ·cases hi with
  |none=>simp[sliceBounds,HT.sIx]
  |some i =>
   simp only[sliceBounds,HT.sIx,Option.getD_none,show (1:Int) > 0 by decide,if_true]
   by_cases h:i<0
   ·simp only[h,if_true]<;>omega
   ·simp only[h,if_false]<;>omega
theorem mE (its:List Value)(lo hi:Option Int):slicePick its.toArray lo hi none=((its.drop (HT.sIx its.length 0 lo)).take (HT.sIx its.length its.length hi-HT.sIx its.length 0 lo)).toArray:=by
 obtain⟨h1,h2,h3⟩:=i_ lo hi its.toArray.size
 unfold slicePick
 rw[h1,h2,h3]
 simp only[sliceRange_one,pick_run,List.size_toArray]<;>rfl
def CB (K:PySem.W.Frag):V->Option Int->Option Int->Hp->VK->Prop:=λx lo hi H Q => ∃ a xs,x = .ref a/\SqL K H a xs/\∀ p,H p=none->Q (.ref p) (upd H p (.lst (qD xs lo hi)))
theorem x9:SlR X (CB X.K):=by
 intro pins s σ H x v vl vu lo hi sl Q I rx hs pl pu h
 obtain⟨a,xs,rfl,hx,q⟩:=h
 cases rx
 obtain⟨its,r,ht,hz⟩:=I.list hx
 have hlen:=r.length
 refine⟨"list",_,slot_list_getitem.lookup,ht.isList.typeIs,?_⟩
 refine wpAny_getItem_list_slice ht.isList hs pl pu .none (by simp) ?_ (by rw[List.size_toArray]<;>omega)
 rw[mE,← hlen]
 refine⟨.ref s.heap.objs.size,_,I.laid (t':=s.toks) (o:=.lst (qD xs lo hi)) (λb ob q=>Heap.get?_push_of_some _ q) (Nat.le_refl _) ?_,rfl,q _ (I.hok.fresh (Nat.le_refl _))⟩
 exact⟨Nat.le_trans (dU xs lo hi) hz,_,0,(r.drop (HT.sIx xs.length 0 lo)).take (HT.sIx xs.length xs.length hi-HT.sIx xs.length 0 lo),Heap.get?_push_size _ rfl⟩
theorem jn:eT X (.builtin "len") (λxs H Q => ∃ p ys,xs=[.ref p]/\(SqL X.K H p ys∨SqT X.K H p ys)/\Q (.int ys.length) H):=by
 intro pins s σ H xs us Q I r h
 obtain⟨p,ys,rfl,hq,q⟩:=h
 obtain⟨u,rfl,rx⟩:=vals1 r
 cases rx
 have hn:=lL
 rcases hq with hq |hq
 ·obtain⟨its,r',pl,hz⟩:=I.list hq
  have hlen:=r'.length
  exact Calls.call_len_list pl.isList (by simp only[List.size_toArray]<;>omega) ⟨.int ys.length,H,I.tok _,⟨s.toks+1,by rw[List.size_toArray,hlen]⟩,q⟩
 ·obtain⟨its,r',pl,hz⟩:=I.tuple hq
  have hlen:=r'.length
  exact len_tuple pl (by simp only[List.size_toArray]<;>omega) ⟨.int ys.length,H,I.tok _,⟨s.toks+1,by rw[List.size_toArray,hlen]⟩,q⟩
theorem o7:eT X (.builtin "len") (λxs H Q => ∃ z,xs=[.str z]/\z.length<=sizeLine/\Q (.int z.length) H):=by
 intro pins s σ H xs us Q I r h
 obtain⟨z,rfl,hz,q⟩:=h
 obtain⟨u,rfl,t,rfl⟩:=vals1 r
 have hn:=lL
 exact len_str (by omega) ⟨.int z.length,H,I.tok _,⟨_,rfl⟩,q⟩
theorem eB:eT X (.type "tuple") (λxs H Q => ∃ p ys,xs=[.ref p]/\((SqL X.K H p ys/\∀ l,H l=none->Q (.ref l) (upd H l (.tup ys)))∨(SqT X.K H p ys/\Q (.ref p) H))):=by
 intro pins s σ H xs us Q I r h
 obtain⟨p,ys,rfl,h⟩:=h
 obtain⟨u,rfl,rx⟩:=vals1 r
 cases rx
 rcases h with ⟨hq,q⟩ |⟨hq,q⟩
 ·obtain⟨its,r',pl,hz⟩:=I.list hq
  have hlen:=r'.length
  refine call_tuple_list pl.isList (λh' kp=>?_) (by simp only[List.size_toArray]<;>omega)
  have I1:Inv X pins σ H { s with heap:=h' }:=I.kept (t':=s.toks) kp
  have I2:Inv X pins σ (upd H h'.objs.size (.tup ys)) { s with heap:=h'.push { cls:=.type "tuple",data:=.seq its.toArray } }:=
   I1.laid (t':=s.toks) (λb o e=>Heap.get?_push_of_some _ e) (Nat.le_refl _) (show ObjOk X.prog X.w _ _ _ (.tup ys) from⟨hz,its,r',TupN.new _ _⟩)
  exact⟨.ref h'.objs.size,_,I2,rfl,q _ (I1.hok.fresh (Nat.le_refl _))⟩
 ·obtain⟨its,r',pl,hz⟩:=I.tuple hq
  exact call_tuple_same pl ⟨.ref p,H,I,rfl,q⟩
def tyV (K:PySem.W.Frag)(T:String)(x:V)(H:Hp):Prop:=match x with
 | .str _=>T="str"
 | .int _=>T="int"
 | .ref p=>(T="list"/\∃ xs,SqL K H p xs)∨(T="tuple"/\((∃ o,K.lookup p=some o/\o.cls = .type "tuple"/\o.dict=none)∨∃ xs,Rd H p (.tup xs))) ∨
   (T="dict"/\((∃ kvs,H p=some (.dK kvs))∨∃ kvs,H p=some (.dT kvs)))∨(T="set"/\∃ S n,H p=some (.set S n))
 |_=>False
theorem zU {pins:List (Addr×Obj)}{σ:St}{H:Hp}{s:Shared}{T:String}{x:V}{v:Value}(I:Inv X pins σ H s)(r:RelV x v)(ty:tyV X.K T x H) :
  s.TypeIs v T/\∀ a,v = .ref a->∃ ob,s.heap.get? a=some ob/\ob.dict=none:=by
 cases x with
 |str z =>
  obtain⟨t,rfl⟩:=r
  cases (show T="str" from ty)
  exact⟨typeIs_str s z t,λ_ e=>nomatch e⟩
 |int i =>
  obtain⟨t,rfl⟩:=r
  cases (show T="int" from ty)
  exact⟨typeIs_int s i t,λ_ e=>nomatch e⟩
 |ref p =>
  cases r
  rcases ty with ⟨rfl,xs,hq⟩ |⟨rfl,⟨o,hk,hc,hd⟩ |⟨xs,hr⟩⟩ |⟨rfl,hk⟩ |⟨rfl,S,n,hk⟩
  ·obtain⟨its,_,pl,_⟩:=I.list hq
   refine⟨pl.isList.typeIs,λa e=>?_⟩
   cases e
   obtain⟨o,n,e,c,hd,_⟩:=pl
   exact⟨o,e,hd⟩
  ·refine⟨⟨o,I.kIn p o hk,hc⟩,λa e=>?_⟩
   cases e
   exact⟨o,I.kIn _ o hk,hd⟩
  ·obtain⟨_,its,_,n,e⟩:=hr.ok I.hok
   refine⟨⟨_,e,rfl⟩,λa e2=>?_⟩
   cases e2
   exact⟨_,e,rfl⟩
  ·have z:∃ o,s.heap.get? p=some o/\o.ExactDict:=by
    rcases hk with ⟨kvs,hk⟩ |⟨kvs,hk⟩
    ·obtain⟨_,_,_,_,o,_,_,e,ex,_⟩:=I.hok p _ hk
     exact⟨o,e,ex⟩
    ·obtain⟨_,_,_,_,o,_,_,e,ex,_⟩:=I.hok p _ hk
     exact⟨o,e,ex⟩
   obtain⟨o,e,ex⟩:=z
   refine⟨⟨o,e,ex.1⟩,λa e2=>?_⟩
   cases e2
   exact⟨o,e,ex.2.1⟩
  ·obtain⟨o,_,_,_,e,ex,_⟩:=I.hok p _ hk
   refine⟨⟨o,e,ex.1⟩,λa e2=>?_⟩
   cases e2
   exact⟨o,e,ex.2.1⟩
 |_=>exact False.elim ty
def tBM (K:PySem.W.Frag)(T:String)(r:V->List V->Hp->VK->Prop)(to:TE)(t:TA):TE:=λσ H Q=>to σ H λx H1=>tyV K T x H1/\t σ H1 λxs H2=>r x xs H2 Q
variable {o e:Expr}{es:List Expr}{to:TE}{t:TA}{name:Str}{apos cpos:Pos}{T id:String}{r:V->List V->Hp->VK->Prop}
theorem pR (pa:PlainAttrs T)(slot:Slot T name id)(hty:typeOf (.builtin id)=pure (.type "method_descriptor"))(hm:MtR X id r)(ho:PE X o to)(ha:PA X (e::es) t)
  (hbase:attributeBase o name X.env (eval o X.env)=eval o X.env:=by rfl)
  (hfew:((backTo cpos (starEach (e::es) X.env)).all (λx => !x.1)&&(backToKw cpos (keywordEach [] X.env)).all (λx=>x.1.isSome)
   && decide ((e::es).length+([]:List Keyword).length+(if ([]:List Keyword).isEmpty then 0 else 1)<30))=true:=by rfl)
  (hline:(apos.endLine==cpos.line)=true:=by rfl) (hs:starEach (e::es) X.env=(false,eval e X.env)::starEach es X.env:=by rfl) (hplain:(backTo cpos (starEach es X.env)).any (·.1)=false:=by rfl) :
  PE X (.Call (.Attribute o name apos) (e::es) [] cpos) (tBM X.K T r to t):=by
 intro pins s σ H Q I h
 refine wpAny_Call_method_late hbase hfew hline rfl (thn (ho pins s σ H _ I h) λv s1 ⟨x,H1,I1,r1,ty,q1⟩=>?_)
 obtain⟨h1,h2⟩:=zU I1 r1 ty
 refine⟨T,id,pa,slot,hty,h1,h2,?_⟩
 have hA:=ha cpos pins s1 σ H1 _ I1 q1
 rw[hs] at hA ⊢
 refine Calls.callWith_builtin (by show (false ||(backTo cpos (starEach es X.env)).any (·.1))=false;rw[hplain]<;>rfl) (Calls.evalArgs_plain ?_)
 exact thn hA λus s2 ⟨vs,H2,I2,r2,q2⟩=>hm pins s2 σ H2 x vs v us Q I2 r1 r2 q2
end
def MtM (X:Cx)(id:String)(r:V->List V->Hp->VK->Prop):Prop:=
 ∀ (pins:List (Addr×Obj)) (s:Shared) (σ:St) (H:Hp) (x:V) (xs:List V) (v:Value) (us:List Value) (Q:VK),Inv X pins σ H s->RelV x v->Vals xs us->r x xs H Q ->
  wpAny (model X.prog X.w) X.A (call (.builtin id) (v::us)) (EP X pins σ Q) X.xe s
theorem Vals.one:∀ {x:V}{us:List Value},Vals [x] us->∃ u,us=[u]/\RelV x u
 |_,_,.cons r .nil=>⟨_,rfl,r⟩
theorem Vals.rep {xs:List V}{us:List Value}(h:Vals xs us):∀ k:Nat,Vals (List.replicate k xs).flatten (List.replicate k us).flatten
 | 0 => .nil
 |k+1=>by
  rw[List.replicate_succ,List.replicate_succ,List.flatten_cons,List.flatten_cons]
  exact Vals.append h (Vals.rep h k)
theorem foldl_rep (its:List Value):∀ (k:Nat) (acc:List Value),
  List.foldl (λx1 x2=>x1++x2) acc.toArray (List.replicate k its.toArray)=(acc++(List.replicate k its).flatten).toArray
 | 0,acc=>by simp
 |k+1,acc=>by
  have e:acc.toArray++its.toArray=(acc++its).toArray:=by simp
  have e2:(acc++its)++(List.replicate k its).flatten=acc++(List.replicate (k+1) its).flatten:=by
   rw[List.replicate_succ,List.flatten_cons,List.append_assoc]
  rw[← e2,← foldl_rep its k (acc++its),← e,List.replicate_succ,List.foldl_cons]
section
variable {X:Cx}{pins:List (Addr×Obj)}{σ:St}{H:Hp}{s:Shared}{l b:Addr}{xs ys zs:List V}
theorem Inv.lset {its its':List Value}{n:Nat}{f:Array Value->Array Value}{t':Nat}(I:Inv X pins σ H s)(hH:H l=some (.lst xs))
  (e:s.heap.get? l=some { cls:=.type "list",data:=.seq its.toArray n }) (hf:f its.toArray=its'.toArray) (hv:Vals ys its') (hz:ys.length<=sizeLine) :
  Inv X pins σ (upd H l (.lst ys)) { s with heap:=s.heap.update l (Obj.mapSeq f),toks:=t' }:=by
 have q:=PySem.IsL.update e f
 rw[hf] at q
 refine I.write (x:=l) (e:=l) (by rw[hH];exact trivial) (.inl rfl) (λb' u hb hu=>(Heap.get?_update_other s.heap (Obj.mapSeq f) (Ne.symm hb)).trans hu) ⟨_,q⟩ ?_
 exact⟨hz,its',_,hv,q⟩
theorem Inv.lnew {its:List Value}{t':Nat}(I:Inv X pins σ H s)(hv:Vals ys its)(hz:ys.length<=sizeLine) :
  Inv X pins σ (upd H s.heap.objs.size (.lst ys)) { s with heap:=s.heap.push { cls:=.type "list",data:=.seq its.toArray },toks:=t' }:=
 I.laid (λ_ _ q=>Heap.get?_push_of_some _ q) (Nat.le_refl _) ⟨hz,its,0,hv,Heap.get?_push_size _ rfl⟩
theorem Inv.fresh (I:Inv X pins σ H s):H s.heap.objs.size=none:=I.hok.fresh (Nat.le_refl _)
theorem Inv.lstM (I:Inv X pins σ H s)(hH:H l=some (.lst xs)):xs.length<=sizeLine/\∃ (its:List Value) (n:Nat),Vals xs its/\xs.length=its.length/\s.heap.get? l=some { cls:=.type "list",data:=.seq its.toArray n }:=by
 obtain⟨z,its,n,r,e⟩:=I.hok l _ hH
 exact⟨z,its,n,r,r.length,e⟩
end
section
variable {X:Cx}
def yr:V->List V->Hp->VK->Prop:=λx vs H Q => ∃ l xs y,x = .ref l/\vs=[y]/\H l=some (.lst xs)/\xs.length<sizeLine/\Q .non (upd H l (.lst (xs++[y])))
theorem uU:MtM X "list.append" yr:=by
 intro pins s σ H x vs v us Q I rx rv h
 obtain⟨l,xs,y,rfl,rfl,hH,hz,q⟩:=h
 cases rx
 obtain⟨u,rfl,ru⟩:=rv.one
 obtain⟨z,its,n,r,hl,e⟩:=I.lstM hH
 refine call_meets F.slot_list_append ⟨_,e,rfl⟩ F.entry_list_append (F.args_list_append_2 _ _) (PySem.list_append l its.toArray n u (by rw[List.size_toArray];omega)) ⟨e,?_⟩
 refine⟨.non,_,I.lset (its':=its++[u]) hH e (by simp) (r.append (.cons ru .nil)) ?_,rfl,q⟩
 rw[List.length_append,List.length_singleton]
 omega
theorem len_rep {α:Type}(xs:List α)(k:Nat):(List.replicate k xs).flatten.length=k*xs.length:=by
 induction k with
 |zero=>simp
 |succ k ih=>rw[List.replicate_succ,List.flatten_cons,List.length_append,ih,Nat.succ_mul,Nat.add_comm]
end
inductive D where
 |non |bl (b:Bool) |int (i:Int) |str (x:Str)
 |tup (xs:List D) |lst (xs:List D) |set (xs:List D) |loc (l:Nat)
 deriving Inhabited
def TQ (K:PySem.W.Frag)(H:Hp)(J:List Addr)(a:Addr)(xs:List V):Prop:=
 (Rd H a (.tup xs)/\a∉J/\xs.length<=sizeLine)∨∃ (o:Obj) (its:Array Value) (n:Nat),K.lookup a=some o/\o.cls = .type "tuple"/\o.dict=none/\o.data = .seq its n/\its.size<=sizeLine/\Vals xs its.toList
def LQ (K:PySem.W.Frag)(H:Hp)(J:List Addr)(a:Addr)(xs:List V):Prop:=
 (Rd H a (.lst xs)/\a∉J/\xs.length<=sizeLine)∨∃ (o:Obj) (its:Array Value) (n:Nat),K.lookup a=some o/\o.cls = .type "list"/\o.dict=none/\o.data = .seq its n/\its.size<=sizeLine/\Vals xs its.toList
theorem TQ.sq {K:PySem.W.Frag}{H:Hp}{J:List Addr}{a:Addr}{xs:List V}(h:TQ K H J a xs):SqT K H a xs:=h.elim (λz => .inl z.1) λ⟨o,its,n,a,b,_,c⟩ => .inr ⟨o,its,n,a,b,c⟩
theorem LQ.sq {K:PySem.W.Frag}{H:Hp}{J:List Addr}{a:Addr}{xs:List V}(h:LQ K H J a xs):SqL K H a xs:=h.elim (λz => .inl z.1) .inr
noncomputable def B3 (a:Addr)(us:List Value):HO:=HO.ext λh => ∃ o es ep t,h.get? a=some o/\o.ExactSet/\o.data = .set es ep t/\(es.toList.map (·.2))=us/\t.fits es.size=true/\es.size<=sizeLine
def okS (x:Str):Prop:=x.length<=sizeLine/\PyData.strOk x=true
mutual
def At (K:PySem.W.Frag)(H:Hp)(J:List Addr):D->V->Prop
 | .non,v=>v = .non
 | .bl b,v=>v = .bl b
 | .int i,v=>v = .int i
 | .str x,v=>v = .str x/\okS x
 | .tup ds,v => ∃ a xs,v = .ref a/\TQ K H J a xs/\Ats K H J ds xs
 | .lst ds,v => ∃ a xs,v = .ref a/\LQ K H J a xs/\Ats K H J ds xs
 | .set ds,v => ∃ a us xs,v = .ref a/\H a=some (B3 a us)/\a∉J/\Vals xs us/\Ats K H J ds xs
 | .loc l,v => ∃ a,v = .ref a/\J[l]?=some a
def Ats (K:PySem.W.Frag)(H:Hp)(J:List Addr):List D->List V->Prop
 |[],vs=>vs=[]
 |d::ds,vs => ∃ v r,vs=v::r/\At K H J d v/\Ats K H J ds r
end
structure Ex (J:List Addr) (H:Hp) (J':List Addr) (H':Hp):Prop where
 pre:J <+: J'
 keep:∀ b o,H b=some o->b∉J->H' b=some o/\b∉J'
theorem Ex.refl {J:List Addr}{H:Hp}:Ex J H J H:=⟨List.prefix_refl _,λ_ _ h n=>⟨h,n⟩⟩
theorem Ex.trans {J J1 J2:List Addr}{H H1 H2:Hp}(a:Ex J H J1 H1)(b:Ex J1 H1 J2 H2):Ex J H J2 H2:=
 ⟨a.pre.trans b.pre,λc o h n=>let ⟨h1,n1⟩:=a.keep c o h n;b.keep c o h1 n1⟩
theorem Ex.same {J:List Addr}{H H':Hp}(s:Same H H'):Ex J H J H':=⟨List.prefix_refl _,λb o h n=>⟨s b o h,n⟩⟩
section
variable {K:PySem.W.Frag}{H H':Hp}{J J':List Addr}
theorem Rd.ex {a:Addr}{u:HO}(e:Ex J H J' H')(h:Rd H a u)(n:a∉J):Rd H' a u/\a∉J':=by
 rcases h with h |⟨o,h⟩
 ·exact⟨.inl (e.keep a _ h n).1,(e.keep a _ h n).2⟩
 ·exact⟨.inr ⟨o,(e.keep a _ h n).1⟩,(e.keep a _ h n).2⟩
theorem TQ.ex {a:Addr}{xs:List V}(e:Ex J H J' H')(h:TQ K H J a xs):TQ K H' J' a xs:=h.elim (λz => .inl ⟨(z.1.ex e z.2.1).1,(z.1.ex e z.2.1).2,z.2.2⟩) .inr
theorem LQ.ex {a:Addr}{xs:List V}(e:Ex J H J' H')(h:LQ K H J a xs):LQ K H' J' a xs:=h.elim (λz => .inl ⟨(z.1.ex e z.2.1).1,(z.1.ex e z.2.1).2,z.2.2⟩) .inr
theorem TQ.len {a:Addr}{xs:List V}(h:TQ K H J a xs):xs.length<=sizeLine:=by
 rcases h with ⟨_,_,z⟩ |⟨o,its,n,_,_,_,_,z,r⟩
 ·exact z
 ·have e:=Vals.length r
  simp only[Array.length_toList] at e
  omega
theorem LQ.len {a:Addr}{xs:List V}(h:LQ K H J a xs):xs.length<=sizeLine:=by
 rcases h with ⟨_,_,z⟩ |⟨o,its,n,_,_,_,_,z,r⟩
 ·exact z
 ·have e:=Vals.length r
  simp only[Array.length_toList] at e
  omega
theorem tw {α:Type}{l l':List α}(h:l <+: l'){i:Nat}{x : α}(e:l[i]?=some x):l'[i]?=some x:=by
 obtain⟨t,rfl⟩:=h
 rw[List.getElem?_append_left (List.getElem?_eq_some_iff.mp e).1];exact e
mutual
theorem At.ex (e:Ex J H J' H'):∀ {d:D}{v:V},At K H J d v->At K H' J' d v
 | .non,_,h=>by unfold At at h ⊢;exact h
 | .bl _,_,h=>by unfold At at h ⊢;exact h
 | .int _,_,h=>by unfold At at h ⊢;exact h
 | .str _,_,h=>by unfold At at h ⊢;exact h
 | .tup ds,_,h=>by unfold At at h ⊢;obtain⟨a,xs,rfl,q,r⟩:=h;exact⟨a,xs,rfl,q.ex e,Ats.ex e r⟩
 | .lst ds,_,h=>by unfold At at h ⊢;obtain⟨a,xs,rfl,q,r⟩:=h;exact⟨a,xs,rfl,q.ex e,Ats.ex e r⟩
 | .set ds,_,h=>by unfold At at h ⊢;obtain⟨a,us,xs,rfl,q,n,r,z⟩:=h;exact⟨a,us,xs,rfl,(e.keep a _ q n).1,(e.keep a _ q n).2,r,Ats.ex e z⟩
 | .loc l,_,h=>by unfold At at h ⊢;obtain⟨a,rfl,q⟩:=h;exact⟨a,rfl,tw e.pre q⟩
theorem Ats.ex (e:Ex J H J' H'):∀ {ds:List D}{vs:List V},Ats K H J ds vs->Ats K H' J' ds vs
 |[],_,h=>by unfold Ats at h ⊢;exact h
 |d::ds,_,h=>by unfold Ats at h ⊢;obtain⟨v,r,rfl,p,q⟩:=h;exact⟨v,r,rfl,At.ex e p,Ats.ex e q⟩
end
theorem At.non_iff {v:V}:At K H J .non v↔v = .non:=by unfold At;exact Iff.rfl
theorem At.bl_iff {b:Bool}{v:V}:At K H J (.bl b) v↔v = .bl b:=by unfold At;exact Iff.rfl
theorem At.int_iff {i:Int}{v:V}:At K H J (.int i) v↔v = .int i:=by unfold At;exact Iff.rfl
theorem At.str_iff {x:Str}{v:V}:At K H J (.str x) v↔v = .str x/\okS x:=by unfold At;exact Iff.rfl
theorem At.tup_iff {ds:List D}{v:V}:At K H J (.tup ds) v↔∃ a xs,v = .ref a/\TQ K H J a xs/\Ats K H J ds xs:=by unfold At;exact Iff.rfl
theorem At.lst_iff {ds:List D}{v:V}:At K H J (.lst ds) v↔∃ a xs,v = .ref a/\LQ K H J a xs/\Ats K H J ds xs:=by unfold At;exact Iff.rfl
theorem At.set_iff {ds:List D}{v:V}:At K H J (.set ds) v↔∃ a us xs,v = .ref a/\H a=some (B3 a us)/\a∉J/\Vals xs us/\Ats K H J ds xs:=by unfold At;exact Iff.rfl
theorem At.loc_iff {l:Nat}{v:V}:At K H J (.loc l) v↔∃ a,v = .ref a/\J[l]?=some a:=by unfold At;exact Iff.rfl
theorem Ats.nil_iff {vs:List V}:Ats K H J [] vs↔vs=[]:=by unfold Ats;exact Iff.rfl
theorem Ats.cons_iff {d:D}{ds:List D}{vs:List V}:Ats K H J (d::ds) vs↔∃ v r,vs=v::r/\At K H J d v/\Ats K H J ds r:=by
 constructor
 ·intro h;unfold Ats at h;exact h
 ·intro h;unfold Ats;exact h
theorem Ats.nil:Ats K H J [] []:=Ats.nil_iff.mpr rfl
theorem Ats.cons {d:D}{v:V}{ds:List D}{vs:List V}(h:At K H J d v)(r:Ats K H J ds vs):Ats K H J (d::ds) (v::vs):=Ats.cons_iff.mpr ⟨v,vs,rfl,h,r⟩
theorem Ats.uncons {d:D}{v:V}{ds:List D}{vs:List V}(h:Ats K H J (d::ds) (v::vs)):At K H J d v/\Ats K H J ds vs:=by
 obtain⟨_,_,e,p,q⟩:=Ats.cons_iff.mp h;cases e;exact⟨p,q⟩
theorem Ats.length:∀ {ds:List D}{vs:List V},Ats K H J ds vs->ds.length=vs.length
 |[],_,h=>by rw[Ats.nil_iff.mp h];rfl
 |d::ds,_,h=>by obtain⟨v,r,rfl,_,q⟩:=Ats.cons_iff.mp h;rw[List.length_cons,List.length_cons,Ats.length q]
theorem Ats.append:∀ {ds es:List D}{vs us:List V},Ats K H J ds vs->Ats K H J es us->Ats K H J (ds++es) (vs++us)
 |[],_,_,_,h,k=>by rw[Ats.nil_iff.mp h];exact k
 |d::ds,_,_,_,h,k=>by obtain⟨v,r,rfl,p,q⟩:=Ats.cons_iff.mp h;exact .cons p (Ats.append q k)
theorem Ats.get:∀ {ds:List D}{vs:List V}{i:Nat}{d:D},Ats K H J ds vs->ds[i]?=some d->∃ v,vs[i]?=some v/\At K H J d v
 |[],_,_,_,_,e=>by simp at e
 |d::ds,_,0,_,h,e=>by obtain⟨v,r,rfl,p,q⟩:=Ats.cons_iff.mp h;simp at e;subst e;exact⟨v,rfl,p⟩
 |d::ds,_,i+1,_,h,e=>by obtain⟨v,r,rfl,p,q⟩:=Ats.cons_iff.mp h;exact Ats.get (i:=i) q (by simpa using e)
theorem Ats.get':∀ {ds:List D}{vs:List V}{i:Nat}{v:V},Ats K H J ds vs->vs[i]?=some v->∃ d,ds[i]?=some d/\At K H J d v
 |[],_,_,_,h,e=>by rw[Ats.nil_iff.mp h] at e;simp at e
 |d::ds,_,0,_,h,e=>by obtain⟨v,r,rfl,p,q⟩:=Ats.cons_iff.mp h;simp at e;subst e;exact⟨d,rfl,p⟩
 |d::ds,_,i+1,_,h,e=>by obtain⟨v,r,rfl,p,q⟩:=Ats.cons_iff.mp h;exact Ats.get' (i:=i) q (by simpa using e)
theorem Ats.take:∀ {ds:List D}{vs:List V}(n:Nat),Ats K H J ds vs->Ats K H J (ds.take n) (vs.take n)
 |_,_,0,_=>by simpa using Ats.nil
 |[],_,_+1,h=>by rw[Ats.nil_iff.mp h];simpa using Ats.nil
 |d::ds,_,n+1,h=>by obtain⟨v,r,rfl,p,q⟩:=Ats.cons_iff.mp h;exact .cons p (Ats.take n q)
theorem Ats.drop:∀ {ds:List D}{vs:List V}(n:Nat),Ats K H J ds vs->Ats K H J (ds.drop n) (vs.drop n)
 |_,_,0,h=>h
 |[],_,_+1,h=>by rw[Ats.nil_iff.mp h];simpa using Ats.nil
 |d::ds,_,n+1,h=>by obtain⟨v,r,rfl,p,q⟩:=Ats.cons_iff.mp h;exact Ats.drop n q
theorem Ats.rep {ds:List D}{vs:List V}(h:Ats K H J ds vs):∀ k:Nat,Ats K H J (List.replicate k ds).flatten (List.replicate k vs).flatten
 | 0=>Ats.nil
 |k+1=>by rw[List.replicate_succ,List.replicate_succ,List.flatten_cons,List.flatten_cons];exact h.append (Ats.rep h k)
theorem Ats.ofInts:∀ (ns:List Int),Ats K H J (ns.map D.int) (ns.map V.int)
 |[] => .nil
 |n::ns => .cons (At.int_iff.mpr rfl) (Ats.ofInts ns)
theorem Ats.toInts:∀ {ns:List Int}{vs:List V},Ats K H J (ns.map D.int) vs->vs=ns.map V.int
 |[],_,h=>Ats.nil_iff.mp h
 |n::ns,_,h=>by obtain⟨v,r,rfl,p,q⟩:=Ats.cons_iff.mp h;rw[At.int_iff.mp p,Ats.toInts q];rfl
end
mutual
def toPy:D->Option PyData
 | .non=>some .none
 | .bl b=>some (.bool b)
 | .int i=>some (.int i)
 | .str x=>some (.str x)
 | .tup ds=>(dg ds).map .tuple
 | .lst ds=>(dg ds).map .list
 | .set _=>none
 | .loc _=>none
def dg:List D->Option (List PyData)
 |[]=>some []
 |d::ds=>(toPy d).bind λp=>(dg ds).map λr=>p::r
end
inductive MO where
 |dict (kvs:List (D×D)) |lst (xs:List D) |exc (c:Str) |dictN (kvs:List (D×D)) |ins (c:Str) (fs:List (Str×D))
 deriving Inhabited
abbrev Sto:=List MO
noncomputable def fH:D->Option Key
 | .int i=>some (.inl i)
 | .str x=>some (.inr x)
 |_=>none
noncomputable def ExO (a C:Addr):HO:=HO.ext λh => ∃ o,h.get? a=some o/\o.cls = .ref C
noncomputable def CK (d:D):Option PyData:=(toPy d).bind λp=>if keyOk 8 p=true then some p else none
abbrev RKN (K:PySem.W.Frag)(H:Hp)(J:List Addr):(D×D)->(PyData×Addr×V)->Prop:=λp q=>(CK p.1=some q.1/\At K H J p.1 (.ref q.2.1))/\At K H J p.2 q.2.2
abbrev RFs (K:PySem.W.Frag)(H:Hp)(J:List Addr):(Str×D)->(Str×V)->Prop:=λp q=>p.1=q.1/\At K H J p.2 q.2
def MAt (K:PySem.W.Frag)(H:Hp)(J:List Addr):MO->Addr->Prop
 | .lst ds,a => ∃ xs,H a=some (.lst xs)/\Ats K H J ds xs
 | .dict kvs,a => ∃ ps:List (Key×V),H a=some (.dK ps)/\Paired (λ(p:D×D) (q:Key×V)=>(fH p.1=some q.1/\At K H J p.1 (kV q.1))/\At K H J p.2 q.2) kvs ps
 | .exc c,a => ∃ C,PySem.W.nsIn K mainGlobals c=some (some (.ref C))/\H a=some (ExO a C)
 | .dictN kvs,a => ∃ ps:List (PyData×Addr×V),H a=some (.dN ps)/\Paired (RKN K H J) kvs ps
 | .ins c fs,a => ∃ C dx vs,PySem.W.nsIn K mainGlobals c=some (some (.ref C))/\H a=some (.ins C dx vs)/\Paired (RFs K H J) fs vs
structure StoOk (K:PySem.W.Frag) (J:List Addr) (S:Sto) (H:Hp):Prop where
 len:J.length=S.length
 nd:J.Nodup
 at_:∀ (l:Nat) (a:Addr) (o:MO),J[l]?=some a->S[l]?=some o->MAt K H J o a
section
variable {K:PySem.W.Frag}{H H':Hp}{J J':List Addr}{S:Sto}
theorem MAt.ne_none {o:MO}{a:Addr}(h:MAt K H J o a):H a≠none:=by
 cases o with
 |dict kvs=>obtain⟨_,e,_⟩:=h;rw[e];simp
 |lst xs=>obtain⟨_,e,_⟩:=h;rw[e];simp
 |exc c=>obtain⟨_,_,e⟩:=h;rw[e];simp
 |dictN kvs=>obtain⟨_,e,_⟩:=h;rw[e];simp
 |ins c fs=>obtain⟨_,_,_,_,e,_⟩:=h;rw[e];simp
theorem StoOk.tracked (s:StoOk K J S H){a:Addr}(h:a∈J):H a≠none:=by
 obtain⟨l,e⟩:=List.getElem?_of_mem h
 have hl:l<S.length:=by rw[← s.len];exact (List.getElem?_eq_some_iff.mp e).1
 exact (s.at_ l a _ e (List.getElem?_eq_getElem hl)).ne_none
theorem MAt.ex {o:MO}{a:Addr}(e:Ex J H J' H')(k:H' a=H a)(h:MAt K H J o a):MAt K H' J' o a:=by
 cases o with
 |dict kvs=>obtain⟨ps,q,r⟩:=h;exact⟨ps,k.trans q,Paired.mapP r λp q z=>⟨⟨z.1.1,z.1.2.ex e⟩,z.2.ex e⟩⟩
 |lst xs=>obtain⟨ys,q,r⟩:=h;exact⟨ys,k.trans q,r.ex e⟩
 |exc c=>obtain⟨C,q,r⟩:=h;exact⟨C,q,k.trans r⟩
 |dictN kvs=>obtain⟨ps,q,r⟩:=h;exact⟨ps,k.trans q,Paired.mapP r λp q z=>⟨⟨z.1.1,z.1.2.ex e⟩,z.2.ex e⟩⟩
 |ins c fs=>obtain⟨C,dx,vs,n,q,r⟩:=h;exact⟨C,dx,vs,n,k.trans q,Paired.mapP r λp q z=>⟨z.1,z.2.ex e⟩⟩
theorem StoOk.same (s:StoOk K J S H)(e:Same H H'):StoOk K J S H':=⟨s.len,s.nd,λl a o h1 h2=>by
 have q:=s.at_ l a o h1 h2
 refine q.ex (Ex.same e) ?_
 obtain⟨u,hu⟩:=Option.ne_none_iff_exists'.mp q.ne_none
 rw[hu];exact e a u hu⟩
end
theorem aP {H:Hp}{p:Addr}(h:H p=none)(o:HO):Same H (upd H p o):=λb u q=>by rw[aA (aR q h)];exact q
abbrev Rho:=List (Option D)
abbrev Out (α:Type):=Option (Except Str α×Sto)
abbrev WT:=Str->List Addr->Sto->Hp->Prop
noncomputable def ag {α β:Type}(m:Out α) (k : α->Sto->Out β):Out β:=
 match m with
 |none=>none
 |some (.error c,S)=>some (.error c,S)
 |some (.ok a,S)=>k a S
noncomputable def okO {α:Type}(a : α) (S:Sto):Out α:=some (.ok a,S)
@[simp] theorem dJ {α β:Type}(a : α)(S:Sto)(k : α->Sto->Out β):ag (okO a S) k=k a S:=rfl
@[simp] theorem iH {α β:Type}(a : α)(S:Sto)(k : α->Sto->Out β):ag (some (.ok a,S)) k=k a S:=rfl
@[simp] theorem Be {α β:Type}(c:Str)(S:Sto)(k : α->Sto->Out β):ag (some (.error c,S)) k=some (.error c,S):=rfl
@[simp] theorem A7 {α β:Type}(k : α->Sto->Out β):ag none k=none:=rfl
noncomputable def aG {α:Type}(a:Option α) (S:Sto):Out α:=a.map λa=>(.ok a,S)
@[simp] theorem bq {α:Type}(a : α)(S:Sto):aG (some a) S=okO a S:=rfl
@[simp] theorem Bd {α:Type}(S:Sto):aG (none:Option α) S=none:=rfl
structure Cf (X:Cx) (J:List Addr) (ρ:Rho) (S:Sto) (σ:St) (H:Hp):Prop where
 len : ρ.length = σ.length
 env:∀ (i:Nat) (d:D),ρ[i]?=some (some d)->∃ v,σ[i]?=some (some v)/\At X.K H J d v
 sto:StoOk X.K J S H
theorem Cf.re {X:Cx}{J J':List Addr}{ρ:Rho}{S S':Sto}{σ:St}{H H':Hp}(c:Cf X J ρ S σ H)(e:Ex J H J' H')(s:StoOk X.K J' S' H'):Cf X J' ρ S' σ H':=
 ⟨c.len,λi d h=>let ⟨v,h1,h2⟩:=c.env i d h;⟨v,h1,h2.ex e⟩,s⟩
def B8 {α β:Type}(X:Cx)(W:WT)(R:List Addr->Hp->α->β->Prop)(J:List Addr)(H:Hp)(r:Except Str α)(S':Sto)(Q : β->Hp->Prop):Prop:=
 match r with
 | .ok a => ∀ J' H' b,Ex J H J' H'->StoOk X.K J' S' H'->R J' H' a b->Q b H'
 | .error c => ∀ J' H',Ex J H J' H'->StoOk X.K J' S' H'->W c J' S' H'
def tG {α β:Type}(X:Cx)(W:WT)(R:List Addr->Hp->α->β->Prop)(ds:List D)(vs:List V)(g:Rho->Sto->Out α):St->Hp->(β->Hp->Prop)->Prop:=λσ H Q =>
 ∃ J ρ S r S',Cf X J ρ S σ H/\Ats X.K H J ds vs/\g ρ S=some (r,S')/\B8 X W R J H r S' Q
abbrev RD (X:Cx):List Addr->Hp->D->V->Prop:=λJ H d v=>At X.K H J d v
abbrev RDs (X:Cx):List Addr->Hp->List D->List V->Prop:=λJ H d v=>Ats X.K H J d v
abbrev RB:List Addr->Hp->Bool->Bool->Prop:=λ_ _ a b=>a=b
def tE (X:Cx)(W:WT)(g:Rho->Sto->Out D):TE:=tG X W (RD X) [] [] g
def tA (X:Cx)(W:WT)(g:Rho->Sto->Out (List D)):TA:=tG X W (RDs X) [] [] g
def tT (X:Cx)(W:WT)(g:Rho->Sto->Out Bool):TT:=tG X W RB [] [] g
def SE (X:Cx)(W:WT)(e:Expr)(g:Rho->Sto->Out D):Prop:=PE X e (tE X W g)
def SA (X:Cx)(W:WT)(es:List Expr)(g:Rho->Sto->Out (List D)):Prop:=PA X es (tA X W g)
def TS1 (X:Cx)(W:WT)(e:Expr)(g:Rho->Sto->Out Bool):Prop:=PT X e (tT X W g)
def SW (X:Cx)(W:WT)(e:Expr)(g:Rho->Sto->Out Bool):Prop:=PW X e (tT X W g)
theorem PE.imp {X:Cx}{e:Expr}{t t':TE}(h:PE X e t)(i:∀ σ H Q,t' σ H Q->t σ H Q):PE X e t':=λpins s σ H Q I z=>h pins s σ H Q I (i σ H Q z)
theorem PT.imp {X:Cx}{e:Expr}{t t':TT}(h:PT X e t)(i:∀ σ H Q,t' σ H Q->t σ H Q):PT X e t':=λpins s σ H Q I z=>h pins s σ H Q I (i σ H Q z)
theorem PW.imp {X:Cx}{e:Expr}{t t':TT}(h:PW X e t)(i:∀ σ H Q,t' σ H Q->t σ H Q):PW X e t':=λwh pins s σ H Q I z=>h wh pins s σ H Q I (i σ H Q z)
theorem PA.imp {X:Cx}{e:List Expr}{t t':TA}(h:PA X e t)(i:∀ σ H Q,t' σ H Q->t σ H Q):PA X e t':=λpos pins s σ H Q I z=>h pos pins s σ H Q I (i σ H Q z)
section
variable {X:Cx}{W:WT}{α β γ:Type}{R:List Addr->Hp->γ->β->Prop}
theorem tG.bindE {fa:Rho->Sto->Out D}{k:D->Rho->Sto->Out γ}{ds:List D}{vs:List V}{σ:St}{H:Hp}{Q : β->Hp->Prop}
  (h:tG X W R ds vs (λρ S=>ag (fa ρ S) λd S1=>k d ρ S1) σ H Q):tE X W fa σ H λv H1 => ∃ d,tG X W R (d::ds) (v::vs) (k d) σ H1 Q:=by
 obtain⟨J,ρ,S,r,S',c,a,e,z⟩:=h
 cases q:fa ρ S with
 |none=>simp[q] at e
 |some o =>
  obtain⟨ro,S1⟩:=o
  simp only[q] at e
  cases ro with
  |error x =>
   cases e
   exact⟨J,ρ,S,.error x,_,c,.nil,q,z⟩
  |ok d =>
   refine⟨J,ρ,S,.ok d,S1,c,.nil,q,λJ1 H1 v x s1 m=>⟨d,J1,ρ,S1,r,S',c.re x s1,.cons m (a.ex x),e,?_⟩⟩
   cases r with
   |ok g=>exact λJ2 H2 b x2 s2 r2=>z J2 H2 b (x.trans x2) s2 r2
   |error g=>exact λJ2 H2 x2 s2=>z J2 H2 (x.trans x2) s2
theorem tG.bindA {fa:Rho->Sto->Out (List D)}{k:List D->Rho->Sto->Out γ}{ds:List D}{vs:List V}{σ:St}{H:Hp}{Q : β->Hp->Prop}
  (h:tG X W R ds vs (λρ S=>ag (fa ρ S) λd S1=>k d ρ S1) σ H Q):tA X W fa σ H λus H1 => ∃ es,es.length=us.length/\tG X W R (es++ds) (us++vs) (k es) σ H1 Q:=by
 obtain⟨J,ρ,S,r,S',c,a,e,z⟩:=h
 cases q:fa ρ S with
 |none=>simp[q] at e
 |some o =>
  obtain⟨ro,S1⟩:=o
  simp only[q] at e
  cases ro with
  |error x =>
   cases e
   exact⟨J,ρ,S,.error x,_,c,.nil,q,z⟩
  |ok d =>
   refine⟨J,ρ,S,.ok d,S1,c,.nil,q,λJ1 H1 v x s1 m=>⟨d,Ats.length m,J1,ρ,S1,r,S',c.re x s1,Ats.append m (a.ex x),e,?_⟩⟩
   cases r with
   |ok g=>exact λJ2 H2 b x2 s2 r2=>z J2 H2 b (x.trans x2) s2 r2
   |error g=>exact λJ2 H2 x2 s2=>z J2 H2 (x.trans x2) s2
theorem tG.bindT {fa:Rho->Sto->Out Bool}{k:Bool->Rho->Sto->Out γ}{ds:List D}{vs:List V}{σ:St}{H:Hp}{Q : β->Hp->Prop}
  (h:tG X W R ds vs (λρ S=>ag (fa ρ S) λd S1=>k d ρ S1) σ H Q):tT X W fa σ H λb H1=>tG X W R ds vs (k b) σ H1 Q:=by
 obtain⟨J,ρ,S,r,S',c,a,e,z⟩:=h
 cases q:fa ρ S with
 |none=>simp[q] at e
 |some o =>
  obtain⟨ro,S1⟩:=o
  simp only[q] at e
  cases ro with
  |error x =>
   cases e
   exact⟨J,ρ,S,.error x,_,c,.nil,q,z⟩
  |ok d =>
   refine⟨J,ρ,S,.ok d,S1,c,.nil,q,λJ1 H1 v x s1 m=>?_⟩
   cases m
   refine⟨J1,ρ,S1,r,S',c.re x s1,a.ex x,e,?_⟩
   cases r with
   |ok g=>exact λJ2 H2 b x2 s2 r2=>z J2 H2 b (x.trans x2) s2 r2
   |error g=>exact λJ2 H2 x2 s2=>z J2 H2 (x.trans x2) s2
end
section
variable {X:Cx}{pins:List (Addr×Obj)}{σ:St}{H:Hp}{s:Shared}{J:List Addr}
mutual
theorem At.reads (I:Inv X pins σ H s):∀ {d:D}{v:V}{u:Value}{p:PyData},At X.K H J d v->RelV v u->toPy d=some p->p.canLay0=true/\∃ as,Reads s.heap u p as
 | .non,_,_,_,h,r,e=>by
  have h:=At.non_iff.mp h;subst h;simp[toPy] at e;subst e;cases r;exact⟨rfl,[],.none⟩
 | .bl b,_,_,_,h,r,e=>by
  have h:=At.bl_iff.mp h;subst h;simp[toPy] at e;subst e;cases r;exact⟨rfl,[],.bool b⟩
 | .int i,_,_,_,h,r,e=>by
  have h:=At.int_iff.mp h;subst h;simp[toPy] at e;subst e;obtain⟨t,rfl⟩:=r;exact⟨rfl,[],.int i t⟩
 | .str x,_,_,_,h,r,e=>by
  obtain⟨ev,hk⟩:=At.str_iff.mp h;subst ev;simp[toPy] at e;subst e;obtain⟨t,rfl⟩:=r
  exact⟨by rw[PyData.canLay0];exact hk.2,[],.str x t⟩
 | .tup ds,_,_,_,h,r,e=>by
  obtain⟨a,xs,rfl,q,z⟩:=At.tup_iff.mp h
  rw[toPy] at e
  obtain⟨ps,e1,e2⟩:=Option.map_eq_some_iff.mp e
  subst e2
  cases r
  obtain⟨its,rv,⟨o,ho,hc,n,hd⟩,_⟩:=I.tuple q.sq
  obtain⟨c,as,ra⟩:=Ats.readsAll I z rv e1
  exact⟨by rw[PyData.canLay0];exact c,_,.tuple ho hc hd (by simpa using ra)⟩
 | .lst ds,_,_,_,h,r,e=>by
  obtain⟨a,xs,rfl,q,z⟩:=At.lst_iff.mp h
  rw[toPy] at e
  obtain⟨ps,e1,e2⟩:=Option.map_eq_some_iff.mp e
  subst e2
  cases r
  obtain⟨its,rv,⟨o,n,ho,hc,_,hd⟩,_⟩:=I.list q.sq
  obtain⟨c,as,ra⟩:=Ats.readsAll I z rv e1
  exact⟨by rw[PyData.canLay0];exact c,_,.list ho hc hd (by simpa using ra)⟩
 | .set _,_,_,_,_,_,e=>by simp[toPy] at e
 | .loc _,_,_,_,_,_,e=>by simp[toPy] at e
theorem Ats.readsAll (I:Inv X pins σ H s):∀ {ds:List D}{vs:List V}{us:List Value}{ps:List PyData},Ats X.K H J ds vs->Vals vs us->dg ds=some ps->PyData.canLayAll0 ps=true/\∃ as,ReadsAll s.heap us ps as
 |[],_,_,_,h,r,e=>by
  have h:=Ats.nil_iff.mp h;subst h;simp[dg] at e;subst e;cases r;exact⟨rfl,[],.nil⟩
 |d::ds,_,_,_,h,r,e=>by
  obtain⟨v,vs,rfl,p,q⟩:=Ats.cons_iff.mp h
  rw[dg] at e
  obtain⟨pd,e1,e2⟩:=Option.bind_eq_some_iff.mp e
  obtain⟨pr,e3,e4⟩:=Option.map_eq_some_iff.mp e2
  subst e4
  cases r with
  |cons r1 r2 =>
   obtain⟨c1,as,ra⟩:=At.reads I p r1 e1
   obtain⟨c2,bs,rb⟩:=Ats.readsAll I q r2 e3
   exact⟨by rw[PyData.canLayAll0,c1,c2];rfl,_,.cons ra rb⟩
end
end
section
variable {K:PySem.W.Frag}
def rD1 (K:PySem.W.Frag)(g:D->Option D):V->Hp->VK->Prop:=λx H Q => ∃ J dx d,(∀ a∈J,H a≠none)/\At K H J dx x/\g dx=some d/\∀ H' v,Same H H'->At K H' J d v->Q v H'
def rD2 (K:PySem.W.Frag)(g:D->D->Option D):R2:=λx y H Q => ∃ J dx dy d,(∀ a∈J,H a≠none)/\At K H J dx x/\At K H J dy y/\g dx dy=some d/\∀ H' v,Same H H'->At K H' J d v->Q v H'
def rDs (K:PySem.W.Frag)(g:List D->Option D):List V->Hp->VK->Prop:=λxs H Q => ∃ J ds d,(∀ a∈J,H a≠none)/\Ats K H J ds xs/\g ds=some d/\∀ H' v,Same H H'->At K H' J d v->Q v H'
end
theorem tW {H:Hp}{J:List Addr}(h:∀ a∈J,H a≠none){p:Addr}(n:H p=none):p∉J:=λm=>h p m n
theorem At.newTup {K:PySem.W.Frag}{H:Hp}{J:List Addr}{p:Addr}{ds:List D}{xs:List V}(h:Ats K H J ds xs)(n:H p=none)(hJ:∀ a∈J,H a≠none)(hz:xs.length<=sizeLine):At K (upd H p (.tup xs)) J (.tup ds) (.ref p):=
 At.tup_iff.mpr ⟨p,xs,rfl,.inl ⟨.inl aX,tW hJ n,hz⟩,h.ex (Ex.same (aP n _))⟩
theorem At.newLst {K:PySem.W.Frag}{H:Hp}{J:List Addr}{p:Addr}{ds:List D}{xs:List V}(h:Ats K H J ds xs)(n:H p=none)(hJ:∀ a∈J,H a≠none)(hz:xs.length<=sizeLine):At K (upd H p (.lst xs)) J (.lst ds) (.ref p):=
 At.lst_iff.mpr ⟨p,xs,rfl,.inl ⟨.inl aX,tW hJ n,hz⟩,h.ex (Ex.same (aP n _))⟩
section
variable {X:Cx}{W:WT}
theorem tG.mono {α β:Type}{R:List Addr->Hp->α->β->Prop}{ds:List D}{vs:List V}{g:Rho->Sto->Out α}{σ:St}{H:Hp}{Q Q' : β->Hp->Prop}(h:tG X W R ds vs g σ H Q)(i:∀ b H',Q b H'->Q' b H'):tG X W R ds vs g σ H Q':=by
 obtain⟨J,ρ,S,r,S',c,a,e,z⟩:=h
 refine⟨J,ρ,S,r,S',c,a,e,?_⟩
 cases r with
 |ok g=>exact λJ' H' b x s r=>i _ _ (z J' H' b x s r)
 |error g=>exact z
theorem StoOk.all {K:PySem.W.Frag}{J:List Addr}{S:Sto}{H:Hp}(s:StoOk K J S H):∀ a∈J,H a≠none:=λ_ m=>s.tracked m
theorem tG.op1 {g:D->Option D}{dx:D}{x:V}{σ:St}{H:Hp}{Q:VK}(h:tG X W (RD X) [dx] [x] (λ_ S=>aG (g dx) S) σ H Q):rD1 X.K g x H Q:=by
 obtain⟨J,ρ,S,r,S',c,a,e,z⟩:=h
 obtain⟨ax,_⟩:=a.uncons
 cases q:g dx with
 |none=>simp[q] at e
 |some d =>
  simp only[q,bq,okO] at e
  cases e
  exact⟨J,dx,d,c.sto.all,ax,q,λH' v s m=>z J H' v (Ex.same s) (c.sto.same s) m⟩
theorem tG.op2 {g:D->D->Option D}{dx dy:D}{x y:V}{σ:St}{H:Hp}{Q:VK}(h:tG X W (RD X) [dy,dx] [y,x] (λ_ S=>aG (g dx dy) S) σ H Q):rD2 X.K g x y H Q:=by
 obtain⟨J,ρ,S,r,S',c,a,e,z⟩:=h
 obtain⟨ay,a⟩:=a.uncons
 obtain⟨ax,_⟩:=a.uncons
 cases q:g dx dy with
 |none=>simp[q] at e
 |some d =>
  simp only[q,bq,okO] at e
  cases e
  exact⟨J,dx,dy,d,c.sto.all,ax,ay,q,λH' v s m=>z J H' v (Ex.same s) (c.sto.same s) m⟩
theorem tG.opS {g:List D->Option D}{ds:List D}{xs:List V}{σ:St}{H:Hp}{Q:VK}(h:tG X W (RD X) ds xs (λ_ S=>aG (g ds) S) σ H Q):rDs X.K g xs H Q:=by
 obtain⟨J,ρ,S,r,S',c,a,e,z⟩:=h
 cases q:g ds with
 |none=>simp[q] at e
 |some d =>
  simp only[q,bq,okO] at e
  cases e
  exact⟨J,ds,d,c.sto.all,a,q,λH' v s m=>z J H' v (Ex.same s) (c.sto.same s) m⟩
abbrev OpD (X:Cx)(f:Value->Value->Sem Value)(g:D->D->Option D):Prop:=OpR X f (rD2 X.K g)
abbrev UnD (X:Cx)(f:Value->Sem Value)(g:D->Option D):Prop:=UnR X f (rD1 X.K g)
abbrev kz (X:Cx)(f:Value)(g:List D->Option D):Prop:=eT X f (rDs X.K g)
noncomputable def af (i:Nat):Rho->Sto->Out D:=λρ S=>match ρ[i]? with
 |some (some d)=>okO d S
 |_=>none
theorem aa {i:Nat}{x:Str}{pos:Pos}(hN:X.N[i]?=some x:=by rfl)(hv:Vis X.env.scope x:=by first |exact Or.inl rfl |exact Or.inr (Or.inl rfl) |exact Or.inr (Or.inr rfl))(hd:(x==("__debug__":Str))=false:=by decide)
  (hcd:(x==("__classdict__":Str))=false:=by decide):SE X W (.Name x pos) (af i):=(wj hN hv hd hcd).imp λσ H Q h=>by
 obtain⟨J,ρ,S,r,S',c,_,e,z⟩:=h
 unfold af at e
 split at e
 ·rename_i d q
  obtain⟨v,h1,h2⟩:=c.env i d q
  cases e
  exact⟨v,h1,z J H v Ex.refl c.sto h2⟩
 ·cases e
def ao (d:D):Rho->Sto->Out D:=λ_ S=>okO d S
theorem gW {d:D}{v:V}{σ:St}{H:Hp}{Q:VK}(h:tE X W (ao d) σ H Q)(a:∀ J,At X.K H J d v):Q v H:=by
 obtain⟨J,ρ,S,r,S',c,_,e,z⟩:=h
 cases e
 exact z J H v Ex.refl c.sto (a J)
theorem ai {i j pos}:SE X W (.Constant (.int i) j pos) (ao (.int i)):=pe_int.imp λσ H Q h=>gW h λ_=>At.int_iff.mpr rfl
theorem fS {b j pos}:SE X W (.Constant (.bool b) j pos) (ao (.bl b)):=pe_bl.imp λσ H Q h=>gW h λ_=>At.bl_iff.mpr rfl
theorem lm {j pos}:SE X W (.Constant .none j pos) (ao .non):=pe_non.imp λσ H Q h=>gW h λ_=>At.non_iff.mpr rfl
theorem aI {x j pos}(hx:okS x:=by exact⟨by decide,by decide +kernel⟩):SE X W (.Constant (.str x) j pos) (ao (.str x)):=pe_str.imp λσ H Q h=>gW h λ_=>At.str_iff.mpr ⟨rfl,hx⟩
def qS (K:PySem.W.Frag)(u:Value)(d:D):Prop:=∃ v,RelV v u/\∀ H J,At K H J d v
theorem yh {x:Str}{d:D}{u:Value}{pos:Pos}(hm:X.mg x=some u)(ha:qS X.K u d)(hg:Gl X x:=by rfl)(hd:(x==("__debug__":Str))=false:=by decide):SE X W (.Name x pos) (ao d):=by
 obtain⟨v,r,a⟩:=ha
 exact (tz hg hm r hd).imp λσ H Q h=>gW h λJ=>a H J
def ap (g:D->D->Option D)(fa fb:Rho->Sto->Out D):Rho->Sto->Out D:=λρ S=>ag (fa ρ S) λx S1=>ag (fb ρ S1) λy S2=>aG (g x y) S2
def cUn (g:D->Option D)(fa:Rho->Sto->Out D):Rho->Sto->Out D:=λρ S=>ag (fa ρ S) λx S1=>aG (g x) S1
variable {a b c:Expr}{fa fb fc:Rho->Sto->Out D}{pos:Pos}
theorem jq {g:D->D->Option D}{σ:St}{H:Hp}{Q:VK}(h:tE X W (ap g fa fb) σ H Q):tOp (rD2 X.K g) (tE X W fa) (tE X W fb) σ H Q:=
 (tG.bindE h).mono λv H1 ⟨d,h1⟩=>(tG.bindE h1).mono λv2 H2 ⟨d2,h2⟩=>tG.op2 h2
theorem aj {op:Operator}{g:D->D->Option D}(ho:OpD X (binaryOp op) g)(ha:SE X W a fa)(hb:SE X W b fb):SE X W (.BinOp a op b pos) (ap g fa fb):=
 (Bz ho ha hb).imp λσ H Q h=>jq h
theorem Bq {op:UnaryOp}{g:D->Option D}(ho:UnD X (unaryOp op) g)(ha:SE X W a fa):SE X W (.UnaryOp op a pos) (cUn g fa):=
 (Bx ho ha).imp λσ H Q h=>(tG.bindE h).mono λv H1 ⟨d,h1⟩=>tG.op1 h1
theorem cN {op:CmpOp}{g:D->D->Option D}(ho:OpD X (compareOp op) g)(ha:SE X W a fa)(hb:SE X W b fb)(hm:behindInMarks op b=false:=by first |exact wC _ (by decide) (by decide) |with_unfolding_all rfl):SE X W (.Compare a [op] [b] pos) (ap g fa fb):=
 (yG ho ha hb hm).imp λσ H Q h=>jq h
noncomputable def blO:D->Option Bool
 | .bl b=>some b
 |_=>none
def aV (f:Rho->Sto->Out D):Rho->Sto->Out Bool:=λρ S=>ag (f ρ S) λx S1=>aG (blO x) S1
theorem fL {f:Rho->Sto->Out D}{σ:St}{H:Hp}{Q:Bool->Hp->Prop}(h:tT X W (aV f) σ H Q):tTest (tE X W f) σ H Q:=
 (tG.bindE h).mono λv H1 ⟨d,h1⟩=>by
  obtain⟨J,ρ,S,r,S',c,m,e,z⟩:=h1
  obtain⟨m,_⟩:=m.uncons
  cases d with
  |bl k =>
   cases e
   exact⟨k,At.bl_iff.mp m,z J H1 k Ex.refl c.sto rfl⟩
  |_=>simp[blO] at e
theorem tTest.mono {t t':TE}(i:∀ σ H Q,t' σ H Q->t σ H Q){σ:St}{H:Hp}{Q:Bool->Hp->Prop}(h:tTest t' σ H Q):tTest t σ H Q:=i _ _ _ h
theorem aT {op:CmpOp}{g:D->D->Option D}(ho:OpD X (compareOp op) g)(ha:SE X W a fa)(hb:SE X W b fb)(hm:behindInMarks op b=false:=by first |exact wC _ (by decide) (by decide) |with_unfolding_all rfl) :
  TS1 X W (.Compare a [op] [b] pos) (aV (ap g fa fb)):=
 (yv ho ha hb hm).imp λσ H Q h=>tTest.mono (λ_ _ _=>jq) (fL h)
theorem dD (ha:SE X W a fa)(he:∀ whole,isTrue a X.env whole=(do let v ← whole;standAt a.pos;holding [v] (truthy v)):=by intro _;rfl):TS1 X W a (aV fa):=
 (Ag ha he).imp λσ H Q h=>fL h
def gz (g g':D->D->Option D)(fa fb fc:Rho->Sto->Out D):Rho->Sto->Out D:=λρ S=>ag (fa ρ S) λx S1=>ag (fb ρ S1) λy S2=>ag (aG ((g x y).bind blO) S2) λk S3 =>
 if k=true then ag (fc ρ S3) λz S4=>aG (g' y z) S4 else okO (.bl false) S3
theorem md {g g':D->D->Option D}{σ:St}{H:Hp}{Q:VK}(h:tE X W (gz g g' fa fb fc) σ H Q):rh (rD2 X.K g) (rD2 X.K g') (tE X W fa) (tE X W fb) (tE X W fc) σ H Q:=
 (tG.bindE h).mono λx H1 ⟨dx,h1⟩=>(tG.bindE h1).mono λy H2 ⟨dy,h2⟩=>by
  obtain⟨J,ρ,S,r,S',c,m,e,z⟩:=h2
  obtain⟨my,m'⟩:=m.uncons
  obtain⟨mx,_⟩:=m'.uncons
  cases q:g dx dy with
  |none=>simp[q] at e
  |some d =>
   cases d with
   |bl k =>
    simp only[q,Option.bind_some,blO,bq,dJ] at e
    refine⟨J,dx,dy,_,c.sto.all,mx,my,q,λH3 v s3 m3=>?_⟩
    cases At.bl_iff.mp m3
    refine⟨k,rfl,?_⟩
    have x3:Ex J H2 J H3:=Ex.same s3
    have z3:B8 X W (RD X) J H3 r S' Q:=by
     cases r with
     |ok w=>exact λJ' H' b x s r=>z J' H' b (x3.trans x) s r
     |error w=>exact λJ' H' x s=>z J' H' (x3.trans x) s
    cases k with
    |true =>
     rw[if_pos rfl]
     rw[if_pos rfl] at e
     have h3:tG X W (RD X) [dy] [y] (λρ S3=>ag (fc ρ S3) λz S4=>aG (g' dy z) S4) σ H3 Q:=⟨J,ρ,S,r,S',c.re x3 (c.sto.same s3),.cons (my.ex x3) .nil,e,z3⟩
     exact (tG.bindE h3).mono λw H4 ⟨dw,h4⟩=>tG.op2 h4
    |false =>
     rw[if_neg (by decide)]
     rw[if_neg (by decide)] at e
     cases e
     exact z3 J H3 _ Ex.refl (c.sto.same s3) (At.bl_iff.mpr rfl)
   |_=>simp[q,blO] at e
theorem lu {op op':CmpOp}{g g':D->D->Option D}(ho:OpD X (compareOp op) g)(ho':OpD X (compareOp op') g')(ha:SE X W a fa)(hb:SE X W b fb)(hc:SE X W c fc)
  (hm:lastMarks [op,op'] [b,c]=false:=by with_unfolding_all rfl):SE X W (.Compare a [op,op'] [b,c] pos) (gz g g' fa fb fc):=
 (wp ho ho' ha hb hc hm).imp λσ H Q h=>md h
theorem vE {op op':CmpOp}{g g':D->D->Option D}(ho:OpD X (compareOp op) g)(ho':OpD X (compareOp op') g')(ha:SE X W a fa)(hb:SE X W b fb)(hc:SE X W c fc)
  (hm:lastMarks [op,op'] [b,c]=false:=by with_unfolding_all rfl):TS1 X W (.Compare a [op,op'] [b,c] pos) (aV (gz g g' fa fb fc)):=
 (v_ ho ho' ha hb hc hm).imp λσ H Q h=>tTest.mono (λ_ _ _=>md) (fL h)
def xz (f g:Rho->Sto->Out Bool):Rho->Sto->Out Bool:=λρ S=>ag (f ρ S) λk S1=>if k=true then g ρ S1 else okO false S1
def kF (f g:Rho->Sto->Out Bool):Rho->Sto->Out Bool:=λρ S=>ag (f ρ S) λk S1=>if k=true then okO true S1 else g ρ S1
def dX (f:Rho->Sto->Out Bool):Rho->Sto->Out Bool:=λρ S=>ag (f ρ S) λk S1=>okO (!k) S1
variable {ga gb:Rho->Sto->Out Bool}{rest:List Expr}
theorem kJ {k:Bool}{σ:St}{H:Hp}{Q:Bool->Hp->Prop}(h:tG X W RB [] [] (λ_ S=>okO k S) σ H Q):Q k H:=by
 obtain⟨J,ρ,S,r,S',c,_,e,z⟩:=h
 cases e
 exact z J H k Ex.refl c.sto rfl
theorem xT (ha:TS1 X W a ga):SW X W (.BoolOp .And [a] pos) ga:=yt ha
theorem js (ha:TS1 X W a ga):SW X W (.BoolOp .Or [a] pos) ga:=Ad ha
theorem zX (ha:TS1 X W a ga)(hb:SW X W (.BoolOp .And (b::rest) pos) gb):SW X W (.BoolOp .And (a::b::rest) pos) (xz ga gb):=
 (Ae ha hb).imp λσ H Q h=>(tG.bindT h).mono λk H1 h1=>by
  cases k with
  |true=>rw[if_pos rfl];exact h1
  |false=>rw[if_neg (by decide)];exact kJ h1
theorem hW (ha:TS1 X W a ga)(hb:SW X W (.BoolOp .Or (b::rest) pos) gb):SW X W (.BoolOp .Or (a::b::rest) pos) (kF ga gb):=
 (Bv ha hb).imp λσ H Q h=>(tG.bindT h).mono λk H1 h1=>by
  cases k with
  |true=>rw[if_pos rfl];exact kJ h1
  |false=>rw[if_neg (by decide)];exact h1
theorem eW {e:Expr}(h:SW X W e ga):TS1 X W e ga:=PW.pt h
theorem db (ha:TS1 X W a ga):TS1 X W (.UnaryOp .Not a pos) (dX ga):=(Ah ha).imp λσ H Q h=>(tG.bindT h).mono λk H1 h1=>kJ h1
def gC (f g:Rho->Sto->Out D):Rho->Sto->Out D:=λρ S=>ag (f ρ S) λx S1=>ag (aG (blO x) S1) λk S2=>if k=true then g ρ S2 else okO (.bl false) S2
def cOr (f g:Rho->Sto->Out D):Rho->Sto->Out D:=λρ S=>ag (f ρ S) λx S1=>ag (aG (blO x) S1) λk S2=>if k=true then okO (.bl true) S2 else g ρ S2
def xt (f:Rho->Sto->Out D):Rho->Sto->Out D:=λρ S=>ag (f ρ S) λx S1=>ag (aG (blO x) S1) λk S2=>okO (.bl (!k)) S2
theorem blv {f:Rho->Sto->Out D}{k:Bool->Rho->Sto->Out D}{σ:St}{H:Hp}{Q:VK}(h:tE X W (λρ S=>ag (f ρ S) λx S1=>ag (aG (blO x) S1) λb S2=>k b ρ S2) σ H Q) :
  tE X W f σ H λx H1 => ∃ c,x = .bl c/\tE X W (k c) σ H1 Q:=(tG.bindE h).mono λv H1 ⟨d,h1⟩=>by
 obtain⟨J,ρ,S,r,S',c,m,e,z⟩:=h1
 obtain⟨m,_⟩:=m.uncons
 cases d with
 |bl b=>exact⟨b,At.bl_iff.mp m,J,ρ,S,r,S',c,.nil,e,z⟩
 |_=>simp[blO] at e
theorem rM {k:Bool}{σ:St}{H:Hp}{Q:VK}(h:tE X W (λ_ S=>okO (.bl k) S) σ H Q):Q (.bl k) H:=gW (d:=.bl k) h λ_=>At.bl_iff.mpr rfl
theorem d3 {op}(ha:SE X W a fa):SE X W (.BoolOp op [a] pos) fa:=Aq ha
theorem d4 (ha:SE X W a fa)(hb:SE X W (.BoolOp .And (b::rest) pos) fb):SE X W (.BoolOp .And (a::b::rest) pos) (gC fa fb):=
 (Av ha hb).imp λσ H Q h=>(blv (k:=λk ρ S=>if k=true then fb ρ S else okO (.bl false) S) h).mono λv H1 ⟨k,e,h1⟩=>⟨k,e,by
  cases k with
  |true=>rw[if_pos rfl];exact h1
  |false=>rw[if_neg (by decide)];exact rM h1⟩
theorem zD (ha:SE X W a fa)(hb:SE X W (.BoolOp .Or (b::rest) pos) fb):SE X W (.BoolOp .Or (a::b::rest) pos) (cOr fa fb):=
 (By ha hb).imp λσ H Q h=>(blv (k:=λk ρ S=>if k=true then okO (.bl true) S else fb ρ S) h).mono λv H1 ⟨k,e,h1⟩=>⟨k,e,by
  cases k with
  |true=>rw[if_pos rfl];exact rM h1
  |false=>rw[if_neg (by decide)];exact h1⟩
theorem v4 (ha:SE X W a fa):SE X W (.UnaryOp .Not a pos) (xt fa):=
 (Ar ha).imp λσ H Q h=>(blv (k:=λk _ S=>okO (.bl (!k)) S) h).mono λv H1 ⟨k,e,h1⟩=>⟨k,e,rM h1⟩
def C_ (t:Rho->Sto->Out Bool)(f g:Rho->Sto->Out D):Rho->Sto->Out D:=λρ S=>ag (t ρ S) λk S1=>if k=true then f ρ S1 else g ρ S1
def az:Rho->Sto->Out (List D):=λ_ S=>okO [] S
def ah (f:Rho->Sto->Out D)(g:Rho->Sto->Out (List D)):Rho->Sto->Out (List D):=λρ S=>ag (f ρ S) λd S1=>ag (g ρ S1) λds S2=>okO (d::ds) S2
variable {es:List Expr}{gs:Rho->Sto->Out (List D)}
theorem aq:SA X W [] az:=pa_nil.imp λσ H Q h=>by
 obtain⟨J,ρ,S,r,S',c,_,e,z⟩:=h
 cases e
 exact z J H _ Ex.refl c.sto .nil
theorem ae {e:Expr}(ha:SE X W e fa)(hr:SA X W es gs)(hs:starEach (e::es) X.env=(false,eval e X.env)::starEach es X.env:=by rfl):SA X W (e::es) (ah fa gs):=
 (bH ha hr hs).imp λσ H Q h=>(tG.bindE h).mono λv H1 ⟨d,h1⟩=>(tG.bindA h1).mono λus H2 ⟨ds,hl,h2⟩=>by
  obtain⟨J,ρ,S,r,S',c,m,e,z⟩:=h2
  cases e
  refine z J H2 _ Ex.refl c.sto ?_
  have split:∀ {ds:List D}{us:List V},ds.length=us.length->Ats X.K H2 J (ds++[d]) (us++[v])->Ats X.K H2 J ds us/\At X.K H2 J d v:=by
   intro ds
   induction ds with
   |nil=>intro us hl m;cases us with
    |nil=>exact⟨.nil,m.uncons.1⟩
    |cons _ _=>simp at hl
   |cons x xs ih=>intro us hl m;cases us with
    |nil=>simp at hl
    |cons y ys =>
     have q:=Ats.uncons (show Ats X.K H2 J (x::(xs++[d])) (y::(ys++[v])) from m)
     have q2:=ih (by simpa using hl) q.2
     exact⟨.cons q.1 q2.1,q2.2⟩
  have q:=split hl m
  exact .cons q.2 q.1
noncomputable def szO (ds:List D)(d:D):Option D:=if ds.length<=sizeLine then some d else none
def sv (g:Rho->Sto->Out (List D)):Rho->Sto->Out D:=λρ S=>ag (g ρ S) λds S1=>aG (szO ds (.tup ds)) S1
def vn (g:Rho->Sto->Out (List D)):Rho->Sto->Out D:=λρ S=>ag (g ρ S) λds S1=>aG (szO ds (.lst ds)) S1
theorem jv {k}(h:SA X W es gs):SE X W (.Tuple es k pos) (sv gs):=(Ap h).imp λσ H Q h=>(tG.bindA h).mono λus H1 ⟨ds,hl,h1⟩=>by
 rw[List.append_nil,List.append_nil] at h1
 obtain⟨J,ρ,S,r,S',c,m,e,z⟩:=h1
 unfold szO at e
 split at e
 ·rename_i le
  cases e
  exact⟨by rw[← hl];exact le,λp hp=>z J _ _ (Ex.same (aP hp _)) (c.sto.same (aP hp _)) (At.newTup m hp c.sto.all (by rw[← hl];exact le))⟩
 ·cases e
theorem ls (h:SA X W es gs):SE X W (.List es pos) (vn gs):=(wo h).imp λσ H Q h=>(tG.bindA h).mono λus H1 ⟨ds,hl,h1⟩=>by
 rw[List.append_nil,List.append_nil] at h1
 obtain⟨J,ρ,S,r,S',c,m,e,z⟩:=h1
 unfold szO at e
 split at e
 ·rename_i le
  cases e
  exact⟨by rw[← hl];exact le,λp hp=>z J _ _ (Ex.same (aP hp _)) (c.sto.same (aP hp _)) (At.newLst m hp c.sto.all (by rw[← hl];exact le))⟩
 ·cases e
def bB (g:List D->Option D)(t:Rho->Sto->Out (List D)):Rho->Sto->Out D:=λρ S=>ag (t ρ S) λds S1=>aG (g ds) S1
theorem me {g:List D->Option D}{σ:St}{H:Hp}{Q:VK}(h:tE X W (bB g gs) σ H Q):tCB (rDs X.K g) (tA X W gs) σ H Q:=
 (tG.bindA h).mono λus H1 ⟨ds,hl,h1⟩=>by
  rw[List.append_nil,List.append_nil] at h1
  exact tG.opS h1
theorem bM {g:List D->Option D}{id:String}{x:Str}{p:Pos}{e:Expr}(hc:kz X (.builtin id) g)(hm:X.mg x=none)(hv:bootBuiltins x=some (.builtin id))(ha:SA X W (e::es) gs)(hg:Gl X x:=by rfl)
  (hn:x≠"__name__":=by decide) (hdb:(x==("__debug__":Str))=false:=by decide) (he:starEach (e::es) X.env=(false,eval e X.env)::starEach es X.env:=by rfl) (hpl:(backTo pos (starEach es X.env)).any (·.1)=false:=by rfl) :
  SE X W (.Call (.Name x p) (e::es) [] pos) (bB g gs):=by
 refine PE.imp (fZ hc hg hm hv ha hn hdb he hpl) λσ H Q h=>me h
theorem cA {g:List D->Option D}{T:String}{x:Str}{p:Pos}{e:Expr}(hc:kz X (.type T) g)(hm:X.mg x=none)(hv:bootBuiltins x=some (.type T))(ha:SA X W (e::es) gs)(hg:Gl X x:=by rfl)
  (hn:x≠"__name__":=by decide) (hdb:(x==("__debug__":Str))=false:=by decide) (he:starEach (e::es) X.env=(false,eval e X.env)::starEach es X.env:=by rfl) (hpl:(backTo pos (starEach es X.env)).any (·.1)=false:=by rfl) :
  SE X W (.Call (.Name x p) (e::es) [] pos) (bB g gs):=by
 refine PE.imp (jG hc hg hm hv ha hn hdb he hpl) λσ H Q h=>me h
end
section
variable {X:Cx}
theorem og {x y:Str}(hx:PyData.strOk x=true)(hy:PyData.strOk y=true):PyData.strOk (x++y)=true:=by
 unfold PyData.strOk at *
 rw[show (x++y).cps=x.cps++y.cps from rfl,Array.all_append,hx,hy];rfl
noncomputable def aL:D->D->Option D
 | .int i,.int j=>some (.int (i+j))
 | .str x,.str y=>if x.length+y.length<=sizeLine then some (.str (x++y)) else none
 | .tup xs,.tup ys=>if xs.length+ys.length<=sizeLine then some (.tup (xs++ys)) else none
 | .lst xs,.lst ys=>if xs.length+ys.length<=sizeLine then some (.lst (xs++ys)) else none
 |_,_=>none
theorem xm {prog:Program}{w:World}{A:Around}{E:Value->Shared->Prop}{s:Shared}{t b:Addr}{vs ws:List Value}{Q:Value->Shared->Prop}(ht:IsTup s.heap t vs.toArray)(hb:IsTup s.heap b ws.toArray)(hv:vs=[])
  (h1:Q (.ref b) s):wpAny (model prog w) A (binaryOp .Add (.ref t) (.ref b)) Q E s:=by
 obtain⟨⟨cls,dd,data,sl⟩,ho,hc,n,hd⟩:=id ht
 obtain⟨⟨cls2,dd2,data2,sl2⟩,ho2,hc2,n2,hd2⟩:=id hb
 simp only at hc hd hc2 hd2
 subst hc hd hc2 hd2
 exact concat_meets ⟨_,ho,rfl⟩ ⟨_,ho2,rfl⟩ noFill_tuple_add seq_tuple_add PySem.F.slot_tuple_add PySem.F.entry_tuple_add (PySem.F.args_tuple_add_2 _ _)
   (tuple_addW0 t b vs.toArray ws.toArray n n2 dd dd2 sl sl2 (by simp[hv])) ⟨ho,ho2,h1⟩
theorem sr {prog:Program}{w:World}{A:Around}{E:Value->Shared->Prop}{s:Shared}{t b:Addr}{vs ws:Array Value}{Q:Value->Shared->Prop}(ht:PlainL s.heap t vs)(hb:PlainL s.heap b ws)
  (h:Q (.ref s.heap.objs.size) { s with heap:=s.heap.push { cls:=.type "list",data:=.seq (vs++ws) } }) (hsz:vs.size+ws.size<=sizeLine):wpAny (model prog w) A (binaryOp .Add (.ref t) (.ref b)) Q E s:=by
 obtain⟨⟨cls,dd,data,sl⟩,n,ho,hc,_,hd⟩:=id ht
 obtain⟨⟨cls2,dd2,data2,sl2⟩,n2,ho2,hc2,_,hd2⟩:=id hb
 simp only at hc hd hc2 hd2
 subst hc hd hc2 hd2
 exact concat_meets ⟨_,ho,rfl⟩ ⟨_,ho2,rfl⟩ noFill_list_add seq_list_add PySem.F.slot_list_add PySem.F.entry_list_add (PySem.F.args_list_add_2 _ _)
   (list_addW t b vs ws n n2 dd dd2 sl sl2 hsz) ⟨ho,ho2,h⟩
theorem bT (x y:Str):(x++y).length=x.length+y.length:=by
 show (x.cps++y.cps).size=_
 rw[Array.size_append];rfl
theorem aC:OpD X (binaryOp .Add) aL:=by
 intro pins s σ H x y v u Q I rx ry h
 obtain⟨J,dx,dy,d,hJ,ax,ay,e,q⟩:=h
 unfold aL at e
 split at e
 ·rename_i i j
  cases e
  cases At.int_iff.mp ax;cases At.int_iff.mp ay
  exact AB pins s σ H _ _ v u Q I rx ry ⟨i,j,rfl,rfl,q H _ (Same.refl H) (At.int_iff.mpr rfl)⟩
 ·rename_i a b
  split at e
  ·rename_i le
   cases e
   obtain⟨ex,kx⟩:=At.str_iff.mp ax;obtain⟨ey,ky⟩:=At.str_iff.mp ay
   subst ex ey
   exact rL pins s σ H _ _ v u Q I rx ry ⟨a,b,rfl,rfl,le,q H _ (Same.refl H) (At.str_iff.mpr ⟨rfl,by rw[bT];exact le,og kx.2 ky.2⟩)⟩
  ·cases e
 ·rename_i xs ys
  split at e
  ·rename_i le
   cases e
   obtain⟨a,us,rfl,t1,m1⟩:=At.tup_iff.mp ax
   obtain⟨b,ws,rfl,t2,m2⟩:=At.tup_iff.mp ay
   by_cases hu:us=[]
   ·subst hu
    cases rx;cases ry
    obtain⟨its,r1,p1,_⟩:=I.tuple t1.sq
    obtain⟨its2,r2,p2,_⟩:=I.tuple t2.sq
    have xs0:xs=[]:=List.length_eq_zero_iff.mp m1.length
    subst xs0
    refine xm p1 p2 (r1.nil_iff.mpr rfl) ⟨.ref b,H,I,rfl,q H _ (Same.refl H) ay⟩
   ·refine yK pins s σ H _ _ v u Q I rx ry ⟨a,b,us,ws,rfl,rfl,t1.sq,t2.sq,hu,by rw[← m1.length,← m2.length];exact le,λhw=>?_,λhw p hp=>?_⟩
    ·subst hw
     have ys0:ys=[]:=List.length_eq_zero_iff.mp m2.length
     subst ys0
     exact q H _ (Same.refl H) (by rw[List.append_nil];exact ax)
    ·exact q _ _ (aP hp _) (At.newTup (m1.append m2) hp hJ (by rw[List.length_append,← m1.length,← m2.length];exact le))
  ·cases e
 ·rename_i xs ys
  split at e
  ·rename_i le
   cases e
   obtain⟨a,us,rfl,t1,m1⟩:=At.lst_iff.mp ax
   obtain⟨b,ws,rfl,t2,m2⟩:=At.lst_iff.mp ay
   cases rx;cases ry
   obtain⟨its,r1,p1,_⟩:=I.list t1.sq
   obtain⟨its2,r2,p2,_⟩:=I.list t2.sq
   have hz:us.length+ws.length<=sizeLine:=by rw[← m1.length,← m2.length];exact le
   have hp:=I.fresh
   refine sr p1 p2 ?_ (by rw[List.size_toArray,List.size_toArray,← r1.length,← r2.length];exact hz)
   show EP X pins σ Q (.ref s.heap.objs.size) { s with heap:=s.heap.push { cls:=.type "list",data:=.seq (its.toArray++its2.toArray) } }
   refine⟨.ref s.heap.objs.size,_,?_,rfl,q _ _ (aP hp (.lst (us++ws))) (At.newLst (m1.append m2) hp hJ (by rw[List.length_append];exact hz))⟩
   have z:=I.lnew (its:=its++its2) (t':=s.toks) (r1.append r2) (by rw[List.length_append];exact hz)
   simpa using z
  ·cases e
 ·cases e
noncomputable def ij:D->D->Option D
 | .int i,.int j=>some (.int (i-j))
 |_,_=>none
noncomputable def ke (i j:Int):Bool:=(decide (-(2 ^ 64)<i)&&decide (i<2 ^ 64)) ||(decide (-(2 ^ 64)<j)&&decide (j<2 ^ 64))
theorem yT {i j:Int}(h:ke i j=true):CMul i j:=by
 unfold ke at h
 rw[Bool.or_eq_true,Bool.and_eq_true,Bool.and_eq_true] at h
 rcases h with ⟨a,b⟩ |⟨a,b⟩
 ·exact .inl ⟨of_decide_eq_true a,of_decide_eq_true b⟩
 ·exact .inr ⟨of_decide_eq_true a,of_decide_eq_true b⟩
noncomputable def bz:D->D->Option D
 | .int i,.int j=>if 0<j/\j<1073741824 then some (.int (i / j)) else none
 |_,_=>none
noncomputable def aU:D->D->Option D
 | .int i,.int j=>if 0<j then some (.int (i % j)) else none
 |_,_=>none
noncomputable def BG:D->Option D
 | .int i=>some (.int (-i))
 |_=>none
theorem f_:OpD X (binaryOp .Sub) ij:=by
 intro pins s σ H x y v u Q I rx ry h
 obtain⟨J,dx,dy,d,hJ,ax,ay,e,q⟩:=h
 unfold ij at e
 split at e
 ·rename_i i j
  cases e
  cases At.int_iff.mp ax;cases At.int_iff.mp ay
  exact Ax pins s σ H _ _ v u Q I rx ry ⟨i,j,rfl,rfl,q H _ (Same.refl H) (At.int_iff.mpr rfl)⟩
 ·cases e
theorem bR:OpD X (binaryOp .FloorDiv) bz:=by
 intro pins s σ H x y v u Q I rx ry h
 obtain⟨J,dx,dy,d,hJ,ax,ay,e,q⟩:=h
 unfold bz at e
 split at e
 ·rename_i i j
  split at e
  ·rename_i c
   cases e
   cases At.int_iff.mp ax;cases At.int_iff.mp ay
   exact yJ pins s σ H _ _ v u Q I rx ry ⟨i,j,rfl,rfl,c,q H _ (Same.refl H) (At.int_iff.mpr rfl)⟩
  ·cases e
 ·cases e
theorem bg:OpD X (binaryOp .Mod) aU:=by
 intro pins s σ H x y v u Q I rx ry h
 obtain⟨J,dx,dy,d,hJ,ax,ay,e,q⟩:=h
 unfold aU at e
 split at e
 ·rename_i i j
  split at e
  ·rename_i c
   cases e
   cases At.int_iff.mp ax;cases At.int_iff.mp ay
   exact Az pins s σ H _ _ v u Q I rx ry ⟨i,j,rfl,rfl,c,q H _ (Same.refl H) (At.int_iff.mpr rfl)⟩
  ·cases e
 ·cases e
theorem zT:UnD X (unaryOp .USub) BG:=by
 intro pins s σ H x v Q I rx h
 obtain⟨J,dx,d,hJ,ax,e,q⟩:=h
 unfold BG at e
 split at e
 ·rename_i i
  cases e
  cases At.int_iff.mp ax
  exact zS pins s σ H _ v Q I rx ⟨i,rfl,q H _ (Same.refl H) (At.int_iff.mpr rfl)⟩
 ·cases e
noncomputable def eqD (x y:D):Option D:=match toPy x,toPy y with
 |some p,some q=>if min p.depth q.depth<=150 then some (.bl (PyData.eqv p q)) else none
 |_,_=>none
noncomputable def neD (x y:D):Option D:=match toPy x,toPy y with
 |some p,some q=>if min p.depth q.depth<=150 then some (.bl (!PyData.eqv p q)) else none
 |_,_=>none
theorem cC (hu:X.A.units+150<cLine):OpD X (compareOp .Eq) eqD:=by
 intro pins s σ H x y v u Q I rx ry h
 obtain⟨J,dx,dy,d,hJ,ax,ay,e,q⟩:=h
 unfold eqD at e
 split at e
 ·rename_i p p' e1 e2
  split at e
  ·rename_i le
   cases e
   obtain⟨c1,as,r1⟩:=ax.reads I rx e1
   obtain⟨c2,bs,r2⟩:=ay.reads I ry e2
   exact SeqAt.compareEq_reads r1 r2 c1 c2 (by omega) ⟨.bl (PyData.eqv p p'),H,I,rfl,q H _ (Same.refl H) (At.bl_iff.mpr rfl)⟩
  ·cases e
 ·cases e
theorem pU (hu:X.A.units+150<cLine):OpD X (compareOp .NotEq) neD:=by
 intro pins s σ H x y v u Q I rx ry h
 obtain⟨J,dx,dy,d,hJ,ax,ay,e,q⟩:=h
 unfold neD at e
 split at e
 ·rename_i p p' e1 e2
  split at e
  ·rename_i le
   cases e
   obtain⟨c1,as,r1⟩:=ax.reads I rx e1
   obtain⟨c2,bs,r2⟩:=ay.reads I ry e2
   exact SeqAt.compareNe_reads r1 r2 c1 c2 (by omega) ⟨.bl (!PyData.eqv p p'),H,I,rfl,q H _ (Same.refl H) (At.bl_iff.mpr rfl)⟩
  ·cases e
 ·cases e
noncomputable def ltS (x y:Str):Bool:=decide (x.cps.toList<y.cps.toList)
noncomputable def ltD:D->D->Option D
 | .int i,.int j=>some (.bl (decide (i<j)))
 | .str x,.str y=>some (.bl (ltS x y))
 |_,_=>none
noncomputable def leD:D->D->Option D
 | .int i,.int j=>some (.bl (decide (i<=j)))
 | .str x,.str y=>some (.bl (!ltS y x))
 |_,_=>none
noncomputable def gtD:D->D->Option D
 | .int i,.int j=>some (.bl (decide (j<i)))
 | .str x,.str y=>some (.bl (ltS y x))
 |_,_=>none
theorem kc:OpD X (compareOp .Lt) ltD:=by
 intro pins s σ H x y v u Q I rx ry h
 obtain⟨J,dx,dy,d,hJ,ax,ay,e,q⟩:=h
 unfold ltD at e
 split at e
 ·rename_i i j
  cases e
  cases At.int_iff.mp ax;cases At.int_iff.mp ay
  exact BB pins s σ H _ _ v u Q I rx ry ⟨i,j,rfl,rfl,q H _ (Same.refl H) (At.bl_iff.mpr rfl)⟩
 ·rename_i a b
  cases e
  cases (At.str_iff.mp ax).1;cases (At.str_iff.mp ay).1
  exact uO pins s σ H _ _ v u Q I rx ry ⟨a,b,rfl,rfl,q H _ (Same.refl H) (At.bl_iff.mpr rfl)⟩
 ·cases e
theorem nw:OpD X (compareOp .LtE) leD:=by
 intro pins s σ H x y v u Q I rx ry h
 obtain⟨J,dx,dy,d,hJ,ax,ay,e,q⟩:=h
 unfold leD at e
 split at e
 ·rename_i i j
  cases e
  cases At.int_iff.mp ax;cases At.int_iff.mp ay
  exact BC pins s σ H _ _ v u Q I rx ry ⟨i,j,rfl,rfl,q H _ (Same.refl H) (At.bl_iff.mpr rfl)⟩
 ·rename_i a b
  cases e
  cases (At.str_iff.mp ax).1;cases (At.str_iff.mp ay).1
  obtain⟨t,rfl⟩:=rx;obtain⟨t',rfl⟩:=ry
  exact PySem.P.le_str ⟨.bl (!ltS b a),H,I,rfl,q H _ (Same.refl H) (At.bl_iff.mpr rfl)⟩
 ·cases e
theorem zI:OpD X (compareOp .Gt) gtD:=by
 intro pins s σ H x y v u Q I rx ry h
 obtain⟨J,dx,dy,d,hJ,ax,ay,e,q⟩:=h
 unfold gtD at e
 split at e
 ·rename_i i j
  cases e
  cases At.int_iff.mp ax;cases At.int_iff.mp ay
  exact BE pins s σ H _ _ v u Q I rx ry ⟨i,j,rfl,rfl,q H _ (Same.refl H) (At.bl_iff.mpr rfl)⟩
 ·rename_i a b
  cases e
  cases (At.str_iff.mp ax).1;cases (At.str_iff.mp ay).1
  obtain⟨t,rfl⟩:=rx;obtain⟨t',rfl⟩:=ry
  exact PySem.P.gt_str ⟨.bl (ltS b a),H,I,rfl,q H _ (Same.refl H) (At.bl_iff.mpr rfl)⟩
 ·cases e
noncomputable def oP:D->Bool
 | .non=>true
 |_=>false
noncomputable def isD:D->D->Option D
 |x,.non=>some (.bl (oP x))
 |_,_=>none
noncomputable def jP:D->D->Option D
 |x,.non=>some (.bl (!oP x))
 |_,_=>none
theorem wB {K:PySem.W.Frag}{H:Hp}{J:List Addr}{d:D}{x:V}(h:At K H J d x):decide (x = .non)=oP d:=by
 cases d with
 |non=>cases At.non_iff.mp h;rfl
 |bl b=>cases At.bl_iff.mp h;rfl
 |int i=>cases At.int_iff.mp h;rfl
 |str i=>cases (At.str_iff.mp h).1;rfl
 |tup ds=>obtain⟨a,_,rfl,_⟩:=At.tup_iff.mp h;rfl
 |lst ds=>obtain⟨a,_,rfl,_⟩:=At.lst_iff.mp h;rfl
 |set ds=>obtain⟨a,_,_,rfl,_⟩:=At.set_iff.mp h;rfl
 |loc l=>obtain⟨a,rfl,_⟩:=At.loc_iff.mp h;rfl
theorem wz:OpD X (compareOp .Is) isD:=by
 intro pins s σ H x y v u Q I rx ry h
 obtain⟨J,dx,dy,d,hJ,ax,ay,e,q⟩:=h
 unfold isD at e
 split at e
 ·cases e
  cases At.non_iff.mp ay
  exact AA pins s σ H _ _ v u Q I rx ry ⟨rfl,by rw[wB ax];exact q H _ (Same.refl H) (At.bl_iff.mpr rfl)⟩
 ·cases e
theorem ww:OpD X (compareOp .IsNot) jP:=by
 intro pins s σ H x y v u Q I rx ry h
 obtain⟨J,dx,dy,d,hJ,ax,ay,e,q⟩:=h
 unfold jP at e
 split at e
 ·cases e
  cases At.non_iff.mp ay
  exact yI pins s σ H _ _ v u Q I rx ry ⟨rfl,by rw[wB ax];exact q H _ (Same.refl H) (At.bl_iff.mpr rfl)⟩
 ·cases e
end
section
variable {X:Cx}{W:WT}
noncomputable def yb:D->Option (List D)
 | .tup xs=>some xs
 | .lst xs=>some xs
 |_=>none
noncomputable def u9 (x y:D):Option Bool:=match toPy x,(yb y).bind dg with
 |some p,some qs=>if p.depth<=150 then some (qs.any λq=>PyData.eqv q p) else none
 |_,_=>none
noncomputable def inD (x y:D):Option D:=(u9 x y).map .bl
noncomputable def oH (x y:D):Option D:=(u9 x y).map λb => .bl (!b)
noncomputable def mM (h:Heap) (p:PyData) (u:Value):Bool:=by
 classical exact if H:∃ q as,Reads h u q as/\q.canLay0=true then PyData.eqv H.choose p else false
theorem tY {h:Heap}{p q:PyData}{u:Value}{as:List Addr}(r:Reads h u q as)(c:q.canLay0=true):mM h p u=PyData.eqv q p:=by
 unfold mM
 have H:∃ q as,Reads h u q as/\q.canLay0=true:=⟨q,as,r,c⟩
 rw[dif_pos H]
 obtain⟨as',r',c'⟩:=H.choose_spec
 rw[SeqAt.Reads.unique _ _ _ _ _ c r r']
theorem uc {h:Heap}{p:PyData}:∀ {us:List Value}{qs:List PyData}{as:List Addr},ReadsAll h us qs as->PyData.canLayAll0 qs=true->us.any (mM h p)=qs.any λq=>PyData.eqv q p
 |_,_,_,.nil,_=>rfl
 |_,_,_,.cons r t,c=>by
  rw[PyData.canLayAll0,Bool.and_eq_true] at c
  rw[List.any_cons,List.any_cons,tY r c.1,uc t c.2]
theorem nz {h:Heap}:∀ {us:List Value}{qs:List PyData}{as:List Addr},ReadsAll h us qs as->PyData.canLayAll0 qs=true->∀ u∈us,∃ q bs,Reads h u q bs/\q.canLay0=true
 |_,_,_,.nil,_,u,m=>by simp at m
 |_,_,_,.cons r t,c,u,m=>by
  rw[PyData.canLayAll0,Bool.and_eq_true] at c
  rcases List.mem_cons.mp m with e |m
  ·subst e;exact⟨_,_,r,c.1⟩
  ·exact nz t c.2 u m
theorem tU {neg:Bool}{op:CmpOp}(hu:X.A.units+151<cLine)
  (hL:∀ {s:Shared}{l:Addr}{items:Array Value}{x:Value}{Q:Value->Shared->Prop}(e:Value->Bool),s.heap.IsList l items->(∀ y∈items,SeqAt.EqAt X.A.in1 s y x (e y))->Q (.bool (if neg then !items.any e else items.any e)) s->wpAny (model X.prog X.w) X.A (compareOp op x (.ref l)) Q X.xe s)
  (hT:∀ {s:Shared}{l:Addr}{items:Array Value}{x:Value}{Q:Value->Shared->Prop}(e:Value->Bool),IsTup s.heap l items->(∀ y∈items,SeqAt.EqAt X.A.in1 s y x (e y))->Q (.bool (if neg then !items.any e else items.any e)) s->wpAny (model X.prog X.w) X.A (compareOp op x (.ref l)) Q X.xe s) :
  OpD X (compareOp op) (λx y=>(u9 x y).map λb => .bl (if neg then !b else b)):=by
 intro pins s σ H x y v u Q I rx ry h
 obtain⟨J,dx,dy,d,hJ,ax,ay,e,q⟩:=h
 obtain⟨b,e1,e2⟩:=Option.map_eq_some_iff.mp e
 subst e2
 unfold u9 at e1
 split at e1
 ·rename_i p qs ep eq
  split at e1
  ·rename_i le
   cases e1
   obtain⟨ds,es,ed⟩:=Option.bind_eq_some_iff.mp eq
   obtain⟨c1,as,r1⟩:=ax.reads I rx ep
   have fin:∀ {us:List Value}{as:List Addr},ReadsAll s.heap us qs as->PyData.canLayAll0 qs=true->EP X pins σ Q (.bool (if neg then !us.toArray.any (mM s.heap p) else us.toArray.any (mM s.heap p))) s:=λ{us as} ra c=>by
    rw[show us.toArray.any (mM s.heap p)=us.any (mM s.heap p) by simp,uc ra c]
    exact⟨.bl _,H,I,rfl,q H _ (Same.refl H) (At.bl_iff.mpr rfl)⟩
   have ev:∀ {us:List Value}{as:List Addr},ReadsAll s.heap us qs as->PyData.canLayAll0 qs=true->∀ y∈us.toArray,SeqAt.EqAt X.A.in1 s y v (mM s.heap p y):=λ{us as} ra c y hy=>by
    obtain⟨q',bs,r',c'⟩:=nz ra c y (by simpa using hy)
    rw[tY r' c']
    exact SeqAt.eqAt_reads q' p X.A.in1 s y v bs _ r' r1 c' c1 (by show X.A.units+1+min q'.depth p.depth<cLine;omega)
   cases dy with
   |tup ys =>
    cases es
    obtain⟨a,xs,rfl,t,m⟩:=At.tup_iff.mp ay
    cases ry
    obtain⟨its,rv,pl,_⟩:=I.tuple t.sq
    obtain⟨c2,bs,r2⟩:=Ats.readsAll I m rv ed
    exact hT (mM s.heap p) pl (ev r2 c2) (fin r2 c2)
   |lst ys =>
    cases es
    obtain⟨a,xs,rfl,t,m⟩:=At.lst_iff.mp ay
    cases ry
    obtain⟨its,rv,pl,_⟩:=I.list t.sq
    obtain⟨c2,bs,r2⟩:=Ats.readsAll I m rv ed
    exact hL (mM s.heap p) pl.isList (ev r2 c2) (fin r2 c2)
   |_=>simp[yb] at es
  ·cases e1
 ·cases e1
theorem zH (hu:X.A.units+151<cLine):OpD X (compareOp .In) inD:=
 tU (neg:=false) hu (λe hl he q=>SeqAt.in_listAt e hl he q) (λe hl he q=>SeqAt.in_tupleAt e hl he q)
theorem wv (hu:X.A.units+151<cLine):OpD X (compareOp .NotIn) oH:=
 tU (neg:=true) hu (λe hl he q=>SeqAt.notIn_listAt e hl he q) (λe hl he q=>SeqAt.notIn_tupleAt e hl he q)
theorem gH {x:Str}(h:PyData.strOk x=true){c:Nat}(m:c∈x.cps.toList):c<0x110000:=by
 unfold PyData.strOk at h
 rw[Array.all_eq_true'] at h
 exact of_decide_eq_true (h c (Array.mem_toList_iff.mp m))
theorem i6 {l:List Nat}(h:∀ c∈l,c<0x110000):PyData.strOk ⟨l.toArray⟩=true:=by
 unfold PyData.strOk
 rw[Array.all_eq_true']
 intro c m
 exact decide_eq_true (h c (by simpa using m))
noncomputable def ixD:D->D->Option D
 | .tup xs,.int i=>atI xs i
 | .lst xs,.int i=>atI xs i
 | .str x,.int i=>(atI x.cps.toList i).map λc => .str ⟨#[c]⟩
 |_,_=>none
theorem xE {K:PySem.W.Frag}{H:Hp}{J:List Addr}{ds:List D}{vs:List V}{i:Int}{d:D}(m:Ats K H J ds vs)(h:atI ds i=some d):∃ v,atI vs i=some v/\At K H J d v:=by
 unfold atI at h ⊢
 rw[← m.length]
 obtain⟨j,e1,e2⟩:=Option.bind_eq_some_iff.mp h
 obtain⟨v,e3,a⟩:=m.get e2
 exact⟨v,by rw[e1];exact e3,a⟩
def IxD (X:Cx)(g:D->D->Option D):Prop:=IxR X (rD2 X.K g)
theorem ixd:IxD X ixD:=by
 intro value slice pins s σ H x y v u Q I rx ry h hs
 obtain⟨J,dx,dy,d,hJ,ax,ay,e,q⟩:=h
 unfold ixD at e
 split at e
 ·rename_i xs i
  obtain⟨a,us,rfl,t,m⟩:=At.tup_iff.mp ax
  cases At.int_iff.mp ay
  obtain⟨w,e1,a1⟩:=xE m e
  exact AN value slice pins s σ H _ _ v u Q I rx ry ⟨a,us,i,w,rfl,rfl,t.sq,e1,q H _ (Same.refl H) a1⟩ hs
 ·rename_i xs i
  obtain⟨a,us,rfl,t,m⟩:=At.lst_iff.mp ax
  cases At.int_iff.mp ay
  obtain⟨w,e1,a1⟩:=xE m e
  exact y_ value slice pins s σ H _ _ v u Q I rx ry ⟨a,us,i,w,rfl,rfl,t.sq,e1,q H _ (Same.refl H) a1⟩ hs
 ·rename_i z i
  obtain⟨ex,kx⟩:=At.str_iff.mp ax
  subst ex
  cases At.int_iff.mp ay
  obtain⟨c,e1,e2⟩:=Option.map_eq_some_iff.mp e
  subst e2
  refine AO value slice pins s σ H _ _ v u Q I rx ry ⟨z,i,c,rfl,rfl,kx.1,e1,q H _ (Same.refl H) (At.str_iff.mpr ⟨rfl,by show 1<=sizeLine;decide,i6 (l:=[c]) λc' m=>?_⟩)⟩ hs
  obtain⟨j,_,e4,_⟩:=kR e1
  rw[List.mem_singleton.mp m]
  exact gH kx.2 (List.mem_of_getElem? e4)
 ·cases e
variable {a b c:Expr}{fa fb fc:Rho->Sto->Out D}{pos:Pos}
theorem Br {g:D->D->Option D}(hr:IxD X g)(ha:SE X W a fa)(hb:SE X W b fb)(hs:ue b:=by exact λ_ _=>rfl):SE X W (.Subscript a b pos) (ap g fa fb):=
 (BA hr ha hb hs).imp λσ H Q h=>jq h
noncomputable def b7 {α:Type}(xs:List α)(lo hi:Option Int):List α:=(xs.drop (HT.sIx xs.length 0 lo)).take (HT.sIx xs.length xs.length hi-HT.sIx xs.length 0 lo)
noncomputable def c9 (x:Str)(lo hi:Option Int):Str:=⟨(b7 x.cps.toList lo hi).toArray⟩
noncomputable def slD (d:D)(lo hi:Option Int):Option D:=match d with
 | .tup xs=>some (.tup (b7 xs lo hi))
 | .lst xs=>some (.lst (b7 xs lo hi))
 | .str x=>some (.str (c9 x lo hi))
 |_=>none
theorem Ats.cut {K:PySem.W.Frag}{H:Hp}{J:List Addr}{ds:List D}{vs:List V}(m:Ats K H J ds vs)(lo hi:Option Int):Ats K H J (b7 ds lo hi) (qD vs lo hi):=by
 unfold b7 qD
 rw[← m.length]
 exact (m.drop _).take _
theorem l_ {α:Type}{xs:List α}{lo hi:Option Int}(h:HT.sIx xs.length 0 lo=0/\HT.sIx xs.length xs.length hi=xs.length):b7 xs lo hi=xs:=by
 unfold b7
 rw[h.1,h.2];simp
theorem j7 (n:Nat)(lo hi:Option Int):Builtin.Str.strSliceIndices lo hi 1 n=sliceRange ((HT.sIx n 0 lo:Nat):Int) ((HT.sIx n n hi:Nat):Int) 1:=by
 unfold Builtin.Str.strSliceIndices
 have h:=i_ lo hi n
 unfold sliceBounds at h
 simp only[Option.getD_none] at h
 have h1:=h.1
 have h2:=h.2.1
 show sliceRange _ _ 1=_
 rw[← h1,← h2]
 cases lo<;>cases hi<;>rfl
theorem rk (x:Str)(lo hi:Option Int):(Builtin.Str.strSliceIndices lo hi 1 x.length).filterMap (x.cps[·]?)=b7 x.cps.toList lo hi:=by
 have hl:x.cps.toList.length=x.length:=by simp[Str.length]
 rw[j7,sliceRange_one,pick_run]
 unfold b7
 rw[hl]
theorem rn (x:Str)(t:Tok)(lo hi:Option (Int×Tok)){Q:Value->Shared->Prop}{s:Shared}(hsz:x.length<=sizeLine)(h:∀ t' k,Q (.str (c9 x (lo.map (·.1)) (hi.map (·.1))) t') { s with toks:=k }):(sliceMade x t lo hi none).post Q s:=by
 unfold sliceMade
 have ep:slicePicked x lo hi none=Builtin.Str.strSliceIndices (lo.map (·.1)) (hi.map (·.1)) 1 x.length:=rfl
 have eq:((slicePicked x lo hi none).filterMap (x.cps[·]?))=b7 x.cps.toList (lo.map (·.1)) (hi.map (·.1)):=by rw[ep];exact rk x _ _
 have hl:x.cps.toList.length=x.length:=by simp[Str.length]
 have len:(c9 x (lo.map (·.1)) (hi.map (·.1))).length<=sizeLine:=by
  unfold c9 b7
  show (List.toArray _).size<=_
  rw[List.size_toArray,List.length_take,List.length_drop,hl]
  omega
 have same:(((none:Option (Int×Tok)).map (·.1)).getD 1==1&&(slicePicked x lo hi none).length==x.length)=true->x=c9 x (lo.map (·.1)) (hi.map (·.1)):=λc=>by
  have c2:(slicePicked x lo hi none).length=x.length:=by
   rw[Bool.and_eq_true] at c
   exact eq_of_beq c.2
  rw[ep,j7,sliceRange_one,List.length_map,List.length_range] at c2
  have b1:=HT.sIx_le x.length x.length (Nat.le_refl _) (hi.map (·.1))
  have b2:=HT.sIx_le x.length 0 (Nat.zero_le _) (lo.map (·.1))
  have w:=l_ (xs:=x.cps.toList) (lo:=lo.map (·.1)) (hi:=hi.map (·.1)) (by rw[hl];omega)
  unfold c9
  rw[w]
 refine post_val_or_str ⟨?_,λt' k=>?_⟩
 ·split
  ·rename_i c;exact hsz
  ·rw[eq];exact len
 ·split
  ·rename_i c
   have z:=h t' k
   rw[← same c] at z
   exact z
  ·rw[eq];exact h t' k
theorem part_of {v:Value}{o:Option Int}(p:IsPart v o):∃ q:Option (Int×Tok),v=partValue q/\o=q.map (·.1):=by
 cases p with
 |none=>exact⟨none,rfl,rfl⟩
 |int i t=>exact⟨some (i,t),rfl,rfl⟩
def rDl (K:PySem.W.Frag)(g:D->Option Int->Option Int->Option D):V->Option Int->Option Int->Hp->VK->Prop:=λx lo hi H Q => ∃ J dx d,(∀ a∈J,H a≠none)/\At K H J dx x/\g dx lo hi=some d/\∀ H' v,Same H H'->At K H' J d v->Q v H'
theorem g_ {prog:Program}{w:World}{A:Around}{E:Value->Shared->Prop}{s:Shared}{t sl:Addr}{items:Array Value}{vl vu:Value}{lo hi:Option Int}{Q:Value->Shared->Prop}(ht:IsTup s.heap t items)(hs:s.heap.IsSliceOf sl vl vu .none)(pl:IsPart vl lo)(pu:IsPart vu hi)
  (hw:HT.sIx items.size 0 lo=0/\HT.sIx items.size items.size hi=items.size) (h:Q (.ref t) s):wpAny (model prog w) A (getItem (.ref t) (.ref sl)) Q E s:=by
 obtain⟨os,hos,hcs,hds⟩:=id hs
 have hTs:s.TypeIs (.ref sl) "slice":=⟨os,hos,hcs⟩
 unfold getItem
 try with_reducible refine wpAny_holding ?_
 first |refine wpAny_bind (wpAny_pure ?_) |skip
 refine wpAny_bind (wpAny_sequenceKey ht.typeIs (by decide) ?_)
 refine wpAny_bind (wpAny_callSpecial?_slot (name:=Str.ofString "__getitem__") ht.typeIs PyProof.Rows.slot_tuple_getitem
  (wpAny_call_entry PyProof.Rows.slot_tuple_getitem ht.typeIs entry_tuple_getitem ?_ (args_tuple_getitem _ _)))
 show wpAny _ _ (Builtin.Tuple.tupleItemsOf (.ref t) >>= _) _ _ s
 refine wpAny_bind (tupleItemsOf_ ht ?_)
 refine wpAny_bind (wpAny_typeOf hTs ?_)
 rw[if_pos (by decide)]
 refine wpAny_bind (HT.sliceApplied_gen hs pl pu ?_)
 show wpAny _ _ (if (((HT.sIx items.size 0 lo:Nat):Int)==0&&(1:Int)==1&&(HT.sIx items.size items.size hi-HT.sIx items.size 0 lo)==items.size)=true then _ else _) _ _ s
 rw[if_pos (by rw[hw.1,hw.2];simp)]
 unfold Builtin.Tuple.tupleIsExact
 refine wpAny_bind (wpAny_bind (wpAny_typeOf ht.typeIs (wpAny_pure ?_)))
 rw[if_pos (by decide)]
 exact wpAny_bind (wpAny_rule (wpAny_pure ⟨_,rfl,wpAny_pure h⟩))
def SlD (X:Cx)(g:D->Option Int->Option Int->Option D):Prop:=SlR X (rDl X.K g)
theorem ut {x:Str}(h:PyData.strOk x=true)(lo hi:Option Int):PyData.strOk (c9 x lo hi)=true:=i6 λc m=>gH h (by
 unfold b7 at m
 exact List.mem_of_mem_drop (List.mem_of_mem_take m))
theorem y3 (x:Str)(lo hi:Option Int):(c9 x lo hi).length<=x.length:=by
 unfold c9 b7
 show (List.toArray _).size<=_
 rw[List.size_toArray,List.length_take,List.length_drop]
 have hl:x.cps.toList.length=x.length:=by simp[Str.length]
 omega
theorem sld:SlD X slD:=by
 intro pins s σ H x v vl vu lo hi sl Q I rx hs pl pu h
 obtain⟨J,dx,d,hJ,ax,e,q⟩:=h
 unfold slD at e
 split at e
 ·rename_i xs
  cases e
  obtain⟨a,us,rfl,t,m⟩:=At.tup_iff.mp ax
  have hl:=m.length
  by_cases hw:HT.sIx us.length 0 lo=0/\HT.sIx us.length us.length hi=us.length
  ·cases rx
   obtain⟨its,r,ht,hz⟩:=I.tuple t.sq
   have hlen:its.toArray.size=us.length:=by rw[List.size_toArray];exact r.length.symm
   refine⟨"tuple",_,PyProof.Rows.slot_tuple_getitem.lookup,ht.typeIs,?_⟩
   refine g_ ht hs pl pu (by rw[hlen];exact hw) ⟨.ref a,H,I,rfl,q H _ (Same.refl H) ?_⟩
   rw[l_ (by rw[hl];exact hw)]
   exact ax
  ·exact zZ pins s σ H _ v vl vu lo hi sl Q I rx hs pl pu ⟨a,us,rfl,t.sq,hw,λp hp=>q _ _ (aP hp _) (At.newTup (m.cut lo hi) hp hJ (Nat.le_trans (dU us lo hi) t.len))⟩
 ·rename_i xs
  cases e
  obtain⟨a,us,rfl,t,m⟩:=At.lst_iff.mp ax
  exact x9 pins s σ H _ v vl vu lo hi sl Q I rx hs pl pu ⟨a,us,rfl,t.sq,λp hp=>q _ _ (aP hp _) (At.newLst (m.cut lo hi) hp hJ (Nat.le_trans (dU us lo hi) t.len))⟩
 ·rename_i z
  cases e
  obtain⟨ex,kx⟩:=At.str_iff.mp ax
  subst ex
  obtain⟨tk,rfl⟩:=rx
  obtain⟨pl',e1,e2⟩:=part_of pl
  obtain⟨pu',e3,e4⟩:=part_of pu
  subst e1 e2 e3 e4
  refine⟨"str",_,F.slot_str_getitem.lookup,typeIs_str _ _ _,wpAny_getItem_str_slice (l:=pl') (u:=pu') (st:=none) hs rfl (rn z tk pl' pu' kx.1 λt' k=>?_)⟩
  exact⟨.str _,H,I.tok _,⟨t',rfl⟩,q H _ (Same.refl H) (At.str_iff.mpr ⟨rfl,Nat.le_trans (y3 z _ _) kx.1,ut kx.2 _ _⟩)⟩
 ·cases e
noncomputable def mJ:D->Option (Option Int)
 | .int i=>some (some i)
 |_=>none
def jp (f:Option (Rho->Sto->Out D)):Rho->Sto->Out (Option Int):=match f with
 |none=>λ_ S=>okO none S
 |some f=>λρ S=>ag (f ρ S) λd S1=>aG (mJ d) S1
def SO (X:Cx)(W:WT)(e:Option Expr)(f:Option (Rho->Sto->Out D)):Prop:=match e,f with
 |none,none=>True
 |some e,some f=>SE X W e f
 |_,_=>False
def cSl (g:D->Option Int->Option Int->Option D)(f:Rho->Sto->Out D)(lo hi:Option (Rho->Sto->Out D)):Rho->Sto->Out D:=λρ S=>ag (f ρ S) λx S1=>ag (jp lo ρ S1) λl S2=>ag (jp hi ρ S2) λu S3=>aG (g x l u) S3
def tPt (X:Cx)(W:WT)(f:Option (Rho->Sto->Out D)):TO:=tG X W (λ_ _ a b=>a=b) [] [] (jp f)
theorem tG.bindP {α β:Type}{R:List Addr->Hp->α->β->Prop}{f:Option (Rho->Sto->Out D)}{k:Option Int->Rho->Sto->Out α}{ds:List D}{vs:List V}{σ:St}{H:Hp}{Q : β->Hp->Prop}
  (h:tG X W R ds vs (λρ S=>ag (jp f ρ S) λd S1=>k d ρ S1) σ H Q):tPt X W f σ H λb H1=>tG X W R ds vs (k b) σ H1 Q:=by
 obtain⟨J,ρ,S,r,S',c,a,e,z⟩:=h
 cases q:jp f ρ S with
 |none=>simp[q] at e
 |some o =>
  obtain⟨ro,S1⟩:=o
  simp only[q] at e
  cases ro with
  |error x =>
   cases e
   exact⟨J,ρ,S,.error x,_,c,.nil,q,z⟩
  |ok d =>
   refine⟨J,ρ,S,.ok d,S1,c,.nil,q,λJ1 H1 v x s1 m=>?_⟩
   cases m
   refine⟨J1,ρ,S1,r,S',c.re x s1,a.ex x,e,?_⟩
   cases r with
   |ok g=>exact λJ2 H2 b x2 s2 r2=>z J2 H2 b (x.trans x2) s2 r2
   |error g=>exact λJ2 H2 x2 s2=>z J2 H2 (x.trans x2) s2
theorem zF {e:Option Expr}{f:Option (Rho->Sto->Out D)}(h:SO X W e f):PO X e (tPt X W f):=by
 cases e with
 |none =>
  cases f with
  |none =>
   intro pins s σ H Q I z
   refine yA pins s σ H Q I ?_
   obtain⟨J,ρ,S,r,S',c,_,e,z⟩:=z
   cases e
   exact z J H _ Ex.refl c.sto rfl
  |some _=>exact h.elim
 |some e =>
  cases f with
  |none=>exact h.elim
  |some f =>
   intro pins s σ H Q I z
   refine yz h pins s σ H Q I ?_
   refine (tG.bindE z).mono λv H1 ⟨d,h1⟩=>?_
   obtain⟨J,ρ,S,r,S',c,m,e,z⟩:=h1
   obtain⟨m,_⟩:=m.uncons
   cases d with
   |int i =>
    cases e
    exact⟨i,At.int_iff.mp m,z J H1 _ Ex.refl c.sto rfl⟩
   |_=>simp[mJ] at e
theorem dG {g:D->Option Int->Option Int->Option D}{lo hi:Option Expr}{fl fh:Option (Rho->Sto->Out D)}{p2:Pos}(hr:SlD X g)(ha:SE X W a fa)(hl:SO X W lo fl)(hh:SO X W hi fh):SE X W (.Subscript a (.Slice lo hi none p2) pos) (cSl g fa fl fh):=
 (wm hr ha (zF hl) (zF hh)).imp λσ H Q h=>(tG.bindE h).mono λv H1 ⟨d,h1⟩=>(tG.bindP h1).mono λl H2 h2=>(tG.bindP h2).mono λu H3 h3=>by
  obtain⟨J,ρ,S,r,S',c,m,e,z⟩:=h3
  obtain⟨m,_⟩:=m.uncons
  cases q:g d l u with
  |none=>simp[q] at e
  |some d' =>
   simp only[q,bq,okO] at e
   cases e
   exact⟨J,d,d',c.sto.all,m,q,λH' v' s m'=>z J H' v' (Ex.same s) (c.sto.same s) m'⟩
end
end L2
namespace L2
open PySem PySem.Spec PyProof.Rows PySem.W
section
variable {X:Cx}{W:WT}
theorem jH:fillsNumberSlot (.type "tuple") "mul"=pure false:=
 PySem.fillsNumberSlot_seq (id:="tuple.__mul__") (r:=some (.builtin "tuple.__rmul__")) F.slot_tuple_mul.lookup (by decide +kernel) F.slot_tuple_rmul.lookup (by decide +kernel)
theorem oB:seqRepeat? (.type "tuple")=pure (some (.builtin "tuple.__mul__")):=by
 unfold seqRepeat?
 rw[PySem.seqSlot_of (T:="tuple") (name:="__mul__") (id:="tuple.__mul__") F.slot_tuple_mul.lookup (by decide +kernel),PySem.seqSlot_of (T:="tuple") (name:="__rmul__") (id:="tuple.__rmul__") F.slot_tuple_rmul.lookup (by decide +kernel)]
 rfl
theorem lT (a:Int)(t:Tok)(l:Addr)(items:Array Value)(n:Nat)(dd:Option Addr)(sl:Array (Option Value)) :
  Meets (Builtin.«int.__rmul__» ⟨[.int a t,.ref l],[]⟩) (λ_ R s=>s.heap.get? l=some { cls:=.type "tuple",dict:=dd,data:=.seq items n,slots:=sl }/\R (.ok (.ret Value.notImplemented)) s):=
 .of_wp λprog w A R s h=>by obtain⟨hp,g,d,tk,os⟩:=s;obtain⟨hl,h⟩:=h;wp_walk;exact⟨_,rfl,h⟩
theorem rf (l:Addr)(items:Array Value)(n:Nat)(dd:Option Addr)(sl:Array (Option Value))(k:Int)(t:Tok)(h1 : 2<=k)(h2:k<2 ^ 30)(he:items.isEmpty=false)(hsz:items.size*k.toNat<=sizeLine) :
  Meets (Builtin.«tuple.__mul__» ⟨[.ref l,.int k t],[]⟩) (λ_ R s=>s.heap.get? l=some { cls:=.type "tuple",dict:=dd,data:=.seq items n,slots:=sl }/\R (.ok (.ret (Value.ref s.heap.objs.size))) { s with heap:=s.heap.push { cls:=Value.type "tuple",data:=Data.seq (List.foldl (λx1 x2=>x1++x2) #[] (List.replicate k.toNat items)) },toks:=s.toks }):=
 .of_wp λprog w A R s h=>by
  obtain⟨hp,g,d,tk,os⟩:=s;obtain⟨hl,h⟩:=h
  have f1:=AutoSeq1.idx_int
  wp_walk using AutoSeq1.wpAny_loadPart' hl
  have p1:(0:Int)<=k:=by omega
  have hk:((k.toNat:Nat):Int)=k:=by omega
  have c1:¬ ((decide (k < -2 ^ 63) ||decide (k≥2 ^ 63))=true):=by
   rw[decide_eq_false (by omega),decide_eq_false (by omega)];decide
  have c2:¬ ((items.isEmpty ||k==1)=true):=by
   rw[he,Bool.false_or,beq_eq_false_iff_ne.mpr (by omega)];decide
  have c3:¬ ((decide (k<=0) ||items.isEmpty)=true):=by
   rw[he,decide_eq_false (by omega)];decide
  have c4:((items.size*k.toNat:Nat):Int)=(items.size:Int)*k:=by rw[Int.natCast_mul,hk]
  have hs24:(sizeLine:Nat)=2 ^ 24:=rfl
  have c5:¬ ((items.size:Int)*k > (2 ^ 63-1) / 8):=by rw[← c4];omega
  have c6:Builtin.Tuple.tupleTooMany ((items.size:Int)*k)=false:=by
   unfold Builtin.Tuple.tupleTooMany
   rw[← c4];exact decide_eq_false (by omega)
  rw[if_neg c1]
  refine wpAny_bind (tupleItemsOf_ (⟨_,hl,rfl,n,rfl⟩:IsTup hp l items) ?_)
  dsimp only
  rw[if_neg c2,if_neg c3,if_neg c5,if_neg (by rw[c6];decide)]
  have hf:sizeOk (.seq (List.foldl (λx1 x2=>x1++x2) #[] (List.replicate k.toNat items))):=by
   have e:List.foldl (λx1 x2=>x1++x2) #[] (List.replicate k.toNat items)=(List.replicate k.toNat items.toList).flatten.toArray:=by
    have:=foldl_rep items.toList k.toNat []
    simpa using this
   show (List.foldl (λx1 x2=>x1++x2) #[] (List.replicate k.toNat items)).size<=sizeLine
   rw[e,List.size_toArray,len_rep,Array.length_toList,Nat.mul_comm]
   exact hsz
  first
   |exact wpAny_bind (m:=Builtin.Tuple.tupleExact _) (wpAny_newObj_type (wpAny_pure ⟨_,rfl,h⟩) hf)
   |exact wpAny_bind (m:=Builtin.Tuple.tupleExact _) (wpAny_newObj_type (wpAny_bind (wpAny_pure (wpAny_pure ⟨_,rfl,h⟩))) hf)
noncomputable def bI:D->D->Option D
 | .int i,.int j=>if ke i j then some (.int (i*j)) else none
 | .str x,.int n=>if -1000<=n/\n<1 then some (.str ⟨#[]⟩) else if 1<=n/\n<=1000/\x.length<=1000 then some (.str ⟨(List.replicate n.toNat x.cps.toList).flatten.toArray⟩) else none
 | .tup xs,.int n=>if 2<=n/\n<=1000/\0<xs.length/\xs.length<=1000 then some (.tup (List.replicate n.toNat xs).flatten) else none
 |_,_=>none
theorem wE (x:Str)(n:Int)(h : 1<=n):Txt.mul x n=⟨(List.replicate n.toNat x.cps.toList).flatten.toArray⟩:=by
 have f:∀ m:Nat,(List.replicate m x.cps).foldl (·++·) #[]=(List.replicate m x.cps.toList).flatten.toArray:=λm=>by
  have:∀ (m:Nat) (acc:List Nat),(List.replicate m x.cps).foldl (·++·) acc.toArray=(acc++(List.replicate m x.cps.toList).flatten).toArray:=by
   intro m
   induction m with
   |zero=>intro acc;simp
   |succ m ih =>
    intro acc
    rw[List.replicate_succ,List.foldl_cons,List.replicate_succ,List.flatten_cons,← List.append_assoc]
    have e:acc.toArray++x.cps=(acc++x.cps.toList).toArray:=by simp
    rw[e];exact ih _
  have:=this m []
  simpa using this
 unfold Txt.mul
 rw[if_neg (by omega)]
 split
 ·rename_i c
  rw[Bool.or_eq_true] at c
  rcases c with c |c
  ·have:n=1:=eq_of_beq c
   subst this
   show x=⟨([x.cps.toList].flatten).toArray⟩
   simp
  ·have hx:x.cps.size=0:=eq_of_beq c
   have:x.cps.toList=[]:=by simpa using Array.size_eq_zero_iff.mp hx
   have hz:∀ m:Nat,(List.replicate m ([]:List Nat)).flatten=[]:=λm=>by induction m with
    |zero=>rfl
    |succ m ih=>rw[List.replicate_succ,List.flatten_cons,ih];rfl
   rw[this,hz]
   cases x with
   |mk cps =>
    simp only at this
    have:cps = #[]:=by simpa using this
    rw[this]
 ·rw[f]
theorem cw:OpD X (binaryOp .Mult) bI:=by
 intro pins s σ H x y v u Q I rx ry h
 obtain⟨J,dx,dy,d,hJ,ax,ay,e,q⟩:=h
 unfold bI at e
 split at e
 ·rename_i i j
  split at e
  ·rename_i c
   cases e
   cases At.int_iff.mp ax;cases At.int_iff.mp ay
   exact Ay pins s σ H _ _ v u Q I rx ry ⟨i,j,rfl,rfl,yT c,q H _ (Same.refl H) (At.int_iff.mpr rfl)⟩
  ·cases e
 ·rename_i z n
  obtain⟨ex,kx⟩:=At.str_iff.mp ax
  subst ex
  cases At.int_iff.mp ay
  obtain⟨t,rfl⟩:=rx
  obtain⟨t',rfl⟩:=ry
  split at e
  ·rename_i c
   cases e
   refine SB.mul ⟨by rw[decide_eq_false (by omega),decide_eq_false (by omega)];rfl,λh=>absurd c.2 h,λh=>absurd c.2 h⟩ λt' k=>?_
   rw[show Txt.mul z n=⟨#[]⟩ from if_pos c.2]
   exact⟨.str _,H,I.tok _,⟨t',rfl⟩,q H _ (Same.refl H) (At.str_iff.mpr ⟨rfl,by show 0<=sizeLine;decide,by decide +kernel⟩)⟩
  ·rename_i c
   split at e
   ·rename_i c2
    cases e
    have hs24:(sizeLine:Nat)=2 ^ 24:=rfl
    have hlen:z.length*n.toNat<=1000000:=by
     have:n.toNat<=1000:=by omega
     exact Nat.le_trans (Nat.mul_le_mul c2.2.2 this) (by decide)
    have ok:MulOk z n:=by
     refine⟨by rw[decide_eq_false (by omega),decide_eq_false (by omega)];rfl,λ_ _ hh=>?_,λ_ _=>?_⟩
     ·have h1:(2 ^ 63-1) / n≥(2 ^ 63-1) / 1000:=by
       apply Int.le_ediv_of_mul_le (by omega)
       have:((2 ^ 63-1) / 1000:Int)=9223372036854775:=by decide
       rw[this]
       omega
      have h2:((2 ^ 63-1) / 1000:Int)=9223372036854775:=by decide
      omega
     ·unfold Builtin.Str.tooLong
      exact decide_eq_false (by omega)
    refine SB.mul ok λt' k=>?_
    rw[wE z n (by omega)]
    have hl:z.cps.toList.length=z.length:=by simp[Str.length]
    refine⟨.str _,H,I.tok _,⟨t',rfl⟩,q H _ (Same.refl H) (At.str_iff.mpr ⟨rfl,?_,i6 λc m=>?_⟩)⟩
    ·show (List.toArray _).size<=_
     rw[List.size_toArray,len_rep,hl,Nat.mul_comm]
     omega
    ·obtain⟨l,hl1,hl2⟩:=List.mem_flatten.mp m
     rw[(List.mem_replicate.mp hl1).2] at hl2
     exact gH kx.2 hl2
   ·cases e
 ·rename_i xs n
  split at e
  ·rename_i c
   cases e
   obtain⟨a,us,rfl,tq,m⟩:=At.tup_iff.mp ax
   cases At.int_iff.mp ay
   cases rx
   obtain⟨t',rfl⟩:=ry
   obtain⟨its,r,⟨⟨cls,dd,data,sl⟩,ho,hc,nn,hd⟩,hz⟩:=I.tuple tq.sq
   simp only at hc hd
   subst hc hd
   have l1:=m.length
   have l2:=r.length
   have hs24:(sizeLine:Nat)=2 ^ 24:=rfl
   have hlen:its.toArray.size*n.toNat<=sizeLine:=by
    rw[List.size_toArray]
    have h1:its.length<=1000:=by omega
    have h2:n.toNat<=1000:=by omega
    exact Nat.le_trans (Nat.mul_le_mul h1 h2) (by rw[hs24];decide)
   have h0 : 0<its.length:=by omega
   have hne:its.toArray.isEmpty=false:=by
    cases its with
    |nil=>simp at h0
    |cons _ _=>rfl
   refine wpAny_binaryOp_repeat_ref (T:="tuple") (U:="int") (by decide) ⟨_,ho,rfl⟩ (λs'=>typeIs_int s' n t') jH F.fills_int_mul F.slot_int_rmul oB F.slot_int_index.lookup
    (call_meets F.slot_int_rmul (typeIs_int s n t') F.entry_int_rmul (F.args_int_rmul_2 _ _) (lT n t' a its.toArray nn dd sl)
     ⟨ho,rfl,⟨_,ho,rfl⟩,call_meets F.slot_tuple_mul ⟨_,ho,rfl⟩ F.entry_tuple_mul (F.args_tuple_mul_2 _ _) (rf a its.toArray nn dd sl n t' c.1 (by omega) hne hlen) ⟨ho,?_⟩⟩)
   have hnew:List.foldl (λx1 x2=>x1++x2) #[] (List.replicate n.toNat its.toArray)=(List.replicate n.toNat its).flatten.toArray:=by
    have:=foldl_rep its n.toNat []
    rw[List.nil_append] at this
    exact this
   rw[hnew]
   have hrep:(List.replicate n.toNat us).flatten.length<=sizeLine:=by
    rw[len_rep,Nat.mul_comm,l2]
    rw[List.size_toArray] at hlen;exact hlen
   exact⟨.ref s.heap.objs.size,_,I.laid (t':=s.toks) (o:=.tup (List.replicate n.toNat us).flatten) (λb ob q=>Heap.get?_push_of_some _ q) (Nat.le_refl _) ⟨hrep,_,r.rep n.toNat,TupN.new _ _⟩,rfl,q _ _ (aP I.fresh _) (At.newTup (m.rep n.toNat) I.fresh hJ hrep)⟩
  ·cases e
 ·cases e
end
section
variable {X:Cx}{W:WT}
noncomputable def cY:D->Option String
 | .non=>some "NoneType"
 | .bl _=>some "bool"
 | .int _=>some "int"
 | .str _=>some "str"
 | .tup _=>some "tuple"
 | .lst _=>some "list"
 |_=>none
noncomputable def dQ (T k:String):Bool:=k==T ||(k=="bool"&&T=="int")
noncomputable def du (T:String)(d:D):Option D:=(cY d).map λk => .bl (dQ T k)
def nX (T:String):Prop:=∀ (K:Frag),kitOne K (.type "NoneType") (.type T)=some (dQ T "NoneType")/\kitOne K (.type "bool") (.type T)=some (dQ T "bool")/\kitOne K (.type "int") (.type T)=some (dQ T "int") /\
 kitOne K (.type "str") (.type T)=some (dQ T "str")/\kitOne K (.type "tuple") (.type T)=some (dQ T "tuple")/\kitOne K (.type "list") (.type T)=some (dQ T "list")
theorem y8:nX "int":=λK=>⟨rfl,rfl,rfl,rfl,rfl,rfl⟩
theorem oK:nX "str":=λK=>⟨rfl,rfl,rfl,rfl,rfl,rfl⟩
theorem wS:nX "bool":=λK=>⟨rfl,rfl,rfl,rfl,rfl,rfl⟩
theorem kit_tuple:nX "tuple":=λK=>⟨rfl,rfl,rfl,rfl,rfl,rfl⟩
theorem xo {T:String}(hk:nX T):eT X (.builtin "isinstance") (λxs H Q => ∃ x,xs=[x,.ty T]/\rD1 X.K (du T) x H Q):=by
 intro pins s σ H xs us Q I r h
 obtain⟨x,rfl,J,dx,d,hJ,ax,e,q⟩:=h
 obtain⟨u,w',rfl,ru,rT⟩:=vals2 r
 cases rT
 obtain⟨k,e1,e2⟩:=Option.map_eq_some_iff.mp e
 subst e2
 obtain⟨k1,k2,k3,k4,k5,k6⟩:=hk X.K
 have fin:∀ tk,EP X pins σ Q (.bool (dQ T k)) { s with toks:=tk }:=λtk=>⟨.bl _,H,I.tok _,rfl,q H _ (Same.refl H) (At.bl_iff.mpr rfl)⟩
 cases dx with
 |non=>cases e1;cases At.non_iff.mp ax;cases ru;exact kia_one kitx_none I.kIn True.intro k1 (λz=>nomatch z) fin
 |bl b=>cases e1;cases At.bl_iff.mp ax;cases ru;exact kia_one kitx_bool I.kIn True.intro k2 (λz=>nomatch z) fin
 |int i=>cases e1;cases At.int_iff.mp ax;obtain⟨t,rfl⟩:=ru;exact kia_one kitx_int I.kIn True.intro k3 (λz=>nomatch z) fin
 |str y=>cases e1;cases (At.str_iff.mp ax).1;obtain⟨t,rfl⟩:=ru;exact kia_one kitx_str I.kIn True.intro k4 (λz=>nomatch z) fin
 |tup ds =>
  cases e1
  obtain⟨a,ws,rfl,tq,_⟩:=At.tup_iff.mp ax
  cases ru
  obtain⟨its,rv,⟨o,h1,h2,_⟩,_⟩:=I.tuple tq.sq
  exact kia_one kitx_tuple I.kIn ⟨o,h1,h2⟩ k5 (λz=>nomatch z) fin
 |lst ds =>
  cases e1
  obtain⟨a,ws,rfl,tq,_⟩:=At.lst_iff.mp ax
  cases ru
  obtain⟨its,rv,⟨o,n,h1,h2,_⟩,_⟩:=I.list tq.sq
  exact kia_one kitx_list I.kIn ⟨o,h1,h2⟩ k6 (λz=>nomatch z) fin
 |set _=>simp[cY] at e1
 |loc _=>simp[cY] at e1
variable {a b c e:Expr}{fa fb fc:Rho->Sto->Out D}{pos:Pos}{es:List Expr}{gs:Rho->Sto->Out (List D)}
theorem fR {T:String}{x t:Str}{p p2:Pos}(hk:nX T)(hx:x="isinstance")(hm:X.mg x=none)(hmt:X.mg t=none)(hvt:bootBuiltins t=some (.type T))(ha:SE X W e fa)
  (hg:Gl X x:=by rfl) (hgt:Gl X t:=by rfl) (hn:t≠"__name__":=by decide) (hdb:(t==("__debug__":Str))=false:=by decide)
  (he:starEach (e::[.Name t p2]) X.env=(false,eval e X.env)::starEach [.Name t p2] X.env:=by rfl) (hpl:(backTo pos (starEach [.Name t p2] X.env)).any (·.1)=false:=by rfl) :
  SE X W (.Call (.Name x p) [e,.Name t p2] [] pos) (cUn (du T) fa):=by
 subst hx
 refine PE.imp (fZ (xo hk) hg hm (by decide +kernel) (bH ha (bH (tF (v:=.ty T) hgt hmt hvt (show RelV (.ty T) (.type T) from rfl) hn hdb) pa_nil (by rfl)) he) (by decide) (by decide) he hpl) λσ H Q h=>?_
 exact (tG.bindE h).mono λv H1 ⟨d,h1⟩=>⟨v,rfl,tG.op1 h1⟩
noncomputable def cX:List D->Option D
 |[.tup xs]=>some (.int xs.length)
 |[.lst xs]=>some (.int xs.length)
 |[.str x]=>some (.int x.length)
 |_=>none
theorem ft:kz X (.builtin "len") cX:=by
 intro pins s σ H xs us Q I r h
 obtain⟨J,ds,d,hJ,m,e,q⟩:=h
 unfold cX at e
 split at e
 ·rename_i ys
  cases e
  obtain⟨v,w,rfl,a,n⟩:=Ats.cons_iff.mp m
  cases Ats.nil_iff.mp n
  obtain⟨p,zs,rfl,t,mz⟩:=At.tup_iff.mp a
  exact jn pins s σ H _ us Q I r ⟨p,zs,rfl,.inr t.sq,by rw[← mz.length];exact q H _ (Same.refl H) (At.int_iff.mpr rfl)⟩
 ·rename_i ys
  cases e
  obtain⟨v,w,rfl,a,n⟩:=Ats.cons_iff.mp m
  cases Ats.nil_iff.mp n
  obtain⟨p,zs,rfl,t,mz⟩:=At.lst_iff.mp a
  exact jn pins s σ H _ us Q I r ⟨p,zs,rfl,.inl t.sq,by rw[← mz.length];exact q H _ (Same.refl H) (At.int_iff.mpr rfl)⟩
 ·rename_i y
  cases e
  obtain⟨v,w,rfl,a,n⟩:=Ats.cons_iff.mp m
  cases Ats.nil_iff.mp n
  obtain⟨ex,kx⟩:=At.str_iff.mp a
  subst ex
  exact o7 pins s σ H _ us Q I r ⟨y,rfl,kx.1,q H _ (Same.refl H) (At.int_iff.mpr rfl)⟩
 ·cases e
noncomputable def intD:List D->Option D
 |[.int i]=>some (.int i)
 |[.bl k]=>some (.int (if k then 1 else 0))
 |_=>none
theorem sk:kz X (.type "int") intD:=by
 intro pins s σ H xs us Q I r h
 obtain⟨J,ds,d,hJ,m,e,q⟩:=h
 unfold intD at e
 split at e
 ·rename_i i
  cases e
  obtain⟨v,w,rfl,a,n⟩:=Ats.cons_iff.mp m
  cases Ats.nil_iff.mp n
  cases At.int_iff.mp a
  exact nQ pins s σ H _ us Q I r (.inl ⟨i,rfl,q H _ (Same.refl H) (At.int_iff.mpr rfl)⟩)
 ·rename_i k
  cases e
  obtain⟨v,w,rfl,a,n⟩:=Ats.cons_iff.mp m
  cases Ats.nil_iff.mp n
  cases At.bl_iff.mp a
  exact nQ pins s σ H _ us Q I r (.inr ⟨k,rfl,q H _ (Same.refl H) (At.int_iff.mpr rfl)⟩)
 ·cases e
noncomputable def bw (i:Int):Str:=toString i
noncomputable def okB (x:Str):Bool:=decide (x.length<=sizeLine)&&PyData.strOk x
theorem lB {x:Str}(h:okB x=true):okS x:=by
 unfold okB at h
 rw[Bool.and_eq_true] at h
 exact⟨of_decide_eq_true h.1,h.2⟩
noncomputable def j8:List D->Option D
 |[.int i]=>if i.natAbs.log2<1920/\okB (bw i)=true then some (.str (bw i)) else none
 |_=>none
theorem xk:kz X (.type "str") j8:=by
 intro pins s σ H xs us Q I r h
 obtain⟨J,ds,d,hJ,m,e,q⟩:=h
 unfold j8 at e
 split at e
 ·rename_i i
  split at e
  ·rename_i c
   cases e
   obtain⟨v,w,rfl,a,n⟩:=Ats.cons_iff.mp m
   cases Ats.nil_iff.mp n
   cases At.int_iff.mp a
   exact o5 pins s σ H _ us Q I r ⟨i,rfl,c.1,q H _ (Same.refl H) (At.str_iff.mpr ⟨rfl,lB c.2⟩)⟩
  ·cases e
 ·cases e
noncomputable def pI:List D->Option D
 |[.tup xs]=>some (.tup xs)
 |[.lst xs]=>some (.tup xs)
 |_=>none
theorem sj:kz X (.type "tuple") pI:=by
 intro pins s σ H xs us Q I r h
 obtain⟨J,ds,d,hJ,m,e,q⟩:=h
 unfold pI at e
 split at e
 ·rename_i ys
  cases e
  obtain⟨v,w,rfl,a,n⟩:=Ats.cons_iff.mp m
  cases Ats.nil_iff.mp n
  obtain⟨p,zs,rfl,t,mz⟩:=At.tup_iff.mp a
  exact eB pins s σ H _ us Q I r ⟨p,zs,rfl,.inr ⟨t.sq,q H _ (Same.refl H) a⟩⟩
 ·rename_i ys
  cases e
  obtain⟨v,w,rfl,a,n⟩:=Ats.cons_iff.mp m
  cases Ats.nil_iff.mp n
  obtain⟨p,zs,rfl,t,mz⟩:=At.lst_iff.mp a
  exact eB pins s σ H _ us Q I r ⟨p,zs,rfl,.inl ⟨t.sq,λl hl=>q _ _ (aP hl _) (At.newTup mz hl hJ t.len)⟩⟩
 ·cases e
end
inductive Fl where
 |next (ρ:Rho) |ret (d:D) |brk (ρ:Rho) |cont (ρ:Rho)
def EndS (X:Cx)(W:WT)(J:List Addr)(H:Hp)(r:Except Str Fl)(S':Sto)(E:Ends):Prop:=
 match r with
 | .ok (.next ρ') => ∀ J' σ' H',Ex J H J' H'->Cf X J' ρ' S' σ' H'->E.nx σ' H'
 | .ok (.brk ρ') => ∀ J' σ' H',Ex J H J' H'->Cf X J' ρ' S' σ' H'->E.bk σ' H'
 | .ok (.cont ρ') => ∀ J' σ' H',Ex J H J' H'->Cf X J' ρ' S' σ' H'->E.ct σ' H'
 | .ok (.ret d) => ∀ J' H' v,Ex J H J' H'->StoOk X.K J' S' H'->At X.K H' J' d v->E.rt v H'
 | .error c => ∀ J' H',Ex J H J' H'->StoOk X.K J' S' H'->W c J' S' H'
theorem EndS.ex {X:Cx}{W:WT}{J J1:List Addr}{H H1:Hp}{r:Except Str Fl}{S':Sto}{E:Ends}(h:EndS X W J H r S' E)(x:Ex J H J1 H1):EndS X W J1 H1 r S' E:=by
 cases r with
 |error c=>exact λJ' H' x' s=>h J' H' (x.trans x') s
 |ok f =>
  cases f with
  |next ρ=>exact λJ' σ' H' x' c=>h J' σ' H' (x.trans x') c
  |brk ρ=>exact λJ' σ' H' x' c=>h J' σ' H' (x.trans x') c
  |cont ρ=>exact λJ' σ' H' x' c=>h J' σ' H' (x.trans x') c
  |ret d=>exact λJ' H' v x' s a=>h J' H' v (x.trans x') s a
def tS (X:Cx)(W:WT)(f:Rho->Sto->Out Fl):TS:=λE σ H => ∃ J ρ S r S',Cf X J ρ S σ H/\f ρ S=some (r,S')/\EndS X W J H r S' E
def SS (X:Cx)(W:WT)(st:Stmt)(f:Rho->Sto->Out Fl):Prop:=PS X st (tS X W f)
def SSs (X:Cx)(W:WT)(st:List Stmt)(f:Rho->Sto->Out Fl):Prop:=PSs X st (tS X W f)
theorem PS.imp {X:Cx}{st:Stmt}{t t':TS}(h:PS X st t)(i:∀ E σ H,t' E σ H->t E σ H):PS X st t':=λpins s σ H D I z=>h pins s σ H D I (i _ _ _ z)
theorem PSs.imp {X:Cx}{st:List Stmt}{t t':TS}(h:PSs X st t)(i:∀ E σ H,t' E σ H->t E σ H):PSs X st t':=λpins s σ H D I z=>h pins s σ H D I (i _ _ _ z)
section
variable {X:Cx}{W:WT}{st:Stmt}{rest:List Stmt}{f g:Rho->Sto->Out Fl}{e c:Expr}{fe:Rho->Sto->Out D}{gt:Rho->Sto->Out Bool}{pos:Pos}
def bA:Rho->Sto->Out Fl:=λρ S=>okO (.next ρ) S
def aF (f g:Rho->Sto->Out Fl):Rho->Sto->Out Fl:=λρ S=>ag (f ρ S) λfl S1=>match fl with
 | .next ρ'=>g ρ' S1
 |o=>okO o S1
def bi (f:Rho->Sto->Out D):Rho->Sto->Out Fl:=λρ S=>ag (f ρ S) λd S1=>okO (.ret d) S1
def cIf (t:Rho->Sto->Out Bool)(f g:Rho->Sto->Out Fl):Rho->Sto->Out Fl:=λρ S=>ag (t ρ S) λk S1=>if k=true then f ρ S1 else g ρ S1
def ba (i:Nat)(f:Rho->Sto->Out D):Rho->Sto->Out Fl:=λρ S=>ag (f ρ S) λd S1=>okO (.next (ρ.set i (some d))) S1
def xy (f:Rho->Sto->Out D):Rho->Sto->Out Fl:=λρ S=>ag (f ρ S) λ_ S1=>okO (.next ρ) S1
theorem aN:SSs X W [] bA:=pss_nil.imp λE σ H h=>by
 obtain⟨J,ρ,S,r,S',c,e,z⟩:=h
 cases e
 exact z J σ H Ex.refl c
theorem vY {E:Ends}{σ:St}{H:Hp}(h:tS X W (aF f g) E σ H):Bg (tS X W f) (tS X W g) E σ H:=by
 obtain⟨J,ρ,S,r,S',c,e,z⟩:=h
 unfold aF at e
 cases q:f ρ S with
 |none=>simp[q] at e
 |some o =>
  obtain⟨ro,S1⟩:=o
  simp only[q] at e
  cases ro with
  |error x =>
   cases e
   exact⟨J,ρ,S,.error x,_,c,q,z⟩
  |ok fl =>
   cases fl with
   |next ρ'=>exact⟨J,ρ,S,.ok (.next ρ'),S1,c,q,λJ' σ' H' x c'=>⟨J',ρ',S1,r,S',c',e,z.ex x⟩⟩
   |ret d=>cases e;exact⟨J,ρ,S,.ok (.ret d),_,c,q,z⟩
   |brk ρ'=>cases e;exact⟨J,ρ,S,.ok (.brk ρ'),_,c,q,z⟩
   |cont ρ'=>cases e;exact⟨J,ρ,S,.ok (.cont ρ'),_,c,q,z⟩
theorem al (h1:SS X W st f)(h2:SSs X W rest g):SSs X W (st::rest) (aF f g):=(wa h1 h2).imp λE σ H h=>vY h
theorem au (h1:SS X W st f):SSs X W [st] f:=yw h1
theorem tS.bindE {k:D->Rho->Sto->Out Fl}{E:Ends}{σ:St}{H:Hp}(h:tS X W (λρ S=>ag (fe ρ S) λd S1=>k d ρ S1) E σ H) :
  tE X W fe σ H λv H1 => ∃ J ρ S d r S',Cf X J ρ S σ H1/\At X.K H1 J d v/\k d ρ S=some (r,S')/\EndS X W J H1 r S' E:=by
 obtain⟨J,ρ,S,r,S',c,e,z⟩:=h
 cases q:fe ρ S with
 |none=>simp[q] at e
 |some o =>
  obtain⟨ro,S1⟩:=o
  simp only[q] at e
  cases ro with
  |error x =>
   cases e
   exact⟨J,ρ,S,.error x,_,c,.nil,q,z⟩
  |ok d=>exact⟨J,ρ,S,.ok d,S1,c,.nil,q,λJ1 H1 v x s1 m=>⟨J1,ρ,S1,d,r,S',c.re x s1,m,e,z.ex x⟩⟩
theorem tS.bindT {k:Bool->Rho->Sto->Out Fl}{E:Ends}{σ:St}{H:Hp}(h:tS X W (λρ S=>ag (gt ρ S) λd S1=>k d ρ S1) E σ H) :
  tT X W gt σ H λb H1=>tS X W (k b) E σ H1:=by
 obtain⟨J,ρ,S,r,S',c,e,z⟩:=h
 cases q:gt ρ S with
 |none=>simp[q] at e
 |some o =>
  obtain⟨ro,S1⟩:=o
  simp only[q] at e
  cases ro with
  |error x =>
   cases e
   exact⟨J,ρ,S,.error x,_,c,.nil,q,z⟩
  |ok d =>
   refine⟨J,ρ,S,.ok d,S1,c,.nil,q,λJ1 H1 v x s1 m=>?_⟩
   cases m
   exact⟨J1,ρ,S1,r,S',c.re x s1,e,z.ex x⟩
theorem aD (he:SE X W e fe):SS X W (.Return (some e) pos) (bi fe):=(Aj he).imp λE σ H h=>(tS.bindE h).mono λv H1 ⟨J,ρ,S,d,r,S',c,m,q,z⟩=>by
 cases q
 exact z J H1 v Ex.refl c.sto m
theorem bF {a b:List Stmt}(hc:TS1 X W c gt)(ha:SSs X W a f)(hb:SSs X W b g):SS X W (.If c a b pos) (cIf gt f g):=(Bw hc ha hb).imp λE σ H h=>(tS.bindT h).mono λk H1 h1=>by
 cases k with
 |true=>rw[if_pos rfl];exact h1
 |false=>rw[if_neg (by decide)];exact h1
theorem xX (he:SE X W e fe)(hs:swapsWith e none pos.line X.env=pure false:=by rfl):SS X W (.Expr e pos) (xy fe):=(yx he hs).imp λE σ H h=>(tS.bindE h).mono λv H1 ⟨J,ρ,S,d,r,S',c,m,q,z⟩=>by
 cases q
 exact z J σ H1 Ex.refl c
theorem Cf.set {J:List Addr}{ρ:Rho}{S:Sto}{σ:St}{H:Hp}{i:Nat}{d:D}{v:V}(c:Cf X J ρ S σ H)(m:At X.K H J d v):Cf X J (ρ.set i (some d)) S (σ.set i (some v)) H:=by
 refine⟨by rw[List.length_set,List.length_set];exact c.len,λj d' h=>?_,c.sto⟩
 by_cases hj:j=i
 ·subst hj
  have hl:j < ρ.length:=by
   have:=(List.getElem?_eq_some_iff.mp h).1
   rwa [List.length_set] at this
  rw[List.getElem?_set_self hl] at h
  cases h
  exact⟨v,List.getElem?_set_self (by rw[← c.len];exact hl),m⟩
 ·rw[List.getElem?_set_ne (Ne.symm hj)] at h
  obtain⟨v',h1,h2⟩:=c.env j d' h
  exact⟨v',by rw[List.getElem?_set_ne (Ne.symm hj)];exact h1,h2⟩
theorem aH {i:Nat}{x:Str}{pos':Pos}(hN:X.N.Nodup)(he:SE X W e fe)(hi:X.N[i]?=some x:=by rfl)(hx:Loc X.env.scope x:=by first |exact Or.inl rfl |exact Or.inr rfl)(hs:swapsWith e (some (.Name x pos')) pos.line X.env=pure false:=by rfl)
  (hf:X.fn x=true∨X.env.scope.names.lookup x=some .local:=by first |exact .inl rfl |exact .inr rfl |assumption) :
  SS X W (.Assign [.Name x pos'] e pos) (ba i fe):=(Ai hN hi hx he hs hf).imp λE σ H h=>(tS.bindE h).mono λv H1 ⟨J,ρ,S,d,r,S',c,m,q,z⟩=>by
 cases q
 exact z J _ H1 Ex.refl (c.set m)
def tgD (X:Cx)(u:D->Rho->Option Rho):TG:=λv σ H Q => ∃ J ρ S d ρ',Cf X J ρ S σ H/\At X.K H J d v/\u d ρ=some ρ'/\∀ σ',Cf X J ρ' S σ' H->Q σ' H
def Cm (X:Cx)(u:List D->Rho->Option Rho):TGs:=λvs σ H Q => ∃ J ρ S ds ρ',Cf X J ρ S σ H/\Ats X.K H J ds vs/\u ds ρ=some ρ'/\∀ σ',Cf X J ρ' S σ' H->Q σ' H
def SG (X:Cx)(tg:Expr)(u:D->Rho->Option Rho):Prop:=PG X tg (tgD X u)
def SGs (X:Cx)(tg:List Expr)(u:List D->Rho->Option Rho):Prop:=PGs X tg (Cm X u)
theorem PG.imp {tg:Expr}{t t':TG}(h:PG X tg t)(i:∀ v σ H Q,t' v σ H Q->t v σ H Q):PG X tg t':=λpins s σ H v u Q I r z=>h pins s σ H v u Q I r (i _ _ _ _ z)
theorem PGs.imp {tg:List Expr}{t t':TGs}(h:PGs X tg t)(i:∀ v σ H Q,t' v σ H Q->t v σ H Q):PGs X tg t':=λpins s σ H v u Q I r z=>h pins s σ H v u Q I r (i _ _ _ _ z)
noncomputable def bu (i:Nat):D->Rho->Option Rho:=λd ρ=>some (ρ.set i (some d))
noncomputable def pG:List D->Rho->Option Rho:=λds ρ=>match ds with
 |[]=>some ρ
 |_=>none
noncomputable def eV (u:D->Rho->Option Rho)(us:List D->Rho->Option Rho):List D->Rho->Option Rho:=λds ρ=>match ds with
 |d::r=>(u d ρ).bind λρ'=>us r ρ'
 |[]=>none
noncomputable def uj (n:Nat)(us:List D->Rho->Option Rho):D->Rho->Option Rho:=λd ρ=>match d with
 | .tup ds=>if ds.length=n then us ds ρ else none
 |_=>none
theorem cr {i:Nat}{x:Str}(hN:X.N.Nodup)(hi:X.N[i]?=some x:=by rfl)(hx:Loc X.env.scope x:=by first |exact Or.inl rfl |exact Or.inr rfl)(hf:X.fn x=true∨X.env.scope.names.lookup x=some .local:=by first |exact .inl rfl |exact .inr rfl |assumption) :
  SG X (.Name x pos) (bu i):=(yC hN hi hx hf).imp λv σ H Q h=>by
 obtain⟨J,ρ,S,d,ρ',c,m,e,z⟩:=h
 cases e
 exact z _ (c.set m)
theorem tf:SGs X [] pG:=pgs_nil.imp λv σ H Q h=>by
 obtain⟨J,ρ,S,ds,ρ',c,m,e,z⟩:=h
 cases ds with
 |nil=>cases e;exact⟨Ats.nil_iff.mp m,z _ c⟩
 |cons _ _=>cases e
theorem jb {e:Expr}{es:List Expr}{u:D->Rho->Option Rho}{us:List D->Rho->Option Rho}(h1:SG X e u)(h2:SGs X es us)
  (hs:(assignEach (e::es) X.env).map (·.2)=assign e X.env::(assignEach es X.env).map (·.2):=by rfl):SGs X (e::es) (eV u us):=(wg h1 h2 hs).imp λv σ H Q h=>by
 obtain⟨J,ρ,S,ds,ρ',c,m,e,z⟩:=h
 cases ds with
 |nil=>cases e
 |cons d r =>
  obtain⟨v1,vr,rfl,m1,m2⟩:=Ats.cons_iff.mp m
  obtain⟨ρ1,e1,e2⟩:=Option.bind_eq_some_iff.mp e
  exact⟨v1,vr,rfl,J,ρ,S,d,ρ1,c,m1,e1,λσ1 c1=>⟨J,ρ1,S,r,ρ',c1,m2,e2,z⟩⟩
theorem vV {es:List Expr}{k:Nat}{us:List D->Rho->Option Rho}{n:Nat}(hc:X.calm=true)(h:SGs X es us)
  (hn:(assignEach es X.env).length=n:=by rfl) (hst:(assignEach es X.env).findIdx? (·.1)=none:=by rfl):SG X (.Tuple es k pos) (uj n us):=(Ao hc h hn hst).imp λv σ H Q h=>by
 obtain⟨J,ρ,S,d,ρ',c,m,e,z⟩:=h
 cases d with
 |tup ds =>
  obtain⟨a,xs,rfl,t,ms⟩:=At.tup_iff.mp m
  simp only[uj] at e
  split at e
  ·rename_i hl
   exact⟨a,xs,rfl,t.sq,by rw[← ms.length];exact hl,J,ρ,S,ds,ρ',c,ms,e,z⟩
  ·cases e
 |_=>cases e
structure Walk (X:Cx) (Jt:It) (ds:List D) (J0:List Addr) (H0:Hp):Prop where
 len:ds.length<=sizeLine
 go:∀ J H i,Ex J0 H0 J H->i<ds.length->Jt.go i H
 yld:∀ J H (i:Nat) x H',Ex J0 H0 J H->(∀ a∈J,H a≠none)->i<ds.length->Jt.yld i H x H'->∃ d,ds[i]?=some d/\At X.K H' J d x/\Same H H'
 stop:∀ J H i,Ex J0 H0 J H->ds.length<=i->Jt.stop i H
def iW (X:Cx)(W:WT)(fi:Rho->Sto->Out (List D)):TI:=λσ H R => ∃ J ρ S r S',Cf X J ρ S σ H/\fi ρ S=some (r,S')/\match r with
 | .ok ds => ∀ J' H' Jt,Ex J H J' H'->StoOk X.K J' S' H'->Walk X Jt ds J' H'->R Jt H'
 | .error c => ∀ J' H',Ex J H J' H'->StoOk X.K J' S' H'->W c J' S' H'
def SI (X:Cx)(W:WT)(tg iter:Expr)(fi:Rho->Sto->Out (List D)):Prop:=PI X tg iter (iW X W fi)
theorem PI.imp {tg iter:Expr}{t t':TI}(h:PI X tg iter t)(i:∀ σ H R,t' σ H R->t σ H R):PI X tg iter t':=λpins s σ H R I z=>h pins s σ H R I (i _ _ _ z)
def h_ (u:D->Rho->Option Rho)(body:Rho->Sto->Out Fl):List D->Rho->Sto->Out Fl
 |[],ρ,S=>okO (.next ρ) S
 |d::ds,ρ,S=>match u d ρ with
  |none=>none
  |some ρ1=>ag (body ρ1 S) λfl S1=>match fl with
   | .next ρ'=>h_ u body ds ρ' S1
   | .cont ρ'=>h_ u body ds ρ' S1
   | .brk ρ'=>okO (.next ρ') S1
   | .ret d=>okO (.ret d) S1
def sD (fi:Rho->Sto->Out (List D))(u:D->Rho->Option Rho)(body:Rho->Sto->Out Fl):Rho->Sto->Out Fl:=λρ S=>ag (fi ρ S) λds S1=>h_ u body ds ρ S1
theorem oh {tg iter:Expr}{body:List Stmt}{fi:Rho->Sto->Out (List D)}{u:D->Rho->Option Rho}(hp:PassesOwn (model X.prog X.w) X.A X.env X.xe)(hc:X.calm=true)(hi:SI X W tg iter fi)(hg:SG X tg u)(hb:SSs X W body f)
  (hs:∀ x,foldedSetIterable iter X.env x=pure x:=by intro _;rfl):SS X W (.For tg iter body [] pos) (sD fi u f):=(Ak hp hc hi hg hb hs).imp λE σ H h=>by
 obtain⟨J,ρ,S,r,S',c,e,z⟩:=h
 unfold sD at e
 cases q:fi ρ S with
 |none=>simp[q] at e
 |some o =>
  obtain⟨ro,S1⟩:=o
  simp only[q] at e
  cases ro with
  |error x =>
   cases e
   exact⟨J,ρ,S,.error x,_,c,q,z⟩
  |ok ds =>
   refine⟨J,ρ,S,.ok ds,S1,c,q,λJ0 H0 Jt x0 s0 w=>?_⟩
   refine⟨λi m σ H=>m=ds.length-i/\∃ Jx ρx Sx,Ex J0 H0 Jx H/\Cf X Jx ρx Sx σ H/\∃ r S',h_ u f (ds.drop i) ρx Sx=some (r,S')/\EndS X W Jx H r S' E,
    ⟨_,rfl,J0,ρ,S1,Ex.refl,c.re x0 s0,r,S',by simpa using e,z.ex x0⟩,λi m σ1 H1 hw=>?_⟩
   obtain⟨hm,Jx,ρx,Sx,ex,cx,r1,S1',el,ez⟩:=hw
   by_cases hi:i<ds.length
   ·refine .inr ⟨w.go Jx H1 i ex hi,λσ' H' => ∃ Jy ρy Sy,Ex J0 H0 Jy H'/\Cf X Jy ρy Sy σ' H'/\∃ r S',h_ u f (ds.drop (i+1)) ρy Sy=some (r,S')/\EndS X W Jy H' r S' E,
     λσ' H' hn=>⟨ds.length-(i+1),by omega,rfl,hn⟩,λx H' y=>?_⟩
    obtain⟨d,ed,ad,sm⟩:=w.yld Jx H1 i x H' ex cx.sto.all hi y
    have hd:ds.drop i=d::ds.drop (i+1):=by
     rw[List.drop_eq_getElem_cons hi]
     rw[List.getElem?_eq_getElem hi] at ed
     cases ed;rfl
    rw[hd] at el
    unfold h_ at el
    cases hu:u d ρx with
    |none=>simp[hu] at el
    |some ρ1 =>
     simp only[hu] at el
     have xs:Ex Jx H1 Jx H':=Ex.same sm
     refine⟨Jx,ρx,Sx,d,ρ1,cx.re xs (cx.sto.same sm),ad,hu,λσ2 c2=>?_⟩
     cases qb:f ρ1 Sx with
     |none=>simp[qb] at el
     |some o =>
      obtain⟨ro,S2⟩:=o
      simp only[qb] at el
      have ez':=ez.ex xs
      cases ro with
      |error x =>
       cases el
       exact⟨Jx,ρ1,Sx,.error x,_,c2,qb,ez'⟩
      |ok fl =>
       cases fl with
       |next ρ'=>exact⟨Jx,ρ1,Sx,.ok (.next ρ'),S2,c2,qb,λJ' σ' H2 x' c'=>⟨J',ρ',S2,ex.trans (xs.trans x'),c',r1,S1',el,ez'.ex x'⟩⟩
       |cont ρ'=>exact⟨Jx,ρ1,Sx,.ok (.cont ρ'),S2,c2,qb,λJ' σ' H2 x' c'=>⟨J',ρ',S2,ex.trans (xs.trans x'),c',r1,S1',el,ez'.ex x'⟩⟩
       |brk ρ'=>cases el;exact⟨Jx,ρ1,Sx,.ok (.brk ρ'),_,c2,qb,ez'⟩
       |ret dd=>cases el;exact⟨Jx,ρ1,Sx,.ok (.ret dd),_,c2,qb,ez'⟩
   ·refine .inl ⟨w.stop Jx H1 i ex (by omega),?_⟩
    rw[List.drop_eq_nil_of_le (by omega)] at el
    unfold h_ at el
    cases el
    exact ez Jx σ1 H1 Ex.refl cx
def su (f:Rho->Sto->Out D):Rho->Sto->Out (List D):=λρ S=>ag (f ρ S) λd S1=>aG (match d with | .tup xs=>some xs |_=>none) S1
def xw (f:Rho->Sto->Out D):Rho->Sto->Out (List D):=λρ S=>ag (f ρ S) λd S1=>aG (match d with | .lst xs=>some xs |_=>none) S1
theorem Walk.list {a:Addr}{ds:List D}{xs:List V}{J:List Addr}{H:Hp}(t:LQ X.K H J a xs)(m:Ats X.K H J ds xs):Walk X (Itl X.K a) ds J H where
 len:=by rw[m.length];exact t.len
 go:=λJ1 H1 i x hi=>by
  have m1:=m.ex x
  obtain⟨v,hv,_⟩:=m1.get (List.getElem?_eq_getElem hi)
  exact⟨xs,v,(t.ex x).sq,hv⟩
 yld:=λJ1 H1 i v H' x hJ hi y=>by
  obtain⟨rfl,hy⟩:=y
  obtain⟨d,e,a⟩:=(m.ex x).get' (hy xs (t.ex x).sq)
  exact⟨d,e,a,Same.refl _⟩
 stop:=λJ1 H1 i x hi=>⟨xs,(t.ex x).sq,by rw[← m.length];exact hi⟩
theorem Walk.tup {a:Addr}{ds:List D}{xs:List V}{J:List Addr}{H:Hp}(t:TQ X.K H J a xs)(m:Ats X.K H J ds xs):Walk X (Itt X.K a) ds J H where
 len:=by rw[m.length];exact t.len
 go:=λJ1 H1 i x hi=>by
  have m1:=m.ex x
  obtain⟨v,hv,_⟩:=m1.get (List.getElem?_eq_getElem hi)
  exact⟨xs,v,(t.ex x).sq,hv⟩
 yld:=λJ1 H1 i v H' x hJ hi y=>by
  obtain⟨rfl,hy⟩:=y
  obtain⟨d,e,a⟩:=(m.ex x).get' (hy xs (t.ex x).sq)
  exact⟨d,e,a,Same.refl _⟩
 stop:=λJ1 H1 i x hi=>⟨xs,(t.ex x).sq,by rw[← m.length];exact hi⟩
theorem oO {k:D->Option (List D)}{σ:St}{H:Hp}{R:It->Hp->Prop}(h:iW X W (λρ S=>ag (fe ρ S) λd S1=>aG (k d) S1) σ H R) :
  tE X W fe σ H λv H1 => ∃ J S d ds,StoOk X.K J S H1/\At X.K H1 J d v/\k d=some ds/\∀ H' Jt,Same H1 H'->Walk X Jt ds J H'->R Jt H':=by
 obtain⟨J,ρ,S,r,S',c,e,z⟩:=h
 cases q:fe ρ S with
 |none=>simp[q] at e
 |some o =>
  obtain⟨ro,S1⟩:=o
  simp only[q] at e
  cases ro with
  |error x =>
   cases e
   exact⟨J,ρ,S,.error x,_,c,.nil,q,z⟩
  |ok d =>
   refine⟨J,ρ,S,.ok d,S1,c,.nil,q,λJ1 H1 v x s1 m=>?_⟩
   cases hk:k d with
   |none=>simp[hk] at e
   |some ds =>
    simp only[hk,iH,bq,okO] at e
    cases e
    exact⟨J1,_,d,ds,s1,m,hk,λH' Jt sm w=>z J1 H' Jt (x.trans (Ex.same sm)) (s1.same sm) w⟩
theorem z6 {tg:Expr}(he:SE X W e fe):SI X W tg e (su fe):=(An he).imp λσ H R h=>(oO h).mono λv H1 ⟨J,S,d,ds,s,m,hk,z⟩=>by
 cases d with
 |tup xs =>
  cases hk
  obtain⟨a,us,rfl,t,ms⟩:=At.tup_iff.mp m
  exact⟨a,rfl,⟨us,t.sq⟩,z H1 _ (Same.refl _) (Walk.tup t ms)⟩
 |_=>cases hk
theorem z8 {tg:Expr}(he:SE X W e fe):SI X W tg e (xw fe):=(yB he).imp λσ H R h=>(oO h).mono λv H1 ⟨J,S,d,ds,s,m,hk,z⟩=>by
 cases d with
 |lst xs =>
  cases hk
  obtain⟨a,us,rfl,t,ms⟩:=At.lst_iff.mp m
  exact⟨a,rfl,⟨us,t.sq⟩,z H1 _ (Same.refl _) (Walk.list t ms)⟩
 |_=>cases hk
noncomputable def fW:List D->Option (List D)
 |[.int j]=>if -(2 ^ 62)<=j/\j<=16777216 then some ((List.range j.toNat).map λ(k:Nat)=>D.int k) else none
 |_=>none
def o_ (k:List D->Option (List D))(t:Rho->Sto->Out (List D)):Rho->Sto->Out (List D):=λρ S=>ag (t ρ S) λds S1=>aG (k ds) S1
theorem Walk.range {J:List Addr}{H:Hp}(lo:Int)(n:Nat)(hz:n<=sizeLine):Walk X (Itr lo n) ((List.range n).map λ(k:Nat)=>D.int (lo+k)) J H where
 len:=by rw[List.length_map,List.length_range];exact hz
 go:=λJ1 H1 i x hi=>by rw[List.length_map,List.length_range] at hi;exact hi
 yld:=λJ1 H1 i v H' x hJ hi y=>by
  obtain⟨rfl,rfl⟩:=y
  rw[List.length_map,List.length_range] at hi
  exact⟨.int (lo+i),by rw[List.getElem?_map,List.getElem?_range hi];rfl,At.int_iff.mpr rfl,Same.refl _⟩
 stop:=λJ1 H1 i x hi=>by rw[List.length_map,List.length_range] at hi;exact hi
theorem pN {k:List D->Option (List D)}{t:Rho->Sto->Out (List D)}{σ:St}{H:Hp}{R:It->Hp->Prop}(h:iW X W (λρ S=>ag (t ρ S) λd S1=>aG (k d) S1) σ H R) :
  tA X W t σ H λvs H1 => ∃ J S es ds,StoOk X.K J S H1/\Ats X.K H1 J es vs/\k es=some ds/\∀ H' Jt,Same H1 H'->Walk X Jt ds J H'->R Jt H':=by
 obtain⟨J,ρ,S,r,S',c,e,z⟩:=h
 cases q:t ρ S with
 |none=>simp[q] at e
 |some o =>
  obtain⟨ro,S1⟩:=o
  simp only[q] at e
  cases ro with
  |error x =>
   cases e
   exact⟨J,ρ,S,.error x,_,c,.nil,q,z⟩
  |ok es =>
   refine⟨J,ρ,S,.ok es,S1,c,.nil,q,λJ1 H1 v x s1 m=>?_⟩
   cases hk:k es with
   |none=>simp[hk] at e
   |some ds =>
    simp only[hk,iH,bq,okO] at e
    cases e
    exact⟨J1,_,es,ds,s1,m,hk,λH' Jt sm w=>z J1 H' Jt (x.trans (Ex.same sm)) (s1.same sm) w⟩
theorem gJ {tg a:Expr}{t:Rho->Sto->Out (List D)}{x:Str}{p:Pos}(hx:x="range")(hm:X.mg x=none)(ha:SA X W [a] t)(hg:Gl X x:=by rfl)(hs:starEach [a] X.env=[(false,eval a X.env)]:=by rfl):SI X W tg (.Call (.Name x p) [a] [] pos) (o_ fW t):=by
 subst hx
 refine PI.imp (uK hg hm ha hs) λσ H R h=>(pN h).mono λvs H1 ⟨J,S,es,ds,s,m,hk,z⟩=>?_
 unfold fW at hk
 split at hk
 ·rename_i j
  split at hk
  ·rename_i c
   cases hk
   obtain⟨v,r,rfl,a1,n⟩:=Ats.cons_iff.mp m
   cases Ats.nil_iff.mp n
   cases At.int_iff.mp a1
   refine⟨j,rfl,c.1,by omega,z H1 _ (Same.refl _) ?_⟩
   have w:=Walk.range (X:=X) (J:=J) (H:=H1) 0 j.toNat (by show j.toNat<=16777216;omega)
   simpa using w
  ·cases hk
 ·cases hk
end
structure InScope (scope:Scope) (env:Env):Prop where
 kind:scope.kind = .function
 nocell:∀ y∈scope.names,y.2≠.cell
 names:∀ y∈scope.names,y.2 = .local->scope.names.lookup y.1=some .local
 frees:∀ y∈scope.names,y.2 = .free->env.kindOf y.1=some .cell∨env.kindOf y.1=some .free
theorem de {env:Env}:∀ (names:List (Str×NameKind)) (acc:List (Str×Addr)),(∀ y∈names,y.2 = .free->∃ c,env.cells.lookup y.1=some c)->(∀ x c,acc.lookup x=some c->env.cells.lookup x=some c) ->
  ∃ cl:List (Str×Addr),(forIn names acc λ(x:Str×NameKind) r=>(do
    let (name,kind):=x
    if kind==.free then pure (ForInStep.yield ((name,← cellOf env name)::r)) else pure (ForInStep.yield r):Sem (ForInStep (List (Str×Addr)))))=pure cl /\
   (∀ x c,cl.lookup x=some c->env.cells.lookup x=some c)/\(∀ x c,acc.lookup x=some c->∃ c',cl.lookup x=some c')/\(∀ y∈names,y.2 = .free->∃ c,cl.lookup y.1=some c)
 |[],acc,_,ha=>⟨acc,by simp,ha,λx c h=>⟨c,h⟩,by simp⟩
 |(n,k)::r,acc,hc,ha=>by
  by_cases hk:k = .free
  ·subst hk
   obtain⟨c,ec⟩:=hc (n,.free) (List.mem_cons_self ..) rfl
   have ha':∀ x c',((n,c)::acc).lookup x=some c'->env.cells.lookup x=some c':=λx c' h=>by
    rw[List.lookup_cons] at h
    cases hx:x==n with
    |true =>
     rw[hx] at h
     cases h
     have:x=n:=eq_of_beq hx
     rw[this];exact ec
    |false=>rw[hx] at h;exact ha x c' h
   obtain⟨cl,e,h1,h2,h3⟩:=de r ((n,c)::acc) (λy hy=>hc y (List.mem_cons_of_mem _ hy)) ha'
   have ecell:cellOf env n=pure c:=by unfold cellOf;rw[ec]
   refine⟨cl,?_,h1,λx c' h=>?_,λy hy hf=>?_⟩
   ·rw[List.forIn_cons]
    simp only[beq_self_eq_true,if_true,ecell,pure_bind]
    exact e
   ·by_cases hx:(x==n)=true
    ·exact h2 x c (by rw[List.lookup_cons,hx])
    ·exact h2 x c' (by rw[List.lookup_cons,Bool.eq_false_iff.mpr hx];exact h)
   ·rcases List.mem_cons.mp hy with rfl |hy
    ·exact h2 n c (by rw[List.lookup_cons,beq_self_eq_true])
    ·exact h3 y hy hf
  ·obtain⟨cl,e,h1,h2,h3⟩:=de r acc (λy hy=>hc y (List.mem_cons_of_mem _ hy)) ha
   refine⟨cl,?_,h1,h2,λy hy hf=>?_⟩
   ·rw[List.forIn_cons]
    have:(k==NameKind.free)=false:=by simpa using hk
    simp only[this,Bool.false_eq_true,if_false,pure_bind]
    exact e
   ·rcases List.mem_cons.mp hy with rfl |hy
    ·exact absurd hf hk
    ·exact h3 y hy hf
noncomputable def jU (X:Cx)(scope:Scope)(cl:List (Str×Addr))(N':List Str)(C:Addr)(s3:Shared)(H3:Hp)(fp:List Addr):Cx:=
 { X with N:=N',s₀:=s3,H₀:=H3,env:=compEnvC scope cl C X.env,outer:=X.stack,ex:=fp,fn:=λ_=>false,pn:=[],xe:=λ_ _=>False }
theorem cH {env:Env}{x:Str}:∀ {names:List (Str×NameKind)}{k:NameKind},(names.map λ(n,k)=>if (k==NameKind.free&&env.scope.kind==.function&&env.kindOf n==some .cell) then (n,NameKind.cell) else (n,k)).lookup x=some k->(∀ y∈names,y.2≠.cell) ->
  (k = .cell∨k = .free)->(x,NameKind.free)∈names
 |[],_,h,_,_=>by simp at h
 |(n,k0)::r,k,h,nc,hk=>by
  rw[List.map_cons] at h
  by_cases hc:(k0==NameKind.free&&env.scope.kind==.function&&env.kindOf n==some .cell)=true
  ·simp only[hc,if_true,List.lookup_cons] at h
   cases hx:x==n with
   |true =>
    have e:x=n:=eq_of_beq hx
    subst e
    have:k0 = .free:=by simp at hc;exact hc.1.1
    subst this
    exact List.mem_cons_self ..
   |false =>
    rw[hx] at h
    exact List.mem_cons_of_mem _ (cH h (λy hy=>nc y (List.mem_cons_of_mem _ hy)) hk)
  ·simp only[hc,if_false,List.lookup_cons,Bool.false_eq_true] at h
   cases hx:x==n with
   |true =>
    rw[hx] at h
    have e:x=n:=eq_of_beq hx
    subst e
    cases h
    rcases hk with rfl |rfl
    ·exact absurd rfl (nc (x,.cell) (List.mem_cons_self ..))
    ·exact List.mem_cons_self ..
   |false =>
    rw[hx] at h
    exact List.mem_cons_of_mem _ (cH h (λy hy=>nc y (List.mem_cons_of_mem _ hy)) hk)
noncomputable def df {α:Type}(ts:Nat)(ix:List Nat)(σ:List (Option α)):List (Option α):=List.replicate ts none++ix.map λi=>(σ[i]?).getD none
noncomputable def hU (ts:List Str)(ix:List Nat)(N:List Str):List Str:=ts++ix.map λi=>N.getD i Str.empty
theorem ff {env:Env}{x:Str}:∀ {names:List (Str×NameKind)},names.lookup x=some .free ->
  (names.map λ(n,k)=>if (k==NameKind.free&&env.scope.kind==.function&&env.kindOf n==some .cell) then (n,NameKind.cell) else (n,k)).lookup x=some .cell ∨
  (names.map λ(n,k)=>if (k==NameKind.free&&env.scope.kind==.function&&env.kindOf n==some .cell) then (n,NameKind.cell) else (n,k)).lookup x=some .free
 |[],h=>by simp at h
 |(n,k0)::r,h=>by
  rw[List.map_cons]
  rw[List.lookup_cons] at h
  by_cases hc:(k0==NameKind.free&&env.scope.kind==.function&&env.kindOf n==some .cell)=true
  ·simp only[hc,if_true,List.lookup_cons]
   cases hx:x==n with
   |true=>exact .inl rfl
   |false=>rw[hx] at h;exact ff h
  ·simp only[hc,if_false,List.lookup_cons,Bool.false_eq_true]
   cases hx:x==n with
   |true=>rw[hx] at h;exact .inr h
   |false=>rw[hx] at h;exact ff h
theorem lookup_mem {x:Str}{k:NameKind}:∀ {names:List (Str×NameKind)},names.lookup x=some k->(x,k)∈names
 |[],h=>by simp at h
 |(n,k0)::r,h=>by
  rw[List.lookup_cons] at h
  cases hx:x==n with
  |true=>rw[hx] at h;cases h;rw[eq_of_beq hx];exact List.mem_cons_self ..
  |false=>rw[hx] at h;exact List.mem_cons_of_mem _ (lookup_mem h)
section
variable {X:Cx}{pins:List (Addr×Obj)}{σ:St}{H:Hp}{s:Shared}
theorem Inv.enter {scope:Scope}{cl:List (Str×Addr)}{ts:List Str}{ix:List Nat}{fp:List Addr}{s3:Shared}{h4:Heap}{H3:Hp}{m:Str->Option Value}{tk:Nat}(I:Inv X pins σ H3 s3)(S:InScope scope X.env)
  (h1:∀ x c,cl.lookup x=some c->X.env.cells.lookup x=some c) (h2:∀ y∈scope.names,y.2 = .free->∃ c,cl.lookup y.1=some c) (hcap:∀ t∈ix,scope.names.lookup (X.N.getD t Str.empty)=some .free)
  (f:∀ b∈fp,gD X pins H3 b) (fo:∀ b∈fp,∃ o,s3.heap.get? b=some o) (k:∀ b o,s3.heap.get? b=some o->h4.get? b=some o) (hn:h4.Ns s3.heap.objs.size m) :
  Inv (jU X scope cl (hU ts ix X.N) s3.heap.objs.size s3 H3 fp) [] (df ts.length ix σ) H3 { s3 with heap:=h4,toks:=tk }:=by
 refine⟨⟨I.ok.mod,S.kind,I.ok.glob,I.ok.blt,Nat.le_refl _,λx y c a b=>I.ok.inj x y c (h1 x c a) (h1 y c b),λx hx=>?_,(λx c a=>by cases a),I.ok.hd,I.ok.frames,.inl rfl,λb hb=>⟨?_,λx c e=>(f b hb).2.2.2.2.1 x c (h1 x c e)⟩,I.bs,Nat.le_trans I.ok.bsz I.sz,λb o e hb=>?_,λb hb z=>?_,I.stack,I.stkFree⟩,
  rfl,I.bare,Un.kept k,⟨m,hn,λi x v e1 e2 e3=>?_⟩,λx c e=>?_,I.fresh,λx c e=>I.freeC x c (h1 x c e),λp hp=>absurd (show p∈([]:List (Addr×Obj)) from hp) (by simp),I.hok.kept k,?_⟩
 ·have q:(x,NameKind.free)∈scope.names:=by
   rcases hx with z |z
   ·exact cH z S.nocell (.inl rfl)
   ·exact cH z S.nocell (.inr rfl)
  exact h2 _ q rfl
 ·obtain⟨o,ho⟩:=fo b hb
  exact Nat.ne_of_lt (Heap.lt_size ho)
 ·obtain⟨f0,_,_,f3,_⟩:=f b hb
  rcases f3 with z |z
  ·exact I.ok.noex b o e z
  ·exact absurd (Nat.lt_of_lt_of_le (Heap.lt_size e) (Nat.le_trans I.ok.bsz z)) (Nat.lt_irrefl _)
 ·obtain⟨f0,f1,f2,f3,_⟩:=f b hb
  rcases List.mem_cons.mp (I.stkSub b z) with e |e
  ·exact f1 e
  ·exact f2 e
 ·-- a captured name
  have e2':(df ts.length ix σ)[i]?=some (some v):=e2
  have e1':(hU ts ix X.N)[i]?=some x:=e1
  unfold df at e2'
  unfold hU at e1'
  by_cases hi:i<ts.length
  ·rw[List.getElem?_append_left (by simpa using hi),List.getElem?_replicate] at e2'
   rw[if_pos hi] at e2'
   cases e2'
  ·rw[List.getElem?_append_right (by simpa using hi)] at e2'
   rw[List.getElem?_append_right (by simpa using hi)] at e1'
   rw[List.length_replicate] at e2'
   rw[List.getElem?_map] at e2' e1'
   cases et:ix[i-ts.length]? with
   |none=>rw[et] at e2';cases e2'
   |some t =>
    rw[et] at e2' e1'
    simp only[Option.map_some,Option.some.injEq] at e2' e1'
    have hs : σ[t]?=some (some v):=by
     cases q : σ[t]? with
     |none=>rw[q] at e2';cases e2'
     |some w=>rw[q] at e2';simp only[Option.getD_some] at e2';rw[e2']
    have ht:t<X.N.length:=by rw[← I.len];exact (List.getElem?_eq_some_iff.mp hs).1
    have hN:X.N[t]?=some x:=by
     rw[List.getD_eq_getElem?_getD,List.getElem?_eq_getElem ht] at e1'
     rw[List.getElem?_eq_getElem ht]
     simp only[Option.getD_some] at e1'
     rw[e1']
    have hfree:scope.names.lookup x=some .free:=by
     have:=hcap t (List.mem_of_getElem? et)
     rwa [e1'] at this
    have hm:=lookup_mem hfree
    have kinds:=S.frees _ hm rfl
    obtain⟨m0,_,hl⟩:=I.loc
    obtain⟨u,r,l⟩:=hl t x v hN hs (by
     rcases kinds with z |z
     ·exact .inr (.inl z)
     ·exact .inr (.inr z))
    refine⟨u,r,.inr ⟨ff hfree,?_⟩⟩
    obtain⟨c,ec⟩:=h2 _ hm rfl
    have ec':=h1 x c ec
    rcases l with ⟨kl,_⟩ |⟨_,c',e',cell⟩
    ·have kl':X.env.kindOf x=some .local:=kl
     rcases kinds with z |z
     ·have z':X.env.kindOf x=some .cell:=z
      rw[kl'] at z';cases z'
     ·have z':X.env.kindOf x=some .free:=z
      rw[kl'] at z';cases z'
    ·rw[ec'] at e'
     cases e'
     exact⟨c,ec,cell.keeps k⟩
 ·obtain⟨v,o,ho,hd⟩:=I.cell x c (h1 x c e)
  exact⟨v,o,k c o ho,hd⟩
 ·show (df ts.length ix σ).length=(hU ts ix X.N).length
  unfold df hU
  simp
theorem Inv.leave {scope:Scope}{cl:List (Str×Addr)}{N':List Str}{σ':St}{fp:List Addr}{s3 s':Shared}{h':Heap}{H3 H':Hp}{pins':List (Addr×Obj)}(I:Inv X pins σ H3 s3)(f:∀ b∈fp,gD X pins H3 b)
  (I':Inv (jU X scope cl N' s3.heap.objs.size s3 H3 fp) pins' σ' H' s') (k:∀ b,b≠s3.heap.objs.size->h'.get? b=s'.heap.get? b):Inv X pins σ H' { s' with heap:=h' }:=by
 have un:Un (frs X.stack) fp H3 H' s3.heap s'.heap:=I'.base
 have nC:∀ b o,s3.heap.get? b=some o->b≠s3.heap.objs.size:=λb o e=>Nat.ne_of_lt (Heap.lt_size e)
 have un':Un (frs X.stack) fp H3 H' s3.heap h':=by
  refine⟨λb o e n hb hx=>?_,λb o e n hb hx=>?_,un.free,λb o e hx=>?_,un.tups,un.frzs,un.tbls⟩
  ·rw[k b (nC b o e)];exact un.keep b o e n hb hx
  ·rw[k b (nC b o e)];exact un.slot b o e n hb hx
  ·rw[k b (nC b o e)];exact un.there b o e hx
 have hok:HOk X.prog X.w H' h':=λb u e=>by
  have hC:H' s3.heap.objs.size=none:=I'.free
  have ne:∀ c v,H' c=some v->c≠s3.heap.objs.size:=λc v q z=>by rw[z,hC] at q;cases q
  refine (I'.hok b u e).stay (λc v hc q=>?_) (λ_ q=>q) λ_ _ q=>q
  rw[k c]
  ·exact q
  ·rcases hc with z |z
   ·rw[z];exact ne b u e
   ·exact ne c _ z
 have os:s'.os=s3.os:=I'.os
 exact I.call' (s':={ s' with heap:=h' }) os un' hok I'.bare λb hb=>let ⟨_,a,_,b',c,d⟩:=f b hb;⟨b',a,c,d⟩
end
section
variable {prog:Program}{w:World}{A:Around}{R:Result->Shared->Prop}{s:Shared}
theorem o4 {elt target iter:Expr}{ifs:List Expr}{scope:Scope}{pos:Pos}{it acc:Value}{env:Env}(I:Nat->Shared->Prop)
  (turn:∀ n s,I n s->wpAny (model prog w) A (pyNext it) (λr s₁=>match r with
   |none=>R (.ok .next) s₁
   |some v=>wpAny (model prog w) A (letOwnedTupleGo target it v) (λ_ s₁'=>wpAny (model prog w) A (assign target env v) (λ_ s₂ =>
     wpAny (model prog w) A (forIn ifs true λc r=>if r=true then do let ok ← isTrue c env (eval c env);pure (ForInStep.yield ok) else pure (ForInStep.yield r)) (λok s₃ =>
      if ok=true then wpAny (model prog w) A (eval elt env) (λx s₄ =>
       wpAny (model prog w) A (call (.builtin "list.append") [acc,x]) (λ_ s₅ => ∃ m,m<n/\I m s₅) (λ_ _=>False) s₄) (λ_ _=>False) s₃
      else ∃ m,m<n/\I m s₃) (λ_ _=>False) s₂) (λ_ _=>False) s₁') (λ_ _=>False) s₁) (λ_ _=>False) s)
  (n:Nat) (h:I n s):codeAny (model prog w) A (.compLoop (.ListComp elt [⟨target,iter,ifs,0⟩] scope pos) 0 it acc env) R s:=by
 have no:∀ {α:Type}{t:Sem α}{Q : α->Shared->Prop}{E:Value->Shared->Prop}{s:Shared},wpAny (model prog w) A t Q (λ_ _=>False) s->wpAny (model prog w) A t Q E s:=λh=>wpAny_mono h (λ_ _ q=>q) λ_ _ f=>f.elim
 refine codeAny_loop rfl I (λn s hI=>?_) n h
 show wpAny _ A ((compTurn (.ListComp elt [⟨target,iter,ifs,0⟩] scope pos) 0 it acc env).onRaise (λx=>do noteFrame x env;theTreesLotGoes x)) _ _ s
 refine wpAny_noted ?_
 rw[compTurn_list]
 refine wpAny_bind (wpAny_standAt (wpAny_bind (wpAny_mono (no (turn n s hI)) (λr s₁ h₁=>?_) λ_ _ h'=>h')))
 cases r with
 |none=>exact wpAny_pure h₁
 |some v =>
  refine wpAny_bind (wpAny_mono (no h₁) (λ_ s₁' h₁'=>?_) λ_ _ h'=>h')
  refine wpAny_bind (wpAny_mono (no h₁') (λ_ s₂ h₂=>wpAny_bind (wpAny_mono (no h₂) (λok s₃ h₃=>?_) λ_ _ h'=>h')) λ_ _ h'=>h')
  cases ok with
  |false=>exact wpAny_pure ⟨rfl,h₃⟩
  |true =>
   exact wpAny_bind (wpAny_bind (wpAny_mono (no h₃) (λx s₄ h₄=>wpAny_bind (wpAny_mono (no h₄) (λ_ s₅ h₅=>wpAny_pure (wpAny_pure ⟨rfl,h₅⟩)) λ_ _ h'=>h')) λ_ _ h'=>h'))
end
section
variable {X:Cx}{pins:List (Addr×Obj)}{σ:St}{H:Hp}{s:Shared}{D₀:Addr}
theorem Inv.adopt {ys:List V}{its:List Value}{n:Nat}(I:Inv X pins σ H s)(f:gD X pins H D₀)(e:s.heap.get? D₀=some { cls:=.type "list",data:=.seq its.toArray n })(r:Vals ys its)(hz:ys.length<=sizeLine):Inv X pins σ (upd H D₀ (.lst ys)) s:=by
 obtain⟨hn,f1,f2,f3,f4,f5⟩:=f
 have ne:∀ b o,H b=some o->b≠D₀:=λb o q=>aR q hn
 have q:=I.step (h':=s.heap) (H':=upd H D₀ (.lst ys)) (g':=s.gens) (d':=s.drawn) (t':=s.toks) (ch:=[D₀]) (λb hb=>by
   have:b=D₀:=by simpa using hb
   subst this
   exact⟨f3,f1,f4,f5⟩)
  (λb o _ _ _ e _=>e) (λb o _ _ _ e _=>⟨o.slots,e⟩) (λb o hb _ n'=>by rw[aA (λz=>hb (by simp[z]))];exact n') (λb o _ e=>⟨o,e⟩)
  (λb xs q=>by rw[aA (ne b _ q)];exact q) (λb o xs q=>by rw[aA (ne b _ q)];exact q) (λb ps q=>⟨#[],by rw[aA (ne b _ q),q];simp⟩) (λ_ hm=>hm) (λb u q=>?_) I.bare
 ·exact q
 ·by_cases hb:b=D₀
  ·subst hb
   rw[aX] at q
   cases q
   exact⟨hz,its,n,r,e⟩
  ·rw[aA hb] at q
   exact (I.hok b u q).stay (λc v _ z=>z) (λc z=>by rw[aA (ne c _ z)];exact z) λc xs z=>by rw[aA (ne c _ z)];exact z
end
def STs (X:Cx)(W:WT)(ifs:List Expr)(g:Rho->Sto->Out Bool):Prop:=
 ∀ (pins:List (Addr×Obj)) (s:Shared) (σ:St) (H:Hp) (Q:Bool->Hp->Prop),Inv X pins σ H s->tT X W g σ H Q ->
  wpAny (model X.prog X.w) X.A (forIn ifs true λc r=>if r=true then do let ok ← isTrue c X.env (eval c X.env);pure (ForInStep.yield ok) else pure (ForInStep.yield r)) (TP X pins σ Q) X.xe s
def ig:Rho->Sto->Out Bool:=λ_ S=>okO true S
theorem kH {X:Cx}{W:WT}:STs X W [] ig:=by
 intro pins s σ H Q I h
 rw[List.forIn_nil]
 exact wpAny_pure ⟨H,I,kJ h⟩
theorem sW {X:Cx}{W:WT}{c:Expr}{g:Rho->Sto->Out Bool}(hc:TS1 X W c g):STs X W [c] g:=by
 intro pins s σ H Q I h
 rw[List.forIn_cons]
 simp only[if_true,List.forIn_nil]
 refine wpAny_bind (wpAny_bind (thn (hc pins s σ H Q I h) λb s1 q=>wpAny_pure ?_))
 exact wpAny_pure q
noncomputable def okP {α:Type}(m:Out α):Option (α×Sto):=match m with
 |some (.ok a,S)=>some (a,S)
 |_=>none
def di (u:D->Rho->Option Rho)(gt:Rho->Sto->Out Bool)(fe:Rho->Sto->Out D):List D->Rho->Sto->Option (List D×Sto)
 |[],_,S=>some ([],S)
 |d::ds,ρ,S=>(u d ρ).bind λρ1=>(okP (gt ρ1 S)).bind λ(k,S1) =>
  if k=true then (okP (fe ρ1 S1)).bind λ(y,S2)=>(di u gt fe ds ρ1 S2).map λ(ys,S3)=>(y::ys,S3)
  else di u gt fe ds ρ1 S1
def ii (n:Nat)(ix:List Nat)(fi:Rho->Sto->Out (List D))(u:D->Rho->Option Rho)(gt:Rho->Sto->Out Bool)(fe:Rho->Sto->Out D):Rho->Sto->Out D:=λρ S=>ag (fi ρ S) λds S1 =>
 match di u gt fe ds (df n ix ρ) S1 with
 |some (out,S2)=>okO (.lst out) S2
 |none=>none
abbrev W0:WT:=λ_ _ _ _=>False
section
variable {X:Cx}{W:WT}
structure CompEnd (X:Cx) (pins:List (Addr×Obj)) (σ:St) (J0:List Addr) (H0:Hp) (S2:Sto) (out:List D) (a C:Addr) (s':Shared):Prop where
 ns:∃ m,s'.heap.Ns C m
 own:X.s₀.heap.objs.size<=C/\C≠X.env.locals/\(∀ x c,X.env.cells.lookup x=some c->c≠C)/\∀ p∈X.pn++pins,p.1≠C
 fin:∀ h',(∀ b,b≠C->h'.get? b=s'.heap.get? b)->∃ J' H',Inv X pins σ H' { s' with heap:=h' }/\Ex J0 H0 J' H'/\StoOk X.K J' S2 H'/\At X.K H' J' (.lst out) (.ref a)/\H' C=none
def sN (X':Cx)(tn:Nat->Heap->Prop)(fp:List Addr)(a:Addr)(u:D->Rho->Option Rho)(gt:Rho->Sto->Out Bool)(fe:Rho->Sto->Out D)(ds out:List D)(J0:List Addr)(H2:Hp)(S2:Sto)(n:Nat)(s':Shared):Prop:=
 ∃ (i:Nat) (σ':St) (H':Hp) (Jx:List Addr) (ρx:Rho) (Sx:Sto) (dn rest:List D) (ys:List V) (us:List Value) (ep:Nat),
  n=ds.length-i+1/\i<=ds.length/\Inv X' [] σ' H' s'/\tn i s'.heap/\(∀ b∈a::fp,H' b=none)/\Ex J0 H2 Jx H'/\Cf X' Jx ρx Sx σ' H' /\
  s'.heap.get? a=some { cls:=.type "list",data:=.seq us.toArray ep }/\Vals ys us/\Ats X'.K H' Jx dn ys/\dn.length<=i/\di u gt fe (ds.drop i) ρx Sx=some (rest,S2)/\out=dn++rest
theorem vi {X':Cx}{tg elt:Expr}{ifs:List Expr}{u:D->Rho->Option Rho}{gt:Rho->Sto->Out Bool}{fe:Rho->Sto->Out D}{it a:Addr}{fp:List Addr}{tn:Nat->Heap->Prop}{Jt:It}{ds out:List D}{J0:List Addr}{H2:Hp}{S2:Sto}{R:Result->Shared->Prop}
  (hx:X'.xe=λ_ _=>False) (hc:X'.calm=true) (sg:SG X' tg u) (st:STs X' W0 ifs gt) (se:SE X' W0 elt fe) (T:Turn X'.prog X'.w X'.K tg Jt fp it tn) (wk:Walk X' Jt ds J0 H2) (na:a∉fp) (hz:ds.length<=sizeLine)
  (fin:∀ (pins':List (Addr×Obj)) (H':Hp) (b:Addr),b∈a::fp->H' b=none->(∀ p∈pins',p.1≠b)->gD X' pins' H' b)
  (endR:∀ (s':Shared) (σ':St) (H':Hp) (Jx:List Addr) (ρx:Rho) (ys:List V) (us:List Value) (ep:Nat),Inv X' [] σ' H' s'->Ex J0 H2 Jx H'->Cf X' Jx ρx S2 σ' H'->H' a=none->s'.heap.get? a=some { cls:=.type "list",data:=.seq us.toArray ep }->Vals ys us->Ats X'.K H' Jx out ys->ys.length<=sizeLine->R (.ok .next) s') :
  ∀ n s,sN X' tn fp a u gt fe ds out J0 H2 S2 n s->wpAny (model X'.prog X'.w) X'.A (pyNext (.ref it)) (λr s₁=>match r with
   |none=>R (.ok .next) s₁
   |some v=>wpAny (model X'.prog X'.w) X'.A (letOwnedTupleGo tg (.ref it) v) (λ_ s₁'=>wpAny (model X'.prog X'.w) X'.A (assign tg X'.env v) (λ_ s₂ =>
     wpAny (model X'.prog X'.w) X'.A (forIn ifs true λc r=>if r=true then do let ok ← isTrue c X'.env (eval c X'.env);pure (ForInStep.yield ok) else pure (ForInStep.yield r)) (λok s₃ =>
      if ok=true then wpAny (model X'.prog X'.w) X'.A (eval elt X'.env) (λx s₄ =>
       wpAny (model X'.prog X'.w) X'.A (call (.builtin "list.append") [.ref a,x]) (λ_ s₅ => ∃ m,m<n/\sN X' tn fp a u gt fe ds out J0 H2 S2 m s₅) (λ_ _=>False) s₄) (λ_ _=>False) s₃
      else ∃ m,m<n/\sN X' tn fp a u gt fe ds out J0 H2 S2 m s₃) (λ_ _=>False) s₂) (λ_ _=>False) s₁') (λ_ _=>False) s₁) (λ_ _=>False) s:=by
 rintro n s ⟨i,σ',H',Jx,ρx,Sx,dn,rest,ys,us,ep,hn,hi,I',tni,fr,ex,cx,ga,vs,ad,dl,ec,eo⟩
 have fa:=fin [] H' a (List.mem_cons_self ..) (fr a (List.mem_cons_self ..)) (λp hp=>by simp at hp)
 have I1:Inv X' [(a,{ cls:=.type "list",data:=.seq us.toArray ep })] σ' H' s:=I'.pins_of λp hp=>by
  have:p=(a,{ cls:=.type "list",data:=.seq us.toArray ep }):=by simpa using hp
  subst this
  exact⟨ga,fa.1,fa.2.1,fa.2.2.1,λv z=>by cases z⟩
 have fp1:∀ H1:Hp,(∀ b∈fp,H1 b=none)->∀ b∈fp,gD X' [(a,{ cls:=.type "list",data:=.seq us.toArray ep })] H1 b:=λH1 hn b hb=>fin _ H1 b (List.mem_cons_of_mem _ hb) (hn b hb) λp hp=>by
  have:p=(a,{ cls:=.type "list",data:=.seq us.toArray ep }):=by simpa using hp
  subst this
  intro z
  have z':a=b:=z
  exact na (z'▸hb)
 by_cases hlt:i<ds.length
 ·refine thn (T.item X' rfl rfl rfl hc i _ s σ' H' (λ_ _=>False) I1 (fp1 H' λb hb=>fr b (List.mem_cons_of_mem _ hb)) tni (wk.go Jx H' i ex hlt)) λr s1 ⟨v,er,h1⟩=>?_
  subst er
  refine thn h1 λ_ s5 ⟨x,H5,I5,r5,y5,tn5,fr5⟩=>?_
  obtain⟨d,ed,ad5,sm⟩:=wk.yld Jx H' i x H5 ex cx.sto.all hlt y5
  have x5:Ex Jx H' Jx H5:=Ex.same sm
  have c5:Cf X' Jx ρx Sx σ' H5:=cx.re x5 (cx.sto.same sm)
  have hd:ds.drop i=d::ds.drop (i+1):=by
   rw[List.drop_eq_getElem_cons hlt]
   rw[List.getElem?_eq_getElem hlt] at ed
   cases ed;rfl
  rw[hd,di] at ec
  obtain⟨ρ1,eu,ec⟩:=Option.bind_eq_some_iff.mp ec
  obtain⟨⟨k,S1⟩,eg,ec⟩:=Option.bind_eq_some_iff.mp ec
  have eg':gt ρ1 Sx=some (.ok k,S1):=by
   unfold okP at eg
   split at eg
   ·rename_i q;cases eg;exact q
   ·cases eg
  have I5':=I5.pinned (fp1 H5 fr5) (T.obj _ _ tn5)
  have keep:∀ {σ6:St}{H6:Hp}{s6:Shared},Inv X' ([(a,{ cls:=.type "list",data:=.seq us.toArray ep })]++jF fp s5.heap) σ6 H6 s6->tn (i+1) s6.heap/\(∀ b∈a::fp,H6 b=none)/\s6.heap.get? a=some { cls:=.type "list",data:=.seq us.toArray ep }:=λ{σ6 H6 s6} I6=>by
   have pa:=I6.pin (a,{ cls:=.type "list",data:=.seq us.toArray ep }) (List.mem_append_right _ (List.mem_append_left _ (by simp)))
   refine⟨T.keep _ _ _ tn5 λb hb o e=>(I6.pin (b,o) (List.mem_append_right _ (List.mem_append_right _ (fj hb e)))).1,λb hb=>?_,pa.1⟩
   rcases List.mem_cons.mp hb with rfl |hb
   ·exact pa.2.1
   ·obtain⟨o,e,_⟩:=T.obj _ _ tn5 b hb
    exact (I6.pin (b,o) (List.mem_append_right _ (List.mem_append_right _ (fj hb e)))).2.1
  have nop:∀ {σ6:St}{H6:Hp}{s6:Shared},Inv X' ([(a,{ cls:=.type "list",data:=.seq us.toArray ep })]++jF fp s5.heap) σ6 H6 s6->Inv X' [] σ6 H6 s6:=λ{σ6 H6 s6} I6=>I6.pins_of λp hp=>absurd hp (by simp)
  have g:=sg _ s5 σ' H5 x v (λσ6 H6=>H6=H5/\Cf X' Jx ρ1 Sx σ6 H6) I5' r5 ⟨Jx,ρx,Sx,d,ρ1,c5,ad5,eu,λσ6 c6=>⟨rfl,c6⟩⟩
  rw[hx] at g
  refine thn g λ_ s6 ⟨σ6,H6,I6,eH,c6⟩=>?_
  subst eH
  have t:=st _ s6 σ6 H6 (λb H7=>b=k/\∃ J7,Ex Jx H6 J7 H7/\Cf X' J7 ρ1 S1 σ6 H7) I6 ⟨Jx,ρ1,Sx,.ok k,S1,c6,.nil,eg',λJ7 H7 b x7 s7 eb=>by
   cases eb
   exact⟨rfl,J7,x7,c6.re x7 s7⟩⟩
  rw[hx] at t
  refine thn t λb s7 ⟨H7,I7,eb,J7,x7,c7⟩=>?_
  subst eb
  have ex7:Ex J0 H2 J7 H7:=ex.trans (x5.trans x7)
  have ad7:Ats X'.K H7 J7 dn ys:=(ad.ex x5).ex x7
  cases b with
  |false =>
   rw[if_neg (by decide)]
   simp only[Bool.false_eq_true,if_false] at ec
   obtain⟨t8,fr8,g8⟩:=keep I7
   exact⟨ds.length-(i+1)+1,by omega,i+1,σ6,H7,J7,ρ1,S1,dn,rest,ys,us,ep,rfl,by omega,nop I7,t8,fr8,ex7,c7,g8,vs,ad7,by omega,ec,eo⟩
  |true =>
   rw[if_pos rfl]
   simp only[if_true] at ec
   obtain⟨⟨y,Sy⟩,ey,ec⟩:=Option.bind_eq_some_iff.mp ec
   obtain⟨⟨ry,S3⟩,ey2,ec⟩:=Option.map_eq_some_iff.mp ec
   have ey':fe ρ1 S1=some (.ok y,Sy):=by
    unfold okP at ey
    split at ey
    ·rename_i q;cases ey;exact q
    ·cases ey
   simp only[Prod.mk.injEq] at ec
   obtain⟨er,es⟩:=ec
   subst es er
   have t:=se _ s7 σ6 H7 (λw H8 => ∃ J8,Ex J7 H7 J8 H8/\Cf X' J8 ρ1 Sy σ6 H8/\At X'.K H8 J8 y w) I7 ⟨J7,ρ1,S1,.ok y,Sy,c7,.nil,ey',λJ8 H8 w x8 s8 aw=>⟨J8,x8,c7.re x8 s8,aw⟩⟩
   rw[hx] at t
   refine thn t λw s8 ⟨vw,H8,I8,rw8,J8,x8,c8,aw⟩=>?_
   obtain⟨t8,fr8,g8⟩:=keep I8
   have ad8:Ats X'.K H8 J8 dn ys:=ad7.ex x8
   have l1:=ad8.length
   have l2:=vs.length
   refine call_meets F.slot_list_append ⟨_,g8,rfl⟩ F.entry_list_append (F.args_list_append_2 _ _) (PySem.list_append a us.toArray ep w (by rw[List.size_toArray];omega)) ⟨g8,?_⟩
   have ga':=PySem.IsL.update g8 (·.push w)
   have fa8:=fin [] H8 a (List.mem_cons_self ..) (fr8 a (List.mem_cons_self ..)) (λp hp=>by simp at hp)
   have I9:Inv X' [] σ6 H8 { s8 with heap:=s8.heap.update a (Obj.mapSeq (·.push w)),toks:=s8.toks }:=(nop I8).turned (it:=a) (λb o hb e=>(Heap.get?_update_other s8.heap (Obj.mapSeq (·.push w)) (Ne.symm hb)).trans e) fa8.1 fa8.2.1 fa8.2.2.2.1 fa8.2.2.2.2.1 fa8.2.2.2.2.2
   refine⟨ds.length-(i+1)+1,by omega,i+1,σ6,H8,J8,ρ1,Sy,dn++[y],ry,ys++[vw],us++[w],_,rfl,by omega,I9,?_,fr8,ex7.trans x8,c8,by simpa using ga',vs.append (.cons rw8 .nil),ad8.append (.cons aw .nil),by rw[List.length_append,List.length_singleton];omega,ey2,by rw[eo];simp⟩
   exact T.keep _ _ _ t8 λb hb o e=>(Heap.get?_update_other s8.heap (Obj.mapSeq (·.push w)) (λz:a=b=>na (by rw[z];exact hb))).trans e
 ·refine thn (T.done X' rfl rfl rfl hc i _ s σ' H' (λ_ _=>False) I1 (fp1 H' λb hb=>fr b (List.mem_cons_of_mem _ hb)) tni (wk.stop Jx H' i ex (by omega))) λr s1 ⟨er,J1⟩=>?_
  subst er
  rw[List.drop_eq_nil_of_le (by omega),di] at ec
  cases ec
  rw[List.append_nil] at eo
  subst eo
  have l1:=ad.length
  have pa:=J1.pin (a,{ cls:=.type "list",data:=.seq us.toArray ep }) (List.mem_append_right _ (by simp))
  exact endR s1 σ' H' Jx ρx ys us ep (J1.pins_of λp hp=>absurd hp (by simp)) ex cx pa.2.1 pa.1 vs ad (by omega)
theorem vk {tg iter elt:Expr}{ifs:List Expr}{scope:Scope}{pos:Pos}{u:D->Rho->Option Rho}{gt:Rho->Sto->Out Bool}{fe:Rho->Sto->Out D}{ts:List Str}{ix:List Nat}{cl:List (Str×Addr)}
  {pins:List (Addr×Obj)}{σ:St}{s2:Shared}{E:Value->Shared->Prop}{it:Addr}{fp:List Addr}{tn:Nat->Heap->Prop}{Jt:It}{H2:Hp}{J0:List Addr}{ρ:Rho}{S1 S2:Sto}{ds out:List D}{RR:Value->Addr->Result->Shared->Prop}
  (hc:X.calm=true) (Sc:InScope scope X.env) (h1:∀ x c,cl.lookup x=some c->X.env.cells.lookup x=some c) (h2:∀ y∈scope.names,y.2 = .free->∃ c,cl.lookup y.1=some c) (hcap:∀ t∈ix,scope.names.lookup (X.N.getD t Str.empty)=some .free)
  (hin:∀ C s3 H3 fp,SG (jU X scope cl (hU ts ix X.N) C s3 H3 fp) tg u/\STs (jU X scope cl (hU ts ix X.N) C s3 H3 fp) W0 ifs gt/\SE (jU X scope cl (hU ts ix X.N) C s3 H3 fp) W0 elt fe)
  (I2:Inv X pins σ H2 s2) (T:Turn X.prog X.w X.K tg Jt fp it tn) (t0:tn 0 s2.heap) (f2:∀ b∈fp,gD X pins H2 b) (c2:Cf X J0 ρ S1 σ H2) (wk:Walk X Jt ds J0 H2)
  (ec:di u gt fe ds (df ts.length ix ρ) S1=some (out,S2))
  (hRR:∀ a C s',CompEnd X pins σ J0 H2 S2 out a C s'->RR (.ref a) C (.ok .next) s') :
  wpAny (model X.prog X.w) X.A (newList []) (λacc s₃=>wpAny (model X.prog X.w) X.A (newFunctionEnv scope X.env.globals cl [] X.env.qual none .none (some X.env)) (λcenv s₄ =>
   codeAny (model X.prog X.w) X.A (.compStart (.ListComp elt [⟨tg,iter,ifs,0⟩] scope pos) 0 (.ref it) acc { cenv with scope:=relabel scope X.env }) (RR acc cenv.locals) s₄) E s₃) E s2:=by
 refine wpAny_newObj_type (wpAny_newFunctionEnv Sc.nocell (by intro y hy;simp at hy) (λh4 hn4 hsb4=>?_) Sc.kind)
 dsimp only at hn4 hsb4 ⊢
 generalize hA:s2.heap.objs.size=a at *
 have k3:∀ b o,s2.heap.get? b=some o->(s2.heap.push { cls:=.type "list",dict:=none,data:=.seq ([]:List Value).toArray }).get? b=some o:=λb o e=>Heap.get?_push_of_some _ e
 obtain⟨s3,hs3⟩:∃ s3:Shared,s3={ s2 with heap:=s2.heap.push { cls:=.type "list",dict:=none,data:=.seq ([]:List Value).toArray } }:=⟨_,rfl⟩
 have I3:Inv X pins σ H2 s3:=by rw[hs3];exact I2.kept (t':=s2.toks) k3
 have hh3:s3.heap=s2.heap.push { cls:=.type "list",dict:=none,data:=.seq ([]:List Value).toArray }:=by rw[hs3]
 have sz3:s3.heap.objs.size=a+1:=by rw[hh3,Heap.size_push,hA]
 rw[← hh3] at hn4 hsb4
 have a3:s3.heap.get? a=some { cls:=.type "list",data:=.seq ([]:List Value).toArray }:=by rw[hh3,← hA];exact Heap.get?_push_size _ rfl
 have fa:gD X pins H2 a:=I2.fpOk (by rw[hA];exact Nat.le_refl _) (by rw[← hA];exact I2.fresh)
 have fobj:∀ b∈fp,∃ o,s2.heap.get? b=some o:=λb hb=>let ⟨o,e,_⟩:=T.obj 0 _ t0 b hb;⟨o,e⟩
 have na:a∉fp:=λhb=>by
  obtain⟨o,e⟩:=fobj a hb
  have:=Heap.lt_size e
  rw[hA] at this
  exact absurd this (Nat.lt_irrefl _)
 have f3:∀ b∈a::fp,gD X pins H2 b:=λb hb=>by
  rcases List.mem_cons.mp hb with rfl |hb
  ·exact fa
  ·exact f2 b hb
 have fo:∀ b∈a::fp,∃ o,s3.heap.get? b=some o:=λb hb=>by
  rcases List.mem_cons.mp hb with rfl |hb
  ·exact⟨_,a3⟩
  ·obtain⟨o,e⟩:=fobj b hb
   exact⟨o,by rw[hh3];exact k3 b o e⟩
 have k4:∀ b o,s3.heap.get? b=some o->h4.get? b=some o:=λb o e=>hsb4.extBut b o (Nat.ne_of_lt (Heap.lt_size e)) (Heap.get?_push_of_some _ e)
 have toks:∀ t,Inv (jU X scope cl (hU ts ix X.N) s3.heap.objs.size s3 H2 (a::fp)) [] (df ts.length ix σ) H2 { s3 with heap:=h4,toks:=t }:=λt=>I3.enter Sc h1 h2 hcap f3 fo k4 hn4
 obtain⟨sg,st,se⟩:=hin s3.heap.objs.size s3 H2 (a::fp)
 have fin:∀ (pins':List (Addr×Obj)) (H':Hp) (b:Addr),b∈a::fp->H' b=none->(∀ p∈pins',p.1≠b)->gD (jU X scope cl (hU ts ix X.N) s3.heap.objs.size s3 H2 (a::fp)) pins' H' b:=λpins' H' b hb hn hp=>by
  refine⟨hn,?_,λz=>?_,.inl hb,λx c e=>(f3 b hb).2.2.2.2.1 x c (h1 x c e),λp hq=>hp p hq⟩
  ·obtain⟨o,e⟩:=fo b hb
   exact Nat.ne_of_lt (Heap.lt_size e)
  ·obtain⟨_,f1,f2',_⟩:=f3 b hb
   rcases List.mem_cons.mp (I3.stkSub b z) with q |q
   ·exact f1 q
   ·exact f2' q
 have own:X.s₀.heap.objs.size<=s3.heap.objs.size/\s3.heap.objs.size≠X.env.locals/\(∀ x c,X.env.cells.lookup x=some c->c≠s3.heap.objs.size)/\∀ p∈X.pn++pins,p.1≠s3.heap.objs.size:=by
  obtain⟨_,g1,g2,g3,g4,g5⟩:=I3.fpOk (H':=λ_=>none) (Nat.le_refl s3.heap.objs.size) rfl
  exact⟨I3.sz,g1,g4,g5⟩
 have c3:Cf (jU X scope cl (hU ts ix X.N) s3.heap.objs.size s3 H2 (a::fp)) J0 (df ts.length ix ρ) S1 (df ts.length ix σ) H2:=by
  refine⟨by unfold df;simp,λi d h=>?_,c2.sto⟩
  unfold df at h ⊢
  by_cases hi:i<ts.length
  ·rw[List.getElem?_append_left (by simpa using hi),List.getElem?_replicate,if_pos hi] at h
   cases h
  ·rw[List.getElem?_append_right (by simpa using hi),List.length_replicate,List.getElem?_map] at h ⊢
   cases et:ix[i-ts.length]? with
   |none=>rw[et] at h;cases h
   |some t =>
    rw[et] at h
    simp only[Option.map_some,Option.some.injEq] at h ⊢
    have hr : ρ[t]?=some (some d):=by
     cases q : ρ[t]? with
     |none=>rw[q] at h;cases h
     |some w=>rw[q] at h;simp only[Option.getD_some] at h;rw[h]
    obtain⟨v,e1,e2⟩:=c2.env t d hr
    exact⟨v,by rw[e1];rfl,e2⟩
 have w3:Walk (jU X scope cl (hU ts ix X.N) s3.heap.objs.size s3 H2 (a::fp)) Jt ds J0 H2:=⟨wk.len,wk.go,wk.yld,wk.stop⟩
 have loop:∀ t,codeAny (model X.prog X.w) X.A (.compLoop (.ListComp elt [⟨tg,iter,ifs,0⟩] scope pos) 0 (.ref it) (.ref a) (compEnvC scope cl s3.heap.objs.size X.env)) (RR (.ref a) s3.heap.objs.size) { s3 with heap:=h4,toks:=t }:=by
  intro t
  refine o4 _ (vi (R:=RR (.ref a) s3.heap.objs.size) (S2:=S2) (out:=out) (X':=jU X scope cl (hU ts ix X.N) s3.heap.objs.size s3 H2 (a::fp)) rfl hc sg st se T w3 na wk.len fin ?_) (ds.length+1) ?_
  ·intro s' σ' H' Jx ρx ys us ep I' ex cx ha ga vs ad lz
   refine hRR a s3.heap.objs.size s' ⟨let ⟨m,hm,_⟩:=I'.loc;⟨m,hm⟩,own,λh' k=>?_⟩
   have I4:=I3.leave f3 I' k
   have ga':h'.get? a=some { cls:=.type "list",data:=.seq us.toArray ep }:=by
    rw[k a (by rw[sz3];exact Nat.ne_of_lt (Nat.lt_succ_self _))];exact ga
   have fa':gD X pins H' a:=⟨ha,fa.2⟩
   have I5:=I4.adopt fa' ga' vs lz
   have sm:Same H' (upd H' a (.lst ys)):=aP ha _
   have hC:H' s3.heap.objs.size=none:=I'.free
   refine⟨Jx,_,I5,ex.trans (Ex.same sm),cx.sto.same sm,At.newLst ad ha cx.sto.all lz,?_⟩
   rw[aA (by rw[sz3];exact Nat.ne_of_gt (Nat.lt_succ_self _))]
   exact hC
  ·refine⟨0,_,H2,J0,df ts.length ix ρ,S1,[],out,[],[],0,rfl,Nat.zero_le _,toks t,?_,λb hb=>(f3 b hb).1,Ex.refl,c3,k4 a _ a3,.nil,.nil,Nat.le_refl _,by simpa using ec,rfl⟩
   exact T.keep 0 _ _ t0 λb hb o e=>k4 b o (by rw[hh3];exact k3 b o e)
 have L:=loop (s2.toks+([]:List (Str×Value)).length)
 have t4:tn 0 h4:=T.keep 0 _ _ t0 λb hb o e=>k4 b o (by rw[hh3];exact k3 b o e)
 rw[hs3] at L
 exact codeAny_compStart_list L (T.self _ 0 _ _ _ t4 L)
def Db (X:Cx)(scope:Scope)(ts:List Str)(ix:List Nat)(tg:Expr)(ifs:List Expr)(elt:Expr)(u:D->Rho->Option Rho)(gt:Rho->Sto->Out Bool)(fe:Rho->Sto->Out D):Prop:=
 ∀ (cl:List (Str×Addr)) (C:Addr) (s3:Shared) (H3:Hp) (fp:List Addr),SG (jU X scope cl (hU ts ix X.N) C s3 H3 fp) tg u/\STs (jU X scope cl (hU ts ix X.N) C s3 H3 fp) W0 ifs gt/\SE (jU X scope cl (hU ts ix X.N) C s3 H3 fp) W0 elt fe
theorem sd {scope:Scope}{pins:List (Addr×Obj)}{σ:St}{H:Hp}{s:Shared}(I:Inv X pins σ H s)(Sc:InScope scope X.env):∃ cl,closureFor scope X.env=pure cl/\(∀ x c,cl.lookup x=some c->X.env.cells.lookup x=some c)/\(∀ y∈scope.names,y.2 = .free->∃ c,cl.lookup y.1=some c):=by
 obtain⟨cl,e,h1,_,h3⟩:=de (env:=X.env) scope.names [] (λy hy hf=>I.ok.has y.1 (Sc.frees y hy hf)) (by simp)
 refine⟨cl,?_,h1,h3⟩
 unfold closureFor
 exact (congrArg (λ(m:Sem (List (Str×Addr)))=>m >>= λr=>(pure r:Sem (List (Str×Addr)))) e).trans rfl
theorem vj {fi:Rho->Sto->Out (List D)}{u:D->Rho->Option Rho}{gt:Rho->Sto->Out Bool}{fe:Rho->Sto->Out D}{n:Nat}{ix:List Nat}{σ:St}{H:Hp}{Q:VK}(h:tE X W (ii n ix fi u gt fe) σ H Q) :
  iW X W fi σ H λJt H0 => ∃ J0 ρ S1 S2 ds out,Cf X J0 ρ S1 σ H0/\Walk X Jt ds J0 H0/\di u gt fe ds (df n ix ρ) S1=some (out,S2)/\∀ J' H' v,Ex J0 H0 J' H'->StoOk X.K J' S2 H'->At X.K H' J' (.lst out) v->Q v H':=by
 obtain⟨J,ρ,S,r,S',c,_,e,z⟩:=h
 unfold ii at e
 cases q:fi ρ S with
 |none=>simp[q] at e
 |some o =>
  obtain⟨ro,S1⟩:=o
  simp only[q] at e
  cases ro with
  |error x =>
   cases e
   exact⟨J,ρ,S,.error x,_,c,q,z⟩
  |ok ds =>
   simp only[iH] at e
   cases qc:di u gt fe ds (df n ix ρ) S1 with
   |none=>rw[qc] at e;cases e
   |some p =>
    obtain⟨out,S2⟩:=p
    rw[qc] at e
    cases e
    exact⟨J,ρ,S,.ok ds,S1,c,q,λJ0 H0 Jt x0 s0 w=>⟨J0,ρ,S1,_,ds,out,c.re x0 s0,w,qc,λJ' H' v x' s' m'=>z J' H' v (x0.trans x') s' m'⟩⟩
theorem gL {tg iter elt:Expr}{ifs:List Expr}{scope:Scope}{pos:Pos}{fi:Rho->Sto->Out (List D)}{u:D->Rho->Option Rho}{gt:Rho->Sto->Out Bool}{fe:Rho->Sto->Out D}{ts:List Str}{ix:List Nat}
  (hc:X.calm=true) (Sc:InScope scope X.env) (hcap:∀ t∈ix,scope.names.lookup (X.N.getD t Str.empty)=some .free) (hi:SI X W tg iter fi) (hin:Db X scope ts ix tg ifs elt u gt fe)
  (hs:∀ x,foldedSetIterable iter X.env x=pure x:=by intro _;rfl):SE X W (.ListComp elt [⟨tg,iter,ifs,0⟩] scope pos) (ii ts.length ix fi u gt fe):=by
 intro pins s σ H Q I h
 obtain⟨cl,hcl,h1,h2⟩:=sd I Sc
 rw[eval_ListComp]
 refine wpAny_comprehension_free (use:=none) rfl hs hcl Sc.kind Sc.names ?_
 refine thn (hi pins s σ H _ I (vj h)) λv s1 h1'=>thn h1' λitv s2 h2'=>?_
 obtain⟨it,fp,tn,Jt,H2,e,I2,T,t0,f2,J0,ρ,S1,S2,ds,out,c2,wk,ec,fin⟩:=h2'
 subst e
 refine vk hc Sc h1 h2 hcap (λC s3 H3 fp=>hin cl C s3 H3 fp) I2 T t0 f2 c2 wk ec λa C s' ce=>?_
 obtain⟨m,hm⟩:=ce.ns
 refine⟨m,hm,λh' sb=>?_⟩
 obtain⟨J',H',I',x',s',m',_⟩:=ce.fin h' λb hb=>sb.2 b hb
 exact⟨.ref a,H',I',rfl,fin J' H' _ x' s' m'⟩
end
section
variable {X:Cx}{W:WT}
def spD (K:PySem.W.Frag)(F:List D->Sto->Out D):Sp:=λvs H Q _ => ∃ J S ds d S',Ats K H J ds vs/\StoOk K J S H/\F ds S=some (.ok d,S')/\∀ J' H' v,Ex J H J' H'->StoOk K J' S' H'->At K H' J' d v->Q v H'
def FnD (P:Program)(w:World)(K:PySem.W.Frag)(mg:Str->Option Value)(base:Heap)(k:Nat)(f:Addr)(fd:FuncData)(ps:List Str)(F:List D->Sto->Out D):Prop:=
 FnOk P w K mg base CX0 k f fd ps (spD K F)
noncomputable def fD (m:Out D):Out D:=match m with
 |some (.ok d,S)=>some (.ok d,S)
 |_=>none
def bp (F:List D->Sto->Out D)(t:Rho->Sto->Out (List D)):Rho->Sto->Out D:=λρ S=>ag (t ρ S) λds S1=>fD (F ds S1)
variable {x:Str}{p pos:Pos}{e:Expr}{es:List Expr}{gs:Rho->Sto->Out (List D)}
theorem xf {F:List D->Sto->Out D}{σ:St}{H:Hp}{Q:VK}{Ex':XK}(h:tE X W (bp F gs) σ H Q):vG (spD X.K F) [] Ex' (tA X W gs) σ H Q:=
 (tG.bindA h).mono λus H1 ⟨ds,hl,h1⟩=>by
  rw[List.append_nil,List.append_nil] at h1
  obtain⟨J,ρ,S,r,S',c,m,e,z⟩:=h1
  have e:fD (F ds S)=some (r,S'):=e
  unfold fD at e
  split at e
  ·rename_i d S2 q
   cases e
   exact⟨J,S,ds,d,_,by rw[List.append_nil];exact m,c.sto,q,λJ' H' v x' s' m'=>z J' H' v x' s' m'⟩
  ·cases e
theorem yl {k:Nat}{f:Addr}{fd:FuncData}{ps:List Str}{F:List D->Sto->Out D}(G:FnD X.prog X.w X.K X.mg X.base k f fd ps F)(hr:Room k X.A)(hm:X.mg x=some (.ref f))(hk:PySem.W.keepIn X.K (.ref f)=true)(hb:Binds X.K fd ps [])
  (ha:SA X W (e::es) gs) (hg:Gl X x:=by rfl) (hdb:(x==("__debug__":Str))=false:=by decide) (he:starEach (e::es) X.env=(false,eval e X.env)::starEach es X.env:=by rfl) (hpl:(backTo pos (starEach es X.env)).any (·.1)=false:=by rfl) :
  SE X W (.Call (.Name x p) (e::es) [] pos) (bp F gs):=
 PE.imp (tD (E:=E0) G hr hg hm hk hb .nil tI ha hdb he hpl) λσ H Q h=>xf h
theorem tX {P:Program}{w:World}{K:PySem.W.Frag}{mg:Str->Option Value}{base:Heap}{x qual:Str}{st:Stmt}{f:Addr}{fd:FuncData}{N ps:List Str}{k:Nat}{F:List D->Sto->Out D}(Fn:Fun K x qual st f fd)(S:FnScope N ps (ar st))
  (len:∀ ds S r,F ds S=some r->ds.length=ps.length)
  (hbody:∀ (cdv:Value) (A:Around) (outer:List Env) (s:Shared) (H:Hp) (E:XK),Room k (A.deeper (envOfC qual (ar st) s.heap.objs.size f cdv)) ->
   ∃ G:Rho->Sto->Out Fl,SSs (cT CX0 P w K mg base N qual (ar st) f cdv A outer s H E).nox W0 (aW st) G /\
    ∀ ds S d S',F ds S=some (.ok d,S')->∃ r,G (ds.map some++List.replicate (N.length-ds.length) none) S=some (.ok r,S')/\(r = .ret d∨(d = .non/\∃ ρ,r = .next ρ))) :
  FnD P w K mg base (k+1) f fd ps F:=by
 refine Fn.ok S (λvs H Q E h=>?_) (λcdv A outer s H vs Q E hr h=>?_)
 ·obtain⟨J,St,ds,d,S',m,_,e,_⟩:=h
  rw[← m.length];exact len ds St _ e
 ·obtain⟨J,St,ds,d,S',m,so,e,z⟩:=h
  obtain⟨G,hG,hF⟩:=hbody cdv A outer s H E hr
  obtain⟨r,eG,er⟩:=hF ds St d S' e
  refine⟨_,hG,J,_,St,.ok r,S',⟨?_,λi d' hd=>?_,so⟩,eG,?_⟩
  ·unfold start
   rw[List.length_append,List.length_append,List.length_map,List.length_map,m.length]
   simp
  ·by_cases hi:i<ds.length
   ·rw[List.getElem?_append_left (by simpa using hi),List.getElem?_map] at hd
    cases q:ds[i]? with
    |none=>rw[q] at hd;cases hd
    |some d0 =>
     rw[q] at hd
     cases hd
     obtain⟨v,ev,av⟩:=m.get q
     refine⟨v,?_,av⟩
     unfold start
     rw[List.getElem?_append_left (by rw[List.length_map,← m.length];exact hi),List.getElem?_map,ev]
     rfl
   ·rw[List.getElem?_append_right (by simpa using hi),List.getElem?_replicate] at hd
    split at hd<;>cases hd
  ·rcases er with rfl |⟨rfl,ρ,rfl⟩
   ·exact λJ' H' v x' s' a'=>z J' H' v x' s' a'
   ·exact λJ' σ' H' x' c'=>z J' H' _ x' c'.sto (At.non_iff.mpr rfl)
end
section
variable {X:Cx}{W:WT}
noncomputable def Its (x:Str):It:=⟨λi _=>i<x.cps.size,λi H v H'=>H'=H/\∃ c,x.cps[i]?=some c/\v = .str ⟨#[c]⟩,λi _=>x.cps.size<=i⟩
theorem pH {P:Program}{w:World}{K:PySem.W.Frag}{tg:Expr}{it:Addr}{x:Str}{St:Nat->Heap->Prop}
  (hself:∀ (A:Around) (i:Nat) (s:Shared) (Q:Value->Shared->Prop) (E:Value->Shared->Prop),St i s.heap->Q (.ref it) s->wpAny (model P w) A (pyIter (.ref it)) Q E s) (Wk:∀ A':Around,A'.handled=none->Walks P w A' it [it] [it] x.cps.size (SignAt x) St) (hob:∀ i h,St i h->∃ o n vs,h.get? it=some o/\o.cls = .type n/\o.data = .fields vs/\["enumerate","zip","dict_itemiterator","dict_reverseitemiterator","odict_iterator","itertools.zip_longest","itertools.pairwise"].contains n=false) :
  Turn P w K tg (Its x) [it] it (λi h=>i<=x.cps.size/\St i h) where
 mem:=by simp
 obj:=λi h st b hb=>by
  have e:b=it:=by simpa using hb
  subst e
  obtain⟨o,n,vs,e,_,d,_⟩:=hob i h st.2
  exact⟨o,e,λv z=>by rw[d] at z;cases z⟩
 keep:=λi h h' st k=>⟨st.1,(Wk callerA rfl).frame i h h' st.2 λb hb o e=>k b hb o e⟩
 item:=by
  intro X hP hw hK hc i pins s σ H E I hf st hg
  subst hP hw hK
  obtain⟨f0,f1,f2,f3,f4,f5⟩:=hf it (by simp)
  refine (Wk X.A (I.ok.hd hc)).item i s _ _ hg st.2 λv h' tk sg st' k=>?_
  obtain⟨c,u,ec,ev⟩:=sg
  subst ev
  have I1:Inv X pins σ H { s with heap:=h',toks:=tk }:=I.turned (t':=tk) (λb o hb e=>k b o (by simpa using hb) e) f0 f1 f3 f4 f5
  obtain⟨o,n,vs,e,cc,d,hn⟩:=hob _ _ st'
  exact⟨_,rfl,tV (s:={ s with heap:=h',toks:=tk }) e cc d hn ⟨.str ⟨#[c]⟩,H,I1,⟨u,rfl⟩,⟨rfl,c,ec,rfl⟩,⟨hg,st'⟩,λb hb=>(hf b hb).1⟩⟩
 done:=by
  intro X hP hw hK hc i pins s σ H E I hf st hg
  subst hP hw hK
  obtain⟨f0,f1,f2,f3,f4,f5⟩:=hf it (by simp)
  have ei:i=x.cps.size:=Nat.le_antisymm st.1 hg
  subst ei
  exact (Wk X.A (I.ok.hd hc)).done s _ _ st.2 λh' tk k=>⟨rfl,I.turned (t':=tk) (λb o hb e=>k b o (by simpa using hb) e) f0 f1 f3 f4 f5⟩
 self:=λA i s Q E st h=>hself A i s Q E st.2 h
theorem Walk.str {x:Str}{J:List Addr}{H:Hp}(ok:okS x):Walk X (Its x) (x.cps.toList.map λc=>D.str ⟨#[c]⟩) J H where
 len:=by rw[List.length_map,Array.length_toList];exact ok.1
 go:=λJ1 H1 i _ hi=>by rw[List.length_map,Array.length_toList] at hi;exact hi
 yld:=λJ1 H1 i v H' _ hJ hi y=>by
  obtain⟨rfl,c,ec,rfl⟩:=y
  rw[List.length_map,Array.length_toList] at hi
  have ec':x.cps.toList[i]?=some c:=by simpa using ec
  refine⟨.str ⟨#[c]⟩,by rw[List.getElem?_map,ec'];rfl,At.str_iff.mpr ⟨rfl,by show 1<=sizeLine;decide,i6 (l:=[c]) λc' m=>?_⟩,Same.refl _⟩
  rw[List.mem_singleton.mp m]
  exact gH ok.2 (List.mem_of_getElem? ec')
 stop:=λJ1 H1 i _ hi=>by rw[List.length_map,Array.length_toList] at hi;exact hi
noncomputable def z5:D->Option (List D)
 | .str x=>some (x.cps.toList.map λc=>D.str ⟨#[c]⟩)
 |_=>none
def xr (f:Rho->Sto->Out D):Rho->Sto->Out (List D):=λρ S=>ag (f ρ S) λd S1=>aG (z5 d) S1
variable {e:Expr}{fe:Rho->Sto->Out D}{pos:Pos}
theorem z7 {tg:Expr}(he:SE X W e fe):SI X W tg e (xr fe):=by
 intro pins s σ H R I h
 refine thn (he pins s σ H _ I (oO h)) λv s1 ⟨y,H1,I1,r1,J,S,d,ds,so,m,hk,z⟩=>?_
 cases d with
 |str x =>
  cases hk
  obtain⟨ey,ok⟩:=At.str_iff.mp m
  subst ey
  obtain⟨t,rfl⟩:=r1
  have fp:∀ b∈[s1.heap.objs.size],gD X pins H1 b:=λb hb=>by
   have e:b=s1.heap.objs.size:=by simpa using hb
   subst e
   exact I1.fpOk (Nat.le_refl _) I1.fresh
  cases ha:x.cps.all (·<128)
  ·refine wpAny_pyIter_wide ha ?_
   refine⟨s1.heap.objs.size,[s1.heap.objs.size],_,Its x,H1,rfl,I1.kept (t':=s1.toks) λb o e=>Heap.get?_push_of_some _ e,pH (St:=λi h=>h.IsStrIter s1.heap.objs.size "str_iterator" x t i) (λA i s Q E st q=>wpAny_pyIter_striter_wide st q) (λA' hA=>Walks.strWide hA _ x t) (λi h st=>?_),⟨Nat.zero_le _,_,Heap.get?_push_size _ rfl,rfl,rfl⟩,fp,z H1 _ (Same.refl _) (Walk.str ok)⟩
   obtain⟨o,ho,hc,hd⟩:=st
   exact⟨o,_,_,ho,hc,hd,by decide⟩
  ·refine wpAny_pyIter_ascii ha ?_
   refine⟨s1.heap.objs.size,[s1.heap.objs.size],_,Its x,H1,rfl,I1.kept (t':=s1.toks) λb o e=>Heap.get?_push_of_some _ e,pH (St:=λi h=>h.IsStrIter s1.heap.objs.size "str_ascii_iterator" x t i) (λA i s Q E st q=>wpAny_pyIter_striter_ascii st q) (λA' hA=>Walks.strAscii hA _ x t) (λi h st=>?_),⟨Nat.zero_le _,_,Heap.get?_push_size _ rfl,rfl,rfl⟩,fp,z H1 _ (Same.refl _) (Walk.str ok)⟩
   obtain⟨o,ho,hc,hd⟩:=st
   exact⟨o,_,_,ho,hc,hd,by decide⟩
 |_=>cases hk
theorem jd {prog:Program}{w:World}{A:Around}{E:Value->Shared->Prop}{s:Shared}{it l:Addr}{i:Nat}{items}{x:Value}{Q:Value->Shared->Prop}(hit:s.heap.IsTupleIter it l i)
  (hl:s.heap.IsTuple l items) (hx:items[i]?=some x)
  (hQ:∀ h',h'.IsTupleIter it l (i+1)->Heap.SameBut it s.heap h'->Q x { s with heap:=h' }) :
  wpAny (model prog w) A (Builtin.SmallTypes.nextOf (.ref it)) Q E s:=by
 obtain⟨o,ho,hc,hd⟩:=id hit
 obtain⟨ol,hol,_,nl,hdl⟩:=hl
 unfold Builtin.SmallTypes.nextOf
 refine wpAny_bind (wpAny_callSpecial?_slot (name:=Str.ofString "__next__") hit.typeIs F.slot_tuple_iterator_next
  (wpAny_call_entry F.slot_tuple_iterator_next hit.typeIs F.entry_tuple_iterator_next ?_ (F.args_tuple_iterator_next_1 _)))
 show wpAny _ _ (field (.ref it) 0 >>= _) _ _ s
 refine wpAny_bind (wpAny_field ho hd (x:=.ref l) rfl ?_)
 show wpAny _ _ (if (Value.ref l==Value.none)=true then _ else _) _ _ s
 rw[if_neg (show ¬ ((Value.ref l==Value.none)=true) from Bool.false_ne_true)]
 show wpAny _ _ (field (.ref it) 1 >>= _) _ _ s
 refine wpAny_bind (wpAny_field ho hd (x:=.int i 0) rfl ?_)
 show wpAny _ _ (seqItems? (.ref l) >>= _) _ _ s
 refine wpAny_bind (wpAny_seqItems hol hdl ?_)
 simp only[Int.toNat_natCast,hx]
 refine wpAny_bind (wpAny_setField ho hd (by simp) (wpAny_pure ⟨x,rfl,wpAny_pure (hQ _ ?_ (Heap.SameBut.update ..))⟩))
 exact⟨_,Heap.get?_update_self _ ho (Obj.isFreed_of_fields (Obj.data_mapFields hd _)),(Obj.cls_mapFields ..).trans hc,by
  rw[Obj.data_mapFields hd];simp[rawInt]⟩
theorem eO {prog:Program}{w:World}{A:Around}{E:Value->Shared->Prop}{s:Shared}{it l:Addr}{i:Nat}{items}{Q:Value->Shared->Prop}(hh:A.handled=none)
  (hit:s.heap.IsTupleIter it l i) (hl:s.heap.IsTuple l items) (hx:items[i]?=none)
  (hE:∀ h' e,Heap.ExtBut it s.heap h'->(∃ o,h'.get? e=some o/\o.cls = .type "StopIteration")->E (.ref e) { s with heap:=h' }) :
  wpAny (model prog w) A (Builtin.SmallTypes.nextOf (.ref it)) Q E s:=by
 obtain⟨o,ho,hc,hd⟩:=id hit
 obtain⟨ol,hol,_,nl,hdl⟩:=hl
 unfold Builtin.SmallTypes.nextOf
 refine wpAny_bind (wpAny_callSpecial?_slot (name:=Str.ofString "__next__") hit.typeIs F.slot_tuple_iterator_next
  (wpAny_call_entry F.slot_tuple_iterator_next hit.typeIs F.entry_tuple_iterator_next ?_ (F.args_tuple_iterator_next_1 _)))
 show wpAny _ _ (field (.ref it) 0 >>= _) _ _ s
 refine wpAny_bind (wpAny_field ho hd (x:=.ref l) rfl ?_)
 show wpAny _ _ (if (Value.ref l==Value.none)=true then _ else _) _ _ s
 rw[if_neg (show ¬ ((Value.ref l==Value.none)=true) from Bool.false_ne_true)]
 show wpAny _ _ (field (.ref it) 1 >>= _) _ _ s
 refine wpAny_bind (wpAny_field ho hd (x:=.int i 0) rfl ?_)
 show wpAny _ _ (seqItems? (.ref l) >>= _) _ _ s
 refine wpAny_bind (wpAny_seqItems hol hdl ?_)
 simp only[Int.toNat_natCast,hx]
 refine wpAny_bind (wpAny_rule (wpAny_bind (wpAny_setField ho hd (by simp) ?_)))
 show wpAny _ _ (newExc (.type "StopIteration") [] >>= _) _ _ _
 refine wpAny_bind ?_
 simp only[newExc,newTuple]
 refine wpAny_bind (wpAny_newObj_type ?_ (by size_fits))
 refine wpAny_bind (m:=firstArgMember _ _) (wpAny_of_eq (a:=Value.none) (by first |rfl |(simp only[firstArgMember];rfl)) ?_)
 refine wpAny_newObj_type ?_ (by size_fits)
 simp only[raiseNew]
 refine wpAny_bind (wpAny_handled ?_)
 first |rw[show A.in1.handled=none from hh] |rw[hh]
 refine wpAny_bind (wpAny_pure (wpAny_throw ?_))
 exact hE _ _ (((Heap.SameBut.update ..).extBut.push _).push _) ⟨_,Heap.get?_push_size _ rfl,rfl⟩
theorem Draws.tup {prog:Program}{w:World}{A:Around}(hh:A.handled=none)(it l:Addr)(hne:l≠it)(items:Array Value) :
  Draws prog w A it [it,l] items.size (λi v=>items[i]?=some v) (λi h=>h.IsTupleIter it l i/\h.IsTuple l items) where
 live:=λ_ _ st=>let ⟨o,ho,_⟩:=st.1;⟨o,ho⟩
 frame:=λ_ _ _ st hk=>⟨let ⟨o,ho,r⟩:=st.1;⟨o,hk it (by simp) o ho,r⟩,let ⟨o,ho,r⟩:=st.2;⟨o,hk l (by simp) o ho,r⟩⟩
 item:=λi s Q E hi st hQ=>by
  refine jd st.1 st.2 (x:=items[i]) (by simp[hi]) λh' hit' hs'=>?_
  exact hQ _ h' s.toks (by simp[hi]) ⟨hit',st.2.extBut hs'.extBut hne⟩ hs'
 done:=λs Q E st hE=>eO hh st.1 st.2 (by simp) hE
theorem lJ (l:Addr)(items:Array Value)(n:Nat)(dct:Option Addr)(sl:Array (Option Value)) :
  Meets (Builtin.«enumerate.__new__» ⟨[.type "enumerate",.ref l],[]⟩) (λ_ R s=>s.heap.get? l=some { cls:=.type "tuple",dict:=dct,data:=.seq items n,slots:=sl } /\
   R (.ok (.ret (.ref (s.heap.push { cls:=.type "tuple_iterator",data:=.fields #[.ref l,.int 0 0] }).objs.size)))
    { s with heap:=(s.heap.push { cls:=.type "tuple_iterator",data:=.fields #[.ref l,.int 0 0] }).push { cls:=.type "enumerate",data:=.fields #[.none,.bool false,.ref s.heap.objs.size,rawInt 0,.none,.none] } }):=
 .of_wp λprog w A R s h=>by
  obtain⟨hp,g,d,tk,os⟩:=s;obtain⟨hl,h⟩:=h
  have hsub:=sub_enumerate
  have hL:Heap.IsTuple (Shared.heap ⟨hp,g,d,tk,os⟩) l items:=⟨_,hl,rfl,n,rfl⟩
  wp_walk using AutoSeq1.wpAny_loadPart' hl
  refine wpAny_stack_any λst=>wpAny_pure ?_
  split
  ·rename_i c _ _ _ _ _
   cases (c==Value.type "enumerate")
   ·wp_walk using AutoSeq1.wpAny_loadPart' hl,wpAny_pyIter_tuple hL
    exact⟨_,rfl,h⟩
   ·wp_walk using AutoSeq1.wpAny_loadPart' hl,wpAny_pyIter_tuple hL
    exact⟨_,rfl,h⟩
  ·wp_walk using AutoSeq1.wpAny_loadPart' hl,wpAny_pyIter_tuple hL
   exact⟨_,rfl,h⟩
theorem mO {prog:Program}{w:World}{A:Around}{E:Value->Shared->Prop}{s:Shared}{l:Addr}{items:Array Value}{Q:Value->Shared->Prop}(hL:IsTup s.heap l items)
  (h:∀ h',IsEnum h' (s.heap.objs.size+1) s.heap.objs.size 0 .none->h'.IsTupleIter s.heap.objs.size l 0->h'.objs.size=s.heap.objs.size+2 ->
   (∀ b o,s.heap.get? b=some o->h'.get? b=some o)->Q (.ref (s.heap.objs.size+1)) { s with heap:=h' }) :
  wpAny (model prog w) A (call (.type "enumerate") [.ref l]) Q E s:=by
 obtain⟨⟨c,dct,dt,sl⟩,hl,hc,n,hd⟩:=hL
 replace hc:c = .type "tuple":=hc
 replace hd:dt = .seq items n:=hd
 subst hc hd
 refine callType_new F.called_enumerate (by decide) (F.typeCall_enumerate_1 _) (F.newCall_enumerate_1 _) (λobj=>F.args_object_init_2 obj _) F.entry_enumerate_new
  (lJ l items n dct sl) ⟨hl,?_⟩
 have hz:(s.heap.push { cls:=.type "tuple_iterator",data:=.fields #[.ref l,.int 0 0] }).objs.size=s.heap.objs.size+1:=Heap.size_push ..
 show _/\_
 rw[hz]
 have he:IsEnum ((s.heap.push { cls:=.type "tuple_iterator",data:=.fields #[.ref l,.int 0 0] }).push
   { cls:=.type "enumerate",data:=.fields #[.none,.bool false,.ref s.heap.objs.size,rawInt 0,.none,.none] }) (s.heap.objs.size+1) s.heap.objs.size 0 .none:=by
  have:=Heap.get?_push_size (s.heap.push { cls:=.type "tuple_iterator",data:=.fields #[.ref l,.int 0 0] })
   (o:={ cls:=.type "enumerate",data:=.fields #[.none,.bool false,.ref s.heap.objs.size,rawInt 0,.none,.none] }) rfl
  rw[hz] at this;exact this
 refine⟨⟨_,he,rfl⟩,h _ he ⟨_,Heap.get?_push_of_some _ (Heap.get?_push_size _ rfl),rfl,rfl⟩ (by rw[Heap.size_push,hz]) λb o x=>Heap.get?_push_of_some _ (Heap.get?_push_of_some _ x)⟩
theorem g9 {prog:Program}{w:World}{A:Around}{E:Value->Shared->Prop}{s:Shared}{e it l:Addr}{i:Nat}{items:Array Value}{old:Value}{Q:Option Value->Shared->Prop}(hh:A.handled=none)
  (he:IsEnum s.heap e it i old) (hit:s.heap.IsTupleIter it l i) (hl:s.heap.IsTuple l items) (hx:items[i]?=none)
  (hQ:∀ h',Heap.ExtBut it s.heap h'->Q none { s with heap:=h' }):wpAny (model prog w) A (pyNext (.ref e)) Q E s:=by
 have hT:s.TypeIs (.ref e) "enumerate":=⟨_,he,rfl⟩
 unfold pyNext
 refine wpAny_bind (wpAny_attempt (wpAny_callSpecial?_slot (name:=Str.ofString "__next__") hT F.slot_enumerate_next
  (wpAny_call_entry F.slot_enumerate_next hT F.entry_enumerate_next ?_ (F.args_enumerate_next_1 _))))
 show wpAny _ _ (field (.ref e) 2 >>= _) _ _ _
 refine wpAny_bind (wpAny_field he rfl (x:=.ref it) rfl ?_)
 refine wpAny_bind (eO hh hit hl hx λh' x he' hx'=>?_)
 obtain⟨o,ho,hc⟩:=hx'
 refine wpAny_bind (wpAny_isInstance (T:="StopIteration") (b:=true) ⟨o,ho,hc⟩ isSubtype_stop ?_)
 exact wpAny_pure (hQ _ he')
noncomputable def Ite (K:PySem.W.Frag)(a:Addr):It:=
 ⟨λi H => ∃ xs x,SqT K H a xs/\xs[i]?=some x,λi H x H' => ∃ p y,H p=none/\x = .ref p/\H'=upd H p (.tup [.int i,y])/\∀ xs,SqT K H a xs->xs[i]?=some y,λi H => ∃ xs,SqT K H a xs/\xs.length<=i⟩
theorem ul {P:Program}{w:World}{K:PySem.W.Frag}{es:List Expr}{k:Nat}{pt:Pos}(a e it:Addr)(hei:e≠it)(hae:a≠e)(hai:a≠it):Turn P w K (.Tuple es k pt) (Ite K a) [e,it] e (λi h=>(∃ old,IsEnum h e it i old)/\h.IsTupleIter it a i) where
 mem:=by simp
 obj:=λi h st b hb=>by
  obtain⟨⟨old,he⟩,o,ho,hc,hd⟩:=st
  rcases List.mem_cons.mp hb with rfl |hb
  ·exact⟨_,he,λv z=>by cases z⟩
  ·have:b=it:=by simpa using hb
   subst this
   exact⟨o,ho,λv z=>by rw[hd] at z;cases z⟩
 keep:=λi h h' st kp=>by
  obtain⟨⟨old,he⟩,o,ho,r⟩:=st
  exact⟨⟨old,kp e (by simp) _ he⟩,o,kp it (by simp) o ho,r⟩
 item:=by
  intro X hP hw hK hc i pins s σ H E I hf st hg
  subst hP hw hK
  obtain⟨xs,x,hq,hx⟩:=hg
  obtain⟨its,rv,p,hz⟩:=I.tuple hq
  obtain⟨u,hu,ru⟩:=rv.get hx
  obtain⟨⟨old,he⟩,hit⟩:=st
  have hlt:i<its.toArray.size:=by
   rw[List.size_toArray];exact (List.getElem?_eq_some_iff.mp hu).1
  refine wpAny_pyNext_enum_itemD (Draws.tup (A:=X.A.in1) (I.ok.hd hc) it a hai its.toArray) he ⟨hit,p⟩ hlt hei (by simp[hei,Ne.symm hae]) λy h' tk hP ho hs' hT hsz hk=>?_
  have ey:y=u:=by
   have:its.toArray[i]?=some u:=by simpa using hu
   rw[this] at hP
   exact (Option.some.inj hP).symm
  subst ey
  refine⟨_,rfl,wpAny_letOwnedTupleGo_enum (s:={ s with heap:=h',toks:=tk+1 }) ho λh2 he2 sb2=>?_⟩
  have hn:H s.heap.objs.size=none:=I.fresh
  obtain⟨fe0,fe1,fe2,fe3,fe4,fe5⟩:=hf e (by simp)
  obtain⟨fi0,fi1,fi2,fi3,fi4,fi5⟩:=hf it (by simp)
  have kp:∀ b o,b≠e->b≠it->s.heap.get? b=some o->h2.get? b=some o:=λb o h1 h2' e1=>(sb2.2 b h1).trans (hk b o h1 h2' e1)
  have hTe:s.heap.objs.size≠e:=Nat.ne_of_gt (Heap.lt_size he)
  have hT2:h2.get? s.heap.objs.size=some { cls:=.type "tuple",data:=.seq #[.int i tk,y] }:=(sb2.2 _ hTe).trans hT
  have ne:∀ b o,H b=some o->b≠s.heap.objs.size:=λb o q=>aR q hn
  have I1:Inv X pins σ (upd H s.heap.objs.size (.tup [.int i,x])) { s with heap:=h2,toks:=tk+1 }:=by
   refine I.step (h':=h2) (g':=s.gens) (d':=s.drawn) (t':=tk+1) (ch:=[e,it]) (λb hb=>?_) (λb o _ _ hb e1 _=>kp b o (λz=>hb (by simp[z])) (λz=>hb (by simp[z])) e1) (λb o _ _ hb e1 _=>⟨o.slots,kp b o (λz=>hb (by simp[z])) (λz=>hb (by simp[z])) e1⟩)
    (λb o hb e1 n'=>by rw[aA (Nat.ne_of_lt (Heap.lt_size e1))];exact n') (λb o hb e1=>⟨o,kp b o (λz=>hb (by simp[z])) (λz=>hb (by simp[z])) e1⟩)
    (λb xs q=>by rw[aA (ne b _ q)];exact q) (λb o xs q=>by rw[aA (ne b _ q)];exact q) (λb ps q=>⟨#[],by rw[aA (ne b _ q),q];simp⟩)
    (λm hm=>?_) (λb o q=>?_) I.bare
   ·rcases List.mem_cons.mp hb with rfl |hb
    ·exact⟨fe3,fe1,fe4,fe5⟩
    ·have:b=it:=by simpa using hb
     subst this
     exact⟨fi3,fi1,fi4,fi5⟩
   ·obtain⟨o,es,ep,ho,r⟩:=hm
    exact⟨o,es,ep,kp _ o (Ne.symm fe1) (Ne.symm fi1) ho,r⟩
   ·by_cases hb:b=s.heap.objs.size
    ·subst hb
     rw[aX] at q
     cases q
     exact⟨by show 2<=sizeLine;decide,[.int i tk,y],.cons ⟨tk,rfl⟩ (.cons ru .nil),_,hT2⟩
    ·rw[aA hb] at q
     refine (I.hok b o q).stay (λc v hc' z=>kp c v ?_ ?_ z) (λc z=>by rw[aA (ne c _ z)];exact z) λc xs z=>by rw[aA (ne c _ z)];exact z
     ·rcases hc' with z' |z'
      ·rw[z'];exact aR q fe0
      ·exact aR z' fe0
     ·rcases hc' with z' |z'
      ·rw[z'];exact aR q fi0
      ·exact aR z' fi0
  refine⟨.ref s.heap.objs.size,_,I1,rfl,⟨_,x,hn,rfl,rfl,λys hy=>by rw[I.tuple_inj hy hq];exact hx⟩,⟨⟨y,he2⟩,hs'.1.extBut sb2.extBut (Ne.symm hei)⟩,λb hb=>?_⟩
  rcases List.mem_cons.mp hb with rfl |hb
  ·rw[aA (Ne.symm hTe)];exact fe0
  ·have:b=it:=by simpa using hb
   subst this
   obtain⟨o,ho',_⟩:=hit
   rw[aA (Nat.ne_of_lt (Heap.lt_size ho'))];exact fi0
 done:=by
  intro X hP hw hK hc i pins s σ H E I hf st hg
  subst hP hw hK
  obtain⟨xs,hq,hx⟩:=hg
  obtain⟨its,rv,p,hz⟩:=I.tuple hq
  obtain⟨⟨old,he⟩,hit⟩:=st
  obtain⟨fi0,fi1,fi2,fi3,fi4,fi5⟩:=hf it (by simp)
  have hl:=rv.length
  exact g9 (I.ok.hd hc) he hit p (by simp;omega) λh' eb=>⟨rfl,I.turned (t':=s.toks) (λb o hb e=>eb b o hb e) fi0 fi1 fi3 fi4 fi5⟩
 self:=by
  intro A i s Q E st h
  obtain⟨⟨old,he⟩,_⟩:=st
  exact wpAny_pyIter_enum he h
noncomputable def dH (i:Nat):List D->List D
 |[]=>[]
 |d::ds => .tup [.int i,d]::dH (i+1) ds
theorem dz:∀ (ds:List D) (i:Nat),(dH i ds).length=ds.length
 |[],_=>rfl
 |d::ds,i=>by rw[dH,List.length_cons,List.length_cons,dz ds]
theorem gU:∀ (ds:List D) (i j:Nat),(dH i ds)[j]?=(ds[j]?).map λd=>D.tup [.int (i+j:Nat),d]
 |[],_,_=>by simp[dH]
 |d::ds,i,0=>by simp[dH]
 |d::ds,i,j+1=>by
  rw[dH,List.getElem?_cons_succ,gU ds (i+1) j,List.getElem?_cons_succ,show i+1+j=i+(j+1) by omega]
theorem Walk.enum {a:Addr}{ds:List D}{xs:List V}{J:List Addr}{H:Hp}(t:TQ X.K H J a xs)(m:Ats X.K H J ds xs):Walk X (Ite X.K a) (dH 0 ds) J H where
 len:=by rw[dz,m.length];exact t.len
 go:=λJ1 H1 i x hi=>by
  rw[dz] at hi
  have m1:=m.ex x
  obtain⟨v,hv,_⟩:=m1.get (List.getElem?_eq_getElem hi)
  exact⟨xs,v,(t.ex x).sq,hv⟩
 yld:=λJ1 H1 i v H' x hJ hi y=>by
  obtain⟨p,y,hn,rfl,rfl,hy⟩:=y
  obtain⟨d,e,a⟩:=(m.ex x).get' (hy xs (t.ex x).sq)
  refine⟨.tup [.int i,d],by rw[gU,e];simp,At.newTup (.cons (At.int_iff.mpr rfl) (.cons a .nil)) hn hJ (by show 2<=sizeLine;decide),aP hn _⟩
 stop:=λJ1 H1 i x hi=>by
  rw[dz] at hi
  exact⟨xs,(t.ex x).sq,by rw[← m.length];exact hi⟩
noncomputable def nO:List D->Option (List D)
 |[.tup xs]=>some (dH 0 xs)
 |_=>none
theorem s_ {es:List Expr}{k:Nat}{pt p:Pos}{a:Expr}{t:Rho->Sto->Out (List D)}{x:Str}(hx:x="enumerate")(hm:X.mg x=none)(ha:SA X W [a] t)(hg:Gl X x:=by rfl)
  (he:starEach (a::[]) X.env=(false,eval a X.env)::starEach [] X.env:=by rfl) (hpl:(backTo pos (starEach [] X.env)).any (·.1)=false:=by rfl):SI X W (.Tuple es k pt) (.Call (.Name x p) [a] [] pos) (o_ nO t):=by
 subst hx
 intro pins s σ H R I h
 refine wpAny_Call_Name_kw (lN I hg hm boot_enumerate ?_ (by decide) (by decide))
 refine callWith_type1 (thn (ha pos pins s σ H _ I (pN h)) λus s1 ⟨vs,H1,I1,r1,J,S,es',ds,so,m,hk,z⟩=>?_) he hpl
 unfold nO at hk
 split at hk
 ·rename_i xs
  cases hk
  obtain⟨v,r,rfl,a1,n⟩:=Ats.cons_iff.mp m
  cases Ats.nil_iff.mp n
  obtain⟨ad,ws,rfl,tq,mz⟩:=At.tup_iff.mp a1
  obtain⟨u,rfl,ru⟩:=vals1 r1
  cases ru
  obtain⟨its,rv,pl,hz⟩:=I1.tuple tq.sq
  have had:ad<s1.heap.objs.size:=pl.lt
  refine mO pl λh' en it sz kp=>?_
  have I2:Inv X pins σ H1 { s1 with heap:=h' }:=I1.kept (t':=s1.toks) kp
  refine wpAny_pyIter_enum en ?_
  refine⟨s1.heap.objs.size+1,[s1.heap.objs.size+1,s1.heap.objs.size],_,Ite X.K ad,H1,rfl,I2,ul ad _ _ (Nat.ne_of_gt (Nat.lt_succ_self _)) (Nat.ne_of_lt (Nat.lt_succ_of_lt had)) (Nat.ne_of_lt had),⟨⟨_,en⟩,it⟩,λb hb=>?_,z H1 _ (Same.refl _) (Walk.enum tq mz)⟩
  rcases List.mem_cons.mp hb with rfl |hb
  ·exact I1.fpOk (Nat.le_succ _) (I1.hok.fresh (Nat.le_succ _))
  ·have:b=s1.heap.objs.size:=by simpa using hb
   subst this
   exact I1.fpOk (Nat.le_refl _) I1.fresh
 ·cases hk
end
section
variable {X:Cx}{W:WT}
noncomputable def qM:List D->Option (List Bool)
 |[]=>some []
 | .bl b::r=>(qM r).map (b::·)
 |_=>none
noncomputable def sL:List D->Option D
 |[.lst xs]=>(qM xs).map λbs => .bl (bs.all id)
 |_=>none
theorem qL {K:PySem.W.Frag}{H:Hp}{J:List Addr}:∀ {ds:List D}{bs:List Bool}{vs:List V}{us:List Value},qM ds=some bs->Ats K H J ds vs->Vals vs us->us=bs.map Value.bool
 |[],bs,vs,us,e,m,r=>by
  cases e
  cases Ats.nil_iff.mp m
  cases r
  rfl
 | .bl b::ds,bs,vs,us,e,m,r=>by
  obtain⟨bs',e1,e2⟩:=Option.map_eq_some_iff.mp (show (qM ds).map (b::·)=some bs from e)
  subst e2
  obtain⟨v,vr,rfl,a,m'⟩:=Ats.cons_iff.mp m
  cases At.bl_iff.mp a
  cases r with
  |cons r1 r2 =>
   cases r1
   rw[qL e1 m' r2];rfl
 | .non::_,_,_,_,e,_,_=>by cases e
 | .int _::_,_,_,_,e,_,_=>by cases e
 | .str _::_,_,_,_,e,_,_=>by cases e
 | .tup _::_,_,_,_,e,_,_=>by cases e
 | .lst _::_,_,_,_,e,_,_=>by cases e
 | .set _::_,_,_,_,e,_,_=>by cases e
 | .loc _::_,_,_,_,e,_,_=>by cases e
theorem pJ {prog:Program}{w:World}{A:Around}(bs:List Bool):TruthOf prog w A (λi v=>(bs.map Value.bool).toArray[i]?=some v) (λi=>bs.getD i false):=by
 intro i v s Q E hP hQ
 have hP':(bs.map Value.bool)[i]?=some v:=by simpa using hP
 rw[List.getElem?_map] at hP'
 obtain⟨b,e1,e2⟩:=Option.map_eq_some_iff.mp hP'
 subst e2
 have:bs.getD i false=b:=by rw[List.getD_eq_getElem?_getD,e1];rfl
 have hQ:Q (bs.getD i false) s:=hQ
 rw[this] at hQ
 exact wpAny_truthy_bool hQ
theorem range_all (bs:List Bool):(List.range bs.length).all (λi=>bs.getD i false)=bs.all id:=by
 rw[Bool.eq_iff_iff,List.all_eq_true,List.all_eq_true]
 constructor
 ·intro h x hx
  obtain⟨i,hi,e⟩:=List.mem_iff_getElem.mp hx
  have:=h i (List.mem_range.mpr hi)
  rw[List.getD_eq_getElem?_getD,List.getElem?_eq_getElem hi,e] at this
  exact this
 ·intro h i hi
  have hi:=List.mem_range.mp hi
  rw[List.getD_eq_getElem?_getD,List.getElem?_eq_getElem hi]
  exact h _ (List.getElem_mem hi)
theorem xl (hc:X.calm=true):kz X (.builtin "all") sL:=by
 intro pins s σ H xs us Q I r h
 obtain⟨J,ds,d,hJ,m,e,q⟩:=h
 unfold sL at e
 split at e
 ·rename_i ys
  obtain⟨bs,e1,e2⟩:=Option.map_eq_some_iff.mp e
  subst e2
  obtain⟨v,w,rfl,a,n⟩:=Ats.cons_iff.mp m
  cases Ats.nil_iff.mp n
  obtain⟨p,zs,rfl,t,mz⟩:=At.lst_iff.mp a
  obtain⟨u,rfl,ru⟩:=vals1 r
  cases ru
  obtain⟨its,rv,pl,hz⟩:=I.list t.sq
  have eb:=qL e1 mz rv
  subst eb
  have hp:p<s.heap.objs.size:=by obtain⟨o,n,e,_⟩:=pl;exact Heap.lt_size e
  refine call_all_walk (wpAny_pyIter_list pl.isList ?_)
  refine⟨s.heap.objs.size,_,_,_,_,_,λi=>bs.getD i false,rfl,Walks.list (A:=X.A.in1) (I.ok.hd hc) s.heap.objs.size p (Nat.ne_of_lt hp) (bs.map Value.bool).toArray,⟨⟨_,Heap.get?_push_size _ rfl,rfl,rfl⟩,pl.isList.push _⟩,pJ bs,λh' tk k=>?_⟩
  rw[List.size_toArray,List.length_map,range_all]
  refine⟨.bl _,H,I.kept λb o e=>k b o (λz=>?_) (Heap.get?_push_of_some _ e),rfl,q H _ (Same.refl H) (At.bl_iff.mpr rfl)⟩
  have:b=s.heap.objs.size:=by simpa using z
  exact absurd (Heap.lt_size e) (by rw[this];exact Nat.lt_irrefl _)
 ·cases e
end
noncomputable def leS (a b:Str):Bool:=!ltS b a
theorem leS_iff {a b:Str}:leS a b=true↔a.cps.toList<=b.cps.toList:=by
 unfold leS ltS
 rw[Bool.not_eq_true',decide_eq_false_iff_not,List.not_lt]
theorem jK (a b c:Str)(h:leS a b=true)(g:leS b c=true):leS a c=true:=leS_iff.mpr (List.le_trans (leS_iff.mp h) (leS_iff.mp g))
theorem jL (a b:Str):(leS a b ||leS b a)=true:=by
 rw[Bool.or_eq_true,leS_iff,leS_iff]
 exact List.le_total _ _
theorem dm {a b:Str}(h:a.cps.toList=b.cps.toList):a=b:=by
 cases a;cases b;congr;exact Array.toList_inj.mp h
theorem qj {a b:Str}(h:leS a b=true)(g:leS b a=true):a=b:=dm (List.le_antisymm (leS_iff.mp h) (leS_iff.mp g))
noncomputable def eM (l:List Str):List Str:=l.mergeSort leS
theorem i8 {l l':List Str}(hp:l'.Perm l)(hs:l'.Pairwise λa b=>leS a b=true):l'=eM l:=
 List.Perm.eq_of_pairwise (le:=λa b=>leS a b=true) (λa b _ _ h g=>qj h g) hs (List.pairwise_mergeSort jK jL l) (hp.trans (List.mergeSort_perm l leS).symm)
noncomputable def leI (a b:Int):Bool:=decide (a<=b)
noncomputable def sortI (l:List Int):List Int:=l.mergeSort leI
theorem om {l l':List Int}(hp:l'.Perm l)(hs:l'.Pairwise (·<=·)):l'=sortI l:=by
 refine List.Perm.eq_of_pairwise (le:=λa b=>leI a b=true) (λa b _ _ h g=>?_) (hs.imp λh=>decide_eq_true h) (List.pairwise_mergeSort (λa b c h g=>?_) (λa b=>?_) l) (hp.trans (List.mergeSort_perm l leI).symm)
 ·exact Int.le_antisymm (of_decide_eq_true h) (of_decide_eq_true g)
 ·exact decide_eq_true (Int.le_trans (of_decide_eq_true h) (of_decide_eq_true g))
 ·unfold leI
  rw[Bool.or_eq_true,decide_eq_true_eq,decide_eq_true_eq]
  exact Int.le_total a b
noncomputable def fB:List D->Option (List Str)
 |[]=>some []
 | .str x::r=>(fB r).map (x::·)
 |_=>none
noncomputable def qt:List D->Option (List Int)
 |[]=>some []
 | .int x::r=>(qt r).map (x::·)
 |_=>none
theorem cz:∀ ss:List Str,fB (ss.map .str)=some ss
 |[]=>rfl
 |x::r=>by rw[List.map_cons,fB,cz r];rfl
theorem dE:∀ {ds:List D}{ss:List Str},fB ds=some ss->ds=ss.map .str
 |[],ss,e=>by cases e;rfl
 | .str x::r,ss,e=>by
  obtain⟨t,e1,e2⟩:=Option.map_eq_some_iff.mp (show (fB r).map (x::·)=some ss from e)
  subst e2
  rw[dE e1];rfl
 | .non::_,_,e=>by cases e
 | .bl _::_,_,e=>by cases e
 | .int _::_,_,e=>by cases e
 | .tup _::_,_,e=>by cases e
 | .lst _::_,_,e=>by cases e
 | .set _::_,_,e=>by cases e
 | .loc _::_,_,e=>by cases e
theorem lS:∀ {ds:List D}{ss:List Int},qt ds=some ss->ds=ss.map .int
 |[],ss,e=>by cases e;rfl
 | .int x::r,ss,e=>by
  obtain⟨t,e1,e2⟩:=Option.map_eq_some_iff.mp (show (qt r).map (x::·)=some ss from e)
  subst e2
  rw[lS e1];rfl
 | .non::_,_,e=>by cases e
 | .bl _::_,_,e=>by cases e
 | .str _::_,_,e=>by cases e
 | .tup _::_,_,e=>by cases e
 | .lst _::_,_,e=>by cases e
 | .set _::_,_,e=>by cases e
 | .loc _::_,_,e=>by cases e
section
variable {K:PySem.W.Frag}{H:Hp}{J:List Addr}
theorem Ats.strs:∀ {ss:List Str}{vs:List V}{us:List Value},Ats K H J (ss.map .str) vs->Vals vs us->StrsAre us ss/\vs=ss.map V.str/\∀ x∈ss,okS x
 |[],vs,us,m,r=>by
  cases Ats.nil_iff.mp m
  cases r
  exact⟨.nil,rfl,by simp⟩
 |x::ss,vs,us,m,r=>by
  obtain⟨v,vr,rfl,a,m'⟩:=Ats.cons_iff.mp m
  obtain⟨ev,ok⟩:=At.str_iff.mp a
  subst ev
  cases r with
  |cons r1 r2 =>
   obtain⟨t,rfl⟩:=r1
   obtain⟨s1,s2,s3⟩:=Ats.strs m' r2
   refine⟨.cons x t s1,by rw[s2];rfl,λy hy=>?_⟩
   rcases List.mem_cons.mp hy with rfl |hy
   ·exact ok
   ·exact s3 y hy
theorem Ats.ofStrs:∀ {ss:List Str},(∀ x∈ss,okS x)->Ats K H J (ss.map .str) (ss.map V.str)
 |[],_ => .nil
 |x::ss,h => .cons (At.str_iff.mpr ⟨rfl,h x (List.mem_cons_self ..)⟩) (Ats.ofStrs λy hy=>h y (List.mem_cons_of_mem _ hy))
theorem uh:∀ {us:List Value}{ss:List Str},StrsAre us ss->Vals (ss.map V.str) us
 |_,_,.nil => .nil
 |_,_,.cons x t h => .cons ⟨t,rfl⟩ (uh h)
end
section
variable {X:Cx}{W:WT}
noncomputable def tupI:D->Option (List Int)
 | .tup ds=>match qt ds with
  |some (n::ns)=>some (n::ns)
  |_=>none
 |_=>none
noncomputable def tupS:D->Option (List Str)
 | .tup ds=>match fB ds with
  |some (n::ns)=>some (n::ns)
  |_=>none
 |_=>none
noncomputable def xF {α:Type}(f:D->Option α):List D->Option (List α)
 |[]=>some []
 |d::r=>(f d).bind λa=>(xF f r).map (a::·)
noncomputable def qh {α:Type}(lt : α->α->Bool):List α->List α->Bool
 |[],[]=>false
 |[],_::_=>true
 |_::_,[]=>false
 |a::as,b::bs=>if (!lt a b&&!lt b a)=true then qh lt as bs else lt a b
noncomputable def y6 (a b:List Int):Bool:=!qh (λx y=>decide (x<y)) b a
noncomputable def y4 (a b:List Str):Bool:=!qh (λx y=>decide (x<y)) (b.map λx=>x.cps.toList) (a.map λx=>x.cps.toList)
noncomputable def dR (xs:List D):Option (List D):=if xs.length<=sizeLine then
  match fB xs with
  |some ss=>some ((eM ss).map .str)
  |none=>match qt xs with
   |some ns=>some ((sortI ns).map .int)
   |none=>match xF tupI xs with
    |some nss=>some ((nss.mergeSort y6).map λns => .tup (ns.map .int))
    |none=>(xF tupS xs).map λsss=>(sss.mergeSort y4).map λss => .tup (ss.map .str)
 else none
theorem oI (O:PyProof.Rows.KeyOrd):∀ as bs:List O.α,cR O as bs=qh O.blt as bs
 |[],[]=>rfl
 |[],_::_=>rfl
 |_::_,[]=>rfl
 |a::as,b::bs=>by rw[cR,qh,oI O as bs]
theorem gN {K:PySem.W.Frag}{H:Hp}{J:List Addr}{out us:List Value}(p:out.Perm us):∀ {vs:List V}{ds:List D},Vals vs us->Ats K H J ds vs->∃ vs' ds',Vals vs' out/\Ats K H J ds' vs'/\ds'.Perm ds:=by
 induction p with
 |nil=>intro vs ds r m;exact⟨vs,ds,r,m,.refl _⟩
 |cons x p ih =>
  intro vs ds r m
  cases r with
  | @cons v _ vr _ r1 r2 =>
   cases ds with
   |nil=>cases Ats.nil_iff.mp m
   |cons d ds =>
    obtain⟨m1,m2⟩:=m.uncons
    obtain⟨vs',ds',a,b,c⟩:=ih r2 m2
    exact⟨v::vs',d::ds',.cons r1 a,.cons m1 b,.cons d c⟩
 |swap x y l =>
  intro vs ds r m
  cases r with
  | @cons v _ vr _ r1 r2=>cases r2 with
   | @cons v2 _ vr2 _ r3 r4 =>
    cases ds with
    |nil=>cases Ats.nil_iff.mp m
    |cons d ds=>cases ds with
     |nil=>obtain⟨_,m2⟩:=m.uncons;cases Ats.nil_iff.mp m2
     |cons d2 ds =>
      obtain⟨m1,m2⟩:=m.uncons
      obtain⟨m3,m4⟩:=m2.uncons
      exact⟨v2::v::vr2,d2::d::ds,.cons r3 (.cons r1 r4),.cons m3 (.cons m1 m4),.swap d d2 ds⟩
 |trans _ _ ih1 ih2 =>
  intro vs ds r m
  obtain⟨vs1,ds1,a,b,c⟩:=ih2 r m
  obtain⟨vs2,ds2,a2,b2,c2⟩:=ih1 a b
  exact⟨vs2,ds2,a2,b2,c2.trans c⟩
theorem mj {α:Type}{f:D->Option α}{g : α->D}(hf:∀ d a,f d=some a->d=g a):∀ {ds:List D}{as:List α},xF f ds=some as->ds=as.map g
 |[],as,h=>by cases h;rfl
 |d::ds,as,h=>by
  obtain⟨a,e1,e2⟩:=Option.bind_eq_some_iff.mp (show (f d).bind _=some as from h)
  obtain⟨r,e3,e4⟩:=Option.map_eq_some_iff.mp e2
  subst e4
  rw[List.map_cons,hf d a e1,mj hf e3]
theorem ml {α:Type}{f:D->Option α}:∀ {ds:List D}{as:List α},xF f ds=some as->∀ a∈as,∃ d,f d=some a
 |[],as,h,a,ha=>by cases h;simp at ha
 |d::ds,as,h,a,ha=>by
  obtain⟨b,e1,e2⟩:=Option.bind_eq_some_iff.mp (show (f d).bind _=some as from h)
  obtain⟨r,e3,e4⟩:=Option.map_eq_some_iff.mp e2
  subst e4
  rcases List.mem_cons.mp ha with e |ha
  ·subst e;exact⟨d,e1⟩
  ·exact ml e3 a ha
theorem sS {d:D}{ns:List Int}(h:tupI d=some ns):d = .tup (ns.map .int)/\ns≠[]:=by
 unfold tupI at h
 split at h
 ·split at h
  ·rename_i e;cases h;rw[lS e];exact⟨rfl,by simp⟩
  ·cases h
 ·cases h
theorem sR {d:D}{ns:List Str}(h:tupS d=some ns):d = .tup (ns.map .str)/\ns≠[]:=by
 unfold tupS at h
 split at h
 ·split at h
  ·rename_i e;cases h;rw[dE e];exact⟨rfl,by simp⟩
  ·cases h
 ·cases h
theorem cW {α:Type}{g : α->D}{l:List D}{as:List α}(h:l.Perm (as.map g)):∃ bs:List α,l=bs.map g/\bs.Perm as:=by
 generalize e:as.map g=l2 at h
 induction h generalizing as with
 |nil=>cases as with
  |nil=>exact⟨[],rfl,.refl _⟩
  |cons a as=>cases e
 |cons x p ih=>cases as with
  |nil=>cases e
  |cons a as =>
   rw[List.map_cons] at e
   obtain⟨rfl,e2⟩:=List.cons.inj e
   obtain⟨bs,e3,e4⟩:=ih e2
   exact⟨a::bs,by rw[List.map_cons,e3],.cons a e4⟩
 |swap x y l=>cases as with
  |nil=>cases e
  |cons a as=>cases as with
   |nil=>simp at e
   |cons b as =>
    simp only[List.map_cons,List.cons.injEq] at e
    obtain⟨rfl,rfl,rfl⟩:=e
    exact⟨b::a::as,rfl,.swap a b as⟩
 |trans _ _ ih1 ih2 =>
  obtain⟨bs,e3,e4⟩:=ih2 e
  obtain⟨cs,e5,e6⟩:=ih1 (as:=bs) e3.symm
  exact⟨cs,e5,e6.trans e4⟩
theorem gR:∀ {us:List Value}{ns:List Int},IntsAre us ns->KeysAre intIt us ns
 |_,_,.nil => .nil
 |_,_,.cons n t r => .cons rfl (gR r)
theorem gQ:∀ {us:List Value}{ss:List Str},StrsAre us ss->KeysAre strIt us (ss.map λx=>x.cps.toList)
 |_,_,.nil => .nil
 |_,_,.cons n t r => .cons rfl (gQ r)
section
variable {X:Cx}{pins:List (Addr×Obj)}{σ:St}{H:Hp}{s:Shared}{J:List Addr}
theorem xR (I:Inv X pins σ H s){ns:List Int}{v:V}{u:Value}(m:At X.K H J (.tup (ns.map .int)) v)(r:RelV v u):TupK intIt s.heap u ns:=by
 obtain⟨a,xs,rfl,q,z⟩:=At.tup_iff.mp m
 cases r
 obtain⟨its,rv,⟨o,ho,hc,n,hd⟩,_⟩:=I.tuple q.sq
 have e:=Ats.toInts z
 subst e
 exact⟨a,o,its.toArray,n,rfl,ho,hc,hd,by simpa using gR (intsAre_of rv)⟩
theorem xQ (I:Inv X pins σ H s){ss:List Str}{v:V}{u:Value}(m:At X.K H J (.tup (ss.map .str)) v)(r:RelV v u):TupK strIt s.heap u (ss.map λx=>x.cps.toList):=by
 obtain⟨a,xs,rfl,q,z⟩:=At.tup_iff.mp m
 cases r
 obtain⟨its,rv,⟨o,ho,hc,n,hd⟩,_⟩:=I.tuple q.sq
 exact⟨a,o,its.toArray,n,rfl,ho,hc,hd,by simpa using gQ (Ats.strs z rv).1⟩
theorem k7 (I:Inv X pins σ H s):∀ {nss:List (List Int)}{vs:List V}{us:List Value},(∀ ns∈nss,ns≠[])->Ats X.K H J (nss.map λns => .tup (ns.map .int)) vs->Vals vs us->TupsAre intIt s.heap us nss/\us.map (kfT intIt s.heap)=nss
 |[],vs,us,_,m,r=>by cases Ats.nil_iff.mp m;cases r;exact⟨.nil,rfl⟩
 |ns::nss,vs,us,h0,m,r=>by
  obtain⟨v,vr,rfl,m1,m2⟩:=Ats.cons_iff.mp m
  cases r with
  |cons r1 r2 =>
   obtain⟨a,b⟩:=k7 I (λx hx=>h0 x (List.mem_cons_of_mem _ hx)) m2 r2
   have t:=xR I m1 r1
   have ne:=h0 ns (List.mem_cons_self ..)
   cases ns with
   |nil=>exact absurd rfl ne
   |cons n ns=>exact⟨.cons t a,by rw[List.map_cons,oM t,b];rfl⟩
theorem kZ (I:Inv X pins σ H s):∀ {nss:List (List Str)}{vs:List V}{us:List Value},(∀ ns∈nss,ns≠[])->Ats X.K H J (nss.map λns => .tup (ns.map .str)) vs->Vals vs us->TupsAre strIt s.heap us (nss.map λss=>ss.map λx=>x.cps.toList)/\us.map (kfT strIt s.heap)=nss.map λss=>ss.map λx=>x.cps.toList
 |[],vs,us,_,m,r=>by cases Ats.nil_iff.mp m;cases r;exact⟨.nil,rfl⟩
 |ns::nss,vs,us,h0,m,r=>by
  obtain⟨v,vr,rfl,m1,m2⟩:=Ats.cons_iff.mp m
  cases r with
  |cons r1 r2 =>
   obtain⟨a,b⟩:=kZ I (λx hx=>h0 x (List.mem_cons_of_mem _ hx)) m2 r2
   have t:=xQ I m1 r1
   have ne:=h0 ns (List.mem_cons_self ..)
   cases ns with
   |nil=>exact absurd rfl ne
   |cons n ns=>exact⟨.cons t a,by rw[List.map_cons,oM t,b,List.map_cons];rfl⟩
end
theorem qi {β:Type}{O:PyProof.Rows.KeyOrd}{key : β->List O.α}(inj:∀ a b,key a=key b->a=b){l l':List β}(hp:l'.Perm l)(hs:l'.Pairwise λa b=>(mI O).kle (key a) (key b)):l'=l.mergeSort λa b => !cR O (key b) (key a):=by
 refine List.Perm.eq_of_pairwise (le:=λa b=>(!cR O (key b) (key a))=true) (λa b _ _ h g=>inj _ _ ?_) (hs.imp λh=>?_) (List.pairwise_mergeSort (λa b c h g=>?_) (λa b=>?_) l) (hp.trans (List.mergeSort_perm l _).symm)
 ·have g':cR O (key a) (key b)=false:=by simpa using g
  have h':cR O (key b) (key a)=false:=by simpa using h
  exact (mI O).total _ _ g' h'
 ·have h':cR O _ _=false:=h
  rw[h'];rfl
 ·have h1:(mI O).kle (key a) (key b):=by show cR O (key b) (key a)=false;simpa using h
  have h2:(mI O).kle (key b) (key c):=by show cR O (key c) (key b)=false;simpa using g
  have h3:cR O (key c) (key a)=false:=PyProof.Rows.KeyOrd.kle_trans h1 h2
  rw[h3];rfl
 ·cases h1:cR O (key b) (key a) with
  |false=>rfl
  |true =>
   have h2:cR O (key a) (key b)=false:=PyProof.Rows.KeyOrd.klt_asymm (O:=mI O) h1
   rw[h2];rfl
theorem zk {a b:List Str}(h:(a.map λx=>x.cps.toList)=b.map λx=>x.cps.toList):a=b:=by
 induction a generalizing b with
 |nil=>cases b with
  |nil=>rfl
  |cons y b=>cases h
 |cons x a ih=>cases b with
  |nil=>cases h
  |cons y b =>
   rw[List.map_cons,List.map_cons] at h
   obtain⟨h1,h2⟩:=List.cons.inj h
   rw[dm h1,ih h2]
theorem gI {pins:List (Addr×Obj)}{σ:St}{H:Hp}{s:Shared}{J:List Addr}{x:Value}{ds:List D}{out:List D}{Q:VK}(hJ:∀ a∈J,H a≠none)(e:dR ds=some out)(q:∀ H' v,Same H H'->At X.K H' J (.lst out) v->Q v H')
  (hcol:∀ (Q':List Value->Shared->Prop) (E:Value->Shared->Prop),(∀ us vs s1 ds',Inv X pins σ H s1->Vals vs us->ds'.Perm ds->Ats X.K H J ds' vs->Q' us s1)->wpAny (model X.prog X.w) X.A.in1 (collect x) Q' E s) :
  wpAny (model X.prog X.w) X.A (call (.builtin "sorted") [x]) (EP X pins σ Q) X.xe s:=by
 unfold dR at e
 split at e
 ·rename_i hz
  have fin:∀ {s1:Shared}{h':Heap}{ep:Nat}{us':List Value}{vs':List V}(I1:Inv X pins σ H s1) (k:∀ b o,s1.heap.get? b=some o->h'.get? b=some o) (hat:h'.get? s1.heap.objs.size=some (seqObj "list" us'.toArray ep)) (rv:Vals vs' us') (m:Ats X.K H J out vs') (hl:vs'.length<=sizeLine),
    EP X pins σ Q (.ref s1.heap.objs.size) { s1 with heap:=h' }:=λ{s1 h' ep us' vs'} I1 k hat rv m hl =>
   ⟨.ref s1.heap.objs.size,_,I1.laid (t':=s1.toks) (o:=.lst vs') k (Nat.le_refl _) ⟨hl,us',ep,rv,hat⟩,rfl,q _ _ (aP I1.fresh _) (At.newLst m I1.fresh hJ hl)⟩
  have lens:∀ {us:List Value}{vs:List V}{ds':List D},Vals vs us->ds'.Perm ds->Ats X.K H J ds' vs->us.length<=sizeLine:=λrv pm m=>by
   rw[← rv.length,← m.length,pm.length_eq];exact hz
  split at e
  ·rename_i ss es
   cases e
   have ed:=dE es
   subst ed
   refine kI (hcol _ _ λus vs s1 ds' I1 rv pm m=>⟨lens rv pm m,strIt.O,λv=>(strIt.keyOf v).getD strIt.dflt,?_,λo h' ep hp hs k hat=>?_⟩)
   ·obtain⟨ss0,e0,p0⟩:=cW pm
    subst e0
    exact i9 (gQ (Ats.strs m rv).1)
   ·obtain⟨vs',ds2,a1,a2,a3⟩:=gN hp rv m
    obtain⟨ss2,e2,p2⟩:=cW (a3.trans pm)
    subst e2
    obtain⟨sa,ev,ok⟩:=Ats.strs a2 a1
    have hk:=(gQ sa).map_key
    have hs2:ss2.Pairwise λa b=>leS a b=true:=by
     have:=List.pairwise_map.mpr hs
     rw[hk] at this
     have this2:ss2.Pairwise λa b=>strIt.O.kle a.cps.toList b.cps.toList:=List.pairwise_map.mp this
     refine this2.imp λ{a b} h=>?_
     have h':decide (b.cps.toList<a.cps.toList)=false:=h
     unfold leS ltS
     rw[h'];rfl
    have eso:=i8 p2 hs2
    subst eso
    exact fin (us':=o.toList) I1 k (by simpa using hat) a1 a2 (by rw[a1.length,hp.length_eq];exact lens rv pm m)
  ·split at e
   ·rename_i ns es
    cases e
    have ed:=lS es
    subst ed
    refine kI (hcol _ _ λus vs s1 ds' I1 rv pm m=>⟨lens rv pm m,intIt.O,λv=>(intIt.keyOf v).getD intIt.dflt,?_,λo h' ep hp hs k hat=>?_⟩)
    ·obtain⟨ns0,e0,p0⟩:=cW pm
     subst e0
     have ev:=Ats.toInts m
     subst ev
     exact i9 (gR (intsAre_of rv))
    ·obtain⟨vs',ds2,a1,a2,a3⟩:=gN hp rv m
     obtain⟨ns2,e2,p2⟩:=cW (a3.trans pm)
     subst e2
     have ev:=Ats.toInts a2
     subst ev
     have hk:=(gR (intsAre_of a1)).map_key
     have hs2:ns2.Pairwise (·<=·):=by
      have:=List.pairwise_map.mpr hs
      rw[hk] at this
      have this2:List.Pairwise (λ(a b:Int)=>decide (b<a)=false) ns2:=this
      exact this2.imp λ{a b} h=>Int.not_lt.mp (of_decide_eq_false h)
     have eso:=om p2 hs2
     subst eso
     exact fin (us':=o.toList) I1 k (by simpa using hat) a1 a2 (by rw[a1.length,hp.length_eq];exact lens rv pm m)
   ·split at e
    ·rename_i nss es
     cases e
     have ed:=mj (λd a h=>(sS h).1) es
     have ne:∀ ns∈nss,ns≠[]:=λns hn=>let ⟨d,h⟩:=ml es ns hn;(sS h).2
     subst ed
     refine kI (hcol _ _ λus vs s1 ds' I1 rv pm m=>⟨lens rv pm m,mI intIt.O,kfT intIt s1.heap,?_,λo h' ep hp hs k hat=>?_⟩)
     ·obtain⟨ns0,e0,p0⟩:=cW pm
      subst e0
      exact j_ (k7 I1 (λx hx=>ne x (p0.mem_iff.mp hx)) m rv).1
     ·obtain⟨vs',ds2,a1,a2,a3⟩:=gN hp rv m
      obtain⟨ns2,e2,p2⟩:=cW (a3.trans pm)
      subst e2
      have hk:=(k7 I1 (λx hx=>ne x (p2.mem_iff.mp hx)) a2 a1).2
      have hs2:ns2.Pairwise λa b=>(mI qu).kle a b:=by
       have:=List.pairwise_map.mpr hs
       rw[hk] at this
       exact this
      have ele:(λ(a b:List Int) => !cR qu b a)=y6:=by
       funext a b
       unfold y6
       exact congrArg Bool.not (oI qu b a)
      have eso:ns2=nss.mergeSort y6:=by
       rw[← ele]
       exact qi (O:=qu) (key:=λ(a:List Int)=>a) (λa b h=>h) p2 hs2
      subst eso
      exact fin (us':=o.toList) I1 k (by simpa using hat) a1 a2 (by rw[a1.length,hp.length_eq];exact lens rv pm m)
    ·obtain⟨sss,es,eo⟩:=Option.map_eq_some_iff.mp e
     subst eo
     have ed:=mj (λd a h=>(sR h).1) es
     have ne:∀ ns∈sss,ns≠[]:=λns hn=>let ⟨d,h⟩:=ml es ns hn;(sR h).2
     subst ed
     refine kI (hcol _ _ λus vs s1 ds' I1 rv pm m=>⟨lens rv pm m,mI strIt.O,kfT strIt s1.heap,?_,λo h' ep hp hs k hat=>?_⟩)
     ·obtain⟨ns0,e0,p0⟩:=cW pm
      subst e0
      exact j_ (kZ I1 (λx hx=>ne x (p0.mem_iff.mp hx)) m rv).1
     ·obtain⟨vs',ds2,a1,a2,a3⟩:=gN hp rv m
      obtain⟨ns2,e2,p2⟩:=cW (a3.trans pm)
      subst e2
      have hk:=(kZ I1 (λx hx=>ne x (p2.mem_iff.mp hx)) a2 a1).2
      have hs2:ns2.Pairwise λa b=>(mI strIt.O).kle (a.map λx=>x.cps.toList) (b.map λx=>x.cps.toList):=by
       have:=List.pairwise_map.mpr hs
       rw[hk] at this
       exact List.pairwise_map.mp this
      have ele:(λ(a b:List Str) => !cR strIt.O (b.map λx=>x.cps.toList) (a.map λx=>x.cps.toList))=y4:=by
       funext a b
       unfold y4
       exact congrArg Bool.not (oI strIt.O _ _)
      have eso:ns2=sss.mergeSort y4:=by
       rw[← ele]
       exact qi (O:=strIt.O) (key:=λ(a:List Str)=>a.map λx=>x.cps.toList) (λa b h=>zk h) p2 hs2
      subst eso
      exact fin (us':=o.toList) I1 k (by simpa using hat) a1 a2 (by rw[a1.length,hp.length_eq];exact lens rv pm m)
 ·cases e
noncomputable def vR:List D->Option D
 |[.tup xs]=>(dR xs).map .lst
 |[.lst xs]=>(dR xs).map .lst
 |_=>none
theorem zn:kz X (.builtin "sorted") vR:=by
 intro pins s σ H xs us Q I r h
 obtain⟨J,ds,d,hJ,m,e,q⟩:=h
 unfold vR at e
 split at e
 ·rename_i ys
  obtain⟨out,e1,e2⟩:=Option.map_eq_some_iff.mp e
  subst e2
  obtain⟨v,w,rfl,a,n⟩:=Ats.cons_iff.mp m
  cases Ats.nil_iff.mp n
  obtain⟨p,zs,rfl,t,mz⟩:=At.tup_iff.mp a
  obtain⟨u,rfl,ru⟩:=vals1 r
  cases ru
  obtain⟨its,rv,⟨o,ho,hc,nn,hd⟩,hz⟩:=I.tuple t.sq
  refine gI hJ e1 q λQ' E hQ=>wpAny_collect_seq p (.inr rfl) ho hc hd (λh' k=>?_) (by rw[List.size_toArray,← rv.length];exact hz)
  exact hQ _ zs _ ys (I.kept (t':=s.toks) k) (by simpa using rv) (.refl _) mz
 ·rename_i ys
  obtain⟨out,e1,e2⟩:=Option.map_eq_some_iff.mp e
  subst e2
  obtain⟨v,w,rfl,a,n⟩:=Ats.cons_iff.mp m
  cases Ats.nil_iff.mp n
  obtain⟨p,zs,rfl,t,mz⟩:=At.lst_iff.mp a
  obtain⟨u,rfl,ru⟩:=vals1 r
  cases ru
  obtain⟨its,rv,⟨o,nn,ho,hc,_,hd⟩,hz⟩:=I.list t.sq
  refine gI hJ e1 q λQ' E hQ=>wpAny_collect_seq p (.inl rfl) ho hc hd (λh' k=>?_) (by rw[List.size_toArray,← rv.length];exact hz)
  exact hQ _ zs _ ys (I.kept (t':=s.toks) k) (by simpa using rv) (.refl _) mz
 ·cases e
end
noncomputable def hZ (a b:D):Bool:=decide (fH a=fH b)
noncomputable def putD (kvs:List (D×D))(k v:D):List (D×D):=if (kvs.any λp=>hZ p.1 k)=true then kvs.map (λp=>if hZ p.1 k=true then (p.1,v) else p) else kvs++[(k,v)]
noncomputable def getD (kvs:List (D×D))(k:D):Option D:=(kvs.find? λp=>hZ p.1 k).map (·.2)
abbrev RKV (K:PySem.W.Frag)(H:Hp)(J:List Addr):(D×D)->(Key×V)->Prop:=λp q=>(fH p.1=some q.1/\At K H J p.1 (kV q.1))/\At K H J p.2 q.2
section
variable {K:PySem.W.Frag}{H H':Hp}{J J':List Addr}
theorem lv {a k:D}{x y:Key}(h:fH a=some x)(g:fH k=some y):hZ a k=decide (x=y):=by
 unfold hZ
 rw[h,g]
 by_cases e:x=y
 ·subst e;simp
 ·rw[decide_eq_false e,decide_eq_false (λz=>e (Option.some.inj z))]
theorem A_ {kvs:List (D×D)}{ps:List (Key×V)}{k:D}{y:Key}(g:fH k=some y)(r:Paired (RKV K H J) kvs ps):(kvs.any λp=>hZ p.1 k)=ps.any λq=>decide (q.1=y):=by
 induction r with
 |nil=>rfl
 |cons h t ih=>rw[List.any_cons,List.any_cons,ih,lv h.1.1 g]
theorem uG {kvs:List (D×D)}{ps:List (Key×V)}{k v:D}{y:Key}{w:V}(g:fH k=some y)(av:At K H J v w)(r:Paired (RKV K H J) kvs ps):Paired (RKV K H J) (kvs.map λp=>if hZ p.1 k=true then (p.1,v) else p) (ps.map λq=>if q.1=y then (q.1,w) else q):=by
 induction r with
 |nil=>exact .nil
 | @cons p q l1 l2 h t ih =>
  refine .cons ?_ ih
  show RKV K H J (if hZ p.1 k=true then (p.1,v) else p) (if q.1=y then (q.1,w) else q)
  rw[lv h.1.1 g]
  by_cases e:q.1=y
  ·rw[if_pos (decide_eq_true e),if_pos e]
   exact⟨h.1,av⟩
  ·rw[if_neg (by rw[decide_eq_false e];decide),if_neg e]
   exact h
theorem uH {k v:D}{y:Key}{w:V}(g:fH k=some y)(ak:At K H J k (kV y))(av:At K H J v w){l1:List (D×D)}{l2:List (Key×V)}(h:Paired (RKV K H J) l1 l2):Paired (RKV K H J) (l1++[(k,v)]) (l2++[(y,w)]):=by
 induction h with
 |nil=>exact .cons ⟨⟨g,ak⟩,av⟩ .nil
 |cons h t ih=>exact .cons h ih
theorem Af {kvs:List (D×D)}{ps:List (Key×V)}{k v:D}{y:Key}{w:V}(g:fH k=some y)(ak:At K H J k (kV y))(av:At K H J v w)(r:Paired (RKV K H J) kvs ps):Paired (RKV K H J) (putD kvs k v) (putK ps y w):=by
 unfold putD putK
 rw[A_ g r]
 split
 ·exact uG g av r
 ·exact uH g ak av r
theorem wZ {kvs:List (D×D)}{ps:List (Key×V)}{k:D}{y:Key}(g:fH k=some y)(r:Paired (RKV K H J) kvs ps) :
  (getD kvs k=none/\iU ps y=none)∨∃ d v,getD kvs k=some d/\iU ps y=some v/\At K H J d v:=by
 unfold getD iU
 induction r with
 |nil=>exact .inl ⟨rfl,rfl⟩
 | @cons p q l1 l2 h t ih =>
  rw[List.find?_cons,List.find?_cons,lv h.1.1 g]
  by_cases e:q.1=y
  ·rw[decide_eq_true e]
   exact .inr ⟨p.2,q.2,rfl,rfl,h.2⟩
  ·rw[decide_eq_false e]
   exact ih
theorem lA {α β:Type}{F : α->β->Prop}{l1:List α}{l2:List β}(r:Paired F l1 l2):l1.length=l2.length:=Paired.length r
end
section
variable {X:Cx}{W:WT}{pos pos':Pos}{o i e:Expr}{fo fi fv:Rho->Sto->Out D}
def xv:Rho->Sto->Out D:=λ_ S=>okO (.loc S.length) (S++[.dict []])
theorem StoOk.push {K:PySem.W.Frag}{J:List Addr}{S:Sto}{H:Hp}{p:Addr}{o:HO}{mo:MO}(s:StoOk K J S H)(hp:H p=none)(hm:MAt K (upd H p o) (J++[p]) mo p):StoOk K (J++[p]) (S++[mo]) (upd H p o)/\Ex J H (J++[p]) (upd H p o):=by
 have x:Ex J H (J++[p]) (upd H p o):=⟨⟨[p],rfl⟩,λb u hb nb=>⟨by rw[aA (aR hb hp)];exact hb,λz=>by
  rcases List.mem_append.mp z with z |z
  ·exact nb z
  ·exact aR hb hp (by simpa using z)⟩⟩
 refine⟨⟨by rw[List.length_append,List.length_append,s.len];rfl,?_,λl a mo' h1 h2=>?_⟩,x⟩
 ·rw[List.nodup_append]
  refine⟨s.nd,by simp,λa ha b hb z=>?_⟩
  have:b=p:=by simpa using hb
  subst this
  exact s.tracked ha (z▸hp)
 ·by_cases hl:l<J.length
  ·rw[List.getElem?_append_left hl] at h1
   rw[List.getElem?_append_left (by rw[← s.len];exact hl)] at h2
   have q:=s.at_ l a mo' h1 h2
   refine q.ex x ?_
   rw[aA]
   intro z
   exact q.ne_none (z▸hp)
  ·rw[List.getElem?_append_right (by omega)] at h1
   rw[List.getElem?_append_right (by rw[← s.len];omega)] at h2
   have e0:l-J.length=0:=by
    have:=(List.getElem?_eq_some_iff.mp h1).1
    simp at this;omega
   rw[e0] at h1
   rw[← s.len,e0] at h2
   simp at h1 h2
   subst h1 h2
   exact hm
theorem ye:SE X W (.Dict [] [] pos) xv:=pe_dnewK.imp λσ H Q h=>by
 obtain⟨J,ρ,S,r,S',c,_,e,z⟩:=h
 cases e
 intro p hp
 have q:=c.sto.push (o:=.dK []) (mo:=.dict []) hp ⟨[],aX,.nil⟩
 refine z (J++[p]) _ _ q.2 q.1 (At.loc_iff.mpr ⟨p,rfl,?_⟩)
 rw[← c.sto.len,List.getElem?_append_right (Nat.le_refl _)]
 simp
theorem StoOk.update {K:PySem.W.Frag}{J:List Addr}{S:Sto}{H:Hp}{l:Nat}{a:Addr}{o:HO}{mo:MO}(s:StoOk K J S H)(hl:J[l]?=some a)(hm:∀ J' H',Ex J H J' H'->H'=upd H a o->J'=J->MAt K H' J' mo a):StoOk K J (S.set l mo) (upd H a o)/\Ex J H J (upd H a o):=by
 have hin:a∈J:=List.mem_of_getElem? hl
 have x:Ex J H J (upd H a o):=⟨List.prefix_refl _,λb u hb nb=>⟨by rw[aA (λz:b=a=>nb (by rw[z];exact hin))];exact hb,nb⟩⟩
 refine⟨⟨by rw[List.length_set];exact s.len,s.nd,λj b mo' h1 h2=>?_⟩,x⟩
 by_cases hj:j=l
 ·subst hj
  rw[hl] at h1
  cases h1
  have hlt:j<S.length:=by rw[← s.len];exact (List.getElem?_eq_some_iff.mp hl).1
  rw[List.getElem?_set_self hlt] at h2
  cases h2
  exact hm J _ x rfl rfl
 ·rw[List.getElem?_set_ne (Ne.symm hj)] at h2
  refine (s.at_ j b mo' h1 h2).ex x ?_
  rw[aA]
  intro z
  subst z
  exact hj ((List.getElem?_inj (List.getElem?_eq_some_iff.mp h1).1 s.nd).mp (h1.trans hl.symm))
def yu (x k v:D)(ρ:Rho)(S:Sto):Out Fl:=match x with
 | .loc l=>match S[l]?,fH k with
  |some (.dict kvs),some _=>if kvs.length<sizeLine then okO (.next ρ) (S.set l (.dict (putD kvs k v))) else none
  |_,_=>none
 |_=>none
def zq (fo fi fv:Rho->Sto->Out D):Rho->Sto->Out Fl:=λρ S=>ag (fv ρ S) λv S1=>ag (fo ρ S1) λx S2=>ag (fi ρ S2) λk S3=>yu x k v ρ S3
def tH (X:Cx)(W:WT)(ds:List D)(vs:List V)(g:Rho->Sto->Out Fl):TS:=λE σ H => ∃ J ρ S r S',Cf X J ρ S σ H/\Ats X.K H J ds vs/\g ρ S=some (r,S')/\EndS X W J H r S' E
theorem tH.bindE {fa:Rho->Sto->Out D}{k:D->Rho->Sto->Out Fl}{ds:List D}{vs:List V}{E:Ends}{σ:St}{H:Hp}
  (h:tH X W ds vs (λρ S=>ag (fa ρ S) λd S1=>k d ρ S1) E σ H):tE X W fa σ H λv H1 => ∃ d,tH X W (d::ds) (v::vs) (k d) E σ H1:=by
 obtain⟨J,ρ,S,r,S',c,a,e,z⟩:=h
 cases q:fa ρ S with
 |none=>simp[q] at e
 |some o =>
  obtain⟨ro,S1⟩:=o
  simp only[q] at e
  cases ro with
  |error x =>
   cases e
   exact⟨J,ρ,S,.error x,_,c,.nil,q,z⟩
  |ok d=>exact⟨J,ρ,S,.ok d,S1,c,.nil,q,λJ1 H1 v x s1 m=>⟨d,J1,ρ,S1,r,S',c.re x s1,.cons m (a.ex x),e,z.ex x⟩⟩
theorem wV {k:D}{y:Key}{K:PySem.W.Frag}{H:Hp}{J:List Addr}{v:V}(g:fH k=some y)(a:At K H J k v):v=kV y:=by
 cases k with
 |int i=>cases g;exact At.int_iff.mp a
 |str x=>cases g;exact (At.str_iff.mp a).1
 |_=>cases g
theorem zY (hu:X.A.units+1<cLine)(ho:SE X W o fo)(hi:SE X W i fi)(hv:SE X W e fv)(hs:swapsWith e (some (.Subscript o i pos')) pos.line X.env=pure false:=by rfl):SS X W (.Assign [.Subscript o i pos'] e pos) (zq fo fi fv):=
 (yy hu ho hi hv hs).imp λE σ H h=>by
  have h:tH X W [] [] (zq fo fi fv) E σ H:=let ⟨J,ρ,S,r,S',c,e,z⟩:=h;⟨J,ρ,S,r,S',c,.nil,e,z⟩
  refine (tH.bindE h).mono λv H1 ⟨dv,h1⟩=>(tH.bindE h1).mono λx H2 ⟨dx,h2⟩=>(tH.bindE h2).mono λy H3 ⟨dk,h3⟩=>?_
  obtain⟨J,ρ,S,r,S',c,m,e,z⟩:=h3
  obtain⟨mk,m⟩:=m.uncons
  obtain⟨mx,m⟩:=m.uncons
  obtain⟨mv,_⟩:=m.uncons
  unfold yu at e
  cases dx with
  |loc l =>
   simp only at e
   split at e
   ·rename_i kvs yk es ek
    split at e
    ·rename_i lt
     cases e
     obtain⟨a,rfl,ha⟩:=At.loc_iff.mp mx
     obtain⟨ps,eh,rp⟩:=c.sto.at_ l a _ ha es
     have ey:=wV ek mk
     subst ey
     have q:=c.sto.update (o:=.dK (putK ps yk v)) (mo:=.dict (putD kvs dk dv)) ha λJ' H' x' eH eJ=>by
      subst eH eJ
      refine⟨_,aX,Af ek (mk.ex x') (mv.ex x') ?_⟩
      exact Paired.mapP rp λp q z=>⟨⟨z.1.1,z.1.2.ex x'⟩,z.2.ex x'⟩
     exact⟨a,_,rfl,DPut.k eh (by rw[← lA rp];exact lt),z J σ _ q.2 (c.re q.2 q.1)⟩
    ·cases e
   ·cases e
  |_=>cases e
noncomputable def AX (neg:Bool)(k x:D)(S:Sto):Option D:=match x with
 | .loc l=>match S[l]?,fH k with
  |some (.dict kvs),some _=>some (.bl (if neg then !(getD kvs k).isSome else (getD kvs k).isSome))
  |_,_=>none
 |_=>none
def vp (neg:Bool)(fk fd:Rho->Sto->Out D):Rho->Sto->Out D:=λρ S=>ag (fk ρ S) λk S1=>ag (fd ρ S1) λx S2=>aG (AX neg k x S2) S2
theorem l8 {neg:Bool}{σ:St}{H:Hp}{Q:VK}(h:tE X W (vp neg fi fo) σ H Q):tE X W fi σ H λy H1=>tE X W fo σ H1 λx H2 => ∃ a o,x = .ref a/\DGet H2 a y o/\Q (.bl (if neg then !o.isSome else o.isSome)) H2:=
 (tG.bindE h).mono λy H1 ⟨dk,h1⟩=>(tG.bindE h1).mono λx H2 ⟨dx,h2⟩=>by
  obtain⟨J,ρ,S,r,S',c,m,e,z⟩:=h2
  obtain⟨mx,m⟩:=m.uncons
  obtain⟨mk,_⟩:=m.uncons
  unfold AX at e
  cases dx with
  |loc l =>
   simp only at e
   split at e
   ·rename_i kvs yk es ek
    cases e
    obtain⟨a,rfl,ha⟩:=At.loc_iff.mp mx
    obtain⟨ps,eh,rp⟩:=c.sto.at_ l a _ ha es
    have ey:=wV ek mk
    subst ey
    refine⟨a,_,rfl,DGet.k eh,?_⟩
    have q:=z J H2 _ Ex.refl c.sto (At.bl_iff.mpr rfl)
    rcases wZ ek rp with ⟨g1,g2⟩ |⟨d,v,g1,g2,_⟩
    ·rw[g1] at q;rw[g2];exact q
    ·rw[g1] at q;rw[g2];exact q
   ·cases e
  |_=>cases e
theorem Aa (hu:X.A.units+1<cLine)(hi:SE X W i fi)(ho:SE X W o fo)(hm:behindInMarks .In o=false:=by with_unfolding_all rfl):SE X W (.Compare i [.In] [o] pos) (vp false fi fo):=
 (Au (wt hu hi ho) hm).imp λσ H Q h=>l8 (neg:=false) h
theorem zV (hu:X.A.units+1<cLine)(hi:SE X W i fi)(ho:SE X W o fo)(hm:behindInMarks .In o=false:=by with_unfolding_all rfl):TS1 X W (.Compare i [.In] [o] pos) (aV (vp false fi fo)):=
 (v9 (wt hu hi ho) hm).imp λσ H Q h=>tTest.mono (t:=Bm (tE X W fi) (tE X W fo)) (λ_ _ _=>l8 (neg:=false)) (fL h)
theorem uo (hu:X.A.units+1<cLine)(hi:SE X W i fi)(ho:SE X W o fo)(hm:behindInMarks .NotIn o=false:=by with_unfolding_all rfl):TS1 X W (.Compare i [.NotIn] [o] pos) (aV (vp true fi fo)):=
 (v9 (uL hu hi ho) hm).imp λσ H Q h=>tTest.mono (t:=sT (tE X W fi) (tE X W fo)) (λ_ _ _=>l8 (neg:=true)) (fL h)
noncomputable def xi (x k:D)(S:Sto):Option D:=match x with
 | .loc l=>match S[l]?,fH k with
  |some (.dict kvs),some _=>getD kvs k
  |_,_=>none
 |_=>none
def B2 (fd fk:Rho->Sto->Out D):Rho->Sto->Out D:=λρ S=>ag (fd ρ S) λx S1=>ag (fk ρ S1) λk S2=>aG (xi x k S2) S2
theorem yj (hu:X.A.units+1<cLine)(ho:SE X W o fo)(hi:SE X W i fi)(hs:zy i):SE X W (.Subscript o i pos) (B2 fo fi):=(yF hu ho hi hs).imp λσ H Q h =>
 (tG.bindE h).mono λx H1 ⟨dx,h1⟩=>(tG.bindE h1).mono λy H2 ⟨dk,h2⟩=>by
  obtain⟨J,ρ,S,r,S',c,m,e,z⟩:=h2
  obtain⟨mk,m⟩:=m.uncons
  obtain⟨mx,_⟩:=m.uncons
  unfold xi at e
  cases dx with
  |loc l =>
   simp only at e
   split at e
   ·rename_i kvs yk es ek
    obtain⟨a,rfl,ha⟩:=At.loc_iff.mp mx
    obtain⟨ps,eh,rp⟩:=c.sto.at_ l a _ ha es
    have ey:=wV ek mk
    subst ey
    rcases wZ ek rp with ⟨g1,g2⟩ |⟨d,v,g1,g2,av⟩
    ·rw[g1] at e;cases e
    ·rw[g1] at e
     cases e
     exact⟨a,v,rfl,by rw[← g2];exact DGet.k eh,z J H2 _ Ex.refl c.sto av⟩
   ·cases e
  |_=>cases e
end
section
variable {X:Cx}{W:WT}
theorem SE.either {e:Expr}{g g1 g2:Rho->Sto->Out D}(h1:SE X W e g1)(h2:SE X W e g2)(h:∀ ρ S,g ρ S=g1 ρ S∨g ρ S=g2 ρ S):SE X W e g:=λpins s σ H Q I z=>by
 obtain⟨J,ρ,S,r,S',c,a,e,y⟩:=z
 rcases h ρ S with q |q
 ·exact h1 pins s σ H Q I ⟨J,ρ,S,r,S',c,a,by rw[← q];exact e,y⟩
 ·exact h2 pins s σ H Q I ⟨J,ρ,S,r,S',c,a,by rw[← q];exact e,y⟩
theorem TS1.either {e:Expr}{g g1 g2:Rho->Sto->Out Bool}(h1:TS1 X W e g1)(h2:TS1 X W e g2)(h:∀ ρ S,g ρ S=g1 ρ S∨g ρ S=g2 ρ S):TS1 X W e g:=λpins s σ H Q I z=>by
 obtain⟨J,ρ,S,r,S',c,a,e,y⟩:=z
 rcases h ρ S with q |q
 ·exact h1 pins s σ H Q I ⟨J,ρ,S,r,S',c,a,by rw[← q];exact e,y⟩
 ·exact h2 pins s σ H Q I ⟨J,ρ,S,r,S',c,a,by rw[← q];exact e,y⟩
theorem SI.either {tg e:Expr}{g g1 g2:Rho->Sto->Out (List D)}(h1:SI X W tg e g1)(h2:SI X W tg e g2)(h:∀ ρ S,g ρ S=g1 ρ S∨g ρ S=g2 ρ S):SI X W tg e g:=λpins s σ H R I z=>by
 obtain⟨J,ρ,S,r,S',c,e,y⟩:=z
 rcases h ρ S with q |q
 ·exact h1 pins s σ H R I ⟨J,ρ,S,r,S',c,by rw[← q];exact e,y⟩
 ·exact h2 pins s σ H R I ⟨J,ρ,S,r,S',c,by rw[← q];exact e,y⟩
theorem da {α β:Type}(m:Out α){k k1 k2 : α->Sto->Out β}(h:∀ a S,k a S=k1 a S∨k a S=k2 a S):ag m k=ag m k1∨ag m k=ag m k2:=by
 cases m with
 |none=>exact .inl rfl
 |some o =>
  obtain⟨r,S⟩:=o
  cases r with
  |error c=>exact .inl rfl
  |ok a=>exact h a S
noncomputable def bN:D->Bool
 | .loc _=>true
 |_=>false
noncomputable def ixO (x i:D)(S:Sto):Option D:=if bN x=true then xi x i S else ixD x i
def cIx (fa fb:Rho->Sto->Out D):Rho->Sto->Out D:=λρ S=>ag (fa ρ S) λx S1=>ag (fb ρ S1) λi S2=>aG (ixO x i S2) S2
variable {a b:Expr}{fa fb:Rho->Sto->Out D}{pos:Pos}
theorem bn (hu:X.A.units+1<cLine)(ha:SE X W a fa)(hb:SE X W b fb)(hs:zy b:=by exact λ_ _=>rfl):SE X W (.Subscript a b pos) (cIx fa fb):=
 SE.either (yj hu ha hb hs) (Br ixd ha hb hs) λρ S=>da _ λx S1=>by
  by_cases h:bN x=true
  ·refine .inl (congrArg (ag (fb ρ S1)) (funext λi=>funext λS2=>?_));unfold ixO;rw[if_pos h]
  ·refine .inr (congrArg (ag (fb ρ S1)) (funext λi=>funext λS2=>?_));unfold ixO;rw[if_neg h]
noncomputable def inO (neg:Bool)(k x:D)(S:Sto):Option D:=if bN x=true then AX neg k x S else (if neg=true then oH k x else inD k x)
def cIn (neg:Bool)(fk fd:Rho->Sto->Out D):Rho->Sto->Out D:=λρ S=>ag (fk ρ S) λk S1=>ag (fd ρ S1) λx S2=>aG (inO neg k x S2) S2
theorem jQ (neg:Bool)(fk fd:Rho->Sto->Out D)(ρ:Rho)(S:Sto):cIn neg fk fd ρ S=vp neg fk fd ρ S∨cIn neg fk fd ρ S=ap (if neg=true then oH else inD) fk fd ρ S:=by
 unfold cIn vp ap
 refine da _ λk S1=>da _ λx S2=>?_
 unfold inO
 by_cases h:bN x=true
 ·exact .inl (by rw[if_pos h])
 ·refine .inr ?_
  rw[if_neg h]
  cases neg<;>rfl
variable (hu:X.A.units+150<cLine) (hu1:X.A.units+1<cLine)
include hu hu1
theorem z9 (hu2:X.A.units+151<cLine)(ha:SE X W a fa)(hb:SE X W b fb)(hm:behindInMarks .In b=false:=by with_unfolding_all rfl):SE X W (.Compare a [.In] [b] pos) (cIn false fa fb):=
 SE.either (Aa hu1 ha hb hm) (cN (zH hu2) ha hb hm) λρ S=>jQ false fa fb ρ S
theorem k8 {f f1 f2:Rho->Sto->Out D}{ρ:Rho}{S:Sto}(h:f ρ S=f1 ρ S∨f ρ S=f2 ρ S):aV f ρ S=aV f1 ρ S∨aV f ρ S=aV f2 ρ S:=by
 unfold aV
 rcases h with h |h
 ·exact .inl (by rw[h])
 ·exact .inr (by rw[h])
theorem vD (hu2:X.A.units+151<cLine)(ha:SE X W a fa)(hb:SE X W b fb)(hm:behindInMarks .In b=false:=by with_unfolding_all rfl):TS1 X W (.Compare a [.In] [b] pos) (aV (cIn false fa fb)):=
 TS1.either (zV hu1 ha hb hm) (aT (zH hu2) ha hb hm) λρ S=>k8 hu hu1 (jQ false fa fb ρ S)
theorem um (hu2:X.A.units+151<cLine)(ha:SE X W a fa)(hb:SE X W b fb)(hm:behindInMarks .NotIn b=false:=by with_unfolding_all rfl):TS1 X W (.Compare a [.NotIn] [b] pos) (aV (cIn true fa fb)):=
 TS1.either (uo hu1 ha hb hm) (aT (wv hu2) ha hb hm) λρ S=>k8 hu hu1 (jQ true fa fb ρ S)
omit hu hu1
noncomputable def fQ:D->Option (List D)
 | .tup xs=>some xs
 | .lst xs=>some xs
 | .str x=>some (x.cps.toList.map λc=>D.str ⟨#[c]⟩)
 |_=>none
def iG (f:Rho->Sto->Out D):Rho->Sto->Out (List D):=λρ S=>ag (f ρ S) λd S1=>aG (fQ d) S1
theorem on {tg:Expr}(ha:SE X W a fa):SI X W tg a (iG fa):=by
 refine SI.either (g1:=su fa) (g2:=λρ S=>ag (fa ρ S) λd S1=>aG (match d with | .lst xs=>some xs | .str x=>some (x.cps.toList.map λc=>D.str ⟨#[c]⟩) |_=>none) S1) (z6 ha) (SI.either (z8 ha) (z7 ha) λρ S=>?_) λρ S=>?_
 ·unfold xw xr
  refine da _ λd S1=>?_
  cases d<;>first |exact .inl rfl |exact .inr rfl
 ·unfold iG su
  refine da _ λd S1=>?_
  cases d<;>first |exact .inl rfl |exact .inr rfl
end
noncomputable def cF (n m:Nat) (G:Rho->Sto->Out Fl):List D->Sto->Out D:=λds S=>if ds.length=n then
  match G (ds.map some++List.replicate m none) S with
  |some (.ok (.ret d),S')=>some (.ok d,S')
  |some (.ok (.next _),S')=>some (.ok .non,S')
  |_=>none
 else none
def bO (K:PySem.W.Frag)(mg:Str->Option Value)(x:Str)(st:Stmt)(ps:List Str):Prop:=∃ f fd,Fun K x x st f fd/\mg x=some (.ref f)/\Binds K fd ps []
def Cal (P:Program)(w:World)(K:PySem.W.Frag)(mg:Str->Option Value)(base:Heap)(k:Nat)(x:Str)(ps:List Str)(F:List D->Sto->Out D):Prop:=
 ∃ f fd,FnD P w K mg base k f fd ps F/\mg x=some (.ref f)/\PySem.W.keepIn K (.ref f)=true/\Binds K fd ps []
section
variable {P:Program}{w:World}{K:PySem.W.Frag}{mg:Str->Option Value}{base:Heap}
theorem l5 {x:Str}{st:Stmt}{sc:Scope}{N ps:List Str}{k:Nat}{G:Rho->Sto->Out Fl}{f:Addr}{fd:FuncData}(Fn:Fun K x x st f fd)(hsc:ar st=sc)(Sc:FnScope N ps sc)
  (h:∀ (f:Addr) (cdv:Value) (A:Around) (outer:List Env) (s:Shared) (H:Hp) (E:XK),Room k (A.deeper (envOfC x sc s.heap.objs.size f cdv))->SSs (cT CX0 P w K mg base N x sc f cdv A outer s H E).nox W0 (aW st) G) :
  FnD P w K mg base (k+1) f fd ps (cF ps.length (N.length-ps.length) G):=by
 subst hsc
 refine tX Fn Sc (λds S r e=>?_) λcdv A outer s H E hr=>⟨G,h f cdv A outer s H E hr,λds S d S' e=>?_⟩
 ·unfold cF at e
  split at e
  ·assumption
  ·cases e
 ·unfold cF at e
  split at e
  ·rename_i hl
   rw[hl]
   split at e
   ·rename_i d0 S0 q
    cases e
    exact⟨_,q,.inl rfl⟩
   ·rename_i ρ0 S0 q
    cases e
    exact⟨_,q,.inr ⟨rfl,ρ0,rfl⟩⟩
   ·cases e
  ·cases e
theorem cy {x:Str}{st:Stmt}{sc:Scope}{N ps:List Str}{k:Nat}{G:Rho->Sto->Out Fl}(Dd:bO K mg x st ps)(hsc:ar st=sc)(Sc:FnScope N ps sc)
  (h:∀ (f:Addr) (cdv:Value) (A:Around) (outer:List Env) (s:Shared) (H:Hp) (E:XK),Room k (A.deeper (envOfC x sc s.heap.objs.size f cdv))->SSs (cT CX0 P w K mg base N x sc f cdv A outer s H E).nox W0 (aW st) G) :
  Cal P w K mg base (k+1) x ps (cF ps.length (N.length-ps.length) G):=by
 obtain⟨f,fd,Fn,hm,hb⟩:=Dd
 exact⟨f,fd,l5 Fn hsc Sc h,hm,Fn.kp,hb⟩
theorem mf {x:Str}{st:Stmt}{ps:List Str}{k:Nat}(Dd:bO K mg x st ps):Cal P w K mg base k x ps (λ_ _=>none):=by
 obtain⟨f,fd,Fn,hm,hb⟩:=Dd
 have no:∀ vs H Q E,¬ spD K (λ_ _=>none) vs H Q E:=λvs H Q E h=>by
  obtain⟨J,S,ds,d,S',_,_,e,_⟩:=h
  cases e
 exact⟨f,fd,⟨λvs H Q E h=>absurd h (no vs H Q E),λA outer s H args us vs Q E _ _ _ _ h=>absurd h (no vs H Q E)⟩,hm,Fn.kp,hb⟩
theorem bZ {A:Around}{k:Nat}(hr:Room k A):A.units+150<cLine:=by have:=hr.un;omega
theorem bY {A:Around}{k:Nat}(hr:Room k A):A.units+151<cLine:=by have:=hr.un;omega
end
section
variable {X:Cx}{W:WT}{x:Str}{p pos:Pos}{e:Expr}{es:List Expr}{gs:Rho->Sto->Out (List D)}
theorem aM {k:Nat}{ps:List Str}{F:List D->Sto->Out D}(C:Cal X.prog X.w X.K X.mg X.base k x ps F)(hr:Room k X.A)
  (ha:SA X W (e::es) gs) (hg:Gl X x:=by rfl) (hdb:(x==("__debug__":Str))=false:=by decide) (he:starEach (e::es) X.env=(false,eval e X.env)::starEach es X.env:=by rfl) (hpl:(backTo pos (starEach es X.env)).any (·.1)=false:=by rfl) :
  SE X W (.Call (.Name x p) (e::es) [] pos) (bp F gs):=by
 obtain⟨f,fd,G,hm,hk,hb⟩:=C
 exact yl G hr hm hk hb ha hg hdb he hpl
end
def sZ (K:PySem.W.Frag)(n:Nat):Sp:=λvs H Q _ => ∃ (a:Addr) (ns:List Int),vs=[.ref a]/\SqL K H a (ns.map V.int)/\ns.length<=n/\∀ H',Q (.bl true) H'
theorem AF {P:Program}{w:World}{K:PySem.W.Frag}{mg:Str->Option Value}{base:Heap}{k n:Nat}{f:Addr}{fd:FuncData}{ps:List Str}{F:List D->Sto->Out D}(h:FnD P w K mg base k f fd ps F)(hn:n<=1000)
  (hF:∀ ns:List Int,ns.length<=n->∃ S',F [.lst (ns.map .int)] []=some (.ok (.bl true),S')):FnOk P w K mg base CX0 k f fd ps (sZ K n):=by
 refine FnOk.imp h λvs H Q E ⟨a,ns,e,hS,hl,q⟩=>?_
 subst e
 obtain⟨S',eF⟩:=hF ns hl
 refine⟨[],[],[.lst (ns.map .int)],.bl true,S',.cons (At.lst_iff.mpr ⟨a,ns.map V.int,rfl,?_,Ats.ofInts ns⟩) .nil,⟨rfl,.nil,λl a o h=>by simp at h⟩,eF,λJ' H' v _ _ m=>?_⟩
 ·rcases hS with z |z
  ·exact .inl ⟨z,by simp,by rw[List.length_map];exact Nat.le_trans hl (Nat.le_trans hn (by decide))⟩
  ·exact .inr z
 ·rw[At.bl_iff.mp m];exact q H'
theorem law_walk {l:PySem.W.OpenLaw}{q:Program}{loose:List Str}{XP:(Str->Option Value)->Heap->Prop}{YP:World->Heap->Prop}{d:DefRec}{K:Params->PySem.W.Frag}{k:Nat}{x:Str}(hn:l.most=some 63)(hdf:d.params.defaults=[])(hr:Room k callerA)
  (hY:∀ (w:World) (h:Heap),YP w h->(K w.params).In h)
  (F:∀ (w:World) (mg:Str->Option Value) (fa:Addr) (h:Heap),(K w.params).In h->h.Ns mainGlobals mg->mg d.name=some (.ref fa) ->
   ∃ fd:FuncData,(∀ (s:Shared) (u:Value),BindsTo s fd ⟨[u],[]⟩ [(x,u)])/\∀ base:Heap,(K w.params).In base->base.Ns mainGlobals mg->FnOk l.prog w (K w.params) mg base CX0 k fa fd [x] (sZ (K w.params) 63)) :
  PySem.W.WalkO q loose XP YP l.row.toRowW d [] (λf vs=>PySem.call f vs):=
 L2.walk_of (n:=63) (k:=k) (x:=x) (CX:=λ_=>CX0) (sp:=λw=>sZ (K w.params) 63) hn (by decide) hdf hr hY F (λ_ _ a ns hl _ hS=>⟨a,ns,rfl,hS,hl,λ_=>rfl⟩) λ_ _ _ _ _ z=>z
def ud (K:PySem.W.Frag)(mg:Str->Option Value)(x:Str)(d:D):Prop:=∃ u,mg x=some u/\qS K u d
theorem oq {X:Cx}{W:WT}{x:Str}{d:D}{pos:Pos}(h:ud X.K X.mg x d)(hg:Gl X x:=by rfl)(hd:(x==("__debug__":Str))=false:=by decide):SE X W (.Name x pos) (ao d):=by
 obtain⟨u,hm,ha⟩:=h
 exact yh hm ha hg hd
noncomputable def jV (u:Value)(d:D):Bool:=match u,d with
 | .int i _,.int j=>decide (i=j)
 | .str x _,.str y=>decide (x=y)&&okB y
 | .none,.non=>true
 | .bool b,.bl c=>b==c
 |_,_=>false
noncomputable def kP:List Value->List D->Bool
 |[],[]=>true
 |u::us,d::ds=>jV u d&&kP us ds
 |_,_=>false
noncomputable def r_ (o:Obj)(d:D):Bool:=match d with
 | .tup ds=>decide (o.cls = .type "tuple")&&o.dict.isNone&&(match o.data with
  | .seq its _=>decide (its.size<=sizeLine)&&kP its.toList ds
  |_=>false)
 |_=>false
theorem nP {K:PySem.W.Frag}{u:Value}{d:D}(h:jV u d=true):qS K u d:=by
 unfold jV at h
 split at h
 ·rename_i i t j
  exact⟨.int i,⟨t,rfl⟩,λ_ _=>At.int_iff.mpr (by rw[of_decide_eq_true h])⟩
 ·rename_i x t y
  rw[Bool.and_eq_true] at h
  exact⟨.str x,⟨t,rfl⟩,λ_ _=>At.str_iff.mpr ⟨by rw[of_decide_eq_true h.1],lB h.2⟩⟩
 ·exact⟨.non,rfl,λ_ _=>At.non_iff.mpr rfl⟩
 ·rename_i b c
  exact⟨.bl b,rfl,λ_ _=>At.bl_iff.mpr (by rw[eq_of_beq h])⟩
 ·cases h
theorem ma {K:PySem.W.Frag}:∀ {us:List Value}{ds:List D},kP us ds=true->∃ vs,Vals vs us/\∀ H J,Ats K H J ds vs
 |[],[],_=>⟨[],.nil,λ_ _ => .nil⟩
 |u::us,d::ds,h=>by
  rw[kP,Bool.and_eq_true] at h
  obtain⟨v,r,a⟩:=nP (K:=K) h.1
  obtain⟨vs,rs,as⟩:=ma (K:=K) h.2
  exact⟨v::vs,.cons r rs,λH J => .cons (a H J) (as H J)⟩
 |[],_::_,h=>by cases h
 |_::_,[],h=>by cases h
theorem t6 {K:PySem.W.Frag}{u:Value}{d:D}(h:jV u d=true):qS K u d:=nP h
theorem zl {K:PySem.W.Frag}{a:Addr}{o:Obj}{d:D}(l:K.lookup a=some o)(h:r_ o d=true):qS K (.ref a) d:=by
 unfold r_ at h
 split at h
 ·rename_i ds
  rw[Bool.and_eq_true,Bool.and_eq_true] at h
  obtain⟨⟨h1,h0⟩,h2⟩:=h
  split at h2
  ·rename_i its n hd
   rw[Bool.and_eq_true] at h2
   obtain⟨vs,rs,as⟩:=ma (K:=K) h2.2
   exact⟨.ref a,rfl,λH J=>At.tup_iff.mpr ⟨a,vs,rfl,.inr ⟨o,its,n,l,of_decide_eq_true h1,Option.isNone_iff_eq_none.mp h0,hd,of_decide_eq_true h2.1,rs⟩,as H J⟩⟩
  ·cases h2
 ·cases h
theorem fw:bootBuiltins "len"=some (.builtin "len"):=by decide +kernel
theorem dL:bootBuiltins "tuple"=some (.type "tuple"):=by decide +kernel
theorem pc:bootBuiltins "int"=some (.type "int"):=by decide +kernel
theorem mi:bootBuiltins "str"=some (.type "str"):=by decide +kernel
theorem zt:bootBuiltins "bool"=some (.type "bool"):=by decide +kernel
theorem A9:bootBuiltins "set"=some (.type "set"):=by decide +kernel
theorem xC:bootBuiltins "all"=some (.builtin "all"):=by decide +kernel
theorem jZ:bootBuiltins "sorted"=some (.builtin "sorted"):=by decide +kernel
end L2
namespace L2
open PySem
section
variable {prog:Program}{w:World}{K:Type} [DecidableEq K]
abbrev qR (knd:KeyKind prog w K):K->Int×Value->Prop:=λk e=>knd.is k e.2=true/\e.1=knd.hash k/\e.2.scannable=true
def SetK (knd:KeyKind prog w K)(pk:K->Bool)(led:Bool)(h:Heap)(a:Addr)(ks:List K):Prop:=
 ∃ o es ep t,h.get? a=some o/\o.ExactSet/\o.data = .set es ep t/\(∃ l:List (Int×Value),l.Perm es.toList/\Paired (qR knd) ks l) /\
  es.size<scanBound/\t.fits es.size=true/\t.led=led/\(t.plain=true->∀ k∈ks,pk k=true)
theorem lw {α β:Type}{F : α->β->Prop}{l:List α}{m:List β}(r:Paired F l m):∀ b∈m,∃ a∈l,F a b:=by
 induction r with
 |nil=>intro b hb;cases hb
 |cons f t ih =>
  intro b hb
  rcases List.mem_cons.mp hb with rfl |hb
  ·exact⟨_,List.mem_cons_self ..,f⟩
  ·obtain⟨a,ha,hf⟩:=ih b hb;exact⟨a,List.mem_cons_of_mem _ ha,hf⟩
theorem pT {α β:Type}{F : α->β->Prop}{l:List α}{m:List β}(r:Paired F l m):∀ a∈l,∃ b∈m,F a b:=by
 induction r with
 |nil=>intro b hb;cases hb
 |cons f t ih =>
  intro b hb
  rcases List.mem_cons.mp hb with rfl |hb
  ·exact⟨_,List.mem_cons_self ..,f⟩
  ·obtain⟨a,ha,hf⟩:=ih b hb;exact⟨a,List.mem_cons_of_mem _ ha,hf⟩
theorem pS {α β:Type}{F : α->β->Prop}{l:List α}{m:List β}(r:Paired F l m){a : α}{b : β}(f:F a b):Paired F (l++[a]) (m++[b]):=by
 induction r with
 |nil=>exact .cons f .nil
 |cons g t ih=>exact .cons g ih
theorem kb {α β:Type}{F : α->β->Prop}{l:List α}{m:List β}(r:Paired F l m):l.length=m.length:=by
 induction r with
 |nil=>rfl
 |cons g t ih=>simp[ih]
variable {knd:KeyKind prog w K}{pk:K->Bool}{led:Bool}
theorem mH (t:SetTable)(n:Nat):(t.orStandIn n).led=t.led/\((t.orStandIn n).plain=true->t.plain=true):=by
 unfold SetTable.orStandIn
 split
 ·exact⟨rfl,id⟩
 ·exact⟨rfl,λz=>by simp[SetTable.standIn] at z⟩
theorem rS (t:SetTable)(es:Array (Int×Value))(h:Int)(x:Value):(layNew t es h x).2.1.led=t.led/\((layNew t es h x).2.1.plain=true->t.plain=true):=by
 unfold layNew
 split
 ·rename_i slot wd _
  exact mH (t.put slot).1 _
 ·exact⟨rfl,λz=>by simp[SetTable.standIn] at z⟩
theorem rD {t t':SetTable}{hs:Array Int}{n:Nat}{order:Array Nat}(h:t.relaid hs n=some (t',order)):t'.led=t.led/\t'.plain=t.plain:=by
 unfold SetTable.relaid SetTable.laid at h
 cases hc:SetTable.layClean (SetTable.sizeAbove n-1) hs with
 |none=>simp[hc] at h
 |some o =>
  simp only[hc,Option.bind_eq_bind,Option.bind_some,Option.pure_def,Option.some.injEq,Prod.mk.injEq] at h
  obtain⟨rfl,_⟩:=h
  exact⟨rfl,rfl⟩
theorem oC (t:SetTable)(es:Array (Int×Value))(n:Nat):(relayAll t es n).2.1.led=t.led/\((relayAll t es n).2.1.plain=true->t.plain=true):=by
 unfold relayAll
 split
 ·rename_i t' order e
  obtain⟨h1,h2⟩:=rD e
  dsimp only
  split
  ·exact⟨h1,λz=>by rw[← h2];exact z⟩
  ·exact⟨rfl,λz=>by simp[SetTable.standIn] at z⟩
 ·exact⟨rfl,λz=>by simp[SetTable.standIn] at z⟩
theorem SetK.elems {h:Heap}{a:Addr}{ks:List K}{es:Array (Int×Value)}(hl:∃ l:List (Int×Value),l.Perm es.toList/\Paired (qR knd) ks l):ElemsOf knd es.toList:=λe he=>by
 obtain⟨l,p,r⟩:=hl
 obtain⟨k,_,h1,h2,h3⟩:=lw r e (p.mem_iff.mpr he)
 exact⟨⟨k,h1,h2⟩,h3⟩
theorem SetK.mem {ks:List K}{es:Array (Int×Value)}(hl:∃ l:List (Int×Value),l.Perm es.toList/\Paired (qR knd) ks l)(k:K):k∈ks↔∃ e∈es.toList,knd.is k e.2=true:=by
 obtain⟨l,p,r⟩:=hl
 constructor
 ·intro hk
  obtain⟨e,he,h1,_⟩:=pT r k hk
  exact⟨e,p.mem_iff.mp he,h1⟩
 ·rintro⟨e,he,h1⟩
  obtain⟨k',hk',h2,_⟩:=lw r e (p.mem_iff.mpr he)
  rw[knd.inj e.2 k k' h1 h2];exact hk'
noncomputable def bQ (ks:List K)(k:K):List K:=if k∈ks then ks else ks++[k]
variable {A:Around}{E:Value->Shared->Prop}{s:Shared}
theorem SetK.stored {h:Heap}{a:Addr}{o:Obj}{es:Array (Int×Value)}{ep:Nat}{t:SetTable}(ho:h.get? a=some o)(hex:o.ExactSet)(hd:o.data = .set es ep t){es':Array (Int×Value)}{t':SetTable}{ks:List K}
  (hl:∃ l:List (Int×Value),l.Perm es'.toList/\Paired (qR knd) ks l) (hb:es'.size<scanBound) (hf:t'.fits es'.size=true) (hled:t'.led=led) (hp:t'.plain=true->∀ k∈ks,pk k=true) :
  (h.update a (Obj.putSet es' t')).get? a=some { o with data:=.set es' (ep+1) t' }/\SetK knd pk led (h.update a (Obj.putSet es' t')) a ks:=by
 have g:(h.update a (Obj.putSet es' t')).get? a=some { o with data:=.set es' (ep+1) t' }:=by
  have q:=Heap.get?_update_self (Obj.putSet es' t') ho (by rw[putSet_of es' t' hd];rfl)
  rw[putSet_of es' t' hd] at q;exact q
 exact⟨g,_,es',ep+1,t',g,hex,rfl,hl,hb,hf,hled,hp⟩
theorem lZ (b:Bool){s₁:Shared}{Q':Unit->Shared->Prop}(hq:Q' () s₁):wpAny (model prog w) A (match b with |true=>rule "set.scan.the-table-gave-way" |false=>pure ()) Q' E s₁:=by
 cases b
 ·exact wpAny_pure hq
 ·exact wpAny_rule hq
theorem ti {g:Bool->Sem Unit}(hg:∀ (b:Bool) (s₁:Shared) (Q':Unit->Shared->Prop),Q' () s₁->wpAny (model prog w) A (g b) Q' E s₁)
  {a:Addr}{o:Obj}{es:Array (Int×Value)}{ep:Nat}{t:SetTable}(ho:s.heap.get? a=some o) (hex:o.ExactSet) (hd:o.data = .set es ep t)
  {es1:Array (Int×Value)}{t2:SetTable}{ks:List K}(hl:∃ l:List (Int×Value),l.Perm es1.toList/\Paired (qR knd) ks l)
  (hb:es1.size<scanBound) (hf:t2.fits es1.size=true) (hled:t2.led=led) (hp:t2.plain=true->∀ k∈ks,pk k=true) {wasDummy:Bool}{R:Option Bool->Shared->Prop}
  (h:∀ h',Heap.SameBut a s.heap h'->SetK knd pk led h' a ks->R (some true) { s with heap:=h' }) :
  wpAny (model prog w) A (do
    storeSet a es1 t2
    if (!wasDummy&&t2.tooFull)=true then do
      g (relayAll t2 es1 (SetTable.grown es1.size)).2.2
      storeSet a (relayAll t2 es1 (SetTable.grown es1.size)).1 (relayAll t2 es1 (SetTable.grown es1.size)).2.1
      pure (some true)
     else pure (some true)) R E s:=by
 obtain⟨ho1,hS1⟩:=SetK.stored (knd:=knd) (pk:=pk) ho hex hd hl hb hf hled hp
 refine wpAny_bind (wpAny_storeSet_of ho hd ?_ (fits_of_scanBound hb))
 have sb:=Heap.SameBut.update s.heap a (Obj.putSet es1 t2)
 split
 ·have q1:=relayAll_perm t2 es1 (SetTable.grown es1.size)
  have q2:=relayAll_fits t2 es1 (SetTable.grown es1.size)
  have q3:=oC t2 es1 (SetTable.grown es1.size)
  revert q1 q2 q3
  generalize relayAll t2 es1 (SetTable.grown es1.size)=Y
  intro q1 q2 q3
  obtain⟨es2,t3,gv⟩:=Y
  simp only at q1 q2 q3 ⊢
  have z:es2.size=es1.size:=by have:=q1.length_eq;simpa using this
  obtain⟨l,p,r⟩:=hl
  have b2:es2.size<scanBound:=by rw[z];exact hb
  obtain⟨_,hS2⟩:=SetK.stored (knd:=knd) (pk:=pk) (led:=led) ho1 hex rfl ⟨l,p.trans q1.symm,r⟩ b2 q2 (q3.1.trans hled) λy=>hp (q3.2 y)
  exact wpAny_bind (hg _ _ _ (wpAny_bind (wpAny_storeSet_of ho1 rfl (wpAny_pure (h _ (sb.trans (Heap.SameBut.update _ a _)) hS2)) (fits_of_scanBound b2))))
 ·exact wpAny_pure (h _ sb hS1)
theorem ya {a:Addr}{ks:List K}{k:K}{x:Value}{Q:Bool->Shared->Prop}(hpk:plainKind x=pk k)(hkey:knd.is k x=true)(hsc:x.scannable=true)(hS:SetK knd pk led s.heap a ks)(hroom:ks.length+1<scanBound)
  (h:∀ b h',Heap.SameBut a s.heap h'->SetK knd pk led h' a (bQ ks k)->Q b { s with heap:=h' }):wpAny (model prog w) A (setAddHashed a x (knd.hash k)) Q E s:=by
 obtain⟨o,es,ep,t,ho,hex,hd,hl,hb,hf,hled,hp⟩:=hS
 have hel:=SetK.elems (h:=s.heap) (a:=a) hl
 have hn:es.size=ks.length:=by
  obtain⟨l,p,r⟩:=hl
  have e1:=p.length_eq
  have e2:=kb r
  simp only[Array.length_toList] at e1
  omega
 unfold setAddHashed setAddHashedIn
 refine wpAny_holding (wpAny_bind (wpAny_setState_of ho hd hf ?_))
 simp only
 rw[byScan_of hsc hb hel,if_pos rfl]
 unfold setAddByScan
 refine wpAny_bind (wpAny_bind (wpAny_rule (wpAny_bind (wpAny_setScan_of hkey ho hd hf hel ?_))))
 cases hr:List.findIdx? (λe=>knd.is k e.2) es.toList with
 |some j =>
  obtain⟨hj,hpj,_⟩:=List.findIdx?_eq_some_iff_getElem.mp hr
  have hin:k∈ks:=(SetK.mem hl k).mpr ⟨es.toList[j],List.getElem_mem hj,hpj⟩
  refine wpAny_pure (wpAny_pure ?_)
  exact h _ s.heap (Heap.SameBut.refl a s.heap) ⟨o,es,ep,t,ho,hex,hd,by unfold bQ;rw[if_pos hin];exact hl,hb,hf,hled,by unfold bQ;rw[if_pos hin];exact hp⟩
 |none =>
  have hout:k∉ks:=λhk=>by
   obtain⟨e,he,hp⟩:=(SetK.mem hl k).mp hk
   have q:=List.findIdx?_eq_none_iff.mp hr e he
   rw[hp] at q;cases q
  have ek:bQ ks k=ks++[k]:=by unfold bQ;rw[if_neg hout]
  rw[ek] at h
  have q1:=layNew_perm t es (knd.hash k) x
  have q2:=layNew_fits t es (knd.hash k) x
  have q3:=rS t es (knd.hash k) x
  dsimp only
  revert q1 q2 q3
  generalize layNew t es (knd.hash k) x=Y
  intro q1 q2 q3
  obtain⟨es1,t1,wd,gv⟩:=Y
  simp only at q1 q2 q3 ⊢
  rw[Array.toList_push] at q1
  have hl1:∃ l:List (Int×Value),l.Perm es1.toList/\Paired (qR knd) (ks++[k]) l:=by
   obtain⟨l,p,r⟩:=hl
   exact⟨l++[(knd.hash k,x)],(p.append_right _).trans q1.symm,pS r ⟨hkey,rfl,hsc⟩⟩
  have hb1:es1.size<scanBound:=by
   have:=q1.length_eq
   simp only[Array.length_toList,List.length_append,List.length_singleton] at this
   omega
  refine wpAny_bind (lZ gv ?_)
  split
  ·rename_i hpl
   refine wpAny_bind ?_
   rw[hashByValue_scannable 8 hsc]
   refine wpAny_pure ?_
   refine ti (pk:=pk) (led:=led) (λb s₁ Q' hq=>lZ b hq) ho hex hd hl1 hb1 ?_ ?_ ?_ λh' sb hS'=>?_
   ·split
    ·exact q2
    ·exact SetTable.fits_plain_off q2
   ·split
    ·exact q3.1.trans hled
    ·exact q3.1.trans hled
   ·split
    ·rename_i hv
     intro hpl2 k' hk'
     rcases List.mem_append.mp hk' with hk' |hk'
     ·exact hp (q3.2 hpl2) k' hk'
     ·rw[List.mem_singleton.mp hk',← hpk];exact hv
    ·intro z;cases z
   ·exact wpAny_pure (h _ h' sb hS')
  ·rename_i hpl
   refine wpAny_bind (wpAny_pure ?_)
   rw[if_pos rfl]
   refine ti (pk:=pk) (led:=led) (λb s₁ Q' hq=>lZ b hq) ho hex hd hl1 hb1 q2 (q3.1.trans hled) (λz=>absurd z hpl) λh' sb hS'=>?_
   exact wpAny_pure (h _ h' sb hS')
end
namespace SF
theorem ent_loop:entryFor table "set.update.loop"=some Builtin.«set.update.loop»:=entryFor_of_tree (by kernel_rfl)
theorem pl_loop:plainId "set.update.loop"=true:=by decide +kernel
theorem tcall (a:Value):checkTypeCall "set" ⟨[a],[]⟩=pure ():=by kernel_rfl
theorem ncall (a:Value):checkBuiltinCall "set.__new__" ⟨[.type "set",a],[]⟩=pure ():=by kernel_rfl
theorem ent_iter:entryFor table "set.__iter__"=some Builtin.«frozenset.__iter__»:=entryFor_alias (id':="frozenset.__iter__") (by kernel_rfl) rfl (by decide +kernel) (by kernel_rfl)
theorem slot_next:Slot "set_iterator" "__next__" "set_iterator.__next__":=
 .of (owner:="set_iterator") (n:="__next__") (by rw[typeLookup_type,builtinLookup_eq_fast];kernel_rfl) (by decide +kernel) (by decide +kernel) (by decide +kernel)
  (by first |exact .inl (by decide +kernel) |exact .inr (by decide +kernel)) (by rw[isSubtype_type];kernel_rfl)
theorem slot_self:Slot "set_iterator" "__iter__" "set_iterator.__iter__":=
 .of (owner:="set_iterator") (n:="__iter__") (by rw[typeLookup_type,builtinLookup_eq_fast];kernel_rfl) (by decide +kernel) (by decide +kernel) (by decide +kernel)
  (by first |exact .inl (by decide +kernel) |exact .inr (by decide +kernel)) (by rw[isSubtype_type];kernel_rfl)
theorem ent_next:entryFor table "set_iterator.__next__"=some Builtin.«set_iterator.__next__»:=entryFor_of_tree (by kernel_rfl)
theorem own_it:Manifest.owners.lookup (String.ofList ['r','o','t','a','r','e','t','i','_','t','e','s'].reverse)=some Manifest.sig_set_iterator:=by kernel_rfl
theorem args_next (a:Value):argsOk "set_iterator.__next__" ⟨[a],[]⟩:=by
 unfold argsOk;rw[signature?_of (id:="set_iterator.__next__") (n:=['_','_','t','x','e','n','_','_']) (o:=['r','o','t','a','r','e','t','i','_','t','e','s']) (by kernel_rfl) own_it];kernel_rfl
end SF
section
variable {prog:Program}{w:World}{K:Type} [DecidableEq K] {knd:KeyKind prog w K}{pk:K->Bool}{led:Bool}
noncomputable def met (val:Nat->K)(i:Nat):List K:=((List.range i).map val).foldl bQ []
theorem qa (val:Nat->K)(i:Nat):met val (i+1)=bQ (met val i) (val i):=by
 unfold met;rw[List.range_succ,List.map_append,List.foldl_append];rfl
theorem tO (val:Nat->K):∀ i,(met val i).length<=i
 | 0=>Nat.le_refl _
 |i+1=>by
  have ih:=tO val i
  rw[qa];unfold bQ
  split
  ·omega
  ·rw[List.length_append,List.length_singleton];omega
section
variable {A:Around}{R:Result->Shared->Prop}{I:Addr}{fp wr:List Addr}{G:Array GenState->Array GenState->Prop}{n:Nat}{P:Nat->Value->Prop}{St:Nat->Shared->Prop}
theorem SetK.keep {h h':Heap}{a:Addr}{ks:List K}(x:SetK knd pk led h a ks)(e:∀ o,h.get? a=some o->h'.get? a=some o):SetK knd pk led h' a ks:=by
 obtain⟨o,es,ep,t,ho,r⟩:=x
 exact⟨o,es,ep,t,e o ho,r⟩
theorem vX (W:WalksS prog w A.in1 I fp wr G n P St)(S:Addr)(hSf:S∉fp)(val:Nat->K)(hval:∀ i v,P i v->knd.is (val i) v=true/\v.scannable=true/\plainKind v=pk (val i))(hb:n+1<scanBound) :
  ∀ (k i:Nat) (s:Shared),n-i=k->i<=n->St i s->SetK knd pk led s.heap S (met val i) ->
   (∀ s',Moved (S::wr) G s s'->SetK knd pk led s'.heap S (met val n)->R (.ok (.ret .none)) s') ->
   codeAny (model prog w) A (.builtin "set.update.loop" ⟨[.ref S,.ref I],[]⟩) R s:=by
 have hSw:S∉wr:=λh=>hSf (W.sub _ h)
 intro k
 induction k with
 |zero =>
  intro i s hk hi st hS hR
  obtain rfl:i=n:=by omega
  refine codeAny_builtin SF.ent_loop ?_
  rw[Around.under_plainId SF.pl_loop _]
  show wpAny _ A.in1 (pyNext (.ref I) >>= _) _ _ s
  refine wpAny_bind (W.done s _ _ st λs' hm=>?_)
  show wpAny _ A.in1 (ret Value.none) _ _ s'
  exact wpAny_pure (hR s' (hm.mono λb hb=>List.mem_cons_of_mem _ hb) (hS.keep λo e=>hm.heap S o hSw e))
 |succ k ih =>
  intro i s hk hi st hS hR
  have hlt:i<n:=by omega
  refine codeAny_builtin SF.ent_loop ?_
  rw[Around.under_plainId SF.pl_loop _]
  show wpAny _ A.in1 (pyNext (.ref I) >>= _) _ _ s
  refine wpAny_bind (W.item i s _ _ hlt st λv s' hP st' hm=>?_)
  obtain⟨v1,v2,v3⟩:=hval i v hP
  show wpAny _ A.in1 (holding [v] (setAdd S v) >>= _) _ _ s'
  refine wpAny_bind (wpAny_holding ?_)
  unfold setAdd
  refine wpAny_holding (wpAny_bind (knd.pyHash v1 ?_))
  have hr:(met val i).length+1<scanBound:=by have:=tO val i;omega
  refine ya (pk:=pk) (led:=led) (s:={ s' with toks:=s'.toks+1 }) v3 v1 v2 (hS.keep λo e=>hm.heap S o hSw e) hr λb h' sb hS2=>?_
  rw[← qa] at hS2
  refine wpAny_pure ⟨plainId_quiet SF.pl_loop _,ih (i+1) _ (by omega) hlt (W.frame _ s' _ _ st' (Nat.le_succ _) λb hb o e=>?_) hS2 λs'' hm2 hS3=>?_⟩
  ·rw[sb.2 b (λz=>hSf (z▸hb))];exact e
  ·refine hR s'' (Moved.trans W.gtrans ((hm.mono λb hb=>List.mem_cons_of_mem _ hb).then_heap (Nat.le_succ _) λb o nb e=>?_) hm2) hS3
   rw[sb.2 b (λz=>nb (z▸List.mem_cons_self))];exact e
end
section
variable {A:Around}{E:Value->Shared->Prop}{s:Shared}
noncomputable def byT (w:World):Bool:=w.params.followText "set-order"
noncomputable abbrev kA (w:World):Obj:={ cls:=.type "set",dict:=none,data:=.set #[] 0 (.fresh 0 0 (!byT w)) }
theorem vW (a:Value){Q₁:Value->Shared->Prop}(h:Q₁ (.ref s.heap.objs.size) { s with heap:=s.heap.push (kA w) }) :
  codeAny (model prog w) A (.call (.builtin "set.__new__") ⟨[.type "set",a],[]⟩) (wants Q₁ E) s:=by
 refine codeAny_of_tree ?_
 show wpAny _ A.in1 (do checkBuiltinCall "set.__new__" ⟨[.type "set",a],[]⟩;again (.builtin "set.__new__" ⟨[.type "set",a],[]⟩)) _ _ s
 refine wpAny_bind (wpAny_of_eq (SF.ncall a) (wpAny_pure ⟨plainId_quiet F.plain_set_new _,codeAny_builtin F.entry_set_new ?_⟩))
 rw[Around.under_plainId F.plain_set_new _]
 unfold Builtin.«set.__new__» Builtin.Frozenset.newClass
 have q:=sub_set_self
 obtain⟨hp,g,d,tk,os⟩:=s
 dsimp only
 wp_walk
 refine wpAny_askSetting (wpAny_pure ?_)
 simp only[newObj]
 exact wpAny_bind (wpAny_alloc (wpAny_pure (wpAny_pure h)))
theorem uA {M:Model}{self a:Value}{Q:Unit->Shared->Prop}(hT:s.TypeIs self "set")(hQ:Q () s):wpAny M A (checkBuiltinCall "set.__init__" ⟨[self,a],[]⟩) Q E s:=by
 simp only[checkBuiltinCall,kind_set_init,split_set_init,sig_set_init]
 refine wpAny_bind (wpAny_isInstance hT sub_set_self ?_)
 simp only[Bool.not_true,Bool.false_eq_true,if_false]
 unfold Bind.checkArgs
 dsimp only
 refine wpAny_bind (m:=Bind.printed "set" true _ _) (PyProof.Rows.printed_name (by decide) ?_)
 refine wpAny_bind (m:=Bind.printed "*" false _ _) (PyProof.Rows.printed_star (self:=self) rfl hT λshort=>?_)
 have e1:(Manifest.Receiver.self==Manifest.Receiver.none)=false:=by decide
 have e2:(if (Manifest.Receiver.self==Manifest.Receiver.none)=true then [self,a].length else [self,a].length-1)=1:=by simp[e1]
 rw[e2]
 simp only[List.map_nil]
 have k1:(Manifest.ParamKind.posOnly==Manifest.ParamKind.posOnly)=true:=by decide
 have k2:(Manifest.ParamKind.posOnly==Manifest.ParamKind.posOrKw)=false:=by decide
 have k3:(Manifest.ParamKind.posOnly==Manifest.ParamKind.varPos)=false:=by decide
 have e3:Bind.check ⟨.positional,"set","*",.self,[⟨"iterable",.posOnly,false⟩]⟩ "set" short 1 []=pure ():=by
  simp[Bind.check,Bind.checkCount,Bind.isPositional,k1,k2,k3]
 rw[e3]
 exact wpAny_pure hQ
theorem SetK.start {h:Heap}{a:Addr}(e:h.get? a=some (kA w)):SetK knd pk (!byT w) h a []:=
 ⟨kA w,#[],0,.fresh 0 0 (!byT w),e,⟨rfl,rfl,rfl⟩,rfl,⟨[],.refl _,.nil⟩,by decide,by rfl,rfl,λ_ k hk=>by cases hk⟩
set_option maxHeartbeats 3200000 in
theorem o6 {l:Addr}{items:Array Value}{Q:Value->Shared->Prop}(hh:A.handled=none)(hl:s.heap.IsTuple l items)(val:Nat->K)(hval:∀ (i:Nat) v,items[i]?=some v->knd.is (val i) v=true/\v.scannable=true/\plainKind v=pk (val i))
  (hb:items.size+1<scanBound)
  (h:∀ (h':Heap) (tk:Nat),SetK knd pk (!byT w) h' s.heap.objs.size (met val items.size)->(∀ b o,b<s.heap.objs.size->s.heap.get? b=some o->h'.get? b=some o)->Q (.ref s.heap.objs.size) { s with heap:=h',toks:=tk }) :
  wpAny (model prog w) A (call (.type "set") [.ref l]) Q E s:=by
 obtain⟨c,tl,hmro⟩:=F.called_set.mro
 have c1:=F.called_set.made
 have c2:=F.called_set.sub
 refine wpAny_call (codeAny_of_tree ?_)
 show wpAny _ _ (callAny (.type "set") _) _ _ _
 refine wpAny_pure ⟨Code.quiet_builtin _ (by decide +kernel),codeAny_builtin F.entry_type_call ?_⟩
 rw[Around.under_plain (weight_type_call_type "set" [.ref l] []) rfl]
 have c3:=F.called_set.notType
 have c4:=F.called_set.canCreate
 have c5:=SF.tcall (.ref l)
 repeat (any_goals (first |assumption |wp_step))
 refine codeAny_mono (vW (.ref l) (E:=E) (Q₁:=λobj s₁=>obj = .ref s.heap.objs.size/\s₁={ s with heap:=s.heap.push (kA w) }) ⟨rfl,rfl⟩) λr s₁ hr=>?_
 cases r with
 |error e=>exact hr
 |ok fl =>
  cases fl with
  |ret obj =>
   obtain⟨rfl,rfl⟩:=hr
   have hS:(s.heap.push (kA w)).get? s.heap.objs.size=some (kA w):=Heap.get?_push_size _ rfl
   have hT:Shared.TypeIs { s with heap:=s.heap.push (kA w) } (.ref s.heap.objs.size) "set":=⟨_,hS,rfl⟩
   have i1:=F.called_set.init.lookup
   have i2:=F.called_set.init.bind (.ref s.heap.objs.size)
   repeat (any_goals (first |assumption |wp_step))
   refine codeAny_mono (codeAny_call_builtin (R:=wants (λr s₂=>r = .none/\∃ h' tk,s₂={ s with heap:=h',toks:=tk }/\SetK knd pk (!byT w) h' s.heap.objs.size (met val items.size) /\
     (∀ b o,b<s.heap.objs.size->s.heap.get? b=some o->h'.get? b=some o)) E) F.called_set.init.plain F.entry_set_init (uA hT ?_)) λr₂ s₂ hr₂=>?_
   ·obtain⟨⟨ocls,odict,odata,oslots⟩,hol,hcl,nl,hdl⟩:=id hl
    simp only at hcl hdl
    subst hcl hdl
    have hol':=Heap.get?_push_of_some (kA w) hol
    have t1:=F.sub_tuple_set
    have t2:=F.sub_tuple_frozenset
    have t3:(Value.type "tuple"==Value.type "dict")=false:=by decide
    have hl1:(s.heap.push (kA w)).IsTuple l items:=⟨_,hol',rfl,nl,rfl⟩
    unfold Builtin.«set.__init__» noKeywords Builtin.Frozenset.updateFrom
    generalize hPI:pyIter=PI
    wp_walk
    subst hPI
    refine wpAny_pyIter_tuple hl1 ?_
    refine wpAny_bind (wpAny_runValue ?_)
    have hlS:l<s.heap.objs.size:=Heap.lt_size hol
    have z1:(s.heap.push (kA w)).objs.size=s.heap.objs.size+1:=Heap.size_push ..
    have hneI:l≠(s.heap.push (kA w)).objs.size:=by rw[z1];exact Nat.ne_of_lt (Nat.lt_succ_of_lt hlS)
    have hSf:s.heap.objs.size∉[(s.heap.push (kA w)).objs.size,l]:=by
     rw[z1];intro hm
     rcases List.mem_cons.mp hm with e |hm
     ·exact Nat.ne_of_lt (Nat.lt_succ_self _) e
     ·exact Nat.ne_of_gt hlS (List.mem_singleton.mp hm)
    refine vX (pk:=pk) (led:=!byT w) ((Walks.tuple (by simp[hh]) _ l hneI items).toS) s.heap.objs.size hSf val hval hb (items.size-0) 0 _ (by omega) (Nat.zero_le _)
     ⟨⟨_,Heap.get?_push_size _ rfl,rfl,rfl⟩,⟨_,Heap.get?_push_of_some _ hol',rfl,nl,rfl⟩⟩ (SetK.start (Heap.get?_push_of_some _ hS)) λs' hm hS'=>?_
    obtain⟨h',g',d',tk',os'⟩:=s'
    have eg:g'=s.gens:=hm.gens
    have ed:d'=s.drawn:=hm.drawn
    have eo:os'=s.os:=hm.os
    subst eg ed eo
    show wpAny _ _ _ _ _ _
    refine wpAny_pure ?_
    show wpAny _ _ (ret Value.none) _ _ _
    refine wpAny_pure ⟨rfl,h',tk',rfl,hS',λb o hb e=>hm.heap b o ?_ (Heap.get?_push_of_some _ (Heap.get?_push_of_some _ e))⟩
    intro hm
    rcases List.mem_cons.mp hm with e |hm
    ·exact Nat.ne_of_lt hb e
    ·rw[z1] at hm
     exact Nat.ne_of_lt (Nat.lt_succ_of_lt hb) (List.mem_singleton.mp hm)
   ·cases r₂ with
    |error e=>exact hr₂
    |ok fl₂ =>
     cases fl₂ with
     |ret r =>
      obtain⟨rfl,h',tk,rfl,hS',hk'⟩:=hr₂
      repeat (any_goals (first |assumption |wp_step))
      exact h _ _ hS' hk'
     |_=>exact hr₂.elim
  |_=>exact hr.elim
end
end
end L2
namespace L2
open PySem
section
variable {prog:Program}{w:World}{A:Around}{E:Value->Shared->Prop}{s:Shared}
theorem wp_choose {src:Source}{n:Nat}{Q:Nat->Shared->Prop}(hn:n≠0)(h:∀ i,i<n->Q i { s with drawn:=s.drawn.bump src }):wpAny (model prog w) A (choose src n) Q E s:=
 λ_ _ _=>⟨hn,h _ (Nat.mod_lt _ (Nat.pos_of_ne_zero hn))⟩
theorem iz {α:Type}:∀ {xs:List α}{i:Nat}{x : α},xs[i]?=some x->(x::xs.eraseIdx i).Perm xs
 |[],_,_,h=>by simp at h
 |y::ys,0,x,h=>by simp at h;subst h;exact .refl _
 |y::ys,i+1,x,h=>by
  rw[List.getElem?_cons_succ] at h
  rw[List.eraseIdx_cons_succ]
  exact (List.Perm.swap y x _).trans ((iz h).cons y)
theorem iR {α:Type}:∀ (n:Nat) (xs:List α) {s:Shared}{Q:List α->Shared->Prop},xs.length=n->(∀ ys d,ys.Perm xs->Q ys { s with drawn:=d })->wpAny (model prog w) A (drawOrder n xs) Q E s
 | 0,xs,s,Q,hl,h=>by
  obtain rfl:=List.length_eq_zero_iff.mp hl
  unfold drawOrder
  exact wpAny_pure (h [] s.drawn (.refl _))
 |n+1,[],s,Q,hl,h=>by simp at hl
 |n+1,x::r,s,Q,hl,h=>by
  unfold drawOrder
  refine wpAny_bind (wp_choose (by simp) λi hi=>?_)
  have e:=List.getElem?_eq_getElem hi
  rw[e]
  dsimp only
  refine wpAny_bind (iR n _ (by rw[List.length_eraseIdx_of_lt hi,hl];omega) λys d p=>?_)
  exact wpAny_pure (h _ d ((p.cons _).trans (iz e)))
theorem nu {α:Type}(next:Nat->Nat):∀ (m k:Nat) (left:List α) (out:Array α),left.length=m->(pickOrder.go next m k left out).toList.Perm (out.toList++left)
 | 0,k,left,out,hl=>by
  obtain rfl:=List.length_eq_zero_iff.mp hl
  unfold pickOrder.go;rw[List.append_nil]
 |m+1,k,left,out,hl=>by
  have hi:next k % left.length<left.length:=Nat.mod_lt _ (by omega)
  have e:=List.getElem?_eq_getElem hi
  unfold pickOrder.go
  rw[e]
  dsimp only
  refine (nu next m (k+1) _ _ (by rw[List.length_eraseIdx_of_lt hi,hl];omega)).trans ?_
  rw[Array.toList_push,List.append_assoc]
  exact (iz e).append_left _
def SetIt (h:Heap)(it a:Addr)(first:Value)(i n ep:Nat):Prop:=∃ o,h.get? it=some o/\o.cls = .type "set_iterator"/\o.data = .fields #[first,.int i 0,.ref a,.int n 0,.int ep 0]
inductive Way (w:World) (a it:Addr) (es:Array (Int×Value)) (ep:Nat) (t:SetTable):Array (Int×Value)->List Addr->(Nat->Value->Heap->Prop)->Prop where
 |text (hb:byT w=true):Way w a it es ep t (pickOrder (w.params.setOrder a ep) es) [it,a] (λ_ f _ => ∃ k:Nat,f = .int k 0)
 |one (hb:byT w=false) (hl:t.led=true) (h1:es.size<=1):Way w a it es ep t es [it,a] (λi f _=>f = .int 0 0/\i=0∨∃ j,t.place[0]?=some j/\f = .int ((j+1:Nat):Int) 0/\i=1)
 |drawn (hb:byT w=false) (hp:t.plain=false) (h1 : 1<es.size) (tp:Addr) (order:List Nat) (ho:order.Perm (List.range es.size)):tp≠it ->
  Way w a it es ep t (order.filterMap λi=>es[i]?).toArray [it,a,tp] (λ_ f h=>f = .ref tp/\h.IsTuple tp (order.map λ(i:Nat)=>Value.int i 0).toArray)
theorem uN {es:Array (Int×Value)}{order:List Nat}(ho:order.Perm (List.range es.size)):(order.filterMap λi=>es[i]?).length=order.length/\∀ i:Nat,(order.filterMap λi=>es[i]?)[i]?=(order[i]?).bind λj=>es[j]?:=by
 have hall:∀ j∈order,j<es.size:=λj hj=>List.mem_range.mp (ho.mem_iff.mp hj)
 clear ho
 induction order with
 |nil=>exact⟨rfl,λi=>by simp⟩
 |cons j r ih =>
  have hj:=hall j (List.mem_cons_self ..)
  obtain⟨h1,h2⟩:=ih λk hk=>hall k (List.mem_cons_of_mem _ hk)
  rw[List.filterMap_cons_some (b:=es[j]) (by simp[hj])]
  refine⟨by simp[h1],λi=>?_⟩
  cases i with
  |zero=>simp[hj]
  |succ i=>simpa using h2 i
theorem Way.perm {a it:Addr}{es:Array (Int×Value)}{ep:Nat}{t:SetTable}{out:Array (Int×Value)}{fp:List Addr}{F:Nat->Value->Heap->Prop}(y:Way w a it es ep t out fp F):out.toList.Perm es.toList:=by
 cases y with
 |text hb=>simpa [pickOrder] using nu (w.params.setOrder a ep) es.size 0 es.toList #[] (by simp)
 |one=>exact .refl _
 |drawn hb hp h1 tp order ho hne =>
  have q:=ho.filterMap λi=>es[i]?
  rw[filterMap_getElem?_range] at q
  simpa using q
end
section
variable {prog:Program}{w:World}{A:Around}{E:Value->Shared->Prop}{s:Shared}
variable {a it:Addr}{o:Obj}{es:Array (Int×Value)}{ep:Nat}{t:SetTable}
theorem gG {Q:Bool->Shared->Prop}(h:Q (byT w) s):wpAny (model prog w) A setsByText Q E s:=by
 unfold setsByText
 exact wpAny_bind (wpAny_askSetting (wpAny_pure h))
theorem px {Q:Bool->Shared->Prop}(ho:s.heap.get? a=some o)(hd:o.data = .set es ep t)(hf:t.fits es.size=true)(h:Q (!byT w&&(!t.plain&&decide (es.size > 1))) s):wpAny (model prog w) A (setDrawn a) Q E s:=by
 unfold setDrawn
 refine wpAny_bind (wpAny_setState_of ho hd hf ?_)
 dsimp only
 exact wpAny_bind (gG (wpAny_pure h))
theorem rH {Q:Value->Shared->Prop}(ho:s.heap.get? a=some o)(hex:o.ExactSet)(hd:o.data = .set es ep t)(hf:t.fits es.size=true)(hz:es.size<=sizeLine)(hled:byT w=false->t.led=true)(hpl:t.plain=false∨es.size<=1)
  (h:∀ it out fp F first h' d,Way w a it es ep t out fp F->SetIt h' it a first 0 es.size ep->F 0 first h'->(∀ b o,s.heap.get? b=some o->h'.get? b=some o)->s.heap.objs.size<=it->(∀ b∈fp,b=a∨s.heap.objs.size<=b) ->
   Q (.ref it) { s with heap:=h',drawn:=d }):wpAny (model prog w) A (pyIter (.ref a)) Q E s:=by
 have hT:s.TypeIs (.ref a) "set":=⟨o,ho,hex.1⟩
 refine wpAny_pyIter_slot hT F.slot_set_iter (wpAny_call_entry F.slot_set_iter hT SF.ent_iter ?_ (F.args_set_iter_1 _))
 unfold Builtin.«frozenset.__iter__» Builtin.Frozenset.slot0 slotArgs
 simp only[List.isEmpty_nil,Bool.not_true,Bool.false_eq_true,↓reduceIte,bind_assoc,List.length_nil,bne_self_eq_false]
 unfold Builtin.Frozenset.addrOf Builtin.Frozenset.sizeOf
 refine wpAny_bind (wpAny_pure ?_)
 try dsimp only
 refine wpAny_bind (wpAny_pure ?_)
 refine wpAny_bind (wpAny_bind (wpAny_setEntries_of ho hd hf (wpAny_pure ?_)))
 refine wpAny_bind (px ho hd hf ?_)
 have ha:a<s.heap.objs.size:=Heap.lt_size ho
 cases hc:(!byT w&&(!t.plain&&decide (es.size > 1))) with
 |true =>
  rw[Bool.and_eq_true,Bool.and_eq_true,Bool.not_eq_true',Bool.not_eq_true'] at hc
  obtain⟨hb,hp,h1⟩:=hc
  have h1:=of_decide_eq_true h1
  rw[if_pos rfl]
  refine wpAny_bind (iR es.size (List.range es.size) (by simp) λorder d hpm=>?_)
  have hlen:order.length=es.size:=by rw[hpm.length_eq,List.length_range]
  refine wpAny_bind (wpAny_newTuple ?_ (by rw[List.length_map,hlen];exact hz))
  refine wpAny_bind (wpAny_setEpoch_of (Heap.get?_push_of_some _ ho) hd hf ?_)
  refine wpAny_bind (wpAny_newObj_type (wpAny_pure ⟨_,rfl,"set_iterator",_,⟨_,Heap.get?_push_size _ rfl,rfl⟩,SF.slot_next.lookup,?_⟩))
  refine h _ _ _ _ (.ref s.heap.objs.size) _ d (Way.drawn hb hp h1 s.heap.objs.size order hpm ?_) ⟨_,Heap.get?_push_size _ rfl,rfl,rfl⟩ ⟨rfl,⟨_,Heap.get?_push_of_some _ (Heap.get?_push_size _ rfl),rfl,0,?_⟩⟩
   (λb o e=>Heap.get?_push_of_some _ (Heap.get?_push_of_some _ e)) ?_ ?_
  ·rw[Heap.size_push];exact Nat.ne_of_lt (Nat.lt_succ_self _)
  ·rfl
  ·rw[Heap.size_push];exact Nat.le_succ _
  ·intro b hb
   rcases List.mem_cons.mp hb with e |hb
   ·rw[e,Heap.size_push];exact .inr (Nat.le_succ _)
   rcases List.mem_cons.mp hb with e |hb
   ·exact .inl e
   ·rw[List.mem_singleton.mp hb];exact .inr (Nat.le_refl _)
 |false =>
  rw[if_neg (by decide)]
  refine wpAny_bind (wpAny_pure ?_)
  refine wpAny_bind (wpAny_setEpoch_of ho hd hf ?_)
  refine wpAny_bind (wpAny_newObj_type (wpAny_pure ⟨_,rfl,"set_iterator",_,⟨_,Heap.get?_push_size _ rfl,rfl⟩,SF.slot_next.lookup,?_⟩))
  have hfp:∀ b∈[s.heap.objs.size,a],b=a∨s.heap.objs.size<=b:=λb hb=>by
   rcases List.mem_cons.mp hb with e |hb
   ·rw[e];exact .inr (Nat.le_refl _)
   ·exact .inl (List.mem_singleton.mp hb)
  cases hb:byT w with
  |true=>exact h _ _ _ _ (.int 0 0) _ s.drawn (Way.text hb) ⟨_,Heap.get?_push_size _ rfl,rfl,rfl⟩ ⟨0,rfl⟩ (λb o e=>Heap.get?_push_of_some _ e) (Nat.le_refl _) hfp
  |false =>
   have h1:es.size<=1:=by
    rcases hpl with hp |h1
    ·rw[hb,hp] at hc
     have:=of_decide_eq_false (show decide (es.size > 1)=false from hc)
     omega
    ·exact h1
   exact h _ _ _ _ (.int 0 0) _ s.drawn (Way.one hb (hled hb) h1) ⟨_,Heap.get?_push_size _ rfl,rfl,rfl⟩ (.inl ⟨rfl,rfl⟩) (λb o e=>Heap.get?_push_of_some _ e) (Nat.le_refl _) hfp
theorem SetIt.ty {first:Value}{i n:Nat}(x:SetIt s.heap it a first i n ep):s.TypeIs (.ref it) "set_iterator":=let ⟨o,ho,hc,_⟩:=x;⟨o,ho,hc⟩
theorem fA {k i:Nat}{Q:Option (Value×Nat)->Shared->Prop}(ho:s.heap.get? a=some o)(hd:o.data = .set es ep t)(hf:t.fits es.size=true)(hb:byT w=true)
  (h:Q (((pickOrder (w.params.setOrder a ep) es)[i]?).map λe=>(e.2,k)) s):wpAny (model prog w) A (setNext a k i ep) Q E s:=by
 unfold setNext
 refine wpAny_bind (wpAny_setState_of ho hd hf ?_)
 dsimp only
 refine wpAny_bind (gG ?_)
 rw[hb,if_pos rfl,if_neg (by simp)]
 refine wpAny_bind ?_
 unfold setWalk
 refine wpAny_bind (wpAny_setState_of ho hd hf ?_)
 dsimp only
 refine wpAny_bind (gG ?_)
 rw[hb,if_pos rfl]
 exact wpAny_bind (wpAny_askSetting (wpAny_pure (wpAny_pure h)))
theorem fK {k i:Nat}{Q:Option (Value×Nat)->Shared->Prop}(ho:s.heap.get? a=some o)(hd:o.data = .set es ep t)(hf:t.fits es.size=true)(hb:byT w=false)(hl:t.led=true)(h1:es.size<=1)
  (h:Q (match es[SetTable.below t.place k]?,t.place[SetTable.below t.place k]? with |some (_,x),some j=>some (x,j+1) |_,_=>none) s):wpAny (model prog w) A (setNext a k i ep) Q E s:=by
 unfold setNext
 refine wpAny_bind (wpAny_setState_of ho hd hf ?_)
 dsimp only
 refine wpAny_bind (gG ?_)
 rw[hb,if_neg (by decide)]
 have e1:(!t.plain&&decide (es.size > 1))=false:=by rw[decide_eq_false (by omega),Bool.and_false]
 show wpAny _ _ (if (!t.plain&&decide (es.size > 1))=true then _ else _) _ _ _
 rw[e1,if_neg (by decide)]
 refine wpAny_bind ?_
 show wpAny _ _ (if (!t.led&&!es.isEmpty)=true then _ else _) _ _ _
 rw[hl,if_neg (by simp)]
 exact wpAny_pure (wpAny_pure h)
end
section
variable {prog:Program}{w:World}{A:Around}{E:Value->Shared->Prop}{s:Shared}
variable {a it:Addr}{o:Obj}{es:Array (Int×Value)}{ep:Nat}{t:SetTable}
theorem sG (j:Nat):SetTable.below #[j] 0=0:=by
 simp[SetTable.below,SetTable.below.go]
theorem sF (j:Nat):SetTable.below #[j] (j+1)=1:=by
 simp[SetTable.below,SetTable.below.go]
theorem sH (k:Nat):SetTable.below #[] k=0:=by
 simp[SetTable.below,SetTable.below.go]
theorem ng {h:Heap}{first f':Value}{i n:Nat}(x:SetIt h it a first i n ep) :
  SetIt (h.update it (Obj.mapFields (·.setIfInBounds 0 f'))) it a f' i n ep:=by
 obtain⟨o,ho,hc,hd⟩:=x
 exact⟨_,Heap.get?_update_self _ ho (Obj.isFreed_of_fields (Obj.data_mapFields hd _)),(Obj.cls_mapFields ..).trans hc,by rw[Obj.data_mapFields hd];simp⟩
theorem nh {h:Heap}{first:Value}{i n:Nat}(x:SetIt h it a first i n ep) :
  SetIt (h.update it (Obj.mapFields (·.setIfInBounds 1 (rawInt ((i:Int)+1))))) it a first (i+1) n ep:=by
 obtain⟨o,ho,hc,hd⟩:=x
 exact⟨_,Heap.get?_update_self _ ho (Obj.isFreed_of_fields (Obj.data_mapFields hd _)),(Obj.cls_mapFields ..).trans hc,by rw[Obj.data_mapFields hd];simp[rawInt]⟩
set_option maxHeartbeats 1000000 in
theorem next_item {out:Array (Int×Value)}{fp:List Addr}{F:Nat->Value->Heap->Prop}{first:Value}{i:Nat}{x:Int×Value}{Q:Option Value->Shared->Prop}(y:Way w a it es ep t out fp F)(hne:a≠it)(ho:s.heap.get? a=some o)(hd:o.data = .set es ep t)
  (hf:t.fits es.size=true) (hit:SetIt s.heap it a first i es.size ep) (hF:F i first s.heap) (hx:out[i]?=some x)
  (hQ:∀ f' h',SetIt h' it a f' (i+1) es.size ep->F (i+1) f' h'->Heap.SameBut it s.heap h'->Q (some x.2) { s with heap:=h' }):wpAny (model prog w) A (pyNext (.ref it)) Q E s:=by
 obtain⟨oi,hoi,hci,hdi⟩:=id hit
 unfold pyNext
 refine wpAny_bind (wpAny_attempt (wpAny_callSpecial?_slot (name:=Str.ofString "__next__") hit.ty SF.slot_next (wpAny_call_entry SF.slot_next hit.ty SF.ent_next ?_ (SF.args_next _))))
 unfold Builtin.«set_iterator.__next__»
 refine wpAny_bind (wpAny_pure ?_)
 refine wpAny_bind (wpAny_fieldsOf hoi hdi ?_)
 dsimp only
 refine wpAny_bind (wpAny_setEntries_of ho hd hf ?_)
 rw[if_neg (by simp)]
 have step:∀ (f':Value),F (i+1) f' ((s.heap.update it (Obj.mapFields (·.setIfInBounds 0 f'))).update it (Obj.mapFields (·.setIfInBounds 1 (rawInt ((i:Int)+1)))))->∀ (k:Nat),f'=rawInt k->∀ (E':Value->Shared->Prop),
   wpAny (model prog w) A.in1 (do setField (.ref it) 0 (rawInt k);setField (.ref it) 1 (rawInt ((i:Int)+1));ret x.2) (λfin s' => ∃ v,fin = .done (.ret v)/\Q (some v) s') E' s:=by
  rintro f' hF' k rfl E'
  refine wpAny_bind (wpAny_setField hoi hdi (by simp) ?_)
  have u1:=ng (f':=rawInt k) hit
  obtain⟨o1,ho1,hc1,hd1⟩:=id u1
  refine wpAny_bind (wpAny_setField ho1 hd1 (by simp) (wpAny_pure ⟨_,rfl,?_⟩))
  exact hQ _ _ (nh u1) hF' ((Heap.SameBut.update ..).trans (Heap.SameBut.update ..))
 cases y with
 |text hb =>
  obtain⟨k,rfl⟩:=hF
  dsimp only
  refine wpAny_bind (fA ho hd hf hb ?_)
  simp only[Int.toNat_natCast]
  rw[hx]
  exact wpAny_mono (step (rawInt k) ⟨k,rfl⟩ k rfl _) (λ_ _ h=>let ⟨v,e,q⟩:=h;⟨v,e,wpAny_pure q⟩) λ_ _ h=>h
 |one hb hl h1 =>
  have hi:i<es.size:=(Array.getElem?_eq_some_iff.mp hx).1
  have i0:i=0:=by omega
  subst i0
  have hsz:t.place.size=1:=by
   have:=hf
   simp only[SetTable.fits,Bool.and_eq_true,beq_iff_eq] at this
   omega
  obtain⟨j,hj⟩:∃ j,t.place = #[j]:=by
   rcases ht:t.place with ⟨l⟩
   rw[ht] at hsz
   match l,hsz with
   |[j],_=>exact⟨j,rfl⟩
  rcases hF with ⟨rfl,_⟩ |⟨_,_,_,e⟩
  ·dsimp only
   refine wpAny_bind (fK ho hd hf hb hl h1 ?_)
   rw[hj]
   have e0:SetTable.below #[j] (Int.toNat 0)=0:=sG j
   rw[e0,hx]
   exact wpAny_mono (step (rawInt ((j+1:Nat):Int)) (.inr ⟨j,by rw[hj];rfl,rfl,rfl⟩) (j+1) rfl _) (λ_ _ h=>let ⟨v,e,q⟩:=h;⟨v,e,wpAny_pure q⟩) λ_ _ h=>h
  ·cases e
 |drawn hb hp h1 tp order hpm hnt =>
  obtain⟨rfl,htp⟩:=hF
  obtain⟨otp,hotp,hctp,ntp,hdtp⟩:=id htp
  dsimp only
  refine wpAny_bind (wpAny_seqItems hotp hdtp ?_)
  obtain⟨g1,g2⟩:=uN (es:=es) hpm
  have hx':(order.filterMap λi=>es[i]?)[i]?=some x:=by simpa using hx
  rw[g2 i] at hx'
  obtain⟨p,hp1,hp2⟩:=Option.bind_eq_some_iff.mp hx'
  have e1:((order.map λ(i:Nat)=>Value.int i 0).toArray)[Int.toNat (i:Int)]?=some (.int p 0):=by
   rw[Int.toNat_natCast,List.getElem?_toArray,List.getElem?_map,hp1];rfl
  dsimp only
  rw[e1]
  dsimp only
  refine wpAny_bind ?_
  unfold setNextDrawn
  refine wpAny_bind (wpAny_setState_of ho hd hf ?_)
  dsimp only
  rw[Int.toNat_natCast,Int.toNat_natCast,if_neg (by simp),hp2]
  refine wpAny_pure ?_
  refine wpAny_bind (wpAny_setField hoi hdi (by simp) (wpAny_pure ⟨_,rfl,wpAny_pure ?_⟩))
  exact hQ _ _ (nh hit) ⟨rfl,⟨otp,((Heap.SameBut.update ..).2 tp hnt).trans hotp,hctp,ntp,hdtp⟩⟩ (Heap.SameBut.update ..)
end
section
variable {prog:Program}{w:World}{A:Around}{E:Value->Shared->Prop}{s:Shared}
variable {a it:Addr}{o:Obj}{es:Array (Int×Value)}{ep:Nat}{t:SetTable}
theorem rF {α:Type}{Q : α->Shared->Prop}(hh:A.handled=none)(h:∀ h' e,(∀ b o,s.heap.get? b=some o->h'.get? b=some o)->(∃ o,h'.get? e=some o/\o.cls = .type "StopIteration")->E (.ref e) { s with heap:=h' }) :
  wpAny (model prog w) A (newExc (.type "StopIteration") [] >>= λe=>(raiseNew e:Sem α)) Q E s:=by
 refine wpAny_bind ?_
 simp only[newExc,newTuple]
 refine wpAny_bind (wpAny_newObj_type ?_ (by size_fits))
 refine wpAny_bind (m:=firstArgMember _ _) (wpAny_of_eq (a:=Value.none) (by first |rfl |(simp only[firstArgMember];rfl)) ?_)
 refine wpAny_newObj_type ?_ (by size_fits)
 simp only[raiseNew]
 refine wpAny_bind (wpAny_handled ?_)
 rw[hh]
 refine wpAny_bind (wpAny_pure (wpAny_throw ?_))
 exact h _ _ (λb o e=>Heap.get?_push_of_some _ (Heap.get?_push_of_some _ e)) ⟨_,Heap.get?_push_size _ rfl,rfl⟩
set_option maxHeartbeats 1000000 in
theorem next_end {out:Array (Int×Value)}{fp:List Addr}{F:Nat->Value->Heap->Prop}{first:Value}{Q:Option Value->Shared->Prop}(hh:A.handled=none)(y:Way w a it es ep t out fp F)(hne:a≠it)(ho:s.heap.get? a=some o)(hd:o.data = .set es ep t)
  (hf:t.fits es.size=true) (hit:SetIt s.heap it a first es.size es.size ep) (hF:F es.size first s.heap)
  (hQ:∀ h',(∀ b o,b≠it->s.heap.get? b=some o->h'.get? b=some o)->Q none { s with heap:=h' }):wpAny (model prog w) A (pyNext (.ref it)) Q E s:=by
 have hsz:out.size=es.size:=by have:=y.perm.length_eq;simpa using this
 obtain⟨oi,hoi,hci,hdi⟩:=id hit
 unfold pyNext
 refine wpAny_bind (wpAny_attempt (wpAny_callSpecial?_slot (name:=Str.ofString "__next__") hit.ty SF.slot_next (wpAny_call_entry SF.slot_next hit.ty SF.ent_next ?_ (SF.args_next _))))
 unfold Builtin.«set_iterator.__next__»
 refine wpAny_bind (wpAny_pure ?_)
 refine wpAny_bind (wpAny_fieldsOf hoi hdi ?_)
 dsimp only
 refine wpAny_bind (wpAny_setEntries_of ho hd hf ?_)
 rw[if_neg (by simp)]
 have fin:∀ (s1:Shared) (Q':Fin->Shared->Prop),(∀ b o,b≠it->s.heap.get? b=some o->s1.heap.get? b=some o)->(∀ h',({ s with heap:=h' }:Shared)={ s1 with heap:=h' }) ->
   wpAny (model prog w) A.in1 (newExc (.type "StopIteration") [] >>= λe=>(raiseNew e:Sem Fin)) Q'
    (λe s'=>wpAny (model prog w) A (do let b ← isInstance e (.type "StopIteration");if b=true then pure none else throw e) Q E s') s1:=λs1 Q' k1 k2=>by
  refine rF (by simp[hh]) λh' e k he=>?_
  obtain⟨oe,hoe,hce⟩:=he
  refine wpAny_bind (wpAny_isInstance (T:="StopIteration") (b:=true) ⟨oe,hoe,hce⟩ isSubtype_stop ?_)
  rw[if_pos rfl]
  refine wpAny_pure ?_
  rw[← k2]
  exact hQ h' λb o nb e=>k b o (k1 b o nb e)
 have up:∀ (f:Array Value->Array Value) b o,b≠it->s.heap.get? b=some o->(s.heap.update it (Obj.mapFields f)).get? b=some o:=λf b o nb e=>((Heap.SameBut.update ..).2 b nb).trans e
 cases y with
 |text hb =>
  obtain⟨k,rfl⟩:=hF
  dsimp only
  refine wpAny_bind (fA ho hd hf hb ?_)
  simp only[Int.toNat_natCast]
  rw[Array.getElem?_eq_none (by omega)]
  refine wpAny_bind (wpAny_setField hoi hdi (by simp) ?_)
  exact fin _ _ (up _) λ_=>rfl
 |one hb hl h1 =>
  have pz:t.place.size=es.size:=by
   have:=hf
   simp only[SetTable.fits,Bool.and_eq_true,beq_iff_eq] at this
   exact this.1
  have key:∃ k:Nat,first = .int k 0/\es[SetTable.below t.place k]?=none:=by
   rcases hF with ⟨rfl,e⟩ |⟨j,hj,rfl,e⟩
   ·refine⟨0,rfl,?_⟩
    have:t.place = #[]:=by apply Array.eq_empty_of_size_eq_zero;omega
    rw[this,sH]
    exact Array.getElem?_eq_none (by omega)
   ·refine⟨j+1,rfl,?_⟩
    have:t.place = #[j]:=by
     rcases ht:t.place with ⟨l⟩
     rw[ht] at pz hj
     match l,(show l.length=1 by simpa [e] using pz),hj with
     |[x],_,hj=>simp at hj;rw[hj]
    rw[this,sF]
    exact Array.getElem?_eq_none (by omega)
  obtain⟨k,rfl,hk⟩:=key
  dsimp only
  refine wpAny_bind (fK ho hd hf hb hl h1 ?_)
  rw[Int.toNat_natCast,hk]
  refine wpAny_bind (wpAny_setField hoi hdi (by simp) ?_)
  exact fin _ _ (up _) λ_=>rfl
 |drawn hb hp h1 tp order hpm hnt =>
  obtain⟨rfl,htp⟩:=hF
  obtain⟨otp,hotp,hctp,ntp,hdtp⟩:=id htp
  dsimp only
  refine wpAny_bind (wpAny_seqItems hotp hdtp ?_)
  dsimp only
  have e1:((order.map λ(i:Nat)=>Value.int i 0).toArray)[Int.toNat (es.size:Int)]?=none:=by
   rw[Int.toNat_natCast,List.getElem?_toArray,List.getElem?_eq_none]
   rw[List.length_map,hpm.length_eq,List.length_range];exact Nat.le_refl _
  rw[e1]
  dsimp only
  refine wpAny_bind (wpAny_setField hoi hdi (by simp) ?_)
  have u1:=ng (f':=rawInt 0) hit
  obtain⟨o1,ho1,hc1,hd1⟩:=id u1
  refine wpAny_bind (wpAny_setField ho1 hd1 (by simp) ?_)
  exact fin _ _ (λb o nb e=>((Heap.SameBut.update ..).2 b nb).trans (up _ b o nb e)) λ_=>rfl
theorem xb:entryFor table "set_iterator.__iter__"=some Builtin.«dict_keyiterator.__iter__»:=entryFor_alias (id':="dict_keyiterator.__iter__") (by kernel_rfl) rfl (by decide +kernel) (by kernel_rfl)
theorem args_self (a:Value):argsOk "set_iterator.__iter__" ⟨[a],[]⟩:=by
 unfold argsOk;rw[signature?_of (id:="set_iterator.__iter__") (n:=['_','_','r','e','t','i','_','_']) (o:=['r','o','t','a','r','e','t','i','_','t','e','s']) (by kernel_rfl) SF.own_it];kernel_rfl
theorem vZ {first:Value}{i n:Nat}{Q:Value->Shared->Prop}(hit:SetIt s.heap it a first i n ep)(h:Q (.ref it) s):wpAny (model prog w) A (pyIter (.ref it)) Q E s:=by
 refine wpAny_pyIter_slot hit.ty SF.slot_self (wpAny_call_entry SF.slot_self hit.ty xb ?_ (args_self _))
 show wpAny _ _ (ret (.ref it)) _ _ s
 exact wpAny_pure ⟨_,rfl,"set_iterator",_,hit.ty,SF.slot_next.lookup,h⟩
theorem SetIt.keep {h h':Heap}{first:Value}{i n:Nat}(x:SetIt h it a first i n ep)(e:∀ o,h.get? it=some o->h'.get? it=some o):SetIt h' it a first i n ep:=let ⟨o,ho,r⟩:=x;⟨o,e o ho,r⟩
theorem Way.fp {out:Array (Int×Value)}{fp:List Addr}{F:Nat->Value->Heap->Prop}(y:Way w a it es ep t out fp F):it∈fp/\a∈fp/\∀ i f (h h':Heap),(∀ b∈fp,b≠it->∀ o,h.get? b=some o->h'.get? b=some o)->F i f h->F i f h':=by
 cases y with
 |text=>exact⟨by simp,by simp,λ_ _ _ _ _ x=>x⟩
 |one=>exact⟨by simp,by simp,λ_ _ _ _ _ x=>x⟩
 |drawn _ _ _ tp order _ hne=>exact⟨by simp,by simp,λ_ _ h h' k x=>⟨x.1,by obtain⟨o,ho,r⟩:=x.2;exact⟨o,k tp (by simp) hne o ho,r⟩⟩⟩
theorem Walks.set {out:Array (Int×Value)}{fp:List Addr}{F:Nat->Value->Heap->Prop}(hh:A.handled=none)(y:Way w a it es ep t out fp F)(hne:a≠it)(hex:o.ExactSet)(hd:o.data = .set es ep t)(hf:t.fits es.size=true) :
  Walks prog w A it fp [it] es.size (λi v=>(out[i]?).map (·.2)=some v) (λi h=>h.get? a=some o/\∃ first,SetIt h it a first i es.size ep/\F i first h) where
 sub:=λb hb=>by rw[List.mem_singleton.mp hb];exact y.fp.1
 frame:=λi h h' st k=>⟨k a y.fp.2.1 o st.1,let ⟨f,h1,h2⟩:=st.2;⟨f,h1.keep λo e=>k it y.fp.1 o e,y.fp.2.2 i f h h' (λb hb _ o e=>k b hb o e) h2⟩⟩
 item:=λi s Q E hi st hQ=>by
  obtain⟨ho,f,h1,h2⟩:=st
  have hsz:out.size=es.size:=by have:=y.perm.length_eq;simpa using this
  have hx:out[i]?=some out[i]:=Array.getElem?_eq_getElem (by omega)
  refine next_item y hne ho hd hf h1 h2 hx λf' h' k1 k2 sb=>?_
  refine hQ _ h' s.toks (by rw[hx];rfl) ⟨(sb.2 a hne).trans ho,f',k1,k2⟩ λb o hb e=>(sb.2 b (λz=>hb (by simp[z]))).trans e
 done:=λs Q E st hQ=>by
  obtain⟨ho,f,h1,h2⟩:=st
  exact next_end hh y hne ho hd hf h1 h2 λh' k=>hQ h' s.toks λb o hb e=>k b o (λz=>hb (by simp[z])) e
 self:=λi s Q E st hQ=>let ⟨f,h1,_⟩:=st.2;vZ h1 hQ
end
section
variable {prog:Program}{w:World}{A:Around}{E:Value->Shared->Prop}{s:Shared}
set_option maxHeartbeats 1000000 in
theorem ko {x:Addr}{T:String}(hTT:T="set"∨T="dict")(hT:s.TypeIs (.ref x) T){Q:List Value->Shared->Prop}(Pf:List Value->Prop)
  (hiter:∀ (h0:Heap) (Q':Value->Shared->Prop) (E':Value->Shared->Prop),(∀ b o,s.heap.get? b=some o->h0.get? b=some o) ->
   (∀ (I:Addr) (fp wr:List Addr) (n:Nat) (P:Nat->Value->Prop) (St:Nat->Shared->Prop) (s1:Shared),WalksS prog w A.in1 I fp wr (λa b=>b=a) n P St->St 0 s1->n<=sizeLine->(∀ b∈fp,b=x∨h0.objs.size<=b)->(∀ b∈wr,h0.objs.size<=b) ->
    (∀ b o,h0.get? b=some o->s1.heap.get? b=some o)->s1.gens=s.gens->s1.os=s.os->(∀ acc,ItemsOf P acc n->Pf acc.toList)->Q' (.ref I) s1)->wpAny (model prog w) A.in1 (pyIter (.ref x)) Q' E' { s with heap:=h0 })
  (hQ:∀ s' acc,Pf acc->(∀ b o,s.heap.get? b=some o->s'.heap.get? b=some o)->s'.gens=s.gens->s'.os=s.os->Q acc s'):wpAny (model prog w) A (collect (.ref x)) Q E s:=by
 obtain⟨ox,hox,hcx⟩:=id hT
 have hxs:x<s.heap.objs.size:=Heap.lt_size hox
 unfold collect
 refine wpAny_bind (wpAny_runValue (codeAny_builtin F.entry_proto_collect ?_))
 rw[Around.under_plainId F.plain_proto_collect _]
 show wpAny _ A.in1 (newList [] >>= λl=>again (.builtin "list.__iadd__" ⟨[l,.ref x],[]⟩)) _ _ s
 refine wpAny_bind (wpAny_newObj_type ?_)
 refine wpAny_pure ⟨plainId_quiet F.plain_list_iadd _,codeAny_builtin F.entry_list_iadd ?_⟩
 rw[Around.under_plainId F.plain_list_iadd _]
 have hS1:(s.heap.push { cls:=.type "list",data:=.seq ([]:List Value).toArray }).get? s.heap.objs.size=some { cls:=.type "list",data:=.seq ([]:List Value).toArray }:=Heap.get?_push_size _ rfl
 have hT1:Shared.TypeIs { s with heap:=s.heap.push { cls:=.type "list",data:=.seq ([]:List Value).toArray } } (.ref x) T:=⟨ox,Heap.get?_push_of_some _ hox,hcx⟩
 have n1:Builtin.List.listSameRef (.ref s.heap.objs.size) (.ref x)=false:=by simp[Builtin.List.listSameRef,Nat.ne_of_gt hxs]
 show wpAny _ A.in1 (Builtin.List.listExtendWith (.ref s.heap.objs.size) (.ref x) (.ref s.heap.objs.size)) _ _ _
 unfold Builtin.List.listExtendWith
 refine wpAny_bind (wpAny_typeOf hT1 ?_)
 have kp:∀ b o,s.heap.get? b=some o->(s.heap.push { cls:=.type "list",data:=.seq ([]:List Value).toArray }).get? b=some o:=λb o e=>Heap.get?_push_of_some _ e
 have sz:(s.heap.push { cls:=.type "list",data:=.seq ([]:List Value).toArray }).objs.size=s.heap.objs.size+1:=Heap.size_push ..
 have main:∀ (I:Addr) (fp wr:List Addr) (n:Nat) (P:Nat->Value->Prop) (St:Nat->Shared->Prop) (s1:Shared),WalksS prog w A.in1 I fp wr (λa b=>b=a) n P St->St 0 s1->n<=sizeLine ->
   (∀ b∈fp,b=x∨(s.heap.push { cls:=.type "list",data:=.seq ([]:List Value).toArray }).objs.size<=b)->(∀ b∈wr,(s.heap.push { cls:=.type "list",data:=.seq ([]:List Value).toArray }).objs.size<=b) ->
   (∀ b o,(s.heap.push { cls:=.type "list",data:=.seq ([]:List Value).toArray }).get? b=some o->s1.heap.get? b=some o)->s1.gens=s.gens->s1.os=s.os->(∀ acc,ItemsOf P acc n->Pf acc.toList) ->
   ∀ (R:Result->Shared->Prop),(∀ s' acc c,Pf acc.toList->(∀ b o,s.heap.get? b=some o->s'.heap.get? b=some o)->s'.gens=s.gens->s'.os=s.os->s'.heap.get? s.heap.objs.size=some { cls:=.type "list",dict:=none,data:=.seq acc c,slots:=#[] }->R (.ok (.ret (.ref s.heap.objs.size))) s') ->
   wpAny (model prog w) A.in1 (rule "list.extend.makes-room" >>= λ_=>Builtin.List.listTouch (.ref s.heap.objs.size) >>= λ_=>again (.builtin "list.extend.loop" ⟨[.ref s.heap.objs.size,.ref I,.ref s.heap.objs.size],[]⟩))
    (λfin s'=>match fin with | .done f=>R (.ok f) s' | .again c'=>c'.quiet=true/\codeAny (model prog w) A c' R s') (λe s'=>R (.error e) s') s1:=by
  intro I fp wr n P St s1 W st hn hfp hwr k1 g1 o1 hP R hR
  have hSf:s.heap.objs.size∉fp:=λhm=>by
   rcases hfp _ hm with e |e
   ·exact Nat.ne_of_gt hxs e
   ·rw[sz] at e;exact Nat.not_succ_le_self _ e
  refine wpAny_bind (wpAny_rule ?_)
  refine wpAny_bind ?_
  have hS:s1.heap.get? s.heap.objs.size=some { cls:=.type "list",data:=.seq ([]:List Value).toArray }:=k1 _ _ hS1
  show wpAny _ A.in1 (updateSeq s.heap.objs.size (·.push .none) >>= λ_=>updateSeq s.heap.objs.size (·.pop)) _ _ _
  refine wpAny_bind (wpAny_updateSeq hS rfl ?_)
  have hS2:=Heap.get?_update_self (Obj.mapSeq (·.push Value.none)) hS rfl
  refine wpAny_updateSeq (hz:=by seq_fits) hS2 rfl ?_
  have hS3:=Heap.get?_update_self (Obj.mapSeq (·.pop)) hS2 rfl
  have oth:∀ b o,b≠s.heap.objs.size->s1.heap.get? b=some o->((s1.heap.update s.heap.objs.size (Obj.mapSeq (·.push Value.none))).update s.heap.objs.size (Obj.mapSeq (·.pop))).get? b=some o:=
   λb o hb e=>(Heap.get?_update_other _ _ (Ne.symm hb)).trans ((Heap.get?_update_other _ _ (Ne.symm hb)).trans e)
  refine wpAny_pure ⟨plainId_quiet F.plain_extend_loop _,codeAny_extend_loopS W hn _ hSf _ n 0 _ _ _ rfl (Nat.zero_le _) (W.frame 0 s1 _ s1.toks st (Nat.le_refl _) λb hb o e=>oth b o (λh=>hSf (h▸hb)) e) hS3 (ItemsOf.nil P) λs' acc' c' hm hS' hacc=>?_⟩
  refine hR s' acc' c' (hP acc' hacc) (λb o e=>?_) (hm.gens.trans g1) (hm.os.trans o1) hS'
  have hb:b<s.heap.objs.size:=Heap.lt_size e
  refine hm.heap b o (λz=>?_) (oth b o (Nat.ne_of_lt hb) (k1 b o (kp b o e)))
  rcases List.mem_cons.mp z with z |z
  ·exact Nat.ne_of_lt hb z
  ·have:=hwr b z
   rw[sz] at this
   exact Nat.not_succ_le_self _ (Nat.le_trans this (Nat.le_of_lt hb))
 have last:∀ (s':Shared) (acc:Array Value) (c:Nat),Pf acc.toList->(∀ b o,s.heap.get? b=some o->s'.heap.get? b=some o)->s'.gens=s.gens->s'.os=s.os->s'.heap.get? s.heap.objs.size=some { cls:=.type "list",dict:=none,data:=.seq acc c,slots:=#[] } ->
   wpAny (model prog w) A (load s.heap.objs.size >>= λo=>match o.data with | .seq xs _=>pure xs.toList |_=>unsupported "internal:collect") Q E s':=λs' acc c h1 h2 h3 h4 h5=>wpAny_bind (wpAny_load h5 (wpAny_pure (hQ s' acc.toList h1 h2 h3 h4)))
 rcases hTT with rfl |rfl
 ·rw[if_neg (by rw[n1];decide)]
  refine wpAny_bind (hiter _ _ _ kp λI fp wr n P St s1 W st hn hfp hwr k1 g1 o1 hP=>?_)
  have hT2:s1.TypeIs (.ref x) "set":=⟨ox,k1 _ _ (kp _ _ hox),hcx⟩
  refine wpAny_bind (wpAny_holding ?_)
  unfold Builtin.List.listLengthHint
  refine wpAny_bind (wpAny_specialOf hT2 F.slot_set_len.lookup ?_)
  (generalize hid:("set.__len__":String)=id0;wp_delta;rw[show splitId id0=some ("set","__len__") from by subst hid;decide +kernel];subst hid)
  refine wpAny_bind (wpAny_isInstance (b:=true) hT2 (by rw[isSubtype_type];kernel_rfl) ?_)
  refine wpAny_bind (wpAny_typeOf hT2 ?_)
  refine wpAny_pure ?_
  dsimp only
  split
  ·refine main I fp wr n P St s1 W st hn hfp hwr k1 g1 o1 hP (λr s'=>match r with
    | .ok (.ret v)=>wpAny (model prog w) A (match v with
     | .ref a=>do
      let o ← load a
      match o.data with
       | .seq xs _=>pure xs.toList
       |_=>unsupported "internal:collect"
     |_=>unsupported "internal:collect") Q E s'
    | .ok _=>False
    | .error e=>E e s') ?_
   exact λs2 acc c h1 h2 h3 h4 h5=>last s2 acc c h1 h2 h3 h4 h5
  ·rename_i hneg
   exact absurd (by decide) hneg
 ·rw[if_neg (by rw[n1];decide)]
  refine wpAny_bind (hiter _ _ _ kp λI fp wr n P St s1 W st hn hfp hwr k1 g1 o1 hP=>?_)
  have hT2:s1.TypeIs (.ref x) "dict":=⟨ox,k1 _ _ (kp _ _ hox),hcx⟩
  refine wpAny_bind (wpAny_holding ?_)
  unfold Builtin.List.listLengthHint
  refine wpAny_bind (wpAny_specialOf hT2 F.slot_dict_len.lookup ?_)
  (generalize hid:("dict.__len__":String)=id0;wp_delta;rw[show splitId id0=some ("dict","__len__") from by subst hid;decide +kernel];subst hid)
  refine wpAny_bind (wpAny_isInstance (b:=true) hT2 (by rw[isSubtype_type];kernel_rfl) ?_)
  refine wpAny_bind (wpAny_typeOf hT2 ?_)
  refine wpAny_pure ?_
  dsimp only
  split
  ·refine main I fp wr n P St s1 W st hn hfp hwr k1 g1 o1 hP (λr s'=>match r with
    | .ok (.ret v)=>wpAny (model prog w) A (match v with
     | .ref a=>do
      let o ← load a
      match o.data with
       | .seq xs _=>pure xs.toList
       |_=>unsupported "internal:collect"
     |_=>unsupported "internal:collect") Q E s'
    | .ok _=>False
    | .error e=>E e s') ?_
   exact λs2 acc c h1 h2 h3 h4 h5=>last s2 acc c h1 h2 h3 h4 h5
  ·rename_i hneg
   exact absurd (by decide) hneg
end
end L2
namespace L2
open PySem PySem.Spec PyProof.Rows PySem.W
noncomputable def zK:List D->Option (List Key)
 |[]=>some []
 |d::ds=>(fH d).bind λk=>(zK ds).map (k::·)
noncomputable def Ca:D->Option D
 | .tup ds=>if ds.length+1<4096 then (zK ds).map λks => .int ((ks.foldl bQ []).length) else none
 |_=>none
noncomputable def eY:D->Option D
 | .tup ds=>if ds.length<4000 then (fB ds).map λss => .lst ((eM (ss.foldl bQ [])).map .str) else none
 |_=>none
noncomputable def lh (d:D)(S:Sto):Option D:=match d with
 | .tup xs=>(dR xs).map .lst
 | .lst xs=>(dR xs).map .lst
 | .loc l=>match S[l]? with
  |some (.dict kvs)=>(dR (kvs.map (·.1))).map .lst
  |_=>none
 |_=>none
def t9 (f:Rho->Sto->Out D):Rho->Sto->Out D:=λρ S=>ag (f ρ S) λd S1=>aG (lh d S1) S1
noncomputable def Cl:D->Option D
 | .str x=>if x.cps.all (·<128)=true then some (.str ⟨x.cps.map up1⟩) else none
 |_=>none
noncomputable def bo:D->Bool
 | .str _=>true
 |_=>false
def gw (k:D->Bool)(g:D->D->Option D)(fe fa:Rho->Sto->Out D):Rho->Sto->Out D:=λρ S=>ag (fe ρ S) λx S1=>if k x=true then ag (fa ρ S1) λy S2=>aG (g x y) S2 else none
noncomputable def findD:D->D->Option D
 | .str x,.str y=>some (.int (Txt.find x y))
 |_,_=>none
section
variable {X:Cx}{W:WT}
variable {e:Expr}{fe:Rho->Sto->Out D}{gs:Rho->Sto->Out (List D)}{pos pos2 p p2:Pos}{x y:Str}
theorem yV:MtR X "str.find" (λx xs H Q => ∃ z y,x = .str z/\xs=[.str y]/\Q (.int (Txt.find z y)) H):=by
 intro pins s σ H x xs v us Q I rx rs h
 obtain⟨z,y,rfl,rfl,q⟩:=h
 obtain⟨t,rfl⟩:=rx
 obtain⟨u,rfl,ru⟩:=vals1 rs
 obtain⟨t2,rfl⟩:=ru
 exact SC.find ⟨.int (Txt.find z y),H,I.tok _,⟨_,rfl⟩,q⟩
theorem je {k:D->Bool}{g:D->D->Option D}{fa:Rho->Sto->Out D}{T:String}{r:V->List V->Hp->VK->Prop}{σ:St}{H:Hp}{Q:VK}(hT:∀ J H1 d v,k d=true->At X.K H1 J d v->tyV X.K T v H1)
  (hr:∀ (v v2:V) (H2:Hp) (Q:VK),rD2 X.K g v v2 H2 Q->r v [v2] H2 Q) (h:tE X W (gw k g fe fa) σ H Q):tBM X.K T r (tE X W fe) (sU (tE X W fa) k_) σ H Q:=
 (tG.bindE h).mono λv H1 ⟨d,h1⟩=>by
  by_cases hk:k d=true
  ·simp only[hk,if_true] at h1
   refine⟨?_,(tG.bindE h1).mono λv2 H2 ⟨d2,h2⟩=>hr v v2 H2 Q (tG.op2 h2)⟩
   obtain⟨J,_,_,_,_,_,m,_,_⟩:=h1
   exact hT J H1 d v hk m.uncons.1
  ·obtain⟨J,ρ,S,r,S',c,m,e,z⟩:=h1
   simp only[hk,Bool.false_eq_true,if_false] at e
   cases e
theorem rj {J:List Addr}{H1:Hp}{d:D}{v:V}(hk:bo d=true)(m:At X.K H1 J d v):tyV X.K "str" v H1:=by
 cases d<;>first |(cases hk;done) |skip
 rename_i z
 cases (At.str_iff.mp m).1
 rfl
theorem yW {o:Expr}{name:Str}{apos cpos:Pos}{a:Expr}{fa:Rho->Sto->Out D}(hn:name="find")(ho:SE X W o fe)(ha:SE X W a fa)(hbase:attributeBase o name X.env (eval o X.env)=eval o X.env:=by rfl)
  (hfew:((backTo cpos (starEach [a] X.env)).all (λx => !x.1)&&(backToKw cpos (keywordEach [] X.env)).all (λx=>x.1.isSome)
   && decide ([a].length+([]:List Keyword).length+(if ([]:List Keyword).isEmpty then 0 else 1)<30))=true:=by rfl)
  (hline:(apos.endLine==cpos.line)=true:=by rfl) (hs:starEach [a] X.env=(false,eval a X.env)::starEach [] X.env:=by rfl) (hplain:(backTo cpos (starEach [] X.env)).any (·.1)=false:=by rfl) :
  SE X W (.Call (.Attribute o name apos) [a] [] cpos) (gw bo findD fe fa):=by
 subst hn
 refine PE.imp (pR F.plainAttrs_str F.slot_str_find F.type_str_find yV ho (bH ha pa_nil hs) hbase hfew hline hs hplain) λσ H Q h=>je (λJ H1 d v hk m=>rj hk m) (λv v2 H2 Q q=>?_) h
 obtain⟨J,dx,dy,d',hJ,ax,ay,eq,q⟩:=q
 unfold findD at eq
 split at eq
 ·rename_i z y
  cases eq
  cases (At.str_iff.mp ax).1;cases (At.str_iff.mp ay).1
  exact⟨z,y,rfl,rfl,q H2 _ (Same.refl _) (At.int_iff.mpr rfl)⟩
 ·cases eq
noncomputable def plK:Key->Bool
 | .inl _=>true
 | .inr _=>false
noncomputable def zx (P:Program)(w:World)(p:Addr)(ks:List Key):HO:=HO.ext λh=>SetK (bh P w) plK (!byT w) h p ks
theorem wT {k:Key}{u:Value}(r:RelV (kV k) u):u.scannable=true/\plainKind u=plK k:=by
 cases k with
 |inl i=>obtain⟨t,e⟩:=(show ∃ t,u=Value.int i t from r);subst e;exact⟨rfl,rfl⟩
 |inr x=>obtain⟨t,e⟩:=(show ∃ t,u=Value.str x t from r);subst e;exact⟨rfl,rfl⟩
theorem wI (ks:List Key):met (λi=>ks.getD i (.inl 0)) ks.length=ks.foldl bQ []:=by
 unfold met
 congr 1
 apply List.ext_getElem (by simp)
 intro i h1 h2
 simp at h1
 simp[List.getD,h1]
theorem AY (hc:X.calm=true):eT X (.type "set") (λxs H Q => ∃ (a:Addr) (ks:List Key),xs=[.ref a]/\SqT X.K H a (ks.map kV)/\ks.length+1<4096/\∀ p,H p=none->Q (.ref p) (upd H p (zx X.prog X.w p (ks.foldl bQ [])))):=by
 intro pins s σ H xs us Q I r h
 obtain⟨a,ks,rfl,hq,hb,q⟩:=h
 obtain⟨u,rfl,ru⟩:=vals1 r
 cases ru
 obtain⟨its,rv,tp,hz⟩:=I.tuple hq
 have hl:its.length=ks.length:=by rw[← rv.length,List.length_map]
 refine o6 (knd:=bh X.prog X.w) (pk:=plK) (I.ok.hd hc) (show s.heap.IsTuple a its.toArray from tp) (λi=>ks.getD i (.inl 0)) (λi v hv=>?_) (by rw[List.size_toArray,hl];exact hb) λh' tk hS k=>?_
 ·have hv':its[i]?=some v:=by simpa using hv
  have hi:i<ks.length:=by rw[← hl];exact (List.getElem?_eq_some_iff.mp hv').1
  obtain⟨u,e1,e2⟩:=rv.get (i:=i) (x:=kV ks[i]) (by rw[List.getElem?_map,List.getElem?_eq_getElem hi];rfl)
  rw[hv'] at e1
  cases e1
  have e3:ks.getD i (.inl 0)=ks[i]:=by simp[List.getD,hi]
  simp only[e3]
  exact⟨nB e2,(wT e2).1,(wT e2).2⟩
 ·have es0:its.toArray.size=ks.length:=by rw[List.size_toArray,hl]
  rw[es0,wI] at hS
  refine⟨.ref s.heap.objs.size,_,I.laid (t':=tk) (o:=zx X.prog X.w s.heap.objs.size (ks.foldl bQ [])) (λb o e=>k b o (Heap.lt_size e) e) (Nat.le_refl _) ⟨hS,?_,λh1 h2 z k=>z.keep k⟩,rfl,q _ I.fresh⟩
  obtain⟨o,es,ep,t,ho,_⟩:=hS
  exact⟨o,ho⟩
theorem SetK.len {h:Heap}{p:Addr}{ks:List Key}{P:Program}{w:World}{es:Array (Int×Value)}(hl:∃ l:List (Int×Value),l.Perm es.toList/\Paired (qR (bh P w)) ks l):es.size=ks.length:=by
 obtain⟨l,pm,r⟩:=hl
 have e1:=pm.length_eq
 have e2:=kb r
 simp only[Array.length_toList] at e1
 omega
theorem uz {a:Expr}(hc:X.calm=true)(hy:y="set")(hm2:X.mg y=none)(ha:SE X W a fe)(hg2:Gl X y)(he:starEach [a] X.env=(false,eval a X.env)::starEach [] X.env)(hpl:(backTo pos2 (starEach [] X.env)).any (·.1)=false) :
  PE X (.Call (.Name y p2) [a] [] pos2) (tCB (λxs H Q => ∃ (a:Addr) (ks:List Key),xs=[.ref a]/\SqT X.K H a (ks.map kV)/\ks.length+1<4096/\∀ p,H p=none->Q (.ref p) (upd H p (zx X.prog X.w p (ks.foldl bQ [])))) (sU (tE X W fe) k_)):=by
 subst hy
 exact jG (X:=X) (p:=p2) (pos:=pos2) (AY hc) hg2 hm2 A9 (bH ha pa_nil he) (by decide) (by decide) he hpl
theorem SetK.vals {P:Program}{w:World}{ks:List Key}{l:List (Int×Value)}(r:Paired (qR (bh P w)) ks l):Vals (ks.map kV) (l.map (·.2)):=by
 induction r with
 |nil=>exact .nil
 |cons f t ih =>
  rename_i k e ks l
  refine .cons ?_ ih
  obtain⟨f1,_,_⟩:=f
  rcases aZ f1 with ⟨i,t,rfl,e⟩ |⟨x,t,rfl,e⟩
  ·exact⟨t,e⟩
  ·exact⟨t,e⟩
theorem ui:∀ {us us':List Value},us'.Perm us->∀ {vs:List V},Vals vs us->∃ vs':List V,vs'.Perm vs/\Vals vs' us':=by
 intro us us' pm
 induction pm with
 |nil=>intro vs r;exact⟨vs,.refl _,r⟩
 |cons x _ ih =>
  intro vs r
  cases r with
  |cons r1 r2=>obtain⟨w,p,q⟩:=ih r2;exact⟨_::w,p.cons _,.cons r1 q⟩
 |swap x y l =>
  intro vs r
  cases r with
  |cons r1 r2=>cases r2 with
   |cons r3 r4=>exact⟨_::_::_,.swap ..,.cons r3 (.cons r1 r4)⟩
 |trans _ _ ih1 ih2 =>
  intro vs r
  obtain⟨w,p,q⟩:=ih2 r
  obtain⟨w',p',q'⟩:=ih1 q
  exact⟨w',p'.trans p,q'⟩
theorem xD {K:PySem.W.Frag}{H:Hp}{J:List Addr}{vs' vs:List V}(pm:vs'.Perm vs):∀ {ds:List D},Ats K H J ds vs->∃ ds':List D,ds'.Perm ds/\Ats K H J ds' vs':=by
 induction pm with
 |nil=>intro ds m;exact⟨ds,.refl _,m⟩
 |cons x _ ih =>
  intro ds m
  cases ds with
  |nil=>cases Ats.nil_iff.mp m
  |cons d ds=>obtain⟨a,b⟩:=m.uncons;obtain⟨w,p,q⟩:=ih b;exact⟨d::w,p.cons _,.cons a q⟩
 |swap x y l =>
  intro ds m
  cases ds with
  |nil=>cases Ats.nil_iff.mp m
  |cons d ds=>cases ds with
   |nil=>cases Ats.nil_iff.mp m.uncons.2
   |cons d2 ds=>obtain⟨a,b⟩:=m.uncons;obtain⟨a2,b2⟩:=b.uncons;exact⟨d2::d::ds,.swap ..,.cons a2 (.cons a b2)⟩
 |trans _ _ ih1 ih2 =>
  intro ds m
  obtain⟨w,p,q⟩:=ih2 m
  obtain⟨w',p',q'⟩:=ih1 q
  exact⟨w',p'.trans p,q'⟩
theorem qv {K:Type}[DecidableEq K]:∀ (l ks:List K) (k:K),k∈l.foldl bQ ks↔k∈ks∨k∈l
 |[],ks,k=>by simp
 |a::l,ks,k=>by
  rw[List.foldl_cons,qv l,List.mem_cons]
  unfold bQ
  split
  ·constructor
   ·rintro (h |h)
    ·exact .inl h
    ·exact .inr (.inr h)
   ·rintro (h |rfl |h)
    ·exact .inl h
    ·left;assumption
    ·exact .inr h
  ·simp only[List.mem_append,List.mem_singleton]
   constructor
   ·rintro ((h |h) |h)
    ·exact .inl h
    ·exact .inr (.inl h)
    ·exact .inr (.inr h)
   ·rintro (h |h |h)
    ·exact .inl (.inl h)
    ·exact .inl (.inr h)
    ·exact .inr h
theorem qx {K:Type}[DecidableEq K]:∀ (l ks:List K),(l.foldl bQ ks).length<=ks.length+l.length
 |[],ks=>Nat.le_refl _
 |a::l,ks=>by
  rw[List.foldl_cons]
  have:=qx l (bQ ks a)
  have h2:(bQ ks a).length<=ks.length+1:=by unfold bQ;split<;>simp
  rw[List.length_cons];omega
theorem qw (f:Str->Key)(hf:∀ a b,f a=f b->a=b):∀ (l ks:List Str),(l.map f).foldl bQ (ks.map f)=(l.foldl bQ ks).map f
 |[],ks=>rfl
 |a::l,ks=>by
  rw[List.map_cons,List.foldl_cons,List.foldl_cons,← qw f hf]
  congr 1
  unfold bQ
  by_cases h:a∈ks
  ·rw[if_pos h,if_pos (List.mem_map_of_mem h)]
  ·rw[if_neg h,if_neg,List.map_append]
   ·rfl
   ·intro hm
    obtain⟨b,hb,e⟩:=List.mem_map.mp hm
    exact h (hf b a e▸hb)
theorem Inv.moved {pins:List (Addr×Obj)}{σ:St}{H:Hp}{s s':Shared}(I:Inv X pins σ H s)(k:∀ b o,s.heap.get? b=some o->s'.heap.get? b=some o)(g:s'.gens=s.gens)(o:s'.os=s.os):Inv X pins σ H s':=by
 obtain⟨h',g',d',t',o'⟩:=s'
 cases g;cases o
 exact I.call (d':=d') (t':=t') (g':=s.gens) (ch:=[]) (Un.kept k) (I.hok.kept k) I.bare λb z=>absurd z (by simp)
theorem o3 (hc:X.calm=true):eT X (.builtin "sorted") (λxs H Q => ∃ (p:Addr) (ss:List Str) (J:List Addr) (out:List D),xs=[.ref p]/\H p=some (zx X.prog X.w p (ss.map Sum.inr))/\(∀ a∈J,H a≠none)/\(∀ x∈ss,okS x)/\dR (ss.map .str)=some out/\∀ H' v,Same H H'->At X.K H' J (.lst out) v->Q v H'):=by
 intro pins s σ H xs us Q I r h
 obtain⟨p,ss,J,out,rfl,hp,hJ,hok,e,q⟩:=h
 obtain⟨u,rfl,ru⟩:=vals1 r
 cases ru
 obtain⟨⟨o,es,ep,t,ho,hex,hd,hl,hb,hf,hled,hpl⟩,_,_⟩:=I.hok p _ hp
 obtain⟨l,pm,rl⟩:=id hl
 have ez:=SetK.len (h:=s.heap) (p:=p) hl
 have hz:es.size<=sizeLine:=Nat.le_of_lt (Nat.lt_of_lt_of_le hb (by decide))
 have hpl':t.plain=false∨es.size<=1:=by
  cases hq:t.plain with
  |false=>exact .inl rfl
  |true =>
   refine .inr ?_
   rw[ez]
   cases ss with
   |nil=>simp
   |cons a b=>have:=hpl hq (Sum.inr a) (by simp);cases this
 refine gI hJ e q λQ' E hQ=>?_
 have hh:X.A.in1.handled=none:=I.ok.hd hc
 refine ko (.inl rfl) ⟨o,ho,hex.1⟩ (λus=>us.Perm (l.map (·.2))) (λh0 Q2 E2 k0 hgo=>?_) λs' acc hperm k g os=>?_
 ·refine rH (s:={ s with heap:=h0 }) (k0 _ _ ho) hex hd hf hz (λhb=>by rw[hled,hb];rfl) hpl' λit ot fp F first h' d y si hF k1 hle hfp=>?_
  have hne:p≠it:=λz=>by
   have h1:p<h0.objs.size:=Heap.lt_size (k0 _ _ ho)
   rw[z] at h1
   exact absurd (Nat.lt_of_lt_of_le h1 hle) (Nat.lt_irrefl _)
  refine hgo it fp [it] es.size _ _ _ ((Walks.set (A:=X.A.in1.in1) hh y hne hex hd hf).toS) ⟨k1 _ _ (k0 _ _ ho),first,si,hF⟩ hz hfp (λb hb=>by rw[List.mem_singleton.mp hb];exact hle) k1 rfl rfl λacc ha=>?_
  obtain⟨a1,a2⟩:=ha
  have osz:ot.size=es.size:=by have:=y.perm.length_eq;simpa using this
  have e3:acc.toList=ot.toList.map (·.2):=by
   apply List.ext_getElem?
   intro i
   by_cases hi:i<es.size
   ·have hv:acc[i]?=some acc[i]:=Array.getElem?_eq_getElem (by omega)
    have:=a2 i _ hv
    rw[List.getElem?_map,Array.getElem?_toList,Array.getElem?_toList,hv,this]
   ·rw[List.getElem?_map,Array.getElem?_toList,Array.getElem?_toList,Array.getElem?_eq_none (by omega),Array.getElem?_eq_none (by omega)];rfl
  rw[e3]
  exact (y.perm.trans pm.symm).map _
 ·have rv:=SetK.vals rl
  obtain⟨vs',p1,r1⟩:=ui hperm rv
  have m0:Ats X.K H J (ss.map .str) ((ss.map Sum.inr).map kV):=by rw[List.map_map];exact Ats.ofStrs hok
  obtain⟨ds',p2,m2⟩:=xD p1 m0
  exact hQ acc vs' s' ds' (I.moved k g os) r1 p2 m2
theorem xV {K:PySem.W.Frag}{H:Hp}{J:List Addr}{ss:List Str}{vs:List V}(m:Ats K H J (ss.map .str) vs):vs=ss.map V.str/\∀ x∈ss,okS x:=by
 induction ss generalizing vs with
 |nil=>exact⟨Ats.nil_iff.mp m,λx hx=>by cases hx⟩
 |cons a l ih =>
  obtain⟨v,r,rfl,m1,m2⟩:=Ats.cons_iff.mp m
  obtain⟨e1,k1⟩:=At.str_iff.mp m1
  obtain⟨e2,k2⟩:=ih m2
  subst e1 e2
  refine⟨rfl,λx hx=>?_⟩
  rcases List.mem_cons.mp hx with rfl |hx
  ·exact k1
  ·exact k2 x hx
theorem ou {a:Expr}(hx:x="sorted")(hy:y="set")(hc:X.calm=true)(hm:X.mg x=none)(hm2:X.mg y=none)(ha:SE X W a fe)(hg:Gl X x:=by rfl)(hg2:Gl X y:=by rfl)
  (he:starEach [a] X.env=(false,eval a X.env)::starEach [] X.env:=by rfl)
  (he2:starEach [(.Call (.Name y p2) [a] [] pos2)] X.env=(false,eval (.Call (.Name y p2) [a] [] pos2) X.env)::starEach [] X.env:=by rfl)
  (hpl:(backTo pos2 (starEach [] X.env)).any (·.1)=false:=by rfl) (hpl2:(backTo pos (starEach [] X.env)).any (·.1)=false:=by rfl) :
  SE X W (.Call (.Name x p) [.Call (.Name y p2) [a] [] pos2] [] pos) (cUn eY fe):=by
 subst hx
 refine PE.imp (fZ (o3 hc) hg hm jZ (bH (uz hc hy hm2 ha hg2 he hpl) pa_nil he2) (by decide) (by decide) he2 hpl2) λσ H Q h=>?_
 refine (tG.bindE h).mono λv H1 ⟨d,h1⟩=>?_
 obtain⟨J,dx,d',hJ,ax,eq,q⟩:=tG.op1 h1
 unfold eY at eq
 split at eq
 ·rename_i ds
  split at eq
  ·rename_i hb
   obtain⟨ss,e1,e2⟩:=Option.map_eq_some_iff.mp eq
   subst e2
   have ed:=dE e1
   subst ed
   rw[List.length_map] at hb
   obtain⟨b,vs,rfl,tq,m⟩:=At.tup_iff.mp ax
   obtain⟨ev,ok⟩:=xV m
   have ev':vs=(ss.map Sum.inr).map kV:=by rw[ev,List.map_map];rfl
   subst ev'
   show k_ _ _ _
   refine⟨b,ss.map Sum.inr,rfl,tq.sq,by rw[List.length_map];omega,λp hp=>?_⟩
   show k_ _ _ _
   have ei:(ss.map (Sum.inr:Str->Key)).foldl bQ []=(ss.foldl bQ []).map Sum.inr:=qw Sum.inr (λa b h=>by cases h;rfl) ss []
   rw[ei]
   refine⟨p,ss.foldl bQ [],J,_,rfl,aX,λa ha=>?_,λx hx=>ok x ?_,?_,λH' v sm m'=>q H' v ((aP hp _).trans sm) m'⟩
   ·by_cases z:a=p
    ·rw[z,aX];simp
    ·rw[aA z];exact hJ a ha
   ·rcases (qv ss [] x).mp hx with h |h
    ·cases h
    ·exact h
   ·unfold dR
    have l2:=qx ss ([]:List Str)
    have l3 : 4000<=sizeLine:=by decide
    rw[if_pos (by rw[List.length_map];simp only[List.length_nil] at l2;omega),cz]
  ·cases eq
 ·cases eq
theorem nv {α β:Type}{R : α->β->Prop}:∀ {l:List α}{m:List β},l.length=m.length->(∀ (i:Nat) a b,l[i]?=some a->m[i]?=some b->R a b)->Paired R l m
 |[],[],_,_ => .nil
 |a::l,b::m,h,k => .cons (k 0 a b rfl rfl) (nv (by simpa using h) λi x y hx hy=>k (i+1) x y (by simpa using hx) (by simpa using hy))
 |[],_::_,h,_=>by simp at h
 |_::_,[],h,_=>by simp at h
theorem rK {α β:Type}{R : α->β->Prop}{l:List α}{m:List β}(r:Paired R l m):∀ (i:Nat) a b,l[i]?=some a->m[i]?=some b->R a b:=by
 induction r with
 |nil=>intro i a b h;simp at h
 |cons f t ih =>
  intro i a b h1 h2
  cases i with
  |zero=>simp at h1 h2;subst h1 h2;exact f
  |succ i=>exact ih i a b (by simpa using h1) (by simpa using h2)
theorem y9 {P:Program}{w:World}{k:Key}{u:Value}(h:(bh P w).is k u=true):RelV (kV k) u:=by
 rcases aZ h with ⟨i,t,rfl,e⟩ |⟨x,t,rfl,e⟩
 ·exact⟨t,e⟩
 ·exact⟨t,e⟩
theorem qE (hc:X.calm=true):eT X (.builtin "sorted") (λxs H Q => ∃ (p:Addr) (ps:List (Key×V)) (J:List Addr) (ds out:List D),xs=[.ref p]/\H p=some (.dK ps)/\(∀ a∈J,H a≠none)/\Ats X.K H J ds (ps.map λq=>kV q.1)/\dR ds=some out/\∀ H' v,Same H H'->At X.K H' J (.lst out) v->Q v H'):=by
 intro pins s σ H xs us Q I r h
 obtain⟨p,ps,J,ds,out,rfl,hp,hJ,m,e,q⟩:=h
 obtain⟨u,rfl,ru⟩:=vals1 r
 cases ru
 obtain⟨hz,hsys,vs,hkv,hd⟩:=I.hok p _ hp
 obtain⟨ep,hda⟩:=hd.dictAt
 have hlen:vs.length=ps.length:=(KV.length hkv).symm
 refine gI hJ e q λQ' E hQ=>?_
 have hh:X.A.in1.handled=none:=I.ok.hd hc
 refine ko (.inr rfl) hd.typeIs (λus=>Vals (ps.map λq=>kV q.1) us) (λh0 Q2 E2 k0 hgo=>?_) λs' acc hv k g os=>?_
 ·have hd0:h0.DictAt (bh X.prog X.w) p vs ep:=hda.keep k0
  refine wpAny_pyIter_dict (s:={ s with heap:=h0 }) hsys hd0 ?_
  have hpl:p<h0.objs.size:=hd0.lt_size
  refine hgo h0.objs.size [h0.objs.size,p] [h0.objs.size] vs.length _ _ _ ((Walks.dictKeys (A:=X.A.in1.in1) hh h0.objs.size p (Nat.ne_of_lt hpl) vs ep).toS) ⟨⟨_,Heap.get?_push_size _ rfl,rfl,rfl⟩,hd0.push _⟩ (by rw[hlen];exact hz)
   (λb hb=>by
    rcases List.mem_cons.mp hb with z |hb
    ·rw[z];exact .inr (Nat.le_refl _)
    ·exact .inl (List.mem_singleton.mp hb))
   (λb hb=>by rw[List.mem_singleton.mp hb];exact Nat.le_refl _) (λb o e=>Heap.get?_push_of_some _ e) rfl rfl λacc ha=>?_
  obtain⟨a1,a2⟩:=ha
  refine nv (by have e1:acc.toList.length=acc.size:=Array.length_toList;rw[List.length_map,e1,a1,hlen]) λi v u hv hu=>?_
  rw[Array.getElem?_toList] at hu
  obtain⟨k,x,e1,e2⟩:=a2 i u hu
  rw[List.getElem?_map] at hv
  obtain⟨q,e3,e4⟩:=Option.map_eq_some_iff.mp hv
  have e5:=(rK hkv i q (k,x) e3 e1).1
  rw[← e4,e5]
  exact y9 e2
 ·exact hQ acc _ s' ds (I.moved k g os) hv (.refl _) m
theorem yc (hx:x="sorted")(hc:X.calm=true)(hm:X.mg x=none)(ha:SE X W e fe)(hg:Gl X x:=by rfl)(he:starEach [e] X.env=(false,eval e X.env)::starEach [] X.env:=by rfl)(hpl:(backTo pos (starEach [] X.env)).any (·.1)=false:=by rfl) :
  SE X W (.Call (.Name x p) [e] [] pos) (t9 fe):=by
 subst hx
 refine SE.either (g1:=bB vR (ah fe az)) (g2:=λρ S=>ag (fe ρ S) λd S1=>aG (match d with | .loc l=>(match S1[l]? with |some (.dict kvs)=>(dR (kvs.map (·.1))).map .lst |_=>none) |_=>none) S1)
  (bM zn hm jZ (ae ha aq he) hg (by decide) (by decide) he hpl) ?_ λρ S=>?_
 ·refine PE.imp (fZ (qE hc) hg hm jZ (bH ha pa_nil he) (by decide) (by decide) he hpl) λσ H Q h=>?_
  refine (tG.bindE h).mono λv H1 ⟨d,h1⟩=>?_
  obtain⟨J,ρ,S,r,S',c,m,eq,z⟩:=h1
  obtain⟨m,_⟩:=m.uncons
  show k_ _ _ _
  cases d with
  |loc l =>
   obtain⟨a,rfl,hl⟩:=At.loc_iff.mp m
   cases hS:S[l]? with
   |none=>simp[hS] at eq
   |some mo =>
    cases mo with
    |lst xs=>simp[hS] at eq
    |exc c=>simp[hS] at eq
    |dictN _=>simp[hS] at eq
    |ins _ _=>simp[hS] at eq
    |dict kvs =>
     simp only[hS] at eq
     cases hq:dR (kvs.map (·.1)) with
     |none=>simp[hq] at eq
     |some out =>
      simp only[hq,Option.map_some,bq,okO] at eq
      cases eq
      obtain⟨ps,hp,hkv⟩:=c.sto.at_ l a _ hl hS
      refine⟨a,ps,J,kvs.map (·.1),out,rfl,hp,c.sto.all,?_,hq,λH' v sm m'=>z J H' v (Ex.same sm) (c.sto.same sm) m'⟩
      clear hq hS z hp
      induction hkv with
      |nil=>exact .nil
      |cons f t ih=>exact .cons f.1.2 ih
  |_=>simp at eq
 ·unfold t9 bB ah az
  cases q:fe ρ S with
  |none=>exact .inl rfl
  |some o =>
   obtain⟨ro,S1⟩:=o
   cases ro with
   |error c=>exact .inl rfl
   |ok d=>cases d<;>first |exact .inl rfl |exact .inr rfl
end
mutual
inductive Lit:Expr->D->Prop
 |int {i:Int}{j p}:Lit (.Constant (.int i) j p) (.int i)
 |bl {b:Bool}{j p}:Lit (.Constant (.bool b) j p) (.bl b)
 |non {j p}:Lit (.Constant .none j p) .non
 |str {x:Str}{j p} (hx:okS x):Lit (.Constant (.str x) j p) (.str x)
 |neg {i:Int}{j p q}:Lit (.UnaryOp .USub (.Constant (.int i) j p) q) (.int (-i))
 |tup {es:List Expr}{ds:List D}{k p} (h:Lits es ds) (n:ds.length<=1000):Lit (.Tuple es k p) (.tup ds)
 |lst {es:List Expr}{ds:List D}{p} (h:Lits es ds) (n:ds.length<=1000):Lit (.List es p) (.lst ds)
inductive Lits:List Expr->List D->Prop
 |nil:Lits [] []
 |cons {e:Expr}{d:D}{es:List Expr}{ds:List D}(h:Lit e d) (r:Lits es ds):Lits (e::es) (d::ds)
end
section
variable {X:Cx}{W:WT}
theorem SE.eq {e:Expr}{g g':Rho->Sto->Out D}(h:SE X W e g)(q:g=g'):SE X W e g':=q▸h
theorem SA.eq {e:List Expr}{g g':Rho->Sto->Out (List D)}(h:SA X W e g)(q:g=g'):SA X W e g':=q▸h
theorem vL {e:Expr}{d:D}(h:Lit e d)(es:List Expr):starEach (e::es) X.env=(false,eval e X.env)::starEach es X.env:=by
 cases h<;>rfl
mutual
theorem ow:∀ {e:Expr}{d:D},Lit e d->SE X W e (ao d)
 |_,_,.int=>ai
 |_,_,.bl=>fS
 |_,_,.non=>lm
 |_,_,.str hx=>aI hx
 |_,_,.neg=>SE.eq (Bq zT ai) rfl
 |_,_,.tup (ds:=ds) h n=>SE.eq (jv (rA h)) (by
   funext ρ S
   show aG (szO ds (.tup ds)) S=okO (.tup ds) S
   unfold szO
   rw[if_pos (Nat.le_trans n (by decide))];rfl)
 |_,_,.lst (ds:=ds) h n=>SE.eq (ls (rA h)) (by
   funext ρ S
   show aG (szO ds (.lst ds)) S=okO (.lst ds) S
   unfold szO
   rw[if_pos (Nat.le_trans n (by decide))];rfl)
theorem rA:∀ {es:List Expr}{ds:List D},Lits es ds->SA X W es (λ_ S=>okO ds S)
 |_,_,.nil=>aq
 |_,_,.cons h r=>SA.eq (ae (ow h) (rA r) (vL h _)) rfl
end
end
section
variable {P:Program}{w:World}{H H':Hp}{h h':Heap}
theorem ObjOk.is {a:Addr}{o:HO}(x:ObjOk P w H h a o):∃ ob,h.get? a=some ob:=by
 cases o with
 |lst xs=>obtain⟨_,_,_,_,e⟩:=x;exact⟨_,e⟩
 |tup xs=>obtain⟨_,_,_,n,e⟩:=x;exact⟨_,e⟩
 |dK kvs=>obtain⟨_,_,_,_,o,_,_,e,_⟩:=x;exact⟨_,e⟩
 |dT kvs=>obtain⟨_,_,_,_,o,_,_,e,_⟩:=x;exact⟨_,e⟩
 |dN kvs=>obtain⟨_,_,_,_,o,_,_,e,_⟩:=x;exact⟨_,e⟩
 |set S n=>obtain⟨o,_,_,_,e,_⟩:=x;exact⟨_,e⟩
 |ins C dx fs=>obtain⟨_,_,_,e,_⟩:=x;exact⟨_,e⟩
 |own y=>exact x
 |xd fs=>obtain⟨_,⟨_,_,_,e,_⟩,_⟩:=x;exact⟨_,e⟩
 |rng lo hi=>obtain⟨_,_,_,e⟩:=x;exact⟨_,e⟩
 |frz ob u=>obtain⟨e,_⟩:=x;exact⟨_,e⟩
 |tbl ps=>exact⟨_,x⟩
 |met f y=>exact⟨_,x⟩
 |ext φ=>obtain⟨_,e,_⟩:=x;exact e
theorem HOk.track (x:HOk P w H h)(k:∀ b o u,H b=some o->h.get? b=some u->h'.get? b=some u):HOk P w H h':=λa o e =>
 (x a o e).stay (λb u hb q=>by
  rcases hb with rfl |hb
  ·exact k _ o u e q
  ·exact k b _ u hb q) (λ_ q=>q) λ_ _ q=>q
end
def B7 (P:Program)(w:World)(l:List Env)(H H':Hp)(h h':Heap)(ea:Addr)(cls:Value):Prop:=
 ∃ (B:Heap) (a0:Value),Un (frs l) [] H H' h h'/\HOk P w H' h'/\Heap.FlyingW B l ea cls a0 h' /\
  (∀ b o,H' b=some o->∀ ob,h'.get? b=some ob->B.get? b=some ob)/\∀ b ob,h.get? b≠none->h'.get? b=some ob->b∉frs l->B.get? b=some ob
def CXF (P:Program)(w:World):CXT:=λouter H s E e s' => ∃ ea H' cls,e = .ref ea/\s'.os=s.os/\AllBare s'.gens/\B7 P w outer H H' s.heap s'.heap ea cls/\E cls none H'
section
variable {P:Program}{w:World}{l l2:List Env}{H H' H0:Hp}{h h1 h2 h0 B:Heap}{ea:Addr}{cls a0:Value}
theorem bU {α:Type}{o:Option α}{a : α}(h:o=some a):o≠none:=by rw[h];simp
theorem l6 (hok:HOk P w H' h1)(fl:Heap.FlyingW B l ea cls a0 h1)(k1:∀ b o,H' b=some o->∀ ob,h1.get? b=some ob->B.get? b=some ob)
  (U:Un (frs l) [] H0 H' h0 h1) (k2:∀ b ob,h0.get? b≠none->h1.get? b=some ob->b∉frs l->B.get? b=some ob)
  (fl2:Heap.FlyingW B l2 ea cls a0 h2) (sm:h1.UpToSlots h2) (hs:∀ b,b∈frs l2->b∈frs l) (hn:∀ b,h0.get? b≠none->b∈frs l->b∈frs l2):B7 P w l2 H0 H' h0 h2 ea cls:=by
 have nin:∀ b:Addr,b∉([]:List Addr):=λb z=>by cases z
 refine⟨B,a0,⟨λb o q n hb _=>?_,λb o q n hb _=>?_,λb o q n _=>U.free b o q n (nin b),λb o q _=>?_,U.tups,U.frzs,U.tbls⟩,HOk.track hok λb o u e q=>fl2.1 b u (k1 b o e u q),fl2,λb o e ob q=>?_,λb ob n0 q hb=>?_⟩
 ·have nb:b∉frs l:=λz=>hb (hn b (bU q) z)
  exact fl2.1 b o (k2 b o (bU q) (U.keep b o q n nb (nin b)) nb)
 ·obtain⟨sl,e1⟩:=U.any q n (nin b)
  obtain⟨_,o',ho',hd⟩:=fl.2.2.1.mem (hs b hb)
  rw[e1] at ho';cases ho'
  obtain⟨sl2,e2⟩:=sm b _ e1 hd
  exact⟨sl2,e2⟩
 ·obtain⟨o1,e1⟩:=U.there b o q (nin b)
  by_cases hb:b∈frs l
  ·obtain⟨_,o',ho',_⟩:=fl2.2.2.1.mem (hn b (bU q) hb)
   exact⟨o',ho'⟩
  ·exact⟨o1,fl2.1 b o1 (k2 b o1 (bU q) e1 hb)⟩
 ·obtain⟨ob1,e1⟩:=(hok b o e).is
  have e2:=k1 b o e ob1 e1
  have e3:=fl2.1 b ob1 e2
  rw[q] at e3;cases e3
  exact e2
 ·have nb:b∉frs l:=λz=>hb (hn b n0 z)
  obtain⟨o,e0⟩:=Option.ne_none_iff_exists'.mp n0
  obtain⟨o1,e1⟩:=U.there b o e0 (nin b)
  have e2:=k2 b o1 n0 e1 nb
  have e3:=fl2.1 b o1 e2
  rw[q] at e3;cases e3
  exact e2
end
section
variable {P:Program}{w:World}{K:PySem.W.Frag}{mg:Str->Option Value}{base:Heap}{N:List Str}{qual:Str}{scope:Scope}{f:Addr}{cd:Value}{A:Around}{outer:List Env}{s:Shared}{H:Hp}{E:XK}{CX:CXT}
theorem ji {env:Env}{outer:List Env}{L:Addr}(hf:env.frame=some L):frs (env::outer)=L::frs outer:=by unfold frs;rw[List.filterMap_cons,hf]
theorem yH:Passes (CXF P w) (cT (CXF P w) P w K mg base N qual scope f cd A outer s H E) E:=by
 intro pins σ H1 s1 e s' I hx
 obtain⟨ea,H',cls,rfl,os,gens,⟨B,a0,U,hok,fl,k1,k2⟩,hE⟩:=hx
 have hfr:(envOfC qual scope s.heap.objs.size f cd).frame=some s.heap.objs.size:=rfl
 have hst:(cT (CXF P w) P w K mg base N qual scope f cd A outer s H E).stack=envOfC qual scope s.heap.objs.size f cd::outer:=rfl
 have hIb:Un (frs outer) [] H H1 s.heap s1.heap:=I.base
 have hIos:s1.os=s.os:=I.os
 have sub:∀ b,b∈frs outer->b∈frs (envOfC qual scope s.heap.objs.size f cd::outer):=λb hb=>by rw[ji hfr];exact List.mem_cons_of_mem _ hb
 have hn:∀ b,s.heap.get? b≠none->b∈frs (envOfC qual scope s.heap.objs.size f cd::outer)->b∈frs outer:=λb n0 hb=>by
  rw[ji hfr] at hb
  rcases List.mem_cons.mp hb with e |hb
  ·subst e
   exact absurd (Heap.get?_none_of_le (Nat.le_refl _)) n0
  ·exact hb
 have U2:Un (frs (envOfC qual scope s.heap.objs.size f cd::outer)) [] H H' s.heap s'.heap:=(hIb.mono (λb hb=>sub b hb) λb z=>z).trans U
 refine wpAny_leaves_onW (base:=B) (outer:=outer) I.ok.frames hfr fl λh' fl' sm=>?_
 refine⟨ea,H',cls,rfl,os.trans hIos,gens,l6 hok fl k1 U2 (λb ob n0 q nb=>?_) fl' sm sub hn,hE⟩
 obtain⟨o,e0⟩:=Option.ne_none_iff_exists'.mp n0
 obtain⟨o1,e1⟩:=hIb.there b o e0 (λz=>by cases z)
 exact k2 b ob (bU e1) q nb
theorem yX {pins:List (Addr×Obj)}{σ:St}{H1:Hp}{s1:Shared}{C e:Addr}{vs:List Value}{h':Heap}(I:Inv (cT (CXF P w) P w K mg base N qual scope f cd A outer s H E) pins σ H1 s1)(hE:E (.ref C) none H1)
  (hm:Heap.MadeExcOf s1.heap h' e (.ref C) vs):(cT (CXF P w) P w K mg base N qual scope f cd A outer s H E).xe (.ref e) { s1 with heap:=h' }:=by
 have hfr:(envOfC qual scope s.heap.objs.size f cd).frame=some s.heap.objs.size:=rfl
 have hIb:Un (frs outer) [] H H1 s.heap s1.heap:=I.base
 have hIos:s1.os=s.os:=I.os
 have hstk:s1.heap.FunFrames base (envOfC qual scope s.heap.objs.size f cd::outer):=I.stack
 have hfree:∀ b∈frs (envOfC qual scope s.heap.objs.size f cd::outer),H1 b=none:=I.stkFree
 have sub:∀ b,b∈frs outer->b∈frs (envOfC qual scope s.heap.objs.size f cd::outer):=λb hb=>by rw[ji hfr];exact List.mem_cons_of_mem _ hb
 have hn:∀ b,s.heap.get? b≠none->b∈frs (envOfC qual scope s.heap.objs.size f cd::outer)->b∈frs outer:=λb n0 hb=>by
  rw[ji hfr] at hb
  rcases List.mem_cons.mp hb with e |hb
  ·subst e
   exact absurd (Heap.get?_none_of_le (Nat.le_refl _)) n0
  ·exact hb
 have hfl:=funFrames_hide (as:=frs (envOfC qual scope s.heap.objs.size f cd::outer)) hstk λenv he a ha=>List.mem_filterMap.mpr ⟨env,he,ha⟩
 refine wpAny_leaves_madeW (base:=hideAll s1.heap (frs (envOfC qual scope s.heap.objs.size f cd::outer))) (h:=s1.heap) (outer:=outer) I.ok.frames hfr (λb o q=>of_hideAll _ q) hfl hm λh2 t x1 x2 x3 x4=>?_
 have big:∀ b ob,s1.heap.get? b=some ob->b∉frs (envOfC qual scope s.heap.objs.size f cd::outer)->(hideAll s1.heap (frs (envOfC qual scope s.heap.objs.size f cd::outer))).get? b=some ob:=λb ob q nb=>hideAll_get _ q nb
 have nin:∀ b:Addr,b∉([]:List Addr):=λb z=>by cases z
 refine⟨e,H1,.ref C,rfl,hIos,I.bare,⟨_,_,⟨λb o q n hb _=>?_,λb o q n hb _=>?_,λb o q n _=>hIb.free b o q n (nin b),λb o q _=>?_,hIb.tups,hIb.frzs,hIb.tbls⟩,HOk.track I.hok λb o u ee q=>?_,x1,λb o ee ob q=>?_,λb ob n0 q hb=>?_⟩,hE⟩
 ·exact x1.1 b o (big b o (hIb.keep b o q n hb (nin b)) λz=>hb (hn b (bU q) z))
 ·obtain⟨sl,e1⟩:=hIb.slot b o q n hb (nin b)
  obtain⟨_,o',ho',hd⟩:=hstk.mem (sub b hb)
  rw[e1] at ho';cases ho'
  obtain⟨sl2,e2⟩:=x4 b _ (hm.keeps b _ e1) hd
  exact⟨sl2,e2⟩
 ·obtain⟨o1,e1⟩:=hIb.there b o q (nin b)
  by_cases hb:b∈frs (envOfC qual scope s.heap.objs.size f cd::outer)
  ·obtain⟨_,o',ho',_⟩:=x1.2.2.1.mem (hn b (bU q) hb)
   exact⟨o',ho'⟩
  ·exact⟨o1,x1.1 b o1 (big b o1 e1 hb)⟩
 ·exact x1.1 b u (big b u q λz=>by rw[hfree b z] at ee;cases ee)
 ·obtain⟨ob1,e1⟩:=(I.hok b o ee).is
  have e2:=big b ob1 e1 λz=>by rw[hfree b z] at ee;cases ee
  have e3:=x1.1 b ob1 e2
  rw[q] at e3;cases e3
  exact e2
 ·obtain⟨o,e0⟩:=Option.ne_none_iff_exists'.mp n0
  obtain⟨o1,e1⟩:=hIb.there b o e0 (nin b)
  have e2:=big b o1 e1 λz=>hb (hn b n0 z)
  have e3:=x1.1 b o1 e2
  rw[q] at e3;cases e3
  exact e2
end
theorem CXF.mono {P:Program}{w:World}{outer:List Env}{H:Hp}{s s':Shared}{E E':XK}{e:Value}(h:CXF P w outer H s E e s')(i:∀ c H,E c none H->E' c none H):CXF P w outer H s E' e s':=by
 obtain⟨ea,H',cls,a,b,c,d,x⟩:=h
 exact⟨ea,H',cls,a,b,c,d,i _ _ x⟩
def EW (K:PySem.W.Frag)(mg:Str->Option Value)(W:WT):XK:=λclsv _ H' => ∃ C c J' S',clsv = .ref C/\mg c=some (.ref C)/\StoOk K J' S' H'/\W c J' S' H'
def WE (mg:Str->Option Value)(E:XK):WT:=λc _ _ H' => ∀ C,mg c=some (.ref C)->E (.ref C) none H'
abbrev nW (X:Cx)(W:WT):Prop:=Passes (CXF X.prog X.w) X (EW X.K X.mg W)
section
variable {P:Program}{w:World}{K:PySem.W.Frag}{mg:Str->Option Value}{base:Heap}{N:List Str}{qual:Str}{scope:Scope}{f:Addr}{cd:Value}{A:Around}{outer:List Env}{s:Shared}{H:Hp}{E:XK}
theorem cJ:nW (cT (CXF P w) P w K mg base N qual scope f cd A outer s H E) (WE mg E):=λpins σ H1 s1 e s' I h =>
 yH pins σ H1 s1 e s' I (CXF.mono h λc H2 ⟨C,c',J',S',e1,e2,so,z⟩=>by subst e1;exact z C e2)
end
def spX (K:PySem.W.Frag)(mg:Str->Option Value)(F:List D->Sto->Out D):Sp:=λvs H Q E => ∃ J S ds r S',Ats K H J ds vs/\StoOk K J S H/\F ds S=some (r,S') /\
 match r with
 | .ok d => ∀ J' H' v,Ex J H J' H'->StoOk K J' S' H'->At K H' J' d v->Q v H'
 | .error c => ∀ J' H' C,Ex J H J' H'->StoOk K J' S' H'->mg c=some (.ref C)->E (.ref C) none H'
def FnX (P:Program)(w:World)(K:PySem.W.Frag)(mg:Str->Option Value)(base:Heap)(k:Nat)(f:Addr)(fd:FuncData)(ps:List Str)(F:List D->Sto->Out D):Prop:=
 FnOk P w K mg base (CXF P w) k f fd ps (spX K mg F)
def sO (P:Program)(w:World)(K:PySem.W.Frag)(mg:Str->Option Value)(base:Heap)(k:Nat)(x:Str)(ps:List Str)(F:List D->Sto->Out D):Prop:=
 ∃ f fd,FnX P w K mg base k f fd ps F/\mg x=some (.ref f)/\PySem.W.keepIn K (.ref f)=true/\Binds K fd ps []
def fG (F:List D->Sto->Out D)(t:Rho->Sto->Out (List D)):Rho->Sto->Out D:=λρ S=>ag (t ρ S) λds S1=>F ds S1
section
variable {X:Cx}{W:WT}{x:Str}{p pos:Pos}{e:Expr}{es:List Expr}{gs:Rho->Sto->Out (List D)}
theorem ve {F:List D->Sto->Out D}{σ:St}{H:Hp}{Q:VK}(h:tE X W (fG F gs) σ H Q):vG (spX X.K X.mg F) [] (EW X.K X.mg W) (tA X W gs) σ H Q:=
 (tG.bindA h).mono λus H1 ⟨ds,hl,h1⟩=>by
  rw[List.append_nil,List.append_nil] at h1
  obtain⟨J,ρ,S,r,S',c,m,e,z⟩:=h1
  refine⟨J,S,ds,r,S',by rw[List.append_nil];exact m,c.sto,e,?_⟩
  cases r with
  |ok d=>exact λJ' H' v x' s' m'=>z J' H' v x' s' m'
  |error cc=>exact λJ' H' C x' s' hm=>⟨C,cc,J',S',rfl,hm,s',z J' H' x' s'⟩
theorem gM {k:Nat}{ps:List Str}{F:List D->Sto->Out D}(C:sO X.prog X.w X.K X.mg X.base k x ps F)(hr:Room k X.A)(L:nW X W)
  (ha:SA X W (e::es) gs) (hg:Gl X x:=by rfl) (hdb:(x==("__debug__":Str))=false:=by decide) (he:starEach (e::es) X.env=(false,eval e X.env)::starEach es X.env:=by rfl) (hpl:(backTo pos (starEach es X.env)).any (·.1)=false:=by rfl) :
  SE X W (.Call (.Name x p) (e::es) [] pos) (fG F gs):=by
 obtain⟨f,fd,G,hm,hk,hb⟩:=C
 exact PE.imp (tD (E:=EW X.K X.mg W) G hr hg hm hk hb .nil L ha hdb he hpl) λσ H Q h=>ve h
end
noncomputable def g7 (n m:Nat)(G:Rho->Sto->Out Fl):List D->Sto->Out D:=λds S=>if ds.length=n then
  match G (ds.map some++List.replicate m none) S with
  |some (.ok (.ret d),S')=>some (.ok d,S')
  |some (.ok (.next _),S')=>some (.ok .non,S')
  |some (.error c,S')=>some (.error c,S')
  |_=>none
 else none
section
variable {P:Program}{w:World}{K:PySem.W.Frag}{mg:Str->Option Value}{base:Heap}
theorem Fun.okX {CX:CXT}{x qual:Str}{st:Stmt}{f:Addr}{fd:FuncData}{N ps:List Str}{k:Nat}{sp:Sp}(F:Fun K x qual st f fd)(S:FnScope N ps (ar st))(len:∀ vs H Q E,sp vs H Q E->vs.length=ps.length)
  (hbody:∀ (cdv:Value) (A:Around) (outer:List Env) (s:Shared) (H:Hp) (vs:List V) (Q:VK) (E:XK),Room k (A.deeper (envOfC qual (ar st) s.heap.objs.size f cdv))->sp vs H Q E ->
   ∃ t,PSs (cT CX P w K mg base N qual (ar st) f cdv A outer s H E) (aW st) t/\t { nx:=λ_ H'=>Q .non H',rt:=Q } (start N vs) H):FnOk P w K mg base CX (k+1) f fd ps sp:=by
 obtain⟨oc,od,kV,doc,pm,an,cdv,ct,osl,rfl,lk,hcd⟩:=F.ex
 exact zN lk hcd S len λA outer s H vs Q E hr hsp=>hbody cdv A outer s H vs Q E hr hsp
theorem kQ {x:Str}{st:Stmt}{sc:Scope}{N ps:List Str}{k:Nat}{G:Rho->Sto->Out Fl}(Dd:bO K mg x st ps)(hsc:ar st=sc)(Sc:FnScope N ps sc)
  (h:∀ (f:Addr) (cdv:Value) (A:Around) (outer:List Env) (s:Shared) (H:Hp) (E:XK),Room k (A.deeper (envOfC x sc s.heap.objs.size f cdv))->SSs (cT (CXF P w) P w K mg base N x sc f cdv A outer s H E) (WE mg E) (aW st) G) :
  sO P w K mg base (k+1) x ps (g7 ps.length (N.length-ps.length) G):=by
 obtain⟨f,fd,Fn,hm,hb⟩:=Dd
 subst hsc
 refine⟨f,fd,Fun.okX Fn Sc (λvs H Q E z=>?_) (λcdv A outer s H vs Q E hr z=>?_),hm,Fn.kp,hb⟩
 ·obtain⟨J,St,ds,d,S',m,_,e,_⟩:=z
  unfold g7 at e
  split at e
  ·rename_i hl;rw[← m.length];exact hl
  ·cases e
 ·obtain⟨J,St,ds,r,S',m,so,e,z⟩:=z
  unfold g7 at e
  split at e
  ·rename_i hl
   have cf:Cf (cT (CXF P w) P w K mg base N x (ar st) f cdv A outer s H E) J (ds.map some++List.replicate (N.length-ps.length) none) St (start N vs) H:=by
    rw[← hl]
    refine⟨?_,λi d' hd=>?_,so⟩
    ·unfold start
     rw[List.length_append,List.length_append,List.length_map,List.length_map,m.length]
     simp
    ·by_cases hi:i<ds.length
     ·rw[List.getElem?_append_left (by simpa using hi),List.getElem?_map] at hd
      cases q:ds[i]? with
      |none=>rw[q] at hd;cases hd
      |some d0 =>
       rw[q] at hd
       cases hd
       obtain⟨v,ev,av⟩:=m.get q
       refine⟨v,?_,av⟩
       unfold start
       rw[List.getElem?_append_left (by rw[List.length_map,← m.length];exact hi),List.getElem?_map,ev]
       rfl
     ·rw[List.getElem?_append_right (by simpa using hi),List.getElem?_replicate] at hd
      split at hd<;>cases hd
   split at e
   ·rename_i d0 S0 q
    cases e
    exact⟨_,h f cdv A outer s H E hr,J,_,St,_,_,cf,q,λJ' H' v x' s' a'=>z J' H' v x' s' a'⟩
   ·rename_i ρ0 S0 q
    cases e
    exact⟨_,h f cdv A outer s H E hr,J,_,St,_,_,cf,q,λJ' σ' H' x' c'=>z J' H' _ x' c'.sto (At.non_iff.mpr rfl)⟩
   ·rename_i c0 S0 q
    cases e
    exact⟨_,h f cdv A outer s H E hr,J,_,St,_,_,cf,q,λJ' H' x' s' C hC=>z J' H' C x' s' hC⟩
   ·cases e
  ·cases e
end
def ExcAt (K:PySem.W.Frag)(mg:Str->Option Value)(x:Str):Prop:=∃ C B newId initId bm,ExcBaseFacts B newId initId bm/\mg x=some (.ref C)/\∀ h,K.In h->OwnCls x C bm newId mg h
def xH (X:Cx)(W:WT):Prop:=∀ (pins:List (Addr×Obj)) (σ:St) (H:Hp) (s:Shared) (C e:Addr) (c:Str) (J:List Addr) (S:Sto) (vs:List Value) (h':Heap),Inv X pins σ H s->X.mg c=some (.ref C)->StoOk X.K J S H->W c J S H ->
 Heap.MadeExcOf s.heap h' e (.ref C) vs->X.xe (.ref e) { s with heap:=h' }
theorem dB {P:Program}{w:World}{K:PySem.W.Frag}{mg:Str->Option Value}{base:Heap}{N:List Str}{qual:Str}{scope:Scope}{f:Addr}{cd:Value}{A:Around}{outer:List Env}{s:Shared}{H:Hp}{E:XK} :
  xH (cT (CXF P w) P w K mg base N qual scope f cd A outer s H E) (WE mg E):=λpins σ H1 s1 C e c J S vs h' I hm so hw mk=>yX I (hw C hm) mk
def jX (c:Str)(t:Rho->Sto->Out (List D)):Rho->Sto->Out Fl:=λρ S=>ag (t ρ S) λds S1=>ag (aG (szO ds .non) S1) λ_ S2=>some (.error c,S2)
theorem lc {X:Cx}{W:WT}{x:Str}{np cpos pos:Pos}{e:Expr}{es:List Expr}{gs:Rho->Sto->Out (List D)}(T:ExcAt X.K X.mg x)(L:xH X W)(hc:X.calm=true)(ha:SA X W (e::es) gs)
  (hg:Gl X x:=by rfl) (hdb:(x==("__debug__":Str))=false:=by decide) (he:starEach (e::es) X.env=(false,eval e X.env)::starEach es X.env:=by rfl) (hpl:(backTo cpos (starEach es X.env)).any (·.1)=false:=by rfl) :
  SS X W (.Raise (some (.Call (.Name x np) (e::es) [] cpos)) none pos) (jX x gs):=by
 obtain⟨C,B,newId,initId,bm,FB,hm,O⟩:=T
 intro pins s σ H D I z
 obtain⟨tl,N,nm,q,bs,hdct,sn,sub,ab,col,dd,k0,k1,k2,k3,k5,mN,hC,hN,hni,OT⟩:=(O _ I.ok.mod.kin).obj
 have hA:tA X W gs σ H λus H1=>us.length<=sizeLine/\∃ J S,StoOk X.K J S H1/\W x J S H1:=by
  obtain⟨J,ρ,S,r,S',c,ee,zz⟩:=z
  unfold jX at ee
  cases qq:gs ρ S with
  |none=>simp[qq] at ee
  |some o =>
   obtain⟨ro,S1⟩:=o
   simp only[qq] at ee
   cases ro with
   |error y =>
    cases ee
    exact⟨J,ρ,S,.error y,_,c,.nil,qq,zz⟩
   |ok ds =>
    by_cases hz:ds.length<=sizeLine
    ·have ee:ag (aG (szO ds .non) S1) (λ_ S2=>(some (.error x,S2):Out Fl))=some (r,S'):=ee
     unfold szO at ee
     rw[if_pos hz] at ee
     cases ee
     exact⟨J,ρ,S,.ok ds,_,c,.nil,qq,λJ1 H1 vs x1 s1 m1=>⟨by rw[← Ats.length m1];exact hz,J1,_,s1,zz J1 H1 x1 s1⟩⟩
    ·have ee:ag (aG (szO ds .non) S1) (λ_ S2=>(some (.error x,S2):Out Fl))=some (r,S'):=ee
     unfold szO at ee
     rw[if_neg hz] at ee
     cases ee
 refine wpAny_Raise_call_subT (C:=C) (nm:=nm) (q:=q) (N:=N) (bs:=bs) (bm:=tl) (hdct:=hdct) (sn:=sn) (sub:=sub) (ab:=ab) (col:=col) (dd:=dd) (k0:=k0) (k1:=k1) (k2:=k2) (k3:=k3) (k5:=k5)
  FB (mN:=mN) (OT.hasType FB.hasBase) (I.ok.hd hc) (by rw[he];show (false ||(backTo cpos (starEach es X.env)).any (·.1))=false;rw[hpl];rfl) hni (gP I hg hm ⟨rfl,?_⟩ hdb)
 rw[he]
 have hs:=ha cpos pins s σ H _ I hA
 rw[he] at hs
 refine Calls.evalArgs_plain (wpAny_mono hs (λus s2 ⟨vs,H1,I1,r,hl,J,S,so,hw⟩=>?_) λ_ _ y=>y)
 exact⟨rfl,by rw[← r.length];exact hl,I1.bk _ _ hC,hN.keeps I1.bk,OT.keeps I1.bk,λh' ea mk=>L pins σ H1 s2 C ea x J S us h' I1 hm so hw mk⟩
noncomputable abbrev Cx.tryB (X:Cx)(pn:List (Addr×Obj))(xe:Value->Shared->Prop):Cx:={ X with pn:=pn,xe:=xe }
noncomputable abbrev Cx.caught (X:Cx)(e:Addr):Cx:={ X with A:=X.A.mark (some (.ref e)),calm:=false,xe:=λ_ _=>False }
section
variable {X:Cx}{pins pins':List (Addr×Obj)}{σ:St}{H:Hp}{s:Shared}{xe:Value->Shared->Prop}{ea:Addr}
theorem Inv.tryB (I:Inv X pins σ H s):Inv (X.tryB (X.pn++pins) xe) [] σ H s:=
 ⟨⟨I.ok.mod,I.ok.kind,I.ok.glob,I.ok.blt,I.ok.above,I.ok.inj,I.ok.has,I.ok.cab,I.ok.hd,I.ok.frames,I.ok.stk,I.ok.exf,I.ok.bs,I.ok.bsz,I.ok.noex,I.ok.exfs,I.ok.funs,I.ok.frf⟩,I.os,I.bare,I.base,I.loc,I.cell,I.free,I.freeC,λp hp=>I.pin p (by simpa using hp),I.hok,I.len⟩
theorem Inv.untry (I:Inv (X.tryB (X.pn++pins) xe) pins' σ H s):Inv X pins σ H s:=
 ⟨⟨I.ok.mod,I.ok.kind,I.ok.glob,I.ok.blt,I.ok.above,I.ok.inj,I.ok.has,I.ok.cab,I.ok.hd,I.ok.frames,I.ok.stk,I.ok.exf,I.ok.bs,I.ok.bsz,I.ok.noex,I.ok.exfs,I.ok.funs,I.ok.frf⟩,I.os,I.bare,I.base,I.loc,I.cell,I.free,I.freeC,λp hp=>I.pin p (List.mem_append_left _ hp),I.hok,I.len⟩
theorem Inv.caught (I:Inv X pins σ H s):Inv (X.caught ea) pins σ H s:=
 ⟨⟨I.ok.mod,I.ok.kind,I.ok.glob,I.ok.blt,I.ok.above,I.ok.inj,I.ok.has,I.ok.cab,(λz=>nomatch z),I.ok.frames,I.ok.stk,I.ok.exf,I.ok.bs,I.ok.bsz,I.ok.noex,I.ok.exfs,I.ok.funs,I.ok.frf⟩,I.os,I.bare,I.base,I.loc,I.cell,I.free,I.freeC,I.pin,I.hok,I.len⟩
theorem Inv.uncaught (ok:X.Ok)(I:Inv (X.caught ea) pins σ H s):Inv X pins σ H s:=⟨ok,I.os,I.bare,I.base,I.loc,I.cell,I.free,I.freeC,I.pin,I.hok,I.len⟩
theorem SP.map {X Y:Cx}{pins pins':List (Addr×Obj)}{D:Ends}{f:Flow}{s':Shared}(i:∀ σ H,Inv X pins σ H s'->Inv Y pins' σ H s')(h:SP X pins D f s'):SP Y pins' D f s':=by
 cases f with
 |next=>obtain⟨σ',H',I,q⟩:=h;exact⟨σ',H',i _ _ I,q⟩
 |brk=>obtain⟨σ',H',I,q⟩:=h;exact⟨σ',H',i _ _ I,q⟩
 |cont=>obtain⟨σ',H',I,q⟩:=h;exact⟨σ',H',i _ _ I,q⟩
 |ret u=>obtain⟨v,σ',H',I,r,q⟩:=h;exact⟨v,σ',H',i _ _ I,r,q⟩
end
def uf (K:PySem.W.Frag)(mg:Str->Option Value)(ct:Str->Bool)(u:Value):Prop:=∀ c C,ct c=true->mg c=some (.ref C)->exmOne K (.ref C) u=some true
theorem yL {X Y:Cx}{W W':WT}{J:List Addr}{H:Hp}{f:Fl}{S:Sto}{D:Ends}(hK:X.K=Y.K)(h:EndS X W J H (.ok f) S D):EndS Y W' J H (.ok f) S D:=by
 cases f with
 |next ρ=>exact λJ' σ' H' x c=>h J' σ' H' x ⟨c.len,by rw[hK];exact c.env,by rw[hK];exact c.sto⟩
 |brk ρ=>exact λJ' σ' H' x c=>h J' σ' H' x ⟨c.len,by rw[hK];exact c.env,by rw[hK];exact c.sto⟩
 |cont ρ=>exact λJ' σ' H' x c=>h J' σ' H' x ⟨c.len,by rw[hK];exact c.env,by rw[hK];exact c.sto⟩
 |ret d=>exact λJ' H' v x s a=>h J' H' v x (by rw[hK];exact s) (by rw[hK];exact a)
end L2
namespace L2
open PySem PySem.Spec PySem.Calls PyProof.Rows PySem.W
structure ExcIn (K:Frag) (C:Addr):Prop where
 cls:findIn K (.ref C) "__class__"=some (some (.builtin "object.__class__"))
 ga:findIn K (.ref C) "__getattribute__"=some (some (.builtin "BaseException.__getattribute__"))
 gn:findIn K (.ref C) "__getattr__"=some none
 so:subIn K (.ref C) (.type "object")=some true
 sb:subIn K (.ref C) (.type "BaseException")=some true
 is:(clsIn K C).isSome=true
section
variable {prog:Program}{w:World}{A:Around}{E:Value->Shared->Prop}{h:Heap}{g:Array GenState}{d:Drawn}{t:Nat}{os:OsState}{a C:Addr}{o:Obj}{K:Frag}
theorem zR {R:Result->Shared->Prop}(T:ExcIn K C)(X:K.In h)(hx:h.get? a=some o)(hc:o.cls = .ref C)(hq:R (.ok (.ret (.ref C))) ⟨h,g,d,t,os⟩) :
  codeAny (model prog w) A (.call (.builtin "getset_descriptor.__get__") ⟨[.builtin "object.__class__",.ref a,.ref C],[]⟩) R ⟨h,g,d,t,os⟩:=by
 have hT5:(⟨h,g,d,t,os⟩:Shared).TypeIs (.builtin "object.__class__") "getset_descriptor":=F.typeOf_object_class
 have Ls:Looks (model prog w) h (isSubtype (.ref C) (.type (".".intercalate ("object.__class__".cutAt '.').dropLast))) true:=by rw[F.owner_object_class];exact looks_subIn X T.so
 refine codeAny_call_builtin F.slot_gs_get.plain F.entry_gs_get (F.slot_gs_get.check _ _ _ _ _ _ _ _ hT5 (F.args_gs_get _ _ _) ?_)
 repeat (any_goals (first |assumption |(with_reducible refine wpAny_loadPart_at hx ?_;rw[hc]) |with_reducible refine Looks.at Ls ?_ |wp_step))
 refine⟨Code.quiet_builtin _ (by decide +kernel),codeAny_builtin F.entry_object_class ?_⟩
 repeat (any_goals (first |assumption |(with_reducible refine wpAny_loadPart_at hx ?_;rw[hc]) |wp_step))
theorem vB {tk:Tok}{Q:Fin->Shared->Prop}(T:ExcIn K C)(X:K.In h)(hx:h.get? a=some o)(hc:o.cls = .ref C)(hq:Q (.done (.ret (.ref C))) ⟨h,g,d,t,os⟩) :
  wpAny (model prog w) A (Builtin.«object.__getattribute__» ⟨[.ref a,.str "__class__" tk],[]⟩) Q E ⟨h,g,d,t,os⟩:=by
 have hT5:(⟨h,g,d,t,os⟩:Shared).TypeIs (.builtin "object.__class__") "getset_descriptor":=F.typeOf_object_class
 have Lc:=looks_findIn (M:=model prog w) X T.cls
 have f5:=F.typeOf_object_class
 have f6:=F.slot_gs_get.lookup
 have f7:=F.slot_gs_set.lookup
 repeat (any_goals (first |assumption |(with_reducible refine wpAny_loadPart_at hx ?_;rw[hc]) |with_reducible refine Looks.at Lc ?_ |wp_step))
 refine zR T X hx hc ?_
 repeat (any_goals (first |assumption |wp_step))
theorem vC {M:Model}{nameV:Value}{Q:Unit->Shared->Prop}(T:ExcIn K C)(X:K.In h)(hx:h.get? a=some o)(hc:o.cls = .ref C)(hq:Q () ⟨h,g,d,t,os⟩) :
  wpAny M A (checkBuiltinCall "BaseException.__getattribute__" ⟨[.ref a,nameV],[]⟩) Q E ⟨h,g,d,t,os⟩:=by
 have hk:builtinKind "BaseException.__getattribute__"=some .slot:=by decide +kernel
 have hsplit:splitId "BaseException.__getattribute__"=some ("BaseException","__getattribute__"):=by decide +kernel
 have Ls:Looks M h (isSubtype (.ref C) (.type "BaseException")) true:=looks_subIn X T.sb
 have ha:=F.args_bexc_ga (.ref a) nameV
 simp only[checkBuiltinCall,hk,hsplit]
 refine wpAny_bind ?_
 ·unfold isInstance
  repeat (first |(with_reducible refine wpAny_loadPart_at hx ?_;rw[hc]) |with_reducible refine Looks.at Ls ?_ |wp_step)
  exact hq
theorem Bf {tk:Tok}{fill expr:Bool}{Q:Value->Shared->Prop}(T:ExcIn K C)(X:K.In h)(hx:h.get? a=some o)(hc:o.cls = .ref C)(hq:Q (.ref C) ⟨h,g,d,t,os⟩) :
  wpAny (model prog w) A (getAttrBy (.ref a) (.str "__class__" tk) fill expr) Q E ⟨h,g,d,t,os⟩:=by
 have f3:=PySem.F.attrBase_ValueError.ga.bind (.ref a)
 have hx0:(expr&&onTheHeap (Value.builtin "BaseException.__getattribute__"))=false:=by cases expr<;>rfl
 have hx2:(Value.builtin "BaseException.__getattribute__"==Value.builtin "object.__getattribute__")=false:=by decide +kernel
 have hx1:(onTheHeap (Value.ref C)&&Value.builtin "BaseException.__getattribute__"==Value.builtin "object.__getattribute__")=false:=by rw[hx2];rfl
 have L1:=looks_findIn (M:=model prog w) X T.ga
 have L2:=looks_findIn (M:=model prog w) X T.gn
 repeat (any_goals (first |assumption |(with_reducible refine wpAny_loadPart_at hx ?_;rw[hc]) |with_reducible refine Looks.at L1 ?_ |with_reducible refine Looks.at L2 ?_ |wp_step))
 refine codeAny_call_builtin PySem.F.attrBase_ValueError.ga.plain F.entry_bexc_ga (vC T X hx hc (vB T X hx hc ?_))
 repeat (any_goals (first |assumption |wp_step))
theorem xM {Q:Option Value->Shared->Prop}(T:ExcIn K C)(X:K.In h)(hx:h.get? a=some o)(hc:o.cls = .ref C)(hq:Q (some (.ref C)) ⟨h,g,d,t+1,os⟩) :
  wpAny (model prog w) A (getAttr? (.ref a) "__class__") Q E ⟨h,g,d,t,os⟩:=by
 unfold getAttr? getAttrBy?
 repeat (any_goals (first |assumption |with_reducible apply Bf T X hx hc |wp_step))
theorem wR (T:ExcIn K C):KitX K (.ref a) (.ref C) (λh => ∃ o,h.get? a=some o/\o.cls = .ref C) where
 ty:=λM h _ ⟨o,h1,h2⟩=>h2▸(Looks.ld h1).andThen .now
 it:=λ_ _ X _=>by
  have z:=T.is
  unfold clsIn at z
  split at z
  ·rename_i c' d' cd' sl' ho
   intro A' Q' E' s' k q
   unfold isType loadHead
   exact wpAny_bind (wpAny_loadPart (k _ _ (X _ _ ho)) (wpAny_pure q))
  ·cases z
 ne:=λh tp dd its n sl X htp=>by
  refine Bool.eq_false_iff.mpr λq=>?_
  have e:C=tp:=Value.ref.inj (beq_iff_eq.mp q)
  subst e
  have z:=T.is
  unfold clsIn at z
  split at z
  ·rename_i c' d' cd' sl' ho
   have z:=(X _ _ ho).symm.trans htp
   cases z
  ·cases z
 ca:=λ{_ _ _ _ _ s} X ⟨o,h1,h2⟩ k=>by
  obtain⟨h,g,d,t,os⟩:=s
  exact xM T X h1 h2 k
end
end L2
namespace L2
open PySem PySem.Spec PyProof.Rows PySem.W
section
variable {X:Cx}{pins:List (Addr×Obj)}{σ:St}{H:Hp}{s:Shared}
theorem Inv.adoptE (I:Inv X pins σ H s){a:Addr}{o:HO}(hn:H a=none)(h0:X.s₀.heap.get? a=none)(hL:a≠X.env.locals)(hc:∀ x c,X.env.cells.lookup x=some c->c≠a)(hp:∀ p∈X.pn++pins,p.1≠a)
  (ok:ObjOk X.prog X.w (upd H a o) s.heap a o):Inv X pins σ (upd H a o) s:=by
 have ne0:∀ b ob,X.s₀.heap.get? b=some ob->b≠a:=λb ob e z=>by rw[z,h0] at e;cases e
 have neH:∀ b u,H b=some u->b≠a:=λb u e z=>by rw[z,hn] at e;cases e
 refine⟨I.ok,I.os,I.bare,⟨I.base.keep,I.base.slot,λb ob e n hx=>?_,I.base.there,λb xs e=>?_,λb ob u e=>?_,λb ps e=>?_⟩,I.loc,I.cell,?_,λx c e=>?_,λp hq=>?_,λb u e=>?_,I.len⟩
 ·rw[aA (ne0 b ob e)];exact I.base.free b ob e n hx
 ·have q:=I.base.tups b xs e
  rw[aA (neH b _ q)];exact q
 ·have q:=I.base.frzs b ob u e
  rw[aA (neH b _ q)];exact q
 ·obtain⟨m,q⟩:=I.base.tbls b ps e
  exact⟨m,by rw[aA (neH b _ q)];exact q⟩
 ·rw[aA (Ne.symm hL)];exact I.free
 ·rw[aA (hc x c e)];exact I.freeC x c e
 ·obtain⟨h1,h2,h3⟩:=I.pin p hq
  exact⟨h1,by rw[aA (hp p hq)];exact h2,h3⟩
 ·by_cases hb:b=a
  ·subst hb;rw[aX] at e;cases e;exact ok
  ·rw[aA hb] at e
   exact (I.hok b u e).stay (λc v _ q=>q) (λc q=>by rw[aA (neH c _ q)];exact q) λc xs q=>by rw[aA (neH c _ q)];exact q
theorem Inv.forget (I:Inv X pins σ H s){h':Heap}{t':Nat}{m':Str->Option Value}(hn:h'.Ns X.env.locals m')(sb:Heap.SameBut X.env.locals s.heap h'):Inv X pins (σ.map λ_=>none) H { s with heap:=h',toks:=t' }:=by
 have ne0:∀ b ob,X.s₀.heap.get? b=some ob->b≠X.env.locals:=λb ob e=>Nat.ne_of_lt (Nat.lt_of_lt_of_le (Heap.lt_size e) I.ok.above)
 have go:∀ b,b≠X.env.locals->h'.get? b=s.heap.get? b:=λb hb=>sb.2 b hb
 refine⟨I.ok,I.os,I.bare,⟨λb ob e n hb hx=>?_,λb ob e n hb hx=>?_,I.base.free,λb ob e hx=>?_,I.base.tups,I.base.frzs,I.base.tbls⟩,⟨m',hn,λi x v h1 h2=>?_⟩,λx c e=>?_,I.free,I.freeC,λp hq=>?_,HOk.track I.hok λb o u e q=>?_,by simpa using I.len⟩
 ·exact (go b (ne0 b ob e)).trans (I.base.keep b ob e n hb hx)
 ·obtain⟨sl,q⟩:=I.base.slot b ob e n hb hx
  exact⟨sl,(go b (ne0 b ob e)).trans q⟩
 ·obtain⟨o',q⟩:=I.base.there b ob e hx
  exact⟨o',(go b (ne0 b ob e)).trans q⟩
 ·rw[List.getElem?_map] at h2
  cases q : σ[i]? with
  |none=>rw[q] at h2;cases h2
  |some z=>rw[q] at h2;cases h2
 ·obtain⟨v,o,ho,hd⟩:=I.cell x c e
  exact⟨v,o,(go c (I.cne x c e)).trans ho,hd⟩
 ·obtain⟨h1,h2,h3,h4⟩:=I.pin p hq
  exact⟨(go _ h3).trans h1,h2,h3,h4⟩
 ·exact (go b λz=>by rw[z,I.free] at e;cases e).trans q
end
noncomputable def gu (gb:Rho->Sto->Out Fl)(ct:Str->Bool)(i:Nat)(gh:Rho->Sto->Out Fl):Rho->Sto->Out Fl:=λρ S =>
 match gb ρ S with
 |some (.error c,S1)=>if ct c=true then (match gh ((List.replicate ρ.length none).set i (some (.loc S1.length))) (S1++[.exc c]) with
   |some (.ok (.ret d),S2)=>some (.ok (.ret d),S2)
   |_=>none) else none
 |r=>r
theorem vN {X:Cx}{W:WT}{body suite:List Stmt}{b₀:Stmt}{y x:Str}{i:Nat}{np hp pos:Pos}{CT:Addr}{gb gh:Rho->Sto->Out Fl}{ct:Str->Bool}(hmy:X.mg y=some (.ref CT))(hct:uf X.K X.mg ct (.ref CT))
  (hns:∀ c C,ct c=true->X.mg c=some (.ref C)->nsIn X.K mainGlobals c=some (some (.ref C)))
  (hb:∀ pn xe W1,nW (X.tryB pn xe) W1->SSs (X.tryB pn xe) W1 body gb) (hh:∀ e:Addr,SSs (X.caught e) W0 (b₀::suite) gh) (hN:X.N.Nodup) (hi:X.N[i]?=some x) (hx:X.env.scope.names.lookup x=some .local)
  (hst:X.stack=X.env::X.outer:=by rfl) (hfr:X.env.frame=some X.env.locals:=by rfl) (hex:X.ex=[]:=by rfl) (hg:Gl X y:=by rfl) (hdb:(y==("__debug__":Str))=false:=by decide) :
  SS X W (.Try body [.ExceptHandler (some (.Name y np)) (some x) (b₀::suite) hp] [] [] pos) (gu gb ct i gh):=by
 intro pins s σ H D I z
 obtain⟨J,ρ,S,r,S',c,e,zz⟩:=z
 refine wpAny_Try_except ?_
 let W1:WT:=λc J' S' H'=>ct c=true/\∃ d S2,gh ((List.replicate ρ.length none).set i (some (.loc S'.length))) (S'++[.exc c])=some (.ok (.ret d),S2)/\EndS X W J' H' (.ok (.ret d)) S2 D
 let XE:Value->Shared->Prop:=λe s₁=>wpAny (model X.prog X.w) X.A (noteFrame e X.env) (λ_ s₂=>wpAny (model X.prog X.w) X.A (setFlight e none) (λ_ s₃=>wpAny (model X.prog X.w) X.A (handleBy e X.env [.ExceptHandler (some (.Name y np)) (some x) (b₀::suite) hp]) (SP X pins D) X.xe s₃) X.xe s₂) X.xe s₁
 have L:nW (X.tryB (X.pn++pins) XE) W1:=by
  intro pins' σ' H' s' ev s'' I' hxx
  obtain⟨ea,H2,cls,rfl,os,gens,⟨B,a0,U,hok,fl,k1,k2⟩,⟨C,cn,J2,S1,rfl,hmc,so,hcc,d,S2,eh,z2⟩⟩:=hxx
  have hA:X.A.frames=some (X.env::X.outer):=by rw[← hst];exact I.ok.frames
  have fl:Heap.FlyingW B (X.env::X.outer) ea (.ref C) a0 s''.heap:=by rw[← hst];exact fl
  have U:Un (frs (X.env::X.outer)) [] H' H2 s'.heap s''.heap:=by rw[← hst];exact U
  have k2:∀ b ob,s'.heap.get? b≠none->s''.heap.get? b=some ob->b∉frs (X.env::X.outer)->B.get? b=some ob:=by rw[← hst];exact k2
  obtain⟨oe0,vs0,he0,_,hd0,_⟩:=fl.first
  have nfr:ea∉frs (X.env::X.outer):=λz=>by
   obtain⟨_,o,ho,hnf⟩:=fl.2.2.1.mem z
   rw[he0] at ho;cases ho;exact hnf _ hd0
  have new:s'.heap.get? ea=none:=by
   cases q:s'.heap.get? ea with
   |none=>rfl
   |some o=>have:=k2 ea oe0 (bU q) he0 nfr;rw[fl.2.1] at this;cases this
  have free:H2 ea=none:=by
   cases q:H2 ea with
   |none=>rfl
   |some o=>have:=k1 ea o q oe0 he0;rw[fl.2.1] at this;cases this
  refine wpAny_looks_onW hA hfr fl λh4 held4 sm4=>?_
  refine wpAny_landsW held4 λh5 fl5 sm5=>?_
  obtain⟨B5,a5,U5,hok5,fl5',_,_⟩:=l6 hok fl k1 U k2 fl5 (sm4.trans sm5) (λb h=>h) (λb _ h=>h)
  have I5:Inv X pins σ' H2 { s'' with heap:=h5 }:=(Inv.call' (s':={ s'' with heap:=h5 }) I' os (ch:=[]) (by show Un (frs X.stack) [] H' H2 s'.heap h5;rw[hst];exact U5) hok5 gens (λb z=>absurd z (by simp))).untry
  obtain⟨oe,hoe,hcl⟩:=fl5.there
  refine wpAny_handleBy_cons (codeAny_handlers_test (gP (X:=X.caught ea) I5.caught hg hmy ?_ hdb)) (by intro q;cases q)
  have LT:Looks (model X.prog X.w) h5 (typeOf (.ref ea)) (.ref C):=by
   have:=(Looks.ld (M:=model X.prog X.w) (part:=none) hoe)
   rw[← hcl]
   exact this.andThen .now
  refine (exm_one (K:=X.K) I5.kIn LT (hct cn C hcc hmc)).here ?_
  refine codeAny_handlers_suite_as (lands_againW fl5 λh6 fl6 sm6=>?_)
  obtain⟨B6,a6,U6,hok6,fl6',_,_⟩:=l6 hok fl k1 U k2 fl6 ((sm4.trans sm5).trans sm6) (λb h=>h) (λb _ h=>h)
  have I6:Inv X pins σ' H2 { s'' with heap:=h6 }:=(Inv.call' (s':={ s'' with heap:=h6 }) I' os (ch:=[]) (by show Un (frs X.stack) [] H' H2 s'.heap h6;rw[hst];exact U6) hok6 gens (λb z=>absurd z (by simp))).untry
  obtain⟨oe6,hoe6,hcl6⟩:=fl6.there
  have I7:Inv X pins σ' (upd H2 ea (ExO ea C)) { s'' with heap:=h6 }:=by
   refine I6.adoptE free ?_ (λz=>?_) (λx c e z=>?_) (λp hq z=>?_) ⟨⟨oe6,hoe6,hcl6⟩,⟨oe6,hoe6⟩,λh1 h2 ⟨o,a1,a2⟩ k=>⟨o,k o a1,a2⟩⟩
   ·cases q:X.s₀.heap.get? ea with
    |none=>rfl
    |some o =>
     obtain⟨o',q'⟩:=I'.base.there ea o q (by show ea∉X.ex;rw[hex];simp)
     rw[new] at q';cases q'
   ·obtain⟨m,hn,_⟩:=I'.loc
    obtain⟨o,_,_,ho,_⟩:=hn
    have ho:s'.heap.get? X.env.locals=some o:=ho
    rw[← z,new] at ho;cases ho
   ·obtain⟨v,o,ho,_⟩:=I'.cell x c e
    rw[z,new] at ho;cases ho
   ·obtain⟨h1,_⟩:=I'.pin p (List.mem_append_left _ hq)
    rw[z,new] at h1;cases h1
  have hlen : ρ.length = σ'.length:=by rw[c.len,I.len,I6.len]
  have push:=so.push (o:=ExO ea C) (mo:=.exc cn) free ⟨C,hns cn C hcc hmc,aX⟩
  refine lb (X:=X.caught ea) I7.caught hN hi (.inl hx) (show RelV (.ref ea) (.ref ea) from rfl) (λs8 I8=>?_) (.inr hx)
  have hiσ:i < σ'.length:=by rw[I6.len];exact (List.getElem?_eq_some_iff.mp hi).1
  have cf:Cf (X.caught ea) (J2++[ea]) ((List.replicate ρ.length none).set i (some (.loc S1.length))) (S1++[.exc cn]) (σ'.set i (some (.ref ea))) (upd H2 ea (ExO ea C)):=⟨by simp[hlen],λk d hd=>by
   rw[List.getElem?_set] at hd
   split at hd
   ·rename_i hik
    subst hik
    rw[List.length_replicate] at hd
    split at hd
    ·cases hd
     refine⟨.ref ea,by rw[List.getElem?_set_self hiσ],At.loc_iff.mpr ⟨ea,rfl,?_⟩⟩
     rw[← so.len,List.getElem?_append_right (Nat.le_refl _)]
     simp
    ·cases hd
   ·rw[List.getElem?_replicate] at hd
    split at hd<;>exact absurd hd (by simp),push.1⟩
  refine wpAny_mono (hh ea pins _ _ _ { nx:=λ_ _=>False,rt:=D.rt } I8.caught ⟨J2++[ea],_,_,.ok (.ret d),S2,cf,eh,λJ' H' v x' s' a'=>z2 J' H' v (push.2.trans x') s' a'⟩) (λfl s9 q=>?_) λ_ _ q=>False.elim q
  have q2:SP X pins { nx:=λ_ _=>False,rt:=D.rt } fl s9:=SP.map (λ_ _ q=>Inv.uncaught I.ok q) q
  cases fl with
  |ret u =>
   obtain⟨v,σ9,H9,I9,r9,d9⟩:=q2
   obtain⟨m9,hn9,_⟩:=id I9.loc
   refine wpAny_nameGoes (m:=m9) hx hn9 (by rw[I.ok.kind];rfl) λh' m' hn' sb=>?_
   exact⟨v,_,H9,I9.forget hn' sb,r9,d9⟩
  |next=>obtain⟨_,_,_,q⟩:=q2;exact q.elim
  |brk=>obtain⟨_,_,_,q⟩:=q2;exact q.elim
  |cont=>obtain⟨_,_,_,q⟩:=q2;exact q.elim
 have hB:=hb (X.pn++pins) XE W1 L
 have go:∀ (r0:Except Str Fl) S0,gb ρ S=some (r0,S0)->EndS (X.tryB (X.pn++pins) XE) W1 J H r0 S0 D->wpAny (model X.prog X.w) X.A (execs body X.env) (λf s₁=>match f with | .next=>wpAny (model X.prog X.w) X.A (execs [] X.env) (SP X pins D) X.xe s₁ |f=>SP X pins D f s₁) XE s:=λr0 S0 e0 z0=>by
  refine wpAny_mono (hB [] s σ H D I.tryB ⟨J,ρ,S,r0,S0,⟨c.len,c.env,c.sto⟩,e0,z0⟩) (λf s1 q=>?_) λ_ _ q=>q
  have q2:SP X pins D f s1:=SP.map (λ_ _ q=>q.untry) q
  cases f with
  |next =>
   obtain⟨σ2,H2,I2,q3⟩:=q2
   exact (pss_nil (X:=X)) pins s1 σ2 H2 D I2 q3
  |brk=>exact q2
  |cont=>exact q2
  |ret u=>exact q2
 unfold gu at e
 split at e
 ·rename_i cn S1 eb
  split at e
  ·rename_i hcc
   split at e
   ·rename_i d S2 eh
    cases e
    exact go _ _ eb λJ' H' x s'=>⟨hcc,d,_,eh,zz.ex x⟩
   ·cases e
  ·cases e
 ·rename_i hne
  cases r with
  |error cn=>exact absurd e (λq=>hne cn S' q)
  |ok f=>exact go _ _ e (yL (X:=X) rfl zz)
section
variable {X:Cx}{W:WT}{e:Expr}{fe fa:Rho->Sto->Out D}{pos p p2:Pos}
noncomputable def zb (tab:Str->Option Bool)(d:D)(S:Sto):Option D:=match d with
 | .loc l=>(match S[l]? with
  |some (.exc c)=>(tab c).map .bl
  |_=>none)
 |_=>none
def mS (tab:Str->Option Bool)(fe:Rho->Sto->Out D):Rho->Sto->Out D:=λρ S=>ag (fe ρ S) λd S1=>aG (zb tab d S1) S1
theorem xn {v:V}{u:Value}(hv:∀ u',RelV v u'->u'=u) :
  eT X (.builtin "isinstance") (λxs H Q => ∃ a C b,xs=[.ref a,v]/\H a=some (ExO a C)/\ExcIn X.K C/\kitOne X.K (.ref C) u=some b/\Q (.bl b) H):=by
 intro pins s σ H xs us Q I r h
 obtain⟨a,C,b,rfl,hH,T,k,q⟩:=h
 obtain⟨u1,u2,rfl,ru,r2⟩:=vals2 r
 cases hv u2 r2
 cases ru
 obtain⟨⟨o,h1,h2⟩,_,_⟩:=I.hok a _ hH
 exact kia_one (wR T) I.kIn ⟨o,h1,h2⟩ k (λz=>nomatch z) λtk=>⟨.bl b,H,I.tok _,rfl,q⟩
theorem mT:bootBuiltins "isinstance"=some (.builtin "isinstance"):=by decide +kernel
theorem v5 {x t:Str}{v:V}{u:Value}{tab:Str->Option Bool}(hx:x="isinstance")(hm:X.mg x=none)(hv:∀ u',RelV v u'->u'=u)(ht:PE X (.Name t p2) (tC v))
  (htab:∀ c C b,tab c=some b->nsIn X.K mainGlobals c=some (some (.ref C))->ExcIn X.K C/\kitOne X.K (.ref C) u=some b) (ha:SE X W e fe)
  (hg:Gl X x:=by rfl) (he:starEach (e::[.Name t p2]) X.env=(false,eval e X.env)::starEach [.Name t p2] X.env:=by rfl) (hpl:(backTo pos (starEach [.Name t p2] X.env)).any (·.1)=false:=by rfl) :
  SE X W (.Call (.Name x p) [e,.Name t p2] [] pos) (mS tab fe):=by
 subst hx
 refine PE.imp (fZ (xn hv) hg hm mT (bH ha (bH ht pa_nil (by rfl)) he) (by decide) (by decide) he hpl) λσ H Q h=>?_
 refine (tG.bindE h).mono λv1 H1 ⟨d,h1⟩=>?_
 obtain⟨J,ρ,S,r,S',c,m,eq,z⟩:=h1
 obtain⟨m,_⟩:=m.uncons
 unfold zb at eq
 cases d with
 |loc l =>
  obtain⟨a,rfl,hl⟩:=At.loc_iff.mp m
  cases hS:S[l]? with
  |none=>simp[hS] at eq
  |some mo =>
   cases mo with
   |exc cn =>
    simp only[hS] at eq
    cases hb:tab cn with
    |none=>simp[hb] at eq
    |some b =>
     simp only[hb,Option.map_some,bq,okO] at eq
     cases eq
     obtain⟨C,hn,hH⟩:=c.sto.at_ l a _ hl hS
     obtain⟨T,k⟩:=htab cn C b hb hn
     exact⟨a,C,b,rfl,hH,T,k,z J H1 _ Ex.refl c.sto (At.bl_iff.mpr rfl)⟩
   |_=>simp[hS] at eq
 |_=>simp at eq
theorem Ats.toStrs {K:PySem.W.Frag}{H:Hp}{J:List Addr}:∀ {ss:List Str}{vs:List V},Ats K H J (ss.map D.str) vs->vs=ss.map V.str
 |[],_,h=>Ats.nil_iff.mp h
 |n::ns,_,h=>by obtain⟨v,r,rfl,p,q⟩:=Ats.cons_iff.mp h;rw[(At.str_iff.mp p).1,Ats.toStrs q];rfl
theorem iZ:∀ {us:List Value}{ss:List Str},Vals (ss.map V.str) us->StrsAre us ss
 |_,[],r=>by cases r;exact .nil
 |_,s::ss,r=>by
  cases r with
  |cons a b =>
   obtain⟨t,rfl⟩:=a
   exact .cons s t (iZ b)
theorem yU:MtR X "str.join" (λx xs H Q => ∃ z a ys,x = .str z/\xs=[.ref a]/\SqL X.K H a (ys.map V.str)/\(ys.map (·.length)).sum+ys.length*z.length<=16777216/\Q (.str (Txt.join z ys)) H):=by
 intro pins s σ H x xs v us Q I rx rs h
 obtain⟨z,a,ys,rfl,rfl,hl,hz,q⟩:=h
 obtain⟨t,rfl⟩:=rx
 obtain⟨u,rfl,ru⟩:=vals1 rs
 cases ru
 obtain⟨its,rv,⟨o,n,h1,h2,_,h3⟩,_⟩:=I.list hl
 refine join_list (items:=its.toArray) (ys:=ys) ⟨o,h1,h2,n,h3⟩ (by simpa using iZ rv) hz λt' k=>?_
 exact⟨.str (Txt.join z ys),H,I.tok _,⟨_,rfl⟩,q⟩
noncomputable def ic:D->D->Option D
 | .str z,.lst ds=>(fB ds).bind λys=>if (ys.map (·.length)).sum+ys.length*z.length<=16777216/\okB (Txt.join z ys)=true then some (.str (Txt.join z ys)) else none
 |_,_=>none
theorem jf {o:Expr}{name:Str}{apos cpos:Pos}{a:Expr}(hn:name="join")(ho:SE X W o fe)(ha:SE X W a fa)(hbase:attributeBase o name X.env (eval o X.env)=eval o X.env:=by rfl)
  (hfew:((backTo cpos (starEach [a] X.env)).all (λx => !x.1)&&(backToKw cpos (keywordEach [] X.env)).all (λx=>x.1.isSome)
   && decide ([a].length+([]:List Keyword).length+(if ([]:List Keyword).isEmpty then 0 else 1)<30))=true:=by rfl)
  (hline:(apos.endLine==cpos.line)=true:=by rfl) (hs:starEach [a] X.env=(false,eval a X.env)::starEach [] X.env:=by rfl) (hplain:(backTo cpos (starEach [] X.env)).any (·.1)=false:=by rfl) :
  SE X W (.Call (.Attribute o name apos) [a] [] cpos) (gw bo ic fe fa):=by
 subst hn
 refine PE.imp (pR F.plainAttrs_str F.slot_str_join F.type_str_join yU ho (bH ha pa_nil hs) hbase hfew hline hs hplain) λσ H Q h=>je (λJ H1 d v hk m=>rj hk m) (λv v2 H2 Q q=>?_) h
 obtain⟨J,dx,dy,d',hJ,ax,ay,eq,q⟩:=q
 unfold ic at eq
 split at eq
 ·rename_i z ds
  obtain⟨ys,e1,e2⟩:=Option.bind_eq_some_iff.mp eq
  split at e2
  ·rename_i hc
   cases e2
   cases (At.str_iff.mp ax).1
   obtain⟨a,vs,rfl,lq,am⟩:=At.lst_iff.mp ay
   have ed:=dE e1
   subst ed
   have hvs:vs=ys.map V.str:=Ats.toStrs am
   subst hvs
   exact⟨z,a,ys,rfl,rfl,lq.sq,hc.1,q H2 _ (Same.refl _) (At.str_iff.mpr ⟨rfl,lB hc.2⟩)⟩
  ·cases e2
 ·cases eq
noncomputable def va:D->Option D
 | .int i=>j8 [.int i]
 | .str x=>some (.str x)
 |_=>none
theorem z_ (he:SE X W e fe):SE X W (.FormattedValue e (-1) none pos) (cUn va fe):=λpins s σ H Q I h=>by
 refine FormattedValue_plain (thn (he pins s σ H _ I (tG.bindE h)) λu s1 ⟨v,H1,I1,r1,d,h1⟩=>?_)
 obtain⟨J,dx,d',hJ,ax,eq,q⟩:=tG.op1 h1
 unfold va at eq
 split at eq
 ·rename_i i
  simp only[j8] at eq
  split at eq
  ·rename_i hc
   cases eq
   cases At.int_iff.mp ax
   obtain⟨t,rfl⟩:=r1
   exact formatField_int_small hc.1 ⟨.str (bw i),H1,I1.tok _,⟨_,rfl⟩,q H1 _ (Same.refl _) (At.str_iff.mpr ⟨rfl,lB hc.2⟩)⟩
  ·cases eq
 ·rename_i y
  cases eq
  obtain⟨ev,ok⟩:=At.str_iff.mp ax
  cases ev
  obtain⟨t,rfl⟩:=r1
  exact formatField_str (λt' tk=>⟨.str y,H1,I1.tok _,⟨_,rfl⟩,q H1 _ (Same.refl _) (At.str_iff.mpr ⟨rfl,ok⟩)⟩) ok.1
 ·cases eq
def xx:Str->Rho->Sto->Out D:=λacc _ S=>if okB acc=true then okO (.str acc) S else none
noncomputable def sC (y:Str)(k:Str->Rho->Sto->Out D):Str->Rho->Sto->Out D:=λacc ρ S=>if (acc++y).length<=sizeLine then k (acc++y) ρ S else none
def zr (fe:Rho->Sto->Out D)(k:Str->Rho->Sto->Out D):Str->Rho->Sto->Out D:=λacc ρ S=>ag (fe ρ S) λd S1=>match d with
 | .str y=>if (acc++y).length<=sizeLine then k (acc++y) ρ S1 else none
 |_=>none
def JN (X:Cx)(W:WT)(es:List Expr)(k:Str->Rho->Sto->Out D):Prop:=∀ (acc:Str) (pins:List (Addr×Obj)) (s:Shared) (σ:St) (H:Hp) (Q:VK),Inv X pins σ H s->tE X W (k acc) σ H Q ->
 wpAny (model X.prog X.w) X.A (joinParts acc (evalEach es X.env)) (EP X pins σ Q) X.xe s
theorem AL:JN X W [] xx:=λacc pins s σ H Q I h=>by
 obtain⟨J,ρ,S,r,S',c,_,e,z⟩:=h
 unfold xx at e
 split at e
 ·rename_i ho
  cases e
  exact joinParts_nil ⟨.str acc,H,I.tok _,⟨_,rfl⟩,z J H _ Ex.refl c.sto (At.str_iff.mpr ⟨rfl,lB ho⟩)⟩ (lB ho).1
 ·cases e
theorem qo {y:Str}{j:Nat}{es:List Expr}{k:Str->Rho->Sto->Out D}(hr:JN X W es k):JN X W (.Constant (.str y) j pos::es) (sC y k):=λacc pins s σ H Q I h=>by
 obtain⟨J,ρ,S,r,S',c,m,e,z⟩:=h
 unfold sC at e
 split at e
 ·rename_i ho
  refine joinParts_cons (Calls.Constant_str ⟨ho,?_⟩)
  exact hr (acc++y) pins _ σ H Q (I.tok _) ⟨J,ρ,S,r,S',c,m,e,z⟩
 ·cases e
theorem AM {es:List Expr}{k:Str->Rho->Sto->Out D}(he:SE X W e fe)(hr:JN X W es k):JN X W (e::es) (zr fe k):=λacc pins s σ H Q I h=>by
 refine joinParts_cons (thn (he pins s σ H _ I (tG.bindE h)) λu s1 ⟨v,H1,I1,r1,d,h1⟩=>?_)
 obtain⟨J,ρ,S,r,S',c,m,e,z⟩:=h1
 cases d with
 |str y =>
  simp only at e
  split at e
  ·rename_i ho
   cases (At.str_iff.mp m.uncons.1).1
   obtain⟨t,rfl⟩:=r1
   exact⟨ho,hr (acc++y) pins _ σ H1 Q I1 ⟨J,ρ,S,r,S',c,.nil,e,z⟩⟩
  ·cases e
 |_=>simp at e
theorem yi {v₁ v₂:Expr}{rest:List Expr}{k:Str->Rho->Sto->Out D}(h:JN X W (v₁::v₂::rest) k):SE X W (.JoinedStr (v₁::v₂::rest) pos) (k Str.empty):=λpins s σ H Q I z =>
 JoinedStr_many (h Str.empty pins s σ H Q I z)
end
theorem Aw {K:Frag}{h:Heap}{mg:Str->Option Value}{x:Str}{C:Addr}{bmB:List Value}{newId:String}(X:K.In h)(hm:mg x=some (.ref C))(q:excIn K C bmB newId=true):OwnCls x C bmB newId mg h:=⟨hm,by
 unfold excIn at q
 cases hl:K.lookup C with
 |none=>rw[hl] at q;cases q
 |some o =>
  rw[hl] at q
  obtain⟨oc,od,dt,sl⟩:=o
  split at q
  ·rename_i dd cd sl2 ho
   cases ho
   split at q
   ·rename_i C2 bm k0 k1 k2 k3 n k5 e1 e2
    obtain⟨sl⟩:=sl
    dsimp only at e2
    subst e2
    rw[Bool.and_eq_true,Bool.and_eq_true,Bool.and_eq_true,Bool.and_eq_true,Bool.and_eq_true] at q
    obtain⟨⟨⟨⟨⟨c1,c2⟩,c3⟩,c4⟩,c5⟩,c6⟩:=q
    cases eq_of_beq c1
    cases eq_of_beq c2
    obtain⟨nm,bs,mro,ns,qn,hd,sn,sub,ab,col,del⟩:=cd
    dsimp only at e1 c3 c5 c6
    subst e1
    cases del with
    |true=>cases c3
    |false =>
     refine⟨bm,ns,nm,qn,bs,hd,sn,sub,ab,col,od,k0,k1,k2,k3,k5,_,X C _ hl,.of_isNs (isNs_of_in X c5),?_,tail_of_in X c4⟩
     exact nsMap_none_of_in X c5 (eq_of_beq c6)
   ·cases q
  ·cases q⟩
abbrev A6:List Value:=[.type "ValueError",.type "Exception",.type "BaseException",.type "object"]
theorem w9 {K:Frag}{mg:Str->Option Value}{x:Str}{C:Addr}(hm:mg x=some (.ref C))(q:excIn K C A6 "ValueError.__new__"=true):ExcAt K mg x:=
 ⟨C,"ValueError","ValueError.__new__","ValueError.__init__",A6,F.excBase_ValueError,hm,λh X=>Aw X hm q⟩
def HdAt (K:Frag)(mg:Str->Option Value)(y:Str)(cs:List Str):Prop:=∃ CT,mg y=some (.ref CT)/\∀ c∈cs,∃ C,mg c=some (.ref C)/\nsIn K mainGlobals c=some (some (.ref C))/\exmOne K (.ref C) (.ref CT)=some true
noncomputable def inL (cs:List Str)(c:Str):Bool:=cs.contains c
theorem HdAt.ct {K:Frag}{mg:Str->Option Value}{y:Str}{cs:List Str}{CT:Addr}(h:∀ c∈cs,∃ C,mg c=some (.ref C)/\nsIn K mainGlobals c=some (some (.ref C))/\exmOne K (.ref C) (.ref CT)=some true):uf K mg (inL cs) (.ref CT):=λc C hc hm=>by
 obtain⟨C2,e1,_,e3⟩:=h c (List.contains_iff_mem.mp hc)
 rw[hm] at e1;cases e1
 exact e3
theorem HdAt.ns {K:Frag}{mg:Str->Option Value}{y:Str}{cs:List Str}{CT:Addr}(h:∀ c∈cs,∃ C,mg c=some (.ref C)/\nsIn K mainGlobals c=some (some (.ref C))/\exmOne K (.ref C) (.ref CT)=some true) :
  ∀ c C,inL cs c=true->mg c=some (.ref C)->nsIn K mainGlobals c=some (some (.ref C)):=λc C hc hm=>by
 obtain⟨C2,e1,e2,_⟩:=h c (List.contains_iff_mem.mp hc)
 rw[hm] at e1;cases e1
 exact e2
section
variable {X:Cx}{W:WT}{body suite:List Stmt}{b₀:Stmt}{y x:Str}{i:Nat}{np hp pos:Pos}{gb gh:Rho->Sto->Out Fl}{cs:List Str}
theorem uv (T:HdAt X.K X.mg y cs)(hN:X.N.Nodup)(hb:∀ pn xe W1,nW (X.tryB pn xe) W1->SSs (X.tryB pn xe) W1 body gb)(hh:∀ e:Addr,SSs (X.caught e) W0 (b₀::suite) gh)(hi:X.N[i]?=some x:=by rfl)(hx:X.env.scope.names.lookup x=some .local:=by rfl)
  (hst:X.stack=X.env::X.outer:=by rfl) (hfr:X.env.frame=some X.env.locals:=by rfl) (hex:X.ex=[]:=by rfl) (hg:Gl X y:=by rfl) (hdb:(y==("__debug__":Str))=false:=by decide) :
  SS X W (.Try body [.ExceptHandler (some (.Name y np)) (some x) (b₀::suite) hp] [] [] pos) (gu gb (inL cs) i gh):=by
 obtain⟨CT,hm,h⟩:=T
 exact vN hm (HdAt.ct (y:=y) h) (HdAt.ns (y:=y) h) hb hh hN hi hx hst hfr hex hg hdb
end
noncomputable def lkB (tab:List (Str×Bool))(c:Str):Option Bool:=tab.lookup c
def TabAt (K:Frag)(u:Value)(tab:List (Str×Bool)):Prop:=∀ p∈tab,∃ C,nsIn K mainGlobals p.1=some (some (.ref C))/\ExcIn K C/\kitOne K (.ref C) u=some p.2
theorem TabAt.get {K:Frag}{u:Value}{tab:List (Str×Bool)}(h:TabAt K u tab):∀ c C b,lkB tab c=some b->nsIn K mainGlobals c=some (some (.ref C))->ExcIn K C/\kitOne K (.ref C) u=some b:=λc C b e hn=>by
 have hm:(c,b)∈tab:=by
  unfold lkB at e
  induction tab with
  |nil=>cases e
  |cons p r ih =>
   obtain⟨k,v⟩:=p
   rw[List.lookup_cons] at e
   split at e
   ·rename_i hk
    cases e
    cases eq_of_beq hk
    exact .head _
   ·exact .tail _ (ih (λq hq=>h q (.tail _ hq)) e)
 obtain⟨C2,e1,e2,e3⟩:=h (c,b) hm
 rw[hn] at e1;cases e1
 exact⟨e2,e3⟩
section
variable {X:Cx}{W:WT}{e:Expr}{fe:Rho->Sto->Out D}{pos p p2:Pos}{x t:Str}{tab:List (Str×Bool)}
theorem tj (hx:x="isinstance")(hm:X.mg x=none)(T:∃ CT,X.mg t=some (.ref CT)/\TabAt X.K (.ref CT) tab)(ha:SE X W e fe)(hg:Gl X x:=by rfl)(hgt:Gl X t:=by rfl)(hdb:(t==("__debug__":Str))=false:=by decide)
  (he:starEach (e::[.Name t p2]) X.env=(false,eval e X.env)::starEach [.Name t p2] X.env:=by rfl) (hpl:(backTo pos (starEach [.Name t p2] X.env)).any (·.1)=false:=by rfl) :
  SE X W (.Call (.Name x p) [e,.Name t p2] [] pos) (mS (lkB tab) fe):=by
 obtain⟨CT,hmt,h⟩:=T
 exact v5 hx hm (v:=.ref CT) (λ_ q=>q) (tz hgt hmt rfl hdb) h.get ha hg he hpl
theorem yg {B:String}(hx:x="isinstance")(hm:X.mg x=none)(hmt:X.mg t=none)(hv:bootBuiltins t=some (.type B))(T:TabAt X.K (.type B) tab)(ha:SE X W e fe)(hg:Gl X x:=by rfl)(hgt:Gl X t:=by rfl)
  (hn:t≠"__name__":=by decide) (hdb:(t==("__debug__":Str))=false:=by decide)
  (he:starEach (e::[.Name t p2]) X.env=(false,eval e X.env)::starEach [.Name t p2] X.env:=by rfl) (hpl:(backTo pos (starEach [.Name t p2] X.env)).any (·.1)=false:=by rfl) :
  SE X W (.Call (.Name x p) [e,.Name t p2] [] pos) (mS (lkB tab) fe):=
 v5 hx hm (v:=.ty B) (λ_ q=>q) (tF hgt hmt hv rfl hn hdb) T.get ha hg he hpl
theorem mU:bootBuiltins "ValueError"=some (.type "ValueError"):=by decide +kernel
end
def cv (gt:Rho->Sto->Out Bool)(gb:Rho->Sto->Out Fl):Nat->Rho->Sto->Out Fl
 | 0,_,_=>none
 |n+1,ρ,S=>ag (gt ρ S) λb S1=>if b=true then ag (gb ρ S1) λf S2=>(match f with
   | .next ρ'=>cv gt gb n ρ' S2
   | .cont ρ'=>cv gt gb n ρ' S2
   | .brk ρ'=>okO (.next ρ') S2
   | .ret d=>okO (.ret d) S2) else okO (.next ρ) S1
def jW (n:Nat)(gt:Rho->Sto->Out Bool)(gb:Rho->Sto->Out Fl):Rho->Sto->Out Fl:=cv gt gb n
section
variable {X:Cx}{W:WT}{pos:Pos}
theorem qZ {gt:Rho->Sto->Out Bool}{gb:Rho->Sto->Out Fl}{n:Nat}{D:Ends}{σ:St}{H:Hp}(h:tS X W (jW n gt gb) D σ H):vF (tT X W gt) (tS X W gb) D σ H:=by
 refine⟨λm σ H=>tS X W (cv gt gb m) D σ H,⟨n,h⟩,λm σ H h=>?_⟩
 obtain⟨J,ρ,S,r,S',c,e,z⟩:=h
 cases m with
 |zero=>cases e
 |succ m =>
  unfold cv at e
  cases q:gt ρ S with
  |none=>simp[q] at e
  |some o =>
   obtain⟨ro,S1⟩:=o
   simp only[q] at e
   cases ro with
   |error y =>
    cases e
    exact⟨J,ρ,S,.error y,_,c,.nil,q,z⟩
   |ok b =>
    refine⟨J,ρ,S,.ok b,S1,c,.nil,q,λJ1 H1 b' x s1 m1=>?_⟩
    cases m1
    have c1:Cf X J1 ρ S1 σ H1:=c.re x s1
    have z1:EndS X W J1 H1 r S' D:=EndS.ex z x
    cases b with
    |false =>
     have e:(okO (.next ρ) S1:Out Fl)=some (r,S'):=e
     cases e
     exact z1 J1 σ H1 Ex.refl c1
    |true =>
     refine⟨λσ' H'=>tS X W (cv gt gb m) D σ' H',λσ' H' hN=>⟨m,Nat.lt_succ_self m,hN⟩,?_⟩
     have e:ag (gb ρ S1) (λf S2=>(match f with
       | .next ρ'=>cv gt gb m ρ' S2
       | .cont ρ'=>cv gt gb m ρ' S2
       | .brk ρ'=>okO (.next ρ') S2
       | .ret d=>okO (.ret d) S2:Out Fl))=some (r,S'):=e
     cases q2:gb ρ S1 with
     |none=>simp[q2] at e
     |some o2 =>
      obtain⟨r2,S2⟩:=o2
      rw[q2] at e
      cases r2 with
      |error y =>
       cases e
       exact⟨J1,ρ,S1,.error y,_,c1,q2,λJ' H' x' s'=>z1 J' H' x' s'⟩
      |ok f =>
       cases f with
       |next ρ'=>exact⟨J1,ρ,S1,_,S2,c1,q2,λJ' σ' H' x' c'=>⟨J',ρ',S2,r,S',c',e,EndS.ex z1 x'⟩⟩
       |cont ρ'=>exact⟨J1,ρ,S1,_,S2,c1,q2,λJ' σ' H' x' c'=>⟨J',ρ',S2,r,S',c',e,EndS.ex z1 x'⟩⟩
       |brk ρ' =>
        cases e
        exact⟨J1,ρ,S1,_,_,c1,q2,λJ' σ' H' x' c'=>z1 J' σ' H' x' c'⟩
       |ret d =>
        cases e
        exact⟨J1,ρ,S1,_,_,c1,q2,λJ' H' v x' s' a'=>z1 J' H' v x' s' a'⟩
theorem vM {t:Expr}{body:List Stmt}{gt:Rho->Sto->Out Bool}{gb:Rho->Sto->Out Fl}{n:Nat}(hp:PassesOwn (model X.prog X.w) X.A X.env X.xe)(ht:TS1 X W t gt)(hb:SSs X W body gb):SS X W (.While t body [] pos) (jW n gt gb):=
 PS.imp (wb hp ht hb) λE σ H h=>qZ h
end
section
variable {X:Cx}{W:WT}{fe fa:Rho->Sto->Out D}
theorem hV:∀ (l:List (Str×Tok)),Vals ((l.map (·.1)).map V.str) (strValues l)
 |[] => .nil
 |p::r => .cons ⟨p.2,rfl⟩ (hV r)
theorem wG:MtR X "str.split" (λx xs H Q => ∃ z y,x = .str z/\xs=[.str y]/\(y.length==0)=false/\z.length<=sizeLine/\(Builtin.Str.partsBetween z (Builtin.Str.occurrences z y 0 z.length (z.length+1)) y.length).length<=sizeLine/\(Txt.split z y).length<=sizeLine /\
  ∀ l,H l=none->Q (.ref l) (upd H l (.lst ((Txt.split z y).map V.str)))):=by
 intro pins s σ H x xs v us Q I rx rs h
 obtain⟨z,y,rfl,rfl,hy,hz,hn,hl,q⟩:=h
 obtain⟨t,rfl⟩:=rx
 obtain⟨u,rfl,ru⟩:=vals1 rs
 obtain⟨t2,rfl⟩:=ru
 have hf:H s.heap.objs.size=none:=I.hok.fresh (Nat.le_refl _)
 have fin:∀ (l:List (Str×Tok)) (k:Nat),l.map (·.1)=Txt.split z y->EP X pins σ Q (.ref s.heap.objs.size) { s with toks:=k,heap:=s.heap.push { cls:=.type "list",data:=.seq (strValues l).toArray } }:=λl k e=>by
  have r:=hV l
  rw[e] at r
  refine⟨.ref s.heap.objs.size,upd H s.heap.objs.size (.lst ((Txt.split z y).map V.str)),I.laid (t':=k) (λb u e=>Heap.get?_push_of_some _ e) (Nat.le_refl _) ?_,rfl,q _ hf⟩
  exact⟨by rw[List.length_map];exact hl,_,0,r,Heap.get?_push_size _ rfl⟩
 cases h1:(decide (z.length<y.length) ||decide (Builtin.Str.strKind z<Builtin.Str.strKind y)) with
 |true=>exact call_meets F.slot_str_split (typeIs_str _ _ _) F.entry_str_split (F.args_str_split_2 _ _) (meets_str_split_cannot_occur z y t t2 h1) (fin [(z,t)] s.toks (by unfold Txt.split;rw[if_pos h1];rfl))
 |false =>
  have no:¬ ((decide (z.length<y.length) ||decide (Builtin.Str.strKind z<Builtin.Str.strKind y))=true):=by rw[h1];simp
  cases h2:(Builtin.Str.occurrences z y 0 z.length (z.length+1)).isEmpty with
  |true=>exact call_meets F.slot_str_split (typeIs_str _ _ _) F.entry_str_split (F.args_str_split_2 _ _) (meets_str_split_not_found z y t t2 h1 hy h2) (fin [(z,t)] s.toks (by unfold Txt.split;rw[if_neg no,if_pos h2];rfl))
  |false =>
   have no2:¬ ((Builtin.Str.occurrences z y 0 z.length (z.length+1)).isEmpty=true):=by rw[h2];simp
   refine call_meets F.slot_str_split (typeIs_str _ _ _) F.entry_str_split (F.args_str_split_2 _ _) (meets_str_split_sep z y t t2 h1 hy h2 hz hn) ?_
   have w:=fin (numbered s.toks (Builtin.Str.partsBetween z (Builtin.Str.occurrences z y 0 z.length (z.length+1)) y.length)) (s.toks+(Builtin.Str.partsBetween z (Builtin.Str.occurrences z y 0 z.length (z.length+1)) y.length).length) (by rw[numbered_texts];unfold Txt.split;rw[if_neg no,if_neg no2])
   rw[← strsFrom_eq] at w
   exact w
noncomputable def fN:D->D->Option D
 | .str z,.str y=>if (y.length==0)=false/\(Builtin.Str.partsBetween z (Builtin.Str.occurrences z y 0 z.length (z.length+1)) y.length).length<=sizeLine/\(Txt.split z y).length<=sizeLine/\(Txt.split z y).all okB=true then some (.lst ((Txt.split z y).map .str)) else none
 |_,_=>none
theorem qO {K:PySem.W.Frag}{H:Hp}{J:List Addr}:∀ {ss:List Str},ss.all okB=true->Ats K H J (ss.map D.str) (ss.map V.str)
 |[],_ => .nil
 |s::r,h=>by
  rw[List.all_cons,Bool.and_eq_true] at h
  exact .cons (At.str_iff.mpr ⟨rfl,lB h.1⟩) (qO h.2)
theorem lK {o:Expr}{name:Str}{apos cpos:Pos}{a:Expr}(hn:name="split")(ho:SE X W o fe)(ha:SE X W a fa)(hbase:attributeBase o name X.env (eval o X.env)=eval o X.env:=by rfl)
  (hfew:((backTo cpos (starEach [a] X.env)).all (λx => !x.1)&&(backToKw cpos (keywordEach [] X.env)).all (λx=>x.1.isSome)
   && decide ([a].length+([]:List Keyword).length+(if ([]:List Keyword).isEmpty then 0 else 1)<30))=true:=by rfl)
  (hline:(apos.endLine==cpos.line)=true:=by rfl) (hs:starEach [a] X.env=(false,eval a X.env)::starEach [] X.env:=by rfl) (hplain:(backTo cpos (starEach [] X.env)).any (·.1)=false:=by rfl) :
  SE X W (.Call (.Attribute o name apos) [a] [] cpos) (gw bo fN fe fa):=by
 subst hn
 refine PE.imp (pR F.plainAttrs_str F.slot_str_split F.type_str_split wG ho (bH ha pa_nil hs) hbase hfew hline hs hplain) λσ H Q h=>je (λJ H1 d v hk m=>rj hk m) (λv v2 H2 Q q=>?_) h
 obtain⟨J,dx,dy,d',hJ,ax,ay,eq,q⟩:=q
 unfold fN at eq
 split at eq
 ·rename_i z y
  split at eq
  ·rename_i hc
   cases eq
   obtain⟨e1,ok1⟩:=At.str_iff.mp ax
   cases e1
   cases (At.str_iff.mp ay).1
   refine⟨z,y,rfl,rfl,hc.1,ok1.1,hc.2.1,hc.2.2.1,λl hl=>q _ _ (aP hl _) (At.newLst (qO hc.2.2.2) hl hJ (by rw[List.length_map];exact hc.2.2.1))⟩
  ·cases eq
 ·cases eq
end
section
variable {X:Cx}{W:WT}{fe fa:Rho->Sto->Out D}
noncomputable def oQ:D->Bool
 | .lst _=>true
 |_=>false
theorem AE {J:List Addr}{H1:Hp}{d:D}{v:V}(hk:oQ d=true)(m:At X.K H1 J d v):tyV X.K "list" v H1:=by
 cases d<;>first |(cases hk;done) |skip
 rename_i ds
 obtain⟨a,vs,rfl,lq,_⟩:=At.lst_iff.mp m
 exact .inl ⟨rfl,vs,lq.sq⟩
end
section
variable {P:Program}{w:World}{K:PySem.W.Frag}{mg:Str->Option Value}{base:Heap}
theorem vm {x:Str}{st:Stmt}{ps:List Str}{k:Nat}(Dd:bO K mg x st ps):sO P w K mg base k x ps (λ_ _=>none):=by
 obtain⟨f,fd,Fn,hm,hb⟩:=Dd
 have no:∀ vs H Q E,¬ spX K mg (λ_ _=>none) vs H Q E:=λvs H Q E h=>by
  obtain⟨J,S,ds,r,S',_,_,e,_⟩:=h
  cases e
 exact⟨f,fd,⟨λvs H Q E h=>absurd h (no vs H Q E),λA outer s H args us vs Q E _ _ _ _ h=>absurd h (no vs H Q E)⟩,hm,Fn.kp,hb⟩
theorem Am {N:List Str}{qual:Str}{scope:Scope}{f:Addr}{cd:Value}{A:Around}{outer:List Env}{s:Shared}{H:Hp}{E:XK} :
  PassesOwn (model P w) (cT (CXF P w) P w K mg base N qual scope f cd A outer s H E).A (cT (CXF P w) P w K mg base N qual scope f cd A outer s H E).env (cT (CXF P w) P w K mg base N qual scope f cd A outer s H E).xe:=PassesOwn.leaving
end
def nY (K:PySem.W.Frag)(c f:Str):Prop:=∃ C,PySem.W.nsIn K mainGlobals c=some (some (.ref C))/\Cls K C/\NoAttr K C f
def MethAt (K:PySem.W.Frag)(c m qual:Str)(st:Stmt)(ps:List Str):Prop:=∃ C f fd,PySem.W.nsIn K mainGlobals c=some (some (.ref C))/\Cls K C/\Meth K C m f/\Fun K m qual st f fd/\Binds K fd ps []
def Bb (K:PySem.W.Frag)(mg:Str->Option Value)(c qual:Str)(st:Stmt)(ps:List Str):Prop:=∃ C f fd,PySem.W.nsIn K mainGlobals c=some (some (.ref C))/\mg c=some (.ref C)/\Mk K C f/\Fun K "__init__" qual st f fd/\Binds K fd ps []
noncomputable def ka (f:Str)(v:D):List (Str×D)->List (Str×D)
 |[]=>[(f,v)]
 |(k,x)::r=>if k=f then (k,v)::r else (k,x)::ka f v r
section
variable {K:PySem.W.Frag}{H H':Hp}{J J':List Addr}
theorem oX {fs:List (Str×D)}{vs:List (Str×V)}(r:Paired (RFs K H J) fs vs)(f:Str):(fs.lookup f=none/\vs.lookup f=none)∨∃ d v,fs.lookup f=some d/\vs.lookup f=some v/\At K H J d v:=by
 induction r with
 |nil=>exact .inl ⟨rfl,rfl⟩
 | @cons p q l1 l2 h t ih =>
  obtain⟨p1,p2⟩:=p
  obtain⟨q1,q2⟩:=q
  have e1:p1=q1:=h.1
  subst e1
  by_cases e:f=p1
  ·have hb:(f==p1)=true:=beq_iff_eq.mpr e
   refine .inr ⟨p2,q2,?_,?_,h.2⟩<;>simp only[List.lookup,hb]
  ·have hb:(f==p1)=false:=beq_eq_false_iff_ne.mpr e
   simp only[List.lookup,hb]
   exact ih
theorem AT {fs:List (Str×D)}{vs:List (Str×V)}(r:Paired (RFs K H J) fs vs)(f:Str){d:D}{v:V}(a:At K H J d v):Paired (RFs K H J) (ka f d fs) (dP f v vs):=by
 induction r with
 |nil=>exact .cons ⟨rfl,a⟩ .nil
 | @cons p q l1 l2 h t ih =>
  obtain⟨p1,p2⟩:=p
  obtain⟨q1,q2⟩:=q
  have e1:p1=q1:=h.1
  subst e1
  rw[show ka f d ((p1,p2)::l1)=(if p1=f then (p1,d)::l1 else (p1,p2)::ka f d l1) from rfl,show dP f v ((p1,q2)::l2)=(if p1=f then (p1,v)::l2 else (p1,q2)::dP f v l2) from rfl]
  by_cases e:p1=f
  ·rw[if_pos e,if_pos e];exact .cons ⟨rfl,a⟩ t
  ·rw[if_neg e,if_neg e];exact .cons h ih
theorem Ats.split:∀ {es ds:List D}{us vs:List V},es.length=us.length->Ats K H J (es++ds) (us++vs)->Ats K H J es us/\Ats K H J ds vs
 |[],_,[],_,_,h=>⟨.nil,h⟩
 |e::es,ds,u::us,vs,hl,h=>by
  obtain⟨h1,h2⟩:=Ats.uncons (d:=e) (v:=u) (ds:=es++ds) (vs:=us++vs) h
  obtain⟨h3,h4⟩:=Ats.split (es:=es) (us:=us) (by simpa using hl) h2
  exact⟨.cons h1 h3,h4⟩
 |[],_,_::_,_,hl,_=>by simp at hl
 |_::_,_,[],_,hl,_=>by simp at hl
end
noncomputable def u7 (c:Str)(d:D)(S:Sto):Option (List (Str×D)):=match d with
 | .loc l=>(match S[l]? with
  |some (.ins c' fs)=>if c'=c then some fs else none
  |_=>none)
 |_=>none
theorem oS {c:Str}{d:D}{S:Sto}{fs:List (Str×D)}(h:u7 c d S=some fs):∃ l,d = .loc l/\S[l]?=some (.ins c fs):=by
 unfold u7 at h
 split at h
 ·rename_i l
  split at h
  ·rename_i c' fs' e
   split at h
   ·rename_i ec;cases h;subst ec;exact⟨l,rfl,e⟩
   ·cases h
  ·cases h
 ·cases h
section
variable {X:Cx}{W:WT}{pos pos' apos p:Pos}{o e value:Expr}{es:List Expr}{fo fv:Rho->Sto->Out D}{gs:Rho->Sto->Out (List D)}{c f m x:Str}
noncomputable def mL (c f:Str)(d:D)(S:Sto):Option D:=(u7 c d S).bind λfs=>fs.lookup f
def vo (c f:Str)(fo:Rho->Sto->Out D):Rho->Sto->Out D:=λρ S=>ag (fo ρ S) λd S1=>aG (mL c f d S1) S1
theorem oy (T:nY X.K c f)(ho:SE X W o fo)(hb:attributeBase o f X.env (eval o X.env)=eval o X.env:=by rfl):SE X W (.Attribute o f pos) (vo c f fo):=
 (As ho hb).imp λσ H Q h=>(tG.bindE h).mono λx H1 ⟨dx,h1⟩=>by
  obtain⟨J,ρ,S,r,S',cf,mm,ee,z⟩:=h1
  try dsimp only at ee
  obtain⟨mx,_⟩:=mm.uncons
  cases q:mL c f dx S with
  |none=>rw[q] at ee;cases ee
  |some d =>
   rw[q] at ee
   cases ee
   obtain⟨fs,h1,h2⟩:=Option.bind_eq_some_iff.mp q
   obtain⟨l,rfl,es⟩:=oS h1
   obtain⟨a,rfl,ha⟩:=At.loc_iff.mp mx
   obtain⟨C,dx,vs,n,eh,rp⟩:=cf.sto.at_ l a _ ha es
   obtain⟨C',n',cl,na⟩:=T
   rw[n] at n'
   cases n'
   rcases oX rp f with ⟨g1,_⟩ |⟨d',v,g1,g2,av⟩
   ·rw[g1] at h2;cases h2
   ·rw[g1] at h2
    cases h2
    exact⟨a,C,dx,vs,v,rfl,eh,cl,na,g2,z J H1 v Ex.refl cf.sto av⟩
def fP (c f:Str)(d v:D)(ρ:Rho)(S:Sto):Out Fl:=match d with
 | .loc l=>(match S[l]? with
  |some (.ins c' fs)=>if c'=c/\fs.length<1000 then okO (.next ρ) (S.set l (.ins c (ka f v fs))) else none
  |_=>none)
 |_=>none
theorem pL {T:nY X.K c f}{σ:St}{H:Hp}{J:List Addr}{ρ:Rho}{S S':Sto}{r:Except Str Fl}{E:Ends}{d dv:D}{x y:V}(cf:Cf X J ρ S σ H)(mx:At X.K H J d x)(my:At X.K H J dv y)
  (ee:fP c f d dv ρ S=some (r,S')) (z:EndS X W J H r S' E):∃ a C dx fs,x = .ref a/\H a=some (.ins C dx fs)/\Cls X.K C/\NoAttr X.K C f/\fs.length<1000/\E.nx σ (upd H a (.ins C dx (dP f y fs))):=by
 unfold fP at ee
 split at ee
 ·rename_i l
  split at ee
  ·rename_i c' fs es
   split at ee
   ·rename_i hc
    obtain⟨ec,hl⟩:=hc
    subst ec
    cases ee
    obtain⟨a,rfl,ha⟩:=At.loc_iff.mp mx
    obtain⟨C,dx,vs,n,eh,rp⟩:=cf.sto.at_ l a _ ha es
    obtain⟨C',n',cl,na⟩:=T
    rw[n] at n'
    cases n'
    have q:=cf.sto.update (o:=.ins C dx (dP f y vs)) (mo:=.ins c' (ka f dv fs)) ha λJ' H' x' eH eJ=>by
     subst eH eJ
     refine⟨C,dx,_,n,aX,AT (Paired.mapP rp λp q z=>⟨z.1,z.2.ex x'⟩) f (my.ex x')⟩
    exact⟨a,C,dx,vs,rfl,eh,cl,na,by rw[← lA rp];exact hl,z J σ _ q.2 (cf.re q.2 q.1)⟩
   ·cases ee
  ·cases ee
 ·cases ee
def qJ (c f:Str)(fo fv:Rho->Sto->Out D):Rho->Sto->Out Fl:=λρ S=>ag (fv ρ S) λv S1=>ag (fo ρ S1) λd S2=>fP c f d v ρ S2
theorem vO (T:nY X.K c f)(ho:SE X W o fo)(hv:SE X W value fv)(hs:swapsWith value (some (.Attribute o f pos')) pos.line X.env=pure false:=by rfl):SS X W (.Assign [.Attribute o f pos'] value pos) (qJ c f fo fv):=
 (Al ho hv hs).imp λE σ H h=>by
  have h:tH X W [] [] (qJ c f fo fv) E σ H:=let ⟨J,ρ,S,r,S',c,e,z⟩:=h;⟨J,ρ,S,r,S',c,.nil,e,z⟩
  refine (tH.bindE h).mono λy H1 ⟨dv,h1⟩=>(tH.bindE h1).mono λx H2 ⟨d,h2⟩=>?_
  obtain⟨J,ρ,S,r,S',cf,mm,ee,z⟩:=h2
  try dsimp only at ee
  obtain⟨mx,mm⟩:=mm.uncons
  obtain⟨my,_⟩:=mm.uncons
  exact pL (T:=T) cf mx my ee z
def sI (c f:Str)(d v y:D)(ρ:Rho)(S:Sto):Out Fl:=match v,y with
 | .int i,.int j=>fP c f d (.int (i+j)) ρ S
 |_,_=>none
def ua (c f:Str)(fo fv:Rho->Sto->Out D):Rho->Sto->Out Fl:=λρ S=>ag (fo ρ S) λd S1=>ag (aG (mL c f d S1) S1) λv S2=>ag (fv ρ S2) λy S3=>sI c f d v y ρ S3
theorem xY (T:nY X.K c f)(ho:SE X W o fo)(hv:SE X W value fv):SS X W (.AugAssign (.Attribute o f pos') .Add value pos) (ua c f fo fv):=
 (uI ho hv AR).imp λE σ H h=>by
  have h:tH X W [] [] (ua c f fo fv) E σ H:=let ⟨J,ρ,S,r,S',c,e,z⟩:=h;⟨J,ρ,S,r,S',c,.nil,e,z⟩
  refine (tH.bindE h).mono λx H1 ⟨d,h1⟩=>?_
  obtain⟨J,ρ,S,r,S',cf,mm,ee,z⟩:=h1
  try dsimp only at ee
  obtain⟨mx,_⟩:=mm.uncons
  cases q:mL c f d S with
  |none=>rw[q] at ee;cases ee
  |some dv =>
   rw[q,bq,dJ] at ee
   obtain⟨fs,h1,h2⟩:=Option.bind_eq_some_iff.mp q
   obtain⟨l,rfl,es⟩:=oS h1
   have mx0:=mx
   obtain⟨a,rfl,ha⟩:=At.loc_iff.mp mx
   obtain⟨C,dx,vs,n,eh,rp⟩:=cf.sto.at_ l a _ ha es
   obtain⟨C',n',cl,na⟩:=id T
   rw[n] at n'
   cases n'
   rcases oX rp f with ⟨g1,_⟩ |⟨d',v,g1,g2,av⟩
   ·rw[g1] at h2;cases h2
   ·rw[g1] at h2
    cases h2
    refine⟨a,C,dx,vs,v,rfl,eh,cl,na,g2,?_⟩
    have h3:tH X W [dv,.loc l] [v,.ref a] (λρ S2=>ag (fv ρ S2) λy S3=>sI c f (.loc l) dv y ρ S3) E σ H1:=⟨J,ρ,S,r,S',cf,.cons av (.cons mx0 .nil),ee,z⟩
    refine (tH.bindE h3).mono λy H2 ⟨dy,h4⟩=>?_
    obtain⟨J2,ρ2,S2,r2,S2',cf2,mm2,ee2,z2⟩:=h4
    try dsimp only at ee2
    obtain⟨my2,mm2⟩:=mm2.uncons
    obtain⟨mv2,mm2⟩:=mm2.uncons
    obtain⟨mx2,_⟩:=mm2.uncons
    have ee2:sI c f (.loc l) dv dy ρ2 S2=some (r2,S2'):=ee2
    unfold sI at ee2
    split at ee2
    ·rename_i i j
     cases At.int_iff.mp my2
     cases At.int_iff.mp mv2
     obtain⟨a',C2,dx2,fs2,e1,e2,cl2,na2,l2,fin⟩:=pL (T:=T) cf2 mx2 (At.int_iff.mpr rfl) ee2 z2
     cases e1
     have eC:C2=C:=by
      have hx:∃ fs,S2[l]?=some (.ins c fs):=by
       unfold fP at ee2
       dsimp only at ee2
       split at ee2
       ·rename_i c0 fs0 e0
        split at ee2
        ·rename_i h0;obtain⟨h00,_⟩:=h0;subst h00;exact⟨fs0,e0⟩
        ·cases ee2
       ·cases ee2
      obtain⟨fs3,es3⟩:=hx
      obtain⟨a3,e3,ha3⟩:=At.loc_iff.mp mx2
      cases e3
      obtain⟨C3,dx3,vs3,n3,eh3,_⟩:=cf2.sto.at_ l a _ ha3 es3
      rw[e2] at eh3
      cases eh3
      rw[n] at n3
      cases n3
      rfl
     subst eC
     exact⟨_,_,rfl,rfl,dx2,fs2,e2,l2,fin⟩
    ·cases ee2
def zA (P:Program)(w:World)(K:PySem.W.Frag)(mg:Str->Option Value)(base:Heap)(k:Nat)(c m:Str)(ps:List Str)(F:List D->Sto->Out D):Prop:=
 ∃ C f fd,PySem.W.nsIn K mainGlobals c=some (some (.ref C))/\Cls K C/\Meth K C m f/\FnD P w K mg base k f fd ps F/\Binds K fd ps []
def xK (P:Program)(w:World)(K:PySem.W.Frag)(mg:Str->Option Value)(base:Heap)(k:Nat)(c m:Str)(ps:List Str)(F:List D->Sto->Out D):Prop:=
 ∃ C f fd,PySem.W.nsIn K mainGlobals c=some (some (.ref C))/\Cls K C/\Meth K C m f/\FnX P w K mg base k f fd ps F/\Binds K fd ps []
def Bc (P:Program)(w:World)(K:PySem.W.Frag)(mg:Str->Option Value)(base:Heap)(k:Nat)(c:Str)(ps:List Str)(F:List D->Sto->Out D):Prop:=
 ∃ C f fd,PySem.W.nsIn K mainGlobals c=some (some (.ref C))/\mg c=some (.ref C)/\Mk K C f/\FnD P w K mg base k f fd ps F/\Binds K fd ps []
noncomputable def mK (c m:Str)(d:D)(S:Sto):Option D:=(u7 c d S).bind λfs=>if fs.lookup m=none then some .non else none
def qK (c m:Str)(F:List D->Sto->Out D)(fo:Rho->Sto->Out D)(gs:Rho->Sto->Out (List D)):Rho->Sto->Out D:=λρ S=>ag (fo ρ S) λd S1=>ag (aG (mK c m d S1) S1) λ_ S2=>ag (gs ρ S2) λds S3=>fD (F (d::ds) S3)
def jY (c m:Str)(F:List D->Sto->Out D)(fo:Rho->Sto->Out D)(gs:Rho->Sto->Out (List D)):Rho->Sto->Out D:=λρ S=>ag (fo ρ S) λd S1=>ag (aG (mK c m d S1) S1) λ_ S2=>ag (gs ρ S2) λds S3=>F (d::ds) S3
theorem lI {C:Addr}(n:PySem.W.nsIn X.K mainGlobals c=some (some (.ref C))){k:Rho->Sto->Out D}{d:D}{x:V}{σ:St}{H:Hp}{Q:VK}(h:tG X W (RD X) [d] [x] (λρ S1=>ag (aG (mK c m d S1) S1) λ_ S2=>k ρ S2) σ H Q) :
  ∃ a dx fs,x = .ref a/\H a=some (.ins C dx fs)/\fs.lookup m=none/\tG X W (RD X) [d] [x] k σ H Q:=by
 obtain⟨J,ρ,S,r,S',cf,mm,ee,z⟩:=h
 try dsimp only at ee
 obtain⟨mx,m0⟩:=mm.uncons
 cases q:mK c m d S with
 |none=>rw[q] at ee;cases ee
 |some d0 =>
  rw[q,bq,dJ] at ee
  obtain⟨fs,h1,h2⟩:=Option.bind_eq_some_iff.mp q
  obtain⟨l,rfl,es⟩:=oS h1
  have mx0:=mx
  obtain⟨a,rfl,ha⟩:=At.loc_iff.mp mx
  obtain⟨C',dx,vs,n',eh,rp⟩:=cf.sto.at_ l a _ ha es
  rw[n] at n'
  cases n'
  split at h2
  ·rename_i hn
   rcases oX rp m with ⟨_,g2⟩ |⟨d',v,g1,_⟩
   ·exact⟨a,dx,vs,rfl,eh,g2,J,ρ,S,r,S',cf,.cons mx0 .nil,ee,z⟩
   ·rw[hn] at g1;cases g1
  ·cases h2
theorem B9 {k:Nat}{ps:List Str}{F:List D->Sto->Out D}{pl:Sem Bool}(G:zA X.prog X.w X.K X.mg X.base k c m ps F)(hr:Room k X.A)(ho:SE X W o fo)(ha:SA X W (e::es) gs)
  (hst:starEach (e::es) X.env=(false,eval e X.env)::starEach es X.env:=by rfl) (hpl:(backTo pos (starEach es X.env)).any (·.1)=false:=by rfl)
  (ht:eval (.Call (.Attribute o m apos) (e::es) [] pos) X.env=(do
   let ov ← eval o X.env
   standAt apos.atName
   let (f,first) ← holding [ov] (getMethod ov m pl)
   callWith pos f first (backTo pos (starEach (e::es) X.env)) (backToKw pos (keywordEach [] X.env))):=by rfl) :
  SE X W (.Call (.Attribute o m apos) (e::es) [] pos) (qK c m F fo gs):=by
 obtain⟨C,f,fd,n,cl,mt,fn,hb⟩:=G
 refine PE.imp (yD (E:=E0) ho cl mt fn hr hb .nil tI ha hst hpl ht) λσ H Q h=>(tG.bindE h).mono λx H1 ⟨d,h1⟩=>?_
 obtain⟨a,dx,fs,e1,e2,e3,h2⟩:=lI n h1
 refine⟨a,dx,fs,e1,e2,e3,(tG.bindA h2).mono λus H2 ⟨ds,hl,h3⟩=>?_⟩
 obtain⟨J,ρ,S,r,S',cf,mm,ee,z⟩:=h3
 try dsimp only at ee
 obtain⟨m1,m2⟩:=Ats.split hl mm
 obtain⟨m3,_⟩:=m2.uncons
 have ee:fD (F (d::ds) S)=some (r,S'):=ee
 unfold fD at ee
 split at ee
 ·rename_i d2 S2 q
  cases ee
  exact⟨J,S,d::ds,d2,_,.cons m3 (by rw[List.append_nil];exact m1),cf.sto,q,λJ' H' v x' s' m'=>z J' H' v x' s' m'⟩
 ·cases ee
theorem pM {k:Nat}{ps:List Str}{F:List D->Sto->Out D}{pl:Sem Bool}(G:zA X.prog X.w X.K X.mg X.base k c m ps F)(hr:Room k X.A)(ho:SE X W o fo)
  (ht:eval (.Call (.Attribute o m apos) [] [] pos) X.env=(do
   let ov ← eval o X.env
   standAt apos.atName
   let (f,first) ← holding [ov] (getMethod ov m pl)
   callWith pos f first (backTo pos (starEach [] X.env)) (backToKw pos (keywordEach [] X.env))):=by rfl) :
  SE X W (.Call (.Attribute o m apos) [] [] pos) (qK c m F fo az):=by
 obtain⟨C,f,fd,n,cl,mt,fn,hb⟩:=G
 refine PE.imp (pQ (E:=E0) ho cl mt fn hr hb .nil tI ht) λσ H Q h=>(tG.bindE h).mono λx H1 ⟨d,h1⟩=>?_
 obtain⟨a,dx,fs,e1,e2,e3,h2⟩:=lI n h1
 refine⟨a,dx,fs,e1,e2,e3,?_⟩
 obtain⟨J,ρ,S,r,S',cf,mm,ee,z⟩:=h2
 try dsimp only at ee
 obtain⟨m3,_⟩:=mm.uncons
 have ee:fD (F [d] S)=some (r,S'):=ee
 unfold fD at ee
 split at ee
 ·rename_i d2 S2 q
  cases ee
  exact⟨J,S,[d],d2,_,.cons m3 .nil,cf.sto,q,λJ' H' v x' s' m'=>z J' H' v x' s' m'⟩
 ·cases ee
theorem gK {k:Nat}{ps:List Str}{F:List D->Sto->Out D}{pl:Sem Bool}(G:xK X.prog X.w X.K X.mg X.base k c m ps F)(hr:Room k X.A)(L:nW X W)(ho:SE X W o fo)
  (ht:eval (.Call (.Attribute o m apos) [] [] pos) X.env=(do
   let ov ← eval o X.env
   standAt apos.atName
   let (f,first) ← holding [ov] (getMethod ov m pl)
   callWith pos f first (backTo pos (starEach [] X.env)) (backToKw pos (keywordEach [] X.env))):=by rfl) :
  SE X W (.Call (.Attribute o m apos) [] [] pos) (jY c m F fo az):=by
 obtain⟨C,f,fd,n,cl,mt,fn,hb⟩:=G
 refine PE.imp (pQ (E:=EW X.K X.mg W) ho cl mt fn hr hb .nil L ht) λσ H Q h=>(tG.bindE h).mono λx H1 ⟨d,h1⟩=>?_
 obtain⟨a,dx,fs,e1,e2,e3,h2⟩:=lI n h1
 refine⟨a,dx,fs,e1,e2,e3,?_⟩
 obtain⟨J,ρ,S,r,S',cf,mm,ee,z⟩:=h2
 try dsimp only at ee
 obtain⟨m3,_⟩:=mm.uncons
 have ee:F [d] S=some (r,S'):=ee
 refine⟨J,S,[d],r,S',.cons m3 .nil,cf.sto,ee,?_⟩
 cases r with
 |ok d=>exact λJ' H' v x' s' m'=>z J' H' v x' s' m'
 |error cc=>exact λJ' H' C x' s' hm=>⟨C,cc,J',S',rfl,hm,s',z J' H' x' s'⟩
def t_ (c:Str)(F:List D->Sto->Out D)(gs:Rho->Sto->Out (List D)):Rho->Sto->Out D:=λρ S=>ag (gs ρ S) λds S1=>(match F (.loc S1.length::ds) (S1++[.ins c []]) with
 |some (.ok .non,S2)=>okO (.loc S1.length) S2
 |_=>none)
theorem yf {k:Nat}{ps:List Str}{F:List D->Sto->Out D}(G:Bc X.prog X.w X.K X.mg X.base k c ps F)(hr:Room (k+1) X.A)(ha:SA X W (e::es) gs)(hg:Gl X c:=by rfl)
  (hdb:(c==("__debug__":Str))=false:=by decide) (he:starEach (e::es) X.env=(false,eval e X.env)::starEach es X.env:=by rfl) (hpl:(backTo pos (starEach es X.env)).any (·.1)=false:=by rfl) :
  SE X W (.Call (.Name c p) (e::es) [] pos) (t_ c F gs):=by
 obtain⟨C,f,fd,n,hm,mk,fn,hb⟩:=G
 refine PE.imp (yE (E:=E0) mk fn hr hg hm hb .nil tI ha hdb he hpl) λσ H Q h=>(tG.bindA h).mono λus H1 ⟨ds,hl,h1⟩=>?_
 rw[List.append_nil,List.append_nil] at h1
 obtain⟨J,ρ,S,r,S',cf,mm,ee,z⟩:=h1
 try dsimp only at ee
 intro x dx hx hdx ne
 have hx':(upd H1 dx (.own x)) x=none:=by rw[aA (Ne.symm ne)];exact hx
 have s1:=cf.sto.same (aP hdx (.own x))
 have x1:Ex J H1 J (upd H1 dx (.own x)):=Ex.same (aP hdx _)
 have q:=s1.push (o:=.ins C dx []) (mo:=.ins c []) hx' ⟨C,dx,[],n,aX,.nil⟩
 have x2:=x1.trans q.2
 have hloc:(J++[x])[S.length]?=some x:=by
  rw[← cf.sto.len,List.getElem?_append_right (Nat.le_refl _)];simp
 have ee:(match F (.loc S.length::ds) (S++[.ins c []]) with
  |some (.ok .non,S2)=>okO (.loc S.length) S2
  |_=>none)=some (r,S'):=ee
 split at ee
 ·rename_i S2 hF
  cases ee
  refine⟨J++[x],_,.loc S.length::ds,.non,_,.cons (At.loc_iff.mpr ⟨x,rfl,hloc⟩) (by rw[List.append_nil];exact mm.ex x2),q.1,hF,λJ' H' v x' s' m'=>⟨At.non_iff.mp m',?_⟩⟩
  exact z J' H' (.ref x) (x2.trans x') s' (At.loc_iff.mpr ⟨x,rfl,tw x'.pre hloc⟩)
 ·cases ee
end
section
variable {P:Program}{w:World}{K:PySem.W.Frag}{mg:Str->Option Value}{base:Heap}
theorem km {x qual:Str}{st:Stmt}{sc:Scope}{N ps:List Str}{k:Nat}{G:Rho->Sto->Out Fl}{f:Addr}{fd:FuncData}(Fn:Fun K x qual st f fd)(hsc:ar st=sc)(Sc:FnScope N ps sc)
  (h:∀ (f:Addr) (cdv:Value) (A:Around) (outer:List Env) (s:Shared) (H:Hp) (E:XK),Room k (A.deeper (envOfC qual sc s.heap.objs.size f cdv))->SSs (cT CX0 P w K mg base N qual sc f cdv A outer s H E).nox W0 (aW st) G) :
  FnD P w K mg base (k+1) f fd ps (cF ps.length (N.length-ps.length) G):=by
 subst hsc
 refine tX Fn Sc (λds S r e=>?_) λcdv A outer s H E hr=>⟨G,h f cdv A outer s H E hr,λds S d S' e=>?_⟩
 ·unfold cF at e
  split at e
  ·assumption
  ·cases e
 ·unfold cF at e
  split at e
  ·rename_i hl
   rw[hl]
   split at e
   ·rename_i d0 S0 q
    cases e
    exact⟨_,q,.inl rfl⟩
   ·rename_i ρ0 S0 q
    cases e
    exact⟨_,q,.inr ⟨rfl,ρ0,rfl⟩⟩
   ·cases e
  ·cases e
theorem oY {x qual:Str}{st:Stmt}{sc:Scope}{N ps:List Str}{k:Nat}{G:Rho->Sto->Out Fl}{f:Addr}{fd:FuncData}(Fn:Fun K x qual st f fd)(hsc:ar st=sc)(Sc:FnScope N ps sc)
  (h:∀ (f:Addr) (cdv:Value) (A:Around) (outer:List Env) (s:Shared) (H:Hp) (E:XK),Room k (A.deeper (envOfC qual sc s.heap.objs.size f cdv))->SSs (cT (CXF P w) P w K mg base N qual sc f cdv A outer s H E) (WE mg E) (aW st) G) :
  FnX P w K mg base (k+1) f fd ps (g7 ps.length (N.length-ps.length) G):=by
 subst hsc
 refine Fun.okX Fn Sc (λvs H Q E z=>?_) (λcdv A outer s H vs Q E hr z=>?_)
 ·obtain⟨J,St,ds,d,S',m,_,e,_⟩:=z
  unfold g7 at e
  split at e
  ·rename_i hl;rw[← m.length];exact hl
  ·cases e
 ·obtain⟨J,St,ds,r,S',m,so,e,z⟩:=z
  unfold g7 at e
  split at e
  ·rename_i hl
   have cf:Cf (cT (CXF P w) P w K mg base N qual (ar st) f cdv A outer s H E) J (ds.map some++List.replicate (N.length-ps.length) none) St (start N vs) H:=by
    rw[← hl]
    refine⟨?_,λi d' hd=>?_,so⟩
    ·unfold start
     rw[List.length_append,List.length_append,List.length_map,List.length_map,m.length]
     simp
    ·by_cases hi:i<ds.length
     ·rw[List.getElem?_append_left (by simpa using hi),List.getElem?_map] at hd
      cases q:ds[i]? with
      |none=>rw[q] at hd;cases hd
      |some d0 =>
       rw[q] at hd
       cases hd
       obtain⟨v,ev,av⟩:=m.get q
       refine⟨v,?_,av⟩
       unfold start
       rw[List.getElem?_append_left (by rw[List.length_map,← m.length];exact hi),List.getElem?_map,ev]
       rfl
     ·rw[List.getElem?_append_right (by simpa using hi),List.getElem?_replicate] at hd
      split at hd<;>cases hd
   split at e
   ·rename_i d0 S0 q
    cases e
    exact⟨_,h f cdv A outer s H E hr,J,_,St,_,_,cf,q,λJ' H' v x' s' a'=>z J' H' v x' s' a'⟩
   ·rename_i ρ0 S0 q
    cases e
    exact⟨_,h f cdv A outer s H E hr,J,_,St,_,_,cf,q,λJ' σ' H' x' c'=>z J' H' _ x' c'.sto (At.non_iff.mpr rfl)⟩
   ·rename_i c0 S0 q
    cases e
    exact⟨_,h f cdv A outer s H E hr,J,_,St,_,_,cf,q,λJ' H' x' s' C hC=>z J' H' C x' s' hC⟩
   ·cases e
  ·cases e
theorem zo {c m qual:Str}{st:Stmt}{sc:Scope}{N ps:List Str}{k:Nat}{G:Rho->Sto->Out Fl}(Dd:MethAt K c m qual st ps)(hsc:ar st=sc)(Sc:FnScope N ps sc)
  (h:∀ (f:Addr) (cdv:Value) (A:Around) (outer:List Env) (s:Shared) (H:Hp) (E:XK),Room k (A.deeper (envOfC qual sc s.heap.objs.size f cdv))->SSs (cT CX0 P w K mg base N qual sc f cdv A outer s H E).nox W0 (aW st) G) :
  zA P w K mg base (k+1) c m ps (cF ps.length (N.length-ps.length) G):=by
 obtain⟨C,f,fd,n,cl,mt,Fn,hb⟩:=Dd
 exact⟨C,f,fd,n,cl,mt,km Fn hsc Sc h,hb⟩
theorem xq {c m qual:Str}{st:Stmt}{sc:Scope}{N ps:List Str}{k:Nat}{G:Rho->Sto->Out Fl}(Dd:MethAt K c m qual st ps)(hsc:ar st=sc)(Sc:FnScope N ps sc)
  (h:∀ (f:Addr) (cdv:Value) (A:Around) (outer:List Env) (s:Shared) (H:Hp) (E:XK),Room k (A.deeper (envOfC qual sc s.heap.objs.size f cdv))->SSs (cT (CXF P w) P w K mg base N qual sc f cdv A outer s H E) (WE mg E) (aW st) G) :
  xK P w K mg base (k+1) c m ps (g7 ps.length (N.length-ps.length) G):=by
 obtain⟨C,f,fd,n,cl,mt,Fn,hb⟩:=Dd
 exact⟨C,f,fd,n,cl,mt,oY Fn hsc Sc h,hb⟩
theorem zp {c qual:Str}{st:Stmt}{sc:Scope}{N ps:List Str}{k:Nat}{G:Rho->Sto->Out Fl}(Dd:Bb K mg c qual st ps)(hsc:ar st=sc)(Sc:FnScope N ps sc)
  (h:∀ (f:Addr) (cdv:Value) (A:Around) (outer:List Env) (s:Shared) (H:Hp) (E:XK),Room k (A.deeper (envOfC qual sc s.heap.objs.size f cdv))->SSs (cT CX0 P w K mg base N qual sc f cdv A outer s H E).nox W0 (aW st) G) :
  Bc P w K mg base (k+1) c ps (cF ps.length (N.length-ps.length) G):=by
 obtain⟨C,f,fd,n,hm,mt,Fn,hb⟩:=Dd
 exact⟨C,f,fd,n,hm,mt,km Fn hsc Sc h,hb⟩
end
noncomputable def jJ (d:D)(S:Sto):Option (List D):=match d with
 | .loc l=>(match S[l]? with
  |some (.lst xs)=>some xs
  |_=>none)
 |_=>none
theorem yZ {d:D}{S:Sto}{xs:List D}(h:jJ d S=some xs):∃ l,d = .loc l/\S[l]?=some (.lst xs):=by
 unfold jJ at h
 split at h
 ·rename_i l
  split at h
  ·rename_i xs' e;cases h;exact⟨l,rfl,e⟩
  ·cases h
 ·cases h
section
variable {X:Cx}{W:WT}{pos cpos apos p:Pos}{o e a b:Expr}{fo fe fa fb:Rho->Sto->Out D}{x:Str}
theorem wM {J:List Addr}{S:Sto}{H:Hp}{d:D}{v:V}{xs:List D}(so:StoOk X.K J S H)(m:At X.K H J d v)(h:jJ d S=some xs):∃ l q us,d = .loc l/\v = .ref q/\J[l]?=some q/\S[l]?=some (.lst xs)/\H q=some (.lst us)/\Ats X.K H J xs us:=by
 obtain⟨l,rfl,es⟩:=yZ h
 obtain⟨q,rfl,hq⟩:=At.loc_iff.mp m
 obtain⟨us,eh,mu⟩:=so.at_ l q _ hq es
 exact⟨l,q,us,rfl,rfl,hq,es,eh,mu⟩
def xu:Rho->Sto->Out D:=λ_ S=>okO (.loc S.length) (S++[.lst []])
theorem yd:SE X W (.List [] pos) xu:=(wo pa_nil).imp λσ H Q h=>by
 obtain⟨J,ρ,S,r,S',c,_,e,z⟩:=h
 try dsimp only at e
 cases e
 show k_ σ H _
 refine⟨Nat.zero_le _,λp hp=>?_⟩
 have q:=c.sto.push (o:=.lst []) (mo:=.lst []) hp ⟨[],aX,.nil⟩
 refine z (J++[p]) _ _ q.2 q.1 (At.loc_iff.mpr ⟨p,rfl,?_⟩)
 rw[← c.sto.len,List.getElem?_append_right (Nat.le_refl _)]
 simp
def sK (d v:D)(S:Sto):Out D:=match d with
 | .loc l=>(match S[l]? with
  |some (.lst xs)=>if xs.length<sizeLine then okO .non (S.set l (.lst (xs++[v]))) else none
  |_=>none)
 |_=>none
def A1 (fo fe:Rho->Sto->Out D):Rho->Sto->Out D:=λρ S=>ag (fo ρ S) λd S1=>ag (aG (jJ d S1) S1) λ_ S2=>ag (fe ρ S2) λv S3=>sK d v S3
theorem Ab {name:Str}(hn:name="append")(ho:SE X W o fo)(ha:SE X W a fe)(hbase:attributeBase o name X.env (eval o X.env)=eval o X.env:=by rfl)
  (hfew:((backTo cpos (starEach [a] X.env)).all (λx => !x.1)&&(backToKw cpos (keywordEach [] X.env)).all (λx=>x.1.isSome)
   && decide ([a].length+([]:List Keyword).length+(if ([]:List Keyword).isEmpty then 0 else 1)<30))=true:=by rfl)
  (hline:(apos.endLine==cpos.line)=true:=by rfl) (hs:starEach [a] X.env=(false,eval a X.env)::starEach [] X.env:=by rfl) (hplain:(backTo cpos (starEach [] X.env)).any (·.1)=false:=by rfl) :
  SE X W (.Call (.Attribute o name apos) [a] [] cpos) (A1 fo fe):=by
 subst hn
 refine PE.imp (pR F.plainAttrs_list F.slot_list_append F.type_list_append uU ho (bH ha pa_nil hs) hbase hfew hline hs hplain) λσ H Q h=>(tG.bindE h).mono λx H1 ⟨d,h1⟩=>?_
 obtain⟨J,ρ,S,r,S',c,m,ee,z⟩:=h1
 try dsimp only at ee
 obtain⟨mx,_⟩:=m.uncons
 cases q:jJ d S with
 |none=>rw[q] at ee;cases ee
 |some xs =>
  rw[q,bq,dJ] at ee
  obtain⟨l,pa,us,rfl,rfl,hq,es,eh,mu⟩:=wM c.sto mx q
  refine⟨.inl ⟨rfl,us,.inl (.inl eh)⟩,?_⟩
  have h2:tG X W (RD X) [.loc l] [.ref pa] (λρ S2=>ag (fe ρ S2) λv S3=>sK (.loc l) v S3) σ H1 Q:=⟨J,ρ,S,r,S',c,.cons mx .nil,ee,z⟩
  refine (tG.bindE h2).mono λy H2 ⟨dy,h3⟩=>?_
  show k_ _ _ _
  obtain⟨J2,ρ2,S2,r2,S2',c2,m2,e2,z2⟩:=h3
  try dsimp only at e2
  obtain⟨my,m2⟩:=m2.uncons
  obtain⟨mx2,_⟩:=m2.uncons
  have e2:sK (.loc l) dy S2=some (r2,S2'):=e2
  unfold sK at e2
  simp only at e2
  split at e2
  ·rename_i xs2 es2
   split at e2
   ·rename_i lt
    cases e2
    obtain⟨q2,e3,hq2⟩:=At.loc_iff.mp mx2
    cases e3
    obtain⟨us2,eh2,mu2⟩:=c2.sto.at_ l pa _ hq2 es2
    have up:=c2.sto.update (o:=.lst (us2++[y])) (mo:=.lst (xs2++[dy])) hq2 λJ' H' x' eH eJ=>by
     subst eH eJ
     exact⟨_,aX,(mu2.ex x').append (.cons (my.ex x') .nil)⟩
    exact⟨pa,us2,y,rfl,rfl,eh2,by rw[← mu2.length];exact lt,z2 J2 _ _ up.2 up.1 (At.non_iff.mpr rfl)⟩
   ·cases e2
  ·cases e2
def kO (fe:Rho->Sto->Out D):Rho->Sto->Out D:=λρ S=>ag (fe ρ S) λd S1=>aG ((jJ d S1).bind λxs=>if xs.length<=sizeLine then some (.tup xs) else none) S1
theorem ni (hm:X.mg x=none)(ha:SE X W e fe)(hx:x="tuple":=by rfl)(hg:Gl X x:=by rfl)(he:starEach [e] X.env=(false,eval e X.env)::starEach [] X.env:=by rfl)(hpl:(backTo pos (starEach [] X.env)).any (·.1)=false:=by rfl) :
  SE X W (.Call (.Name x p) [e] [] pos) (kO fe):=by
 subst hx
 refine PE.imp (jG eB hg hm dL (bH ha pa_nil he) (by decide) (by decide) he hpl) λσ H Q h=>?_
 refine (tG.bindE h).mono λv H1 ⟨d,h1⟩=>?_
 obtain⟨J,ρ,S,r,S',c,m,eq,z⟩:=h1
 try dsimp only at eq
 obtain⟨mx,_⟩:=m.uncons
 show k_ _ _ _
 cases q:jJ d S with
 |none=>rw[q] at eq;cases eq
 |some xs =>
  rw[q,Option.bind_some] at eq
  split at eq
  ·rename_i hz
   cases eq
   obtain⟨l,pa,us,rfl,rfl,hq,es,eh,mu⟩:=wM c.sto mx q
   refine⟨pa,us,rfl,.inl ⟨.inl (.inl eh),λl2 hl2=>?_⟩⟩
   exact z J _ _ (Ex.same (aP hl2 _)) (c.sto.same (aP hl2 _)) (At.newTup mu hl2 (λa ha=>c.sto.tracked ha) (by rw[← mu.length];exact hz))
  ·cases eq
end
def tQ (X:Cx)(g:Rho->Sto->Bool):TE:=λσ H Q => ∃ J ρ S,Cf X J ρ S σ H/\g ρ S=true/\∀ v,Q v H
def QE (X:Cx)(e:Expr)(g:Rho->Sto->Bool):Prop:=PE X e (tQ X g)
def JQ (X:Cx)(es:List Expr)(g:Nat->Rho->Sto->Bool):Prop:=∀ (acc:Str) (pins:List (Addr×Obj)) (s:Shared) (σ:St) (H:Hp) (Q:VK),Inv X pins σ H s->tQ X (g acc.length) σ H Q ->
 wpAny (model X.prog X.w) X.A (joinParts acc (evalEach es X.env)) (EP X pins σ Q) X.xe s
section
variable {X:Cx}{W:WT}{pos p:Pos}{e:Expr}
noncomputable def oF:Nat->Rho->Sto->Bool:=λn _ _=>decide (n<=sizeLine)
noncomputable def mG (y:Str)(k:Nat->Rho->Sto->Bool):Nat->Rho->Sto->Bool:=λn ρ S=>decide (n+y.length<=sizeLine)&&k (n+y.length) ρ S
noncomputable def oo (d:D)(S:Sto):Option Str:=match d with
 | .str x=>some (reprText x)
 | .loc l=>(match S[l]? with
  |some (.lst ds)=>(fB ds).map λss=>(PyData.list (ss.map .str)).shown
  |_=>none)
 |_=>none
noncomputable def h8 (i:Nat)(k:Nat->Rho->Sto->Bool):Nat->Rho->Sto->Bool:=λn ρ S=>match ρ[i]? with
 |some (some d)=>(match oo d S with
  |some y=>decide (y.length<=sizeLine)&&decide (n+y.length<=sizeLine)&&k (n+y.length) ρ S
  |none=>false)
 |_=>false
theorem uy (ss:List Str):(PyData.list (ss.map .str)).showable=true:=by
 rw[PyData.showable]
 induction ss with
 |nil=>rfl
 |cons x ss ih=>rw[List.map_cons,PyData.showableAll,ih];rfl
theorem wD (ss:List Str):(PyData.list (ss.map .str)).hasDict=false:=by
 rw[PyData.hasDict]
 induction ss with
 |nil=>rfl
 |cons x ss ih=>rw[List.map_cons,PyData.hasDictAll,ih];rfl
theorem rW:JQ X [] oF:=λacc pins s σ H Q I h=>by
 obtain⟨J,ρ,S,c,e,q⟩:=h
 exact joinParts_nil ⟨.str acc,H,I.tok _,⟨_,rfl⟩,q _⟩ (of_decide_eq_true e)
theorem lQ {y:Str}{j:Nat}{es:List Expr}{k:Nat->Rho->Sto->Bool}(hr:JQ X es k):JQ X (.Constant (.str y) j pos::es) (mG y k):=λacc pins s σ H Q I h=>by
 obtain⟨J,ρ,S,c,e,q⟩:=h
 unfold mG at e
 rw[Bool.and_eq_true] at e
 have hl:=of_decide_eq_true e.1
 refine joinParts_cons (Calls.Constant_str ⟨by rw[bT];exact hl,?_⟩)
 exact hr (acc++y) pins _ σ H Q (I.tok _) ⟨J,ρ,S,c,by rw[bT];exact e.2,q⟩
theorem oN {i:Nat}{x:Str}{es:List Expr}{k:Nat->Rho->Sto->Bool}(hgd:X.A.guards=some [])(hu:X.A.units+150<cLine)(hr:JQ X es k)(hN:X.N[i]?=some x:=by rfl)(hv:Vis X.env.scope x:=by first |exact Or.inl rfl |exact Or.inr (Or.inl rfl) |exact Or.inr (Or.inr rfl))(hd:(x==("__debug__":Str))=false:=by decide)
  (hcd:(x==("__classdict__":Str))=false:=by decide):JQ X (.FormattedValue (.Name x p) 114 none pos::es) (h8 i k):=λacc pins s σ H Q I h=>by
 obtain⟨J,ρ,S,c,e,q⟩:=h
 unfold h8 at e
 split at e
 ·rename_i d ed
  split at e
  ·rename_i y ey
   rw[Bool.and_eq_true,Bool.and_eq_true] at e
   obtain⟨⟨e1,e2⟩,e3⟩:=e
   have hy:=of_decide_eq_true e1
   have hl:=of_decide_eq_true e2
   obtain⟨v,hv1,av⟩:=c.env i d ed
   have fin:∀ (t:Tok) (s2:Shared),Inv X pins σ H s2->wpAny (model X.prog X.w) X.A (formatField (.str y t) Str.empty) (λv s₁=>match v with | .str y _=>(acc++y).length<=sizeLine/\wpAny (model X.prog X.w) X.A (joinParts (acc++y) (evalEach es X.env)) (EP X pins σ Q) X.xe s₁ |_=>False) X.xe s2:=by
    intro t s2 I2
    have go:∀ s3,Inv X pins σ H s3->(acc++y).length<=sizeLine/\wpAny (model X.prog X.w) X.A (joinParts (acc++y) (evalEach es X.env)) (EP X pins σ Q) X.xe s3:=λs3 I3 =>
     ⟨by rw[bT];exact hl,hr (acc++y) pins s3 σ H Q I3 ⟨J,ρ,S,c,by rw[bT];exact e3,q⟩⟩
    exact wpAny_formatField_str (go s2 I2) (go _ (I2.tok _)) hy
   refine joinParts_cons (wpAny_FormattedValue_repr (thn ((wj hN hv hd hcd) pins s σ H (λv' H'=>v'=v/\H'=H) I ⟨v,hv1,rfl,rfl⟩) λu s1 ⟨v',H',I1,r1,z1,z2⟩=>?_))
   subst z1 z2
   unfold oo at ey
   split at ey
   ·rename_i z
    cases ey
    cases (At.str_iff.mp av).1
    obtain⟨t,rfl⟩:=r1
    exact pyReprObj_str (fin _ _ (I1.tok _)) hy
   ·rename_i l
    split at ey
    ·rename_i ds es'
     obtain⟨ss,e5,e6⟩:=Option.map_eq_some_iff.mp ey
     subst e6
     have ed:=dE e5
     subst ed
     obtain⟨a,rfl,ha⟩:=At.loc_iff.mp av
     cases r1
     obtain⟨us,eh,mu⟩:=c.sto.at_ l a _ ha es'
     obtain⟨_,its,n,rv,ho⟩:=I1.hok a _ eh
     obtain⟨sa,_,ok⟩:=Ats.strs mu rv
     have r:Reads s1.heap (.ref a) (.list (ss.map .str)) (a::[]):=.list ho rfl rfl (by simpa using sa.reads s1.heap)
     have hdp:(PyData.list (ss.map .str)).depth=1:=by rw[PyData.depth,depthAll_strs']
     exact pyReprObj_of_reads r (uy ss) (λz=>absurd z (by rw[wD ss];decide)) hgd (by omega) (λ_ _ z=>z) (λh' u tk hk=>fin _ _ (I1.kept (t':=tk) hk)) hy
    ·cases ey
   ·cases ey
  ·cases e
 ·cases e
theorem oE {v₁ v₂:Expr}{rest:List Expr}{k:Nat->Rho->Sto->Bool}(h:JQ X (v₁::v₂::rest) k):QE X (.JoinedStr (v₁::v₂::rest) pos) (k 0):=λpins s σ H Q I z =>
 JoinedStr_many (h Str.empty pins s σ H Q I z)
noncomputable def gY (c:Str)(g:Rho->Sto->Bool):Rho->Sto->Out Fl:=λρ S=>if g ρ S=true then some (.error c,S) else none
theorem jt {x:Str}{np cpos:Pos}{g:Rho->Sto->Bool}(T:ExcAt X.K X.mg x)(L:xH X W)(hc:X.calm=true)(ha:QE X e g)
  (hg:Gl X x:=by rfl) (hdb:(x==("__debug__":Str))=false:=by decide) (he:starEach [e] X.env=(false,eval e X.env)::starEach [] X.env:=by rfl) (hpl:(backTo cpos (starEach [] X.env)).any (·.1)=false:=by rfl) :
  SS X W (.Raise (some (.Call (.Name x np) [e] [] cpos)) none pos) (gY x g):=by
 obtain⟨C,B,newId,initId,bm,FB,hm,O⟩:=T
 intro pins s σ H D I z
 obtain⟨tl,N,nm,q,bs,hdct,sn,sub,ab,col,dd,k0,k1,k2,k3,k5,mN,hC,hN,hni,OT⟩:=(O _ I.ok.mod.kin).obj
 obtain⟨J,ρ,S,r,S',c,ee,zz⟩:=z
 unfold gY at ee
 split at ee
 ·rename_i hgt
  cases ee
  have hA:sU (tQ X g) k_ σ H λus H1=>us.length<=sizeLine/\∃ J S,StoOk X.K J S H1/\W x J S H1:=⟨J,ρ,S,c,hgt,λv=>⟨by show 1<=sizeLine;decide,J,S,c.sto,zz J H Ex.refl c.sto⟩⟩
  refine wpAny_Raise_call_subT (C:=C) (nm:=nm) (q:=q) (N:=N) (bs:=bs) (bm:=tl) (hdct:=hdct) (sn:=sn) (sub:=sub) (ab:=ab) (col:=col) (dd:=dd) (k0:=k0) (k1:=k1) (k2:=k2) (k3:=k3) (k5:=k5)
   FB (mN:=mN) (OT.hasType FB.hasBase) (I.ok.hd hc) (by rw[he];show (false ||(backTo cpos (starEach [] X.env)).any (·.1))=false;rw[hpl];rfl) hni (gP I hg hm ⟨rfl,?_⟩ hdb)
  rw[he]
  have hs:=(bH ha pa_nil he) cpos pins s σ H _ I hA
  rw[he] at hs
  refine Calls.evalArgs_plain (wpAny_mono hs (λus s2 ⟨vs,H1,I1,r,hl,J,S,so,hw⟩=>?_) λ_ _ y=>y)
  exact⟨rfl,by rw[← r.length];exact hl,I1.bk _ _ hC,hN.keeps I1.bk,OT.keeps I1.bk,λh' ea mk=>L pins σ H1 s2 C ea x J S us h' I1 hm so hw mk⟩
 ·cases ee
theorem oa {us:List Value}{ss:List Str}(h:StrsAre us ss):∀ (i:Nat) (hi:i<us.length) (hj:i<ss.length),∃ t,us[i] = .str ss[i] t:=by
 induction h with
 |nil=>intro i hi;simp at hi
 |cons x tt _ ih =>
  intro i hi hj
  cases i with
  |zero=>exact⟨tt,rfl⟩
  |succ i=>exact ih i (by simpa using hi) (by simpa using hj)
theorem vI {us:List Value}{ss:List Str}(h:StrsAre us ss):us.length=ss.length:=by
 induction h with
 |nil=>rfl
 |cons _ _ _ ih=>simp[ih]
noncomputable def rY (k:Str):Value->Bool
 | .str x _=>decide (x=k)
 |_=>false
theorem lD {k:Str}:∀ {ns:List Str}{j:Nat},j<ns.idxOf k->∀ (h2:j<ns.length),ns[j]≠k
 |n::r,0,h,_=>by
  intro e
  have e:n=k:=e
  subst e
  simp at h
 |n::r,j+1,h,h2=>by
  by_cases e:n=k
  ·subst e;simp at h
  ·have hb:(n==k)=false:=by simpa using e
   rw[List.idxOf_cons,hb] at h
   exact lD (ns:=r) (j:=j) (by simpa using h) (by simpa using h2)
theorem kB {prog:Program}{w:World}{A:Around}{E:Value->Shared->Prop}{s:Shared}{l:Addr}{vs:List Value}{ss:List Str}{k:Str}{t:Tok}{Q:Value->Shared->Prop}(hl:s.heap.IsList l vs.toArray)(hi:StrsAre vs ss)
  (hz:ss.length<=sizeLine) (hk:k∈ss) (h:Q (.int (ss.idxOf k:Nat) s.toks) { s with toks:=s.toks+1 }):wpAny (model prog w) A (call (.builtin "list.index") [.ref l,.str k t]) Q E s:=by
 obtain⟨⟨cls,dd,data,sl⟩,ho,hc,n,hd⟩:=id hl
 simp only at hc hd
 subst hc hd
 have hlen:=vI hi
 have hj:ss.idxOf k<ss.length:=List.idxOf_lt_length_iff.mpr hk
 have hsl:sizeLine<2 ^ 62:=by decide
 refine call_meets PySem.F.slot_list_index ⟨_,ho,rfl⟩ PySem.F.entry_list_index (PySem.F.args_list_index_2 _ _)
  (PySem.SeqAt.list_indexAt l vs.toArray n dd sl (.str k t) (rY k) (ss.idxOf k) (by simpa [hlen] using hj) (by omega) ?_ ?_) ⟨ho,λy hy=>?_,h⟩
 ·obtain⟨t',e⟩:=oa hi (ss.idxOf k) (by omega) hj
  show rY k vs[ss.idxOf k]=true
  rw[e]
  exact decide_eq_true (List.getElem_idxOf hj)
 ·intro j hjs hlt
  have hj1:j<vs.length:=by simpa using hjs
  obtain⟨t',e⟩:=oa hi j hj1 (by omega)
  show rY k vs[j]=false
  rw[e]
  exact decide_eq_false (lD hlt _)
 ·have hy':y∈vs:=by simpa using hy
  obtain⟨j,hj1,e⟩:=List.getElem_of_mem hy'
  obtain⟨t',e2⟩:=oa hi j hj1 (by omega)
  rw[← e,e2]
  intro prog' w' E' Q' q
  exact wpAny_eqBool_str q
theorem uT:MtR X "list.index" (λx xs H Q => ∃ (a:Addr) (ss:List Str) (k:Str),x = .ref a/\xs=[.str k]/\SqL X.K H a (ss.map V.str)/\ss.length<=sizeLine/\k∈ss/\Q (.int (ss.idxOf k:Nat)) H):=by
 intro pins s σ H x xs v us Q I rx rs h
 obtain⟨a,ss,k,rfl,rfl,hl,hz,hk,q⟩:=h
 cases rx
 obtain⟨u,rfl,ru⟩:=vals1 rs
 obtain⟨t2,rfl⟩:=ru
 obtain⟨its,rv,⟨o,n,h1,h2,_,h3⟩,_⟩:=I.list hl
 have sa:∀ {us:List Value}{ss:List Str},Vals (ss.map V.str) us->StrsAre us ss:=by
  intro us ss
  induction ss generalizing us with
  |nil=>intro r;cases r;exact .nil
  |cons x ss ih=>intro r;cases r with
   |cons r1 r2=>obtain⟨t,rfl⟩:=r1;exact .cons x t (ih r2)
 exact kB (vs:=its) ⟨o,h1,h2,n,h3⟩ (sa rv) hz hk ⟨.int _,H,I.tok _,⟨_,rfl⟩,q⟩
noncomputable def kM:D->D->Option D
 | .lst ds,.str k=>(fB ds).bind λss=>if k∈ss/\ss.length<=sizeLine then some (.int (ss.idxOf k:Nat)) else none
 |_,_=>none
theorem uV {fe fa:Rho->Sto->Out D}{o:Expr}{name:Str}{apos cpos:Pos}{a:Expr}(hn:name="index")(ho:SE X W o fe)(ha:SE X W a fa)(hbase:attributeBase o name X.env (eval o X.env)=eval o X.env:=by rfl)
  (hfew:((backTo cpos (starEach [a] X.env)).all (λx => !x.1)&&(backToKw cpos (keywordEach [] X.env)).all (λx=>x.1.isSome)
   && decide ([a].length+([]:List Keyword).length+(if ([]:List Keyword).isEmpty then 0 else 1)<30))=true:=by rfl)
  (hline:(apos.endLine==cpos.line)=true:=by rfl) (hs:starEach [a] X.env=(false,eval a X.env)::starEach [] X.env:=by rfl) (hplain:(backTo cpos (starEach [] X.env)).any (·.1)=false:=by rfl) :
  SE X W (.Call (.Attribute o name apos) [a] [] cpos) (gw oQ kM fe fa):=by
 subst hn
 refine PE.imp (pR F.plainAttrs_list F.slot_list_index F.type_list_index uT ho (bH ha pa_nil hs) hbase hfew hline hs hplain) λσ H Q h=>je (λJ H1 d v hk m=>AE hk m) (λv v2 H2 Q q=>?_) h
 obtain⟨J,dx,dy,d',hJ,ax,ay,eq,q⟩:=q
 unfold kM at eq
 split at eq
 ·rename_i ds k
  obtain⟨ss,e1,e2⟩:=Option.bind_eq_some_iff.mp eq
  split at e2
  ·rename_i hc
   cases e2
   cases (At.str_iff.mp ay).1
   obtain⟨a,vs,rfl,lq,am⟩:=At.lst_iff.mp ax
   have ed:=dE e1
   subst ed
   have hvs:vs=ss.map V.str:=Ats.toStrs am
   subst hvs
   exact⟨a,ss,k,rfl,rfl,lq.sq,hc.2,hc.1,q H2 _ (Same.refl _) (At.int_iff.mpr rfl)⟩
  ·cases e2
 ·cases eq
end
def FE (K:PySem.W.Frag)(x qual:Str)(st:Stmt)(f:Addr):Prop:=∃ fd,Fun K x qual st f fd
def BD (x qual:Str)(st:Stmt)(ps:List Str):Prop:=∀ (kV doc pm:Value) (an:Option Addr) (cdv ct:Value) (us:List Value),us.length=ps.length->bindArgs (PySem.W.fnOf x qual (cV st) (aW st) (ar st) .none kV doc pm an cdv ct) ⟨us,[]⟩=pure (ps.zip us)
section
variable {P:List Value->Prop}{us:List Value}
theorem us0 (h:us.length=0)(k:P []):P us:=by rw[List.length_eq_zero_iff.mp h];exact k
theorem xP {n:Nat}(h:us.length=n+1)(k:∀ a r,r.length=n->P (a::r)):P us:=by
 cases us with
 |nil=>cases h
 |cons a r=>exact k a r (Nat.succ.inj h)
theorem us1 (h:us.length=1)(k:∀ a,P [a]):P us:=xP h λa _ h=>us0 (P:=λr=>P (a::r)) h (k a)
theorem us2 (h:us.length=2)(k:∀ a b,P [a,b]):P us:=xP h λa _ h=>us1 (P:=λr=>P (a::r)) h (k a)
theorem us3 (h:us.length=3)(k:∀ a b c,P [a,b,c]):P us:=xP h λa _ h=>us2 (P:=λr=>P (a::r)) h (k a)
theorem us4 (h:us.length=4)(k:∀ a b c d,P [a,b,c,d]):P us:=xP h λa _ h=>us3 (P:=λr=>P (a::r)) h (k a)
end
section
variable {x qual:Str}{st:Stmt}{p1 p2 p3 p4 p5 p6:Str}
theorem bd1 (h:∀ (kV doc pm:Value) (an:Option Addr) (cdv ct:Value) (a:Value),bindArgs (PySem.W.fnOf x qual (cV st) (aW st) (ar st) .none kV doc pm an cdv ct) ⟨[a],[]⟩=pure [(p1,a)]):BD x qual st [p1]:=λkV doc pm an cdv ct us hl=>us1 (P:=λus=>bindArgs _ ⟨us,[]⟩=pure (List.zip [p1] us)) hl λa=>(h kV doc pm an cdv ct a)
theorem bd2 (h:∀ (kV doc pm:Value) (an:Option Addr) (cdv ct:Value) (a b:Value),bindArgs (PySem.W.fnOf x qual (cV st) (aW st) (ar st) .none kV doc pm an cdv ct) ⟨[a,b],[]⟩=pure [(p1,a),(p2,b)]):BD x qual st [p1,p2]:=λkV doc pm an cdv ct us hl=>us2 (P:=λus=>bindArgs _ ⟨us,[]⟩=pure (List.zip [p1,p2] us)) hl λa b=>(h kV doc pm an cdv ct a b)
theorem bd3 (h:∀ (kV doc pm:Value) (an:Option Addr) (cdv ct:Value) (a b c:Value),bindArgs (PySem.W.fnOf x qual (cV st) (aW st) (ar st) .none kV doc pm an cdv ct) ⟨[a,b,c],[]⟩=pure [(p1,a),(p2,b),(p3,c)]):BD x qual st [p1,p2,p3]:=λkV doc pm an cdv ct us hl=>us3 (P:=λus=>bindArgs _ ⟨us,[]⟩=pure (List.zip [p1,p2,p3] us)) hl λa b c=>(h kV doc pm an cdv ct a b c)
theorem bd4 (h:∀ (kV doc pm:Value) (an:Option Addr) (cdv ct:Value) (a b c d:Value),bindArgs (PySem.W.fnOf x qual (cV st) (aW st) (ar st) .none kV doc pm an cdv ct) ⟨[a,b,c,d],[]⟩=pure [(p1,a),(p2,b),(p3,c),(p4,d)]):BD x qual st [p1,p2,p3,p4]:=λkV doc pm an cdv ct us hl=>us4 (P:=λus=>bindArgs _ ⟨us,[]⟩=pure (List.zip [p1,p2,p3,p4] us)) hl λa b c d=>(h kV doc pm an cdv ct a b c d)
end
section
variable {K:PySem.W.Frag}{h:Heap}{mg:Str->Option Value}{x m c qual:Str}{st:Stmt}{ps:List Str}{f C:Addr}
theorem fE {oc:Value}{od an:Option Addr}{osl:Array (Option Value)}{kV doc pm cdv ct:Value}(l:K.lookup f=some ⟨oc,od,.func (PySem.W.fnOf x qual (cV st) (aW st) (ar st) .none kV doc pm an cdv ct),osl⟩)
  (c:PySem.W.codeIn K cdv qual=true) (k:PySem.W.keepIn K (.ref f)=true):FE K x qual st f:=⟨_,AS l c k⟩
theorem dAt (X:K.In h)(G:h.Ns mainGlobals mg)(a:PySem.W.nsIn K mainGlobals x=some (some (.ref f)))(q:FE K x x st f)(b:BD x x st ps):bO K mg x st ps:=
 Exists.elim q λfd F=>⟨f,fd,F,PySem.W.mg_of X G a,F.binds b⟩
abbrev NC (K:PySem.W.Frag)(c:Str)(C:Addr):Prop:=PySem.W.nsIn K mainGlobals c=some (some (.ref C))/\Cls K C
theorem mAt (n:NC K c C)(a:PySem.W.findIn K (.ref C) m=some (some (.ref f)))(i:PySem.W.isFn K (.ref f)=true)(q:FE K m qual st f)(b:BD m qual st ps):MethAt K c m qual st ps:=
 Exists.elim q λfd F=>⟨C,f,fd,n.1,n.2,⟨a,i,F.kp⟩,F,F.binds b⟩
theorem kAt (X:K.In h)(G:h.Ns mainGlobals mg)(n:NC K c C)(k4:PySem.W.makesIn K C=true)(k5:PySem.W.keepIn K (.ref C)=true)(a:PySem.W.findIn K (.ref C) "__init__"=some (some (.ref f)))(i:PySem.W.isFn K (.ref f)=true)(q:FE K "__init__" qual st f)(b:BD "__init__" qual st ps):Bb K mg c qual st ps:=
 Exists.elim q λfd F=>⟨C,f,fd,n.1,PySem.W.mg_of X G n.1,⟨k4,a,i,k5⟩,F,F.binds b⟩
end
end L2
namespace L2
open PySem PyProof.Rows
section
variable (f g:Rho->Sto->Out D) (ρ:Rho) (S:Sto) (i:Nat) (k:Bool)
@[simp] theorem Du (d:D):ao d ρ S=okO d S:=rfl
@[simp] theorem Dw (op:D->D->Option D):ap op f g ρ S=ag (f ρ S) λx S1=>ag (g ρ S1) λy S2=>aG (op x y) S2:=rfl
@[simp] theorem DA (op:D->Option D):cUn op f ρ S=ag (f ρ S) λx S1=>aG (op x) S1:=rfl
@[simp] theorem Df:aV f ρ S=ag (f ρ S) λx S1=>aG (blO x) S1:=rfl
@[simp] theorem Ck (a b:D->D->Option D)(h:Rho->Sto->Out D):gz a b f g h ρ S=ag (f ρ S) λx S1=>ag (g ρ S1) λy S2=>ag (aG ((a x y).bind blO) S2) λk S3=>if k=true then ag (h ρ S3) λz S4=>aG (b y z) S4 else okO (.bl false) S3:=rfl
@[simp] theorem C8 (a b:Rho->Sto->Out Bool):xz a b ρ S=ag (a ρ S) λk S1=>if k=true then b ρ S1 else okO false S1:=rfl
@[simp] theorem Dk (a b:Rho->Sto->Out Bool):kF a b ρ S=ag (a ρ S) λk S1=>if k=true then okO true S1 else b ρ S1:=rfl
@[simp] theorem CW (a:Rho->Sto->Out Bool):dX a ρ S=ag (a ρ S) λk S1=>okO (!k) S1:=rfl
@[simp] theorem Dy:gC f g ρ S=ag (f ρ S) λx S1=>ag (aG (blO x) S1) λk S2=>if k=true then g ρ S2 else okO (.bl false) S2:=rfl
@[simp] theorem DC:cOr f g ρ S=ag (f ρ S) λx S1=>ag (aG (blO x) S1) λk S2=>if k=true then okO (.bl true) S2 else g ρ S2:=rfl
@[simp] theorem Dl:xt f ρ S=ag (f ρ S) λx S1=>ag (aG (blO x) S1) λk S2=>okO (.bl (!k)) S2:=rfl
@[simp] theorem Dp (t:Rho->Sto->Out Bool):C_ t f g ρ S=ag (t ρ S) λk S1=>if k=true then f ρ S1 else g ρ S1:=rfl
@[simp] theorem BZ:az ρ S=okO [] S:=rfl
@[simp] theorem AV (t:Rho->Sto->Out (List D)):ah f t ρ S=ag (f ρ S) λd S1=>ag (t ρ S1) λds S2=>okO (d::ds) S2:=rfl
@[simp] theorem De (t:Rho->Sto->Out (List D)):sv t ρ S=ag (t ρ S) λds S1=>aG (szO ds (.tup ds)) S1:=rfl
@[simp] theorem Do (t:Rho->Sto->Out (List D)):vn t ρ S=ag (t ρ S) λds S1=>aG (szO ds (.lst ds)) S1:=rfl
@[simp] theorem C6 (h:List D->Option D)(t:Rho->Sto->Out (List D)):bB h t ρ S=ag (t ρ S) λds S1=>aG (h ds) S1:=rfl
@[simp] theorem CY:bA ρ S=okO (.next ρ) S:=rfl
@[simp] theorem zO (a b:Rho->Sto->Out Fl):aF a b ρ S=ag (a ρ S) λfl S1=>match fl with
 | .next ρ'=>b ρ' S1
 |o=>okO o S1:=rfl
@[simp] theorem Di:bi f ρ S=ag (f ρ S) λd S1=>okO (.ret d) S1:=rfl
@[simp] theorem DF (t:Rho->Sto->Out Bool)(a b:Rho->Sto->Out Fl):cIf t a b ρ S=ag (t ρ S) λk S1=>if k=true then a ρ S1 else b ρ S1:=rfl
@[simp] theorem Dg:ba i f ρ S=ag (f ρ S) λd S1=>okO (.next (ρ.set i (some d))) S1:=rfl
@[simp] theorem Dr (fi:Rho->Sto->Out (List D))(u:D->Rho->Option Rho)(b:Rho->Sto->Out Fl):sD fi u b ρ S=ag (fi ρ S) λds S1=>h_ u b ds ρ S1:=rfl
@[simp] theorem Dh (h:List D->Option (List D))(t:Rho->Sto->Out (List D)):o_ h t ρ S=ag (t ρ S) λds S1=>aG (h ds) S1:=rfl
@[simp] theorem Cd:iG f ρ S=ag (f ρ S) λd S1=>aG (fQ d) S1:=rfl
@[simp] theorem CS:ig ρ S=okO true S:=rfl
@[simp] theorem Dt (F:List D->Sto->Out D)(t:Rho->Sto->Out (List D)):bp F t ρ S=ag (t ρ S) λds S1=>fD (F ds S1):=rfl
@[simp] theorem Ci (d:D):fD (okO d S)=okO d S:=rfl
@[simp] theorem BY (d:D):fD (some (.ok d,S))=okO d S:=rfl
@[simp] theorem DD:cIx f g ρ S=ag (f ρ S) λx S1=>ag (g ρ S1) λy S2=>aG (ixO x y S2) S2:=rfl
@[simp] theorem DE:cIn k f g ρ S=ag (f ρ S) λx S1=>ag (g ρ S1) λy S2=>aG (inO k x y S2) S2:=rfl
@[simp] theorem CU:t9 f ρ S=ag (f ρ S) λd S1=>aG (lh d S1) S1:=rfl
@[simp] theorem Dm:xv ρ S=okO (.loc S.length) (S++[.dict []]):=rfl
@[simp] theorem Dj (h:Rho->Sto->Out D):zq f g h ρ S=ag (h ρ S) λv S1=>ag (f ρ S1) λx S2=>ag (g ρ S2) λk S3=>yu x k v ρ S3:=rfl
@[simp] theorem C5 (n:Nat)(ix:List Nat)(fi:Rho->Sto->Out (List D))(u:D->Rho->Option Rho)(gt:Rho->Sto->Out Bool):ii n ix fi u gt f ρ S=ag (fi ρ S) λds S1 =>
 match di u gt f ds (df n ix ρ) S1 with
 |some (out,S2)=>okO (.lst out) S2
 |none=>none:=rfl
@[simp] theorem DB (op:D->Option Int->Option Int->Option D)(lo hi:Option (Rho->Sto->Out D)):cSl op f lo hi ρ S=ag (f ρ S) λx S1=>ag (jp lo ρ S1) λl S2=>ag (jp hi ρ S2) λu S3=>aG (op x l u) S3:=rfl
@[simp] theorem Ch:jp none ρ S=okO none S:=rfl
@[simp] theorem Cg:jp (some f) ρ S=ag (f ρ S) λd S1=>aG (mJ d) S1:=rfl
@[simp] theorem Dn (kk:D->Bool)(op:D->D->Option D):gw kk op f g ρ S=ag (f ρ S) λx S1=>if kk x=true then ag (g ρ S1) λy S2=>aG (op x y) S2 else none:=rfl
@[simp] theorem BV (d:D)(h : ρ[i]?=some (some d)):af i ρ S=okO d S:=by unfold af;rw[h]
@[simp] theorem Cc (d:D):bu i d ρ=some (ρ.set i (some d)):=rfl
@[simp] theorem Dv (b:Bool):blO (.bl b)=some b:=rfl
end
@[simp] theorem vH {ds:List D}{d:D}(h:ds.length<=1000):szO ds d=some d:=by
 unfold szO;rw[if_pos (Nat.le_trans h (by decide))]
theorem aE {n m:Nat}{G:Rho->Sto->Out Fl}{ds:List D}{S S':Sto}{d:D}(hl:ds.length=n)(h:G (ds.map some++List.replicate m none) S=okO (.ret d) S'):cF n m G ds S=okO d S':=by
 unfold cF;rw[if_pos hl,h];rfl
theorem jm {u:D->Rho->Option Rho}{gt:Rho->Sto->Out Bool}{fe:Rho->Sto->Out D}(I:Rho->Prop)(g:D->Bool)(f:D->D)(S:Sto) :
  ∀ (ds:List D) (ρ:Rho),I ρ->(∀ d∈ds,∀ ρ,I ρ->∃ ρ1,u d ρ=some ρ1/\I ρ1/\gt ρ1 S=okO (g d) S/\(g d=true->fe ρ1 S=okO (f d) S))->di u gt fe ds ρ S=some ((ds.filter g).map f,S)
 |[],ρ,_,_=>rfl
 |d::ds,ρ,hI,h=>by
  obtain⟨ρ1,e1,i1,e2,e3⟩:=h d (List.mem_cons_self ..) ρ hI
  have ih:=jm I g f S ds ρ1 i1 λx hx=>h x (List.mem_cons_of_mem _ hx)
  rw[di,e1,Option.bind_some,e2]
  simp only[okO,okP,Option.bind_some]
  by_cases hg:g d=true
  ·rw[if_pos hg,e3 hg]
   simp only[okO,okP,Option.bind_some,ih,Option.map_some,List.filter_cons,hg,if_true,List.map_cons]
  ·rw[if_neg hg,ih,List.filter_cons,if_neg hg]
theorem gX {u:D->Rho->Option Rho}{fe:Rho->Sto->Out D}(I:Rho->Prop)(f:D->D)(S:Sto)(ds:List D)(ρ:Rho)(hI:I ρ)
  (h:∀ d∈ds,∀ ρ,I ρ->∃ ρ1,u d ρ=some ρ1/\I ρ1/\fe ρ1 S=okO (f d) S):di u ig fe ds ρ S=some (ds.map f,S):=by
 have q:=jm (u:=u) (gt:=ig) (fe:=fe) I (λ_=>true) f S ds ρ hI λd hd ρ hr=>by
  obtain⟨ρ1,e1,i1,e2⟩:=h d hd ρ hr
  exact⟨ρ1,e1,i1,rfl,λ_=>e2⟩
 rw[q,List.filter_eq_self.mpr λ_ _=>rfl]
theorem gf {u:D->Rho->Option Rho}{body:Rho->Sto->Out Fl}(I:Nat->Rho->Sto->Prop):∀ (ds:List D) (i:Nat) (ρ:Rho) (S:Sto),I i ρ S ->
  (∀ (j:Nat) d ρ S,ds[j]?=some d->I (i+j) ρ S->∃ ρ1,u d ρ=some ρ1/\∃ ρ' S',body ρ1 S=okO (.next ρ') S'/\I (i+j+1) ρ' S')->∃ ρ' S',h_ u body ds ρ S=okO (.next ρ') S'/\I (i+ds.length) ρ' S'
 |[],i,ρ,S,hI,_=>⟨ρ,S,rfl,hI⟩
 |d::ds,i,ρ,S,hI,h=>by
  obtain⟨ρ1,e1,ρ',S',e2,i2⟩:=h 0 d ρ S rfl hI
  obtain⟨ρ2,S2,e3,i3⟩:=gf I ds (i+1) ρ' S' i2 λj x ρ S hx hi=>by
   obtain⟨a,b,c,d,e,f⟩:=h (j+1) x ρ S (by simpa using hx) (by rw[show i+(j+1)=i+1+j by omega];exact hi)
   exact⟨a,b,c,d,e,by rw[show i+1+j+1=i+(j+1)+1 by omega];exact f⟩
  refine⟨ρ2,S2,?_,by rw[List.length_cons,show i+(ds.length+1)=i+1+ds.length by omega];exact i3⟩
  rw[h_,e1]
  simp only[e2,dJ]
  exact e3
mutual
def pl:D->Bool
 | .tup ds=>pls ds
 | .lst ds=>pls ds
 | .set _=>false
 | .loc _=>false
 |_=>true
def pls:List D->Bool
 |[]=>true
 |d::ds=>pl d&&pls ds
end
theorem pls_iff:∀ {ds:List D},pls ds=true↔∀ d∈ds,pl d=true
 |[]=>by simp[pls]
 |d::ds=>by rw[pls,Bool.and_eq_true,pls_iff (ds:=ds)];simp
mutual
theorem n_:∀ {d:D},pl d=true->∃ p,toPy d=some p
 | .non,_=>⟨_,rfl⟩
 | .bl _,_=>⟨_,rfl⟩
 | .int _,_=>⟨_,rfl⟩
 | .str _,_=>⟨_,rfl⟩
 | .tup ds,h=>by
  rw[pl] at h
  obtain⟨ps,e⟩:=iV h
  exact⟨.tuple ps,by rw[toPy,e];rfl⟩
 | .lst ds,h=>by
  rw[pl] at h
  obtain⟨ps,e⟩:=iV h
  exact⟨.list ps,by rw[toPy,e];rfl⟩
 | .set _,h=>by simp[pl] at h
 | .loc _,h=>by simp[pl] at h
theorem iV:∀ {ds:List D},pls ds=true->∃ ps,dg ds=some ps
 |[],_=>⟨[],rfl⟩
 |d::ds,h=>by
  rw[pls,Bool.and_eq_true] at h
  obtain⟨p,e1⟩:=n_ h.1
  obtain⟨ps,e2⟩:=iV h.2
  exact⟨p::ps,by rw[dg,e1,e2];rfl⟩
end
theorem m_:∀ {ds:List D}{ps:List PyData},dg ds=some ps->ps.length=ds.length
 |[],ps,e=>by cases e;rfl
 |d::ds,ps,e=>by
  rw[dg] at e
  obtain⟨p,_,e2⟩:=Option.bind_eq_some_iff.mp e
  obtain⟨r,e3,e4⟩:=Option.map_eq_some_iff.mp e2
  subst e4
  rw[List.length_cons,List.length_cons,m_ e3]
theorem xB {α:Type}[BEq α][LawfulBEq α][DecidableEq α](a b : α):(a==b)=decide (a=b):=by by_cases h:a=b<;>simp[h]
@[simp] theorem Cb (i j:Int):eqD (.int i) (.int j)=some (.bl (decide (i=j))):=by simp[eqD,toPy,PyData.eqv,PyData.depth,xB]
@[simp] theorem B_ (i j:Int):neD (.int i) (.int j)=some (.bl (!decide (i=j))):=by simp[neD,toPy,PyData.eqv,PyData.depth,xB]
@[simp] theorem CQ (a b:Bool):eqD (.bl a) (.bl b)=some (.bl (a==b)):=by simp[eqD,toPy,PyData.eqv,PyData.depth]
theorem eX:∀ l:List Str,dg (l.map .str)=some (l.map .str)
 |[]=>rfl
 |a::l=>by rw[List.map_cons,dg,eX l];rfl
theorem l7:∀ l m:List Str,PyData.eqvAll (l.map .str) (m.map .str)=decide (l=m)
 |[],[]=>rfl
 |[],b::m=>by simp[PyData.eqvAll]
 |a::l,[]=>by simp[PyData.eqvAll]
 |a::l,b::m=>by
  rw[List.map_cons,List.map_cons,PyData.eqvAll,l7 l m]
  simp only[PyData.eqv,List.cons.injEq]
  by_cases h:a=b<;>by_cases h2:l=m<;>simp[h,h2]
theorem iB:∀ l:List Str,PyData.depthAll (l.map .str)=0
 |[]=>rfl
 |a::l=>by rw[List.map_cons,PyData.depthAll,iB l];rfl
theorem w_ (l m:List Str):eqD (.tup (l.map .str)) (.tup (m.map .str))=some (.bl (decide (l=m))):=by
 simp[eqD,toPy,eX,PyData.eqv,PyData.depth,iB,l7]
theorem yP {ds:List D}(h:pls ds=true):neD (.lst ds) (.lst [])=some (.bl (!ds.isEmpty)):=by
 obtain⟨ps,e⟩:=iV h
 have e1:toPy (.lst ds)=some (.list ps):=by rw[toPy,e];rfl
 have l:=m_ e
 have e2:toPy (.lst [])=some (.list []):=rfl
 unfold neD
 rw[e1,e2]
 cases ps with
 |nil=>cases ds with
  |nil=>simp[PyData.depth,PyData.depthAll,PyData.eqv,PyData.eqvAll]
  |cons _ _=>simp at l
 |cons p ps=>cases ds with
  |nil=>simp at l
  |cons _ _=>simp[PyData.depth,PyData.depthAll,PyData.eqv,PyData.eqvAll]
theorem in3 (x a b c:Str):inD (.str x) (.tup [.str a,.str b,.str c])=some (.bl (decide (a=x) ||(decide (b=x) ||decide (c=x)))):=by
 simp[inD,u9,toPy,dg,yb,PyData.eqv,PyData.depth,xB]
theorem ub (f:D->Bool):∀ ds:List D,qM (ds.map λd => .bl (f d))=some (ds.map f)
 |[]=>rfl
 |d::ds=>by rw[List.map_cons,qM,ub f ds];rfl
theorem qQ (f:D->Bool)(ds:List D):sL [.lst (ds.map λd => .bl (f d))]=some (.bl (ds.all f)):=by
 rw[sL,ub]
 simp[List.all_map]
section
variable (ρ:Rho) (S:Sto)
@[simp] theorem C4 (F:List D->Sto->Out D)(t:Rho->Sto->Out (List D)):fG F t ρ S=ag (t ρ S) λds S1=>F ds S1:=rfl
@[simp] theorem Ce (c:Str)(t:Rho->Sto->Out (List D)):jX c t ρ S=ag (t ρ S) λds S1=>ag (aG (szO ds .non) S1) λ_ S2=>some (.error c,S2):=rfl
@[simp] theorem Dq (tab:Str->Option Bool)(f:Rho->Sto->Out D):mS tab f ρ S=ag (f ρ S) λd S1=>aG (zb tab d S1) S1:=rfl
end
theorem eN {n m:Nat}{G:Rho->Sto->Out Fl}{ds:List D}{S S':Sto}{d:D}(hl:ds.length=n)(h:G (ds.map some++List.replicate m none) S=okO (.ret d) S'):g7 n m G ds S=okO d S':=by
 unfold g7;rw[if_pos hl,h];rfl
theorem bf {n m:Nat}{G:Rho->Sto->Out Fl}{ds:List D}{S S':Sto}{c:Str}(hl:ds.length=n)(h:G (ds.map some++List.replicate m none) S=some (.error c,S')):g7 n m G ds S=some (.error c,S'):=by
 unfold g7;rw[if_pos hl,h]
theorem uq {gb gh:Rho->Sto->Out Fl}{ct:Str->Bool}{i:Nat}{ρ:Rho}{S S1 S2:Sto}{c:Str}{d:D}(h:gb ρ S=some (.error c,S1))(hc:ct c=true)
  (hh:gh ((List.replicate ρ.length none).set i (some (.loc S1.length))) (S1++[.exc c])=some (.ok (.ret d),S2)):gu gb ct i gh ρ S=some (.ok (.ret d),S2):=by unfold gu;rw[h];dsimp only;rw[if_pos hc,hh]
end L2
namespace K05
open PySem L2
def aO:Rho->Sto->Out D:=
  (gz leD leD (ao (.str "a")) (af 0) (ao (.str "z")))
def dh:Rho->Sto->Out Fl:=
  (bi (bB sL (ah (ii 1 [] (iG (af 0)) (bu 0) ig aO) az)))
def cj:List D->Sto->Out D:=cF 1 0 dh
def nJ:Rho->Sto->Out Fl:=
  (aF (cIf (kF (dX (aV (cUn (du "str") (af 0)))) (aV (cIn false (af 0) (ao (D.tup [(D.str "names"),(D.str "ask"),(D.str "end")]))))) (bi (ao (.bl false))) bA)
  (bi (gC (gz leD leD (ao (.int 1)) (bB cX (ah (af 0) az)) (ao (D.int 8))) (bp cj (ah (af 0) az)))))
def j4:List D->Sto->Out D:=cF 1 0 nJ
def fq:Rho->Sto->Out D:=
  (bp j4 (ah (af 0) az))
def l4:Rho->Sto->Out Fl:=
  (aF (cIf (kF (dX (aV (cUn (du "tuple") (af 0)))) (dX (aV (bB sL (ah (ii 1 [] (iG (af 0)) (bu 0) ig fq) az))))) (bi (ao (.bl false))) bA)
  (bi (ap eqD (af 0) (bB pI (ah (cUn eY (af 0)) az)))))
def iK:List D->Sto->Out D:=cF 1 0 l4
def cS:Rho->Sto->Out Fl:=
  (aF (qJ "Words" "parts" (af 0) (gw bo fN (af 1) (ao (.str " "))))
  (qJ "Words" "taken" (af 0) (ao (.int 0))))
def bE:List D->Sto->Out D:=cF 2 0 cS
def eQ:Rho->Sto->Out Fl:=
  (bi (ap ltD (vo "Words" "taken" (af 0)) (bB cX (ah (vo "Words" "parts" (af 0)) az))))
def cg:List D->Sto->Out D:=cF 1 0 eQ
def fm:Rho->Sto->Out Fl:=
  (aF (cIf (dX (aV (qK "Words" "are_left" cg (af 0) az))) (jX "NoText" (ah (ao (.str "the text ends ahead of its key")) az)) bA)
  (aF (ua "Words" "taken" (af 0) (ao (.int 1)))
  (bi (cIx (vo "Words" "parts" (af 0)) (ap ij (vo "Words" "taken" (af 0)) (ao (.int 1)))))))
def bL:List D->Sto->Out D:=g7 1 0 fm
def b_:Rho->Sto->Out Fl:=
  (aF (ba 2 (jY "Words" "take" bL (af 0) az))
  (aF (cIf (aV (cIn true (af 2) (af 1))) (gY "NoText" ((mG "no character is written " (h8 2 oF)) 0)) bA)
  (bi (gw oQ kM (af 1) (af 2)))))
def bD:List D->Sto->Out D:=g7 2 1 b_
def aY:Rho->Sto->Out Bool:=
  (aV (ap neD (af 2) (ao (.str "end"))))
def aQ:Rho->Sto->Out Fl:=
  (aF (xy (A1 (af 1) (af 2)))
  (ba 2 (jY "Words" "take" bL (af 0) az)))
def cL:Rho->Sto->Out Fl:=
  (aF (ba 1 xu)
  (aF (ba 2 (jY "Words" "take" bL (af 0) az))
  (aF (jW 3000 aY aQ)
  (aF (cIf (dX (aV (bp iK (ah (kO (af 1)) az)))) (gY "NoText" ((mG "these are no names: " (h8 1 oF)) 0)) bA)
  (bi (kO (af 1)))))))
def dA:List D->Sto->Out D:=g7 1 2 cL
def bj (rec:List D->Sto->Out D):Rho->Sto->Out Fl:=
  (aF (ba 3 (jY "Words" "take" bL (af 0) az))
  (aF (cIf (aV (ap eqD (af 3) (ao (.str "names")))) (bi (sv (ah (ao (.str "names")) (ah (fG dA (ah (af 0) az)) az)))) bA)
  (aF (cIf (aV (ap neD (af 3) (ao (.str "ask")))) (gY "NoText" ((mG "no key begins with " (h8 3 oF)) 0)) bA)
  (aF (cIf (aV (ap eqD (af 2) (ao (.int 0)))) (jX "NoText" (ah ((sC "a key lies in more than " (zr (cUn va (ao (D.int 12))) (sC " others" xx))) Str.empty) az)) bA)
  (aF (ba 4 (fG bD (ah (af 0) (ah (af 1) az))))
  (aF (ba 5 (fG rec (ah (af 0) (ah (af 1) (ah (ap ij (af 2) (ao (.int 1))) az)))))
  (aF (ba 6 (fG rec (ah (af 0) (ah (af 1) (ah (ap ij (af 2) (ao (.int 1))) az)))))
  (bi (sv (ah (ao (.str "ask")) (ah (af 4) (ah (af 5) (ah (af 6) az)))))))))))))
def dO:Nat->List D->Sto->Out D
 | 0=>λ_ _=>none
 |n+1=>g7 3 4 (bj (dO n))
def jj:Rho->Sto->Out D:=
  (bB j8 (ah (af 0) az))
def oV:Rho->Sto->Out Fl:=
  (aF (ba 2 (t_ "Words" bE (ah (af 0) az)))
  (aF (ba 3 (fG (dO 14) (ah (af 2) (ah (ii 1 [] (o_ fW (ah (af 1) az)) (bu 0) ig jj) (ah (ao (D.int 12)) az)))))
  (aF (cIf (aV (qK "Words" "are_left" cg (af 2) az)) (jX "NoText" (ah (ao (.str "the text goes on behind its key")) az)) bA)
  (bi (af 3)))))
def fz:List D->Sto->Out D:=g7 2 2 oV
def kj:Rho->Sto->Out Fl:=
  (aF (cIf (aV (ap ltD (af 1) (bB cX (ah (af 0) az)))) (bi (cIx (af 0) (af 1))) bA)
  (bi (ao (.int 0))))
def gF:List D->Sto->Out D:=cF 2 0 kj
def nI:Rho->Sto->Out Fl:=
  (aF (ba 2 (ap aU (ap bI (ap aL (ap aL (bp gF (ah (af 0) (ah (af 1) az))) (ap bI (ao (.int 7919)) (af 1))) (ao (.int 1))) (ao (.int 48271))) (ao (.int 2147483647))))
  (bi (ap aU (ap aL (ap aL (ap bI (af 2) (af 2)) (ap bI (ao (.int 7)) (af 2))) (af 1)) (ao (.int 2147483629)))))
def br:List D->Sto->Out D:=cF 2 1 nI
def nK:Rho->Sto->Out Fl:=
  (aF (ba 2 (ap aU (ap bI (ap aL (ap aL (af 0) (ap bI (ao (.int 104729)) (af 1))) (ao (.int 17))) (ao (.int 69621))) (ao (.int 2147483647))))
  (bi (ap aU (ap aL (ap aL (ap bI (af 2) (af 2)) (ap bI (ao (.int 3)) (af 2))) (af 1)) (ao (.int 2147483629)))))
def dC:List D->Sto->Out D:=cF 2 1 nK
def dZ:Rho->Sto->Out Fl:=
  (ba 5 (ap aL (af 5) (cIx (af 1) (ap aU (ap bz (af 4) (ap aL (ap bI (ao (.int 31)) (af 6)) (ao (.int 29)))) (ao (.int 26))))))
def dY:Rho->Sto->Out Fl:=
  (aF (ba 4 (bp dC (ah (af 0) (ah (af 3) az))))
  (aF (ba 5 (cIx (af 1) (ap aU (af 4) (ao (.int 26)))))
  (aF (sD (o_ fW (ah (ap bI (ap aU (ap bz (af 4) (ao (.int 26))) (ao (.int 8))) (ap aU (af 0) (ao (.int 2)))) az)) (bu 6) dZ)
  (zq (af 2) (ap aL (af 5) (ap bI (ao (.str "q")) (bB intD (ah (cIn false (af 5) (ao (D.tup [(D.str "names"),(D.str "ask"),(D.str "end")]))) az)))) (ao (.bl true))))))
def nG:Rho->Sto->Out Fl:=
  (aF (ba 1 (ao (.str "abcdefghijklmnopqrstuvwxyz")))
  (aF (ba 2 xv)
  (aF (sD (o_ fW (ah (ao (.int 6)) az)) (bu 3) dY)
  (bi (bB pI (ah (t9 (af 2)) az))))))
def j0:List D->Sto->Out D:=cF 1 6 nG
def fM:Rho->Sto->Out Bool:=
  (aV (ap eqD (ap aU (ap bz (af 2) (ap aL (ap bI (ao (.int 3)) (af 0)) (ao (.int 1)))) (ao (.int 4))) (ao (.int 0))))
def gq:Rho->Sto->Out D:=
  (af 1)
def nH:Rho->Sto->Out Fl:=
  (bi (bB pI (ah (ii 2 [0] (o_ nO (ah (af 1) az)) (uj 2 (eV (bu 0) (eV (bu 1) pG))) fM gq) az)))
def j3:List D->Sto->Out D:=cF 2 0 nH
def oW (rec:List D->Sto->Out D):Rho->Sto->Out Fl:=
  (aF (cIf (kF (aV (ap eqD (af 3) (ao (.int 0)))) (aV (ap eqD (ap aU (af 0) (ao (.int 7))) (ao (.int 0))))) (bi (sv (ah (ao (.str "names")) (ah (bp j3 (ah (ap bz (af 0) (ao (.int 7))) (ah (af 1) az))) az)))) bA)
  (aF (ba 4 (bp rec (ah (bp dC (ah (af 0) (ah (ao (.int 1)) az))) (ah (af 1) (ah (af 2) (ah (ap ij (af 3) (ao (.int 1))) az))))))
  (aF (ba 5 (bp rec (ah (bp dC (ah (af 0) (ah (ao (.int 2)) az))) (ah (af 1) (ah (af 2) (ah (ap ij (af 3) (ao (.int 1))) az))))))
  (bi (sv (ah (ao (.str "ask")) (ah (ap aU (ap bz (af 0) (ao (.int 7))) (af 2)) (ah (af 4) (ah (af 5) az)))))))))
def jr:Nat->List D->Sto->Out D
 | 0=>λ_ _=>none
 |n+1=>cF 4 2 (oW (jr n))
def l0:Rho->Sto->Out Fl:=
  (bi (gC (cUn (du "int") (af 0)) (gC (xt (cUn (du "bool") (af 0))) (gz leD leD (ao (.int 0)) (af 0) (af 1)))))
def iJ:List D->Sto->Out D:=cF 2 0 l0
def cq:Rho->Sto->Out Bool:=
  (aV (ap ltD (gw bo findD (ao (.str "abcdefghijklmnopqrstuvwxyz")) (af 0)) (ao (.int 0))))
def dc:Rho->Sto->Out D:=
  (af 0)
def cu:Rho->Sto->Out Fl:=
  (aF (cIf (kF (dX (aV (cUn (du "str") (af 2)))) (kF (dX (aV (gz ltD ltD (ao (.int 0)) (bB cX (ah (af 2) az)) (ao (.int 9))))) (xz (aV (ap gtD (af 1) (ao (.int 0)))) (dX (aV (ap ltD (cIx (af 0) (ap ij (af 1) (ao (.int 1)))) (af 2))))))) (bi (ao (.bl false))) bA)
  (aF (cIf (aV (cIn false (af 2) (ao (D.tup [(D.str "names"),(D.str "ask"),(D.str "end")])))) (bi (ao (.bl false))) bA)
  (cIf (aV (ap neD (ii 1 [] (iG (af 2)) (bu 0) cq dc) (vn az))) (bi (ao (.bl false))) bA)))
def ie:Rho->Sto->Out Fl:=
  (aF (cIf (dX (aV (cUn (du "tuple") (af 0)))) (bi (ao (.bl false))) bA)
  (aF (sD (o_ nO (ah (af 0) az)) (uj 2 (eV (bu 1) (eV (bu 2) pG))) cu)
  (bi (ao (.bl true)))))
def eD:List D->Sto->Out D:=cF 1 2 ie
def iw (rec:List D->Sto->Out D):Rho->Sto->Out Fl:=
  (aF (cIf (kF (aV (ap gtD (af 2) (ao (.int 12)))) (kF (dX (aV (cUn (du "tuple") (af 0)))) (kF (aV (ap eqD (bB cX (ah (af 0) az)) (ao (.int 0)))) (dX (aV (cUn (du "str") (cIx (af 0) (ao (.int 0))))))))) (bi (ao (.bl false))) bA)
  (aF (cIf (aV (ap eqD (cIx (af 0) (ao (.int 0))) (ao (.str "names")))) (bi (gC (ap eqD (bB cX (ah (af 0) az)) (ao (.int 2))) (bp eD (ah (cIx (af 0) (ao (.int 1))) az)))) bA)
  (aF (cIf (kF (aV (ap neD (cIx (af 0) (ao (.int 0))) (ao (.str "ask")))) (kF (aV (ap neD (bB cX (ah (af 0) az)) (ao (.int 4)))) (dX (aV (bp iJ (ah (cIx (af 0) (ao (.int 1))) (ah (ap ij (af 1) (ao (.int 1))) az))))))) (bi (ao (.bl false))) bA)
  (bi (gC (bp rec (ah (cIx (af 0) (ao (.int 2))) (ah (af 1) (ah (ap aL (af 2) (ao (.int 1))) az)))) (bp rec (ah (cIx (af 0) (ao (.int 3))) (ah (af 1) (ah (ap aL (af 2) (ao (.int 1))) az)))))))))
def bK:Nat->List D->Sto->Out D
 | 0=>λ_ _=>none
 |n+1=>cF 3 0 (iw (bK n))
def eA (rec:List D->Sto->Out D):Rho->Sto->Out D:=
  (ap aL (af 0) (ao (.str " ")))
def gp (rec:List D->Sto->Out D):Rho->Sto->Out Fl:=
  (aF (cIf (aV (ap eqD (cIx (af 0) (ao (.int 0))) (ao (.str "names")))) (bi (ap aL (ap aL (ao (.str "names ")) (gw bo ic (ao (.str "")) (ii 1 [] (iG (cIx (af 0) (ao (.int 1)))) (bu 0) ig (eA rec)))) (ao (.str "end")))) bA)
  (bi (ap aL (ap aL (ap aL (ap aL (ap aL (ao (.str "ask ")) (bB j8 (ah (cIx (af 0) (ao (.int 1))) az))) (ao (.str " "))) (bp rec (ah (cIx (af 0) (ao (.int 2))) az))) (ao (.str " "))) (bp rec (ah (cIx (af 0) (ao (.int 3))) az)))))
def a_:Nat->List D->Sto->Out D
 | 0=>λ_ _=>none
 |n+1=>cF 1 0 (gp (a_ n))
def bG:Rho->Sto->Out Fl:=
  (aF (ba 2 (gw bo fN (af 0) (ao (.str " "))))
  (aF (ba 3 (ap aU (ap bz (af 1) (ao (.int 8))) (bB cX (ah (af 2) az))))
  (aF (ba 4 (ap aU (ap bz (af 1) (ao (.int 8))) (ap aL (bB cX (ah (af 0) az)) (ao (.int 1)))))
  (aF (ba 5 (ap aU (af 1) (ao (.int 8))))
  (aF (cIf (aV (ap eqD (af 5) (ao (.int 0)))) (bi (ap aL (cSl slD (af 0) none (some (af 4))) (cSl slD (af 0) (some (ap aL (af 4) (ao (.int 1)))) none))) bA)
  (aF (cIf (aV (ap ltD (af 5) (ao (.int 3)))) (aF (ba 6 (cIx (ao (.str " 019aZz-\n\t")) (ap aU (ap bz (af 1) (ao (.int 7))) (ao (.int 10)))))
  (bi (ap aL (ap aL (cSl slD (af 0) none (some (af 4))) (af 6)) (cSl slD (af 0) (some (ap ij (ap aL (af 4) (af 5)) (ao (.int 1)))) none)))) bA)
  (aF (cIf (aV (ap eqD (af 5) (ao (.int 3)))) (bi (gw bo ic (ao (.str " ")) (ap aL (cSl slD (af 2) none (some (af 3))) (cSl slD (af 2) (some (ap aL (af 3) (ao (.int 1)))) none)))) bA)
  (aF (cIf (aV (ap eqD (af 5) (ao (.int 4)))) (bi (gw bo ic (ao (.str " ")) (ap aL (ap aL (cSl slD (af 2) none (some (af 3))) (cSl slD (af 2) (some (af 3)) (some (ap aL (af 3) (ao (.int 1)))))) (cSl slD (af 2) (some (af 3)) none)))) bA)
  (aF (cIf (aV (ap eqD (af 5) (ao (.int 5)))) (aF (ba 7 (ap aL (cSl slD (af 2) (some (ap aL (af 3) (ao (.int 1)))) (some (ap aL (af 3) (ao (.int 2))))) (cSl slD (af 2) (some (af 3)) (some (ap aL (af 3) (ao (.int 1)))))))
  (bi (gw bo ic (ao (.str " ")) (ap aL (ap aL (cSl slD (af 2) none (some (af 3))) (af 7)) (cSl slD (af 2) (some (ap aL (af 3) (ao (.int 2)))) none))))) bA)
  (aF (ba 8 (gw bo fN (ao (.str "names end ask 0 1 9 00 10 -1 a zz abcdefghi A names end")) (ao (.str " "))))
  (bi (gw bo ic (ao (.str " ")) (ap aL (ap aL (cSl slD (af 2) none (some (af 3))) (vn (ah (cIx (af 8) (ap aU (ap bz (af 1) (ao (.int 7))) (ao (.int 15)))) az))) (cSl slD (af 2) (some (ap aL (af 3) (ao (.int 1)))) none))))))))))))))
def gE:List D->Sto->Out D:=cF 2 7 bG
def jR:Rho->Sto->Out Fl:=
  (aF (gu (ba 2 (fG fz (ah (af 0) (ah (af 1) az)))) (inL ["NoText"]) 3 (aF (ba 4 (gC (mS (lkB ([("NoText",true)]:List (Str×Bool))) (af 3)) (gC (mS (lkB ([("NoText",true)]:List (Str×Bool))) (af 3)) (xt (mS (lkB ([("NoText",false)]:List (Str×Bool))) (af 3))))))
  (bi (cIx (ao (D.lst [(D.tup []),D.non])) (bB intD (ah (af 4) az))))))
  (bi (cIx (vn (ah (af 2) (ah (sv az) az))) (bB intD (ah (ap isD (af 2) (ao .non)) az)))))
def bt:List D->Sto->Out D:=cF 2 3 jR
def pe:Rho->Sto->Out Fl:=
  (ba 3 (bp gE (ah (af 3) (ah (bp dC (ah (af 4) (ah (af 7) az))) az))))
def w5:Rho->Sto->Out Fl:=
  (aF (ba 1 (ap aL (ao (.int 1)) (ap aU (bp br (ah (af 0) (ah (ao (.int 0)) az))) (ao (.int 10)))))
  (aF (ba 2 (bp (jr 8) (ah (bp br (ah (af 0) (ah (ao (.int 2)) az))) (ah (bp j0 (ah (bp br (ah (af 0) (ah (ao (.int 1)) az))) az)) (ah (af 1) (ah (ap aU (bp br (ah (af 0) (ah (ao (.int 3)) az))) (ao (.int 6))) az))))))
  (aF (ba 3 (bp (a_ 15) (ah (af 2) az)))
  (aF (ba 4 (bp br (ah (af 0) (ah (ao (.int 4)) az))))
  (aF (cIf (aV (ap eqD (ap aU (af 4) (ao (.int 9))) (ao (.int 4)))) (aF (ba 5 (cIx (vn (ah (ap aU (ap bz (af 4) (ao (.int 9))) (ao (.int 150))) (ah (ap aL (ao (.int 9)) (ap aU (ap bz (af 4) (ao (.int 9))) (ao (.int 7)))) az))) (ap aU (ap bz (af 4) (ao (.int 63))) (ao (.int 2)))))
  (aF (ba 3 (ap aL (ap aL (ap bI (ao (.str "ask 0 ")) (af 5)) (ao (.str "names a end"))) (ap bI (ao (.str " names end")) (af 5))))
  (aF (ba 6 (bp bt (ah (af 3) (ah (af 1) az))))
  (bi (gC (ap eqD (ap jP (af 6) (ao .non)) (ap ltD (af 5) (ao (.int 13)))) (cOr (ap isD (af 6) (ao .non)) (ap eqD (bp (a_ 15) (ah (af 6) az)) (af 3)))))))) bA)
  (aF (sD (o_ fW (ah (ap bI (ap aU (ap bz (af 4) (ao (.int 9))) (ao (.int 3))) (ap aL (ao (.int 1)) (ap aU (ap bz (af 4) (ao (.int 27))) (ao (.int 2))))) az)) (bu 7) pe)
  (aF (ba 6 (bp bt (ah (af 3) (ah (af 1) az))))
  (aF (cIf (aV (ap eqD (af 3) (bp (a_ 15) (ah (af 2) az)))) (bi (gC (ap eqD (af 6) (af 2)) (bp (bK 15) (ah (af 6) (ah (af 1) (ah (ao (.int 0)) az)))))) bA)
  (bi (cOr (ap isD (af 6) (ao .non)) (gC (bp (bK 15) (ah (af 6) (ah (af 1) (ah (ao (.int 0)) az)))) (ap eqD (bp (a_ 15) (ah (af 6) az)) (af 3)))))))))))))
def xJ:List D->Sto->Out D:=cF 1 7 w5
noncomputable def top (i:Nat):Stmt:=PySem.Challenge.pw_keyfold_k05_whole_read.main.body.getD i (.Pass ⟨0,0,0,0⟩)
noncomputable def zm:Stmt->List Stmt
 | .ClassDef _ _ _ b _ _ _ _ _ _ _=>b
 |_=>[]
noncomputable def AD (i j:Nat):Stmt:=(zm (top i)).getD j (.Pass ⟨0,0,0,0⟩)
noncomputable abbrev ci:Stmt:=top 8
noncomputable abbrev z_has_plain_letters:Scope:={ kind:=.function,names:=[("text",.local),("all",.globalImplicit)],isGenerator:=false,isCoroutine:=false,more:=[("fast",(.str "text")),("fast",(.str "sign"))] }
noncomputable abbrev jB:Stmt:=top 9
noncomputable abbrev mY:Scope:={ kind:=.function,names:=[ ("thing",.local),("isinstance",.globalImplicit),("str",.globalImplicit),("KEPT_WORDS",.globalImplicit),("len",.globalImplicit),("MOST_LETTERS",.globalImplicit),("has_plain_letters",.globalImplicit)],isGenerator:=false,isCoroutine:=false,more:=[] }
noncomputable abbrev ip:Stmt:=top 10
noncomputable abbrev z_is_names:Scope:={ kind:=.function,names:=[ ("thing",.local),("isinstance",.globalImplicit),("tuple",.globalImplicit),("all",.globalImplicit),("sorted",.globalImplicit),("set",.globalImplicit)],isGenerator:=false,isCoroutine:=false,more:=[ ("fast",(.str "thing")),("fast",(.str "part"))] }
noncomputable abbrev cQ:Stmt:=AD 12 0
noncomputable abbrev eL:Scope:={ kind:=.function,names:=[("self",.local),("text",.local)],isGenerator:=false,isCoroutine:=false,more:=[] }
noncomputable abbrev cP:Stmt:=AD 12 2
noncomputable abbrev eI:Scope:={ kind:=.function,names:=[("self",.local),("len",.globalImplicit)],isGenerator:=false,isCoroutine:=false,more:=[] }
noncomputable abbrev e_:Stmt:=AD 12 1
noncomputable abbrev iQ:Scope:={ kind:=.function,names:=[ ("self",.local),("NoText",.globalImplicit)],isGenerator:=false,isCoroutine:=false,more:=[] }
noncomputable abbrev cO:Stmt:=top 15
noncomputable abbrev eE:Scope:={ kind:=.function,names:=[ ("words",.local),("characters",.local),("word",.local),("NoText",.globalImplicit)],isGenerator:=false,isCoroutine:=false,more:=[] }
noncomputable abbrev eZ:Stmt:=top 16
noncomputable abbrev iP:Scope:={ kind:=.function,names:=[ ("words",.local),("names",.local),("word",.local),("is_names",.globalImplicit),("tuple",.globalImplicit),("NoText",.globalImplicit)],isGenerator:=false,isCoroutine:=false,more:=[] }
noncomputable abbrev im:Stmt:=top 14
noncomputable abbrev kT:Scope:={ kind:=.function,names:=[ ("words",.local),("characters",.local),("depth_left",.local),("word",.local),("character",.local),("no",.local),("yes",.local),("read_names",.globalImplicit),("NoText",.globalImplicit),("MOST_KEYS_ABOVE",.globalImplicit),("read_character",.globalImplicit),("read_key",.globalImplicit)],isGenerator:=false,isCoroutine:=false,more:=[] }
noncomputable abbrev rB:Stmt:=top 13
noncomputable abbrev z_read:Scope:={ kind:=.function,names:=[ ("text",.local),("many",.local),("words",.local),("key",.local),("Words",.globalImplicit),("read_key",.globalImplicit),("range",.globalImplicit),("MOST_KEYS_ABOVE",.globalImplicit),("NoText",.globalImplicit)],isGenerator:=false,isCoroutine:=false,more:=[ ("fast",(.str "text")),("fast",(.str "many")),("fast",(.str "words")),("fast",(.str "character")),("fast",(.str "key"))] }
noncomputable abbrev fV:Stmt:=top 18
noncomputable abbrev j6:Scope:={ kind:=.function,names:=[ ("_law_script",.local),("_law_k",.local),("len",.globalImplicit)],isGenerator:=false,isCoroutine:=false,more:=[] }
noncomputable abbrev jA:Stmt:=top 19
noncomputable abbrev mX:Scope:={ kind:=.function,names:=[ ("_law_script",.local),("_law_k",.local),("_law_drawn_here",.local),("_law_cell_at",.globalImplicit)],isGenerator:=false,isCoroutine:=false,more:=[] }
noncomputable abbrev jD:Stmt:=top 20
noncomputable abbrev m5:Scope:={ kind:=.function,names:=[ ("_law_number_here",.local),("_law_k",.local),("_law_drawn_here",.local)],isGenerator:=false,isCoroutine:=false,more:=[] }
noncomputable abbrev jw:Stmt:=top 21
noncomputable abbrev mV:Scope:={ kind:=.function,names:=[ ("_law_number_here",.local),("_law_letters",.local),("_law_found_here",.local),("_law_k",.local),("_law_drawn_here",.local),("_law_word",.local),("_law_at",.local),("range",.globalImplicit),("_law_drawn",.globalImplicit),("int",.globalImplicit),("tuple",.globalImplicit),("sorted",.globalImplicit)],isGenerator:=false,isCoroutine:=false,more:=[] }
noncomputable abbrev jz:Stmt:=top 22
noncomputable abbrev z_names_L:Scope:={ kind:=.function,names:=[ ("_law_number_here",.cell),("_law_words_here",.local),("tuple",.globalImplicit),("enumerate",.globalImplicit)],isGenerator:=false,isCoroutine:=false,more:=[ ("fast",(.str "_law_number_here")),("fast",(.str "_law_words_here")),("fast",(.str "_law_k")),("fast",(.str "_law_word"))] }
noncomputable abbrev oz:Stmt:=top 23
noncomputable abbrev sQ:Scope:={ kind:=.function,names:=[ ("_law_number_here",.local),("_law_words_here",.local),("_law_many",.local),("_law_deep",.local),("_law_no",.local),("_law_yes",.local),("_law_names",.globalImplicit),("_law_key",.globalImplicit),("_law_drawn",.globalImplicit)],isGenerator:=false,isCoroutine:=false,more:=[] }
noncomputable abbrev io:Stmt:=top 28
noncomputable abbrev kU:Scope:={ kind:=.function,names:=[ ("_law_thing",.local),("_law_high",.local),("isinstance",.globalImplicit),("int",.globalImplicit),("bool",.globalImplicit)],isGenerator:=false,isCoroutine:=false,more:=[] }
noncomputable abbrev d5:Stmt:=top 29
noncomputable abbrev z_are_names_L:Scope:={ kind:=.function,names:=[ ("_law_thing",.local),("_law_k",.local),("_law_part",.local),("isinstance",.globalImplicit),("tuple",.globalImplicit),("enumerate",.globalImplicit),("str",.globalImplicit),("len",.globalImplicit)],isGenerator:=false,isCoroutine:=false,more:=[ ("fast",(.str "_law_thing")),("fast",(.str "_law_k")),("fast",(.str "_law_part")),("fast",(.str "_law_sign"))] }
noncomputable abbrev iq:Stmt:=top 30
noncomputable abbrev kW:Scope:={ kind:=.function,names:=[ ("_law_thing",.local),("_law_many",.local),("_law_deep",.local),("isinstance",.globalImplicit),("tuple",.globalImplicit),("len",.globalImplicit),("str",.globalImplicit),("_law_are_names",.globalImplicit),("_law_number",.globalImplicit),("_law_is_key",.globalImplicit)],isGenerator:=false,isCoroutine:=false,more:=[] }
noncomputable abbrev fT:Stmt:=top 31
noncomputable abbrev z_written_L:Scope:={ kind:=.function,names:=[ ("_law_key_here",.local),("str",.globalImplicit),("_law_written",.globalImplicit)],isGenerator:=false,isCoroutine:=false,more:=[ ("fast",(.str "_law_key_here")),("fast",(.str "_law_name"))] }
noncomputable abbrev fU:Stmt:=top 32
noncomputable abbrev j5:Scope:={ kind:=.function,names:=[ ("_law_text",.local),("_law_number_here",.local),("_law_words_here",.local),("_law_at",.local),("_law_place",.local),("_law_kind",.local),("_law_sign",.local),("_law_swapped",.local),("_law_some",.local),("len",.globalImplicit)],isGenerator:=false,isCoroutine:=false,more:=[] }
noncomputable abbrev jC:Stmt:=top 33
noncomputable abbrev mZ:Scope:={ kind:=.function,names:=[ ("_law_text",.local),("_law_many",.local),("_law_found_here",.local),("e",.local),("_law_good",.local),("read",.globalImplicit),("NoText",.globalImplicit),("isinstance",.globalImplicit),("FoldError",.globalImplicit),("ValueError",.globalImplicit),("NoKey",.globalImplicit),("int",.globalImplicit)],isGenerator:=false,isCoroutine:=false,more:=[] }
noncomputable abbrev tm:Stmt:=top 34
noncomputable abbrev zB:Scope:={ kind:=.function,names:=[ ("_law_script",.local),("_law_many",.local),("_law_key_here",.local),("_law_text",.local),("_law_number_here",.local),("_law_deep",.local),("_law_found_here",.local),("_law_k",.local),("_law_mixed",.globalImplicit),("_law_key",.globalImplicit),("_law_words",.globalImplicit),("_law_written",.globalImplicit),("_law_found",.globalImplicit),("range",.globalImplicit),("_law_changed",.globalImplicit),("_law_drawn",.globalImplicit),("_law_is_key",.globalImplicit)],isGenerator:=false,isCoroutine:=false,more:=[] }
structure Top (K:PySem.W.Frag) (mg:Str->Option Value):Prop where
 d_has_plain_letters:bO K mg "has_plain_letters" ci ["text"]
 d_is_name:bO K mg "is_name" jB ["thing"]
 d_is_names:bO K mg "is_names" ip ["thing"]
 d_Words___init__:Bb K mg "Words" "Words.__init__" cQ ["self","text"]
 d_Words_are_left:MethAt K "Words" "are_left" "Words.are_left" cP ["self"]
 d_Words_take:MethAt K "Words" "take" "Words.take" e_ ["self"]
 d_read_character:bO K mg "read_character" cO ["words","characters"]
 d_read_names:bO K mg "read_names" eZ ["words"]
 d_read_key:bO K mg "read_key" im ["words","characters","depth_left"]
 d_read:bO K mg "read" rB ["text","many"]
 d_cell_at_L:bO K mg "_law_cell_at" fV ["_law_script","_law_k"]
 d_mixed_L:bO K mg "_law_mixed" jA ["_law_script","_law_k"]
 d_drawn_L:bO K mg "_law_drawn" jD ["_law_number_here","_law_k"]
 d_words_L:bO K mg "_law_words" jw ["_law_number_here"]
 d_names_L:bO K mg "_law_names" jz ["_law_number_here","_law_words_here"]
 d_key_L:bO K mg "_law_key" oz ["_law_number_here","_law_words_here","_law_many","_law_deep"]
 d_number_L:bO K mg "_law_number" io ["_law_thing","_law_high"]
 d_are_names_L:bO K mg "_law_are_names" d5 ["_law_thing"]
 d_is_key_L:bO K mg "_law_is_key" iq ["_law_thing","_law_many","_law_deep"]
 d_written_L:bO K mg "_law_written" fT ["_law_key_here"]
 d_changed_L:bO K mg "_law_changed" fU ["_law_text","_law_number_here"]
 d_found_L:bO K mg "_law_found" jC ["_law_text","_law_many"]
 d_law:bO K mg "law" tm ["_law_script"]
 b_all:mg "all"=none
 b_isinstance:mg "isinstance"=none
 b_str:mg "str"=none
 b_len:mg "len"=none
 b_tuple:mg "tuple"=none
 b_sorted:mg "sorted"=none
 b_set:mg "set"=none
 b_range:mg "range"=none
 b_int:mg "int"=none
 b_enumerate:mg "enumerate"=none
 b_bool:mg "bool"=none
 b_ValueError:mg "ValueError"=none
 c_KEPT_WORDS:ud K mg "KEPT_WORDS" (D.tup [(D.str "names"),(D.str "ask"),(D.str "end")])
 c_MOST_LETTERS:ud K mg "MOST_LETTERS" (D.int 8)
 c_MOST_KEYS_ABOVE:ud K mg "MOST_KEYS_ABOVE" (D.int 12)
 f_Words_parts:nY K "Words" "parts"
 f_Words_taken:nY K "Words" "taken"
 x_NoText:ExcAt K mg "NoText"
 h_NoText:HdAt K mg "NoText" ["NoText"]
 i_FoldError:∃ CT,mg "FoldError"=some (.ref CT)/\TabAt K (.ref CT) [("NoText",true)]
 i_ValueError:TabAt K (.type "ValueError") [("NoText",true)]
 i_NoKey:∃ CT,mg "NoKey"=some (.ref CT)/\TabAt K (.ref CT) [("NoText",false)]
section
variable {P:Program}{w:World}{K:PySem.W.Frag}{mg:Str->Option Value}{base:Heap}
theorem fJ:ar ci=z_has_plain_letters:=rfl
theorem sc_has_plain_letters:FnScope ["text"] ["text"] z_has_plain_letters:=⟨rfl,rfl,rfl,by decide +kernel,rfl,by decide +kernel,by decide +kernel⟩
theorem fI (T:Top K mg):Cal P w K mg base 1 "has_plain_letters" ["text"] cj:=
 cy T.d_has_plain_letters fJ sc_has_plain_letters (λf cdv A outer s H E hr=>by
 have hu:=bZ hr;have hu1:=bX hr;have hu2:=bY hr;have hgd:=hr.gd;have nd:=sc_has_plain_letters.nd
 exact (au (aD (bM (xl rfl) T.b_all xC (ae (gL (ts:=["sign"]) (ix:=[]) rfl ⟨rfl,by decide +kernel,by decide +kernel,by exact (show ∀ y∈(_:List (Str×NameKind)),y.2=NameKind.free->List.lookup y.1 z_has_plain_letters.names=some NameKind.cell∨List.lookup y.1 z_has_plain_letters.names=some NameKind.free from by decide +kernel)⟩ (by exact (show ∀ t∈([]:List Nat),List.lookup ((["text"]:List Str).getD t Str.empty) _=some NameKind.free from by decide +kernel)) (on (aa (i:=0))) (λ_ _ _ _ _=>⟨(cr (i:=0) (show (["sign"]:List Str).Nodup from by decide +kernel)),kH,(lu nw nw aI (aa (i:=0)) aI)⟩)) aq)))))
theorem qW:ar jB=mY:=rfl
theorem sc_is_name:FnScope ["thing"] ["thing"] mY:=⟨rfl,rfl,rfl,by decide +kernel,rfl,by decide +kernel,by decide +kernel⟩
theorem qI (T:Top K mg):Cal P w K mg base 2 "is_name" ["thing"] j4:=
 cy T.d_is_name qW sc_is_name (λf cdv A outer s H E hr=>by
 have hu:=bZ hr;have hu1:=bX hr;have hu2:=bY hr;have hgd:=hr.gd;have nd:=sc_is_name.nd
 exact (al (bF (eW (hW (db (dD (fR oK rfl T.b_isinstance T.b_str mi (aa (i:=0))))) (js (vD hu hu1 hu2 (aa (i:=0)) (oq T.c_KEPT_WORDS))))) (au (aD fS)) aN)
  (au (aD (d4 (lu nw nw ai (bM ft T.b_len fw (ae (aa (i:=0)) aq)) (oq T.c_MOST_LETTERS)) (d3 (aM (fI T) (hr.mono (by omega)) (ae (aa (i:=0)) aq))))))))
theorem pq:ar ip=z_is_names:=rfl
theorem sc_is_names:FnScope ["thing"] ["thing"] z_is_names:=⟨rfl,rfl,rfl,by decide +kernel,rfl,by decide +kernel,by decide +kernel⟩
theorem o9 (T:Top K mg):Cal P w K mg base 3 "is_names" ["thing"] iK:=
 cy T.d_is_names pq sc_is_names (λf cdv A outer s H E hr=>by
 have hu:=bZ hr;have hu1:=bX hr;have hu2:=bY hr;have hgd:=hr.gd;have nd:=sc_is_names.nd
 exact (al (bF (eW (hW (db (dD (fR kit_tuple rfl T.b_isinstance T.b_tuple dL (aa (i:=0))))) (js (db (dD (bM (xl rfl) T.b_all xC (ae (gL (ts:=["part"]) (ix:=[]) rfl ⟨rfl,by decide +kernel,by decide +kernel,by exact (show ∀ y∈(_:List (Str×NameKind)),y.2=NameKind.free->List.lookup y.1 z_is_names.names=some NameKind.cell∨List.lookup y.1 z_is_names.names=some NameKind.free from by decide +kernel)⟩ (by exact (show ∀ t∈([]:List Nat),List.lookup ((["thing"]:List Str).getD t Str.empty) _=some NameKind.free from by decide +kernel)) (on (aa (i:=0))) (λ_ _ _ _ _=>⟨(cr (i:=0) (show (["part"]:List Str).Nodup from by decide +kernel)),kH,(aM (qI T) (hr.mono (by omega)) (ae (aa (i:=0)) aq))⟩)) aq))))))) (au (aD fS)) aN)
  (au (aD (cN (cC hu) (aa (i:=0)) (cA sj T.b_tuple dL (ae (ou rfl rfl rfl T.b_sorted T.b_set (aa (i:=0))) aq)))))))
theorem iN:ar cQ=eL:=rfl
theorem sc_Words___init__:FnScope ["self","text"] ["self","text"] eL:=⟨rfl,rfl,rfl,by decide +kernel,rfl,by decide +kernel,by decide +kernel⟩
theorem iF (T:Top K mg):Bc P w K mg base 1 "Words" ["self","text"] bE:=
 zp T.d_Words___init__ iN sc_Words___init__ (λf cdv A outer s H E hr=>by
 have hu:=bZ hr;have hu1:=bX hr;have hu2:=bY hr;have hgd:=hr.gd;have nd:=sc_Words___init__.nd
 exact (al (vO T.f_Words_parts (aa (i:=0)) (lK rfl (aa (i:=1)) aI))
  (au (vO T.f_Words_taken (aa (i:=0)) ai))))
theorem iM:ar cP=eI:=rfl
theorem sc_Words_are_left:FnScope ["self"] ["self"] eI:=⟨rfl,rfl,rfl,by decide +kernel,rfl,by decide +kernel,by decide +kernel⟩
theorem dI (T:Top K mg):zA P w K mg base 1 "Words" "are_left" ["self"] cg:=
 zo T.d_Words_are_left iM sc_Words_are_left (λf cdv A outer s H E hr=>by
 have hu:=bZ hr;have hu1:=bX hr;have hu2:=bY hr;have hgd:=hr.gd;have nd:=sc_Words_are_left.nd
 exact (au (aD (cN kc (oy T.f_Words_taken (aa (i:=0))) (bM ft T.b_len fw (ae (oy T.f_Words_parts (aa (i:=0))) aq))))))
theorem mB:ar e_=iQ:=rfl
theorem sc_Words_take:FnScope ["self"] ["self"] iQ:=⟨rfl,rfl,rfl,by decide +kernel,rfl,by decide +kernel,by decide +kernel⟩
theorem cM (T:Top K mg):xK P w K mg base 2 "Words" "take" ["self"] bL:=
 xq T.d_Words_take mB sc_Words_take (λf cdv A outer s H E hr=>by
 have hu:=bZ hr;have hu1:=bX hr;have hu2:=bY hr;have hgd:=hr.gd;have nd:=sc_Words_take.nd
 exact (al (bF (db (dD (pM (dI T) (hr.mono (by omega)) (aa (i:=0))))) (au (lc T.x_NoText dB rfl (ae aI aq))) aN)
  (al (xY T.f_Words_taken (aa (i:=0)) ai)
  (au (aD (bn hu1 (oy T.f_Words_parts (aa (i:=0))) (aj f_ (oy T.f_Words_taken (aa (i:=0))) ai)))))))
theorem iL:ar cO=eE:=rfl
theorem sc_read_character:FnScope ["words","characters","word"] ["words","characters"] eE:=⟨rfl,rfl,rfl,by decide +kernel,rfl,by decide +kernel,by decide +kernel⟩
theorem iE (T:Top K mg):sO P w K mg base 3 "read_character" ["words","characters"] bD:=
 kQ T.d_read_character iL sc_read_character (λf cdv A outer s H E hr=>by
 have hu:=bZ hr;have hu1:=bX hr;have hu2:=bY hr;have hgd:=hr.gd;have nd:=sc_read_character.nd
 exact (al (aH (i:=2) nd (gK (cM T) (hr.mono (by omega)) cJ (aa (i:=0))))
  (al (bF (um hu hu1 hu2 (aa (i:=2)) (aa (i:=1))) (au (jt T.x_NoText dB rfl (oE (lQ (oN (i:=2) hgd hu rW))))) aN)
  (au (aD (uV rfl (aa (i:=1)) (aa (i:=2))))))))
theorem mw:ar eZ=iP:=rfl
theorem sc_read_names:FnScope ["words","names","word"] ["words"] iP:=⟨rfl,rfl,rfl,by decide +kernel,rfl,by decide +kernel,by decide +kernel⟩
theorem mh (T:Top K mg):sO P w K mg base 4 "read_names" ["words"] dA:=
 kQ T.d_read_names mw sc_read_names (λf cdv A outer s H E hr=>by
 have hu:=bZ hr;have hu1:=bX hr;have hu2:=bY hr;have hgd:=hr.gd;have nd:=sc_read_names.nd
 exact (al (aH (i:=1) nd yd)
  (al (aH (i:=2) nd (gK (cM T) (hr.mono (by omega)) cJ (aa (i:=0))))
  (al (vM Am (aT (pU hu) (aa (i:=2)) aI) (al (xX (Ab rfl (aa (i:=1)) (aa (i:=2))))
  (au (aH (i:=2) nd (gK (cM T) (hr.mono (by omega)) cJ (aa (i:=0)))))))
  (al (bF (db (dD (aM (o9 T) (hr.mono (by omega)) (ae (ni T.b_tuple (aa (i:=1))) aq)))) (au (jt T.x_NoText dB rfl (oE (lQ (oN (i:=1) hgd hu rW))))) aN)
  (au (aD (ni T.b_tuple (aa (i:=1))))))))))
theorem pi:ar im=kT:=rfl
theorem sc_read_key:FnScope ["words","characters","depth_left","word","character","no","yes"] ["words","characters","depth_left"] kT:=⟨rfl,rfl,rfl,by decide +kernel,rfl,by decide +kernel,by decide +kernel⟩
theorem jo (T:Top K mg):∀ n:Nat,sO P w K mg base (n+4) "read_key" ["words","characters","depth_left"] (dO n)
 | 0=>vm T.d_read_key
 |n+1=>by
  have Crec:=jo T n
  exact kQ T.d_read_key pi sc_read_key (λf cdv A outer s H E hr=>by
   have hu:=bZ hr;have hu1:=bX hr;have hu2:=bY hr;have hgd:=hr.gd;have nd:=sc_read_key.nd
   exact (al (aH (i:=3) nd (gK (cM T) (hr.mono (by omega)) cJ (aa (i:=0))))
    (al (bF (aT (cC hu) (aa (i:=3)) aI) (au (aD (jv (ae aI (ae (gM (mh T) (hr.mono (by omega)) cJ (ae (aa (i:=0)) aq)) aq))))) aN)
    (al (bF (aT (pU hu) (aa (i:=3)) aI) (au (jt T.x_NoText dB rfl (oE (lQ (oN (i:=3) hgd hu rW))))) aN)
    (al (bF (aT (cC hu) (aa (i:=2)) ai) (au (lc T.x_NoText dB rfl (ae (yi (qo (AM (z_ (oq T.c_MOST_KEYS_ABOVE)) (qo AL)))) aq))) aN)
    (al (aH (i:=4) nd (gM (iE T) (hr.mono (by omega)) cJ (ae (aa (i:=0)) (ae (aa (i:=1)) aq))))
    (al (aH (i:=5) nd (gM Crec (hr.mono (by omega)) cJ (ae (aa (i:=0)) (ae (aa (i:=1)) (ae (aj f_ (aa (i:=2)) ai) aq)))))
    (al (aH (i:=6) nd (gM Crec (hr.mono (by omega)) cJ (ae (aa (i:=0)) (ae (aa (i:=1)) (ae (aj f_ (aa (i:=2)) ai) aq)))))
    (au (aD (jv (ae aI (ae (aa (i:=4)) (ae (aa (i:=5)) (ae (aa (i:=6)) aq)))))))))))))))
theorem xL:ar rB=z_read:=rfl
theorem sc_read:FnScope ["text","many","words","key"] ["text","many"] z_read:=⟨rfl,rfl,rfl,by decide +kernel,rfl,by decide +kernel,by decide +kernel⟩
theorem xp (T:Top K mg):sO P w K mg base 19 "read" ["text","many"] fz:=
 kQ T.d_read xL sc_read (λf cdv A outer s H E hr=>by
 have hu:=bZ hr;have hu1:=bX hr;have hu2:=bY hr;have hgd:=hr.gd;have nd:=sc_read.nd
 exact (al (aH (i:=2) nd (yf (iF T) (hr.mono (by omega)) (ae (aa (i:=0)) aq)))
  (al (aH (i:=3) nd (gM (jo T 14) (hr.mono (by omega)) cJ (ae (aa (i:=2)) (ae (gL (ts:=["character"]) (ix:=[]) rfl ⟨rfl,by decide +kernel,by decide +kernel,by exact (show ∀ y∈(_:List (Str×NameKind)),y.2=NameKind.free->List.lookup y.1 z_read.names=some NameKind.cell∨List.lookup y.1 z_read.names=some NameKind.free from by decide +kernel)⟩ (by exact (show ∀ t∈([]:List Nat),List.lookup ((["text","many","words","key"]:List Str).getD t Str.empty) _=some NameKind.free from by decide +kernel)) (gJ rfl T.b_range (ae (aa (i:=1)) aq)) (λ_ _ _ _ _=>⟨(cr (i:=0) (show (["character"]:List Str).Nodup from by decide +kernel)),kH,(cA xk T.b_str mi (ae (aa (i:=0)) aq))⟩)) (ae (oq T.c_MOST_KEYS_ABOVE) aq)))))
  (al (bF (dD (pM (dI T) (hr.mono (by omega)) (aa (i:=2)))) (au (lc T.x_NoText dB rfl (ae aI aq))) aN)
  (au (aD (aa (i:=3))))))))
theorem n8:ar fV=j6:=rfl
theorem sc_cell_at_L:FnScope ["_law_script","_law_k"] ["_law_script","_law_k"] j6:=⟨rfl,rfl,rfl,by decide +kernel,rfl,by decide +kernel,by decide +kernel⟩
theorem mR (T:Top K mg):Cal P w K mg base 1 "_law_cell_at" ["_law_script","_law_k"] gF:=
 cy T.d_cell_at_L n8 sc_cell_at_L (λf cdv A outer s H E hr=>by
 have hu:=bZ hr;have hu1:=bX hr;have hu2:=bY hr;have hgd:=hr.gd;have nd:=sc_cell_at_L.nd
 exact (al (bF (aT kc (aa (i:=1)) (bM ft T.b_len fw (ae (aa (i:=0)) aq))) (au (aD (bn hu1 (aa (i:=0)) (aa (i:=1))))) aN)
  (au (aD ai))))
theorem qV:ar jA=mX:=rfl
theorem sc_mixed_L:FnScope ["_law_script","_law_k","_law_drawn_here"] ["_law_script","_law_k"] mX:=⟨rfl,rfl,rfl,by decide +kernel,rfl,by decide +kernel,by decide +kernel⟩
theorem c_ (T:Top K mg):Cal P w K mg base 2 "_law_mixed" ["_law_script","_law_k"] br:=
 cy T.d_mixed_L qV sc_mixed_L (λf cdv A outer s H E hr=>by
 have hu:=bZ hr;have hu1:=bX hr;have hu2:=bY hr;have hgd:=hr.gd;have nd:=sc_mixed_L.nd
 exact (al (aH (i:=2) nd (aj bg (aj cw (aj aC (aj aC (aM (mR T) (hr.mono (by omega)) (ae (aa (i:=0)) (ae (aa (i:=1)) aq))) (aj cw ai (aa (i:=1)))) ai) ai) ai))
  (au (aD (aj bg (aj aC (aj aC (aj cw (aa (i:=2)) (aa (i:=2))) (aj cw ai (aa (i:=2)))) (aa (i:=1))) ai)))))
theorem qY:ar jD=m5:=rfl
theorem sc_drawn_L:FnScope ["_law_number_here","_law_k","_law_drawn_here"] ["_law_number_here","_law_k"] m5:=⟨rfl,rfl,rfl,by decide +kernel,rfl,by decide +kernel,by decide +kernel⟩
theorem dW (T:Top K mg):Cal P w K mg base 1 "_law_drawn" ["_law_number_here","_law_k"] dC:=
 cy T.d_drawn_L qY sc_drawn_L (λf cdv A outer s H E hr=>by
 have hu:=bZ hr;have hu1:=bX hr;have hu2:=bY hr;have hgd:=hr.gd;have nd:=sc_drawn_L.nd
 exact (al (aH (i:=2) nd (aj bg (aj cw (aj aC (aj aC (aa (i:=0)) (aj cw ai (aa (i:=1)))) ai) ai) ai))
  (au (aD (aj bg (aj aC (aj aC (aj cw (aa (i:=2)) (aa (i:=2))) (aj cw ai (aa (i:=2)))) (aa (i:=1))) ai)))))
theorem qT:ar jw=mV:=rfl
theorem sc_words_L:FnScope ["_law_number_here","_law_letters","_law_found_here","_law_k","_law_drawn_here","_law_word","_law_at"] ["_law_number_here"] mV:=⟨rfl,rfl,rfl,by decide +kernel,rfl,by decide +kernel,by decide +kernel⟩
theorem qG (T:Top K mg):Cal P w K mg base 2 "_law_words" ["_law_number_here"] j0:=
 cy T.d_words_L qT sc_words_L (λf cdv A outer s H E hr=>by
 have hu:=bZ hr;have hu1:=bX hr;have hu2:=bY hr;have hgd:=hr.gd;have nd:=sc_words_L.nd
 exact (al (aH (i:=1) nd aI)
  (al (aH (i:=2) nd ye)
  (al (oh PassesOwn.never rfl (gJ rfl T.b_range (ae ai aq)) (cr (i:=3) nd) (al (aH (i:=4) nd (aM (dW T) (hr.mono (by omega)) (ae (aa (i:=0)) (ae (aa (i:=3)) aq))))
  (al (aH (i:=5) nd (bn hu1 (aa (i:=1)) (aj bg (aa (i:=4)) ai)))
  (al (oh PassesOwn.never rfl (gJ rfl T.b_range (ae (aj cw (aj bg (aj bR (aa (i:=4)) ai) ai) (aj bg (aa (i:=0)) ai)) aq)) (cr (i:=6) nd) (au (aH (i:=5) nd (aj aC (aa (i:=5)) (bn hu1 (aa (i:=1)) (aj bg (aj bR (aa (i:=4)) (aj aC (aj cw ai (aa (i:=6))) ai)) ai))))))
  (au (zY hu1 (aa (i:=2)) (aj aC (aa (i:=5)) (aj cw aI (cA sk T.b_int pc (ae (z9 hu hu1 hu2 (aa (i:=5)) (ow (.tup (.cons (.str ⟨by decide,by decide +kernel⟩) (.cons (.str ⟨by decide,by decide +kernel⟩) (.cons (.str ⟨by decide,by decide +kernel⟩) .nil))) (by decide)))) aq)))) fS))))))
  (au (aD (cA sj T.b_tuple dL (ae (yc rfl rfl T.b_sorted (aa (i:=2))) aq))))))))
theorem qU:ar jz=z_names_L:=rfl
theorem sc_names_L:FnScope ["_law_number_here","_law_words_here"] ["_law_number_here","_law_words_here"] z_names_L:=⟨rfl,rfl,rfl,by decide +kernel,rfl,by decide +kernel,by decide +kernel⟩
theorem qH (T:Top K mg):Cal P w K mg base 1 "_law_names" ["_law_number_here","_law_words_here"] j3:=
 cy T.d_names_L qU sc_names_L (λf cdv A outer s H E hr=>by
 have hu:=bZ hr;have hu1:=bX hr;have hu2:=bY hr;have hgd:=hr.gd;have nd:=sc_names_L.nd
 exact (au (aD (cA sj T.b_tuple dL (ae (gL (ts:=["_law_k","_law_word"]) (ix:=[0]) rfl ⟨rfl,by decide +kernel,by decide +kernel,by exact (show ∀ y∈(_:List (Str×NameKind)),y.2=NameKind.free->List.lookup y.1 z_names_L.names=some NameKind.cell∨List.lookup y.1 z_names_L.names=some NameKind.free from by decide +kernel)⟩ (by exact (show ∀ t∈([0]:List Nat),List.lookup ((["_law_number_here","_law_words_here"]:List Str).getD t Str.empty) _=some NameKind.free from by decide +kernel)) (s_ rfl T.b_enumerate (ae (aa (i:=1)) aq)) (λ_ _ _ _ _=>⟨(vV rfl (jb (cr (i:=0) (show (["_law_k","_law_word","_law_number_here"]:List Str).Nodup from by decide +kernel)) (jb (cr (i:=1) (show (["_law_k","_law_word","_law_number_here"]:List Str).Nodup from by decide +kernel)) tf))),(sW (aT (cC hu) (aj bg (aj bR (aa (i:=2)) (aj aC (aj cw ai (aa (i:=0))) ai)) ai) ai)),(aa (i:=1))⟩)) aq)))))
theorem vA:ar oz=sQ:=rfl
theorem sc_key_L:FnScope ["_law_number_here","_law_words_here","_law_many","_law_deep","_law_no","_law_yes"] ["_law_number_here","_law_words_here","_law_many","_law_deep"] sQ:=⟨rfl,rfl,rfl,by decide +kernel,rfl,by decide +kernel,by decide +kernel⟩
theorem nR (T:Top K mg):∀ n:Nat,Cal P w K mg base (n+1) "_law_key" ["_law_number_here","_law_words_here","_law_many","_law_deep"] (jr n)
 | 0=>mf T.d_key_L
 |n+1=>by
  have Crec:=nR T n
  exact cy T.d_key_L vA sc_key_L (λf cdv A outer s H E hr=>by
   have hu:=bZ hr;have hu1:=bX hr;have hu2:=bY hr;have hgd:=hr.gd;have nd:=sc_key_L.nd
   exact (al (bF (eW (hW (aT (cC hu) (aa (i:=3)) ai) (js (aT (cC hu) (aj bg (aa (i:=0)) ai) ai)))) (au (aD (jv (ae aI (ae (aM (qH T) (hr.mono (by omega)) (ae (aj bR (aa (i:=0)) ai) (ae (aa (i:=1)) aq))) aq))))) aN)
    (al (aH (i:=4) nd (aM Crec (hr.mono (by omega)) (ae (aM (dW T) (hr.mono (by omega)) (ae (aa (i:=0)) (ae ai aq))) (ae (aa (i:=1)) (ae (aa (i:=2)) (ae (aj f_ (aa (i:=3)) ai) aq))))))
    (al (aH (i:=5) nd (aM Crec (hr.mono (by omega)) (ae (aM (dW T) (hr.mono (by omega)) (ae (aa (i:=0)) (ae ai aq))) (ae (aa (i:=1)) (ae (aa (i:=2)) (ae (aj f_ (aa (i:=3)) ai) aq))))))
    (au (aD (jv (ae aI (ae (aj bg (aj bR (aa (i:=0)) ai) (aa (i:=2))) (ae (aa (i:=4)) (ae (aa (i:=5)) aq)))))))))))
theorem pp:ar io=kU:=rfl
theorem sc_number_L:FnScope ["_law_thing","_law_high"] ["_law_thing","_law_high"] kU:=⟨rfl,rfl,rfl,by decide +kernel,rfl,by decide +kernel,by decide +kernel⟩
theorem o8 (T:Top K mg):Cal P w K mg base 1 "_law_number" ["_law_thing","_law_high"] iJ:=
 cy T.d_number_L pp sc_number_L (λf cdv A outer s H E hr=>by
 have hu:=bZ hr;have hu1:=bX hr;have hu2:=bY hr;have hgd:=hr.gd;have nd:=sc_number_L.nd
 exact (au (aD (d4 (fR y8 rfl T.b_isinstance T.b_int pc (aa (i:=0))) (d4 (v4 (fR wS rfl T.b_isinstance T.b_bool zt (aa (i:=0)))) (d3 (lu nw nw ai (aa (i:=0)) (aa (i:=1)))))))))
theorem kS:ar d5=z_are_names_L:=rfl
theorem sc_are_names_L:FnScope ["_law_thing","_law_k","_law_part"] ["_law_thing"] z_are_names_L:=⟨rfl,rfl,rfl,by decide +kernel,rfl,by decide +kernel,by decide +kernel⟩
theorem kE (T:Top K mg):Cal P w K mg base 1 "_law_are_names" ["_law_thing"] eD:=
 cy T.d_are_names_L kS sc_are_names_L (λf cdv A outer s H E hr=>by
 have hu:=bZ hr;have hu1:=bX hr;have hu2:=bY hr;have hgd:=hr.gd;have nd:=sc_are_names_L.nd
 exact (al (bF (db (dD (fR kit_tuple rfl T.b_isinstance T.b_tuple dL (aa (i:=0))))) (au (aD fS)) aN)
  (al (oh PassesOwn.never rfl (s_ rfl T.b_enumerate (ae (aa (i:=0)) aq)) (vV rfl (jb (cr (i:=1) nd) (jb (cr (i:=2) nd) tf))) (al (bF (eW (hW (db (dD (fR oK rfl T.b_isinstance T.b_str mi (aa (i:=2))))) (hW (db (vE kc kc ai (bM ft T.b_len fw (ae (aa (i:=2)) aq)) ai)) (js (eW (zX (aT zI (aa (i:=1)) ai) (xT (db (aT kc (bn hu1 (aa (i:=0)) (aj f_ (aa (i:=1)) ai)) (aa (i:=2))))))))))) (au (aD fS)) aN)
  (al (bF (vD hu hu1 hu2 (aa (i:=2)) (ow (.tup (.cons (.str ⟨by decide,by decide +kernel⟩) (.cons (.str ⟨by decide,by decide +kernel⟩) (.cons (.str ⟨by decide,by decide +kernel⟩) .nil))) (by decide)))) (au (aD fS)) aN)
  (au (bF (aT (pU hu) (gL (ts:=["_law_sign"]) (ix:=[]) rfl ⟨rfl,by decide +kernel,by decide +kernel,by exact (show ∀ y∈(_:List (Str×NameKind)),y.2=NameKind.free->List.lookup y.1 z_are_names_L.names=some NameKind.cell∨List.lookup y.1 z_are_names_L.names=some NameKind.free from by decide +kernel)⟩ (by exact (show ∀ t∈([]:List Nat),List.lookup ((["_law_thing","_law_k","_law_part"]:List Str).getD t Str.empty) _=some NameKind.free from by decide +kernel)) (on (aa (i:=2))) (λ_ _ _ _ _=>⟨(cr (i:=0) (show (["_law_sign"]:List Str).Nodup from by decide +kernel)),(sW (aT kc (yW rfl aI (aa (i:=0))) ai)),(aa (i:=0))⟩)) (ls aq)) (au (aD fS)) aN)))))
  (au (aD fS)))))
theorem pv:ar iq=kW:=rfl
theorem sc_is_key_L:FnScope ["_law_thing","_law_many","_law_deep"] ["_law_thing","_law_many","_law_deep"] kW:=⟨rfl,rfl,rfl,by decide +kernel,rfl,by decide +kernel,by decide +kernel⟩
theorem fu (T:Top K mg):∀ n:Nat,Cal P w K mg base (n+1) "_law_is_key" ["_law_thing","_law_many","_law_deep"] (bK n)
 | 0=>mf T.d_is_key_L
 |n+1=>by
  have Crec:=fu T n
  exact cy T.d_is_key_L pv sc_is_key_L (λf cdv A outer s H E hr=>by
   have hu:=bZ hr;have hu1:=bX hr;have hu2:=bY hr;have hgd:=hr.gd;have nd:=sc_is_key_L.nd
   exact (al (bF (eW (hW (aT zI (aa (i:=2)) ai) (hW (db (dD (fR kit_tuple rfl T.b_isinstance T.b_tuple dL (aa (i:=0))))) (hW (aT (cC hu) (bM ft T.b_len fw (ae (aa (i:=0)) aq)) ai) (js (db (dD (fR oK rfl T.b_isinstance T.b_str mi (bn hu1 (aa (i:=0)) ai))))))))) (au (aD fS)) aN)
    (al (bF (aT (cC hu) (bn hu1 (aa (i:=0)) ai) aI) (au (aD (d4 (cN (cC hu) (bM ft T.b_len fw (ae (aa (i:=0)) aq)) ai) (d3 (aM (kE T) (hr.mono (by omega)) (ae (bn hu1 (aa (i:=0)) ai) aq)))))) aN)
    (al (bF (eW (hW (aT (pU hu) (bn hu1 (aa (i:=0)) ai) aI) (hW (aT (pU hu) (bM ft T.b_len fw (ae (aa (i:=0)) aq)) ai) (js (db (dD (aM (o8 T) (hr.mono (by omega)) (ae (bn hu1 (aa (i:=0)) ai) (ae (aj f_ (aa (i:=1)) ai) aq))))))))) (au (aD fS)) aN)
    (au (aD (d4 (aM Crec (hr.mono (by omega)) (ae (bn hu1 (aa (i:=0)) ai) (ae (aa (i:=1)) (ae (aj aC (aa (i:=2)) ai) aq)))) (d3 (aM Crec (hr.mono (by omega)) (ae (bn hu1 (aa (i:=0)) ai) (ae (aa (i:=1)) (ae (aj aC (aa (i:=2)) ai) aq))))))))))))
theorem nZ:ar fT=z_written_L:=rfl
theorem sc_written_L:FnScope ["_law_key_here"] ["_law_key_here"] z_written_L:=⟨rfl,rfl,rfl,by decide +kernel,rfl,by decide +kernel,by decide +kernel⟩
theorem ck (T:Top K mg):∀ n:Nat,Cal P w K mg base (n+0) "_law_written" ["_law_key_here"] (a_ n)
 | 0=>mf T.d_written_L
 |n+1=>by
  have Crec:=ck T n
  exact cy T.d_written_L nZ sc_written_L (λf cdv A outer s H E hr=>by
   have hu:=bZ hr;have hu1:=bX hr;have hu2:=bY hr;have hgd:=hr.gd;have nd:=sc_written_L.nd
   exact (al (bF (aT (cC hu) (bn hu1 (aa (i:=0)) ai) aI) (au (aD (aj aC (aj aC aI (jf rfl aI (gL (ts:=["_law_name"]) (ix:=[]) rfl ⟨rfl,by decide +kernel,by decide +kernel,by exact (show ∀ y∈(_:List (Str×NameKind)),y.2=NameKind.free->List.lookup y.1 z_written_L.names=some NameKind.cell∨List.lookup y.1 z_written_L.names=some NameKind.free from by decide +kernel)⟩ (by exact (show ∀ t∈([]:List Nat),List.lookup ((["_law_key_here"]:List Str).getD t Str.empty) _=some NameKind.free from by decide +kernel)) (on (bn hu1 (aa (i:=0)) ai)) (λ_ _ _ _ _=>⟨(cr (i:=0) (show (["_law_name"]:List Str).Nodup from by decide +kernel)),kH,(aj aC (aa (i:=0)) aI)⟩)))) aI))) aN)
    (au (aD (aj aC (aj aC (aj aC (aj aC (aj aC aI (cA xk T.b_str mi (ae (bn hu1 (aa (i:=0)) ai) aq))) aI) (aM Crec (hr.mono (by omega)) (ae (bn hu1 (aa (i:=0)) ai) aq))) aI) (aM Crec (hr.mono (by omega)) (ae (bn hu1 (aa (i:=0)) ai) aq)))))))
theorem n5:ar fU=j5:=rfl
theorem sc_changed_L:FnScope ["_law_text","_law_number_here","_law_words_here","_law_at","_law_place","_law_kind","_law_sign","_law_swapped","_law_some"] ["_law_text","_law_number_here"] j5:=⟨rfl,rfl,rfl,by decide +kernel,rfl,by decide +kernel,by decide +kernel⟩
theorem mQ (T:Top K mg):Cal P w K mg base 1 "_law_changed" ["_law_text","_law_number_here"] gE:=
 cy T.d_changed_L n5 sc_changed_L (λf cdv A outer s H E hr=>by
 have hu:=bZ hr;have hu1:=bX hr;have hu2:=bY hr;have hgd:=hr.gd;have nd:=sc_changed_L.nd
 exact (al (aH (i:=2) nd (lK rfl (aa (i:=0)) aI))
  (al (aH (i:=3) nd (aj bg (aj bR (aa (i:=1)) ai) (bM ft T.b_len fw (ae (aa (i:=2)) aq))))
  (al (aH (i:=4) nd (aj bg (aj bR (aa (i:=1)) ai) (aj aC (bM ft T.b_len fw (ae (aa (i:=0)) aq)) ai)))
  (al (aH (i:=5) nd (aj bg (aa (i:=1)) ai))
  (al (bF (aT (cC hu) (aa (i:=5)) ai) (au (aD (aj aC (dG sld (aa (i:=0)) trivial (aa (i:=4))) (dG sld (aa (i:=0)) (aj aC (aa (i:=4)) ai) trivial)))) aN)
  (al (bF (aT kc (aa (i:=5)) ai) (al (aH (i:=6) nd (bn hu1 aI (aj bg (aj bR (aa (i:=1)) ai) ai)))
  (au (aD (aj aC (aj aC (dG sld (aa (i:=0)) trivial (aa (i:=4))) (aa (i:=6))) (dG sld (aa (i:=0)) (aj f_ (aj aC (aa (i:=4)) (aa (i:=5))) ai) trivial))))) aN)
  (al (bF (aT (cC hu) (aa (i:=5)) ai) (au (aD (jf rfl aI (aj aC (dG sld (aa (i:=2)) trivial (aa (i:=3))) (dG sld (aa (i:=2)) (aj aC (aa (i:=3)) ai) trivial))))) aN)
  (al (bF (aT (cC hu) (aa (i:=5)) ai) (au (aD (jf rfl aI (aj aC (aj aC (dG sld (aa (i:=2)) trivial (aa (i:=3))) (dG sld (aa (i:=2)) (aa (i:=3)) (aj aC (aa (i:=3)) ai))) (dG sld (aa (i:=2)) (aa (i:=3)) trivial))))) aN)
  (al (bF (aT (cC hu) (aa (i:=5)) ai) (al (aH (i:=7) nd (aj aC (dG sld (aa (i:=2)) (aj aC (aa (i:=3)) ai) (aj aC (aa (i:=3)) ai)) (dG sld (aa (i:=2)) (aa (i:=3)) (aj aC (aa (i:=3)) ai))))
  (au (aD (jf rfl aI (aj aC (aj aC (dG sld (aa (i:=2)) trivial (aa (i:=3))) (aa (i:=7))) (dG sld (aa (i:=2)) (aj aC (aa (i:=3)) ai) trivial)))))) aN)
  (al (aH (i:=8) nd (lK rfl aI aI))
  (au (aD (jf rfl aI (aj aC (aj aC (dG sld (aa (i:=2)) trivial (aa (i:=3))) (ls (ae (bn hu1 (aa (i:=8)) (aj bg (aj bR (aa (i:=1)) ai) ai)) aq))) (dG sld (aa (i:=2)) (aj aC (aa (i:=3)) ai) trivial))))))))))))))))
theorem qX:ar jC=mZ:=rfl
theorem sc_found_L:FnScope ["_law_text","_law_many","_law_found_here","e","_law_good"] ["_law_text","_law_many"] mZ:=⟨rfl,rfl,rfl,by decide +kernel,rfl,by decide +kernel,by decide +kernel⟩
theorem kq (T:Top K mg):Cal P w K mg base 20 "_law_found" ["_law_text","_law_many"] bt:=
 cy T.d_found_L qX sc_found_L (λf cdv A outer s H E hr=>by
 have hu:=bZ hr;have hu1:=bX hr;have hu2:=bY hr;have hgd:=hr.gd;have nd:=sc_found_L.nd
 exact (al (uv (i:=3) T.h_NoText nd (λpn xe W1 lk=>(au (aH (i:=2) nd (gM (xp T) (hr.mono (by omega)) lk (ae (aa (i:=0)) (ae (aa (i:=1)) aq)))))) (λ_=>(al (aH (i:=4) nd (d4 (tj rfl T.b_isinstance T.i_FoldError (aa (i:=3))) (d4 (yg rfl T.b_isinstance T.b_ValueError mU T.i_ValueError (aa (i:=3))) (d3 (v4 (tj rfl T.b_isinstance T.i_NoKey (aa (i:=3))))))))
  (au (aD (bn hu1 (ow (.lst (.cons (.tup .nil (by decide)) (.cons .non .nil)) (by decide))) (cA sk T.b_int pc (ae (aa (i:=4)) aq))))))))
  (au (aD (bn hu1 (ls (ae (aa (i:=2)) (ae (jv aq) aq))) (cA sk T.b_int pc (ae (cN wz (aa (i:=2)) lm) aq)))))))
theorem zQ:ar tm=zB:=rfl
theorem sc_law:FnScope ["_law_script","_law_many","_law_key_here","_law_text","_law_number_here","_law_deep","_law_found_here","_law_k"] ["_law_script"] zB:=⟨rfl,rfl,rfl,by decide +kernel,rfl,by decide +kernel,by decide +kernel⟩
theorem AU (T:Top K mg){f:Addr}{fd:FuncData}(Fn:Fun K "law" "law" tm f fd):FnD P w K mg base 21 f fd ["_law_script"] xJ:=
 l5 Fn zQ sc_law (λ_ cdv A outer s H E hr=>by
 have hu:=bZ hr;have hu1:=bX hr;have hu2:=bY hr;have hgd:=hr.gd;have nd:=sc_law.nd
 exact (al (aH (i:=1) nd (aj aC ai (aj bg (aM (c_ T) (hr.mono (by omega)) (ae (aa (i:=0)) (ae ai aq))) ai)))
  (al (aH (i:=2) nd (aM (nR T 8) (hr.mono (by omega)) (ae (aM (c_ T) (hr.mono (by omega)) (ae (aa (i:=0)) (ae ai aq))) (ae (aM (qG T) (hr.mono (by omega)) (ae (aM (c_ T) (hr.mono (by omega)) (ae (aa (i:=0)) (ae ai aq))) aq)) (ae (aa (i:=1)) (ae (aj bg (aM (c_ T) (hr.mono (by omega)) (ae (aa (i:=0)) (ae ai aq))) ai) aq))))))
  (al (aH (i:=3) nd (aM (ck T 15) (hr.mono (by omega)) (ae (aa (i:=2)) aq)))
  (al (aH (i:=4) nd (aM (c_ T) (hr.mono (by omega)) (ae (aa (i:=0)) (ae ai aq))))
  (al (bF (aT (cC hu) (aj bg (aa (i:=4)) ai) ai) (al (aH (i:=5) nd (bn hu1 (ls (ae (aj bg (aj bR (aa (i:=4)) ai) ai) (ae (aj aC ai (aj bg (aj bR (aa (i:=4)) ai) ai)) aq))) (aj bg (aj bR (aa (i:=4)) ai) ai)))
  (al (aH (i:=3) nd (aj aC (aj aC (aj cw aI (aa (i:=5))) aI) (aj cw aI (aa (i:=5)))))
  (al (aH (i:=6) nd (aM (kq T) (hr.mono (by omega)) (ae (aa (i:=3)) (ae (aa (i:=1)) aq))))
  (au (aD (d4 (cN (cC hu) (cN ww (aa (i:=6)) lm) (cN kc (aa (i:=5)) ai)) (d3 (zD (cN wz (aa (i:=6)) lm) (d3 (cN (cC hu) (aM (ck T 15) (hr.mono (by omega)) (ae (aa (i:=6)) aq)) (aa (i:=3)))))))))))) aN)
  (al (oh PassesOwn.never rfl (gJ rfl T.b_range (ae (aj cw (aj bg (aj bR (aa (i:=4)) ai) ai) (aj aC ai (aj bg (aj bR (aa (i:=4)) ai) ai))) aq)) (cr (i:=7) nd) (au (aH (i:=3) nd (aM (mQ T) (hr.mono (by omega)) (ae (aa (i:=3)) (ae (aM (dW T) (hr.mono (by omega)) (ae (aa (i:=4)) (ae (aa (i:=7)) aq))) aq))))))
  (al (aH (i:=6) nd (aM (kq T) (hr.mono (by omega)) (ae (aa (i:=3)) (ae (aa (i:=1)) aq))))
  (al (bF (aT (cC hu) (aa (i:=3)) (aM (ck T 15) (hr.mono (by omega)) (ae (aa (i:=2)) aq))) (au (aD (d4 (cN (cC hu) (aa (i:=6)) (aa (i:=2))) (d3 (aM (fu T 15) (hr.mono (by omega)) (ae (aa (i:=6)) (ae (aa (i:=1)) (ae ai aq)))))))) aN)
  (au (aD (zD (cN wz (aa (i:=6)) lm) (d3 (d4 (aM (fu T 15) (hr.mono (by omega)) (ae (aa (i:=6)) (ae (aa (i:=1)) (ae ai aq)))) (d3 (cN (cC hu) (aM (ck T 15) (hr.mono (by omega)) (ae (aa (i:=6)) aq)) (aa (i:=3))))))))))))))))))
end
theorem top_mk {K:PySem.W.Frag}{h:Heap}{mg:Str->Option Value}(X:K.In h)(G:h.Ns mainGlobals mg)
  {C_Words:Addr}
  {f0:Addr}
  {f1:Addr}
  {f2:Addr}
  {f3:Addr}
  {f4:Addr}
  {f5:Addr}
  {f6:Addr}
  {f7:Addr}
  {f8:Addr}
  {f9:Addr}
  {f10:Addr}
  {f11:Addr}
  {f12:Addr}
  {f13:Addr}
  {f14:Addr}
  {f15:Addr}
  {f16:Addr}
  {f17:Addr}
  {f18:Addr}
  {f19:Addr}
  {f20:Addr}
  {f21:Addr}
  {f22:Addr}
  {v_KEPT_WORDS:Addr}{o_KEPT_WORDS:Obj}
  {v_MOST_LETTERS:Value}
  {v_MOST_KEYS_ABOVE:Value}
  {C_FoldError:Addr}
  {C_NoKey:Addr}
  {C_NoText:Addr}
  (n_Words:PySem.W.nsIn K mainGlobals "Words"=some (some (.ref C_Words)))
  (k0_Words:PySem.W.plainGet K C_Words Str.empty=true)
  (k1_Words:PySem.W.hasDictIn K C_Words=true)
  (k2_Words:PySem.W.plainOver K C_Words=true)
  (k3_Words:PySem.W.findIn K (.ref C_Words) "__setattr__"=some (some (.builtin "object.__setattr__")))
  (k4_Words:PySem.W.makesIn K C_Words=true)
  (k5_Words:PySem.W.keepIn K (.ref C_Words)=true)
  (a0:PySem.W.nsIn K mainGlobals "has_plain_letters"=some (some (.ref f0))) (q0:FE K "has_plain_letters" "has_plain_letters" ci f0)
  (a1:PySem.W.nsIn K mainGlobals "is_name"=some (some (.ref f1))) (q1:FE K "is_name" "is_name" jB f1)
  (a2:PySem.W.nsIn K mainGlobals "is_names"=some (some (.ref f2))) (q2:FE K "is_names" "is_names" ip f2)
  (a3:PySem.W.findIn K (.ref C_Words) "__init__"=some (some (.ref f3))) (i3:PySem.W.isFn K (.ref f3)=true) (q3:FE K "__init__" "Words.__init__" cQ f3)
  (a4:PySem.W.findIn K (.ref C_Words) "are_left"=some (some (.ref f4))) (i4:PySem.W.isFn K (.ref f4)=true) (q4:FE K "are_left" "Words.are_left" cP f4)
  (a5:PySem.W.findIn K (.ref C_Words) "take"=some (some (.ref f5))) (i5:PySem.W.isFn K (.ref f5)=true) (q5:FE K "take" "Words.take" e_ f5)
  (a6:PySem.W.nsIn K mainGlobals "read_character"=some (some (.ref f6))) (q6:FE K "read_character" "read_character" cO f6)
  (a7:PySem.W.nsIn K mainGlobals "read_names"=some (some (.ref f7))) (q7:FE K "read_names" "read_names" eZ f7)
  (a8:PySem.W.nsIn K mainGlobals "read_key"=some (some (.ref f8))) (q8:FE K "read_key" "read_key" im f8)
  (a9:PySem.W.nsIn K mainGlobals "read"=some (some (.ref f9))) (q9:FE K "read" "read" rB f9)
  (a10:PySem.W.nsIn K mainGlobals "_law_cell_at"=some (some (.ref f10))) (q10:FE K "_law_cell_at" "_law_cell_at" fV f10)
  (a11:PySem.W.nsIn K mainGlobals "_law_mixed"=some (some (.ref f11))) (q11:FE K "_law_mixed" "_law_mixed" jA f11)
  (a12:PySem.W.nsIn K mainGlobals "_law_drawn"=some (some (.ref f12))) (q12:FE K "_law_drawn" "_law_drawn" jD f12)
  (a13:PySem.W.nsIn K mainGlobals "_law_words"=some (some (.ref f13))) (q13:FE K "_law_words" "_law_words" jw f13)
  (a14:PySem.W.nsIn K mainGlobals "_law_names"=some (some (.ref f14))) (q14:FE K "_law_names" "_law_names" jz f14)
  (a15:PySem.W.nsIn K mainGlobals "_law_key"=some (some (.ref f15))) (q15:FE K "_law_key" "_law_key" oz f15)
  (a16:PySem.W.nsIn K mainGlobals "_law_number"=some (some (.ref f16))) (q16:FE K "_law_number" "_law_number" io f16)
  (a17:PySem.W.nsIn K mainGlobals "_law_are_names"=some (some (.ref f17))) (q17:FE K "_law_are_names" "_law_are_names" d5 f17)
  (a18:PySem.W.nsIn K mainGlobals "_law_is_key"=some (some (.ref f18))) (q18:FE K "_law_is_key" "_law_is_key" iq f18)
  (a19:PySem.W.nsIn K mainGlobals "_law_written"=some (some (.ref f19))) (q19:FE K "_law_written" "_law_written" fT f19)
  (a20:PySem.W.nsIn K mainGlobals "_law_changed"=some (some (.ref f20))) (q20:FE K "_law_changed" "_law_changed" fU f20)
  (a21:PySem.W.nsIn K mainGlobals "_law_found"=some (some (.ref f21))) (q21:FE K "_law_found" "_law_found" jC f21)
  (a22:PySem.W.nsIn K mainGlobals "law"=some (some (.ref f22))) (q22:FE K "law" "law" tm f22)
  (z_all:PySem.W.nsIn K mainGlobals "all"=some none)
  (z_isinstance:PySem.W.nsIn K mainGlobals "isinstance"=some none)
  (z_str:PySem.W.nsIn K mainGlobals "str"=some none)
  (z_len:PySem.W.nsIn K mainGlobals "len"=some none)
  (z_tuple:PySem.W.nsIn K mainGlobals "tuple"=some none)
  (z_sorted:PySem.W.nsIn K mainGlobals "sorted"=some none)
  (z_set:PySem.W.nsIn K mainGlobals "set"=some none)
  (z_range:PySem.W.nsIn K mainGlobals "range"=some none)
  (z_int:PySem.W.nsIn K mainGlobals "int"=some none)
  (z_enumerate:PySem.W.nsIn K mainGlobals "enumerate"=some none)
  (z_bool:PySem.W.nsIn K mainGlobals "bool"=some none)
  (z_ValueError:PySem.W.nsIn K mainGlobals "ValueError"=some none)
  (e_KEPT_WORDS:PySem.W.nsIn K mainGlobals "KEPT_WORDS"=some (some (.ref v_KEPT_WORDS))) (y_KEPT_WORDS:K.lookup v_KEPT_WORDS=some o_KEPT_WORDS) (t_KEPT_WORDS:r_ o_KEPT_WORDS (D.tup [(D.str "names"),(D.str "ask"),(D.str "end")])=true)
  (e_MOST_LETTERS:PySem.W.nsIn K mainGlobals "MOST_LETTERS"=some (some v_MOST_LETTERS)) (t_MOST_LETTERS:jV v_MOST_LETTERS (D.int 8)=true)
  (e_MOST_KEYS_ABOVE:PySem.W.nsIn K mainGlobals "MOST_KEYS_ABOVE"=some (some v_MOST_KEYS_ABOVE)) (t_MOST_KEYS_ABOVE:jV v_MOST_KEYS_ABOVE (D.int 12)=true)
  (g_Words_parts:PySem.W.findIn K (.ref C_Words) "parts"=some none)
  (g_Words_taken:PySem.W.findIn K (.ref C_Words) "taken"=some none)
  (n_FoldError:PySem.W.nsIn K mainGlobals "FoldError"=some (some (.ref C_FoldError)))
  (n_NoKey:PySem.W.nsIn K mainGlobals "NoKey"=some (some (.ref C_NoKey)))
  (n_NoText:PySem.W.nsIn K mainGlobals "NoText"=some (some (.ref C_NoText)))
  (t_q_NoText:PySem.W.excIn K C_NoText A6 "ValueError.__new__"=true)
  (t_s0_NoText:PySem.W.findIn K (.ref C_NoText) "__class__"=some (some (.builtin "object.__class__")))
  (t_s1_NoText:PySem.W.findIn K (.ref C_NoText) "__getattribute__"=some (some (.builtin "BaseException.__getattribute__")))
  (t_s2_NoText:PySem.W.findIn K (.ref C_NoText) "__getattr__"=some none)
  (t_s3_NoText:PySem.W.subIn K (.ref C_NoText) (.type "object")=some true)
  (t_s4_NoText:PySem.W.subIn K (.ref C_NoText) (.type "BaseException")=some true)
  (t_s5_NoText:(PySem.W.clsIn K C_NoText).isSome=true)
  (t_m_NoText_NoText:PySem.W.exmOne K (.ref C_NoText) (.ref C_NoText)=some true)
  (t_o_FoldError_NoText:PySem.W.kitOne K (.ref C_NoText) (.ref C_FoldError)=some true)
  (t_o_ValueError_NoText:PySem.W.kitOne K (.ref C_NoText) (.type "ValueError")=some true)
  (t_o_NoKey_NoText:PySem.W.kitOne K (.ref C_NoText) (.ref C_NoKey)=some false):Top K mg where
 d_has_plain_letters:=dAt X G a0 q0 (bd1 λ_ _ _ _ _ _ _=>rfl)
 d_is_name:=dAt X G a1 q1 (bd1 λ_ _ _ _ _ _ _=>rfl)
 d_is_names:=dAt X G a2 q2 (bd1 λ_ _ _ _ _ _ _=>rfl)
 d_Words___init__:=kAt X G ⟨n_Words,⟨k0_Words,k1_Words,k2_Words,k3_Words⟩⟩ k4_Words k5_Words a3 i3 q3 (bd2 λ_ _ _ _ _ _ _ _=>rfl)
 d_Words_are_left:=mAt ⟨n_Words,⟨k0_Words,k1_Words,k2_Words,k3_Words⟩⟩ a4 i4 q4 (bd1 λ_ _ _ _ _ _ _=>rfl)
 d_Words_take:=mAt ⟨n_Words,⟨k0_Words,k1_Words,k2_Words,k3_Words⟩⟩ a5 i5 q5 (bd1 λ_ _ _ _ _ _ _=>rfl)
 d_read_character:=dAt X G a6 q6 (bd2 λ_ _ _ _ _ _ _ _=>rfl)
 d_read_names:=dAt X G a7 q7 (bd1 λ_ _ _ _ _ _ _=>rfl)
 d_read_key:=dAt X G a8 q8 (bd3 λ_ _ _ _ _ _ _ _ _=>rfl)
 d_read:=dAt X G a9 q9 (bd2 λ_ _ _ _ _ _ _ _=>rfl)
 d_cell_at_L:=dAt X G a10 q10 (bd2 λ_ _ _ _ _ _ _ _=>rfl)
 d_mixed_L:=dAt X G a11 q11 (bd2 λ_ _ _ _ _ _ _ _=>rfl)
 d_drawn_L:=dAt X G a12 q12 (bd2 λ_ _ _ _ _ _ _ _=>rfl)
 d_words_L:=dAt X G a13 q13 (bd1 λ_ _ _ _ _ _ _=>rfl)
 d_names_L:=dAt X G a14 q14 (bd2 λ_ _ _ _ _ _ _ _=>rfl)
 d_key_L:=dAt X G a15 q15 (bd4 λ_ _ _ _ _ _ _ _ _ _=>rfl)
 d_number_L:=dAt X G a16 q16 (bd2 λ_ _ _ _ _ _ _ _=>rfl)
 d_are_names_L:=dAt X G a17 q17 (bd1 λ_ _ _ _ _ _ _=>rfl)
 d_is_key_L:=dAt X G a18 q18 (bd3 λ_ _ _ _ _ _ _ _ _=>rfl)
 d_written_L:=dAt X G a19 q19 (bd1 λ_ _ _ _ _ _ _=>rfl)
 d_changed_L:=dAt X G a20 q20 (bd2 λ_ _ _ _ _ _ _ _=>rfl)
 d_found_L:=dAt X G a21 q21 (bd2 λ_ _ _ _ _ _ _ _=>rfl)
 d_law:=dAt X G a22 q22 (bd1 λ_ _ _ _ _ _ _=>rfl)
 b_all:=PySem.W.mg_none_of X G z_all
 b_isinstance:=PySem.W.mg_none_of X G z_isinstance
 b_str:=PySem.W.mg_none_of X G z_str
 b_len:=PySem.W.mg_none_of X G z_len
 b_tuple:=PySem.W.mg_none_of X G z_tuple
 b_sorted:=PySem.W.mg_none_of X G z_sorted
 b_set:=PySem.W.mg_none_of X G z_set
 b_range:=PySem.W.mg_none_of X G z_range
 b_int:=PySem.W.mg_none_of X G z_int
 b_enumerate:=PySem.W.mg_none_of X G z_enumerate
 b_bool:=PySem.W.mg_none_of X G z_bool
 b_ValueError:=PySem.W.mg_none_of X G z_ValueError
 c_KEPT_WORDS:=⟨_,PySem.W.mg_of X G e_KEPT_WORDS,zl y_KEPT_WORDS t_KEPT_WORDS⟩
 c_MOST_LETTERS:=⟨_,PySem.W.mg_of X G e_MOST_LETTERS,t6 t_MOST_LETTERS⟩
 c_MOST_KEYS_ABOVE:=⟨_,PySem.W.mg_of X G e_MOST_KEYS_ABOVE,t6 t_MOST_KEYS_ABOVE⟩
 f_Words_parts:=⟨C_Words,n_Words,⟨k0_Words,k1_Words,k2_Words,k3_Words⟩,g_Words_parts⟩
 f_Words_taken:=⟨C_Words,n_Words,⟨k0_Words,k1_Words,k2_Words,k3_Words⟩,g_Words_taken⟩
 x_NoText:=w9 (PySem.W.mg_of X G n_NoText) t_q_NoText
 h_NoText:=⟨_,PySem.W.mg_of X G n_NoText,(List.forall_mem_cons.mpr ⟨⟨_,PySem.W.mg_of X G n_NoText,n_NoText,t_m_NoText_NoText⟩,(λ_ h=>by cases h)⟩)⟩
 i_FoldError:=⟨_,PySem.W.mg_of X G n_FoldError,(List.forall_mem_cons.mpr ⟨⟨_,n_NoText,⟨t_s0_NoText,t_s1_NoText,t_s2_NoText,t_s3_NoText,t_s4_NoText,t_s5_NoText⟩,t_o_FoldError_NoText⟩,(λ_ h=>by cases h)⟩)⟩
 i_ValueError:=(List.forall_mem_cons.mpr ⟨⟨_,n_NoText,⟨t_s0_NoText,t_s1_NoText,t_s2_NoText,t_s3_NoText,t_s4_NoText,t_s5_NoText⟩,t_o_ValueError_NoText⟩,(λ_ h=>by cases h)⟩)
 i_NoKey:=⟨_,PySem.W.mg_of X G n_NoKey,(List.forall_mem_cons.mpr ⟨⟨_,n_NoText,⟨t_s0_NoText,t_s1_NoText,t_s2_NoText,t_s3_NoText,t_s4_NoText,t_s5_NoText⟩,t_o_NoKey_NoText⟩,(λ_ h=>by cases h)⟩)⟩
end K05
namespace K05
open PySem L2 PyProof.Rows
noncomputable def isLet (c:Nat):Bool:=decide (97<=c)&&decide (c<=122)
noncomputable def lets (x:Str):Bool:=x.cps.toList.all isLet
theorem vK:("a":Str)=⟨#[97]⟩:=by decide +kernel
theorem vJ:("z":Str)=⟨#[122]⟩:=by decide +kernel
theorem rQ (a b:Nat):ltS ⟨#[a]⟩ ⟨#[b]⟩=decide (a<b):=by
 unfold ltS
 by_cases h:a<b
 ·rw[decide_eq_true h];simp[List.cons_lt_cons_iff,h]
 ·rw[decide_eq_false h];simp[List.cons_lt_cons_iff,h]
theorem vT (x:Str)(S:Sto):di (bu 0) ig aO (x.cps.toList.map λc=>D.str ⟨#[c]⟩) (df 1 [] [some (.str x)]) S=some ((x.cps.toList.map λc=>D.bl (isLet c)),S):=by
 have q:=gX (u:=bu 0) (fe:=aO) (λρ => ∃ y,ρ=[y]) (λd=>match d with | .str z => .bl (z.cps.toList.all isLet) |_ => .non) S (x.cps.toList.map λc=>D.str ⟨#[c]⟩) (df 1 [] [some (.str x)]) ⟨none,rfl⟩ (by
  rintro d hd ρ ⟨y,rfl⟩
  obtain⟨c,_,rfl⟩:=List.mem_map.mp hd
  refine⟨_,rfl,⟨_,rfl⟩,?_⟩
  by_cases h : 97<=c
  ·have h2:¬ c<97:=by omega
   by_cases h3:c<=122
   ·have h4:¬ 122<c:=by omega
    simp[aO,leD,vK,vJ,rQ,isLet,h,h2,h3,h4]
   ·have h4 : 122<c:=by omega
    simp[aO,leD,vK,vJ,rQ,isLet,h,h2,h3,h4]
  ·have h2:c<97:=by omega
   simp[aO,leD,vK,vJ,rQ,isLet,h,h2])
 rw[q,List.map_map]
 simp
theorem gm (x:Str)(S:Sto):cj [.str x] S=okO (.bl (lets x)) S:=by
 refine aE rfl ?_
 unfold dh
 have e:=vT x S
 simp[fQ,e]
 have b:qM (x.cps.toList.map λc=>D.bl (isLet c))=some (x.cps.toList.map isLet):=by
  induction x.cps.toList with
  |nil=>rfl
  |cons a l ih=>rw[List.map_cons,qM,ih];rfl
 simp[sL,b,lets,List.all_map]
noncomputable def kept (x:Str):Bool:=decide (x="names") ||(decide (x="ask") ||decide (x="end"))
noncomputable def bx (x:Str):Bool:=!kept x&&(decide (1<=x.length)&&(decide (x.length<=8)&&lets x))
noncomputable def fF:D->Bool
 | .str x=>bx x
 |_=>false
theorem rX {d:D}(hd:pl d=true)(S:Sto):j4 [d] S=okO (.bl (fF d)) S:=by
 refine aE rfl ?_
 unfold nJ
 cases d with
 |str x =>
  have ek:(decide (("names":Str)=x) ||(decide (("ask":Str)=x) ||decide (("end":Str)=x)))=kept x:=by
   unfold kept;simp[eq_comm]
  cases hk:kept x with
  |true=>simp[du,cY,dQ,inO,bN,in3,ek,hk,fF,bx]
  |false =>
   by_cases h1 : 1<=x.length
   ·by_cases h2:x.length<=8
    ·have h3:(x.length:Int)<=8:=by omega
     have h4:(1:Int)<=x.length:=by omega
     simp[du,cY,dQ,inO,bN,in3,ek,hk,fF,bx,cX,leD,h1,h2,h3,h4,gm]
    ·have h3:¬ (x.length:Int)<=8:=by omega
     have h4:(1:Int)<=x.length:=by omega
     simp[du,cY,dQ,inO,bN,in3,ek,hk,fF,bx,cX,leD,h1,h2,h3,h4]
   ·have h4:¬ (1:Int)<=x.length:=by omega
    simp[du,cY,dQ,inO,bN,in3,ek,hk,fF,bx,cX,leD,h1,h4]
 |set _=>simp[pl] at hd
 |loc _=>simp[pl] at hd
 |_=>simp[du,cY,dQ,fF]
theorem lE:∀ {ds:List D},ds.all fF=true->∃ ss:List Str,ds=ss.map .str/\∀ x∈ss,bx x=true
 |[],_=>⟨[],rfl,λx h=>by cases h⟩
 |d::ds,h=>by
  rw[List.all_cons,Bool.and_eq_true] at h
  obtain⟨ss,e,k⟩:=lE h.2
  cases d with
  |str x=>exact⟨x::ss,by rw[List.map_cons,e],λy hy=>by
    rcases List.mem_cons.mp hy with rfl |hy
    ·exact h.1
    ·exact k y hy⟩
  |_=>simp[fF] at h
noncomputable def jI:D->Bool
 | .tup ds=>ds.all fF&&(match fB ds with
  |some ss=>decide (ss=eM (ss.foldl bQ []))
  |none=>false)
 |_=>false
theorem qr {d:D}(hd:pl d=true)(hl:∀ ds,d = .tup ds->ds.length<4000)(S:Sto):iK [d] S=okO (.bl (jI d)) S:=by
 refine aE rfl ?_
 unfold l4
 cases d with
 |tup ds =>
  rw[pl] at hd
  have hd:=pls_iff.mp hd
  have q:=gX (u:=bu 0) (fe:=fq) (λρ => ∃ y,ρ=[y]) (λd => .bl (fF d)) S ds (df 1 [] [some (.tup ds)]) ⟨none,rfl⟩ (by
   rintro d hm ρ ⟨y,rfl⟩
   exact⟨_,rfl,⟨_,rfl⟩,by simp[fq,rX (hd d hm)]⟩)
  cases ha:ds.all fF with
  |false=>simp[du,cY,dQ,fQ,q,qQ,ha,jI]
  |true =>
   obtain⟨ss,rfl,ok⟩:=lE ha
   have h64:=hl _ rfl
   rw[List.length_map] at h64
   simp[du,cY,dQ,fQ,q,qQ,ha,jI,eY,cz,pI,w_,h64,-List.map_map]
 |set _=>simp[pl] at hd
 |loc _=>simp[pl] at hd
 |_=>simp[du,cY,dQ,jI]
noncomputable abbrev abc:Str:="abcdefghijklmnopqrstuvwxyz"
theorem w6:∀ k:Nat,k<26->0<=Txt.find abc ⟨#[97+k]⟩:=by
 intro k hk
 have h:∀ k:_root_.Fin 26,0<=Txt.find abc ⟨#[97+k.val]⟩:=by decide +kernel
 exact h ⟨k,hk⟩
theorem mn:abc.cps.toList.all isLet=true:=by decide +kernel
theorem w8 (c:Nat):decide (Txt.find abc ⟨#[c]⟩<0) = !isLet c:=by
 by_cases h : 97<=c/\c<=122
 ·have q:=w6 (c-97) (by omega)
  rw[show 97+(c-97)=c by omega] at q
  have e:isLet c=true:=by simp[isLet,h]
  rw[e,decide_eq_false (by omega)];rfl
 ·have e:isLet c=false:=by
   simp only[isLet,Bool.and_eq_false_iff,decide_eq_false_iff_not];omega
  rw[e]
  rcases StrLaws.occ_head abc ⟨#[c]⟩ 1 (Nat.le_refl _) with ⟨h1,_⟩ |⟨i,r,h1,h2,_⟩
  ·have:Txt.find abc ⟨#[c]⟩ = -1:=by unfold Txt.find;rw[h1]
   rw[this];rfl
  ·exfalso
   obtain⟨h3,h4⟩:=h2
   unfold Builtin.Str.subAt at h4
   have h5:=eq_of_beq h4
   have h6:c∈(abc.cps.extract i (i+(⟨#[c]⟩:Str).length)).toList:=by rw[h5];simp
   rw[Array.toList_extract] at h6
   have h7:=List.all_eq_true.mp mn c (List.mem_of_mem_drop (List.mem_of_mem_take h6))
   rw[e] at h7;cases h7
theorem cm {α:Type}{xs:List α}{i:Nat}{v : α}(h:xs[i]?=some v):atI xs (i:Int)=some v:=by
 have hi:i<xs.length:=(List.getElem?_eq_some_iff.mp h).1
 have e:ixN xs.length (i:Int)=some i:=by unfold ixN;rw[if_pos (by omega),if_pos (by omega)];simp
 unfold atI;rw[e];exact h
end K05
namespace L2
open PySem PyProof.Rows
theorem lU {K:Type}[DecidableEq K]:∀ (l ks:List K),ks.Nodup->(l.foldl bQ ks).Nodup
 |[],ks,h=>h
 |a::l,ks,h=>by
  rw[List.foldl_cons]
  refine lU l _ ?_
  unfold bQ
  split
  ·exact h
  ·rename_i hn
   refine List.nodup_append.mpr ⟨h,by simp,λx hx y hy=>?_⟩
   rw[List.mem_singleton.mp hy];rintro rfl;exact hn hx
theorem nE {K:Type}[DecidableEq K]:∀ (l ks:List K),(ks++l).Nodup->l.foldl bQ ks=ks++l
 |[],ks,_=>by simp
 |a::l,ks,h=>by
  have hn:a∉ks:=λhm=>by
   have:=(List.nodup_append.mp h).2.2 a hm a (List.mem_cons_self ..)
   exact this rfl
  rw[List.foldl_cons,show bQ ks a=ks++[a] by unfold bQ;rw[if_neg hn],nE l (ks++[a]) (by simpa using h)]
  simp
theorem yY {a b:Str}(h:ltS a b=true):leS a b=true:=by
 have h1:a.cps.toList<b.cps.toList:=of_decide_eq_true h
 exact leS_iff.mpr (List.le_of_lt h1)
theorem rR (a:Str):ltS a a=false:=by
 unfold ltS;exact decide_eq_false (List.lt_irrefl _)
theorem uX {a b c:Str}(h:ltS a b=true)(g:ltS b c=true):ltS a c=true:=by
 unfold ltS at *
 exact decide_eq_true (List.lt_trans (of_decide_eq_true h) (of_decide_eq_true g))
theorem jg {a b:Str}(h:leS a b=true)(n:a≠b):ltS a b=true:=by
 cases q:ltS a b with
 |true=>rfl
 |false=>exact absurd (qj h (by unfold leS;rw[q];rfl)) n
noncomputable def adj:List Str->Bool
 |a::b::r=>ltS a b&&adj (b::r)
 |_=>true
theorem fx:∀ {l:List Str},adj l=true->l.Pairwise λa b=>ltS a b=true
 |[],_ => .nil
 |[a],_=>by simp
 |a::b::r,h=>by
  rw[adj,Bool.and_eq_true] at h
  have ih:=fx h.2
  refine .cons (λc hc=>?_) ih
  rcases List.mem_cons.mp hc with rfl |hc
  ·exact h.1
  ·exact uX h.1 ((List.pairwise_cons.mp ih).1 c hc)
theorem fg:∀ {l:List Str},(l.Pairwise λa b=>ltS a b=true)->adj l=true
 |[],_=>rfl
 |[a],_=>rfl
 |a::b::r,h=>by
  obtain⟨h1,h2⟩:=List.pairwise_cons.mp h
  rw[adj,Bool.and_eq_true]
  exact⟨h1 b (List.mem_cons_self ..),fg h2⟩
theorem rm (l:List Str):l=eM (l.foldl bQ [])↔adj l=true:=by
 constructor
 ·intro h
  have pm:(eM (l.foldl bQ [])).Perm (l.foldl bQ []):=List.mergeSort_perm _ _
  have nd:(eM (l.foldl bQ [])).Nodup:=(pm.nodup_iff).mpr (lU l [] List.nodup_nil)
  have pw:(eM (l.foldl bQ [])).Pairwise λa b=>leS a b=true:=List.pairwise_mergeSort jK jL _
  rw[← h] at nd pw
  refine fg ?_
  have both:=pw.and nd
  exact both.imp λq=>jg q.1 q.2
 ·intro h
  have pw:=fx h
  have nd:l.Nodup:=pw.imp λ{a b} q=>by rintro rfl;rw[rR] at q;cases q
  rw[nE l [] (by simpa using nd),List.nil_append]
  exact i8 (.refl _) (pw.imp λq=>yY q)
theorem zw:∀ (l:List Str),adj l=true↔∀ (i:Nat) a b,l[i]?=some a->l[i+1]?=some b->ltS a b=true
 |[]=>by simp[adj]
 |[a]=>by simp[adj]
 |a::b::r=>by
  rw[adj,Bool.and_eq_true,zw (b::r)]
  constructor
  ·rintro⟨h1,h2⟩ i x y hx hy
   cases i with
   |zero=>simp at hx hy;subst hx hy;exact h1
   |succ i=>exact h2 i x y (by simpa using hx) (by simpa using hy)
  ·intro h
   exact⟨h 0 a b rfl rfl,λi x y hx hy=>h (i+1) x y (by simpa using hx) (by simpa using hy)⟩
theorem yR {i j:Int}(h1 : -1000000000000<j)(h2:j<1000000000000):ke i j=true:=by
 unfold ke
 have e1:decide (-(2 ^ 64)<j)=true:=decide_eq_true (by omega)
 have e2:decide (j<2 ^ 64)=true:=decide_eq_true (by omega)
 rw[e1,e2];simp
theorem yS {i j:Int}(h1 : -1000000000000<i)(h2:i<1000000000000):ke i j=true:=by
 unfold ke
 have e1:decide (-(2 ^ 64)<i)=true:=decide_eq_true (by omega)
 have e2:decide (i<2 ^ 64)=true:=decide_eq_true (by omega)
 rw[e1,e2];simp
theorem p8 (i j:Int):bI (.int i) (.int j)=if ke i j=true then some (.int (i*j)) else none:=rfl
theorem lG (x:Str)(n:Int):bI (.str x) (.int n)=if -1000<=n/\n<1 then some (.str ⟨#[]⟩) else if 1<=n/\n<=1000/\x.length<=1000 then some (.str ⟨(List.replicate n.toNat x.cps.toList).flatten.toArray⟩) else none:=rfl
theorem wH (i j:Int):aU (.int i) (.int j)=if 0<j then some (.int (i % j)) else none:=rfl
theorem vc (i j:Int):bz (.int i) (.int j)=if 0<j/\j<1073741824 then some (.int (i / j)) else none:=rfl
theorem vv (x y:Str):aL (.str x) (.str y)=if x.length+y.length<=sizeLine then some (.str (x++y)) else none:=rfl
theorem vz (x y:List D):aL (.lst x) (.lst y)=if x.length+y.length<=sizeLine then some (.lst (x++y)) else none:=rfl
theorem uD (j:Int):fW [.int j]=if -(2 ^ 62)<=j/\j<=16777216 then some ((List.range j.toNat).map λ(k:Nat)=>D.int k) else none:=rfl
theorem wF {i j:Int}(h1 : -1000000000000<j)(h2:j<1000000000000):bI (.int i) (.int j)=some (.int (i*j)):=by
 rw[p8,if_pos (yR h1 h2)]
theorem d_ {i j:Int}(h1 : -1000000000000<i)(h2:i<1000000000000):bI (.int i) (.int j)=some (.int (i*j)):=by
 rw[p8,if_pos (yS h1 h2)]
@[simp] theorem dM (i j:Int):aL (.int i) (.int j)=some (.int (i+j)):=rfl
@[simp] theorem pK (i j:Int):ij (.int i) (.int j)=some (.int (i-j)):=rfl
theorem aK {i j:Int}(h : 0<j):aU (.int i) (.int j)=some (.int (i % j)):=by rw[wH,if_pos h]
theorem cb {i j:Int}(h : 0<j)(h2:j<1073741824):bz (.int i) (.int j)=some (.int (i / j)):=by rw[vc,if_pos ⟨h,h2⟩]
end L2
namespace K05
open PySem L2 PyProof.Rows
theorem sh (ns:List Int)(k:Nat)(S:Sto):gF [.lst (ns.map .int),.int k] S=okO (.int (ns.getD k 0)) S:=by
 refine aE rfl ?_
 unfold kj
 by_cases h:k<ns.length
 ·have h1:((k:Int)<ns.length):=by omega
  have h2:ns[k]?=some ns[k]:=List.getElem?_eq_getElem h
  have e:atI (ns.map D.int) (k:Int)=some (.int ns[k]):=cm (by rw[List.getElem?_map,h2];rfl)
  simp[cX,ltD,h,ixO,bN,ixD,e,List.getD,h2]
 ·have h2:ns[k]?=none:=List.getElem?_eq_none (by omega)
  simp[cX,ltD,h,List.getD,h2]
noncomputable def mix (ns:List Int)(k:Nat):Int:=
 let d:=(ns.getD k 0+7919*(k:Int)+1)*48271 % 2147483647
 (d*d+7*d+(k:Int)) % 2147483629
theorem lH (ns:List Int)(k:Nat) : 0<=mix ns k:=Int.emod_nonneg _ (by decide)
theorem ge (ns:List Int)(k:Nat)(S:Sto):br [.lst (ns.map .int),.int k] S=okO (.int (mix ns k)) S:=by
 refine aE rfl ?_
 unfold nI
 have e0:=sh ns k
 have e1:∀ x:Int,bI (.int 7919) (.int x)=some (.int (7919*x)):=λx=>d_ (by decide) (by decide)
 have e2:∀ x:Int,bI (.int x) (.int 48271)=some (.int (x*48271)):=λx=>wF (by decide) (by decide)
 have e3:∀ x:Int,aU (.int x) (.int 2147483647)=some (.int (x % 2147483647)):=λx=>aK (by decide)
 have e4:∀ x:Int,aU (.int x) (.int 2147483629)=some (.int (x % 2147483629)):=λx=>aK (by decide)
 have e5:∀ x:Int,bI (.int 7) (.int x)=some (.int (7*x)):=λx=>d_ (by decide) (by decide)
 have e6:∀ x:Int,bI (.int (x % 2147483647)) (.int (x % 2147483647))=some (.int (x % 2147483647*(x % 2147483647))):=λx=>by
  have h1:=Int.emod_nonneg x (show (2147483647:Int)≠0 by decide)
  have h2:=Int.emod_lt_of_pos x (show (0:Int)<2147483647 by decide)
  exact d_ (by omega) (by omega)
 simp[e0,e1,e2,e3,e4,e5,e6,mix]
noncomputable def drw (n k:Int):Int:=
 let d:=(n+104729*k+17)*69621 % 2147483647
 (d*d+3*d+k) % 2147483629
theorem iA (n k:Int) : 0<=drw n k:=Int.emod_nonneg _ (by decide)
theorem jk (n k:Int)(S:Sto):dC [.int n,.int k] S=okO (.int (drw n k)) S:=by
 refine aE rfl ?_
 unfold nK
 have e1:∀ x:Int,bI (.int 104729) (.int x)=some (.int (104729*x)):=λx=>d_ (by decide) (by decide)
 have e2:∀ x:Int,bI (.int x) (.int 69621)=some (.int (x*69621)):=λx=>wF (by decide) (by decide)
 have e3:∀ x:Int,aU (.int x) (.int 2147483647)=some (.int (x % 2147483647)):=λx=>aK (by decide)
 have e4:∀ x:Int,aU (.int x) (.int 2147483629)=some (.int (x % 2147483629)):=λx=>aK (by decide)
 have e5:∀ x:Int,bI (.int 3) (.int x)=some (.int (3*x)):=λx=>d_ (by decide) (by decide)
 have e6:∀ x:Int,bI (.int (x % 2147483647)) (.int (x % 2147483647))=some (.int (x % 2147483647*(x % 2147483647))):=λx=>by
  have h1:=Int.emod_nonneg x (show (2147483647:Int)≠0 by decide)
  have h2:=Int.emod_lt_of_pos x (show (0:Int)<2147483647 by decide)
  exact d_ (by omega) (by omega)
 simp[e1,e2,e3,e4,e5,e6,drw]
def Wd (n:Nat)(x:Str):Prop:=x.length<=n/\∀ c∈x.cps.toList,c<128
theorem aJ (x y:Str):(x++y).cps.toList=x.cps.toList++y.cps.toList:=by
 show (x.cps++y.cps).toList=_
 simp
theorem gZ (x y:Str):(x++y).length=x.length+y.length:=by
 show (x.cps++y.cps).size=_
 rw[Array.size_append];rfl
theorem Wd.app {n m:Nat}{x y:Str}(h:Wd n x)(g:Wd m y):Wd (n+m) (x++y):=by
 refine⟨by rw[gZ];exact Nat.add_le_add h.1 g.1,λc hc=>?_⟩
 rw[aJ] at hc
 rcases List.mem_append.mp hc with hc |hc
 ·exact h.2 c hc
 ·exact g.2 c hc
theorem CJ (i:Int)(h0 : 0<=i)(h1:i<26)(S:Sto):∃ x:Str,ixO (.str "abcdefghijklmnopqrstuvwxyz") (.int i) S=some (.str x)/\Wd 1 x:=by
 obtain⟨k,rfl⟩:∃ k:Nat,i=k:=⟨i.toNat,by omega⟩
 have hk:k<abc.cps.toList.length:=by
  have:abc.cps.toList.length=26:=by decide +kernel
  omega
 have e:atI abc.cps.toList (k:Int)=some abc.cps.toList[k]:=cm (List.getElem?_eq_getElem hk)
 refine⟨⟨#[abc.cps.toList[k]]⟩,?_,Nat.le_refl _,λc hc=>?_⟩
 ·unfold ixO;rw[if_neg (by simp[bN])];unfold ixD;simp only[e];rfl
 ·have hc':c=abc.cps.toList[k]:=by simpa using hc
  have q:=List.all_eq_true.mp mn abc.cps.toList[k] (List.getElem_mem hk)
  rw[hc']
  simp only[isLet,Bool.and_eq_true,decide_eq_true_eq] at q
  omega
theorem yn (j:Int)(h0 : 0<=j)(h1:j<=1000):fW [.int j]=some ((List.range j.toNat).map λ(k:Nat)=>D.int k):=by
 rw[uD,if_pos (by omega)]
theorem jE {n j:Nat}{d:D}(h:((List.range n).map λ(k:Nat)=>D.int k)[j]?=some d):d = .int j/\j<n:=by
 rw[List.getElem?_map] at h
 obtain⟨x,hx,rfl⟩:=Option.map_eq_some_iff.mp h
 obtain⟨h1,h2⟩:=List.getElem?_eq_some_iff.mp hx
 simp at h1 h2
 exact⟨by rw[← h2],h1⟩
theorem Bu (b:Bool):bI (.str "q") (.int (if b then 1 else 0))=some (.str (if b then "q" else ⟨#[]⟩)):=by
 cases b
 ·rw[lG,if_pos (by decide)];rfl
 ·rw[lG,if_neg (by decide),if_pos ⟨by decide,by decide,by decide⟩]
  rfl
noncomputable def isS (d:D)(s:Str):Bool:=match d with
 | .str y=>decide (y=s)
 |_=>false
theorem xa {d:D}(h:pl d=true)(s:Str):eqD d (.str s)=some (.bl (isS d s)):=by
 obtain⟨p,e⟩:=n_ h
 have e2:toPy (.str s)=some (.str s):=rfl
 unfold eqD
 rw[e,e2]
 have hd:min p.depth (PyData.str s).depth<=150:=Nat.le_trans (Nat.min_le_right _ _) (by simp[PyData.depth])
 simp only[hd,if_true]
 cases d with
 |str y=>rw[toPy] at e;cases e;simp[PyData.eqv,isS,xB]
 |tup ds=>rw[toPy] at e;obtain⟨ps,_,rfl⟩:=Option.map_eq_some_iff.mp e;simp[PyData.eqv,isS]
 |lst ds=>rw[toPy] at e;obtain⟨ps,_,rfl⟩:=Option.map_eq_some_iff.mp e;simp[PyData.eqv,isS]
 |set _=>simp[pl] at h
 |loc _=>simp[pl] at h
 |_=>rw[toPy] at e;cases e;simp[PyData.eqv,isS]
theorem pY {d:D}(h:pl d=true)(s:Str):neD d (.str s)=some (.bl (!isS d s)):=by
 obtain⟨p,e⟩:=n_ h
 have e2:toPy (.str s)=some (.str s):=rfl
 unfold neD
 rw[e,e2]
 have hd:min p.depth (PyData.str s).depth<=150:=Nat.le_trans (Nat.min_le_right _ _) (by simp[PyData.depth])
 simp only[hd,if_true]
 cases d with
 |str y=>rw[toPy] at e;cases e;simp[PyData.eqv,isS,xB]
 |tup ds=>rw[toPy] at e;obtain⟨ps,_,rfl⟩:=Option.map_eq_some_iff.mp e;simp[PyData.eqv,isS]
 |lst ds=>rw[toPy] at e;obtain⟨ps,_,rfl⟩:=Option.map_eq_some_iff.mp e;simp[PyData.eqv,isS]
 |set _=>simp[pl] at h
 |loc _=>simp[pl] at h
 |_=>rw[toPy] at e;cases e;simp[PyData.eqv,isS]
theorem at0 (xs:List D)(a:D)(S:Sto):ixO (.tup (a::xs)) (.int 0) S=some a:=by
 unfold ixO;rw[if_neg (by simp[bN])];exact cm (i:=0) rfl
theorem at1 (xs:List D)(a b:D)(S:Sto):ixO (.tup (a::b::xs)) (.int 1) S=some b:=by
 unfold ixO;rw[if_neg (by simp[bN])];exact cm (i:=1) rfl
theorem at2 (xs:List D)(a b c:D)(S:Sto):ixO (.tup (a::b::c::xs)) (.int 2) S=some c:=by
 unfold ixO;rw[if_neg (by simp[bN])];exact cm (i:=2) rfl
theorem at3 (xs:List D)(a b c d:D)(S:Sto):ixO (.tup (a::b::c::d::xs)) (.int 3) S=some d:=by
 unfold ixO;rw[if_neg (by simp[bN])];exact cm (i:=3) rfl
theorem gc (x:Int){n:Int}(h : 0<n) : 0<=x % n/\x % n<n:=⟨Int.emod_nonneg x (by omega),Int.emod_lt_of_pos x h⟩
def Wl (n:Nat)(x:Str):Prop:=1<=x.length/\x.length<=n/\lets x=true
theorem wO (x y:Str):lets (x++y)=(lets x&&lets y):=by
 unfold lets;rw[aJ,List.all_append]
theorem Wl.app {n m:Nat}{x y:Str}(h:Wl n x)(g:Wl m y):Wl (n+m) (x++y):=by
 obtain⟨a,b,c⟩:=h
 obtain⟨a',b',c'⟩:=g
 refine⟨by rw[gZ];omega,by rw[gZ];omega,by rw[wO,c,c'];rfl⟩
theorem tP (i:Int)(h0 : 0<=i)(h1:i<26)(S:Sto):∃ x:Str,ixO (.str "abcdefghijklmnopqrstuvwxyz") (.int i) S=some (.str x)/\Wl 1 x:=by
 obtain⟨k,rfl⟩:∃ k:Nat,i=k:=⟨i.toNat,by omega⟩
 have hk:k<abc.cps.toList.length:=by
  have:abc.cps.toList.length=26:=by decide +kernel
  omega
 have e:atI abc.cps.toList (k:Int)=some abc.cps.toList[k]:=cm (List.getElem?_eq_getElem hk)
 refine⟨⟨#[abc.cps.toList[k]]⟩,?_,Nat.le_refl _,Nat.le_refl _,?_⟩
 ·unfold ixO;rw[if_neg (by simp[bN])];unfold ixD;simp only[e];rfl
 ·have q:=List.all_eq_true.mp mn abc.cps.toList[k] (List.getElem_mem hk)
  show ([abc.cps.toList[k]]:List Nat).all isLet=true
  rw[List.all_cons,q];rfl
theorem xG {n m:Nat}{x y:Str}(h:Wl n x)(g:y.length<=m)(hn:n+m<=1000):aL (.str x) (.str y)=some (.str (x++y)):=by
 have h1:=h.2.1
 rw[vv,if_pos (Nat.le_trans (show x.length+y.length<=1000 by omega) (by decide))]
theorem A3 (n:Int)(l:D)(k dr:Int)(word:Str)(i:Nat)(S:Sto)(hw:Wl (i+1) word)(hi:i<=10)(h0 : 0<=dr):∃ w2:Str,Wl (i+2) w2 /\
  dZ [some (.int n),some (.str "abcdefghijklmnopqrstuvwxyz"),some l,some (.int k),some (.int dr),some (.str word),some (.int i)] S=okO (.next [some (.int n),some (.str "abcdefghijklmnopqrstuvwxyz"),some l,some (.int k),some (.int dr),some (.str w2),some (.int i)]) S:=by
 have e1:bI (.int 31) (.int i)=some (.int (31*i)):=d_ (by decide) (by decide)
 have e2:bz (.int dr) (.int (31*(i:Int)+29))=some (.int (dr / (31*(i:Int)+29))):=cb (by omega) (by omega)
 have e3:aU (.int (dr / (31*(i:Int)+29))) (.int 26)=some (.int (dr / (31*(i:Int)+29) % 26)):=aK (by decide)
 obtain⟨x,e4,wx⟩:=tP (dr / (31*(i:Int)+29) % 26) (Int.emod_nonneg _ (by decide)) (Int.emod_lt_of_pos _ (by decide)) S
 have e5:=xG hw wx.2.1 (by omega)
 refine⟨word++x,hw.app wx,?_⟩
 unfold dZ
 simp[e1,e2,e3,e4,e5]
theorem CM (x:Str)(S:Sto):inO false (.str x) (.tup [.str "names",.str "ask",.str "end"]) S=some (.bl (kept x)):=by
 have e:=in3 x "names" "ask" "end"
 unfold inO;rw[if_neg (by simp[bN]),if_neg (by decide)]
 rw[e]
 unfold kept;simp[eq_comm]
theorem BM {x:Str}(h:kept x=true):bx (x++("q":Str))=true:=by
 simp only[kept,Bool.or_eq_true,decide_eq_true_eq] at h
 rcases h with rfl |rfl |rfl<;>decide +kernel
theorem BI {x:Str}(h:Wl 8 x):bx (x++(if kept x then ("q":Str) else ⟨#[]⟩))=true:=by
 cases hk:kept x with
 |true=>exact BM hk
 |false =>
  have e:x++(⟨#[]⟩:Str)=x:=by
   show (⟨x.cps++#[]⟩:Str)=x
   simp
  simp only[Bool.false_eq_true,if_false,e]
  unfold bx
  rw[hk,decide_eq_true h.1,decide_eq_true h.2.1,h.2.2];rfl
def DictN (n:Nat)(kvs:List (D×D)):Prop:=kvs.length<=n/\∃ ss:List Str,kvs.map (·.1)=ss.map .str/\ss.Nodup/\∀ x∈ss,bx x=true
theorem uC (x y:Str):hZ (.str x) (.str y)=decide (x=y):=by
 simp[hZ,fH]
theorem DictN.put {n:Nat}{kvs:List (D×D)}{x:Str}{v:D}(h:DictN n kvs)(hx:bx x=true):DictN (n+1) (putD kvs (.str x) v):=by
 obtain⟨hl,ss,e,nd,k⟩:=h
 unfold putD
 split
 ·refine⟨by rw[List.length_map];omega,ss,?_,nd,k⟩
  rw[List.map_map,← e]
  refine List.map_congr_left λp _=>?_
  simp only[Function.comp]
  split<;>rfl
 ·rename_i hn
  refine⟨by rw[List.length_append,List.length_singleton];omega,ss++[x],by simp[e],?_,λy hy=>?_⟩
  ·refine List.nodup_append.mpr ⟨nd,by simp,λa ha b hb=>?_⟩
   rw[List.mem_singleton.mp hb]
   rintro rfl
   apply hn
   have hm:D.str a∈kvs.map (·.1):=by rw[e];exact List.mem_map_of_mem ha
   obtain⟨p,hp,q⟩:=List.mem_map.mp hm
   rw[List.any_eq_true]
   exact⟨p,hp,by rw[q,uC];simp⟩
  ·rcases List.mem_append.mp hy with hy |hy
   ·exact k y hy
   ·rw[List.mem_singleton.mp hy];exact hx
theorem A2 (n:Int)(k:Nat)(S:Sto)(kvs:List (D×D))(b c d:Option D)(hD:DictN k kvs)(hk:k<6):∃ b' c' d' kvs',DictN (k+1) kvs' /\
  dY [some (.int n),some (.str "abcdefghijklmnopqrstuvwxyz"),some (.loc S.length),some (.int k),b,c,d] (S++[.dict kvs])=okO (.next [some (.int n),some (.str "abcdefghijklmnopqrstuvwxyz"),some (.loc S.length),some (.int k),b',c',d']) (S++[.dict kvs']):=by
 have e0:=jk n k
 have p0:=iA n k
 have e1:aU (.int (drw n k)) (.int 26)=some (.int (drw n k % 26)):=aK (by decide)
 obtain⟨x,e2,wx⟩:=tP (drw n k % 26) (Int.emod_nonneg _ (by decide)) (Int.emod_lt_of_pos _ (by decide)) (S++[.dict kvs])
 have e3:bz (.int (drw n k)) (.int 26)=some (.int (drw n k / 26)):=cb (by decide) (by decide)
 have e4:aU (.int (drw n k / 26)) (.int 8)=some (.int (drw n k / 26 % 8)):=aK (by decide)
 have e5:aU (.int n) (.int 2)=some (.int (n % 2)):=aK (by decide)
 have b1:=Int.emod_nonneg (drw n k / 26) (show (8:Int)≠0 by decide)
 have b2:=Int.emod_lt_of_pos (drw n k / 26) (show (0:Int)<8 by decide)
 have b3:=Int.emod_nonneg n (show (2:Int)≠0 by decide)
 have b4:=Int.emod_lt_of_pos n (show (0:Int)<2 by decide)
 have e6:bI (.int (drw n k / 26 % 8)) (.int (n % 2))=some (.int (drw n k / 26 % 8*(n % 2))):=d_ (by omega) (by omega)
 have b5 : 0<=drw n k / 26 % 8*(n % 2)/\drw n k / 26 % 8*(n % 2)<=7:=by
  have:n % 2=0∨n % 2=1:=by omega
  rcases this with h |h<;>rw[h]<;>omega
 have e7:=yn (drw n k / 26 % 8*(n % 2)) b5.1 (by omega)
 generalize drw n k / 26 % 8*(n % 2)=m at e6 e7 b5
 obtain⟨ρ',S',e8,hI⟩:=gf (u:=bu 6) (body:=dZ) (λi ρ S1=>S1=S++[.dict kvs]/\i<=7/\∃ (w:Str) (z:Option D),Wl (i+1) w/\ρ=[some (.int n),some (.str "abcdefghijklmnopqrstuvwxyz"),some (.loc S.length),some (.int k),some (.int (drw n k)),some (.str w),z])
  ((List.range m.toNat).map λ(k:Nat)=>D.int k) 0 [some (.int n),some (.str "abcdefghijklmnopqrstuvwxyz"),some (.loc S.length),some (.int k),some (.int (drw n k)),some (.str x),d] (S++[.dict kvs]) ⟨rfl,by omega,x,d,wx,rfl⟩ (by
   rintro j dd ρ S1 hj ⟨rfl,hi,w,z,hw,rfl⟩
   obtain⟨rfl,hlt⟩:=jE hj
   simp only[Nat.zero_add] at hw hi ⊢
   obtain⟨w2,hw2,eq⟩:=A3 n (.loc S.length) k (drw n k) w j (S++[.dict kvs]) hw (by omega) p0
   exact⟨_,rfl,_,_,eq,rfl,by omega,w2,some (.int j),hw2,rfl⟩)
 simp only[Nat.zero_add,List.length_map,List.length_range] at hI
 obtain⟨rfl,hm7,w,z,hw,rfl⟩:=hI
 have hw8:Wl 8 w:=⟨hw.1,by have:=hw.2.1;omega,hw.2.2⟩
 have e9:=CM w (S++[.dict kvs])
 have nq:=BI hw8
 generalize kept w=bb at e9 nq
 have e10:=Bu bb
 have wq:(if bb then ("q":Str) else ⟨#[]⟩).length<=1:=by cases bb<;>decide
 have e11:=xG hw8 wq (by decide)
 have e12:(S++[MO.dict kvs])[S.length]?=some (.dict kvs):=by simp
 have e13:kvs.length<sizeLine:=Nat.lt_of_lt_of_le (show kvs.length<1000 by have:=hD.1;omega) (by decide)
 have e14:(S++[MO.dict kvs]).set S.length (.dict (putD kvs (.str (w++(if bb then ("q":Str) else ⟨#[]⟩))) (.bl true)))=S++[.dict (putD kvs (.str (w++(if bb then ("q":Str) else ⟨#[]⟩))) (.bl true))]:=by simp
 refine⟨some (.int (drw n k)),some (.str w),z,putD kvs (.str (w++(if bb then ("q":Str) else ⟨#[]⟩))) (.bl true),hD.put nq,?_⟩
 have e15:intD [.bl bb]=some (.int (if bb then 1 else 0)):=rfl
 unfold dY
 simp[e0,e1,e2,e3,e4,e5,e6,e7,e8,yu,e12,fH,e13,e14,e9,e15,e10,e11]
theorem ug (n:Int)(S:Sto):∃ (ss:List Str) (kvs:List (D×D)),j0 [.int n] S=okO (.tup (ss.map .str)) (S++[.dict kvs])/\ss.length<=6/\(∀ x∈ss,bx x=true)/\ss.Pairwise λa b=>ltS a b=true:=by
 obtain⟨ρ',S',e1,hI⟩:=gf (u:=bu 3) (body:=dY) (λi ρ S1=>i<=6/\∃ kvs b c d z,S1=S++[.dict kvs]/\DictN i kvs/\ρ=[some (.int n),some (.str "abcdefghijklmnopqrstuvwxyz"),some (.loc S.length),z,b,c,d])
  ((List.range 6).map λ(k:Nat)=>D.int k) 0 [some (.int n),some (.str "abcdefghijklmnopqrstuvwxyz"),some (.loc S.length),none,none,none,none] (S++[.dict []]) ⟨by omega,[],none,none,none,none,rfl,⟨Nat.le_refl _,[],rfl,List.nodup_nil,λx h=>by cases h⟩,rfl⟩ (by
   rintro j dd ρ S1 hj ⟨hi,kvs,b,c,d,z,rfl,hD,rfl⟩
   obtain⟨rfl,hlt⟩:=jE hj
   simp only[Nat.zero_add] at hD ⊢
   obtain⟨b',c',d',kvs',hD',eq⟩:=A2 n j S kvs b c d hD hlt
   exact⟨_,rfl,_,_,eq,by omega,kvs',b',c',d',some (.int j),rfl,hD',rfl⟩)
 simp only[Nat.zero_add,List.length_map,List.length_range] at hI
 obtain⟨_,kvs,b,c,d,z,rfl,⟨hl,ss,es,nd,hw⟩,rfl⟩:=hI
 have hl2:ss.length=kvs.length:=by
  have:=congrArg List.length es
  simpa using this.symm
 have e2:dR (kvs.map (·.1))=some ((eM ss).map .str):=by
  rw[es]
  unfold dR
  rw[if_pos (by rw[List.length_map];exact Nat.le_trans (show ss.length<=1000 by omega) (by decide)),cz]
 have pm:(eM ss).Perm ss:=List.mergeSort_perm _ _
 have nd2:(eM ss).Nodup:=(pm.nodup_iff).mpr nd
 have pw:(eM ss).Pairwise λa b=>leS a b=true:=List.pairwise_mergeSort jK jL _
 refine⟨eM ss,kvs,?_,by rw[pm.length_eq];omega,λx hx=>hw x (pm.mem_iff.mp hx),(pw.and nd2).imp λq=>jg q.1 q.2⟩
 have e3:fW [.int 6]=some ((List.range 6).map λ(k:Nat)=>D.int k):=yn 6 (by decide) (by decide)
 have e4:(S++[MO.dict kvs])[S.length]?=some (.dict kvs):=by simp
 refine aE rfl ?_
 unfold nG
 simp[e3,e1,lh,e4,e2,pI]
theorem nN:∀ (ds:List D) (i:Nat),(dH i ds).map (λd=>match d with | .tup [_,x]=>x |_ => .non)=ds
 |[],_=>rfl
 |d::ds,i=>by rw[dH,List.map_cons,nN ds]
theorem pZ (n:Int){ss:List Str}(h6:ss.length<=100)(S:Sto):∃ ss':List Str,j3 [.int n,.tup (ss.map .str)] S=okO (.tup (ss'.map .str)) S/\ss'.Sublist ss:=by
 have q:=jm (u:=uj 2 (eV (bu 0) (eV (bu 1) pG))) (gt:=fM) (fe:=gq) (λρ => ∃ y z,ρ=[y,z,some (.int n)]) (λd=>match d with | .tup [.int k,_]=>decide (n / (3*k+1) % 4=0) |_=>false)
  (λd=>match d with | .tup [_,x]=>x |_ => .non) S (dH 0 (ss.map .str)) (df 2 [0] [some (.int n),some (.tup (ss.map .str))]) ⟨none,none,rfl⟩ (by
   rintro d hm ρ ⟨y,z,rfl⟩
   obtain⟨j,hj⟩:=List.getElem?_of_mem hm
   rw[gU] at hj
   obtain⟨x,hx,rfl⟩:=Option.map_eq_some_iff.mp hj
   have hjl:j<ss.length:=by have:=(List.getElem?_eq_some_iff.mp hx).1;simpa using this
   have e1:bI (.int 3) (.int ((0+j:Nat):Int))=some (.int (3*((0+j:Nat):Int))):=d_ (by decide) (by decide)
   have e2:bz (.int n) (.int (3*((0+j:Nat):Int)+1))=some (.int (n / (3*((0+j:Nat):Int)+1))):=cb (by omega) (by omega)
   have e3:aU (.int (n / (3*((0+j:Nat):Int)+1))) (.int 4)=some (.int (n / (3*((0+j:Nat):Int)+1) % 4)):=aK (by decide)
   refine⟨[some (.int ((0+j:Nat):Int)),some x,some (.int n)],rfl,⟨_,_,rfl⟩,?_,λ_=>?_⟩
   ·unfold fM
    simp only[Nat.zero_add] at e1 e2 e3 ⊢
    simp[e1,e2,e3]
   ·unfold gq;simp)
 have hs:(((dH 0 (ss.map D.str)).filter (λd=>match d with | .tup [.int k,_]=>decide (n / (3*k+1) % 4=0) |_=>false)).map (λd=>match d with | .tup [_,x]=>x |_ => .non)).Sublist (ss.map D.str):=by
  have:=(List.filter_sublist (p:=(λd=>match d with | .tup [.int k,_]=>decide (n / (3*k+1) % 4=0) |_=>false)) (l:=dH 0 (ss.map D.str))).map (λd=>match d with | .tup [_,x]=>x |_ => .non)
  rw[nN] at this
  exact this
 obtain⟨ss',h1,e⟩:=List.sublist_map_iff.mp hs
 refine⟨ss',?_,h1⟩
 refine aE rfl ?_
 unfold nH
 rw[e] at q
 simp[nO,q,pI]
theorem vq {x:Str}(hx:lets x=true)(S:Sto)(ρ:Rho):di (bu 0) cq dc (x.cps.toList.map λc=>D.str ⟨#[c]⟩) (df 1 [] ρ) S=some ([],S):=by
 have q:=jm (u:=bu 0) (gt:=cq) (fe:=dc) (λρ => ∃ y,ρ=[y]) (λ_=>false) id S (x.cps.toList.map λc=>D.str ⟨#[c]⟩) (df 1 [] ρ) ⟨none,rfl⟩ (by
  rintro d hd ρ ⟨y,rfl⟩
  obtain⟨c,hc,rfl⟩:=List.mem_map.mp hd
  refine⟨_,rfl,⟨_,rfl⟩,?_,λh=>by cases h⟩
  have e:=w8 c
  rw[List.all_eq_true.mp hx c hc] at e
  simp only[Bool.not_true] at e
  simp[cq,bo,findD,ltD]
  show okO (decide (Txt.find abc _<0)) S=_
  rw[e])
 rw[q];simp
theorem sE {ss:List Str}(h1:∀ x∈ss,bx x=true)(h2:adj ss=true)(S:Sto){j:Nat}{x:Str}(hj:ss[j]?=some x):cu [some (.tup (ss.map .str)),some (.int j),some (.str x)] S=okO (.next [some (.tup (ss.map .str)),some (.int j),some (.str x)]) S:=by
 have hn:=h1 x (List.mem_of_getElem? hj)
 unfold bx at hn
 rw[Bool.and_eq_true,Bool.and_eq_true,Bool.and_eq_true] at hn
 obtain⟨hk,ha,hb,hc⟩:=hn
 have ek:(decide (("names":Str)=x) ||(decide (("ask":Str)=x) ||decide (("end":Str)=x)))=false:=by
  have:kept x=false:=by simpa using hk
  unfold kept at this
  rw[← this];simp[eq_comm]
 have ec:=vq hc S
 have en:neD (.lst []) (.lst [])=some (.bl false):=yP rfl
 have a1 : 0<x.length:=of_decide_eq_true ha
 have b1:(x.length:Int)<9:=by have:=of_decide_eq_true hb;omega
 have a2:(0:Int)<x.length:=by omega
 have hp:(j=0/\¬ (0:Int)<j)∨((0:Int)<j/\∃ y,atI (ss.map D.str) ((j:Int)-1)=some (.str y)/\ltS y x=true):=by
  rcases Nat.eq_zero_or_pos j with rfl |h
  ·exact .inl ⟨rfl,by omega⟩
  ·have hl:=(List.getElem?_eq_some_iff.mp hj).1
   have e1:ss[j-1]?=some ss[j-1]:=List.getElem?_eq_getElem (by omega)
   refine .inr ⟨by omega,ss[j-1],?_,?_⟩
   ·have:(ss.map D.str)[j-1]?=some (.str ss[j-1]):=by rw[List.getElem?_map,e1];rfl
    have:=cm this
    rw[show ((j-1:Nat):Int)=(j:Int)-1 by omega] at this
    exact this
   ·have:=List.pairwise_iff_getElem.mp (fx h2) (j-1) j (by omega) hl (by omega)
    rwa [(List.getElem?_eq_some_iff.mp hj).2] at this
 unfold cu
 rcases hp with ⟨rfl,h⟩ |⟨h,y,hy,hlt⟩
 ·simp[du,cY,dQ,ltD,cX,gtD,a1,a2,b1,inO,bN,in3,ek,fQ,ec,en]
 ·have h' : 0<j:=by omega
  simp[du,cY,dQ,ltD,cX,gtD,ij,ixO,ixD,a1,a2,b1,h,h',hy,hlt,inO,bN,in3,ek,fQ,ec,en]
theorem rN {ss:List Str}(h1:∀ x∈ss,bx x=true)(h2:adj ss=true)(S:Sto):eD [.tup (ss.map .str)] S=okO (.bl true) S:=by
 refine aE rfl ?_
 unfold ie
 obtain⟨ρ',S',el,rfl,a,b,rfl⟩:=gf (u:=uj 2 (eV (bu 1) (eV (bu 2) pG))) (body:=cu) (λ_ ρ S'=>S'=S/\∃ a b,ρ=[some (.tup (ss.map .str)),a,b]) (dH 0 (ss.map .str)) 0 [some (.tup (ss.map .str)),none,none] S ⟨rfl,none,none,rfl⟩ (by
  rintro j d ρ S' hj ⟨rfl,a,b,rfl⟩
  rw[gU,List.getElem?_map] at hj
  obtain⟨x,hx,rfl⟩:=Option.map_eq_some_iff.mp hj
  obtain⟨y,hy,rfl⟩:=Option.map_eq_some_iff.mp hx
  rw[Nat.zero_add]
  exact⟨[some (.tup (ss.map .str)),some (.int j),some (.str y)],rfl,_,S',sE h1 h2 S' hy,rfl,_,_,rfl⟩)
 simp[du,cY,dQ,nO,el,-List.map_map]
theorem uQ (i n:Int)(h0 : 0<=i)(h1:i<n)(S:Sto):iJ [.int i,.int (n-1)] S=okO (.bl true) S:=by
 refine aE rfl ?_
 unfold l0
 have e:i<=n-1:=by omega
 simp[du,cY,dQ,leD,h0,e]
end K05
namespace L2
open PySem PyProof.Rows
section
variable (f g:Rho->Sto->Out D) (ρ:Rho) (S:Sto)
@[simp] theorem Ds (c k:Str):vo c k f ρ S=ag (f ρ S) λd S1=>aG (mL c k d S1) S1:=rfl
@[simp] theorem CV (c k:Str):qJ c k f g ρ S=ag (g ρ S) λv S1=>ag (f ρ S1) λd S2=>fP c k d v ρ S2:=rfl
@[simp] theorem C7 (c k:Str):ua c k f g ρ S=ag (f ρ S) λd S1=>ag (aG (mL c k d S1) S1) λv S2=>ag (g ρ S2) λy S3=>sI c k d v y ρ S3:=rfl
@[simp] theorem C0 (c m:Str)(F:List D->Sto->Out D)(gs:Rho->Sto->Out (List D)):qK c m F f gs ρ S=ag (f ρ S) λd S1=>ag (aG (mK c m d S1) S1) λ_ S2=>ag (gs ρ S2) λds S3=>fD (F (d::ds) S3):=rfl
@[simp] theorem Cj (c m:Str)(F:List D->Sto->Out D)(gs:Rho->Sto->Out (List D)):jY c m F f gs ρ S=ag (f ρ S) λd S1=>ag (aG (mK c m d S1) S1) λ_ S2=>ag (gs ρ S2) λds S3=>F (d::ds) S3:=rfl
@[simp] theorem CZ:xu ρ S=okO (.loc S.length) (S++[.lst []]):=rfl
@[simp] theorem Dx:A1 f g ρ S=ag (f ρ S) λd S1=>ag (aG (jJ d S1) S1) λ_ S2=>ag (g ρ S2) λv S3=>sK d v S3:=rfl
@[simp] theorem BW:kO f ρ S=ag (f ρ S) λd S1=>aG ((jJ d S1).bind λxs=>if xs.length<=sizeLine then some (.tup xs) else none) S1:=rfl
@[simp] theorem C1:xy f ρ S=ag (f ρ S) λ_ S1=>okO (.next ρ) S1:=rfl
@[simp] theorem BX (c:Str)(q:Rho->Sto->Bool):gY c q ρ S=if q ρ S=true then some (.error c,S) else none:=rfl
@[simp] theorem Dz {α β:Type}(c:Str)(k : α->Sto->Out β):ag (some (.error c,S):Out α) k=some (.error c,S):=rfl
end
theorem dS {S:Sto}{l:Nat}{a b:MO}(h:S[l]?=some a):(S.set l b)[l]?=some b:=by
 have:l<S.length:=(List.getElem?_eq_some_iff.mp h).1
 simp[this]
theorem rq {S:Sto}{l k:Nat}{b:MO}(h:l≠k):(S.set l b)[k]?=S[k]?:=by
 simp[List.getElem?_set,h]
end L2
namespace K05
open PySem L2 PyProof.Rows
noncomputable abbrev WS (ws:List Str)(t:Nat):MO:=.ins "Words" [("parts",.lst (ws.map .str)),("taken",.int t)]
theorem bq1:(("taken":Str)=="parts")=false:=by decide +kernel
theorem bq2:(("take":Str)=="parts")=false:=by decide +kernel
theorem bq3:(("take":Str)=="taken")=false:=by decide +kernel
theorem bq4:(("are_left":Str)=="parts")=false:=by decide +kernel
theorem bq5:(("are_left":Str)=="taken")=false:=by decide +kernel
theorem bq6:¬ ("parts":Str)="taken":=by decide +kernel
section
variable {ws:List Str}{t L:Nat}{S:Sto}
theorem zd (h:S[L]?=some (WS ws t)):u7 "Words" (.loc L) S=some ([("parts",.lst (ws.map .str)),("taken",.int t)]:List (Str×D)):=by
 unfold u7;simp only[h,if_true]
theorem nL (h:S[L]?=some (WS ws t)):mL "Words" "parts" (.loc L) S=some (.lst (ws.map .str)):=by
 unfold mL;rw[zd h];simp[List.lookup]
theorem jS (h:S[L]?=some (WS ws t)):mL "Words" "taken" (.loc L) S=some (.int t):=by
 unfold mL;rw[zd h];simp[List.lookup,bq1]
theorem b0 (h:S[L]?=some (WS ws t)):mK "Words" "take" (.loc L) S=some .non:=by
 unfold mK;rw[zd h];simp[List.lookup,bq2,bq3]
theorem lV (h:S[L]?=some (WS ws t)):mK "Words" "are_left" (.loc L) S=some .non:=by
 unfold mK;rw[zd h];simp[List.lookup,bq4,bq5]
theorem vt (h:S[L]?=some (WS ws t))(ρ:Rho):sI "Words" "taken" (.loc L) (.int t) (.int 1) ρ S=okO (.next ρ) (S.set L (WS ws (t+1))):=by
 unfold sI fP
 simp only[h]
 rw[if_pos ⟨trivial,by simp⟩]
 simp[ka,bq6,WS]
theorem oJ (h:S[L]?=some (WS ws t)):cg [.loc L] S=okO (.bl (decide (t<ws.length))) S:=by
 refine aE rfl ?_
 unfold eQ
 simp[nL h,jS h,ltD,cX]
theorem iX (h:S[L]?=some (WS ws t)){w:Str}(hw:ws[t]?=some w):bL [.loc L] S=okO (.str w) (S.set L (WS ws (t+1))):=by
 have hlt:t<ws.length:=(List.getElem?_eq_some_iff.mp hw).1
 have e1:=oJ h
 rw[decide_eq_true hlt] at e1
 have h2:(S.set L (WS ws (t+1)))[L]?=some (WS ws (t+1)):=dS h
 have e5:atI (ws.map D.str) (t:Int)=some (.str w):=cm (by rw[List.getElem?_map,hw];rfl)
 refine eN rfl ?_
 unfold fm
 simp[lV h,e1,jS h,vt h,nL h2,jS h2,ij,ixO,bN,ixD,e5,-List.getElem?_set_self]
theorem iY (h:S[L]?=some (WS ws t))(ht:ws.length<=t):bL [.loc L] S=some (.error "NoText",S):=by
 have e1:=oJ h
 rw[decide_eq_false (by omega)] at e1
 have hz : 1<=sizeLine:=by decide
 refine bf rfl ?_
 unfold fm
 simp[lV h,e1,szO,hz]
end
noncomputable def bv:List Str->Option (List Str×List Str)
 |[]=>none
 |w::r=>if w="end" then some ([],r) else (bv r).map λp=>(w::p.1,p.2)
noncomputable def d6 (us:List Str):Option (D×List Str):=(bv us).bind λp=>if (p.1.all bx&&adj p.1)=true then some (.tup (p.1.map .str),p.2) else none
noncomputable def chars (m:Nat):List Str:=(List.range m).map λ(k:Nat)=>bw k
noncomputable def chr (m:Nat)(c:Str):Option Int:=if c∈chars m then some ((chars m).idxOf c:Nat) else none
noncomputable def aS (m:Nat):Nat->List Str->Option (D×List Str)
 |_,[]=>none
 | 0,w::us=>if w="names" then (d6 us).map λp=>(.tup [.str "names",p.1],p.2) else none
 |k+1,w::us=>if w="names" then (d6 us).map λp=>(.tup [.str "names",p.1],p.2) else
   if w="ask" then (match us with
    |[]=>none
    |c::us=>(chr m c).bind λi=>(aS m k us).bind λp=>(aS m k p.2).map λq=>(.tup [.str "ask",.int i,p.1,q.1],q.2)) else none
inductive KR (n:Int):Nat->D->List Str->Prop
 |leaf {k:Nat}{ss:List Str}:(∀ x∈ss,bx x=true)->adj ss=true->KR n k (.tup [.str "names",.tup (ss.map .str)]) (("names":Str)::(ss++[("end":Str)]))
 |ask {k:Nat}{i:Int}{x y:D}{wx wy:List Str} : 0<=i->i<n->KR n k x wx->KR n k y wy->KR n (k+1) (.tup [.str "ask",.int i,x,y]) (("ask":Str)::bw i::(wx++wy))
theorem ik:∀ {us:List Str}{ns r:List Str},bv us=some (ns,r)->us=ns++("end":Str)::r
 |[],_,_,h=>by cases h
 |w::us,ns,r,h=>by
  rw[bv] at h
  split at h
  ·rename_i hw;cases h;rw[hw];rfl
  ·obtain⟨p,e1,e2⟩:=Option.map_eq_some_iff.mp h
   cases e2
   rw[ik (us:=us) (ns:=p.1) (r:=p.2) e1];rfl
theorem lg:∀ (ss:List Str) (r:List Str),(∀ x∈ss,x≠"end")->bv (ss++("end":Str)::r)=some (ss,r)
 |[],r,_=>by rw[List.nil_append,bv,if_pos rfl]
 |s::ss,r,h=>by
  rw[List.cons_append,bv,if_neg (h s (List.mem_cons_self ..)),lg ss r λx hx=>h x (List.mem_cons_of_mem _ hx)];rfl
theorem yQ {x:Str}(h:bx x=true):x≠"end"/\x≠"names":=by
 unfold bx at h
 rw[Bool.and_eq_true] at h
 constructor<;>(rintro rfl;have:=h.1;revert this;decide +kernel)
theorem zf:∀ m:_root_.Fin 11,∀ i:_root_.Fin 10,i.val<m.val->(chars m.val).idxOf (bw (i.val:Int))=i.val/\bw (i.val:Int)∈chars m.val:=by decide +kernel
theorem AZ {m:Nat}(hm:m<=10){i:Int}(h0 : 0<=i)(h1:i<m):chr m (bw i)=some i:=by
 have q:=zf ⟨m,by omega⟩ ⟨i.toNat,by omega⟩ (by show i.toNat<m;omega)
 have e:(((⟨i.toNat,by omega⟩:_root_.Fin 10).val:Nat):Int)=i:=by show ((i.toNat:Nat):Int)=i;omega
 rw[e] at q
 unfold chr
 rw[if_pos q.2,q.1]
 exact congrArg some e
theorem A0 {m:Nat}{c:Str}{i:Int}(h:chr m c=some i) : 0<=i/\i<m/\c=bw i:=by
 unfold chr at h
 split at h
 ·rename_i hc
  cases h
  have hl:(chars m).idxOf c<(chars m).length:=List.idxOf_lt_length_iff.mpr hc
  have e:(chars m)[(chars m).idxOf c]?=some c:=by rw[List.getElem?_eq_getElem hl,List.getElem_idxOf hl]
  have hl':(chars m).idxOf c<m:=by simpa [chars] using hl
  refine⟨by omega,by omega,?_⟩
  generalize (chars m).idxOf c=j at e hl'
  unfold chars at e
  rw[List.getElem?_map,List.getElem?_range hl'] at e
  exact (Option.some.inj e).symm
 ·cases h
theorem sJ:¬ ("ask":Str)="names":=by decide +kernel
theorem oG {us:List Str}{d:D}{r:List Str}(h:d6 us=some (d,r)):∃ ss:List Str,d = .tup (ss.map .str)/\(∀ x∈ss,bx x=true)/\adj ss=true/\us=ss++("end":Str)::r:=by
 unfold d6 at h
 obtain⟨p,e1,e2⟩:=Option.bind_eq_some_iff.mp h
 split at e2
 ·rename_i hc
  cases e2
  rw[Bool.and_eq_true,List.all_eq_true] at hc
  exact⟨p.1,rfl,hc.1,hc.2,ik (ns:=p.1) (r:=p.2) e1⟩
 ·cases e2
theorem uM {ss:List Str}(h1:∀ x∈ss,bx x=true)(h2:adj ss=true)(r:List Str):d6 (ss++("end":Str)::r)=some (.tup (ss.map .str),r):=by
 unfold d6
 rw[lg ss r λx hx=>(yQ (h1 x hx)).1]
 simp only[Option.bind_some]
 rw[if_pos (by rw[h2,Bool.and_true,List.all_eq_true];exact h1)]
theorem ir {m k:Nat}{us:List Str}:aS m k (("names":Str)::us)=(d6 us).map λp=>(.tup [.str "names",p.1],p.2):=by
 cases k<;>(unfold aS;rw[if_pos rfl])
theorem gO {m k:Nat}{us:List Str}{c:Str}:aS m (k+1) (("ask":Str)::c::us)=(chr m c).bind λi=>(aS m k us).bind λp=>(aS m k p.2).map λq=>(.tup [.str "ask",.int i,p.1,q.1],q.2):=by
 rw[aS,if_neg sJ,if_pos rfl]
theorem cB {m:Nat}:∀ (k:Nat) {us:List Str}{d:D}{r:List Str},aS m k us=some (d,r)->∃ vs,KR m k d vs/\us=vs++r
 |k,[],d,r,h=>by unfold aS at h;cases h
 |k,w::us,d,r,h=>by
  by_cases hw:w="names"
  ·subst hw
   rw[ir] at h
   obtain⟨p,e1,e2⟩:=Option.map_eq_some_iff.mp h
   cases e2
   obtain⟨ss,e3,h1,h2,rfl⟩:=oG (d:=p.1) (r:=p.2) e1
   rw[e3]
   exact⟨_,.leaf h1 h2,by simp⟩
  ·cases k with
   |zero=>rw[aS,if_neg hw] at h;cases h
   |succ k =>
    by_cases ha:w="ask"
    ·subst ha
     cases us with
     |nil=>simp[aS,hw] at h
     |cons c us =>
      rw[gO] at h
      obtain⟨i,e1,h⟩:=Option.bind_eq_some_iff.mp h
      obtain⟨p,e2,h⟩:=Option.bind_eq_some_iff.mp h
      obtain⟨q,e3,h⟩:=Option.map_eq_some_iff.mp h
      cases h
      obtain⟨i0,i1,rfl⟩:=A0 e1
      obtain⟨vx,kx,rfl⟩:=cB k (d:=p.1) (r:=p.2) e2
      obtain⟨vy,ky,ey⟩:=cB k (d:=q.1) (r:=q.2) e3
      exact⟨_,.ask i0 i1 kx ky,by rw[ey];simp⟩
    ·simp[aS,hw,ha] at h
theorem wu {m:Nat}(hm:m<=10){k:Nat}{d:D}{vs:List Str}(h:KR m k d vs):∀ r,aS m k (vs++r)=some (d,r):=by
 induction h with
 | @leaf k ss h1 h2 =>
  intro r
  rw[List.cons_append,List.append_assoc,List.singleton_append,ir,uM h1 h2];rfl
 | @ask k i x y wx wy h0 h1 _ _ ix iy =>
  intro r
  rw[List.cons_append,List.cons_append,List.append_assoc,gO,AZ hm h0 h1,Option.bind_some,ix,Option.bind_some]
  simp only[iy]
  rfl
theorem g6 (a b c:Str):a++b++c=a++(b++c):=by
 refine dm ?_
 rw[aJ,aJ,aJ,aJ,List.append_assoc]
theorem pf (a:Str):a++Str.empty=a:=by
 refine dm ?_
 rw[aJ]
 show _++[]=_
 rw[List.append_nil]
theorem nF (g x y:Array Nat):∀ r:List Str,r.foldl (λacc p=>acc++g++p.cps) (x++y)=x++r.foldl (λacc p=>acc++g++p.cps) y
 |[]=>rfl
 |p::r=>by
  rw[List.foldl_cons,List.foldl_cons,← nF g x (y++g++p.cps) r]
  rw[Array.append_assoc,Array.append_assoc,Array.append_assoc]
theorem join_one (sep a:Str):Txt.join sep [a]=a:=rfl
theorem join_cons (sep a b:Str)(r:List Str):Txt.join sep (a::b::r)=a++sep++Txt.join sep (b::r):=by
 refine dm (congrArg Array.toList ?_)
 show r.foldl (λacc p=>acc++sep.cps++p.cps) (a.cps++sep.cps++b.cps)=(a.cps++sep.cps)++r.foldl (λacc p=>acc++sep.cps++p.cps) b.cps
 exact nF sep.cps _ _ r
theorem gj (sep:Str):∀ (xs ys:List Str),xs≠[]->ys≠[]->Txt.join sep (xs++ys)=Txt.join sep xs++sep++Txt.join sep ys
 |[],_,h,_=>absurd rfl h
 |[a],[],_,h=>absurd rfl h
 |[a],b::r,_,_=>by rw[List.singleton_append,join_cons,join_one]
 |a::b::r,ys,_,h=>by
  rw[List.cons_append,List.cons_append,join_cons,join_cons,← List.cons_append,gj sep (b::r) ys (by simp) h]
  simp only[g6]
theorem kC (a:Str)(r:List Str):Txt.join ("":Str) (a::r)=a++Txt.join ("":Str) r:=by
 cases r with
 |nil=>exact (pf a).symm
 |cons b r =>
  rw[join_cons]
  have:a++("":Str)=a:=pf a
  rw[this]
theorem lR:∀ (h:Str) (ss:List Str),Txt.join (" ":Str) (h::(ss++[("end":Str)]))=h++(" ":Str)++Txt.join ("":Str) (ss.map λs=>s++(" ":Str))++("end":Str)
 |h,[]=>by
  rw[List.nil_append,join_cons,join_one]
  have:Txt.join ("":Str) (([]:List Str).map λs=>s++(" ":Str))=Str.empty:=rfl
  rw[this,pf]
 |h,s::ss=>by
  rw[List.cons_append,join_cons,lR s ss,List.map_cons,kC]
  simp only[g6]
theorem eP (sep:Str):∀ ws:List Str,(Txt.join sep ws).length<=(ws.map (·.length)).sum+ws.length*sep.length
 |[]=>by show 0<=_;omega
 |[a]=>by rw[join_one];simp
 |a::b::r=>by
  have ih:=eP sep (b::r)
  rw[join_cons,strLen_append,strLen_append]
  simp only[List.map_cons,List.sum_cons,List.length_cons] at ih ⊢
  have e1:(r.length+1+1)*sep.length=(r.length+1)*sep.length+sep.length:=by rw[Nat.add_mul];omega
  omega
theorem gl (sep:Str)(P:Nat->Prop)(hs:∀ c∈sep.cps.toList,P c):∀ ws:List Str,(∀ w∈ws,∀ c∈w.cps.toList,P c)->∀ c∈(Txt.join sep ws).cps.toList,P c
 |[],_=>λc hc=>by cases hc
 |[a],h=>by rw[join_one];exact h a (by simp)
 |a::b::r,h=>λc hc=>by
  rw[join_cons,aJ,aJ] at hc
  rcases List.mem_append.mp hc with hc |hc
  ·rcases List.mem_append.mp hc with hc |hc
   ·exact h a (by simp) c hc
   ·exact hs c hc
  ·exact gl sep P hs (b::r) (λw hw=>h w (List.mem_cons_of_mem _ hw)) c hc
theorem ri (n:Nat):∀ ws:List Str,(∀ w∈ws,Wd n w)->(ws.map (·.length)).sum<=n*ws.length
 |[],_=>by simp
 |a::r,h=>by
  have ih:=ri n r λw hw=>h w (List.mem_cons_of_mem _ hw)
  have:=(h a (by simp)).1
  simp only[List.map_cons,List.sum_cons,List.length_cons]
  rw[Nat.mul_add]
  omega
theorem tK {x:Str}(hl:x.length<=16777216)(h:∀ c∈x.cps.toList,c<128):okB x=true:=by
 unfold okB
 rw[Bool.and_eq_true]
 refine⟨decide_eq_true hl,?_⟩
 unfold PyData.strOk
 rw[← Array.all_toList,List.all_eq_true]
 intro c hc
 have:=h c hc
 simp
 omega
structure WOk (ws:List Str):Prop where
 few:ws.length<=2900
 sum:(ws.map (·.length)).sum<=600000
 asc:∀ w∈ws,∀ c∈w.cps.toList,c<128
theorem sV {a b:List Nat}(h:a.Sublist b):a.sum<=b.sum:=by
 induction h with
 |slnil=>exact Nat.le_refl _
 |cons _ _ ih=>rw[List.sum_cons];omega
 |cons_cons _ _ ih=>rw[List.sum_cons,List.sum_cons];omega
theorem WOk.sub {a b:List Str}(h:WOk b)(s:a.Sublist b):WOk a:=
 ⟨Nat.le_trans s.length_le h.few,Nat.le_trans (sV (s.map _)) h.sum,λw hw=>h.asc w (s.subset hw)⟩
theorem WOk.one {b:List Str}(h:WOk b){w:Str}(hw:w∈b):w.length<=600000/\∀ c∈w.cps.toList,c<128:=by
 have:=(h.sub (List.singleton_sublist.mpr hw)).sum
 exact⟨by simpa using this,h.asc w hw⟩
theorem oA {w:Str}(h:∀ c∈w.cps.toList,c<128):(reprText w).length<=10*w.length+2:=StrLaws.reprText_len w λc hc=>Nat.lt_trans (h c hc) (by decide)
theorem nj:∀ (ns:List Str),(∀ w∈ns,∀ c∈w.cps.toList,c<128)->((ns.map reprText).map (·.length)).sum<=10*(ns.map (·.length)).sum+2*ns.length
 |[],_=>by simp
 |w::r,h=>by
  have ih:=nj r λx hx=>h x (List.mem_cons_of_mem _ hx)
  have:=oA (h w (List.mem_cons_self ..))
  simp only[List.map_cons,List.sum_cons,List.length_cons]
  omega
theorem jO (z:Str):∀ l:List Str,Txt.join z l=Str.join z l
 |[]=>rfl
 |[a]=>rfl
 |a::b::r=>by rw[join_cons,jO z (b::r)];rfl
theorem shown_le {ns:List Str}(h:WOk ns):((PyData.list (ns.map .str)).shown).length<=6100000:=by
 rw[PyData.shown_list,PyData.shownAll_strs]
 have e1:=nj ns h.asc
 have e2:(Str.join ", " (ns.map reprText)).length<=((ns.map reprText).map (·.length)).sum+(ns.map reprText).length*2:=by
  have:=eP (", ":Str) (ns.map reprText)
  rw[show (", ":Str).length=2 by decide +kernel] at this
  rw[jO] at this
  exact this
 have l1:("[":Str).length=1:=by decide +kernel
 have l2:("]":Str).length=1:=by decide +kernel
 have f:=h.few
 have s:=h.sum
 rw[strLen_append,strLen_append,l1,l2]
 rw[List.length_map] at e2
 omega
theorem rG {c:Str}{i:Nat}{ρ:Rho}{S:Sto}{d:D}{y:Str}(hc:c.length<=1000)(hr : ρ[i]?=some (some d))(hs:oo d S=some y)(hy:y.length<=6100000):mG c (h8 i oF) 0 ρ S=true:=by
 have hz:sizeLine=16777216:=rfl
 unfold mG h8 oF
 rw[hr]
 simp only[hs]
 rw[decide_eq_true (by omega),decide_eq_true (by omega),decide_eq_true (by omega)];rfl
section
variable {ws:List Str}{L N:Nat}
theorem drop_cons {t:Nat}{w:Str}{us:List Str}(h:ws.drop t=w::us):ws[t]?=some w/\ws.drop (t+1)=us:=by
 constructor
 ·have:=congrArg (λl=>l[0]?) h
  simpa [List.getElem?_drop] using this
 ·rw[← List.drop_drop,h];rfl
theorem lF (hne:L≠N):∀ (us:List Str) (fuel:Nat) (w:Str) (acc:List Str) (t:Nat) (S:Sto),ws.drop t=us->t+us.length=ws.length->us.length<fuel->S[L]?=some (WS ws t)->S[N]?=some (.lst (acc.map .str))->acc.length+us.length<=10000 ->
  match bv (w::us) with
  |none => ∃ S',cv aY aQ fuel [some (.loc L),some (.loc N),some (.str w)] S=some (.error "NoText",S')
  |some (ns,r) => ∃ S',cv aY aQ fuel [some (.loc L),some (.loc N),some (.str w)] S=okO (.next [some (.loc L),some (.loc N),some (.str "end")]) S'/\S'[L]?=some (WS ws (ws.length-r.length))/\S'[N]?=some (.lst ((acc++ns).map .str))
 |us,0,w,acc,t,S,_,_,hf,_,_,_=>absurd hf (by omega)
 |us,fuel+1,w,acc,t,S,hd,ht,hf,hL,hN,hb=>by
  have ee:aY [some (.loc L),some (.loc N),some (.str w)] S=okO (!decide (w="end")) S:=by
   unfold aY
   have:=pY (d:=.str w) rfl "end"
   simp[this,isS]
  by_cases hw:w="end"
  ·have e1:bv (w::us)=some ([],us):=by rw[bv,if_pos hw]
   rw[e1]
   refine⟨S,?_,?_,by rw[List.append_nil];exact hN⟩
   ·rw[cv,ee,decide_eq_true hw,hw];rfl
   ·rw[show ws.length-us.length=t by omega];exact hL
  ·have hz:acc.length<sizeLine:=Nat.lt_of_lt_of_le (show acc.length<20000 by omega) (by decide)
   have e2:jJ (.loc N) S=some (acc.map .str):=by unfold jJ;simp only[hN]
   have e3:sK (.loc N) (.str w) S=okO .non (S.set N (.lst ((acc++[w]).map .str))):=by
    unfold sK;simp only[hN]
    rw[if_pos (by rw[List.length_map];exact hz)]
    simp
   have h2:(S.set N (.lst ((acc++[w]).map .str)))[L]?=some (WS ws t):=by rw[rq hne.symm];exact hL
   have h3:(S.set N (.lst ((acc++[w]).map .str)))[N]?=some (.lst ((acc++[w]).map .str)):=dS hN
   generalize hS1:S.set N (.lst ((acc++[w]).map .str))=S1 at *
   have hgo:cv aY aQ (fuel+1) [some (.loc L),some (.loc N),some (.str w)] S=ag (aQ [some (.loc L),some (.loc N),some (.str w)] S) λf S2=>(match f with
     | .next ρ'=>cv aY aQ fuel ρ' S2
     | .cont ρ'=>cv aY aQ fuel ρ' S2
     | .brk ρ'=>okO (.next ρ') S2
     | .ret d=>okO (.ret d) S2):=by
    rw[cv,ee,decide_eq_false hw];rfl
   rw[hgo]
   cases us with
   |nil =>
    have e1:bv [w]=none:=by rw[bv,if_neg hw];rfl
    rw[e1]
    have e4:=iY h2 (by simp at ht;omega)
    refine⟨S1,?_⟩
    unfold aQ
    simp[e2,e3,b0 h2,e4]
   |cons w2 us =>
    obtain⟨g1,g2⟩:=drop_cons hd
    have e4:=iX h2 g1
    have h4:(S1.set L (WS ws (t+1)))[L]?=some (WS ws (t+1)):=dS h2
    have h5:(S1.set L (WS ws (t+1)))[N]?=some (.lst ((acc++[w]).map .str)):=by rw[rq hne];exact h3
    have ih:=lF hne us fuel w2 (acc++[w]) (t+1) (S1.set L (WS ws (t+1))) g2 (by simp at ht ⊢;omega) (by simp at hf;omega) h4 h5 (by simp at hb ⊢;omega)
    have eb:aQ [some (.loc L),some (.loc N),some (.str w)] S=okO (.next [some (.loc L),some (.loc N),some (.str w2)]) (S1.set L (WS ws (t+1))):=by
     unfold aQ
     simp[e2,e3,b0 h2,e4]
    rw[eb]
    have e1:bv (w::w2::us)=(bv (w2::us)).map λp=>(w::p.1,p.2):=by rw[bv,if_neg hw]
    rw[e1]
    cases hs:bv (w2::us) with
    |none =>
     rw[hs] at ih
     exact ih
    |some p =>
     obtain⟨ns,r⟩:=p
     rw[hs] at ih
     obtain⟨S',i1,i2,i3⟩:=ih
     exact⟨S',i1,i2,by rw[i3,List.append_assoc];rfl⟩
theorem p7 (ss:List Str):jI (.tup (ss.map .str))=(ss.all bx&&adj ss):=by
 unfold jI
 dsimp only
 rw[cz,List.all_map]
 have e1:(fF ∘ D.str)=bx:=rfl
 rw[e1]
 congr 1
 rw[Bool.eq_iff_iff,decide_eq_true_eq]
 exact rm ss
theorem we (ss:List Str):pls (ss.map .str)=true:=pls_iff.mpr λd hd=>by obtain⟨x,_,rfl⟩:=List.mem_map.mp hd;rfl
theorem mF (hk:WOk ws){us:List Str}{t:Nat}{S:Sto}(hd:ws.drop t=us)(ht:t+us.length=ws.length)(hL:S[L]?=some (WS ws t)) :
  match d6 us with
  |none => ∃ S',dA [.loc L] S=some (.error "NoText",S')
  |some (d,r) => ∃ S',dA [.loc L] S=okO d S'/\S'[L]?=some (WS ws (ws.length-r.length)):=by
 have hlt:L<S.length:=(List.getElem?_eq_some_iff.mp hL).1
 have h1:(S++[MO.lst []])[L]?=some (WS ws t):=by rw[List.getElem?_append_left hlt];exact hL
 have h2:(S++[MO.lst []])[S.length]?=some (.lst []):=by simp
 have few:=hk.few
 cases us with
 |nil =>
  have e4:=iY h1 (by simp at ht;omega)
  show ∃ S',_
  refine⟨_,bf (S':=S++[MO.lst []]) rfl ?_⟩
  unfold cL
  simp[b0 h1,e4]
 |cons w us =>
  obtain⟨g1,g2⟩:=drop_cons hd
  have e4:=iX h1 g1
  have h4:((S++[MO.lst []]).set L (WS ws (t+1)))[L]?=some (WS ws (t+1)):=dS h1
  have h5:((S++[MO.lst []]).set L (WS ws (t+1)))[S.length]?=some (.lst (([]:List Str).map .str)):=by rw[rq (by omega)];exact h2
  generalize hS1:(S++[MO.lst []]).set L (WS ws (t+1))=S1 at *
  have lp:=lF (L:=L) (N:=S.length) (by omega) us 3000 w [] (t+1) S1 g2 (by simp at ht ⊢;omega) (by simp at ht;omega) h4 h5 (by simp at ht ⊢;omega)
  unfold d6
  cases hs:bv (w::us) with
  |none =>
   rw[hs] at lp
   obtain⟨S',lp⟩:=lp
   refine⟨S',bf rfl ?_⟩
   unfold cL
   simp[b0 h1,e4,hS1,jW,lp]
  |some p =>
   obtain⟨ns,r⟩:=p
   rw[hs] at lp
   obtain⟨S',lp,i2,i3⟩:=lp
   rw[List.nil_append] at i3
   have es:=ik hs
   have sub:ns.Sublist ws:=by
    have a1:ns.Sublist (w::us):=by rw[es];exact List.sublist_append_left _ _
    rw[← hd] at a1
    exact a1.trans (List.drop_sublist _ _)
   have nk:=hk.sub sub
   have nf:=nk.few
   have ei:=qr (d:=.tup (ns.map .str)) (by rw[pl];exact we ns) (λds e=>by cases e;rw[List.length_map];omega) S'
   rw[p7] at ei
   have el:jJ (.loc S.length) S'=some (ns.map .str):=by unfold jJ;simp only[i3]
   have hz:(ns.map D.str).length<=sizeLine:=by rw[List.length_map];exact Nat.le_trans (show ns.length<=5000 by omega) (by decide)
   have hz':ns.length<=sizeLine:=by rw[List.length_map] at hz;exact hz
   simp only[Option.bind_some]
   cases hb:ns.all bx&&adj ns with
   |true =>
    rw[hb] at ei
    rw[if_pos rfl]
    refine⟨S',eN rfl ?_,i2⟩
    unfold cL
    simp[b0 h1,e4,hS1,jW,lp,el,hz,hz',ei]
   |false =>
    rw[hb] at ei
    rw[if_neg (by decide)]
    have eq:mG "these are no names: " (h8 1 oF) 0 [some (.loc L),some (.loc S.length),some (.str "end")] S'=true:=
     rG (d:=.loc S.length) (y:=(PyData.list (ns.map .str)).shown) (by decide +kernel) rfl (by unfold oo;simp only[i3,cz];rfl) (shown_le nk)
    refine⟨S',bf rfl ?_⟩
    unfold cL
    simp[b0 h1,e4,hS1,jW,lp,el,hz,hz',ei,eq]
theorem qy (x:Str):∀ l:List Str,((l.map PyData.str).any λq=>PyData.eqv q (.str x))=decide (x∈l)
 |[]=>by simp
 |a::l=>by
  rw[List.map_cons,List.any_cons,qy x l]
  by_cases h:a=x
  ·simp[PyData.eqv,h]
  ·have h':¬ x=a:=λe=>h e.symm
   simp[PyData.eqv,h,h']
theorem lC (x:Str)(l:List Str)(S:Sto):inO true (.str x) (.lst (l.map .str)) S=some (.bl (!decide (x∈l))):=by
 unfold inO
 rw[if_neg (by simp[bN]),if_pos rfl]
 unfold oH u9
 simp only[toPy,yb,Option.bind_some,eX]
 rw[if_pos (by simp[PyData.depth]),qy];rfl
theorem Ac (m:Nat){t:Nat}{S:Sto}(ht:ws.length<=t)(hL:S[L]?=some (WS ws t)):bD [.loc L,.lst ((chars m).map .str)] S=some (.error "NoText",S):=by
 have e4:=iY hL ht
 refine bf rfl ?_
 unfold b_
 simp[b0 hL,e4]
theorem yq (hk:WOk ws)(m:Nat){c:Str}{t:Nat}{S:Sto}(g1:ws[t]?=some c)(hL:S[L]?=some (WS ws t))(hc:chr m c=none):bD [.loc L,.lst ((chars m).map .str)] S=some (.error "NoText",S.set L (WS ws (t+1))):=by
 have hc:¬ c∈chars m:=λh=>by unfold chr at hc;rw[if_pos h] at hc;cases hc
 have e4:=iX hL g1
 have wc:=hk.one (List.mem_of_getElem? g1)
 have e5:=lC c (chars m) (S.set L (WS ws (t+1)))
 rw[decide_eq_false hc] at e5
 have eq:mG "no character is written " (h8 2 oF) 0 [some (.loc L),some (.lst ((chars m).map .str)),some (.str c)] (S.set L (WS ws (t+1)))=true:=
  rG (d:=.str c) (y:=reprText c) (by decide +kernel) rfl rfl (by have:=oA wc.2;omega)
 refine bf rfl ?_
 unfold b_
 simp[b0 hL,e4,e5,eq,-List.map_map]
theorem yp (m:Nat)(hm:m<=10){c:Str}{i:Int}{t:Nat}{S:Sto}(g1:ws[t]?=some c)(hL:S[L]?=some (WS ws t))(hc:chr m c=some i):bD [.loc L,.lst ((chars m).map .str)] S=okO (.int i) (S.set L (WS ws (t+1))):=by
 unfold chr at hc
 split at hc
 ·rename_i hi
  cases hc
  have e4:=iX hL g1
  have e5:=lC c (chars m) (S.set L (WS ws (t+1)))
  rw[decide_eq_true hi] at e5
  have hz:(chars m).length<=sizeLine:=by
   have:(chars m).length=m:=by simp[chars]
   rw[this];exact Nat.le_trans hm (by decide)
  refine eN rfl ?_
  unfold b_
  simp[b0 hL,e4,e5,oQ,kM,cz,hi,hz]
 ·cases hc
end
theorem BQ:va (.int 12)=some (.str (bw 12)):=by
 show (if (12:Int).natAbs.log2<1920/\okB (bw 12)=true then some (D.str (bw 12)) else none)=_
 rw[if_pos (by decide +kernel)]
theorem BJ (ρ:Rho)(S:Sto):∃ y,(sC "a key lies in more than " (zr (cUn va (ao (D.int 12))) (sC " others" xx))) Str.empty ρ S=okO (.str y) S:=by
 refine⟨Str.empty++("a key lies in more than ":Str)++bw 12++(" others":Str),?_⟩
 have i1:(Str.empty++("a key lies in more than ":Str)).length<=sizeLine:=by decide +kernel
 have i2:(Str.empty++("a key lies in more than ":Str)++bw 12).length<=sizeLine:=by decide +kernel
 have i3:(Str.empty++("a key lies in more than ":Str)++bw 12++(" others":Str)).length<=sizeLine:=by decide +kernel
 have o:okB (Str.empty++("a key lies in more than ":Str)++bw 12++(" others":Str))=true:=by decide +kernel
 have ev:cUn va (ao (D.int 12)) ρ S=okO (.str (bw 12)) S:=by simp[BQ]
 simp only[sC,zr,xx,if_pos i1,ev,dJ,if_pos i2,if_pos i3,if_pos o]
section
variable {ws:List Str}{L:Nat}
theorem vd {t:Nat}{us vs r:List Str}(hd:ws.drop t=us)(ht:t+us.length=ws.length)(e:us=vs++r):ws.drop (ws.length-r.length)=r/\ws.length-r.length+r.length=ws.length:=by
 subst e
 rw[List.length_append] at ht
 have e1:ws.length-r.length=t+vs.length:=by omega
 refine⟨?_,by omega⟩
 rw[e1,← List.drop_drop,hd,List.drop_left]
theorem eqw (w s:Str):eqD (.str w) (.str s)=some (.bl (decide (w=s))):=by rw[xa rfl];rfl
theorem new_ (w s:Str):neD (.str w) (.str s)=some (.bl (!decide (w=s))):=by rw[pY rfl];rfl
theorem ur (d:D)(ds:List D)(h:ds.length<=10):szO ds d=some d:=vH (Nat.le_trans h (by decide))
theorem fY (hk:WOk ws)(m:Nat)(hm:m<=10):∀ (k fuel:Nat) (us:List Str) (t:Nat) (S:Sto),k<fuel->ws.drop t=us->t+us.length=ws.length->S[L]?=some (WS ws t) ->
  match aS m k us with
  |none => ∃ S',dO fuel [.loc L,.lst ((chars m).map .str),.int k] S=some (.error "NoText",S')
  |some (d,r) => ∃ S',dO fuel [.loc L,.lst ((chars m).map .str),.int k] S=okO d S'/\S'[L]?=some (WS ws (ws.length-r.length))
 |k,0,us,t,S,hf,_,_,_=>absurd hf (by omega)
 |k,fuel+1,[],t,S,hf,hd,ht,hL=>by
  have e4:=iY hL (by simp at ht;omega)
  unfold aS
  refine⟨S,bf rfl ?_⟩
  unfold bj
  simp[b0 hL,e4]
 |k,fuel+1,w::us,t,S,hf,hd,ht,hL=>by
  obtain⟨g1,g2⟩:=drop_cons hd
  have e4:=iX hL g1
  have hT:=b0 hL
  have h4:(S.set L (WS ws (t+1)))[L]?=some (WS ws (t+1)):=dS hL
  generalize hS1:S.set L (WS ws (t+1))=S1 at *
  have ht2:t+1+us.length=ws.length:=by simp at ht;omega
  by_cases hw:w="names"
  ·subst hw
   rw[ir]
   have q:=mF hk g2 ht2 h4
   have z2:∀ x:D,szO [.str "names",x] (.tup [.str "names",x])=some (.tup [.str "names",x]):=λx=>ur _ _ (by simp)
   cases hp:d6 us with
   |none =>
    rw[hp] at q
    obtain⟨S',q⟩:=q
    refine⟨S',bf rfl ?_⟩
    unfold bj
    simp[hT,e4,eqw,q]
   |some p =>
    obtain⟨d,r⟩:=p
    rw[hp] at q
    obtain⟨S',q,i2⟩:=q
    refine⟨S',eN rfl ?_,i2⟩
    unfold bj
    simp[hT,e4,eqw,q,z2]
  ·by_cases ha:w="ask"
   ·subst ha
    cases k with
    |zero =>
     have ep:aS m 0 (("ask":Str)::us)=none:=by rw[aS,if_neg hw]
     rw[ep]
     have hz : 1<=sizeLine:=by decide
     obtain⟨y,ey⟩:=BJ [some (.loc L),some (.lst ((chars m).map .str)),some (.int 0),some (.str "ask"),none,none,none] S1
     refine⟨S1,bf rfl ?_⟩
     unfold bj
     simp[hT,e4,eqw,new_,hw,ey,szO,hz,-List.map_map]
    |succ k =>
     have kne:¬ ((k:Int)+1=0):=by omega
     cases us with
     |nil =>
      have ep:aS m (k+1) [("ask":Str)]=none:=by simp[aS,hw]
      rw[ep]
      have q:=Ac m (by simp at ht2;omega) h4
      refine⟨S1,bf rfl ?_⟩
      unfold bj
      simp[hT,e4,eqw,new_,hw,kne,q,-List.map_map]
     |cons c us =>
      rw[gO]
      obtain⟨f1,f2⟩:=drop_cons g2
      cases hc:chr m c with
      |none =>
       have q:=yq hk m f1 h4 hc
       refine⟨S1.set L (WS ws (t+1+1)),bf rfl ?_⟩
       unfold bj
       simp[hT,e4,eqw,new_,hw,kne,q,-List.map_map]
      |some i =>
       have q:=yp m hm f1 h4 hc
       have h5:(S1.set L (WS ws (t+1+1)))[L]?=some (WS ws (t+1+1)):=dS h4
       generalize hS2:S1.set L (WS ws (t+1+1))=S2 at *
       have ht3:t+1+1+us.length=ws.length:=by simp at ht2;omega
       have r1:=fY hk m hm k fuel us (t+1+1) S2 (by omega) f2 ht3 h5
       have z4:∀ x y:D,szO [.str "ask",.int i,x,y] (.tup [.str "ask",.int i,x,y])=some (.tup [.str "ask",.int i,x,y]):=λx y=>ur _ _ (by simp)
       simp only[Option.bind_some]
       cases h1:aS m k us with
       |none =>
        rw[h1] at r1
        obtain⟨S',r1⟩:=r1
        refine⟨S',bf rfl ?_⟩
        unfold bj
        simp[hT,e4,eqw,new_,hw,kne,q,r1,-List.map_map]
       |some p =>
        obtain⟨x,u2⟩:=p
        rw[h1] at r1
        obtain⟨S3,r1,h6⟩:=r1
        obtain⟨vs,_,ev⟩:=cB k h1
        obtain⟨d1,d2⟩:=vd f2 ht3 ev
        have r2:=fY hk m hm k fuel u2 (ws.length-u2.length) S3 (by omega) d1 d2 h6
        simp only[Option.bind_some]
        cases h2:aS m k u2 with
        |none =>
         rw[h2] at r2
         obtain⟨S',r2⟩:=r2
         refine⟨S',bf rfl ?_⟩
         unfold bj
         simp[hT,e4,eqw,new_,hw,kne,q,r1,r2,-List.map_map]
        |some p2 =>
         obtain⟨y,u3⟩:=p2
         rw[h2] at r2
         obtain⟨S',r2,h7⟩:=r2
         refine⟨S',eN rfl ?_,h7⟩
         unfold bj
         simp[hT,e4,eqw,new_,hw,kne,q,r1,r2,z4,-List.map_map]
   ·have ep:aS m k (w::us)=none:=by cases k<;>simp[aS,hw,ha]
    rw[ep]
    have wc:=hk.one (List.mem_of_getElem? g1)
    have eq:mG "no key begins with " (h8 3 oF) 0 [some (.loc L),some (.lst ((chars m).map .str)),some (.int k),some (.str w),none,none,none] S1=true:=
     rG (d:=.str w) (y:=reprText w) (by decide +kernel) rfl rfl (by have:=oA wc.2;omega)
    refine⟨S1,bf rfl ?_⟩
    unfold bj
    simp[hT,e4,eqw,new_,hw,ha,eq,-List.map_map]
end
theorem Bp:(" ":Str)=⟨#[32]⟩:=by decide +kernel
theorem xZ:(" ":Str).cps.toList=[32]:=by decide +kernel
theorem fO:(" ":Str).length=1:=by decide +kernel
noncomputable abbrev spl (x:Str):List Str:=Txt.split x (" ":Str)
theorem dF (x:Str):Txt.join (" ":Str) (spl x)=x:=by rw[jO];exact StrLaws.join_split x _
theorem i7 (x:Str):∀ p∈spl x,32∉p.cps.toList:=by
 unfold spl;rw[Bp];exact StrLaws.split_free x 32
theorem vQ (x:Str):spl x≠[]:=λh=>by
 have:=split_pos x (" ":Str)
 unfold spl at h
 rw[h] at this
 exact absurd this (by decide)
theorem qp (a b:Str)(r:List Str):(Txt.join (" ":Str) (a::b::r)).cps.toList=a.cps.toList++32::(Txt.join (" ":Str) (b::r)).cps.toList:=by
 rw[join_cons,aJ,aJ,xZ,List.append_assoc];rfl
theorem zP:∀ {a b s t:List Nat},32∉a->32∉b->a++32::s=b++32::t->a=b/\s=t
 |[],[],s,t,_,_,h=>⟨rfl,by simpa using h⟩
 |[],y::b,s,t,_,hb,h=>by
  simp only[List.nil_append,List.cons_append,List.cons.injEq] at h
  exact absurd (by rw[h.1];simp) hb
 |x::a,[],s,t,ha,_,h=>by
  simp only[List.nil_append,List.cons_append,List.cons.injEq] at h
  exact absurd (by rw[← h.1];simp) ha
 |x::a,y::b,s,t,ha,hb,h=>by
  simp only[List.cons_append,List.cons.injEq] at h
  obtain⟨h1,h2⟩:=zP (λq=>ha (List.mem_cons_of_mem _ q)) (λq=>hb (List.mem_cons_of_mem _ q)) h.2
  exact⟨by rw[h.1,h1],h2⟩
theorem ql:∀ {ws vs:List Str},ws≠[]->vs≠[]->(∀ w∈ws,32∉w.cps.toList)->(∀ w∈vs,32∉w.cps.toList)->Txt.join (" ":Str) ws=Txt.join (" ":Str) vs->ws=vs
 |[],_,h,_,_,_,_=>absurd rfl h
 |_,[],_,h,_,_,_=>absurd rfl h
 |[a],[b],_,_,_,_,h=>by rw[join_one,join_one] at h;rw[h]
 |[a],b::c::r,_,_,ha,_,h=>by
  have e:=congrArg (λx:Str=>x.cps.toList) h
  simp only[qp,join_one] at e
  exact absurd (by rw[e];simp) (ha a (by simp))
 |a::c::r,[b],_,_,_,hb,h=>by
  have e:=congrArg (λx:Str=>x.cps.toList) h
  simp only[qp,join_one] at e
  exact absurd (by rw[← e];simp) (hb b (by simp))
 |a::c::r,b::d::s,_,_,ha,hb,h=>by
  have e:=congrArg (λx:Str=>x.cps.toList) h
  simp only[qp] at e
  obtain⟨e1,e2⟩:=zP (ha a (by simp)) (hb b (by simp)) e
  rw[dm e1,ql (ws:=c::r) (vs:=d::s) (by simp) (by simp) (λw hw=>ha w (List.mem_cons_of_mem _ hw)) (λw hw=>hb w (List.mem_cons_of_mem _ hw)) (dm e2)]
theorem vP {ws:List Str}(h:ws≠[])(hf:∀ w∈ws,32∉w.cps.toList):spl (Txt.join (" ":Str) ws)=ws:=
 ql (vQ _) h (i7 _) hf (dF _)
theorem gi:∀ {ws:List Str},ws≠[]->(∀ w∈ws,32∉w.cps.toList)->(Txt.join (" ":Str) ws).cps.toList.count 32+1=ws.length
 |[],h,_=>absurd rfl h
 |[a],_,hf=>by
  rw[join_one,List.count_eq_zero.mpr (hf a (by simp))];rfl
 |a::b::r,_,hf=>by
  have ih:=gi (ws:=b::r) (by simp) λw hw=>hf w (List.mem_cons_of_mem _ hw)
  rw[qp,List.count_append,List.count_eq_zero.mpr (hf a (by simp)),List.count_cons]
  rw[if_pos (by rfl)]
  simp only[List.length_cons] at ih ⊢
  omega
theorem oj (x:Str):(spl x).length=x.cps.toList.count 32+1:=by
 have:=gi (vQ x) (i7 x)
 rw[dF] at this
 exact this.symm
theorem gg:∀ {ws:List Str}{w:Str}{c:Nat},w∈ws->c∈w.cps.toList->c∈(Txt.join (" ":Str) ws).cps.toList
 |[a],w,c,hw,hc=>by rw[join_one,← List.mem_singleton.mp hw];exact hc
 |a::b::r,w,c,hw,hc=>by
  rw[qp]
  rcases List.mem_cons.mp hw with rfl |hw
  ·exact List.mem_append_left _ hc
  ·exact List.mem_append_right _ (List.mem_cons_of_mem _ (gg hw hc))
structure TOk (n w:Nat) (x:Str):Prop where
 len:x.length<=n
 spc:x.cps.toList.count 32<=w
 asc:∀ c∈x.cps.toList,c<128
theorem TOk.words {n w:Nat}{x:Str}(h:TOk n w x)(hn:n<=600000)(hw:w<=2800):WOk (spl x):=by
 have a1:=oj x
 have a2:=h.spc
 have a3:=split_weight x (" ":Str) (by rw[fO];exact Nat.le_refl _)
 have a4:=h.len
 have a5:=split_pos x (" ":Str)
 refine⟨by omega,?_,λp hp c hc=>h.asc c ?_⟩
 ·show ((Txt.split x (" ":Str)).map (·.length)).sum<=600000
  omega
 ·rw[← dF x];exact gg hp hc
theorem ju {n w:Nat}{x:Str}(h:TOk n w x)(hn:n<=600000):fN (.str x) (.str " ")=some (.lst ((spl x).map .str)):=by
 have hz:sizeLine=16777216:=rfl
 have hl:=h.len
 unfold fN
 refine if_pos ⟨by rw[fO];rfl,?_,?_,?_⟩
 ·rw[len_partsBetween]
  have:=StrLaws.occ_length_le x (" ":Str) 0 x.length (x.length+1)
  omega
 ·have:=split_le x (" ":Str)
  omega
 ·rw[List.all_eq_true]
  intro p hp
  have:=part_short hp
  exact tK (by omega) λc hc=>h.asc c (by rw[← dF x];exact gg hp hc)
theorem ze {n w:Nat}{x:Str}(h:TOk n w x)(hn:n<=600000){L:Nat}{S:Sto}(hL:S[L]?=some (.ins "Words" [])):bE [.loc L,.str x] S=okO .non (S.set L (WS (spl x) 0)):=by
 have e1:=ju h hn
 have h1:(S.set L (MO.ins "Words" [(("parts":Str),D.lst ((spl x).map .str))]))[L]?=some (MO.ins "Words" [(("parts":Str),D.lst ((spl x).map .str))]):=dS hL
 have e2:∀ ρ,fP "Words" "parts" (.loc L) (.lst ((spl x).map .str)) ρ S=okO (.next ρ) (S.set L (MO.ins "Words" [(("parts":Str),D.lst ((spl x).map .str))])):=λρ=>by
  unfold fP;simp only[hL];rw[if_pos ⟨trivial,by simp⟩];rfl
 have e3:∀ ρ,fP "Words" "taken" (.loc L) (.int 0) ρ (S.set L (MO.ins "Words" [(("parts":Str),D.lst ((spl x).map .str))]))=okO (.next ρ) (S.set L (WS (spl x) 0)):=λρ=>by
  unfold fP;simp only[h1];rw[if_pos ⟨trivial,by simp⟩]
  simp[ka,bq6,WS]
 unfold bE cF
 rw[if_pos (show ([.loc L,.str x]:List D).length=2 from rfl)]
 have:cS ([.loc L,.str x].map some++List.replicate 0 none) S=okO (.next [some (.loc L),some (.str x)]) (S.set L (WS (spl x) 0)):=by
  unfold cS
  simp[bo,e1,e2,e3,-List.map_map]
 rw[this];rfl
theorem xj (m:Nat)(hm:m<=10)(ρ:Rho)(S:Sto):di (bu 0) ig jj ((List.range m).map λ(k:Nat)=>D.int k) (df 1 [] ρ) S=some ((chars m).map .str,S):=by
 have q:=gX (u:=bu 0) (fe:=jj) (λρ => ∃ y,ρ=[y]) (λd=>match d with | .int i => .str (bw i) |_ => .non) S ((List.range m).map λ(k:Nat)=>D.int k) (df 1 [] ρ) ⟨none,rfl⟩ (by
  rintro d hd ρ ⟨y,rfl⟩
  obtain⟨k,hk,rfl⟩:=List.mem_map.mp hd
  have hk:=List.mem_range.mp hk
  refine⟨_,rfl,⟨_,rfl⟩,?_⟩
  have e:j8 [.int (k:Int)]=some (.str (bw k)):=by
   have h:∀ j:_root_.Fin 10,((j.val:Int).natAbs.log2<1920/\okB (bw (j.val:Int))=true):=by decide +kernel
   show (if (k:Int).natAbs.log2<1920/\okB (bw (k:Int))=true then some (D.str (bw (k:Int))) else none)=_
   rw[if_pos (h ⟨k,by omega⟩)]
  unfold jj
  simp[e])
 rw[q,List.map_map,chars,List.map_map];rfl
noncomputable def fC (m:Nat)(x:Str):Option D:=match aS m 12 (spl x) with
 |some (d,[])=>some d
 |_=>none
theorem yo {n w:Nat}{x:Str}(h:TOk n w x)(hn:n<=600000)(hw:w<=2800)(m:Nat)(hm:m<=10)(S:Sto) :
  match fC m x with
  |none => ∃ S',fz [.str x,.int m] S=some (.error "NoText",S')
  |some d => ∃ S',fz [.str x,.int m] S=okO d S':=by
 have hk:=h.words hn hw
 have hL0:(S++[MO.ins "Words" []])[S.length]?=some (.ins "Words" []):=by simp
 have e1:=ze h hn hL0
 have h1:((S++[MO.ins "Words" []]).set S.length (WS (spl x) 0))[S.length]?=some (WS (spl x) 0):=dS hL0
 generalize (S++[MO.ins "Words" []]).set S.length (WS (spl x) 0)=S1 at *
 have em:∀ ρ:Rho,ρ[0]?=some (some (.str x))->t_ "Words" bE (ah (af 0) az) ρ S=okO (.loc S.length) S1:=λρ hρ=>by
  unfold t_
  simp only[AV,BZ,BV _ _ _ _ hρ,dJ]
  rw[e1];rfl
 have e2:=xj m hm
 have e3:fW [.int m]=some ((List.range m).map λ(k:Nat)=>D.int k):=by
  have:=yn m (by omega) (by omega);simpa using this
 have q:=fY (L:=S.length) hk m hm 12 14 (spl x) 0 S1 (by omega) rfl (by omega) h1
 have hz : 1<=sizeLine:=by decide
 unfold fC
 cases hp:aS m 12 (spl x) with
 |none =>
  rw[hp] at q
  obtain⟨S',q⟩:=q
  refine⟨S',bf rfl ?_⟩
  unfold oV
  have em':=em [some (.str x),some (.int m),none,none] rfl
  rw[show ((12:Nat):Int)=12 from rfl] at q
  simp[em',e3,e2,q,-List.map_map]
 |some p =>
  obtain⟨d,r⟩:=p
  rw[hp] at q
  obtain⟨S',q,h2⟩:=q
  rw[show ((12:Nat):Int)=12 from rfl] at q
  have em':=em [some (.str x),some (.int m),none,none] rfl
  have lf:=oJ h2
  have hl:=lV h2
  cases r with
  |nil =>
   rw[decide_eq_false (by simp)] at lf
   refine⟨S',eN rfl ?_⟩
   unfold oV
   simp[em',e3,e2,q,lf,hl,-List.map_map]
  |cons a r =>
   obtain⟨vs,_,ev⟩:=cB 12 hp
   have hlen:=congrArg List.length ev
   rw[List.length_append,List.length_cons] at hlen
   rw[decide_eq_true (by rw[List.length_cons];omega)] at lf
   refine⟨S',bf rfl ?_⟩
   unfold oV
   simp[em',e3,e2,q,lf,hl,szO,hz,-List.map_map]
theorem qz {n w:Nat}{x:Str}(h:TOk n w x)(hn:n<=600000)(hw:w<=2800)(m:Nat)(hm:m<=10)(S:Sto):∃ S',bt [.str x,.int m] S=okO ((fC m x).getD .non) S':=by
 have q:=yo h hn hw m hm S
 have b1:lkB ([("NoText",true)]:List (Str×Bool)) "NoText"=some true:=by decide +kernel
 have b2:lkB ([("NoText",false)]:List (Str×Bool)) "NoText"=some false:=by decide +kernel
 cases hr:fC m x with
 |none =>
  rw[hr] at q
  obtain⟨S',q⟩:=q
  refine⟨S'++[.exc "NoText"],aE rfl ?_⟩
  have g1:ba 2 (fG fz (ah (af 0) (ah (af 1) az))) [some (.str x),some (.int m),none,none,none] S=some (.error "NoText",S'):=by
   show ag (fz [.str x,.int m] S) _=_
   rw[q];rfl
  have t1:=uq (ct:=inL ["NoText"]) (i:=3) (S2:=S'++[.exc "NoText"]) (d:=.non)
   (gh:=(aF (ba 4 (gC (mS (lkB ([("NoText",true)]:List (Str×Bool))) (af 3)) (gC (mS (lkB ([("NoText",true)]:List (Str×Bool))) (af 3)) (xt (mS (lkB ([("NoText",false)]:List (Str×Bool))) (af 3))))))
    (bi (cIx (ao (D.lst [(D.tup []),D.non])) (bB intD (ah (af 4) az))))))
   g1 (by decide +kernel) (by
    show aF _ _ [none,none,none,some (.loc S'.length),none] (S'++[.exc "NoText"])=_
    simp[zb,b1,b2,L2.intD,ixO,bN,ixD,atI,ixN]
    rfl)
  unfold jR
  show aF _ _ [some (.str x),some (.int m),none,none,none] S=_
  rw[zO,t1]
  rfl
 |some d =>
  rw[hr] at q
  obtain⟨S',q⟩:=q
  have hd:oP d=false:=by
   unfold fC at hr
   split at hr
   ·rename_i d' hp
    cases hr
    obtain⟨vs,kr,_⟩:=cB 12 hp
    cases kr<;>rfl
   ·cases hr
  have ei:isD d .non=some (.bl false):=by
   cases d<;>first |rfl |(cases hd)
  refine⟨S',aE rfl ?_⟩
  have g1:ba 2 (fG fz (ah (af 0) (ah (af 1) az))) [some (.str x),some (.int m),none,none,none] S=okO (.next [some (.str x),some (.int m),some d,none,none]) S':=by
   show ag (fz [.str x,.int m] S) _=_
   rw[q];rfl
  unfold jR
  show aF _ _ [some (.str x),some (.int m),none,none,none] S=_
  have t1:∀ gh,gu (ba 2 (fG fz (ah (af 0) (ah (af 1) az)))) (inL ["NoText"]) 3 gh [some (.str x),some (.int m),none,none,none] S=okO (.next [some (.str x),some (.int m),some d,none,none]) S':=λgh=>by
   unfold gu;rw[g1];rfl
  rw[zO,t1]
  have z2:szO [d,.tup []] (.lst [d,.tup []])=some (.lst [d,.tup []]):=ur _ _ (by simp)
  have z0:szO [] (.tup [])=some (.tup []):=ur _ _ (by simp)
  simp[ei,L2.intD,ixO,bN,ixD,atI,ixN,z2,z0]
theorem tL {x:Str}(h:bx x=true):Wd 9 x:=by
 unfold bx at h
 rw[Bool.and_eq_true,Bool.and_eq_true,Bool.and_eq_true] at h
 obtain⟨_,_,h2,h3⟩:=h
 refine⟨Nat.le_trans (of_decide_eq_true h2) (by decide),λc hc=>?_⟩
 have:=List.all_eq_true.mp h3 c hc
 unfold isLet at this
 simp at this
 omega
theorem uS {x:Str}(h:bx x=true) : 32∉x.cps.toList:=λhc=>by
 unfold bx at h
 rw[Bool.and_eq_true,Bool.and_eq_true,Bool.and_eq_true] at h
 have:=List.all_eq_true.mp h.2.2.2 32 hc
 revert this;decide
theorem yO:∀ k:_root_.Fin 10,(decide ((bw (k.val:Int)).length<=9)&&((bw (k.val:Int)).cps.toList.all λc=>decide (c<128)&&!decide (c=32)))=true:=by decide +kernel
theorem wA (i:Int)(h0 : 0<=i)(h1:i<10):Wd 9 (bw i)/\32∉(bw i).cps.toList:=by
 have q:=yO ⟨i.toNat,by omega⟩
 have e:((⟨i.toNat,by omega⟩:_root_.Fin 10).val:Int)=i:=by show ((i.toNat:Nat):Int)=i;omega
 rw[e,Bool.and_eq_true,decide_eq_true_eq,List.all_eq_true] at q
 refine⟨⟨q.1,λc hc=>?_⟩,λhc=>?_⟩
 ·have:=q.2 c hc
  rw[Bool.and_eq_true,decide_eq_true_eq] at this
  exact this.1
 ·have:=q.2 32 hc
  revert this;decide
theorem yN (i:Int)(h0 : 0<=i)(h1:i<10):j8 [.int i]=some (.str (bw i)):=by
 have h:∀ j:_root_.Fin 10,((j.val:Int).natAbs.log2<1920/\okB (bw (j.val:Int))=true):=by decide +kernel
 have q:=h ⟨i.toNat,by omega⟩
 have e:((⟨i.toNat,by omega⟩:_root_.Fin 10).val:Int)=i:=by show ((i.toNat:Nat):Int)=i;omega
 rw[e] at q
 show (if i.natAbs.log2<1920/\okB (bw i)=true then some (D.str (bw i)) else none)=_
 rw[if_pos q]
theorem kws:∀ x∈([("names":Str),"ask","end"]:List Str),Wd 9 x/\32∉x.cps.toList:=by
 have h:([("names":Str),"ask","end"]:List Str).all (λx=>decide (x.length<=9)&&x.cps.toList.all λc=>decide (c<128)&&!decide (c=32))=true:=by decide +kernel
 intro x hx
 have q:=List.all_eq_true.mp h x hx
 rw[Bool.and_eq_true,decide_eq_true_eq,List.all_eq_true] at q
 refine⟨⟨q.1,λc hc=>?_⟩,λhc=>?_⟩
 ·have:=q.2 c hc
  rw[Bool.and_eq_true,decide_eq_true_eq] at this
  exact this.1
 ·have:=q.2 32 hc
  revert this;decide
theorem KR.words {n:Int}(hn:n<=10){k:Nat}{d:D}{ws:List Str}(h:KR n k d ws):(∀ w∈ws,Wd 9 w/\32∉w.cps.toList)/\ws≠[]:=by
 induction h with
 | @leaf k ss h1 h2 =>
  refine⟨λw hw'=>?_,by simp⟩
  rcases List.mem_cons.mp hw' with e |hw'
  ·rw[e];exact kws _ (by simp)
  ·rcases List.mem_append.mp hw' with hw' |hw'
   ·exact⟨tL (h1 w hw'),uS (h1 w hw')⟩
   ·rw[List.mem_singleton.mp hw'];exact kws _ (by simp)
 | @ask k i x y wx wy h0 h1 _ _ ix iy =>
  refine⟨λw hw'=>?_,by simp⟩
  rcases List.mem_cons.mp hw' with e |hw'
  ·rw[e];exact kws _ (by simp)
  ·rcases List.mem_cons.mp hw' with e |hw'
   ·rw[e];exact wA i h0 (by omega)
   ·rcases List.mem_append.mp hw' with hw' |hw'
    ·exact ix.1 w hw'
    ·exact iy.1 w hw'
theorem tR {ws:List Str}(h:∀ w∈ws,Wd 9 w)(hl:ws.length<=5000):(Txt.join (" ":Str) ws).length<=50000/\(Txt.join (" ":Str) ws).length<=10*ws.length:=by
 have s1:=ri 9 ws h
 have s2:=eP (" ":Str) ws
 rw[fO] at s2
 omega
theorem BS:eqD (.str "names") (.str "names")=some (.bl true):=by rw[eqw,decide_eq_true rfl]
theorem BT:eqD (.str "ask") (.str "names")=some (.bl false):=by rw[eqw,decide_eq_false sJ]
theorem CI:neD (.str "ask") (.str "ask")=some (.bl false):=by rw[new_,decide_eq_true rfl];rfl
theorem iI (x y:Str)(h:x.length+y.length<=16777216):aL (.str x) (.str y)=some (.str (x++y)):=if_pos h
theorem qm (z:Str)(ys:List Str)(h1:(ys.map (·.length)).sum+ys.length*z.length<=16777216)(h2:∀ c∈(Txt.join z ys).cps.toList,c<128):ic (.str z) (.lst (ys.map .str))=some (.str (Txt.join z ys)):=by
 simp only[ic,cz,Option.bind_some]
 rw[if_pos ⟨h1,tK (Nat.le_trans (eP z ys) h1) h2⟩]
theorem sp_wd:Wd 1 (" ":Str):=⟨by decide +kernel,by decide +kernel⟩
theorem eU (S:Sto){n:Int}(hn:n<=10){k:Nat}{d:D}{ws:List Str}(h:KR n k d ws):ws.length<=5000->∀ fuel,k<fuel->a_ fuel [d] S=okO (.str (Txt.join (" ":Str) ws)) S:=by
 induction h with
 | @leaf k ss h1 h2 =>
  intro hl fuel hf
  have hl:ss.length<=5000:=by simp at hl;omega
  have hw:∀ x∈ss,Wd 9 x:=λx hx=>tL (h1 x hx)
  obtain⟨fuel,rfl⟩:∃ f,fuel=f+1:=⟨fuel-1,by omega⟩
  have q:=gX (u:=bu 0) (fe:=eA (a_ fuel)) (λρ => ∃ y,ρ=[y]) (λd=>match d with | .str x => .str (x++(" ":Str)) |_ => .non) S (ss.map .str) (df 1 [] [some (.tup [.str "names",.tup (ss.map .str)])]) ⟨none,rfl⟩ (by
   rintro d hd ρ ⟨y,rfl⟩
   obtain⟨x,hx,rfl⟩:=List.mem_map.mp hd
   refine⟨_,rfl,⟨_,rfl⟩,?_⟩
   have e:aL (.str x) (.str " ")=some (.str (x++(" ":Str))):=iI _ _ (by have:=(hw x hx).1;rw[fO];omega)
   unfold eA
   simp[e])
  have em:(ss.map D.str).map (λd=>match d with | .str x=>D.str (x++(" ":Str)) |_ => .non)=(ss.map λs=>s++(" ":Str)).map D.str:=by
   rw[List.map_map,List.map_map];rfl
  rw[em] at q
  have w10:∀ w∈ss.map (λs=>s++(" ":Str)),Wd 10 w:=λw hw'=>by
   obtain⟨x,hx,rfl⟩:=List.mem_map.mp hw'
   exact (hw x hx).app sp_wd
  have sl:=ri 10 _ w10
  rw[List.length_map] at sl
  have e0:("":Str).length=0:=by decide +kernel
  have ej:=qm ("":Str) (ss.map λs=>s++(" ":Str)) (by rw[e0,List.length_map];omega) (gl _ _ (by decide +kernel) _ λw hw'=>(w10 w hw').2)
  have jl:=eP ("":Str) (ss.map λs=>s++(" ":Str))
  rw[e0,List.length_map] at jl
  have n6:("names ":Str).length=6:=by decide +kernel
  have n3:("end":Str).length=3:=by decide +kernel
  have a1:aL (.str "names ") (.str (Txt.join ("":Str) (ss.map λs=>s++(" ":Str))))=some (.str (("names ":Str)++Txt.join ("":Str) (ss.map λs=>s++(" ":Str)))):=iI _ _ (by rw[n6];omega)
  have a2:aL (.str (("names ":Str)++Txt.join ("":Str) (ss.map λs=>s++(" ":Str)))) (.str "end")=some (.str (("names ":Str)++Txt.join ("":Str) (ss.map λs=>s++(" ":Str))++("end":Str))):=iI _ _ (by rw[strLen_append,n6,n3];omega)
  have en:("names":Str)++(" ":Str)="names ":=by decide +kernel
  rw[lR,en]
  refine aE rfl ?_
  unfold gp
  simp[at0,at1,BS,fQ,q,bo,ej,a1,a2,-List.map_map]
 | @ask k i x y wx wy h0 h1 kx ky ix iy =>
  intro hl fuel hf
  simp only[List.length_cons,List.length_append] at hl
  obtain⟨fuel,rfl⟩:∃ f,fuel=f+1:=⟨fuel-1,by omega⟩
  have r1:=ix (by omega) fuel (by omega)
  have r2:=iy (by omega) fuel (by omega)
  have lx:=(tR (λw hw=>((kx.words hn).1 w hw).1) (by omega)).1
  have ly:=(tR (λw hw=>((ky.words hn).1 w hw).1) (by omega)).1
  have nx:=(kx.words hn).2
  have ny:=(ky.words hn).2
  have e0:=yN i h0 (by omega)
  have ln:=(wA i h0 (by omega)).1.1
  have n4:("ask ":Str).length=4:=by decide +kernel
  have ea:("ask":Str)++(" ":Str)="ask ":=by decide +kernel
  have ej:Txt.join (" ":Str) (("ask":Str)::bw i::(wx++wy))=("ask ":Str)++bw i++(" ":Str)++Txt.join (" ":Str) wx++(" ":Str)++Txt.join (" ":Str) wy:=by
   rw[join_cons,ea,← List.singleton_append,gj _ [bw i] (wx++wy) (by simp) (by simp[nx]),join_one,gj _ wx wy nx ny]
   simp only[g6]
  generalize hjx:Txt.join (" ":Str) wx=jx at *
  generalize hjy:Txt.join (" ":Str) wy=jy at *
  have a1:aL (.str "ask ") (.str (bw i))=some (.str (("ask ":Str)++bw i)):=iI _ _ (by rw[n4];omega)
  have a2:aL (.str (("ask ":Str)++bw i)) (.str " ")=some (.str (("ask ":Str)++bw i++(" ":Str))):=iI _ _ (by rw[strLen_append,n4,fO];omega)
  have a3:aL (.str (("ask ":Str)++bw i++(" ":Str))) (.str jx)=some (.str (("ask ":Str)++bw i++(" ":Str)++jx)):=iI _ _ (by rw[strLen_append,strLen_append,n4,fO];omega)
  have a4:aL (.str (("ask ":Str)++bw i++(" ":Str)++jx)) (.str " ")=some (.str (("ask ":Str)++bw i++(" ":Str)++jx++(" ":Str))):=iI _ _ (by rw[strLen_append,strLen_append,strLen_append,n4,fO];omega)
  have a5:aL (.str (("ask ":Str)++bw i++(" ":Str)++jx++(" ":Str))) (.str jy)=some (.str (("ask ":Str)++bw i++(" ":Str)++jx++(" ":Str)++jy)):=iI _ _ (by rw[strLen_append,strLen_append,strLen_append,strLen_append,n4,fO];omega)
  rw[ej]
  refine aE rfl ?_
  unfold gp
  simp[at0,at1,at2,at3,BT,e0,r1,r2,a1,a2,a3,a4,a5]
theorem wU (S:Sto){n:Int}{k:Nat}{d:D}{ws:List Str}(h:KR n k d ws):∀ (e fuel:Nat),e+k<=12->k<fuel->bK fuel [d,.int n,.int e] S=okO (.bl true) S:=by
 induction h with
 | @leaf k ss h1 h2 =>
  intro e fuel he hf
  obtain⟨fuel,rfl⟩:∃ f,fuel=f+1:=⟨fuel-1,by omega⟩
  have q:=rN h1 h2 S
  have he':¬ (12:Int)<e:=by omega
  refine aE rfl ?_
  unfold iw
  simp[gtD,he',du,cY,dQ,cX,at0,at1,BS,q]
 | @ask k i x y wx wy h0 h1 kx ky ix iy =>
  intro e fuel he hf
  obtain⟨fuel,rfl⟩:∃ f,fuel=f+1:=⟨fuel-1,by omega⟩
  have r1:=ix (e+1) fuel (by omega) (by omega)
  have r2:=iy (e+1) fuel (by omega) (by omega)
  have q:=uQ i n h0 h1 S
  rw[show ((e+1:Nat):Int)=(e:Int)+1 by omega] at r1 r2
  have he':¬ (12:Int)<e:=by omega
  refine aE rfl ?_
  unfold iw
  simp[gtD,he',du,cY,dQ,cX,at0,at1,at2,at3,BT,CI,q,r1,r2,ij,aL]
theorem KR.py {n:Int}{k:Nat}{d:D}{ws:List Str}(h:KR n k d ws):∃ p,toPy d=some p/\p.depth<=k+2/\PyData.eqv p p=true:=by
 induction h with
 | @leaf k ss h1 h2 =>
  refine⟨.tuple [.str "names",.tuple (ss.map .str)],by simp[toPy,dg,eX],?_,?_⟩
  ·simp[PyData.depth,PyData.depthAll,iB]
  ·simp[PyData.eqv,PyData.eqvAll,l7]
 | @ask k i x y wx wy h0 h1 kx ky ix iy =>
  obtain⟨p,e1,d1,q1⟩:=ix
  obtain⟨p2,e2,d2,q2⟩:=iy
  refine⟨.tuple [.str "ask",.int i,p,p2],by simp[toPy,dg,e1,e2],?_,?_⟩
  ·simp[PyData.depth,PyData.depthAll];omega
  ·simp[PyData.eqv,PyData.eqvAll,q1,q2]
theorem BU {n:Int}{k:Nat}{d:D}{ws:List Str}(h:KR n k d ws)(hk:k<=12):eqD d d=some (.bl true):=by
 obtain⟨p,e1,d1,q1⟩:=h.py
 unfold eqD
 rw[e1]
 simp only[q1]
 rw[if_pos (by omega)]
theorem r6 (ss:List Str)(hl:ss.length<=6)(hw:∀ x∈ss,bx x=true)(hp:ss.Pairwise λa b=>ltS a b=true)(m:Nat)(h1 : 1<=m)(hm:m<=10)(S:Sto):∀ (fuel deep:Nat) (num:Int),deep<fuel->0<=num->∃ d ws,jr fuel [.int num,.tup (ss.map .str),.int m,.int deep] S=okO d S/\KR m deep d ws/\ws.length+2<=2 ^ deep*10
 | 0,deep,num,h,_=>absurd h (by omega)
 |fuel+1,deep,num,h,h0=>by
  have m7:aU (.int num) (.int 7)=some (.int (num % 7)):=aK (by decide)
  have d7:bz (.int num) (.int 7)=some (.int (num / 7)):=cb (by decide) (by decide)
  have mm:aU (.int (num / 7)) (.int m)=some (.int (num / 7 % m)):=aK (by omega)
  have bm:=gc (num / 7) (show (0:Int)<m by omega)
  obtain⟨sn,en,hsub⟩:=pZ (num / 7) (ss:=ss) (by omega) S
  have leaf:(deep=0∨num % 7=0)->∃ d ws,jr (fuel+1) [.int num,.tup (ss.map .str),.int m,.int deep] S=okO d S/\KR m deep d ws/\ws.length+2<=2 ^ deep*10:=λhc=>by
   refine⟨.tup [.str "names",.tup (sn.map .str)],_,aE rfl ?_,.leaf (λx hx=>hw x (hsub.subset hx)) (fg (hp.sublist hsub)),?_⟩
   ·unfold oW
    by_cases hd0:deep=0
    ·subst hd0
     simp[d7,en]
    ·have h7:num % 7=0:=hc.resolve_left hd0
     simp[hd0,m7,h7,d7,en]
   ·have:=hsub.length_le
    have : 1<=2 ^ deep:=Nat.one_le_two_pow
    simp only[List.length_cons,List.length_append,List.length_nil]
    omega
  by_cases hd0:deep=0
  ·exact leaf (.inl hd0)
  ·by_cases h7:num % 7=0
   ·exact leaf (.inr h7)
   ·have e1:=jk num 1 S
    have e2:=jk num 2 S
    obtain⟨dp,rfl⟩:∃ dp,deep=dp+1:=⟨deep-1,by omega⟩
    obtain⟨x,wx,ex,kx,lx⟩:=r6 ss hl hw hp m h1 hm S fuel dp (drw num 1) (by omega) (iA _ _)
    obtain⟨y,wy,ey,ky,ly⟩:=r6 ss hl hw hp m h1 hm S fuel dp (drw num 2) (by omega) (iA _ _)
    have hne:¬ ((dp:Int)+1=0):=by omega
    refine⟨.tup [.str "ask",.int (num / 7 % m),x,y],_,aE rfl ?_,.ask bm.1 bm.2 kx ky,?_⟩
    ·unfold oW
     simp[hne,m7,h7,e1,e2,ex,ey,d7,mm,ij]
    ·have e : 2 ^ (dp+1)*10=2 ^ dp*10+2 ^ dp*10:=by rw[Nat.pow_succ];omega
     simp only[List.length_cons,List.length_append]
     omega
theorem iC {α:Type}(xs:List α)(p:Nat):b7 xs none (some (p:Int))=xs.take p:=by
 unfold b7
 rw[HT.sIx_none,HT.sIx_nat,List.drop_zero,Nat.sub_zero]
 rcases Nat.le_total p xs.length with h |h
 ·rw[Nat.min_eq_left h]
 ·rw[Nat.min_eq_right h,List.take_of_length_le (Nat.le_refl _),List.take_of_length_le h]
theorem iD {α:Type}(xs:List α)(q:Nat):b7 xs (some (q:Int)) none=xs.drop q:=by
 unfold b7
 rw[HT.sIx_nat,HT.sIx_none]
 rcases Nat.le_total q xs.length with h |h
 ·rw[Nat.min_eq_left h,List.take_of_length_le (by rw[List.length_drop];exact Nat.le_refl _)]
 ·rw[Nat.min_eq_right h,List.drop_length,List.drop_of_length_le h,List.take_nil]
theorem o0 {α:Type}(xs:List α)(a b:Nat):b7 xs (some (a:Int)) (some (b:Int))=(xs.drop a).take (b-a):=by
 unfold b7
 rw[HT.sIx_nat,HT.sIx_nat]
 rcases Nat.le_total a xs.length with h |h
 ·rw[Nat.min_eq_left h]
  rcases Nat.le_total b xs.length with g |g
  ·rw[Nat.min_eq_left g]
  ·rw[Nat.min_eq_right g,List.take_of_length_le (by rw[List.length_drop];exact Nat.le_refl _),List.take_of_length_le (by rw[List.length_drop];omega)]
 ·rw[Nat.min_eq_right h,List.drop_length,List.drop_of_length_le h];simp
theorem cK {α:Type}(xs:List α){p q:Nat}(h:p<=q):(xs.take p++xs.drop q).Sublist xs:=by
 have e:xs.drop q=(xs.drop p).drop (q-p):=by rw[List.drop_drop];congr 1;omega
 have:=(List.Sublist.refl (xs.take p)).append (List.drop_sublist (q-p) (xs.drop p))
 rw[List.take_append_drop] at this
 rw[e];exact this
theorem rg {n w:Nat}{y:Str}{l:List Nat}(e:y.cps.toList=l)(h1:l.length<=n)(h2:l.count 32<=w)(h3:∀ c∈l,c<128):TOk n w y:=by
 subst e
 exact⟨by simpa [Str.length] using h1,h2,h3⟩
theorem len_list (x:Str):x.length=x.cps.toList.length:=by simp[Str.length]
theorem cU (x:Str)(lo hi:Option Int):(c9 x lo hi).cps.toList=b7 x.cps.toList lo hi:=rfl
theorem eR (x:Str)(lo hi:Option Int):(c9 x lo hi).length<=x.length:=by
 rw[len_list,len_list,cU]
 unfold b7;rw[List.length_take,List.length_drop];omega
theorem vU:∀ i:_root_.Fin 10,∃ c:Nat,c<128/\ixO (.str " 019aZz-\n\t") (.int (i.val:Int)) []=some (.str ⟨#[c]⟩):=by
 intro i
 have h:∀ i:_root_.Fin 10,((atI (" 019aZz-\n\t":Str).cps.toList (i.val:Int)).any λc=>decide (c<128))=true:=by decide +kernel
 have q:=h i
 cases e:atI (" 019aZz-\n\t":Str).cps.toList (i.val:Int) with
 |none=>rw[e] at q;cases q
 |some c =>
  rw[e] at q
  refine⟨c,by simpa using q,?_⟩
  unfold ixO
  rw[if_neg (by simp[bN])]
  unfold ixD
  simp only[e];rfl
theorem sign_eq (i:Int)(h0 : 0<=i)(h1:i<10)(S:Sto):∃ c:Nat,c<128/\ixO (.str " 019aZz-\n\t") (.int i) S=some (.str ⟨#[c]⟩):=by
 obtain⟨c,hc,e⟩:=vU ⟨i.toNat,by omega⟩
 have e2:((⟨i.toNat,by omega⟩:_root_.Fin 10).val:Int)=i:=by show ((i.toNat:Nat):Int)=i;omega
 rw[e2] at e
 refine⟨c,hc,?_⟩
 unfold ixO at e ⊢
 rw[if_neg (by simp[bN])] at e ⊢
 exact e
noncomputable abbrev some_c:Str:="names end ask 0 1 9 00 10 -1 a zz abcdefghi A names end"
theorem some_ok:TOk 100 100 some_c:=⟨by decide +kernel,by decide +kernel,by decide +kernel⟩
theorem vS:(spl some_c).length=15:=by
 rw[oj]
 have:some_c.cps.toList.count 32=14:=by decide +kernel
 omega
theorem ux {w:Str}(h:w∈spl some_c) : 32∉w.cps.toList/\(∀ c∈w.cps.toList,c<128)/\w.length<=60:=by
 refine⟨i7 _ w h,λc hc=>some_ok.asc c ?_,?_⟩
 ·rw[← dF some_c];exact gg h hc
 ·have:=part_short h
  have:some_c.length=55:=by decide +kernel
  omega
theorem jh {L:List Str}{N W:Nat}(hf:∀ v∈L,32∉v.cps.toList/\∀ c∈v.cps.toList,c<128)(hl:L.length<=W+2)(hs:(L.map (·.length)).sum+L.length<=N)(hN:N<=16000000) :
  ic (.str " ") (.lst (L.map .str))=some (.str (Txt.join (" ":Str) L))/\TOk N (W+1) (Txt.join (" ":Str) L):=by
 have ha:=gl (" ":Str) (λc=>c<128) sp_wd.2 L λv hv=>(hf v hv).2
 have jl:=eP (" ":Str) L
 rw[fO] at jl
 refine⟨qm _ _ (by rw[fO];omega) ha,by omega,?_,ha⟩
 cases L with
 |nil=>show ([]:List Nat).count 32<=_;simp
 |cons a r =>
  have:=gi (ws:=a::r) (by simp) λv hv=>(hf v hv).1
  omega
theorem cG (a b:List Str):((a++b).map (·.length)).sum=(a.map (·.length)).sum+(b.map (·.length)).sum:=by
 rw[List.map_append,List.sum_append]
theorem la {a b:List Str}(h:a.Sublist b):(a.map (·.length)).sum<=(b.map (·.length)).sum:=sV (h.map _)
theorem kt (xs ys:List Str)(h:xs.length+ys.length<=1000000):aL (.lst (xs.map .str)) (.lst (ys.map .str))=some (.lst ((xs++ys).map .str)):=by
 rw[vz,if_pos (by rw[List.length_map,List.length_map];exact Nat.le_trans h (by decide)),List.map_append]
theorem wsl (ws:List Str)(lo hi:Option Int):slD (.lst (ws.map .str)) lo hi=some (.lst ((b7 ws lo hi).map .str)):=by
 show some (D.lst (b7 (ws.map D.str) lo hi))=_
 unfold b7
 rw[List.length_map,List.map_take,List.map_drop]
theorem xsl (x:Str)(lo hi:Option Int):slD (.str x) lo hi=some (.str (c9 x lo hi)):=rfl
theorem sf {n w:Nat}{x:Str}(h:TOk n w x)(hn:n<=190000)(num:Int)(S:Sto):∃ y,gE [.str x,.int num] S=okO (.str y) S/\TOk (3*n+100) (w+1) y:=by
 have e1:=ju h (by omega)
 have wl:=oj x
 have hl:=h.len
 have hs:=h.spc
 have sw:((spl x).map (·.length)).sum+(spl x).length<=x.length+1:=split_weight x (" ":Str) (by rw[fO];exact Nat.le_refl _)
 have hfree:∀ v∈spl x,32∉v.cps.toList/\∀ c∈v.cps.toList,c<128:=λv hv=>⟨i7 x v hv,λc hc=>h.asc c (by rw[← dF x];exact gg hv hc)⟩
 have d8:bz (.int num) (.int 8)=some (.int (num / 8)):=cb (by decide) (by decide)
 have d7:bz (.int num) (.int 7)=some (.int (num / 7)):=cb (by decide) (by decide)
 have m8:aU (.int num) (.int 8)=some (.int (num % 8)):=aK (by decide)
 have m10:aU (.int (num / 7)) (.int 10)=some (.int (num / 7 % 10)):=aK (by decide)
 have m15:aU (.int (num / 7)) (.int 15)=some (.int (num / 7 % 15)):=aK (by decide)
 have b8:=gc num (show (0:Int)<8 by decide)
 have b10:=gc (num / 7) (show (0:Int)<10 by decide)
 have b15:=gc (num / 7) (show (0:Int)<15 by decide)
 generalize hws:spl x=ws at *
 have mW:aU (.int (num / 8)) (.int (ws.length:Int))=some (.int (num / 8 % (ws.length:Int))):=aK (by omega)
 have bW:=gc (num / 8) (show (0:Int)<(ws.length:Int) by omega)
 have mP:aU (.int (num / 8)) (.int ((x.length:Int)+1))=some (.int (num / 8 % ((x.length:Int)+1))):=aK (by omega)
 have bP:=gc (num / 8) (show (0:Int)<(x.length:Int)+1 by omega)
 obtain⟨a,ha⟩:∃ a:Nat,num / 8 % (ws.length:Int)=a:=⟨(num / 8 % (ws.length:Int)).toNat,by omega⟩
 obtain⟨p,hp⟩:∃ p:Nat,num / 8 % ((x.length:Int)+1)=p:=⟨(num / 8 % ((x.length:Int)+1)).toNat,by omega⟩
 rw[ha] at mW bW
 rw[hp] at mP bP
 have haW:a<ws.length:=by omega
 have ll:=len_list x
 have h1p:(p:Int)+1=((p+1:Nat):Int):=by omega
 have h1a:(a:Int)+1=((a+1:Nat):Int):=by omega
 have h2a:(a:Int)+2=((a+2:Nat):Int):=by omega
 have lenS:cX [.str x]=some (.int x.length):=rfl
 have lenW:cX [.lst (ws.map .str)]=some (.int ws.length):=by simp[cX]
 have front:∀ (k:Rho->Sto->Out Fl),(aF (ba 2 (gw bo fN (af 0) (ao (.str " "))))
   (aF (ba 3 (ap aU (ap bz (af 1) (ao (.int 8))) (bB cX (ah (af 2) az))))
   (aF (ba 4 (ap aU (ap bz (af 1) (ao (.int 8))) (ap aL (bB cX (ah (af 0) az)) (ao (.int 1)))))
   (aF (ba 5 (ap aU (af 1) (ao (.int 8)))) k)))) [some (.str x),some (.int num),none,none,none,none,none,none,none] S
   = k [some (.str x),some (.int num),some (.lst (ws.map .str)),some (.int a),some (.int p),some (.int (num % 8)),none,none,none] S:=λk=>by
  simp[bo,e1,d8,lenS,lenW,mW,mP,m8,aL,-List.map_map]
 have cases8:num % 8=0∨num % 8=1∨num % 8=2∨num % 8=3∨num % 8=4∨num % 8=5∨num % 8=6∨num % 8=7:=by omega
 have takeL:(ws.take a).length<=a:=List.length_take_le ..
 have memA:∀ v∈ws.take a,v∈ws:=λv hv=>List.mem_of_mem_take hv
 have memD:∀ i,∀ v∈ws.drop i,v∈ws:=λi v hv=>List.mem_of_mem_drop hv
 have memM:∀ i j,∀ v∈(ws.drop i).take j,v∈ws:=λi j v hv=>List.mem_of_mem_drop (List.mem_of_mem_take hv)
 have sumT:(ws.map (·.length)).sum=((ws.take a).map (·.length)).sum+((ws.drop a).map (·.length)).sum:=by rw[← cG,List.take_append_drop]
 have sum1:((ws.take a).map (·.length)).sum+((ws.drop (a+1)).map (·.length)).sum<=(ws.map (·.length)).sum:=by rw[← cG];exact la (cK ws (by omega))
 have sum2:((ws.take a).map (·.length)).sum+((ws.drop (a+2)).map (·.length)).sum<=(ws.map (·.length)).sum:=by rw[← cG];exact la (cK ws (by omega))
 have sumM:∀ i j,(((ws.drop i).take j).map (·.length)).sum<=(ws.map (·.length)).sum:=λi j=>la ((List.take_sublist ..).trans (List.drop_sublist ..))
 have lenD1:(ws.drop (a+1)).length=ws.length-(a+1):=List.length_drop
 have lenD0:(ws.drop a).length=ws.length-a:=List.length_drop
 have lenD2:(ws.drop (a+2)).length=ws.length-(a+2):=List.length_drop
 have lenM:∀ i,((ws.drop i).take 1).length<=1:=λi=>List.length_take_le ..
 have asc:=h.asc
 rcases cases8 with hk |hk |hk |hk |hk |hk |hk
 ·-- a sign less
  refine⟨c9 x none (some p)++c9 x (some ((p:Int)+1)) none,aE rfl ?_,rg (l:=x.cps.toList.take p++x.cps.toList.drop (p+1)) ?_ ?_ ?_ ?_⟩
  ·have c1:=eR x none (some (p:Int))
   have c2:=eR x (some ((p:Int)+1)) none
   have e:=iI (c9 x none (some p)) (c9 x (some ((p:Int)+1)) none) (by omega)
   unfold bG
   refine (front _).trans ?_
   simp[hk,xsl,mJ,dM,e]
  ·rw[aJ,cU,cU,iC,h1p,iD]
  ·have:=(cK x.cps.toList (show p<=p+1 by omega)).length_le
   omega
  ·have:=(cK x.cps.toList (show p<=p+1 by omega)).count_le 32
   omega
  ·exact λc hc=>asc c ((cK x.cps.toList (show p<=p+1 by omega)).subset hc)
 ·-- a sign more
  obtain⟨c0,hc0,es⟩:=sign_eq (num / 7 % 10) b10.1 b10.2 S
  refine⟨c9 x none (some p)++(⟨#[c0]⟩:Str)++c9 x (some (p:Int)) none,aE rfl ?_,rg (l:=x.cps.toList.take p++[c0]++x.cps.toList.drop p) ?_ ?_ ?_ ?_⟩
  ·have c1:=eR x none (some (p:Int))
   have c2:=eR x (some (p:Int)) none
   have l1:(⟨#[c0]⟩:Str).length=1:=rfl
   have e2:=iI (c9 x none (some p)) (⟨#[c0]⟩:Str) (by omega)
   have e:=iI (c9 x none (some p)++(⟨#[c0]⟩:Str)) (c9 x (some (p:Int)) none) (by rw[gZ];omega)
   have ei:(p:Int)+1-1=p:=by omega
   unfold bG
   refine (front _).trans ?_
   simp[hk,d7,m10,es,xsl,mJ,dM,pK,ltD,ei,e2,e]
  ·rw[aJ,aJ,cU,cU,iC,iD]
  ·have:=(cK x.cps.toList (Nat.le_refl p)).length_le
   simp only[List.length_append,List.length_singleton] at this ⊢
   omega
  ·have:=(cK x.cps.toList (Nat.le_refl p)).count_le 32
   have q1:[c0].count 32<=1:=List.count_le_length ..
   simp only[List.count_append] at this ⊢
   omega
  ·intro c hc
   rcases List.mem_append.mp hc with hc |hc
   ·rcases List.mem_append.mp hc with hc |hc
    ·exact asc c (List.mem_of_mem_take hc)
    ·rw[List.mem_singleton.mp hc];exact hc0
   ·exact asc c (List.mem_of_mem_drop hc)
 ·-- another sign
  obtain⟨c0,hc0,es⟩:=sign_eq (num / 7 % 10) b10.1 b10.2 S
  refine⟨c9 x none (some p)++(⟨#[c0]⟩:Str)++c9 x (some ((p:Int)+1)) none,aE rfl ?_,rg (l:=x.cps.toList.take p++[c0]++x.cps.toList.drop (p+1)) ?_ ?_ ?_ ?_⟩
  ·have c1:=eR x none (some (p:Int))
   have c2:=eR x (some ((p:Int)+1)) none
   have l1:(⟨#[c0]⟩:Str).length=1:=rfl
   have e2:=iI (c9 x none (some p)) (⟨#[c0]⟩:Str) (by omega)
   have e:=iI (c9 x none (some p)++(⟨#[c0]⟩:Str)) (c9 x (some ((p:Int)+1)) none) (by rw[gZ];omega)
   have ei:(p:Int)+2-1=p+1:=by omega
   unfold bG
   refine (front _).trans ?_
   simp[hk,d7,m10,es,xsl,mJ,dM,pK,ltD,ei,e2,e]
  ·rw[aJ,aJ,cU,cU,iC,h1p,iD]
  ·have:=(cK x.cps.toList (show p<=p+1 by omega)).length_le
   simp only[List.length_append,List.length_singleton] at this ⊢
   omega
  ·have:=(cK x.cps.toList (show p<=p+1 by omega)).count_le 32
   have q1:[c0].count 32<=1:=List.count_le_length ..
   simp only[List.count_append] at this ⊢
   omega
  ·intro c hc
   rcases List.mem_append.mp hc with hc |hc
   ·rcases List.mem_append.mp hc with hc |hc
    ·exact asc c (List.mem_of_mem_take hc)
    ·rw[List.mem_singleton.mp hc];exact hc0
   ·exact asc c (List.mem_of_mem_drop hc)
 ·-- a word less
  have c1:b7 ws none (some (a:Int))=ws.take a:=iC ws a
  have c2:b7 ws (some ((a:Int)+1)) none=ws.drop (a+1):=by rw[h1a];exact iD ws _
  have ad:=kt (ws.take a) (ws.drop (a+1)) (by omega)
  obtain⟨j1,j2⟩:=jh (L:=ws.take a++ws.drop (a+1)) (N:=3*n+100) (W:=w) (λv hv=>by
   rcases List.mem_append.mp hv with hv |hv
   ·exact hfree v (memA v hv)
   ·exact hfree v (memD _ v hv)) (by rw[List.length_append];omega) (by rw[cG,List.length_append];omega) (by omega)
  refine⟨_,aE rfl ?_,j2⟩
  unfold bG
  refine (front _).trans ?_
  simp[hk,ltD,wsl,mJ,dM,c1,c2,ad,bo,j1,-List.map_map,-List.map_append,-List.map_take,-List.map_drop]
 ·-- a word twice
  have c1:b7 ws none (some (a:Int))=ws.take a:=iC ws a
  have c2:b7 ws (some (a:Int)) (some ((a:Int)+1))=(ws.drop a).take 1:=by rw[h1a,o0];congr 1;omega
  have c3:b7 ws (some (a:Int)) none=ws.drop a:=iD ws a
  have l1:=lenM a
  have s1:=sumM a 1
  have ad:=kt (ws.take a) ((ws.drop a).take 1) (by omega)
  have ad2:=kt (ws.take a++(ws.drop a).take 1) (ws.drop a) (by rw[List.length_append];omega)
  obtain⟨j1,j2⟩:=jh (L:=ws.take a++(ws.drop a).take 1++ws.drop a) (N:=3*n+100) (W:=w) (λv hv=>by
   rcases List.mem_append.mp hv with hv |hv
   ·rcases List.mem_append.mp hv with hv |hv
    ·exact hfree v (memA v hv)
    ·exact hfree v (memM _ _ v hv)
   ·exact hfree v (memD _ v hv)) (by rw[List.length_append,List.length_append];omega) (by rw[cG,cG,List.length_append,List.length_append];omega) (by omega)
  refine⟨_,aE rfl ?_,j2⟩
  unfold bG
  refine (front _).trans ?_
  simp[hk,ltD,wsl,mJ,dM,c1,c2,c3,ad,ad2,bo,j1,-List.map_map,-List.map_append,-List.map_take,-List.map_drop,-List.append_assoc]
 ·-- a word exchanged with the next
  have c1:b7 ws none (some (a:Int))=ws.take a:=iC ws a
  have c2:b7 ws (some ((a:Int)+1)) (some ((a:Int)+2))=(ws.drop (a+1)).take 1:=by rw[h1a,h2a,o0];congr 1;omega
  have c3:b7 ws (some (a:Int)) (some ((a:Int)+1))=(ws.drop a).take 1:=by rw[h1a,o0];congr 1;omega
  have c4:b7 ws (some ((a:Int)+2)) none=ws.drop (a+2):=by rw[h2a];exact iD ws _
  have l1:=lenM a
  have l2:=lenM (a+1)
  have s1:=sumM a 1
  have s2:=sumM (a+1) 1
  have l3:((ws.drop (a+1)).take 1).length<=ws.length-(a+1):=by rw[List.length_take];omega
  have ad:=kt ((ws.drop (a+1)).take 1) ((ws.drop a).take 1) (by omega)
  have ad2:=kt (ws.take a) ((ws.drop (a+1)).take 1++(ws.drop a).take 1) (by rw[List.length_append];omega)
  have ad3:=kt (ws.take a++((ws.drop (a+1)).take 1++(ws.drop a).take 1)) (ws.drop (a+2)) (by rw[List.length_append,List.length_append];omega)
  obtain⟨j1,j2⟩:=jh (L:=ws.take a++((ws.drop (a+1)).take 1++(ws.drop a).take 1)++ws.drop (a+2)) (N:=3*n+100) (W:=w) (λv hv=>by
   rcases List.mem_append.mp hv with hv |hv
   ·rcases List.mem_append.mp hv with hv |hv
    ·exact hfree v (memA v hv)
    ·rcases List.mem_append.mp hv with hv |hv
     ·exact hfree v (memM _ _ v hv)
     ·exact hfree v (memM _ _ v hv)
   ·exact hfree v (memD _ v hv)) (by rw[List.length_append,List.length_append,List.length_append];omega) (by rw[cG,cG,cG,List.length_append,List.length_append,List.length_append];omega) (by omega)
  refine⟨_,aE rfl ?_,j2⟩
  unfold bG
  refine (front _).trans ?_
  simp[hk,ltD,wsl,mJ,dM,c1,c2,c3,c4,ad,ad2,ad3,bo,j1,-List.map_map,-List.map_append,-List.map_take,-List.map_drop,-List.append_assoc]
 ·-- another word
  have hk0:¬ num % 8=0:=by omega
  have hk3:¬ num % 8<3:=by omega
  have hk3':¬ num % 8=3:=by omega
  have hk4:¬ num % 8=4:=by omega
  have hk5:¬ num % 8=5:=by omega
  have es:=ju some_ok (by decide)
  have il:(num / 7 % 15).toNat<(spl some_c).length:=by rw[vS];omega
  generalize hv0:(spl some_c)[(num / 7 % 15).toNat]'il=v0
  have hm0:v0∈spl some_c:=by rw[← hv0];exact List.getElem_mem il
  have ei:ixO (.lst ((spl some_c).map .str)) (.int (num / 7 % 15)) S=some (.str v0):=by
   unfold ixO
   rw[if_neg (by simp[bN])]
   unfold ixD
   have:=cm (xs:=(spl some_c).map D.str) (i:=(num / 7 % 15).toNat) (v:=.str v0) (by rw[List.getElem?_map,List.getElem?_eq_getElem il,hv0];rfl)
   rw[show (((num / 7 % 15).toNat:Nat):Int)=num / 7 % 15 by omega] at this
   exact this
  obtain⟨w1,w2,w3⟩:=ux hm0
  have c1:b7 ws none (some (a:Int))=ws.take a:=iC ws a
  have c2:b7 ws (some ((a:Int)+1)) none=ws.drop (a+1):=by rw[h1a];exact iD ws _
  have ad:aL (.lst ((ws.take a).map .str)) (.lst [.str v0])=some (.lst ((ws.take a++[v0]).map .str)):=kt (ws.take a) [v0] (by simp;omega)
  have ad2:=kt (ws.take a++[v0]) (ws.drop (a+1)) (by rw[List.length_append,List.length_singleton];omega)
  obtain⟨j1,j2⟩:=jh (L:=ws.take a++[v0]++ws.drop (a+1)) (N:=3*n+100) (W:=w) (λv hv=>by
   rcases List.mem_append.mp hv with hv |hv
   ·rcases List.mem_append.mp hv with hv |hv
    ·exact hfree v (memA v hv)
    ·rw[List.mem_singleton.mp hv];exact⟨w1,w2⟩
   ·exact hfree v (memD _ v hv)) (by rw[List.length_append,List.length_append,List.length_singleton];omega) (by
   have:(([v0]:List Str).map (·.length)).sum=v0.length:=by simp
   rw[cG,cG,this,List.length_append,List.length_append,List.length_singleton];omega) (by omega)
  refine⟨_,aE rfl ?_,j2⟩
  unfold bG
  refine (front _).trans ?_
  have z1:szO [.str v0] (.lst [.str v0])=some (.lst [.str v0]):=ur _ _ (by simp)
  simp[hk0,hk3,hk3',hk4,hk5,ltD,wsl,mJ,dM,c1,c2,d7,m15,es,ei,z1,ad,ad2,bo,j1,-List.map_map,-List.map_append,-List.map_take,-List.map_drop,-List.append_assoc]
noncomputable def rep (x:Str)(n:Nat):Str:=⟨(List.replicate n x.cps.toList).flatten.toArray⟩
theorem fX (x:Str)(n:Nat):(rep x n).cps.toList=(List.replicate n x.cps.toList).flatten:=rfl
theorem tM (x:Str)(n:Nat)(hn:n<=1000)(hx:x.length<=1000):bI (.str x) (.int n)=some (.str (rep x n)):=by
 rw[lG]
 rcases Nat.eq_zero_or_pos n with rfl |h
 ·rw[if_pos (by decide)];rfl
 ·rw[if_neg (by omega),if_pos ⟨by omega,by omega,hx⟩,Int.toNat_natCast];rfl
theorem tu (x:Str)(n:Nat):(rep x n).length=n*x.length:=by
 rw[len_list,fX,len_list]
 simp
theorem uE (x:Str)(n:Nat):rep x (n+1)=x++rep x n:=by
 refine dm ?_
 rw[aJ,fX,fX,List.replicate_succ,List.flatten_cons]
theorem v7 (x:Str)(n:Nat):rep x (n+1)=rep x n++x:=by
 refine dm ?_
 rw[aJ,fX,fX,List.replicate_succ',List.flatten_append,List.flatten_cons,List.flatten_nil,List.append_nil]
noncomputable def kn (n:Nat):Str:=rep "ask 0 " n++("names a end":Str)++rep " names end" n
noncomputable def cZ:Nat->List Str
 | 0=>["names","a","end"]
 |n+1=>("ask":Str)::("0":Str)::(cZ n++[("names":Str),"end"])
noncomputable def xh:Nat->D
 | 0 => .tup [.str "names",.tup [.str "a"]]
 |n+1 => .tup [.str "ask",.int 0,xh n,.tup [.str "names",.tup []]]
theorem zi (n:Nat):cZ n≠[]:=by cases n<;>simp[cZ]
theorem jT:∀ n,Txt.join (" ":Str) (cZ n)=kn n
 | 0=>by decide +kernel
 |n+1=>by
  have e1:("ask":Str)++(" ":Str)++(("0":Str)++(" ":Str))="ask 0 ":=by decide +kernel
  have e2:(" ":Str)++Txt.join (" ":Str) [("names":Str),"end"]=" names end":=by decide +kernel
  have e3:Txt.join (" ":Str) (("0":Str)::(cZ n++[("names":Str),"end"]))=("0":Str)++(" ":Str)++(Txt.join (" ":Str) (cZ n)++(" ":Str)++Txt.join (" ":Str) [("names":Str),"end"]):=by
   rw[← List.singleton_append,gj _ [("0":Str)] _ (by simp) (by simp),join_one,gj _ (cZ n) _ (zi n) (by simp)]
  rw[cZ,join_cons,e3,jT n]
  unfold kn
  rw[uE "ask 0 ",v7 " names end",← e1,← e2]
  simp only[g6]
theorem CH:bw 0="0":=by decide +kernel
theorem oZ {m:Nat}(hm : 1<=m):∀ (n k:Nat),n<=k->KR m k (xh n) (cZ n)
 | 0,k,_ => .leaf (ss:=[("a":Str)]) (by intro x hx;rw[List.mem_singleton.mp hx];decide +kernel) rfl
 |n+1,0,h=>absurd h (by omega)
 |n+1,k+1,h=>by
  have:=KR.ask (n:=(m:Int)) (i:=0) (by decide) (by omega) (oZ hm n k (by omega)) (KR.leaf (k:=k) (ss:=[]) (λx hx=>by cases hx) rfl)
  rw[CH] at this
  exact this
theorem tZ {m:Nat}:∀ (n k:Nat) (r:List Str),k<n->aS m k (cZ n++r)=none
 | 0,k,r,h=>absurd h (by omega)
 |n+1,0,r,_=>by rw[cZ,List.cons_append,aS,if_neg sJ]
 |n+1,k+1,r,h=>by
  rw[cZ,List.cons_append,List.cons_append,List.append_assoc,gO]
  cases chr m "0" with
  |none=>rfl
  |some i=>rw[Option.bind_some,tZ n k _ (by omega)];rfl
theorem l9:∀ n,(cZ n).length=4*n+3
 | 0=>rfl
 |n+1=>by
  rw[cZ]
  simp only[List.length_cons,List.length_append,List.length_nil,l9 n]
  omega
theorem zh (n:Nat)(hn:n<=150):TOk 10000 1000 (kn n)/\spl (kn n)=cZ n:=by
 have k:=(oZ (m:=1) (Nat.le_refl _) n n (Nat.le_refl _)).words (by decide)
 have l:=l9 n
 have f:∀ w∈cZ n,32∉w.cps.toList:=λw hw=>(k.1 w hw).2
 have j9:=tR (λw hw=>(k.1 w hw).1) (by omega)
 have jc:=gi k.2 f
 have ja:=gl (" ":Str) (λc=>c<128) sp_wd.2 (cZ n) λw hw=>(k.1 w hw).1.2
 have e:=vP k.2 f
 rw[jT] at j9 jc ja e
 exact⟨⟨by omega,by omega,ja⟩,e⟩
theorem nr {m:Nat}{x:Str}{ws:List Str}{d:D}(e:spl x=ws)(hm:m<=10)(h:KR m 12 d ws):fC m x=some d:=by
 unfold fC
 have:=wu hm h []
 rw[List.append_nil] at this
 rw[e,this]
theorem rE {m:Nat}{x:Str}{d:D}(h:fC m x=some d):KR m 12 d (spl x):=by
 unfold fC at h
 split at h
 ·rename_i d' hp
  cases h
  obtain⟨vs,k,e⟩:=cB 12 hp
  rw[List.append_nil] at e
  rw[e];exact k
 ·cases h
theorem zL {n:Int}{k:Nat}{d:D}{ws:List Str}(h:KR n k d ws):isD d .non=some (.bl false)/\jP d .non=some (.bl true):=by
 cases h<;>exact⟨rfl,rfl⟩
theorem wW:isD .non .non=some (.bl true)/\jP .non .non=some (.bl false):=⟨rfl,rfl⟩
noncomputable def bd:Nat->Nat
 | 0 => 3400
 |j+1 => 3*bd j+100
theorem wP (ns:List Int)(m:Nat)(h1 : 1<=m)(hm:m<=10)(num:Int)(d:D)(t:D)(S:Sto)(dp:Nat)(hdp:dp<150)(k:Rho->Sto->Out Fl)
  (hk:k=(aF (ba 3 (ap aL (ap aL (ap bI (ao (.str "ask 0 ")) (af 5)) (ao (.str "names a end"))) (ap bI (ao (.str " names end")) (af 5))))
  (aF (ba 6 (bp bt (ah (af 3) (ah (af 1) az))))
  (bi (gC (ap eqD (ap jP (af 6) (ao .non)) (ap ltD (af 5) (ao (.int 13)))) (cOr (ap isD (af 6) (ao .non)) (ap eqD (bp (a_ 15) (ah (af 6) az)) (af 3)))))))) :
  ∃ S',k [some (.lst (ns.map .int)),some (.int m),some d,some t,some (.int num),some (.int dp),none,none] S=okO (.ret (.bl true)) S':=by
 subst hk
 obtain⟨tok,es⟩:=zh dp (by omega)
 have a1:=tM "ask 0 " dp (by omega) (by decide +kernel)
 have a2:=tM " names end" dp (by omega) (by decide +kernel)
 have l1:=tu "ask 0 " dp
 have l2:=tu " names end" dp
 have n1:("ask 0 ":Str).length=6:=by decide +kernel
 have n2:(" names end":Str).length=10:=by decide +kernel
 have n3:("names a end":Str).length=11:=by decide +kernel
 rw[n1] at l1
 rw[n2] at l2
 have a3:=iI (rep "ask 0 " dp) ("names a end":Str) (by omega)
 have a4:aL (.str (rep "ask 0 " dp++("names a end":Str))) (.str (rep " names end" dp))=some (.str (kn dp)):=iI _ _ (by rw[gZ];omega)
 obtain⟨S',ef⟩:=qz tok (by decide) (by decide) m hm S
 by_cases hc:dp<=12
 ·have kr:=oZ h1 dp 12 hc
  rw[nr es hm kr] at ef
  have ef:bt [.str (kn dp),.int m] S=okO (xh dp) S':=ef
  obtain⟨i1,i2⟩:=zL kr
  have dl:=l9 dp
  have w:=eU S' (by omega) kr (by omega) 15 (by decide)
  rw[jT] at w
  have lt:(dp:Int)<13:=by omega
  refine⟨S',?_⟩
  simp[a1,a2,a3,a4,ef,i1,i2,ltD,lt,w,eqw]
 ·have er:fC m (kn dp)=none:=by
   unfold fC
   have:=tZ (m:=m) dp 12 [] (by omega)
   rw[List.append_nil] at this
   rw[es,this]
  rw[er] at ef
  have ef:bt [.str (kn dp),.int m] S=okO .non S':=ef
  have lt:¬ (dp:Int)<13:=by omega
  refine⟨S',?_⟩
  simp[a1,a2,a3,a4,ef,wW,ltD,lt]
theorem y7 (ns:List Int)(m:Nat)(h1 : 1<=m)(hm:m<=10)(num:Int)(d:D)(ws:List Str)(hd:KR m 12 d ws)(hl:ws.length<=400)(x:Str)(hx:TOk 600000 2800 x)(S:Sto)(a b c:Option D)(k:Rho->Sto->Out Fl)
  (hk:k=(aF (ba 6 (bp bt (ah (af 3) (ah (af 1) az))))
  (aF (cIf (aV (ap eqD (af 3) (bp (a_ 15) (ah (af 2) az)))) (bi (gC (ap eqD (af 6) (af 2)) (bp (bK 15) (ah (af 6) (ah (af 1) (ah (ao (.int 0)) az)))))) bA)
  (bi (cOr (ap isD (af 6) (ao .non)) (gC (bp (bK 15) (ah (af 6) (ah (af 1) (ah (ao (.int 0)) az)))) (ap eqD (bp (a_ 15) (ah (af 6) az)) (af 3)))))))) :
  ∃ S',k [some (.lst (ns.map .int)),some (.int m),some d,some (.str x),some (.int num),a,b,c] S=okO (.ret (.bl true)) S':=by
 subst hk
 obtain⟨S',ef⟩:=qz hx (by decide) (by decide) m hm S
 have wd:=eU S' (by omega) hd (by omega) 15 (by decide)
 have wk:=hd.words (by omega)
 have wn:=(hx.words (by decide) (by decide)).few
 refine⟨S',?_⟩
 by_cases he:x=Txt.join (" ":Str) ws
 ·have es:spl x=ws:=by rw[he];exact vP wk.2 λw hw=>(wk.1 w hw).2
  rw[nr es hm hd] at ef
  have ef:bt [.str x,.int m] S=okO d S':=ef
  have k2:=wU S' hd 0 15 (by decide) (by decide)
  have k2:bK 15 [d,.int m,.int 0] S'=okO (.bl true) S':=k2
  have e2:=BU hd (by decide)
  simp[ef,wd,eqw,he.symm,k2,e2]
 ·cases hr:fC m x with
  |none =>
   rw[hr] at ef
   have ef:bt [.str x,.int m] S=okO .non S':=ef
   simp[ef,wd,eqw,he,wW]
  |some d2 =>
   rw[hr] at ef
   have ef:bt [.str x,.int m] S=okO d2 S':=ef
   have kr:=rE hr
   obtain⟨i1,_⟩:=zL kr
   have k2:bK 15 [d2,.int m,.int 0] S'=okO (.bl true) S':=wU S' kr 0 15 (by decide) (by decide)
   have w2:=eU S' (by omega) kr (by omega) 15 (by decide)
   rw[dF] at w2
   simp[ef,wd,eqw,he,i1,k2,w2]
theorem AG (ns:List Int)(_:ns.length<=63):∃ S',xJ [.lst (ns.map .int)] []=some (.ok (.bl true),S'):=by
 have x0:∀ S,br [.lst (ns.map .int),.int 0] S=okO (.int (mix ns 0)) S:=ge ns 0
 have x1:∀ S,br [.lst (ns.map .int),.int 1] S=okO (.int (mix ns 1)) S:=ge ns 1
 have x2:∀ S,br [.lst (ns.map .int),.int 2] S=okO (.int (mix ns 2)) S:=ge ns 2
 have x3:∀ S,br [.lst (ns.map .int),.int 3] S=okO (.int (mix ns 3)) S:=ge ns 3
 have x4:∀ S,br [.lst (ns.map .int),.int 4] S=okO (.int (mix ns 4)) S:=ge ns 4
 have bm:=gc (mix ns 0) (show (0:Int)<10 by decide)
 have m10:aU (.int (mix ns 0)) (.int 10)=some (.int (mix ns 0 % 10)):=aK (by decide)
 obtain⟨m,hm⟩:∃ m:Nat,1+mix ns 0 % 10=m:=⟨(1+mix ns 0 % 10).toNat,by omega⟩
 have hm1 : 1<=m:=by omega
 have hm10:m<=10:=by omega
 obtain⟨ss,kvs,ew,hl6,hw,hpw⟩:=ug (mix ns 1) []
 rw[List.nil_append] at ew
 have a6:aU (.int (mix ns 3)) (.int 6)=some (.int (mix ns 3 % 6)):=aK (by decide)
 have b6:=gc (mix ns 3) (show (0:Int)<6 by decide)
 obtain⟨dp,hdp⟩:∃ dp:Nat,mix ns 3 % 6=dp:=⟨(mix ns 3 % 6).toNat,by omega⟩
 obtain⟨d0,ws,ed0,kr,hlen⟩:=r6 ss hl6 hw hpw m hm1 hm10 [.dict kvs] 8 dp (mix ns 2) (by omega) (lH _ _)
 have hwl:ws.length<=318:=by
  have : 2 ^ dp<=2 ^ 5:=Nat.pow_le_pow_right (by decide) (by omega)
  omega
 have kmono:∀ {k:Nat}{d:D}{ws:List Str},KR m k d ws->∀ j,k<=j->KR m j d ws:=by
  intro k d ws h
  induction h with
  |leaf h1 h2=>exact λj _ => .leaf h1 h2
  |ask h0 h1 _ _ ix iy =>
   intro j hj
   obtain⟨j,rfl⟩:∃ i,j=i+1:=⟨j-1,by omega⟩
   exact .ask h0 h1 (ix j (by omega)) (iy j (by omega))
 have kr12:=kmono kr 12 (by omega)
 have wk:=kr.words (by omega)
 have w0:=eU [.dict kvs] (by omega) kr12 (by omega) 15 (by decide)
 have tx:TOk (bd 0) (320+0) (Txt.join (" ":Str) ws):=by
  have j9:=tR (λw hw=>(wk.1 w hw).1) (by omega)
  have jc:=gi wk.2 λw hw=>(wk.1 w hw).2
  have ja:=gl (" ":Str) (λc=>c<128) sp_wd.2 ws λw hw=>(wk.1 w hw).1.2
  exact⟨by show _<=3400;omega,by omega,ja⟩
 generalize hnum:mix ns 4=num at *
 have hn0 : 0<=num:=by rw[← hnum];exact lH _ _
 have m9:aU (.int num) (.int 9)=some (.int (num % 9)):=aK (by decide)
 have d9:bz (.int num) (.int 9)=some (.int (num / 9)):=cb (by decide) (by decide)
 have d63:bz (.int num) (.int 63)=some (.int (num / 63)):=cb (by decide) (by decide)
 have d27:bz (.int num) (.int 27)=some (.int (num / 27)):=cb (by decide) (by decide)
 have m150:aU (.int (num / 9)) (.int 150)=some (.int (num / 9 % 150)):=aK (by decide)
 have m7:aU (.int (num / 9)) (.int 7)=some (.int (num / 9 % 7)):=aK (by decide)
 have m3:aU (.int (num / 9)) (.int 3)=some (.int (num / 9 % 3)):=aK (by decide)
 have m2:aU (.int (num / 63)) (.int 2)=some (.int (num / 63 % 2)):=aK (by decide)
 have m2b:aU (.int (num / 27)) (.int 2)=some (.int (num / 27 % 2)):=aK (by decide)
 by_cases h9:num % 9=4
 ·obtain⟨dq,hdq,eix⟩:∃ dq:Nat,dq<150/\ixO (.lst [.int (num / 9 % 150),.int (9+num / 9 % 7)]) (.int (num / 63 % 2)) [.dict kvs]=some (.int dq):=by
   have c2:num / 63 % 2=0∨num / 63 % 2=1:=by omega
   rcases c2 with c2 |c2
   ·refine⟨(num / 9 % 150).toNat,by omega,?_⟩
    rw[c2]
    rw[show (((num / 9 % 150).toNat:Nat):Int)=num / 9 % 150 by omega]
    rfl
   ·refine⟨(9+num / 9 % 7).toNat,by omega,?_⟩
    rw[c2]
    rw[show (((9+num / 9 % 7).toNat:Nat):Int)=9+num / 9 % 7 by omega]
    rfl
  obtain⟨S',q⟩:=wP ns m hm1 hm10 num d0 (.str (Txt.join (" ":Str) ws)) [.dict kvs] dq hdq _ rfl
  refine⟨S',aE rfl ?_⟩
  have z2:∀ x y:D,szO [x,y] (.lst [x,y])=some (.lst [x,y]):=λx y=>ur _ _ (by simp)
  unfold w5
  generalize (aF (ba 3 (ap aL (ap aL (ap bI (ao (.str "ask 0 ")) (af 5)) _) _)) _:Rho->Sto->Out Fl)=kk at q ⊢
  simp[x0,x1,x2,x3,x4,m10,hm,ew,a6,hdp,ed0,w0,m9,h9,d9,d63,m150,m7,m2,z2,eix,q]
 ·obtain⟨nc,hnc,enc,ern⟩:∃ nc:Nat,nc<=4/\bI (.int (num / 9 % 3)) (.int (1+num / 27 % 2))=some (.int nc)/\fW [.int nc]=some ((List.range nc).map λ(k:Nat)=>D.int k):=by
   have c3:num / 9 % 3=0∨num / 9 % 3=1∨num / 9 % 3=2:=by omega
   have c2:num / 27 % 2=0∨num / 27 % 2=1:=by omega
   have e:bI (.int (num / 9 % 3)) (.int (1+num / 27 % 2))=some (.int (num / 9 % 3*(1+num / 27 % 2))):=d_ (by omega) (by omega)
   have b : 0<=num / 9 % 3*(1+num / 27 % 2)/\num / 9 % 3*(1+num / 27 % 2)<=4:=by
    rcases c3 with c3 |c3 |c3<;>rcases c2 with c2 |c2<;>rw[c3,c2]<;>decide
   refine⟨(num / 9 % 3*(1+num / 27 % 2)).toNat,by omega,?_,?_⟩
   ·rw[e,show (((num / 9 % 3*(1+num / 27 % 2)).toNat:Nat):Int)=num / 9 % 3*(1+num / 27 % 2) by omega]
   ·have:=yn (((num / 9 % 3*(1+num / 27 % 2)).toNat:Nat):Int) (by omega) (by omega)
    rw[Int.toNat_natCast] at this
    exact this
  obtain⟨ρ',S',el,hI⟩:=gf (u:=bu 7) (body:=pe) (λi ρ S1=>S1=[.dict kvs]/\i<=nc/\∃ (y:Str) (z:Option D),TOk (bd i) (320+i) y/\ρ=[some (.lst (ns.map .int)),some (.int m),some d0,some (.str y),some (.int num),none,none,z])
   ((List.range nc).map λ(k:Nat)=>D.int k) 0 [some (.lst (ns.map .int)),some (.int m),some d0,some (.str (Txt.join (" ":Str) ws)),some (.int num),none,none,none] [.dict kvs] ⟨rfl,by omega,_,none,tx,rfl⟩ (by
    rintro j dd ρ S1 hj ⟨rfl,hi,y,z,hy,rfl⟩
    obtain⟨rfl,hlt⟩:=jE hj
    simp only[Nat.zero_add] at hy hi ⊢
    have eb:bd j<=190000:=by
     have:j=0∨j=1∨j=2∨j=3:=by omega
     rcases this with rfl |rfl |rfl |rfl<;>decide
    obtain⟨y2,e2,hy2⟩:=sf hy eb (drw num j) [.dict kvs]
    have ed:=jk num j [.dict kvs]
    refine⟨_,rfl,[some (.lst (ns.map .int)),some (.int m),some d0,some (.str y2),some (.int num),none,none,some (.int j)],[.dict kvs],?_,rfl,by omega,y2,_,hy2,rfl⟩
    unfold pe
    simp[ed,e2])
  simp only[Nat.zero_add,List.length_map,List.length_range] at hI
  obtain⟨rfl,_,y,z,hy,rfl⟩:=hI
  have eb:bd nc<=600000:=by
   have:nc=0∨nc=1∨nc=2∨nc=3∨nc=4:=by omega
   rcases this with rfl |rfl |rfl |rfl |rfl<;>decide
  have hy:TOk 600000 2800 y:=⟨Nat.le_trans hy.len eb,Nat.le_trans hy.spc (by omega),hy.asc⟩
  obtain⟨S',q⟩:=y7 ns m hm1 hm10 num d0 ws kr12 (by omega) y hy [.dict kvs] none none z _ rfl
  refine⟨S',aE rfl ?_⟩
  unfold w5
  rw[← q]
  generalize (aF (ba 6 (bp bt (ah (af 3) (ah (af 1) az)))) (aF (cIf _ _ _) _):Rho->Sto->Out Fl)=kk
  simp[x0,x1,x2,x3,x4,m10,hm,ew,a6,hdp,ed0,w0,m9,h9,d9,d27,m3,m2b,enc,ern,el]
end K05
namespace K05
open PySem L2
theorem all_mk {l:PySem.W.OpenLaw}{w:World}{K:PySem.W.Frag}{h:Heap}{mg:Str->Option Value}{fa:Addr}(hfa:mg "law"=some (.ref fa))(T:Top K mg) :
  ∃ fd:FuncData,(∀ (s:Shared) (v:Value),BindsTo s fd ⟨[v],[]⟩ [("_law_script",v)])/\∀ base:Heap,K.In base->base.Ns mainGlobals mg->FnOk l.prog w K mg base CX0 21 fa fd ["_law_script"] (sZ K 63):=by
 obtain⟨f,fd,Fn,hm,hb⟩:=T.d_law
 have e:=hfa.symm.trans hm
 cases e
 have ok:∀ base:Heap,FnD l.prog w K mg base 21 fa fd ["_law_script"] xJ:=λbase=>AU T Fn
 obtain⟨oc,od,kV,doc,pm,an,cdv,ct,osl,rfl,lk,hcd⟩:=Fn.ex
 exact⟨_,λs v => .of_eq rfl,λbase _ _=>AF (ok base) (by decide) λns hl=>AG ns hl⟩
end K05
open PySem PySem.W PyProof.Rows
namespace PySem.W.Fast
def tw1703966819109472011:=0
def tw3184271308947864812:=0
def tw11621325745966122225:=0
def tw12832776214859691380:=0
def tw16187443462205224857:=0
def tw5570652896725919572:=0
def tw12044763234432739067:=0
def tw4263779429005888036:=0
def tw6123316288276283479:=0
def tw17709767749947534325:=0
def tw16020282240160798852:=0
def tw3364606648757002715:=0
def tw1281158330788751993:=0
def tw15225359109827151339:=0
def tw11380636195343869330:=0
def tw17294925870855672143:=0
def tw9317612650671044363:=0
def tw8337126600221053131:=0
def tw3020020039311623458:=0
def tw14474093692680320864:=0
def tw17864380019677602720:=0
def tw1175640980077503534:=0
def tw17842550344351062617:=0
def tw15980171109725435886:=0
def tw12968093974577977642:=0
def tw7029952726045341521:=0
def tw15473234769749700381:=0
def tw13114678925092641264:=0
def tw12604053351097565048:=0
def tw157214387703789745:=0
def tw11083202831424524510:=0
def tw4560345649896592913:=0
def tw4794931009313307635:=0
def tw7946739220471894258:=0
def tw495034924220945192:=0
def tw8878915691913719297:=0
def tw6084880173994475009:=0
def tw6890241153514701727:=0
def tw4527388601480496475:=0
def tw1025317136025518421:=0
def tw17139896477276591175:=0
def tw2672348142551573385:=0
def tw6024388277722381787:=0
def tw7000413678211238490:=0
def tw418235267305787815:=0
def tw9302760456223090384:=0
def tw2792324446218568541:=0
def tw15773901163304403376:=0
def tw16684062053739611405:=0
def tw7128027277453511631:=0
def tw13848024014335661377:=0
def tw2527370849946003650:=0
def tw11601960828442791768:=0
def tw16423283321569908224:=0
def tw3405986585869308947:=0
def tw8915069943799296906:=0
def tw16754682745774230414:=0
def tw13381842092282370464:=0
def tw5005601851920863786:=0
def tw15664589430178786957:=0
def tw6961700718942638516:=0
def tw10549452162654560884:=0
def tw13372721710048761525:=0
def tw14409369660605674453:=0
def tw5362483562761513376:=0
def tw963061064757743271:=0
def tw17750871380812265050:=0
def tw2059448032689977708:=0
def tw10442099623426443255:=0
def tw13857695151212070914:=0
def tw5175389212706003717:=0
def tw16117173391136782760:=0
def tw12411064691760315642:=0
def tw13221198499968191466:=0
def tw6403733603420269957:=0
def tw4023143030953473721:=0
def tw10601235615594986818:=0
def tw3440135561275467840:=0
def tw4770949210705607750:=0
def tw17157715930866774591:=0
def tw2185698291994954448:=0
def tw14329136732445933574:=0
def tw14247864996980369338:=0
def tw16406552212137300203:=0
def tw11051630785417206406:=0
def tw2007155617666773003:=0
def tw3450334184393688276:=0
def tw6176308698302007211:=0
def tw2789067601268036596:=0
def tw13895771389831522504:=0
def tw11143410012344661918:=0
def tw7862710127853722685:=0
def tw5696701418988845876:=0
def tw14561982891982479623:=0
def tw17003700353024172484:=0
def tw16456814467513678323:=0
def tw2092848249031176515:=0
def tw18325108269253364477:=0
def tw4699146905299984637:=0
def tw17684105003691602952:=0
def tw2634373242438473444:=0
def tw17776758431905271466:=0
def tw8316110208033027940:=0
def tw3487762984713121601:=0
def tw13975216965796937805:=0
def tw4736481985923489993:=0
def tw14539164189791924255:=0
def tw13604532264405309634:=0
def tw16805092510572298210:=0
def tw9290016508357612520:=0
def tw2080975349425682565:=0
def tw4426222891840094188:=0
def tw11831287571472756596:=0
def tw4665449027061881827:=0
def tw8337206949443222766:=0
def tw8490953374830841587:=0
def tw5625896902773486286:=0
def tw15641715076258653906:=0
def tw12370580428599983572:=0
def tw1785801721796935656:=0
def tw8697029008673408504:=0
def tw8708339405890962962:=0
def tw7695274344337657432:=0
def tw4799830011723121996:=0
def tw10936830308750933639:=0
def tw4593154261683813337:=0
def tw710941067048938958:=0
def tw5422304624545203823:=0
def tw16443959060649616386:=0
def tw6664197213273158178:=0
def tw14291834745712836926:=0
def tw5352217625673558029:=0
def tw10222776191784519658:=0
def tw13300382253562704249:=0
def tw6187450151979549292:=0
def tw7553556519703964718:=0
end PySem.W.Fast
set_option maxRecDepth 100000 in
set_option maxHeartbeats 0 in
theorem PySem.Challenge.cw_keyfold_k05_whole_read_holds : PySem.Challenge.rw_keyfold_k05_whole_read.Holds := by
 w_on;o_law;k_head;(case hw=>w_witness2)
 k_fill
 refine L2.law_walk (l:=PySem.Challenge.rw_keyfold_k05_whole_read) (k:=21) (x:="_law_script") rfl rfl ⟨rfl,by decide,by decide,rfl⟩ (λw h Y=>PySem.W.kIn_of Y) ?F
 case F =>
  intro w mg fa h KX G hmg
  refine' K05.all_mk (h:=h) hmg (K05.top_mk KX G ?n_Words ?k0_Words ?k1_Words ?k2_Words ?k3_Words ?k4_Words ?k5_Words ?a0 ?q0 ?a1 ?q1 ?a2 ?q2 ?a3 ?i3 ?q3 ?a4 ?i4 ?q4 ?a5 ?i5 ?q5 ?a6 ?q6 ?a7 ?q7 ?a8 ?q8 ?a9 ?q9 ?a10 ?q10 ?a11 ?q11 ?a12 ?q12 ?a13 ?q13 ?a14 ?q14 ?a15 ?q15 ?a16 ?q16 ?a17 ?q17 ?a18 ?q18 ?a19 ?q19 ?a20 ?q20 ?a21 ?q21 ?a22 ?q22 ?z_all ?z_isinstance ?z_str ?z_len ?z_tuple ?z_sorted ?z_set ?z_range ?z_int ?z_enumerate ?z_bool ?z_ValueError ?e_KEPT_WORDS ?y_KEPT_WORDS ?t_KEPT_WORDS ?e_MOST_LETTERS ?t_MOST_LETTERS ?e_MOST_KEYS_ABOVE ?t_MOST_KEYS_ABOVE ?g_Words_parts ?g_Words_taken ?n_FoldError ?n_NoKey ?n_NoText ?t_q_NoText ?t_s0_NoText ?t_s1_NoText ?t_s2_NoText ?t_s3_NoText ?t_s4_NoText ?t_s5_NoText ?t_m_NoText_NoText ?t_o_FoldError_NoText ?t_o_ValueError_NoText ?t_o_NoKey_NoText)
  (case n_Words=>k_is)
  (case k0_Words=>k_is)
  (case k1_Words=>k_is)
  (case k2_Words=>k_is)
  (case k3_Words=>k_is)
  (case k4_Words=>k_is)
  (case k5_Words=>k_is)
  (case a0=>k_is)
  (case q0=>refine' L2.fE ?l ?c ?k;(case l=>k_is);(case c=>k_is);(case k=>k_is))
  (case a1=>k_is)
  (case q1=>refine' L2.fE ?l ?c ?k;(case l=>k_is);(case c=>k_is);(case k=>k_is))
  (case a2=>k_is)
  (case q2=>refine' L2.fE ?l ?c ?k;(case l=>k_is);(case c=>k_is);(case k=>k_is))
  (case a3=>k_is)
  (case i3=>k_is)
  (case q3=>refine' L2.fE ?l ?c ?k;(case l=>k_is);(case c=>k_is);(case k=>k_is))
  (case a4=>k_is)
  (case i4=>k_is)
  (case q4=>refine' L2.fE ?l ?c ?k;(case l=>k_is);(case c=>k_is);(case k=>k_is))
  (case a5=>k_is)
  (case i5=>k_is)
  (case q5=>refine' L2.fE ?l ?c ?k;(case l=>k_is);(case c=>k_is);(case k=>k_is))
  (case a6=>k_is)
  (case q6=>refine' L2.fE ?l ?c ?k;(case l=>k_is);(case c=>k_is);(case k=>k_is))
  (case a7=>k_is)
  (case q7=>refine' L2.fE ?l ?c ?k;(case l=>k_is);(case c=>k_is);(case k=>k_is))
  (case a8=>k_is)
  (case q8=>refine' L2.fE ?l ?c ?k;(case l=>k_is);(case c=>k_is);(case k=>k_is))
  (case a9=>k_is)
  (case q9=>refine' L2.fE ?l ?c ?k;(case l=>k_is);(case c=>k_is);(case k=>k_is))
  (case a10=>k_is)
  (case q10=>refine' L2.fE ?l ?c ?k;(case l=>k_is);(case c=>k_is);(case k=>k_is))
  (case a11=>k_is)
  (case q11=>refine' L2.fE ?l ?c ?k;(case l=>k_is);(case c=>k_is);(case k=>k_is))
  (case a12=>k_is)
  (case q12=>refine' L2.fE ?l ?c ?k;(case l=>k_is);(case c=>k_is);(case k=>k_is))
  (case a13=>k_is)
  (case q13=>refine' L2.fE ?l ?c ?k;(case l=>k_is);(case c=>k_is);(case k=>k_is))
  (case a14=>k_is)
  (case q14=>refine' L2.fE ?l ?c ?k;(case l=>k_is);(case c=>k_is);(case k=>k_is))
  (case a15=>k_is)
  (case q15=>refine' L2.fE ?l ?c ?k;(case l=>k_is);(case c=>k_is);(case k=>k_is))
  (case a16=>k_is)
  (case q16=>refine' L2.fE ?l ?c ?k;(case l=>k_is);(case c=>k_is);(case k=>k_is))
  (case a17=>k_is)
  (case q17=>refine' L2.fE ?l ?c ?k;(case l=>k_is);(case c=>k_is);(case k=>k_is))
  (case a18=>k_is)
  (case q18=>refine' L2.fE ?l ?c ?k;(case l=>k_is);(case c=>k_is);(case k=>k_is))
  (case a19=>k_is)
  (case q19=>refine' L2.fE ?l ?c ?k;(case l=>k_is);(case c=>k_is);(case k=>k_is))
  (case a20=>k_is)
  (case q20=>refine' L2.fE ?l ?c ?k;(case l=>k_is);(case c=>k_is);(case k=>k_is))
  (case a21=>k_is)
  (case q21=>refine' L2.fE ?l ?c ?k;(case l=>k_is);(case c=>k_is);(case k=>k_is))
  (case a22=>k_is)
  (case q22=>refine' L2.fE ?l ?c ?k;(case l=>k_is);(case c=>k_is);(case k=>k_is))
  (case z_all=>k_is)
  (case z_isinstance=>k_is)
  (case z_str=>k_is)
  (case z_len=>k_is)
  (case z_tuple=>k_is)
  (case z_sorted=>k_is)
  (case z_set=>k_is)
  (case z_range=>k_is)
  (case z_int=>k_is)
  (case z_enumerate=>k_is)
  (case z_bool=>k_is)
  (case z_ValueError=>k_is)
  (case e_KEPT_WORDS=>k_is)
  (case y_KEPT_WORDS=>k_is)
  (case t_KEPT_WORDS=>first |k_is |k_exc |rfl |decide +kernel)
  (case e_MOST_LETTERS=>k_is)
  (case t_MOST_LETTERS=>first |k_is |k_exc |rfl |decide +kernel)
  (case e_MOST_KEYS_ABOVE=>k_is)
  (case t_MOST_KEYS_ABOVE=>first |k_is |k_exc |rfl |decide +kernel)
  (case g_Words_parts=>k_is)
  (case g_Words_taken=>k_is)
  (case n_FoldError=>k_is)
  (case n_NoKey=>k_is)
  (case n_NoText=>k_is)
  (case t_q_NoText=>first |k_is |k_exc |rfl |decide +kernel)
  (case t_s0_NoText=>first |k_is |k_exc |rfl |decide +kernel)
  (case t_s1_NoText=>first |k_is |k_exc |rfl |decide +kernel)
  (case t_s2_NoText=>first |k_is |k_exc |rfl |decide +kernel)
  (case t_s3_NoText=>first |k_is |k_exc |rfl |decide +kernel)
  (case t_s4_NoText=>first |k_is |k_exc |rfl |decide +kernel)
  (case t_s5_NoText=>first |k_is |k_exc |rfl |decide +kernel)
  (case t_m_NoText_NoText=>first |k_is |k_exc |rfl |decide +kernel)
  (case t_o_FoldError_NoText=>first |k_is |k_exc |rfl |decide +kernel)
  (case t_o_ValueError_NoText=>first |k_is |k_exc |rfl |decide +kernel)
  (case t_o_NoKey_NoText=>first |k_is |k_exc |rfl |decide +kernel)
